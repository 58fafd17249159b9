import PyProof.Rows.All
import Wide.All
import OpenK.AllK
import Wide.FinOn
import Lean
import PyProof.EqAt
import PyProof.EqKinds
import PyProof.TupleCall
import PyProof.NeKinds
import KE.KRevSl
import KE.KRevIter
import PyProof.FactsAll.tuple
import PyProof.Rows.SortWalk
import PyProof.Rows.StrJoin2
import PyProof.StrBlockH
import PyProof.StrWalks
import PyProof.StrCalls2
import PyProof.ConsumeWalk
import KE.KIntText
import PyProof.Rows.SortStr
import PyProof.EnumStmt
import PyProof.WalksMore
import KE.KEqDict
import PyProof.DictWalks
import KE.KLam
import PyProof.Rows.SortShellK
import PyProof.AttrMissHeap
import KE.KDictOf
import PyProof.ZipIter
import PyProof.CollectWalk
import PyProof.ListNew
import KE.KSortTup
import PyProof.Rows.TupDisplay
import OpenK.KOwn
import PyProof.Rows.TopTwo
import PyProof.Rows.CatchOwn
import PyProof.RulesDel
import PyProof.RulesAs
import KE.KIsNot
import PyProof.ExcAttrAll.ValueError
import KE.KIsAll
import PyProof.StrReplace2
import PyProof.ReprStr
import PyProof.FString
import PyProof.StrLawsChain
import PyProof.SetRoads
import PyProof.StrLawsRepr
import PyProof.ReprHeads
import PyProof.ReprLen
import PyProof.FactsAll.bool
import KE.KNest
import PyProof.Rows.RuleM_int
import PyProof.Rows.CallKwBuiltin
import KE.KMinKey
import PySem.Challenge.RW_everywidth_k17_whole_machines_put_togeth
set_option Elab.async false
set_option linter.all false
set_option maxRecDepth 100000
def Qaa:=@List.length_map
def Qab:=@decide_eq_false
def Qac:=@List.length_append
def Qad:=@decide_eq_true
def Qae:=@List.getElem?_eq_some_iff
def Qaf:=@List.mem_cons_self
def Qag:=@List.mem_cons_of_mem
def Qah:=@Nat.le_refl
def Qai:=@List.getElem?_eq_getElem
def Qaj:=@List.mem_cons
def Qak:=@PySem.F.plainAttrs_list
def Qal:=@if_neg
def Qam:=@Bool.false_ne_true
def Qan:=@if_pos
def Qao:=@List.length_range
def Qap:=@List.getElem?_map
def Qaq:=@PySem.F.slot_list_append
def Qar:=@PySem.F.type_list_append
def Qas:=@List.getElem?_append_right
def Qat:=@List.getD_eq_getElem?_getD
def Qau:=@Nat.le_of_lt
def Qav:=@List.length_take
def Qaw:=@Int.emod_lt_of_pos
def Qax:=@List.mem_of_getElem?
def Qay:=@List.size_toArray
def Qaz:=@Int.toNat_natCast
def Qa0:=@List.not_mem_nil
def Qa1:=@List.getElem?_append_left
def Qa2:=@List.length_cons
def Qa3:=@List.append_nil
def Qa4:=@List.map_cons
def Qa5:=@List.mem_singleton
def Qa6:=@Int.emod_nonneg
def Qa7:=@PyProof.Rows.slot_tuple_getitem
def Qa8:=@List.mem_append_right
def Qa9:=@List.lookup_cons
def Qba:=@Nat.lt_of_lt_of_le
def Qbb:=@List.mem_map
def Qbc:=@List.length_drop
def Qbd:=@List.mem_append
def Qbe:=@Nat.le_trans
def Qbf:=@Bool.and_eq_true
def Qbg:=@Nat.zero_le
def Qbh:=@List.mem_map_of_mem
def Qbi:=@Int.ediv_one
def Qbj:=@List.map_append
def Qbk:=@Int.natCast_nonneg
def Qbl:=@List.take_of_length_le
def Qbm:=@Nat.ne_of_lt
def Qbn:=@List.length_replicate
def Qbo:=@Int.emod_add_mul_ediv
def Qbp:=@of_decide_eq_true
def Qbq:=@Int.pow_succ
def Qbr:=@PySem.mem_of_lookup
def Qbs:=@List.append_assoc
def Qbt:=@beq_eq_false_iff_ne
def Qbu:=@List.nodup_cons
def Qbv:=@List.length_reverse
def Qbw:=@List.map_map
def Qbx:=@List.flatten_append
def Qby:=@List.mem_range
def Qbz:=@List.take_length
def Qb0:=@beq_self_eq_true
def Qb1:=@Nat.lt_irrefl
def Qb2:=@Nat.mod_two_eq_zero_or_one
def Qb3:=@List.dropLast_concat
def Qb4:=@Bool.false_eq_true
def Qb5:=@PySem.F.plain_max_loop
def Qb6:=@Int.ediv_eq_zero_of_lt
def Qb7:=@PySem.W.kia_one
def Qb8:=@List.drop_eq_getElem_cons
def Qb9:=@Array.length_toList
def Qca:=@List.reverse_cons
def Qcb:=@Int.pow_zero
def Qcc:=@List.take_append_drop
def Qcd:=@PySem.F.slot_list_pop
def Qce:=@PySem.F.type_list_pop
def Qcf:=@PyProof.Rows.callWith_type1
def Qcg:=@or_false
def Qch:=@Int.mul_comm
def Qci:=@decide_eq_decide
def Qcj:=@Int.add_mul_emod_self_left
def Qck:=@Int.emod_eq_of_lt
def Qcl:=@List.all_cons
def Qcm:=@List.filter_cons
def Qcn:=@List.eq_nil_of_length_eq_zero
def Qco:=@Nat.succ_le_succ
def Qcp:=@List.mem_of_mem_drop
def Qcq:=@Int.ediv_ediv_of_nonneg
def Qcr:=@List.flatten_cons
def Qcs:=@List.find?_cons
def Qct:=@List.map_congr_left
def Qcu:=@Int.pow_pos
def Qcv:=@List.getElem?_range
def Qcw:=@Nat.ne_of_gt
def Qcx:=@Ne.symm
def Qcy:=@List.mem_append_left
def Qcz:=@List.mem_of_mem_take
def Qc0:=@List.length_nil
def Qc1:=@List.filterMap_cons
def Qc2:=@if_false
def Qc3:=@List.map_drop
def Qc4:=@List.getElem_mem
def Qc5:=@List.drop_zero
def Qc6:=@Option.map_eq_some_iff
def Qc7:=@List.filter_append
def Qc8:=@List.forIn_cons
def Qc9:=@List.length_filter_le
def Qda:=@List.idxOf_lt_length_of_mem
def Qdb:=@Nat.min_eq_left
def Qdc:=@Nat.not_lt_zero
def Qdd:=@Int.zero_add
def Qde:=@List.mem_iff_getElem?
def Qdf:=@List.map_take
def Qdg:=@Int.mul_assoc
def Qdh:=@List.cons_append
def Qdi:=@PySem.F.args_tuple_add_2
def Qdj:=@Int.ne_of_gt
def Qdk:=@Int.emod_one
def Qdl:=@Bool.eq_iff_iff
def Qdm:=@PySem.F.entry_tuple_add
def Qdn:=@Nat.lt_of_le_of_lt
def Qdo:=@PySem.F.slot_tuple_add
def Qdp:=@List.length_pos_of_mem
def Qdq:=@PySem.F.entry_max_loop
def Qdr:=@List.foldl_append
def Qds:=@List.forIn_nil
def Qdt:=@List.nodup_nil
def Qdu:=@List.map_nil
def Qdv:=@Nat.sub_self
def Qdw:=@Int.add_mul_ediv_left
def Qdx:=@List.getElem?_eq_none
def Qdy:=@if_true
def Qdz:=@List.all_eq_true
def Qd0:=@List.drop_length
def Qd1:=@List.flatten_nil
def Qd2:=@Nat.pow_le_pow_right
def Qd3:=@List.any_cons
def Qd4:=@List.mem_filter
def Qd5:=@List.of_mem_zip
def Qd6:=@Option.map_some
def Qd7:=@List.idxOf_cons
def Qd8:=@Int.mul_add
def Qd9:=@Int.toNat_of_nonneg
def Qea:=@List.mem_filterMap
def Qeb:=@List.getElem?_take
def Qec:=@Option.isSome_map
def Qed:=@List.pairwise_map
def Qee:=@List.nodup_append
def Qef:=@List.flatMap_cons
def Qeg:=@Nat.le_succ
def Qeh:=@List.getElem_zip
def Qei:=@List.length_zip
def Qej:=@List.foldl_cons
def Qek:=@Int.natCast_pow
def Qel:=@Nat.sub_zero
def Qem:=@List.range_succ
def Qen:=@Prod.ext
def Qeo:=@Nat.not_lt
def Qep:=@Int.le_refl
def Qeq:=@Int.one_mul
theorem Oe0a1 {P0 P1 G:Prop}(h:P0/\P1)(k:P0->P1->G):G:=k h.1 h.2
theorem Oe0a2 {P0 P1 P2 G:Prop}(h:P0/\P1/\P2)(k:P0->P1->P2->G):G:=k h.1 h.2.1 h.2.2
theorem Oe0a3 {P0 P1 P2 P3 G:Prop}(h:P0/\P1/\P2/\P3)(k:P0->P1->P2->P3->G):G:=k h.1 h.2.1 h.2.2.1 h.2.2.2
theorem Oe0a4 {P0 P1 P2 P3 P4 G:Prop}(h:P0/\P1/\P2/\P3/\P4)(k:P0->P1->P2->P3->P4->G):G:=k h.1 h.2.1 h.2.2.1 h.2.2.2.1 h.2.2.2.2
theorem Oe0a5 {P0 P1 P2 P3 P4 P5 G:Prop}(h:P0/\P1/\P2/\P3/\P4/\P5)(k:P0->P1->P2->P3->P4->P5->G):G:=k h.1 h.2.1 h.2.2.1 h.2.2.2.1 h.2.2.2.2.1 h.2.2.2.2.2
theorem Oe0a6 {P0 P1 P2 P3 P4 P5 P6 G:Prop}(h:P0/\P1/\P2/\P3/\P4/\P5/\P6)(k:P0->P1->P2->P3->P4->P5->P6->G):G:=k h.1 h.2.1 h.2.2.1 h.2.2.2.1 h.2.2.2.2.1 h.2.2.2.2.2.1 h.2.2.2.2.2.2
theorem Oe0a7 {P0 P1 P2 P3 P4 P5 P6 P7 G:Prop}(h:P0/\P1/\P2/\P3/\P4/\P5/\P6/\P7)(k:P0->P1->P2->P3->P4->P5->P6->P7->G):G:=k h.1 h.2.1 h.2.2.1 h.2.2.2.1 h.2.2.2.2.1 h.2.2.2.2.2.1 h.2.2.2.2.2.2.1 h.2.2.2.2.2.2.2
theorem Oe0a8 {P0 P1 P2 P3 P4 P5 P6 P7 P8 G:Prop}(h:P0/\P1/\P2/\P3/\P4/\P5/\P6/\P7/\P8)(k:P0->P1->P2->P3->P4->P5->P6->P7->P8->G):G:=k h.1 h.2.1 h.2.2.1 h.2.2.2.1 h.2.2.2.2.1 h.2.2.2.2.2.1 h.2.2.2.2.2.2.1 h.2.2.2.2.2.2.2.1 h.2.2.2.2.2.2.2.2
theorem Oe0a9 {P0 P1 P2 P3 P4 P5 P6 P7 P8 P9 G:Prop}(h:P0/\P1/\P2/\P3/\P4/\P5/\P6/\P7/\P8/\P9)(k:P0->P1->P2->P3->P4->P5->P6->P7->P8->P9->G):G:=k h.1 h.2.1 h.2.2.1 h.2.2.2.1 h.2.2.2.2.1 h.2.2.2.2.2.1 h.2.2.2.2.2.2.1 h.2.2.2.2.2.2.2.1 h.2.2.2.2.2.2.2.2.1 h.2.2.2.2.2.2.2.2.2
theorem Oe0a10 {P0 P1 P2 P3 P4 P5 P6 P7 P8 P9 P10 G:Prop}(h:P0/\P1/\P2/\P3/\P4/\P5/\P6/\P7/\P8/\P9/\P10)(k:P0->P1->P2->P3->P4->P5->P6->P7->P8->P9->P10->G):G:=k h.1 h.2.1 h.2.2.1 h.2.2.2.1 h.2.2.2.2.1 h.2.2.2.2.2.1 h.2.2.2.2.2.2.1 h.2.2.2.2.2.2.2.1 h.2.2.2.2.2.2.2.2.1 h.2.2.2.2.2.2.2.2.2.1 h.2.2.2.2.2.2.2.2.2.2
theorem Oe1a0 {a0:Sort _} {R:a0->Prop}{G:Prop}(h:∃x0,R x0)(k:∀x0,R x0->G):G:=h.elim fun x0 h=>k x0 h
theorem Oe2a0 {a0:Sort _} {a1:Sort _} {R:a0->a1->Prop}{G:Prop}(h:∃x0 x1,R x0 x1)(k:∀x0 x1,R x0 x1->G):G:=h.elim fun x0 h=>h.elim fun x1 h=>k x0 x1 h
theorem Oe3a0 {a0:Sort _} {a1:Sort _} {a2:Sort _} {R:a0->a1->a2->Prop}{G:Prop}(h:∃x0 x1 x2,R x0 x1 x2)(k:∀x0 x1 x2,R x0 x1 x2->G):G:=h.elim fun x0 h=>h.elim fun x1 h=>h.elim fun x2 h=>k x0 x1 x2 h
theorem Oe4a0 {a0:Sort _} {a1:Sort _} {a2:Sort _} {a3:Sort _} {R:a0->a1->a2->a3->Prop}{G:Prop}(h:∃x0 x1 x2 x3,R x0 x1 x2 x3)(k:∀x0 x1 x2 x3,R x0 x1 x2 x3->G):G:=h.elim fun x0 h=>h.elim fun x1 h=>h.elim fun x2 h=>h.elim fun x3 h=>k x0 x1 x2 x3 h
theorem Oe5a0 {a0:Sort _} {a1:Sort _} {a2:Sort _} {a3:Sort _} {a4:Sort _} {R:a0->a1->a2->a3->a4->Prop}{G:Prop}(h:∃x0 x1 x2 x3 x4,R x0 x1 x2 x3 x4)(k:∀x0 x1 x2 x3 x4,R x0 x1 x2 x3 x4->G):G:=h.elim fun x0 h=>h.elim fun x1 h=>h.elim fun x2 h=>h.elim fun x3 h=>h.elim fun x4 h=>k x0 x1 x2 x3 x4 h
theorem Oe6a0 {a0:Sort _} {a1:Sort _} {a2:Sort _} {a3:Sort _} {a4:Sort _} {a5:Sort _} {R:a0->a1->a2->a3->a4->a5->Prop}{G:Prop}(h:∃x0 x1 x2 x3 x4 x5,R x0 x1 x2 x3 x4 x5)(k:∀x0 x1 x2 x3 x4 x5,R x0 x1 x2 x3 x4 x5->G):G:=h.elim fun x0 h=>h.elim fun x1 h=>h.elim fun x2 h=>h.elim fun x3 h=>h.elim fun x4 h=>h.elim fun x5 h=>k x0 x1 x2 x3 x4 x5 h
theorem Oe9a0 {a0:Sort _} {a1:Sort _} {a2:Sort _} {a3:Sort _} {a4:Sort _} {a5:Sort _} {a6:Sort _} {a7:Sort _} {a8:Sort _} {R:a0->a1->a2->a3->a4->a5->a6->a7->a8->Prop}{G:Prop}(h:∃x0 x1 x2 x3 x4 x5 x6 x7 x8,R x0 x1 x2 x3 x4 x5 x6 x7 x8)(k:∀x0 x1 x2 x3 x4 x5 x6 x7 x8,R x0 x1 x2 x3 x4 x5 x6 x7 x8->G):G:=h.elim fun x0 h=>h.elim fun x1 h=>h.elim fun x2 h=>h.elim fun x3 h=>h.elim fun x4 h=>h.elim fun x5 h=>h.elim fun x6 h=>h.elim fun x7 h=>h.elim fun x8 h=>k x0 x1 x2 x3 x4 x5 x6 x7 x8 h
theorem Oe1a1 {a0:Sort _} {P0 P1:a0->Prop} {G:Prop}(h:∃x0,P0 x0/\P1 x0)(k:∀x0,P0 x0->P1 x0->G):G:=Oe1a0 h fun x0 r=>Oe0a1 r (k x0)
theorem Oe1a2 {a0:Sort _} {P0 P1 P2:a0->Prop} {G:Prop}(h:∃x0,P0 x0/\P1 x0/\P2 x0)(k:∀x0,P0 x0->P1 x0->P2 x0->G):G:=Oe1a0 h fun x0 r=>Oe0a2 r (k x0)
theorem Oe1a3 {a0:Sort _} {P0 P1 P2 P3:a0->Prop} {G:Prop}(h:∃x0,P0 x0/\P1 x0/\P2 x0/\P3 x0)(k:∀x0,P0 x0->P1 x0->P2 x0->P3 x0->G):G:=Oe1a0 h fun x0 r=>Oe0a3 r (k x0)
theorem Oe1a4 {a0:Sort _} {P0 P1 P2 P3 P4:a0->Prop} {G:Prop}(h:∃x0,P0 x0/\P1 x0/\P2 x0/\P3 x0/\P4 x0)(k:∀x0,P0 x0->P1 x0->P2 x0->P3 x0->P4 x0->G):G:=Oe1a0 h fun x0 r=>Oe0a4 r (k x0)
theorem Oe2a1 {a0:Sort _} {a1:Sort _} {P0 P1:a0->a1->Prop} {G:Prop}(h:∃x0 x1,P0 x0 x1/\P1 x0 x1)(k:∀x0 x1,P0 x0 x1->P1 x0 x1->G):G:=Oe2a0 h fun x0 x1 r=>Oe0a1 r (k x0 x1)
theorem Oe2a2 {a0:Sort _} {a1:Sort _} {P0 P1 P2:a0->a1->Prop} {G:Prop}(h:∃x0 x1,P0 x0 x1/\P1 x0 x1/\P2 x0 x1)(k:∀x0 x1,P0 x0 x1->P1 x0 x1->P2 x0 x1->G):G:=Oe2a0 h fun x0 x1 r=>Oe0a2 r (k x0 x1)
theorem Oe2a3 {a0:Sort _} {a1:Sort _} {P0 P1 P2 P3:a0->a1->Prop} {G:Prop}(h:∃x0 x1,P0 x0 x1/\P1 x0 x1/\P2 x0 x1/\P3 x0 x1)(k:∀x0 x1,P0 x0 x1->P1 x0 x1->P2 x0 x1->P3 x0 x1->G):G:=Oe2a0 h fun x0 x1 r=>Oe0a3 r (k x0 x1)
theorem Oe2a4 {a0:Sort _} {a1:Sort _} {P0 P1 P2 P3 P4:a0->a1->Prop} {G:Prop}(h:∃x0 x1,P0 x0 x1/\P1 x0 x1/\P2 x0 x1/\P3 x0 x1/\P4 x0 x1)(k:∀x0 x1,P0 x0 x1->P1 x0 x1->P2 x0 x1->P3 x0 x1->P4 x0 x1->G):G:=Oe2a0 h fun x0 x1 r=>Oe0a4 r (k x0 x1)
theorem Oe2a5 {a0:Sort _} {a1:Sort _} {P0 P1 P2 P3 P4 P5:a0->a1->Prop} {G:Prop}(h:∃x0 x1,P0 x0 x1/\P1 x0 x1/\P2 x0 x1/\P3 x0 x1/\P4 x0 x1/\P5 x0 x1)(k:∀x0 x1,P0 x0 x1->P1 x0 x1->P2 x0 x1->P3 x0 x1->P4 x0 x1->P5 x0 x1->G):G:=Oe2a0 h fun x0 x1 r=>Oe0a5 r (k x0 x1)
theorem Oe2a6 {a0:Sort _} {a1:Sort _} {P0 P1 P2 P3 P4 P5 P6:a0->a1->Prop} {G:Prop}(h:∃x0 x1,P0 x0 x1/\P1 x0 x1/\P2 x0 x1/\P3 x0 x1/\P4 x0 x1/\P5 x0 x1/\P6 x0 x1)(k:∀x0 x1,P0 x0 x1->P1 x0 x1->P2 x0 x1->P3 x0 x1->P4 x0 x1->P5 x0 x1->P6 x0 x1->G):G:=Oe2a0 h fun x0 x1 r=>Oe0a6 r (k x0 x1)
theorem Oe3a1 {a0:Sort _} {a1:Sort _} {a2:Sort _} {P0 P1:a0->a1->a2->Prop} {G:Prop}(h:∃x0 x1 x2,P0 x0 x1 x2/\P1 x0 x1 x2)(k:∀x0 x1 x2,P0 x0 x1 x2->P1 x0 x1 x2->G):G:=Oe3a0 h fun x0 x1 x2 r=>Oe0a1 r (k x0 x1 x2)
theorem Oe3a2 {a0:Sort _} {a1:Sort _} {a2:Sort _} {P0 P1 P2:a0->a1->a2->Prop} {G:Prop}(h:∃x0 x1 x2,P0 x0 x1 x2/\P1 x0 x1 x2/\P2 x0 x1 x2)(k:∀x0 x1 x2,P0 x0 x1 x2->P1 x0 x1 x2->P2 x0 x1 x2->G):G:=Oe3a0 h fun x0 x1 x2 r=>Oe0a2 r (k x0 x1 x2)
theorem Oe3a3 {a0:Sort _} {a1:Sort _} {a2:Sort _} {P0 P1 P2 P3:a0->a1->a2->Prop} {G:Prop}(h:∃x0 x1 x2,P0 x0 x1 x2/\P1 x0 x1 x2/\P2 x0 x1 x2/\P3 x0 x1 x2)(k:∀x0 x1 x2,P0 x0 x1 x2->P1 x0 x1 x2->P2 x0 x1 x2->P3 x0 x1 x2->G):G:=Oe3a0 h fun x0 x1 x2 r=>Oe0a3 r (k x0 x1 x2)
theorem Oe3a4 {a0:Sort _} {a1:Sort _} {a2:Sort _} {P0 P1 P2 P3 P4:a0->a1->a2->Prop} {G:Prop}(h:∃x0 x1 x2,P0 x0 x1 x2/\P1 x0 x1 x2/\P2 x0 x1 x2/\P3 x0 x1 x2/\P4 x0 x1 x2)(k:∀x0 x1 x2,P0 x0 x1 x2->P1 x0 x1 x2->P2 x0 x1 x2->P3 x0 x1 x2->P4 x0 x1 x2->G):G:=Oe3a0 h fun x0 x1 x2 r=>Oe0a4 r (k x0 x1 x2)
theorem Oe3a5 {a0:Sort _} {a1:Sort _} {a2:Sort _} {P0 P1 P2 P3 P4 P5:a0->a1->a2->Prop} {G:Prop}(h:∃x0 x1 x2,P0 x0 x1 x2/\P1 x0 x1 x2/\P2 x0 x1 x2/\P3 x0 x1 x2/\P4 x0 x1 x2/\P5 x0 x1 x2)(k:∀x0 x1 x2,P0 x0 x1 x2->P1 x0 x1 x2->P2 x0 x1 x2->P3 x0 x1 x2->P4 x0 x1 x2->P5 x0 x1 x2->G):G:=Oe3a0 h fun x0 x1 x2 r=>Oe0a5 r (k x0 x1 x2)
theorem Oe3a6 {a0:Sort _} {a1:Sort _} {a2:Sort _} {P0 P1 P2 P3 P4 P5 P6:a0->a1->a2->Prop} {G:Prop}(h:∃x0 x1 x2,P0 x0 x1 x2/\P1 x0 x1 x2/\P2 x0 x1 x2/\P3 x0 x1 x2/\P4 x0 x1 x2/\P5 x0 x1 x2/\P6 x0 x1 x2)(k:∀x0 x1 x2,P0 x0 x1 x2->P1 x0 x1 x2->P2 x0 x1 x2->P3 x0 x1 x2->P4 x0 x1 x2->P5 x0 x1 x2->P6 x0 x1 x2->G):G:=Oe3a0 h fun x0 x1 x2 r=>Oe0a6 r (k x0 x1 x2)
theorem Oe3a7 {a0:Sort _} {a1:Sort _} {a2:Sort _} {P0 P1 P2 P3 P4 P5 P6 P7:a0->a1->a2->Prop} {G:Prop}(h:∃x0 x1 x2,P0 x0 x1 x2/\P1 x0 x1 x2/\P2 x0 x1 x2/\P3 x0 x1 x2/\P4 x0 x1 x2/\P5 x0 x1 x2/\P6 x0 x1 x2/\P7 x0 x1 x2)(k:∀x0 x1 x2,P0 x0 x1 x2->P1 x0 x1 x2->P2 x0 x1 x2->P3 x0 x1 x2->P4 x0 x1 x2->P5 x0 x1 x2->P6 x0 x1 x2->P7 x0 x1 x2->G):G:=Oe3a0 h fun x0 x1 x2 r=>Oe0a7 r (k x0 x1 x2)
theorem Oe3a8 {a0:Sort _} {a1:Sort _} {a2:Sort _} {P0 P1 P2 P3 P4 P5 P6 P7 P8:a0->a1->a2->Prop} {G:Prop}(h:∃x0 x1 x2,P0 x0 x1 x2/\P1 x0 x1 x2/\P2 x0 x1 x2/\P3 x0 x1 x2/\P4 x0 x1 x2/\P5 x0 x1 x2/\P6 x0 x1 x2/\P7 x0 x1 x2/\P8 x0 x1 x2)(k:∀x0 x1 x2,P0 x0 x1 x2->P1 x0 x1 x2->P2 x0 x1 x2->P3 x0 x1 x2->P4 x0 x1 x2->P5 x0 x1 x2->P6 x0 x1 x2->P7 x0 x1 x2->P8 x0 x1 x2->G):G:=Oe3a0 h fun x0 x1 x2 r=>Oe0a8 r (k x0 x1 x2)
theorem Oe4a1 {a0:Sort _} {a1:Sort _} {a2:Sort _} {a3:Sort _} {P0 P1:a0->a1->a2->a3->Prop} {G:Prop}(h:∃x0 x1 x2 x3,P0 x0 x1 x2 x3/\P1 x0 x1 x2 x3)(k:∀x0 x1 x2 x3,P0 x0 x1 x2 x3->P1 x0 x1 x2 x3->G):G:=Oe4a0 h fun x0 x1 x2 x3 r=>Oe0a1 r (k x0 x1 x2 x3)
theorem Oe4a2 {a0:Sort _} {a1:Sort _} {a2:Sort _} {a3:Sort _} {P0 P1 P2:a0->a1->a2->a3->Prop} {G:Prop}(h:∃x0 x1 x2 x3,P0 x0 x1 x2 x3/\P1 x0 x1 x2 x3/\P2 x0 x1 x2 x3)(k:∀x0 x1 x2 x3,P0 x0 x1 x2 x3->P1 x0 x1 x2 x3->P2 x0 x1 x2 x3->G):G:=Oe4a0 h fun x0 x1 x2 x3 r=>Oe0a2 r (k x0 x1 x2 x3)
theorem Oe4a3 {a0:Sort _} {a1:Sort _} {a2:Sort _} {a3:Sort _} {P0 P1 P2 P3:a0->a1->a2->a3->Prop} {G:Prop}(h:∃x0 x1 x2 x3,P0 x0 x1 x2 x3/\P1 x0 x1 x2 x3/\P2 x0 x1 x2 x3/\P3 x0 x1 x2 x3)(k:∀x0 x1 x2 x3,P0 x0 x1 x2 x3->P1 x0 x1 x2 x3->P2 x0 x1 x2 x3->P3 x0 x1 x2 x3->G):G:=Oe4a0 h fun x0 x1 x2 x3 r=>Oe0a3 r (k x0 x1 x2 x3)
theorem Oe4a5 {a0:Sort _} {a1:Sort _} {a2:Sort _} {a3:Sort _} {P0 P1 P2 P3 P4 P5:a0->a1->a2->a3->Prop} {G:Prop}(h:∃x0 x1 x2 x3,P0 x0 x1 x2 x3/\P1 x0 x1 x2 x3/\P2 x0 x1 x2 x3/\P3 x0 x1 x2 x3/\P4 x0 x1 x2 x3/\P5 x0 x1 x2 x3)(k:∀x0 x1 x2 x3,P0 x0 x1 x2 x3->P1 x0 x1 x2 x3->P2 x0 x1 x2 x3->P3 x0 x1 x2 x3->P4 x0 x1 x2 x3->P5 x0 x1 x2 x3->G):G:=Oe4a0 h fun x0 x1 x2 x3 r=>Oe0a5 r (k x0 x1 x2 x3)
theorem Oe4a8 {a0:Sort _} {a1:Sort _} {a2:Sort _} {a3:Sort _} {P0 P1 P2 P3 P4 P5 P6 P7 P8:a0->a1->a2->a3->Prop} {G:Prop}(h:∃x0 x1 x2 x3,P0 x0 x1 x2 x3/\P1 x0 x1 x2 x3/\P2 x0 x1 x2 x3/\P3 x0 x1 x2 x3/\P4 x0 x1 x2 x3/\P5 x0 x1 x2 x3/\P6 x0 x1 x2 x3/\P7 x0 x1 x2 x3/\P8 x0 x1 x2 x3)(k:∀x0 x1 x2 x3,P0 x0 x1 x2 x3->P1 x0 x1 x2 x3->P2 x0 x1 x2 x3->P3 x0 x1 x2 x3->P4 x0 x1 x2 x3->P5 x0 x1 x2 x3->P6 x0 x1 x2 x3->P7 x0 x1 x2 x3->P8 x0 x1 x2 x3->G):G:=Oe4a0 h fun x0 x1 x2 x3 r=>Oe0a8 r (k x0 x1 x2 x3)
theorem Oe5a4 {a0:Sort _} {a1:Sort _} {a2:Sort _} {a3:Sort _} {a4:Sort _} {P0 P1 P2 P3 P4:a0->a1->a2->a3->a4->Prop} {G:Prop}(h:∃x0 x1 x2 x3 x4,P0 x0 x1 x2 x3 x4/\P1 x0 x1 x2 x3 x4/\P2 x0 x1 x2 x3 x4/\P3 x0 x1 x2 x3 x4/\P4 x0 x1 x2 x3 x4)(k:∀x0 x1 x2 x3 x4,P0 x0 x1 x2 x3 x4->P1 x0 x1 x2 x3 x4->P2 x0 x1 x2 x3 x4->P3 x0 x1 x2 x3 x4->P4 x0 x1 x2 x3 x4->G):G:=Oe5a0 h fun x0 x1 x2 x3 x4 r=>Oe0a4 r (k x0 x1 x2 x3 x4)
theorem Oe5a5 {a0:Sort _} {a1:Sort _} {a2:Sort _} {a3:Sort _} {a4:Sort _} {P0 P1 P2 P3 P4 P5:a0->a1->a2->a3->a4->Prop} {G:Prop}(h:∃x0 x1 x2 x3 x4,P0 x0 x1 x2 x3 x4/\P1 x0 x1 x2 x3 x4/\P2 x0 x1 x2 x3 x4/\P3 x0 x1 x2 x3 x4/\P4 x0 x1 x2 x3 x4/\P5 x0 x1 x2 x3 x4)(k:∀x0 x1 x2 x3 x4,P0 x0 x1 x2 x3 x4->P1 x0 x1 x2 x3 x4->P2 x0 x1 x2 x3 x4->P3 x0 x1 x2 x3 x4->P4 x0 x1 x2 x3 x4->P5 x0 x1 x2 x3 x4->G):G:=Oe5a0 h fun x0 x1 x2 x3 x4 r=>Oe0a5 r (k x0 x1 x2 x3 x4)
theorem Oe5a9 {a0:Sort _} {a1:Sort _} {a2:Sort _} {a3:Sort _} {a4:Sort _} {P0 P1 P2 P3 P4 P5 P6 P7 P8 P9:a0->a1->a2->a3->a4->Prop} {G:Prop}(h:∃x0 x1 x2 x3 x4,P0 x0 x1 x2 x3 x4/\P1 x0 x1 x2 x3 x4/\P2 x0 x1 x2 x3 x4/\P3 x0 x1 x2 x3 x4/\P4 x0 x1 x2 x3 x4/\P5 x0 x1 x2 x3 x4/\P6 x0 x1 x2 x3 x4/\P7 x0 x1 x2 x3 x4/\P8 x0 x1 x2 x3 x4/\P9 x0 x1 x2 x3 x4)(k:∀x0 x1 x2 x3 x4,P0 x0 x1 x2 x3 x4->P1 x0 x1 x2 x3 x4->P2 x0 x1 x2 x3 x4->P3 x0 x1 x2 x3 x4->P4 x0 x1 x2 x3 x4->P5 x0 x1 x2 x3 x4->P6 x0 x1 x2 x3 x4->P7 x0 x1 x2 x3 x4->P8 x0 x1 x2 x3 x4->P9 x0 x1 x2 x3 x4->G):G:=Oe5a0 h fun x0 x1 x2 x3 x4 r=>Oe0a9 r (k x0 x1 x2 x3 x4)
theorem Oe5a10 {a0:Sort _} {a1:Sort _} {a2:Sort _} {a3:Sort _} {a4:Sort _} {P0 P1 P2 P3 P4 P5 P6 P7 P8 P9 P10:a0->a1->a2->a3->a4->Prop} {G:Prop}(h:∃x0 x1 x2 x3 x4,P0 x0 x1 x2 x3 x4/\P1 x0 x1 x2 x3 x4/\P2 x0 x1 x2 x3 x4/\P3 x0 x1 x2 x3 x4/\P4 x0 x1 x2 x3 x4/\P5 x0 x1 x2 x3 x4/\P6 x0 x1 x2 x3 x4/\P7 x0 x1 x2 x3 x4/\P8 x0 x1 x2 x3 x4/\P9 x0 x1 x2 x3 x4/\P10 x0 x1 x2 x3 x4)(k:∀x0 x1 x2 x3 x4,P0 x0 x1 x2 x3 x4->P1 x0 x1 x2 x3 x4->P2 x0 x1 x2 x3 x4->P3 x0 x1 x2 x3 x4->P4 x0 x1 x2 x3 x4->P5 x0 x1 x2 x3 x4->P6 x0 x1 x2 x3 x4->P7 x0 x1 x2 x3 x4->P8 x0 x1 x2 x3 x4->P9 x0 x1 x2 x3 x4->P10 x0 x1 x2 x3 x4->G):G:=Oe5a0 h fun x0 x1 x2 x3 x4 r=>Oe0a10 r (k x0 x1 x2 x3 x4)
theorem Oe6a4 {a0:Sort _} {a1:Sort _} {a2:Sort _} {a3:Sort _} {a4:Sort _} {a5:Sort _} {P0 P1 P2 P3 P4:a0->a1->a2->a3->a4->a5->Prop} {G:Prop}(h:∃x0 x1 x2 x3 x4 x5,P0 x0 x1 x2 x3 x4 x5/\P1 x0 x1 x2 x3 x4 x5/\P2 x0 x1 x2 x3 x4 x5/\P3 x0 x1 x2 x3 x4 x5/\P4 x0 x1 x2 x3 x4 x5)(k:∀x0 x1 x2 x3 x4 x5,P0 x0 x1 x2 x3 x4 x5->P1 x0 x1 x2 x3 x4 x5->P2 x0 x1 x2 x3 x4 x5->P3 x0 x1 x2 x3 x4 x5->P4 x0 x1 x2 x3 x4 x5->G):G:=Oe6a0 h fun x0 x1 x2 x3 x4 x5 r=>Oe0a4 r (k x0 x1 x2 x3 x4 x5)
theorem Oe9a2 {a0:Sort _} {a1:Sort _} {a2:Sort _} {a3:Sort _} {a4:Sort _} {a5:Sort _} {a6:Sort _} {a7:Sort _} {a8:Sort _} {P0 P1 P2:a0->a1->a2->a3->a4->a5->a6->a7->a8->Prop} {G:Prop}(h:∃x0 x1 x2 x3 x4 x5 x6 x7 x8,P0 x0 x1 x2 x3 x4 x5 x6 x7 x8/\P1 x0 x1 x2 x3 x4 x5 x6 x7 x8/\P2 x0 x1 x2 x3 x4 x5 x6 x7 x8)(k:∀x0 x1 x2 x3 x4 x5 x6 x7 x8,P0 x0 x1 x2 x3 x4 x5 x6 x7 x8->P1 x0 x1 x2 x3 x4 x5 x6 x7 x8->P2 x0 x1 x2 x3 x4 x5 x6 x7 x8->G):G:=Oe9a0 h fun x0 x1 x2 x3 x4 x5 x6 x7 x8 r=>Oe0a2 r (k x0 x1 x2 x3 x4 x5 x6 x7 x8)
theorem Oe9a3 {a0:Sort _} {a1:Sort _} {a2:Sort _} {a3:Sort _} {a4:Sort _} {a5:Sort _} {a6:Sort _} {a7:Sort _} {a8:Sort _} {P0 P1 P2 P3:a0->a1->a2->a3->a4->a5->a6->a7->a8->Prop} {G:Prop}(h:∃x0 x1 x2 x3 x4 x5 x6 x7 x8,P0 x0 x1 x2 x3 x4 x5 x6 x7 x8/\P1 x0 x1 x2 x3 x4 x5 x6 x7 x8/\P2 x0 x1 x2 x3 x4 x5 x6 x7 x8/\P3 x0 x1 x2 x3 x4 x5 x6 x7 x8)(k:∀x0 x1 x2 x3 x4 x5 x6 x7 x8,P0 x0 x1 x2 x3 x4 x5 x6 x7 x8->P1 x0 x1 x2 x3 x4 x5 x6 x7 x8->P2 x0 x1 x2 x3 x4 x5 x6 x7 x8->P3 x0 x1 x2 x3 x4 x5 x6 x7 x8->G):G:=Oe9a0 h fun x0 x1 x2 x3 x4 x5 x6 x7 x8 r=>Oe0a3 r (k x0 x1 x2 x3 x4 x5 x6 x7 x8)
theorem Oe9a10 {a0:Sort _} {a1:Sort _} {a2:Sort _} {a3:Sort _} {a4:Sort _} {a5:Sort _} {a6:Sort _} {a7:Sort _} {a8:Sort _} {P0 P1 P2 P3 P4 P5 P6 P7 P8 P9 P10:a0->a1->a2->a3->a4->a5->a6->a7->a8->Prop} {G:Prop}(h:∃x0 x1 x2 x3 x4 x5 x6 x7 x8,P0 x0 x1 x2 x3 x4 x5 x6 x7 x8/\P1 x0 x1 x2 x3 x4 x5 x6 x7 x8/\P2 x0 x1 x2 x3 x4 x5 x6 x7 x8/\P3 x0 x1 x2 x3 x4 x5 x6 x7 x8/\P4 x0 x1 x2 x3 x4 x5 x6 x7 x8/\P5 x0 x1 x2 x3 x4 x5 x6 x7 x8/\P6 x0 x1 x2 x3 x4 x5 x6 x7 x8/\P7 x0 x1 x2 x3 x4 x5 x6 x7 x8/\P8 x0 x1 x2 x3 x4 x5 x6 x7 x8/\P9 x0 x1 x2 x3 x4 x5 x6 x7 x8/\P10 x0 x1 x2 x3 x4 x5 x6 x7 x8)(k:∀x0 x1 x2 x3 x4 x5 x6 x7 x8,P0 x0 x1 x2 x3 x4 x5 x6 x7 x8->P1 x0 x1 x2 x3 x4 x5 x6 x7 x8->P2 x0 x1 x2 x3 x4 x5 x6 x7 x8->P3 x0 x1 x2 x3 x4 x5 x6 x7 x8->P4 x0 x1 x2 x3 x4 x5 x6 x7 x8->P5 x0 x1 x2 x3 x4 x5 x6 x7 x8->P6 x0 x1 x2 x3 x4 x5 x6 x7 x8->P7 x0 x1 x2 x3 x4 x5 x6 x7 x8->P8 x0 x1 x2 x3 x4 x5 x6 x7 x8->P9 x0 x1 x2 x3 x4 x5 x6 x7 x8->P10 x0 x1 x2 x3 x4 x5 x6 x7 x8->G):G:=Oe9a0 h fun x0 x1 x2 x3 x4 x5 x6 x7 x8 r=>Oe0a10 r (k x0 x1 x2 x3 x4 x5 x6 x7 x8)
namespace L2
open PySem PySem.Spec PyProof.Rows
noncomputable abbrev Key:=Sum Int Str
noncomputable def GP:Key->Value->Bool
 | .inl k,v=>Value.isInt k v
 | .inr x,v=>Value.isStrOf x v
noncomputable def keyH(w:World):Key->Int
 | .inl k=>hashInt k
 | .inr x=>hashStr w x
theorem Yl:∀{k:Key} {v:Value},GP k v=true->(∃i t,k=Sum.inl i/\v=Value.int i t)\/(∃x t,k=Sum.inr x/\v=Value.str x t)
 | .inl i,v,h=>by
  obtain ⟨t,e⟩:=Value.isInt_shape (k:=i) (v:=v) h
  exact .inl ⟨i,t,rfl,e⟩
 | .inr x,v,h=>by
  obtain ⟨t,e⟩:=Value.isStrOf_shape (x:=x) (v:=v) h
  exact .inr ⟨x,t,rfl,e⟩
theorem vS(i:Int)(t:Tok):GP (.inl i) (.int i t)=true:=by simp [GP,Value.isInt]
theorem vT(x:Str)(t:Tok):GP (.inr x) (.str x t)=true:=by simp [GP,Value.isStrOf]
theorem key_ll(a b:Int):decide ((Sum.inl a:Key)=Sum.inl b)=(a == b):=by
 by_cases e:a=b
 ·subst e;simp
 ·have h:¬(Sum.inl a:Key)=Sum.inl b:=fun q=>e (Sum.inl.inj q)
  rw [Qab h]
  exact (Qbt.mpr e).symm
theorem key_rr(a b:Str):decide ((Sum.inr a:Key)=Sum.inr b)=decide (a=b):=by
 by_cases e:a=b
 ·subst e;simp
 ·have h:¬(Sum.inr a:Key)=Sum.inr b:=fun q=>e (Sum.inr.inj q)
  rw [Qab h,Qab e]
theorem key_lr(a:Int)(b:Str):decide ((Sum.inl a:Key)=Sum.inr b)=false:=Qab (fun q=>nomatch q)
theorem key_rl(a:Str)(b:Int):decide ((Sum.inr a:Key)=Sum.inl b)=false:=Qab (fun q=>nomatch q)
noncomputable def ZK(prog:Program)(w:World):PySem.KeyKind prog w Key where
 is:=GP
 hash:=keyH w
 inj:=fun v a b ha hb=>by
  rcases Yl ha with ⟨i,t,rfl,rfl⟩ | ⟨x,t,rfl,rfl⟩
  ·rcases Yl hb with ⟨j,u,rfl,e⟩ | ⟨y,u,rfl,e⟩
   ·injection e with e1 _;rw [e1]
   ·exact nomatch e
  ·rcases Yl hb with ⟨j,u,rfl,e⟩ | ⟨y,u,rfl,e⟩
   ·exact nomatch e
   ·injection e with e1 _;rw [e1]
 byValue:=fun k v h=>by
  rcases Yl h with ⟨i,t,rfl,rfl⟩ | ⟨x,t,rfl,rfl⟩ <;> rfl
 pyHash:=fun hv h=>by
  rcases Yl hv with ⟨i,t,rfl,rfl⟩ | ⟨x,t,rfl,rfl⟩
  ·exact wpAny_pyHash_int h
  ·exact wpAny_pyHash_str h
 eqBool:=fun hu hv h=>by
  rcases Yl hu with ⟨i,t,rfl,rfl⟩ | ⟨x,t,rfl,rfl⟩
  ·rcases Yl hv with ⟨j,u,rfl,rfl⟩ | ⟨y,u,rfl,rfl⟩
   ·rw [key_ll] at h;exact wpAny_eqBool_int h
   ·rw [key_lr] at h;exact SeqAt.EqAt.int_str i t y u _ _ _ _ h
  ·rcases Yl hv with ⟨j,u,rfl,rfl⟩ | ⟨y,u,rfl,rfl⟩
   ·rw [key_rl] at h;exact SeqAt.EqAt.str_int x t j u _ _ _ _ h
   ·rw [key_rr] at h;exact wpAny_eqBool_str h
 «strs»:=fun k x t v h=>by
  rcases Yl h with ⟨i,u,rfl,e⟩ | ⟨y,u,rfl,e⟩
  ·exact nomatch e
  ·injection e with e1 _
   subst e1
   cases v <;> rfl
theorem yR(prog:Program)(w:World)(k:Key)(v:Value):(ZK prog w).is k v=GP k v:=rfl
theorem jj(prog:Program)(w:World)(i:Int)(t:Tok):(ZK prog w).is (.inl i) (.int i t)=true:=vS i t
theorem Je(prog:Program)(w:World)(x:Str)(t:Tok):(ZK prog w).is (.inr x) (.str x t)=true:=vT x t
inductive V where
 | non | bl (b:Bool) | int (i:Int) | str (x:Str) | byt (b:Array UInt8) | flt (b:UInt64) | ref (a:Addr) | ty (n:String)
 deriving DecidableEq
noncomputable def RelV:V->Value->Prop
 | .non,u=>u=Value.none
 | .bl b,u=>u=Value.bool b
 | .int i,u=>∃t,u=Value.int i t
 | .str x,u=>∃t,u=Value.str x t
 | .byt b,u=>∃t,u=Value.bytes b t
 | .flt b,u=>∃t,u=Value.float b t
 | .ref a,u=>u=Value.ref a
 | .ty n,u=>u=Value.type n
noncomputable abbrev Vals:List V->List Value->Prop:=Paired RelV
theorem Vals.length{xs:List V}{us:List Value}(r:Vals xs us):xs.length=us.length:=Paired.length r
theorem Vals.get:∀{xs:List V} {us:List Value} {i:Nat} {x:V},Vals xs us->xs[i]?=some x->∃u,us[i]?=some u/\RelV x u
 | _,_,_,_,.nil,e=>by simp at e
 | _,_,0,_,.cons r _,e=>by simp at e;subst e;exact ⟨_,rfl,r⟩
 | _,_,i + 1,x,.cons _ t,e=>by
  refine Oe1a1 (Vals.get (i:=i) (x:=x) t (by simpa using e)) fun u h1 h2=>?_
  exact ⟨u,by simpa using h1,h2⟩
theorem Vals.append:∀{xs ys:List V} {us ws:List Value},Vals xs us->Vals ys ws->Vals (xs++ys) (us++ws)
 | _,_,_,_,.nil,s=>s
 | _,_,_,_,.cons r t,s=>.cons r (Vals.append t s)
theorem Vals.take:∀{xs:List V} {us:List Value} (n:Nat),Vals xs us->Vals (xs.take n) (us.take n)
 | _,_,0,_=>.nil
 | _,_,_ + 1,.nil=>.nil
 | _,_,n + 1,.cons r t=>.cons r (Vals.take n t)
theorem Vals.drop:∀{xs:List V} {us:List Value} (n:Nat),Vals xs us->Vals (xs.drop n) (us.drop n)
 | _,_,0,r=>r
 | _,_,_ + 1,.nil=>.nil
 | _,_,n + 1,.cons _ t=>Vals.drop n t
noncomputable def yS:Option V->Option Value->Prop
 | some v,some u=>RelV v u
 | none,none=>True
 | _,_=>False
noncomputable def KV{κ:Type}:List (κ × V)->List (κ × Value)->Prop:=Paired fun (p:κ × V) (q:κ × Value)=>p.1=q.1/\RelV p.2 q.2
noncomputable def kV:Key->V
 | .inl i=>.int i
 | .inr x=>.str x
inductive HO where
 /-- a list -/
 | lst (xs:List V)
 /-- a tuple (never changes) -/
 | tup (xs:List V)
 /-- a dict whose keys are ints and texts; one whose keys are tuples of ints and texts (the empty one is both) -/
 | dK (kvs:List (Key × V)) | dT (kvs:List (List Key × V))
 /-- a set of ints: its members, its size -/
 | set (S:Int->Bool) (n:Nat)
 /-- an instance of the class at C, its dict at dx, its attributes -/
 | ins (C dx:Addr) (fs:List (Str × V))
 /-- the dict of the instance at x -/
 | own (x:Addr)
 /-- the dict of an exception -/
 | xd (fs:List (Str × V))
 /-- a bound method, f of x -/
 | met (f x:Addr)
 /-- a range object lo, lo + 1, .. below hi -/
 | rng (lo hi:Int)
 /-- a thing that is known to the object (the script; a dict while a loop walks it): read, never written while it is so -/
 | frz (o:Obj) (u:HO)
 /-- a code object's table -/
 | tbl (ps:Array Value)
 /-- any other thing, by what is true of its one object (a def of one's own: SetO a S n := HO.ext fun h => ..) -/
 | ext (φ:Heap->Prop)
noncomputable abbrev Hp:=Addr->Option HO
noncomputable def upd(H:Hp)(a:Addr)(o:HO):Hp:=fun b=>if b=a then some o else H b
theorem Za{H:Hp}{a:Addr}{o:HO}:upd H a o a=some o:=by unfold upd;rw [Qan rfl]
theorem Zj{H:Hp}{a b:Addr}{o:HO}(h:b≠a):upd H a o b=H b:=by unfold upd;rw [Qal h]
theorem vU{H:Hp}{a:Addr}{o u:HO}:upd (upd H a o) a u=upd H a u:=by
 funext b;unfold upd;split <;> rfl
theorem YC{H:Hp}{a b:Addr}{o u:HO}(h:H a=some o)(h':H b=some u)(d:o≠u):a≠b:=by
 intro e;subst e;rw [h] at h';exact d (Option.some.inj h')
theorem Zo{H:Hp}{a b:Addr}{o:HO}(h:H a=some o)(h':H b=none):a≠b:=by
 intro e;subst e;rw [h] at h';cases h'
section
variable (P:Program)(w:World)
noncomputable def Yq(H:Hp)(h:Heap)(a:Addr):HO->Prop
 | .lst xs=>xs.length<=sizeLine/\∃(its:List Value) (n:Nat),Vals xs its/\h.get? a=some { cls:=.type "list",data:=.seq its.toArray n }
 | .tup xs=>xs.length<=sizeLine/\∃its:List Value,Vals xs its/\IsTup h a its.toArray
 | .dK kvs=>kvs.length<=sizeLine/\(a == sysModules)=false/\∃vs,KV kvs vs/\h.DictOf (ZK P w) a vs
 | .dT kvs=>kvs.length<=sizeLine/\(a == sysModules)=false/\∃xs:List (List Key × Addr × Value),
   Paired (fun (p:List Key × V) (q:List Key × Addr × Value)=>p.1=q.1/\H q.2.1=some (.tup (p.1.map kV))/\RelV p.2 q.2.2) kvs xs /\
   ∃o es ep,h.get? a=some o/\o.ExactDict/\o.data=.dict es ep/\es.toList=xs.map (entryOfKey (tupleKind (ZK P w)))/\(xs.map (·.1)).Nodup
 | .set S n=>h.SetOf (intKind P w) a S n
 | .ins C dx fs=>H dx=some (.own a)/\fs.length<=1000/\dx≠a/\h.get? a=some (PySem.W.instObj C dx) /\
   ∃mA,h.Ns1 dx mA/\(∀f,yS (fs.lookup f) (mA f))/\PySem.Within mA (fs.map (·.1))
 | .own _=>∃o,h.get? a=some o
 | .xd fs=>∃mA,h.Ns1 a mA/\∀f,yS (fs.lookup f) (mA f)
 | .rng lo hi=>∃t u v,h.get? a=some { cls:=.type "range",data:=.fields #[.int lo t,.int hi u,.int 1 v] }
 | .frz o u=>h.get? a=some o/\Yq H h a u
 | .tbl ps=>h.get? a=some { cls:=.none,data:=.fields ps }
 | .met f x=>h.get? a=some (PySem.W.methodObj (.ref f) (.ref x))
 | .ext φ=>φ h/\(∃o,h.get? a=some o)/\∀h1 h2:Heap,φ h1->(∀o,h1.get? a=some o->h2.get? a=some o)->φ h2
noncomputable def HOk(H:Hp)(h:Heap):Prop:=∀a o,H a=some o->Yq P w H h a o
end
section
variable {P:Program}{w:World}{H H':Hp}{h h':Heap}{a:Addr}{o:HO}
theorem Yq.lt(x:Yq P w H h a o):a < h.objs.size:=by
 cases o with
 | lst xs=>obtain ⟨_,_,_,_,e⟩:=x;exact Heap.lt_size e
 | tup xs=>obtain ⟨_,_,_,p⟩:=x;exact p.lt
 | dK kvs=>(refine Oe0a2 x fun _ _ zo1=>?_;refine Oe1a1 zo1 fun _ _ zo2=>?_;refine Oe3a1 zo2 fun o _ _ e _=>?_;clear zo2;clear zo1;clear x);exact Heap.lt_size e
 | dT kvs=>(refine Oe0a2 x fun _ _ zo3=>?_;refine Oe1a1 zo3 fun _ _ zo4=>?_;refine Oe3a1 zo4 fun o _ _ e _=>?_;clear zo4;clear zo3;clear x);exact Heap.lt_size e
 | set S n=>(refine Oe4a1 x fun o _ _ _ e _=>?_;clear x);exact Heap.lt_size e
 | ins C dx fs=>(refine Oe0a4 x fun _ _ _ e _=>?_;clear x);exact Heap.lt_size e
 | own y=>obtain ⟨_,e⟩:=x;exact Heap.lt_size e
 | xd fs=>(refine Oe1a1 x fun _ zo5 _=>?_;obtain ⟨_,_,_,e,_⟩:=zo5;clear x);exact Heap.lt_size e
 | rng lo hi=>(refine Oe3a0 x fun _ _ _ e=>?_;clear x);exact Heap.lt_size e
 | frz ob u=>obtain ⟨e,_⟩:=x;exact Heap.lt_size e
 | tbl ps=>exact Heap.lt_size (show h.get? a=some _ from x)
 | met f y=>exact Heap.lt_size (show h.get? a=some _ from x)
 | ext φ=>(refine Oe0a2 x fun _ zo6 _=>?_;obtain ⟨_,e⟩:=zo6;clear x);exact Heap.lt_size e
theorem Paired.mapP{α β:Type}{F G:α->β->Prop}:∀{l₁:List α} {l₂:List β},Paired F l₁ l₂->(∀a b,F a b->G a b)->Paired G l₁ l₂
 | _,_,.nil,_=>.nil
 | _,_,.cons r t,f=>.cons (f _ _ r) (Paired.mapP t f)
theorem Yq.stay(x:Yq P w H h a o)(k:∀b u,(b=a\/H b=some (.own a))->h.get? b=some u->h'.get? b=some u)
  (ho:∀b,H b=some (.own a)->H' b=some (.own a)) (ht:∀b xs,H b=some (.tup xs)->H' b=some (.tup xs)):Yq P w H' h' a o:=by
 induction o with
 | lst xs=>obtain ⟨z,its,n,r,e⟩:=x;exact ⟨z,its,n,r,k _ _ (.inl rfl) e⟩
 | tup xs=>obtain ⟨z,its,r,ob,e,c⟩:=x;exact ⟨z,its,r,ob,k _ _ (.inl rfl) e,c⟩
 | dK kvs=>(refine Oe0a2 x fun z y zo7=>?_;refine Oe1a1 zo7 fun vs r zo8=>?_;refine Oe3a1 zo8 fun ob es ep e c=>?_;clear zo8;clear zo7;clear x);exact ⟨z,y,vs,r,ob,es,ep,k _ _ (.inl rfl) e,c⟩
 | dT kvs =>
  (refine Oe0a2 x fun z y zo9=>?_;refine Oe1a1 zo9 fun xs r zo10=>?_;refine Oe3a1 zo10 fun ob es ep e c=>?_;clear zo10;clear zo9;clear x)
  exact ⟨z,y,xs,Paired.mapP r fun p q z=>⟨z.1,ht _ _ z.2.1,z.2.2⟩,ob,es,ep,k _ _ (.inl rfl) e,c⟩
 | set S n=>(refine Oe4a1 x fun ob es ep t e c=>?_;clear x);exact ⟨ob,es,ep,t,k _ _ (.inl rfl) e,c⟩
 | ins C dx fs =>
  (refine Oe0a4 x fun d z ne e zo11=>?_;refine Oe1a1 zo11 fun mA zo12 r=>?_;obtain ⟨od,es,ep,e2,c⟩:=zo12;clear zo11;clear x)
  exact ⟨ho _ d,z,ne,k _ _ (.inl rfl) e,mA,⟨od,es,ep,k _ _ (.inr d) e2,c⟩,r⟩
 | own y=>obtain ⟨ob,e⟩:=x;exact ⟨ob,k _ _ (.inl rfl) e⟩
 | xd fs=>(refine Oe1a1 x fun mA zo13 r=>?_;obtain ⟨od,es,ep,e,c⟩:=zo13;clear x);exact ⟨mA,⟨od,es,ep,k _ _ (.inl rfl) e,c⟩,r⟩
 | rng lo hi=>(refine Oe3a0 x fun t u v e=>?_;clear x);exact ⟨t,u,v,k _ _ (.inl rfl) e⟩
 | frz ob u ih=>obtain ⟨e,q⟩:=x;exact ⟨k _ _ (.inl rfl) e,ih q⟩
 | tbl ps =>
  have e:h.get? a=some { cls:=.none,data:=.fields ps }:=x
  show h'.get? a=some { cls:=.none,data:=.fields ps }
  exact k a _ (.inl rfl) e
 | met f y =>
  have e:h.get? a=some (PySem.W.methodObj (.ref f) (.ref y)):=x
  show h'.get? a=some (PySem.W.methodObj (.ref f) (.ref y))
  exact k a _ (.inl rfl) e
 | ext φ=>(refine Oe0a2 x fun p zo14 st=>?_;obtain ⟨o,e⟩:=zo14;clear x);exact ⟨st _ _ p fun o q=>k _ _ (.inl rfl) q,⟨o,k _ _ (.inl rfl) e⟩,st⟩
theorem HOk.lt(x:HOk P w H h)(e:H a=some o):a < h.objs.size:=(x a o e).lt
theorem HOk.fresh(x:HOk P w H h)(e:h.objs.size<=a):H a=none:=by
 cases q:H a with
 | none=>rfl
 | some u=>exact absurd (Qba (x.lt q) e) (Qb1 _)
theorem HOk.kept(x:HOk P w H h)(k:∀b u,h.get? b=some u->h'.get? b=some u):HOk P w H h':=fun a o e =>
 (x a o e).stay (fun b u _ q=>k b u q) (fun _ q=>q) fun _ _ q=>q
theorem HOk.laid(x:HOk P w H h)(k:∀b u,h.get? b=some u->h'.get? b=some u)(hp:h.objs.size<=a)(new:Yq P w (upd H a o) h' a o):HOk P w (upd H a o) h':=fun b u e=>by
 have hn:=x.fresh hp
 by_cases hb:b=a
 ·subst hb;rw [Za] at e;cases e;exact new
 ·rw [Zj hb] at e
  exact (x b u e).stay (fun c v _ q=>k c v q) (fun c q=>by rw [Zj (Zo q hn)];exact q) fun c xs q=>by rw [Zj (Zo q hn)];exact q
end
noncomputable def Rd(H:Hp)(a:Addr)(u:HO):Prop:=H a=some u\/∃o,H a=some (.frz o u)
theorem Rd.ok{P:Program}{w:World}{H:Hp}{h:Heap}{a:Addr}{u:HO}(r:Rd H a u)(x:HOk P w H h):Yq P w H h a u:=by
 rcases r with r | ⟨o,r⟩
 ·exact x a u r
 ·obtain ⟨_,q⟩:=x a _ r
  exact q
noncomputable def Mut:Option HO->Prop
 | some (.lst _)=>True
 | some (.dK _)=>True
 | some (.dT _)=>True
 | some (.set _ _)=>True
 | some (.ins _ _ _)=>True
 | some (.ext _)=>True
 | _=>False
section
variable {P:Program}{w:World}{H:Hp}{h h':Heap}{x e:Addr}{o':HO}
theorem HOk.write(ok:HOk P w H h)(mu:Mut (H x))(he:e=x\/H e=some (.own x))(k:∀b u,b≠e->h.get? b=some u->h'.get? b=some u)(heo:∃u,h'.get? e=some u)
  (new:Yq P w (upd H x o') h' x o'):HOk P w (upd H x o') h':=fun b u q=>by
 have nown:∀c y,H c=some (.own y)->c≠x:=fun c y r z=>by subst z;rw [r] at mu;exact mu
 have ntup:∀c xs,H c=some (.tup xs)->c≠x:=fun c xs r z=>by subst z;rw [r] at mu;exact mu
 by_cases hb:b=x
 ·subst hb;rw [Za] at q;cases q;exact new
 ·rw [Zj hb] at q
  by_cases hbe:b=e
  ·have q':H b=some (.own x):=by
    rcases he with z | z
    ·exact absurd (hbe.trans z) hb
    ·rw [hbe];exact z
   rw [q] at q';cases q'
   obtain ⟨v,hv⟩:=heo
   exact ⟨v,by rw [hbe];exact hv⟩
  ·refine (ok b u q).stay (fun c v hc r=>k c v ?_ r) (fun c r=>by rw [Zj (nown c b r)];exact r) fun c xs r=>by rw [Zj (ntup c xs r)];exact r
   rcases hc with rfl | hc
   ·exact hbe
   ·rintro rfl
    rcases he with z | z
    ·exact nown c b hc z
    ·rw [hc] at z;cases z;exact hb rfl
end
structure Un(fs ex:List Addr)(H H':Hp)(h h':Heap):Prop where
 keep:∀b o,h.get? b=some o->H b=none->b∉fs->b∉ex->h'.get? b=some o
 slot:∀b o,h.get? b=some o->H b=none->b∈fs->b∉ex->∃sl,h'.get? b=some { o with slots:=sl }
 free:∀b o,h.get? b=some o->H b=none->b∉ex->H' b=none
 there:∀b o,h.get? b=some o->b∉ex->∃o',h'.get? b=some o'
 tups:∀b xs,H b=some (.tup xs)->H' b=some (.tup xs)
 frzs:∀b o u,H b=some (.frz o u)->H' b=some (.frz o u)
 tbls:∀b ps,H b=some (.tbl ps)->∃more,H' b=some (.tbl (ps++more))
section
variable {fs fs' ex ex':List Addr}{H H1 H2:Hp}{h h1 h2 h':Heap}{a x e:Addr}{o:HO}
theorem Un.any(u:Un fs ex H H1 h h1){b:Addr}{ob:Obj}(q:h.get? b=some ob)(n:H b=none)(hx:b∉ex):∃sl,h1.get? b=some { ob with slots:=sl }:=by
 by_cases hb:b∈fs
 ·exact u.slot b ob q n hb hx
 ·exact ⟨ob.slots,u.keep b ob q n hb hx⟩
theorem Un.kept(k:∀b u,h.get? b=some u->h'.get? b=some u):Un fs ex H H h h' :=
 ⟨fun b ob q _ _ _=>k b ob q,fun b ob q _ _ _=>⟨ob.slots,k b ob q⟩,fun _ _ _ n _=>n,fun b ob q _=>⟨ob,k b ob q⟩,fun _ _ q=>q,fun _ _ _ q=>q,fun _ ps q=>⟨#[],by rw [q];simp⟩⟩
theorem Un.refl:Un fs ex H H h h:=Un.kept fun _ _ q=>q
theorem Un.laid(k:∀b u,h.get? b=some u->h'.get? b=some u)(hp:h.objs.size<=a)(hn:H a=none):Un fs ex H (upd H a o) h h' where
 keep:=fun b u q _ _ _=>k b u q
 slot:=fun b u q _ _ _=>⟨u.slots,k b u q⟩
 free:=fun b u q n _=>by rw [Zj (Qbm (Qba (Heap.lt_size q) hp))];exact n
 there:=fun b u q _=>⟨u,k b u q⟩
 tups:=fun b xs q=>by rw [Zj (Zo q hn)];exact q
 frzs:=fun b u xs q=>by rw [Zj (Zo q hn)];exact q
 tbls:=fun b ps q=>⟨#[],by rw [Zj (Zo q hn),q];simp⟩
theorem Un.write(mu:Mut (H x))(he:e=x\/H e=some (.own x))(k:∀b u,b≠e->h.get? b=some u->h'.get? b=some u)(heo:∃u,h'.get? e=some u):Un fs ex H (upd H x o) h h':=by
 have hx:∀b,H b=none->b≠x:=fun b n z=>by subst z;rw [n] at mu;exact mu
 have hb:∀b,H b=none->b≠e:=fun b n z=>by
  subst z
  rcases he with r | r
  ·exact hx b n r
  ·rw [n] at r;cases r
 have hm:∀b u,H b=some u->¬Mut (some u)->b≠x:=fun b u q nm z=>by subst z;rw [q] at mu;exact nm mu
 refine ⟨fun b u q n _ _=>k b u (hb b n) q,fun b u q n _ _=>⟨u.slots,k b u (hb b n) q⟩,fun b u q n _=>by rw [Zj (hx b n)];exact n,fun b u q _=>?_,
  fun b xs q=>by rw [Zj (hm b _ q fun z=>z)];exact q,fun b u xs q=>by rw [Zj (hm b _ q fun z=>z)];exact q,fun b ps q=>⟨#[],by rw [Zj (hm b _ q fun z=>z),q];simp⟩⟩
 by_cases hbe:b=e
 ·subst hbe;exact heo
 ·exact ⟨u,k b u hbe q⟩
end
noncomputable def trk(h:Heap)(H:Hp):List Addr:=(List.range h.objs.size).filter fun a=>(H a).isSome
noncomputable def vV(h:Heap)(H:Hp):Heap:=PySem.W.hideAll h (trk h H)
theorem vW(h:Heap)(H:Hp):(vV h H).objs.size=h.objs.size:=PySem.W.hideAll_size _ _
theorem uo{h:Heap}{H:Hp}{b:Addr}{o:Obj}(e:h.get? b=some o)(n:H b=none):(vV h H).get? b=some o :=
 PySem.W.hideAll_get _ e fun hm=>by
  have q:(H b).isSome=true:=(Qd4.mp hm).2
  rw [n] at q;simp at q
theorem Zcj{h:Heap}{H:Hp}{b:Addr}{o:Obj}(e:(vV h H).get? b=some o):h.get? b=some o/\H b=none:=by
 have e':h.get? b=some o:=PySem.W.of_hideAll (trk h H) e
 refine ⟨e',?_⟩
 cases q:H b with
 | none=>rfl
 | some x =>
  have hm:b∈trk h H:=Qd4.mpr ⟨Qby.mpr (Heap.lt_size e'),by simp [q]⟩
  have z:(vV h H).get? b=none:=PySem.W.hideAll_none (trk h H) hm
  rw [z] at e;cases e
structure Mod(K:PySem.W.Frag)(mg:Str->Option Value)(base:Heap):Prop where
 kin:K.In base
 glob:base.Ns mainGlobals mg
 blt:∃mb,base.Ns builtinsNs mb/\∀x:Str,x ≠ "__name__" -> mb x=bootBuiltins x
 nolimit:base.NoLimit
set_option genInjectivity false in
set_option genSizeOfSpec false in
structure Cx where
 prog:Program
 w:World
 K:PySem.W.Frag
 mg:Str->Option Value
 base:Heap
 A:Around
 N:List Str
 s₀:Shared
 H₀:Hp
 env:Env
 outer:List Env
 stack:List Env
 ex:List Addr
 fn:Str->Bool
 calm:Bool
 pn:List (Addr × Obj)
 xe:Value->Shared->Prop
noncomputable def frs(l:List Env):List Addr:=l.filterMap (·.frame)
noncomputable abbrev Cx.fs(X:Cx):List Addr:=frs X.outer
noncomputable def Vis(sc:Scope)(x:Str):Prop:=sc.names.lookup x=some .local\/sc.names.lookup x=some .cell\/sc.names.lookup x=some .free
noncomputable def Loc(sc:Scope)(x:Str):Prop:=sc.names.lookup x=some .local\/sc.names.lookup x=some .cell
noncomputable def Look(env:Env)(h:Heap)(m:Str->Option Value)(x:Str)(u:Value):Prop :=
 (env.kindOf x=some .local/\m x=some u)\/((env.kindOf x=some .cell\/env.kindOf x=some .free)/\∃c,env.cells.lookup x=some c/\h.IsCell c (some u))
set_option genInjectivity false in
set_option genSizeOfSpec false in
structure Cx.Ok(X:Cx):Prop where
 mod:Mod X.K X.mg X.base
 kind:X.env.scope.kind=.function
 glob:X.env.globals=mainGlobals
 blt:X.env.builtins=builtinsNs
 above:X.s₀.heap.objs.size<=X.env.locals
 inj:∀x y c,X.env.cells.lookup x=some c->X.env.cells.lookup y=some c->x=y
 has:∀x,(X.env.kindOf x=some .cell\/X.env.kindOf x=some .free)->∃c,X.env.cells.lookup x=some c
 cab:∀x c,X.fn x=true->X.env.cells.lookup x=some c->X.s₀.heap.objs.size<=c
 hd:X.calm=true->X.A.handled=none
 frames:X.A.frames=some X.stack
 stk:X.stack=X.outer\/(X.stack=X.env::X.outer/\X.env.frame=some X.env.locals)
 exf:∀b∈X.ex,b≠X.env.locals/\∀x c,X.env.cells.lookup x=some c->c≠b
 bs:∀b o,X.base.get? b=some o->X.s₀.heap.get? b=some o/\X.H₀ b=none
 bsz:X.base.objs.size<=X.s₀.heap.objs.size
 noex:∀b o,X.base.get? b=some o->b∉X.ex
 exfs:∀b∈X.ex,b∉X.fs
 funs:X.s₀.heap.FunFrames X.base X.outer
 frf:∀b∈X.fs,X.H₀ b=none
structure Inv(X:Cx)(pins:List (Addr × Obj))(σ:List (Option V))(H:Hp)(s:Shared):Prop where
 ok:X.Ok
 os:s.os=X.s₀.os
 bare:AllBare s.gens
 base:Un X.fs X.ex X.H₀ H X.s₀.heap s.heap
 loc:∃m,s.heap.Ns X.env.locals m/\∀(i:Nat) (x:Str) (v:V),X.N[i]?=some x->σ[i]?=some (some v)->Vis X.env.scope x->∃u,RelV v u/\Look X.env s.heap m x u
 cell:∀x c,X.env.cells.lookup x=some c->∃v,s.heap.IsCell c v
 free:H X.env.locals=none
 freeC:∀x c,X.env.cells.lookup x=some c->H c=none
 pin:∀p∈X.pn++pins,s.heap.get? p.1=some p.2/\H p.1=none/\p.1≠X.env.locals/\p.1∉X.fs/\∀v,p.2.data≠.cell v
 hok:HOk X.prog X.w H s.heap
 len:σ.length=X.N.length
section
variable {X:Cx}{pins:List (Addr × Obj)}{σ:List (Option V)}{H H':Hp}{s:Shared}{h':Heap}
theorem Cx.Ok.nofr(ok:X.Ok){b:Addr}{o:Obj}(e:X.base.get? b=some o):b∉X.fs:=fun hb=>by
 have:=(ok.funs.mem hb).1
 rw [e] at this;cases this
theorem Inv.bs(I:Inv X pins σ H s):∀b o,X.base.get? b=some o->s.heap.get? b=some o/\H b=none:=fun b o e =>
 ⟨I.base.keep b o (I.ok.bs b o e).1 (I.ok.bs b o e).2 (I.ok.nofr e) (I.ok.noex b o e),I.base.free b o (I.ok.bs b o e).1 (I.ok.bs b o e).2 (I.ok.noex b o e)⟩
theorem Inv.bk(I:Inv X pins σ H s):∀b o,X.base.get? b=some o->s.heap.get? b=some o:=fun b o e=>(I.bs b o e).1
theorem Inv.mod(I:Inv X pins σ H s):Mod X.K X.mg X.base:=I.ok.mod
theorem Inv.kIn(I:Inv X pins σ H s):X.K.In s.heap:=I.ok.mod.kin.keeps I.bk
theorem Inv.lt(I:Inv X pins σ H s):X.env.locals < s.heap.objs.size:=let ⟨_,hn,_⟩:=I.loc;hn.lt
theorem Inv.sz(I:Inv X pins σ H s):X.s₀.heap.objs.size<=s.heap.objs.size:=Qbe I.ok.above (Qau I.lt)
theorem Inv.nofs(I:Inv X pins σ H s){a:Addr}(h:s.heap.objs.size<=a):a∉X.fs:=fun hb=>by
 obtain ⟨_,o,ho,_⟩:=I.ok.funs.mem hb
 exact absurd (Qba (Heap.lt_size ho) (Qbe I.sz h)) (Qb1 _)
theorem Inv.cne(I:Inv X pins σ H s):∀x c,X.env.cells.lookup x=some c->c≠X.env.locals:=fun x c e z=>by
 refine Oe2a1 (I.cell x c e) fun v o ho hd=>?_
 (refine Oe1a1 I.loc fun m zo15 _=>?_;obtain ⟨o',es,ep,ho',hd',_⟩:=zo15)
 rw [z,ho'] at ho;cases ho;rw [hd'] at hd;cases hd
theorem Inv.funs(I:Inv X pins σ H s):s.heap.FunFrames X.base X.outer:=by
 have all:∀(l:List Env),(∀b∈frs l,b∈X.fs)->X.s₀.heap.FunFrames X.base l->s.heap.FunFrames X.base l:=by
  intro l
  induction l with
  | nil=>intro _ _;trivial
  | cons env r ih =>
   intro hs hl
   (refine Oe0a2 hl fun hk zo16 hr=>?_;obtain ⟨L,o,hf,hn,ho,hd⟩:=zo16;clear hl)
   have hL:L∈X.fs:=hs L (by unfold frs;rw [Qc1,hf];exact Qaf)
   obtain ⟨sl,e⟩:=I.base.slot L o ho (I.ok.frf L hL) hL fun z=>I.ok.exfs L z hL
   exact ⟨hk,⟨L,_,hf,hn,e,hd⟩,ih (fun b hb=>hs b (by unfold frs;rw [Qc1,hf];exact Qag _ hb)) hr⟩
 exact all X.outer (fun _ hb=>hb) I.ok.funs
theorem Inv.stack(I:Inv X pins σ H s):s.heap.FunFrames X.base X.stack:=by
 rcases I.ok.stk with e | ⟨e,hf⟩
 ·rw [e];exact I.funs
 ·rw [e]
  refine Oe1a1 I.loc fun m hn _=>?_
  refine .cons (by rw [I.ok.kind];decide) hf hn ?_ I.funs
  exact Heap.get?_none_of_le (Qbe I.ok.bsz I.ok.above)
theorem Inv.stkSub(I:Inv X pins σ H s):∀b∈frs X.stack,b∈X.env.locals::X.fs:=fun b hb=>by
 rcases I.ok.stk with e | ⟨e,hf⟩
 ·rw [e] at hb;exact Qag _ hb
 ·rw [e] at hb
  unfold frs at hb
  rw [Qc1,hf] at hb
  exact hb
theorem Inv.stkFree(I:Inv X pins σ H s):∀b∈frs X.stack,H b=none:=fun b hb=>by
 rcases Qaj.mp (I.stkSub b hb) with e | hb
 ·rw [e];exact I.free
 ·obtain ⟨_,o,ho,_⟩:=I.ok.funs.mem hb
  exact I.base.free b o ho (I.ok.frf b hb) fun z=>I.ok.exfs b z hb
theorem Inv.step{g':Array GenState}{t':Nat}{d':Drawn}{ch:List Addr}(I:Inv X pins σ H s)
  (hch:∀b∈ch,(b∈X.ex\/X.s₀.heap.objs.size<=b)/\b≠X.env.locals/\(∀x c,X.env.cells.lookup x=some c->c≠b)/\∀p∈X.pn++pins,p.1≠b)
  (keep:∀b o,b≠X.env.locals->b∉X.fs->b∉ch->s.heap.get? b=some o->H b=none->h'.get? b=some o)
  (slot:∀b o,b≠X.env.locals->b∈X.fs->b∉ch->s.heap.get? b=some o->H b=none->∃sl,h'.get? b=some { o with slots:=sl }) (free:∀b o,b∉ch->s.heap.get? b=some o->H b=none->H' b=none)
  (there:∀b o,b∉ch->s.heap.get? b=some o->∃o',h'.get? b=some o')
  (tups:∀b xs,H b=some (.tup xs)->H' b=some (.tup xs)) (frzs:∀b o u,H b=some (.frz o u)->H' b=some (.frz o u)) (tbls:∀b ps,H b=some (.tbl ps)->∃more,H' b=some (.tbl (ps++more)))
  (ns:∀m,s.heap.Ns X.env.locals m->h'.Ns X.env.locals m) (hok:HOk X.prog X.w H' h') (hg:AllBare g') :
  Inv X pins σ H' { s with heap:=h',gens:=g',drawn:=d',toks:=t' }:=by
 have neL:∀b o,X.s₀.heap.get? b=some o->b≠X.env.locals:=fun b o e=>Qbm (Qba (Heap.lt_size e) I.ok.above)
 have neC:∀b o,X.s₀.heap.get? b=some o->b∉X.ex->b∉ch:=fun b o e hx hb=>by
  rcases (hch b hb).1 with z | z
  ·exact hx z
  ·exact absurd (Qba (Heap.lt_size e) z) (Qb1 _)
 have cellK:∀x c,X.env.cells.lookup x=some c->∀v,s.heap.IsCell c v->h'.IsCell c v:=fun x c e v ⟨o,ho,hd⟩=>by
  have nch:c∉ch:=fun z=>(hch c z).2.2.1 x c e rfl
  by_cases hc:c∈X.fs
  ·obtain ⟨sl,q⟩:=slot c o (I.cne x c e) hc nch ho (I.freeC x c e)
   exact ⟨_,q,hd⟩
  ·exact ⟨o,keep c o (I.cne x c e) hc nch ho (I.freeC x c e),hd⟩
 refine ⟨I.ok,I.os,hg,⟨fun b o e n hb hx=>?_,fun b o e n hb hx=>?_,fun b o e n hx=>?_,fun b o e hx=>?_,fun b xs e=>tups b xs (I.base.tups b xs e),fun b o xs e=>frzs b o xs (I.base.frzs b o xs e),fun b ps e=>?_⟩,?_,fun x c e=>?_,?_,fun x c e=>?_,fun p hp=>?_,hok,I.len⟩
 ·exact keep b o (neL b o e) hb (neC b o e hx) (I.base.keep b o e n hb hx) (I.base.free b o e n hx)
 ·obtain ⟨sl,e1⟩:=I.base.slot b o e n hb hx
  obtain ⟨sl',e2⟩:=slot b _ (neL b o e) hb (neC b o e hx) e1 (I.base.free b o e n hx)
  exact ⟨sl',e2⟩
 ·obtain ⟨o',e1⟩:=I.base.there b o e hx
  exact free b o' (neC b o e hx) e1 (I.base.free b o e n hx)
 ·obtain ⟨o',e1⟩:=I.base.there b o e hx
  exact there b o' (neC b o e hx) e1
 ·obtain ⟨m1,e1⟩:=I.base.tbls b ps e
  obtain ⟨m2,e2⟩:=tbls b _ e1
  exact ⟨m1++m2,by rw [e2,Array.append_assoc]⟩
 ·refine Oe1a1 I.loc fun m hn hl=>?_
  refine ⟨m,ns m hn,fun i x v e1 e2 e3=>?_⟩
  refine Oe1a1 (hl i x v e1 e2 e3) fun u r l=>?_
  refine ⟨u,r,?_⟩
  rcases l with l | ⟨k,c,e,z⟩
  ·exact .inl l
  ·exact .inr ⟨k,c,e,cellK x c e _ z⟩
 ·obtain ⟨v,z⟩:=I.cell x c e
  exact ⟨v,cellK x c e v z⟩
 ·(refine Oe1a1 I.loc fun m zo17 _=>?_;obtain ⟨o,_,_,ho,_⟩:=zo17)
  exact free _ o (fun z=>(hch _ z).2.1 rfl) ho I.free
 ·refine Oe2a1 (I.cell x c e) fun v o ho hd=>?_
  exact free c o (fun z=>(hch c z).2.2.1 x c e rfl) ho (I.freeC x c e)
 ·refine Oe0a4 (I.pin p hp) fun e n ne nf d=>?_
  have nch:p.1∉ch:=fun z=>(hch p.1 z).2.2.2 p hp rfl
  exact ⟨keep p.1 p.2 ne nf nch e n,free p.1 p.2 nch e n,ne,nf,d⟩
theorem Inv.un{t':Nat}(I:Inv X pins σ H s)(u:Un X.fs [] H H' s.heap h')(hok:HOk X.prog X.w H' h'):Inv X pins σ H' { s with heap:=h',toks:=t' }:=by
 (refine Oe1a1 (id I.loc) fun m zo18 _=>?_;obtain ⟨o,es,ep,ho,r⟩:=zo18)
 obtain ⟨sl,hL⟩:=u.any ho I.free (by simp)
 exact I.step (g':=s.gens) (d':=s.drawn) (ch:=[]) (fun _ z=>nomatch z) (fun b o _ hb _ e n=>u.keep b o e n hb (by simp)) (fun b o _ hb _ e n=>u.slot b o e n hb (by simp)) (fun b o _ e n=>u.free b o e n (by simp)) (fun b o _ e=>u.there b o e (by simp)) u.tups u.frzs u.tbls (fun m' hm=>by
  (refine Oe3a1 hm fun o' es' ep' ho' r'=>?_;clear hm)
  rw [ho] at ho';cases ho'
  exact ⟨_,es',ep',hL,r'⟩) hok I.bare
theorem Inv.call{g':Array GenState}{t':Nat}{d':Drawn}{ch:List Addr}(I:Inv X pins σ H s)(u:Un (frs X.stack) ch H H' s.heap h')(hok:HOk X.prog X.w H' h')(hg:AllBare g')
  (hch:∀b∈ch,(b∈X.ex\/X.s₀.heap.objs.size<=b)/\b≠X.env.locals/\(∀x c,X.env.cells.lookup x=some c->c≠b)/\∀p∈X.pn++pins,p.1≠b) :
  Inv X pins σ H' { s with heap:=h',gens:=g',drawn:=d',toks:=t' }:=by
 (refine Oe1a1 (id I.loc) fun m zo19 _=>?_;obtain ⟨o,es,ep,ho,r⟩:=zo19)
 obtain ⟨sl,hL⟩:=u.any ho I.free fun z=>(hch _ z).2.1 rfl
 exact I.step (ch:=ch) hch (fun b o hL hb hc e n=>u.keep b o e n (fun z=>(Qaj.mp (I.stkSub b z)).elim hL hb) hc) (fun b o _ _ hc e n=>u.any e n hc) (fun b o hc e n=>u.free b o e n hc) (fun b o hc e=>u.there b o e hc) u.tups u.frzs u.tbls (fun m' hm=>by
  (refine Oe3a1 hm fun o' es' ep' ho' r'=>?_;clear hm)
  rw [ho] at ho';cases ho'
  exact ⟨_,es',ep',hL,r'⟩) hok hg
theorem Inv.turned{t':Nat}{it:Addr}(I:Inv X pins σ H s)(k:∀b o,b≠it->s.heap.get? b=some o->h'.get? b=some o)(hn:H it=none)(hL:it≠X.env.locals)
  (h1:it∈X.ex\/X.s₀.heap.objs.size<=it) (h2:∀x c,X.env.cells.lookup x=some c->c≠it) (h3:∀p∈X.pn++pins,p.1≠it):Inv X pins σ H { s with heap:=h',toks:=t' }:=by
 have nit:∀b u,H b=some u->b≠it:=fun b u e z=>by rw [z,hn] at e;cases e
 refine I.step (g':=s.gens) (d':=s.drawn) (ch:=[it]) (fun b hb=>?_) (fun b o _ _ hc e _=>k b o (fun z=>hc (by simp [z])) e) (fun b o _ _ hc e _=>⟨o.slots,k b o (fun z=>hc (by simp [z])) e⟩) (fun _ _ _ _ n=>n)
  (fun b o hc e=>⟨o,k b o (fun z=>hc (by simp [z])) e⟩) (fun _ _ e=>e) (fun _ _ _ e=>e) (fun b ps e=>⟨#[],by rw [e];simp⟩) (fun m hm=>?_) (fun b u e=>?_) I.bare
 ·have e:b=it:=by simpa using hb
  subst e
  exact ⟨h1,hL,h2,h3⟩
 ·(refine Oe3a1 hm fun o es ep ho r=>?_;clear hm)
  exact ⟨o,es,ep,k _ o (Qcx hL) ho,r⟩
 ·refine (I.hok b u e).stay (fun c v hc q=>k c v ?_ q) (fun _ q=>q) fun _ _ q=>q
  rcases hc with z | z
  ·rw [z];exact nit b u e
  ·exact nit c _ z
theorem Inv.tok(I:Inv X pins σ H s)(t:Nat):Inv X pins σ H { s with toks:=t }:=I.un (h':=s.heap) (t':=t) Un.refl I.hok
theorem Inv.kept{t':Nat}(I:Inv X pins σ H s)(k:∀b u,s.heap.get? b=some u->h'.get? b=some u):Inv X pins σ H { s with heap:=h',toks:=t' }:=I.un (Un.kept k) (I.hok.kept k)
theorem Inv.laid{a:Addr}{o:HO}{t':Nat}(I:Inv X pins σ H s)(k:∀b u,s.heap.get? b=some u->h'.get? b=some u)(hp:s.heap.objs.size<=a)(new:Yq X.prog X.w (upd H a o) h' a o) :
  Inv X pins σ (upd H a o) { s with heap:=h',toks:=t' }:=I.un (Un.laid k hp (I.hok.fresh hp)) (I.hok.laid k hp new)
theorem Inv.write{x e:Addr}{o:HO}{t':Nat}(I:Inv X pins σ H s)(mu:Mut (H x))(he:e=x\/H e=some (.own x))(k:∀b u,b≠e->s.heap.get? b=some u->h'.get? b=some u)(heo:∃u,h'.get? e=some u)
  (new:Yq X.prog X.w (upd H x o) h' x o):Inv X pins σ (upd H x o) { s with heap:=h',toks:=t' }:=I.un (Un.write mu he k heo) (I.hok.write mu he k heo new)
theorem Inv.pins_of{pins':List (Addr × Obj)}(I:Inv X pins σ H s)(h:∀p∈pins',s.heap.get? p.1=some p.2/\H p.1=none/\p.1≠X.env.locals/\p.1∉X.fs/\∀v,p.2.data≠.cell v):Inv X pins' σ H s :=
 ⟨I.ok,I.os,I.bare,I.base,I.loc,I.cell,I.free,I.freeC,fun p hp=>(Qbd.mp hp).elim (fun z=>I.pin p (Qcy _ z)) (h p),I.hok,I.len⟩
theorem yb{N:List Str}(hN:N.Nodup){i j:Nat}{x:Str}(a:N[i]?=some x)(b:N[j]?=some x):i=j:=by
 obtain ⟨h1,e1⟩:=Qae.mp a
 obtain ⟨h2,e2⟩:=Qae.mp b
 exact (List.getElem_inj hN).mp (e1.trans e2.symm)
theorem vX{M:Model}{A:Around}{E:Value->Shared->Prop}{i:Nat}{x:Str}{v:V}{u:Value}{Q:Unit->Shared->Prop}(I:Inv X pins σ H s)(hN:X.N.Nodup)(hi:X.N[i]?=some x)(hx:Loc X.env.scope x)(r:RelV v u)
  (h:∀s',Inv X pins (σ.set i (some v)) H s'->(∃a,Heap.SameBut a s.heap s'.heap/\(a=X.env.locals\/X.env.cells.lookup x=some a))->Q () s') (hf:X.fn x=true\/X.env.scope.names.lookup x=some .local:=by first | exact .inl rfl | exact .inr rfl | assumption):wpAny M A (storeName X.env x u) Q E s:=by
 refine Oe1a1 (id I.loc) fun m hn hl=>?_
 have hcls:(X.env.scope.kind == .class || (X.env.scope.kind == .module && X.env.locals != X.env.globals))=false:=by rw [I.ok.kind];rfl
 have hiσ:i < σ.length:=by rw [I.len];exact (Qae.mp hi).1
 have cne:=I.cne
 have tracked:∀{a:Addr} {h':Heap},(∃o,s.heap.get? a=some o/\H a=none)->Heap.SameBut a s.heap h'->HOk X.prog X.w H h':=fun {a h'} ha hs b ob e=>by
  (refine Oe1a1 ha fun _ _ hfree=>?_;clear ha)
  refine (I.hok b ob e).stay (fun c w' hc q=>(hs.2 c ?_).trans q) (fun _ q=>q) fun _ _ q=>q
  rintro rfl
  rcases hc with rfl | hc
  ·rw [hfree] at e;cases e
  ·rw [hfree] at hc;cases hc
 rcases hx with hk | hk
 ·refine wpAny_storeName_local hk hn (fun h' hn' hs=>?_) hcls
  refine Oe3a1 (id hn) fun oL _ _ hoL _=>?_
  refine h _ ⟨I.ok,I.os,I.bare,⟨fun b o e n hb hx=>?_,fun b o e n hb hx=>?_,I.base.free,fun b o e hx=>?_,I.base.tups,I.base.frzs,I.base.tbls⟩,⟨_,hn',fun j y v' e1 e2 e3=>?_⟩,fun y c e=>?_,I.free,I.freeC,fun p hp=>?_,tracked ⟨oL,hoL,I.free⟩ hs,by simpa using I.len⟩ ⟨_,hs,.inl rfl⟩
  ·exact (hs.2 b (Qbm (Qba (Heap.lt_size e) I.ok.above))).trans (I.base.keep b o e n hb hx)
  ·obtain ⟨sl,e1⟩:=I.base.slot b o e n hb hx
   exact ⟨sl,(hs.2 b (Qbm (Qba (Heap.lt_size e) I.ok.above))).trans e1⟩
  ·obtain ⟨o',e1⟩:=I.base.there b o e hx
   exact ⟨o',(hs.2 b (Qbm (Qba (Heap.lt_size e) I.ok.above))).trans e1⟩
  ·by_cases hj:j=i
   ·subst hj
    rw [hi] at e1;cases e1
    rw [List.getElem?_set_self hiσ] at e2
    cases e2
    exact ⟨u,r,.inl ⟨hk,by simp⟩⟩
   ·rw [List.getElem?_set_ne (Qcx hj)] at e2
    refine Oe1a1 (hl j y v' e1 e2 e3) fun u' r' q=>?_
    refine ⟨u',r',?_⟩
    rcases q with ⟨k,e⟩ | ⟨k,c,e,z⟩
    ·refine .inl ⟨k,?_⟩
     have:y≠x:=fun e=>hj (yb hN e1 (e ▸ hi))
     simp [this,e]
    ·exact .inr ⟨k,c,e,z.sameBut hs (cne y c e)⟩
  ·obtain ⟨w',z⟩:=I.cell y c e
   exact ⟨w',z.sameBut hs (cne y c e)⟩
  ·refine Oe0a4 (I.pin p hp) fun e n ne nf d=>?_
   exact ⟨(hs.2 p.1 ne).trans e,n,ne,nf,d⟩
 ·have hfn:X.fn x=true:=by
   rcases hf with z | z
   ·exact z
   ·rw [z] at hk;cases hk
  obtain ⟨c,hc⟩:=I.ok.has x (.inl hk)
  obtain ⟨w',z⟩:=I.cell x c hc
  refine wpAny_storeName_cell I.ok.kind hk hc z (fun h' hc' hs=>?_)
  refine Oe1a1 (id z) fun oc hoc hocd=>?_
  refine h { s with heap:=h' } ⟨I.ok,I.os,I.bare,⟨fun b o e n hb hx=>?_,fun b o e n hb hx=>?_,I.base.free,fun b o e hx=>?_,I.base.tups,I.base.frzs,I.base.tbls⟩,⟨m,hn.sameBut hs (Qcx (cne x c hc)),fun j y v' e1 e2 e3=>?_⟩,fun y c' e=>?_,I.free,I.freeC,fun p hp=>?_,tracked ⟨oc,hoc,I.freeC x c hc⟩ hs,by simpa using I.len⟩ ⟨c,hs,.inr hc⟩
  ·exact (hs.2 b (Qbm (Qba (Heap.lt_size e) (I.ok.cab x c hfn hc)))).trans (I.base.keep b o e n hb hx)
  ·obtain ⟨sl,e1⟩:=I.base.slot b o e n hb hx
   exact ⟨sl,(hs.2 b (Qbm (Qba (Heap.lt_size e) (I.ok.cab x c hfn hc)))).trans e1⟩
  ·obtain ⟨o',e1⟩:=I.base.there b o e hx
   exact ⟨o',(hs.2 b (Qbm (Qba (Heap.lt_size e) (I.ok.cab x c hfn hc)))).trans e1⟩
  ·by_cases hj:j=i
   ·subst hj
    rw [hi] at e1;cases e1
    rw [List.getElem?_set_self hiσ] at e2
    cases e2
    exact ⟨u,r,.inr ⟨.inl hk,c,hc,hc'⟩⟩
   ·rw [List.getElem?_set_ne (Qcx hj)] at e2
    refine Oe1a1 (hl j y v' e1 e2 e3) fun u' r' q=>?_
    refine ⟨u',r',?_⟩
    rcases q with q | ⟨k,c',e,z'⟩
    ·exact .inl q
    ·refine .inr ⟨k,c',e,z'.sameBut hs ?_⟩
     rintro rfl
     exact hj (yb hN e1 (I.ok.inj _ _ _ e hc ▸ hi))
  ·by_cases hcc:c'=c
   ·subst hcc;exact ⟨_,hc'⟩
   ·obtain ⟨w2,z2⟩:=I.cell y c' e
    exact ⟨w2,z2.sameBut hs hcc⟩
  ·refine Oe0a4 (I.pin p hp) fun e n ne nf d=>?_
   refine ⟨(hs.2 p.1 ?_).trans e,n,ne,nf,d⟩
   intro q
   rw [q,hoc] at e
   have q':oc=p.2:=Option.some.inj e
   exact d w' (by rw [<-q'];exact hocd)
theorem Jp{M:Model}{A:Around}{E:Value->Shared->Prop}{i:Nat}{x:Str}{v:V}{u:Value}{Q:Unit->Shared->Prop}(I:Inv X pins σ H s)(hN:X.N.Nodup)(hi:X.N[i]?=some x)(hx:Loc X.env.scope x)(r:RelV v u)
  (h:∀s',Inv X pins (σ.set i (some v)) H s'->Q () s') (hf:X.fn x=true\/X.env.scope.names.lookup x=some .local:=by first | exact .inl rfl | exact .inr rfl | assumption):wpAny M A (storeName X.env x u) Q E s :=
 vX I hN hi hx r (fun s' I' _=>h s' I') hf
theorem Inv.call'{s':Shared}{ch:List Addr}(I:Inv X pins σ H s)(ho:s'.os=s.os)(u:Un (frs X.stack) ch H H' s.heap s'.heap)(hok:HOk X.prog X.w H' s'.heap)(hg:AllBare s'.gens)
  (hch:∀b∈ch,(b∈X.ex\/X.s₀.heap.objs.size<=b)/\b≠X.env.locals/\(∀x c,X.env.cells.lookup x=some c->c≠b)/\∀p∈X.pn++pins,p.1≠b):Inv X pins σ H' s':=by
 obtain ⟨h',g',d',t',o'⟩:=s'
 have e:o'=s.os:=ho
 subst e
 exact I.call (g':=g') (t':=t') (d':=d') u hok hg hch
end
noncomputable abbrev XK:=Value->Option Addr->Hp->Prop
noncomputable abbrev St:=List (Option V)
noncomputable abbrev VK:=V->Hp->Prop
noncomputable abbrev TE:=St->Hp->VK->Prop
noncomputable abbrev TT:=St->Hp->(Bool->Hp->Prop)->Prop
noncomputable abbrev TA:=St->Hp->(List V->Hp->Prop)->Prop
structure Ends where
 nx:St->Hp->Prop
 rt:VK
 bk:St->Hp->Prop:=fun _ _=>False
 ct:St->Hp->Prop:=fun _ _=>False
noncomputable abbrev TS:=Ends->St->Hp->Prop
inductive EP_i(X:Cx)(pins:List (Addr × Obj))(σ:St)(Q:VK)(u:Value)(s':Shared):Prop
 | mk (v H'):(Inv X pins σ H' s')->(RelV v u)->(Q v H')->EP_i X pins σ Q u s'
noncomputable def EP(X:Cx)(pins:List (Addr × Obj))(σ:St)(Q:VK)(u:Value)(s':Shared):Prop:=EP_i X pins σ Q u s'
inductive TP_i(X:Cx)(pins:List (Addr × Obj))(σ:St)(Q:Bool->Hp->Prop)(b:Bool)(s':Shared):Prop
 | mk (H'):(Inv X pins σ H' s')->(Q b H')->TP_i X pins σ Q b s'
noncomputable def TP(X:Cx)(pins:List (Addr × Obj))(σ:St)(Q:Bool->Hp->Prop)(b:Bool)(s':Shared):Prop:=TP_i X pins σ Q b s'
inductive AP_i(X:Cx)(pins:List (Addr × Obj))(σ:St)(Q:List V->Hp->Prop)(us:List Value)(s':Shared):Prop
 | mk (vs H'):(Inv X pins σ H' s')->(Vals vs us)->(Q vs H')->AP_i X pins σ Q us s'
noncomputable def AP(X:Cx)(pins:List (Addr × Obj))(σ:St)(Q:List V->Hp->Prop)(us:List Value)(s':Shared):Prop:=AP_i X pins σ Q us s'
noncomputable def SP(X:Cx)(pins:List (Addr × Obj))(D:Ends)(f:Flow)(s':Shared):Prop :=
 match f with
 | .next=>∃σ' H',Inv X pins σ' H' s'/\D.nx σ' H'
 | .brk=>∃σ' H',Inv X pins σ' H' s'/\D.bk σ' H'
 | .cont=>∃σ' H',Inv X pins σ' H' s'/\D.ct σ' H'
 | .ret u=>∃v σ' H',Inv X pins σ' H' s'/\RelV v u/\D.rt v H'
noncomputable def PE(X:Cx)(e:Expr)(t:TE):Prop :=
 ∀(pins:List (Addr × Obj)) (s:Shared) (σ:St) (H:Hp) (Q:VK),Inv X pins σ H s->t σ H Q->wpAny (model X.prog X.w) X.A (eval e X.env) (EP X pins σ Q) X.xe s
noncomputable def PT(X:Cx)(e:Expr)(t:TT):Prop :=
 ∀(pins:List (Addr × Obj)) (s:Shared) (σ:St) (H:Hp) (Q:Bool->Hp->Prop),Inv X pins σ H s->t σ H Q->wpAny (model X.prog X.w) X.A (isTrue e X.env (eval e X.env)) (TP X pins σ Q) X.xe s
noncomputable def PW(X:Cx)(e:Expr)(t:TT):Prop :=
 ∀(whole:Sem Value) (pins:List (Addr × Obj)) (s:Shared) (σ:St) (H:Hp) (Q:Bool->Hp->Prop),Inv X pins σ H s->t σ H Q->wpAny (model X.prog X.w) X.A (isTrue e X.env whole) (TP X pins σ Q) X.xe s
theorem PW.pt{X:Cx}{e:Expr}{t:TT}(h:PW X e t):PT X e t:=h _
noncomputable def PA(X:Cx)(es:List Expr)(t:TA):Prop :=
 ∀(pos:Pos) (pins:List (Addr × Obj)) (s:Shared) (σ:St) (H:Hp) (Q:List V->Hp->Prop),Inv X pins σ H s->t σ H Q->wpAny (model X.prog X.w) X.A (spliced (backTo pos (starEach es X.env))) (AP X pins σ Q) X.xe s
noncomputable def PS(X:Cx)(st:Stmt)(t:TS):Prop :=
 ∀(pins:List (Addr × Obj)) (s:Shared) (σ:St) (H:Hp) (D:Ends),Inv X pins σ H s->t D σ H->wpAny (model X.prog X.w) X.A (exec st X.env) (SP X pins D) X.xe s
noncomputable def PSs(X:Cx)(st:List Stmt)(t:TS):Prop :=
 ∀(pins:List (Addr × Obj)) (s:Shared) (σ:St) (H:Hp) (D:Ends),Inv X pins σ H s->t D σ H->wpAny (model X.prog X.w) X.A (execs st X.env) (SP X pins D) X.xe s
theorem thn{α:Type}{t:Sem α}{Q Q':α->Shared->Prop}{M:Model}{A:Around}{E:Value->Shared->Prop}{s:Shared}(h:wpAny M A t Q E s)(hQ:∀a s,Q a s->Q' a s):wpAny M A t Q' E s:=wpAny_mono h hQ fun _ _ x=>x
section
variable {X:Cx}
inductive Za4(i:Nat)(σ:St)(H:Hp)(Q:VK):Prop
 | mk (v):(σ[i]?=some (some v))->(Q v H)->Za4 i σ H Q
noncomputable def JI(i:Nat):TE:=fun σ H Q=>Za4 i σ H Q
noncomputable def tC(v:V):TE:=fun _ H Q=>Q v H
theorem Za5 {i:Nat} {x:Str} {pos:Pos} (hN:X.N[i]?=some x) (hv:Vis X.env.scope x) (hd:(x == ("__debug__" : Str))=false:=by decide) (hcd:(x == ("__classdict__" : Str))=false:=by decide):PE X (.Name x pos) (JI i):=by
 intro pins s σ H Q I h
 obtain ⟨v,e,h⟩:=h
 refine Oe1a1 I.loc fun m hn hl=>?_
 refine Oe1a1 (hl i x v hN e hv) fun u r l=>?_
 have fin:EP X pins σ Q u s:=⟨v,H,I,r,h⟩
 rcases l with ⟨hk,hm⟩ | ⟨hk,c,hc,hcell⟩
 ·exact wpAny_Name (wpAny_loadName_local I.ok.kind hk hn hm fin) hd
 ·rcases hk with hk | hk
  ·exact wpAny_Name (wpAny_loadName_cell I.ok.kind hk hc hcell fin) hd
  ·exact wpAny_Name (wpAny_loadName_free I.ok.kind hk hc hcell fin hcd) hd
theorem pe_int{i j pos}:PE X (.Constant (.int i) j pos) (tC (.int i)):=fun _ _ _ H _ I h=>wpAny_Constant_int ⟨.int i,H,I.tok _,⟨_,rfl⟩,h⟩
theorem pe_bl{b j pos}:PE X (.Constant (.bool b) j pos) (tC (.bl b)):=fun _ _ _ H _ I h=>Constant_bool ⟨.bl b,H,I,rfl,h⟩
theorem pe_str{x j pos}:PE X (.Constant (.str x) j pos) (tC (.str x)):=fun _ _ _ H _ I h=>Calls.Constant_str ⟨.str x,H,I.tok _,⟨_,rfl⟩,h⟩
noncomputable def Gl(X:Cx)(x:Str):Prop:=X.env.kindOf x=some .globalImplicit
theorem jk{E:Value->Shared->Prop}{pins:List (Addr × Obj)}{s:Shared}{σ:St}{H:Hp}{x:Str}{u:Value}{pos:Pos}{Q:Value->Shared->Prop}(I:Inv X pins σ H s)(hg:Gl X x)(hm:X.mg x=some u)(h:Q u s)
  (hd:(x == ("__debug__" : Str))=false:=by decide):wpAny (model X.prog X.w) X.A (eval (.Name x pos) X.env) Q E s :=
 Calls.Name_function_global I.ok.kind hg (Calls.loadGlobal_global (by rw [I.ok.glob];exact I.mod.glob.keeps I.bk) hm h) hd
theorem Gb{E:Value->Shared->Prop}{pins:List (Addr × Obj)}{s:Shared}{σ:St}{H:Hp}{x:Str}{u:Value}{pos:Pos}{Q:Value->Shared->Prop}(I:Inv X pins σ H s)(hg:Gl X x)(hm:X.mg x=none)(hv:bootBuiltins x=some u)(h:Q u s)
  (hn:x ≠ "__name__" := by decide) (hd:(x == ("__debug__" : Str))=false:=by decide):wpAny (model X.prog X.w) X.A (eval (.Name x pos) X.env) Q E s:=by
 refine Oe1a1 I.mod.blt fun mb h1 h2=>?_
 exact Calls.Name_function_global I.ok.kind hg (Calls.loadGlobal_builtin (by rw [I.ok.glob];exact I.mod.glob.keeps I.bk) hm (by rw [I.ok.blt];exact h1.keeps I.bk) ((h2 x hn).trans hv) h) hd
theorem Zcl {x:Str} {v:V} {u:Value} {pos:Pos} (hg:Gl X x) (hm:X.mg x=some u) (r:RelV v u) (hd:(x == ("__debug__" : Str))=false:=by decide):PE X (.Name x pos) (tC v) :=
 fun _ _ _ H _ I h=>jk I hg hm ⟨v,H,I,r,h⟩ hd
theorem Zcm {x:Str} {v:V} {u:Value} {pos:Pos} (hg:Gl X x) (hm:X.mg x=none) (hv:bootBuiltins x=some u) (r:RelV v u) (hn:x ≠ "__name__" := by decide) (hd:(x == ("__debug__" : Str))=false:=by decide):PE X (.Name x pos) (tC v) :=
 fun _ _ _ H _ I h=>Gb I hg hm hv ⟨v,H,I,r,h⟩ hn hd
variable {a b:Expr}{ta tb:TE}{pos:Pos}
inductive tB_i(Q:Bool->Hp->Prop)(x:V)(H1:Hp):Prop
 | mk (c):(x=.bl c)->(Q c H1)->tB_i Q x H1
noncomputable def tB(t:TE):TT:=fun σ H Q=>t σ H fun x H1=>tB_i Q x H1
theorem pt_val{e:Expr}{t:TE}(h:PE X e t)(he:∀whole,isTrue e X.env whole=(do let v <-whole;standAt e.pos;holding [v] (truthy v)):=by intro _;rfl):PT X e (tB t):=by
 intro pins s σ H Q I hw
 refine isTrue_plain (thn (h pins s σ H _ I hw) fun v s1 zq9=>?_) (he _);obtain ⟨x,H1,I1,r1,q1⟩:=zq9
 obtain ⟨d,rfl,q⟩:=q1
 cases r1
 exact wpAny_truthy_bool ⟨H1,I1,q⟩
variable {tA tB':TT}{rest:List Expr}
noncomputable def tAnd(t u:TT):TT:=fun σ H Q=>t σ H fun c H1=>if c=true then u σ H1 Q else Q false H1
noncomputable def tOr(t u:TT):TT:=fun σ H Q=>t σ H fun c H1=>if c=true then Q true H1 else u σ H1 Q
theorem Zcn(ha:PT X a tA):PW X (.BoolOp .And [a] pos) tA:=by
 intro wh pins s σ H Q I h
 refine isTrue_and (thn (ha pins s σ H Q I h) fun c s1 e=>?_)
 cases c with
 | true=>exact isTrue_and_nil e
 | false=>exact e
theorem pw_or1(ha:PT X a tA):PW X (.BoolOp .Or [a] pos) tA:=by
 intro wh pins s σ H Q I h
 refine isTrue_or (thn (ha pins s σ H Q I h) fun c s1 e=>?_)
 cases c with
 | false=>exact isTrue_or_nil e
 | true=>exact e
theorem pw_and(ha:PT X a tA)(hb:PW X (.BoolOp .And (b::rest) pos) tB'):PW X (.BoolOp .And (a::b::rest) pos) (tAnd tA tB'):=by
 intro wh pins s σ H Q I h
 refine isTrue_and (thn (ha pins s σ H _ I h) fun c s1 ⟨H1,I1,q1⟩=>?_)
 cases c with
 | true=>exact hb wh pins s1 σ H1 Q I1 q1
 | false=>exact ⟨H1,I1,q1⟩
theorem pw_or(ha:PT X a tA)(hb:PW X (.BoolOp .Or (b::rest) pos) tB'):PW X (.BoolOp .Or (a::b::rest) pos) (tOr tA tB'):=by
 intro wh pins s σ H Q I h
 refine isTrue_or (thn (ha pins s σ H _ I h) fun c s1 ⟨H1,I1,q1⟩=>?_)
 cases c with
 | true=>exact ⟨H1,I1,q1⟩
 | false=>exact hb wh pins s1 σ H1 Q I1 q1
inductive vY(tb:TE)(σ:St)(Q:VK)(x:V)(H1:Hp):Prop
 | mk (c):(x=.bl c)->(if c=true then tb σ H1 Q else Q (.bl false) H1)->vY tb σ Q x H1
noncomputable def Ze1(ta tb:TE):TE:=fun σ H Q=>ta σ H fun x H1=>vY tb σ Q x H1
inductive Za6(tb:TE)(σ:St)(Q:VK)(x:V)(H1:Hp):Prop
 | mk (c):(x=.bl c)->(if c=true then Q (.bl true) H1 else tb σ H1 Q)->Za6 tb σ Q x H1
noncomputable def tOrV(ta tb:TE):TE:=fun σ H Q=>ta σ H fun x H1=>Za6 tb σ Q x H1
inductive vZ(Q:VK)(x:V)(H1:Hp):Prop
 | mk (c):(x=.bl c)->(Q (.bl (!c)) H1)->vZ Q x H1
noncomputable def Ze2(ta:TE):TE:=fun σ H Q=>ta σ H fun x H1=>vZ Q x H1
theorem pe_one{op}{t:TE}(h:PE X a t):PE X (.BoolOp op [a] pos) t:=fun pins s σ H Q I hw=>BoolOp_one (h pins s σ H Q I hw)
theorem pe_and(ha:PE X a ta)(hb:PE X (.BoolOp .And (b::rest) pos) tb):PE X (.BoolOp .And (a::b::rest) pos) (Ze1 ta tb):=by
 intro pins s σ H Q I h
 refine BoolOp_and (thn (ha pins s σ H _ I h) fun v s1 zq9=>?_);obtain ⟨x,H1,I1,r1,q1⟩:=zq9
 obtain ⟨c,rfl,q1⟩:=q1
 cases r1
 refine wpAny_truthy_bool ?_
 cases c with
 | true=>exact hb pins s1 σ H1 Q I1 q1
 | false=>exact ⟨.bl false,H1,I1,rfl,q1⟩
theorem pe_or(ha:PE X a ta)(hb:PE X (.BoolOp .Or (b::rest) pos) tb):PE X (.BoolOp .Or (a::b::rest) pos) (tOrV ta tb):=by
 intro pins s σ H Q I h
 refine BoolOp_or (thn (ha pins s σ H _ I h) fun v s1 zq9=>?_);obtain ⟨x,H1,I1,r1,q1⟩:=zq9
 obtain ⟨c,rfl,q1⟩:=q1
 cases r1
 refine wpAny_truthy_bool ?_
 cases c with
 | false=>exact hb pins s1 σ H1 Q I1 q1
 | true=>exact ⟨.bl true,H1,I1,rfl,q1⟩
theorem pe_not(ha:PE X a ta):PE X (.UnaryOp .Not a pos) (Ze2 ta):=by
 intro pins s σ H Q I h
 refine UnaryOp_ (thn (ha pins s σ H _ I h) fun v s1 zq9=>?_);obtain ⟨x,H1,I1,r1,q1⟩:=zq9
 obtain ⟨c,rfl,q1⟩:=q1
 cases r1
 exact not_of (wpAny_truthy_bool ⟨.bl (!c),H1,I1,rfl,q1⟩)
end
noncomputable def SqL(K:PySem.W.Frag)(H:Hp)(a:Addr)(xs:List V):Prop :=
 Rd H a (.lst xs) \/
  ∃(o:Obj) (its:Array Value) (n:Nat),K.lookup a=some o/\o.cls=.type "list" /\ o.dict=none/\o.data=.seq its n/\its.size<=sizeLine/\Vals xs its.toList
noncomputable def SqT(K:PySem.W.Frag)(H:Hp)(a:Addr)(xs:List V):Prop :=
 Rd H a (.tup xs) \/
  ∃(o:Obj) (its:Array Value) (n:Nat),K.lookup a=some o/\o.cls=.type "tuple" /\ o.data=.seq its n/\its.size<=sizeLine/\Vals xs its.toList
noncomputable def absV:Value->Option V
 | .none=>some .non
 | .bool b=>some (.bl b)
 | .int i _=>some (.int i)
 | .str x _=>some (.str x)
 | .bytes b _=>some (.byt b)
 | .float b _=>some (.flt b)
 | .ref a=>some (.ref a)
 | .type n=>some (.ty n)
 | _=>none
theorem RelV.abs{x:V}{u:Value}(r:RelV x u):absV u=some x:=by
 cases x with
 | non=>cases r;rfl
 | bl _=>cases r;rfl
 | int _=>obtain ⟨t,rfl⟩:=r;rfl
 | str _=>obtain ⟨t,rfl⟩:=r;rfl
 | byt _=>obtain ⟨t,rfl⟩:=r;rfl
 | flt _=>obtain ⟨t,rfl⟩:=r;rfl
 | ref _=>cases r;rfl
 | ty _=>cases r;rfl
theorem RelV.inj{x y:V}{u:Value}(r:RelV x u)(q:RelV y u):x=y:=Option.some.inj (r.abs.symm.trans q.abs)
theorem Vals.inj:∀{xs ys:List V} {us:List Value},Vals xs us->Vals ys us->xs=ys
 | _,_,_,.nil,.nil=>rfl
 | _,_,_,.cons r t,.cons r' t'=>by rw [r.inj r',Vals.inj t t']
section
variable {X:Cx}{pins:List (Addr × Obj)}{σ:St}{H:Hp}{s:Shared}{a:Addr}{xs ys:List V}
theorem SqL.of{K:PySem.W.Frag}(h:H a=some (.lst xs)):SqL K H a xs:=.inl (.inl h)
theorem SqT.of{K:PySem.W.Frag}(h:H a=some (.tup xs)):SqT K H a xs:=.inl (.inl h)
theorem Inv.list(I:Inv X pins σ H s)(h:SqL X.K H a xs):∃its:List Value,Vals xs its/\PlainL s.heap a its.toArray/\xs.length<=sizeLine:=by
 rcases h with h | ⟨o,its,n,hk,hc,hd,hs,hz,r⟩
 ·obtain ⟨z,its,n,r,e⟩:=h.ok I.hok
  exact ⟨its,r,⟨_,n,e,rfl,rfl,rfl⟩,z⟩
 ·refine ⟨its.toList,r,⟨o,n,I.kIn a o hk,hc,hd,by simpa using hs⟩,?_⟩
  have e:=r.length
  simp only [Qb9] at e
  lia
theorem Inv.tuple(I:Inv X pins σ H s)(h:SqT X.K H a xs):∃its:List Value,Vals xs its/\IsTup s.heap a its.toArray/\xs.length<=sizeLine:=by
 rcases h with h | ⟨o,its,n,hk,hc,hs,hz,r⟩
 ·obtain ⟨z,its,r,p⟩:=h.ok I.hok
  exact ⟨its,r,p,z⟩
 ·refine ⟨its.toList,r,⟨o,I.kIn a o hk,hc,n,by simpa using hs⟩,?_⟩
  have e:=r.length
  simp only [Qb9] at e
  lia
theorem Inv.list_inj(I:Inv X pins σ H s)(h:SqL X.K H a xs)(h':SqL X.K H a ys):xs=ys:=by
 (refine Oe1a2 (I.list h) fun its r zo20 _=>?_;obtain ⟨o,n,e,_,_,d⟩:=zo20)
 (refine Oe1a2 (I.list h') fun its' r' zo21 _=>?_;obtain ⟨o',n',e',_,_,d'⟩:=zo21)
 rw [e] at e';cases e'
 rw [d] at d'
 injection d' with d1 _
 have:its=its':=by simpa using congrArg Array.toList d1
 subst this
 exact r.inj r'
theorem Inv.tuple_inj(I:Inv X pins σ H s)(h:SqT X.K H a xs)(h':SqT X.K H a ys):xs=ys:=by
 (refine Oe1a2 (I.tuple h) fun its r zo22 _=>?_;obtain ⟨o,e,_,n,d⟩:=zo22)
 (refine Oe1a2 (I.tuple h') fun its' r' zo23 _=>?_;obtain ⟨o',e',_,n',d'⟩:=zo23)
 rw [e] at e';cases e'
 rw [d] at d'
 injection d' with d1 _
 have:its=its':=by simpa using congrArg Array.toList d1
 subst this
 exact r.inj r'
end
noncomputable abbrev Cx.wish(X:Cx)(E:Value->Shared->Prop):Cx:={ X with xe:=E }
noncomputable abbrev Cx.nox(X:Cx):Cx:=X.wish fun _ _=>False
theorem Cx.Ok.wish{X:Cx}(ok:X.Ok)(E:Value->Shared->Prop):(X.wish E).Ok :=
 ⟨ok.mod,ok.kind,ok.glob,ok.blt,ok.above,ok.inj,ok.has,ok.cab,ok.hd,ok.frames,ok.stk,ok.exf,ok.bs,ok.bsz,ok.noex,ok.exfs,ok.funs,ok.frf⟩
theorem Cx.Ok.unwish{X:Cx}{E:Value->Shared->Prop}(ok:(X.wish E).Ok):X.Ok :=
 ⟨ok.mod,ok.kind,ok.glob,ok.blt,ok.above,ok.inj,ok.has,ok.cab,ok.hd,ok.frames,ok.stk,ok.exf,ok.bs,ok.bsz,ok.noex,ok.exfs,ok.funs,ok.frf⟩
section
variable {X:Cx}{pins:List (Addr × Obj)}{σ:St}{H:Hp}{s:Shared}{E:Value->Shared->Prop}
theorem Inv.wish(I:Inv X pins σ H s)(E:Value->Shared->Prop):Inv (X.wish E) pins σ H s:=⟨I.ok.wish E,I.os,I.bare,I.base,I.loc,I.cell,I.free,I.freeC,I.pin,I.hok,I.len⟩
theorem Inv.unwish(I:Inv (X.wish E) pins σ H s):Inv X pins σ H s:=⟨I.ok.unwish,I.os,I.bare,I.base,I.loc,I.cell,I.free,I.freeC,I.pin,I.hok,I.len⟩
theorem SP.unwish{D:Ends}{f:Flow}{s':Shared}(h:SP (X.wish E) pins D f s'):SP X pins D f s':=by
 cases f with
 | next=>(refine Oe2a1 h fun σ' H' I q=>?_;clear h);exact ⟨σ',H',I.unwish,q⟩
 | brk=>(refine Oe2a1 h fun σ' H' I q=>?_;clear h);exact ⟨σ',H',I.unwish,q⟩
 | cont=>(refine Oe2a1 h fun σ' H' I q=>?_;clear h);exact ⟨σ',H',I.unwish,q⟩
 | ret u=>(refine Oe3a2 h fun v σ' H' I r q=>?_;clear h);exact ⟨v,σ',H',I.unwish,r,q⟩
theorem PSs.nox{st:List Stmt}{t:TS}(h:PSs X.nox st t):PSs X st t:=fun pins s σ H D I hw =>
 wpAny_mono (h pins s σ H D (I.wish _) hw) (fun _ _ q=>q.unwish) fun _ _ z=>False.elim z
end
section
variable {X:Cx}{st:Stmt}{rest:List Stmt}{t u:TS}{e:Expr}{te:TE}{pos:Pos}
noncomputable def Zco:TS:=fun D σ H=>D.nx σ H
noncomputable def Yi(t u:TS):TS:=fun D σ H=>t { D with nx:=u D } σ H
theorem Zcp:PSs X [] Zco:=fun _ _ σ H _ I h=>wpAny_execs_nil ⟨σ,H,I,h⟩
theorem uq(h1:PS X st t)(h2:PSs X rest u):PSs X (st::rest) (Yi t u):=by
 intro pins s σ H D I h
 refine wpAny_execs_cons (thn (h1 pins s σ H { D with nx:=u D } I h) fun f s1 q=>?_)
 cases f with
 | next =>
  (have zob:=q;clear q;refine Oe2a1 zob fun σ' H' I' q=>?_;clear zob)
  exact h2 pins s1 σ' H' D I' q
 | ret v=>exact q
 | brk=>exact q
 | cont=>exact q
theorem Zcq(h1:PS X st t):PSs X [st] t:=by
 intro pins s σ H D I h
 refine wpAny_execs_cons (thn (h1 pins s σ H D I h) fun f s1 q=>?_)
 cases f with
 | next=>exact wpAny_execs_nil q
 | ret v=>exact q
 | brk=>exact q
 | cont=>exact q
theorem Inv.quiet{pins:List (Addr × Obj)}{σ:St}{H:Hp}{s:Shared}(I:Inv X pins σ H s):interactive X.env=false:=by simp [interactive,I.ok.kind]
noncomputable def Zcr(te:TE):TS:=fun D σ H=>te σ H fun _ H1=>D.nx σ H1
theorem Zcs(he:PE X e te)(hs:swapsWith e none pos.line X.env=pure false:=by rfl):PS X (.Expr e pos) (Zcr te):=by
 intro pins s σ H D I h
 exact wpAny_Expr_any (thn (he pins s σ H _ I h) fun v s1 ⟨x,H1,I1,r1,q1⟩=>⟨σ,H1,I1,q1⟩) I.quiet hs
noncomputable def tRet(te:TE):TS:=fun D σ H=>te σ H D.rt
theorem ps_ret(he:PE X e te):PS X (.Return (some e) pos) (tRet te):=by
 intro pins s σ H D I h
 exact wpAny_Return_some (thn (he pins s σ H _ I h) fun v s1 ⟨x,H1,I1,r1,q1⟩=>⟨x,σ,H1,I1,r1,q1⟩)
noncomputable def Zct(c:TT)(t u:TS):TS:=fun D σ H=>c σ H fun b H1=>if b=true then t D σ H1 else u D σ H1
theorem ps_if{c:Expr}{a b:List Stmt}{tc:TT}(hc:PT X c tc)(ha:PSs X a t)(hb:PSs X b u):PS X (.If c a b pos) (Zct tc t u):=by
 intro pins s σ H D I h
 refine wpAny_If (thn (hc pins s σ H _ I h) fun d s1 ⟨H1,I1,q1⟩=>?_)
 cases d with
 | true=>exact ha pins s1 σ H1 D I1 q1
 | false=>exact hb pins s1 σ H1 D I1 q1
end
noncomputable abbrev TG:=V->St->Hp->(St->Hp->Prop)->Prop
noncomputable abbrev TGs:=List V->St->Hp->(St->Hp->Prop)->Prop
noncomputable def PG(X:Cx)(target:Expr)(t:TG):Prop :=
 ∀(pins:List (Addr × Obj)) (s:Shared) (σ:St) (H:Hp) (v:V) (u:Value) (Q:St->Hp->Prop),Inv X pins σ H s->RelV v u->t v σ H Q ->
  wpAny (model X.prog X.w) X.A (assign target X.env u) (fun _ s'=>∃σ' H',Inv X pins σ' H' s'/\Q σ' H') X.xe s
noncomputable def PGs(X:Cx)(ts:List Expr)(t:TGs):Prop :=
 ∀(pins:List (Addr × Obj)) (s:Shared) (σ:St) (H:Hp) (vs:List V) (us:List Value) (Q:St->Hp->Prop),Inv X pins σ H s->Vals vs us->t vs σ H Q ->
  wpAny (model X.prog X.w) X.A (assignInOrder ((assignEach ts X.env).map (·.2)) us) (fun _ s'=>∃σ' H',Inv X pins σ' H' s'/\Q σ' H') X.xe s
section
variable {X:Cx}{pos:Pos}
noncomputable def GQ(i:Nat):TG:=fun v σ H Q=>Q (σ.set i (some v)) H
theorem kd{i:Nat}{x:Str}(hN:X.N.Nodup)(hi:X.N[i]?=some x)(hx:Loc X.env.scope x)(hf:X.fn x=true\/X.env.scope.names.lookup x=some .local:=by first | exact .inl rfl | exact .inr rfl | assumption):PG X (.Name x pos) (GQ i):=by
 intro pins s σ H v u Q I r h
 exact wpAny_assign_Name (Jp I hN hi hx r (fun s' I'=>⟨_,H,I',h⟩) hf)
inductive Za7(vs:List V)(σ:St)(H:Hp)(Q:St->Hp->Prop):Prop
 | mk  : (vs=[])->(Q σ H)->Za7 vs σ H Q
noncomputable def gNil  : TGs:=fun vs σ H Q=>Za7 vs σ H Q
inductive ke(t:TG)(u:TGs)(vs:List V)(σ:St)(H:Hp)(Q:St->Hp->Prop):Prop
 | mk (v r):(vs=v::r)->(t v σ H fun σ' H'=>u r σ' H' Q)->ke t u vs σ H Q
noncomputable def kf(t:TG)(u:TGs):TGs:=fun vs σ H Q=>ke t u vs σ H Q
theorem Zcu:PGs X [] gNil:=by
 intro pins s σ H vs us Q I r h
 obtain ⟨e,h⟩:=h
 subst e
 cases r
 exact assignInOrder_nil ⟨σ,H,I,h⟩
theorem yc{e:Expr}{es:List Expr}{t:TG}{u:TGs}(h1:PG X e t)(h2:PGs X es u)
  (hs:(assignEach (e::es) X.env).map (·.2)=assign e X.env::(assignEach es X.env).map (·.2):=by rfl):PGs X (e::es) (kf t u):=by
 intro pins s σ H vs us Q I r h
 obtain ⟨v,vr,e1,h⟩:=h
 subst e1
 cases r with
 | cons r rr =>
  rw [hs]
  refine assignInOrder_cons (thn (h1 pins s σ H _ _ _ I r h) fun _ s1 zq9=>?_);(refine Oe2a1 zq9 fun σ1 H1 I1 q1=>?_;clear zq9)
  exact h2 pins s1 σ1 H1 _ _ Q I1 rr q1
inductive Za8(K:PySem.W.Frag)(n:Nat)(t:TGs)(v:V)(σ:St)(H:Hp)(Q:St->Hp->Prop):Prop
 | mk (a xs):(v=.ref a)->(SqT K H a xs)->(xs.length=n)->(t xs σ H Q)->Za8 K n t v σ H Q
noncomputable def gTup(K:PySem.W.Frag)(n:Nat)(t:TGs):TG:=fun v σ H Q=>Za8 K n t v σ H Q
theorem pg_tup{es:List Expr}{k:Nat}{t:TGs}{n:Nat}(hc:X.calm=true)(h:PGs X es t)
  (hn:(assignEach es X.env).length=n:=by rfl) (hst:(assignEach es X.env).findIdx? (·.1)=none:=by rfl):PG X (.Tuple es k pos) (gTup X.K n t):=by
 intro pins s σ H v u Q I r hw
 obtain ⟨a,xs,e1,hq,hl,hw⟩:=hw
 subst e1
 cases r
 refine Oe1a2 (I.tuple hq) fun its rv ht hz=>?_
 refine assign_Tuple_tuple (I.ok.hd hc) ht (by simp [hn,<-hl,rv.length]) hst fun h' hx=>?_
 have I1:Inv X pins σ H { s with heap:=h' }:=I.kept (t':=s.toks) fun b o e=>hx b o (Qbm (Heap.lt_size e)) e
 exact h pins _ σ H xs _ Q I1 (by simpa using rv) hw
noncomputable def Zfz(te:TE)(g:TG):TS:=fun D σ H=>te σ H fun x H1=>g x σ H1 D.nx
theorem ps_set{i:Nat}{x:Str}{e:Expr}{te:TE}{pos':Pos}(hN:X.N.Nodup)(hi:X.N[i]?=some x)(hx:Loc X.env.scope x)(he:PE X e te)(hs:swapsWith e (some (.Name x pos')) pos.line X.env=pure false:=by rfl)(hf:X.fn x=true\/X.env.scope.names.lookup x=some .local:=by first | exact .inl rfl | exact .inr rfl | assumption) :
  PS X (.Assign [.Name x pos'] e pos) (Zfz te (GQ i)):=by
 intro pins s σ H D I h
 refine wpAny_Assign_Name (thn (he pins s σ H _ I h) fun v s1 zq9=>?_) hs;obtain ⟨y,H1,I1,r1,q1⟩:=zq9
 exact Jp I1 hN hi hx r1 (fun s2 I2=>⟨_,H1,I2,q1⟩) hf
end
section
variable {X:Cx}{pos:Pos}
noncomputable def kg(c:TT)(tb:TS):TS:=fun D σ H=>∃W:Nat->St->Hp->Prop,(∃m,W m σ H)/\∀m σ H,W m σ H ->
 c σ H fun b H1=>if b=true then ∃N:St->Hp->Prop,(∀σ' H',N σ' H'->∃m',m' < m/\W m' σ' H')/\tb { D with nx:=N,ct:=N,bk:=D.nx } σ H1 else D.nx σ H1
theorem ur{c:Expr}{body:List Stmt}{tc:TT}{tb:TS}(hp:PassesOwn (model X.prog X.w) X.A X.env X.xe)(hc:PT X c tc)(hb:PSs X body tb):PS X (.While c body [] pos) (kg tc tb):=by
 intro pins s σ H D I h
 (refine Oe1a1 h fun W zo24 turn=>?_;obtain ⟨m0,w0⟩:=zo24;clear h)
 refine wpAny_While (codeAny_whileLoop (fun n s'=>∃σ' H',Inv X pins σ' H' s'/\W n σ' H') ?_ m0 ⟨σ,H,I,w0⟩)
 (intro n s1 zq8;(refine Oe2a1 zq8 fun σ1 H1 I1 w1=>?_;clear zq8))
 refine wpAny_passesOwn hp (thn (hc pins s1 σ1 H1 _ I1 (turn n σ1 H1 w1)) fun b s2 ⟨H2,I2,q2⟩=>?_)
 cases b with
 | true =>
  (have zob:=q2;clear q2;refine Oe1a1 zob fun N hN q2=>?_;clear zob)
  rw [Qan rfl]
  refine wpAny_passesOwn hp (thn (hb pins s2 σ1 H2 _ I2 q2) fun f s3 q3=>?_)
  cases f with
  | next =>
   (refine Oe2a1 q3 fun σ3 H3 I3 n3=>?_;clear q3)
   refine Oe1a1 (hN σ3 H3 n3) fun m' hm w3=>?_
   exact ⟨m',hm,σ3,H3,I3,w3⟩
  | cont =>
   (refine Oe2a1 q3 fun σ3 H3 I3 n3=>?_;clear q3)
   refine Oe1a1 (hN σ3 H3 n3) fun m' hm w3=>?_
   exact ⟨m',hm,σ3,H3,I3,w3⟩
  | brk=>exact q3
  | ret v=>exact q3
 | false =>
  rw [Qal Qam]
  exact wpAny_execs_nil ⟨σ1,H2,I2,q2⟩
end
structure It where
 go:Nat->Hp->Prop
 yld:Nat->Hp->V->Hp->Prop
 stop:Nat->Hp->Prop
noncomputable def yd(X:Cx)(pins:List (Addr × Obj))(H:Hp)(b:Addr):Prop :=
 H b=none/\b≠X.env.locals/\b∉X.fs/\(b∈X.ex\/X.s₀.heap.objs.size<=b)/\(∀x c,X.env.cells.lookup x=some c->c≠b)/\∀p∈X.pn++pins,p.1≠b
theorem Inv.fpOk{X:Cx}{pins:List (Addr × Obj)}{σ:St}{H H':Hp}{s:Shared}{b:Addr}(I:Inv X pins σ H s)(hb:s.heap.objs.size<=b)(hn:H' b=none):yd X pins H' b:=by
 refine ⟨hn,Qcw (Qba I.lt hb),I.nofs hb,.inr (Qbe I.sz hb),fun x c e z=>?_,fun p hp z=>?_⟩
 ·obtain ⟨v,q⟩:=I.cell x c e
  exact absurd (Qba q.lt (by rw [z];exact hb)) (Qb1 _)
 ·exact absurd (Qba (Heap.lt_size (I.pin p hp).1) (by rw [z];exact hb)) (Qb1 _)
structure Turn(P:Program)(w:World)(K:PySem.W.Frag)(tg:Expr)(J:It)(fp:List Addr)(it:Addr)(tn:Nat->Heap->Prop):Prop where
 mem:it∈fp
 obj:∀i h,tn i h->∀b∈fp,∃o,h.get? b=some o/\∀v,o.data≠.cell v
 keep:∀i h h',tn i h->(∀b∈fp,∀o,h.get? b=some o->h'.get? b=some o)->tn i h'
 item:∀(X:Cx),X.prog=P->X.w=w->X.K=K->X.calm=true->∀(i:Nat) (pins:List (Addr × Obj)) (s:Shared) (σ:St) (H:Hp) (E:Value->Shared->Prop),Inv X pins σ H s->(∀b∈fp,yd X pins H b)->tn i s.heap->J.go i H ->
  wpAny (model P w) X.A (pyNext (.ref it)) (fun r s1=>∃u,r=some u /\
   wpAny (model P w) X.A (letOwnedTupleGo tg (.ref it) u) (fun _ s2=>∃x H',Inv X pins σ H' s2/\RelV x u/\J.yld i H x H'/\tn (i + 1) s2.heap/\∀b∈fp,H' b=none) E s1) E s
 done:∀(X:Cx),X.prog=P->X.w=w->X.K=K->X.calm=true->∀(i:Nat) (pins:List (Addr × Obj)) (s:Shared) (σ:St) (H:Hp) (E:Value->Shared->Prop),Inv X pins σ H s->(∀b∈fp,yd X pins H b)->tn i s.heap->J.stop i H ->
  wpAny (model P w) X.A (pyNext (.ref it)) (fun r s1=>r=none/\Inv X pins σ H s1) E s
 self:∀(A:Around) (i:Nat) (s:Shared) (Q:Value->Shared->Prop) (E:Value->Shared->Prop),tn i s.heap->Q (.ref it) s->wpAny (model P w) A (pyIter (.ref it)) Q E s
noncomputable abbrev TI:=St->Hp->(It->Hp->Prop)->Prop
noncomputable def PIE(X:Cx)(pins:List (Addr × Obj))(σ:St)(tg:Expr)(R:It->Hp->Prop)(itv:Value)(s2:Shared):Prop :=
 ∃(it:Addr) (fp:List Addr) (tn:Nat->Heap->Prop) (J:It) (H':Hp),itv=.ref it/\Inv X pins σ H' s2/\Turn X.prog X.w X.K tg J fp it tn/\tn 0 s2.heap/\(∀b∈fp,yd X pins H' b)/\R J H'
noncomputable def PI(X:Cx)(tg iter:Expr)(wi:TI):Prop :=
 ∀(pins:List (Addr × Obj)) (s:Shared) (σ:St) (H:Hp) (R:It->Hp->Prop),Inv X pins σ H s->wi σ H R ->
  wpAny (model X.prog X.w) X.A (eval iter X.env) (fun v s1=>wpAny (model X.prog X.w) X.A (pyIter v) (PIE X pins σ tg R) X.xe s1) X.xe s
theorem kh{M:Model}{A:Around}{E:Value->Shared->Prop}{s:Shared}{tg:Expr}{it:Addr}{u:Value}{o:Obj}{n:String}{vs:Array Value}{Q:Unit->Shared->Prop}(ho:s.heap.get? it=some o)(hc:o.cls=.type n)(hd:o.data=.fields vs)
    (hn:["enumerate","zip","dict_itemiterator","dict_reverseitemiterator","odict_iterator","itertools.zip_longest","itertools.pairwise"].contains n=false) (hQ:Q () s):wpAny M A (letOwnedTupleGo tg (.ref it) u) Q E s:=by
  unfold letOwnedTupleGo
  cases tg <;> first
    | exact wpAny_pure hQ
    | (cases u <;> first
        | exact wpAny_pure hQ
        | (refine wpAny_bind (wpAny_load ho ?_)
           rw [hc,hd]
           show wpAny M A (if (["enumerate","zip","dict_itemiterator","dict_reverseitemiterator","odict_iterator","itertools.zip_longest","itertools.pairwise"].contains n && vs[0]? == some (rawInt _))=true then _ else _) Q E s
           rw [Qal (by intro h;rw [hn,Bool.false_and] at h;cases h)]
           exact wpAny_pure hQ))
noncomputable def Itl(K:PySem.W.Frag)(a:Addr):It :=
 ⟨fun i H=>∃xs x,SqL K H a xs/\xs[i]?=some x,fun i H x H'=>H'=H/\∀xs,SqL K H a xs->xs[i]?=some x,fun i H=>∃xs,SqL K H a xs/\xs.length<=i⟩
noncomputable def Itt(K:PySem.W.Frag)(a:Addr):It :=
 ⟨fun i H=>∃xs x,SqT K H a xs/\xs[i]?=some x,fun i H x H'=>H'=H/\∀xs,SqT K H a xs->xs[i]?=some x,fun i H=>∃xs,SqT K H a xs/\xs.length<=i⟩
noncomputable def Itr(lo:Int)(n:Nat):It:=⟨fun i _=>i < n,fun i H x H'=>H'=H/\x=.int (lo + i),fun i _=>n<=i⟩
theorem ki{P:Program}{w:World}{K:PySem.W.Frag}{tg:Expr}(a it:Addr):Turn P w K tg (Itl K a) [it] it (fun i h=>h.IsListIter it a i) where
 mem:=by simp
 obj:=fun i h st b hb=>by
  have e:b=it:=by simpa using hb
  subst e
  (refine Oe1a2 st fun o e c d=>?_;clear st)
  exact ⟨o,e,fun v z=>by rw [d] at z;cases z⟩
 keep:=fun i h h' st k=>st.at fun o e=>k it (by simp) o e
 item:=by
  intro X hP hw hK hc i pins s σ H E I hf st hg
  subst hP hw hK
  (refine Oe2a1 hg fun xs x hq hx=>?_;clear hg)
  refine Oe1a2 (I.list hq) fun its rv p hz=>?_
  refine Oe1a1 (rv.get hx) fun u hu ru=>?_
  refine Oe0a5 (hf it (by simp)) fun f0 f1 f2 f3 f4 f5=>?_
  refine wpAny_pyNext_list_item st p.isList (x:=u) (by simpa using hu) fun h' st' sb=>?_
  have I1:Inv X pins σ H { s with heap:=h' }:=I.turned (t':=s.toks) (fun b o hb e=>(sb.2 b hb).trans e) f0 f1 f3 f4 f5
  refine Oe1a2 (id st') fun o e c d=>?_
  exact ⟨u,rfl,kh (s:={ s with heap:=h' }) e c d (by decide) ⟨x,H,I1,ru,⟨rfl,fun ys hy=>by rw [I.list_inj hy hq];exact hx⟩,st',fun b hb=>(hf b hb).1⟩⟩
 done:=by
  intro X hP hw hK hc i pins s σ H E I hf st hg
  subst hP hw hK
  (refine Oe1a1 hg fun xs hq hx=>?_;clear hg)
  refine Oe1a2 (I.list hq) fun its rv p hz=>?_
  refine Oe0a5 (hf it (by simp)) fun f0 f1 f2 f3 f4 f5=>?_
  have hl:=rv.length
  exact wpAny_pyNext_list_end (I.ok.hd hc) st p.isList (by simp;lia) fun h' eb=>⟨rfl,I.turned (t':=s.toks) (fun b o hb e=>eb b o hb e) f0 f1 f3 f4 f5⟩
 self:=fun _ _ _ _ _ st h=>wpAny_pyIter_listiter st h
theorem yT{P:Program}{w:World}{K:PySem.W.Frag}{tg:Expr}(a it:Addr):Turn P w K tg (Itt K a) [it] it (fun i h=>h.IsTupleIter it a i) where
 mem:=by simp
 obj:=fun i h st b hb=>by
  have e:b=it:=by simpa using hb
  subst e
  (refine Oe1a2 st fun o e c d=>?_;clear st)
  exact ⟨o,e,fun v z=>by rw [d] at z;cases z⟩
 keep:=fun i h h' st k=>st.at fun o e=>k it (by simp) o e
 item:=by
  intro X hP hw hK hc i pins s σ H E I hf st hg
  subst hP hw hK
  (refine Oe2a1 hg fun xs x hq hx=>?_;clear hg)
  refine Oe1a2 (I.tuple hq) fun its rv p hz=>?_
  refine Oe1a1 (rv.get hx) fun u hu ru=>?_
  refine Oe0a5 (hf it (by simp)) fun f0 f1 f2 f3 f4 f5=>?_
  refine wpAny_pyNext_tuple_item st (show s.heap.IsTuple a its.toArray from p) (x:=u) (by simpa using hu) fun h' st' sb=>?_
  have I1:Inv X pins σ H { s with heap:=h' }:=I.turned (t':=s.toks) (fun b o hb e=>(sb.2 b hb).trans e) f0 f1 f3 f4 f5
  refine Oe1a2 (id st') fun o e c d=>?_
  exact ⟨u,rfl,kh (s:={ s with heap:=h' }) e c d (by decide) ⟨x,H,I1,ru,⟨rfl,fun ys hy=>by rw [I.tuple_inj hy hq];exact hx⟩,st',fun b hb=>(hf b hb).1⟩⟩
 done:=by
  intro X hP hw hK hc i pins s σ H E I hf st hg
  subst hP hw hK
  (refine Oe1a1 hg fun xs hq hx=>?_;clear hg)
  refine Oe1a2 (I.tuple hq) fun its rv p hz=>?_
  refine Oe0a5 (hf it (by simp)) fun f0 f1 f2 f3 f4 f5=>?_
  have hl:=rv.length
  exact wpAny_pyNext_tuple_end (I.ok.hd hc) st (show s.heap.IsTuple a its.toArray from p) (by simp;lia) fun h' eb=>⟨rfl,I.turned (t':=s.toks) (fun b o hb e=>eb b o hb e) f0 f1 f3 f4 f5⟩
 self:=fun _ _ _ _ _ st h=>wpAny_pyIter_tupleiter st h
theorem yU{P:Program}{w:World}{K:PySem.W.Frag}{tg:Expr}(it:Addr)(lo:Int)(n:Nat):Turn P w K tg (Itr lo n) [it] it (fun i h=>IsRangeIter h it (lo + (i:Nat) * 1) ((n:Int) - (i:Nat)) 1) where
 mem:=by simp
 obj:=fun i h st b hb=>by
  have e:b=it:=by simpa using hb
  subst e
  exact ⟨_,st,fun v z=>by
   have z':Data.fields _=Data.cell v:=z
   cases z'⟩
 keep:=fun i h h' st k=>k it (by simp) _ st
 item:=by
  intro X hP hw hK hc i pins s σ H E I hf st hg
  subst hP hw hK
  refine Oe0a5 (hf it (by simp)) fun f0 f1 f2 f3 f4 f5=>?_
  have W:=Walks.range (prog:=X.prog) (w:=X.w) (I.ok.hd hc) it lo 1 n
  refine W.item i s _ _ hg st fun v h' tk hv st' kk=>?_
  obtain ⟨t,rfl⟩:=hv
  have I1:Inv X pins σ H { s with heap:=h',toks:=tk }:=I.turned (fun b o hb e=>kk b o (by simpa using hb) e) f0 f1 f3 f4 f5
  refine ⟨_,rfl,kh (s:={ s with heap:=h',toks:=tk }) (n := "range_iterator") st' rfl rfl (by decide) ⟨.int (lo + i),H,I1,⟨t,?_⟩,⟨rfl,rfl⟩,st',fun b hb=>(hf b hb).1⟩⟩
  rw [Int.mul_one]
 done:=by
  intro X hP hw hK hc i pins s σ H E I hf st hg
  subst hP hw hK
  refine Oe0a5 (hf it (by simp)) fun f0 f1 f2 f3 f4 f5=>?_
  exact wpAny_pyNext_range_end (I.ok.hd hc) st (by have:n<=i:=hg;lia) fun h' eb=>⟨rfl,I.turned (t':=s.toks) (fun b o hb e=>eb b o hb e) f0 f1 f3 f4 f5⟩
 self:=fun _ _ _ _ _ st h=>wpAny_pyIter_rangeiter st h
section
variable {X:Cx}{tg:Expr}
inductive kj(K:PySem.W.Frag)(R:It->Hp->Prop)(x:V)(H1:Hp):Prop
 | mk (a):(x=.ref a)->((∃xs,SqL K H1 a xs))->(R (Itl K a) H1)->kj K R x H1
noncomputable def km(K:PySem.W.Frag)(tl:TE):TI:=fun σ H R=>tl σ H fun x H1=>kj K R x H1
inductive Za9(K:PySem.W.Frag)(R:It->Hp->Prop)(x:V)(H1:Hp):Prop
 | mk (a):(x=.ref a)->((∃xs,SqT K H1 a xs))->(R (Itt K a) H1)->Za9 K R x H1
noncomputable def iTup(K:PySem.W.Frag)(tl:TE):TI:=fun σ H R=>tl σ H fun x H1=>Za9 K R x H1
theorem Zcv{l:Expr}{tl:TE}(hl:PE X l tl):PI X tg l (km X.K tl):=by
 intro pins s σ H R I h
 refine thn (hl pins s σ H _ I h) fun v s1 zq9=>?_;obtain ⟨x,H1,I1,r1,q1⟩:=zq9
 obtain ⟨a,e,⟨xs,hq⟩,q⟩:=q1
 subst e
 cases r1
 refine Oe1a2 (I1.list hq) fun its rv p hz=>?_
 refine wpAny_pyIter_list p.isList ?_
 refine ⟨s1.heap.objs.size,[s1.heap.objs.size],_,_,H1,rfl,I1.kept (t':=s1.toks) fun b o e=>Heap.get?_push_of_some _ e,ki a _,⟨_,Heap.get?_push_size _ rfl,rfl,rfl⟩,fun b hb=>?_,q⟩
 have e:b=s1.heap.objs.size:=by simpa using hb
 subst e
 exact I1.fpOk (Qah _) (I1.hok.fresh (Qah _))
theorem pi_tup{l:Expr}{tl:TE}(hl:PE X l tl):PI X tg l (iTup X.K tl):=by
 intro pins s σ H R I h
 refine thn (hl pins s σ H _ I h) fun v s1 zq9=>?_;obtain ⟨x,H1,I1,r1,q1⟩:=zq9
 obtain ⟨a,e,⟨xs,hq⟩,q⟩:=q1
 subst e
 cases r1
 refine Oe1a2 (I1.tuple hq) fun its rv p hz=>?_
 refine wpAny_pyIter_tuple (show s1.heap.IsTuple a its.toArray from p) ?_
 refine ⟨s1.heap.objs.size,[s1.heap.objs.size],_,_,H1,rfl,I1.kept (t':=s1.toks) fun b o e=>Heap.get?_push_of_some _ e,yT a _,⟨_,Heap.get?_push_size _ rfl,rfl,rfl⟩,fun b hb=>?_,q⟩
 have e:b=s1.heap.objs.size:=by simpa using hb
 subst e
 exact I1.fpOk (Qah _) (I1.hok.fresh (Qah _))
theorem ye{pins:List (Addr × Obj)}{σ:St}{H:Hp}{s:Shared}{R:It->Hp->Prop}{E:Value->Shared->Prop}{lo hi:Int}{t u v:Tok}{tk:Nat}(I:Inv X pins σ H s)(h1:-(2 ^ 62)<=lo)(h2:lo < 2 ^ 62)(h3:-(2 ^ 62)<=hi)(h4:hi < 2 ^ 62)
  (q:R (Itr lo (hi - lo).toNat) H):wpAny (model X.prog X.w) X.A (pyIter (.ref s.heap.objs.size)) (PIE X pins σ tg R) E { s with heap:=s.heap.push { cls:=.type "range",data:=.fields #[.int lo t,.int hi u,.int 1 v] },toks:=tk }:=by
 refine wpAny_pyIter_range (IsRange.new ..) (small_one h1 h2 h3 h4) ?_
 have I1:Inv X pins σ H { s with heap:=s.heap.push { cls:=.type "range",data:=.fields #[.int lo t,.int hi u,.int 1 v] },toks:=tk }:=I.kept fun b o e=>Heap.get?_push_of_some _ e
 refine ⟨(s.heap.push { cls:=.type "range",data:=.fields #[.int lo t,.int hi u,.int 1 v] }).objs.size,[(s.heap.push { cls:=.type "range",data:=.fields #[.int lo t,.int hi u,.int 1 v] }).objs.size],_,_,H,rfl,
  I1.kept (t':=tk) fun b o e=>Heap.get?_push_of_some _ e,yU _ lo (hi - lo).toNat,?_,fun b hb=>?_,q⟩
 ·have e1:lo + ((0:Nat):Int) * 1=lo:=by simp
  have e2:(((hi - lo).toNat:Nat):Int) - ((0:Nat):Int)=Builtin.Range.rangeSize lo hi 1:=by rw [rangeSize_one];split <;> lia
  show IsRangeIter _ _ (lo + ((0:Nat):Int) * 1) ((((hi - lo).toNat:Nat):Int) - ((0:Nat):Int)) 1
  rw [e1,e2]
  exact Heap.get?_push_size _ rfl
 ·have e:b=(s.heap.push { cls:=.type "range",data:=.fields #[.int lo t,.int hi u,.int 1 v] }).objs.size:=by simpa using hb
  subst e
  exact I1.fpOk (Qah _) (I1.hok.fresh (Qah _))
inductive ko(R:It->Hp->Prop)(vs:List V)(H1:Hp):Prop
 | mk (j:Int):(vs=[.int j])->(-(2 ^ 62)<=j)->(j < 2 ^ 62)->(R (Itr 0 j.toNat) H1)->ko R vs H1
noncomputable def Zcw(ta:TA):TI:=fun σ H R=>ta σ H fun vs H1=>ko R vs H1
inductive kq(R:It->Hp->Prop)(vs:List V)(H1:Hp):Prop
 | mk (i j:Int):(vs=[.int i,.int j])->((-(2 ^ 62)<=i/\i < 2 ^ 62/\-(2 ^ 62)<=j/\j < 2 ^ 62))->(R (Itr i (j - i).toNat) H1)->kq R vs H1
noncomputable def Ze3(ta:TA):TI:=fun σ H R=>ta σ H fun vs H1=>kq R vs H1
theorem kr {a:Expr} {ta:TA} {p pos:Pos} (hg:Gl X "range") (hm:X.mg "range" = none) (ha:PA X [a] ta) (hs:starEach [a] X.env=[(false,eval a X.env)]:=by rfl):PI X tg (.Call (.Name "range" p) [a] [] pos) (Zcw ta):=by
 intro pins s σ H R I h
 refine Call_ (Gb I hg hm boot_range (Qcf (thn (ha pos pins s σ H _ I h) fun us s1 zq9=>?_) hs rfl));obtain ⟨vs,H1,I1,r1,q1⟩:=zq9
 obtain ⟨j,e,q1,q2,q⟩:=q1
 subst e
 cases r1 with
 | cons r rr =>
  cases rr
  obtain ⟨t,rfl⟩:=r
  exact call_range_1 (ye I1 (by lia) (by lia) q1 q2 (by simpa using q))
theorem ku {a b:Expr} {ta:TA} {p pos:Pos} (hg:Gl X "range") (hm:X.mg "range" = none) (ha:PA X [a,b] ta) (hs:starEach [a,b] X.env=[(false,eval a X.env),(false,eval b X.env)]:=by rfl) (hs2:starEach [b] X.env=[(false,eval b X.env)]:=by rfl) :
  PI X tg (.Call (.Name "range" p) [a,b] [] pos) (Ze3 ta):=by
 intro pins s σ H R I h
 refine Call_ (Gb I hg hm boot_range (Qcf (thn (ha pos pins s σ H _ I h) fun us s1 zq9=>?_) (by rw [hs,hs2]) (by rw [hs2];rfl)));obtain ⟨vs,H1,I1,r1,q1⟩:=zq9
 obtain ⟨i,j,e,⟨q1,q2,q3,q4⟩,q⟩:=q1
 subst e
 cases r1 with
 | cons r rr =>
  cases rr with
  | cons r' rr =>
   cases rr
   obtain ⟨t,rfl⟩:=r
   obtain ⟨t',rfl⟩:=r'
   exact call_range_2 (ye I1 q1 q2 q3 q4 q)
noncomputable def tFor(wi:TI)(g:TG)(tb:TS):TS:=fun D σ H=>wi σ H fun J H1=>∃W:Nat->Nat->St->Hp->Prop,(∃m,W 0 m σ H1)/\∀i m σ H,W i m σ H ->
 (J.stop i H/\D.nx σ H)\/(J.go i H/\∃N:St->Hp->Prop,(∀σ' H',N σ' H'->∃m',m' < m/\W (i + 1) m' σ' H')/\∀x H',J.yld i H x H'->g x σ H' fun σ2 H2=>tb { D with nx:=N,ct:=N,bk:=D.nx } σ2 H2)
noncomputable def zl(fp:List Addr)(h:Heap):List (Addr × Obj):=fp.filterMap fun b=>(h.get? b).map fun o=>(b,o)
theorem WO{fp:List Addr}{h:Heap}{b:Addr}{o:Obj}(hb:b∈fp)(e:h.get? b=some o):(b,o)∈zl fp h:=Qea.mpr ⟨b,hb,by rw [e];rfl⟩
theorem kx{fp:List Addr}{h:Heap}{p:Addr × Obj}(hp:p∈zl fp h):p.1∈fp/\h.get? p.1=some p.2:=by
 refine Oe1a1 (Qea.mp hp) fun b hb e=>?_
 cases q:h.get? b with
 | none=>rw [q] at e;cases e
 | some o =>
  rw [q] at e
  have e':(b,o)=p:=Option.some.inj e
  subst e'
  exact ⟨hb,q⟩
theorem Inv.pinned{pins:List (Addr × Obj)}{σ:St}{H:Hp}{s:Shared}{fp:List Addr}(I:Inv X pins σ H s)(hf:∀b∈fp,yd X pins H b)(ho:∀b∈fp,∃o,s.heap.get? b=some o/\∀v,o.data≠.cell v):Inv X (pins++zl fp s.heap) σ H s :=
 I.pins_of fun p hp=>(Qbd.mp hp).elim (fun z=>I.pin p (Qa8 _ z)) fun z=>by
  obtain ⟨hb,e⟩:=kx z
  refine Oe0a3 (hf p.1 hb) fun f0 f1 f2 _=>?_
  refine Oe1a1 (ho p.1 hb) fun o e' d=>?_
  rw [e] at e';cases e'
  exact ⟨e,f0,f1,f2,d⟩
theorem Inv.unpinned{pins pl:List (Addr × Obj)}{σ:St}{H:Hp}{s:Shared}(I:Inv X (pins++pl) σ H s):Inv X pins σ H s:=I.pins_of fun p hp=>I.pin p (Qa8 _ (Qcy _ hp))
theorem ps_for{iter:Expr}{body:List Stmt}{wi:TI}{g:TG}{tb:TS}{pos:Pos}(hp:PassesOwn (model X.prog X.w) X.A X.env X.xe)(hc:X.calm=true)(hi:PI X tg iter wi)(hg:PG X tg g)(hb:PSs X body tb)
  (hs:∀x,foldedSetIterable iter X.env x=pure x:=by intro _;rfl):PS X (.For tg iter body [] pos) (tFor wi g tb):=by
 intro pins s σ H D I h
 refine wpAny_For (thn (hi pins s σ H _ I h) fun v s1 h1=>thn h1 fun itv s2 h2=>?_) hs
 (refine Oe5a5 h2 fun it fp tn J H2 e I2 T st2 f2 zo25=>?_;refine Oe1a1 zo25 fun W zo26 turn=>?_;obtain ⟨m0,w0⟩:=zo26;clear zo25;clear h2)
 subst e
 have stat:∀{H':Hp},(∀b∈fp,H' b=none)->∀b∈fp,yd X pins H' b:=fun hn b hb=>⟨hn b hb,(f2 b hb).2⟩
 refine codeAny_forLoop_any (fun n s'=>∃i σ' H',Inv X pins σ' H' s'/\tn i s'.heap/\(∀b∈fp,H' b=none)/\W i n σ' H') ?_ m0 ⟨0,σ,H2,I2,st2,fun b hb=>(f2 b hb).1,w0⟩
 (intro n s3 zq8;(refine Oe3a3 zq8 fun i σ3 H3 I3 st3 fr3 w3=>?_;clear zq8))
 rcases turn i n σ3 H3 w3 with ⟨stop,qn⟩ | ⟨go,N,hN,step⟩
 ·refine wpAny_passesOwn hp (thn (T.done X rfl rfl rfl hc i pins s3 σ3 H3 X.xe I3 (stat fr3) st3 stop) fun r s4 ⟨hr,I4⟩=>?_)
  subst hr
  exact wpAny_execs_nil ⟨σ3,H3,I4,qn⟩
 ·refine wpAny_passesOwn hp (thn (T.item X rfl rfl rfl hc i pins s3 σ3 H3 X.xe I3 (stat fr3) st3 go) fun r s4 ⟨u,hr,h4⟩=>?_)
  subst hr
  refine wpAny_passesOwn hp (thn h4 fun _ s5 zq9=>?_);(refine Oe2a4 zq9 fun x H5 I5 r5 y5 st5 fr5=>?_;clear zq9)
  have I5':=I5.pinned (stat fr5) (T.obj _ _ st5)
  refine wpAny_passesOwn hp (thn (hg _ s5 σ3 H5 x u _ I5' r5 (step x H5 y5)) fun _ s6 zq9=>?_);(refine Oe2a1 zq9 fun σ6 H6 I6 q6=>?_;clear zq9)
  refine wpAny_passesOwn hp (thn (hb _ s6 σ6 H6 _ I6 q6) fun f s7 q7=>?_)
  have again:∀{σ7:St} {H7:Hp},Inv X (pins++zl fp s5.heap) σ7 H7 s7->N σ7 H7->∃m,m < n/\∃i σ' H',Inv X pins σ' H' s7/\tn i s7.heap/\(∀b∈fp,H' b=none)/\W i m σ' H':=fun {σ7 H7} I7 n7=>by
   refine Oe1a1 (hN σ7 H7 n7) fun m' hm w7=>?_
   refine ⟨m',hm,i + 1,σ7,H7,I7.unpinned,T.keep _ _ _ st5 fun b hb o e=>(I7.pin (b,o) (Qa8 _ (Qa8 _ (WO hb e)))).1,fun b hb=>?_,w7⟩
   refine Oe1a1 (T.obj _ _ st5 b hb) fun o e d=>?_
   exact (I7.pin (b,o) (Qa8 _ (Qa8 _ (WO hb e)))).2.1
  cases f with
  | next=>(refine Oe2a1 q7 fun σ7 H7 I7 n7=>?_;clear q7);exact again I7 n7
  | cont=>(refine Oe2a1 q7 fun σ7 H7 I7 n7=>?_;clear q7);exact again I7 n7
  | brk=>(have zob:=q7;clear q7;refine Oe2a1 zob fun σ7 H7 I7 q7=>?_;clear zob);exact ⟨σ7,H7,I7.unpinned,q7⟩
  | ret v=>(have zob:=q7;clear q7;refine Oe3a2 zob fun x7 σ7 H7 I7 r7 q7=>?_;clear zob);exact ⟨x7,σ7,H7,I7.unpinned,r7,q7⟩
end
theorem xF{K:PySem.W.Frag}{a:Addr}{xs:List V}{g:TG}{tb:TS}{D:Ends}{σ:St}{H:Hp}(Pv:Nat->St->Hp->Prop)(h0:Pv 0 σ H)(hl:∀i σ H,i<=xs.length->Pv i σ H->SqL K H a xs)
  (hs:∀i x σ H,xs[i]?=some x->Pv i σ H->g x σ H fun σ2 H2=>tb { D with nx:=Pv (i + 1),ct:=Pv (i + 1),bk:=D.nx } σ2 H2) (hd:∀σ H,Pv xs.length σ H->D.nx σ H) :
  ∃W:Nat->Nat->St->Hp->Prop,(∃m,W 0 m σ H)/\∀i m σ H,W i m σ H ->
   ((Itl K a).stop i H/\D.nx σ H)\/((Itl K a).go i H/\∃N:St->Hp->Prop,(∀σ' H',N σ' H'->∃m',m' < m/\W (i + 1) m' σ' H')/\∀x H',(Itl K a).yld i H x H'->g x σ H' fun σ2 H2=>tb { D with nx:=N,ct:=N,bk:=D.nx } σ2 H2):=by
 refine ⟨fun i m σ H=>m=xs.length - i/\i<=xs.length/\Pv i σ H,⟨xs.length,by simp,Qbg _,h0⟩,?_⟩
 (intro i m σ H zq8;(refine Oe0a2 zq8 fun zo27 hi p=>?_;obtain rfl:=zo27;clear zq8))
 have q:=hl i σ H hi p
 by_cases hlt:i < xs.length
 ·refine .inr ⟨⟨xs,xs[i],q,by simp [hlt]⟩,Pv (i + 1),fun σ' H' p'=>⟨xs.length - (i + 1),by lia,rfl,hlt,p'⟩,fun x H' y=>?_⟩
  obtain ⟨e,y⟩:=y
  subst e
  exact hs i x σ _ (y xs q) p
 ·have e:i=xs.length:=by lia
  subst e
  exact .inl ⟨⟨xs,q,Qah _⟩,hd σ H p⟩
theorem Zcx{K:PySem.W.Frag}{a:Addr}{xs:List V}{g:TG}{tb:TS}{D:Ends}{σ:St}{H:Hp}(Pv:Nat->St->Hp->Prop)(h0:Pv 0 σ H)(hl:∀i σ H,i<=xs.length->Pv i σ H->SqT K H a xs)
  (hs:∀i x σ H,xs[i]?=some x->Pv i σ H->g x σ H fun σ2 H2=>tb { D with nx:=Pv (i + 1),ct:=Pv (i + 1),bk:=D.nx } σ2 H2) (hd:∀σ H,Pv xs.length σ H->D.nx σ H) :
  ∃W:Nat->Nat->St->Hp->Prop,(∃m,W 0 m σ H)/\∀i m σ H,W i m σ H ->
   ((Itt K a).stop i H/\D.nx σ H)\/((Itt K a).go i H/\∃N:St->Hp->Prop,(∀σ' H',N σ' H'->∃m',m' < m/\W (i + 1) m' σ' H')/\∀x H',(Itt K a).yld i H x H'->g x σ H' fun σ2 H2=>tb { D with nx:=N,ct:=N,bk:=D.nx } σ2 H2):=by
 refine ⟨fun i m σ H=>m=xs.length - i/\i<=xs.length/\Pv i σ H,⟨xs.length,by simp,Qbg _,h0⟩,?_⟩
 (intro i m σ H zq8;(refine Oe0a2 zq8 fun zo28 hi p=>?_;obtain rfl:=zo28;clear zq8))
 have q:=hl i σ H hi p
 by_cases hlt:i < xs.length
 ·refine .inr ⟨⟨xs,xs[i],q,by simp [hlt]⟩,Pv (i + 1),fun σ' H' p'=>⟨xs.length - (i + 1),by lia,rfl,hlt,p'⟩,fun x H' y=>?_⟩
  obtain ⟨e,y⟩:=y
  subst e
  exact hs i x σ _ (y xs q) p
 ·have e:i=xs.length:=by lia
  subst e
  exact .inl ⟨⟨xs,q,Qah _⟩,hd σ H p⟩
theorem XS{lo:Int}{n:Nat}{g:TG}{tb:TS}{D:Ends}{σ:St}{H:Hp}(Pv:Nat->St->Hp->Prop)(h0:Pv 0 σ H)
  (hs:∀i σ H,i < n->Pv i σ H->g (.int (lo + i)) σ H fun σ2 H2=>tb { D with nx:=Pv (i + 1),ct:=Pv (i + 1),bk:=D.nx } σ2 H2) (hd:∀σ H,Pv n σ H->D.nx σ H) :
  ∃W:Nat->Nat->St->Hp->Prop,(∃m,W 0 m σ H)/\∀i m σ H,W i m σ H ->
   ((Itr lo n).stop i H/\D.nx σ H)\/((Itr lo n).go i H/\∃N:St->Hp->Prop,(∀σ' H',N σ' H'->∃m',m' < m/\W (i + 1) m' σ' H')/\∀x H',(Itr lo n).yld i H x H'->g x σ H' fun σ2 H2=>tb { D with nx:=N,ct:=N,bk:=D.nx } σ2 H2):=by
 refine ⟨fun i m σ H=>m=n - i/\i<=n/\Pv i σ H,⟨n,by simp,Qbg _,h0⟩,?_⟩
 (intro i m σ H zq8;(refine Oe0a2 zq8 fun zo29 hi p=>?_;obtain rfl:=zo29;clear zq8))
 by_cases hlt:i < n
 ·refine .inr ⟨hlt,Pv (i + 1),fun σ' H' p'=>⟨n - (i + 1),by lia,rfl,hlt,p'⟩,fun x H' y=>?_⟩
  obtain ⟨e,y⟩:=y
  subst e y
  exact hs i σ _ hlt p
 ·have e:i=n:=by lia
  subst e
  exact .inl ⟨Qah _,hd σ H p⟩
noncomputable abbrev R2:=V->V->Hp->VK->Prop
noncomputable def OpR(X:Cx)(f:Value->Value->Sem Value)(r:R2):Prop :=
 ∀(pins:List (Addr × Obj)) (s:Shared) (σ:St) (H:Hp) (x y:V) (v u:Value) (Q:VK),Inv X pins σ H s->RelV x v->RelV y u->r x y H Q ->
  wpAny (model X.prog X.w) X.A (f v u) (EP X pins σ Q) X.xe s
noncomputable def UnR(X:Cx)(f:Value->Sem Value)(r:V->Hp->VK->Prop):Prop :=
 ∀(pins:List (Addr × Obj)) (s:Shared) (σ:St) (H:Hp) (x:V) (v:Value) (Q:VK),Inv X pins σ H s->RelV x v->r x H Q ->
  wpAny (model X.prog X.w) X.A (f v) (EP X pins σ Q) X.xe s
noncomputable def XM(X:Cx)(f:Value)(r:List V->Hp->VK->Prop):Prop :=
 ∀(pins:List (Addr × Obj)) (s:Shared) (σ:St) (H:Hp) (xs:List V) (us:List Value) (Q:VK),Inv X pins σ H s->Vals xs us->r xs H Q ->
  wpAny (model X.prog X.w) X.A (call f us) (EP X pins σ Q) X.xe s
noncomputable def tOp(r:R2)(ta tb:TE):TE:=fun σ H Q=>ta σ H fun x H1=>tb σ H1 fun y H2=>r x y H2 Q
noncomputable def tUn(r:V->Hp->VK->Prop)(ta:TE):TE:=fun σ H Q=>ta σ H fun x H1=>r x H1 Q
inductive rI_i(C:Int->Int->Prop)(g:Int->Int->V)(x:V)(y:V)(H:Hp)(Q:VK):Prop
 | mk (i j):(x=.int i)->(y=.int j)->(C i j)->(Q (g i j) H)->rI_i C g x y H Q
noncomputable def rI(C:Int->Int->Prop)(g:Int->Int->V):R2:=fun x y H Q=>rI_i C g x y H Q
inductive Ze4(g:Int->Int->V)(x:V)(y:V)(H:Hp)(Q:VK):Prop
 | mk (i j):(x=.int i)->(y=.int j)->(Q (g i j) H)->Ze4 g x y H Q
noncomputable def rI0(g:Int->Int->V):R2:=fun x y H Q=>Ze4 g x y H Q
inductive rU_i(g:Int->V)(x:V)(H:Hp)(Q:VK):Prop
 | mk (i):(x=.int i)->(Q (g i) H)->rU_i g x H Q
noncomputable def rU(g:Int->V):V->Hp->VK->Prop:=fun x H Q=>rU_i g x H Q
section
variable {X:Cx}{a b c:Expr}{ta tb tc:TE}{pos:Pos}
theorem binT(ha:PE X a ta)(hb:PE X b tb){pins:List (Addr × Obj)}{s:Shared}{σ:St}{H:Hp}{R:V->V->Hp->Prop}(I:Inv X pins σ H s)
  (h:ta σ H fun x H1=>tb σ H1 fun y H2=>R x y H2) {Q:Value->Shared->Prop} {f:Value->Value->Sem Value}
  (hf:∀v u s2 x y H2,Inv X pins σ H2 s2->RelV x v->RelV y u->R x y H2->wpAny (model X.prog X.w) X.A (f v u) Q X.xe s2) :
  wpAny (model X.prog X.w) X.A (eval a X.env) (fun v s₁=>wpAny (model X.prog X.w) X.A (eval b X.env) (fun u s₂=>wpAny (model X.prog X.w) X.A (f v u) Q X.xe s₂) X.xe s₁) X.xe s:=by
 refine thn (ha pins s σ H _ I h) fun v s1 zq9=>?_;obtain ⟨x,H1,I1,r1,q1⟩:=zq9
 refine thn (hb pins s1 σ H1 _ I1 q1) fun u s2 zq9=>?_;obtain ⟨y,H2,I2,r2,q2⟩:=zq9
 exact hf v u s2 x y H2 I2 r1 r2 q2
theorem pe_op{op:Operator}{r:R2}(ho:OpR X (binaryOp op) r)(ha:PE X a ta)(hb:PE X b tb):PE X (.BinOp a op b pos) (tOp r ta tb):=by
 intro pins s σ H Q I h
 exact wpAny_BinOp (binT ha hb I h fun v u s2 x y H2 I2 rx ry q=>ho pins s2 σ H2 x y v u Q I2 rx ry q)
theorem pe_un{op:UnaryOp}{r:V->Hp->VK->Prop}(ho:UnR X (unaryOp op) r)(ha:PE X a ta):PE X (.UnaryOp op a pos) (tUn r ta):=by
 intro pins s σ H Q I h
 exact UnaryOp_ (thn (ha pins s σ H _ I h) fun v s1 ⟨x,H1,I1,r1,q1⟩=>ho pins s1 σ H1 x v Q I1 r1 q1)
theorem opI{f:Value->Value->Sem Value}{C:Int->Int->Prop}{g:Int->Int->Int}
  (rule:∀(i j:Int) (t u:Tok) (s:Shared) (Q:Value->Shared->Prop) (E:Value->Shared->Prop),C i j->Q (.int (g i j) s.toks) { s with toks:=s.toks + 1 }->wpAny (model X.prog X.w) X.A (f (.int i t) (.int j u)) Q E s) :
  OpR X f (rI C fun i j=>.int (g i j)):=by
 intro pins s σ H x y v u Q I rx ry h
 obtain ⟨i,j,rfl,rfl,hc,q⟩:=h
 obtain ⟨t,rfl⟩:=rx
 obtain ⟨t',rfl⟩:=ry
 exact rule i j t t' s _ _ hc ⟨.int (g i j),H,I.tok _,⟨_,rfl⟩,q⟩
theorem Ze5{f:Value->Value->Sem Value}{g:Int->Int->Int}
  (rule:∀(i j:Int) (t u:Tok) (s:Shared) (Q:Value->Shared->Prop) (E:Value->Shared->Prop),Q (.int (g i j) s.toks) { s with toks:=s.toks + 1 }->wpAny (model X.prog X.w) X.A (f (.int i t) (.int j u)) Q E s) :
  OpR X f (rI0 fun i j=>.int (g i j)):=by
 intro pins s σ H x y v u Q I rx ry h
 obtain ⟨i,j,rfl,rfl,q⟩:=h
 obtain ⟨t,rfl⟩:=rx
 obtain ⟨t',rfl⟩:=ry
 exact rule i j t t' s _ _ ⟨.int (g i j),H,I.tok _,⟨_,rfl⟩,q⟩
theorem Zf0{f:Value->Value->Sem Value}{g:Int->Int->Bool}
  (rule:∀(i j:Int) (t u:Tok) (s:Shared) (Q:Value->Shared->Prop) (E:Value->Shared->Prop),Q (.bool (g i j)) s->wpAny (model X.prog X.w) X.A (f (.int i t) (.int j u)) Q E s) :
  OpR X f (rI0 fun i j=>.bl (g i j)):=by
 intro pins s σ H x y v u Q I rx ry h
 obtain ⟨i,j,rfl,rfl,q⟩:=h
 obtain ⟨t,rfl⟩:=rx
 obtain ⟨t',rfl⟩:=ry
 exact rule i j t t' s _ _ ⟨.bl (g i j),H,I,rfl,q⟩
noncomputable def CPow(i j:Int):Prop:=0<=j/\j<=1000000/\i.natAbs < 2 ^ 64
noncomputable def CMul(i j:Int):Prop:=(-(2 ^ 64) < i/\i < 2 ^ 64)\/(-(2 ^ 64) < j/\j < 2 ^ 64)
theorem CMul.ok{i j:Int}(h:CMul i j):IntMulOk i j:=by
 rcases h with ⟨h1,h2⟩ | ⟨h1,h2⟩
 ·exact .of_left (intBits_le_64 h1 h2)
 ·exact .of_right (intBits_le_64 h1 h2)
theorem yV(k:Nat):(0:Int)<=2 ^ k:=by
 rw [two_pow_cast]
 exact Qbk _
theorem YX:OpR X (binaryOp .Add) (rI0 fun i j=>.int (i + j)):=Ze5 fun _ _ _ _ _ _ _ q=>add_int q
theorem XT:OpR X (binaryOp .Sub) (rI0 fun i j=>.int (i - j)):=Ze5 fun _ _ _ _ _ _ _ q=>sub_int q
theorem ZV:OpR X (binaryOp .Mod) (rI (fun _ j=>0 < j) fun i j=>.int (i % j)):=opI fun i j _ _ _ _ _ hc q=>by
 have h1:(0:Int) < j:=hc
 exact mod_int' (by lia) (by rw [Int.fmod_eq_emod_of_nonneg i (by lia)];exact q)
theorem Zba:OpR X (binaryOp .Pow) (rI CPow fun i j=>.int (i ^ j.toNat)):=opI fun _ _ _ _ _ _ _ hc q=>pow_int_small hc.1 hc.2.1 hc.2.2 q
theorem zm:OpR X (binaryOp .LShift) (rI CPow fun i j=>.int (i * 2 ^ j.toNat)):=opI fun _ _ _ _ _ _ _ hc q=>lshift_int_small hc.1 hc.2.1 hc.2.2 q
theorem xa:OpR X (binaryOp .RShift) (rI (fun _ j=>0<=j) fun i j=>.int (i / 2 ^ j.toNat)):=opI fun i j _ _ _ _ _ hc q =>
 rshift_int hc (by rw [Int.fdiv_eq_ediv_of_nonneg i (yV _)];exact q)
theorem Xl:OpR X (binaryOp .BitAnd) (rI0 fun i j=>.int (Builtin.bitAnd i j)):=Ze5 fun _ _ _ _ _ _ _ q=>and_int q
theorem qF:OpR X (binaryOp .BitOr) (rI0 fun i j=>.int (Builtin.bitOr i j)):=Ze5 fun _ _ _ _ _ _ _ q=>or_int q
theorem GR:OpR X (binaryOp .BitXor) (rI0 fun i j=>.int (Builtin.bitXor i j)):=Ze5 fun _ _ _ _ _ _ _ q=>xor_int q
theorem unI{f:Value->Sem Value}{g:Int->Int}
  (rule:∀(i:Int) (t:Tok) (s:Shared) (Q:Value->Shared->Prop) (E:Value->Shared->Prop),Q (.int (g i) s.toks) { s with toks:=s.toks + 1 }->wpAny (model X.prog X.w) X.A (f (.int i t)) Q E s) :
  UnR X f (rU fun i=>.int (g i)):=by
 intro pins s σ H x v Q I rx h
 obtain ⟨i,rfl,q⟩:=h
 obtain ⟨t,rfl⟩:=rx
 exact rule i t s _ _ ⟨.int (g i),H,I.tok _,⟨_,rfl⟩,q⟩
theorem WD:UnR X (unaryOp .USub) (rU fun i=>.int (-i)):=unI fun _ _ _ _ _ q=>neg_int q
theorem GS:UnR X (unaryOp .Invert) (rU fun i=>.int (Builtin.bitNot i)):=unI fun _ _ _ _ _ q=>invert_int q
end
noncomputable def scal:V->V->Bool
 | .non,.non=>true | .non,.int _=>true | .int _,.non=>true | .non,.bl _=>true | .bl _,.non=>true | .non,.str _=>true | .str _,.non=>true
 | .int _,.int _=>true | .bl _,.bl _=>true | .str _,.str _=>true | .byt _,.byt _=>true
 | .int _,.str _=>true | .str _,.int _=>true | .bl _,.str _=>true | .str _,.bl _=>true
 | _,_=>false
inductive Ze6(x:V)(y:V)(H:Hp)(Q:VK):Prop
 | mk  : (scal x y=true)->(Q (.bl (decide (x=y))) H)->Ze6 x y H Q
noncomputable def rEq  : R2:=fun x y H Q=>Ze6 x y H Q
inductive Ze7(x:V)(y:V)(H:Hp)(Q:VK):Prop
 | mk  : (scal x y=true)->(Q (.bl (!decide (x=y))) H)->Ze7 x y H Q
noncomputable def rNe  : R2:=fun x y H Q=>Ze7 x y H Q
theorem ky{i j:Int}:decide (V.int i=V.int j)=(i == j):=by
 rw [Qdl]
 simp
theorem Zbb{i j:Bool}:decide (V.bl i=V.bl j)=(i == j):=by
 rw [Qdl]
 simp
theorem kz{i j:Str}:decide (V.str i=V.str j)=(i == j):=by
 rw [Qdl]
 simp
theorem kA{i j:Array UInt8}:decide (V.byt i=V.byt j)=(i.toList == j.toList):=by
 rw [Qdl]
 cases i
 cases j
 simp
section
variable {X:Cx}{a b c:Expr}{ta tb tc:TE}{pos:Pos}
theorem ZW{pins:List (Addr × Obj)}{σ:St}{H:Hp}{s:Shared}{Q:VK}{k k':Bool}(I:Inv X pins σ H s)(q:Q (.bl k) H)(e:k=k'):EP X pins σ Q (.bool k') s:=by
 subst e
 exact ⟨.bl k,H,I,rfl,q⟩
theorem Yc:OpR X (compareOp .Eq) rEq:=by
 intro pins s σ H x y v u Q I rx ry h
 obtain ⟨hs,q⟩:=h
 cases x with
 | non =>
  cases rx
  cases y with
  | non=>cases ry;exact PySem.EqNone.eq_none_none (ZW I q (by simp))
  | bl j=>cases ry;exact PySem.EqNone.eq_none_bool (ZW I q (by simp))
  | int j=>obtain ⟨t',rfl⟩:=ry;exact PySem.EqNone.eq_none_int (ZW I q (by simp))
  | str j=>obtain ⟨t',rfl⟩:=ry;exact PySem.EqNone.eq_none_str (ZW I q (by simp))
  | _=>exact absurd (show false=true from hs) Qam
 | bl i =>
  cases rx
  cases y with
  | non=>cases ry;exact PySem.EqNone.eq_bool_none (ZW I q (by simp))
  | bl j=>cases ry;exact eq_bool (ZW I q Zbb)
  | str j=>obtain ⟨t',rfl⟩:=ry;exact PySem.EqMixed.eq_bool_str (ZW I q (by simp))
  | _=>exact absurd (show false=true from hs) Qam
 | int i =>
  obtain ⟨t,rfl⟩:=rx
  cases y with
  | non=>cases ry;exact PySem.EqNone.eq_int_none (ZW I q (by simp))
  | int j=>obtain ⟨t',rfl⟩:=ry;exact eq_int (ZW I q ky)
  | str j=>obtain ⟨t',rfl⟩:=ry;exact PySem.EqMixed.eq_int_str (ZW I q (by simp))
  | _=>exact absurd (show false=true from hs) Qam
 | str i =>
  obtain ⟨t,rfl⟩:=rx
  cases y with
  | non=>cases ry;exact PySem.EqNone.eq_str_none (ZW I q (by simp))
  | bl j=>cases ry;exact PySem.EqMixed.eq_str_bool (ZW I q (by simp))
  | int j=>obtain ⟨t',rfl⟩:=ry;exact PySem.EqMixed.eq_str_int (ZW I q (by simp))
  | str j=>obtain ⟨t',rfl⟩:=ry;exact eq_str (ZW I q kz)
  | _=>exact absurd (show false=true from hs) Qam
 | byt i =>
  obtain ⟨t,rfl⟩:=rx
  cases y with
  | byt j=>obtain ⟨t',rfl⟩:=ry;exact PySem.W.eq_bytes (ZW I q kA)
  | _=>exact absurd (show false=true from hs) Qam
 | _=>cases y <;> exact absurd (show false=true from hs) Qam
theorem Ze8:OpR X (compareOp .NotEq) rNe:=by
 intro pins s σ H x y v u Q I rx ry h
 obtain ⟨hs,q⟩:=h
 cases x with
 | non =>
  cases rx
  cases y with
  | non=>cases ry;exact PySem.EqNone.ne_none_none (ZW I q (by simp))
  | bl j=>cases ry;exact PySem.EqNone.ne_none_bool (ZW I q (by simp))
  | int j=>obtain ⟨t',rfl⟩:=ry;exact PySem.EqNone.ne_none_int (ZW I q (by simp))
  | str j=>obtain ⟨t',rfl⟩:=ry;exact PySem.EqNone.ne_none_str (ZW I q (by simp))
  | _=>exact absurd (show false=true from hs) Qam
 | bl i =>
  cases rx
  cases y with
  | non=>cases ry;exact PySem.EqNone.ne_bool_none (ZW I q (by simp))
  | bl j=>cases ry;exact ne_bool (ZW I q (congrArg not Zbb))
  | str j=>obtain ⟨t',rfl⟩:=ry;exact PySem.EqMixed.ne_bool_str (ZW I q (by simp))
  | _=>exact absurd (show false=true from hs) Qam
 | int i =>
  obtain ⟨t,rfl⟩:=rx
  cases y with
  | non=>cases ry;exact PySem.EqNone.ne_int_none (ZW I q (by simp))
  | int j=>obtain ⟨t',rfl⟩:=ry;exact ne_int (ZW I q (congrArg not ky))
  | str j=>obtain ⟨t',rfl⟩:=ry;exact PySem.EqMixed.ne_int_str (ZW I q (by simp))
  | _=>exact absurd (show false=true from hs) Qam
 | str i =>
  obtain ⟨t,rfl⟩:=rx
  cases y with
  | non=>cases ry;exact PySem.EqNone.ne_str_none (ZW I q (by simp))
  | bl j=>cases ry;exact PySem.EqMixed.ne_str_bool (ZW I q (by simp))
  | int j=>obtain ⟨t',rfl⟩:=ry;exact PySem.EqMixed.ne_str_int (ZW I q (by simp))
  | str j=>obtain ⟨t',rfl⟩:=ry;exact ne_str (ZW I q (congrArg not kz))
  | _=>exact absurd (show false=true from hs) Qam
 | byt i =>
  obtain ⟨t,rfl⟩:=rx
  cases y with
  | byt j=>obtain ⟨t',rfl⟩:=ry;exact PySem.W.ne_bytes (ZW I q (congrArg not kA))
  | _=>exact absurd (show false=true from hs) Qam
 | _=>cases y <;> exact absurd (show false=true from hs) Qam
theorem yW:OpR X (compareOp .Lt) (rI0 fun i j=>.bl (decide (i < j))):=Zf0 fun _ _ _ _ _ _ _ q=>lt_int q
theorem op_le:OpR X (compareOp .LtE) (rI0 fun i j=>.bl (decide (i<=j))):=Zf0 fun _ _ _ _ _ _ _ q=>le_int q
theorem Ze9:OpR X (compareOp .Gt) (rI0 fun i j=>.bl (decide (j < i))):=Zf0 fun _ _ _ _ _ _ _ q=>gt_int q
theorem op_ge:OpR X (compareOp .GtE) (rI0 fun i j=>.bl (decide (j<=i))):=Zf0 fun _ _ _ _ _ _ _ q=>ge_int q
theorem OpR.or{f:Value->Value->Sem Value}{r r':R2}(h:OpR X f r)(h':OpR X f r'):OpR X f (fun x y H Q=>r x y H Q\/r' x y H Q):=by
 intro pins s σ H x y v u Q I rx ry q
 rcases q with q | q
 ·exact h pins s σ H x y v u Q I rx ry q
 ·exact h' pins s σ H x y v u Q I rx ry q
theorem Z6(b:Expr){op:CmpOp}(h:op≠.In:=by decide)(h2:op≠.NotIn:=by decide):behindInMarks op b=false:=by
 have e1:(op == CmpOp.In)=false:=by cases op <;> first | rfl | exact absurd rfl h
 have e2:(op == CmpOp.NotIn)=false:=by cases op <;> first | rfl | exact absurd rfl h2
 cases b <;> simp [behindInMarks,e1,e2]
theorem Zcy{op:CmpOp}{r:R2}(ho:OpR X (compareOp op) r)(ha:PE X a ta)(hb:PE X b tb)(hm:behindInMarks op b=false):PE X (.Compare a [op] [b] pos) (tOp r ta tb):=by
 intro pins s σ H Q I h
 exact wpAny_Compare1 (binT ha hb I h fun v u s2 x y H2 I2 rx ry q=>ho pins s2 σ H2 x y v u Q I2 rx ry q) hm
inductive kB(Q:Bool->Hp->Prop)(x:V)(H':Hp):Prop
 | mk (k):(x=.bl k)->(Q k H')->kB Q x H'
noncomputable def Zcz(t:TE):TT:=fun σ H Q=>t σ H fun x H'=>kB Q x H'
theorem Zc0{op:CmpOp}{r:R2}(ho:OpR X (compareOp op) r)(ha:PE X a ta)(hb:PE X b tb)(hm:behindInMarks op b=false):PT X (.Compare a [op] [b] pos) (Zcz (tOp r ta tb)):=by
 intro pins s σ H Q I h
 refine wpAny_isTrue_Compare1 (thn (ha pins s σ H _ I h) fun v s1 ⟨x,H1,I1,r1,q1⟩=>thn (hb pins s1 σ H1 _ I1 q1) fun u s2 ⟨y,H2,I2,r2,q2⟩ =>
  thn (ho pins s2 σ H2 x y v u _ I2 r1 r2 q2) fun c s3 zq9=>?_) hm;obtain ⟨z,H3,I3,r3,k,e,q3⟩:=zq9
 subst e
 cases r3
 exact wpAny_truthy_bool ⟨H3,I3,q3⟩
theorem GU:(sizeLine:Nat) < 2 ^ 63:=by rw [sizeLine_eq];decide
theorem JJ:OpR X (binaryOp .Add) (fun x y H Q=>∃i j,x=.str i/\y=.str j/\i.length + j.length<=sizeLine/\Q (.str (i++j)) H):=by
 intro pins s σ H x y v u Q I rx ry h
 (refine Oe2a3 h fun i j zo30 zo31 hz q=>?_;obtain rfl:=zo30;obtain rfl:=zo31;clear h)
 obtain ⟨t,rfl⟩:=rx
 obtain ⟨t',rfl⟩:=ry
 exact add_str (fun t' tk=>⟨.str (i++j),H,I.tok _,⟨_,rfl⟩,q⟩) hz
theorem vals1{x:V}{us:List Value}(r:Vals [x] us):∃u,us=[u]/\RelV x u:=by
 cases r with
 | cons r1 r2=>cases r2;exact ⟨_,rfl,r1⟩
theorem vals2{x y:V}{us:List Value}(r:Vals [x,y] us):∃u w',us=[u,w']/\RelV x u/\RelV y w':=by
 cases r with
 | cons r1 r2 =>
  cases r2 with
  | cons r3 r4=>cases r4;exact ⟨_,_,rfl,r1,r3⟩
theorem uv:XM X (.builtin "abs") (fun xs H Q=>∃i,xs=[.int i]/\Q (.int (if i < 0 then -i else i)) H):=by
 intro pins s σ H xs us Q I r h
 (refine Oe1a1 h fun i zo32 q=>?_;obtain rfl:=zo32;clear h)
 (refine Oe1a1 (vals1 r) fun u zo33 zo34=>?_;obtain rfl:=zo33;obtain ⟨t,rfl⟩:=zo34)
 exact call_abs_int fun u tk=>⟨.int (if i < 0 then -i else i),H,I.tok _,⟨_,rfl⟩,q⟩
theorem kC (hc:X.calm=true):XM X (.builtin "max") (fun xs H Q=>∃i j,xs=[.int i,.int j]/\Q (.int (if j > i then j else i)) H):=by
 intro pins s σ H xs us Q I r h
 (refine Oe2a1 h fun i j zo35 q=>?_;obtain rfl:=zo35;clear h)
 (refine Oe2a2 (vals2 r) fun u w' zo36 zo37 zo38=>?_;obtain rfl:=zo36;obtain ⟨t,rfl⟩:=zo37;obtain ⟨t',rfl⟩:=zo38)
 refine max_two_ints (I.ok.hd hc) fun h' tk k=>⟨_,H,I.kept k,?_,q⟩
 by_cases hj:j > i
 ·rw [Qan hj,Qan hj];exact ⟨_,rfl⟩
 ·rw [Qal hj,Qal hj];exact ⟨_,rfl⟩
theorem kD (hc:X.calm=true):XM X (.builtin "min") (fun xs H Q=>∃i j,xs=[.int i,.int j]/\Q (.int (if j < i then j else i)) H):=by
 intro pins s σ H xs us Q I r h
 (refine Oe2a1 h fun i j zo39 q=>?_;obtain rfl:=zo39;clear h)
 (refine Oe2a2 (vals2 r) fun u w' zo40 zo41 zo42=>?_;obtain rfl:=zo40;obtain ⟨t,rfl⟩:=zo41;obtain ⟨t',rfl⟩:=zo42)
 refine min_two_ints (I.ok.hd hc) fun h' tk k=>⟨_,H,I.kept k,?_,q⟩
 by_cases hj:j < i
 ·rw [Qan hj,Qan hj];exact ⟨_,rfl⟩
 ·rw [Qal hj,Qal hj];exact ⟨_,rfl⟩
theorem kE:XM X (.type "int") (fun xs H Q=>(∃i,xs=[.int i]/\Q (.int i) H)\/∃k,xs=[.bl k]/\Q (.int (if k then 1 else 0)) H):=by
 intro pins s σ H xs us Q I r h
 rcases h with ⟨i,rfl,q⟩ | ⟨k,rfl,q⟩
 ·(refine Oe1a1 (vals1 r) fun u zo43 zo44=>?_;obtain rfl:=zo43;obtain ⟨t,rfl⟩:=zo44)
  exact call_int_int ⟨.int i,H,I,⟨_,rfl⟩,q⟩
 ·(refine Oe1a1 (vals1 r) fun u zo45 r1=>?_;obtain rfl:=zo45)
  cases r1
  exact call_int_bool ⟨.int (if k then 1 else 0),H,I.tok _,⟨_,rfl⟩,q⟩
end
structure ObjM(h:Heap)(x dx C:Addr)(mA:Str->Option Value):Prop where
 obj:h.get? x=some (PySem.W.instObj C dx)
 ns:h.Ns1 dx mA
 ne:dx≠x
theorem kF{h:Heap}{dx:Addr}{mA:Str->Option Value}(n:h.Ns1 dx mA):∃od,h.get? dx=some od/\∀name,PySem.W.lookIn name od=some (mA name):=by
 (refine Oe3a4 n fun o es ep ho hd hk _ hm=>?_;clear n)
 refine ⟨o,ho,fun name=>?_⟩
 have e:=hm name
 unfold nsFind findBy at e
 rw [<-Array.find?_toList] at e
 unfold PySem.W.lookIn
 rw [hd]
 dsimp only
 split
 ·rename_i y q
  rw [q] at e
  exact congrArg some e
 ·rename_i q
  rw [q] at e
  have a:es.toList.any (·.refKey)=false:=by
   rw [List.any_eq_false]
   intro y hy
   refine Oe2a0 (hk y (Array.mem_toList_iff.mp hy)) fun z t hkey=>?_
   simp [DictEntry.refKey,hkey]
  have a':¬es.toList.any (·.refKey)=true:=by rw [a];exact Qam
  rw [Qal a']
  exact congrArg some e
theorem ObjM.look{h:Heap}{x dx C:Addr}{mA:Str->Option Value}(I:ObjM h x dx C mA):∃od,PySem.W.InstAt h x (PySem.W.instObj C dx) C (some od)/\∀name,PySem.W.lookIn name od=some (mA name) :=
 let ⟨od,ho,hl⟩:=kF I.ns
 ⟨od,⟨I.obj,rfl,rfl,ho⟩,hl⟩
section
variable {prog:Program}{w:World}{A:Around}{E:Value->Shared->Prop}{s:Shared}{K:PySem.W.Frag}{x dx C f:Addr}{mA:Str->Option Value}{name:Str}{v:Value}
end
theorem yS.some_of{v:V}{o:Option Value}(r:yS (some v) o):∃u,o=some u/\RelV v u:=by
 cases o with
 | none=>exact (show False from r).elim
 | some u=>exact ⟨u,rfl,r⟩
section
variable {P:Program}{w:World}{H H':Hp}{h h':Heap}{a C dx:Addr}{fs fs':List (Str × V)}
theorem Zc1(hok:HOk P w H h)(e:H a=some (.ins C dx fs)):∃mA,ObjM h a dx C mA/\(∀f,yS (fs.lookup f) (mA f))/\PySem.Within mA (fs.map (·.1))/\fs.length<=1000/\H dx=some (.own a):=by
 (refine Oe0a4 ((show Yq P w H h a (.ins C dx fs) from hok a _ e)) fun d z ne ob zo46=>?_;refine Oe1a2 zo46 fun mA n r q=>?_;clear zo46)
 exact ⟨mA,⟨ob,n,ne⟩,r,q,z,d⟩
end
structure Cls(K:PySem.W.Frag)(C:Addr):Prop where
 pg:PySem.W.plainGet K C Str.empty=true
 hd:PySem.W.hasDictIn K C=true
 po:PySem.W.plainOver K C=true
 sa:PySem.W.findIn K (.ref C) "__setattr__" = some (some (.builtin "object.__setattr__"))
theorem Cls.get{K:PySem.W.Frag}{C:Addr}(c:Cls K C)(f:Str):PySem.W.plainGet K C f=true:=c.pg
section
variable {X:Cx}{pins:List (Addr × Obj)}{σ:St}{H:Hp}{s:Shared}{a C dx:Addr}{fs:List (Str × V)}{f:Str}{v:V}{A:Around}{E:Value->Shared->Prop}
end
section
variable {X:Cx}{o e value:Expr}{f:Str}{pos pos' tpos:Pos}{ta tv:TE}
end
section
variable {X:Cx}{pins:List (Addr × Obj)}{σ:St}{H:Hp}{s:Shared}{A:Around}{E:Value->Shared->Prop}{Q:Value->Shared->Prop}{c:Value}{b:Bool}
inductive yX(K:PySem.W.Frag)(H:Hp):V->Value->Prop where
 | non:yX K H .non (.type "NoneType")
 | bl (x:Bool):yX K H (.bl x) (.type "bool")
 | int (i:Int):yX K H (.int i) (.type "int")
 | str (x:Str):yX K H (.str x) (.type "str")
 | flt (x:UInt64):yX K H (.flt x) (.type "float")
 | lst {a:Addr} {xs:List V} (e:H a=some (.lst xs)):yX K H (.ref a) (.type "list")
 | frz {a:Addr} {o:Obj} {xs:List V} (e:H a=some (.frz o (.lst xs))):yX K H (.ref a) (.type "list")
 | tup {a:Addr} {xs:List V} (e:H a=some (.tup xs)):yX K H (.ref a) (.type "tuple")
 | dK {a:Addr} {kvs:List (Key × V)} (e:H a=some (.dK kvs)):yX K H (.ref a) (.type "dict")
 | dT {a:Addr} {kvs:List (List Key × V)} (e:H a=some (.dT kvs)):yX K H (.ref a) (.type "dict")
 | ins {a C dx:Addr} {fs:List (Str × V)} (e:H a=some (.ins C dx fs)) (cl:Cls K C) (ha:PySem.W.findIn K (.ref C) "__class__" = some (some (.builtin "object.__class__")))
   (hn:PySem.W.specialIn K (.builtin "object.__class__") "__get__" = some (some (.builtin "getset_descriptor.__get__"))) (htk:PySem.W.takesIn K (.builtin "object.__class__")=some true)
   (hm:PySem.W.mroIn K C (.type "object")=some true):yX K H (.ref a) (.ref C)
theorem kG{x:V}{u t:Value}(I:Inv X pins σ H s)(rx:RelV x u)(ty:yX X.K H x t)(e:PySem.W.kitOne X.K t c=some b)(h:∀tk,Q (.bool b) { s with toks:=tk }) :
  wpAny (model X.prog X.w) A (call (.builtin "isinstance") [u,c]) Q E s:=by
 cases ty with
 | non=>cases (show u=Value.none from rx);exact Qb7 PySem.W.kitx_none I.kIn True.intro e (fun z=>nomatch z) h
 | bl y=>cases (show u=Value.bool y from rx);exact Qb7 PySem.W.kitx_bool I.kIn True.intro e (fun z=>nomatch z) h
 | int i=>obtain ⟨t,q⟩:=(show ∃t,u=Value.int i t from rx);cases q;exact Qb7 PySem.W.kitx_int I.kIn True.intro e (fun z=>nomatch z) h
 | str y=>obtain ⟨t,q⟩:=(show ∃t,u=Value.str y t from rx);cases q;exact Qb7 PySem.W.kitx_str I.kIn True.intro e (fun z=>nomatch z) h
 | flt y=>obtain ⟨t,q⟩:=(show ∃t,u=Value.float y t from rx);cases q;exact Qb7 PySem.W.kitx_float I.kIn True.intro e (fun z=>nomatch z) h
 | @lst a xs ea =>
  cases (show u=Value.ref a from rx)
  obtain ⟨_,_,n,_,h1⟩:=(show Yq X.prog X.w H s.heap a (.lst xs) from I.hok a _ ea)
  exact Qb7 PySem.W.kitx_list I.kIn ⟨_,h1,rfl⟩ e (fun z=>nomatch z) h
 | @frz a ob xs ea =>
  cases (show u=Value.ref a from rx)
  (refine Oe0a2 ((show Yq X.prog X.w H s.heap a (.frz ob (.lst xs)) from I.hok a _ ea)) fun _ _ zo47=>?_;refine Oe2a1 zo47 fun _ n _ h1=>?_;clear zo47)
  exact Qb7 PySem.W.kitx_list I.kIn ⟨_,h1,rfl⟩ e (fun z=>nomatch z) h
 | @tup a xs ea =>
  cases (show u=Value.ref a from rx)
  obtain ⟨_,_,_,p⟩:=(show Yq X.prog X.w H s.heap a (.tup xs) from I.hok a _ ea)
  (refine Oe1a2 p fun o h1 h2 _=>?_;clear p)
  exact Qb7 PySem.W.kitx_tuple I.kIn ⟨o,h1,h2⟩ e (fun z=>nomatch z) h
 | @dK a kvs ea =>
  cases (show u=Value.ref a from rx)
  (refine Oe0a2 ((show Yq X.prog X.w H s.heap a (.dK kvs) from I.hok a _ ea)) fun _ _ zo48=>?_;refine Oe1a1 zo48 fun vs _ p=>?_;clear zo48)
  (refine Oe3a2 p fun o es ep h1 h2 _=>?_;clear p)
  exact Qb7 PySem.W.kitx_dict I.kIn ⟨o,h1,h2.1⟩ e (fun z=>nomatch z) h
 | @dT a kvs ea =>
  cases (show u=Value.ref a from rx)
  (refine Oe0a2 ((show Yq X.prog X.w H s.heap a (.dT kvs) from I.hok a _ ea)) fun _ _ zo49=>?_;refine Oe1a1 zo49 fun xs _ zo50=>?_;refine Oe3a2 zo50 fun o es ep h1 h2 _=>?_;clear zo50;clear zo49)
  exact Qb7 PySem.W.kitx_dict I.kIn ⟨o,h1,h2.1⟩ e (fun z=>nomatch z) h
 | @ins a C dx fs ea cl ha hn htk hm =>
  cases (show u=Value.ref a from rx)
  refine Oe1a1 (Zc1 I.hok ea) fun mA O _=>?_
  refine Oe1a1 O.look fun od J _=>?_
  exact Qb7 (PySem.W.kitx_own (cl.get _) cl.hd ha hn htk hm) I.kIn J e (fun z=>nomatch z) h
end
structure Jf(k:Nat)(A:Around):Prop where
 hd:A.handled=none
 dp:A.depth + 3 * k + 5 < recursionLimit
 un:A.units + 16 * k + 200 < cLine
theorem Jf.mono{j k:Nat}{A:Around}(r:Jf k A)(h:j<=k):Jf j A:=⟨r.hd,by have:=r.dp;lia,by have:=r.un;lia⟩
theorem Jf.deeper{k:Nat}{A:Around}(r:Jf (k + 1) A)(env:Env):Jf k (A.deeper env) :=
 ⟨r.hd,by have:=r.dp;show A.depth + 1 + 3 * k + 5 < _;lia,by have:=r.un;show A.units + 3 + 16 * k + 200 < _;lia⟩
theorem Jf.depth{k:Nat}{A:Around}(r:Jf k A):A.depth < recursionLimit:=by have:=r.dp;lia
theorem Jf.units{k:Nat}{A:Around}(r:Jf k A):A.units + 64 < cLine:=by have:=r.un;lia
noncomputable def Zev:TA:=fun _ H Q=>Q [] H
noncomputable def qG(ta:TE)(tr:TA):TA:=fun σ H Q=>ta σ H fun x H1=>tr σ H1 fun xs H2=>Q (x::xs) H2
section
variable {X:Cx}{e:Expr}{es:List Expr}{te:TE}{t:TA}{pos:Pos}
theorem pa_nil:PA X [] Zev:=fun _ _ _ _ H Q I h=>Calls.spliced_nil ⟨[],H,I,.nil,h⟩
theorem Zc2(ha:PE X e te)(hr:PA X es t)(hs:starEach (e::es) X.env=(false,eval e X.env)::starEach es X.env:=by rfl):PA X (e::es) (qG te t):=by
 intro pos pins s σ H Q I h
 rw [hs]
 show wpAny _ _ (spliced ((false,eval e X.env)::backTo pos (starEach es X.env))) _ _ s
 refine Calls.spliced_cons (thn (ha pins s σ H _ I h) fun u s1 zq9=>?_);obtain ⟨x,H1,I1,r1,q1⟩:=zq9
 exact thn (hr pos pins s1 σ H1 _ I1 q1) fun us s2 ⟨xs,H2,I2,r2,q2⟩=>⟨x::xs,H2,I2,.cons r1 r2,q2⟩
inductive Zbc(Q:VK)(xs:List V)(H1:Hp):Prop
 | mk  : (xs.length<=sizeLine)->(∀p,H1 p=none->Q (.ref p) (upd H1 p (.tup xs)))->Zbc Q xs H1
noncomputable def tTup(t:TA):TE:=fun σ H Q=>t σ H fun xs H1=>Zbc Q xs H1
inductive Zbd(Q:VK)(xs:List V)(H1:Hp):Prop
 | mk  : (xs.length<=sizeLine)->(∀p,H1 p=none->Q (.ref p) (upd H1 p (.lst xs)))->Zbd Q xs H1
noncomputable def tLst(t:TA):TE:=fun σ H Q=>t σ H fun xs H1=>Zbd Q xs H1
theorem pe_tup{x1}(h:PA X es t):PE X (.Tuple es x1 pos) (tTup t):=by
 intro pins s σ H Q I hq
 refine wpAny_Tuple_spliced (thn (h pos pins s σ H _ I hq) fun us s1 ⟨xs,H1,I1,r,z,q⟩=>⟨by rw [<-r.length];exact z,?_⟩)
 have hf:H1 s1.heap.objs.size=none:=I1.hok.fresh (Qah _)
 refine ⟨.ref s1.heap.objs.size,upd H1 s1.heap.objs.size (.tup xs),I1.laid (t':=s1.toks) (fun b u e=>Heap.get?_push_of_some _ e) (Qah _) ?_,rfl,q _ hf⟩
 exact ⟨z,us,r,⟨_,Heap.get?_push_size _ rfl,rfl,_,rfl⟩⟩
theorem pe_lst(h:PA X es t):PE X (.List es pos) (tLst t):=by
 intro pins s σ H Q I hq
 refine wpAny_List_spliced (thn (h pos pins s σ H _ I hq) fun us s1 ⟨xs,H1,I1,r,z,q⟩=>⟨by rw [<-r.length];exact z,?_⟩)
 have hf:H1 s1.heap.objs.size=none:=I1.hok.fresh (Qah _)
 refine ⟨.ref s1.heap.objs.size,upd H1 s1.heap.objs.size (.lst xs),I1.laid (t':=s1.toks) (fun b u e=>Heap.get?_push_of_some _ e) (Qah _) ?_,rfl,q _ hf⟩
 exact ⟨z,us,0,r,Heap.get?_push_size _ rfl⟩
end
noncomputable abbrev Sp:=List V->Hp->VK->XK->Prop
noncomputable abbrev CXT:=List Env->Hp->Shared->XK->Value->Shared->Prop
structure uw(P:Program)(w:World)(K:PySem.W.Frag)(mg:Str->Option Value)(base:Heap)(A:Around)(outer:List Env)(s:Shared)(H:Hp):Prop where
 frames:A.frames=some outer
 mod:Mod K mg base
 bs:∀b o,base.get? b=some o->s.heap.get? b=some o/\H b=none
 bsz:base.objs.size<=s.heap.objs.size
 funs:s.heap.FunFrames base outer
 frf:∀b∈frs outer,H b=none
 hok:HOk P w H s.heap
 bare:AllBare s.gens
noncomputable def CE(outer:List Env)(P:Program)(w:World)(H:Hp)(s:Shared)(Q:VK)(u:Value)(s':Shared):Prop :=
 ∃v H',s'.os=s.os/\AllBare s'.gens/\Un (frs outer) [] H H' s.heap s'.heap/\HOk P w H' s'.heap/\RelV v u/\Q v H'
noncomputable def CR(CX:CXT)(outer:List Env)(P:Program)(w:World)(H:Hp)(s:Shared)(Q:VK)(E:XK)(r:Result)(s':Shared):Prop :=
 match r with
 | .ok (.ret u)=>CE outer P w H s Q u s'
 | .ok _=>False
 | .error e=>CX outer H s E e s'
structure ZO(P:Program)(w:World)(K:PySem.W.Frag)(mg:Str->Option Value)(base:Heap)(CX:CXT)(k:Nat)(f:Addr)(fd:FuncData)(ps:List Str)(sp:Sp):Prop where
 len:∀vs H Q E,sp vs H Q E->vs.length=ps.length
 run:∀(A:Around) (outer:List Env) (s:Shared) (H:Hp) (args:Args) (us:List Value) (vs:List V) (Q:VK) (E:XK),Jf k A->uw P w K mg base A outer s H->BindsTo s fd args (ps.zip us)->Vals vs us->sp vs H Q E ->
  codeAny (model P w) A (.call (.ref f) args) (CR CX outer P w H s Q E) s
section
variable {X:Cx}{pins:List (Addr × Obj)}{σ:St}{H:Hp}{s s':Shared}
theorem Inv.env0(I:Inv X pins σ H s):uw X.prog X.w X.K X.mg X.base X.A X.stack s H :=
 ⟨I.ok.frames,I.ok.mod,I.bs,Qbe I.ok.bsz I.sz,I.stack,I.stkFree,I.hok,I.bare⟩
theorem Inv.after{Q:VK}{u:Value}(I:Inv X pins σ H s)(h:CE X.stack X.prog X.w H s Q u s'):EP X pins σ Q u s':=by
 (refine Oe2a5 h fun v H' os bare un hok r q=>?_;clear h)
 obtain ⟨hh,g,d,t,os'⟩:=s'
 obtain rfl:os'=s.os:=os
 exact ⟨v,H',I.call (h':=hh) (g':=g) (d':=d) (t':=t) (ch:=[]) un hok bare (fun b z=>absurd z (by simp)),r,q⟩
end
noncomputable def yY(sp:Sp)(dvs:List V)(E:XK)(t:TA):TE:=fun σ H Q=>t σ H fun vs H1=>sp (vs++dvs) H1 Q E
noncomputable def Binds(K:PySem.W.Frag)(fd:FuncData)(ps:List Str)(ds:List Value):Prop :=
 ∀(s:Shared) (us:List Value),K.In s.heap->(us++ds).length=ps.length->BindsTo s fd ⟨us,[]⟩ (ps.zip (us++ds))
theorem Binds.all{K:PySem.W.Frag}{fd:FuncData}{ps:List Str}(h:∀us:List Value,us.length=ps.length->bindArgs fd ⟨us,[]⟩=pure (ps.zip us)):Binds K fd ps []:=fun s us _ hl=>by
 rw [Qa3] at hl ⊢
 exact .of_eq (h us hl)
noncomputable def Passes(CX:CXT)(X:Cx)(E:XK):Prop:=∀(pins:List (Addr × Obj)) (σ:St) (H:Hp) (s:Shared) (e:Value) (s':Shared),Inv X pins σ H s->CX X.stack H s E e s'->X.xe e s'
section
variable {X:Cx}{CX:CXT}{k:Nat}{f C:Addr}{fd:FuncData}{ps:List Str}{sp:Sp}{dvs:List V}{ds:List Value}{E:XK}{x m:Str}{p pos apos:Pos}{e o:Expr}{es:List Expr}{ta:TE}{t:TA}
theorem run_fn{pins:List (Addr × Obj)}{σ:St}{H:Hp}{s:Shared}{Q:VK}{us:List Value}{vs:List V}(F:ZO X.prog X.w X.K X.mg X.base CX k f fd ps sp)(hr:Jf k X.A)(hb:Binds X.K fd ps ds)(hd:Vals dvs ds)(hx:Passes CX X E)
  (I:Inv X pins σ H s) (r:Vals vs us) (h:sp (vs++dvs) H Q E):wpAny (model X.prog X.w) X.A (call (.ref f) us) (EP X pins σ Q) X.xe s:=by
 have r2:Vals (vs++dvs) (us++ds):=r.append hd
 have hl:(us++ds).length=ps.length:=by rw [<-r2.length];exact F.len _ _ _ _ h
 refine wpAny_call (codeAny_mono (F.run X.A X.stack s H ⟨us,[]⟩ (us++ds) (vs++dvs) Q E hr I.env0 (hb s us I.kIn hl) r2 h) fun r s' hq=>?_)
 cases r with
 | error e=>exact hx pins σ H s e s' I hq
 | ok fl =>
  cases fl with
  | ret u=>exact I.after hq
  | next=>exact False.elim hq
  | brk=>exact False.elim hq
  | cont=>exact False.elim hq
theorem Zc3(F:ZO X.prog X.w X.K X.mg X.base CX k f fd ps sp)(hr:Jf k X.A)(hg:Gl X x)(hm:X.mg x=some (.ref f))(hk:PySem.W.keepIn X.K (.ref f)=true)(hb:Binds X.K fd ps ds)(hd:Vals dvs ds)(hx:Passes CX X E)
  (ha:PA X (e::es) t) (hdb:(x == ("__debug__" : Str))=false:=by decide) (he:starEach (e::es) X.env=(false,eval e X.env)::starEach es X.env:=by rfl) (hpl:(backTo pos (starEach es X.env)).any (·.1)=false:=by rfl) :
  PE X (.Call (.Name x p) (e::es) [] pos) (yY sp dvs E t):=by
 intro pins s σ H Q I h
 refine wpAny_Call_Name_kw (jk I hg hm ?_ hdb)
 refine PySem.W.callWith_K (h₀:=X.base) I.ok.mod.kin hk (thn (ha pos pins s σ H _ I h) fun us s1 ⟨vs,H1,I1,r,q⟩=>⟨I1.kIn,?_⟩) he hpl
 exact run_fn F hr hb hd hx I1 r q
end
section
variable {X:Cx}{CX:CXT}{k:Nat}{f C:Addr}{fd:FuncData}{ps ks:List Str}{sp:Sp}{E:XK}{x m:Str}{p pos apos kpos:Pos}{e o:Expr}{es:List Expr}{kws:List Keyword}{te ta:TE}{t tk:TA}{nm:Option Str}
variable {g:List Value->List Value->List Value}{gV:List V->List V->List V}
end
structure Z4(N P:List Str)(sc:Scope):Prop where
 kind:sc.kind=.function
 co:sc.isCoroutine=false
 gen:sc.isGenerator=false
 nd:N.Nodup
 pre:N.take P.length=P
 par:∀x∈P,sc.names.lookup x=some .local\/sc.names.lookup x=some .cell
 nofree:∀y∈sc.names,y.2≠.free
theorem zo{kindOf:Str->Option NameKind}{x:Str}:∀{binds:List (Str × Value)} {m:Str->Option Value},(∀v,(x,v)∉binds)->bindL kindOf binds m x=m x
 | [],_,_=>rfl
 | (n,v)::r,m,h=>by
  unfold bindL
  rw [zo fun w hw=>h w (Qag _ hw)]
  split
  ·have:x≠n:=by rintro rfl;exact h v Qaf
   simp [this]
  ·rfl
theorem zp{kindOf:Str->Option NameKind}{x:Str}:∀{binds:List (Str × Value)} {m:Str->Option Value},(∀v,(x,v)∉binds)->bindC kindOf binds m x=m x
 | [],_,_=>rfl
 | (n,v)::r,m,h=>by
  unfold bindC
  rw [zp fun w hw=>h w (Qag _ hw)]
  split
  ·rfl
  ·have:x≠n:=by rintro rfl;exact h v Qaf
   simp [this]
theorem zq{kindOf:Str->Option NameKind}{x:Str}{v:Value}:∀{P:List Str} {vs:List Value} {i:Nat} {m:Str->Option Value},P.Nodup->P[i]?=some x->vs[i]?=some v->kindOf x=some .local ->
  bindL kindOf (P.zip vs) m x=some v
 | [],_,_,_,_,h,_,_=>by simp at h
 | _::_,[],_,_,_,_,h,_=>by simp at h
 | p::P,w::vs,0,m,nd,h1,h2,hk=>by
  simp at h1 h2;subst h1;subst h2
  show bindL kindOf ((p,w)::P.zip vs) m p=_
  unfold bindL
  rw [zo fun v hv=>(Qbu.mp nd).1 (Qd5 hv).1,Qan hk]
  simp
 | p::P,w::vs,i + 1,m,nd,h1,h2,hk=>by
  show bindL kindOf ((p,w)::P.zip vs) m x=_
  unfold bindL
  exact zq (i:=i) (Qbu.mp nd).2 (by simpa using h1) (by simpa using h2) hk
theorem zr{kindOf:Str->Option NameKind}{x:Str}{v:Value}:∀{P:List Str} {vs:List Value} {i:Nat} {m:Str->Option Value},P.Nodup->P[i]?=some x->vs[i]?=some v->kindOf x≠some .local ->
  bindC kindOf (P.zip vs) m x=some v
 | [],_,_,_,_,h,_,_=>by simp at h
 | _::_,[],_,_,_,_,h,_=>by simp at h
 | p::P,w::vs,0,m,nd,h1,h2,hk=>by
  simp at h1 h2;subst h1;subst h2
  show bindC kindOf ((p,w)::P.zip vs) m p=_
  unfold bindC
  rw [zp fun v hv=>(Qbu.mp nd).1 (Qd5 hv).1,Qal hk]
  simp
 | p::P,w::vs,i + 1,m,nd,h1,h2,hk=>by
  show bindC kindOf ((p,w)::P.zip vs) m x=_
  unfold bindC
  exact zr (i:=i) (Qbu.mp nd).2 (by simpa using h1) (by simpa using h2) hk
noncomputable def start(N:List Str)(vs:List V):St:=vs.map some++List.replicate (N.length - vs.length) none
noncomputable def ux(CX:CXT)(P:Program)(w:World)(K:PySem.W.Frag)(mg:Str->Option Value)(base:Heap)(N:List Str)(qual:Str)(scope:Scope)(f:Addr)(cd:Value)(A:Around)(outer:List Env)(s:Shared)(H:Hp)(E:XK):Cx where
 prog:=P
 w:=w
 K:=K
 mg:=mg
 base:=base
 A:=A.deeper (envOfC qual scope s.heap.objs.size f cd)
 N:=N
 s₀:=s
 H₀:=H
 env:=envOfC qual scope s.heap.objs.size f cd
 outer:=outer
 stack:=envOfC qual scope s.heap.objs.size f cd::outer
 ex:=[]
 calm:=true
 fn:=fun _=>true
 pn:=[]
 xe:=fun e s'=>wpAny (model P w) (A.deeper (envOfC qual scope s.heap.objs.size f cd)) (leaving (envOfC qual scope s.heap.objs.size f cd) e) (fun _ s''=>CX outer H s E e s'') (fun e' s''=>CX outer H s E e' s'') s'
theorem GB{sc:Scope}{n:Nat}{x:Str}(h:sc.names.lookup x=some .cell):∃c,(cellsFrom n sc.names []).lookup x=some c:=by
 have q:=PySem.W.cellsFrom_some sc.names n [] (.inl h)
 exact Option.isSome_iff_exists.mp q
theorem kH{CX:CXT}{P:Program}{w:World}{K:PySem.W.Frag}{mg:Str->Option Value}{base:Heap}{N ps:List Str}{qual:Str}{scope:Scope}{f:Addr}{cd:Value}{A:Around}{outer:List Env}{s s1:Shared}{H:Hp}{E:XK}{us:List Value}{vs:List V}
  (S:Z4 N ps scope) (hd:A.handled=none) (e0:uw P w K mg base A outer s H) (hl:vs.length=ps.length) (r:Vals vs us)
  (x:InCallC s s.heap.objs.size (bindL (envOfC qual scope s.heap.objs.size f cd).kindOf (ps.zip us) fun _=>none) (cellsFrom (s.heap.objs.size + 1) scope.names []) (bindC (envOfC qual scope s.heap.objs.size f cd).kindOf (ps.zip us) fun _=>none) s1) :
  Inv (ux CX P w K mg base N qual scope f cd A outer s H E) [] (start N vs) H s1:=by
 have hpl:ps.length<=N.length:=by have:=congrArg List.length S.pre;rw [Qav] at this;lia
 (refine Oe2a1 x.done fun h1 tk zo51 hk=>?_;obtain rfl:=zo51)
 have noA:∀b:Addr,b∉(ux CX P w K mg base N qual scope f cd A outer s H E).ex:=fun b z=>absurd (show b∈([]:List Addr) from z) (by simp)
 refine ⟨⟨e0.mod,S.kind,rfl,rfl,Qah _,fun y z c h1 h2=>?_,fun y hy=>?_,fun y c _ h=>?_,fun _=>hd,Around.frames_deeper e0.frames,.inr ⟨rfl,rfl⟩,fun b z=>absurd z (noA b),e0.bs,e0.bsz,fun b _ _=>noA b,fun b z=>absurd z (noA b),e0.funs,e0.frf⟩,
  rfl,e0.bare,Un.kept hk,⟨_,x.toInCall.ns,fun i y v h1 h2 h3=>?_⟩,fun y c h=>⟨_,x.cell y c h⟩,e0.hok.fresh (Qah _),fun y c h=>?_,fun p hp=>absurd (show p∈([]:List (Addr × Obj)) from hp) (by simp),e0.hok.kept hk,?_⟩
 ·exact name_of_addr x.apart (Qbr h1) (Qbr h2)
 ·have hy:scope.names.lookup y=some .cell\/scope.names.lookup y=some .free:=hy
  rcases hy with hy | hy
  ·exact GB hy
  ·exact absurd rfl (S.nofree _ (Qbr hy))
 ·exact Qau (x.above y c (Qbr h))
 ·have hi:i < vs.length:=by
   unfold start at h2
   by_cases hi:i < vs.length
   ·exact hi
   ·rw [Qas (by simpa using hi)] at h2
    rw [List.getElem?_replicate] at h2
    split at h2 <;> cases h2
  have ha:vs[i]?=some v:=by
   unfold start at h2
   rw [Qa1 (by simpa using hi),Qap] at h2
   cases e:vs[i]? with
   | none=>rw [e] at h2;cases h2
   | some a=>rw [e] at h2;cases h2;rfl
  refine Oe1a1 (r.get ha) fun u hu rv=>?_
  have hp:ps[i]?=some y:=by
   rw [<-S.pre,List.getElem?_take_of_lt (by lia)];exact h1
  have ndP:ps.Nodup:=by rw [<-S.pre];exact S.nd.sublist (List.take_sublist _ _)
  refine ⟨u,rv,?_⟩
  rcases S.par y (Qax hp) with k | k
  ·exact .inl ⟨k,zq ndP hp hu k⟩
  ·obtain ⟨c,e⟩:=GB (n:=s.heap.objs.size + 1) k
   refine .inr ⟨.inl k,c,e,?_⟩
   have q:=x.cell y c e
   rw [zr ndP hp hu (by show scope.names.lookup y≠_;rw [k];decide)] at q
   exact q
 ·exact e0.hok.fresh (Qau (x.above y c (Qbr h)))
 ·unfold start
  show _=N.length
  rw [Qac,Qaa,Qbn]
  lia
theorem Zfa{CX:CXT}{P:Program}{w:World}{K:PySem.W.Frag}{mg:Str->Option Value}{base:Heap}{k:Nat}{f:Addr}{name qual:Str}{params:Arguments}{body:List Stmt}{scope:Scope}{dV kV doc pm cdv ct oc:Value}{an od:Option Addr}
  {osl:Array (Option Value)} {N ps:List Str} {sp:Sp} (lk:K.lookup f=some ⟨oc,od,.func (PySem.W.fnOf name qual params body scope dV kV doc pm an cdv ct),osl⟩) (hcd:PySem.W.codeIn K cdv qual=true) (S:Z4 N ps scope)
  (len:∀vs H Q E,sp vs H Q E->vs.length=ps.length)
  (hbody:∀(A:Around) (outer:List Env) (s:Shared) (H:Hp) (vs:List V) (Q:VK) (E:XK),Jf k (A.deeper (envOfC qual scope s.heap.objs.size f cdv))->sp vs H Q E ->
   ∃t,PSs (ux CX P w K mg base N qual scope f cdv A outer s H E) body t/\t { nx:=fun _ H'=>Q .non H',rt:=Q } (start N vs) H) :
  ZO P w K mg base CX (k + 1) f (PySem.W.fnOf name qual params body scope dV kV doc pm an cdv ct) ps sp:=by
 refine ⟨len,fun A outer s H args us vs Q E hr e0 hb r hsp=>?_⟩
 have hl:=len _ _ _ _ hsp
 have KX:K.In s.heap:=e0.mod.kin.keeps fun b o e=>(e0.bs b o e).1
 have lim:s.heap.NoLimit:=e0.mod.nolimit.keeps fun b o e=>(e0.bs b o e).1
 have hkind:∀y∈ps.zip us,scope.names.lookup y.1=some .local\/(scope.names.lookup y.1=some .cell/\((cellsFrom (s.heap.objs.size + 1) scope.names []).lookup y.1).isSome=true):=fun ⟨n,v⟩ hy=>by
  rcases S.par n (Qd5 hy).1 with q | q
  ·exact .inl q
  ·exact .inr ⟨q,PySem.W.cellsFrom_some _ _ _ (.inl q)⟩
 refine codeAny_call_function hr.depth (KX _ _ lk) rfl S.co S.gen rfl (PySem.W.codeRec_of KX hcd) (hb _ _ _ _ ?_)
 refine wpAny_newFunctionEnv_cells S.kind hkind fun env he s1 x=>?_
 subst he
 refine ⟨lim.keeps x.toInCall.keep,codeAny_func ?_⟩
 refine Oe1a1 (hbody A outer s H vs Q E (hr.deeper _) hsp) fun t ht hq=>?_
 have I:Inv (ux CX P w K mg base N qual scope f cdv A outer s H E) [] (start N vs) H s1:=kH S hr.hd e0 hl r x
 refine wpAny_mono (ht [] s1 (start N vs) H _ I hq) (fun fl s' hs=>?_) fun e s' hs=>hs
 have fin:∀{σ':St} {H':Hp} {v:V} {u:Value},Inv (ux CX P w K mg base N qual scope f cdv A outer s H E) [] σ' H' s'->RelV v u->Q v H'->CE outer P w H s Q u s' :=
  fun {σ' H' v u} J rv q=>⟨v,H',J.os,J.bare,J.base,J.hok,rv,q⟩
 cases fl with
 | ret u =>
  (refine Oe3a2 hs fun v σ' H' J rv q=>?_;clear hs)
  exact fin J rv q
 | next =>
  (refine Oe2a1 hs fun σ' H' J q=>?_;clear hs)
  exact fin (v:=V.non) (u:=Value.none) J rfl q
 | brk =>
  (refine Oe2a1 hs fun _ _ _ q=>?_;clear hs)
  exact False.elim q
 | cont =>
  (refine Oe2a1 hs fun _ _ _ q=>?_;clear hs)
  exact False.elim q
section
variable {X:Cx}{x:Str}{p pos:Pos}{e:Expr}{es:List Expr}{t:TA}{id T:String}{r:List V->Hp->VK->Prop}
noncomputable def tCB(r:List V->Hp->VK->Prop)(t:TA):TE:=fun σ H Q=>t σ H fun vs H1=>r vs H1 Q
theorem uy (hc:XM X (.builtin id) r) (hg:Gl X x) (hm:X.mg x=none) (hv:bootBuiltins x=some (.builtin id)) (ha:PA X (e::es) t) (hn:x ≠ "__name__" := by decide) (hdb:(x == ("__debug__" : Str))=false:=by decide)
  (he:starEach (e::es) X.env=(false,eval e X.env)::starEach es X.env:=by rfl) (hpl:(backTo pos (starEach es X.env)).any (·.1)=false:=by rfl):PE X (.Call (.Name x p) (e::es) [] pos) (tCB r t):=by
 intro pins s σ H Q I h
 refine wpAny_Call_Name_kw (Gb I hg hm hv ?_ hn hdb)
 exact PyProof.Rows.callWith_builtin1 (thn (ha pos pins s σ H _ I h) fun us s1 ⟨vs,H1,I1,r1,q1⟩=>hc pins s1 σ H1 vs us Q I1 r1 q1) he hpl
theorem kI (hc:XM X (.type T) r) (hg:Gl X x) (hm:X.mg x=none) (hv:bootBuiltins x=some (.type T)) (ha:PA X (e::es) t) (hn:x ≠ "__name__" := by decide) (hdb:(x == ("__debug__" : Str))=false:=by decide)
  (he:starEach (e::es) X.env=(false,eval e X.env)::starEach es X.env:=by rfl) (hpl:(backTo pos (starEach es X.env)).any (·.1)=false:=by rfl):PE X (.Call (.Name x p) (e::es) [] pos) (tCB r t):=by
 intro pins s σ H Q I h
 refine wpAny_Call_Name_kw (Gb I hg hm hv ?_ hn hdb)
 exact Qcf (thn (ha pos pins s σ H _ I h) fun us s1 ⟨vs,H1,I1,r1,q1⟩=>hc pins s1 σ H1 vs us Q I1 r1 q1) he hpl
end
end L2
namespace HT
open PySem PyProof.Rows
section
open PySem.SeqAt
open PySem.AutoSeq1 (wpAny_loadPart')
open PySem.MeetsSeq PySem.MeetsSeq2 PySem.MeetsSeq3
end
section
variable {prog:Program}{w:World}{A:Around}{E:Value->Shared->Prop}{s:Shared}
theorem cat_tup{t b:Addr}{vs ws:List Value}{Q:Value->Shared->Prop}(ht:IsTup s.heap t vs.toArray)(hb:IsTup s.heap b ws.toArray)(hv:vs≠[])
  (h1:ws=[]->Q (.ref t) s) (h2:ws≠[]->Q (.ref s.heap.objs.size) { s with heap:=s.heap.push { cls:=.type "tuple",data:=.seq (vs++ws).toArray } })
  (hsz:vs.length + ws.length<=sizeLine):wpAny (model prog w) A (binaryOp .Add (.ref t) (.ref b)) Q E s:=by
 (refine Oe1a2 (id ht) fun zo52 ho hc zo53=>?_;obtain ⟨cls,dd,data,sl⟩:=zo52;obtain ⟨n,hd⟩:=zo53)
 (refine Oe1a2 (id hb) fun zo54 ho2 hc2 zo55=>?_;obtain ⟨cls2,dd2,data2,sl2⟩:=zo54;obtain ⟨n2,hd2⟩:=zo55)
 simp only at hc hd hc2 hd2
 subst hc hd hc2 hd2
 have e:vs.toArray++ws.toArray=(vs++ws).toArray:=by simp
 by_cases hw:ws=[]
 ·exact concat_meets ⟨_,ho,rfl⟩ ⟨_,ho2,rfl⟩ noFill_tuple_add seq_tuple_add Qdo Qdm (Qdi _ _)
   (tuple_addW1 t b vs.toArray ws.toArray n n2 dd dd2 sl sl2 (by simpa using hv) (by simp [hw])) ⟨ho,ho2,h1 hw⟩
 ·refine concat_meets ⟨_,ho,rfl⟩ ⟨_,ho2,rfl⟩ noFill_tuple_add seq_tuple_add Qdo Qdm (Qdi _ _)
   (tuple_addW2 t b vs.toArray ws.toArray n n2 dd dd2 sl sl2 (by simpa using hv) (by simpa using hw) (by rw [Qay,Qay];exact hsz)) ⟨ho,ho2,?_⟩
  rw [e]
  exact h2 hw
noncomputable def sIx(n d:Nat):Option Int->Nat
 | none=>d
 | some v=>if v < 0 then (v + (n:Int)).toNat else min v.toNat n
theorem sIx_none(n d:Nat):sIx n d none=d:=rfl
theorem sIx_nat(n d k:Nat):sIx n d (some (k:Int))=min k n:=by
 show (if (k:Int) < 0 then ((k:Int) + (n:Int)).toNat else min (k:Int).toNat n)=min k n
 rw [Qal (by lia),Qaz]
theorem sIx_le(n d:Nat)(hd:d<=n)(o:Option Int):sIx n d o<=n:=by
 cases o with
 | none=>exact hd
 | some v =>
  show (if v < 0 then (v + (n:Int)).toNat else min v.toNat n)<=n
  by_cases hv:v < 0
  ·rw [Qan hv];lia
  ·rw [Qal hv];exact Nat.min_le_right _ _
theorem kJ(v:Int)(n d:Nat):(if v < 0 then max (v + (n:Int)) 0 else min v (n:Int))=((sIx n d (some v):Nat):Int):=by
 show (if v < 0 then max (v + (n:Int)) 0 else min v (n:Int))=(((if v < 0 then (v + (n:Int)).toNat else min v.toNat n):Nat):Int)
 by_cases hv:v < 0
 ·simp only [Qan hv];lia
 ·simp only [Qal hv];lia
theorem yZ(lo hi:Option Int)(n:Nat):Builtin.Slice.sliceAdjust lo hi 1 (n:Int)=(((sIx n 0 lo:Nat):Int),((sIx n n hi:Nat):Int)):=by
 have h1:¬((1:Int) < 0):=by lia
 unfold Builtin.Slice.sliceAdjust
 simp only [h1,Qc2]
 refine Qen ?_ ?_
 ·cases lo with
  | none=>rfl
  | some v=>exact kJ v n 0
 ·cases hi with
  | none=>rfl
  | some v=>exact kJ v n n
theorem va(i j:Nat):Builtin.Slice.slicePlaces (i:Int) (j:Int) 1=j - i:=by
 unfold Builtin.Slice.slicePlaces
 have h1:(1:Int) > 0:=by lia
 simp only [h1,Qdy,Qbi]
 split <;> lia
theorem xb{v:Value}{o:Option Int}{Q:Option Int->Shared->Prop}(p:IsPart v o)(h:Q o s):wpAny (model prog w) A (Builtin.Slice.slicePartIndex v) Q E s:=by
 cases p with
 | none=>exact slicePart_none h
 | int i t=>exact slicePart_int h
theorem Wt{sl:Addr}{vl vu:Value}{lo hi:Option Int}{n:Nat}{Q:Int × Int × Nat->Shared->Prop}(hs:s.heap.IsSliceOf sl vl vu .none)(pl:IsPart vl lo)(pu:IsPart vu hi)
  (h:Q (((sIx n 0 lo:Nat):Int),1,sIx n n hi - sIx n 0 lo) s):wpAny (model prog w) A (Builtin.Slice.sliceApplied (.ref sl) (pure (n:Int))) Q E s:=by
 refine Oe1a2 (id hs) fun os hos hcs hds=>?_
 unfold Builtin.Slice.sliceApplied Builtin.Slice.sliceFields
 refine wpAny_bind (wpAny_bind (wpAny_field hos hds (x:=vl) rfl (wpAny_bind (wpAny_field hos hds (x:=vu) rfl (wpAny_bind (wpAny_field hos hds (x:=.none) rfl (wpAny_pure ?_)))))))
 refine wpAny_bind (slicePart_none ?_)
 show wpAny _ _ (if ((1:Int) == 0)=true then _ else _) _ _ s
 rw [Qal (by decide)]
 refine wpAny_bind (xb pl (wpAny_bind (xb pu (wpAny_bind (wpAny_pure ?_)))))
 show wpAny _ _ (match Builtin.Slice.sliceAdjust lo hi 1 (n:Int) with | (lo,hi)=>pure (lo,(1:Int),Builtin.Slice.slicePlaces lo hi 1)) _ _ s
 rw [yZ lo hi n]
 show wpAny _ _ (pure (((sIx n 0 lo:Nat):Int),(1:Int),Builtin.Slice.slicePlaces ((sIx n 0 lo:Nat):Int) ((sIx n n hi:Nat):Int) 1)) _ _ s
 rw [va]
 exact wpAny_pure h
theorem uz(xs:Array Value)(i k:Nat):((List.range k).filterMap fun (m:Nat)=>xs[((i:Int) + (m:Int) * 1).toNat]?).toArray=((xs.toList.drop i).take k).toArray:=by
 have e:(fun (m:Nat)=>xs[((i:Int) + (m:Int) * 1).toNat]?)=fun m=>xs[i + m]?:=by
  funext m
  have:((i:Int) + (m:Int) * 1).toNat=i + m:=by lia
  rw [this]
 rw [e]
 have:=pick_run xs i k
 rw [List.filterMap_map] at this
 have e2:((fun x=>xs[x]?) ∘ fun x=>i + x)=fun m=>xs[i + m]?:=rfl
 rw [e2] at this
 rw [this]
theorem getItem_tuple_cut{t sl:Addr}{items:Array Value}{vl vu:Value}{lo hi:Option Int}{Q:Value->Shared->Prop}(ht:IsTup s.heap t items)(hs:s.heap.IsSliceOf sl vl vu .none)(pl:IsPart vl lo)(pu:IsPart vu hi)
  (hw:¬(sIx items.size 0 lo=0/\sIx items.size items.size hi=items.size))
  (h:Q (.ref s.heap.objs.size) { s with heap:=s.heap.push { cls:=.type "tuple",data:=.seq ((items.toList.drop (sIx items.size 0 lo)).take (sIx items.size items.size hi - sIx items.size 0 lo)).toArray } })
  (hsz:items.size<=sizeLine):wpAny (model prog w) A (getItem (.ref t) (.ref sl)) Q E s:=by
 have htake:sizeOk (.seq ((items.toList.drop (sIx items.size 0 lo)).take (sIx items.size items.size hi - sIx items.size 0 lo)).toArray):=by
  show ((items.toList.drop (sIx items.size 0 lo)).take (sIx items.size items.size hi - sIx items.size 0 lo)).toArray.size<=sizeLine
  rw [Qay,Qav,Qbc,Qb9]
  lia
 have hj:sIx items.size items.size hi<=items.size:=sIx_le _ _ (Qah _) hi
 refine Oe1a2 (id hs) fun os hos hcs hds=>?_
 have hTs:s.TypeIs (.ref sl) "slice" := ⟨os,hos,hcs⟩
 unfold getItem
 try with_reducible refine wpAny_holding ?_
 first | refine wpAny_bind (wpAny_pure ?_) | skip
 refine wpAny_bind (wpAny_sequenceKey ht.typeIs (by decide) ?_)
 refine wpAny_bind (wpAny_callSpecial?_slot (name:=Str.ofString "__getitem__") ht.typeIs Qa7
  (wpAny_call_entry Qa7 ht.typeIs entry_tuple_getitem ?_ (args_tuple_getitem _ _)))
 show wpAny _ _ (Builtin.Tuple.tupleItemsOf (.ref t) >>= _) _ _ s
 refine wpAny_bind (tupleItemsOf_ ht ?_)
 refine wpAny_bind (wpAny_typeOf hTs ?_)
 rw [Qan (by decide)]
 refine wpAny_bind (Wt hs pl pu ?_)
 have hno:¬((((sIx items.size 0 lo:Nat):Int) == 0 && (1:Int) == 1 && (sIx items.size items.size hi - sIx items.size 0 lo) == items.size)=true):=by
  intro q
  rw [Qbf,Qbf] at q
  have q1:((sIx items.size 0 lo:Nat):Int)=0:=eq_of_beq q.1.1
  have q2:sIx items.size items.size hi - sIx items.size 0 lo=items.size:=eq_of_beq q.2
  exact hw ⟨by lia,by lia⟩
 show wpAny _ _ (if (((sIx items.size 0 lo:Nat):Int) == 0 && (1:Int) == 1 && (sIx items.size items.size hi - sIx items.size 0 lo) == items.size)=true then _ else _) _ _ s
 rw [Qal hno,uz]
 first
  | exact wpAny_bind (m:=Builtin.Tuple.tupleExact _) (wpAny_newObj_type (wpAny_pure ⟨_,rfl,wpAny_pure h⟩) htake)
  | exact wpAny_bind (m:=Builtin.Tuple.tupleExact _) (wpAny_newObj_type (wpAny_bind (wpAny_pure (wpAny_pure ⟨_,rfl,wpAny_pure h⟩))) htake)
  | exact wpAny_bind (wpAny_bind (m:=Builtin.Tuple.tupleExact _) (wpAny_newObj_type (wpAny_pure (wpAny_pure ⟨_,rfl,wpAny_pure h⟩)) htake))
  | exact wpAny_bind (wpAny_bind (m:=Builtin.Tuple.tupleExact _) (wpAny_newObj_type (wpAny_pure ⟨_,rfl,wpAny_pure h⟩) htake))
end
end HT
namespace L2
open PySem PySem.Spec PyProof.Rows
noncomputable abbrev TO:=St->Hp->(Option Int->Hp->Prop)->Prop
noncomputable def PO(X:Cx)(e:Option Expr)(t:TO):Prop :=
 ∀(pins:List (Addr × Obj)) (s:Shared) (σ:St) (H:Hp) (Q:Option Int->Hp->Prop),Inv X pins σ H s->t σ H Q ->
  wpAny (model X.prog X.w) X.A (evalPart e X.env) (fun u s'=>∃o H',Inv X pins σ H' s'/\IsPart u o/\Q o H') X.xe s
noncomputable def jm:TO:=fun _ H Q=>Q none H
inductive kK(Q:Option Int->Hp->Prop)(x:V)(H1:Hp):Prop
 | mk (i):(x=.int i)->(Q (some i) H1)->kK Q x H1
noncomputable def Zc4(t:TE):TO:=fun σ H Q=>t σ H fun x H1=>kK Q x H1
theorem intsAre_of{ns:List Int}:∀{us:List Value},Vals (ns.map V.int) us->IntsAre us ns:=by
 induction ns with
 | nil=>intro us r;rw [Qdu] at r;cases r;exact .nil
 | cons n ns ih =>
  intro us r
  rw [Qa4] at r
  cases r with
  | cons r1 r2 =>
   obtain ⟨t,e⟩:=r1
   subst e
   exact .cons n t (ih r2)
section
variable {X:Cx}{e:Expr}{te:TE}{lo hi:Option Expr}{tl th:TO}{pos p2:Pos}
theorem Zc5:PO X none jm:=by
 intro pins s σ H Q I h
 rw [evalPart_none]
 exact wpAny_pure ⟨none,H,I,.none,h⟩
theorem Zc6(h:PE X e te):PO X (some e) (Zc4 te):=by
 intro pins s σ H Q I hw
 rw [evalPart_some]
 refine thn (h pins s σ H _ I hw) fun u s1 zq9=>?_;obtain ⟨x,H1,I1,r1,q1⟩:=zq9
 obtain ⟨i,rfl,q⟩:=q1
 obtain ⟨t,rfl⟩:=r1
 exact ⟨some i,H1,I1,.int i t,q⟩
noncomputable def SlR(X:Cx)(r:V->Option Int->Option Int->Hp->VK->Prop):Prop :=
 ∀(pins:List (Addr × Obj)) (s:Shared) (σ:St) (H:Hp) (x:V) (v vl vu:Value) (lo hi:Option Int) (sl:Addr) (Q:VK),Inv X pins σ H s->RelV x v->s.heap.IsSliceOf sl vl vu .none->IsPart vl lo->IsPart vu hi->r x lo hi H Q ->
  ∃T id,typeLookup (.type T) "__getitem__" = pure (some (.builtin id))/\s.TypeIs v T/\wpAny (model X.prog X.w) X.A (getItem v (.ref sl)) (EP X pins σ Q) X.xe s
theorem SlR.or{r r':V->Option Int->Option Int->Hp->VK->Prop}(h:SlR X r)(h':SlR X r'):SlR X (fun x lo hi H Q=>r x lo hi H Q\/r' x lo hi H Q):=by
 intro pins s σ H x v vl vu lo hi sl Q I rx hs pl pu q
 rcases q with q | q
 ·exact h pins s σ H x v vl vu lo hi sl Q I rx hs pl pu q
 ·exact h' pins s σ H x v vl vu lo hi sl Q I rx hs pl pu q
noncomputable def tSl(r:V->Option Int->Option Int->Hp->VK->Prop)(te:TE)(tl th:TO):TE:=fun σ H Q=>te σ H fun x H1=>tl σ H1 fun l H2=>th σ H2 fun u H3=>r x l u H3 Q
theorem uA{r:V->Option Int->Option Int->Hp->VK->Prop}(hr:SlR X r)(he:PE X e te)(hl:PO X lo tl)(hu:PO X hi th):PE X (.Subscript e (.Slice lo hi none p2) pos) (tSl r te tl th):=by
 intro pins s σ H Q I h
 refine Subscript_ (thn (he pins s σ H _ I h) fun v s1 zq9=>?_);obtain ⟨x,H1,I1,r1,q1⟩:=zq9
 refine wpAny_Slice (thn (hl pins s1 σ H1 _ I1 q1) fun vl s2 ⟨l,H2,I2,pl,q2⟩=>thn (hu pins s2 σ H2 _ I2 q2) fun vu s3 zq9=>?_);(refine Oe2a2 zq9 fun u H3 I3 pu q3=>?_;clear zq9)
 rw [evalPart_none]
 refine wpAny_pure ?_
 have I4:Inv X pins σ H3 { s3 with heap:=s3.heap.push { cls:=.type "slice",data:=.fields #[vl,vu,.none] } }:=I3.kept (t':=s3.toks) fun b ob q=>Heap.get?_push_of_some _ q
 refine Oe2a2 (hr pins { s3 with heap:=s3.heap.push { cls:=.type "slice",data:=.fields #[vl,vu,.none] } } σ H3 x v vl vu l u s3.heap.objs.size Q I4 r1 (Heap.IsSliceOf.new ..) pl pu q3) fun T id hT ht hg=>?_
 show wpAny (model X.prog X.w) X.A (subscriptTail e (.Slice lo hi none p2) v (.ref s3.heap.objs.size)) (EP X pins σ Q) X.xe { s3 with heap:=s3.heap.push { cls:=.type "slice",data:=.fields #[vl,vu,.none] } }
 exact tail_any (ops:=[.ref s3.heap.objs.size,v]) ht hT hg (by with_unfolding_all rfl)
noncomputable def GC(xs:List V)(lo hi:Option Int):List V:=(xs.drop (HT.sIx xs.length 0 lo)).take (HT.sIx xs.length xs.length hi - HT.sIx xs.length 0 lo)
theorem GV(xs:List V)(lo hi:Option Int):(GC xs lo hi).length<=xs.length:=by
 unfold GC
 rw [Qav,Qbc]
 lia
inductive Zbe(K:PySem.W.Frag)(x:V)(lo:Option Int)(hi:Option Int)(H:Hp)(Q:VK):Prop
 | mk (a xs):(x=.ref a)->(SqT K H a xs)->(¬(HT.sIx xs.length 0 lo=0/\HT.sIx xs.length xs.length hi=xs.length))->(∀p,H p=none->Q (.ref p) (upd H p (.tup (GC xs lo hi))))->Zbe K x lo hi H Q
noncomputable def rSlT(K:PySem.W.Frag):V->Option Int->Option Int->Hp->VK->Prop:=fun x lo hi H Q=>Zbe K x lo hi H Q
theorem Zbf:SlR X (rSlT X.K):=by
 intro pins s σ H x v vl vu lo hi sl Q I rx hs pl pu h
 obtain ⟨a,xs,rfl,hx,hw,q⟩:=h
 cases rx
 refine Oe1a2 (I.tuple hx) fun its r ht hz=>?_
 have hlen:its.toArray.size=xs.length:=by rw [Qay];exact r.length.symm
 refine ⟨"tuple",_,Qa7.lookup,ht.typeIs,?_⟩
 refine HT.getItem_tuple_cut ht hs pl pu (by rw [hlen];exact hw) ?_ (by rw [hlen];exact hz)
 rw [hlen]
 refine ⟨.ref s.heap.objs.size,_,I.laid (t':=s.toks) (o:=.tup (GC xs lo hi)) (fun b ob q=>Heap.get?_push_of_some _ q) (Qah _) ?_,rfl,q _ (I.hok.fresh (Qah _))⟩
 exact ⟨Qbe (GV xs lo hi) hz,_,(r.drop (HT.sIx xs.length 0 lo)).take (HT.sIx xs.length xs.length hi - HT.sIx xs.length 0 lo),IsTup.new _ _⟩
theorem Vals.nil_iff{xs:List V}{us:List Value}(r:Vals xs us):us=[]↔xs=[]:=by
 cases r with
 | nil=>simp
 | cons _ _=>simp
end
end L2
namespace L2
open PySem PySem.Spec PyProof.Rows
noncomputable def ixN(n:Nat)(i:Int):Option Nat:=if 0<=i then (if i < n then some i.toNat else none) else if -(n:Int)<=i then some (i + n).toNat else none
noncomputable def atI{α:Type}(xs:List α)(i:Int):Option α:=(ixN xs.length i).bind fun j=>xs[j]?
theorem Zc7{n:Nat}{i:Int}{j:Nat}(h:ixN n i=some j):seqIndex? i n=some j/\j < n/\-(n:Int)<=i/\i < n:=by
 unfold ixN at h
 by_cases h0:0<=i
 ·rw [Qan h0] at h
  by_cases h1:i < n
  ·rw [Qan h1] at h
   have e:i.toNat=j:=Option.some.inj h
   exact ⟨by rw [seqIndex_of h0 h1,e],by lia,by lia,h1⟩
  ·rw [Qal h1] at h;cases h
 ·rw [Qal h0] at h
  by_cases h1:-(n:Int)<=i
  ·rw [Qan h1] at h
   have e:(i + n).toNat=j:=Option.some.inj h
   exact ⟨by rw [seqIndex_neg (by lia) h1,e],by lia,h1,by lia⟩
  ·rw [Qal h1] at h;cases h
theorem jn{α:Type}{xs:List α}{i:Int}{v:α}(h:atI xs i=some v):∃j,seqIndex? i xs.length=some j/\xs[j]?=some v/\j < xs.length/\-(xs.length:Int)<=i/\i < xs.length:=by
 unfold atI at h
 cases e:ixN xs.length i with
 | none=>rw [e] at h;cases h
 | some j =>
  rw [e] at h
  refine Oe0a3 (Zc7 e) fun h1 h2 h3 h4=>?_
  exact ⟨j,h1,h,h2,h3,h4⟩
theorem Xj{α:Type}{xs:List α}{j:Nat}{v:α}(h:xs[j]?=some v):atI xs (j:Int)=some v:=by
 have hj:j < xs.length:=(Qae.mp h).1
 have e:ixN xs.length (j:Int)=some j:=by
  unfold ixN
  rw [Qan (by lia),Qan (by lia)];simp
 unfold atI;rw [e];exact h
theorem uB{α:Type}(xs:List α)(v:α):atI (xs++[v]) (-1)=some v:=by
 have hl:(xs++[v]).length=xs.length + 1:=by simp
 have e:ixN (xs++[v]).length (-1)=some xs.length:=by
  unfold ixN
  rw [hl,Qal (by decide),Qan (by lia)]
  congr 1
  lia
 unfold atI
 rw [e]
 show (xs++[v])[xs.length]?=some v
 simp
noncomputable def kL(b:Expr):Prop:=∀o i,subscripted b false o i=operate [o,i] (getItem o i)
noncomputable def IxR(X:Cx)(r:R2):Prop :=
 ∀(value slice:Expr) (pins:List (Addr × Obj)) (s:Shared) (σ:St) (H:Hp) (x y:V) (v u:Value) (Q:VK),Inv X pins σ H s->RelV x v->RelV y u->r x y H Q ->
  subscripted slice false v u=operate [v,u] (getItem v u)->wpAny (model X.prog X.w) X.A (subscriptTail value slice v u) (EP X pins σ Q) X.xe s
noncomputable def MtR(X:Cx)(id:String)(r:V->List V->Hp->VK->Prop):Prop :=
 ∀(pins:List (Addr × Obj)) (s:Shared) (σ:St) (H:Hp) (x:V) (xs:List V) (v:Value) (us:List Value) (Q:VK),Inv X pins σ H s->RelV x v->Vals xs us->r x xs H Q ->
  wpAny (model X.prog X.w) X.A (call (.builtin id) (v::us)) (EP X pins σ Q) X.xe s
section
variable {X:Cx}{a b:Expr}{ta tb:TE}{pos:Pos}
theorem pe_ix{r:R2}(hr:IxR X r)(ha:PE X a ta)(hb:PE X b tb)(hs:kL b):PE X (.Subscript a b pos) (tOp r ta tb):=by
 intro pins s σ H Q I h
 exact Subscript_ (binT ha hb I h fun v u s2 x y H2 I2 rx ry q=>hr a b pins s2 σ H2 x y v u Q I2 rx ry q (hs _ _))
inductive Zbg(K:PySem.W.Frag)(x:V)(y:V)(H:Hp)(Q:VK):Prop
 | mk (p xs i v):(x=.ref p)->(y=.int i)->(SqL K H p xs)->(atI xs i=some v)->(Q v H)->Zbg K x y H Q
noncomputable def Zc8(K:PySem.W.Frag):R2:=fun x y H Q=>Zbg K x y H Q
inductive Zbh(K:PySem.W.Frag)(x:V)(y:V)(H:Hp)(Q:VK):Prop
 | mk (p xs i v):(x=.ref p)->(y=.int i)->(SqT K H p xs)->(atI xs i=some v)->(Q v H)->Zbh K x y H Q
noncomputable def Zc9(K:PySem.W.Frag):R2:=fun x y H Q=>Zbh K x y H Q
inductive Zbi(x:V)(y:V)(H:Hp)(Q:VK):Prop
 | mk (z i c):(x=.str z)->(y=.int i)->(z.length<=sizeLine)->(atI z.cps.toList i=some c)->(Q (.str ⟨#[c]⟩) H)->Zbi x y H Q
noncomputable def rIxS  : R2:=fun x y H Q=>Zbi x y H Q
theorem Zs:IxR X (Zc8 X.K):=by
 intro value slice pins s σ H x y v u Q I rx ry h hs
 obtain ⟨p,xs,i,z,rfl,rfl,hq,he,q⟩:=h
 cases rx
 obtain ⟨t,rfl⟩:=ry
 refine Oe1a2 (I.list hq) fun its r pl hz=>?_
 refine Oe1a4 (jn he) fun j h1 h2 h3 h4 h5=>?_
 refine Oe1a1 (r.get h2) fun w ew rw'=>?_
 have hl:=r.length
 have hn:=GU
 have fin:EP X pins σ Q w s:=⟨z,H,I,rw',q⟩
 by_cases h0:0<=i
 ·have hj:i.toNat=j:=by
   rw [seqIndex_of h0 h5] at h1
   exact Option.some.inj h1
  exact item_listR pl.isList h0 (by lia) (by rw [hj];simpa using ew) fin hs
 ·have hj:(i + (its.toArray.size:Int)).toNat=j:=by
   rw [seqIndex_neg (by lia) h4] at h1
   rw [Qay,<-hl]
   exact Option.some.inj h1
  exact subscriptTail_builtinR (x:=w) pl.isList.typeIs slot_list_getitem.lookup
   (wpAny_getItem_list_neg (Q:=fun r s'=>r=w/\EP X pins σ Q r s') pl.isList (by lia) (by rw [Qay] <;> lia) (by lia) (by rw [hj];simpa using ew) ⟨rfl,fin⟩) hs
theorem YQ:IxR X (Zc9 X.K):=by
 intro value slice pins s σ H x y v u Q I rx ry h hs
 obtain ⟨p,xs,i,z,rfl,rfl,hq,he,q⟩:=h
 cases rx
 obtain ⟨t,rfl⟩:=ry
 refine Oe1a2 (I.tuple hq) fun its r pl hz=>?_
 refine Oe1a4 (jn he) fun j h1 h2 h3 h4 h5=>?_
 refine Oe1a1 (r.get h2) fun w ew rw'=>?_
 have hl:=r.length
 have hn:=GU
 have fin:EP X pins σ Q w s:=⟨z,H,I,rw',q⟩
 exact subscriptTail_builtinR (x:=w) pl.typeIs slot_tuple_getitem.lookup
  (getItem_tuple (j:=j) (Q:=fun r s'=>r=w/\EP X pins σ Q r s') pl (by lia) (by lia) (by rw [Qay,<-hl];exact h1) (by simpa using ew) ⟨rfl,fin⟩) hs
theorem yf:IxR X rIxS:=by
 intro value slice pins s σ H x y v u Q I rx ry h hs
 obtain ⟨z,i,c,rfl,rfl,hz,he,q⟩:=h
 obtain ⟨t,rfl⟩:=rx
 obtain ⟨t',rfl⟩:=ry
 refine Oe1a4 (jn he) fun j h1 h2 h3 h4 h5=>?_
 have hl:z.cps.toList.length=z.length:=by simp [Str.length]
 rw [hl] at h1 h4 h5
 have hn:=GU
 exact tail_any (typeIs_str s z t) slot_str_getitem.lookup (getItem_str (c:=c) (by
  have e1:decide (i < -(2 ^ 63:Int))=false:=Qab (by lia)
  have e2:decide (i>=2 ^ 63)=false:=Qab (by lia)
  rw [e1,e2,Bool.or_false]) (by rw [h1];simpa using h2) ⟨.str ⟨#[c]⟩,H,I.tok _,⟨_,rfl⟩,q⟩) hs
theorem zt(lo hi:Option Int)(n:Nat):(sliceBounds lo hi none n).1=((HT.sIx n 0 lo:Nat):Int)/\(sliceBounds lo hi none n).2.1=((HT.sIx n n hi:Nat):Int)/\(sliceBounds lo hi none n).2.2=1:=by
 refine ⟨?_,?_,rfl⟩
 ·cases lo with
  | none=>simp [sliceBounds,HT.sIx]
  | some i =>
   simp only [sliceBounds,HT.sIx,Option.getD_none,show (1:Int) > 0 by decide,Qdy]
   by_cases h:i < 0
   ·simp only [h,Qdy] <;> lia
   ·simp only [h,Qc2] <;> lia
 ·cases hi with
  | none=>simp [sliceBounds,HT.sIx]
  | some i =>
   simp only [sliceBounds,HT.sIx,Option.getD_none,show (1:Int) > 0 by decide,Qdy]
   by_cases h:i < 0
   ·simp only [h,Qdy] <;> lia
   ·simp only [h,Qc2] <;> lia
theorem xG(its:List Value)(lo hi:Option Int):slicePick its.toArray lo hi none=((its.drop (HT.sIx its.length 0 lo)).take (HT.sIx its.length its.length hi - HT.sIx its.length 0 lo)).toArray:=by
 refine Oe0a2 (zt lo hi its.toArray.size) fun h1 h2 h3=>?_
 unfold slicePick
 rw [h1,h2,h3]
 simp only [sliceRange_one,pick_run,Qay] <;> rfl
inductive Zbj(K:PySem.W.Frag)(x:V)(lo:Option Int)(hi:Option Int)(H:Hp)(Q:VK):Prop
 | mk (a xs):(x=.ref a)->(SqL K H a xs)->(∀p,H p=none->Q (.ref p) (upd H p (.lst (GC xs lo hi))))->Zbj K x lo hi H Q
noncomputable def rSlL(K:PySem.W.Frag):V->Option Int->Option Int->Hp->VK->Prop:=fun x lo hi H Q=>Zbj K x lo hi H Q
theorem X1:SlR X (rSlL X.K):=by
 intro pins s σ H x v vl vu lo hi sl Q I rx hs pl pu h
 obtain ⟨a,xs,rfl,hx,q⟩:=h
 cases rx
 refine Oe1a2 (I.list hx) fun its r ht hz=>?_
 have hlen:=r.length
 refine ⟨"list",_,slot_list_getitem.lookup,ht.isList.typeIs,?_⟩
 refine wpAny_getItem_list_slice ht.isList hs pl pu .none (by simp) ?_ (by rw [Qay] <;> lia)
 rw [xG,<-hlen]
 refine ⟨.ref s.heap.objs.size,_,I.laid (t':=s.toks) (o:=.lst (GC xs lo hi)) (fun b ob q=>Heap.get?_push_of_some _ q) (Qah _) ?_,rfl,q _ (I.hok.fresh (Qah _))⟩
 exact ⟨Qbe (GV xs lo hi) hz,_,0,(r.drop (HT.sIx xs.length 0 lo)).take (HT.sIx xs.length xs.length hi - HT.sIx xs.length 0 lo),Heap.get?_push_size _ rfl⟩
noncomputable def JK:V->Bool
 | .non=>true
 | .bl _=>true
 | .int _=>true
 | .str _=>true
 | _=>false
noncomputable def eqV:V->V->Bool
 | .non,.non=>true
 | .bl a,.bl b=>a == b
 | .bl a,.int b=>(if a then 1 else 0) == b
 | .int a,.bl b=>a == (if b then 1 else 0)
 | .int a,.int b=>a == b
 | .str a,.str b=>a == b
 | _,_=>false
theorem eqAt_V{A:Around}{s:Shared}{y x:V}{u v:Value}(ry:RelV y u)(rx:RelV x v)(fy:JK y=true)(fx:JK x=true):SeqAt.EqAt A s u v (eqV y x):=by
 cases y with
 | non =>
  cases ry
  cases x with
  | non=>cases rx;exact SeqAt.EqAt.same _
  | bl b=>cases rx;exact SeqAt.EqAt.none_bool b
  | int b=>obtain ⟨t,rfl⟩:=rx;exact SeqAt.EqAt.none_int b t
  | str b=>obtain ⟨t,rfl⟩:=rx;exact SeqAt.EqAt.none_str b t
  | _=>exact absurd (show false=true from fx) Qam
 | bl a =>
  cases ry
  cases x with
  | non=>cases rx;exact SeqAt.EqAt.bool_none a
  | bl b=>cases rx;exact SeqAt.EqAt.bool_bool a b
  | int b=>obtain ⟨t,rfl⟩:=rx;exact SeqAt.EqAt.bool_int a b t
  | str b=>obtain ⟨t,rfl⟩:=rx;exact SeqAt.EqAt.bool_str a b t
  | _=>exact absurd (show false=true from fx) Qam
 | int a =>
  obtain ⟨t',rfl⟩:=ry
  cases x with
  | non=>cases rx;exact SeqAt.EqAt.int_none a t'
  | bl b=>cases rx;exact SeqAt.EqAt.int_bool a t' b
  | int b=>obtain ⟨t,rfl⟩:=rx;exact SeqAt.EqAt.int_int a t' b t
  | str b=>obtain ⟨t,rfl⟩:=rx;exact SeqAt.EqAt.int_str a t' b t
  | _=>exact absurd (show false=true from fx) Qam
 | str a =>
  obtain ⟨t',rfl⟩:=ry
  cases x with
  | non=>cases rx;exact SeqAt.EqAt.str_none a t'
  | bl b=>cases rx;exact SeqAt.EqAt.str_bool a t' b
  | int b=>obtain ⟨t,rfl⟩:=rx;exact SeqAt.EqAt.str_int a t' b t
  | str b=>obtain ⟨t,rfl⟩:=rx;exact SeqAt.EqAt.str_str a t' b t
  | _=>exact absurd (show false=true from fx) Qam
 | _=>exact absurd (show false=true from fy) Qam
noncomputable def eqU(x:V)(u:Value):Bool:=match u with
 | .none=>eqV .non x
 | .bool b=>eqV (.bl b) x
 | .int i _=>eqV (.int i) x
 | .str z _=>eqV (.str z) x
 | _=>false
theorem Zbk{x y:V}{u:Value}(r:RelV y u)(f:JK y=true):eqU x u=eqV y x:=by
 cases y with
 | non=>cases r;rfl
 | bl b=>cases r;rfl
 | int i=>obtain ⟨t,rfl⟩:=r;rfl
 | str z=>obtain ⟨t,rfl⟩:=r;rfl
 | _=>exact absurd (show false=true from f) Qam
theorem jo{x:V}:∀{xs:List V} {us:List Value},Vals xs us->xs.all JK=true->us.any (eqU x)=xs.any fun y=>eqV y x
 | _,_,.nil,_=>rfl
 | y::xs,u::us,.cons r t,f=>by
  rw [Qcl,Qbf] at f
  rw [Qd3,Qd3,Zbk r f.1,jo t f.2]
theorem xH{A:Around}{s:Shared}{x:V}{v:Value}(rx:RelV x v)(fx:JK x=true):∀{xs:List V} {us:List Value},Vals xs us->xs.all JK=true->∀u∈us,SeqAt.EqAt A s u v (eqU x u)
 | _,_,.nil,_=>fun u hu=>by cases hu
 | y::xs,u::us,.cons r t,f=>fun u' hu=>by
  rw [Qcl,Qbf] at f
  rcases Qaj.mp hu with rfl | hu
  ·rw [Zbk r f.1];exact eqAt_V r rx f.1 fx
  ·exact xH rx fx t f.2 u' hu
noncomputable def inV(x:V)(xs:List V):Bool:=xs.any fun y=>eqV y x
inductive Zfb(K:PySem.W.Frag)(neg:Bool)(x:V)(y:V)(H:Hp)(Q:VK):Prop
 | mk (p xs):(y=.ref p)->((SqL K H p xs\/SqT K H p xs))->(JK x=true)->(xs.all JK=true)->(Q (.bl (if neg then !inV x xs else inV x xs)) H)->Zfb K neg x y H Q
noncomputable def rIn(K:PySem.W.Frag)(neg:Bool):R2:=fun x y H Q=>Zfb K neg x y H Q
theorem ZH:OpR X (compareOp .In) (rIn X.K false):=by
 intro pins s σ H x y v u Q I rx ry h
 obtain ⟨p,xs,rfl,hq,fx,fs,q⟩:=h
 cases ry
 rcases hq with hq | hq
 ·refine Oe1a2 (I.list hq) fun its r pl hz=>?_
  refine SeqAt.in_listAt (eqU x) pl.isList (fun w hw=>xH rx fx r fs w (by simpa using hw)) ⟨.bl _,H,I,rfl,?_⟩
  rw [show its.toArray.any (eqU x)=its.any (eqU x) by simp,jo r fs]
  exact q
 ·refine Oe1a2 (I.tuple hq) fun its r pl hz=>?_
  refine SeqAt.in_tupleAt (eqU x) pl (fun w hw=>xH rx fx r fs w (by simpa using hw)) ⟨.bl _,H,I,rfl,?_⟩
  rw [show its.toArray.any (eqU x)=its.any (eqU x) by simp,jo r fs]
  exact q
theorem Zv:XM X (.builtin "len") (fun xs H Q=>∃p ys,xs=[.ref p]/\(SqL X.K H p ys\/SqT X.K H p ys)/\Q (.int ys.length) H):=by
 intro pins s σ H xs us Q I r h
 (refine Oe2a2 h fun p ys zo56 hq q=>?_;obtain rfl:=zo56;clear h)
 (refine Oe1a1 (vals1 r) fun u zo57 rx=>?_;obtain rfl:=zo57)
 cases rx
 have hn:=GU
 rcases hq with hq | hq
 ·refine Oe1a2 (I.list hq) fun its r' pl hz=>?_
  have hlen:=r'.length
  exact Calls.call_len_list pl.isList (by simp only [Qay] <;> lia) ⟨.int ys.length,H,I.tok _,⟨s.toks + 1,by rw [Qay,hlen]⟩,q⟩
 ·refine Oe1a2 (I.tuple hq) fun its r' pl hz=>?_
  have hlen:=r'.length
  exact len_tuple pl (by simp only [Qay] <;> lia) ⟨.int ys.length,H,I.tok _,⟨s.toks + 1,by rw [Qay,hlen]⟩,q⟩
theorem zu:XM X (.builtin "len") (fun xs H Q=>∃z,xs=[.str z]/\z.length<=sizeLine/\Q (.int z.length) H):=by
 intro pins s σ H xs us Q I r h
 (refine Oe1a2 h fun z zo58 hz q=>?_;obtain rfl:=zo58;clear h)
 (refine Oe1a1 (vals1 r) fun u zo59 zo60=>?_;obtain rfl:=zo59;obtain ⟨t,rfl⟩:=zo60)
 have hn:=GU
 exact len_str (by lia) ⟨.int z.length,H,I.tok _,⟨_,rfl⟩,q⟩
theorem ZP:XM X (.type "tuple") (fun xs H Q=>∃p ys,xs=[.ref p]/\((SqL X.K H p ys/\∀l,H l=none->Q (.ref l) (upd H l (.tup ys)))\/(SqT X.K H p ys/\Q (.ref p) H))):=by
 intro pins s σ H xs us Q I r h
 (have zob:=h;clear h;refine Oe2a1 zob fun p ys zo61 h=>?_;obtain rfl:=zo61;clear zob)
 (refine Oe1a1 (vals1 r) fun u zo62 rx=>?_;obtain rfl:=zo62)
 cases rx
 rcases h with ⟨hq,q⟩ | ⟨hq,q⟩
 ·refine Oe1a2 (I.list hq) fun its r' pl hz=>?_
  have hlen:=r'.length
  refine call_tuple_list pl.isList (fun h' kp=>?_) (by simp only [Qay] <;> lia)
  have I1:Inv X pins σ H { s with heap:=h' }:=I.kept (t':=s.toks) kp
  have I2:Inv X pins σ (upd H h'.objs.size (.tup ys)) { s with heap:=h'.push { cls:=.type "tuple",data:=.seq its.toArray } } :=
   I1.laid (t':=s.toks) (fun b o e=>Heap.get?_push_of_some _ e) (Qah _) (show Yq X.prog X.w _ _ _ (.tup ys) from ⟨hz,its,r',IsTup.new _ _⟩)
  exact ⟨.ref h'.objs.size,_,I2,rfl,q _ (I1.hok.fresh (Qah _))⟩
 ·refine Oe1a2 (I.tuple hq) fun its r' pl hz=>?_
  exact call_tuple_same pl ⟨.ref p,H,I,rfl,q⟩
noncomputable def tyV(K:PySem.W.Frag)(T:String)(x:V)(H:Hp):Prop:=match x with
 | .str _=>T = "str"
 | .int _=>T = "int"
 | .ref p=>(T = "list" /\ ∃xs,SqL K H p xs)\/(T = "tuple" /\ ∃o,K.lookup p=some o/\o.cls=.type "tuple" /\ o.dict=none) \/
   (T = "dict" /\ ((∃kvs,H p=some (.dK kvs))\/∃kvs,H p=some (.dT kvs)))\/(T = "set" /\ ∃S n,H p=some (.set S n))
 | _=>False
theorem Zbl{pins:List (Addr × Obj)}{σ:St}{H:Hp}{s:Shared}{T:String}{x:V}{v:Value}(I:Inv X pins σ H s)(r:RelV x v)(ty:tyV X.K T x H) :
  s.TypeIs v T/\∀a,v=.ref a->∃ob,s.heap.get? a=some ob/\ob.dict=none:=by
 cases x with
 | str z =>
  obtain ⟨t,rfl⟩:=r
  cases (show T = "str" from ty)
  exact ⟨typeIs_str s z t,fun _ e=>nomatch e⟩
 | int i =>
  obtain ⟨t,rfl⟩:=r
  cases (show T = "int" from ty)
  exact ⟨typeIs_int s i t,fun _ e=>nomatch e⟩
 | ref p =>
  cases r
  rcases ty with ⟨rfl,xs,hq⟩ | ⟨rfl,o,hk,hc,hd⟩ | ⟨rfl,hk⟩ | ⟨rfl,S,n,hk⟩
  ·refine Oe1a2 (I.list hq) fun its _ pl _=>?_
   refine ⟨pl.isList.typeIs,fun a e=>?_⟩
   cases e
   (refine Oe2a3 pl fun o n e c hd _=>?_;clear pl)
   exact ⟨o,e,hd⟩
  ·refine ⟨⟨o,I.kIn p o hk,hc⟩,fun a e=>?_⟩
   cases e
   exact ⟨o,I.kIn _ o hk,hd⟩
  ·have z:∃o,s.heap.get? p=some o/\o.ExactDict:=by
    rcases hk with ⟨kvs,hk⟩ | ⟨kvs,hk⟩
    ·(refine Oe0a2 (I.hok p _ hk) fun _ _ zo63=>?_;refine Oe1a1 zo63 fun _ _ zo64=>?_;refine Oe3a2 zo64 fun o _ _ e ex _=>?_;clear zo64;clear zo63)
     exact ⟨o,e,ex⟩
    ·(refine Oe0a2 (I.hok p _ hk) fun _ _ zo65=>?_;refine Oe1a1 zo65 fun _ _ zo66=>?_;refine Oe3a2 zo66 fun o _ _ e ex _=>?_;clear zo66;clear zo65)
     exact ⟨o,e,ex⟩
   (refine Oe1a1 z fun o e ex=>?_;clear z)
   refine ⟨⟨o,e,ex.1⟩,fun a e2=>?_⟩
   cases e2
   exact ⟨o,e,ex.2.1⟩
  ·refine Oe4a2 (I.hok p _ hk) fun o _ _ _ e ex _=>?_
   refine ⟨⟨o,e,ex.1⟩,fun a e2=>?_⟩
   cases e2
   exact ⟨o,e,ex.2.1⟩
 | _=>exact False.elim ty
inductive Zbm(K:PySem.W.Frag)(T:String)(r:V->List V->Hp->VK->Prop)(Q:VK)(x:V)(H1:Hp):Prop
 | mk  : (tyV K T x H1)->(r x [] H1 Q)->Zbm K T r Q x H1
noncomputable def Zf1(K:PySem.W.Frag)(T:String)(r:V->List V->Hp->VK->Prop)(to:TE):TE:=fun σ H Q=>to σ H fun x H1=>Zbm K T r Q x H1
inductive Zfc(K:PySem.W.Frag)(T:String)(r:V->List V->Hp->VK->Prop)(t:TA)(σ:St)(Q:VK)(x:V)(H1:Hp):Prop
 | mk  : (tyV K T x H1)->(t σ H1 fun xs H2=>r x xs H2 Q)->Zfc K T r t σ Q x H1
noncomputable def tBM(K:PySem.W.Frag)(T:String)(r:V->List V->Hp->VK->Prop)(to:TE)(t:TA):TE:=fun σ H Q=>to σ H fun x H1=>Zfc K T r t σ Q x H1
variable {o e:Expr}{es:List Expr}{to:TE}{t:TA}{name:Str}{apos cpos:Pos}{T id:String}{r:V->List V->Hp->VK->Prop}
theorem pe_bm0 (pa:PlainAttrs T) (slot:Slot T name id) (hty:typeOf (.builtin id)=pure (.type "method_descriptor")) (hm:MtR X id r) (ho:PE X o to)
  (hbase:attributeBase o name X.env (eval o X.env)=eval o X.env:=by rfl) (hline:(apos.endLine == cpos.line)=true:=by rfl):PE X (.Call (.Attribute o name apos) [] [] cpos) (Zf1 X.K T r to):=by
 intro pins s σ H Q I h
 refine wpAny_Call_method0_late hbase hline (thn (ho pins s σ H _ I h) fun v s1 zq9=>?_);obtain ⟨x,H1,I1,r1,ty,q1⟩:=zq9
 obtain ⟨h1,h2⟩:=Zbl I1 r1 ty
 exact ⟨T,id,pa,slot,hty,h1,h2,Calls.callWith_builtin rfl (PySem.evalArgs_none (hm pins s1 σ H1 x [] v [] Q I1 r1 .nil q1))⟩
theorem pe_bm (pa:PlainAttrs T) (slot:Slot T name id) (hty:typeOf (.builtin id)=pure (.type "method_descriptor")) (hm:MtR X id r) (ho:PE X o to) (ha:PA X (e::es) t)
  (hbase:attributeBase o name X.env (eval o X.env)=eval o X.env:=by rfl)
  (hfew:((backTo cpos (starEach (e::es) X.env)).all (fun x=>!x.1) && (backToKw cpos (keywordEach [] X.env)).all (fun x=>x.1.isSome)
   && decide ((e::es).length + ([]:List Keyword).length + (if ([]:List Keyword).isEmpty then 0 else 1) < 30))=true:=by rfl)
  (hline:(apos.endLine == cpos.line)=true:=by rfl) (hs:starEach (e::es) X.env=(false,eval e X.env)::starEach es X.env:=by rfl) (hplain:(backTo cpos (starEach es X.env)).any (·.1)=false:=by rfl) :
  PE X (.Call (.Attribute o name apos) (e::es) [] cpos) (tBM X.K T r to t):=by
 intro pins s σ H Q I h
 refine wpAny_Call_method_late hbase hfew hline rfl (thn (ho pins s σ H _ I h) fun v s1 zq9=>?_);obtain ⟨x,H1,I1,r1,ty,q1⟩:=zq9
 obtain ⟨h1,h2⟩:=Zbl I1 r1 ty
 refine ⟨T,id,pa,slot,hty,h1,h2,?_⟩
 have hA:=ha cpos pins s1 σ H1 _ I1 q1
 rw [hs] at hA ⊢
 refine Calls.callWith_builtin (by show (false || (backTo cpos (starEach es X.env)).any (·.1))=false;rw [hplain] <;> rfl) (Calls.evalArgs_plain ?_)
 exact thn hA fun us s2 ⟨vs,H2,I2,r2,q2⟩=>hm pins s2 σ H2 x vs v us Q I2 r1 r2 q2
/- xs.append(e), list.index on a module's tuple .. are MtR facts of 06m -/
end
end L2
namespace L2
open PySem PySem.Spec PyProof.Rows
noncomputable def MtM(X:Cx)(id:String)(r:V->List V->Hp->VK->Prop):Prop :=
 ∀(pins:List (Addr × Obj)) (s:Shared) (σ:St) (H:Hp) (x:V) (xs:List V) (v:Value) (us:List Value) (Q:VK),Inv X pins σ H s->RelV x v->Vals xs us->r x xs H Q ->
  wpAny (model X.prog X.w) X.A (call (.builtin id) (v::us)) (EP X pins σ Q) X.xe s
theorem Vals.one:∀{x:V} {us:List Value},Vals [x] us->∃u,us=[u]/\RelV x u
 | _,_,.cons r .nil=>⟨_,rfl,r⟩
theorem Vals.zero:∀{us:List Value},Vals [] us->us=[]
 | _,.nil=>rfl
theorem Vals.dropLast{xs:List V}{us:List Value}(h:Vals xs us):Vals xs.dropLast us.dropLast:=by
 induction h with
 | nil=>exact .nil
 | cons r t ih =>
  cases t with
  | nil=>exact .nil
  | cons q t'=>exact .cons r ih
theorem Vals.reverse{xs:List V}{us:List Value}(h:Vals xs us):Vals xs.reverse us.reverse:=by
 induction h with
 | nil=>exact .nil
 | cons r t ih=>rw [Qca,Qca];exact Vals.append ih (.cons r .nil)
theorem vc{α:Type}(l:List α):l.eraseIdx (l.length - 1)=l.dropLast:=by
 induction l with
 | nil=>rfl
 | cons a r ih =>
  cases r with
  | nil=>rfl
  | cons b r =>
   have e:(a::b::r).length - 1=((b::r).length - 1) + 1:=by
    have h1:(a::b::r).length=r.length + 2:=rfl
    have h2:(b::r).length=r.length + 1:=rfl
    lia
   rw [e,List.eraseIdx_cons_succ,ih]
   all_goals rfl
section
variable {X:Cx}{pins:List (Addr × Obj)}{σ:St}{H:Hp}{s:Shared}{l b:Addr}{xs ys zs:List V}
theorem Inv.lset{its its':List Value}{n:Nat}{f:Array Value->Array Value}{t':Nat}(I:Inv X pins σ H s)(hH:H l=some (.lst xs))
  (e:s.heap.get? l=some { cls:=.type "list",data:=.seq its.toArray n }) (hf:f its.toArray=its'.toArray) (hv:Vals ys its') (hz:ys.length<=sizeLine) :
  Inv X pins σ (upd H l (.lst ys)) { s with heap:=s.heap.update l (Obj.mapSeq f),toks:=t' }:=by
 have q:=PySem.IsL.update e f
 rw [hf] at q
 refine I.write (x:=l) (e:=l) (by rw [hH];exact trivial) (.inl rfl) (fun b' u hb hu=>(Heap.get?_update_other s.heap (Obj.mapSeq f) (Qcx hb)).trans hu) ⟨_,q⟩ ?_
 exact ⟨hz,its',_,hv,q⟩
theorem Inv.lnew{its:List Value}{t':Nat}(I:Inv X pins σ H s)(hv:Vals ys its)(hz:ys.length<=sizeLine) :
  Inv X pins σ (upd H s.heap.objs.size (.lst ys)) { s with heap:=s.heap.push { cls:=.type "list",data:=.seq its.toArray },toks:=t' } :=
 I.laid (fun _ _ q=>Heap.get?_push_of_some _ q) (Qah _) ⟨hz,its,0,hv,Heap.get?_push_size _ rfl⟩
theorem Inv.fresh(I:Inv X pins σ H s):H s.heap.objs.size=none:=I.hok.fresh (Qah _)
theorem Inv.lstM (I:Inv X pins σ H s) (hH:H l=some (.lst xs)):xs.length<=sizeLine/\∃(its:List Value) (n:Nat),Vals xs its/\xs.length=its.length/\s.heap.get? l=some { cls:=.type "list",data:=.seq its.toArray n }:=by
 obtain ⟨z,its,n,r,e⟩:=I.hok l _ hH
 exact ⟨z,its,n,r,r.length,e⟩
end
section
variable {X:Cx}
inductive zv(x:V)(vs:List V)(H:Hp)(Q:VK):Prop
 | mk (l xs y):(x=.ref l)->(vs=[y])->(H l=some (.lst xs))->(xs.length < sizeLine)->(Q .non (upd H l (.lst (xs++[y]))))->zv x vs H Q
noncomputable def kM  : V->List V->Hp->VK->Prop:=fun x vs H Q=>zv x vs H Q
theorem ZC:MtM X "list.append" kM:=by
 intro pins s σ H x vs v us Q I rx rv h
 obtain ⟨l,xs,y,rfl,rfl,hH,hz,q⟩:=h
 cases rx
 (refine Oe1a1 rv.one fun u zo67 ru=>?_;obtain rfl:=zo67)
 obtain ⟨z,its,n,r,hl,e⟩:=I.lstM hH
 refine call_meets F.slot_list_append ⟨_,e,rfl⟩ F.entry_list_append (F.args_list_append_2 _ _) (PySem.list_append l its.toArray n u (by rw [Qay];lia)) ⟨e,?_⟩
 refine ⟨.non,_,I.lset (its':=its++[u]) hH e (by simp) (r.append (.cons ru .nil)) ?_,rfl,q⟩
 rw [Qac,List.length_singleton]
 lia
inductive Zbn(x:V)(vs:List V)(H:Hp)(Q:VK):Prop
 | mk (l xs y):(x=.ref l)->(vs=[])->(H l=some (.lst xs))->(xs[xs.length - 1]?=some y)->(Q y (upd H l (.lst xs.dropLast)))->Zbn x vs H Q
noncomputable def rPop  : V->List V->Hp->VK->Prop:=fun x vs H Q=>Zbn x vs H Q
theorem GW:MtM X "list.pop" rPop:=by
 intro pins s σ H x vs v us Q I rx rv h
 obtain ⟨l,xs,y,rfl,rfl,hH,hy,q⟩:=h
 cases rx
 have hus:=rv.zero
 subst hus
 obtain ⟨z,its,n,r,hl,e⟩:=I.lstM hH
 refine Oe1a1 (r.get hy) fun u hu ru=>?_
 have hy':its.toArray[its.toArray.size - 1]?=some u:=by
  show its.toArray[its.length - 1]?=some u
  rw [<-Array.getElem?_toList,<-hl]
  exact hu
 refine call_meets F.slot_list_pop ⟨_,e,rfl⟩ F.entry_list_pop (F.args_list_pop_1 _) (MeetsSeq.list_pop_last l its.toArray n u hy' (by rw [Qay];lia)) ⟨e,?_⟩
 refine ⟨y,_,I.lset (its':=its.dropLast) hH e ?_ r.dropLast ?_,ru,q⟩
 ·show its.toArray.eraseIdxIfInBounds (its.toArray.size - 1)=its.dropLast.toArray
  rw [Qay,List.eraseIdxIfInBounds_toArray,vc]
 ·rw [List.length_dropLast]
  lia
inductive Zbo(x:V)(y:V)(H:Hp)(Q:VK):Prop
 | mk (l b xs zs):(x=.ref l)->(y=.ref b)->(H l=some (.lst xs))->(H b=some (.lst zs))->(xs.length + zs.length<=sizeLine)->(∀p,H p=none->Q (.ref p) (upd H p (.lst (xs++zs))))->Zbo x y H Q
noncomputable def rCat  : R2:=fun x y H Q=>Zbo x y H Q
theorem xc:OpR X (binaryOp .Add) rCat:=by
 intro pins s σ H x y v u Q I rx ry h
 obtain ⟨l,b,xs,zs,rfl,rfl,hH,hB,hz,q⟩:=h
 cases rx
 cases ry
 obtain ⟨z,its,n,r,hl,e⟩:=I.lstM hH
 obtain ⟨z2,its2,n2,r2,hl2,e2⟩:=I.lstM hB
 refine PySem.P.add_list e e2 ?_ (by rw [Qay,Qay];lia)
 have ea:its.toArray++its2.toArray=(its++its2).toArray:=by simp
 rw [ea]
 exact ⟨.ref _,_,I.lnew (t':=s.toks) (r.append r2) (by rw [Qac];lia),rfl,q _ I.fresh⟩
end
section
variable {prog:Program}{w:World}{A:Around}{E:Value->Shared->Prop}{s:Shared}
end
section
variable {X:Cx}
end
end L2
namespace Att
open PySem PySem.W PySem.Calls PyProof.Rows
theorem GX{P:Params}{h:Heap}:∀(ns:List Int) (vs:List Value),WellAll P h vs (ns.map WData.int)->IntsAre vs ns:=by
 intro ns
 induction ns with
 | nil =>
  intro vs w
  rw [Qdu] at w
  cases w
  exact .nil
 | cons n ns ih =>
  intro vs w
  rw [Qa4] at w
  cases w with
  | cons a b =>
   cases a
   exact .cons _ _ (ih _ b)
theorem kN{l:OpenLaw}{n:Nat}(hn:l.most=some n){P:Params}{h:Heap}{args:List WData}{vals:List Value}
  (hpre:l.row.toRowW.claim.pre args=true) (hwl:WellAll P h vals args) :
  ∃a vs ns,vals=[Value.ref a]/\args=[WData.list (ns.map WData.int)]/\h.get? a=some { cls:=.type "list",data:=.seq vs.toArray }/\IntsAre vs ns/\ns.length<=n:=by
 have hsh:WShape.hasAll [] args [.list .int]=true:=(pre_splitW hpre).1
 have hc:l.pre.holds [] { args:=args }=true:=(pre_splitW hpre).2
 (refine Oe2a2 (hasAllW_cons hsh) fun d r zo68 h1 h2=>?_;obtain rfl:=zo68)
 obtain rfl:=hasAllW_nil h2
 (refine Oe1a1 (hasW_list h1) fun xs zo69 h3=>?_;obtain rfl:=zo69)
 obtain ⟨ns,rfl⟩:=items_int h3
 have hlen:ns.length<=n:=by
  unfold OpenLaw.pre at hc
  have h4:(WTm.not (.lt (.lit (.int (n:Int))) (.len (.arg 0)))).holds [] { args:=[.list (ns.map .int)] }=true:=by
   have h4:=(holds_andW hc).1
   rw [hn] at h4
   exact h4
  have h5:=condW_of h4 (w_not (w_lt w_lit (w_len_list (w_arg rfl))))
  rw [Qaa] at h5
  refine Nat.le_of_not_lt fun q=>?_
  have q':(n:Int) < ((ns.length:Nat):Int):=by lia
  first
   | (rw [Qad q'] at h5;exact absurd h5 (by decide))
   | (simp at h5;lia)
 cases hwl with
 | cons w1 w2 =>
  cases w2
  cases w1 with
  | list ho hall=>exact ⟨_,_,ns,rfl,rfl,ho,GX ns _ hall,hlen⟩
theorem kO(l:OpenLaw)(args:List WData):l.row.toRowW.claim.post args (.bool true) args=true :=
 postW_of (r:=l.row.toRowW) (X:=(true == true))
  (show WShape.has [] (.bool true) .bool=true by first | rfl | decide | simp [WShape.has,WShape.arms,WShape.armsAll])
  (show (WTm.eq .res (.lit (.bool true))).value [] { args:=args,res:=some (.bool true),after:=args }=some (.bool (true == true)) from w_eq_bool (w_res rfl) w_lit) rfl
theorem attach_call{l:OpenLaw}{n:Nat}{q:Program}{loose:List Str}{XP:(Str->Option Value)->Heap->Prop}{YP:World->Heap->Prop}{d:DefRec}
  (hn:l.most=some n) (hdf:d.params.defaults=[])
  (call:∀(w:World) (s₀ s₁:Shared) (mg mb:Str->Option Value) (fa:Addr) (o:Obj) (pm cd doc:Value) (a:Addr) (vs:List Value) (ns:List Int),
   Ground q loose [] XP w s₀ mg mb s₁.heap->YP w s₁.heap ->
   s₁.heap.get? fa=some o->o.data=.func (docDef d.name d.params d.body d.scope pm cd doc)->s₁.heap.CodeRec cd d.name->mg d.name=some (.ref fa) ->
   s₁.heap.get? a=some { cls:=.type "list",data:=.seq vs.toArray }->IntsAre vs ns->ns.length<=n->s₁.gens=#[] ->
   codeAny (model l.prog w) callerA (.call (.ref fa) ⟨[.ref a],[]⟩) (fun r s'=>r=.ok (.ret (.bool true))/\OldK s₁.heap s'.heap/\s'.os=s₁.os/\AllBare s'.gens) s₁) :
  WalkO q loose XP YP l.row.toRowW d [] (fun f vs=>PySem.call f vs):=by
 intro w s₀ s₁ mg mb G Y fa o pm cd doc dV kV ho hd hcd hD hmg hg args vals as hpre hlay hrd hwl hlo
 obtain rfl:dV=.none:=Dflts.none hD hdf
 obtain rfl:kV=.none:=Dflts.noKw hD
 (refine Oe3a4 (kN hn hpre hwl) fun a vs ns zo70 zo71 hobj hints hlen=>?_;obtain rfl:=zo70;obtain rfl:=zo71)
 refine enter_call (codeAny_mono (call w s₀ s₁ mg mb fa o pm cd doc a vs ns G Y ho (fd_plain hd) hcd hmg hobj hints hlen hg) fun r s' hq=>?_)
 (refine Oe0a3 hq fun zo72 h2 h3 h4=>?_;obtain rfl:=zo72;clear hq)
 exact ⟨.inl ⟨.bool true,.bool true,[],rfl,fun _=>rfl,.bool true,kO l _,fun _=>⟨List.Pairwise.nil,fun _ hm=>(nomatch hm)⟩⟩,h2,h3,h4⟩
section
variable {prog:Program}{w:World}{A:Around}{E:Value->Shared->Prop}{s:Shared}{K:Frag}
end
end Att
namespace L2
open PySem PySem.Spec PyProof.Rows
theorem zw:∀{vs:List Value} {ns:List Int},IntsAre vs ns->Vals (ns.map V.int) vs
 | _,_,.nil=>.nil
 | _,_,.cons n t h=>.cons ⟨t,rfl⟩ (zw h)
noncomputable def Z2(s:Stmt):Arguments:=match s with
 | .FunctionDef _ a _ _ _ _ _ _ _ _=>a
 | _=>{ posonlyargs:=[],args:=[],vararg:=none,kwonlyargs:=[],kw_defaults:=[],kwarg:=none,defaults:=[] }
noncomputable def Zz(s:Stmt):List Stmt:=match s with
 | .FunctionDef _ _ b _ _ _ _ _ _ _=>b
 | _=>[]
noncomputable def Zg(s:Stmt):Scope:=match s with
 | .FunctionDef _ _ _ _ _ _ sc _ _ _=>sc
 | _=>{ kind:=.function,names:=[],isGenerator:=false,isCoroutine:=false }
noncomputable abbrev CX0:CXT:=fun _ _ _ _ _ _=>False
noncomputable abbrev E0:XK:=fun _ _ _=>False
theorem ZE{X:Cx}:Passes CX0 X E0:=fun _ _ _ _ _ _ _ h=>h.elim
structure Fun(K:PySem.W.Frag)(x qual:Str)(st:Stmt)(f:Addr)(fd:FuncData):Prop where
 ex:∃(oc:Value) (od:Option Addr) (kV doc pm:Value) (an:Option Addr) (cdv ct:Value) (osl:Array (Option Value)),
  fd=PySem.W.fnOf x qual (Z2 st) (Zz st) (Zg st) .none kV doc pm an cdv ct/\K.lookup f=some ⟨oc,od,.func fd,osl⟩/\PySem.W.codeIn K cdv qual=true
 kp:PySem.W.keepIn K (.ref f)=true
section
variable {P:Program}{w:World}{K:PySem.W.Frag}{mg:Str->Option Value}{base:Heap}
theorem Fun.ok{x qual:Str}{st:Stmt}{f:Addr}{fd:FuncData}{N ps:List Str}{k:Nat}{sp:Sp}(F:Fun K x qual st f fd)(S:Z4 N ps (Zg st))(len:∀vs H Q E,sp vs H Q E->vs.length=ps.length)
  (hbody:∀(cdv:Value) (A:Around) (outer:List Env) (s:Shared) (H:Hp) (vs:List V) (Q:VK) (E:XK),Jf k (A.deeper (envOfC qual (Zg st) s.heap.objs.size f cdv))->sp vs H Q E ->
   ∃t,PSs (ux CX0 P w K mg base N qual (Zg st) f cdv A outer s H E).nox (Zz st) t/\t { nx:=fun _ H'=>Q .non H',rt:=Q } (start N vs) H):ZO P w K mg base CX0 (k + 1) f fd ps sp:=by
 (refine Oe9a2 F.ex fun oc od kV doc pm an cdv ct osl zo73 lk hcd=>?_;obtain rfl:=zo73)
 refine Zfa lk hcd S len fun A outer s H vs Q E hr hsp=>?_
 refine Oe1a1 (hbody cdv A outer s H vs Q E hr hsp) fun t h q=>?_
 exact ⟨t,h.nox,q⟩
theorem Fun.binds{x qual:Str}{st:Stmt}{f:Addr}{fd:FuncData}{ps:List Str}(F:Fun K x qual st f fd)
  (h:∀(kV doc pm:Value) (an:Option Addr) (cdv ct:Value) (us:List Value),us.length=ps.length->bindArgs (PySem.W.fnOf x qual (Z2 st) (Zz st) (Zg st) .none kV doc pm an cdv ct) ⟨us,[]⟩=pure (ps.zip us)):Binds K fd ps []:=by
 (refine Oe9a2 F.ex fun oc od kV doc pm an cdv ct osl zo74 lk hcd=>?_;obtain rfl:=zo74)
 exact .all (h kV doc pm an cdv ct)
theorem ZI{x qual:Str}{st:Stmt}{f:Addr}{oc:Value}{od an:Option Addr}{osl:Array (Option Value)}{kV doc pm cdv ct:Value}(l:K.lookup f=some ⟨oc,od,.func (PySem.W.fnOf x qual (Z2 st) (Zz st) (Zg st) .none kV doc pm an cdv ct),osl⟩)
  (c:PySem.W.codeIn K cdv qual=true) (k:PySem.W.keepIn K (.ref f)=true):Fun K x qual st f (PySem.W.fnOf x qual (Z2 st) (Zz st) (Zg st) .none kV doc pm an cdv ct):=⟨⟨oc,od,kV,doc,pm,an,cdv,ct,osl,rfl,l,c⟩,k⟩
end
theorem Yr{A:Around}{k:Nat}(hr:Jf k A):A.units + 1 < cLine:=Qdn (Nat.add_le_add_left (by decide:1<=64) _) hr.units
theorem Zm{n:Nat}(h:n<=1000):n < sizeLine:=Qdn h (by decide)
section
variable {X:Cx}
theorem pv (i:Nat) {x:Str} {pos:Pos} (hN:X.N[i]?=some x:=by rfl) (hv:Vis X.env.scope x:=by first | exact Or.inl rfl | exact Or.inr (Or.inl rfl) | exact Or.inr (Or.inr rfl)) (hd:(x == ("__debug__" : Str))=false:=by decide)
  (hcd:(x == ("__classdict__" : Str))=false:=by decide):PE X (.Name x pos) (JI i):=Za5 hN hv hd hcd
end
theorem Yj{A B:Prop}(h:B):if false=true then A else B:=by
 rw [Qal Qam]
 exact h
theorem YD{A B:Prop}(h:A):if true=true then A else B:=by
 rw [Qan rfl]
 exact h
theorem vR{c A B:Prop}[Decidable c](h1:c->A)(h2:¬c->B):if c then A else B:=by
 by_cases h:c
 ·rw [Qan h]
  exact h1 h
 ·rw [Qal h]
  exact h2 h
noncomputable def ZT(H H':Hp):Prop:=∀b o,H b=some o->H' b=some o
theorem ZT.refl(H:Hp):ZT H H:=fun _ _ h=>h
theorem ZT.trans{H H1 H2:Hp}(a:ZT H H1)(b:ZT H1 H2):ZT H H2:=fun c o h=>b c o (a c o h)
theorem ZT.free{H H':Hp}(e:ZT H H'){l:Addr}(h:H' l=Option.none):H l=Option.none:=by
 cases q:H l with
 | none=>rfl
 | some o =>
  rw [e l o q] at h
  cases h
section
variable {X:Cx}
noncomputable def Zda(i j:Int):Prop:=0 < j/\j.natAbs.log2 < 9000
theorem X7:OpR X (binaryOp .FloorDiv) (rI Zda fun i j=>.int (i / j)):=opI fun i j _ _ _ _ _ hc q=>by
 have h1:(0:Int) < j:=hc.1
 exact floordiv_int (by lia) (by rw [Int.fdiv_eq_ediv_of_nonneg i (by lia)];exact q) (.inl (PyProof.noPylong_of_log2 hc.2))
theorem Zda.of{i j:Int}(h1:0 < j)(h2:j < 2 ^ 250):Zda i j:=by
 refine ⟨h1,?_⟩
 have h3:j.natAbs < 2 ^ 250:=by lia
 have h4:j.natAbs≠0:=by lia
 have:=(Nat.log2_lt h4).mpr h3
 lia
noncomputable def Zdb(i j:Int):Prop:=(i.natAbs < 2 ^ 250/\j.natAbs < 2 ^ 250)\/CMul i j
theorem Zdb.ok{i j:Int}(h:Zdb i j):IntMulOk i j:=by
 rcases h with ⟨h1,h2⟩ | h
 ·refine IntMulOk.of_bits (Qbe (PyProof.Rows.intBits_le h1) (by decide)) (Qbe (PyProof.Rows.intBits_le h2) (by decide))
 ·exact h.ok
theorem WE:OpR X (binaryOp .Mult) (rI Zdb fun i j=>.int (i * j)):=opI fun _ _ _ _ _ _ _ hc q=>mul_int q hc.ok
inductive Zbp(K:PySem.W.Frag)(xs:List V)(H:Hp)(Q:VK):Prop
 | mk (x T t b):(xs=[x,.ty T])->(yX K H x t)->(PySem.W.kitOne K t (.type T)=some b)->(Q (.bl b) H)->Zbp K xs H Q
noncomputable def rIsi(K:PySem.W.Frag):List V->Hp->VK->Prop:=fun xs H Q=>Zbp K xs H Q
theorem xI:XM X (.builtin "isinstance") (rIsi X.K):=by
 intro pins s σ H xs us Q I r h
 obtain ⟨x,T,t,b,rfl,ty,e,q⟩:=h
 (refine Oe2a2 (vals2 r) fun u w' zo75 rx rt=>?_;obtain rfl:=zo75)
 cases rt
 exact kG I rx ty e fun tk=>⟨.bl b,H,I.tok tk,rfl,q⟩
end
noncomputable def Ys:Expr->Bool
 | .Starred _ _=>false
 | _=>true
theorem Zy{e:Expr}{rest:List Expr}{env:Env}(h:Ys e=true):starEach (e::rest) env=(false,eval e env)::starEach rest env:=by
 cases e <;> first
  | rfl
  | cases h
theorem XU{pos:Pos}{env:Env}:∀{es:List Expr},es.all Ys=true->(backTo pos (starEach es env)).any (·.1)=false
 | [],_=>rfl
 | e::es,h=>by
  rw [Qcl,Qbf] at h
  rw [Zy h.1]
  show (false || (backTo pos (starEach es env)).any (·.1))=false
  rw [XU h.2]
  rfl
theorem all_plain{pos:Pos}{env:Env}:∀{es:List Expr},es.all Ys=true->(backTo pos (starEach es env)).all (fun x=>!x.1)=true
 | [],_=>rfl
 | e::es,h=>by
  rw [Qcl,Qbf] at h
  rw [Zy h.1]
  show (true && (backTo pos (starEach es env)).all (fun x=>!x.1))=true
  rw [all_plain h.2]
  rfl
section
variable {X:Cx}{CX:CXT}{k:Nat}{f C:Addr}{fd:FuncData}{ps:List Str}{sp:Sp}{dvs:List V}{ds:List Value}{E:XK}{x m:Str}{p pos apos:Pos}{e o:Expr}{es:List Expr}{ta te:TE}{t:TA}{id T:String}{r:List V->Hp->VK->Prop}
theorem pa_c(ha:PE X e te)(hr:PA X es t)(hp:Ys e=true:=by rfl):PA X (e::es) (qG te t):=Zc2 ha hr (Zy hp)
theorem uC(F:ZO X.prog X.w X.K X.mg X.base CX k f fd ps sp)(hr:Jf k X.A)(hg:Gl X x)(hm:X.mg x=some (.ref f))(hk:PySem.W.keepIn X.K (.ref f)=true)(hb:Binds X.K fd ps ds)(hd:Vals dvs ds)(hx:Passes CX X E)
  (ha:PA X (e::es) t) (hdb:(x == ("__debug__" : Str))=false:=by decide) (hp:(e::es).all Ys=true:=by rfl):PE X (.Call (.Name x p) (e::es) [] pos) (yY sp dvs E t):=by
 rw [Qcl,Qbf] at hp
 exact Zc3 F hr hg hm hk hb hd hx ha hdb (Zy hp.1) (XU hp.2)
theorem kP (hc:XM X (.builtin id) r) (hg:Gl X x) (hm:X.mg x=none) (hv:bootBuiltins x=some (.builtin id)) (ha:PA X (e::es) t) (hn:x ≠ "__name__" := by decide) (hdb:(x == ("__debug__" : Str))=false:=by decide)
  (hp:(e::es).all Ys=true:=by rfl):PE X (.Call (.Name x p) (e::es) [] pos) (tCB r t):=by
 rw [Qcl,Qbf] at hp
 exact uy hc hg hm hv ha hn hdb (Zy hp.1) (XU hp.2)
theorem kQ (hc:XM X (.type T) r) (hg:Gl X x) (hm:X.mg x=none) (hv:bootBuiltins x=some (.type T)) (ha:PA X (e::es) t) (hn:x ≠ "__name__" := by decide) (hdb:(x == ("__debug__" : Str))=false:=by decide)
  (hp:(e::es).all Ys=true:=by rfl):PE X (.Call (.Name x p) (e::es) [] pos) (tCB r t):=by
 rw [Qcl,Qbf] at hp
 exact kI hc hg hm hv ha hn hdb (Zy hp.1) (XU hp.2)
theorem kR {tg a:Expr} (hg:Gl X "range") (hm:X.mg "range" = none) (ha:PA X [a] t) (hp:Ys a=true:=by rfl):PI X tg (.Call (.Name "range" p) [a] [] pos) (Zcw t) :=
 kr hg hm ha (by rw [Zy hp];rfl)
theorem pe_bmF {name:Str} {cpos:Pos} {to:TE} {rm:V->List V->Hp->VK->Prop} (pa:PlainAttrs T) (slot:Slot T name id) (hty:typeOf (.builtin id)=pure (.type "method_descriptor")) (hm:MtR X id rm) (ho:PE X o to) (ha:PA X (e::es) t)
  (hbase:attributeBase o name X.env (eval o X.env)=eval o X.env:=by rfl) (hline:(apos.endLine == cpos.line)=true:=by rfl) (hp:(e::es).all Ys=true:=by rfl) (hl:(e::es).length < 30:=by decide) :
  PE X (.Call (.Attribute o name apos) (e::es) [] cpos) (tBM X.K T rm to t):=by
 have hp':=hp
 rw [Qcl,Qbf] at hp'
 refine pe_bm pa slot hty hm ho ha hbase ?_ hline (Zy hp'.1) (XU hp'.2)
 rw [all_plain hp]
 show decide ((e::es).length + 0 + 0 < 30)=true
 exact Qad hl
end
theorem Yk:bootBuiltins "len" = some (.builtin "len"):=by decide +kernel
theorem Wj:bootBuiltins "isinstance" = some (.builtin "isinstance"):=by decide +kernel
theorem kS:bootBuiltins "sorted" = some (.builtin "sorted"):=by decide +kernel
theorem yg:bootBuiltins "int" = some (.type "int"):=by decide +kernel
theorem Zdc:bootBuiltins "list" = some (.type "list"):=by decide +kernel
theorem Xq:bootBuiltins "tuple" = some (.type "tuple"):=by decide +kernel
theorem jq:bootBuiltins "reversed" = some (.type "reversed"):=by decide +kernel
theorem uD:bootBuiltins "range" = some (.type "range"):=by decide +kernel
theorem Jg {K:PySem.W.Frag}:PySem.W.kitOne K (.type "int") (.type "int")=some true:=by rfl
theorem YZ {K:PySem.W.Frag}:PySem.W.kitOne K (.type "str") (.type "int")=some false:=by with_unfolding_all rfl
structure QE(X:Cx)(e:Expr)(t:TE):Prop where
 out:PE X e t
structure QT(X:Cx)(e:Expr)(t:TT):Prop where
 out:PT X e t
structure QW(X:Cx)(e:Expr)(t:TT):Prop where
 out:PW X e t
structure QA(X:Cx)(e:List Expr)(t:TA):Prop where
 out:PA X e t
structure QSs(X:Cx)(e:List Stmt)(t:TS):Prop where
 out:PSs X e t
structure QS(X:Cx)(e:Stmt)(t:TS):Prop where
 out:PS X e t
structure QG(X:Cx)(e:Expr)(t:TG):Prop where
 out:PG X e t
structure QI(X:Cx)(tg e:Expr)(t:TI):Prop where
 out:PI X tg e t
structure QO(X:Cx)(e:Option Expr)(t:TO):Prop where
 out:PO X e t
theorem qv {X:Cx} (i:Nat) {x:Str} {pos:Pos} (hN:X.N[i]?=some x:=by rfl) (hv:Vis X.env.scope x:=by first | exact Or.inl rfl | exact Or.inr (Or.inl rfl) | exact Or.inr (Or.inr rfl)) (hd:(x == ("__debug__" : Str))=false:=by decide) (hcd:(x == ("__classdict__" : Str))=false:=by decide):QE X (.Name x pos) (JI i):=⟨pv (i:=i) (hN:=hN) (hv:=hv) (hd:=hd) (hcd:=hcd)⟩
theorem Ze{X:Cx}{i j pos}:QE X (.Constant (.int i) j pos) (tC (.int i)):=⟨pe_int ⟩
theorem kT{X:Cx}{b j pos}:QE X (.Constant (.bool b) j pos) (tC (.bl b)):=⟨pe_bl ⟩
theorem Zh{X:Cx}{x j pos}:QE X (.Constant (.str x) j pos) (tC (.str x)):=⟨pe_str ⟩
theorem xJ {X:Cx} {x:Str} {v:V} {u:Value} {pos:Pos} (hg:Gl X x) (hm:X.mg x=some u) (r:RelV v u) (hd:(x == ("__debug__" : Str))=false:=by decide):QE X (.Name x pos) (tC v):=⟨Zcl (hg:=hg) (hm:=hm) (r:=r) (hd:=hd)⟩
theorem jr {X:Cx} {x:Str} {v:V} {u:Value} {pos:Pos} (hg:Gl X x) (hm:X.mg x=none) (hv:bootBuiltins x=some u) (r:RelV v u) (hn:x ≠ "__name__" := by decide) (hd:(x == ("__debug__" : Str))=false:=by decide):QE X (.Name x pos) (tC v):=⟨Zcm (hg:=hg) (hm:=hm) (hv:=hv) (r:=r) (hn:=hn) (hd:=hd)⟩
theorem Zn{X:Cx}{a:Expr}{b:Expr}{ta:TE}{tb:TE}{pos:Pos}{op:Operator}{r:R2}(ho:OpR X (binaryOp op) r)(ha:QE X a ta)(hb:QE X b tb):QE X (.BinOp a op b pos) (tOp r ta tb):=⟨pe_op (ho:=ho) (ha:=ha.out) (hb:=hb.out)⟩
theorem W9{X:Cx}{a:Expr}{ta:TE}{pos:Pos}{op:UnaryOp}{r:V->Hp->VK->Prop}(ho:UnR X (unaryOp op) r)(ha:QE X a ta):QE X (.UnaryOp op a pos) (tUn r ta):=⟨pe_un (ho:=ho) (ha:=ha.out)⟩
theorem Wk{X:Cx}{a:Expr}{b:Expr}{ta:TE}{tb:TE}{pos:Pos}{op:CmpOp}{r:R2}(ho:OpR X (compareOp op) r)(ha:QE X a ta)(hb:QE X b tb)(hm:behindInMarks op b=false):QE X (.Compare a [op] [b] pos) (tOp r ta tb):=⟨Zcy (ho:=ho) (ha:=ha.out) (hb:=hb.out) (hm:=hm)⟩
theorem Zr{X:Cx}{a:Expr}{b:Expr}{ta:TE}{tb:TE}{pos:Pos}{op:CmpOp}{r:R2}(ho:OpR X (compareOp op) r)(ha:QE X a ta)(hb:QE X b tb)(hm:behindInMarks op b=false):QT X (.Compare a [op] [b] pos) (Zcz (tOp r ta tb)):=⟨Zc0 (ho:=ho) (ha:=ha.out) (hb:=hb.out) (hm:=hm)⟩
theorem xf{X:Cx}{e:Expr}{t:TE}(h:QE X e t)(he:∀whole,isTrue e X.env whole=(do let v <-whole;standAt e.pos;holding [v] (truthy v)):=by intro _;rfl):QT X e (tB t):=⟨pt_val (h:=h.out) (he:=he)⟩
theorem jt{X:Cx}{a:Expr}{pos:Pos}{tA:TT}(ha:QT X a tA):QW X (.BoolOp .And [a] pos) tA:=⟨Zcn (ha:=ha.out)⟩
theorem Zbr{X:Cx}{a:Expr}{pos:Pos}{tA:TT}(ha:QT X a tA):QW X (.BoolOp .Or [a] pos) tA:=⟨pw_or1 (ha:=ha.out)⟩
theorem kU{X:Cx}{a:Expr}{b:Expr}{pos:Pos}{tA:TT}{tB':TT}{rest:List Expr}(ha:QT X a tA)(hb:QW X (.BoolOp .And (b::rest) pos) tB'):QW X (.BoolOp .And (a::b::rest) pos) (tAnd tA tB'):=⟨pw_and (ha:=ha.out) (hb:=hb.out)⟩
theorem Zfd{X:Cx}{a:Expr}{b:Expr}{pos:Pos}{tA:TT}{tB':TT}{rest:List Expr}(ha:QT X a tA)(hb:QW X (.BoolOp .Or (b::rest) pos) tB'):QW X (.BoolOp .Or (a::b::rest) pos) (tOr tA tB'):=⟨pw_or (ha:=ha.out) (hb:=hb.out)⟩
theorem yh{X:Cx}{a:Expr}{pos:Pos}{op}{t:TE}(h:QE X a t):QE X (.BoolOp op [a] pos) t:=⟨pe_one (h:=h.out)⟩
theorem Zbs{X:Cx}{a:Expr}{b:Expr}{ta:TE}{tb:TE}{pos:Pos}{rest:List Expr}(ha:QE X a ta)(hb:QE X (.BoolOp .And (b::rest) pos) tb):QE X (.BoolOp .And (a::b::rest) pos) (Ze1 ta tb):=⟨pe_and (ha:=ha.out) (hb:=hb.out)⟩
theorem Zfe{X:Cx}{a:Expr}{b:Expr}{ta:TE}{tb:TE}{pos:Pos}{rest:List Expr}(ha:QE X a ta)(hb:QE X (.BoolOp .Or (b::rest) pos) tb):QE X (.BoolOp .Or (a::b::rest) pos) (tOrV ta tb):=⟨pe_or (ha:=ha.out) (hb:=hb.out)⟩
theorem Zbt{X:Cx}{a:Expr}{ta:TE}{pos:Pos}(ha:QE X a ta):QE X (.UnaryOp .Not a pos) (Ze2 ta):=⟨pe_not (ha:=ha.out)⟩
theorem Z0{X:Cx}:QSs X [] Zco:=⟨Zcp ⟩
theorem Zb{X:Cx}{st:Stmt}{rest:List Stmt}{t:TS}{u:TS}(h1:QS X st t)(h2:QSs X rest u):QSs X (st::rest) (Yi t u):=⟨uq (h1:=h1.out) (h2:=h2.out)⟩
theorem Zf{X:Cx}{st:Stmt}{t:TS}(h1:QS X st t):QSs X [st] t:=⟨Zcq (h1:=h1.out)⟩
theorem Yd{X:Cx}{e:Expr}{te:TE}{pos:Pos}(he:QE X e te)(hs:swapsWith e none pos.line X.env=pure false:=by rfl):QS X (.Expr e pos) (Zcr te):=⟨Zcs (he:=he.out) (hs:=hs)⟩
theorem Zt{X:Cx}{e:Expr}{te:TE}{pos:Pos}(he:QE X e te):QS X (.Return (some e) pos) (tRet te):=⟨ps_ret (he:=he.out)⟩
theorem ZD{X:Cx}{t:TS}{u:TS}{pos:Pos}{c:Expr}{a b:List Stmt}{tc:TT}(hc:QT X c tc)(ha:QSs X a t)(hb:QSs X b u):QS X (.If c a b pos) (Zct tc t u):=⟨ps_if (hc:=hc.out) (ha:=ha.out) (hb:=hb.out)⟩
theorem YI{X:Cx}{pos:Pos}{i:Nat}{x:Str}(hN:X.N.Nodup)(hi:X.N[i]?=some x)(hx:Loc X.env.scope x)(hf:X.fn x=true\/X.env.scope.names.lookup x=some .local:=by first | exact .inl rfl | exact .inr rfl | assumption):QG X (.Name x pos) (GQ i):=⟨kd (hN:=hN) (hi:=hi) (hx:=hx) (hf:=hf)⟩
theorem Zp{X:Cx}{pos:Pos}{i:Nat}{x:Str}{e:Expr}{te:TE}{pos':Pos}(hN:X.N.Nodup)(hi:X.N[i]?=some x)(hx:Loc X.env.scope x)(he:QE X e te)(hs:swapsWith e (some (.Name x pos')) pos.line X.env=pure false:=by rfl)(hf:X.fn x=true\/X.env.scope.names.lookup x=some .local:=by first | exact .inl rfl | exact .inr rfl | assumption):QS X (.Assign [.Name x pos'] e pos) (Zfz te (GQ i)):=⟨ps_set (hN:=hN) (hi:=hi) (hx:=hx) (he:=he.out) (hs:=hs) (hf:=hf)⟩
theorem yi{X:Cx}{pos:Pos}{c:Expr}{body:List Stmt}{tc:TT}{tb:TS}(hp:PassesOwn (model X.prog X.w) X.A X.env X.xe)(hc:QT X c tc)(hb:QSs X body tb):QS X (.While c body [] pos) (kg tc tb):=⟨ur (hp:=hp) (hc:=hc.out) (hb:=hb.out)⟩
theorem XN{X:Cx}{tg:Expr}{l:Expr}{tl:TE}(hl:QE X l tl):QI X tg l (km X.K tl):=⟨Zcv (hl:=hl.out)⟩
theorem zx{X:Cx}{tg:Expr}{l:Expr}{tl:TE}(hl:QE X l tl):QI X tg l (iTup X.K tl):=⟨pi_tup (hl:=hl.out)⟩
theorem X8{X:Cx}{tg:Expr}{iter:Expr}{body:List Stmt}{wi:TI}{g:TG}{tb:TS}{pos:Pos}(hp:PassesOwn (model X.prog X.w) X.A X.env X.xe)(hc:X.calm=true)(hi:QI X tg iter wi)(hg:QG X tg g)(hb:QSs X body tb)(hs:∀x,foldedSetIterable iter X.env x=pure x:=by intro _;rfl):QS X (.For tg iter body [] pos) (tFor wi g tb):=⟨ps_for (hp:=hp) (hc:=hc) (hi:=hi.out) (hg:=hg.out) (hb:=hb.out) (hs:=hs)⟩
theorem ZF{X:Cx}{es:List Expr}{t:TA}{pos:Pos}{x1}(h:QA X es t):QE X (.Tuple es x1 pos) (tTup t):=⟨pe_tup (h:=h.out)⟩
theorem Y7{X:Cx}{es:List Expr}{t:TA}{pos:Pos}(h:QA X es t):QE X (.List es pos) (tLst t):=⟨pe_lst (h:=h.out)⟩
theorem Zd{X:Cx}:QA X [] Zev:=⟨pa_nil ⟩
theorem Zi{X:Cx}{e:Expr}{es:List Expr}{te:TE}{t:TA}(ha:QE X e te)(hr:QA X es t)(hp:Ys e=true:=by rfl):QA X (e::es) (qG te t):=⟨pa_c (ha:=ha.out) (hr:=hr.out) (hp:=hp)⟩
theorem Zl {X:Cx} {CX:CXT} {k:Nat} {f:Addr} {fd:FuncData} {ps:List Str} {sp:Sp} {dvs:List V} {ds:List Value} {E:XK} {x:Str} {p:Pos} {pos:Pos} {e:Expr} {es:List Expr} {t:TA} (F:ZO X.prog X.w X.K X.mg X.base CX k f fd ps sp) (hr:Jf k X.A) (hg:Gl X x) (hm:X.mg x=some (.ref f)) (hk:PySem.W.keepIn X.K (.ref f)=true) (hb:Binds X.K fd ps ds) (hd:Vals dvs ds) (hx:Passes CX X E) (ha:QA X (e::es) t) (hdb:(x == ("__debug__" : Str))=false:=by decide) (hp:(e::es).all Ys=true:=by rfl):QE X (.Call (.Name x p) (e::es) [] pos) (yY sp dvs E t):=⟨uC (F:=F) (hr:=hr) (hg:=hg) (hm:=hm) (hk:=hk) (hb:=hb) (hd:=hd) (hx:=hx) (ha:=ha.out) (hdb:=hdb) (hp:=hp)⟩
theorem Zx {X:Cx} {x:Str} {p:Pos} {pos:Pos} {e:Expr} {es:List Expr} {t:TA} {id:String} {r:List V->Hp->VK->Prop} (hc:XM X (.builtin id) r) (hg:Gl X x) (hm:X.mg x=none) (hv:bootBuiltins x=some (.builtin id)) (ha:QA X (e::es) t) (hn:x ≠ "__name__" := by decide) (hdb:(x == ("__debug__" : Str))=false:=by decide) (hp:(e::es).all Ys=true:=by rfl):QE X (.Call (.Name x p) (e::es) [] pos) (tCB r t):=⟨kP (hc:=hc) (hg:=hg) (hm:=hm) (hv:=hv) (ha:=ha.out) (hn:=hn) (hdb:=hdb) (hp:=hp)⟩
theorem Yt {X:Cx} {x:Str} {p:Pos} {pos:Pos} {e:Expr} {es:List Expr} {t:TA} {T:String} {r:List V->Hp->VK->Prop} (hc:XM X (.type T) r) (hg:Gl X x) (hm:X.mg x=none) (hv:bootBuiltins x=some (.type T)) (ha:QA X (e::es) t) (hn:x ≠ "__name__" := by decide) (hdb:(x == ("__debug__" : Str))=false:=by decide) (hp:(e::es).all Ys=true:=by rfl):QE X (.Call (.Name x p) (e::es) [] pos) (tCB r t):=⟨kQ (hc:=hc) (hg:=hg) (hm:=hm) (hv:=hv) (ha:=ha.out) (hn:=hn) (hdb:=hdb) (hp:=hp)⟩
theorem Xh {X:Cx} {p:Pos} {pos:Pos} {t:TA} {tg a:Expr} (hg:Gl X "range") (hm:X.mg "range" = none) (ha:QA X [a] t) (hp:Ys a=true:=by rfl):QI X tg (.Call (.Name "range" p) [a] [] pos) (Zcw t):=⟨kR (hg:=hg) (hm:=hm) (ha:=ha.out) (hp:=hp)⟩
theorem YE {X:Cx} {apos:Pos} {e:Expr} {o:Expr} {es:List Expr} {t:TA} {id:String} {T:String} {name:Str} {cpos:Pos} {to:TE} {rm:V->List V->Hp->VK->Prop} (pa:PlainAttrs T) (slot:Slot T name id) (hty:typeOf (.builtin id)=pure (.type "method_descriptor")) (hm:MtR X id rm) (ho:QE X o to) (ha:QA X (e::es) t) (hbase:attributeBase o name X.env (eval o X.env)=eval o X.env:=by rfl) (hline:(apos.endLine == cpos.line)=true:=by rfl) (hp:(e::es).all Ys=true:=by rfl) (hl:(e::es).length < 30:=by decide):QE X (.Call (.Attribute o name apos) (e::es) [] cpos) (tBM X.K T rm to t):=⟨pe_bmF (pa:=pa) (slot:=slot) (hty:=hty) (hm:=hm) (ho:=ho.out) (ha:=ha.out) (hbase:=hbase) (hline:=hline) (hp:=hp) (hl:=hl)⟩
theorem Gd {X:Cx} {o:Expr} {to:TE} {name:Str} {apos:Pos} {cpos:Pos} {T:String} {id:String} {r:V->List V->Hp->VK->Prop} (pa:PlainAttrs T) (slot:Slot T name id) (hty:typeOf (.builtin id)=pure (.type "method_descriptor")) (hm:MtR X id r) (ho:QE X o to) (hbase:attributeBase o name X.env (eval o X.env)=eval o X.env:=by rfl) (hline:(apos.endLine == cpos.line)=true:=by rfl):QE X (.Call (.Attribute o name apos) [] [] cpos) (Zf1 X.K T r to):=⟨pe_bm0 (pa:=pa) (slot:=slot) (hty:=hty) (hm:=hm) (ho:=ho.out) (hbase:=hbase) (hline:=hline)⟩
theorem X2{X:Cx}:QO X none jm:=⟨Zc5 ⟩
theorem Ym{X:Cx}{e:Expr}{te:TE}(h:QE X e te):QO X (some e) (Zc4 te):=⟨Zc6 (h:=h.out)⟩
theorem Yn{X:Cx}{e:Expr}{te:TE}{lo:Option Expr}{hi:Option Expr}{tl:TO}{th:TO}{pos:Pos}{p2:Pos}{r:V->Option Int->Option Int->Hp->VK->Prop}(hr:SlR X r)(he:QE X e te)(hl:QO X lo tl)(hu:QO X hi th):QE X (.Subscript e (.Slice lo hi none p2) pos) (tSl r te tl th):=⟨uA (hr:=hr) (he:=he.out) (hl:=hl.out) (hu:=hu.out)⟩
theorem Z5{X:Cx}{a:Expr}{b:Expr}{ta:TE}{tb:TE}{pos:Pos}{r:R2}(hr:IxR X r)(ha:QE X a ta)(hb:QE X b tb)(hs:kL b):QE X (.Subscript a b pos) (tOp r ta tb):=⟨pe_ix (hr:=hr) (ha:=ha.out) (hb:=hb.out) (hs:=hs)⟩
theorem kW{X:Cx}{e:Expr}{t:TT}(h:QW X e t):QT X e t:=⟨h.out.pt⟩
end L2
set_option maxHeartbeats 4000000
namespace L2
open PySem PySem.Spec PyProof.Rows
noncomputable def qH(cells:List (Str × Addr)):List (Str × NameKind)->List (Str × Addr)->List (Str × Addr)
 | [],acc=>acc
 | (n,k)::r,acc=>qH cells r (if (k == NameKind.free)=true then (n,(cells.lookup n).getD 0)::acc else acc)
theorem xg{env:Env}:∀(names:List (Str × NameKind)) (acc:List (Str × Addr)),(∀y∈names,y.2=.free->∃c,env.cells.lookup y.1=some c) ->
  (forIn names acc fun (x:Str × NameKind) (r:List (Str × Addr))=>match x with
   | (name,kind)=>if (kind == NameKind.free)=true then do let a <-cellOf env name;pure (ForInStep.yield ((name,a)::r)) else pure (ForInStep.yield r):Sem (List (Str × Addr)))=pure (qH env.cells names acc)
 | [],acc,_=>rfl
 | (n,k)::r,acc,h=>by
  rw [Qc8]
  have ih:=fun acc'=>xg (env:=env) r acc' fun y hy=>h y (Qag _ hy)
  by_cases hk:(k == NameKind.free)=true
  ·obtain ⟨c,hc⟩:=h (n,k) Qaf (by simpa using hk)
   have hc':env.cells.lookup n=some c:=hc
   have e:cellOf env n=pure c:=by unfold cellOf;rw [hc']
   simp only [hk,Qdy,e]
   rw [qH,Qan hk,hc']
   exact ih ((n,c)::acc)
  ·rw [qH,Qal hk]
   simp only [hk,Qc2]
   exact ih acc
theorem JL{scope:Scope}{env:Env}(h:∀y∈scope.names,y.2=.free->∃c,env.cells.lookup y.1=some c):closureFor scope env=pure (qH env.cells scope.names []):=by
 have e:=xg (env:=env) scope.names [] h
 unfold closureFor
 show (do let r <-_;pure r)=_
 rw [show (forIn scope.names ([]:List (Str × Addr)) fun (x:Str × NameKind) (r:List (Str × Addr))=>match x with
   | (name,kind)=>if (kind == NameKind.free)=true then do let a <-cellOf env name;pure (ForInStep.yield ((name,a)::r)) else pure (ForInStep.yield r):Sem (List (Str × Addr)))=pure (qH env.cells scope.names []) from e]
 rfl
theorem GD{cells:List (Str × Addr)}:∀{names:List (Str × NameKind)} {acc:List (Str × Addr)},(∀y∈names,y.2=.free->∃c,cells.lookup y.1=some c)->(∀x c,acc.lookup x=some c->cells.lookup x=some c) ->
  ∀x c,(qH cells names acc).lookup x=some c->cells.lookup x=some c
 | [],acc,_,ha,x,c,h=>ha x c h
 | (n,k)::r,acc,hf,ha,x,c,h=>by
  rw [qH] at h
  refine GD (names:=r) (fun y hy=>hf y (Qag _ hy)) (fun y d hd=>?_) x c h
  by_cases hk:(k == NameKind.free)=true
  ·rw [Qan hk] at hd
   obtain ⟨e,he⟩:=hf (n,k) Qaf (by simpa using hk)
   have he':cells.lookup n=some e:=he
   rw [he',Qa9] at hd
   cases hy:y == n with
   | true =>
    rw [hy] at hd
    have hy':y=n:=by simpa using hy
    rw [hy',he']
    exact hd
   | false =>
    rw [hy] at hd
    exact ha y d hd
  ·rw [Qal hk] at hd
   exact ha y d hd
theorem zy{cells:List (Str × Addr)}:∀{names:List (Str × NameKind)} {acc:List (Str × Addr)} {x:Str},(∃c,acc.lookup x=some c)->∃c,(qH cells names acc).lookup x=some c
 | [],acc,x,h=>h
 | (n,k)::r,acc,x,h=>by
  rw [qH]
  refine zy (names:=r) ?_
  by_cases hk:(k == NameKind.free)=true
  ·rw [Qan hk,Qa9]
   cases hx:x == n with
   | true=>exact ⟨_,rfl⟩
   | false=>exact h
  ·rw [Qal hk];exact h
theorem Jq{cells:List (Str × Addr)}:∀{names:List (Str × NameKind)} {acc:List (Str × Addr)} {x:Str},names.lookup x=some .free->∃c,(qH cells names acc).lookup x=some c
 | [],acc,x,h=>by cases h
 | (n,k)::r,acc,x,h=>by
  rw [qH]
  rw [Qa9] at h
  cases hx:x == n with
  | true =>
   rw [hx] at h
   have hk:k=.free:=Option.some.inj h
   refine zy (names:=r) ?_
   rw [hk,Qan (show (NameKind.free == NameKind.free)=true by rfl),Qa9,hx]
   exact ⟨_,rfl⟩
  | false =>
   rw [hx] at h
   exact Jq (names:=r) h
theorem Ge{scope:Scope}{env:Env}(hk:env.scope.kind=.function):∀{names:List (Str × NameKind)} {x:Str},names.lookup x=some .free->env.kindOf x=some .cell ->
  (names.map fun (n,k)=>if (k == NameKind.free && env.scope.kind == .function && env.kindOf n == some .cell)=true then (n,NameKind.cell) else (n,k)).lookup x=some .cell
 | [],_,h,_=>by cases h
 | (n,k)::r,x,h,hc=>by
  rw [Qa9] at h
  show List.lookup x ((if (k == NameKind.free && env.scope.kind == .function && env.kindOf n == some .cell)=true then (n,NameKind.cell) else (n,k))::_)=_
  cases hx:x == n with
  | true =>
   rw [hx] at h
   have hkk:k=.free:=Option.some.inj h
   have hxn:x=n:=by simpa using hx
   rw [hkk,hk,<-hxn,hc]
   simp [Qa9]
  | false =>
   rw [hx] at h
   have ih:=Ge (scope:=scope) hk (names:=r) h hc
   by_cases hq:(k == NameKind.free && env.scope.kind == .function && env.kindOf n == some .cell)=true
   ·rw [Qan hq,Qa9,hx];exact ih
   ·rw [Qal hq,Qa9,hx];exact ih
theorem Jr{env:Env}:∀{names:List (Str × NameKind)} {x:Str},names.lookup x=some .free->env.kindOf x=some .free ->
  (names.map fun (n,k)=>if (k == NameKind.free && env.scope.kind == .function && env.kindOf n == some .cell)=true then (n,NameKind.cell) else (n,k)).lookup x=some .free
 | [],_,h,_=>by cases h
 | (n,k)::r,x,h,hc=>by
  rw [Qa9] at h
  show List.lookup x ((if (k == NameKind.free && env.scope.kind == .function && env.kindOf n == some .cell)=true then (n,NameKind.cell) else (n,k))::_)=_
  cases hx:x == n with
  | true =>
   rw [hx] at h
   have hkk:k=.free:=Option.some.inj h
   have hxn:x=n:=by simpa using hx
   have hq:¬(k == NameKind.free && env.scope.kind == .function && env.kindOf n == some .cell)=true:=by
    rw [<-hxn,hc,Qbf]
    exact fun z=>absurd z.2 (by decide)
   rw [Qal hq,Qa9,hx,hkk]
  | false =>
   rw [hx] at h
   have ih:=Jr (names:=r) h hc
   by_cases hq:(k == NameKind.free && env.scope.kind == .function && env.kindOf n == some .cell)=true
   ·rw [Qan hq,Qa9,hx];exact ih
   ·rw [Qal hq,Qa9,hx];exact ih
theorem Gf{env:Env}:∀{names:List (Str × NameKind)} {x:Str},(∀y∈names,y.2≠.cell) ->
    ((names.map fun (n,k)=>if (k == NameKind.free && env.scope.kind == .function && env.kindOf n == some .cell)=true then (n,NameKind.cell) else (n,k)).lookup x=some .cell \/
     (names.map fun (n,k)=>if (k == NameKind.free && env.scope.kind == .function && env.kindOf n == some .cell)=true then (n,NameKind.cell) else (n,k)).lookup x=some .free)->names.lookup x=some .free
  | [],_,_,h=>by rcases h with h | h <;> cases h
  | (n,k)::r,x,hn,h=>by
    have ih:=Gf (env:=env) (names:=r) (x:=x) fun y hy=>hn y (Qag _ hy)
    rw [Qa4] at h
    rw [Qa9]
    by_cases hq:(k == NameKind.free && env.scope.kind == .function && env.kindOf n == some .cell)=true
    · have hk:k=.free:=by
        rw [Qbf,Qbf] at hq
        simpa using hq.1.1
      simp only [hq,Qdy,Qa9] at h
      cases hx:x == n with
      | true=>rw [hk]
      | false =>
        rw [hx] at h
        exact ih h
    · simp only [hq,Qb4,Qc2,Qa9] at h
      cases hx:x == n with
      | true =>
        rw [hx] at h
        rcases h with h | h
        · exact absurd (Option.some.inj h) (hn (n,k) Qaf)
        · exact h
      | false =>
        rw [hx] at h
        exact ih h
noncomputable def cxC(X:Cx)(N':List Str)(scope:Scope)(C:Addr)(s₂:Shared)(H₂:Hp)(ex:List Addr):Cx :=
 { X with N:=N',s₀:=s₂,H₀:=H₂,env:=compEnvC scope (qH X.env.cells scope.names []) C X.env,outer:=X.stack,stack:=X.stack,ex:=ex,fn:=fun _=>false,pn:=[],xe:=fun _ _=>False }
noncomputable def GF(is:List Nat)(σ:St)(v:Option V):St:=v::is.map fun i=>(σ[i]?).getD none
structure YF(S scope:Scope)(N:List Str)(x:Str)(ys:List Str)(is:List Nat):Prop where
 kind:scope.kind=.function
 cell:∀y∈scope.names,y.2≠.cell
 names:∀y∈scope.names,y.2=.local->scope.names.lookup y.1=some .local
 own:scope.names.lookup x=some .local
 free:∀y∈scope.names,y.2=.free->S.names.lookup y.1=some .cell\/S.names.lookup y.1=some .free
 vis:∀p∈ys.zip is,N[p.2]?=some p.1/\scope.names.lookup p.1=some .free
 len:ys.length=is.length
 nd:(x::ys).Nodup
noncomputable def PF(X:Cx)(ifs:List Expr)(t:TT):Prop :=
 ∀(pins:List (Addr × Obj)) (s:Shared) (σ:St) (H:Hp) (Q:Bool->Hp->Prop),Inv X pins σ H s->t σ H Q ->
  wpAny (model X.prog X.w) X.A (forIn ifs true fun c r=>if r=true then do let ok <-isTrue c X.env (eval c X.env);pure (ForInStep.yield ok) else pure (ForInStep.yield r)) (TP X pins σ Q) X.xe s
structure QF(X:Cx)(ifs:List Expr)(t:TT):Prop where
 out:PF X ifs t
noncomputable def Zew:TT:=fun _ H Q=>Q true H
theorem Js{X:Cx}:QF X [] Zew:=⟨fun _ _ _ H _ I h=>wpAny_tests_nil ⟨H,I,h⟩⟩
theorem kX{X:Cx}{c:Expr}{t:TT}(h:QT X c t):QF X [c] t:=⟨fun pins s σ H Q I hw=>wpAny_tests_one (h.out pins s σ H Q I hw)⟩
section
variable {X:Cx}{S scope:Scope}{N:List Str}{x:Str}{ys:List Str}{is:List Nat}{pins:List (Addr × Obj)}{σ:St}{H₂:Hp}{s₂:Shared}{fp:List Addr}
theorem YF.cellOf'(K:YF S scope N x ys is)(hX:X.env.scope=S)(ok:X.Ok):∀y∈scope.names,y.2=.free->∃c,X.env.cells.lookup y.1=some c:=fun y hy h =>
 ok.has y.1 (by show X.env.scope.names.lookup y.1=_\/X.env.scope.names.lookup y.1=_;rw [hX];exact K.free y hy h)
theorem YF.cl(K:YF S scope N x ys is)(hX:X.env.scope=S)(ok:X.Ok):∀y c,(qH X.env.cells scope.names []).lookup y=some c->X.env.cells.lookup y=some c :=
 GD (K.cellOf' hX ok) fun _ _ z=>by cases z
theorem yj{names:List (Str × NameKind)}{y:Str}{k:NameKind}(h:names.lookup y=some k):(y,k)∈names:=by
 induction names with
 | nil=>cases h
 | cons p r ih =>
  obtain ⟨n,k'⟩:=p
  rw [Qa9] at h
  cases hx:y == n with
  | true =>
   rw [hx] at h
   have e1:y=n:=by simpa using hx
   have e2:k'=k:=Option.some.inj h
   rw [e1,e2]
   exact Qaf
  | false =>
   rw [hx] at h
   exact Qag _ (ih h)
theorem kY(K:YF S scope N x ys is)(hX:X.env.scope=S)(I:Inv X pins σ H₂ s₂){C:Addr}(hC:s₂.heap.objs.size<=C)(hfp:∀b∈fp,yd X pins H₂ b)(hlt:∀b∈fp,b < s₂.heap.objs.size):(cxC X (x::ys) scope C s₂ H₂ fp).Ok where
 mod:=I.ok.mod
 kind:=K.kind
 glob:=I.ok.glob
 blt:=I.ok.blt
 above:=hC
 inj:=fun y z c h1 h2=>I.ok.inj y z c (K.cl hX I.ok y c h1) (K.cl hX I.ok z c h2)
 has:=fun y hy=>Jq (Gf (env:=X.env) K.cell hy)
 cab:=fun y c h=>by cases h
 hd:=I.ok.hd
 frames:=I.ok.frames
 stk:=.inl rfl
 exf:=fun b hb=>⟨fun e=>absurd (Qba (hlt b hb) (Qbe hC (Nat.le_of_eq (Eq.symm e)))) (Qb1 _),fun y c h=>(hfp b hb).2.2.2.2.1 y c (K.cl hX I.ok y c h)⟩
 bs:=I.bs
 bsz:=Qbe I.ok.bsz I.sz
 noex:=fun b o e hb=>by
  rcases (hfp b hb).2.2.2.1 with z | z
  ·exact I.ok.noex b o e z
  ·exact absurd (Qba (Heap.lt_size e) (Qbe I.ok.bsz z)) (Qb1 _)
 exfs:=fun b hb z=>by
  rcases Qaj.mp (I.stkSub b z) with e | e
  ·exact (hfp b hb).2.1 e
  ·exact (hfp b hb).2.2.1 e
 funs:=I.stack
 frf:=I.stkFree
theorem Zdd(K:YF S scope N x ys is)(hX:X.env.scope=S)(hN:X.N=N)(hk:S.kind=.function)(I:Inv X pins σ H₂ s₂){C D:Addr}{h₁:Heap}{tk:Nat}{oD:Obj}(hC:s₂.heap.objs.size<=C)(hD:s₂.heap.objs.size<=D)(hDC:D≠C)
  (hfp:∀b∈fp,yd X pins H₂ b) (hlt:∀b∈fp,b < s₂.heap.objs.size) (old:∀b o,s₂.heap.get? b=some o->h₁.get? b=some o) (hn:h₁.Ns C fun _=>none) (hacc:h₁.get? D=some oD) (hod:∀v,oD.data≠.cell v) :
  Inv (cxC X (x::ys) scope C s₂ H₂ fp) [(D,oD)] (GF is σ none) H₂ { s₂ with heap:=h₁,toks:=tk }:=by
 have ok:=kY K hX I hC hfp hlt
 refine ⟨ok,rfl,I.bare,Un.kept old,⟨_,hn,fun i y v h1 h2 h3=>?_⟩,fun y c h=>?_,I.hok.fresh hC,fun y c h=>I.freeC y c (K.cl hX I.ok y c h),fun p hp=>?_,I.hok.kept old,?_⟩
 ·cases i with
  | zero =>
   have h2':some (none:Option V)=some (some v):=h2
   cases h2'
  | succ i =>
   have h1':ys[i]?=some y:=h1
   have h2':(is.map fun i=>(σ[i]?).getD none)[i]?=some (some v):=h2
   rw [Qap] at h2'
   cases hj:is[i]? with
   | none=>rw [hj] at h2';cases h2'
   | some j =>
    rw [hj] at h2'
    have h2'':(σ[j]?).getD none=some v:=Option.some.inj h2'
    have hσ:σ[j]?=some (some v):=by
     cases q:σ[j]? with
     | none=>rw [q] at h2'';cases h2''
     | some z=>rw [q] at h2'';exact congrArg some h2''
    have hz:(y,j)∈ys.zip is:=by
     obtain ⟨a1,e1⟩:=Qae.mp h1'
     obtain ⟨a2,e2⟩:=Qae.mp hj
     rw [<-e1,<-e2,<-Qeh (h:=by rw [Qei];lia)]
     exact Qc4 _
    obtain ⟨v1,v2⟩:=K.vis _ hz
    have kc:X.env.kindOf y=some .cell\/X.env.kindOf y=some .free:=by show X.env.scope.names.lookup y=_\/X.env.scope.names.lookup y=_;rw [hX];exact K.free _ (yj v2) rfl
    refine Oe1a1 I.loc fun m hm hl=>?_
    (refine Oe1a1 (hl j y v (by rw [hN];exact v1) hσ (.inr kc)) fun u r l=>?_)
    refine ⟨u,r,.inr ?_⟩
    rcases l with ⟨l1,_⟩ | ⟨_,c,l2,l3⟩
    ·rcases kc with kc | kc <;> rw [kc] at l1 <;> cases l1
    ·obtain ⟨c',hc'⟩:=Jq (cells:=X.env.cells) (acc:=[]) v2
     have e:c'=c:=by have:=K.cl hX I.ok y c' hc';rw [l2] at this;exact (Option.some.inj this).symm
     subst e
     refine ⟨kc.imp (Ge (scope:=scope) (by rw [hX];exact hk) v2) (Jr v2),c',hc',?_⟩
     (refine Oe1a1 l3 fun o ho hd=>?_;clear l3)
     exact ⟨o,old _ _ ho,hd⟩
 ·refine Oe2a1 (I.cell y c (K.cl hX I.ok y c h)) fun v o ho hd=>?_
  exact ⟨v,o,old _ _ ho,hd⟩
 ·have e:p=(D,oD):=by simpa [cxC] using hp
  subst e
  refine ⟨hacc,I.hok.fresh hD,hDC,fun z=>?_,hod⟩
  obtain ⟨_,o,ho,_⟩:=ok.funs.mem z
  exact absurd (Qba (Heap.lt_size ho) hD) (Qb1 _)
 ·show (GF is σ none).length=(x::ys).length
  unfold GF
  rw [Qa2,Qaa,Qa2,K.len]
theorem Zde(I:Inv X pins σ H₂ s₂){C D:Addr}{N':List Str}{σ':St}{H':Hp}{s':Shared}{pl:List (Addr × Obj)}(I':Inv (cxC X N' scope C s₂ H₂ fp) pl σ' H' s')(hD:s₂.heap.objs.size<=D)(hDn:H' D=none)
  (hfp:∀b∈fp,yd X pins H₂ b) {zs:List V} {its:List Value} {n:Nat} (hz:zs.length<=sizeLine) (r:Vals zs its) (hd:s'.heap.get? D=some { cls:=.type "list",data:=.seq its.toArray n }) :
  Inv X pins σ (upd H' D (.lst zs)) s':=by
 have b:Un (frs X.stack) fp H₂ H' s₂.heap s'.heap:=I'.base
 have ne:∀c o,s₂.heap.get? c=some o->c≠D:=fun c o e z=>absurd (Qba (Heap.lt_size e) (Qbe hD (Nat.le_of_eq (Eq.symm z)))) (Qb1 _)
 have D2:H₂ D=none:=I.hok.fresh hD
 refine I.call' I'.os ⟨b.keep,b.slot,fun c o e n hx=>?_,b.there,fun c xs e=>?_,fun c o u e=>?_,fun c ps e=>?_⟩ (fun c u e=>?_) I'.bare fun c hc=>⟨(hfp c hc).2.2.2.1,(hfp c hc).2.1,(hfp c hc).2.2.2.2.1,(hfp c hc).2.2.2.2.2⟩
 ·rw [Zj (ne c o e)];exact b.free c o e n hx
 ·rw [Zj (Zo e D2)];exact b.tups c xs e
 ·rw [Zj (Zo e D2)];exact b.frzs c o u e
 ·rw [Zj (Zo e D2)];exact b.tbls c ps e
 ·by_cases hc:c=D
  ·subst hc
   rw [Za] at e
   cases e
   exact ⟨hz,its,n,r,hd⟩
  ·rw [Zj hc] at e
   exact (I'.hok c u e).stay (fun _ _ _ q=>q) (fun d q=>by rw [Zj (Zo q hDn)];exact q) fun d xs q=>by rw [Zj (Zo q hDn)];exact q
end
section
variable {prog:Program}{w:World}{A:Around}{R:Result->Shared->Prop}{s:Shared}
theorem kZ{elt target iter:Expr}{ifs:List Expr}{scope:Scope}{pos:Pos}{it acc:Value}{env:Env}(I:Nat->Shared->Prop)
  (turn:∀n s,I n s->wpAny (model prog w) A (pyNext it) (fun r s₁=>match r with
   | none=>R (.ok .next) s₁
   | some v=>wpAny (model prog w) A (letOwnedTupleGo target it v) (fun _ s₁'=>wpAny (model prog w) A (assign target env v) (fun _ s₂ =>
     wpAny (model prog w) A (forIn ifs true fun c r=>if r=true then do let ok <-isTrue c env (eval c env);pure (ForInStep.yield ok) else pure (ForInStep.yield r)) (fun ok s₃ =>
      if ok=true then wpAny (model prog w) A (eval elt env) (fun x s₄ =>
       wpAny (model prog w) A (call (.builtin "list.append") [acc,x]) (fun _ s₅=>∃m,m < n/\I m s₅) (fun _ _=>False) s₄) (fun _ _=>False) s₃
      else ∃m,m < n/\I m s₃) (fun _ _=>False) s₂) (fun _ _=>False) s₁') (fun _ _=>False) s₁) (fun _ _=>False) s)
  (n:Nat) (h:I n s) :
  codeAny (model prog w) A (.compLoop (.ListComp elt [⟨target,iter,ifs,0⟩] scope pos) 0 it acc env) R s:=by
 refine codeAny_loop rfl I (fun n s hI=>?_) n h
 show wpAny _ A ((compTurn (.ListComp elt [⟨target,iter,ifs,0⟩] scope pos) 0 it acc env).onRaise (fun x=>do noteFrame x env;theTreesLotGoes x)) _ _ s
 refine wpAny_noted ?_
 rw [compTurn_list]
 have nf:∀{E:Value->Shared->Prop} (e:Value) (s':Shared),False->E e s':=fun _ _ z=>z.elim
 refine wpAny_bind (wpAny_standAt (wpAny_bind (wpAny_mono (turn n s hI) (fun r s₁ h₁=>?_) nf)))
 cases r with
 | none=>exact wpAny_pure h₁
 | some v =>
  refine wpAny_bind (wpAny_mono h₁ (fun _ s₁' h₁'=>?_) nf)
  refine wpAny_bind (wpAny_mono h₁' (fun _ s₂ h₂=>wpAny_bind (wpAny_mono h₂ (fun ok s₃ h₃=>?_) nf)) nf)
  cases ok with
  | false=>exact wpAny_pure ⟨rfl,h₃⟩
  | true =>
   exact wpAny_bind (wpAny_bind (wpAny_mono h₃ (fun x s₄ h₄=>wpAny_bind (wpAny_mono h₄ (fun _ s₅ h₅=>wpAny_pure (wpAny_pure ⟨rfl,h₅⟩)) nf)) nf))
end
noncomputable def xK(is:List Nat)(tc:TT)(te:TE)(σ:St)(Q:VK)(J:It)(H1:Hp):Prop:=∃W:Nat->Nat->List V->Hp->Prop,(∃m,W 0 m [] H1)/\∀i m zs H,W i m zs H ->
 (J.stop i H/\zs.length<=sizeLine/\∀p,H p=none->Q (.ref p) (upd H p (.lst zs))) \/
 (J.go i H/\zs.length<=sizeLine/\∀x H',J.yld i H x H'->tc (GF is σ (some x)) H' fun b H2=>if b=true then te (GF is σ (some x)) H2 fun y H3=>∃m',m' < m/\W (i + 1) m' (zs++[y]) H3 else ∃m',m' < m/\W (i + 1) m' zs H2)
noncomputable def Zff(wi:TI)(is:List Nat)(tc:TT)(te:TE):TE:=fun σ H Q=>wi σ H (xK is tc te σ Q)
section
variable {X:Cx}{S scope:Scope}{N:List Str}{x:Str}{ys:List Str}{is:List Nat}{pins:List (Addr × Obj)}{σ:St}{H₂:Hp}{s₂:Shared}{fp:List Addr}{elt iter:Expr}{px pos:Pos}{ifs:List Expr}{tc:TT}{te:TE}
theorem xh{J:It}{it:Addr}{tn:Nat->Heap->Prop}{Q:VK}{RR:Value->Addr->Result->Shared->Prop}{E:Value->Shared->Prop}(K:YF S scope N x ys is)(hX:X.env.scope=S)(hN:X.N=N)(hk:S.kind=.function)(hc:X.calm=true)
  (hf:∀C s₂ H₂ ex,QF (cxC X (x::ys) scope C s₂ H₂ ex) ifs tc) (he:∀C s₂ H₂ ex,QE (cxC X (x::ys) scope C s₂ H₂ ex) elt te)
  (I:Inv X pins σ H₂ s₂) (T:Turn X.prog X.w X.K (.Name x px) J fp it tn) (st:tn 0 s₂.heap) (hfp:∀b∈fp,yd X pins H₂ b)
  {W:Nat->Nat->List V->Hp->Prop} {m0:Nat} (w0:W 0 m0 [] H₂)
  (turn:∀i m zs H,W i m zs H->(J.stop i H/\zs.length<=sizeLine/\∀p,H p=none->Q (.ref p) (upd H p (.lst zs))) \/
   (J.go i H/\zs.length<=sizeLine/\∀x H',J.yld i H x H'->tc (GF is σ (some x)) H' fun b H2=>if b=true then te (GF is σ (some x)) H2 fun y H3=>∃m',m' < m/\W (i + 1) m' (zs++[y]) H3 else ∃m',m' < m/\W (i + 1) m' zs H2))
  (fin:∀D C s' H' m',Inv X pins σ H' s'->yd X pins H' C->s'.heap.Ns C m'->Q (.ref D) H'->RR (.ref D) C (.ok .next) s') :
  wpAny (model X.prog X.w) X.A (newList []) (fun acc s₃=>wpAny (model X.prog X.w) X.A (newFunctionEnv scope X.env.globals (qH X.env.cells scope.names []) [] X.env.qual none .none (some X.env)) (fun cenv s₄ =>
   codeAny (model X.prog X.w) X.A (.compStart (.ListComp elt [⟨.Name x px,iter,ifs,0⟩] scope pos) 0 (.ref it) acc { cenv with scope:=relabel scope X.env }) (RR acc cenv.locals) s₄) E s₃) E s₂:=by
 refine wpAny_newObj_type (wpAny_newFunctionEnv K.cell (by intro y hy;simp at hy) (fun h₁ hns₁ hsb₁=>?_) K.kind)
 dsimp only at hns₁ hsb₁ ⊢
 generalize hH2:s₂.heap.push { cls:=.type "list",dict:=none,data:=.seq ([]:List Value).toArray }=H2 at hns₁ hsb₁ ⊢
 have hCs:H2.objs.size=s₂.heap.objs.size + 1:=by rw [<-hH2,Heap.size_push]
 have hDC:s₂.heap.objs.size≠H2.objs.size:=by rw [hCs];exact Qbm (Nat.lt_succ_self _)
 have hC:s₂.heap.objs.size<=H2.objs.size:=by rw [hCs];exact Qeg _
 have hlt:∀b∈fp,b < s₂.heap.objs.size:=fun b hb=>by refine Oe1a1 (T.obj 0 _ st b hb) fun o e _=>?_;exact Heap.lt_size e
 have old:∀b o,s₂.heap.get? b=some o->h₁.get? b=some o:=fun b o e=>hsb₁.extBut b o (by rw [hCs];exact Qbm (Nat.lt_succ_of_lt (Heap.lt_size e))) (Heap.get?_push_of_some _ (hH2 ▸ Heap.get?_push_of_some _ e))
 have hacc:h₁.get? s₂.heap.objs.size=some { cls:=.type "list",data:=.seq ([]:List Value).toArray 0 }:=hsb₁.extBut _ _ hDC (Heap.get?_push_of_some _ (hH2 ▸ Heap.get?_push_size _ rfl))
 have st₁:tn 0 h₁:=T.keep _ _ _ st fun b _ o e=>old b o e
 have fpC:∀{H':Hp} {pl:List (Addr × Obj)},(∀p∈pl,∀b∈fp,p.1≠b)->(∀b∈fp,H' b=none)->∀b∈fp,yd (cxC X (x::ys) scope H2.objs.size s₂ H₂ fp) pl H' b:=fun {H' pl} hpl hn b hb=>by
  have ok:=kY K hX I hC hfp hlt
  exact ⟨hn b hb,(ok.exf b hb).1,ok.exfs b hb,.inl hb,(ok.exf b hb).2,fun p hp=>hpl p hp b hb⟩
 have Dfp:∀(o:Obj),∀p∈[(s₂.heap.objs.size,o)],∀b∈fp,p.1≠b:=fun o p hp b hb e=>by
  have e1:p=(s₂.heap.objs.size,o):=by simpa using hp
  subst e1
  exact absurd (hlt b hb) (by rw [<-e];exact Qb1 _)
 have loop:∀s₃:Shared,s₃={ s₂ with heap:=h₁,toks:=s₂.toks + ([]:List (Str × Value)).length } ->
   codeAny (model X.prog X.w) X.A (.compLoop (.ListComp elt [⟨.Name x px,iter,ifs,0⟩] scope pos) 0 (.ref it) (.ref s₂.heap.objs.size) (compEnvC scope (qH X.env.cells scope.names []) H2.objs.size X.env))
    (RR (.ref s₂.heap.objs.size) H2.objs.size) s₃:=by
  rintro s₃ rfl
  have I0:=Zdd K hX hN hk I (tk:=s₂.toks + ([]:List (Str × Value)).length) hC (Qah _) hDC hfp hlt old hns₁ hacc (fun v z=>by cases z)
  refine kZ (fun n s'=>∃(i:Nat) (v0:Option V) (zs:List V) (its:List Value) (k:Nat) (H':Hp),Inv (cxC X (x::ys) scope H2.objs.size s₂ H₂ fp) [(s₂.heap.objs.size,{ cls:=.type "list",data:=.seq its.toArray k })] (GF is σ v0) H' s' /\
   Vals zs its/\tn i s'.heap/\(∀b∈fp,H' b=none)/\W i n zs H') ?_ m0 ⟨0,none,[],[],0,H₂,I0,.nil,st₁,fun b hb=>(hfp b hb).1,w0⟩
  (intro n s3 zq8;(refine Oe6a4 zq8 fun i v0 zs its k H3 I3 rv st3 fr3 w3=>?_;clear zq8))
  have hD3:=I3.pin _ (Qa8 _ (Qa5.mpr rfl))
  rcases turn i n zs H3 w3 with ⟨stop,hz,q⟩ | ⟨go,hz,step⟩
  ·refine thn (T.done (cxC X (x::ys) scope H2.objs.size s₂ H₂ fp) rfl rfl rfl hc i _ s3 _ H3 _ I3 (fpC (Dfp _) fr3) st3 stop) fun r s4 ⟨hr,I4⟩=>?_
   subst hr
   have hD4:=I4.pin _ (Qa8 _ (Qa5.mpr rfl))
   have I5:=Zde I I4 (Qah _) hD4.2.1 hfp hz rv hD4.1
   refine Oe1a1 I4.loc fun m' hm' _=>?_
   refine fin _ _ s4 _ m' I5 ?_ hm' (q _ hD4.2.1)
   refine I.fpOk hC ?_
   rw [Zj (Qcx hDC)]
   exact I4.free
  ·refine thn (T.item (cxC X (x::ys) scope H2.objs.size s₂ H₂ fp) rfl rfl rfl hc i _ s3 _ H3 _ I3 (fpC (Dfp _) fr3) st3 go) fun r s4 ⟨u,hr,h4⟩=>?_
   subst hr
   refine thn h4 fun _ s5 zq9=>?_;(refine Oe2a4 zq9 fun xv H5 I5 r5 y5 st5 fr5=>?_;clear zq9)
   have I5':=I5.pinned (fpC (Dfp _) fr5) (T.obj _ _ st5)
   have pg:PG (cxC X (x::ys) scope H2.objs.size s₂ H₂ fp) (.Name x px) (GQ 0):=kd K.nd rfl (.inl (lookup_relabel_local K.own)) (.inr (lookup_relabel_local K.own))
   refine thn (pg _ s5 _ H5 xv u (fun σ2 H2=>σ2=GF is σ (some xv)/\H2=H5) I5' r5 ⟨rfl,rfl⟩) fun _ s6 zq9=>?_;(refine Oe2a2 zq9 fun σ6 H6 I6 e6 e6'=>?_;clear zq9)
   subst e6
   subst e6'
   have back:∀{s7:Shared} {H7:Hp},Inv (cxC X (x::ys) scope H2.objs.size s₂ H₂ fp) ([(s₂.heap.objs.size,{ cls:=.type "list",data:=.seq its.toArray k })]++zl fp s5.heap) (GF is σ (some xv)) H7 s7 ->
     tn (i + 1) s7.heap/\(∀b∈fp,H7 b=none)/\s7.heap.get? s₂.heap.objs.size=some { cls:=.type "list",data:=.seq its.toArray k }/\H7 s₂.heap.objs.size=none:=fun {s7 H7} I7=>by
    refine ⟨T.keep _ _ _ st5 fun b hb o e=>(I7.pin (b,o) (Qa8 _ (Qa8 _ (WO hb e)))).1,fun b hb=>?_,?_,?_⟩
    ·refine Oe1a1 (T.obj _ _ st5 b hb) fun o e d=>?_
     exact (I7.pin (b,o) (Qa8 _ (Qa8 _ (WO hb e)))).2.1
    ·exact (I7.pin (s₂.heap.objs.size,{ cls:=.type "list",data:=.seq its.toArray k }) (Qa8 _ (Qcy _ (Qa5.mpr rfl)))).1
    ·exact (I7.pin (s₂.heap.objs.size,{ cls:=.type "list",data:=.seq its.toArray k }) (Qa8 _ (Qcy _ (Qa5.mpr rfl)))).2.1
   refine thn ((hf _ _ _ _).out _ s6 _ H6 _ I6 (step xv H6 y5)) fun b s7 ⟨H7,I7,q7⟩=>?_
   cases b with
   | false =>
    have q7':∃m',m' < n/\W (i + 1) m' zs H7:=by simpa using q7
    (refine Oe1a1 q7' fun m' hm' w7=>?_;clear q7')
    refine Oe0a3 (back I7) fun b1 b2 b3 b4=>?_
    rw [Qal Qam]
    exact ⟨m',hm',i + 1,some xv,zs,its,k,H7,I7.unpinned,rv,b1,b2,w7⟩
   | true =>
    rw [Qan rfl]
    have q7':=q7
    rw [Qan rfl] at q7'
    refine thn ((he _ _ _ _).out _ s7 _ H7 _ I7 q7') fun yv s8 zq9=>?_;obtain ⟨y,H8,I8,r8,m',hm',w8⟩:=zq9
    refine Oe0a3 (back I8) fun b1 b2 b3 b4=>?_
    refine append_at b3 (fun h9 sb9 e9=>?_) (by rw [Qay,<-rv.length];exact hz)
    have ok:=kY K hX I hC hfp hlt
    have I8':Inv (cxC X (x::ys) scope H2.objs.size s₂ H₂ fp) [] (GF is σ (some xv)) H8 s8:=I8.pins_of fun p hp=>by cases hp
    have I9:Inv (cxC X (x::ys) scope H2.objs.size s₂ H₂ fp) [] (GF is σ (some xv)) H8 { s8 with heap:=h9 }:=I8'.turned (t':=s8.toks) (it:=s₂.heap.objs.size) (fun b o hb e=>(sb9.2 b hb).trans e) b4 hDC (.inr (Qah _))
     (fun y c h z=>by
      refine Oe2a1 (I.cell y c (K.cl hX I.ok y c h)) fun v o ho _=>?_
      have:=Heap.lt_size ho
      rw [z] at this
      exact Qb1 _ this) (fun p hp=>by cases hp)
    refine ⟨m',hm',i + 1,some xv,zs++[y],its++[yv],k + 1,H8,?_,rv.append (.cons r8 .nil),T.keep _ _ _ b1 fun b hb o e=>(sb9.2 b fun z=>absurd (hlt b hb) (by rw [z];exact Qb1 _)).trans e,b2,w8⟩
    refine I9.pins_of fun p hp=>?_
    have e1:p=(s₂.heap.objs.size,{ cls:=.type "list",data:=.seq (its++[yv]).toArray (k + 1) }):=by simpa using hp
    subst e1
    refine ⟨by rw [e9,List.push_toArray],b4,hDC,fun z=>?_,fun v z=>by cases z⟩
    obtain ⟨_,o,ho,_⟩:=ok.funs.mem z
    exact absurd (Heap.lt_size ho) (Qb1 _)
 exact codeAny_compStart_list (loop _ rfl) (T.self _ 0 _ _ _ st₁ (loop _ rfl))
end
section
variable {X:Cx}{S scope:Scope}{N:List Str}{x:Str}{ys:List Str}{is:List Nat}{elt iter:Expr}{px pos:Pos}{ifs:List Expr}{wi:TI}{tc:TT}{te:TE}
theorem Wl(K:YF S scope N x ys is)(hi:QI X (.Name x px) iter wi)(hf:∀C s₂ H₂ ex,QF (cxC X (x::ys) scope C s₂ H₂ ex) ifs tc)(he:∀C s₂ H₂ ex,QE (cxC X (x::ys) scope C s₂ H₂ ex) elt te)
  (hc:X.calm=true:=by rfl) (hX:X.env.scope=S:=by rfl) (hN:X.N=N:=by rfl) (hk:S.kind=.function:=by rfl) (hs:∀v,foldedSetIterable iter X.env v=pure v:=by intro _;rfl) :
  QE X (.ListComp elt [⟨.Name x px,iter,ifs,0⟩] scope pos) (Zff wi is tc te):=by
 refine ⟨fun pins s σ H Q I h=>?_⟩
 rw [eval_ListComp]
 refine wpAny_comprehension_free (use:=none) rfl hs (JL (K.cellOf' hX I.ok)) K.kind K.names (thn (hi.out pins s σ H _ I h) fun v s1 h1=>thn h1 fun itv s2 h2=>?_)
 (refine Oe5a5 h2 fun it fp tn J H2 zo76 I2 T st2 f2 zo77=>?_;obtain rfl:=zo76;refine Oe1a1 zo77 fun W zo78 turn=>?_;obtain ⟨m0,w0⟩:=zo78;clear zo77;clear h2)
 refine xh (RR:=fun acc C=>compPost (model X.prog X.w) X.A X.xe none (EP X pins σ Q) acc C) K hX hN hk hc hf he I2 T st2 f2 w0 turn ?_
 intro D C s' H' m' I' fC hm' q
 (refine Oe0a5 fC fun f0 f1 f3 f4 f5 f6=>?_;clear fC)
 exact ⟨m',hm',fun h' hs'=>⟨.ref D,H',I'.turned (t':=s'.toks) (fun b o hb e=>(hs'.2 b hb).trans e) f0 f1 f4 f5 f6,rfl,q⟩⟩
theorem ju{i:Nat}{y:Str}{py spos:Pos}(hNd:X.N.Nodup)(hy:X.N[i]?=some y)(hl:X.env.scope.names.lookup y=some .local)(K:YF S scope N x ys is)(hi:QI X (.Name x px) iter wi)
  (hf:∀C s₂ H₂ ex,QF (cxC X (x::ys) scope C s₂ H₂ ex) ifs tc) (he:∀C s₂ H₂ ex,QE (cxC X (x::ys) scope C s₂ H₂ ex) elt te)
  (hsw:swapsWith (.ListComp elt [⟨.Name x px,iter,ifs,0⟩] scope pos) (some (.Name y py)) spos.line X.env=pure true:=by rfl)
  (hc:X.calm=true:=by rfl) (hX:X.env.scope=S:=by rfl) (hN:X.N=N:=by rfl) (hk:S.kind=.function:=by rfl) (hs:∀v,foldedSetIterable iter X.env v=pure v:=by intro _;rfl) :
  QS X (.Assign [.Name y py] (.ListComp elt [⟨.Name x px,iter,ifs,0⟩] scope pos) spos) (Zfz (Zff wi is tc te) (GQ i)):=by
 refine ⟨fun pins s σ H D I h=>?_⟩
 rw [exec_Assign_Name_used _ _ _ _ hsw]
 refine wpAny_bind (wpAny_standAt (wpAny_bind ?_))
 show wpAny _ X.A (do let _ <-comprehension (.ListComp elt [⟨.Name x px,iter,ifs,0⟩] scope pos) scope X.env _ (newList []) false (eval iter X.env) (some (assign (.Name y py) X.env))) _ _ s
 refine wpAny_bind (thn (wpAny_comprehension_free (use:=some (assign (.Name y py) X.env)) (Q:=fun _ s'=>SP X pins D .next s') rfl hs (JL (K.cellOf' hX I.ok)) K.kind K.names
  (thn (hi.out pins s σ H _ I h) fun v s1 h1=>thn h1 fun itv s2 h2=>?_)) fun _ s' hq=>wpAny_pure (wpAny_pure hq))
 (refine Oe5a5 h2 fun it fp tn J H2 zo79 I2 T st2 f2 zo80=>?_;obtain rfl:=zo79;refine Oe1a1 zo80 fun W zo81 turn=>?_;obtain ⟨m0,w0⟩:=zo81;clear zo80;clear h2)
 refine xh (RR:=fun acc C=>compPost (model X.prog X.w) X.A X.xe (some (assign (.Name y py) X.env)) (fun _ s'=>SP X pins D .next s') acc C) (Q:=fun v H=>D.nx (σ.set i (some v)) H) K hX hN hk hc hf he I2 T st2 f2 w0 turn ?_
 intro Dl C s' H' m' I' fC hm' q
 (refine Oe0a5 fC fun f0 f1 f3 f4 f5 f6=>?_;clear fC)
 show wpAny _ X.A (assign (.Name y py) X.env (.ref Dl)) _ _ _
 (refine Oe3a2 hm' fun oC es ep hoC hdC hrC=>?_;clear hm')
 have Ip:Inv X (pins++[(C,oC)]) σ H' s':=I'.pins_of fun p hp=>(Qbd.mp hp).elim (fun z=>I'.pin p (Qa8 _ z)) fun z=>by
  have e:p=(C,oC):=by simpa using z
  subst e
  exact ⟨hoC,f0,f1,f3,fun v z=>by rw [hdC] at z;cases z⟩
 refine wpAny_assign_Name (Jp Ip hNd hy (.inl hl) (v:=.ref Dl) rfl (fun s'' I''=>?_) (.inr hl))
 have hC2:=(I''.pin (C,oC) (Qa8 _ (Qa8 _ (Qa5.mpr rfl)))).1
 refine ⟨m',⟨oC,es,ep,hC2,hdC,hrC⟩,fun h' hs'=>⟨_,H',I''.unpinned.turned (t':=s''.toks) (fun b o hb e=>(hs'.2 b hb).trans e) f0 f1 f4 f5 f6,q⟩⟩
end
theorem xi{lo:Int}{n:Nat}{is:List Nat}{tc:TT}{te:TE}{σ:St}{H:Hp}{Q:VK}(Pv:Nat->List V->Hp->Prop)(h0:Pv 0 [] H)(hl:∀i zs H,Pv i zs H->zs.length<=sizeLine)
  (hs:∀i zs H (R:List V->Hp->Prop),(∀zs H,Pv (i + 1) zs H->R zs H)->i < n->Pv i zs H->tc (GF is σ (some (.int (lo + i)))) H fun b H2=>if b=true then te (GF is σ (some (.int (lo + i)))) H2 fun y H3=>R (zs++[y]) H3 else R zs H2)
  (hd:∀zs H,Pv n zs H->∀p,H p=none->Q (.ref p) (upd H p (.lst zs))) :
  xK is tc te σ Q (Itr lo n) H:=by
 refine ⟨fun i m zs H=>m=n - i/\i<=n/\Pv i zs H,⟨n,by simp,Qbg _,h0⟩,?_⟩
 (intro i m zs H zq8;(refine Oe0a2 zq8 fun zo82 hi p=>?_;obtain rfl:=zo82;clear zq8))
 by_cases hlt:i < n
 ·refine .inr ⟨hlt,hl i zs H p,fun x H' y=>?_⟩
  obtain ⟨e,y⟩:=y
  subst e y
  exact hs i zs _ (fun zs H=>∃m',m' < n - i/\m'=n - (i + 1)/\i + 1<=n/\Pv (i + 1) zs H) (fun zs H q=>⟨n - (i + 1),by lia,rfl,hlt,q⟩) hlt p
 ·have e:i=n:=by lia
  subst e
  exact .inl ⟨Qah _,hl _ _ _ p,hd zs H p⟩
theorem GG{K:PySem.W.Frag}{a:Addr}{xs:List V}{is:List Nat}{tc:TT}{te:TE}{σ:St}{H:Hp}{Q:VK}(Pv:Nat->List V->Hp->Prop)(h0:Pv 0 [] H)(hl:∀i zs H,Pv i zs H->zs.length<=sizeLine)(hq:∀i zs H,Pv i zs H->SqT K H a xs)
  (hs:∀i x zs H (R:List V->Hp->Prop),(∀zs H,Pv (i + 1) zs H->R zs H)->xs[i]?=some x->Pv i zs H->tc (GF is σ (some x)) H fun b H2=>if b=true then te (GF is σ (some x)) H2 fun y H3=>R (zs++[y]) H3 else R zs H2)
  (hd:∀zs H,Pv xs.length zs H->∀p,H p=none->Q (.ref p) (upd H p (.lst zs))) :
  xK is tc te σ Q (Itt K a) H:=by
 refine ⟨fun i m zs H=>m=xs.length - i/\i<=xs.length/\Pv i zs H,⟨xs.length,by simp,Qbg _,h0⟩,?_⟩
 (intro i m zs H zq8;(refine Oe0a2 zq8 fun zo83 hi p=>?_;obtain rfl:=zo83;clear zq8))
 by_cases hlt:i < xs.length
 ·refine .inr ⟨⟨xs,xs[i],hq i zs H p,Qai hlt⟩,hl i zs H p,fun x H' y=>?_⟩
  obtain ⟨e,y⟩:=y
  subst e
  exact hs i x zs _ (fun zs H=>∃m',m' < xs.length - i/\m'=xs.length - (i + 1)/\i + 1<=xs.length/\Pv (i + 1) zs H) (fun zs H q=>⟨xs.length - (i + 1),by lia,rfl,hlt,q⟩) (y xs (hq i zs _ p)) p
 ·have e:i=xs.length:=by lia
  exact .inl ⟨⟨xs,hq i zs H p,by lia⟩,hl _ _ _ p,by rw [e] at p;exact hd zs H p⟩
end L2
namespace HT
open PySem PySem.Spec PyProof.Rows
section
variable {prog:Program}{w:World}{A:Around}{E:Value->Shared->Prop}{s:Shared}
theorem ve(n:Nat):Builtin.Slice.sliceAdjust none none (-1) (n:Int)=((n:Int) - 1,-1):=rfl
theorem vf(n:Nat):Builtin.Slice.slicePlaces ((n:Int) - 1) (-1) (-1)=n:=by
 unfold Builtin.Slice.slicePlaces
 have h1:¬((-1:Int) > 0):=by lia
 simp only [h1,Qc2]
 have e:(- -1:Int)=1:=by decide
 rw [e,Qbi]
 split <;> lia
theorem yl{α β:Type}{f g:α->Option β}:∀{l:List α},(∀x∈l,f x=g x)->l.filterMap f=l.filterMap g
 | [],_=>rfl
 | x::r,h=>by
  rw [Qc1,Qc1,h x Qaf,yl fun y hy=>h y (Qag _ hy)]
theorem uE(xs:Array Value):((List.range xs.size).filterMap fun (m:Nat)=>xs[((xs.size:Int) - 1 + (m:Int) * -1).toNat]?).toArray=xs.toList.reverse.toArray:=by
 congr 1
 have e:((List.range xs.size).filterMap fun (m:Nat)=>xs[((xs.size:Int) - 1 + (m:Int) * -1).toNat]?)=((List.range xs.size).map fun k=>xs.size - 1 - k).filterMap (xs[·]?):=by
  rw [List.filterMap_map]
  refine yl fun m hm=>?_
  have:=Qby.mp hm
  have e:((xs.size:Int) - 1 + (m:Int) * -1).toNat=xs.size - 1 - m:=by lia
  rw [e]
  rfl
 rw [e,PySem.W.krv_range,List.filterMap_reverse,PySem.W.krv_all]
theorem Gx{sl:Addr}{t:Tok}{n:Nat}{Q:Int × Int × Nat->Shared->Prop}(hs:s.heap.IsSliceOf sl .none .none (.int (-1) t))(h:Q ((n:Int) - 1,-1,n) s) :
  wpAny (model prog w) A (Builtin.Slice.sliceApplied (.ref sl) (pure (n:Int))) Q E s:=by
 refine Oe1a2 (id hs) fun os hos hcs hds=>?_
 unfold Builtin.Slice.sliceApplied Builtin.Slice.sliceFields
 refine wpAny_bind (wpAny_bind (wpAny_field hos hds (x:=.none) rfl (wpAny_bind (wpAny_field hos hds (x:=.none) rfl (wpAny_bind (wpAny_field hos hds (x:=.int (-1) t) rfl (wpAny_pure ?_)))))))
 refine wpAny_bind (slicePart_int ?_)
 show wpAny _ _ (if ((-1:Int) == 0)=true then _ else _) _ _ s
 rw [Qal (by decide)]
 refine wpAny_bind (slicePart_none (wpAny_bind (slicePart_none (wpAny_bind (wpAny_pure ?_)))))
 show wpAny _ _ (match Builtin.Slice.sliceAdjust none none (-1) (n:Int) with | (lo,hi)=>pure (lo,(-1:Int),Builtin.Slice.slicePlaces lo hi (-1))) _ _ s
 rw [ve n]
 show wpAny _ _ (pure ((n:Int) - 1,(-1:Int),Builtin.Slice.slicePlaces ((n:Int) - 1) (-1) (-1))) _ _ s
 rw [vf]
 exact wpAny_pure h
theorem getItem_tuple_rev{t sl:Addr}{u:Tok}{items:Array Value}{Q:Value->Shared->Prop}(ht:IsTup s.heap t items)(hs:s.heap.IsSliceOf sl .none .none (.int (-1) u))
  (h:Q (.ref s.heap.objs.size) { s with heap:=s.heap.push { cls:=.type "tuple",data:=.seq items.toList.reverse.toArray } })
  (hsz:items.size<=sizeLine):wpAny (model prog w) A (getItem (.ref t) (.ref sl)) Q E s:=by
 have htake:sizeOk (.seq items.toList.reverse.toArray):=by
  show items.toList.reverse.toArray.size<=sizeLine
  rw [Qay,Qbv,Qb9]
  exact hsz
 refine Oe1a2 (id hs) fun os hos hcs hds=>?_
 have hTs:s.TypeIs (.ref sl) "slice" := ⟨os,hos,hcs⟩
 unfold getItem
 try with_reducible refine wpAny_holding ?_
 first | refine wpAny_bind (wpAny_pure ?_) | skip
 refine wpAny_bind (wpAny_sequenceKey ht.typeIs (by decide) ?_)
 refine wpAny_bind (wpAny_callSpecial?_slot (name:=Str.ofString "__getitem__") ht.typeIs Qa7
  (wpAny_call_entry Qa7 ht.typeIs entry_tuple_getitem ?_ (args_tuple_getitem _ _)))
 show wpAny _ _ (Builtin.Tuple.tupleItemsOf (.ref t) >>= _) _ _ s
 refine wpAny_bind (tupleItemsOf_ ht ?_)
 refine wpAny_bind (wpAny_typeOf hTs ?_)
 rw [Qan (by decide)]
 refine wpAny_bind (Gx hs ?_)
 have hno:¬((((items.size:Int) - 1) == 0 && (-1:Int) == 1 && items.size == items.size)=true):=by
  intro q
  rw [Qbf,Qbf] at q
  have q1:(-1:Int)=1:=eq_of_beq q.1.2
  lia
 show wpAny _ _ (if ((((items.size:Int) - 1) == 0 && (-1:Int) == 1 && items.size == items.size))=true then _ else _) _ _ s
 rw [Qal hno,uE]
 first
  | exact wpAny_bind (m:=Builtin.Tuple.tupleExact _) (wpAny_newObj_type (wpAny_pure ⟨_,rfl,wpAny_pure h⟩) htake)
  | exact wpAny_bind (m:=Builtin.Tuple.tupleExact _) (wpAny_newObj_type (wpAny_bind (wpAny_pure (wpAny_pure ⟨_,rfl,wpAny_pure h⟩))) htake)
  | exact wpAny_bind (wpAny_bind (m:=Builtin.Tuple.tupleExact _) (wpAny_newObj_type (wpAny_pure (wpAny_pure ⟨_,rfl,wpAny_pure h⟩)) htake))
  | exact wpAny_bind (wpAny_bind (m:=Builtin.Tuple.tupleExact _) (wpAny_newObj_type (wpAny_pure ⟨_,rfl,wpAny_pure h⟩) htake))
end
end HT
namespace L2
open PySem PySem.Spec PyProof.Rows
section
variable {X:Cx}{e st:Expr}{te ts:TE}{pos p2:Pos}
noncomputable def RvR(X:Cx)(r:V->Hp->VK->Prop):Prop :=
 ∀(pins:List (Addr × Obj)) (s:Shared) (σ:St) (H:Hp) (x:V) (v:Value) (t:Tok) (sl:Addr) (Q:VK),Inv X pins σ H s->RelV x v->s.heap.IsSliceOf sl .none .none (.int (-1) t)->r x H Q ->
  ∃T id,typeLookup (.type T) "__getitem__" = pure (some (.builtin id))/\s.TypeIs v T/\wpAny (model X.prog X.w) X.A (getItem v (.ref sl)) (EP X pins σ Q) X.xe s
noncomputable def tRv(r:V->Hp->VK->Prop)(te ts:TE):TE:=fun σ H Q=>te σ H fun x H1=>ts σ H1 fun y H2=>y=.int (-1)/\r x H2 Q
theorem qe_rev{r:V->Hp->VK->Prop}(hr:RvR X r)(he:QE X e te)(hst:QE X st ts):QE X (.Subscript e (.Slice none none (some st) p2) pos) (tRv r te ts):=by
 refine ⟨fun pins s σ H Q I h=>?_⟩
 refine Subscript_ (thn (he.out pins s σ H _ I h) fun v s1 zq9=>?_);obtain ⟨x,H1,I1,r1,q1⟩:=zq9
 refine wpAny_Slice ?_
 rw [evalPart_none]
 refine wpAny_pure ?_
 refine wpAny_pure ?_
 rw [evalPart_some]
 refine thn (hst.out pins s1 σ H1 _ I1 q1) fun vs s3 zq9=>?_;obtain ⟨y,H3,I3,r3,e3,q3⟩:=zq9
 subst e3
 obtain ⟨t,rfl⟩:=r3
 have I4:Inv X pins σ H3 { s3 with heap:=s3.heap.push { cls:=.type "slice",data:=.fields #[.none,.none,.int (-1) t] } }:=I3.kept (t':=s3.toks) fun b ob q=>Heap.get?_push_of_some _ q
 refine Oe2a2 (hr pins { s3 with heap:=s3.heap.push { cls:=.type "slice",data:=.fields #[.none,.none,.int (-1) t] } } σ H3 x v t s3.heap.objs.size Q I4 r1 (Heap.IsSliceOf.new ..) q3) fun T id hT ht hg=>?_
 show wpAny (model X.prog X.w) X.A (subscriptTail e (.Slice none none (some st) p2) v (.ref s3.heap.objs.size)) (EP X pins σ Q) X.xe { s3 with heap:=s3.heap.push { cls:=.type "slice",data:=.fields #[.none,.none,.int (-1) t] } }
 exact tail_any (ops:=[v,.ref s3.heap.objs.size]) ht hT hg (by with_unfolding_all rfl)
noncomputable def rRvT(K:PySem.W.Frag):V->Hp->VK->Prop:=fun x H Q=>∃a xs,x=.ref a/\SqT K H a xs/\∀p,H p=none->Q (.ref p) (upd H p (.tup xs.reverse))
theorem rv_tup:RvR X (rRvT X.K):=by
 intro pins s σ H x v t sl Q I rx hs h
 (refine Oe2a2 h fun a xs zo84 hx q=>?_;obtain rfl:=zo84;clear h)
 cases rx
 refine Oe1a2 (I.tuple hx) fun its r ht hz=>?_
 have hlen:its.toArray.size=xs.length:=by rw [Qay];exact r.length.symm
 refine ⟨"tuple",_,Qa7.lookup,ht.typeIs,?_⟩
 refine HT.getItem_tuple_rev ht hs ?_ (by rw [hlen];exact hz)
 refine ⟨.ref s.heap.objs.size,_,I.laid (t':=s.toks) (o:=.tup xs.reverse) (fun b ob q=>Heap.get?_push_of_some _ q) (Qah _) ?_,rfl,q _ (I.hok.fresh (Qah _))⟩
 exact ⟨by rw [Qbv];exact hz,_,r.reverse,IsTup.new _ _⟩
end
end L2
namespace RvT
open PySem PySem.Spec PyProof.Rows
theorem z5:Manifest.owners.lookup (String.ofList ['d','e','s','r','e','v','e','r'].reverse)=some Manifest.sig_reversed:=by kernel_rfl
theorem slot_next:Slot "reversed" "__next__" "reversed.__next__" :=
 .of (owner := "reversed") (n := "__next__") (by rw [typeLookup_type,builtinLookup_eq_fast];kernel_rfl) (by decide +kernel) (by decide +kernel) (by decide +kernel)
  (by first | exact .inl (by decide +kernel) | exact .inr (by decide +kernel)) (by rw [isSubtype_type];kernel_rfl)
theorem entry_next:entryFor table "reversed.__next__" = some Builtin.«reversed.__next__»:=entryFor_of_tree (by kernel_rfl)
theorem args_next (a:Value):argsOk "reversed.__next__" ⟨[a],[]⟩:=by
 unfold argsOk;rw [signature?_of (id := "reversed.__next__") (n:=['_','_','t','x','e','n','_','_']) (o:=['d','e','s','r','e','v','e','r']) (by kernel_rfl) z5];kernel_rfl
theorem z6:Slot "reversed" "__iter__" "reversed.__iter__" :=
 .of (owner := "reversed") (n := "__iter__") (by rw [typeLookup_type,builtinLookup_eq_fast];kernel_rfl) (by decide +kernel) (by decide +kernel) (by decide +kernel)
  (by first | exact .inl (by decide +kernel) | exact .inr (by decide +kernel)) (by rw [isSubtype_type];kernel_rfl)
theorem wa (a:Value):argsOk "reversed.__iter__" ⟨[a],[]⟩:=by
 unfold argsOk;rw [signature?_of (id := "reversed.__iter__") (n:=['_','_','r','e','t','i','_','_']) (o:=['d','e','s','r','e','v','e','r']) (by kernel_rfl) z5];kernel_rfl
theorem vh:entryFor table "reversed.__iter__" = some Builtin.«dict_keyiterator.__iter__» :=
 entryFor_alias (id' := "dict_keyiterator.__iter__") (by kernel_rfl) (by first | rfl | decide +kernel | (unfold String.splitOn;simp +decide [String.splitOnAux])) (by decide +kernel) (by kernel_rfl)
theorem wb:Slot "reversed" "__init__" "object.__init__" :=
 .of (owner := "object") (n := "__init__") (by rw [typeLookup_type,builtinLookup_eq_fast];kernel_rfl) (by decide +kernel) (by decide +kernel) (by decide +kernel)
  (by first | exact .inl (by decide +kernel) | exact .inr (by decide +kernel)) (by rw [isSubtype_type];kernel_rfl)
theorem called:TypeCalled "reversed" "reversed.__new__" "object.__init__" :=
 ⟨by decide +kernel,F.create_reversed,⟨_,_,F.mro_reversed⟩,F.made_reversed,F.plain_reversed_new,F.sub_reversed_self,wb⟩
theorem jv:typeLookup (.type "tuple") "__reversed__" = pure none:=by rw [typeLookup_type,builtinLookup_eq_fast];kernel_rfl
theorem sub_tuple_dict:isSubtype (.type "tuple") (.type "dict")=pure false:=by rw [isSubtype_type];kernel_rfl
noncomputable def revObj (t:Addr) (i:Int):Obj:={ cls:=.type "reversed",data:=.fields #[.ref t,rawInt i] }
noncomputable def IsRev (h:Heap) (a t:Addr) (i:Int):Prop:=∃o,h.get? a=some o/\o.cls=.type "reversed" /\ o.data=.fields #[.ref t,rawInt i]
theorem IsRev.typeIs {s:Shared} {a t:Addr} {i:Int} (x:IsRev s.heap a t i):s.TypeIs (.ref a) "reversed" := let ⟨o,ho,hc,_⟩:=x;⟨o,ho,hc⟩
theorem IsRev.at{h h':Heap}{a t:Addr}{i:Int}(x:IsRev h a t i)(e:∀o,h.get? a=some o->h'.get? a=some o):IsRev h' a t i:=let ⟨o,ho,r⟩:=x;⟨o,e _ ho,r⟩
section
variable {prog:Program}{w:World}{A:Around}{E:Value->Shared->Prop}{s:Shared}
theorem X3(t:Addr)(items:Array Value)(hz:items.size < 2 ^ 63) :
  Meets (Builtin.«reversed.__new__» ⟨[.type "reversed",.ref t],[]⟩) (fun _ R s=>IsTup s.heap t items/\∀tk,R (.ok (.ret (.ref s.heap.objs.size))) { s with heap:=s.heap.push (revObj t ((items.size:Int) - 1)),toks:=tk }) :=
 .of_wp fun prog w A R s h=>by
  obtain ⟨ht,h⟩:=h
  unfold Builtin.«reversed.__new__»
  refine wpAny_bind (wpAny_of_eq (newClass_reversed _) ?_)
  try dsimp only
  refine wpAny_bind (wpAny_of_eq (a:=()) (by first | rfl | kernel_rfl) ?_)
  refine wpAny_bind (wpAny_of_eq (a:=()) (by first | rfl | kernel_rfl) ?_)
  try dsimp only
  refine wpAny_bind (wpAny_specialOf ht.typeIs jv ?_)
  try dsimp only
  refine wpAny_bind ?_
  show wpAny _ _ (isInstance (Value.ref t) (.type "dict") >>= _) _ _ _
  refine wpAny_bind (wpAny_isInstance (T := "tuple") (b:=false) ht.typeIs sub_tuple_dict ?_)
  simp only [Qb4,Qc2]
  refine wpAny_bind (wpAny_specialOf ht.typeIs Qa7.lookup ?_)
  try dsimp only
  rw [Qan (by decide +kernel)]
  refine wpAny_pure ?_
  simp only [Bool.not_true,Qb4,Qc2]
  refine wpAny_bind (len_tuple ht (by lia) ?_)
  refine wpAny_bind (wpAny_of_eq (a:=some (items.size:Int)) rfl ?_)
  try dsimp only
  refine wpAny_bind (m:=newObj (.type "reversed") (.fields #[.ref t,rawInt ((items.size:Int) - 1)])) (wpAny_newObj_type ?_)
  exact wpAny_pure ⟨_,rfl,h _⟩
theorem call_rev{t:Addr}{items:Array Value}{Q:Value->Shared->Prop}(ht:IsTup s.heap t items)(hz:items.size < 2 ^ 63)(h:∀tk,Q (.ref s.heap.objs.size) { s with heap:=s.heap.push (revObj t ((items.size:Int) - 1)),toks:=tk }) :
  wpAny (model prog w) A (call (.type "reversed") [.ref t]) Q E s :=
 callType_new called (by decide) (F.typeCall_reversed_1 _) (F.newCall_reversed_1 _) (fun obj=>F.args_object_init_2 obj _) F.entry_reversed_new (X3 t items hz)
  ⟨ht,fun tk=>⟨⟨_,Heap.get?_push_size _ rfl,rfl⟩,h tk⟩⟩
theorem next_item{it t:Addr}{i:Nat}{items:Array Value}{x:Value}{Q:Option Value->Shared->Prop}(hit:IsRev s.heap it t (i:Int))(ht:IsTup s.heap t items)(hi:(i:Int) < 2 ^ 63)(hx:items[i]?=some x)(hne:t≠it)
  (hQ:∀h' tk,IsRev h' it t ((i:Int) - 1)->Heap.SameBut it s.heap h'->Q (some x) { s with heap:=h',toks:=tk }):wpAny (model prog w) A (pyNext (.ref it)) Q E s:=by
 refine Oe1a2 (id hit) fun o ho hc hd=>?_
 unfold pyNext
 refine wpAny_bind (wpAny_attempt (wpAny_callSpecial?_slot (name:=Str.ofString "__next__") hit.typeIs slot_next
  (wpAny_call_entry slot_next hit.typeIs entry_next ?_ (args_next _))))
 unfold Builtin.«reversed.__next__»
 refine wpAny_bind (wpAny_of_eq (a:=(Value.ref it,[])) rfl ?_)
 try dsimp only
 refine wpAny_bind (wpAny_field ho hd (x:=.ref t) rfl ?_)
 refine wpAny_bind (wpAny_field ho hd (x:=rawInt (i:Int)) rfl ?_)
 show wpAny _ _ (if (i:Int) < 0 then _ else _) _ _ s
 rw [Qal (by lia)]
 refine wpAny_bind (wpAny_specialOf ht.typeIs Qa7.lookup ?_)
 simp only [Option.isNone_some,Qb4,Qc2]
 refine wpAny_bind (wpAny_mkInt ?_)
 have hsz:=(Array.getElem?_eq_some_iff.mp hx).1
 refine wpAny_bind (wpAny_attempt (getItem_tuple (s:={ s with toks:=s.toks + 1 }) (j:=i) ht (by lia) hi (by rw [seqIndex_of (by lia) (by lia),Qaz]) hx ?_))
 show wpAny _ _ (field (.ref it) 1 >>= _) _ _ _
 refine wpAny_bind (wpAny_field (s:={ s with toks:=s.toks + 1 }) ho hd (x:=rawInt (i:Int)) rfl ?_)
 show wpAny _ _ (setField (.ref it) 1 (rawInt ((i:Int) - 1)) >>= _) _ _ _
 refine wpAny_bind (wpAny_setField (s:={ s with toks:=s.toks + 1 }) ho hd (by simp) ?_)
 refine wpAny_pure ⟨x,rfl,wpAny_pure (hQ _ _ ?_ (Heap.SameBut.update ..))⟩
 exact ⟨_,Heap.get?_update_self _ ho (Obj.isFreed_of_fields (Obj.data_mapFields hd _)),(Obj.cls_mapFields ..).trans hc,by
  rw [Obj.data_mapFields hd];simp⟩
theorem next_end{it t:Addr}{Q:Option Value->Shared->Prop}(hh:A.handled=none)(hit:IsRev s.heap it t (-1))
  (hQ:∀h',(∀b o,b≠it->s.heap.get? b=some o->h'.get? b=some o)->Q none { s with heap:=h' }):wpAny (model prog w) A (pyNext (.ref it)) Q E s:=by
 refine Oe1a2 (id hit) fun o ho hc hd=>?_
 unfold pyNext
 refine wpAny_bind (wpAny_attempt (wpAny_callSpecial?_slot (name:=Str.ofString "__next__") hit.typeIs slot_next
  (wpAny_call_entry slot_next hit.typeIs entry_next ?_ (args_next _))))
 unfold Builtin.«reversed.__next__»
 refine wpAny_bind (wpAny_of_eq (a:=(Value.ref it,[])) rfl ?_)
 try dsimp only
 refine wpAny_bind (wpAny_field ho hd (x:=.ref t) rfl ?_)
 refine wpAny_bind (wpAny_field ho hd (x:=rawInt (-1)) rfl ?_)
 show wpAny _ _ (if (-1:Int) < 0 then _ else _) _ _ s
 rw [Qan (by decide)]
 refine wpAny_bind (wpAny_rule ?_)
 refine wpAny_bind ?_
 show wpAny _ _ (setField (.ref it) 1 (rawInt (-1)) >>= _) _ _ _
 refine wpAny_bind (wpAny_setField ho hd (by simp) ?_)
 have ho2:=Heap.get?_update_self (Obj.mapFields (·.setIfInBounds 1 (rawInt (-1)))) ho (Obj.isFreed_of_fields (Obj.data_mapFields hd _))
 refine wpAny_setField ho2 (Obj.data_mapFields hd _) (by simp) ?_
 first
 | show wpAny _ _ (newExc (.type "StopIteration") [] >>= _) _ _ _
 | (refine wpAny_bind ?_;show wpAny _ _ (newExc (.type "StopIteration") [] >>= _) _ _ _)
 refine wpAny_bind ?_
 simp only [newExc,newTuple]
 refine wpAny_bind (wpAny_newObj_type ?_ (by size_fits))
 refine wpAny_bind (m:=firstArgMember _ _) (wpAny_of_eq (a:=Value.none) (by first | rfl | (simp only [firstArgMember];rfl)) ?_)
 refine wpAny_newObj_type ?_ (by size_fits)
 simp only [raiseNew]
 refine wpAny_bind (wpAny_handled ?_)
 first | rw [show A.in1.handled=none from hh] | rw [hh]
 refine wpAny_bind (wpAny_pure (wpAny_throw ?_))
 refine wpAny_bind (wpAny_isInstance (T := "StopIteration") (b:=true) ⟨_,Heap.get?_push_size _ rfl,rfl⟩ isSubtype_stop ?_)
 refine wpAny_pure (hQ _ fun b ob hb e=>?_)
 exact Heap.get?_push_of_some _ (Heap.get?_push_of_some _ ((Heap.get?_update_other _ _ (Qcx hb)).trans ((Heap.get?_update_other _ _ (Qcx hb)).trans e)))
theorem iter_self{it t:Addr}{i:Int}{Q:Value->Shared->Prop}(hit:IsRev s.heap it t i)(h:Q (.ref it) s):wpAny (model prog w) A (pyIter (.ref it)) Q E s:=by
 refine wpAny_pyIter_slot hit.typeIs z6 (wpAny_call_entry z6 hit.typeIs vh ?_ (wa _))
 show wpAny _ _ (ret (.ref it)) _ _ s
 exact wpAny_pure ⟨_,rfl,"reversed",_,hit.typeIs,slot_next.lookup,h⟩
end
end RvT
namespace L2
open PySem PySem.Spec PyProof.Rows
noncomputable def Itv(K:PySem.W.Frag)(a:Addr)(n:Nat):It :=
 ⟨fun i H=>∃xs x,SqT K H a xs/\xs.length=n/\xs.reverse[i]?=some x,fun i H x H'=>H'=H/\∀xs,SqT K H a xs->xs.reverse[i]?=some x,fun i _=>i=n⟩
theorem uF{P:Program}{w:World}{K:PySem.W.Frag}{tg:Expr}(a it:Addr)(n:Nat)(hne:a≠it):Turn P w K tg (Itv K a n) [it] it (fun i h=>RvT.IsRev h it a ((n:Int) - 1 - (i:Int))) where
 mem:=by simp
 obj:=fun i h st b hb=>by
  have e:b=it:=by simpa using hb
  subst e
  (refine Oe1a2 st fun o e c d=>?_;clear st)
  exact ⟨o,e,fun v z=>by rw [d] at z;cases z⟩
 keep:=fun i h h' st k=>st.at fun o e=>k it (by simp) o e
 item:=by
  intro X hP hw hK hc i pins s σ H E I hf st hg
  subst hP hw hK
  (refine Oe2a2 hg fun xs x hq hn hx=>?_;clear hg)
  refine Oe1a2 (I.tuple hq) fun its rv p hz=>?_
  have hi:i < xs.length:=by
   have:=(Qae.mp hx).1
   rw [Qbv] at this
   exact this
  have hx':xs[xs.length - 1 - i]?=some x:=by rw [<-List.getElem?_reverse hi];exact hx
  refine Oe1a1 (rv.get hx') fun u hu ru=>?_
  refine Oe0a5 (hf it (by simp)) fun f0 f1 f2 f3 f4 f5=>?_
  have e0:(n:Int) - 1 - (i:Int)=((xs.length - 1 - i:Nat):Int):=by lia
  have hl:=GU
  rw [e0] at st
  refine RvT.next_item (items:=its.toArray) (x:=u) st p (by lia) (by simpa using hu) hne fun h' tk st' sb=>?_
  have I1:Inv X pins σ H { s with heap:=h',toks:=tk }:=I.turned (fun b o hb e=>(sb.2 b hb).trans e) f0 f1 f3 f4 f5
  have e1:((xs.length - 1 - i:Nat):Int) - 1=(n:Int) - 1 - ((i + 1:Nat):Int):=by lia
  rw [e1] at st'
  refine Oe1a2 (id st') fun o e c d=>?_
  exact ⟨u,rfl,kh (s:={ s with heap:=h',toks:=tk }) e c d (by decide) ⟨x,H,I1,ru,⟨rfl,fun ys hy=>by rw [I.tuple_inj hy hq];exact hx⟩,st',fun b hb=>(hf b hb).1⟩⟩
 done:=by
  intro X hP hw hK hc i pins s σ H E I hf st hg
  subst hP hw hK
  refine Oe0a5 (hf it (by simp)) fun f0 f1 f2 f3 f4 f5=>?_
  have hg':i=n:=hg
  have e0:(n:Int) - 1 - (i:Int)=-1:=by lia
  rw [e0] at st
  exact RvT.next_end (I.ok.hd hc) st fun h' eb=>⟨rfl,I.turned (t':=s.toks) (fun b o hb e=>eb b o hb e) f0 f1 f3 f4 f5⟩
 self:=fun _ _ _ _ _ st h=>RvT.iter_self st h
inductive Zbu(K:PySem.W.Frag)(R:It->Hp->Prop)(x:V)(H1:Hp):Prop
 | mk (a xs):(x=.ref a)->(SqT K H1 a xs)->(R (Itv K a xs.length) H1)->Zbu K R x H1
noncomputable def iRev(K:PySem.W.Frag)(te:TE):TI:=fun σ H R=>te σ H fun x H1=>Zbu K R x H1
theorem we {X:Cx} {tg e:Expr} {te:TE} {p pos:Pos} (hg:Gl X "reversed") (hm:X.mg "reversed" = none) (he:QE X e te) (hp:Ys e=true:=by rfl):QI X tg (.Call (.Name "reversed" p) [e] [] pos) (iRev X.K te):=by
 refine ⟨fun pins s σ H R I h=>?_⟩
 have hs:starEach [e] X.env=[(false,eval e X.env)]:=by rw [Zy hp];rfl
 refine Call_ (Gb I hg hm jq (Qcf ?_ hs rfl))
 rw [hs]
 show wpAny _ _ (spliced ((false,eval e X.env)::[])) _ _ s
 refine Calls.spliced_cons (thn (he.out pins s σ H _ I h) fun u s1 zq9=>?_);obtain ⟨x,H1,I1,ru,q1⟩:=zq9
 refine Calls.spliced_nil ?_
 obtain ⟨a,xs,rfl,hq,q⟩:=q1
 cases ru
 refine Oe1a2 (I1.tuple hq) fun its rv pt hz=>?_
 have hl:=GU
 have hlen:=rv.length
 refine RvT.call_rev pt (by rw [Qay];lia) fun tk=>?_
 have I2:Inv X pins σ H1 { s1 with heap:=s1.heap.push (RvT.revObj a ((its.toArray.size:Int) - 1)),toks:=tk }:=I1.kept fun b o e=>Heap.get?_push_of_some _ e
 have e0:(xs.length:Int) - 1 - ((0:Nat):Int)=(its.toArray.size:Int) - 1:=by rw [Qay,<-hlen];lia
 have st:RvT.IsRev (s1.heap.push (RvT.revObj a ((its.toArray.size:Int) - 1))) s1.heap.objs.size a ((xs.length:Int) - 1 - ((0:Nat):Int)):=by
  rw [e0]
  exact ⟨_,Heap.get?_push_size _ rfl,rfl,rfl⟩
 refine RvT.iter_self st ⟨s1.heap.objs.size,[s1.heap.objs.size],_,_,H1,rfl,I2,uF a _ xs.length (Qbm pt.lt),st,fun b hb=>?_,q⟩
 have e:b=s1.heap.objs.size:=by simpa using hb
 subst e
 exact I1.fpOk (Qah _) (I1.hok.fresh (Qah _)) |> fun f=>f
theorem wg{K:PySem.W.Frag}{a:Addr}{xs:List V}{g:TG}{tb:TS}{D:Ends}{σ:St}{H:Hp}(Pv:Nat->St->Hp->Prop)(h0:Pv 0 σ H)(hl:∀i σ H,i<=xs.length->Pv i σ H->SqT K H a xs)
  (hs:∀i x σ H,xs.reverse[i]?=some x->Pv i σ H->g x σ H fun σ2 H2=>tb { D with nx:=Pv (i + 1),ct:=Pv (i + 1),bk:=D.nx } σ2 H2) (hd:∀σ H,Pv xs.length σ H->D.nx σ H) :
  ∃W:Nat->Nat->St->Hp->Prop,(∃m,W 0 m σ H)/\∀i m σ H,W i m σ H ->
   ((Itv K a xs.length).stop i H/\D.nx σ H)\/((Itv K a xs.length).go i H/\∃N:St->Hp->Prop,(∀σ' H',N σ' H'->∃m',m' < m/\W (i + 1) m' σ' H')/\∀x H',(Itv K a xs.length).yld i H x H'->g x σ H' fun σ2 H2=>tb { D with nx:=N,ct:=N,bk:=D.nx } σ2 H2):=by
 refine ⟨fun i m σ H=>m=xs.length - i/\i<=xs.length/\Pv i σ H,⟨xs.length,by simp,Qbg _,h0⟩,?_⟩
 (intro i m σ H zq8;(refine Oe0a2 zq8 fun zo85 hi p=>?_;obtain rfl:=zo85;clear zq8))
 by_cases hlt:i < xs.length
 ·have hlt':i < xs.reverse.length:=by rw [Qbv];exact hlt
  refine .inr ⟨⟨xs,xs.reverse[i],hl i σ H hi p,rfl,Qai hlt'⟩,Pv (i + 1),fun σ' H' p'=>⟨xs.length - (i + 1),by lia,rfl,hlt,p'⟩,fun x H' y=>?_⟩
  obtain ⟨e,y⟩:=y
  subst e
  exact hs i x σ _ (y xs (hl i σ _ hi p)) p
 ·have e:i=xs.length:=by lia
  exact .inl ⟨e,by rw [e] at p;exact hd σ H p⟩
end L2
namespace HT
open PySem PySem.Spec PyProof.Rows
section
variable {prog:Program}{w:World}{A:Around}{E:Value->Shared->Prop}{s:Shared}
theorem getItem_tuple_whole{t sl:Addr}{items:Array Value}{vl vu:Value}{lo hi:Option Int}{Q:Value->Shared->Prop}(ht:IsTup s.heap t items)(hs:s.heap.IsSliceOf sl vl vu .none)(pl:IsPart vl lo)(pu:IsPart vu hi)
  (hw:sIx items.size 0 lo=0/\sIx items.size items.size hi=items.size) (h:Q (.ref t) s):wpAny (model prog w) A (getItem (.ref t) (.ref sl)) Q E s:=by
 refine Oe1a2 (id hs) fun os hos hcs hds=>?_
 have hTs:s.TypeIs (.ref sl) "slice" := ⟨os,hos,hcs⟩
 unfold getItem
 try with_reducible refine wpAny_holding ?_
 first | refine wpAny_bind (wpAny_pure ?_) | skip
 refine wpAny_bind (wpAny_sequenceKey ht.typeIs (by decide) ?_)
 refine wpAny_bind (wpAny_callSpecial?_slot (name:=Str.ofString "__getitem__") ht.typeIs Qa7
  (wpAny_call_entry Qa7 ht.typeIs entry_tuple_getitem ?_ (args_tuple_getitem _ _)))
 show wpAny _ _ (Builtin.Tuple.tupleItemsOf (.ref t) >>= _) _ _ s
 refine wpAny_bind (tupleItemsOf_ ht ?_)
 refine wpAny_bind (wpAny_typeOf hTs ?_)
 rw [Qan (by decide)]
 refine wpAny_bind (Wt hs pl pu ?_)
 have hyes:(((sIx items.size 0 lo:Nat):Int) == 0 && (1:Int) == 1 && (sIx items.size items.size hi - sIx items.size 0 lo) == items.size)=true:=by
  rw [hw.1,hw.2]
  simp
 show wpAny _ _ (if (((sIx items.size 0 lo:Nat):Int) == 0 && (1:Int) == 1 && (sIx items.size items.size hi - sIx items.size 0 lo) == items.size)=true then _ else _) _ _ s
 rw [Qan hyes]
 refine wpAny_bind (m:=Builtin.Tuple.tupleIsExact (.ref t)) (wpAny_bind (wpAny_typeOf ht.typeIs (wpAny_pure ?_)))
 rw [Qan (by decide)]
 first
  | exact wpAny_bind (wpAny_rule (wpAny_bind (wpAny_pure (wpAny_pure ⟨_,rfl,wpAny_pure h⟩))))
  | exact wpAny_bind (wpAny_rule (wpAny_pure ⟨_,rfl,wpAny_pure h⟩))
  | exact wpAny_bind (wpAny_rule (wpAny_bind (wpAny_pure ⟨_,rfl,wpAny_pure h⟩)))
end
end HT
namespace L2
open PySem PySem.Spec PyProof.Rows
section
variable {X:Cx}
inductive Zbv(K:PySem.W.Frag)(x:V)(lo:Option Int)(hi:Option Int)(H:Hp)(Q:VK):Prop
 | mk (a xs):(x=.ref a)->(SqT K H a xs)->((HT.sIx xs.length 0 lo=0/\HT.sIx xs.length xs.length hi=xs.length))->(Q (.ref a) H)->Zbv K x lo hi H Q
noncomputable def rSlW(K:PySem.W.Frag):V->Option Int->Option Int->Hp->VK->Prop:=fun x lo hi H Q=>Zbv K x lo hi H Q
theorem wj:SlR X (rSlW X.K):=by
 intro pins s σ H x v vl vu lo hi sl Q I rx hs pl pu h
 obtain ⟨a,xs,rfl,hx,hw,q⟩:=h
 cases rx
 refine Oe1a2 (I.tuple hx) fun its r ht hz=>?_
 have hlen:its.toArray.size=xs.length:=by rw [Qay];exact r.length.symm
 refine ⟨"tuple",_,Qa7.lookup,ht.typeIs,?_⟩
 exact HT.getItem_tuple_whole ht hs pl pu (by rw [hlen];exact hw) ⟨.ref a,H,I,rfl,q⟩
end
section
variable {X:Cx}
theorem Zbw:SlR X (fun x lo hi H Q=>∃z,x=.str z/\z.length<=sizeLine/\Q (.str (Txt.slice z lo hi)) H):=by
 intro pins s σ H x v vl vu lo hi sl Q I rx hs pl pu h
 (refine Oe1a2 h fun z zo86 hz q=>?_;obtain rfl:=zo86;clear h)
 obtain ⟨t,rfl⟩:=rx
 refine ⟨"str",_,F.slot_str_getitem.lookup,typeIs_str _ _ _,?_⟩
 have fin:∀t' k,EP X pins σ Q (.str (Txt.slice z lo hi) t') { s with toks:=k }:=fun t' k=>⟨.str _,H,I.tok _,⟨_,rfl⟩,q⟩
 cases pl with
 | none =>
  cases pu with
  | none=>exact wpAny_getItem_str_slice (l:=none) (u:=none) (st:=none) hs rfl (post_val_or_str ⟨Qbe (Txt.slice_le z _ _) hz,fin⟩)
  | int j uj=>exact wpAny_getItem_str_slice (l:=none) (u:=some (j,uj)) (st:=none) hs rfl (post_val_or_str ⟨Qbe (Txt.slice_le z _ _) hz,fin⟩)
 | int i ui =>
  cases pu with
  | none=>exact wpAny_getItem_str_slice (l:=some (i,ui)) (u:=none) (st:=none) hs rfl (post_val_or_str ⟨Qbe (Txt.slice_le z _ _) hz,fin⟩)
  | int j uj=>exact wpAny_getItem_str_slice (l:=some (i,ui)) (u:=some (j,uj)) (st:=none) hs rfl (post_val_or_str ⟨Qbe (Txt.slice_le z _ _) hz,fin⟩)
theorem xj{ys:List Str}:∀{us:List Value},Vals (ys.map V.str) us->StrsAre us ys:=by
 induction ys with
 | nil=>intro us r;rw [Qdu] at r;cases r;exact .nil
 | cons n ns ih =>
  intro us r
  rw [Qa4] at r
  cases r with
  | cons r1 r2 =>
   obtain ⟨t,e⟩:=r1
   subst e
   exact .cons n t (ih r2)
theorem Zdf:MtR X "str.join" (fun x vs H Q=>∃(z:Str) (p:Addr) (ys:List Str),x=.str z/\vs=[.ref p]/\SqL X.K H p (ys.map V.str)/\(ys.map (·.length)).sum + ys.length * z.length<=16777216/\Q (.str (Txt.join z ys)) H):=by
 intro pins s σ H x vs v us Q I rx rv h
 (refine Oe3a4 h fun z p ys zo87 zo88 hq hok q=>?_;obtain rfl:=zo87;obtain rfl:=zo88;clear h)
 obtain ⟨t,rfl⟩:=rx
 (refine Oe1a1 (vals1 rv) fun u zo89 ru=>?_;obtain rfl:=zo89)
 cases ru
 refine Oe1a2 (I.list hq) fun its r' pl hz=>?_
 exact join_list pl.isList (xj r') hok fun t' k=>⟨.str _,H,I.tok _,⟨_,rfl⟩,q⟩
end
theorem Jt{K:PySem.W.Frag}{a:Addr}{xs:List V}{is:List Nat}{tc:TT}{te:TE}{σ:St}{H:Hp}{Q:VK}(Pv:Nat->List V->Hp->Prop)(h0:Pv 0 [] H)(hl:∀i zs H,Pv i zs H->zs.length<=sizeLine)(hq:∀i zs H,Pv i zs H->SqL K H a xs)
  (hs:∀i x zs H (R:List V->Hp->Prop),(∀zs H,Pv (i + 1) zs H->R zs H)->xs[i]?=some x->Pv i zs H->tc (GF is σ (some x)) H fun b H2=>if b=true then te (GF is σ (some x)) H2 fun y H3=>R (zs++[y]) H3 else R zs H2)
  (hd:∀zs H,Pv xs.length zs H->∀p,H p=none->Q (.ref p) (upd H p (.lst zs))) :
  xK is tc te σ Q (Itl K a) H:=by
 refine ⟨fun i m zs H=>m=xs.length - i/\i<=xs.length/\Pv i zs H,⟨xs.length,by simp,Qbg _,h0⟩,?_⟩
 (intro i m zs H zq8;(refine Oe0a2 zq8 fun zo0 hi p=>?_;obtain rfl:=zo0;clear zq8))
 by_cases hlt:i < xs.length
 ·refine .inr ⟨⟨xs,xs[i],hq i zs H p,Qai hlt⟩,hl i zs H p,fun x H' y=>?_⟩
  obtain ⟨e,y⟩:=y
  subst e
  exact hs i x zs _ (fun zs H=>∃m',m' < xs.length - i/\m'=xs.length - (i + 1)/\i + 1<=xs.length/\Pv (i + 1) zs H) (fun zs H q=>⟨xs.length - (i + 1),by lia,rfl,hlt,q⟩) (y xs (hq i zs _ p)) p
 ·have e:i=xs.length:=by lia
  exact .inl ⟨⟨xs,hq i zs H p,by lia⟩,hl _ _ _ p,by rw [e] at p;exact hd zs H p⟩
section
variable {X:Cx}
end
section
variable {X:Cx}
theorem Gg:∀{us:List Value} {ys:List Str},StrsAre us ys->Vals (ys.map V.str) us
 | _,_,.nil=>.nil
 | _,_,.cons y t h=>.cons ⟨t,rfl⟩ (Gg h)
theorem z7:XM X (.builtin "sorted") (fun xs H Q=>∃(p:Addr) (ss:List Str),xs=[.ref p]/\SqL X.K H p (ss.map V.str)/\ss.length < 64 /\
  ∀(l:Addr) (ms:List Str),H l=none->ms.Perm ss->sortedS ms=true->Q (.ref l) (upd H l (.lst (ms.map V.str)))):=by
 intro pins s σ H xs us Q I r h
 (refine Oe2a3 h fun p ss zo1 hq hn q=>?_;obtain rfl:=zo1;clear h)
 (refine Oe1a1 (vals1 r) fun u zo2 rx=>?_;obtain rfl:=zo2)
 cases rx
 refine Oe1a2 (I.list hq) fun its r' pl hz=>?_
 have hlen:=r'.length
 rw [Qaa] at hlen
 refine sorted_strs pl.isList (xj r') (by lia) fun out ms hi hp hs=>?_
 obtain ⟨e,he⟩:=sortedAll_at s.heap its out
 refine ⟨.ref (s.heap.objs.size + 1),_,I.laid (t':=s.toks) (o:=.lst (ms.map V.str)) (fun b o e=>sortedAll_old e) (Qeg _) ?_,rfl,q _ ms (I.hok.fresh (Qeg _)) hp hs⟩
 have hm:ms.length=ss.length:=hp.length_eq
 exact ⟨by rw [Qaa];exact Qau (Zm (by lia)),out.toList,e,Gg hi,by simpa using he⟩
end
theorem bt_abs:bootBuiltins "abs" = some (.builtin "abs"):=by decide +kernel
theorem Zbx:bootBuiltins "max" = some (.builtin "max"):=by decide +kernel
theorem bt_min:bootBuiltins "min" = some (.builtin "min"):=by decide +kernel
noncomputable def Zfg(K:PySem.W.Frag):List V->Hp->VK->Prop:=fun xs H Q=>∃p ys,xs=[.ref p]/\(SqL K H p ys\/SqT K H p ys)/\Q (.int ys.length) H
theorem wk {X:Cx}:XM X (.builtin "len") (Zfg X.K):=Zv
theorem Ju{t u:TS}{D:Ends}{σ:St}{H:Hp}(J:St->Hp->Prop)(h1:∀N:St->Hp->Prop,(∀σ H,J σ H->N σ H)->t { D with nx:=N } σ H)(h2:∀σ H,J σ H->u D σ H):Yi t u D σ H:=h1 _ h2
theorem take_snoc{α:Type}{xs:List α}{i:Nat}{x:α}(h:xs[i]?=some x):xs.take (i + 1)=xs.take i++[x]:=by
 rw [List.take_succ,h]
 rfl
theorem jw{K:PySem.W.Frag}{a:Addr}{xs:List V}{is:List Nat}{tc:TT}{te:TE}{σ:St}{H:Hp}{Q:VK}(p:V->Bool)(f:V->V)(hx:SqL K H a xs)(hz:xs.length<=sizeLine)
  (hc:∀x∈xs,∀R:Bool->Hp->Prop,R (p x) H->tc (GF is σ (some x)) H R)
  (he:∀x∈xs,p x=true->∀R:VK,R (f x) H->te (GF is σ (some x)) H R)
  (hd:∀l,H l=none->Q (.ref l) (upd H l (.lst ((xs.filter p).map f)))):xK is tc te σ Q (Itl K a) H:=by
 refine Jt (xs:=xs) (fun i zs H'=>zs=((xs.take i).filter p).map f/\H'=H) ⟨rfl,rfl⟩ ?_ ?_ ?_ ?_
 ·rintro i zs H' ⟨rfl,rfl⟩
  rw [Qaa]
  exact Qbe (Qc9 _ _) (by rw [Qav];lia)
 ·rintro i zs H' ⟨rfl,rfl⟩
  exact hx
 ·rintro i x zs H' R hR hxi ⟨rfl,rfl⟩
  have hm:=Qax hxi
  have e:=take_snoc hxi
  refine hc x hm _ ?_
  cases hp:p x with
  | true =>
   refine (Qan rfl:(if true=true then _ else _)=_) ▸ he x hm hp _ (hR _ _ ⟨?_,rfl⟩)
   rw [e,Qc7,Qbj,Qcm,Qan hp]
   rfl
  | false =>
   refine (Qal Qam:(if false=true then _ else _)=_) ▸ hR _ _ ⟨?_,rfl⟩
   rw [e,Qc7,Qbj,Qcm,Qal (by rw [hp];exact Qam)]
   simp
 ·rintro zs H' ⟨rfl,rfl⟩ l hl
  rw [Qbz]
  exact hd l hl
theorem comp_map{K:PySem.W.Frag}{a:Addr}{xs:List V}{is:List Nat}{te:TE}{σ:St}{H:Hp}{Q:VK}(f:V->V)(hx:SqL K H a xs)(hz:xs.length<=sizeLine)
  (he:∀x∈xs,∀R:VK,R (f x) H->te (GF is σ (some x)) H R)
  (hd:∀l,H l=none->Q (.ref l) (upd H l (.lst (xs.map f)))):xK is Zew te σ Q (Itl K a) H:=by
 refine jw (fun _=>true) f hx hz (fun x _ R h=>h) (fun x hm _=>he x hm) fun l hl=>?_
 rw [List.filter_eq_self.mpr fun _ _=>rfl]
 exact hd l hl
section
variable {κ:Type}[DecidableEq κ]
noncomputable def YH(kvs:List (κ × V))(k:κ):Option V:=(kvs.find? fun kv=>decide (kv.1=k)).map (·.2)
noncomputable def putK(kvs:List (κ × V))(k:κ)(v:V):List (κ × V) :=
 if (kvs.any fun kv=>decide (kv.1=k))=true then kvs.map (fun kv=>if kv.1=k then (kv.1,v) else kv) else kvs++[(k,v)]
theorem Yw{p:κ × V}{r:List (κ × V)}{k:κ}(e:p.1=k):YH (p::r) k=some p.2:=by simp [YH,Qcs,e]
theorem Yx{p:κ × V}{r:List (κ × V)}{k:κ}(e:¬p.1=k):YH (p::r) k=YH r k:=by simp [YH,Qcs,e]
theorem GH(k:κ):∀kvs:List (κ × V),(kvs.any fun kv=>decide (kv.1=k))=(YH kvs k).isSome
 | []=>rfl
 | p::r=>by
  rw [Qd3]
  by_cases e:p.1=k
  ·simp only [Yw e,Qad e,Bool.true_or,Option.isSome_some]
  ·rw [Yx e,Qab e,Bool.false_or];exact GH k r
theorem ym(k j:κ)(y:V):∀kvs:List (κ × V),YH (kvs.map fun kv=>if kv.1=k then (kv.1,y) else kv) j=(YH kvs j).map fun x=>if j=k then y else x
 | []=>rfl
 | p::r=>by
  have ih:=ym k j y r
  rw [Qa4]
  by_cases h:p.1=k
  ·rw [Qan h]
   by_cases e:p.1=j
   ·rw [Yw (p:=(p.1,y)) e,Yw e,Qd6,Qan (e.symm.trans h)]
   ·rw [Yx (p:=(p.1,y)) e,Yx e,ih]
  ·rw [Qal h]
   by_cases e:p.1=j
   ·rw [Yw (p:=p) e,Yw e,Qd6,Qal (fun z=>h (e.trans z))]
   ·rw [Yx (p:=p) e,Yx e,ih]
theorem z8(k j:κ)(y:V):∀kvs:List (κ × V),YH kvs k=none->YH (kvs++[(k,y)]) j=if j=k then some y else YH kvs j
 | [],_=>by
  by_cases e:k=j
  ·rw [Qan e.symm];exact Yw (p:=(k,y)) e
  ·rw [Qal (fun z=>e z.symm)];exact Yx (p:=(k,y)) e
 | p::r,hn=>by
  rw [Qdh]
  have hk:¬p.1=k:=fun z=>by rw [Yw z] at hn;cases hn
  rw [Yx hk] at hn
  have ih:=z8 k j y r hn
  by_cases e:p.1=j
  ·rw [Yw e,Yw e,Qal (fun z=>hk (e.trans z))]
  ·rw [Yx e,Yx e,ih]
theorem GI(kvs:List (κ × V))(k j:κ)(y:V):YH (putK kvs k y) j=if j=k then some y else YH kvs j:=by
 unfold putK
 by_cases a:(kvs.any fun kv=>decide (kv.1=k))=true
 ·rw [Qan a,ym]
  rw [GH] at a
  by_cases e:j=k
  ·obtain ⟨x,hx⟩:=Option.isSome_iff_exists.mp a
   rw [Qan e,e,hx,Qd6,Qan rfl]
  ·rw [Qal e]
   cases YH kvs j with
   | none=>rfl
   | some x=>rw [Qd6,Qal e]
 ·rw [Qal a]
  refine z8 k j y kvs ?_
  rw [GH] at a
  cases q:YH kvs k with
  | none=>rfl
  | some x=>rw [q] at a;exact (a rfl).elim
theorem Xa(kvs:List (κ × V))(k:κ)(v:V):(putK kvs k v).length<=kvs.length + 1:=by
 unfold putK
 split
 ·rw [Qaa];lia
 ·rw [Qac,Qa2,Qc0];lia
theorem yS.isSome_eq{o:Option V}{u:Option Value}(r:yS o u):o.isSome=u.isSome:=by
 cases o with
 | none=>cases u with
  | none=>rfl
  | some _=>exact (show False from r).elim
 | some _=>cases u with
  | none=>exact (show False from r).elim
  | some _=>rfl
theorem yS.getD{o:Option V}{u:Option Value}{d:V}{d':Value}(r:yS o u)(rd:RelV d d'):RelV (o.getD d) (u.getD d'):=by
 cases o with
 | none=>cases u with
  | none=>exact rd
  | some _=>exact (show False from r).elim
 | some _=>cases u with
  | none=>exact (show False from r).elim
  | some _=>exact r
theorem KV.val{kvs:List (κ × V)}{vs:List (κ × Value)}(r:KV kvs vs)(k:κ):yS (YH kvs k) (valueAt vs k):=by
 unfold KV at r
 induction r with
 | nil=>exact True.intro
 | @cons p q ps qs h t ih =>
  obtain ⟨h1,h2⟩:=h
  by_cases e:p.1=k
  ·have e':q.1=k:=h1.symm.trans e
   have b:valueAt (q::qs) k=some q.2:=by simp [valueAt,Qcs,e']
   rw [Yw e,b];exact h2
  ·have e':¬q.1=k:=fun z=>e (h1.trans z)
   have b:valueAt (q::qs) k=valueAt qs k:=by simp [valueAt,Qcs,e']
   rw [Yx e,b];exact ih
theorem KV.any{kvs:List (κ × V)}{vs:List (κ × Value)}(r:KV kvs vs)(k:κ):(kvs.any fun kv=>decide (kv.1=k))=vs.any fun kv=>decide (kv.1=k):=by
 unfold KV at r
 induction r with
 | nil=>rfl
 | cons h t ih=>rw [Qd3,Qd3,ih,h.1]
theorem KV.repl{kvs:List (κ × V)}{vs:List (κ × Value)}(r:KV kvs vs)(k:κ){y:V}{u:Value}(ry:RelV y u) :
  KV (kvs.map fun kv=>if kv.1=k then (kv.1,y) else kv) (vs.map fun kv=>if kv.1=k then (kv.1,u) else kv):=by
 unfold KV at r ⊢
 induction r with
 | nil=>exact .nil
 | @cons p q ps qs h t ih =>
  rw [Qa4,Qa4]
  refine .cons ?_ ih
  obtain ⟨h1,h2⟩:=h
  by_cases e:p.1=k
  ·rw [Qan e,Qan (h1.symm.trans e)];exact ⟨h1,ry⟩
  ·rw [Qal e,Qal (fun z=>e (h1.trans z))];exact ⟨h1,h2⟩
theorem KV.put{kvs:List (κ × V)}{vs:List (κ × Value)}(r:KV kvs vs)(k:κ){y:V}{u:Value}(ry:RelV y u):KV (putK kvs k y) (stored vs k u):=by
 unfold putK stored
 rw [r.any k]
 by_cases e:(vs.any fun kv=>decide (kv.1=k))=true
 ·rw [Qan e,Qan e];exact r.repl k ry
 ·rw [Qal e,Qal e];exact Paired.snoc r ⟨rfl,ry⟩
theorem KV.keys{kvs:List (κ × V)}{vs:List (κ × Value)}(r:KV kvs vs):kvs.map (·.1)=vs.map (·.1):=by
 unfold KV at r
 induction r with
 | nil=>rfl
 | cons h t ih=>rw [Qa4,Qa4,ih,h.1]
theorem KV.length{kvs:List (κ × V)}{vs:List (κ × Value)}(r:KV kvs vs):kvs.length=vs.length:=Paired.length r
end
theorem jx{P:Program}{w:World}{k:Key}{u:Value}(r:RelV (kV k) u):(ZK P w).is k u=true:=by
 cases k with
 | inl i=>obtain ⟨t,e⟩:=(show ∃t,u=Value.int i t from r);subst e;exact jj P w i t
 | inr x=>obtain ⟨t,e⟩:=(show ∃t,u=Value.str x t from r);subst e;exact Je P w x t
theorem z9{P:Program}{w:World}:∀{ks:List Key} {us:List Value},Vals (ks.map kV) us->ItemsAre (ZK P w) ks us
 | [],_,r=>by rw [Qdu] at r;cases r;exact .nil
 | k::ks,_,r=>by
  rw [Qa4] at r
  cases r with
  | cons h t=>exact .cons (jx h) (z9 t)
noncomputable abbrev KT(H:Hp):List (List Key × V)->List (List Key × Addr × Value)->Prop:=Paired fun p q=>p.1=q.1/\H q.2.1=some (.tup (p.1.map kV))/\RelV p.2 q.2.2
theorem KT.val{H:Hp}{kvs:List (List Key × V)}{xs:List (List Key × Addr × Value)}(r:KT H kvs xs)(k:List Key):yS (YH kvs k) ((atKey xs k).map (·.2)):=by
 induction r with
 | nil=>exact True.intro
 | @cons p q ps qs h t ih =>
  (refine Oe0a2 h fun h1 _ h2=>?_;clear h)
  by_cases e:p.1=k
  ·have e':q.1=k:=h1.symm.trans e
   have b:atKey (q::qs) k=some q.2:=by simp [atKey,Qcs,e']
   rw [Yw e,b];exact h2
  ·have e':¬q.1=k:=fun z=>e (h1.trans z)
   have b:atKey (q::qs) k=atKey qs k:=by simp [atKey,Qcs,e']
   rw [Yx e,b];exact ih
theorem KT.repl{H:Hp}{kvs:List (List Key × V)}{xs:List (List Key × Addr × Value)}(r:KT H kvs xs)(k:List Key){y:V}{u:Value}(ry:RelV y u) :
  KT H (kvs.map fun kv=>if kv.1=k then (kv.1,y) else kv) (xs.map (putAt k u)):=by
 induction r with
 | nil=>exact .nil
 | @cons p q ps qs h t ih =>
  rw [Qa4,Qa4]
  refine .cons ?_ ih
  (refine Oe0a2 h fun h1 h2 h3=>?_;clear h)
  unfold putAt
  by_cases e:p.1=k
  ·rw [Qan e,Qan (h1.symm.trans e)];exact ⟨h1,h2,ry⟩
  ·rw [Qal e,Qal (fun z=>e (h1.trans z))];exact ⟨h1,h2,h3⟩
theorem KT.put{H:Hp}{kvs:List (List Key × V)}{xs:List (List Key × Addr × Value)}(r:KT H kvs xs)(k:List Key){b:Addr}{y:V}{u:Value}(hb:H b=some (.tup (k.map kV)))(ry:RelV y u) :
  KT H (putK kvs k y) (storedH xs k b u):=by
 have e:(kvs.any fun kv=>decide (kv.1=k))=(atKey xs k).isSome:=by
  rw [GH,(r.val k).isSome_eq,Qec]
 unfold putK storedH
 rw [e]
 by_cases q:(atKey xs k).isSome=true
 ·rw [Qan q,Qan q];exact r.repl k ry
 ·rw [Qal q,Qal q];exact Paired.snoc r ⟨rfl,hb,ry⟩
theorem KT.keeps{H H':Hp}{kvs:List (List Key × V)}{xs:List (List Key × Addr × Value)}(r:KT H kvs xs)(ht:∀b ys,H b=some (.tup ys)->H' b=some (.tup ys)):KT H' kvs xs :=
 Paired.mapP r fun _ _ z=>⟨z.1,ht _ _ z.2.1,z.2.2⟩
section
variable {P:Program}{w:World}{H:Hp}{h:Heap}{a:Addr}
theorem Zfh{u:HO}(ok:HOk P w H h)(e:Rd H a u):Yq P w H h a u:=e.ok ok
theorem jy{kvs:List (Key × V)}(ok:HOk P w H h)(e:Rd H a (.dK kvs)):kvs.length<=sizeLine/\(a == sysModules)=false/\∃vs,KV kvs vs/\h.DictOf (ZK P w) a vs :=
 show Yq P w H h a (.dK kvs) from Zfh ok e
theorem Zdg{kvs:List (Key × V)}(ok:HOk P w H h)(e:H a=some (.dK kvs)):kvs.length<=sizeLine/\(a == sysModules)=false/\∃vs,KV kvs vs/\h.DictOf (ZK P w) a vs:=jy ok (.inl e)
theorem zA{ks:List Key}(ok:HOk P w H h)(e:H a=some (.tup (ks.map kV))):(tupleKind (ZK P w)).is h ks a:=by
 obtain ⟨_,its,r,o,h1,h2,n,h3⟩:=(show Yq P w H h a (.tup (ks.map kV)) from ok a _ e)
 exact ⟨o,its.toArray,n,h1,h2,h3,by simpa using z9 r⟩
theorem wm{kvs:List (List Key × V)}(ok:HOk P w H h)(e:Rd H a (.dT kvs)):kvs.length<=sizeLine/\(a == sysModules)=false /\
  ∃xs,KT H kvs xs/\h.DictOfH (tupleKind (ZK P w)) a xs:=by
 (refine Oe0a2 ((show Yq P w H h a (.dT kvs) from Zfh ok e)) fun z y zo3=>?_;refine Oe1a1 zo3 fun xs r zo4=>?_;refine Oe3a4 zo4 fun o es ep h1 h2 h3 h4 h5=>?_;clear zo4;clear zo3)
 refine ⟨z,y,xs,r,o,es,ep,h1,h2,h3,h4,fun x hx=>?_,h5⟩
 have all:∀{l:List (List Key × V)} {m:List (List Key × Addr × Value)},KT H l m->∀x∈m,(tupleKind (ZK P w)).is h x.1 x.2.1:=by
  intro l m q
  induction q with
  | nil=>intro x hx;exact nomatch hx
  | @cons p q ps qs hq t ih =>
   intro x hx
   rcases Qaj.mp hx with e | hx
   ·subst e
    exact zA ok (by rw [<-hq.1];exact hq.2.1)
   ·exact ih x hx
 exact all r x hx
theorem dt_of{kvs:List (List Key × V)}(ok:HOk P w H h)(e:H a=some (.dT kvs)):kvs.length<=sizeLine/\(a == sysModules)=false /\
  ∃xs,KT H kvs xs/\h.DictOfH (tupleKind (ZK P w)) a xs:=wm ok (.inl e)
end
noncomputable def Zdh(H:Hp)(a:Addr)(y:V)(r:Option V):Prop :=
 (∃kvs k,Rd H a (.dK kvs)/\y=kV k/\r=YH kvs k)\/∃kvs k b,Rd H a (.dT kvs)/\y=.ref b/\H b=some (.tup (k.map kV))/\r=YH kvs k
noncomputable def wo(H:Hp)(a:Addr)(y v:V)(H':Hp):Prop :=
 (∃kvs k,H a=some (.dK kvs)/\y=kV k/\kvs.length < sizeLine/\H'=upd H a (.dK (putK kvs k v))) \/
 ∃kvs k b,H a=some (.dT kvs)/\y=.ref b/\H b=some (.tup (k.map kV))/\kvs.length < sizeLine/\H'=upd H a (.dT (putK kvs k v))
theorem wo.k{H:Hp}{a:Addr}{kvs:List (Key × V)}{k:Key}{v:V}(e:H a=some (.dK kvs))(hl:kvs.length < sizeLine):wo H a (kV k) v (upd H a (.dK (putK kvs k v))):=.inl ⟨kvs,k,e,rfl,hl,rfl⟩
section
variable {X:Cx}{pins:List (Addr × Obj)}{σ:St}{H:Hp}{s:Shared}{a:Addr}{y v:V}{u r:Value}{o:Option V}{A:Around}{E:Value->Shared->Prop}
theorem Inv.big(I:Inv X pins σ H s):sysModules < s.heap.objs.size:=by
 have h:mainGlobals < s.heap.objs.size:=(I.mod.glob.keeps I.bk).lt
 exact Nat.lt_trans (by decide) h
theorem wq{Q:Value->Shared->Prop}(hu:A.units + 1 < cLine)(I:Inv X pins σ H s)(g:Zdh H a y (some v))(ry:RelV y u)(h:∀w' s',Inv X pins σ H s'->RelV v w'->Q w' s') :
  wpAny (model X.prog X.w) A (getItem (.ref a) u) Q E s:=by
 rcases g with ⟨kvs,k,e,ey,l⟩ | ⟨kvs,k,b,e,ey,eb,l⟩
 ·subst ey
  (refine Oe0a2 (jy I.hok e) fun z hd zo5=>?_;refine Oe1a1 zo5 fun vs rel dd=>?_;clear zo5)
  (refine Oe1a1 (yS.some_of (v:=v) (o:=valueAt vs k) (by rw [l];exact rel.val k)) fun w' hw rw'=>?_)
  exact wpAny_getItem_of (jx ry) dd.mapOf hw (h w' _ (I.tok _) rw')
 ·subst ey
  cases (show u=Value.ref b from ry)
  (refine Oe0a2 (wm I.hok e) fun z hd zo6=>?_;refine Oe1a1 zo6 fun xs rel dd=>?_;clear zo6)
  (refine Oe1a1 (yS.some_of (v:=v) (o:=(atKey xs k).map (·.2)) (by rw [l];exact rel.val k)) fun w' hw rw'=>?_)
  refine Oe1a1 (Qc6.mp hw) fun p hp hp2=>?_
  refine wpAny_getItem_heap (tupleKind_room_in1 hu) (zA I.hok eb) dd hp ?_
  rw [hp2]
  exact h w' _ (I.tok _) rw'
theorem d_in{Q:Value->Shared->Prop}(hu:A.units + 1 < cLine)(I:Inv X pins σ H s)(g:Zdh H a y o)(ry:RelV y u)(h:∀s',Inv X pins σ H s'->Q (.bool o.isSome) s') :
  wpAny (model X.prog X.w) A (compareOp .In u (.ref a)) Q E s:=by
 rcases g with ⟨kvs,k,e,ey,l⟩ | ⟨kvs,k,b,e,ey,eb,l⟩
 ·subst ey
  (refine Oe0a2 (jy I.hok e) fun z hd zo7=>?_;refine Oe1a1 zo7 fun vs rel dd=>?_;clear zo7)
  refine wpAny_in_of (jx ry) hd dd.mapOf ?_
  rw [<-(rel.val k).isSome_eq,<-l]
  exact h _ (I.tok _)
 ·subst ey
  cases (show u=Value.ref b from ry)
  (refine Oe0a2 (wm I.hok e) fun z hd zo8=>?_;refine Oe1a1 zo8 fun xs rel dd=>?_;clear zo8)
  refine wpAny_in_heap (tupleKind_room_in1 hu) (zA I.hok eb) hd dd ?_
  have q:=(rel.val k).isSome_eq
  rw [Qec] at q
  rw [<-q,<-l]
  exact h _ (I.tok _)
theorem Zdi{Q:Value->Shared->Prop}(hu:A.units + 1 < cLine)(I:Inv X pins σ H s)(g:Zdh H a y o)(ry:RelV y u)(h:∀s',Inv X pins σ H s'->Q (.bool (!o.isSome)) s') :
  wpAny (model X.prog X.w) A (compareOp .NotIn u (.ref a)) Q E s:=by
 rcases g with ⟨kvs,k,e,ey,l⟩ | ⟨kvs,k,b,e,ey,eb,l⟩
 ·subst ey
  (refine Oe0a2 (jy I.hok e) fun z hd zo9=>?_;refine Oe1a1 zo9 fun vs rel dd=>?_;clear zo9)
  refine wpAny_notIn_of (jx ry) hd dd.mapOf ?_
  rw [<-(rel.val k).isSome_eq,<-l]
  exact h _ (I.tok _)
 ·subst ey
  cases (show u=Value.ref b from ry)
  (refine Oe0a2 (wm I.hok e) fun z hd zo10=>?_;refine Oe1a1 zo10 fun xs rel dd=>?_;clear zo10)
  refine wpAny_notIn_heap (tupleKind_room_in1 hu) (zA I.hok eb) hd dd ?_
  have q:=(rel.val k).isSome_eq
  rw [Qec] at q
  rw [<-q,<-l]
  exact h _ (I.tok _)
theorem xM{h':Heap}{t':Nat}{ob:HO}(I:Inv X pins σ H s)(mu:Mut (H a))(hs:Heap.SameBut a s.heap h')(he:∃q,h'.get? a=some q)(new:Yq X.prog X.w (upd H a ob) h' a ob) :
  Inv X pins σ (upd H a ob) { s with heap:=h',toks:=t' } :=
 I.write (x:=a) (e:=a) mu (.inl rfl) (fun b q hb z=>(hs.2 b hb).trans z) he new
theorem Zby{P:Program}{w:World}{H':Hp}{h':Heap}{kvs:List (Key × V)}{vs:List (Key × Value)}(z:kvs.length<=sizeLine)(hd:(a == sysModules)=false)(rel:KV kvs vs)(dd:h'.DictOf (ZK P w) a vs) :
  Yq P w H' h' a (.dK kvs):=⟨z,hd,vs,rel,dd⟩
theorem wt{H':Hp}{Q:Unit->Shared->Prop}(hu:A.units + 1 < cLine)(I:Inv X pins σ H s)(g:wo H a y v H')(ry:RelV y u)(rv:RelV v r)(h:∀s',Inv X pins σ H' s'->Q () s') :
  wpAny (model X.prog X.w) A (setItem (.ref a) u r) Q E s:=by
 rcases g with ⟨kvs,k,e,ey,l,eH⟩ | ⟨kvs,k,b,e,ey,eb,l,eH⟩
 ·subst ey eH
  (refine Oe0a2 (Zdg I.hok e) fun z hd zo11=>?_;refine Oe1a1 zo11 fun vs rel dd=>?_;clear zo11)
  have hz:vs.length<=sizeLine:=by rw [<-rel.length];exact z
  have hl:(putK kvs k v).length<=sizeLine:=by have:=Xa kvs k v;lia
  refine wpAny_setItem_pairs (hsz:=hz) (jx ry) dd fun h' dd' hs=>h _ ?_
  have he:∃q,h'.get? a=some q:=let ⟨q,_,_,hq,_⟩:=dd';⟨q,hq⟩
  exact xM I (by rw [e];exact True.intro) hs he (Zby hl hd (rel.put k rv) dd')
 ·subst ey eH
  cases (show u=Value.ref b from ry)
  (refine Oe0a2 (dt_of I.hok e) fun z hd zo12=>?_;refine Oe1a1 zo12 fun xs rel dd=>?_;clear zo12)
  have hz:xs.length<=sizeLine:=by rw [<-Paired.length rel];exact z
  have hl:(putK kvs k v).length<=sizeLine:=by have:=Xa kvs k v;lia
  refine wpAny_setItem_heap (hsz:=hz) (tupleKind_room_in1 hu) (zA I.hok eb) dd fun h' dd' hs=>h _ ?_
  (refine Oe3a5 dd' fun q es ep hq h2 h3 h4 _ h5=>?_;clear dd')
  refine xM I (by rw [e];exact True.intro) hs ⟨q,hq⟩ ⟨hl,hd,_,(rel.put k eb rv).keeps fun c ys ec=>?_,q,es,ep,hq,h2,h3,h4,h5⟩
  rw [Zj (YC ec e (fun z=>nomatch z))]
  exact ec
end
section
variable {X:Cx}{pins:List (Addr × Obj)}{σ:St}{H:Hp}{s:Shared}{a:Addr}{kvs:List (Key × V)}{k:Key}{u:Value}{A:Around}{E:Value->Shared->Prop}
theorem d_len {Q:Value->Shared->Prop} (I:Inv X pins σ H s) (e:Rd H a (.dK kvs)) (h:∀t s',Inv X pins σ H s'->Q (.int kvs.length t) s'):wpAny (model X.prog X.w) A (call (.builtin "len") [.ref a]) Q E s:=by
 (refine Oe0a2 (jy I.hok e) fun z hd zo13=>?_;refine Oe1a1 zo13 fun vs rel dd=>?_;clear zo13)
 refine call_len_dict hd dd (by rw [<-rel.length];rw [sizeLine_eq] at z;lia) ?_
 rw [<-rel.length]
 exact h _ _ (I.tok _)
end
noncomputable def Zf2(i:Expr):Prop:=∀ov iv,subscripted i false ov iv=operate [ov,iv] (getItem ov iv)
theorem wu{prog:Program}{w:World}{A:Around}{E:Value->Shared->Prop}{s:Shared}{env:Env}{value slice:Expr}{pos:Pos}{T id:String}{Q:Value->Shared->Prop}
  (hl:typeLookup (.type T) "__getitem__" = pure (some (.builtin id))) (hs:Zf2 slice)
  (h:wpAny (model prog w) A (eval value env) (fun o s₁=>wpAny (model prog w) A (eval slice env) (fun i s₂=>s₂.TypeIs o T/\wpAny (model prog w) A (getItem o i) Q E s₂) E s₁) E s) :
  wpAny (model prog w) A (eval (.Subscript value slice pos) env) Q E s:=by
 refine Subscript_ (wpAny_mono h (fun o s₁ h₁=>wpAny_mono h₁ (fun i s₂ h₂=>?_) fun _ _ x=>x) fun _ _ x=>x)
 obtain ⟨hT,h₂⟩:=h₂
 unfold subscriptTail
 refine wpAny_bind ?_
 rw [getitemInPython_of_ne hT.not_modules]
 refine wpAny_bind (wpAny_specialOf hT hl ?_)
 have fin:wpAny (model prog w) A (subscripted slice false o i) (fun r s₃=>wpAny (model prog w) A (letTemporaryGo value o r >>= fun _=>pure r) Q E s₃) E s₂:=by
  rw [hs o i]
  exact wpAny_operating (wpAny_mono h₂ (fun r s₃ h₃=>wpAny_bind (wpAny_letTemporaryGo (wpAny_pure h₃))) fun _ _ x=>x)
 first
  | exact wpAny_pure (wpAny_bind fin)
  | exact wpAny_bind (wpAny_pure (wpAny_bind fin))
  | exact wpAny_bind fin
theorem jz {X:Cx} {pins:List (Addr × Obj)} {σ:St} {H:Hp} {s:Shared} {a:Addr} {y:V} {o:Option V} (I:Inv X pins σ H s) (g:Zdh H a y o):s.TypeIs (.ref a) "dict" := by
 rcases g with ⟨kvs,k,e,_,_⟩ | ⟨kvs,k,b,e,_,_,_⟩
 ·(refine Oe0a2 (jy I.hok e) fun _ _ zo14=>?_;refine Oe1a1 zo14 fun vs _ dd=>?_;clear zo14)
  exact dd.typeIs
 ·(refine Oe0a2 (wm I.hok e) fun _ _ zo15=>?_;refine Oe1a1 zo15 fun xs _ dd=>?_;clear zo15)
  exact dd.typeIs
inductive wx(Q:VK)(x:V)(y:V)(H2:Hp):Prop
 | mk (a v):(x=.ref a)->(Zdh H2 a y (some v))->(Q v H2)->wx Q x y H2
noncomputable def uG(td ty:TE):TE:=fun σ H Q=>td σ H fun x H1=>ty σ H1 fun y H2=>wx Q x y H2
inductive wy(D:Ends)(σ:St)(v:V)(x:V)(y:V)(H3:Hp):Prop
 | mk (a H4):(x=.ref a)->(wo H3 a y v H4)->(D.nx σ H4)->wy D σ v x y H3
noncomputable def uH(td ty tv:TE):TS:=fun D σ H=>tv σ H fun v H1=>td σ H1 fun x H2=>ty σ H2 fun y H3=>wy D σ v x y H3
section
variable {X:Cx}{o i e value:Expr}{pos pos' tpos:Pos}{td ty tv:TE}
theorem Zdj(hu:X.A.units + 1 < cLine)(ho:PE X o td)(hi:PE X i ty)(hs:Zf2 i):PE X (.Subscript o i pos) (uG td ty):=by
 intro pins s σ H Q I h
 refine wu PySem.F.slot_dict_getitem.lookup hs (thn (ho pins s σ H _ I h) fun u s1 ⟨x,H1,I1,rx,q1⟩=>thn (hi pins s1 σ H1 _ I1 q1) fun iv s2 zq9=>?_);obtain ⟨y,H2,I2,ry,a,v,ex,g,q2⟩:=zq9
 subst ex
 obtain rfl:u=Value.ref a:=rx
 exact ⟨jz I2 g,wq hu I2 g ry fun w' s3 I3 rw'=>⟨v,H2,I3,rw',q2⟩⟩
theorem Zdk(hu:X.A.units + 1 < cLine)(ho:PE X o td)(hi:PE X i ty)(hv:PE X value tv)(hs:swapsWith value (some (.Subscript o i pos')) pos.line X.env=pure false) :
  PS X (.Assign [.Subscript o i pos'] value pos) (uH td ty tv):=by
 intro pins s σ H D I h
 refine wpAny_Assign_Subscript (thn (hv pins s σ H _ I h) fun r s1 ⟨v,H1,I1,rv,q1⟩=>thn (ho pins s1 σ H1 _ I1 q1) fun u s2 ⟨x,H2,I2,rx,q2⟩=>thn (hi pins s2 σ H2 _ I2 q2) fun iv s3 zq9=>?_) hs;obtain ⟨y,H3,I3,ry,a,H4,ex,g,q3⟩:=zq9
 subst ex
 obtain rfl:u=Value.ref a:=rx
 exact wt hu I3 g ry rv fun s4 I4=>⟨σ,H4,I4,q3⟩
end
theorem xN {P:Program} {w:World} {H:Hp} (h:Heap) (hb:sysModules < h.objs.size):Yq P w H (h.push { cls:=.type "dict",data:=.dict #[] }) h.objs.size (.dK []) :=
 ⟨Qbg _,Qbt.mpr (Qcx (Qbm hb)),[],.nil,Heap.DictOf.new h⟩
noncomputable def wz:TE:=fun _ H Q=>∀p,H p=none->Q (.ref p) (upd H p (.dK []))
section
variable {X:Cx}{pos:Pos}
theorem uI:PE X (.Dict [] [] pos) wz:=fun pins s σ H Q I h =>
 wpAny_Dict_empty ⟨.ref s.heap.objs.size,_,I.laid (a:=s.heap.objs.size) (o:=.dK []) (t':=s.toks) (fun _ _ q=>Heap.get?_push_of_some _ q) (Qah _) (xN s.heap I.big),rfl,h _ (I.hok.fresh (Qah _))⟩
end
noncomputable def w4:List (TE × TE)->St->Hp->(List (V × V)->Hp->Prop)->Prop
 | [],_,H,Q=>Q [] H
 | (tk,tv)::r,σ,H,Q=>tk σ H fun x H1=>tv σ H1 fun y H2=>w4 r σ H2 fun ps H3=>Q ((x,y)::ps) H3
noncomputable abbrev VV:List (V × V)->List (Value × Value)->Prop:=Paired fun p q=>RelV p.1 q.1/\RelV p.2 q.2
noncomputable def PPs(X:Cx)(pos:Pos)(keys:List (Option Expr))(values:List Expr)(trs:List (TE × TE)):Prop :=
 ∀(pins:List (Addr × Obj)) (s:Shared) (σ:St) (H:Hp) (Q:List (V × V)->Hp->Prop),Inv X pins σ H s->w4 trs σ H Q ->
  wpAny (model X.prog X.w) X.A (evalPairs (pairTrees keys values X.env pos)) (fun vs s'=>∃ps H',Inv X pins σ H' s'/\VV ps vs/\Q ps H') X.xe s
theorem Zdl{X:Cx}{pos:Pos}:PPs X pos [] [] []:=fun pins s σ H Q I h=>pairTrees_nil_walk ⟨[],H,I,.nil,h⟩
theorem uJ{X:Cx}{pos:Pos}{k v:Expr}{ks:List (Option Expr)}{vs:List Expr}{tk tv:TE}{trs:List (TE × TE)}(hk:PE X k tk)(hv:PE X v tv)(hr:PPs X pos ks vs trs) :
  PPs X pos (some k::ks) (v::vs) ((tk,tv)::trs):=fun pins s σ H Q I h =>
 pairTrees_cons_walk (thn (hk pins s σ H _ I h) fun u s1 ⟨x,H1,I1,rx,q1⟩=>thn (hv pins s1 σ H1 _ I1 q1) fun w2 s2 ⟨y,H2,I2,ry,q2⟩ =>
  thn (hr pins s2 σ H2 _ I2 q2) fun ws s3 ⟨ps,H3,I3,rel,q3⟩=>⟨(x,y)::ps,H3,I3,.cons ⟨rx,ry⟩ rel,q3⟩)
noncomputable def Y8(kvs more:List (Key × V)):List (Key × V):=more.foldl (fun acc kv=>putK acc kv.1 kv.2) kvs
theorem KV.merge:∀{more:List (Key × V)} {rs:List (Key × Value)} {kvs:List (Key × V)} {vs:List (Key × Value)},KV more rs->KV kvs vs->KV (Y8 kvs more) (merged vs rs):=by
 intro more rs kvs vs r
 unfold KV at r
 induction r generalizing kvs vs with
 | nil=>intro q;exact q
 | @cons p q ps qs h t ih =>
  intro r0
  have e:KV (putK kvs p.1 p.2) (stored vs q.1 q.2):=by
   have:=r0.put p.1 h.2
   rw [<-h.1];exact this
  exact ih e
theorem Jv:∀(more kvs:List (Key × V)),(Y8 kvs more).length<=kvs.length + more.length
 | [],kvs=>by show kvs.length<=kvs.length + 0;lia
 | p::r,kvs=>by
  have h1:=Jv r (putK kvs p.1 p.2)
  have h2:=Xa kvs p.1 p.2
  show (Y8 (putK kvs p.1 p.2) r).length<=_
  rw [Qa2];lia
theorem xk{P:Program}{w:World}:∀{kvs:List (Key × V)} {ws:List (Value × Value)},VV (kvs.map fun kv=>(kV kv.1,kv.2)) ws->∃rs,Carries (ZK P w) ws rs/\KV kvs rs
 | [],_,r=>by rw [Qdu] at r;cases r;exact ⟨[],True.intro,.nil⟩
 | p::kvs,_,r=>by
  rw [Qa4] at r
  cases r with
  | @cons a b as bs h t =>
   refine Oe1a1 (xk (P:=P) (w:=w) t) fun rs c q=>?_
   obtain ⟨b1,b2⟩:=b
   exact ⟨(p.1,b2)::rs,⟨jx h.1,rfl,c⟩,.cons ⟨rfl,h.2⟩ q⟩
noncomputable def Zfi(trs:List (TE × TE)):TE:=fun σ H Q=>∀p,H p=none->w4 trs σ (upd H p (.dK [])) fun ps H2=>H2 p=some (.dK [])/\∃kvs:List (Key × V),ps=kvs.map (fun kv=>(kV kv.1,kv.2))/\kvs.length<=15/\Q (.ref p) (upd H2 p (.dK (Y8 [] kvs)))
theorem Zdm{X:Cx}{pos:Pos}{keys:List (Option Expr)}{values:List Expr}{trs:List (TE × TE)}(h:PPs X pos keys values trs)(hall:keys.all (·.isSome)=true)(hl:keys.length=values.length)(h0:keys≠[])
  (h15:keys.length<=15):PE X (.Dict keys values pos) (Zfi trs):=by
 intro pins s σ H Q I q
 have hn:=I.hok.fresh (Qah s.heap.objs.size)
 have I1:=I.laid (a:=s.heap.objs.size) (o:=.dK []) (h':=s.heap.push { cls:=.type "dict",data:=.dict #[] }) (t':=s.toks) (fun _ _ q=>Heap.get?_push_of_some _ q) (Qah _) (xN s.heap I.big)
 refine wpAny_Dict_walk (knd:=ZK X.prog X.w) hall hl h0 h15 (thn (h pins _ σ _ _ I1 (q _ hn)) fun ws s2 zq9=>?_);(refine Oe2a3 zq9 fun ps H2 I2 rel e zo16=>?_;refine Oe1a2 zo16 fun kvs ep lk q2=>?_;clear zo16;clear zq9)
 subst ep
 refine Oe1a1 (xk (P:=X.prog) (w:=X.w) rel) fun rs c rk=>?_
 (refine Oe0a2 (Zdg I2.hok e) fun z hd zo17=>?_;refine Oe1a1 zo17 fun vs0 r0 dd=>?_;clear zo17)
 cases r0
 refine ⟨rs,c,dd,fun h' dd' hs=>⟨.ref s.heap.objs.size,_,?_,rfl,q2⟩⟩
 have hz:(Y8 [] kvs).length<=sizeLine:=by
  have h1:=Jv kvs []
  rw [Qc0] at h1
  rw [sizeLine_eq];lia
 have he:∃q,h'.get? s.heap.objs.size=some q:=let ⟨q,_,_,hq,_⟩:=dd';⟨q,hq⟩
 exact xM I2 (by rw [e];exact True.intro) hs he (Zby hz hd (rk.merge .nil) dd')
structure M2(X:Cx)(o:Expr)(m:Str)(apos:Pos)(e f:Expr)(cpos:Pos):Prop where
 base:attributeBase o m X.env (eval o X.env)=eval o X.env
 few:((backTo cpos (starEach [e,f] X.env)).all (fun x=>!x.1) && (backToKw cpos (keywordEach [] X.env)).all (fun x=>x.1.isSome)
  && decide (([e,f]:List Expr).length + ([]:List Keyword).length + (if ([]:List Keyword).isEmpty then 0 else 1) < 30))=true
 line:(apos.endLine == cpos.line)=true
 trees:backTo cpos (starEach [e,f] X.env)=[(false,eval e X.env),(false,eval f X.env)]
section
variable {X:Cx}{pins:List (Addr × Obj)}{σ:St}{H:Hp}{s:Shared}{a:Addr}{y d:V}{u r:Value}{o:Option V}{A:Around}{E:Value->Shared->Prop}
end
section
variable {X:Cx}{o e f:Expr}{apos cpos:Pos}{td ty tx:TE}
end
section
variable {X:Cx}{pins:List (Addr × Obj)}{σ:St}{H:Hp}{s:Shared}{a:Addr}{kvs:List (Key × V)}{A:Around}{E:Value->Shared->Prop}
end
section
variable {X:Cx}{pins:List (Addr × Obj)}{σ:St}{H:Hp}{s:Shared}{a:Addr}{y:V}{u:Value}{A:Around}{E:Value->Shared->Prop}
end
section
variable {X:Cx}
end
end L2
namespace EnT
open PySem PySem.Spec PyProof.Rows
open AutoSeq1 (wpAny_loadPart')
noncomputable def tIt (l:Addr):Obj:={ cls:=.type "tuple_iterator",data:=.fields #[.ref l,.int 0 0] }
noncomputable def enO (it:Addr):Obj:={ cls:=.type "enumerate",data:=.fields #[.none,.bool false,.ref it,rawInt 0,.none,.none] }
theorem X3(l:Addr)(items:Array Value) :
  Meets (Builtin.«enumerate.__new__» ⟨[.type "enumerate",.ref l],[]⟩) (fun _ R s=>s.heap.IsTuple l items /\
   R (.ok (.ret (.ref (s.heap.push (tIt l)).objs.size))) { s with heap:=(s.heap.push (tIt l)).push (enO s.heap.objs.size) }) :=
 .of_wp fun prog w A R s h=>by
  obtain ⟨hp,g,d,tk,os⟩:=s;obtain ⟨hL,h⟩:=h
  have hsub:=sub_enumerate
  (refine Oe1a2 (id hL) fun zo18 hl hc zo19=>?_;obtain ⟨oc,od,oda,osl⟩:=zo18;obtain ⟨n,hd⟩:=zo19)
  simp only at hc hd
  subst hc hd
  wp_walk using wpAny_loadPart' hl
  refine wpAny_stack_any fun st=>wpAny_pure ?_
  split
  ·rename_i c _ _ _ _ _
   cases (c == Value.type "enumerate")
   ·wp_walk using wpAny_loadPart' hl,wpAny_pyIter_tuple hL
    exact ⟨_,rfl,h⟩
   ·wp_walk using wpAny_loadPart' hl,wpAny_pyIter_tuple hL
    exact ⟨_,rfl,h⟩
  ·wp_walk using wpAny_loadPart' hl,wpAny_pyIter_tuple hL
   exact ⟨_,rfl,h⟩
section
variable {prog:Program}{w:World}{A:Around}{E:Value->Shared->Prop}{s:Shared}
theorem next_of{it l:Addr}{i:Nat}{items}{x:Value}{Q:Value->Shared->Prop}(hit:s.heap.IsTupleIter it l i)(hl:s.heap.IsTuple l items)(hx:items[i]?=some x)
  (hQ:∀h',h'.IsTupleIter it l (i + 1)->Heap.SameBut it s.heap h'->Q x { s with heap:=h' }):wpAny (model prog w) A (Builtin.SmallTypes.nextOf (.ref it)) Q E s:=by
 refine Oe1a2 (id hit) fun o ho hc hd=>?_
 (refine Oe1a2 hl fun ol hol _ zo20=>?_;obtain ⟨nl,hdl⟩:=zo20;clear hl)
 unfold Builtin.SmallTypes.nextOf
 refine wpAny_bind (wpAny_callSpecial?_slot (name:=Str.ofString "__next__") hit.typeIs F.slot_tuple_iterator_next (wpAny_call_entry F.slot_tuple_iterator_next hit.typeIs F.entry_tuple_iterator_next ?_ (F.args_tuple_iterator_next_1 _)))
 show wpAny _ _ (field (.ref it) 0 >>= _) _ _ s
 refine wpAny_bind (wpAny_field ho hd (x:=.ref l) rfl ?_)
 show wpAny _ _ (if (Value.ref l == Value.none)=true then _ else _) _ _ s
 rw [Qal (show ¬((Value.ref l == Value.none)=true) from Qam)]
 show wpAny _ _ (field (.ref it) 1 >>= _) _ _ s
 refine wpAny_bind (wpAny_field ho hd (x:=.int i 0) rfl ?_)
 show wpAny _ _ (seqItems? (.ref l) >>= _) _ _ s
 refine wpAny_bind (wpAny_seqItems hol hdl ?_)
 simp only [Qaz,hx]
 refine wpAny_bind (wpAny_setField ho hd (by simp) (wpAny_pure ⟨x,rfl,wpAny_pure (hQ _ ⟨_,Heap.get?_update_self _ ho (Obj.isFreed_of_fields (Obj.data_mapFields hd _)),(Obj.cls_mapFields ..).trans hc,?_⟩ (Heap.SameBut.update ..))⟩))
 rw [Obj.data_mapFields hd]
 simp [rawInt]
theorem next_no{it l:Addr}{i:Nat}{items}{Q:Value->Shared->Prop}(hh:A.handled=none)(hit:s.heap.IsTupleIter it l i)(hl:s.heap.IsTuple l items)(hx:items[i]?=none)
  (hE:∀h' e,Heap.ExtBut it s.heap h'->(∃o,h'.get? e=some o/\o.cls=.type "StopIteration")->E (.ref e) { s with heap:=h' }):wpAny (model prog w) A (Builtin.SmallTypes.nextOf (.ref it)) Q E s:=by
 refine Oe1a2 (id hit) fun o ho hc hd=>?_
 (refine Oe1a2 hl fun ol hol _ zo21=>?_;obtain ⟨nl,hdl⟩:=zo21;clear hl)
 unfold Builtin.SmallTypes.nextOf
 refine wpAny_bind (wpAny_callSpecial?_slot (name:=Str.ofString "__next__") hit.typeIs F.slot_tuple_iterator_next (wpAny_call_entry F.slot_tuple_iterator_next hit.typeIs F.entry_tuple_iterator_next ?_ (F.args_tuple_iterator_next_1 _)))
 show wpAny _ _ (field (.ref it) 0 >>= _) _ _ s
 refine wpAny_bind (wpAny_field ho hd (x:=.ref l) rfl ?_)
 show wpAny _ _ (if (Value.ref l == Value.none)=true then _ else _) _ _ s
 rw [Qal (show ¬((Value.ref l == Value.none)=true) from Qam)]
 show wpAny _ _ (field (.ref it) 1 >>= _) _ _ s
 refine wpAny_bind (wpAny_field ho hd (x:=.int i 0) rfl ?_)
 show wpAny _ _ (seqItems? (.ref l) >>= _) _ _ s
 refine wpAny_bind (wpAny_seqItems hol hdl ?_)
 simp only [Qaz,hx]
 refine wpAny_bind (wpAny_rule (wpAny_bind (wpAny_setField ho hd (by simp) ?_)))
 show wpAny _ _ (newExc (.type "StopIteration") [] >>= _) _ _ _
 refine wpAny_bind ?_
 simp only [newExc,newTuple]
 refine wpAny_bind (wpAny_newObj_type ?_ (by size_fits))
 refine wpAny_bind (m:=firstArgMember _ _) (wpAny_of_eq (a:=Value.none) (by first | rfl | (simp only [firstArgMember];rfl)) ?_)
 refine wpAny_newObj_type ?_ (by size_fits)
 simp only [raiseNew]
 refine wpAny_bind (wpAny_handled ?_)
 first | rw [show A.in1.handled=none from hh] | rw [hh]
 refine wpAny_bind (wpAny_pure (wpAny_throw ?_))
 exact hE _ _ (((Heap.SameBut.update ..).extBut.push _).push _) ⟨_,Heap.get?_push_size _ rfl,rfl⟩
theorem j4{e it l:Addr}{i:Nat}{items:Array Value}{x old:Value}{Q:Value->Shared->Prop}
  (he:IsEnum s.heap e it i old) (hit:s.heap.IsTupleIter it l i) (hl:s.heap.IsTuple l items) (hx:items[i]?=some x) (hne:e≠it)
  (hQ:∀h',IsEnumOut h' e it ((i:Int) + 1) x s.heap.objs.size->h'.IsTupleIter it l (i + 1) ->
   h'.get? s.heap.objs.size=some { cls:=.type "tuple",data:=.seq #[.int i s.toks,x] }->h'.objs.size=s.heap.objs.size + 1 ->
   (∀b o,b≠e->b≠it->s.heap.get? b=some o->h'.get? b=some o)->Q (.ref s.heap.objs.size) { s with heap:=h',toks:=s.toks + 1 }) :
  wpAny (model prog w) A (Builtin.«enumerate.__next__» ⟨[.ref e],[]⟩) (fun fin s'=>∃v,fin=.done (.ret v)/\Q v s') E s:=by
 obtain ⟨hp,g,d,tk,os⟩:=s
 show wpAny _ _ (field (.ref e) 2 >>= _) _ _ _
 refine wpAny_bind (wpAny_field he rfl (x:=.ref it) rfl ?_)
 refine wpAny_bind (next_of hit hl hx fun h₁ hit₁ hs₁=>?_)
 replace hs₁:Heap.SameBut it hp h₁:=hs₁
 have he₁:IsEnum h₁ e it i old:=(hs₁.2 e hne).trans he
 show wpAny _ _ (field (.ref e) 3 >>= _) _ _ ⟨h₁,g,d,tk,os⟩
 refine wpAny_bind (wpAny_field he₁ rfl (x:=rawInt i) rfl ?_)
 show wpAny _ _ (field (.ref e) 4 >>= _) _ _ ⟨h₁,g,d,tk,os⟩
 refine wpAny_bind (wpAny_field he₁ rfl (x:=.none) rfl ?_)
 show wpAny _ _ (mkInt i >>= _) _ _ ⟨h₁,g,d,tk,os⟩
 refine wpAny_bind (wpAny_mkInt ?_)
 show wpAny _ _ (setField (.ref e) 3 (rawInt ((i:Int) + 1)) >>= _) _ _ ⟨h₁,g,d,tk + 1,os⟩
 refine wpAny_bind (wpAny_setField_rec he₁ (by simp) fun h₂ he₂ hs₂=>?_)
 replace hs₂:Heap.SameBut e h₁ h₂:=hs₂
 replace he₂:IsEnum h₂ e it ((i:Int) + 1) old:=he₂
 show wpAny _ _ (setField (.ref e) 4 .none >>= _) _ _ ⟨h₂,g,d,tk + 1,os⟩
 refine wpAny_bind (wpAny_setField_rec he₂ (by simp) fun h₃ he₃ hs₃=>?_)
 replace hs₃:Heap.SameBut e h₂ h₃:=hs₃
 replace he₃:IsEnum h₃ e it ((i:Int) + 1) old:=he₃
 show wpAny _ _ (newTuple [.int i tk,x] >>= _) _ _ ⟨h₃,g,d,tk + 1,os⟩
 refine wpAny_bind (wpAny_newTuple ?_)
 have he₄:IsEnum (h₃.push { cls:=.type "tuple",data:=.seq #[.int i tk,x] }) e it ((i:Int) + 1) old:=Heap.get?_push_of_some _ he₃
 generalize hh₄:h₃.push { cls:=.type "tuple",data:=.seq #[.int i tk,x] }=h₄ at he₄
 have hsz:h₃.objs.size=hp.objs.size:=by rw [hs₃.1,hs₂.1,hs₁.1]
 have hel:e < hp.objs.size:=Heap.lt_size he
 have ht₄:h₄.get? hp.objs.size=some { cls:=.type "tuple",data:=.seq #[.int i tk,x] }:=by rw [<-hh₄,<-hsz];exact Heap.get?_push_size _ rfl
 have hz₄:h₄.objs.size=hp.objs.size + 1:=by rw [<-hh₄,Heap.size_push,hsz]
 have hk₄:∀b o,b≠e->b≠it->hp.get? b=some o->h₄.get? b=some o:=fun b o hbe hbi hb=>by
  rw [<-hh₄];exact Heap.get?_push_of_some _ (hs₃.extBut b o hbe (hs₂.extBut b o hbe (hs₁.extBut b o hbi hb)))
 have hit₄:h₄.IsTupleIter it l (i + 1):=by
  rw [<-hh₄];refine Oe1a1 ((hit₁.extBut hs₂.extBut (Qcx hne)).extBut hs₃.extBut (Qcx hne)) fun o ho r=>?_;exact ⟨o,Heap.get?_push_of_some _ ho,r⟩
 show wpAny _ _ (Builtin.SmallTypes.ownedTupleIsFree (.ref e) >>= _) _ _ ⟨h₄,g,d,tk + 1,os⟩
 rw [hsz]
 clear hh₄ he₃ hs₃ he₂ hs₂ he₁ hs₁ hit₁ hsz h₃ h₂ h₁
 refine wpAny_bind ?_
 ·unfold Builtin.SmallTypes.ownedTupleIsFree
  refine wpAny_bind (wpAny_field he₄ rfl (x:=.none) rfl (wpAny_pure ?_))
  simp only [Qdy]
  refine wpAny_bind (wpAny_rule ?_)
  refine wpAny_bind (wpAny_field he₄ rfl (x:=old) rfl ?_)
  refine wpAny_bind (wpAny_setField_rec he₄ (by simp) fun h₅ he₅ hs₅=>?_)
  replace hs₅:Heap.SameBut e h₄ h₅:=hs₅
  replace he₅:IsEnum h₅ e it ((i:Int) + 1) x:=he₅
  show wpAny _ _ (Builtin.SmallTypes.ownedTupleHandOut (.ref e) (.ref hp.objs.size) >>= _) _ _ ⟨h₅,g,d,tk + 1,os⟩
  refine wpAny_bind ?_
  ·unfold Builtin.SmallTypes.ownedTupleHandOut
   refine wpAny_bind (wpAny_setField_rec he₅ (by simp) fun h₆ he₆ hs₆=>?_)
   replace hs₆:Heap.SameBut e h₅ h₆:=hs₆
   replace he₆:IsEnumOut h₆ e it ((i:Int) + 1) x hp.objs.size:=he₆
   refine wpAny_setField_rec he₆ (by simp) fun h₇ he₇ hs₇=>?_
   replace hs₇:Heap.SameBut e h₆ h₇:=hs₇
   replace he₇:IsEnumOut h₇ e it ((i:Int) + 1) x hp.objs.size:=he₇
   refine wpAny_bind (wpAny_letGo (wpAny_pure ⟨_,rfl,hQ h₇ he₇ ?_ ?_ ?_ ?_⟩))
   ·exact ((hit₄.extBut hs₅.extBut (Qcx hne)).extBut hs₆.extBut (Qcx hne)).extBut hs₇.extBut (Qcx hne)
   ·exact hs₇.extBut _ _ (Qcw hel) (hs₆.extBut _ _ (Qcw hel) (hs₅.extBut _ _ (Qcw hel) ht₄))
   ·rw [hs₇.1,hs₆.1,hs₅.1,hz₄]
   ·exact fun b o hbe hbi hb=>hs₇.extBut b o hbe (hs₆.extBut b o hbe (hs₅.extBut b o hbe (hk₄ b o hbe hbi hb)))
theorem next_item{e it l:Addr}{i:Nat}{items:Array Value}{x old:Value}{Q:Option Value->Shared->Prop}
  (he:IsEnum s.heap e it i old) (hit:s.heap.IsTupleIter it l i) (hl:s.heap.IsTuple l items) (hx:items[i]?=some x) (hne:e≠it)
  (hQ:∀h',IsEnumOut h' e it ((i:Int) + 1) x s.heap.objs.size->h'.IsTupleIter it l (i + 1) ->
   h'.get? s.heap.objs.size=some { cls:=.type "tuple",data:=.seq #[.int i s.toks,x] }->h'.objs.size=s.heap.objs.size + 1 ->
   (∀b o,b≠e->b≠it->s.heap.get? b=some o->h'.get? b=some o)->Q (some (.ref s.heap.objs.size)) { s with heap:=h',toks:=s.toks + 1 }) :
  wpAny (model prog w) A (pyNext (.ref e)) Q E s:=by
 have hT:s.TypeIs (.ref e) "enumerate" := ⟨_,he,rfl⟩
 unfold pyNext
 exact wpAny_bind (wpAny_attempt (wpAny_callSpecial?_slot (name:=Str.ofString "__next__") hT F.slot_enumerate_next (wpAny_call_entry F.slot_enumerate_next hT F.entry_enumerate_next
   (j4 he hit hl hx hne fun h' a b c d k=>wpAny_pure (hQ h' a b c d k)) (F.args_enumerate_next_1 _))))
theorem next_end{e it l:Addr}{i:Nat}{items:Array Value}{old:Value}{Q:Option Value->Shared->Prop}(hh:A.handled=none)
  (he:IsEnum s.heap e it i old) (hit:s.heap.IsTupleIter it l i) (hl:s.heap.IsTuple l items) (hx:items[i]?=none)
  (hQ:∀h',Heap.ExtBut it s.heap h'->Q none { s with heap:=h' }):wpAny (model prog w) A (pyNext (.ref e)) Q E s:=by
 have hT:s.TypeIs (.ref e) "enumerate" := ⟨_,he,rfl⟩
 unfold pyNext
 refine wpAny_bind (wpAny_attempt (wpAny_callSpecial?_slot (name:=Str.ofString "__next__") hT F.slot_enumerate_next (wpAny_call_entry F.slot_enumerate_next hT F.entry_enumerate_next ?_ (F.args_enumerate_next_1 _))))
 show wpAny _ _ (field (.ref e) 2 >>= _) _ _ _
 refine wpAny_bind (wpAny_field he rfl (x:=.ref it) rfl ?_)
 refine wpAny_bind (next_no hh hit hl hx fun h' x he' hx'=>?_)
 (refine Oe1a1 hx' fun o ho hc=>?_;clear hx')
 refine wpAny_bind (wpAny_isInstance (T := "StopIteration") (b:=true) ⟨o,ho,hc⟩ isSubtype_stop ?_)
 exact wpAny_pure (hQ _ he')
theorem call_new{l:Addr}{items:Array Value}{Q:Value->Shared->Prop}(hl:s.heap.IsTuple l items)
  (h:∀h',IsEnum h' (s.heap.objs.size + 1) s.heap.objs.size 0 .none->h'.IsTupleIter s.heap.objs.size l 0->h'.objs.size=s.heap.objs.size + 2 ->
   (∀b o,s.heap.get? b=some o->h'.get? b=some o)->Q (.ref (s.heap.objs.size + 1)) { s with heap:=h' }):wpAny (model prog w) A (call (.type "enumerate") [.ref l]) Q E s:=by
 refine callType_new F.called_enumerate (by decide) (F.typeCall_enumerate_1 _) (F.newCall_enumerate_1 _) (fun obj=>F.args_object_init_2 obj _) F.entry_enumerate_new (X3 l items) ⟨hl,?_⟩
 have hz:(s.heap.push (tIt l)).objs.size=s.heap.objs.size + 1:=Heap.size_push ..
 show _/\_
 rw [hz]
 have he:IsEnum ((s.heap.push (tIt l)).push (enO s.heap.objs.size)) (s.heap.objs.size + 1) s.heap.objs.size 0 .none:=by
  have:=Heap.get?_push_size (s.heap.push (tIt l)) (o:=enO s.heap.objs.size) rfl
  rw [hz] at this
  exact this
 refine ⟨⟨_,he,rfl⟩,h _ he ⟨_,Heap.get?_push_of_some _ (Heap.get?_push_size _ rfl),rfl,rfl⟩ (by rw [Heap.size_push,hz]) fun b o x=>Heap.get?_push_of_some _ (Heap.get?_push_of_some _ x)⟩
end
end EnT
namespace L2
open PySem PySem.Spec PyProof.Rows
theorem vi{X:Cx}{pins:List (Addr × Obj)}{σ:St}{H:Hp}{s:Shared}{h':Heap}{t':Nat}{fp:List Addr}(I:Inv X pins σ H s)(hf:∀b∈fp,yd X pins H b)(k:∀b o,b∉fp->s.heap.get? b=some o->h'.get? b=some o):Inv X pins σ H { s with heap:=h',toks:=t' }:=by
 have nit:∀b u,H b=some u->b∉fp:=fun b u e z=>by rw [(hf b z).1] at e;cases e
 refine I.step (g':=s.gens) (d':=s.drawn) (ch:=fp) (fun b hb=>⟨(hf b hb).2.2.2.1,(hf b hb).2.1,(hf b hb).2.2.2.2.1,(hf b hb).2.2.2.2.2⟩) (fun b o _ _ hc e _=>k b o hc e) (fun b o _ _ hc e _=>⟨o.slots,k b o hc e⟩) (fun _ _ _ _ n=>n)
  (fun b o hc e=>⟨o,k b o hc e⟩) (fun _ _ e=>e) (fun _ _ _ e=>e) (fun b ps e=>⟨#[],by rw [e];simp⟩) (fun m hm=>?_) (fun b u e=>?_) I.bare
 ·(refine Oe3a1 hm fun o es ep ho r=>?_;clear hm)
  exact ⟨o,es,ep,k _ o (fun z=>(hf _ z).2.1 rfl) ho,r⟩
 ·refine (I.hok b u e).stay (fun c v hc q=>k c v ?_ q) (fun _ q=>q) fun _ _ q=>q
  rcases hc with z | z
  ·rw [z]
   exact nit b u e
  ·exact nit c _ z
noncomputable def Ite(K:PySem.W.Frag)(a:Addr)(n:Nat):It :=
 ⟨fun i H=>∃xs x,SqT K H a xs/\xs.length=n/\xs[i]?=some x,fun i H v H'=>∃p,H p=none/\v=.ref p/\∀xs x,SqT K H a xs->xs[i]?=some x->H'=upd H p (.tup [.int i,x]),fun i H=>∃xs,SqT K H a xs/\xs.length=n/\n<=i⟩
theorem w5{P:Program}{w:World}{K:PySem.W.Frag}{es:List Expr}{q:Nat}{ps:Pos}(a e it:Addr)(n:Nat)(hei:e≠it):Turn P w K (.Tuple es q ps) (Ite K a n) [e,it] e (fun i h=>(∃old,IsEnum h e it i old)/\h.IsTupleIter it a i) where
 mem:=by simp
 obj:=fun i h st b hb=>by
  obtain ⟨⟨old,he⟩,o,ho,hc,hd⟩:=st
  rcases Qaj.mp hb with rfl | hb
  ·exact ⟨_,he,fun v z=>by
    have z':Data.fields _=Data.cell v:=z
    cases z'⟩
  ·have:b=it:=by simpa using hb
   subst this
   exact ⟨o,ho,fun v z=>by rw [hd] at z;cases z⟩
 keep:=fun i h h' st k=>by
  obtain ⟨⟨old,he⟩,hit⟩:=st
  exact ⟨⟨old,k e (by simp) _ he⟩,hit.at fun o x=>k it (by simp) o x⟩
 item:=by
  intro X hP hw hK hc i pins s σ H E I hf st hg
  subst hP hw hK
  (refine Oe2a2 hg fun xs x hq hn hx=>?_;clear hg)
  refine Oe1a2 (I.tuple hq) fun its rv p hz=>?_
  refine Oe1a1 (rv.get hx) fun u hu ru=>?_
  obtain ⟨⟨old,he⟩,hit⟩:=st
  refine Oe0a5 (hf e (by simp)) fun f0 f1 f2 f3 f4 f5=>?_
  refine Oe0a5 (hf it (by simp)) fun g0 g1 g2 g3 g4 g5=>?_
  have hlt:e < s.heap.objs.size:=Heap.lt_size he
  have hilt:it < s.heap.objs.size:=by (refine Oe1a1 hit fun _ z _=>?_;clear hit);exact Heap.lt_size z
  refine EnT.next_item he hit (show s.heap.IsTuple a its.toArray from p) (x:=u) (by simpa using hu) hei fun h' ho hit' hT hsz hk=>?_
  refine ⟨_,rfl,wpAny_letOwnedTupleGo_enum (s:={ s with heap:=h',toks:=s.toks + 1 }) ho fun h2 he2 hs2=>?_⟩
  have hs2':Heap.SameBut e h' h2:=hs2
  have I1:Inv X pins σ (upd H s.heap.objs.size (.tup [.int i,x])) { s with heap:=s.heap.push { cls:=.type "tuple",data:=.seq #[.int i s.toks,u] },toks:=s.toks + 1 } :=
   I.laid (fun b o y=>Heap.get?_push_of_some _ y) (Qah _) ⟨by show 2<=sizeLine;decide,[.int i s.toks,u],.cons ⟨_,rfl⟩ (.cons ru .nil),IsTup.new _ _⟩
  have fp':∀b∈[e,it],yd X pins (upd H s.heap.objs.size (.tup [.int i,x])) b:=fun b hb=>by
   have hlb:b≠s.heap.objs.size:=by
    rcases Qaj.mp hb with rfl | hb
    ·exact Qbm hlt
    ·have:b=it:=by simpa using hb
     rw [this]
     exact Qbm hilt
   obtain ⟨a0,ar⟩:=hf b hb
   exact ⟨by rw [Zj hlb];exact a0,ar⟩
  have I2:Inv X pins σ (upd H s.heap.objs.size (.tup [.int i,x])) { s with heap:=h2,toks:=s.toks + 1 }:=by
   refine vi (s:={ s with heap:=s.heap.push { cls:=.type "tuple",data:=.seq #[.int i s.toks,u] },toks:=s.toks + 1 }) I1 fp' fun b o hb y=>?_
   have hbe:b≠e:=fun z=>hb (by simp [z])
   have hbi:b≠it:=fun z=>hb (by simp [z])
   rcases Heap.get?_push_cases y with ⟨rfl,rfl⟩ | y
   ·exact (hs2'.2 _ hbe).trans hT
   ·exact (hs2'.2 b hbe).trans (hk b o hbe hbi y)
  refine ⟨.ref s.heap.objs.size,_,I2,rfl,⟨_,I.hok.fresh (Qah _),rfl,fun ys y hy hyi=>?_⟩,⟨⟨u,?_⟩,hit'.at fun o y=>(hs2'.2 it hei.symm).trans y⟩,fun b hb=>(fp' b hb).1⟩
  ·rw [I.tuple_inj hy hq,hx] at hyi
   cases hyi
   rfl
  ·have e1:((i + 1:Nat):Int)=(i:Int) + 1:=by lia
   show IsEnum h2 e it ((i + 1:Nat):Int) u
   rw [e1]
   exact he2
 done:=by
  intro X hP hw hK hc i pins s σ H E I hf st hg
  subst hP hw hK
  (refine Oe1a2 hg fun xs hq hn hx=>?_;clear hg)
  refine Oe1a2 (I.tuple hq) fun its rv p hz=>?_
  obtain ⟨⟨old,he⟩,hit⟩:=st
  refine Oe0a5 (hf it (by simp)) fun g0 g1 g2 g3 g4 g5=>?_
  have hl:=rv.length
  exact EnT.next_end (I.ok.hd hc) he hit (show s.heap.IsTuple a its.toArray from p) (by simp;lia) fun h' eb=>⟨rfl,I.turned (t':=s.toks) (fun b o hb e=>eb b o hb e) g0 g1 g3 g4 g5⟩
 self:=fun _ _ _ _ _ st h=>let ⟨⟨_,he⟩,_⟩:=st;wpAny_pyIter_enum he h
noncomputable def iEnum(K:PySem.W.Frag)(te:TE):TI:=fun σ H R=>te σ H fun x H1=>∃a xs,x=.ref a/\SqT K H1 a xs/\R (Ite K a xs.length) H1
theorem zB:bootBuiltins "enumerate" = some (.type "enumerate"):=by decide +kernel
theorem uK {X:Cx} {e:Expr} {es:List Expr} {q:Nat} {ps:Pos} {te:TE} {p pos:Pos} (hg:Gl X "enumerate") (hm:X.mg "enumerate" = none) (he:QE X e te) (hp:Ys e=true:=by rfl):QI X (.Tuple es q ps) (.Call (.Name "enumerate" p) [e] [] pos) (iEnum X.K te):=by
 refine ⟨fun pins s σ H R I h=>?_⟩
 have hs:starEach [e] X.env=[(false,eval e X.env)]:=by rw [Zy hp];rfl
 refine Call_ (Gb I hg hm zB (Qcf ?_ hs rfl))
 rw [hs]
 show wpAny _ _ (spliced ((false,eval e X.env)::[])) _ _ s
 refine Calls.spliced_cons (thn (he.out pins s σ H _ I h) fun u s1 zq9=>?_);obtain ⟨x,H1,I1,ru,q1⟩:=zq9
 refine Calls.spliced_nil ?_
 (refine Oe2a2 q1 fun a xs zo22 hq r=>?_;obtain rfl:=zo22;clear q1)
 cases ru
 refine Oe1a2 (I1.tuple hq) fun its rv pt hz=>?_
 refine EnT.call_new (show s1.heap.IsTuple a its.toArray from pt) fun h' he' hit' hsz hk=>?_
 have I2:Inv X pins σ H1 { s1 with heap:=h' }:=I1.kept (t':=s1.toks) hk
 refine wpAny_pyIter_enum he' ⟨s1.heap.objs.size + 1,[s1.heap.objs.size + 1,s1.heap.objs.size],_,_,H1,rfl,I2,w5 a (s1.heap.objs.size + 1) s1.heap.objs.size xs.length (Nat.succ_ne_self _),⟨⟨_,he'⟩,hit'⟩,fun b hb=>?_,r⟩
 rcases Qaj.mp hb with rfl | hb
 ·exact I1.fpOk (Qeg _) (I1.hok.fresh (Qeg _))
 ·have:b=s1.heap.objs.size:=by simpa using hb
  subst this
  exact I1.fpOk (Qah _) (I1.hok.fresh (Qah _))
theorem Zdn{X:Cx}{x y:Str}{p1 p2 pos:Pos}{k:Nat}{t1 t2:TG}(hc:X.calm=true)(h1:QG X (.Name x p1) t1)(h2:QG X (.Name y p2) t2):QG X (.Tuple [.Name x p1,.Name y p2] k pos) (gTup X.K 2 (kf t1 (kf t2 gNil))) :=
 ⟨pg_tup hc (yc h1.out (yc h2.out Zcu))⟩
theorem uL{K:PySem.W.Frag}{a:Addr}{xs:List V}{j k:Nat}{tb:TS}{D:Ends}{σ:St}{H:Hp}(Pv:Nat->St->Hp->Prop)(h0:Pv 0 σ H)(hl:∀i σ H,i<=xs.length->Pv i σ H->SqT K H a xs)
  (hs:∀i x σ H p,xs[i]?=some x->H p=none->Pv i σ H->tb { D with nx:=Pv (i + 1),ct:=Pv (i + 1),bk:=D.nx } ((σ.set j (some (.int i))).set k (some x)) (upd H p (.tup [.int i,x]))) (hd:∀σ H,Pv xs.length σ H->D.nx σ H) :
  ∃W:Nat->Nat->St->Hp->Prop,(∃m,W 0 m σ H)/\∀i m σ H,W i m σ H ->
   ((Ite K a xs.length).stop i H/\D.nx σ H)\/((Ite K a xs.length).go i H/\∃N:St->Hp->Prop,(∀σ' H',N σ' H'->∃m',m' < m/\W (i + 1) m' σ' H')/\∀x H',(Ite K a xs.length).yld i H x H'->(gTup K 2 (kf (GQ j) (kf (GQ k) gNil))) x σ H' fun σ2 H2=>tb { D with nx:=N,ct:=N,bk:=D.nx } σ2 H2):=by
 refine ⟨fun i m σ H=>m=xs.length - i/\i<=xs.length/\Pv i σ H,⟨xs.length,by simp,Qbg _,h0⟩,?_⟩
 (intro i m σ H zq8;(refine Oe0a2 zq8 fun zo23 hi p=>?_;obtain rfl:=zo23;clear zq8))
 have hq:=hl i σ H hi p
 by_cases hlt:i < xs.length
 ·have hx:=Qai hlt
  refine .inr ⟨⟨xs,xs[i],hq,rfl,hx⟩,Pv (i + 1),fun σ' H' p'=>⟨xs.length - (i + 1),by lia,rfl,hlt,p'⟩,fun v H' y=>?_⟩
  (have zob:=y;clear y;refine Oe1a2 zob fun t ht zo24 y=>?_;obtain rfl:=zo24;clear zob)
  have e:=y xs _ hq hx
  subst e
  exact ⟨t,_,rfl,SqT.of Za,rfl,_,_,rfl,_,_,rfl,rfl,hs i _ σ H t hx ht p⟩
 ·have e:i=xs.length:=by lia
  exact .inl ⟨⟨xs,hq,rfl,by lia⟩,by rw [e] at p;exact hd σ H p⟩
section
variable {X:Cx}
theorem GY{o i:Expr}{td ty:TE}{pos:Pos}(hu:X.A.units + 1 < cLine)(ho:QE X o td)(hi:QE X i ty)(hs:Zf2 i):QE X (.Subscript o i pos) (uG td ty):=⟨Zdj hu ho.out hi.out hs⟩
theorem xO{pos:Pos}:QE X (.Dict [] [] pos) wz:=⟨uI⟩
theorem Jh{o i value:Expr}{td ty tv:TE}{pos pos':Pos}(hu:X.A.units + 1 < cLine)(ho:QE X o td)(hi:QE X i ty)(hv:QE X value tv)(hs:swapsWith value (some (.Subscript o i pos')) pos.line X.env=pure false) :
  QS X (.Assign [.Subscript o i pos'] value pos) (uH td ty tv):=⟨Zdk hu ho.out hi.out hv.out hs⟩
inductive Zbz(neg:Bool)(y:V)(x:V)(H:Hp)(Q:VK):Prop
 | mk (a o):(x=.ref a)->(Zdh H a y o)->(Q (.bl (if neg then !o.isSome else o.isSome)) H)->Zbz neg y x H Q
noncomputable def rDIn(neg:Bool):R2:=fun y x H Q=>Zbz neg y x H Q
theorem xl(hu:X.A.units + 1 < cLine):OpR X (compareOp .In) (rDIn false):=by
 intro pins s σ H x y v u Q I rx ry h
 obtain ⟨a,o,rfl,g,q⟩:=h
 cases ry
 exact d_in hu I g rx fun s' I'=>⟨.bl o.isSome,H,I',rfl,q⟩
theorem xP(hu:X.A.units + 1 < cLine):OpR X (compareOp .NotIn) (rDIn true):=by
 intro pins s σ H x y v u Q I rx ry h
 obtain ⟨a,o,rfl,g,q⟩:=h
 cases ry
 exact Zdi hu I g rx fun s' I'=>⟨.bl (!o.isSome),H,I',rfl,q⟩
theorem w6:XM X (.builtin "len") (fun xs H Q=>∃a kvs,xs=[V.ref a]/\Rd H a (.dK kvs)/\Q (.int kvs.length) H):=by
 intro pins s σ H xs us Q I r h
 (refine Oe2a2 h fun a kvs zo25 e q=>?_;obtain rfl:=zo25;clear h)
 (refine Oe1a1 (vals1 r) fun u zo26 ru=>?_;obtain rfl:=zo26)
 cases ru
 exact d_len I e fun t s' I'=>⟨.int kvs.length,H,I',⟨t,rfl⟩,q⟩
theorem xQ{κ:Type}[DecidableEq κ]:∀{kvs:List (κ × V)},(kvs.map (·.1)).Nodup->∀p∈kvs,YH kvs p.1=some p.2
 | [],_,_,h=>nomatch h
 | q::r,nd,p,h=>by
  rw [Qa4,Qbu] at nd
  rcases Qaj.mp h with rfl | h
  ·exact Yw rfl
  ·have hne:¬q.1=p.1:=fun z=>nd.1 (by rw [z];exact Qbh h)
   rw [Yx hne]
   exact xQ nd.2 p h
theorem Inv.freeze{pins:List (Addr × Obj)}{σ:St}{H:Hp}{s:Shared}{a:Addr}{kvs:List (Key × V)}{o:Obj}(I:Inv X pins σ H s)(e:Rd H a (.dK kvs))(ho:s.heap.get? a=some o):Inv X pins σ (upd H a (.frz o (.dK kvs))) s:=by
 rcases e with e | ⟨o',e⟩
 ·have ne:∀b u,H b=some u->u≠.dK kvs->b≠a:=fun b u hb hu z=>by
   rw [z,e] at hb
   exact hu (Option.some.inj hb).symm
  refine I.step (h':=s.heap) (g':=s.gens) (d':=s.drawn) (t':=s.toks) (ch:=[]) (fun _ z=>nomatch z) (fun b o _ _ _ q _=>q) (fun b o _ _ _ q _=>⟨o.slots,q⟩) (fun b o _ _ n=>?_) (fun b o _ q=>⟨o,q⟩)
   (fun b xs q=>by rw [Zj (ne b _ q (fun z=>nomatch z))];exact q) (fun b o u q=>by rw [Zj (ne b _ q (fun z=>nomatch z))];exact q) (fun b ps q=>⟨#[],by rw [Zj (ne b _ q (fun z=>nomatch z)),q];simp⟩) (fun m hm=>hm) (fun b u q=>?_) I.bare
  ·rw [Zj (fun z=>by rw [z,e] at n;cases n)]
   exact n
  ·have st:∀u,Yq X.prog X.w H s.heap b u->Yq X.prog X.w (upd H a (.frz o (.dK kvs))) s.heap b u:=fun u x =>
    x.stay (fun _ _ _ q=>q) (fun c q=>by rw [Zj (ne c _ q (fun z=>nomatch z))];exact q) fun c xs q=>by rw [Zj (ne c _ q (fun z=>nomatch z))];exact q
   by_cases hb:b=a
   ·subst hb
    rw [Za] at q
    cases q
    exact ⟨ho,st _ (I.hok b _ e)⟩
   ·rw [Zj hb] at q
    exact st u (I.hok b u q)
 ·have z:=I.hok a _ e
  obtain ⟨z1,_⟩:=z
  have:o=o':=Option.some.inj (ho.symm.trans z1)
  subst this
  have eq:upd H a (.frz o (.dK kvs))=H:=by
   funext b
   unfold upd
   split
   ·rename_i hb
    rw [hb,e]
   ·rfl
  rw [eq]
  exact I
noncomputable def Itd(a:Addr)(o:Obj)(kvs:List (Key × V)):It:=⟨fun i H=>i < kvs.length/\H a=some (.frz o (.dK kvs)),fun i H v H'=>H'=H/\∃p,kvs[i]?=some p/\v=kV p.1,fun i H=>i=kvs.length/\H a=some (.frz o (.dK kvs))⟩
theorem uM{P:Program}{w:World}{k:Key}{v:Value}(h:(ZK P w).is k v=true):RelV (kV k) v:=by
 rw [yR] at h
 cases k with
 | inl i =>
  cases v <;> first
   | (have e:=h;unfold GP Value.isInt at e;simp at e;exact ⟨_,by rw [e]⟩)
   | (unfold GP Value.isInt at h;simp at h)
 | inr x =>
  cases v <;> first
   | (have e:=h;unfold GP Value.isStrOf at e;simp at e;exact ⟨_,by rw [e]⟩)
   | (unfold GP Value.isStrOf at h;simp at h)
theorem wB{P:Program}{w:World}{K:PySem.W.Frag}{tg:Expr}(a it:Addr)(o:Obj)(kvs:List (Key × V))(ep:Nat)(hep:∃es,o.data=.dict es ep)(hne:a≠it):Turn P w K tg (Itd a o kvs) [it] it (fun i h=>h.IsKeyIter it a i kvs.length ep) where
 mem:=by simp
 obj:=fun i h st b hb=>by
  have e:b=it:=by simpa using hb
  subst e
  (refine Oe1a2 st fun o e c d=>?_;clear st)
  exact ⟨o,e,fun v z=>by rw [d] at z;cases z⟩
 keep:=fun i h h' st k=>st.at fun o e=>k it (by simp) o e
 item:=by
  intro X hP hw hK hc i pins s σ H E I hf st hg
  subst hP hw hK
  obtain ⟨hi,hH⟩:=hg
  refine Oe0a5 (hf it (by simp)) fun f0 f1 f2 f3 f4 f5=>?_
  (refine Oe0a3 ((show Yq X.prog X.w H s.heap a (.frz o (.dK kvs)) from I.hok a _ hH)) fun ho z nm zo27=>?_;refine Oe1a1 zo27 fun vs rel dd=>?_;clear zo27)
  refine Oe3a5 (id dd) fun o' es ep' ho' hex hda hk hp hn=>?_
  have eo:o'=o:=Option.some.inj (ho'.symm.trans ho)
  subst eo
  obtain ⟨es2,he2⟩:=hep
  rw [hda] at he2
  cases he2
  have dat:s.heap.DictAt (ZK X.prog X.w) a vs ep:=⟨o',es,ho,hex,hda,hk,hp,hn⟩
  have hl:=rel.length
  rw [hl] at st
  refine (Walks.dictKeys (knd:=ZK X.prog X.w) (prog:=X.prog) (w:=X.w) (I.ok.hd hc) it a hne vs ep).item i s _ _ (by lia) ⟨st,dat⟩ fun v h' tk hv st' kk=>?_
  (refine Oe2a1 hv fun k x hkx hkey=>?_;clear hv)
  have I1:Inv X pins σ H { s with heap:=h',toks:=tk }:=I.turned (fun b o hb e=>kk b o (by simpa using hb) e) f0 f1 f3 f4 f5
  obtain ⟨st1,_⟩:=st'
  refine Oe1a2 (id st1) fun oi e cc d=>?_
  have hik:(kvs.map (·.1))[i]?=some k:=by
   rw [rel.keys,Qap,hkx]
   rfl
  rw [Qap] at hik
  refine Oe1a1 (Qc6.mp hik) fun p hp1 hp2=>?_
  rw [<-hl] at st1
  exact ⟨_,rfl,kh (s:={ s with heap:=h',toks:=tk }) e cc d (by decide) ⟨kV k,H,I1,uM hkey,⟨rfl,p,hp1,by rw [hp2]⟩,st1,fun b hb=>(hf b hb).1⟩⟩
 done:=by
  intro X hP hw hK hc i pins s σ H E I hf st hg
  subst hP hw hK
  obtain ⟨hi,hH⟩:=hg
  refine Oe0a5 (hf it (by simp)) fun f0 f1 f2 f3 f4 f5=>?_
  (refine Oe0a3 ((show Yq X.prog X.w H s.heap a (.frz o (.dK kvs)) from I.hok a _ hH)) fun ho z nm zo28=>?_;refine Oe1a1 zo28 fun vs rel dd=>?_;clear zo28)
  refine Oe3a5 (id dd) fun o' es ep' ho' hex hda hk hp hn=>?_
  have eo:o'=o:=Option.some.inj (ho'.symm.trans ho)
  subst eo
  obtain ⟨es2,he2⟩:=hep
  rw [hda] at he2
  cases he2
  have dat:s.heap.DictAt (ZK X.prog X.w) a vs ep:=⟨o',es,ho,hex,hda,hk,hp,hn⟩
  have hl:=rel.length
  rw [hi,hl] at st
  exact (Walks.dictKeys (knd:=ZK X.prog X.w) (prog:=X.prog) (w:=X.w) (I.ok.hd hc) it a hne vs ep).done s _ _ ⟨st,dat⟩ fun h' tk kk=>⟨rfl,I.turned (t':=tk) (fun b o hb e=>kk b o (by simpa using hb) e) f0 f1 f3 f4 f5⟩
 self:=fun A i s Q E st h=>wpAny_pyIter_keyiter st h
inductive wC(R:It->Hp->Prop)(x:V)(H1:Hp):Prop
 | mk (a kvs):(x=.ref a)->(Rd H1 a (.dK kvs))->(∀o,R (Itd a o kvs) (upd H1 a (.frz o (.dK kvs))))->wC R x H1
noncomputable def Zfj(te:TE):TI:=fun σ H R=>te σ H fun x H1=>wC R x H1
theorem Zdo{tg e:Expr}{te:TE}(he:QE X e te):QI X tg e (Zfj te):=by
 refine ⟨fun pins s σ H R I h=>?_⟩
 refine thn (he.out pins s σ H _ I h) fun v s1 zq9=>?_;obtain ⟨y,H1,I1,r1,q1⟩:=zq9
 obtain ⟨a,kvs,rfl,e,q⟩:=q1
 cases r1
 (refine Oe0a2 (jy I1.hok e) fun z nm zo29=>?_;refine Oe1a1 zo29 fun vs rel dd=>?_;clear zo29)
 refine Oe3a5 (id dd) fun o es ep ho hex hda hk hp hn=>?_
 have I2:=I1.freeze e ho
 have hlt:a < s1.heap.objs.size:=Heap.lt_size ho
 have dat:s1.heap.DictAt (ZK X.prog X.w) a vs ep:=⟨o,es,ho,hex,hda,hk,hp,hn⟩
 refine wpAny_pyIter_dict nm dat ?_
 have st:(s1.heap.push { cls:=.type "dict_keyiterator",data:=.fields #[.ref a,.int 0 0,.int vs.length 0,.int ep 0] }).IsKeyIter s1.heap.objs.size a 0 kvs.length ep:=by
  rw [rel.length]
  exact ⟨_,Heap.get?_push_size _ rfl,rfl,rfl⟩
 refine ⟨s1.heap.objs.size,[s1.heap.objs.size],_,_,_,rfl,I2.kept (t':=s1.toks) fun b o e=>Heap.get?_push_of_some _ e,wB a _ o kvs ep ⟨es,hda⟩ (Qbm hlt),st,fun b hb=>?_,q o⟩
 have e:b=s1.heap.objs.size:=by simpa using hb
 subst e
 exact I2.fpOk (Qah _) (I2.hok.fresh (Qah _))
end
theorem uN{a:Addr}{o:Obj}{kvs:List (Key × V)}{g:TG}{tb:TS}{D:Ends}{σ:St}{H:Hp}(Pv:Nat->St->Hp->Prop)(h0:Pv 0 σ H)(hl:∀i σ H,i<=kvs.length->Pv i σ H->H a=some (.frz o (.dK kvs)))
  (hs:∀i p σ H,kvs[i]?=some p->Pv i σ H->g (kV p.1) σ H fun σ2 H2=>tb { D with nx:=Pv (i + 1),ct:=Pv (i + 1),bk:=D.nx } σ2 H2) (hd:∀σ H,Pv kvs.length σ H->D.nx σ H) :
  ∃W:Nat->Nat->St->Hp->Prop,(∃m,W 0 m σ H)/\∀i m σ H,W i m σ H ->
   ((Itd a o kvs).stop i H/\D.nx σ H)\/((Itd a o kvs).go i H/\∃N:St->Hp->Prop,(∀σ' H',N σ' H'->∃m',m' < m/\W (i + 1) m' σ' H')/\∀x H',(Itd a o kvs).yld i H x H'->g x σ H' fun σ2 H2=>tb { D with nx:=N,ct:=N,bk:=D.nx } σ2 H2):=by
 refine ⟨fun i m σ H=>m=kvs.length - i/\i<=kvs.length/\Pv i σ H,⟨kvs.length,by simp,Qbg _,h0⟩,?_⟩
 (intro i m σ H zq8;(refine Oe0a2 zq8 fun zo30 hi p=>?_;obtain rfl:=zo30;clear zq8))
 have hq:=hl i σ H hi p
 by_cases hlt:i < kvs.length
 ·refine .inr ⟨⟨hlt,hq⟩,Pv (i + 1),fun σ' H' p'=>⟨kvs.length - (i + 1),by lia,rfl,hlt,p'⟩,fun v H' y=>?_⟩
  obtain ⟨e,q,hq1,hq2⟩:=y
  subst e hq2
  exact hs i q σ _ hq1 p
 ·have e:i=kvs.length:=by lia
  exact .inl ⟨⟨e,hq⟩,by rw [e] at p;exact hd σ H p⟩
inductive KTab(P:Params):List DictEntry->List (Str × Int)->Prop
 | nil:KTab P [] []
 | cons {k:Str} {v:Int} {t u:Tok} {es:List DictEntry} {l:List (Str × Int)}:KTab P es l->KTab P ({ hash:=PyData.keyHash P k,key:=.str k t,val:=.int v u }::es) ((k,v)::l)
structure KD(K:PySem.W.Frag)(w:World)(a:Addr)(l:List (Str × Int)):Prop where
 ex:∃es ep,K.lookup a=some { cls:=.type "dict",dict:=none,data:=.dict es ep,slots:=#[] }/\KTab w.params es.toList l
 nd:(l.map (·.1)).Nodup
 ns:(a == sysModules)=false
noncomputable def kvsOf(l:List (Str × Int)):List (Key × V):=l.map fun p=>((Sum.inr p.1:Key),V.int p.2)
theorem KTab.pairs{P:Program}{w:World}{es:List DictEntry}{l:List (Str × Int)}(h:KTab w.params es l):(∃vs,KV (kvsOf l) vs/\Pairs (ZK P w) es vs)/\∀e∈es,∃k,(ZK P w).is k e.key=true/\e.hash=(ZK P w).hash k:=by
 induction h with
 | nil=>exact ⟨⟨[],.nil,.nil⟩,fun _ h=>nomatch h⟩
 | @cons k v t u es l _ ih =>
  obtain ⟨⟨vs,r,p⟩,q⟩:=ih
  refine ⟨⟨(.inr k,.int v u)::vs,.cons ⟨rfl,⟨u,rfl⟩⟩ r,.cons (Je P w k t) rfl p⟩,fun e he=>?_⟩
  rcases Qaj.mp he with rfl | he
  ·exact ⟨.inr k,Je P w k t,rfl⟩
  ·exact q e he
section
variable {X:Cx}{pins:List (Addr × Obj)}{σ:St}{H:Hp}{s:Shared}{a:Addr}{l:List (Str × Int)}{k:Key}{u:Value}{A:Around}{E:Value->Shared->Prop}
theorem KD.of(I:Inv X pins σ H s)(d:KD X.K X.w a l):∃vs,KV (kvsOf l) vs/\s.heap.DictOf (ZK X.prog X.w) a vs:=by
 refine Oe2a1 d.ex fun es ep hk t=>?_
 obtain ⟨⟨vs,r,p⟩,q⟩:=t.pairs (P:=X.prog)
 refine ⟨vs,r,_,es,ep,I.kIn a _ hk,⟨rfl,rfl,rfl⟩,rfl,fun e he=>q e (by simpa using he),p,?_⟩
 rw [<-r.keys]
 unfold kvsOf
 rw [Qbw]
 have:=d.nd
 rw [List.nodup_iff_pairwise_ne] at *
 rw [Qed] at *
 exact this.imp fun h z=>h (Sum.inr.inj z)
theorem Zdp{z:V}{r:Value}{Q:Value->Shared->Prop}(I:Inv X pins σ H s)(d:KD X.K X.w a l)(ry:RelV (kV k) u)(rz:RelV z r)(h:∀w' s',Inv X pins σ H s'->RelV ((YH (kvsOf l) k).getD z) w'->Q w' s') :
  wpAny (model X.prog X.w) A (call (.builtin "dict.get") [.ref a,u,r]) Q E s:=by
 refine Oe1a1 (d.of I) fun vs rel dd=>?_
 exact call_meetsIn PySem.F.slot_dict_get dd.typeIs PySem.F.entry_dict_get (PySem.F.args_dict_get_3 _ _ _) (meets_dict_get_default (ZK X.prog X.w) a (jx ry) d.ns r) ⟨_,dd.mapOf,h _ _ (I.tok _) ((rel.val k).getD rz)⟩
end
section
variable {X:Cx}
noncomputable def tKGet(K:PySem.W.Frag)(w:World)(td ty tx:TE):TE:=fun σ H Q=>td σ H fun x H1=>∃a l,x=.ref a/\KD K w a l/\ty σ H1 fun y H2=>tx σ H2 fun z H3=>∃k,y=kV k/\Q ((YH (kvsOf l) k).getD z) H3
theorem m2_of{o e f:Expr}{m:Str}{apos cpos:Pos}(he:Ys e=true)(hf:Ys f=true)(hb:attributeBase o m X.env (eval o X.env)=eval o X.env)(hl:(apos.endLine == cpos.line)=true):M2 X o m apos e f cpos where
 base:=hb
 few:=by
  rw [all_plain (by rw [Qcl,he,Qcl,hf];rfl)]
  rfl
 line:=hl
 trees:=by
  rw [Zy he,Zy hf]
  rfl
theorem j5 {o e f:Expr} {apos cpos:Pos} {td ty tx:TE} (ho:QE X o td) (he:QE X e ty) (hf:QE X f tx) (h1:Ys e=true:=by rfl) (h2:Ys f=true:=by rfl) (hb:attributeBase o "get" X.env (eval o X.env)=eval o X.env:=by rfl) (hl:(apos.endLine == cpos.line)=true:=by rfl) :
  QE X (.Call (.Attribute o "get" apos) [e,f] [] cpos) (tKGet X.K X.w td ty tx):=by
 have m:=m2_of (X:=X) (m := "get") (o:=o) h1 h2 hb hl
 refine ⟨fun pins s σ H Q I h=>?_⟩
 refine wpAny_Call_method m.base m.few m.line PySem.F.plainAttrs_dict PySem.F.slot_dict_get PySem.F.type_dict_get (thn (ho.out pins s σ H _ I h) fun u s1 zq9=>?_);obtain ⟨x,H1,I1,rx,a,l,ex,d,q1⟩:=zq9
 subst ex
 obtain rfl:u=Value.ref a:=rx
 refine Oe1a1 (d.of I1) fun vs rel dd=>?_
 refine ⟨dd.typeIs,fun b q=>?_,?_⟩
 ·cases q
  (refine Oe3a2 dd fun ob _ _ g1 g2 _=>?_;clear dd)
  exact ⟨ob,g1,g2.2.1⟩
 rw [m.trees]
 refine Calls.callWith_builtin rfl (Calls.evalArgs_plain (Calls.spliced_cons (thn (he.out pins s1 σ H1 _ I1 q1) fun iv s2 ⟨y,H2,I2,ry,q2⟩=>Calls.spliced_cons (thn (hf.out pins s2 σ H2 _ I2 q2) fun fv s3 zq9=>Calls.spliced_nil ?_))));obtain ⟨z,H3,I3,rz,k,ey,q3⟩:=zq9
 subst ey
 exact Zdp I3 d ry rz fun w' s4 I4 rw'=>⟨_,H3,I4,rw',q3⟩
end
noncomputable def eqvs:List V->List V->Bool
 | [],[]=>true
 | x::xs,y::ys=>eqV x y && eqvs xs ys
 | _,_=>false
section
variable {X:Cx}
end
section
variable {prog:Program}{w:World}{A:Around}{E:Value->Shared->Prop}{s:Shared}
end
section
variable {prog:Program}{w:World}{A:Around}{R:Result->Shared->Prop}{I:Addr}{fp wr:List Addr}{G:Array GenState->Array GenState->Prop}{n:Nat}{P:Nat->Value->Prop}{St:Nat->Shared->Prop}
end
section
variable {prog:Program}{w:World}{A:Around}{E:Value->Shared->Prop}{s:Shared}
end
section
variable {prog:Program}{w:World}{A:Around}{E:Value->Shared->Prop}{s:Shared}
end
section
variable {prog:Program}{w:World}{A:Around}{E:Value->Shared->Prop}{s:Shared}
end
section
variable {prog:Program}{w:World}{A:Around}{E:Value->Shared->Prop}{s:Shared}
end
section
variable {prog:Program}{w:World}{A:Around}{E:Value->Shared->Prop}{s:Shared}
end
section
variable {prog:Program}{w:World}{A:Around}{E:Value->Shared->Prop}{s:Shared}
end
section
variable {prog:Program}{w:World}{A:Around}{E:Value->Shared->Prop}{s:Shared}
end
section
variable {X:Cx}
end
section
variable {prog:Program}{w:World}{A:Around}{E:Value->Shared->Prop}{s:Shared}
end
section
variable {X:Cx}
end
section
variable {X:Cx}
end
noncomputable abbrev Jn(o:Obj):HO:=.frz o (.ext fun _=>True)
theorem GZ{P:Program}{w:World}{H:Hp}{h:Heap}{a:Addr}{o:Obj}(e:h.get? a=some o):Yq P w H h a (Jn o):=⟨e,trivial,⟨o,e⟩,fun _ _ _ _=>trivial⟩
noncomputable def hide(cs:List Addr)(H:Hp):Hp:=fun b=>if b∈cs then none else H b
noncomputable def Jw(cs:List Addr)(H H':Hp):Hp:=fun b=>if b∈cs then H b else H' b
theorem XO{cs:List Addr}{H:Hp}{b:Addr}(h:b∈cs):hide cs H b=none:=Qan h
theorem ZQ{cs:List Addr}{H:Hp}{b:Addr}(h:b∉cs):hide cs H b=H b:=Qal h
theorem Jx{cs:List Addr}{H H':Hp}{b:Addr}(h:b∈cs):Jw cs H H' b=H b:=Qan h
theorem Y0{cs:List Addr}{H H':Hp}{b:Addr}(h:b∉cs):Jw cs H H' b=H' b:=Qal h
theorem of_hide{cs:List Addr}{H:Hp}{b:Addr}{o:HO}(h:hide cs H b=some o):b∉cs/\H b=some o:=by
 by_cases m:b∈cs
 ·rw [XO m] at h;cases h
 ·rw [ZQ m] at h;exact ⟨m,h⟩
noncomputable def JM(H H1:Hp):Prop:=∀b o u,H b=some (.frz o u)->H1 b=some (.frz o u)
theorem JM.refl(H:Hp):JM H H:=fun _ _ _ h=>h
theorem JM.trans{H H1 H2:Hp}(a:JM H H1)(b:JM H1 H2):JM H H2:=fun c o u h=>b c o u (a c o u h)
theorem ZT.frz{H H1:Hp}(a:ZT H H1):JM H H1:=fun b o u h=>a b _ h
noncomputable def X9(P:Program)(w:World)(K:PySem.W.Frag)(mg:Str->Option Value)(base:Heap)(k:Nat)(f:Addr)(H:Hp)(τ:Sp):Prop :=
 (∃o fd,H f=some (Jn o)/\o.data=.func fd) /\
 ∀(A:Around) (outer:List Env) (s:Shared) (H1:Hp) (us:List Value) (vs:List V) (Q:VK) (E:XK),JM H H1->Jf k A->uw P w K mg base A outer s H1->Vals vs us->τ vs H1 Q E ->
  codeAny (model P w) A (.call (.ref f) ⟨us,[]⟩) (CR CX0 outer P w H1 s Q E) s
theorem X9.frz{P:Program}{w:World}{K:PySem.W.Frag}{mg:Str->Option Value}{base:Heap}{k:Nat}{f:Addr}{H H1:Hp}{τ:Sp}(c:X9 P w K mg base k f H τ)(h:JM H H1):X9 P w K mg base k f H1 τ :=
 ⟨let ⟨o,fd,e,d⟩:=c.1;⟨o,fd,h _ _ _ e,d⟩,fun A outer s H2 us vs Q E fz=>c.2 A outer s H2 us vs Q E (h.trans fz)⟩
section
variable {P:Program}{w:World}{H H':Hp}{h h':Heap}{cs:List Addr}
theorem wD(x:HOk P w H h)(hcs:∀c∈cs,∃o,H c=some (Jn o)):HOk P w (hide cs H) h:=fun a o e=>by
 obtain ⟨_,e'⟩:=of_hide e
 refine (x a o e').stay (fun _ _ _ q=>q) (fun d q=>?_) fun d xs q=>?_
 ·by_cases m:d∈cs
  ·obtain ⟨ob,z⟩:=hcs d m
   rw [q] at z;cases z
  ·rw [ZQ m];exact q
 ·by_cases m:d∈cs
  ·obtain ⟨ob,z⟩:=hcs d m
   rw [q] at z;cases z
  ·rw [ZQ m];exact q
theorem wF(x:HOk P w H' h')(hn:∀c∈cs,H' c=none)(hcs:∀c∈cs,∃o,H c=some (Jn o)/\h'.get? c=some o):HOk P w (Jw cs H H') h':=fun a o e=>by
 by_cases m:a∈cs
 ·rw [Jx m] at e
  refine Oe1a1 (hcs a m) fun ob z g=>?_
  rw [z] at e;cases e
  exact GZ g
 ·rw [Y0 m] at e
  refine (x a o e).stay (fun _ _ _ q=>q) (fun d q=>?_) fun d xs q=>?_
  ·by_cases m:d∈cs
   ·rw [hn d m] at q;cases q
   ·rw [Y0 m];exact q
  ·by_cases m:d∈cs
   ·rw [hn d m] at q;cases q
   ·rw [Y0 m];exact q
end
theorem vj{ps:List Str}{us:List Value}(nd:ps.Nodup){i:Nat}{x:Str}{u:Value}(h1:ps[i]?=some x)(h2:us[i]?=some u)(hl:ps.length=us.length):(ps.zip us).reverse.lookup x=some u:=by
 have hm:(x,u)∈ps.zip us:=by
  obtain ⟨a1,e1⟩:=Qae.mp h1
  obtain ⟨a2,e2⟩:=Qae.mp h2
  rw [<-e1,<-e2,<-Qeh (h:=by rw [Qei];lia)]
  exact Qc4 _
 have ndz:((ps.zip us).map (·.1)).Nodup:=by
  rw [List.map_fst_zip (by lia)]
  exact nd
 have ndr:((ps.zip us).reverse.map (·.1)).Nodup:=by
  rw [List.map_reverse]
  unfold List.Nodup at ndz ⊢
  rw [List.pairwise_reverse]
  exact ndz.imp fun h=>h.symm
 have hr:(x,u)∈(ps.zip us).reverse:=List.mem_reverse.mpr hm
 generalize (ps.zip us).reverse=l at ndr hr
 induction l with
 | nil=>cases hr
 | cons p r ih =>
  obtain ⟨n,v⟩:=p
  rw [Qa9]
  rcases Qaj.mp hr with e | hr'
  ·injection e with e1 e2
   subst e1;subst e2
   simp
  ·have hne:x≠n:=fun e=>by
    rw [Qa4,Qbu] at ndr
    exact ndr.1 (by rw [<-e];exact Qbh (f:=(·.1)) hr')
   have:(x == n)=false:=by simpa using hne
   rw [this]
   rw [Qa4,Qbu] at ndr
   exact ih ndr.2 hr'
section
variable {P:Program}{w:World}{K:PySem.W.Frag}{mg:Str->Option Value}{base:Heap}
end
noncomputable def yn(oc:Obj)(qual:Str):Prop:=∃vs t,oc.data=.fields vs/\vs[1]?=some (.str qual t)
noncomputable def YN(H:Hp)(P:Addr)(pos:Pos)(qual:Str):Prop :=
 H P=some (.tbl #[])\/∃c' oc,H P=some (.tbl #[rawInt pos.line,rawInt pos.col,.ref c'])/\H c'=some (Jn oc)/\yn oc qual
theorem YN.ex{H:Hp}{P:Addr}{pos:Pos}{qual:Str}(h:YN H P pos qual):∃ps,H P=some (.tbl ps):=by
 rcases h with h | ⟨_,_,h,_⟩ <;> exact ⟨_,h⟩
structure xR(mg:Str->Option Value)(base:Heap):Prop where
 ex:∃bm ob,mg "__builtins__" = some (.ref bm)/\bm≠builtinsNs/\base.get? bm=some ob/\ob.cls=.type "module" /\ ob.dict=some builtinsNs/\ob.data=.plain
theorem uO{X:Cx}{pins:List (Addr × Obj)}{σ:St}{H:Hp}{s:Shared}{P c':Addr}{lpos:Pos}{oc fo:Obj}{h':Heap}{tk:Nat}(I:Inv X pins σ H s)(hT:H P=some (.tbl #[]))(hx:Heap.ExtBut P s.heap h')(hge:s.heap.objs.size<=c')(hlt:c' < h'.objs.size)(hoc:h'.get? c'=some oc)
  (htb:h'.get? P=some (PySem.W.tabObj #[rawInt lpos.line,rawInt lpos.col,.ref c'])) (hfo:fo.isFreed=false:=by rfl):Inv X pins σ (upd (upd (upd H P (.tbl #[rawInt lpos.line,rawInt lpos.col,.ref c'])) c' (Jn oc)) h'.objs.size (Jn fo)) { s with heap:=h'.push fo,toks:=tk }:=by
 have cn:H c'=none:=I.hok.fresh hge
 have cP:c'≠P:=fun e=>by rw [e,hT] at cn;cases cn
 have hsz:s.heap.objs.size<=h'.objs.size:=Qbe hge (Qau hlt)
 have lo:∀{b:Addr} {o:Obj},s.heap.get? b=some o->b≠c':=fun e z=>absurd (Heap.lt_size e) (by rw [z];exact Qeo.mpr hge)
 have I1:Inv X pins σ (upd (upd H P (.tbl #[rawInt lpos.line,rawInt lpos.col,.ref c'])) c' (Jn oc)) { s with heap:=h',toks:=tk }:=by
  refine I.un ⟨fun b o e n _ _=>hx b o (fun z=>by rw [z,hT] at n;cases n) e,fun b o e n _ _=>⟨o.slots,hx b o (fun z=>by rw [z,hT] at n;cases n) e⟩,fun b o e n _=>?_,fun b o e _=>?_,fun b xs e=>?_,fun b o u e=>?_,fun b pz e=>?_⟩ fun b u e=>?_
  ·rw [Zj (lo e),Zj (fun z=>by rw [z,hT] at n;cases n)];exact n
  ·by_cases hbP:b=P
   ·rw [hbP];exact ⟨_,htb⟩
   ·exact ⟨o,hx b o hbP e⟩
  ·rw [Zj (Zo e cn),Zj (YC e hT (fun z=>nomatch z))];exact e
  ·rw [Zj (Zo e cn),Zj (YC e hT (fun z=>nomatch z))];exact e
  ·by_cases hbP:b=P
   ·subst hbP
    rw [hT] at e
    cases e
    exact ⟨#[rawInt lpos.line,rawInt lpos.col,.ref c'],by rw [Zj cP.symm,Za];rfl⟩
   ·exact ⟨#[],by rw [Zj (Zo e cn),Zj hbP,e];simp⟩
  ·by_cases hbc:b=c'
   ·subst hbc
    rw [Za] at e;cases e
    exact GZ hoc
   ·rw [Zj hbc] at e
    by_cases hbP:b=P
    ·subst hbP
     rw [Za] at e;cases e
     exact htb
    ·rw [Zj hbP] at e
     refine (I.hok b u e).stay (fun d v hd q=>hx d v ?_ q) (fun d q=>?_) fun d xs q=>?_
     ·rcases hd with z | z
      ·rw [z];exact hbP
      ·exact YC z hT (fun z=>nomatch z)
     ·rw [Zj (Zo q cn),Zj (YC q hT (fun z=>nomatch z))];exact q
     ·rw [Zj (Zo q cn),Zj (YC q hT (fun z=>nomatch z))];exact q
 exact I1.laid (h':=h'.push fo) (t':=tk) (a:=h'.objs.size) (o:=Jn fo) (fun b u e=>Heap.get?_push_of_some _ e) (Qah _) (GZ (Heap.get?_push_size _ hfo))
section
variable {X:Cx}{params:Arguments}{body:Expr}{scope:Scope}{lpos:Pos}{c P:Addr}{qual:Str}
end
noncomputable def cellsOf(cells:List (Str × Addr)):List Addr:=(cells.map (·.1)).filterMap fun x=>cells.lookup x
theorem X4{cells:List (Str × Addr)}{c:Addr}:c∈cellsOf cells↔∃x,cells.lookup x=some c:=by
 unfold cellsOf
 rw [Qea]
 constructor
 ·(intro zq8;(refine Oe1a1 zq8 fun x _ h=>?_;clear zq8))
  exact ⟨x,h⟩
 ·rintro ⟨x,h⟩
  exact ⟨x,Qbb.mpr ⟨(x,c),Qbr h,rfl⟩,h⟩
section
variable {X:Cx}{params:Arguments}{body a:Expr}{scope:Scope}{lpos p pos:Pos}{c P g:Addr}{qual x:Str}{k kl:Nat}{gd:FuncData}{pg ps ys:List Str}{is:List Nat}{sp:Sp}{ta te:TE}
theorem zC{cs:List Addr}{H2 H1:Hp}{b:Addr}{u:HO}(hcs:∀c∈cs,∃o,H2 c=some (Jn o))(s:ZT H2 H1)(h:H1 b=some u)(hu:∀o,u≠Jn o):hide cs H1 b=some u:=by
 rw [ZQ fun m=>?_]
 ·exact h
 ·obtain ⟨o,e⟩:=hcs b m
  rw [s _ _ e] at h
  exact hu o (Option.some.inj h).symm
theorem YN.same{H H':Hp}{P:Addr}{pos:Pos}{qual:Str}(h:YN H P pos qual)(s:ZT H H'):YN H' P pos qual:=by
 rcases h with h | ⟨c,oc,h1,h2,h3⟩
 ·exact .inl (s _ _ h)
 ·exact .inr ⟨c,oc,s _ _ h1,s _ _ h2,h3⟩
noncomputable def tCallV(Pg:Program)(w:World)(K:PySem.W.Frag)(mg:Str->Option Value)(base:Heap)(k:Nat)(i:Nat)(t:TA):TE:=fun σ H Q=>∃(f:Addr) (τ:Sp),σ[i]?=some (some (.ref f))/\X9 Pg w K mg base k f H τ /\
 t σ H fun vs H1=>JM H H1/\τ vs H1 Q E0
theorem wG{P:Program}{w:World}{K:PySem.W.Frag}{mg:Str->Option Value}{base:Heap}{k:Nat}{f:Addr}{H H1:Hp}{τ:Sp}{h:Heap}(c:X9 P w K mg base k f H τ)(fz:JM H H1)(hok:HOk P w H1 h):PySem.W.FnAt f h:=by
 refine Oe2a1 c.1 fun o fd e d=>?_
 have g:=(hok f _ (fz _ _ _ e)).1
 obtain ⟨oc,od,dt,sl⟩:=o
 cases d
 exact ⟨oc,od,fd,sl,g⟩
theorem uP(i:Nat){e:Expr}{es:List Expr}{t:TA}(hr:Jf k X.A)(ha:QA X (e::es) t)(hN:X.N[i]?=some x:=by rfl)(hv:Vis X.env.scope x:=by first | exact Or.inl rfl | exact Or.inr (Or.inl rfl) | exact Or.inr (Or.inr rfl))
  (hdb:(x == ("__debug__" : Str))=false:=by decide) (hcd:(x == ("__classdict__" : Str))=false:=by decide) (he:starEach (e::es) X.env=(false,eval e X.env)::starEach es X.env:=by rfl) (hpl:(backTo pos (starEach es X.env)).any (·.1)=false:=by rfl) :
  QE X (.Call (.Name x p) (e::es) [] pos) (tCallV X.prog X.w X.K X.mg X.base k i t):=by
 refine ⟨?_⟩
 intro pins s σ H Q I hw
 (refine Oe2a2 hw fun f τ hσ hc ht=>?_;clear hw)
 refine wpAny_Call_Name_kw (thn (Za5 hN hv hdb hcd pins s σ H (fun v H'=>v=.ref f/\H'=H) I ⟨.ref f,hσ,rfl,rfl⟩) fun u s1 zq9=>?_);obtain ⟨v,H',I1,r,hv',hH⟩:=zq9
 subst hv'
 subst hH
 cases r
 refine PySem.W.callWith_F (wG hc (JM.refl _) I1.hok) (thn (ha.out pos pins s1 σ H' _ I1 ht) fun us s2 ⟨vs,H1,I2,rv,fz,hτ⟩=>⟨wG hc fz I2.hok,?_⟩) he hpl
 refine wpAny_call (codeAny_mono (hc.2 X.A X.stack s2 H1 us vs Q E0 fz hr I2.env0 rv hτ) fun r s' hq=>?_)
 cases r with
 | error e=>exact hq.elim
 | ok fl =>
  cases fl with
  | ret u=>exact I2.after hq
  | next=>exact False.elim hq
  | brk=>exact False.elim hq
  | cont=>exact False.elim hq
end
theorem wH{P:Program}{w:World}{K:PySem.W.Frag}{mg mb:Str->Option Value}{CX:CXT}{k:Nat}{fa a:Addr}{fd:FuncData}{x:Str}{sp:Sp}{s₁:Shared}{vs:List Value}{ns:List Int}{tabs:List (Addr × Addr)}
  (KX:K.In s₁.heap) (hns:s₁.heap.Ns mainGlobals mg) (hb:s₁.heap.Ns builtinsNs mb) (hbb:∀x:Str,x ≠ "__name__" -> mb x=bootBuiltins x) (hlim:s₁.heap.NoLimit) (hg:s₁.gens=#[])
  (ha:s₁.heap.get? a=some { cls:=.type "list",data:=.seq vs.toArray }) (hi:IntsAre vs ns) (hl:ns.length<=sizeLine) (hr:Jf k callerA)
  (hT:PySem.W.TabsAt tabs s₁.heap) (hKt:PySem.W.noTabs K=true) (hbm:xR mg s₁.heap)
  (F:∀base:Heap,K.In base->base.Ns mainGlobals mg->(∀q∈tabs,PySem.W.CodeHd base q.1 q.2)->xR mg base->ZO P w K mg base CX k fa fd [x] sp) (hbind:∀(s:Shared) (u:Value),BindsTo s fd ⟨[u],[]⟩ [(x,u)])
  (hsp:∀H:Hp,(∀q∈tabs,H q.2=some (.tbl #[]))->SqL K H a (ns.map V.int)->sp [.ref a] H (fun v _=>v=.bl true) fun _ _ _=>False)
  (hCX:∀H e s',CX [] H s₁ (fun _ _ _=>False) e s'->False) :
  codeAny (model P w) callerA (.call (.ref fa) ⟨[.ref a],[]⟩) (fun r s'=>r=.ok (.ret (.bool true))/\OldK s₁.heap s'.heap/\s'.os=s₁.os/\AllBare s'.gens) s₁:=by
 have rv:=zw hi
 have lenV:=hi.length
 have tabGet:∀b,b∈tabs.map (·.2)->s₁.heap.get? b=some (PySem.W.tabObj #[]):=fun b m=>by
  (refine Oe1a1 (Qbb.mp m) fun q hq zo31=>?_;obtain rfl:=zo31)
  exact (hT q hq).2
 have aT:a∉tabs.map (·.2):=fun m=>by
  have e:=tabGet a m
  rw [ha] at e
  cases e
 have core:∀H:Hp,(∀q∈tabs,H q.2=some (.tbl #[]))->(∀b,H b=none\/(b=a/\∃o xs,H b=some (.frz o (.lst xs)))\/(b∈tabs.map (·.2)/\H b=some (.tbl #[])))->SqL K H a (ns.map V.int)->HOk P w H s₁.heap->(H a≠none->K.lookup a=none) ->
   codeAny (model P w) callerA (.call (.ref fa) ⟨[.ref a],[]⟩) (fun r s'=>r=.ok (.ret (.bool true))/\OldK s₁.heap s'.heap/\s'.os=s₁.os/\AllBare s'.gens) s₁:=by
  intro H hTb hO hS hok hK
  have base_of:∀{b:Addr} {o:Obj},s₁.heap.get? b=some o->H b=none->(vV s₁.heap H).get? b=some o:=fun e n=>uo e n
  have noA:∀{b:Addr} {o:Obj},s₁.heap.get? b=some o->(∀its n,o.data≠.seq its n)->o.cls≠.none->H b=none:=fun {b o} e d1 d2=>by
   rcases hO b with z | ⟨rfl,_⟩ | ⟨m,_⟩
   ·exact z
   ·rw [ha] at e;cases e
    exact absurd rfl (d1 _ _)
   ·rw [tabGet b m] at e;cases e
    exact absurd rfl d2
  have nsK:∀{b:Addr} {m:Str->Option Value},s₁.heap.Ns b m->(vV s₁.heap H).Ns b m:=fun {b m} ⟨o,es,ep,e,d,r⟩=>⟨o,es,ep,base_of e (by
   rcases hO b with z | ⟨rfl,_⟩ | ⟨m,_⟩
   ·exact z
   ·rw [ha] at e;cases e
    have d':Data.seq vs.toArray _=Data.dict es ep:=d
    cases d'
   ·rw [tabGet b m] at e;cases e
    have d':Data.fields #[]=Data.dict es ep:=d
    cases d'),d,r⟩
  have hKb:K.In (vV s₁.heap H):=fun b o e=>base_of (KX b o e) (by
   rcases hO b with z | ⟨rfl,ob,xs,z⟩ | ⟨m,_⟩
   ·exact z
   ·rw [hK (by rw [z];simp)] at e;cases e
   ·have g:=KX b o e
    rw [tabGet b m] at g
    cases g
    have h2:=Qdz.mp hKt (b,_) (PySem.W.mem_of_lookupK e)
    exact absurd (show false=true from h2) Qam)
  have hM:Mod K mg (vV s₁.heap H):=⟨hKb,nsK hns,⟨mb,nsK hb,hbb⟩,let ⟨mc,h1,h2⟩:=hlim;⟨mc,nsK h1,h2⟩⟩
  have hB:xR mg (vV s₁.heap H):=by
   refine Oe2a5 hbm.ex fun bm ob b1 b2 b3 b4 b5 b6=>?_
   exact ⟨bm,ob,b1,b2,base_of b3 (noA b3 (fun its n z=>by rw [b6] at z;cases z) (fun z=>by rw [b4] at z;cases z)),b4,b5,b6⟩
  have hC:∀q∈tabs,PySem.W.CodeHd (vV s₁.heap H) q.1 q.2:=fun q hq=>by
   refine Oe9a3 ((hT q hq).1) fun o vs' file tf flags tg inF text tt e1 r1 r2 r3=>?_
   exact ⟨o,vs',file,tf,flags,tg,inF,text,tt,base_of e1 (noA e1 (fun its n z=>by rw [r2] at z;cases z) (fun z=>by rw [r1] at z;cases z)),r1,r2,r3⟩
  have e0:uw P w K mg (vV s₁.heap H) callerA [] s₁ H:=⟨rfl,hM,fun b o e=>Zcj e,Nat.le_of_eq (vW _ _),trivial,fun b hb=>absurd (show b∈([]:List Addr) from hb) (by simp),hok,.of_eq hg⟩
  refine codeAny_mono ((F _ hKb (nsK hns) hC hB).run callerA [] s₁ H ⟨[.ref a],[]⟩ [.ref a] [.ref a] _ _ hr e0 (hbind s₁ (.ref a)) (.cons rfl .nil) (hsp H hTb hS)) fun r s' h=>?_
  cases r with
  | error e=>exact (hCX H e s' h).elim
  | ok fl =>
   cases fl with
   | next=>exact False.elim h
   | brk=>exact False.elim h
   | cont=>exact False.elim h
   | ret u =>
    (refine Oe2a5 h fun v H' os bare un hok' r' q=>?_;clear h)
    have q':v=.bl true:=q
    subst q'
    obtain rfl:u=Value.bool true:=r'
    have all:∀b o,s₁.heap.get? b=some o->s'.heap.get? b=some o\/∃more,b∈tabs.map (·.2)/\o=PySem.W.tabObj #[]/\s'.heap.get? b=some (PySem.W.tabObj (#[]++more)):=fun b o e=>by
     rcases hO b with z | ⟨_,ob,xs,z⟩ | ⟨m,z⟩
     ·exact .inl (un.keep b o e z (by intro z;exact absurd (show b∈([]:List Addr) from z) (by simp)) (by simp))
     ·have z2:=un.frzs b ob _ z
      obtain ⟨e1,_⟩:=hok b _ z
      obtain ⟨e2,_⟩:=hok' b _ z2
      rw [e] at e1;cases e1
      exact .inl e2
     ·obtain ⟨more,z2⟩:=un.tbls b _ z
      rw [tabGet b m] at e
      cases e
      exact .inr ⟨more,m,rfl,hok' b _ z2⟩
    refine ⟨rfl,⟨fun b o e=>?_,fun b o e=>?_⟩,os,bare⟩
    ·rcases all b o e with z | ⟨more,m,rfl,z⟩
     ·exact .inl z
     ·(refine Oe1a1 (Qbb.mp m) fun q hq zo32=>?_;obtain rfl:=zo32)
      exact .inr (.inl ⟨((hT q hq).1.tab (hT q hq).2).isCodeTable,rfl,#[],more,rfl,z⟩)
    ·rcases all b o e with z | ⟨more,_,_,z⟩
     ·exact ⟨_,z⟩
     ·exact ⟨_,z⟩
 have tm:∀q∈tabs,q.2∈tabs.map (·.2):=fun q hq=>Qbh hq
 cases hk:K.lookup a with
 | some o =>
  have e:=KX a o hk
  rw [ha] at e
  cases e
  refine core (fun b=>if b∈tabs.map (·.2) then some (.tbl #[]) else none) (fun q hq=>Qan (tm q hq)) (fun b=>?_) (.inr ⟨_,vs.toArray,_,hk,rfl,rfl,rfl,by rw [Qay,lenV];exact hl,by simpa using rv⟩) (fun b u z=>?_) (fun z=>absurd (Qal aT) z)
  ·by_cases m:b∈tabs.map (·.2)
   ·exact .inr (.inr ⟨m,Qan m⟩)
   ·exact .inl (Qal m)
  ·by_cases m:b∈tabs.map (·.2)
   ·have z':=(Qan m).symm.trans z
    cases z'
    exact tabGet b m
   ·have z':=(Qal m).symm.trans z
    cases z'
 | none =>
  refine core (fun b=>if b∈tabs.map (·.2) then some (.tbl #[]) else if b=a then some (.frz { cls:=.type "list",data:=.seq vs.toArray } (.lst (ns.map V.int))) else none) (fun q hq=>Qan (tm q hq)) (fun b=>?_) (.inl (.inr ⟨{ cls:=.type "list",data:=.seq vs.toArray },(Qal aT).trans (Qan rfl)⟩)) (fun b u z=>?_) fun _=>hk
  ·by_cases m:b∈tabs.map (·.2)
   ·exact .inr (.inr ⟨m,Qan m⟩)
   ·by_cases hb:b=a
    ·exact .inr (.inl ⟨hb,_,_,(Qal m).trans (Qan hb)⟩)
    ·exact .inl ((Qal m).trans (Qal hb))
  ·by_cases m:b∈tabs.map (·.2)
   ·have z':=(Qan m).symm.trans z
    cases z'
    exact tabGet b m
   ·by_cases hb:b=a
    ·have z':=((Qal m).trans (Qan hb)).symm.trans z
     cases z'
     subst hb
     exact ⟨ha,by rw [Qaa];exact hl,vs,_,rv,ha⟩
    ·have z':=((Qal m).trans (Qal hb)).symm.trans z
     cases z'
theorem walk_ofT{l:PySem.W.OpenLaw}{n k:Nat}{q:Program}{loose:List Str}{XP:(Str->Option Value)->Heap->Prop}{YP:World->Heap->Prop}{d:DefRec}{K:Params->PySem.W.Frag}{CX:World->CXT}{sp:World->Sp}{x:Str}{tabs:List (Addr × Addr)}
  (hn:l.most=some n) (hn2:n<=sizeLine) (hdf:d.params.defaults=[]) (hr:Jf k callerA)
  (hY:∀(w:World) (h:Heap),YP w h->(K w.params).In h)
  (hTab:∀(w:World) (mean:ExcName->Option Value) (mg mb:Str->Option Value) (h:Heap),Top q (PySem.W.looseW q loose) mean mg mb h->(K w.params).In h->PySem.W.TabsAt tabs h) (hKt:∀w:World,PySem.W.noTabs (K w.params)=true)
  (F:∀(w:World) (mg:Str->Option Value) (fa:Addr) (h:Heap),(K w.params).In h->h.Ns mainGlobals mg->mg d.name=some (.ref fa) ->
   ∃fd:FuncData,(∀(s:Shared) (u:Value),BindsTo s fd ⟨[u],[]⟩ [(x,u)]) /\
    ∀base:Heap,(K w.params).In base->base.Ns mainGlobals mg->(∀q∈tabs,PySem.W.CodeHd base q.1 q.2)->xR mg base->ZO l.prog w (K w.params) mg base (CX w) k fa fd [x] (sp w))
  (hsp:∀(w:World) (H:Hp) (a:Addr) (ns:List Int),ns.length<=n->(∀q∈tabs,H q.2=some (.tbl #[]))->SqL (K w.params) H a (ns.map V.int)->sp w [.ref a] H (fun v _=>v=.bl true) fun _ _ _=>False)
  (hCX:∀(w:World) (H:Hp) (s:Shared) (e:Value) (s':Shared),CX w [] H s (fun _ _ _=>False) e s'->False) :
  PySem.W.WalkO q loose XP YP l.row.toRowW d [] (fun f vs=>PySem.call f vs):=by
 refine Att.attach_call hn hdf fun w s₀ s₁ mg mb fa o pm cd doc a vs ns G Y ho hd hcd hmg hobj hints hlen hg=>?_
 have KX:=hY w _ Y
 refine Oe1a1 (F w mg fa _ KX G.T.g hmg) fun fd hb hF=>?_
 exact wH KX G.T.g G.T.b G.T.builtins G.T.nolimit hg hobj hints (Qbe hlen hn2) hr (hTab w _ mg mb _ G.T KX) (hKt w) ⟨G.T.bmain⟩ hF hb (fun H hTb hS=>hsp w H a ns hlen hTb hS) fun H e s'=>hCX w H s₁ e s'
theorem Fun.okC{P:Program}{w:World}{K:PySem.W.Frag}{mg:Str->Option Value}{base:Heap}{x qual:Str}{st:Stmt}{f:Addr}{fd:FuncData}{N ps:List Str}{k:Nat}{sp:Sp}(F:Fun K x qual st f fd)(S:Z4 N ps (Zg st))(len:∀vs H Q E,sp vs H Q E->vs.length=ps.length)
  (hbody:∀(A:Around) (outer:List Env) (s:Shared) (H:Hp) (vs:List V) (Q:VK) (E:XK),Jf k (A.deeper (envOfC qual (Zg st) s.heap.objs.size f fd.code))->sp vs H Q E ->
   ∃t,PSs (ux CX0 P w K mg base N qual (Zg st) f fd.code A outer s H E).nox (Zz st) t/\t { nx:=fun _ H'=>Q .non H',rt:=Q } (start N vs) H):ZO P w K mg base CX0 (k + 1) f fd ps sp:=by
 (refine Oe9a2 F.ex fun oc od kV doc pm an cdv ct osl zo33 lk hcd=>?_;obtain rfl:=zo33)
 refine Zfa lk hcd S len fun A outer s H vs Q E hr hsp=>?_
 refine Oe1a1 (hbody A outer s H vs Q E hr hsp) fun t h q=>?_
 exact ⟨t,h.nox,q⟩
section
variable {X:Cx}
end
section
variable {prog:Program}{w:World}{A:Around}{E:Value->Shared->Prop}{s:Shared}
end
section
variable {X:Cx}
end
section
variable {prog:Program}{w:World}{K:Type}[DecidableEq K]{knd:KeyKind prog w K}{A:Around}{R:Result->Shared->Prop}{d l it:Addr}{items:List Value}
end
section
variable {X:Cx}
end
structure QPs(X:Cx)(pos:Pos)(keys:List (Option Expr))(values:List Expr)(trs:List (TE × TE)):Prop where
 out:PPs X pos keys values trs
section
variable {X:Cx}
theorem xS{pos:Pos}:QPs X pos [] [] []:=⟨Zdl⟩
theorem GJ{pos:Pos}{k v:Expr}{ks:List (Option Expr)}{vs:List Expr}{tk tv:TE}{trs:List (TE × TE)}(hk:QE X k tk)(hv:QE X v tv)(hr:QPs X pos ks vs trs):QPs X pos (some k::ks) (v::vs) ((tk,tv)::trs):=⟨uJ hk.out hv.out hr.out⟩
theorem xT{pos:Pos}{keys:List (Option Expr)}{values:List Expr}{trs:List (TE × TE)}(h:QPs X pos keys values trs)(hall:keys.all (·.isSome)=true)(hl:keys.length=values.length)(h0:keys≠[])(h15:keys.length<=15):QE X (.Dict keys values pos) (Zfi trs):=⟨Zdm h.out hall hl h0 h15⟩
end
end L2
namespace ZpT
open PySem PySem.Spec PyProof.Rows
noncomputable def Yy:Bool->Heap->Addr->Addr->Nat->Prop
 | true,h,it,l,k=>h.IsTupleIter it l k
 | false,h,it,l,k=>h.IsListIter it l k
noncomputable def SeqAt:Bool->Heap->Addr->Array Value->Prop
 | true,h,l,xs=>h.IsTuple l xs
 | false,h,l,xs=>h.IsList l xs
noncomputable def zO (f0:Value) (b:Bool) (TI TO:Addr):Obj:={ cls:=.type "zip",dict:=none,data:=.fields #[f0,.bool b,.bool false,.ref TI,.ref TO],slots:=#[] }
noncomputable def F0(f0:Value):Prop:=f0=.none\/∃T:Addr,f0=rawInt T
structure Ap(z TI TO i1 i2:Addr):Prop where
 TIz:TI≠z
 TOz:TO≠z
 i1z:i1≠z
 i2z:i2≠z
 TITO:TI≠TO
 TIi1:TI≠i1
 TIi2:TI≠i2
 TOi1:TO≠i1
 TOi2:TO≠i2
 i12:i1≠i2
section
variable {prog:Program}{w:World}{A:Around}{E:Value->Shared->Prop}{s:Shared}
end
end ZpT
namespace ZpT
open PySem PySem.Spec PyProof.Rows
structure Of(z TO i1 i2 l:Addr):Prop where
 z:l≠z
 o:l≠TO
 i:l≠i1
 j:l≠i2
structure St(b1 b2:Bool)(z TI TO i1 i2 l1 l2:Addr)(k1 k2:Nat)(h:Heap):Prop where
 z:∃f0 fb,h.get? z=some (zO f0 fb TI TO)/\F0 f0
 I:IsPair h TI (.ref i1) (.ref i2)
 O:∃a b,IsPair h TO a b
 n1:Yy b1 h i1 l1 k1
 n2:Yy b2 h i2 l2 k2
section
variable {prog:Program}{w:World}{A:Around}{E:Value->Shared->Prop}{s:Shared}
end
end ZpT
namespace ZpT
open PySem PySem.Spec PyProof.Rows
section
variable {prog:Program}{w:World}{A:Around}{E:Value->Shared->Prop}{s:Shared}
end
end ZpT
namespace ZpT
open PySem PySem.Spec PyProof.Rows
section
variable {prog:Program}{w:World}{A:Around}{E:Value->Shared->Prop}{s:Shared}
end
section
variable {prog:Program}{w:World}{A:Around}{E:Value->Shared->Prop}{s:Shared}
end
end ZpT
namespace L2
open PySem PySem.Spec PyProof.Rows
open ZpT (St Ap Of SeqAt Yy)
end L2
namespace L2
open PySem PySem.Spec PyProof.Rows
open ZpT (Ap Of SeqAt Yy)
section
variable {X:Cx}{A:Around}{b1 b2:Bool}{z TI TO i1 i2 a1 a2 S:Addr}{xs ys:List V}{pins:List (Addr × Obj)}{σ:St}{R:Result->Shared->Prop}
end
end L2
namespace L2
open PySem PySem.Spec PyProof.Rows
open ZpT (Ap Of SeqAt Yy)
section
variable {X:Cx}{e1 e2:Expr}{t:TA}{p pos:Pos}{b1 b2:Bool}
end
end L2
namespace L2
open PySem PySem.Spec PyProof.Rows
section
variable {X:Cx}{S scope:Scope}{N:List Str}{x x2:Str}{ys:List Str}{is:List Nat}{pins:List (Addr × Obj)}{σ:St}{H₂:Hp}{s₂:Shared}{fp:List Addr}{elt iter:Expr}{px px2 pp pos:Pos}{pq:Nat}{ifs:List Expr}{tc:TT}{te:TE}{wi:TI}
end
end L2
namespace L2
open PySem PySem.Spec PyProof.Rows PySem.W
section
variable {prog:Program}{w:World}{A:Around}{E:Value->Shared->Prop}{s:Shared}
end
section
variable {prog:Program}{w:World}{h:Heap}
end
section
variable {X:Cx}
end
end L2
namespace L2
open PySem PySem.Spec PyProof.Rows
section
variable {prog:Program}{w:World}{A:Around}{E:Value->Shared->Prop}{s:Shared}{c it:Addr}{oc:Obj}{es:Array DictEntry}{ep i:Nat}
end
section
variable {X:Cx}
end
section
variable {X:Cx}
noncomputable def PP1(X:Cx)(pos:Pos)(k v:Expr)(tk tv:TE):Prop:=∀pins s σ H (R:V->V->Hp->Prop),Inv X pins σ H s->(tk σ H fun x H1=>tv σ H1 fun y H2=>R x y H2) ->
 wpAny (model X.prog X.w) X.A (evalPairs (pairTrees [some k] [v] X.env pos)) (fun ws s2=>∃x y u r H2,ws=[(u,r)]/\Inv X pins σ H2 s2/\RelV x u/\RelV y r/\R x y H2) X.xe s
theorem pp1{pos:Pos}{k v:Expr}{tk tv:TE}(hk:QE X k tk)(hv:QE X v tv):PP1 X pos k v tk tv:=by
 intro pins s σ H R I q
 refine pairTrees_cons_walk (thn (hk.out pins s σ H _ I q) fun u s1 ⟨x,H1,I1,rx,q1⟩=>thn (hv.out pins s1 σ H1 _ I1 q1) fun r s2 ⟨y,H2,I2,ry,q2⟩=>pairTrees_nil_walk ⟨x,y,u,r,H2,rfl,I2,rx,ry,q2⟩)
end
section
variable {X:Cx}
theorem HT.cat_tup0{prog:Program}{w:World}{A:Around}{E:Value->Shared->Prop}{s:Shared}{t b:Addr}{ws:List Value}{Q:Value->Shared->Prop}(ht:IsTup s.heap t #[])(hb:IsTup s.heap b ws.toArray)(q:Q (.ref b) s) :
  wpAny (model prog w) A (binaryOp .Add (.ref t) (.ref b)) Q E s:=by
 (refine Oe1a2 (id ht) fun zo34 ho hc zo35=>?_;obtain ⟨cls,dd,data,sl⟩:=zo34;obtain ⟨n,hd⟩:=zo35)
 (refine Oe1a2 (id hb) fun zo36 ho2 hc2 zo37=>?_;obtain ⟨cls2,dd2,data2,sl2⟩:=zo36;obtain ⟨n2,hd2⟩:=zo37)
 simp only at hc hd hc2 hd2
 subst hc hd hc2 hd2
 exact concat_meets ⟨_,ho,rfl⟩ ⟨_,ho2,rfl⟩ noFill_tuple_add seq_tuple_add Qdo Qdm (Qdi _ _)
  (tuple_addW0 t b #[] ws.toArray n n2 dd dd2 sl sl2 rfl) ⟨ho,ho2,q⟩
inductive wJ(x:V)(y:V)(H:Hp)(Q:VK):Prop
 | mk (a b xs ys):(x=.ref a)->(y=.ref b)->(H a=some (.tup xs))->(H b=some (.tup ys))->(xs.length + ys.length<=sizeLine)->(∀p H',H' p=some (.tup (xs++ys))->ZT H H'->Q (.ref p) H')->wJ x y H Q
noncomputable def rCatG  : R2:=fun x y H Q=>wJ x y H Q
theorem YR:OpR X (binaryOp .Add) rCatG:=by
 intro pins s σ H x y v u Q I rx ry h
 obtain ⟨a,b,xs,ys,rfl,rfl,ha,hb,hz,q⟩:=h
 cases rx
 cases ry
 refine Oe1a2 (I.tuple (SqT.of ha:SqT X.K H a xs)) fun its r1 p1 _=>?_
 refine Oe1a2 (I.tuple (SqT.of hb:SqT X.K H b ys)) fun its2 r2 p2 _=>?_
 by_cases hx:xs=[]
 ·have e:=r1.nil_iff.mpr hx
  subst e hx
  exact HT.cat_tup0 p1 p2 ⟨.ref b,H,I,rfl,q b H hb fun _ _ z=>z⟩
 ·refine HT.cat_tup p1 p2 (fun z=>hx (r1.nil_iff.mp z)) (fun z=>⟨.ref a,H,I,rfl,q a H ?_ fun _ _ z=>z⟩) (fun z=>?_) (by rw [<-r1.length,<-r2.length];exact hz)
  ·rw [r2.nil_iff.mp z,Qa3]
   exact ha
  ·have hn:=I.hok.fresh (Qah s.heap.objs.size)
   refine ⟨.ref s.heap.objs.size,_,I.laid (t':=s.toks) (o:=.tup (xs++ys)) (fun b ob q=>Heap.get?_push_of_some _ q) (Qah _) ?_,rfl,q _ _ Za fun c o z=>by rw [Zj (fun e=>by rw [e,hn] at z;cases z)];exact z⟩
   exact ⟨by rw [Qac];exact hz,_,r1.append r2,IsTup.new _ _⟩
end
open PySem.W (hideAll of_hideAll hideAll_get hideAll_none funFrames_hide)
section
variable {P:Program}{w:World}{X:Cx}{pins:List (Addr × Obj)}{σ:St}{H:Hp}{s:Shared}
end
end L2
namespace L2
open PySem PySem.Spec PyProof.Rows
open PySem.W (hideAll of_hideAll hideAll_get hideAll_none funFrames_hide)
section
variable {X:Cx}{E:XK}
end
end L2
namespace L2
open PySem PySem.Spec PyProof.Rows
section
variable {X:Cx}{E:XK}{x:Str}{C:Addr}{np cpos pos:Pos}{e₀:Expr}{rest:List Expr}{t:TA}
end
section
variable {M:Model}{A:Around}{E:Value->Shared->Prop}
variable {nm q nm' q':Str}{C N D N':Addr}{bs bm bs' bm':List Value}{hdct hdct':Bool}{sn sn':List Str}{sub sub':List Value}{ab ab':Bool}{col col':Option Bool}{dd dd':Option Addr}{k0 k1 k2 k3 k5 k0' k1' k2' k3' k5':Option Value}{newId newId':String}
end
section
variable {X:Cx}{pins:List (Addr × Obj)}{σ:St}{H H':Hp}{s s':Shared}
end
section
variable {X:Cx}{pins:List (Addr × Obj)}{σ:St}{H H':Hp}{s s':Shared}
end
section
variable {prog:Program}{w:World}{A:Around}{E:Value->Shared->Prop}{s:Shared}{env:Env}
end
section
variable {X:Cx}{pins:List (Addr × Obj)}{σ:St}{H:Hp}{s:Shared}
variable {k:Nat}{f:Addr}{fd:FuncData}{ps:List Str}{sp:Sp}{g x y n:Str}{p np p0 cpos spos hpos pos:Pos}{e₀:Expr}{es:List Expr}{t:TA}{b₀:Stmt}{suite:List Stmt}{i j:Nat}{Dc:Addr}{ts:TS}
end
end L2
namespace L2
open PySem PySem.Spec PyProof.Rows PySem.Calls
open PySem.W (Frag InstAt findObj plainGet plainGet_of kin_open kin_hooked class_get handed_on mroIn clsIn Looks subIn typeIn looks_typeIn looks_subIn isIn isi_call)
section
variable {prog:Program}{w:World}{A:Around}{E:Value->Shared->Prop}{s:Shared}{K:Frag}{e C D:Addr}{oe:Obj}{od:Option Obj}
end
end L2
namespace L2
open PySem PySem.Spec PyProof.Rows PySem.Calls
open PySem.W Builtin Builtin.ObjectAttr Builtin.Getset_descriptor
section
variable {prog:Program}{w:World}{A:Around}{E:Value->Shared->Prop}{s:Shared}{K:Frag}{e C D:Addr}
end
end L2
namespace L2
open PySem PySem.Spec PyProof.Rows PySem.Calls
open PySem.W Builtin Builtin.ObjectAttr
section
variable {prog:Program}{w:World}{A:Around}{E:Value->Shared->Prop}{s:Shared}{K:Frag}{x C:Addr}{name:Str}{v:Value}
end
section
variable {X:Cx}{pins:List (Addr × Obj)}{σ:St}{H:Hp}{s:Shared}{e C d:Addr}{f:Str}{v:V}{u:Value}{A:Around}{E:Value->Shared->Prop}
end
section
variable {X:Cx}{o value:Expr}{ta tv:TE}{f:Str}{pos pos':Pos}
end
end L2
namespace L2
open PySem PySem.Spec PyProof.Rows PySem.Calls
open PySem.W
section
variable {prog:Program}{w:World}{A:Around}{E:Value->Shared->Prop}{hh:Heap}{g:Array GenState}{dr:Drawn}{t:Nat}{os:OsState}{K:Frag}
variable {nm q:Str}{C N fI:Addr}{bs tl:List Value}{hdct:Bool}{sn:List Str}{sub:List Value}{ab:Bool}{col:Option Bool}{dd:Option Addr}{k0 k1 k2 k3 k5:Option Value}
end
end L2
namespace L2
open PySem PySem.Spec PyProof.Rows PySem.Calls
open PySem.W
section
variable {X:Cx}{x:Str}{C f:Addr}{k:Nat}{fd:FuncData}{ps:List Str}{sp:Sp}{p pos:Pos}{e₀:Expr}{es:List Expr}{t:TA}
end
end L2
namespace L2
open PySem PySem.Spec PyProof.Rows PySem.Calls
open Builtin Builtin.Str
section
variable {X:Cx}{e b:Expr}{es:List Expr}{te tb:TE}{t:TA}
end
section
variable {X:Cx}{o:Expr}{to:TE}{y z:Str}{j1 j2 j3:Nat}{p1 p2 p3 apos cpos:Pos}
end
end L2
namespace L2
open PySem PySem.Spec PyProof.Rows PySem.Calls
open Builtin Builtin.Str
section
variable {X:Cx}{e:Expr}{ta:TE}{c:Str}{j:Nat}{p1 p2 pos:Pos}
end
section
variable {X:Cx}
end
end L2
namespace L2
open PySem PySem.Spec PyProof.Rows PySem.Calls
open PySem.W
end L2
namespace L2
open PySem PySem.Spec PyProof.Rows PySem.Calls
open Builtin Builtin.Str
end L2
namespace L2
open PySem PySem.Spec PyProof.Rows PySem.Calls
section
variable {M:Model}{A:Around}{E:Value->Shared->Prop}{s:Shared}{B:Heap}{env:Env}{outer:List Env}{L e:Addr}{φ:Obj->Prop}{Q:Unit->Shared->Prop}
end
section
variable {prog:Program}{w:World}{A:Around}{E:Value->Shared->Prop}{s:Shared}{env:Env}{x:Sem Value}{Q:Flow->Shared->Prop}{C e1:Addr}{j:Nat}{p pos:Pos}
end
open PySem.W (hideAll of_hideAll hideAll_get hideAll_none funFrames_hide)
section
variable {X:Cx}{E:XK}
end
end L2
namespace L2
open PySem PySem.Spec PyProof.Rows PySem.Calls
section
variable {prog:Program}{w:World}{A:Around}{E:Value->Shared->Prop}{s:Shared}{env:Env}
end
section
variable {X:Cx}{E:XK}
end
section
variable {X:Cx}{E:XK}{k:Nat}{f:Addr}{fd:FuncData}{ps:List Str}{sp:Sp}{g y x2:Str}{p np np2 cpos cpos2 spos hpos pos p9 rpos:Pos}{j:Nat}{e₀ a₀:Expr}{es as:List Expr}{t t2:TA}{Dc C2:Addr}
end
section
variable {prog:Program}{w:World}{A:Around}{E:Value->Shared->Prop}{s:Shared}{a:Addr}{oa:Obj}{x:Value}{l:List Value}{na:Nat}{ts:List Str}
end
section
variable {X:Cx}{e:Expr}{ta:TE}{c:Str}{j:Nat}{p1 p2 pos:Pos}
end
open PySem.W
section
variable {X:Cx}{pins:List (Addr × Obj)}{σ:St}{H:Hp}{s:Shared}{e C d:Addr}{f:Str}{v:V}{u:Value}{A:Around}{E:Value->Shared->Prop}{arr:Array Value}
end
section
variable {X:Cx}{E:XK}
end
end L2
namespace L2
open PySem PySem.Spec PyProof.Rows PySem.Calls
open PySem.W (hideAll of_hideAll hideAll_get hideAll_none funFrames_hide)
section
variable {X:Cx}{E:XK}
end
section
variable {prog:Program}{w:World}{A:Around}{E:Value->Shared->Prop}{s:Shared}{env:Env}{x:Sem Value}{Q:Flow->Shared->Prop}{C:Addr}
end
section
variable {X:Cx}{E:XK}{x:Str}{C f:Addr}{k:Nat}{fd:FuncData}{ps:List Str}{sp:Sp}{np cpos pos:Pos}{e₀:Expr}{es:List Expr}{t:TA}
end
end L2
namespace L2
open PySem PySem.Spec PyProof.Rows PySem.Calls
section
variable {X:Cx}{k:Nat}{f:Addr}{fd:FuncData}{ps:List Str}{sp:Sp}{g y n:Str}{p np cpos spos hpos pos:Pos}{e₀:Expr}{es:List Expr}{t:TA}{b₀:Stmt}{suite:List Stmt}{j:Nat}{Dc:Addr}{ts:TS}
end
section
variable {X:Cx}
end
end L2
namespace L2
open PySem
theorem ZJ{G0:Prop}(h:∀G:Prop,(G0->G)->G):G0:=h G0 fun z=>z
theorem uf{α:Type}{P:List α->Prop}(h:∀a,P [a]):∀us:List α,us.length=1->P us
 | [a],_=>h a
theorem vk{α:Type}{P:List α->Prop}(h:∀a b,P [a,b]):∀us:List α,us.length=2->P us
 | [a,b],_=>h a b
theorem ug{α:Type}{P:List α->Prop}(h:∀a b c,P [a,b,c]):∀us:List α,us.length=3->P us
 | [a,b,c],_=>h a b c
theorem Zfk{α:Type}{P:List α->Prop}(h:∀a b c d,P [a,b,c,d]):∀us:List α,us.length=4->P us
 | [a,b,c,d],_=>h a b c d
theorem vm{lo:Int}{n:Nat}{g:TG}{tb:TS}{D:Ends}{σ:St}{H:Hp}(Pv:Nat->St->Hp->Prop)(h0:Pv 0 σ H)
  (hs:∀i σ H,i < n->Pv i σ H->∀(N b:St->Hp->Prop) (r:VK),(∀σ H,Pv (i + 1) σ H->N σ H)->g (.int (lo + i)) σ H fun σ2 H2=>tb { nx:=N,rt:=r,bk:=b,ct:=N } σ2 H2) (hd:∀σ H,Pv n σ H->D.nx σ H) :
  ∃W:Nat->Nat->St->Hp->Prop,(∃m,W 0 m σ H)/\∀i m σ H,W i m σ H ->
   ((Itr lo n).stop i H/\D.nx σ H)\/((Itr lo n).go i H/\∃N:St->Hp->Prop,(∀σ' H',N σ' H'->∃m',m' < m/\W (i + 1) m' σ' H')/\∀x H',(Itr lo n).yld i H x H'->g x σ H' fun σ2 H2=>tb { D with nx:=N,ct:=N,bk:=D.nx } σ2 H2) :=
 XS Pv h0 (fun i σ H hi p=>hs i σ H hi p _ _ _ fun _ _ z=>z) hd
theorem walk_X{q:Program}{loose:List Str}{XP:(Str->Option Value)->Heap->Prop}{K:Params->PySem.W.Frag}{as:List Addr}{n t:Nat}{r:PySem.W.RowW}{d:DefRec}{kwd:List (Str × Expr)}{run:Value->List Value->Sem Value}
  (e:∀P,as=(K P).map (·.1)) (W:PySem.W.WalkO q loose XP (PySem.W.InK K) r d kwd run):PySem.W.WalkX q loose XP (PySem.W.X.obsZ as) (PySem.W.X.valZ K n t) r d kwd run :=
 fun w s₀ s₁ mg mb G y a o pm cd doc dV kV e1 e2 e3 e4 e5 e6 args vals as L p l R W' nn =>
  W w s₀ s₁ mg mb G (PySem.W.InK.keeps w _ _ (PySem.W.X.z_facts e y).2.1 L.keeps) a o pm cd doc dV kV e1 e2 e3 e4 e5 e6 args vals as p l R W' nn
noncomputable def noT(K:PySem.W.Frag):PySem.W.Frag:=K.filter fun p=>match p.2.cls,p.2.data with
 | .none,.fields _=>false
 | _,_=>true
theorem noT_ok(K:PySem.W.Frag):PySem.W.noTabs (noT K)=true:=by
 unfold PySem.W.noTabs noT
 rw [Qdz]
 intro p hp
 exact (Qd4.mp hp).2
noncomputable def nodB:List Nat->Bool
 | []=>true
 | a::r=>r.all (fun b=>!(Nat.beq a b)) && nodB r
theorem lookup_mem{a:Addr}{o:Obj}:∀{K:PySem.W.Frag},K.lookup a=some o->(a,o)∈K
 | (b,u)::r,h=>by
  rw [Qa9] at h
  by_cases e:(a == b)=true
  ·rw [e] at h
   cases h
   rw [eq_of_beq e]
   exact Qaf
  ·rw [Bool.eq_false_iff.mpr e] at h
   exact Qag _ (lookup_mem h)
theorem mem_lookup{a:Addr}{o:Obj}:∀{K:PySem.W.Frag},nodB (K.map (·.1))=true->(a,o)∈K->K.lookup a=some o
 | (b,u)::r,hn,h=>by
  rw [Qa9]
  rw [Qa4] at hn
  have hn':=Bool.and_eq_true_iff.mp hn
  rcases Qaj.mp h with e | e
  ·cases e
   rw [Qb0]
  ·have hb:(a == b)=false:=by
    rw [Qbt]
    intro z
    have:=Qdz.mp hn'.1 a (Qbh e)
    rw [z,show Nat.beq b b=true from Nat.beq_refl b] at this
    cases this
   rw [hb]
   exact mem_lookup hn'.2 e
theorem in_noT{K:PySem.W.Frag}{h:Heap}(hn:nodB (K.map (·.1))=true)(X:K.In h):(noT K).In h:=fun a o e =>
 X a o (mem_lookup hn (Qd4.mp (lookup_mem e)).1)
theorem ns_tr{K:PySem.W.Frag}{m:Addr}{x:Str}{r:Option (Option Value)}(e:PySem.W.nsIn (noT K) m x=PySem.W.nsIn K m x)(h:PySem.W.nsIn K m x=r):PySem.W.nsIn (noT K) m x=r:=e.trans h
theorem lk_tr{K:PySem.W.Frag}{a:Addr}{r:Option Obj}(e:(noT K).lookup a=K.lookup a)(h:K.lookup a=r):(noT K).lookup a=r:=e.trans h
theorem cd_tr{K:PySem.W.Frag}{c:Value}{x:Str}(e:PySem.W.codeIn (noT K) c x=PySem.W.codeIn K c x)(h:PySem.W.codeIn K c x=true):PySem.W.codeIn (noT K) c x=true:=e.trans h
theorem kp_tr{K:PySem.W.Frag}{c:Value}(e:PySem.W.keepIn (noT K) c=PySem.W.keepIn K c)(h:PySem.W.keepIn K c=true):PySem.W.keepIn (noT K) c=true:=e.trans h
theorem cxK{CX:CXT}{P:Program}{w:World}{K:PySem.W.Frag}{mg:Str->Option Value}{base:Heap}{N:List Str}{qual:Str}{scope:Scope}{f:Addr}{cd:Value}{A:Around}{outer:List Env}{s:Shared}{H:Hp}{E:XK}:(ux CX P w K mg base N qual scope f cd A outer s H E).nox.K=K:=rfl
theorem cxK2{CX:CXT}{P:Program}{w:World}{K:PySem.W.Frag}{mg:Str->Option Value}{base:Heap}{N:List Str}{qual:Str}{scope:Scope}{f:Addr}{cd:Value}{A:Around}{outer:List Env}{s:Shared}{H:Hp}{E:XK}:(ux CX P w K mg base N qual scope f cd A outer s H E).K=K:=rfl
theorem let2{s1 s2:TS}{D:Ends}{σ:St}{H:Hp}(h:let U1:=s2;Yi s1 U1 D σ H):Yi s1 s2 D σ H:=h
theorem let3{s1 s2 s3:TS}{D:Ends}{σ:St}{H:Hp}(h:let U2:=s3;let U1:=Yi s2 U2;Yi s1 U1 D σ H):Yi s1 (Yi s2 s3) D σ H:=h
theorem let4{s1 s2 s3 s4:TS}{D:Ends}{σ:St}{H:Hp}(h:let U3:=s4;let U2:=Yi s3 U3;let U1:=Yi s2 U2;Yi s1 U1 D σ H):Yi s1 (Yi s2 (Yi s3 s4)) D σ H:=h
theorem let5{s1 s2 s3 s4 s5:TS}{D:Ends}{σ:St}{H:Hp}(h:let U4:=s5;let U3:=Yi s4 U4;let U2:=Yi s3 U3;let U1:=Yi s2 U2;Yi s1 U1 D σ H):Yi s1 (Yi s2 (Yi s3 (Yi s4 s5))) D σ H:=h
theorem let6{s1 s2 s3 s4 s5 s6:TS}{D:Ends}{σ:St}{H:Hp}(h:let U5:=s6;let U4:=Yi s5 U5;let U3:=Yi s4 U4;let U2:=Yi s3 U3;let U1:=Yi s2 U2;Yi s1 U1 D σ H):Yi s1 (Yi s2 (Yi s3 (Yi s4 (Yi s5 s6)))) D σ H:=h
theorem let7{s1 s2 s3 s4 s5 s6 s7:TS}{D:Ends}{σ:St}{H:Hp}(h:let U6:=s7;let U5:=Yi s6 U6;let U4:=Yi s5 U5;let U3:=Yi s4 U4;let U2:=Yi s3 U3;let U1:=Yi s2 U2;Yi s1 U1 D σ H):Yi s1 (Yi s2 (Yi s3 (Yi s4 (Yi s5 (Yi s6 s7))))) D σ H:=h
theorem let8{s1 s2 s3 s4 s5 s6 s7 s8:TS}{D:Ends}{σ:St}{H:Hp}(h:let U7:=s8;let U6:=Yi s7 U7;let U5:=Yi s6 U6;let U4:=Yi s5 U5;let U3:=Yi s4 U4;let U2:=Yi s3 U3;let U1:=Yi s2 U2;Yi s1 U1 D σ H):Yi s1 (Yi s2 (Yi s3 (Yi s4 (Yi s5 (Yi s6 (Yi s7 s8)))))) D σ H:=h
theorem let10{s1 s2 s3 s4 s5 s6 s7 s8 s9 s10:TS}{D:Ends}{σ:St}{H:Hp}(h:let U9:=s10;let U8:=Yi s9 U9;let U7:=Yi s8 U8;let U6:=Yi s7 U7;let U5:=Yi s6 U6;let U4:=Yi s5 U5;let U3:=Yi s4 U4;let U2:=Yi s3 U3;let U1:=Yi s2 U2;Yi s1 U1 D σ H):Yi s1 (Yi s2 (Yi s3 (Yi s4 (Yi s5 (Yi s6 (Yi s7 (Yi s8 (Yi s9 s10)))))))) D σ H:=h
end L2
namespace ZpT
open PySem PySem.Spec PyProof.Rows
noncomputable abbrev Zb0 (h:Heap) (T:Addr) (a b c:Value):Prop:=h.get? T=some { cls:=.type "tuple",data:=.seq #[a,b,c] }
structure Ap3(z TI TO i1 i2 i3:Addr):Prop where
 TIz:TI≠z
 TOz:TO≠z
 i1z:i1≠z
 i2z:i2≠z
 i3z:i3≠z
 TITO:TI≠TO
 TIi1:TI≠i1
 TIi2:TI≠i2
 TIi3:TI≠i3
 TOi1:TO≠i1
 TOi2:TO≠i2
 TOi3:TO≠i3
 i12:i1≠i2
 i13:i1≠i3
 i23:i2≠i3
structure Of3(z TO i1 i2 i3 l:Addr):Prop where
 z:l≠z
 o:l≠TO
 i:l≠i1
 j:l≠i2
 m:l≠i3
structure St3(z TI TO i1 i2 i3 l1 l2 l3:Addr)(k:Nat)(h:Heap):Prop where
 z:∃f0 fb,h.get? z=some (zO f0 fb TI TO)/\F0 f0
 I:Zb0 h TI (.ref i1) (.ref i2) (.ref i3)
 O:∃a b c,Zb0 h TO a b c
 n1:Yy false h i1 l1 k
 n2:Yy false h i2 l2 k
 n3:Yy false h i3 l3 k
section
variable {prog:Program}{w:World}{A:Around}{E:Value->Shared->Prop}{s:Shared}
end
end ZpT
namespace L2
open PySem PySem.Spec PyProof.Rows
section
variable {X:Cx}{S scope:Scope}{N:List Str}{x x2 x3:Str}{ys:List Str}{is:List Nat}{pins:List (Addr × Obj)}{σ:St}{H₂:Hp}{s₂:Shared}{fp:List Addr}{elt iter:Expr}{px px2 px3 pp pos:Pos}{pq:Nat}{ifs:List Expr}{tc:TT}{te:TE}{wi:TI}
end
end L2
namespace ZpT
open PySem PySem.Spec PyProof.Rows
section
variable {prog:Program}{w:World}{A:Around}{E:Value->Shared->Prop}{s:Shared}
end
end ZpT
namespace L2
open PySem PySem.Spec PyProof.Rows
open ZpT (St3 Ap3 Of3 SeqAt Yy)
section
variable {X:Cx}{e1 e2 e3:Expr}{t:TA}{p pos:Pos}
end
end L2
namespace L2
open PySem PySem.Spec PyProof.Rows
section
variable {prog:Program}{w:World}{A:Around}{s:Shared}
end
section
variable {X:Cx}
end
noncomputable def b2i(b:Bool):Int:=if b=true then 1 else 0
noncomputable def Zfl(k:Int):Value->Bool
 | .int i _=>i == k
 | .bool b=>b2i b == k
 | _=>false
theorem Xb{k:Int}{v:Value}(h:Zfl k v=true):(∃t,v=.int k t)\/∃b,v=.bool b/\k=b2i b:=by
 cases v with
 | int i t=>exact .inl ⟨t,by rw [show i=k from eq_of_beq h]⟩
 | bool b=>exact .inr ⟨b,rfl,(eq_of_beq h).symm⟩
 | _=>cases h
section
variable {prog:Program}{w:World}
theorem j6{A:Around}{E:Value->Shared->Prop}{s:Shared}{b:Bool}{Q:Int->Shared->Prop}(h:Q (hashInt (b2i b)) { s with toks:=s.toks + 1 }):wpAny (model prog w) A (pyHash (.bool b)) Q E s:=by
 show wpAny _ _ (pyHashByItsType (.bool b)) _ _ s
 refine PySem.W.pyHash_slot (T := "bool") (id := "int.__hash__") (B:=Builtin.«int.__hash__») rfl F.slot_bool_hash F.entry_int_hash (F.args_int_hash_1 _) (by decide +kernel) (.inl rfl) ?_
 cases b
 ·exact wpAny_bind (wpAny_of_eq (a:=(Value.bool false,(0:Int))) rfl (wpAny_bind (wpAny_mkInt (wpAny_pure ⟨0,_,rfl,h⟩))))
 ·exact wpAny_bind (wpAny_of_eq (a:=(Value.bool true,(1:Int))) rfl (wpAny_bind (wpAny_mkInt (wpAny_pure ⟨1,_,rfl,h⟩))))
end
theorem Zb1(a b:Int):decide (a=b)=(a == b):=by
 by_cases e:a=b
 ·rw [Qad e,e,Qb0]
 ·rw [Qab e,Qbt.mpr e]
noncomputable def YA(prog:Program)(w:World):KeyKind prog w Int where
 is:=Zfl
 hash:=hashInt
 inj:=fun v a b ha hb=>by
  rcases Xb ha with ⟨t,rfl⟩ | ⟨x,rfl,rfl⟩
  ·exact (eq_of_beq (show (a == b)=true from hb))
  ·exact (eq_of_beq (show (b2i x == b)=true from hb))
 byValue:=fun k v h=>by
  rcases Xb h with ⟨t,rfl⟩ | ⟨x,rfl,rfl⟩ <;> rfl
 pyHash:=fun hv h=>by
  rcases Xb hv with ⟨t,rfl⟩ | ⟨x,rfl,rfl⟩
  ·exact wpAny_pyHash_int h
  ·exact j6 h
 eqBool:=fun hu hv h=>by
  rw [Zb1] at h
  rcases Xb hu with ⟨t,rfl⟩ | ⟨x,rfl,rfl⟩
  ·rcases Xb hv with ⟨u,rfl⟩ | ⟨y,rfl,rfl⟩
   ·exact wpAny_eqBool_int h
   ·exact SeqAt.EqAt.int_bool _ t y _ _ _ _ h
  ·rcases Xb hv with ⟨u,rfl⟩ | ⟨y,rfl,rfl⟩
   ·exact SeqAt.EqAt.bool_int x _ u _ _ _ _ h
   ·refine SeqAt.EqAt.bool_bool x y _ _ _ _ ?_
    have e:(b2i x == b2i y)=(x == y):=by cases x <;> cases y <;> rfl
    rw [e] at h
    exact h
 «strs»:=fun k x t v h=>by cases h
section
variable {prog:Program}{w:World}
noncomputable def IsPair(prog:Program)(w:World)(h:Heap)(k:Int × List Int)(a:Addr):Prop :=
 ∃o n t tk,h.get? a=some o/\o.cls=.type "tuple" /\ o.data=.seq #[.int k.1 tk,.ref t] n/\IsTupleKey (YA prog w) h k.2 t
noncomputable def xU(prog:Program)(w:World)(k:Int × List Int):Int:=reduceHash (Builtin.Tuple.tupleHashOf [hashInt k.1,tupleKeyHash (YA prog w) k.2])
theorem IsPair.inj{h:Heap}{a:Addr}{x y:Int × List Int}(p:IsPair prog w h x a)(q:IsPair prog w h y a):x=y:=by
 (refine Oe4a3 p fun o n t tk e c d k=>?_;clear p)
 (refine Oe4a3 q fun o' n' t' tk' e' c' d' k'=>?_;clear q)
 rw [e] at e'
 cases e'
 rw [d] at d'
 injection d' with d1 d2
 have d3:=congrArg Array.toList d1
 injection d3 with d4 d5
 injection d4 with d6 _
 injection d5 with d7 _
 injection d7 with d8
 subst d8
 have:=(tupleKind (YA prog w)).inj k k'
 exact Qen d6 this
theorem IsPair.keeps{h h':Heap}{k:Int × List Int}{a d:Addr}{o:Obj}{es:Array DictEntry}{ep:Nat}(p:IsPair prog w h k a)(e:h.get? d=some o)(hd:o.data=.dict es ep)(s:Heap.SameBut d h h'):IsPair prog w h' k a:=by
 (refine Oe4a3 p fun o1 n t tk e1 c1 d1 k1=>?_;clear p)
 have hne:a≠d:=fun z=>by
  rw [z,e] at e1
  cases e1
  rw [hd] at d1
  cases d1
 exact ⟨o1,n,t,tk,(s.2 a hne).trans e1,c1,d1,(tupleKind (YA prog w)).keeps k1 e hd s⟩
theorem IsPair.pyHash{A:Around}{E:Value->Shared->Prop}{s:Shared}{k:Int × List Int}{a:Addr}{Q:Int->Shared->Prop}(hu:A.units + 1 < cLine)(p:IsPair prog w s.heap k a)
  (h:Q (xU prog w k) { s with toks:=s.toks + (k.2.length + 3) }):wpAny (model prog w) A (PySem.pyHash (.ref a)) Q E s:=by
 (refine Oe4a3 p fun o n t tk e c d kt=>?_;clear p)
 show wpAny _ _ (pyHashByItsType (.ref a)) _ _ s
 refine PySem.W.pyHash_slot (T := "tuple") (id := "tuple.__hash__") (B:=Builtin.«tuple.__hash__») ⟨o,e,c⟩ F.slot_tuple_hash F.entry_tuple_hash (F.args_tuple_hash_1 _) (by decide +kernel) (.inr (by lia)) ?_
 unfold Builtin.«tuple.__hash__»
 refine wpAny_bind (wpAny_of_eq (a:=(Value.ref a,[])) rfl ?_)
 try dsimp only
 refine wpAny_bind (wpAny_tupleItemsOf e d ?_)
 refine wpAny_bind (wpAny_forIn_array' _ (fun rest hs s'=>(rest=[.int k.1 tk,.ref t]/\hs=#[]/\s'=s)\/(rest=[.ref t]/\hs=#[hashInt k.1]/\s'={ s with toks:=s.toks + 1 })\/(rest=[]/\hs=#[hashInt k.1,tupleKeyHash (YA prog w) k.2]/\s'={ s with toks:=s.toks + 1 + (k.2.length + 1) })) _ ?_ ?_ _ _ (.inl ⟨rfl,rfl,rfl⟩))
 ·rintro x rest b s' (⟨e1,rfl,rfl⟩ | ⟨e1,rfl,rfl⟩ | ⟨e1,_,_⟩)
  ·cases e1
   exact wpAny_bind (wpAny_pyHash_int (wpAny_pure (.inr (.inl ⟨rfl,rfl,rfl⟩))))
  ·cases e1
   refine wpAny_bind (wpAny_pyHash_tuple (knd:=YA prog w) (ks:=k.2) (s:={ s with toks:=s.toks + 1 }) (by show A.units + 1 < cLine;exact hu) kt (wpAny_pure (.inr (.inr ⟨rfl,rfl,rfl⟩))))
  ·cases e1
 ·rintro b s' (⟨e1,_,_⟩ | ⟨e1,_,_⟩ | ⟨_,rfl,rfl⟩)
  ·cases e1
  ·cases e1
  ·refine wpAny_bind (wpAny_mkInt (wpAny_pure ⟨_,_,rfl,?_⟩))
   have e5:s.toks + 1 + (k.2.length + 1) + 1=s.toks + (k.2.length + 3):=by lia
   show Q (xU prog w k) { s with toks:=s.toks + 1 + (k.2.length + 1) + 1 }
   rw [e5]
   exact h
theorem _root_.PySem.IsTupleKey.any{h:Heap}{ks:List Int}{a:Addr}(k:IsTupleKey (YA prog w) h ks a)(prog':Program)(w':World):IsTupleKey (YA prog' w') h ks a:=by
 (refine Oe3a3 k fun o items n e c d it=>?_;clear k)
 have go:∀{ks:List Int} {vs:List Value},ItemsAre (YA prog w) ks vs->ItemsAre (YA prog' w') ks vs:=by
  intro ks vs hh
  induction hh with
  | nil=>exact .nil
  | cons h1 _ ih=>exact .cons h1 ih
 exact ⟨o,items,n,e,c,d,go it⟩
theorem IsPair.eqBool{A:Around}{E:Value->Shared->Prop}{s:Shared}{x y:Int × List Int}{a b:Addr}{Q:Bool->Shared->Prop}(hu:A.units + 1 < cLine)(p:IsPair prog w s.heap x a)(q:IsPair prog w s.heap y b)
  (h:Q (decide (x=y)) s):wpAny (model prog w) A (PySem.eqBool (.ref a) (.ref b)) Q E s:=by
 by_cases hab:a=b
 ·subst hab
  have:=p.inj q
  rw [Qad this] at h
  exact SeqAt.EqAt.same (.ref a) prog w E Q h
 ·(refine Oe4a3 p fun o n t tk e c d kt=>?_;clear p)
  (refine Oe4a3 q fun o' n' t' tk' e' c' d' kt'=>?_;clear q)
  have it:∀j (h1:j < (#[Value.int x.1 tk,.ref t]).size) (h2:j < (#[Value.int y.1 tk',.ref t']).size),SeqAt.EqAt A.in1 s (#[Value.int x.1 tk,.ref t])[j] (#[Value.int y.1 tk',.ref t'])[j] (if j=0 then x.1 == y.1 else decide (x.2=y.2)):=by
   intro j h1 h2
   match j,h1,h2 with
   | 0,_,_=>exact SeqAt.EqAt.int_int x.1 tk y.1 tk'
   | 1,_,_=>exact fun prog' w' E' Q' h'=>wpAny_eqBool_tuple (knd:=YA prog' w') (by show A.units + 1 < cLine;exact hu) (kt.any prog' w') (kt'.any prog' w') h'
  have r:=SeqAt.RcAt.tuples (A:=A) (s:=s) (e:=fun j=>if j=0 then x.1 == y.1 else decide (x.2=y.2)) ⟨o,e,c,n,d⟩ ⟨o',e',c',n',d'⟩ (by lia) it
  have ee:((List.range (min (#[Value.int x.1 tk,.ref t]).size (#[Value.int y.1 tk',.ref t']).size)).all (fun j=>if j=0 then x.1 == y.1 else decide (x.2=y.2)) && (#[Value.int x.1 tk,.ref t]).size == (#[Value.int y.1 tk',.ref t']).size)=decide (x=y):=by
   show ((x.1 == y.1) && (decide (x.2=y.2) && true) && true)=decide (x=y)
   rw [Bool.and_true,Bool.and_true,<-Zb1]
   by_cases h1:x.1=y.1
   ·by_cases h2:x.2=y.2
    ·rw [Qad h1,Qad h2,Qad (Qen h1 h2)]
     rfl
    ·rw [Qab h2,Bool.and_false,Qab fun z=>h2 (by rw [z])]
   ·rw [Qab h1,Bool.false_and,Qab fun z=>h1 (by rw [z])]
  rw [ee] at r
  exact SeqAt.EqAt.of_refs hab r prog w E Q h
theorem vn{A:Around}{E:Value->Shared->Prop}{s:Shared}{ks:List Int}{a:Addr}{Q:Bool->Shared->Prop}(m:Nat)(k:IsTupleKey (YA prog w) s.heap ks a)(h:Q true s):wpAny (model prog w) A (eqIsQuiet (m + 1) (.ref a)) Q E s:=by
 (refine Oe3a3 k fun o items n e c d it=>?_;clear k)
 rw [eqIsQuiet.eq_2]
 have hT:s.TypeIs (.ref a) "tuple" := ⟨o,e,c⟩
 refine wpAny_bind (wpAny_specialOf hT F.slot_tuple_eq.lookup ?_)
 refine wpAny_bind (wpAny_isInstance (T := "tuple") (b:=true) hT (by rw [isSubtype_type];kernel_rfl) ?_)
 rw [Qal (by decide)]
 refine wpAny_bind (wpAny_seqItems e d ?_)
 refine wpAny_bind (wpAny_forIn_array' _ (fun rest b s'=>(∀v∈rest,carriedByValue v=true)/\b=(none,())/\s'=s) _ ?_ ?_ _ _ ⟨fun v hv=>?_,rfl,rfl⟩)
 ·(intro x rest b s' zq8;(refine Oe0a2 zq8 fun hv zo38 zo39=>?_;obtain rfl:=zo38;obtain rfl:=zo39;clear zq8))
  refine wpAny_bind ?_
  rw [eqIsQuiet_byValue m (hv x Qaf)]
  exact wpAny_pure (wpAny_pure ⟨fun v hm=>hv v (Qag _ hm),rfl,rfl⟩)
 ·(intro b s' zq8;(refine Oe0a2 zq8 fun _ zo40 zo41=>?_;obtain rfl:=zo40;obtain rfl:=zo41;clear zq8))
  exact wpAny_pure h
 ·have go:∀{ks:List Int} {vs:List Value},ItemsAre (YA prog w) ks vs->∀v∈vs,carriedByValue v=true:=by
   intro ks vs hh
   induction hh with
   | nil=>exact fun v hv=>nomatch hv
   | cons h1 _ ih =>
    intro v hv
    rcases Qaj.mp hv with rfl | hv
    ·exact (YA prog w).byValue _ _ h1
    ·exact ih v hv
  exact go it v hv
theorem IsPair.quiet{A:Around}{E:Value->Shared->Prop}{s:Shared}{k:Int × List Int}{a:Addr}{Q:Bool->Shared->Prop}(p:IsPair prog w s.heap k a)(h:Q true s):wpAny (model prog w) A (eqIsQuiet 8 (.ref a)) Q E s:=by
 (refine Oe4a3 p fun o n t tk e c d kt=>?_;clear p)
 rw [eqIsQuiet.eq_2]
 have hT:s.TypeIs (.ref a) "tuple" := ⟨o,e,c⟩
 refine wpAny_bind (wpAny_specialOf hT F.slot_tuple_eq.lookup ?_)
 refine wpAny_bind (wpAny_isInstance (T := "tuple") (b:=true) hT (by rw [isSubtype_type];kernel_rfl) ?_)
 rw [Qal (by decide)]
 refine wpAny_bind (wpAny_seqItems e d ?_)
 refine wpAny_bind (wpAny_forIn_array' _ (fun rest b s'=>(rest=[.int k.1 tk,.ref t]\/rest=[.ref t]\/rest=[])/\b=(none,())/\s'=s) _ ?_ ?_ _ _ ⟨.inl rfl,rfl,rfl⟩)
 ·(intro x rest b s' zq8;(refine Oe0a2 zq8 fun hr zo42 zo43=>?_;obtain rfl:=zo42;obtain rfl:=zo43;clear zq8))
  rcases hr with e1 | e1 | e1
  ·cases e1
   refine wpAny_bind ?_
   rw [eqIsQuiet_byValue 7 rfl]
   exact wpAny_pure (wpAny_pure ⟨.inr (.inl rfl),rfl,rfl⟩)
  ·cases e1
   exact wpAny_bind (vn 6 kt (wpAny_pure ⟨.inr (.inr rfl),rfl,rfl⟩))
  ·cases e1
 ·(intro b s' zq8;(refine Oe0a2 zq8 fun _ zo44 zo45=>?_;obtain rfl:=zo44;obtain rfl:=zo45;clear zq8))
  exact wpAny_pure h
end
noncomputable def uR(prog:Program)(w:World):HeapKind prog w (Int × List Int) where
 is:=IsPair prog w
 hash:=xU prog w
 draws:=fun k=>k.2.length + 3
 room:=fun A=>A.units + 1 < cLine
 inj:=fun p q=>p.inj q
 keeps:=fun p e hd s=>p.keeps e hd s
 pyHash:=fun hu p h=>p.pyHash hu h
 eqBool:=fun hu p q h=>p.eqBool hu q h
 quiet:=fun p h=>p.quiet h
section
variable {prog:Program}{w:World}{K:Type}[DecidableEq K]
end
structure KN(Kk:Type)[DecidableEq Kk] where
 knd:∀(P:Program) (w:World),HeapKind P w Kk
 hsh:Kk->Int
 at_:Hp->Kk->Addr->Prop
 hash_eq:∀P w k,(knd P w).hash k=hsh k
 ok:∀(P:Program) (w:World) (H:Hp) (h:Heap) (k:Kk) (a:Addr),HOk P w H h->at_ H k a->(knd P w).is h k a
 room:∀(P:Program) (w:World) (A:Around),A.units + 2 < cLine->(knd P w).room A.in1
 room0:∀(P:Program) (w:World) (A:Around),A.units + 2 < cLine->(knd P w).room A
 keep:∀(H H':Hp) (k:Kk) (a:Addr),(∀b xs,H b=some (.tup xs)->H' b=some (.tup xs))->at_ H k a->at_ H' k a
section
variable {Kk:Type}[DecidableEq Kk](kn:KN Kk)
noncomputable def entN(x:Kk × Addr × Value):DictEntry:={ hash:=kn.hsh x.1,key:=.ref x.2.1,val:=x.2.2 }
noncomputable def Zdq(d:Addr)(xs:List (Kk × Addr × Value))(h:Heap):Prop:=(d == sysModules)=false/\∃o es ep,h.get? d=some o/\o.ExactDict/\o.data=.dict es ep/\es.toList=xs.map (entN kn)
noncomputable def jh(H:Hp)(d:Addr)(kvs:List (Kk × V)):Prop:=(kvs.map (·.1)).Nodup/\kvs.length < sizeLine /\
 ((kvs=[]/\H d=some (.dK []))\/∃xs,H d=some (.ext (Zdq kn d xs))/\Paired (fun (p:Kk × V) (q:Kk × Addr × Value)=>p.1=q.1/\kn.at_ H q.1 q.2.1/\RelV p.2 q.2.2) kvs xs)
variable {kn}
theorem Zb2{P:Program}{w:World}(xs:List (Kk × Addr × Value)):xs.map (entryOfKey (kn.knd P w))=xs.map (entN kn):=by
 refine Qct fun x _=>?_
 show DictEntry.mk _ _ _=DictEntry.mk _ _ _
 rw [kn.hash_eq]
theorem Zdr{P:Program}{w:World}{H:Hp}{h:Heap}{d:Addr}{xs:List (Kk × Addr × Value)}(x:Zdq kn d xs h):Yq P w H h d (.ext (Zdq kn d xs)):=by
 obtain ⟨hm,o,es,ep,e,r⟩:=id x
 refine ⟨x,⟨o,e⟩,fun h1 h2 y k=>?_⟩
 obtain ⟨hm',o',es',ep',e',r'⟩:=y
 exact ⟨hm',o',es',ep',k _ e',r'⟩
theorem jh.dict{X:Cx}{pins:List (Addr × Obj)}{σ:St}{H:Hp}{s:Shared}{d:Addr}{kvs:List (Kk × V)}(n:jh kn H d kvs)(I:Inv X pins σ H s) :
  ∃xs,Heap.DictOfH (kn.knd X.prog X.w) s.heap d xs/\Paired (fun (p:Kk × V) (q:Kk × Addr × Value)=>p.1=q.1/\kn.at_ H q.1 q.2.1/\RelV p.2 q.2.2) kvs xs/\Mut (H d)/\(d == sysModules)=false:=by
 obtain ⟨hn,hl,h | h⟩:=n
 ·obtain ⟨rfl,e⟩:=h
  (refine Oe0a2 (Zdg I.hok e) fun z hd zo46=>?_;refine Oe1a1 zo46 fun vs rel dd=>?_;clear zo46)
  cases rel
  (refine Oe3a5 dd fun o es ep e1 ex e2 _ pr _=>?_;clear dd)
  have hes:es.toList=[]:=by
   generalize es.toList=l at pr
   cases pr
   rfl
  exact ⟨[],⟨o,es,ep,e1,ex,e2,hes,(fun x hx=>nomatch hx),Qdt⟩,.nil,by rw [e];exact True.intro,hd⟩
 ·(refine Oe1a1 h fun xs e pr=>?_;clear h)
  (refine Oe0a2 ((show Yq X.prog X.w H s.heap d (.ext (Zdq kn d xs)) from I.hok d _ e)) fun zo47 _ _=>?_;obtain ⟨hm,o,es,ep,e1,ex,e2,hes⟩:=zo47)
  refine ⟨xs,⟨o,es,ep,e1,ex,e2,by rw [hes,Zb2],fun x hx=>?_,?_⟩,pr,by rw [e];exact True.intro,hm⟩
  ·have go:∀{l:List (Kk × V)} {m:List (Kk × Addr × Value)},Paired (fun (p:Kk × V) (q:Kk × Addr × Value)=>p.1=q.1/\kn.at_ H q.1 q.2.1/\RelV p.2 q.2.2) l m->∀x∈m,kn.at_ H x.1 x.2.1:=by
    intro l m pr
    induction pr with
    | nil=>exact fun x hx=>nomatch hx
    | cons h _ ih =>
     intro x hx
     rcases Qaj.mp hx with rfl | hx
     ·exact h.2.1
     ·exact ih x hx
   exact kn.ok _ _ _ _ _ _ I.hok (go pr x hx)
  ·have go:∀{l:List (Kk × V)} {m:List (Kk × Addr × Value)},Paired (fun (p:Kk × V) (q:Kk × Addr × Value)=>p.1=q.1/\kn.at_ H q.1 q.2.1/\RelV p.2 q.2.2) l m->m.map (·.1)=l.map (·.1):=by
    intro l m pr
    induction pr with
    | nil=>rfl
    | cons h _ ih=>rw [Qa4,Qa4,ih,h.1]
   rw [go pr]
   exact hn
theorem Jy{P:Kk × V->Kk × Addr × Value->Prop}(hP:∀p q,P p q->p.1=q.1):∀{l:List (Kk × V)} {m:List (Kk × Addr × Value)},Paired P l m->∀k,(∀v,YH l k=some v->∃q,atKey m k=some q/\∃p,P p (k,q)/\p.2=v)/\(YH l k=none->atKey m k=none)
 | [],[],_,k=>⟨fun v h=>(by cases h),fun _=>rfl⟩
 | p::l,q::m,.cons h t,k=>by
  have ih:=Jy hP t k
  have e:=hP p q h
  by_cases hk:p.1=k
  ·have hq:q.1=k:=e.symm.trans hk
   have a1:atKey (q::m) k=some q.2:=by
    unfold atKey
    rw [Qcs,Qad hq]
    rfl
   have v1:YH (p::l) k=some p.2:=Yw hk
   refine ⟨fun v hv=>?_,fun hv=>?_⟩
   ·rw [v1] at hv
    cases hv
    exact ⟨q.2,a1,p,by rw [<-hq];exact h,rfl⟩
   ·rw [v1] at hv
    cases hv
  ·have hq:¬q.1=k:=fun z=>hk (e.trans z)
   have a1:atKey (q::m) k=atKey m k:=by
    unfold atKey
    rw [Qcs,Qab hq]
   have v1:YH (p::l) k=YH l k:=Yx hk
   rw [a1,v1]
   exact ih
theorem yq{X:Cx}{pins:List (Addr × Obj)}{σ:St}{H:Hp}{s:Shared}{d a:Addr}{k:Kk}{v:V}{u:Value}{kvs:List (Kk × V)}{xs:List (Kk × Addr × Value)}{h':Heap}{tk:Nat}(I:Inv X pins σ H s)(n:jh kn H d kvs)(hk:kn.at_ H k a)(rv:RelV v u)(hz:kvs.length + 1 < sizeLine)
  (pr:Paired (fun (p:Kk × V) (q:Kk × Addr × Value)=>p.1=q.1/\kn.at_ H q.1 q.2.1/\RelV p.2 q.2.2) kvs xs) (mu:Mut (H d)) (hm:(d == sysModules)=false) (hv:YH kvs k=none) (dd':Heap.DictOfH (kn.knd X.prog X.w) h' d (xs++[(k,a,u)])) (sb:Heap.SameBut d s.heap h') :
  ∃H',jh kn H' d (kvs++[(k,v)])/\(∀b o,H b=some o->b≠d->H' b=some o)/\(∃o,H'=upd H d o)/\Inv X pins σ H' { s with heap:=h',toks:=tk }:=by
 (refine Oe3a5 dd' fun o es ep e1 ex e2 hes _ _=>?_;clear dd')
 have df:Zdq kn d (xs++[(k,a,u)]) h':=⟨hm,o,es,ep,e1,ex,e2,by rw [hes,Zb2]⟩
 have tp:∀b ys,H b=some (.tup ys)->upd H d (.ext (Zdq kn d (xs++[(k,a,u)]))) b=some (.tup ys):=fun b ys e=>by
  rw [Zj fun z=>by rw [<-z,e] at mu;exact mu]
  exact e
 refine ⟨_,⟨?_,?_,.inr ⟨_,Za,?_⟩⟩,fun b o e hb=>by rw [Zj hb];exact e,⟨_,rfl⟩,xM I mu sb ⟨o,e1⟩ (Zdr df)⟩
 ·rw [Qbj,Qee]
  refine ⟨n.1,Qbu.mpr ⟨Qa0,Qdt⟩,fun y hy z hz q=>?_⟩
  rw [Qa4,Qdu,Qa5] at hz
  rw [q,hz] at hy
  refine Oe1a1 (Qbb.mp hy) fun x hx ex=>?_
  have ex2:x.1=k:=ex
  have:=xQ n.1 x hx
  rw [ex2,hv] at this
  cases this
 ·rw [Qac]
  exact hz
 ·have go:∀{l:List (Kk × V)} {m:List (Kk × Addr × Value)},Paired (fun (p:Kk × V) (q:Kk × Addr × Value)=>p.1=q.1/\kn.at_ H q.1 q.2.1/\RelV p.2 q.2.2) l m->Paired (fun (p:Kk × V) (q:Kk × Addr × Value)=>p.1=q.1/\kn.at_ (upd H d (.ext (Zdq kn d (xs++[(k,a,u)])))) q.1 q.2.1/\RelV p.2 q.2.2) (l++[(k,v)]) (m++[(k,a,u)]):=by
   intro l m pr
   induction pr with
   | nil=>exact .cons ⟨rfl,kn.keep _ _ _ _ tp hk,rv⟩ .nil
   | cons h _ ih=>exact .cons ⟨h.1,kn.keep _ _ _ _ tp h.2.1,h.2.2⟩ ih
  exact go pr
end
noncomputable def vB:V->Option Int
 | .int i=>some i
 | .bl b=>some (b2i b)
 | _=>none
theorem yr{P:Program}{w:World}:∀{vs:List V} {us:List Value} {ks:List Int},Vals vs us->vs.map vB=ks.map some->ItemsAre (YA P w) ks us
 | [],_,[],r,_=>by cases r;exact .nil
 | v::vs,_,k::ks,.cons h t,e=>by
  rw [Qa4,Qa4] at e
  injection e with e1 e2
  refine .cons ?_ (yr t e2)
  cases v with
  | int i =>
   obtain ⟨t,rfl⟩:=h
   cases e1
   exact Qb0 _
  | bl b =>
   cases (show _=Value.bool b from h)
   cases e1
   exact Qb0 _
  | _=>cases e1
noncomputable def wK(H:Hp)(ks:List Int)(a:Addr):Prop:=∃vs,H a=some (.tup vs)/\vs.map vB=ks.map some
theorem wK.is{P:Program}{w:World}{H:Hp}{h:Heap}{ks:List Int}{a:Addr}(ok:HOk P w H h)(b:wK H ks a):IsTupleKey (YA P w) h ks a:=by
 (refine Oe1a1 b fun vs e hv=>?_;clear b)
 obtain ⟨_,its,r,o,h1,h2,n,h3⟩:=(show Yq P w H h a (.tup vs) from ok a _ e)
 exact ⟨o,its.toArray,n,h1,h2,h3,by simpa using yr r hv⟩
noncomputable def Zb3(H:Hp)(k:Int × List Int)(a:Addr):Prop:=∃t,H a=some (.tup [.int k.1,.ref t])/\wK H k.2 t
noncomputable def knP:KN (Int × List Int) where
 knd:=uR
 hsh:=fun k=>reduceHash (Builtin.Tuple.tupleHashOf [hashInt k.1,reduceHash (Builtin.Tuple.tupleHashOf (k.2.map hashInt))])
 at_:=Zb3
 hash_eq:=fun P w k=>rfl
 ok:=fun P w H h k a ok ⟨t,e,b⟩=>by
  obtain ⟨_,its,r,o,h1,h2,n,h3⟩:=(show Yq P w H h a (.tup [.int k.1,.ref t]) from ok a _ e)
  cases r with
  | cons r1 r2 =>
  cases r2 with
  | cons r2 r3 =>
  cases r3
  obtain ⟨tk,rfl⟩:=r1
  cases (show _=Value.ref t from r2)
  exact ⟨o,n,t,tk,h1,h2,h3,b.is ok⟩
 room:=fun P w A hu=>by show A.units + 1 + 1 < cLine;lia
 room0:=fun P w A hu=>by show A.units + 1 < cLine;lia
 keep:=fun H H' k a hk ⟨t,e,vs,e2,hv⟩=>⟨t,hk _ _ e,vs,hk _ _ e2,hv⟩
section
variable {X:Cx}
variable {o e:Expr}{es:List Expr}{to:TE}{t:TA}{name:Str}{apos cpos:Pos}
end
section
variable {X:Cx}
noncomputable def rRngV:List V->Hp->VK->Prop:=fun xs H Q=>∃j:Int,xs=[.int j]/\∀p,H p=none->Q (.ref p) (upd H p (.rng 0 j))
theorem j7:XM X (.type "range") rRngV:=by
 intro pins s σ H xs us Q I r h
 (refine Oe1a1 h fun j zo48 q=>?_;obtain rfl:=zo48;clear h)
 (refine Oe1a1 (vals1 r) fun u zo49 ru=>?_;obtain rfl:=zo49)
 obtain ⟨t,rfl⟩:=ru
 refine call_range_1 ⟨.ref s.heap.objs.size,_,I.laid (fun b u e=>Heap.get?_push_of_some _ e) (Qah _) ?_,rfl,q _ I.fresh⟩
 exact ⟨_,_,_,Heap.get?_push_size _ rfl⟩
noncomputable def Zds:List V->Hp->VK->Prop:=fun xs H Q=>∃(p:Addr) (n:Nat),xs=[.ref p]/\H p=some (.rng 0 (n:Int))/\n<=1000000/\∀l,H l=none->Q (.ref l) (upd H l (.lst ((List.range n).map fun i:Nat=>V.int (i:Int))))
theorem j8 (hc:X.calm=true):XM X (.type "list") Zds:=by
 intro pins s σ H xs us Q I r h
 (refine Oe2a3 h fun p n zo50 e hn q=>?_;obtain rfl:=zo50;clear h)
 (refine Oe1a1 (vals1 r) fun u zo51 ru=>?_;obtain rfl:=zo51)
 cases ru
 refine Oe3a0 ((show Yq X.prog X.w H s.heap p (.rng 0 (n:Int)) from I.hok p _ e)) fun t u v hp=>?_
 have hsz:Builtin.Range.rangeSize 0 (n:Int) 1=(n:Int):=by
  unfold Builtin.Range.rangeSize
  rw [Qan (by decide)]
  split
  ·rw [Qbi]
   lia
  ·lia
 have hfit:∀z:Int,0<=z->z<=1000000->Builtin.Range.rangeFitsLong z=true:=fun z h1 h2=>by
  unfold Builtin.Range.rangeFitsLong
  simp only [Qbf,decide_eq_true_eq]
  lia
 have hsm:Builtin.Range.small 0 (n:Int) 1=true:=by
  unfold Builtin.Range.small
  rw [hsz,hfit 0 (by decide) (by decide),hfit n (by lia) (by lia),hfit 1 (by decide) (by decide),Qan (by decide),show (n:Int) + (1 - 1)=n by lia,hfit n (by lia) (by lia)]
  simp
 refine call_list_range (I.ok.hd hc) hp hsm hsz (by lia) fun h' tk acc c' hk hl it=>?_
 refine ⟨.ref s.heap.objs.size,_,I.laid hk (Qah _) ?_,rfl,q _ I.fresh⟩
 have hlen:acc.toList.length=n:=by rw [Qb9];exact it.1
 refine ⟨by rw [Qaa,Qao,sizeLine_eq];lia,acc.toList,c',?_,by simpa using hl⟩
 have go:∀(m:Nat) (us:List Value) (k:Nat),us.length=m->(∀j v,us[j]?=some v->∃t,v=Value.int ((k + j:Nat):Int) t)->Vals ((List.range' k m).map fun i:Nat=>V.int (i:Int)) us:=by
  intro m
  induction m with
  | zero =>
   intro us k hl _
   rw [Qcn hl]
   exact .nil
  | succ m ih =>
   intro us k hl hh
   cases us with
   | nil=>cases hl
   | cons u us =>
    rw [List.range'_succ,Qa4]
    refine .cons ?_ (ih us (k + 1) (by simpa using hl) fun j v hj=>?_)
    ·obtain ⟨t,e⟩:=hh 0 u rfl
     exact ⟨t,e⟩
    ·obtain ⟨t,e⟩:=hh (j + 1) v (by simpa using hj)
     exact ⟨t,by rw [e,show k + (j + 1)=k + 1 + j by lia]⟩
 rw [List.range_eq_range']
 refine go n acc.toList 0 hlen fun j v hj=>?_
 obtain ⟨t,e⟩:=it.2 j v (by rw [<-Array.getElem?_toList];exact hj)
 exact ⟨t,by rw [e,show (0:Int) + (j:Int) * 1=((0 + j:Nat):Int) by lia]⟩
end
end L2
namespace L2
theorem yt{A:PySem.Around}{k:Nat}(hr:Jf k A):A.units + 2 < PySem.cLine:=Qdn (Nat.add_le_add_left (by decide:2<=64) _) hr.units
open PySem PySem.Spec PyProof.Rows
section
variable {X:Cx}{params:Arguments}{body a:Expr}{scope:Scope}{lpos p pos:Pos}{c P g:Addr}{qual x:Str}{k kl:Nat}{gd:FuncData}{pg ps ys:List Str}{is:List Nat}{sp:Sp}{ta te:TE}{b:Expr}{tb:TE}
end
section
variable {κ:Type}[DecidableEq κ]
noncomputable def XR(l:List κ)(k:κ):List κ:=if k∈l then l else l++[k]
theorem JO{l:List κ}(h:l.Nodup)(k:κ):(XR l k).Nodup:=by
 unfold XR
 split
 ·exact h
 ·rename_i hk
  rw [Qee]
  exact ⟨h,Qbu.mpr ⟨Qa0,Qdt⟩,fun a ha b hb e=>hk (by rw [Qa5] at hb;rw [<-hb,<-e];exact ha)⟩
theorem yu{l:List κ}{k x:κ}:x∈XR l k↔x∈l\/x=k:=by
 unfold XR
 split
 ·rename_i h
  exact ⟨.inl,fun z=>z.elim id fun e=>e ▸ h⟩
 ·rw [Qbd,Qa5]
theorem uS(l:List κ)(k:κ):(XR l k).length<=l.length + 1:=by
 unfold XR
 split
 ·lia
 ·rw [Qac];exact Qah _
theorem uT(l:List κ)(k:κ):∃r,XR l k=l++r:=by
 unfold XR
 split
 ·exact ⟨[],(Qa3 _).symm⟩
 ·exact ⟨[k],rfl⟩
theorem xV(ks:List κ):∀l:List κ,∃r,ks.foldl XR l=l++r:=by
 induction ks with
 | nil=>exact fun l=>⟨[],(Qa3 _).symm⟩
 | cons k r ih =>
  intro l
  obtain ⟨a,ha⟩:=uT l k
  obtain ⟨b,hb⟩:=ih (XR l k)
  exact ⟨a++b,by rw [Qej,hb,ha,Qbs]⟩
theorem wL{l r:List κ}{k:κ}(h:k∈l):(l++r).idxOf k=l.idxOf k:=by rw [List.idxOf_append,Qan h]
theorem idx_map{α β:Type}[DecidableEq α][DecidableEq β](f:α->β)(hf:∀a b,f a=f b->a=b)(s:α):∀l:List α,(l.map f).idxOf (f s)=l.idxOf s
 | []=>rfl
 | x::r=>by
  rw [Qa4,Qd7,Qd7,idx_map f hf s r]
  by_cases h:x=s
  ·subst h
   rw [Qb0,Qb0]
  ·rw [Qbt.mpr h,Qbt.mpr fun z=>h (hf _ _ z)]
noncomputable def Wm(l:List κ):List (κ × V):=l.zipIdx.map fun p=>(p.1,V.int (p.2:Int))
theorem JP(l:List κ):(Wm l).map (·.1)=l:=by
 unfold Wm
 rw [Qbw]
 exact List.zipIdx_map_fst 0 l
theorem zE(l:List κ):(Wm l).length=l.length:=by
 unfold Wm
 rw [Qaa,List.length_zipIdx]
theorem xm(l:List κ)(k:κ):Wm (l++[k])=Wm l++[(k,V.int (l.length:Int))]:=by
 unfold Wm
 rw [List.zipIdx_append,Qbj]
 simp
theorem qa:∀(l:List κ) (k:κ),k∈l->l.Nodup->YH (Wm l) k=some (V.int (l.idxOf k:Int)):=by
 intro l k hk hn
 have hi:=Qda hk
 have hm:(k,V.int (l.idxOf k:Int))∈Wm l:=by
  unfold Wm
  refine Qbb.mpr ⟨(k,l.idxOf k),?_,rfl⟩
  rw [List.mem_zipIdx_iff_getElem?]
  simp [hi,Qai]
 have:=xQ (kvs:=Wm l) (by rw [JP];exact hn) _ hm
 exact this
theorem xn(l:List κ)(k:κ)(hk:k∉l):YH (Wm l) k=none:=by
 unfold YH
 rw [Option.map_eq_none_iff,List.find?_eq_none]
 intro x hx z
 have:x.1∈(Wm l).map (·.1):=Qbh hx
 rw [JP,Qbp z] at this
 exact hk this
end
end L2
namespace EnL
open PySem PySem.Spec PyProof.Rows
open AutoSeq1 (wpAny_loadPart')
section
variable {prog:Program}{w:World}{A:Around}{E:Value->Shared->Prop}{s:Shared}
end
end EnL
namespace L2
open PySem PySem.Spec PyProof.Rows
section
variable {κ β:Type}[DecidableEq κ][DecidableEq β]
theorem uU(f:κ->β)(l:List κ)(k:κ)(h:∀a∈l,f a=f k->a=k):XR (l.map f) (f k)=(XR l k).map f:=by
 unfold XR
 by_cases hk:k∈l
 ·rw [Qan hk,Qan (Qbh hk)]
 ·rw [Qal hk,Qal,Qbj]
  ·rfl
  ·intro z
   refine Oe1a1 (Qbb.mp z) fun a ha e=>?_
   exact hk (h a ha e ▸ ha)
theorem Zb4(f:κ->β)(s:κ):∀l:List κ,(∀a∈l,f a=f s->a=s)->(l.map f).idxOf (f s)=l.idxOf s
 | [],_=>rfl
 | x::r,h=>by
  rw [Qa4,Qd7,Qd7,Zb4 f s r fun a ha=>h a (Qag _ ha)]
  by_cases e:x=s
  ·subst e
   rw [Qb0,Qb0]
  ·rw [Qbt.mpr e,Qbt.mpr fun z=>e (h x Qaf z)]
theorem xo:∀{l1 l2:List κ},l1.Nodup->(∀x∈l1,x∈l2)->l1.length<=l2.length
 | [],_,_,_=>Qbg _
 | a::r,l2,h1,hs=>by
  rw [Qbu] at h1
  have ha:=hs a Qaf
  have:=xo (l1:=r) (l2:=l2.erase a) h1.2 fun x hx=>(List.mem_erase_of_ne (show x≠a from fun z=>h1.1 (z ▸ hx))).mpr (hs x (Qag _ hx))
  rw [List.length_erase_of_mem ha] at this
  have hp:=Qdp ha
  rw [Qa2]
  lia
end
section
variable {X:Cx}
end
section
variable {X:Cx}
end
section
variable {X:Cx}
theorem uV{Kk:Type}[DecidableEq Kk]{kn:KN Kk}{H:Hp}{kvs:List (Kk × V)}{xs:List (Kk × Addr × Value)}(pr:Paired (fun (p:Kk × V) (q:Kk × Addr × Value)=>p.1=q.1/\kn.at_ H q.1 q.2.1/\RelV p.2 q.2.2) kvs xs)(k:Kk):(atKey xs k).isSome=(YH kvs k).isSome:=by
 have pa:=Jy (fun p q h=>h.1) pr k
 cases hv:YH kvs k with
 | none=>rw [pa.2 hv];rfl
 | some x =>
  refine Oe1a1 (pa.1 x hv) fun q hq _=>?_
  rw [hq]
  rfl
noncomputable def rNInN:R2:=fun x y H Q=>∃(Kk:Type) (_:DecidableEq Kk) (kn:KN Kk) (d a:Addr) (k:Kk) (kvs:List (Kk × V)),x=.ref a/\y=.ref d/\jh kn H d kvs/\kn.at_ H k a/\Q (.bl (!(YH kvs k).isSome)) H
theorem wM(hu:X.A.units + 2 < cLine):OpR X (compareOp .NotIn) rNInN:=by
 intro pins s σ H x y v u Q I rx ry h
 obtain ⟨Kk,_,kn,d,a,k,kvs,rfl,rfl,n,hk,q⟩:=h
 cases rx
 cases ry
 refine Oe1a3 (n.dict I) fun xs dd pr mu hm=>?_
 refine wpAny_notIn_heap (kn.room _ _ _ hu) (kn.ok _ _ _ _ _ _ I.hok hk) hm dd ?_
 rw [uV pr]
 exact ⟨.bl _,H,I.tok _,rfl,q⟩
noncomputable def tNGet(td ty:TE):TE:=fun σ H Q=>td σ H fun x H1=>ty σ H1 fun y H2=>∃(Kk:Type) (_:DecidableEq Kk) (kn:KN Kk) (d a:Addr) (k:Kk) (kvs:List (Kk × V)) (v:V),x=.ref d/\y=.ref a/\jh kn H2 d kvs/\kn.at_ H2 k a/\YH kvs k=some v/\Q v H2
theorem Zdt{o i:Expr}{td ty:TE}{pos:Pos}(hu:X.A.units + 2 < cLine)(ho:QE X o td)(hi:QE X i ty)(hs:Zf2 i):QE X (.Subscript o i pos) (tNGet td ty):=⟨by
 intro pins s σ H Q I h
 refine wu PySem.F.slot_dict_getitem.lookup hs (thn (ho.out pins s σ H _ I h) fun u s1 ⟨x,H1,I1,rx,q1⟩=>thn (hi.out pins s1 σ H1 _ I1 q1) fun iv s2 zq9=>?_);obtain ⟨y,H2,I2,ry,Kk,_,kn,d,a,k,kvs,v,ex,ey,n,hk,hv,q2⟩:=zq9
 subst ex
 subst ey
 obtain rfl:u=Value.ref d:=rx
 obtain rfl:iv=Value.ref a:=ry
 refine Oe1a3 (n.dict I2) fun xs dd pr mu hm=>?_
 (refine Oe1a1 ((Jy (fun p q h=>h.1) pr k).1 v hv) fun q hq zo52=>?_;refine Oe1a1 zo52 fun p' hp' e=>?_;clear zo52)
 refine ⟨dd.typeIs,wpAny_getItem_heap (kn.room _ _ _ hu) (kn.ok _ _ _ _ _ _ I2.hok hk) dd hq ⟨v,H2,I2.tok _,e ▸ hp'.2.2,q2⟩⟩⟩
noncomputable def sNPut(td ty tv:TE):TS:=fun D σ H=>tv σ H fun v H1=>td σ H1 fun x H2=>ty σ H2 fun y H3=>∃(Kk:Type) (_:DecidableEq Kk) (kn:KN Kk) (d a:Addr) (k:Kk) (kvs:List (Kk × V)),x=.ref d/\y=.ref a/\jh kn H3 d kvs/\kn.at_ H3 k a/\YH kvs k=none/\kvs.length + 1 < sizeLine /\
 ∀H',jh kn H' d (kvs++[(k,v)])->(∀b o,H3 b=some o->b≠d->H' b=some o)->(∃o,H'=upd H3 d o)->D.nx σ H'
theorem Zdu{o i value:Expr}{td ty tv:TE}{pos pos':Pos}(hu:X.A.units + 2 < cLine)(ho:QE X o td)(hi:QE X i ty)(hv:QE X value tv)(hs:swapsWith value (some (.Subscript o i pos')) pos.line X.env=pure false):QS X (.Assign [.Subscript o i pos'] value pos) (sNPut td ty tv):=⟨by
 intro pins s σ H D I h
 refine wpAny_Assign_Subscript (thn (hv.out pins s σ H _ I h) fun r s1 ⟨v,H1,I1,rv,q1⟩=>thn (ho.out pins s1 σ H1 _ I1 q1) fun u s2 ⟨x,H2,I2,rx,q2⟩=>thn (hi.out pins s2 σ H2 _ I2 q2) fun iv s3 zq9=>?_) hs;obtain ⟨y,H3,I3,ry,Kk,_,kn,d,a,k,kvs,ex,ey,n,hk,hv,hz,q3⟩:=zq9
 subst ex
 subst ey
 obtain rfl:u=Value.ref d:=rx
 obtain rfl:iv=Value.ref a:=ry
 refine Oe1a3 (n.dict I3) fun xs dd pr mu hm=>?_
 have hno:atKey xs k=none:=(Jy (fun p q h=>h.1) pr k).2 hv
 refine wpAny_setItem_heap (kn.room _ _ _ hu) (kn.ok _ _ _ _ _ _ I3.hok hk) dd (fun h' dd' sb=>?_) (by rw [<-Paired.length pr];lia)
 rw [storedH_new hno] at dd'
 obtain ⟨H',n',k',o',I'⟩:=yq I3 n hk rv hz pr mu hm hv dd' sb
 exact ⟨σ,H',I',q3 H' n' k' o'⟩⟩
end
theorem ZY:∀(names:List (Str × NameKind)) (n:Nat) (acc:List (Str × Addr)),cellsFrom n names acc=cellsFrom n names []++acc
 | [],_,_=>rfl
 | (x,k)::r,n,acc=>by
  unfold cellsFrom
  split
  ·rw [ZY r (n + 1) ((x,n)::acc),ZY r (n + 1) [(x,n)],Qbs]
   rfl
  ·exact ZY r n acc
theorem JQ:∀(names:List (Str × NameKind)) (n:Nat) {x:Str} {c:Addr},(x,c)∈cellsFrom n names []->(x,NameKind.cell)∈names
 | [],_,_,_,h=>nomatch h
 | (y,k)::r,n,x,c,h=>by
  unfold cellsFrom at h
  split at h
  ·rename_i hk
   rw [ZY] at h
   rcases Qbd.mp h with h | h
   ·exact Qag _ (JQ r (n + 1) h)
   ·rcases Qaj.mp h with e | e
    ·cases e
     rw [beq_iff_eq.mp hk]
     exact Qaf
    ·cases e
  ·exact Qag _ (JQ r n h)
theorem XW{α:Type}{x:Str}:∀{l r:List (Str × α)},(l++r).lookup x=match l.lookup x with | some c=>some c | none=>r.lookup x
 | [],r=>rfl
 | (y,c)::l,r=>by
  rw [Qdh,Qa9,Qa9]
  cases x == y with
  | true=>rfl
  | false=>exact XW
section
variable {M:Model}{A:Around}{E:Value->Shared->Prop}{s:Shared}
theorem Zdv{scope:Scope}{globals:Addr}{closure:List (Str × Addr)}{binds:List (Str × Value)}{qual:Str}{func:Option Addr}{code:Value}{builtins:Addr}{Q:Env->Shared->Prop}
  (hk:scope.kind=.function) (hl:∀x∈binds,scope.names.lookup x.1=some .local)
  (hQ:∀h' tk,h'.Ns s.heap.objs.size (fun x=>binds.reverse.lookup x)->(∀b o,s.heap.get? b=some o->h'.get? b=some o)->(∀n c,(n,c)∈cellsFrom (s.heap.objs.size + 1) scope.names []->h'.IsCell c none/\s.heap.objs.size < c) ->
   ((cellsFrom (s.heap.objs.size + 1) scope.names []).Pairwise fun x y=>x.2≠y.2)->Q (newEnv scope s.heap.objs.size globals (cellsFrom (s.heap.objs.size + 1) scope.names closure) qual func code none builtins) { s with heap:=h',toks:=tk }) :
  wpAny M A (newFunctionEnv scope globals closure binds qual func code none builtins) Q E s:=by
 simp only [newFunctionEnv,Option.isSome_none,Qb4,Qc2]
 refine wpAny_bind (wpAny_alloc ?_)
 refine wpAny_bind (wpAny_layCells _ (fun name kind cells=>by cases hkc:kind == NameKind.cell <;> simp [hkc]) _ _ _ _ ?_)
 have ok:=cellsFrom_ok scope.names (s.heap.push { cls:=.type "frame",data:=.dict #[] }) (s.heap.objs.size + 1) [] ⟨fun _ _ hm=>(nomatch hm),List.Pairwise.nil⟩ (by rw [Heap.size_push];exact Qah _)
 rw [Heap.size_push] at ok
 rw [show ({ s with heap:=s.heap.push { cls:=.type "frame",data:=.dict #[] } }:Shared).heap.objs.size=s.heap.objs.size + 1 from Heap.size_push ..]
 refine wpAny_bind (wpAny_forIn_list _
  (fun rest _ s'=>∃done h',binds=done++rest/\s'={ s with heap:=h',toks:=s.toks + done.length }/\h'.Ns s.heap.objs.size (fun x=>done.reverse.lookup x) /\
   Heap.SameBut s.heap.objs.size (pushCells (s.heap.push { cls:=.type "frame",data:=.dict #[] }) scope.names) h') _ ?_ ?_ binds _
  ⟨[],_,rfl,rfl,(Heap.Ns.new s.heap (.type "frame")).keeps (pushCells_keeps _ _),Heap.SameBut.refl ..⟩)
 ·rintro ⟨name,v⟩ rest _ s' ⟨done,h',hb,rfl,hns,hsb⟩
  have hk':Env.kindOf { scope,locals:=s.heap.objs.size,globals,cells:=cellsFrom (s.heap.objs.size + 1) scope.names closure,qual,func,code,frame:=some s.heap.objs.size,builtins } name=some .local:=hl (name,v) (by rw [hb];simp)
  have hp:((scope.kind == .class) || ((scope.kind == .module) && (s.heap.objs.size != globals)))=false:=by rw [hk];rfl
  simp only [storeName_local hk' hp]
  refine wpAny_bind (wpAny_nsSet hns fun h'' hns' hsb'=>wpAny_pure ⟨done++[(name,v)],h'',by simp [hb],?_,?_,hsb.trans hsb'⟩)
  ·simp [Nat.add_assoc]
  ·rw [lookup_reverse_snoc];exact hns'
 ·(intro _ s' zq8;(refine Oe2a3 zq8 fun done h' hb zo53 hns hsb=>?_;obtain rfl:=zo53;clear zq8))
  rw [Qa3] at hb;subst hb
  refine wpAny_pure (hQ h' _ hns (fun b o e=>?_) (fun n c hm=>?_) ok.apart)
  ·exact hsb.extBut b o (Qbm (Heap.lt_size e)) (pushCells_keeps _ _ b o (Heap.get?_push_of_some _ e))
  ·obtain ⟨q1,q2⟩:=ok.empty n c hm
   exact ⟨q1.sameBut hsb (Qcw q2),q2⟩
end
structure Zdw(scope:Scope)(ps ls ys:List Str):Prop where
 kind:scope.kind=.function
 co:scope.isCoroutine=false
 gen:scope.isGenerator=false
 par:∀p∈ps,scope.names.lookup p=some .local
 free:∀y∈ys,scope.names.lookup y=some .free
 nd:(ps++(ls++ys)).Nodup
 ndn:(scope.names.map (·.1)).Nodup
noncomputable def cxN(P:Program)(w:World)(K:PySem.W.Frag)(mg:Str->Option Value)(base:Heap)(N:List Str)(qual:Str)(scope:Scope)(f:Addr)(cd:Value)(cl:List (Str × Addr))(A:Around)(outer:List Env)(s:Shared)(H:Hp):Cx where
 prog:=P
 w:=w
 K:=K
 mg:=mg
 base:=base
 A:=A.deeper (PySem.W.envX qual scope s.heap.objs.size f cd (cellsFrom (s.heap.objs.size + 1) scope.names cl))
 N:=N
 s₀:=s
 H₀:=H
 env:=PySem.W.envX qual scope s.heap.objs.size f cd (cellsFrom (s.heap.objs.size + 1) scope.names cl)
 outer:=outer
 stack:=PySem.W.envX qual scope s.heap.objs.size f cd (cellsFrom (s.heap.objs.size + 1) scope.names cl)::outer
 ex:=[]
 calm:=true
 fn:=fun x=>scope.names.lookup x == some .cell
 pn:=[]
 xe:=fun _ _=>False
noncomputable def Zb5(n m:Nat)(ts:TS)(cs:List Addr)(cv:List (Option V)):Sp:=fun vs H Q _=>vs.length=n/\ts { nx:=fun _ H'=>(∀c∈cs,H' c=none)->Q .non (Jw cs H H'),rt:=fun v H'=>(∀c∈cs,H' c=none)->Q v (Jw cs H H') } (vs.map some++(List.replicate m none++cv)) (hide cs H)
section
variable {P:Program}{w:World}{K:PySem.W.Frag}{mg:Str->Option Value}{base:Heap}
theorem xW{k:Nat}{f c':Addr}{name qual:Str}{params:Arguments}{body:List Stmt}{scope:Scope}{cl:List (Str × Addr)}{doc pm ctv:Value}{oc:Obj}{ps ls ys:List Str}{cv:List (Option V)}{ts:TS}{H:Hp}{cs:List Addr}
  (S:Zdw scope ps ls ys) (hf:H f=some (Jn (PySem.W.fnMade name qual params body scope cl doc pm c' ctv))) (hc:H c'=some (Jn oc)) (hoc:yn oc qual)
  (hcl:∀x c,cl.lookup x=some c->c∈cs) (hcs:∀c∈cs,∃o v,H c=some (Jn o)/\o.data=.cell v)
  (inj:∀x y c,cl.lookup x=some c->cl.lookup y=some c->x=y) (has:∀x,scope.names.lookup x=some .free->∃c,cl.lookup x=some c)
  (hcv:cv.length=ys.length) (hval:∀(i:Nat) (y:Str) (v:V),ys[i]?=some y->cv[i]?=some (some v)->∃c o u,cl.lookup y=some c/\H c=some (Jn o)/\o.data=.cell (some u)/\RelV v u)
  (hb:∀us:List Value,us.length=ps.length->bindArgs (PySem.W.fnX name qual params body scope cl .none .none doc pm none (.ref c') ctv) ⟨us,[]⟩=pure (ps.zip us))
  (hbody:∀(A:Around) (outer:List Env) (s:Shared) (H1:Hp),Jf k (A.deeper (PySem.W.envX qual scope s.heap.objs.size f (.ref c') (cellsFrom (s.heap.objs.size + 1) scope.names cl)))->PSs (cxN P w K mg base (ps++(ls++ys)) qual scope f (.ref c') cl A outer s H1) body ts) :
  X9 P w K mg base (k + 1) f H (Zb5 ps.length ls.length ts cs cv):=by
 refine ⟨⟨_,_,hf,rfl⟩,?_⟩
 intro A outer s H1 us vs Q E fz hr e0 r ht
 obtain ⟨hl,ht⟩:=ht
 have gf:s.heap.get? f=some (PySem.W.fnMade name qual params body scope cl doc pm c' ctv):=(e0.hok f _ (fz _ _ _ hf)).1
 have hcs1:∀c∈cs,∃o v,H1 c=some (Jn o)/\o.data=.cell v/\s.heap.get? c=some o:=fun c m=>by
  refine Oe2a1 (hcs c m) fun o v e d=>?_
  exact ⟨o,v,fz _ _ _ e,d,(e0.hok c _ (fz _ _ _ e)).1⟩
 have hcs2:∀c∈cs,∃o,H1 c=some (Jn o):=fun c m=>let ⟨o,_,e,_⟩:=hcs1 c m;⟨o,e⟩
 (refine Oe2a1 hoc fun vs0 t0 hd0 hv0=>?_;clear hoc)
 have lim:s.heap.NoLimit:=e0.mod.nolimit.keeps fun b o e=>(e0.bs b o e).1
 have lus:us.length=ps.length:=by rw [<-r.length];exact hl
 refine codeAny_call_function hr.depth gf rfl S.co S.gen rfl ⟨c',oc,vs0,t0,rfl,(e0.hok c' _ (fz _ _ _ hc)).1,hd0,hv0⟩ ?_
 rw [hb us lus]
 refine wpAny_pure (Zdv S.kind (fun x hx=>S.par _ (Qd5 hx).1) fun h₁ tk hns old hnew hap=>⟨lim.keeps old,codeAny_func ?_⟩)
 have ndp:ps.Nodup:=(Qee.mp S.nd).1
 have look:∀x c,(cellsFrom (s.heap.objs.size + 1) scope.names cl).lookup x=some c->((x,c)∈cellsFrom (s.heap.objs.size + 1) scope.names []/\(cellsFrom (s.heap.objs.size + 1) scope.names []).lookup x=some c)\/cl.lookup x=some c:=fun x c e=>by
  rw [ZY,XW] at e
  cases q:(cellsFrom (s.heap.objs.size + 1) scope.names []).lookup x with
  | none=>rw [q] at e;exact .inr e
  | some d=>rw [q] at e;cases e;exact .inl ⟨Qbr q,rfl⟩
 have lookFree:∀x,scope.names.lookup x=some .free->(cellsFrom (s.heap.objs.size + 1) scope.names cl).lookup x=cl.lookup x:=fun x hx=>by
  rw [ZY,XW]
  cases q:(cellsFrom (s.heap.objs.size + 1) scope.names []).lookup x with
  | none=>rfl
  | some d =>
   have m1:=JQ scope.names _ (Qbr q)
   have m2:=Qbr hx
   have:∀{l:List (Str × NameKind)},(l.map (·.1)).Nodup->(x,NameKind.cell)∈l->(x,NameKind.free)∈l->False:=fun {l} nd a b=>by
    induction l with
    | nil=>cases a
    | cons p l ih =>
     rw [Qa4,Qbu] at nd
     rcases Qaj.mp a with a | a <;> rcases Qaj.mp b with b | b
     ·rw [<-a] at b;cases b
     ·exact nd.1 (by rw [<-a];exact Qbh (f:=(·.1)) b)
     ·exact nd.1 (by rw [<-b];exact Qbh (f:=(·.1)) a)
     ·exact ih nd.2 a b
   exact (this S.ndn m1 m2).elim
 have oldC:∀x c,cl.lookup x=some c->c < s.heap.objs.size:=fun x c e=>by
  refine Oe2a2 (hcs1 c (hcl x c e)) fun o v _ _ g=>?_
  exact Heap.lt_size g
 have I:Inv (cxN P w K mg base (ps++(ls++ys)) qual scope f (.ref c') cl A outer s (hide cs H1)) [] (vs.map some++(List.replicate ls.length none++cv)) (hide cs H1) { s with heap:=h₁,toks:=tk }:=by
  have noA:∀b:Addr,b∉([]:List Addr):=fun b z=>nomatch z
  refine ⟨⟨e0.mod,S.kind,rfl,rfl,Qah _,fun x y c h1 h2=>?_,fun y hy=>?_,fun y c hy h=>?_,fun _=>hr.hd,Around.frames_deeper e0.frames,.inr ⟨rfl,rfl⟩,fun b z=>absurd z (noA b),fun b o e=>⟨(e0.bs b o e).1,?_⟩,e0.bsz,fun b _ _=>noA b,fun b z=>absurd z (noA b),e0.funs,fun b hb=>?_⟩,
   rfl,e0.bare,Un.kept old,⟨_,hns,fun i y v h1 h2 h3=>?_⟩,fun y c h=>?_,?_,fun y c h=>?_,fun p hp=>absurd (show p∈([]:List (Addr × Obj)) from hp) (by simp),(wD e0.hok hcs2).kept old,?_⟩
  ·rcases look x c h1 with ⟨m1,_⟩ | l1 <;> rcases look y c h2 with ⟨m2,_⟩ | l2
   ·exact name_of_addr hap m1 m2
   ·exact absurd (oldC y c l2) (Qeo.mpr (Qau (hnew x c m1).2))
   ·exact absurd (oldC x c l1) (Qeo.mpr (Qau (hnew y c m2).2))
   ·exact inj x y c l1 l2
  ·have hy:scope.names.lookup y=some .cell\/scope.names.lookup y=some .free:=hy
   rcases hy with hy | hy
   ·obtain ⟨c,e⟩:=GB (n:=s.heap.objs.size + 1) hy
    exact ⟨c,by show (cellsFrom (s.heap.objs.size + 1) scope.names cl).lookup y=_;rw [ZY,XW,e]⟩
   ·obtain ⟨c,e⟩:=has y hy
    exact ⟨c,by show (cellsFrom (s.heap.objs.size + 1) scope.names cl).lookup y=_;rw [lookFree y hy,e]⟩
  ·have hy:scope.names.lookup y=some .cell:=eq_of_beq (show (scope.names.lookup y == some .cell)=true from hy)
   obtain ⟨d,e⟩:=GB (n:=s.heap.objs.size + 1) hy
   have h':(cellsFrom (s.heap.objs.size + 1) scope.names cl).lookup y=some c:=h
   rw [ZY,XW,e] at h'
   cases h'
   exact Qau (hnew y _ (Qbr e)).2
  ·by_cases m:b∈cs
   ·exact XO m
   ·exact (ZQ m).trans (e0.bs b o e).2
  ·by_cases m:b∈cs
   ·exact XO m
   ·exact (ZQ m).trans (e0.frf b hb)
  ·by_cases hi:i < vs.length
   ·rw [Qa1 (by simpa using hi),Qap] at h2
    have ha:vs[i]?=some v:=by
     cases e:vs[i]? with
     | none=>rw [e] at h2;cases h2
     | some a=>rw [e] at h2;cases h2;rfl
    refine Oe1a1 (r.get ha) fun u hu rv=>?_
    have h1':(ps++(ls++ys))[i]?=some y:=h1
    rw [Qa1 (by lia)] at h1'
    exact ⟨u,rv,.inl ⟨S.par y (Qax h1'),vj ndp h1' hu lus.symm⟩⟩
   ·rw [Qas (by simpa using hi),Qaa] at h2
    have h1':(ps++(ls++ys))[i]?=some y:=h1
    rw [Qas (by lia),<-hl] at h1'
    by_cases hj:i - vs.length < ls.length
    ·rw [Qa1 (by rw [Qbn];exact hj),List.getElem?_replicate] at h2
     split at h2 <;> cases h2
    ·rw [Qas (by rw [Qbn];lia),Qbn] at h2
     rw [Qas (by lia)] at h1'
     refine Oe3a3 (hval _ y v h1' h2) fun c o u e1 e2 e3 rv=>?_
     have hfy:=S.free y (Qax h1')
     exact ⟨u,rv,.inr ⟨.inr hfy,c,(lookFree y hfy).trans e1,o,old _ _ (e0.hok c _ (fz _ _ _ e2)).1,e3⟩⟩
  ·rcases look y c h with ⟨m1,_⟩ | l1
   ·exact ⟨none,(hnew y c m1).1⟩
   ·refine Oe2a2 (hcs1 c (hcl y c l1)) fun o v _ d g=>?_
    exact ⟨v,o,old _ _ g,d⟩
  ·show hide cs H1 s.heap.objs.size=none
   by_cases m:s.heap.objs.size∈cs
   ·exact XO m
   ·rw [ZQ m];exact e0.hok.fresh (Qah _)
  ·rcases look y c h with ⟨m1,_⟩ | l1
   ·by_cases m:c∈cs
    ·exact XO m
    ·rw [ZQ m];exact e0.hok.fresh (Qau (hnew y c m1).2)
   ·exact XO (hcl y c l1)
  ·show (vs.map some++(List.replicate ls.length none++cv)).length=(ps++(ls++ys)).length
   rw [Qac,Qac,Qac,Qac,Qaa,Qbn,hl,hcv]
 refine wpAny_mono (hbody A outer s (hide cs H1) (hr.deeper _) [] _ _ _ _ I ht) (fun fl s' hs=>?_) fun _ _ z=>z.elim
 have nfr:∀c∈cs,c∉frs outer:=fun c m z=>by
  obtain ⟨o,e⟩:=hcs2 c m
  rw [e0.frf c z] at e;cases e
 have hh:∀d,H1 d=none->hide cs H1 d=none:=fun d n=>by
  by_cases m:d∈cs
  ·exact XO m
  ·rw [ZQ m];exact n
 have nm:∀d o,H1 d=some o->(∀ob,o≠Jn ob)->d∉cs:=fun d o e ne m=>by
  obtain ⟨ob,z⟩:=hcs2 d m
  rw [e] at z
  exact ne ob (Option.some.inj z)
 have fin:∀{σ':St} {H':Hp} {v:V} {u:Value},Inv (cxN P w K mg base (ps++(ls++ys)) qual scope f (.ref c') cl A outer s (hide cs H1)) [] σ' H' s'->RelV v u->((∀c∈cs,H' c=none)->Q v (Jw cs H1 H'))->CE outer P w H1 s Q u s':=fun {σ' H' v u} J rv q=>by
  have b:Un (frs outer) [] (hide cs H1) H' s.heap s'.heap:=J.base
  have Hn:∀c∈cs,H' c=none:=fun c m=>by
   refine Oe2a2 (hcs1 c m) fun o v e d g=>?_
   exact b.free c o g (XO m) (fun z=>nomatch z)
  refine ⟨v,Jw cs H1 H',J.os,J.bare,⟨fun d o e n hb hx=>b.keep d o e (hh d n) hb hx,fun d o e n hb hx=>b.slot d o e (hh d n) hb hx,fun d o e n hx=>?_,b.there,fun d xs e=>?_,fun d o u e=>?_,fun d pz e=>?_⟩,wF J.hok Hn fun c m=>?_,rv,q Hn⟩
  ·by_cases m:d∈cs
   ·rw [Jx m];exact n
   ·rw [Y0 m];exact b.free d o e (hh d n) hx
  ·have m:=nm d _ e (fun ob z=>nomatch z)
   rw [Y0 m];exact b.tups d xs (by rw [ZQ m];exact e)
  ·by_cases m:d∈cs
   ·rw [Jx m];exact e
   ·rw [Y0 m];exact b.frzs d o u (by rw [ZQ m];exact e)
  ·have m:=nm d _ e (fun ob z=>nomatch z)
   rw [Y0 m];exact b.tbls d pz (by rw [ZQ m];exact e)
  ·refine Oe2a2 (hcs1 c m) fun o v e d g=>?_
   exact ⟨o,e,b.keep c o g (XO m) (nfr c m) (fun z=>nomatch z)⟩
 cases fl with
 | ret u =>
  (refine Oe3a2 hs fun v σ' H' J rv q=>?_;clear hs)
  exact fin J rv q
 | next =>
  (refine Oe2a1 hs fun σ' H' J q=>?_;clear hs)
  exact fin (v:=V.non) (u:=Value.none) J rfl q
 | brk =>
  (refine Oe2a1 hs fun _ _ _ q=>?_;clear hs)
  exact False.elim q
 | cont =>
  (refine Oe2a1 hs fun _ _ _ q=>?_;clear hs)
  exact False.elim q
end
noncomputable def tDef(P:Addr)(lpos:Pos)(qual:Str)(obj:Addr->Value->Value->Obj)(i:Nat):TS:=fun D σ H=>YN H P lpos qual /\
 ∀(f c':Addr) (oc:Obj) (ctv doc:Value) (H2:Hp),H f=none->H2 f=some (Jn (obj c' ctv doc))->H2 c'=some (Jn oc)->yn oc qual->YN H2 P lpos qual->(∀b o,H b=some o->b≠P->H2 b=some o)->D.nx (σ.set i (some (.ref f))) H2
section
variable {X:Cx}{params:Arguments}{body:List Stmt}{scope:Scope}{lpos:Pos}{c P:Addr}{name qual:Str}
noncomputable abbrev xp (X:Cx) (name qual:Str) (params:Arguments) (body:List Stmt) (scope:Scope):Addr->Value->Value->Obj:=fun c' ctv doc=>PySem.W.fnMade name qual params body scope (qH X.env.cells scope.names []) doc ((X.mg "__name__").getD .none) c' ctv
theorem qs_def{i:Nat}{S0:Scope}(hN:X.N.Nodup)(hi:X.N[i]?=some name)(hx:Loc X.env.scope name)(hcode:X.env.code=.ref c)(C:PySem.W.CodeHd X.base c P)(B:xR X.mg X.base)(hd0:params.defaults=[])(hk0:params.kw_defaults=[])(han:annTrees params none X.env=[])(hq:qualnameIn X.env name name=qual)
  (hX:X.env.scope=S0) (hfr0:∀y∈scope.names,y.2=.free->S0.names.lookup y.1=some .cell) (hf:X.fn name=true\/X.env.scope.names.lookup name=some .local:=by first | exact .inl rfl | exact .inr rfl | assumption) :
  QS X (.FunctionDef name params body [] none [] scope none name lpos) (tDef P lpos qual (xp X name qual params body scope) i):=by
 have hfree:∀y∈scope.names,y.2=.free->X.env.scope.names.lookup y.1=some .cell:=fun y hy h=>by rw [hX];exact hfr0 y hy h
 refine ⟨?_⟩
 intro pins s σ H D I hw
 obtain ⟨hT,hq2⟩:=hw
 refine PySem.W.nestDef_K hd0 hk0 han ?_
 rw [hq]
 have hcl:closureFor scope X.env=pure (qH X.env.cells scope.names []):=JL fun y hy h=>I.ok.has y.1 (.inl (hfree y hy h))
 have hg:s.heap.Ns mainGlobals X.mg:=I.mod.glob.keeps I.bk
 obtain ⟨pz,hPs⟩:=hT.ex
 have baseP:X.base.get? P=none:=by
  cases e:X.base.get? P with
  | none=>rfl
  | some o=>rw [(I.bs P o e).2] at hPs;cases hPs
 have hgP:mainGlobals≠P:=fun e=>by
  refine Oe3a1 I.mod.glob fun o es ep g _=>?_
  rw [e,baseP] at g;cases g
 have hb:s.heap.BuiltinsAt X.mg P:=by
  refine Oe2a5 B.ex fun bm ob b1 b2 b3 b4 b5 b6=>?_
  refine ⟨bm,ob,b1,b2,fun e=>?_,(fun e=>by rw [e,baseP] at b3;cases b3),I.bk _ _ b3,b4,b5,b6⟩
  refine Oe3a2 I.mod.glob fun o es ep g hd _=>?_
  rw [<-e,b3] at g;cases g
  rw [b6] at hd;cases hd
 rcases hT with hT | ⟨c',oc,hT,hc',hoc⟩
 ·have hP:s.heap.get? P=some (PySem.W.tabObj #[]):=I.hok P _ hT
  refine PySem.W.makeFunction_K (mg:=X.mg) (ps:=#[]) hcl I.ok.glob hg hcode (C.keeps I.bk) hP trivial rfl hgP hb fun c' ctv doc h' tk hx' hge hlt hrec htb=>?_
  (refine Oe4a3 hrec fun c₂ oc vs t e2 hoc hd hv=>?_;clear hrec)
  cases e2
  have cn:H c'=none:=I.hok.fresh hge
  have cP:c'≠P:=fun e=>by rw [e,hT] at cn;cases cn
  have hsz:s.heap.objs.size<=h'.objs.size:=Qbe hge (Qau hlt)
  have I2:=uO (lpos:=lpos) (fo:=xp X name qual params body scope c' ctv doc) (tk:=tk) I hT hx' hge hlt hoc htb
  have fn:H h'.objs.size=none:=I.hok.fresh hsz
  have fc:c'≠h'.objs.size:=Qbm hlt
  have fP:P≠h'.objs.size:=Zo hT fn
  refine Jp I2 hN hi hx (v:=.ref h'.objs.size) rfl (fun s' I3=>⟨_,_,I3,hq2 _ c' oc ctv doc _ fn Za ?_ ⟨vs,t,hd,hv⟩ (.inr ⟨c',oc,?_,?_,⟨vs,t,hd,hv⟩⟩) fun b o e hbP=>?_⟩) hf
  ·rw [Zj fc];exact Za
  ·rw [Zj fP,Zj cP.symm];exact Za
  ·rw [Zj fc];exact Za
  ·rw [Zj (Zo e fn),Zj (Zo e cn),Zj hbP];exact e
 ·have hP:s.heap.get? P=some (PySem.W.tabObj #[rawInt lpos.line,rawInt lpos.col,.ref c']):=I.hok P _ hT
  have hfd:codeAmong lpos (#[rawInt lpos.line,rawInt lpos.col,.ref c']:Array Value).toList=some (.ref c'):=by
   show (if ((lpos.line:Int) == lpos.line && (lpos.col:Int) == lpos.col)=true then some (Value.ref c') else _)=_
   rw [Qb0,Qb0]
   rfl
  refine PySem.W.makeFunction_hit (mg:=X.mg) hcl I.ok.glob hg hcode (C.keeps I.bk) hP trivial hfd hb fun ctv doc h' tk hk hsz=>?_
  have I2:=I.laid (h':=h'.push (xp X name qual params body scope c' ctv doc)) (t':=tk) (a:=h'.objs.size) (o:=Jn (xp X name qual params body scope c' ctv doc)) (fun b u e=>Heap.get?_push_of_some _ (hk b u e)) hsz (GZ (Heap.get?_push_size _ rfl))
  have fn:H h'.objs.size=none:=I.hok.fresh hsz
  have sm:∀b o,H b=some o->upd H h'.objs.size (Jn (xp X name qual params body scope c' ctv doc)) b=some o:=fun b o e=>by rw [Zj (Zo e fn)];exact e
  exact Jp I2 hN hi hx (v:=.ref h'.objs.size) rfl (fun s' I3=>⟨_,_,I3,hq2 _ c' oc ctv doc _ fn Za (sm _ _ hc') hoc (.inr ⟨c',oc,sm _ _ hT,sm _ _ hc',hoc⟩) fun b o e _=>sm b o e⟩) hf
end
noncomputable def wN(X:Cx)(s:Shared)(H:Hp):Hp:=fun b=>if b∈cellsOf X.env.cells then (s.heap.get? b).map Jn else H b
section
variable {X:Cx}{pins:List (Addr × Obj)}{σ:St}{H:Hp}{s:Shared}
theorem j9(I:Inv X pins σ H s):∀d∈cellsOf X.env.cells,∃o v,wN X s H d=some (Jn o)/\o.data=.cell v/\s.heap.get? d=some o:=fun d m=>by
 obtain ⟨y,hy⟩:=X4.mp m
 refine Oe2a1 (I.cell y d hy) fun v o ho hd=>?_
 exact ⟨o,v,by unfold wN;rw [Qan m,ho];rfl,hd,ho⟩
theorem Jz{d:Addr}(m:d∉cellsOf X.env.cells):wN X s H d=H d:=Qal m
theorem JR(I:Inv X pins σ H s):∀d∈cellsOf X.env.cells,H d=none:=fun d m=>let ⟨y,hy⟩:=X4.mp m;I.freeC y d hy
theorem yw(I:Inv X pins σ H s):∀b o,H b=some o->wN X s H b=some o:=fun b o e=>by
 rw [Jz fun m=>by rw [JR I b m] at e;cases e]
 exact e
theorem jA{k:Nat}{g:Addr}{gd:FuncData}{pg:List Str}{sp:Sp}{Q:VK}{vs:List V}{us:List Value}(F:ZO X.prog X.w X.K X.mg X.base CX0 k g gd pg sp)(hr:Jf k X.A)(hb:Binds X.K gd pg [])(hfn:X.fn=fun _=>true)
  (I:Inv X pins σ H s) (rv:Vals vs us) (hsp:sp vs (wN X s H) (fun v H3=>Q v (hide (cellsOf X.env.cells) H3)) E0):wpAny (model X.prog X.w) X.A (call (.ref g) us) (EP X pins σ Q) X.xe s:=by
 have hcs:=j9 I
 have hn:=JR I
 have hsub:=yw I
 have nloc:∀d∈cellsOf X.env.cells,d≠X.env.locals:=fun d m e=>by
  refine Oe2a2 (hcs d m) fun o v _ hd g=>?_
  (refine Oe1a1 I.loc fun m' zo54 _=>?_;obtain ⟨o',es,ep,g',hd',_⟩:=zo54)
  rw [e,g'] at g
  cases g
  rw [hd'] at hd
  cases hd
 have above:∀d∈cellsOf X.env.cells,X.s₀.heap.objs.size<=d:=fun d m=>by
  obtain ⟨y,hy⟩:=X4.mp m
  exact I.ok.cab y d (by rw [hfn]) hy
 have nfr:∀d∈cellsOf X.env.cells,d∉frs X.stack:=fun d m z=>by
  rcases Qaj.mp (I.stkSub d z) with e | e
  ·exact nloc d m e
  ·obtain ⟨_,o,g,_⟩:=I.ok.funs.mem e
   exact absurd (Heap.lt_size g) (Qeo.mpr (above d m))
 have hok3:HOk X.prog X.w (wN X s H) s.heap:=fun b o e=>by
  by_cases m:b∈cellsOf X.env.cells
  ·refine Oe2a2 (hcs b m) fun ob v e' hd g=>?_
   rw [e'] at e;cases e
   exact GZ g
  ·rw [Jz m] at e
   exact (I.hok b o e).stay (fun _ _ _ q=>q) (fun d q=>hsub _ _ q) fun d xs q=>hsub _ _ q
 have e0:uw X.prog X.w X.K X.mg X.base X.A X.stack s (wN X s H):=by
  have z:=I.env0
  refine ⟨z.frames,z.mod,fun b o e=>⟨(z.bs b o e).1,?_⟩,z.bsz,z.funs,fun b hb=>?_,hok3,z.bare⟩
  ·rw [Jz fun m=>absurd (Heap.lt_size e) (Qeo.mpr (Qbe I.ok.bsz (above b m)))]
   exact (z.bs b o e).2
  ·rw [Jz fun m=>nfr b m hb]
   exact z.frf b hb
 have hlu:(us++[]).length=pg.length:=by rw [Qa3,<-rv.length];exact F.len _ _ _ _ hsp
 refine wpAny_call (codeAny_mono (F.run X.A X.stack s (wN X s H) ⟨us,[]⟩ us vs _ _ hr e0 (by simpa using hb s us I.kIn hlu) rv hsp) fun r s' hq=>?_)
 cases r with
 | error e=>exact hq.elim
 | ok fl =>
  cases fl with
  | next=>exact False.elim hq
  | brk=>exact False.elim hq
  | cont=>exact False.elim hq
  | ret uu =>
   (refine Oe2a5 hq fun v H4 os bare un hok4 rv4 q4=>?_;clear hq)
   have h4in:∀d∈cellsOf X.env.cells,∃o,H4 d=some (Jn o)/\s.heap.get? d=some o/\s'.heap.get? d=some o:=fun d m=>by
    refine Oe2a2 (hcs d m) fun o v e hd g=>?_
    have e4:=un.frzs d o _ e
    exact ⟨o,e4,g,(hok4 d _ e4).1⟩
   have h3none:∀d,H d=none->d∉cellsOf X.env.cells->wN X s H d=none:=fun d n m=>by rw [Jz m];exact n
   have nm:∀d o,H d=some o->d∉cellsOf X.env.cells:=fun d o e m=>by rw [hn d m] at e;cases e
   refine ⟨v,hide (cellsOf X.env.cells) H4,I.call' os ⟨fun d o e n hb hx=>?_,fun d o e n hb hx=>?_,fun d o e n hx=>?_,fun d o e hx=>un.there d o e hx,fun d xs e=>?_,fun d o u e=>?_,fun d pz e=>?_⟩ (wD hok4 fun d m=>let ⟨o,e,_⟩:=h4in d m;⟨o,e⟩) bare (fun _ z=>nomatch z),rv4,q4⟩
   ·by_cases m:d∈cellsOf X.env.cells
    ·refine Oe1a2 (h4in d m) fun o' _ g g'=>?_
     rw [e] at g;cases g
     exact g'
    ·exact un.keep d o e (h3none d n m) hb hx
   ·by_cases m:d∈cellsOf X.env.cells
    ·refine Oe1a2 (h4in d m) fun o' _ g g'=>?_
     rw [e] at g;cases g
     exact ⟨o.slots,g'⟩
    ·exact un.slot d o e (h3none d n m) hb hx
   ·by_cases m:d∈cellsOf X.env.cells
    ·exact XO m
    ·rw [ZQ m];exact un.free d o e (h3none d n m) hx
   ·rw [ZQ (nm d _ e)];exact un.tups d xs (hsub _ _ e)
   ·rw [ZQ (nm d _ e)];exact un.frzs d o u (hsub _ _ e)
   ·rw [ZQ (nm d _ e)];exact un.tbls d pz (hsub _ _ e)
theorem wO{scope:Scope}{ys:List Str}{is:List Nat}{N0:List Str}(I:Inv X pins σ H s)(hfree:∀y∈scope.names,y.2=.free->X.env.scope.names.lookup y.1=some .cell)(hfr:∀y∈ys,scope.names.lookup y=some .free)(hN:∀q∈ys.zip is,X.N[q.2]?=some q.1)(hlen:ys.length=is.length) :
  ∀(i:Nat) (y:Str) (v:V),ys[i]?=some y->(is.map fun i=>(σ[i]?).getD none)[i]?=some (some v)->∃c o u,(qH X.env.cells scope.names []).lookup y=some c/\wN X s H c=some (Jn o)/\o.data=.cell (some u)/\RelV v u:=by
 intro i y v h1 h2
 have hcl:∀y d,(qH X.env.cells scope.names []).lookup y=some d->X.env.cells.lookup y=some d :=
  GD (fun y hy h=>I.ok.has y.1 (.inl (hfree y hy h))) fun _ _ z=>by cases z
 rw [Qap] at h2
 cases hj:is[i]? with
 | none=>rw [hj] at h2;cases h2
 | some j =>
  rw [hj] at h2
  have h2'':(σ[j]?).getD none=some v:=Option.some.inj h2
  have hσ:σ[j]?=some (some v):=by
   cases q:σ[j]? with
   | none=>rw [q] at h2'';cases h2''
   | some z=>rw [q] at h2'';exact congrArg some h2''
  have hz:(y,j)∈ys.zip is:=by
   obtain ⟨a1,e1⟩:=Qae.mp h1
   obtain ⟨a2,e2⟩:=Qae.mp hj
   rw [<-e1,<-e2,<-Qeh (h:=by rw [Qei];lia)]
   exact Qc4 _
  have hf:=hfr y (Qax h1)
  have kc:X.env.kindOf y=some .cell:=hfree _ (yj hf) rfl
  refine Oe1a1 I.loc fun m hm' hl=>?_
  refine Oe1a1 (hl j y v (hN _ hz) hσ (.inr (.inl kc))) fun u r l=>?_
  rcases l with ⟨l1,_⟩ | ⟨_,d,l2,l3⟩
  ·rw [kc] at l1;cases l1
  ·obtain ⟨d',hd'⟩:=Jq (cells:=X.env.cells) (acc:=[]) hf
   have e:d'=d:=by have:=hcl y d' hd';rw [l2] at this;exact (Option.some.inj this).symm
   subst e
   (refine Oe1a1 l3 fun o ho hd=>?_;clear l3)
   refine Oe2a2 (j9 I d' (X4.mpr ⟨y,l2⟩)) fun o' v' e' _ g'=>?_
   rw [ho] at g';cases g'
   exact ⟨d',o,u,hd',e',hd,r⟩
end
noncomputable def tCallN(Pg:Program)(w:World)(K:PySem.W.Frag)(mg:Str->Option Value)(base:Heap)(k:Nat)(sp:Sp)(qual:Str)(obj:Addr->Value->Value->Obj)(ta:TA)(i n m:Nat)(is:List Nat)(ts:TS):TE:=fun σ H Q=>ta σ H fun vs H1 =>
 ∃(f c':Addr) (oc:Obj) (ctv doc:Value),σ[i]?=some (some (.ref f))/\H1 f=some (Jn (obj c' ctv doc))/\H1 c'=some (Jn oc)/\yn oc qual /\
 ∀(cs:List Addr) (H2:Hp),(∀c∈cs,H1 c=none)->(∀c∈cs,∃o,H2 c=some (Jn o))->(∀b o,H1 b=some o->H2 b=some o) ->
  X9 Pg w K mg base k f H2 (Zb5 n m ts cs (is.map fun i=>(σ[i]?).getD none))->sp vs H2 (fun v H3=>Q v (hide cs H3)) E0
structure Zfm(S0 scope:Scope)(N0 ps ls ys:List Str)(is:List Nat):Prop where
 sc:Zdw scope ps ls ys
 free:∀y∈scope.names,y.2=.free->S0.names.lookup y.1=some .cell
 vis:∀q∈ys.zip is,N0[q.2]?=some q.1
 len:ys.length=is.length
section
variable {X:Cx}{params:Arguments}{body:List Stmt}{scope:Scope}{p pos:Pos}{g:Addr}{name qual x:Str}{k kl:Nat}{gd:FuncData}{pg ps ls ys:List Str}{is:List Nat}{sp:Sp}{ts:TS}{e:Expr}{es:List Expr}{ta:TA}
theorem uW{i:Nat}(F:ZO X.prog X.w X.K X.mg X.base CX0 k g gd pg sp)(hr:Jf k X.A)(hg:Gl X x)(hm:X.mg x=some (.ref g))(hk:PySem.W.keepIn X.K (.ref g)=true)(hb:Binds X.K gd pg [])(hfn:X.fn=fun _=>true)
  (ha:QA X (e::es) ta) {S0:Scope} {N0:List Str} (hX:X.env.scope=S0) (hXN:X.N=N0) (LL:Zfm S0 scope N0 ps ls ys is)
  (hbind:∀(cl:List (Str × Addr)) (doc pm cv ctv:Value) (us:List Value),us.length=ps.length->bindArgs (PySem.W.fnX name qual params body scope cl .none .none doc pm none cv ctv) ⟨us,[]⟩=pure (ps.zip us))
  (hbody:∀(f c':Addr) (cl:List (Str × Addr)) (A:Around) (outer:List Env) (s:Shared) (H1:Hp),Jf kl (A.deeper (PySem.W.envX qual scope s.heap.objs.size f (.ref c') (cellsFrom (s.heap.objs.size + 1) scope.names cl)))->QSs (cxN X.prog X.w X.K X.mg X.base (ps++(ls++ys)) qual scope f (.ref c') cl A outer s H1) body ts)
  (hdb:(x == ("__debug__" : Str))=false:=by decide) (hp:(e::es).all Ys=true:=by rfl) :
  QE X (.Call (.Name x p) (e::es) [] pos) (tCallN X.prog X.w X.K X.mg X.base (kl + 1) sp qual (xp X name qual params body scope) ta i ps.length ls.length is ts):=by
 rw [Qcl,Qbf] at hp
 have S:=LL.sc
 have hfree:∀y∈scope.names,y.2=.free->X.env.scope.names.lookup y.1=some .cell:=fun y hy h=>by rw [hX];exact LL.free y hy h
 have hN:∀q∈ys.zip is,X.N[q.2]?=some q.1:=fun q hq=>by rw [hXN];exact LL.vis q hq
 refine ⟨?_⟩
 intro pins s σ H Q I hw
 refine wpAny_Call_Name_kw (jk I hg hm ?_ hdb)
 refine PySem.W.callWith_K (h₀:=X.base) I.ok.mod.kin hk (thn (ha.out pos pins s σ H _ I hw) fun us s1 ⟨vs,H1,I1,r,f,c',oc,ctv,doc,hσ,hf,hc',hoc,q⟩=>⟨I1.kIn,?_⟩) (Zy hp.1) (XU hp.2)
 have hcl:∀y d,(qH X.env.cells scope.names []).lookup y=some d->X.env.cells.lookup y=some d :=
  GD (fun y hy h=>I1.ok.has y.1 (.inl (hfree y hy h))) fun _ _ z=>by cases z
 have hsub:=yw I1
 have hcs:=j9 I1
 refine jA F hr hb hfn I1 r (q (cellsOf X.env.cells) (wN X s1 H1) (JR I1) (fun d m=>let ⟨o,_,e,_⟩:=hcs d m;⟨o,e⟩) hsub ?_)
 exact xW (ls:=ls) (ys:=ys) S (hsub _ _ hf) (hsub _ _ hc') hoc (fun y d h=>X4.mpr ⟨y,hcl y d h⟩) (fun d m=>let ⟨o,v,e,hd,_⟩:=hcs d m;⟨o,v,e,hd⟩) (fun y z d h1 h2=>I1.ok.inj y z d (hcl y d h1) (hcl z d h2)) (fun y h=>Jq h) (by rw [Qaa,LL.len])
  (wO (N0:=N0) I1 hfree S.free hN LL.len) (fun us hl=>hbind _ _ _ _ _ us hl) fun A outer s H1 hr=>(hbody f c' _ A outer s H1 hr).out
end
section
variable {X:Cx}
theorem QE.or{e:Expr}{t u:TE}(h:QE X e t)(g:QE X e u):QE X e (fun σ H Q=>t σ H Q\/u σ H Q):=⟨fun pins s σ H Q I z=>z.elim (h.out pins s σ H Q I) (g.out pins s σ H Q I)⟩
theorem QS.or{e:Stmt}{t u:TS}(h:QS X e t)(g:QS X e u):QS X e (fun D σ H=>t D σ H\/u D σ H):=⟨fun pins s σ H D I z=>z.elim (h.out pins s σ H D I) (g.out pins s σ H D I)⟩
noncomputable def Zdx(tk tv:TE):TE:=fun σ H Q=>∀d,H d=none->tk σ (upd H d (.dK [])) fun x H1=>tv σ H1 fun v H2=>∃(Kk:Type) (_:DecidableEq Kk) (kn:KN Kk) (a:Addr) (k:Kk),x=.ref a/\H2 d=some (.dK [])/\kn.at_ H2 k a /\
 ∀H',jh kn H' d [(k,v)]->(∀b o,H2 b=some o->b≠d->H' b=some o)->(∃o,H'=upd H2 d o)->Q (.ref d) H'
theorem wQ{pos:Pos}{k v:Expr}{tk tv:TE}(hu:X.A.units + 2 < cLine)(hk:QE X k tk)(hv:QE X v tv):QE X (.Dict [some k] [v] pos) (Zdx tk tv):=by
 refine ⟨fun pins s σ H Q I q=>?_⟩
 have hn:=I.hok.fresh (Qah s.heap.objs.size)
 have I1:=I.laid (a:=s.heap.objs.size) (o:=.dK []) (h':=s.heap.push { cls:=.type "dict",data:=.dict #[] }) (t':=s.toks) (fun _ _ q=>Heap.get?_push_of_some _ q) (Qah _) (xN s.heap I.big)
 refine wpAny_Dict_any rfl rfl (fun z=>nomatch z) (by show 1<=15;decide) (thn (pp1 hk hv pins _ σ _ _ I1 (q _ hn)) fun ws s2 zq9=>?_);(refine Oe5a4 zq9 fun x y u r H2 ew I2 rx ry zo55=>?_;obtain ⟨Kk,_,kn,a,kk,ex,e,ka,q2⟩:=zo55;clear zq9)
 subst ew ex
 cases (show u=Value.ref a from rx)
 have n:jh kn H2 s.heap.objs.size []:=⟨Qdt,(show 0 < sizeLine by decide),.inl ⟨rfl,e⟩⟩
 refine Oe1a3 (n.dict I2) fun xs dd pr mu hm=>?_
 cases pr
 unfold storeAll
 rw [Qc8]
 refine wpAny_bind (wpAny_bind (wpAny_dictSet_heap (hsz:=Qbg _) (kn.room0 _ _ _ hu) (kn.ok _ _ _ _ _ _ I2.hok ka) dd fun h' dd' hs=>wpAny_pure ?_))
 show wpAny _ _ (forIn ([]:List (Value × Value)) PUnit.unit _) _ _ _
 rw [Qds]
 rw [storedH_new rfl] at dd'
 obtain ⟨H',n',k',o',I'⟩:=yq I2 n ka ry (show 0 + 1 < sizeLine by decide) .nil mu hm rfl dd' hs
 exact wpAny_pure ⟨.ref s.heap.objs.size,H',I',rfl,q2 H' n' k' o'⟩
theorem PI.or{tg l:Expr}{t u:TI}(h:PI X tg l t)(g:PI X tg l u):PI X tg l (fun σ H R=>t σ H R\/u σ H R):=fun pins s σ H R I z=>z.elim (h pins s σ H R I) (g pins s σ H R I)
theorem QI.or{tg l:Expr}{t u:TI}(h:QI X tg l t)(g:QI X tg l u):QI X tg l (fun σ H R=>t σ H R\/u σ H R):=⟨PI.or h.out g.out⟩
end
section
variable {prog:Program}{w:World}{A:Around}{R:Result->Shared->Prop}{I:Addr}{fp wr:List Addr}{n:Nat}{P:Nat->Value->Prop}{St:Nat->Heap->Prop}{d:Value}
theorem Zdy(W:Walks prog w A.in1 I fp wr n P St)(bt:Nat->Nat->Bool)(hcmp:CmpOf prog w A.in1 .Gt P bt)(S:Addr)(hSf:S∉fp) :
  ∀(k j:Nat) (s:Shared) (vb:Value) (c:Nat),n - (j + 1)=k->j + 1<=n->St (j + 1) s.heap->P (argBest bt j) vb ->
  s.heap.get? S=some { cls:=.type "list",dict:=none,data:=.seq #[vb,vb] c,slots:=#[] } ->
  (∀v h' tk,P (argBest bt (n - 1)) v->(∀b o,b∉wr->b≠S->s.heap.get? b=some o->h'.get? b=some o)->R (.ok (.ret v)) { s with heap:=h',toks:=tk }) ->
  codeAny (model prog w) A (.builtin "max.loop" ⟨[.ref I,.none,.ref S],[("default",d)]⟩) R s:=by
 have hSw:S∉wr:=fun h=>hSf (W.sub _ h)
 have hname:(toString "max" ++ toString ".loop" : String) = "max.loop" := by decide
 intro k
 induction k with
 | zero =>
  intro j s vb c hk hj hst hPb hS hR
  have hin:j + 1=n:=by lia
  refine codeAny_builtin Qdq ?_
  rw [Around.under_plainId Qb5 _]
  show wpAny _ A.in1 (seqItems? (.ref S) >>= _) _ _ s
  refine wpAny_bind (wpAny_seqItems hS rfl ?_)
  show wpAny _ A.in1 (tryCatch (pyNext (.ref I)) _ >>= _) _ _ s
  refine wpAny_bind (wpAny_tryCatch (W.done s _ _ (hin ▸ hst) fun h' tk hk'=>?_))
  have hS':=hk' S _ hSw hS
  show wpAny _ A.in1 (updateSeq S (fun _=>#[]) >>= _) _ _ _
  refine wpAny_bind ?_
  refine wpAny_updateSeq hS' rfl (wpAny_bind (wpAny_letGo (wpAny_pure ?_)))
  refine hR vb _ tk (by rw [<-hin];exact hPb) fun b o hbw hbS e=>(Heap.get?_update_other _ _ (Qcx hbS)).trans (hk' b o hbw e)
 | succ k ih =>
  intro j s vb c hk hj hst hPb hS hR
  have hlt:j + 1 < n:=by lia
  refine codeAny_builtin Qdq ?_
  rw [Around.under_plainId Qb5 _]
  show wpAny _ A.in1 (seqItems? (.ref S) >>= _) _ _ s
  refine wpAny_bind (wpAny_seqItems hS rfl ?_)
  show wpAny _ A.in1 (tryCatch (pyNext (.ref I)) _ >>= _) _ _ s
  refine wpAny_bind (wpAny_tryCatch (W.item (j + 1) s _ _ hlt hst fun v h' tk hP hst' hk'=>?_))
  have hS':=hk' S _ hSw hS
  show wpAny _ A.in1 (tryCatch (holding [v,v] (richCompare .Gt v vb >>= _)) _ >>= _) _ _ _
  refine wpAny_bind (wpAny_tryCatch (wpAny_holding (wpAny_bind (hcmp (j + 1) (argBest bt j) v vb _ _ _ hP hPb ?_))))
  refine wpAny_bind (wpAny_holding (wpAny_truthy_bool ?_))
  refine wpAny_bind (wpAny_letGo (wpAny_pure ?_))
  cases hb:bt (j + 1) (argBest bt j) with
  | true =>
   simp only [Qdy]
   refine wpAny_bind ?_
   refine wpAny_updateSeq hS' rfl (wpAny_bind (wpAny_letGo ?_))
   rw [hname]
   refine wpAny_pure ⟨plainId_quiet Qb5 _,ih (j + 1) _ v _ (by lia) hlt (W.frame _ _ _ hst' fun b hbf o e=>?_) (by simp only [argBest,hb,Qdy];exact hP) (Heap.get?_update_self _ hS' rfl)
    fun v' h'' tk'' hP' hk''=>?_⟩
   ·exact (Heap.get?_update_other _ _ (fun h:S=b=>hSf (by rw [h];exact hbf))).trans e
   ·exact hR v' h'' tk'' hP' fun b o hbw hbS e=>hk'' b o hbw hbS ((Heap.get?_update_other _ _ (Qcx hbS)).trans (hk' b o hbw e))
  | false =>
   simp only [Qb4,Qc2]
   refine wpAny_bind (wpAny_letGo ?_)
   rw [hname]
   refine wpAny_pure ⟨plainId_quiet Qb5 _,ih (j + 1) _ vb c (by lia) hlt hst' (by simp only [argBest,hb,Qb4,Qc2];exact hPb) hS' fun v' h'' tk'' hP' hk''=>?_⟩
   exact hR v' h'' tk'' hP' fun b o hbw hbS e=>hk'' b o hbw hbS (hk' b o hbw e)
theorem uX(W:Walks prog w A.in1 I fp wr n P St)(bt:Nat->Nat->Bool)(hcmp:CmpOf prog w A.in1 .Gt P bt)(S:Addr)(hSf:S∉fp){s:Shared}{c:Nat}(hst:St 0 s.heap)
  (hS:s.heap.get? S=some { cls:=.type "list",dict:=none,data:=.seq #[] c,slots:=#[] })
  (h0:n=0->∀h' tk,(∀b o,b∉wr->b≠S->s.heap.get? b=some o->h'.get? b=some o)->R (.ok (.ret d)) { s with heap:=h',toks:=tk })
  (hR:0 < n->∀v h' tk,P (argBest bt (n - 1)) v->(∀b o,b∉wr->b≠S->s.heap.get? b=some o->h'.get? b=some o)->R (.ok (.ret v)) { s with heap:=h',toks:=tk }) :
  codeAny (model prog w) A (.builtin "max.loop" ⟨[.ref I,.none,.ref S],[("default",d)]⟩) R s:=by
 have hSw:S∉wr:=fun h=>hSf (W.sub _ h)
 have hname:(toString "max" ++ toString ".loop" : String) = "max.loop" := by decide
 refine codeAny_builtin Qdq ?_
 rw [Around.under_plainId Qb5 _]
 show wpAny _ A.in1 (seqItems? (.ref S) >>= _) _ _ s
 refine wpAny_bind (wpAny_seqItems hS rfl ?_)
 show wpAny _ A.in1 (tryCatch (pyNext (.ref I)) _ >>= _) _ _ s
 by_cases hn:0 < n
 ·refine wpAny_bind (wpAny_tryCatch (W.item 0 s _ _ hn hst fun v h' tk hP hst' hk'=>?_))
  have hS':=hk' S _ hSw hS
  show wpAny _ A.in1 (updateSeq S (fun _=>#[v,v]) >>= _) _ _ _
  refine wpAny_bind ?_
  refine wpAny_updateSeq hS' rfl ?_
  rw [hname]
  refine wpAny_pure ⟨plainId_quiet Qb5 _,Zdy W bt hcmp S hSf _ 0 _ v _ rfl hn (W.frame _ _ _ hst' fun b hbf o e=>?_) hP (Heap.get?_update_self _ hS' rfl) fun v' h'' tk'' hP' hk''=>?_⟩
  ·exact (Heap.get?_update_other _ _ (fun h:S=b=>hSf (by rw [h];exact hbf))).trans e
  ·exact hR hn v' h'' tk'' hP' fun b o hbw hbS e=>hk'' b o hbw hbS ((Heap.get?_update_other _ _ (Qcx hbS)).trans (hk' b o hbw e))
 ·have hn0:n=0:=by lia
  refine wpAny_bind (wpAny_tryCatch (W.done s _ _ (by rw [hn0];exact hst) fun h' tk hk'=>?_))
  refine wpAny_bind (wpAny_rule (wpAny_pure ?_))
  exact h0 hn0 h' tk fun b o hbw _ e=>hk' b o hbw e
end
theorem uY (a v:Value):argsOk "max" ⟨[a],[(Str.ofString "default",v)]⟩:=by unfold argsOk;kernel_rfl
section
variable {prog:Program}{w:World}{A:Around}{E:Value->Shared->Prop}{s:Shared}{l:Addr}{xs:Array (Int × Tok)}{d:Value}
theorem wR{Q:Value->Shared->Prop}(hh:A.handled=none)(hl:s.heap.IsList l (intItems xs))(h0:xs.size=0->∀h' tk,(∀b o,s.heap.get? b=some o->h'.get? b=some o)->Q d { s with heap:=h',toks:=tk })
  (h:0 < xs.size->∀v h' tk,(intItems xs)[argBest (fun i j=>decide (numAt xs i > numAt xs j)) (xs.size - 1)]?=some v->(∀b o,s.heap.get? b=some o->h'.get? b=some o)->Q v { s with heap:=h',toks:=tk }) :
  wpAny (model prog w) A (call (.builtin "max") [.ref l] [(Str.ofString "default",d)]) Q E s:=by
 have hname:(toString "max" ++ toString ".loop" : String) = "max.loop" := by decide
 refine PyProof.Rows.kmk_tree PySem.F.kind_max PySem.F.plain_max PySem.F.entry_max (uY _ _) ?_
 show wpAny _ A.in1 (Builtin.Builtins.bindParams "max" ["key","default"] 0 ⟨[],[(Str.ofString "default",d)]⟩ >>= _) _ _ s
 refine wpAny_bind (wpAny_of_eq (show Builtin.Builtins.bindParams "max" ["key","default"] 0 ⟨[],[(Str.ofString "default",d)]⟩=pure [none,some d] from rfl) ?_)
 refine wpAny_bind (wpAny_pure ?_)
 refine wpAny_bind (iter_intList hl fun s₂ e st hfp hlI=>?_)
 subst e
 refine wpAny_bind (wpAny_newObj_type ?_)
 rw [hname]
 have W:=Walks.list (prog:=prog) (w:=w) (A:=A.in1) hh _ l hlI (intItems xs)
 have hsz:(intItems xs).size=xs.size:=by simp [intItems]
 refine wpAny_pure ⟨plainId_quiet Qb5 _,uX W _ (CmpOf.ints_gt (numAt xs) (fun _ _=>intItems_at)) _ (fun hm=>Qb1 _ (hfp _ hm)) (W.frame _ _ _ st fun b _ o e=>Heap.get?_push_of_some _ e) (Heap.get?_push_size _ rfl) (fun hn h' tk hk=>?_) fun hn v h' tk hP hk=>?_⟩
 ·exact h0 (by rw [<-hsz];exact hn) h' tk (old_kept fun b o hb e=>hk b o hb (Qbm (Heap.lt_size e)) (Heap.get?_push_of_some _ e))
 ·exact h (by rw [<-hsz];exact hn) v h' tk (by simpa [intItems] using hP) (old_kept fun b o hb e=>hk b o hb (Qbm (Heap.lt_size e)) (Heap.get?_push_of_some _ e))
end
section
variable {X:Cx}
noncomputable def tMaxD(K:PySem.W.Frag)(ta td:TE):TE:=fun σ H Q=>ta σ H fun x H1=>td σ H1 fun y H2=>∃(p:Addr) (ns:List Int),x=.ref p/\SqL K H2 p (ns.map V.int)/\(ns=[]->Q y H2)/\∀m∈ns,(∀n∈ns,n<=m)->Q (.int m) H2
theorem Zdz {a dv:Expr} {ta td:TE} {p pos kp:Pos} (hc:X.calm=true) (hg:Gl X "max") (hm:X.mg "max" = none) (ha:QE X a ta) (hd:QE X dv td) (hp:Ys a=true:=by rfl) :
  QE X (.Call (.Name "max" p) [a] [⟨some "default",dv,kp⟩] pos) (tMaxD X.K ta td):=by
 refine ⟨fun pins s σ H Q I hw=>?_⟩
 refine wpAny_Call_Name_kw (Gb I hg hm Zbx ?_ (by decide))
 have hs:=Zy (rest:=[]) (env:=X.env) hp
 refine callWith_kw ?_ (by rw [hs];rfl) (by rw [hs];rfl)
 rw [hs]
 show wpAny _ _ (spliced ((false,eval a X.env)::backTo pos (starEach [] X.env))) _ _ s
 refine Calls.spliced_cons (thn (ha.out pins s σ H _ I hw) fun u s1 zq9=>?_);obtain ⟨x,H1,I1,r1,q1⟩:=zq9
 refine Calls.spliced_nil (kws_cons (thn (hd.out pins s1 σ H1 _ I1 q1) fun u2 s2 zq9=>kws_nil ?_));obtain ⟨y,H2,I2,r2,p,ns,ex,hq,hz,q⟩:=zq9
 subst ex
 cases r1
 refine Oe1a2 (I2.list hq) fun its r' pl hz'=>?_
 have hi:IntsAre its ns:=intsAre_of r'
 obtain ⟨xs,hx⟩:=hi.allInts.items
 have hl':s2.heap.IsList p (intItems xs):=hx ▸ pl.isList
 have e1:ns=xs.toList.map (·.1):=by
  rw [<-nums_intItems,<-hx]
  exact (show numsOf its.toArray.toList=ns from hi.numsOf).symm
 refine wR (I2.ok.hd hc) hl' (fun h0 h' tk hk=>⟨y,H2,I2.kept hk,r2,hz ?_⟩) fun hsz v h' tk hv hk=>?_
 ·rw [e1,show xs.toList=[] from Qcn (by rw [Qb9];exact h0)]
  rfl
 have hb:=argBest_gt (numAt xs) (xs.size - 1)
 generalize argBest (fun i j=>decide (numAt xs i > numAt xs j)) (xs.size - 1)=b at hv hb
 have hbl:b < xs.size:=by lia
 have at_:∀j (hj:j < xs.size),numAt xs j=xs[j].1/\(intItems xs)[j]?=some (.int xs[j].1 xs[j].2):=by
  intro j hj
  exact ⟨by simp [numAt,hj],by simp [intItems,hj]⟩
 obtain ⟨n1,n2⟩:=at_ b hbl
 rw [n2] at hv
 cases hv
 refine ⟨.int xs[b].1,H2,I2.kept hk,⟨_,rfl⟩,q _ ?_ fun n hn=>?_⟩
 ·rw [e1]
  exact Qbb.mpr ⟨xs[b],by simp,rfl⟩
 ·rw [e1] at hn
  (refine Oe1a1 (Qbb.mp hn) fun y hy zo56=>?_;obtain rfl:=zo56)
  obtain ⟨j,hj⟩:=List.getElem?_of_mem hy
  have hj2:j < xs.size:=by
   have:=(Qae.mp hj).1
   rwa [Qb9] at this
  have:=hb.2 j (by lia)
  rw [(at_ j hj2).1,n1] at this
  have ej:xs[j]=y:=by
   have:=(Qae.mp hj).2
   simpa using this
  rw [ej] at this
  exact this
noncomputable def Zfn:V->List V->Hp->VK->Prop:=fun x xs H Q=>∃i:Int,x=.int i/\xs=[]/\Q (.int ((Builtin.Int.intBits i:Nat):Int)) H
theorem Zd0:MtR X "int.bit_length" Zfn:=by
 intro pins s σ H x xs v us Q I rx r h
 (refine Oe1a2 h fun i zo57 zo58 q=>?_;obtain rfl:=zo57;obtain rfl:=zo58;clear h)
 obtain ⟨t,rfl⟩:=rx
 cases r
 exact call_int_bit_length ⟨.int _,H,I.tok _,⟨_,rfl⟩,q⟩
end
theorem vo {X:Cx} {p pos:Pos} {t:TA} {tg a b:Expr} (hg:Gl X "range") (hm:X.mg "range" = none) (ha:QA X [a,b] t) (hp:Ys a=true:=by rfl) (hp2:Ys b=true:=by rfl):QI X tg (.Call (.Name "range" p) [a,b] [] pos) (Ze3 t) :=
 ⟨ku hg hm ha.out (by rw [Zy hp,Zy hp2];rfl) (by rw [Zy hp2];rfl)⟩
end L2
namespace Lw
open PySem L2
noncomputable def top(i:Nat):Stmt:=PySem.Challenge.pw_everywidth_k17_whole_machines_put_togeth.main.body.getD i (.Pass ⟨0,0,0,0⟩)
noncomputable abbrev Xu:Stmt:=top 1
noncomputable abbrev Xc:Stmt:=top 2
noncomputable abbrev Y1:Stmt:=top 7
noncomputable abbrev Ye:Stmt:=top 8
noncomputable abbrev Xd:Stmt:=top 14
noncomputable abbrev Xv:Stmt:=top 18
noncomputable abbrev Y2:Stmt:=top 20
noncomputable abbrev Yu:Stmt:=top 23
noncomputable abbrev ZN:Stmt:=top 28
noncomputable abbrev X5:Stmt:=top 29
noncomputable abbrev Y3:Stmt:=top 31
noncomputable abbrev Y4:Stmt:=top 32
noncomputable abbrev Xw:Stmt:=top 34
noncomputable abbrev Xx:Stmt:=top 35
noncomputable abbrev Yo:Stmt:=top 36
noncomputable abbrev XX:Stmt:=top 38
noncomputable abbrev XY:Stmt:=top 39
noncomputable abbrev YJ:Stmt:=top 40
noncomputable abbrev Yf:Stmt:=top 42
noncomputable abbrev XZ:Stmt:=top 44
noncomputable abbrev YK:Stmt:=top 45
noncomputable abbrev Xy:Stmt:=top 9
noncomputable abbrev Yb:Stmt:=top 15
noncomputable abbrev Xe:Stmt:=top 17
noncomputable abbrev Y5:Stmt:=top 19
noncomputable abbrev Yz:Stmt:=top 33
noncomputable abbrev Wa:Stmt:=top 37
noncomputable abbrev Yv:Stmt:=top 41
noncomputable abbrev Yp:Stmt:=top 11
noncomputable abbrev Xf:Stmt:=top 43
noncomputable abbrev Wb:Stmt:=top 16
noncomputable abbrev ZU:Stmt:=top 22
noncomputable abbrev Z8:Stmt:=top 27
noncomputable abbrev YL:Stmt:=top 25
noncomputable abbrev Yg:Stmt:=top 26
noncomputable abbrev Yh:Stmt:=top 46
noncomputable abbrev ZS:Stmt:=top 47
noncomputable abbrev qI:Stmt:=top 48
noncomputable def Zw:Pos:=⟨119,4,123,77⟩
noncomputable def Zu:Str:=(("machine_telling" : Str) ++ ".<locals>.") ++ "step_of"
noncomputable abbrev YS:Stmt:=(Zz Z8).getD 3 (.Pass ⟨0,0,0,0⟩)
theorem Zc{H:Hp}{p:Addr}{o:HO}(h:H p=none):ZT H (upd H p o):=fun b u e=>by rw [Zj (Zo e h)];exact e
theorem Wn(w:Nat):(0:Int) < 2 ^ w:=by
 have h2:((2:Int) ^ w)=(((2:Nat) ^ w:Nat):Int):=by rw [Qek];rfl
 have:=Nat.two_pow_pos w
 rw [h2]
 lia
theorem pow_succ'(w:Nat):(2:Int) ^ (w + 1)=2 ^ w * 2:=Qbq 2 w
noncomputable def qJ(w:Nat)(r:Int):List Int:=(List.range w).map fun i=>r / 2 ^ i % 2
theorem wU{t u:TS}{D:Ends}{r:VK}{b c:St->Hp->Prop}{σ:St}{H:Hp}(J:St->Hp->Prop)(h1:∀N:St->Hp->Prop,(∀σ H,J σ H->N σ H)->t { D with nx:=N } σ H)(h2:∀σ H,J σ H->u D σ H):({ nx:=Yi t u D,rt:=r,bk:=b,ct:=c }:Ends).nx σ H:=h1 _ h2
theorem Zk{i:Nat}{v:V}{σ:St}{H:Hp}{Q:St->Hp->Prop}(h:Q (σ.set i (some v)) H):GQ i v σ H Q:=h
theorem yx{α:Type}{P:α->Prop}{l:List α}{y:α}(h:∀x∈l,P x)(hy:P y):∀x∈l++[y],P x:=by
 intro x hx
 rcases Qbd.mp hx with z | z
 ·exact h x z
 ·rw [Qa5.mp z]
  exact hy
theorem ZZ{H H2:Hp}{p:Addr}{o:HO}(s:ZT H H2)(hp:H p=none):ZT H (upd H2 p o):=fun b u e=>by
 rw [Zj (Zo e hp)]
 exact s b u e
theorem Z3{ns:List Int}{z:Int}(j:Nat)(hz:z=(j:Int))(hj:j < ns.length):atI (ns.map V.int) z=some (.int (ns.getD j 0)):=by
 subst hz
 refine Xj ?_
 rw [Qap,Qai hj,Qat,Qai hj]
 rfl
theorem Zd1{ns:List Int}{m:Int}(h:∀x∈ns,0<=x/\x < m)(j:Nat)(hj:j < ns.length):0<=ns.getD j 0/\ns.getD j 0 < m:=by
 rw [Qat,Qai hj]
 exact h _ (Qc4 hj)
theorem jB{z:Str}{i:Int}(n:Nat)(hn:z.cps.toList.length=n)(h0:0<=i)(h1:i < (n:Int)):∃c,c∈z.cps.toList/\atI z.cps.toList i=some c:=by
 obtain ⟨j,rfl⟩:∃j:Nat,i=(j:Int):=⟨i.toNat,by lia⟩
 have hj:j < z.cps.toList.length:=by lia
 exact ⟨z.cps.toList[j],Qc4 hj,Xj (Qai hj)⟩
theorem J0{ys:List Str}{i:Int}(h0:0<=i)(h1:i < (ys.length:Int)):∃y,y∈ys/\atI (ys.map V.str) i=some (.str y):=by
 obtain ⟨j,rfl⟩:∃j:Nat,i=(j:Int):=⟨i.toNat,by lia⟩
 have hj:j < ys.length:=by lia
 refine ⟨ys[j],Qc4 hj,Xj ?_⟩
 rw [Qap,Qai hj]
 rfl
theorem jC{P:Str->Prop}:∀{vs:List V},(∀v∈vs,∃y,v=.str y/\P y)->∃ys:List Str,vs=ys.map V.str/\∀y∈ys,P y
 | [],_=>⟨[],rfl,fun _ h=>nomatch h⟩
 | v::r,h=>by
  (refine Oe1a1 (h v Qaf) fun y zo59 hy=>?_;obtain rfl:=zo59)
  (refine Oe1a1 (jC (vs:=r) fun v hv=>h v (Qag _ hv)) fun ys zo60 hys=>?_;obtain rfl:=zo60)
  refine ⟨y::ys,rfl,fun z hz=>?_⟩
  rcases Qaj.mp hz with rfl | hz
  ·exact hy
  ·exact hys z hz
noncomputable def yy{α:Type}(xs:List α)(lo hi:Option Int):List α:=(xs.drop (HT.sIx xs.length 0 lo)).take (HT.sIx xs.length xs.length hi - HT.sIx xs.length 0 lo)
theorem Wo{α:Type}(f:α->V)(xs:List α)(lo hi:Option Int):GC (xs.map f) lo hi=(yy xs lo hi).map f:=by
 unfold GC yy
 rw [Qaa,Qdf,Qc3]
theorem qb{α:Type}(xs:List α)(k:Nat):(yy xs none (some (k:Int)))=xs.take k:=by
 unfold yy
 rw [HT.sIx_none,HT.sIx_nat,Qc5,Qel,<-List.take_take,Qbz]
theorem zF{α:Type}(xs:List α)(k:Nat):(yy xs (some (k:Int)) none)=xs.drop k:=by
 unfold yy
 rw [HT.sIx_none,HT.sIx_nat,Qbl (by rw [Qbc];lia)]
 by_cases h:k<=xs.length
 ·rw [Qdb h]
 ·rw [Nat.min_eq_right (by lia),Qd0,List.drop_eq_nil_of_le (by lia)]
theorem qc{α:Type}(xs:List α)(j k:Nat)(h:j<=xs.length):(yy xs (some (j:Int)) (some (k:Int)))=(xs.drop j).take (k - j):=by
 unfold yy
 rw [HT.sIx_nat,HT.sIx_nat,Qdb h]
 by_cases hk:k<=xs.length
 ·rw [Qdb hk]
 ·rw [Nat.min_eq_right (by lia),Qbl (by rw [Qbc];lia),Qbl (by rw [Qbc];lia)]
theorem zG{K:PySem.W.Frag}{H:Hp}{p:Addr}{xs:List V}{lo hi:Option Int}{Q:VK}(h:H p=some (.tup xs))(k:∀q H',H' q=some (.tup (GC xs lo hi))->ZT H H'->Q (.ref q) H') :
  rSlT K (.ref p) lo hi H Q\/rSlW K (.ref p) lo hi H Q:=by
 by_cases w:HT.sIx xs.length 0 lo=0/\HT.sIx xs.length xs.length hi=xs.length
 ·refine .inr ⟨p,xs,rfl,SqT.of h,w,k p H ?_ (ZT.refl H)⟩
  rw [h]
  unfold GC
  rw [w.1,w.2,Qc5,Qel,Qbz]
 ·exact .inl ⟨p,xs,rfl,SqT.of h,w,fun q hq=>k q _ Za (Zc hq)⟩
theorem zH{lo:Int}{n:Nat}{is:List Nat}{te:TE}{σ:St}{H:Hp}{Q:VK}(P:Nat->V->Prop)(hz:n<=sizeLine)
  (he:∀i,i < n->∀R:VK,(∀v,P i v->R v H)->te (GF is σ (some (.int (lo + i)))) H R)
  (hd:∀vs:List V,vs.length=n->(∀i v,vs[i]?=some v->P i v)->∀l,H l=none->Q (.ref l) (upd H l (.lst vs))):xK is Zew te σ Q (Itr lo n) H:=by
 refine xi (fun i zs H'=>i<=n/\zs.length=i/\(∀j v,zs[j]?=some v->P j v)/\H'=H) ⟨Qbg _,rfl,fun j v h=>by simp at h,rfl⟩ ?_ ?_ ?_
 ·(intro i zs H' zq8;(refine Oe0a3 zq8 fun hi hl _ _=>?_;clear zq8))
  lia
 ·(intro i zs H' R hR hi zq8;(refine Oe0a3 zq8 fun _ hl hp zo61=>?_;obtain rfl:=zo61;clear zq8))
  unfold Zew
  try dsimp only
  rw [Qan rfl]
  refine he i hi _ fun v hv=>hR _ _ ⟨hi,by rw [Qac,hl];rfl,fun j u hu=>?_,rfl⟩
  by_cases hj:j < zs.length
  ·rw [Qa1 hj] at hu
   exact hp j u hu
  ·rw [Qas (by lia)] at hu
   have e:j=i:=by
    have:=(Qae.mp hu).1
    simp at this
    lia
   subst e
   rw [hl,Qdv] at hu
   cases hu
   exact hv
 ·rintro zs H' ⟨_,hl,hp,rfl⟩ l hl2
  exact hd zs hl hp l hl2
theorem mem_at{vs:List V}{P:V->Prop}(h:∀(i:Nat) (v:V),vs[i]?=some v->P v):∀v∈vs,P v:=by
 intro v hv
 obtain ⟨i,hi,rfl⟩:=List.getElem_of_mem hv
 exact h i _ (Qai hi)
noncomputable def fI(g:Int->V):V->V
 | .int x=>g x
 | v=>v
theorem map_fI(g:Int->V)(ns:List Int):(ns.map V.int).map (fI g)=ns.map g:=by
 rw [Qbw]
 rfl
theorem YT(a b:Str):(a++b).cps.toList=a.cps.toList++b.cps.toList:=by
 rw [PySem.Str.cps_append,Array.toList_append]
theorem len_signs(a:Str):a.length=a.cps.toList.length:=by
 unfold Str.length
 rw [Qb9]
theorem uZ{x:Str}{j:Nat}(h:j<=x.length):(Txt.slice x none (some (j:Int))).cps.toList=x.cps.toList.take j:=by
 have e:=beq_iff_eq.mp (PyProof.Rows.slice_closes_to (x:=x) (j:=(j:Int)) ⟨by lia,by rw [<-len_signs];lia⟩)
 rw [e]
 simp
theorem vp{x:Str}{i:Nat}(h:i<=x.length):(Txt.slice x (some (i:Int)) none).cps.toList=x.cps.toList.drop i:=by
 rw [PyProof.Rows.slice_from_eq (b:=(x.length:Int)) (by lia) (by lia) rfl]
 simp only [Qaz]
 rw [Qbl (by rw [Qbc,<-len_signs];lia)]
theorem vq(sep:Str)(hs:sep.cps=#[]):∀ys:List Str,(Txt.join sep ys).cps.toList=(ys.map (·.cps.toList)).flatten:=by
 intro ys
 show (Builtin.Str.glued sep ys).cps.toList=_
 rw [StrLaws.glued_eq_join]
 induction ys with
 | nil=>rfl
 | cons x r ih =>
  cases r with
  | nil =>
   show x.cps.toList=_
   simp
  | cons y r =>
   show (x++sep++Str.join sep (y::r)).cps.toList=_
   rw [YT,YT,ih,hs]
   simp
theorem wV{ys:List Str}{P:Nat->Prop}(h:∀y∈ys,∃c,y=⟨#[c]⟩/\P c):(ys.map (·.cps.toList)).flatten.length=ys.length/\(∀c∈(ys.map (·.cps.toList)).flatten,P c)/\(ys.map (·.length)).sum=ys.length:=by
 induction ys with
 | nil=>exact ⟨rfl,fun c h=>absurd h (Qa0),rfl⟩
 | cons y r ih =>
  (refine Oe1a1 (h _ Qaf) fun c zo62 hc=>?_;obtain rfl:=zo62)
  refine Oe0a2 (ih fun z hz=>h z (Qag _ hz)) fun h1 h2 h3=>?_
  refine ⟨?_,?_,?_⟩
  ·rw [Qa4,Qcr,Qac,h1]
   show 1 + r.length=r.length + 1
   lia
  ·intro d hd
   rw [Qa4,Qcr] at hd
   rcases Qbd.mp hd with z | z
   ·have:d=c:=by simpa using z
    rw [this]
    exact hc
   ·exact h2 d z
  ·rw [Qa4,List.sum_cons,h3]
   show 1 + r.length=r.length + 1
   lia
noncomputable def YO:List Str:=["not","neg","twice","low","and","or","odd","add","sub","pick","same","under","beneath","sign","nought","both","either","so","never","yes"]
theorem Z1(y:Str):∀ys:List Str,inV (.str y) (ys.map V.str)=decide (y∈ys)
 | []=>rfl
 | z::r=>by
  have e:inV (.str y) ((z::r).map V.str)=((z == y) || inV (.str y) (r.map V.str)):=rfl
  rw [e,Z1 y r]
  by_cases h:z=y
  ·rw [h,Qb0,Bool.true_or]
   exact (Qad Qaf).symm
  ·rw [Qbt.mpr h,Bool.false_or]
   by_cases m:y∈r
   ·rw [Qad m,Qad (Qag _ m)]
   ·rw [Qab m,Qab (fun z=>(Qaj.mp z).elim (fun q=>h q.symm) m)]
theorem wW(ys:List Str):(ys.map V.str).all JK=true:=by
 rw [List.all_map]
 exact Qdz.mpr fun _ _=>rfl
theorem wX{c:TT}{tb:TS}{D:Ends}{σ:St}{H:Hp}(Pv:St->Hp->Prop)(μ:St->Hp->Nat)(h0:Pv σ H)
  (hs:∀σ H,Pv σ H->c σ H fun b H1=>if b=true then ∃N:St->Hp->Prop,(∀σ' H',N σ' H'->∃m',m' < μ σ H/\m'=μ σ' H'/\Pv σ' H')/\tb { D with nx:=N,ct:=N,bk:=D.nx } σ H1 else D.nx σ H1):kg c tb D σ H:=by
 refine ⟨fun m σ H=>m=μ σ H/\Pv σ H,⟨_,rfl,h0⟩,?_⟩
 rintro m σ H ⟨rfl,p⟩
 exact hs σ H p
noncomputable def zI(ys:List Str)(v:V):Prop:=(∃y∈ys,v=.str y)\/∃z:Int,v=.int z/\0<=z/\z < 1000
noncomputable def sumT:List (Str × Nat):=[("not",1),("neg",1),("twice",1),("low",1),("and",2),("or",2),("odd",2),("add",2),("sub",2),("pick",3)]
noncomputable def WA:List Str:=sumT.map (·.1)
noncomputable def ZG(y:Str):Nat:=((sumT.find? fun p=>decide (p.1=y)).map (·.2)).getD 0
noncomputable def wY:V->Nat
 | .str y=>ZG y
 | _=>0
noncomputable def wZ(ys:List Str)(v:V):Prop:=(∃y,v=.str y/\y∈WA)\/zI ys v
noncomputable def T1:List (Str × Int):=[("not",1),("neg",1),("twice",1),("low",1),("and",2),("or",2),("odd",2),("add",2),("sub",2),("pick",3)]
noncomputable def T2:List (Str × Int):=[("same",2),("under",2),("beneath",2),("sign",1),("nought",1)]
noncomputable def T3:List (Str × Int):=[("both",2),("either",2),("so",2),("never",1),("yes",0)]
noncomputable def Z9:List Str:=["same","under","beneath","sign","nought","both","either","so","never","yes"]
noncomputable def Ji:List (Str × Int)->Key->Int
 | [],_=>0
 | p::r,k=>if (Sum.inr p.1:Key)=k then p.2 else Ji r k
theorem kget(l:List (Str × Int))(k:Key):(YH (kvsOf l) k).getD (.int 0)=.int (Ji l k):=by
 induction l with
 | nil=>rfl
 | cons p r ih =>
  unfold Ji
  by_cases h:(Sum.inr p.1:Key)=k
  ·have e:YH (kvsOf (p::r)) k=some (.int p.2):=Yw (p:=((Sum.inr p.1:Key),V.int p.2)) h
   rw [e,Qan h]
   rfl
  ·have e:YH (kvsOf (p::r)) k=YH (kvsOf r) k:=Yx (p:=((Sum.inr p.1:Key),V.int p.2)) h
   rw [e,ih,Qal h]
theorem qd{l:List (Str × Int)}{y:Str}(h:y∉l.map (·.1)):Ji l (.inr y)=0:=by
 induction l with
 | nil=>rfl
 | cons p r ih =>
  unfold Ji
  rw [Qa4] at h
  rw [Qal (fun z=>h (by rw [<-Sum.inr.inj z];exact Qaf)),ih (fun z=>h (Qag _ z))]
noncomputable def Xr(k:Key):Int:=Ji T1 k + Ji T2 k + Ji T3 k
noncomputable def keyOf:V->Key
 | .int i=>.inl i
 | .str y=>.inr y
 | _=>.inl 0
noncomputable def strV:V->Str
 | .str y=>y
 | _ => ""
noncomputable def Zfo(ys:List Str)(w:V):Prop:=wZ ys w\/∃y,w=.str y/\y∈Z9
theorem JS:∀y∈Z9,y∈YO:=by decide +kernel
noncomputable def WB(ys:List Str):Bool->V->Prop
 | true,w=>∃y,w=.str y/\y∈Z9
 | false,w=>wZ ys w
theorem WB.cw{ys:List Str}{b:Bool}{w:V}(h:WB ys b w):Zfo ys w:=by
 cases b with
 | true=>exact .inr h
 | false=>exact .inl h
noncomputable def WC(w:V):Nat:=(Ji T1 (keyOf w) + Ji T2 (keyOf w)).toNat
noncomputable def Jo(w:V):Nat:=(Ji T3 (keyOf w)).toNat
noncomputable def nextK(w:V):List Bool:=List.replicate (WC w) false++List.replicate (Jo w) true
inductive xq(ys:List Str):List Bool->List V->List Bool->Prop
 | nil {ls:List Bool}:xq ys ls [] ls
 | cons {ls e:List Bool} {b:Bool} {w:V} {r:List V}:WB ys b w->xq ys (ls++nextK w) r e->xq ys (ls++[b]) (w::r) e
theorem xq.words{ys:List Str}{a b:List Bool}{u:List V}(h:xq ys a u b):∀w∈u,Zfo ys w:=by
 induction h with
 | nil=>exact fun _ h=>nomatch h
 | cons hw _ ih =>
  intro x hx
  rcases Qaj.mp hx with rfl | hx
  ·exact hw.cw
  ·exact ih x hx
theorem jD{l:List (Str × Int)}(h:∀p∈l,0<=p.2/\p.2<=3)(k:Key):0<=Ji l k/\Ji l k<=3:=by
 induction l with
 | nil=>exact ⟨Qep _,(by decide:(0:Int)<=3)⟩
 | cons p r ih =>
  unfold Ji
  split
  ·exact h p Qaf
  ·exact ih fun q hq=>h q (Qag _ hq)
theorem T1_bd(k:Key):0<=Ji T1 k/\Ji T1 k<=3:=jD (by decide +kernel) k
theorem T2_bd(k:Key):0<=Ji T2 k/\Ji T2 k<=3:=jD (by decide +kernel) k
theorem T3_bd(k:Key):0<=Ji T3 k/\Ji T3 k<=3:=jD (by decide +kernel) k
noncomputable def npw(w:V):Nat:=(Xr (keyOf w)).toNat
theorem qe(k:Key):0<=Xr k/\Xr k<=9:=by
 have h1:=T1_bd k
 have h2:=T2_bd k
 have h3:=T3_bd k
 unfold Xr
 lia
theorem Zd3{stk:List V}{i:Nat}(h:i < stk.length):(stk.drop i).reverse=(stk.drop (i + 1)).reverse++[stk[i]]:=by
 rw [Qb8 h,Qca]
theorem Xi(l:List V)(y:V):(l++[y])[(l++[y]).length - 1]?=some y:=by
 rw [Qac,show ([y]:List V).length=1 from rfl,Nat.add_sub_cancel,Qas (Qah _),Qdv]
 rfl
theorem rev_at{ws:List V}{i:Nat}{x:V}(h:ws.reverse[i]?=some x):i < ws.length/\ws[ws.length - 1 - i]?=some x:=by
 have hi:i < ws.length:=by
  have:=(Qae.mp h).1
  rw [Qbv] at this
  exact this
 refine ⟨hi,?_⟩
 rw [List.getElem?_reverse hi] at h
 exact h
noncomputable def LsAt(ys:List Str)(ws:List V)(ls:Nat->List Bool):Prop:=ls ws.length=[]/\∀i x,ws[i]?=some x->∃l0 b,ls i=l0++[b]/\WB ys b x/\ls (i + 1)=l0++nextK x
theorem xq.at{ys:List Str}{a e:List Bool}{ws:List V}(h:xq ys a ws e)(he:e=[]):∃ls,LsAt ys ws ls/\ls 0=a:=by
 induction h with
 | @nil ls =>
  subst he
  exact ⟨fun _=>[],⟨rfl,fun i x hx=>by simp at hx⟩,rfl⟩
 | @cons l0 e b w r hw _ ih =>
  (refine Oe1a1 (ih he) fun ls zo63 h0=>?_;obtain ⟨h1,h2⟩:=zo63)
  refine ⟨fun i=>match i with | 0=>l0++[b] | i + 1=>ls i,⟨h1,fun i x hx=>?_⟩,rfl⟩
  cases i with
  | zero =>
   have:w=x:=by simpa using hx
   subst this
   exact ⟨l0,b,rfl,hw,h0⟩
  | succ i=>exact h2 i x (by simpa using hx)
noncomputable def Zf4 (y:Str) (a:Int):Int:=if y = "not" then Builtin.bitNot a else if y = "neg" then -a else if y = "twice" then a + a else Builtin.bitAnd a (-a)
noncomputable def Zf5 (y:Str) (a b:Int):Int:=if y = "and" then Builtin.bitAnd a b else if y = "or" then Builtin.bitOr a b else if y = "odd" then Builtin.bitXor a b else if y = "add" then a + b else a - b
noncomputable def wwv(ρ:Str->Int):V->List Int->Int
 | .int z,_=>z
 | .str y,[]=>ρ y
 | .str y,[a]=>Zf4 y a
 | .str y,[a,b]=>Zf5 y a b
 | .str _,a::b::c::_=>Builtin.bitOr (Builtin.bitAnd a b) (Builtin.bitAnd (Builtin.bitNot a) c)
 | _,_=>0
noncomputable def sgn(m a:Int):Int:=if a * 2>=m then a - m else a
noncomputable def jE(m:Int)(y:Str)(xs:List Int):Bool :=
 if y = "nought" then decide (xs.getD 0 0=0) else if y = "sign" then decide (sgn m (xs.getD 0 0) < 0) else if y = "same" then decide (xs.getD 0 0=xs.getD 1 0)
 else if y = "under" then decide (xs.getD 0 0 < xs.getD 1 0) else decide (sgn m (xs.getD 0 0) < sgn m (xs.getD 1 0))
noncomputable def Zex(y:Str)(bs:List Bool):Bool :=
 if y = "yes" then true else if y = "never" then !(bs.getD 0 false) else if y = "both" then bs.getD 0 false && bs.getD 1 false else if y = "either" then bs.getD 0 false || bs.getD 1 false else bs.getD 1 false || !(bs.getD 0 false)
theorem Zfq(m n:Nat):(m &&& n) / 2=m / 2 &&& n / 2/\(m &&& n) % 2=m % 2 * (n % 2):=by
 refine ⟨Nat.and_div_two_pow (n:=1),?_⟩
 have h:=Nat.and_mod_two_pow (a:=m) (b:=n) (n:=1)
 rw [Nat.pow_one] at h
 rw [h]
 rcases Qb2 m with e | e <;> rcases Qb2 n with f | f <;> rw [e,f] <;> rfl
theorem n_or(m n:Nat):(m ||| n) / 2=m / 2 ||| n / 2/\(m ||| n) % 2=m % 2 + n % 2 - m % 2 * (n % 2):=by
 refine ⟨Nat.or_div_two_pow (n:=1),?_⟩
 have h:=Nat.or_mod_two_pow (a:=m) (b:=n) (n:=1)
 rw [Nat.pow_one] at h
 rw [h]
 rcases Qb2 m with e | e <;> rcases Qb2 n with f | f <;> rw [e,f] <;> rfl
theorem Zd4(m n:Nat):Builtin.bitAnd m n=((m &&& n:Nat):Int):=by
 unfold Builtin.bitAnd
 rw [Qad (Qbk m),Qad (Qbk n)]
 rfl
theorem y0(n:Nat):¬(0:Int)<=-(n:Int) - 1:=by lia
theorem y4(n:Nat):(Builtin.bitNot (-(n:Int) - 1)).toNat=n:=by
 unfold Builtin.bitNot
 lia
theorem Zfr(m n:Nat):Builtin.bitAnd m (-(n:Int) - 1)=(m:Int) - ((m &&& n:Nat):Int):=by
 unfold Builtin.bitAnd
 rw [Qad (Qbk m),Qab (y0 n)]
 try dsimp only
 rw [y4]
 rfl
theorem Zd5(m n:Nat):Builtin.bitAnd (-(m:Int) - 1) n=(n:Int) - ((n &&& m:Nat):Int):=by
 unfold Builtin.bitAnd
 rw [Qad (Qbk n),Qab (y0 m)]
 try dsimp only
 rw [y4]
 rfl
theorem Zfs(m n:Nat):Builtin.bitAnd (-(m:Int) - 1) (-(n:Int) - 1)=-((m ||| n:Nat):Int) - 1:=by
 unfold Builtin.bitAnd
 rw [Qab (y0 n),Qab (y0 m)]
 try dsimp only
 rw [y4,y4]
 rfl
theorem xX(a:Int):(∃m:Nat,a=m)\/∃m:Nat,a=-(m:Int) - 1:=by
 by_cases h:0<=a
 ·exact .inl ⟨a.toNat,by lia⟩
 ·exact .inr ⟨(-a - 1).toNat,by lia⟩
theorem jF(a:Int):a % 2=0\/a % 2=1:=by lia
theorem sub2(m A:Int)(h:A % 2=0\/m % 2=1):(m - A) / 2=m / 2 - A / 2/\(m - A) % 2=m % 2 - A % 2:=by lia
theorem cast2(m:Nat):(m:Int) / 2=((m / 2:Nat):Int)/\(m:Int) % 2=((m % 2:Nat):Int):=⟨rfl,rfl⟩
theorem uh(x:Int):(-x - 1) / 2=-(x / 2) - 1/\(-x - 1) % 2=1 - x % 2:=by lia
theorem Zft(m n:Nat):(((m &&& n:Nat):Int)) / 2=((m / 2 &&& n / 2:Nat):Int)/\(((m &&& n:Nat):Int)) % 2=(m:Int) % 2 * ((n:Int) % 2):=by
 rw [(cast2 _).1,(cast2 _).2,(Zfq m n).1,(Zfq m n).2,Int.natCast_mul]
 exact ⟨rfl,rfl⟩
theorem take2(m n:Nat):((m:Int) - ((m &&& n:Nat):Int)) / 2=((m / 2:Nat):Int) - ((m / 2 &&& n / 2:Nat):Int)/\((m:Int) - ((m &&& n:Nat):Int)) % 2=(m:Int) % 2 * (1 - (n:Int) % 2):=by
 have l:=Zft m n
 have h:((m &&& n:Nat):Int) % 2=0\/(m:Int) % 2=1:=by
  rcases jF (m:Int) with e | e
  ·rw [l.2,e,Int.zero_mul]
   exact .inl rfl
  ·exact .inr e
 have z:=sub2 _ _ h
 rw [z.1,z.2,l.1,l.2]
 refine ⟨rfl,?_⟩
 rcases jF (m:Int) with e | e <;> rcases jF (n:Int) with f | f <;> rw [e,f] <;> rfl
theorem Zey(a b:Int):Builtin.bitAnd a b / 2=Builtin.bitAnd (a / 2) (b / 2)/\Builtin.bitAnd a b % 2=a % 2 * (b % 2):=by
 rcases xX a with ⟨m,rfl⟩ | ⟨m,rfl⟩ <;> rcases xX b with ⟨n,rfl⟩ | ⟨n,rfl⟩
 ·rw [(cast2 m).1,(cast2 n).1,Zd4,Zd4]
  exact Zft m n
 ·rw [(cast2 m).1,(uh _).1,(uh _).2,(cast2 n).1,Zfr,Zfr]
  exact take2 m n
 ·rw [(cast2 n).1,(uh _).1,(uh _).2,(cast2 m).1,Zd5,Zd5,Qch]
  exact take2 n m
 ·rw [(uh (m:Int)).1,(uh (m:Int)).2,(uh (n:Int)).1,(uh (n:Int)).2,(cast2 m).1,(cast2 n).1,Zfs,Zfs,(uh _).1,(uh _).2,(cast2 _).1,(cast2 _).2,(n_or m n).1,(n_or m n).2]
  refine ⟨rfl,?_⟩
  rw [(cast2 m).2,(cast2 n).2]
  rcases Qb2 m with e | e <;> rcases Qb2 n with f | f <;> rw [e,f] <;> rfl
theorem Zb6(a:Int):Builtin.bitNot a / 2=Builtin.bitNot (a / 2)/\Builtin.bitNot a % 2=1 - a % 2:=by
 unfold Builtin.bitNot
 lia
theorem or2(a b:Int):Builtin.bitOr a b / 2=Builtin.bitOr (a / 2) (b / 2)/\Builtin.bitOr a b % 2=1 - (1 - a % 2) * (1 - b % 2):=by
 unfold Builtin.bitOr
 have h:=Zey (Builtin.bitNot a) (Builtin.bitNot b)
 rw [(Zb6 a).1,(Zb6 b).1,(Zb6 a).2,(Zb6 b).2] at h
 rw [(Zb6 _).1,(Zb6 _).2,h.1,h.2]
 exact ⟨rfl,rfl⟩
theorem xor2(a b:Int):Builtin.bitXor a b / 2=Builtin.bitXor (a / 2) (b / 2)/\Builtin.bitXor a b % 2=(a % 2 + b % 2) % 2:=by
 unfold Builtin.bitXor
 have h:=Zey a b
 have g:=or2 a b
 have q:Builtin.bitAnd a b % 2=0\/Builtin.bitOr a b % 2=1:=by
  rw [h.2,g.2]
  rcases jF a with e | e <;> rcases jF b with f | f <;> rw [e,f] <;> decide
 have z:=sub2 _ _ q
 rw [z.1,z.2,h.1,h.2,g.1,g.2]
 refine ⟨rfl,?_⟩
 rcases jF a with e | e <;> rcases jF b with f | f <;> rw [e,f] <;> rfl
theorem qf(w:Nat)(n:Int):qJ (w + 1) n=n % 2::qJ w (n / 2):=by
 unfold qJ
 rw [List.range_succ_eq_map,Qa4,Qbw,Qcb,Qbi]
 congr 1
 refine Qct fun i _=>?_
 show n / 2 ^ (i + 1) % 2=n / 2 / 2 ^ i % 2
 rw [Qbq,Qch,Qcq (by decide:(0:Int)<=2)]
theorem Zac(w:Nat)(n:Int):qJ w (n % 2 ^ w)=qJ w n:=by
 induction w generalizing n with
 | zero=>rfl
 | succ w ih =>
  rw [qf,qf,<-ih (n / 2)]
  have e1:n % 2 ^ (w + 1) % 2=n % 2:=by
   rw [Int.emod_emod_of_dvd]
   exact ⟨2 ^ w,by rw [Qbq,Qch]⟩
  have e2:n % 2 ^ (w + 1) / 2=n / 2 % 2 ^ w:=by
   have hp:(0:Int) < 2 ^ w:=Qcu (by decide)
   have h1:=Qbo n 2
   have h2:=Qbo (n / 2) (2 ^ w)
   have h3:=Qa6 (n / 2) (Qdj hp)
   have h4:=Qaw (n / 2) hp
   have e:n % 2 ^ (w + 1)=n % 2 + 2 * (n / 2 % 2 ^ w):=by
    have:n=n % 2 + 2 * (n / 2 % 2 ^ w) + 2 ^ (w + 1) * (n / 2 / 2 ^ w):=by
     rw [Qbq]
     have:(2:Int) ^ w * 2 * (n / 2 / 2 ^ w)=2 * (2 ^ w * (n / 2 / 2 ^ w)):=by
      rw [Qch ((2:Int) ^ w) 2,Qdg]
     lia
    conv=>lhs;rw [this]
    rw [Qcj]
    refine Qck (by lia) ?_
    rw [Qbq]
    lia
   rw [e]
   lia
  rw [e1,e2]
theorem bits_getD(w:Nat)(n:Int)(i:Nat)(h:i < w):(qJ w n).getD i 0=n / 2 ^ i % 2:=by
 unfold qJ
 rw [Qat,Qap,Qcv h]
 rfl
theorem zK(w:Nat)(n:Int):(qJ w n).foldr (fun b t=>2 * t + b) 0=n % 2 ^ w:=by
 induction w generalizing n with
 | zero=>rw [Qcb,Qdk];rfl
 | succ w ih =>
  rw [qf,List.foldr_cons,ih]
  have hp:(0:Int) < 2 ^ w:=Qcu (by decide)
  have h1:=Qbo n 2
  have h2:=Qbo (n / 2) (2 ^ w)
  have h3:=Qa6 (n / 2) (Qdj hp)
  have h4:=Qaw (n / 2) hp
  have:n=2 * (n / 2 % 2 ^ w) + n % 2 + 2 ^ (w + 1) * (n / 2 / 2 ^ w):=by
   rw [Qbq]
   have:(2:Int) ^ w * 2 * (n / 2 / 2 ^ w)=2 * (2 ^ w * (n / 2 / 2 ^ w)):=by
    rw [Qch ((2:Int) ^ w) 2,Qdg]
   lia
  conv=>rhs;rw [this]
  rw [Qcj]
  refine (Qck (by lia) ?_).symm
  rw [Qbq]
  lia
theorem jG{i j:Nat}(h:i<=j):(2:Int) ^ i<=2 ^ j:=by
 obtain ⟨d,rfl⟩:∃d,j=i + d:=⟨j - i,by lia⟩
 clear h
 induction d with
 | zero=>exact Qep _
 | succ d ih =>
  have:=Qcu (n:=2) (m:=i + d) (by decide)
  rw [show i + (d + 1)=i + d + 1 from rfl,Qbq]
  lia
noncomputable def bt(x:Int)(k:Nat):Int:=x / 2 ^ k % 2
theorem YU(x:Int)(k:Nat):bt x (k + 1)=bt (x / 2) k:=by
 unfold bt
 rw [Qbq,Qch,Qcq (by decide:(0:Int)<=2)]
theorem YG(x:Int)(k:Nat):bt x k=0\/bt x k=1:=by
 unfold bt
 lia
theorem Xm(k:Nat):∀a b:Int,bt (Builtin.bitAnd a b) k=bt a k * bt b k:=by
 induction k with
 | zero =>
  intro a b
  unfold bt
  rw [Qcb,Qbi,Qbi,Qbi,(Zey a b).2]
 | succ k ih =>
  intro a b
  rw [YU,YU,YU,(Zey a b).1,ih]
theorem Gy(k:Nat):∀a b:Int,bt (Builtin.bitOr a b) k=1 - (1 - bt a k) * (1 - bt b k):=by
 induction k with
 | zero =>
  intro a b
  unfold bt
  rw [Qcb,Qbi,Qbi,Qbi,(or2 a b).2]
 | succ k ih =>
  intro a b
  rw [YU,YU,YU,(or2 a b).1,ih]
theorem qg(k:Nat):∀a b:Int,bt (Builtin.bitXor a b) k=(bt a k + bt b k) % 2:=by
 induction k with
 | zero =>
  intro a b
  unfold bt
  rw [Qcb,Qbi,Qbi,Qbi,(xor2 a b).2]
 | succ k ih =>
  intro a b
  rw [YU,YU,YU,(xor2 a b).1,ih]
theorem J1(k:Nat):∀a:Int,bt (Builtin.bitNot a) k=1 - bt a k:=by
 induction k with
 | zero =>
  intro a
  unfold bt
  rw [Qcb,Qbi,Qbi,(Zb6 a).2]
 | succ k ih =>
  intro a
  rw [YU,YU,(Zb6 a).1,ih]
theorem qh(k:Nat):bt 0 k=0:=by
 unfold bt
 rw [Int.zero_ediv]
 rfl
theorem gb(k:Nat):bt (-1) k=1:=by
 induction k with
 | zero=>rfl
 | succ k ih=>rw [YU];exact ih
theorem zL(x:Int)(w k:Nat)(h:k < w):bt (x % 2 ^ w) k=bt x k:=by
 have e:=Zac w x
 have h1:=bits_getD w (x % 2 ^ w) k h
 have h2:=bits_getD w x k h
 rw [e,h2] at h1
 exact h1.symm
noncomputable def lo(x:Int)(k:Nat):Int:=x % 2 ^ k
theorem qK(x:Int)(k:Nat):0<=lo x k/\lo x k < 2 ^ k:=⟨Qa6 _ (Qdj (Qcu (by decide))),Qaw _ (Qcu (by decide))⟩
theorem qi(x:Int)(k:Nat):lo x (k + 1)=lo x k + 2 ^ k * bt x k:=by
 unfold lo bt
 have hp:(0:Int) < 2 ^ k:=Qcu (by decide)
 have e1:=Qbo x (2 ^ k)
 have e2:=Qbo (x / 2 ^ k) 2
 have b0:=Qa6 x (Qdj hp)
 have b1:=Qaw x hp
 have e3:x=(x % 2 ^ k + 2 ^ k * (x / 2 ^ k % 2)) + 2 ^ (k + 1) * (x / 2 ^ k / 2):=by
  rw [Qbq,Qdg]
  have e4:(2:Int) ^ k * (x / 2 ^ k)=2 ^ k * (x / 2 ^ k % 2) + 2 ^ k * (2 * (x / 2 ^ k / 2)):=by
   rw [<-Qd8,e2]
  lia
 conv=>lhs;rw [e3]
 rw [Qcj]
 have hb:x / 2 ^ k % 2=0\/x / 2 ^ k % 2=1:=by lia
 refine Qck ?_ ?_
 ·rcases hb with h | h <;> rw [h] <;> lia
 ·rw [Qbq]
  rcases hb with h | h <;> rw [h] <;> lia
theorem Zd6(x:Int)(k:Nat):x=lo x k + 2 ^ k * (x / 2 ^ k):=(Qbo x (2 ^ k)).symm
theorem Zbq{x y z:Int}{k:Nat}{c:Int}(hc:c=0\/c=1)(e:lo z k + 2 ^ k * c=lo x k + lo y k)(hz:z=x + y):bt z k=(bt x k + bt y k + c) % 2:=by
 have hp:(0:Int) < 2 ^ k:=Qcu (by decide)
 have e1:=Zd6 x k
 have e2:=Zd6 y k
 have e3:=Zd6 z k
 have h:(2:Int) ^ k * (z / 2 ^ k)=2 ^ k * (x / 2 ^ k + y / 2 ^ k + c):=by
  rw [Qd8,Qd8]
  lia
 have h2:=Int.eq_of_mul_eq_mul_left (Qdj hp) h
 unfold bt
 rw [h2]
 lia
noncomputable def cyA(x y:Int)(k:Nat):Int:=(lo x k + lo y k) / 2 ^ k
theorem gc(x y:Int)(k:Nat):lo (x + y) k + 2 ^ k * cyA x y k=lo x k + lo y k:=by
 unfold cyA
 have e:lo (x + y) k=(lo x k + lo y k) % 2 ^ k:=by
  unfold lo
  rw [<-Int.emod_add_emod,<-Int.add_emod_emod]
 rw [e]
 exact Qbo _ _
theorem gg(x y:Int)(k:Nat):cyA x y k=0\/cyA x y k=1:=by
 have hp:(0:Int) < 2 ^ k:=Qcu (by decide)
 have a:=qK x k
 have b:=qK y k
 have q0:0<=cyA x y k:=Int.ediv_nonneg (by lia) (Int.le_of_lt hp)
 have q2:cyA x y k < 2:=Int.ediv_lt_of_lt_mul hp (by lia)
 lia
theorem Zb7(x y:Int)(k:Nat):bt (x + y) k=(bt x k + bt y k + cyA x y k) % 2:=Zbq (gg x y k) (gc x y k) rfl
theorem y6(x y:Int):cyA x y 0=0:=by
 unfold cyA lo
 rw [Qcb,Qdk,Qdk]
 rfl
theorem y7(x y:Int)(k:Nat):cyA x y (k + 1)=(bt x k + bt y k + cyA x y k) / 2:=by
 have hp:(0:Int) < 2 ^ k:=Qcu (by decide)
 have e1:=qi x k
 have e2:=qi y k
 have e3:=gc x y k
 have b:=qK (x + y) k
 have e:lo x (k + 1) + lo y (k + 1)=lo (x + y) k + 2 ^ k * (bt x k + bt y k + cyA x y k):=by
  rw [Qd8,Qd8]
  lia
 unfold cyA
 rw [e,Qbq,<-Qcq (Int.le_of_lt hp),Qdw _ _ (Qdj hp),Qb6 b.1 b.2,Qdd]
 rfl
noncomputable def brA(x y:Int)(k:Nat):Int:=if lo x k < lo y k then 1 else 0
theorem y8(x y:Int)(k:Nat):brA x y k=cyA (x - y) y k:=by
 have e:=gc (x - y) y k
 rw [Int.sub_add_cancel] at e
 have hp:(0:Int) < 2 ^ k:=Qcu (by decide)
 have b:=qK (x - y) k
 unfold brA
 rcases gg (x - y) y k with h | h <;> rw [h] at e ⊢
 ·rw [Qal (by lia)]
 ·rw [Qan (by lia)]
theorem xt(x y:Int)(k:Nat):brA x y k=0\/brA x y k=1:=by
 unfold brA
 split
 ·exact .inr rfl
 ·exact .inl rfl
theorem gh(x y:Int)(k:Nat):bt (x - y) k=(bt x k + bt y k + brA x y k) % 2:=by
 have h:=Zb7 (x - y) y k
 rw [Int.sub_add_cancel,<-y8] at h
 have a:=YG (x - y) k
 have b:=YG y k
 have c:=xt x y k
 rw [h]
 lia
theorem y9(x y:Int):brA x y 0=0:=by
 rw [y8,y6]
theorem yA(x y:Int)(k:Nat):brA x y (k + 1)=1 - (1 - (1 - bt x k) * bt y k) * (1 - brA x y k * (1 - (bt x k + bt y k) % 2)):=by
 rw [y8,y7,<-y8,gh]
 rcases YG x k with a | a <;> rcases YG y k with b | b <;> rcases xt x y k with c | c <;> rw [a,b,c] <;> rfl
noncomputable def nzA(x:Int)(k:Nat):Int:=brA 0 x k
theorem gi(x:Int)(k:Nat):nzA x k=0\/nzA x k=1:=xt 0 x k
theorem Zad(x:Int):nzA x 0=0:=y9 0 x
theorem Zae(x:Int)(k:Nat):nzA x (k + 1)=1 - (1 - bt x k) * (1 - nzA x k):=by
 unfold nzA
 rw [yA,qh]
 rcases YG x k with a | a <;> rcases xt 0 x k with c | c <;> rw [a,c] <;> rfl
theorem Zb8(x:Int)(k:Nat):bt (-x) k=(bt x k + nzA x k) % 2:=by
 have h:=gh 0 x k
 rw [Int.zero_sub,qh,Qdd] at h
 exact h
theorem bt_low(x:Int)(k:Nat):bt (Builtin.bitAnd x (-x)) k=bt x k * (1 - nzA x k):=by
 rw [Xm,Zb8]
 rcases YG x k with a | a <;> rcases gi x k with c | c <;> rw [a,c] <;> rfl
noncomputable def tw(x:Int):Nat->Int
 | 0=>0
 | k + 1=>bt x k
theorem tw_01(x:Int):∀k,tw x k=0\/tw x k=1
 | 0=>.inl rfl
 | k + 1=>YG x k
theorem Zaf(x:Int):∀k,bt (x + x) k=tw x k
 | 0=>by
  unfold bt
  rw [Qcb,Qbi]
  show (x + x) % 2=0
  lia
 | k + 1=>by
  rw [YU,show (x + x) / 2=x by lia]
  rfl
noncomputable def hld(y:Str)(is:List Int)(k:Nat):Int :=
 if y = "twice" then tw (is.getD 0 0) k else if y = "neg" \/ y = "low" then nzA (is.getD 0 0) k else if y = "add" then cyA (is.getD 0 0) (is.getD 1 0) k else brA (is.getD 0 0) (is.getD 1 0) k
noncomputable def Gh:List Str:=["neg","twice","low","add","sub"]
noncomputable def once(y:Str)(bs:List Int):Int :=
 if y = "not" then 1 - bs.getD 0 0 else if y = "and" then bs.getD 0 0 * bs.getD 1 0 else if y = "or" then 1 - (1 - bs.getD 0 0) * (1 - bs.getD 1 0) else if y = "odd" then (bs.getD 0 0 + bs.getD 1 0) % 2
 else 1 - (1 - bs.getD 0 0 * bs.getD 1 0) * (1 - (1 - bs.getD 0 0) * bs.getD 2 0)
noncomputable def ans1(y:Str)(bs:List Int)(h:Int):Int :=
 if y = "twice" then h else if y = "neg" then (bs.getD 0 0 + h) % 2 else if y = "low" then bs.getD 0 0 * (1 - h) else (bs.getD 0 0 + bs.getD 1 0 + h) % 2
theorem Xn(is:List Int)(k i:Nat):(is.map fun x=>bt x k).getD i 0=bt (is.getD i 0) k:=by
 rw [Qat,Qat,Qap]
 cases is[i]? with
 | none=>exact (qh k).symm
 | some x=>rfl
theorem gj:∀y∈Gh,y∈WA/\ZG y=(if y = "add" \/ y = "sub" then 2 else 1):=by decide +kernel
theorem xu:∀y∈WA,y∉Gh->(y = "not" /\ ZG y=1)\/(y = "and" /\ ZG y=2)\/(y = "or" /\ ZG y=2)\/(y = "odd" /\ ZG y=2)\/(y = "pick" /\ ZG y=3):=by decide +kernel
theorem ans_ok(ρ:Str->Int){y:Str}(hy:y∈Gh){is:List Int}(hl:is.length=ZG y)(k:Nat):ans1 y (is.map fun x=>bt x k) (hld y is k)=bt (wwv ρ (.str y) is) k:=by
 rw [(gj y hy).2] at hl
 unfold ans1 hld
 rw [Xn,Xn]
 unfold Gh at hy
 simp only [Qaj,Qa0,Qcg] at hy
 rcases hy with rfl | rfl | rfl | rfl | rfl
 ·rw [Qal (by decide +kernel)] at hl
  match is,hl with
  | [a],_=>exact (Zb8 a k).symm
 ·rw [Qal (by decide +kernel)] at hl
  match is,hl with
  | [a],_=>exact (Zaf a k).symm
 ·rw [Qal (by decide +kernel)] at hl
  match is,hl with
  | [a],_=>exact (bt_low a k).symm
 ·rw [Qan (by decide +kernel)] at hl
  match is,hl with
  | [a,b],_=>exact (Zb7 a b k).symm
 ·rw [Qan (by decide +kernel)] at hl
  match is,hl with
  | [a,b],_=>exact (gh a b k).symm
theorem Zd7(ρ:Str->Int){y:Str}(hy:y∈WA)(hr:y∉Gh){is:List Int}(hl:is.length=ZG y)(k:Nat):once y (is.map fun x=>bt x k)=bt (wwv ρ (.str y) is) k:=by
 unfold once
 rw [Xn,Xn,Xn]
 rcases xu y hy hr with ⟨rfl,e⟩ | ⟨rfl,e⟩ | ⟨rfl,e⟩ | ⟨rfl,e⟩ | ⟨rfl,e⟩ <;> rw [e] at hl
 ·match is,hl with
  | [a],_=>exact (J1 k a).symm
 ·match is,hl with
  | [a,b],_=>exact (Xm k a b).symm
 ·match is,hl with
  | [a,b],_=>exact (Gy k a b).symm
 ·match is,hl with
  | [a,b],_=>exact (qg k a b).symm
 ·match is,hl with
  | [a,b,c],_ =>
   show 1 - (1 - bt a k * bt b k) * (1 - (1 - bt a k) * bt c k)=bt (Builtin.bitOr (Builtin.bitAnd a b) (Builtin.bitAnd (Builtin.bitNot a) c)) k
   rw [Gy,Xm,Xm,J1]
noncomputable def JG:List V->Nat
 | []=>0
 | w::r=>JG r - npw w + 1
noncomputable def Y9:List V->Prop
 | []=>True
 | w::r=>npw w<=JG r/\Y9 r
noncomputable def jH:V->Bool
 | .str y=>decide (y∈Gh)
 | _=>false
noncomputable def qL(ys:List Str)(B:Nat)(w:V):Prop:=(∃y,w=.str y/\y∈WA/\y∉ys/\npw w=ZG y)\/(∃y,w=.str y/\y∈ys/\y∉Gh/\npw w=0)\/∃z:Int,w=.int z/\0<=z/\z < 2 ^ B/\npw w=0
theorem Zb9{z:Int}{B k:Nat}(h0:0<=z)(h:z < 2 ^ B)(hk:B<=k):bt z k=0:=by
 have hp:(2:Int) ^ B<=2 ^ k:=jG hk
 unfold bt
 rw [Qb6 h0 (by lia)]
 rfl
noncomputable def Zfu(a b h:Int):Int:=Builtin.bitOr (Builtin.bitAnd (Builtin.bitNot a) b) (Builtin.bitAnd h (Builtin.bitNot (Builtin.bitXor a b)))
noncomputable def allR:List Str:=["neg","twice","low","add","sub","same","under","beneath","nought"]
noncomputable def Zd8:List Str:=["add","sub","same","under","beneath"]
noncomputable def ktI(y:Str)(is:List Int)(h:Int):Int :=
 if y = "twice" then is.getD 0 0 else if y = "neg" \/ y = "low" \/ y = "nought" then Builtin.bitOr (is.getD 0 0) h else if y = "same" then Builtin.bitOr (Builtin.bitXor (is.getD 0 0) (is.getD 1 0)) h
 else if y = "add" then Builtin.bitOr (Builtin.bitAnd (is.getD 0 0) (is.getD 1 0)) (Builtin.bitAnd h (Builtin.bitOr (is.getD 0 0) (is.getD 1 0))) else Zfu (is.getD 0 0) (is.getD 1 0) h
noncomputable def okI(y:Str)(is:List Int)(h n:Int):Int :=
 if y = "add" \/ y = "sub" then Builtin.bitXor (Builtin.bitXor (is.getD 0 0) (is.getD 1 0)) h else if y = "neg" then Builtin.bitXor (is.getD 0 0) h else if y = "twice" then h else if y = "low" then Builtin.bitAnd (is.getD 0 0) (Builtin.bitNot h)
 else if y = "same" \/ y = "nought" then Builtin.bitNot n else if y = "under" then n else Zfu (is.getD 1 0) (is.getD 0 0) h
noncomputable def oaI(y:Str)(is:List Int):Int :=
 if y = "yes" then -1 else if y = "sign" then is.getD 0 0 else if y = "not" \/ y = "never" then Builtin.bitNot (is.getD 0 0) else if y = "and" \/ y = "both" then Builtin.bitAnd (is.getD 0 0) (is.getD 1 0) else if y = "or" \/ y = "either" then Builtin.bitOr (is.getD 0 0) (is.getD 1 0)
 else if y = "odd" then Builtin.bitXor (is.getD 0 0) (is.getD 1 0) else if y = "so" then Builtin.bitOr (Builtin.bitNot (is.getD 0 0)) (is.getD 1 0) else Builtin.bitOr (Builtin.bitAnd (is.getD 0 0) (is.getD 1 0)) (Builtin.bitAnd (Builtin.bitNot (is.getD 0 0)) (is.getD 2 0))
noncomputable def gk (y:Str):Nat:=if y = "yes" then 0 else if y = "sign" \/ y = "not" \/ y = "never" then 1 else if y = "pick" then 3 else 2
theorem gm:∀y∈allR,¬y = "twice" -> ¬(y = "neg" \/ y = "low" \/ y = "nought")->y∈Zd8:=by decide +kernel
noncomputable def gn:List Str:=["not","and","or","odd","pick","both","either","so","never","yes","sign"]
theorem vv:∀y∈gn,¬y = "yes" -> ¬y = "sign" -> ¬(y = "not" \/ y = "never")->¬(y = "and" \/ y = "both")->¬(y = "or" \/ y = "either")->¬y = "odd" -> ¬y = "so" -> 3<=gk y:=by decide +kernel
theorem qj{n m:Nat}{is:List Int}(h:is.length=m)(h2:n<=m):n<=is.length:=by rw [h];exact h2
theorem and_zero(x:Int):Builtin.bitAnd x 0=0:=by
 rcases xX x with ⟨m,rfl⟩ | ⟨m,rfl⟩
 ·rw [show (0:Int)=((0:Nat):Int) from rfl,Zd4,Nat.and_zero]
 ·rw [show (0:Int)=((0:Nat):Int) from rfl,Zd5,Nat.zero_and]
  rfl
theorem and_1(x:Int):Builtin.bitAnd x 1=x % 2:=by
 obtain ⟨h1,h2⟩:=Zey x 1
 rw [show (1:Int) / 2=0 from rfl,and_zero] at h1
 rw [show (1:Int) % 2=1 from rfl,Int.mul_one] at h2
 lia
noncomputable def XA(ys:List Str)(cols:Str->Int)(pl:Nat)(kp:List Int):List V->List Int × List Int
 | []=>([],[])
 | w::r =>
  let p:=XA ys cols pl kp r
  match w with
  | .str y =>
   if y∈allR then (okI y (p.1.take (npw w)) (-(kp.getD p.2.length 0)) (ktI y (p.1.take (npw w)) (-(kp.getD p.2.length 0)))::p.1.drop (npw w),p.2++[ktI y (p.1.take (npw w)) (-(kp.getD p.2.length 0))])
   else if y∈ys then (cols y::p.1.drop (npw w),p.2)
   else (oaI y (p.1.take (npw w))::p.1.drop (npw w),p.2)
  | .int z=>(-(bt z pl)::p.1.drop (npw w),p.2)
  | _=>p
noncomputable def Zd9(kvs:List (Key × V))(ys:List Str)(cols:Str->Int):Prop:=(∀y∈ys,YH kvs (.inr y)=some (.int (cols y)))/\∀y,y∉ys->YH kvs (.inr y)=none
noncomputable def xY(ys:List Str)(w:V):Prop:=(∃y,w=.str y/\y∈allR/\y∉ys/\1<=npw w/\(y∈Zd8->2<=npw w))\/(∃y,w=.str y/\y∈gn/\y∉allR/\y∉ys/\npw w=gk y)\/(∃y,w=.str y/\y∈ys/\y∉allR/\npw w=0)\/∃z:Int,w=.int z/\0<=z/\npw w=0
theorem xZ{ys:List Str}{cols:Str->Int}{pl:Nat}{kp:List Int}:∀ws:List V,(∀w∈ws,xY ys w)->(XA ys cols pl kp ws).1.length=JG ws
 | [],_=>rfl
 | w::r,hw=>by
  have ih:=xZ (ys:=ys) (cols:=cols) (pl:=pl) (kp:=kp) r fun w h=>hw w (Qag _ h)
  have go:∀x:Int,(x::(XA ys cols pl kp r).1.drop (npw w)).length=JG r - npw w + 1:=fun x=>by rw [Qa2,Qbc,ih]
  rcases hw w Qaf with ⟨y,rfl,h1,_⟩ | ⟨y,rfl,h1,h2,h3,_⟩ | ⟨y,rfl,h1,h2,_⟩ | ⟨z,rfl,_⟩
  ·show (if y∈allR then _ else _:List Int × List Int).1.length=_
   rw [Qan h1]
   exact go _
  ·show (if y∈allR then _ else if y∈ys then _ else _:List Int × List Int).1.length=_
   rw [Qal h2,Qal h3]
   exact go _
  ·show (if y∈allR then _ else if y∈ys then _ else _:List Int × List Int).1.length=_
   rw [Qal h2,Qan h1]
   exact go _
  ·exact go _
theorem zM(ys:List Str)(cols:Str->Int)(pl:Nat)(kp:List Int)(w:V)(r:List V):(XA ys cols pl kp r).2.length<=(XA ys cols pl kp (w::r)).2.length:=by
 cases w with
 | str y =>
  show _<=(if y∈allR then _ else if y∈ys then _ else _:List Int × List Int).2.length
  split
  ·rw [Qac]
   exact Nat.le_add_right _ _
  ·split <;> exact Qah _
 | _=>exact Qah _
theorem zN(ys:List Str)(cols:Str->Int)(pl:Nat)(kp:List Int):∀(ws:List V) (j:Nat),(XA ys cols pl kp (ws.drop j)).2.length<=(XA ys cols pl kp ws).2.length
 | [],j=>by rw [List.drop_nil];exact Qah _
 | w::r,0=>Qah _
 | w::r,j + 1=>Qbe (zN ys cols pl kp r j) (zM ys cols pl kp w r)
theorem qk:∀(ws:List V) (j:Nat),Y9 ws->Y9 (ws.drop j)
 | [],j,_=>by rw [List.drop_nil];exact trivial
 | w::r,0,h=>h
 | w::r,j + 1,h=>qk r j h.2
theorem gp:∀ws:List V,JG ws<=ws.length
 | []=>Qah _
 | w::r=>by
  have:=gp r
  show JG r - npw w + 1<=r.length + 1
  lia
theorem ql(z:Int)(ys:List Str):inV (.int z) (ys.map V.str)=false:=by
 cases q:inV (.int z) (ys.map V.str) with
 | false=>rfl
 | true =>
  refine Oe1a1 (List.any_eq_true.mp q) fun x hx e=>?_
  (refine Oe1a1 (Qbb.mp hx) fun y _ zo64=>?_;obtain rfl:=zo64)
  cases e
theorem yB(ys:List Str)(cols:Str->Int)(pl:Nat)(kp:List Int):∀ws:List V,(XA ys cols pl kp ws).2.length<=ws.length
 | []=>Qah _
 | w::r=>by
  have ih:=yB ys cols pl kp r
  cases w with
  | str y =>
   show (if y∈allR then _ else if y∈ys then _ else _:List Int × List Int).2.length<=r.length + 1
   split
   ·rw [Qac]
    exact Nat.add_le_add_right ih 1
   ·split <;> exact Nat.le_succ_of_le ih
  | _=>exact Nat.le_succ_of_le ih
theorem jI{x:Int}(h:x=0\/x=1)(l:Nat):bt (-x) l=x:=by
 rcases h with rfl | rfl
 ·exact qh l
 ·exact gb l
theorem jJ:∀y∈WA,(y∈allR↔y∈Gh):=by decide +kernel
theorem gq(w:Nat):∀a b:Int,Builtin.bitAnd a b / 2 ^ w=Builtin.bitAnd (a / 2 ^ w) (b / 2 ^ w):=by
 induction w with
 | zero=>intro a b;rw [Qcb,Qbi,Qbi,Qbi]
 | succ w ih =>
  intro a b
  have d:∀x:Int,x / 2 ^ (w + 1)=x / 2 / 2 ^ w:=fun x=>by rw [Qbq,Qch,Qcq (by decide:(0:Int)<=2)]
  rw [d,d,d,(Zey a b).1,ih]
theorem or_div(w:Nat):∀a b:Int,Builtin.bitOr a b / 2 ^ w=Builtin.bitOr (a / 2 ^ w) (b / 2 ^ w):=by
 induction w with
 | zero=>intro a b;rw [Qcb,Qbi,Qbi,Qbi]
 | succ w ih =>
  intro a b
  have d:∀x:Int,x / 2 ^ (w + 1)=x / 2 / 2 ^ w:=fun x=>by rw [Qbq,Qch,Qcq (by decide:(0:Int)<=2)]
  rw [d,d,d,(or2 a b).1,ih]
theorem gr{w:Nat}{x y:Int}(h:∀k,k < w->bt x k=bt y k):x % 2 ^ w=y % 2 ^ w:=by
 have e:qJ w x=qJ w y:=Qct fun i hi=>h i (Qby.mp hi)
 have h1:=zK w x
 have h2:=zK w y
 rw [e,h2] at h1
 exact h1.symm
theorem Zag{w:Nat}{a b c:Int}(a0:0<=a)(a1:a < 2 ^ w)(b0:0<=b)(b1:b < 2 ^ w)(c0:0<=c)(c1:c < 2 ^ w):Builtin.bitOr (Builtin.bitAnd a b) (Builtin.bitAnd (2 ^ w - 1 - a) c)=Builtin.bitOr (Builtin.bitAnd a b) (Builtin.bitAnd (Builtin.bitNot a) c) % 2 ^ w:=by
 have hp:(0:Int) < 2 ^ w:=Qcu (by decide)
 have hL:Builtin.bitOr (Builtin.bitAnd a b) (Builtin.bitAnd (2 ^ w - 1 - a) c) / 2 ^ w=0:=by
  rw [or_div,gq,gq,Qb6 a0 a1,Qb6 b0 b1,Qb6 c0 c1,Qb6 (by lia) (by lia)]
  rfl
 have hm:=Qbo (Builtin.bitOr (Builtin.bitAnd a b) (Builtin.bitAnd (2 ^ w - 1 - a) c)) (2 ^ w)
 rw [hL,Int.mul_zero,Int.add_zero] at hm
 rw [<-hm]
 refine gr fun k hk=>?_
 have hn:bt (2 ^ w - 1 - a) k=bt (Builtin.bitNot a) k:=by
  have e:2 ^ w - 1 - a=Builtin.bitNot a % 2 ^ w:=by
   have e1:Builtin.bitNot a=(2 ^ w - 1 - a) + 2 ^ w * (-1):=by unfold Builtin.bitNot;lia
   rw [e1,Qcj,Qck (by lia) (by lia)]
  rw [e,zL _ _ _ hk]
 rw [Gy,Xm,Xm,hn,Gy,Xm,Xm]
noncomputable def hor(ms:List Int):Int:=ms.foldl (fun a b=>a * 2 + b) 0
theorem yC(ms:List Int)(b:Int):hor (ms++[b])=hor ms * 2 + b:=by
 unfold hor
 rw [Qdr]
 rfl
theorem Zah{ms:List Int}{i:Nat}{b:Int}(h:ms[i]?=some b):hor (ms.take (i + 1))=hor (ms.take i) * 2 + b:=by
 rw [List.take_add_one,h]
 exact yC _ b
noncomputable def sm(b:Nat->Int):Nat->Int
 | 0=>0
 | n + 1=>sm b n + b n * 2 ^ n
theorem yD{b c:Nat->Int}:∀{n:Nat},(∀i,i < n->b i=c i)->sm b n=sm c n
 | 0,_=>rfl
 | n + 1,h=>by
  show sm b n + b n * 2 ^ n=sm c n + c n * 2 ^ n
  rw [yD (n:=n) fun i hi=>h i (Nat.lt_succ_of_lt hi),h n (Nat.lt_succ_self n)]
theorem za{b:Nat->Int}(hb:∀i,b i=0\/b i=1):∀n,0<=sm b n/\sm b n < 2 ^ n
 | 0=>⟨Qep _,(show (0:Int) < 2 ^ 0 by decide)⟩
 | n + 1=>by
  have ih:=za hb n
  have e:sm b (n + 1)=sm b n + b n * 2 ^ n:=rfl
  rw [e,pow_succ']
  have hp:=Wn n
  rcases hb n with z | z <;> rw [z] <;> constructor <;> lia
theorem gs{b:Nat->Int}(hb:∀i,b i=0\/b i=1)(p:Nat):∀n,p < n->sm b n / 2 ^ p % 2=b p
 | 0,h=>absurd h (Qdc _)
 | n + 1,h=>by
  have e:sm b (n + 1)=sm b n + b n * 2 ^ n:=rfl
  have hp:=Wn p
  rw [e]
  by_cases hpn:p < n
  ·obtain ⟨k,rfl⟩:∃k,n=p + (k + 1):=⟨n - p - 1,by lia⟩
   have e2:b (p + (k + 1)) * 2 ^ (p + (k + 1))=2 ^ p * (2 ^ k * b (p + (k + 1)) * 2):=by
    rw [Int.pow_add,pow_succ',Qch (b _),Qdg,Qdg,Qdg,Qch 2 (b _)]
   rw [e2,Qdw _ _ (by lia)]
   have ih:=gs hb p (p + (k + 1)) hpn
   generalize 2 ^ k * b (p + (k + 1))=z
   lia
  ·have e3:p=n:=by lia
   subst e3
   obtain ⟨h0,h1⟩:=za hb p
   rw [Qch,Qdw _ _ (by lia),Qb6 h0 h1]
   rcases hb p with z | z <;> rw [z] <;> rfl
theorem Zai(r:Int)(w:Nat):r / 2 ^ w % 2 * 2 ^ w + r % 2 ^ w=r % 2 ^ (w + 1):=by
 rw [pow_succ']
 have hp:=Wn w
 generalize (2:Int) ^ w=p at *
 have h0:0<=r % p:=Qa6 _ (by lia)
 have h1:r % p < p:=Qaw _ hp
 have e1:r=p * (r / p) + r % p:=(Int.mul_ediv_add_emod r p).symm
 generalize r / p=q at *
 generalize r % p=t at *
 have e2:q=2 * (q / 2) + q % 2:=by lia
 have h2:0<=q % 2:=by lia
 have h3:q % 2<=1:=by lia
 generalize q / 2=u at *
 generalize q % 2=b at *
 subst e2
 have hb:b=0\/b=1:=by lia
 have e3:r=b * p + t + p * 2 * u:=by
  rw [e1,Qd8,<-Qdg,Qch b p]
  lia
 rw [e3,Qcj]
 rcases hb with rfl | rfl
 ·rw [Qck (by lia) (by lia)]
 ·rw [Qck (by lia) (by lia)]
theorem gu(r:Int):∀w,sm (fun k=>r / 2 ^ k % 2) w=r % 2 ^ w
 | 0=>by
  rw [Qcb,Qdk]
  rfl
 | w + 1=>by
  show sm (fun k=>r / 2 ^ k % 2) w + r / 2 ^ w % 2 * 2 ^ w=_
  rw [gu r w]
  have:=Zai r w
  lia
theorem gv{H H':Hp}{a:Addr}{u:HO}(e:Rd H a u)(s:ZT H H'):Rd H' a u:=by
 rcases e with e | ⟨o,e⟩
 ·exact .inl (s _ _ e)
 ·exact .inr ⟨o,s _ _ e⟩
noncomputable abbrev Wu(l:Nat):V:=.int (l:Int)
theorem gw{ls:List Nat}{i:Nat}{x:V}(h:(ls.map Wu)[i]?=some x):∃l:Nat,x=V.int (l:Int)/\ls[i]?=some l:=by
 rw [Qap] at h
 cases e:ls[i]? with
 | none=>rw [e] at h;cases h
 | some b=>rw [e] at h;exact ⟨b,(Option.some.inj h).symm,rfl⟩
structure zP(H:Hp)(p:Addr)(i:Nat)(f:Nat->List V):Prop where
 ex:∃as:List V,H p=some (.lst as)/\as.length=i/\∀s,s < i->∃a,as[s]?=some (.ref a)/\H a=some (.tup (f s))
theorem Xz{H:Hp}{a p:Addr}{xs ys:List V}(h:H a=some (.tup xs))(h':H p=some (.lst ys)):a≠p:=YC h h' (by intro z;cases z)
theorem zP.more{H:Hp}{p a:Addr}{i:Nat}{f:Nat->List V}{as:List V}(h1:H p=some (.lst as))(h2:as.length=i)(h3:∀s,s < i->∃a,as[s]?=some (.ref a)/\H a=some (.tup (f s)))(ha:H a=some (.tup (f i))) :
  zP (upd H p (.lst (as++[.ref a]))) p (i + 1) f:=by
 refine ⟨_,Za,by rw [Qac,h2];rfl,fun s hs=>?_⟩
 by_cases e:s < i
 ·refine Oe1a1 (h3 s e) fun b g1 g2=>?_
  refine ⟨b,?_,by rw [Zj (Xz g2 h1)];exact g2⟩
  rw [Qa1 (by lia)]
  exact g1
 ·have e:s=i:=by lia
  subst e
  refine ⟨a,?_,by rw [Zj (Xz ha h1)];exact ha⟩
  rw [Qas (by lia),h2,Qdv]
  rfl
noncomputable def zQ(H:Hp)(p:Addr)(rs:List (List V)):Prop:=∃as:List V,H p=some (.tup as)/\as.length=rs.length/\∀(i:Nat) (r:List V),rs[i]?=some r->∃a,as[i]?=some (V.ref a)/\H a=some (.tup r)
theorem zQ.same{H H':Hp}{p:Addr}{rs:List (List V)}(R:zQ H p rs)(e:ZT H H'):zQ H' p rs:=by
 (refine Oe1a2 R fun as h1 h2 h3=>?_;clear R)
 refine ⟨as,e _ _ h1,h2,fun i r hi=>?_⟩
 refine Oe1a1 (h3 i r hi) fun a g1 g2=>?_
 exact ⟨a,g1,e _ _ g2⟩
noncomputable def uk(r:List Nat):List V:=r.map Wu
structure M4(H:Hp)(m:Addr)(nm:List Str)(b:Nat)(nx:List (List Nat))(ot:List (List V)):Prop where
 ex:∃pn ps po,H m=some (.tup [.ref pn,.int (b:Int),.ref ps,.ref po])/\H pn=some (.tup (nm.map V.str))/\zQ H ps (nx.map uk)/\zQ H po ot
theorem yesT{σ:St}{H:Hp}{A B:Hp->Prop}(h:A H):Zew σ H fun b H2=>if b=true then A H2 else B H2:=by
 show if true=true then A H else B H
 exact YD h
theorem p8{n:Nat}(h:n<=3):2 ^ n<=8:=Qd2 (by decide) h
theorem Zca{α:Type}{rs:List (List α)}{i:Nat}(h:i < rs.length):rs[i]?=some (rs.getD i []):=by
 rw [Qat,Qai h]
 rfl
theorem gx{H:Hp}{p:Addr}{rs:List (List V)}(R:zQ H p rs){i:Nat}(h:i < rs.length):∃as a,H p=some (HO.tup as)/\atI as (i:Int)=some (V.ref a)/\H a=some (.tup (rs.getD i [])):=by
 (refine Oe1a2 R fun as h1 h2 h3=>?_;clear R)
 refine Oe1a1 (h3 i _ (Zca h)) fun a g1 g2=>?_
 exact ⟨as,a,h1,Xj g1,g2⟩
theorem gy(nx:List (List Nat))(i:Nat):(nx.map uk).getD i []=uk (nx.getD i []):=by
 rw [Qat,Qat,Qap]
 cases nx[i]? <;> rfl
theorem getD_mem{α:Type}{rs:List (List α)}{i:Nat}(h:i < rs.length):rs.getD i []∈rs:=Qax (Zca h)
noncomputable def gz(H:Hp)(p:Addr)(rs:List (List V)):Prop:=∃as:List V,H p=some (.lst as)/\as.length=rs.length/\∀(i:Nat) (r:List V),rs[i]?=some r->∃a,as[i]?=some (V.ref a)/\H a=some (.tup r)
theorem gz.more{H:Hp}{p a:Addr}{rs:List (List V)}{r:List V}{as:List V}(h1:H p=some (.lst as))(h2:as.length=rs.length)(h3:∀(i:Nat) (r:List V),rs[i]?=some r->∃a,as[i]?=some (V.ref a)/\H a=some (.tup r))(ha:H a=some (.tup r)) :
  gz (upd H p (.lst (as++[.ref a]))) p (rs++[r]):=by
 refine ⟨_,Za,by rw [Qac,Qac,h2];rfl,fun i q hq=>?_⟩
 by_cases e:i < rs.length
 ·rw [Qa1 e] at hq
  refine Oe1a1 (h3 i q hq) fun b g1 g2=>?_
  refine ⟨b,?_,by rw [Zj (Xz g2 h1)];exact g2⟩
  rw [Qa1 (by lia)]
  exact g1
 ·rw [Qas (by lia)] at hq
  have ei:i - rs.length=0:=by
   have:=(Qae.mp hq).1
   simp only [Qa2,Qc0] at this
   lia
  rw [ei] at hq
  cases hq
  refine ⟨a,?_,by rw [Zj (Xz ha h1)];exact ha⟩
  rw [Qas (by lia),h2,ei]
  rfl
theorem GK{α:Type}{f:Nat->α}{many i:Nat}(h:i < many):((List.range many).map f)[i]?=some (f i):=by
 rw [Qap,Qcv h]
 rfl
theorem J2(xs:List V)(k:Nat):GC xs none (some (k:Int))=xs.take k:=qb xs k
theorem g9(xs:List V)(k:Nat):GC xs (some (k:Int)) none=xs.drop k:=zF xs k
noncomputable def YB(H:Hp)(zs:List V)(rs:List (List V)):Prop:=zs.length=rs.length/\∀(i:Nat) (r:List V),rs[i]?=some r->∃a,zs[i]?=some (V.ref a)/\H a=some (.tup r)
theorem YB.same{H H':Hp}{zs:List V}{rs:List (List V)}(z:YB H zs rs)(e:ZT H H'):YB H' zs rs:=by
 refine ⟨z.1,fun i r hr=>?_⟩
 refine Oe1a1 (z.2 i r hr) fun a g1 g2=>?_
 exact ⟨a,g1,e _ _ g2⟩
theorem YB.snoc{H:Hp}{zs:List V}{rs:List (List V)}{a:Addr}{r:List V}(z:YB H zs rs)(h:H a=some (.tup r)):YB H (zs++[.ref a]) (rs++[r]):=by
 refine ⟨by rw [Qac,Qac,z.1];rfl,fun i q hq=>?_⟩
 by_cases e:i < rs.length
 ·rw [Qa1 e] at hq
  rw [Qa1 (by rw [z.1];exact e)]
  exact z.2 i q hq
 ·rw [Qas (by lia)] at hq
  have ei:i - rs.length=0:=by
   have:=(Qae.mp hq).1
   simp only [Qa2,Qc0] at this
   lia
  rw [ei] at hq
  cases hq
  refine ⟨a,?_,h⟩
  rw [Qas (by rw [z.1];lia),z.1,ei]
  rfl
theorem YB.nil{H:Hp}:YB H [] []:=⟨rfl,fun i r hr=>by cases hr⟩
theorem YB.at{H:Hp}{zs:List V}{rs:List (List V)}(z:YB H zs rs){i:Nat}{v:V}(h:zs[i]?=some v):∃a r,v=V.ref a/\rs[i]?=some r/\H a=some (.tup r):=by
 have l:=(Qae.mp h).1
 rw [z.1] at l
 refine Oe1a1 (z.2 i _ (Qai l)) fun a g1 g2=>?_
 exact ⟨a,_,Option.some.inj (h.symm.trans g1),Qai l,g2⟩
noncomputable def nk(l:List Int):List (Key × V):=Wm (l.map (Sum.inl:Int->Key))
theorem gB{l:List Int}(h:l.Nodup):(l.map (Sum.inl:Int->Key)).Nodup:=by
 unfold List.Nodup
 rw [Qed]
 exact List.Pairwise.imp (fun hne e=>hne (Sum.inl.inj e)) h
theorem jL{l:List Int}{s:Int}:(Sum.inl s:Key)∈l.map Sum.inl↔s∈l:=by
 constructor
 ·intro h
  refine Oe1a1 (Qbb.mp h) fun x hx e=>?_
  rw [<-Sum.inl.inj e]
  exact hx
 ·exact fun h=>Qbh h
theorem gC{l:List Int}{s:Int}(h:s∈l)(hn:l.Nodup):YH (nk l) (.inl s)=some (.int (l.idxOf s:Int)):=by
 have:=qa (l.map (Sum.inl:Int->Key)) (.inl s) (jL.mpr h) (gB hn)
 have e:=idx_map (β:=Key) Sum.inl (fun _ _=>Sum.inl.inj) s l
 rw [e] at this
 exact this
theorem Zea{l:List Int}{s:Int}(h:s∉l):YH (nk l) (.inl s)=none:=xn _ _ fun z=>h (jL.mp z)
theorem nk_len(l:List Int):(nk l).length=l.length:=by
 unfold nk
 rw [zE,Qaa]
theorem nk_put{l:List Int}{s:Int}(h:s∉l):putK (nk l) (.inl s) (.int (l.length:Int))=nk (l++[s]):=by
 unfold nk
 rw [Qbj]
 show _=Wm (l.map Sum.inl++[Sum.inl s])
 rw [xm,Qaa]
 unfold putK
 rw [Qal fun z=>?_]
 rw [List.any_eq_true] at z
 (refine Oe1a1 z fun p hp e=>?_;clear z)
 have:p.1∈(Wm (l.map (Sum.inl:Int->Key))).map (·.1):=Qbh hp
 rw [JP,Qbp e] at this
 exact h (jL.mp this)
theorem map_range{α β:Type}(l:List α)(i:Nat)(hl:l.length=i)(f:α->β)(g:Nat->β)(h:∀j a,l[j]?=some a->g j=f a):(List.range i).map g=l.map f:=by
 refine List.ext_getElem? fun j=>?_
 rw [Qap,Qap]
 by_cases hj:j < i
 ·rw [Qcv hj,Qai (by lia)]
  exact congrArg some (h j _ (Qai (by lia)))
 ·rw [Qdx (by rw [Qao];lia),Qdx (by lia)]
  rfl
theorem JT{H H':Hp}{zs:List V}{rs:List (List V)}(h:∀b xs,H b=some (.tup xs)->H' b=some (.tup xs))(z:YB H zs rs):YB H' zs rs:=⟨z.1,fun i r hr=>by
 refine Oe1a1 (z.2 i r hr) fun a h1 h2=>?_
 exact ⟨a,h1,h _ _ h2⟩⟩
inductive SK(κ:Type)[DecidableEq κ] where
 | int (f:κ->Int) (inj:∀a b,f a=f b->a=b)
 | key (kn:KN κ)
theorem qm{n:Nat}(h:n<=10000000):n < sizeLine:=Qdn h (by decide)
section
variable {κ:Type}[DecidableEq κ]
noncomputable def SK.at_:SK κ->Hp->κ->V->Prop
 | .int f _,_,k,v=>v=.int (f k)
 | .key kn,H,k,v=>∃a,v=.ref a/\kn.at_ H k a
noncomputable def SK.dic:SK κ->Hp->Addr->List κ->Prop
 | .int f _,H,d,l=>H d=some (.dK (nk (l.map f)))
 | .key kn,H,d,l=>jh kn H d (Wm l)
theorem SK.keep{sk:SK κ}{H H':Hp}{k:κ}{v:V}(h:sk.at_ H k v)(e:∀b xs,H b=some (.tup xs)->H' b=some (.tup xs)):sk.at_ H' k v:=by
 cases sk with
 | int f _=>exact h
 | key kn =>
  (refine Oe1a1 h fun a zo65 ha=>?_;obtain rfl:=zo65;clear h)
  exact ⟨a,rfl,kn.keep _ _ _ _ e ha⟩
theorem gD{kn:KN κ}{H:Hp}{d:Addr}{kvs:List (κ × V)}(n:jh kn H d kvs):∃o,H d=some o/\(∀xs,o≠.tup xs)/\∀xs,o≠.lst xs:=by
 rcases n.2.2 with ⟨_,e⟩ | ⟨ys,e,_⟩
 ·exact ⟨_,e,(fun _ z=>nomatch z),fun _ z=>nomatch z⟩
 ·exact ⟨_,e,(fun _ z=>nomatch z),fun _ z=>nomatch z⟩
theorem SK.ne{sk:SK κ}{H:Hp}{d:Addr}{l:List κ}(h:sk.dic H d l):∃o,H d=some o/\(∀xs,o≠.tup xs)/\∀xs,o≠.lst xs:=by
 cases sk with
 | int f _=>exact ⟨_,h,(fun _ z=>nomatch z),fun _ z=>nomatch z⟩
 | key kn=>exact gD h
theorem Zaj{kn:KN κ}{H H':Hp}{d:Addr}{kvs:List (κ × V)}(n:jh kn H d kvs)(hd:∀o,H d=some o->H' d=some o)(e:∀b xs,H b=some (.tup xs)->H' b=some (.tup xs)):jh kn H' d kvs:=by
 (refine Oe0a2 n fun n1 n2 n3=>?_;clear n)
 refine ⟨n1,n2,?_⟩
 rcases n3 with ⟨e1,e2⟩ | ⟨ys,e1,e2⟩
 ·exact .inl ⟨e1,hd _ e2⟩
 ·exact .inr ⟨ys,hd _ e1,Paired.mapP e2 fun p q h=>⟨h.1,kn.keep _ _ _ _ e h.2.1,h.2.2⟩⟩
theorem SK.stay{sk:SK κ}{H H':Hp}{d:Addr}{l:List κ}(h:sk.dic H d l)(hd:∀o,H d=some o->H' d=some o)(e:∀b xs,H b=some (.tup xs)->H' b=some (.tup xs)):sk.dic H' d l:=by
 cases sk with
 | int f _=>exact hd _ h
 | key kn=>exact Zaj h hd e
theorem SK.off{sk:SK κ}{H:Hp}{d f:Addr}{l:List κ}{xs:List V}{o:HO}(h:sk.dic H d l)(e:H f=some (.lst xs)):sk.dic (upd H f o) d l:=by
 refine Oe1a2 (SK.ne h) fun u hu _ hl=>?_
 have hdf:d≠f:=fun z=>by
  rw [z,e] at hu
  cases hu
  exact hl xs rfl
 exact SK.stay h (fun o e=>by rw [Zj hdf];exact e) fun b ys q=>by rw [Zj (YC q e fun z=>nomatch z)];exact q
noncomputable def StA(sk:SK κ)(H:Hp)(l:List κ)(vs:List V):Prop:=vs.length=l.length/\∀(i:Nat) (k:κ),l[i]?=some k->∃v,vs[i]?=some v/\sk.at_ H k v
theorem StA.keep{sk:SK κ}{H H':Hp}{l:List κ}{vs:List V}(h:StA sk H l vs)(e:∀b xs,H b=some (.tup xs)->H' b=some (.tup xs)):StA sk H' l vs:=⟨h.1,fun i k hk=>by
 refine Oe1a1 (h.2 i k hk) fun v h1 h2=>?_
 exact ⟨v,h1,SK.keep h2 e⟩⟩
theorem StA.snoc{sk:SK κ}{H:Hp}{l:List κ}{vs:List V}{k:κ}{v:V}(h:StA sk H l vs)(hv:sk.at_ H k v):StA sk H (l++[k]) (vs++[v]):=by
 refine ⟨by rw [Qac,Qac,h.1];rfl,fun i q hq=>?_⟩
 by_cases e:i < l.length
 ·rw [Qa1 e] at hq
  rw [Qa1 (by rw [h.1];exact e)]
  exact h.2 i q hq
 ·rw [Qas (by lia)] at hq
  have ei:i - l.length=0:=by
   have:=(Qae.mp hq).1
   simp only [Qa2,Qc0] at this
   lia
  rw [ei] at hq
  cases hq
  refine ⟨v,?_,hv⟩
  rw [Qas (by rw [h.1];lia),h.1,ei]
  rfl
theorem StA.one{sk:SK κ}{H:Hp}{k:κ}{v:V}(hv:sk.at_ H k v):StA sk H [k] [v]:=StA.snoc (l:=[]) (vs:=[]) ⟨rfl,fun i q hq=>by cases hq⟩ hv
noncomputable def bfS(nx:κ->List κ)(l:List κ)(i:Nat):List κ:=match l[i]? with
 | some s=>(nx s).foldl XR l
 | none=>l
noncomputable def bfN(nx:κ->List κ)(b:κ):Nat->List κ
 | 0=>[b]
 | i + 1=>bfS nx (bfN nx b i) i
structure BfE(nx:κ->List κ)(b:κ)(l:List κ):Prop where
 e:l=bfN nx b l.length
 go:∀i,i < l.length->i < (bfN nx b i).length
theorem qo(r:List κ):∀l:List κ,l.Nodup->(r.foldl XR l).Nodup:=by
 induction r with
 | nil=>exact fun l h=>h
 | cons k r ih=>exact fun l h=>ih _ (JO h k)
theorem qp(r:List κ){x:κ}:∀l:List κ,x∈r.foldl XR l↔x∈l\/x∈r:=by
 induction r with
 | nil=>intro l;simp
 | cons k r ih =>
  intro l
  rw [Qej,ih,yu,Qaj,or_assoc]
theorem gE(r:List κ):∀l:List κ,(r.foldl XR l).length<=l.length + r.length:=by
 induction r with
 | nil=>exact fun l=>Qah _
 | cons k r ih =>
  intro l
  have h1:=ih (XR l k)
  have h2:=uS l k
  rw [Qej,Qa2]
  lia
variable {nx:κ->List κ}{b:κ}
theorem J3:∀i,(bfN nx b i).Nodup
 | 0=>Qbu.mpr ⟨Qa0,Qdt⟩
 | i + 1=>by
  show (bfS nx (bfN nx b i) i).Nodup
  unfold bfS
  split
  ·exact qo _ _ (J3 i)
  ·exact J3 i
theorem gF{U:List κ}(hb:b∈U)(hr:∀s∈U,∀x∈nx s,x∈U):∀i,∀s∈bfN nx b i,s∈U
 | 0,s,h=>by rw [Qa5.mp h];exact hb
 | i + 1,s,h=>by
  have h:s∈bfS nx (bfN nx b i) i:=h
  unfold bfS at h
  split at h
  ·rename_i q hq
   rcases (qp _ _).mp h with z | z
   ·exact gF hb hr i s z
   ·exact hr q (gF hb hr i q (Qax hq)) s z
  ·exact gF hb hr i s h
theorem bf_len{U:List κ}(hb:b∈U)(hr:∀s∈U,∀x∈nx s,x∈U)(i:Nat):(bfN nx b i).length<=U.length:=xo (J3 i) (gF hb hr i)
theorem jM{i:Nat}{s:κ}(h:(bfN nx b i)[i]?=some s):bfN nx b (i + 1)=(nx s).foldl XR (bfN nx b i):=by
 show bfS nx (bfN nx b i) i=_
 unfold bfS
 rw [h]
theorem yE(j:Nat):∀d,∃r,bfN nx b (j + d)=bfN nx b j++r
 | 0=>⟨[],(Qa3 _).symm⟩
 | d + 1=>by
  obtain ⟨r,e⟩:=yE j d
  show ∃r,bfS nx (bfN nx b (j + d)) (j + d)=_
  unfold bfS
  split
  ·obtain ⟨r2,e2⟩:=xV (nx _) (bfN nx b (j + d))
   exact ⟨r++r2,by rw [e2,e,Qbs]⟩
  ·exact ⟨r,e⟩
theorem Zfv{i j:Nat}{s:κ}(hj:j<=i)(hs:(bfN nx b j)[j]?=some s):(bfN nx b i)[j]?=some s:=by
 obtain ⟨r,e⟩:=yE (nx:=nx) (b:=b) j (i - j)
 rw [show j + (i - j)=i by lia] at e
 rw [e,Qa1 (Qae.mp hs).1]
 exact hs
noncomputable def Zfw(nx:κ->List κ)(b:κ)(j:Nat):List Nat:=match (bfN nx b j)[j]? with
 | some s=>(nx s).map fun x=>(bfN nx b (j + 1)).idxOf x
 | none=>[]
noncomputable def qM(nx:κ->List κ)(b:κ)(i:Nat):List (List V):=(List.range i).map fun j=>uk (Zfw nx b j)
noncomputable def Zf6(nx:κ->List κ)(ot:κ->List V)(b:κ)(j:Nat):List V:=match (bfN nx b j)[j]? with
 | some s=>ot s
 | none=>[]
noncomputable def qN(nx:κ->List κ)(ot:κ->List V)(b:κ)(i:Nat):List (List V):=(List.range i).map (Zf6 nx ot b)
theorem vx{i:Nat}{s:κ}(h:(bfN nx b i)[i]?=some s):qM nx b (i + 1)=qM nx b i++[((nx s).map fun x=>Wu ((bfN nx b (i + 1)).idxOf x))]:=by
 unfold qM
 rw [Qem,Qbj]
 show _++[uk (Zfw nx b i)]=_
 unfold Zfw uk
 rw [h]
 show _++[List.map _ (List.map _ _)]=_
 rw [Qbw]
 rfl
theorem vy{ot:κ->List V}{i:Nat}{s:κ}(h:(bfN nx b i)[i]?=some s):qN nx ot b (i + 1)=qN nx ot b i++[ot s]:=by
 unfold qN
 rw [Qem,Qbj]
 show _++[Zf6 nx ot b i]=_
 unfold Zf6
 rw [h]
noncomputable def rnG(nx:κ->List κ)(l:List κ):List (List Nat):=l.map fun s=>(nx s).map fun x=>l.idxOf x
theorem zb(nx:κ->List κ)(l:List κ):(rnG nx l).length=l.length:=Qaa _
theorem jN{i j:Nat}{a:κ}(hl:(bfN nx b i).length=i)(hg:∀j,j < i->j < (bfN nx b j).length)(ha:(bfN nx b i)[j]?=some a):j < i/\(bfN nx b j)[j]?=some a:=by
 have hj:j < i:=by have:=(Qae.mp ha).1;lia
 refine ⟨hj,?_⟩
 have e:=Qai (hg j hj)
 rw [Zfv (Qau hj) e] at ha
 rw [e]
 exact ha
theorem gG{i:Nat}(hl:(bfN nx b i).length=i)(hg:∀j,j < i->j < (bfN nx b j).length):qM nx b i=(rnG nx (bfN nx b i)).map uk:=by
 unfold qM rnG
 rw [Qbw]
 refine map_range _ i hl _ _ fun j a ha=>?_
 obtain ⟨hj,e⟩:=jN hl hg ha
 show uk (Zfw nx b j)=uk _
 unfold Zfw
 rw [e]
 congr 1
 refine Qct fun x hx=>?_
 obtain ⟨r,e2⟩:=yE (nx:=nx) (b:=b) (j + 1) (i - (j + 1))
 rw [show j + 1 + (i - (j + 1))=i by lia] at e2
 rw [e2,wL]
 rw [jM e]
 exact (qp _ _).mpr (.inr hx)
theorem gH{ot:κ->List V}{i:Nat}(hl:(bfN nx b i).length=i)(hg:∀j,j < i->j < (bfN nx b j).length):qN nx ot b i=(bfN nx b i).map ot:=by
 unfold qN
 refine map_range _ i hl _ _ fun j a ha=>?_
 obtain ⟨hj,e⟩:=jN hl hg ha
 unfold Zf6
 rw [e]
end
noncomputable def SqF(H1 H2:Hp)(r:Addr)(ws:List V):Prop:=H2 r=some (.tup ws)\/(H2 r=some (.lst ws)/\H1 r=none)
theorem Zak{K:PySem.W.Frag}{tl:TE}{a:Addr}{xs:List V}{is:List Nat}{tc:TT}{te:TE}{σ:St}{H:Hp}{Q:VK}(htl:∀R:VK,R (.ref a) H->tl σ H R)(hx:H a=some (.tup xs)\/H a=some (.lst xs))(Pv:Nat->List V->Hp->Prop)(h0:Pv 0 [] H)(hl:∀i zs H,Pv i zs H->zs.length<=sizeLine)(hq:∀i zs H',Pv i zs H'->∀o,H a=some o->H' a=some o)
  (hs:∀i x zs H (R:List V->Hp->Prop),(∀zs H,Pv (i + 1) zs H->R zs H)->xs[i]?=some x->Pv i zs H->tc (GF is σ (some x)) H fun b H2=>if b=true then te (GF is σ (some x)) H2 fun y H3=>R (zs++[y]) H3 else R zs H2)
  (hd:∀zs H,Pv xs.length zs H->∀p,H p=none->Q (.ref p) (upd H p (.lst zs))):km K tl σ H (xK is tc te σ Q)\/iTup K tl σ H (xK is tc te σ Q):=by
 rcases hx with hx | hx
 ·exact .inr (htl _ ⟨a,rfl,⟨_,SqT.of hx⟩,GG (K:=K) (a:=a) (xs:=xs) Pv h0 hl (fun i zs H' h=>SqT.of (hq i zs H' h _ hx)) hs hd⟩)
 ·exact .inl (htl _ ⟨a,rfl,⟨_,SqL.of hx⟩,Jt (K:=K) (a:=a) (xs:=xs) Pv h0 hl (fun i zs H' h=>SqL.of (hq i zs H' h _ hx)) hs hd⟩)
noncomputable def Jj:List V->List Int
 | []=>[]
 | .int z::r=>((Builtin.Int.intBits z:Nat):Int)::Jj r
 | _::r=>Jj r
theorem zR:∀ws:List V,(Jj ws).length<=ws.length
 | []=>Qah _
 | w::r=>by
  have:=zR r
  cases w <;> simp only [Jj,Qa2] <;> lia
theorem qr:∀(a b:List V),Jj (a++b)=Jj a++Jj b
 | [],_=>rfl
 | w::r,b=>by
  have:=qr r b
  cases w <;> simp only [Jj,Qdh,this]
theorem qt{z:Int}:∀{ws:List V},V.int z∈ws->((Builtin.Int.intBits z:Nat):Int)∈Jj ws
 | w::r,h=>by
  rcases Qaj.mp h with rfl | h
  ·exact Qaf
  ·have:=qt h
   cases w <;> simp only [Jj] <;> first | exact this | exact Qag _ this
theorem yF{m:Int}:∀{ws:List V},m∈Jj ws->∃z:Int,V.int z∈ws/\m=((Builtin.Int.intBits z:Nat):Int)
 | w::r,h=>by
  have go:m∈Jj r->∃z:Int,V.int z∈w::r/\m=((Builtin.Int.intBits z:Nat):Int):=fun h=>let ⟨z,h1,h2⟩:=yF h;⟨z,Qag _ h1,h2⟩
  cases w with
  | int z =>
   rcases Qaj.mp h with rfl | h
   ·exact ⟨z,Qaf,rfl⟩
   ·exact go h
  | _=>exact go h
theorem Zeb{z:Int}(h:0<=z):z < 2 ^ Builtin.Int.intBits z:=by
 unfold Builtin.Int.intBits
 split
 ·rename_i e
  rw [beq_iff_eq.mp e]
  decide
 ·obtain ⟨n,rfl⟩:=Int.eq_ofNat_of_zero_le h
  have:=Nat.lt_log2_self (n:=n)
  rw [show ((n:Int)).natAbs=n from rfl]
  exact_mod_cast this
theorem bits_le{z:Int}{B:Nat}(h:0<=z)(hz:z < 2 ^ B):Builtin.Int.intBits z<=B:=by
 unfold Builtin.Int.intBits
 split
 ·exact Qbg _
 ·rename_i e
  obtain ⟨n,rfl⟩:=Int.eq_ofNat_of_zero_le h
  have hn:n≠0:=fun q=>e (by rw [q];rfl)
  rw [show ((n:Int)).natAbs=n from rfl]
  have h2:n < 2 ^ B:=by exact_mod_cast hz
  exact (Nat.log2_lt hn).mpr h2
theorem Zcb:∀(bs:List Int) (l:Nat),(∀b∈bs,b=0\/b=1)->bt (hor bs.reverse) l=bs.getD l 0
 | [],l,_=>qh l
 | b::r,l,h=>by
  rw [Qca,yC]
  have hb:=h b Qaf
  cases l with
  | zero =>
   unfold bt
   rw [Qcb,Qbi]
   show _=b
   lia
  | succ l =>
   rw [YU,show (hor r.reverse * 2 + b) / 2=hor r.reverse by lia,Zcb r l fun b hb=>h b (Qag _ hb)]
   rfl
noncomputable def Y6(L:Nat)(ys:List Str)(y:Str):Int:=hor ((List.range L).map fun l:Nat=>bt (l:Int) (ys.idxOf y)).reverse
theorem xw{κ:Type}[DecidableEq κ]{l:List κ}{i:Nat}{x:κ}(hn:l.Nodup)(h:l[i]?=some x):l.idxOf x=i:=by
 obtain ⟨hi,rfl⟩:=Qae.mp h
 exact hn.idxOf_getElem i hi
theorem Zal{L:Nat}{ys:List Str}{i l:Nat}{y:Str}(hn:ys.Nodup)(h:ys[i]?=some y)(hl:l < L):bt (Y6 L ys y) l=bt (l:Int) i:=by
 unfold Y6
 rw [xw hn h,Zcb _ _ fun b hb=>by
  (refine Oe1a1 (Qbb.mp hb) fun c _ zo66=>?_;obtain rfl:=zo66)
  exact YG _ _]
 rw [Qat,Qap,Qcv hl]
 rfl
noncomputable def lgB:List V->Nat
 | []=>0
 | .int z::r=>max (Builtin.Int.intBits z) (lgB r)
 | _::r=>lgB r
theorem gI{z:Int}:∀{ws:List V},V.int z∈ws->Builtin.Int.intBits z<=lgB ws
 | w::r,h=>by
  rcases Qaj.mp h with rfl | h
  ·exact Nat.le_max_left _ _
  ·have:=gI h
   cases w <;> simp only [lgB] <;> lia
theorem gJ:∀ws:List V,lgB ws=0\/∃z:Int,V.int z∈ws/\lgB ws=Builtin.Int.intBits z
 | []=>.inl rfl
 | w::r=>by
  have go:(lgB (w::r)=lgB r)->lgB (w::r)=0\/∃z:Int,V.int z∈w::r/\lgB (w::r)=Builtin.Int.intBits z:=fun e=>by
   rw [e]
   rcases gJ r with h | ⟨z,h1,h2⟩
   ·exact .inl h
   ·exact .inr ⟨z,Qag _ h1,h2⟩
  cases w with
  | int z =>
   by_cases h:lgB r<=Builtin.Int.intBits z
   ·exact .inr ⟨z,Qaf,Nat.max_eq_left h⟩
   ·exact go (Nat.max_eq_right (by lia))
  | _=>exact go rfl
theorem Zcc{ws:List V}{L:Nat}(h1:∀z:Int,V.int z∈ws->Builtin.Int.intBits z<=L)(h2:L=0\/∃z:Int,V.int z∈ws/\L=Builtin.Int.intBits z):L=lgB ws:=by
 refine Nat.le_antisymm ?_ ?_
 ·rcases h2 with h | ⟨z,hz,h⟩
  ·lia
  ·rw [h]
   exact gI hz
 ·rcases gJ ws with h | ⟨z,hz,h⟩
  ·lia
  ·rw [h]
   exact h1 z hz
noncomputable def Xk(ws:List V):Nat:=(ws.filter fun w=>inV w (allR.map V.str)).length
noncomputable def Zez(nm:List Str)(cols:Str->Int)(ws:List V)(s:Int × List Int):List Int × List Int:=XA nm cols s.1.toNat s.2 ws
noncomputable def nxT(nm:List Str)(cols:Str->Int)(ws:List V)(L:Nat)(s:Int × List Int):List (Int × List Int):=(List.range (2 ^ nm.length)).map fun l=>(min (s.1 + 1) (L:Int),(Zez nm cols ws s).2.map fun c=>bt c l)
noncomputable def otT(nm:List Str)(cols:Str->Int)(ws:List V)(o0 o1:V)(s:Int × List Int):List V:=(List.range (2 ^ nm.length)).map fun l=>if bt ((Zez nm cols ws s).1.getD 0 0) l=1 then o1 else o0
noncomputable def JH(pw:Addr)(H H':Hp):Prop:=∀b o,H b=some o->b≠pw->H' b=some o
noncomputable def Zec(H:Hp)(k:Int × List Int)(a:Addr):Prop:=∃t,H a=some (.tup [.int k.1,.ref t])/\H t=some (.tup (k.2.map V.int))
theorem Zec.bits{H:Hp}{k:Int × List Int}{a:Addr}(h:Zec H k a):Zb3 H k a:=by
 (refine Oe1a1 h fun t h1 h2=>?_;clear h)
 refine ⟨t,h1,_,h2,?_⟩
 rw [Qbw]
 rfl
noncomputable def knQ:KN (Int × List Int) where
 knd:=knP.knd
 hsh:=knP.hsh
 at_:=Zec
 hash_eq:=knP.hash_eq
 ok:=fun P w H h k a ok b=>knP.ok P w H h k a ok b.bits
 room:=knP.room
 room0:=knP.room0
 keep:=fun H H' k a hk ⟨t,e,e2⟩=>⟨t,hk _ _ e,hk _ _ e2⟩
noncomputable def JU:Nat->List (List Int)
 | 0=>[[]]
 | n + 1=>(JU n).map (List.cons 0)++(JU n).map (List.cons 1)
theorem zS:∀n,(JU n).length=2 ^ n
 | 0=>rfl
 | n + 1=>by
  show ((JU n).map (List.cons 0)++(JU n).map (List.cons 1)).length=_
  rw [Qac,Qaa,Qaa,zS n,Nat.pow_succ]
  lia
theorem Wc:∀{n:Nat} {ks:List Int},ks∈JU n↔ks.length=n/\∀x∈ks,x=0\/x=1
 | 0,ks=>by
  constructor
  ·intro h
   rw [Qa5.mp h]
   exact ⟨rfl,fun x hx=>by cases hx⟩
  ·rintro ⟨h,_⟩
   rw [Qcn h]
   exact Qa5.mpr rfl
 | n + 1,ks=>by
  show ks∈(JU n).map (List.cons 0)++(JU n).map (List.cons 1)↔_
  rw [Qbd,Qbb,Qbb]
  constructor
  ·rintro (⟨r,hr,rfl⟩ | ⟨r,hr,rfl⟩)
   ·obtain ⟨h1,h2⟩:=Wc.mp hr
    refine ⟨by rw [Qa2,h1],fun x hx=>?_⟩
    rcases Qaj.mp hx with rfl | hx
    ·exact .inl rfl
    ·exact h2 x hx
   ·obtain ⟨h1,h2⟩:=Wc.mp hr
    refine ⟨by rw [Qa2,h1],fun x hx=>?_⟩
    rcases Qaj.mp hx with rfl | hx
    ·exact .inr rfl
    ·exact h2 x hx
  ·rintro ⟨h1,h2⟩
   cases ks with
   | nil=>cases h1
   | cons x r =>
    have hr:r∈JU n:=Wc.mpr ⟨by simpa using h1,fun y hy=>h2 y (Qag _ hy)⟩
    rcases h2 x Qaf with rfl | rfl
    ·exact .inl ⟨r,hr,rfl⟩
    ·exact .inr ⟨r,hr,rfl⟩
noncomputable def uni(kc:Nat):Nat->List (Int × List Int)
 | 0=>[]
 | n + 1=>uni kc n++(JU kc).map fun ks=>((n:Int),ks)
theorem gK(kc:Nat):∀n,(uni kc n).length=n * 2 ^ kc
 | 0=>by rw [Nat.zero_mul];rfl
 | n + 1=>by
  show (uni kc n++(JU kc).map _).length=_
  rw [Qac,Qaa,gK kc n,zS,Nat.succ_mul]
theorem qu{kc:Nat}{s:Int × List Int}:∀{n:Nat},s∈uni kc n↔∃p:Nat,p < n/\s.1=(p:Int)/\s.2∈JU kc
 | 0=>⟨(fun h=>nomatch h),fun ⟨p,h,_⟩=>absurd h (Qdc _)⟩
 | n + 1=>by
  show s∈uni kc n++(JU kc).map (fun ks=>((n:Int),ks))↔_
  rw [Qbd,qu,Qbb]
  constructor
  ·rintro (⟨p,h1,h2⟩ | ⟨ks,h1,rfl⟩)
   ·exact ⟨p,by lia,h2⟩
   ·exact ⟨n,by lia,rfl,h1⟩
  ·(intro zq8;(refine Oe1a2 zq8 fun p h1 h2 h3=>?_;clear zq8))
   by_cases e:p < n
   ·exact .inl ⟨p,e,h2,h3⟩
   ·have e:p=n:=by lia
    subst e
    exact .inr ⟨s.2,h3,by rw [<-h2]⟩
theorem WG(w:V)(r:List V):Xk (w::r)=Xk r + if inV w (allR.map V.str)=true then 1 else 0:=by
 unfold Xk
 rw [Qcm]
 split <;> rfl
theorem zc{ys:List Str}{cols:Str->Int}{pl:Nat}{kp:List Int}:∀ws:List V,(∀w∈ws,xY ys w)->(XA ys cols pl kp ws).2.length=Xk ws
 | [],_=>rfl
 | w::r,hw=>by
  have ih:=zc (ys:=ys) (cols:=cols) (pl:=pl) (kp:=kp) r fun w h=>hw w (Qag _ h)
  rw [WG]
  rcases hw w Qaf with ⟨y,rfl,h1,_⟩ | ⟨y,rfl,h1,h2,h3,_⟩ | ⟨y,rfl,h1,h2,_⟩ | ⟨z,rfl,_⟩
  ·show (if y∈allR then _ else _:List Int × List Int).2.length=_
   rw [Qan h1,Z1,Qad h1,Qan rfl,Qac,ih]
   rfl
  ·show (if y∈allR then _ else if y∈ys then _ else _:List Int × List Int).2.length=_
   rw [Qal h2,Qal h3,Z1,Qab h2,Qal (by decide)]
   exact ih
  ·show (if y∈allR then _ else if y∈ys then _ else _:List Int × List Int).2.length=_
   rw [Qal h2,Qan h1,Z1,Qab h2,Qal (by decide)]
   exact ih
  ·rw [ql,Qal (by decide)]
   exact ih
theorem Zam{nm:List Str}{cols:Str->Int}{ws:List V}{L kc:Nat}(hw:∀w∈ws,xY nm w)(hk:kc=Xk ws){s:Int × List Int}(hs:s∈uni kc (L + 1)):∀x∈nxT nm cols ws L s,x∈uni kc (L + 1):=by
 intro x hx
 (refine Oe1a1 (Qbb.mp hx) fun l _ zo67=>?_;obtain rfl:=zo67)
 refine Oe1a2 (qu.mp hs) fun p h1 h2 h3=>?_
 refine qu.mpr ⟨min (p + 1) L,by lia,?_,Wc.mpr ⟨?_,fun b hb=>?_⟩⟩
 ·show min (s.1 + 1) (L:Int)=_
  rw [h2]
  lia
 ·rw [Qaa,hk]
  exact zc ws hw
 ·(refine Oe1a1 (Qbb.mp hb) fun c _ zo68=>?_;obtain rfl:=zo68)
  exact YG c l
theorem vz{cs:List Addr}{H H':Hp}(s:ZT (hide cs H) H')(hn:∀c∈cs,H' c=none):ZT H (Jw cs H H')/\(∀t o,H' t=some o->Jw cs H H' t=some o)/\∀t o,H' t=some o->hide cs H t=none->H t=none:=by
 have m:∀t o,H' t=some o->t∉cs:=fun t o e m=>by rw [hn t m] at e;cases e
 refine ⟨fun b o e=>?_,fun t o e=>by rw [Y0 (m t o e)];exact e,fun t o e h=>by rw [ZQ (m t o e)] at h;exact h⟩
 by_cases mb:b∈cs
 ·rw [Jx mb]
  exact e
 ·rw [Y0 mb]
  exact s _ _ (by rw [ZQ mb];exact e)
theorem xx{H H':Hp}{p:Addr}{rs:List (List V)}(R:zQ H p rs)(e:∀b xs,H b=some (.tup xs)->H' b=some (.tup xs)):zQ H' p rs:=by
 (refine Oe1a2 R fun as h1 h2 h3=>?_;clear R)
 refine ⟨as,e _ _ h1,h2,fun i r hi=>?_⟩
 refine Oe1a1 (h3 i r hi) fun a g1 g2=>?_
 exact ⟨a,g1,e _ _ g2⟩
theorem lgB_le{ws:List V}{B:Nat}(hB:∀z:Int,V.int z∈ws->0<=z/\z < 2 ^ B):lgB ws<=B:=by
 rcases gJ ws with h | ⟨z,hz,h⟩
 ·lia
 ·rw [h]
  exact bits_le (hB z hz).1 (hB z hz).2
theorem lgB_lt{ws:List V}{z:Int}(h:V.int z∈ws)(h0:0<=z):z < 2 ^ lgB ws:=Int.lt_of_lt_of_le (Zeb h0) (jG (gI h))
noncomputable def jO(ws:List V):Prop:=∀r,JG (ws++r)=JG r + 1/\(Y9 r->Y9 (ws++r))
theorem xy:∀(ps:List (List V)),(∀p∈ps,jO p)->∀r,JG (ps.flatten++r)=JG r + ps.length/\(Y9 r->Y9 (ps.flatten++r))
 | [],_,r=>⟨rfl,fun h=>h⟩
 | p::ps,h,r=>by
  obtain ⟨h1,h2⟩:=xy ps (fun q hq=>h q (Qag _ hq)) r
  obtain ⟨g1,g2⟩:=h p Qaf (ps.flatten++r)
  rw [Qcr,Qbs,g1,h1,Qa2]
  exact ⟨by lia,fun z=>g2 (h2 z)⟩
theorem x4{w:V}{ps:List (List V)}(hn:npw w=ps.length)(h:∀p∈ps,jO p):jO (w::ps.flatten):=fun r=>by
 obtain ⟨h1,h2⟩:=xy ps h r
 constructor
 ·show JG (ps.flatten++r) - npw w + 1=_
  rw [h1,hn]
  lia
 ·intro z
  exact ⟨by show npw w<=JG (ps.flatten++r);rw [h1,hn];lia,h2 z⟩
theorem v9{w:V}(h:npw w=0):jO [w]:=x4 (ps:=[]) h fun p hp=>by cases hp
theorem jO.one{ws:List V}(h:jO ws):Y9 ws/\JG ws=1:=by
 have:=h []
 rw [Qa3] at this
 exact ⟨this.2 trivial,this.1⟩
theorem yG{y:Str}(h:y∉YO):npw (.str y)=0:=by
 have k:∀p∈T1++T2++T3,p.1∈YO:=by decide +kernel
 unfold npw Xr
 show (Ji T1 (.inr y) + Ji T2 (.inr y) + Ji T3 (.inr y)).toNat=0
 have n:∀l:List (Str × Int),(∀p∈l,p∈T1++T2++T3)->y∉l.map (·.1):=fun l hl z=>by
  refine Oe1a1 (Qbb.mp z) fun p hp e=>?_
  exact h (by rw [<-e];exact k p (hl p hp))
 rw [qd (n T1 fun p hp=>by simp [hp]),qd (n T2 fun p hp=>by simp [hp]),qd (n T3 fun p hp=>by simp [hp])]
 rfl
theorem gL(z:Int):npw (.int z)=0:=by
 have k:∀l:List (Str × Int),Ji l (.inl z)=0:=fun l=>by
  induction l with
  | nil=>rfl
  | cons p r ih =>
   unfold Ji
   rw [Qal (fun e=>nomatch e)]
   exact ih
 unfold npw Xr
 show (Ji T1 (.inl z) + Ji T2 (.inl z) + Ji T3 (.inl z)).toNat=0
 rw [k,k,k]
 rfl
theorem jP:∀y∈WA,npw (.str y)=ZG y/\y∈YO:=by decide +kernel
theorem Zan:∀y∈Gh,y∈YO:=by decide +kernel
theorem zd:∀y∈allR,y∈YO:=by decide +kernel
theorem gM{ys:List Str}{w:V}(hy:∀y∈ys,y∉YO)(h:zI ys w):qL ys 10 w/\npw w=0/\inV w (allR.map V.str)=false:=by
 rcases h with ⟨y,h1,rfl⟩ | ⟨z,rfl,h0,h1⟩
 ·refine ⟨.inr (.inl ⟨y,rfl,h1,fun z=>hy y h1 (Zan y z),yG (hy y h1)⟩),yG (hy y h1),?_⟩
  rw [Z1]
  exact Qab fun z=>hy y h1 (zd y z)
 ·exact ⟨.inr (.inr ⟨z,rfl,h0,by lia,gL z⟩),gL z,ql z _⟩
theorem GL{ys:List Str}{y:Str}(hy:∀y∈ys,y∉YO)(h:y∈WA):qL ys 10 (.str y)/\npw (.str y)=ZG y/\inV (.str y) (allR.map V.str)=decide (y∈Gh):=by
 obtain ⟨h1,h2⟩:=jP y h
 refine ⟨.inl ⟨y,rfl,h,fun z=>hy y z h2,h1⟩,h1,?_⟩
 rw [Z1,Qdl,decide_eq_true_iff,decide_eq_true_iff]
 exact jJ y h
theorem J4(a b:List V):Xk (a++b)=Xk a + Xk b:=by
 unfold Xk
 rw [Qc7,Qac]
theorem yH:∀y∈WA,y∉allR->y∈gn/\npw (.str y)=gk y:=by decide +kernel
theorem Zed:∀y∈allR,y∈WA->1<=npw (.str y)/\(y∈Zd8->2<=npw (.str y)):=by decide +kernel
theorem Zao{ys:List Str}{B:Nat}{w:V}(hy:∀y∈ys,y∉YO)(h:qL ys B w):xY ys w:=by
 rcases h with ⟨y,rfl,h1,h2,h3⟩ | ⟨y,rfl,h1,h2,h3⟩ | ⟨z,rfl,h0,_,h3⟩
 ·by_cases ha:y∈allR
  ·exact .inl ⟨y,rfl,ha,h2,Zed y ha h1⟩
  ·exact .inr (.inl ⟨y,rfl,(yH y h1 ha).1,ha,h2,(yH y h1 ha).2⟩)
 ·exact .inr (.inr (.inl ⟨y,rfl,h1,fun z=>hy y h1 (zd y z),h3⟩))
 ·exact .inr (.inr (.inr ⟨z,rfl,h0,h3⟩))
noncomputable def jQ(ys:List Str)(pss:List (List V)):Prop:=∀ps∈pss,jO ps/\∀w∈ps,qL ys 10 w
theorem jQ.word{ys:List Str}{pss:List (List V)}{y:Str}{n:Nat}(hy:∀y∈ys,y∉YO)(g:jQ ys pss)(h:y∈WA)(hn:ZG y=n)(hl:n<=pss.length):jQ ys (pss.take (pss.length - n)++[.str y::(pss.drop (pss.length - n)).flatten]):=by
 refine Oe0a2 (GL hy h) fun w1 w2 w3=>?_
 intro ps hp
 rcases Qbd.mp hp with hp | hp
 ·exact g ps (Qcz hp)
 ·rw [Qa5.mp hp]
  refine ⟨x4 (by rw [w2,hn,Qbc];lia) fun p hp=>(g p (Qcp hp)).1,fun w hw=>?_⟩
  rcases Qaj.mp hw with rfl | hw
  ·exact w1
  ·refine Oe1a1 (List.mem_flatten.mp hw) fun p hp hw=>?_
   exact (g p (Qcp hp)).2 w hw
theorem zT(pss:List (List V))(w:V)(n:Nat):(pss.take n++[w::(pss.drop n).flatten]).flatten.length=pss.flatten.length + 1/\Xk (pss.take n++[w::(pss.drop n).flatten]).flatten=Xk pss.flatten + if inV w (allR.map V.str)=true then 1 else 0:=by
 have e:pss.flatten=(pss.take n).flatten++(pss.drop n).flatten:=by rw [<-Qbx,Qcc]
 rw [Qbx,Qcr,Qd1,Qa3,e]
 constructor
 ·simp only [Qac,Qa2]
  lia
 ·rw [J4,J4,WG]
  lia
theorem YB.take{H:Hp}{zs:List V}{rs:List (List V)}(z:YB H zs rs)(n:Nat):YB H (zs.take n) (rs.take n):=by
 refine ⟨by rw [Qav,Qav,z.1],fun i r hr=>?_⟩
 rw [Qeb] at hr ⊢
 split at hr
 ·rename_i lt
  rw [Qan lt]
  exact z.2 i r hr
 ·cases hr
theorem YB.drop{H:Hp}{zs:List V}{rs:List (List V)}(z:YB H zs rs)(n:Nat):YB H (zs.drop n) (rs.drop n):=by
 refine ⟨by rw [Qbc,Qbc,z.1],fun i r hr=>?_⟩
 rw [List.getElem?_drop] at hr ⊢
 exact z.2 _ r hr
theorem yI{α:Type}{xs:List α}{n j:Nat}{v:α}(h:xs[j]?=some v)(hn:j + n=xs.length)(h1:1<=n):atI xs (-(n:Int))=some v:=by
 unfold atI ixN
 rw [Qal (by lia),Qan (by lia)]
 show xs[(-(n:Int) + (xs.length:Int)).toNat]?=_
 rw [show (-(n:Int) + (xs.length:Int)).toNat=j by lia]
 exact h
theorem gN{xs:List V}{n:Nat}(hn:n<=xs.length)(h1:1<=n):GC xs none (some (-(n:Int)))=xs.take (xs.length - n):=by
 unfold GC
 simp only [HT.sIx]
 rw [Qan (by lia),show (-(n:Int) + (xs.length:Int)).toNat=xs.length - n by lia]
 simp
noncomputable def Jk(ls:List Nat)(ys:List Str)(y:Str):Int:=sm (fun k=>bt ((ls.getD k 0:Nat):Int) (ys.idxOf y)) ls.length
theorem Zee{ls:List Nat}{ys:List Str}{i k l:Nat}{y:Str}(hn:ys.Nodup)(h:ys[i]?=some y)(hk:ls[k]?=some l):bt (Jk ls ys y) k=bt (l:Int) i:=by
 unfold Jk
 rw [xw hn h]
 have:=gs (b:=fun k=>bt ((ls.getD k 0:Nat):Int) i) (fun _=>YG _ _) k ls.length (Qae.mp hk).1
 rw [Qat,hk] at this
 exact this
structure Runs(nx:List (List Nat))(ot:List (List V))(n:Nat):Prop where
 pos:0 < nx.length
 ol:ot.length=nx.length
 nr:∀r∈nx,r.length=2 ^ n
 nl:∀r∈nx,∀s∈r,s < nx.length
 or:∀r∈ot,r.length=2 ^ n
noncomputable def stN(nx:List (List Nat)):Nat->List Nat->Nat
 | s,[]=>s
 | s,c::r=>stN nx ((nx.getD s []).getD c 0) r
noncomputable def rnO(nx:List (List Nat))(ot:List (List V)):Nat->List Nat->List V
 | _,[]=>[]
 | s,c::r=>(ot.getD s []).getD c .non::rnO nx ot ((nx.getD s []).getD c 0) r
theorem ze(nx:List (List Nat)):∀(s:Nat) (ls:List Nat) (c:Nat),stN nx s (ls++[c])=(nx.getD (stN nx s ls) []).getD c 0
 | _,[],_=>rfl
 | s,d::r,c=>ze nx ((nx.getD s []).getD d 0) r c
theorem yJ(nx:List (List Nat))(ot:List (List V)):∀(s:Nat) (ls:List Nat) (c:Nat),rnO nx ot s (ls++[c])=rnO nx ot s ls++[(ot.getD (stN nx s ls) []).getD c .non]
 | _,[],_=>rfl
 | s,d::r,c=>congrArg (List.cons _) (yJ nx ot ((nx.getD s []).getD d 0) r c)
theorem zf(nx:List (List Nat))(ot:List (List V)):∀(s:Nat) (ls:List Nat),(rnO nx ot s ls).length=ls.length
 | _,[]=>rfl
 | s,d::r=>congrArg Nat.succ (zf nx ot _ r)
theorem getD_at{α:Type}{l:List α}{i:Nat}{d:α}(h:i < l.length):l[i]?=some (l.getD i d):=by rw [Qat,Qai h];rfl
section
variable {κ:Type}[DecidableEq κ]{nx:κ->List κ}{b:κ}{l:List κ}
theorem gO{x:κ}(h:x∈l):l[l.idxOf x]?=some x:=by
 have hl:=Qda h
 rw [Qai hl,List.getElem_idxOf hl]
theorem BfE.len(B:BfE nx b l):(bfN nx b l.length).length=l.length:=by rw [<-B.e]
theorem BfE.here(B:BfE nx b l){j:Nat}{s:κ}(h:l[j]?=some s):j < l.length/\(bfN nx b j)[j]?=some s:=jN B.len B.go (by rw [<-B.e];exact h)
theorem BfE.sub(B:BfE nx b l){j:Nat}(hj:j<=l.length){x:κ}(h:x∈bfN nx b j):x∈l:=by
 obtain ⟨r,e⟩:=yE (nx:=nx) (b:=b) j (l.length - j)
 rw [show j + (l.length - j)=l.length by lia,<-B.e] at e
 rw [e]
 exact Qcy _ h
theorem BfE.begin(B:BfE nx b l):l[0]?=some b/\b∈l:=by
 have hb:b∈l:=B.sub (Qbg _) (show b∈[b] from Qa5.mpr rfl)
 have hl:0 < l.length:=Qdp hb
 have e:=Zfv (nx:=nx) (b:=b) (i:=l.length) (j:=0) (Qbg _) (s:=b) rfl
 rw [<-B.e] at e
 exact ⟨e,hb⟩
theorem BfE.next(B:BfE nx b l){s x:κ}(h:s∈l)(hx:x∈nx s):x∈l:=by
 obtain ⟨j,hj⟩:=Qde.mp h
 obtain ⟨h1,h2⟩:=B.here hj
 refine B.sub (j:=j + 1) h1 ?_
 rw [jM h2]
 exact (qp _ _).mpr (.inr hx)
theorem BfE.nodup(B:BfE nx b l):l.Nodup:=by
 rw [B.e]
 exact J3 _
noncomputable def ixG(l:List κ)(x:κ):Nat:=l.idxOf x
theorem BfE.zero(B:BfE nx b l):ixG l b=0:=xw B.nodup B.begin.1
theorem rnG_at(h:∀s∈l,∀x∈nx s,x∈l){s:κ}(hs:s∈l):(rnG nx l).getD (ixG l s) []=(nx s).map fun x=>ixG l x:=by
 unfold rnG ixG
 rw [Qat,Qap,gO hs]
 rfl
theorem Zef{ot:κ->List V}{s:κ}(hs:s∈l):(l.map ot).getD (ixG l s) []=ot s:=by
 unfold ixG
 rw [Qat,Qap,gO hs]
 rfl
end
structure Zfx(nm:List Str)(ws:List V):Prop where
 n3:nm.length<=3
 nd:nm.Nodup
 kp:∀y∈nm,y∉YO
 ln:ws.length<=100
 wd:∀w∈ws,qL nm 10 w
 en:Y9 ws
 st:JG ws=1
 rm:Xk ws<=15
noncomputable abbrev nxS(nm:List Str)(ws:List V):Int × List Int->List (Int × List Int):=nxT nm (Y6 (2 ^ nm.length) nm) ws (lgB ws)
theorem Zfx.big{nm:List Str}{ws:List V}(S:Zfx nm ws):(10 + 1) * 2 ^ Xk ws<=1000000:=by
 have:2 ^ Xk ws<=2 ^ 15:=Qd2 (by decide) S.rm
 lia
theorem Zeg(nm:List Str)(cols:Str->Int)(ws:List V)(L:Nat)(s:Int × List Int):(nxT nm cols ws L s).length=2 ^ nm.length:=by
 unfold nxT
 rw [Qaa,Qao]
theorem Zeh(nm:List Str)(cols:Str->Int)(ws:List V)(o0 o1:V)(s:Int × List Int):(otT nm cols ws o0 o1 s).length=2 ^ nm.length:=by
 unfold otT
 rw [Qaa,Qao]
section
variable {κ:Type}[DecidableEq κ]{nx:κ->List κ}{b:κ}{l:List κ}
theorem Zei(B:BfE nx b l){n:Nat}(hn:∀s,(nx s).length=n):(∀r∈rnG nx l,r.length=n)/\∀r∈rnG nx l,∀s∈r,s < (rnG nx l).length:=by
 constructor
 ·intro r hr
  (refine Oe1a1 (Qbb.mp hr) fun s _ zo69=>?_;obtain rfl:=zo69)
  rw [Qaa,hn]
 ·intro r hr x hx
  (refine Oe1a1 (Qbb.mp hr) fun s hs zo70=>?_;obtain rfl:=zo70)
  (refine Oe1a1 (Qbb.mp hx) fun y hy zo71=>?_;obtain rfl:=zo71)
  rw [zb]
  exact Qda (B.next hs hy)
end
theorem yK{K:PySem.W.Frag}{H H':Hp}{a:Addr}{xs:List V}(h:SqL K H a xs)(s:ZT H H'):SqL K H' a xs:=by
 rcases h with h | h
 ·rcases h with h | ⟨u,h⟩
  ·exact .inl (.inl (s _ _ h))
  ·exact .inl (.inr ⟨u,s _ _ h⟩)
 ·exact .inr h
theorem JH.same{pw:Addr}{H H' H'':Hp}(o:JH pw H H')(s:ZT H' H''):JH pw H H'':=fun b u e hb=>s _ _ (o b u e hb)
theorem JH.trans{pw:Addr}{H H' H'':Hp}(o:JH pw H H')(s:JH pw H' H''):JH pw H H'':=fun b u e hb=>s _ _ (o b u e hb) hb
theorem JH.tup{pw:Addr}{H H':Hp}(o:JH pw H H'){pz:Array Value}(hz:H pw=some (.tbl pz)){b:Addr}{xs:List V}(e:H b=some (.tup xs)):H' b=some (.tup xs):=o _ _ e (YC e hz fun z=>nomatch z)
theorem Zej{cs:List Int}{L:Nat}(h:0 < L):∃ls:List Nat,(cs.map fun c=>V.int (c % (L:Int)))=(ls.map Wu)/\(∀l∈ls,l < L)/\ls.length=cs.length:=by
 refine ⟨cs.map fun c=>(c % (L:Int)).toNat,?_,?_,by rw [Qaa]⟩
 ·rw [Qbw]
  apply Qct
  intro c _
  show V.int _=V.int _
  rw [Qd9 (Qa6 _ (by lia))]
 ·intro l hl
  (refine Oe1a1 (Qbb.mp hl) fun c _ zo72=>?_;obtain rfl:=zo72)
  have h1:0<=c % (L:Int):=Qa6 _ (by lia)
  have h2:c % (L:Int) < L:=Qaw _ (by lia)
  lia
noncomputable def neA(x y:Int)(k:Nat):Int:=if lo x k=lo y k then 0 else 1
theorem Zcd(x y:Int)(k:Nat):neA x y k=0\/neA x y k=1:=by
 unfold neA
 split
 ·exact .inl rfl
 ·exact .inr rfl
theorem Zap(x y:Int):neA x y 0=0:=by
 unfold neA lo
 rw [Qcb,Qdk,Qdk]
 rfl
theorem Zaq(x y:Int)(k:Nat):neA x y (k + 1)=1 - (1 - (bt x k + bt y k) % 2) * (1 - neA x y k):=by
 have e1:=qi x k
 have e2:=qi y k
 have b1:=qK x k
 have b2:=qK y k
 unfold neA
 rcases YG x k with a | a <;> rcases YG y k with b | b <;> rw [a] at e1 ⊢ <;> rw [b] at e2 ⊢ <;> by_cases h:lo x k=lo y k
 all_goals first
  | rw [Qan h,Qan (by lia)];rfl
  | rw [Qal h,Qal (by lia)];rfl
  | rw [Qan h,Qal (by lia)];rfl
noncomputable def sgA(x:Int)(k:Nat):Int:=lo x k - 2 ^ k * bt x k
noncomputable def bnA(x y:Int)(k:Nat):Int:=if sgA x k < sgA y k then 1 else 0
theorem bnA_01(x y:Int)(k:Nat):bnA x y k=0\/bnA x y k=1:=by
 unfold bnA
 split
 ·exact .inr rfl
 ·exact .inl rfl
theorem bnA_br(x y:Int)(k:Nat):bnA x y k=1 - (1 - (1 - bt y k) * bt x k) * (1 - brA x y k * (1 - (bt y k + bt x k) % 2)):=by
 have b1:=qK x k
 have b2:=qK y k
 unfold bnA sgA brA
 rcases YG x k with a | a <;> rcases YG y k with b | b <;> rw [a,b] <;> by_cases h:lo x k < lo y k
 all_goals first
  | rw [Qan h,Qan (by lia)];rfl
  | rw [Qal h,Qal (by lia)];rfl
  | rw [Qan h,Qal (by lia)];rfl
  | rw [Qal h,Qan (by lia)];rfl
noncomputable def yL(y:Str)(is:List Int)(k:Nat):Int :=
 if y = "twice" then tw (is.getD 0 0) k else if y = "neg" \/ y = "low" \/ y = "nought" then nzA (is.getD 0 0) k else if y = "same" then neA (is.getD 0 0) (is.getD 1 0) k else if y = "add" then cyA (is.getD 0 0) (is.getD 1 0) k else brA (is.getD 0 0) (is.getD 1 0) k
theorem Zek(y:Str)(is:List Int)(k:Nat):yL y is k=0\/yL y is k=1:=by
 unfold yL
 repeat' split
 ·exact tw_01 _ _
 ·exact gi _ _
 ·exact Zcd _ _ _
 ·exact gg _ _ _
 ·exact xt _ _ _
theorem gP(y:Str)(is:List Int):yL y is 0=0:=by
 unfold yL
 repeat' split
 ·rfl
 ·exact Zad _
 ·exact Zap _ _
 ·exact y6 _ _
 ·exact y9 _ _
noncomputable def um(y:Str)(bs:List Int)(h:Int):Int :=
 if y = "twice" then bs.getD 0 0 else if y = "neg" \/ y = "low" \/ y = "nought" then 1 - (1 - bs.getD 0 0) * (1 - h) else if y = "same" then 1 - (1 - (bs.getD 0 0 + bs.getD 1 0) % 2) * (1 - h) else if y = "add" then (bs.getD 0 0 + bs.getD 1 0 + h) / 2 else 1 - (1 - (1 - bs.getD 0 0) * bs.getD 1 0) * (1 - h * (1 - (bs.getD 0 0 + bs.getD 1 0) % 2))
theorem zU(y:Str)(is:List Int)(k:Nat):yL y is (k + 1)=um y (is.map fun x=>bt x k) (yL y is k):=by
 unfold yL um
 rw [Xn,Xn]
 repeat' split
 ·rfl
 ·exact Zae _ _
 ·exact Zaq _ _ _
 ·exact y7 _ _ _
 ·exact yA _ _ _
noncomputable def Zfy(y:Str)(bs:List Int)(h:Int):Int :=
 if y = "add" \/ y = "sub" then (bs.getD 0 0 + bs.getD 1 0 + h) % 2 else if y = "neg" then (bs.getD 0 0 + h) % 2 else if y = "twice" then h else if y = "low" then bs.getD 0 0 * (1 - h)
 else if y = "same" \/ y = "nought" then 1 - um y bs h else if y = "under" then um y bs h else 1 - (1 - (1 - bs.getD 1 0) * bs.getD 0 0) * (1 - h * (1 - (bs.getD 1 0 + bs.getD 0 0) % 2))
noncomputable def zV(y:Str)(bs:List Int):Int :=
 if y = "yes" then 1 else if y = "sign" then bs.getD 0 0 else if y = "not" \/ y = "never" then 1 - bs.getD 0 0 else if y = "and" \/ y = "both" then bs.getD 0 0 * bs.getD 1 0 else if y = "or" \/ y = "either" then 1 - (1 - bs.getD 0 0) * (1 - bs.getD 1 0)
 else if y = "odd" then (bs.getD 0 0 + bs.getD 1 0) % 2 else if y = "so" then 1 - (1 - (1 - bs.getD 0 0)) * (1 - bs.getD 1 0) else 1 - (1 - bs.getD 0 0 * bs.getD 1 0) * (1 - (1 - bs.getD 0 0) * bs.getD 2 0)
theorem Zce(a b h:Int)(l:Nat):bt (Zfu a b h) l=1 - (1 - (1 - bt a l) * bt b l) * (1 - bt h l * (1 - (bt a l + bt b l) % 2)):=by
 unfold Zfu
 rw [Gy,Xm,Xm,J1,J1,qg]
theorem Zcf(y:Str)(is:List Int)(h:Int)(l:Nat):bt (ktI y is h) l=um y (is.map fun x=>bt x l) (bt h l):=by
 unfold um ktI
 rw [Xn,Xn]
 repeat' split
 ·rfl
 ·exact Gy l _ _
 ·rw [Gy,qg]
 ·rw [Gy,Xm,Xm,Gy]
  rcases YG (is.getD 0 0) l with a | a <;> rcases YG (is.getD 1 0) l with b | b <;> rcases YG h l with c | c <;> rw [a,b,c] <;> rfl
 ·exact Zce _ _ _ _
theorem okR_bt(y:Str)(is:List Int)(h:Int)(l:Nat):bt (okI y is h (ktI y is h)) l=Zfy y (is.map fun x=>bt x l) (bt h l):=by
 unfold Zfy okI
 rw [<-Zcf,Xn,Xn]
 repeat' split
 ·rw [qg,qg]
  lia
 ·exact qg l _ _
 ·rfl
 ·rw [Xm,J1]
 ·exact J1 l _
 ·rfl
 ·exact Zce _ _ _ _
theorem Zcg(y:Str)(is:List Int)(l:Nat):bt (oaI y is) l=zV y (is.map fun x=>bt x l):=by
 unfold zV oaI
 rw [Xn,Xn,Xn]
 repeat' split
 ·exact gb l
 ·rfl
 ·exact J1 l _
 ·exact Xm l _ _
 ·exact Gy l _ _
 ·exact qg l _ _
 ·rw [Gy,J1]
 ·rw [Gy,Xm,Xm,J1]
noncomputable def clB(y:Str)(is:List Int)(k:Nat):Int :=
 if y = "same" then 1 - neA (is.getD 0 0) (is.getD 1 0) (k + 1) else if y = "nought" then 1 - nzA (is.getD 0 0) (k + 1) else if y = "under" then brA (is.getD 0 0) (is.getD 1 0) (k + 1) else if y = "beneath" then bnA (is.getD 0 0) (is.getD 1 0) k
 else zV y (is.map fun x=>bt x k)
theorem once01(y:Str)(is:List Int)(k:Nat):zV y (is.map fun x=>bt x k)=0\/zV y (is.map fun x=>bt x k)=1:=by
 rw [<-Zcg]
 exact YG _ _
theorem zW(y:Str)(is:List Int)(k:Nat):clB y is k=0\/clB y is k=1:=by
 unfold clB
 repeat' split
 ·have:=Zcd (is.getD 0 0) (is.getD 1 0) (k + 1)
  lia
 ·have:=gi (is.getD 0 0) (k + 1)
  lia
 ·exact xt _ _ _
 ·exact bnA_01 _ _ _
 ·exact once01 _ _ _
noncomputable def rwR(W:Nat)(ρ:Str->Int)(w:V)(is:List Int):Int :=
 match w with
 | .str y=>if y∈Z9 then sm (clB y is) W else wwv ρ w is % 2 ^ W
 | _=>wwv ρ w is % 2 ^ W
noncomputable def YY(W:Nat)(ρ:Str->Int):List V->List Int
 | []=>[]
 | w::r=>rwR W ρ w ((YY W ρ r).take (npw w))::(YY W ρ r).drop (npw w)
theorem WQ(W:Nat)(ρ:Str->Int):∀ws:List V,(YY W ρ ws).length=JG ws
 | []=>rfl
 | w::r=>by
  show ((YY W ρ r).drop (npw w)).length + 1=_
  rw [Qbc,WQ W ρ r]
  rfl
noncomputable def yM:V->Bool
 | .str y=>decide (y∈allR)
 | _=>false
noncomputable def JV(W:Nat)(ρ:Str->Int):List V->Nat->List Int
 | [],_=>[]
 | w::r,k=>JV W ρ r k++if yM w=true then [yL (strV w) ((YY W ρ r).take (npw w)) k] else []
noncomputable def gQ(ys:List Str)(ν:Str->Int)(pl:Nat)(kp:List Int):List V->List Int × List Int
 | []=>([],[])
 | w::r =>
  let p:=gQ ys ν pl kp r
  match w with
  | .str y =>
   if y∈allR then (Zfy y (p.1.take (npw w)) (kp.getD p.2.length 0)::p.1.drop (npw w),p.2++[um y (p.1.take (npw w)) (kp.getD p.2.length 0)])
   else if y∈ys then (ν y::p.1.drop (npw w),p.2)
   else (zV y (p.1.take (npw w))::p.1.drop (npw w),p.2)
  | .int z=>(bt z pl::p.1.drop (npw w),p.2)
  | _=>p
theorem zX{ys:List Str}{cols:Str->Int}{pl:Nat}{kp:List Int}(hk:∀i:Nat,kp.getD i 0=0\/kp.getD i 0=1)(l:Nat):∀ws:List V,
  (XA ys cols pl kp ws).1.map (fun x=>bt x l)=(gQ ys (fun y=>bt (cols y) l) pl kp ws).1/\(XA ys cols pl kp ws).2.map (fun x=>bt x l)=(gQ ys (fun y=>bt (cols y) l) pl kp ws).2
 | []=>⟨rfl,rfl⟩
 | w::r=>by
  obtain ⟨e1,e2⟩:=zX (ys:=ys) (cols:=cols) (pl:=pl) hk l r
  have el:(XA ys cols pl kp r).2.length=(gQ ys (fun y=>bt (cols y) l) pl kp r).2.length:=by rw [<-e2,Qaa]
  cases w with
  | str y =>
   show (if y∈allR then _ else if y∈ys then _ else _:List Int × List Int).1.map _=(if y∈allR then _ else if y∈ys then _ else _:List Int × List Int).1/\(if y∈allR then _ else if y∈ys then _ else _:List Int × List Int).2.map _=(if y∈allR then _ else if y∈ys then _ else _:List Int × List Int).2
   by_cases ha:y∈allR
   ·rw [Qan ha,Qan ha]
    constructor
    ·show bt _ l::_=_::_
     rw [okR_bt,jI (hk _),Qdf,Qc3,e1,el]
    ·show List.map _ (_++[_])=_++[_]
     rw [Qbj,e2]
     show _++[bt _ l]=_
     rw [Zcf,jI (hk _),Qdf,e1,el]
   ·rw [Qal ha,Qal ha]
    by_cases hy:y∈ys
    ·rw [Qan hy,Qan hy]
     refine ⟨?_,e2⟩
     show bt _ l::List.map _ (List.drop _ _)=_::_
     rw [Qc3,e1]
    ·rw [Qal hy,Qal hy]
     refine ⟨?_,e2⟩
     show bt _ l::List.map _ (List.drop _ _)=_::_
     rw [Zcg,Qdf,Qc3,e1]
  | int z =>
   refine ⟨?_,e2⟩
   show bt (-(bt z pl)) l::List.map _ (List.drop _ _)=bt z pl::_
   rw [Qc3,e1,jI (YG z pl)]
  | _=>exact ⟨e1,e2⟩
theorem GN:∀y∈WA,y∉Z9:=by decide +kernel
theorem Zar{y:Str}(hy:y∈Gh)(is:List Int)(k:Nat):yL y is k=hld y is k:=by
 unfold Gh at hy
 simp only [Qaj,Qa0,Qcg] at hy
 rcases hy with rfl | rfl | rfl | rfl | rfl <;> rfl
theorem Zas{y:Str}(hy:y∈Gh)(bs:List Int)(h:Int):Zfy y bs h=ans1 y bs h:=by
 unfold Gh at hy
 simp only [Qaj,Qa0,Qcg] at hy
 rcases hy with rfl | rfl | rfl | rfl | rfl <;> rfl
theorem gR{y:Str}(hy:y∈WA)(hr:y∉Gh)(bs:List Int):zV y bs=once y bs:=by
 rcases xu y hy hr with ⟨rfl,_⟩ | ⟨rfl,_⟩ | ⟨rfl,_⟩ | ⟨rfl,_⟩ | ⟨rfl,_⟩ <;> rfl
theorem gS:∀y∈Z9,y∈allR->y = "same" \/ y = "under" \/ y = "beneath" \/ y = "nought" := by decide +kernel
theorem vA:∀y∈Z9,y∉allR->¬y = "same" /\ ¬y = "under" /\ ¬y = "beneath" /\ ¬y = "nought" := by decide +kernel
theorem Zel{f:Nat->Int}(hf:∀i,f i=0\/f i=1){k W:Nat}(h:k < W):bt (sm f W) k=f k:=gs hf k W h
theorem Zat(ρ:Str->Int){y:Str}{W k:Nat}(hk:k < W)(ha:y∈allR){is:List Int}(h:y∈Z9\/(y∈WA/\is.length=ZG y)):Zfy y (is.map fun x=>bt x k) (yL y is k)=bt (rwR W ρ (.str y) is) k:=by
 rcases h with hc | ⟨hs,hl⟩
 ·show _=bt (if y∈Z9 then _ else _) k
  rw [Qan hc,Zel (zW y is) hk]
  have hs:=zU y is k
  rcases gS y hc ha with rfl | rfl | rfl | rfl
  ·show 1 - um "same" _ _=1 - neA _ _ (k + 1)
   rw [<-hs]
   rfl
  ·show um "under" _ _=brA _ _ (k + 1)
   rw [<-hs]
   rfl
  ·show 1 - (1 - (1 - List.getD _ 1 0) * List.getD _ 0 0) * (1 - brA _ _ k * (1 - (List.getD _ 1 0 + List.getD _ 0 0) % 2))=bnA _ _ k
   rw [Xn,Xn,bnA_br]
  ·show 1 - um "nought" _ _=1 - nzA _ (k + 1)
   rw [<-hs]
   rfl
 ·have hr:=(jJ y hs).mp ha
  show _=bt (if y∈Z9 then _ else _) k
  rw [Qal (GN y hs),Zas hr,Zar hr,ans_ok ρ hr hl,zL _ _ _ hk]
theorem gT(ρ:Str->Int){y:Str}{W k:Nat}(hk:k < W)(ha:y∉allR){is:List Int}(h:y∈Z9\/(y∈WA/\is.length=ZG y)):zV y (is.map fun x=>bt x k)=bt (rwR W ρ (.str y) is) k:=by
 rcases h with hc | ⟨hs,hl⟩
 ·show _=bt (if y∈Z9 then _ else _) k
  refine Oe0a3 (vA y hc ha) fun h1 h2 h3 h4=>?_
  rw [Qan hc,Zel (zW y is) hk]
  unfold clB
  rw [Qal h1,Qal h4,Qal h2,Qal h3]
 ·have hr:y∉Gh:=fun z=>ha ((jJ y hs).mpr z)
  show _=bt (if y∈Z9 then _ else _) k
  rw [Qal (GN y hs),gR hs hr,Zd7 ρ hs hr hl,zL _ _ _ hk]
noncomputable def vF(ys:List Str)(B:Nat)(w:V):Prop:=qL ys B w\/∃y,w=.str y/\y∈Z9/\y∉ys
theorem Zau(W:Nat)(ρ:Str->Int)(ws:List V)(k:Nat):(JV W ρ ws k).length=(ws.filter yM).length:=by
 induction ws with
 | nil=>rfl
 | cons w r ih =>
  show (JV W ρ r k++_).length=_
  rw [Qac,ih,Qcm]
  split <;> rfl
theorem gU{ys:List Str}{B W k pl:Nat}{ρ:Str->Int}(hk:k < W)(hpl:pl=k\/(B<=pl/\B<=k))(hys:∀y∈ys,y∉YO)(kp:List Int):∀ws:List V,(∀w∈ws,vF ys B w)->Y9 ws->(∃r,kp=JV W ρ ws k++r)->gQ ys (fun y=>bt (ρ y) k) pl kp ws=((YY W ρ ws).map (fun x=>bt x k),JV W ρ ws (k + 1))
 | [],_,_,_=>rfl
 | w::r,hw,he,hkp=>by
  obtain ⟨r0,hr0⟩:=hkp
  have ih:=gU (ρ:=ρ) hk hpl hys kp r (fun w h=>hw w (Qag _ h)) he.2 ⟨_,by rw [hr0];show (_++_)++_=_;rw [Qbs]⟩
  have hlen:=WQ W ρ r
  have htk:((YY W ρ r).take (npw w)).length=npw w:=by rw [Qav,hlen];exact Qdb he.1
  have ml:=Zau W ρ r
  have word:∀y,w=.str y->y∉ys->(y∈Z9\/(y∈WA/\npw w=ZG y))->gQ ys (fun y=>bt (ρ y) k) pl kp (w::r)=((YY W ρ (w::r)).map (fun x=>bt x k),JV W ρ (w::r) (k + 1)):=by
   rintro y rfl hny hy
   have hy':y∈Z9\/(y∈WA/\((YY W ρ r).take (npw (.str y))).length=ZG y):=by rw [htk];exact hy
   by_cases ha:y∈allR
   ·have hrb:yM (.str y)=true:=Qad ha
    have hg:kp.getD (JV W ρ r (k + 1)).length 0=yL y ((YY W ρ r).take (npw (.str y))) k:=by
     have e:JV W ρ (.str y::r) k=JV W ρ r k++[yL y ((YY W ρ r).take (npw (.str y))) k]:=by
      show _++(if yM (.str y)=true then _ else _)=_
      rw [Qan hrb]
      rfl
     rw [hr0,e,ml,<-ml k,Qbs,Qat,Qas (Qah _),Qdv]
     rfl
    show (if y∈allR then _ else _)=_
    rw [Qan ha,ih]
    try dsimp only
    rw [hg,<-Qdf,Zat ρ hk ha hy',<-zU]
    refine Qen ?_ ?_
    ·show _::_=bt _ k::((YY W ρ r).drop (npw (.str y))).map _
     rw [Qc3]
    ·show _=_++(if yM (.str y)=true then _ else _)
     rw [Qan hrb]
     rfl
   ·have hrb:¬yM (.str y)=true:=fun z=>ha (Qbp z)
    show (if y∈allR then _ else if y∈ys then _ else _)=_
    rw [Qal ha,Qal hny,ih]
    try dsimp only
    rw [<-Qdf,gT ρ hk ha hy']
    refine Qen ?_ ?_
    ·show _::_=bt _ k::((YY W ρ r).drop (npw (.str y))).map _
     rw [Qc3]
    ·show _=_++(if yM (.str y)=true then _ else _)
     rw [Qal hrb,Qa3]
  rcases hw w Qaf with (⟨y,rfl,hy,hny,hp⟩ | ⟨y,rfl,hy,hnr,hp⟩ | ⟨z,rfl,z0,z1,hp⟩) | ⟨y,rfl,hy,hny⟩
  ·exact word y rfl hny (.inr ⟨hy,hp⟩)
  ·have hna:y∉allR:=fun z=>hys y hy (zd y z)
   have hnc:y∉Z9:=fun z=>hys y hy (JS y z)
   have hrb:¬yM (.str y)=true:=fun z=>hna (Qbp z)
   show (if y∈allR then _ else if y∈ys then _ else _)=_
   rw [Qal hna,Qan hy,ih]
   refine Qen ?_ ?_
   ·show _::_=bt (if y∈Z9 then _ else _) k::((YY W ρ r).drop (npw (.str y))).map _
    rw [Qal hnc,zL _ _ _ hk,hp,List.take_zero,Qc5,Qc5]
    rfl
   ·show _=_++(if yM (.str y)=true then _ else _)
    rw [Qal hrb,Qa3]
  ·show (bt z pl::(gQ ys (fun y=>bt (ρ y) k) pl kp r).1.drop (npw (.int z)),(gQ ys (fun y=>bt (ρ y) k) pl kp r).2)=_
   rw [ih]
   have ez:bt z pl=bt z k:=by
    rcases hpl with h | ⟨h1,h2⟩
    ·rw [h]
    ·rw [Zb9 z0 z1 h1,Zb9 z0 z1 h2]
   refine Qen ?_ ?_
   ·show bt z pl::_=bt (wwv ρ (.int z) ((YY W ρ r).take (npw (.int z))) % 2 ^ W) k::((YY W ρ r).drop (npw (.int z))).map _
    rw [zL _ _ _ hk,hp,Qc5,Qc5,ez]
    rfl
   ·show _=_++(if yM (.int z)=true then _ else _)
    rw [Qal (fun z=>nomatch z),Qa3]
  ·exact word y rfl hny (.inl hy)
theorem x5{ys:List Str}{ν ν':Str->Int}{pl:Nat}{kp:List Int}(h:∀y∈ys,ν y=ν' y):∀ws:List V,gQ ys ν pl kp ws=gQ ys ν' pl kp ws
 | []=>rfl
 | w::r=>by
  have ih:=x5 (pl:=pl) (kp:=kp) h r
  unfold gQ
  rw [ih]
  cases w with
  | str y =>
   by_cases hr:y∈allR
   ·simp only [Qan hr]
   ·by_cases hy:y∈ys
    ·simp only [Qal hr,Qan hy,h y hy]
    ·simp only [Qal hr,Qal hy]
  | _=>rfl
theorem yN{W:Nat}{ρ:Str->Int}{k:Nat}:∀{ws:List V},∀x∈JV W ρ ws k,x=0\/x=1
 | w::r,x,h=>by
  have h:x∈JV W ρ r k++if yM w=true then [yL (strV w) ((YY W ρ r).take (npw w)) k] else []:=h
  rcases Qbd.mp h with h | h
  ·exact yN x h
  ·split at h
   ·rw [Qa5.mp h]
    exact Zek _ _ _
   ·cases h
theorem Zem(W:Nat)(ρ:Str->Int)(ws:List V)(k i:Nat):(JV W ρ ws k).getD i 0=0\/(JV W ρ ws k).getD i 0=1:=by
 rw [Qat]
 cases e:(JV W ρ ws k)[i]? with
 | none=>exact .inl rfl
 | some x=>exact yN x (Qax e)
theorem zY(W:Nat)(ρ:Str->Int):∀ws:List V,JV W ρ ws 0=List.replicate (ws.filter yM).length 0
 | []=>rfl
 | w::r=>by
  show JV W ρ r 0++_=_
  rw [zY W ρ r,Qcm]
  split
  ·rw [gP,Qa2,List.replicate_succ']
  ·rw [Qa3]
theorem zZ{ys:List Str}{B:Nat}:∀{ws:List V},(∀w∈ws,vF ys B w)->Xk ws=(ws.filter yM).length
 | [],_=>rfl
 | w::r,h=>by
  rw [WG,zZ (fun v hv=>h v (Qag _ hv)),Qcm]
  have e:inV w (allR.map V.str)=yM w:=by
   rcases h w Qaf with (⟨y,rfl,_⟩ | ⟨y,rfl,_⟩ | ⟨z,rfl,_⟩) | ⟨y,rfl,_⟩
   ·exact Z1 _ _
   ·exact Z1 _ _
   ·exact ql z _
   ·exact Z1 _ _
  rw [e]
  split <;> rfl
theorem qw{nm:List Str}{ws:List V}{ls:List Nat}{W k c:Nat}(hnd:nm.Nodup)(hk:∀y∈nm,y∉YO)(hw:∀w∈ws,vF nm 10 w)(he:Y9 ws)(hW:k < W)(hc:ls[k]?=some c)(hcl:c < 2 ^ nm.length) :
  (Zez nm (Y6 (2 ^ nm.length) nm) ws (min (k:Int) (lgB ws:Int),JV W (Jk ls nm) ws k)).1.map (fun x=>bt x c)=(YY W (Jk ls nm) ws).map (fun x=>bt x k)/\(Zez nm (Y6 (2 ^ nm.length) nm) ws (min (k:Int) (lgB ws:Int),JV W (Jk ls nm) ws k)).2.map (fun x=>bt x c)=JV W (Jk ls nm) ws (k + 1):=by
 have hw2:∀w∈ws,vF nm (lgB ws) w:=fun w h=>by
  rcases hw w h with (z | z | ⟨z,rfl,h0,_,h3⟩) | z
  ·exact .inl (.inl z)
  ·exact .inl (.inr (.inl z))
  ·exact .inl (.inr (.inr ⟨z,rfl,h0,lgB_lt h h0,h3⟩))
  ·exact .inr z
 obtain ⟨e1,e2⟩:=zX (ys:=nm) (cols:=Y6 (2 ^ nm.length) nm) (pl:=(min (k:Int) (lgB ws:Int)).toNat) (Zem W (Jk ls nm) ws k) c ws
 have hν:∀y∈nm,bt (Y6 (2 ^ nm.length) nm y) c=bt (Jk ls nm y) k:=fun y hy=>by
  obtain ⟨i,hi⟩:=Qde.mp hy
  rw [Zal hnd hi hcl,Zee hnd hi hc]
 have e3:=x5 (pl:=(min (k:Int) (lgB ws:Int)).toNat) (kp:=JV W (Jk ls nm) ws k) hν ws
 have e4:=gU (ρ:=Jk ls nm) (pl:=(min (k:Int) (lgB ws:Int)).toNat) hW (by lia:(min (k:Int) (lgB ws:Int)).toNat=k\/(lgB ws<=(min (k:Int) (lgB ws:Int)).toNat/\lgB ws<=k)) hk (JV W (Jk ls nm) ws k) ws hw2 he ⟨[],(Qa3 _).symm⟩
 rw [e3,e4] at e1 e2
 exact ⟨e1,e2⟩
theorem gW{nm:List Str}{ws:List V}{ls:List Nat}{W:Nat}{o:Int}{o0 o1:V}{l:List (Int × List Int)}(hnd:nm.Nodup)(hk:∀y∈nm,y∉YO)(hw:∀w∈ws,vF nm 10 w)(he:Y9 ws)(hW:W<=ls.length)(hls:∀x∈ls,x < 2 ^ nm.length)(ho:YY W (Jk (ls.take W) nm) ws=[o])
  (B:BfE (nxT nm (Y6 (2 ^ nm.length) nm) ws (lgB ws)) (0,List.replicate (Xk ws) 0) l) :
  ∀k,k < W->(rnO (rnG (nxT nm (Y6 (2 ^ nm.length) nm) ws (lgB ws)) l) (l.map (otT nm (Y6 (2 ^ nm.length) nm) ws o0 o1)) 0 ls)[k]?=some (if bt o k=1 then o1 else o0):=by
 have cl:∀s∈l,∀x∈nxT nm (Y6 (2 ^ nm.length) nm) ws (lgB ws) s,x∈l:=fun s hs x hx=>B.next hs hx
 generalize hρ:Jk (ls.take W) nm=ρ at *
 have e0:((0:Int),List.replicate (Xk ws) (0:Int))=(min ((0:Nat):Int) (lgB ws:Int),JV W ρ ws 0):=by
  rw [zY,zZ hw,show min ((0:Nat):Int) (lgB ws:Int)=0 by lia]
 have at_:∀k,k < W->∃c,ls[k]?=some c/\(ls.take W)[k]?=some c/\c < 2 ^ nm.length:=fun k hk=>by
  have h1:ls[k]?=some ls[k]:=Qai (by lia)
  exact ⟨_,h1,by rw [Qeb,Qan hk];exact h1,hls _ (Qax h1)⟩
 have step:∀k,k<=W->stN (rnG (nxT nm (Y6 (2 ^ nm.length) nm) ws (lgB ws)) l) 0 (ls.take k)=ixG l (min (k:Int) (lgB ws:Int),JV W ρ ws k)/\(min (k:Int) (lgB ws:Int),JV W ρ ws k)∈l:=by
  intro k
  induction k with
  | zero =>
   intro _
   rw [<-e0]
   exact ⟨B.zero.symm,B.begin.2⟩
  | succ k ih =>
   intro hk1
   obtain ⟨i1,i2⟩:=ih (by lia)
   refine Oe1a2 (at_ k (by lia)) fun c hc hc' hcl=>?_
   obtain ⟨_,e2⟩:=qw hnd hk hw he (show k < W by lia) hc' hcl
   rw [hρ] at e2
   have en:(nxT nm (Y6 (2 ^ nm.length) nm) ws (lgB ws) (min (k:Int) (lgB ws:Int),JV W ρ ws k))[c]?=some (min ((k + 1:Nat):Int) (lgB ws:Int),JV W ρ ws (k + 1)):=by
    unfold nxT
    rw [GK hcl,e2]
    congr 2
    show min (min (k:Int) (lgB ws:Int) + 1) (lgB ws:Int)=_
    lia
   refine ⟨?_,B.next i2 (Qax en)⟩
   rw [take_snoc hc,ze,i1,rnG_at cl i2,Qat,Qap,en]
   rfl
 intro k hkl
 obtain ⟨i1,i2⟩:=step k (by lia)
 refine Oe1a2 (at_ k hkl) fun c hc hc' hcl=>?_
 obtain ⟨e1,_⟩:=qw hnd hk hw he hkl hc' hcl
 rw [hρ] at e1
 have hkl2:k < ls.length:=by lia
 have ek:ls=ls.take k++c::ls.drop (k + 1):=by
  rw [show c::ls.drop (k + 1)=ls.drop k by rw [Qb8 hkl2];congr 1;exact (Qae.mp hc).2.symm,Qcc]
 have go:∀(nx:List (List Nat)) (ot:List (List V)) (s:Nat) (a:List Nat) (c:Nat) (r:List Nat),(rnO nx ot s (a++c::r))[a.length]?=some ((ot.getD (stN nx s a) []).getD c .non):=fun nx ot s a c r=>by
  induction a generalizing s with
  | nil=>rfl
  | cons d a ih=>exact ih _
 have g:=go (rnG (nxT nm (Y6 (2 ^ nm.length) nm) ws (lgB ws)) l) (l.map (otT nm (Y6 (2 ^ nm.length) nm) ws o0 o1)) 0 (ls.take k) c (ls.drop (k + 1))
 rw [<-ek,Qav,Qdb (by lia),i1,Zef i2] at g
 rw [g]
 congr 1
 unfold otT
 rw [Qat,GK hcl]
 rw [ho] at e1
 generalize (Zez nm (Y6 (2 ^ nm.length) nm) ws (min (k:Int) (lgB ws:Int),JV W ρ ws k)).1=q at e1 ⊢
 have hq:q.length=1:=by
  have:=congrArg List.length e1
  rw [Qaa] at this
  exact this
 match q,hq,e1 with
 | [x],_,e1 =>
  have e1:bt x c=bt o k:=by
   injection e1
  show (if bt x c=1 then o1 else o0)=_
  rw [e1]
inductive TyR(ys:List Str):List V->List Bool->Prop
 | nil:TyR ys [] []
 | sum {w:V} {r:List V} {ks:List Bool}:qL ys 10 w->TyR ys r (List.replicate (npw w) false++ks)->TyR ys (w::r) (false::ks)
 | clm {y:Str} {r:List V} {ks:List Bool}:y∈Z9->y∉ys->TyR ys r (List.replicate (WC (.str y)) false++(List.replicate (Jo (.str y)) true++ks))->TyR ys (.str y::r) (true::ks)
theorem ja:∀y∈Z9,npw (.str y)=WC (.str y) + Jo (.str y):=by decide +kernel
theorem TyR.facts{ys:List Str}{ws:List V}{ks:List Bool}(h:TyR ys ws ks):(∀w∈ws,vF ys 10 w)/\Y9 ws/\JG ws=ks.length:=by
 induction h with
 | nil=>exact ⟨(fun _ h=>nomatch h),trivial,rfl⟩
 | @sum w r ks hw _ ih =>
  (refine Oe0a2 ih fun h1 h2 h3=>?_;clear ih)
  rw [Qac,Qbn] at h3
  refine ⟨fun v hv=>?_,⟨by lia,h2⟩,?_⟩
  ·rcases Qaj.mp hv with rfl | hv
   ·exact .inl hw
   ·exact h1 v hv
  ·show JG r - npw w + 1=ks.length + 1
   lia
 | @clm y r ks hy hn _ ih =>
  (refine Oe0a2 ih fun h1 h2 h3=>?_;clear ih)
  rw [Qac,Qac,Qbn,Qbn] at h3
  have e:=ja y hy
  refine ⟨fun v hv=>?_,⟨by lia,h2⟩,?_⟩
  ·rcases Qaj.mp hv with rfl | hv
   ·exact .inr ⟨y,rfl,hy,hn⟩
   ·exact h1 v hv
  ·show JG r - npw (.str y) + 1=ks.length + 1
   lia
theorem vG{x:Int}{W:Nat}(h0:0<=x)(h1:x < 2 ^ W):lo x W=x:=Qck h0 h1
theorem gX{x:Int}{k:Nat}(h0:0<=x)(h1:x < 2 ^ (k + 1)):sgA x k=sgn (2 ^ (k + 1)) x:=by
 have e:=qi x k
 rw [vG h0 h1] at e
 have b:=qK x k
 have hp:(2:Int) ^ (k + 1)=2 ^ k * 2:=Qbq 2 k
 unfold sgA sgn
 rcases YG x k with a | a <;> rw [a] at e ⊢
 ·rw [Qal (by lia)]
  lia
 ·rw [Qan (by lia)]
  lia
theorem vH:∀y∈Z9,0 < WC (.str y)->Jo (.str y)=0/\((y = "same" /\ WC (.str y)=2)\/(y = "under" /\ WC (.str y)=2)\/(y = "beneath" /\ WC (.str y)=2)\/(y = "sign" /\ WC (.str y)=1)\/(y = "nought" /\ WC (.str y)=1)):=by decide +kernel
theorem vI:∀y∈Z9,¬0 < WC (.str y)->(y = "both" /\ Jo (.str y)=2)\/(y = "either" /\ Jo (.str y)=2)\/(y = "so" /\ Jo (.str y)=2)\/(y = "never" /\ Jo (.str y)=1)\/(y = "yes" /\ Jo (.str y)=0):=by decide +kernel
theorem Zav{W:Nat}(hW:1<=W){y:Str}(hy:y∈Z9)(hs:0 < WC (.str y)){xs:List Int}(hl:xs.length=WC (.str y))(hb:∀x∈xs,0<=x/\x < 2 ^ W):jE (2 ^ W) y xs=decide (clB y xs (W - 1)=1):=by
 obtain ⟨k,rfl⟩:∃k,W=k + 1:=⟨W - 1,by lia⟩
 show _=decide (clB y xs k=1)
 obtain ⟨_,h⟩:=vH y hy hs
 rcases h with ⟨rfl,e⟩ | ⟨rfl,e⟩ | ⟨rfl,e⟩ | ⟨rfl,e⟩ | ⟨rfl,e⟩ <;> rw [e] at hl
 ·match xs,hl with
  | [a,b],_ =>
   have ha:=hb a Qaf
   have hb:=hb b (Qag _ Qaf)
   show decide (a=b)=decide (1 - neA a b (k + 1)=1)
   refine Qci.mpr ?_
   unfold neA
   rw [vG ha.1 ha.2,vG hb.1 hb.2]
   split <;> lia
 ·match xs,hl with
  | [a,b],_ =>
   have ha:=hb a Qaf
   have hb:=hb b (Qag _ Qaf)
   show decide (a < b)=decide (brA a b (k + 1)=1)
   refine Qci.mpr ?_
   unfold brA
   rw [vG ha.1 ha.2,vG hb.1 hb.2]
   split <;> lia
 ·match xs,hl with
  | [a,b],_ =>
   have ha:=hb a Qaf
   have hb:=hb b (Qag _ Qaf)
   show decide (sgn (2 ^ (k + 1)) a < sgn (2 ^ (k + 1)) b)=decide (bnA a b k=1)
   refine Qci.mpr ?_
   unfold bnA
   rw [gX ha.1 ha.2,gX hb.1 hb.2]
   split <;> lia
 ·match xs,hl with
  | [a],_ =>
   have ha:=hb a Qaf
   show decide (sgn (2 ^ (k + 1)) a < 0)=decide (bt a k=1)
   refine Qci.mpr ?_
   rw [<-gX ha.1 ha.2]
   have b:=qK a k
   unfold sgA
   rcases YG a k with h | h <;> rw [h] <;> lia
 ·match xs,hl with
  | [a],_ =>
   have ha:=hb a Qaf
   show decide (a=0)=decide (1 - nzA a (k + 1)=1)
   refine Qci.mpr ?_
   unfold nzA brA
   rw [vG ha.1 ha.2,show lo 0 (k + 1)=0 from Int.zero_emod _]
   split <;> lia
theorem Zaw{k:Nat}{y:Str}(hy:y∈Z9)(hs:¬0 < WC (.str y)){xs:List Int}(hl:xs.length=Jo (.str y)):Zex y (xs.map fun x=>decide (bt x k=1))=decide (clB y xs k=1):=by
 rcases vI y hy hs with ⟨rfl,e⟩ | ⟨rfl,e⟩ | ⟨rfl,e⟩ | ⟨rfl,e⟩ | ⟨rfl,e⟩ <;> rw [e] at hl
 ·match xs,hl with
  | [a,b],_ =>
   show (decide (bt a k=1) && decide (bt b k=1))=decide (bt a k * bt b k=1)
   rcases YG a k with h | h <;> rcases YG b k with g | g <;> rw [h,g] <;> rfl
 ·match xs,hl with
  | [a,b],_ =>
   show (decide (bt a k=1) || decide (bt b k=1))=decide (1 - (1 - bt a k) * (1 - bt b k)=1)
   rcases YG a k with h | h <;> rcases YG b k with g | g <;> rw [h,g] <;> rfl
 ·match xs,hl with
  | [a,b],_ =>
   show (decide (bt b k=1) || !decide (bt a k=1))=decide (1 - (1 - (1 - bt a k)) * (1 - bt b k)=1)
   rcases YG a k with h | h <;> rcases YG b k with g | g <;> rw [h,g] <;> rfl
 ·match xs,hl with
  | [a],_ =>
   show (!decide (bt a k=1))=decide (1 - bt a k=1)
   rcases YG a k with h | h <;> rw [h] <;> rfl
 ·match xs,hl with
  | [],_=>rfl
noncomputable def Seg(ys:List Str)(b:Bool)(ws:List V):Prop:=∀(r:List V) (ks:List Bool),TyR ys r ks->TyR ys (ws++r) (b::ks)
theorem gY{ys:List Str}:∀{ws:List V},(∀w∈ws,qL ys 10 w)->Y9 ws->∀(r:List V) (ks:List Bool),TyR ys r ks->TyR ys (ws++r) (List.replicate (JG ws) false++ks)
 | [],_,_,r,ks,h=>h
 | w::us,hw,he,r,ks,h=>by
  have ih:=gY (fun v hv=>hw v (Qag _ hv)) he.2 r ks h
  show TyR ys (w::(us++r)) (List.replicate (JG us - npw w + 1) false++ks)
  rw [List.replicate_succ]
  refine .sum (hw w Qaf) ?_
  show TyR ys (us++r) (List.replicate (npw w) false++(List.replicate (JG us - npw w) false++ks))
  rw [<-Qbs,List.replicate_append_replicate,show npw w + (JG us - npw w)=JG us by have:=he.1;lia]
  exact ih
theorem Seg.sum{ys:List Str}{ws:List V}(hw:∀w∈ws,qL ys 10 w)(he:Y9 ws)(hs:JG ws=1):Seg ys false ws:=fun r ks h=>by
 have:=gY hw he r ks h
 rw [hs] at this
 exact this
theorem Seg.rel1{ys:List Str}{y:Str}{us:List V}(hy:y∈Z9)(hn:y∉ys)(h1:WC (.str y)=1)(h2:Jo (.str y)=0)(h:Seg ys false us):Seg ys true (.str y::us):=fun r ks hr=>by
 refine .clm hy hn ?_
 rw [h1,h2]
 exact h r ks hr
theorem Seg.rel2{ys:List Str}{y:Str}{us vs:List V}(hy:y∈Z9)(hn:y∉ys)(h1:WC (.str y)=2)(h2:Jo (.str y)=0)(h:Seg ys false us)(g:Seg ys false vs):Seg ys true (.str y::(us++vs)):=fun r ks hr=>by
 refine .clm hy hn ?_
 rw [h1,h2]
 show TyR ys ((us++vs)++r) _
 rw [Qbs]
 exact h _ _ (g r ks hr)
theorem Seg.ty{ys:List Str}{b:Bool}{ws:List V}(h:Seg ys b ws):TyR ys ws [b]:=by
 have:=h [] [] .nil
 rw [Qa3] at this
 exact this
theorem zg(w:V)(r:List V):Xk (w::r)<=Xk r + 1:=by
 rw [WG]
 split <;> lia
theorem top1{a:Int}{j:Nat}(h0:0<=a)(h1:a < 2 ^ (j + 1)):(a / 2 ^ j=1/\2 ^ j<=a)\/(a / 2 ^ j=0/\a < 2 ^ j):=by
 have hp:(0:Int) < 2 ^ j:=Qcu (by decide)
 have e:=Qbo a (2 ^ j)
 have m0:=Qa6 a (Qdj hp)
 have m1:=Qaw a hp
 have q0:0<=a / 2 ^ j:=Int.ediv_nonneg h0 (Int.le_of_lt hp)
 have q2:a / 2 ^ j < 2:=Int.ediv_lt_of_lt_mul hp (by rw [Qch];rw [Qbq] at h1;exact h1)
 have hq:a / 2 ^ j=0\/a / 2 ^ j=1:=by lia
 rcases hq with h | h
 ·rw [h,Int.mul_zero] at e
  exact .inr ⟨h,by lia⟩
 ·rw [h,Int.mul_one] at e
  exact .inl ⟨h,by lia⟩
theorem Zen{H:Hp}{st:Addr}{v:V}{l:List V}(h:H st=some (.lst (v::l).reverse)):H st=some (.lst (l.reverse++[v])):=by rw [h,Qca]
noncomputable def Zeo(W:Nat)(y:Str)(vs:List V)(b:Bool):Prop :=
 (y = "yes" /\ vs=[]/\b=true)\/(∃v,y∈(["sign","nought","never"]:List Str)/\y ≠ "yes" /\ vs=[v]/\((y∈(["sign","nought"]:List Str)/\∃a:Int,v=.int a/\0<=a/\a < 2 ^ W/\b=jE (2 ^ W) y [a])\/(y = "never" /\ ∃p:Bool,v=.bl p/\b=Zex y [p]))) \/
 (∃v u,y∉(["sign","nought","never"]:List Str)/\y ≠ "yes" /\ vs=[v,u]/\((y∈(["same","under","beneath"]:List Str)/\∃a c:Int,v=.int a/\u=.int c/\0<=a/\a < 2 ^ W/\0<=c/\c < 2 ^ W/\b=jE (2 ^ W) y [a,c])\/(y∈(["both","either","so"]:List Str)/\∃p q:Bool,v=.bl p/\u=.bl q/\b=Zex y [p,q])))
theorem gZ:∀y∈Z9,y∉(["not","neg","twice","low"]:List Str)/\y ≠ "pick" /\ y∉(["and","or","odd","add","sub"]:List Str):=by decide +kernel
theorem condS{W:Nat}{y:Str}{is:List Int}(hy:y∈Z9)(hs:0 < WC (.str y))(hl:is.length=WC (.str y))(hb:∀z∈is,0<=z/\z < 2 ^ W):Zeo W y (is.map V.int) (jE (2 ^ W) y is):=by
 have d1:∀y∈Z9,0 < WC (.str y)->(WC (.str y)=1/\y∈(["sign","nought"]:List Str)/\y∈(["sign","nought","never"]:List Str)/\y ≠ "yes")\/(WC (.str y)=2/\y∈(["same","under","beneath"]:List Str)/\y∉(["sign","nought","never"]:List Str)/\y ≠ "yes"):=by decide +kernel
 rcases d1 y hy hs with ⟨e,h1,h2,h3⟩ | ⟨e,h1,h2,h3⟩ <;> rw [e] at hl
 ·match is,hl with
  | [a],_=>exact .inr (.inl ⟨_,h2,h3,rfl,.inl ⟨h1,a,rfl,(hb a Qaf).1,(hb a Qaf).2,rfl⟩⟩)
 ·match is,hl with
  | [a,c],_ =>
   have ha:=hb a Qaf
   have hc:=hb c (Qag _ Qaf)
   exact .inr (.inr ⟨_,_,h2,h3,rfl,.inl ⟨h1,a,c,rfl,rfl,ha.1,ha.2,hc.1,hc.2,rfl⟩⟩)
theorem condB{W:Nat}{y:Str}{bs:List Bool}(hy:y∈Z9)(hs:¬0 < WC (.str y))(hl:bs.length=Jo (.str y)):Zeo W y (bs.map V.bl) (Zex y bs):=by
 have d1:∀y∈Z9,¬0 < WC (.str y)->(Jo (.str y)=0/\y = "yes")\/(Jo (.str y)=1/\y = "never" /\ y∈(["sign","nought","never"]:List Str)/\y ≠ "yes")\/(Jo (.str y)=2/\y∈(["both","either","so"]:List Str)/\y∉(["sign","nought","never"]:List Str)/\y ≠ "yes"):=by decide +kernel
 rcases d1 y hy hs with ⟨e,h1⟩ | ⟨e,h1,h2,h3⟩ | ⟨e,h1,h2,h3⟩ <;> rw [e] at hl
 ·match bs,hl with
  | [],_ =>
   refine .inl ⟨h1,rfl,?_⟩
   rw [h1]
   rfl
 ·match bs,hl with
  | [p],_=>exact .inr (.inl ⟨_,h2,h3,rfl,.inr ⟨h1,p,rfl,rfl⟩⟩)
 ·match bs,hl with
  | [p,q],_=>exact .inr (.inr ⟨_,_,h2,h3,rfl,.inr ⟨h1,p,q,rfl,rfl,rfl⟩⟩)
theorem claimC:∀y∈Z9,(y∈allR/\1<=npw (.str y)/\(y∈Zd8->2<=npw (.str y)))\/(y∈gn/\y∉allR/\npw (.str y)=gk y):=by decide +kernel
theorem yO(W:Nat)(ρ:Str->Int):∀{u:List V},Y9 u->∀r,YY W ρ (u++r)=YY W ρ u++YY W ρ r
 | [],_,r=>rfl
 | w::u,h,r=>by
  have ih:=yO W ρ h.2 r
  have hl:npw w<=(YY W ρ u).length:=by rw [WQ];exact h.1
  show rwR W ρ w ((YY W ρ (u++r)).take (npw w))::(YY W ρ (u++r)).drop (npw w)=(rwR W ρ w ((YY W ρ u).take (npw w))::(YY W ρ u).drop (npw w))++YY W ρ r
  rw [ih,List.take_append_of_le_length hl,List.drop_append_of_le_length hl,Qdh]
theorem rwR_bd(W:Nat)(ρ:Str->Int)(w:V)(is:List Int):0<=rwR W ρ w is/\rwR W ρ w is < 2 ^ W:=by
 have hp:=Wn W
 have hm:∀z:Int,0<=z % 2 ^ W/\z % 2 ^ W < 2 ^ W:=fun z=>⟨Qa6 _ (by lia),Qaw _ hp⟩
 unfold rwR
 split
 ·split
  ·exact za (zW _ _) W
  ·exact hm _
 ·exact hm _
theorem jR{W:Nat}{ρ:Str->Int}{o:Int}:∀{ws:List V},YY W ρ ws=[o]->0<=o/\o < 2 ^ W
 | [],h=>nomatch h
 | w::r,h=>by
  have e:rwR W ρ w ((YY W ρ r).take (npw w))=o:=(List.cons.inj h).1
  rw [<-e]
  exact rwR_bd _ _ _ _
structure POk(nm:List Str)(b:Bool)(ws:List V):Prop where
 n3:nm.length<=3
 nd:nm.Nodup
 kp:∀y∈nm,y∉YO
 ln:ws.length<=100
 sg:Seg nm b ws
 rm:Xk ws<=15
theorem POk.wc{nm:List Str}{b:Bool}{ws:List V}(S:POk nm b ws):∀w∈ws,xY nm w:=fun w h=>by
 rcases S.sg.ty.facts.1 w h with h | ⟨y,rfl,hy,hn⟩
 ·exact Zao S.kp h
 ·rcases claimC y hy with ⟨h1,h2,h3⟩ | ⟨h1,h2,h3⟩
  ·exact .inl ⟨y,rfl,h1,hn,h2,h3⟩
  ·exact .inr (.inl ⟨y,rfl,h1,h2,hn,h3⟩)
theorem POk.iz{nm:List Str}{b:Bool}{ws:List V}(S:POk nm b ws):∀z:Int,V.int z∈ws->0<=z/\z < 2 ^ 10:=fun z h=>by
 rcases S.sg.ty.facts.1 _ h with (⟨y,e,_⟩ | ⟨y,e,_⟩ | ⟨z',e,h0,h1,_⟩) | ⟨y,e,_⟩
 ·cases e
 ·cases e
 ·cases e
  exact ⟨h0,h1⟩
 ·cases e
theorem POk.big{nm:List Str}{b:Bool}{ws:List V}(S:POk nm b ws):(10 + 1) * 2 ^ Xk ws<=1000000:=by
 have:2 ^ Xk ws<=2 ^ 15:=Qd2 (by decide) S.rm
 lia
theorem POk.runs{nm:List Str}{b:Bool}{ws:List V}{l:List (Int × List Int)}(S:POk nm b ws)(B:BfE (nxS nm ws) (0,List.replicate (Xk ws) 0) l)(o0 o1:V):Runs (rnG (nxS nm ws) l) (l.map (otT nm (Y6 (2 ^ nm.length) nm) ws o0 o1)) nm.length:=by
 obtain ⟨r1,r2⟩:=Zei B (n:=2 ^ nm.length) (Zeg _ _ _ _)
 have hpos:0 < l.length:=Qdp B.begin.2
 refine ⟨by rw [zb];exact hpos,by rw [zb,Qaa],r1,r2,fun r hr=>?_⟩
 (refine Oe1a1 (Qbb.mp hr) fun s _ zo73=>?_;obtain rfl:=zo73)
 exact Zeh _ _ _ _ _ _
structure zh(nm:List Str)(ws:List V)(ls:List Nat)(o0 o1:V)(row:List V):Prop where
 len:row.length=ls.length
 bit:∀W,1<=W->W<=ls.length->∃o,YY W (Jk (ls.take W) nm) ws=[o]/\∀k,k < W->row[k]?=some (if bt o k=1 then o1 else o0)
theorem POk.row{nm:List Str}{b:Bool}{ws:List V}{l:List (Int × List Int)}{ls:List Nat}(S:POk nm b ws)(B:BfE (nxS nm ws) (0,List.replicate (Xk ws) 0) l)(hls:∀x∈ls,x < 2 ^ nm.length)(o0 o1:V):zh nm ws ls o0 o1 (rnO (rnG (nxS nm ws) l) (l.map (otT nm (Y6 (2 ^ nm.length) nm) ws o0 o1)) 0 ls):=by
 refine ⟨zf _ _ _ _,fun W h1 h2=>?_⟩
 have f:=S.sg.ty.facts
 obtain ⟨o,ho⟩:∃o,YY W (Jk (ls.take W) nm) ws=[o]:=by
  have h:=WQ W (Jk (ls.take W) nm) ws
  rw [f.2.2] at h
  generalize YY W (Jk (ls.take W) nm) ws=q at h
  match q,h with
  | [o],_=>exact ⟨o,rfl⟩
 exact ⟨o,ho,gW S.nd S.kp f.1 f.2.1 h2 hls ho B⟩
theorem sm_bt(o:Int)(W:Nat):sm (fun k=>bt o k) W=o % 2 ^ W:=gu o W
theorem zh.num{nm:List Str}{ws:List V}{ls:List Nat}{row:List V}(R:zh nm ws ls (.int 0) (.int 1) row){W:Nat}(h1:1<=W)(h2:W<=ls.length):∃(o:Int) (is:List Int),YY W (Jk (ls.take W) nm) ws=[o]/\0<=o/\o < 2 ^ W/\row.take W=is.map V.int/\is.length=W/\(∀x∈is,x=0\/x=1)/\sm (fun k=>is.getD k 0) is.length=o:=by
 refine Oe1a1 (R.bit W h1 h2) fun o ho hb=>?_
 have bd:=jR ho
 refine ⟨o,(List.range W).map fun k=>bt o k,ho,bd.1,bd.2,?_,by rw [Qaa,Qao],fun x hx=>?_,?_⟩
 ·refine List.ext_getElem? fun k=>?_
  rw [Qeb,Qap,Qap]
  by_cases hk:k < W
  ·rw [Qan hk,hb k hk,Qcv hk]
   show some _=some (V.int (bt o k))
   rcases YG o k with e | e <;> rw [e] <;> rfl
  ·rw [Qal hk,Qdx (by rw [Qao];lia)]
   rfl
 ·(refine Oe1a1 (Qbb.mp hx) fun k _ zo74=>?_;obtain rfl:=zo74)
  exact YG o k
 ·rw [Qaa,Qao]
  have e:sm (fun k=>((List.range W).map fun k=>bt o k).getD k 0) W=sm (fun k=>bt o k) W:=yD fun i hi=>by
   rw [Qat,Qap,Qcv hi]
   rfl
  rw [e,sm_bt,Qck bd.1 bd.2]
inductive qx(W:Nat)(kvs:List (Key × V)):V->List V->List V->Prop
 | num {z:Int} {l:List V}:qx W kvs (.int z) l (.int (z % 2 ^ W)::l)
 | nam {y:Str} {v:V} {l:List V}:YH kvs (.inr y)=some v->qx W kvs (.str y) l (v::l)
 | sum {y:Str} {is:List Int} {l:List V}:YH kvs (.inr y)=none->y∈WA->is.length=ZG y->(∀z∈is,0<=z/\z < 2 ^ W)->qx W kvs (.str y) (is.map V.int++l) (.int (wwv (fun _=>0) (.str y) is % 2 ^ W)::l)
 | clm {y:Str} {vs:List V} {b:Bool} {l:List V}:YH kvs (.inr y)=none->y∈Z9->Zeo W y vs b->qx W kvs (.str y) (vs++l) (.bl b::l)
inductive HTo(W:Nat)(kvs:List (Key × V))(v:V):List V->List V->Prop
 | nil:HTo W kvs v [] [v]
 | cons {x:V} {r l l':List V}:qx W kvs x l l'->HTo W kvs v r l'->HTo W kvs v (x::r) l
theorem HTo.head{W:Nat}{kvs:List (Key × V)}{v x:V}{r l:List V}(h:HTo W kvs v (x::r) l):∃l',qx W kvs x l l'/\HTo W kvs v r l':=by
 cases h with
 | cons h g=>exact ⟨_,h,g⟩
theorem HTo.end_{W:Nat}{kvs:List (Key × V)}{v:V}{l:List V}(h:HTo W kvs v [] l):l=[v]:=by
 cases h
 rfl
theorem wwv_cg{y:Str}{is:List Int}(h:y∈WA)(hl:is.length=ZG y)(ρ ρ':Str->Int):wwv ρ (.str y) is=wwv ρ' (.str y) is:=by
 have h0:1<=ZG y:=(by decide +kernel:∀y∈WA,1<=ZG y) y h
 match is,hl with
 | [],hl=>rw [<-hl] at h0;cases h0
 | [a],_=>rfl
 | [a,b],_=>rfl
 | a::b::c::_,_=>rfl
theorem YN.put{H:Hp}{p P:Addr}{kvs:List (Key × V)}{o':HO}{pos:Pos}{qual:Str}(h:YN H P pos qual)(e:H p=some (.dK kvs)):YN (upd H p o') P pos qual:=by
 rcases h with h | ⟨c',oc,h1,h2,h3⟩
 ·refine .inl ?_
  rw [Zj (YC h e fun z=>nomatch z)]
  exact h
 ·refine .inr ⟨c',oc,?_,?_,h3⟩
  ·rw [Zj (YC h1 e fun z=>nomatch z)]
   exact h1
  ·rw [Zj (YC h2 e fun z=>nomatch z)]
   exact h2
noncomputable def abc:Nat->Str
 | 0 => "a"
 | 1 => "b"
 | _ => "c"
theorem Zep:∀i j,i < 3->j < 3->abc i=abc j->i=j:=by
 intro i j hi hj
 have h:∀i∈[0,1,2],∀j∈[0,1,2],abc i=abc j->i=j:=by decide +kernel
 exact h i (by simp only [Qaj,Qa0,Qcg];lia) j (by simp only [Qaj,Qa0,Qcg];lia)
theorem abc_at:∀k:Nat,k < 3->∃c,atI ("abc" : Str).cps.toList (k:Int)=some c/\(⟨#[c]⟩:Str)=abc k
 | 0,_=>⟨_,rfl,rfl⟩
 | 1,_=>⟨_,rfl,rfl⟩
 | 2,_=>⟨_,rfl,rfl⟩
theorem yP:∀k,abc k∉WA/\abc k∉Z9
 | 0=>by decide +kernel
 | 1=>by decide +kernel
 | _ + 2=>by show ("c" : Str)∉WA/\("c" : Str)∉Z9;decide +kernel
structure VOk(kvs:List (Key × V))(n:Nat)(v:Nat->V):Prop where
 yes:∀j,j < n->YH kvs (.inr (abc j))=some (v j)
 no:∀y,(∀j,j < n->y≠abc j)->YH kvs (.inr y)=none
theorem VOk.nil{v:Nat->V}:VOk [] 0 v:=⟨fun j h=>absurd h (Qdc _),fun _ _=>rfl⟩
theorem VOk.put{kvs:List (Key × V)}{n:Nat}{v:Nat->V}(h:VOk kvs n v)(hn:n < 3):VOk (putK kvs (.inr (abc n)) (v n)) (n + 1) v:=by
 refine ⟨fun j hj=>?_,fun y hy=>?_⟩
 ·rw [GI]
  by_cases e:j=n
  ·rw [Qan (by rw [e]),e]
  ·rw [Qal (fun z=>e (Zep j n (by lia) hn (Sum.inr.inj z)))]
   exact h.yes j (by lia)
 ·rw [GI,Qal (fun z=>hy n (by lia) (Sum.inr.inj z))]
  exact h.no y fun j hj=>hy j (by lia)
theorem VOk.word{kvs:List (Key × V)}{n:Nat}{v:Nat->V}(h:VOk kvs n v){y:Str}(hy:y∈WA\/y∈Z9):YH kvs (.inr y)=none:=h.no y fun j _ z=>by
 rw [z] at hy
 rcases hy with hy | hy
 ·exact (yP j).1 hy
 ·exact (yP j).2 hy
theorem jb{W:Nat}{kvs:List (Key × V)}{y:Str}{r:V}:∀{n:Nat} {v:Nat->V},VOk kvs n v->n<=3->qx W kvs (.str y) ((List.range n).map v) [r]->HTo W kvs r (.str y::(List.range n).map fun j=>.str (abc j)).reverse []
 | 0,v,h,_,hl=>.cons hl .nil
 | 1,v,h,_,hl=>.cons (.nam (h.yes 0 (by decide))) (.cons hl .nil)
 | 2,v,h,_,hl=>.cons (.nam (h.yes 1 (by decide))) (.cons (.nam (h.yes 0 (by decide))) (.cons hl .nil))
 | 3,v,h,_,hl=>.cons (.nam (h.yes 2 (by decide))) (.cons (.nam (h.yes 1 (by decide))) (.cons (.nam (h.yes 0 (by decide))) (.cons hl .nil)))
 | _ + 4,v,h,hn,_=>absurd hn (by lia)
theorem JW{W:Nat}{ρ:Str->Int}{r:Nat->List V}{o:Nat->Int}:∀{js:List Nat},(∀j∈js,Y9 (r j)/\YY W ρ (r j)=[o j])->YY W ρ (js.flatMap r)=js.map o
 | [],_=>rfl
 | j::js,h=>by
  obtain ⟨h1,h2⟩:=h j Qaf
  rw [Qef,yO W ρ h1,h2,JW fun k hk=>h k (Qag _ hk)]
  rfl
theorem jS{ys:List Str}{b:Bool}{r:Nat->List V}:∀{js:List Nat},(∀j∈js,Seg ys b (r j))->∀(u:List V) (ks:List Bool),TyR ys u ks->TyR ys (js.flatMap r++u) (List.replicate js.length b++ks)
 | [],_,u,ks,h=>h
 | j::js,hs,u,ks,h=>by
  rw [Qef,Qbs]
  show TyR ys _ (b::(List.replicate js.length b++ks))
  exact hs j Qaf _ _ (jS (fun k hk=>hs k (Qag _ hk)) u ks h)
theorem GO{r:Nat->List V}{c d:Nat}:∀{js:List Nat},(∀j∈js,(r j).length<=c/\Xk (r j)<=d)->(js.flatMap r).length<=js.length * c/\Xk (js.flatMap r)<=js.length * d
 | [],_=>⟨Qbg _,Qbg _⟩
 | j::js,h=>by
  obtain ⟨h1,h2⟩:=h j Qaf
  obtain ⟨h3,h4⟩:=GO (r:=r) (c:=c) (d:=d) (js:=js) fun k hk=>h k (Qag _ hk)
  rw [Qef,Qac,J4,Qa2,Nat.succ_mul,Nat.succ_mul]
  lia
theorem Zax{ys:List Str}{y:Str}{r:Nat->List V}{n:Nat}(hys:∀y∈ys,y∉YO)(hy:y∈WA)(hn:ZG y=n)(h:∀j,j < n->Seg ys false (r j)):Seg ys false (.str y::(List.range n).flatMap r):=fun u ks hu=>by
 refine Oe0a2 (GL hys hy) fun w1 w2 _=>?_
 refine .sum w1 ?_
 rw [w2,hn]
 have:=jS (js:=List.range n) (fun j hj=>h j (Qby.mp hj)) u ks hu
 rw [Qao] at this
 exact this
theorem Zay{ys:List Str}{y:Str}{r:Nat->List V}{n:Nat}{b:Bool}(hys:∀y∈ys,y∉YO)(hy:y∈Z9)(hb:(b=false/\WC (.str y)=n/\Jo (.str y)=0)\/(b=true/\WC (.str y)=0/\Jo (.str y)=n))(h:∀j,j < n->Seg ys b (r j)):Seg ys true (.str y::(List.range n).flatMap r):=fun u ks hu=>by
 have t:=jS (js:=List.range n) (fun j hj=>h j (Qby.mp hj)) u ks hu
 rw [Qao] at t
 refine .clm hy (fun z=>hys y z (JS y hy)) ?_
 rcases hb with ⟨rfl,e1,e2⟩ | ⟨rfl,e1,e2⟩ <;> rw [e1,e2]
 ·exact t
 ·exact t
noncomputable def nvR(nm:List Str)(ls:List Nat)(ws:List V):Int:=if ls.length=0 then 0 else (YY ls.length (Jk ls nm) ws).getD 0 0
theorem zh.all{nm:List Str}{ws:List V}{ls:List Nat}{row:List V}(R:zh nm ws ls (.int 0) (.int 1) row):∃is:List Int,row=is.map V.int/\is.length=ls.length/\(∀x∈is,x=0\/x=1)/\sm (fun k=>is.getD k 0) is.length=nvR nm ls ws:=by
 unfold nvR
 by_cases h0:ls.length=0
 ·rw [Qan h0]
  have:row=[]:=Qcn (by rw [R.len,h0])
  rw [this]
  exact ⟨[],rfl,h0.symm,(fun _ h=>nomatch h),rfl⟩
 ·rw [Qal h0]
  refine Oe2a6 (R.num (W:=ls.length) (by lia) (Qah _)) fun o is h1 h2 h3 h4 h5 h6 h7=>?_
  rw [Qbl (by rw [R.len];exact Qah _)] at h4
  rw [Qbz] at h1
  rw [h1]
  exact ⟨is,h4,h5,h6,h7⟩
theorem nvR_bd{nm:List Str}{b:Bool}{ls:List Nat}{ws:List V}(S:Seg nm b ws):0<=nvR nm ls ws/\nvR nm ls ws < 2 ^ ls.length:=by
 have hp:=Wn ls.length
 unfold nvR
 split
 ·exact ⟨Qep _,hp⟩
 ·have h:=WQ ls.length (Jk ls nm) ws
  rw [S.ty.facts.2.2] at h
  generalize hq:YY ls.length (Jk ls nm) ws=q at h
  match q,h with
  | [o],_=>exact jR hq
theorem jT{nm:List Str}{b:Bool}{ws:List V}(S:Seg nm b ws)(W:Nat)(ρ:Str->Int):YY W ρ ws=[(YY W ρ ws).getD 0 0]:=by
 have h:=WQ W ρ ws
 rw [S.ty.facts.2.2] at h
 generalize YY W ρ ws=q at h
 match q,h with
 | [o],_=>rfl
theorem Zaz{nm:List Str}{y:Str}{r:Nat->List V}{ls:List Nat}(hy:y∈WA)(h:∀j,j < ZG y->Seg nm false (r j)):nvR nm ls (.str y::(List.range (ZG y)).flatMap r)=wwv (fun _=>0) (.str y) ((List.range (ZG y)).map fun j=>nvR nm ls (r j)) % 2 ^ (max 1 ls.length) % 2 ^ ls.length:=by
 by_cases h0:ls.length=0
 ·rw [h0,Qcb,Qdk]
  exact Qan h0
 ·have em:max 1 ls.length=ls.length:=by lia
  rw [em,Int.emod_emod]
  have e:∀ws,nvR nm ls ws=(YY ls.length (Jk ls nm) ws).getD 0 0:=fun ws=>Qal h0
  have hp:YY ls.length (Jk ls nm) ((List.range (ZG y)).flatMap r)=(List.range (ZG y)).map fun j=>nvR nm ls (r j):=JW fun j hj=>by
   have s:=h j (Qby.mp hj)
   refine ⟨s.ty.facts.2.1,?_⟩
   rw [e]
   exact jT s _ _
  have en:npw (.str y)=ZG y:=(jP y hy).1
  rw [e]
  show rwR ls.length (Jk ls nm) (.str y) ((YY ls.length (Jk ls nm) ((List.range (ZG y)).flatMap r)).take (npw (.str y)))=_
  rw [hp,en,Qbl (by rw [Qaa,Qao];exact Qah _)]
  show (if y∈Z9 then _ else _)=_
  rw [Qal (GN y hy),wwv_cg hy (by rw [Qaa,Qao]) (Jk ls nm) fun _=>0]
noncomputable def vlR(W:Nat)(b:Bool)(o:Int):V:=if b=true then .bl (decide (bt o (W - 1)=1)) else .int o
theorem Za0{nm:List Str}{y:Str}{r:Nat->List V}{ls:List Nat}{b:Bool}{n W:Nat}{row:List V}{kvs:List (Key × V)}(hW:1<=W)(hW2:W<=ls.length)(hy:y∈Z9)(hb:(b=false/\WC (.str y)=n/\Jo (.str y)=0/\0 < n)\/(b=true/\WC (.str y)=0/\Jo (.str y)=n))(h:∀j,j < n->Seg nm b (r j))
  (R:zh nm (.str y::(List.range n).flatMap r) ls (.bl false) (.bl true) row) (hv:YH kvs (.inr y)=none):∃t:Bool,row[W - 1]?=some (.bl t)/\qx W kvs (.str y) ((List.range n).map fun j=>vlR W b ((YY W (Jk (ls.take W) nm) (r j)).getD 0 0)) [.bl t]:=by
 refine Oe1a1 (R.bit W hW hW2) fun o ho hbit=>?_
 have hk:=hbit (W - 1) (by lia)
 generalize Jk (ls.take W) nm=ρ at *
 have hp:YY W ρ ((List.range n).flatMap r)=(List.range n).map fun j=>(YY W ρ (r j)).getD 0 0:=JW fun j hj=>by
  have s:=h j (Qby.mp hj)
  exact ⟨s.ty.facts.2.1,jT s _ _⟩
 have en:=ja y hy
 have eo:rwR W ρ (.str y) ((YY W ρ ((List.range n).flatMap r)).take (npw (.str y)))=o:=(List.cons.inj ho).1
 have hn:npw (.str y)=n:=by
  rcases hb with ⟨_,e1,e2,_⟩ | ⟨_,e1,e2⟩ <;> lia
 rw [hp,hn,Qbl (by rw [Qaa,Qao];exact Qah _)] at eo
 have bds:∀x∈(List.range n).map (fun j=>(YY W ρ (r j)).getD 0 0),0<=x/\x < 2 ^ W:=fun x hx=>by
  (refine Oe1a1 (Qbb.mp hx) fun j hj zo75=>?_;obtain rfl:=zo75)
  exact jR (jT (h j (Qby.mp hj)) W ρ)
 have hl:((List.range n).map fun j=>(YY W ρ (r j)).getD 0 0).length=n:=by rw [Qaa,Qao]
 have ev:((List.range n).map fun j=>vlR W b ((YY W ρ (r j)).getD 0 0))=(((List.range n).map fun j=>(YY W ρ (r j)).getD 0 0)).map (vlR W b):=by rw [Qbw];rfl
 rw [ev]
 generalize (List.range n).map (fun j=>(YY W ρ (r j)).getD 0 0)=os at *
 have eo:sm (clB y os) W=o:=by
  rw [<-eo]
  show _=if y∈Z9 then _ else _
  rw [Qan hy]
 rw [<-eo,Zel (zW y os) (show W - 1 < W by lia)] at hk
 refine ⟨decide (clB y os (W - 1)=1),?_,?_⟩
 ·rw [hk]
  rcases zW y os (W - 1) with e | e <;> rw [e] <;> rfl
 ·rcases hb with ⟨rfl,e1,e2,e3⟩ | ⟨rfl,e1,e2⟩
  ·have hs:0 < WC (.str y):=by lia
   have c:=condS hy hs (by rw [hl,e1]) bds
   rw [Zav hW hy hs (by rw [hl,e1]) bds] at c
   have st:=qx.clm (l:=[]) hv hy c
   rw [Qa3] at st
   exact st
  ·have hs:¬0 < WC (.str y):=by lia
   have c:=condB (W:=W) (bs:=os.map fun x=>decide (bt x (W - 1)=1)) hy hs (by rw [Qaa,hl,e2])
   rw [Zaw hy hs (by rw [hl,e2])] at c
   have st:=qx.clm (l:=[]) hv hy c
   rw [Qa3,Qbw] at st
   exact st
structure JX(H:Hp)(ps:Addr)(a:Nat->Addr)(r:Nat->List V)(nm:List Str):Prop where
 h:H ps=some (.lst [.ref (a 0),.ref (a 1),.ref (a 2)])
 t:∀k,k < 3->H (a k)=some (.tup (r k))
 g:∀k,k < 3->Seg nm false (r k)/\(r k).length<=8/\Xk (r k)<=1
theorem JX.off{H H':Hp}{ps pw:Addr}{a:Nat->Addr}{r:Nat->List V}{nm:List Str}{pz:Array Value}(S:JX H ps a r nm)(o:JH pw H H')(hz:H pw=some (.tbl pz)):JX H' ps a r nm:=⟨o _ _ S.h (YC S.h hz fun z=>nomatch z),fun k hk=>o.tup hz (S.t k hk),S.g⟩
theorem JX.same{H H':Hp}{ps:Addr}{a:Nat->Addr}{r:Nat->List V}{nm:List Str}(S:JX H ps a r nm)(o:ZT H H'):JX H' ps a r nm:=⟨o _ _ S.h,fun k hk=>o _ _ (S.t k hk),S.g⟩
theorem JX.at_{H:Hp}{ps:Addr}{a:Nat->Addr}{r:Nat->List V}{nm:List Str}(_:JX H ps a r nm):∀k:Nat,k < 3->atI [V.ref (a 0),.ref (a 1),.ref (a 2)] (k:Int)=some (.ref (a k))
 | 0,_=>rfl
 | 1,_=>rfl
 | 2,_=>rfl
theorem JH.lst{pw:Addr}{H H':Hp}(o:JH pw H H'){pz:Array Value}(hz:H pw=some (.tbl pz)){b:Addr}{xs:List V}(e:H b=some (.lst xs)):H' b=some (.lst xs):=o _ _ e (YC e hz fun z=>nomatch z)
theorem JH.dk{pw:Addr}{H H':Hp}(o:JH pw H H'){pz:Array Value}(hz:H pw=some (.tbl pz)){b:Addr}{xs:List (Key × V)}(e:H b=some (.dK xs)):H' b=some (.dK xs):=o _ _ e (YC e hz fun z=>nomatch z)
theorem JH.put{pw:Addr}{H H':Hp}(o:JH pw H H'){b:Addr}(hb:H b=none){u:HO}:JH pw H (upd H' b u):=fun c v e hc=>by
 rw [Zj (fun z=>by rw [z,hb] at e;cases e)]
 exact o c v e hc
theorem J5{pw:Addr}{H H':Hp}(s:ZT H H'):JH pw H H':=fun b u e _=>s _ _ e
noncomputable def o0B(b:Bool):V:=if b=true then .bl false else .int 0
noncomputable def o1B(b:Bool):V:=if b=true then .bl true else .int 1
structure Part(H:Hp)(nm:List Str)(ls:List Nat)(b:Bool)(q:List V)(p:Addr)(row:List V):Prop where
 h:H p=some (.lst row)
 r:zh nm q ls (o0B b) (o1B b) row
 g:Seg nm b q
 l:q.length<=20
 m:Xk q<=4
theorem Part.same{H H':Hp}{nm:List Str}{ls:List Nat}{b:Bool}{q:List V}{p:Addr}{row:List V}(P:Part H nm ls b q p row)(o:ZT H H'):Part H' nm ls b q p row:=⟨o _ _ P.h,P.r,P.g,P.l,P.m⟩
theorem Zeq:∀y∈(["same","under","beneath","sign","nought","both","either","so","never"]:List Str),y∈Z9/\(y∈(["sign","nought"]:List Str)/\WC (.str y)=1/\Jo (.str y)=0/\y∉(["both","either","so","never"]:List Str)\/y∉(["sign","nought"]:List Str)/\y∈(["same","under","beneath"]:List Str)/\WC (.str y)=2/\Jo (.str y)=0/\y∉(["both","either","so","never"]:List Str)\/y∉(["sign","nought"]:List Str)/\y∉(["same","under","beneath"]:List Str)/\WC (.str y)=0/\y∈(["both","either","so","never"]:List Str)/\(y = "never" /\ Jo (.str y)=1\/y ≠ "never" /\ Jo (.str y)=2)):=by decide +kernel
structure Ran(H:Hp)(nm:List Str)(ls:List Nat)(y:Str)(da tw:Addr)(n:Nat)(b:Bool)(q:Nat->List V)(p:Nat->Addr)(row:Nat->List V):Prop where
 d:H da=some (.dK ((List.range n).map fun j=>(.inr (abc j),.ref (p j))))
 w:H tw=some (.tup (.str y::(List.range n).flatMap q))
 P:∀j,j < n->Part H nm ls b (q j) (p j) (row j)
 n1:1<=n
 n2:n<=2
 k:(b=false/\WC (.str y)=n/\Jo (.str y)=0/\0 < n)\/(b=true/\WC (.str y)=0/\Jo (.str y)=n)
 t:decide (y∈(["both","either","so","never"]:List Str))=b
noncomputable def Ze0{α:Type}(x y:α):Nat->α
 | 0=>x
 | _=>y
theorem ua{P:Nat->Prop}(h0:P 0)(h1:P 1):∀j,j < 2->P j
 | 0,_=>h0
 | 1,_=>h1
theorem ub{P:Nat->Prop}(h0:P 0):∀j,j < 1->P j
 | 0,_=>h0
noncomputable def ji(n:Nat)(p:Nat->Addr):List (Key × V):=(List.range n).map fun j=>(.inr (abc j),.ref (p j))
theorem Zer{n:Nat}{p:Nat->Addr}(h:n<=2):∀j,j < n->YH (ji n p) (.inr (abc j))=some (.ref (p j))/\(ji n p)[j]?=some (.inr (abc j),.ref (p j)):=by
 match n,h with
 | 0,_=>exact fun j hj=>absurd hj (Qdc _)
 | 1,_=>exact ub ⟨rfl,rfl⟩
 | 2,_=>exact ua ⟨rfl,rfl⟩ ⟨rfl,rfl⟩
structure KC(H:Hp)(ls:List Nat)(tl pt ts da:Addr)(rowT ws:List V)(n:Nat)(p:Nat->Addr)(row:Nat->List V):Prop where
 l:H tl=some (.lst (ls.map Wu))
 t:H pt=some (.lst rowT)
 s:H ts=some (.tup ws)
 d:Rd H da (.dK (ji n p))
 p:∀j,j < n->H (p j)=some (.lst (row j))
theorem KC.same{H H':Hp}{ls:List Nat}{tl pt ts da:Addr}{rowT ws:List V}{n:Nat}{p:Nat->Addr}{row:Nat->List V}(C:KC H ls tl pt ts da rowT ws n p row)(s:ZT H H'):KC H' ls tl pt ts da rowT ws n p row:=⟨s _ _ C.l,s _ _ C.t,s _ _ C.s,gv C.d s,fun j hj=>s _ _ (C.p j hj)⟩
theorem KC.frz{H:Hp}{ls:List Nat}{tl pt ts da:Addr}{rowT ws:List V}{n:Nat}{p:Nat->Addr}{row:Nat->List V}(C:KC H ls tl pt ts da rowT ws n p row)(o:Obj):KC (upd H da (.frz o (.dK (ji n p)))) ls tl pt ts da rowT ws n p row:=by
 have hne:∀{b:Addr} {u:HO},H b=some u->u≠.dK (ji n p)->(∀o,u≠.frz o (.dK (ji n p)))->upd H da (.frz o (.dK (ji n p))) b=some u:=fun e h1 h2=>by
  have:∀b,b=da->H b=some (.dK (ji n p))\/∃o,H b=some (.frz o (.dK (ji n p))):=fun b z=>by rw [z];exact C.d
  rw [Zj (fun z=>?_)]
  ·exact e
  ·rcases this _ z with h | ⟨o,h⟩
   ·rw [e] at h
    exact h1 (Option.some.inj h)
   ·rw [e] at h
    exact h2 o (Option.some.inj h)
 exact ⟨hne C.l (fun z=>nomatch z) (fun _ z=>nomatch z),hne C.t (fun z=>nomatch z) (fun _ z=>nomatch z),hne C.s (fun z=>nomatch z) (fun _ z=>nomatch z),.inr ⟨o,Za⟩,fun j hj=>hne (C.p j hj) (fun z=>nomatch z) (fun _ z=>nomatch z)⟩
theorem KC.put{H:Hp}{ls:List Nat}{tl pt ts da vd:Addr}{rowT ws:List V}{n:Nat}{p:Nat->Addr}{row:Nat->List V}(C:KC H ls tl pt ts da rowT ws n p row){kv:List (Key × V)}(h:H vd=some (.dK kv))(hne:da≠vd)(u:HO):KC (upd H vd u) ls tl pt ts da rowT ws n p row:=by
 have k:∀{b:Addr} {u':HO},H b=some u'->u'≠.dK kv->upd H vd u b=some u':=fun e h1=>by
  rw [Zj (YC e h h1)]
  exact e
 refine ⟨k C.l (fun z=>nomatch z),k C.t (fun z=>nomatch z),k C.s (fun z=>nomatch z),?_,fun j hj=>k (C.p j hj) (fun z=>nomatch z)⟩
 rcases C.d with e | ⟨o,e⟩
 ·exact .inl (by rw [Zj hne];exact e)
 ·exact .inr ⟨o,by rw [Zj hne];exact e⟩
noncomputable def thr3{α:Type}(x y z:α):Nat->α
 | 0=>x
 | 1=>y
 | _=>z
theorem Zch{P:Nat->Prop}(h0:P 0)(h1:P 1)(h2:P 2):∀j,j < 3->P j
 | 0,_=>h0
 | 1,_=>h1
 | 2,_=>h2
noncomputable def Wd:List Str:=["not","neg","twice","low","and","or","odd","add","sub","pick"]
noncomputable def Xg:List Str:=["same","under","beneath","sign","nought","both","either","so","never"]
theorem Za1:∀y∈Wd,y∈WA:=by decide +kernel
set_option genInjectivity false in
set_option genSizeOfSpec false in
structure Adr where
 a_words_at:Addr
 f_words_at:FuncData
 a_number_of:Addr
 f_number_of:FuncData
 a_sums_behind:Addr
 f_sums_behind:FuncData
 a_claims_behind:Addr
 f_claims_behind:FuncData
 a_remembers:Addr
 f_remembers:FuncData
 a_borrowed:Addr
 f_borrowed:FuncData
 a_out_at_once:Addr
 f_out_at_once:FuncData
 a_state_number:Addr
 f_state_number:FuncData
 a_longest_number:Addr
 f_longest_number:FuncData
 a_bits_at:Addr
 f_bits_at:FuncData
 a_law_cell_at:Addr
 f_law_cell_at:FuncData
 a_law_numbers:Addr
 f_law_numbers:FuncData
 a_law_atom:Addr
 f_law_atom:FuncData
 a_law_word:Addr
 f_law_word:FuncData
 a_law_carries:Addr
 f_law_carries:FuncData
 a_law_one:Addr
 f_law_one:FuncData
 a_law_two:Addr
 f_law_two:FuncData
 a_law_signed:Addr
 f_law_signed:FuncData
 a_law_one_holds:Addr
 f_law_one_holds:FuncData
 a_law_run:Addr
 f_law_run:FuncData
 a_law_number:Addr
 f_law_number:FuncData
 a_parts_of:Addr
 f_parts_of:FuncData
 a_name_columns:Addr
 f_name_columns:FuncData
 a_kept_then:Addr
 f_kept_then:FuncData
 a_out_by_kept:Addr
 f_out_by_kept:FuncData
 a_law_names:Addr
 f_law_names:FuncData
 a_law_sum:Addr
 f_law_sum:FuncData
 a_law_two_hold:Addr
 f_law_two_hold:FuncData
 a_parts_taken:Addr
 f_parts_taken:FuncData
 a_law_holds:Addr
 f_law_holds:FuncData
 a_stepped:Addr
 f_stepped:FuncData
 a_machine_found:Addr
 f_machine_found:FuncData
 a_machine_telling:Addr
 f_machine_telling:FuncData
 a_machine_of:Addr
 f_machine_of:FuncData
 a_claim_machine:Addr
 f_claim_machine:FuncData
 a_law_sums_tied:Addr
 f_law_sums_tied:FuncData
 a_law_claims_tied:Addr
 f_law_claims_tied:FuncData
 a_law:Addr
 f_law:FuncData
 c_machine_telling:Addr
 p_machine_telling:Addr
 g_SUM_PARTS:Addr
 g_SUMS_IN_CLAIM:Addr
 g_CLAIMS_IN_CLAIM:Addr
 g_REMEMBERING:Addr
structure Kg(K:PySem.W.Frag)(w:World)(mg:Str->Option Value)(x:Str)(a:Addr)(l:List (Str × Int)):Prop where
 m:mg x=some (.ref a)
 d:KD K w a l
structure Kt(K:PySem.W.Frag)(mg:Str->Option Value)(x:Str)(a:Addr)(l:List Str):Prop where
 m:mg x=some (.ref a)
 d:∀H,SqT K H a (l.map V.str)
structure Df(K:PySem.W.Frag)(mg:Str->Option Value)(x:Str)(st:Stmt)(ps:List Str)(f:Addr)(fd:FuncData):Prop where
 F:Fun K x x st f fd
 m:mg x=some (.ref f)
 b:Binds K fd ps []
set_option genInjectivity false in
set_option genSizeOfSpec false in
structure Txt(K:PySem.W.Frag)(w:World)(mg:Str->Option Value)(t:Adr):Prop where
 g_SUM_PARTS:Kg K w mg "SUM_PARTS" t.g_SUM_PARTS [("not",1),("neg",1),("twice",1),("low",1),("and",2),("or",2),("odd",2),("add",2),("sub",2),("pick",3)]
 g_SUMS_IN_CLAIM:Kg K w mg "SUMS_IN_CLAIM" t.g_SUMS_IN_CLAIM [("same",2),("under",2),("beneath",2),("sign",1),("nought",1)]
 g_CLAIMS_IN_CLAIM:Kg K w mg "CLAIMS_IN_CLAIM" t.g_CLAIMS_IN_CLAIM [("both",2),("either",2),("so",2),("never",1),("yes",0)]
 g_REMEMBERING:Kt K mg "REMEMBERING" t.g_REMEMBERING ["neg","twice","low","add","sub","same","under","beneath","nought"]
 d_words_at:Df K mg "words_at" Xu ["width"] t.a_words_at t.f_words_at
 d_number_of:Df K mg "number_of" Xc ["bits"] t.a_number_of t.f_number_of
 d_sums_behind:Df K mg "sums_behind" Y1 ["word"] t.a_sums_behind t.f_sums_behind
 d_claims_behind:Df K mg "claims_behind" Ye ["word"] t.a_claims_behind t.f_claims_behind
 d_remembers:Df K mg "remembers" Xd ["word"] t.a_remembers t.f_remembers
 d_borrowed:Df K mg "borrowed" Xv ["one","other","held"] t.a_borrowed t.f_borrowed
 d_out_at_once:Df K mg "out_at_once" Y2 ["word","parts"] t.a_out_at_once t.f_out_at_once
 d_state_number:Df K mg "state_number" Yu ["state","states","numbers"] t.a_state_number t.f_state_number
 d_longest_number:Df K mg "longest_number" ZN ["words"] t.a_longest_number t.f_longest_number
 d_bits_at:Df K mg "bits_at" X5 ["columns","letter"] t.a_bits_at t.f_bits_at
 d_law_cell_at:Df K mg "_law_cell_at" Y3 ["script","k"] t.a_law_cell_at t.f_law_cell_at
 d_law_numbers:Df K mg "_law_numbers" Y4 ["cell","many","most"] t.a_law_numbers t.f_law_numbers
 d_law_atom:Df K mg "_law_atom" Xw ["number","names"] t.a_law_atom t.f_law_atom
 d_law_word:Df K mg "_law_word" Xx ["number","left"] t.a_law_word t.f_law_word
 d_law_carries:Df K mg "_law_carries" Yo ["words"] t.a_law_carries t.f_law_carries
 d_law_one:Df K mg "_law_one" XX ["word","one"] t.a_law_one t.f_law_one
 d_law_two:Df K mg "_law_two" XY ["word","one","other"] t.a_law_two t.f_law_two
 d_law_signed:Df K mg "_law_signed" YJ ["one","width"] t.a_law_signed t.f_law_signed
 d_law_one_holds:Df K mg "_law_one_holds" Yf ["word","one","width"] t.a_law_one_holds t.f_law_one_holds
 d_law_run:Df K mg "_law_run" XZ ["machine","letters"] t.a_law_run t.f_law_run
 d_law_number:Df K mg "_law_number" YK ["bits"] t.a_law_number t.f_law_number
 d_parts_of:Df K mg "parts_of" Xy ["word"] t.a_parts_of t.f_parts_of
 d_name_columns:Df K mg "name_columns" Yb ["names","letters"] t.a_name_columns t.f_name_columns
 d_kept_then:Df K mg "kept_then" Xe ["word","parts","held"] t.a_kept_then t.f_kept_then
 d_out_by_kept:Df K mg "out_by_kept" Y5 ["word","parts","held","then"] t.a_out_by_kept t.f_out_by_kept
 d_law_names:Df K mg "_law_names" Yz ["cell","many"] t.a_law_names t.f_law_names
 d_law_sum:Df K mg "_law_sum" Wa ["numbers","names","most"] t.a_law_sum t.f_law_sum
 d_law_two_hold:Df K mg "_law_two_hold" Yv ["word","one","other","width"] t.a_law_two_hold t.f_law_two_hold
 d_parts_taken:Df K mg "parts_taken" Yp ["stack","word"] t.a_parts_taken t.f_parts_taken
 d_law_holds:Df K mg "_law_holds" Xf ["claim","width","values"] t.a_law_holds t.f_law_holds
 d_stepped:Df K mg "stepped" Wb ["words","columns","place","kept"] t.a_stepped t.f_stepped
 d_machine_found:Df K mg "machine_found" ZU ["names","begin","step_of"] t.a_machine_found t.f_machine_found
 d_machine_telling:Df K mg "machine_telling" Z8 ["words","names","told"] t.a_machine_telling t.f_machine_telling
 d_machine_of:Df K mg "machine_of" YL ["words","names"] t.a_machine_of t.f_machine_of
 d_claim_machine:Df K mg "claim_machine" Yg ["claim","names"] t.a_claim_machine t.f_claim_machine
 d_law_sums_tied:Df K mg "_law_sums_tied" Yh ["word","some","names","letters"] t.a_law_sums_tied t.f_law_sums_tied
 d_law_claims_tied:Df K mg "_law_claims_tied" ZS ["word","some","names","letters"] t.a_law_claims_tied t.f_law_claims_tied
 d_law:Df K mg "law" qI ["script"] t.a_law t.f_law
 k_machine_telling:t.f_machine_telling.code=.ref t.c_machine_telling
 z_abs:mg "abs" = none
 z_enumerate:mg "enumerate" = none
 z_int:mg "int" = none
 z_isinstance:mg "isinstance" = none
 z_len:mg "len" = none
 z_list:mg "list" = none
 z_max:mg "max" = none
 z_min:mg "min" = none
 z_range:mg "range" = none
 z_reversed:mg "reversed" = none
 z_sorted:mg "sorted" = none
 z_tuple:mg "tuple" = none
set_option genInjectivity false in
set_option genSizeOfSpec false in
structure Tbs(mg:Str->Option Value)(base:Heap)(t:Adr):Prop where
 c_machine_telling:PySem.W.CodeHd base t.c_machine_telling t.p_machine_telling
 B:xR mg base
theorem Wq:Z4 ["width","many","bit_number"] ["width"] (Zg Xu):=⟨rfl,rfl,rfl,by decide +kernel,rfl,by decide +kernel,by decide +kernel⟩
theorem XB:Z4 ["bits","number","bit"] ["bits"] (Zg Xc):=⟨rfl,rfl,rfl,by decide +kernel,rfl,by decide +kernel,by decide +kernel⟩
theorem qO:Z4 ["word"] ["word"] (Zg Y1):=⟨rfl,rfl,rfl,by decide +kernel,rfl,by decide +kernel,by decide +kernel⟩
theorem G1:Z4 ["word"] ["word"] (Zg Ye):=⟨rfl,rfl,rfl,by decide +kernel,rfl,by decide +kernel,by decide +kernel⟩
theorem jc:Z4 ["word"] ["word"] (Zg Xd):=⟨rfl,rfl,rfl,by decide +kernel,rfl,by decide +kernel,by decide +kernel⟩
theorem jU:Z4 ["one","other","held"] ["one","other","held"] (Zg Xv):=⟨rfl,rfl,rfl,by decide +kernel,rfl,by decide +kernel,by decide +kernel⟩
theorem qP:Z4 ["word","parts"] ["word","parts"] (Zg Y2):=⟨rfl,rfl,rfl,by decide +kernel,rfl,by decide +kernel,by decide +kernel⟩
theorem qy:Z4 ["state","states","numbers"] ["state","states","numbers"] (Zg Yu):=⟨rfl,rfl,rfl,by decide +kernel,rfl,by decide +kernel,by decide +kernel⟩
theorem JY:Z4 ["words"] ["words"] (Zg ZN):=⟨rfl,rfl,rfl,by decide +kernel,rfl,by decide +kernel,by decide +kernel⟩
theorem vJ:Z4 ["columns","letter"] ["columns","letter"] (Zg X5):=⟨rfl,rfl,rfl,by decide +kernel,rfl,by decide +kernel,by decide +kernel⟩
theorem qQ:Z4 ["script","k"] ["script","k"] (Zg Y3):=⟨rfl,rfl,rfl,by decide +kernel,rfl,by decide +kernel,by decide +kernel⟩
theorem ZA:Z4 ["cell","many","most","found","rest","k","one","two"] ["cell","many","most"] (Zg Y4):=⟨rfl,rfl,rfl,by decide +kernel,rfl,by decide +kernel,by decide +kernel⟩
theorem jV:Z4 ["number","names"] ["number","names"] (Zg Xw):=⟨rfl,rfl,rfl,by decide +kernel,rfl,by decide +kernel,by decide +kernel⟩
theorem Wr:Z4 ["number","left","words","word"] ["number","left"] (Zg Xx):=⟨rfl,rfl,rfl,by decide +kernel,rfl,by decide +kernel,by decide +kernel⟩
theorem qR:Z4 ["words"] ["words"] (Zg Yo):=⟨rfl,rfl,rfl,by decide +kernel,rfl,by decide +kernel,by decide +kernel⟩
theorem vK:Z4 ["word","one"] ["word","one"] (Zg XX):=⟨rfl,rfl,rfl,by decide +kernel,rfl,by decide +kernel,by decide +kernel⟩
theorem vL:Z4 ["word","one","other"] ["word","one","other"] (Zg XY):=⟨rfl,rfl,rfl,by decide +kernel,rfl,by decide +kernel,by decide +kernel⟩
theorem zi:Z4 ["one","width"] ["one","width"] (Zg YJ):=⟨rfl,rfl,rfl,by decide +kernel,rfl,by decide +kernel,by decide +kernel⟩
theorem G4:Z4 ["word","one","width"] ["word","one","width"] (Zg Yf):=⟨rfl,rfl,rfl,by decide +kernel,rfl,by decide +kernel,by decide +kernel⟩
theorem We:Z4 ["machine","letters","state","told","letter"] ["machine","letters"] (Zg XZ):=⟨rfl,rfl,rfl,by decide +kernel,rfl,by decide +kernel,by decide +kernel⟩
theorem Xs:Z4 ["bits","number","k"] ["bits"] (Zg YK):=⟨rfl,rfl,rfl,by decide +kernel,rfl,by decide +kernel,by decide +kernel⟩
theorem jW:Z4 ["word"] ["word"] (Zg Xy):=⟨rfl,rfl,rfl,by decide +kernel,rfl,by decide +kernel,by decide +kernel⟩
theorem YV:Z4 ["names","letters","columns","place","name"] ["names","letters"] (Zg Yb):=⟨rfl,rfl,rfl,by decide +kernel,rfl,by decide +kernel,by decide +kernel⟩
theorem Gi:Z4 ["word","parts","held","one"] ["word","parts","held"] (Zg Xe):=⟨rfl,rfl,rfl,by decide +kernel,rfl,by decide +kernel,by decide +kernel⟩
theorem qS:Z4 ["word","parts","held","then"] ["word","parts","held","then"] (Zg Y5):=⟨rfl,rfl,rfl,by decide +kernel,rfl,by decide +kernel,by decide +kernel⟩
theorem Ya:Z4 ["cell","many","xs","menu","some","base","at","turn"] ["cell","many"] (Zg Yz):=⟨rfl,rfl,rfl,by decide +kernel,rfl,by decide +kernel,by decide +kernel⟩
theorem ZL:Z4 ["numbers","names","most","some","left","number","word","wants","built","part"] ["numbers","names","most"] (Zg Wa):=⟨rfl,rfl,rfl,by decide +kernel,rfl,by decide +kernel,by decide +kernel⟩
theorem qz:Z4 ["word","one","other","width"] ["word","one","other","width"] (Zg Yv):=⟨rfl,rfl,rfl,by decide +kernel,rfl,by decide +kernel,by decide +kernel⟩
theorem qT:Z4 ["stack","word"] ["stack","word"] (Zg Yp):=⟨rfl,rfl,rfl,by decide +kernel,rfl,by decide +kernel,by decide +kernel⟩
theorem YM:Z4 ["claim","width","values","size","told","word","one","other"] ["claim","width","values"] (Zg Xf):=⟨rfl,rfl,rfl,by decide +kernel,rfl,by decide +kernel,by decide +kernel⟩
theorem X0:Z4 ["words","columns","place","kept","stack","later","word","parts","held"] ["words","columns","place","kept"] (Zg Wb):=⟨rfl,rfl,rfl,by decide +kernel,rfl,by decide +kernel,by decide +kernel⟩
theorem ZX:Z4 ["names","begin","step_of","states","numbers","steps","out","told"] ["names","begin","step_of"] (Zg ZU):=⟨rfl,rfl,rfl,by decide +kernel,rfl,by decide +kernel,by decide +kernel⟩
theorem ZM:Z4 ["words","names","told","letters","columns","last_place","step_of","begin"] ["words","names","told"] (Zg Z8):=⟨rfl,rfl,rfl,by decide +kernel,rfl,by decide +kernel,by decide +kernel⟩
theorem zj:Z4 ["words","names"] ["words","names"] (Zg YL):=⟨rfl,rfl,rfl,by decide +kernel,rfl,by decide +kernel,by decide +kernel⟩
theorem G5:Z4 ["claim","names"] ["claim","names"] (Zg Yg):=⟨rfl,rfl,rfl,by decide +kernel,rfl,by decide +kernel,by decide +kernel⟩
theorem Z7:Z4 ["word","some","names","letters","wants","words","values","k","told","short","due"] ["word","some","names","letters"] (Zg Yh):=⟨rfl,rfl,rfl,by decide +kernel,rfl,by decide +kernel,by decide +kernel⟩
theorem Zq:Z4 ["word","some","names","letters","above","whole","one","other","short","truths","told","width","values","name"] ["word","some","names","letters"] (Zg ZS):=⟨rfl,rfl,rfl,by decide +kernel,rfl,by decide +kernel,by decide +kernel⟩
theorem J6:Z4 ["script","shape","names","xs","some","letters","sums","claims","word"] ["script"] (Zg qI):=⟨rfl,rfl,rfl,by decide +kernel,rfl,by decide +kernel,by decide +kernel⟩
theorem WR:Zdw (Zg YS) ["state"] ["step","place","reached"] ["words","columns","last_place","letters","told"]:=⟨by rfl,by rfl,by rfl,by decide +kernel,by decide +kernel,by decide +kernel,by decide +kernel⟩
section
variable {P:Program}{w:World}{K:PySem.W.Frag}{mg:Str->Option Value}{base:Heap}{t:Adr}
inductive J7(vs:List V)(H:Hp)(Q:VK):Prop
 | mk (w:Nat):(vs=[.int w])->(w<=1000)->(Q (.int (2 ^ w)) H)->J7 vs H Q
noncomputable def q5(K:PySem.W.Frag):Sp:=fun vs H Q _=>J7 vs H Q
theorem jX (T:Txt K w mg t) (TB:Tbs mg base t):ZO P w K mg base CX0 1 t.a_words_at t.f_words_at ["width"] (q5 K):=by
 refine T.d_words_at.F.ok Wq (fun vs H Q E h=>?_) (fun cdv A outer s H vs Q E hr h=>?_)
 ·obtain ⟨w,rfl,hw,k⟩:=h
  rfl
 ·obtain ⟨w,rfl,hw,k⟩:=h
  have hu:=Yr hr
  refine ⟨_,@QSs.out _ _ _ (Zb (Zp (i:=1) Wq.nd rfl (Or.inl rfl) Ze)
    (Zb (X8 PassesOwn.never rfl (Xh rfl T.z_range (Zi (qv 0) Zd)) (YI (i:=2) Wq.nd rfl (Or.inl rfl))
    (Zf (Zp (i:=1) Wq.nd rfl (Or.inl rfl) (Zn WE (qv 1) Ze))))
    (Zf (Zt (qv 1))))),?_⟩
  clear hu hr
  try dsimp only [L2.cxK,L2.cxK2]
  refine L2.let3 ?_
  intro U2 U1
  refine ⟨_,rfl,(w:Int),rfl,by lia,by lia,XS (fun i σ H2=>∃v,σ=[some (.int w),some (.int (2 ^ i)),v]/\H2=H) ⟨none,rfl,rfl⟩ ?_ ?_⟩
  ·rintro i σ H2 hi hz_
   refine ZJ fun Gz hGz=>?_
   (refine Oe1a1 hz_ fun v zo76 zo77=>?_;obtain rfl:=zo76;obtain rfl:=zo77;clear hz_)
   refine hGz ?_
   clear hGz Gz
   refine ⟨_,rfl,_,_,rfl,rfl,.inr (.inr ⟨by decide,by decide⟩),some (.int (0 + (i:Int))),?_,rfl⟩
   rw [pow_succ']
   rfl
  ·rintro σ H2 hz_
   refine ZJ fun Gz hGz=>?_
   (refine Oe1a1 hz_ fun v zo78 zo79=>?_;obtain rfl:=zo78;obtain rfl:=zo79;clear hz_)
   refine hGz ?_
   clear hGz Gz
   refine ⟨_,rfl,?_⟩
   rw [Qaz]
   exact k
theorem Za2{ms:List Int}{i:Nat}{x:V}(h:(ms.map V.int)[i]?=some x):∃b,x=V.int b/\ms[i]?=some b:=by
 rw [Qap] at h
 cases e:ms[i]? with
 | none=>rw [e] at h;cases h
 | some b=>rw [e] at h;exact ⟨b,(Option.some.inj h).symm,rfl⟩
inductive WS(K:PySem.W.Frag)(vs:List V)(H:Hp)(Q:VK):Prop
 | mk (p:Addr) (ns:List Int):(vs=[.ref p])->(SqT K H p (ns.map V.int))->(Q (.int (hor ns.reverse)) H)->WS K vs H Q
noncomputable def Gj(K:PySem.W.Frag):Sp:=fun vs H Q _=>WS K vs H Q
theorem jd (T:Txt K w mg t) (TB:Tbs mg base t):ZO P w K mg base CX0 1 t.a_number_of t.f_number_of ["bits"] (Gj K):=by
 refine T.d_number_of.F.ok XB (fun vs H Q E h=>?_) (fun cdv A outer s H vs Q E hr h=>?_)
 ·obtain ⟨p,ns,rfl,hp,k⟩:=h
  rfl
 ·obtain ⟨p,ns,rfl,hp,k⟩:=h
  have hu:=Yr hr
  refine ⟨_,@QSs.out _ _ _ (Zb (Zp (i:=1) XB.nd rfl (Or.inl rfl) Ze)
    (Zb (X8 PassesOwn.never rfl (we rfl T.z_reversed (qv 0)) (YI (i:=2) XB.nd rfl (Or.inl rfl))
    (Zf (Zp (i:=1) XB.nd rfl (Or.inl rfl) (Zn YX (Zn WE (qv 1) Ze) (qv 2)))))
    (Zf (Zt (qv 1))))),?_⟩
  clear hu hr
  try dsimp only [L2.cxK,L2.cxK2]
  refine L2.let3 ?_
  intro U2 U1
  refine ⟨_,rfl,p,_,rfl,hp,wg (K:=K) (a:=p) (xs:=ns.map V.int) (fun i σ H2=>∃v,σ=[some (.ref p),some (.int (hor (ns.reverse.take i))),v]/\H2=H) ⟨none,rfl,rfl⟩ (fun i σ H2 _ ⟨_,_,e⟩=>by rw [e];exact hp) ?_ ?_⟩
  ·rintro i x σ H2 hx hz_
   refine ZJ fun Gz hGz=>?_
   (refine Oe1a1 hz_ fun v zo80 zo81=>?_;obtain rfl:=zo80;obtain rfl:=zo81;clear hz_)
   refine hGz ?_
   clear hGz Gz
   rw [<-List.map_reverse] at hx
   (refine Oe1a1 (Za2 hx) fun b zo82 hb=>?_;obtain rfl:=zo82)
   refine ⟨_,rfl,_,_,rfl,rfl,.inr (.inr ⟨by decide,by decide⟩),_,rfl,_,_,rfl,rfl,some (.int b),?_,rfl⟩
   rw [Zah hb]
   rfl
  ·rintro σ H2 hz_
   refine ZJ fun Gz hGz=>?_
   (refine Oe1a1 hz_ fun v zo83 zo84=>?_;obtain rfl:=zo83;obtain rfl:=zo84;clear hz_)
   refine hGz ?_
   clear hGz Gz
   refine ⟨_,rfl,?_⟩
   rw [Qbl (by rw [Qbv,Qaa];exact Qah _)]
   exact k
inductive Wv(vs:List V)(H:Hp)(Q:VK):Prop
 | mk (k:Key):(vs=[kV k])->(Q (.int (Ji T1 k + Ji T2 k)) H)->Wv vs H Q
noncomputable def WT(K:PySem.W.Frag):Sp:=fun vs H Q _=>Wv vs H Q
theorem qU (T:Txt K w mg t) (TB:Tbs mg base t):ZO P w K mg base CX0 1 t.a_sums_behind t.f_sums_behind ["word"] (WT K):=by
 refine T.d_sums_behind.F.ok qO (fun vs H Q E h=>?_) (fun cdv A outer s H vs Q E hr h=>?_)
 ·obtain ⟨kk,rfl,k⟩:=h
  rfl
 ·obtain ⟨kk,rfl,k⟩:=h
  have hu:=Yr hr
  refine ⟨_,@QSs.out _ _ _ (Zf (Zt (Zn YX (j5 (xJ (v:=.ref t.g_SUM_PARTS) rfl T.g_SUM_PARTS.m rfl) (qv 0) Ze) (j5 (xJ (v:=.ref t.g_SUMS_IN_CLAIM) rfl T.g_SUMS_IN_CLAIM.m rfl) (qv 0) Ze)))),?_⟩
  clear hu hr
  try dsimp only [L2.cxK,L2.cxK2]
  refine ⟨t.g_SUM_PARTS,T1,rfl,T.g_SUM_PARTS.d,_,rfl,kk,rfl,t.g_SUMS_IN_CLAIM,T2,rfl,T.g_SUMS_IN_CLAIM.d,_,rfl,kk,rfl,?_⟩
  rw [kget,kget]
  exact ⟨_,_,rfl,rfl,k⟩
inductive XC(vs:List V)(H:Hp)(Q:VK):Prop
 | mk (k:Key):(vs=[kV k])->(Q (.int (Ji T3 k)) H)->XC vs H Q
noncomputable def Ww(K:PySem.W.Frag):Sp:=fun vs H Q _=>XC vs H Q
theorem G6 (T:Txt K w mg t) (TB:Tbs mg base t):ZO P w K mg base CX0 1 t.a_claims_behind t.f_claims_behind ["word"] (Ww K):=by
 refine T.d_claims_behind.F.ok G1 (fun vs H Q E h=>?_) (fun cdv A outer s H vs Q E hr h=>?_)
 ·obtain ⟨kk,rfl,k⟩:=h
  rfl
 ·obtain ⟨kk,rfl,k⟩:=h
  have hu:=Yr hr
  refine ⟨_,@QSs.out _ _ _ (Zf (Zt (j5 (xJ (v:=.ref t.g_CLAIMS_IN_CLAIM) rfl T.g_CLAIMS_IN_CLAIM.m rfl) (qv 0) Ze))),?_⟩
  clear hu hr
  try dsimp only [L2.cxK,L2.cxK2]
  refine ⟨t.g_CLAIMS_IN_CLAIM,T3,rfl,T.g_CLAIMS_IN_CLAIM.d,_,rfl,kk,rfl,?_⟩
  rw [kget]
  exact k
inductive WU(vs:List V)(H:Hp)(Q:VK):Prop
 | mk (x:V):(vs=[x])->(JK x=true)->(Q (.bl (inV x (allR.map V.str))) H)->WU vs H Q
noncomputable def WH(K:PySem.W.Frag):Sp:=fun vs H Q _=>WU vs H Q
theorem Gk (T:Txt K w mg t) (TB:Tbs mg base t):ZO P w K mg base CX0 1 t.a_remembers t.f_remembers ["word"] (WH K):=by
 refine T.d_remembers.F.ok jc (fun vs H Q E h=>?_) (fun cdv A outer s H vs Q E hr h=>?_)
 ·obtain ⟨x,rfl,hx,k⟩:=h
  rfl
 ·obtain ⟨x,rfl,hx,k⟩:=h
  have hu:=Yr hr
  refine ⟨_,@QSs.out _ _ _ (Zf (Zt (Wk ZH (qv 0) (xJ (v:=.ref t.g_REMEMBERING) rfl T.g_REMEMBERING.m rfl) (by with_unfolding_all rfl)))),?_⟩
  clear hu hr
  try dsimp only [L2.cxK,L2.cxK2]
  exact ⟨_,rfl,t.g_REMEMBERING,_,rfl,.inr (T.g_REMEMBERING.d H),hx,wW _,k⟩
inductive J8(vs:List V)(H:Hp)(Q:VK):Prop
 | mk (a b h:Int):(vs=[.int a,.int b,.int h])->(Q (.int (Zfu a b h)) H)->J8 vs H Q
noncomputable def Jl(K:PySem.W.Frag):Sp:=fun vs H Q _=>J8 vs H Q
theorem q8 (T:Txt K w mg t) (TB:Tbs mg base t):ZO P w K mg base CX0 1 t.a_borrowed t.f_borrowed ["one","other","held"] (Jl K):=by
 refine T.d_borrowed.F.ok jU (fun vs H Q E h=>?_) (fun cdv A outer s H vs Q E hr h=>?_)
 ·obtain ⟨a,b,h,rfl,k⟩:=h
  rfl
 ·obtain ⟨a,b,h,rfl,k⟩:=h
  have hu:=Yr hr
  refine ⟨_,@QSs.out _ _ _ (Zf (Zt (Zn qF (Zn Xl (W9 GS (qv 0)) (qv 1)) (Zn Xl (qv 2) (W9 GS (Zn GR (qv 0) (qv 1))))))),?_⟩
  clear hu hr
  try dsimp only [L2.cxK,L2.cxK2]
  exact ⟨_,rfl,_,rfl,_,rfl,_,_,rfl,rfl,_,rfl,_,rfl,_,rfl,_,_,rfl,rfl,_,rfl,_,_,rfl,rfl,_,_,rfl,rfl,k⟩
inductive Wx(vs:List V)(H:Hp)(Q:VK):Prop
 | mk (y:Str) (p:Addr) (is:List Int):(vs=[.str y,.ref p])->(H p=some (.lst (is.map V.int)))->(y∈gn)->(is.length=gk y)->(∀H',ZT H H'->Q (.int (oaI y is)) H')->Wx vs H Q
noncomputable def WV(K:PySem.W.Frag):Sp:=fun vs H Q _=>Wx vs H Q
theorem qV (T:Txt K w mg t) (TB:Tbs mg base t):ZO P w K mg base CX0 1 t.a_out_at_once t.f_out_at_once ["word","parts"] (WV K):=by
 refine T.d_out_at_once.F.ok qP (fun vs H Q E h=>?_) (fun cdv A outer s H vs Q E hr h=>?_)
 ·obtain ⟨y,p,is,rfl,hp,hy,hl,k⟩:=h
  rfl
 ·obtain ⟨y,p,is,rfl,hp,hy,hl,k⟩:=h
  have hu:=Yr hr
  refine ⟨_,@QSs.out _ _ _ (Zb (ZD (Zr Yc (qv 0) Zh (Z6 _))
    (Zf (Zt (W9 WD Ze))) Z0)
    (Zb (ZD (Zr Yc (qv 0) Zh (Z6 _))
    (Zf (Zt (Z5 Zs (qv 1) Ze (fun _ _=>rfl)))) Z0)
    (Zb (ZD (Zr ZH (qv 0) (ZF (Zi Zh (Zi Zh Zd))) (by with_unfolding_all rfl))
    (Zf (Zt (W9 GS (Z5 Zs (qv 1) Ze (fun _ _=>rfl))))) Z0)
    (Zb (ZD (Zr ZH (qv 0) (ZF (Zi Zh (Zi Zh Zd))) (by with_unfolding_all rfl))
    (Zf (Zt (Zn Xl (Z5 Zs (qv 1) Ze (fun _ _=>rfl)) (Z5 Zs (qv 1) Ze (fun _ _=>rfl))))) Z0)
    (Zb (ZD (Zr ZH (qv 0) (ZF (Zi Zh (Zi Zh Zd))) (by with_unfolding_all rfl))
    (Zf (Zt (Zn qF (Z5 Zs (qv 1) Ze (fun _ _=>rfl)) (Z5 Zs (qv 1) Ze (fun _ _=>rfl))))) Z0)
    (Zb (ZD (Zr Yc (qv 0) Zh (Z6 _))
    (Zf (Zt (Zn GR (Z5 Zs (qv 1) Ze (fun _ _=>rfl)) (Z5 Zs (qv 1) Ze (fun _ _=>rfl))))) Z0)
    (Zb (ZD (Zr Yc (qv 0) Zh (Z6 _))
    (Zf (Zt (Zn qF (W9 GS (Z5 Zs (qv 1) Ze (fun _ _=>rfl))) (Z5 Zs (qv 1) Ze (fun _ _=>rfl))))) Z0)
    (Zf (Zt (Zn qF (Zn Xl (Z5 Zs (qv 1) Ze (fun _ _=>rfl)) (Z5 Zs (qv 1) Ze (fun _ _=>rfl))) (Zn Xl (W9 GS (Z5 Zs (qv 1) Ze (fun _ _=>rfl))) (Z5 Zs (qv 1) Ze (fun _ _=>rfl))))))))))))),?_⟩
  clear hu
  try dsimp only [L2.cxK,L2.cxK2]
  refine L2.let8 ?_
  intro U7 U6 U5 U4 U3 U2 U1
  unfold oaI at k
  refine ⟨_,rfl,rfl,_,rfl,?_⟩
  by_cases h1:y = "yes"
  ·rw [Qad (congrArg V.str h1)]
   rw [Qan h1] at k
   refine YD ?_
   exact ⟨_,rfl,k H (ZT.refl _)⟩
  rw [Qab (fun z=>h1 (by injection z))]
  rw [Qal h1] at k
  refine Yj ⟨_,rfl,rfl,_,rfl,?_⟩
  by_cases h2:y = "sign"
  ·rw [Qad (congrArg V.str h2)]
   rw [Qan h2] at k
   refine YD ?_
   exact ⟨_,rfl,p,_,0,_,rfl,rfl,SqL.of hp,Z3 0 rfl (qj hl (by rw [h2];decide +kernel)),k H (ZT.refl _)⟩
  rw [Qab (fun z=>h2 (by injection z))]
  rw [Qal h2] at k
  refine Yj ⟨_,rfl,by show 2<=sizeLine;decide,fun q hq=>⟨q,_,rfl,.inr (SqT.of Za),rfl,rfl,_,rfl,?_⟩⟩
  show if inV (.str y) ((["not","never"]:List Str).map V.str)=true then _ else _
  rw [Z1]
  have sq:=Zc (o:=.tup [.str "not",.str "never"]) hq
  have pq:=sq _ _ hp
  generalize upd H q (.tup [.str "not",.str "never"])=H1 at *
  by_cases h3:y = "not" \/ y = "never"
  ·rw [Qad (by simp only [Qaj,Qa0,Qcg];exact h3)]
   rw [Qan h3] at k
   refine YD ?_
   exact ⟨_,rfl,p,_,0,_,rfl,rfl,SqL.of pq,Z3 0 rfl (qj hl (by rcases h3 with h | h <;> rw [h] <;> decide +kernel)),_,rfl,k H1 sq⟩
  rw [Qab (by simp only [Qaj,Qa0,Qcg];exact h3)]
  rw [Qal h3] at k
  refine Yj ⟨_,rfl,by show 2<=sizeLine;decide,fun r hr=>⟨r,_,rfl,.inr (SqT.of Za),rfl,rfl,_,rfl,?_⟩⟩
  show if inV (.str y) ((["and","both"]:List Str).map V.str)=true then _ else _
  rw [Z1]
  have sr:=Zc (o:=.tup [.str "and",.str "both"]) hr
  have pr:=sr _ _ pq
  generalize upd H1 r (.tup [.str "and",.str "both"])=H2 at *
  by_cases h4:y = "and" \/ y = "both"
  ·rw [Qad (by simp only [Qaj,Qa0,Qcg];exact h4)]
   rw [Qan h4] at k
   refine YD ?_
   have l2:2<=is.length:=qj hl (by rcases h4 with h | h <;> rw [h] <;> decide +kernel)
   exact ⟨_,rfl,p,_,0,_,rfl,rfl,SqL.of pr,Z3 0 rfl (by lia),_,rfl,p,_,1,_,rfl,rfl,SqL.of pr,Z3 1 rfl l2,_,_,rfl,rfl,k H2 (sq.trans sr)⟩
  rw [Qab (by simp only [Qaj,Qa0,Qcg];exact h4)]
  rw [Qal h4] at k
  refine Yj ⟨_,rfl,by show 2<=sizeLine;decide,fun t1 ht1=>⟨t1,_,rfl,.inr (SqT.of Za),rfl,rfl,_,rfl,?_⟩⟩
  show if inV (.str y) ((["or","either"]:List Str).map V.str)=true then _ else _
  rw [Z1]
  have st1:=Zc (o:=.tup [.str "or",.str "either"]) ht1
  have pt1:=st1 _ _ pr
  generalize upd H2 t1 (.tup [.str "or",.str "either"])=H3 at *
  by_cases h5:y = "or" \/ y = "either"
  ·rw [Qad (by simp only [Qaj,Qa0,Qcg];exact h5)]
   rw [Qan h5] at k
   refine YD ?_
   have l2:2<=is.length:=qj hl (by rcases h5 with h | h <;> rw [h] <;> decide +kernel)
   exact ⟨_,rfl,p,_,0,_,rfl,rfl,SqL.of pt1,Z3 0 rfl (by lia),_,rfl,p,_,1,_,rfl,rfl,SqL.of pt1,Z3 1 rfl l2,_,_,rfl,rfl,k H3 ((sq.trans sr).trans st1)⟩
  rw [Qab (by simp only [Qaj,Qa0,Qcg];exact h5)]
  rw [Qal h5] at k
  refine Yj ⟨_,rfl,rfl,_,rfl,?_⟩
  by_cases h6:y = "odd"
  ·rw [Qad (congrArg V.str h6)]
   rw [Qan h6] at k
   refine YD ?_
   have l2:2<=is.length:=qj hl (by rw [h6];decide +kernel)
   exact ⟨_,rfl,p,_,0,_,rfl,rfl,SqL.of pt1,Z3 0 rfl (by lia),_,rfl,p,_,1,_,rfl,rfl,SqL.of pt1,Z3 1 rfl l2,_,_,rfl,rfl,k H3 ((sq.trans sr).trans st1)⟩
  rw [Qab (fun z=>h6 (by injection z))]
  rw [Qal h6] at k
  refine Yj ⟨_,rfl,rfl,_,rfl,?_⟩
  by_cases h7:y = "so"
  ·rw [Qad (congrArg V.str h7)]
   rw [Qan h7] at k
   refine YD ?_
   have l2:2<=is.length:=qj hl (by rw [h7];decide +kernel)
   exact ⟨_,rfl,p,_,0,_,rfl,rfl,SqL.of pt1,Z3 0 rfl (by lia),_,rfl,_,rfl,p,_,1,_,rfl,rfl,SqL.of pt1,Z3 1 rfl l2,_,_,rfl,rfl,k H3 ((sq.trans sr).trans st1)⟩
  rw [Qab (fun z=>h7 (by injection z))]
  rw [Qal h7] at k
  have l3:3<=is.length:=qj hl (vv y hy h1 h2 h3 h4 h5 h6 h7)
  exact Yj ⟨_,rfl,p,_,0,_,rfl,rfl,SqL.of pt1,Z3 0 rfl (by lia),_,rfl,p,_,1,_,rfl,rfl,SqL.of pt1,Z3 1 rfl (by lia),_,_,rfl,rfl,_,rfl,p,_,0,_,rfl,rfl,SqL.of pt1,Z3 0 rfl (by lia),_,rfl,_,rfl,p,_,2,_,rfl,rfl,SqL.of pt1,Z3 2 rfl l3,_,_,rfl,rfl,_,_,rfl,rfl,k H3 ((sq.trans sr).trans st1)⟩
inductive Wf(vs:List V)(H:Hp)(Q:VK):Prop
 | mk (κ:Type) (dq:DecidableEq κ) (sk:SK κ) (v:V) (st nd:Addr) (k:κ) (l:List κ) (ws:List V):(vs=[v,.ref st,.ref nd])->(H st=some (.lst ws))->(ws.length=l.length)->(sk.dic H nd l)->(sk.at_ H k v)->(l.Nodup)->(l.length < 10000000)->(∀H' ws',H' st=some (.lst ws')->((k∈l/\ws'=ws)\/(k∉l/\ws'=ws++[v]))->sk.dic H' nd (XR l k)->(∀b o,H b=some o->b≠st->b≠nd->H' b=some o)->(∀b,H b=none->H' b=none)->Q (.int ((XR l k).idxOf k:Int)) H')->Wf vs H Q
noncomputable def WI(K:PySem.W.Frag):Sp:=fun vs H Q _=>Wf vs H Q
theorem q9 (T:Txt K w mg t) (TB:Tbs mg base t):ZO P w K mg base CX0 1 t.a_state_number t.f_state_number ["state","states","numbers"] (WI K):=by
 refine T.d_state_number.F.ok qy (fun vs H Q E h=>?_) (fun cdv A outer s H vs Q E hr h=>?_)
 ·obtain ⟨κ,_,sk,v,st,nd,k0,l,ws,rfl,hst,hal,n,hk,hnd,hl,k⟩:=h
  rfl
 ·obtain ⟨κ,_,sk,v,st,nd,k0,l,ws,rfl,hst,hal,n,hk,hnd,hl,k⟩:=h
  have hu:=Yr hr
  refine ⟨_,@QSs.out _ _ _ (Zb (ZD (Zr (OpR.or (wM (yt hr)) (xP hu)) (qv 0) (qv 2) (by with_unfolding_all rfl))
    (Zb (QS.or (Zdu (yt hr) (qv 2) (qv 0) (Zx Zv (by rfl) T.z_len Yk (Zi (qv 1) Zd)) rfl) (Jh hu (qv 2) (qv 0) (Zx Zv (by rfl) T.z_len Yk (Zi (qv 1) Zd)) rfl))
    (Zf (Yd (YE Qak Qaq Qar ZC (qv 1) (Zi (qv 0) Zd))))) Z0)
    (Zf (Zt (QE.or (Zdt (yt hr) (qv 2) (qv 0) (fun _ _=>rfl)) (GY hu (qv 2) (qv 0) (fun _ _=>rfl)))))),?_⟩
  clear hu hr
  try dsimp only [L2.cxK,L2.cxK2]
  refine L2.let2 ?_
  intro U1
  have hsn:st≠nd:=fun z=>by
   refine Oe1a2 (SK.ne n) fun o e _ h=>?_
   rw [<-z,hst] at e
   cases e
   exact h _ rfl
  cases sk with
  | int f inj =>
   have n:H nd=some (.dK (nk (l.map f))):=n
   have hk:v=.int (f k0):=hk
   subst hk
   have hm:f k0∈l.map f↔k0∈l:=⟨fun z=>let ⟨a,ha,e⟩:=Qbb.mp z;inj _ _ e ▸ ha,fun z=>Qbh z⟩
   have hnf:(l.map f).Nodup:=by
    unfold List.Nodup
    rw [Qed]
    exact List.Pairwise.imp (fun hne e=>hne (inj _ _ e)) hnd
   have ei:=Zb4 f k0 (XR l k0) fun a _ e=>inj _ _ e
   have em:=uU f l k0 fun a _ e=>inj _ _ e
   refine ⟨_,rfl,_,rfl,.inr ⟨nd,YH (nk (l.map f)) (.inl (f k0)),rfl,.inl ⟨nk (l.map f),.inl (f k0),.inl n,rfl,rfl⟩,_,rfl,?_⟩⟩
   by_cases hs:k0∈l
   ·have e1:XR l k0=l:=Qan hs
    rw [e1] at k ei
    rw [gC (hm.mpr hs) hnf]
    refine Yj (.inr ⟨_,rfl,_,rfl,nd,_,rfl,.inl ⟨nk (l.map f),.inl (f k0),.inl n,rfl,(gC (hm.mpr hs) hnf).symm⟩,?_⟩)
    rw [ei]
    exact k H ws hst (.inl ⟨hs,rfl⟩) n (fun _ _ e _ _=>e) fun _ e=>e
   ·have e1:XR l k0=l++[k0]:=Qal hs
    have hs':f k0∉l.map f:=fun z=>hs (hm.mp z)
    rw [e1] at k ei em
    rw [Zea hs']
    have hn2:((l++[k0]).map f).Nodup:=by
     rw [<-em]
     exact JO hnf _
    refine YD (.inr ⟨_,rfl,st,_,rfl,.inl (SqL.of hst),_,rfl,_,rfl,nd,_,rfl,wo.k (k:=.inl (f k0)) n (by rw [nk_len,Qaa];exact qm (by lia)),?_⟩)
    rw [hal,show (l.length:Int)=((l.map f).length:Int) by rw [Qaa],nk_put hs']
    have e2:l.map f++[f k0]=(l++[k0]).map f:=by rw [Qbj];rfl
    rw [e2]
    have hst2:upd H nd (.dK (nk ((l++[k0]).map f))) st=some (.lst ws):=by rw [Zj hsn];exact hst
    refine ⟨_,rfl,.inl ⟨rfl,_,SqL.of hst2⟩,_,rfl,st,_,_,rfl,rfl,hst2,qm (by lia),?_⟩
    have hnd3:upd (upd H nd (.dK (nk ((l++[k0]).map f)))) st (.lst (ws++[.int (f k0)])) nd=some (.dK (nk ((l++[k0]).map f))):=by rw [Zj hsn.symm];exact Za
    refine .inr ⟨_,rfl,_,rfl,nd,_,rfl,.inl ⟨_,.inl (f k0),.inl hnd3,rfl,(gC (Qbh (by simp)) hn2).symm⟩,?_⟩
    rw [ei]
    refine k _ (ws++[.int (f k0)]) Za (.inr ⟨hs,rfl⟩) hnd3 (fun b o e h1 h2=>?_) fun b e=>?_
    ·rw [Zj h1,Zj h2]
     exact e
    ·rw [Zj (fun z=>by rw [z,hst] at e;cases e),Zj (fun z=>by rw [z,n] at e;cases e)]
     exact e
  | key kn =>
   have n:jh kn H nd (Wm l):=n
   (have zob:=hk;clear hk;refine Oe1a1 zob fun a zo85 hk=>?_;obtain rfl:=zo85;clear zob)
   refine ⟨_,rfl,_,rfl,.inl ⟨κ,_,kn,nd,a,k0,_,rfl,rfl,n,hk,_,rfl,?_⟩⟩
   by_cases hm:k0∈l
   ·have e1:XR l k0=l:=Qan hm
    have hv:=qa l k0 hm hnd
    rw [e1] at k
    rw [hv]
    exact Yj (.inl ⟨_,rfl,_,rfl,κ,_,kn,nd,a,k0,_,_,rfl,rfl,n,hk,hv,k H ws hst (.inl ⟨hm,rfl⟩) n (fun _ _ e _ _=>e) fun _ e=>e⟩)
   ·have e1:XR l k0=l++[k0]:=Qal hm
    have hv:=xn l k0 hm
    have hn2:(l++[k0]).Nodup:=e1 ▸ JO hnd k0
    rw [e1] at k
    rw [hv]
    refine YD (.inl ⟨_,rfl,st,_,rfl,.inl (SqL.of hst),_,rfl,_,rfl,κ,_,kn,nd,a,k0,_,rfl,rfl,n,hk,hv,?_,fun H2 n2 o2 hx=>?_⟩)
    ·rw [zE]
     exact qm (by lia)
    rw [hal] at n2
    rw [<-xm] at n2
    have hst2:=o2 _ _ hst hsn
    refine ⟨_,rfl,.inl ⟨rfl,_,SqL.of hst2⟩,_,rfl,st,_,_,rfl,rfl,hst2,qm (by lia),?_⟩
    have n3:jh kn (upd H2 st (.lst (ws++[.ref a]))) nd (Wm (l++[k0])):=SK.off (sk:=.key kn) n2 hst2
    have hk2:kn.at_ H2 k0 a:=kn.keep _ _ _ _ (fun b xs e=>o2 b _ e fun z=>by
     refine Oe1a2 (gD n) fun o e3 h3 _=>?_
     rw [z,e3] at e
     cases e
     exact h3 _ rfl) hk
    have hk3:kn.at_ (upd H2 st (.lst (ws++[.ref a]))) k0 a:=kn.keep _ _ _ _ (fun b xs e=>by rw [Zj (YC e hst2 fun z=>nomatch z)];exact e) hk2
    refine .inl ⟨_,rfl,_,rfl,κ,_,kn,nd,a,k0,_,_,rfl,rfl,n3,hk3,qa _ _ (by simp) hn2,k _ (ws++[.ref a]) Za (.inr ⟨hm,rfl⟩) n3 (fun b o e h1 h2=>?_) fun b e=>?_⟩
    ·rw [Zj h1]
     exact o2 b o e h2
    ·obtain ⟨oo,rfl⟩:=hx
     rw [Zj (fun z=>by rw [z,hst] at e;cases e),Zj (fun z=>by
      refine Oe1a1 (gD n) fun o e3 _=>?_
      rw [z,e3] at e
      cases e)]
     exact e
inductive X6(vs:List V)(H:Hp)(Q:VK):Prop
 | mk (tw:Addr) (ws:List V):(vs=[.ref tw])->(H tw=some (.tup ws))->(ws.length<=1000)->((∀w∈ws,(∃y,w=.str y)\/∃z:Int,w=.int z))->(∀(L:Nat) H',(∀z:Int,V.int z∈ws->Builtin.Int.intBits z<=L)->(L=0\/∃z:Int,V.int z∈ws/\L=Builtin.Int.intBits z)->ZT H H'->Q (.int (L:Int)) H')->X6 vs H Q
noncomputable def Wg(K:PySem.W.Frag):Sp:=fun vs H Q _=>X6 vs H Q
theorem JZ (T:Txt K w mg t) (TB:Tbs mg base t):ZO P w K mg base CX0 1 t.a_longest_number t.f_longest_number ["words"] (Wg K):=by
 refine T.d_longest_number.F.ok JY (fun vs H Q E h=>?_) (fun cdv A outer s H vs Q E hr h=>?_)
 ·obtain ⟨tw,ws,rfl,ht,hl,hw,k⟩:=h
  rfl
 ·obtain ⟨tw,ws,rfl,ht,hl,hw,k⟩:=h
  have hu:=Yr hr
  refine ⟨_,@QSs.out _ _ _ (Zf (Zt (Zdz rfl rfl T.z_max (Wl (⟨by rfl,by decide +kernel,by decide +kernel,by rfl,by decide +kernel,by decide +kernel,by rfl,by decide +kernel⟩:YF (Zg ZN) _ ["words"] "word" [] []) (zx (qv 0)) (fun _ _ _ _=>(kX (xf (Zx (show XM _ (.builtin "isinstance") (rIsi K) from xI) (by rfl) T.z_isinstance Wj (Zi (qv 0) (Zi (jr (v:=.ty "int") (by rfl) T.z_int yg rfl) Zd)))))) (fun _ _ _ _=>(show QE _ _ (Zf1 K "int" Zfn (JI 0)) from (Gd PySem.F.plainAttrs_int PySem.F.slot_int_bit_length PySem.F.type_int_bit_length Zd0 (qv 0))))) Ze))),?_⟩
  clear hu hr
  try dsimp only [L2.cxK,L2.cxK2]
  refine ⟨_,rfl,tw,rfl,⟨_,SqT.of ht⟩,GG (K:=K) (a:=tw) (xs:=ws) (fun i zs H'=>zs=(Jj (ws.take i)).map V.int/\H'=H) ⟨rfl,rfl⟩ (fun i zs H' h=>?_) (fun i zs H' h=>by rw [h.2];exact SqT.of ht) (fun i x zs H1 R hR hx h=>?_) (fun zs H1 h p hp=>?_)⟩
  ·rw [h.1,Qaa]
   have:=zR (ws.take i)
   rw [Qav] at this
   exact Qau (Zm (by lia))
  ·obtain ⟨rfl,rfl⟩:=h
   rcases hw x (Qax hx) with ⟨y,rfl⟩ | ⟨z,rfl⟩
   ·refine ⟨_,rfl,_,_,_,_,rfl,.str y,YZ,_,rfl,Yj (hR _ _ ⟨?_,rfl⟩)⟩
    rw [take_snoc hx,qr]
    exact congrArg (List.map V.int) (Qa3 _).symm
   ·refine ⟨_,rfl,_,_,_,_,rfl,.int z,Jg,_,rfl,YD ⟨_,rfl,rfl,z,rfl,rfl,hR _ _ ⟨?_,rfl⟩⟩⟩
    rw [take_snoc hx,qr,Qbj]
    rfl
  ·obtain ⟨rfl,rfl⟩:=h
   have sp:=Zc (o:=.lst ((Jj (ws.take ws.length)).map V.int)) hp
   refine ⟨p,Jj (ws.take ws.length),rfl,SqL.of Za,fun e=>?_,fun m hm hx=>?_⟩
   ·rw [Qbz] at e
    refine k 0 _ (fun z hz=>?_) (.inl rfl) sp
    have:=qt hz
    rw [e] at this
    cases this
   ·rw [Qbz] at hm hx
    (refine Oe1a1 (yF hm) fun z hz zo86=>?_;obtain rfl:=zo86)
    exact k _ _ (fun y hy=>Int.ofNat_le.mp (hx _ (qt hy))) (.inr ⟨z,hz,rfl⟩) sp
inductive Gm(vs:List V)(H:Hp)(Q:VK):Prop
 | mk (p:Addr) (cs:List Int) (l:Nat):(vs=[.ref p,.int (l:Int)])->(H p=some (.lst (cs.map V.int)))->(cs.length<=1000)->(l<=100)->(∀t H',H t=none->H' t=some (.tup ((cs.map fun c=>bt c l).map V.int))->ZT H H'->Q (.ref t) H')->Gm vs H Q
noncomputable def x6(K:PySem.W.Frag):Sp:=fun vs H Q _=>Gm vs H Q
theorem vM (T:Txt K w mg t) (TB:Tbs mg base t):ZO P w K mg base CX0 1 t.a_bits_at t.f_bits_at ["columns","letter"] (x6 K):=by
 refine T.d_bits_at.F.ok vJ (fun vs H Q E h=>?_) (fun cdv A outer s H vs Q E hr h=>?_)
 ·obtain ⟨p,cs,l,rfl,hp,hl,hl2,k⟩:=h
  rfl
 ·obtain ⟨p,cs,l,rfl,hp,hl,hl2,k⟩:=h
  have hu:=Yr hr
  refine ⟨_,@QSs.out _ _ _ (Zf (Zt (Yt ZP (by rfl) T.z_tuple Xq (Zi (Wl (⟨by rfl,by decide +kernel,by decide +kernel,by rfl,by decide +kernel,by decide +kernel,by rfl,by decide +kernel⟩:YF (Zg X5) _ ["columns","letter"] "column" ["letter"] [1]) (XN (qv 0)) (fun _ _ _ _=>Js) (fun _ _ _ _=>(Zn Xl (Zn xa (qv 0) (qv 1)) Ze))) Zd)))),?_⟩
  clear hu hr
  try dsimp only [L2.cxK,L2.cxK2]
  refine ⟨_,rfl,p,rfl,⟨_,SqL.of hp⟩,comp_map (xs:=cs.map V.int) (fI fun c=>V.int (bt c l)) (SqL.of hp) (by rw [Qaa];exact Qau (Zm (by lia))) (fun v hv R hR=>?_) (fun q hq=>?_)⟩
  ·(refine Oe1a1 (Qbb.mp hv) fun c _ zo87=>?_;obtain rfl:=zo87)
   refine ⟨_,rfl,_,rfl,_,_,rfl,rfl,Qbk l,_,_,rfl,rfl,?_⟩
   have e:fI (fun c=>V.int (bt c l)) (V.int c)=V.int (Builtin.bitAnd (c / 2 ^ (l:Int).toNat) 1):=by
    show V.int (bt c l)=_
    rw [and_1,Qaz]
    rfl
   rw [e] at hR
   exact hR
  ·refine ⟨q,_,rfl,.inl ⟨SqL.of Za,fun t ht=>?_⟩⟩
   have s2:=Zc (o:=.lst ((cs.map V.int).map (fI fun c=>V.int (bt c l)))) hq
   refine k t _ (s2.free ht) ?_ (s2.trans (Zc ht))
   rw [Za,Qbw,Qbw]
   rfl
inductive Wy(K:PySem.W.Frag)(vs:List V)(H:Hp)(Q:VK):Prop
 | mk (a:Addr) (ns:List Int) (j:Nat):(vs=[.ref a,.int (j:Int)])->(SqL K H a (ns.map V.int))->(∀v:Int,Q (.int v) H)->Wy K vs H Q
noncomputable def WW(K:PySem.W.Frag):Sp:=fun vs H Q _=>Wy K vs H Q
theorem qW (T:Txt K w mg t) (TB:Tbs mg base t):ZO P w K mg base CX0 1 t.a_law_cell_at t.f_law_cell_at ["script","k"] (WW K):=by
 refine T.d_law_cell_at.F.ok qQ (fun vs H Q E h=>?_) (fun cdv A outer s H vs Q E hr h=>?_)
 ·obtain ⟨a,ns,j,rfl,hS,k⟩:=h
  rfl
 ·obtain ⟨a,ns,j,rfl,hS,k⟩:=h
  have hu:=Yr hr
  refine ⟨_,@QSs.out _ _ _ (Zb (ZD (Zr yW (qv 1) (Zx Zv (by rfl) T.z_len Yk (Zi (qv 0) Zd)) (Z6 _))
    (Zf (Zt (Z5 Zs (qv 0) (qv 1) (fun _ _=>rfl)))) Z0)
    (Zf (Zt Ze))),?_⟩
  clear hu hr
  try dsimp only [L2.cxK,L2.cxK2]
  refine L2.let2 ?_
  intro U1
  refine ⟨_,rfl,_,rfl,a,_,rfl,.inl hS,_,_,rfl,rfl,_,rfl,vR (fun h=>?_) (fun h=>?_)⟩
  ·have hj:j < ns.length:=by
    have:=Qbp h
    rw [Qaa] at this
    lia
   exact ⟨_,rfl,_,rfl,a,_,_,_,rfl,rfl,hS,Xj (by rw [Qap,Qai hj];rfl),k _⟩
  ·exact k 0
inductive Wz(vs:List V)(H:Hp)(Q:VK):Prop
 | mk (cell:Int) (many most:Nat):(vs=[.int cell,.int (many:Int),.int (most:Int)])->(many<=1000)->(1<=most)->(most<=1000003)->(∀p (ns:List Int) H',H p=none->H' p=some (.lst (ns.map V.int))->ns.length=many->(∀x∈ns,0<=x/\x < (most:Int))->ZT H H'->Q (.ref p) H')->Wz vs H Q
noncomputable def XQ(K:PySem.W.Frag):Sp:=fun vs H Q _=>Wz vs H Q
theorem WX (T:Txt K w mg t) (TB:Tbs mg base t):ZO P w K mg base CX0 1 t.a_law_numbers t.f_law_numbers ["cell","many","most"] (XQ K):=by
 refine T.d_law_numbers.F.ok ZA (fun vs H Q E h=>?_) (fun cdv A outer s H vs Q E hr h=>?_)
 ·obtain ⟨cell,many,most,rfl,hmany,hm1,hm2,k⟩:=h
  rfl
 ·obtain ⟨cell,many,most,rfl,hmany,hm1,hm2,k⟩:=h
  have hu:=Yr hr
  refine ⟨_,@QSs.out _ _ _ (Zb (Zp (i:=3) ZA.nd rfl (Or.inl rfl) (Y7 Zd))
    (Zb (Zp (i:=4) ZA.nd rfl (Or.inl rfl) (Zx uv (by rfl) T.z_abs bt_abs (Zi (qv 0) Zd)))
    (Zb (ZD (Zr op_ge (qv 4) (Zn Zba Ze Ze) (Z6 _))
    (Zb (Zp (i:=4) ZA.nd rfl (Or.inl rfl) (Zn XT (qv 4) (Zn Zba Ze Ze)))
    (Zb (X8 PassesOwn.never rfl (Xh rfl T.z_range (Zi (qv 1) Zd)) (YI (i:=5) ZA.nd rfl (Or.inl rfl))
    (Zb (Yd (YE Qak Qaq Qar ZC (qv 3) (Zi (Zn ZV (qv 4) (qv 2)) Zd)))
    (Zf (Zp (i:=4) ZA.nd rfl (Or.inl rfl) (Zn X7 (qv 4) (qv 2))))))
    (Zf (Zt (qv 3))))) Z0)
    (Zb (Zp (i:=6) ZA.nd rfl (Or.inl rfl) (Zn ZV (Zn YX (Zn WE (qv 0) Ze) Ze) Ze))
    (Zb (Zp (i:=7) ZA.nd rfl (Or.inl rfl) (Zn ZV (Zn YX (Zn WE (qv 0) Ze) Ze) Ze))
    (Zb (X8 PassesOwn.never rfl (Xh rfl T.z_range (Zi (qv 1) Zd)) (YI (i:=5) ZA.nd rfl (Or.inl rfl))
    (Zb (Zp (i:=6) ZA.nd rfl (Or.inl rfl) (Zn ZV (Zn YX (Zn YX (Zn WE (qv 6) Ze) (qv 7)) (qv 5)) Ze))
    (Zb (Zp (i:=7) ZA.nd rfl (Or.inl rfl) (Zn ZV (Zn YX (Zn WE (qv 7) (qv 7)) (qv 6)) Ze))
    (Zf (Yd (YE Qak Qaq Qar ZC (qv 3) (Zi (Zn ZV (Zn X7 (Zn YX (qv 6) (qv 7)) Ze) (qv 2)) Zd)))))))
    (Zf (Zt (qv 3))))))))),?_⟩
  clear hu hr
  try dsimp only [L2.cxK,L2.cxK2]
  refine L2.let7 ?_
  intro U6 U5 U4 U3 U2 U1
  refine ⟨by show 0<=sizeLine;decide,fun p hp=>?_⟩
  refine ⟨_,rfl,_,rfl,?_⟩
  refine ⟨_,rfl,_,_,rfl,rfl,⟨by decide,by decide,by decide⟩,_,_,rfl,rfl,_,rfl,vR (fun _=>?_) (fun _=>?_)⟩
  ·refine ⟨_,rfl,_,_,rfl,rfl,⟨by decide,by decide,by decide⟩,_,_,rfl,rfl,?_⟩
   refine ⟨_,rfl,(many:Int),rfl,by lia,by lia,XS (fun i σ H2=>∃(r:Int) (u:Option V) (ns:List Int),σ=[some (.int cell),some (.int many),some (.int most),some (.ref p),some (.int r),u,none,none]/\H2 p=some (.lst (ns.map V.int))/\ns.length=i/\(∀x∈ns,0<=x/\x < (most:Int))/\ZT H H2/\i<=many) ⟨_,none,[],rfl,Za,rfl,(fun _ h=>nomatch h),Zc hp,Qbg _⟩ ?_ ?_⟩
   ·rintro i σ H2 hi hz_
    refine ZJ fun Gz hGz=>?_
    (refine Oe3a5 hz_ fun r u ns zo88 h2 hl hb s2 hi2=>?_;obtain rfl:=zo88;clear hz_)
    refine hGz ?_
    clear hGz Gz
    rw [Qaz] at hi
    refine ⟨_,rfl,.inl ⟨rfl,_,SqL.of h2⟩,_,rfl,_,rfl,_,_,rfl,rfl,(by show (0:Int) < most;lia),p,_,_,rfl,rfl,h2,?_,?_⟩
    ·rw [Qaa,hl]
     exact Zm (by lia)
    ·refine ⟨_,rfl,_,rfl,_,_,rfl,rfl,.of (by lia) (by lia),_,_,ns++[r % most],rfl,?_,?_,?_,?_,hi⟩
     ·rw [Za,Qbj]
      rfl
     ·rw [Qac,hl]
      rfl
     ·exact yx hb ⟨Qa6 _ (by lia),Qaw _ (by lia)⟩
     ·exact ZZ s2 hp
   ·rintro σ H2 hz_
    refine ZJ fun Gz hGz=>?_
    (refine Oe3a5 hz_ fun r u ns zo89 h2 hl hb s2 hi2=>?_;obtain rfl:=zo89;clear hz_)
    refine hGz ?_
    clear hGz Gz
    rw [Qaz] at hl
    exact ⟨_,rfl,k p ns H2 hp h2 hl hb s2⟩
  ·refine ⟨_,rfl,_,_,rfl,rfl,.inr (.inr ⟨by decide,by decide⟩),_,_,rfl,rfl,_,_,rfl,rfl,(by show (0:Int) < 2147483629;decide),?_⟩
   refine ⟨_,rfl,_,_,rfl,rfl,.inr (.inr ⟨by decide,by decide⟩),_,_,rfl,rfl,_,_,rfl,rfl,(by show (0:Int) < 1000000007;decide),?_⟩
   refine ⟨_,rfl,(many:Int),rfl,by lia,by lia,XS (fun i σ H2=>∃(r one two:Int) (u:Option V) (ns:List Int),σ=[some (.int cell),some (.int many),some (.int most),some (.ref p),some (.int r),u,some (.int one),some (.int two)]/\0<=one/\one < 2147483629/\0<=two/\two < 1000000007/\H2 p=some (.lst (ns.map V.int))/\ns.length=i/\(∀x∈ns,0<=x/\x < (most:Int))/\ZT H H2/\i<=many) ⟨_,_,_,none,[],rfl,Qa6 _ (by decide),Qaw _ (by decide),Qa6 _ (by decide),Qaw _ (by decide),Za,rfl,(fun _ h=>nomatch h),Zc hp,Qbg _⟩ ?_ ?_⟩
   ·rintro i σ H2 hi hz_
    refine ZJ fun Gz hGz=>?_
    (refine Oe5a9 hz_ fun r one two u ns zo0 o0 o1 t0 t1 h2 hl hb s2 hi2=>?_;obtain rfl:=zo0;clear hz_)
    refine hGz ?_
    clear hGz Gz
    rw [Qaz] at hi
    refine ⟨_,rfl,_,_,rfl,rfl,.inr (.inr ⟨by decide,by decide⟩),_,rfl,_,_,rfl,rfl,_,rfl,_,_,rfl,rfl,_,_,rfl,rfl,(by show (0:Int) < 2147483629;decide),?_⟩
    try dsimp only
    generalize h1e:(one * 69069 + two + (0 + (i:Int))) % 2147483629=one'
    have p0:0<=one':=by lia
    have p1:one' < 2147483629:=by lia
    refine ⟨_,rfl,_,rfl,_,_,rfl,rfl,.inr (.inl ⟨by lia,by lia⟩),_,rfl,_,_,rfl,rfl,_,_,rfl,rfl,(by show (0:Int) < 1000000007;decide),?_⟩
    try dsimp only
    generalize h2e:(two * two + one') % 1000000007=two'
    have q0:0<=two':=by lia
    have q1:two' < 1000000007:=by lia
    refine ⟨_,rfl,.inl ⟨rfl,_,SqL.of h2⟩,_,rfl,_,rfl,_,_,rfl,rfl,_,_,rfl,rfl,.of (by decide) (by decide),_,rfl,_,_,rfl,rfl,(by show (0:Int) < most;lia),p,_,_,rfl,rfl,h2,?_,?_⟩
    ·rw [Qaa,hl]
     exact Zm (by lia)
    ·refine ⟨_,one',two',_,ns++[(one' + two') / 16 % most],rfl,p0,p1,q0,q1,?_,?_,?_,?_,hi⟩
     ·rw [Za,Qbj]
      rfl
     ·rw [Qac,hl]
      rfl
     ·exact yx hb ⟨Qa6 _ (by lia),Qaw _ (by lia)⟩
     ·exact ZZ s2 hp
   ·rintro σ H2 hz_
    refine ZJ fun Gz hGz=>?_
    (refine Oe5a9 hz_ fun r one two u ns zo1 o0 o1 t0 t1 h2 hl hb s2 hi2=>?_;obtain rfl:=zo1;clear hz_)
    refine hGz ?_
    clear hGz Gz
    rw [Qaz] at hl
    exact ⟨_,rfl,k p ns H2 hp h2 hl hb s2⟩
inductive J9(vs:List V)(H:Hp)(Q:VK):Prop
 | mk (n:Int) (tn:Addr) (ys:List Str):(vs=[.int n,.ref tn])->(0<=n)->(H tn=some (.tup (ys.map V.str)))->(ys.length<=1000)->(∀p w H',H p=none->H' p=some (.tup [w])->zI ys w->ZT H H'->Q (.ref p) H')->J9 vs H Q
noncomputable def Jm(K:PySem.W.Frag):Sp:=fun vs H Q _=>J9 vs H Q
theorem jY (T:Txt K w mg t) (TB:Tbs mg base t):ZO P w K mg base CX0 1 t.a_law_atom t.f_law_atom ["number","names"] (Jm K):=by
 refine T.d_law_atom.F.ok jV (fun vs H Q E h=>?_) (fun cdv A outer s H vs Q E hr h=>?_)
 ·obtain ⟨n,tn,ys,rfl,hn,ht,hl,k⟩:=h
  rfl
 ·obtain ⟨n,tn,ys,rfl,hn,ht,hl,k⟩:=h
  have hu:=Yr hr
  refine ⟨_,@QSs.out _ _ _ (Zb (ZD (kW (kU (Zr yW (Zn ZV (qv 0) Ze) Ze (Z6 _)) (jt (Zr Ze9 (Zx Zv (by rfl) T.z_len Yk (Zi (qv 1) Zd)) Ze (Z6 _)))))
    (Zf (Zt (ZF (Zi (Z5 YQ (qv 1) (Zn ZV (Zn X7 (qv 0) Ze) (Zx Zv (by rfl) T.z_len Yk (Zi (qv 1) Zd))) (fun _ _=>rfl)) Zd)))) Z0)
    (Zb (ZD (Zr Yc (Zn ZV (qv 0) Ze) Ze (Z6 _))
    (Zf (Zt (ZF (Zi (Zn ZV (Zn X7 (qv 0) Ze) Ze) Zd)))) Z0)
    (Zf (Zt (ZF (Zi (Zn ZV (Zn X7 (qv 0) Ze) Ze) Zd)))))),?_⟩
  clear hu hr
  try dsimp only [L2.cxK,L2.cxK2]
  refine L2.let3 ?_
  intro U2 U1
  have fin:∀z:Int,0<=z->z < 1000->∀p,H p=none->Q (.ref p) (upd H p (.tup [.int z])):=fun z h0 h1 p hp=>k p _ _ hp Za (.inr ⟨z,rfl,h0,h1⟩) (Zc hp)
  have rest:U1 { nx:=fun _ H'=>Q .non H',rt:=Q } [some (.int n),some (.ref tn)] H:=by
   refine ⟨_,rfl,_,_,rfl,rfl,(by show (0:Int) < 20;decide),rfl,_,rfl,vR (fun _=>?_) (fun _=>?_)⟩
   ·refine ⟨_,rfl,_,_,rfl,rfl,.of (by decide) (by decide),_,_,rfl,rfl,(by show (0:Int) < 3;decide),by show 1<=sizeLine;decide,fun p hp=>?_⟩
    exact fin _ (Qa6 _ (by decide)) (by have:=Qaw (n / 20) (show (0:Int) < 3 by decide);lia) p hp
   ·refine ⟨_,rfl,_,_,rfl,rfl,.of (by decide) (by decide),_,_,rfl,rfl,(by show (0:Int) < 1000;decide),by show 1<=sizeLine;decide,fun p hp=>?_⟩
    exact fin _ (Qa6 _ (by decide)) (Qaw _ (by decide)) p hp
  refine ⟨_,rfl,_,_,rfl,rfl,(by show (0:Int) < 20;decide),_,_,rfl,rfl,_,rfl,vR (fun _=>?_) (fun _=>?_)⟩
  ·refine ⟨_,rfl,tn,_,rfl,.inr (SqT.of ht),_,_,rfl,rfl,_,rfl,vR (fun hg=>?_) (fun _=>rest)⟩
   have hpos:0 < ys.length:=by
    have:=Qbp hg
    rw [Qaa] at this
    lia
   have hp:(0:Int) < ((ys.map V.str).length:Int):=by rw [Qaa];lia
   (refine Oe1a1 (J0 (ys:=ys) (i:=n / 20 % ((ys.map V.str).length:Int)) (Qa6 _ (by lia)) (by have:=Qaw (n / 20) hp;rw [Qaa] at this ⊢;exact this)) fun y hy ey=>?_)
   exact ⟨_,rfl,_,rfl,_,_,rfl,rfl,.of (by decide) (by decide),_,rfl,tn,_,rfl,.inr (SqT.of ht),_,_,rfl,rfl,hp,tn,_,_,_,rfl,rfl,SqT.of ht,ey,by show 1<=sizeLine;decide,fun p hp=>k p _ _ hp Za (.inl ⟨y,hy,rfl⟩) (Zc hp)⟩
  ·exact Yj rest
inductive JA(vs:List V)(H:Hp)(Q:VK):Prop
 | mk (n l:Int):(vs=[.int n,.int l])->(0<=n)->(∀(y:Str) H',(y = "" \/ y∈WA)->(l=0->y∉Gh)->ZT H H'->Q (.str y) H')->JA vs H Q
noncomputable def qA(K:PySem.W.Frag):Sp:=fun vs H Q _=>JA vs H Q
noncomputable def wdA:List Str:=["","","","","","","not","neg","twice","low","and","or","odd","add","sub"]
noncomputable def wdB:List Str:=["add","sub","pick","pick","odd"]
noncomputable def Zci:List Str:=["","","","","","","not","neg","twice","low","and","or","odd","add","sub","add","sub","pick","pick","odd"]
theorem wrd_ok:∀y∈Zci,y = "" \/ y∈WA:=by decide +kernel
theorem jZ (T:Txt K w mg t) (TB:Tbs mg base t):ZO P w K mg base CX0 1 t.a_law_word t.f_law_word ["number","left"] (qA K):=by
 refine T.d_law_word.F.ok Wr (fun vs H Q E h=>?_) (fun cdv A outer s H vs Q E hr h=>?_)
 ·obtain ⟨n,l,rfl,hn,k⟩:=h
  rfl
 ·obtain ⟨n,l,rfl,hn,k⟩:=h
  have hu:=Yr hr
  refine ⟨_,@QSs.out _ _ _ (Zb (Zp (i:=2) Wr.nd rfl (Or.inl rfl) (Y7 (Zi Zh (Zi Zh (Zi Zh (Zi Zh (Zi Zh (Zi Zh (Zi Zh (Zi Zh (Zi Zh (Zi Zh (Zi Zh (Zi Zh (Zi Zh (Zi Zh (Zi Zh Zd)))))))))))))))))
    (Zb (Zp (i:=2) Wr.nd rfl (Or.inl rfl) (Zn xc (qv 2) (Y7 (Zi Zh (Zi Zh (Zi Zh (Zi Zh (Zi Zh Zd))))))))
    (Zb (Zp (i:=3) Wr.nd rfl (Or.inl rfl) (Z5 Zs (qv 2) (Zn ZV (qv 0) Ze) (fun _ _=>rfl)))
    (Zb (ZD (kW (kU (Zr Yc (qv 1) Ze (Z6 _)) (jt (Zr ZH (qv 3) (ZF (Zi Zh (Zi Zh (Zi Zh Zd)))) (by with_unfolding_all rfl)))))
    (Zf (Zt Zh)) Z0)
    (Zb (ZD (kW (kU (Zr Yc (qv 1) Ze (Z6 _)) (jt (Zr ZH (qv 3) (ZF (Zi Zh (Zi Zh Zd))) (by with_unfolding_all rfl)))))
    (Zf (Zt (Z5 Zs (Y7 (Zi Zh (Zi Zh (Zi Zh Zd)))) (Zn ZV (Zn X7 (qv 0) Ze) Ze) (fun _ _=>rfl)))) Z0)
    (Zf (Zt (qv 3)))))))),?_⟩
  clear hu hr
  try dsimp only [L2.cxK,L2.cxK2]
  refine L2.let6 ?_
  intro U5 U4 U3 U2 U1
  have b20:0<=n % 20/\n % 20 < 20:=⟨Qa6 _ (by decide),Qaw _ (by decide)⟩
  refine ⟨by show 15<=sizeLine;decide,fun m1 hm1=>Zk ⟨_,rfl,by show 5<=sizeLine;decide,fun m2 hm2=>⟨m1,m2,_,_,rfl,rfl,Zc hm2 _ _ Za,Za,by show 20<=sizeLine;decide,fun m hm=>Zk ?_⟩⟩⟩
  have s1:ZT H (upd (upd (upd H m1 (.lst (wdA.map V.str))) m2 (.lst (wdB.map V.str))) m (.lst (Zci.map V.str))):=(Zc (o:=.lst (wdA.map V.str)) hm1).trans ((Zc (o:=.lst (wdB.map V.str)) hm2).trans (Zc (o:=.lst (Zci.map V.str)) hm))
  have hm':upd (upd (upd H m1 (.lst (wdA.map V.str))) m2 (.lst (wdB.map V.str))) m (.lst (Zci.map V.str)) m=some (.lst (Zci.map V.str)):=Za
  show U2 _ _ (upd (upd (upd H m1 (.lst (wdA.map V.str))) m2 (.lst (wdB.map V.str))) m (.lst (Zci.map V.str)))
  generalize upd (upd (upd H m1 (.lst (wdA.map V.str))) m2 (.lst (wdB.map V.str))) m (.lst (Zci.map V.str))=H1 at *
  refine Oe1a1 (J0 (ys:=Zci) (i:=n % 20) b20.1 b20.2) fun y hy ey=>?_
  have hyw:=wrd_ok y hy
  refine ⟨_,rfl,_,rfl,_,_,rfl,rfl,(by show (0:Int) < 20;decide),m,_,_,_,rfl,rfl,SqL.of hm',ey,Zk ?_⟩
  have last:∀(H2:Hp),ZT H H2->(l=0->y∉Gh)->U5 { nx:=fun _ H'=>Q .non H',rt:=Q } [some (.int n),some (.int l),some (.ref m),some (.str y)] H2:=fun H2 s2 h=>⟨_,rfl,k y H2 hyw h s2⟩
  have r1:∀z:Str,z∈Gh↔(z∈(["neg","twice","low"]:List Str)\/z∈(["add","sub"]:List Str)):=fun z=>by
   unfold Gh
   simp only [Qaj,Qa0,Qcg]
   constructor
   ·rintro (h | h | h | h | h) <;> simp [h]
   ·rintro ((h | h | h) | (h | h)) <;> simp [h]
  have two:∀(H2:Hp),ZT H H2->(l=0->y∉(["neg","twice","low"]:List Str))->U4 { nx:=fun _ H'=>Q .non H',rt:=Q } [some (.int n),some (.int l),some (.ref m),some (.str y)] H2:=fun H2 s2 h=>by
   refine ⟨_,rfl,rfl,_,rfl,?_⟩
   by_cases hl:l=0
   ·rw [Qad (congrArg V.int hl)]
    refine YD ⟨_,rfl,by show 2<=sizeLine;decide,fun q hq=>⟨q,_,rfl,.inr (SqT.of Za),rfl,rfl,_,rfl,?_⟩⟩
    show if inV (.str y) ((["add","sub"]:List Str).map V.str)=true then _ else _
    rw [Z1]
    have s3:=s2.trans (Zc (o:=.tup [.str "add",.str "sub"]) hq)
    by_cases h2:y∈(["add","sub"]:List Str)
    ·rw [Qad h2]
     refine Oe1a1 (J0 (ys:=["and","or","odd"]) (i:=n / 20 % 3) (Qa6 _ (by decide)) (Qaw _ (by decide))) fun z hz ez=>?_
     refine YD ⟨by show 3<=sizeLine;decide,fun g hg=>⟨_,rfl,_,_,rfl,rfl,.of (by decide) (by decide),_,_,rfl,rfl,(by show (0:Int) < 3;decide),g,_,_,_,rfl,rfl,SqL.of Za,ez,?_⟩⟩
     obtain ⟨g1,g2⟩:=(by decide +kernel:∀z∈(["and","or","odd"]:List Str),z∈WA/\z∉Gh) z hz
     exact k z _ (.inr g1) (fun _=>g2) (s3.trans (Zc hg))
    ·rw [Qab h2]
     exact Yj (last _ s3 fun h0 z=>((r1 y).mp z).elim (h h0) h2)
   ·rw [Qab fun z=>hl (by injection z)]
    exact Yj (last _ s2 fun h0=>absurd h0 hl)
  refine ⟨_,rfl,rfl,_,rfl,?_⟩
  by_cases hl:l=0
  ·rw [Qad (congrArg V.int hl)]
   refine YD ⟨_,rfl,by show 3<=sizeLine;decide,fun q hq=>⟨q,_,rfl,.inr (SqT.of Za),rfl,rfl,_,rfl,?_⟩⟩
   show if inV (.str y) ((["neg","twice","low"]:List Str).map V.str)=true then _ else _
   rw [Z1]
   have s3:=s1.trans (Zc (o:=.tup [.str "neg",.str "twice",.str "low"]) hq)
   by_cases h2:y∈(["neg","twice","low"]:List Str)
   ·rw [Qad h2]
    exact YD (k "not" _ (.inr (by decide +kernel)) (fun _=>by decide +kernel) s3)
   ·rw [Qab h2]
    exact Yj (two _ s3 fun _=>h2)
  ·rw [Qab fun z=>hl (by injection z)]
   exact Yj (two _ s1 fun h0=>absurd h0 hl)
inductive W0(vs:List V)(H:Hp)(Q:VK):Prop
 | mk (p:Addr) (ws:List V):(vs=[.ref p])->((H p=some (.lst ws)\/H p=some (.tup ws)))->((∀w∈ws,(∃y,w=.str y)\/∃z,w=.int z))->(ws.length<=100)->(∀H',ZT H H'->Q (.int (ws.filter jH).length) H')->W0 vs H Q
noncomputable def WY(K:PySem.W.Frag):Sp:=fun vs H Q _=>W0 vs H Q
theorem qX (T:Txt K w mg t) (TB:Tbs mg base t):ZO P w K mg base CX0 1 t.a_law_carries t.f_law_carries ["words"] (WY K):=by
 refine T.d_law_carries.F.ok qR (fun vs H Q E h=>?_) (fun cdv A outer s H vs Q E hr h=>?_)
 ·obtain ⟨p,ws,rfl,hp,hw,hl,k⟩:=h
  rfl
 ·obtain ⟨p,ws,rfl,hp,hw,hl,k⟩:=h
  have hu:=Yr hr
  refine ⟨_,@QSs.out _ _ _ (Zf (Zt (Zx Zv (by rfl) T.z_len Yk (Zi (Wl (⟨by rfl,by decide +kernel,by decide +kernel,by rfl,by decide +kernel,by decide +kernel,by rfl,by decide +kernel⟩:YF (Zg Yo) _ ["words"] "word" [] []) (QI.or (XN (qv 0)) (zx (qv 0))) (fun _ _ _ _=>(kX (Zr (show OpR _ (compareOp .In) (rIn K false) from ZH) (qv 0) (ZF (Zi Zh (Zi Zh (Zi Zh (Zi Zh (Zi Zh Zd)))))) (by with_unfolding_all rfl)))) (fun _ _ _ _=>(qv 0))) Zd)))),?_⟩
  clear hu
  try dsimp only [L2.cxK,L2.cxK2]
  have hin:∀x∈ws,JK x=true/\inV x ((["add","sub","neg","twice","low"]:List Str).map V.str)=jH x:=fun x hx=>by
   rcases hw x hx with ⟨y,rfl⟩ | ⟨z,rfl⟩
   ·refine ⟨rfl,?_⟩
    rw [Z1]
    show decide _=decide _
    refine Qci.mpr ?_
    unfold Gh
    simp only [Qaj,Qa0,Qcg]
    constructor
    ·rintro (h | h | h | h | h) <;> simp [h]
    ·rintro (h | h | h | h | h) <;> simp [h]
   ·exact ⟨rfl,ql z _⟩
  have fin:∀(zs:List V) (H1:Hp),zs=(ws.take ws.length).filter jH/\ZT H H1->∀q,H1 q=none->(tCB (fun xs H Q=>∃p ys,xs=[V.ref p]/\(SqL K H p ys\/SqT K H p ys)/\Q (V.int ys.length) H) (fun _ H Q=>Q [.ref q] H)) [] (upd H1 q (.lst zs)) Q:=by
   rintro zs H1 hz_ q hq
   refine ZJ fun Gz hGz=>?_
   obtain ⟨rfl,s1⟩:=hz_
   refine hGz ?_
   clear hGz Gz
   refine ⟨q,_,rfl,.inl (SqL.of Za),?_⟩
   rw [Qbz]
   exact k _ (s1.trans (Zc hq))
  have long:∀i,((ws.take i).filter jH).length<=sizeLine:=fun i=>Qau (Zm (Qbe (Qc9 _ _) (by rw [Qav];lia)))
  have grow:∀(i:Nat) (x:V),ws[i]?=some x->((ws.take (i + 1)).filter jH)=if jH x=true then (ws.take i).filter jH++[x] else (ws.take i).filter jH:=fun i x hx=>by
   rw [take_snoc hx,Qc7,Qcm]
   split
   ·rfl
   ·rw [List.filter_nil,Qa3]
  rcases hp with hp | hp
  ·refine .inl ⟨_,rfl,p,rfl,⟨_,SqL.of hp⟩,Jt (K:=K) (a:=p) (xs:=ws) (fun i zs H'=>zs=(ws.take i).filter jH/\ZT H H') ⟨rfl,ZT.refl _⟩ (fun i zs H' h=>by rw [h.1];exact long i) (fun i zs H' h=>SqL.of (h.2 _ _ hp)) (fun i x zs H1 R hR hx h=>?_) (fun zs H1 h q hq=>fin zs H1 h q hq)⟩
   obtain ⟨rfl,s1⟩:=h
   obtain ⟨f1,f2⟩:=hin x (Qax hx)
   refine ⟨_,rfl,by show 5<=sizeLine;decide,fun q hq=>⟨q,_,rfl,.inr (SqT.of Za),f1,rfl,_,rfl,?_⟩⟩
   show if inV x ((["add","sub","neg","twice","low"]:List Str).map V.str)=true then _ else _
   rw [f2]
   have s2:=s1.trans (Zc (o:=.tup [.str "add",.str "sub",.str "neg",.str "twice",.str "low"]) hq)
   have g:=grow i x hx
   by_cases hr:jH x=true
   ·rw [Qan hr] at g ⊢
    exact ⟨_,rfl,hR _ _ ⟨g.symm,s2⟩⟩
   ·rw [Qal hr] at g ⊢
    exact hR _ _ ⟨g.symm,s2⟩
  ·refine .inr ⟨_,rfl,p,rfl,⟨_,SqT.of hp⟩,GG (K:=K) (a:=p) (xs:=ws) (fun i zs H'=>zs=(ws.take i).filter jH/\ZT H H') ⟨rfl,ZT.refl _⟩ (fun i zs H' h=>by rw [h.1];exact long i) (fun i zs H' h=>SqT.of (h.2 _ _ hp)) (fun i x zs H1 R hR hx h=>?_) (fun zs H1 h q hq=>fin zs H1 h q hq)⟩
   obtain ⟨rfl,s1⟩:=h
   obtain ⟨f1,f2⟩:=hin x (Qax hx)
   refine ⟨_,rfl,by show 5<=sizeLine;decide,fun q hq=>⟨q,_,rfl,.inr (SqT.of Za),f1,rfl,_,rfl,?_⟩⟩
   show if inV x ((["add","sub","neg","twice","low"]:List Str).map V.str)=true then _ else _
   rw [f2]
   have s2:=s1.trans (Zc (o:=.tup [.str "add",.str "sub",.str "neg",.str "twice",.str "low"]) hq)
   have g:=grow i x hx
   by_cases hr:jH x=true
   ·rw [Qan hr] at g ⊢
    exact ⟨_,rfl,hR _ _ ⟨g.symm,s2⟩⟩
   ·rw [Qal hr] at g ⊢
    exact hR _ _ ⟨g.symm,s2⟩
inductive Gn(vs:List V)(H:Hp)(Q:VK):Prop
 | mk (y:Str) (a:Int):(vs=[.str y,.int a])->(Q (.int (Zf4 y a)) H)->Gn vs H Q
noncomputable def x8(K:PySem.W.Frag):Sp:=fun vs H Q _=>Gn vs H Q
theorem vN (T:Txt K w mg t) (TB:Tbs mg base t):ZO P w K mg base CX0 1 t.a_law_one t.f_law_one ["word","one"] (x8 K):=by
 refine T.d_law_one.F.ok vK (fun vs H Q E h=>?_) (fun cdv A outer s H vs Q E hr h=>?_)
 ·obtain ⟨y,a,rfl,k⟩:=h
  rfl
 ·obtain ⟨y,a,rfl,k⟩:=h
  have hu:=Yr hr
  refine ⟨_,@QSs.out _ _ _ (Zb (ZD (Zr Yc (qv 0) Zh (Z6 _))
    (Zf (Zt (Zn XT (W9 WD Ze) (qv 1)))) Z0)
    (Zb (ZD (Zr Yc (qv 0) Zh (Z6 _))
    (Zf (Zt (W9 WD (qv 1)))) Z0)
    (Zb (ZD (Zr Yc (qv 0) Zh (Z6 _))
    (Zf (Zt (Zn WE Ze (qv 1)))) Z0)
    (Zf (Zt (Zn Xl (qv 1) (W9 WD (qv 1)))))))),?_⟩
  clear hu hr
  try dsimp only [L2.cxK,L2.cxK2]
  refine L2.let4 ?_
  intro U3 U2 U1
  unfold Zf4 at k
  refine ⟨_,rfl,rfl,_,rfl,?_⟩
  by_cases h1:y = "not"
  ·rw [Qad (congrArg V.str h1)]
   rw [Qan h1,show Builtin.bitNot a=-1 - a by unfold Builtin.bitNot;lia] at k
   exact YD ⟨1,rfl,_,rfl,_,_,rfl,rfl,k⟩
  rw [Qab (fun z=>h1 (by injection z))]
  rw [Qal h1] at k
  refine Yj ⟨_,rfl,rfl,_,rfl,?_⟩
  by_cases h2:y = "neg"
  ·rw [Qad (congrArg V.str h2)]
   rw [Qan h2] at k
   exact YD ⟨_,rfl,_,rfl,k⟩
  rw [Qab (fun z=>h2 (by injection z))]
  rw [Qal h2] at k
  refine Yj ⟨_,rfl,rfl,_,rfl,?_⟩
  by_cases h3:y = "twice"
  ·rw [Qad (congrArg V.str h3)]
   rw [Qan h3,show a + a=2 * a by lia] at k
   exact YD ⟨_,rfl,_,_,rfl,rfl,.inr (.inl ⟨by decide,by decide⟩),k⟩
  rw [Qab (fun z=>h3 (by injection z))]
  rw [Qal h3] at k
  exact Yj ⟨_,rfl,_,rfl,_,rfl,_,_,rfl,rfl,k⟩
inductive Gp(vs:List V)(H:Hp)(Q:VK):Prop
 | mk (y:Str) (a b:Int):(vs=[.str y,.int a,.int b])->(Q (.int (Zf5 y a b)) H)->Gp vs H Q
noncomputable def x9(K:PySem.W.Frag):Sp:=fun vs H Q _=>Gp vs H Q
theorem vO (T:Txt K w mg t) (TB:Tbs mg base t):ZO P w K mg base CX0 1 t.a_law_two t.f_law_two ["word","one","other"] (x9 K):=by
 refine T.d_law_two.F.ok vL (fun vs H Q E h=>?_) (fun cdv A outer s H vs Q E hr h=>?_)
 ·obtain ⟨y,a,b,rfl,k⟩:=h
  rfl
 ·obtain ⟨y,a,b,rfl,k⟩:=h
  have hu:=Yr hr
  refine ⟨_,@QSs.out _ _ _ (Zb (ZD (Zr Yc (qv 0) Zh (Z6 _))
    (Zf (Zt (Zn Xl (qv 1) (qv 2)))) Z0)
    (Zb (ZD (Zr Yc (qv 0) Zh (Z6 _))
    (Zf (Zt (Zn qF (qv 1) (qv 2)))) Z0)
    (Zb (ZD (Zr Yc (qv 0) Zh (Z6 _))
    (Zf (Zt (Zn GR (qv 1) (qv 2)))) Z0)
    (Zb (ZD (Zr Yc (qv 0) Zh (Z6 _))
    (Zf (Zt (Zn YX (qv 1) (qv 2)))) Z0)
    (Zf (Zt (Zn XT (qv 1) (qv 2)))))))),?_⟩
  clear hu hr
  try dsimp only [L2.cxK,L2.cxK2]
  refine L2.let5 ?_
  intro U4 U3 U2 U1
  unfold Zf5 at k
  refine ⟨_,rfl,rfl,_,rfl,?_⟩
  by_cases h1:y = "and"
  ·rw [Qad (congrArg V.str h1)]
   rw [Qan h1] at k
   exact YD ⟨_,rfl,_,rfl,_,_,rfl,rfl,k⟩
  rw [Qab (fun z=>h1 (by injection z))]
  rw [Qal h1] at k
  refine Yj ⟨_,rfl,rfl,_,rfl,?_⟩
  by_cases h2:y = "or"
  ·rw [Qad (congrArg V.str h2)]
   rw [Qan h2] at k
   exact YD ⟨_,rfl,_,rfl,_,_,rfl,rfl,k⟩
  rw [Qab (fun z=>h2 (by injection z))]
  rw [Qal h2] at k
  refine Yj ⟨_,rfl,rfl,_,rfl,?_⟩
  by_cases h3:y = "odd"
  ·rw [Qad (congrArg V.str h3)]
   rw [Qan h3] at k
   exact YD ⟨_,rfl,_,rfl,_,_,rfl,rfl,k⟩
  rw [Qab (fun z=>h3 (by injection z))]
  rw [Qal h3] at k
  refine Yj ⟨_,rfl,rfl,_,rfl,?_⟩
  by_cases h4:y = "add"
  ·rw [Qad (congrArg V.str h4)]
   rw [Qan h4] at k
   exact YD ⟨_,rfl,_,rfl,_,_,rfl,rfl,k⟩
  rw [Qab (fun z=>h4 (by injection z))]
  rw [Qal h4] at k
  exact Yj ⟨_,rfl,_,rfl,_,_,rfl,rfl,k⟩
inductive WJ(vs:List V)(H:Hp)(Q:VK):Prop
 | mk (a:Int) (W:Nat):(vs=[.int a,.int (W:Int)])->(1<=W)->(W<=64)->(0<=a)->(a < 2 ^ W)->(Q (.int (sgn (2 ^ W) a)) H)->WJ vs H Q
noncomputable def JB(K:PySem.W.Frag):Sp:=fun vs H Q _=>WJ vs H Q
theorem zk (T:Txt K w mg t) (TB:Tbs mg base t):ZO P w K mg base CX0 1 t.a_law_signed t.f_law_signed ["one","width"] (JB K):=by
 refine T.d_law_signed.F.ok zi (fun vs H Q E h=>?_) (fun cdv A outer s H vs Q E hr h=>?_)
 ·obtain ⟨a,W,rfl,hW,hW2,a0,a1,k⟩:=h
  rfl
 ·obtain ⟨a,W,rfl,hW,hW2,a0,a1,k⟩:=h
  have hu:=Yr hr
  refine ⟨_,@QSs.out _ _ _ (Zb (ZD (Zr Yc (Zn xa (qv 0) (Zn XT (qv 1) Ze)) Ze (Z6 _))
    (Zf (Zt (Zn XT (qv 0) (Zn zm Ze (qv 1))))) Z0)
    (Zf (Zt (qv 0)))),?_⟩
  clear hu hr
  try dsimp only [L2.cxK,L2.cxK2]
  refine L2.let2 ?_
  intro U1
  obtain ⟨j,rfl⟩:∃j,W=j + 1:=⟨W - 1,by lia⟩
  have et:(((j + 1:Nat):Int) - 1).toNat=j:=by lia
  have hp:(2:Int) ^ (j + 1)=2 ^ j * 2:=Qbq 2 j
  refine ⟨_,rfl,_,rfl,_,_,rfl,rfl,_,_,rfl,rfl,(by show (0:Int)<=((j + 1:Nat):Int) - 1;lia),rfl,_,rfl,?_⟩
  show if decide (V.int (a / 2 ^ (((j + 1:Nat):Int) - 1).toNat)=V.int 1)=true then _ else _
  rw [et]
  rcases top1 a0 a1 with ⟨h1,h2⟩ | ⟨h1,h2⟩ <;> rw [h1]
  ·rw [Qad rfl]
   refine YD ⟨_,rfl,_,rfl,_,_,rfl,rfl,⟨Qbk _,by lia,by decide⟩,_,_,rfl,rfl,?_⟩
   have e:a - 1 * 2 ^ ((j + 1:Nat):Int).toNat=sgn (2 ^ (j + 1)) a:=by
    unfold sgn
    rw [Qan (by lia),Qeq,Qaz]
   show Q (.int (a - 1 * 2 ^ ((j + 1:Nat):Int).toNat)) H
   rw [e]
   exact k
  ·rw [Qab (by intro z;injection z with z;cases z)]
   refine Yj ⟨_,rfl,?_⟩
   have e:sgn (2 ^ (j + 1)) a=a:=by
    unfold sgn
    rw [Qal (by lia)]
   rw [e] at k
   exact k
inductive XD(vs:List V)(H:Hp)(Q:VK):Prop
 | mk (y:Str) (W:Nat) (v:V) (r:Bool):(vs=[.str y,v,.int (W:Int)])->(1<=W)->(W<=64)->(((y∈(["sign","nought"]:List Str)/\∃a:Int,v=.int a/\0<=a/\a < 2 ^ W/\r=jE (2 ^ W) y [a])\/(y = "never" /\ ∃p:Bool,v=.bl p/\r=Zex y [p])))->(Q (.bl r) H)->XD vs H Q
noncomputable def W3(K:PySem.W.Frag):Sp:=fun vs H Q _=>XD vs H Q
theorem G7 (T:Txt K w mg t) (TB:Tbs mg base t):ZO P w K mg base CX0 1 t.a_law_one_holds t.f_law_one_holds ["word","one","width"] (W3 K):=by
 refine T.d_law_one_holds.F.ok G4 (fun vs H Q E h=>?_) (fun cdv A outer s H vs Q E hr h=>?_)
 ·obtain ⟨y,W,v,r,rfl,hW,hW2,hy,k⟩:=h
  rfl
 ·obtain ⟨y,W,v,r,rfl,hW,hW2,hy,k⟩:=h
  have hu:=Yr hr
  refine ⟨_,@QSs.out _ _ _ (Zb (ZD (Zr Yc (qv 0) Zh (Z6 _))
    (Zf (Zt (Wk Yc (Zn xa (qv 1) (Zn XT (qv 2) Ze)) Ze (Z6 _)))) Z0)
    (Zb (ZD (Zr Yc (qv 0) Zh (Z6 _))
    (Zf (Zt (Wk Yc (qv 1) Ze (Z6 _)))) Z0)
    (Zf (Zt (Zbt (qv 1)))))),?_⟩
  clear hu hr
  try dsimp only [L2.cxK,L2.cxK2]
  refine L2.let3 ?_
  intro U2 U1
  refine ⟨_,rfl,rfl,_,rfl,?_⟩
  rcases hy with ⟨hy,a,rfl,a0,a1,rfl⟩ | ⟨rfl,p,rfl,rfl⟩
  ·simp only [Qaj,Qa0,Qcg] at hy
   rcases hy with rfl | rfl
   ·rw [Qad rfl]
    obtain ⟨j,rfl⟩:∃j,W=j + 1:=⟨W - 1,by lia⟩
    have et:(((j + 1:Nat):Int) - 1).toNat=j:=by lia
    have hp:(2:Int) ^ (j + 1)=2 ^ j * 2:=Qbq 2 j
    refine YD ⟨_,rfl,_,rfl,_,_,rfl,rfl,_,_,rfl,rfl,(by show (0:Int)<=((j + 1:Nat):Int) - 1;lia),rfl,?_⟩
    have e:decide (V.int (a / 2 ^ (((j + 1:Nat):Int) - 1).toNat)=V.int 1)=jE (2 ^ (j + 1)) "sign" [a]:=by
     rw [et]
     show _=decide (sgn (2 ^ (j + 1)) a < 0)
     refine Qci.mpr ?_
     unfold sgn
     rcases top1 a0 a1 with ⟨h1,h2⟩ | ⟨h1,h2⟩ <;> rw [h1]
     ·rw [Qan (by lia)]
      exact ⟨fun _=>by lia,fun _=>rfl⟩
     ·rw [Qal (by lia)]
      exact ⟨fun z=>(by injection z with z;cases z),fun z=>(by lia)⟩
    show Q (.bl (decide (V.int (a / 2 ^ (((j + 1:Nat):Int) - 1).toNat)=V.int 1))) H
    rw [e]
    exact k
   ·rw [Qab (by decide +kernel)]
    refine Yj ⟨_,rfl,rfl,_,rfl,?_⟩
    rw [Qad rfl]
    exact YD ⟨_,rfl,rfl,(congrArg (fun z=>Q (V.bl z) H) (Qci.mpr ⟨fun e=>(by rw [show a=0 from e]),fun e=>(by injection e)⟩)).mp k⟩
  ·rw [Qab (by decide +kernel)]
   refine Yj ⟨_,rfl,rfl,_,rfl,?_⟩
   rw [Qab (by decide +kernel)]
   exact Yj ⟨_,rfl,_,rfl,k⟩
inductive Gq(vs:List V)(H:Hp)(Q:VK):Prop
 | mk (m l:Addr) (nm:List Str) (nx:List (List Nat)) (ot:List (List V)) (ls:List Nat):(vs=[.ref m,.ref l])->(M4 H m nm 0 nx ot)->(Runs nx ot nm.length)->(H l=some (.lst (ls.map Wu)))->(ls.length<=1000)->((∀x∈ls,x < 2 ^ nm.length))->(∀p H',H p=none->H' p=some (.lst (rnO nx ot 0 ls))->ZT H H'->Q (.ref p) H')->Gq vs H Q
noncomputable def Ga(K:PySem.W.Frag):Sp:=fun vs H Q _=>Gq vs H Q
theorem xA (T:Txt K w mg t) (TB:Tbs mg base t):ZO P w K mg base CX0 1 t.a_law_run t.f_law_run ["machine","letters"] (Ga K):=by
 refine T.d_law_run.F.ok We (fun vs H Q E h=>?_) (fun cdv A outer s H vs Q E hr h=>?_)
 ·obtain ⟨m,l,nm,nx,ot,ls,rfl,M,W,hl,hll,hlt,k⟩:=h
  rfl
 ·obtain ⟨m,l,nm,nx,ot,ls,rfl,M,W,hl,hll,hlt,k⟩:=h
  have hu:=Yr hr
  refine ⟨_,@QSs.out _ _ _ (Zb (Zp (i:=2) We.nd rfl (Or.inl rfl) (Z5 YQ (qv 0) Ze (fun _ _=>rfl)))
    (Zb (Zp (i:=3) We.nd rfl (Or.inl rfl) (Y7 Zd))
    (Zb (X8 PassesOwn.never rfl (XN (qv 1)) (YI (i:=4) We.nd rfl (Or.inl rfl))
    (Zb (Yd (YE Qak Qaq Qar ZC (qv 3) (Zi (Z5 YQ (Z5 YQ (Z5 YQ (qv 0) Ze (fun _ _=>rfl)) (qv 2) (fun _ _=>rfl)) (qv 4) (fun _ _=>rfl)) Zd)))
    (Zf (Zp (i:=2) We.nd rfl (Or.inl rfl) (Z5 YQ (Z5 YQ (Z5 YQ (qv 0) Ze (fun _ _=>rfl)) (qv 2) (fun _ _=>rfl)) (qv 4) (fun _ _=>rfl))))))
    (Zf (Zt (qv 3)))))),?_⟩
  clear hu
  try dsimp only [L2.cxK,L2.cxK2]
  refine L2.let4 ?_
  intro U3 U2 U1
  refine ZJ fun Gz hGz=>?_
  refine Oe3a3 M.ex fun pn ps po hm hn R O=>?_
  refine hGz ?_
  clear hGz Gz
  refine ⟨_,rfl,m,_,1,_,rfl,rfl,SqT.of hm,rfl,Zk ⟨by show 0<=sizeLine;decide,fun p hp=>Zk ?_⟩⟩
  have s0:=Zc (o:=.lst []) hp
  refine ⟨_,rfl,l,rfl,⟨_,SqL.of (s0 _ _ hl)⟩,xF (K:=K) (a:=l) (xs:=ls.map Wu) (fun i σ H2=>∃(s:Nat) (u4:Option V),σ=[some (.ref m),some (.ref l),some (.int (s:Int)),some (.ref p),u4]/\s=stN nx 0 (ls.take i)/\s < nx.length/\H2 p=some (.lst (rnO nx ot 0 (ls.take i)))/\i<=ls.length/\ZT H H2) ⟨0,none,rfl,rfl,W.pos,Za,Qbg _,s0⟩ (by (intro i σ H2 _ zq8;(refine Oe2a5 zq8 fun _ _ _ _ _ _ _ s=>?_;clear zq8));exact SqL.of (s _ _ hl)) ?_ ?_⟩
  ·rintro i x σ H2 hx hz_
   refine ZJ fun Gz hGz=>?_
   (refine Oe2a5 hz_ fun s u4 zo2 hs hsl h2 hi s2=>?_;obtain rfl:=zo2;clear hz_)
   refine hGz ?_
   clear hGz Gz
   (refine Oe1a1 (gw hx) fun c zo3 hc=>?_;obtain rfl:=zo3)
   have hil:=(Qae.mp hc).1
   have hcl:=hlt c (Qax hc)
   refine ZJ fun Gz hGz=>?_
   (refine Oe2a2 (gx (R.same s2) (i:=s) (by rw [Qaa];exact hsl)) fun as1 a1 g1 g2 g3=>?_)
   refine hGz ?_
   clear hGz Gz
   refine ZJ fun Gz hGz=>?_
   (refine Oe2a2 (gx (O.same s2) (i:=s) (by rw [W.ol];exact hsl)) fun as2 a2 f1 f2 f3=>?_)
   refine hGz ?_
   clear hGz Gz
   rw [gy] at g3
   have hm2:=s2 _ _ hm
   have lr:=W.nr _ (getD_mem hsl)
   have lo:=W.or _ (getD_mem (show s < ot.length by rw [W.ol];exact hsl))
   have e1:=yJ nx ot 0 (ls.take i) c
   have e2:=ze nx 0 (ls.take i) c
   rw [<-take_snoc hc] at e1 e2
   rw [<-hs] at e1 e2
   have hln:(rnO nx ot 0 (ls.take i)).length=i:=by rw [zf,Qav];lia
   have ho:(ot.getD s [])[c]?=some ((ot.getD s []).getD c .non):=getD_at (by lia)
   have hr:(nx.getD s [])[c]?=some ((nx.getD s []).getD c 0):=getD_at (by lia)
   refine ⟨_,rfl,.inl ⟨rfl,_,SqL.of h2⟩,_,rfl,m,_,3,_,rfl,rfl,SqT.of hm2,rfl,_,rfl,po,_,_,_,rfl,rfl,SqT.of f1,f2,_,rfl,a2,_,_,_,rfl,rfl,SqT.of f3,Xj ho,p,_,_,rfl,rfl,h2,by rw [hln];exact Zm (by lia),?_⟩
   have s3:ZT H (upd H2 p (.lst (rnO nx ot 0 (ls.take i)++[(ot.getD s []).getD c .non]))):=ZZ s2 hp
   have t3:∀{b:Addr} {xs:List V},H2 b=some (.tup xs)->upd H2 p (.lst (rnO nx ot 0 (ls.take i)++[(ot.getD s []).getD c .non])) b=some (.tup xs):=fun e=>by rw [Zj (YC e h2 fun z=>nomatch z)];exact e
   refine ⟨_,rfl,m,_,2,_,rfl,rfl,SqT.of (t3 hm2),rfl,_,rfl,ps,_,_,_,rfl,rfl,SqT.of (t3 g1),g2,_,rfl,a1,_,_,Wu ((nx.getD s []).getD c 0),rfl,rfl,SqT.of (t3 g3),Xj (by unfold uk;rw [Qap,hr];rfl),(nx.getD s []).getD c 0,_,rfl,e2.symm,W.nl _ (getD_mem hsl) _ (Qax hr),?_,hil,s3⟩
   rw [Za,e1]
  ·rintro σ H2 hz_
   refine ZJ fun Gz hGz=>?_
   (refine Oe2a5 hz_ fun s u4 zo4 hs hsl h2 hi s2=>?_;obtain rfl:=zo4;clear hz_)
   refine hGz ?_
   clear hGz Gz
   rw [Qaa,Qbz] at h2
   exact ⟨_,rfl,k p H2 hp h2 s2⟩
inductive WK(vs:List V)(H:Hp)(Q:VK):Prop
 | mk (p:Addr) (is:List Int):(vs=[.ref p])->(H p=some (.lst (is.map V.int)))->(is.length<=64)->((∀x∈is,x=0\/x=1))->(Q (.int (sm (fun k=>is.getD k 0) is.length)) H)->WK vs H Q
noncomputable def Xt(K:PySem.W.Frag):Sp:=fun vs H Q _=>WK vs H Q
theorem JC (T:Txt K w mg t) (TB:Tbs mg base t):ZO P w K mg base CX0 1 t.a_law_number t.f_law_number ["bits"] (Xt K):=by
 refine T.d_law_number.F.ok Xs (fun vs H Q E h=>?_) (fun cdv A outer s H vs Q E hr h=>?_)
 ·obtain ⟨p,is,rfl,hp,hl,h01,k⟩:=h
  rfl
 ·obtain ⟨p,is,rfl,hp,hl,h01,k⟩:=h
  have hu:=Yr hr
  refine ⟨_,@QSs.out _ _ _ (Zb (Zp (i:=1) Xs.nd rfl (Or.inl rfl) Ze)
    (Zb (X8 PassesOwn.never rfl (Xh rfl T.z_range (Zi (Zx Zv (by rfl) T.z_len Yk (Zi (qv 0) Zd)) Zd)) (YI (i:=2) Xs.nd rfl (Or.inl rfl))
    (Zf (Zp (i:=1) Xs.nd rfl (Or.inl rfl) (Zn YX (qv 1) (Zn zm (Yt kE (by rfl) T.z_int yg (Zi (Z5 Zs (qv 0) (qv 2) (fun _ _=>rfl)) Zd)) (qv 2))))))
    (Zf (Zt (qv 1))))),?_⟩
  clear hu hr
  try dsimp only [L2.cxK,L2.cxK2]
  refine L2.let3 ?_
  intro U2 U1
  have eL:((is.map V.int).length:Int).toNat=is.length:=by rw [Qaz,Qaa]
  refine ⟨_,rfl,p,_,rfl,.inl (SqL.of hp),_,rfl,by rw [Qaa];lia,by rw [Qaa];lia,XS (fun j σ H3=>∃u,σ=[some (.ref p),some (.int (sm (fun k=>is.getD k 0) j)),u]/\H3=H) ⟨none,rfl,rfl⟩ ?_ ?_⟩
  ·rintro j σ H3 hj hz_
   refine ZJ fun Gz hGz=>?_
   (refine Oe1a1 hz_ fun u zo5 zo6=>?_;obtain rfl:=zo5;obtain rfl:=zo6;clear hz_)
   refine hGz ?_
   clear hGz Gz
   rw [eL] at hj
   have hat:is[j]?=some (is.getD j 0):=getD_at hj
   have b01:=h01 _ (Qax hat)
   have ej:(0 + (j:Int)).toNat=j:=by lia
   refine ⟨_,rfl,_,rfl,_,rfl,p,_,_,_,rfl,rfl,SqL.of hp,by rw [Qdd];exact Xj (by rw [Qap,hat];rfl),.inl ⟨_,rfl,_,rfl,_,_,rfl,rfl,⟨by lia,by lia,?_⟩,_,_,rfl,rfl,some (.int (0 + (j:Int))),?_,rfl⟩⟩
   ·lia
   ·rw [ej]
    rfl
  ·rw [eL]
   rintro σ H3 hz_
   refine ZJ fun Gz hGz=>?_
   (refine Oe1a1 hz_ fun u zo7 zo8=>?_;obtain rfl:=zo7;obtain rfl:=zo8;clear hz_)
   refine hGz ?_
   clear hGz Gz
   exact ⟨_,rfl,k⟩
inductive JD(vs:List V)(H:Hp)(Q:VK):Prop
 | mk (k:Key):(vs=[kV k])->(Q (.int (Xr k)) H)->JD vs H Q
noncomputable def qB(K:PySem.W.Frag):Sp:=fun vs H Q _=>JD vs H Q
theorem ya (T:Txt K w mg t) (TB:Tbs mg base t):ZO P w K mg base CX0 2 t.a_parts_of t.f_parts_of ["word"] (qB K):=by
 have G_sums_behind:ZO P w K mg base CX0 1 t.a_sums_behind t.f_sums_behind ["word"] (WT K):=qU T TB
 have G_claims_behind:ZO P w K mg base CX0 1 t.a_claims_behind t.f_claims_behind ["word"] (Ww K):=G6 T TB
 refine T.d_parts_of.F.ok jW (fun vs H Q E h=>?_) (fun cdv A outer s H vs Q E hr h=>?_)
 ·obtain ⟨kk,rfl,k⟩:=h
  rfl
 ·obtain ⟨kk,rfl,k⟩:=h
  have hu:=Yr hr
  refine ⟨_,@QSs.out _ _ _ (Zf (Zt (Zn YX (Zl G_sums_behind (hr.mono (by decide)) rfl T.d_sums_behind.m T.d_sums_behind.F.kp T.d_sums_behind.b .nil ZE (Zi (qv 0) Zd)) (Zl G_claims_behind (hr.mono (by decide)) rfl T.d_claims_behind.m T.d_claims_behind.F.kp T.d_claims_behind.b .nil ZE (Zi (qv 0) Zd))))),?_⟩
  clear hu hr
  try dsimp only [L2.cxK,L2.cxK2]
  exact ⟨_,rfl,kk,rfl,_,rfl,kk,rfl,_,_,rfl,rfl,k⟩
inductive Wh(vs:List V)(H:Hp)(Q:VK):Prop
 | mk (tn tl:Addr) (ys:List Str) (L:Nat):(vs=[.ref tn,.ref tl])->(H tn=some (.tup (ys.map V.str)))->(ys.Nodup)->(ys.length<=10)->(H tl=some (.lst ((List.range L).map fun i:Nat=>V.int (i:Int))))->(L<=100)->(∀dv kvs H',H dv=none->H' dv=some (.dK kvs)->Zd9 kvs ys (Y6 L ys)->ZT H H'->Q (.ref dv) H')->Wh vs H Q
noncomputable def WL(K:PySem.W.Frag):Sp:=fun vs H Q _=>Wh vs H Q
theorem qC (T:Txt K w mg t) (TB:Tbs mg base t):ZO P w K mg base CX0 2 t.a_name_columns t.f_name_columns ["names","letters"] (WL K):=by
 have G_number_of:ZO P w K mg base CX0 1 t.a_number_of t.f_number_of ["bits"] (Gj K):=jd T TB
 refine T.d_name_columns.F.ok YV (fun vs H Q E h=>?_) (fun cdv A outer s H vs Q E hr h=>?_)
 ·obtain ⟨tn,tl,ys,L,rfl,hn,hnd,hn3,hl,hL,k⟩:=h
  rfl
 ·obtain ⟨tn,tl,ys,L,rfl,hn,hnd,hn3,hl,hL,k⟩:=h
  have hu:=Yr hr
  refine ⟨_,@QSs.out _ _ _ (Zb (Zp (i:=2) YV.nd rfl (Or.inl rfl) xO)
    (Zb (X8 PassesOwn.never rfl (uK rfl T.z_enumerate (qv 0)) (Zdn rfl (YI (i:=3) YV.nd rfl (Or.inr rfl)) (YI (i:=4) YV.nd rfl (Or.inl rfl)))
    (Zf (Jh hu (qv 2) (qv 4) (Zl G_number_of (hr.mono (by decide)) rfl T.d_number_of.m T.d_number_of.F.kp T.d_number_of.b .nil ZE (Zi (Yt ZP (by rfl) T.z_tuple Xq (Zi (Wl (⟨by rfl,by decide +kernel,by decide +kernel,by rfl,by decide +kernel,by decide +kernel,by rfl,by decide +kernel⟩:YF (Zg Yb) _ ["names","letters","columns","place","name"] "letter" ["place"] [3]) (XN (qv 1)) (fun _ _ _ _=>Js) (fun _ _ _ _=>(Zn Xl (Zn xa (qv 0) (qv 1)) Ze))) Zd)) Zd)) rfl)))
    (Zf (Zt (qv 2))))),?_⟩
  clear hu hr
  try dsimp only [L2.cxK,L2.cxK2]
  refine L2.let3 ?_
  intro U2 U1
  refine fun dv hdv=>Zk ?_
  have s1:=Zc (o:=.dK []) hdv
  refine ⟨_,rfl,tn,_,rfl,SqT.of (s1 _ _ hn),uL (K:=K) (a:=tn) (xs:=ys.map V.str) (fun i σ H2=>∃(kvs:List (Key × V)) (u3 u4:Option V),σ=[some (.ref tn),some (.ref tl),some (.ref dv),u3,u4]/\H2 dv=some (.dK kvs)/\Zd9 kvs (ys.take i) (Y6 L ys)/\kvs.length<=i/\i<=ys.length/\ZT H H2) ⟨[],none,none,rfl,Za,⟨fun y h=>(by cases h),fun y _=>rfl⟩,Qah _,Qbg _,s1⟩ (by (intro i σ H2 _ zq8;(refine Oe3a5 zq8 fun _ _ _ _ _ _ _ _ s=>?_;clear zq8));exact SqT.of (s _ _ hn)) ?_ ?_⟩
  ·rintro i x σ H2 p hx hp hz_
   refine ZJ fun Gz hGz=>?_
   (refine Oe3a5 hz_ fun kvs u3 u4 zo9 h2 hc hkl _ s2=>?_;obtain rfl:=zo9;clear hz_)
   refine hGz ?_
   clear hGz Gz
   rw [Qap] at hx
   (refine Oe1a1 (Qc6.mp hx) fun y hy zo10=>?_;obtain rfl:=zo10)
   have hi:=(Qae.mp hy).1
   have s3:=s2.trans (Zc (o:=.tup [.int (i:Int),.str y]) hp)
   have h3:=Zc (o:=.tup [.int (i:Int),.str y]) hp _ _ h2
   generalize upd H2 p (.tup [.int (i:Int),.str y])=H3 at *
   have hl3:=s3 _ _ hl
   refine ⟨_,rfl,tl,rfl,⟨_,SqL.of hl3⟩,comp_map (xs:=(List.range L).map fun i:Nat=>V.int (i:Int)) (fI fun c=>V.int (bt c i)) (SqL.of hl3) (by rw [Qaa,Qao];exact Qau (Zm (by lia))) (fun v hv R hR=>?_) (fun q hq=>?_)⟩
   ·(refine Oe1a1 (Qbb.mp hv) fun c _ zo11=>?_;obtain rfl:=zo11)
    refine ⟨_,rfl,_,rfl,_,_,rfl,rfl,Qbk i,_,_,rfl,rfl,?_⟩
    have e:fI (fun c=>V.int (bt c i)) (V.int (c:Int))=V.int (Builtin.bitAnd ((c:Int) / 2 ^ (i:Int).toNat) 1):=by
     show V.int (bt (c:Int) i)=_
     rw [and_1,Qaz]
     rfl
    rw [e] at hR
    exact hR
   have ex:((List.range L).map fun i:Nat=>V.int (i:Int)).map (fI fun c=>V.int (bt c i))=((List.range L).map fun l:Nat=>bt (l:Int) i).map V.int:=by
    rw [Qbw,Qbw]
    rfl
   rw [ex]
   have s4:=Zc (o:=.lst (((List.range L).map fun l:Nat=>bt (l:Int) i).map V.int)) hq
   refine ⟨q,_,rfl,.inl ⟨SqL.of Za,fun t ht=>?_⟩⟩
   have s5:=s4.trans (Zc (o:=.tup (((List.range L).map fun l:Nat=>bt (l:Int) i).map V.int)) ht)
   have h5:=s5 _ _ h3
   refine ⟨t,(List.range L).map fun l:Nat=>bt (l:Int) i,rfl,SqT.of Za,?_⟩
   generalize upd (upd H3 q (.lst (((List.range L).map fun l:Nat=>bt (l:Int) i).map V.int))) t (.tup (((List.range L).map fun l:Nat=>bt (l:Int) i).map V.int))=H5 at *
   have hv:hor ((List.range L).map fun l:Nat=>bt (l:Int) i).reverse=Y6 L ys y:=by
    unfold Y6
    rw [xw hnd hy]
   rw [hv]
   have lp:=Xa kvs (.inr y) (.int (Y6 L ys y))
   refine ⟨_,rfl,_,rfl,dv,_,rfl,wo.k (k:=.inr y) h5 (Zm (by lia)),putK kvs (.inr y) (.int (Y6 L ys y)),_,_,rfl,Za,⟨fun z hz=>?_,fun z hz=>?_⟩,by lia,hi,ZZ (s3.trans s5) hdv⟩
   ·rw [take_snoc hy] at hz
    rw [GI]
    by_cases hzy:z=y
    ·rw [Qan (by rw [hzy]),hzy]
    ·rw [Qal (fun e=>hzy (Sum.inr.inj e))]
     rcases Qbd.mp hz with h | h
     ·exact hc.1 z h
     ·exact absurd (Qa5.mp h) hzy
   ·rw [take_snoc hy] at hz
    rw [GI,Qal (fun e=>hz (Qbd.mpr (.inr (Qa5.mpr (Sum.inr.inj e)))))]
    exact hc.2 z fun h=>hz (Qbd.mpr (.inl h))
  ·rintro σ H2 hz_
   refine ZJ fun Gz hGz=>?_
   (refine Oe3a5 hz_ fun kvs u3 u4 zo12 h2 hc hkl _ s2=>?_;obtain rfl:=zo12;clear hz_)
   refine hGz ?_
   clear hGz Gz
   rw [Qaa,Qbz] at hc
   exact ⟨_,rfl,k dv kvs H2 hdv h2 hc s2⟩
inductive WZ(vs:List V)(H:Hp)(Q:VK):Prop
 | mk (y:Str) (p:Addr) (is:List Int) (h:Int):(vs=[.str y,.ref p,.int h])->(H p=some (.lst (is.map V.int)))->(1<=is.length)->(y∈allR)->((y∈Zd8->2<=is.length))->(∀H',ZT H H'->Q (.int (ktI y is h)) H')->WZ vs H Q
noncomputable def Gr(K:PySem.W.Frag):Sp:=fun vs H Q _=>WZ vs H Q
theorem je (T:Txt K w mg t) (TB:Tbs mg base t):ZO P w K mg base CX0 2 t.a_kept_then t.f_kept_then ["word","parts","held"] (Gr K):=by
 have G_borrowed:ZO P w K mg base CX0 1 t.a_borrowed t.f_borrowed ["one","other","held"] (Jl K):=q8 T TB
 refine T.d_kept_then.F.ok Gi (fun vs H Q E h=>?_) (fun cdv A outer s H vs Q E hr h=>?_)
 ·obtain ⟨y,p,is,h,rfl,hp,l1,hy,l2,k⟩:=h
  rfl
 ·obtain ⟨y,p,is,h,rfl,hp,l1,hy,l2,k⟩:=h
  have hu:=Yr hr
  refine ⟨_,@QSs.out _ _ _ (Zb (Zp (i:=3) Gi.nd rfl (Or.inl rfl) (Z5 Zs (qv 1) Ze (fun _ _=>rfl)))
    (Zb (ZD (Zr Yc (qv 0) Zh (Z6 _))
    (Zf (Zt (qv 3))) Z0)
    (Zb (ZD (Zr ZH (qv 0) (ZF (Zi Zh (Zi Zh (Zi Zh Zd)))) (by with_unfolding_all rfl))
    (Zf (Zt (Zn qF (qv 3) (qv 2)))) Z0)
    (Zb (ZD (Zr Yc (qv 0) Zh (Z6 _))
    (Zf (Zt (Zn qF (Zn GR (qv 3) (Z5 Zs (qv 1) Ze (fun _ _=>rfl))) (qv 2)))) Z0)
    (Zb (ZD (Zr Yc (qv 0) Zh (Z6 _))
    (Zf (Zt (Zn qF (Zn Xl (qv 3) (Z5 Zs (qv 1) Ze (fun _ _=>rfl))) (Zn Xl (qv 2) (Zn qF (qv 3) (Z5 Zs (qv 1) Ze (fun _ _=>rfl))))))) Z0)
    (Zf (Zt (Zl G_borrowed (hr.mono (by decide)) rfl T.d_borrowed.m T.d_borrowed.F.kp T.d_borrowed.b .nil ZE (Zi (qv 3) (Zi (Z5 Zs (qv 1) Ze (fun _ _=>rfl)) (Zi (qv 2) Zd))))))))))),?_⟩
  clear hu hr
  try dsimp only [L2.cxK,L2.cxK2]
  refine L2.let6 ?_
  intro U5 U4 U3 U2 U1
  have hy2:¬y = "twice" -> ¬(y = "neg" \/ y = "low" \/ y = "nought")->y∈Zd8:=gm y hy
  unfold ktI at k
  refine ⟨_,rfl,p,_,0,_,rfl,rfl,SqL.of hp,Z3 0 rfl l1,Zk ⟨_,rfl,rfl,_,rfl,?_⟩⟩
  by_cases h1:y = "twice"
  ·rw [Qad (congrArg V.str h1)]
   rw [Qan h1] at k
   refine YD ?_
   exact ⟨_,rfl,k H (ZT.refl _)⟩
  rw [Qab (fun z=>h1 (by injection z))]
  rw [Qal h1] at k
  refine Yj ⟨_,rfl,by show 3<=sizeLine;decide,fun q hq=>⟨q,_,rfl,.inr (SqT.of Za),rfl,rfl,_,rfl,?_⟩⟩
  show if inV (.str y) ((["neg","low","nought"]:List Str).map V.str)=true then _ else _
  rw [Z1]
  have sq:=Zc (o:=.tup [.str "neg",.str "low",.str "nought"]) hq
  have pq:=sq _ _ hp
  generalize upd H q (.tup [.str "neg",.str "low",.str "nought"])=H1 at *
  by_cases h2:y = "neg" \/ y = "low" \/ y = "nought"
  ·rw [Qad (by simp only [Qaj,Qa0,Qcg];exact h2)]
   rw [Qan h2] at k
   refine YD ?_
   exact ⟨_,rfl,_,rfl,_,_,rfl,rfl,k H1 sq⟩
  rw [Qab (by simp only [Qaj,Qa0,Qcg];exact h2)]
  rw [Qal h2] at k
  refine Yj ⟨_,rfl,rfl,_,rfl,?_⟩
  by_cases h3:y = "same"
  ·rw [Qad (congrArg V.str h3)]
   rw [Qan h3] at k
   refine YD ?_
   exact ⟨_,rfl,_,rfl,p,_,1,_,rfl,rfl,SqL.of pq,Z3 1 rfl (l2 (by rw [h3];decide +kernel)),_,_,rfl,rfl,_,rfl,_,_,rfl,rfl,k H1 sq⟩
  rw [Qab (fun z=>h3 (by injection z))]
  rw [Qal h3] at k
  refine Yj ⟨_,rfl,rfl,_,rfl,?_⟩
  by_cases h4:y = "add"
  ·rw [Qad (congrArg V.str h4)]
   rw [Qan h4] at k
   refine YD ?_
   have l3:=l2 (by rw [h4];decide +kernel)
   exact ⟨_,rfl,_,rfl,p,_,1,_,rfl,rfl,SqL.of pq,Z3 1 rfl l3,_,_,rfl,rfl,_,rfl,_,rfl,_,rfl,p,_,1,_,rfl,rfl,SqL.of pq,Z3 1 rfl l3,_,_,rfl,rfl,_,_,rfl,rfl,_,_,rfl,rfl,k H1 sq⟩
  rw [Qab (fun z=>h4 (by injection z))]
  rw [Qal h4] at k
  exact Yj ⟨_,rfl,_,rfl,p,_,1,_,rfl,rfl,SqL.of pq,Z3 1 rfl (l2 (hy2 h1 h2)),_,rfl,_,_,_,rfl,k H1 sq⟩
inductive W4(vs:List V)(H:Hp)(Q:VK):Prop
 | mk (y:Str) (p:Addr) (is:List Int) (h n:Int):(vs=[.str y,.ref p,.int h,.int n])->(H p=some (.lst (is.map V.int)))->(1<=is.length)->(y∈allR)->((y∈Zd8->2<=is.length))->(∀H',ZT H H'->Q (.int (okI y is h n)) H')->W4 vs H Q
noncomputable def Ja(K:PySem.W.Frag):Sp:=fun vs H Q _=>W4 vs H Q
theorem qY (T:Txt K w mg t) (TB:Tbs mg base t):ZO P w K mg base CX0 2 t.a_out_by_kept t.f_out_by_kept ["word","parts","held","then"] (Ja K):=by
 have G_borrowed:ZO P w K mg base CX0 1 t.a_borrowed t.f_borrowed ["one","other","held"] (Jl K):=q8 T TB
 refine T.d_out_by_kept.F.ok qS (fun vs H Q E h=>?_) (fun cdv A outer s H vs Q E hr h=>?_)
 ·obtain ⟨y,p,is,h,n,rfl,hp,l1,hy,l2,k⟩:=h
  rfl
 ·obtain ⟨y,p,is,h,n,rfl,hp,l1,hy,l2,k⟩:=h
  have hu:=Yr hr
  refine ⟨_,@QSs.out _ _ _ (Zb (ZD (Zr ZH (qv 0) (ZF (Zi Zh (Zi Zh Zd))) (by with_unfolding_all rfl))
    (Zf (Zt (Zn GR (Zn GR (Z5 Zs (qv 1) Ze (fun _ _=>rfl)) (Z5 Zs (qv 1) Ze (fun _ _=>rfl))) (qv 2)))) Z0)
    (Zb (ZD (Zr Yc (qv 0) Zh (Z6 _))
    (Zf (Zt (Zn GR (Z5 Zs (qv 1) Ze (fun _ _=>rfl)) (qv 2)))) Z0)
    (Zb (ZD (Zr Yc (qv 0) Zh (Z6 _))
    (Zf (Zt (qv 2))) Z0)
    (Zb (ZD (Zr Yc (qv 0) Zh (Z6 _))
    (Zf (Zt (Zn Xl (Z5 Zs (qv 1) Ze (fun _ _=>rfl)) (W9 GS (qv 2))))) Z0)
    (Zb (ZD (Zr ZH (qv 0) (ZF (Zi Zh (Zi Zh Zd))) (by with_unfolding_all rfl))
    (Zf (Zt (W9 GS (qv 3)))) Z0)
    (Zb (ZD (Zr Yc (qv 0) Zh (Z6 _))
    (Zf (Zt (qv 3))) Z0)
    (Zf (Zt (Zl G_borrowed (hr.mono (by decide)) rfl T.d_borrowed.m T.d_borrowed.F.kp T.d_borrowed.b .nil ZE (Zi (Z5 Zs (qv 1) Ze (fun _ _=>rfl)) (Zi (Z5 Zs (qv 1) Ze (fun _ _=>rfl)) (Zi (qv 2) Zd)))))))))))),?_⟩
  clear hu
  try dsimp only [L2.cxK,L2.cxK2]
  refine L2.let7 ?_
  intro U6 U5 U4 U3 U2 U1
  unfold okI at k
  refine ⟨_,rfl,by show 2<=sizeLine;decide,fun q hq=>⟨q,_,rfl,.inr (SqT.of Za),rfl,rfl,_,rfl,?_⟩⟩
  show if inV (.str y) ((["add","sub"]:List Str).map V.str)=true then _ else _
  rw [Z1]
  have sq:=Zc (o:=.tup [.str "add",.str "sub"]) hq
  have pq:=sq _ _ hp
  generalize upd H q (.tup [.str "add",.str "sub"])=H1 at *
  by_cases h1:y = "add" \/ y = "sub"
  ·rw [Qad (by simp only [Qaj,Qa0,Qcg];exact h1)]
   rw [Qan h1] at k
   refine YD ?_
   have l3:2<=is.length:=l2 (by rcases h1 with h | h <;> rw [h] <;> decide +kernel)
   exact ⟨_,rfl,p,_,0,_,rfl,rfl,SqL.of pq,Z3 0 rfl l1,_,rfl,p,_,1,_,rfl,rfl,SqL.of pq,Z3 1 rfl l3,_,_,rfl,rfl,_,rfl,_,_,rfl,rfl,k H1 sq⟩
  rw [Qab (by simp only [Qaj,Qa0,Qcg];exact h1)]
  rw [Qal h1] at k
  refine Yj ⟨_,rfl,rfl,_,rfl,?_⟩
  by_cases h2:y = "neg"
  ·rw [Qad (congrArg V.str h2)]
   rw [Qan h2] at k
   refine YD ?_
   exact ⟨_,rfl,p,_,0,_,rfl,rfl,SqL.of pq,Z3 0 rfl l1,_,rfl,_,_,rfl,rfl,k H1 sq⟩
  rw [Qab (fun z=>h2 (by injection z))]
  rw [Qal h2] at k
  refine Yj ⟨_,rfl,rfl,_,rfl,?_⟩
  by_cases h3:y = "twice"
  ·rw [Qad (congrArg V.str h3)]
   rw [Qan h3] at k
   refine YD ?_
   exact ⟨_,rfl,k H1 sq⟩
  rw [Qab (fun z=>h3 (by injection z))]
  rw [Qal h3] at k
  refine Yj ⟨_,rfl,rfl,_,rfl,?_⟩
  by_cases h4:y = "low"
  ·rw [Qad (congrArg V.str h4)]
   rw [Qan h4] at k
   refine YD ?_
   exact ⟨_,rfl,p,_,0,_,rfl,rfl,SqL.of pq,Z3 0 rfl l1,_,rfl,_,rfl,_,_,rfl,rfl,k H1 sq⟩
  rw [Qab (fun z=>h4 (by injection z))]
  rw [Qal h4] at k
  refine Yj ⟨_,rfl,by show 2<=sizeLine;decide,fun r hr=>⟨r,_,rfl,.inr (SqT.of Za),rfl,rfl,_,rfl,?_⟩⟩
  show if inV (.str y) ((["same","nought"]:List Str).map V.str)=true then _ else _
  rw [Z1]
  have sr:=Zc (o:=.tup [.str "same",.str "nought"]) hr
  have pr:=sr _ _ pq
  generalize upd H1 r (.tup [.str "same",.str "nought"])=H2 at *
  by_cases h5:y = "same" \/ y = "nought"
  ·rw [Qad (by simp only [Qaj,Qa0,Qcg];exact h5)]
   rw [Qan h5] at k
   refine YD ?_
   exact ⟨_,rfl,_,rfl,k H2 (sq.trans sr)⟩
  rw [Qab (by simp only [Qaj,Qa0,Qcg];exact h5)]
  rw [Qal h5] at k
  refine Yj ⟨_,rfl,rfl,_,rfl,?_⟩
  by_cases h6:y = "under"
  ·rw [Qad (congrArg V.str h6)]
   rw [Qan h6] at k
   refine YD ?_
   exact ⟨_,rfl,k H2 (sq.trans sr)⟩
  rw [Qab (fun z=>h6 (by injection z))]
  rw [Qal h6] at k
  exact Yj ⟨_,rfl,p,_,1,_,rfl,rfl,SqL.of pr,Z3 1 rfl (l2 (gm y hy h3 (fun z=>by rcases z with z | z | z;exact h2 z;exact h4 z;exact h5 (.inr z)))),_,rfl,p,_,0,_,rfl,rfl,SqL.of pr,Z3 0 rfl l1,_,rfl,_,_,_,rfl,k H2 (sq.trans sr)⟩
noncomputable def qD:List Str:=["x","y","ab","aba","nots","adda","lowly","z","orb","xx","samer","pickaxes","yesx","subx","a","ba"]
noncomputable def vow:List Nat:=[97,101,105,111,117]
noncomputable def cns:List Nat:=("bcdfghjkmpqrtvxz" : Str).cps.toList
theorem Zes:∀y∈qD,y∉YO:=by decide +kernel
theorem uc:qD.Nodup:=by decide +kernel
theorem xB:∀c∈cns,c∉vow/\c∉("lnsw" : Str).cps.toList:=by decide +kernel
theorem Zet:∀c∈("lnsw" : Str).cps.toList,c∉vow:=by decide +kernel
theorem Za3:∀y∈YO,∃c∈y.cps.toList,c∈vow:=by decide +kernel
theorem ud{y:Str}(h:∀c∈y.cps.toList,c∉vow):y∉YO:=fun z=>let ⟨c,h1,h2⟩:=Za3 y z;h c h1 h2
inductive Jb(vs:List V)(H:Hp)(Q:VK):Prop
 | mk (cell:Int) (many:Nat):(vs=[.int cell,.int (many:Int)])->(many<=3)->(∀p (ys:List Str) H',H p=none->H' p=some (.tup (ys.map V.str))->ys.length<=3->ys.Nodup->(∀y∈ys,y∉YO)->ZT H H'->Q (.ref p) H')->Jb vs H Q
noncomputable def Gs(K:PySem.W.Frag):Sp:=fun vs H Q _=>Jb vs H Q
theorem Zeu{ys:List Str}{x s:Int}(h0:0<=x)(s1:1<=s)(s2:s<=5)(hl:ys.length=3)(h:∀(i:Nat) (y:Str),ys[i]?=some y->qD[((x + (i:Int) * s) % 16).toNat]?=some y):ys.Nodup:=by
 match ys,hl with
 | [a,b,c],_ =>
  have ha:=h 0 a rfl
  have hb:=h 1 b rfl
  have hc:=h 2 c rfl
  have ne:∀{i j:Int} {u v:Str},0<=i->i < 16->0<=j->j < 16->i≠j->qD[i.toNat]?=some u->qD[j.toNat]?=some v->u≠v:=fun {i j u v} i0 i1 j0 j1 hij hu hv e=>by
   subst e
   have e1:=xw uc hu
   have e2:=xw uc hv
   lia
  have b0:∀z:Int,0<=z % 16/\z % 16 < 16:=fun z=>⟨Qa6 _ (by decide),Qaw _ (by decide)⟩
  have n1:=ne (b0 _).1 (b0 _).2 (b0 _).1 (b0 _).2 (by lia) ha hb
  have n2:=ne (b0 _).1 (b0 _).2 (b0 _).1 (b0 _).2 (by lia) ha hc
  have n3:=ne (b0 _).1 (b0 _).2 (b0 _).1 (b0 _).2 (by lia) hb hc
  simp [n1,n2,n3]
theorem jf (T:Txt K w mg t) (TB:Tbs mg base t):ZO P w K mg base CX0 2 t.a_law_names t.f_law_names ["cell","many"] (Gs K):=by
 have G_law_numbers:ZO P w K mg base CX0 1 t.a_law_numbers t.f_law_numbers ["cell","many","most"] (XQ K):=WX T TB
 refine T.d_law_names.F.ok Ya (fun vs H Q E h=>?_) (fun cdv A outer s H vs Q E hr h=>?_)
 ·obtain ⟨cell,many,rfl,hmany,k⟩:=h
  rfl
 ·obtain ⟨cell,many,rfl,hmany,k⟩:=h
  have hu:=Yr hr
  refine ⟨_,@QSs.out _ _ _ (Zb (Zp (i:=2) Ya.nd rfl (Or.inr rfl) (Zl G_law_numbers (hr.mono (by decide)) rfl T.d_law_numbers.m T.d_law_numbers.F.kp T.d_law_numbers.b .nil ZE (Zi (qv 0) (Zi Ze (Zi Ze Zd)))))
    (Zb (Zp (i:=3) Ya.nd rfl (Or.inr rfl) (Y7 (Zi Zh (Zi Zh (Zi Zh (Zi Zh (Zi Zh (Zi Zh (Zi Zh (Zi Zh (Zi Zh (Zi Zh (Zi Zh (Zi Zh Zd))))))))))))))
    (Zb (Zp (i:=3) Ya.nd rfl (Or.inr rfl) (Zn xc (qv 3) (Y7 (Zi Zh (Zi Zh (Zi Zh (Zi Zh Zd)))))))
    (Zb (ju (i:=4) Ya.nd rfl rfl (⟨by rfl,by decide +kernel,by decide +kernel,by rfl,by decide +kernel,by decide +kernel,by rfl,by decide +kernel⟩:YF (Zg Yz) _ ["cell","many","xs","menu","some","base","at","turn"] "k" ["menu","xs"] [3,2]) (Xh rfl T.z_range (Zi Ze Zd)) (fun _ _ _ _=>Js) (fun _ _ _ _=>(Z5 (show IxR _ (Zc8 K) from Zs) (qv 1) (Zn ZV (Zn YX (Z5 (show IxR _ (Zc8 K) from Zs) (qv 2) Ze (fun _ _=>rfl)) (Zn WE (qv 0) (Zn YX Ze (Zn ZV (Z5 (show IxR _ (Zc8 K) from Zs) (qv 2) Ze (fun _ _=>rfl)) Ze)))) Ze) (fun _ _=>rfl))))
    (Zb (ZD (Zr Yc (Zn ZV (Z5 Zs (qv 2) Ze (fun _ _=>rfl)) Ze) Ze (Z6 _))
    (Zb (Zp (i:=5) Ya.nd rfl (Or.inl rfl) (YE PySem.F.plainAttrs_str PySem.F.slot_str_join PySem.F.type_str_join Zdf Zh (Zi (Wl (⟨by rfl,by decide +kernel,by decide +kernel,by rfl,by decide +kernel,by decide +kernel,by rfl,by decide +kernel⟩:YF (Zg Yz) _ ["cell","many","xs","menu","some","base","at","turn"] "k" ["xs"] [2]) (Xh rfl T.z_range (Zi (Zn YX Ze (Zn ZV (Z5 Zs (qv 2) Ze (fun _ _=>rfl)) Ze)) Zd)) (fun _ _ _ _=>Js) (fun _ _ _ _=>(Z5 yf Zh (Zn ZV (Z5 (show IxR _ (Zc8 K) from Zs) (qv 1) (Zn YX Ze (qv 0)) (fun _ _=>rfl)) Ze) (fun _ _=>rfl)))) Zd)))
    (Zb (Zp (i:=6) Ya.nd rfl (Or.inl rfl) (Zn ZV (Z5 Zs (qv 2) Ze (fun _ _=>rfl)) (Zx zu (by rfl) T.z_len Yk (Zi (qv 5) Zd))))
    (Zf (Zp (i:=4) Ya.nd rfl (Or.inl rfl) (Y7 (Zi (qv 5) (Zi (Zn JJ (qv 5) (Z5 yf Zh (Zn ZV (Z5 Zs (qv 2) Ze (fun _ _=>rfl)) Ze) (fun _ _=>rfl))) (Zi (Zn JJ (Zn JJ (Yn Zbw (qv 5) X2 (Ym (qv 6))) (Z5 yf Zh (Zn ZV (Z5 Zs (qv 2) Ze (fun _ _=>rfl)) Ze) (fun _ _=>rfl))) (Yn Zbw (qv 5) (Ym (Zn YX (qv 6) Ze)) X2)) Zd)))))))) Z0)
    (Zb (Zp (i:=7) Ya.nd rfl (Or.inl rfl) (Zn ZV (Zn X7 (Z5 Zs (qv 2) Ze (fun _ _=>rfl)) Ze) Ze))
    (Zf (Zt (Yt ZP (by rfl) T.z_tuple Xq (Zi (Zx z7 (by rfl) T.z_sorted kS (Zi (Yn X1 (Zn xc (Yn X1 (qv 4) (Ym (qv 7)) X2) (Yn X1 (qv 4) X2 (Ym (qv 7)))) X2 (Ym (qv 1))) Zd)) Zd)))))))))),?_⟩
  clear hu hr
  try dsimp only [L2.cxK,L2.cxK2]
  refine L2.let7 ?_
  intro U6 U5 U4 U3 U2 U1
  refine ⟨_,rfl,cell,12,400,rfl,by decide,by decide,by decide,fun p ns H1 hp h1 hl hb s1=>?_⟩
  have hx:∀j,j < 12->0<=ns.getD j 0/\ns.getD j 0 < 400:=fun j hj=>Zd1 hb j (by lia)
  refine ⟨by show 12<=sizeLine;decide,fun m1 hm1=>?_⟩
  refine ⟨_,rfl,by show 4<=sizeLine;decide,fun m2 hm2=>⟨m1,m2,_,_,rfl,rfl,Zc hm2 _ _ Za,Za,by show 16<=sizeLine;decide,fun m hm=>?_⟩⟩
  have s4:=((Zc (o:=.lst [.str "x",.str "y",.str "ab",.str "aba",.str "nots",.str "adda",.str "lowly",.str "z",.str "orb",.str "xx",.str "samer",.str "pickaxes"]) hm1).trans (Zc (o:=.lst [.str "yesx",.str "subx",.str "a",.str "ba"]) hm2)).trans (Zc (o:=.lst (qD.map V.str)) hm)
  refine ⟨3,rfl,by decide,by decide,zH (n:=3) (fun i v=>∃y,v=.str y/\qD[((ns.getD 1 0 + (i:Int) * (1 + ns.getD 2 0 % 5)) % 16).toNat]?=some y) (by decide) (fun i hi R hR=>?_) (fun vs hvl hvP q hq=>?_)⟩
  ·have e0:0<=(ns.getD 1 0 + (0 + (i:Int)) * (1 + ns.getD 2 0 % 5)) % 16:=Qa6 _ (by decide)
   have e1:(ns.getD 1 0 + (0 + (i:Int)) * (1 + ns.getD 2 0 % 5)) % 16 < 16:=Qaw _ (by decide)
   rw [Qdd] at e0 e1
   obtain ⟨y,hy⟩:∃y,qD[((ns.getD 1 0 + (i:Int) * (1 + ns.getD 2 0 % 5)) % 16).toNat]?=some y:=⟨_,Qai (by show _ < 16;lia)⟩
   have ey:atI (qD.map V.str) ((ns.getD 1 0 + (0 + (i:Int)) * (1 + ns.getD 2 0 % 5)) % 16)=some (.str y):=by
    rw [Qdd]
    obtain ⟨j,hj⟩:∃j:Nat,(ns.getD 1 0 + (i:Int) * (1 + ns.getD 2 0 % 5)) % 16=(j:Int):=⟨_,(Qd9 e0).symm⟩
    rw [hj,Qaz] at hy
    rw [hj]
    exact Xj (by rw [Qap,hy];rfl)
   exact ⟨_,rfl,_,rfl,p,_,_,_,rfl,rfl,SqL.of (s4 _ _ h1),Z3 1 rfl (by lia),_,rfl,_,rfl,p,_,_,_,rfl,rfl,SqL.of (s4 _ _ h1),Z3 2 rfl (by lia),_,_,rfl,rfl,(by show (0:Int) < 5;decide),_,_,rfl,rfl,_,_,rfl,rfl,.inr (.inl ⟨by lia,by lia⟩),_,_,rfl,rfl,_,_,rfl,rfl,(by show (0:Int) < 16;decide),m,qD.map V.str,_,_,rfl,rfl,SqL.of Za,ey,hR _ ⟨y,rfl,hy⟩⟩
  obtain ⟨ys,rfl,_⟩:=jC (P:=fun _=>True) (fun v hv=>by
   obtain ⟨i,hi⟩:=Qde.mp hv
   refine Oe1a1 (hvP i v hi) fun y e _=>?_
   exact ⟨y,e,trivial⟩)
  rw [Qaa] at hvl
  have hyi:∀(i:Nat) (y:Str),ys[i]?=some y->qD[((ns.getD 1 0 + (i:Int) * (1 + ns.getD 2 0 % 5)) % 16).toNat]?=some y:=fun i y hy=>by
   (refine Oe1a1 (hvP i (.str y) (by rw [Qap,hy];rfl)) fun z e h=>?_)
   injection e with e
   rw [e]
   exact h
  have hys:∀y∈ys,y∉YO:=fun y hy=>by
   obtain ⟨i,hi⟩:=Qde.mp hy
   exact Zes y (Qax (hyi i y hi))
  have b2:=hx 2 (by decide)
  have hyd:ys.Nodup:=Zeu (x:=ns.getD 1 0) (s:=1 + ns.getD 2 0 % 5) (hx 1 (by decide)).1 (by lia) (by lia) hvl hyi
  have s5:=s4.trans (Zc (o:=.lst (ys.map V.str)) hq)
  refine Zk ?_
  refine wU (fun σ H'=>∃(q:Addr) (ys:List Str) (b a:Option V),σ=[some (.int cell),some (.int many),some (.ref p),some (.ref m),some (.ref q),b,a,none]/\H' q=some (.lst (ys.map V.str))/\ys.length=3/\ys.Nodup/\(∀y∈ys,y∉YO)/\ZT H1 H') (fun N hN=>?_) ?_
  ·refine ⟨_,rfl,p,_,_,_,rfl,rfl,SqL.of (s5 _ _ h1),Z3 0 rfl (by lia),_,_,rfl,rfl,(by show (0:Int) < 2;decide),rfl,_,rfl,vR (fun _=>?_) (fun _=>?_)⟩
   ·have b1:=hx 1 (by decide)
    refine ⟨rfl,_,rfl,p,_,_,_,rfl,rfl,SqL.of (s5 _ _ h1),Z3 1 rfl (by lia),_,_,rfl,rfl,(by show (0:Int) < 7;decide),_,_,rfl,rfl,_,rfl,?_,?_,zH (n:=(1 + ns.getD 1 0 % 7).toNat) (fun _ v=>∃y,v=.str y/\∃c,y=⟨#[c]⟩/\c∈cns) ?_ (fun i hi R hR=>?_) (fun vs hvl hvP l hl2=>?_)⟩
    ·lia
    ·lia
    ·exact Qau (Zm (by lia))
    ·refine Oe1a1 (jB (z:=("bcdfghjkmpqrtvxz" : Str)) (i:=ns.getD (3 + i) 0 % 16) 16 (by decide +kernel) (Qa6 _ (by decide)) (Qaw _ (by decide))) fun c hc ec=>?_
     exact ⟨_,rfl,_,rfl,_,_,rfl,rfl,p,_,_,_,rfl,rfl,SqL.of (s5 _ _ h1),Z3 (3 + i) (by lia) (by lia),_,_,rfl,rfl,(by show (0:Int) < 16;decide),_,_,c,rfl,rfl,by decide +kernel,ec,hR _ ⟨_,rfl,c,rfl,hc⟩⟩
    (refine Oe1a1 (jC (P:=fun y=>∃c,y=⟨#[c]⟩/\c∈cns) (mem_at hvP)) fun zs zo13 hzs=>?_;obtain rfl:=zo13)
    rw [Qaa] at hvl
    refine Oe0a2 (wV hzs) fun f1 f2 f3=>?_
    have s6:=s5.trans (Zc (o:=.lst (zs.map V.str)) hl2)
    refine ⟨_,l,zs,rfl,rfl,SqL.of Za,?_,?_⟩
    ·rw [f3]
     show zs.length + zs.length * 0<=_
     lia
    have js:=vq ("" : Str) (by decide +kernel) zs
    rw [<-js] at f1 f2
    generalize Txt.join ("" : Str) zs=B at *
    have hB:B.length=zs.length:=by rw [len_signs];exact f1
    refine ⟨_,rfl,p,_,_,_,rfl,rfl,SqL.of (s6 _ _ h1),Z3 2 rfl (by lia),_,rfl,B,rfl,Qau (Zm (by lia)),_,_,rfl,rfl,(by show (0:Int) < B.length;lia),?_⟩
    try dsimp only
    have a0:0<=ns.getD 2 0 % (B.length:Int):=Qa6 _ (by lia)
    have a1:ns.getD 2 0 % (B.length:Int) < B.length:=Qaw _ (by lia)
    generalize ns.getD 2 0 % (B.length:Int)=a at *
    obtain ⟨j,rfl⟩:∃j:Nat,a=(j:Int):=⟨a.toNat,by lia⟩
    refine Oe1a1 (jB (z:=("bcdfghjkmpqrtvxz" : Str)) (i:=ns.getD 10 0 % 16) 16 (by decide +kernel) (Qa6 _ (by decide)) (Qaw _ (by decide))) fun c1 hc1 ec1=>?_
    refine Oe1a1 (jB (z:=("lnsw" : Str)) (i:=ns.getD 11 0 % 4) 4 (by decide +kernel) (Qa6 _ (by decide)) (Qaw _ (by decide))) fun c2 hc2 ec2=>?_
    have hs1:(Txt.slice B none (some (j:Int))).cps.toList=B.cps.toList.take j:=uZ (by lia)
    have hs2:(Txt.slice B (some ((j:Int) + 1)) none).cps.toList=B.cps.toList.drop (j + 1):=vp (i:=j + 1) (by lia)
    have l1:=Txt.slice_le B none (some (j:Int))
    have l2:=Txt.slice_le B (some ((j:Int) + 1)) none
    have one:∀c:Nat,(⟨#[c]⟩:Str).length=1:=fun _=>rfl
    refine ⟨_,rfl,_,rfl,_,rfl,p,_,_,_,rfl,rfl,SqL.of (s6 _ _ h1),Z3 10 rfl (by lia),_,_,rfl,rfl,(by show (0:Int) < 16;decide),_,_,c1,rfl,rfl,by decide +kernel,ec1,_,_,rfl,rfl,?_,?_⟩
    ·rw [one]
     exact Qau (Zm (by lia))
    refine ⟨_,rfl,_,rfl,_,rfl,_,rfl,Qau (Zm (by lia)),_,rfl,p,_,_,_,rfl,rfl,SqL.of (s6 _ _ h1),Z3 11 rfl (by lia),_,_,rfl,rfl,(by show (0:Int) < 4;decide),_,_,c2,rfl,rfl,by decide +kernel,ec2,_,_,rfl,rfl,?_,?_⟩
    ·rw [one]
     exact Qau (Zm (by lia))
    refine ⟨_,rfl,_,rfl,_,_,rfl,rfl,_,rfl,_,rfl,Qau (Zm (by lia)),_,_,rfl,rfl,?_,by show 3<=sizeLine;decide,fun g hg=>?_⟩
    ·rw [Str.length_append,one]
     exact Qau (Zm (by lia))
    refine hN _ _ ⟨g,[B,B++⟨#[c1]⟩,Txt.slice B none (some (j:Int))++⟨#[c2]⟩++Txt.slice B (some ((j:Int) + 1)) none],_,_,rfl,Za,rfl,?_,?_,s6.trans (Zc hg)⟩
    ·have e1:(B++⟨#[c1]⟩:Str).cps.toList=B.cps.toList++[c1]:=YT _ _
     have e2:(Txt.slice B none (some (j:Int))++⟨#[c2]⟩++Txt.slice B (some ((j:Int) + 1)) none).cps.toList=B.cps.toList.take j++[c2]++B.cps.toList.drop (j + 1):=by rw [YT,YT,hs1,hs2]
     have lB:=len_signs B
     have jl:j < B.cps.toList.length:=by lia
     have at3:(B.cps.toList.take j++[c2]++B.cps.toList.drop (j + 1))[j]?=some c2:=by
      rw [Qbs,Qas (by rw [Qav];lia),Qav,Qdb (by lia),Qdv]
      rfl
     have nc2:∀c,B.cps.toList[j]?=some c->c≠c2:=fun c hc e=>(xB c (f2 c (Qax hc))).2 (by rw [e];exact hc2)
     have d12:B≠B++⟨#[c1]⟩:=fun e=>by
      have:=congrArg (fun s:Str=>s.cps.toList.length) e
      simp only [e1,Qac,Qa2,Qc0] at this
      lia
     have d13:B≠Txt.slice B none (some (j:Int))++⟨#[c2]⟩++Txt.slice B (some ((j:Int) + 1)) none:=fun e=>by
      have e3:=congrArg (fun s:Str=>s.cps.toList) e
      simp only [e2] at e3
      rw [<-e3] at at3
      exact nc2 _ at3 rfl
     have d23:B++⟨#[c1]⟩≠Txt.slice B none (some (j:Int))++⟨#[c2]⟩++Txt.slice B (some ((j:Int) + 1)) none:=fun e=>by
      have e3:=congrArg (fun s:Str=>s.cps.toList) e
      simp only [e1,e2] at e3
      rw [<-e3,Qa1 jl] at at3
      exact nc2 _ at3 rfl
     simp [d12,d13,d23]
    ·intro y hy
     simp only [Qaj,Qa0,Qcg] at hy
     rcases hy with rfl | rfl | rfl
     ·exact ud fun c hc=>(xB c (f2 c hc)).1
     ·refine ud fun c hc=>?_
      rw [YT] at hc
      rcases Qbd.mp hc with h | h
      ·exact (xB c (f2 c h)).1
      ·rw [Qa5.mp h]
       exact (xB c1 hc1).1
     ·refine ud fun c hc=>?_
      rw [YT,YT,hs1,hs2] at hc
      rcases Qbd.mp hc with h | h
      ·rcases Qbd.mp h with h | h
       ·exact (xB c (f2 c (Qcz h))).1
       ·rw [Qa5.mp h]
        exact Zet c2 hc2
      ·exact (xB c (f2 c (Qcp h))).1
   ·exact hN _ _ ⟨q,ys,none,none,rfl,Za,hvl,hyd,hys,s5⟩
  rintro σ H' hz_
  refine ZJ fun Gz hGz=>?_
  (refine Oe4a5 hz_ fun q ys b a zo14 hq hl3 hyd hys s6=>?_;obtain rfl:=zo14;clear hz_)
  refine hGz ?_
  clear hGz Gz
  refine ⟨_,rfl,p,_,_,_,rfl,rfl,SqL.of (s6 _ _ h1),Z3 0 rfl (by lia),_,_,rfl,rfl,.of (by decide) (by decide),_,_,rfl,rfl,(by show (0:Int) < 3;decide),?_⟩
  try dsimp only
  have t0:0<=ns.getD 0 0 / 2 % 3:=by lia
  generalize ns.getD 0 0 / 2 % 3=t at *
  obtain ⟨t,rfl⟩:∃j:Nat,t=(j:Int):=⟨t.toNat,by lia⟩
  refine ⟨_,rfl,_,rfl,_,rfl,q,_,rfl,SqL.of hq,fun l1 hl1=>?_⟩
  rw [Wo,zF]
  have u1:=Zc (o:=.lst ((ys.drop t).map V.str)) hl1
  refine ⟨_,rfl,_,rfl,_,rfl,q,_,rfl,SqL.of (u1 _ _ hq),fun l2 hl2=>?_⟩
  rw [Wo,qb]
  have u2:=Zc (o:=.lst ((ys.take t).map V.str)) hl2
  refine ⟨l1,l2,_,_,rfl,rfl,u2 _ _ Za,Za,?_,fun l3 hl3'=>?_⟩
  ·rw [Qaa,Qaa,Qbc,Qav]
   exact Qau (Zm (by lia))
  rw [<-Qbj]
  have u3:=Zc (o:=.lst ((ys.drop t++ys.take t).map V.str)) hl3'
  refine ⟨_,rfl,_,rfl,l3,_,rfl,SqL.of Za,fun l4 hl4=>?_⟩
  rw [Wo,qb]
  have u4:=Zc (o:=.lst (((ys.drop t++ys.take t).take many).map V.str)) hl4
  refine ⟨l4,_,rfl,SqL.of Za,?_,fun l5 ms hl5 hpm hsr=>⟨l5,_,rfl,.inl ⟨SqL.of Za,fun l6 hl6=>?_⟩⟩⟩
  ·rw [Qav]
   lia
  have u5:=Zc (o:=.lst (ms.map V.str)) hl5
  have u:=s1.trans (s6.trans (((u1.trans u2).trans (u3.trans u4)).trans u5))
  refine k l6 ms _ (u.free hl6) Za ?_ ?_ ?_ (u.trans (Zc hl6))
  ·rw [hpm.length_eq,Qav]
   lia
  ·refine hpm.nodup_iff.mpr (List.Nodup.sublist (List.take_sublist _ _) ?_)
   exact (List.perm_append_comm.nodup_iff).mpr (by rw [Qcc];exact hyd)
  ·intro y hy
   have:=Qcz (hpm.mem_iff.mp hy)
   rcases Qbd.mp this with z | z
   ·exact hys y (Qcp z)
   ·exact hys y (Qcz z)
inductive Gu(vs:List V)(H:Hp)(Q:VK):Prop
 | mk (pn tn:Addr) (ns:List Int) (ys:List Str) (most:Nat):(vs=[.ref pn,.ref tn,.int (most:Int)])->(H pn=some (.lst (ns.map V.int)))->(1<=ns.length)->(ns.length<=20)->((∀x∈ns,0<=x))->(H tn=some (.tup (ys.map V.str)))->(ys.length<=3)->((∀y∈ys,y∉YO))->(∀p ws H',H' p=some (.tup ws)->ws.length < 2 * ns.length->(∀w∈ws,qL ys 10 w)->Y9 ws->JG ws=1->Xk ws<=most->ZT H H'->Q (.ref p) H')->Gu vs H Q
noncomputable def xC(K:PySem.W.Frag):Sp:=fun vs H Q _=>Gu vs H Q
noncomputable def ZR (y:Str):Nat:=if y = "pick" then 3 else if y∈(["not","neg","twice","low"]:List Str) then 1 else 2
theorem xD:∀y∈WA,ZG y=ZR y:=by decide +kernel
theorem ue(y:Str):1<=ZR y/\ZR y<=3:=by
 unfold ZR
 split
 ·lia
 ·split <;> lia
theorem vP (T:Txt K w mg t) (TB:Tbs mg base t):ZO P w K mg base CX0 2 t.a_law_sum t.f_law_sum ["numbers","names","most"] (xC K):=by
 have G_law_atom:ZO P w K mg base CX0 1 t.a_law_atom t.f_law_atom ["number","names"] (Jm K):=jY T TB
 have G_law_carries:ZO P w K mg base CX0 1 t.a_law_carries t.f_law_carries ["words"] (WY K):=qX T TB
 have G_law_word:ZO P w K mg base CX0 1 t.a_law_word t.f_law_word ["number","left"] (qA K):=jZ T TB
 refine T.d_law_sum.F.ok ZL (fun vs H Q E h=>?_) (fun cdv A outer s H vs Q E hr h=>?_)
 ·obtain ⟨pn,tn,ns,ys,most,rfl,hpn,h1,h20,hns,htn,hy3,hyk,k⟩:=h
  rfl
 ·obtain ⟨pn,tn,ns,ys,most,rfl,hpn,h1,h20,hns,htn,hy3,hyk,k⟩:=h
  have hu:=Yr hr
  refine ⟨_,@QSs.out _ _ _ (Zb (Zp (i:=3) ZL.nd rfl (Or.inl rfl) (Y7 Zd))
    (Zb (Zp (i:=4) ZL.nd rfl (Or.inl rfl) (qv 2))
    (Zb (X8 PassesOwn.never rfl (XN (qv 0)) (YI (i:=5) ZL.nd rfl (Or.inl rfl))
    (Zb (Zp (i:=6) ZL.nd rfl (Or.inl rfl) (Zl G_law_word (hr.mono (by decide)) rfl T.d_law_word.m T.d_law_word.F.kp T.d_law_word.b .nil ZE (Zi (qv 5) (Zi (qv 4) Zd))))
    (Zb (Zp (i:=7) ZL.nd rfl (Or.inl rfl) Ze)
    (Zb (ZD (Zr ZH (qv 6) (ZF (Zi Zh (Zi Zh (Zi Zh (Zi Zh Zd))))) (by with_unfolding_all rfl))
    (Zf (Zp (i:=7) ZL.nd rfl (Or.inl rfl) Ze)) Z0)
    (Zb (ZD (Zr Yc (qv 6) Zh (Z6 _))
    (Zf (Zp (i:=7) ZL.nd rfl (Or.inl rfl) Ze)) Z0)
    (Zf (ZD (kW (Zfd (Zr Yc (qv 6) Zh (Z6 _)) (Zbr (Zr yW (Zx Zv (by rfl) T.z_len Yk (Zi (qv 3) Zd)) (qv 7) (Z6 _)))))
    (Zf (Yd (YE Qak Qaq Qar ZC (qv 3) (Zi (Zl G_law_atom (hr.mono (by decide)) rfl T.d_law_atom.m T.d_law_atom.F.kp T.d_law_atom.b .nil ZE (Zi (qv 5) (Zi (qv 1) Zd))) Zd)))) (Zb (Zp (i:=4) ZL.nd rfl (Or.inl rfl) (Zn XT (qv 4) (Zl G_law_carries (hr.mono (by decide)) rfl T.d_law_carries.m T.d_law_carries.F.kp T.d_law_carries.b .nil ZE (Zi (Y7 (Zi (qv 6) Zd)) Zd))))
    (Zb (Zp (i:=8) ZL.nd rfl (Or.inl rfl) (ZF (Zi (qv 6) Zd)))
    (Zb (X8 PassesOwn.never rfl (XN (Yn X1 (qv 3) (Ym (Zn XT (Zx Zv (by rfl) T.z_len Yk (Zi (qv 3) Zd)) (qv 7))) X2)) (YI (i:=9) ZL.nd rfl (Or.inl rfl))
    (Zf (Zp (i:=8) ZL.nd rfl (Or.inl rfl) (Zn YR (qv 8) (qv 9)))))
    (Zf (Zp (i:=3) ZL.nd rfl (Or.inl rfl) (Zn xc (Yn X1 (qv 3) X2 (Ym (Zn XT (Zx Zv (by rfl) T.z_len Yk (Zi (qv 3) Zd)) (qv 7)))) (Y7 (Zi (qv 8) Zd)))))))))))))))
    (Zb (yi PassesOwn.never (Zr Ze9 (Zx Zv (by rfl) T.z_len Yk (Zi (qv 3) Zd)) Ze (Z6 _))
    (Zf (Zp (i:=3) ZL.nd rfl (Or.inl rfl) (Zn xc (Yn X1 (qv 3) X2 (Ym (W9 WD Ze))) (Y7 (Zi (Zn YR (Zn YR (ZF (Zi (Z5 Zs (Y7 (Zi Zh (Zi Zh (Zi Zh Zd)))) (Zn ZV (Zx Zv (by rfl) T.z_len Yk (Zi (qv 3) Zd)) Ze) (fun _ _=>rfl)) Zd)) (Z5 Zs (qv 3) (W9 WD Ze) (fun _ _=>rfl))) (Z5 Zs (qv 3) (W9 WD Ze) (fun _ _=>rfl))) Zd))))))
    (Zf (Zt (Z5 Zs (qv 3) Ze (fun _ _=>rfl)))))))),?_⟩
  clear hu
  try dsimp only [L2.cxK,L2.cxK2]
  refine L2.let5 ?_
  intro U4 U3 U2 U1
  refine ⟨by show 0<=sizeLine;decide,fun so hso=>Zk ⟨_,rfl,Zk ?_⟩⟩
  have s0:=Zc (o:=.lst []) hso
  refine ⟨_,rfl,pn,rfl,⟨_,SqL.of (s0 _ _ hpn)⟩,xF (K:=K) (a:=pn) (xs:=ns.map V.int) (fun i σ H2=>∃(so:Addr) (left:Nat) (u5 u6 u7 u8 u9:Option V) (zs:List V) (pss:List (List V)),σ=[some (.ref pn),some (.ref tn),some (.int (most:Int)),some (.ref so),some (.int (left:Int)),u5,u6,u7,u8,u9]/\H2 so=some (.lst zs)/\H so=none/\YB H2 zs pss/\jQ ys pss/\Xk pss.flatten + left=most/\pss.flatten.length<=i/\pss.length<=i/\(1<=i->1<=pss.length)/\i<=ns.length/\ZT H H2) ⟨so,most,none,none,none,none,none,[],[],rfl,Za,hso,YB.nil,(fun ps hp=>by cases hp),Nat.zero_add _,Qah _,Qah _,(fun h=>absurd h (Nat.not_succ_le_zero _)),Qbg _,s0⟩ (by (intro i σ H2 _ zq8;(refine Oe9a10 zq8 fun _ _ _ _ _ _ _ _ _ _ _ _ _ _ _ _ _ _ _ s=>?_;clear zq8));exact SqL.of (s _ _ hpn)) ?_ ?_⟩
  ·rintro i x σ H2 hx hz_
   refine ZJ fun Gz hGz=>?_
   (refine Oe9a10 hz_ fun so left u5 u6 u7 u8 u9 zs pss zo15 h2 hso0 R2 G2 hrem hfl hpl hp1 _ s2=>?_;obtain rfl:=zo15;clear hz_)
   refine hGz ?_
   clear hGz Gz
   rw [Qap] at hx
   (refine Oe1a1 (Qc6.mp hx) fun n hn zo16=>?_;obtain rfl:=zo16)
   have hi:i < ns.length:=(Qae.mp hn).1
   have hn0:=hns n (Qax hn)
   have hzl:=R2.1
   refine ⟨_,rfl,_,rfl,n,(left:Int),rfl,hn0,fun y H3 hy hyr s3=>Zk ?_⟩
   have s23:=s2.trans s3
   have h3:=s3 _ _ h2
   have R3:=R2.same s3
   refine wU (fun σ H'=>σ=[some (.ref pn),some (.ref tn),some (.int (most:Int)),some (.ref so),some (.int (left:Int)),some (.int n),some (.str y),some (.int 2),u8,u9]/\H'=H3) (fun N hN=>hN _ _ ⟨rfl,rfl⟩) ?_
   rintro σ H3 hz_
   refine ZJ fun Gz hGz=>?_
   obtain ⟨rfl,rfl⟩:=hz_
   refine hGz ?_
   clear hGz Gz
   refine Ju (fun σ H'=>σ=[some (.ref pn),some (.ref tn),some (.int (most:Int)),some (.ref so),some (.int (left:Int)),some (.int n),some (.str y),some (.int (if y∈(["not","neg","twice","low"]:List Str) then 1 else 2)),u8,u9]/\ZT H3 H') (fun N hN=>?_) ?_
   ·refine ⟨_,rfl,by show 4<=sizeLine;decide,fun q hq=>⟨q,_,rfl,.inr (SqT.of Za),rfl,rfl,_,rfl,?_⟩⟩
    show if inV (.str y) ((["not","neg","twice","low"]:List Str).map V.str)=true then _ else _
    rw [Z1]
    have sq:=Zc (o:=.tup [.str "not",.str "neg",.str "twice",.str "low"]) hq
    by_cases h:y∈(["not","neg","twice","low"]:List Str)
    ·rw [Qan h] at hN
     rw [Qad h]
     exact YD (hN _ _ ⟨rfl,sq⟩)
    ·rw [Qal h] at hN
     rw [Qab h]
     exact Yj (hN _ _ ⟨rfl,sq⟩)
   rintro σ H4 hz_
   refine ZJ fun Gz hGz=>?_
   obtain ⟨rfl,s4⟩:=hz_
   refine hGz ?_
   clear hGz Gz
   refine Ju (fun σ H'=>σ=[some (.ref pn),some (.ref tn),some (.int (most:Int)),some (.ref so),some (.int (left:Int)),some (.int n),some (.str y),some (.int (ZR y:Int)),u8,u9]/\H'=H4) (fun N hN=>?_) ?_
   ·refine ⟨_,rfl,rfl,_,rfl,?_⟩
    unfold ZR at hN
    by_cases h:y = "pick"
    ·rw [Qan h] at hN
     rw [Qad (congrArg V.str h)]
     exact YD (hN _ _ ⟨rfl,rfl⟩)
    ·rw [Qal h] at hN
     rw [Qab fun z=>h (by injection z)]
     refine Yj (hN _ _ ⟨?_,rfl⟩)
     split <;> rfl
   rintro σ H5 hz_
   refine ZJ fun Gz hGz=>?_
   obtain ⟨rfl,rfl⟩:=hz_
   refine hGz ?_
   clear hGz Gz
   have s24:=s23.trans s4
   have h4:=s4 _ _ h3
   have R4:=R3.same s4
   have hbw:=ue y
   have atom:∀(D:Ends),(∀σ' H',(∃(so:Addr) (left:Nat) (u5 u6 u7 u8 u9:Option V) (zs:List V) (pss:List (List V)),σ'=[some (.ref pn),some (.ref tn),some (.int (most:Int)),some (.ref so),some (.int (left:Int)),u5,u6,u7,u8,u9]/\H' so=some (.lst zs)/\H so=none/\YB H' zs pss/\jQ ys pss/\Xk pss.flatten + left=most/\pss.flatten.length<=i + 1/\pss.length<=i + 1/\(1<=i + 1->1<=pss.length)/\i + 1<=ns.length/\ZT H H')->D.nx σ' H')->Zcr (tBM K "list" kM (JI 3) (qG (yY (Jm K) [] E0 (qG (JI 5) (qG (JI 1) Zev))) Zev)) D [some (.ref pn),some (.ref tn),some (.int (most:Int)),some (.ref so),some (.int (left:Int)),some (.int n),some (.str y),some (.int (ZR y:Int)),u8,u9] H5:=by
    intro D hD
    refine ⟨_,rfl,.inl ⟨rfl,_,SqL.of h4⟩,_,rfl,_,rfl,n,tn,ys,rfl,hn0,s24 _ _ htn,by lia,fun p w H6 hp0 hp hleaf s6=>?_⟩
    have h6:=s6 _ _ h4
    refine Oe0a2 (gM hyk hleaf) fun w1 w2 w3=>?_
    refine ⟨so,_,_,rfl,rfl,h6,Zm (by lia),hD _ _ ⟨so,left,_,_,_,_,_,zs++[.ref p],pss++[[w]],rfl,Za,hso0,?_,?_,?_,?_,?_,?_,hi,ZZ (s24.trans s6) hso0⟩⟩
    ·exact (JT (fun b xs e=>by rw [Zj (YC e h6 fun z=>nomatch z)];exact e) (R4.same s6)).snoc (by rw [Zj (YC hp h6 fun z=>nomatch z)];exact hp)
    ·intro ps hps
     rcases Qbd.mp hps with hps | hps
     ·exact G2 ps hps
     ·rw [Qa5.mp hps]
      exact ⟨v9 w2,fun v hv=>by rw [Qa5.mp hv];exact w1⟩
    ·rw [Qbx,J4]
     show Xk pss.flatten + Xk [w] + left=most
     rw [WG,w3]
     exact hrem
    ·rw [Qbx,Qac]
     show _ + 1<=_
     lia
    ·rw [Qac]
     show _ + 1<=_
     lia
    ·intro _
     rw [Qac]
     show 1<=_ + 1
     lia
   refine ⟨_,rfl,rfl,_,rfl,?_⟩
   by_cases hye:y = ""
   ·rw [Qad (congrArg V.str hye)]
    exact YD (YD (atom _ fun _ _ z=>z))
   rw [Qab fun z=>hye (by injection z)]
   refine Yj ⟨_,rfl,so,_,rfl,.inl (SqL.of h4),_,rfl,_,_,rfl,rfl,_,rfl,vR (fun _=>atom _ fun _ _ z=>z) (fun hlt=>?_)⟩
   have hw:ZR y<=zs.length:=by
    have:¬((zs.length:Int) < (ZR y:Int)):=fun z=>hlt (Qad z)
    lia
   have hys:y∈WA:=hy.resolve_left hye
   refine Oe0a2 (GL hyk hys) fun w1 w2 w3=>?_
   refine ⟨_,rfl,_,rfl,by show 1<=sizeLine;decide,fun q hq=>⟨q,[.str y],rfl,.inl Za,(fun v hv=>.inl ⟨y,Qa5.mp hv⟩),by show 1<=100;decide,fun H6 s6=>⟨_,_,rfl,rfl,Zk ?_⟩⟩⟩
   have s56:=(Zc (o:=.lst [.str y]) hq).trans s6
   obtain ⟨left',hl'⟩:∃left':Nat,(left:Int) - (([V.str y].filter jH).length:Int)=(left':Int)/\left=left' + if y∈Gh then 1 else 0:=by
    by_cases hr:y∈Gh
    ·have h0:left≠0:=fun z=>hyr (by rw [z];rfl) hr
     have e:[V.str y].filter jH=[.str y]:=List.filter_cons_of_pos (Qad hr)
     exact ⟨left - 1,by rw [e];show (left:Int) - 1=_;lia,by rw [Qan hr];lia⟩
    ·have e:[V.str y].filter jH=[]:=List.filter_cons_of_neg fun z=>hr (Qbp z)
     exact ⟨left,by rw [e];show (left:Int) - 0=_;lia,by rw [Qal hr];lia⟩
   try dsimp only
   rw [hl'.1]
   refine ⟨_,rfl,by show 1<=sizeLine;decide,fun b0 hb0=>Zk ?_⟩
   have s57:=s56.trans (Zc (o:=.tup [.str y]) hb0)
   have h7:=s57 _ _ h4
   have R7:=R4.same s57
   have hb7:=Za (H:=H6) (a:=b0) (o:=.tup [.str y])
   try dsimp only
   generalize upd H6 b0 (.tup [.str y])=H7 at *
   have ecut:GC zs (some ((zs.length:Int) - (ZR y:Int))) none=zs.drop (zs.length - ZR y):=by
    rw [show ((zs.length:Int) - (ZR y:Int))=((zs.length - ZR y:Nat):Int) by lia]
    exact g9 zs _
   have ecut2:GC zs none (some ((zs.length:Int) - (ZR y:Int)))=zs.take (zs.length - ZR y):=by
    rw [show ((zs.length:Int) - (ZR y:Int))=((zs.length - ZR y:Nat):Int) by lia]
    exact J2 zs _
   refine ⟨_,rfl,_,rfl,so,_,rfl,.inl (SqL.of h7),_,rfl,_,_,rfl,rfl,_,rfl,so,_,rfl,SqL.of h7,fun l1 hl1=>⟨l1,rfl,⟨_,SqL.of Za⟩,?_⟩⟩
   have s78:=Zc (o:=.lst (GC zs (some ((zs.length:Int) - (ZR y:Int))) none)) hl1
   have h8:=s78 _ _ h7
   have R8:=R7.same s78
   have hb8:=s78 _ _ hb7
   have hl18:=Za (H:=H7) (a:=l1) (o:=.lst (GC zs (some ((zs.length:Int) - (ZR y:Int))) none))
   have s28:=s24.trans (s57.trans s78)
   refine xF (K:=K) (a:=l1) (xs:=GC zs (some ((zs.length:Int) - (ZR y:Int))) none) (fun j σ H'=>∃(bt9:Addr) (u9:Option V),σ=[some (.ref pn),some (.ref tn),some (.int (most:Int)),some (.ref so),some (.int (left':Int)),some (.int n),some (.str y),some (.int (ZR y:Int)),some (.ref bt9),u9]/\H' bt9=some (.tup (.str y::((pss.drop (pss.length - ZR y)).take j).flatten))/\ZT (upd H7 l1 (.lst (GC zs (some ((zs.length:Int) - (ZR y:Int))) none))) H') ⟨b0,_,rfl,hb8,ZT.refl _⟩ (by (intro j σ H' _ zq8;(refine Oe2a2 zq8 fun _ _ _ _ s=>?_;clear zq8));exact SqL.of (s _ _ hl18)) ?_ ?_
   ·rintro j x σ H9 hx hz_
    refine ZJ fun Gz hGz=>?_
    (refine Oe2a2 hz_ fun bt9 u9 zo17 hb9 s9=>?_;obtain rfl:=zo17;clear hz_)
    refine hGz ?_
    clear hGz Gz
    rw [ecut,hzl] at hx
    refine ZJ fun Gz hGz=>?_
    (refine Oe2a2 ((R8.drop (pss.length - ZR y)).at hx) fun a r zo18 hr ha=>?_;obtain rfl:=zo18)
    refine hGz ?_
    clear hGz Gz
    have hlen:((pss.drop (pss.length - ZR y)).take j).flatten.length + r.length<=100:=by
     have e1:((pss.drop (pss.length - ZR y)).take (j + 1)).flatten.length<=pss.flatten.length:=by
      have e2:pss.flatten=(pss.take (pss.length - ZR y)).flatten++(((pss.drop (pss.length - ZR y)).take (j + 1)).flatten++((pss.drop (pss.length - ZR y)).drop (j + 1)).flatten):=by rw [<-Qbx,Qcc,<-Qbx,Qcc]
      rw [e2,Qac,Qac]
      lia
     rw [take_snoc hr,Qbx,Qac,Qcr,Qd1,Qa3] at e1
     lia
    refine ⟨_,rfl,_,rfl,bt9,a,_,_,rfl,rfl,hb9,s9 _ _ ha,?_,fun p9 H10 hp9 s10=>⟨p9,_,rfl,?_,s9.trans s10⟩⟩
    ·rw [Qa2]
     exact Qau (Zm (by lia))
    ·rw [hp9,take_snoc hr,Qbx,Qcr,Qd1,Qa3,Qdh]
   ·rintro σ H9 hz_
    refine ZJ fun Gz hGz=>?_
    (refine Oe2a2 hz_ fun bt9 u9 zo19 hb9 s9=>?_;obtain rfl:=zo19;clear hz_)
    refine hGz ?_
    clear hGz Gz
    rw [ecut,Qbc,hzl,Qbl (by rw [Qbc];lia)] at hb9
    have h9:=s9 _ _ h8
    refine ⟨_,rfl,_,rfl,so,_,rfl,.inl (SqL.of h9),_,rfl,_,_,rfl,rfl,_,rfl,so,_,rfl,SqL.of h9,fun l2 hl2=>⟨_,rfl,by show 1<=sizeLine;decide,fun l3 hl3=>?_⟩⟩
    rw [ecut2] at hl3 ⊢
    have s10:=Zc (o:=.lst (zs.take (zs.length - ZR y))) hl2
    have s11:=s10.trans (Zc (o:=.lst [.ref bt9]) hl3)
    refine ⟨l2,l3,_,_,rfl,rfl,Zc hl3 _ _ Za,Za,?_,fun l4 hl4=>?_⟩
    ·rw [Qav]
     exact Qau (Zm (by show _ + 1<=_;lia))
    have s12:=s11.trans (Zc (o:=.lst (zs.take (zs.length - ZR y)++[.ref bt9])) hl4)
    have s2z:=s28.trans (s9.trans s12)
    obtain ⟨f1,f2⟩:=zT pss (.str y) (pss.length - ZR y)
    refine ⟨l4,left',_,_,_,_,_,zs.take (zs.length - ZR y)++[.ref bt9],pss.take (pss.length - ZR y)++[.str y::(pss.drop (pss.length - ZR y)).flatten],rfl,Za,(s28.trans (s9.trans s11)).free hl4,?_,G2.word hyk hys (xD y hys) (by lia),?_,by lia,?_,?_,hi,s2z⟩
    ·have e9:pss.length - ZR y=zs.length - ZR y:=by lia
     rw [e9] at hb9 ⊢
     exact ((R8.same (s9.trans s12)).take _).snoc (s12 _ _ hb9)
    ·rw [f2,w3]
     have:=hl'.2
     by_cases hr:y∈Gh
     ·rw [Qan hr] at this
      rw [Qan (Qad hr)]
      lia
     ·rw [Qal hr] at this
      rw [Qal (fun z=>hr (Qbp z))]
      lia
    ·rw [Qac,Qav]
     show _ + 1<=_
     lia
    ·intro _
     rw [Qac]
     show 1<=_ + 1
     lia
  ·rintro σ H2 hz_
   refine ZJ fun Gz hGz=>?_
   (refine Oe9a10 hz_ fun so left u5 u6 u7 u8 u9 zs pss zo20 h2 hso0 R2 G2 hrem hfl hpl hp1 _ s2=>?_;obtain rfl:=zo20;clear hz_)
   refine hGz ?_
   clear hGz Gz
   rw [Qaa] at hfl hpl hp1
   have hp1:=hp1 h1
   refine wX (fun σ H2=>∃(so:Addr) (zs:List V) (pss:List (List V)),σ=[some (.ref pn),some (.ref tn),some (.int (most:Int)),some (.ref so),some (.int (left:Int)),u5,u6,u7,u8,u9]/\H2 so=some (.lst zs)/\YB H2 zs pss/\jQ ys pss/\Xk pss.flatten<=most/\pss.flatten.length + pss.length<=2 * ns.length/\1<=pss.length/\ZT H H2) (fun σ H=>match σ with | [_,_,_,some (.ref so),_,_,_,_,_,_]=>(match H so with | some (.lst zs)=>zs.length | _=>0) | _=>0) ⟨so,zs,pss,rfl,h2,R2,G2,by lia,by lia,hp1,s2⟩ ?_
   rintro σ H2 hz_
   refine ZJ fun Gz hGz=>?_
   (refine Oe3a7 hz_ fun so zs pss zo21 h2 R2 G2 hrem hfl hp1 s2=>?_;obtain rfl:=zo21;clear hz_)
   refine hGz ?_
   clear hGz Gz
   have hzl:=R2.1
   refine ⟨_,rfl,so,_,rfl,.inl (SqL.of h2),_,_,rfl,rfl,_,rfl,vR (fun hgt=>?_) (fun hng=>?_)⟩
   ·have hz2:2<=zs.length:=by
     have:=Qbp hgt
     lia
    refine ⟨fun σ' H'=>∃(so:Addr) (zs':List V) (pss':List (List V)),σ'=[some (.ref pn),some (.ref tn),some (.int (most:Int)),some (.ref so),some (.int (left:Int)),u5,u6,u7,u8,u9]/\H' so=some (.lst zs')/\YB H' zs' pss'/\jQ ys pss'/\Xk pss'.flatten<=most/\pss'.flatten.length + pss'.length<=2 * ns.length/\1<=pss'.length/\zs'.length < zs.length/\ZT H H',?_,?_⟩
    ·rintro σ' H' hz_
     refine ZJ fun Gz hGz=>?_
     (refine Oe3a8 hz_ fun so' zs' pss' zo22 g1 g2 g3 g4 g5 g6 g7 g8=>?_;obtain rfl:=zo22;clear hz_)
     refine hGz ?_
     clear hGz Gz
     refine ⟨zs'.length,?_,?_,so',zs',pss',rfl,g1,g2,g3,g4,g5,g6,g8⟩
     ·show zs'.length < (match H2 so with | some (.lst zs)=>zs.length | _=>0)
      rw [h2]
      exact g7
     ·show _=(match H' so' with | some (.lst zs)=>zs.length | _=>0)
      rw [g1]
    ·have pl:pss.length=zs.length:=hzl.symm
     refine Oe1a1 (R2.2 (zs.length - 2) _ (Qai (by lia))) fun a ha1 ha=>?_
     refine Oe1a1 (R2.2 (zs.length - 1) _ (Qai (by lia))) fun b hb1 hb=>?_
     have at2:=yI (n:=2) ha1 (by lia) (by decide)
     have at1:=yI (n:=1) hb1 (by lia) (by decide)
     have ecut:GC zs none (some (-2))=zs.take (zs.length - 2):=gN (xs:=zs) (n:=2) hz2 (by decide)
     have e2:pss.drop (zs.length - 2)=[pss[zs.length - 2]'(by lia),pss[zs.length - 1]'(by lia)]:=by
      rw [Qb8 (by lia),Qb8 (by lia),List.drop_of_length_le (by lia)]
      congr 2
      congr 1
      lia
     generalize pss[zs.length - 2]'(by lia)=pa at *
     generalize pss[zs.length - 1]'(by lia)=pb at *
     have hpab:pa.length + pb.length<=pss.flatten.length:=by
      have e3:pss.flatten=(pss.take (zs.length - 2)).flatten++(pss.drop (zs.length - 2)).flatten:=by rw [<-Qbx,Qcc]
      rw [e3,e2,Qac]
      show _<=_ + (pa++(pb++[])).length
      rw [Qa3,Qac]
      lia
     refine Oe1a1 (J0 (ys:=["and","or","odd"]) (i:=(zs.length:Int) % 3) (Qa6 _ (by decide)) (Qaw _ (by decide))) fun y hy ey=>?_
     refine Oe0a2 ((by decide +kernel:∀z∈(["and","or","odd"]:List Str),z∈WA/\z∉Gh/\ZG z=2) y hy) fun y1 y2 y3=>?_
     refine Oe0a2 (GL hyk y1) fun w1 w2 w3=>?_
     refine ⟨_,rfl,_,rfl,_,rfl,so,_,rfl,SqL.of h2,fun l1 hl1=>⟨by show 3<=sizeLine;decide,fun g hg=>?_⟩⟩
     have s3:=Zc (o:=.lst (GC zs none (some (-2)))) hl1
     have s4:=s3.trans (Zc (o:=.lst [.str "and",.str "or",.str "odd"]) hg)
     refine ⟨_,rfl,so,_,rfl,.inl (SqL.of (s4 _ _ h2)),_,_,rfl,rfl,(by show (0:Int) < 3;decide),g,_,_,_,rfl,rfl,SqL.of Za,ey,by show 1<=sizeLine;decide,fun q1 hq1=>?_⟩
     have s5:=s4.trans (Zc (o:=.tup [.str y]) hq1)
     refine ⟨_,rfl,_,rfl,so,_,-2,.ref a,rfl,rfl,SqL.of (s5 _ _ h2),at2,q1,a,_,_,rfl,rfl,Za,s5 _ _ ha,?_,fun q2 H6 hq2 s6=>?_⟩
     ·exact Qau (Zm (by show 1 + _<=_;lia))
     have s26:=s5.trans s6
     refine ⟨_,rfl,_,rfl,so,_,-1,.ref b,rfl,rfl,SqL.of (s26 _ _ h2),at1,q2,b,_,_,rfl,rfl,hq2,s26 _ _ hb,?_,fun q3 H7 hq3 s7=>⟨by show 1<=sizeLine;decide,fun l3 hl3=>⟨l1,l3,GC zs none (some (-2)),[.ref q3],rfl,rfl,?_,Za,?_,fun l4 hl4=>?_⟩⟩⟩
     ·exact Qau (Zm (by rw [Qac];show 1 + _ + _<=_;lia))
     ·exact ((Zc hg).trans ((Zc hq1).trans (s6.trans (s7.trans (Zc hl3))))) _ _ Za
     ·rw [ecut,Qav]
      exact Qau (Zm (by show _ + 1<=_;lia))
     have s8:=s26.trans (s7.trans (Zc (o:=.lst [.ref q3]) hl3))
     have s9:=s8.trans (Zc (o:=.lst (GC zs none (some (-2))++[.ref q3])) hl4)
     obtain ⟨f1,f2⟩:=zT pss (.str y) (zs.length - 2)
     have G3:=G2.word hyk y1 y3 (by lia)
     rw [show pss.length - 2=zs.length - 2 by lia] at G3
     rw [e2] at f1 f2 G3
     have efl:[pa,pb].flatten=pa++pb:=by simp
     rw [efl] at f1 f2 G3
     have hq3':H7 q3=some (.tup (.str y::(pa++pb))):=by rw [hq3];rfl
     refine Zk ⟨l4,zs.take (zs.length - 2)++[.ref q3],pss.take (zs.length - 2)++[.str y::(pa++pb)],rfl,?_,?_,G3,?_,?_,?_,?_,s2.trans s9⟩
     ·rw [Za,ecut]
     ·exact ((R2.same s9).take _).snoc (((Zc hl3).trans (Zc hl4)) _ _ hq3')
     ·rw [f2,w3,Qal (fun z=>y2 (Qbp z))]
      exact hrem
     ·rw [f1,Qac,Qav]
      show _ + 1 + (_ + 1)<=2 * ns.length
      lia
     ·rw [Qac]
      show 1<=_ + 1
      lia
     ·rw [Qac,Qav]
      show _ + 1 < _
      lia
   ·have hz1:zs.length=1:=by
     have:¬((1:Int) < (zs.length:Int)):=fun z=>hng (Qad z)
     lia
    match zs,pss,hz1,hzl,R2,G2,hrem,hfl,h2 with
    | [z],[ps],_,_,R2,G2,hrem,hfl,h2 =>
     refine ZJ fun Gz hGz=>?_
     (refine Oe2a2 (R2.at (i:=0) rfl) fun a r zo23 hr ha=>?_;obtain rfl:=zo23)
     refine hGz ?_
     clear hGz Gz
     cases hr
     obtain ⟨g1,g2⟩:=G2 ps Qaf
     obtain ⟨e1,e2⟩:=g1.one
     rw [Qcr,Qd1,Qa3] at hrem hfl
     exact ⟨_,rfl,so,_,0,_,rfl,rfl,SqL.of h2,rfl,k a ps H2 ha (by lia) g2 e1 e2 hrem s2⟩
inductive Wi(vs:List V)(H:Hp)(Q:VK):Prop
 | mk (y:Str) (W:Nat) (v u:V) (r:Bool):(vs=[.str y,v,u,.int (W:Int)])->(1<=W)->(W<=64)->(((y∈(["same","under","beneath"]:List Str)/\∃a b:Int,v=.int a/\u=.int b/\0<=a/\a < 2 ^ W/\0<=b/\b < 2 ^ W/\r=jE (2 ^ W) y [a,b])\/(y∈(["both","either","so"]:List Str)/\∃p q:Bool,v=.bl p/\u=.bl q/\r=Zex y [p,q])))->(Q (.bl r) H)->Wi vs H Q
noncomputable def WM(K:PySem.W.Frag):Sp:=fun vs H Q _=>Wi vs H Q
theorem qE (T:Txt K w mg t) (TB:Tbs mg base t):ZO P w K mg base CX0 2 t.a_law_two_hold t.f_law_two_hold ["word","one","other","width"] (WM K):=by
 have G_law_signed:ZO P w K mg base CX0 1 t.a_law_signed t.f_law_signed ["one","width"] (JB K):=zk T TB
 refine T.d_law_two_hold.F.ok qz (fun vs H Q E h=>?_) (fun cdv A outer s H vs Q E hr h=>?_)
 ·obtain ⟨y,W,v,u,r,rfl,hW,hW2,hy,k⟩:=h
  rfl
 ·obtain ⟨y,W,v,u,r,rfl,hW,hW2,hy,k⟩:=h
  have hu:=Yr hr
  refine ⟨_,@QSs.out _ _ _ (Zb (ZD (Zr Yc (qv 0) Zh (Z6 _))
    (Zf (Zt (Wk Yc (qv 1) (qv 2) (Z6 _)))) Z0)
    (Zb (ZD (Zr Yc (qv 0) Zh (Z6 _))
    (Zf (Zt (Wk yW (qv 1) (qv 2) (Z6 _)))) Z0)
    (Zb (ZD (Zr Yc (qv 0) Zh (Z6 _))
    (Zf (Zt (Wk yW (Zl G_law_signed (hr.mono (by decide)) rfl T.d_law_signed.m T.d_law_signed.F.kp T.d_law_signed.b .nil ZE (Zi (qv 1) (Zi (qv 3) Zd))) (Zl G_law_signed (hr.mono (by decide)) rfl T.d_law_signed.m T.d_law_signed.F.kp T.d_law_signed.b .nil ZE (Zi (qv 2) (Zi (qv 3) Zd))) (Z6 _)))) Z0)
    (Zb (ZD (Zr Yc (qv 0) Zh (Z6 _))
    (Zf (Zt (Zbs (qv 1) (yh (qv 2))))) Z0)
    (Zb (ZD (Zr Yc (qv 0) Zh (Z6 _))
    (Zf (Zt (Zfe (qv 1) (yh (qv 2))))) Z0)
    (Zf (Zt (Zfe (qv 2) (yh (Zbt (qv 1))))))))))),?_⟩
  clear hu hr
  try dsimp only [L2.cxK,L2.cxK2]
  refine L2.let6 ?_
  intro U5 U4 U3 U2 U1
  refine ⟨_,rfl,rfl,_,rfl,?_⟩
  rcases hy with ⟨hy,a,b,rfl,rfl,a0,a1,b0,b1,rfl⟩ | ⟨hy,p,q,rfl,rfl,rfl⟩
  ·simp only [Qaj,Qa0,Qcg] at hy
   rcases hy with rfl | rfl | rfl
   ·rw [Qad rfl]
    exact YD ⟨_,rfl,_,rfl,rfl,(congrArg (fun z=>Q (V.bl z) H) (Qci.mpr ⟨fun e=>(by rw [show a=b from e]),fun e=>(by injection e)⟩)).mp k⟩
   ·rw [Qab (by decide +kernel)]
    refine Yj ⟨_,rfl,rfl,_,rfl,?_⟩
    rw [Qad rfl]
    exact YD ⟨_,rfl,_,rfl,_,_,rfl,rfl,k⟩
   ·rw [Qab (by decide +kernel)]
    refine Yj ⟨_,rfl,rfl,_,rfl,?_⟩
    rw [Qab (by decide +kernel)]
    refine Yj ⟨_,rfl,rfl,_,rfl,?_⟩
    rw [Qad rfl]
    exact YD ⟨_,rfl,_,rfl,a,W,rfl,hW,hW2,a0,a1,_,rfl,_,rfl,b,W,rfl,hW,hW2,b0,b1,_,_,rfl,rfl,k⟩
  ·simp only [Qaj,Qa0,Qcg] at hy
   have n3:∀y∈(["both","either","so"]:List Str),y ≠ "same" /\ y ≠ "under" /\ y ≠ "beneath" := by decide +kernel
   (refine Oe0a2 (n3 y (by simp only [Qaj,Qa0,Qcg];exact hy)) fun n1 n2 n3=>?_)
   rw [Qab fun z=>n1 (by injection z)]
   refine Yj ⟨_,rfl,rfl,_,rfl,?_⟩
   rw [Qab fun z=>n2 (by injection z)]
   refine Yj ⟨_,rfl,rfl,_,rfl,?_⟩
   rw [Qab fun z=>n3 (by injection z)]
   refine Yj ⟨_,rfl,rfl,_,rfl,?_⟩
   rcases hy with rfl | rfl | rfl
   ·rw [Qad rfl]
    refine YD ⟨_,rfl,_,rfl,?_⟩
    cases p with
    | true=>exact YD ⟨_,rfl,k⟩
    | false=>exact Yj k
   ·rw [Qab (by decide +kernel)]
    refine Yj ⟨_,rfl,rfl,_,rfl,?_⟩
    rw [Qad rfl]
    refine YD ⟨_,rfl,_,rfl,?_⟩
    cases p with
    | true=>exact YD k
    | false=>exact Yj ⟨_,rfl,k⟩
   ·rw [Qab (by decide +kernel)]
    refine Yj ⟨_,rfl,rfl,_,rfl,?_⟩
    rw [Qab (by decide +kernel)]
    refine Yj ⟨_,rfl,_,rfl,?_⟩
    cases q with
    | true=>exact YD k
    | false=>exact Yj ⟨_,rfl,_,rfl,k⟩
inductive W5(vs:List V)(H:Hp)(Q:VK):Prop
 | mk (s:Addr) (stk:List V) (w:V):(vs=[.ref s,w])->(H s=some (.lst stk.reverse))->(w=kV (keyOf w))->(npw w<=stk.length)->(stk.length<=100)->(∀pl H',H pl=none->H' pl=some (.lst (stk.take (npw w)))->H' s=some (.lst (stk.drop (npw w)).reverse)->(∀b o,H b=some o->b≠s->H' b=some o)->Q (.ref pl) H')->W5 vs H Q
noncomputable def Jc(K:PySem.W.Frag):Sp:=fun vs H Q _=>W5 vs H Q
theorem qZ (T:Txt K w mg t) (TB:Tbs mg base t):ZO P w K mg base CX0 3 t.a_parts_taken t.f_parts_taken ["stack","word"] (Jc K):=by
 have G_parts_of:ZO P w K mg base CX0 2 t.a_parts_of t.f_parts_of ["word"] (qB K):=ya T TB
 refine T.d_parts_taken.F.ok qT (fun vs H Q E h=>?_) (fun cdv A outer s H vs Q E hr h=>?_)
 ·obtain ⟨st,stk,x,rfl,hs,hx,hn,hl,k⟩:=h
  rfl
 ·obtain ⟨st,stk,x,rfl,hs,hx,hn,hl,k⟩:=h
  have hu:=Yr hr
  refine ⟨_,@QSs.out _ _ _ (Zf (Zt (Wl (⟨by rfl,by decide +kernel,by decide +kernel,by rfl,by decide +kernel,by decide +kernel,by rfl,by decide +kernel⟩:YF (Zg Yp) _ ["stack","word"] "part" ["stack"] [0]) (Xh rfl T.z_range (Zi (Zl G_parts_of (hr.mono (by decide)) rfl T.d_parts_of.m T.d_parts_of.F.kp T.d_parts_of.b .nil ZE (Zi (qv 1) Zd)) Zd)) (fun _ _ _ _=>Js) (fun _ _ _ _=>(show QE _ _ (Zf1 K "list" rPop (JI 1)) from (Gd Qak Qcd Qce GW (qv 1))))))),?_⟩
  clear hu hr
  try dsimp only [L2.cxK,L2.cxK2]
  refine ⟨_,rfl,keyOf x,congrArg (fun z=>[z]) hx,Xr (keyOf x),rfl,?_,?_,xi (n:=(Xr (keyOf x)).toNat) (fun i zs H2=>i<=npw x/\zs=stk.take i/\H2 st=some (.lst (stk.drop i).reverse)/\∀b o,H b=some o->b≠st->H2 b=some o) ⟨Qbg _,rfl,hs,fun b o e _=>e⟩ ?_ ?_ ?_⟩
  ·have:=qe (keyOf x)
   lia
  ·have:=qe (keyOf x)
   lia
  ·rintro i zs H2 hz_
   refine ZJ fun Gz hGz=>?_
   (refine Oe0a3 hz_ fun _ zo24 _ _=>?_;obtain rfl:=zo24;clear hz_)
   refine hGz ?_
   clear hGz Gz
   rw [Qav]
   exact Qau (Zm (by lia))
  ·rintro i zs H2 R hR hi hz_
   refine ZJ fun Gz hGz=>?_
   (refine Oe0a3 hz_ fun hi1 zo25 h2 o2=>?_;obtain rfl:=zo25;clear hz_)
   refine hGz ?_
   clear hGz Gz
   have hi2:i < npw x:=hi
   have hi3:i < stk.length:=by lia
   rw [Zd3 hi3] at h2
   unfold Zew
   try dsimp only
   rw [Qan rfl]
   refine ⟨_,rfl,.inl ⟨rfl,_,SqL.of h2⟩,st,_,stk[i],rfl,rfl,h2,Xi _ _,hR _ _ ⟨hi2,?_,?_,fun b o e hb=>?_⟩⟩
   ·rw [take_snoc (Qai hi3)]
   ·rw [Za,Qb3]
   ·rw [Zj hb]
    exact o2 b o e hb
  ·rintro zs H2 hz_ l hl2
   refine ZJ fun Gz hGz=>?_
   (refine Oe0a3 hz_ fun hi1 zo26 h2 o2=>?_;obtain rfl:=zo26;clear hz_)
   refine hGz ?_
   clear hGz Gz
   have hlH:H l=none:=by
    cases q:H l with
    | none=>rfl
    | some o =>
     by_cases hb:l=st
     ·rw [hb,h2] at hl2
      cases hl2
     ·rw [o2 l o q hb] at hl2
      cases hl2
   have hls:st≠l:=Zo h2 hl2
   refine k l _ hlH Za ?_ fun b o e hb=>?_
   ·rw [Zj hls]
    exact h2
   ·rw [Zj (Zo e hlH)]
    exact o2 b o e hb
inductive Jd(vs:List V)(H:Hp)(Q:VK):Prop
 | mk (tw dv:Addr) (W:Nat) (ws:List V) (kvs:List (Key × V)) (v:V):(vs=[.ref tw,.int (W:Int),.ref dv])->(1<=W)->(W<=64)->(H tw=some (.tup ws))->(ws.length<=100)->(Rd H dv (.dK kvs))->(HTo W kvs v ws.reverse [])->(∀H',ZT H H'->Q v H')->Jd vs H Q
noncomputable def XE(K:PySem.W.Frag):Sp:=fun vs H Q _=>Jd vs H Q
theorem Gv (T:Txt K w mg t) (TB:Tbs mg base t):ZO P w K mg base CX0 3 t.a_law_holds t.f_law_holds ["claim","width","values"] (XE K):=by
 have G_law_one:ZO P w K mg base CX0 1 t.a_law_one t.f_law_one ["word","one"] (x8 K):=vN T TB
 have G_law_one_holds:ZO P w K mg base CX0 1 t.a_law_one_holds t.f_law_one_holds ["word","one","width"] (W3 K):=G7 T TB
 have G_law_two:ZO P w K mg base CX0 1 t.a_law_two t.f_law_two ["word","one","other"] (x9 K):=vO T TB
 have G_law_two_hold:ZO P w K mg base CX0 2 t.a_law_two_hold t.f_law_two_hold ["word","one","other","width"] (WM K):=qE T TB
 refine T.d_law_holds.F.ok YM (fun vs H Q E h=>?_) (fun cdv A outer s H vs Q E hr h=>?_)
 ·obtain ⟨tw,dv,W,ws,kvs,v,rfl,hW1,hW,ht,hl,hd,hto,k⟩:=h
  rfl
 ·obtain ⟨tw,dv,W,ws,kvs,v,rfl,hW1,hW,ht,hl,hd,hto,k⟩:=h
  have hu:=Yr hr
  refine ⟨_,@QSs.out _ _ _ (Zb (Zp (i:=3) YM.nd rfl (Or.inl rfl) (Zn zm Ze (qv 1)))
    (Zb (Zp (i:=4) YM.nd rfl (Or.inl rfl) (Y7 Zd))
    (Zb (X8 PassesOwn.never rfl (zx (qe_rev rv_tup (qv 0) (W9 WD Ze))) (YI (i:=5) YM.nd rfl (Or.inl rfl))
    (Zf (ZD (xf (Zx xI (by rfl) T.z_isinstance Wj (Zi (qv 5) (Zi (jr (v:=.ty "int") (by rfl) T.z_int yg rfl) Zd))))
    (Zf (Yd (YE Qak Qaq Qar ZC (qv 4) (Zi (Zn ZV (qv 5) (qv 3)) Zd)))) (Zf (ZD (Zr (xl hu) (qv 5) (qv 2) (by with_unfolding_all rfl))
    (Zf (Yd (YE Qak Qaq Qar ZC (qv 4) (Zi (GY hu (qv 2) (qv 5) (fun _ _=>rfl)) Zd)))) (Zf (ZD (Zr Yc (qv 5) Zh (Z6 _))
    (Zf (Yd (YE Qak Qaq Qar ZC (qv 4) (Zi kT Zd)))) (Zf (ZD (Zr ZH (qv 5) (ZF (Zi Zh (Zi Zh (Zi Zh (Zi Zh Zd))))) (by with_unfolding_all rfl))
    (Zf (Yd (YE Qak Qaq Qar ZC (qv 4) (Zi (Zn ZV (Zl G_law_one (hr.mono (by decide)) rfl T.d_law_one.m T.d_law_one.F.kp T.d_law_one.b .nil ZE (Zi (qv 5) (Zi (Gd Qak Qcd Qce GW (qv 4)) Zd))) (qv 3)) Zd)))) (Zf (ZD (Zr ZH (qv 5) (ZF (Zi Zh (Zi Zh (Zi Zh Zd)))) (by with_unfolding_all rfl))
    (Zf (Yd (YE Qak Qaq Qar ZC (qv 4) (Zi (Zl G_law_one_holds (hr.mono (by decide)) rfl T.d_law_one_holds.m T.d_law_one_holds.F.kp T.d_law_one_holds.b .nil ZE (Zi (qv 5) (Zi (Gd Qak Qcd Qce GW (qv 4)) (Zi (qv 1) Zd)))) Zd)))) (Zb (Zp (i:=6) YM.nd rfl (Or.inl rfl) (Gd Qak Qcd Qce GW (qv 4)))
    (Zb (Zp (i:=7) YM.nd rfl (Or.inl rfl) (Gd Qak Qcd Qce GW (qv 4)))
    (Zf (ZD (Zr Yc (qv 5) Zh (Z6 _))
    (Zf (Yd (YE Qak Qaq Qar ZC (qv 4) (Zi (Zn qF (Zn Xl (qv 6) (qv 7)) (Zn Xl (Zn XT (Zn XT (qv 3) Ze) (qv 6)) (Gd Qak Qcd Qce GW (qv 4)))) Zd)))) (Zf (ZD (Zr ZH (qv 5) (ZF (Zi Zh (Zi Zh (Zi Zh (Zi Zh (Zi Zh Zd)))))) (by with_unfolding_all rfl))
    (Zf (Yd (YE Qak Qaq Qar ZC (qv 4) (Zi (Zn ZV (Zl G_law_two (hr.mono (by decide)) rfl T.d_law_two.m T.d_law_two.F.kp T.d_law_two.b .nil ZE (Zi (qv 5) (Zi (qv 6) (Zi (qv 7) Zd)))) (qv 3)) Zd)))) (Zf (Yd (YE Qak Qaq Qar ZC (qv 4) (Zi (Zl G_law_two_hold (hr.mono (by decide)) rfl T.d_law_two_hold.m T.d_law_two_hold.F.kp T.d_law_two_hold.b .nil ZE (Zi (qv 5) (Zi (qv 6) (Zi (qv 7) (Zi (qv 1) Zd))))) Zd)))))))))))))))))))))
    (Zf (Zt (Z5 Zs (qv 4) Ze (fun _ _=>rfl))))))),?_⟩
  clear hu hr
  try dsimp only [L2.cxK,L2.cxK2]
  refine L2.let4 ?_
  intro U3 U2 U1
  refine ⟨_,rfl,_,_,rfl,rfl,⟨Qbk _,by lia,by decide⟩,?_⟩
  try dsimp only
  rw [Qeq,Qaz]
  refine Zk ⟨by show 0<=sizeLine;decide,fun st hst0=>Zk ?_⟩
  have s1:=Zc (o:=.lst []) hst0
  have hp:=Wn W
  refine ⟨_,rfl,1,rfl,rfl,tw,_,rfl,SqT.of (s1 _ _ ht),fun tr htr=>⟨_,rfl,⟨_,SqT.of Za⟩,?_⟩⟩
  have s2:=s1.trans (Zc (o:=.tup ws.reverse) htr)
  have htr2:upd (upd H st (.lst [])) tr (.tup ws.reverse) tr=some (.tup ws.reverse):=Za
  have hst2:upd (upd H st (.lst [])) tr (.tup ws.reverse) st=some (.lst []):=Zc htr _ _ Za
  have hne:tr≠st:=fun z=>by rw [z,Za] at htr;cases htr
  generalize upd (upd H st (.lst [])) tr (.tup ws.reverse)=H0 at *
  refine Zcx (K:=K) (a:=tr) (xs:=ws.reverse) (fun i σ H2=>∃u5 u6 u7 l,σ=[some (.ref tw),some (.int (W:Int)),some (.ref dv),some (.int (2 ^ W)),some (.ref st),u5,u6,u7]/\H2 st=some (.lst l.reverse)/\HTo W kvs v (ws.reverse.drop i) l/\l.length<=i/\H2 tr=some (.tup ws.reverse)/\ZT H H2) ⟨none,none,none,[],rfl,hst2,hto,Qah _,htr2,s2⟩ (by (intro i σ H2 _ zq8;(refine Oe4a5 zq8 fun _ _ _ _ _ _ _ _ e _=>?_;clear zq8));exact SqT.of e) ?_ ?_
  ·rintro i x σ H2 hx hz_
   refine ZJ fun Gz hGz=>?_
   (refine Oe4a5 hz_ fun u5 u6 u7 l zo27 h2s hto hll h2t s3=>?_;obtain rfl:=zo27;clear hz_)
   refine hGz ?_
   clear hGz Gz
   have hi:=(Qae.mp hx).1
   have ed:ws.reverse.drop i=x::ws.reverse.drop (i + 1):=by
    rw [Qb8 hi]
    congr 1
    exact (Qae.mp hx).2
   rw [ed] at hto
   rw [Qbv] at hi
   refine Oe1a1 hto.head fun l' hstep hto2=>?_
   clear hto
   rename HTo _ _ _ _ l'=>hto
   have hd2:Rd H2 dv (.dK kvs):=gv hd s3
   have fin:∀(v:V) (Hx:Hp) (l:List V),l.length<=100->Hx st=some (.lst l.reverse)->Hx tr=some (.tup ws.reverse)->ZT H Hx->l.reverse.length < sizeLine/\upd Hx st (.lst (l.reverse++[v])) st=some (.lst (v::l).reverse)/\upd Hx st (.lst (l.reverse++[v])) tr=some (.tup ws.reverse)/\ZT H (upd Hx st (.lst (l.reverse++[v]))):=fun v Hx l hl' e1 e2 sx=>by
    refine ⟨?_,by rw [Za,Qca],by rw [Zj hne];exact e2,ZZ sx hst0⟩
    rw [Qbv]
    exact Zm (by lia)
   cases hstep with
   | @num z l =>
    refine Oe0a3 (fin (.int (z % 2 ^ W)) H2 l (by lia) h2s h2t s3) fun f1 f2 f3 f4=>?_
    exact ⟨_,rfl,_,_,_,_,rfl,.int z,Jg,_,rfl,YD ⟨_,rfl,.inl ⟨rfl,_,SqL.of h2s⟩,_,rfl,_,rfl,_,_,rfl,rfl,hp,st,_,_,rfl,rfl,h2s,f1,_,_,_,_,rfl,f2,hto,Qco hll,f3,f4⟩⟩
   | @nam y v' l hv =>
    refine ⟨_,rfl,_,_,_,_,rfl,.str y,YZ,_,rfl,Yj ⟨_,rfl,_,rfl,dv,YH kvs (.inr y),rfl,.inl ⟨kvs,.inr y,hd2,rfl,rfl⟩,_,rfl,?_⟩⟩
    show if (YH kvs (.inr y)).isSome=true then _ else _
    rw [hv]
    refine Oe0a3 (fin v' H2 l (by lia) h2s h2t s3) fun f1 f2 f3 f4=>?_
    exact YD ⟨_,rfl,.inl ⟨rfl,_,SqL.of h2s⟩,_,rfl,_,rfl,dv,_,rfl,.inl ⟨kvs,.inr y,hd2,rfl,hv.symm⟩,st,_,_,rfl,rfl,h2s,f1,_,_,_,_,rfl,f2,hto,Qco hll,f3,f4⟩
   | @sum y is l hn hy hnp e3 =>
    have hlb:l.length<=i:=by rw [Qac] at hll;lia
    have hyes:y ≠ "yes" := fun z=>GN y hy (by rw [z];decide +kernel)
    refine ⟨_,rfl,_,_,_,_,rfl,.str y,YZ,_,rfl,Yj ⟨_,rfl,_,rfl,dv,YH kvs (.inr y),rfl,.inl ⟨kvs,.inr y,hd2,rfl,rfl⟩,_,rfl,?_⟩⟩
    show if (YH kvs (.inr y)).isSome=true then _ else _
    rw [hn]
    refine Yj ⟨_,rfl,rfl,_,rfl,?_⟩
    rw [Qab fun z=>hyes (by injection z)]
    refine Yj ⟨_,rfl,by show 4<=sizeLine;decide,fun q hq=>⟨q,_,rfl,.inr (SqT.of Za),rfl,rfl,_,rfl,?_⟩⟩
    show if inV (.str y) ((["not","neg","twice","low"]:List Str).map V.str)=true then _ else _
    rw [Z1]
    have s4:=Zc (o:=.tup [.str "not",.str "neg",.str "twice",.str "low"]) hq
    have h3s:=s4 _ _ h2s
    have h3t:=s4 _ _ h2t
    have s5:=s3.trans s4
    generalize upd H2 q (.tup [.str "not",.str "neg",.str "twice",.str "low"])=H3 at *
    by_cases h1:y∈(["not","neg","twice","low"]:List Str)
    ·rw [Qad h1]
     have hp1:ZG y=1:=(by decide +kernel:∀y∈(["not","neg","twice","low"]:List Str),ZG y=1) y h1
     rw [hp1] at hnp
     obtain ⟨a,rfl⟩:∃a,is=[a]:=by
      match is,hnp with
      | [a],_=>exact ⟨_,rfl⟩
     have hpop:=Zen h3s
     refine YD ⟨_,rfl,.inl ⟨rfl,_,SqL.of h3s⟩,_,rfl,_,rfl,.inl ⟨rfl,_,SqL.of hpop⟩,st,_,_,rfl,rfl,hpop,Xi _ _,y,a,rfl,_,rfl,_,_,rfl,rfl,hp,?_⟩
     rw [Qb3]
     (refine Oe0a3 (fin (.int (Zf4 y a % 2 ^ W)) (upd H3 st (.lst l.reverse)) l (by lia) Za (by rw [Zj hne];exact h3t) (ZZ s5 hst0)) fun f1 f2 f3 f4=>?_)
     exact ⟨st,_,_,rfl,rfl,Za,f1,_,_,_,_,rfl,f2,hto,Qco hlb,f3,f4⟩
    ·rw [Qab h1]
     refine Yj ⟨_,rfl,by show 3<=sizeLine;decide,fun q2 hq2=>⟨q2,_,rfl,.inr (SqT.of Za),rfl,rfl,_,rfl,?_⟩⟩
     show if inV (.str y) ((["sign","nought","never"]:List Str).map V.str)=true then _ else _
     rw [Z1,Qab ((by decide +kernel:∀y∈WA,y∉(["sign","nought","never"]:List Str)) y hy)]
     have s4':=Zc (o:=.tup [.str "sign",.str "nought",.str "never"]) hq2
     have h3s:=s4' _ _ h3s
     have h3t:=s4' _ _ h3t
     have s5:=s5.trans s4'
     generalize upd H3 q2 (.tup [.str "sign",.str "nought",.str "never"])=H3 at *
     have h23:(ZG y=2/\y ≠ "pick" /\ y∈(["and","or","odd","add","sub"]:List Str))\/(y = "pick" /\ ZG y=3):=(by decide +kernel:∀y∈WA,y∉(["not","neg","twice","low"]:List Str)->(ZG y=2/\y ≠ "pick" /\ y∈(["and","or","odd","add","sub"]:List Str))\/(y = "pick" /\ ZG y=3)) y hy h1
     obtain ⟨a,b,js,rfl⟩:∃a b js,is=a::b::js:=by
      have h2:2<=is.length:=by
       rcases h23 with h | h
       ·lia
       ·lia
      match is,h2 with
      | a::b::js,_=>exact ⟨a,b,js,rfl⟩
     have hpa:=Zen h3s
     refine Yj ⟨_,rfl,.inl ⟨rfl,_,SqL.of hpa⟩,st,_,_,rfl,rfl,hpa,Xi _ _,Zk ?_⟩
     rw [Qb3]
     have s6:=ZZ (o:=.lst ((V.int b::(js.map V.int++l)).reverse)) s5 hst0
     have h4s:upd H3 st (.lst ((V.int b::(js.map V.int++l)).reverse)) st=some (.lst ((V.int b::(js.map V.int++l)).reverse)):=Za
     have h4t:upd H3 st (.lst ((V.int b::(js.map V.int++l)).reverse)) tr=some (.tup ws.reverse):=by rw [Zj hne];exact h3t
     show Yi _ _ _ _ (upd H3 st (.lst ((V.int b::(js.map V.int++l)).reverse)))
     generalize upd H3 st (.lst ((V.int b::(js.map V.int++l)).reverse))=H4 at *
     have hpb:=Zen h4s
     refine ⟨_,rfl,.inl ⟨rfl,_,SqL.of hpb⟩,st,_,_,rfl,rfl,hpb,Xi _ _,Zk ?_⟩
     rw [Qb3]
     have s7:=ZZ (o:=.lst (js.map V.int++l).reverse) s6 hst0
     have h5s:upd H4 st (.lst (js.map V.int++l).reverse) st=some (.lst (js.map V.int++l).reverse):=Za
     have h5t:upd H4 st (.lst (js.map V.int++l).reverse) tr=some (.tup ws.reverse):=by rw [Zj hne];exact h4t
     generalize upd H4 st (.lst (js.map V.int++l).reverse)=H5 at *
     have hll:l.length<=100:=by lia
     refine ⟨_,rfl,rfl,_,rfl,?_⟩
     rcases h23 with ⟨h2,hpk,hin⟩ | ⟨hpk,h3⟩
     ·rw [Qab (fun z=>hpk (by injection z))]
      rw [h2] at hnp
      obtain rfl:js=[]:=by cases js with | nil=>rfl | cons _ _=>simp at hnp
      refine Yj ⟨_,rfl,by show 5<=sizeLine;decide,fun q3 hq3=>⟨q3,_,rfl,.inr (SqT.of Za),rfl,rfl,_,rfl,?_⟩⟩
      show if inV (.str y) ((["and","or","odd","add","sub"]:List Str).map V.str)=true then _ else _
      rw [Z1,Qad hin]
      have s8:=Zc (o:=.tup [.str "and",.str "or",.str "odd",.str "add",.str "sub"]) hq3
      refine Oe0a3 (fin (.int (Zf5 y a b % 2 ^ W)) _ l (by lia) (s8 _ _ h5s) (s8 _ _ h5t) (s7.trans s8)) fun f1 f2 f3 f4=>?_
      exact YD ⟨_,rfl,.inl ⟨rfl,_,SqL.of (s8 _ _ h5s)⟩,_,rfl,_,rfl,_,rfl,y,a,b,rfl,_,rfl,_,_,rfl,rfl,hp,st,_,_,rfl,rfl,s8 _ _ h5s,f1,_,_,_,_,rfl,f2,hto,Qco hlb,f3,f4⟩
     ·rw [Qad (congrArg V.str hpk)]
      rw [h3] at hnp
      obtain ⟨c,rfl⟩:∃c,js=[c]:=by
       match js,hnp with
       | [c],_=>exact ⟨_,rfl⟩
      have ha:=e3 a Qaf
      have hb:=e3 b (Qag _ Qaf)
      have hcc:=e3 c (Qag _ (Qag _ Qaf))
      have hpc:=Zen h5s
      refine YD ⟨_,rfl,.inl ⟨rfl,_,SqL.of h5s⟩,_,rfl,_,rfl,_,_,rfl,rfl,_,rfl,_,_,rfl,rfl,_,rfl,_,_,rfl,rfl,_,rfl,.inl ⟨rfl,_,SqL.of hpc⟩,st,_,_,rfl,rfl,hpc,Xi _ _,_,_,rfl,rfl,_,_,rfl,rfl,?_⟩
      rw [Qb3]
      try dsimp only
      rw [Zag ha.1 ha.2 hb.1 hb.2 hcc.1 hcc.2]
      (refine Oe0a3 (fin (.int (Builtin.bitOr (Builtin.bitAnd a b) (Builtin.bitAnd (Builtin.bitNot a) c) % 2 ^ W)) (upd H5 st (.lst l.reverse)) l (by lia) Za (by rw [Zj hne];exact h5t) (ZZ s7 hst0)) fun f1 f2 f3 f4=>?_)
      exact ⟨st,_,_,rfl,rfl,Za,f1,_,_,_,_,rfl,f2,hto,Qco hlb,f3,f4⟩
   | @clm y vs b' l hn hy cond =>
    have hlb:l.length<=i:=by rw [Qac] at hll;lia
    refine Oe0a2 (gZ y hy) fun c1 c2 c3=>?_
    refine ⟨_,rfl,_,_,_,_,rfl,.str y,YZ,_,rfl,Yj ⟨_,rfl,_,rfl,dv,YH kvs (.inr y),rfl,.inl ⟨kvs,.inr y,hd2,rfl,rfl⟩,_,rfl,?_⟩⟩
    show if (YH kvs (.inr y)).isSome=true then _ else _
    rw [hn]
    refine Yj ⟨_,rfl,rfl,_,rfl,?_⟩
    rcases cond with ⟨hyes,rfl,rfl⟩ | ⟨v,hsn,hyes,rfl,hcd⟩ | ⟨v,u,hsn,hyes,rfl,hcd⟩
    ·rw [Qad (congrArg V.str hyes)]
     refine Oe0a3 (fin (.bl true) H2 l (by lia) h2s h2t s3) fun f1 f2 f3 f4=>?_
     exact YD ⟨_,rfl,.inl ⟨rfl,_,SqL.of h2s⟩,st,_,_,rfl,rfl,h2s,f1,_,_,_,_,rfl,f2,hto,Qco hlb,f3,f4⟩
    ·rw [Qab fun z=>hyes (by injection z)]
     refine Yj ⟨_,rfl,by show 4<=sizeLine;decide,fun q hq=>⟨q,_,rfl,.inr (SqT.of Za),rfl,rfl,_,rfl,?_⟩⟩
     show if inV (.str y) ((["not","neg","twice","low"]:List Str).map V.str)=true then _ else _
     rw [Z1,Qab c1]
     have s4:=Zc (o:=.tup [.str "not",.str "neg",.str "twice",.str "low"]) hq
     have h3s:=s4 _ _ h2s
     have h3t:=s4 _ _ h2t
     have s5:=s3.trans s4
     generalize upd H2 q (.tup [.str "not",.str "neg",.str "twice",.str "low"])=H3 at *
     refine Yj ⟨_,rfl,by show 3<=sizeLine;decide,fun q2 hq2=>⟨q2,_,rfl,.inr (SqT.of Za),rfl,rfl,_,rfl,?_⟩⟩
     show if inV (.str y) ((["sign","nought","never"]:List Str).map V.str)=true then _ else _
     rw [Z1,Qad hsn]
     have s4':=Zc (o:=.tup [.str "sign",.str "nought",.str "never"]) hq2
     have h3s:=s4' _ _ h3s
     have h3t:=s4' _ _ h3t
     have s5:=s5.trans s4'
     generalize upd H3 q2 (.tup [.str "sign",.str "nought",.str "never"])=H3 at *
     have hpop:=Zen h3s
     refine YD ⟨_,rfl,.inl ⟨rfl,_,SqL.of h3s⟩,_,rfl,_,rfl,.inl ⟨rfl,_,SqL.of hpop⟩,st,_,_,rfl,rfl,hpop,Xi _ _,_,rfl,y,W,v,b',rfl,hW1,hW,hcd,?_⟩
     rw [Qb3]
     (refine Oe0a3 (fin (.bl b') (upd H3 st (.lst l.reverse)) l (by lia) Za (by rw [Zj hne];exact h3t) (ZZ s5 hst0)) fun f1 f2 f3 f4=>?_)
     exact ⟨st,_,_,rfl,rfl,Za,f1,_,_,_,_,rfl,f2,hto,Qco hlb,f3,f4⟩
    ·rw [Qab fun z=>hyes (by injection z)]
     refine Yj ⟨_,rfl,by show 4<=sizeLine;decide,fun q hq=>⟨q,_,rfl,.inr (SqT.of Za),rfl,rfl,_,rfl,?_⟩⟩
     show if inV (.str y) ((["not","neg","twice","low"]:List Str).map V.str)=true then _ else _
     rw [Z1,Qab c1]
     have s4:=Zc (o:=.tup [.str "not",.str "neg",.str "twice",.str "low"]) hq
     have h3s:=s4 _ _ h2s
     have h3t:=s4 _ _ h2t
     have s5:=s3.trans s4
     generalize upd H2 q (.tup [.str "not",.str "neg",.str "twice",.str "low"])=H3 at *
     refine Yj ⟨_,rfl,by show 3<=sizeLine;decide,fun q2 hq2=>⟨q2,_,rfl,.inr (SqT.of Za),rfl,rfl,_,rfl,?_⟩⟩
     show if inV (.str y) ((["sign","nought","never"]:List Str).map V.str)=true then _ else _
     rw [Z1,Qab hsn]
     have s4':=Zc (o:=.tup [.str "sign",.str "nought",.str "never"]) hq2
     have h3s:=s4' _ _ h3s
     have h3t:=s4' _ _ h3t
     have s5:=s5.trans s4'
     generalize upd H3 q2 (.tup [.str "sign",.str "nought",.str "never"])=H3 at *
     have hpa:=Zen h3s
     refine Yj ⟨_,rfl,.inl ⟨rfl,_,SqL.of hpa⟩,st,_,_,rfl,rfl,hpa,Xi _ _,Zk ?_⟩
     rw [Qb3]
     have s6:=ZZ (o:=.lst ((u::l).reverse)) s5 hst0
     have h4s:upd H3 st (.lst ((u::l).reverse)) st=some (.lst ((u::l).reverse)):=Za
     have h4t:upd H3 st (.lst ((u::l).reverse)) tr=some (.tup ws.reverse):=by rw [Zj hne];exact h3t
     show Yi _ _ _ _ (upd H3 st (.lst ((u::l).reverse)))
     generalize upd H3 st (.lst ((u::l).reverse))=H4 at *
     have hpb:=Zen h4s
     refine ⟨_,rfl,.inl ⟨rfl,_,SqL.of hpb⟩,st,_,_,rfl,rfl,hpb,Xi _ _,Zk ?_⟩
     rw [Qb3]
     have s7:=ZZ (o:=.lst l.reverse) s6 hst0
     have h5s:upd H4 st (.lst l.reverse) st=some (.lst l.reverse):=Za
     have h5t:upd H4 st (.lst l.reverse) tr=some (.tup ws.reverse):=by rw [Zj hne];exact h4t
     generalize upd H4 st (.lst l.reverse)=H5 at *
     have hll:l.length<=100:=by lia
     refine ⟨_,rfl,rfl,_,rfl,?_⟩
     rw [Qab (fun z=>c2 (by injection z))]
     refine Yj ⟨_,rfl,by show 5<=sizeLine;decide,fun q3 hq3=>⟨q3,_,rfl,.inr (SqT.of Za),rfl,rfl,_,rfl,?_⟩⟩
     show if inV (.str y) ((["and","or","odd","add","sub"]:List Str).map V.str)=true then _ else _
     rw [Z1,Qab c3]
     have s8:=Zc (o:=.tup [.str "and",.str "or",.str "odd",.str "add",.str "sub"]) hq3
     refine Oe0a3 (fin (.bl b') _ l (by lia) (s8 _ _ h5s) (s8 _ _ h5t) (s7.trans s8)) fun f1 f2 f3 f4=>?_
     exact Yj ⟨_,rfl,.inl ⟨rfl,_,SqL.of (s8 _ _ h5s)⟩,_,rfl,_,rfl,_,rfl,_,rfl,y,W,v,u,b',rfl,hW1,hW,hcd,st,_,_,rfl,rfl,s8 _ _ h5s,f1,_,_,_,_,rfl,f2,hto,Qco hlb,f3,f4⟩
  ·rintro σ H2 hz_
   refine ZJ fun Gz hGz=>?_
   (refine Oe4a5 hz_ fun u5 u6 u7 l zo28 h2s hto hll h2t s3=>?_;obtain rfl:=zo28;clear hz_)
   refine hGz ?_
   clear hGz Gz
   rw [Qd0] at hto
   cases hto.end_
   exact ⟨_,rfl,st,_,0,_,rfl,rfl,SqL.of h2s,rfl,k H2 s3⟩
inductive Gw(vs:List V)(H:Hp)(Q:VK):Prop
 | mk (tw dv kt:Addr) (ys:List Str) (ws:List V) (kvs:List (Key × V)) (cols:Str->Int) (pl:Nat) (kp:List Int) (o:Int) (lt:List Int):(vs=[.ref tw,.ref dv,.int (pl:Int),.ref kt])->(H tw=some (.tup ws))->(ws.length<=100)->(H dv=some (.dK kvs))->(Zd9 kvs ys cols)->(H kt=some (.tup (kp.map V.int)))->((∀w∈ws,xY ys w))->(Y9 ws)->(XA ys cols pl kp ws=([o],lt))->(lt.length<=kp.length)->(∀t l H',H t=none->H' t=some (.tup [.int o,.ref l])->H' l=some (.lst (lt.map V.int))->ZT H H'->Q (.ref t) H')->Gw vs H Q
noncomputable def xE(K:PySem.W.Frag):Sp:=fun vs H Q _=>Gw vs H Q
theorem vQ (T:Txt K w mg t) (TB:Tbs mg base t):ZO P w K mg base CX0 4 t.a_stepped t.f_stepped ["words","columns","place","kept"] (xE K):=by
 have G_remembers:ZO P w K mg base CX0 1 t.a_remembers t.f_remembers ["word"] (WH K):=Gk T TB
 have G_out_by_kept:ZO P w K mg base CX0 2 t.a_out_by_kept t.f_out_by_kept ["word","parts","held","then"] (Ja K):=qY T TB
 have G_kept_then:ZO P w K mg base CX0 2 t.a_kept_then t.f_kept_then ["word","parts","held"] (Gr K):=je T TB
 have G_out_at_once:ZO P w K mg base CX0 1 t.a_out_at_once t.f_out_at_once ["word","parts"] (WV K):=qV T TB
 have G_parts_taken:ZO P w K mg base CX0 3 t.a_parts_taken t.f_parts_taken ["stack","word"] (Jc K):=qZ T TB
 refine T.d_stepped.F.ok X0 (fun vs H Q E h=>?_) (fun cdv A outer s H vs Q E hr h=>?_)
 ·obtain ⟨tw,dv,kt,ys,ws,kvs,cols,pl,kp,o,lt,rfl,ht,hl,hd,hc,hk,hw,he,hst,hkl,k⟩:=h
  rfl
 ·obtain ⟨tw,dv,kt,ys,ws,kvs,cols,pl,kp,o,lt,rfl,ht,hl,hd,hc,hk,hw,he,hst,hkl,k⟩:=h
  have hu:=Yr hr
  refine ⟨_,@QSs.out _ _ _ (Zb (Zp (i:=4) X0.nd rfl (Or.inl rfl) (Y7 Zd))
    (Zb (Zp (i:=5) X0.nd rfl (Or.inl rfl) (Y7 Zd))
    (Zb (X8 PassesOwn.never rfl (we rfl T.z_reversed (qv 0)) (YI (i:=6) X0.nd rfl (Or.inl rfl))
    (Zb (Zp (i:=7) X0.nd rfl (Or.inl rfl) (Zl G_parts_taken (hr.mono (by decide)) rfl T.d_parts_taken.m T.d_parts_taken.F.kp T.d_parts_taken.b .nil ZE (Zi (qv 4) (Zi (qv 6) Zd))))
    (Zf (ZD (xf (Zl G_remembers (hr.mono (by decide)) rfl T.d_remembers.m T.d_remembers.F.kp T.d_remembers.b .nil ZE (Zi (qv 6) Zd)))
    (Zb (Zp (i:=8) X0.nd rfl (Or.inl rfl) (W9 WD (Z5 YQ (qv 3) (Zx Zv (by rfl) T.z_len Yk (Zi (qv 5) Zd)) (fun _ _=>rfl))))
    (Zb (Yd (YE Qak Qaq Qar ZC (qv 5) (Zi (Zl G_kept_then (hr.mono (by decide)) rfl T.d_kept_then.m T.d_kept_then.F.kp T.d_kept_then.b .nil ZE (Zi (qv 6) (Zi (qv 7) (Zi (qv 8) Zd)))) Zd)))
    (Zf (Yd (YE Qak Qaq Qar ZC (qv 4) (Zi (Zl G_out_by_kept (hr.mono (by decide)) rfl T.d_out_by_kept.m T.d_out_by_kept.F.kp T.d_out_by_kept.b .nil ZE (Zi (qv 6) (Zi (qv 7) (Zi (qv 8) (Zi (Z5 Zs (qv 5) (W9 WD Ze) (fun _ _=>rfl)) Zd))))) Zd)))))) (Zf (ZD (xf (Zx xI (by rfl) T.z_isinstance Wj (Zi (qv 6) (Zi (jr (v:=.ty "int") (by rfl) T.z_int yg rfl) Zd))))
    (Zf (Yd (YE Qak Qaq Qar ZC (qv 4) (Zi (W9 WD (Zn Xl (Zn xa (qv 6) (qv 2)) Ze)) Zd)))) (Zf (ZD (Zr (xl hu) (qv 6) (qv 1) (by with_unfolding_all rfl))
    (Zf (Yd (YE Qak Qaq Qar ZC (qv 4) (Zi (GY hu (qv 1) (qv 6) (fun _ _=>rfl)) Zd)))) (Zf (Yd (YE Qak Qaq Qar ZC (qv 4) (Zi (Zl G_out_at_once (hr.mono (by decide)) rfl T.d_out_at_once.m T.d_out_at_once.F.kp T.d_out_at_once.b .nil ZE (Zi (qv 6) (Zi (qv 7) Zd))) Zd))))))))))))
    (Zf (Zt (ZF (Zi (Gd Qak Qcd Qce GW (qv 4)) (Zi (qv 5) Zd)))))))),?_⟩
  clear hu hr
  try dsimp only [L2.cxK,L2.cxK2]
  refine L2.let4 ?_
  intro U3 U2 U1
  refine ⟨by show 0<=sizeLine;decide,fun st hst0=>Zk ⟨by show 0<=sizeLine;decide,fun la hla0=>Zk ?_⟩⟩
  have s1:=Zc (o:=.lst []) hst0
  have s2:=s1.trans (Zc (o:=.lst []) hla0)
  have hsl:st≠la:=Zo (Za (H:=H) (a:=st) (o:=.lst [])) hla0
  have hlaH:H la=none:=s1.free hla0
  refine ⟨_,rfl,tw,_,rfl,SqT.of (s2 _ _ ht),wg (K:=K) (a:=tw) (xs:=ws) (fun i σ H2=>∃u6 u7 u8,σ=[some (.ref tw),some (.ref dv),some (.int (pl:Int)),some (.ref kt),some (.ref st),some (.ref la),u6,u7,u8]/\i<=ws.length/\H2 st=some (.lst ((XA ys cols pl kp (ws.drop (ws.length - i))).1.map V.int).reverse)/\H2 la=some (.lst ((XA ys cols pl kp (ws.drop (ws.length - i))).2.map V.int))/\ZT H H2) ⟨none,none,none,rfl,Qbg _,?_,?_,s2⟩ (by (intro i σ H2 _ zq8;(refine Oe3a4 zq8 fun _ _ _ _ _ _ _ s=>?_;clear zq8));exact SqT.of (s _ _ ht)) ?_ ?_⟩
  ·rw [Qel,Qd0,Zj hsl]
   exact Za
  ·rw [Qel,Qd0]
   exact Za
  ·rintro i x σ H2 hx hz_
   refine ZJ fun Gz hGz=>?_
   (refine Oe3a4 hz_ fun u6 u7 u8 zo29 hi0 h2s h2l s3=>?_;obtain rfl:=zo29;clear hz_)
   refine hGz ?_
   clear hGz Gz
   obtain ⟨hi,hx⟩:=rev_at hx
   have ed:ws.drop (ws.length - (i + 1))=x::ws.drop (ws.length - i):=by
    rw [show ws.length - (i + 1)=ws.length - 1 - i by lia,Qb8 (by lia),show ws.length - 1 - i + 1=ws.length - i by lia]
    congr 1
    exact (Qae.mp hx).2
   have hwx:=hw x (Qax hx)
   have hen:=qk ws (ws.length - (i + 1)) he
   have hmo:=zN ys cols pl kp ws (ws.length - (i + 1))
   rw [hst] at hmo
   rw [ed] at hen hmo ⊢
   have hln:=xZ (ys:=ys) (cols:=cols) (pl:=pl) (kp:=kp) (ws.drop (ws.length - i)) fun w h=>hw w (Qcp h)
   have hle2:=gp (ws.drop (ws.length - i))
   rw [Qbc] at hle2
   have hmo2:=zM ys cols pl kp x (ws.drop (ws.length - i))
   have hlb:=yB ys cols pl kp (ws.drop (ws.length - i))
   rw [Qbc] at hlb
   generalize ws.drop (ws.length - i)=r at *
   have hn:=hen.1
   have eC:∀z:V,XA ys cols pl kp (z::r)=match z with
    | .str y =>
     if y∈allR then (okI y ((XA ys cols pl kp r).1.take (npw z)) (-(kp.getD (XA ys cols pl kp r).2.length 0)) (ktI y ((XA ys cols pl kp r).1.take (npw z)) (-(kp.getD (XA ys cols pl kp r).2.length 0)))::(XA ys cols pl kp r).1.drop (npw z),(XA ys cols pl kp r).2++[ktI y ((XA ys cols pl kp r).1.take (npw z)) (-(kp.getD (XA ys cols pl kp r).2.length 0))])
     else if y∈ys then (cols y::(XA ys cols pl kp r).1.drop (npw z),(XA ys cols pl kp r).2)
     else (oaI y ((XA ys cols pl kp r).1.take (npw z))::(XA ys cols pl kp r).1.drop (npw z),(XA ys cols pl kp r).2)
    | .int z'=>(-(bt z' pl)::(XA ys cols pl kp r).1.drop (npw z),(XA ys cols pl kp r).2)
    | _=>XA ys cols pl kp r:=fun z=>by cases z <;> rfl
   have eX:=eC x
   clear eC
   generalize XA ys cols pl kp r=P at *
   obtain ⟨stk,l2⟩:=P
   try dsimp only at *
   have hkx:x=kV (keyOf x)/\JK x=true:=by
    rcases hwx with ⟨y,rfl,_⟩ | ⟨y,rfl,_⟩ | ⟨y,rfl,_⟩ | ⟨z,rfl,_⟩ <;> exact ⟨rfl,rfl⟩
   refine ⟨_,rfl,_,rfl,st,stk.map V.int,x,rfl,h2s,hkx.1,by rw [Qaa];lia,by rw [Qaa];lia,fun pp H3 hpp0 hpp h3s o3=>Zk ?_⟩
   rw [<-Qdf] at hpp
   rw [<-Qc3] at h3s
   have h3l:=o3 _ _ h2l hsl.symm
   have s4:ZT H H3:=fun b o e=>o3 b o (s3 b o e) (Zo e hst0)
   have hln3:(stk.take (npw x)).length=npw x:=by rw [Qav];lia
   have hps:pp≠st:=fun z=>by rw [z,h2s] at hpp0;cases hpp0
   have hpl2:pp≠la:=fun z=>by rw [z,h2l] at hpp0;cases hpp0
   refine ⟨_,rfl,x,rfl,hkx.2,_,rfl,?_⟩
   have sml:((stk.drop (npw x)).map V.int).reverse.length < sizeLine:=by
    rw [Qbv,Qaa,Qbc]
    exact Zm (by lia)
   have fin:∀(v:Int) (Hx:Hp),XA ys cols pl kp (x::r)=(v::stk.drop (npw x),l2)->ZT H3 Hx->upd Hx st (.lst (((stk.drop (npw x)).map V.int).reverse++[.int v])) st=some (.lst ((XA ys cols pl kp (x::r)).1.map V.int).reverse)/\upd Hx st (.lst (((stk.drop (npw x)).map V.int).reverse++[.int v])) la=some (.lst ((XA ys cols pl kp (x::r)).2.map V.int))/\ZT H (upd Hx st (.lst (((stk.drop (npw x)).map V.int).reverse++[.int v]))):=fun v Hx e sx=>by
    rw [e]
    refine ⟨by rw [Za,Qa4,Qca],by rw [Zj hsl.symm];exact sx _ _ h3l,ZZ (s4.trans sx) hst0⟩
   rcases hwx with ⟨y,rfl,hy,hny,hn1,hn2⟩ | ⟨y,rfl,hy,hna,hny,hnp⟩ | ⟨y,rfl,hy,hna,hnp⟩ | ⟨z,rfl,hz,hnp⟩
   ·show if inV (.str y) (allR.map V.str)=true then _ else _
    rw [Z1,Qad hy]
    have eX:XA ys cols pl kp (.str y::r)=(okI y (stk.take (npw (.str y))) (-(kp.getD l2.length 0)) (ktI y (stk.take (npw (.str y))) (-(kp.getD l2.length 0)))::stk.drop (npw (.str y)),l2++[ktI y (stk.take (npw (.str y))) (-(kp.getD l2.length 0))]):=by
     rw [eX]
     exact Qan hy
    have hkk:l2.length < kp.length:=by
     rw [eX] at hmo
     simp only [Qac,Qa2,Qc0] at hmo
     lia
    refine YD ⟨_,rfl,_,rfl,la,_,rfl,.inl (SqL.of h3l),kt,_,_,.int (kp.getD l2.length 0),rfl,rfl,SqT.of (s4 _ _ hk),?_,_,rfl,?_⟩
    ·rw [Qaa]
     exact Z3 _ rfl hkk
    try dsimp only
    generalize -(kp.getD l2.length 0)=hh at *
    refine Zk ?_
    refine ⟨_,rfl,.inl ⟨rfl,_,SqL.of h3l⟩,_,rfl,_,rfl,_,rfl,y,pp,stk.take (npw (.str y)),hh,rfl,hpp,by lia,hy,(fun h=>by have:=hn2 h;lia),fun H4 s5=>⟨la,_,_,rfl,rfl,s5 _ _ h3l,?_,?_⟩⟩
    ·rw [Qaa]
     exact Zm (by lia)
    have h5s:upd H4 la (.lst (l2.map V.int++[.int (ktI y (stk.take (npw (.str y))) hh)])) st=some (.lst ((stk.drop (npw (.str y))).map V.int).reverse):=by rw [Zj hsl];exact s5 _ _ h3s
    have h5p:upd H4 la (.lst (l2.map V.int++[.int (ktI y (stk.take (npw (.str y))) hh)])) pp=some (.lst ((stk.take (npw (.str y))).map V.int)):=by rw [Zj hpl2];exact s5 _ _ hpp
    have h5l:upd H4 la (.lst (l2.map V.int++[.int (ktI y (stk.take (npw (.str y))) hh)])) la=some (.lst (l2.map V.int++[.int (ktI y (stk.take (npw (.str y))) hh)])):=Za
    have s6:ZT H (upd H4 la (.lst (l2.map V.int++[.int (ktI y (stk.take (npw (.str y))) hh)]))):=ZZ (s4.trans s5) hlaH
    generalize upd H4 la (.lst (l2.map V.int++[.int (ktI y (stk.take (npw (.str y))) hh)]))=H5 at *
    refine ⟨_,rfl,.inl ⟨rfl,_,SqL.of h5s⟩,_,rfl,_,rfl,_,rfl,_,rfl,1,rfl,la,_,-1,.int (ktI y (stk.take (npw (.str y))) hh),rfl,rfl,SqL.of h5l,uB _ _,y,pp,stk.take (npw (.str y)),hh,_,rfl,h5p,by lia,hy,(fun h=>by have:=hn2 h;lia),fun H6 s7=>⟨st,_,_,rfl,rfl,s7 _ _ h5s,sml,_,_,_,rfl,hi,?_,?_,ZZ (s6.trans s7) hst0⟩⟩
    ·rw [Za,eX,Qa4,Qca]
    ·rw [Zj hsl.symm,eX,Qbj]
     exact s7 _ _ h5l
   ·show if inV (.str y) (allR.map V.str)=true then _ else _
    rw [Z1,Qab hna]
    have eX:XA ys cols pl kp (.str y::r)=(oaI y (stk.take (npw (.str y)))::stk.drop (npw (.str y)),l2):=by
     rw [eX]
     show (if y∈allR then _ else if y∈ys then _ else _)=_
     rw [Qal hna,Qal hny]
    refine Yj ⟨_,rfl,_,_,_,_,rfl,.str y,YZ,_,rfl,Yj ⟨_,rfl,_,rfl,dv,YH kvs (.inr y),rfl,.inl ⟨kvs,.inr y,.inl (s4 _ _ hd),rfl,rfl⟩,_,rfl,?_⟩⟩
    show if (YH kvs (.inr y)).isSome=true then _ else _
    rw [hc.2 y hny]
    refine Yj ⟨_,rfl,.inl ⟨rfl,_,SqL.of h3s⟩,_,rfl,_,rfl,y,pp,stk.take (npw (.str y)),rfl,hpp,hy,by rw [hln3,hnp],fun H4 s5=>?_⟩
    refine Oe0a2 (fin _ H4 eX s5) fun f1 f2 f3=>?_
    exact ⟨st,_,_,rfl,rfl,s5 _ _ h3s,sml,_,_,_,rfl,hi,f1,f2,f3⟩
   ·show if inV (.str y) (allR.map V.str)=true then _ else _
    rw [Z1,Qab hna]
    have eX:XA ys cols pl kp (.str y::r)=(cols y::stk.drop (npw (.str y)),l2):=by
     rw [eX]
     show (if y∈allR then _ else if y∈ys then _ else _)=_
     rw [Qal hna,Qan hy]
    refine Yj ⟨_,rfl,_,_,_,_,rfl,.str y,YZ,_,rfl,Yj ⟨_,rfl,_,rfl,dv,YH kvs (.inr y),rfl,.inl ⟨kvs,.inr y,.inl (s4 _ _ hd),rfl,rfl⟩,_,rfl,?_⟩⟩
    show if (YH kvs (.inr y)).isSome=true then _ else _
    rw [hc.1 y hy]
    refine Oe0a2 (fin _ H3 eX (ZT.refl _)) fun f1 f2 f3=>?_
    exact YD ⟨_,rfl,.inl ⟨rfl,_,SqL.of h3s⟩,_,rfl,_,rfl,dv,_,rfl,.inl ⟨kvs,.inr y,.inl (s4 _ _ hd),rfl,(hc.1 y hy).symm⟩,st,_,_,rfl,rfl,h3s,sml,_,_,_,rfl,hi,f1,f2,f3⟩
   ·show if inV (.int z) (allR.map V.str)=true then _ else _
    rw [ql]
    refine Yj ⟨_,rfl,_,_,_,_,rfl,.int z,Jg,_,rfl,YD ⟨_,rfl,.inl ⟨rfl,_,SqL.of h3s⟩,_,rfl,_,rfl,_,_,rfl,rfl,Qbk pl,_,_,rfl,rfl,_,rfl,?_⟩⟩
    have ev:-(Builtin.bitAnd (z / 2 ^ (pl:Int).toNat) 1)=-(bt z pl):=by
     rw [and_1,Qaz]
     rfl
    try dsimp only
    rw [ev]
    refine Oe0a2 (fin _ H3 eX (ZT.refl _)) fun f1 f2 f3=>?_
    exact ⟨st,_,_,rfl,rfl,h3s,sml,_,_,_,rfl,hi,f1,f2,f3⟩
  ·rintro σ H2 hz_
   refine ZJ fun Gz hGz=>?_
   (refine Oe3a4 hz_ fun u6 u7 u8 zo30 hi0 h2s h2l s3=>?_;obtain rfl:=zo30;clear hz_)
   refine hGz ?_
   clear hGz Gz
   rw [Qdv,Qc5,hst] at h2s h2l
   refine ⟨_,rfl,.inl ⟨rfl,_,SqL.of h2s⟩,st,_,.int o,rfl,rfl,h2s,rfl,_,rfl,by show 2<=sizeLine;decide,fun tt htt=>?_⟩
   have hlt:upd H2 st (.lst []) la=some (.lst (lt.map V.int)):=by rw [Zj hsl.symm];exact h2l
   have s5:ZT H (upd H2 st (.lst [])):=ZZ s3 hst0
   exact k tt la _ (s5.free htt) Za (Zc htt _ _ hlt) (s5.trans (Zc htt))
inductive XF(P:Program)(w:World)(K:PySem.W.Frag)(mg:Str->Option Value)(base:Heap)(vs:List V)(H:Hp)(Q:VK):Prop
 | mk (κ:Type) (dq:DecidableEq κ) (sk:SK κ) (pn f:Addr) (nm:List Str) (b:κ) (bv:V) (nx:κ->List κ) (ot:κ->List V) (U:List κ) (τ:Sp):(vs=[.ref pn,bv,.ref f])->(H pn=some (.tup (nm.map V.str)))->(sk.at_ H b bv)->(b∈U)->((∀s∈U,(nx s).length<=8/\(ot s).length<=8/\∀x∈nx s,x∈U))->(U.length<=1000000)->(nm.length<=3)->(X9 P w K mg base 12 f H τ)->((∀(s:κ) (sv:V) (H1:Hp) (Q':VK),s∈U->sk.at_ H1 s sv->ZT H H1->(∀t r1 r2 ws H2,H2 t=some (.tup [.ref r1,.ref r2])->SqF H1 H2 r1 ws->StA sk H2 (nx s) ws->SqF H1 H2 r2 (ot s)->ZT H1 H2->Q' (.ref t) H2)->τ [sv] H1 Q' E0))->(∀p sts m (l:List κ) ws H',BfE nx b l->H' p=some (.tup [.ref sts,.ref m])->H sts=none->H' sts=some (.lst ws)->StA sk H' l ws->M4 H' m nm 0 (rnG nx l) (l.map ot)->ZT H H'->Q (.ref p) H')->XF P w K mg base vs H Q
noncomputable def W6(P:Program)(w:World)(K:PySem.W.Frag)(mg:Str->Option Value)(base:Heap):Sp:=fun vs H Q _=>XF P w K mg base vs H Q
theorem G8 (T:Txt K w mg t) (TB:Tbs mg base t):ZO P w K mg base CX0 13 t.a_machine_found t.f_machine_found ["names","begin","step_of"] (W6 P w K mg base):=by
 have G_state_number:ZO P w K mg base CX0 1 t.a_state_number t.f_state_number ["state","states","numbers"] (WI K):=q9 T TB
 refine T.d_machine_found.F.ok ZX (fun vs H Q E h=>?_) (fun cdv A outer s H vs Q E hr h=>?_)
 ·obtain ⟨κ,_,sk,pn,f,nm,b,bv,nx,ot,U,τ,rfl,hpn,hbv,hb,hU,h2,hn3,hc,hτ,k⟩:=h
  rfl
 ·obtain ⟨κ,_,sk,pn,f,nm,b,bv,nx,ot,U,τ,rfl,hpn,hbv,hb,hU,h2,hn3,hc,hτ,k⟩:=h
  have hu:=Yr hr
  refine ⟨_,@QSs.out _ _ _ (Zb (Zp (i:=3) ZX.nd rfl (Or.inr rfl) (Y7 (Zi (qv 1) Zd)))
    (Zb (Zp (i:=4) ZX.nd rfl (Or.inr rfl) (QE.or (wQ (yt hr) (qv 1) Ze) (xT (GJ (qv 1) Ze xS) rfl rfl (fun z=>nomatch z) (by decide))))
    (Zb (Zp (i:=5) ZX.nd rfl (Or.inl rfl) (Y7 Zd))
    (Zb (Zp (i:=6) ZX.nd rfl (Or.inl rfl) (Y7 Zd))
    (Zb (yi PassesOwn.never (Zr yW (Zx Zv (by rfl) T.z_len Yk (Zi (qv 5) Zd)) (Zx Zv (by rfl) T.z_len Yk (Zi (qv 3) Zd)) (Z6 _))
    (Zb (Zp (i:=7) ZX.nd rfl (Or.inl rfl) (uP (k:=12) 2 (hr.mono (by decide)) (Zi (Z5 Zs (qv 3) (Zx Zv (by rfl) T.z_len Yk (Zi (qv 5) Zd)) (fun _ _=>rfl)) Zd)))
    (Zb (Yd (YE Qak Qaq Qar ZC (qv 5) (Zi (Yt ZP (by rfl) T.z_tuple Xq (Zi (Wl (⟨by rfl,by decide +kernel,by decide +kernel,by rfl,by decide +kernel,by decide +kernel,by rfl,by decide +kernel⟩:YF (Zg ZU) _ ["names","begin","step_of","states","numbers","steps","out","told"] "state" ["states","numbers"] [3,4]) (QI.or (XN (Z5 YQ (qv 7) Ze (fun _ _=>rfl))) (zx (Z5 YQ (qv 7) Ze (fun _ _=>rfl)))) (fun _ _ _ _=>Js) (fun _ _ _ _=>(Zl G_state_number (hr.mono (by decide)) rfl T.d_state_number.m T.d_state_number.F.kp T.d_state_number.b .nil ZE (Zi (qv 0) (Zi (qv 1) (Zi (qv 2) Zd)))))) Zd)) Zd)))
    (Zf (Yd (YE Qak Qaq Qar ZC (qv 6) (Zi (Yt ZP (by rfl) T.z_tuple Xq (Zi (Z5 YQ (qv 7) Ze (fun _ _=>rfl)) Zd)) Zd)))))))
    (Zf (Zt (ZF (Zi (qv 3) (Zi (ZF (Zi (Yt ZP (by rfl) T.z_tuple Xq (Zi (qv 0) Zd)) (Zi Ze (Zi (Yt ZP (by rfl) T.z_tuple Xq (Zi (qv 5) Zd)) (Zi (Yt ZP (by rfl) T.z_tuple Xq (Zi (qv 6) Zd)) Zd))))) Zd)))))))))),?_⟩
  clear hu
  try dsimp only [L2.cxK,L2.cxK2]
  refine L2.let6 ?_
  intro U5 U4 U3 U2 U1
  have hr:∀s∈U,∀x∈nx s,x∈U:=fun s h=>(hU s h).2.2
  refine ⟨_,rfl,by show 1<=sizeLine;decide,fun st hst=>?_⟩
  have s1:=Zc (o:=.lst [bv]) hst
  refine Zk ?_
  have begun:∀(nd:Addr) (H3:Hp),H nd=none->H3 st=some (.lst [bv])->sk.dic H3 nd [b]->sk.at_ H3 b bv->ZT H H3->U2 { nx:=fun _ H'=>Q .non H',rt:=Q } [some (.ref pn),some bv,some (.ref f),some (.ref st),some (.ref nd),none,none,none] H3:=by
   intro nd H3 hndH hst3 hnd3 hbv3 s3
   refine Oe1a2 (SK.ne hnd3) fun ond hond ndT ndL=>?_
   refine ⟨by show 0<=sizeLine;decide,fun pp hpp=>Zk ⟨by show 0<=sizeLine;decide,fun po hpo=>Zk ?_⟩⟩
   have sp:=Zc (o:=.lst []) hpp
   have so:=sp.trans (Zc (o:=.lst []) hpo)
   have hppH:H pp=none:=s3.free hpp
   have hpoH:H po=none:=s3.free (sp.free hpo)
   have pst:pp≠st:=(Zo hst3 hpp).symm
   have pnd:pp≠nd:=(Zo hond hpp).symm
   have ppo:pp≠po:=Zo Za hpo
   have ost:po≠st:=(Zo (sp _ _ hst3) hpo).symm
   have oNd:po≠nd:=(Zo (sp _ _ hond) hpo).symm
   have rl:∀{H:Hp} {zs:List V} {i:Nat},YB H zs (qM nx b i)->zs.length=i:=fun z=>by
    have:=z.1
    unfold qM at this
    rw [Qaa,Qao] at this
    exact this
   have ol:∀{H:Hp} {zs:List V} {i:Nat},YB H zs (qN nx ot b i)->zs.length=i:=fun z=>by
    have:=z.1
    unfold qN at this
    rw [Qaa,Qao] at this
    exact this
   have tup0:∀{Ha Hb:Hp},ZT Ha Hb->∀b xs,Ha b=some (.tup xs)->Hb b=some (.tup xs):=fun s b xs e=>s _ _ e
   refine wX (fun σ H2=>∃(i:Nat) (u7:Option V) (zs os ws:List V),σ=[some (.ref pn),some bv,some (.ref f),some (.ref st),some (.ref nd),some (.ref pp),some (.ref po),u7]/\H2 st=some (.lst ws)/\StA sk H2 (bfN nx b i) ws/\sk.dic H2 nd (bfN nx b i)/\H2 pp=some (.lst zs)/\H2 po=some (.lst os)/\YB H2 zs (qM nx b i)/\YB H2 os (qN nx ot b i)/\(∀j,j < i->j < (bfN nx b j).length)/\i<=(bfN nx b i).length/\ZT H H2) (fun _ H2=>match H2 pp with | some (.lst zs)=>U.length - zs.length | _=>0) ⟨0,none,[],[],[bv],rfl,so _ _ hst3,StA.one (SK.keep hbv3 (tup0 so)),SK.stay hnd3 (fun o e=>so _ _ e) (tup0 so),Zc hpo _ _ Za,Za,YB.nil,YB.nil,(fun j hj=>absurd hj (Qdc _)),Qbg _,s3.trans so⟩ ?_
   rintro σ H4 hz_
   refine ZJ fun Gz hGz=>?_
   (refine Oe5a10 hz_ fun i u7 zs os ws zo31 hst4 hA4 hnd4 hpp4 hpo4 Rz Ro hgo hil s4=>?_;obtain rfl:=zo31;clear hz_)
   refine hGz ?_
   clear hGz Gz
   have hzl:=rl Rz
   have hol:=ol Ro
   have hlen:=bf_len hb hr i
   have hnod:=J3 (nx:=nx) (b:=b) i
   have hinU:=gF hb hr i
   refine ⟨_,rfl,pp,_,rfl,.inl (SqL.of hpp4),_,rfl,st,_,rfl,.inl (SqL.of hst4),_,_,rfl,rfl,_,rfl,?_⟩
   rw [hzl,hA4.1]
   refine vR (fun hlt=>?_) (fun hlt=>?_)
   ·have hlt':i < (bfN nx b i).length:=by
     have:=Qbp hlt
     lia
    obtain ⟨si,hsi⟩:∃si,(bfN nx b i)[i]?=some si:=⟨_,Qai hlt'⟩
    have hsU:si∈U:=hinU _ (Qax hsi)
    refine Oe0a2 (hU si hsU) fun r8 o8 rU=>?_
    refine Oe1a1 (hA4.2 i si hsi) fun sv hsv hat=>?_
    have eR:=vx (nx:=nx) (b:=b) hsi
    have eO:=vy (nx:=nx) (ot:=ot) (b:=b) hsi
    have eS:=jM (nx:=nx) (b:=b) hsi
    refine ⟨fun σ' H'=>∃(u7:Option V) (zs' os' ws':List V),σ'=[some (.ref pn),some bv,some (.ref f),some (.ref st),some (.ref nd),some (.ref pp),some (.ref po),u7]/\H' st=some (.lst ws')/\StA sk H' (bfN nx b (i + 1)) ws'/\sk.dic H' nd (bfN nx b (i + 1))/\H' pp=some (.lst zs')/\H' po=some (.lst os')/\YB H' zs' (qM nx b (i + 1))/\YB H' os' (qN nx ot b (i + 1))/\ZT H H',?_,?_⟩
    ·rintro σ' H' hz_
     refine ZJ fun Gz hGz=>?_
     (refine Oe4a8 hz_ fun u8 zs' os' ws' zo32 g1 gA g2 g3 g4 g5 g6 s5=>?_;obtain rfl:=zo32;clear hz_)
     refine hGz ?_
     clear hGz Gz
     have hpre:(bfN nx b i).length<=(bfN nx b (i + 1)).length:=by
      obtain ⟨r,e⟩:=xV (nx si) (bfN nx b i)
      rw [eS,e,Qac]
      lia
     refine ⟨U.length - (i + 1),?_,?_,i + 1,u8,zs',os',ws',rfl,g1,gA,g2,g3,g4,g5,g6,fun j hj=>?_,by lia,s5⟩
     ·rw [hpp4]
      show U.length - (i + 1) < U.length - zs.length
      lia
     ·rw [g3]
      show _=U.length - zs'.length
      rw [rl g5]
     ·by_cases hji:j=i
      ·rw [hji]
       exact hlt'
      ·exact hgo j (by lia)
    ·refine ⟨f,τ,rfl,hc.frz s4.frz,_,rfl,_,rfl,pp,_,rfl,.inl (SqL.of hpp4),st,_,_,sv,rfl,rfl,SqL.of hst4,by rw [hzl];exact Xj hsv,JM.refl _,hτ si sv H4 _ hsU hat s4 fun tt r1 r2 ws0 H5 htt hr1 hA5 hr2 s5=>?_⟩
     refine Zk ?_
     generalize hl0:bfN nx b i=l0 at *
     have hst5:=s5 _ _ hst4
     have hnd5:sk.dic H5 nd l0:=SK.stay hnd4 (fun o e=>s5 _ _ e) (tup0 s5)
     have hpp5:=s5 _ _ hpp4
     have hpo5:=s5 _ _ hpo4
     refine Oe1a2 (SK.ne hnd4) fun ond4 hond4 nd4T nd4L=>?_
     have ndn:∀{r:Addr} {ys:List V},SqF H4 H5 r ys->r≠st/\r≠nd/\r≠pp/\r≠po:=fun {r ys} z=>by
      have lst:∀{q:Addr} {o:HO},H4 q=some o->(∀xs,o≠.tup xs)->r≠q:=fun {q o} e ht e2=>by
       subst e2
       rcases z with z | ⟨_,z⟩
       ·rw [s5 _ _ e] at z
        exact ht ys (Option.some.inj z)
       ·rw [e] at z;cases z
      exact ⟨lst hst4 (fun _ z=>nomatch z),lst hond4 nd4T,lst hpp4 (fun _ z=>nomatch z),lst hpo4 fun _ z=>nomatch z⟩
     refine Oe0a3 (ndn hr1) fun rst rnd _ _=>?_
     refine ⟨_,rfl,.inl ⟨rfl,_,SqL.of hpp5⟩,?_⟩
     have hr1':H5 r1=some (.tup ws0)\/H5 r1=some (.lst ws0):=hr1.imp id (fun z=>z.1)
     have w8:ws0.length<=8:=by rw [hA5.1];exact r8
     refine Zak (a:=r1) (xs:=ws0) (fun R hR=>⟨_,rfl,tt,_,0,_,rfl,rfl,SqT.of htt,rfl,hR⟩) hr1' (fun j zs H'=>zs=((nx si).take j).map (fun x=>Wu ((bfN nx b (i + 1)).idxOf x))/\(∃ws',H' st=some (.lst ws')/\StA sk H' (((nx si).take j).foldl XR l0) ws')/\sk.dic H' nd (((nx si).take j).foldl XR l0)/\(∀b o,H5 b=some o->b≠st->b≠nd->H' b=some o)/\∀b,H5 b=none->H' b=none) ⟨rfl,⟨ws,hst5,hA4.keep (tup0 s5)⟩,hnd5,(fun _ _ e _ _=>e),fun _ e=>e⟩ ?_ ?_ ?_ ?_
     ·rintro j zs H6 hz_
      refine ZJ fun Gz hGz=>?_
      obtain ⟨rfl,_⟩:=hz_
      refine hGz ?_
      clear hGz Gz
      rw [Qaa,Qav]
      exact Qau (Zm (by lia))
     ·rintro j zs H6 ⟨_,_,_,g3,_⟩ o e
      exact g3 _ _ e rst rnd
     ·rintro j x zs H6 R hR hx hz_
      refine ZJ fun Gz hGz=>?_
      (refine Oe0a4 hz_ fun zo33 zo34 g2 g3 g4=>?_;obtain rfl:=zo33;obtain ⟨ws',g1,gA⟩:=zo34;clear hz_)
      refine hGz ?_
      clear hGz Gz
      have hj:j < (nx si).length:=by rw [<-hA5.1];exact (Qae.mp hx).1
      obtain ⟨s',hs'⟩:∃s',(nx si)[j]?=some s':=⟨_,Qai hj⟩
      have tp6:∀b xs,H5 b=some (.tup xs)->H6 b=some (.tup xs):=fun b xs e=>g3 _ _ e (YC e hst5 (fun z=>nomatch z)) (fun z=>by rw [z,s5 _ _ hond4] at e;exact nd4T xs (Option.some.inj e))
      refine Oe1a1 (hA5.2 j s' hs') fun v' hv' hat'=>?_
      rw [hx] at hv'
      cases hv'
      have hat6:=SK.keep hat' tp6
      have e1:((nx si).take (j + 1)).foldl XR l0=XR (((nx si).take j).foldl XR l0) s':=by
       rw [take_snoc hs',Qdr]
       rfl
      have e2:(bfN nx b (i + 1)).idxOf s'=(XR (((nx si).take j).foldl XR l0) s').idxOf s':=by
       have e3:(nx si).foldl XR l0=((nx si).drop (j + 1)).foldl XR (((nx si).take (j + 1)).foldl XR l0):=by rw [<-Qdr,Qcc]
       obtain ⟨r,e4⟩:=xV ((nx si).drop (j + 1)) (((nx si).take (j + 1)).foldl XR l0)
       rw [eS,e3,e4,e1,wL (yu.mpr (.inr rfl))]
      have hnj:(((nx si).take j).foldl XR l0).Nodup:=qo _ _ hnod
      have hlj:(((nx si).take j).foldl XR l0).length < 10000000:=by
       have:=gE ((nx si).take j) l0
       rw [Qav] at this
       lia
      have ew:((nx si).take (j + 1)).map (fun x=>Wu ((bfN nx b (i + 1)).idxOf x))=((nx si).take j).map (fun x=>Wu ((bfN nx b (i + 1)).idxOf x))++[Wu ((bfN nx b (i + 1)).idxOf s')]:=by
       rw [take_snoc hs',Qbj]
       rfl
      rw [ew,e1] at hR
      rw [e2] at hR
      generalize ((nx si).take j).foldl XR l0=l' at *
      refine yesT ⟨_,rfl,_,rfl,_,rfl,κ,_,sk,x,st,nd,s',l',ws',rfl,g1,gA.1,g2,hat6,hnj,hlj,fun H7 ws7 q1 q0 q2 q3 q4=>hR _ _ ⟨rfl,⟨ws7,q1,?_⟩,q2,(fun b o e h1 h2=>q3 _ _ (g3 b o e h1 h2) h1 h2),fun b e=>q4 _ (g4 b e)⟩⟩
      have tp7:∀b xs,H6 b=some (.tup xs)->H7 b=some (.tup xs):=fun b xs e=>q3 _ _ e (YC e g1 (fun z=>nomatch z)) fun z=>by
       refine Oe1a2 (SK.ne g2) fun o e7 h7 _=>?_
       rw [z,e7] at e
       exact h7 xs (Option.some.inj e)
      rcases q0 with ⟨hm,rfl⟩ | ⟨hm,rfl⟩
      ·rw [show XR l' s'=l' from Qan hm]
       exact gA.keep tp7
      ·rw [show XR l' s'=l'++[s'] from Qal hm]
       exact (gA.keep tp7).snoc (SK.keep hat6 tp7)
     ·rintro zs1 H6 hz_ l hl
      refine ZJ fun Gz hGz=>?_
      (refine Oe0a4 hz_ fun zo35 zo36 g2 g3 g4=>?_;obtain rfl:=zo35;obtain ⟨ws',g1,gA⟩:=zo36;clear hz_)
      refine hGz ?_
      clear hGz Gz
      rw [hA5.1,Qbz] at g2 gA ⊢
      rw [<-eS] at g2 gA
      have tp6:∀{c:Addr} {ys:List V},H5 c=some (.tup ys)->H6 c=some (.tup ys):=fun {c ys} e=>g3 _ _ e (YC e hst5 (fun z=>nomatch z)) (fun z=>by rw [z,s5 _ _ hond4] at e;exact nd4T ys (Option.some.inj e))
      have hpp6:=g3 _ _ hpp5 pst pnd
      have hpo6:=g3 _ _ hpo5 ost oNd
      have htt6:=tp6 htt
      have hr26:H6 r2=some (.tup (ot si))\/H6 r2=some (.lst (ot si)):=by
       refine Oe0a2 (ndn hr2) fun z1 z2 _=>?_
       rcases hr2 with z | ⟨z,_⟩
       ·exact .inl (g3 _ _ z z1 z2)
       ·exact .inr (g3 _ _ z z1 z2)
      have ndr2:=ndn hr2
      refine ⟨l,_,rfl,.inl ⟨SqL.of Za,fun q hq=>?_⟩⟩
      have sl:=Zc (o:=.lst ((nx si).map fun x=>Wu ((bfN nx b (i + 1)).idxOf x))) hl
      have sq:=sl.trans (Zc (o:=.tup ((nx si).map fun x=>Wu ((bfN nx b (i + 1)).idxOf x))) hq)
      have hqp:q≠pp:=(Zo (sl _ _ hpp6) hq).symm
      have hqo:q≠po:=(Zo (sl _ _ hpo6) hq).symm
      refine ⟨pp,_,_,rfl,rfl,sq _ _ hpp6,qm (by lia),?_⟩
      have k8:∀c o,H6 c=some o->c≠pp->upd (upd (upd H6 l (.lst ((nx si).map fun x=>Wu ((bfN nx b (i + 1)).idxOf x)))) q (.tup ((nx si).map fun x=>Wu ((bfN nx b (i + 1)).idxOf x)))) pp (.lst (zs++[.ref q])) c=some o:=fun c o e hc=>by
       rw [Zj hc]
       exact sq _ _ e
      have hq8:upd (upd (upd H6 l (.lst ((nx si).map fun x=>Wu ((bfN nx b (i + 1)).idxOf x)))) q (.tup ((nx si).map fun x=>Wu ((bfN nx b (i + 1)).idxOf x)))) pp (.lst (zs++[.ref q])) q=some (.tup ((nx si).map fun x=>Wu ((bfN nx b (i + 1)).idxOf x))):=by
       rw [Zj hqp]
       exact Za
      have hp8:=Za (H:=upd (upd H6 l (.lst ((nx si).map fun x=>Wu ((bfN nx b (i + 1)).idxOf x)))) q (.tup ((nx si).map fun x=>Wu ((bfN nx b (i + 1)).idxOf x)))) (a:=pp) (o:=.lst (zs++[.ref q]))
      have d8:sk.dic (upd (upd (upd H6 l (.lst ((nx si).map fun x=>Wu ((bfN nx b (i + 1)).idxOf x)))) q (.tup ((nx si).map fun x=>Wu ((bfN nx b (i + 1)).idxOf x)))) pp (.lst (zs++[.ref q]))) nd (bfN nx b (i + 1)):=SK.off (SK.stay g2 (fun o e=>sq _ _ e) (tup0 sq)) (sq _ _ hpp6)
      generalize upd (upd (upd H6 l (.lst ((nx si).map fun x=>Wu ((bfN nx b (i + 1)).idxOf x)))) q (.tup ((nx si).map fun x=>Wu ((bfN nx b (i + 1)).idxOf x)))) pp (.lst (zs++[.ref q]))=H8 at *
      have tp8:∀{c:Addr} {ys:List V},H6 c=some (.tup ys)->H8 c=some (.tup ys):=fun {c ys} e=>k8 _ _ e (YC e hpp6 (fun z=>nomatch z))
      have hpo8:=k8 _ _ hpo6 ppo.symm
      have last:∀(a9:Addr) (H9:Hp),H9 a9=some (.tup (ot si))->ZT H8 H9->H9 po=some (.lst os)/\(upd H9 po (.lst (os++[.ref a9])) st=some (.lst ws')/\StA sk (upd H9 po (.lst (os++[.ref a9]))) (bfN nx b (i + 1)) ws'/\sk.dic (upd H9 po (.lst (os++[.ref a9]))) nd (bfN nx b (i + 1))/\upd H9 po (.lst (os++[.ref a9])) pp=some (.lst (zs++[.ref q]))/\upd H9 po (.lst (os++[.ref a9])) po=some (.lst (os++[.ref a9]))/\YB (upd H9 po (.lst (os++[.ref a9]))) (zs++[.ref q]) (qM nx b (i + 1))/\YB (upd H9 po (.lst (os++[.ref a9]))) (os++[.ref a9]) (qN nx ot b (i + 1))/\ZT H (upd H9 po (.lst (os++[.ref a9])))):=by
       intro a9 H9 ha9 s9
       have hpo9:=s9 _ _ hpo8
       have tp9:∀{c:Addr} {ys:List V},H9 c=some (.tup ys)->upd H9 po (.lst (os++[.ref a9])) c=some (.tup ys):=fun {c ys} e=>by rw [Zj (YC e hpo9 (fun z=>nomatch z))];exact e
       have tp59:∀b xs,H5 b=some (.tup xs)->upd H9 po (.lst (os++[.ref a9])) b=some (.tup xs):=fun b xs e=>tp9 (s9 _ _ (tp8 (tp6 e)))
       refine ⟨hpo9,?_,gA.keep (fun b xs e=>tp9 (s9 _ _ (tp8 e))),SK.off (SK.stay d8 (fun o e=>s9 _ _ e) (tup0 s9)) hpo9,?_,Za,?_,?_,fun c o' e=>?_⟩
       ·rw [Zj ost.symm]
        exact s9 _ _ (k8 _ _ g1 pst.symm)
       ·rw [Zj ppo]
        exact s9 _ _ hp8
       ·rw [eR]
        exact (JT (fun b xs e=>tp59 b xs (s5 _ _ e)) Rz).snoc (tp9 (s9 _ _ hq8))
       ·rw [eO]
        exact (JT (fun b xs e=>tp59 b xs (s5 _ _ e)) Ro).snoc (tp9 ha9)
       ·have cp:c≠pp:=Zo e hppH
        have co:c≠po:=Zo e hpoH
        rw [Zj co]
        exact s9 _ _ (k8 _ _ (g3 _ _ (s5 _ _ (s4 _ _ e)) (Zo e hst) (Zo e hndH)) cp)
      refine ⟨_,rfl,.inl ⟨rfl,_,SqL.of hpo8⟩,_,rfl,tt,_,1,_,rfl,rfl,SqT.of (tp8 htt6),rfl,r2,ot si,rfl,?_⟩
      rcases hr26 with hr26 | hr26
      ·obtain ⟨l1,l2⟩:=last r2 H8 (tp8 hr26) (ZT.refl _)
       exact .inr ⟨SqT.of (tp8 hr26),po,_,_,rfl,rfl,l1,qm (by lia),_,zs++[.ref q],os++[.ref r2],ws',rfl,l2⟩
      ·refine .inl ⟨SqL.of (k8 _ _ hr26 ndr2.2.2.1),fun a9 ha9=>?_⟩
       obtain ⟨l1,l2⟩:=last a9 (upd H8 a9 (.tup (ot si))) Za (Zc ha9)
       exact ⟨po,_,_,rfl,rfl,l1,qm (by lia),_,zs++[.ref q],os++[.ref a9],ws',rfl,l2⟩
   ·have hle:(bfN nx b i).length=i:=by
     have:¬(i:Int) < ((bfN nx b i).length:Int):=fun z=>hlt (Qad z)
     lia
    refine ⟨_,rfl,_,rfl,pn,_,rfl,.inr ⟨SqT.of (s4 _ _ hpn),_,rfl,pp,_,rfl,.inl ⟨SqL.of hpp4,fun a1 ha1=>⟨_,rfl,po,_,rfl,.inl ⟨SqL.of (Zc ha1 _ _ hpo4),fun a2 ha2=>⟨by show 4<=sizeLine;decide,fun m hm=>⟨by show 2<=sizeLine;decide,fun p hp=>?_⟩⟩⟩⟩⟩⟩⟩
    have q1:=Zc (o:=.tup zs) ha1
    have q2:=Zc (o:=.tup os) ha2
    have q3:=Zc (o:=.tup [.ref pn,.int 0,.ref a1,.ref a2]) hm
    have q4:=Zc (o:=.tup [.ref st,.ref m]) hp
    have qq:=q1.trans (q2.trans (q3.trans q4))
    refine k p st m (bfN nx b i) ws _ ⟨by rw [hle],fun j hj=>hgo j (by lia)⟩ Za hst (qq _ _ hst4) (hA4.keep (tup0 qq)) ⟨⟨pn,a1,a2,q4 _ _ Za,qq _ _ (s4 _ _ hpn),⟨zs,(q2.trans (q3.trans q4)) _ _ Za,?_,fun j r hj=>?_⟩,⟨os,(q3.trans q4) _ _ Za,?_,fun j r hj=>?_⟩⟩⟩ (s4.trans qq)
    ·rw [hzl,Qaa,zb,hle]
    ·rw [<-gG hle hgo] at hj
     refine Oe1a1 (Rz.2 j r hj) fun a g1 g2=>?_
     exact ⟨a,g1,qq _ _ g2⟩
    ·rw [hol,Qaa,hle]
    ·rw [<-gH hle hgo] at hj
     refine Oe1a1 (Ro.2 j r hj) fun a g1 g2=>?_
     exact ⟨a,g1,qq _ _ g2⟩
  have fin:∀(nd:Addr) (H3:Hp),H nd=none->nd≠st->(∃o,H3=upd (upd H st (.lst [bv])) nd o)->sk.dic H3 nd [b]->U2 { nx:=fun _ H'=>Q .non H',rt:=Q } [some (.ref pn),some bv,some (.ref f),some (.ref st),some (.ref nd),none,none,none] H3:=by
   intro nd H3 hndH hne ho hd3
   obtain ⟨o,rfl⟩:=ho
   have hnd1:upd H st (.lst [bv]) nd=none:=by rw [Zj hne];exact hndH
   have s3:=s1.trans (Zc (o:=o) hnd1)
   exact begun nd _ hndH (by rw [Zj hne.symm];exact Za) hd3 (SK.keep hbv fun b xs e=>s3 _ _ e) s3
  cases sk with
  | int f9 inj =>
   have hbv:bv=.int (f9 b):=hbv
   subst hbv
   refine .inr fun nd hnd=>?_
   have snd:st≠nd:=Zo Za hnd
   refine ⟨_,rfl,Za,[(.inl (f9 b),.int 0)],rfl,by show 1<=15;decide,Zk ?_⟩
   have em:Y8 [] [((.inl (f9 b):Key),V.int 0)]=nk ([b].map f9):=rfl
   rw [em,vU]
   exact fin nd _ (s1.free hnd) snd.symm ⟨_,rfl⟩ Za
  | key kn =>
   (refine Oe1a1 (id hbv) fun a zo37 ha=>?_;obtain rfl:=zo37)
   refine .inl fun nd hnd=>?_
   have snd:st≠nd:=Zo Za hnd
   have sn2:=s1.trans (Zc (o:=.dK []) hnd)
   refine ⟨_,rfl,κ,_,kn,a,b,rfl,Za,kn.keep _ _ _ _ (fun b xs e=>sn2 _ _ e) ha,fun H' n' _ ho=>Zk ?_⟩
   obtain ⟨o,rfl⟩:=ho
   rw [vU] at n' ⊢
   exact fin nd _ (s1.free hnd) snd.symm ⟨_,rfl⟩ n'
inductive Xo(w:World)(pw:Addr)(vs:List V)(H:Hp)(Q:VK):Prop
 | mk (tw tn tt:Addr) (ws:List V) (nm:List Str) (o0 o1:V) (B kc:Nat):(vs=[.ref tw,.ref tn,.ref tt])->(H tw=some (.tup ws))->(ws.length<=100)->(H tn=some (.tup (nm.map V.str)))->(nm.Nodup)->(nm.length<=3)->(H tt=some (.tup [o0,o1]))->((∀w∈ws,xY nm w))->(Y9 ws)->(JG ws=1)->((∀z:Int,V.int z∈ws->0<=z/\z < 2 ^ B))->(kc=Xk ws)->((B + 1) * 2 ^ kc<=1000000)->(YN H pw Zw Zu)->(∀m (l:List (Int × List Int)) H',BfE (nxT nm (Y6 (2 ^ nm.length) nm) ws (lgB ws)) (0,List.replicate kc 0) l->M4 H' m nm 0 (rnG (nxT nm (Y6 (2 ^ nm.length) nm) ws (lgB ws)) l) (l.map (otT nm (Y6 (2 ^ nm.length) nm) ws o0 o1))->YN H' pw Zw Zu->JH pw H H'->Q (.ref m) H')->Xo w pw vs H Q
noncomputable def YW(P:Program)(w:World)(K:PySem.W.Frag)(mg:Str->Option Value)(base:Heap)(pw:Addr):Sp:=fun vs H Q _=>Xo w pw vs H Q
theorem XG (T:Txt K w mg t) (TB:Tbs mg base t):ZO P w K mg base CX0 14 t.a_machine_telling t.f_machine_telling ["words","names","told"] (YW P w K mg base t.p_machine_telling):=by
 have G_machine_found:ZO P w K mg base CX0 13 t.a_machine_found t.f_machine_found ["names","begin","step_of"] (W6 P w K mg base):=G8 T TB
 have G_bits_at:ZO P w K mg base CX0 1 t.a_bits_at t.f_bits_at ["columns","letter"] (x6 K):=vM T TB
 have G_stepped:ZO P w K mg base CX0 4 t.a_stepped t.f_stepped ["words","columns","place","kept"] (xE K):=vQ T TB
 have G_remembers:ZO P w K mg base CX0 1 t.a_remembers t.f_remembers ["word"] (WH K):=Gk T TB
 have G_longest_number:ZO P w K mg base CX0 1 t.a_longest_number t.f_longest_number ["words"] (Wg K):=JZ T TB
 have G_name_columns:ZO P w K mg base CX0 2 t.a_name_columns t.f_name_columns ["names","letters"] (WL K):=qC T TB
 have G_words_at:ZO P w K mg base CX0 1 t.a_words_at t.f_words_at ["width"] (q5 K):=jX T TB
 refine T.d_machine_telling.F.okC ZM (fun vs H Q E h=>?_) (fun A outer s H vs Q E hr h=>?_)
 ·obtain ⟨tw,tn,tt,ws,nm,o0,o1,B,kc,rfl,ht,hl,hn,hnd,hn3,hto,hw,he,hst,hB,hkc,hbig,hT,k⟩:=h
  rfl
 ·obtain ⟨tw,tn,tt,ws,nm,o0,o1,B,kc,rfl,ht,hl,hn,hnd,hn3,hto,hw,he,hst,hB,hkc,hbig,hT,k⟩:=h
  have hu:=Yr hr
  refine ⟨_,@QSs.out _ _ _ (Zb (Zp (i:=3) ZM.nd rfl (Or.inr rfl) (Yt (j8 rfl) (by rfl) T.z_list Zdc (Zi (Yt j7 (by rfl) T.z_range uD (Zi (Zl G_words_at (hr.mono (by decide)) rfl T.d_words_at.m T.d_words_at.F.kp T.d_words_at.b .nil ZE (Zi (Zx Zv (by rfl) T.z_len Yk (Zi (qv 1) Zd)) Zd)) Zd)) Zd)))
    (Zb (Zp (i:=4) ZM.nd rfl (Or.inr rfl) (Zl G_name_columns (hr.mono (by decide)) rfl T.d_name_columns.m T.d_name_columns.F.kp T.d_name_columns.b .nil ZE (Zi (qv 1) (Zi (qv 3) Zd))))
    (Zb (Zp (i:=5) ZM.nd rfl (Or.inr rfl) (Zl G_longest_number (hr.mono (by decide)) rfl T.d_longest_number.m T.d_longest_number.F.kp T.d_longest_number.b .nil ZE (Zi (qv 0) Zd)))
    (Zb (qs_def (i:=6) (name := "step_of") (params:=Z2 YS) (body:=Zz YS) (scope:=Zg YS) (lpos:=Zw) (qual:=Zu) ZM.nd rfl (Or.inl rfl) T.k_machine_telling TB.c_machine_telling TB.B rfl rfl rfl rfl (S0:=Zg Z8) rfl (by decide +kernel))
    (Zb (Zp (i:=7) ZM.nd rfl (Or.inl rfl) (ZF (Zi Ze (Zi (Yt ZP (by rfl) T.z_tuple Xq (Zi (Wl (⟨by rfl,by decide +kernel,by decide +kernel,by rfl,by decide +kernel,by decide +kernel,by rfl,by decide +kernel⟩:YF (Zg Z8) _ ["words","names","told","letters","columns","last_place","step_of","begin"] "word" [] []) (zx (qv 0)) (fun _ _ _ _=>(kX (xf (Zl G_remembers (hr.mono (by decide)) rfl T.d_remembers.m T.d_remembers.F.kp T.d_remembers.b .nil ZE (Zi (qv 0) Zd))))) (fun _ _ _ _=>Ze)) Zd)) Zd))))
    (Zf (Zt (Z5 YQ (uW (kl:=11) (i:=6) (name := "step_of") (params:=Z2 YS) (body:=Zz YS) (scope:=Zg YS) (qual:=Zu) G_machine_found (hr.mono (by decide)) rfl T.d_machine_found.m T.d_machine_found.F.kp T.d_machine_found.b rfl (Zi (qv 1) (Zi (qv 7) (Zi (qv 6) Zd))) rfl rfl (⟨WR,by decide +kernel,by decide +kernel,by rfl⟩:Zfm (Zg Z8) _ ["words","names","told","letters","columns","last_place","step_of","begin"] ["state"] ["step","place","reached"] ["words","columns","last_place","letters","told"] [0,4,5,3,2]) (fun _ _ _ _ _ us hl=>match us,hl with | [_],_=>rfl) (fun _ _ _ _ _ _ _ hrl=>(Zb (Zp (i:=1) WR.nd rfl (Or.inr rfl) (Zl G_stepped (hrl.mono (by decide)) rfl T.d_stepped.m T.d_stepped.F.kp T.d_stepped.b .nil ZE (Zi (qv 4) (Zi (qv 5) (Zi (Z5 (show IxR _ (Zc9 K) from YQ) (qv 0) Ze (fun _ _=>rfl)) (Zi (Z5 (show IxR _ (Zc9 K) from YQ) (qv 0) Ze (fun _ _=>rfl)) Zd))))))
    (Zb (Zp (i:=2) WR.nd rfl (Or.inr rfl) (Zx (kD rfl) (by rfl) T.z_min bt_min (Zi (Zn YX (Z5 (show IxR _ (Zc9 K) from YQ) (qv 0) Ze (fun _ _=>rfl)) Ze) (Zi (qv 6) Zd))))
    (Zb (ju (i:=3) WR.nd rfl rfl (⟨by rfl,by decide +kernel,by decide +kernel,by rfl,by decide +kernel,by decide +kernel,by rfl,by decide +kernel⟩:YF (Zg YS) _ ["state","step","place","reached","words","columns","last_place","letters","told"] "letter" ["place","step"] [2,1]) (show QI _ _ _ (km K (JI 7)) from XN (qv 7)) (fun _ _ _ _=>Js) (fun _ _ _ _=>(ZF (Zi (qv 1) (Zi (Zl G_bits_at (hrl.mono (by decide)) rfl T.d_bits_at.m T.d_bits_at.F.kp T.d_bits_at.b .nil ZE (Zi (Z5 (show IxR _ (Zc9 K) from YQ) (qv 2) Ze (fun _ _=>rfl)) (Zi (qv 0) Zd))) Zd)))))
    (Zf (Zt (ZF (Zi (qv 3) (Zi (Wl (⟨by rfl,by decide +kernel,by decide +kernel,by rfl,by decide +kernel,by decide +kernel,by rfl,by decide +kernel⟩:YF (Zg YS) _ ["state","step","place","reached","words","columns","last_place","letters","told"] "letter" ["told","step"] [8,1]) (show QI _ _ _ (km K (JI 7)) from XN (qv 7)) (fun _ _ _ _=>Js) (fun _ _ _ _=>(Z5 (show IxR _ (Zc9 K) from YQ) (qv 1) (Zn Xl (Zn xa (Z5 (show IxR _ (Zc9 K) from YQ) (qv 2) Ze (fun _ _=>rfl)) (qv 0)) Ze) (fun _ _=>rfl)))) Zd)))))))))) Ze (fun _ _=>rfl))))))))),?_⟩
  clear hu hr
  try dsimp only [L2.cxK,L2.cxK2]
  refine L2.let6 ?_
  intro U5 U4 U3 U2 U1
  have h8:=p8 hn3
  have e2:((2:Int) ^ nm.length)=((2 ^ nm.length:Nat):Int):=by rw [Qek];rfl
  have hflat:∀w∈ws,JK w=true/\((∃y,w=.str y)\/∃z:Int,w=.int z):=fun w h=>by
   rcases hw w h with ⟨y,rfl,_⟩ | ⟨y,rfl,_⟩ | ⟨y,rfl,_⟩ | ⟨z,rfl,_⟩
   ·exact ⟨rfl,.inl ⟨y,rfl⟩⟩
   ·exact ⟨rfl,.inl ⟨y,rfl⟩⟩
   ·exact ⟨rfl,.inl ⟨y,rfl⟩⟩
   ·exact ⟨rfl,.inr ⟨z,rfl⟩⟩
  refine ⟨_,rfl,tn,_,rfl,.inr (SqT.of hn),nm.length,by rw [Qaa];rfl,by lia,_,rfl,fun pr hpr=>⟨pr,2 ^ nm.length,rfl,by rw [Za,e2],by lia,fun tl htl=>Zk ?_⟩⟩
  have s1:=Zc (o:=.rng 0 ((2:Int) ^ nm.length)) hpr
  have s2:=s1.trans (Zc (o:=.lst ((List.range (2 ^ nm.length)).map fun i:Nat=>V.int (i:Int))) htl)
  have htl2:=Za (H:=upd H pr (.rng 0 ((2:Int) ^ nm.length))) (a:=tl) (o:=.lst ((List.range (2 ^ nm.length)).map fun i:Nat=>V.int (i:Int)))
  have htlH:H tl=none:=s1.free htl
  try dsimp only
  generalize upd (upd H pr (.rng 0 ((2:Int) ^ nm.length))) tl (.lst ((List.range (2 ^ nm.length)).map fun i:Nat=>V.int (i:Int)))=H2 at *
  refine ⟨_,rfl,_,rfl,tn,tl,nm,2 ^ nm.length,rfl,s2 _ _ hn,hnd,by lia,htl2,by lia,fun dv kvs H3 hdv0 hdv hcol s3=>Zk ?_⟩
  have s23:=s2.trans s3
  generalize Y6 (2 ^ nm.length) nm=cols at *
  refine ⟨_,rfl,tw,ws,rfl,s23 _ _ ht,by lia,fun w h=>(hflat w h).2,fun L H4 hL1 hL2 s4=>Zk ?_⟩
  rw [<-Zcc hL1 hL2] at k
  have s24:=s23.trans s4
  have hLB:L<=B:=by
   rw [Zcc hL1 hL2]
   exact lgB_le hB
  have hdv4:=s4 _ _ hdv
  have htl4:=(s3.trans s4) _ _ htl2
  refine ⟨hT.same s24,fun f c' oc ctv doc H5 hf0 hf hc' hoc hT5 o5=>?_⟩
  obtain ⟨pz,hpz⟩:=(hT.same s24).ex
  have o5':∀{b:Addr} {o:HO},H4 b=some o->(∀ps,o≠.tbl ps)->H5 b=some o:=fun {b o} e h=>o5 b o e fun z=>by
   rw [z,hpz] at e
   exact h _ (Option.some.inj e).symm
  have t5:∀{b:Addr} {xs:List V},H b=some (.tup xs)->H5 b=some (.tup xs):=fun e=>o5' (s24 _ _ e) (fun _ z=>nomatch z)
  have hdv5:=o5' hdv4 (fun _ z=>nomatch z)
  have htl5:=o5' htl4 (fun _ z=>nomatch z)
  refine ⟨_,rfl,tw,rfl,⟨_,SqT.of (t5 ht)⟩,GG (K:=K) (a:=tw) (xs:=ws) (fun i zs H'=>zs=List.replicate (Xk (ws.take i)) (.int 0)/\H'=H5) ⟨rfl,rfl⟩ (fun i zs H' h=>?_) (fun i zs H' h=>by rw [h.2];exact SqT.of (t5 ht)) (fun i x zs H6 R hR hx h=>?_) (fun zs H6 h pl hpl=>?_)⟩
  ·rw [h.1,Qbn]
   have:Xk (ws.take i)<=(ws.take i).length:=Qc9 _ _
   rw [Qav] at this
   exact Qau (Zm (by lia))
  ·obtain ⟨rfl,rfl⟩:=h
   refine ⟨_,rfl,x,rfl,(hflat x (Qax hx)).1,_,rfl,?_⟩
   have er:Xk (ws.take (i + 1))=Xk (ws.take i) + if inV x (allR.map V.str)=true then 1 else 0:=by
    rw [take_snoc hx]
    unfold Xk
    rw [Qc7,Qac,Qcm]
    split <;> rfl
   rw [er] at hR
   refine vR (fun hb=>?_) (fun hb=>?_)
   ·rw [Qan hb,List.replicate_succ'] at hR
    exact hR _ _ ⟨rfl,rfl⟩
   ·rw [Qal hb] at hR
    exact hR _ _ ⟨rfl,rfl⟩
  obtain ⟨rfl,rfl⟩:=h
  rw [Qbz,<-hkc]
  refine ⟨pl,_,rfl,.inl ⟨SqL.of Za,fun tb htb=>⟨by show 2<=sizeLine;decide,fun tg htg=>Zk ?_⟩⟩⟩
  have q1:=Zc (o:=.lst (List.replicate kc (.int 0))) hpl
  have q2:=Zc (o:=.tup (List.replicate kc (.int 0))) htb
  have q3:=Zc (o:=.tup [.int 0,.ref tb]) htg
  have s6:=q1.trans (q2.trans q3)
  have htb6:=q3 _ _ (Za (H:=upd H6 pl (.lst (List.replicate kc (.int 0)))) (a:=tb) (o:=.tup (List.replicate kc (.int 0))))
  have htg6:=Za (H:=upd (upd H6 pl (.lst (List.replicate kc (.int 0)))) tb (.tup (List.replicate kc (.int 0)))) (a:=tg) (o:=.tup [.int 0,.ref tb])
  try dsimp only
  generalize upd (upd (upd H6 pl (.lst (List.replicate kc (.int 0)))) tb (.tup (List.replicate kc (.int 0)))) tg (.tup [.int 0,.ref tb])=H7 at *
  refine ⟨_,rfl,_,rfl,_,rfl,f,c',oc,ctv,doc,rfl,s6 _ _ hf,s6 _ _ hc',hoc,fun cs H8 hcs0 hcsF o8 hcall=>?_⟩
  have hU:∀s∈uni kc (L + 1),(nxT nm cols ws L s).length<=8/\(otT nm cols ws o0 o1 s).length<=8/\∀x∈nxT nm cols ws L s,x∈uni kc (L + 1):=fun s hs=>⟨by unfold nxT;rw [Qaa,Qao];exact h8,by unfold otT;rw [Qaa,Qao];exact h8,Zam hw hkc hs⟩
  have t8:∀{b:Addr} {xs:List V},H b=some (.tup xs)->H8 b=some (.tup xs):=fun e=>o8 _ _ (s6 _ _ (t5 e))
  have hUl:(uni kc (L + 1)).length<=1000000:=by
   rw [gK]
   exact Qbe (Nat.mul_le_mul_right _ (by lia)) hbig
  refine ⟨Int × List Int,_,.key knQ,tn,f,nm,(0,List.replicate kc 0),.ref tg,nxT nm cols ws L,otT nm cols ws o0 o1,uni kc (L + 1),_,rfl,t8 hn,⟨tg,rfl,tb,o8 _ _ htg6,by rw [o8 _ _ htb6,List.map_replicate]⟩,qu.mpr ⟨0,by lia,rfl,Wc.mpr ⟨Qbn,fun x hx=>.inl (List.eq_of_mem_replicate hx)⟩⟩,hU,hUl,hn3,hcall,fun s sv H9 Q' hs hat s9 hQ=>⟨rfl,?_⟩,fun p sts m l wsl H9 B9 hp hsts0 hsts hA M9 s9=>?_⟩
  ·(refine Oe1a1 hat fun a zo38 zo39=>?_;obtain rfl:=zo38;refine Oe1a1 zo39 fun tk ha htk=>?_;clear zo39;clear hat)
   have hk9:∀{b:Addr} {u:HO},H9 b=some u->(∀o,u≠Jn o)->hide cs H9 b=some u:=fun e h=>zC hcsF s9 e h
   have t9:∀{b:Addr} {xs:List V},H9 b=some (.tup xs)->hide cs H9 b=some (.tup xs):=fun e=>hk9 e (fun _ z=>nomatch z)
   refine Oe1a2 (qu.mp hs) fun pn hp1 hp2 hp3=>?_
   obtain ⟨sp,ks⟩:=s
   have hp2:sp=(pn:Int):=hp2
   subst hp2
   obtain ⟨hkl,hkb⟩:=Wc.mp hp3
   have hkl:ks.length=kc:=hkl
   have ha':=t9 ha
   have htk':=t9 htk
   have hln:(XA nm cols pn ks ws).1.length=1:=by rw [xZ ws hw,hst]
   have hrm:(XA nm cols pn ks ws).2.length=kc:=by rw [zc ws hw,hkc]
   obtain ⟨o,lt,hstp⟩:∃o lt,XA nm cols pn ks ws=([o],lt):=by
    generalize XA nm cols pn ks ws=q at hln
    obtain ⟨q1,q2⟩:=q
    match q1,hln with
    | [o],_=>exact ⟨o,q2,rfl⟩
   have hltl:lt.length=kc:=by rw [hstp] at hrm;exact hrm
   have hsS:Zez nm cols ws ((pn:Int),ks)=([o],lt):=hstp
   refine ⟨_,rfl,_,rfl,_,rfl,a,_,0,_,rfl,rfl,SqT.of ha',rfl,_,rfl,a,_,1,_,rfl,rfl,SqT.of ha',rfl,tw,dv,tk,nm,ws,kvs,cols,pn,ks,o,lt,rfl,t9 (s9 _ _ (t8 ht)),hl,hk9 (s9 _ _ (o8 _ _ (s6 _ _ hdv5))) (fun _ z=>nomatch z),hcol,htk',hw,he,hstp,by rw [hltl];show kc<=ks.length;lia,fun ta la H10 hta0 hta hla s10=>Zk ?_⟩
   refine ⟨_,rfl,a,_,0,_,rfl,rfl,SqT.of (s10 _ _ ha'),rfl,_,_,rfl,rfl,_,rfl,_,_,rfl,Zk ?_⟩
   have em:(if (L:Int) < (pn:Int) + 1 then (L:Int) else (pn:Int) + 1)=min ((pn:Int) + 1) (L:Int):=by split <;> lia
   try dsimp only
   rw [em]
   have htl10:H10 tl=some (.lst ((List.range (2 ^ nm.length)).map fun i:Nat=>V.int (i:Int))):=s10 _ _ (hk9 (s9 _ _ (o8 _ _ (s6 _ _ htl5))) (fun _ z=>nomatch z))
   have hxs:((List.range (2 ^ nm.length)).map fun i:Nat=>V.int (i:Int)).length=2 ^ nm.length:=by rw [Qaa,Qao]
   have hnx:nxT nm cols ws L ((pn:Int),ks)=(List.range (2 ^ nm.length)).map fun l=>(min ((pn:Int) + 1) (L:Int),lt.map fun c=>bt c l):=by
    unfold nxT
    rw [hsS]
   have hot:otT nm cols ws o0 o1 ((pn:Int),ks)=(List.range (2 ^ nm.length)).map fun l=>if bt o l=1 then o1 else o0:=by
    unfold otT
    rw [hsS]
    rfl
   refine ⟨_,rfl,tl,rfl,⟨_,SqL.of htl10⟩,Jt (K:=K) (a:=tl) (xs:=(List.range (2 ^ nm.length)).map fun i:Nat=>V.int (i:Int)) (fun i zs H'=>StA (.key knQ) H' ((nxT nm cols ws L ((pn:Int),ks)).take i) zs/\i<=2 ^ nm.length/\ZT H10 H') ⟨⟨rfl,fun i k hk=>by cases hk⟩,Qbg _,ZT.refl _⟩ (fun i zs H' h=>?_) (fun i zs H' h=>SqL.of (h.2.2 _ _ htl10)) (fun i x zs H11 R hR hx h=>?_) (fun zs H11 h rl hrl=>Zk ?_)⟩
   ·rw [h.1.1,Qav]
    exact Qau (Zm (by lia))
   ·(refine Oe0a2 h fun hA hi s11=>?_;clear h)
    have hil:i < 2 ^ nm.length:=by rw [<-hxs];exact (Qae.mp hx).1
    rw [GK hil] at hx
    cases hx
    refine yesT ⟨_,rfl,_,rfl,ta,_,1,_,rfl,rfl,SqT.of (s11 _ _ hta),rfl,_,rfl,la,lt,i,rfl,s11 _ _ hla,?_,by lia,fun t5 H12 ht50 ht5 s12=>⟨by show 2<=sizeLine;decide,fun q hq=>hR _ _ ⟨?_,hil,s11.trans (s12.trans (Zc hq))⟩⟩⟩
    ·have:Xk ws<=ws.length:=Qc9 _ _
     lia
    ·have en:(nxT nm cols ws L ((pn:Int),ks))[i]?=some (min ((pn:Int) + 1) (L:Int),lt.map fun c=>bt c i):=by rw [hnx,GK hil]
     rw [take_snoc en]
     refine (hA.keep (H':=upd H12 q (.tup [.int (min ((pn:Int) + 1) (L:Int)),.ref t5])) fun b xs e=>Zc hq _ _ (s12 _ _ e)).snoc ⟨q,rfl,t5,Za,Zc hq _ _ ht5⟩
   (refine Oe0a2 h fun hA _ s11=>?_;clear h)
   rw [hxs,Qbl (by rw [hnx,Qaa,Qao];exact Qah _)] at hA
   have s12:=Zc (o:=.lst zs) hrl
   have hrl12:=Za (H:=H11) (a:=rl) (o:=.lst zs)
   try dsimp only
   generalize upd H11 rl (.lst zs)=H12 at *
   have s1012:=s11.trans s12
   have htt12:H12 tt=some (.tup [o0,o1]):=s1012 _ _ (s10 _ _ (t9 (s9 _ _ (t8 hto))))
   refine ⟨_,rfl,_,rfl,tl,rfl,⟨_,SqL.of (s1012 _ _ htl10)⟩,comp_map (xs:=(List.range (2 ^ nm.length)).map fun i:Nat=>V.int (i:Int)) (fI fun c=>if bt o c.toNat=1 then o1 else o0) (SqL.of (s1012 _ _ htl10)) (by rw [hxs];exact Qau (Zm (by lia))) (fun v hv R hR=>?_) (fun q hq=>?_)⟩
   ·(refine Oe1a1 (Qbb.mp hv) fun l _ zo40=>?_;obtain rfl:=zo40)
    refine ⟨_,rfl,_,rfl,ta,_,0,_,rfl,rfl,SqT.of (s1012 _ _ hta),rfl,_,rfl,_,_,rfl,rfl,Qbk l,_,_,rfl,rfl,tt,_,_,fI (fun c=>if bt o c.toNat=1 then o1 else o0) (V.int (l:Int)),rfl,rfl,SqT.of htt12,?_,hR⟩
    rw [and_1,Qaz]
    show atI [o0,o1] (bt o l)=some (if bt o (l:Int).toNat=1 then o1 else o0)
    rw [Qaz]
    rcases YG o l with e | e <;> rw [e] <;> rfl
   ·refine ⟨by show 2<=sizeLine;decide,fun t0 ht0 hcn=>?_⟩
    have ef:((List.range (2 ^ nm.length)).map fun i:Nat=>V.int (i:Int)).map (fI fun c=>if bt o c.toNat=1 then o1 else o0)=otT nm cols ws o0 o1 ((pn:Int),ks):=by
     rw [hot,Qbw]
     refine Qct fun l _=>?_
     show (if bt o (l:Int).toNat=1 then o1 else o0)=_
     rw [Qaz]
    rw [ef] at ht0 hcn ⊢
    have s13:=Zc (o:=.lst (otT nm cols ws o0 o1 ((pn:Int),ks))) hq
    have s14:=s13.trans (Zc (o:=.tup [.ref rl,.ref q]) ht0)
    have hsame:=s10.trans (s1012.trans s14)
    refine Oe0a2 (vz hsame hcn) fun u1 u2 u3=>?_
    have hrl14:=s14 _ _ hrl12
    have hq14:=Zc (o:=.tup [.ref rl,.ref q]) ht0 _ _ (Za (H:=H12) (a:=q) (o:=.lst (otT nm cols ws o0 o1 ((pn:Int),ks))))
    exact hQ t0 rl q zs _ (u2 _ _ Za) (.inr ⟨u2 _ _ hrl14,u3 _ _ hrl14 (s10.free (s11.free hrl))⟩) (hA.keep fun b xs e=>u2 _ _ ((s12.trans s14) _ _ e)) (.inr ⟨u2 _ _ hq14,u3 _ _ hq14 (s10.free (s1012.free hq))⟩) u1
  ·have keep9:ZT H7 (hide cs H9):=fun b o e=>by
    rw [ZQ fun m=>by rw [hcs0 b m] at e;cases e]
    exact s9 _ _ (o8 _ _ e)
   have tk9:∀(b:Addr) (xs:List V),H9 b=some (.tup xs)->hide cs H9 b=some (.tup xs):=fun b xs e=>zC hcsF s9 e (fun _ z=>nomatch z)
   refine ⟨p,_,1,_,rfl,rfl,SqT.of (tk9 _ _ hp),rfl,k m l (hide cs H9) B9 ?_ ((hT5.same s6).same keep9) fun b o e hb=>keep9 _ _ (s6 _ _ (o5 _ _ (s24 _ _ e) hb))⟩
   refine ZJ fun Gz hGz=>?_
   refine Oe3a3 M9.ex fun pn ps po h1 h2 h3 h4=>?_
   refine hGz ?_
   clear hGz Gz
   exact ⟨⟨pn,ps,po,tk9 _ _ h1,tk9 _ _ h2,xx h3 tk9,xx h4 tk9⟩⟩
inductive WN(w:World)(pw:Addr)(vs:List V)(H:Hp)(Q:VK):Prop
 | mk (tw tn:Addr) (ws:List V) (nm:List Str) (B kc:Nat):(vs=[.ref tw,.ref tn])->(H tw=some (.tup ws))->(ws.length<=100)->(H tn=some (.tup (nm.map V.str)))->(nm.Nodup)->(nm.length<=3)->((∀w∈ws,xY nm w))->(Y9 ws)->(JG ws=1)->((∀z:Int,V.int z∈ws->0<=z/\z < 2 ^ B))->(kc=Xk ws)->((B + 1) * 2 ^ kc<=1000000)->(YN H pw Zw Zu)->(∀m (l:List (Int × List Int)) H',BfE (nxT nm (Y6 (2 ^ nm.length) nm) ws (lgB ws)) (0,List.replicate kc 0) l->M4 H' m nm 0 (rnG (nxT nm (Y6 (2 ^ nm.length) nm) ws (lgB ws)) l) (l.map (otT nm (Y6 (2 ^ nm.length) nm) ws (.int 0) (.int 1)))->YN H' pw Zw Zu->JH pw H H'->Q (.ref m) H')->WN w pw vs H Q
noncomputable def Ws(P:Program)(w:World)(K:PySem.W.Frag)(mg:Str->Option Value)(base:Heap)(pw:Addr):Sp:=fun vs H Q _=>WN w pw vs H Q
theorem JE (T:Txt K w mg t) (TB:Tbs mg base t):ZO P w K mg base CX0 15 t.a_machine_of t.f_machine_of ["words","names"] (Ws P w K mg base t.p_machine_telling):=by
 have G_machine_telling:ZO P w K mg base CX0 14 t.a_machine_telling t.f_machine_telling ["words","names","told"] (YW P w K mg base t.p_machine_telling):=XG T TB
 refine T.d_machine_of.F.ok zj (fun vs H Q E h=>?_) (fun cdv A outer s H vs Q E hr h=>?_)
 ·obtain ⟨tw,tn,ws,nm,B,kc,rfl,ht,hl,hn,hnd,hn3,hw,he,hst,hB,hkc,hbig,hT,k⟩:=h
  rfl
 ·obtain ⟨tw,tn,ws,nm,B,kc,rfl,ht,hl,hn,hnd,hn3,hw,he,hst,hB,hkc,hbig,hT,k⟩:=h
  have hu:=Yr hr
  refine ⟨_,@QSs.out _ _ _ (Zf (Zt (Zl G_machine_telling (hr.mono (by decide)) rfl T.d_machine_telling.m T.d_machine_telling.F.kp T.d_machine_telling.b .nil ZE (Zi (qv 0) (Zi (qv 1) (Zi (ZF (Zi Ze (Zi Ze Zd))) Zd)))))),?_⟩
  clear hu hr
  try dsimp only [L2.cxK,L2.cxK2]
  refine ⟨_,rfl,_,rfl,by show 2<=sizeLine;decide,fun tt htt=>?_⟩
  have s1:=Zc (o:=.tup [.int 0,.int 1]) htt
  exact ⟨tw,tn,tt,ws,nm,.int 0,.int 1,B,kc,rfl,s1 _ _ ht,hl,s1 _ _ hn,hnd,hn3,Za,hw,he,hst,hB,hkc,hbig,hT.same s1,fun m l H' h1 h2 h3 h4=>k m l H' h1 h2 h3 fun b o e hb=>h4 _ _ (s1 _ _ e) hb⟩
inductive XH(w:World)(pw:Addr)(vs:List V)(H:Hp)(Q:VK):Prop
 | mk (tw tn:Addr) (ws:List V) (nm:List Str) (B kc:Nat):(vs=[.ref tw,.ref tn])->(H tw=some (.tup ws))->(ws.length<=100)->(H tn=some (.tup (nm.map V.str)))->(nm.Nodup)->(nm.length<=3)->((∀w∈ws,xY nm w))->(Y9 ws)->(JG ws=1)->((∀z:Int,V.int z∈ws->0<=z/\z < 2 ^ B))->(kc=Xk ws)->((B + 1) * 2 ^ kc<=1000000)->(YN H pw Zw Zu)->(∀m (l:List (Int × List Int)) H',BfE (nxT nm (Y6 (2 ^ nm.length) nm) ws (lgB ws)) (0,List.replicate kc 0) l->M4 H' m nm 0 (rnG (nxT nm (Y6 (2 ^ nm.length) nm) ws (lgB ws)) l) (l.map (otT nm (Y6 (2 ^ nm.length) nm) ws (.bl false) (.bl true)))->YN H' pw Zw Zu->JH pw H H'->Q (.ref m) H')->XH w pw vs H Q
noncomputable def W7(P:Program)(w:World)(K:PySem.W.Frag)(mg:Str->Option Value)(base:Heap)(pw:Addr):Sp:=fun vs H Q _=>XH w pw vs H Q
theorem G9 (T:Txt K w mg t) (TB:Tbs mg base t):ZO P w K mg base CX0 15 t.a_claim_machine t.f_claim_machine ["claim","names"] (W7 P w K mg base t.p_machine_telling):=by
 have G_machine_telling:ZO P w K mg base CX0 14 t.a_machine_telling t.f_machine_telling ["words","names","told"] (YW P w K mg base t.p_machine_telling):=XG T TB
 refine T.d_claim_machine.F.ok G5 (fun vs H Q E h=>?_) (fun cdv A outer s H vs Q E hr h=>?_)
 ·obtain ⟨tw,tn,ws,nm,B,kc,rfl,ht,hl,hn,hnd,hn3,hw,he,hst,hB,hkc,hbig,hT,k⟩:=h
  rfl
 ·obtain ⟨tw,tn,ws,nm,B,kc,rfl,ht,hl,hn,hnd,hn3,hw,he,hst,hB,hkc,hbig,hT,k⟩:=h
  have hu:=Yr hr
  refine ⟨_,@QSs.out _ _ _ (Zf (Zt (Zl G_machine_telling (hr.mono (by decide)) rfl T.d_machine_telling.m T.d_machine_telling.F.kp T.d_machine_telling.b .nil ZE (Zi (qv 0) (Zi (qv 1) (Zi (ZF (Zi kT (Zi kT Zd))) Zd)))))),?_⟩
  clear hu hr
  try dsimp only [L2.cxK,L2.cxK2]
  refine ⟨_,rfl,_,rfl,by show 2<=sizeLine;decide,fun tt htt=>?_⟩
  have s1:=Zc (o:=.tup [.bl false,.bl true]) htt
  exact ⟨tw,tn,tt,ws,nm,(.bl false),(.bl true),B,kc,rfl,s1 _ _ ht,hl,s1 _ _ hn,hnd,hn3,Za,hw,he,hst,hB,hkc,hbig,hT.same s1,fun m l H' h1 h2 h3 h4=>k m l H' h1 h2 h3 fun b o e hb=>h4 _ _ (s1 _ _ e) hb⟩
inductive XI(pw:Addr)(vs:List V)(H:Hp)(Q:VK):Prop
 | mk (y:Str) (ps tn tl:Addr) (a:Nat->Addr) (r:Nat->List V) (nm:List Str) (ls:List Nat):(vs=[.str y,.ref ps,.ref tn,.ref tl])->(y∈WA)->(JX H ps a r nm)->(nm.length<=3)->(nm.Nodup)->((∀y∈nm,y∉YO))->(H tn=some (.tup (nm.map V.str)))->(H tl=some (.lst (ls.map Wu)))->(ls.length<=60)->((∀x∈ls,x < 2 ^ nm.length))->(YN H pw Zw Zu)->(∀H',Q (.bl true) H')->XI pw vs H Q
noncomputable def W8(K:PySem.W.Frag)(pw:Addr):Sp:=fun vs H Q _=>XI pw vs H Q
theorem GA (T:Txt K w mg t) (TB:Tbs mg base t):ZO P w K mg base CX0 16 t.a_law_sums_tied t.f_law_sums_tied ["word","some","names","letters"] (W8 K t.p_machine_telling):=by
 have G_law_number:ZO P w K mg base CX0 1 t.a_law_number t.f_law_number ["bits"] (Xt K):=JC T TB
 have G_law_holds:ZO P w K mg base CX0 3 t.a_law_holds t.f_law_holds ["claim","width","values"] (XE K):=Gv T TB
 have G_law_run:ZO P w K mg base CX0 1 t.a_law_run t.f_law_run ["machine","letters"] (Ga K):=xA T TB
 have G_machine_of:ZO P w K mg base CX0 15 t.a_machine_of t.f_machine_of ["words","names"] (Ws P w K mg base t.p_machine_telling):=JE T TB
 refine T.d_law_sums_tied.F.ok Z7 (fun vs H Q E h=>?_) (fun cdv A outer s H vs Q E hr h=>?_)
 ·obtain ⟨y,ps,tn,tl,a,r,nm,ls,rfl,hy,S,hn3,hnd,hnk,htn,htl,hl60,hlt,hT,k⟩:=h
  rfl
 ·obtain ⟨y,ps,tn,tl,a,r,nm,ls,rfl,hy,S,hn3,hnd,hnk,htn,htl,hl60,hlt,hT,k⟩:=h
  have hu:=Yr hr
  refine ⟨_,@QSs.out _ _ _ (Zb (Zp (i:=4) Z7.nd rfl (Or.inl rfl) Ze)
    (Zb (ZD (Zr ZH (qv 0) (ZF (Zi Zh (Zi Zh (Zi Zh (Zi Zh Zd))))) (by with_unfolding_all rfl))
    (Zf (Zp (i:=4) Z7.nd rfl (Or.inl rfl) Ze)) Z0)
    (Zb (ZD (Zr Yc (qv 0) Zh (Z6 _))
    (Zf (Zp (i:=4) Z7.nd rfl (Or.inl rfl) Ze)) Z0)
    (Zb (Zp (i:=5) Z7.nd rfl (Or.inl rfl) (ZF (Zi (qv 0) Zd)))
    (Zb (Zp (i:=6) Z7.nd rfl (Or.inl rfl) xO)
    (Zb (X8 PassesOwn.never rfl (Xh rfl T.z_range (Zi (qv 4) Zd)) (YI (i:=7) Z7.nd rfl (Or.inl rfl))
    (Zb (Zp (i:=5) Z7.nd rfl (Or.inl rfl) (Zn YR (qv 5) (Z5 Zs (qv 1) (qv 7) (fun _ _=>rfl))))
    (Zf (Jh hu (qv 6) (Z5 yf Zh (qv 7) (fun _ _=>rfl)) (Zl G_law_number (hr.mono (by decide)) rfl T.d_law_number.m T.d_law_number.F.kp T.d_law_number.b .nil ZE (Zi (Zl G_law_run (hr.mono (by decide)) rfl T.d_law_run.m T.d_law_run.F.kp T.d_law_run.b .nil ZE (Zi (Zl G_machine_of (hr.mono (by decide)) rfl T.d_machine_of.m T.d_machine_of.F.kp T.d_machine_of.b .nil ZE (Zi (Z5 Zs (qv 1) (qv 7) (fun _ _=>rfl)) (Zi (qv 2) Zd))) (Zi (qv 3) Zd))) Zd)) rfl))))
    (Zb (Zp (i:=8) Z7.nd rfl (Or.inl rfl) (Zl G_law_run (hr.mono (by decide)) rfl T.d_law_run.m T.d_law_run.F.kp T.d_law_run.b .nil ZE (Zi (Zl G_machine_of (hr.mono (by decide)) rfl T.d_machine_of.m T.d_machine_of.F.kp T.d_machine_of.b .nil ZE (Zi (qv 5) (Zi (qv 2) Zd))) (Zi (qv 3) Zd))))
    (Zb (Zp (i:=9) Z7.nd rfl (Or.inl rfl) (Zn YR (ZF (Zi (qv 0) Zd)) (Yn (SlR.or Zbf wj) (ZF (Zi Zh (Zi Zh (Zi Zh Zd)))) X2 (Ym (qv 4)))))
    (Zb (Zp (i:=10) Z7.nd rfl (Or.inl rfl) (Zn ZV (Zl G_law_holds (hr.mono (by decide)) rfl T.d_law_holds.m T.d_law_holds.F.kp T.d_law_holds.b .nil ZE (Zi (qv 9) (Zi (Zx (kC rfl) (by rfl) T.z_max Zbx (Zi Ze (Zi (Zx Zv (by rfl) T.z_len Yk (Zi (qv 3) Zd)) Zd))) (Zi (qv 6) Zd)))) (Zn zm Ze (Zx Zv (by rfl) T.z_len Yk (Zi (qv 3) Zd)))))
    (Zf (Zt (Zbs (Wk Yc (Zx Zv (by rfl) T.z_len Yk (Zi (qv 8) Zd)) (Zx Zv (by rfl) T.z_len Yk (Zi (qv 3) Zd)) (Z6 _)) (yh (Wk Yc (Zl G_law_number (hr.mono (by decide)) rfl T.d_law_number.m T.d_law_number.F.kp T.d_law_number.b .nil ZE (Zi (qv 8) Zd)) (qv 10) (Z6 _))))))))))))))),?_⟩
  clear hu hr
  try dsimp only [L2.cxK,L2.cxK2]
  refine L2.let10 ?_
  intro U9 U8 U7 U6 U5 U4 U3 U2 U1
  have hbw:=ue y
  have hwp:=xD y hy
  have yk:y∈YO:=(jP y hy).2
  show U1 { nx:=fun _ H'=>Q .non H',rt:=Q } [some (.str y),some (.ref ps),some (.ref tn),some (.ref tl),some (.int 2),none,none,none,none,none,none] H
  refine Ju (t:=Zct _ _ _) (fun σ H'=>σ=[some (.str y),some (.ref ps),some (.ref tn),some (.ref tl),some (.int (if y∈(["not","neg","twice","low"]:List Str) then 1 else 2)),none,none,none,none,none,none]/\ZT H H') (fun N hN=>?_) ?_
  ·refine ⟨_,rfl,by show 4<=sizeLine;decide,fun q hq=>⟨q,_,rfl,.inr (SqT.of Za),rfl,rfl,_,rfl,?_⟩⟩
   show if inV (.str y) ((["not","neg","twice","low"]:List Str).map V.str)=true then _ else _
   rw [Z1]
   have sq:=Zc (o:=.tup [.str "not",.str "neg",.str "twice",.str "low"]) hq
   by_cases h:y∈(["not","neg","twice","low"]:List Str)
   ·rw [Qan h] at hN
    rw [Qad h]
    exact YD (hN _ _ ⟨rfl,sq⟩)
   ·rw [Qal h] at hN
    rw [Qab h]
    exact Yj (hN _ _ ⟨rfl,sq⟩)
  rintro σ H1 hz_
  refine ZJ fun Gz hGz=>?_
  obtain ⟨rfl,s1⟩:=hz_
  refine hGz ?_
  clear hGz Gz
  refine Ju (t:=Zct _ _ _) (fun σ H'=>σ=[some (.str y),some (.ref ps),some (.ref tn),some (.ref tl),some (.int (ZR y:Int)),none,none,none,none,none,none]/\H'=H1) (fun N hN=>?_) ?_
  ·refine ⟨_,rfl,rfl,_,rfl,?_⟩
   unfold ZR at hN
   by_cases h:y = "pick"
   ·rw [Qan h] at hN
    rw [Qad (congrArg V.str h)]
    exact YD (hN _ _ ⟨rfl,rfl⟩)
   ·rw [Qal h] at hN
    rw [Qab fun z=>h (by injection z)]
    refine Yj (hN _ _ ⟨?_,rfl⟩)
    split <;> rfl
  rintro σ H1 hz_
  refine ZJ fun Gz hGz=>?_
  obtain ⟨rfl,rfl⟩:=hz_
  refine hGz ?_
  clear hGz Gz
  obtain ⟨pz,hz⟩:=(hT.same s1).ex
  have S1:=S.same s1
  have htn1:=s1 _ _ htn
  have htl1:=s1 _ _ htl
  have T1:=hT.same s1
  refine ⟨_,rfl,by show 1<=sizeLine;decide,fun tw htw=>Zk ?_⟩
  have u1:=Zc (o:=.tup [V.str y]) htw
  intro dv hdv
  have u2:=u1.trans (Zc (o:=.dK []) hdv)
  have hdv1:H1 dv=none:=u1.free hdv
  have hp0:∀j,j < ZR y->j < 3:=fun j hj=>by lia
  refine ⟨_,rfl,_,rfl,by lia,by lia,XS (fun i σ H2=>∃(tw:Addr) (u7:Option V) (kvs:List (Key × V)),σ=[some (.str y),some (.ref ps),some (.ref tn),some (.ref tl),some (.int (ZR y:Int)),some (.ref tw),some (.ref dv),u7,none,none,none]/\H2 tw=some (.tup (.str y::(List.range i).flatMap r))/\H2 dv=some (.dK kvs)/\VOk kvs i (fun j=>.int (nvR nm ls (r j)))/\kvs.length<=i/\YN H2 t.p_machine_telling Zw Zu/\JH t.p_machine_telling H1 H2) ⟨tw,none,[],rfl,Zc hdv _ _ Za,Za,VOk.nil,Qah _,T1.same u2,J5 u2⟩ ?_ ?_⟩
  ·rintro i σ H2 hi hz_
   refine ZJ fun Gz hGz=>?_
   (refine Oe3a6 hz_ fun tw u7 kvs zo41 h2w h2d hV hkl T2 o2=>?_;obtain rfl:=zo41;clear hz_)
   refine hGz ?_
   clear hGz Gz
   rw [Qaz] at hi
   have hi3:=hp0 i hi
   have S2:=S1.off o2 hz
   have htn2:=o2.tup hz htn1
   have htl2:=o2.lst hz htl1
   refine Oe0a2 (S2.g i hi3) fun g1 g2 g3=>?_
   have fl:=GO (r:=r) (c:=8) (d:=1) (js:=List.range i) fun j hj=>(S2.g j (by have:=Qby.mp hj;lia)).2
   rw [Qao] at fl
   refine ⟨_,rfl,_,rfl,_,rfl,ps,_,_,_,rfl,rfl,SqL.of S2.h,by rw [Qdd];exact S2.at_ i hi3,tw,a i,_,_,rfl,rfl,h2w,S2.t i hi3,Qau (Zm (by rw [Qa2];lia)),fun tw' H3 h3w s3=>Zk ?_⟩
   have S3:=S2.same s3
   have T3:=T2.same s3
   obtain ⟨pz3,hz3⟩:=T3.ex
   have PK:POk nm false (r i):=⟨hn3,hnd,hnk,by lia,g1,by lia⟩
   have fct:=g1.ty.facts
   refine ⟨_,rfl,_,rfl,ps,_,_,_,rfl,rfl,SqL.of S3.h,by rw [Qdd];exact S3.at_ i hi3,_,rfl,a i,tn,r i,nm,10,_,rfl,S3.t i hi3,PK.ln,s3 _ _ htn2,hnd,hn3,PK.wc,fct.2.1,fct.2.2,PK.iz,rfl,PK.big,T3,fun m l H4 B M T4 o4=>?_⟩
   refine ⟨_,rfl,m,tl,nm,_,_,ls,rfl,M,PK.runs B _ _,o4.lst hz3 (s3 _ _ htl2),by lia,hlt,fun p H5 hp0 hp s5=>?_⟩
   refine ZJ fun Gz hGz=>?_
   refine Oe1a3 ((PK.row B hlt (.int 0) (.int 1)).all) fun is e1 e2 e3 e4=>?_
   refine hGz ?_
   clear hGz Gz
   refine Oe1a1 (abc_at i hi3) fun c hc1 hc2=>?_
   refine ⟨p,is,rfl,by rw [hp,e1],by lia,e3,?_⟩
   rw [e4]
   have h5d:=s5 _ _ (o4.dk hz3 (s3 _ _ h2d))
   refine ⟨_,rfl,_,rfl,"abc",_,c,rfl,rfl,by show 3<=sizeLine;decide,by rw [Qdd];exact hc1,dv,_,rfl,wo.k (k:=.inr (⟨#[c]⟩:Str)) h5d (Zm (by lia)),tw',_,_,rfl,?_,Za,?_,?_,YN.put (T4.same s5) h5d,?_⟩
   ·rw [Zj (YC (s5 _ _ (o4.tup hz3 h3w)) h5d fun z=>nomatch z),Qem,List.flatMap_append]
    rw [s5 _ _ (o4.tup hz3 h3w)]
    simp
   ·rw [hc2]
    exact hV.put hi3
   ·have:=Xa kvs (.inr (⟨#[c]⟩:Str)) (.int (nvR nm ls (r i)))
    lia
   ·exact (((o2.same s3).trans o4).same s5).put hdv1
  rintro σ H2 hz_
  refine ZJ fun Gz hGz=>?_
  (refine Oe3a6 hz_ fun tw u7 kvs zo42 h2w h2d hV hkl T2 o2=>?_;obtain rfl:=zo42;clear hz_)
  refine hGz ?_
  clear hGz Gz
  rw [Qaz] at h2w hV hkl
  have S2:=S1.off o2 hz
  have htn2:=o2.tup hz htn1
  have htl2:=o2.lst hz htl1
  have fl:=GO (r:=r) (c:=8) (d:=1) (js:=List.range (ZR y)) fun j hj=>(S2.g j (by have:=Qby.mp hj;lia)).2
  rw [Qao] at fl
  have PK:POk nm false (.str y::(List.range (ZR y)).flatMap r):=⟨hn3,hnd,hnk,by rw [Qa2];lia,Zax hnk hy hwp fun j hj=>(S2.g j (hp0 j hj)).1,by have:=zg (.str y) ((List.range (ZR y)).flatMap r);lia⟩
  have fct:=PK.sg.ty.facts
  obtain ⟨pz2,hz2⟩:=T2.ex
  refine ⟨_,rfl,_,rfl,tw,tn,_,nm,10,_,rfl,h2w,PK.ln,htn2,hnd,hn3,PK.wc,fct.2.1,fct.2.2,PK.iz,rfl,PK.big,T2,fun m l H4 B M T4 o4=>?_⟩
  refine ⟨_,rfl,m,tl,nm,_,_,ls,rfl,M,PK.runs B _ _,o4.lst hz2 htl2,by lia,hlt,fun p H5 hp0' hp s5=>Zk ?_⟩
  refine ZJ fun Gz hGz=>?_
  refine Oe1a3 ((PK.row B hlt (.int 0) (.int 1)).all) fun is e1 e2 e3 e4=>?_
  refine hGz ?_
  clear hGz Gz
  have h5d:=s5 _ _ (o4.dk hz2 h2d)
  have h5l:=s5 _ _ (o4.lst hz2 htl2)
  refine ⟨_,rfl,by show 1<=sizeLine;decide,fun q1 hq1=>⟨by show 3<=sizeLine;decide,fun q2 hq2=>?_⟩⟩
  have v1:=Zc (o:=.tup [V.str y]) hq1
  have v2:=Zc (o:=.tup [V.str "a",.str "b",.str "c"]) hq2
  refine ⟨_,rfl,_,rfl,zG Za fun q3 H6 h6 s6=>?_⟩
  rw [J2] at h6
  have ec:∀n,n<=3->([V.str "a",.str "b",.str "c"]:List V).take n=(List.range n).map fun j=>.str (abc j):=fun n hn=>by
   match n,hn with
   | 0,_=>rfl
   | 1,_=>rfl
   | 2,_=>rfl
   | 3,_=>rfl
  rw [ec _ hbw.2] at h6
  refine ⟨q1,q3,_,_,rfl,rfl,s6 _ _ (v2 _ _ Za),h6,Qau (Zm (by rw [Qaa,Qao];show 1 + ZR y<=1000;lia)),fun q4 H7 h7 s7=>Zk ?_⟩
  have v:=v1.trans (v2.trans (s6.trans s7))
  have em:(if ((ls.map Wu).length:Int) > 1 then ((ls.map Wu).length:Int) else 1)=((max 1 ls.length:Nat):Int):=by
   rw [Qaa]
   split <;> lia
  refine ⟨_,rfl,_,rfl,tl,_,rfl,.inl (SqL.of (v _ _ h5l)),_,_,rfl,_,rfl,?_⟩
  try dsimp only
  rw [em]
  have en:((List.range (ZR y)).map fun j=>nvR nm ls (r j)).length=ZG y:=by rw [Qaa,Qao,hwp]
  have bds:∀z∈(List.range (ZR y)).map (fun j=>nvR nm ls (r j)),0<=z/\z < 2 ^ (max 1 ls.length):=fun z hzm=>by
   (refine Oe1a1 (Qbb.mp hzm) fun j hj zo43=>?_;obtain rfl:=zo43)
   have hb:=nvR_bd (ls:=ls) (S2.g j (hp0 j (Qby.mp hj))).1
   exact ⟨hb.1,Int.lt_of_lt_of_le hb.2 (jG (by lia))⟩
  have hst:=qx.sum (l:=[]) (hV.word (.inl hy)) hy en bds
  rw [Qa3,Qbw] at hst
  have hto:=jb hV hbw.2 hst
  refine ⟨q4,dv,max 1 ls.length,_,kvs,_,rfl,by lia,by lia,h7,by show (List.map _ _).length + 1<=100;rw [Qaa,Qao];lia,.inl (v _ _ h5d),hto,fun H8 s8=>?_⟩
  have w8:=v.trans s8
  have eL:(1:Int) * 2 ^ ((ls.map Wu).length:Int).toNat=2 ^ ls.length:=by rw [Qeq,Qaz,Qaa]
  refine ⟨_,rfl,tl,_,rfl,.inl (SqL.of (w8 _ _ h5l)),_,_,rfl,rfl,⟨Qbk _,by rw [Qaa];lia,by decide⟩,_,_,rfl,rfl,(by show (0:Int) < 1 * 2 ^ ((ls.map Wu).length:Int).toNat;rw [eL];exact Wn _),Zk ?_⟩
  have hp8:=w8 _ _ hp
  refine ⟨_,rfl,p,_,rfl,.inl (SqL.of hp8),_,rfl,tl,_,rfl,.inl (SqL.of (w8 _ _ h5l)),rfl,_,rfl,?_⟩
  rw [Qad (by rw [zf,Qaa])]
  refine YD ⟨_,rfl,p,is,rfl,by rw [hp8,e1],by lia,e3,_,rfl,rfl,?_⟩
  rw [e4]
  have fin:nvR nm ls (.str y::(List.range (ZR y)).flatMap r)=wwv (fun _=>0) (.str y) ((List.range (ZR y)).map fun j=>nvR nm ls (r j)) % 2 ^ (max 1 ls.length) % (1 * 2 ^ ((ls.map Wu).length:Int).toNat):=by
   rw [eL,<-hwp]
   exact Zaz hy fun j hj=>(S2.g j (by lia)).1
  rw [Qad (congrArg V.int fin)]
  exact k H8
inductive Xp(pw:Addr)(vs:List V)(H:Hp)(Q:VK):Prop
 | mk (y:Str) (ps tn tl:Addr) (a:Nat->Addr) (r:Nat->List V) (nm:List Str) (ls:List Nat):(vs=[.str y,.ref ps,.ref tn,.ref tl])->(y∈(["same","under","beneath","sign","nought","both","either","so","never"]:List Str))->(JX H ps a r nm)->(nm.length<=3)->(nm.Nodup)->((∀y∈nm,y∉YO))->(H tn=some (.tup (nm.map V.str)))->(H tl=some (.lst (ls.map Wu)))->(ls.length<=60)->((∀x∈ls,x < 2 ^ nm.length))->(YN H pw Zw Zu)->(∀H',Q (.bl true) H')->Xp pw vs H Q
noncomputable def XJ(K:PySem.W.Frag)(pw:Addr):Sp:=fun vs H Q _=>Xp pw vs H Q
theorem JF (T:Txt K w mg t) (TB:Tbs mg base t):ZO P w K mg base CX0 16 t.a_law_claims_tied t.f_law_claims_tied ["word","some","names","letters"] (XJ K t.p_machine_telling):=by
  have G_law_holds:ZO P w K mg base CX0 3 t.a_law_holds t.f_law_holds ["claim","width","values"] (XE K):=Gv T TB
  have G_law_number:ZO P w K mg base CX0 1 t.a_law_number t.f_law_number ["bits"] (Xt K):=JC T TB
  have G_law_run:ZO P w K mg base CX0 1 t.a_law_run t.f_law_run ["machine","letters"] (Ga K):=xA T TB
  have G_claim_machine:ZO P w K mg base CX0 15 t.a_claim_machine t.f_claim_machine ["claim","names"] (W7 P w K mg base t.p_machine_telling):=G9 T TB
  have G_machine_of:ZO P w K mg base CX0 15 t.a_machine_of t.f_machine_of ["words","names"] (Ws P w K mg base t.p_machine_telling):=JE T TB
  refine T.d_law_claims_tied.F.ok Zq (fun vs H Q E h=>?_) (fun cdv A outer s H vs Q E hr h=>?_)
  · obtain ⟨y,ps,tn,tl,a,r,nm,ls,rfl,hy,S,hn3,hnd,hnk,htn,htl,hl60,hlt,hT,k⟩:=h
    rfl
  · obtain ⟨y,ps,tn,tl,a,r,nm,ls,rfl,hy,S,hn3,hnd,hnk,htn,htl,hl60,hlt,hT,k⟩:=h
    have hu:=Yr hr
    refine ⟨_,@QSs.out _ _ _ (Zb (Zp (i:=4) Zq.nd rfl (Or.inl rfl) xO)
        (Zb (ZD (Zr ZH (qv 0) (ZF (Zi Zh (Zi Zh Zd))) (by with_unfolding_all rfl))
        (Zb (Zp (i:=4) Zq.nd rfl (Or.inl rfl) (xT (GJ Zh (Zl G_law_run (hr.mono (by decide)) rfl T.d_law_run.m T.d_law_run.F.kp T.d_law_run.b .nil ZE (Zi (Zl G_machine_of (hr.mono (by decide)) rfl T.d_machine_of.m T.d_machine_of.F.kp T.d_machine_of.b .nil ZE (Zi (Z5 Zs (qv 1) Ze (fun _ _=>rfl)) (Zi (qv 2) Zd))) (Zi (qv 3) Zd))) xS) rfl rfl (fun z=>nomatch z) (by decide)))
        (Zf (Zp (i:=5) Zq.nd rfl (Or.inl rfl) (Zn YR (ZF (Zi (qv 0) Zd)) (Z5 Zs (qv 1) Ze (fun _ _=>rfl)))))) (Zf (ZD (Zr ZH (qv 0) (ZF (Zi Zh (Zi Zh (Zi Zh Zd)))) (by with_unfolding_all rfl))
        (Zb (Zp (i:=4) Zq.nd rfl (Or.inl rfl) (xT (GJ Zh (Zl G_law_run (hr.mono (by decide)) rfl T.d_law_run.m T.d_law_run.F.kp T.d_law_run.b .nil ZE (Zi (Zl G_machine_of (hr.mono (by decide)) rfl T.d_machine_of.m T.d_machine_of.F.kp T.d_machine_of.b .nil ZE (Zi (Z5 Zs (qv 1) Ze (fun _ _=>rfl)) (Zi (qv 2) Zd))) (Zi (qv 3) Zd))) xS) rfl rfl (fun z=>nomatch z) (by decide)))
        (Zb (Jh hu (qv 4) Zh (Zl G_law_run (hr.mono (by decide)) rfl T.d_law_run.m T.d_law_run.F.kp T.d_law_run.b .nil ZE (Zi (Zl G_machine_of (hr.mono (by decide)) rfl T.d_machine_of.m T.d_machine_of.F.kp T.d_machine_of.b .nil ZE (Zi (Z5 Zs (qv 1) Ze (fun _ _=>rfl)) (Zi (qv 2) Zd))) (Zi (qv 3) Zd))) rfl)
        (Zf (Zp (i:=5) Zq.nd rfl (Or.inl rfl) (Zn YR (Zn YR (ZF (Zi (qv 0) Zd)) (Z5 Zs (qv 1) Ze (fun _ _=>rfl))) (Z5 Zs (qv 1) Ze (fun _ _=>rfl))))))) (Zb (Zp (i:=6) Zq.nd rfl (Or.inl rfl) (Zn YR (Zn YR (ZF (Zi Zh Zd)) (Z5 Zs (qv 1) Ze (fun _ _=>rfl))) (Z5 Zs (qv 1) Ze (fun _ _=>rfl))))
        (Zb (Zp (i:=7) Zq.nd rfl (Or.inl rfl) (Zn YR (ZF (Zi Zh Zd)) (Z5 Zs (qv 1) Ze (fun _ _=>rfl))))
        (Zb (Zp (i:=4) Zq.nd rfl (Or.inl rfl) (xT (GJ Zh (Zl G_law_run (hr.mono (by decide)) rfl T.d_law_run.m T.d_law_run.F.kp T.d_law_run.b .nil ZE (Zi (Zl G_claim_machine (hr.mono (by decide)) rfl T.d_claim_machine.m T.d_claim_machine.F.kp T.d_claim_machine.b .nil ZE (Zi (qv 6) (Zi (qv 2) Zd))) (Zi (qv 3) Zd))) xS) rfl rfl (fun z=>nomatch z) (by decide)))
        (Zb (Zp (i:=5) Zq.nd rfl (Or.inl rfl) (Zn YR (ZF (Zi (qv 0) Zd)) (qv 6)))
        (Zf (ZD (Zr Ze8 (qv 0) Zh (Z6 _))
        (Zb (Jh hu (qv 4) Zh (Zl G_law_run (hr.mono (by decide)) rfl T.d_law_run.m T.d_law_run.F.kp T.d_law_run.b .nil ZE (Zi (Zl G_claim_machine (hr.mono (by decide)) rfl T.d_claim_machine.m T.d_claim_machine.F.kp T.d_claim_machine.b .nil ZE (Zi (qv 7) (Zi (qv 2) Zd))) (Zi (qv 3) Zd))) rfl)
        (Zf (Zp (i:=5) Zq.nd rfl (Or.inl rfl) (Zn YR (qv 5) (qv 7))))) Z0)))))))))
        (Zb (Zp (i:=8) Zq.nd rfl (Or.inl rfl) (Zn YR (ZF (Zi (qv 0) Zd)) (Yn (SlR.or Zbf wj) (ZF (Zi Zh (Zi Zh Zd))) X2 (Ym (Zx w6 (by rfl) T.z_len Yk (Zi (qv 4) Zd))))))
        (Zb (Zp (i:=9) Zq.nd rfl (Or.inl rfl) (Wk ZH (qv 0) (ZF (Zi Zh (Zi Zh (Zi Zh (Zi Zh Zd))))) (by with_unfolding_all rfl)))
        (Zb (Zp (i:=10) Zq.nd rfl (Or.inl rfl) (Zl G_law_run (hr.mono (by decide)) rfl T.d_law_run.m T.d_law_run.F.kp T.d_law_run.b .nil ZE (Zi (Zl G_claim_machine (hr.mono (by decide)) rfl T.d_claim_machine.m T.d_claim_machine.F.kp T.d_claim_machine.b .nil ZE (Zi (qv 5) (Zi (qv 2) Zd))) (Zi (qv 3) Zd))))
        (Zb (X8 PassesOwn.never rfl (vo rfl T.z_range (Zi Ze (Zi (Zn YX (Zx Zv (by rfl) T.z_len Yk (Zi (qv 3) Zd)) Ze) Zd))) (YI (i:=11) Zq.nd rfl (Or.inl rfl))
        (Zf (ZD (kW (Zfd (Zr op_le (qv 11) Ze (Z6 _)) (Zbr (Zr Yc (qv 11) (Zx Zv (by rfl) T.z_len Yk (Zi (qv 3) Zd)) (Z6 _)))))
        (Zb (Zp (i:=12) Zq.nd rfl (Or.inl rfl) xO)
        (Zb (X8 PassesOwn.never rfl (Zdo (qv 4)) (YI (i:=13) Zq.nd rfl (Or.inl rfl))
        (Zf (ZD (xf (qv 9))
        (Zf (Jh hu (qv 12) (qv 13) (Z5 Zs (GY hu (qv 4) (qv 13) (fun _ _=>rfl)) (Zn XT (qv 11) Ze) (fun _ _=>rfl)) rfl)) (Zf (Jh hu (qv 12) (qv 13) (Zl G_law_number (hr.mono (by decide)) rfl T.d_law_number.m T.d_law_number.F.kp T.d_law_number.b .nil ZE (Zi (Yn X1 (GY hu (qv 4) (qv 13) (fun _ _=>rfl)) X2 (Ym (qv 11))) Zd)) rfl)))))
        (Zf (ZD (Zr Ze8 (Z5 Zs (qv 10) (Zn XT (qv 11) Ze) (fun _ _=>rfl)) (Zl G_law_holds (hr.mono (by decide)) rfl T.d_law_holds.m T.d_law_holds.F.kp T.d_law_holds.b .nil ZE (Zi (qv 8) (Zi (qv 11) (Zi (qv 12) Zd)))) (Z6 _))
        (Zf (Zt kT)) Z0)))) Z0)))
        (Zf (Zt kT)))))))),?_⟩
    clear hu hr
    try dsimp only [L2.cxK,L2.cxK2]
    refine L2.let7 ?_
    intro U6 U5 U4 U3 U2 U1
    obtain ⟨hyc,grp⟩:=Zeq y hy
    intro d0 hd0
    have u0:=Zc (o:=.dK []) hd0
    have S0:=S.same u0
    have T0:=hT.same u0
    have htn0:=u0 _ _ htn
    have htl0:=u0 _ _ htl
    refine Zk ?_
    show U1 { nx:=fun _ H'=>Q .non H',rt:=Q } [some (.str y),some (.ref ps),some (.ref tn),some (.ref tl),some (.ref d0),none,none,none,none,none,none,none,none,none] (upd H d0 (.dK []))
    generalize upd H d0 (.dK [])=H0 at *
    have PK:∀j,j < 3->POk nm false (r j):=fun j hj=>⟨hn3,hnd,hnk,by have:=(S.g j hj).2.1;lia,(S.g j hj).1,by have:=(S.g j hj).2.2;lia⟩
    have P0:=PK 0 (by decide)
    have P1:=PK 1 (by decide)
    have f0:=P0.sg.ty.facts
    have f1:=P1.sg.ty.facts
    have l0:=(S.g 0 (by decide)).2
    have l1:=(S.g 1 (by decide)).2
    refine Ju (t:=Zct _ _ _) (fun σ H'=>∃(da tw:Addr) (n:Nat) (b:Bool) (q:Nat->List V) (p:Nat->Addr) (row:Nat->List V) (u6 u7:Option V),σ=[some (.str y),some (.ref ps),some (.ref tn),some (.ref tl),some (.ref da),some (.ref tw),u6,u7,none,none,none,none,none,none]/\Ran H' nm ls y da tw n b q p row/\YN H' t.p_machine_telling Zw Zu/\JH t.p_machine_telling H0 H') (fun N hN=>?_) ?_
    · refine ⟨_,rfl,by show 2<=sizeLine;decide,fun g hg=>⟨g,_,rfl,.inr (SqT.of Za),rfl,rfl,_,rfl,?_⟩⟩
      show if inV (.str y) ((["sign","nought"]:List Str).map V.str)=true then _ else _
      rw [Z1]
      have sg:=Zc (o:=.tup [.str "sign",.str "nought"]) hg
      have S1:=S0.same sg
      have T1:=T0.same sg
      have htn1:=sg _ _ htn0
      have htl1:=sg _ _ htl0
      generalize upd H0 g (.tup [.str "sign",.str "nought"])=H1 at *
      rcases grp with ⟨g1,g2,g3,g4⟩ | ⟨g1,g2,g3,g4,g5⟩ | ⟨g1,g2,g3,g4,g5⟩
      · rw [Qad g1]
        refine YD fun da hda=>?_
        have uda:=Zc (o:=.dK []) hda
        have hda2:upd H1 da (.dK []) da=some (.dK []):=Za
        have S2:=S1.same uda
        have T2:=T1.same uda
        have htn2:=uda _ _ htn1
        have htl2:=uda _ _ htl1
        have o2:=J5 (pw:=t.p_machine_telling) (sg.trans uda)
        generalize upd H1 da (.dK [])=H2 at *
        obtain ⟨pz2,hz2⟩:=T2.ex
        refine ⟨_,rfl,ps,_,0,_,rfl,rfl,SqL.of S2.h,rfl,_,rfl,a 0,tn,r 0,nm,10,_,rfl,S2.t 0 (by decide),P0.ln,htn2,hnd,hn3,P0.wc,f0.2.1,f0.2.2,P0.iz,rfl,P0.big,T2,fun m l H4 B M T4 o4=>⟨_,rfl,m,tl,nm,_,_,ls,rfl,M,P0.runs B _ _,o4.lst hz2 htl2,by lia,hlt,fun p H5 hp0 hp s5=>?_⟩⟩
        have R0:=P0.row B hlt (.int 0) (.int 1)
        have h5d:=s5 _ _ (o4.dk hz2 hda2)
        refine ⟨h5d,[(.inr "a",.ref p)],rfl,by show 1<=15;decide,Zk ?_⟩
        have S5:=(S2.off o4 hz2).same s5
        have T5:=T4.same s5
        have o5:=(o2.trans o4).same s5
        have hq6:upd H5 da (.dK (Y8 [] [(.inr "a",.ref p)])) da=some (.dK [(.inr "a",.ref p)]):=Za
        have kp6:∀{b:Addr} {u:HO},H5 b=some u->(∀z,u≠.dK z)->upd H5 da (.dK (Y8 [] [(.inr "a",.ref p)])) b=some u:=fun e hne=>by
          rw [Zj (YC e h5d (hne _))]
          exact e
        have T6:=YN.put (o':=.dK (Y8 [] [(.inr "a",.ref p)])) T5 h5d
        have o6:JH t.p_machine_telling H0 (upd H5 da (.dK (Y8 [] [(.inr "a",.ref p)]))):=o5.put (sg.free hda)
        have h6p:=kp6 hp (fun _ z=>nomatch z)
        have h6s:=kp6 S5.h (fun _ z=>nomatch z)
        have h6a:=kp6 (S5.t 0 (by decide)) (fun _ z=>nomatch z)
        generalize upd H5 da (.dK (Y8 [] [(.inr "a",.ref p)]))=H6 at *
        refine ⟨_,rfl,by show 1<=sizeLine;decide,fun q1 hq1=>?_⟩
        have v1:=Zc (o:=.tup [V.str y]) hq1
        refine ⟨_,rfl,ps,_,0,_,rfl,rfl,SqL.of (v1 _ _ h6s),rfl,q1,a 0,_,_,rfl,rfl,Za,v1 _ _ h6a,Qau (Zm (by show 1 + (r 0).length<=1000;lia)),fun tw H7 h7 s7=>Zk (hN _ _ ?_)⟩
        have v7:=v1.trans s7
        refine ⟨da,tw,1,false,fun _=>r 0,fun _=>p,fun _=>_,_,_,rfl,⟨v7 _ _ hq6,?_,ub ⟨v7 _ _ h6p,R0,P0.sg,by lia,by lia⟩,by decide,by decide,.inl ⟨rfl,g2,g3,by decide⟩,Qab g4⟩,T6.same v7,o6.same v7⟩
        rw [h7]
        show some (HO.tup ([V.str y]++r 0))=some (.tup (.str y::(r 0++[])))
        rw [Qa3]
        rfl
      · rw [Qab g1]
        refine Yj ⟨_,rfl,by show 3<=sizeLine;decide,fun g' hg'=>⟨g',_,rfl,.inr (SqT.of Za),rfl,rfl,_,rfl,?_⟩⟩
        show if inV (.str y) ((["same","under","beneath"]:List Str).map V.str)=true then _ else _
        rw [Z1,Qad g2]
        have sg':=Zc (o:=.tup [.str "same",.str "under",.str "beneath"]) hg'
        have S1:=S1.same sg'
        have T1:=T1.same sg'
        have htn1:=sg' _ _ htn1
        have htl1:=sg' _ _ htl1
        have sg:=sg.trans sg'
        generalize upd H1 g' (.tup [.str "same",.str "under",.str "beneath"])=H1 at *
        refine YD fun da hda=>?_
        have uda:=Zc (o:=.dK []) hda
        have hda2:upd H1 da (.dK []) da=some (.dK []):=Za
        have S2:=S1.same uda
        have T2:=T1.same uda
        have htn2:=uda _ _ htn1
        have htl2:=uda _ _ htl1
        have o2:=J5 (pw:=t.p_machine_telling) (sg.trans uda)
        generalize upd H1 da (.dK [])=H2 at *
        obtain ⟨pz2,hz2⟩:=T2.ex
        refine ⟨_,rfl,ps,_,0,_,rfl,rfl,SqL.of S2.h,rfl,_,rfl,a 0,tn,r 0,nm,10,_,rfl,S2.t 0 (by decide),P0.ln,htn2,hnd,hn3,P0.wc,f0.2.1,f0.2.2,P0.iz,rfl,P0.big,T2,fun m l H4 B M T4 o4=>⟨_,rfl,m,tl,nm,_,_,ls,rfl,M,P0.runs B _ _,o4.lst hz2 htl2,by lia,hlt,fun p H5 hp0 hp s5=>?_⟩⟩
        have R0:=P0.row B hlt (.int 0) (.int 1)
        have h5d:=s5 _ _ (o4.dk hz2 hda2)
        refine ⟨h5d,[(.inr "a",.ref p)],rfl,by show 1<=15;decide,Zk ?_⟩
        have S5:=(S2.off o4 hz2).same s5
        have T5:=T4.same s5
        have o5:=(o2.trans o4).same s5
        have hq6:upd H5 da (.dK (Y8 [] [(.inr "a",.ref p)])) da=some (.dK [(.inr "a",.ref p)]):=Za
        have kp6:∀{b:Addr} {u:HO},H5 b=some u->(∀z,u≠.dK z)->upd H5 da (.dK (Y8 [] [(.inr "a",.ref p)])) b=some u:=fun e hne=>by
          rw [Zj (YC e h5d (hne _))]
          exact e
        have T6:=YN.put (o':=.dK (Y8 [] [(.inr "a",.ref p)])) T5 h5d
        have o6:JH t.p_machine_telling H0 (upd H5 da (.dK (Y8 [] [(.inr "a",.ref p)]))):=o5.put (sg.free hda)
        have h6p:=kp6 hp (fun _ z=>nomatch z)
        have S6:JX (upd H5 da (.dK (Y8 [] [(.inr "a",.ref p)]))) ps a r nm:=⟨kp6 S5.h (fun _ z=>nomatch z),fun k hk=>kp6 (S5.t k hk) (fun _ z=>nomatch z),S5.g⟩
        have htn6:=kp6 (s5 _ _ (o4.tup hz2 htn2)) (fun _ z=>nomatch z)
        have htl6:=kp6 (s5 _ _ (o4.lst hz2 htl2)) (fun _ z=>nomatch z)
        generalize upd H5 da (.dK (Y8 [] [(.inr "a",.ref p)]))=H6 at *
        obtain ⟨pz6,hz6⟩:=T6.ex
        refine ⟨_,rfl,ps,_,1,_,rfl,rfl,SqL.of S6.h,rfl,_,rfl,a 1,tn,r 1,nm,10,_,rfl,S6.t 1 (by decide),P1.ln,htn6,hnd,hn3,P1.wc,f1.2.1,f1.2.2,P1.iz,rfl,P1.big,T6,fun m' l' H8 B' M' T8 o8=>⟨_,rfl,m',tl,nm,_,_,ls,rfl,M',P1.runs B' _ _,o8.lst hz6 htl6,by lia,hlt,fun p' H9 hp0' hp' s9=>?_⟩⟩
        have R1:=P1.row B' hlt (.int 0) (.int 1)
        have h9d:=s9 _ _ (o8.dk hz6 hq6)
        have S9:=(S6.off o8 hz6).same s9
        have T9:=T8.same s9
        have o9:=(o6.trans o8).same s9
        have h9p:=s9 _ _ (o8.lst hz6 h6p)
        refine ⟨_,rfl,da,_,rfl,wo.k (k:=.inr "b") h9d (Zm (by show 1<=1000;decide)),?_⟩
        have hqA:upd H9 da (.dK (putK [(.inr "a",.ref p)] (.inr "b") (.ref p'))) da=some (.dK [(.inr "a",.ref p),(.inr "b",.ref p')]):=Za
        have kpA:∀{b:Addr} {u:HO},H9 b=some u->(∀z,u≠.dK z)->upd H9 da (.dK (putK [(.inr "a",.ref p)] (.inr "b") (.ref p'))) b=some u:=fun e hne=>by
          rw [Zj (YC e h9d (hne _))]
          exact e
        have TA:=YN.put (o':=.dK (putK [(.inr "a",.ref p)] (.inr "b") (.ref p'))) T9 h9d
        have oA:JH t.p_machine_telling H0 (upd H9 da (.dK (putK [(.inr "a",.ref p)] (.inr "b") (.ref p')))):=o9.put (sg.free hda)
        have hAp:=kpA h9p (fun _ z=>nomatch z)
        have hAp':=kpA hp' (fun _ z=>nomatch z)
        have SA:JX (upd H9 da (.dK (putK [(.inr "a",.ref p)] (.inr "b") (.ref p')))) ps a r nm:=⟨kpA S9.h (fun _ z=>nomatch z),fun k hk=>kpA (S9.t k hk) (fun _ z=>nomatch z),S9.g⟩
        generalize upd H9 da (.dK (putK [(.inr "a",.ref p)] (.inr "b") (.ref p')))=HA at *
        refine ⟨_,rfl,by show 1<=sizeLine;decide,fun q1 hq1=>?_⟩
        have v1:=Zc (o:=.tup [V.str y]) hq1
        refine ⟨_,rfl,ps,_,0,_,rfl,rfl,SqL.of (v1 _ _ SA.h),rfl,q1,a 0,_,_,rfl,rfl,Za,v1 _ _ (SA.t 0 (by decide)),Qau (Zm (by show 1 + (r 0).length<=1000;lia)),fun q2 HB hB sB=>?_⟩
        have vB:=v1.trans sB
        refine ⟨_,rfl,ps,_,1,_,rfl,rfl,SqL.of (vB _ _ SA.h),rfl,q2,a 1,_,_,rfl,rfl,hB,vB _ _ (SA.t 1 (by decide)),Qau (Zm (by rw [Qac];show 1 + (r 0).length + (r 1).length<=1000;lia)),fun tw H7 h7 s7=>Zk (hN _ _ ?_)⟩
        have v7:=vB.trans s7
        refine ⟨da,tw,2,false,Ze0 (r 0) (r 1),Ze0 p p',Ze0 _ _,_,_,rfl,⟨v7 _ _ hqA,?_,ua ⟨v7 _ _ hAp,R0,P0.sg,by show (r 0).length<=20;lia,by show Xk (r 0)<=4;lia⟩ ⟨v7 _ _ hAp',R1,P1.sg,by show (r 1).length<=20;lia,by show Xk (r 1)<=4;lia⟩,by decide,by decide,.inl ⟨rfl,g3,g4,by decide⟩,Qab g5⟩,TA.same v7,oA.same v7⟩
        rw [h7]
        show some (HO.tup (V.str y::(r 0++r 1)))=some (.tup (.str y::(r 0++(r 1++[]))))
        rw [Qa3]
      · rw [Qab g1]
        refine Yj ⟨_,rfl,by show 3<=sizeLine;decide,fun g' hg'=>⟨g',_,rfl,.inr (SqT.of Za),rfl,rfl,_,rfl,?_⟩⟩
        show if inV (.str y) ((["same","under","beneath"]:List Str).map V.str)=true then _ else _
        rw [Z1,Qab g2]
        have sg':=Zc (o:=.tup [.str "same",.str "under",.str "beneath"]) hg'
        have S1:=S1.same sg'
        have T1:=T1.same sg'
        have htn1:=sg' _ _ htn1
        have htl1:=sg' _ _ htl1
        have sg:=sg.trans sg'
        generalize upd H1 g' (.tup [.str "same",.str "under",.str "beneath"])=H1 at *
        obtain ⟨un1,un2,un3⟩:=(by decide +kernel:("under" : Str)∈Z9/\WC (.str "under")=2/\Jo (.str "under")=0)
        obtain ⟨no1,no2,no3⟩:=(by decide +kernel:("nought" : Str)∈Z9/\WC (.str "nought")=1/\Jo (.str "nought")=0)
        have kn:∀y,y∈Z9->y∉nm:=fun y hy z=>hnk y z (JS y hy)
        have sgU:Seg nm true (.str "under" :: (r 0++r 1)):=Seg.rel2 un1 (kn _ un1) un2 un3 P0.sg P1.sg
        have sgN:Seg nm true (.str "nought" :: r 0):=Seg.rel1 no1 (kn _ no1) no2 no3 P0.sg
        have lU:(V.str "under" :: (r 0++r 1)).length<=20:=by rw [Qa2,Qac];lia
        have lN:(V.str "nought" :: r 0).length<=20:=by rw [Qa2];lia
        have mU:Xk (V.str "under" :: (r 0++r 1))<=4:=by have:=zg (.str "under") (r 0++r 1);rw [J4] at this;lia
        have mN:Xk (V.str "nought" :: r 0)<=4:=by have:=zg (.str "nought") (r 0);lia
        have PU:POk nm true (.str "under" :: (r 0++r 1)):=⟨hn3,hnd,hnk,by lia,sgU,by lia⟩
        have PN:POk nm true (.str "nought" :: r 0):=⟨hn3,hnd,hnk,by lia,sgN,by lia⟩
        have fU:=sgU.ty.facts
        have fN:=sgN.ty.facts
        refine Yj ⟨by show 1<=sizeLine;decide,fun q1 hq1=>?_⟩
        have v1:=Zc (o:=.tup [V.str "under"]) hq1
        refine ⟨_,rfl,ps,_,0,_,rfl,rfl,SqL.of (v1 _ _ S1.h),rfl,q1,a 0,_,_,rfl,rfl,Za,v1 _ _ (S1.t 0 (by decide)),Qau (Zm (by show 1 + (r 0).length<=1000;lia)),fun q2 HB hB sB=>?_⟩
        have vB:=v1.trans sB
        refine ⟨_,rfl,ps,_,1,_,rfl,rfl,SqL.of (vB _ _ S1.h),rfl,q2,a 1,_,_,rfl,rfl,hB,vB _ _ (S1.t 1 (by decide)),Qau (Zm (by rw [Qac];show 1 + (r 0).length + (r 1).length<=1000;lia)),fun tu HC hC sC=>Zk ?_⟩
        have vC:=vB.trans sC
        have hC:HC tu=some (.tup (.str "under" :: (r 0++r 1))):=hC
        refine ⟨by show 1<=sizeLine;decide,fun q3 hq3=>?_⟩
        have v3:=Zc (o:=.tup [V.str "nought"]) hq3
        have vD:=vC.trans v3
        refine ⟨_,rfl,ps,_,0,_,rfl,rfl,SqL.of (vD _ _ S1.h),rfl,q3,a 0,_,_,rfl,rfl,Za,vD _ _ (S1.t 0 (by decide)),Qau (Zm (by show 1 + (r 0).length<=1000;lia)),fun to HE hE sE=>Zk ?_⟩
        have vE:=vD.trans sE
        have hE:HE to=some (.tup (.str "nought" :: r 0)):=hE
        have hU:=(v3.trans sE) _ _ hC
        have S1:=S1.same vE
        have T1:=T1.same vE
        have htn1:=vE _ _ htn1
        have htl1:=vE _ _ htl1
        have sg:=sg.trans vE
        clear vE vD v3 vC hC sC vB hB sB v1
        intro da hda
        have uda:=Zc (o:=.dK []) hda
        have hda2:upd HE da (.dK []) da=some (.dK []):=Za
        have S2:=S1.same uda
        have T2:=T1.same uda
        have htn2:=uda _ _ htn1
        have htl2:=uda _ _ htl1
        have hU2:=uda _ _ hU
        have hO2:=uda _ _ hE
        have o2:=J5 (pw:=t.p_machine_telling) (sg.trans uda)
        generalize upd HE da (.dK [])=H2 at *
        obtain ⟨pz2,hz2⟩:=T2.ex
        refine ⟨_,rfl,_,rfl,tu,tn,_,nm,10,_,rfl,hU2,PU.ln,htn2,hnd,hn3,PU.wc,fU.2.1,fU.2.2,PU.iz,rfl,PU.big,T2,fun m l H4 B M T4 o4=>⟨_,rfl,m,tl,nm,_,_,ls,rfl,M,PU.runs B _ _,o4.lst hz2 htl2,by lia,hlt,fun p H5 hp0 hp s5=>?_⟩⟩
        have R0:=PU.row B hlt (.bl false) (.bl true)
        have h5d:=s5 _ _ (o4.dk hz2 hda2)
        refine ⟨h5d,[(.inr "a",.ref p)],rfl,by show 1<=15;decide,Zk ?_⟩
        have T5:=T4.same s5
        have o5:=(o2.trans o4).same s5
        have hq6:upd H5 da (.dK (Y8 [] [(.inr "a",.ref p)])) da=some (.dK [(.inr "a",.ref p)]):=Za
        have kp6:∀{b:Addr} {u:HO},H5 b=some u->(∀z,u≠.dK z)->upd H5 da (.dK (Y8 [] [(.inr "a",.ref p)])) b=some u:=fun e hne=>by
          rw [Zj (YC e h5d (hne _))]
          exact e
        have T6:=YN.put (o':=.dK (Y8 [] [(.inr "a",.ref p)])) T5 h5d
        have o6:JH t.p_machine_telling H0 (upd H5 da (.dK (Y8 [] [(.inr "a",.ref p)]))):=o5.put (sg.free hda)
        have h6p:=kp6 hp (fun _ z=>nomatch z)
        have htn6:=kp6 (s5 _ _ (o4.tup hz2 htn2)) (fun _ z=>nomatch z)
        have htl6:=kp6 (s5 _ _ (o4.lst hz2 htl2)) (fun _ z=>nomatch z)
        have hU6:=kp6 (s5 _ _ (o4.tup hz2 hU2)) (fun _ z=>nomatch z)
        have hO6:=kp6 (s5 _ _ (o4.tup hz2 hO2)) (fun _ z=>nomatch z)
        generalize upd H5 da (.dK (Y8 [] [(.inr "a",.ref p)]))=H6 at *
        refine ⟨_,rfl,by show 1<=sizeLine;decide,fun q1 hq1=>?_⟩
        have v1:=Zc (o:=.tup [V.str y]) hq1
        refine ⟨_,rfl,q1,tu,_,_,rfl,rfl,Za,v1 _ _ hU6,Qau (Zm (by show 1 + (V.str "under" :: (r 0++r 1)).length<=1000;lia)),fun tw H7 h7 s7=>Zk ?_⟩
        have v7:=v1.trans s7
        have T7:=T6.same v7
        have o7:=o6.same v7
        have h7:H7 tw=some (.tup (.str y::(.str "under" :: (r 0++r 1)))):=h7
        refine ⟨_,rfl,rfl,_,rfl,?_⟩
        show if (!decide (V.str y=V.str "never"))=true then _ else _
        rcases g5 with ⟨rfl,g6⟩ | ⟨g5,g6⟩
        · rw [Qad rfl]
          refine Yj (hN _ _ ⟨da,tw,1,true,fun _=>_,fun _=>p,fun _=>_,_,_,rfl,⟨v7 _ _ hq6,?_,ub ⟨v7 _ _ h6p,R0,sgU,lU,mU⟩,by decide,by decide,.inr ⟨rfl,g3,g6⟩,Qad g4⟩,T7,o7⟩)
          rw [h7]
          show some (HO.tup _)=some (.tup (.str "never" :: ((.str "under" :: (r 0++r 1))++[])))
          rw [Qa3]
        · rw [Qab fun z=>g5 (by injection z)]
          obtain ⟨pz7,hz7⟩:=T7.ex
          have htl7:=v7 _ _ htl6
          have hO7:=v7 _ _ hO6
          refine YD ⟨_,rfl,_,rfl,to,tn,_,nm,10,_,rfl,hO7,PN.ln,v7 _ _ htn6,hnd,hn3,PN.wc,fN.2.1,fN.2.2,PN.iz,rfl,PN.big,T7,fun m' l' H8 B' M' T8 o8=>⟨_,rfl,m',tl,nm,_,_,ls,rfl,M',PN.runs B' _ _,o8.lst hz7 htl7,by lia,hlt,fun p' H9 hp0' hp' s9=>?_⟩⟩
          have R1:=PN.row B' hlt (.bl false) (.bl true)
          have h9d:=s9 _ _ (o8.dk hz7 (v7 _ _ hq6))
          have T9:=T8.same s9
          have o9:=(o7.trans o8).same s9
          have h9p:=s9 _ _ (o8.lst hz7 (v7 _ _ h6p))
          have h9w:=s9 _ _ (o8.tup hz7 h7)
          have h9o:=s9 _ _ (o8.tup hz7 hO7)
          refine ⟨_,rfl,da,_,rfl,wo.k (k:=.inr "b") h9d (Zm (by show 1<=1000;decide)),?_⟩
          have hqA:upd H9 da (.dK (putK [(.inr "a",.ref p)] (.inr "b") (.ref p'))) da=some (.dK [(.inr "a",.ref p),(.inr "b",.ref p')]):=Za
          have kpA:∀{b:Addr} {u:HO},H9 b=some u->(∀z,u≠.dK z)->upd H9 da (.dK (putK [(.inr "a",.ref p)] (.inr "b") (.ref p'))) b=some u:=fun e hne=>by
            rw [Zj (YC e h9d (hne _))]
            exact e
          have TA:=YN.put (o':=.dK (putK [(.inr "a",.ref p)] (.inr "b") (.ref p'))) T9 h9d
          have oA:JH t.p_machine_telling H0 (upd H9 da (.dK (putK [(.inr "a",.ref p)] (.inr "b") (.ref p')))):=o9.put (sg.free hda)
          have hAp:=kpA h9p (fun _ z=>nomatch z)
          have hAp':=kpA hp' (fun _ z=>nomatch z)
          have hAw:=kpA h9w (fun _ z=>nomatch z)
          have hAo:=kpA h9o (fun _ z=>nomatch z)
          generalize upd H9 da (.dK (putK [(.inr "a",.ref p)] (.inr "b") (.ref p')))=HA at *
          refine ⟨_,rfl,_,rfl,tw,to,_,_,rfl,rfl,hAw,hAo,Qau (Zm ?_),fun tw' HF hF sF=>Zk (hN _ _ ?_)⟩
          · rw [Qa2]
            lia
          refine ⟨da,tw',2,true,Ze0 (.str "under" :: (r 0++r 1)) (.str "nought" :: r 0),Ze0 p p',Ze0 _ _,_,_,rfl,⟨sF _ _ hqA,?_,ua ⟨sF _ _ hAp,R0,sgU,lU,mU⟩ ⟨sF _ _ hAp',R1,sgN,lN,mN⟩,by decide,by decide,.inr ⟨rfl,g3,g6⟩,Qad g4⟩,TA.same sF,oA.same sF⟩
          rw [hF]
          show some (HO.tup (V.str y::((V.str "under" :: (r 0++r 1))++(.str "nought" :: r 0))))=some (.tup (.str y::((.str "under" :: (r 0++r 1))++((.str "nought" :: r 0)++[]))))
          rw [Qa3]
    rintro σ H1 hz_
    refine ZJ fun Gz hGz=>?_
    (refine Oe9a3 hz_ fun da tw n b q p row u6 u7 zo44 R T1 o1=>?_;obtain rfl:=zo44;clear hz_)
    refine hGz ?_
    clear hGz Gz
    refine ZJ fun Gz hGz=>?_
    obtain ⟨Rd_,Rw,RP,n1,n2,Rk,Rt⟩:=R
    refine hGz ?_
    clear hGz Gz
    have Rk':(b=false/\WC (.str y)=n/\Jo (.str y)=0)\/(b=true/\WC (.str y)=0/\Jo (.str y)=n):=Rk.imp (fun h=>⟨h.1,h.2.1,h.2.2.1⟩) id
    have fl:=GO (r:=q) (c:=20) (d:=4) (js:=List.range n) fun j hj=>⟨(RP j (Qby.mp hj)).l,(RP j (Qby.mp hj)).m⟩
    rw [Qao] at fl
    have PW:POk nm true (.str y::(List.range n).flatMap q):=⟨hn3,hnd,hnk,by rw [Qa2];lia,Zay hnk hyc Rk' fun j hj=>(RP j hj).g,by have:=zg (.str y) ((List.range n).flatMap q);lia⟩
    have fW:=PW.sg.ty.facts
    obtain ⟨pz0,hz0⟩:=T0.ex
    have htn1:=o1.tup hz0 htn0
    have htl1:=o1.lst hz0 htl0
    refine ⟨_,rfl,by show 1<=sizeLine;decide,fun q1 hq1=>⟨by show 2<=sizeLine;decide,fun q2 hq2=>?_⟩⟩
    have v1:=Zc (o:=.tup [V.str y]) hq1
    have v2:=Zc (o:=.tup [V.str "a",.str "b"]) hq2
    refine ⟨_,rfl,da,_,rfl,.inl ((v1.trans v2) _ _ Rd_),_,rfl,zG Za fun q3 H6 h6 s6=>?_⟩
    rw [J2,Qaa,Qao] at h6
    have ec:([V.str "a",.str "b"]:List V).take n=(List.range n).map fun j=>.str (abc j):=by
      match n,n2 with
      | 0,_=>rfl
      | 1,_=>rfl
      | 2,_=>rfl
    rw [ec] at h6
    refine ⟨q1,q3,_,_,rfl,rfl,s6 _ _ (v2 _ _ Za),h6,Qau (Zm (by rw [Qaa,Qao];show 1 + n<=1000;lia)),fun ts H7 h7 s7=>Zk ?_⟩
    have v:=v1.trans (v2.trans (s6.trans s7))
    have h7:H7 ts=some (.tup (.str y::(List.range n).map fun j=>.str (abc j))):=h7
    refine ⟨_,rfl,by show 4<=sizeLine;decide,fun g hg=>⟨g,_,rfl,.inr (SqT.of Za),rfl,rfl,?_⟩⟩
    have vg:=Zc (o:=.tup [V.str "both",.str "either",.str "so",.str "never"]) hg
    have et:inV (.str y) [V.str "both",.str "either",.str "so",.str "never"]=b:=by
      rw [<-Rt]
      exact Z1 y ["both","either","so","never"]
    rw [et,Qal Qam]
    refine Zk ?_
    have v8:=v.trans vg
    have h8s:=vg _ _ h7
    have T8:=T1.same v8
    have h8w:=v8 _ _ Rw
    have h8d:=v8 _ _ Rd_
    have RP8:∀j,j < n->Part _ nm ls b (q j) (p j) (row j):=fun j hj=>(RP j hj).same v8
    have htn8:=v8 _ _ htn1
    have htl8:=v8 _ _ htl1
    show U4 _ _ (upd H7 g (.tup [V.str "both",.str "either",.str "so",.str "never"]))
    generalize upd H7 g (.tup [V.str "both",.str "either",.str "so",.str "never"])=H8 at *
    obtain ⟨pz8,hz8⟩:=T8.ex
    refine ⟨_,rfl,_,rfl,tw,tn,_,nm,10,_,rfl,h8w,PW.ln,htn8,hnd,hn3,PW.wc,fW.2.1,fW.2.2,PW.iz,rfl,PW.big,T8,fun m l H9 B M T9 o9=>⟨_,rfl,m,tl,nm,_,_,ls,rfl,M,PW.runs B _ _,o9.lst hz8 htl8,by lia,hlt,fun pt HA hp0 hp sA=>Zk ?_⟩⟩
    have RW:=PW.row B hlt (.bl false) (.bl true)
    generalize rnO _ _ 0 ls=rowT at *
    have C:KC HA ls tl pt ts da rowT (.str y::(List.range n).map fun j=>.str (abc j)) n p row:=⟨sA _ _ (o9.lst hz8 htl8),hp,sA _ _ (o9.tup hz8 h8s),.inl (sA _ _ (o9.dk hz8 h8d)),fun j hj=>sA _ _ (o9.lst hz8 (RP8 j hj).h)⟩
    have eL:((ls.map Wu).length:Int)=(ls.length:Int):=by rw [Qaa]
    refine ⟨_,rfl,tl,_,rfl,.inl (SqL.of C.l),_,_,rfl,rfl,1,_,rfl,⟨by decide,by decide,by rw [eL];lia,by rw [eL];lia⟩,vm (fun i σ H5=>∃u11 u12 u13,σ=[some (.str y),some (.ref ps),some (.ref tn),some (.ref tl),some (.ref da),some (.ref tw),u6,u7,some (.ref ts),some (.bl b),some (.ref pt),u11,u12,u13]/\KC H5 ls tl pt ts da rowT (.str y::(List.range n).map fun j=>.str (abc j)) n p row) ⟨none,none,none,rfl,C⟩ ?_ ?_⟩
    · rintro i σ H5 hi hz_ N bk r' hN
      refine ZJ fun Gz hGz=>?_
      (refine Oe3a1 hz_ fun u11 u12 u13 zo45 C5=>?_;obtain rfl:=zo45;clear hz_)
      refine hGz ?_
      clear hGz Gz
      rw [eL] at hi
      have hi:i < ls.length:=by lia
      have ew:(1:Int) + (i:Int)=((i + 1:Nat):Int):=by lia
      rw [ew]
      refine Zk ?_
      have skip:N [some (.str y),some (.ref ps),some (.ref tn),some (.ref tl),some (.ref da),some (.ref tw),u6,u7,some (.ref ts),some (.bl b),some (.ref pt),some (.int ((i + 1:Nat):Int)),u12,u13] H5:=hN _ _ ⟨_,_,_,rfl,C5⟩
      have W2:i + 1<=ls.length:=by lia
      let val:Nat->V:=fun j=>vlR (i + 1) b ((YY (i + 1) (Jk (ls.take (i + 1)) nm) (q j)).getD 0 0)
      have e1:(((i + 1:Nat):Int) - 1)=(i:Int):=by lia
      have chk:(Yi (Zfz wz (GQ 12))
          (Yi (tFor (Zfj (JI 4)) (GQ 13) (Zct (tB (JI 9)) (uH (JI 12) (JI 13) (tOp (Zc8 K) (uG (JI 4) (JI 13)) (tOp (rI0 fun i j=>V.int (i - j)) (JI 11) (tC (V.int 1))))) (uH (JI 12) (JI 13) (yY (Xt K) [] E0 (qG (tSl (rSlL K) (uG (JI 4) (JI 13)) jm (Zc4 (JI 11))) Zev)))))
           (Zct (Zcz (tOp rNe (tOp (Zc8 K) (JI 10) (tOp (rI0 fun i j=>V.int (i - j)) (JI 11) (tC (V.int 1)))) (yY (XE K) [] E0 (qG (JI 8) (qG (JI 11) (qG (JI 12) Zev)))))) (tRet (tC (V.bl false))) Zco))) { nx:=N,rt:=r',bk:=bk,ct:=N } [some (.str y),some (.ref ps),some (.ref tn),some (.ref tl),some (.ref da),some (.ref tw),u6,u7,some (.ref ts),some (.bl b),some (.ref pt),some (.int ((i + 1:Nat):Int)),u12,u13] H5:=by
        intro vd hvd
        have w1:=Zc (o:=.dK []) hvd
        have C6:=C5.same w1
        have hne:da≠vd:=fun z=>by
          rcases C5.d with e | ⟨o,e⟩ <;> rw [z,hvd] at e <;> cases e
        refine ⟨_,rfl,da,ji n p,rfl,C6.d,fun o=>?_⟩
        refine uN (a:=da) (o:=o) (kvs:=ji n p) (fun j σ H2=>∃u13 kv,σ=[some (.str y),some (.ref ps),some (.ref tn),some (.ref tl),some (.ref da),some (.ref tw),u6,u7,some (.ref ts),some (.bl b),some (.ref pt),some (.int ((i + 1:Nat):Int)),some (.ref vd),u13]/\H2 vd=some (.dK kv)/\VOk kv j val/\kv.length<=j/\KC H2 ls tl pt ts da rowT (.str y::(List.range n).map fun j=>.str (abc j)) n p row/\H2 da=some (.frz o (.dK (ji n p)))) ⟨u13,[],rfl,?_,VOk.nil,Qah _,C6.frz o,Za⟩ (by (intro j σ H2 _ zq8;(refine Oe2a5 zq8 fun _ _ _ _ _ _ _ e=>?_;clear zq8));exact e) ?_ ?_
        · rw [Zj hne.symm]
          exact Za
        · rintro j pr σ H2 hpr hz_
          refine ZJ fun Gz hGz=>?_
          (refine Oe2a5 hz_ fun u13 kv zo46 h2v hV hkl C2 h2d=>?_;obtain rfl:=zo46;clear hz_)
          refine hGz ?_
          clear hGz Gz
          have hjn:j < n:=by
            have:=(Qae.mp hpr).1
            unfold ji at this
            rw [Qaa,Qao] at this
            exact this
          obtain ⟨ka,kb⟩:=Zer (p:=p) n2 j hjn
          rw [kb] at hpr
          cases hpr
          refine Zk ?_
          have len:(putK kv (.inr (abc j)) (val j)).length<=j + 1:=by
            have:=Xa kv (.inr (abc j)) (val j)
            lia
          have get:Zdh H2 da (.str (abc j)) (some (.ref (p j))):=.inl ⟨ji n p,.inr (abc j),.inr ⟨o,h2d⟩,rfl,ka.symm⟩
          refine ⟨_,rfl,_,rfl,?_⟩
          have Pj:=RP j hjn
          cases b with
          | true =>
            refine Oe1a1 (Pj.r.bit (i + 1) (by lia) W2) fun ov ho hb=>?_
            have hbi:=hb i (by lia)
            have ev:val j=if bt ov i=1 then o1B true else o0B true:=by
              show vlR (i + 1) true ((YY (i + 1) (Jk (ls.take (i + 1)) nm) (q j)).getD 0 0)=_
              rw [ho]
              show V.bl (decide (bt ov i=1))=_
              rcases YG ov i with e | e <;> rw [e] <;> rfl
            rw [<-ev] at hbi
            refine YD ⟨_,rfl,_,rfl,da,_,rfl,get,_,rfl,_,_,rfl,rfl,p j,_,_,_,rfl,rfl,SqL.of (C2.p j hjn),by rw [e1];exact Xj hbi,_,rfl,_,rfl,vd,_,rfl,wo.k (k:=.inr (abc j)) h2v (Zm (by lia)),_,_,rfl,Za,hV.put (by lia),len,C2.put h2v hne _,by rw [Zj hne];exact h2d⟩
          | false =>
            refine ZJ fun Gz hGz=>?_
            refine Oe2a6 (zh.num (show zh nm (q j) ls (.int 0) (.int 1) (row j) from Pj.r) (W:=i + 1) (by lia) W2) fun ov is ho o1' o2' ht hl' h01 hsm=>?_
            refine hGz ?_
            clear hGz Gz
            have ev:val j=.int ov:=by
              show vlR (i + 1) false ((YY (i + 1) (Jk (ls.take (i + 1)) nm) (q j)).getD 0 0)=_
              rw [ho]
              rfl
            refine Yj ⟨_,rfl,_,rfl,da,_,rfl,get,_,rfl,_,rfl,p j,_,rfl,SqL.of (C2.p j hjn),fun l1 hl1=>?_⟩
            rw [J2,ht]
            have w2:=Zc (o:=.lst (is.map V.int)) hl1
            have C3:=C2.same w2
            refine ⟨l1,is,rfl,Za,by lia,h01,?_⟩
            rw [hsm,<-ev]
            exact ⟨_,rfl,_,rfl,vd,_,rfl,wo.k (k:=.inr (abc j)) (w2 _ _ h2v) (Zm (by lia)),_,_,rfl,Za,hV.put (by lia),len,C3.put (w2 _ _ h2v) hne _,by rw [Zj hne];exact w2 _ _ h2d⟩
        · rintro σ H2 hz_
          refine ZJ fun Gz hGz=>?_
          (refine Oe2a5 hz_ fun u13 kv zo47 h2v hV hkl C2 h2d=>?_;obtain rfl:=zo47;clear hz_)
          refine hGz ?_
          clear hGz Gz
          have en:(ji n p).length=n:=by
            unfold ji
            rw [Qaa,Qao]
          rw [en] at hV
          refine Oe1a1 (Za0 (W:=i + 1) (by lia) W2 hyc Rk (fun j hj=>(RP j hj).g) RW (hV.word (.inr hyc))) fun tt hrow hstep=>?_
          have hto:=jb hV (by lia) hstep
          refine ⟨_,rfl,_,rfl,_,_,rfl,rfl,pt,_,_,_,rfl,rfl,SqL.of C2.t,by rw [e1];exact Xj hrow,_,rfl,_,rfl,_,rfl,ts,vd,i + 1,_,kv,_,rfl,by lia,by lia,C2.s,by rw [Qa2,Qaa,Qao];lia,.inl h2v,hto,fun H8 s8=>⟨rfl,_,rfl,?_⟩⟩
          show if (!decide (V.bl tt=V.bl tt))=true then _ else _
          rw [Qad rfl]
          exact Yj (hN _ _ ⟨_,_,_,rfl,C2.same s8⟩)
      refine ⟨_,rfl,_,_,rfl,rfl,_,rfl,vR (fun _=>?_) (fun _=>?_)⟩
      · exact chk
      · exact ⟨_,rfl,_,rfl,tl,_,rfl,.inl (SqL.of C5.l),rfl,_,rfl,vR (fun _=>chk) (fun _=>skip)⟩
    · rintro σ H5 hz_
      refine ZJ fun Gz hGz=>?_
      (refine Oe3a1 hz_ fun u11 u12 u13 zo48 _=>?_;obtain rfl:=zo48;clear hz_)
      refine hGz ?_
      clear hGz Gz
      exact k H5
inductive yQ(K:PySem.W.Frag)(pw:Addr)(vs:List V)(H:Hp)(Q:VK):Prop
 | mk (a:Addr) (ns:List Int):(vs=[.ref a])->(SqL K H a (ns.map V.int))->(ns.length<=63)->(YN H pw Zw Zu)->(∀H',Q (.bl true) H')->yQ K pw vs H Q
noncomputable def jg(K:PySem.W.Frag)(pw:Addr):Sp:=fun vs H Q _=>yQ K pw vs H Q
theorem ok_law (T:Txt K w mg t) (TB:Tbs mg base t):ZO P w K mg base CX0 17 t.a_law t.f_law ["script"] (jg K t.p_machine_telling):=by
 have G_law_claims_tied:ZO P w K mg base CX0 16 t.a_law_claims_tied t.f_law_claims_tied ["word","some","names","letters"] (XJ K t.p_machine_telling):=JF T TB
 have G_law_sums_tied:ZO P w K mg base CX0 16 t.a_law_sums_tied t.f_law_sums_tied ["word","some","names","letters"] (W8 K t.p_machine_telling):=GA T TB
 have G_law_sum:ZO P w K mg base CX0 2 t.a_law_sum t.f_law_sum ["numbers","names","most"] (xC K):=vP T TB
 have G_law_numbers:ZO P w K mg base CX0 1 t.a_law_numbers t.f_law_numbers ["cell","many","most"] (XQ K):=WX T TB
 have G_law_cell_at:ZO P w K mg base CX0 1 t.a_law_cell_at t.f_law_cell_at ["script","k"] (WW K):=qW T TB
 have G_law_names:ZO P w K mg base CX0 2 t.a_law_names t.f_law_names ["cell","many"] (Gs K):=jf T TB
 refine T.d_law.F.ok J6 (fun vs H Q E h=>?_) (fun cdv A outer s H vs Q E hr h=>?_)
 ·obtain ⟨a,ns,rfl,hS,h63,hT,k⟩:=h
  rfl
 ·obtain ⟨a,ns,rfl,hS,h63,hT,k⟩:=h
  have hu:=Yr hr
  refine ⟨_,@QSs.out _ _ _ (Zb (Zp (i:=1) J6.nd rfl (Or.inl rfl) (Zl G_law_cell_at (hr.mono (by decide)) rfl T.d_law_cell_at.m T.d_law_cell_at.F.kp T.d_law_cell_at.b .nil ZE (Zi (qv 0) (Zi Ze Zd))))
    (Zb (Zp (i:=2) J6.nd rfl (Or.inr rfl) (Zl G_law_names (hr.mono (by decide)) rfl T.d_law_names.m T.d_law_names.F.kp T.d_law_names.b .nil ZE (Zi (Zl G_law_cell_at (hr.mono (by decide)) rfl T.d_law_cell_at.m T.d_law_cell_at.F.kp T.d_law_cell_at.b .nil ZE (Zi (qv 0) (Zi Ze Zd))) (Zi (Zn ZV (qv 1) Ze) Zd))))
    (Zb (Zp (i:=3) J6.nd rfl (Or.inl rfl) (Zl G_law_numbers (hr.mono (by decide)) rfl T.d_law_numbers.m T.d_law_numbers.F.kp T.d_law_numbers.b .nil ZE (Zi (Zl G_law_cell_at (hr.mono (by decide)) rfl T.d_law_cell_at.m T.d_law_cell_at.F.kp T.d_law_cell_at.b .nil ZE (Zi (qv 0) (Zi Ze Zd))) (Zi Ze (Zi Ze Zd)))))
    (Zb (Zp (i:=4) J6.nd rfl (Or.inl rfl) (Y7 (Zi (Zl G_law_sum (hr.mono (by decide)) rfl T.d_law_sum.m T.d_law_sum.F.kp T.d_law_sum.b .nil ZE (Zi (Yn X1 (qv 3) (Ym Ze) (Ym Ze)) (Zi (qv 2) (Zi Ze Zd)))) (Zi (Zl G_law_sum (hr.mono (by decide)) rfl T.d_law_sum.m T.d_law_sum.F.kp T.d_law_sum.b .nil ZE (Zi (Yn X1 (qv 3) (Ym Ze) (Ym Ze)) (Zi (qv 2) (Zi Ze Zd)))) (Zi (Zl G_law_sum (hr.mono (by decide)) rfl T.d_law_sum.m T.d_law_sum.F.kp T.d_law_sum.b .nil ZE (Zi (Yn X1 (qv 3) (Ym Ze) (Ym Ze)) (Zi (qv 2) (Zi Ze Zd)))) Zd)))))
    (Zb (ju (i:=5) J6.nd rfl rfl (⟨by rfl,by decide +kernel,by decide +kernel,by rfl,by decide +kernel,by decide +kernel,by rfl,by decide +kernel⟩:YF (Zg qI) _ ["script","shape","names","xs","some","letters","sums","claims","word"] "cell" ["names"] [2]) (XN (Yn X1 (qv 0) (Ym Ze) (Ym Ze))) (fun _ _ _ _=>Js) (fun _ _ _ _=>(Zn ZV (qv 0) (Zn zm Ze (Zx (show XM _ (.builtin "len") (Zfg K) from wk) (by rfl) T.z_len Yk (Zi (qv 1) Zd))))))
    (Zb (Zp (i:=6) J6.nd rfl (Or.inl rfl) (Y7 (Zi Zh (Zi Zh (Zi Zh (Zi Zh (Zi Zh (Zi Zh (Zi Zh (Zi Zh (Zi Zh (Zi Zh Zd))))))))))))
    (Zb (Zp (i:=7) J6.nd rfl (Or.inl rfl) (Y7 (Zi Zh (Zi Zh (Zi Zh (Zi Zh (Zi Zh (Zi Zh (Zi Zh (Zi Zh (Zi Zh Zd)))))))))))
    (Zb (Zp (i:=8) J6.nd rfl (Or.inl rfl) (Z5 Zs (Zn xc (qv 6) (qv 7)) (Zn ZV (Zn X7 (qv 1) Ze) Ze) (fun _ _=>rfl)))
    (Zb (ZD (Zr ZH (qv 8) (qv 6) (by with_unfolding_all rfl))
    (Zf (Zt (Zl G_law_sums_tied (hr.mono (by decide)) rfl T.d_law_sums_tied.m T.d_law_sums_tied.F.kp T.d_law_sums_tied.b .nil ZE (Zi (qv 8) (Zi (qv 4) (Zi (qv 2) (Zi (qv 5) Zd))))))) Z0)
    (Zf (Zt (Zl G_law_claims_tied (hr.mono (by decide)) rfl T.d_law_claims_tied.m T.d_law_claims_tied.F.kp T.d_law_claims_tied.b .nil ZE (Zi (qv 8) (Zi (qv 4) (Zi (qv 2) (Zi (qv 5) Zd)))))))))))))))),?_⟩
  clear hu hr
  try dsimp only [L2.cxK,L2.cxK2]
  refine L2.let10 ?_
  intro U9 U8 U7 U6 U5 U4 U3 U2 U1
  refine ⟨_,rfl,a,ns,0,rfl,hS,fun shape=>Zk ?_⟩
  refine ⟨_,rfl,a,ns,1,rfl,hS,fun c1=>?_⟩
  have m4:0<=shape % 4/\shape % 4 < 4:=⟨Qa6 _ (by decide),Qaw _ (by decide)⟩
  refine ⟨_,rfl,_,_,rfl,rfl,(by show (0:Int) < 4;decide),c1,(shape % 4).toNat,by rw [Qd9 m4.1];rfl,by lia,fun tn nm H1 htn0 htn hn3 hnd hnk s1=>Zk ?_⟩
  have hS1:=yK hS s1
  refine ⟨_,rfl,a,ns,2,rfl,hS1,fun c2=>?_⟩
  refine ⟨c2,11,20000,rfl,by lia,by decide,by decide,fun pl ks H2 hpl0 hpl hkl hkb s2=>Zk ?_⟩
  have hpos:∀(j k:Nat) (x:Int),x∈(ks.drop j).take k->0<=x:=fun j k x hx=>(hkb x (Qcp (Qcz hx))).1
  refine ⟨_,rfl,0,rfl,4,rfl,pl,_,rfl,SqL.of hpl,fun x1 hx1=>?_⟩
  rw [Wo,show yy ks (some 0) (some 4)=(ks.drop 0).take (4 - 0) from qc ks 0 4 (by lia)]
  have n1:((ks.drop 0).take (4 - 0)).length=4:=by rw [Qav,Qbc];lia
  have w1:=Zc (o:=.lst (((ks.drop 0).take (4 - 0)).map V.int)) hx1
  refine ⟨_,rfl,x1,tn,_,nm,1,rfl,Za,by lia,by lia,hpos 0 _,w1 _ _ (s2 _ _ htn),hn3,hnk,fun a0 r0 H3 h3 l3 wd3 en3 st3 rm3 s3=>?_⟩
  have v3:=w1.trans s3
  refine ⟨_,rfl,4,rfl,8,rfl,pl,_,rfl,SqL.of (v3 _ _ hpl),fun x2 hx2=>?_⟩
  rw [Wo,show yy ks (some 4) (some 8)=(ks.drop 4).take (8 - 4) from qc ks 4 8 (by lia)]
  have n2:((ks.drop 4).take (8 - 4)).length=4:=by rw [Qav,Qbc];lia
  have w2:=Zc (o:=.lst (((ks.drop 4).take (8 - 4)).map V.int)) hx2
  refine ⟨_,rfl,x2,tn,_,nm,1,rfl,Za,by lia,by lia,hpos 4 _,(v3.trans w2) _ _ (s2 _ _ htn),hn3,hnk,fun a1 r1 H4 h4 l4 wd4 en4 st4 rm4 s4=>?_⟩
  have v4:=v3.trans (w2.trans s4)
  refine ⟨_,rfl,8,rfl,11,rfl,pl,_,rfl,SqL.of (v4 _ _ hpl),fun x3 hx3=>?_⟩
  rw [Wo,show yy ks (some 8) (some 11)=(ks.drop 8).take (11 - 8) from qc ks 8 11 (by lia)]
  have n3:((ks.drop 8).take (11 - 8)).length=3:=by rw [Qav,Qbc];lia
  have w3:=Zc (o:=.lst (((ks.drop 8).take (11 - 8)).map V.int)) hx3
  refine ⟨_,rfl,x3,tn,_,nm,0,rfl,Za,by lia,by lia,hpos 8 _,(v4.trans w3) _ _ (s2 _ _ htn),hn3,hnk,fun a2 r2 H5 h5 l5 wd5 en5 st5 rm5 s5=>?_⟩
  have v5:=v4.trans (w3.trans s5)
  have h53:=((w2.trans s4).trans (w3.trans s5)) _ _ h3
  have h54:=(w3.trans s5) _ _ h4
  refine ⟨by show 3<=sizeLine;decide,fun ps hps=>Zk ?_⟩
  have wp:=Zc (o:=.lst [V.ref a0,.ref a1,.ref a2]) hps
  have g0:Seg nm false r0/\r0.length<=8/\Xk r0<=1:=⟨Seg.sum wd3 en3 st3,by lia,by lia⟩
  have g1:Seg nm false r1/\r1.length<=8/\Xk r1<=1:=⟨Seg.sum wd4 en4 st4,by lia,by lia⟩
  have g2:Seg nm false r2/\r2.length<=8/\Xk r2<=1:=⟨Seg.sum wd5 en5 st5,by lia,by lia⟩
  have S6:JX (upd H5 ps (.lst [V.ref a0,.ref a1,.ref a2])) ps (thr3 a0 a1 a2) (thr3 r0 r1 r2) nm:=⟨Za,Zch (wp _ _ h53) (wp _ _ h54) (wp _ _ h5),Zch g0 g1 g2⟩
  have v6:=v5.trans wp
  generalize upd H5 ps (.lst [V.ref a0,.ref a1,.ref a2])=H6 at *
  have hS6:=yK hS1 (s2.trans v6)
  have T6:=hT.same (s1.trans (s2.trans v6))
  have htn6:=(s2.trans v6) _ _ htn
  refine ⟨_,rfl,3,rfl,63,rfl,a,_,rfl,hS6,fun l1 hl1=>?_⟩
  rw [Wo]
  have lc:(yy ns (some 3) (some 63)).length<=60:=by
   unfold yy
   rw [Qav]
   have h1:HT.sIx ns.length 0 (some 3)=min 3 ns.length:=by
    simp only [HT.sIx,show ¬((3:Int) < 0) by decide,Qc2]
    lia
   have h2:HT.sIx ns.length ns.length (some 63)=min 63 ns.length:=by
    simp only [HT.sIx,show ¬((63:Int) < 0) by decide,Qc2]
    lia
   rw [h1,h2]
   lia
  generalize yy ns (some 3) (some 63)=cs at *
  have w7:=Zc (o:=.lst (cs.map V.int)) hl1
  have eL:(1:Int) * 2 ^ ((nm.map V.str).length:Int).toNat=((2 ^ nm.length:Nat):Int):=by
   rw [Qeq,Qaz,Qaa,Qek]
   rfl
  have hLp:0 < 2 ^ nm.length:=Nat.two_pow_pos _
  refine ⟨l1,rfl,⟨_,SqL.of Za⟩,comp_map (fI fun x=>V.int (x % ((2 ^ nm.length:Nat):Int))) (SqL.of Za) (by rw [Qaa];exact Qau (Zm (by lia))) (fun v hv R hR=>?_) (fun tl htl=>?_)⟩
  ·(refine Oe1a1 (Qbb.mp hv) fun x _ zo49=>?_;obtain rfl:=zo49)
   refine ⟨_,rfl,_,rfl,tn,_,rfl,.inr (SqT.of (w7 _ _ htn6)),_,_,rfl,rfl,⟨Qbk _,by rw [Qaa];lia,by decide⟩,_,_,rfl,rfl,?_,?_⟩
   ·try dsimp only
    rw [eL]
    lia
   ·try dsimp only
    rw [eL]
    exact hR
  rw [map_fI]
  refine Oe1a2 (Zej (cs:=cs) hLp) fun ls els hls lls=>?_
  rw [els]
  have w8:=w7.trans (Zc (o:=.lst (ls.map Wu)) htl)
  have h8:(upd (upd H6 l1 (.lst (cs.map V.int))) tl (.lst (ls.map Wu))) tl=some (.lst (ls.map Wu)):=Za
  generalize upd (upd H6 l1 (.lst (cs.map V.int))) tl (.lst (ls.map Wu))=H8 at *
  refine Zk ⟨by show 10<=sizeLine;decide,fun b1 hb1=>Zk ⟨by show 9<=sizeLine;decide,fun b2 hb2=>Zk ?_⟩⟩
  have x1':=Zc (o:=.lst (Wd.map V.str)) hb1
  have x2':=Zc (o:=.lst (Xg.map V.str)) hb2
  have hb1':(upd (upd H8 b1 (.lst (Wd.map V.str))) b2 (.lst (Xg.map V.str))) b1=some (.lst (Wd.map V.str)):=x2' _ _ Za
  have hb2':(upd (upd H8 b1 (.lst (Wd.map V.str))) b2 (.lst (Xg.map V.str))) b2=some (.lst (Xg.map V.str)):=Za
  have w9:ZT H6 (upd (upd H8 b1 (.lst (Wd.map V.str))) b2 (.lst (Xg.map V.str))):=w8.trans (x1'.trans x2')
  have h9l:(upd (upd H8 b1 (.lst (Wd.map V.str))) b2 (.lst (Xg.map V.str))) tl=some (.lst (ls.map Wu)):=(x1'.trans x2') _ _ h8
  show U7 _ _ (upd (upd H8 b1 (.lst (Wd.map V.str))) b2 (.lst (Xg.map V.str)))
  generalize upd (upd H8 b1 (.lst (Wd.map V.str))) b2 (.lst (Xg.map V.str))=H9 at *
  have b19:0<=shape / 4 % 19/\shape / 4 % 19 < 19:=⟨Qa6 _ (by decide),Qaw _ (by decide)⟩
  refine Oe1a1 (J0 (ys:=Wd++Xg) (i:=shape / 4 % 19) b19.1 b19.2) fun y hy ey=>?_
  rw [Qbj] at ey
  refine ⟨_,rfl,_,rfl,b1,b2,_,_,rfl,rfl,hb1',hb2',by show 19<=sizeLine;decide,fun b3 hb3=>⟨_,rfl,_,_,rfl,rfl,.of (by decide) (by decide),_,_,rfl,rfl,(by show (0:Int) < 19;decide),b3,_,_,_,rfl,rfl,SqL.of Za,ey,Zk ?_⟩⟩
  have x3':=Zc (o:=.lst (Wd.map V.str++Xg.map V.str)) hb3
  have wA:=w9.trans x3'
  refine ⟨_,rfl,_,rfl,b1,_,rfl,.inl (SqL.of (x3' _ _ hb1')),rfl,rfl,_,rfl,?_⟩
  show if inV (.str y) (Wd.map V.str)=true then _ else _
  rw [Z1]
  by_cases hys:y∈Wd
  ·rw [Qad hys]
   exact YD ⟨_,rfl,_,rfl,_,rfl,_,rfl,y,ps,tn,tl,_,_,nm,ls,rfl,Za1 y hys,S6.same wA,hn3,hnd,hnk,wA _ _ htn6,x3' _ _ h9l,by lia,hls,T6.same wA,fun H'=>k H'⟩
  ·rw [Qab hys]
   exact Yj ⟨_,rfl,_,rfl,_,rfl,_,rfl,y,ps,tn,tl,_,_,nm,ls,rfl,(Qbd.mp hy).resolve_left hys,S6.same wA,hn3,hnd,hnk,wA _ _ htn6,x3' _ _ h9l,by lia,hls,T6.same wA,fun H'=>k H'⟩
end
theorem all_mk {l:W.OpenLaw} {w:World} {K:W.Frag} {h:Heap} {mg:Str->Option Value} {fa:Addr} {f0 f1 f2 f3 f4 f5 f6 f7 f8 f9 f10 f11 f12 f13 f14 f15 f16 f17 f18 f19 f20 f21 f22 f23 f24 f25 f26 f27 f28 f29 f30 f31 f32 f33 f34 f35 f36 f37:Addr} (X:K.In h) (G:h.Ns mainGlobals mg) (hfa:mg "law" = some (.ref fa))
  {od0 an0 od1 an1 od2 an2 od3 an3 od4 an4 od5 an5 od6 an6 od7 an7 od8 an8 od9 an9 od10 an10 od11 an11 od12 an12 od13 an13 od14 an14 od15 an15 od16 an16 od17 an17 od18 an18 od19 an19 od20 an20 od21 an21 od22 an22 od23 an23 od24 an24 od25 an25 od26 an26 od27 an27 od28 an28 od29 an29 od30 an30 od31 an31 od32 an32 od33 an33 od34 an34 od35 an35 od36 an36 od37 an37:Option Addr} {sl0 sl1 sl2 sl3 sl4 sl5 sl6 sl7 sl8 sl9 sl10 sl11 sl12 sl13 sl14 sl15 sl16 sl17 sl18 sl19 sl20 sl21 sl22 sl23 sl24 sl25 sl26 sl27 sl28 sl29 sl30 sl31 sl32 sl33 sl34 sl35 sl36 sl37:Array (Option Value)} {oc0 kV0 dc0 pm0 cd0 ct0 oc1 kV1 dc1 pm1 cd1 ct1 oc2 kV2 dc2 pm2 cd2 ct2 oc3 kV3 dc3 pm3 cd3 ct3 oc4 kV4 dc4 pm4 cd4 ct4 oc5 kV5 dc5 pm5 cd5 ct5 oc6 kV6 dc6 pm6 cd6 ct6 oc7 kV7 dc7 pm7 cd7 ct7 oc8 kV8 dc8 pm8 cd8 ct8 oc9 kV9 dc9 pm9 cd9 ct9 oc10 kV10 dc10 pm10 cd10 ct10 oc11 kV11 dc11 pm11 cd11 ct11 oc12 kV12 dc12 pm12 cd12 ct12 oc13 kV13 dc13 pm13 cd13 ct13 oc14 kV14 dc14 pm14 cd14 ct14 oc15 kV15 dc15 pm15 cd15 ct15 oc16 kV16 dc16 pm16 cd16 ct16 oc17 kV17 dc17 pm17 cd17 ct17 oc18 kV18 dc18 pm18 cd18 ct18 oc19 kV19 dc19 pm19 cd19 ct19 oc20 kV20 dc20 pm20 cd20 ct20 oc21 kV21 dc21 pm21 cd21 ct21 oc22 kV22 dc22 pm22 cd22 ct22 oc23 kV23 dc23 pm23 cd23 ct23 oc24 kV24 dc24 pm24 cd24 ct24 oc25 kV25 dc25 pm25 cd25 ct25 oc26 kV26 dc26 pm26 cd26 ct26 oc27 kV27 dc27 pm27 cd27 ct27 oc28 kV28 dc28 pm28 cd28 ct28 oc29 kV29 dc29 pm29 cd29 ct29 oc30 kV30 dc30 pm30 cd30 ct30 oc31 kV31 dc31 pm31 cd31 ct31 oc32 kV32 dc32 pm32 cd32 ct32 oc33 kV33 dc33 pm33 cd33 ct33 oc34 kV34 dc34 pm34 cd34 ct34 oc35 kV35 dc35 pm35 cd35 ct35 oc36 kV36 dc36 pm36 cd36 ct36 oc37 kV37 dc37 pm37 cd37 ct37:Value}
  (a0:W.nsIn K mainGlobals "words_at" = some (some (.ref f0))) (l0:K.lookup f0=some ⟨oc0,od0,.func (W.fnOf "words_at" "words_at" (Z2 Xu) (Zz Xu) (Zg Xu) .none kV0 dc0 pm0 an0 cd0 ct0),sl0⟩) (c0:W.codeIn K cd0 "words_at" = true) (k0:W.keepIn K (.ref f0)=true)
  (a1:W.nsIn K mainGlobals "number_of" = some (some (.ref f1))) (l1:K.lookup f1=some ⟨oc1,od1,.func (W.fnOf "number_of" "number_of" (Z2 Xc) (Zz Xc) (Zg Xc) .none kV1 dc1 pm1 an1 cd1 ct1),sl1⟩) (c1:W.codeIn K cd1 "number_of" = true) (k1:W.keepIn K (.ref f1)=true)
  (a2:W.nsIn K mainGlobals "sums_behind" = some (some (.ref f2))) (l2:K.lookup f2=some ⟨oc2,od2,.func (W.fnOf "sums_behind" "sums_behind" (Z2 Y1) (Zz Y1) (Zg Y1) .none kV2 dc2 pm2 an2 cd2 ct2),sl2⟩) (c2:W.codeIn K cd2 "sums_behind" = true) (k2:W.keepIn K (.ref f2)=true)
  (a3:W.nsIn K mainGlobals "claims_behind" = some (some (.ref f3))) (l3:K.lookup f3=some ⟨oc3,od3,.func (W.fnOf "claims_behind" "claims_behind" (Z2 Ye) (Zz Ye) (Zg Ye) .none kV3 dc3 pm3 an3 cd3 ct3),sl3⟩) (c3:W.codeIn K cd3 "claims_behind" = true) (k3:W.keepIn K (.ref f3)=true)
  (a4:W.nsIn K mainGlobals "remembers" = some (some (.ref f4))) (l4:K.lookup f4=some ⟨oc4,od4,.func (W.fnOf "remembers" "remembers" (Z2 Xd) (Zz Xd) (Zg Xd) .none kV4 dc4 pm4 an4 cd4 ct4),sl4⟩) (c4:W.codeIn K cd4 "remembers" = true) (k4:W.keepIn K (.ref f4)=true)
  (a5:W.nsIn K mainGlobals "borrowed" = some (some (.ref f5))) (l5:K.lookup f5=some ⟨oc5,od5,.func (W.fnOf "borrowed" "borrowed" (Z2 Xv) (Zz Xv) (Zg Xv) .none kV5 dc5 pm5 an5 cd5 ct5),sl5⟩) (c5:W.codeIn K cd5 "borrowed" = true) (k5:W.keepIn K (.ref f5)=true)
  (a6:W.nsIn K mainGlobals "out_at_once" = some (some (.ref f6))) (l6:K.lookup f6=some ⟨oc6,od6,.func (W.fnOf "out_at_once" "out_at_once" (Z2 Y2) (Zz Y2) (Zg Y2) .none kV6 dc6 pm6 an6 cd6 ct6),sl6⟩) (c6:W.codeIn K cd6 "out_at_once" = true) (k6:W.keepIn K (.ref f6)=true)
  (a7:W.nsIn K mainGlobals "state_number" = some (some (.ref f7))) (l7:K.lookup f7=some ⟨oc7,od7,.func (W.fnOf "state_number" "state_number" (Z2 Yu) (Zz Yu) (Zg Yu) .none kV7 dc7 pm7 an7 cd7 ct7),sl7⟩) (c7:W.codeIn K cd7 "state_number" = true) (k7:W.keepIn K (.ref f7)=true)
  (a8:W.nsIn K mainGlobals "longest_number" = some (some (.ref f8))) (l8:K.lookup f8=some ⟨oc8,od8,.func (W.fnOf "longest_number" "longest_number" (Z2 ZN) (Zz ZN) (Zg ZN) .none kV8 dc8 pm8 an8 cd8 ct8),sl8⟩) (c8:W.codeIn K cd8 "longest_number" = true) (k8:W.keepIn K (.ref f8)=true)
  (a9:W.nsIn K mainGlobals "bits_at" = some (some (.ref f9))) (l9:K.lookup f9=some ⟨oc9,od9,.func (W.fnOf "bits_at" "bits_at" (Z2 X5) (Zz X5) (Zg X5) .none kV9 dc9 pm9 an9 cd9 ct9),sl9⟩) (c9:W.codeIn K cd9 "bits_at" = true) (k9:W.keepIn K (.ref f9)=true)
  (a10:W.nsIn K mainGlobals "_law_cell_at" = some (some (.ref f10))) (l10:K.lookup f10=some ⟨oc10,od10,.func (W.fnOf "_law_cell_at" "_law_cell_at" (Z2 Y3) (Zz Y3) (Zg Y3) .none kV10 dc10 pm10 an10 cd10 ct10),sl10⟩) (c10:W.codeIn K cd10 "_law_cell_at" = true) (k10:W.keepIn K (.ref f10)=true)
  (a11:W.nsIn K mainGlobals "_law_numbers" = some (some (.ref f11))) (l11:K.lookup f11=some ⟨oc11,od11,.func (W.fnOf "_law_numbers" "_law_numbers" (Z2 Y4) (Zz Y4) (Zg Y4) .none kV11 dc11 pm11 an11 cd11 ct11),sl11⟩) (c11:W.codeIn K cd11 "_law_numbers" = true) (k11:W.keepIn K (.ref f11)=true)
  (a12:W.nsIn K mainGlobals "_law_atom" = some (some (.ref f12))) (l12:K.lookup f12=some ⟨oc12,od12,.func (W.fnOf "_law_atom" "_law_atom" (Z2 Xw) (Zz Xw) (Zg Xw) .none kV12 dc12 pm12 an12 cd12 ct12),sl12⟩) (c12:W.codeIn K cd12 "_law_atom" = true) (k12:W.keepIn K (.ref f12)=true)
  (a13:W.nsIn K mainGlobals "_law_word" = some (some (.ref f13))) (l13:K.lookup f13=some ⟨oc13,od13,.func (W.fnOf "_law_word" "_law_word" (Z2 Xx) (Zz Xx) (Zg Xx) .none kV13 dc13 pm13 an13 cd13 ct13),sl13⟩) (c13:W.codeIn K cd13 "_law_word" = true) (k13:W.keepIn K (.ref f13)=true)
  (a14:W.nsIn K mainGlobals "_law_carries" = some (some (.ref f14))) (l14:K.lookup f14=some ⟨oc14,od14,.func (W.fnOf "_law_carries" "_law_carries" (Z2 Yo) (Zz Yo) (Zg Yo) .none kV14 dc14 pm14 an14 cd14 ct14),sl14⟩) (c14:W.codeIn K cd14 "_law_carries" = true) (k14:W.keepIn K (.ref f14)=true)
  (a15:W.nsIn K mainGlobals "_law_one" = some (some (.ref f15))) (l15:K.lookup f15=some ⟨oc15,od15,.func (W.fnOf "_law_one" "_law_one" (Z2 XX) (Zz XX) (Zg XX) .none kV15 dc15 pm15 an15 cd15 ct15),sl15⟩) (c15:W.codeIn K cd15 "_law_one" = true) (k15:W.keepIn K (.ref f15)=true)
  (a16:W.nsIn K mainGlobals "_law_two" = some (some (.ref f16))) (l16:K.lookup f16=some ⟨oc16,od16,.func (W.fnOf "_law_two" "_law_two" (Z2 XY) (Zz XY) (Zg XY) .none kV16 dc16 pm16 an16 cd16 ct16),sl16⟩) (c16:W.codeIn K cd16 "_law_two" = true) (k16:W.keepIn K (.ref f16)=true)
  (a17:W.nsIn K mainGlobals "_law_signed" = some (some (.ref f17))) (l17:K.lookup f17=some ⟨oc17,od17,.func (W.fnOf "_law_signed" "_law_signed" (Z2 YJ) (Zz YJ) (Zg YJ) .none kV17 dc17 pm17 an17 cd17 ct17),sl17⟩) (c17:W.codeIn K cd17 "_law_signed" = true) (k17:W.keepIn K (.ref f17)=true)
  (a18:W.nsIn K mainGlobals "_law_one_holds" = some (some (.ref f18))) (l18:K.lookup f18=some ⟨oc18,od18,.func (W.fnOf "_law_one_holds" "_law_one_holds" (Z2 Yf) (Zz Yf) (Zg Yf) .none kV18 dc18 pm18 an18 cd18 ct18),sl18⟩) (c18:W.codeIn K cd18 "_law_one_holds" = true) (k18:W.keepIn K (.ref f18)=true)
  (a19:W.nsIn K mainGlobals "_law_run" = some (some (.ref f19))) (l19:K.lookup f19=some ⟨oc19,od19,.func (W.fnOf "_law_run" "_law_run" (Z2 XZ) (Zz XZ) (Zg XZ) .none kV19 dc19 pm19 an19 cd19 ct19),sl19⟩) (c19:W.codeIn K cd19 "_law_run" = true) (k19:W.keepIn K (.ref f19)=true)
  (a20:W.nsIn K mainGlobals "_law_number" = some (some (.ref f20))) (l20:K.lookup f20=some ⟨oc20,od20,.func (W.fnOf "_law_number" "_law_number" (Z2 YK) (Zz YK) (Zg YK) .none kV20 dc20 pm20 an20 cd20 ct20),sl20⟩) (c20:W.codeIn K cd20 "_law_number" = true) (k20:W.keepIn K (.ref f20)=true)
  (a21:W.nsIn K mainGlobals "parts_of" = some (some (.ref f21))) (l21:K.lookup f21=some ⟨oc21,od21,.func (W.fnOf "parts_of" "parts_of" (Z2 Xy) (Zz Xy) (Zg Xy) .none kV21 dc21 pm21 an21 cd21 ct21),sl21⟩) (c21:W.codeIn K cd21 "parts_of" = true) (k21:W.keepIn K (.ref f21)=true)
  (a22:W.nsIn K mainGlobals "name_columns" = some (some (.ref f22))) (l22:K.lookup f22=some ⟨oc22,od22,.func (W.fnOf "name_columns" "name_columns" (Z2 Yb) (Zz Yb) (Zg Yb) .none kV22 dc22 pm22 an22 cd22 ct22),sl22⟩) (c22:W.codeIn K cd22 "name_columns" = true) (k22:W.keepIn K (.ref f22)=true)
  (a23:W.nsIn K mainGlobals "kept_then" = some (some (.ref f23))) (l23:K.lookup f23=some ⟨oc23,od23,.func (W.fnOf "kept_then" "kept_then" (Z2 Xe) (Zz Xe) (Zg Xe) .none kV23 dc23 pm23 an23 cd23 ct23),sl23⟩) (c23:W.codeIn K cd23 "kept_then" = true) (k23:W.keepIn K (.ref f23)=true)
  (a24:W.nsIn K mainGlobals "out_by_kept" = some (some (.ref f24))) (l24:K.lookup f24=some ⟨oc24,od24,.func (W.fnOf "out_by_kept" "out_by_kept" (Z2 Y5) (Zz Y5) (Zg Y5) .none kV24 dc24 pm24 an24 cd24 ct24),sl24⟩) (c24:W.codeIn K cd24 "out_by_kept" = true) (k24:W.keepIn K (.ref f24)=true)
  (a25:W.nsIn K mainGlobals "_law_names" = some (some (.ref f25))) (l25:K.lookup f25=some ⟨oc25,od25,.func (W.fnOf "_law_names" "_law_names" (Z2 Yz) (Zz Yz) (Zg Yz) .none kV25 dc25 pm25 an25 cd25 ct25),sl25⟩) (c25:W.codeIn K cd25 "_law_names" = true) (k25:W.keepIn K (.ref f25)=true)
  (a26:W.nsIn K mainGlobals "_law_sum" = some (some (.ref f26))) (l26:K.lookup f26=some ⟨oc26,od26,.func (W.fnOf "_law_sum" "_law_sum" (Z2 Wa) (Zz Wa) (Zg Wa) .none kV26 dc26 pm26 an26 cd26 ct26),sl26⟩) (c26:W.codeIn K cd26 "_law_sum" = true) (k26:W.keepIn K (.ref f26)=true)
  (a27:W.nsIn K mainGlobals "_law_two_hold" = some (some (.ref f27))) (l27:K.lookup f27=some ⟨oc27,od27,.func (W.fnOf "_law_two_hold" "_law_two_hold" (Z2 Yv) (Zz Yv) (Zg Yv) .none kV27 dc27 pm27 an27 cd27 ct27),sl27⟩) (c27:W.codeIn K cd27 "_law_two_hold" = true) (k27:W.keepIn K (.ref f27)=true)
  (a28:W.nsIn K mainGlobals "parts_taken" = some (some (.ref f28))) (l28:K.lookup f28=some ⟨oc28,od28,.func (W.fnOf "parts_taken" "parts_taken" (Z2 Yp) (Zz Yp) (Zg Yp) .none kV28 dc28 pm28 an28 cd28 ct28),sl28⟩) (c28:W.codeIn K cd28 "parts_taken" = true) (k28:W.keepIn K (.ref f28)=true)
  (a29:W.nsIn K mainGlobals "_law_holds" = some (some (.ref f29))) (l29:K.lookup f29=some ⟨oc29,od29,.func (W.fnOf "_law_holds" "_law_holds" (Z2 Xf) (Zz Xf) (Zg Xf) .none kV29 dc29 pm29 an29 cd29 ct29),sl29⟩) (c29:W.codeIn K cd29 "_law_holds" = true) (k29:W.keepIn K (.ref f29)=true)
  (a30:W.nsIn K mainGlobals "stepped" = some (some (.ref f30))) (l30:K.lookup f30=some ⟨oc30,od30,.func (W.fnOf "stepped" "stepped" (Z2 Wb) (Zz Wb) (Zg Wb) .none kV30 dc30 pm30 an30 cd30 ct30),sl30⟩) (c30:W.codeIn K cd30 "stepped" = true) (k30:W.keepIn K (.ref f30)=true)
  (a31:W.nsIn K mainGlobals "machine_found" = some (some (.ref f31))) (l31:K.lookup f31=some ⟨oc31,od31,.func (W.fnOf "machine_found" "machine_found" (Z2 ZU) (Zz ZU) (Zg ZU) .none kV31 dc31 pm31 an31 cd31 ct31),sl31⟩) (c31:W.codeIn K cd31 "machine_found" = true) (k31:W.keepIn K (.ref f31)=true)
  (a32:W.nsIn K mainGlobals "machine_telling" = some (some (.ref f32))) (l32:K.lookup f32=some ⟨oc32,od32,.func (W.fnOf "machine_telling" "machine_telling" (Z2 Z8) (Zz Z8) (Zg Z8) .none kV32 dc32 pm32 an32 cd32 ct32),sl32⟩) (c32:W.codeIn K cd32 "machine_telling" = true) (k32:W.keepIn K (.ref f32)=true)
  (a33:W.nsIn K mainGlobals "machine_of" = some (some (.ref f33))) (l33:K.lookup f33=some ⟨oc33,od33,.func (W.fnOf "machine_of" "machine_of" (Z2 YL) (Zz YL) (Zg YL) .none kV33 dc33 pm33 an33 cd33 ct33),sl33⟩) (c33:W.codeIn K cd33 "machine_of" = true) (k33:W.keepIn K (.ref f33)=true)
  (a34:W.nsIn K mainGlobals "claim_machine" = some (some (.ref f34))) (l34:K.lookup f34=some ⟨oc34,od34,.func (W.fnOf "claim_machine" "claim_machine" (Z2 Yg) (Zz Yg) (Zg Yg) .none kV34 dc34 pm34 an34 cd34 ct34),sl34⟩) (c34:W.codeIn K cd34 "claim_machine" = true) (k34:W.keepIn K (.ref f34)=true)
  (a35:W.nsIn K mainGlobals "_law_sums_tied" = some (some (.ref f35))) (l35:K.lookup f35=some ⟨oc35,od35,.func (W.fnOf "_law_sums_tied" "_law_sums_tied" (Z2 Yh) (Zz Yh) (Zg Yh) .none kV35 dc35 pm35 an35 cd35 ct35),sl35⟩) (c35:W.codeIn K cd35 "_law_sums_tied" = true) (k35:W.keepIn K (.ref f35)=true)
  (a36:W.nsIn K mainGlobals "_law_claims_tied" = some (some (.ref f36))) (l36:K.lookup f36=some ⟨oc36,od36,.func (W.fnOf "_law_claims_tied" "_law_claims_tied" (Z2 ZS) (Zz ZS) (Zg ZS) .none kV36 dc36 pm36 an36 cd36 ct36),sl36⟩) (c36:W.codeIn K cd36 "_law_claims_tied" = true) (k36:W.keepIn K (.ref f36)=true)
  (a37:W.nsIn K mainGlobals "law" = some (some (.ref f37))) (l37:K.lookup f37=some ⟨oc37,od37,.func (W.fnOf "law" "law" (Z2 qI) (Zz qI) (Zg qI) .none kV37 dc37 pm37 an37 cd37 ct37),sl37⟩) (c37:W.codeIn K cd37 "law" = true) (k37:W.keepIn K (.ref f37)=true)
  {GSUM_PARTS:Addr} {ESUM_PARTS:Array DictEntry} {PSUM_PARTS:Nat} (ga_SUM_PARTS:W.nsIn K mainGlobals "SUM_PARTS" = some (some (.ref GSUM_PARTS))) (gl_SUM_PARTS:K.lookup GSUM_PARTS=some { cls:=.type "dict",dict:=none,data:=.dict ESUM_PARTS PSUM_PARTS,slots:=#[] }) (ge_SUM_PARTS:KTab w.params ESUM_PARTS.toList [("not",1),("neg",1),("twice",1),("low",1),("and",2),("or",2),("odd",2),("add",2),("sub",2),("pick",3)]) (gn_SUM_PARTS:(GSUM_PARTS == sysModules)=false)
  {GSUMS_IN_CLAIM:Addr} {ESUMS_IN_CLAIM:Array DictEntry} {PSUMS_IN_CLAIM:Nat} (ga_SUMS_IN_CLAIM:W.nsIn K mainGlobals "SUMS_IN_CLAIM" = some (some (.ref GSUMS_IN_CLAIM))) (gl_SUMS_IN_CLAIM:K.lookup GSUMS_IN_CLAIM=some { cls:=.type "dict",dict:=none,data:=.dict ESUMS_IN_CLAIM PSUMS_IN_CLAIM,slots:=#[] }) (ge_SUMS_IN_CLAIM:KTab w.params ESUMS_IN_CLAIM.toList [("same",2),("under",2),("beneath",2),("sign",1),("nought",1)]) (gn_SUMS_IN_CLAIM:(GSUMS_IN_CLAIM == sysModules)=false)
  {GCLAIMS_IN_CLAIM:Addr} {ECLAIMS_IN_CLAIM:Array DictEntry} {PCLAIMS_IN_CLAIM:Nat} (ga_CLAIMS_IN_CLAIM:W.nsIn K mainGlobals "CLAIMS_IN_CLAIM" = some (some (.ref GCLAIMS_IN_CLAIM))) (gl_CLAIMS_IN_CLAIM:K.lookup GCLAIMS_IN_CLAIM=some { cls:=.type "dict",dict:=none,data:=.dict ECLAIMS_IN_CLAIM PCLAIMS_IN_CLAIM,slots:=#[] }) (ge_CLAIMS_IN_CLAIM:KTab w.params ECLAIMS_IN_CLAIM.toList [("both",2),("either",2),("so",2),("never",1),("yes",0)]) (gn_CLAIMS_IN_CLAIM:(GCLAIMS_IN_CLAIM == sysModules)=false)
  {GREMEMBERING:Addr} {IREMEMBERING:Array Value} {PREMEMBERING:Nat} (ga_REMEMBERING:W.nsIn K mainGlobals "REMEMBERING" = some (some (.ref GREMEMBERING))) (gl_REMEMBERING:K.lookup GREMEMBERING=some { cls:=.type "tuple",dict:=none,data:=.seq IREMEMBERING PREMEMBERING,slots:=#[] }) (gv_REMEMBERING:Vals ((["neg","twice","low","add","sub","same","under","beneath","nought"]:List Str).map V.str) IREMEMBERING.toList) (gs_REMEMBERING:IREMEMBERING.size<=sizeLine)
  (z_abs:W.nsIn K mainGlobals "abs" = some none)
  (z_enumerate:W.nsIn K mainGlobals "enumerate" = some none)
  (z_int:W.nsIn K mainGlobals "int" = some none)
  (z_isinstance:W.nsIn K mainGlobals "isinstance" = some none)
  (z_len:W.nsIn K mainGlobals "len" = some none)
  (z_list:W.nsIn K mainGlobals "list" = some none)
  (z_max:W.nsIn K mainGlobals "max" = some none)
  (z_min:W.nsIn K mainGlobals "min" = some none)
  (z_range:W.nsIn K mainGlobals "range" = some none)
  (z_reversed:W.nsIn K mainGlobals "reversed" = some none)
  (z_sorted:W.nsIn K mainGlobals "sorted" = some none)
  (z_tuple:W.nsIn K mainGlobals "tuple" = some none)
  (kc_machine_telling:cd32=.ref 135)
  : ∃fd:FuncData,(∀(s:Shared) (v:Value),BindsTo s fd ⟨[v],[]⟩ [("script",v)])/\∀base:Heap,K.In base->base.Ns mainGlobals mg->(∀q∈([(135,133)]:List (Addr × Addr)),W.CodeHd base q.1 q.2)->xR mg base->ZO l.prog w K mg base CX0 17 fa fd ["script"] (jg K 133):=by
 have e:=hfa.symm.trans (W.mg_of X G a37)
 cases e
 have F0:=ZI (st:=Xu) l0 c0 k0
 have b0:=F0.binds (ps:=["width"]) fun _ _ _ _ _ _=>uf fun _=>rfl
 have F1:=ZI (st:=Xc) l1 c1 k1
 have b1:=F1.binds (ps:=["bits"]) fun _ _ _ _ _ _=>uf fun _=>rfl
 have F2:=ZI (st:=Y1) l2 c2 k2
 have b2:=F2.binds (ps:=["word"]) fun _ _ _ _ _ _=>uf fun _=>rfl
 have F3:=ZI (st:=Ye) l3 c3 k3
 have b3:=F3.binds (ps:=["word"]) fun _ _ _ _ _ _=>uf fun _=>rfl
 have F4:=ZI (st:=Xd) l4 c4 k4
 have b4:=F4.binds (ps:=["word"]) fun _ _ _ _ _ _=>uf fun _=>rfl
 have F5:=ZI (st:=Xv) l5 c5 k5
 have b5:=F5.binds (ps:=["one","other","held"]) fun _ _ _ _ _ _=>ug fun _ _ _=>rfl
 have F6:=ZI (st:=Y2) l6 c6 k6
 have b6:=F6.binds (ps:=["word","parts"]) fun _ _ _ _ _ _=>vk fun _ _=>rfl
 have F7:=ZI (st:=Yu) l7 c7 k7
 have b7:=F7.binds (ps:=["state","states","numbers"]) fun _ _ _ _ _ _=>ug fun _ _ _=>rfl
 have F8:=ZI (st:=ZN) l8 c8 k8
 have b8:=F8.binds (ps:=["words"]) fun _ _ _ _ _ _=>uf fun _=>rfl
 have F9:=ZI (st:=X5) l9 c9 k9
 have b9:=F9.binds (ps:=["columns","letter"]) fun _ _ _ _ _ _=>vk fun _ _=>rfl
 have F10:=ZI (st:=Y3) l10 c10 k10
 have b10:=F10.binds (ps:=["script","k"]) fun _ _ _ _ _ _=>vk fun _ _=>rfl
 have F11:=ZI (st:=Y4) l11 c11 k11
 have b11:=F11.binds (ps:=["cell","many","most"]) fun _ _ _ _ _ _=>ug fun _ _ _=>rfl
 have F12:=ZI (st:=Xw) l12 c12 k12
 have b12:=F12.binds (ps:=["number","names"]) fun _ _ _ _ _ _=>vk fun _ _=>rfl
 have F13:=ZI (st:=Xx) l13 c13 k13
 have b13:=F13.binds (ps:=["number","left"]) fun _ _ _ _ _ _=>vk fun _ _=>rfl
 have F14:=ZI (st:=Yo) l14 c14 k14
 have b14:=F14.binds (ps:=["words"]) fun _ _ _ _ _ _=>uf fun _=>rfl
 have F15:=ZI (st:=XX) l15 c15 k15
 have b15:=F15.binds (ps:=["word","one"]) fun _ _ _ _ _ _=>vk fun _ _=>rfl
 have F16:=ZI (st:=XY) l16 c16 k16
 have b16:=F16.binds (ps:=["word","one","other"]) fun _ _ _ _ _ _=>ug fun _ _ _=>rfl
 have F17:=ZI (st:=YJ) l17 c17 k17
 have b17:=F17.binds (ps:=["one","width"]) fun _ _ _ _ _ _=>vk fun _ _=>rfl
 have F18:=ZI (st:=Yf) l18 c18 k18
 have b18:=F18.binds (ps:=["word","one","width"]) fun _ _ _ _ _ _=>ug fun _ _ _=>rfl
 have F19:=ZI (st:=XZ) l19 c19 k19
 have b19:=F19.binds (ps:=["machine","letters"]) fun _ _ _ _ _ _=>vk fun _ _=>rfl
 have F20:=ZI (st:=YK) l20 c20 k20
 have b20:=F20.binds (ps:=["bits"]) fun _ _ _ _ _ _=>uf fun _=>rfl
 have F21:=ZI (st:=Xy) l21 c21 k21
 have b21:=F21.binds (ps:=["word"]) fun _ _ _ _ _ _=>uf fun _=>rfl
 have F22:=ZI (st:=Yb) l22 c22 k22
 have b22:=F22.binds (ps:=["names","letters"]) fun _ _ _ _ _ _=>vk fun _ _=>rfl
 have F23:=ZI (st:=Xe) l23 c23 k23
 have b23:=F23.binds (ps:=["word","parts","held"]) fun _ _ _ _ _ _=>ug fun _ _ _=>rfl
 have F24:=ZI (st:=Y5) l24 c24 k24
 have b24:=F24.binds (ps:=["word","parts","held","then"]) fun _ _ _ _ _ _=>Zfk fun _ _ _ _=>rfl
 have F25:=ZI (st:=Yz) l25 c25 k25
 have b25:=F25.binds (ps:=["cell","many"]) fun _ _ _ _ _ _=>vk fun _ _=>rfl
 have F26:=ZI (st:=Wa) l26 c26 k26
 have b26:=F26.binds (ps:=["numbers","names","most"]) fun _ _ _ _ _ _=>ug fun _ _ _=>rfl
 have F27:=ZI (st:=Yv) l27 c27 k27
 have b27:=F27.binds (ps:=["word","one","other","width"]) fun _ _ _ _ _ _=>Zfk fun _ _ _ _=>rfl
 have F28:=ZI (st:=Yp) l28 c28 k28
 have b28:=F28.binds (ps:=["stack","word"]) fun _ _ _ _ _ _=>vk fun _ _=>rfl
 have F29:=ZI (st:=Xf) l29 c29 k29
 have b29:=F29.binds (ps:=["claim","width","values"]) fun _ _ _ _ _ _=>ug fun _ _ _=>rfl
 have F30:=ZI (st:=Wb) l30 c30 k30
 have b30:=F30.binds (ps:=["words","columns","place","kept"]) fun _ _ _ _ _ _=>Zfk fun _ _ _ _=>rfl
 have F31:=ZI (st:=ZU) l31 c31 k31
 have b31:=F31.binds (ps:=["names","begin","step_of"]) fun _ _ _ _ _ _=>ug fun _ _ _=>rfl
 have F32:=ZI (st:=Z8) l32 c32 k32
 have b32:=F32.binds (ps:=["words","names","told"]) fun _ _ _ _ _ _=>ug fun _ _ _=>rfl
 have F33:=ZI (st:=YL) l33 c33 k33
 have b33:=F33.binds (ps:=["words","names"]) fun _ _ _ _ _ _=>vk fun _ _=>rfl
 have F34:=ZI (st:=Yg) l34 c34 k34
 have b34:=F34.binds (ps:=["claim","names"]) fun _ _ _ _ _ _=>vk fun _ _=>rfl
 have F35:=ZI (st:=Yh) l35 c35 k35
 have b35:=F35.binds (ps:=["word","some","names","letters"]) fun _ _ _ _ _ _=>Zfk fun _ _ _ _=>rfl
 have F36:=ZI (st:=ZS) l36 c36 k36
 have b36:=F36.binds (ps:=["word","some","names","letters"]) fun _ _ _ _ _ _=>Zfk fun _ _ _ _=>rfl
 have F37:=ZI (st:=qI) l37 c37 k37
 have b37:=F37.binds (ps:=["script"]) fun _ _ _ _ _ _=>uf fun _=>rfl
 have T:Txt K w mg ⟨f0,_,f1,_,f2,_,f3,_,f4,_,f5,_,f6,_,f7,_,f8,_,f9,_,f10,_,f11,_,f12,_,f13,_,f14,_,f15,_,f16,_,f17,_,f18,_,f19,_,f20,_,f21,_,f22,_,f23,_,f24,_,f25,_,f26,_,f27,_,f28,_,f29,_,f30,_,f31,_,f32,_,f33,_,f34,_,f35,_,f36,_,fa,_,135,133,GSUM_PARTS,GSUMS_IN_CLAIM,GCLAIMS_IN_CLAIM,GREMEMBERING⟩:=⟨⟨W.mg_of X G ga_SUM_PARTS,⟨⟨_,_,gl_SUM_PARTS,ge_SUM_PARTS⟩,by decide +kernel,gn_SUM_PARTS⟩⟩,⟨W.mg_of X G ga_SUMS_IN_CLAIM,⟨⟨_,_,gl_SUMS_IN_CLAIM,ge_SUMS_IN_CLAIM⟩,by decide +kernel,gn_SUMS_IN_CLAIM⟩⟩,⟨W.mg_of X G ga_CLAIMS_IN_CLAIM,⟨⟨_,_,gl_CLAIMS_IN_CLAIM,ge_CLAIMS_IN_CLAIM⟩,by decide +kernel,gn_CLAIMS_IN_CLAIM⟩⟩,⟨W.mg_of X G ga_REMEMBERING,fun _=>.inr ⟨_,_,_,gl_REMEMBERING,rfl,rfl,gs_REMEMBERING,gv_REMEMBERING⟩⟩,⟨F0,W.mg_of X G a0,b0⟩,⟨F1,W.mg_of X G a1,b1⟩,⟨F2,W.mg_of X G a2,b2⟩,⟨F3,W.mg_of X G a3,b3⟩,⟨F4,W.mg_of X G a4,b4⟩,⟨F5,W.mg_of X G a5,b5⟩,⟨F6,W.mg_of X G a6,b6⟩,⟨F7,W.mg_of X G a7,b7⟩,⟨F8,W.mg_of X G a8,b8⟩,⟨F9,W.mg_of X G a9,b9⟩,⟨F10,W.mg_of X G a10,b10⟩,⟨F11,W.mg_of X G a11,b11⟩,⟨F12,W.mg_of X G a12,b12⟩,⟨F13,W.mg_of X G a13,b13⟩,⟨F14,W.mg_of X G a14,b14⟩,⟨F15,W.mg_of X G a15,b15⟩,⟨F16,W.mg_of X G a16,b16⟩,⟨F17,W.mg_of X G a17,b17⟩,⟨F18,W.mg_of X G a18,b18⟩,⟨F19,W.mg_of X G a19,b19⟩,⟨F20,W.mg_of X G a20,b20⟩,⟨F21,W.mg_of X G a21,b21⟩,⟨F22,W.mg_of X G a22,b22⟩,⟨F23,W.mg_of X G a23,b23⟩,⟨F24,W.mg_of X G a24,b24⟩,⟨F25,W.mg_of X G a25,b25⟩,⟨F26,W.mg_of X G a26,b26⟩,⟨F27,W.mg_of X G a27,b27⟩,⟨F28,W.mg_of X G a28,b28⟩,⟨F29,W.mg_of X G a29,b29⟩,⟨F30,W.mg_of X G a30,b30⟩,⟨F31,W.mg_of X G a31,b31⟩,⟨F32,W.mg_of X G a32,b32⟩,⟨F33,W.mg_of X G a33,b33⟩,⟨F34,W.mg_of X G a34,b34⟩,⟨F35,W.mg_of X G a35,b35⟩,⟨F36,W.mg_of X G a36,b36⟩,⟨F37,W.mg_of X G a37,b37⟩,kc_machine_telling,W.mg_none_of X G z_abs,W.mg_none_of X G z_enumerate,W.mg_none_of X G z_int,W.mg_none_of X G z_isinstance,W.mg_none_of X G z_len,W.mg_none_of X G z_list,W.mg_none_of X G z_max,W.mg_none_of X G z_min,W.mg_none_of X G z_range,W.mg_none_of X G z_reversed,W.mg_none_of X G z_sorted,W.mg_none_of X G z_tuple⟩
 exact ⟨_,fun s v=>(show BindsTo s (W.fnOf "law" "law" (Z2 qI) (Zz qI) (Zg qI) .none kV37 dc37 pm37 an37 cd37 ct37) ⟨[v],[]⟩ [("script",v)] from .of_eq rfl),fun base hKb _ hC hB=>ok_law T ⟨hC (135,133) (by simp),hB⟩⟩
theorem walk{l:W.OpenLaw}{q:Program}{loose:List Str}{XP:(Str->Option Value)->Heap->Prop}{YP:World->Heap->Prop}{d:DefRec}{K:Params->W.Frag}(hn:l.most=some 63)(hdf:d.params.defaults=[])
  (hY:∀(w:World) (h:Heap),YP w h->(K w.params).In h)
  (hTab:∀(w:World) (mean:ExcName->Option Value) (mg mb:Str->Option Value) (h:Heap),PyProof.Rows.Top q (W.looseW q loose) mean mg mb h->(K w.params).In h->W.TabsAt [(135,133)] h) (hKt:∀w:World,W.noTabs (K w.params)=true)
  (F:∀(w:World) (mg:Str->Option Value) (fa:Addr) (h:Heap),(K w.params).In h->h.Ns mainGlobals mg->mg d.name=some (.ref fa) ->
   ∃fd:FuncData,(∀(s:Shared) (u:Value),BindsTo s fd ⟨[u],[]⟩ [("script",u)])/\∀base:Heap,(K w.params).In base->base.Ns mainGlobals mg->(∀q∈([(135,133)]:List (Addr × Addr)),W.CodeHd base q.1 q.2)->xR mg base->ZO l.prog w (K w.params) mg base CX0 17 fa fd ["script"] (jg (K w.params) 133)) :
  W.WalkO q loose XP YP l.row.toRowW d [] (fun f vs=>PySem.call f vs) :=
 L2.walk_ofT (n:=63) (k:=17) (x := "script") (CX:=fun _=>CX0) (sp:=fun w=>jg (K w.params) 133) hn (by decide) hdf ⟨rfl,by decide,by decide⟩ hY hTab hKt F (fun _ _ a ns hl hT hS=>⟨a,ns,rfl,hS,hl,.inl (hT (135,133) (by simp)),fun _=>rfl⟩) fun _ _ _ _ _ z=>z
theorem walkZ{l:W.OpenLaw}{q:Program}{loose:List Str}{XP:(Str->Option Value)->Heap->Prop}{d:DefRec}{K0:Params->W.Frag}(hn:l.most=some 63)(hdf:d.params.defaults=[])
  (hs:∀P,L2.nodB ((K0 P).map (·.1))=true)
  (hTab:∀(w:World) (mean:ExcName->Option Value) (mg mb:Str->Option Value) (h:Heap),PyProof.Rows.Top q (W.looseW q loose) mean mg mb h->(L2.noT (K0 w.params)).In h->W.TabsAt [(135,133)] h)
  (F:∀(w:World) (mg:Str->Option Value) (fa:Addr) (h:Heap),(L2.noT (K0 w.params)).In h->h.Ns mainGlobals mg->mg d.name=some (.ref fa) ->
   ∃fd:FuncData,(∀(s:Shared) (u:Value),BindsTo s fd ⟨[u],[]⟩ [("script",u)])/\∀base:Heap,(L2.noT (K0 w.params)).In base->base.Ns mainGlobals mg->(∀q∈([(135,133)]:List (Addr × Addr)),W.CodeHd base q.1 q.2)->xR mg base->ZO l.prog w (L2.noT (K0 w.params)) mg base CX0 17 fa fd ["script"] (jg (L2.noT (K0 w.params)) 133)) :
  W.WalkO q loose XP (W.InK K0) l.row.toRowW d [] (fun f vs=>PySem.call f vs) :=
 walk (K:=fun P=>L2.noT (K0 P)) hn hdf (fun w h Y=>L2.in_noT (hs _) Y) hTab (fun w=>L2.noT_ok _) F
end Lw
open PySem PySem.W PyProof.Rows
set_option maxRecDepth 100000 in
set_option maxHeartbeats 0 in
theorem PySem.Challenge.cw_everywidth_k17_whole_machines_put_togeth_holds : PySem.Challenge.rw_everywidth_k17_whole_machines_put_togeth.Holds := by
 w_on;o_law;z_head;(case hw=>w_witness2)
 refine L2.walk_X (fun _=>by kernel_rfl) ?_
 k_fill
 refine Lw.walkZ (l:=PySem.Challenge.rw_everywidth_k17_whole_machines_put_togeth) rfl rfl (fun _=>by kernel_rfl) (fun w mean mg mb h T X=>List.forall_mem_cons.mpr ⟨PySem.W.tab_of (x:=PySem.Str.ofString "machine_telling") (c:=135) (P:=133) T X rfl (by kernel_rfl),List.forall_mem_nil _⟩) ?F
 case F =>
  intro w mg fa h KX G hmg
  refine' Lw.all_mk KX G hmg ?a0 ?l0 ?c0 ?k0 ?a1 ?l1 ?c1 ?k1 ?a2 ?l2 ?c2 ?k2 ?a3 ?l3 ?c3 ?k3 ?a4 ?l4 ?c4 ?k4 ?a5 ?l5 ?c5 ?k5 ?a6 ?l6 ?c6 ?k6 ?a7 ?l7 ?c7 ?k7 ?a8 ?l8 ?c8 ?k8 ?a9 ?l9 ?c9 ?k9 ?a10 ?l10 ?c10 ?k10 ?a11 ?l11 ?c11 ?k11 ?a12 ?l12 ?c12 ?k12 ?a13 ?l13 ?c13 ?k13 ?a14 ?l14 ?c14 ?k14 ?a15 ?l15 ?c15 ?k15 ?a16 ?l16 ?c16 ?k16 ?a17 ?l17 ?c17 ?k17 ?a18 ?l18 ?c18 ?k18 ?a19 ?l19 ?c19 ?k19 ?a20 ?l20 ?c20 ?k20 ?a21 ?l21 ?c21 ?k21 ?a22 ?l22 ?c22 ?k22 ?a23 ?l23 ?c23 ?k23 ?a24 ?l24 ?c24 ?k24 ?a25 ?l25 ?c25 ?k25 ?a26 ?l26 ?c26 ?k26 ?a27 ?l27 ?c27 ?k27 ?a28 ?l28 ?c28 ?k28 ?a29 ?l29 ?c29 ?k29 ?a30 ?l30 ?c30 ?k30 ?a31 ?l31 ?c31 ?k31 ?a32 ?l32 ?c32 ?k32 ?a33 ?l33 ?c33 ?k33 ?a34 ?l34 ?c34 ?k34 ?a35 ?l35 ?c35 ?k35 ?a36 ?l36 ?c36 ?k36 ?a37 ?l37 ?c37 ?k37 ?ga_SUM_PARTS ?gl_SUM_PARTS ?ge_SUM_PARTS ?gn_SUM_PARTS ?ga_SUMS_IN_CLAIM ?gl_SUMS_IN_CLAIM ?ge_SUMS_IN_CLAIM ?gn_SUMS_IN_CLAIM ?ga_CLAIMS_IN_CLAIM ?gl_CLAIMS_IN_CLAIM ?ge_CLAIMS_IN_CLAIM ?gn_CLAIMS_IN_CLAIM ?ga_REMEMBERING ?gl_REMEMBERING ?gv_REMEMBERING ?gs_REMEMBERING ?z_abs ?z_enumerate ?z_int ?z_isinstance ?z_len ?z_list ?z_max ?z_min ?z_range ?z_reversed ?z_sorted ?z_tuple ?kc_machine_telling
  (case a0 | a1 | a2 | a3 | a4 | a5 | a6 | a7 | a8 | a9 | a10 | a11 | a12 | a13 | a14 | a15 | a16 | a17 | a18 | a19 | a20 | a21 | a22 | a23 | a24 | a25 | a26 | a27 | a28 | a29 | a30 | a31 | a32 | a33 | a34 | a35 | a36 | a37 | ga_SUM_PARTS | ga_SUMS_IN_CLAIM | ga_CLAIMS_IN_CLAIM | ga_REMEMBERING | z_abs | z_enumerate | z_int | z_isinstance | z_len | z_list | z_max | z_min | z_range | z_reversed | z_sorted | z_tuple=>first | (refine L2.ns_tr (by kernel_rfl) ?_;k_is) | (refine L2.fi_tr (by kernel_rfl) ?_;k_is))
  (case l0 | l1 | l2 | l3 | l4 | l5 | l6 | l7 | l8 | l9 | l10 | l11 | l12 | l13 | l14 | l15 | l16 | l17 | l18 | l19 | l20 | l21 | l22 | l23 | l24 | l25 | l26 | l27 | l28 | l29 | l30 | l31 | l32 | l33 | l34 | l35 | l36 | l37 | gl_SUM_PARTS | gl_SUMS_IN_CLAIM | gl_CLAIMS_IN_CLAIM | gl_REMEMBERING=>refine L2.lk_tr (by kernel_rfl) ?_;k_is)
  (case c0 | c1 | c2 | c3 | c4 | c5 | c6 | c7 | c8 | c9 | c10 | c11 | c12 | c13 | c14 | c15 | c16 | c17 | c18 | c19 | c20 | c21 | c22 | c23 | c24 | c25 | c26 | c27 | c28 | c29 | c30 | c31 | c32 | c33 | c34 | c35 | c36 | c37=>refine L2.cd_tr (by kernel_rfl) ?_;k_is)
  (case k0 | k1 | k2 | k3 | k4 | k5 | k6 | k7 | k8 | k9 | k10 | k11 | k12 | k13 | k14 | k15 | k16 | k17 | k18 | k19 | k20 | k21 | k22 | k23 | k24 | k25 | k26 | k27 | k28 | k29 | k30 | k31 | k32 | k33 | k34 | k35 | k36 | k37=>refine L2.kp_tr (by kernel_rfl) ?_;k_is)
  (case ge_SUM_PARTS | ge_SUMS_IN_CLAIM | ge_CLAIMS_IN_CLAIM=>repeat (first | exact L2.KTab.nil | refine L2.KTab.cons ?_))
  (case gn_SUM_PARTS | gn_SUMS_IN_CLAIM | gn_CLAIMS_IN_CLAIM=>first | rfl | decide +kernel)
  (case gv_REMEMBERING=>repeat (first | exact .nil | refine .cons ⟨_,rfl⟩ ?_))
  (case gs_REMEMBERING=>show _<=_;decide)
  (case kc_machine_telling=>exact rfl)
#print axioms PySem.Challenge.cw_everywidth_k17_whole_machines_put_togeth_holds
