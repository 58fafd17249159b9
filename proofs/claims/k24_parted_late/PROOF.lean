import PyProof.Rows.All
import Wide.All
import OpenK.AllK
import Wide.FinOn
import Lean
import PyProof.EqAt
import PyProof.EqKinds
import PyProof.TupleCall
import PyProof.NeKinds
import KE.KRevSl
import KE.KRevIter
import PyProof.FactsAll.tuple
import PyProof.Rows.SortWalk
import PyProof.Rows.StrJoin2
import PyProof.StrBlockH
import PyProof.StrWalks
import PyProof.StrCalls2
import PyProof.ConsumeWalk
import KE.KIntText
import PyProof.Rows.SortStr
import PyProof.EnumStmt
import PyProof.WalksMore
import KE.KEqDict
import PyProof.DictWalks
import KE.KLam
import PyProof.Rows.SortShellK
import PyProof.AttrMissHeap
import KE.KDictOf
import PyProof.ZipIter
import PyProof.CollectWalk
import PyProof.ListNew
import KE.KSortTup
import PyProof.Rows.TupDisplay
import OpenK.KOwn
import PyProof.Rows.TopTwo
import PyProof.Rows.CatchOwn
import PyProof.RulesDel
import PyProof.RulesAs
import KE.KIsNot
import PyProof.ExcAttrAll.ValueError
import KE.KIsAll
import PyProof.StrReplace2
import PyProof.ReprStr
import PyProof.FString
import PyProof.StrLawsChain
import PyProof.SetRoads
import PyProof.StrLawsRepr
import PyProof.ReprHeads
import PyProof.ReprLen
import PyProof.FactsAll.bool
import KE.KNest
import PyProof.Rows.RuleM_int
import PyProof.Rows.CallKwBuiltin
import KE.KMinKey
import PyProof.ListRange
import PyProof.TupleOfSeq
import PyProof.TupleOfStr
import KE.KDictLaws
import PySem.Challenge.RW_everywidth_k24_parted_late
set_option Elab.async false
set_option linter.all false
set_option maxRecDepth 100000
noncomputable section
set_option hygiene false
local macro_rules|`(1e0)=>`(by show 11)|`(1e1)=>`(List Nat)|`(1e2)=>`((by lia))|`(1e3)=>`(List Str)|`(1e4)=>`((4e0))|`(1e5)=>`(List Int)|`(1e6)=>`((fun _ _=>rfl))|`(1e7)=>`((Or.inl rfl))|`(1e8)=>`(Hp->Prop)|`(1e9)=>`(Value->3e3)|`(2e0)=>`(List Value)|`(2e1)=>`(Inv X pins σ H s)|`(2e2)=>`(some (.tup xs))|`(2e3)=>`((model prog w))|`(2e4)=>`(List (1e1))|`(2e5)=>`((by simp))|`(2e6)=>`(List (Addr × Obj))|`(2e7)=>`((.str y))|`(2e8)=>`((by rfl))|`(2e9)=>`(Str->7e9)|`(3e0)=>`((model X.prog X.w))|`(3e1)=>`((.ref a))|`(3e2)=>`((hr.mono 1e4))|`(3e3)=>`(Shared->Prop)|`(3e4)=>`((dwN kk i))|`(3e5)=>`((.ref p))|`(3e6)=>`(⟨rfl,rfl,rfl,1e0,rfl,1e0,1e0⟩)|`(tactic|show 6)=>`(tactic|try dsimp only [L2.cxK,L2.cxK2])|`(3e7)=>`((fun vs H Q E h=>?_))|`(3e8)=>`(Tbs mg base t)|`(3e9)=>`(Txt K w mg t)|`(tactic|show 8)=>`(tactic|have hu:=ZV hr)|`(4e0)=>`(by decide)|`(4e1)=>`((.dK kvs))|`(4e2)=>`(St->1e8)|`(4e3)=>`(fun z=>nomatch z)|`(4e4)=>`(List (Key × V))|`(4e5)=>`(Array Value)|`(4e6)=>`(Str->Int)|`(4e7)=>`(Option Int)
local macro_rules|`(4e8)=>`(.type "tuple")|`(tactic|show 9)=>`(tactic|clear hu hr)|`(4e9)=>`(.ref s.heap.objs.size)|`(5e0)=>`(List Addr)|`(5e1)=>`((.ref l))|`(5e2)=>`(.type "list")|`(5e3)=>`(Int × 1e5)|`(5e4)=>`(List Expr)|`(5e5)=>`(Qaq _ rfl)|`(5e6)=>`(Option V)|`(5e7)=>`(s.heap.get? b)|`(5e8)=>`(List (List V))|`(5e9)=>`(s.heap.objs.size + 1)|`(6e0)=>`(Nat->Nat->Nat)|`(6e1)=>`((bfN nx b i))|`(6e2)=>`(npw 2e7)|`(6e3)=>`((is.getD 0 0))|`(tactic|show 10)=>`(tactic|try dsimp only)|`(6e4)=>`(.inl rfl)|`(6e5)=>`(⟨rfl,rfl⟩)|`(6e6)=>`(by simpa using hb)|`(6e7)=>`(bs.getD 0 0)|`(6e8)=>`((mB ot v))|`(6e9)=>`((fun cdv A outer s H vs Q E hr h=>?_))|`(7e0)=>`({ s with heap:=h' })|`(7e1)=>`(2 ^ nm.length)|`(7e2)=>`((Qad ?_))|`(7e3)=>`({ s with heap:=h',toks:=tk })|`(7e4)=>`(List V->Hp->VK->Prop)|`(7e5)=>`((List.range (7e1)))|`(7e6)=>`((Zq Zy (qv 1) Zd 1e6))|`(7e7)=>`(List (Str × Addr))|`(7e8)=>`(fun _ z=>nomatch z)|`(7e9)=>`(Option Value)|`(8e0)=>`(t.flat P Q R)|`(8e1)=>`(⟨_,rfl⟩)|`(tactic|show 11)=>`(tactic|decide +kernel)|`(8e2)=>`(["word"])|`(8e3)=>`(by show 2<=sizeLine;decide)|`(8e4)=>`(cellsOf X.env.cells)
local macro_rules|`(8e5)=>`((I.ok.hd hc))|`(8e6)=>`(List Env)|`(8e7)=>`((Zq Zu (qv 0) Zd 1e6))|`(8e8)=>`(Nat->Nat->Bool)|`(8e9)=>`((.bl true))|`(9e0)=>`(some .cell)|`(9e1)=>`(nomatch h)|`(9e2)=>`(by with_unfolding_all rfl)|`(9e3)=>`(A.handled=none)|`(9e4)=>`(Qa0 (Zn 1e2))|`(9e5)=>`((x == ("__debug__" : Str))=false)|`(9e6)=>`(XW ys cols pl kp r)|`(9e7)=>`(List (κ × V))|`(9e8)=>`((is.getD 1 0))|`(9e9)=>`(X.calm=true)|`(10e0)=>`(some .free)|`(10e1)=>`((.ref it))|`(10e2)=>`(Array (Int × Value))|`(10e3)=>`((ptV es[0]?))|`(10e4)=>`((ptV es[1]?))|`(10e5)=>`(SqT K H a xs)|`(10e6)=>`(Option Str)|`(tactic|show 13)=>`(tactic|intro pins s σ H Q I h)|`(10e7)=>`(xs[i]?=some x)|`(10e8)=>`(fun b hb=>?_)|`(10e9)=>`(H b=some o)|`(11e0)=>`(⟨by rfl,1e0,1e0,by rfl,1e0,1e0,by rfl,1e0⟩)|`(11e1)=>`(fun i:Nat=>V.int (i:Int))|`(11e2)=>`(List (Str × Int))|`(11e3)=>`((3e4).getD i 0)|`(11e4)=>`((.Name x p))|`(11e5)=>`(some .local)|`(11e6)=>`(5e7=some o->h'.get? b=some o)|`(11e7)=>`(⟨_,rfl,rfl,_,rfl,?_⟩)|`(tactic|show 14)=>`(tactic|simp only [Qan,Qa7,Qc3])|`(11e8)=>`((Zk (qv 0) Ze))|`(11e9)=>`((Or.inr rfl))|`(12e0)=>`((n:Int) - 1)|`(12e1)=>`(bs.getD 1 0)|`(12e2)=>`(List V->1e8)
local macro_rules|`(12e3)=>`((xs.zip ys))|`(12e4)=>`(H' b=some o)|`(12e5)=>`(HOk P w H h)|`(12e6)=>`(some (X9 o))|`(12e7)=>`(fun _ _ _ _ _ _=>kM fun _=>rfl)|`(tactic|show 15)=>`(tactic|refine Z6 fun Gz D=>?_)|`(12e8)=>`((K w.params))|`(12e9)=>`(ys.map V.str)|`(13e0)=>`((J:Int) + 1)|`(13e1)=>`((Xl W ρ r))|`(13e2)=>`((3e4).length)|`(13e3)=>`(Qak.mpr rfl)|`(13e4)=>`(∀b xs,H b=2e2->H' b=2e2)|`(13e5)=>`(Builtin.Int.intBits z)|`(13e6)=>`((fun _ _ _ _=>XR))|`(13e7)=>`(Option (1e1))|`(13e8)=>`(List (5e3))|`(13e9)=>`(((nx si).map fun x=>YU ((14e5).idxOf x)))|`(14e0)=>`(fun _ _ _ _ _ _=>len2 fun _ _=>rfl)|`(14e1)=>`(X.env.cells.lookup x=some c)|`(14e2)=>`(["one","other","pair"])|`(14e3)=>`((Y4 (2 ^ N.length) N))|`(14e4)=>`(xs.length<=sizeLine)|`(14e5)=>`((bfN nx b (i + 1)))|`(14e6)=>`((by injection z))|`(14e7)=>`(itL nx ok b Ls k)|`(14e8)=>`(h.get? a=some o)|`(14e9)=>`(X.N[i]?=some x)|`(15e0)=>`(.of 1e4 1e4)|`(15e1)=>`(ls.length + 1)|`(15e2)=>`(ys[i]?=some y)|`(15e3)=>`(.type "dict")|`(15e4)=>`(SqL K H a xs)|`(15e5)=>`(fun _ _ _ _ _ _=>Zan fun _ _ _=>rfl)|`(15e6)=>`((xA X.env.cells scope.names []))|`(15e7)=>`(.Lambda params body scope lpos)|`(15e8)=>`(Str.ofString "__next__")|`(15e9)=>`(scope.names.lookup y)|`(16e0)=>`(A.units + 1 < cLine)|`(tactic|show 17)=>`(tactic|intro pins s σ H D I h)
local macro_rules|`(16e1)=>`(fun b o e=>Qab _ e)|`(16e2)=>`((by kernel_rfl))|`(16e3)=>`((Zk (qv 1) Ze))|`(16e4)=>`(fun _ _=>False)|`(16e5)=>`(some (.lst xs))|`(16e6)=>`((R.getD i []))|`(16e7)=>`(some (.ref f))|`(16e8)=>`((Zz XO (qv 0) Zx (ZG _)))|`(16e9)=>`((.lst (os++[.ref a9])))|`(17e0)=>`(List (Str × NameKind))|`(17e1)=>`(HT.sIx xs.length 0 lo)|`(17e2)=>`((List.range (kk i)))|`(17e3)=>`(⟨by lia,by lia⟩)|`(17e4)=>`((12e3).length)|`(17e5)=>`((EP X pins σ Q))|`(17e6)=>`(x ≠ "__name__")|`(17e7)=>`(["one","other"])|`(17e8)=>`(h.get? b=some o)|`(17e9)=>`(bootBuiltins x)|`(18e0)=>`(some (.tup ys))|`(18e1)=>`((.builtin id))|`(18e2)=>`((.frz o 4e1))|`(18e3)=>`((7e5).map 11e1)|`(18e4)=>`((cellsFrom (5e9) scope.names cl))|`(18e5)=>`(gh (fun hb=>?_) (fun hb=>?_))|`(18e6)=>`(by show 1<=sizeLine;decide)|`(18e7)=>`(min (k:Int) (lgB v:Int))|`(18e8)=>`(["machine","letters"])|`(18e9)=>`((lys (mN nx) [b] Ls))|`(19e0)=>`(List (List Key × V))|`(19e1)=>`(Inv X pins σ H' s')|`(19e2)=>`(["names","letters"])|`(19e3)=>`((allR.map V.str))|`(19e4)=>`((nx.getD s []))|`(19e5)=>`(DecidableEq κ)|`(19e6)=>`((0,List.replicate (Y5 v) 0))|`(19e7)=>`({ s with toks:=s.toks + 1 })|`(19e8)=>`(fun e=>hb (by simp [e]))|`(19e9)=>`((is.map fun x=>bt x k))|`(20e0)=>`(by rw [Qd6];kernel_rfl)
local macro_rules|`(20e1)=>`(.ref C.heap.objs.size)|`(20e2)=>`(⟨_,5e5,rfl,rfl⟩)|`(20e3)=>`(I.hok.fresh (Qai _))|`(20e4)=>`(zs.length<=sizeLine)|`(tactic|show 18)=>`(tactic|refine Z6 fun Gz hGz=>?_)|`(20e5)=>`(Builtin.bitXor a b)|`(20e6)=>`((dwN kk (i + 1)))|`(20e7)=>`((strKind prog w))|`(tactic|show 19)=>`(tactic|refine Z6 fun D C=>?_)|`(tactic|show 20)=>`(tactic|refine Z6 fun G C=>?_)|`(20e8)=>`(if y∈allR then _ else if y∈ys then _ else _)|`(tactic|show 21)=>`(tactic|intro X hP hw hK hc i pins s σ H E I hf st hg)|`(20e9)=>`(X.env.scope.names.lookup x=11e5)|`(21e0)=>`((fun b o hb e=>kk b o (6e6) e))|`(tactic|show 22)=>`(tactic|intro pins s σ H x y v u Q I D C h)|`(21e1)=>`((List.replicate Z (.int 0)))|`(21e2)=>`(V->4e7->4e7->Hp->VK->Prop)|`(21e3)=>`(List (Kk × Addr × Value))|`(21e4)=>`(by rw [Qeb,Qcx];kernel_rfl)|`(21e5)=>`(by show 0<=sizeLine;decide)|`(tactic|show 23)=>`(tactic|obtain ⟨o,ho,hc,hd⟩:=id q)|`(21e6)=>`((ha pins s σ H _ I h))|`(21e7)=>`(C.drop (C.length - i))|`(21e8)=>`(Qbg ?_ (by size_fits))|`(21e9)=>`(fun b hb=>(hf b hb).1)|`(22e0)=>`((false,eval e X.env))|`(22e1)=>`((Gp is σ (some x)))|`(22e2)=>`(sIx items.size 0 lo)|`(tactic|show 24)=>`(tactic|obtain ⟨kk,rfl,k⟩:=h)|`(22e3)=>`((wrN c (wrO es t)))|`(22e4)=>`(ZC H H'->Q 3e5 H')|`(22e5)=>`(cl.lookup x=some c)|`(22e6)=>`(.ref h'.objs.size)|`(22e7)=>`(∀p,H p=none->Q 3e5 (upd H p (.lst zs)))|`(22e8)=>`((List.range L).map fun l:Nat=>bt (l:Int) i)|`(22e9)=>`((fun q A outer s H vs Q E hr h=>?_))|`(23e0)=>`((.Call 11e4 (e::es) [] pos))|`(23e1)=>`(h.get? b=some u->h'.get? b=some u)|`(23e2)=>`(List (List Key × Addr × Value))|`(tactic|show 25)=>`(tactic|refine ⟨fun pins s σ H R I h=>?_⟩)
local macro_rules|`(23e3)=>`((1 + 2 * x) * 2 ^ b.toNat % 512)|`(23e4)=>`((lwb nx ok k (lys nx S Ls) Ls))|`(23e5)=>`(HT.sIx xs.length xs.length hi)|`(23e6)=>`(((nx si).take j).foldl Y0 l0)|`(23e7)=>`({ s with heap:=h',toks:=t' })|`(23e8)=>`(["letters","number","bit"])|`(23e9)=>`(by show 3<=sizeLine;decide)|`(24e0)=>`((Qad ⟨_,rfl,Qad h⟩))|`(24e1)=>`(s.heap.IsTuple l items)|`(24e2)=>`(Inv X pins σ H 7e3)|`(24e3)=>`(Ym S scope N x ys is)|`(24e4)=>`(["columns","letter"])|`(24e5)=>`(kvs.length<=sizeLine)|`(24e6)=>`(s.heap.get? c=some o)|`(24e7)=>`(((m &&& n:Nat):Int))|`(24e8)=>`(if (k == NameKind.free && env.scope.kind == .function && env.kindOf n == 9e0)=true then (n,NameKind.cell) else (n,k))|`(24e9)=>`((fun (p:Kk × V) (q:Kk × Addr × Value)=>p.1=q.1/\kn.at_ H q.1 q.2.1/\RelV p.2 q.2.2))|`(25e0)=>`({ cls:=.type "range",data:=.fields #[.int lo t,.int hi u,.int 1 v] })|`(25e1)=>`((.lst (l2.map V.int++[.int (ktI y (q.take (6e2)) hh)])))|`(25e2)=>`((.ListComp elt [⟨.Name x px,iter,ifs,0⟩] scope pos))|`(25e3)=>`(((16e6).take j).foldl Y0 17e2)|`(25e4)=>`((Zq (show IxR _ (Ze4 K) from Zu) (qv 0) Zd 1e6))|`(25e5)=>`((cxC X (x::ys) scope H2.objs.size s₂ H₂ fp))|`(25e6)=>`((pN (rnG (nxS ms u) l1) (rnG (nxS ms v) l2)))|`(25e7)=>`(["machine","state","letter","well","wanted"])|`(25e8)=>`(envOfC qual scope s.heap.objs.size f C)|`(25e9)=>`(y = "neg" \/ y = "low" \/ y = "nought")|`(26e0)=>`((["and","or","odd","add","sub"]:1e3))|`(26e1)=>`((cxC X (x::ys) scope C s₂ H₂ ex))|`(26e2)=>`(.Call (.Name "zip" p) [e1,e2] [] pos)|`(26e3)=>`((D.take Z++D.drop (Z + 1)).take mm)|`(26e4)=>`(cellsFrom (5e9) scope.names [])|`(26e5)=>`(["word","parts","held","then"])|`(26e6)=>`(BfE (pN nx1 nx2) (pK b1 b2) l)|`(26e7)=>`(["state","states","numbers"])|`(26e8)=>`(es[0]?=some y\/es[1]?=some y)|`(26e9)=>`(sIx items.size items.size hi)|`(27e0)=>`((fun h=>hb (by simp [h])))|`(tactic|show 26)=>`(tactic|have e:b=C.heap.objs.size:=6e6)|`(27e1)=>`((a == sysModules)=false)
local macro_rules|`(27e2)=>`(Qaa (Qdi ho hd 2e5 ?_))|`(27e3)=>`(Value->Value->Sem Value)|`(27e4)=>`((Zq Zy (qv 2) Zd 1e6))|`(27e5)=>`((by rw [Z1 m];exact e))|`(27e6)=>`(∀y∈scope.names,y.2=.free->X.env.scope.names.lookup y.1=9e0)|`(27e7)=>`(starEach (e::es) X.env=22e0::starEach es X.env)|`(27e8)=>`(wpAny _ _ (newExc (.type "StopIteration") [] >>= _) _ _ _)|`(27e9)=>`(attributeBase o name X.env (eval o X.env)=eval o X.env)|`(28e0)=>`(typeOf 18e1=pure (.type "method_descriptor"))|`(28e1)=>`((by first | exact .inl (1e0) | exact .inr (1e0)))|`(28e2)=>`(ItemsOf (fun i v=>∃t,v=.int (a + i * c) t) acc n)|`(28e3)=>`(["machine","states","letters","well","wanted"])|`(28e4)=>`((Zz Xf (qv 0) (ZL (Zk Zx (Zk Zx Ze))) (9e2)))|`(28e5)=>`(⟨o,e,fun v z=>by rw [d] at z;cases z⟩)|`(28e6)=>`(C.heap.push { cls:=5e2,data:=.seq #[] })|`(28e7)=>`(upd (upd H6 l (.lst 13e9)) q (.tup 13e9))|`(28e8)=>`(["machine","letters","number","wanted"])|`(28e9)=>`((ps.map fun (k:Nat)=>rawInt k).toArray)|`(29e0)=>`(lwb nx ok k (lys nx (ki nx S L) Ls) Ls)|`(29e1)=>`(24e6->h'.get? c=some o)|`(29e2)=>`((8e0++(u.flat P Q R++v.flat P Q R)))|`(29e3)=>`(.tup [.int (b1:Int),.int (b2:Int)])|`(29e4)=>`(["words","columns","place","kept"])|`(29e5)=>`(is.map fun i=>(σ[i]?).getD none)|`(29e6)=>`({ D with nx:=N,ct:=N,bk:=D.nx })|`(29e7)=>`({ U with nx:=N,ct:=N,bk:=U.nx })|`(29e8)=>`(backTo pos (starEach es X.env))|`(29e9)=>`(bt (if y∈ZT then _ else _) k)|`(30e0)=>`(["word","name","one","other"])|`(30e1)=>`((Zm ZW (Zm Yw (qv 1) Zd) Zd))|`(30e2)=>`(["machine","width","wanted"])|`(30e3)=>`((fun b o hb e=>eb b o hb e))|`(30e4)=>`(.inr (.inr ⟨4e0,4e0⟩))|`(30e5)=>`((((22e2:Nat):Int) == 0 && (1:Int) == 1 && (26e9 - 22e2) == items.size)=true)|`(30e6)=>`(["enumerate","zip","dict_itemiterator","dict_reverseitemiterator","odict_iterator","itertools.zip_longest","itertools.pairwise"])|`(30e7)=>`(Qaa (m:=firstArgMember _ _) (Qcy (a:=Value.none) (by first | rfl | (simp only [firstArgMember];rfl)) ?_))|`(30e8)=>`([("not",1),("neg",1),("twice",1),("low",1),("and",2),("or",2),("odd",2),("add",2),("sub",2),("pick",3)])|`(30e9)=>`(Txt.slice B none (some (j:Int))++⟨#[G]⟩++Txt.slice B (some ((j:Int) + 1)) none)|`(31e0)=>`(vN (mN nx) 6e8 I (lwT (mN nx) 6e8 I [b] Ls (j + 1)).2 S L)|`(31e1)=>`((s₂.heap.objs.size,{ cls:=5e2,data:=.seq O.toArray k }))
local macro_rules|`(31e2)=>`(itL (mN nx) 6e8 b (List.replicate w 7e5) nm.length)|`(31e3)=>`(wpAny 2e3 A (Builtin.SmallTypes.nextOf 10e1) Q E s)|`(31e4)=>`((C.getD 1 0 + (i:Int) * (1 + C.getD 2 0 % 5)) % 16)|`(31e5)=>`((fun fin s'=>∃r,fin=.done (.ret r)/\R r s'))|`(31e6)=>`(ZH X.prog X.w X.K X.mg X.base CX k f fd ps sp)|`(31e7)=>`(fun i h h' st k=>st.at fun o e=>k it 2e5 o e)|`(31e8)=>`(.dK (Wm [] [((.inl (b:Int):Key),V.bl true)]))|`(31e9)=>`(∀vs H Q E,sp vs H Q E->vs.length=ps.length)|`(32e0)=>`(#[rawInt lpos.line,rawInt lpos.col,.ref l])|`(32e1)=>`(#[rawInt lpos.line,rawInt lpos.col,.ref q])|`(32e2)=>`({ cls:=5e2,data:=.seq ([]:2e0).toArray })|`(32e3)=>`(fun z=>V.bl (gw (mN nx) 6e8 W s z.toNat))|`(32e4)=>`((pickOrder (w.params.setOrder a n) es))|`(32e5)=>`(jx X name qual params body scope q G J)|`(32e6)=>`(fun _ _ _ _ _ _=>Znd fun _ _ _ _=>rfl)|`(32e7)=>`((names.map fun (n,k)=>24e8).lookup x)|`(32e8)=>`((x == ("__classdict__" : Str))=false)|`(32e9)=>`((nxT nm (Y4 (7e1) nm) ws (lgB ws)))|`(33e0)=>`(∀j,j < i->j < (bfN nx b j).length)|`(tactic|show 27)=>`(tactic|have fn:H h'.objs.size=none:=I.hok.fresh hsz)|`(tactic|show 28)=>`(tactic|intro X O hw J hc i pins s σ H E I hf st hg)|`(33e1)=>`(∀b∈ch,(b∈X.ex\/X.s₀.heap.objs.size<=b)/\b≠X.env.locals/\(∀x c,14e1->c≠b)/\∀p∈X.pn++pins,p.1≠b)|`(33e2)=>`(((items.toList.drop (22e2)).take (26e9 - 22e2)))|`(33e3)=>`(24e5/\27e1/\∃vs,KV kvs vs/\h.DictOf (ZD P w) a vs)|`(33e4)=>`(ZH P w K mg base CX0 13 t.cg t.cj ["names","begin","step_of"] (Xq P w K mg base))|`(33e5)=>`({ C with heap:=C.heap.push { cls:=.type "slice",data:=.fields #[D,vu,.none] } })|`(33e6)=>`(Y7 (mN (rnG (pN nx1 nx2) l)) (mB (l.map (pO ot1 ot2)) 8e9) 0 (ls++[c]))|`(33e7)=>`(["machine","width","wanted","names","all_letters","letters","number","row"])|`(33e8)=>`(["words","names","told","letters","columns","last_place","step_of","begin"])|`(33e9)=>`((∀q∈([(227,225),(256,252)]:List (Addr × Addr)),W.CodeHd base q.1 q.2))|`(34e0)=>`((Zl G 3e2 rfl T.ai.m T.ai.F.kp T.ai.b .nil ZI (Zk (qv 0) (Zk Zd Ze))))|`(34e1)=>`((∃o,h'.get? e=some o/\o.cls=.type "StopIteration")->E (.ref e) 7e0)|`(34e2)=>`(["neg","twice","low","add","sub","same","under","beneath","nought"])|`(34e3)=>`(Qaa (Qdp (T := "StopIteration") (b:=true) ⟨_,5e5,rfl⟩ Qf8 ?_))|`(34e4)=>`(absurd ((1e0:∀y∈Ji,y∈Ye) s (Qa1 G).1) (by rw [<-e];exact D))|`(34e5)=>`((mB (l.map (pO (l1.map (otS ms u)) (l2.map (otS ms v)))) 8e9))|`(34e6)=>`(ZH P w K mg base CX0 1 t.ix t.iy ["one","other","held"] (GA K))|`(34e7)=>`([("same",2),("under",2),("beneath",2),("sign",1),("nought",1)])|`(tactic|show 29)=>`(tactic|rcases Qc5 m with e | e <;> rcases Qc5 n with f | f <;> rw [e,f] <;> rfl)|`(34e8)=>`((toString "max" ++ toString ".loop" : String) = "max.loop")
local macro_rules|`(34e9)=>`(fun q hq=>⟨q,_,rfl,.inr (SqT.of Za),rfl,rfl,_,rfl,?_⟩)|`(35e0)=>`((C.getD 1 0 + (0 + (i:Int)) * (1 + C.getD 2 0 % 5)) % 16)|`(35e1)=>`([("both",2),("either",2),("so",2),("never",1),("yes",0)])|`(35e2)=>`(∀y d,(15e6).lookup y=some d->X.env.cells.lookup y=some d)|`(35e3)=>`((.lst (((q.drop (npw x)).map V.int).reverse++[.int v])))|`(35e4)=>`(∀y∈scope.names,y.2=.free->S0.names.lookup y.1=9e0)|`(35e5)=>`(["cell","many","xs","menu","some","base","at","turn"])|`(35e6)=>`(B.cps.toList.take j++[G]++B.cps.toList.drop (j + 1))|`(35e7)=>`((Zfg CX P w K mg h N qual scope f C A outer s H E))|`(35e8)=>`((qL n).map (List.cons 0)++(qL n).map (List.cons 1))|`(35e9)=>`(fun p hp=>absurd (show p∈([]:2e6) from hp) 2e5)|`(36e0)=>`(s.heap.push { cls:=.type "frame",data:=.dict #[] })|`(36e1)=>`(t { nx:=fun _ H'=>Q .non H',rt:=Q } (start N vs) H)|`(36e2)=>`(⟨v,Wn M H1 H',J.os,J.bare,⟨fun d o e n hb hx=>b.keep d o e (hh d n) hb hx,fun d o e n hb hx=>b.slot d o e (hh d n) hb hx,fun d o e n hx=>?_,b.there,fun d xs e=>?_,fun d o u e=>?_,fun d pz e=>?_⟩,vt J.hok Hn fun c m=>?_,rv,q Hn⟩)|`(36e3)=>`(∀i x zs H (R:12e2),(∀zs H,C (i + 1) zs H->R zs H)->10e7->C i zs H->E (Gp is f (some x)) H fun b H2=>if b=true then d (Gp is f (some x)) H2 fun y J=>R (zs++[y]) J else R zs H2)|`(36e4)=>`(gW (nx:=nxS N v) (b:=((0:Int),List.replicate (Y5 v) (0:Int))) (U:=uni (Y5 v) (lgB v + 1)) (G4.mpr ⟨0,by lia,rfl,Xk.mpr ⟨Qa3,fun x hx=>.inl (Qeq hx)⟩⟩) (fun s hs=>yt S.wc rfl hs) l.length)|`(36e5)=>`(hs i x zs _ (fun zs H=>∃I,I < xs.length - i/\I=xs.length - (i + 1)/\i + 1<=xs.length/\C (i + 1) zs H) (fun zs H q=>⟨xs.length - (i + 1),by lia,rfl,D,q⟩) (y xs (G i zs _ p)) p)|`(36e6)=>`(Zej (nx:=mN nx) (N:=nx.length) (M:=2 ^ n) (fun s l hs hl=>R.mN hs hl) (Ls:=Ls) (S:=[b]) (Qce.mpr ⟨Qa7,Qdj⟩) (fun s hs=>by rw [Qak.mp hs];exact hb) (fun L h=>(hL L h).2))|`(36e7)=>`((Zl G_law_within 3e2 rfl T.aw.m T.aw.F.kp T.aw.b .nil ZI (Zk (Zm Yw (qv 1) Zd) (Zk (Zm Gs (Zm kW (ZL (Zk Zx Ze)) (qv 13)) (Zq Zu (qv 12) Zd 1e6)) (Zk (qv 5) Ze)))))|`(36e8)=>`((Zo (i:=9) Z4.nd rfl 1e7 (Zl D 3e2 rfl T.ah.m T.ah.F.kp T.ah.b .nil ZI (Zk (qv 0) (Zk (Zq Zy (qv 4) (qv 7) 1e6) (Zk (qv 8) (Zk (qv 6) (Zk (qv 3) Ze))))))))|`(36e9)=>`(I.laid (a:=s.heap.objs.size) (o:=.dK []) (h':=s.heap.push { cls:=15e3,data:=.dict #[] }) (t':=s.toks) (fun _ _ q=>Qab _ q) (Qai _) (jR s.heap I.big))|`(37e0)=>`((C.heap.push { cls:=.type "dict_keyiterator",data:=.fields #[.ref a,.int 0 0,.int vs.length 0,.int ep 0] }).IsKeyIter C.heap.objs.size a 0 kvs.length ep)|`(37e1)=>`(codeAny (model P w) callerA (.call 5e1 ⟨[.ref a],[]⟩) (fun r s'=>r=.ok (.ret (.bool true))/\OldK D.heap s'.heap/\s'.os=D.os/\AllBare s'.gens) D)|`(37e2)=>`(Xr ⟨_,rfl,_,_,_,_,rfl,.str y,Gk,_,rfl,Xr ⟨_,rfl,_,rfl,dv,Yg kvs (.inr y),rfl,.inl ⟨kvs,.inr y,.inl (s4 _ _ hd),rfl,rfl⟩,_,rfl,?_⟩⟩)|`(37e3)=>`(∀(i:Nat) (y:Str) (v:V),15e2->cv[i]?=some (some v)->∃c o u,cl.lookup y=some c/\H c=12e6/\o.data=.cell (some u)/\RelV v u)|`(37e4)=>`(⟨ok.mod,ok.kind,ok.glob,ok.blt,ok.above,ok.inj,ok.has,ok.cab,ok.hd,ok.frames,ok.stk,ok.exf,ok.bs,ok.bsz,ok.noex,ok.exfs,ok.funs,ok.frf⟩)|`(37e5)=>`(wpAny_pyNext_range_end 8e5 st (by have:n<=i:=hg;lia) fun h' eb=>⟨rfl,I.turned (t':=s.toks) 30e3 f0 Y D C G⟩)|`(37e6)=>`(⟨_,rfl,p,_,0,_,rfl,rfl,SqL.of C,Z0 0 rfl 1e2,_,rfl,p,_,1,_,rfl,rfl,SqL.of C,Z0 1 rfl l2,_,_,rfl,rfl,k H3 ((G.trans sr).trans D)⟩)|`(37e7)=>`(if (kind == NameKind.free)=true then do let a <-cellOf env name;pure (ForInStep.yield ((name,a)::r)) else pure (ForInStep.yield r))|`(37e8)=>`((Zo (i:=8) Z4.nd rfl 1e7 (Zl G 3e2 rfl T.aj.m T.aj.F.kp T.aj.b .nil ZI (Zk (Zq Zy (qv 1) (qv 7) 1e6) (Zk (qv 2) (Zk Zd Ze))))))|`(37e9)=>`(U2 { nx:=fun _ H'=>Q .non H',rt:=Q } [some (.ref pn),some bv,16e7,some (.ref st),some (.ref C),none,none,none] H3)|`(38e0)=>`(.inr ⟨⟨xs,xs[i],q,by simp [J]⟩,C (i + 1),fun G H' Z=>⟨xs.length - (i + 1),by lia,rfl,J,Z⟩,fun x H' y=>?_⟩)|`(38e1)=>`(⟨fun b o e n hb hx=>?_,fun b o e n hb hx=>?_,I.base.free,fun b o e hx=>?_,I.base.tups,I.base.frzs,I.base.tbls⟩)|`(38e2)=>`((Zk (Zq Zu 8e7 (Zq Zu (qv 2) Zd 1e6) 1e6) (Zk (Zq Zu (Zq Zu (qv 1) Zd 1e6) (Zq Zu (qv 2) Zd 1e6) 1e6) Ze)))|`(38e3)=>`(GP (P:=X.prog) (w:=X.w) (K:=X.K) (tg:=.Name "x" ⟨0,0,0,0⟩) (b1:=b1) (b2:=b2) (zap n) (zof l1) (zof l2))|`(38e4)=>`((if ((lpos.line:Int) == lpos.line && (lpos.col:Int) == lpos.col)=true then some (Value.ref q) else _)=_)|`(38e5)=>`(∀i x σ H,10e7->C i σ H->g x σ H fun I H2=>tb { D with nx:=C (i + 1),ct:=C (i + 1),bk:=D.nx } I H2)|`(38e6)=>`(⟨0,rfl,⟨q.1,C.1⟩,⟨q.2,C.2⟩,fun a b c j h=>?_,fun b c=>?_,fun a b c D h1=>absurd h1 1e2⟩)|`(38e7)=>`(⟨by show (_ && t.ok)=true;rw [P.ok.1];show 11,by show (_ && u.ok)=true;rw [P.ok.2];show 11⟩)|`(38e8)=>`(⟨by show (_ && t.pl)=true;rw [P.pl.1];show 11,by show (_ && u.pl)=true;rw [P.pl.2];show 11⟩)
def Qaa:=@PySem.wpAny_bind
def Qab:=@PySem.Heap.get?_push_of_some
def Qac:=@List.length_map
def Qad:=@PySem.wpAny_pure
def Qae:=@List.length_append
def Qaf:=@List.getElem?_eq_some_iff
def Qag:=@List.getElem?_eq_getElem
def Qah:=@decide_eq_true
def Qai:=@Nat.le_refl
def Qaj:=@List.getElem?_map
def Qak:=@List.mem_singleton
def Qal:=@List.mem_cons_of_mem
def Qam:=@List.mem_of_getElem?
def Qan:=@List.mem_cons
def Qao:=@decide_eq_false
def Qap:=@List.getD_eq_getElem?_getD
def Qaq:=@PySem.Heap.get?_push_size
def Qar:=@List.mem_cons_self
def Qas:=@PySem.Heap.lt_size
def Qat:=@Int.toNat_natCast
def Qau:=@if_neg
def Qav:=@Bool.and_eq_true_iff
def Qaw:=@if_pos
def Qax:=@List.length_range
def Qay:=@List.mem_map
def Qaz:=@List.mem_append
def Qa0:=@Nat.le_of_lt
def Qa1:=@of_decide_eq_true
def Qa2:=@List.getElem?_append_right
def Qa3:=@List.length_replicate
def Qa4:=@List.map_cons
def Qa5:=@List.size_toArray
def Qa6:=@List.length_take
def Qa7:=@List.not_mem_nil
def Qa8:=@Bool.false_ne_true
def Qa9:=@List.getElem?_append_left
def Qba:=@List.mem_append_right
def Qbb:=@Bool.false_eq_true
def Qbc:=@List.map_append
def Qbd:=@Nat.le_trans
def Qbe:=@Nat.zero_le
def Qbf:=@Nat.ne_of_lt
def Qbg:=@PySem.wpAny_newObj_type
def Qbh:=@PySem.wpAny_call_entry
def Qbi:=@List.take_length
def Qbj:=@PySem.F.plainAttrs_list
def Qbk:=@PySem.Heap.get?_update_self
def Qbl:=@Array.length_toList
def Qbm:=@Nat.lt_of_lt_of_le
def Qbn:=@List.lookup_cons
def Qbo:=@PySem.F.slot_list_append
def Qbp:=@PySem.F.type_list_append
def Qbq:=@PySem.PassesOwn.never
def Qbr:=@PySem.Obj.data_mapFields
def Qbs:=@Int.emod_lt_of_pos
def Qbt:=@Bool.and_eq_true
def Qbu:=@List.eq_nil_of_length_eq_zero
def Qbv:=@List.append_nil
def Qbw:=@PySem.Heap.get?_update_other
def Qbx:=@PyProof.Rows.slot_tuple_getitem
def Qby:=@List.mem_map_of_mem
def Qbz:=@Nat.lt_irrefl
def Qb0:=@PySem.Heap.size_push
def Qb1:=@PySem.wpAny_seqItems
def Qb2:=@PySem.wpAny_field
def Qb3:=@List.length_cons
def Qb4:=@PySem.Around.under_plainId
def Qb5:=@List.mem_range
def Qb6:=@List.append_assoc
def Qb7:=@Int.natCast_nonneg
def Qb8:=@PySem.wpAny_setField_rec
def Qb9:=@Int.emod_nonneg
def Qca:=@List.getElem?_range
def Qcb:=@Option.map_eq_some_iff
def Qcc:=@List.take_of_length_le
def Qcd:=@List.mem_append_left
def Qce:=@List.nodup_cons
def Qcf:=@List.map_map
def Qcg:=@List.getElem?_eq_none
def Qch:=@PySem.mem_of_lookup
def Qci:=@PySem.Heap.SameBut.update
def Qcj:=@PySem.W.mg_none_of
def Qck:=@beq_self_eq_true
def Qcl:=@PyProof.Rows.callWith_type1
def Qcm:=@decide_eq_true_iff
def Qcn:=@Int.ediv_one
def Qco:=@List.length_drop
def Qcp:=@List.length_zip
def Qcq:=@Nat.lt_succ_self
def Qcr:=@List.filter_cons
def Qcs:=@PySem.codeAny_builtin
def Qct:=@Nat.lt_succ_of_lt
def Qcu:=@List.drop_eq_getElem_cons
def Qcv:=@PySem.Calls.spliced_cons
def Qcw:=@beq_eq_false_iff_ne
def Qcx:=@PySem.builtinLookup_eq_fast
def Qcy:=@PySem.wpAny_of_eq
def Qcz:=@PySem.Obj.isFreed_of_fields
def Qc0:=@List.length_filter_le
def Qc1:=@List.map_congr_left
def Qc2:=@PySem.wpAny_holding
def Qc3:=@or_false
def Qc4:=@Int.emod_eq_of_lt
def Qc5:=@Nat.mod_two_eq_zero_or_one
def Qc6:=@List.getElem?_of_mem
def Qc7:=@List.mem_of_mem_take
def Qc8:=@PySem.wpAny_Call_Name_kw
def Qc9:=@Nat.lt_or_ge
def Qda:=@PySem.F.plain_max_loop
def Qdb:=@PySem.W.kia_one
def Qdc:=@List.getElem?_zip_eq_some
def Qdd:=@List.replicate_succ
def Qde:=@PySem.wpAny_rule
def Qdf:=@List.foldl_append
def Qdg:=@List.nodup_append
def Qdh:=@List.take_append_drop
def Qdi:=@PySem.wpAny_setField
def Qdj:=@List.nodup_nil
def Qdk:=@Bool.eq_iff_iff
def Qdl:=@List.all_cons
def Qdm:=@PySem.wpAny_mono
def Qdn:=@Nat.pow_le_pow_right
def Qdo:=@List.getElem_mem
def Qdp:=@PySem.wpAny_isInstance
def Qdq:=@Int.pow_succ
def Qdr:=@Int.pow_zero
def Qds:=@PySem.wpAny_truthy_bool
def Qdt:=@List.reverse_cons
def Qdu:=@List.length_reverse
def Qdv:=@PySem.wpAny_attempt
def Qdw:=@PySem.plainId_quiet
def Qdx:=@List.mem_filter
def Qdy:=@List.foldl_cons
def Qdz:=@PySem.wpAny_specialOf
def Qd0:=@PySem.wpAny_updateSeq
def Qd1:=@Int.emod_add_mul_ediv
def Qd2:=@List.filter_append
def Qd3:=@Nat.le_succ
def Qd4:=@List.all_eq_true
def Qd5:=@List.getElem?_replicate
def Qd6:=@PySem.isSubtype_type
def Qd7:=@PySem.Calls.spliced_nil
def Qd8:=@List.flatten_cons
def Qd9:=@bne_self_eq_false
def Qea:=@List.ext_getElem?
def Qeb:=@PySem.typeLookup_type
def Qec:=@List.range_succ
def Qed:=@List.find?_cons
def Qee:=@List.length_nil
def Qef:=@List.idxOf_lt_length_of_mem
def Qeg:=@Nat.not_lt_zero
def Qeh:=@PySem.F.slot_tuple_iterator_next
def Qei:=@List.any_eq_true
def Qej:=@Array.getElem?_toList
def Qek:=@Int.mul_comm
def Qel:=@Ne.symm
def Qem:=@Array.getElem?_eq_getElem
def Qen:=@PySem.wpAny_passesOwn
def Qeo:=@PySem.wpAny_setState_of
def Qep:=@Int.natCast_pow
def Qeq:=@List.eq_of_mem_replicate
def Qer:=@Nat.ne_of_gt
def Qes:=@PySem.codeAny_mono
def Qet:=@Nat.sub_self
def Qeu:=@PySem.wpAny_getItem_str_slice
def Qev:=@PySem.wpAny_setEntries_of
def Qew:=@PySem.F.plain_extend_loop
def Qex:=@List.map_drop
def Qey:=@List.drop_zero
def Qez:=@List.length_pos_of_mem
def Qe0:=@Int.ediv_eq_zero_of_lt
def Qe1:=@PySem.wpAny_pyIter_tuple
def Qe2:=@if_false
def Qe3:=@PySem.wpAny_typeOf
def Qe4:=@List.forIn_cons
def Qe5:=@PySem.wpAny_letGo
def Qe6:=@PySem.F.slot_enumerate_next
def Qe7:=@PySem.F.called_set
def Qe8:=@PySem.F.slot_int_rmul
def Qe9:=@Int.pow_pos
def Qfa:=@List.mem_iff_getElem?
def Qfb:=@PySem.wpAny_pyIter_list
def Qfc:=@PySem.Obj.cls_mapFields
def Qfd:=@List.map_take
def Qfe:=@Int.mul_assoc
def Qff:=@Int.add_mul_emod_self_left
def Qfg:=@Int.emod_eq_emod_iff_emod_sub_eq_zero
def Qfh:=@PySem.wpAny_binaryOp_repeat_ref
def Qfi:=@List.cons_append
def Qfj:=@PySem.F.slot_tuple_mul
def Qfk:=@Nat.le_add_right
def Qfl:=@List.drop_length
def Qfm:=@Nat.succ_le_succ
def Qfn:=@PySem.F.args_tuple_add_2
def Qfo:=@List.map_nil
def Qfp:=@Nat.not_lt
def Qfq:=@Int.emod_one
def Qfr:=@Int.zero_add
def Qfs:=@PyProof.Rows.IsTup.new
def Qft:=@List.of_mem_zip
def Qfu:=@PySem.F.entry_tuple_add
def Qfv:=@Nat.lt_of_le_of_lt
def Qfw:=@PySem.tupleKind_room_in1
def Qfx:=@PyProof.Rows.F.plain_set_update_loop
def Qfy:=@PySem.F.slot_zip_next
def Qfz:=@Nat.min_eq_left
def Qf0:=@Int.ediv_ediv_of_nonneg
def Qf1:=@List.getElem?_take
def Qf2:=@PySem.F.slot_tuple_add
def Qf3:=@PySem.Calls.callWith_builtin
def Qf4:=@PySem.F.entry_max_loop
def Qf5:=@PySem.wpAny_pyIter_slot
def Qf6:=@beq_iff_eq
def Qf7:=@PySem.F.plain_list_iadd
def Qf8:=@PySem.isSubtype_stop
def Qf9:=@List.forIn_nil
def Qga:=@PySem.wpAny_tryCatch
def Qgb:=@PySem.Txt.slice_le
def Qgc:=@Int.ne_of_gt
def Qgd:=@Int.add_mul_ediv_left
def Qge:=@List.getElem_zip
def Qgf:=@PySem.Around.frames_deeper
def Qgg:=@PySem.F.args_object_init_2
def Qgh:=@PySem.Heap.get?_push_cases
def Qgi:=@PySem.wpAny_updateSeq_pair
def Qgj:=@Nat.mul_le_mul_right
def Qgk:=@List.replicate_succ'
def Qgl:=@List.mem_of_mem_drop
def Qgm:=@PySem.Paired.length
def Qgn:=@Bool.or_false
def Qgo:=@List.any_cons
def Qgp:=@PySem.F.args_tuple_iterator_next_1
def Qgq:=@List.dropLast_concat_getLast
def Qgr:=@PySem.typeIs_int
def Qgs:=@PySem.Value.isStrOf_shape
def Qgt:=@List.filterMap_cons
def Qgu:=@PySem.wpAny_execs_nil
def Qgv:=@PySem.sizeLine_eq
def Qgw:=@if_true
def Qgx:=@PySem.post_val_or_str
def Qgy:=@List.getElem_of_mem
def Qgz:=@Option.map_some
def Qg0:=@PySem.F.entry_tuple_iterator_next
def Qg1:=@List.idxOf_cons
def Qg2:=@Int.mul_add
def Qg3:=@Bool.or_eq_true_iff
def Qg4:=@PyProof.Rows.assignInOrder_cons
def Qg5:=@List.mem_filterMap
def Qg6:=@PySem.W.callWith_K
def Qg7:=@PySem.F.args_tuple_mul_2
def Qg8:=@PySem.wpAny_forIn_array'
def Qg9:=@Int.zero_mul
def Qha:=@Int.lt_of_lt_of_le
def Qhb:=@Bool.false_and
def Qhc:=@PySem.wpAny_newTuple
def Qhd:=@PySem.wpAny_fieldsOf
def Qhe:=@List.take_sublist
def Qhf:=@Option.isSome_map
def Qhg:=@List.pairwise_map
def Qhh:=@PySem.fits_of_scanBound
def Qhi:=@List.take_add_one
def Qhj:=@decide_eq_true_eq
def Qhk:=@PySem.wpAny_setEpoch_of
def Qhl:=@PySem.F.entry_tuple_mul
def Qhm:=@PySem.F.args_int_rmul_2
def Qhn:=@Bool.not_true
def Qho:=@PySem.wpAny_mkInt
def Qhp:=@PySem.wpAny_handled
def Qhq:=@PySem.wpAny_onRaise
def Qhr:=@Int.emod_emod
def Qhs:=@PySem.wpAny_pyHash_int
def Qht:=@PySem.noFill_tuple_add
def Qhu:=@PySem.wpAny_askSetting
def Qhv:=@PySem.F.slot_int_index
def Qhw:=@PySem.F.entry_int_rmul
def Qhx:=@List.mem_flatMap
def Qhy:=@Nat.le_of_eq
def Qhz:=@PySem.callType_new
def Qh0:=@PySem.F.fills_int_mul
def Qh1:=@Nat.two_pow_pos
def Qh2:=@Nat.sub_zero
def Qh3:=@Int.add_emod
def Qh4:=@Int.sub_emod
def Qh5:=@PySem.wpAny_call
def Qh6:=@Prod.ext
def Qh7:=@PySem.wpAny_throw
def Qh8:=@Int.one_mul
def Qh9:=@PySem.W.mg_of
variable {i n L:Nat}
variable {a l Y:PySem.Addr}
variable {x:PySem.Str}
variable {e o:PySem.Expr}
variable {N:List PySem.Str}
variable {p A:PySem.Pos}
variable {c Z:PySem.Value}
variable {y G:Int}
variable {S:1e1}
variable {K:PySem.W.Frag}
variable {Q:PySem.Value->PySem.Shared->Prop}
variable {j:Bool}
variable {h:PySem.Heap}
variable {s:PySem.Shared}
variable {m:Type}
variable {P:PySem.Program}
variable {q:PySem.World}
variable {z:List (PySem.Addr × PySem.Obj)}
variable {B:List PySem.Expr}
variable {C:1e5}
variable {D:Array PySem.Value}
variable {J:List PySem.Value}
variable {M:List PySem.Addr}
variable {T:PySem.Obj}
namespace L2
open PySem PySem.Spec PyProof.Rows
abbrev Key:=Sum Int Str
def xK:Key->Value->Bool
 | .inl k,v=>Value.isInt k v
 | .inr x,v=>Value.isStrOf x v
def keyH(w:World):Key->Int
 | .inl k=>hashInt k
 | .inr x=>hashStr w x
theorem Yn:∀{k:Key} {v:Value},xK k v=true->(∃i t,k=Sum.inl i/\v=Value.int i t)\/(∃x t,k=Sum.inr x/\v=Value.str x t)
 | .inl i,v,h=>by
  obtain ⟨t,e⟩:=Value.isInt_shape (k:=i) (v:=v) h;exact .inl ⟨i,t,rfl,e⟩
 | .inr x,v,h=>by
  obtain ⟨t,e⟩:=Qgs (x:=x) (v:=v) h;exact .inr ⟨x,t,rfl,e⟩
theorem Zap(i:Int)(t:Tok):xK (.inl i) (.int i t)=true:=by simp [xK,Value.isInt]
theorem Zaq(x:Str)(t:Tok):xK (.inr x) (.str x t)=true:=by simp [xK,Value.isStrOf]
theorem key_ll(a b:Int):decide ((Sum.inl a:Key)=Sum.inl b)=(a == b):=by
 by_cases e:a=b
 ·subst e;simp
 ·have h:¬(Sum.inl a:Key)=Sum.inl b:=fun q=>e (Sum.inl.inj q)
  rw [Qao h];exact (Qcw.mpr e).symm
theorem key_rr(a b:Str):decide ((Sum.inr a:Key)=Sum.inr b)=decide (a=b):=by
 by_cases e:a=b
 ·subst e;simp
 ·have h:¬(Sum.inr a:Key)=Sum.inr b:=fun q=>e (Sum.inr.inj q)
  rw [Qao h,Qao e]
theorem key_lr(a:Int)(b:Str):decide ((Sum.inl a:Key)=Sum.inr b)=false:=Qao (fun q=>nomatch q)
theorem key_rl(a:Str)(b:Int):decide ((Sum.inr a:Key)=Sum.inl b)=false:=Qao (fun q=>nomatch q)
def ZD(prog:Program)(w:World):PySem.KeyKind prog w Key where
 is:=xK
 hash:=keyH w
 inj:=fun v a b ha hb=>by
  rcases Yn ha with ⟨i,t,rfl,rfl⟩ | ⟨x,t,rfl,rfl⟩
  ·rcases Yn hb with ⟨j,u,rfl,e⟩ | ⟨y,u,rfl,e⟩
   ·injection e with e1 _;rw [e1]
   ·exact nomatch e
  ·rcases Yn hb with ⟨j,u,rfl,e⟩ | ⟨y,u,rfl,e⟩
   ·exact nomatch e
   ·injection e with e1 _;rw [e1]
 byValue:=fun k v h=>by
  rcases Yn h with ⟨i,t,rfl,rfl⟩ | ⟨x,t,rfl,rfl⟩ <;> rfl
 pyHash:=fun hv h=>by
  rcases Yn hv with ⟨i,t,rfl,rfl⟩ | ⟨x,t,rfl,rfl⟩
  ·exact Qhs h
  ·exact wpAny_pyHash_str h
 eqBool:=fun hu hv h=>by
  rcases Yn hu with ⟨i,t,rfl,rfl⟩ | ⟨x,t,rfl,rfl⟩
  ·rcases Yn hv with ⟨j,u,rfl,rfl⟩ | ⟨y,u,rfl,rfl⟩
   ·rw [key_ll] at h;exact wpAny_eqBool_int h
   ·rw [key_lr] at h;exact SeqAt.EqAt.int_str i t y u _ _ _ _ h
  ·rcases Yn hv with ⟨j,u,rfl,rfl⟩ | ⟨y,u,rfl,rfl⟩
   ·rw [key_rl] at h;exact SeqAt.EqAt.str_int x t j u _ _ _ _ h
   ·rw [key_rr] at h;exact wpAny_eqBool_str h
 «strs»:=fun k x t v h=>by
  rcases Yn h with ⟨i,u,rfl,e⟩ | ⟨y,u,rfl,e⟩
  ·exact nomatch e
  ·injection e with e1 _
   subst e1;cases v <;> rfl
theorem ux(prog:Program)(w:World)(k:Key)(v:Value):(ZD prog w).is k v=xK k v:=rfl
theorem kj(prog:Program)(w:World)(i:Int)(t:Tok):(ZD prog w).is (.inl i) (.int i t)=true:=Zap i t
theorem Gg(prog:Program)(w:World)(x:Str)(t:Tok):(ZD prog w).is (.inr x) (.str x t)=true:=Zaq x t
inductive V where
 | non | bl (b:Bool) | int (i:Int) | str (x:Str) | byt (b:Array UInt8) | flt (b:UInt64) | ref (a:Addr) | ty (n:String)
 deriving DecidableEq
def RelV:V->Value->Prop
 | .non,u=>u=Value.none
 | .bl b,u=>u=Value.bool b
 | .int i,u=>∃t,u=Value.int i t
 | .str x,u=>∃t,u=Value.str x t
 | .byt b,u=>∃t,u=Value.bytes b t
 | .flt b,u=>∃t,u=Value.float b t
 | .ref a,u=>u=Value.ref a
 | .ty n,u=>u=Value.type n
abbrev Vals:List V->2e0->Prop:=Paired RelV
theorem Vals.length{xs:List V}{q:2e0}(r:Vals xs q):xs.length=q.length:=Qgm r
theorem Vals.get:∀{xs:List V} {q:2e0} {i:Nat} {x:V},Vals xs q->10e7->∃u,q[i]?=some u/\RelV x u
 | _,_,_,_,.nil,e=>by simp at e
 | _,_,0,_,.cons r _,e=>by simp at e;subst e;exact ⟨_,rfl,r⟩
 | _,_,i + 1,x,.cons _ t,e=>by
  obtain ⟨u,h1,h2⟩:=Vals.get (i:=i) (x:=x) t (by simpa using e);exact ⟨u,by simpa using h1,h2⟩
theorem Vals.append:∀{xs ys:List V} {C q:2e0},Vals xs C->Vals ys q->Vals (xs++ys) (C++q)
 | _,_,_,_,.nil,s=>s
 | _,_,_,_,.cons r t,s=>.cons r (Vals.append t s)
theorem Vals.take:∀{xs:List V} {q:2e0} (n:Nat),Vals xs q->Vals (xs.take n) (q.take n)
 | _,_,0,_=>.nil
 | _,_,_ + 1,.nil=>.nil
 | _,_,n + 1,.cons r t=>.cons r (Vals.take n t)
theorem Vals.drop:∀{xs:List V} {q:2e0} (n:Nat),Vals xs q->Vals (xs.drop n) (q.drop n)
 | _,_,0,r=>r
 | _,_,_ + 1,.nil=>.nil
 | _,_,n + 1,.cons _ t=>Vals.drop n t
def yG:5e6->7e9->Prop
 | some v,some u=>RelV v u
 | none,none=>True
 | _,_=>False
def KV:List (m × V)->List (m × Value)->Prop:=Paired fun (p:m × V) (q:m × Value)=>p.1=q.1/\RelV p.2 q.2
def kV:Key->V
 | .inl i=>.int i
 | .inr x=>.str x
inductive HO where
 /-- a list -/
 | lst (xs:List V)
 /-- a tuple (never changes) -/
 | tup (xs:List V)
 /-- a dict whose keys are ints and texts; one whose keys are tuples of ints and texts (the empty one is both) -/
 | dK (kvs:4e4) | dT (kvs:19e0)
 /-- a set of ints: its members, its size -/
 | set (S:Int->Bool) (n:Nat)
 /-- an instance of the class at C, its dict at dx, its attributes -/
 | ins (C dx:Addr) (fs:List (Str × V))
 /-- the dict of the instance at x -/
 | own (x:Addr)
 /-- the dict of an exception -/
 | xd (fs:List (Str × V))
 /-- a bound method, f of x -/
 | met (f x:Addr)
 /-- a range object lo, lo + 1, .. below hi -/
 | rng (lo hi:Int)
 /-- a thing that is known to the object (the script; a dict while a loop walks it): read, never written while it is so -/
 | frz (o:Obj) (u:HO)
 /-- a code object's table -/
 | tbl (ps:4e5)
 /-- any other thing, by what is true of its one object (a def of one's own: SetO a S n := HO.ext fun h => ..) -/
 | ext (φ:Heap->Prop)
abbrev Hp:=Addr->Option HO
def upd(H:Hp)(a:Addr)(o:HO):Hp:=fun b=>if b=a then some o else H b
theorem Za{H:Hp}{o:HO}:upd H a o a=some o:=by unfold upd;rw [Qaw rfl]
theorem Zh{H:Hp}{b:Addr}{o:HO}(h:b≠a):upd H a o b=H b:=by unfold upd;rw [Qau h]
theorem Gh{H:Hp}{o u:HO}:upd (upd H a o) a u=upd H a u:=by
 funext b;unfold upd;split <;> rfl
theorem Xn{H:Hp}{b:Addr}{o u:HO}(h:H a=some o)(h':H b=some u)(d:o≠u):a≠b:=by
 intro e;subst e;rw [h] at h';exact d (Option.some.inj h')
theorem Zj{H:Hp}{b:Addr}{o:HO}(h:H a=some o)(h':H b=none):a≠b:=by
 intro e;subst e;rw [h] at h';cases h'
section
variable (P:Program)(w:World)
def Yo(H:Hp)(h:Heap)(a:Addr):HO->Prop
 | .lst xs=>14e4/\∃(D:2e0) (n:Nat),Vals xs D/\h.get? a=some { cls:=5e2,data:=.seq D.toArray n }
 | .tup xs=>14e4/\∃D:2e0,Vals xs D/\IsTup h a D.toArray
 | .dK kvs=>33e3
 | .dT kvs=>24e5/\27e1/\∃xs:23e2,
   Paired (fun (p:List Key × V) (q:List Key × Addr × Value)=>p.1=q.1/\H q.2.1=some (.tup (p.1.map kV))/\RelV p.2 q.2.2) kvs xs /\
   ∃o es ep,14e8/\o.ExactDict/\o.data=.dict es ep/\es.toList=xs.map (entryOfKey (tupleKind (ZD P w)))/\(xs.map (·.1)).Nodup
 | .set S n=>h.SetOf (intKind P w) a S n
 | .ins C dx fs=>H dx=some (.own a)/\fs.length<=1000/\dx≠a/\h.get? a=some (PySem.W.instObj C dx) /\
   ∃mA,h.Ns1 dx mA/\(∀f,yG (fs.lookup f) (mA f))/\PySem.Within mA (fs.map (·.1))
 | .own _=>∃o,14e8
 | .xd fs=>∃mA,h.Ns1 a mA/\∀f,yG (fs.lookup f) (mA f)
 | .rng lo hi=>∃t u v,h.get? a=some 25e0
 | .frz o u=>14e8/\Yo H h a u
 | .tbl ps=>h.get? a=some { cls:=.none,data:=.fields ps }
 | .met f x=>h.get? a=some (PySem.W.methodObj (.ref f) (.ref x))
 | .ext φ=>φ h/\(∃o,14e8)/\∀h1 h2:Heap,φ h1->(∀o,h1.get? a=some o->h2.get? a=some o)->φ h2
def HOk(H:Hp)(h:Heap):Prop:=∀a o,H a=some o->Yo P w H h a o
end
section
variable {P:Program}{w:World}{H H':Hp}{h h':Heap}{a:Addr}{o:HO}
theorem Yo.lt(x:Yo P w H h a o):a < h.objs.size:=by
 cases o with
 | lst xs=>obtain ⟨_,_,_,_,e⟩:=x;exact Qas e
 | tup xs=>obtain ⟨_,_,_,p⟩:=x;exact p.lt
 | dK kvs=>obtain ⟨_,_,_,_,o,_,_,e,_⟩:=x;exact Qas e
 | dT kvs=>obtain ⟨_,_,_,_,o,_,_,e,_⟩:=x;exact Qas e
 | set S n=>obtain ⟨o,_,_,_,e,_⟩:=x;exact Qas e
 | ins C dx fs=>obtain ⟨_,_,_,e,_⟩:=x;exact Qas e
 | own y=>obtain ⟨_,e⟩:=x;exact Qas e
 | xd fs=>obtain ⟨_,⟨_,_,_,e,_⟩,_⟩:=x;exact Qas e
 | rng lo hi=>obtain ⟨_,_,_,e⟩:=x;exact Qas e
 | frz ob u=>obtain ⟨e,_⟩:=x;exact Qas e
 | tbl ps=>exact Qas (show h.get? a=some _ from x)
 | met f y=>exact Qas (show h.get? a=some _ from x)
 | ext φ=>obtain ⟨_,⟨_,e⟩,_⟩:=x;exact Qas e
theorem Paired.mapP{α β:Type}{F G:α->β->Prop}:∀{q:List α} {C:List β},Paired F q C->(∀a b,F a b->G a b)->Paired G q C
 | _,_,.nil,_=>.nil
 | _,_,.cons r t,f=>.cons (f _ _ r) (Paired.mapP t f)
theorem Yo.stay(x:Yo P w H h a o)(k:∀b u,(b=a\/H b=some (.own a))->23e1)
  (ho:∀b,H b=some (.own a)->H' b=some (.own a)) (G:13e4):Yo P w H' h' a o:=by
 induction o with
 | lst xs=>obtain ⟨z,D,n,r,e⟩:=x;exact ⟨z,D,n,r,k _ _ (.inl rfl) e⟩
 | tup xs=>obtain ⟨z,D,r,ob,e,c⟩:=x;exact ⟨z,D,r,ob,k _ _ (.inl rfl) e,c⟩
 | dK kvs=>obtain ⟨z,y,vs,r,ob,es,ep,e,c⟩:=x;exact ⟨z,y,vs,r,ob,es,ep,k _ _ (.inl rfl) e,c⟩
 | dT kvs =>
  obtain ⟨z,y,xs,r,ob,es,ep,e,c⟩:=x;exact ⟨z,y,xs,Paired.mapP r fun p q z=>⟨z.1,G _ _ z.2.1,z.2.2⟩,ob,es,ep,k _ _ (.inl rfl) e,c⟩
 | set S n=>obtain ⟨ob,es,ep,t,e,c⟩:=x;exact ⟨ob,es,ep,t,k _ _ (.inl rfl) e,c⟩
 | ins C dx fs =>
  obtain ⟨d,z,ne,e,mA,⟨od,es,ep,e2,c⟩,r⟩:=x;exact ⟨ho _ d,z,ne,k _ _ (.inl rfl) e,mA,⟨od,es,ep,k _ _ (.inr d) e2,c⟩,r⟩
 | own y=>obtain ⟨ob,e⟩:=x;exact ⟨ob,k _ _ (.inl rfl) e⟩
 | xd fs=>obtain ⟨mA,⟨od,es,ep,e,c⟩,r⟩:=x;exact ⟨mA,⟨od,es,ep,k _ _ (.inl rfl) e,c⟩,r⟩
 | rng lo hi=>obtain ⟨t,u,v,e⟩:=x;exact ⟨t,u,v,k _ _ (.inl rfl) e⟩
 | frz ob u I=>obtain ⟨e,q⟩:=x;exact ⟨k _ _ (.inl rfl) e,I q⟩
 | tbl ps =>
  have e:h.get? a=some { cls:=.none,data:=.fields ps }:=x;show h'.get? a=some { cls:=.none,data:=.fields ps };exact k a _ (.inl rfl) e
 | met f y =>
  have e:h.get? a=some (PySem.W.methodObj (.ref f) (.ref y)):=x;show h'.get? a=some (PySem.W.methodObj (.ref f) (.ref y));exact k a _ (.inl rfl) e
 | ext φ=>obtain ⟨p,⟨o,e⟩,st⟩:=x;exact ⟨st _ _ p fun o q=>k _ _ (.inl rfl) q,⟨o,k _ _ (.inl rfl) e⟩,st⟩
theorem HOk.lt(x:12e5)(e:H a=some o):a < h.objs.size:=(x a o e).lt
theorem HOk.fresh(x:12e5)(e:h.objs.size<=a):H a=none:=by
 cases q:H a with
 | none=>rfl
 | some u=>exact absurd (Qbm (x.lt q) e) (Qbz _)
theorem HOk.kept(x:12e5)(k:∀b u,23e1):HOk P w H h':=fun a o e =>
 (x a o e).stay (fun b u _ q=>k b u q) (fun _ q=>q) fun _ _ q=>q
theorem HOk.laid(x:12e5)(k:∀b u,23e1)(hp:h.objs.size<=a)(C:Yo P w (upd H a o) h' a o):HOk P w (upd H a o) h':=fun b u e=>by
 have hn:=x.fresh hp
 by_cases hb:b=a
 ·subst hb;rw [Za] at e;cases e;exact C
 ·rw [Zh hb] at e
  exact (x b u e).stay (fun c v _ q=>k c v q) (fun c q=>by rw [Zh (Zj q hn)];exact q) fun c xs q=>by rw [Zh (Zj q hn)];exact q
end
def Rd(H:Hp)(a:Addr)(u:HO):Prop:=H a=some u\/∃o,H a=some (.frz o u)
theorem Rd.ok{w:World}{H:Hp}{u:HO}(r:Rd H a u)(x:12e5):Yo P w H h a u:=by
 rcases r with r | ⟨o,r⟩
 ·exact x a u r
 ·obtain ⟨_,q⟩:=x a _ r
  exact q
def Mut:Option HO->Prop
 | some (.lst _)=>True
 | some (.dK _)=>True
 | some (.dT _)=>True
 | some (.set _ _)=>True
 | some (.ins _ _ _)=>True
 | some (.ext _)=>True
 | _=>False
section
variable {P:Program}{w:World}{H:Hp}{h h':Heap}{x e:Addr}{o':HO}
theorem HOk.write(ok:12e5)(I:Mut (H x))(he:e=x\/H e=some (.own x))(k:∀b u,b≠e->23e1)(J:∃u,h'.get? e=some u)
  (O:Yo P w (upd H x o') h' x o'):HOk P w (upd H x o') h':=fun b u q=>by
 have D:∀c y,H c=some (.own y)->c≠x:=fun c y r z=>by subst z;rw [r] at I;exact I
 have G:∀c xs,H c=2e2->c≠x:=fun c xs r z=>by subst z;rw [r] at I;exact I
 by_cases hb:b=x
 ·subst hb;rw [Za] at q;cases q;exact O
 ·rw [Zh hb] at q
  by_cases C:b=e
  ·have q':H b=some (.own x):=by
    rcases he with z | z
    ·exact absurd (C.trans z) hb
    ·rw [C];exact z
   rw [q] at q';cases q';obtain ⟨v,hv⟩:=J;exact ⟨v,by rw [C];exact hv⟩
  ·refine (ok b u q).stay (fun c v hc r=>k c v ?_ r) (fun c r=>by rw [Zh (D c b r)];exact r) fun c xs r=>by rw [Zh (G c xs r)];exact r
   rcases hc with rfl | hc
   ·exact C
   ·rintro rfl
    rcases he with z | z
    ·exact D c b hc z
    ·rw [hc] at z;cases z;exact hb rfl
end
structure Un(fs ex:5e0)(H H':Hp)(h h':Heap):Prop where
 keep:∀b o,17e8->H b=none->b∉fs->b∉ex->h'.get? b=some o
 slot:∀b o,17e8->H b=none->b∈fs->b∉ex->∃sl,h'.get? b=some { o with slots:=sl }
 free:∀b o,17e8->H b=none->b∉ex->H' b=none
 there:∀b o,17e8->b∉ex->∃o',h'.get? b=some o'
 tups:13e4
 frzs:∀b o u,H b=some (.frz o u)->H' b=some (.frz o u)
 tbls:∀b ps,H b=some (.tbl ps)->∃more,H' b=some (.tbl (ps++more))
section
variable {fs fs' ex ex':5e0}{H H1 H2:Hp}{h h1 h2 h':Heap}{a x e:Addr}{o:HO}
theorem Un.any(u:Un fs ex H H1 h h1){b:Addr}(q:h.get? b=some T)(n:H b=none)(hx:b∉ex):∃C,h1.get? b=some { T with slots:=C }:=by
 by_cases hb:b∈fs
 ·exact u.slot b T q n hb hx
 ·exact ⟨T.slots,u.keep b T q n hb hx⟩
theorem Un.kept(k:∀b u,23e1):Un fs ex H H h h' :=
 ⟨fun b ob q _ _ _=>k b ob q,fun b ob q _ _ _=>⟨ob.slots,k b ob q⟩,fun _ _ _ n _=>n,fun b ob q _=>⟨ob,k b ob q⟩,fun _ _ q=>q,fun _ _ _ q=>q,fun _ ps q=>⟨#[],by rw [q];simp⟩⟩
theorem Un.refl:Un fs ex H H h h:=Un.kept fun _ _ q=>q
theorem Un.laid(k:∀b u,23e1)(hp:h.objs.size<=a)(hn:H a=none):Un fs ex H (upd H a o) h h' where
 keep:=fun b u q _ _ _=>k b u q
 slot:=fun b u q _ _ _=>⟨u.slots,k b u q⟩
 free:=fun b u q n _=>by rw [Zh (Qbf (Qbm (Qas q) hp))];exact n
 there:=fun b u q _=>⟨u,k b u q⟩
 tups:=fun b xs q=>by rw [Zh (Zj q hn)];exact q
 frzs:=fun b u xs q=>by rw [Zh (Zj q hn)];exact q
 tbls:=fun b ps q=>⟨#[],by rw [Zh (Zj q hn),q];simp⟩
theorem Un.write(D:Mut (H x))(he:e=x\/H e=some (.own x))(k:∀b u,b≠e->23e1)(G:∃u,h'.get? e=some u):Un fs ex H (upd H x o) h h':=by
 have hx:∀b,H b=none->b≠x:=fun b n z=>by subst z;rw [n] at D;exact D
 have hb:∀b,H b=none->b≠e:=fun b n z=>by
  subst z;rcases he with r | r
  ·exact hx b n r
  ·rw [n] at r;cases r
 have hm:∀b u,H b=some u->¬Mut (some u)->b≠x:=fun b u q nm z=>by subst z;rw [q] at D;exact nm D
 refine ⟨fun b u q n _ _=>k b u (hb b n) q,fun b u q n _ _=>⟨u.slots,k b u (hb b n) q⟩,fun b u q n _=>by rw [Zh (hx b n)];exact n,fun b u q _=>?_,
  fun b xs q=>by rw [Zh (hm b _ q fun z=>z)];exact q,fun b u xs q=>by rw [Zh (hm b _ q fun z=>z)];exact q,fun b ps q=>⟨#[],by rw [Zh (hm b _ q fun z=>z),q];simp⟩⟩
 by_cases C:b=e
 ·subst C;exact G
 ·exact ⟨u,k b u C q⟩
end
def trk(h:Heap)(H:Hp):5e0:=(List.range h.objs.size).filter fun a=>(H a).isSome
def Zar(h:Heap)(H:Hp):Heap:=PySem.W.hideAll h (trk h H)
theorem Zas(h:Heap)(H:Hp):(Zar h H).objs.size=h.objs.size:=PySem.W.hideAll_size _ _
theorem Ze9{H:Hp}{b:Addr}{o:Obj}(e:17e8)(n:H b=none):(Zar h H).get? b=some o :=
 PySem.W.hideAll_get _ e fun hm=>by
  have q:(H b).isSome=true:=(Qdx.mp hm).2;rw [n] at q;simp at q
theorem Zi4{H:Hp}{b:Addr}{o:Obj}(e:(Zar h H).get? b=some o):17e8/\H b=none:=by
 have C:17e8:=PySem.W.of_hideAll (trk h H) e;refine ⟨C,?_⟩;cases q:H b with
 | none=>rfl
 | some x =>
  have hm:b∈trk h H:=Qdx.mpr ⟨Qb5.mpr (Qas C),by simp [q]⟩;have z:(Zar h H).get? b=none:=PySem.W.hideAll_none (trk h H) hm;rw [z] at e;cases e
structure Mod(K:PySem.W.Frag)(mg:2e9)(base:Heap):Prop where
 kin:K.In base
 glob:base.Ns mainGlobals mg
 blt:∃mb,base.Ns builtinsNs mb/\∀x:Str,17e6 -> mb x=17e9
 nolimit:base.NoLimit
set_option genInjectivity false in
set_option genSizeOfSpec false in
structure Cx where
 prog:Program
 w:World
 K:PySem.W.Frag
 mg:2e9
 base:Heap
 A:Around
 N:1e3
 s₀:Shared
 H₀:Hp
 env:Env
 outer:8e6
 stack:8e6
 ex:5e0
 fn:Str->Bool
 calm:Bool
 pn:2e6
 xe:1e9
def frs(l:8e6):5e0:=l.filterMap (·.frame)
abbrev Cx.fs(X:Cx):5e0:=frs X.outer
def Vis(q:Scope)(x:Str):Prop:=q.names.lookup x=11e5\/q.names.lookup x=9e0\/q.names.lookup x=10e0
def Loc(q:Scope)(x:Str):Prop:=q.names.lookup x=11e5\/q.names.lookup x=9e0
def Look(env:Env)(h:Heap)(m:2e9)(x:Str)(u:Value):Prop :=
 (env.kindOf x=11e5/\m x=some u)\/((env.kindOf x=9e0\/env.kindOf x=10e0)/\∃c,env.cells.lookup x=some c/\h.IsCell c (some u))
set_option genInjectivity false in
set_option genSizeOfSpec false in
structure Cx.Ok(X:Cx):Prop where
 mod:Mod X.K X.mg X.base
 kind:X.env.scope.kind=.function
 glob:X.env.globals=mainGlobals
 blt:X.env.builtins=builtinsNs
 above:X.s₀.heap.objs.size<=X.env.locals
 inj:∀x y c,14e1->X.env.cells.lookup y=some c->x=y
 has:∀x,(X.env.kindOf x=9e0\/X.env.kindOf x=10e0)->∃c,14e1
 cab:∀x c,X.fn x=true->14e1->X.s₀.heap.objs.size<=c
 hd:9e9->X.A.handled=none
 frames:X.A.frames=some X.stack
 stk:X.stack=X.outer\/(X.stack=X.env::X.outer/\X.env.frame=some X.env.locals)
 exf:∀b∈X.ex,b≠X.env.locals/\∀x c,14e1->c≠b
 bs:∀b o,X.base.get? b=some o->X.s₀.heap.get? b=some o/\X.H₀ b=none
 bsz:X.base.objs.size<=X.s₀.heap.objs.size
 noex:∀b o,X.base.get? b=some o->b∉X.ex
 exfs:∀b∈X.ex,b∉X.fs
 funs:X.s₀.heap.FunFrames X.base X.outer
 frf:∀b∈X.fs,X.H₀ b=none
structure Inv(X:Cx)(pins:2e6)(σ:List (5e6))(H:Hp)(s:Shared):Prop where
 ok:X.Ok
 os:s.os=X.s₀.os
 bare:AllBare s.gens
 base:Un X.fs X.ex X.H₀ H X.s₀.heap s.heap
 loc:∃m,s.heap.Ns X.env.locals m/\∀(i:Nat) (x:Str) (v:V),14e9->σ[i]?=some (some v)->Vis X.env.scope x->∃u,RelV v u/\Look X.env s.heap m x u
 cell:∀x c,14e1->∃v,s.heap.IsCell c v
 free:H X.env.locals=none
 freeC:∀x c,14e1->H c=none
 pin:∀p∈X.pn++pins,s.heap.get? p.1=some p.2/\H p.1=none/\p.1≠X.env.locals/\p.1∉X.fs/\∀v,p.2.data≠.cell v
 hok:HOk X.prog X.w H s.heap
 len:σ.length=X.N.length
section
variable {X:Cx}{pins:2e6}{σ:List (5e6)}{H H':Hp}{s:Shared}{h':Heap}
theorem Cx.Ok.nofr(ok:X.Ok){b:Addr}{o:Obj}(e:X.base.get? b=some o):b∉X.fs:=fun hb=>by
 have:=(ok.funs.mem hb).1;rw [e] at this;cases this
theorem Inv.bs(I:2e1):∀b o,X.base.get? b=some o->5e7=some o/\H b=none:=fun b o e =>
 ⟨I.base.keep b o (I.ok.bs b o e).1 (I.ok.bs b o e).2 (I.ok.nofr e) (I.ok.noex b o e),I.base.free b o (I.ok.bs b o e).1 (I.ok.bs b o e).2 (I.ok.noex b o e)⟩
theorem Inv.bk(I:2e1):∀b o,X.base.get? b=some o->5e7=some o:=fun b o e=>(I.bs b o e).1
theorem Inv.mod(I:2e1):Mod X.K X.mg X.base:=I.ok.mod
theorem Inv.kIn(I:2e1):X.K.In s.heap:=I.ok.mod.kin.keeps I.bk
theorem Inv.lt(I:2e1):X.env.locals < s.heap.objs.size:=let ⟨_,hn,_⟩:=I.loc;hn.lt
theorem Inv.sz(I:2e1):X.s₀.heap.objs.size<=s.heap.objs.size:=Qbd I.ok.above (Qa0 I.lt)
theorem Inv.nofs(I:2e1)(h:s.heap.objs.size<=a):a∉X.fs:=fun hb=>by
 obtain ⟨_,o,ho,_⟩:=I.ok.funs.mem hb;exact absurd (Qbm (Qas ho) (Qbd I.sz h)) (Qbz _)
theorem Inv.cne(I:2e1):∀x c,14e1->c≠X.env.locals:=fun x c e z=>by
 obtain ⟨v,o,ho,hd⟩:=I.cell x c e;obtain ⟨m,⟨o',es,ep,q,C,_⟩,_⟩:=I.loc;rw [z,q] at ho;cases ho;rw [C] at hd;cases hd
theorem Inv.funs(I:2e1):s.heap.FunFrames X.base X.outer:=by
 have all:∀(l:8e6),(∀b∈frs l,b∈X.fs)->X.s₀.heap.FunFrames X.base l->s.heap.FunFrames X.base l:=by
  intro l
  induction l with
  | nil=>intro _ _;trivial
  | cons env r C =>
   intro hs hl;obtain ⟨hk,⟨L,o,hf,hn,ho,hd⟩,hr⟩:=hl;have q:L∈X.fs:=hs L (by unfold frs;rw [Qgt,hf];exact Qar);obtain ⟨D,e⟩:=I.base.slot L o ho (I.ok.frf L q) q fun z=>I.ok.exfs L z q;exact ⟨hk,⟨L,_,hf,hn,e,hd⟩,C (fun b hb=>hs b (by unfold frs;rw [Qgt,hf];exact Qal _ hb)) hr⟩
 exact all X.outer (fun _ hb=>hb) I.ok.funs
theorem Inv.stack(I:2e1):s.heap.FunFrames X.base X.stack:=by
 rcases I.ok.stk with e | ⟨e,hf⟩
 ·rw [e];exact I.funs
 ·rw [e]
  obtain ⟨m,hn,_⟩:=I.loc;refine .cons (by rw [I.ok.kind];decide) hf hn ?_ I.funs;exact Heap.get?_none_of_le (Qbd I.ok.bsz I.ok.above)
theorem Inv.stkSub(I:2e1):∀b∈frs X.stack,b∈X.env.locals::X.fs:=fun b hb=>by
 rcases I.ok.stk with e | ⟨e,hf⟩
 ·rw [e] at hb;exact Qal _ hb
 ·rw [e] at hb
  unfold frs at hb;rw [Qgt,hf] at hb;exact hb
theorem Inv.stkFree(I:2e1):∀b∈frs X.stack,H b=none:=fun b hb=>by
 rcases Qan.mp (I.stkSub b hb) with e | hb
 ·rw [e];exact I.free
 ·obtain ⟨_,o,ho,_⟩:=I.ok.funs.mem hb
  exact I.base.free b o ho (I.ok.frf b hb) fun z=>I.ok.exfs b z hb
theorem Inv.step{g':Array GenState}{t':Nat}{d':Drawn}{ch:5e0}(I:2e1)
  (G:33e1)
  (keep:∀b o,b≠X.env.locals->b∉X.fs->b∉ch->5e7=some o->H b=none->h'.get? b=some o)
  (slot:∀b o,b≠X.env.locals->b∈X.fs->b∉ch->5e7=some o->H b=none->∃sl,h'.get? b=some { o with slots:=sl }) (free:∀b o,b∉ch->5e7=some o->H b=none->H' b=none)
  (O:∀b o,b∉ch->5e7=some o->∃o',h'.get? b=some o')
  (tups:13e4) (Z:∀b o u,H b=some (.frz o u)->H' b=some (.frz o u)) (tbls:∀b ps,H b=some (.tbl ps)->∃more,H' b=some (.tbl (ps++more)))
  (ns:∀m,s.heap.Ns X.env.locals m->h'.Ns X.env.locals m) (hok:HOk X.prog X.w H' h') (hg:AllBare g') :
  Inv X pins σ H' { s with heap:=h',gens:=g',drawn:=d',toks:=t' }:=by
 have Y:∀b o,X.s₀.heap.get? b=some o->b≠X.env.locals:=fun b o e=>Qbf (Qbm (Qas e) I.ok.above);have J:∀b o,X.s₀.heap.get? b=some o->b∉X.ex->b∉ch:=fun b o e hx hb=>by
  rcases (G b hb).1 with z | z
  ·exact hx z
  ·exact absurd (Qbm (Qas e) z) (Qbz _)
 have C:∀x c,14e1->∀v,s.heap.IsCell c v->h'.IsCell c v:=fun x c e v ⟨o,ho,hd⟩=>by
  have D:c∉ch:=fun z=>(G c z).2.2.1 x c e rfl
  by_cases hc:c∈X.fs
  ·obtain ⟨sl,q⟩:=slot c o (I.cne x c e) hc D ho (I.freeC x c e)
   exact ⟨_,q,hd⟩
  ·exact ⟨o,keep c o (I.cne x c e) hc D ho (I.freeC x c e),hd⟩
 refine ⟨I.ok,I.os,hg,⟨fun b o e n hb hx=>?_,fun b o e n hb hx=>?_,fun b o e n hx=>?_,fun b o e hx=>?_,fun b xs e=>tups b xs (I.base.tups b xs e),fun b o xs e=>Z b o xs (I.base.frzs b o xs e),fun b ps e=>?_⟩,?_,fun x c e=>?_,?_,fun x c e=>?_,fun p hp=>?_,hok,I.len⟩
 ·exact keep b o (Y b o e) hb (J b o e hx) (I.base.keep b o e n hb hx) (I.base.free b o e n hx)
 ·obtain ⟨sl,e1⟩:=I.base.slot b o e n hb hx
  obtain ⟨sl',e2⟩:=slot b _ (Y b o e) hb (J b o e hx) e1 (I.base.free b o e n hx);exact ⟨sl',e2⟩
 ·obtain ⟨o',e1⟩:=I.base.there b o e hx
  exact free b o' (J b o e hx) e1 (I.base.free b o e n hx)
 ·obtain ⟨o',e1⟩:=I.base.there b o e hx
  exact O b o' (J b o e hx) e1
 ·obtain ⟨m1,e1⟩:=I.base.tbls b ps e
  obtain ⟨m2,e2⟩:=tbls b _ e1;exact ⟨m1++m2,by rw [e2,Array.append_assoc]⟩
 ·obtain ⟨m,hn,hl⟩:=I.loc
  refine ⟨m,ns m hn,fun i x v e1 e2 e3=>?_⟩;obtain ⟨u,r,l⟩:=hl i x v e1 e2 e3;refine ⟨u,r,?_⟩;rcases l with l | ⟨k,c,e,z⟩
  ·exact .inl l
  ·exact .inr ⟨k,c,e,C x c e _ z⟩
 ·obtain ⟨v,z⟩:=I.cell x c e
  exact ⟨v,C x c e v z⟩
 ·obtain ⟨m,⟨o,_,_,ho,_⟩,_⟩:=I.loc
  exact free _ o (fun z=>(G _ z).2.1 rfl) ho I.free
 ·obtain ⟨v,o,ho,hd⟩:=I.cell x c e
  exact free c o (fun z=>(G c z).2.2.1 x c e rfl) ho (I.freeC x c e)
 ·obtain ⟨e,n,ne,nf,d⟩:=I.pin p hp
  have D:p.1∉ch:=fun z=>(G p.1 z).2.2.2 p hp rfl;exact ⟨keep p.1 p.2 ne nf D e n,free p.1 p.2 D e n,ne,nf,d⟩
theorem Inv.un{t':Nat}(I:2e1)(u:Un X.fs [] H H' s.heap h')(G:HOk X.prog X.w H' h'):Inv X pins σ H' 23e7:=by
 obtain ⟨m,⟨o,es,ep,ho,r⟩,_⟩:=id I.loc;obtain ⟨Y,O⟩:=u.any ho I.free 2e5;exact I.step (g':=s.gens) (d':=s.drawn) (ch:=[]) (7e8) (fun b o _ hb _ e n=>u.keep b o e n hb 2e5) (fun b o _ hb _ e n=>u.slot b o e n hb 2e5) (fun b o _ e n=>u.free b o e n 2e5) (fun b o _ e=>u.there b o e 2e5) u.tups u.frzs u.tbls (fun Z hm=>by
  obtain ⟨o',D,C,q,J⟩:=hm;rw [ho] at q;cases q;exact ⟨_,D,C,O,J⟩) G I.bare
theorem Inv.call{g':Array GenState}{t':Nat}{d':Drawn}{ch:5e0}(I:2e1)(u:Un (frs X.stack) ch H H' s.heap h')(J:HOk X.prog X.w H' h')(hg:AllBare g')
  (C:33e1) :
  Inv X pins σ H' { s with heap:=h',gens:=g',drawn:=d',toks:=t' }:=by
 obtain ⟨m,⟨o,es,ep,ho,r⟩,_⟩:=id I.loc;obtain ⟨Z,O⟩:=u.any ho I.free fun z=>(C _ z).2.1 rfl;exact I.step (ch:=ch) C (fun b o O hb hc e n=>u.keep b o e n (fun z=>(Qan.mp (I.stkSub b z)).elim O hb) hc) (fun b o _ _ hc e n=>u.any e n hc) (fun b o hc e n=>u.free b o e n hc) (fun b o hc e=>u.there b o e hc) u.tups u.frzs u.tbls (fun m' hm=>by
  obtain ⟨o',G,D,q,Y⟩:=hm;rw [ho] at q;cases q;exact ⟨_,G,D,O,Y⟩) J hg
theorem Inv.turned{t':Nat}{it:Addr}(I:2e1)(k:∀b o,b≠it->11e6)(hn:H it=none)(D:it≠X.env.locals)
  (h1:it∈X.ex\/X.s₀.heap.objs.size<=it) (h2:∀x c,14e1->c≠it) (G:∀p∈X.pn++pins,p.1≠it):Inv X pins σ H 23e7:=by
 have C:∀b u,H b=some u->b≠it:=fun b u e z=>by rw [z,hn] at e;cases e
 refine I.step (g':=s.gens) (d':=s.drawn) (ch:=[it]) (10e8) (fun b o _ _ hc e _=>k b o (fun z=>hc (by simp [z])) e) (fun b o _ _ hc e _=>⟨o.slots,k b o (fun z=>hc (by simp [z])) e⟩) (fun _ _ _ _ n=>n)
  (fun b o hc e=>⟨o,k b o (fun z=>hc (by simp [z])) e⟩) (fun _ _ e=>e) (fun _ _ _ e=>e) (fun b ps e=>⟨#[],by rw [e];simp⟩) (fun m hm=>?_) (fun b u e=>?_) I.bare
 ·have e:b=it:=6e6
  subst e;exact ⟨h1,D,h2,G⟩
 ·obtain ⟨o,es,ep,ho,r⟩:=hm
  exact ⟨o,es,ep,k _ o (Qel D) ho,r⟩
 ·refine (I.hok b u e).stay (fun c v hc q=>k c v ?_ q) (fun _ q=>q) fun _ _ q=>q
  rcases hc with z | z
  ·rw [z];exact C b u e
  ·exact C c _ z
theorem Inv.tok(I:2e1)(t:Nat):Inv X pins σ H { s with toks:=t }:=I.un (h':=s.heap) (t':=t) Un.refl I.hok
theorem Inv.kept{t':Nat}(I:2e1)(k:∀b u,5e7=some u->h'.get? b=some u):Inv X pins σ H 23e7:=I.un (Un.kept k) (I.hok.kept k)
theorem Inv.laid{a:Addr}{o:HO}{t':Nat}(I:2e1)(k:∀b u,5e7=some u->h'.get? b=some u)(hp:s.heap.objs.size<=a)(q:Yo X.prog X.w (upd H a o) h' a o) :
  Inv X pins σ (upd H a o) 23e7:=I.un (Un.laid k hp (I.hok.fresh hp)) (I.hok.laid k hp q)
theorem Inv.write{x e:Addr}{o:HO}{t':Nat}(I:2e1)(D:Mut (H x))(he:e=x\/H e=some (.own x))(k:∀b u,b≠e->5e7=some u->h'.get? b=some u)(q:∃u,h'.get? e=some u)
  (C:Yo X.prog X.w (upd H x o) h' x o):Inv X pins σ (upd H x o) 23e7:=I.un (Un.write D he k q) (I.hok.write D he k q C)
theorem Inv.pins_of{q:2e6}(I:2e1)(h:∀p∈q,s.heap.get? p.1=some p.2/\H p.1=none/\p.1≠X.env.locals/\p.1∉X.fs/\∀v,p.2.data≠.cell v):Inv X q σ H s :=
 ⟨I.ok,I.os,I.bare,I.base,I.loc,I.cell,I.free,I.freeC,fun p hp=>(Qaz.mp hp).elim (fun z=>I.pin p (Qcd _ z)) (h p),I.hok,I.len⟩
theorem gb(hN:N.Nodup){j:Nat}(a:N[i]?=some x)(b:N[j]?=some x):i=j:=by
 obtain ⟨h1,e1⟩:=Qaf.mp a;obtain ⟨h2,e2⟩:=Qaf.mp b;exact (List.getElem_inj hN).mp (e1.trans e2.symm)
theorem Zat{M:Model}{A:Around}{E:1e9}{v:V}{u:Value}{Q:Unit->3e3}(I:2e1)(hN:X.N.Nodup)(hi:14e9)(hx:Loc X.env.scope x)(r:RelV v u)
  (h:∀s',Inv X pins (σ.set i (some v)) H s'->(∃a,Heap.SameBut a s.heap s'.heap/\(a=X.env.locals\/X.env.cells.lookup x=some a))->Q () s') (hf:X.fn x=true\/20e9:=by first | exact 6e4 | exact .inr rfl | assumption):wpAny M A (storeName X.env x u) Q E s:=by
 obtain ⟨m,hn,hl⟩:=id I.loc;have hcls:(X.env.scope.kind == .class || (X.env.scope.kind == .module && X.env.locals != X.env.globals))=false:=by rw [I.ok.kind];rfl
 have G:i < σ.length:=by rw [I.len];exact (Qaf.mp hi).1
 have cne:=I.cne;have C:∀{a:Addr} {h':Heap},(∃o,s.heap.get? a=some o/\H a=none)->Heap.SameBut a s.heap h'->HOk X.prog X.w H h':=fun {a h'} ha hs b ob e=>by
  obtain ⟨_,_,D⟩:=ha;refine (I.hok b ob e).stay (fun c w' hc q=>(hs.2 c ?_).trans q) (fun _ q=>q) fun _ _ q=>q;rintro rfl;rcases hc with rfl | hc
  ·rw [D] at e;cases e
  ·rw [D] at hc;cases hc
 rcases hx with hk | hk
 ·refine wpAny_storeName_local hk hn (fun h' hn' hs=>?_) hcls
  obtain ⟨oL,_,_,hoL,_⟩:=id hn;refine h _ ⟨I.ok,I.os,I.bare,38e1,⟨_,hn',fun j y v' e1 e2 e3=>?_⟩,fun y c e=>?_,I.free,I.freeC,fun p hp=>?_,C ⟨oL,hoL,I.free⟩ hs,by simpa using I.len⟩ ⟨_,hs,6e4⟩
  ·exact (hs.2 b (Qbf (Qbm (Qas e) I.ok.above))).trans (I.base.keep b o e n hb hx)
  ·obtain ⟨sl,e1⟩:=I.base.slot b o e n hb hx
   exact ⟨sl,(hs.2 b (Qbf (Qbm (Qas e) I.ok.above))).trans e1⟩
  ·obtain ⟨o',e1⟩:=I.base.there b o e hx
   exact ⟨o',(hs.2 b (Qbf (Qbm (Qas e) I.ok.above))).trans e1⟩
  ·by_cases J:j=i
   ·subst J
    rw [hi] at e1;cases e1;rw [List.getElem?_set_self G] at e2;cases e2;exact ⟨u,r,.inl ⟨hk,by simp⟩⟩
   ·rw [List.getElem?_set_ne (Qel J)] at e2
    obtain ⟨u',r',q⟩:=hl j y v' e1 e2 e3;refine ⟨u',r',?_⟩;rcases q with ⟨k,e⟩ | ⟨k,c,e,z⟩
    ·refine .inl ⟨k,?_⟩
     have:y≠x:=fun e=>J (gb hN e1 (e ▸ hi));simp [this,e]
    ·exact .inr ⟨k,c,e,z.sameBut hs (cne y c e)⟩
  ·obtain ⟨w',z⟩:=I.cell y c e
   exact ⟨w',z.sameBut hs (cne y c e)⟩
  ·obtain ⟨e,n,ne,nf,d⟩:=I.pin p hp
   exact ⟨(hs.2 p.1 ne).trans e,n,ne,nf,d⟩
 ·have O:X.fn x=true:=by
   rcases hf with z | z
   ·exact z
   ·rw [z] at hk;cases hk
  obtain ⟨c,hc⟩:=I.ok.has x (.inl hk);obtain ⟨w',z⟩:=I.cell x c hc;refine wpAny_storeName_cell I.ok.kind hk hc z (fun h' hc' hs=>?_);obtain ⟨oc,hoc,Y⟩:=id z;refine h 7e0 ⟨I.ok,I.os,I.bare,38e1,⟨m,hn.sameBut hs (Qel (cne x c hc)),fun j y v' e1 e2 e3=>?_⟩,fun y c' e=>?_,I.free,I.freeC,fun p hp=>?_,C ⟨oc,hoc,I.freeC x c hc⟩ hs,by simpa using I.len⟩ ⟨c,hs,.inr hc⟩
  ·exact (hs.2 b (Qbf (Qbm (Qas e) (I.ok.cab x c O hc)))).trans (I.base.keep b o e n hb hx)
  ·obtain ⟨sl,e1⟩:=I.base.slot b o e n hb hx
   exact ⟨sl,(hs.2 b (Qbf (Qbm (Qas e) (I.ok.cab x c O hc)))).trans e1⟩
  ·obtain ⟨o',e1⟩:=I.base.there b o e hx
   exact ⟨o',(hs.2 b (Qbf (Qbm (Qas e) (I.ok.cab x c O hc)))).trans e1⟩
  ·by_cases J:j=i
   ·subst J
    rw [hi] at e1;cases e1;rw [List.getElem?_set_self G] at e2;cases e2;exact ⟨u,r,.inr ⟨.inl hk,c,hc,hc'⟩⟩
   ·rw [List.getElem?_set_ne (Qel J)] at e2
    obtain ⟨u',r',q⟩:=hl j y v' e1 e2 e3;refine ⟨u',r',?_⟩;rcases q with q | ⟨k,c',e,z'⟩
    ·exact .inl q
    ·refine .inr ⟨k,c',e,z'.sameBut hs ?_⟩
     rintro rfl;exact J (gb hN e1 (I.ok.inj _ _ _ e hc ▸ hi))
  ·by_cases Z:c'=c
   ·subst Z;exact ⟨_,hc'⟩
   ·obtain ⟨w2,z2⟩:=I.cell y c' e
    exact ⟨w2,z2.sameBut hs Z⟩
  ·obtain ⟨e,n,ne,nf,d⟩:=I.pin p hp
   refine ⟨(hs.2 p.1 ?_).trans e,n,ne,nf,d⟩;intro q;rw [q,hoc] at e;have q':oc=p.2:=Option.some.inj e;exact d w' (by rw [<-q'];exact Y)
theorem Wu{M:Model}{A:Around}{E:1e9}{v:V}{u:Value}{Q:Unit->3e3}(I:2e1)(hN:X.N.Nodup)(hi:14e9)(hx:Loc X.env.scope x)(r:RelV v u)
  (h:∀s',Inv X pins (σ.set i (some v)) H s'->Q () s') (hf:X.fn x=true\/20e9:=by first | exact 6e4 | exact .inr rfl | assumption):wpAny M A (storeName X.env x u) Q E s :=
 Zat I hN hi hx r (fun s' q _=>h s' q) hf
theorem Inv.call'{s':Shared}{ch:5e0}(I:2e1)(ho:s'.os=s.os)(u:Un (frs X.stack) ch H H' s.heap s'.heap)(C:HOk X.prog X.w H' s'.heap)(hg:AllBare s'.gens)
  (q:33e1):19e1:=by
 obtain ⟨h',g',d',t',o'⟩:=s';have e:o'=s.os:=ho;subst e;exact I.call (g':=g') (t':=t') (d':=d') u C hg q
end
abbrev XK:=Value->Option Addr->1e8
abbrev St:=List (5e6)
abbrev VK:=V->1e8
abbrev TE:=St->Hp->VK->Prop
abbrev TT:=St->Hp->(Bool->1e8)->Prop
abbrev TA:=St->Hp->(12e2)->Prop
structure Ends where
 nx:4e2
 rt:VK
 bk:4e2:=16e4
 ct:4e2:=16e4
abbrev TS:=Ends->4e2
inductive EP_i(X:Cx)(pins:2e6)(σ:St)(Q:VK)(u:Value)(s':Shared):Prop
 | mk (v H':_):(19e1)->(RelV v u)->(Q v H')->EP_i X pins σ Q u s'
def EP(X:Cx)(pins:2e6)(σ:St)(Q:VK)(u:Value)(s':Shared):Prop:=EP_i X pins σ Q u s'
inductive TP_i(X:Cx)(pins:2e6)(σ:St)(Q:Bool->1e8)(b:Bool)(s':Shared):Prop
 | mk (H':_):(19e1)->(Q b H')->TP_i X pins σ Q b s'
def TP(X:Cx)(pins:2e6)(σ:St)(Q:Bool->1e8)(b:Bool)(s':Shared):Prop:=TP_i X pins σ Q b s'
inductive AP_i(X:Cx)(pins:2e6)(σ:St)(Q:12e2)(us:2e0)(s':Shared):Prop
 | mk (vs H':_):(19e1)->(Vals vs us)->(Q vs H')->AP_i X pins σ Q us s'
def AP(X:Cx)(pins:2e6)(σ:St)(Q:12e2)(q:2e0)(s':Shared):Prop:=AP_i X pins σ Q q s'
def SP(X:Cx)(pins:2e6)(D:Ends)(f:Flow)(s':Shared):Prop :=
 match f with
 | .next=>∃q H',Inv X pins q H' s'/\D.nx q H'
 | .brk=>∃q H',Inv X pins q H' s'/\D.bk q H'
 | .cont=>∃q H',Inv X pins q H' s'/\D.ct q H'
 | .ret u=>∃v q H',Inv X pins q H' s'/\RelV v u/\D.rt v H'
def PE(X:Cx)(e:Expr)(t:TE):Prop :=
 ∀(pins:2e6) (s:Shared) (σ:St) (H:Hp) (Q:VK),2e1->t σ H Q->wpAny 3e0 X.A (eval e X.env) 17e5 X.xe s
def PT(X:Cx)(e:Expr)(t:TT):Prop :=
 ∀(pins:2e6) (s:Shared) (σ:St) (H:Hp) (Q:Bool->1e8),2e1->t σ H Q->wpAny 3e0 X.A (isTrue e X.env (eval e X.env)) (TP X pins σ Q) X.xe s
def PW(X:Cx)(e:Expr)(t:TT):Prop :=
 ∀(q:Sem Value) (pins:2e6) (s:Shared) (σ:St) (H:Hp) (Q:Bool->1e8),2e1->t σ H Q->wpAny 3e0 X.A (isTrue e X.env q) (TP X pins σ Q) X.xe s
theorem PW.pt{X:Cx}{t:TT}(h:PW X e t):PT X e t:=h _
def PA(X:Cx)(es:5e4)(t:TA):Prop :=
 ∀(pos:Pos) (pins:2e6) (s:Shared) (σ:St) (H:Hp) (Q:12e2),2e1->t σ H Q->wpAny 3e0 X.A (spliced (29e8)) (AP X pins σ Q) X.xe s
def PS(X:Cx)(st:Stmt)(t:TS):Prop :=
 ∀(pins:2e6) (s:Shared) (σ:St) (H:Hp) (D:Ends),2e1->t D σ H->wpAny 3e0 X.A (exec st X.env) (SP X pins D) X.xe s
def PSs(X:Cx)(st:List Stmt)(t:TS):Prop :=
 ∀(pins:2e6) (s:Shared) (σ:St) (H:Hp) (D:Ends),2e1->t D σ H->wpAny 3e0 X.A (execs st X.env) (SP X pins D) X.xe s
theorem thn{t:Sem m}{Q q:m->3e3}{M:Model}{A:Around}{E:1e9}(h:wpAny M A t Q E s)(C:∀a s,Q a s->q a s):wpAny M A t q E s:=Qdm h C fun _ _ x=>x
section
variable {X:Cx}
inductive Zg9(i:Nat)(σ:St)(H:Hp)(Q:VK):Prop
 | mk (v:_):(σ[i]?=some (some v))->(Q v H)->Zg9 i σ H Q
def Zau(i:Nat):TE:=fun σ H Q=>Zg9 i σ H Q
def tC(v:V):TE:=fun _ H Q=>Q v H
theorem Zha    (hN:14e9) (hv:Vis X.env.scope x) (hd:9e5:=by decide) (hcd:32e8:=by decide):PE X 11e4 (Zau i):=by
 show 13;obtain ⟨v,e,h⟩:=h;obtain ⟨m,hn,hl⟩:=I.loc;obtain ⟨u,r,l⟩:=hl i x v hN e hv;have fin:EP X pins σ Q u s:=⟨v,H,I,r,h⟩;rcases l with ⟨hk,hm⟩ | ⟨hk,c,hc,q⟩
 ·exact wpAny_Name (wpAny_loadName_local I.ok.kind hk hn hm fin) hd
 ·rcases hk with hk | hk
  ·exact wpAny_Name (wpAny_loadName_cell I.ok.kind hk hc q fin) hd
  ·exact wpAny_Name (wpAny_loadName_free I.ok.kind hk hc q fin hcd) hd
theorem pe_int{i j pos:_}:PE X (.Constant (.int i) j pos) (tC (.int i)):=fun _ _ _ H _ I h=>wpAny_Constant_int ⟨.int i,H,I.tok _,8e1,h⟩
theorem pe_bl{b j pos:_}:PE X (.Constant (.bool b) j pos) (tC (.bl b)):=fun _ _ _ H _ I h=>Constant_bool ⟨.bl b,H,I,rfl,h⟩
theorem pe_non{j pos:_}:PE X (.Constant .none j pos) (tC .non):=fun _ _ _ H _ I h=>Constant_none ⟨.non,H,I,rfl,h⟩
theorem pe_str{x j pos:_}:PE X (.Constant (.str x) j pos) (tC (.str x)):=fun _ _ _ H _ I h=>Calls.Constant_str ⟨.str x,H,I.tok _,8e1,h⟩
def Gl(X:Cx)(x:Str):Prop:=X.env.kindOf x=some .globalImplicit
theorem jG{E:1e9}{σ:St}{H:Hp}{u:Value}(I:Inv X z σ H s)(hg:Gl X x)(hm:X.mg x=some u)(h:Q u s)
  (hd:9e5:=by decide):wpAny 3e0 X.A (eval 11e4 X.env) Q E s :=
 Calls.Name_function_global I.ok.kind hg (Calls.loadGlobal_global (by rw [I.ok.glob];exact I.mod.glob.keeps I.bk) hm h) hd
theorem JN{E:1e9}{σ:St}{H:Hp}{u:Value}(I:Inv X z σ H s)(hg:Gl X x)(hm:X.mg x=none)(hv:17e9=some u)(h:Q u s)
  (hn:17e6 := by decide) (hd:9e5:=by decide):wpAny 3e0 X.A (eval 11e4 X.env) Q E s:=by
 obtain ⟨q,h1,h2⟩:=I.mod.blt;exact Calls.Name_function_global I.ok.kind hg (Calls.loadGlobal_builtin (by rw [I.ok.glob];exact I.mod.glob.keeps I.bk) hm (by rw [I.ok.blt];exact h1.keeps I.bk) ((h2 x hn).trans hv) h) hd
theorem Zi5  {v:V} {u:Value}  (hg:Gl X x) (hm:X.mg x=some u) (r:RelV v u) (hd:9e5:=by decide):PE X 11e4 (tC v) :=
 fun _ _ _ H _ I h=>jG I hg hm ⟨v,H,I,r,h⟩ hd
theorem Zi6  {v:V} {u:Value}  (hg:Gl X x) (hm:X.mg x=none) (hv:17e9=some u) (r:RelV v u) (hn:17e6 := by decide) (hd:9e5:=by decide):PE X 11e4 (tC v) :=
 fun _ _ _ H _ I h=>JN I hg hm hv ⟨v,H,I,r,h⟩ hn hd
variable {a b:Expr}{ta tb:TE}{pos:Pos}
inductive tB_i(Q:Bool->1e8)(x:V)(H1:Hp):Prop
 | mk (c:_):(x=.bl c)->(Q c H1)->tB_i Q x H1
def tB(t:TE):TT:=fun σ H Q=>t σ H fun x H1=>tB_i Q x H1
theorem pt_val{t:TE}(h:PE X e t)(he:∀C,isTrue e X.env C=(do let v <-C;standAt e.pos;holding [v] (truthy v)):=by intro _;rfl):PT X e (tB t):=by
 intro pins s σ H Q I hw;refine isTrue_plain (thn (h pins s σ H _ I hw) fun v O ⟨x,H1,G,J,D⟩=>?_) (he _);obtain ⟨d,rfl,q⟩:=D;cases J;exact Qds ⟨H1,G,q⟩
variable {tA tB':TT}{rest:5e4}
def tAnd(t u:TT):TT:=fun σ H Q=>t σ H fun c H1=>if c=true then u σ H1 Q else Q false H1
def tOr(t u:TT):TT:=fun σ H Q=>t σ H fun c H1=>if c=true then Q true H1 else u σ H1 Q
def tNot(t:TT):TT:=fun σ H Q=>t σ H fun c H1=>Q (!c) H1
theorem Zi7(ha:PT X a tA):PW X (.BoolOp .And [a] pos) tA:=by
 intro C pins s σ H Q I h;refine isTrue_and (thn (ha pins s σ H Q I h) fun c q e=>?_);cases c with
 | true=>exact isTrue_and_nil e
 | false=>exact e
theorem pw_or1(ha:PT X a tA):PW X (.BoolOp .Or [a] pos) tA:=by
 intro C pins s σ H Q I h;refine isTrue_or (thn (ha pins s σ H Q I h) fun c q e=>?_);cases c with
 | false=>exact isTrue_or_nil e
 | true=>exact e
theorem pw_and(ha:PT X a tA)(hb:PW X (.BoolOp .And (b::rest) pos) tB'):PW X (.BoolOp .And (a::b::rest) pos) (tAnd tA tB'):=by
 intro G pins s σ H Q I h;refine isTrue_and (thn 21e6 fun c D ⟨H1,q,C⟩=>?_);cases c with
 | true=>exact hb G pins D σ H1 Q q C
 | false=>exact ⟨H1,q,C⟩
theorem pw_or(ha:PT X a tA)(hb:PW X (.BoolOp .Or (b::rest) pos) tB'):PW X (.BoolOp .Or (a::b::rest) pos) (tOr tA tB'):=by
 intro G pins s σ H Q I h;refine isTrue_or (thn 21e6 fun c D ⟨H1,q,C⟩=>?_);cases c with
 | true=>exact ⟨H1,q,C⟩
 | false=>exact hb G pins D σ H1 Q q C
theorem pt_not(ha:PT X a tA):PT X (.UnaryOp .Not a pos) (tNot tA):=by
 show 13;exact isTrue_not (thn (ha pins s σ H (fun c H1=>Q (!c) H1) I h) fun c D ⟨H1,C,q⟩=>⟨H1,C,q⟩)
inductive Zav(tb:TE)(σ:St)(Q:VK)(x:V)(H1:Hp):Prop
 | mk (c:_):(x=.bl c)->(if c=true then tb σ H1 Q else Q (.bl false) H1)->Zav tb σ Q x H1
def Zly(ta tb:TE):TE:=fun σ H Q=>ta σ H fun x H1=>Zav tb σ Q x H1
inductive Zhb(tb:TE)(σ:St)(Q:VK)(x:V)(H1:Hp):Prop
 | mk (c:_):(x=.bl c)->(if c=true then Q 8e9 H1 else tb σ H1 Q)->Zhb tb σ Q x H1
def tOrV(ta tb:TE):TE:=fun σ H Q=>ta σ H fun x H1=>Zhb tb σ Q x H1
inductive Zaw(Q:VK)(x:V)(H1:Hp):Prop
 | mk (c:_):(x=.bl c)->(Q (.bl (!c)) H1)->Zaw Q x H1
def Zlz(ta:TE):TE:=fun σ H Q=>ta σ H fun x H1=>Zaw Q x H1
theorem pe_one{q:_}{t:TE}(h:PE X a t):PE X (.BoolOp q [a] pos) t:=fun pins s σ H Q I hw=>BoolOp_one (h pins s σ H Q I hw)
theorem pe_and(ha:PE X a ta)(hb:PE X (.BoolOp .And (b::rest) pos) tb):PE X (.BoolOp .And (a::b::rest) pos) (Zly ta tb):=by
 show 13;refine BoolOp_and (thn 21e6 fun v D ⟨x,H1,C,G,q⟩=>?_);obtain ⟨c,rfl,q⟩:=q;cases G;refine Qds ?_;cases c with
 | true=>exact hb pins D σ H1 Q C q
 | false=>exact ⟨.bl false,H1,C,rfl,q⟩
theorem pe_or(ha:PE X a ta)(hb:PE X (.BoolOp .Or (b::rest) pos) tb):PE X (.BoolOp .Or (a::b::rest) pos) (tOrV ta tb):=by
 show 13;refine BoolOp_or (thn 21e6 fun v D ⟨x,H1,C,G,q⟩=>?_);obtain ⟨c,rfl,q⟩:=q;cases G;refine Qds ?_;cases c with
 | false=>exact hb pins D σ H1 Q C q
 | true=>exact ⟨.bl true,H1,C,rfl,q⟩
theorem pe_not(ha:PE X a ta):PE X (.UnaryOp .Not a pos) (Zlz ta):=by
 show 13;refine UnaryOp_ (thn 21e6 fun v G ⟨x,H1,C,D,q⟩=>?_);obtain ⟨c,rfl,q⟩:=q;cases D;exact not_of (Qds ⟨.bl (!c),H1,C,rfl,q⟩)
end
def SqL(K:PySem.W.Frag)(H:Hp)(a:Addr)(xs:List V):Prop :=
 Rd H a (.lst xs) \/
  ∃(o:Obj) (q:4e5) (n:Nat),K.lookup a=some o/\o.cls=5e2 /\ o.dict=none/\o.data=.seq q n/\q.size<=sizeLine/\Vals xs q.toList
def SqT(K:PySem.W.Frag)(H:Hp)(a:Addr)(xs:List V):Prop :=
 Rd H a (.tup xs) \/
  ∃(o:Obj) (q:4e5) (n:Nat),K.lookup a=some o/\o.cls=4e8 /\ o.data=.seq q n/\q.size<=sizeLine/\Vals xs q.toList
def absV:Value->5e6
 | .none=>some .non
 | .bool b=>some (.bl b)
 | .int i _=>some (.int i)
 | .str x _=>some (.str x)
 | .bytes b _=>some (.byt b)
 | .float b _=>some (.flt b)
 | .ref a=>some 3e1
 | .type n=>some (.ty n)
 | _=>none
theorem RelV.abs{x:V}{u:Value}(r:RelV x u):absV u=some x:=by
 cases x with
 | non=>cases r;rfl
 | bl _=>cases r;rfl
 | int _=>obtain ⟨t,rfl⟩:=r;rfl
 | str _=>obtain ⟨t,rfl⟩:=r;rfl
 | byt _=>obtain ⟨t,rfl⟩:=r;rfl
 | flt _=>obtain ⟨t,rfl⟩:=r;rfl
 | ref _=>cases r;rfl
 | ty _=>cases r;rfl
theorem RelV.inj{x y:V}{u:Value}(r:RelV x u)(q:RelV y u):x=y:=Option.some.inj (r.abs.symm.trans q.abs)
theorem Vals.inj:∀{xs ys:List V} {q:2e0},Vals xs q->Vals ys q->xs=ys
 | _,_,_,.nil,.nil=>rfl
 | _,_,_,.cons r t,.cons C t'=>by rw [r.inj C,Vals.inj t t']
section
variable {X:Cx}{pins:2e6}{σ:St}{H:Hp}{s:Shared}{a:Addr}{xs ys:List V}
theorem SqL.of(h:H a=16e5):15e4:=.inl (.inl h)
theorem SqT.of(h:H a=2e2):10e5:=.inl (.inl h)
theorem Inv.list(I:2e1)(h:SqL X.K H a xs):∃q:2e0,Vals xs q/\PlainL s.heap a q.toArray/\14e4:=by
 rcases h with h | ⟨o,q,n,hk,hc,hd,hs,hz,r⟩
 ·obtain ⟨z,q,n,r,e⟩:=h.ok I.hok
  exact ⟨q,r,⟨_,n,e,rfl,rfl,rfl⟩,z⟩
 ·refine ⟨q.toList,r,⟨o,n,I.kIn a o hk,hc,hd,by simpa using hs⟩,?_⟩
  have e:=r.length;simp only [Qbl] at e;lia
theorem Inv.tuple(I:2e1)(h:SqT X.K H a xs):∃q:2e0,Vals xs q/\IsTup s.heap a q.toArray/\14e4:=by
 rcases h with h | ⟨o,q,n,hk,hc,hs,hz,r⟩
 ·obtain ⟨z,q,r,p⟩:=h.ok I.hok
  exact ⟨q,r,p,z⟩
 ·refine ⟨q.toList,r,⟨o,I.kIn a o hk,hc,n,by simpa using hs⟩,?_⟩
  have e:=r.length;simp only [Qbl] at e;lia
theorem Inv.list_inj(I:2e1)(h:SqL X.K H a xs)(h':SqL X.K H a ys):xs=ys:=by
 obtain ⟨q,r,⟨o,n,e,_,_,d⟩,_⟩:=I.list h;obtain ⟨its',D,⟨o',G,C,_,_,d'⟩,_⟩:=I.list h';rw [e] at C;cases C;rw [d] at d';injection d' with d1 _;have:q=its':=by simpa using congrArg Array.toList d1
 subst this;exact r.inj D
theorem Inv.tuple_inj(I:2e1)(h:SqT X.K H a xs)(h':SqT X.K H a ys):xs=ys:=by
 obtain ⟨q,r,⟨o,e,_,n,d⟩,_⟩:=I.tuple h;obtain ⟨its',D,⟨o',C,_,G,d'⟩,_⟩:=I.tuple h';rw [e] at C;cases C;rw [d] at d';injection d' with d1 _;have:q=its':=by simpa using congrArg Array.toList d1
 subst this;exact r.inj D
end
abbrev Cx.wish(X:Cx)(E:1e9):Cx:={ X with xe:=E }
abbrev Cx.nox(X:Cx):Cx:=X.wish 16e4
theorem Cx.Ok.wish{X:Cx}(ok:X.Ok)(E:1e9):(X.wish E).Ok :=
 37e4
theorem Cx.Ok.unwish{X:Cx}{E:1e9}(ok:(X.wish E).Ok):X.Ok :=
 37e4
section
variable {X:Cx}{pins:2e6}{σ:St}{H:Hp}{s:Shared}{E:1e9}
theorem Inv.wish(I:2e1)(E:1e9):Inv (X.wish E) pins σ H s:=⟨I.ok.wish E,I.os,I.bare,I.base,I.loc,I.cell,I.free,I.freeC,I.pin,I.hok,I.len⟩
theorem Inv.unwish(I:Inv (X.wish E) pins σ H s):2e1:=⟨I.ok.unwish,I.os,I.bare,I.base,I.loc,I.cell,I.free,I.freeC,I.pin,I.hok,I.len⟩
theorem SP.unwish{D:Ends}{f:Flow}{s':Shared}(h:SP (X.wish E) pins D f s'):SP X pins D f s':=by
 cases f with
 | next=>obtain ⟨C,H',I,q⟩:=h;exact ⟨C,H',I.unwish,q⟩
 | brk=>obtain ⟨C,H',I,q⟩:=h;exact ⟨C,H',I.unwish,q⟩
 | cont=>obtain ⟨C,H',I,q⟩:=h;exact ⟨C,H',I.unwish,q⟩
 | ret u=>obtain ⟨v,C,H',I,r,q⟩:=h;exact ⟨v,C,H',I.unwish,r,q⟩
theorem PSs.nox{st:List Stmt}{t:TS}(h:PSs X.nox st t):PSs X st t:=fun pins s σ H D I hw =>
 Qdm (h pins s σ H D (I.wish _) hw) (fun _ _ q=>q.unwish) fun _ _ z=>False.elim z
end
section
variable {X:Cx}{st:Stmt}{rest:List Stmt}{t u:TS}{e:Expr}{te:TE}{pos:Pos}
def Zl0:TS:=fun D σ H=>D.nx σ H
def YG(t u:TS):TS:=fun D σ H=>t { D with nx:=u D } σ H
theorem Zi8:PSs X [] Zl0:=fun _ _ σ H _ I h=>Qgu ⟨σ,H,I,h⟩
theorem Zfa(h1:PS X st t)(h2:PSs X rest u):PSs X (st::rest) (YG t u):=by
 show 17;refine wpAny_execs_cons (thn (h1 pins s σ H { D with nx:=u D } I h) fun f G q=>?_);cases f with
 | next =>
  obtain ⟨C,H',J,q⟩:=q;exact h2 pins G C H' D J q
 | ret v=>exact q
 | brk=>exact q
 | cont=>exact q
theorem Zi9(h1:PS X st t):PSs X [st] t:=by
 show 17;refine wpAny_execs_cons (thn (h1 pins s σ H D I h) fun f C q=>?_);cases f with
 | next=>exact Qgu q
 | ret v=>exact q
 | brk=>exact q
 | cont=>exact q
theorem Inv.quiet{σ:St}{H:Hp}(I:Inv X z σ H s):interactive X.env=false:=by simp [interactive,I.ok.kind]
def Zl1(te:TE):TS:=fun D σ H=>te σ H fun _ H1=>D.nx σ H1
theorem Zja(he:PE X e te)(hs:swapsWith e none pos.line X.env=pure false:=by rfl):PS X (.Expr e pos) (Zl1 te):=by
 show 17;exact wpAny_Expr_any (thn (he pins s σ H _ I h) fun v G ⟨x,H1,q,J,C⟩=>⟨σ,H1,q,C⟩) I.quiet hs
def tRet(te:TE):TS:=fun D σ H=>te σ H D.rt
theorem ps_ret(he:PE X e te):PS X (.Return (some e) pos) (tRet te):=by
 show 17;exact wpAny_Return_some (thn (he pins s σ H _ I h) fun v J ⟨x,H1,q,G,C⟩=>⟨x,σ,H1,q,G,C⟩)
def tIfS(c:TT)(t u:TS):TS:=fun D σ H=>c σ H fun b H1=>if b=true then t D σ H1 else u D σ H1
theorem ps_if{c:Expr}{a b:List Stmt}{tc:TT}(hc:PT X c tc)(ha:PSs X a t)(hb:PSs X b u):PS X (.If c a b pos) (tIfS tc t u):=by
 show 17;refine wpAny_If (thn (hc pins s σ H _ I h) fun d q ⟨H1,G,C⟩=>?_);cases d with
 | true=>exact ha pins q σ H1 D G C
 | false=>exact hb pins q σ H1 D G C
def Zhc:TS:=fun _ _ _=>False
theorem Zfb:PS X st Zhc:=fun _ _ _ _ _ _ h=>h.elim
end
abbrev TG:=V->St->Hp->(4e2)->Prop
abbrev TGs:=List V->St->Hp->(4e2)->Prop
def PG(X:Cx)(q:Expr)(t:TG):Prop :=
 ∀(pins:2e6) (s:Shared) (σ:St) (H:Hp) (v:V) (u:Value) (Q:4e2),2e1->RelV v u->t v σ H Q ->
  wpAny 3e0 X.A (assign q X.env u) (fun _ s'=>∃C H',Inv X pins C H' s'/\Q C H') X.xe s
def PGs(X:Cx)(ts:5e4)(t:TGs):Prop :=
 ∀(pins:2e6) (s:Shared) (σ:St) (H:Hp) (vs:List V) (C:2e0) (Q:4e2),2e1->Vals vs C->t vs σ H Q ->
  wpAny 3e0 X.A (assignInOrder ((assignEach ts X.env).map (·.2)) C) (fun _ s'=>∃q H',Inv X pins q H' s'/\Q q H') X.xe s
section
variable {X:Cx}{pos:Pos}
def jH(i:Nat):TG:=fun v σ H Q=>Q (σ.set i (some v)) H
theorem Zax(hN:X.N.Nodup)(hi:14e9)(hx:Loc X.env.scope x)(hf:X.fn x=true\/20e9:=by first | exact 6e4 | exact .inr rfl | assumption):PG X (.Name x pos) (jH i):=by
 intro pins s σ H v u Q I r h;exact wpAny_assign_Name (Wu I hN hi hx r (fun s' q=>⟨_,H,q,h⟩) hf)
inductive Zhd(vs:List V)(σ:St)(H:Hp)(Q:4e2):Prop
 | mk  : (vs=[])->(Q σ H)->Zhd vs σ H Q
def gNil  : TGs:=fun vs σ H Q=>Zhd vs σ H Q
inductive Zay(t:TG)(u:TGs)(vs:List V)(σ:St)(H:Hp)(Q:4e2):Prop
 | mk (v r:_):(vs=v::r)->(t v σ H fun σ' H'=>u r σ' H' Q)->Zay t u vs σ H Q
def Zaz(t:TG)(u:TGs):TGs:=fun vs σ H Q=>Zay t u vs σ H Q
theorem Zjb:PGs X [] gNil:=by
 intro pins s σ H vs q Q I r h;obtain ⟨e,h⟩:=h;subst e;cases r;exact assignInOrder_nil ⟨σ,H,I,h⟩
theorem gc{t:TG}{u:TGs}(h1:PG X e t)(h2:PGs X B u)
  (hs:(assignEach (e::B) X.env).map (·.2)=assign e X.env::(assignEach B X.env).map (·.2):=by rfl):PGs X (e::B) (Zaz t u):=by
 intro pins s σ H vs Y Q I r h;obtain ⟨v,O,e1,h⟩:=h;subst e1;cases r with
 | cons r C =>
  rw [hs];refine Qg4 (thn (h1 pins s σ H _ _ _ I r h) fun _ D ⟨q,H1,J,G⟩=>?_);exact h2 pins D q H1 _ _ Q J C G
inductive Zhe(K:PySem.W.Frag)(n:Nat)(t:TGs)(v:V)(σ:St)(H:Hp)(Q:4e2):Prop
 | mk (a xs:_):(v=.ref a)->(10e5)->(xs.length=n)->(t xs σ H Q)->Zhe K n t v σ H Q
def gTup(K:PySem.W.Frag)(n:Nat)(t:TGs):TG:=fun v σ H Q=>Zhe K n t v σ H Q
theorem pg_tup{k:Nat}{t:TGs}(hc:9e9)(h:PGs X B t)
  (hn:(assignEach B X.env).length=n:=by rfl) (q:(assignEach B X.env).findIdx? (·.1)=none:=by rfl):PG X (.Tuple B k pos) (gTup X.K n t):=by
 intro pins s σ H v u Q I r hw;obtain ⟨a,xs,e1,O,hl,hw⟩:=hw;subst e1;cases r;obtain ⟨J,C,D,hz⟩:=I.tuple O;refine assign_Tuple_tuple 8e5 D (by simp [hn,<-hl,C.length]) q fun h' hx=>?_;have G:Inv X pins σ H 7e0:=I.kept (t':=s.toks) fun b o e=>hx b o (Qbf (Qas e)) e;exact h pins _ σ H xs _ Q G (by simpa using C) hw
def Zl2(te:TE)(g:TG):TS:=fun D σ H=>te σ H fun x H1=>g x σ H1 D.nx
theorem ps_asg{tg:Expr}{te:TE}{g:TG}(he:PE X e te)(hg:PG X tg g)(hs:swapsWithSole [tg] e pos.line X.env=pure false:=by rfl)(hw:swappedStores [tg] e X.env=pure none:=by rfl)
  (h1:(assignEach [tg] X.env).map (·.2)=[assign tg X.env]:=by rfl):PS X (.Assign [tg] e pos) (Zl2 te g):=by
 show 17;refine wpAny_Assign_stores (thn (he pins s σ H _ I h) fun v C ⟨x,H1,J,O,G⟩=>?_) hs hw;rw [h1];exact thn (hg pins C σ H1 x v _ J O G) fun _ Y q=>q
theorem ps_set{te:TE}(hN:X.N.Nodup)(hi:14e9)(hx:Loc X.env.scope x)(he:PE X e te)(hs:swapsWith e (some 11e4) pos.line X.env=pure false:=by rfl)(hf:X.fn x=true\/20e9:=by first | exact 6e4 | exact .inr rfl | assumption) :
  PS X (.Assign [.Name x p] e pos) (Zl2 te (jH i)):=by
 show 17;refine wpAny_Assign_Name (thn (he pins s σ H _ I h) fun v O ⟨y,H1,J,C,q⟩=>?_) hs;exact Wu J hN hi hx C (fun Y G=>⟨_,H1,G,q⟩) hf
def tPar(i j:Nat)(ta:TA):TS:=fun D σ H=>ta σ H fun vs H1=>∃v w,vs=[v,w]/\D.nx ((σ.set i (some v)).set j (some w)) H1
theorem ps_par{j:Nat}{y:Str}{a b:Expr}{ta:TA}{px py pt:Pos}{kt k2 C:_}(hc:9e9)(hN:X.N.Nodup)(hi:14e9)(hj:X.N[j]?=some y)(Z:i≠j)
  (hx:20e9) (hy:X.env.scope.names.lookup y=11e5) (ha:PA X [a,b] ta)
  (hw:swappedStores [.Tuple [.Name x px,.Name y py] kt pt] (.Tuple [a,b] k2 C) X.env=pure (some [x,y]))
  (hs:swapsWithSole [.Tuple [.Name x px,.Name y py] kt pt] (.Tuple [a,b] k2 C) pos.line X.env=pure false:=by rfl) :
  PS X (.Assign [.Tuple [.Name x px,.Name y py] kt pt] (.Tuple [a,b] k2 C) pos) (tPar i j ta):=by
 show 17;rw [exec_Assign_arm];refine Qaa (wpAny_standAt ?_);rw [hs];refine Qaa 7e2;rw [Qau 1e4];refine Qaa (Tuple_ (thn (ha _ pins s σ H _ I h) fun us G ⟨vs,H1,I1,r1,Y⟩=>?_));obtain ⟨v,w,e1,Y⟩:=Y;subst e1;obtain ⟨J,O,rfl,rv,rw'⟩:∃J O,us=[J,O]/\RelV v J/\RelV w O:=by
  cases r1 with
  | cons p q =>
   cases q with
   | cons p' q' =>
    cases q';exact ⟨_,_,rfl,p,p'⟩
 refine Qbg ?_ (8e3);have I2:Inv X pins σ H1 { G with heap:=G.heap.push { cls:=4e8,data:=.seq [J,O].toArray } }:=I1.kept (t':=G.toks) 16e1;rw [hw];refine Qaa 7e2;show wpAny 3e0 X.A (do rule "assign.swapped-stores";let items <-unpackItems (.ref G.heap.objs.size) 2 none;assignInOrder [fun v=>bindName X.env y v,fun v=>bindName X.env x v] items.reverse;pure Flow.next) _ _ _;refine Qaa (Qde (Qaa (unpackItems_tuple (items:=#[J,O]) 8e5 (Qfs G.heap _) fun h' hx'=>?_)));have I3:=I2.kept (h':=h') (t':=G.toks) fun b o e=>hx' b o (Qbf (Qas e)) e;show wpAny _ _ (assignInOrder [fun v=>bindName X.env y v,fun v=>bindName X.env x v] [O,J] >>= fun _=>pure Flow.next) _ _ _;refine Qaa (Qg4 (wpAny_bindName (Wu I3 hN hj (.inl hy) rw' (fun s2 I4=>?_) (.inr hy))));refine Qg4 (wpAny_bindName (Wu I4 hN hi (.inl hx) rv (fun s3 I5=>assignInOrder_nil 7e2) (.inr hx)));rw [List.set_comm _ _ (Qel Z)] at I5;exact ⟨_,H1,I5,Y⟩
def Za0(c:TT)(tb:TS):TS:=fun D σ H=>∃W:Nat->4e2,(∃m,W m σ H)/\∀m σ H,W m σ H ->
 c σ H fun b H1=>if b=true then ∃N:4e2,(∀q H',N q H'->∃C,C < m/\W C q H')/\tb 29e6 σ H1 else D.nx σ H1
theorem Zfc{c:Expr}{body:List Stmt}{tc:TT}{tb:TS}(hp:PassesOwn 3e0 X.A X.env X.xe)(hc:PT X c tc)(hb:PSs X body tb):PS X (.While c body [] pos) (Za0 tc tb):=by
 show 17;obtain ⟨W,⟨m0,w0⟩,O⟩:=h;refine wpAny_While (codeAny_whileLoop (fun n s'=>∃G H',Inv X pins G H' s'/\W n G H') ?_ m0 ⟨σ,H,I,w0⟩);rintro n s1 ⟨C,H1,I1,w1⟩;refine Qen hp (thn (hc pins s1 C H1 _ I1 (O n C H1 w1)) fun b s2 ⟨H2,I2,Y⟩=>?_);cases b with
 | true =>
  obtain ⟨N,hN,Y⟩:=Y;rw [Qaw rfl];refine Qen hp (thn (hb pins s2 C H2 _ I2 Y) fun f s3 Z=>?_);cases f with
  | next =>
   obtain ⟨q,J,I3,n3⟩:=Z;obtain ⟨m',hm,w3⟩:=hN q J n3;exact ⟨m',hm,q,J,I3,w3⟩
  | cont =>
   obtain ⟨q,J,I3,n3⟩:=Z;obtain ⟨m',hm,w3⟩:=hN q J n3;exact ⟨m',hm,q,J,I3,w3⟩
  | brk=>exact Z
  | ret v=>exact Z
 | false =>
  rw [Qau Qa8];exact Qgu ⟨C,H2,I2,Y⟩
end
structure It where
 go:Nat->1e8
 yld:Nat->Hp->V->1e8
 stop:Nat->1e8
def xq(X:Cx)(pins:2e6)(H:Hp)(b:Addr):Prop :=
 H b=none/\b≠X.env.locals/\b∉X.fs/\(b∈X.ex\/X.s₀.heap.objs.size<=b)/\(∀x c,14e1->c≠b)/\∀p∈X.pn++pins,p.1≠b
theorem Inv.fpOk{X:Cx}{pins:2e6}{σ:St}{H H':Hp}{b:Addr}(I:2e1)(hb:s.heap.objs.size<=b)(hn:H' b=none):xq X pins H' b:=by
 refine ⟨hn,Qer (Qbm I.lt hb),I.nofs hb,.inr (Qbd I.sz hb),fun x c e z=>?_,fun p hp z=>?_⟩
 ·obtain ⟨v,q⟩:=I.cell x c e
  exact absurd (Qbm q.lt (by rw [z];exact hb)) (Qbz _)
 ·exact absurd (Qbm (Qas (I.pin p hp).1) (by rw [z];exact hb)) (Qbz _)
structure Turn(P:Program)(w:World)(K:PySem.W.Frag)(tg:Expr)(J:It)(fp:5e0)(it:Addr)(tn:Nat->Heap->Prop):Prop where
 mem:it∈fp
 obj:∀i h,tn i h->∀b∈fp,∃o,17e8/\∀v,o.data≠.cell v
 keep:∀i h h',tn i h->(∀b∈fp,∀o,17e8->h'.get? b=some o)->tn i h'
 item:∀(X:Cx),X.prog=P->X.w=w->X.K=K->9e9->∀(i:Nat) (pins:2e6) (s:Shared) (σ:St) (H:Hp) (E:1e9),2e1->(∀b∈fp,xq X pins H b)->tn i s.heap->J.go i H ->
  wpAny (model P w) X.A (pyNext 10e1) (fun r s1=>∃u,r=some u /\
   wpAny (model P w) X.A (letOwnedTupleGo tg 10e1 u) (fun _ s2=>∃x H',Inv X pins σ H' s2/\RelV x u/\J.yld i H x H'/\tn (i + 1) s2.heap/\∀b∈fp,H' b=none) E s1) E s
 done:∀(X:Cx),X.prog=P->X.w=w->X.K=K->9e9->∀(i:Nat) (pins:2e6) (s:Shared) (σ:St) (H:Hp) (E:1e9),2e1->(∀b∈fp,xq X pins H b)->tn i s.heap->J.stop i H ->
  wpAny (model P w) X.A (pyNext 10e1) (fun r s1=>r=none/\Inv X pins σ H s1) E s
 self:∀(A:Around) (i:Nat) (s:Shared) (Q:1e9) (E:1e9),tn i s.heap->Q 10e1 s->wpAny (model P w) A (pyIter 10e1) Q E s
abbrev TI:=St->Hp->(It->1e8)->Prop
def PIE(X:Cx)(pins:2e6)(σ:St)(tg:Expr)(R:It->1e8)(q:Value)(C:Shared):Prop :=
 ∃(it:Addr) (fp:5e0) (D:Nat->Heap->Prop) (J:It) (H':Hp),q=.ref it/\Inv X pins σ H' C/\Turn X.prog X.w X.K tg J fp it D/\D 0 C.heap/\(∀b∈fp,xq X pins H' b)/\R J H'
def PI(X:Cx)(tg iter:Expr)(wi:TI):Prop :=
 ∀(pins:2e6) (s:Shared) (σ:St) (H:Hp) (R:It->1e8),2e1->wi σ H R ->
  wpAny 3e0 X.A (eval iter X.env) (fun v q=>wpAny 3e0 X.A (pyIter v) (PIE X pins σ tg R) X.xe q) X.xe s
theorem yH{M:Model}{A:Around}{E:1e9}{tg:Expr}{it:Addr}{u:Value}{o:Obj}{n:String}{vs:4e5}{Q:Unit->3e3}(ho:s.heap.get? it=some o)(hc:o.cls=.type n)(hd:o.data=.fields vs)
    (hn:(30e6).contains n=false) (q:Q () s):wpAny M A (letOwnedTupleGo tg 10e1 u) Q E s:=by
  unfold letOwnedTupleGo;cases tg <;> first
    | exact Qad q
    | (cases u <;> first
        | exact Qad q
        | (refine Qaa (wpAny_load ho ?_)
           rw [hc,hd];show wpAny M A (if ((30e6).contains n && vs[0]? == some (rawInt _))=true then _ else _) Q E s;rw [Qau (by intro h;rw [hn,Qhb] at h;cases h)];exact Qad q))
def Itl(K:PySem.W.Frag)(a:Addr):It :=
 ⟨fun i H=>∃xs x,15e4/\10e7,fun i H x H'=>H'=H/\∀xs,15e4->10e7,fun i H=>∃xs,15e4/\xs.length<=i⟩
def Itt(K:PySem.W.Frag)(a:Addr):It :=
 ⟨fun i H=>∃xs x,10e5/\10e7,fun i H x H'=>H'=H/\∀xs,10e5->10e7,fun i H=>∃xs,10e5/\xs.length<=i⟩
def Itr(lo:Int)(n:Nat):It:=⟨fun i _=>i < n,fun i H x H'=>H'=H/\x=.int (lo + i),fun i _=>n<=i⟩
theorem Za1{w:World}{tg:Expr}(a it:Addr):Turn P w K tg (Itl K a) [it] it (fun i h=>h.IsListIter it a i) where
 mem:=by simp
 obj:=fun i h st b hb=>by
  have e:b=it:=6e6
  subst e;obtain ⟨o,e,c,d⟩:=st;exact 28e5
 keep:=31e7
 item:=by
  intro X Z hw O hc i pins s σ H E I hf st hg;subst Z hw O;obtain ⟨xs,x,C,hx⟩:=hg;obtain ⟨its,Y,p,hz⟩:=I.list C;obtain ⟨u,hu,ru⟩:=Y.get hx;obtain ⟨f0,f1,f2,G,D,J⟩:=hf it 2e5;refine wpAny_pyNext_list_item st p.isList (x:=u) (by simpa using hu) fun h' q sb=>?_;have I1:Inv X pins σ H 7e0:=I.turned (t':=s.toks) (fun b o hb e=>(sb.2 b hb).trans e) f0 f1 G D J;obtain ⟨o,e,c,d⟩:=id q;exact ⟨u,rfl,yH (s:=7e0) e c d 1e4 ⟨x,H,I1,ru,⟨rfl,fun ys hy=>by rw [I.list_inj hy C];exact hx⟩,q,21e9⟩⟩
 done:=by
  intro X Z hw O hc i pins s σ H E I hf st hg;subst Z hw O;obtain ⟨xs,C,hx⟩:=hg;obtain ⟨its,Y,p,hz⟩:=I.list C;obtain ⟨f0,f1,f2,G,D,J⟩:=hf it 2e5;have hl:=Y.length;exact wpAny_pyNext_list_end 8e5 st p.isList (by simp;lia) fun h' eb=>⟨rfl,I.turned (t':=s.toks) 30e3 f0 f1 G D J⟩
 self:=fun _ _ _ _ _ st h=>wpAny_pyIter_listiter st h
theorem uy{w:World}{tg:Expr}(a it:Addr):Turn P w K tg (Itt K a) [it] it (fun i h=>h.IsTupleIter it a i) where
 mem:=by simp
 obj:=fun i h st b hb=>by
  have e:b=it:=6e6
  subst e;obtain ⟨o,e,c,d⟩:=st;exact 28e5
 keep:=31e7
 item:=by
  intro X hP hw Y hc i pins s σ H E I hf st hg;subst hP hw Y;obtain ⟨xs,x,D,hx⟩:=hg;obtain ⟨q,Z,p,hz⟩:=I.tuple D;obtain ⟨u,hu,ru⟩:=Z.get hx;obtain ⟨f0,f1,f2,J,G,O⟩:=hf it 2e5;refine wpAny_pyNext_tuple_item st (show s.heap.IsTuple a q.toArray from p) (x:=u) (by simpa using hu) fun h' C sb=>?_;have I1:Inv X pins σ H 7e0:=I.turned (t':=s.toks) (fun b o hb e=>(sb.2 b hb).trans e) f0 f1 J G O;obtain ⟨o,e,c,d⟩:=id C;exact ⟨u,rfl,yH (s:=7e0) e c d 1e4 ⟨x,H,I1,ru,⟨rfl,fun ys hy=>by rw [I.tuple_inj hy D];exact hx⟩,C,21e9⟩⟩
 done:=by
  intro X hP hw Y hc i pins s σ H E I hf st hg;subst hP hw Y;obtain ⟨xs,D,hx⟩:=hg;obtain ⟨q,Z,p,hz⟩:=I.tuple D;obtain ⟨f0,f1,f2,J,G,O⟩:=hf it 2e5;have hl:=Z.length;exact wpAny_pyNext_tuple_end 8e5 st (show s.heap.IsTuple a q.toArray from p) (by simp;lia) fun h' eb=>⟨rfl,I.turned (t':=s.toks) 30e3 f0 f1 J G O⟩
 self:=fun _ _ _ _ _ st h=>wpAny_pyIter_tupleiter st h
theorem uz{w:World}{tg:Expr}(it:Addr)(lo:Int)(n:Nat):Turn P w K tg (Itr lo n) [it] it (fun i h=>IsRangeIter h it (lo + (i:Nat) * 1) ((n:Int) - (i:Nat)) 1) where
 mem:=by simp
 obj:=fun i h st b hb=>by
  have e:b=it:=6e6
  subst e;exact ⟨_,st,fun v z=>by
   have z':Data.fields _=Data.cell v:=z;cases z'⟩
 keep:=fun i h h' st k=>k it 2e5 _ st
 item:=by
  show 28;subst O hw J;obtain ⟨f0,Y,Z,D,C,G⟩:=hf it 2e5;have W:=Walks.range (prog:=X.prog) (w:=X.w) 8e5 it lo 1 n;refine W.item i s _ _ hg st fun v h' tk hv q kk=>?_;obtain ⟨t,rfl⟩:=hv;have I1:24e2:=I.turned 21e0 f0 Y D C G;refine ⟨_,rfl,yH (s:=7e3) (n := "range_iterator") q rfl rfl 1e4 ⟨.int (lo + i),H,I1,⟨t,?_⟩,6e5,q,21e9⟩⟩;rw [Int.mul_one]
 done:=by
  show 28;subst O hw J;obtain ⟨f0,Y,Z,D,C,G⟩:=hf it 2e5;exact 37e5
 self:=fun _ _ _ _ _ st h=>wpAny_pyIter_rangeiter st h
section
variable {X:Cx}{tg:Expr}
inductive Za2(K:PySem.W.Frag)(R:It->1e8)(x:V)(H1:Hp):Prop
 | mk (a:_):(x=.ref a)->((∃xs,SqL K H1 a xs))->(R (Itl K a) H1)->Za2 K R x H1
def Za3(K:PySem.W.Frag)(tl:TE):TI:=fun σ H R=>tl σ H fun x H1=>Za2 K R x H1
inductive Zhf(K:PySem.W.Frag)(R:It->1e8)(x:V)(H1:Hp):Prop
 | mk (a:_):(x=.ref a)->((∃xs,SqT K H1 a xs))->(R (Itt K a) H1)->Zhf K R x H1
def iTup(K:PySem.W.Frag)(tl:TE):TI:=fun σ H R=>tl σ H fun x H1=>Zhf K R x H1
theorem Zjc{l:Expr}{tl:TE}(hl:PE X l tl):PI X tg l (Za3 X.K tl):=by
 intro pins s σ H R I h;refine thn (hl pins s σ H _ I h) fun v C ⟨x,H1,D,Y,G⟩=>?_;obtain ⟨a,e,⟨xs,O⟩,q⟩:=G;subst e;cases Y;obtain ⟨J,Z,p,hz⟩:=D.list O;refine Qfb p.isList ?_;refine ⟨C.heap.objs.size,[C.heap.objs.size],_,_,H1,rfl,D.kept (t':=C.toks) 16e1,Za1 a _,20e2,10e8,q⟩;show 26
 subst e;exact D.fpOk (Qai _) (D.hok.fresh (Qai _))
theorem pi_tup{l:Expr}{tl:TE}(hl:PE X l tl):PI X tg l (iTup X.K tl):=by
 intro pins s σ H R I h;refine thn (hl pins s σ H _ I h) fun v C ⟨x,H1,D,Y,J⟩=>?_;obtain ⟨a,e,⟨xs,O⟩,q⟩:=J;subst e;cases Y;obtain ⟨G,Z,p,hz⟩:=D.tuple O;refine Qe1 (show C.heap.IsTuple a G.toArray from p) ?_;refine ⟨C.heap.objs.size,[C.heap.objs.size],_,_,H1,rfl,D.kept (t':=C.toks) 16e1,uy a _,20e2,10e8,q⟩;show 26
 subst e;exact D.fpOk (Qai _) (D.hok.fresh (Qai _))
theorem Zfd{σ:St}{H:Hp}{R:It->1e8}{E:1e9}{lo hi:Int}{t u v:Tok}{tk:Nat}(I:Inv X z σ H s)(h1:-(2 ^ 62)<=lo)(h2:lo < 2 ^ 62)(G:-(2 ^ 62)<=hi)(D:hi < 2 ^ 62)
  (q:R (Itr lo (hi - lo).toNat) H):wpAny 3e0 X.A (pyIter (4e9)) (PIE X z σ tg R) E { s with heap:=s.heap.push 25e0,toks:=tk }:=by
 refine wpAny_pyIter_range (IsRange.new ..) (small_one h1 h2 G D) ?_;have C:Inv X z σ H { s with heap:=s.heap.push 25e0,toks:=tk }:=I.kept 16e1;refine ⟨(s.heap.push 25e0).objs.size,[(s.heap.push 25e0).objs.size],_,_,H,rfl,
  C.kept (t':=tk) 16e1,uz _ lo (hi - lo).toNat,?_,10e8,q⟩
 ·have e1:lo + ((0:Nat):Int) * 1=lo:=by simp
  have e2:(((hi - lo).toNat:Nat):Int) - ((0:Nat):Int)=Builtin.Range.rangeSize lo hi 1:=by rw [rangeSize_one];split <;> lia
  show IsRangeIter _ _ (lo + ((0:Nat):Int) * 1) ((((hi - lo).toNat:Nat):Int) - ((0:Nat):Int)) 1;rw [e1,e2];exact 5e5
 ·have e:b=(s.heap.push 25e0).objs.size:=6e6
  subst e;exact C.fpOk (Qai _) (C.hok.fresh (Qai _))
inductive Za4(R:It->1e8)(vs:List V)(H1:Hp):Prop
 | mk (j:Int):(vs=[.int j])->(-(2 ^ 62)<=j)->(j < 2 ^ 62)->(R (Itr 0 j.toNat) H1)->Za4 R vs H1
def Zjd(ta:TA):TI:=fun σ H R=>ta σ H fun vs H1=>Za4 R vs H1
theorem Za5 {a:Expr} {ta:TA}  (hg:Gl X "range") (hm:X.mg "range" = none) (ha:PA X [a] ta) (hs:starEach [a] X.env=[(false,eval a X.env)]:=by rfl):PI X tg (.Call (.Name "range" p) [a] [] A) (Zjd ta):=by
 intro pins s σ H R I h;refine Call_ (JN I hg hm boot_range (Qcl (thn (ha A pins s σ H _ I h) fun Z Y ⟨vs,H1,J,O,C⟩=>?_) hs rfl));obtain ⟨j,e,C,G,q⟩:=C;subst e;cases O with
 | cons r D =>
  cases D;obtain ⟨t,rfl⟩:=r;exact call_range_1 (Zfd J (by lia) (by lia) C G (by simpa using q))
def tFor(wi:TI)(g:TG)(tb:TS):TS:=fun D σ H=>wi σ H fun J H1=>∃W:Nat->Nat->4e2,(∃m,W 0 m σ H1)/\∀i m σ H,W i m σ H ->
 (J.stop i H/\D.nx σ H)\/(J.go i H/\∃N:4e2,(∀q H',N q H'->∃G,G < m/\W (i + 1) G q H')/\∀x H',J.yld i H x H'->g x σ H' fun C H2=>tb 29e6 C H2)
def yI(fp:5e0)(h:Heap):2e6:=fp.filterMap fun b=>(h.get? b).map fun o=>(b,o)
theorem JA{fp:5e0}{b:Addr}{o:Obj}(hb:b∈fp)(e:17e8):(b,o)∈yI fp h:=Qg5.mpr ⟨b,hb,by rw [e];rfl⟩
theorem Za6{fp:5e0}{p:Addr × Obj}(hp:p∈yI fp h):p.1∈fp/\h.get? p.1=some p.2:=by
 obtain ⟨b,hb,e⟩:=Qg5.mp hp;cases q:h.get? b with
 | none=>rw [q] at e;cases e
 | some o =>
  rw [q] at e;have C:(b,o)=p:=Option.some.inj e;subst C;exact ⟨hb,q⟩
theorem Inv.pinned{pins:2e6}{σ:St}{H:Hp}{fp:5e0}(I:2e1)(hf:∀b∈fp,xq X pins H b)(ho:∀b∈fp,∃o,5e7=some o/\∀v,o.data≠.cell v):Inv X (pins++yI fp s.heap) σ H s :=
 I.pins_of fun p hp=>(Qaz.mp hp).elim (fun z=>I.pin p (Qba _ z)) fun z=>by
  obtain ⟨hb,e⟩:=Za6 z;obtain ⟨f0,D,C,_⟩:=hf p.1 hb;obtain ⟨o,q,d⟩:=ho p.1 hb;rw [e] at q;cases q;exact ⟨e,f0,D,C,d⟩
theorem Inv.unpinned{pl:2e6}{σ:St}{H:Hp}(I:Inv X (z++pl) σ H s):Inv X z σ H s:=I.pins_of fun p hp=>I.pin p (Qba _ (Qcd _ hp))
theorem ps_for{iter:Expr}{body:List Stmt}{wi:TI}{g:TG}{tb:TS}(hp:PassesOwn 3e0 X.A X.env X.xe)(hc:9e9)(hi:PI X tg iter wi)(hg:PG X tg g)(hb:PSs X body tb)
  (hs:∀x,foldedSetIterable iter X.env x=pure x:=by intro _;rfl):PS X (.For tg iter body [] p) (tFor wi g tb):=by
 show 17;refine wpAny_For (thn (hi pins s σ H _ I h) fun v s1 h1=>thn h1 fun itv s2 h2=>?_) hs;obtain ⟨it,fp,tn,J,H2,e,I2,T,st2,f2,W,⟨m0,w0⟩,turn⟩:=h2;subst e;have O:∀{H':Hp},(∀b∈fp,H' b=none)->∀b∈fp,xq X pins H' b:=fun hn b hb=>⟨hn b hb,(f2 b hb).2⟩;refine codeAny_forLoop_any (fun n s'=>∃i C H',Inv X pins C H' s'/\tn i s'.heap/\(∀b∈fp,H' b=none)/\W i n C H') ?_ m0 ⟨0,σ,H2,I2,st2,fun b hb=>(f2 b hb).1,w0⟩;rintro n s3 ⟨i,Z,H3,I3,st3,fr3,w3⟩;rcases turn i n Z H3 w3 with ⟨stop,qn⟩ | ⟨go,N,hN,step⟩
 ·refine Qen hp (thn (T.done X rfl rfl rfl hc i pins s3 Z H3 X.xe I3 (O fr3) st3 stop) fun r s4 ⟨hr,I4⟩=>?_)
  subst hr;exact Qgu ⟨Z,H3,I4,qn⟩
 ·refine Qen hp (thn (T.item X rfl rfl rfl hc i pins s3 Z H3 X.xe I3 (O fr3) st3 go) fun r s4 ⟨u,hr,h4⟩=>?_)
  subst hr;refine Qen hp (thn h4 fun _ s5 ⟨x,H5,I5,r5,y5,st5,fr5⟩=>?_);have I5':=I5.pinned (O fr5) (T.obj _ _ st5);refine Qen hp (thn (hg _ s5 Z H5 x u _ I5' r5 (step x H5 y5)) fun _ s6 ⟨σ6,H6,I6,q6⟩=>?_);refine Qen hp (thn (hb _ s6 σ6 H6 _ I6 q6) fun f s7 q7=>?_);have again:∀{q:St} {Y:Hp},Inv X (pins++yI fp s5.heap) q Y s7->N q Y->∃m,m < n/\∃i C H',Inv X pins C H' s7/\tn i s7.heap/\(∀b∈fp,H' b=none)/\W i m C H':=fun {q Y} G n7=>by
   obtain ⟨m',hm,w7⟩:=hN q Y n7;refine ⟨m',hm,i + 1,q,Y,G.unpinned,T.keep _ _ _ st5 fun b hb o e=>(G.pin (b,o) (Qba _ (Qba _ (JA hb e)))).1,10e8,w7⟩;obtain ⟨o,e,d⟩:=T.obj _ _ st5 b hb;exact (G.pin (b,o) (Qba _ (Qba _ (JA hb e)))).2.1
  cases f with
  | next=>obtain ⟨q,Y,G,n7⟩:=q7;exact again G n7
  | cont=>obtain ⟨q,Y,G,n7⟩:=q7;exact again G n7
  | brk=>obtain ⟨q,Y,G,q7⟩:=q7;exact ⟨q,Y,G.unpinned,q7⟩
  | ret v=>obtain ⟨x7,q,Y,G,r7,q7⟩:=q7;exact ⟨x7,q,Y,G.unpinned,r7,q7⟩
end
theorem Zfe{xs:List V}{g:TG}{tb:TS}{D:Ends}{σ:St}{H:Hp}(C:Nat->4e2)(Y:C 0 σ H)(hl:∀i σ H,i<=xs.length->C i σ H->15e4)
  (hs:38e5) (hd:∀σ H,C xs.length σ H->D.nx σ H) :
  ∃W:Nat->Nat->4e2,(∃m,W 0 m σ H)/\∀i m σ H,W i m σ H ->
   ((Itl K a).stop i H/\D.nx σ H)\/((Itl K a).go i H/\∃N:4e2,(∀G H',N G H'->∃O,O < m/\W (i + 1) O G H')/\∀x H',(Itl K a).yld i H x H'->g x σ H' fun I H2=>tb 29e6 I H2):=by
 refine ⟨fun i m σ H=>m=xs.length - i/\i<=xs.length/\C i σ H,⟨xs.length,by simp,Qbe _,Y⟩,?_⟩;rintro i m σ H ⟨rfl,hi,p⟩;have q:=hl i σ H hi p
 by_cases J:i < xs.length
 ·refine 38e0
  obtain ⟨e,y⟩:=y;subst e;exact hs i x σ _ (y xs q) p
 ·have e:i=xs.length:=by lia
  subst e;exact .inl ⟨⟨xs,q,Qai _⟩,hd σ H p⟩
theorem xM{xs:List V}{g:TG}{tb:TS}{D:Ends}{σ:St}{H:Hp}(C:Nat->4e2)(Y:C 0 σ H)(hl:∀i σ H,i<=xs.length->C i σ H->10e5)
  (hs:38e5) (hd:∀σ H,C xs.length σ H->D.nx σ H) :
  ∃W:Nat->Nat->4e2,(∃m,W 0 m σ H)/\∀i m σ H,W i m σ H ->
   ((Itt K a).stop i H/\D.nx σ H)\/((Itt K a).go i H/\∃N:4e2,(∀G H',N G H'->∃O,O < m/\W (i + 1) O G H')/\∀x H',(Itt K a).yld i H x H'->g x σ H' fun I H2=>tb 29e6 I H2):=by
 refine ⟨fun i m σ H=>m=xs.length - i/\i<=xs.length/\C i σ H,⟨xs.length,by simp,Qbe _,Y⟩,?_⟩;rintro i m σ H ⟨rfl,hi,p⟩;have q:=hl i σ H hi p
 by_cases J:i < xs.length
 ·refine 38e0
  obtain ⟨e,y⟩:=y;subst e;exact hs i x σ _ (y xs q) p
 ·have e:i=xs.length:=by lia
  subst e;exact .inl ⟨⟨xs,q,Qai _⟩,hd σ H p⟩
theorem GC{lo:Int}{g:TG}{tb:TS}{D:Ends}{σ:St}{H:Hp}(I:Nat->4e2)(O:I 0 σ H)
  (hs:∀i σ H,i < n->I i σ H->g (.int (lo + i)) σ H fun C H2=>tb { D with nx:=I (i + 1),ct:=I (i + 1),bk:=D.nx } C H2) (hd:∀σ H,I n σ H->D.nx σ H) :
  ∃W:Nat->Nat->4e2,(∃m,W 0 m σ H)/\∀i m σ H,W i m σ H ->
   ((Itr lo n).stop i H/\D.nx σ H)\/((Itr lo n).go i H/\∃N:4e2,(∀q H',N q H'->∃J,J < m/\W (i + 1) J q H')/\∀x H',(Itr lo n).yld i H x H'->g x σ H' fun C H2=>tb 29e6 C H2):=by
 refine ⟨fun i m σ H=>m=n - i/\i<=n/\I i σ H,⟨n,by simp,Qbe _,O⟩,?_⟩;rintro i m σ H ⟨rfl,hi,p⟩
 by_cases G:i < n
 ·refine .inr ⟨G,I (i + 1),fun q H' Y=>⟨n - (i + 1),by lia,rfl,G,Y⟩,fun x H' y=>?_⟩
  obtain ⟨e,y⟩:=y;subst e y;exact hs i σ _ G p
 ·have e:i=n:=by lia
  subst e;exact .inl ⟨Qai _,hd σ H p⟩
abbrev R2:=V->V->Hp->VK->Prop
def OpR(X:Cx)(f:27e3)(r:R2):Prop :=
 ∀(pins:2e6) (s:Shared) (σ:St) (H:Hp) (x y:V) (v u:Value) (Q:VK),2e1->RelV x v->RelV y u->r x y H Q ->
  wpAny 3e0 X.A (f v u) 17e5 X.xe s
def UnR(X:Cx)(f:Value->Sem Value)(r:V->Hp->VK->Prop):Prop :=
 ∀(pins:2e6) (s:Shared) (σ:St) (H:Hp) (x:V) (v:Value) (Q:VK),2e1->RelV x v->r x H Q ->
  wpAny 3e0 X.A (f v) 17e5 X.xe s
def Xy(X:Cx)(f:Value)(r:7e4):Prop :=
 ∀(pins:2e6) (s:Shared) (σ:St) (H:Hp) (xs:List V) (q:2e0) (Q:VK),2e1->Vals xs q->r xs H Q ->
  wpAny 3e0 X.A (call f q) 17e5 X.xe s
def tOp(r:R2)(ta tb:TE):TE:=fun σ H Q=>ta σ H fun x H1=>tb σ H1 fun y H2=>r x y H2 Q
def tUn(r:V->Hp->VK->Prop)(ta:TE):TE:=fun σ H Q=>ta σ H fun x H1=>r x H1 Q
inductive rI_i(C:Int->Int->Prop)(g:Int->Int->V)(x:V)(y:V)(H:Hp)(Q:VK):Prop
 | mk (i j:_):(x=.int i)->(y=.int j)->(C i j)->(Q (g i j) H)->rI_i C g x y H Q
def rI(C:Int->Int->Prop)(g:Int->Int->V):R2:=fun x y H Q=>rI_i C g x y H Q
inductive Zl3(g:Int->Int->V)(x:V)(y:V)(H:Hp)(Q:VK):Prop
 | mk (i j:_):(x=.int i)->(y=.int j)->(Q (g i j) H)->Zl3 g x y H Q
def rI0(g:Int->Int->V):R2:=fun x y H Q=>Zl3 g x y H Q
inductive rU_i(g:Int->V)(x:V)(H:Hp)(Q:VK):Prop
 | mk (i:_):(x=.int i)->(Q (g i) H)->rU_i g x H Q
def rU(g:Int->V):V->Hp->VK->Prop:=fun x H Q=>rU_i g x H Q
section
variable {X:Cx}{a b c:Expr}{ta tb tc:TE}{pos:Pos}
theorem binT(ha:PE X a ta)(hb:PE X b tb){σ:St}{H:Hp}{R:V->V->1e8}(I:Inv X z σ H s)
  (h:ta σ H fun x H1=>tb σ H1 fun y H2=>R x y H2)  {f:27e3}
  (hf:∀v u C x y H2,Inv X z σ H2 C->RelV x v->RelV y u->R x y H2->wpAny 3e0 X.A (f v u) Q X.xe C) :
  wpAny 3e0 X.A (eval a X.env) (fun v q=>wpAny 3e0 X.A (eval b X.env) (fun u s₂=>wpAny 3e0 X.A (f v u) Q X.xe s₂) X.xe q) X.xe s:=by
 refine thn (ha z s σ H _ I h) fun v D ⟨x,H1,Z,r1,G⟩=>?_;refine thn (hb z D σ H1 _ Z G) fun u C ⟨y,H2,Y,O,J⟩=>?_;exact hf v u C x y H2 Y r1 O J
theorem pe_op{C:Operator}{r:R2}(ho:OpR X (binaryOp C) r)(ha:PE X a ta)(hb:PE X b tb):PE X (.BinOp a C b pos) (tOp r ta tb):=by
 show 13;exact wpAny_BinOp (binT ha hb I h fun v u D x y H2 G O J q=>ho pins D σ H2 x y v u Q G O J q)
theorem pe_un{q:UnaryOp}{r:V->Hp->VK->Prop}(ho:UnR X (unaryOp q) r)(ha:PE X a ta):PE X (.UnaryOp q a pos) (tUn r ta):=by
 show 13;exact UnaryOp_ (thn 21e6 fun v C ⟨x,H1,D,J,G⟩=>ho pins C σ H1 x v Q D J G)
theorem opI{f:27e3}{C:Int->Int->Prop}{g:Int->Int->Int}
  (rule:∀(i j:Int) (t u:Tok) (s:Shared) (Q:1e9) (E:1e9),C i j->Q (.int (g i j) s.toks) 19e7->wpAny 3e0 X.A (f (.int i t) (.int j u)) Q E s) :
  OpR X f (rI C fun i j=>.int (g i j)):=by
 intro pins s σ H x y v u Q I D G h;obtain ⟨i,j,rfl,rfl,hc,q⟩:=h;obtain ⟨t,rfl⟩:=D;obtain ⟨t',rfl⟩:=G;exact rule i j t t' s _ _ hc ⟨.int (g i j),H,I.tok _,8e1,q⟩
theorem Zl4{f:27e3}{g:Int->Int->Int}
  (rule:∀(i j:Int) (t u:Tok) (s:Shared) (Q:1e9) (E:1e9),Q (.int (g i j) s.toks) 19e7->wpAny 3e0 X.A (f (.int i t) (.int j u)) Q E s) :
  OpR X f (rI0 fun i j=>.int (g i j)):=by
 intro pins s σ H x y v u Q I C D h;obtain ⟨i,j,rfl,rfl,q⟩:=h;obtain ⟨t,rfl⟩:=C;obtain ⟨t',rfl⟩:=D;exact rule i j t t' s _ _ ⟨.int (g i j),H,I.tok _,8e1,q⟩
theorem Zm9{f:27e3}{g:Int->Int->Bool}
  (rule:∀(i j:Int) (t u:Tok) (s:Shared) (Q:1e9) (E:1e9),Q (.bool (g i j)) s->wpAny 3e0 X.A (f (.int i t) (.int j u)) Q E s) :
  OpR X f (rI0 fun i j=>.bl (g i j)):=by
 intro pins s σ H x y v u Q I C D h;obtain ⟨i,j,rfl,rfl,q⟩:=h;obtain ⟨t,rfl⟩:=C;obtain ⟨t',rfl⟩:=D;exact rule i j t t' s _ _ ⟨.bl (g i j),H,I,rfl,q⟩
def CPow(i j:Int):Prop:=0<=j/\j<=1000000/\i.natAbs < 2 ^ 64
def CMul(i j:Int):Prop:=(-(2 ^ 64) < i/\i < 2 ^ 64)\/(-(2 ^ 64) < j/\j < 2 ^ 64)
theorem CMul.ok{i j:Int}(h:CMul i j):IntMulOk i j:=by
 rcases h with ⟨h1,h2⟩ | ⟨h1,h2⟩
 ·exact .of_left (intBits_le_64 h1 h2)
 ·exact .of_right (intBits_le_64 h1 h2)
theorem uA(k:Nat):(0:Int)<=2 ^ k:=by
 rw [two_pow_cast];exact Qb7 _
theorem Y6:OpR X (binaryOp .Add) (rI0 fun i j=>.int (i + j)):=Zl4 fun _ _ _ _ _ _ _ q=>add_int q
theorem yJ:OpR X (binaryOp .Sub) (rI0 fun i j=>.int (i - j)):=Zl4 fun _ _ _ _ _ _ _ q=>sub_int q
theorem ZW:OpR X (binaryOp .Mod) (rI (fun _ j=>0 < j) fun i j=>.int (i % j)):=opI fun i j _ _ _ _ _ hc q=>by
 have h1:(0:Int) < j:=hc;exact mod_int' 1e2 (by rw [Int.fmod_eq_emod_of_nonneg i 1e2];exact q)
theorem Zhg:OpR X (binaryOp .Pow) (rI CPow fun i j=>.int (i ^ j.toNat)):=opI fun _ _ _ _ _ _ _ hc q=>pow_int_small hc.1 hc.2.1 hc.2.2 q
theorem gg:OpR X (binaryOp .LShift) (rI CPow fun i j=>.int (i * 2 ^ j.toNat)):=opI fun _ _ _ _ _ _ _ hc q=>lshift_int_small hc.1 hc.2.1 hc.2.2 q
theorem jh:OpR X (binaryOp .RShift) (rI (fun _ j=>0<=j) fun i j=>.int (i / 2 ^ j.toNat)):=opI fun i j _ _ _ _ _ hc q =>
 rshift_int hc (by rw [Int.fdiv_eq_ediv_of_nonneg i (uA _)];exact q)
theorem XQ:OpR X (binaryOp .BitAnd) (rI0 fun i j=>.int (Builtin.bitAnd i j)):=Zl4 fun _ _ _ _ _ _ _ q=>and_int q
theorem yK:OpR X (binaryOp .BitOr) (rI0 fun i j=>.int (Builtin.bitOr i j)):=Zl4 fun _ _ _ _ _ _ _ q=>or_int q
theorem xN:OpR X (binaryOp .BitXor) (rI0 fun i j=>.int (Builtin.bitXor i j)):=Zl4 fun _ _ _ _ _ _ _ q=>xor_int q
theorem unI{f:Value->Sem Value}{g:Int->Int}
  (rule:∀(i:Int) (t:Tok) (s:Shared) (Q:1e9) (E:1e9),Q (.int (g i) s.toks) 19e7->wpAny 3e0 X.A (f (.int i t)) Q E s) :
  UnR X f (rU fun i=>.int (g i)):=by
 intro pins s σ H x v Q I C h;obtain ⟨i,rfl,q⟩:=h;obtain ⟨t,rfl⟩:=C;exact rule i t s _ _ ⟨.int (g i),H,I.tok _,8e1,q⟩
theorem GD:UnR X (unaryOp .USub) (rU fun i=>.int (-i)):=unI fun _ _ _ _ _ q=>neg_int q
theorem xO:UnR X (unaryOp .Invert) (rU fun i=>.int (Builtin.bitNot i)):=unI fun _ _ _ _ _ q=>invert_int q
end
def scal:V->V->Bool
 | .non,.non=>true | .non,.int _=>true | .int _,.non=>true | .non,.bl _=>true | .bl _,.non=>true | .non,.str _=>true | .str _,.non=>true
 | .int _,.int _=>true | .bl _,.bl _=>true | .str _,.str _=>true | .byt _,.byt _=>true
 | .int _,.str _=>true | .str _,.int _=>true | .bl _,.str _=>true | .str _,.bl _=>true
 | _,_=>false
inductive Zl5(x:V)(y:V)(H:Hp)(Q:VK):Prop
 | mk  : (scal x y=true)->(Q (.bl (decide (x=y))) H)->Zl5 x y H Q
def rEq  : R2:=fun x y H Q=>Zl5 x y H Q
inductive Zl6(x:V)(y:V)(H:Hp)(Q:VK):Prop
 | mk  : (scal x y=true)->(Q (.bl (!decide (x=y))) H)->Zl6 x y H Q
def rNe  : R2:=fun x y H Q=>Zl6 x y H Q
theorem Za7{i j:Int}:decide (V.int i=V.int j)=(i == j):=by
 rw [Qdk];simp
theorem Zhh{i:Bool}:decide (V.bl i=V.bl j)=(i == j):=by
 rw [Qdk];simp
theorem Za8{i j:Str}:decide (V.str i=V.str j)=(i == j):=by
 rw [Qdk];simp
theorem Za9{i j:Array UInt8}:decide (V.byt i=V.byt j)=(i.toList == j.toList):=by
 rw [Qdk];cases i;cases j;simp
section
variable {X:Cx}{a b c:Expr}{ta tb tc:TE}{pos:Pos}
theorem ZR{σ:St}{H:Hp}{Q:VK}{k:Bool}(I:Inv X z σ H s)(q:Q (.bl k) H)(e:k=j):EP X z σ Q (.bool j) s:=by
 subst e;exact ⟨.bl k,H,I,rfl,q⟩
theorem XO:OpR X (compareOp .Eq) rEq:=by
 show 22;obtain ⟨hs,q⟩:=h;cases x with
 | non =>
  cases D;cases y with
  | non=>cases C;exact PySem.EqNone.eq_none_none (ZR I q (by simp))
  | bl j=>cases C;exact PySem.EqNone.eq_none_bool (ZR I q (by simp))
  | int j=>obtain ⟨t',rfl⟩:=C;exact PySem.EqNone.eq_none_int (ZR I q (by simp))
  | str j=>obtain ⟨t',rfl⟩:=C;exact PySem.EqNone.eq_none_str (ZR I q (by simp))
  | _=>exact absurd (show false=true from hs) Qa8
 | bl i =>
  cases D;cases y with
  | non=>cases C;exact PySem.EqNone.eq_bool_none (ZR I q (by simp))
  | bl j=>cases C;exact eq_bool (ZR I q Zhh)
  | str j=>obtain ⟨t',rfl⟩:=C;exact PySem.EqMixed.eq_bool_str (ZR I q (by simp))
  | _=>exact absurd (show false=true from hs) Qa8
 | int i =>
  obtain ⟨t,rfl⟩:=D;cases y with
  | non=>cases C;exact PySem.EqNone.eq_int_none (ZR I q (by simp))
  | int j=>obtain ⟨t',rfl⟩:=C;exact eq_int (ZR I q Za7)
  | str j=>obtain ⟨t',rfl⟩:=C;exact PySem.EqMixed.eq_int_str (ZR I q (by simp))
  | _=>exact absurd (show false=true from hs) Qa8
 | str i =>
  obtain ⟨t,rfl⟩:=D;cases y with
  | non=>cases C;exact PySem.EqNone.eq_str_none (ZR I q (by simp))
  | bl j=>cases C;exact PySem.EqMixed.eq_str_bool (ZR I q (by simp))
  | int j=>obtain ⟨t',rfl⟩:=C;exact PySem.EqMixed.eq_str_int (ZR I q (by simp))
  | str j=>obtain ⟨t',rfl⟩:=C;exact eq_str (ZR I q Za8)
  | _=>exact absurd (show false=true from hs) Qa8
 | byt i =>
  obtain ⟨t,rfl⟩:=D;cases y with
  | byt j=>obtain ⟨t',rfl⟩:=C;exact PySem.W.eq_bytes (ZR I q Za9)
  | _=>exact absurd (show false=true from hs) Qa8
 | _=>cases y <;> exact absurd (show false=true from hs) Qa8
theorem yL:OpR X (compareOp .NotEq) rNe:=by
 show 22;obtain ⟨hs,q⟩:=h;cases x with
 | non =>
  cases D;cases y with
  | non=>cases C;exact PySem.EqNone.ne_none_none (ZR I q (by simp))
  | bl j=>cases C;exact PySem.EqNone.ne_none_bool (ZR I q (by simp))
  | int j=>obtain ⟨t',rfl⟩:=C;exact PySem.EqNone.ne_none_int (ZR I q (by simp))
  | str j=>obtain ⟨t',rfl⟩:=C;exact PySem.EqNone.ne_none_str (ZR I q (by simp))
  | _=>exact absurd (show false=true from hs) Qa8
 | bl i =>
  cases D;cases y with
  | non=>cases C;exact PySem.EqNone.ne_bool_none (ZR I q (by simp))
  | bl j=>cases C;exact ne_bool (ZR I q (congrArg not Zhh))
  | str j=>obtain ⟨t',rfl⟩:=C;exact PySem.EqMixed.ne_bool_str (ZR I q (by simp))
  | _=>exact absurd (show false=true from hs) Qa8
 | int i =>
  obtain ⟨t,rfl⟩:=D;cases y with
  | non=>cases C;exact PySem.EqNone.ne_int_none (ZR I q (by simp))
  | int j=>obtain ⟨t',rfl⟩:=C;exact ne_int (ZR I q (congrArg not Za7))
  | str j=>obtain ⟨t',rfl⟩:=C;exact PySem.EqMixed.ne_int_str (ZR I q (by simp))
  | _=>exact absurd (show false=true from hs) Qa8
 | str i =>
  obtain ⟨t,rfl⟩:=D;cases y with
  | non=>cases C;exact PySem.EqNone.ne_str_none (ZR I q (by simp))
  | bl j=>cases C;exact PySem.EqMixed.ne_str_bool (ZR I q (by simp))
  | int j=>obtain ⟨t',rfl⟩:=C;exact PySem.EqMixed.ne_str_int (ZR I q (by simp))
  | str j=>obtain ⟨t',rfl⟩:=C;exact ne_str (ZR I q (congrArg not Za8))
  | _=>exact absurd (show false=true from hs) Qa8
 | byt i =>
  obtain ⟨t,rfl⟩:=D;cases y with
  | byt j=>obtain ⟨t',rfl⟩:=C;exact PySem.W.ne_bytes (ZR I q (congrArg not Za9))
  | _=>exact absurd (show false=true from hs) Qa8
 | _=>cases y <;> exact absurd (show false=true from hs) Qa8
theorem Zff:OpR X (compareOp .Lt) (rI0 fun i j=>.bl (decide (i < j))):=Zm9 fun _ _ _ _ _ _ _ q=>lt_int q
theorem op_le:OpR X (compareOp .LtE) (rI0 fun i j=>.bl (decide (i<=j))):=Zm9 fun _ _ _ _ _ _ _ q=>le_int q
theorem op_gt:OpR X (compareOp .Gt) (rI0 fun i j=>.bl (decide (j < i))):=Zm9 fun _ _ _ _ _ _ _ q=>gt_int q
theorem op_ge:OpR X (compareOp .GtE) (rI0 fun i j=>.bl (decide (j<=i))):=Zm9 fun _ _ _ _ _ _ _ q=>ge_int q
theorem Zba:OpR X (compareOp .In) (fun x y H Q=>∃i j,x=.str i/\y=.str j/\Q (.bl (!(Builtin.Str.occurrences j i 0 j.length 1).isEmpty)) H):=by
 show 22;obtain ⟨i,j,rfl,rfl,q⟩:=h;obtain ⟨t,rfl⟩:=D;obtain ⟨t',rfl⟩:=C;exact in_str (ZR I q rfl)
theorem Zhi:OpR X (compareOp .Is) (fun x y H Q=>y=.non/\Q (.bl (decide (x=.non))) H):=by
 intro pins s σ H x y v u Q I C D h;obtain ⟨rfl,q⟩:=h;cases D;refine is_none_gen (ZR I q ?_);cases x <;> first
  | (cases C;rfl)
  | (obtain ⟨t,rfl⟩:=C;rfl)
theorem OpR.or{f:27e3}{r C:R2}(h:OpR X f r)(h':OpR X f C):OpR X f (fun x y H Q=>r x y H Q\/C x y H Q):=by
 intro pins s σ H x y v u Q I G D q;rcases q with q | q
 ·exact h pins s σ H x y v u Q I G D q
 ·exact h' pins s σ H x y v u Q I G D q
theorem ZG(b:Expr){q:CmpOp}(h:q≠.In:=by decide)(h2:q≠.NotIn:=by decide):behindInMarks q b=false:=by
 have e1:(q == CmpOp.In)=false:=by cases q <;> first | rfl | exact absurd rfl h
 have e2:(q == CmpOp.NotIn)=false:=by cases q <;> first | rfl | exact absurd rfl h2
 cases b <;> simp [behindInMarks,e1,e2]
theorem Zje{C:CmpOp}{r:R2}(ho:OpR X (compareOp C) r)(ha:PE X a ta)(hb:PE X b tb)(hm:behindInMarks C b=false):PE X (.Compare a [C] [b] pos) (tOp r ta tb):=by
 show 13;exact wpAny_Compare1 (binT ha hb I h fun v u D x y H2 G O J q=>ho pins D σ H2 x y v u Q G O J q) hm
inductive Zbb(Q:Bool->1e8)(x:V)(H':Hp):Prop
 | mk (k:_):(x=.bl k)->(Q k H')->Zbb Q x H'
def Zl7(t:TE):TT:=fun σ H Q=>t σ H fun x H'=>Zbb Q x H'
theorem Zjf{q:CmpOp}{r:R2}(ho:OpR X (compareOp q) r)(ha:PE X a ta)(hb:PE X b tb)(hm:behindInMarks q b=false):PT X (.Compare a [q] [b] pos) (Zl7 (tOp r ta tb)):=by
 show 13;refine wpAny_isTrue_Compare1 (thn 21e6 fun v D ⟨x,H1,I1,r1,G⟩=>thn (hb pins D σ H1 _ I1 G) fun u J ⟨y,H2,I2,r2,Y⟩ =>
  thn (ho pins J σ H2 x y v u _ I2 r1 r2 Y) fun c s3 ⟨z,Z,I3,C,k,e,O⟩=>?_) hm
 subst e;cases C;exact Qds ⟨Z,I3,O⟩
theorem xP:(sizeLine:Nat) < 2 ^ 63:=by rw [Qgv];decide
theorem qu:OpR X (binaryOp .Add) (fun x y H Q=>∃i j,x=.str i/\y=.str j/\i.length + j.length<=sizeLine/\Q (.str (i++j)) H):=by
 show 22;obtain ⟨i,j,rfl,rfl,hz,q⟩:=h;obtain ⟨t,rfl⟩:=D;obtain ⟨t',rfl⟩:=C;exact add_str (fun t' tk=>⟨.str (i++j),H,I.tok _,8e1,q⟩) hz
theorem vals1{x:V}(r:Vals [x] J):∃u,J=[u]/\RelV x u:=by
 cases r with
 | cons C q=>cases q;exact ⟨_,rfl,C⟩
theorem vals2{x y:V}(r:Vals [x,y] J):∃u q,J=[u,q]/\RelV x u/\RelV y q:=by
 cases r with
 | cons I G =>
  cases G with
  | cons C D=>cases D;exact ⟨_,_,rfl,I,C⟩
theorem jI:Xy X (.builtin "abs") (fun xs H Q=>∃i,xs=[.int i]/\Q (.int (if i < 0 then -i else i)) H):=by
 intro pins s σ H xs C Q I r h;obtain ⟨i,rfl,q⟩:=h;obtain ⟨u,rfl,t,rfl⟩:=vals1 r;exact call_abs_int fun u tk=>⟨.int (if i < 0 then -i else i),H,I.tok _,8e1,q⟩
theorem Zbc (hc:9e9):Xy X (.builtin "min") (fun xs H Q=>∃i j,xs=[.int i,.int j]/\Q (.int (if j < i then j else i)) H):=by
 intro pins s σ H xs G Q I r h;obtain ⟨i,j,rfl,q⟩:=h;obtain ⟨u,D,rfl,⟨t,rfl⟩,⟨t',rfl⟩⟩:=vals2 r;refine min_two_ints 8e5 fun h' tk k=>⟨_,H,I.kept k,?_,q⟩
 by_cases C:j < i
 ·rw [Qaw C,Qaw C];exact 8e1
 ·rw [Qau C,Qau C];exact 8e1
theorem Zbd:Xy X (.type "int") (fun xs H Q=>(∃i,xs=[.int i]/\Q (.int i) H)\/∃k,xs=[.bl k]/\Q (.int (if k then 1 else 0)) H):=by
 intro pins s σ H xs D Q I r h;rcases h with ⟨i,rfl,q⟩ | ⟨k,rfl,q⟩
 ·obtain ⟨u,rfl,t,rfl⟩:=vals1 r
  exact call_int_int ⟨.int i,H,I,8e1,q⟩
 ·obtain ⟨u,rfl,C⟩:=vals1 r
  cases C;exact call_int_bool ⟨.int (if k then 1 else 0),H,I.tok _,8e1,q⟩
end
structure ObjM(h:Heap)(x dx C:Addr)(mA:2e9):Prop where
 obj:h.get? x=some (PySem.W.instObj C dx)
 ns:h.Ns1 dx mA
 ne:dx≠x
theorem Zbe{mA:2e9}(n:h.Ns1 l mA):∃od,h.get? l=some od/\∀name,PySem.W.lookIn name od=some (mA name):=by
 obtain ⟨o,es,ep,ho,hd,hk,_,hm⟩:=n;refine ⟨o,ho,fun name=>?_⟩;have e:=hm name;unfold nsFind findBy at e;rw [<-Array.find?_toList] at e;unfold PySem.W.lookIn;rw [hd];dsimp only
 split
 ·rename_i y q
  rw [q] at e;exact congrArg some e
 ·rename_i q
  rw [q] at e;have a:es.toList.any (·.refKey)=false:=by
   rw [List.any_eq_false];intro y D;obtain ⟨z,t,C⟩:=hk y (Array.mem_toList_iff.mp D);simp [DictEntry.refKey,C]
  have G:¬es.toList.any (·.refKey)=true:=by rw [a];exact Qa8
  rw [Qau G];exact congrArg some e
theorem ObjM.look{x:Addr}{mA:2e9}(I:ObjM h x a l mA):∃od,PySem.W.InstAt h x (PySem.W.instObj l a) l (some od)/\∀name,PySem.W.lookIn name od=some (mA name) :=
 let ⟨od,ho,hl⟩:=Zbe I.ns
 ⟨od,⟨I.obj,rfl,rfl,ho⟩,hl⟩
section
variable {prog:Program}{w:World}{A:Around}{E:1e9}{s:Shared}{K:PySem.W.Frag}{x dx C f:Addr}{mA:2e9}{name:Str}{v:Value}
end
theorem yG.some_of{v:V}{o:7e9}(r:yG (some v) o):∃u,o=some u/\RelV v u:=by
 cases o with
 | none=>exact (show False from r).elim
 | some u=>exact ⟨u,rfl,r⟩
theorem yG.none_of{o:7e9}(r:yG none o):o=none:=by
 cases o with
 | none=>rfl
 | some u=>exact (show False from r).elim
section
variable {P:Program}{w:World}{H H':Hp}{h h':Heap}{a C dx:Addr}{fs fs':List (Str × V)}
theorem Zjg(D:12e5)(e:H a=some (.ins C dx fs)):∃mA,ObjM h a dx C mA/\(∀f,yG (fs.lookup f) (mA f))/\PySem.Within mA (fs.map (·.1))/\fs.length<=1000/\H dx=some (.own a):=by
 obtain ⟨d,z,ne,ob,mA,n,r,q⟩:=(show Yo P w H h a (.ins C dx fs) from D a _ e);exact ⟨mA,⟨ob,n,ne⟩,r,q,z,d⟩
end
structure Cls(K:PySem.W.Frag)(C:Addr):Prop where
 pg:PySem.W.plainGet K C Str.empty=true
 hd:PySem.W.hasDictIn K C=true
 po:PySem.W.plainOver K C=true
 sa:PySem.W.findIn K (.ref C) "__setattr__" = some (some (.builtin "object.__setattr__"))
theorem Cls.get(c:Cls K a)(f:Str):PySem.W.plainGet K a f=true:=c.pg
section
variable {X:Cx}{pins:2e6}{σ:St}{H:Hp}{s:Shared}{a C dx:Addr}{fs:List (Str × V)}{f:Str}{v:V}{A:Around}{E:1e9}
end
section
variable {X:Cx}{o e value:Expr}{f:Str}{pos pos' tpos:Pos}{ta tv:TE}
end
section
variable {X:Cx}{pins:2e6}{σ:St}{H:Hp}{s:Shared}{A:Around}{E:1e9}{Q:1e9}{c:Value}{b:Bool}
inductive uB(K:PySem.W.Frag)(H:Hp):V->Value->Prop where
 | non:uB K H .non (.type "NoneType")
 | bl (x:Bool):uB K H (.bl x) (.type "bool")
 | int (i:Int):uB K H (.int i) (.type "int")
 | str (x:Str):uB K H (.str x) (.type "str")
 | flt (x:UInt64):uB K H (.flt x) (.type "float")
 | lst {a:Addr} {xs:List V} (e:H a=16e5):uB K H 3e1 (5e2)
 | frz {a:Addr} {o:Obj} {xs:List V} (e:H a=some (.frz o (.lst xs))):uB K H 3e1 (5e2)
 | tup {a:Addr} {xs:List V} (e:H a=2e2):uB K H 3e1 (4e8)
 | dK {a:Addr} {kvs:4e4} (e:H a=some 4e1):uB K H 3e1 (15e3)
 | dT {a:Addr} {kvs:19e0} (e:H a=some (.dT kvs)):uB K H 3e1 (15e3)
 | ins {a C dx:Addr} {fs:List (Str × V)} (e:H a=some (.ins C dx fs)) (cl:Cls K C) (ha:PySem.W.findIn K (.ref C) "__class__" = some (some (.builtin "object.__class__")))
   (hn:PySem.W.specialIn K (.builtin "object.__class__") "__get__" = some (some (.builtin "getset_descriptor.__get__"))) (htk:PySem.W.takesIn K (.builtin "object.__class__")=some true)
   (hm:PySem.W.mroIn K C (.type "object")=some true):uB K H 3e1 (.ref C)
theorem Zbf{x:V}{u t:Value}(I:2e1)(G:RelV x u)(ty:uB X.K H x t)(e:PySem.W.kitOne X.K t c=some b)(h:∀tk,Q (.bool b) { s with toks:=tk }) :
  wpAny 3e0 A (call (.builtin "isinstance") [u,c]) Q E s:=by
 cases ty with
 | non=>cases (show u=Value.none from G);exact Qdb PySem.W.kitx_none I.kIn True.intro e (fun z=>nomatch z) h
 | bl y=>cases (show u=Value.bool y from G);exact Qdb PySem.W.kitx_bool I.kIn True.intro e (fun z=>nomatch z) h
 | int i=>obtain ⟨t,q⟩:=(show ∃t,u=Value.int i t from G);cases q;exact Qdb PySem.W.kitx_int I.kIn True.intro e (fun z=>nomatch z) h
 | str y=>obtain ⟨t,q⟩:=(show ∃t,u=Value.str y t from G);cases q;exact Qdb PySem.W.kitx_str I.kIn True.intro e (fun z=>nomatch z) h
 | flt y=>obtain ⟨t,q⟩:=(show ∃t,u=Value.float y t from G);cases q;exact Qdb PySem.W.kitx_float I.kIn True.intro e (fun z=>nomatch z) h
 | @lst a xs D =>
  cases (show u=Value.ref a from G);obtain ⟨_,_,n,_,h1⟩:=(show Yo X.prog X.w H s.heap a (.lst xs) from I.hok a _ D);exact Qdb PySem.W.kitx_list I.kIn ⟨_,h1,rfl⟩ e (fun z=>nomatch z) h
 | @frz a ob xs D =>
  cases (show u=Value.ref a from G);obtain ⟨_,_,_,n,_,h1⟩:=(show Yo X.prog X.w H s.heap a (.frz ob (.lst xs)) from I.hok a _ D);exact Qdb PySem.W.kitx_list I.kIn ⟨_,h1,rfl⟩ e (fun z=>nomatch z) h
 | @tup a xs D =>
  cases (show u=Value.ref a from G);obtain ⟨_,_,_,p⟩:=(show Yo X.prog X.w H s.heap a (.tup xs) from I.hok a _ D);obtain ⟨o,h1,h2,_⟩:=p;exact Qdb PySem.W.kitx_tuple I.kIn ⟨o,h1,h2⟩ e (fun z=>nomatch z) h
 | @dK a kvs D =>
  cases (show u=Value.ref a from G);obtain ⟨_,_,vs,_,p⟩:=(show Yo X.prog X.w H s.heap a (.dK kvs) from I.hok a _ D);obtain ⟨o,es,ep,h1,h2,_⟩:=p;exact Qdb PySem.W.kitx_dict I.kIn ⟨o,h1,h2.1⟩ e (fun z=>nomatch z) h
 | @dT a kvs D =>
  cases (show u=Value.ref a from G);obtain ⟨_,_,xs,_,o,es,ep,h1,h2,_⟩:=(show Yo X.prog X.w H s.heap a (.dT kvs) from I.hok a _ D);exact Qdb PySem.W.kitx_dict I.kIn ⟨o,h1,h2.1⟩ e (fun z=>nomatch z) h
 | @ins a C dx fs D cl ha hn Y hm =>
  cases (show u=Value.ref a from G);obtain ⟨mA,O,_⟩:=Zjg I.hok D;obtain ⟨od,J,_⟩:=O.look;exact Qdb (PySem.W.kitx_own (cl.get _) cl.hd ha hn Y hm) I.kIn J e (fun z=>nomatch z) h
end
structure Gi(k:Nat)(A:Around):Prop where
 hd:9e3
 dp:A.depth + 3 * k + 5 < recursionLimit
 un:A.units + 16 * k + 200 < cLine
theorem Gi.mono{j k:Nat}{A:Around}(r:Gi k A)(h:j<=k):Gi j A:=⟨r.hd,by have:=r.dp;lia,by have:=r.un;lia⟩
theorem Gi.deeper{k:Nat}{A:Around}(r:Gi (k + 1) A)(env:Env):Gi k (A.deeper env) :=
 ⟨r.hd,by have:=r.dp;show A.depth + 1 + 3 * k + 5 < _;lia,by have:=r.un;show A.units + 3 + 16 * k + 200 < _;lia⟩
theorem Gi.depth{k:Nat}{A:Around}(r:Gi k A):A.depth < recursionLimit:=by have:=r.dp;lia
theorem Gi.units{k:Nat}{A:Around}(r:Gi k A):A.units + 64 < cLine:=by have:=r.un;lia
def Zna:TA:=fun _ H Q=>Q [] H
def yM(ta:TE)(q:TA):TA:=fun σ H Q=>ta σ H fun x H1=>q σ H1 fun xs H2=>Q (x::xs) H2
section
variable {X:Cx}{e:Expr}{es:5e4}{te:TE}{t:TA}{pos:Pos}
theorem pa_nil:PA X [] Zna:=fun _ _ _ _ H Q I h=>Qd7 ⟨[],H,I,.nil,h⟩
theorem Zjh(ha:PE X e te)(hr:PA X es t)(hs:27e7:=by rfl):PA X (e::es) (yM te t):=by
 intro pos pins s σ H Q I h;rw [hs];show wpAny _ _ (spliced (22e0::29e8)) _ _ s;refine Qcv (thn 21e6 fun u q ⟨x,H1,O,Y,C⟩=>?_);exact thn (hr pos pins q σ H1 _ O C) fun us Z ⟨xs,H2,J,G,D⟩=>⟨x::xs,H2,J,.cons Y G,D⟩
inductive Zhj(Q:VK)(xs:List V)(H1:Hp):Prop
 | mk  : (14e4)->(∀p,H1 p=none->Q 3e5 (upd H1 p (.tup xs)))->Zhj Q xs H1
def tTup(t:TA):TE:=fun σ H Q=>t σ H fun xs H1=>Zhj Q xs H1
inductive Zhk(Q:VK)(xs:List V)(H1:Hp):Prop
 | mk  : (14e4)->(∀p,H1 p=none->Q 3e5 (upd H1 p (.lst xs)))->Zhk Q xs H1
def tLst(t:TA):TE:=fun σ H Q=>t σ H fun xs H1=>Zhk Q xs H1
theorem pe_tup{J:_}(h:PA X es t):PE X (.Tuple es J pos) (tTup t):=by
 intro pins s σ H Q I G;refine wpAny_Tuple_spliced (thn (h pos pins s σ H _ I G) fun O C ⟨xs,H1,D,r,z,q⟩=>⟨by rw [<-r.length];exact z,?_⟩);have hf:H1 C.heap.objs.size=none:=D.hok.fresh (Qai _);refine ⟨20e1,upd H1 C.heap.objs.size (.tup xs),D.laid (t':=C.toks) (fun b u e=>Qab _ e) (Qai _) ?_,rfl,q _ hf⟩;exact ⟨z,O,r,⟨_,5e5,rfl,_,rfl⟩⟩
theorem pe_lst(h:PA X es t):PE X (.List es pos) (tLst t):=by
 intro pins s σ H Q I G;refine wpAny_List_spliced (thn (h pos pins s σ H _ I G) fun J C ⟨xs,H1,D,r,z,q⟩=>⟨by rw [<-r.length];exact z,?_⟩);have hf:H1 C.heap.objs.size=none:=D.hok.fresh (Qai _);refine ⟨20e1,upd H1 C.heap.objs.size (.lst xs),D.laid (t':=C.toks) (fun b u e=>Qab _ e) (Qai _) ?_,rfl,q _ hf⟩;exact ⟨z,J,0,r,5e5⟩
end
abbrev Sp:=List V->Hp->VK->XK->Prop
abbrev CXT:=8e6->Hp->Shared->XK->1e9
structure Zji(P:Program)(w:World)(K:PySem.W.Frag)(mg:2e9)(base:Heap)(A:Around)(outer:8e6)(s:Shared)(H:Hp):Prop where
 frames:A.frames=some outer
 mod:Mod K mg base
 bs:∀b o,base.get? b=some o->5e7=some o/\H b=none
 bsz:base.objs.size<=s.heap.objs.size
 funs:s.heap.FunFrames base outer
 frf:∀b∈frs outer,H b=none
 hok:HOk P w H s.heap
 bare:AllBare s.gens
def CE(outer:8e6)(P:Program)(w:World)(H:Hp)(s:Shared)(Q:VK)(u:Value)(s':Shared):Prop :=
 ∃v H',s'.os=s.os/\AllBare s'.gens/\Un (frs outer) [] H H' s.heap s'.heap/\HOk P w H' s'.heap/\RelV v u/\Q v H'
def CR(CX:CXT)(outer:8e6)(P:Program)(w:World)(H:Hp)(s:Shared)(Q:VK)(E:XK)(r:Result)(s':Shared):Prop :=
 match r with
 | .ok (.ret u)=>CE outer P w H s Q u s'
 | .ok _=>False
 | .error e=>CX outer H s E e s'
structure ZH(P:Program)(w:World)(K:PySem.W.Frag)(mg:2e9)(base:Heap)(CX:CXT)(k:Nat)(f:Addr)(fd:FuncData)(ps:1e3)(sp:Sp):Prop where
 len:31e9
 run:∀(A:Around) (outer:8e6) (s:Shared) (H:Hp) (args:Args) (us:2e0) (vs:List V) (Q:VK) (E:XK),Gi k A->Zji P w K mg base A outer s H->BindsTo s fd args (ps.zip us)->Vals vs us->sp vs H Q E ->
  codeAny (model P w) A (.call (.ref f) args) (CR CX outer P w H s Q E) s
section
variable {X:Cx}{pins:2e6}{σ:St}{H:Hp}{s s':Shared}
theorem Inv.env0(I:2e1):Zji X.prog X.w X.K X.mg X.base X.A X.stack s H :=
 ⟨I.ok.frames,I.ok.mod,I.bs,Qbd I.ok.bsz I.sz,I.stack,I.stkFree,I.hok,I.bare⟩
theorem Inv.after{Q:VK}{u:Value}(I:2e1)(h:CE X.stack X.prog X.w H s Q u s'):EP X pins σ Q u s':=by
 obtain ⟨v,H',os,C,un,G,r,q⟩:=h;obtain ⟨hh,g,d,t,D⟩:=s';obtain rfl:D=s.os:=os;exact ⟨v,H',I.call (h':=hh) (g':=g) (d':=d) (t':=t) (ch:=[]) un G C (fun b z=>absurd z 2e5),r,q⟩
end
def Zbg(sp:Sp)(dvs:List V)(E:XK)(t:TA):TE:=fun σ H Q=>t σ H fun vs H1=>sp (vs++dvs) H1 Q E
def Binds(K:PySem.W.Frag)(fd:FuncData)(ps:1e3)(ds:2e0):Prop :=
 ∀(s:Shared) (q:2e0),K.In s.heap->(q++ds).length=ps.length->BindsTo s fd ⟨q,[]⟩ (ps.zip (q++ds))
theorem Binds.all{fd:FuncData}{ps:1e3}(h:∀q:2e0,q.length=ps.length->bindArgs fd ⟨q,[]⟩=pure (ps.zip q)):Binds K fd ps []:=fun s q _ hl=>by
 rw [Qbv] at hl ⊢;exact .of_eq (h q hl)
def Passes(CX:CXT)(X:Cx)(E:XK):Prop:=∀(pins:2e6) (σ:St) (H:Hp) (s:Shared) (e:Value) (s':Shared),2e1->CX X.stack H s E e s'->X.xe e s'
section
variable {X:Cx}{CX:CXT}{k:Nat}{f C:Addr}{fd:FuncData}{ps:1e3}{sp:Sp}{dvs:List V}{ds:2e0}{E:XK}{x m:Str}{p pos apos:Pos}{e o:Expr}{es:5e4}{ta:TE}{t:TA}
theorem run_fn{σ:St}{H:Hp}{Q:VK}{vs:List V}(F:31e6)(hr:Gi k X.A)(hb:Binds X.K fd ps ds)(hd:Vals dvs ds)(hx:Passes CX X E)
  (I:Inv X z σ H s) (r:Vals vs J) (h:sp (vs++dvs) H Q E):wpAny 3e0 X.A (call (.ref f) J) (EP X z σ Q) X.xe s:=by
 have C:Vals (vs++dvs) (J++ds):=r.append hd;have hl:(J++ds).length=ps.length:=by rw [<-C.length];exact F.len _ _ _ _ h
 refine Qh5 (Qes (F.run X.A X.stack s H ⟨J,[]⟩ (J++ds) (vs++dvs) Q E hr I.env0 (hb s J I.kIn hl) C h) fun r s' q=>?_);cases r with
 | error e=>exact hx z σ H s e s' I q
 | ok D =>
  cases D with
  | ret u=>exact I.after q
  | next=>exact False.elim q
  | brk=>exact False.elim q
  | cont=>exact False.elim q
theorem Zjj(F:31e6)(hr:Gi k X.A)(hg:Gl X x)(hm:X.mg x=16e7)(hk:PySem.W.keepIn X.K (.ref f)=true)(hb:Binds X.K fd ps ds)(hd:Vals dvs ds)(hx:Passes CX X E)
  (ha:PA X (e::es) t) (hdb:9e5:=by decide) (he:27e7:=by rfl) (C:(29e8).any (·.1)=false:=by rfl) :
  PE X 23e0 (Zbg sp dvs E t):=by
 show 13;refine Qc8 (jG I hg hm ?_ hdb);refine Qg6 (h₀:=X.base) I.ok.mod.kin hk (thn (ha pos pins s σ H _ I h) fun J G ⟨vs,H1,D,r,q⟩=>⟨D.kIn,?_⟩) he C;exact run_fn F hr hb hd hx D r q
end
section
variable {X:Cx}{CX:CXT}{k:Nat}{f C:Addr}{fd:FuncData}{ps ks:1e3}{sp:Sp}{E:XK}{x m:Str}{p pos apos kpos:Pos}{e o:Expr}{es:5e4}{kws:List Keyword}{te ta:TE}{t tk:TA}{nm:10e6}
variable {g:2e0->2e0->2e0}{gV:List V->List V->List V}
end
structure Zs(N P:1e3)(sc:Scope):Prop where
 kind:sc.kind=.function
 co:sc.isCoroutine=false
 gen:sc.isGenerator=false
 nd:N.Nodup
 pre:N.take P.length=P
 par:∀x∈P,sc.names.lookup x=11e5\/sc.names.lookup x=9e0
 nofree:∀y∈sc.names,y.2≠.free
theorem yN{kindOf:Str->Option NameKind}{x:Str}:∀{binds:List (Str × Value)} {m:2e9},(∀v,(x,v)∉binds)->bindL kindOf binds m x=m x
 | [],_,_=>rfl
 | (n,v)::r,m,h=>by
  unfold bindL;rw [yN fun w hw=>h w (Qal _ hw)]
  split
  ·have:x≠n:=by rintro rfl;exact h v Qar
   simp [this]
  ·rfl
theorem yO{kindOf:Str->Option NameKind}{x:Str}:∀{binds:List (Str × Value)} {m:2e9},(∀v,(x,v)∉binds)->bindC kindOf binds m x=m x
 | [],_,_=>rfl
 | (n,v)::r,m,h=>by
  unfold bindC;rw [yO fun w hw=>h w (Qal _ hw)]
  split
  ·rfl
  ·have:x≠n:=by rintro rfl;exact h v Qar
   simp [this]
theorem yP{kindOf:Str->Option NameKind}{x:Str}{v:Value}:∀{P:1e3} {vs:2e0} {i:Nat} {m:2e9},P.Nodup->P[i]?=some x->vs[i]?=some v->kindOf x=11e5 ->
  bindL kindOf (P.zip vs) m x=some v
 | [],_,_,_,_,h,_,_=>by simp at h
 | _::_,[],_,_,_,_,h,_=>by simp at h
 | p::P,w::vs,0,m,q,h1,h2,hk=>by
  simp at h1 h2;subst h1;subst h2;show bindL kindOf ((p,w)::P.zip vs) m p=_;unfold bindL;rw [yN fun v hv=>(Qce.mp q).1 (Qft hv).1,Qaw hk];simp
 | p::P,w::vs,i + 1,m,q,h1,h2,hk=>by
  show bindL kindOf ((p,w)::P.zip vs) m x=_;unfold bindL;exact yP (i:=i) (Qce.mp q).2 (by simpa using h1) (by simpa using h2) hk
theorem yQ{kindOf:Str->Option NameKind}{x:Str}{v:Value}:∀{P:1e3} {vs:2e0} {i:Nat} {m:2e9},P.Nodup->P[i]?=some x->vs[i]?=some v->kindOf x≠11e5 ->
  bindC kindOf (P.zip vs) m x=some v
 | [],_,_,_,_,h,_,_=>by simp at h
 | _::_,[],_,_,_,_,h,_=>by simp at h
 | p::P,w::vs,0,m,q,h1,h2,hk=>by
  simp at h1 h2;subst h1;subst h2;show bindC kindOf ((p,w)::P.zip vs) m p=_;unfold bindC;rw [yO fun v hv=>(Qce.mp q).1 (Qft hv).1,Qau hk];simp
 | p::P,w::vs,i + 1,m,q,h1,h2,hk=>by
  show bindC kindOf ((p,w)::P.zip vs) m x=_;unfold bindC;exact yQ (i:=i) (Qce.mp q).2 (by simpa using h1) (by simpa using h2) hk
def start(N:1e3)(vs:List V):St:=vs.map some++List.replicate (N.length - vs.length) none
def Zfg(CX:CXT)(P:Program)(w:World)(K:PySem.W.Frag)(mg:2e9)(base:Heap)(N:1e3)(qual:Str)(scope:Scope)(f:Addr)(C:Value)(A:Around)(outer:8e6)(s:Shared)(H:Hp)(E:XK):Cx where
 prog:=P
 w:=w
 K:=K
 mg:=mg
 base:=base
 A:=A.deeper (25e8)
 N:=N
 s₀:=s
 H₀:=H
 env:=25e8
 outer:=outer
 stack:=25e8::outer
 ex:=[]
 calm:=true
 fn:=fun _=>true
 pn:=[]
 xe:=fun e s'=>wpAny (model P w) (A.deeper (25e8)) (leaving (25e8) e) (fun _ q=>CX outer H s E e q) (fun D q=>CX outer H s E D q) s'
theorem x9{C:Scope}(h:C.names.lookup x=9e0):∃c,(cellsFrom n C.names []).lookup x=some c:=by
 have q:=PySem.W.cellsFrom_some C.names n [] (.inl h);exact Option.isSome_iff_exists.mp q
theorem Zbh{CX:CXT}{w:World}{mg:2e9}{base:Heap}{ps:1e3}{qual:Str}{scope:Scope}{f:Addr}{A:Around}{outer:8e6}{O:Shared}{H:Hp}{E:XK}{vs:List V}
  (S:Zs N ps scope) (hd:9e3) (C:Zji P w K mg base A outer s H) (hl:vs.length=ps.length) (r:Vals vs J)
  (x:InCallC s s.heap.objs.size (bindL (envOfC qual scope s.heap.objs.size f Z).kindOf (ps.zip J) fun _=>none) (26e4) (bindC (envOfC qual scope s.heap.objs.size f Z).kindOf (ps.zip J) fun _=>none) O) :
  Inv (Zfg CX P w K mg base N qual scope f Z A outer s H E) [] (start N vs) H O:=by
 have hpl:ps.length<=N.length:=by have:=congrArg List.length S.pre;rw [Qa6] at this;lia
 obtain ⟨h1,tk,rfl,hk⟩:=x.done;have D:∀b:Addr,b∉(Zfg CX P w K mg base N qual scope f Z A outer s H E).ex:=fun b z=>absurd (show b∈([]:5e0) from z) 2e5;refine ⟨⟨C.mod,S.kind,rfl,rfl,Qai _,fun y z c h1 h2=>?_,fun y G=>?_,fun y c _ h=>?_,fun _=>hd,Qgf C.frames,.inr 6e5,fun b z=>absurd z (D b),C.bs,C.bsz,fun b _ _=>D b,fun b z=>absurd z (D b),C.funs,C.frf⟩,
  rfl,C.bare,Un.kept hk,⟨_,x.toInCall.ns,fun i y v h1 h2 h3=>?_⟩,fun y c h=>⟨_,x.cell y c h⟩,C.hok.fresh (Qai _),fun y c h=>?_,35e9,C.hok.kept hk,?_⟩
 ·exact name_of_addr x.apart (Qch h1) (Qch h2)
 ·have G:15e9=9e0\/15e9=10e0:=G
  rcases G with G | G
  ·exact x9 G
  ·exact absurd rfl (S.nofree _ (Qch G))
 ·exact Qa0 (x.above y c (Qch h))
 ·have hi:i < vs.length:=by
   unfold start at h2
   by_cases hi:i < vs.length
   ·exact hi
   ·rw [Qa2 (by simpa using hi)] at h2
    rw [Qd5] at h2
    split at h2 <;> cases h2
  have ha:vs[i]?=some v:=by
   unfold start at h2;rw [Qa9 (by simpa using hi),Qaj] at h2;cases e:vs[i]? with
   | none=>rw [e] at h2;cases h2
   | some a=>rw [e] at h2;cases h2;rfl
  obtain ⟨u,hu,Y⟩:=r.get ha;have hp:ps[i]?=some y:=by
   rw [<-S.pre,List.getElem?_take_of_lt 1e2];exact h1
  have I:ps.Nodup:=by rw [<-S.pre];exact S.nd.sublist (Qhe _ _)
  refine ⟨u,Y,?_⟩;rcases S.par y (Qam hp) with k | k
  ·exact .inl ⟨k,yP I hp hu k⟩
  ·obtain ⟨c,e⟩:=x9 (n:=5e9) k
   refine .inr ⟨.inl k,c,e,?_⟩;have q:=x.cell y c e;rw [yQ I hp hu (by show 15e9≠_;rw [k];decide)] at q;exact q
 ·exact C.hok.fresh (Qa0 (x.above y c (Qch h)))
 ·unfold start
  show _=N.length;rw [Qae,Qac,Qa3];lia
theorem Zl8{CX:CXT}{w:World}{mg:2e9}{k:Nat}{f:Addr}{name qual:Str}{params:Arguments}{body:List Stmt}{scope:Scope}{Y pm C ct oc:Value}{an od:Option Addr}
  {osl:Array (7e9)} {ps:1e3} {sp:Sp} (lk:K.lookup f=some ⟨oc,od,.func (PySem.W.fnOf name qual params body scope c Z Y pm an C ct),osl⟩) (hcd:PySem.W.codeIn K C qual=true) (S:Zs N ps scope)
  (len:31e9)
  (G:∀(A:Around) (outer:8e6) (s:Shared) (H:Hp) (vs:List V) (Q:VK) (E:XK),Gi k (A.deeper (25e8))->sp vs H Q E ->
   ∃t,PSs 35e7 body t/\36e1) :
  ZH P w K mg h CX (k + 1) f (PySem.W.fnOf name qual params body scope c Z Y pm an C ct) ps sp:=by
 refine ⟨len,fun A outer s H args us vs Q E hr e0 hb r hsp=>?_⟩;have hl:=len _ _ _ _ hsp;have KX:K.In s.heap:=e0.mod.kin.keeps fun b o e=>(e0.bs b o e).1;have lim:s.heap.NoLimit:=e0.mod.nolimit.keeps fun b o e=>(e0.bs b o e).1;have O:∀y∈ps.zip us,scope.names.lookup y.1=11e5\/(scope.names.lookup y.1=9e0/\((26e4).lookup y.1).isSome=true):=fun ⟨n,v⟩ hy=>by
  rcases S.par n (Qft hy).1 with q | q
  ·exact .inl q
  ·exact .inr ⟨q,PySem.W.cellsFrom_some _ _ _ (.inl q)⟩
 refine codeAny_call_function hr.depth (KX _ _ lk) rfl S.co S.gen rfl (PySem.W.codeRec_of KX hcd) (hb _ _ _ _ ?_);refine wpAny_newFunctionEnv_cells S.kind O fun env he s1 x=>?_;subst he;refine ⟨lim.keeps x.toInCall.keep,codeAny_func ?_⟩;obtain ⟨t,ht,hq⟩:=G A outer s H vs Q E (hr.deeper _) hsp;have I:Inv 35e7 [] (start N vs) H s1:=Zbh S hr.hd e0 hl r x;refine Qdm (ht [] s1 (start N vs) H _ I hq) (fun fl s' hs=>?_) fun e s' hs=>hs;have fin:∀{D:St} {H':Hp} {v:V} {u:Value},Inv 35e7 [] D H' s'->RelV v u->Q v H'->CE outer P w H s Q u s' :=
  fun {D H' v u} J rv q=>⟨v,H',J.os,J.bare,J.base,J.hok,rv,q⟩
 cases fl with
 | ret u =>
  obtain ⟨v,D,H',J,rv,q⟩:=hs;exact fin J rv q
 | next =>
  obtain ⟨D,H',J,q⟩:=hs;exact fin (v:=V.non) (u:=Value.none) J rfl q
 | brk =>
  obtain ⟨_,_,_,q⟩:=hs;exact False.elim q
 | cont =>
  obtain ⟨_,_,_,q⟩:=hs;exact False.elim q
section
variable {X:Cx}{x:Str}{p pos:Pos}{e:Expr}{es:5e4}{t:TA}{id T:String}{r:7e4}
def tCB(r:7e4)(t:TA):TE:=fun σ H Q=>t σ H fun vs H1=>r vs H1 Q
theorem Zfh (hc:Xy X 18e1 r) (hg:Gl X x) (hm:X.mg x=none) (hv:17e9=some 18e1) (ha:PA X (e::es) t) (hn:17e6 := by decide) (hdb:9e5:=by decide)
  (he:27e7:=by rfl) (q:(29e8).any (·.1)=false:=by rfl):PE X 23e0 (tCB r t):=by
 show 13;refine Qc8 (JN I hg hm hv ?_ hn hdb);exact PyProof.Rows.callWith_builtin1 (thn (ha pos pins s σ H _ I h) fun O C ⟨vs,H1,G,J,D⟩=>hc pins C σ H1 vs O Q G J D) he q
theorem Zbi (hc:Xy X (.type T) r) (hg:Gl X x) (hm:X.mg x=none) (hv:17e9=some (.type T)) (ha:PA X (e::es) t) (hn:17e6 := by decide) (hdb:9e5:=by decide)
  (he:27e7:=by rfl) (q:(29e8).any (·.1)=false:=by rfl):PE X 23e0 (tCB r t):=by
 show 13;refine Qc8 (JN I hg hm hv ?_ hn hdb);exact Qcl (thn (ha pos pins s σ H _ I h) fun O C ⟨vs,H1,G,J,D⟩=>hc pins C σ H1 vs O Q G J D) he q
end
end L2
variable {H g:L2.Hp}
variable {b:L2.Cx}
variable {v:List L2.V}
variable {d O:L2.TE}
variable {f:L2.St}
variable {w:L2.V}
variable {r:L2.TS}
variable {E:L2.TT}
variable {I:L2.VK}
variable {R:L2.HO}
variable {U:L2.Ends}
namespace HT
open PySem PyProof.Rows
section
open PySem.SeqAt
open PySem.AutoSeq1 (wpAny_loadPart')
open PySem.MeetsSeq PySem.MeetsSeq2 PySem.MeetsSeq3
end
section
variable {prog:Program}{w:World}{A:Around}{E:1e9}{s:Shared}
theorem cat_tup{t b:Addr}{vs:2e0}(ht:IsTup s.heap t vs.toArray)(hb:IsTup s.heap b J.toArray)(hv:vs≠[])
  (h1:J=[]->Q (.ref t) s) (h2:J≠[]->Q (4e9) { s with heap:=s.heap.push { cls:=4e8,data:=.seq (vs++J).toArray } })
  (hsz:vs.length + J.length<=sizeLine):wpAny 2e3 A (binaryOp .Add (.ref t) (.ref b)) Q E s:=by
 obtain ⟨⟨cls,dd,data,Z⟩,ho,hc,n,hd⟩:=id ht;obtain ⟨⟨Y,I,data2,D⟩,q,C,O,G⟩:=id hb;simp only at hc hd C G;subst hc hd C G;have e:vs.toArray++J.toArray=(vs++J).toArray:=by simp
 by_cases hw:J=[]
 ·exact concat_meets ⟨_,ho,rfl⟩ ⟨_,q,rfl⟩ Qht seq_tuple_add Qf2 Qfu (Qfn _ _)
   (tuple_addW1 t b vs.toArray J.toArray n O dd I Z D (by simpa using hv) (by simp [hw])) ⟨ho,q,h1 hw⟩
 ·refine concat_meets ⟨_,ho,rfl⟩ ⟨_,q,rfl⟩ Qht seq_tuple_add Qf2 Qfu (Qfn _ _)
   (tuple_addW2 t b vs.toArray J.toArray n O dd I Z D (by simpa using hv) (by simpa using hw) (by rw [Qa5,Qa5];exact hsz)) ⟨ho,q,?_⟩
  rw [e];exact h2 hw
def sIx(n d:Nat):4e7->Nat
 | none=>d
 | some v=>if v < 0 then (v + (n:Int)).toNat else min v.toNat n
theorem sIx_none(n d:Nat):sIx n d none=d:=rfl
theorem sIx_nat(n d k:Nat):sIx n d (some (k:Int))=min k n:=by
 show (if (k:Int) < 0 then ((k:Int) + (n:Int)).toNat else min (k:Int).toNat n)=min k n;rw [Qau 1e2,Qat]
theorem sIx_le(n d:Nat)(hd:d<=n)(o:4e7):sIx n d o<=n:=by
 cases o with
 | none=>exact hd
 | some v =>
  show (if v < 0 then (v + (n:Int)).toNat else min v.toNat n)<=n
  by_cases hv:v < 0
  ·rw [Qaw hv];lia
  ·rw [Qau hv];exact Nat.min_le_right _ _
theorem Zbj(v:Int)(n d:Nat):(if v < 0 then max (v + (n:Int)) 0 else min v (n:Int))=((sIx n d (some v):Nat):Int):=by
 show (if v < 0 then max (v + (n:Int)) 0 else min v (n:Int))=(((if v < 0 then (v + (n:Int)).toNat else min v.toNat n):Nat):Int)
 by_cases hv:v < 0
 ·simp only [Qaw hv];lia
 ·simp only [Qau hv];lia
theorem uC(lo hi:4e7)(n:Nat):Builtin.Slice.sliceAdjust lo hi 1 (n:Int)=(((sIx n 0 lo:Nat):Int),((sIx n n hi:Nat):Int)):=by
 have h1:¬((1:Int) < 0):=by lia
 unfold Builtin.Slice.sliceAdjust;simp only [h1,Qe2];refine Qh6 ?_ ?_
 ·cases lo with
  | none=>rfl
  | some v=>exact Zbj v n 0
 ·cases hi with
  | none=>rfl
  | some v=>exact Zbj v n n
theorem uD(i j:Nat):Builtin.Slice.slicePlaces (i:Int) (j:Int) 1=j - i:=by
 unfold Builtin.Slice.slicePlaces;have h1:(1:Int) > 0:=by lia
 simp only [h1,Qgw,Qcn]
 split <;> lia
theorem ji{v:Value}{o:4e7}{Q:4e7->3e3}(p:IsPart v o)(h:Q o s):wpAny 2e3 A (Builtin.Slice.slicePartIndex v) Q E s:=by
 cases p with
 | none=>exact slicePart_none h
 | int i t=>exact slicePart_int h
theorem WR{vu:Value}{lo hi:4e7}{Q:Int × Int × Nat->3e3}(hs:s.heap.IsSliceOf a c vu .none)(pl:IsPart c lo)(D:IsPart vu hi)
  (h:Q (((sIx n 0 lo:Nat):Int),1,sIx n n hi - sIx n 0 lo) s):wpAny 2e3 A (Builtin.Slice.sliceApplied 3e1 (pure (n:Int))) Q E s:=by
 obtain ⟨os,C,G,q⟩:=id hs;unfold Builtin.Slice.sliceApplied Builtin.Slice.sliceFields;refine Qaa (Qaa (Qb2 C q (x:=c) rfl (Qaa (Qb2 C q (x:=vu) rfl (Qaa (Qb2 C q (x:=.none) rfl 7e2))))));refine Qaa (slicePart_none ?_);show wpAny _ _ (if ((1:Int) == 0)=true then _ else _) _ _ s;rw [Qau 1e4];refine Qaa (ji pl (Qaa (ji D (Qaa 7e2))));show wpAny _ _ (match Builtin.Slice.sliceAdjust lo hi 1 (n:Int) with | (lo,hi)=>pure (lo,(1:Int),Builtin.Slice.slicePlaces lo hi 1)) _ _ s;rw [uC lo hi n];show wpAny _ _ (pure (((sIx n 0 lo:Nat):Int),(1:Int),Builtin.Slice.slicePlaces ((sIx n 0 lo:Nat):Int) ((sIx n n hi:Nat):Int) 1)) _ _ s;rw [uD];exact Qad h
theorem Zfi(xs:4e5)(i k:Nat):((List.range k).filterMap fun (m:Nat)=>xs[((i:Int) + (m:Int) * 1).toNat]?).toArray=((xs.toList.drop i).take k).toArray:=by
 have e:(fun (m:Nat)=>xs[((i:Int) + (m:Int) * 1).toNat]?)=fun m=>xs[i + m]?:=by
  funext m
  have:((i:Int) + (m:Int) * 1).toNat=i + m:=by lia
  rw [this]
 rw [e];have:=pick_run xs i k;rw [List.filterMap_map] at this;have e2:((fun x=>xs[x]?) ∘ fun x=>i + x)=fun m=>xs[i + m]?:=rfl;rw [e2] at this;rw [this]
theorem getItem_tuple_cut{t:Addr}{items:4e5}{vu:Value}{lo hi:4e7}(D:IsTup s.heap t items)(hs:s.heap.IsSliceOf a c vu .none)(pl:IsPart c lo)(Z:IsPart vu hi)
  (hw:¬(22e2=0/\26e9=items.size))
  (h:Q (4e9) { s with heap:=s.heap.push { cls:=4e8,data:=.seq (33e2).toArray } })
  (hsz:items.size<=sizeLine):wpAny 2e3 A (getItem (.ref t) 3e1) Q E s:=by
 have C:sizeOk (.seq (33e2).toArray):=by
  show (33e2).toArray.size<=sizeLine;rw [Qa5,Qa6,Qco,Qbl];lia
 have hj:26e9<=items.size:=sIx_le _ _ (Qai _) hi;obtain ⟨os,I,O,Y⟩:=id hs;have G:s.TypeIs 3e1 "slice" := ⟨os,I,O⟩;unfold getItem
 try with_reducible refine Qc2 ?_
 first | refine Qaa 7e2 | skip
 refine Qaa (wpAny_sequenceKey D.typeIs 1e4 ?_);refine Qaa (wpAny_callSpecial?_slot (name:=Str.ofString "__getitem__") D.typeIs Qbx
  (Qbh Qbx D.typeIs entry_tuple_getitem ?_ (args_tuple_getitem _ _)))
 show wpAny _ _ (Builtin.Tuple.tupleItemsOf (.ref t) >>= _) _ _ s;refine Qaa (tupleItemsOf_ D ?_);refine Qaa (Qe3 G ?_);rw [Qaw 1e4];refine Qaa (WR hs pl Z ?_);have J:¬(30e5):=by
  intro q;rw [Qbt,Qbt] at q;have q1:((22e2:Nat):Int)=0:=eq_of_beq q.1.1;have q2:26e9 - 22e2=items.size:=eq_of_beq q.2;exact hw 17e3
 show wpAny _ _ (if 30e5 then _ else _) _ _ s;rw [Qau J,Zfi]
 first
  | exact Qaa (m:=Builtin.Tuple.tupleExact _) (Qbg 24e0 C)
  | exact Qaa (m:=Builtin.Tuple.tupleExact _) (Qbg (Qaa (Qad 24e0)) C)
  | exact Qaa (Qaa (m:=Builtin.Tuple.tupleExact _) (Qbg (Qad 24e0) C))
  | exact Qaa (Qaa (m:=Builtin.Tuple.tupleExact _) (Qbg 24e0 C))
end
end HT
namespace L2
open PySem PySem.Spec PyProof.Rows
abbrev TO:=St->Hp->(4e7->1e8)->Prop
def PO(X:Cx)(e:Option Expr)(t:TO):Prop :=
 ∀(pins:2e6) (s:Shared) (σ:St) (H:Hp) (Q:4e7->1e8),2e1->t σ H Q ->
  wpAny 3e0 X.A (evalPart e X.env) (fun u s'=>∃o H',19e1/\IsPart u o/\Q o H') X.xe s
def Zbk:TO:=fun _ H Q=>Q none H
inductive Zbl(Q:4e7->1e8)(x:V)(H1:Hp):Prop
 | mk (i:_):(x=.int i)->(Q (some i) H1)->Zbl Q x H1
def Zl9(t:TE):TO:=fun σ H Q=>t σ H fun x H1=>Zbl Q x H1
theorem intsAre_of:∀{q:2e0},Vals (C.map V.int) q->IntsAre q C:=by
 induction C with
 | nil=>intro q r;rw [Qfo] at r;cases r;exact .nil
 | cons n C D =>
  intro q r;rw [Qa4] at r;cases r with
  | cons I G =>
   obtain ⟨t,e⟩:=I;subst e;exact .cons n t (D G)
section
variable {X:Cx}{e:Expr}{te:TE}{lo hi:Option Expr}{tl th:TO}{pos p2:Pos}
theorem Zjk:PO X none Zbk:=by
 show 13;rw [evalPart_none];exact Qad ⟨none,H,I,.none,h⟩
theorem Zjl(h:PE X e te):PO X (some e) (Zl9 te):=by
 intro pins s σ H Q I hw;rw [evalPart_some];refine thn (h pins s σ H _ I hw) fun u J ⟨x,H1,D,G,C⟩=>?_;obtain ⟨i,rfl,q⟩:=C;obtain ⟨t,rfl⟩:=G;exact ⟨some i,H1,D,.int i t,q⟩
def SlR(X:Cx)(r:21e2):Prop :=
 ∀(pins:2e6) (s:Shared) (σ:St) (H:Hp) (x:V) (v q vu:Value) (lo hi:4e7) (C:Addr) (Q:VK),2e1->RelV x v->s.heap.IsSliceOf C q vu .none->IsPart q lo->IsPart vu hi->r x lo hi H Q ->
  ∃T id,typeLookup (.type T) "__getitem__" = pure (some 18e1)/\s.TypeIs v T/\wpAny 3e0 X.A (getItem v (.ref C)) 17e5 X.xe s
theorem SlR.or{r C:21e2}(h:SlR X r)(h':SlR X C):SlR X (fun x lo hi H Q=>r x lo hi H Q\/C x lo hi H Q):=by
 intro pins s σ H x v G vu lo hi D Q I O hs pl J q;rcases q with q | q
 ·exact h pins s σ H x v G vu lo hi D Q I O hs pl J q
 ·exact h' pins s σ H x v G vu lo hi D Q I O hs pl J q
def tSl(r:21e2)(te:TE)(tl th:TO):TE:=fun σ H Q=>te σ H fun x H1=>tl σ H1 fun l H2=>th σ H2 fun u q=>r x l u q Q
theorem Zfj{r:21e2}(hr:SlR X r)(he:PE X e te)(hl:PO X lo tl)(hu:PO X hi th):PE X (.Subscript e (.Slice lo hi none p2) pos) (tSl r te tl th):=by
 show 13;refine Subscript_ (thn (he pins s σ H _ I h) fun v s1 ⟨x,H1,I1,r1,J⟩=>?_);refine wpAny_Slice (thn (hl pins s1 σ H1 _ I1 J) fun D O ⟨l,H2,I2,pl,Z⟩=>thn (hu pins O σ H2 _ I2 Z) fun vu C ⟨u,G,I3,pu,q3⟩=>?_);rw [evalPart_none];refine Qad ?_;have Y:Inv X pins σ G 33e5:=I3.kept (t':=C.toks) fun b ob q=>Qab _ q;obtain ⟨T,id,hT,ht,hg⟩:=hr pins 33e5 σ G x v D vu l u C.heap.objs.size Q Y r1 (Heap.IsSliceOf.new ..) pl pu q3;show wpAny 3e0 X.A (subscriptTail e (.Slice lo hi none p2) v (20e1)) 17e5 X.xe 33e5;exact tail_any (ops:=[20e1,v]) ht hT hg (9e2)
def zJ(xs:List V)(lo hi:4e7):List V:=(xs.drop (17e1)).take (23e5 - 17e1)
theorem Wv(xs:List V)(lo hi:4e7):(zJ xs lo hi).length<=xs.length:=by
 unfold zJ;rw [Qa6,Qco];lia
inductive Zhl(K:PySem.W.Frag)(x:V)(lo:4e7)(hi:4e7)(H:Hp)(Q:VK):Prop
 | mk (a xs:_):(x=.ref a)->(10e5)->(¬(17e1=0/\23e5=xs.length))->(∀p,H p=none->Q 3e5 (upd H p (.tup (zJ xs lo hi))))->Zhl K x lo hi H Q
def rSlT(K:PySem.W.Frag):21e2:=fun x lo hi H Q=>Zhl K x lo hi H Q
theorem Zbm:SlR X (rSlT X.K):=by
 intro pins s σ H x v Z vu lo hi Y Q I O hs pl J h;obtain ⟨a,xs,rfl,hx,hw,q⟩:=h;cases O;obtain ⟨D,r,G,hz⟩:=I.tuple hx;have C:D.toArray.size=xs.length:=by rw [Qa5];exact r.length.symm
 refine ⟨"tuple",_,Qbx.lookup,G.typeIs,?_⟩;refine HT.getItem_tuple_cut G hs pl J (by rw [C];exact hw) ?_ (by rw [C];exact hz);rw [C];refine ⟨4e9,_,I.laid (t':=s.toks) (o:=.tup (zJ xs lo hi)) (fun b ob q=>Qab _ q) (Qai _) ?_,rfl,q _ (20e3)⟩;exact ⟨Qbd (Wv xs lo hi) hz,_,(r.drop (17e1)).take (23e5 - 17e1),Qfs _ _⟩
theorem Vals.nil_iff{xs:List V}(r:Vals xs J):J=[]↔xs=[]:=by
 cases r with
 | nil=>simp
 | cons _ _=>simp
end
end L2
namespace L2
open PySem PySem.Spec PyProof.Rows
def ixN(n:Nat)(i:Int):Option Nat:=if 0<=i then (if i < n then some i.toNat else none) else if -(n:Int)<=i then some (i + n).toNat else none
def atI(xs:List m)(i:Int):Option m:=(ixN xs.length i).bind fun j=>xs[j]?
theorem Zjm{i:Int}{j:Nat}(h:ixN n i=some j):seqIndex? i n=some j/\j < n/\-(n:Int)<=i/\i < n:=by
 unfold ixN at h
 by_cases q:0<=i
 ·rw [Qaw q] at h
  by_cases h1:i < n
  ·rw [Qaw h1] at h
   have e:i.toNat=j:=Option.some.inj h;exact ⟨by rw [seqIndex_of q h1,e],by lia,by lia,h1⟩
  ·rw [Qau h1] at h;cases h
 ·rw [Qau q] at h
  by_cases h1:-(n:Int)<=i
  ·rw [Qaw h1] at h
   have e:(i + n).toNat=j:=Option.some.inj h;exact ⟨by rw [seqIndex_neg 1e2 h1,e],by lia,h1,by lia⟩
  ·rw [Qau h1] at h;cases h
theorem km{xs:List m}{i:Int}{v:m}(h:atI xs i=some v):∃j,seqIndex? i xs.length=some j/\xs[j]?=some v/\j < xs.length/\-(xs.length:Int)<=i/\i < xs.length:=by
 unfold atI at h;cases e:ixN xs.length i with
 | none=>rw [e] at h;cases h
 | some j =>
  rw [e] at h;obtain ⟨h1,h2,C,q⟩:=Zjm e;exact ⟨j,h1,h,h2,C,q⟩
theorem Yk{xs:List m}{j:Nat}{v:m}(h:xs[j]?=some v):atI xs (j:Int)=some v:=by
 have q:j < xs.length:=(Qaf.mp h).1;have e:ixN xs.length (j:Int)=some j:=by
  unfold ixN;rw [Qaw 1e2,Qaw 1e2];simp
 unfold atI;rw [e];exact h
theorem jJ(xs:List m)(v:m):atI (xs++[v]) (-1)=some v:=by
 have hl:(xs++[v]).length=xs.length + 1:=by simp
 have e:ixN (xs++[v]).length (-1)=some xs.length:=by
  unfold ixN;rw [hl,Qau 1e4,Qaw 1e2];congr 1;lia
 unfold atI;rw [e];show (xs++[v])[xs.length]?=some v;simp
def Zbn(b:Expr):Prop:=∀o i,subscripted b false o i=operate [o,i] (getItem o i)
def IxR(X:Cx)(r:R2):Prop :=
 ∀(value q:Expr) (pins:2e6) (s:Shared) (σ:St) (H:Hp) (x y:V) (v u:Value) (Q:VK),2e1->RelV x v->RelV y u->r x y H Q ->
  subscripted q false v u=operate [v,u] (getItem v u)->wpAny 3e0 X.A (subscriptTail value q v u) 17e5 X.xe s
def MtR(X:Cx)(id:String)(r:V->7e4):Prop :=
 ∀(pins:2e6) (s:Shared) (σ:St) (H:Hp) (x:V) (xs:List V) (v:Value) (q:2e0) (Q:VK),2e1->RelV x v->Vals xs q->r x xs H Q ->
  wpAny 3e0 X.A (call 18e1 (v::q)) 17e5 X.xe s
section
variable {X:Cx}{a b:Expr}{ta tb:TE}{pos:Pos}
theorem pe_ix{r:R2}(hr:IxR X r)(ha:PE X a ta)(hb:PE X b tb)(hs:Zbn b):PE X (.Subscript a b pos) (tOp r ta tb):=by
 show 13;exact Subscript_ (binT ha hb I h fun v u C x y H2 D J G q=>hr a b pins C σ H2 x y v u Q D J G q (hs _ _))
inductive Zhm(K:PySem.W.Frag)(x:V)(y:V)(H:Hp)(Q:VK):Prop
 | mk (p xs i v:_):(x=.ref p)->(y=.int i)->(SqL K H p xs)->(atI xs i=some v)->(Q v H)->Zhm K x y H Q
def Zma(K:PySem.W.Frag):R2:=fun x y H Q=>Zhm K x y H Q
inductive Zhn(K:PySem.W.Frag)(x:V)(y:V)(H:Hp)(Q:VK):Prop
 | mk (p xs i v:_):(x=.ref p)->(y=.int i)->(SqT K H p xs)->(atI xs i=some v)->(Q v H)->Zhn K x y H Q
def Ze4(K:PySem.W.Frag):R2:=fun x y H Q=>Zhn K x y H Q
inductive Zho(x:V)(y:V)(H:Hp)(Q:VK):Prop
 | mk (z i c:_):(x=.str z)->(y=.int i)->(z.length<=sizeLine)->(atI z.cps.toList i=some c)->(Q (.str ⟨#[c]⟩) H)->Zho x y H Q
def rIxS  : R2:=fun x y H Q=>Zho x y H Q
theorem Zy:IxR X (Zma X.K):=by
 intro value D pins s σ H x y v u Q I rx ry h hs;obtain ⟨p,xs,i,z,rfl,rfl,hq,he,q⟩:=h;cases rx;obtain ⟨t,rfl⟩:=ry;obtain ⟨J,r,pl,hz⟩:=I.list hq;obtain ⟨j,h1,h2,h3,h4,Z⟩:=km he;obtain ⟨w,O,C⟩:=r.get h2;have hl:=r.length;have hn:=xP;have fin:EP X pins σ Q w s:=⟨z,H,I,C,q⟩
 by_cases Y:0<=i
 ·have G:i.toNat=j:=by
   rw [seqIndex_of Y Z] at h1;exact Option.some.inj h1
  exact item_listR pl.isList Y 1e2 (by rw [G];simpa using O) fin hs
 ·have G:(i + (J.toArray.size:Int)).toNat=j:=by
   rw [seqIndex_neg 1e2 h4] at h1;rw [Qa5,<-hl];exact Option.some.inj h1
  exact subscriptTail_builtinR (x:=w) pl.isList.typeIs slot_list_getitem.lookup
   (wpAny_getItem_list_neg (Q:=fun r s'=>r=w/\EP X pins σ Q r s') pl.isList 1e2 (by rw [Qa5] <;> lia) 1e2 (by rw [G];simpa using O) ⟨rfl,fin⟩) hs
theorem Zu:IxR X (Ze4 X.K):=by
 intro value D pins s σ H x y v u Q I O J h hs;obtain ⟨p,xs,i,z,rfl,rfl,Z,he,q⟩:=h;cases O;obtain ⟨t,rfl⟩:=J;obtain ⟨Y,r,pl,hz⟩:=I.tuple Z;obtain ⟨j,h1,h2,h3,h4,h5⟩:=km he;obtain ⟨w,G,C⟩:=r.get h2;have hl:=r.length;have hn:=xP;have fin:EP X pins σ Q w s:=⟨z,H,I,C,q⟩;exact subscriptTail_builtinR (x:=w) pl.typeIs slot_tuple_getitem.lookup
  (getItem_tuple (j:=j) (Q:=fun r s'=>r=w/\EP X pins σ Q r s') pl 1e2 1e2 (by rw [Qa5,<-hl];exact h1) (by simpa using G) ⟨rfl,fin⟩) hs
theorem Zbo:IxR X rIxS:=by
 intro value C pins s σ H x y v u Q I O J h hs;obtain ⟨z,i,c,rfl,rfl,hz,he,q⟩:=h;obtain ⟨t,rfl⟩:=O;obtain ⟨t',rfl⟩:=J;obtain ⟨j,h1,h2,Y,G,D⟩:=km he;have hl:z.cps.toList.length=z.length:=by simp [Str.length]
 rw [hl] at h1 G D;have hn:=xP;exact tail_any (typeIs_str s z t) slot_str_getitem.lookup (getItem_str (c:=c) (by
  have e1:decide (i < -(2 ^ 63:Int))=false:=Qao 1e2;have e2:decide (i>=2 ^ 63)=false:=Qao 1e2;rw [e1,e2,Qgn]) (by rw [h1];simpa using h2) ⟨.str ⟨#[c]⟩,H,I.tok _,8e1,q⟩) hs
theorem yR(lo hi:4e7)(n:Nat):(sliceBounds lo hi none n).1=((HT.sIx n 0 lo:Nat):Int)/\(sliceBounds lo hi none n).2.1=((HT.sIx n n hi:Nat):Int)/\(sliceBounds lo hi none n).2.2=1:=by
 refine ⟨?_,?_,rfl⟩
 ·cases lo with
  | none=>simp [sliceBounds,HT.sIx]
  | some i =>
   simp only [sliceBounds,HT.sIx,Option.getD_none,show (1:Int) > 0 by decide,Qgw]
   by_cases h:i < 0
   ·simp only [h,Qgw] <;> lia
   ·simp only [h,Qe2] <;> lia
 ·cases hi with
  | none=>simp [sliceBounds,HT.sIx]
  | some i =>
   simp only [sliceBounds,HT.sIx,Option.getD_none,show (1:Int) > 0 by decide,Qgw]
   by_cases h:i < 0
   ·simp only [h,Qgw] <;> lia
   ·simp only [h,Qe2] <;> lia
theorem jK(q:2e0)(lo hi:4e7):slicePick q.toArray lo hi none=((q.drop (HT.sIx q.length 0 lo)).take (HT.sIx q.length q.length hi - HT.sIx q.length 0 lo)).toArray:=by
 obtain ⟨h1,h2,C⟩:=yR lo hi q.toArray.size;unfold slicePick;rw [h1,h2,C];simp only [sliceRange_one,pick_run,Qa5] <;> rfl
inductive Zhp(K:PySem.W.Frag)(x:V)(lo:4e7)(hi:4e7)(H:Hp)(Q:VK):Prop
 | mk (a xs:_):(x=.ref a)->(15e4)->(∀p,H p=none->Q 3e5 (upd H p (.lst (zJ xs lo hi))))->Zhp K x lo hi H Q
def rSlL(K:PySem.W.Frag):21e2:=fun x lo hi H Q=>Zhp K x lo hi H Q
theorem jL:SlR X (rSlL X.K):=by
 intro pins s σ H x v Z vu lo hi Y Q I O hs pl G h;obtain ⟨a,xs,rfl,hx,q⟩:=h;cases O;obtain ⟨J,r,D,hz⟩:=I.list hx;have C:=r.length;refine ⟨"list",_,slot_list_getitem.lookup,D.isList.typeIs,?_⟩;refine wpAny_getItem_list_slice D.isList hs pl G .none 2e5 ?_ (by rw [Qa5] <;> lia);rw [jK,<-C];refine ⟨4e9,_,I.laid (t':=s.toks) (o:=.lst (zJ xs lo hi)) (fun b ob q=>Qab _ q) (Qai _) ?_,rfl,q _ (20e3)⟩;exact ⟨Qbd (Wv xs lo hi) hz,_,0,(r.drop (17e1)).take (23e5 - 17e1),5e5⟩
def xr:V->Bool
 | .non=>true
 | .bl _=>true
 | .int _=>true
 | .str _=>true
 | _=>false
def eqV:V->V->Bool
 | .non,.non=>true
 | .bl a,.bl b=>a == b
 | .bl a,.int b=>(if a then 1 else 0) == b
 | .int a,.bl b=>a == (if b then 1 else 0)
 | .int a,.int b=>a == b
 | .str a,.str b=>a == b
 | _,_=>false
theorem eqAt_V{A:Around}{y x:V}{u v:Value}(C:RelV y u)(q:RelV x v)(G:xr y=true)(D:xr x=true):SeqAt.EqAt A s u v (eqV y x):=by
 cases y with
 | non =>
  cases C;cases x with
  | non=>cases q;exact SeqAt.EqAt.same _
  | bl b=>cases q;exact SeqAt.EqAt.none_bool b
  | int b=>obtain ⟨t,rfl⟩:=q;exact SeqAt.EqAt.none_int b t
  | str b=>obtain ⟨t,rfl⟩:=q;exact SeqAt.EqAt.none_str b t
  | _=>exact absurd (show false=true from D) Qa8
 | bl a =>
  cases C;cases x with
  | non=>cases q;exact SeqAt.EqAt.bool_none a
  | bl b=>cases q;exact SeqAt.EqAt.bool_bool a b
  | int b=>obtain ⟨t,rfl⟩:=q;exact SeqAt.EqAt.bool_int a b t
  | str b=>obtain ⟨t,rfl⟩:=q;exact SeqAt.EqAt.bool_str a b t
  | _=>exact absurd (show false=true from D) Qa8
 | int a =>
  obtain ⟨t',rfl⟩:=C;cases x with
  | non=>cases q;exact SeqAt.EqAt.int_none a t'
  | bl b=>cases q;exact SeqAt.EqAt.int_bool a t' b
  | int b=>obtain ⟨t,rfl⟩:=q;exact SeqAt.EqAt.int_int a t' b t
  | str b=>obtain ⟨t,rfl⟩:=q;exact SeqAt.EqAt.int_str a t' b t
  | _=>exact absurd (show false=true from D) Qa8
 | str a =>
  obtain ⟨t',rfl⟩:=C;cases x with
  | non=>cases q;exact SeqAt.EqAt.str_none a t'
  | bl b=>cases q;exact SeqAt.EqAt.str_bool a t' b
  | int b=>obtain ⟨t,rfl⟩:=q;exact SeqAt.EqAt.str_int a t' b t
  | str b=>obtain ⟨t,rfl⟩:=q;exact SeqAt.EqAt.str_str a t' b t
  | _=>exact absurd (show false=true from D) Qa8
 | _=>exact absurd (show false=true from G) Qa8
def eqU(x:V)(u:Value):Bool:=match u with
 | .none=>eqV .non x
 | .bool b=>eqV (.bl b) x
 | .int i _=>eqV (.int i) x
 | .str z _=>eqV (.str z) x
 | _=>false
theorem Zhq{x y:V}{u:Value}(r:RelV y u)(f:xr y=true):eqU x u=eqV y x:=by
 cases y with
 | non=>cases r;rfl
 | bl b=>cases r;rfl
 | int i=>obtain ⟨t,rfl⟩:=r;rfl
 | str z=>obtain ⟨t,rfl⟩:=r;rfl
 | _=>exact absurd (show false=true from f) Qa8
theorem ko{x:V}:∀{xs:List V} {q:2e0},Vals xs q->xs.all xr=true->q.any (eqU x)=xs.any fun y=>eqV y x
 | _,_,.nil,_=>rfl
 | y::xs,u::q,.cons r t,f=>by
  rw [Qdl,Qbt] at f;rw [Qgo,Qgo,Zhq r f.1,ko t f.2]
theorem jM{A:Around}{s:Shared}{x:V}{v:Value}(D:RelV x v)(C:xr x=true):∀{xs:List V} {q:2e0},Vals xs q->xs.all xr=true->∀u∈q,SeqAt.EqAt A s u v (eqU x u)
 | _,_,.nil,_=>fun u hu=>by cases hu
 | y::xs,u::q,.cons r t,f=>fun G hu=>by
  rw [Qdl,Qbt] at f;rcases Qan.mp hu with rfl | hu
  ·rw [Zhq r f.1];exact eqAt_V r D f.1 C
  ·exact jM D C t f.2 G hu
def inV(x:V)(xs:List V):Bool:=xs.any fun y=>eqV y x
inductive Zmb(K:PySem.W.Frag)(neg:Bool)(x:V)(y:V)(H:Hp)(Q:VK):Prop
 | mk (p xs:_):(y=.ref p)->((SqL K H p xs\/SqT K H p xs))->(xr x=true)->(xs.all xr=true)->(Q (.bl (if neg then !inV x xs else inV x xs)) H)->Zmb K neg x y H Q
def rIn(K:PySem.W.Frag)(neg:Bool):R2:=fun x y H Q=>Zmb K neg x y H Q
theorem Xf:OpR X (compareOp .In) (rIn X.K false):=by
 intro pins s σ H x y v u Q I J O h;obtain ⟨p,xs,rfl,D,G,fs,q⟩:=h;cases O;rcases D with D | D
 ·obtain ⟨C,r,pl,hz⟩:=I.list D
  refine SeqAt.in_listAt (eqU x) pl.isList (fun w hw=>jM J G r fs w (by simpa using hw)) ⟨.bl _,H,I,rfl,?_⟩;rw [show C.toArray.any (eqU x)=C.any (eqU x) by simp,ko r fs];exact q
 ·obtain ⟨C,r,pl,hz⟩:=I.tuple D
  refine SeqAt.in_tupleAt (eqU x) pl (fun w hw=>jM J G r fs w (by simpa using hw)) ⟨.bl _,H,I,rfl,?_⟩;rw [show C.toArray.any (eqU x)=C.any (eqU x) by simp,ko r fs];exact q
theorem ZF:Xy X (.builtin "len") (fun xs H Q=>∃p ys,xs=[.ref p]/\(SqL X.K H p ys\/SqT X.K H p ys)/\Q (.int ys.length) H):=by
 intro pins s σ H xs Y Q I r h;obtain ⟨p,ys,rfl,D,q⟩:=h;obtain ⟨u,rfl,O⟩:=vals1 r;cases O;have hn:=xP;rcases D with D | D
 ·obtain ⟨J,G,pl,hz⟩:=I.list D
  have C:=G.length;exact Calls.call_len_list pl.isList (by simp only [Qa5] <;> lia) ⟨.int ys.length,H,I.tok _,⟨s.toks + 1,by rw [Qa5,C]⟩,q⟩
 ·obtain ⟨J,G,pl,hz⟩:=I.tuple D
  have C:=G.length;exact len_tuple pl (by simp only [Qa5] <;> lia) ⟨.int ys.length,H,I.tok _,⟨s.toks + 1,by rw [Qa5,C]⟩,q⟩
theorem qT:Xy X (.builtin "len") (fun xs H Q=>∃z,xs=[.str z]/\z.length<=sizeLine/\Q (.int z.length) H):=by
 intro pins s σ H xs C Q I r h;obtain ⟨z,rfl,hz,q⟩:=h;obtain ⟨u,rfl,t,rfl⟩:=vals1 r;have hn:=xP;exact len_str 1e2 ⟨.int z.length,H,I.tok _,8e1,q⟩
theorem Z5:Xy X (4e8) (fun xs H Q=>∃p ys,xs=[.ref p]/\((SqL X.K H p ys/\∀l,H l=none->Q 5e1 (upd H l (.tup ys)))\/(SqT X.K H p ys/\Q 3e5 H))):=by
 intro pins s σ H xs us Q I r h;obtain ⟨p,ys,rfl,h⟩:=h;obtain ⟨u,rfl,Z⟩:=vals1 r;cases Z;rcases h with ⟨G,q⟩ | ⟨G,q⟩
 ·obtain ⟨C,D,pl,hz⟩:=I.list G
  have O:=D.length;refine call_tuple_list pl.isList (fun h' kp=>?_) (by simp only [Qa5] <;> lia);have J:Inv X pins σ H 7e0:=I.kept (t':=s.toks) kp;have Y:Inv X pins σ (upd H h'.objs.size (.tup ys)) { s with heap:=h'.push { cls:=4e8,data:=.seq C.toArray } } :=
   J.laid (t':=s.toks) (16e1) (Qai _) (show Yo X.prog X.w _ _ _ (.tup ys) from ⟨hz,C,D,Qfs _ _⟩)
  exact ⟨22e6,_,Y,rfl,q _ (J.hok.fresh (Qai _))⟩
 ·obtain ⟨C,D,pl,hz⟩:=I.tuple G
  exact call_tuple_same pl ⟨.ref p,H,I,rfl,q⟩
def tyV(K:PySem.W.Frag)(T:String)(x:V)(H:Hp):Prop:=match x with
 | .str _=>T = "str"
 | .int _=>T = "int"
 | .ref p=>(T = "list" /\ ∃xs,SqL K H p xs)\/(T = "tuple" /\ ∃o,K.lookup p=some o/\o.cls=4e8 /\ o.dict=none) \/
   (T = "dict" /\ ((∃kvs,H p=some 4e1)\/∃kvs,H p=some (.dT kvs)))\/(T = "set" /\ ∃S n,H p=some (.set S n))
 | _=>False
theorem Zhr{pins:2e6}{T:String}{x:V}{v:Value}(I:Inv X pins f H s)(r:RelV x v)(ty:tyV X.K T x H) :
  s.TypeIs v T/\∀a,v=.ref a->∃ob,s.heap.get? a=some ob/\ob.dict=none:=by
 cases x with
 | str z =>
  obtain ⟨t,rfl⟩:=r;cases (show T = "str" from ty);exact ⟨typeIs_str s z t,fun _ e=>nomatch e⟩
 | int i =>
  obtain ⟨t,rfl⟩:=r;cases (show T = "int" from ty);exact ⟨Qgr s i t,fun _ e=>nomatch e⟩
 | ref p =>
  cases r;rcases ty with ⟨rfl,xs,C⟩ | ⟨rfl,o,hk,hc,hd⟩ | ⟨rfl,hk⟩ | ⟨rfl,S,n,hk⟩
  ·obtain ⟨q,_,pl,_⟩:=I.list C
   refine ⟨pl.isList.typeIs,fun a e=>?_⟩;cases e;obtain ⟨o,n,e,c,hd,_⟩:=pl;exact ⟨o,e,hd⟩
  ·refine ⟨⟨o,I.kIn p o hk,hc⟩,fun a e=>?_⟩
   cases e;exact ⟨o,I.kIn _ o hk,hd⟩
  ·have z:∃o,s.heap.get? p=some o/\o.ExactDict:=by
    rcases hk with ⟨kvs,hk⟩ | ⟨kvs,hk⟩
    ·obtain ⟨_,_,_,_,o,_,_,e,ex,_⟩:=I.hok p _ hk
     exact ⟨o,e,ex⟩
    ·obtain ⟨_,_,_,_,o,_,_,e,ex,_⟩:=I.hok p _ hk
     exact ⟨o,e,ex⟩
   obtain ⟨o,e,ex⟩:=z;refine ⟨⟨o,e,ex.1⟩,fun a e2=>?_⟩;cases e2;exact ⟨o,e,ex.2.1⟩
  ·obtain ⟨o,_,_,_,e,ex,_⟩:=I.hok p _ hk
   refine ⟨⟨o,e,ex.1⟩,fun a e2=>?_⟩;cases e2;exact ⟨o,e,ex.2.1⟩
 | _=>exact False.elim ty
inductive Zhs(K:PySem.W.Frag)(T:String)(r:V->7e4)(Q:VK)(x:V)(H1:Hp):Prop
 | mk  : (tyV K T x H1)->(r x [] H1 Q)->Zhs K T r Q x H1
def Znb(K:PySem.W.Frag)(T:String)(r:V->7e4)(to:TE):TE:=fun σ H Q=>to σ H fun x H1=>Zhs K T r Q x H1
inductive Zmc(K:PySem.W.Frag)(T:String)(r:V->7e4)(t:TA)(σ:St)(Q:VK)(x:V)(H1:Hp):Prop
 | mk  : (tyV K T x H1)->(t σ H1 fun xs H2=>r x xs H2 Q)->Zmc K T r t σ Q x H1
def tBM(K:PySem.W.Frag)(T:String)(r:V->7e4)(to:TE)(t:TA):TE:=fun σ H Q=>to σ H fun x H1=>Zmc K T r t σ Q x H1
variable {o e:Expr}{es:5e4}{to:TE}{t:TA}{name:Str}{apos cpos:Pos}{T id:String}{r:V->7e4}
theorem pe_bm0 (pa:PlainAttrs T) (slot:Slot T name id) (hty:28e0) (hm:MtR X id r) (ho:PE X o to)
  (hbase:27e9:=by rfl) (hline:(apos.endLine == cpos.line)=true:=by rfl):PE X (.Call (.Attribute o name apos) [] [] cpos) (Znb X.K T r to):=by
 show 13;refine wpAny_Call_method0_late hbase hline (thn (ho pins s σ H _ I h) fun v D ⟨x,H1,q,C,ty,G⟩=>?_);obtain ⟨h1,h2⟩:=Zhr q C ty;exact ⟨T,id,pa,slot,hty,h1,h2,Qf3 rfl (PySem.evalArgs_none (hm pins D σ H1 x [] v [] Q q C .nil G))⟩
theorem pe_bm (pa:PlainAttrs T) (slot:Slot T name id) (hty:28e0) (hm:MtR X id r) (ho:PE X o to) (ha:PA X (e::es) t)
  (hbase:27e9:=by rfl)
  (C:((backTo cpos (starEach (e::es) X.env)).all (fun x=>!x.1) && (backToKw cpos (keywordEach [] X.env)).all (fun x=>x.1.isSome)
   && decide ((e::es).length + ([]:List Keyword).length + (if ([]:List Keyword).isEmpty then 0 else 1) < 30))=true:=by rfl)
  (hline:(apos.endLine == cpos.line)=true:=by rfl) (hs:27e7:=by rfl) (q:(backTo cpos (starEach es X.env)).any (·.1)=false:=by rfl) :
  PE X (.Call (.Attribute o name apos) (e::es) [] cpos) (tBM X.K T r to t):=by
 show 13;refine wpAny_Call_method_late hbase C hline rfl (thn (ho pins s σ H _ I h) fun v O ⟨x,H1,G,J,ty,Y⟩=>?_);obtain ⟨h1,h2⟩:=Zhr G J ty;refine ⟨T,id,pa,slot,hty,h1,h2,?_⟩;have D:=ha cpos pins O σ H1 _ G Y;rw [hs] at D ⊢;refine Qf3 (by show (false || (backTo cpos (starEach es X.env)).any (·.1))=false;rw [q] <;> rfl) (Calls.evalArgs_plain ?_);exact thn D fun us Z ⟨vs,H2,I2,r2,q2⟩=>hm pins Z σ H2 x vs v us Q I2 J r2 q2
end
end L2
namespace L2
open PySem PySem.Spec PyProof.Rows
def MtM(X:Cx)(id:String)(r:V->7e4):Prop :=
 ∀(pins:2e6) (s:Shared) (σ:St) (H:Hp) (x:V) (xs:List V) (v:Value) (q:2e0) (Q:VK),2e1->RelV x v->Vals xs q->r x xs H Q ->
  wpAny 3e0 X.A (call 18e1 (v::q)) 17e5 X.xe s
theorem Vals.one:∀{x:V} {q:2e0},Vals [x] q->∃u,q=[u]/\RelV x u
 | _,_,.cons r .nil=>⟨_,rfl,r⟩
theorem Vals.zero:∀{q:2e0},Vals [] q->q=[]
 | _,.nil=>rfl
theorem Vals.dropLast{xs:List V}{C:2e0}(h:Vals xs C):Vals xs.dropLast C.dropLast:=by
 induction h with
 | nil=>exact .nil
 | cons r t D =>
  cases t with
  | nil=>exact .nil
  | cons q t'=>exact .cons r D
theorem Vals.reverse{xs:List V}{q:2e0}(h:Vals xs q):Vals xs.reverse q.reverse:=by
 induction h with
 | nil=>exact .nil
 | cons r t C=>rw [Qdt,Qdt];exact Vals.append C (.cons r .nil)
theorem Vals.rep{xs:List V}{q:2e0}(h:Vals xs q):∀k:Nat,Vals (List.replicate k xs).flatten (List.replicate k q).flatten
 | 0=>.nil
 | k + 1=>by
  rw [Qdd,Qdd,Qd8,Qd8];exact Vals.append h (Vals.rep h k)
theorem uE(l:List m):l.eraseIdx (l.length - 1)=l.dropLast:=by
 induction l with
 | nil=>rfl
 | cons a r q =>
  cases r with
  | nil=>rfl
  | cons b r =>
   have e:(a::b::r).length - 1=((b::r).length - 1) + 1:=by
    have h1:(a::b::r).length=r.length + 2:=rfl;have h2:(b::r).length=r.length + 1:=rfl;lia
   rw [e,List.eraseIdx_cons_succ,q]
   all_goals rfl
theorem foldl_rep(q:2e0):∀(k:Nat) (acc:2e0),
  List.foldl (fun C x2=>C++x2) acc.toArray (List.replicate k q.toArray)=(acc++(List.replicate k q).flatten).toArray
 | 0,acc=>by simp
 | k + 1,acc=>by
  have e:acc.toArray++q.toArray=(acc++q).toArray:=by simp
  have e2:(acc++q)++(List.replicate k q).flatten=acc++(List.replicate (k + 1) q).flatten:=by
   rw [Qdd,Qd8,Qb6]
  rw [<-e2,<-foldl_rep q k (acc++q),<-e,Qdd,Qdy]
section
variable {X:Cx}{pins:2e6}{σ:St}{H:Hp}{s:Shared}{l b:Addr}{xs ys zs:List V}
theorem Inv.lset{its':2e0}{f:4e5->4e5}{t':Nat}(I:2e1)(C:H l=16e5)
  (e:s.heap.get? l=some { cls:=5e2,data:=.seq J.toArray n }) (hf:f J.toArray=its'.toArray) (hv:Vals ys its') (hz:ys.length<=sizeLine) :
  Inv X pins σ (upd H l (.lst ys)) { s with heap:=s.heap.update l (Obj.mapSeq f),toks:=t' }:=by
 have q:=PySem.IsL.update e f;rw [hf] at q;refine I.write (x:=l) (e:=l) (by rw [C];exact trivial) (6e4) (fun D u hb hu=>(Qbw s.heap (Obj.mapSeq f) (Qel hb)).trans hu) ⟨_,q⟩ ?_;exact ⟨hz,its',_,hv,q⟩
theorem Inv.lnew{t':Nat}(I:2e1)(hv:Vals ys J)(hz:ys.length<=sizeLine) :
  Inv X pins σ (upd H s.heap.objs.size (.lst ys)) { s with heap:=s.heap.push { cls:=5e2,data:=.seq J.toArray },toks:=t' } :=
 I.laid (fun _ _ q=>Qab _ q) (Qai _) ⟨hz,J,0,hv,5e5⟩
theorem Inv.fresh(I:2e1):H s.heap.objs.size=none:=20e3
theorem Inv.lstM (I:2e1) (C:H l=16e5):14e4/\∃(q:2e0) (n:Nat),Vals xs q/\xs.length=q.length/\s.heap.get? l=some { cls:=5e2,data:=.seq q.toArray n }:=by
 obtain ⟨z,q,n,r,e⟩:=I.hok l _ C;exact ⟨z,q,n,r,r.length,e⟩
end
section
variable {X:Cx}
inductive yS(x:V)(vs:List V)(H:Hp)(Q:VK):Prop
 | mk (l xs y:_):(x=.ref l)->(vs=[y])->(H l=16e5)->(xs.length < sizeLine)->(Q .non (upd H l (.lst (xs++[y]))))->yS x vs H Q
def Zjn  : V->7e4:=fun x vs H Q=>yS x vs H Q
theorem Yl:MtM X "list.append" Zjn:=by
 intro pins s σ H x vs v Y Q I J G h;obtain ⟨l,xs,y,rfl,rfl,D,hz,q⟩:=h;cases J;obtain ⟨u,rfl,O⟩:=G.one;obtain ⟨z,C,n,r,hl,e⟩:=I.lstM D;refine call_meets F.slot_list_append ⟨_,e,rfl⟩ F.entry_list_append (F.args_list_append_2 _ _) (PySem.list_append l C.toArray n u (by rw [Qa5];lia)) ⟨e,?_⟩;refine ⟨.non,_,I.lset (its':=C++[u]) D e 2e5 (r.append (.cons O .nil)) ?_,rfl,q⟩;rw [Qae,List.length_singleton];lia
inductive Zht(x:V)(vs:List V)(H:Hp)(Q:VK):Prop
 | mk (l xs y:_):(x=.ref l)->(vs=[])->(H l=16e5)->(xs[xs.length - 1]?=some y)->(Q y (upd H l (.lst xs.dropLast)))->Zht x vs H Q
def rPop  : V->7e4:=fun x vs H Q=>Zht x vs H Q
theorem Zhu:MtM X "list.pop" rPop:=by
 intro pins s σ H x vs v us Q I Z O h;obtain ⟨l,xs,y,rfl,rfl,J,Y,q⟩:=h;cases Z;have G:=O.zero;subst G;obtain ⟨z,C,n,r,hl,e⟩:=I.lstM J;obtain ⟨u,hu,ru⟩:=r.get Y;have D:C.toArray[C.toArray.size - 1]?=some u:=by
  show C.toArray[C.length - 1]?=some u;rw [<-Qej,<-hl];exact hu
 refine call_meets F.slot_list_pop ⟨_,e,rfl⟩ F.entry_list_pop (F.args_list_pop_1 _) (MeetsSeq.list_pop_last l C.toArray n u D (by rw [Qa5];lia)) ⟨e,?_⟩;refine ⟨y,_,I.lset (its':=C.dropLast) J e ?_ r.dropLast ?_,ru,q⟩
 ·show C.toArray.eraseIdxIfInBounds (C.toArray.size - 1)=C.dropLast.toArray
  rw [Qa5,List.eraseIdxIfInBounds_toArray,uE]
 ·rw [List.length_dropLast]
  lia
def Zfk:V->7e4:=fun x vs H Q=>∃l xs,x=.ref l/\vs=[]/\H l=16e5/\Q .non (upd H l (.lst xs.reverse))
theorem uF:MtM X "list.reverse" Zfk:=by
 intro pins s σ H x vs v Y Q I O J h;obtain ⟨l,xs,rfl,rfl,G,q⟩:=h;cases O;have D:=J.zero;subst D;obtain ⟨z,C,n,r,hl,e⟩:=I.lstM G;refine call_meets F.slot_list_reverse ⟨_,e,rfl⟩ F.entry_list_reverse (F.args_list_reverse_1 _) (AutoSeq1.list_reverse_list_0 l C.toArray n (by rw [Qa5];lia)) ⟨e,?_⟩;refine ⟨.non,_,I.lset (its':=C.reverse) G e 2e5 r.reverse ?_,rfl,q⟩;rw [Qdu];lia
inductive Zhv(x:V)(y:V)(H:Hp)(Q:VK):Prop
 | mk (l b xs zs:_):(x=.ref l)->(y=.ref b)->(H l=16e5)->(H b=some (.lst zs))->(xs.length + zs.length<=sizeLine)->(∀p,H p=none->Q 3e5 (upd H p (.lst (xs++zs))))->Zhv x y H Q
def rCat  : R2:=fun x y H Q=>Zhv x y H Q
theorem Zhw:OpR X (binaryOp .Add) rCat:=by
 intro pins s σ H x y v u Q I Z Y h;obtain ⟨l,b,xs,zs,rfl,rfl,G,hB,hz,q⟩:=h;cases Z;cases Y;obtain ⟨z,D,n,r,hl,e⟩:=I.lstM G;obtain ⟨z2,C,n2,J,O,e2⟩:=I.lstM hB;refine PySem.P.add_list e e2 ?_ (by rw [Qa5,Qa5];lia);have ea:D.toArray++C.toArray=(D++C).toArray:=by simp
 rw [ea];exact ⟨.ref _,_,I.lnew (t':=s.toks) (r.append J) (by rw [Qae];lia),rfl,q _ I.fresh⟩
theorem len_rep(xs:List m)(k:Nat):(List.replicate k xs).flatten.length=k * xs.length:=by
 induction k with
 | zero=>simp
 | succ k q=>rw [Qdd,Qd8,Qae,q,Nat.succ_mul,Nat.add_comm]
end
section
variable {prog:Program}{w:World}{A:Around}{E:1e9}{s:Shared}
end
section
variable {X:Cx}
end
end L2
namespace Att
open PySem PySem.W PySem.Calls PyProof.Rows
theorem xQ{P:Params}:∀(q:1e5) (vs:2e0),WellAll P h vs (q.map WData.int)->IntsAre vs q:=by
 intro q
 induction q with
 | nil =>
  intro vs w;rw [Qfo] at w;cases w;exact .nil
 | cons n q C =>
  intro vs w;rw [Qa4] at w;cases w with
  | cons a b =>
   cases a;exact .cons _ _ (C _ b)
theorem Zbp{l:OpenLaw}(hn:l.most=some n){P:Params}{args:List WData}
  (D:l.row.toRowW.claim.pre args=true) (hwl:WellAll P h J args) :
  ∃a vs C,J=[Value.ref a]/\args=[WData.list (C.map WData.int)]/\h.get? a=some { cls:=5e2,data:=.seq vs.toArray }/\IntsAre vs C/\C.length<=n:=by
 have Z:WShape.hasAll [] args [.list .int]=true:=(pre_splitW D).1;have hc:l.pre.holds [] { args:=args }=true:=(pre_splitW D).2;obtain ⟨d,r,rfl,h1,h2⟩:=hasAllW_cons Z;obtain rfl:=hasAllW_nil h2;obtain ⟨xs,rfl,h3⟩:=hasW_list h1;obtain ⟨C,rfl⟩:=items_int h3;have G:C.length<=n:=by
  unfold OpenLaw.pre at hc;have Y:(WTm.not (.lt (.lit (.int (n:Int))) (.len (.arg 0)))).holds [] { args:=[.list (C.map .int)] }=true:=by
   have Y:=(holds_andW hc).1;rw [hn] at Y;exact Y
  have O:=condW_of Y (w_not (w_lt w_lit (w_len_list (w_arg rfl))));rw [Qac] at O;refine Nat.le_of_not_lt fun q=>?_;have q':(n:Int) < ((C.length:Nat):Int):=by lia
  first
   | (rw [Qah q'] at O;exact absurd O 1e4)
   | (simp at O;lia)
 cases hwl with
 | cons w1 w2 =>
  cases w2;cases w1 with
  | list ho I=>exact ⟨_,_,C,rfl,rfl,ho,xQ C _ I,G⟩
theorem Zbq(l:OpenLaw)(args:List WData):l.row.toRowW.claim.post args (.bool true) args=true :=
 postW_of (r:=l.row.toRowW) (X:=(true == true))
  (show WShape.has [] (.bool true) .bool=true by first | rfl | decide | simp [WShape.has,WShape.arms,WShape.armsAll])
  (show (WTm.eq .res (.lit (.bool true))).value [] { args:=args,res:=some (.bool true),after:=args }=some (.bool (true == true)) from w_eq_bool (w_res rfl) w_lit) rfl
theorem attach_call{l:OpenLaw}{XP:(2e9)->Heap->Prop}{YP:World->Heap->Prop}{d:DefRec}
  (hn:l.most=some n) (hdf:d.params.defaults=[])
  (call:∀(w:World) (s₀ q:Shared) (mg mb:2e9) (I:Addr) (o:Obj) (pm cd C:Value) (a:Addr) (vs:2e0) (ns:1e5),
   Ground P N [] XP w s₀ mg mb q.heap->YP w q.heap ->
   q.heap.get? I=some o->o.data=.func (docDef d.name d.params d.body d.scope pm cd C)->q.heap.CodeRec cd d.name->mg d.name=some (.ref I) ->
   q.heap.get? a=some { cls:=5e2,data:=.seq vs.toArray }->IntsAre vs ns->ns.length<=n->q.gens=#[] ->
   codeAny (model l.prog w) callerA (.call (.ref I) ⟨[.ref a],[]⟩) (fun r s'=>r=.ok (.ret (.bool true))/\OldK q.heap s'.heap/\s'.os=q.os/\AllBare s'.gens) q) :
  WalkO P N XP YP l.row.toRowW d [] (fun f vs=>PySem.call f vs):=by
 intro w s₀ q mg mb G Y I o pm cd C dV kV ho hd hcd hD hmg hg args vals as O hlay hrd hwl hlo;obtain rfl:dV=.none:=Dflts.none hD hdf;obtain rfl:kV=.none:=Dflts.noKw hD;obtain ⟨a,vs,ns,rfl,rfl,Z,D,J⟩:=Zbp hn O hwl;refine enter_call (Qes (call w s₀ q mg mb I o pm cd C a vs ns G Y ho (fd_plain hd) hcd hmg Z D J hg) fun r s' hq=>?_);obtain ⟨rfl,h2,h3,h4⟩:=hq;exact ⟨.inl ⟨.bool true,.bool true,[],rfl,fun _=>rfl,.bool true,Zbq l _,fun _=>⟨List.Pairwise.nil,fun _ hm=>(nomatch hm)⟩⟩,h2,h3,h4⟩
section
variable {prog:Program}{w:World}{A:Around}{E:1e9}{s:Shared}{K:Frag}
end
end Att
namespace L2
open PySem PySem.Spec PyProof.Rows
theorem yT:∀{vs:2e0} {q:1e5},IntsAre vs q->Vals (q.map V.int) vs
 | _,_,.nil=>.nil
 | _,_,.cons n t h=>.cons ⟨t,rfl⟩ (yT h)
def Ww(s:Stmt):Arguments:=match s with
 | .FunctionDef _ a _ _ _ _ _ _ _ _=>a
 | _=>{ posonlyargs:=[],args:=[],vararg:=none,kwonlyargs:=[],kw_defaults:=[],kwarg:=none,defaults:=[] }
def Xo(s:Stmt):List Stmt:=match s with
 | .FunctionDef _ _ b _ _ _ _ _ _ _=>b
 | _=>[]
def Zg(s:Stmt):Scope:=match s with
 | .FunctionDef _ _ _ _ _ _ q _ _ _=>q
 | _=>{ kind:=.function,names:=[],isGenerator:=false,isCoroutine:=false }
abbrev CX0:CXT:=fun _ _ _ _ _ _=>False
abbrev E0:XK:=fun _ _ _=>False
theorem ZI{X:Cx}:Passes CX0 X E0:=fun _ _ _ _ _ _ _ h=>h.elim
structure Fun(K:PySem.W.Frag)(x qual:Str)(st:Stmt)(f:Addr)(fd:FuncData):Prop where
 ex:∃(oc:Value) (od:Option Addr) (kV doc pm:Value) (an:Option Addr) (cdv ct:Value) (osl:Array (7e9)),
  fd=PySem.W.fnOf x qual (Ww st) (Xo st) (Zg st) .none kV doc pm an cdv ct/\K.lookup f=some ⟨oc,od,.func fd,osl⟩/\PySem.W.codeIn K cdv qual=true
 kp:PySem.W.keepIn K (.ref f)=true
section
variable {P:Program}{w:World}{K:PySem.W.Frag}{mg:2e9}{base:Heap}
theorem Fun.ok{qual:Str}{st:Stmt}{f:Addr}{fd:FuncData}{ps:1e3}{k:Nat}{sp:Sp}(F:Fun K x qual st f fd)(S:Zs N ps (Zg st))(len:31e9)
  (D:∀(C:Value) (A:Around) (outer:8e6) (s:Shared) (H:Hp) (vs:List V) (Q:VK) (E:XK),Gi k (A.deeper (envOfC qual (Zg st) s.heap.objs.size f C))->sp vs H Q E ->
   ∃t,PSs (Zfg CX0 P w K mg base N qual (Zg st) f C A outer s H E).nox (Xo st) t/\36e1):ZH P w K mg base CX0 (k + 1) f fd ps sp:=by
 obtain ⟨oc,od,kV,I,Y,Z,C,ct,J,rfl,O,hcd⟩:=F.ex;refine Zl8 O hcd S len fun A outer s H vs Q E hr G=>?_;obtain ⟨t,h,q⟩:=D C A outer s H vs Q E hr G;exact ⟨t,h.nox,q⟩
theorem Fun.binds{qual:Str}{st:Stmt}{f:Addr}{fd:FuncData}{ps:1e3}(F:Fun K x qual st f fd)
  (h:∀(kV q D:Value) (G:Option Addr) (C ct:Value) (I:2e0),I.length=ps.length->bindArgs (PySem.W.fnOf x qual (Ww st) (Xo st) (Zg st) .none kV q D G C ct) ⟨I,[]⟩=pure (ps.zip I)):Binds K fd ps []:=by
 obtain ⟨oc,od,kV,q,D,G,C,ct,J,rfl,O,hcd⟩:=F.ex;exact .all (h kV q D G C ct)
theorem Zhx{qual:Str}{st:Stmt}{f:Addr}{od I:Option Addr}{D:Array (7e9)}{kV C G q ct:Value}(l:K.lookup f=some ⟨Z,od,.func (PySem.W.fnOf x qual (Ww st) (Xo st) (Zg st) .none kV C G I q ct),D⟩)
  (c:PySem.W.codeIn K q qual=true) (k:PySem.W.keepIn K (.ref f)=true):Fun K x qual st f (PySem.W.fnOf x qual (Ww st) (Xo st) (Zg st) .none kV C G I q ct):=⟨⟨Z,od,kV,C,G,I,q,ct,D,rfl,l,c⟩,k⟩
end
theorem ZV{A:Around}{k:Nat}(hr:Gi k A):16e0:=Qfv (Nat.add_le_add_left (4e0:1<=64) _) hr.units
theorem Zn(h:n<=1000):n < sizeLine:=Qfv h 1e4
section
variable {X:Cx}
theorem pv (i:Nat)   (hN:14e9:=by rfl) (hv:Vis X.env.scope x:=by first | exact Or.inl rfl | exact Or.inr 1e7 | exact Or.inr 11e9) (hd:9e5:=by decide)
  (hcd:32e8:=by decide):PE X 11e4 (Zau i):=Zha hN hv hd hcd
end
theorem Xr{A B:Prop}(h:B):if false=true then A else B:=by
 rw [Qau Qa8];exact h
theorem Jh{A B:Prop}(h:A):if true=true then A else B:=by
 rw [Qaw rfl];exact h
theorem gh{c A B:Prop}[Decidable c](h1:c->A)(h2:¬c->B):if c then A else B:=by
 by_cases h:c
 ·rw [Qaw h]
  exact h1 h
 ·rw [Qau h]
  exact h2 h
def ZC(H H':Hp):Prop:=∀b o,10e9->12e4
theorem ZC.refl(H:Hp):ZC H H:=fun _ _ h=>h
theorem ZC.trans{H2:Hp}(a:ZC H g)(b:ZC g H2):ZC H H2:=fun c o h=>b c o (a c o h)
theorem ZC.free{H':Hp}(e:ZC H H')(h:H' l=Option.none):H l=Option.none:=by
 cases q:H l with
 | none=>rfl
 | some o =>
  rw [e l o q] at h;cases h
theorem ZC.seq{H':Hp}{xs:List V}(e:ZC H H')(h:15e4):SqL K H' a xs:=by
 rcases h with (h | ⟨o,h⟩) | h
 ·exact .inl (.inl (e _ _ h))
 ·exact .inl (.inr ⟨o,e _ _ h⟩)
 ·exact .inr h
section
variable {X:Cx}
def Zjo(i j:Int):Prop:=0 < j/\j.natAbs.log2 < 9000
theorem Yw:OpR X (binaryOp .FloorDiv) (rI Zjo fun i j=>.int (i / j)):=opI fun i j _ _ _ _ _ hc q=>by
 have h1:(0:Int) < j:=hc.1;exact floordiv_int 1e2 (by rw [Int.fdiv_eq_ediv_of_nonneg i 1e2];exact q) (.inl (PyProof.noPylong_of_log2 hc.2))
theorem Zjo.of{i j:Int}(h1:0 < j)(h2:j < 2 ^ 250):Zjo i j:=by
 refine ⟨h1,?_⟩;have C:j.natAbs < 2 ^ 250:=by lia
 have q:j.natAbs≠0:=by lia
 have:=(Nat.log2_lt q).mpr C;lia
def Zjp(i j:Int):Prop:=(i.natAbs < 2 ^ 250/\j.natAbs < 2 ^ 250)\/CMul i j
theorem Zjp.ok{i j:Int}(h:Zjp i j):IntMulOk i j:=by
 rcases h with ⟨h1,h2⟩ | h
 ·refine IntMulOk.of_bits (Qbd (PyProof.Rows.intBits_le h1) 1e4) (Qbd (PyProof.Rows.intBits_le h2) 1e4)
 ·exact h.ok
theorem Wx:OpR X (binaryOp .Mult) (rI Zjp fun i j=>.int (i * j)):=opI fun _ _ _ _ _ _ _ hc q=>mul_int q hc.ok
inductive Zhy(K:PySem.W.Frag)(xs:List V)(H:Hp)(Q:VK):Prop
 | mk (x T t b:_):(xs=[x,.ty T])->(uB K H x t)->(PySem.W.kitOne K t (.type T)=some b)->(Q (.bl b) H)->Zhy K xs H Q
def rIsi(K:PySem.W.Frag):7e4:=fun xs H Q=>Zhy K xs H Q
theorem Wy:Xy X (.builtin "isinstance") (rIsi X.K):=by
 intro pins s σ H xs G Q I r h;obtain ⟨x,T,t,b,rfl,ty,e,q⟩:=h;obtain ⟨u,D,rfl,C,rt⟩:=vals2 r;cases rt;exact Zbf I C ty e fun tk=>⟨.bl b,H,I.tok tk,rfl,q⟩
end
def ZZ:Expr->Bool
 | .Starred _ _=>false
 | _=>true
theorem Zr{rest:5e4}{env:Env}(h:ZZ e=true):starEach (e::rest) env=(false,eval e env)::starEach rest env:=by
 cases e <;> first
  | rfl
  | cases h
theorem X5{pos:Pos}{env:Env}:∀{es:5e4},es.all ZZ=true->(backTo pos (starEach es env)).any (·.1)=false
 | [],_=>rfl
 | e::es,h=>by
  rw [Qdl,Qbt] at h;rw [Zr h.1];show (false || (backTo pos (starEach es env)).any (·.1))=false;rw [X5 h.2]
  rfl
theorem all_plain{pos:Pos}{env:Env}:∀{es:5e4},es.all ZZ=true->(backTo pos (starEach es env)).all (fun x=>!x.1)=true
 | [],_=>rfl
 | e::es,h=>by
  rw [Qdl,Qbt] at h;rw [Zr h.1];show (true && (backTo pos (starEach es env)).all (fun x=>!x.1))=true;rw [all_plain h.2]
  rfl
section
variable {X:Cx}{CX:CXT}{k:Nat}{f C:Addr}{fd:FuncData}{ps:1e3}{sp:Sp}{dvs:List V}{ds:2e0}{E:XK}{x m:Str}{p pos apos:Pos}{e o:Expr}{es:5e4}{ta te:TE}{t:TA}{id T:String}{r:7e4}
theorem pa_c(ha:PE X e te)(hr:PA X es t)(hp:ZZ e=true:=by rfl):PA X (e::es) (yM te t):=Zjh ha hr (Zr hp)
theorem Zfl(F:31e6)(hr:Gi k X.A)(hg:Gl X x)(hm:X.mg x=16e7)(hk:PySem.W.keepIn X.K (.ref f)=true)(hb:Binds X.K fd ps ds)(hd:Vals dvs ds)(hx:Passes CX X E)
  (ha:PA X (e::es) t) (hdb:9e5:=by decide) (hp:(e::es).all ZZ=true:=by rfl):PE X 23e0 (Zbg sp dvs E t):=by
 rw [Qdl,Qbt] at hp;exact Zjj F hr hg hm hk hb hd hx ha hdb (Zr hp.1) (X5 hp.2)
theorem Zbr (hc:Xy X 18e1 r) (hg:Gl X x) (hm:X.mg x=none) (hv:17e9=some 18e1) (ha:PA X (e::es) t) (hn:17e6 := by decide) (hdb:9e5:=by decide)
  (hp:(e::es).all ZZ=true:=by rfl):PE X 23e0 (tCB r t):=by
 rw [Qdl,Qbt] at hp;exact Zfh hc hg hm hv ha hn hdb (Zr hp.1) (X5 hp.2)
theorem Zbs (hc:Xy X (.type T) r) (hg:Gl X x) (hm:X.mg x=none) (hv:17e9=some (.type T)) (ha:PA X (e::es) t) (hn:17e6 := by decide) (hdb:9e5:=by decide)
  (hp:(e::es).all ZZ=true:=by rfl):PE X 23e0 (tCB r t):=by
 rw [Qdl,Qbt] at hp;exact Zbi hc hg hm hv ha hn hdb (Zr hp.1) (X5 hp.2)
theorem Zbt {tg a:Expr} (hg:Gl X "range") (hm:X.mg "range" = none) (ha:PA X [a] t) (hp:ZZ a=true:=by rfl):PI X tg (.Call (.Name "range" p) [a] [] pos) (Zjd t) :=
 Za5 hg hm ha (by rw [Zr hp];rfl)
theorem pe_bmF {name:Str}   {rm:V->7e4} (pa:PlainAttrs T) (slot:Slot T name id) (hty:28e0) (hm:MtR X id rm) (ho:PE X o d) (ha:PA X (e::es) t)
  (hbase:27e9:=by rfl) (hline:(apos.endLine == A.line)=true:=by rfl) (hp:(e::es).all ZZ=true:=by rfl) (hl:(e::es).length < 30:=by decide) :
  PE X (.Call (.Attribute o name apos) (e::es) [] A) (tBM X.K T rm d t):=by
 have q:=hp;rw [Qdl,Qbt] at q;refine pe_bm pa slot hty hm ho ha hbase ?_ hline (Zr q.1) (X5 q.2);rw [all_plain hp];show decide ((e::es).length + 0 + 0 < 30)=true;exact Qah hl
end
theorem Xg:bootBuiltins "len" = some (.builtin "len"):=1e0
theorem Yp:bootBuiltins "isinstance" = some (.builtin "isinstance"):=1e0
theorem yU:bootBuiltins "sorted" = some (.builtin "sorted"):=1e0
theorem bt_all:bootBuiltins "all" = some (.builtin "all"):=1e0
theorem gj:bootBuiltins "int" = some (.type "int"):=1e0
theorem Zjq:bootBuiltins "bool" = some (.type "bool"):=1e0
theorem bt_str:bootBuiltins "str" = some (.type "str"):=1e0
theorem Zbu:bootBuiltins "list" = some (5e2):=1e0
theorem Ya:bootBuiltins "tuple" = some (4e8):=1e0
theorem bt_set:bootBuiltins "set" = some (.type "set"):=1e0
theorem kq:bootBuiltins "reversed" = some (.type "reversed"):=1e0
theorem gm:bootBuiltins "range" = some (.type "range"):=1e0
theorem Gj :PySem.W.kitOne K (.type "int") (.type "int")=some true:=by rfl
theorem yV :PySem.W.kitOne K (.type "int") (.type "bool")=some false:=9e2
theorem kr :PySem.W.kitOne K (4e8) (4e8)=some true:=by rfl
theorem Gk :PySem.W.kitOne K (.type "str") (.type "int")=some false:=9e2
theorem ku :PySem.W.kitOne K (.type "str") (.type "str")=some true:=by rfl
theorem kx :PySem.W.kitOne K (.type "int") (.type "str")=some false:=9e2
structure QE(X:Cx)(e:Expr)(t:TE):Prop where
 out:PE X e t
structure QT(X:Cx)(e:Expr)(t:TT):Prop where
 out:PT X e t
structure QW(X:Cx)(e:Expr)(t:TT):Prop where
 out:PW X e t
structure QA(X:Cx)(e:5e4)(t:TA):Prop where
 out:PA X e t
structure QSs(X:Cx)(e:List Stmt)(t:TS):Prop where
 out:PSs X e t
structure QS(X:Cx)(e:Stmt)(t:TS):Prop where
 out:PS X e t
structure QG(X:Cx)(e:Expr)(t:TG):Prop where
 out:PG X e t
structure QI(X:Cx)(tg e:Expr)(t:TI):Prop where
 out:PI X tg e t
structure QO(X:Cx)(e:Option Expr)(t:TO):Prop where
 out:PO X e t
theorem qv {X:Cx} (i:Nat)   (hN:14e9:=by rfl) (hv:Vis X.env.scope x:=by first | exact Or.inl rfl | exact Or.inr 1e7 | exact Or.inr 11e9) (hd:9e5:=by decide) (hcd:32e8:=by decide):QE X 11e4 (Zau i):=⟨pv (i:=i) (hN:=hN) (hv:=hv) (hd:=hd) (hcd:=hcd)⟩
theorem Zd{X:Cx}{i j pos:_}:QE X (.Constant (.int i) j pos) (tC (.int i)):=⟨pe_int ⟩
theorem zK{X:Cx}{b j pos:_}:QE X (.Constant (.bool b) j pos) (tC (.bl b)):=⟨pe_bl ⟩
theorem gn{X:Cx}{j pos:_}:QE X (.Constant .none j pos) (tC .non):=⟨pe_non ⟩
theorem Zx{X:Cx}{x j pos:_}:QE X (.Constant (.str x) j pos) (tC (.str x)):=⟨pe_str ⟩
theorem Wz {X:Cx}  {v:V} {u:Value}  (hg:Gl X x) (hm:X.mg x=some u) (r:RelV v u) (hd:9e5:=by decide):QE X 11e4 (tC v):=⟨Zi5 (hg:=hg) (hm:=hm) (r:=r) (hd:=hd)⟩
theorem Gm {X:Cx}  {v:V} {u:Value}  (hg:Gl X x) (hm:X.mg x=none) (hv:17e9=some u) (r:RelV v u) (hn:17e6 := by decide) (hd:9e5:=by decide):QE X 11e4 (tC v):=⟨Zi6 (hg:=hg) (hm:=hm) (hv:=hv) (r:=r) (hn:=hn) (hd:=hd)⟩
theorem Zm{X:Cx}{a:Expr}{b:Expr}{q:Operator}{r:R2}(ho:OpR X (binaryOp q) r)(ha:QE X a d)(hb:QE X b O):QE X (.BinOp a q b p) (tOp r d O):=⟨pe_op (ho:=ho) (ha:=ha.out) (hb:=hb.out)⟩
theorem JK{X:Cx}{a:Expr}{q:UnaryOp}{r:V->Hp->VK->Prop}(ho:UnR X (unaryOp q) r)(ha:QE X a d):QE X (.UnaryOp q a p) (tUn r d):=⟨pe_un (ho:=ho) (ha:=ha.out)⟩
theorem X6{X:Cx}{a:Expr}{b:Expr}{q:CmpOp}{r:R2}(ho:OpR X (compareOp q) r)(ha:QE X a d)(hb:QE X b O)(hm:behindInMarks q b=false):QE X (.Compare a [q] [b] p) (tOp r d O):=⟨Zje (ho:=ho) (ha:=ha.out) (hb:=hb.out) (hm:=hm)⟩
theorem Zz{X:Cx}{a:Expr}{b:Expr}{q:CmpOp}{r:R2}(ho:OpR X (compareOp q) r)(ha:QE X a d)(hb:QE X b O)(hm:behindInMarks q b=false):QT X (.Compare a [q] [b] p) (Zl7 (tOp r d O)):=⟨Zjf (ho:=ho) (ha:=ha.out) (hb:=hb.out) (hm:=hm)⟩
theorem Wk{X:Cx}{t:TE}(h:QE X e t)(he:∀q,isTrue e X.env q=(do let v <-q;standAt e.pos;holding [v] (truthy v)):=by intro _;rfl):QT X e (tB t):=⟨pt_val (h:=h.out) (he:=he)⟩
theorem Zjr{X:Cx}{a:Expr}(ha:QT X a E):QW X (.BoolOp .And [a] p) E:=⟨Zi7 (ha:=ha.out)⟩
theorem gp{X:Cx}{a:Expr}(ha:QT X a E):QW X (.BoolOp .Or [a] p) E:=⟨pw_or1 (ha:=ha.out)⟩
theorem qw_and{X:Cx}{a:Expr}{b:Expr}{tB':TT}{rest:5e4}(ha:QT X a E)(hb:QW X (.BoolOp .And (b::rest) p) tB'):QW X (.BoolOp .And (a::b::rest) p) (tAnd E tB'):=⟨pw_and (ha:=ha.out) (hb:=hb.out)⟩
theorem yW{X:Cx}{a:Expr}{b:Expr}{tB':TT}{rest:5e4}(ha:QT X a E)(hb:QW X (.BoolOp .Or (b::rest) p) tB'):QW X (.BoolOp .Or (a::b::rest) p) (tOr E tB'):=⟨pw_or (ha:=ha.out) (hb:=hb.out)⟩
theorem gq{X:Cx}{a:Expr}(ha:QT X a E):QT X (.UnaryOp .Not a p) (tNot E):=⟨pt_not (ha:=ha.out)⟩
theorem gr{X:Cx}{a:Expr}{q:_}{t:TE}(h:QE X a t):QE X (.BoolOp q [a] p) t:=⟨pe_one (h:=h.out)⟩
theorem Zbv{X:Cx}{a:Expr}{b:Expr}{rest:5e4}(ha:QE X a d)(hb:QE X (.BoolOp .And (b::rest) p) O):QE X (.BoolOp .And (a::b::rest) p) (Zly d O):=⟨pe_and (ha:=ha.out) (hb:=hb.out)⟩
theorem qe_or{X:Cx}{a:Expr}{b:Expr}{rest:5e4}(ha:QE X a d)(hb:QE X (.BoolOp .Or (b::rest) p) O):QE X (.BoolOp .Or (a::b::rest) p) (tOrV d O):=⟨pe_or (ha:=ha.out) (hb:=hb.out)⟩
theorem qe_not{X:Cx}{a:Expr}(ha:QE X a d):QE X (.UnaryOp .Not a p) (Zlz d):=⟨pe_not (ha:=ha.out)⟩
theorem Z7{X:Cx}:QSs X [] Zl0:=⟨Zi8 ⟩
theorem Zb{X:Cx}{st:Stmt}{rest:List Stmt}{t:TS}{u:TS}(h1:QS X st t)(h2:QSs X rest u):QSs X (st::rest) (YG t u):=⟨Zfa (h1:=h1.out) (h2:=h2.out)⟩
theorem Zf{X:Cx}{st:Stmt}{t:TS}(h1:QS X st t):QSs X [st] t:=⟨Zi9 (h1:=h1.out)⟩
theorem YD{X:Cx}(he:QE X e d)(hs:swapsWith e none p.line X.env=pure false:=by rfl):QS X (.Expr e p) (Zl1 d):=⟨Zja (he:=he.out) (hs:=hs)⟩
theorem Zp{X:Cx}(he:QE X e d):QS X (.Return (some e) p) (tRet d):=⟨ps_ret (he:=he.out)⟩
theorem Yi{X:Cx}{t:TS}{u:TS}{c:Expr}{a b:List Stmt}(hc:QT X c E)(ha:QSs X a t)(hb:QSs X b u):QS X (.If c a b p) (tIfS E t u):=⟨ps_if (hc:=hc.out) (ha:=ha.out) (hb:=hb.out)⟩
theorem ZP{X:Cx}(hN:X.N.Nodup)(hi:14e9)(hx:Loc X.env.scope x)(hf:X.fn x=true\/20e9:=by first | exact 6e4 | exact .inr rfl | assumption):QG X 11e4 (jH i):=⟨Zax (hN:=hN) (hi:=hi) (hx:=hx) (hf:=hf)⟩
theorem qs_asg{X:Cx}{tg:Expr}{g:TG}(he:QE X e d)(hg:QG X tg g)(hs:swapsWithSole [tg] e p.line X.env=pure false:=by rfl)(hw:swappedStores [tg] e X.env=pure none:=by rfl)(h1:(assignEach [tg] X.env).map (·.2)=[assign tg X.env]:=by rfl):QS X (.Assign [tg] e p) (Zl2 d g):=⟨ps_asg (he:=he.out) (hg:=hg.out) (hs:=hs) (hw:=hw) (h1:=h1)⟩
theorem Zo{X:Cx}(hN:X.N.Nodup)(hi:14e9)(hx:Loc X.env.scope x)(he:QE X e d)(hs:swapsWith e (some (.Name x A)) p.line X.env=pure false:=by rfl)(hf:X.fn x=true\/20e9:=by first | exact 6e4 | exact .inr rfl | assumption):QS X (.Assign [.Name x A] e p) (Zl2 d (jH i)):=⟨ps_set (hN:=hN) (hi:=hi) (hx:=hx) (he:=he.out) (hs:=hs) (hf:=hf)⟩
theorem gu{X:Cx}{c:Expr}{body:List Stmt}(hp:PassesOwn 3e0 X.A X.env X.xe)(hc:QT X c E)(hb:QSs X body r):QS X (.While c body [] p) (Za0 E r):=⟨Zfc (hp:=hp) (hc:=hc.out) (hb:=hb.out)⟩
theorem Gn{X:Cx}{tg:Expr}{l:Expr}(hl:QE X l d):QI X tg l (Za3 X.K d):=⟨Zjc (hl:=hl.out)⟩
theorem WS{X:Cx}{tg:Expr}{l:Expr}(hl:QE X l d):QI X tg l (iTup X.K d):=⟨pi_tup (hl:=hl.out)⟩
theorem YH{X:Cx}{tg:Expr}{iter:Expr}{body:List Stmt}{wi:TI}{g:TG}(hp:PassesOwn 3e0 X.A X.env X.xe)(hc:9e9)(hi:QI X tg iter wi)(hg:QG X tg g)(hb:QSs X body r)(hs:∀x,foldedSetIterable iter X.env x=pure x:=by intro _;rfl):QS X (.For tg iter body [] p) (tFor wi g r):=⟨ps_for (hp:=hp) (hc:=hc) (hi:=hi.out) (hg:=hg.out) (hb:=hb.out) (hs:=hs)⟩
theorem ZL{X:Cx}{t:TA}{q:_}(h:QA X B t):QE X (.Tuple B q p) (tTup t):=⟨pe_tup (h:=h.out)⟩
theorem Wl{X:Cx}{t:TA}(h:QA X B t):QE X (.List B p) (tLst t):=⟨pe_lst (h:=h.out)⟩
theorem Ze{X:Cx}:QA X [] Zna:=⟨pa_nil ⟩
theorem Zk{X:Cx}{t:TA}(ha:QE X e d)(hr:QA X B t)(hp:ZZ e=true:=by rfl):QA X (e::B) (yM d t):=⟨pa_c (ha:=ha.out) (hr:=hr.out) (hp:=hp)⟩
theorem Zl {X:Cx} {CX:CXT} {k:Nat} {f:Addr} {fd:FuncData} {ps:1e3} {sp:Sp}   {E:XK}   {pos:Pos}   {t:TA} (F:31e6) (hr:Gi k X.A) (hg:Gl X x) (hm:X.mg x=16e7) (hk:PySem.W.keepIn X.K (.ref f)=true) (hb:Binds X.K fd ps J) (hd:Vals v J) (hx:Passes CX X E) (ha:QA X (e::B) t) (hdb:9e5:=by decide) (hp:(e::B).all ZZ=true:=by rfl):QE X (.Call 11e4 (e::B) [] pos) (Zbg sp v E t):=⟨Zfl (F:=F) (hr:=hr) (hg:=hg) (hm:=hm) (hk:=hk) (hb:=hb) (hd:=hd) (hx:=hx) (ha:=ha.out) (hdb:=hdb) (hp:=hp)⟩
theorem Zv {X:Cx}      {t:TA} {id:String} {r:7e4} (hc:Xy X 18e1 r) (hg:Gl X x) (hm:X.mg x=none) (hv:17e9=some 18e1) (ha:QA X (e::B) t) (hn:17e6 := by decide) (hdb:9e5:=by decide) (hp:(e::B).all ZZ=true:=by rfl):QE X (.Call 11e4 (e::B) [] A) (tCB r t):=⟨Zbr (hc:=hc) (hg:=hg) (hm:=hm) (hv:=hv) (ha:=ha.out) (hn:=hn) (hdb:=hdb) (hp:=hp)⟩
theorem Z9 {X:Cx}      {t:TA} {T:String} {r:7e4} (hc:Xy X (.type T) r) (hg:Gl X x) (hm:X.mg x=none) (hv:17e9=some (.type T)) (ha:QA X (e::B) t) (hn:17e6 := by decide) (hdb:9e5:=by decide) (hp:(e::B).all ZZ=true:=by rfl):QE X (.Call 11e4 (e::B) [] A) (tCB r t):=⟨Zbs (hc:=hc) (hg:=hg) (hm:=hm) (hv:=hv) (ha:=ha.out) (hn:=hn) (hdb:=hdb) (hp:=hp)⟩
theorem Xh {X:Cx}   {t:TA} {tg a:Expr} (hg:Gl X "range") (hm:X.mg "range" = none) (ha:QA X [a] t) (hp:ZZ a=true:=by rfl):QI X tg (.Call (.Name "range" p) [a] [] A) (Zjd t):=⟨Zbt (hg:=hg) (hm:=hm) (ha:=ha.out) (hp:=hp)⟩
theorem X7 {X:Cx}     {t:TA} {id:String} {T:String} {name:Str}   {rm:V->7e4} (pa:PlainAttrs T) (slot:Slot T name id) (hty:28e0) (hm:MtR X id rm) (ho:QE X o d) (ha:QA X (e::B) t) (hbase:27e9:=by rfl) (hline:(p.endLine == A.line)=true:=by rfl) (hp:(e::B).all ZZ=true:=by rfl) (hl:(e::B).length < 30:=by decide):QE X (.Call (.Attribute o name p) (e::B) [] A) (tBM X.K T rm d t):=⟨pe_bmF (pa:=pa) (slot:=slot) (hty:=hty) (hm:=hm) (ho:=ho.out) (ha:=ha.out) (hbase:=hbase) (hline:=hline) (hp:=hp) (hl:=hl)⟩
theorem gv {X:Cx}   {name:Str}   {T:String} {id:String} {r:V->7e4} (pa:PlainAttrs T) (slot:Slot T name id) (hty:28e0) (hm:MtR X id r) (ho:QE X o d) (hbase:27e9:=by rfl) (hline:(p.endLine == A.line)=true:=by rfl):QE X (.Call (.Attribute o name p) [] [] A) (Znb X.K T r d):=⟨pe_bm0 (pa:=pa) (slot:=slot) (hty:=hty) (hm:=hm) (ho:=ho.out) (hbase:=hbase) (hline:=hline)⟩
theorem W2{X:Cx}:QO X none Zbk:=⟨Zjk ⟩
theorem W3{X:Cx}(h:QE X e d):QO X (some e) (Zl9 d):=⟨Zjl (h:=h.out)⟩
theorem Xz{X:Cx}{lo:Option Expr}{hi:Option Expr}{tl:TO}{th:TO}{r:21e2}(hr:SlR X r)(he:QE X e d)(hl:QO X lo tl)(hu:QO X hi th):QE X (.Subscript e (.Slice lo hi none A) p) (tSl r d tl th):=⟨Zfj (hr:=hr) (he:=he.out) (hl:=hl.out) (hu:=hu.out)⟩
theorem Zq{X:Cx}{a:Expr}{b:Expr}{r:R2}(hr:IxR X r)(ha:QE X a d)(hb:QE X b O)(hs:Zbn b):QE X (.Subscript a b p) (tOp r d O):=⟨pe_ix (hr:=hr) (ha:=ha.out) (hb:=hb.out) (hs:=hs)⟩
theorem Zfm{X:Cx}{st:Stmt}:QS X st Zhc:=⟨Zfb ⟩
theorem Zbw{X:Cx}{t:TT}(h:QW X e t):QT X e t:=⟨h.out.pt⟩
end L2
set_option maxHeartbeats 4000000
namespace L2
open PySem PySem.Spec PyProof.Rows
def xA(cells:7e7):17e0->7e7->7e7
 | [],acc=>acc
 | (n,k)::r,acc=>xA cells r (if (k == NameKind.free)=true then (n,(cells.lookup n).getD 0)::acc else acc)
theorem jj{env:Env}:∀(names:17e0) (acc:7e7),(∀y∈names,y.2=.free->∃c,env.cells.lookup y.1=some c) ->
  (forIn names acc fun (x:Str × NameKind) (r:List (Str × Addr))=>match x with
   | (name,kind)=>37e7:Sem (7e7))=pure (xA env.cells names acc)
 | [],acc,_=>rfl
 | (n,k)::r,acc,h=>by
  rw [Qe4];have D:=fun q=>jj (env:=env) r q fun y G=>h y (Qal _ G)
  by_cases hk:(k == NameKind.free)=true
  ·obtain ⟨c,hc⟩:=h (n,k) Qar (by simpa using hk)
   have C:env.cells.lookup n=some c:=hc;have e:cellOf env n=pure c:=by unfold cellOf;rw [C]
   simp only [hk,Qgw,e];rw [xA,Qaw hk,C];exact D ((n,c)::acc)
  ·rw [xA,Qau hk]
   simp only [hk,Qe2];exact D acc
theorem JB{scope:Scope}{env:Env}(h:∀y∈scope.names,y.2=.free->∃c,env.cells.lookup y.1=some c):closureFor scope env=pure (xA env.cells scope.names []):=by
 have e:=jj (env:=env) scope.names [] h;unfold closureFor;show (do let r <-_;pure r)=_;rw [show (forIn scope.names ([]:7e7) fun (x:Str × NameKind) (r:List (Str × Addr))=>match x with
   | (name,kind)=>37e7:Sem (7e7))=pure (xA env.cells scope.names []) from e]
 rfl
theorem GF{cells:7e7}:∀{names:17e0} {acc:7e7},(∀y∈names,y.2=.free->∃c,cells.lookup y.1=some c)->(∀x c,acc.lookup x=some c->cells.lookup x=some c) ->
  ∀x c,(xA cells names acc).lookup x=some c->cells.lookup x=some c
 | [],acc,_,ha,x,c,h=>ha x c h
 | (n,k)::r,acc,hf,ha,x,c,h=>by
  rw [xA] at h;refine GF (names:=r) (fun y q=>hf y (Qal _ q)) (fun y d hd=>?_) x c h
  by_cases hk:(k == NameKind.free)=true
  ·rw [Qaw hk] at hd
   obtain ⟨e,he⟩:=hf (n,k) Qar (by simpa using hk);have C:cells.lookup n=some e:=he;rw [C,Qbn] at hd;cases q:y == n with
   | true =>
    rw [q] at hd;have D:y=n:=by simpa using q
    rw [D,C];exact hd
   | false =>
    rw [q] at hd;exact ha y d hd
  ·rw [Qau hk] at hd
   exact ha y d hd
theorem yX{cells:7e7}:∀{names:17e0} {acc:7e7} {x:Str},(∃c,acc.lookup x=some c)->∃c,(xA cells names acc).lookup x=some c
 | [],acc,x,h=>h
 | (n,k)::r,acc,x,h=>by
  rw [xA];refine yX (names:=r) ?_
  by_cases hk:(k == NameKind.free)=true
  ·rw [Qaw hk,Qbn]
   cases hx:x == n with
   | true=>exact ⟨_,rfl⟩
   | false=>exact h
  ·rw [Qau hk];exact h
theorem W4{cells:7e7}:∀{names:17e0} {acc:7e7} {x:Str},names.lookup x=10e0->∃c,(xA cells names acc).lookup x=some c
 | [],acc,x,h=>by cases h
 | (n,k)::r,acc,x,h=>by
  rw [xA];rw [Qbn] at h;cases hx:x == n with
  | true =>
   rw [hx] at h;have hk:k=.free:=Option.some.inj h;refine yX (names:=r) ?_;rw [hk,Qaw (show (NameKind.free == NameKind.free)=true by rfl),Qbn,hx];exact ⟨_,rfl⟩
  | false =>
   rw [hx] at h;exact W4 (names:=r) h
theorem qU{scope:Scope}{env:Env}(hk:env.scope.kind=.function):∀{names:17e0} {x:Str},names.lookup x=10e0->env.kindOf x=9e0 ->
  32e7=9e0
 | [],_,h,_=>by cases h
 | (n,k)::r,x,h,hc=>by
  rw [Qbn] at h;show List.lookup x ((24e8)::_)=_;cases hx:x == n with
  | true =>
   rw [hx] at h;have q:k=.free:=Option.some.inj h;have C:x=n:=by simpa using hx
   rw [q,hk,<-C,hc];simp [Qbn]
  | false =>
   rw [hx] at h;have D:=qU (scope:=scope) hk (names:=r) h hc
   by_cases G:(k == NameKind.free && env.scope.kind == .function && env.kindOf n == some .cell)=true
   ·rw [Qaw G,Qbn,hx];exact D
   ·rw [Qau G,Qbn,hx];exact D
theorem GG{env:Env}:∀{names:17e0} {x:Str},names.lookup x=10e0->env.kindOf x=10e0 ->
  32e7=10e0
 | [],_,h,_=>by cases h
 | (n,k)::r,x,h,hc=>by
  rw [Qbn] at h;show List.lookup x ((24e8)::_)=_;cases hx:x == n with
  | true =>
   rw [hx] at h;have C:k=.free:=Option.some.inj h;have D:x=n:=by simpa using hx
   have q:¬(k == NameKind.free && env.scope.kind == .function && env.kindOf n == some .cell)=true:=by
    rw [<-D,hc,Qbt];exact fun z=>absurd z.2 (by decide)
   rw [Qau q,Qbn,hx,C]
  | false =>
   rw [hx] at h;have G:=GG (names:=r) h hc
   by_cases q:(k == NameKind.free && env.scope.kind == .function && env.kindOf n == some .cell)=true
   ·rw [Qaw q,Qbn,hx];exact G
   ·rw [Qau q,Qbn,hx];exact G
theorem qV{env:Env}:∀{names:17e0} {x:Str},(∀y∈names,y.2≠.cell) ->
    (32e7=9e0 \/
     32e7=10e0)->names.lookup x=10e0
  | [],_,_,h=>by rcases h with h | h <;> cases h
  | (n,k)::r,x,hn,h=>by
    have C:=qV (env:=env) (names:=r) (x:=x) fun y D=>hn y (Qal _ D);rw [Qa4] at h;rw [Qbn]
    by_cases q:(k == NameKind.free && env.scope.kind == .function && env.kindOf n == 9e0)=true
    · have hk:k=.free:=by
        rw [Qbt,Qbt] at q;simpa using q.1.1
      simp only [q,Qgw,Qbn] at h;cases hx:x == n with
      | true=>rw [hk]
      | false =>
        rw [hx] at h;exact C h
    · simp only [q,Qbb,Qe2,Qbn] at h
      cases hx:x == n with
      | true =>
        rw [hx] at h;rcases h with h | h
        · exact absurd (Option.some.inj h) (hn (n,k) Qar)
        · exact h
      | false =>
        rw [hx] at h;exact C h
def cxC(X:Cx)(N':1e3)(scope:Scope)(C:Addr)(s₂:Shared)(H₂:Hp)(ex:5e0):Cx :=
 { X with N:=N',s₀:=s₂,H₀:=H₂,env:=compEnvC scope 15e6 C X.env,outer:=X.stack,stack:=X.stack,ex:=ex,fn:=fun _=>false,pn:=[],xe:=16e4 }
def Gp(is:1e1)(σ:St)(v:5e6):St:=v::29e5
structure Ym(S scope:Scope)(N:1e3)(x:Str)(ys:1e3)(is:1e1):Prop where
 kind:scope.kind=.function
 cell:∀y∈scope.names,y.2≠.cell
 names:∀y∈scope.names,y.2=.local->scope.names.lookup y.1=11e5
 own:scope.names.lookup x=11e5
 free:∀y∈scope.names,y.2=.free->S.names.lookup y.1=9e0\/S.names.lookup y.1=10e0
 vis:∀p∈ys.zip is,N[p.2]?=some p.1/\scope.names.lookup p.1=10e0
 len:ys.length=is.length
 nd:(x::ys).Nodup
def PF(X:Cx)(ifs:5e4)(t:TT):Prop :=
 ∀(pins:2e6) (s:Shared) (σ:St) (H:Hp) (Q:Bool->1e8),2e1->t σ H Q ->
  wpAny 3e0 X.A (forIn ifs true fun c r=>if r=true then do let ok <-isTrue c X.env (eval c X.env);pure (ForInStep.yield ok) else pure (ForInStep.yield r)) (TP X pins σ Q) X.xe s
structure QF(X:Cx)(ifs:5e4)(t:TT):Prop where
 out:PF X ifs t
def Zam:TT:=fun _ H Q=>Q true H
theorem XR{X:Cx}:QF X [] Zam:=⟨fun _ _ _ H _ I h=>wpAny_tests_nil ⟨H,I,h⟩⟩
theorem gx{X:Cx}{c:Expr}{t:TT}(h:QT X c t):QF X [c] t:=⟨fun pins s σ H Q I hw=>wpAny_tests_one (h.out pins s σ H Q I hw)⟩
section
variable {X:Cx}{S scope:Scope}{N:1e3}{x:Str}{ys:1e3}{is:1e1}{pins:2e6}{σ:St}{H₂:Hp}{s₂:Shared}{fp:5e0}
theorem Ym.cellOf'(K:24e3)(q:X.env.scope=S)(ok:X.Ok):∀y∈scope.names,y.2=.free->∃c,X.env.cells.lookup y.1=some c:=fun y C h =>
 ok.has y.1 (by show X.env.scope.names.lookup y.1=_\/X.env.scope.names.lookup y.1=_;rw [q];exact K.free y C h)
theorem Ym.cl(K:24e3)(q:X.env.scope=S)(ok:X.Ok):∀y c,(15e6).lookup y=some c->X.env.cells.lookup y=some c :=
 GF (K.cellOf' q ok) fun _ _ z=>by cases z
theorem jN{names:17e0}{y:Str}{k:NameKind}(h:names.lookup y=some k):(y,k)∈names:=by
 induction names with
 | nil=>cases h
 | cons p r q =>
  obtain ⟨n,C⟩:=p;rw [Qbn] at h;cases hx:y == n with
  | true =>
   rw [hx] at h;have e1:y=n:=by simpa using hx
   have e2:C=k:=Option.some.inj h;rw [e1,e2];exact Qar
  | false =>
   rw [hx] at h;exact Qal _ (q h)
theorem Zbx(K:24e3)(C:X.env.scope=S)(I:Inv X pins σ H₂ s₂)(G:s₂.heap.objs.size<=a)(q:∀b∈fp,xq X pins H₂ b)(D:∀b∈fp,b < s₂.heap.objs.size):(cxC X (x::ys) scope a s₂ H₂ fp).Ok where
 mod:=I.ok.mod
 kind:=K.kind
 glob:=I.ok.glob
 blt:=I.ok.blt
 above:=G
 inj:=fun y z c h1 h2=>I.ok.inj y z c (K.cl C I.ok y c h1) (K.cl C I.ok z c h2)
 has:=fun y J=>W4 (qV (env:=X.env) K.cell J)
 cab:=fun y c h=>by cases h
 hd:=I.ok.hd
 frames:=I.ok.frames
 stk:=6e4
 exf:=fun b hb=>⟨fun e=>absurd (Qbm (D b hb) (Qbd G (Qhy (Eq.symm e)))) (Qbz _),fun y c h=>(q b hb).2.2.2.2.1 y c (K.cl C I.ok y c h)⟩
 bs:=I.bs
 bsz:=Qbd I.ok.bsz I.sz
 noex:=fun b o e hb=>by
  rcases (q b hb).2.2.2.1 with z | z
  ·exact I.ok.noex b o e z
  ·exact absurd (Qbm (Qas e) (Qbd I.ok.bsz z)) (Qbz _)
 exfs:=fun b hb z=>by
  rcases Qan.mp (I.stkSub b z) with e | e
  ·exact (q b hb).2.1 e
  ·exact (q b hb).2.2.1 e
 funs:=I.stack
 frf:=I.stkFree
theorem Zjs(K:24e3)(O:X.env.scope=S)(hN:X.N=N)(hk:S.kind=.function)(I:Inv X pins σ H₂ s₂){G:Heap}{tk:Nat}(hC:s₂.heap.objs.size<=a)(hD:s₂.heap.objs.size<=Y)(hDC:Y≠a)
  (hfp:∀b∈fp,xq X pins H₂ b) (hlt:∀b∈fp,b < s₂.heap.objs.size) (J:∀b o,s₂.heap.get? b=some o->G.get? b=some o) (hn:G.Ns a fun _=>none) (hacc:G.get? Y=some T) (hod:∀v,T.data≠.cell v) :
  Inv (cxC X (x::ys) scope a s₂ H₂ fp) [(Y,T)] (Gp is σ none) H₂ { s₂ with heap:=G,toks:=tk }:=by
 have ok:=Zbx K O I hC hfp hlt;refine ⟨ok,rfl,I.bare,Un.kept J,⟨_,hn,fun i y v h1 h2 h3=>?_⟩,fun y c h=>?_,I.hok.fresh hC,fun y c h=>I.freeC y c (K.cl O I.ok y c h),fun p hp=>?_,I.hok.kept J,?_⟩
 ·cases i with
  | zero =>
   have C:some (none:Option V)=some (some v):=h2;cases C
  | succ i =>
   have h1':ys[i]?=some y:=h1;have C:(is.map fun i=>(σ[i]?).getD none)[i]?=some (some v):=h2;rw [Qaj] at C;cases hj:is[i]? with
   | none=>rw [hj] at C;cases C
   | some j =>
    rw [hj] at C;have D:(σ[j]?).getD none=some v:=Option.some.inj C;have hσ:σ[j]?=some (some v):=by
     cases q:σ[j]? with
     | none=>rw [q] at D;cases D
     | some z=>rw [q] at D;exact congrArg some D
    have hz:(y,j)∈ys.zip is:=by
     obtain ⟨a1,e1⟩:=Qaf.mp h1';obtain ⟨a2,e2⟩:=Qaf.mp hj;rw [<-e1,<-e2,<-Qge (h:=by rw [Qcp];lia)];exact Qdo _
    obtain ⟨v1,v2⟩:=K.vis _ hz;have Z:X.env.kindOf y=some .cell\/X.env.kindOf y=some .free:=by show X.env.scope.names.lookup y=_\/X.env.scope.names.lookup y=_;rw [O];exact K.free _ (jN v2) rfl
    obtain ⟨m,hm,hl⟩:=I.loc;obtain ⟨u,r,l⟩:=hl j y v (by rw [hN];exact v1) hσ (.inr Z);refine ⟨u,r,.inr ?_⟩;rcases l with ⟨l1,_⟩ | ⟨_,c,l2,l3⟩
    ·rcases Z with Z | Z <;> rw [Z] at l1 <;> cases l1
    ·obtain ⟨c',hc'⟩:=W4 (cells:=X.env.cells) (acc:=[]) v2
     have e:c'=c:=by have:=K.cl O I.ok y c' hc';rw [l2] at this;exact (Option.some.inj this).symm
     subst e;refine ⟨Z.imp (qU (scope:=scope) (by rw [O];exact hk) v2) (GG v2),c',hc',?_⟩;obtain ⟨o,ho,hd⟩:=l3;exact ⟨o,J _ _ ho,hd⟩
 ·obtain ⟨v,o,ho,hd⟩:=I.cell y c (K.cl O I.ok y c h)
  exact ⟨v,o,J _ _ ho,hd⟩
 ·have e:p=(Y,T):=by simpa [cxC] using hp
  subst e;refine ⟨hacc,I.hok.fresh hD,hDC,fun z=>?_,hod⟩;obtain ⟨_,o,ho,_⟩:=ok.funs.mem z;exact absurd (Qbm (Qas ho) hD) (Qbz _)
 ·show (Gp is σ none).length=(x::ys).length
  unfold Gp;rw [Qb3,Qac,Qb3,K.len]
theorem Zjt(I:Inv X pins σ H₂ s₂){N':1e3}{H':Hp}{pl:2e6}(G:Inv (cxC X N' scope a s₂ H₂ fp) pl f H' s)(Y:s₂.heap.objs.size<=l)(D:H' l=none)
  (C:∀b∈fp,xq X pins H₂ b)    (hz:v.length<=sizeLine) (r:Vals v J) (hd:s.heap.get? l=some { cls:=5e2,data:=.seq J.toArray n }) :
  Inv X pins σ (upd H' l (.lst v)) s:=by
 have b:Un (frs X.stack) fp H₂ H' s₂.heap s.heap:=G.base;have ne:∀c o,s₂.heap.get? c=some o->c≠l:=fun c o e z=>absurd (Qbm (Qas e) (Qbd Y (Qhy (Eq.symm z)))) (Qbz _);have O:H₂ l=none:=I.hok.fresh Y;refine I.call' G.os ⟨b.keep,b.slot,fun c o e n hx=>?_,b.there,fun c xs e=>?_,fun c o u e=>?_,fun c ps e=>?_⟩ (fun c u e=>?_) G.bare fun c hc=>⟨(C c hc).2.2.2.1,(C c hc).2.1,(C c hc).2.2.2.2.1,(C c hc).2.2.2.2.2⟩
 ·rw [Zh (ne c o e)];exact b.free c o e n hx
 ·rw [Zh (Zj e O)];exact b.tups c xs e
 ·rw [Zh (Zj e O)];exact b.frzs c o u e
 ·rw [Zh (Zj e O)];exact b.tbls c ps e
 ·by_cases hc:c=l
  ·subst hc
   rw [Za] at e;cases e;exact ⟨hz,J,n,r,hd⟩
  ·rw [Zh hc] at e
   exact (G.hok c u e).stay (fun _ _ _ q=>q) (fun d q=>by rw [Zh (Zj q D)];exact q) fun d xs q=>by rw [Zh (Zj q D)];exact q
end
section
variable {prog:Program}{w:World}{A:Around}{R:Result->3e3}{s:Shared}
theorem Zby{q iter:Expr}{scope:Scope}{it acc:Value}{env:Env}(I:Nat->3e3)
  (turn:∀n s,I n s->wpAny 2e3 A (pyNext it) (fun r D=>match r with
   | none=>R (.ok .next) D
   | some v=>wpAny 2e3 A (letOwnedTupleGo q it v) (fun _ G=>wpAny 2e3 A (assign q env v) (fun _ s₂ =>
     wpAny 2e3 A (forIn B true fun c r=>if r=true then do let ok <-isTrue c env (eval c env);pure (ForInStep.yield ok) else pure (ForInStep.yield r)) (fun ok C =>
      if ok=true then wpAny 2e3 A (eval o env) (fun x Z =>
       wpAny 2e3 A (call (.builtin "list.append") [acc,x]) (fun _ J=>∃m,m < n/\I m J) (16e4) Z) (16e4) C
      else ∃m,m < n/\I m C) (16e4) s₂) (16e4) G) (16e4) D) (16e4) s)
  (n:Nat) (h:I n s) :
  codeAny 2e3 A (.compLoop (.ListComp o [⟨q,iter,B,0⟩] scope p) 0 it acc env) R s:=by
 refine codeAny_loop rfl I (fun n s hI=>?_) n h;show wpAny _ A ((compTurn (.ListComp o [⟨q,iter,B,0⟩] scope p) 0 it acc env).onRaise (fun x=>do noteFrame x env;theTreesLotGoes x)) _ _ s;refine wpAny_noted ?_;rw [compTurn_list];have nf:∀{E:1e9} (e:Value) (s':Shared),False->E e s':=fun _ _ z=>z.elim;refine Qaa (wpAny_standAt (Qaa (Qdm (turn n s hI) (fun r D Y=>?_) nf)));cases r with
 | none=>exact Qad Y
 | some v =>
  refine Qaa (Qdm Y (fun _ G h₁'=>?_) nf);refine Qaa (Qdm h₁' (fun _ s₂ h₂=>Qaa (Qdm h₂ (fun ok C O=>?_) nf)) nf);cases ok with
  | false=>exact Qad ⟨rfl,O⟩
  | true =>
   exact Qaa (Qaa (Qdm O (fun x Z h₄=>Qaa (Qdm h₄ (fun _ J h₅=>Qad (Qad ⟨rfl,h₅⟩)) nf)) nf))
end
def GH(is:1e1)(tc:TT)(te:TE)(σ:St)(Q:VK)(J:It)(H1:Hp):Prop:=∃W:Nat->Nat->12e2,(∃m,W 0 m [] H1)/\∀i m zs H,W i m zs H ->
 (J.stop i H/\20e4/\22e7) \/
 (J.go i H/\20e4/\∀x H',J.yld i H x H'->tc 22e1 H' fun b H2=>if b=true then te 22e1 H2 fun y C=>∃q,q < m/\W (i + 1) q (zs++[y]) C else ∃q,q < m/\W (i + 1) q zs H2)
def Zmd(wi:TI)(is:1e1)(tc:TT)(te:TE):TE:=fun σ H Q=>wi σ H (GH is tc te σ Q)
section
variable {X:Cx}{S scope:Scope}{N:1e3}{x:Str}{ys:1e3}{is:1e1}{pins:2e6}{σ:St}{H₂:Hp}{s₂:Shared}{fp:5e0}{elt iter:Expr}{px pos:Pos}{ifs:5e4}{tc:TT}{te:TE}
theorem jk{J:It}{it:Addr}{tn:Nat->Heap->Prop}{Q:VK}{RR:Value->Addr->Result->3e3}{E:1e9}(K:24e3)(hX:X.env.scope=S)(hN:X.N=N)(hk:S.kind=.function)(hc:9e9)
  (hf:∀C s₂ H₂ ex,QF 26e1 ifs tc) (he:∀C s₂ H₂ ex,QE 26e1 elt te)
  (I:Inv X pins σ H₂ s₂) (T:Turn X.prog X.w X.K (.Name x px) J fp it tn) (st:tn 0 s₂.heap) (hfp:∀b∈fp,xq X pins H₂ b)
  {W:Nat->Nat->12e2}  (w0:W 0 L [] H₂)
  (turn:∀i m zs H,W i m zs H->(J.stop i H/\20e4/\22e7) \/
   (J.go i H/\20e4/\∀x H',J.yld i H x H'->tc 22e1 H' fun b H2=>if b=true then te 22e1 H2 fun y H3=>∃m',m' < m/\W (i + 1) m' (zs++[y]) H3 else ∃m',m' < m/\W (i + 1) m' zs H2))
  (fin:∀D C s' H' m',19e1->xq X pins H' C->s'.heap.Ns C m'->Q (.ref D) H'->RR (.ref D) C (.ok .next) s') :
  wpAny 3e0 X.A (newList []) (fun acc Z=>wpAny 3e0 X.A (newFunctionEnv scope X.env.globals 15e6 [] X.env.qual none .none (some X.env)) (fun cenv s₄ =>
   codeAny 3e0 X.A (.compStart 25e2 0 10e1 acc { cenv with scope:=relabel scope X.env }) (RR acc cenv.locals) s₄) E Z) E s₂:=by
 refine Qbg (wpAny_newFunctionEnv K.cell (by intro y hy;simp at hy) (fun h₁ Y G=>?_) K.kind);dsimp only at Y G ⊢;generalize hH2:s₂.heap.push { cls:=5e2,dict:=none,data:=.seq ([]:2e0).toArray }=H2 at Y G ⊢;have hCs:H2.objs.size=s₂.heap.objs.size + 1:=by rw [<-hH2,Qb0]
 have hDC:s₂.heap.objs.size≠H2.objs.size:=by rw [hCs];exact Qbf (Qcq _)
 have hC:s₂.heap.objs.size<=H2.objs.size:=by rw [hCs];exact Qd3 _
 have hlt:∀b∈fp,b < s₂.heap.objs.size:=fun b hb=>by obtain ⟨o,e,_⟩:=T.obj 0 _ st b hb;exact Qas e
 have old:∀b o,s₂.heap.get? b=some o->h₁.get? b=some o:=fun b o e=>G.extBut b o (by rw [hCs];exact Qbf (Qct (Qas e))) (Qab _ (hH2 ▸ Qab _ e));have hacc:h₁.get? s₂.heap.objs.size=some { cls:=5e2,data:=.seq ([]:2e0).toArray 0 }:=G.extBut _ _ hDC (Qab _ (hH2 ▸ 5e5));have st₁:tn 0 h₁:=T.keep _ _ _ st fun b _ o e=>old b o e;have fpC:∀{H':Hp} {pl:2e6},(∀p∈pl,∀b∈fp,p.1≠b)->(∀b∈fp,H' b=none)->∀b∈fp,xq 25e5 pl H' b:=fun {H' pl} hpl hn b hb=>by
  have ok:=Zbx K hX I hC hfp hlt;exact ⟨hn b hb,(ok.exf b hb).1,ok.exfs b hb,.inl hb,(ok.exf b hb).2,fun p hp=>hpl p hp b hb⟩
 have Dfp:∀(o:Obj),∀p∈[(s₂.heap.objs.size,o)],∀b∈fp,p.1≠b:=fun o p hp b hb e=>by
  have e1:p=(s₂.heap.objs.size,o):=by simpa using hp
  subst e1;exact absurd (hlt b hb) (by rw [<-e];exact Qbz _)
 have loop:∀Z:Shared,Z={ s₂ with heap:=h₁,toks:=s₂.toks + ([]:List (Str × Value)).length } ->
   codeAny 3e0 X.A (.compLoop 25e2 0 10e1 (.ref s₂.heap.objs.size) (compEnvC scope 15e6 H2.objs.size X.env))
    (RR (.ref s₂.heap.objs.size) H2.objs.size) Z:=by
  rintro Z rfl;have I0:=Zjs K hX hN hk I (tk:=s₂.toks + ([]:List (Str × Value)).length) hC (Qai _) hDC hfp hlt old Y hacc (fun v z=>by cases z);refine Zby (fun n s'=>∃(i:Nat) (v0:5e6) (zs:List V) (O:2e0) (k:Nat) (H':Hp),Inv 25e5 [31e1] (Gp is σ v0) H' s' /\
   Vals zs O/\tn i s'.heap/\(∀b∈fp,H' b=none)/\W i n zs H') ?_ L ⟨0,none,[],[],0,H₂,I0,.nil,st₁,fun b hb=>(hfp b hb).1,w0⟩
  rintro n s3 ⟨i,v0,zs,O,k,H3,I3,rv,st3,fr3,w3⟩;have hD3:=I3.pin _ (Qba _ (13e3));rcases turn i n zs H3 w3 with ⟨stop,hz,q⟩ | ⟨go,hz,step⟩
  ·refine thn (T.done 25e5 rfl rfl rfl hc i _ s3 _ H3 _ I3 (fpC (Dfp _) fr3) st3 stop) fun r s4 ⟨hr,I4⟩=>?_
   subst hr;have hD4:=I4.pin _ (Qba _ (13e3));have I5:=Zjt I I4 (Qai _) hD4.2.1 hfp hz rv hD4.1;obtain ⟨m',hm',_⟩:=I4.loc;refine fin _ _ s4 _ m' I5 ?_ hm' (q _ hD4.2.1);refine I.fpOk hC ?_;rw [Zh (Qel hDC)];exact I4.free
  ·refine thn (T.item 25e5 rfl rfl rfl hc i _ s3 _ H3 _ I3 (fpC (Dfp _) fr3) st3 go) fun r s4 ⟨u,hr,h4⟩=>?_
   subst hr;refine thn h4 fun _ s5 ⟨xv,H5,I5,r5,y5,st5,fr5⟩=>?_;have I5':=I5.pinned (fpC (Dfp _) fr5) (T.obj _ _ st5);have pg:PG 25e5 (.Name x px) (jH 0):=Zax K.nd rfl (.inl (lookup_relabel_local K.own)) (.inr (lookup_relabel_local K.own));refine thn (pg _ s5 _ H5 xv u (fun σ2 H2=>σ2=Gp is σ (some xv)/\H2=H5) I5' r5 6e5) fun _ s6 ⟨σ6,H6,I6,e6,e6'⟩=>?_;subst e6;subst e6';have back:∀{s7:Shared} {H7:Hp},Inv 25e5 ([31e1]++yI fp s5.heap) (Gp is σ (some xv)) H7 s7 ->
     tn (i + 1) s7.heap/\(∀b∈fp,H7 b=none)/\s7.heap.get? s₂.heap.objs.size=some { cls:=5e2,data:=.seq O.toArray k }/\H7 s₂.heap.objs.size=none:=fun {s7 H7} I7=>by
    refine ⟨T.keep _ _ _ st5 fun b hb o e=>(I7.pin (b,o) (Qba _ (Qba _ (JA hb e)))).1,10e8,?_,?_⟩
    ·obtain ⟨o,e,d⟩:=T.obj _ _ st5 b hb
     exact (I7.pin (b,o) (Qba _ (Qba _ (JA hb e)))).2.1
    ·exact (I7.pin 31e1 (Qba _ (Qcd _ (13e3)))).1
    ·exact (I7.pin 31e1 (Qba _ (Qcd _ (13e3)))).2.1
   refine thn ((hf _ _ _ _).out _ s6 _ H6 _ I6 (step xv H6 y5)) fun b s7 ⟨H7,I7,q7⟩=>?_;cases b with
   | false =>
    have q7':∃m',m' < n/\W (i + 1) m' zs H7:=by simpa using q7
    obtain ⟨m',hm',w7⟩:=q7';obtain ⟨b1,b2,b3,b4⟩:=back I7;rw [Qau Qa8];exact ⟨m',hm',i + 1,some xv,zs,O,k,H7,I7.unpinned,rv,b1,b2,w7⟩
   | true =>
    rw [Qaw rfl];have q7':=q7;rw [Qaw rfl] at q7';refine thn ((he _ _ _ _).out _ s7 _ H7 _ I7 q7') fun yv s8 ⟨y,H8,I8,r8,m',hm',w8⟩=>?_;obtain ⟨b1,b2,b3,b4⟩:=back I8;refine append_at b3 (fun h9 sb9 e9=>?_) (by rw [Qa5,<-rv.length];exact hz);have ok:=Zbx K hX I hC hfp hlt;have I8':Inv (cxC X (x::ys) scope H2.objs.size s₂ H₂ fp) [] (Gp is σ (some xv)) H8 s8:=I8.pins_of fun p hp=>by cases hp
    have I9:Inv (cxC X (x::ys) scope H2.objs.size s₂ H₂ fp) [] (Gp is σ (some xv)) H8 { s8 with heap:=h9 }:=I8'.turned (t':=s8.toks) (it:=s₂.heap.objs.size) (fun b o hb e=>(sb9.2 b hb).trans e) b4 hDC (.inr (Qai _))
     (fun y c h z=>by
      obtain ⟨v,o,ho,_⟩:=I.cell y c (K.cl hX I.ok y c h);have:=Qas ho;rw [z] at this;exact Qbz _ this) (fun p hp=>by cases hp)
    refine ⟨m',hm',i + 1,some xv,zs++[y],O++[yv],k + 1,H8,?_,rv.append (.cons r8 .nil),T.keep _ _ _ b1 fun b hb o e=>(sb9.2 b fun z=>absurd (hlt b hb) (by rw [z];exact Qbz _)).trans e,b2,w8⟩;refine I9.pins_of fun p hp=>?_;have e1:p=(s₂.heap.objs.size,{ cls:=.type "list",data:=.seq (O++[yv]).toArray (k + 1) }):=by simpa using hp
    subst e1;refine ⟨by rw [e9,List.push_toArray],b4,hDC,fun z=>?_,fun v z=>by cases z⟩;obtain ⟨_,o,ho,_⟩:=ok.funs.mem z;exact absurd (Qas ho) (Qbz _)
 exact codeAny_compStart_list (loop _ rfl) (T.self _ 0 _ _ _ st₁ (loop _ rfl))
end
section
variable {X:Cx}{S scope:Scope}{N:1e3}{x:Str}{ys:1e3}{is:1e1}{elt iter:Expr}{px pos:Pos}{ifs:5e4}{wi:TI}{tc:TT}{te:TE}
theorem YE(K:24e3)(hi:QI X (.Name x px) iter wi)(hf:∀C s₂ H₂ ex,QF 26e1 ifs tc)(he:∀C s₂ H₂ ex,QE 26e1 elt te)
  (hc:9e9:=by rfl) (hX:X.env.scope=S:=by rfl) (hN:X.N=N:=by rfl) (hk:S.kind=.function:=by rfl) (hs:∀v,foldedSetIterable iter X.env v=pure v:=by intro _;rfl) :
  QE X 25e2 (Zmd wi is tc te):=by
 refine ⟨fun pins s σ H Q I h=>?_⟩;rw [eval_ListComp];refine wpAny_comprehension_free (use:=none) rfl hs (JB (K.cellOf' hX I.ok)) K.kind K.names (thn (hi.out pins s σ H _ I h) fun v s1 h1=>thn h1 fun itv s2 h2=>?_);obtain ⟨it,fp,tn,J,H2,rfl,I2,T,Z,f2,W,⟨m0,w0⟩,G⟩:=h2;refine jk (RR:=fun acc C=>compPost 3e0 X.A X.xe none 17e5 acc C) K hX hN hk hc hf he I2 T Z f2 w0 G ?_;intro D C s' H' m' I' fC Y q;obtain ⟨f0,f1,f3,f4,f5,f6⟩:=fC;exact ⟨m',Y,fun h' O=>⟨.ref D,H',I'.turned (t':=s'.toks) (fun b o hb e=>(O.2 b hb).trans e) f0 f1 f4 f5 f6,rfl,q⟩⟩
theorem ky{y:Str}{G spos:Pos}(hNd:X.N.Nodup)(hy:X.N[i]?=some y)(hl:X.env.scope.names.lookup y=11e5)(K:24e3)(hi:QI X (.Name x px) iter wi)
  (hf:∀C s₂ H₂ ex,QF 26e1 ifs tc) (he:∀C s₂ H₂ ex,QE 26e1 elt te)
  (hsw:swapsWith 25e2 (some (.Name y G)) spos.line X.env=pure true:=by rfl)
  (hc:9e9:=by rfl) (hX:X.env.scope=S:=by rfl) (hN:X.N=N:=by rfl) (hk:S.kind=.function:=by rfl) (hs:∀v,foldedSetIterable iter X.env v=pure v:=by intro _;rfl) :
  QS X (.Assign [.Name y G] 25e2 spos) (Zl2 (Zmd wi is tc te) (jH i)):=by
 refine ⟨fun pins s σ H D I h=>?_⟩;rw [exec_Assign_Name_used _ _ _ _ hsw];refine Qaa (wpAny_standAt (Qaa ?_));show wpAny _ X.A (do let _ <-comprehension 25e2 scope X.env _ (newList []) false (eval iter X.env) (some (assign (.Name y G) X.env))) _ _ s;refine Qaa (thn (wpAny_comprehension_free (use:=some (assign (.Name y G) X.env)) (Q:=fun _ s'=>SP X pins D .next s') rfl hs (JB (K.cellOf' hX I.ok)) K.kind K.names
  (thn (hi.out pins s σ H _ I h) fun v s1 h1=>thn h1 fun itv s2 h2=>?_)) fun _ s' hq=>Qad (Qad hq))
 obtain ⟨it,fp,tn,J,H2,rfl,I2,T,st2,f2,W,⟨m0,w0⟩,O⟩:=h2;refine jk (RR:=fun acc C=>compPost 3e0 X.A X.xe (some (assign (.Name y G) X.env)) (fun _ s'=>SP X pins D .next s') acc C) (Q:=fun v H=>D.nx (σ.set i (some v)) H) K hX hN hk hc hf he I2 T st2 f2 w0 O ?_;intro Dl C s' H' m' I' fC hm' q;obtain ⟨f0,f1,f3,f4,f5,f6⟩:=fC;show wpAny _ X.A (assign (.Name y G) X.env (.ref Dl)) _ _ _;obtain ⟨oC,es,ep,hoC,Z,hrC⟩:=hm';have Ip:Inv X (pins++[(C,oC)]) σ H' s':=I'.pins_of fun p hp=>(Qaz.mp hp).elim (fun z=>I'.pin p (Qba _ z)) fun z=>by
  have e:p=(C,oC):=by simpa using z
  subst e;exact ⟨hoC,f0,f1,f3,fun v z=>by rw [Z] at z;cases z⟩
 refine wpAny_assign_Name (Wu Ip hNd hy (.inl hl) (v:=.ref Dl) rfl (fun s'' Y=>?_) (.inr hl));have hC2:=(Y.pin (C,oC) (Qba _ (Qba _ (13e3)))).1;refine ⟨m',⟨oC,es,ep,hC2,Z,hrC⟩,fun h' hs'=>⟨_,H',Y.unpinned.turned (t':=s''.toks) (fun b o hb e=>(hs'.2 b hb).trans e) f0 f1 f4 f5 f6,q⟩⟩
end
theorem qw{lo:Int}{is:1e1}{Q:VK}(D:Nat->12e2)(J:D 0 [] H)(hl:∀i zs H,D i zs H->20e4)
  (hs:∀i zs H (R:12e2),(∀zs H,D (i + 1) zs H->R zs H)->i < n->D i zs H->E (Gp is f (some (.int (lo + i)))) H fun b H2=>if b=true then d (Gp is f (some (.int (lo + i)))) H2 fun y I=>R (zs++[y]) I else R zs H2)
  (hd:∀zs H,D n zs H->22e7) :
  GH is E d f Q (Itr lo n) H:=by
 refine ⟨fun i m zs H=>m=n - i/\i<=n/\D i zs H,⟨n,by simp,Qbe _,J⟩,?_⟩;rintro i m zs H ⟨rfl,hi,p⟩
 by_cases C:i < n
 ·refine .inr ⟨C,hl i zs H p,fun x H' y=>?_⟩
  obtain ⟨e,y⟩:=y;subst e y;exact hs i zs _ (fun zs H=>∃G,G < n - i/\G=n - (i + 1)/\i + 1<=n/\D (i + 1) zs H) (fun zs H q=>⟨n - (i + 1),by lia,rfl,C,q⟩) C p
 ·have e:i=n:=by lia
  subst e;exact .inl ⟨Qai _,hl _ _ _ p,hd zs H p⟩
theorem GI{xs:List V}{is:1e1}{Q:VK}(C:Nat->12e2)(O:C 0 [] H)(hl:∀i zs H,C i zs H->20e4)(G:∀i zs H,C i zs H->10e5)
  (hs:36e3)
  (hd:∀zs H,C xs.length zs H->22e7) :
  GH is E d f Q (Itt K a) H:=by
 refine ⟨fun i m zs H=>m=xs.length - i/\i<=xs.length/\C i zs H,⟨xs.length,by simp,Qbe _,O⟩,?_⟩;rintro i m zs H ⟨rfl,hi,p⟩
 by_cases D:i < xs.length
 ·refine .inr ⟨⟨xs,xs[i],G i zs H p,Qag D⟩,hl i zs H p,fun x H' y=>?_⟩
  obtain ⟨e,y⟩:=y;subst e;exact 36e5
 ·have e:i=xs.length:=by lia
  exact .inl ⟨⟨xs,G i zs H p,by lia⟩,hl _ _ _ p,by rw [e] at p;exact hd zs H p⟩
end L2
namespace HT
open PySem PySem.Spec PyProof.Rows
section
variable {prog:Program}{w:World}{A:Around}{E:1e9}{s:Shared}
end
end HT
namespace L2
open PySem PySem.Spec PyProof.Rows
section
variable {X:Cx}{e st:Expr}{te ts:TE}{pos p2:Pos}
end
end L2
namespace RvT
open PySem PySem.Spec PyProof.Rows
theorem yY:Manifest.owners.lookup (String.ofList ['d','e','s','r','e','v','e','r'].reverse)=some Manifest.sig_reversed:=by kernel_rfl
theorem slot_next:Slot "reversed" "__next__" "reversed.__next__" :=
 .of (owner := "reversed") (n := "__next__") (21e4) (1e0) (1e0) (1e0)
  28e1 (20e0)
theorem entry_next:entryFor table "reversed.__next__" = some Builtin.«reversed.__next__»:=entryFor_of_tree 16e2
theorem args_next (a:Value):argsOk "reversed.__next__" ⟨[a],[]⟩:=by
 unfold argsOk;rw [signature?_of (id := "reversed.__next__") (n:=['_','_','t','x','e','n','_','_']) (o:=['d','e','s','r','e','v','e','r']) 16e2 yY];kernel_rfl
theorem yZ:Slot "reversed" "__iter__" "reversed.__iter__" :=
 .of (owner := "reversed") (n := "__iter__") (21e4) (1e0) (1e0) (1e0)
  28e1 (20e0)
theorem Zbz (a:Value):argsOk "reversed.__iter__" ⟨[a],[]⟩:=by
 unfold argsOk;rw [signature?_of (id := "reversed.__iter__") (n:=['_','_','r','e','t','i','_','_']) (o:=['d','e','s','r','e','v','e','r']) 16e2 yY];kernel_rfl
theorem uG:entryFor table "reversed.__iter__" = some Builtin.«dict_keyiterator.__iter__» :=
 entryFor_alias (id' := "dict_keyiterator.__iter__") 16e2 (by first | rfl | show 11 | (unfold String.splitOn;simp +decide [String.splitOnAux])) (1e0) 16e2
theorem Zb0:Slot "reversed" "__init__" "object.__init__" :=
 .of (owner := "object") (n := "__init__") (21e4) (1e0) (1e0) (1e0)
  28e1 (20e0)
theorem called:TypeCalled "reversed" "reversed.__new__" "object.__init__" :=
 ⟨1e0,F.create_reversed,⟨_,_,F.mro_reversed⟩,F.made_reversed,F.plain_reversed_new,F.sub_reversed_self,Zb0⟩
theorem kz:typeLookup (4e8) "__reversed__" = pure none:=21e4
theorem sub_tuple_dict:isSubtype (4e8) (15e3)=pure false:=20e0
def revObj (t:Addr) (i:Int):Obj:={ cls:=.type "reversed",data:=.fields #[.ref t,rawInt i] }
def IsRev (h:Heap) (a t:Addr) (i:Int):Prop:=∃o,14e8/\o.cls=.type "reversed" /\ o.data=.fields #[.ref t,rawInt i]
theorem IsRev.typeIs  {t:Addr} {i:Int} (x:IsRev s.heap a t i):s.TypeIs 3e1 "reversed" := let ⟨o,ho,hc,_⟩:=x;⟨o,ho,hc⟩
theorem IsRev.at{h':Heap}{t:Addr}{i:Int}(x:IsRev h a t i)(e:∀o,14e8->h'.get? a=some o):IsRev h' a t i:=let ⟨o,ho,r⟩:=x;⟨o,e _ ho,r⟩
section
variable {prog:Program}{w:World}{A:Around}{E:1e9}{s:Shared}
theorem Jj(t:Addr)(items:4e5)(hz:items.size < 2 ^ 63) :
  Meets (Builtin.«reversed.__new__» ⟨[.type "reversed",.ref t],[]⟩) (fun _ R s=>IsTup s.heap t items/\∀tk,R (.ok (.ret (4e9))) { s with heap:=s.heap.push (revObj t ((items.size:Int) - 1)),toks:=tk }) :=
 .of_wp fun prog w A R s h=>by
  obtain ⟨q,h⟩:=h;unfold Builtin.«reversed.__new__»;refine Qaa (Qcy (newClass_reversed _) ?_)
  show 10
  refine Qaa (Qcy (a:=()) (by first | rfl | kernel_rfl) ?_);refine Qaa (Qcy (a:=()) (by first | rfl | kernel_rfl) ?_)
  show 10
  refine Qaa (Qdz q.typeIs kz ?_)
  show 10
  refine Qaa ?_;show wpAny _ _ (isInstance (Value.ref t) (15e3) >>= _) _ _ _;refine Qaa (Qdp (T := "tuple") (b:=false) q.typeIs sub_tuple_dict ?_);simp only [Qbb,Qe2];refine Qaa (Qdz q.typeIs Qbx.lookup ?_)
  show 10
  rw [Qaw (1e0)];refine Qad ?_;simp only [Qhn,Qbb,Qe2];refine Qaa (len_tuple q 1e2 ?_);refine Qaa (Qcy (a:=some (items.size:Int)) rfl ?_)
  show 10
  refine Qaa (m:=newObj (.type "reversed") (.fields #[.ref t,rawInt ((items.size:Int) - 1)])) (Qbg ?_);exact Qad ⟨_,rfl,h _⟩
theorem call_rev{t:Addr}{items:4e5}(C:IsTup s.heap t items)(hz:items.size < 2 ^ 63)(h:∀tk,Q (4e9) { s with heap:=s.heap.push (revObj t ((items.size:Int) - 1)),toks:=tk }) :
  wpAny 2e3 A (call (.type "reversed") [.ref t]) Q E s :=
 Qhz called 1e4 (F.typeCall_reversed_1 _) (F.newCall_reversed_1 _) (fun q=>Qgg q _) F.entry_reversed_new (Jj t items hz)
  ⟨C,fun tk=>⟨⟨_,5e5,rfl⟩,h tk⟩⟩
theorem next_item{it t:Addr}{items:4e5}{x:Value}{Q:7e9->3e3}(q:IsRev s.heap it t (i:Int))(C:IsTup s.heap t items)(hi:(i:Int) < 2 ^ 63)(hx:items[i]?=some x)(G:t≠it)
  (D:∀h' tk,IsRev h' it t ((i:Int) - 1)->Heap.SameBut it s.heap h'->Q (some x) 7e3):wpAny 2e3 A (pyNext 10e1) Q E s:=by
 show 23;unfold pyNext;refine Qaa (Qdv (wpAny_callSpecial?_slot (name:=15e8) q.typeIs slot_next
  (Qbh slot_next q.typeIs entry_next ?_ (args_next _))))
 unfold Builtin.«reversed.__next__»;refine Qaa (Qcy (a:=(Value.ref it,[])) rfl ?_)
 show 10
 refine Qaa (Qb2 ho hd (x:=.ref t) rfl ?_);refine Qaa (Qb2 ho hd (x:=rawInt (i:Int)) rfl ?_);show wpAny _ _ (if (i:Int) < 0 then _ else _) _ _ s;rw [Qau 1e2];refine Qaa (Qdz C.typeIs Qbx.lookup ?_);simp only [Option.isNone_some,Qbb,Qe2];refine Qaa (Qho ?_);have hsz:=(Array.getElem?_eq_some_iff.mp hx).1;refine Qaa (Qdv (getItem_tuple (s:=19e7) (j:=i) C 1e2 hi (by rw [seqIndex_of 1e2 1e2,Qat]) hx ?_));show wpAny _ _ (field 10e1 1 >>= _) _ _ _;refine Qaa (Qb2 (s:=19e7) ho hd (x:=rawInt (i:Int)) rfl ?_);show wpAny _ _ (setField 10e1 1 (rawInt ((i:Int) - 1)) >>= _) _ _ _;refine Qaa (Qdi (s:=19e7) ho hd 2e5 ?_);refine Qad ⟨x,rfl,Qad (D _ _ ?_ (Qci ..))⟩;exact ⟨_,Qbk _ ho (Qcz (Qbr hd _)),(Qfc ..).trans hc,by
  rw [Qbr hd];simp⟩
theorem next_end{it t:Addr}{Q:7e9->3e3}(hh:9e3)(q:IsRev s.heap it t (-1))
  (D:∀h',(∀b o,b≠it->11e6)->Q none 7e0):wpAny 2e3 A (pyNext 10e1) Q E s:=by
 show 23;unfold pyNext;refine Qaa (Qdv (wpAny_callSpecial?_slot (name:=15e8) q.typeIs slot_next
  (Qbh slot_next q.typeIs entry_next ?_ (args_next _))))
 unfold Builtin.«reversed.__next__»;refine Qaa (Qcy (a:=(Value.ref it,[])) rfl ?_)
 show 10
 refine Qaa (Qb2 ho hd (x:=.ref t) rfl ?_);refine Qaa (Qb2 ho hd (x:=rawInt (-1)) rfl ?_);show wpAny _ _ (if (-1:Int) < 0 then _ else _) _ _ s;rw [Qaw 1e4];refine Qaa (Qde ?_);refine Qaa ?_;show wpAny _ _ (setField 10e1 1 (rawInt (-1)) >>= _) _ _ _;refine 27e2;have C:=Qbk (Obj.mapFields (·.setIfInBounds 1 (rawInt (-1)))) ho (Qcz (Qbr hd _));refine Qdi C (Qbr hd _) 2e5 ?_
 first
 | show 27e8
 | (refine Qaa ?_;show 27e8)
 refine Qaa ?_;simp only [newExc,newTuple];refine Qaa (21e8);refine 30e7;refine 21e8;simp only [raiseNew];refine Qaa (Qhp ?_)
 first | rw [show A.in1.handled=none from hh] | rw [hh]
 refine Qaa (Qad (Qh7 ?_));refine 34e3;refine Qad (D _ fun b ob hb e=>?_);exact Qab _ (Qab _ ((Qbw _ _ (Qel hb)).trans ((Qbw _ _ (Qel hb)).trans e)))
theorem iter_self{it t:Addr}{i:Int}(q:IsRev s.heap it t i)(h:Q 10e1 s):wpAny 2e3 A (pyIter 10e1) Q E s:=by
 refine Qf5 q.typeIs yZ (Qbh yZ q.typeIs uG ?_ (Zbz _));show wpAny _ _ (ret 10e1) _ _ s;exact Qad ⟨_,rfl,"reversed",_,q.typeIs,slot_next.lookup,h⟩
end
end RvT
namespace L2
open PySem PySem.Spec PyProof.Rows
def Itv(K:PySem.W.Frag)(a:Addr)(n:Nat):It :=
 ⟨fun i H=>∃xs x,10e5/\xs.length=n/\xs.reverse[i]?=some x,fun i H x H'=>H'=H/\∀xs,10e5->xs.reverse[i]?=some x,fun i _=>i=n⟩
theorem Zfn{w:World}{tg:Expr}(a it:Addr)(n:Nat)(Y:a≠it):Turn P w K tg (Itv K a n) [it] it (fun i h=>RvT.IsRev h it a (12e0 - (i:Int))) where
 mem:=by simp
 obj:=fun i h st b hb=>by
  have e:b=it:=6e6
  subst e;obtain ⟨o,e,c,d⟩:=st;exact 28e5
 keep:=31e7
 item:=by
  intro X hP hw O hc i pins s σ H E I hf st hg;subst hP hw O;obtain ⟨xs,x,hq,hn,hx⟩:=hg;obtain ⟨its,rv,p,hz⟩:=I.tuple hq;have hi:i < xs.length:=by
   have:=(Qaf.mp hx).1;rw [Qdu] at this;exact this
  have Z:xs[xs.length - 1 - i]?=some x:=by rw [<-List.getElem?_reverse hi];exact hx
  obtain ⟨u,hu,ru⟩:=rv.get Z;obtain ⟨f0,f1,f2,G,C,J⟩:=hf it 2e5;have D:12e0 - (i:Int)=((xs.length - 1 - i:Nat):Int):=by lia
  have hl:=xP;rw [D] at st;refine RvT.next_item (items:=its.toArray) (x:=u) st p 1e2 (by simpa using hu) Y fun h' tk q sb=>?_;have I1:24e2:=I.turned (fun b o hb e=>(sb.2 b hb).trans e) f0 f1 G C J;have e1:((xs.length - 1 - i:Nat):Int) - 1=12e0 - ((i + 1:Nat):Int):=by lia
  rw [e1] at q;obtain ⟨o,e,c,d⟩:=id q;exact ⟨u,rfl,yH (s:=7e3) e c d 1e4 ⟨x,H,I1,ru,⟨rfl,fun ys hy=>by rw [I.tuple_inj hy hq];exact hx⟩,q,21e9⟩⟩
 done:=by
  intro X hP hw O hc i pins s σ H E I hf st hg;subst hP hw O;obtain ⟨f0,f1,f2,G,C,J⟩:=hf it 2e5;have hg':i=n:=hg;have D:12e0 - (i:Int)=-1:=by lia
  rw [D] at st;exact RvT.next_end 8e5 st fun h' eb=>⟨rfl,I.turned (t':=s.toks) 30e3 f0 f1 G C J⟩
 self:=fun _ _ _ _ _ st h=>RvT.iter_self st h
inductive Zhz(K:PySem.W.Frag)(R:It->1e8)(x:V)(H1:Hp):Prop
 | mk (a xs:_):(x=.ref a)->(SqT K H1 a xs)->(R (Itv K a xs.length) H1)->Zhz K R x H1
def iRev(K:PySem.W.Frag)(te:TE):TI:=fun σ H R=>te σ H fun x H1=>Zhz K R x H1
theorem Zb1 {X:Cx} {tg:Expr}   (hg:Gl X "reversed") (hm:X.mg "reversed" = none) (he:QE X e d) (hp:ZZ e=true:=by rfl):QI X tg (.Call (.Name "reversed" p) [e] [] A) (iRev X.K d):=by
 show 25;have hs:starEach [e] X.env=[22e0]:=by rw [Zr hp];rfl
 refine Call_ (JN I hg hm kq (Qcl ?_ hs rfl));rw [hs];show wpAny _ _ (spliced (22e0::[])) _ _ s;refine Qcv (thn (he.out pins s σ H _ I h) fun u C ⟨x,H1,J,Z,O⟩=>?_);refine Qd7 ?_;obtain ⟨a,xs,rfl,Y,q⟩:=O;cases Z;obtain ⟨D,rv,pt,hz⟩:=J.tuple Y;have hl:=xP;have G:=rv.length;refine RvT.call_rev pt (by rw [Qa5];lia) fun tk=>?_;have I2:Inv X pins σ H1 { C with heap:=C.heap.push (RvT.revObj a ((D.toArray.size:Int) - 1)),toks:=tk }:=J.kept 16e1;have e0:(xs.length:Int) - 1 - ((0:Nat):Int)=(D.toArray.size:Int) - 1:=by rw [Qa5,<-G];lia
 have st:RvT.IsRev (C.heap.push (RvT.revObj a ((D.toArray.size:Int) - 1))) C.heap.objs.size a ((xs.length:Int) - 1 - ((0:Nat):Int)):=by
  rw [e0];exact 20e2
 refine RvT.iter_self st ⟨C.heap.objs.size,[C.heap.objs.size],_,_,H1,rfl,I2,Zfn a _ xs.length (Qbf pt.lt),st,10e8,q⟩;show 26
 subst e;exact J.fpOk (Qai _) (J.hok.fresh (Qai _)) |> fun f=>f
theorem Zb2{xs:List V}{g:TG}(q:Nat->4e2)(O:q 0 f H)(hl:∀i f H,i<=xs.length->q i f H->10e5)
  (hs:∀i x f H,xs.reverse[i]?=some x->q i f H->g x f H fun D H2=>r { U with nx:=q (i + 1),ct:=q (i + 1),bk:=U.nx } D H2) (hd:∀f H,q xs.length f H->U.nx f H) :
  ∃W:Nat->Nat->4e2,(∃m,W 0 m f H)/\∀i m f H,W i m f H ->
   ((Itv K a xs.length).stop i H/\U.nx f H)\/((Itv K a xs.length).go i H/\∃N:4e2,(∀C H',N C H'->∃J,J < m/\W (i + 1) J C H')/\∀x H',(Itv K a xs.length).yld i H x H'->g x f H' fun D H2=>r 29e7 D H2):=by
 refine ⟨fun i m f H=>m=xs.length - i/\i<=xs.length/\q i f H,⟨xs.length,by simp,Qbe _,O⟩,?_⟩;rintro i m f H ⟨rfl,hi,p⟩
 by_cases I:i < xs.length
 ·have G:i < xs.reverse.length:=by rw [Qdu];exact I
  refine .inr ⟨⟨xs,xs.reverse[i],hl i f H hi p,rfl,Qag G⟩,q (i + 1),fun C H' Y=>⟨xs.length - (i + 1),by lia,rfl,I,Y⟩,fun x H' y=>?_⟩;obtain ⟨e,y⟩:=y;subst e;exact hs i x f _ (y xs (hl i f _ hi p)) p
 ·have e:i=xs.length:=by lia
  exact .inl ⟨e,by rw [e] at p;exact hd f H p⟩
end L2
namespace HT
open PySem PySem.Spec PyProof.Rows
section
variable {prog:Program}{w:World}{A:Around}{E:1e9}{s:Shared}
theorem getItem_tuple_whole{t:Addr}{items:4e5}{vu:Value}{lo hi:4e7}(C:IsTup s.heap t items)(hs:s.heap.IsSliceOf a c vu .none)(pl:IsPart c lo)(J:IsPart vu hi)
  (hw:22e2=0/\26e9=items.size) (h:Q (.ref t) s):wpAny 2e3 A (getItem (.ref t) 3e1) Q E s:=by
 obtain ⟨os,G,I,O⟩:=id hs;have D:s.TypeIs 3e1 "slice" := ⟨os,G,I⟩;unfold getItem
 try with_reducible refine Qc2 ?_
 first | refine Qaa 7e2 | skip
 refine Qaa (wpAny_sequenceKey C.typeIs 1e4 ?_);refine Qaa (wpAny_callSpecial?_slot (name:=Str.ofString "__getitem__") C.typeIs Qbx
  (Qbh Qbx C.typeIs entry_tuple_getitem ?_ (args_tuple_getitem _ _)))
 show wpAny _ _ (Builtin.Tuple.tupleItemsOf (.ref t) >>= _) _ _ s;refine Qaa (tupleItemsOf_ C ?_);refine Qaa (Qe3 D ?_);rw [Qaw 1e4];refine Qaa (WR hs pl J ?_);have q:30e5:=by
  rw [hw.1,hw.2];simp
 show wpAny _ _ (if 30e5 then _ else _) _ _ s;rw [Qaw q];refine Qaa (m:=Builtin.Tuple.tupleIsExact (.ref t)) (Qaa (Qe3 C.typeIs 7e2));rw [Qaw 1e4]
 first
  | exact Qaa (Qde (Qaa (Qad 24e0)))
  | exact Qaa (Qde 24e0)
  | exact Qaa (Qde (Qaa 24e0))
end
end HT
namespace L2
open PySem PySem.Spec PyProof.Rows
section
variable {X:Cx}
inductive Zh0(K:PySem.W.Frag)(x:V)(lo:4e7)(hi:4e7)(H:Hp)(Q:VK):Prop
 | mk (a xs:_):(x=.ref a)->(10e5)->((17e1=0/\23e5=xs.length))->(Q 3e1 H)->Zh0 K x lo hi H Q
def rSlW(K:PySem.W.Frag):21e2:=fun x lo hi H Q=>Zh0 K x lo hi H Q
theorem k4:SlR X (rSlW X.K):=by
 intro pins s σ H x v Z vu lo hi Y Q I O hs pl J h;obtain ⟨a,xs,rfl,hx,hw,q⟩:=h;cases O;obtain ⟨D,r,G,hz⟩:=I.tuple hx;have C:D.toArray.size=xs.length:=by rw [Qa5];exact r.length.symm
 refine ⟨"tuple",_,Qbx.lookup,G.typeIs,?_⟩;exact HT.getItem_tuple_whole G hs pl J (by rw [C];exact hw) ⟨.ref a,H,I,rfl,q⟩
theorem Zh1:SlR X (fun x lo hi H Q=>∃z,x=.str z/\z.length<=sizeLine/\Q (.str (Txt.slice z lo hi)) H):=by
 intro pins s σ H x v Y vu lo hi O Q I J hs pl G h;obtain ⟨z,rfl,hz,q⟩:=h;obtain ⟨t,rfl⟩:=J;refine ⟨"str",_,F.slot_str_getitem.lookup,typeIs_str _ _ _,?_⟩;have fin:∀t' k,EP X pins σ Q (.str (Txt.slice z lo hi) t') { s with toks:=k }:=fun t' k=>⟨.str _,H,I.tok _,8e1,q⟩;cases pl with
 | none =>
  cases G with
  | none=>exact Qeu (l:=none) (u:=none) (st:=none) hs rfl (Qgx ⟨Qbd (Qgb z _ _) hz,fin⟩)
  | int j C=>exact Qeu (l:=none) (u:=some (j,C)) (st:=none) hs rfl (Qgx ⟨Qbd (Qgb z _ _) hz,fin⟩)
 | int i D =>
  cases G with
  | none=>exact Qeu (l:=some (i,D)) (u:=none) (st:=none) hs rfl (Qgx ⟨Qbd (Qgb z _ _) hz,fin⟩)
  | int j C=>exact Qeu (l:=some (i,D)) (u:=some (j,C)) (st:=none) hs rfl (Qgx ⟨Qbd (Qgb z _ _) hz,fin⟩)
theorem qx{ys:1e3}:∀{q:2e0},Vals (12e9) q->StrsAre q ys:=by
 induction ys with
 | nil=>intro q r;rw [Qfo] at r;cases r;exact .nil
 | cons n I C =>
  intro q r;rw [Qa4] at r;cases r with
  | cons G D =>
   obtain ⟨t,e⟩:=G;subst e;exact .cons n t (C D)
theorem Zju:MtR X "str.join" (fun x vs H Q=>∃(z:Str) (p:Addr) (ys:1e3),x=.str z/\vs=[.ref p]/\SqL X.K H p (12e9)/\(ys.map (·.length)).sum + ys.length * z.length<=16777216/\Q (.str (Txt.join z ys)) H):=by
 intro pins s σ H x vs v us Q I O G h;obtain ⟨z,p,ys,rfl,rfl,Y,C,q⟩:=h;obtain ⟨t,rfl⟩:=O;obtain ⟨u,rfl,Z⟩:=vals1 G;cases Z;obtain ⟨J,D,pl,hz⟩:=I.list Y;exact join_list pl.isList (qx D) C fun t' k=>⟨.str _,H,I.tok _,8e1,q⟩
end
theorem xR{xs:List V}{is:1e1}{Q:VK}(C:Nat->12e2)(O:C 0 [] H)(hl:∀i zs H,C i zs H->20e4)(G:∀i zs H,C i zs H->15e4)
  (hs:36e3)
  (hd:∀zs H,C xs.length zs H->22e7) :
  GH is E d f Q (Itl K a) H:=by
 refine ⟨fun i m zs H=>m=xs.length - i/\i<=xs.length/\C i zs H,⟨xs.length,by simp,Qbe _,O⟩,?_⟩;rintro i m zs H ⟨rfl,hi,p⟩
 by_cases D:i < xs.length
 ·refine .inr ⟨⟨xs,xs[i],G i zs H p,Qag D⟩,hl i zs H p,fun x H' y=>?_⟩
  obtain ⟨e,y⟩:=y;subst e;exact 36e5
 ·have e:i=xs.length:=by lia
  exact .inl ⟨⟨xs,G i zs H p,by lia⟩,hl _ _ _ p,by rw [e] at p;exact hd zs H p⟩
def Its(x:Str):It:=⟨fun i _=>i < x.cps.size,fun i H v H'=>H'=H/\∃c,x.cps[i]?=some c/\v=.str ⟨#[c]⟩,fun i _=>i=x.cps.size⟩
theorem Zfo  {w:World}  {tg:Expr} (it:Addr) (x:Str) (t:Tok) (T:String) (hT:T = "str_ascii_iterator" \/ T = "str_iterator"):Turn P w K tg (Its x) [it] it (fun i h=>h.IsStrIter it T x t i) where
 mem:=by simp
 obj:=fun i h st b hb=>by
  have e:b=it:=6e6
  subst e;obtain ⟨o,e,c,d⟩:=st;exact 28e5
 keep:=fun i h h' st k=>let ⟨o,ho,r⟩:=st;⟨o,k it 2e5 o ho,r⟩
 item:=by
  show 21;subst hP hw hK;obtain ⟨f0,O,f2,G,D,J⟩:=hf it 2e5;rcases hT with rfl | rfl
  ·refine (Walks.strAscii (prog:=X.prog) (w:=X.w) 8e5 it x t).item i s _ _ hg st fun v h' tk hv q kk=>?_
   obtain ⟨c,u,C,rfl⟩:=hv;have I1:24e2:=I.turned 21e0 f0 O G D J;obtain ⟨o,e,Y,d⟩:=id q;exact ⟨_,rfl,yH (s:=7e3) e Y d 1e4 ⟨.str ⟨#[c]⟩,H,I1,8e1,⟨rfl,c,C,rfl⟩,q,21e9⟩⟩
  ·refine (Walks.strWide (prog:=X.prog) (w:=X.w) 8e5 it x t).item i s _ _ hg st fun v h' tk hv q kk=>?_
   obtain ⟨c,u,C,rfl⟩:=hv;have I1:24e2:=I.turned 21e0 f0 O G D J;obtain ⟨o,e,Y,d⟩:=id q;exact ⟨_,rfl,yH (s:=7e3) e Y d 1e4 ⟨.str ⟨#[c]⟩,H,I1,8e1,⟨rfl,c,C,rfl⟩,q,21e9⟩⟩
 done:=by
  show 21;subst hP hw hK;obtain ⟨f0,O,f2,G,D,J⟩:=hf it 2e5;have Z:i=x.cps.size:=hg;subst Z;rcases hT with rfl | rfl
  ·exact (Walks.strAscii (prog:=X.prog) (w:=X.w) 8e5 it x t).done s _ _ st fun h' tk kk=>⟨rfl,I.turned (t':=tk) 21e0 f0 O G D J⟩
  ·exact (Walks.strWide (prog:=X.prog) (w:=X.w) 8e5 it x t).done s _ _ st fun h' tk kk=>⟨rfl,I.turned (t':=tk) 21e0 f0 O G D J⟩
 self:=fun A i s Q E st h=>by
  rcases hT with rfl | rfl
  ·exact wpAny_pyIter_striter_ascii st h
  ·exact wpAny_pyIter_striter_wide st h
inductive Zh2(R:It->1e8)(v:V)(H1:Hp):Prop
 | mk (x:_):(v=.str x)->(R (Its x) H1)->Zh2 R v H1
def iStr(te:TE):TI:=fun σ H R=>te σ H fun v H1=>Zh2 R v H1
theorem qi_str{X:Cx}{tg l:Expr}(hl:QE X l d):QI X tg l (iStr d):=by
 show 25;refine thn (hl.out pins s σ H _ I h) fun v C ⟨y,H1,D,Y,J⟩=>?_;obtain ⟨x,rfl,q⟩:=J;obtain ⟨t,rfl⟩:=Y;have G:∀(o:Obj) (T:String),(T = "str_ascii_iterator" \/ T = "str_iterator")->(C.heap.push o).IsStrIter C.heap.objs.size T x t 0->PIE X pins σ tg R (20e1) { C with heap:=C.heap.push o }:=fun o T O st =>
  ⟨C.heap.objs.size,[C.heap.objs.size],_,_,H1,rfl,D.kept (t':=C.toks) 16e1,Zfo _ x t T O,st,fun b hb=>by
   show 26
   subst e;exact D.fpOk (Qai _) (D.hok.fresh (Qai _)),q⟩
 cases ha:x.cps.all (· < 128)
 ·exact wpAny_pyIter_wide ha (G _ "str_iterator" (.inr rfl) 20e2)
 ·exact wpAny_pyIter_ascii ha (G _ "str_ascii_iterator" (6e4) 20e2)
section
variable {X:Cx}
theorem Zb3 (hc:9e9):Xy X (.builtin "all") (fun xs H Q=>∃(p:Addr) (bs:List Bool),xs=[.ref p]/\SqL X.K H p (bs.map V.bl)/\Q (.bl (bs.all id)) H):=by
 intro pins s σ H xs us Q I r h;obtain ⟨p,bs,rfl,hq,q⟩:=h;obtain ⟨u,rfl,rx⟩:=vals1 r;cases rx;obtain ⟨D,Y,pl,hz⟩:=I.list hq;have hl:=pl.isList;have O:p < s.heap.objs.size:=by obtain ⟨_,e,_⟩:=hl;exact Qas e
 have C:=Y.length;rw [Qac] at C;refine call_all_walk (Qfb hl ?_);refine ⟨s.heap.objs.size,[s.heap.objs.size,p],[s.heap.objs.size],D.toArray.size,_,_,fun i=>(bs[i]?).getD true,rfl,Walks.list (A:=X.A.in1) 8e5 _ p (Qbf O) D.toArray,
  ⟨20e2,hl.push _⟩,fun i v s' Q' E' hP Z=>?_,fun h' tk hk=>?_⟩
 ·have hi:D[i]?=some v:=by simpa using hP
  have hb:i < bs.length:=by rw [C];exact (Qaf.mp hi).1
  obtain ⟨w',e1,e2⟩:=Y.get (show (bs.map V.bl)[i]?=some (V.bl bs[i]) by rw [Qaj,Qag hb];rfl);rw [hi] at e1;cases e1;cases e2;simp only [Qag hb,Option.getD_some] at Z;exact Qds Z
 ·have e:((List.range D.toArray.size).all fun i=>(bs[i]?).getD true)=bs.all id:=by
   rw [Qa5,<-C,Qdk,Qd4,Qd4]
   constructor
   ·intro z b hb
    obtain ⟨i,hi,rfl⟩:=Qgy hb;have:=z i (Qb5.mpr hi);simpa [Qag hi] using this
   ·intro z i hi
    have G:=Qb5.mp hi;have:=z _ (Qdo G);simpa [Qag G] using this
  rw [e];refine ⟨.bl (bs.all id),H,I.kept (t':=tk) (fun b o J=>hk b o (fun hm=>?_) (Qab _ J)),rfl,q⟩;rw [Qak.mp hm] at J;exact absurd (Qas J) (Qbz _)
theorem Jk:∀{q:2e0} {ys:1e3},StrsAre q ys->Vals (12e9) q
 | _,_,.nil=>.nil
 | _,_,.cons y t h=>.cons ⟨t,rfl⟩ (Jk h)
theorem vc:Xy X (.builtin "sorted") (fun xs H Q=>∃(p:Addr) (D:1e3),xs=[.ref p]/\SqL X.K H p (D.map V.str)/\D.length < 64 /\
  ∀(l:Addr) (ms:1e3),H l=none->ms.Perm D->sortedS ms=true->Q 5e1 (upd H l (.lst (ms.map V.str)))):=by
 intro pins s σ H xs Z Q I r h;obtain ⟨p,D,rfl,O,hn,q⟩:=h;obtain ⟨u,rfl,Y⟩:=vals1 r;cases Y;obtain ⟨G,J,pl,hz⟩:=I.list O;have C:=J.length;rw [Qac] at C;refine sorted_strs pl.isList (qx J) 1e2 fun out ms hi hp hs=>?_;obtain ⟨e,he⟩:=sortedAll_at s.heap G out;refine ⟨.ref (5e9),_,I.laid (t':=s.toks) (o:=.lst (ms.map V.str)) (fun b o e=>sortedAll_old e) (Qd3 _) ?_,rfl,q _ ms (I.hok.fresh (Qd3 _)) hp hs⟩;have hm:ms.length=D.length:=hp.length_eq;exact ⟨by rw [Qac];exact 9e4,out.toList,e,Jk hi,by simpa using he⟩
end
theorem Zb4:bootBuiltins "abs" = some (.builtin "abs"):=1e0
theorem Zjv:bootBuiltins "dict" = some (15e3):=1e0
theorem bt_max:bootBuiltins "max" = some (.builtin "max"):=1e0
theorem bt_min:bootBuiltins "min" = some (.builtin "min"):=1e0
theorem Zfp{t u:TS}(J:4e2)(h1:∀N:4e2,(∀f H,J f H->N f H)->t { U with nx:=N } f H)(h2:∀f H,J f H->u U f H):YG t u U f H:=h1 _ h2
theorem take_snoc{xs:List m}{x:m}(h:10e7):xs.take (i + 1)=xs.take i++[x]:=by
 rw [List.take_succ,h]
 rfl
theorem k9{xs:List V}{is:1e1}{σ:St}{Q:VK}(p:V->Bool)(f:V->V)(hx:15e4)(hz:14e4)
  (hc:∀x∈xs,∀R:Bool->1e8,R (p x) H->E 22e1 H R)
  (he:∀x∈xs,p x=true->∀R:VK,R (f x) H->d 22e1 H R)
  (hd:∀l,H l=none->Q 5e1 (upd H l (.lst ((xs.filter p).map f)))):GH is E d σ Q (Itl K a) H:=by
 refine xR (xs:=xs) (fun i zs H'=>zs=((xs.take i).filter p).map f/\H'=H) 6e5 ?_ ?_ ?_ ?_
 ·rintro i zs H' ⟨rfl,rfl⟩
  rw [Qac];exact Qbd (Qc0 _ _) (by rw [Qa6];lia)
 ·rintro i zs H' ⟨rfl,rfl⟩
  exact hx
 ·rintro i x zs H' R hR q ⟨rfl,rfl⟩
  have hm:=Qam q;have e:=take_snoc q;refine hc x hm _ ?_;cases hp:p x with
  | true =>
   refine (Qaw rfl:(if true=true then _ else _)=_) ▸ he x hm hp _ (hR _ _ ⟨?_,rfl⟩);rw [e,Qd2,Qbc,Qcr,Qaw hp]
   rfl
  | false =>
   refine (Qau Qa8:(if false=true then _ else _)=_) ▸ hR _ _ ⟨?_,rfl⟩;rw [e,Qd2,Qbc,Qcr,Qau (by rw [hp];exact Qa8)];simp
 ·rintro zs H' ⟨rfl,rfl⟩ l hl
  rw [Qbi];exact hd l hl
theorem comp_map{xs:List V}{is:1e1}{σ:St}{Q:VK}(f:V->V)(hx:15e4)(hz:14e4)
  (he:∀x∈xs,∀R:VK,R (f x) H->d 22e1 H R)
  (hd:∀l,H l=none->Q 5e1 (upd H l (.lst (xs.map f)))):GH is Zam d σ Q (Itl K a) H:=by
 refine k9 (fun _=>true) f hx hz (fun x _ R h=>h) (fun x hm _=>he x hm) fun l hl=>?_;rw [List.filter_eq_self.mpr fun _ _=>rfl];exact hd l hl
theorem Zb5{lo:Int}{is:1e1}{σ:St}{Q:VK}(f:Nat->V)(hz:n<=sizeLine)
  (he:∀i,i < n->∀R:VK,R (f i) H->d (Gp is σ (some (.int (lo + i)))) H R)
  (hd:∀l,H l=none->Q 5e1 (upd H l (.lst ((List.range n).map f)))):GH is Zam d σ Q (Itr lo n) H:=by
 refine qw (fun i zs H'=>i<=n/\zs=(List.range i).map f/\H'=H) ⟨Qbe _,rfl,rfl⟩ ?_ ?_ ?_
 ·rintro i zs H' ⟨hi,rfl,rfl⟩
  rw [Qac,Qax];lia
 ·rintro i zs H' R hR hi ⟨_,rfl,rfl⟩
  unfold Zam;dsimp only;rw [Qaw rfl];refine he i hi _ (hR _ _ ⟨hi,?_,rfl⟩);rw [Qec,Qbc]
  rfl
 ·rintro zs H' ⟨_,rfl,rfl⟩ l hl
  exact hd l hl
theorem vd{xs:List V}{is:1e1}{σ:St}{Q:VK}(f:V->V)(hx:10e5)(hz:14e4)
  (he:∀x∈xs,∀R:VK,R (f x) H->d 22e1 H R)
  (hd:∀l,H l=none->Q 5e1 (upd H l (.lst (xs.map f)))):GH is Zam d σ Q (Itt K a) H:=by
 refine GI (xs:=xs) (fun i zs H'=>zs=(xs.take i).map f/\H'=H) 6e5 ?_ ?_ ?_ ?_
 ·rintro i zs H' ⟨rfl,rfl⟩
  rw [Qac,Qa6];lia
 ·rintro i zs H' ⟨rfl,rfl⟩
  exact hx
 ·rintro i x zs H' R hR q ⟨rfl,rfl⟩
  unfold Zam;dsimp only;rw [Qaw rfl];refine he x (Qam q) _ (hR _ _ ⟨?_,rfl⟩);rw [take_snoc q,Qbc]
  rfl
 ·rintro zs H' ⟨rfl,rfl⟩ l hl
  rw [Qbi];exact hd l hl
section
variable {κ:Type}[19e5]
def Yg(kvs:9e7)(k:κ):5e6:=(kvs.find? fun q=>decide (q.1=k)).map (·.2)
def putK(kvs:9e7)(k:κ)(v:V):9e7 :=
 if (kvs.any fun q=>decide (q.1=k))=true then kvs.map (fun q=>if q.1=k then (q.1,v) else q) else kvs++[(k,v)]
theorem Yb{p:κ × V}{r:9e7}{k:κ}(e:p.1=k):Yg (p::r) k=some p.2:=by simp [Yg,Qed,e]
theorem ZU{p:κ × V}{r:9e7}{k:κ}(e:¬p.1=k):Yg (p::r) k=Yg r k:=by simp [Yg,Qed,e]
theorem XS(k:κ):∀kvs:9e7,(kvs.any fun q=>decide (q.1=k))=(Yg kvs k).isSome
 | []=>rfl
 | p::r=>by
  rw [Qgo]
  by_cases e:p.1=k
  ·simp only [Yb e,Qah e,Bool.true_or,Option.isSome_some]
  ·rw [ZU e,Qao e,Bool.false_or];exact XS k r
theorem gy(k j:κ)(y:V):∀kvs:9e7,Yg (kvs.map fun q=>if q.1=k then (q.1,y) else q) j=(Yg kvs j).map fun x=>if j=k then y else x
 | []=>rfl
 | p::r=>by
  have C:=gy k j y r;rw [Qa4]
  by_cases h:p.1=k
  ·rw [Qaw h]
   by_cases e:p.1=j
   ·rw [Yb (p:=(p.1,y)) e,Yb e,Qgz,Qaw (e.symm.trans h)]
   ·rw [ZU (p:=(p.1,y)) e,ZU e,C]
  ·rw [Qau h]
   by_cases e:p.1=j
   ·rw [Yb (p:=p) e,Yb e,Qgz,Qau (fun z=>h (e.trans z))]
   ·rw [ZU (p:=p) e,ZU e,C]
theorem Jl(k j:κ)(y:V):∀kvs:9e7,Yg kvs k=none->Yg (kvs++[(k,y)]) j=if j=k then some y else Yg kvs j
 | [],_=>by
  by_cases e:k=j
  ·rw [Qaw e.symm];exact Yb (p:=(k,y)) e
  ·rw [Qau (fun z=>e z.symm)];exact ZU (p:=(k,y)) e
 | p::r,hn=>by
  rw [Qfi];have hk:¬p.1=k:=fun z=>by rw [Yb z] at hn;cases hn
  rw [ZU hk] at hn;have q:=Jl k j y r hn
  by_cases e:p.1=j
  ·rw [Yb e,Yb e,Qau (fun z=>hk (e.trans z))]
  ·rw [ZU e,ZU e,q]
theorem jO(kvs:9e7)(k j:κ)(y:V):Yg (putK kvs k y) j=if j=k then some y else Yg kvs j:=by
 unfold putK
 by_cases a:(kvs.any fun C=>decide (C.1=k))=true
 ·rw [Qaw a,gy]
  rw [XS] at a
  by_cases e:j=k
  ·obtain ⟨x,hx⟩:=Option.isSome_iff_exists.mp a
   rw [Qaw e,e,hx,Qgz,Qaw rfl]
  ·rw [Qau e]
   cases Yg kvs j with
   | none=>rfl
   | some x=>rw [Qgz,Qau e]
 ·rw [Qau a]
  refine Jl k j y kvs ?_;rw [XS] at a;cases q:Yg kvs k with
  | none=>rfl
  | some x=>rw [q] at a;exact (a rfl).elim
theorem X8(kvs:9e7)(k:κ)(v:V):(putK kvs k v).length<=kvs.length + 1:=by
 unfold putK
 split
 ·rw [Qac];lia
 ·rw [Qae,Qb3,Qee];lia
theorem jP{kvs:9e7}{k:κ}(v:V)(h:Yg kvs k=none):putK kvs k v=kvs++[(k,v)]:=by
 unfold putK;rw [XS,h];exact Qau 1e4
theorem yG.isSome_eq{o:5e6}{u:7e9}(r:yG o u):o.isSome=u.isSome:=by
 cases o with
 | none=>cases u with
  | none=>rfl
  | some _=>exact (show False from r).elim
 | some _=>cases u with
  | none=>exact (show False from r).elim
  | some _=>rfl
theorem yG.getD{o:5e6}{u:7e9}{d:V}{d':Value}(r:yG o u)(rd:RelV d d'):RelV (o.getD d) (u.getD d'):=by
 cases o with
 | none=>cases u with
  | none=>exact rd
  | some _=>exact (show False from r).elim
 | some _=>cases u with
  | none=>exact (show False from r).elim
  | some _=>exact r
theorem KV.val{kvs:9e7}{vs:List (κ × Value)}(r:KV kvs vs)(k:κ):yG (Yg kvs k) (valueAt vs k):=by
 unfold KV at r
 induction r with
 | nil=>exact True.intro
 | @cons p q ps D h t G =>
  obtain ⟨h1,h2⟩:=h
  by_cases e:p.1=k
  ·have C:q.1=k:=h1.symm.trans e
   have b:valueAt (q::D) k=some q.2:=by simp [valueAt,Qed,C]
   rw [Yb e,b];exact h2
  ·have C:¬q.1=k:=fun z=>e (h1.trans z)
   have b:valueAt (q::D) k=valueAt D k:=by simp [valueAt,Qed,C]
   rw [ZU e,b];exact G
theorem KV.any{kvs:9e7}{vs:List (κ × Value)}(r:KV kvs vs)(k:κ):(kvs.any fun q=>decide (q.1=k))=vs.any fun q=>decide (q.1=k):=by
 unfold KV at r
 induction r with
 | nil=>rfl
 | cons h t C=>rw [Qgo,Qgo,C,h.1]
theorem KV.repl{kvs:9e7}{vs:List (κ × Value)}(r:KV kvs vs)(k:κ){y:V}{u:Value}(G:RelV y u) :
  KV (kvs.map fun C=>if C.1=k then (C.1,y) else C) (vs.map fun C=>if C.1=k then (C.1,u) else C):=by
 unfold KV at r ⊢
 induction r with
 | nil=>exact .nil
 | @cons p q ps I h t D =>
  rw [Qa4,Qa4];refine .cons ?_ D;obtain ⟨h1,h2⟩:=h
  by_cases e:p.1=k
  ·rw [Qaw e,Qaw (h1.symm.trans e)];exact ⟨h1,G⟩
  ·rw [Qau e,Qau (fun z=>e (h1.trans z))];exact ⟨h1,h2⟩
theorem KV.put{kvs:9e7}{vs:List (κ × Value)}(r:KV kvs vs)(k:κ){y:V}{u:Value}(q:RelV y u):KV (putK kvs k y) (stored vs k u):=by
 unfold putK stored;rw [r.any k]
 by_cases e:(vs.any fun C=>decide (C.1=k))=true
 ·rw [Qaw e,Qaw e];exact r.repl k q
 ·rw [Qau e,Qau e];exact Paired.snoc r ⟨rfl,q⟩
theorem KV.keys{kvs:9e7}{vs:List (κ × Value)}(r:KV kvs vs):kvs.map (·.1)=vs.map (·.1):=by
 unfold KV at r
 induction r with
 | nil=>rfl
 | cons h t q=>rw [Qa4,Qa4,q,h.1]
theorem KV.length{kvs:9e7}{vs:List (κ × Value)}(r:KV kvs vs):kvs.length=vs.length:=Qgm r
end
theorem jQ{w:World}{k:Key}{u:Value}(r:RelV (kV k) u):(ZD P w).is k u=true:=by
 cases k with
 | inl i=>obtain ⟨t,e⟩:=(show ∃t,u=Value.int i t from r);subst e;exact kj P w i t
 | inr x=>obtain ⟨t,e⟩:=(show ∃t,u=Value.str x t from r);subst e;exact Gg P w x t
theorem ve{P:Program}{w:World}:∀{ks:List Key} {q:2e0},Vals (ks.map kV) q->ItemsAre (ZD P w) ks q
 | [],_,r=>by rw [Qfo] at r;cases r;exact .nil
 | k::ks,_,r=>by
  rw [Qa4] at r;cases r with
  | cons h t=>exact .cons (jQ h) (ve t)
abbrev KT(H:Hp):19e0->23e2->Prop:=Paired fun p q=>p.1=q.1/\H q.2.1=some (.tup (p.1.map kV))/\RelV p.2 q.2.2
theorem KT.val{kvs:19e0}{xs:23e2}(r:KT H kvs xs)(k:List Key):yG (Yg kvs k) ((atKey xs k).map (·.2)):=by
 induction r with
 | nil=>exact True.intro
 | @cons p q ps D h t G =>
  obtain ⟨h1,_,h2⟩:=h
  by_cases e:p.1=k
  ·have C:q.1=k:=h1.symm.trans e
   have b:atKey (q::D) k=some q.2:=by simp [atKey,Qed,C]
   rw [Yb e,b];exact h2
  ·have C:¬q.1=k:=fun z=>e (h1.trans z)
   have b:atKey (q::D) k=atKey D k:=by simp [atKey,Qed,C]
   rw [ZU e,b];exact G
theorem KT.repl{kvs:19e0}{xs:23e2}(r:KT H kvs xs)(k:List Key){y:V}{u:Value}(G:RelV y u) :
  KT H (kvs.map fun C=>if C.1=k then (C.1,y) else C) (xs.map (putAt k u)):=by
 induction r with
 | nil=>exact .nil
 | @cons p q ps J h t D =>
  rw [Qa4,Qa4];refine .cons ?_ D;obtain ⟨h1,h2,I⟩:=h;unfold putAt
  by_cases e:p.1=k
  ·rw [Qaw e,Qaw (h1.symm.trans e)];exact ⟨h1,h2,G⟩
  ·rw [Qau e,Qau (fun z=>e (h1.trans z))];exact ⟨h1,h2,I⟩
theorem KT.put{kvs:19e0}{xs:23e2}(r:KT H kvs xs)(k:List Key){b:Addr}{y:V}{u:Value}(hb:H b=some (.tup (k.map kV)))(C:RelV y u) :
  KT H (putK kvs k y) (storedH xs k b u):=by
 have e:(kvs.any fun D=>decide (D.1=k))=(atKey xs k).isSome:=by
  rw [XS,(r.val k).isSome_eq,Qhf]
 unfold putK storedH;rw [e]
 by_cases q:(atKey xs k).isSome=true
 ·rw [Qaw q,Qaw q];exact r.repl k C
 ·rw [Qau q,Qau q];exact Paired.snoc r ⟨rfl,hb,C⟩
theorem KT.keeps{H':Hp}{kvs:19e0}{xs:23e2}(r:KT H kvs xs)(q:∀b ys,H b=18e0->H' b=18e0):KT H' kvs xs :=
 Paired.mapP r fun _ _ z=>⟨z.1,q _ _ z.2.1,z.2.2⟩
section
variable {P:Program}{w:World}{H:Hp}{h:Heap}{a:Addr}
theorem Zme{u:HO}(ok:12e5)(e:Rd H a u):Yo P w H h a u:=e.ok ok
theorem vf{kvs:4e4}(ok:12e5)(e:Rd H a 4e1):33e3 :=
 show Yo P w H h a 4e1 from Zme ok e
theorem Zfq{kvs:4e4}(ok:12e5)(e:H a=some 4e1):33e3:=vf ok (.inl e)
theorem vg{ks:List Key}(ok:12e5)(e:H a=some (.tup (ks.map kV))):(tupleKind (ZD P w)).is h ks a:=by
 obtain ⟨_,q,r,o,h1,h2,n,C⟩:=(show Yo P w H h a (.tup (ks.map kV)) from ok a _ e);exact ⟨o,q.toArray,n,h1,h2,C,by simpa using ve r⟩
theorem Zb6{kvs:19e0}(ok:12e5)(e:Rd H a (.dT kvs)):24e5/\27e1 /\
  ∃xs,KT H kvs xs/\h.DictOfH (tupleKind (ZD P w)) a xs:=by
 obtain ⟨z,y,xs,r,o,es,ep,h1,h2,J,I,G⟩:=(show Yo P w H h a (.dT kvs) from Zme ok e);refine ⟨z,y,xs,r,o,es,ep,h1,h2,J,I,fun x hx=>?_,G⟩;have all:∀{l:19e0} {m:23e2},KT H l m->∀x∈m,(tupleKind (ZD P w)).is h x.1 x.2.1:=by
  intro l m q
  induction q with
  | nil=>intro x hx;exact nomatch hx
  | @cons p q ps O C t D =>
   intro x hx;rcases Qan.mp hx with e | hx
   ·subst e
    exact vg ok (by rw [<-C.1];exact C.2.1)
   ·exact D x hx
 exact all r x hx
theorem dt_of{kvs:19e0}(ok:12e5)(e:H a=some (.dT kvs)):24e5/\27e1 /\
  ∃xs,KT H kvs xs/\h.DictOfH (tupleKind (ZD P w)) a xs:=Zb6 ok (.inl e)
end
def Zlv(H:Hp)(a:Addr)(y:V)(r:5e6):Prop :=
 (∃kvs k,Rd H a 4e1/\y=kV k/\r=Yg kvs k)\/∃kvs k b,Rd H a (.dT kvs)/\y=.ref b/\H b=some (.tup (k.map kV))/\r=Yg kvs k
def uH(H:Hp)(a:Addr)(y v:V)(H':Hp):Prop :=
 (∃kvs k,H a=some 4e1/\y=kV k/\kvs.length < sizeLine/\H'=upd H a (.dK (putK kvs k v))) \/
 ∃kvs k b,H a=some (.dT kvs)/\y=.ref b/\H b=some (.tup (k.map kV))/\kvs.length < sizeLine/\H'=upd H a (.dT (putK kvs k v))
theorem uH.k{H:Hp}{a:Addr}{kvs:4e4}{k:Key}{v:V}(e:H a=some 4e1)(hl:kvs.length < sizeLine):uH H a (kV k) v (upd H a (.dK (putK kvs k v))):=.inl ⟨kvs,k,e,rfl,hl,rfl⟩
section
variable {X:Cx}{pins:2e6}{σ:St}{H:Hp}{s:Shared}{a:Addr}{y v:V}{u r:Value}{o:5e6}{A:Around}{E:1e9}
theorem Inv.big(I:2e1):sysModules < s.heap.objs.size:=by
 have h:mainGlobals < s.heap.objs.size:=(I.mod.glob.keeps I.bk).lt;exact Nat.lt_trans 1e4 h
theorem Zb7(hu:16e0)(I:2e1)(g:Zlv H a y (some v))(O:RelV y u)(h:∀D s',Inv X pins σ H s'->RelV v D->Q D s') :
  wpAny 3e0 A (getItem 3e1 u) Q E s:=by
 rcases g with ⟨kvs,k,e,G,l⟩ | ⟨kvs,k,b,e,G,Y,l⟩
 ·subst G
  obtain ⟨z,hd,vs,C,dd⟩:=vf I.hok e;obtain ⟨D,hw,q⟩:=yG.some_of (v:=v) (o:=valueAt vs k) (by rw [l];exact C.val k);exact wpAny_getItem_of (jQ O) dd.mapOf hw (h D _ (I.tok _) q)
 ·subst G
  cases (show u=Value.ref b from O);obtain ⟨z,hd,xs,C,dd⟩:=Zb6 I.hok e;obtain ⟨D,hw,q⟩:=yG.some_of (v:=v) (o:=(atKey xs k).map (·.2)) (by rw [l];exact C.val k);obtain ⟨p,hp,J⟩:=Qcb.mp hw;refine wpAny_getItem_heap (Qfw hu) (vg I.hok Y) dd hp ?_;rw [J];exact h D _ (I.tok _) q
theorem d_in(hu:16e0)(I:2e1)(g:Zlv H a y o)(G:RelV y u)(h:∀s',Inv X pins σ H s'->Q (.bool o.isSome) s') :
  wpAny 3e0 A (compareOp .In u 3e1) Q E s:=by
 rcases g with ⟨kvs,k,e,D,l⟩ | ⟨kvs,k,b,e,D,J,l⟩
 ·subst D
  obtain ⟨z,hd,vs,C,dd⟩:=vf I.hok e;refine wpAny_in_of (jQ G) hd dd.mapOf ?_;rw [<-(C.val k).isSome_eq,<-l];exact h _ (I.tok _)
 ·subst D
  cases (show u=Value.ref b from G);obtain ⟨z,hd,xs,C,dd⟩:=Zb6 I.hok e;refine wpAny_in_heap (Qfw hu) (vg I.hok J) hd dd ?_;have q:=(C.val k).isSome_eq;rw [Qhf] at q;rw [<-q,<-l];exact h _ (I.tok _)
theorem Zjw(hu:16e0)(I:2e1)(g:Zlv H a y o)(G:RelV y u)(h:∀s',Inv X pins σ H s'->Q (.bool (!o.isSome)) s') :
  wpAny 3e0 A (compareOp .NotIn u 3e1) Q E s:=by
 rcases g with ⟨kvs,k,e,D,l⟩ | ⟨kvs,k,b,e,D,J,l⟩
 ·subst D
  obtain ⟨z,hd,vs,C,dd⟩:=vf I.hok e;refine wpAny_notIn_of (jQ G) hd dd.mapOf ?_;rw [<-(C.val k).isSome_eq,<-l];exact h _ (I.tok _)
 ·subst D
  cases (show u=Value.ref b from G);obtain ⟨z,hd,xs,C,dd⟩:=Zb6 I.hok e;refine wpAny_notIn_heap (Qfw hu) (vg I.hok J) hd dd ?_;have q:=(C.val k).isSome_eq;rw [Qhf] at q;rw [<-q,<-l];exact h _ (I.tok _)
theorem xS{h':Heap}{t':Nat}(I:2e1)(D:Mut (H a))(hs:Heap.SameBut a s.heap h')(he:∃q,h'.get? a=some q)(C:Yo X.prog X.w (upd H a R) h' a R) :
  Inv X pins σ (upd H a R) 23e7 :=
 I.write (x:=a) (e:=a) D (6e4) (fun b q hb z=>(hs.2 b hb).trans z) he C
theorem Zb8{w:World}{H':Hp}{h':Heap}{kvs:4e4}{vs:List (Key × Value)}(z:24e5)(hd:27e1)(q:KV kvs vs)(dd:h'.DictOf (ZD P w) a vs) :
  Yo P w H' h' a 4e1:=⟨z,hd,vs,q,dd⟩
theorem Zb9{H':Hp}{Q:Unit->3e3}(hu:16e0)(I:2e1)(g:uH H a y v H')(Y:RelV y u)(rv:RelV v r)(h:∀s',19e1->Q () s') :
  wpAny 3e0 A (setItem 3e1 u r) Q E s:=by
 rcases g with ⟨kvs,k,e,J,l,G⟩ | ⟨kvs,k,b,e,J,Z,l,G⟩
 ·subst J G
  obtain ⟨z,hd,vs,C,dd⟩:=Zfq I.hok e;have hz:vs.length<=sizeLine:=by rw [<-C.length];exact z
  have hl:(putK kvs k v).length<=sizeLine:=by have:=X8 kvs k v;lia
  refine wpAny_setItem_pairs (hsz:=hz) (jQ Y) dd fun h' dd' hs=>h _ ?_;have he:∃q,h'.get? a=some q:=let ⟨q,_,_,D,_⟩:=dd';⟨q,D⟩;exact xS I (by rw [e];exact True.intro) hs he (Zb8 hl hd (C.put k rv) dd')
 ·subst J G
  cases (show u=Value.ref b from Y);obtain ⟨z,hd,xs,C,dd⟩:=dt_of I.hok e;have hz:14e4:=by rw [<-Qgm C];exact z
  have hl:(putK kvs k v).length<=sizeLine:=by have:=X8 kvs k v;lia
  refine wpAny_setItem_heap (hsz:=hz) (Qfw hu) (vg I.hok Z) dd fun h' dd' hs=>h _ ?_;obtain ⟨q,es,ep,D,h2,h3,h4,_,h5⟩:=dd';refine xS I (by rw [e];exact True.intro) hs ⟨q,D⟩ ⟨hl,hd,_,(C.put k Z rv).keeps fun c ys O=>?_,q,es,ep,D,h2,h3,h4,h5⟩;rw [Zh (Xn O e (4e3))];exact O
end
section
variable {X:Cx}{pins:2e6}{σ:St}{H:Hp}{s:Shared}{a:Addr}{kvs:4e4}{k:Key}{u:Value}{A:Around}{E:1e9}
theorem d_len  (I:2e1) (e:Rd H a 4e1) (h:∀t s',Inv X pins σ H s'->Q (.int kvs.length t) s'):wpAny 3e0 A (call (.builtin "len") [.ref a]) Q E s:=by
 obtain ⟨z,hd,vs,q,dd⟩:=vf I.hok e;refine call_len_dict hd dd (by rw [<-q.length];rw [Qgv] at z;lia) ?_;rw [<-q.length];exact h _ _ (I.tok _)
end
def Znc(i:Expr):Prop:=∀q C,subscripted i false q C=operate [q,C] (getItem q C)
theorem Zca{prog:Program}{w:World}{A:Around}{E:1e9}{env:Env}{q:Expr}{T id:String}
  (hl:typeLookup (.type T) "__getitem__" = pure (some 18e1)) (hs:Znc q)
  (h:wpAny 2e3 A (eval e env) (fun o G=>wpAny 2e3 A (eval q env) (fun i s₂=>s₂.TypeIs o T/\wpAny 2e3 A (getItem o i) Q E s₂) E G) E s) :
  wpAny 2e3 A (eval (.Subscript e q p) env) Q E s:=by
 refine Subscript_ (Qdm h (fun o G J=>Qdm J (fun i s₂ C=>?_) fun _ _ x=>x) fun _ _ x=>x);obtain ⟨O,C⟩:=C;unfold subscriptTail;refine Qaa ?_;rw [getitemInPython_of_ne O.not_modules];refine Qaa (Qdz O hl ?_);have fin:wpAny 2e3 A (subscripted q false o i) (fun r D=>wpAny 2e3 A (letTemporaryGo e o r >>= fun _=>pure r) Q E D) E s₂:=by
  rw [hs o i];exact wpAny_operating (Qdm C (fun r D I=>Qaa (wpAny_letTemporaryGo (Qad I))) fun _ _ x=>x)
 first
  | exact Qad (Qaa fin)
  | exact Qaa (Qad (Qaa fin))
  | exact Qaa fin
theorem kA {X:Cx}      {y:V} {o:5e6} (I:Inv X z f H s) (g:Zlv H a y o):s.TypeIs 3e1 "dict" := by
 rcases g with ⟨kvs,k,e,_,_⟩ | ⟨kvs,k,b,e,_,_,_⟩
 ·obtain ⟨_,_,vs,_,dd⟩:=vf I.hok e
  exact dd.typeIs
 ·obtain ⟨_,_,xs,_,dd⟩:=Zb6 I.hok e
  exact dd.typeIs
inductive Zcb(Q:VK)(x:V)(y:V)(H2:Hp):Prop
 | mk (a v:_):(x=.ref a)->(Zlv H2 a y (some v))->(Q v H2)->Zcb Q x y H2
def Zmf(td ty:TE):TE:=fun σ H Q=>td σ H fun x H1=>ty σ H1 fun y H2=>Zcb Q x y H2
inductive Zcc(D:Ends)(σ:St)(v:V)(x:V)(y:V)(H3:Hp):Prop
 | mk (a H4:_):(x=.ref a)->(uH H3 a y v H4)->(D.nx σ H4)->Zcc D σ v x y H3
def Zmg(td ty tv:TE):TS:=fun D σ H=>tv σ H fun v H1=>td σ H1 fun x H2=>ty σ H2 fun y q=>Zcc D σ v x y q
section
variable {X:Cx}{o i e value:Expr}{pos pos' tpos:Pos}{td ty tv:TE}
theorem Zjx(hu:X.A.units + 1 < cLine)(ho:PE X o td)(hi:PE X i ty)(hs:Znc i):PE X (.Subscript o i pos) (Zmf td ty):=by
 show 13;refine Zca PySem.F.slot_dict_getitem.lookup hs (thn (ho pins s σ H _ I h) fun u D ⟨x,H1,Y,rx,G⟩=>thn (hi pins D σ H1 _ Y G) fun iv s2 ⟨y,H2,C,Z,a,v,ex,g,J⟩=>?_);subst ex;obtain rfl:u=Value.ref a:=rx;exact ⟨kA C g,Zb7 hu C g Z fun w' s3 O q=>⟨v,H2,O,q,J⟩⟩
theorem Zjy(hu:X.A.units + 1 < cLine)(ho:PE X o td)(hi:PE X i ty)(hv:PE X value tv)(hs:swapsWith value (some (.Subscript o i pos')) pos.line X.env=pure false) :
  PS X (.Assign [.Subscript o i pos'] value pos) (Zmg td ty tv):=by
 show 17;refine wpAny_Assign_Subscript (thn (hv pins s σ H _ I h) fun r s1 ⟨v,H1,I1,rv,q⟩=>thn (ho pins s1 σ H1 _ I1 q) fun u C ⟨x,H2,Y,rx,J⟩=>thn (hi pins C σ H2 _ Y J) fun iv s3 ⟨y,H3,O,Z,a,H4,ex,g,q3⟩=>?_) hs;subst ex;obtain rfl:u=Value.ref a:=rx;exact Zb9 hu O g Z rv fun s4 G=>⟨σ,H4,G,q3⟩
end
theorem jR  {w:World}  (h:Heap) (hb:sysModules < h.objs.size):Yo P w H (h.push { cls:=15e3,data:=.dict #[] }) h.objs.size (.dK []) :=
 ⟨Qbe _,Qcw.mpr (Qel (Qbf hb)),[],.nil,Heap.DictOf.new h⟩
def Zh3:TE:=fun _ H Q=>∀p,H p=none->Q 3e5 (upd H p (.dK []))
section
variable {X:Cx}{pos:Pos}
theorem Zfr:PE X (.Dict [] [] pos) Zh3:=fun pins s σ H Q I h =>
 wpAny_Dict_empty ⟨4e9,_,I.laid (a:=s.heap.objs.size) (o:=.dK []) (t':=s.toks) (fun _ _ q=>Qab _ q) (Qai _) (jR s.heap I.big),rfl,h _ (20e3)⟩
end
def Zcd:List (TE × TE)->St->Hp->(List (V × V)->1e8)->Prop
 | [],_,H,Q=>Q [] H
 | (tk,tv)::r,σ,H,Q=>tk σ H fun x H1=>tv σ H1 fun y H2=>Zcd r σ H2 fun ps q=>Q ((x,y)::ps) q
abbrev VV:List (V × V)->List (Value × Value)->Prop:=Paired fun p q=>RelV p.1 q.1/\RelV p.2 q.2
def PPs(X:Cx)(pos:Pos)(keys:List (Option Expr))(q:5e4)(C:List (TE × TE)):Prop :=
 ∀(pins:2e6) (s:Shared) (σ:St) (H:Hp) (Q:List (V × V)->1e8),2e1->Zcd C σ H Q ->
  wpAny 3e0 X.A (evalPairs (pairTrees keys q X.env pos)) (fun vs s'=>∃ps H',19e1/\VV ps vs/\Q ps H') X.xe s
theorem Zjz{X:Cx}:PPs X p [] [] []:=fun pins s σ H Q I h=>pairTrees_nil_walk ⟨[],H,I,.nil,h⟩
theorem Zfs{X:Cx}{k v:Expr}{ks:List (Option Expr)}{vs:5e4}{tk:TE}{q:List (TE × TE)}(hk:PE X k tk)(hv:PE X v d)(hr:PPs X p ks vs q) :
  PPs X p (some k::ks) (v::vs) ((tk,d)::q):=fun pins s σ H Q I h =>
 pairTrees_cons_walk (thn (hk pins s σ H _ I h) fun u s1 ⟨x,H1,I1,rx,D⟩=>thn (hv pins s1 σ H1 _ I1 D) fun w2 G ⟨y,H2,Z,ry,J⟩ =>
  thn (hr pins G σ H2 _ Z J) fun ws s3 ⟨ps,O,Y,C,q3⟩=>⟨(x,y)::ps,O,Y,.cons ⟨rx,ry⟩ C,q3⟩)
def Wm(kvs more:4e4):4e4:=more.foldl (fun acc q=>putK acc q.1 q.2) kvs
theorem KV.merge:∀{more:4e4} {rs:List (Key × Value)} {kvs:4e4} {vs:List (Key × Value)},KV more rs->KV kvs vs->KV (Wm kvs more) (merged vs rs):=by
 intro more rs kvs vs r;unfold KV at r
 induction r generalizing kvs vs with
 | nil=>intro q;exact q
 | @cons p q ps G h t C =>
  intro D;have e:KV (putK kvs p.1 p.2) (stored vs q.1 q.2):=by
   have:=D.put p.1 h.2;rw [<-h.1];exact this
  exact C e
theorem GJ:∀(more kvs:4e4),(Wm kvs more).length<=kvs.length + more.length
 | [],kvs=>by show kvs.length<=kvs.length + 0;lia
 | p::r,kvs=>by
  have h1:=GJ r (putK kvs p.1 p.2);have h2:=X8 kvs p.1 p.2;show (Wm (putK kvs p.1 p.2) r).length<=_;rw [Qb3];lia
theorem jm{P:Program}{w:World}:∀{kvs:4e4} {D:List (Value × Value)},VV (kvs.map fun C=>(kV C.1,C.2)) D->∃rs,Carries (ZD P w) D rs/\KV kvs rs
 | [],_,r=>by rw [Qfo] at r;cases r;exact ⟨[],True.intro,.nil⟩
 | p::kvs,_,r=>by
  rw [Qa4] at r;cases r with
  | @cons a b as bs h t =>
   obtain ⟨rs,c,q⟩:=jm (P:=P) (w:=w) t;obtain ⟨b1,b2⟩:=b;exact ⟨(p.1,b2)::rs,⟨jQ h.1,rfl,c⟩,.cons ⟨rfl,h.2⟩ q⟩
def Zmh(q:List (TE × TE)):TE:=fun σ H Q=>∀p,H p=none->Zcd q σ (upd H p (.dK [])) fun ps H2=>H2 p=some (.dK [])/\∃kvs:4e4,ps=kvs.map (fun C=>(kV C.1,C.2))/\kvs.length<=15/\Q 3e5 (upd H2 p (.dK (Wm [] kvs)))
theorem Zj0{X:Cx}{keys:List (Option Expr)}{D:List (TE × TE)}(h:PPs X p keys B D)(C:keys.all (·.isSome)=true)(hl:keys.length=B.length)(h0:keys≠[])
  (G:keys.length<=15):PE X (.Dict keys B p) (Zmh D):=by
 intro pins s σ H Q I q;have hn:=I.hok.fresh (Qai s.heap.objs.size);have I1:=36e9;refine wpAny_Dict_walk (knd:=ZD X.prog X.w) C hl h0 G (thn (h pins _ σ _ _ I1 (q _ hn)) fun ws s2 ⟨ps,H2,O,J,e,kvs,ep,lk,Z⟩=>?_);subst ep;obtain ⟨rs,c,rk⟩:=jm (P:=X.prog) (w:=X.w) J;obtain ⟨z,hd,vs0,Y,dd⟩:=Zfq O.hok e;cases Y;refine ⟨rs,c,dd,fun h' dd' hs=>⟨4e9,_,?_,rfl,Z⟩⟩;have hz:(Wm [] kvs).length<=sizeLine:=by
  have h1:=GJ kvs [];rw [Qee] at h1;rw [Qgv];lia
 have he:∃q,h'.get? s.heap.objs.size=some q:=let ⟨q,_,_,hq,_⟩:=dd';⟨q,hq⟩;exact xS O (by rw [e];exact True.intro) hs he (Zb8 hz hd (rk.merge .nil) dd')
structure M2(X:Cx)(o:Expr)(m:Str)(apos:Pos)(e f:Expr)(cpos:Pos):Prop where
 base:attributeBase o m X.env (eval o X.env)=eval o X.env
 few:((backTo cpos (starEach [e,f] X.env)).all (fun x=>!x.1) && (backToKw cpos (keywordEach [] X.env)).all (fun x=>x.1.isSome)
  && decide (([e,f]:5e4).length + ([]:List Keyword).length + (if ([]:List Keyword).isEmpty then 0 else 1) < 30))=true
 line:(apos.endLine == cpos.line)=true
 trees:backTo cpos (starEach [e,f] X.env)=[22e0,(false,eval f X.env)]
section
variable {X:Cx}{pins:2e6}{σ:St}{H:Hp}{s:Shared}{a:Addr}{y d:V}{u r:Value}{o:5e6}{A:Around}{E:1e9}
end
section
variable {X:Cx}{o e f:Expr}{apos cpos:Pos}{td ty tx:TE}
end
section
variable {X:Cx}{pins:2e6}{σ:St}{H:Hp}{s:Shared}{a:Addr}{kvs:4e4}{A:Around}{E:1e9}
end
section
variable {X:Cx}{pins:2e6}{σ:St}{H:Hp}{s:Shared}{a:Addr}{y:V}{u:Value}{A:Around}{E:1e9}
end
section
variable {X:Cx}
end
end L2
namespace EnT
open PySem PySem.Spec PyProof.Rows
open AutoSeq1 (wpAny_loadPart')
def tIt (l:Addr):Obj:={ cls:=.type "tuple_iterator",data:=.fields #[.ref l,.int 0 0] }
def enO (it:Addr):Obj:={ cls:=.type "enumerate",data:=.fields #[.none,.bool false,.ref it,rawInt 0,.none,.none] }
theorem Jj(l:Addr)(items:4e5) :
  Meets (Builtin.«enumerate.__new__» ⟨[.type "enumerate",.ref l],[]⟩) (fun _ R s=>24e1 /\
   R (.ok (.ret (.ref (s.heap.push (tIt l)).objs.size))) { s with heap:=(s.heap.push (tIt l)).push (enO s.heap.objs.size) }) :=
 .of_wp fun prog w A R s h=>by
  obtain ⟨hp,g,d,tk,os⟩:=s;obtain ⟨q,h⟩:=h;have C:=sub_enumerate;obtain ⟨⟨oc,od,D,G⟩,hl,hc,n,hd⟩:=id q;simp only at hc hd;subst hc hd
  wp_walk using wpAny_loadPart' hl
  refine wpAny_stack_any fun st=>Qad ?_
  split
  ·rename_i c _ _ _ _ _
   cases (c == Value.type "enumerate")
   ·wp_walk using wpAny_loadPart' hl,Qe1 q
    exact ⟨_,rfl,h⟩
   ·wp_walk using wpAny_loadPart' hl,Qe1 q
    exact ⟨_,rfl,h⟩
  ·wp_walk using wpAny_loadPart' hl,Qe1 q
   exact ⟨_,rfl,h⟩
section
variable {prog:Program}{w:World}{A:Around}{E:1e9}{s:Shared}
theorem next_of{it:Addr}{items:_}{x:Value}(q:s.heap.IsTupleIter it l i)(hl:24e1)(hx:items[i]?=some x)
  (G:∀h',h'.IsTupleIter it l (i + 1)->Heap.SameBut it s.heap h'->Q x 7e0):31e3:=by
 show 23;obtain ⟨J,C,_,I,D⟩:=hl;unfold Builtin.SmallTypes.nextOf;refine Qaa (wpAny_callSpecial?_slot (name:=15e8) q.typeIs Qeh (Qbh Qeh q.typeIs Qg0 ?_ (Qgp _)));show wpAny _ _ (field 10e1 0 >>= _) _ _ s;refine Qaa (Qb2 ho hd (x:=.ref l) rfl ?_);show wpAny _ _ (if (Value.ref l == Value.none)=true then _ else _) _ _ s;rw [Qau (show ¬((Value.ref l == Value.none)=true) from Qa8)];show wpAny _ _ (field 10e1 1 >>= _) _ _ s;refine Qaa (Qb2 ho hd (x:=.int i 0) rfl ?_);show wpAny _ _ (seqItems? 5e1 >>= _) _ _ s;refine Qaa (Qb1 C D ?_);simp only [Qat,hx];refine Qaa (Qdi ho hd 2e5 (Qad ⟨x,rfl,Qad (G _ ⟨_,Qbk _ ho (Qcz (Qbr hd _)),(Qfc ..).trans hc,?_⟩ (Qci ..))⟩));rw [Qbr hd];simp [rawInt]
theorem next_no{it:Addr}{items:_}(hh:9e3)(q:s.heap.IsTupleIter it l i)(hl:24e1)(hx:items[i]?=none)
  (G:∀h' e,Heap.ExtBut it s.heap h'->34e1):31e3:=by
 show 23;obtain ⟨J,C,_,I,D⟩:=hl;unfold Builtin.SmallTypes.nextOf;refine Qaa (wpAny_callSpecial?_slot (name:=15e8) q.typeIs Qeh (Qbh Qeh q.typeIs Qg0 ?_ (Qgp _)));show wpAny _ _ (field 10e1 0 >>= _) _ _ s;refine Qaa (Qb2 ho hd (x:=.ref l) rfl ?_);show wpAny _ _ (if (Value.ref l == Value.none)=true then _ else _) _ _ s;rw [Qau (show ¬((Value.ref l == Value.none)=true) from Qa8)];show wpAny _ _ (field 10e1 1 >>= _) _ _ s;refine Qaa (Qb2 ho hd (x:=.int i 0) rfl ?_);show wpAny _ _ (seqItems? 5e1 >>= _) _ _ s;refine Qaa (Qb1 C D ?_);simp only [Qat,hx];refine Qaa (Qde (27e2));show 27e8;refine Qaa ?_;simp only [newExc,newTuple];refine Qaa (21e8);refine 30e7;refine 21e8;simp only [raiseNew];refine Qaa (Qhp ?_)
 first | rw [show A.in1.handled=none from hh] | rw [hh]
 refine Qaa (Qad (Qh7 ?_));exact G _ _ (((Qci ..).extBut.push _).push _) ⟨_,5e5,rfl⟩
theorem Zj1{e it:Addr}{items:4e5}{x:Value}
  (he:IsEnum s.heap e it i c) (hit:s.heap.IsTupleIter it l i) (hl:24e1) (hx:items[i]?=some x) (hne:e≠it)
  (hQ:∀h',IsEnumOut h' e it ((i:Int) + 1) x s.heap.objs.size->h'.IsTupleIter it l (i + 1) ->
   h'.get? s.heap.objs.size=some { cls:=4e8,data:=.seq #[.int i s.toks,x] }->h'.objs.size=5e9 ->
   (∀b o,b≠e->b≠it->11e6)->Q (4e9) { s with heap:=h',toks:=s.toks + 1 }) :
  wpAny 2e3 A (Builtin.«enumerate.__next__» ⟨[.ref e],[]⟩) (fun fin s'=>∃v,fin=.done (.ret v)/\Q v s') E s:=by
 obtain ⟨hp,g,d,tk,os⟩:=s;show wpAny _ _ (field (.ref e) 2 >>= _) _ _ _;refine Qaa (Qb2 he rfl (x:=.ref it) rfl ?_);refine Qaa (next_of hit hl hx fun O hit₁ G=>?_)
 replace G:Heap.SameBut it hp O:=G
 have he₁:IsEnum O e it i c:=(G.2 e hne).trans he;show wpAny _ _ (field (.ref e) 3 >>= _) _ _ ⟨O,g,d,tk,os⟩;refine Qaa (Qb2 he₁ rfl (x:=rawInt i) rfl ?_);show wpAny _ _ (field (.ref e) 4 >>= _) _ _ ⟨O,g,d,tk,os⟩;refine Qaa (Qb2 he₁ rfl (x:=.none) rfl ?_);show wpAny _ _ (mkInt i >>= _) _ _ ⟨O,g,d,tk,os⟩;refine Qaa (Qho ?_);show wpAny _ _ (setField (.ref e) 3 (rawInt ((i:Int) + 1)) >>= _) _ _ ⟨O,g,d,tk + 1,os⟩;refine Qaa (Qb8 he₁ 2e5 fun h₂ he₂ J=>?_)
 replace J:Heap.SameBut e O h₂:=J
 replace he₂:IsEnum h₂ e it ((i:Int) + 1) c:=he₂
 show wpAny _ _ (setField (.ref e) 4 .none >>= _) _ _ ⟨h₂,g,d,tk + 1,os⟩;refine Qaa (Qb8 he₂ 2e5 fun Y he₃ D=>?_)
 replace D:Heap.SameBut e h₂ Y:=D
 replace he₃:IsEnum Y e it ((i:Int) + 1) c:=he₃
 show wpAny _ _ (newTuple [.int i tk,x] >>= _) _ _ ⟨Y,g,d,tk + 1,os⟩;refine Qaa (Qhc ?_);have he₄:IsEnum (Y.push { cls:=4e8,data:=.seq #[.int i tk,x] }) e it ((i:Int) + 1) c:=Qab _ he₃;generalize hh₄:Y.push { cls:=4e8,data:=.seq #[.int i tk,x] }=Z at he₄;have hsz:Y.objs.size=hp.objs.size:=by rw [D.1,J.1,G.1]
 have hel:e < hp.objs.size:=Qas he;have ht₄:Z.get? hp.objs.size=some { cls:=4e8,data:=.seq #[.int i tk,x] }:=by rw [<-hh₄,<-hsz];exact 5e5
 have hz₄:Z.objs.size=hp.objs.size + 1:=by rw [<-hh₄,Qb0,hsz]
 have hk₄:∀b o,b≠e->b≠it->hp.get? b=some o->Z.get? b=some o:=fun b o hbe hbi hb=>by
  rw [<-hh₄];exact Qab _ (D.extBut b o hbe (J.extBut b o hbe (G.extBut b o hbi hb)))
 have hit₄:Z.IsTupleIter it l (i + 1):=by
  rw [<-hh₄];obtain ⟨o,ho,r⟩:=(hit₁.extBut J.extBut (Qel hne)).extBut D.extBut (Qel hne);exact ⟨o,Qab _ ho,r⟩
 show wpAny _ _ (Builtin.SmallTypes.ownedTupleIsFree (.ref e) >>= _) _ _ ⟨Z,g,d,tk + 1,os⟩;rw [hsz];clear hh₄ he₃ D he₂ J he₁ G hit₁ hsz Y h₂ O;refine Qaa ?_
 ·unfold Builtin.SmallTypes.ownedTupleIsFree
  refine Qaa (Qb2 he₄ rfl (x:=.none) rfl 7e2);simp only [Qgw];refine Qaa (Qde ?_);refine Qaa (Qb2 he₄ rfl (x:=c) rfl ?_);refine Qaa (Qb8 he₄ 2e5 fun h₅ he₅ q=>?_)
  replace q:Heap.SameBut e Z h₅:=q
  replace he₅:IsEnum h₅ e it ((i:Int) + 1) x:=he₅
  show wpAny _ _ (Builtin.SmallTypes.ownedTupleHandOut (.ref e) (.ref hp.objs.size) >>= _) _ _ ⟨h₅,g,d,tk + 1,os⟩;refine Qaa ?_
  ·unfold Builtin.SmallTypes.ownedTupleHandOut
   refine Qaa (Qb8 he₅ 2e5 fun h₆ he₆ C=>?_)
   replace C:Heap.SameBut e h₅ h₆:=C
   replace he₆:IsEnumOut h₆ e it ((i:Int) + 1) x hp.objs.size:=he₆
   refine Qb8 he₆ 2e5 fun h₇ he₇ I=>?_
   replace I:Heap.SameBut e h₆ h₇:=I
   replace he₇:IsEnumOut h₇ e it ((i:Int) + 1) x hp.objs.size:=he₇
   refine Qaa (Qe5 (Qad ⟨_,rfl,hQ h₇ he₇ ?_ ?_ ?_ ?_⟩))
   ·exact ((hit₄.extBut q.extBut (Qel hne)).extBut C.extBut (Qel hne)).extBut I.extBut (Qel hne)
   ·exact I.extBut _ _ (Qer hel) (C.extBut _ _ (Qer hel) (q.extBut _ _ (Qer hel) ht₄))
   ·rw [I.1,C.1,q.1,hz₄]
   ·exact fun b o hbe hbi hb=>I.extBut b o hbe (C.extBut b o hbe (q.extBut b o hbe (hk₄ b o hbe hbi hb)))
theorem next_item{e it:Addr}{items:4e5}{x:Value}{Q:7e9->3e3}
  (he:IsEnum s.heap e it i Z) (C:s.heap.IsTupleIter it l i) (hl:24e1) (hx:items[i]?=some x) (q:e≠it)
  (G:∀h',IsEnumOut h' e it ((i:Int) + 1) x s.heap.objs.size->h'.IsTupleIter it l (i + 1) ->
   h'.get? s.heap.objs.size=some { cls:=4e8,data:=.seq #[.int i s.toks,x] }->h'.objs.size=5e9 ->
   (∀b o,b≠e->b≠it->11e6)->Q (some (4e9)) { s with heap:=h',toks:=s.toks + 1 }) :
  wpAny 2e3 A (pyNext (.ref e)) Q E s:=by
 have D:s.TypeIs (.ref e) "enumerate" := ⟨_,he,rfl⟩;unfold pyNext;exact Qaa (Qdv (wpAny_callSpecial?_slot (name:=15e8) D Qe6 (Qbh Qe6 D F.entry_enumerate_next
   (Zj1 he C hl hx q fun h' a b c d k=>Qad (G h' a b c d k)) (F.args_enumerate_next_1 _))))
theorem next_end{e it:Addr}{items:4e5}{Q:7e9->3e3}(hh:9e3)
  (he:IsEnum s.heap e it i c) (C:s.heap.IsTupleIter it l i) (hl:24e1) (hx:items[i]?=none)
  (I:∀h',Heap.ExtBut it s.heap h'->Q none 7e0):wpAny 2e3 A (pyNext (.ref e)) Q E s:=by
 have G:s.TypeIs (.ref e) "enumerate" := ⟨_,he,rfl⟩;unfold pyNext;refine Qaa (Qdv (wpAny_callSpecial?_slot (name:=15e8) G Qe6 (Qbh Qe6 G F.entry_enumerate_next ?_ (F.args_enumerate_next_1 _))));show wpAny _ _ (field (.ref e) 2 >>= _) _ _ _;refine Qaa (Qb2 he rfl (x:=.ref it) rfl ?_);refine Qaa (next_no hh C hl hx fun h' x D q=>?_);obtain ⟨o,ho,hc⟩:=q;refine Qaa (Qdp (T := "StopIteration") (b:=true) ⟨o,ho,hc⟩ Qf8 ?_);exact Qad (I _ D)
theorem call_new{items:4e5}(hl:24e1)
  (h:∀h',IsEnum h' (5e9) s.heap.objs.size 0 .none->h'.IsTupleIter s.heap.objs.size l 0->h'.objs.size=s.heap.objs.size + 2 ->
   (∀b o,11e6)->Q (.ref (5e9)) 7e0):wpAny 2e3 A (call (.type "enumerate") [.ref l]) Q E s:=by
 refine Qhz F.called_enumerate 1e4 (F.typeCall_enumerate_1 _) (F.newCall_enumerate_1 _) (fun q=>Qgg q _) F.entry_enumerate_new (Jj l items) ⟨hl,?_⟩;have hz:(s.heap.push (tIt l)).objs.size=5e9:=Qb0 ..;show _/\_;rw [hz];have he:IsEnum ((s.heap.push (tIt l)).push (enO s.heap.objs.size)) (5e9) s.heap.objs.size 0 .none:=by
  have:=Qaq (s.heap.push (tIt l)) (o:=enO s.heap.objs.size) rfl;rw [hz] at this;exact this
 refine ⟨⟨_,he,rfl⟩,h _ he ⟨_,Qab _ (5e5),rfl,rfl⟩ (by rw [Qb0,hz]) fun b o x=>Qab _ (Qab _ x)⟩
end
end EnT
namespace L2
open PySem PySem.Spec PyProof.Rows
theorem YX{X:Cx}{pins:2e6}{h':Heap}{t':Nat}{fp:5e0}(I:Inv X pins f H s)(hf:∀b∈fp,xq X pins H b)(k:∀b o,b∉fp->11e6):Inv X pins f H 23e7:=by
 have C:∀b u,H b=some u->b∉fp:=fun b u e z=>by rw [(hf b z).1] at e;cases e
 refine I.step (g':=s.gens) (d':=s.drawn) (ch:=fp) (fun b hb=>⟨(hf b hb).2.2.2.1,(hf b hb).2.1,(hf b hb).2.2.2.2.1,(hf b hb).2.2.2.2.2⟩) (fun b o _ _ hc e _=>k b o hc e) (fun b o _ _ hc e _=>⟨o.slots,k b o hc e⟩) (fun _ _ _ _ n=>n)
  (fun b o hc e=>⟨o,k b o hc e⟩) (fun _ _ e=>e) (fun _ _ _ e=>e) (fun b ps e=>⟨#[],by rw [e];simp⟩) (fun m hm=>?_) (fun b u e=>?_) I.bare
 ·obtain ⟨o,es,ep,ho,r⟩:=hm
  exact ⟨o,es,ep,k _ o (fun z=>(hf _ z).2.1 rfl) ho,r⟩
 ·refine (I.hok b u e).stay (fun c v hc q=>k c v ?_ q) (fun _ q=>q) fun _ _ q=>q
  rcases hc with z | z
  ·rw [z]
   exact C b u e
  ·exact C c _ z
def Ite(K:PySem.W.Frag)(a:Addr)(n:Nat):It :=
 ⟨fun i H=>∃xs x,10e5/\xs.length=n/\10e7,fun i H v H'=>∃p,H p=none/\v=.ref p/\∀xs x,10e5->10e7->H'=upd H p (.tup [.int i,x]),fun i H=>∃xs,10e5/\xs.length=n/\n<=i⟩
theorem Zce{w:World}{ps:Pos}(a e it:Addr)(n:Nat)(O:e≠it):Turn P w K (.Tuple B L ps) (Ite K a n) [e,it] e (fun i h=>(∃C,IsEnum h e it i C)/\h.IsTupleIter it a i) where
 mem:=by simp
 obj:=fun i h st b hb=>by
  obtain ⟨⟨C,he⟩,o,ho,hc,hd⟩:=st;rcases Qan.mp hb with rfl | hb
  ·exact ⟨_,he,fun v z=>by
    have z':Data.fields _=Data.cell v:=z;cases z'⟩
  ·have:b=it:=6e6
   subst this;exact ⟨o,ho,fun v z=>by rw [hd] at z;cases z⟩
 keep:=fun i h h' st k=>by
  obtain ⟨⟨C,he⟩,q⟩:=st;exact ⟨⟨C,k e 2e5 _ he⟩,q.at fun o x=>k it 2e5 o x⟩
 item:=by
  show 21;subst hP hw hK;obtain ⟨xs,x,hq,hn,hx⟩:=hg;obtain ⟨J,rv,p,hz⟩:=I.tuple hq;obtain ⟨u,hu,ru⟩:=rv.get hx;obtain ⟨⟨C,he⟩,q⟩:=st;obtain ⟨f0,f1,f2,f3,f4,f5⟩:=hf e 2e5;obtain ⟨g0,g1,g2,g3,g4,g5⟩:=hf it 2e5;have hlt:e < s.heap.objs.size:=Qas he;have Z:it < s.heap.objs.size:=by obtain ⟨_,z,_⟩:=q;exact Qas z
  refine EnT.next_item he q (show s.heap.IsTuple a J.toArray from p) (x:=u) (by simpa using hu) O fun h' ho Y hT hsz hk=>?_;refine ⟨_,rfl,wpAny_letOwnedTupleGo_enum (s:={ s with heap:=h',toks:=s.toks + 1 }) ho fun h2 he2 hs2=>?_⟩;have D:Heap.SameBut e h' h2:=hs2;have I1:Inv X pins σ (upd H s.heap.objs.size (.tup [.int i,x])) { s with heap:=s.heap.push { cls:=4e8,data:=.seq #[.int i s.toks,u] },toks:=s.toks + 1 } :=
   I.laid (fun b o y=>Qab _ y) (Qai _) ⟨8e3,[.int i s.toks,u],.cons 8e1 (.cons ru .nil),Qfs _ _⟩
  have fp':∀b∈[e,it],xq X pins (upd H s.heap.objs.size (.tup [.int i,x])) b:=fun b hb=>by
   have hlb:b≠s.heap.objs.size:=by
    rcases Qan.mp hb with rfl | hb
    ·exact Qbf hlt
    ·have:b=it:=6e6
     rw [this];exact Qbf Z
   obtain ⟨a0,ar⟩:=hf b hb;exact ⟨by rw [Zh hlb];exact a0,ar⟩
  have I2:Inv X pins σ (upd H s.heap.objs.size (.tup [.int i,x])) { s with heap:=h2,toks:=s.toks + 1 }:=by
   refine YX (s:={ s with heap:=s.heap.push { cls:=4e8,data:=.seq #[.int i s.toks,u] },toks:=s.toks + 1 }) I1 fp' fun b o hb y=>?_;have G:b≠e:=fun z=>hb (by simp [z]);have hbi:b≠it:=fun z=>hb (by simp [z]);rcases Qgh y with ⟨rfl,rfl⟩ | y
   ·exact (D.2 _ G).trans hT
   ·exact (D.2 b G).trans (hk b o G hbi y)
  refine ⟨4e9,_,I2,rfl,⟨_,20e3,rfl,fun ys y hy hyi=>?_⟩,⟨⟨u,?_⟩,Y.at fun o y=>(D.2 it O.symm).trans y⟩,fun b hb=>(fp' b hb).1⟩
  ·rw [I.tuple_inj hy hq,hx] at hyi
   cases hyi
   rfl
  ·have e1:((i + 1:Nat):Int)=(i:Int) + 1:=by lia
   show IsEnum h2 e it ((i + 1:Nat):Int) u;rw [e1];exact he2
 done:=by
  show 21;subst hP hw hK;obtain ⟨xs,hq,hn,hx⟩:=hg;obtain ⟨J,rv,p,hz⟩:=I.tuple hq;obtain ⟨⟨C,he⟩,q⟩:=st;obtain ⟨g0,g1,g2,g3,g4,g5⟩:=hf it 2e5;have hl:=rv.length;exact EnT.next_end 8e5 he q (show s.heap.IsTuple a J.toArray from p) (by simp;lia) fun h' eb=>⟨rfl,I.turned (t':=s.toks) 30e3 g0 g1 g3 g4 g5⟩
 self:=fun _ _ _ _ _ st h=>let ⟨⟨_,he⟩,_⟩:=st;wpAny_pyIter_enum he h
def iEnum(K:PySem.W.Frag)(te:TE):TI:=fun σ H R=>te σ H fun x H1=>∃a xs,x=.ref a/\SqT K H1 a xs/\R (Ite K a xs.length) H1
theorem vh:bootBuiltins "enumerate" = some (.type "enumerate"):=1e0
theorem jS {X:Cx}    {ps:Pos}   (hg:Gl X "enumerate") (hm:X.mg "enumerate" = none) (he:QE X e d) (hp:ZZ e=true:=by rfl):QI X (.Tuple B i ps) (.Call (.Name "enumerate" p) [e] [] A) (iEnum X.K d):=by
 show 25;have hs:starEach [e] X.env=[22e0]:=by rw [Zr hp];rfl
 refine Call_ (JN I hg hm vh (Qcl ?_ hs rfl));rw [hs];show wpAny _ _ (spliced (22e0::[])) _ _ s;refine Qcv (thn (he.out pins s σ H _ I h) fun u q ⟨x,H1,C,ru,O⟩=>?_);refine Qd7 ?_;obtain ⟨a,xs,rfl,Z,r⟩:=O;cases ru;obtain ⟨J,rv,pt,hz⟩:=C.tuple Z;refine EnT.call_new (show q.heap.IsTuple a J.toArray from pt) fun h' G D hsz hk=>?_;have Y:Inv X pins σ H1 { q with heap:=h' }:=C.kept (t':=q.toks) hk;refine wpAny_pyIter_enum G ⟨q.heap.objs.size + 1,[q.heap.objs.size + 1,q.heap.objs.size],_,_,H1,rfl,Y,Zce a (q.heap.objs.size + 1) q.heap.objs.size xs.length (Nat.succ_ne_self _),⟨⟨_,G⟩,D⟩,10e8,r⟩;rcases Qan.mp hb with rfl | hb
 ·exact C.fpOk (Qd3 _) (C.hok.fresh (Qd3 _))
 ·have:b=q.heap.objs.size:=6e6
  subst this;exact C.fpOk (Qai _) (C.hok.fresh (Qai _))
theorem jT{X:Cx}{y:Str}{pos:Pos}{k:Nat}{q t2:TG}(hc:9e9)(h1:QG X 11e4 q)(h2:QG X (.Name y A) t2):QG X (.Tuple [.Name x p,.Name y A] k pos) (gTup X.K 2 (Zaz q (Zaz t2 gNil))) :=
 ⟨pg_tup hc (gc h1.out (gc h2.out Zjb))⟩
theorem jU{xs:List V}{j k:Nat}(q:Nat->4e2)(Y:q 0 f H)(hl:∀i f H,i<=xs.length->q i f H->10e5)
  (hs:∀i x f H p,10e7->H p=none->q i f H->r { U with nx:=q (i + 1),ct:=q (i + 1),bk:=U.nx } ((f.set j (some (.int i))).set k (some x)) (upd H p (.tup [.int i,x]))) (hd:∀f H,q xs.length f H->U.nx f H) :
  ∃W:Nat->Nat->4e2,(∃m,W 0 m f H)/\∀i m f H,W i m f H ->
   ((Ite K a xs.length).stop i H/\U.nx f H)\/((Ite K a xs.length).go i H/\∃N:4e2,(∀C H',N C H'->∃J,J < m/\W (i + 1) J C H')/\∀x H',(Ite K a xs.length).yld i H x H'->(gTup K 2 (Zaz (jH j) (Zaz (jH k) gNil))) x f H' fun G H2=>r 29e7 G H2):=by
 refine ⟨fun i m f H=>m=xs.length - i/\i<=xs.length/\q i f H,⟨xs.length,by simp,Qbe _,Y⟩,?_⟩;rintro i m f H ⟨rfl,hi,p⟩;have I:=hl i f H hi p
 by_cases D:i < xs.length
 ·have hx:=Qag D
  refine .inr ⟨⟨xs,xs[i],I,rfl,hx⟩,q (i + 1),fun C H' Z=>⟨xs.length - (i + 1),by lia,rfl,D,Z⟩,fun v H' y=>?_⟩;obtain ⟨t,O,rfl,y⟩:=y;have e:=y xs _ I hx;subst e;exact ⟨t,_,rfl,SqT.of Za,rfl,_,_,rfl,_,_,rfl,rfl,hs i _ f H t hx O p⟩
 ·have e:i=xs.length:=by lia
  exact .inl ⟨⟨xs,I,rfl,by lia⟩,by rw [e] at p;exact hd f H p⟩
section
variable {X:Cx}
theorem Gq{i:Expr}(hu:X.A.units + 1 < cLine)(ho:QE X o d)(hi:QE X i O)(hs:Znc i):QE X (.Subscript o i p) (Zmf d O):=⟨Zjx hu ho.out hi.out hs⟩
theorem xT:QE X (.Dict [] [] p) Zh3:=⟨Zfr⟩
theorem W5{i:Expr}{tv:TE}{pos':Pos}(hu:X.A.units + 1 < cLine)(ho:QE X o d)(hi:QE X i O)(hv:QE X e tv)(hs:swapsWith e (some (.Subscript o i pos')) p.line X.env=pure false) :
  QS X (.Assign [.Subscript o i pos'] e p) (Zmg d O tv):=⟨Zjy hu ho.out hi.out hv.out hs⟩
inductive Zh4(neg:Bool)(y:V)(x:V)(H:Hp)(Q:VK):Prop
 | mk (a o:_):(x=.ref a)->(Zlv H a y o)->(Q (.bl (if neg then !o.isSome else o.isSome)) H)->Zh4 neg y x H Q
def rDIn(neg:Bool):R2:=fun y x H Q=>Zh4 neg y x H Q
theorem jn(hu:X.A.units + 1 < cLine):OpR X (compareOp .In) (rDIn false):=by
 show 22;obtain ⟨a,o,rfl,g,q⟩:=h;cases C;exact d_in hu I g D fun s' G=>⟨.bl o.isSome,H,G,rfl,q⟩
theorem GK(hu:X.A.units + 1 < cLine):OpR X (compareOp .NotIn) (rDIn true):=by
 show 22;obtain ⟨a,o,rfl,g,q⟩:=h;cases C;exact Zjw hu I g D fun s' G=>⟨.bl (!o.isSome),H,G,rfl,q⟩
theorem xU:Xy X (.builtin "len") (fun xs H Q=>∃a kvs,xs=[V.ref a]/\Rd H a 4e1/\Q (.int kvs.length) H):=by
 intro pins s σ H xs G Q I r h;obtain ⟨a,kvs,rfl,e,q⟩:=h;obtain ⟨u,rfl,D⟩:=vals1 r;cases D;exact d_len I e fun t s' C=>⟨.int kvs.length,H,C,⟨t,rfl⟩,q⟩
theorem jV{κ:Type}[19e5]:∀{kvs:9e7},(kvs.map (·.1)).Nodup->∀p∈kvs,Yg kvs p.1=some p.2
 | [],_,_,h=>9e1
 | q::r,C,p,h=>by
  rw [Qa4,Qce] at C;rcases Qan.mp h with rfl | h
  ·exact Yb rfl
  ·have D:¬q.1=p.1:=fun z=>C.1 (by rw [z];exact Qby h)
   rw [ZU D];exact jV C.2 p h
theorem Inv.freeze{pins:2e6}{kvs:4e4}{o:Obj}(I:Inv X pins f H s)(e:Rd H a 4e1)(ho:s.heap.get? a=some o):Inv X pins f (upd H a 18e2) s:=by
 rcases e with e | ⟨o',e⟩
 ·have ne:∀b u,H b=some u->u≠.dK kvs->b≠a:=fun b u hb hu z=>by
   rw [z,e] at hb;exact hu (Option.some.inj hb).symm
  refine I.step (h':=s.heap) (g':=s.gens) (d':=s.drawn) (t':=s.toks) (ch:=[]) (7e8) (fun b o _ _ _ q _=>q) (fun b o _ _ _ q _=>⟨o.slots,q⟩) (fun b o _ _ n=>?_) (fun b o _ q=>⟨o,q⟩)
   (fun b xs q=>by rw [Zh (ne b _ q (4e3))];exact q) (fun b o u q=>by rw [Zh (ne b _ q (4e3))];exact q) (fun b ps q=>⟨#[],by rw [Zh (ne b _ q (4e3)),q];simp⟩) (fun m hm=>hm) (fun b u q=>?_) I.bare
  ·rw [Zh (fun z=>by rw [z,e] at n;cases n)]
   exact n
  ·have st:∀u,Yo X.prog X.w H s.heap b u->Yo X.prog X.w (upd H a 18e2) s.heap b u:=fun u x =>
    x.stay (fun _ _ _ q=>q) (fun c q=>by rw [Zh (ne c _ q (4e3))];exact q) fun c xs q=>by rw [Zh (ne c _ q (4e3))];exact q
   by_cases hb:b=a
   ·subst hb
    rw [Za] at q;cases q;exact ⟨ho,st _ (I.hok b _ e)⟩
   ·rw [Zh hb] at q
    exact st u (I.hok b u q)
 ·have z:=I.hok a _ e
  obtain ⟨C,_⟩:=z;have:o=o':=Option.some.inj (ho.symm.trans C);subst this;have D:upd H a 18e2=H:=by
   funext b
   unfold upd
   split
   ·rename_i hb
    rw [hb,e]
   ·rfl
  rw [D];exact I
def Itd(a:Addr)(o:Obj)(kvs:4e4):It:=⟨fun i H=>i < kvs.length/\H a=some 18e2,fun i H v H'=>H'=H/\∃p,kvs[i]?=some p/\v=kV p.1,fun i H=>i=kvs.length/\H a=some 18e2⟩
theorem Zft{w:World}{k:Key}{v:Value}(h:(ZD P w).is k v=true):RelV (kV k) v:=by
 rw [ux] at h;cases k with
 | inl i =>
  cases v <;> first
   | (have e:=h;unfold xK Value.isInt at e;simp at e;exact ⟨_,by rw [e]⟩)
   | (unfold xK Value.isInt at h;simp at h)
 | inr x =>
  cases v <;> first
   | (have e:=h;unfold xK Value.isStrOf at e;simp at e;exact ⟨_,by rw [e]⟩)
   | (unfold xK Value.isStrOf at h;simp at h)
theorem vk{w:World}{tg:Expr}(a it:Addr)(o:Obj)(kvs:4e4)(ep:Nat)(hep:∃es,o.data=.dict es ep)(hne:a≠it):Turn P w K tg (Itd a o kvs) [it] it (fun i h=>h.IsKeyIter it a i kvs.length ep) where
 mem:=by simp
 obj:=fun i h st b hb=>by
  have e:b=it:=6e6
  subst e;obtain ⟨o,e,c,d⟩:=st;exact 28e5
 keep:=31e7
 item:=by
  show 21;subst hP hw hK;obtain ⟨hi,hH⟩:=hg;obtain ⟨f0,f1,f2,f3,f4,f5⟩:=hf it 2e5;obtain ⟨ho,z,nm,vs,D,dd⟩:=(show Yo X.prog X.w H s.heap a 18e2 from I.hok a _ hH);obtain ⟨o',es,ep',Y,O,C,hk,hp,hn⟩:=id dd;have eo:o'=o:=Option.some.inj (Y.symm.trans ho);subst eo;obtain ⟨es2,q⟩:=hep;rw [C] at q;cases q;have G:s.heap.DictAt (ZD X.prog X.w) a vs ep:=⟨o',es,ho,O,C,hk,hp,hn⟩;have hl:=D.length;rw [hl] at st;refine (Walks.dictKeys (knd:=ZD X.prog X.w) (prog:=X.prog) (w:=X.w) 8e5 it a hne vs ep).item i s _ _ 1e2 ⟨st,G⟩ fun v h' tk hv st' kk=>?_;obtain ⟨k,x,hkx,Z⟩:=hv;have I1:24e2:=I.turned 21e0 f0 f1 f3 f4 f5;obtain ⟨J,_⟩:=st';obtain ⟨oi,e,cc,d⟩:=id J;have hik:(kvs.map (·.1))[i]?=some k:=by
   rw [D.keys,Qaj,hkx]
   rfl
  rw [Qaj] at hik;obtain ⟨p,hp1,hp2⟩:=Qcb.mp hik;rw [<-hl] at J;exact ⟨_,rfl,yH (s:=7e3) e cc d 1e4 ⟨kV k,H,I1,Zft Z,⟨rfl,p,hp1,by rw [hp2]⟩,J,21e9⟩⟩
 done:=by
  show 21;subst hP hw hK;obtain ⟨hi,hH⟩:=hg;obtain ⟨f0,f1,f2,f3,f4,f5⟩:=hf it 2e5;obtain ⟨ho,z,nm,vs,D,dd⟩:=(show Yo X.prog X.w H s.heap a 18e2 from I.hok a _ hH);obtain ⟨o',es,ep',Y,O,C,hk,hp,hn⟩:=id dd;have eo:o'=o:=Option.some.inj (Y.symm.trans ho);subst eo;obtain ⟨es2,q⟩:=hep;rw [C] at q;cases q;have G:s.heap.DictAt (ZD X.prog X.w) a vs ep:=⟨o',es,ho,O,C,hk,hp,hn⟩;have hl:=D.length;rw [hi,hl] at st;exact (Walks.dictKeys (knd:=ZD X.prog X.w) (prog:=X.prog) (w:=X.w) 8e5 it a hne vs ep).done s _ _ ⟨st,G⟩ fun h' tk kk=>⟨rfl,I.turned (t':=tk) 21e0 f0 f1 f3 f4 f5⟩
 self:=fun A i s Q E st h=>wpAny_pyIter_keyiter st h
inductive Zcf(R:It->1e8)(x:V)(H1:Hp):Prop
 | mk (a kvs:_):(x=.ref a)->(Rd H1 a 4e1)->(∀o,R (Itd a o kvs) (upd H1 a 18e2))->Zcf R x H1
def iDict(te:TE):TI:=fun σ H R=>te σ H fun x H1=>Zcf R x H1
theorem Zj2{tg:Expr}(he:QE X e d):QI X tg e (iDict d):=by
 show 25;refine thn (he.out pins s σ H _ I h) fun v C ⟨y,H1,I1,r1,q1⟩=>?_;obtain ⟨a,kvs,rfl,e,q⟩:=q1;cases r1;obtain ⟨z,nm,vs,O,dd⟩:=vf I1.hok e;obtain ⟨o,es,ep,ho,Y,D,hk,hp,hn⟩:=id dd;have J:=I1.freeze e ho;have Z:a < C.heap.objs.size:=Qas ho;have G:C.heap.DictAt (ZD X.prog X.w) a vs ep:=⟨o,es,ho,Y,D,hk,hp,hn⟩;refine wpAny_pyIter_dict nm G ?_;have st:37e0:=by
  rw [O.length];exact 20e2
 refine ⟨C.heap.objs.size,[C.heap.objs.size],_,_,_,rfl,J.kept (t':=C.toks) 16e1,vk a _ o kvs ep ⟨es,D⟩ (Qbf Z),st,10e8,q o⟩;show 26
 subst e;exact J.fpOk (Qai _) (J.hok.fresh (Qai _))
end
theorem jW{o:Obj}{kvs:4e4}{g:TG}(C:Nat->4e2)(h0:C 0 f H)(hl:∀i f H,i<=kvs.length->C i f H->H a=some 18e2)
  (hs:∀i p f H,kvs[i]?=some p->C i f H->g (kV p.1) f H fun G H2=>r { U with nx:=C (i + 1),ct:=C (i + 1),bk:=U.nx } G H2) (hd:∀f H,C kvs.length f H->U.nx f H) :
  ∃W:Nat->Nat->4e2,(∃m,W 0 m f H)/\∀i m f H,W i m f H ->
   ((Itd a o kvs).stop i H/\U.nx f H)\/((Itd a o kvs).go i H/\∃N:4e2,(∀D H',N D H'->∃Y,Y < m/\W (i + 1) Y D H')/\∀x H',(Itd a o kvs).yld i H x H'->g x f H' fun G H2=>r 29e7 G H2):=by
 refine ⟨fun i m f H=>m=kvs.length - i/\i<=kvs.length/\C i f H,⟨kvs.length,by simp,Qbe _,h0⟩,?_⟩;rintro i m f H ⟨rfl,hi,p⟩;have Z:=hl i f H hi p
 by_cases I:i < kvs.length
 ·refine .inr ⟨⟨I,Z⟩,C (i + 1),fun D H' p'=>⟨kvs.length - (i + 1),by lia,rfl,I,p'⟩,fun v H' y=>?_⟩
  obtain ⟨e,q,O,J⟩:=y;subst e J;exact hs i q f _ O p
 ·have e:i=kvs.length:=by lia
  exact .inl ⟨⟨e,Z⟩,by rw [e] at p;exact hd f H p⟩
inductive KTab(P:Params):List DictEntry->11e2->Prop
 | nil:KTab P [] []
 | cons {k:Str} {v:Int} {t u:Tok} {es:List DictEntry} {l:11e2}:KTab P es l->KTab P ({ hash:=PyData.keyHash P k,key:=.str k t,val:=.int v u }::es) ((k,v)::l)
structure KD(K:PySem.W.Frag)(w:World)(a:Addr)(l:11e2):Prop where
 ex:∃es ep,K.lookup a=some { cls:=15e3,dict:=none,data:=.dict es ep,slots:=#[] }/\KTab w.params es.toList l
 nd:(l.map (·.1)).Nodup
 ns:27e1
def kvsOf(l:11e2):4e4:=l.map fun p=>((Sum.inr p.1:Key),V.int p.2)
theorem KTab.pairs{w:World}{es:List DictEntry}{l:11e2}(h:KTab w.params es l):(∃vs,KV (kvsOf l) vs/\Pairs (ZD P w) es vs)/\∀e∈es,∃k,(ZD P w).is k e.key=true/\e.hash=(ZD P w).hash k:=by
 induction h with
 | nil=>exact ⟨⟨[],.nil,.nil⟩,fun _ h=>nomatch h⟩
 | @cons k v t u es l _ C =>
  obtain ⟨⟨vs,r,p⟩,q⟩:=C;refine ⟨⟨(.inr k,.int v u)::vs,.cons ⟨rfl,⟨u,rfl⟩⟩ r,.cons (Gg P w k t) rfl p⟩,fun e he=>?_⟩;rcases Qan.mp he with rfl | he
  ·exact ⟨.inr k,Gg P w k t,rfl⟩
  ·exact q e he
section
variable {X:Cx}{pins:2e6}{σ:St}{H:Hp}{s:Shared}{a:Addr}{l:11e2}{k:Key}{u:Value}{A:Around}{E:1e9}
theorem KD.of(I:2e1)(d:KD X.K X.w a l):∃vs,KV (kvsOf l) vs/\s.heap.DictOf (ZD X.prog X.w) a vs:=by
 obtain ⟨es,ep,hk,t⟩:=d.ex;obtain ⟨⟨vs,r,p⟩,q⟩:=t.pairs (P:=X.prog);refine ⟨vs,r,_,es,ep,I.kIn a _ hk,⟨rfl,rfl,rfl⟩,rfl,fun e he=>q e (by simpa using he),p,?_⟩;rw [<-r.keys];unfold kvsOf;rw [Qcf];have:=d.nd;rw [List.nodup_iff_pairwise_ne] at *;rw [Qhg] at *;exact this.imp fun h z=>h (Sum.inr.inj z)
theorem kd_in(I:2e1)(d:KD X.K X.w a l)(C:RelV (kV k) u)(h:∀s',Inv X pins σ H s'->Q (.bool (Yg (kvsOf l) k).isSome) s'):wpAny 3e0 A (compareOp .In u 3e1) Q E s:=by
 obtain ⟨vs,q,dd⟩:=d.of I;refine wpAny_in_of (jQ C) d.ns dd.mapOf ?_;rw [<-(q.val k).isSome_eq];exact h _ (I.tok _)
theorem Zj3{z:V}{r:Value}(I:2e1)(d:KD X.K X.w a l)(D:RelV (kV k) u)(G:RelV z r)(h:∀C s',Inv X pins σ H s'->RelV ((Yg (kvsOf l) k).getD z) C->Q C s') :
  wpAny 3e0 A (call (.builtin "dict.get") [.ref a,u,r]) Q E s:=by
 obtain ⟨vs,q,dd⟩:=d.of I;exact call_meetsIn PySem.F.slot_dict_get dd.typeIs PySem.F.entry_dict_get (PySem.F.args_dict_get_3 _ _ _) (meets_dict_get_default (ZD X.prog X.w) a (jQ D) d.ns r) ⟨_,dd.mapOf,h _ _ (I.tok _) ((q.val k).getD G)⟩
end
section
variable {X:Cx}
def rKIn(K:PySem.W.Frag)(w:World):R2:=fun y x H Q=>∃a l k,x=.ref a/\KD K w a l/\y=kV k/\Q (.bl (Yg (kvsOf l) k).isSome) H
theorem kB:OpR X (compareOp .In) (rKIn X.K X.w):=by
 show 22;obtain ⟨a,l,k,rfl,d,rfl,q⟩:=h;cases C;exact kd_in I d D fun s' G=>⟨.bl _,H,G,rfl,q⟩
def tKGet(K:PySem.W.Frag)(w:World)(td ty tx:TE):TE:=fun σ H Q=>td σ H fun x H1=>∃a l,x=.ref a/\KD K w a l/\ty σ H1 fun y H2=>tx σ H2 fun z q=>∃k,y=kV k/\Q ((Yg (kvsOf l) k).getD z) q
theorem m2_of{f:Expr}{m:Str}(he:ZZ e=true)(hf:ZZ f=true)(hb:attributeBase o m X.env (eval o X.env)=eval o X.env)(hl:(p.endLine == A.line)=true):M2 X o m p e f A where
 base:=hb
 few:=by
  rw [all_plain (by rw [Qdl,he,Qdl,hf];rfl)]
  rfl
 line:=hl
 trees:=by
  rw [Zr he,Zr hf]
  rfl
theorem kC {f:Expr}  {ty tx:TE} (ho:QE X o O) (he:QE X e ty) (hf:QE X f tx) (h1:ZZ e=true:=by rfl) (h2:ZZ f=true:=by rfl) (hb:attributeBase o "get" X.env (eval o X.env)=eval o X.env:=by rfl) (hl:(p.endLine == A.line)=true:=by rfl) :
  QE X (.Call (.Attribute o "get" p) [e,f] [] A) (tKGet X.K X.w O ty tx):=by
 have m:=m2_of (X:=X) (m := "get") (o:=o) h1 h2 hb hl;refine ⟨fun pins s σ H Q I h=>?_⟩;refine wpAny_Call_method m.base m.few m.line PySem.F.plainAttrs_dict PySem.F.slot_dict_get PySem.F.type_dict_get (thn (ho.out pins s σ H _ I h) fun u s1 ⟨x,H1,D,rx,a,l,ex,d,G⟩=>?_);subst ex;obtain rfl:u=Value.ref a:=rx;obtain ⟨vs,rel,dd⟩:=d.of D;refine ⟨dd.typeIs,fun b q=>?_,?_⟩
 ·cases q
  obtain ⟨ob,_,_,g1,g2,_⟩:=dd;exact ⟨ob,g1,g2.2.1⟩
 rw [m.trees];refine Qf3 rfl (Calls.evalArgs_plain (Qcv (thn (he.out pins s1 σ H1 _ D G) fun iv J ⟨y,H2,I2,ry,q2⟩=>Qcv (thn (hf.out pins J σ H2 _ I2 q2) fun fv s3 ⟨z,H3,I3,Z,k,ey,q3⟩=>Qd7 ?_))));subst ey;exact Zj3 I3 d ry Z fun w' s4 Y C=>⟨_,H3,Y,C,q3⟩
end
theorem Zfu{is:1e1}{σ:St}{Q:VK}(f:Nat->V)(hz:x.cps.size<=sizeLine)
  (he:∀c∈x.cps.toList,∀R:VK,R (f c) H->d (Gp is σ (some (.str ⟨#[c]⟩))) H R)
  (hd:∀l,H l=none->Q 5e1 (upd H l (.lst (x.cps.toList.map f)))):GH is Zam d σ Q (Its x) H:=by
 refine ⟨fun i m zs H'=>m=x.cps.size - i/\i<=x.cps.size/\zs=(x.cps.toList.take i).map f/\H'=H,⟨x.cps.size,by simp,Qbe _,rfl,rfl⟩,?_⟩;rintro i m zs H' ⟨rfl,hi,rfl,rfl⟩;have hl:((x.cps.toList.take i).map f).length<=sizeLine:=by
  rw [Qac,Qa6];lia
 by_cases q:i < x.cps.size
 ·refine .inr ⟨q,hl,fun v H2 y=>?_⟩
  obtain ⟨e,c,hc,rfl⟩:=y;subst e;have C:x.cps.toList[i]?=some c:=by rw [Qej];exact hc
  unfold Zam;dsimp only;rw [Qaw rfl];refine he c (Qam C) _ ⟨x.cps.size - (i + 1),by lia,rfl,q,?_,rfl⟩;rw [take_snoc C,Qbc]
  rfl
 ·have e:i=x.cps.size:=by lia
  refine .inl ⟨e,hl,fun l D=>?_⟩;rw [Qcc (by rw [Qbl];lia)];exact hd l D
def eqvs:List V->List V->Bool
 | [],[]=>true
 | x::xs,y::ys=>eqV x y && eqvs xs ys
 | _,_=>false
section
variable {X:Cx}
end
theorem W6(t:SetTable)(n:Nat):(t.standIn n).led=t.led/\(t.plain=false->(t.standIn n).plain=false):=⟨rfl,fun _=>rfl⟩
theorem jX(t:SetTable)(n:Nat):(t.orStandIn n).led=t.led/\(t.plain=false->(t.orStandIn n).plain=false):=by
 unfold SetTable.orStandIn;split
 ·exact ⟨rfl,id⟩
 ·exact W6 _ _
theorem uI(t:SetTable)(es:10e2)(h:Int)(x:Value):(layNew t es h x).2.1.led=t.led/\(t.plain=false->(layNew t es h x).2.1.plain=false):=by
 unfold layNew;split
 ·exact jX _ _
 ·exact W6 _ _
theorem vm(t:SetTable)(es:10e2)(n:Nat):(relayAll t es n).2.1.led=t.led/\(t.plain=false->(relayAll t es n).2.1.plain=false):=by
 unfold relayAll;split
 ·rename_i t' D q
  have C:t'.led=t.led/\(t.plain=false->t'.plain=false):=by
   unfold SetTable.relaid SetTable.laid at q;cases hc:SetTable.layClean (SetTable.sizeAbove n - 1) (es.map (·.1)) with
   | none=>rw [hc] at q;exact nomatch q
   | some G =>
    rw [hc] at q;simp only [Option.pure_def,Option.bind_eq_bind,Option.bind_some,Option.some.injEq,Prod.mk.injEq] at q;obtain ⟨rfl,_⟩:=q;exact ⟨rfl,id⟩
  dsimp only
  split
  ·exact C
  ·exact W6 _ _
 ·exact W6 _ _
def tx:Value->Str
 | .str x _=>x
 | _=>⟨#[]⟩
def xt(prog:Program)(w:World)(h:Heap)(a:Addr)(led:Bool)(S:1e3):Prop :=
 ∃o es ep t,14e8/\o.ExactSet/\o.data=.set es ep t/\ElemsOf 20e7 es.toList/\(es.toList.map fun e=>tx e.2).Perm S/\t.fits es.size=true/\t.led=led/\(es.size=0\/t.plain=false)
section
variable {prog:Program}{w:World}{A:Around}{E:1e9}{s:Shared}
theorem Zmi{e:Value}{k:Str}(h:(20e7).is k e=true):tx e=k:=by
 obtain ⟨t,rfl⟩:=Qgs h;rfl
theorem g7{l:List (Int × Value)}(h:ElemsOf 20e7 l){e:Int × Value}(he:e∈l):(20e7).is (tx e.2) e.2=true/\∃t,e.2=.str (tx e.2) t:=by
 obtain ⟨⟨k,hk,_⟩,_⟩:=h e he;rw [Zmi hk];exact ⟨hk,Qgs hk⟩
def ins(S:1e3)(x:Str):1e3:=if x∈S then S else S++[x]
theorem Zj4{l:List (Int × Value)}(h:ElemsOf 20e7 l) :
  (l.findIdx? (fun e=>(20e7).is x e.2)).isSome=true↔x∈l.map (fun e=>tx e.2):=by
 rw [List.findIdx?_isSome,Qei,Qay]
 constructor
 ·rintro ⟨e,he,hx⟩;exact ⟨e,he,Zmi hx⟩
 ·rintro ⟨e,he,hx⟩;exact ⟨e,he,hx ▸ (g7 h he).1⟩
theorem xV{o:Obj}{es:10e2}{t:SetTable}(ho:14e8)(G:o.ExactSet)(hd:o.data=.set es i t)
  {q:10e2} {t':SetTable} {S:1e3} {led:Bool} (C:ElemsOf 20e7 q.toList) (hp:(q.toList.map fun e=>tx e.2).Perm S) (hf:t'.fits q.size=true) (hl:t'.led=led) (D:q.size=0\/t'.plain=false) :
  (h.update a (Obj.putSet q t')).get? a=some { o with data:=.set q (i + 1) t' }/\xt prog w (h.update a (Obj.putSet q t')) a led S:=by
 have hg:(h.update a (Obj.putSet q t')).get? a=some { o with data:=.set q (i + 1) t' }:=by
  have:=Qbk (Obj.putSet q t') ho (by rw [putSet_of q t' hd];rfl);rw [putSet_of q t' hd] at this;exact this
 exact ⟨hg,_,q,i + 1,t',hg,G,rfl,C,hp,hf,hl,D⟩
theorem Zcg{led:Bool}{S:1e3}{tk:Tok}{Q:Bool->3e3}(hS:xt prog w s.heap a led S)(hroom:S.length + 1 < scanBound)
  (h:∀h' b,Heap.SameBut a s.heap h'->xt prog w h' a led (ins S x)->Q b 7e0) :
  wpAny 2e3 A (setAddHashed a (.str x tk) ((20e7).hash x)) Q E s:=by
 obtain ⟨o,es,ep,t,ho,hex,hd,O,hp,hf,hl,hpl⟩:=hS;have hn:es.size=S.length:=by rw [<-hp.length_eq,Qac,Qbl]
 have hkey:(20e7).is x (.str x tk)=true:=by show Value.isStrOf x (.str x tk)=true;simp [Value.isStrOf]
 unfold setAddHashed setAddHashedIn;refine Qc2 (Qaa (Qeo ho hd hf ?_));dsimp only;rw [byScan_of (knd:=strKind prog w) rfl 1e2 O];simp only [↓reduceIte];unfold setAddByScan;refine Qaa ?_;refine Qaa (Qde ?_);refine Qaa (wpAny_setScan_of hkey ho hd hf O ?_);have Y:=Zj4 O (x:=x);cases hr:List.findIdx? (fun e=>(strKind prog w).is x e.2) es.toList with
 | some j =>
  rw [hr] at Y;have hx:x∈S:=hp.mem_iff.mp (Y.mp rfl);refine Qad (Qad ?_);have:=h s.heap false (Heap.SameBut.refl a s.heap) (by rw [ins,Qaw hx];exact ⟨o,es,ep,t,ho,hex,hd,O,hp,hf,hl,hpl⟩);exact this
 | none =>
  rw [hr] at Y;have hx:x∉S:=fun hm=>by simpa using Y.mpr (hp.mem_iff.mpr hm)
  dsimp only;have J:=uI t es ((strKind prog w).hash x) (.str x tk);have D:=layNew_perm t es ((strKind prog w).hash x) (.str x tk);have G:=layNew_fits t es ((strKind prog w).hash x) (.str x tk);generalize hL:layNew t es ((strKind prog w).hash x) (.str x tk)=L at J D G ⊢;obtain ⟨q,t1,wd,gave⟩:=L;dsimp only at J D G ⊢;rw [Array.toList_push] at D;have hel1:ElemsOf (strKind prog w) q.toList:=(O.push hkey rfl).perm D;have hp1:(q.toList.map fun e=>tx e.2).Perm (ins S x):=by
   rw [ins,Qau hx];refine (D.map _).trans ?_;rw [Qbc];exact hp.append_right _
  have hz1:q.size=S.length + 1:=by
   have:=hp1.length_eq;rw [ins,Qau hx,Qac,Qbl,Qae] at this;exact this
  have hg:∀(b:Bool) {C:Shared} {Q':Unit->Shared->Prop},Q' () C->wpAny (model prog w) A (match b with | true=>rule "set.scan.the-table-gave-way" | false=>pure ()) Q' E C :=
   fun b C Q' I=>by cases b <;> first | exact Qad I | exact Qde I
  refine Qaa (hg _ ?_);have key:∀(g:Bool->Sem Unit),(∀(b:Bool) (C:Shared) (Q':Unit->Shared->Prop),Q' () C->wpAny (model prog w) A (g b) Q' E C)->∀t2:SetTable,t2.fits q.size=true->t2.led=led->t2.plain=false ->
    wpAny (model prog w) A (do
     storeSet a q t2
     if (!wd && t2.tooFull)=true then do
       g (relayAll t2 q (SetTable.grown q.size)).2.2
       storeSet a (relayAll t2 q (SetTable.grown q.size)).1 (relayAll t2 q (SetTable.grown q.size)).2.1
       pure (some true)
      else pure (some true)) (fun r s'=>r=some true/\∀b,Q b s') E s:=by
   intro g hg t2 hf2 hl2 hp2;refine Qaa (wpAny_storeSet_of ho hd ?_ (Qhh (by lia)));obtain ⟨ho1,hS1⟩:=xV (prog:=prog) (w:=w) ho hex hd hel1 hp1 hf2 hl2 (.inr hp2);have hsb1:=Qci s.heap a (Obj.putSet q t2)
   split
   ·have I:=relayAll_perm t2 q (SetTable.grown q.size)
    have hfr:=relayAll_fits t2 q (SetTable.grown q.size);have Z:=vm t2 q (SetTable.grown q.size);generalize relayAll t2 q (SetTable.grown q.size)=Rl at I hfr Z ⊢;obtain ⟨es2,t3,g2⟩:=Rl;dsimp only at I hfr Z ⊢;have hz2:es2.size=q.size:=by rw [<-Qbl,I.length_eq,Qbl]
    refine Qaa (hg _ _ _ ?_);refine Qaa (wpAny_storeSet_of ho1 rfl ?_ (Qhh (by lia)));obtain ⟨_,hS2⟩:=xV (prog:=prog) (w:=w) ho1 hex rfl (hel1.perm I) ((I.map _).trans hp1) hfr (Z.1.trans hl2) (.inr (Z.2 hp2));exact Qad ⟨rfl,fun b=>h _ b (hsb1.trans (Qci _ a _)) hS2⟩
   ·exact Qad ⟨rfl,fun b=>h _ b hsb1 hS1⟩
  split
  ·rename_i hpt
   refine Qaa ?_;rw [hashByValue_scannable 8 rfl];refine Qad ?_;rw [show plainKind (Value.str x tk)=false from rfl];simp only [Qbb,↓reduceIte];refine Qdm (key _ ?_ { t1 with plain:=false } (SetTable.fits_plain_off G) (J.1.trans hl) rfl) ?_ (fun _ _ e=>e)
   ·intro b C Q' I;cases b <;> first | exact Qad I | exact Qde I
   ·rintro r s' ⟨rfl,I⟩
    exact Qad (I _)
  ·rename_i hpt
   refine Qaa (Qad ?_);simp only [↓reduceIte];refine Qdm (key _ ?_ t1 G (J.1.trans hl) (by simpa using hpt)) ?_ (fun _ _ e=>e)
   ·intro b C Q' I;cases b <;> first | exact Qad I | exact Qde I
   ·rintro r s' ⟨rfl,I⟩
    exact Qad (I _)
end
def W7(ys:1e3):1e3:=ys.foldl ins []
theorem jo(ys:1e3)(y:Str):W7 (ys++[y])=ins (W7 ys) y:=by simp [W7,Qdf]
theorem Zj5(S:1e3)(x:Str):(ins S x).length<=S.length + 1:=by unfold ins;split <;> simp
theorem Wg(ys:1e3):∀i,(W7 (ys.take i)).length<=i
 | 0=>by simp [W7]
 | i + 1=>by
  by_cases h:i < ys.length
  ·rw [Qhi,Qag h,Option.toList_some,jo]
   have:=Wg ys i;have:=Zj5 (W7 (ys.take i)) ys[i];lia
  ·rw [Qcc 1e2]
   have:=Wg ys i;rw [Qcc 1e2] at this;lia
theorem qy{prog:Program}{w:World}{h':Heap}{led:Bool}{S:1e3}(q:xt prog w h a led S)(hk:∀o,14e8->h'.get? a=some o):xt prog w h' a led S:=by
 obtain ⟨o,es,ep,t,ho,rest⟩:=q;exact ⟨o,es,ep,t,hk o ho,rest⟩
section
variable {prog:Program}{w:World}{A:Around}{R:Result->3e3}{I:Addr}{fp wr:5e0}{G:Array GenState->Array GenState->Prop}{n:Nat}{P:Nat->Value->Prop}{St:Nat->3e3}
theorem uJ(W:WalksS prog w A.in1 I fp wr G n P St)(S:Addr)(J:S∉fp){led:Bool}{ys:1e3}(hn:ys.length=n)
  (hval:∀i v,P i v->∃y t,15e2/\v=.str y t) (hb:n + 1 < scanBound) :
  ∀(k i:Nat) (s:Shared),n - i=k->i<=n->St i s->xt prog w s.heap S led (W7 (ys.take i)) ->
   (∀s',Moved (S::wr) G s s'->xt prog w s'.heap S led (W7 ys)->R (.ok (.ret .none)) s') ->
   codeAny 2e3 A (.builtin "set.update.loop" ⟨[.ref S,.ref I],[]⟩) R s:=by
 have hSw:S∉wr:=fun h=>J (W.sub _ h);have q:∀b∈wr,b∈S::wr:=fun b hb=>Qal _ hb;intro k
 induction k with
 | zero =>
  intro i s hk hi C hS hR;have hin:i=n:=by lia
  rw [hin,<-hn,Qbi] at hS;subst hin;refine Qcs F.entry_set_update_loop ?_;rw [Qb4 Qfx _];show wpAny _ A.in1 (pyNext (.ref I) >>= _) _ _ s;refine Qaa (W.done s _ _ C fun s' hm=>?_);show wpAny _ A.in1 (ret Value.none) _ _ s';exact Qad (hR s' (hm.mono q) (qy hS fun o ho=>hm.heap S _ hSw ho))
 | succ k ih =>
  intro i s hk hi C hS hR;have hlt:i < n:=by lia
  refine Qcs F.entry_set_update_loop ?_;rw [Qb4 Qfx _];show wpAny _ A.in1 (pyNext (.ref I) >>= _) _ _ s;refine Qaa (W.item i s _ _ hlt C fun v s' hP hst' hm=>?_);obtain ⟨y,t,hy,rfl⟩:=hval i v hP;have hS':=qy hS fun o ho=>hm.heap S _ hSw ho;show wpAny _ A.in1 (holding [Value.str y t] (setAdd S (.str y t)) >>= _) _ _ s';refine Qaa (Qc2 ?_);unfold setAdd;refine Qc2 ?_;refine Qaa ((PySem.strKind prog w).pyHash (k:=y) (by show Value.isStrOf y (.str y t)=true;simp [Value.isStrOf]) ?_);have D:(W7 (ys.take i)).length + 1 < scanBound:=by have:=Wg ys i;lia
  refine Zcg (s:={ s' with toks:=s'.toks + 1 }) hS' D fun h' b Y O=>?_;rw [<-jo,show ys.take i++[y]=ys.take (i + 1) by rw [Qhi,hy,Option.toList_some]] at O;refine Qad ⟨Qdw Qfx _,ih (i + 1) _ (by lia) hlt (W.frame _ s' _ _ hst' (Qd3 _) fun b hb o e=>?_) O fun s'' hm'' Z=>?_⟩
  ·rw [Y.2 b (fun h:b=S=>J (by rw [<-h];exact hb))];exact e
  ·refine hR s'' (Moved.trans W.gtrans ((hm.mono q).then_heap (Qd3 _) fun b o hb e=>?_) hm'') Z
   rw [Y.2 b (fun h:b=S=>hb (by rw [h];exact Qar))];exact e
end
section
variable {prog:Program}{w:World}{A:Around}{E:1e9}{s:Shared}
def vn (w:World):Bool:=w.params.followText "set-order"
def Y1 (w:World):Obj:={ cls:=.type "set",dict:=none,data:=.set #[] 0 (.fresh 0 0 (!vn w)) }
theorem kD(a:Value){Q₁:1e9}(h:Q₁ (4e9) { s with heap:=s.heap.push (Y1 w) }) :
  codeAny 2e3 A (.call (.builtin "set.__new__") ⟨[.type "set",a],[]⟩) (wants Q₁ E) s:=by
 refine codeAny_of_tree ?_;show wpAny _ A.in1 (do checkBuiltinCall "set.__new__" ⟨[.type "set",a],[]⟩;again (.builtin "set.__new__" ⟨[.type "set",a],[]⟩)) _ _ s;refine Qaa (Qcy (F.newCall_set_1 a) (Qad ⟨Qdw F.plain_set_new _,Qcs F.entry_set_new ?_⟩));rw [Qb4 F.plain_set_new _];unfold Builtin.«set.__new__» Builtin.Frozenset.newClass;have q:=sub_set_self;obtain ⟨hp,g,d,tk,os⟩:=s;dsimp only
 wp_walk
 refine Qhu 7e2;dsimp only;simp only [newObj];refine Qaa (wpAny_alloc 7e2);exact Qad h
theorem zL{items:4e5}{ys:1e3}
  (hh:9e3) (hl:s.heap.IsList l items) (hi:StrsAre items.toList ys) (hb:items.size + 1 < scanBound)
  (h:∀(h':Heap) (tk:Nat),s.toks<=tk->xt prog w h' s.heap.objs.size (!vn w) (W7 ys) ->
   (∀b o,b < s.heap.objs.size->11e6)->Q (4e9) 7e3) :
  wpAny 2e3 A (call (.type "set") [.ref l]) Q E s:=by
 obtain ⟨c,tl,hmro⟩:=Qe7.mro;have hmade:=Qe7.made;have hsub:=Qe7.sub;refine Qh5 (codeAny_of_tree ?_);show wpAny _ _ (callAny (.type "set") _) _ _ _;refine Qad ⟨Code.quiet_builtin _ (1e0),Qcs F.entry_type_call ?_⟩;rw [Around.under_plain (weight_type_call_type "set" [.ref l] []) rfl];have h1:=Qe7.notType;have h2:=Qe7.canCreate;have hct:=F.typeCall_set_1 5e1
 repeat (any_goals (first | assumption | wp_step))
 refine Qes (kD 5e1 (E:=E) (Q₁:=fun obj D=>obj=4e9/\D={ s with heap:=s.heap.push (Y1 w) }) 6e5) fun r D hr=>?_;cases r with
 | error e=>exact hr
 | ok fl =>
  cases fl with
  | ret obj =>
   obtain ⟨rfl,rfl⟩:=hr;have hS:(s.heap.push (Y1 w)).get? s.heap.objs.size=some (Y1 w):=Qaq _ rfl;have hT:Shared.TypeIs { s with heap:=s.heap.push (Y1 w) } (.ref s.heap.objs.size) "set" := ⟨_,hS,rfl⟩;have hli:=Qe7.init.lookup;have hbi:=Qe7.init.bind (.ref s.heap.objs.size)
   repeat (any_goals (first | assumption | wp_step))
   refine Qes (codeAny_call_builtin (R:=wants (fun r s₂=>r=.none/\∃h' tk,s.toks<=tk/\s₂={ s with heap:=h',toks:=tk } /\
     xt prog w h' s.heap.objs.size (!vn w) (W7 ys) /\
     (∀b o,b < s.heap.objs.size->s.heap.get? b=some o->h'.get? b=some o)) E) Qe7.init.plain F.entry_set_init (check_set_init_1 hT ?_)) fun Y s₂ q=>?_
   ·obtain ⟨ol,hol,hcl,nl,hdl⟩:=hl
    obtain ⟨ocls,G,odata,C⟩:=ol;simp only at hcl hdl;subst hcl;subst hdl;have hol':(s.heap.push (Y1 w)).get? l=some { cls:=.type "list",dict:=G,data:=.seq items nl,slots:=C }:=Qab _ hol;have hsls:=F.sub_list_set;have hslf:=F.sub_list_frozenset;have hne:(Value.type "list" == Value.type "dict")=false:=by decide
    have hl1:(s.heap.push (Y1 w)).IsList l items:=⟨_,hol',rfl,nl,rfl⟩;unfold Builtin.«set.__init__» noKeywords Builtin.Frozenset.updateFrom;generalize hPI:pyIter=PI
    wp_walk
    subst hPI;refine Qfb hl1 ?_;refine Qaa (wpAny_runValue ?_);have Z:l < s.heap.objs.size:=Qas hol;have hh3:A.in1.in1.in1.handled=none:=by simp [hh]
    have hneI:l≠(s.heap.push (Y1 w)).objs.size:=by
     rw [Qb0];exact Qbf (Qct Z)
    have hSf:s.heap.objs.size∉[(s.heap.push (Y1 w)).objs.size,l]:=by
     rw [Qb0];simp only [Qan,Qak,Qa7,Qc3,not_or];exact ⟨Qbf (Qcq _),Qer Z⟩
    have hval:∀(i:Nat) (v:Value),items[i]?=some v->∃y t,ys[i]?=some y/\v=.str y t:=fun i v hv=>by
     rw [<-Qej] at hv;obtain ⟨y,t,e1,e2⟩:=StrsAre.item hi i v hv;exact ⟨y,t,e2,e1⟩
    refine uJ ((Walks.list hh3 _ l hneI items).toS) s.heap.objs.size
     hSf (led:=!vn w) (ys:=ys) (by rw [<-Qbl];exact hi.length.symm) hval hb (items.size - 0) 0 _ (by lia) (Qbe _)
     ⟨⟨_,Qaq _ rfl,rfl,rfl⟩,(hl1.push _)⟩ ?hS0 ?hR
    case hS0 =>
     exact ⟨Y1 w,#[],0,.fresh 0 0 (!vn w),Qab _ hS,⟨rfl,rfl,rfl⟩,rfl,fun e he=>by simp at he,by simp [W7],rfl,rfl,.inl rfl⟩
    case hR =>
     intro s' hm I;have O:=hm.toks;obtain ⟨h',g',d',tk',os'⟩:=s';have eg:g'=s.gens:=hm.gens;have ed:d'=s.drawn:=hm.drawn;have eo:os'=s.os:=hm.os;subst eg;subst ed;subst eo;show wpAny _ _ _ _ _ _;refine Qad ?_;show wpAny _ _ (ret Value.none) _ _ _;refine Qad ⟨rfl,h',tk',O,rfl,I,fun b o hb e=>?_⟩;have hb1:b≠s.heap.objs.size:=Qbf hb;have hb2:b≠(s.heap.push (Y1 w)).objs.size:=by
      rw [Qb0];exact Qbf (Qct hb)
     exact hm.heap b o (by simp only [Qan,Qak,Qa7,Qc3,not_or];exact ⟨hb1,hb2⟩) (Qab _ (Qab _ e))
   ·cases Y with
    | error e=>exact q
    | ok J =>
     cases J with
     | ret r =>
      obtain ⟨rfl,h',tk,O,rfl,I,hk'⟩:=q
      repeat (any_goals (first | assumption | wp_step))
      exact h _ _ O I hk'
     | _=>exact q.elim
  | _=>exact hr.elim
end
theorem Z8:Slot "set_iterator" "__next__" "set_iterator.__next__" :=
 .of (owner := "set_iterator") (n := "__next__") (21e4) (1e0) (1e0) (1e0)
  28e1 (20e0)
theorem YI:entryFor table "set_iterator.__next__" = some Builtin.«set_iterator.__next__»:=entryFor_of_tree 16e2
theorem jq:Manifest.owners.lookup (String.ofList ['r','o','t','a','r','e','t','i','_','t','e','s'].reverse)=some Manifest.sig_set_iterator:=by kernel_rfl
theorem Xd (a:Value):argsOk "set_iterator.__next__" ⟨[a],[]⟩:=by
 unfold argsOk;rw [signature?_of (id := "set_iterator.__next__") (n:=['_','_','t','x','e','n','_','_']) (o:=['r','o','t','a','r','e','t','i','_','t','e','s']) 16e2 jq];kernel_rfl
theorem zM:entryFor table "set.__iter__" = some Builtin.«frozenset.__iter__» :=
 entryFor_alias (id' := "frozenset.__iter__") 16e2 rfl (1e0) 16e2
section
variable {prog:Program}{w:World}{A:Around}{E:1e9}{s:Shared}
theorem uK{q:Source}{Q:Nat->3e3}(hn:n≠0)(h:∀i d,i < n->Q i { s with drawn:=d }):wpAny 2e3 A (choose q n) Q E s:=by
 intro Γ p C;unfold choose;rw [Sem.wp_choose];exact ⟨hn,h _ _ (Nat.mod_lt _ (Nat.pos_of_ne_zero hn))⟩
theorem YJ{α:Type}:∀(xs:List α) (i:Nat) (x:α),10e7->(x::xs.eraseIdx i).Perm xs
 | [],i,x,h=>by simp at h
 | y::ys,0,x,h=>by simp at h;subst h;exact .rfl
 | y::ys,i + 1,x,h=>by
  simp only [List.getElem?_cons_succ] at h;rw [List.eraseIdx_cons_succ];exact (List.Perm.swap y x _).trans ((YJ ys i x h).cons y)
theorem GL{α:Type}:∀(n:Nat) (xs:List α) (s:Shared) (Q:List α->3e3),xs.length<=n->(∀ys d,ys.Perm xs->Q ys { s with drawn:=d })->wpAny 2e3 A (drawOrder n xs) Q E s
 | 0,xs,s,Q,hn,h=>by
  have:xs=[]:=Qbu 1e2;subst this;unfold drawOrder;exact Qad (h [] s.drawn .rfl)
 | n + 1,[],s,Q,hn,h=>by
  unfold drawOrder;exact Qad (h [] s.drawn .rfl)
 | n + 1,y::ys,s,Q,hn,h=>by
  unfold drawOrder;refine Qaa (uK 2e5 fun i d hi=>?_);obtain ⟨x,hx⟩:∃x,(y::ys)[i]?=some x:=⟨_,Qag hi⟩;rw [hx];dsimp only;refine Qaa (GL n ((y::ys).eraseIdx i) _ _ (by rw [List.length_eraseIdx,Qaw hi];simp at hn ⊢;lia) fun zs d' hz=>?_);exact Qad (h _ d' ((hz.cons x).trans (YJ _ i x hx)))
end
theorem qW{α:Type}(next:Nat->Nat):∀(q k:Nat) (left:List α) (out:Array α),q=left.length->(pickOrder.go next q k left out).toList.Perm (out.toList++left)
 | 0,k,left,out,h=>by
  have:left=[]:=Qbu h.symm;subst this;unfold pickOrder.go;simp
 | q + 1,k,left,out,h=>by
  unfold pickOrder.go;have hi:next k % left.length < left.length:=Nat.mod_lt _ 1e2;rw [Qag hi];dsimp only;refine (qW next q (k + 1) _ _ (by rw [List.length_eraseIdx,Qaw hi];lia)).trans ?_;rw [Array.toList_push,Qb6];exact (YJ left _ _ (Qag hi)).append_left _
theorem Wh(next:Nat->Nat)(xs:Array m):(pickOrder next xs).toList.Perm xs.toList:=by
 unfold pickOrder;simpa using qW next xs.size 0 xs.toList #[] 2e5
def Jm(h:Heap)(a:Addr)(es:10e2)(ep:Nat)(t:SetTable):Prop:=∃o,14e8/\o.ExactSet/\o.data=.set es ep t/\t.fits es.size=true
def Y2 (h:Heap) (I a:Addr) (first:Value) (i n ep:Nat):Prop:=∃o,h.get? I=some o/\o.cls=.type "set_iterator" /\ o.data=.fields #[first,.int i 0,.ref a,.int n 0,.int ep 0]
section
variable {prog:Program}{w:World}{A:Around}{E:1e9}{s:Shared}
theorem Y2.typeIs  {first:Value}  (x:Y2 s.heap l a first i n L):s.TypeIs 5e1 "set_iterator" := let ⟨o,ho,hc,_⟩:=x;⟨o,ho,hc⟩
theorem Y2.at{h':Heap}{first:Value}(x:Y2 h l a first i n L)(e:∀o,h.get? l=some o->h'.get? l=some o):Y2 h' l a first i n L:=let ⟨o,ho,r⟩:=x;⟨o,e _ ho,r⟩
theorem Jm.at{h':Heap}{es:10e2}{t:SetTable}(x:Jm h a es i t)(e:∀o,14e8->h'.get? a=some o):Jm h' a es i t:=let ⟨o,ho,r⟩:=x;⟨o,e _ ho,r⟩
theorem X0{Q:Bool->3e3}(h:Q (vn w) s):wpAny 2e3 A setsByText Q E s:=Qaa (Qhu (Qad h))
theorem qX{es:10e2}{t:SetTable}{given:Nat}{Q:Option (Value × Nat)->3e3}(hb:vn w=true)(hs:Jm s.heap a es i t)
  (h:Q (((pickOrder (w.params.setOrder a i) es)[given]?).map fun e=>(e.2,0)) s):wpAny 2e3 A (setNext a 0 given i) Q E s:=by
 obtain ⟨o,ho,q,hd,hf⟩:=hs;unfold setNext;refine Qaa (Qeo ho hd hf ?_);dsimp only;refine Qaa (X0 ?_);rw [hb];simp only [↓reduceIte,Qd9,Qbb];unfold setWalk;refine Qaa (Qaa (Qeo ho hd hf ?_));dsimp only;refine Qaa (X0 ?_);rw [hb];simp only [↓reduceIte];refine Qaa (Qhu 7e2);exact Qad h
theorem GN{es:10e2}{t:SetTable}{slot given:Nat}{Q:Option (Value × Nat)->3e3}(hb:vn w=false)(hs:Jm s.heap a es i t)(hl:t.led=true)(hz:es.size<=1)
  (h:Q (match es[SetTable.below t.place slot]?,t.place[SetTable.below t.place slot]? with | some (_,x),some j=>some (x,j + 1) | _,_=>none) s):wpAny 2e3 A (setNext a slot given i) Q E s:=by
 obtain ⟨o,ho,C,hd,hf⟩:=hs;unfold setNext;refine Qaa (Qeo ho hd hf ?_);dsimp only;refine Qaa (X0 ?_);rw [hb];simp only [Qbb,↓reduceIte];have q:decide (es.size > 1)=false:=by simp;lia
 show wpAny _ _ (if (!t.plain && decide (es.size > 1))=true then _ else _) _ _ _;rw [q,Bool.and_false];simp only [Qbb,↓reduceIte];refine Qaa (m:=(if (!t.led && !es.isEmpty)=true then unsupported "set:maker-not-led" else pure ())) ?_;rw [hl];simp only [Qhn,Qhb,Qbb,↓reduceIte];exact Qad (Qad h)
theorem jY{es:10e2}{t:SetTable}{e:Int × Value}(hs:Jm s.heap a es i t)(he:es[n]?=some e)
  (h:Q e.2 s):wpAny 2e3 A (setNextDrawn a n i) Q E s:=by
 obtain ⟨o,ho,q,hd,hf⟩:=hs;unfold setNextDrawn;refine Qaa (Qeo ho hd hf ?_);simp only [Qd9,Qbb,↓reduceIte];rw [he];exact Qad h
theorem uL{first:Value}(x:Y2 s.heap l a first i n L){C:Nat} :
  Y2 ((s.heap.update l (Obj.mapFields (·.setIfInBounds 0 c))).update l (Obj.mapFields (·.setIfInBounds 1 (.int C 0)))) l a c C n L:=by
 obtain ⟨o,ho,hc,hd⟩:=x;have h1:=Qbk (Obj.mapFields (·.setIfInBounds 0 c)) ho (Qcz (Qbr hd _));have q:=Qbr hd (·.setIfInBounds 0 c);refine ⟨_,Qbk _ h1 (Qcz (Qbr q _)),(Qfc ..).trans ((Qfc ..).trans hc),?_⟩;rw [Qbr q];simp
theorem vo{es:10e2}{t:SetTable}{slot:Nat}{x:Value}{nx:Nat}{Q:7e9->3e3}(q:Y2 s.heap l a (.int slot 0) i es.size n)(hs:Jm s.heap a es n t)
  (hN:∀(G:Option (Value × Nat)->3e3) (J:1e9),G (some (x,nx)) s->wpAny 2e3 A.in1 (setNext a slot i n) G J s)
  (I:∀h',Y2 h' l a (.int nx 0) (i + 1) es.size n->Heap.SameBut l s.heap h'->Q (some x) 7e0):wpAny 2e3 A (pyNext 5e1) Q E s:=by
 show 23;obtain ⟨os,D,O,C,hf⟩:=id hs;unfold pyNext;refine Qaa (Qdv (wpAny_callSpecial?_slot (name:=15e8) q.typeIs Z8
  (Qbh Z8 q.typeIs YI ?_ (Xd _))))
 unfold Builtin.«set_iterator.__next__»;refine Qaa 7e2;refine Qaa (Qhd ho hd ?_);dsimp only;refine Qaa (Qev D C hf ?_);simp only [Qd9,Qbb,↓reduceIte];simp only [Qat];refine Qaa (hN _ _ ?_);dsimp only;refine 27e2;have h1:=Qbk (Obj.mapFields (·.setIfInBounds 0 (rawInt (nx:Int)))) ho (Qcz (Qbr hd _));refine Qaa (Qdi (s:={ s with heap:=s.heap.update l (Obj.mapFields (·.setIfInBounds 0 (rawInt (nx:Int)))) }) h1 (Qbr hd _) 2e5 ?_);exact Qad ⟨_,rfl,Qad (I _ (uL q) ((Qci ..).trans (Qci ..)))⟩
theorem g8{es:10e2}{t:SetTable}{slot:Nat}{Q:7e9->3e3}(hh:9e3)(q:Y2 s.heap l a (.int slot 0) i es.size n)(hs:Jm s.heap a es n t)
  (hN:∀(G:Option (Value × Nat)->3e3) (J:1e9),G none s->wpAny 2e3 A.in1 (setNext a slot i n) G J s)
  (I:∀h',Heap.ExtBut l s.heap h'->Q none 7e0):wpAny 2e3 A (pyNext 5e1) Q E s:=by
 show 23;obtain ⟨os,D,O,C,hf⟩:=id hs;unfold pyNext;refine Qaa (Qdv (wpAny_callSpecial?_slot (name:=15e8) q.typeIs Z8
  (Qbh Z8 q.typeIs YI ?_ (Xd _))))
 unfold Builtin.«set_iterator.__next__»;refine Qaa 7e2;refine Qaa (Qhd ho hd ?_);dsimp only;refine Qaa (Qev D C hf ?_);simp only [Qd9,Qbb,↓reduceIte];simp only [Qat];refine Qaa (hN _ _ ?_);dsimp only;refine 27e2;show 27e8;refine Qaa ?_;simp only [newExc,newTuple];refine Qaa (21e8);refine 30e7;refine 21e8;simp only [raiseNew];refine Qaa (Qhp ?_);rw [show A.in1.handled=none from hh];refine Qaa (Qad (Qh7 ?_));refine 34e3;exact Qad (I _ (((Qci ..).extBut.push _).push _))
theorem uM{p:Addr}{es:10e2}{t:SetTable}{ps:1e1}{pl:Nat}{e:Int × Value}{Q:7e9->3e3}(q:Y2 s.heap l a 3e5 i es.size n)(hs:Jm s.heap a es n t)
  (hp:s.heap.get? p=some T) (G:T.data=.seq 28e9 L) (hi:ps[i]?=some pl) (he:es[pl]?=some e)
  (I:∀h',Y2 h' l a 3e5 (i + 1) es.size n->Heap.SameBut l s.heap h'->Q (some e.2) 7e0):wpAny 2e3 A (pyNext 5e1) Q E s:=by
 show 23;obtain ⟨os,D,J,C,hf⟩:=id hs;unfold pyNext;refine Qaa (Qdv (wpAny_callSpecial?_slot (name:=15e8) q.typeIs Z8
  (Qbh Z8 q.typeIs YI ?_ (Xd _))))
 unfold Builtin.«set_iterator.__next__»;refine Qaa 7e2;refine Qaa (Qhd ho hd ?_);dsimp only;refine Qaa (Qev D C hf ?_);simp only [Qd9,Qbb,↓reduceIte];refine Qaa (Qb1 hp G ?_);dsimp only;rw [show (28e9)[(i:Int).toNat]?=some (rawInt pl) by simp [hi]];simp only [rawInt,Qat];refine Qaa (jY hs he ?_);refine 27e2;refine Qad ⟨_,rfl,Qad (I _ ⟨_,Qbk _ ho (Qcz (Qbr hd _)),(Qfc ..).trans hc,?_⟩ (Qci ..))⟩;rw [Qbr hd];simp
theorem Zch{p:Addr}{es:10e2}{t:SetTable}{ps:1e1}{I:Obj}{Q:7e9->3e3}(hh:9e3)(q:Y2 s.heap l a 3e5 i es.size n)(hs:Jm s.heap a es n t)
  (hp:s.heap.get? p=some I) (G:I.data=.seq 28e9 L) (hi:ps[i]?=none)
  (J:∀h',Heap.ExtBut l s.heap h'->Q none 7e0):wpAny 2e3 A (pyNext 5e1) Q E s:=by
 show 23;obtain ⟨os,D,O,C,hf⟩:=id hs;unfold pyNext;refine Qaa (Qdv (wpAny_callSpecial?_slot (name:=15e8) q.typeIs Z8
  (Qbh Z8 q.typeIs YI ?_ (Xd _))))
 unfold Builtin.«set_iterator.__next__»;refine Qaa 7e2;refine Qaa (Qhd ho hd ?_);dsimp only;refine Qaa (Qev D C hf ?_);simp only [Qd9,Qbb,↓reduceIte];refine Qaa (Qb1 hp G ?_);dsimp only;rw [show (28e9)[(i:Int).toNat]?=none by simp;simpa using hi];dsimp only;refine 27e2;have h1:=Qbk (Obj.mapFields (·.setIfInBounds 0 (rawInt 0))) ho (Qcz (Qbr hd _));refine Qaa (Qdi (s:={ s with heap:=s.heap.update l (Obj.mapFields (·.setIfInBounds 0 (rawInt 0))) }) h1 (Qbr hd _) 2e5 ?_);show 27e8;refine Qaa ?_;simp only [newExc,newTuple];refine Qaa (21e8);refine 30e7;refine 21e8;simp only [raiseNew];refine Qaa (Qhp ?_);rw [show A.in1.handled=none from hh];refine Qaa (Qad (Qh7 ?_));refine 34e3;exact Qad (J _ ((((Qci ..).trans (Qci ..)).extBut.push _).push _))
end
theorem JO:Slot "set_iterator" "__iter__" "set_iterator.__iter__" :=
 .of (owner := "set_iterator") (n := "__iter__") (21e4) (1e0) (1e0) (1e0)
  28e1 (20e0)
theorem xW:entryFor table "set_iterator.__iter__" = some Builtin.«dict_keyiterator.__iter__» :=
 entryFor_alias (id' := "dict_keyiterator.__iter__") 16e2 rfl (1e0) 16e2
theorem zN (a:Value):argsOk "set_iterator.__iter__" ⟨[a],[]⟩:=by
 unfold argsOk;rw [signature?_of (id := "set_iterator.__iter__") (n:=['_','_','r','e','t','i','_','_']) (o:=['r','o','t','a','r','e','t','i','_','t','e','s']) 16e2 jq];kernel_rfl
section
variable {prog:Program}{w:World}{A:Around}{E:1e9}{s:Shared}
theorem xX{first:Value}(q:Y2 s.heap l a first i n L)(h:Q 5e1 s):wpAny 2e3 A (pyIter 5e1) Q E s:=by
 refine Qf5 q.typeIs JO (Qbh JO q.typeIs xW ?_ (zN _));show wpAny _ _ (ret 5e1) _ _ s;exact Qad ⟨_,rfl,"set_iterator",_,q.typeIs,Z8.lookup,h⟩
def Txs(q:List (Int × Value))(i:Nat)(v:Value):Prop:=∃e,q[i]?=some e/\v=e.2
theorem uN{es:10e2}{t:SetTable}(hb:vn w=true)(hh:9e3)(I:a≠l) :
  Walks prog w A l [l,a] [l] es.size (Txs (32e4).toList) (fun i h=>Y2 h l a (.int (0:Nat) 0) i es.size n/\Jm h a es n t) where
 sub:=fun b hb=>by simp at hb;simp [hb]
 frame:=fun _ _ _ st hk=>⟨st.1.at fun o e=>hk l 2e5 o e,st.2.at fun o e=>hk a 2e5 o e⟩
 item:=fun i s Q E hi st C=>by
  have hsz:(32e4).size=es.size:=by simpa using (Wh (w.params.setOrder a n) es).length_eq
  obtain ⟨e,he⟩:∃e,32e4[i]?=some e:=⟨_,Qem 1e2⟩;refine vo st.1 st.2 (x:=e.2) (nx:=0) (fun Y O q=>qX hb st.2 (by rw [he];exact q)) fun h' G D=>?_;exact C e.2 h' s.toks ⟨e,by simpa using he,rfl⟩ ⟨G,st.2.at fun o e=>D.extBut a o I e⟩ fun b o hb e=>D.extBut b o 27e0 e
 done:=fun s Q E st C=>by
  have hsz:(32e4).size=es.size:=by simpa using (Wh (w.params.setOrder a n) es).length_eq
  exact g8 hh st.1 st.2 (fun Y O q=>qX hb st.2 (by rw [Array.getElem?_eq_none 1e2];exact q)) fun h' J=>C h' s.toks fun b o hb e=>J b o 27e0 e
 self:=fun _ _ _ _ st C=>xX st.1 C
theorem kE{p:Addr}{es:10e2}{t:SetTable}{ps:1e1}(D:ps.Perm (List.range es.size))(hh:9e3)(hne:a≠l)(Z:p≠l) :
  Walks prog w A l [l,a,p] [l] es.size (Txs (ps.filterMap (es[·]?))) (fun i h=>Y2 h l a 3e5 i es.size n/\Jm h a es n t/\∃C np,h.get? p=some C/\C.data=.seq 28e9 np) where
 sub:=fun b hb=>by simp at hb;simp [hb]
 frame:=fun _ _ _ st hk=>⟨st.1.at fun o e=>hk l 2e5 o e,st.2.1.at fun o e=>hk a 2e5 o e,let ⟨C,np,h1,h2⟩:=st.2.2;⟨C,np,hk p 2e5 C h1,h2⟩⟩
 item:=fun i s Q E hi st O=>by
  obtain ⟨C,np,h1,h2⟩:=st.2.2;have G:ps.length=es.size:=by simpa using D.length_eq
  have q:∀k∈ps,k < es.size:=fun k hk=>by simpa using D.mem_iff.mp hk
  have J:ps[i]?=some (ps[i]' 1e2):=Qag _;have hk:ps[i]' 1e2 < es.size:=q _ (Qdo _);have hfm:ps.filterMap (es[·]?)=ps.map (fun k=>es.getD k (0,.none)):=by
   clear J D G hk hi h1 h2 st O
   induction ps with
   | nil=>rfl
   | cons k ks ih =>
    have:=q k (by simp);rw [List.filterMap_cons_some (b:=es.getD k (0,.none)) (by simp [Array.getD,this]),ih fun k hk=>q k (by simp [hk]),Qa4]
  refine uM st.1 st.2.1 h1 h2 J (Qem hk) fun h' Y I=>?_;refine O _ h' s.toks ⟨_,?_,rfl⟩ ⟨Y,st.2.1.at fun o e=>I.extBut a o hne e,C,np,I.extBut p C Z h1,h2⟩ fun b o hb e=>I.extBut b o 27e0 e;rw [hfm,Qaj,J];simp [Array.getD,hk]
 done:=fun s Q E st O=>by
  obtain ⟨C,np,h1,h2⟩:=st.2.2;have G:ps.length=es.size:=by simpa using D.length_eq
  exact Zch hh st.1 st.2.1 h1 h2 (by simp;lia) fun h' he'=>O h' s.toks fun b o hb e=>he' b o 27e0 e
 self:=fun _ _ _ _ st O=>xX st.1 O
theorem vp(j:Nat):SetTable.below #[j] 0=0/\SetTable.below #[j] (j + 1)=1:=by
 constructor <;> simp [SetTable.below,SetTable.below.go]
theorem kF{es:10e2}{t:SetTable}(hb:vn w=false)(hl:t.led=true)(hz:es.size<=1)(hh:9e3)(hne:a≠l) :
  Walks prog w A l [l,a] [l] es.size (Txs es.toList) (fun i h=>∃slot:Nat,(i=0->slot=0)/\(i=1->∃j,t.place=#[j]/\slot=j + 1)/\Y2 h l a (.int slot 0) i es.size n/\Jm h a es n t) where
 sub:=fun b hb=>by simp at hb;simp [hb]
 frame:=fun _ _ _ st hk=>by
  obtain ⟨slot,J,G,h1,h2⟩:=st;exact ⟨slot,J,G,h1.at fun o e=>hk l 2e5 o e,h2.at fun o e=>hk a 2e5 o e⟩
 item:=fun i s Q E hi st I=>by
  obtain ⟨slot,J,G,h1,h2⟩:=st;have hi0:i=0:=by lia
  subst hi0;obtain rfl:=J rfl;have hes:es.size=1:=by lia
  have Z:t.place.size=1:=by
   obtain ⟨o,ho,hex,hd,hf⟩:=h2;simp only [SetTable.fits,Qbt,Qf6,Qhj] at hf;lia
  obtain ⟨j,O⟩:∃j,t.place=#[j]:=⟨t.place[0],by apply Array.ext <;> simp [Z];intro i h1;subst h1;rfl⟩;obtain ⟨e,he⟩:∃e,es[0]?=some e:=⟨_,Qem 1e2⟩;refine vo h1 h2 (x:=e.2) (nx:=j + 1) (fun Q' E' q=>GN hb h2 hl hz (by rw [O,(vp j).1,he];exact q)) fun h' D C=>?_;exact I e.2 h' s.toks ⟨e,by simpa using he,rfl⟩ ⟨j + 1,fun z=>absurd z 1e2,fun _=>⟨j,O,rfl⟩,D,h2.at fun o e=>C.extBut a o hne e⟩ fun b o hb e=>C.extBut b o 27e0 e
 done:=fun s Q E st I=>by
  obtain ⟨slot,J,G,h1,h2⟩:=st;refine g8 hh h1 h2 (fun Q' E' q=>GN hb h2 hl hz ?_) fun h' Y=>I h' s.toks fun b o hb e=>Y b o 27e0 e
  by_cases h0:es.size=0
  ·have:es=#[]:=Array.eq_empty_of_size_eq_zero h0
   subst this;simpa using q
  ·obtain ⟨j,O,rfl⟩:=G 1e2
   rw [O,(vp j).2,Array.getElem?_eq_none 1e2];exact q
 self:=fun _ _ _ _ st I=>by
  obtain ⟨slot,J,G,h1,h2⟩:=st;exact xX h1 I
theorem kG{es:10e2}{t:SetTable}{Q:Bool->3e3}(hs:Jm s.heap a es i t)(h:Q (!vn w && (!t.plain && decide (es.size > 1))) s):wpAny 2e3 A (setDrawn a) Q E s:=by
 obtain ⟨o,ho,q,hd,hf⟩:=hs;unfold setDrawn;refine Qaa (Qeo ho hd hf ?_);dsimp only;refine Qaa (X0 ?_);exact Qad h
structure SetW(prog:Program)(w:World)(h h':Heap)(I a:Addr)(es:10e2)(ord:List (Int × Value))(fp:5e0)(St:Nat->Heap->Prop):Prop where
 old:∀b o,17e8->h'.get? b=some o
 new:h.objs.size<=I
 perm:ord.Perm es.toList
 lt:∀b∈fp,b < h'.objs.size
 mem:I∈fp
 st:St 0 h'
 walks:∀A:Around,9e3->Walks prog w A I fp [I] es.size (Txs ord) St
 apart:∀b∈fp,b=a\/h.objs.size<=b
theorem Zfv{es:10e2}{t:SetTable}(hs:Jm s.heap a es n t)(hl:t.led=!vn w)(hp:es.size=0\/t.plain=false)(hz:es.size<=sizeLine)
  (hQ:∀h' d I O fp St,SetW prog w s.heap h' I a es O fp St->Q (.ref I) { s with heap:=h',drawn:=d }):wpAny 2e3 A (pyIter 3e1) Q E s:=by
 obtain ⟨o,ho,hex,hd,hf⟩:=id hs;have hT:s.TypeIs 3e1 "set" := ⟨o,ho,hex.1⟩;have q:=Qas ho;refine Qf5 hT F.slot_set_iter (Qbh F.slot_set_iter hT zM ?_ (F.args_set_iter_1 _));unfold Builtin.«frozenset.__iter__» Builtin.Frozenset.slot0 slotArgs;simp only [List.isEmpty_nil,Qhn,Qbb,↓reduceIte,bind_assoc,Qee,Qd9];unfold Builtin.Frozenset.addrOf Builtin.Frozenset.sizeOf;refine Qaa 7e2
 show 10
 refine Qaa 7e2;refine Qaa (Qaa (Qev ho hd hf 7e2));refine Qaa (kG hs ?_);cases hb:vn w with
 | true =>
  simp only [Qhn,Qhb,Qbb,↓reduceIte];refine Qaa (Qad ?_);refine Qaa (Qhk ho hd hf ?_);have hg:(s.heap.push { cls:=.type "set_iterator",data:=.fields #[rawInt 0,rawInt 0,.ref a,rawInt es.size,rawInt n] }).get? s.heap.objs.size=some { cls:=.type "set_iterator",data:=.fields #[rawInt 0,rawInt 0,.ref a,rawInt es.size,rawInt n] }:=Qaq _ rfl;refine Qaa (Qbg (Qad ⟨_,rfl,"set_iterator",_,⟨_,hg,rfl⟩,Z8.lookup,?_⟩));refine hQ _ s.drawn s.heap.objs.size _ _ _ ⟨fun b o e=>Qab _ e,Qai _,Wh (w.params.setOrder a n) es,fun b hm=>?_,Qar,⟨⟨_,hg,rfl,rfl⟩,hs.at fun o e=>Qab _ e⟩,fun A' hh=>uN hb hh (Qbf q),fun b hm=>(Qan.mp hm).elim (fun e=>.inr (e ▸ Qai _)) fun hm=>.inl (Qak.mp hm)⟩;rw [Qb0];rcases Qan.mp hm with rfl | hm
  ·exact Qcq _
  ·rw [Qak.mp hm];exact Qct q
 | false =>
  rw [hb] at hl;simp only [Bool.not_false,Bool.true_and]
  by_cases Y:es.size > 1
  ·have Z:t.plain=false:=hp.resolve_left (by lia)
   rw [Z,Qah Y];simp only [Bool.not_false,Bool.true_and,↓reduceIte];refine Qaa (GL _ _ _ _ (Qhy Qax) fun ps d G=>?_);have hpn:ps.length=es.size:=by simpa using G.length_eq
   refine Qaa (Qhc ?_ (by rw [Qac];lia));refine Qaa (Qhk (Qab _ ho) hd hf ?_);generalize hH:s.heap.push { cls:=.type "tuple",data:=.seq (ps.map fun (i:Nat)=>rawInt i).toArray }=H;have C:H.objs.size=s.heap.objs.size + 1:=by rw [<-hH,Qb0]
   have D:∀b o,s.heap.get? b=some o->H.get? b=some o:=fun b o e=>hH ▸ Qab _ e;have J:H.get? s.heap.objs.size=some { cls:=.type "tuple",data:=.seq (ps.map fun (i:Nat)=>rawInt i).toArray }:=hH ▸ Qaq _ rfl;have hg:(H.push { cls:=.type "set_iterator",data:=.fields #[.ref s.heap.objs.size,rawInt 0,.ref a,rawInt es.size,rawInt n] }).get? H.objs.size=some { cls:=.type "set_iterator",data:=.fields #[.ref s.heap.objs.size,rawInt 0,.ref a,rawInt es.size,rawInt n] }:=Qaq _ rfl;refine Qaa (Qbg (s:={ s with heap:=H,drawn:=d }) (Qad ⟨_,rfl,"set_iterator",_,⟨_,hg,rfl⟩,Z8.lookup,?_⟩));refine hQ _ d H.objs.size _ _ _ ⟨fun b o e=>Qab _ (D b o e),by rw [C];exact Qd3 _,?_,fun b hm=>?_,Qar,⟨⟨_,hg,rfl,rfl⟩,hs.at fun o e=>Qab _ (D a o e),_,_,Qab _ J,rfl⟩,fun A' hh=>kE (p:=s.heap.objs.size) G hh (fun e=>by rw [e,C] at q;exact absurd q (Qfp.mpr (Qd3 _))) (fun e=>by rw [C] at e;exact absurd e (Qbf (Qcq _))),fun b hm=>(Qan.mp hm).elim (fun e=>.inr (by rw [e,C];exact Qd3 _)) fun hm=>(Qan.mp hm).elim .inl fun hm=>.inr (by rw [Qak.mp hm];exact Qai _)⟩
   ·exact (G.filterMap _).trans (by rw [filterMap_getElem?_range])
   ·rw [Qb0]
    rcases Qan.mp hm with rfl | hm
    ·exact Qcq _
    ·rcases Qan.mp hm with rfl | hm
     ·exact Qct (C ▸ Qct q)
     ·rw [Qak.mp hm,C];exact Qct (Qcq _)
  ·have hd2:decide (es.size > 1)=false:=by simp;lia
   rw [hd2,Bool.and_false];simp only [Qbb,↓reduceIte];refine Qaa (Qad ?_);refine Qaa (Qhk ho hd hf ?_);have hg:(s.heap.push { cls:=.type "set_iterator",data:=.fields #[rawInt 0,rawInt 0,.ref a,rawInt es.size,rawInt n] }).get? s.heap.objs.size=some { cls:=.type "set_iterator",data:=.fields #[rawInt 0,rawInt 0,.ref a,rawInt es.size,rawInt n] }:=Qaq _ rfl;refine Qaa (Qbg (Qad ⟨_,rfl,"set_iterator",_,⟨_,hg,rfl⟩,Z8.lookup,?_⟩));refine hQ _ s.drawn s.heap.objs.size _ _ _ ⟨fun b o e=>Qab _ e,Qai _,.rfl,fun b hm=>?_,Qar,⟨0,fun _=>rfl,fun z=>absurd z (by lia),⟨_,hg,rfl,rfl⟩,hs.at fun o e=>Qab _ e⟩,fun A' hh=>kF hb (by simpa using hl) (by lia) hh (Qbf q),fun b hm=>(Qan.mp hm).elim (fun e=>.inr (e ▸ Qai _)) fun hm=>.inl (Qak.mp hm)⟩;rw [Qb0];rcases Qan.mp hm with rfl | hm
   ·exact Qcq _
   ·rw [Qak.mp hm];exact Qct q
theorem kH{es:10e2}{t:SetTable}{Q:2e0->3e3}(hh:9e3)(hs:Jm s.heap a es n t)(hl:t.led=!vn w)(hp:es.size=0\/t.plain=false)(hz:es.size<=sizeLine)
  (hQ:∀(h':Heap) (d:Drawn) (tk:Nat) (C:List (Int × Value)),(∀b o,11e6)->s.heap.objs.size<=h'.objs.size->C.Perm es.toList->Q (C.map (·.2)) { s with heap:=h',drawn:=d,toks:=tk }):wpAny 2e3 A (collect 3e1) Q E s:=by
 obtain ⟨o,ho,hex,hd,hf⟩:=id hs;have hlt:=Qas ho;unfold collect;refine Qaa (wpAny_runValue (Qcs F.entry_proto_collect ?_));rw [Qb4 F.plain_proto_collect _];show wpAny _ A.in1 (newList [] >>= fun l=>again (.builtin "list.__iadd__" ⟨[l,.ref a],[]⟩)) _ _ s;refine Qaa (Qbg ?_);refine Qad ⟨Qdw Qf7 _,Qcs F.entry_list_iadd ?_⟩;rw [Qb4 Qf7 _];generalize hH:s.heap.push 32e2=H;have hHs:H.objs.size=5e9:=by rw [<-hH,Qb0]
 have q:∀b o,5e7=some o->H.get? b=some o:=fun b o e=>hH ▸ Qab _ e;have hS:H.get? s.heap.objs.size=some 32e2:=hH ▸ 5e5;have hs1:Jm H a es n t:=hs.at fun o e=>q a o e;have hT:Shared.TypeIs { s with heap:=H } 3e1 "set" := ⟨o,q a o ho,hex.1⟩;show wpAny _ A.in1 (Builtin.List.listExtendWith (4e9) 3e1 (4e9)) _ _ _;unfold Builtin.List.listExtendWith;refine Qaa (Qe3 hT ?_);have h1:Builtin.List.listSameRef (4e9) 3e1=false:=by simp [Builtin.List.listSameRef];exact Qer hlt
 have h2:(Value.type "set" == Value.type "list")=false:=4e0
 have h3:(Value.type "set" == Value.type "tuple")=false:=4e0
 simp only [h1,h2,h3,Qgn,Qbb,Qe2];refine Qaa (Zfv (s:={ s with heap:=H }) hs1 hl hp hz fun h1 d I C fp St W=>?_);refine Qaa (Qc2 ?_);unfold Builtin.List.listLengthHint;have Y:Shared.TypeIs { s with heap:=h1,drawn:=d } 3e1 "set" := ⟨o,W.old a o (q a o ho),hex.1⟩;refine Qaa (Qdz Y F.slot_set_len.lookup ?_)
 wp_delta
 refine Qaa (Qdp (b:=true) Y (20e0) ?_);show wpAny _ A.in1 (typeOf (Value.ref a) >>= _) _ _ _;refine Qaa (Qe3 Y ?_);refine Qad ?_;show wpAny _ A.in1 (rule "list.extend.makes-room" >>= fun _=>Builtin.List.listTouch (4e9) >>= fun _ =>
  again (.builtin "list.extend.loop" ⟨[4e9,.ref I,4e9],[]⟩)) _ _ _
 refine Qaa (Qde ?_);have hnf:s.heap.objs.size∉fp:=fun hm=>by
  rcases W.apart _ hm with e | e
  ·exact absurd hlt (e ▸ Qbz _)
  ·exact absurd e (by show ¬H.objs.size<=_;rw [hHs];exact Nat.not_succ_le_self _)
 have Z:=W.old _ _ hS;refine Qaa ?_;show wpAny _ A.in1 (updateSeq s.heap.objs.size (·.push .none) >>= fun _=>updateSeq s.heap.objs.size (·.pop)) _ _ _;refine Qaa (Qd0 (s:={ s with heap:=h1,drawn:=d }) Z rfl ?_);have hS2:=Qbk (Obj.mapSeq (·.push Value.none)) Z rfl;refine Qd0 (s:={ s with heap:=h1.update s.heap.objs.size (Obj.mapSeq (·.push Value.none)),drawn:=d }) hS2 rfl ?_;have hS3:=Qbk (Obj.mapSeq (·.pop)) hS2 rfl;have oth:∀b o,b≠s.heap.objs.size->h1.get? b=some o ->
   ((h1.update s.heap.objs.size (Obj.mapSeq (·.push Value.none))).update s.heap.objs.size (Obj.mapSeq (·.pop))).get? b=some o :=
  fun b o hb e=>(Qbw _ _ (Qel hb)).trans ((Qbw _ _ (Qel hb)).trans e)
 refine Qad ⟨Qdw Qew _,codeAny_extend_loopS (W.walks A.in1 hh).toS hz _ hnf _ es.size 0 _ _ _ rfl (Qbe _)
  ((W.walks A hh).frame 0 _ _ W.st fun b hb o e=>oth b o (fun h=>hnf (h ▸ hb)) e) hS3 (ItemsOf.nil _) fun s' G c' hm hS' J=>?_⟩
 show wpAny _ A (load s.heap.objs.size >>= _) _ _ s';refine Qaa (wpAny_load hS' ?_);have O:G.toList=C.map (·.2):=by
  have hol:C.length=es.size:=by simpa using W.perm.length_eq
  apply List.ext_getElem
  ·rw [Qac,Qbl,J.1,hol]
  ·intro i i1 i2
   rw [Qbl] at i1;obtain ⟨e,he,hv⟩:=J.2 i G[i] (Qem i1);rw [Array.getElem_toList,hv,List.getElem_map];rw [Qac] at i2;rw [Qag i2] at he;rw [Option.some.inj he]
 have eg:s'.gens=s.gens:=hm.gens;have ed:s'.drawn=d:=hm.drawn;have eo:s'.os=s.os:=hm.os;refine Qad ?_;have:=hQ s'.heap s'.drawn s'.toks C (fun b ob e=>?_) ?_ W.perm
 ·rw [<-O,<-eg,<-eo] at this;exact this
 ·have D:=Qas e
  refine hm.heap b ob (fun hb=>?_) (oth b ob (Qbf D) (W.old b ob (q b ob e)));rcases Qan.mp hb with h | h
  ·exact absurd D (h ▸ Qbz _)
  ·rw [Qak.mp h] at D
   have:=W.new;exact absurd D (Qfp.mpr (Qbd (by rw [hHs];exact Qd3 _) this))
 ·exact Qa0 (Qas hS')
theorem GO:∀{l:List (Int × Value)},ElemsOf (PySem.strKind prog w) l->StrsAre (l.map (·.2)) (l.map fun e=>tx e.2)
 | [],_=>.nil
 | e::l,h=>by
  obtain ⟨_,t,q⟩:=g7 h (Qar);rw [Qa4,Qa4,q];exact .cons _ t (GO h.tail)
theorem uO{led:Bool}{S:1e3}(hh:9e3)(hS:xt prog w s.heap a (!vn w) S)(h64:S.length < 64)
  (h:∀(h':Heap) (d:Drawn) (tk:Nat) (l:Addr) (out:4e5) (Y:1e3) (e:Nat),StrsAre out.toList Y->Y.Perm S->sortedS Y=true->(∀b o,11e6)->s.heap.objs.size<=l ->
   h'.get? l=some (seqObj "list" out e)->Q 5e1 { s with heap:=h',drawn:=d,toks:=tk }) :
  wpAny 2e3 A (call (.builtin "sorted") [.ref a]) Q E s:=by
 obtain ⟨o,es,ep,t,ho,hex,hd,hel,hp,hf,hl,hpl⟩:=hS;have hn:es.size=S.length:=by rw [<-hp.length_eq,Qac,Qbl]
 refine Calls.call_function_entry kind_sorted plain_sorted entry_sorted (args_sorted1 _) ?_;unfold Builtin.«sorted»;refine Qaa (m:=checkCount "sorted" 1 1 _) 7e2;refine Qaa (kH (A:=A.in1) hh ⟨o,ho,hex,hd,hf⟩ hl hpl (Qhh (by unfold scanBound;lia)) fun h1 d tk q J hsz C=>?_);have I:(q.map (·.2)).length < 64:=by rw [Qac,C.length_eq,Qbl];lia
 have D:StrsAre (q.map (·.2)) (q.map fun e=>tx e.2):=GO (hel.perm C);have Z:(q.map fun e=>tx e.2).Perm S:=(C.map _).trans hp;generalize hV:q.map (·.2)=vs at I D ⊢;refine Qaa (wpAny_newList ?_);have G:(h1.push (seqObj "list" vs.toArray 0)).get? h1.objs.size=some (seqObj "list" vs.toArray 0):=5e5;refine Qaa (Qc2 (Qbh slot_list_sort ⟨_,G,rfl⟩ entry_list_sort (list_sort_treeK strKind_oneLt G D.keysOf (fun v₁ v₂ rest e=>keyKind_strs (by rw [<-e];exact D)) I fun st' a1 a2=>⟨_,rfl,?_⟩) (args_list_sort _)));obtain ⟨Y,b1,b2,b3⟩:=sorted_out_str D a1 a2;obtain ⟨e,he⟩:=sortedHeap_at (vs:=vs) (out:=(arrOf st').map (·.2)) (n:=0) G;refine Qad ⟨_,rfl,h _ d tk h1.objs.size _ Y e b1 (b2.trans Z) b3 (fun b ob hb=>?_) hsz he⟩;have O:=Qbm (Qas hb) hsz;rw [sortedHeap_old (Qbf O) (by rw [size_push'];exact Qct O)];exact Qab _ (J b ob hb)
end
def TxO(P:Program)(w:World)(a:Addr)(S:1e3):HO:=.ext fun h=>xt P w h a (!vn w) S
section
variable {X:Cx}
theorem Inv.drew(I:Inv X z f H s)(d:Drawn):Inv X z f H { s with drawn:=d } :=
 ⟨I.ok,I.os,I.bare,I.base,I.loc,I.cell,I.free,I.freeC,I.pin,I.hok,I.len⟩
theorem Zci (hc:9e9):Xy X (.type "set") (fun xs H Q=>∃(p:Addr) (D:1e3),xs=[.ref p]/\SqL X.K H p (D.map V.str)/\D.length < 4000 /\
  ∀a:Addr,H a=none->Q 3e1 (upd H a (TxO X.prog X.w a (W7 D)))):=by
 intro pins s σ H xs us Q I r h;obtain ⟨p,D,rfl,Z,hn,q⟩:=h;obtain ⟨u,rfl,rx⟩:=vals1 r;cases rx;obtain ⟨Y,G,pl,hz⟩:=I.list Z;have C:=G.length;rw [Qac] at C;refine zL 8e5 pl.isList (by simpa using qx G) (by rw [Qa5];unfold scanBound;lia) fun h' tk O J hk=>?_;refine ⟨4e9,_,I.laid (t':=tk) (o:=TxO X.prog X.w s.heap.objs.size (W7 D)) (fun b o e=>hk b o (Qas e) e) (Qai _) ?_,rfl,q _ (20e3)⟩;obtain ⟨o,es,ep,t,ho,rest⟩:=id J;exact ⟨J,⟨o,ho⟩,fun h1 h2 x k=>qy x k⟩
theorem jZ (hc:9e9):Xy X (.builtin "sorted") (fun xs H Q=>∃(a:Addr) (S:1e3),xs=[.ref a]/\H a=some (TxO X.prog X.w a S)/\S.length < 64 /\
  ∀(l:Addr) (ms:1e3),H l=none->ms.Perm S->sortedS ms=true->Q 5e1 (upd H l (.lst (ms.map V.str)))):=by
 intro pins s σ H xs O Q I r h;obtain ⟨a,S,rfl,J,hn,q⟩:=h;obtain ⟨u,rfl,D⟩:=vals1 r;cases D;have G:xt X.prog X.w s.heap a (!vn X.w) S:=(I.hok a _ J).1;refine uO (led:=true) 8e5 G hn fun h' d tk l out C e hi hp hs hk hl he=>?_;refine ⟨.ref l,_,(I.drew d).laid (t':=tk) (o:=.lst (C.map V.str)) hk hl ?_,rfl,q _ C (I.hok.fresh hl) hp hs⟩;have hm:C.length=S.length:=hp.length_eq;exact ⟨by rw [Qac];exact 9e4,out.toList,e,Jk hi,by simpa using he⟩
end
theorem Zj6{S:1e3}{y:Str}:y∈ins S x↔y∈S\/y=x:=by
 unfold ins;split
 ·rename_i h
  exact ⟨.inl,fun z=>z.elim id fun e=>e ▸ h⟩
 ·simp
theorem Zcj{S:1e3}(h:S.Nodup):(ins S x).Nodup:=by
 unfold ins;split
 ·exact h
 ·rename_i hx
  rw [Qdg];exact ⟨h,by simp,fun a ha b hb=>by rw [Qak.mp hb];exact fun e=>hx (e ▸ ha)⟩
theorem ya:∀(ys S:1e3),S.Nodup->(ys.foldl ins S).Nodup/\∀y,y∈ys.foldl ins S↔y∈S\/y∈ys
 | [],S,h=>⟨h,fun y=>by simp⟩
 | x::r,S,h=>by
  obtain ⟨a,b⟩:=ya r (ins S x) (Zcj h);refine ⟨a,fun y=>(b y).trans ?_⟩;rw [Zj6,Qan,or_assoc]
theorem kI(ys:1e3):(W7 ys).Nodup:=(ya ys [] Qdj).1
theorem Wi:fillsNumberSlot (4e8) "mul" = pure false :=
 PySem.fillsNumberSlot_seq (id := "tuple.__mul__") (r:=some (.builtin "tuple.__rmul__")) Qfj.lookup (1e0) F.slot_tuple_rmul.lookup (1e0)
theorem qz:seqRepeat? (4e8)=pure (some (.builtin "tuple.__mul__")):=by
 unfold seqRepeat?;rw [PySem.seqSlot_of (T := "tuple") (name := "__mul__") (id := "tuple.__mul__") Qfj.lookup (1e0),PySem.seqSlot_of (T := "tuple") (name := "__rmul__") (id := "tuple.__rmul__") F.slot_tuple_rmul.lookup (1e0)]
 rfl
section
variable {prog:Program}{w:World}{A:Around}{E:1e9}{s:Shared}
theorem yb {a:Int} {t:Tok}  {o:Obj}   {R:1e9} (ho:s.heap.get? l=some o) (hc:o.cls=4e8) (hd:o.data=.seq D n) (h:R .notImplemented s) :
  wpAny 2e3 A (Builtin.«int.__rmul__» ⟨[.int a t,.ref l],[]⟩) 31e5 E s:=by
 obtain ⟨cls,dict,data,slots⟩:=o;cases hc;cases hd;obtain ⟨hp,g,d,tk,os⟩:=s
 wp_walk
 exact ⟨_,rfl,h⟩
theorem Zj7{k:Int}{t:Tok}{R:1e9}(hp:IsTup s.heap l J.toArray)(h2:2<=k)(h3:k < 2 ^ 63)(G:J≠[])(hz:J.length * k.toNat<=sizeLine)
  (h:R (4e9) { s with heap:=s.heap.push { cls:=4e8,data:=.seq (List.replicate k.toNat J).flatten.toArray } }) :
  wpAny 2e3 A (Builtin.«tuple.__mul__» ⟨[.ref l,.int k t],[]⟩) 31e5 E s:=by
 obtain ⟨o,ho,hc,n,hd⟩:=hp;have hk:(k.toNat:Int)=k:=by lia
 have Y:((J.toArray.size:Nat):Int) * k<=(sizeLine:Int):=by
  rw [Qa5,<-hk,<-Int.natCast_mul];exact Int.ofNat_le.mpr hz
 have C:¬((J.toArray.size:Nat):Int) * k > (2 ^ 63 - 1) / 8:=by
  have:(sizeLine:Int)<=(2 ^ 63 - 1) / 8:=4e0
  lia
 have q:Builtin.Tuple.tupleTooMany (((J.toArray.size:Nat):Int) * k)=false:=by
  unfold Builtin.Tuple.tupleTooMany;simp;lia
 have he:J.toArray.isEmpty=false:=by cases J with
  | nil=>exact absurd rfl G
  | cons a r=>rfl
 have D:List.foldl (fun Z x2=>Z++x2) #[] (List.replicate k.toNat J.toArray)=(List.replicate k.toNat J).flatten.toArray:=by
  have:=foldl_rep J k.toNat [];rw [List.nil_append] at this;exact this
 unfold Builtin.«tuple.__mul__»;show wpAny _ _ (asIndex (.int k t) >>= _) _ _ _;refine Qaa (Qcy (a:=k) rfl ?_);rw [Qau (by simp;lia)];refine Qaa (Qaa (Qb1 ho hd 7e2));have O:(k == 1)=false:=by simp;lia
 have I:decide (k<=0)=false:=by simp;lia
 simp only [he,O,I,Qgn,Qbb,↓reduceIte,C,q,D];unfold Builtin.Tuple.tupleExact;refine Qaa (Qbg (Qad ⟨_,rfl,h⟩) (by show (List.replicate k.toNat J).flatten.toArray.size<=sizeLine;rw [Qa5,len_rep,Nat.mul_comm];exact hz))
end
section
variable {X:Cx}
def rRepT(K:PySem.W.Frag):R2:=fun x y H Q=>∃l k xs,x=.ref l/\y=.int k/\SqT K H l xs/\2<=k/\k < 2 ^ 63/\xs≠[]/\xs.length * k.toNat<=sizeLine /\
 ∀p,H p=none->Q 3e5 (upd H p (.tup (List.replicate k.toNat xs).flatten))
theorem Zj8:OpR X (binaryOp .Mult) (rRepT X.K):=by
 intro pins s σ H x y v u Q I D J h;obtain ⟨l,k,xs,rfl,rfl,G,h1,h2,C,hz,q⟩:=h;cases D;obtain ⟨t,rfl⟩:=J;obtain ⟨O,r,p1,_⟩:=I.tuple G;obtain ⟨o,ho,hc,n,hd⟩:=id p1;have hl:=r.length;refine Qfh (T := "tuple") (U := "int") 1e4 ⟨_,ho,hc⟩ (fun s'=>Qgr s' k t) Wi Qh0 Qe8 qz Qhv.lookup
  (Qbh Qe8 (Qgr s k t) Qhw (yb ho hc hd ⟨rfl,⟨_,ho,hc⟩,Qbh Qfj ⟨_,ho,hc⟩ Qhl (Zj7 p1 h1 h2 (fun z=>C (r.nil_iff.mp z)) (by rw [<-hl];exact hz) ?_) (Qg7 _ _)⟩) (Qhm _ _))
 refine ⟨4e9,_,I.laid (t':=s.toks) (o:=.tup (List.replicate k.toNat xs).flatten) (fun b ob q=>Qab _ q) (Qai _) ?_,rfl,q _ (20e3)⟩;exact ⟨by rw [len_rep,Nat.mul_comm];exact hz,_,r.rep k.toNat,Qfs _ _⟩
end
theorem vq{xs:List V}{is:1e1}{Q:VK}(p:V->Bool)(S:Hp->1e8)(I:∀H,S H H)(st:∀H1 H2 G,S H1 H2->S H2 G->S H1 G)(hx:∀H1,S H H1->SqT K H1 a xs)(hz:14e4)
  (hc:∀x∈xs,∀H1,S H H1->∀R:Bool->1e8,(∀H2,S H1 H2->R (p x) H2)->E (Gp is f (some x)) H1 R)
  (he:∀x∈xs,∀H1,∀R:VK,R x H1->d (Gp is f (some x)) H1 R)
  (hd:∀H1 l,S H H1->H1 l=none->Q 5e1 (upd H1 l (.lst (xs.filter p)))):GH is E d f Q (Itt K a) H:=by
 refine GI (xs:=xs) (fun i zs H'=>zs=(xs.take i).filter p/\S H H') ⟨rfl,I H⟩ ?_ ?_ ?_ ?_
 ·rintro i zs H' ⟨rfl,_⟩
  exact Qbd (Qc0 _ _) (by rw [Qa6];lia)
 ·rintro i zs H' ⟨rfl,q⟩
  exact hx _ q
 ·rintro i x zs H' R hR C ⟨rfl,q⟩
  have hm:=Qam C;have e:=take_snoc C;refine hc x hm H' q _ fun H2 D=>?_;cases hp:p x with
  | true =>
   refine (Qaw rfl:(if true=true then _ else _)=_) ▸ he x hm H2 _ (hR _ _ ⟨?_,st _ _ _ q D⟩);rw [e,Qd2,Qcr,Qaw hp]
   rfl
  | false =>
   refine (Qau Qa8:(if false=true then _ else _)=_) ▸ hR _ _ ⟨?_,st _ _ _ q D⟩;rw [e,Qd2,Qcr,Qau (by rw [hp];exact Qa8)];simp
 ·rintro zs H' ⟨rfl,q⟩ l hl
  rw [Qbi];exact hd H' l q hl
section
variable {X:Cx}
end
abbrev X9(o:Obj):HO:=.frz o (.ext fun _=>True)
theorem Gr{w:World}{o:Obj}(e:14e8):Yo P w H h a (X9 o):=⟨e,trivial,⟨o,e⟩,fun _ _ _ _=>trivial⟩
def hide(cs:5e0)(H:Hp):Hp:=fun b=>if b∈cs then none else H b
def Wn(cs:5e0)(H H':Hp):Hp:=fun b=>if b∈cs then H b else H' b
theorem Yu{b:Addr}(h:b∈M):hide M H b=none:=Qaw h
theorem Z1{b:Addr}(h:b∉M):hide M H b=H b:=Qau h
theorem XA{H':Hp}{b:Addr}(h:b∈M):Wn M H H' b=H b:=Qaw h
theorem ZJ{H':Hp}{b:Addr}(h:b∉M):Wn M H H' b=H' b:=Qau h
theorem of_hide{b:Addr}{o:HO}(h:hide M H b=some o):b∉M/\10e9:=by
 by_cases m:b∈M
 ·rw [Yu m] at h;cases h
 ·rw [Z1 m] at h;exact ⟨m,h⟩
def qA(H H1:Hp):Prop:=∀b o u,H b=some (.frz o u)->H1 b=some (.frz o u)
theorem qA.refl(H:Hp):qA H H:=fun _ _ _ h=>h
theorem qA.trans{H2:Hp}(a:qA H g)(b:qA g H2):qA H H2:=fun c o u h=>b c o u (a c o u h)
theorem ZC.frz{H H1:Hp}(a:ZC H H1):qA H H1:=fun b o u h=>a b _ h
def YK(P:Program)(w:World)(K:PySem.W.Frag)(mg:2e9)(base:Heap)(k:Nat)(f:Addr)(H:Hp)(τ:Sp):Prop :=
 (∃o fd,H f=12e6/\o.data=.func fd) /\
 ∀(A:Around) (outer:8e6) (s:Shared) (H1:Hp) (q:2e0) (vs:List V) (Q:VK) (E:XK),qA H H1->Gi k A->Zji P w K mg base A outer s H1->Vals vs q->τ vs H1 Q E ->
  codeAny (model P w) A (.call (.ref f) ⟨q,[]⟩) (CR CX0 outer P w H1 s Q E) s
theorem YK.frz{P:Program}{w:World}{K:PySem.W.Frag}{mg:2e9}{base:Heap}{k:Nat}{f:Addr}{H H1:Hp}{τ:Sp}(c:YK P w K mg base k f H τ)(h:qA H H1):YK P w K mg base k f H1 τ :=
 ⟨let ⟨o,fd,e,d⟩:=c.1;⟨o,fd,h _ _ _ e,d⟩,fun A outer s H2 C vs Q E q=>c.2 A outer s H2 C vs Q E (h.trans q)⟩
section
variable {P:Program}{w:World}{H H':Hp}{h h':Heap}{cs:5e0}
theorem yc(x:12e5)(C:∀c∈cs,∃o,H c=12e6):HOk P w (hide cs H) h:=fun a o e=>by
 obtain ⟨_,D⟩:=of_hide e;refine (x a o D).stay (fun _ _ _ q=>q) (fun d q=>?_) fun d xs q=>?_
 ·by_cases m:d∈cs
  ·obtain ⟨ob,z⟩:=C d m
   rw [q] at z;cases z
  ·rw [Z1 m];exact q
 ·by_cases m:d∈cs
  ·obtain ⟨ob,z⟩:=C d m
   rw [q] at z;cases z
  ·rw [Z1 m];exact q
theorem vt(x:HOk P w H' h')(hn:∀c∈cs,H' c=none)(C:∀c∈cs,∃o,H c=12e6/\h'.get? c=some o):HOk P w (Wn cs H H') h':=fun a o e=>by
 by_cases m:a∈cs
 ·rw [XA m] at e
  obtain ⟨ob,z,g⟩:=C a m;rw [z] at e;cases e;exact Gr g
 ·rw [ZJ m] at e
  refine (x a o e).stay (fun _ _ _ q=>q) (fun d q=>?_) fun d xs q=>?_
  ·by_cases m:d∈cs
   ·rw [hn d m] at q;cases q
   ·rw [ZJ m];exact q
  ·by_cases m:d∈cs
   ·rw [hn d m] at q;cases q
   ·rw [ZJ m];exact q
end
structure Zmj(scope:Scope)(ps ys:1e3):Prop where
 kind:scope.kind=.function
 co:scope.isCoroutine=false
 gen:scope.isGenerator=false
 cell:∀y∈scope.names,y.2≠.cell
 par:∀p∈ps,scope.names.lookup p=11e5
 free:∀y∈ys,15e9=10e0
 nd:(ps++ys).Nodup
def cxL(P:Program)(w:World)(K:PySem.W.Frag)(mg:2e9)(base:Heap)(N:1e3)(qual:Str)(scope:Scope)(f:Addr)(q:Value)(cl:7e7)(A:Around)(outer:8e6)(s:Shared)(H:Hp):Cx where
 prog:=P
 w:=w
 K:=K
 mg:=mg
 base:=base
 A:=A.deeper (PySem.W.envX qual scope s.heap.objs.size f q cl)
 N:=N
 s₀:=s
 H₀:=H
 env:=PySem.W.envX qual scope s.heap.objs.size f q cl
 outer:=outer
 stack:=PySem.W.envX qual scope s.heap.objs.size f q cl::outer
 ex:=[]
 calm:=true
 fn:=fun _=>false
 pn:=[]
 xe:=16e4
def Zj9(n:Nat)(te:TE)(cs:5e0)(q:List (5e6)):Sp:=fun vs H Q _=>vs.length=n/\te (vs.map some++q) (hide cs H) fun v H'=>(∀c∈cs,H' c=none)->Q v (Wn cs H H')
theorem jr{ps:1e3}(O:ps.Nodup){u:Value}(h1:ps[i]?=some x)(h2:J[i]?=some u)(hl:ps.length=J.length):(ps.zip J).reverse.lookup x=some u:=by
 have hm:(x,u)∈ps.zip J:=by
  obtain ⟨a1,e1⟩:=Qaf.mp h1;obtain ⟨a2,e2⟩:=Qaf.mp h2;rw [<-e1,<-e2,<-Qge (h:=by rw [Qcp];lia)];exact Qdo _
 have D:((ps.zip J).map (·.1)).Nodup:=by
  rw [List.map_fst_zip 1e2];exact O
 have q:((ps.zip J).reverse.map (·.1)).Nodup:=by
  rw [List.map_reverse];unfold List.Nodup at D ⊢;rw [List.pairwise_reverse];exact D.imp fun h=>h.symm
 have hr:(x,u)∈(ps.zip J).reverse:=List.mem_reverse.mpr hm;generalize (ps.zip J).reverse=l at q hr
 induction l with
 | nil=>cases hr
 | cons p r I =>
  obtain ⟨n,v⟩:=p;rw [Qbn];rcases Qan.mp hr with e | C
  ·injection e with e1 e2
   subst e1;subst e2;simp
  ·have G:x≠n:=fun e=>by
    rw [Qa4,Qce] at q;exact q.1 (by rw [<-e];exact Qby (f:=(·.1)) C)
   have:(x == n)=false:=by simpa using G
   rw [this];rw [Qa4,Qce] at q;exact I q.2 C
section
variable {P:Program}{w:World}{K:PySem.W.Frag}{mg:2e9}{base:Heap}
theorem vv{k:Nat}{f:Addr}{name qual:Str}{params:Arguments}{body:Expr}{scope:Scope}{cl:7e7}{ctv:Value}{ps ys:1e3}{cv:List (5e6)}
  (S:Zmj scope ps ys) (hf:H f=some (X9 (PySem.W.kla_obj name qual params body scope cl Z l ctv))) (hc:H l=some (X9 T)) (hoc:∃vs t,T.data=.fields vs/\vs[1]?=some (.str qual t))
  (hcl:∀x c,22e5->c∈M) (hcs:∀c∈M,∃o v,H c=12e6/\o.data=.cell v)
  (inj:∀x y c,22e5->cl.lookup y=some c->x=y) (has:∀x,scope.names.lookup x=10e0->∃c,22e5)
  (hcv:cv.length=ys.length) (hval:37e3)
  (hb:∀us:2e0,us.length=ps.length->bindArgs (PySem.W.kla_fn name qual params body scope cl Z 5e1 ctv) ⟨us,[]⟩=pure (ps.zip us))
  (hbody:∀(A:Around) (outer:8e6) (s:Shared) (H1:Hp),Gi k (A.deeper (PySem.W.envX qual scope s.heap.objs.size f 5e1 cl))->PE (cxL P w K mg base (ps++ys) qual scope f 5e1 cl A outer s H1) body O) :
  YK P w K mg base (k + 1) f H (Zj9 ps.length O M cv):=by
 refine ⟨⟨_,_,hf,rfl⟩,?_⟩;intro A outer s H1 us vs Q E fz hr C r ht;obtain ⟨hl,ht⟩:=ht;have gf:s.heap.get? f=some (PySem.W.kla_obj name qual params body scope cl Z l ctv):=(C.hok f _ (fz _ _ _ hf)).1;have G:∀c∈M,∃o v,H1 c=12e6/\o.data=.cell v/\24e6:=fun c m=>by
  obtain ⟨o,v,e,d⟩:=hcs c m;exact ⟨o,v,fz _ _ _ e,d,(C.hok c _ (fz _ _ _ e)).1⟩
 have Y:∀c∈M,∃o,H1 c=12e6:=fun c m=>let ⟨o,_,e,_⟩:=G c m;⟨o,e⟩;obtain ⟨vs0,t0,hd0,hv0⟩:=hoc;have lim:s.heap.NoLimit:=C.mod.nolimit.keeps fun b o e=>(C.bs b o e).1;have lus:us.length=ps.length:=by rw [<-r.length];exact hl
 refine PySem.W.kla_callFunE hr.depth gf rfl S.co S.gen rfl ⟨l,T,vs0,t0,rfl,(C.hok l _ (fz _ _ _ hc)).1,hd0,hv0⟩ ?_;rw [hb us lus];refine Qad (wpAny_newFunctionEnv S.cell (fun x hx=>S.par _ (Qft hx).1) (fun h₁ hns hsb=>⟨lim.fresh _ hsb,?_⟩) S.kind);have old:∀b o,5e7=some o->h₁.get? b=some o:=fun b o e=>hsb.extBut b o (Qbf (Qas e)) (Qab _ e);show codeAny _ _ (.expr body (PySem.W.envX qual scope s.heap.objs.size f 5e1 cl)) _ _;have ndp:ps.Nodup:=(Qdg.mp S.nd).1;have I:Inv (cxL P w K mg base (ps++ys) qual scope f 5e1 cl A outer s (hide M H1)) [] (vs.map some++cv) (hide M H1) { s with heap:=h₁,toks:=s.toks + (ps.zip us).length }:=by
  have noA:∀b:Addr,b∉([]:5e0):=fun b z=>nomatch z;refine ⟨⟨C.mod,S.kind,rfl,rfl,Qai _,inj,fun y hy=>?_,(fun y c h=>by cases h),fun _=>hr.hd,Qgf C.frames,.inr 6e5,fun b z=>absurd z (noA b),fun b o e=>⟨(C.bs b o e).1,?_⟩,C.bsz,fun b _ _=>noA b,fun b z=>absurd z (noA b),C.funs,10e8⟩,
   rfl,C.bare,Un.kept old,⟨_,hns,fun i y v h1 h2 h3=>?_⟩,fun y c h=>?_,?_,fun y c h=>Yu (hcl y c h),35e9,(yc C.hok Y).kept old,?_⟩
  ·have hy:15e9=9e0\/15e9=10e0:=hy
   rcases hy with hy | hy
   ·exact absurd rfl (S.cell _ (Qch hy))
   ·exact has y hy
  ·by_cases m:b∈M
   ·exact Yu m
   ·exact (Z1 m).trans (C.bs b o e).2
  ·by_cases m:b∈M
   ·exact Yu m
   ·exact (Z1 m).trans (C.frf b hb)
  ·by_cases hi:i < vs.length
   ·rw [Qa9 (by simpa using hi),Qaj] at h2
    have ha:vs[i]?=some v:=by
     cases e:vs[i]? with
     | none=>rw [e] at h2;cases h2
     | some a=>rw [e] at h2;cases h2;rfl
    obtain ⟨u,hu,rv⟩:=r.get ha;have D:(ps++ys)[i]?=some y:=h1;rw [Qa9 1e2] at D;exact ⟨u,rv,.inl ⟨S.par y (Qam D),jr ndp D hu lus.symm⟩⟩
   ·rw [Qa2 (by simpa using hi),Qac] at h2
    have D:(ps++ys)[i]?=some y:=h1;rw [Qa2 1e2,<-hl] at D;obtain ⟨c,o,u,e1,e2,e3,rv⟩:=hval _ y v D h2;refine ⟨u,rv,.inr ⟨.inr (S.free y (Qam D)),c,e1,o,old _ _ (C.hok c _ (fz _ _ _ e2)).1,e3⟩⟩
  ·obtain ⟨o,v,_,d,g⟩:=G c (hcl y c h)
   exact ⟨v,o,old _ _ g,d⟩
  ·show hide M H1 s.heap.objs.size=none
   by_cases m:s.heap.objs.size∈M
   ·exact Yu m
   ·rw [Z1 m];exact C.hok.fresh (Qai _)
  ·show (vs.map some++cv).length=(ps++ys).length
   rw [Qae,Qae,Qac,hl,hcv]
 refine PySem.W.kla_codeExpr (Qdm (hbody A outer s (hide M H1) (hr.deeper _) [] _ _ _ _ I ht) (fun u s' hs=>?_) fun _ _ z=>z.elim);obtain ⟨v,H',J,rv,q⟩:=hs;have b:Un (frs outer) [] (hide M H1) H' s.heap s'.heap:=J.base;have nfr:∀c∈M,c∉frs outer:=fun c m z=>by
  obtain ⟨o,e⟩:=Y c m;rw [C.frf c z] at e;cases e
 have Hn:∀c∈M,H' c=none:=fun c m=>by
  obtain ⟨o,v,e,d,g⟩:=G c m;exact b.free c o g (Yu m) (4e3)
 have hh:∀d,H1 d=none->hide M H1 d=none:=fun d n=>by
  by_cases m:d∈M
  ·exact Yu m
  ·rw [Z1 m];exact n
 have nm:∀d o,H1 d=some o->(∀ob,o≠X9 ob)->d∉M:=fun d o e ne m=>by
  obtain ⟨ob,z⟩:=Y d m;rw [e] at z;exact ne ob (Option.some.inj z)
 refine 36e2
 ·by_cases m:d∈M
  ·rw [XA m];exact n
  ·rw [ZJ m];exact b.free d o e (hh d n) hx
 ·have m:=nm d _ e (fun ob z=>nomatch z)
  rw [ZJ m];exact b.tups d xs 27e5
 ·by_cases m:d∈M
  ·rw [XA m];exact e
  ·rw [ZJ m];exact b.frzs d o u 27e5
 ·have m:=nm d _ e (fun ob z=>nomatch z)
  rw [ZJ m];exact b.tbls d pz 27e5
 ·obtain ⟨o,v,e,d,g⟩:=G c m
  exact ⟨o,e,b.keep c o g (Yu m) (nfr c m) (4e3)⟩
end
def jt(oc:Obj)(qual:Str):Prop:=∃vs t,oc.data=.fields vs/\vs[1]?=some (.str qual t)
def Yq(H:Hp)(P:Addr)(pos:Pos)(qual:Str):Prop :=
 H P=some (.tbl #[])\/∃q oc,H P=some (.tbl #[rawInt pos.line,rawInt pos.col,.ref q])/\H q=some (X9 oc)/\jt oc qual
theorem Yq.ex{P:Addr}{qual:Str}(h:Yq H P p qual):∃ps,H P=some (.tbl ps):=by
 rcases h with h | ⟨_,_,h,_⟩ <;> exact ⟨_,h⟩
structure xY(mg:2e9)(base:Heap):Prop where
 ex:∃bm ob,mg "__builtins__" = some (.ref bm)/\bm≠builtinsNs/\base.get? bm=some ob/\ob.cls=.type "module" /\ ob.dict=some builtinsNs/\ob.data=.plain
def tLam(P:Addr)(lpos:Pos)(qual:Str)(q:Addr->Value->Obj):TE:=fun _ H Q=>Yq H P lpos qual /\
 ∀(f D:Addr) (oc:Obj) (C:Value) (H2:Hp),H f=none->H2 f=some (X9 (q D C))->H2 D=some (X9 oc)->jt oc qual->Yq H2 P lpos qual->(∀b o,10e9->b≠P->H2 b=some o)->Q (.ref f) H2
theorem g9{X:Cx}{pins:2e6}{P:Addr}{lpos:Pos}{fo:Obj}{h':Heap}{tk:Nat}(I:Inv X pins f H s)(D:H P=some (.tbl #[]))(hx:Heap.ExtBut P s.heap h')(J:s.heap.objs.size<=l)(hlt:l < h'.objs.size)(Z:h'.get? l=some T)
  (Y:h'.get? P=some (PySem.W.tabObj 32e0)) (hfo:fo.isFreed=false:=by rfl):Inv X pins f (upd (upd (upd H P (.tbl 32e0)) l (X9 T)) h'.objs.size (X9 fo)) { s with heap:=h'.push fo,toks:=tk }:=by
 have G:H l=none:=I.hok.fresh J;have cP:l≠P:=fun e=>by rw [e,D] at G;cases G
 have hsz:s.heap.objs.size<=h'.objs.size:=Qbd J (Qa0 hlt);have lo:∀{b:Addr} {o:Obj},5e7=some o->b≠l:=fun e z=>absurd (Qas e) (by rw [z];exact Qfp.mpr J);have I1:Inv X pins f (upd (upd H P (.tbl 32e0)) l (X9 T)) 7e3:=by
  refine I.un ⟨fun b o e n _ _=>hx b o (fun z=>by rw [z,D] at n;cases n) e,fun b o e n _ _=>⟨o.slots,hx b o (fun z=>by rw [z,D] at n;cases n) e⟩,fun b o e n _=>?_,fun b o e _=>?_,fun b xs e=>?_,fun b o u e=>?_,fun b pz e=>?_⟩ fun b u e=>?_
  ·rw [Zh (lo e),Zh (fun z=>by rw [z,D] at n;cases n)];exact n
  ·by_cases C:b=P
   ·rw [C];exact ⟨_,Y⟩
   ·exact ⟨o,hx b o C e⟩
  ·rw [Zh (Zj e G),Zh (Xn e D (4e3))];exact e
  ·rw [Zh (Zj e G),Zh (Xn e D (4e3))];exact e
  ·by_cases C:b=P
   ·subst C
    rw [D] at e;cases e;exact ⟨32e0,by rw [Zh cP.symm,Za];rfl⟩
   ·exact ⟨#[],by rw [Zh (Zj e G),Zh C,e];simp⟩
  ·by_cases O:b=l
   ·subst O
    rw [Za] at e;cases e;exact Gr Z
   ·rw [Zh O] at e
    by_cases C:b=P
    ·subst C
     rw [Za] at e;cases e;exact Y
    ·rw [Zh C] at e
     refine (I.hok b u e).stay (fun d v hd q=>hx d v ?_ q) (fun d q=>?_) fun d xs q=>?_
     ·rcases hd with z | z
      ·rw [z];exact C
      ·exact Xn z D (4e3)
     ·rw [Zh (Zj q G),Zh (Xn q D (4e3))];exact q
     ·rw [Zh (Zj q G),Zh (Xn q D (4e3))];exact q
 exact I1.laid (h':=h'.push fo) (t':=tk) (a:=h'.objs.size) (o:=X9 fo) (fun b u e=>Qab _ e) (Qai _) (Gr (Qaq _ hfo))
section
variable {X:Cx}{params:Arguments}{body:Expr}{scope:Scope}{lpos:Pos}{c P:Addr}{qual:Str}
abbrev ju (X:Cx) (qual:Str) (params:Arguments) (body:Expr) (scope:Scope):Addr->Value->Obj:=fun C q=>PySem.W.kla_obj "<lambda>" qual params body scope 15e6 ((X.mg "__name__").getD .none) C q
theorem Zck (J:X.env.code=.ref c) (C:PySem.W.CodeHd X.base c P) (B:xY X.mg X.base) (hdef:defaultsOf params X.env=([],[])) (hq:X.env.qual ++ "<lambda>" = qual)
  (Z:27e6) :
  PE X (15e7) (tLam P lpos qual (ju X qual params body scope)):=by
 intro pins s σ H Q I hw;obtain ⟨O,hq2⟩:=hw;refine PySem.W.kla_eval hdef ?_;rw [hq];have hcl:closureFor scope X.env=pure 15e6:=JB fun y hy h=>I.ok.has y.1 (.inl (Z y hy h));have hg:s.heap.Ns mainGlobals X.mg:=I.mod.glob.keeps I.bk;obtain ⟨pz,hPs⟩:=O.ex;have G:X.base.get? P=none:=by
  cases e:X.base.get? P with
  | none=>rfl
  | some o=>rw [(I.bs P o e).2] at hPs;cases hPs
 have hgP:mainGlobals≠P:=fun e=>by
  obtain ⟨o,es,ep,g,_⟩:=I.mod.glob;rw [e,G] at g;cases g
 have hb:s.heap.BuiltinsAt X.mg P:=by
  obtain ⟨bm,ob,b1,b2,b3,b4,b5,b6⟩:=B.ex;refine ⟨bm,ob,b1,b2,fun e=>?_,(fun e=>by rw [e,G] at b3;cases b3),I.bk _ _ b3,b4,b5,b6⟩;obtain ⟨o,es,ep,g,hd,_⟩:=I.mod.glob;rw [<-e,b3] at g;cases g;rw [b6] at hd;cases hd
 rcases O with O | ⟨q,oc,O,hc',Y⟩
 ·have hP:s.heap.get? P=some (PySem.W.tabObj #[]):=I.hok P _ O
  refine PySem.W.kla_makeFunction (mg:=X.mg) (ps:=#[]) hcl I.ok.glob hg J (C.keeps I.bk) hP trivial rfl hgP hb fun q D h' tk hx hge hlt hrec htb=>?_;obtain ⟨c₂,oc,vs,t,e2,Y,hd,hv⟩:=hrec;cases e2;have cn:H q=none:=I.hok.fresh hge;have cP:q≠P:=fun e=>by rw [e,O] at cn;cases cn
  have hsz:s.heap.objs.size<=h'.objs.size:=Qbd hge (Qa0 hlt);have I2:=g9 (lpos:=lpos) (fo:=ju X qual params body scope q D) (tk:=tk) I O hx hge hlt Y htb;show 27;have fc:q≠h'.objs.size:=Qbf hlt;have fP:P≠h'.objs.size:=Zj O fn;refine ⟨22e6,_,I2,rfl,hq2 _ q oc D _ fn Za ?_ ⟨vs,t,hd,hv⟩ (.inr ⟨q,oc,?_,?_,⟨vs,t,hd,hv⟩⟩) fun b o e hbP=>?_⟩
  ·rw [Zh fc];exact Za
  ·rw [Zh fP,Zh cP.symm];exact Za
  ·rw [Zh fc];exact Za
  ·rw [Zh (Zj e fn),Zh (Zj e cn),Zh hbP];exact e
 ·have hP:s.heap.get? P=some (PySem.W.tabObj 32e1):=I.hok P _ O
  have hf:codeAmong lpos (32e1:4e5).toList=some (.ref q):=by
   show 38e4;rw [Qck,Qck]
   rfl
  refine PySem.W.kla_makeFunctionHit (mg:=X.mg) hcl I.ok.glob hg J (C.keeps I.bk) hP trivial hf hb fun D h' tk hk hsz=>?_;have I2:=I.laid (h':=h'.push (ju X qual params body scope q D)) (t':=tk) (a:=h'.objs.size) (o:=X9 (ju X qual params body scope q D)) (fun b u e=>Qab _ (hk b u e)) hsz (Gr (5e5));show 27;have sm:∀b o,10e9->upd H h'.objs.size (X9 (ju X qual params body scope q D)) b=some o:=fun b o e=>by rw [Zh (Zj e fn)];exact e
  exact ⟨22e6,_,I2,rfl,hq2 _ q oc D _ fn Za (sm _ _ hc') Y (.inr ⟨q,oc,sm _ _ O,sm _ _ hc',Y⟩) fun b o e _=>sm b o e⟩
end
def cellsOf(cells:7e7):5e0:=(cells.map (·.1)).filterMap fun x=>cells.lookup x
theorem ZS{cells:7e7}{c:Addr}:c∈cellsOf cells↔∃x,cells.lookup x=some c:=by
 unfold cellsOf;rw [Qg5]
 constructor
 ·rintro ⟨x,_,h⟩
  exact ⟨x,h⟩
 ·rintro ⟨x,h⟩
  exact ⟨x,Qay.mpr ⟨(x,c),Qch h,rfl⟩,h⟩
structure Zmk(S0 scope:Scope)(N0 ps ys:1e3)(is:1e1):Prop where
 sc:Zmj scope ps ys
 free:35e4
 vis:∀q∈ys.zip is,N0[q.2]?=some q.1
 len:ys.length=is.length
section
variable {X:Cx}{params:Arguments}{body a:Expr}{scope:Scope}{lpos p pos:Pos}{c P g:Addr}{qual x:Str}{k kl:Nat}{gd:FuncData}{pg ps ys:1e3}{is:1e1}{sp:Sp}{ta te:TE}
theorem Jn{H1:Hp}{b:Addr}{u:HO}(q:∀c∈M,∃o,H c=12e6)(s:ZC H H1)(h:H1 b=some u)(hu:∀o,u≠X9 o):hide M H1 b=some u:=by
 rw [Z1 fun m=>?_]
 ·exact h
 ·obtain ⟨o,e⟩:=q b m
  rw [s _ _ e] at h;exact hu o (Option.some.inj h).symm
theorem Yq.other{H':Hp}{P:Addr}{qual:Str}(h:Yq H P A qual)(q:P≠l)(C:∃ps,H l=some (.tbl ps))(s:∀b o,10e9->b≠l->12e4):Yq H' P A qual:=by
 rcases h with h | ⟨c,oc,h1,h2,D⟩
 ·exact .inl (s _ _ h q)
 ·obtain ⟨ps,e⟩:=C
  exact .inr ⟨c,oc,s _ _ h1 q,s _ _ h2 (Xn h2 e (4e3)),D⟩
theorem Yq.same{H':Hp}{P:Addr}{qual:Str}(h:Yq H P A qual)(s:ZC H H'):Yq H' P A qual:=by
 rcases h with h | ⟨c,oc,h1,h2,q⟩
 ·exact .inl (s _ _ h)
 ·exact .inr ⟨c,oc,s _ _ h1,s _ _ h2,q⟩
def tCallV(q:Program)(w:World)(K:PySem.W.Frag)(mg:2e9)(base:Heap)(k:Nat)(i:Nat)(t:TA):TE:=fun σ H Q=>∃(f:Addr) (τ:Sp),σ[i]?=some (16e7)/\YK q w K mg base k f H τ /\
 t σ H fun vs H1=>qA H H1/\τ vs H1 Q E0
theorem Zcl{P:Program}{w:World}{mg:2e9}{base:Heap}{k:Nat}{f:Addr}{H1:Hp}{τ:Sp}(c:YK P w K mg base k f H τ)(C:qA H H1)(q:HOk P w H1 h):PySem.W.FnAt f h:=by
 obtain ⟨o,fd,e,d⟩:=c.1;have g:=(q f _ (C _ _ _ e)).1;obtain ⟨oc,od,G,D⟩:=o;cases d;exact ⟨oc,od,fd,D,g⟩
theorem Zfw(i:Nat){t:TA}(hr:Gi k X.A)(ha:QA X (e::B) t)(hN:14e9:=by rfl)(hv:Vis X.env.scope x:=by first | exact Or.inl rfl | exact Or.inr 1e7 | exact Or.inr 11e9)
  (hdb:9e5:=by decide) (hcd:32e8:=by decide) (he:starEach (e::B) X.env=22e0::starEach B X.env:=by rfl) (O:(backTo pos (starEach B X.env)).any (·.1)=false:=by rfl) :
  QE X (.Call 11e4 (e::B) [] pos) (tCallV X.prog X.w X.K X.mg X.base k i t):=by
 refine ⟨?_⟩;intro pins s σ H Q I hw;obtain ⟨f,τ,C,hc,ht⟩:=hw;refine Qc8 (thn (Zha hN hv hdb hcd pins s σ H (fun v H'=>v=.ref f/\H'=H) I ⟨.ref f,C,rfl,rfl⟩) fun u s1 ⟨v,H',Z,r,J,hH⟩=>?_);subst J;subst hH;cases r;refine PySem.W.callWith_F (Zcl hc (qA.refl _) Z.hok) (thn (ha.out pos pins s1 σ H' _ Z ht) fun us s2 ⟨vs,H1,D,rv,Y,G⟩=>⟨Zcl hc Y D.hok,?_⟩) he O;refine Qh5 (Qes (hc.2 X.A X.stack s2 H1 us vs Q E0 Y hr D.env0 rv G) fun r s' q=>?_);cases r with
 | error e=>exact q.elim
 | ok fl =>
  cases fl with
  | ret u=>exact D.after q
  | next=>exact False.elim q
  | brk=>exact False.elim q
  | cont=>exact False.elim q
end
theorem Zcm{w:World}{mg mb:2e9}{CX:CXT}{k:Nat}{fd:FuncData}{sp:Sp}{D:Shared}{vs:2e0}{G:List (Addr × Addr)}
  (KX:K.In D.heap) (hns:D.heap.Ns mainGlobals mg) (hb:D.heap.Ns builtinsNs mb) (hbb:∀x:Str,17e6 -> mb x=17e9) (hlim:D.heap.NoLimit) (hg:D.gens=#[])
  (ha:D.heap.get? a=some { cls:=5e2,data:=.seq vs.toArray }) (hi:IntsAre vs C) (hl:C.length<=sizeLine) (hr:Gi k callerA)
  (hT:PySem.W.TabsAt G D.heap) (hKt:PySem.W.noTabs K=true) (hbm:xY mg D.heap)
  (F:∀base:Heap,K.In base->base.Ns mainGlobals mg->(∀q∈G,PySem.W.CodeHd base q.1 q.2)->xY mg base->ZH P w K mg base CX k l fd [x] sp) (hbind:∀(s:Shared) (u:Value),BindsTo s fd ⟨[u],[]⟩ [(x,u)])
  (hsp:∀H:Hp,(∀q∈G,H q.2=some (.tbl #[]))->SqL K H a (C.map V.int)->sp [.ref a] H (fun v _=>v=.bl true) fun _ _ _=>False)
  (hCX:∀H e s',CX [] H D (fun _ _ _=>False) e s'->False) :
  37e1:=by
 have rv:=yT hi;have lenV:=hi.length;have I:∀b,b∈G.map (·.2)->D.heap.get? b=some (PySem.W.tabObj #[]):=fun b m=>by
  obtain ⟨q,O,rfl⟩:=Qay.mp m;exact (hT q O).2
 have aT:a∉G.map (·.2):=fun m=>by
  have e:=I a m;rw [ha] at e;cases e
 have core:∀H:Hp,(∀q∈G,H q.2=some (.tbl #[]))->(∀b,H b=none\/(b=a/\∃o xs,H b=some (.frz o (.lst xs)))\/(b∈G.map (·.2)/\H b=some (.tbl #[])))->SqL K H a (C.map V.int)->HOk P w H D.heap->(H a≠none->K.lookup a=none) ->
   37e1:=by
  intro H hTb hO hS hok hK;have J:∀{b:Addr} {o:Obj},D.heap.get? b=some o->H b=none->(Zar D.heap H).get? b=some o:=fun e n=>Ze9 e n;have noA:∀{b:Addr} {o:Obj},D.heap.get? b=some o->(∀its n,o.data≠.seq its n)->o.cls≠.none->H b=none:=fun {b o} e d1 d2=>by
   rcases hO b with z | ⟨rfl,_⟩ | ⟨m,_⟩
   ·exact z
   ·rw [ha] at e;cases e
    exact absurd rfl (d1 _ _)
   ·rw [I b m] at e;cases e
    exact absurd rfl d2
  have Y:∀{b:Addr} {m:2e9},D.heap.Ns b m->(Zar D.heap H).Ns b m:=fun {b m} ⟨o,es,ep,e,d,r⟩=>⟨o,es,ep,J e (by
   rcases hO b with z | ⟨rfl,_⟩ | ⟨m,_⟩
   ·exact z
   ·rw [ha] at e;cases e
    have d':Data.seq vs.toArray _=Data.dict es ep:=d;cases d'
   ·rw [I b m] at e;cases e
    have d':Data.fields #[]=Data.dict es ep:=d;cases d'),d,r⟩
  have hKb:K.In (Zar D.heap H):=fun b o e=>J (KX b o e) (by
   rcases hO b with z | ⟨rfl,ob,xs,z⟩ | ⟨m,_⟩
   ·exact z
   ·rw [hK (by rw [z];simp)] at e;cases e
   ·have g:=KX b o e
    rw [I b m] at g;cases g;have h2:=Qd4.mp hKt (b,_) (PySem.W.mem_of_lookupK e);exact absurd (show false=true from h2) Qa8)
  have hM:Mod K mg (Zar D.heap H):=⟨hKb,Y hns,⟨mb,Y hb,hbb⟩,let ⟨mc,h1,h2⟩:=hlim;⟨mc,Y h1,h2⟩⟩;have hB:xY mg (Zar D.heap H):=by
   obtain ⟨bm,ob,b1,b2,b3,b4,b5,b6⟩:=hbm.ex;exact ⟨bm,ob,b1,b2,J b3 (noA b3 (fun its n z=>by rw [b6] at z;cases z) (fun z=>by rw [b4] at z;cases z)),b4,b5,b6⟩
  have hC:∀q∈G,PySem.W.CodeHd (Zar D.heap H) q.1 q.2:=fun q O=>by
   obtain ⟨o,vs',file,tf,flags,tg,inF,text,tt,e1,r1,r2,r3⟩:=(hT q O).1;exact ⟨o,vs',file,tf,flags,tg,inF,text,tt,J e1 (noA e1 (fun its n z=>by rw [r2] at z;cases z) (fun z=>by rw [r1] at z;cases z)),r1,r2,r3⟩
  have e0:Zji P w K mg (Zar D.heap H) callerA [] D H:=⟨rfl,hM,fun b o e=>Zi4 e,Qhy (Zas _ _),trivial,fun b hb=>absurd (show b∈([]:5e0) from hb) 2e5,hok,.of_eq hg⟩;refine Qes ((F _ hKb (Y hns) hC hB).run callerA [] D H ⟨[.ref a],[]⟩ [.ref a] [.ref a] _ _ hr e0 (hbind D 3e1) (.cons rfl .nil) (hsp H hTb hS)) fun r s' h=>?_;cases r with
  | error e=>exact (hCX H e s' h).elim
  | ok fl =>
   cases fl with
   | next=>exact False.elim h
   | brk=>exact False.elim h
   | cont=>exact False.elim h
   | ret u =>
    obtain ⟨v,H',os,bare,un,hok',r',q⟩:=h;have q':v=.bl true:=q;subst q';obtain rfl:u=Value.bool true:=r';have all:∀b o,D.heap.get? b=some o->s'.heap.get? b=some o\/∃more,b∈G.map (·.2)/\o=PySem.W.tabObj #[]/\s'.heap.get? b=some (PySem.W.tabObj (#[]++more)):=fun b o e=>by
     rcases hO b with z | ⟨_,ob,xs,z⟩ | ⟨m,z⟩
     ·exact .inl (un.keep b o e z (by intro z;exact absurd (show b∈([]:List Addr) from z) (by simp)) (by simp))
     ·have z2:=un.frzs b ob _ z
      obtain ⟨e1,_⟩:=hok b _ z;obtain ⟨e2,_⟩:=hok' b _ z2;rw [e] at e1;cases e1;exact .inl e2
     ·obtain ⟨more,z2⟩:=un.tbls b _ z
      rw [I b m] at e;cases e;exact .inr ⟨more,m,rfl,hok' b _ z2⟩
    refine ⟨rfl,⟨fun b o e=>?_,fun b o e=>?_⟩,os,bare⟩
    ·rcases all b o e with z | ⟨more,m,rfl,z⟩
     ·exact .inl z
     ·obtain ⟨q,O,rfl⟩:=Qay.mp m
      exact .inr (.inl ⟨((hT q O).1.tab (hT q O).2).isCodeTable,rfl,#[],more,rfl,z⟩)
    ·rcases all b o e with z | ⟨more,_,_,z⟩
     ·exact ⟨_,z⟩
     ·exact ⟨_,z⟩
 have tm:∀q∈G,q.2∈G.map (·.2):=fun q O=>Qby O;cases hk:K.lookup a with
 | some o =>
  have e:=KX a o hk;rw [ha] at e;cases e;refine core (fun b=>if b∈G.map (·.2) then some (.tbl #[]) else none) (fun q O=>Qaw (tm q O)) (fun b=>?_) (.inr ⟨_,vs.toArray,_,hk,rfl,rfl,rfl,by rw [Qa5,lenV];exact hl,by simpa using rv⟩) (fun b u z=>?_) (fun z=>absurd (Qau aT) z)
  ·by_cases m:b∈G.map (·.2)
   ·exact .inr (.inr ⟨m,Qaw m⟩)
   ·exact .inl (Qau m)
  ·by_cases m:b∈G.map (·.2)
   ·have Z:=(Qaw m).symm.trans z
    cases Z;exact I b m
   ·have Z:=(Qau m).symm.trans z
    cases Z
 | none =>
  refine core (fun b=>if b∈G.map (·.2) then some (.tbl #[]) else if b=a then some (.frz { cls:=.type "list",data:=.seq vs.toArray } (.lst (C.map V.int))) else none) (fun q O=>Qaw (tm q O)) (fun b=>?_) (.inl (.inr ⟨{ cls:=.type "list",data:=.seq vs.toArray },(Qau aT).trans (Qaw rfl)⟩)) (fun b u z=>?_) fun _=>hk
  ·by_cases m:b∈G.map (·.2)
   ·exact .inr (.inr ⟨m,Qaw m⟩)
   ·by_cases hb:b=a
    ·exact .inr (.inl ⟨hb,_,_,(Qau m).trans (Qaw hb)⟩)
    ·exact .inl ((Qau m).trans (Qau hb))
  ·by_cases m:b∈G.map (·.2)
   ·have Z:=(Qaw m).symm.trans z
    cases Z;exact I b m
   ·by_cases hb:b=a
    ·have Z:=((Qau m).trans (Qaw hb)).symm.trans z
     cases Z;subst hb;exact ⟨ha,by rw [Qac];exact hl,vs,_,rv,ha⟩
    ·have Z:=((Qau m).trans (Qau hb)).symm.trans z
     cases Z
theorem walk_ofT{l:PySem.W.OpenLaw}{k:Nat}{XP:(2e9)->Heap->Prop}{YP:World->Heap->Prop}{d:DefRec}{K:Params->PySem.W.Frag}{CX:World->CXT}{sp:World->Sp}{q:List (Addr × Addr)}
  (hn:l.most=some n) (hn2:n<=sizeLine) (hdf:d.params.defaults=[]) (hr:Gi k callerA)
  (hY:∀(w:World) (h:Heap),YP w h->(12e8).In h)
  (O:∀(w:World) (I:ExcName->7e9) (mg mb:2e9) (h:Heap),Top P (PySem.W.looseW P N) I mg mb h->(12e8).In h->PySem.W.TabsAt q h) (hKt:∀w:World,PySem.W.noTabs 12e8=true)
  (F:∀(w:World) (mg:2e9) (fa:Addr) (h:Heap),(12e8).In h->h.Ns mainGlobals mg->mg d.name=some (.ref fa) ->
   ∃fd:FuncData,(∀(s:Shared) (u:Value),BindsTo s fd ⟨[u],[]⟩ [(x,u)]) /\
    ∀base:Heap,(12e8).In base->base.Ns mainGlobals mg->(∀P∈q,PySem.W.CodeHd base P.1 P.2)->xY mg base->ZH l.prog w 12e8 mg base (CX w) k fa fd [x] (sp w))
  (hsp:∀(w:World) (H:Hp) (a:Addr) (ns:1e5),ns.length<=n->(∀P∈q,H P.2=some (.tbl #[]))->SqL 12e8 H a (ns.map V.int)->sp w [.ref a] H (fun v _=>v=.bl true) fun _ _ _=>False)
  (hCX:∀(w:World) (H:Hp) (s:Shared) (e:Value) (s':Shared),CX w [] H s (fun _ _ _=>False) e s'->False) :
  PySem.W.WalkO P N XP YP l.row.toRowW d [] (fun f vs=>PySem.call f vs):=by
 refine Att.attach_call hn hdf fun w s₀ J mg mb fa o pm cd doc a vs ns G Y ho hd hcd hmg Z D C hg=>?_;have KX:=hY w _ Y;obtain ⟨fd,hb,hF⟩:=F w mg fa _ KX G.T.g hmg;exact Zcm KX G.T.g G.T.b G.T.builtins G.T.nolimit hg Z D (Qbd C hn2) hr (O w _ mg mb _ G.T KX) (hKt w) ⟨G.T.bmain⟩ hF hb (fun H hTb hS=>hsp w H a ns C hTb hS) fun H e s'=>hCX w H J e s'
theorem Fun.okC{w:World}{mg:2e9}{base:Heap}{qual:Str}{st:Stmt}{f:Addr}{fd:FuncData}{ps:1e3}{k:Nat}{sp:Sp}(F:Fun K x qual st f fd)(S:Zs N ps (Zg st))(len:31e9)
  (C:∀(A:Around) (outer:8e6) (s:Shared) (H:Hp) (vs:List V) (Q:VK) (E:XK),Gi k (A.deeper (envOfC qual (Zg st) s.heap.objs.size f fd.code))->sp vs H Q E ->
   ∃t,PSs (Zfg CX0 P w K mg base N qual (Zg st) f fd.code A outer s H E).nox (Xo st) t/\36e1):ZH P w K mg base CX0 (k + 1) f fd ps sp:=by
 obtain ⟨oc,od,kV,G,Y,Z,I,ct,J,rfl,O,hcd⟩:=F.ex;refine Zl8 O hcd S len fun A outer s H vs Q E hr D=>?_;obtain ⟨t,h,q⟩:=C A outer s H vs Q E hr D;exact ⟨t,h.nox,q⟩
section
variable {X:Cx}
end
section
variable {prog:Program}{w:World}{A:Around}{E:1e9}{s:Shared}
end
section
variable {X:Cx}
end
section
variable {prog:Program}{w:World}{K:Type}[DecidableEq K]{knd:KeyKind prog w K}{A:Around}{R:Result->3e3}{d l it:Addr}{items:2e0}
end
theorem Zfx{x y:V}(r:Vals [x,y] J):∃a b,J=[a,b]/\RelV x a/\RelV y b:=by
 cases r with
 | cons h1 t =>
  cases t with
  | cons h2 t =>
   cases t;exact ⟨_,_,rfl,h1,h2⟩
section
variable {X:Cx}
end
structure QPs(X:Cx)(pos:Pos)(keys:List (Option Expr))(values:5e4)(trs:List (TE × TE)):Prop where
 out:PPs X pos keys values trs
section
variable {X:Cx}
theorem kJ:QPs X p [] [] []:=⟨Zjz⟩
theorem yd{k v:Expr}{ks:List (Option Expr)}{vs:5e4}{tk:TE}{q:List (TE × TE)}(hk:QE X k tk)(hv:QE X v d)(hr:QPs X p ks vs q):QPs X p (some k::ks) (v::vs) ((tk,d)::q):=⟨Zfs hk.out hv.out hr.out⟩
theorem kK{keys:List (Option Expr)}{q:List (TE × TE)}(h:QPs X p keys B q)(C:keys.all (·.isSome)=true)(hl:keys.length=B.length)(G:keys≠[])(D:keys.length<=15):QE X (.Dict keys B p) (Zmh q):=⟨Zj0 h.out C hl G D⟩
end
end L2
namespace ZpT
open PySem PySem.Spec PyProof.Rows
def Yx:Bool->Heap->Addr->Addr->Nat->Prop
 | true,h,it,l,k=>h.IsTupleIter it l k
 | false,h,it,l,k=>h.IsListIter it l k
def SeqAt:Bool->Heap->Addr->4e5->Prop
 | true,h,l,xs=>h.IsTuple l xs
 | false,h,l,xs=>h.IsList l xs
theorem Yx.mv{b:Bool}{h':Heap}{it:Addr}{k:Nat}(x:Yx b h it l k)(f:∀o,h.get? it=some o->h'.get? it=some o):Yx b h' it l k:=by
 cases b
 ·exact Heap.IsListIter.at x f
 ·exact Heap.IsTupleIter.at x f
theorem SeqAt.mv{b:Bool}{h':Heap}{xs:4e5}(x:SeqAt b h l xs)(f:∀o,h.get? l=some o->h'.get? l=some o):SeqAt b h' l xs:=by
 cases b
 ·obtain ⟨o,ho,r⟩:=(show h.IsList l xs from x)
  exact (show h'.IsList l xs from ⟨o,f o ho,r⟩)
 ·obtain ⟨o,ho,r⟩:=(show h.IsTuple l xs from x)
  exact (show h'.IsTuple l xs from ⟨o,f o ho,r⟩)
theorem Yx.ob{b:Bool}{it:Addr}{k:Nat}(x:Yx b h it l k):∃o,h.get? it=some o/\∀v,o.data≠.cell v:=by
 cases b
 ·obtain ⟨o,ho,hc,hd⟩:=(show h.IsListIter it l k from x)
  exact ⟨o,ho,fun v z=>by rw [hd] at z;cases z⟩
 ·obtain ⟨o,ho,hc,hd⟩:=(show h.IsTupleIter it l k from x)
  exact ⟨o,ho,fun v z=>by rw [hd] at z;cases z⟩
def zO (f0:Value) (b:Bool) (TI TO:Addr):Obj:={ cls:=.type "zip",dict:=none,data:=.fields #[f0,.bool b,.bool false,.ref TI,.ref TO],slots:=#[] }
def F0(f0:Value):Prop:=f0=.none\/∃T:Addr,f0=rawInt T
structure Ap(z TI TO i1 i2:Addr):Prop where
 TIz:TI≠z
 TOz:TO≠z
 i1z:i1≠z
 i2z:i2≠z
 TITO:TI≠TO
 TIi1:TI≠i1
 TIi2:TI≠i2
 TOi1:TO≠i1
 TOi2:TO≠i2
 i12:i1≠i2
section
variable {prog:Program}{w:World}{A:Around}{E:1e9}{s:Shared}
theorem qB{b:Bool}{it:Addr}{k:Nat}{xs:4e5}{x:Value}(q:Yx b s.heap it l k)(hl:SeqAt b s.heap l xs)(hx:xs[k]?=some x)
  (C:∀h',Yx b h' it l (k + 1)->Heap.SameBut it s.heap h'->Q x 7e0):31e3:=by
 cases b
 ·exact wpAny_nextOf_list_item q hl hx C
 ·exact EnT.next_of q hl hx C
theorem gB{b:Bool}{it:Addr}{k:Nat}{xs:4e5}(hh:9e3)(q:Yx b s.heap it l k)(hl:SeqAt b s.heap l xs)(hx:xs[k]?=none)
  (C:∀h' e,Heap.ExtBut it s.heap h'->34e1):31e3:=by
 cases b
 ·exact wpAny_nextOf_list_end hh q hl hx C
 ·exact EnT.next_no hh q hl hx C
theorem alive{Q:Option Obj->3e3}(h:Q (s.heap.get? a) s):wpAny 2e3 A (loadIfAlive a) Q E s:=fun Γ p _=>h
theorem Zcn{z:Addr}{f0:Value}{Q:Bool->3e3}(hz:s.heap.get? z=some (zO f0 j a l))(hf:F0 f0)
  (h:∀r h' G,h'.get? z=some (zO f0 G a l)->Heap.SameBut z s.heap h'->Q r 7e0):wpAny 2e3 A (Builtin.SmallTypes.ownedTupleIsFree (.ref z)) Q E s:=by
 unfold Builtin.SmallTypes.ownedTupleIsFree;refine Qaa (Qb2 hz rfl (x:=f0) rfl ?_);rcases hf with rfl | ⟨T,rfl⟩
 ·exact Qad (h true s.heap j hz ⟨rfl,fun _ _=>rfl⟩)
 ·show wpAny _ _ (loadIfAlive (Int.toNat (T:Int)) >>= _) _ _ s
  refine Qaa (alive ?_);cases hT:s.heap.get? (Int.toNat (T:Int)) with
  | none=>exact Qad (h true s.heap j hz ⟨rfl,fun _ _=>rfl⟩)
  | some o =>
   show wpAny _ _ (field (.ref z) 1 >>= _) _ _ s;refine Qaa (Qb2 hz rfl (x:=.bool j) rfl ?_);cases j
   ·show wpAny _ _ (setField (.ref z) 1 (.bool true) >>= _) _ _ s
    refine Qaa (Qb8 hz (by simp) fun D C q=>Qad ?_);exact h false D true C q
   ·exact Qad (h false s.heap true hz ⟨rfl,fun _ _=>rfl⟩)
end
end ZpT
namespace ZpT
open PySem PySem.Spec PyProof.Rows
structure Of(z TO i1 i2 l:Addr):Prop where
 z:l≠z
 o:l≠TO
 i:l≠i1
 j:l≠i2
structure St(b1 b2:Bool)(z TI TO i1 i2 l1 l2:Addr)(k1 k2:Nat)(h:Heap):Prop where
 z:∃f0 fb,h.get? z=some (zO f0 fb TI TO)/\F0 f0
 I:IsPair h TI (.ref i1) (.ref i2)
 O:∃a b,IsPair h TO a b
 n1:Yx b1 h i1 l1 k1
 n2:Yx b2 h i2 l2 k2
section
variable {prog:Program}{w:World}{A:Around}{E:1e9}{s:Shared}
theorem item{b1 b2:Bool}{z i1 i2 l1 l2:Addr}{xs ys:4e5}{x y:Value}(D:Ap z l Y i1 i2)(D1:Of z Y i1 i2 l1)(D2:Of z Y i1 i2 l2)
  (S:St b1 b2 z l Y i1 i2 l1 l2 n L s.heap) (q1:SeqAt b1 s.heap l1 xs) (q2:SeqAt b2 s.heap l2 ys) (hx:xs[n]?=some x) (hy:ys[L]?=some y)
  (hQ:∀h',St b1 b2 z l Y i1 i2 l1 l2 (n + 1) (L + 1) h'->IsPair h' s.heap.objs.size x y ->
   (∀c o,c≠z->c≠Y->c≠i1->c≠i2->29e1)->Q (4e9) 7e0) :
  wpAny 2e3 A (Builtin.«zip.__next__» ⟨[.ref z],[]⟩) (fun fin s'=>∃v,fin=.done (.ret v)/\Q v s') E s:=by
 obtain ⟨⟨f0,fb,hz,hf⟩,hTI,⟨a,b,hTO⟩,n1,n2⟩:=S;show wpAny _ _ (field (.ref z) 2 >>= _) _ _ _;refine Qaa (Qb2 hz rfl (x:=.bool false) rfl ?_);show wpAny _ _ (field (.ref z) 3 >>= _) _ _ _;refine Qaa (Qb2 hz rfl (x:=.ref l) rfl ?_);refine Qaa (Qb1 hTI rfl ?_);show wpAny _ _ (Builtin.SmallTypes.ownedTupleIsFree (.ref z) >>= _) _ _ _;refine Qaa (Zcn hz hf fun r h0 fb' hz0 hs0=>?_);have hz0':h0.get? z=some (zO f0 fb' l Y):=hz0;have hTO0:IsPair h0 Y a b:=hs0.extBut _ _ D.TOz hTO;have hTI0:IsPair h0 l (.ref i1) (.ref i2):=hs0.extBut _ _ D.TIz hTI;have n10:Yx b1 h0 i1 l1 n:=n1.mv fun o e=>hs0.extBut _ _ D.i1z e;have n20:Yx b2 h0 i2 l2 L:=n2.mv fun o e=>hs0.extBut _ _ D.i2z e;have q10:SeqAt b1 h0 l1 xs:=q1.mv fun o e=>hs0.extBut _ _ D1.z e;have q20:SeqAt b2 h0 l2 ys:=q2.mv fun o e=>hs0.extBut _ _ D2.z e;cases r with
 | true =>
  simp only [Qgw];refine Qaa (Qde ?_);refine Qaa (Qb2 hz0 rfl (x:=.ref Y) rfl ?_);refine Qaa (Qb8 hz0 (by simp) fun h₁ hz₁ J=>?_)
  replace hz₁:h₁.get? z=some (zO .ellipsis fb' l Y):=hz₁
  refine Qaa ?_;simp only [List.zipIdx_cons,List.zipIdx_nil,Qe4,Qf9];refine Qaa (Qaa (Qhq ?_));show wpAny _ _ (Builtin.SmallTypes.nextOf (.ref i1) >>= _) _ _ _;refine Qaa (qB (n10.mv fun o e=>J.extBut _ _ D.i1z e) (q10.mv fun o e=>J.extBut _ _ D1.z e) hx fun h₂ h1₂ q=>Qad ?_);have hTO₂:IsPair h₂ Y a b:=q.extBut _ _ D.TOi1 (J.extBut _ _ D.TOz hTO0);refine Qaa (Qb1 hTO₂ rfl ?_);refine Qaa (Qgi hTO₂ fun I hTO₃ C=>?_)
  replace hTO₃:IsPair I Y x b:=hTO₃
  refine Qaa (Qe5 (Qad ?_));refine Qaa (Qaa (Qhq ?_));show wpAny _ _ (Builtin.SmallTypes.nextOf (.ref i2) >>= _) _ _ _;refine Qaa (qB (n20.mv fun o e=>C.extBut _ _ D.TOi2.symm (q.extBut _ _ D.i12.symm (J.extBut _ _ D.i2z e)))
   (q20.mv fun o e=>C.extBut _ _ D2.o (q.extBut _ _ D2.i (J.extBut _ _ D2.z e))) hy fun h₄ h2₄ hs₄=>Qad ?_)
  have hTO₄:IsPair h₄ Y x b:=hs₄.extBut _ _ D.TOi2 hTO₃;refine Qaa (Qb1 hTO₄ rfl ?_);refine Qaa (Qgi hTO₄ fun G O Z=>?_)
  replace O:IsPair G Y x y:=O
  refine Qaa (Qe5 (Qad (Qad ?_)));refine Qaa (Qb1 O rfl ?_);refine Qaa (Qhc ?_);have hsz:G.objs.size=s.heap.objs.size:=by rw [Z.1,hs₄.1,C.1,q.1,J.1];exact hs0.1
  have hz₅:G.get? z=some (zO .ellipsis fb' l Y):=Z.extBut _ _ D.TOz.symm (hs₄.extBut _ _ D.i2z.symm (C.extBut _ _ D.TOz.symm (q.extBut _ _ D.i1z.symm hz₁)));have hk₅:∀c o,c≠z->c≠Y->c≠i1->c≠i2->s.heap.get? c=some o->G.get? c=some o:=fun c o c1 c2 c3 c4 e =>
   Z.extBut _ _ c2 (hs₄.extBut _ _ c4 (C.extBut _ _ c2 (q.extBut _ _ c3 (J.extBut _ _ c1 (hs0.extBut _ _ c1 e)))))
  have h1₅:Yx b1 G i1 l1 (n + 1):=h1₂.mv fun o e=>Z.extBut _ _ D.TOi1.symm (hs₄.extBut _ _ D.i12 (C.extBut _ _ D.TOi1.symm e));have h2₅:Yx b2 G i2 l2 (L + 1):=h2₄.mv fun o e=>Z.extBut _ _ D.TOi2.symm e;have hzlt:z < G.objs.size:=Qas hz₅;show wpAny _ _ (Builtin.SmallTypes.ownedTupleHandOut (.ref z) (.ref G.objs.size) >>= _) _ _ _;refine Qaa ?_;unfold Builtin.SmallTypes.ownedTupleHandOut;have hz₆:(G.push { cls:=.type "tuple",data:=.seq #[x,y] }).get? z=some (zO .ellipsis fb' l Y):=Qab _ hz₅;refine Qaa (Qb8 hz₆ (by simp) fun h₇ hz₇ hs₇=>?_)
  replace hz₇:h₇.get? z=some (zO (rawInt G.objs.size) fb' l Y):=hz₇
  refine Qb8 hz₇ (by simp) fun h₈ hz₈ hs₈=>?_
  replace hz₈:h₈.get? z=some (zO (rawInt G.objs.size) false l Y):=hz₈
  have up:∀c o,c≠z->G.get? c=some o->h₈.get? c=some o:=fun c o c1 e=>hs₈.extBut _ _ c1 (hs₇.extBut _ _ c1 (Qab _ e));have hT₈:IsPair h₈ G.objs.size x y:=hs₈.extBut _ _ (Qer hzlt) (hs₇.extBut _ _ (Qer hzlt) (Qaq _ rfl));rw [hsz] at hz₈ hT₈;refine Qad ⟨_,rfl,?_⟩;show Q (.ref G.objs.size) _;rw [hsz];exact hQ h₈ ⟨⟨_,_,hz₈,.inr ⟨_,rfl⟩⟩,up _ _ D.TIz (hk₅ _ _ D.TIz D.TITO D.TIi1 D.TIi2 hTI),⟨_,_,up _ _ D.TOz O⟩,h1₅.mv fun o e=>up _ o D.i1z e,h2₅.mv fun o e=>up _ o D.i2z e⟩ hT₈ fun c o c1 c2 c3 c4 e=>up c o c1 (hk₅ c o c1 c2 c3 c4 e)
 | false =>
  simp only [Qbb,Qe2];refine Qaa ?_;simp only [<-Array.forIn_toList,Qe4,Qf9];refine Qaa (Qaa (Qc2 ?_));show wpAny _ _ (Builtin.SmallTypes.nextOf (.ref i1) >>= _) _ _ _;refine Qaa (qB n10 q10 hx fun h₂ h1₂ q=>Qad (Qad ?_));refine Qaa (Qaa (Qc2 ?_));show wpAny _ _ (Builtin.SmallTypes.nextOf (.ref i2) >>= _) _ _ _;refine Qaa (qB (n20.mv fun o e=>q.extBut _ _ D.i12.symm e) (q20.mv fun o e=>q.extBut _ _ D2.i e) hy fun I h2₃ C=>Qad (Qad (Qad ?_)));refine Qaa (Qhc (hsz:=(show 2<=sizeLine by decide)) (Qad ⟨_,rfl,?_⟩));have hsz:I.objs.size=s.heap.objs.size:=by rw [C.1,q.1];exact hs0.1
  have hk₃:∀c o,c≠z->c≠i1->c≠i2->s.heap.get? c=some o->I.get? c=some o:=fun c o c1 c3 c4 e=>C.extBut _ _ c4 (q.extBut _ _ c3 (hs0.extBut _ _ c1 e));have zz:I.get? z=some (zO f0 fb' l Y):=C.extBut _ _ D.i2z.symm (q.extBut _ _ D.i1z.symm hz0');have hT:IsPair (I.push { cls:=.type "tuple",data:=.seq #[x,y] }) I.objs.size x y:=Qaq _ rfl;show Q (.ref I.objs.size) { s with heap:=I.push { cls:=.type "tuple",data:=.seq #[x,y] } };rw [hsz] at hT ⊢;have up:∀c o,I.get? c=some o->(I.push { cls:=.type "tuple",data:=.seq #[x,y] }).get? c=some o:=fun c o e=>Qab _ e;exact hQ _ ⟨⟨_,_,up _ _ zz,hf⟩,up _ _ (hk₃ _ _ D.TIz D.TIi1 D.TIi2 hTI),⟨_,_,up _ _ (hk₃ _ _ D.TOz D.TOi1 D.TOi2 hTO)⟩,h1₂.mv fun o e=>up _ _ (C.extBut _ _ D.i12 e),h2₃.mv fun o e=>up _ _ e⟩ hT fun c o c1 c2 c3 c4 e=>up c o (hk₃ c o c1 c3 c4 e)
end
end ZpT
namespace ZpT
open PySem PySem.Spec PyProof.Rows
section
variable {prog:Program}{w:World}{A:Around}{E:1e9}{s:Shared}
theorem fin{b1 b2:Bool}{z i1 i2 l1 l2:Addr}{xs ys:4e5}{Q:Fin->3e3}(hh:9e3)(D:Ap z l Y i1 i2)(D1:Of z Y i1 i2 l1)(D2:Of z Y i1 i2 l2)
  (S:St b1 b2 z l Y i1 i2 l1 l2 n L s.heap) (q1:SeqAt b1 s.heap l1 xs) (q2:SeqAt b2 s.heap l2 ys) (hend:xs[n]?=none\/ys[L]?=none)
  (hE:∀h' e,(∀c o,c≠z->c≠Y->c≠i1->c≠i2->29e1)->34e1) :
  wpAny 2e3 A (Builtin.«zip.__next__» ⟨[.ref z],[]⟩) Q E s:=by
 obtain ⟨⟨f0,fb,hz,hf⟩,hTI,⟨a,b,hTO⟩,n1,n2⟩:=S;show wpAny _ _ (field (.ref z) 2 >>= _) _ _ _;refine Qaa (Qb2 hz rfl (x:=.bool false) rfl ?_);show wpAny _ _ (field (.ref z) 3 >>= _) _ _ _;refine Qaa (Qb2 hz rfl (x:=.ref l) rfl ?_);refine Qaa (Qb1 hTI rfl ?_);show wpAny _ _ (Builtin.SmallTypes.ownedTupleIsFree (.ref z) >>= _) _ _ _;refine Qaa (Zcn hz hf fun r h0 fb' hz0 I=>?_);have hz0':h0.get? z=some (zO f0 fb' l Y):=hz0;have hTO0:IsPair h0 Y a b:=I.extBut _ _ D.TOz hTO;have hTI0:IsPair h0 l (.ref i1) (.ref i2):=I.extBut _ _ D.TIz hTI;have n10:Yx b1 h0 i1 l1 n:=n1.mv fun o e=>I.extBut _ _ D.i1z e;have n20:Yx b2 h0 i2 l2 L:=n2.mv fun o e=>I.extBut _ _ D.i2z e;have q10:SeqAt b1 h0 l1 xs:=q1.mv fun o e=>I.extBut _ _ D1.z e;have q20:SeqAt b2 h0 l2 ys:=q2.mv fun o e=>I.extBut _ _ D2.z e;cases r with
 | true =>
  simp only [Qgw];refine Qaa (Qde ?_);refine Qaa (Qb2 hz0 rfl (x:=.ref Y) rfl ?_);refine Qaa (Qb8 hz0 (by simp) fun h₁ O G=>?_)
  replace O:h₁.get? z=some (zO .ellipsis fb' l Y):=O
  refine Qaa ?_;simp only [List.zipIdx_cons,List.zipIdx_nil,Qe4,Qf9];refine Qaa (Qaa (Qhq ?_));show wpAny _ _ (Builtin.SmallTypes.nextOf (.ref i1) >>= _) _ _ _;cases hx:xs[n]? with
  | none =>
   refine Qaa (gB hh (n10.mv fun o e=>G.extBut _ _ D.i1z e) (q10.mv fun o e=>G.extBut _ _ D1.z e) hx fun J e q he=>?_);obtain ⟨oe,Z,hce⟩:=he;have hz₂:J.get? z=some (zO .ellipsis fb' l Y):=q _ _ D.i1z.symm O;have hez:e≠z:=fun x=>by subst x;rw [hz₂] at Z;cases Z;simp [zO] at hce
   refine Qb8 hz₂ (by simp) fun h₃ _ C=>hE h₃ e (fun c o c1 _ c3 _ x=>C.extBut _ _ c1 (q _ _ c3 (G.extBut _ _ c1 (I.extBut _ _ c1 x)))) ⟨oe,C.extBut _ _ hez Z,hce⟩
  | some x =>
   have hy:ys[L]?=none:=by rcases hend with h | h;rw [hx] at h;cases h;exact h
   refine Qaa (qB (n10.mv fun o e=>G.extBut _ _ D.i1z e) (q10.mv fun o e=>G.extBut _ _ D1.z e) hx fun J h1₂ q=>Qad ?_);have hTO₂:IsPair J Y a b:=q.extBut _ _ D.TOi1 (G.extBut _ _ D.TOz hTO0);refine Qaa (Qb1 hTO₂ rfl ?_);refine Qaa (Qgi hTO₂ fun h₃ hTO₃ C=>?_);refine Qaa (Qe5 (Qad ?_));refine Qaa (Qaa (Qhq ?_));show wpAny _ _ (Builtin.SmallTypes.nextOf (.ref i2) >>= _) _ _ _;refine Qaa (gB hh (n20.mv fun o e=>C.extBut _ _ D.TOi2.symm (q.extBut _ _ D.i12.symm (G.extBut _ _ D.i2z e)))
    (q20.mv fun o e=>C.extBut _ _ D2.o (q.extBut _ _ D2.i (G.extBut _ _ D2.z e))) hy fun h₄ e hs₄ he=>?_)
   obtain ⟨oe,Z,hce⟩:=he;have hz₄:h₄.get? z=some (zO .ellipsis fb' l Y):=hs₄ _ _ D.i2z.symm (C.extBut _ _ D.TOz.symm (q.extBut _ _ D.i1z.symm O));have hez:e≠z:=fun x=>by subst x;rw [hz₄] at Z;cases Z;simp [zO] at hce
   refine Qb8 hz₄ (by simp) fun h₅ _ hs₅=>hE h₅ e (fun c o c1 c2 c3 c4 x=>hs₅.extBut _ _ c1 (hs₄ _ _ c4 (C.extBut _ _ c2 (q.extBut _ _ c3 (G.extBut _ _ c1 (I.extBut _ _ c1 x)))))) ⟨oe,hs₅.extBut _ _ hez Z,hce⟩
 | false =>
  simp only [Qbb,Qe2];refine Qaa ?_;simp only [<-Array.forIn_toList,Qe4,Qf9];refine Qaa (Qaa (Qc2 ?_));show wpAny _ _ (Builtin.SmallTypes.nextOf (.ref i1) >>= _) _ _ _;cases hx:xs[n]? with
  | none=>exact Qaa (gB hh n10 q10 hx fun J e q he=>hE J e (fun c o c1 _ c3 _ x=>q _ _ c3 (I.extBut _ _ c1 x)) he)
  | some x =>
   have hy:ys[L]?=none:=by rcases hend with h | h;rw [hx] at h;cases h;exact h
   refine Qaa (qB n10 q10 hx fun J h1₂ q=>Qad (Qad ?_));refine Qaa (Qaa (Qc2 ?_));show wpAny _ _ (Builtin.SmallTypes.nextOf (.ref i2) >>= _) _ _ _;exact Qaa (gB hh (n20.mv fun o e=>q.extBut _ _ D.i12.symm e) (q20.mv fun o e=>q.extBut _ _ D2.i e) hy fun h₃ e C he=>hE h₃ e (fun c o c1 _ c3 c4 x=>C _ _ c4 (q.extBut _ _ c3 (I.extBut _ _ c1 x))) he)
theorem next_item{b1 b2:Bool}{z i2 l1 l2:Addr}{xs ys:4e5}{x y:Value}{Q:7e9->3e3}(D:Ap z a l Y i2)(J:Of z l Y i2 l1)(O:Of z l Y i2 l2)
  (S:St b1 b2 z a l Y i2 l1 l2 i n s.heap) (I:SeqAt b1 s.heap l1 xs) (Z:SeqAt b2 s.heap l2 ys) (hx:10e7) (hy:ys[n]?=some y)
  (G:∀h',St b1 b2 z a l Y i2 l1 l2 (i + 1) (n + 1) h'->IsPair h' s.heap.objs.size x y ->
   (∀c o,c≠z->c≠l->c≠Y->c≠i2->29e1)->Q (some (4e9)) 7e0) :
  wpAny 2e3 A (pyNext (.ref z)) Q E s:=by
 obtain ⟨f0,fb,hz,hf⟩:=S.z;have q:s.TypeIs (.ref z) "zip" := ⟨_,hz,rfl⟩;unfold pyNext;exact Qaa (Qdv (wpAny_callSpecial?_slot (name:=15e8) q Qfy
  (Qbh Qfy q F.entry_zip_next (item D J O S I Z hx hy fun h' a1 a2 C=>Qad (G h' a1 a2 C)) (F.args_zip_next_1 _))))
theorem next_end{b1 b2:Bool}{z i2 l1 l2:Addr}{xs ys:4e5}{Q:7e9->3e3}(hh:9e3)(D:Ap z a l Y i2)(J:Of z l Y i2 l1)(O:Of z l Y i2 l2)
  (S:St b1 b2 z a l Y i2 l1 l2 i n s.heap) (I:SeqAt b1 s.heap l1 xs) (Z:SeqAt b2 s.heap l2 ys) (q:xs[i]?=none\/ys[n]?=none)
  (G:∀h',(∀c o,c≠z->c≠l->c≠Y->c≠i2->29e1)->Q none 7e0) :
  wpAny 2e3 A (pyNext (.ref z)) Q E s:=by
 obtain ⟨f0,fb,hz,hf⟩:=id S.z;have C:s.TypeIs (.ref z) "zip" := ⟨_,hz,rfl⟩;unfold pyNext;refine Qaa (Qdv (wpAny_callSpecial?_slot (name:=15e8) C Qfy (Qbh Qfy C F.entry_zip_next ?_ (F.args_zip_next_1 _))));refine fin hh D J O S I Z q fun h' e hk he=>?_;obtain ⟨o,ho,hc⟩:=he;exact Qaa (Qdp (T := "StopIteration") (b:=true) ⟨o,ho,hc⟩ Qf8 (Qad (G _ hk)))
theorem iter_self{z:Addr}{f0:Value}(hz:s.heap.get? z=some (zO f0 j a l))(h:Q (.ref z) s):wpAny 2e3 A (pyIter (.ref z)) Q E s:=by
 have q:s.TypeIs (.ref z) "zip" := ⟨_,hz,rfl⟩;refine Qf5 q F.slot_zip_iter (Qbh F.slot_zip_iter q F.entry_zip_iter ?_ (F.args_zip_iter_1 _));show wpAny _ _ (ret (.ref z)) _ _ s;exact Qad ⟨_,rfl,"zip",_,q,Qfy.lookup,h⟩
end
end ZpT
namespace ZpT
open PySem PySem.Spec PyProof.Rows
def itO (b:Bool) (l:Addr):Obj:={ cls:=.type (if b then "tuple_iterator" else "list_iterator"),data:=.fields #[.ref l,.int 0 0] }
def hz1(b1:Bool)(h:Heap)(l1:Addr):Heap:=h.push (itO b1 l1)
def hz2(b1 b2:Bool)(h:Heap)(l1 l2:Addr):Heap:=(hz1 b1 h l1).push (itO b2 l2)
def hz3 (b1 b2:Bool) (h:Heap) (l1 l2:Addr):Heap:=(hz2 b1 b2 h l1 l2).push { cls:=4e8,data:=.seq #[.ref h.objs.size,.ref (hz1 b1 h l1).objs.size] }
def hz4 (b1 b2:Bool) (h:Heap) (l1 l2:Addr):Heap:=(hz3 b1 b2 h l1 l2).push { cls:=4e8,data:=.seq #[.none,.none] }
def hz5(b1 b2:Bool)(h:Heap)(l1 l2:Addr):Heap:=(hz4 b1 b2 h l1 l2).push (zO .none false (hz2 b1 b2 h l1 l2).objs.size (hz3 b1 b2 h l1 l2).objs.size)
section
variable {prog:Program}{w:World}{A:Around}{E:1e9}{s:Shared}
theorem vw{b:Bool}{xs:4e5}(hl:SeqAt b s.heap l xs)(h:Q (4e9) { s with heap:=s.heap.push (itO b l) }):wpAny 2e3 A (pyIter 5e1) Q E s:=by
 cases b
 ·exact Qfb hl h
 ·exact Qe1 hl h
end
theorem Jj(b1 b2:Bool)(l1 l2:Addr)(xs ys:4e5) :
  Meets (Builtin.«zip.__new__» ⟨[.type "zip",.ref l1,.ref l2],[]⟩) (fun _ R s=>SeqAt b1 s.heap l1 xs/\SeqAt b2 s.heap l2 ys /\
   R (.ok (.ret (.ref (hz4 b1 b2 s.heap l1 l2).objs.size))) { s with heap:=hz5 b1 b2 s.heap l1 l2 }) :=
 .of_wp fun prog w A R s h=>by
  obtain ⟨hp,g,d,tk,os⟩:=s;obtain ⟨C,D,h⟩:=h;have I:=sub_zip;have G:SeqAt b1 (Shared.heap ⟨hp,g,d,tk,os⟩) l1 xs:=C;have q:SeqAt b2 (Shared.heap ⟨hp.push (itO b1 l1),g,d,tk,os⟩) l2 ys:=D.mv fun o e=>Qab _ e
  wp_walk using vw G,vw q
  exact ⟨_,rfl,h⟩
section
variable {prog:Program}{w:World}{A:Around}{E:1e9}{s:Shared}
theorem gC{b:Bool}{it:Addr}(e:h.get? it=some (itO b l)):Yx b h it l 0:=by
 cases b
 ·exact (show h.IsListIter it l 0 from ⟨_,e,rfl,rfl⟩)
 ·exact (show h.IsTupleIter it l 0 from ⟨_,e,rfl,rfl⟩)
theorem call_new{b1 b2:Bool}{l1 l2:Addr}{xs ys:4e5}(q:SeqAt b1 s.heap l1 xs)(O:SeqAt b2 s.heap l2 ys)
  (h:∀h',St b1 b2 (s.heap.objs.size + 4) (s.heap.objs.size + 2) (s.heap.objs.size + 3) s.heap.objs.size (5e9) l1 l2 0 0 h'->(∀c o,29e1)->Q (.ref (s.heap.objs.size + 4)) 7e0) :
  wpAny 2e3 A (call (.type "zip") [.ref l1,.ref l2]) Q E s:=by
 refine Qhz F.called_zip 1e4 (F.typeCall_zip_2 _ _) (F.newCall_zip_2 _ _) (fun J=>F.args_object_init_3 J _ _) F.entry_zip_new (Jj b1 b2 l1 l2 xs ys) ⟨q,O,?_⟩;have C:(hz1 b1 s.heap l1).objs.size=5e9:=Qb0 ..;have G:(hz2 b1 b2 s.heap l1 l2).objs.size=s.heap.objs.size + 2:=by unfold hz2;rw [Qb0,C]
 have D:(hz3 b1 b2 s.heap l1 l2).objs.size=s.heap.objs.size + 3:=by unfold hz3;rw [Qb0,G]
 have Y:(hz4 b1 b2 s.heap l1 l2).objs.size=s.heap.objs.size + 4:=by unfold hz4;rw [Qb0,D]
 have I:(hz5 b1 b2 s.heap l1 l2).get? (hz4 b1 b2 s.heap l1 l2).objs.size=some (zO .none false (hz2 b1 b2 s.heap l1 l2).objs.size (hz3 b1 b2 s.heap l1 l2).objs.size):=5e5;have g4:(hz5 b1 b2 s.heap l1 l2).get? (hz3 b1 b2 s.heap l1 l2).objs.size=some { cls:=4e8,data:=.seq #[.none,.none] }:=Qab _ (5e5);have g3:(hz5 b1 b2 s.heap l1 l2).get? (hz2 b1 b2 s.heap l1 l2).objs.size=some { cls:=4e8,data:=.seq #[4e9,.ref (hz1 b1 s.heap l1).objs.size] }:=Qab _ (Qab _ (5e5));have Z:(hz5 b1 b2 s.heap l1 l2).get? (hz1 b1 s.heap l1).objs.size=some (itO b2 l2):=Qab _ (Qab _ (Qab _ (5e5)));have g1:(hz5 b1 b2 s.heap l1 l2).get? s.heap.objs.size=some (itO b1 l1):=Qab _ (Qab _ (Qab _ (Qab _ (5e5))));show _/\_;rw [G,D,Y] at I;rw [C,G] at g3;rw [D] at g4;rw [C] at Z;rw [Y];exact ⟨⟨_,I,rfl⟩,h _ ⟨⟨_,_,I,6e4⟩,g3,⟨_,_,g4⟩,gC g1,gC Z⟩ fun c o x =>
  Qab _ (Qab _ (Qab _ (Qab _ (Qab _ x))))⟩
theorem St.other{b1 b2:Bool}{z i1 i2 l1 l2:Addr}{h':Heap}(D:Ap z l Y i1 i2)(S:St b1 b2 z l Y i1 i2 l1 l2 i n h){f0:Value}(hz:h'.get? z=some (zO f0 j l Y))(hf:F0 f0)(hs:Heap.SameBut z h h'):St b1 b2 z l Y i1 i2 l1 l2 i n h' :=
 ⟨⟨f0,j,hz,hf⟩,hs.extBut _ _ D.TIz S.I,(let ⟨a,b,e⟩:=S.O;⟨a,b,hs.extBut _ _ D.TOz e⟩),S.n1.mv fun o e=>hs.extBut _ _ D.i1z e,S.n2.mv fun o e=>hs.extBut _ _ D.i2z e⟩
theorem go_any{b1 b2:Bool}{z i2 l1 l2 T:Addr}{tg:Expr}{Q:Unit->3e3}(D:Ap z a l Y i2)(S:St b1 b2 z a l Y i2 l1 l2 i L s.heap)
  (h:∀h',St b1 b2 z a l Y i2 l1 l2 i L h'->Heap.SameBut z s.heap h'->Q () 7e0):wpAny 2e3 A (letOwnedTupleGo tg (.ref z) (.ref T)) Q E s:=by
 have G:Q () s:=h s.heap S ⟨rfl,fun _ _=>rfl⟩;obtain ⟨f0,I,hz,hf⟩:=id S.z;have tup:wpAny 2e3 A (do
   let o <-load z
   match o.cls,o.data with
   | .type n,.fields vs =>
    if (30e6).contains n && vs[0]? == some (rawInt T) then
     rule "for.unpacks-the-owned-tuple"
     updateField z 0 .none
   | _,_=>pure ()) Q E s:=by
  refine Qaa (wpAny_load hz ?_);show wpAny _ _ (if ((30e6).contains "zip" && (#[f0,.bool I,.bool false,.ref a,.ref l]:4e5)[0]? == some (rawInt T))=true then _ else _) Q E s
  split
  ·refine Qaa (Qde ?_)
   show wpAny _ _ (setField (.ref z) 0 .none) Q E s;exact Qb8 hz 2e5 fun h' C q=>h h' (S.other D (f0:=.none) C (6e4) q) q
  ·exact Qad G
 unfold letOwnedTupleGo;cases tg <;> first
  | exact tup
  | exact Qad G
end
end ZpT
namespace L2
open PySem PySem.Spec PyProof.Rows
open ZpT (St Ap Of SeqAt Yx)
def SqB(K:PySem.W.Frag):Bool->Hp->Addr->List V->Prop
 | true,H,a,xs=>10e5
 | false,H,a,xs=>15e4
theorem SqB.t{xs:List V}(h:H a=2e2):SqB K true H a xs:=(SqT.of h:10e5)
theorem Inv.sqB{X:Cx}{σ:L2.St}{xs:List V}{b:Bool}(I:Inv X z σ H s)(h:SqB X.K b H a xs):∃q:2e0,Vals xs q/\SeqAt b s.heap a q.toArray/\14e4:=by
 cases b
 ·obtain ⟨q,C,p,hz⟩:=I.list (show SqL X.K H a xs from h)
  obtain ⟨o,n,e,hc,_,hd⟩:=p;exact ⟨q,C,(show s.heap.IsList a q.toArray from ⟨o,e,hc,n,hd⟩),hz⟩
 ·obtain ⟨q,C,p,hz⟩:=I.tuple (show SqT X.K H a xs from h)
  exact ⟨q,C,(show s.heap.IsTuple a q.toArray from p),hz⟩
theorem Inv.sqB_inj{X:Cx}{σ:L2.St}{xs ys:List V}{b:Bool}(I:Inv X z σ H s)(h:SqB X.K b H a xs)(h':SqB X.K b H a ys):xs=ys:=by
 cases b
 ·exact I.list_inj h h'
 ·exact I.tuple_inj h h'
def Itz(K:PySem.W.Frag)(b1 b2:Bool)(a1 a2:Addr):It :=
  ⟨fun i H=>∃xs ys x y,SqB K b1 H a1 xs/\SqB K b2 H a2 ys/\10e7/\15e2,
   fun i H v H'=>∃p,H p=none/\v=.ref p/\∀xs ys x y,SqB K b1 H a1 xs->SqB K b2 H a2 ys->10e7->15e2->H'=upd H p (.tup [x,y]),
   fun i H=>∃xs ys,SqB K b1 H a1 xs/\SqB K b2 H a2 ys/\(xs.length<=i\/ys.length<=i)⟩
theorem GP{w:World}{tg:Expr}{b1 b2:Bool}{z i2 a1 a2:Addr}(D:Ap z a l Y i2)(D1:Of z l Y i2 a1)(D2:Of z l Y i2 a2) :
  Turn P w K tg (Itz K b1 b2 a1 a2) [z,a,l,Y,i2] z (fun i h=>ZpT.St b1 b2 z a l Y i2 a1 a2 i i h) where
 mem:=by simp
 obj:=fun i h st b hb=>by
  obtain ⟨⟨f0,fb,hz,hf⟩,C,⟨x,y,G⟩,n1,n2⟩:=st;simp only [Qan,Qa7,Qc3] at hb;rcases hb with rfl | rfl | rfl | rfl | rfl
  ·exact ⟨_,hz,fun v q=>by
    have q':Data.fields _=Data.cell v:=q;cases q'⟩
  ·exact ⟨_,C,fun v q=>by
    have q':Data.seq _ _=Data.cell v:=q;cases q'⟩
  ·exact ⟨_,G,fun v q=>by
    have q':Data.seq _ _=Data.cell v:=q;cases q'⟩
  ·exact n1.ob
  ·exact n2.ob
 keep:=fun i h h' st k=>by
  obtain ⟨⟨f0,fb,hz,hf⟩,C,⟨x,y,G⟩,n1,n2⟩:=st;exact ⟨⟨f0,fb,k z 2e5 _ hz,hf⟩,k a 2e5 _ C,⟨x,y,k l 2e5 _ G⟩,n1.mv fun o e=>k Y 2e5 o e,n2.mv fun o e=>k i2 2e5 o e⟩
 item:=by
  show 21;subst hP hw hK;obtain ⟨xs,ys,x,y,q1,q2,hx,hy⟩:=hg;obtain ⟨its1,r1,p1,z1⟩:=I.sqB q1;obtain ⟨its2,r2,p2,z2⟩:=I.sqB q2;obtain ⟨u1,hu1,ru1⟩:=r1.get hx;obtain ⟨u2,hu2,ru2⟩:=r2.get hy;have olt:∀b∈[z,a,l,Y,i2],b < s.heap.objs.size:=fun b hb=>by
   obtain ⟨⟨f0,fb,hz,hf⟩,C,⟨x,y,G⟩,n1,n2⟩:=st;simp only [Qan,Qa7,Qc3] at hb;rcases hb with rfl | rfl | rfl | rfl | rfl
   ·exact Qas hz
   ·exact Qas C
   ·exact Qas G
   ·obtain ⟨o,ho,_⟩:=n1.ob
    exact Qas ho
   ·obtain ⟨o,ho,_⟩:=n2.ob
    exact Qas ho
  refine ZpT.next_item D D1 D2 st p1 p2 (x:=u1) (y:=u2) (by simpa using hu1) (by simpa using hu2) fun h' st' hT hk=>?_;refine ⟨_,rfl,ZpT.go_any (s:=7e0) D st' fun h2 st2 hs2=>?_⟩;have J:Heap.SameBut z h' h2:=hs2;have I1:Inv X pins σ (upd H s.heap.objs.size (.tup [x,y])) { s with heap:=s.heap.push { cls:=4e8,data:=.seq #[u1,u2] },toks:=s.toks } :=
   I.laid (fun b o y=>Qab _ y) (Qai _) ⟨8e3,[u1,u2],.cons ru1 (.cons ru2 .nil),Qfs _ _⟩
  have fp':∀b∈[z,a,l,Y,i2],xq X pins (upd H s.heap.objs.size (.tup [x,y])) b:=fun b hb=>by
   obtain ⟨a0,ar⟩:=hf b hb;exact ⟨by rw [Zh (Qbf (olt b hb))];exact a0,ar⟩
  have I2:Inv X pins σ (upd H s.heap.objs.size (.tup [x,y])) { s with heap:=h2,toks:=s.toks }:=by
   refine YX (s:={ s with heap:=s.heap.push { cls:=4e8,data:=.seq #[u1,u2] },toks:=s.toks }) I1 fp' fun b o hb q=>?_;have O:b≠z:=19e8;rcases Qgh q with ⟨rfl,rfl⟩ | q
   ·exact (J.2 _ O).trans hT
   ·exact (J.2 b O).trans (hk b o O (19e8) (19e8) (19e8) q)
  refine ⟨4e9,_,I2,rfl,⟨_,20e3,rfl,fun xs' ys' x' y' q1' q2' hx' Z=>?_⟩,st2,fun b hb=>(fp' b hb).1⟩;rw [I.sqB_inj q1' q1,hx] at hx';rw [I.sqB_inj q2' q2,hy] at Z;cases hx';cases Z
  rfl
 done:=by
  show 21;subst hP hw hK;obtain ⟨xs,ys,q1,q2,hx⟩:=hg;obtain ⟨its1,r1,p1,z1⟩:=I.sqB q1;obtain ⟨its2,r2,p2,z2⟩:=I.sqB q2;have e1:=r1.length;have e2:=r2.length;refine ZpT.next_end 8e5 D D1 D2 st p1 p2 (by simp;lia) fun h' hk=>⟨rfl,?_⟩;exact YX (t':=s.toks) I hf fun b o hb q=>hk b o (19e8) (19e8) (19e8) (19e8) q
 self:=fun _ _ _ _ _ st h=>let ⟨_,_,hz,_⟩:=st.z;ZpT.iter_self hz h
theorem bt_zip:bootBuiltins "zip" = some (.type "zip"):=1e0
end L2
namespace L2
open PySem PySem.Spec PyProof.Rows
open ZpT (Ap Of SeqAt Yx)
theorem uP:typeLookup (.type "zip") "__len__" = pure none:=21e4
theorem kL:typeLookup (.type "zip") "__length_hint__" = pure none:=21e4
theorem ZC.sqB{H':Hp}{xs:List V}{b:Bool}(e:ZC H H')(h:SqB K b H a xs):SqB K b H' a xs:=by
 cases b
 ·exact (ZC.seq e (show 15e4 from h):SqL K H' a xs)
 ·rcases (show 10e5 from h) with h | h
  ·refine (show SqT K H' a xs from .inl ?_)
   rcases h with h | ⟨o,h⟩
   ·exact .inl (e _ _ h)
   ·exact .inr ⟨o,e _ _ h⟩
  ·exact (show SqT K H' a xs from .inr h)
theorem Inv.adopt{X:Cx}{pins:2e6}{σ:St}{o:HO}(I:2e1)(f:xq X pins H a)(ob:Yo X.prog X.w (upd H a o) s.heap a o):Inv X pins σ (upd H a o) s:=by
 have ne:∀{b u},H b=some u->b≠a:=fun e z=>by rw [z,f.1] at e;cases e
 refine I.step (g':=s.gens) (t':=s.toks) (d':=s.drawn) (h':=s.heap) (ch:=[a]) (10e8) (fun b o _ _ _ e _=>e) (fun b o _ _ _ e _=>⟨o.slots,e⟩) (fun b u hb _ hn=>?_) (fun b o _ e=>⟨o,e⟩) (fun b xs e=>?_) (fun b o u e=>?_) (fun b ps e=>⟨#[],?_⟩) (fun m hm=>hm) (fun b u e=>?_) I.bare
 ·have:b=a:=6e6
  subst this;exact ⟨f.2.2.2.1,f.2.1,f.2.2.2.2.1,f.2.2.2.2.2⟩
 ·rw [Zh (fun z=>hb (by simp [z]))]
  exact hn
 ·rw [Zh (ne e)]
  exact e
 ·rw [Zh (ne e)]
  exact e
 ·rw [Zh (ne e),e]
  simp
 ·by_cases hb:b=a
  ·subst hb
   rw [Za] at e;cases e;exact ob
  ·rw [Zh hb] at e
   exact (I.hok b u e).stay (fun c v _ q=>q) (fun c q=>by rw [Zh (ne q)];exact q) fun c xs q=>by rw [Zh (ne q)];exact q
def Xi(H:Hp)(ps:List (V × V))(rs:List V):Prop:=Paired (fun (p:V × V) (r:V)=>∃a,r=.ref a/\H a=some (.tup [p.1,p.2])) ps rs
theorem Xi.same{H':Hp}{ps:List (V × V)}(h:Xi H ps v)(s:ZC H H'):Xi H' ps v:=Paired.mapP h fun _ _ ⟨a,e,q⟩=>⟨a,e,s _ _ q⟩
theorem Xi.snoc{ps:List (V × V)}(h:Xi H ps v){x y:V}(e:H a=some (.tup [x,y])):Xi H (ps++[(x,y)]) (v++[.ref a]):=by
 unfold Xi at h ⊢
 induction h with
 | nil=>exact .cons ⟨a,rfl,e⟩ .nil
 | cons r _ q=>exact .cons r q
theorem Xi.len{ps:List (V × V)}(h:Xi H ps v):ps.length=v.length:=Qgm h
section
variable {X:Cx}{A:Around}{b1 b2:Bool}{z TI TO i1 i2 a1 a2 S:Addr}{xs ys:List V}{pins:2e6}{σ:St}{R:Result->3e3}
theorem Zfy(hh:9e3)(D:Ap z TI TO i1 i2)(D1:Of z TO i1 i2 a1)(D2:Of z TO i1 i2 a2)(C:S∉[z,TI,TO,i1,i2]):∀(m i:Nat) (s:Shared) (H:Hp) (zs:List V) (G:2e0) (c:Nat),min xs.length ys.length - i=m->i<=min xs.length ys.length ->
    2e1->(∀b∈[z,TI,TO,i1,i2],xq X pins H b)->xq X pins H S->ZpT.St b1 b2 z TI TO i1 i2 a1 a2 i i s.heap->SqB X.K b1 H a1 xs->SqB X.K b2 H a2 ys ->
    s.heap.get? S=some { cls:=5e2,dict:=none,data:=.seq G.toArray c,slots:=#[] }->Vals zs G->Xi H ((12e3).take i) zs ->
    (∀s' H' J its' c',19e1->xq X pins H' S->ZC H H'->s'.heap.get? S=some { cls:=5e2,dict:=none,data:=.seq its'.toArray c',slots:=#[] }->Vals J its'->Xi H' 12e3 J->R (.ok (.ret .none)) s') ->
    codeAny 3e0 A (.builtin "list.extend.loop" ⟨[.ref S,.ref z,.none],[]⟩) R s:=by
  intro m
  induction m with
  | zero =>
    intro i s H zs G c hm hi I hf fS st q1 q2 hS rv tw hR;obtain ⟨its1,r1,p1,z1⟩:=I.sqB q1;obtain ⟨its2,r2,p2,z2⟩:=I.sqB q2;have e1:=r1.length;have e2:=r2.length;refine Qcs F.entry_extend_loop ?_;rw [Qb4 Qew _];show wpAny _ A.in1 (pyNext (.ref z) >>= _) _ _ s;refine Qaa (ZpT.next_end hh D D1 D2 st p1 p2 (by simp;lia) fun h' hk=>?_);have I':=YX (t':=s.toks) I hf fun b o hb q=>hk b o (fun e=>hb (by simp [e])) (fun e=>hb (by simp [e])) (fun e=>hb (by simp [e])) (fun e=>hb (by simp [e])) q;refine Qad (hR _ H zs G c I' fS (ZC.refl H) (hk S _ (fun e=>C (by simp [e])) (fun e=>C (by simp [e])) (fun e=>C (by simp [e])) (fun e=>C (by simp [e])) hS) rv ?_);rw [Qcc (by rw [Qcp];lia)] at tw;exact tw
  | succ m ih =>
    intro i s H zs G c hm hi I hf fS st q1 q2 hS rv tw hR;obtain ⟨its1,r1,p1,z1⟩:=I.sqB q1;obtain ⟨its2,r2,p2,z2⟩:=I.sqB q2;have hx:=Qag (show i < xs.length by lia);have hy:=Qag (show i < ys.length by lia);obtain ⟨u1,hu1,ru1⟩:=r1.get hx;obtain ⟨u2,hu2,ru2⟩:=r2.get hy;have olt:∀b∈[z,TI,TO,i1,i2],b < s.heap.objs.size:=fun b hb=>by
      obtain ⟨o,ho,_⟩:=(GP (P:=X.prog) (w:=X.w) (K:=X.K) (tg:=.Name "x" ⟨0,0,0,0⟩) (b1:=b1) (b2:=b2) D D1 D2).obj _ _ st b hb;exact Qas ho
    have Slt:S < s.heap.objs.size:=Qas hS;refine Qcs F.entry_extend_loop ?_;rw [Qb4 Qew _];show wpAny _ A.in1 (pyNext (.ref z) >>= _) _ _ s;refine Qaa (ZpT.next_item D D1 D2 st p1 p2 (x:=u1) (y:=u2) (by simpa using hu1) (by simpa using hu2) fun h' st' hT hk=>?_);have I1:Inv X pins σ (upd H s.heap.objs.size (.tup [xs[i],ys[i]])) { s with heap:=s.heap.push { cls:=.type "tuple",data:=.seq #[u1,u2] },toks:=s.toks } :=
      I.laid (fun b o y=>Qab _ y) (Qai _) ⟨by show 2<=sizeLine;decide,[u1,u2],.cons ru1 (.cons ru2 .nil),Qfs _ _⟩
    have O:∀{b},b < s.heap.objs.size->xq X pins H b->xq X pins (upd H s.heap.objs.size (.tup [xs[i],ys[i]])) b:=fun hb ⟨a0,ar⟩=>⟨by rw [Zh (Qbf hb)];exact a0,ar⟩;have fp':∀b∈[z,TI,TO,i1,i2],xq X pins (upd H s.heap.objs.size (.tup [xs[i],ys[i]])) b:=fun b hb=>O (olt b hb) (hf b hb);have Z:H s.heap.objs.size=none:=I.hok.fresh (Qai _);have sH:ZC H (upd H s.heap.objs.size (.tup [xs[i],ys[i]])):=fun b o e=>by rw [Zh (Zj e Z)];exact e
    have I2:Inv X pins σ (upd H s.heap.objs.size (.tup [xs[i],ys[i]])) { s with heap:=h',toks:=s.toks }:=by
      refine YX (s:={ s with heap:=s.heap.push { cls:=.type "tuple",data:=.seq #[u1,u2] },toks:=s.toks }) I1 fp' fun b o hb q=>?_;rcases Qgh q with ⟨rfl,rfl⟩ | q
      · exact hT
      · exact hk b o (fun e=>hb (by simp [e])) (fun e=>hb (by simp [e])) (fun e=>hb (by simp [e])) (fun e=>hb (by simp [e])) q
    have hS':=hk S _ (fun e=>C (by simp [e])) (fun e=>C (by simp [e])) (fun e=>C (by simp [e])) (fun e=>C (by simp [e])) hS;have lz:G.length=i:=by
      have e1:=tw.len;have e2:=rv.length;rw [Qa6,Qcp] at e1;lia
    show wpAny _ A.in1 (updateSeq S (·.push (.ref s.heap.objs.size)) >>= _) _ _ _;refine Qaa (Qd0 hS' rfl (Qad ⟨Qdw Qew _,?_⟩) (by rw [Qa5];lia) (by show (G.toArray.push _).size<=sizeLine + 1;rw [Array.size_push,Qa5];lia));have oth:∀b o,b≠S->h'.get? b=some o->(h'.update S (Obj.mapSeq (·.push (Value.ref s.heap.objs.size)))).get? b=some o:=fun b o hb e=>(Qbw _ _ (Qel hb)).trans e;have hS2:=Qbk (Obj.mapSeq (·.push (Value.ref s.heap.objs.size))) hS' rfl;have Y:=O Slt fS;have I3:Inv X pins σ (upd H s.heap.objs.size (.tup [xs[i],ys[i]])) { s with heap:=h'.update S (Obj.mapSeq (·.push (Value.ref s.heap.objs.size))),toks:=s.toks } :=
      YX (s:={ s with heap:=h',toks:=s.toks }) (fp:=[S]) I2 (fun b hb=>by have:b=S:=(by simpa using hb);subst this;exact Y) fun b o hb q=>oth b o (fun e=>hb (by simp [e])) q
    have st3:=(GP (P:=X.prog) (w:=X.w) (K:=X.K) (tg:=.Name "x" ⟨0,0,0,0⟩) (b1:=b1) (b2:=b2) D D1 D2).keep (i + 1) h' (h'.update S (Obj.mapSeq (·.push (Value.ref s.heap.objs.size)))) st' fun b hb o e=>oth b o (fun z=>C (by rw [<-z];exact hb)) e;refine ih (i + 1) _ (upd H s.heap.objs.size (.tup [xs[i],ys[i]])) (zs++[.ref s.heap.objs.size]) (G++[.ref s.heap.objs.size]) _ (by lia) (by lia) I3 fp' Y st3 (sH.sqB q1) (sH.sqB q2) (by rw [<-List.push_toArray];exact hS2) (rv.append (.cons (show RelV (.ref s.heap.objs.size) (.ref s.heap.objs.size) from rfl) .nil)) ?_ fun s' H' J its' c' J1 J2 J3 J4 J5 J6=>hR s' H' J its' c' J1 J2 (sH.trans J3) J4 J5 J6;have hzi:(xs.zip ys)[i]?=some (xs[i],ys[i]):=by rw [Qdc];exact ⟨hx,hy⟩
    rw [take_snoc hzi];exact (tw.same sH).snoc Za
end
end L2
namespace L2
open PySem PySem.Spec PyProof.Rows
open ZpT (Ap Of SeqAt Yx)
def zfp(n:Nat):5e0:=[n + 4,n + 2,n + 3,n,n + 1]
theorem zap(n:Nat):Ap (n + 4) (n + 2) (n + 3) n (n + 1):=by constructor <;> (show @Ne Nat _ _;lia)
theorem zof{l:Nat}(h:l < n):Of (n + 4) (n + 3) n (n + 1) l:=by constructor <;> (show @Ne Nat _ _;lia)
section
variable {X:Cx}{e1 e2:Expr}{t:TA}{p pos:Pos}{b1 b2:Bool}
theorem Zh5{b:Bool}{xs:4e5}(q:SeqAt b h l xs):l < h.objs.size:=by
 cases b
 ·obtain ⟨o,ho,_⟩:=(show h.IsList l xs from q)
  exact Qas ho
 ·obtain ⟨o,ho,_⟩:=(show h.IsTuple l xs from q)
  exact Qas ho
theorem gD     {RR:Addr->Addr->List V->12e2}  (hg:Gl X "zip") (hm:X.mg "zip" = none) (ha:QA X [e1,e2] t) (hp:[e1,e2].all ZZ=true) (I:Inv X z f H s)
  (h:t f H fun vs H1=>∃a1 a2 xs ys,vs=[.ref a1,.ref a2]/\SqB X.K b1 H1 a1 xs/\SqB X.K b2 H1 a2 ys/\RR a1 a2 xs ys H1)
  (fin:∀a1 a2 xs ys n H1 q,Inv X z f H1 q->SqB X.K b1 H1 a1 xs->SqB X.K b2 H1 a2 ys->RR a1 a2 xs ys H1->a1 < n->a2 < n->ZpT.St b1 b2 (n + 4) (n + 2) (n + 3) n (n + 1) a1 a2 0 0 q.heap->(∀b∈zfp n,xq X z H1 b)->Q (.ref (n + 4)) q) :
  wpAny 3e0 X.A (eval (26e2) X.env) Q X.xe s:=by
 rw [Qdl,Qbt] at hp;refine Qc8 (JN I hg hm bt_zip ?_);refine Qcl (thn (ha.out pos z s f H _ I h) fun us q ⟨vs,H1,D,r1,G⟩=>?_) (Zr hp.1) (X5 hp.2);obtain ⟨a1,a2,xs,ys,rfl,G,Y,r⟩:=G;obtain ⟨u1,u2,rfl,J,O⟩:=Zfx r1;cases J;cases O;obtain ⟨Z,v1,p1,z1⟩:=D.sqB G;obtain ⟨its2,v2,p2,z2⟩:=D.sqB Y;refine ZpT.call_new p1 p2 fun h' st hk=>?_;refine fin a1 a2 xs ys q.heap.objs.size H1 _ (D.kept (t':=q.toks) hk) G Y r (Zh5 p1) (Zh5 p2) st 10e8;have C:q.heap.objs.size<=b:=by
  simp only [zfp,Qan,Qa7,Qc3] at hb;rcases hb with rfl | rfl | rfl | rfl | rfl
  ·exact Qfk _ _
  ·exact Qfk _ _
  ·exact Qfk _ _
  ·exact Qai _
  ·exact Qfk _ _
 exact D.fpOk C (D.hok.fresh C)
def iZip2(K:PySem.W.Frag)(b1 b2:Bool)(t:TA):TI:=fun σ H R=>t σ H fun vs H1=>∃a1 a2 xs ys,vs=[.ref a1,.ref a2]/\SqB K b1 H1 a1 xs/\SqB K b2 H1 a2 ys/\R (Itz K b1 b2 a1 a2) H1
theorem qi_zip {tg:Expr} (hg:Gl X "zip") (hm:X.mg "zip" = none) (ha:QA X [e1,e2] t) (hp:[e1,e2].all ZZ=true:=by rfl):QI X tg (26e2) (iZip2 X.K b1 b2 t):=by
 show 25;refine gD (b1:=b1) (b2:=b2) (RR:=fun a1 a2 _ _ H1=>R (Itz X.K b1 b2 a1 a2) H1) hg hm ha hp I h fun a1 a2 xs ys n H1 C q D J r l1 l2 st hf=>?_;obtain ⟨f0,G,hz,_⟩:=id st.z;exact ZpT.iter_self hz ⟨n + 4,zfp n,_,_,H1,rfl,q,GP (zap n) (zof l1) (zof l2),st,hf,r⟩
def tLz(K:PySem.W.Frag)(b1 b2:Bool)(t:TA):TE:=fun σ H Q=>t σ H fun vs H1=>∃a1 a2 xs ys,vs=[.ref a1,.ref a2]/\SqB K b1 H1 a1 xs/\SqB K b2 H1 a2 ys/\∀l zs H',H1 l=none->ZC H1 H'->Xi H' 12e3 zs->H' l=some (.lst zs)->Q 5e1 H'
theorem uQ {p2 pos2:Pos} (hg:Gl X "zip") (hm:X.mg "zip" = none) (hgl:Gl X "list") (hml:X.mg "list" = none) (hc:9e9) (ha:QA X [e1,e2] t) (hp:[e1,e2].all ZZ=true:=by rfl) :
  QE X (.Call (.Name "list" p2) [26e2] [] pos2) (tLz X.K b1 b2 t):=by
 refine ⟨fun pins s σ H Q I h=>?_⟩;have hs:starEach [26e2] X.env=[(false,eval (26e2) X.env)]:=by rw [Zr rfl];rfl
 refine Qc8 (JN I hgl hml Zbu ?_);refine Qcl ?_ hs rfl;rw [hs];show wpAny _ _ (spliced ((false,eval (26e2) X.env)::[])) _ _ s;refine Qcv (gD (b1:=b1) (b2:=b2) (RR:=fun a1 a2 xs ys H1=>∀l zs H',H1 l=none->ZC H1 H'->Xi H' 12e3 zs->H' l=some (.lst zs)->Q 5e1 H') hg hm ha hp I h fun a1 a2 xs ys n H1 C I1 q1 q2 k l1 l2 st hf=>?_);refine Qd7 ?_;have hh:X.A.handled=none:=I1.ok.hd hc;have J:H1 C.heap.objs.size=none:=I1.hok.fresh (Qai _);have Y:C.heap.objs.size∉zfp n:=fun hb=>by
  obtain ⟨o,ho,_⟩:=(38e3).obj _ _ st _ hb;exact Qbz _ (Qas ho)
 refine callType_codes (Q₁:=fun obj G=>obj=20e1/\G={ C with heap:=28e6 }) F.called_list (F.typeCall_list_1 _) F.entry_list_init (code_list_new _ 6e5) fun obj G h₁=>?_;obtain ⟨rfl,rfl⟩:=h₁;have hS:(28e6).get? C.heap.objs.size=some { cls:=5e2,data:=.seq #[] }:=5e5;refine ⟨⟨_,hS,rfl⟩,F.args_list_init_2 _ _,?_⟩;have fS:xq X pins H1 C.heap.objs.size:=I1.fpOk (Qai _) J;have I2:Inv X pins σ H1 { C with heap:=28e6,toks:=C.toks }:=I1.kept (t':=C.toks) 16e1;have T0:=38e3;have st2:=T0.keep 0 C.heap (28e6) st fun b _ o e=>Qab _ e;show wpAny _ _ (do let old <-Builtin.List.listItems (20e1);Builtin.List.listUpdate (20e1) (fun _=>#[]);letGo old.toList.reverse;Builtin.List.listExtendWith (20e1) (.ref (n + 4)) .none) _ _ _;generalize hSe:C.heap.objs.size=S at *;generalize 28e6=h2 at *;refine Qaa ?_;unfold Builtin.List.listItems;refine Qaa (Qb1 (s:={ C with heap:=h2 }) hS rfl 7e2);show wpAny _ _ (updateSeq S (fun _=>#[]) >>= fun _=>letGo (#[]:4e5).toList.reverse >>= fun _=>Builtin.List.listExtendWith (.ref S) (.ref (n + 4)) .none) _ _ _;refine Qaa (Qd0 (s:={ C with heap:=h2 }) hS rfl ?_);have Z:∀{s':Shared} {H':Hp} {f:4e5->4e5},19e1->xq X pins H' S->ZpT.St b1 b2 (n + 4) (n + 2) (n + 3) n (n + 1) a1 a2 0 0 s'.heap->Inv X pins σ H' { s' with heap:=s'.heap.update S (Obj.mapSeq f),toks:=s'.toks }/\ZpT.St b1 b2 (n + 4) (n + 2) (n + 3) n (n + 1) a1 a2 0 0 (s'.heap.update S (Obj.mapSeq f)):=fun {s' H' f} I' f' st'=>by
  have oth:∀b o,b≠S->s'.heap.get? b=some o->(s'.heap.update S (Obj.mapSeq f)).get? b=some o:=fun b o hb e=>(Qbw _ _ (Qel hb)).trans e;refine ⟨YX (t':=s'.toks) (fp:=[S]) I' (10e8) fun b o hb q=>oth b o (19e8) q,T0.keep 0 _ _ st' fun b hb o e=>oth b o (fun z=>Y (by rw [<-z];exact hb)) e⟩;have:b=S:=6e6
  subst this;exact f'
 obtain ⟨I3,st3⟩:=Z (f:=fun _=>#[]) I2 fS st2;have hS3:=Qbk (Obj.mapSeq (fun _=>(#[]:4e5))) hS rfl;refine Qaa (Qe5 ?_);obtain ⟨f0,fb,hz3,_⟩:=id st3.z;have O:Shared.TypeIs { C with heap:=h2.update S (Obj.mapSeq (fun _=>(#[]:4e5))) } (.ref (n + 4)) "zip" := ⟨_,hz3,rfl⟩;have hSI:S≠n + 4:=fun e=>Y (by rw [e];simp [zfp]);unfold Builtin.List.listExtendWith;refine Qaa (Qe3 O ?_);have g1:Builtin.List.listSameRef (.ref S) (.ref (n + 4))=false:=by simp [Builtin.List.listSameRef,hSI]
 have g2:(Value.type "zip" == Value.type "list")=false:=4e0
 have g3:(Value.type "zip" == Value.type "tuple")=false:=4e0
 simp only [g1,g2,g3,Qgn,Qbb,Qe2];refine Qaa (ZpT.iter_self hz3 ?_);refine Qaa (Qc2 ?_);unfold Builtin.List.listLengthHint;refine Qaa (Qdz O uP ?_);show wpAny _ _ (specialOf (Value.ref (n + 4)) (Str.ofString "__length_hint__") >>= _) _ _ _;refine Qaa (Qdz O kL ?_);refine Qad ?_;show wpAny _ _ (rule "list.extend.makes-room" >>= fun _=>Builtin.List.listTouch (.ref S) >>= fun _=>again (.builtin "list.extend.loop" ⟨[.ref S,.ref (n + 4),.none],[]⟩)) _ _ _;refine Qaa (Qde ?_);refine Qaa ?_;show wpAny _ _ (updateSeq S (·.push .none) >>= fun _=>updateSeq S (·.pop)) _ _ _;refine Qaa (Qd0 hS3 rfl ?_);obtain ⟨I4,st4⟩:=Z (f:=(·.push Value.none)) I3 fS st3;have hS4:=Qbk (Obj.mapSeq (·.push Value.none)) hS3 rfl;refine Qd0 (hz:=by seq_fits) hS4 rfl ?_;obtain ⟨I5,st5⟩:=Z (f:=(·.pop)) I4 fS st4;have hS5:=Qbk (Obj.mapSeq (·.pop)) hS4 rfl;refine Qad ⟨Qdw Qew _,Zfy (A:=X.A.in1) (xs:=xs) (ys:=ys) hh (zap n) (zof l1) (zof l2) Y _ 0 _ H1 [] [] _ rfl (Qbe _) I5 hf fS st5 q1 q2 hS5 .nil .nil fun s' H' D its' c' J1 J2 J3 J4 J5 J6=>?_⟩;have hz:D.length<=sizeLine:=by
  obtain ⟨_,_,_,hb⟩:=I1.sqB q1;rw [<-J6.len,Qcp];lia
 have sS:ZC H' (upd H' S (.lst D)):=fun b o e=>by rw [Zh (Zj e J2.1)];exact e
 refine ⟨rfl,.ref S,_,J1.adopt (o:=.lst D) J2 ⟨hz,its',c',J5,J4⟩,rfl,k S D _ J (J3.trans sS) (J6.same sS) Za⟩
end
end L2
namespace L2
open PySem PySem.Spec PyProof.Rows
section
variable {X:Cx}{S scope:Scope}{N:1e3}{x x2:Str}{ys:1e3}{is:1e1}{pins:2e6}{σ:St}{H₂:Hp}{s₂:Shared}{fp:5e0}{elt iter:Expr}{px px2 pp pos:Pos}{pq:Nat}{ifs:5e4}{tc:TT}{te:TE}{wi:TI}
end
end L2
namespace L2
open PySem PySem.Spec PyProof.Rows PySem.W
section
variable {prog:Program}{w:World}{A:Around}{E:1e9}{s:Shared}
end
section
variable {prog:Program}{w:World}{h:Heap}
end
section
variable {X:Cx}
end
end L2
namespace L2
open PySem PySem.Spec PyProof.Rows
section
variable {prog:Program}{w:World}{A:Around}{E:1e9}{s:Shared}{c it:Addr}{oc:Obj}{es:Array DictEntry}{ep i:Nat}
end
section
variable {X:Cx}
def PP1(X:Cx)(pos:Pos)(k v:Expr)(tk tv:TE):Prop:=∀pins s σ H (R:V->V->1e8),2e1->(tk σ H fun x H1=>tv σ H1 fun y H2=>R x y H2) ->
 wpAny 3e0 X.A (evalPairs (pairTrees [some k] [v] X.env pos)) (fun C q=>∃x y u r H2,C=[(u,r)]/\Inv X pins σ H2 q/\RelV x u/\RelV y r/\R x y H2) X.xe s
theorem pp1{k v:Expr}{tk:TE}(hk:QE X k tk)(hv:QE X v d):PP1 X p k v tk d:=by
 intro pins s σ H R I q;refine pairTrees_cons_walk (thn (hk.out pins s σ H _ I q) fun u C ⟨x,H1,O,Z,D⟩=>thn (hv.out pins C σ H1 _ O D) fun r s2 ⟨y,H2,J,Y,G⟩=>pairTrees_nil_walk ⟨x,y,u,r,H2,rfl,J,Z,Y,G⟩)
end
theorem Zfz{b1 b2:Bool}{xs ys:List V}{is:1e1}{Q:VK}(q:Nat->12e2)(Y:q 0 [] H)(hl:∀i zs H,q i zs H->20e4)(O:∀i zs H,q i zs H->SqB K b1 H a xs/\SqB K b2 H l ys)
  (hs:∀i x y p zs H (R:12e2),(∀zs H,q (i + 1) zs H->R zs H)->10e7->15e2->q i zs H->H p=none->E (Gp is f (some 3e5)) (upd H p (.tup [x,y])) fun b H2=>if b=true then d (Gp is f (some 3e5)) H2 fun y J=>R (zs++[y]) J else R zs H2)
  (hd:∀zs H,q 17e4 zs H->22e7) :
  GH is E d f Q (Itz K b1 b2 a l) H:=by
 refine ⟨fun i m zs H=>m=17e4 - i/\i<=17e4/\q i zs H,⟨17e4,by simp,Qbe _,Y⟩,?_⟩;rintro i m zs H ⟨rfl,hi,p⟩;obtain ⟨C,D⟩:=O i zs H p;have hz:17e4=min xs.length ys.length:=Qcp
 by_cases G:i < 17e4
 ·have l1:i < xs.length:=by lia
  have l2:i < ys.length:=by lia
  refine .inr ⟨⟨xs,ys,xs[i],ys[i],C,D,Qag l1,Qag l2⟩,hl i zs H p,fun x H' y=>?_⟩;obtain ⟨c,hc,rfl,e⟩:=y;rw [e xs ys _ _ C D (Qag l1) (Qag l2)];exact hs i _ _ c zs H (fun zs H=>∃I,I < 17e4 - i/\(fun i m zs H=>m=17e4 - i/\i<=17e4/\q i zs H) (i + 1) I zs H) (fun zs H Z=>⟨17e4 - (i + 1),by lia,rfl,G,Z⟩) (Qag l1) (Qag l2) p hc
 ·have e:i=17e4:=by lia
  subst e;exact .inl ⟨⟨xs,ys,C,D,by lia⟩,hl _ zs H p,hd zs H p⟩
section
variable {X:Cx}
theorem HT.cat_tup0{prog:Program}{w:World}{A:Around}{E:1e9}{t b:Addr}(ht:IsTup s.heap t #[])(hb:IsTup s.heap b J.toArray)(q:Q (.ref b) s) :
  wpAny 2e3 A (binaryOp .Add (.ref t) (.ref b)) Q E s:=by
 obtain ⟨⟨cls,dd,data,sl⟩,ho,hc,n,hd⟩:=id ht;obtain ⟨⟨Y,O,data2,I⟩,C,D,Z,G⟩:=id hb;simp only at hc hd D G;subst hc hd D G;exact concat_meets ⟨_,ho,rfl⟩ ⟨_,C,rfl⟩ Qht seq_tuple_add Qf2 Qfu (Qfn _ _)
  (tuple_addW0 t b #[] J.toArray n Z dd O sl I rfl) ⟨ho,C,q⟩
inductive Zco(x:V)(y:V)(H:Hp)(Q:VK):Prop
 | mk (a b xs ys:_):(x=.ref a)->(y=.ref b)->(H a=2e2)->(H b=18e0)->(xs.length + ys.length<=sizeLine)->(∀p H',H' p=some (.tup (xs++ys))->22e4)->Zco x y H Q
def rCatG  : R2:=fun x y H Q=>Zco x y H Q
theorem Gs:OpR X (binaryOp .Add) rCatG:=by
 intro pins s σ H x y v u Q I Y O h;obtain ⟨a,b,xs,ys,rfl,rfl,ha,hb,hz,q⟩:=h;cases Y;cases O;obtain ⟨J,C,p1,_⟩:=I.tuple (SqT.of ha:SqT X.K H a xs);obtain ⟨G,D,p2,_⟩:=I.tuple (SqT.of hb:SqT X.K H b ys)
 by_cases hx:xs=[]
 ·have e:=C.nil_iff.mpr hx
  subst e hx;exact HT.cat_tup0 p1 p2 ⟨.ref b,H,I,rfl,q b H hb fun _ _ z=>z⟩
 ·refine HT.cat_tup p1 p2 (fun z=>hx (C.nil_iff.mp z)) (fun z=>⟨.ref a,H,I,rfl,q a H ?_ fun _ _ z=>z⟩) (fun z=>?_) (by rw [<-C.length,<-D.length];exact hz)
  ·rw [D.nil_iff.mp z,Qbv]
   exact ha
  ·have hn:=I.hok.fresh (Qai s.heap.objs.size)
   refine ⟨4e9,_,I.laid (t':=s.toks) (o:=.tup (xs++ys)) (fun b ob q=>Qab _ q) (Qai _) ?_,rfl,q _ _ Za fun c o z=>by rw [Zh (fun e=>by rw [e,hn] at z;cases z)];exact z⟩;exact ⟨by rw [Qae];exact hz,_,C.append D,Qfs _ _⟩
end
open PySem.W (hideAll of_hideAll hideAll_get hideAll_none funFrames_hide)
section
variable {P:Program}{w:World}{X:Cx}{pins:2e6}{σ:St}{H:Hp}{s:Shared}
end
end L2
namespace L2
open PySem PySem.Spec PyProof.Rows
open PySem.W (hideAll of_hideAll hideAll_get hideAll_none funFrames_hide)
section
variable {X:Cx}{E:XK}
end
end L2
namespace L2
open PySem PySem.Spec PyProof.Rows
abbrev bmVE:2e0:=[.type "ValueError",.type "Exception",.type "BaseException",.type "object"]
section
variable {X:Cx}{E:XK}{x:Str}{C:Addr}{np cpos pos:Pos}{e₀:Expr}{rest:5e4}{t:TA}
end
section
variable {M:Model}{A:Around}{E:1e9}
variable {nm q nm' q':Str}{C N D N':Addr}{bs bm bs' bm':2e0}{hdct hdct':Bool}{sn sn':1e3}{sub sub':2e0}{ab ab':Bool}{col col':Option Bool}{dd dd':Option Addr}{k0 k1 k2 k3 k5 k0' k1' k2' k3' k5':7e9}{newId newId':String}
end
section
variable {X:Cx}{pins:2e6}{σ:St}{H H':Hp}{s s':Shared}
end
section
variable {prog:Program}{w:World}{A:Around}{E:1e9}{s:Shared}{env:Env}
end
section
variable {X:Cx}{pins:2e6}{σ:St}{H:Hp}{s:Shared}
variable {k:Nat}{f:Addr}{fd:FuncData}{ps:1e3}{sp:Sp}{g x y n:Str}{p np p0 cpos spos hpos pos:Pos}{e₀:Expr}{es:5e4}{t:TA}{b₀:Stmt}{suite:List Stmt}{i j:Nat}{Dc:Addr}{ts:TS}
end
end L2
namespace L2
open PySem PySem.Spec PyProof.Rows PySem.Calls
open PySem.W (Frag InstAt findObj plainGet plainGet_of kin_open kin_hooked class_get handed_on mroIn clsIn Looks subIn typeIn looks_typeIn looks_subIn isIn isi_call)
section
variable {prog:Program}{w:World}{A:Around}{E:1e9}{s:Shared}{K:Frag}{e C D:Addr}{oe:Obj}{od:Option Obj}
end
end L2
namespace L2
open PySem PySem.Spec PyProof.Rows PySem.Calls
open PySem.W Builtin Builtin.ObjectAttr Builtin.Getset_descriptor
section
variable {prog:Program}{w:World}{A:Around}{E:1e9}{s:Shared}{K:Frag}{e C D:Addr}
end
end L2
namespace L2
open PySem PySem.Spec PyProof.Rows PySem.Calls
open PySem.W Builtin Builtin.ObjectAttr
section
variable {prog:Program}{w:World}{A:Around}{E:1e9}{s:Shared}{K:Frag}{x C:Addr}{name:Str}{v:Value}
end
section
variable {X:Cx}{pins:2e6}{σ:St}{H:Hp}{s:Shared}{e C d:Addr}{f:Str}{v:V}{u:Value}{A:Around}{E:1e9}
end
section
variable {X:Cx}{o value:Expr}{ta tv:TE}{f:Str}{pos pos':Pos}
end
end L2
namespace L2
open PySem PySem.Spec PyProof.Rows PySem.Calls
open PySem.W
def excMk(K:Frag)(C:Addr):Bool:=match K.lookup C with
 | some ⟨.type "type",_,.cls q,sm⟩=>(match q.mro,sm.toList with
  | .ref D::tl,[_,_,_,_,some (.builtin n),_]=>D == C && (n == "ValueError.__new__" && (!q.hasDel && tailIn K bmVE tl))
  | _,_=>false)
 | _=>false
section
variable {prog:Program}{w:World}{A:Around}{E:1e9}{hh:Heap}{g:Array GenState}{dr:Drawn}{t:Nat}{os:OsState}{K:Frag}
variable {nm q:Str}{C N fI:Addr}{bs tl:2e0}{hdct:Bool}{sn:1e3}{sub:2e0}{ab:Bool}{col:Option Bool}{dd:Option Addr}{k0 k1 k2 k3 k5:7e9}
end
end L2
namespace L2
open PySem PySem.Spec PyProof.Rows PySem.Calls
open PySem.W
section
variable {X:Cx}{x:Str}{C f:Addr}{k:Nat}{fd:FuncData}{ps:1e3}{sp:Sp}{p pos:Pos}{e₀:Expr}{es:5e4}{t:TA}
end
end L2
namespace L2
open PySem PySem.Spec PyProof.Rows PySem.Calls
open Builtin Builtin.Str
section
variable {X:Cx}{e b:Expr}{es:5e4}{te tb:TE}{t:TA}
end
section
variable {X:Cx}{o:Expr}{to:TE}{y z:Str}{j1 j2 j3:Nat}{p1 p2 p3 apos cpos:Pos}
end
end L2
namespace L2
open PySem PySem.Spec PyProof.Rows PySem.Calls
open Builtin Builtin.Str
section
variable {X:Cx}{e:Expr}{ta:TE}{c:Str}{j:Nat}{p1 p2 pos:Pos}
end
section
variable {X:Cx}
end
end L2
namespace L2
open PySem PySem.Spec PyProof.Rows PySem.Calls
open PySem.W
end L2
namespace L2
open PySem PySem.Spec PyProof.Rows PySem.Calls
open Builtin Builtin.Str
end L2
namespace L2
open PySem PySem.Spec PyProof.Rows PySem.Calls
section
variable {M:Model}{A:Around}{E:1e9}{s:Shared}{B:Heap}{env:Env}{outer:8e6}{L e:Addr}{φ:Obj->Prop}{Q:Unit->3e3}
end
section
variable {prog:Program}{w:World}{A:Around}{E:1e9}{s:Shared}{env:Env}{x:Sem Value}{Q:Flow->3e3}{C e1:Addr}{j:Nat}{p pos:Pos}
end
open PySem.W (hideAll of_hideAll hideAll_get hideAll_none funFrames_hide)
section
variable {X:Cx}{E:XK}
end
end L2
namespace L2
open PySem PySem.Spec PyProof.Rows PySem.Calls
section
variable {prog:Program}{w:World}{A:Around}{E:1e9}{s:Shared}{env:Env}
end
section
variable {X:Cx}{E:XK}
end
section
variable {X:Cx}{E:XK}{k:Nat}{f:Addr}{fd:FuncData}{ps:1e3}{sp:Sp}{g y x2:Str}{p np np2 cpos cpos2 spos hpos pos p9 rpos:Pos}{j:Nat}{e₀ a₀:Expr}{es as:5e4}{t t2:TA}{Dc C2:Addr}
end
section
variable {prog:Program}{w:World}{A:Around}{E:1e9}{s:Shared}{a:Addr}{oa:Obj}{x:Value}{l:2e0}{na:Nat}{ts:1e3}
end
section
variable {X:Cx}{e:Expr}{ta:TE}{c:Str}{j:Nat}{p1 p2 pos:Pos}
end
open PySem.W
section
variable {X:Cx}{pins:2e6}{σ:St}{H:Hp}{s:Shared}{e C d:Addr}{f:Str}{v:V}{u:Value}{A:Around}{E:1e9}{arr:4e5}
end
section
variable {X:Cx}{E:XK}
end
end L2
namespace L2
open PySem PySem.Spec PyProof.Rows PySem.Calls
open PySem.W (hideAll of_hideAll hideAll_get hideAll_none funFrames_hide)
section
variable {X:Cx}{E:XK}
end
section
variable {prog:Program}{w:World}{A:Around}{E:1e9}{s:Shared}{env:Env}{x:Sem Value}{Q:Flow->3e3}{C:Addr}
end
section
variable {X:Cx}{E:XK}{x:Str}{C f:Addr}{k:Nat}{fd:FuncData}{ps:1e3}{sp:Sp}{np cpos pos:Pos}{e₀:Expr}{es:5e4}{t:TA}
end
end L2
namespace L2
open PySem PySem.Spec PyProof.Rows PySem.Calls
section
variable {X:Cx}{k:Nat}{f:Addr}{fd:FuncData}{ps:1e3}{sp:Sp}{g y n:Str}{p np cpos spos hpos pos:Pos}{e₀:Expr}{es:5e4}{t:TA}{b₀:Stmt}{suite:List Stmt}{j:Nat}{Dc:Addr}{ts:TS}
end
section
variable {X:Cx}
end
end L2
namespace L2
open PySem
theorem Z6{q:Prop}(h:∀G:Prop,(q->G)->G):q:=h q fun z=>z
theorem kM{P:List m->Prop}(h:∀a,P [a]):∀q:List m,q.length=1->P q
 | [a],_=>h a
theorem len2{P:List m->Prop}(h:∀a b,P [a,b]):∀q:List m,q.length=2->P q
 | [a,b],_=>h a b
theorem Zan{P:List m->Prop}(h:∀a b c,P [a,b,c]):∀q:List m,q.length=3->P q
 | [a,b,c],_=>h a b c
theorem Znd{P:List m->Prop}(h:∀a b c d,P [a,b,c,d]):∀q:List m,q.length=4->P q
 | [a,b,c,d],_=>h a b c d
theorem len5{P:List m->Prop}(h:∀a b c d e,P [a,b,c,d,e]):∀q:List m,q.length=5->P q
 | [a,b,c,d,e],_=>h a b c d e
theorem walk_X{q:Program}{O:(2e9)->Heap->Prop}{K:Params->PySem.W.Frag}{as:5e0}{t:Nat}{r:PySem.W.RowW}{d:DefRec}{I:List (Str × Expr)}{run:Value->2e0->Sem Value}
  (e:∀P,as=(K P).map (·.1)) (W:PySem.W.WalkO q N O (PySem.W.InK K) r d I run):PySem.W.WalkX q N O (PySem.W.X.obsZ as) (PySem.W.X.valZ K n t) r d I run :=
 fun w s₀ D mg Z G y a o Y cd J dV kV e1 e2 e3 e4 e5 e6 args C as L p l R W' nn =>
  W w s₀ D mg Z G (PySem.W.InK.keeps w _ _ (PySem.W.X.z_facts e y).2.1 L.keeps) a o Y cd J dV kV e1 e2 e3 e4 e5 e6 args C as p l R W' nn
def noT(K:PySem.W.Frag):PySem.W.Frag:=K.filter fun p=>match p.2.cls,p.2.data with
 | .none,.fields _=>false
 | _,_=>true
theorem noT_ok(K:PySem.W.Frag):PySem.W.noTabs (noT K)=true:=by
 unfold PySem.W.noTabs noT;rw [Qd4];intro p hp;exact (Qdx.mp hp).2
def nodB:1e1->Bool
 | []=>true
 | a::r=>r.all (fun b=>!(Nat.beq a b)) && nodB r
theorem lookup_mem{a:Addr}{o:Obj}:∀{K:PySem.W.Frag},K.lookup a=some o->(a,o)∈K
 | (b,u)::r,h=>by
  rw [Qbn] at h
  by_cases e:(a == b)=true
  ·rw [e] at h
   cases h;rw [eq_of_beq e];exact Qar
  ·rw [Bool.eq_false_iff.mpr e] at h
   exact Qal _ (lookup_mem h)
theorem mem_lookup{a:Addr}{o:Obj}:∀{K:PySem.W.Frag},nodB (K.map (·.1))=true->(a,o)∈K->K.lookup a=some o
 | (b,u)::r,hn,h=>by
  rw [Qbn];rw [Qa4] at hn;have q:=Qav.mp hn;rcases Qan.mp h with e | e
  ·cases e
   rw [Qck]
  ·have hb:(a == b)=false:=by
    rw [Qcw];intro z;have:=Qd4.mp q.1 a (Qby e);rw [z,show Nat.beq b b=true from Nat.beq_refl b] at this;cases this
   rw [hb];exact mem_lookup q.2 e
theorem in_noT(hn:nodB (K.map (·.1))=true)(X:K.In h):(noT K).In h:=fun a o e =>
 X a o (mem_lookup hn (Qdx.mp (lookup_mem e)).1)
theorem ns_tr{m:Addr}{r:Option (7e9)}(e:PySem.W.nsIn (noT K) m x=PySem.W.nsIn K m x)(h:PySem.W.nsIn K m x=r):PySem.W.nsIn (noT K) m x=r:=e.trans h
theorem lk_tr{r:Option Obj}(e:(noT K).lookup a=K.lookup a)(h:K.lookup a=r):(noT K).lookup a=r:=e.trans h
theorem cd_tr(e:PySem.W.codeIn (noT K) c x=PySem.W.codeIn K c x)(h:PySem.W.codeIn K c x=true):PySem.W.codeIn (noT K) c x=true:=e.trans h
theorem kp_tr(e:PySem.W.keepIn (noT K) c=PySem.W.keepIn K c)(h:PySem.W.keepIn K c=true):PySem.W.keepIn (noT K) c=true:=e.trans h
theorem cxK{CX:CXT}{w:World}{mg:2e9}{qual:Str}{scope:Scope}{f:Addr}{A:Around}{outer:8e6}{E:XK}:(Zfg CX P w K mg h N qual scope f c A outer s H E).nox.K=K:=rfl
theorem cxK2{CX:CXT}{w:World}{mg:2e9}{qual:Str}{scope:Scope}{f:Addr}{A:Around}{outer:8e6}{E:XK}:(Zfg CX P w K mg h N qual scope f c A outer s H E).K=K:=rfl
theorem let2{q:TS}(h:let C:=q;YG r C U f H):YG r q U f H:=h
theorem let3{C q:TS}(h:let G:=q;let D:=YG C G;YG r D U f H):YG r (YG C q) U f H:=h
theorem let4{D C q:TS}(h:let I:=q;let J:=YG C I;let G:=YG D J;YG r G U f H):YG r (YG D (YG C q)) U f H:=h
theorem let5{C q D G:TS}(h:let O:=G;let Y:=YG D O;let J:=YG q Y;let I:=YG C J;YG r I U f H):YG r (YG C (YG q (YG D G))) U f H:=h
theorem let6{D C G I q:TS}(h:let O:=q;let Z:=YG I O;let U3:=YG G Z;let Y:=YG C U3;let J:=YG D Y;YG r J U f H):YG r (YG D (YG C (YG G (YG I q)))) U f H:=h
theorem let7{D C I J q G:TS}(h:let U6:=G;let Y:=YG q U6;let U4:=YG J Y;let U3:=YG I U4;let Z:=YG C U3;let O:=YG D Z;YG r O U f H):YG r (YG D (YG C (YG I (YG J (YG q G))))) U f H:=h
theorem let8{D C J O q I G:TS}(h:let U7:=G;let U6:=YG I U7;let Z:=YG q U6;let U4:=YG O Z;let U3:=YG J U4;let U2:=YG C U3;let Y:=YG D U2;YG r Y U f H):YG r (YG D (YG C (YG J (YG O (YG q (YG I G)))))) U f H:=h
end L2
namespace ZpT
open PySem PySem.Spec PyProof.Rows
abbrev Zh6 (h:Heap) (T:Addr) (a b c:Value):Prop:=h.get? T=some { cls:=4e8,data:=.seq #[a,b,c] }
structure Ap3(z TI TO i1 i2 i3:Addr):Prop where
 TIz:TI≠z
 TOz:TO≠z
 i1z:i1≠z
 i2z:i2≠z
 i3z:i3≠z
 TITO:TI≠TO
 TIi1:TI≠i1
 TIi2:TI≠i2
 TIi3:TI≠i3
 TOi1:TO≠i1
 TOi2:TO≠i2
 TOi3:TO≠i3
 i12:i1≠i2
 i13:i1≠i3
 i23:i2≠i3
structure Of3(z TO i1 i2 i3 l:Addr):Prop where
 z:l≠z
 o:l≠TO
 i:l≠i1
 j:l≠i2
 m:l≠i3
structure St3(z TI TO i1 i2 i3 l1 l2 l3:Addr)(k:Nat)(h:Heap):Prop where
 z:∃f0 fb,h.get? z=some (zO f0 fb TI TO)/\F0 f0
 I:Zh6 h TI (.ref i1) (.ref i2) (.ref i3)
 O:∃a b c,Zh6 h TO a b c
 n1:Yx false h i1 l1 k
 n2:Yx false h i2 l2 k
 n3:Yx false h i3 l3 k
section
variable {prog:Program}{w:World}{A:Around}{E:1e9}{s:Shared}
end
end ZpT
namespace L2
open PySem PySem.Spec PyProof.Rows
section
variable {X:Cx}{S scope:Scope}{N:1e3}{x x2 x3:Str}{ys:1e3}{is:1e1}{pins:2e6}{σ:St}{H₂:Hp}{s₂:Shared}{fp:5e0}{elt iter:Expr}{px px2 px3 pp pos:Pos}{pq:Nat}{ifs:5e4}{tc:TT}{te:TE}{wi:TI}
end
end L2
namespace ZpT
open PySem PySem.Spec PyProof.Rows
section
variable {prog:Program}{w:World}{A:Around}{E:1e9}{s:Shared}
end
end ZpT
namespace L2
open PySem PySem.Spec PyProof.Rows
open ZpT (St3 Ap3 Of3 SeqAt Yx)
section
variable {X:Cx}{e1 e2 e3:Expr}{t:TA}{p pos:Pos}
end
end L2
namespace L2
open PySem PySem.Spec PyProof.Rows
section
variable {prog:Program}{w:World}{A:Around}{s:Shared}
end
section
variable {X:Cx}
end
def b2i(b:Bool):Int:=if b=true then 1 else 0
def Zml(k:Int):Value->Bool
 | .int i _=>i == k
 | .bool b=>b2i b == k
 | _=>false
theorem YY{k:Int}{v:Value}(h:Zml k v=true):(∃t,v=.int k t)\/∃b,v=.bool b/\k=b2i b:=by
 cases v with
 | int i t=>exact .inl ⟨t,by rw [show i=k from eq_of_beq h]⟩
 | bool b=>exact .inr ⟨b,rfl,(eq_of_beq h).symm⟩
 | _=>cases h
section
variable {prog:Program}{w:World}
theorem kO{A:Around}{E:1e9}{b:Bool}{Q:Int->3e3}(h:Q (hashInt (b2i b)) 19e7):wpAny 2e3 A (pyHash (.bool b)) Q E s:=by
 show wpAny _ _ (pyHashByItsType (.bool b)) _ _ s;refine PySem.W.pyHash_slot (T := "bool") (id := "int.__hash__") (B:=Builtin.«int.__hash__») rfl F.slot_bool_hash F.entry_int_hash (F.args_int_hash_1 _) (1e0) (6e4) ?_;cases b
 ·exact Qaa (Qcy (a:=(Value.bool false,(0:Int))) rfl (Qaa (Qho (Qad ⟨0,_,rfl,h⟩))))
 ·exact Qaa (Qcy (a:=(Value.bool true,(1:Int))) rfl (Qaa (Qho (Qad ⟨1,_,rfl,h⟩))))
end
theorem Zh7(a b:Int):decide (a=b)=(a == b):=by
 by_cases e:a=b
 ·rw [Qah e,e,Qck]
 ·rw [Qao e,Qcw.mpr e]
def Y3(prog:Program)(w:World):KeyKind prog w Int where
 is:=Zml
 hash:=hashInt
 inj:=fun v a b ha hb=>by
  rcases YY ha with ⟨t,rfl⟩ | ⟨x,rfl,rfl⟩
  ·exact (eq_of_beq (show (a == b)=true from hb))
  ·exact (eq_of_beq (show (b2i x == b)=true from hb))
 byValue:=fun k v h=>by
  rcases YY h with ⟨t,rfl⟩ | ⟨x,rfl,rfl⟩ <;> rfl
 pyHash:=fun hv h=>by
  rcases YY hv with ⟨t,rfl⟩ | ⟨x,rfl,rfl⟩
  ·exact Qhs h
  ·exact kO h
 eqBool:=fun hu hv h=>by
  rw [Zh7] at h;rcases YY hu with ⟨t,rfl⟩ | ⟨x,rfl,rfl⟩
  ·rcases YY hv with ⟨u,rfl⟩ | ⟨y,rfl,rfl⟩
   ·exact wpAny_eqBool_int h
   ·exact SeqAt.EqAt.int_bool _ t y _ _ _ _ h
  ·rcases YY hv with ⟨u,rfl⟩ | ⟨y,rfl,rfl⟩
   ·exact SeqAt.EqAt.bool_int x _ u _ _ _ _ h
   ·refine SeqAt.EqAt.bool_bool x y _ _ _ _ ?_
    have e:(b2i x == b2i y)=(x == y):=by cases x <;> cases y <;> rfl
    rw [e] at h;exact h
 «strs»:=fun k x t v h=>by cases h
section
variable {prog:Program}{w:World}
def IsPair(prog:Program)(w:World)(h:Heap)(k:5e3)(a:Addr):Prop :=
 ∃o n t tk,14e8/\o.cls=4e8 /\ o.data=.seq #[.int k.1 tk,.ref t] n/\IsTupleKey (Y3 prog w) h k.2 t
def ye(prog:Program)(w:World)(k:5e3):Int:=reduceHash (Builtin.Tuple.tupleHashOf [hashInt k.1,tupleKeyHash (Y3 prog w) k.2])
theorem IsPair.inj{h:Heap}{a:Addr}{x y:5e3}(p:IsPair prog w h x a)(q:IsPair prog w h y a):x=y:=by
 obtain ⟨o,n,t,tk,e,c,d,k⟩:=p;obtain ⟨o',J,t',D,C,I,d',G⟩:=q;rw [e] at C;cases C;rw [d] at d';injection d' with d1 d2;have d3:=congrArg Array.toList d1;injection d3 with d4 d5;injection d4 with d6 _;injection d5 with d7 _;injection d7 with d8;subst d8;have:=(tupleKind (Y3 prog w)).inj k G;exact Qh6 d6 this
theorem IsPair.keeps{h h':Heap}{k:5e3}{a d:Addr}{o:Obj}{es:Array DictEntry}{ep:Nat}(p:IsPair prog w h k a)(e:h.get? d=some o)(hd:o.data=.dict es ep)(s:Heap.SameBut d h h'):IsPair prog w h' k a:=by
 obtain ⟨C,n,t,tk,e1,D,d1,k1⟩:=p;have q:a≠d:=fun z=>by
  rw [z,e] at e1;cases e1;rw [hd] at d1;cases d1
 exact ⟨C,n,t,tk,(s.2 a q).trans e1,D,d1,(tupleKind (Y3 prog w)).keeps k1 e hd s⟩
theorem IsPair.pyHash{A:Around}{E:1e9}{s:Shared}{k:5e3}{a:Addr}{Q:Int->3e3}(hu:16e0)(p:IsPair prog w s.heap k a)
  (h:Q (ye prog w k) { s with toks:=s.toks + (k.2.length + 3) }):wpAny 2e3 A (PySem.pyHash 3e1) Q E s:=by
 obtain ⟨o,n,t,tk,e,c,d,C⟩:=p;show wpAny _ _ (pyHashByItsType 3e1) _ _ s;refine PySem.W.pyHash_slot (T := "tuple") (id := "tuple.__hash__") (B:=Builtin.«tuple.__hash__») ⟨o,e,c⟩ F.slot_tuple_hash F.entry_tuple_hash (F.args_tuple_hash_1 _) (1e0) (.inr 1e2) ?_;unfold Builtin.«tuple.__hash__»;refine Qaa (Qcy (a:=(Value.ref a,[])) rfl ?_)
 show 10
 refine Qaa (wpAny_tupleItemsOf e d ?_);refine Qaa (Qg8 _ (fun rest hs s'=>(rest=[.int k.1 tk,.ref t]/\hs=#[]/\s'=s)\/(rest=[.ref t]/\hs=#[hashInt k.1]/\s'=19e7)\/(rest=[]/\hs=#[hashInt k.1,tupleKeyHash (Y3 prog w) k.2]/\s'={ s with toks:=s.toks + 1 + (k.2.length + 1) })) _ ?_ ?_ _ _ (.inl ⟨rfl,rfl,rfl⟩))
 ·rintro x rest b s' (⟨e1,rfl,rfl⟩ | ⟨e1,rfl,rfl⟩ | ⟨e1,_,_⟩)
  ·cases e1
   exact Qaa (Qhs (Qad (.inr (.inl ⟨rfl,rfl,rfl⟩))))
  ·cases e1
   refine Qaa (wpAny_pyHash_tuple (knd:=Y3 prog w) (ks:=k.2) (s:=19e7) (by show 16e0;exact hu) C (Qad (.inr (.inr ⟨rfl,rfl,rfl⟩))))
  ·cases e1
 ·rintro b s' (⟨e1,_,_⟩ | ⟨e1,_,_⟩ | ⟨_,rfl,rfl⟩)
  ·cases e1
  ·cases e1
  ·refine Qaa (Qho (Qad ⟨_,_,rfl,?_⟩))
   have q:s.toks + 1 + (k.2.length + 1) + 1=s.toks + (k.2.length + 3):=by lia
   show Q (ye prog w k) { s with toks:=s.toks + 1 + (k.2.length + 1) + 1 };rw [q];exact h
theorem _root_.PySem.IsTupleKey.any{ks:1e5}(k:IsTupleKey (Y3 prog w) h ks a)(q:Program)(C:World):IsTupleKey (Y3 q C) h ks a:=by
 obtain ⟨o,items,n,e,c,d,it⟩:=k;have G:∀{ks:1e5} {vs:2e0},ItemsAre (Y3 prog w) ks vs->ItemsAre (Y3 q C) ks vs:=by
  intro ks vs hh
  induction hh with
  | nil=>exact .nil
  | cons h1 _ D=>exact .cons h1 D
 exact ⟨o,items,n,e,c,d,G it⟩
theorem IsPair.eqBool{A:Around}{E:1e9}{s:Shared}{x y:5e3}{a b:Addr}{Q:Bool->3e3}(hu:16e0)(p:IsPair prog w s.heap x a)(q:IsPair prog w s.heap y b)
  (h:Q (decide (x=y)) s):wpAny 2e3 A (PySem.eqBool 3e1 (.ref b)) Q E s:=by
 by_cases G:a=b
 ·subst G
  have:=p.inj q;rw [Qah this] at h;exact SeqAt.EqAt.same 3e1 prog w E Q h
 ·obtain ⟨o,n,t,tk,e,c,d,kt⟩:=p
  obtain ⟨o',O,t',D,Z,Y,d',J⟩:=q;have it:∀j (h1:j < (#[Value.int x.1 tk,.ref t]).size) (h2:j < (#[Value.int y.1 D,.ref t']).size),SeqAt.EqAt A.in1 s (#[Value.int x.1 tk,.ref t])[j] (#[Value.int y.1 D,.ref t'])[j] (if j=0 then x.1 == y.1 else decide (x.2=y.2)):=by
   intro j h1 h2
   match j,h1,h2 with
   | 0,_,_=>exact SeqAt.EqAt.int_int x.1 tk y.1 D
   | 1,_,_=>exact fun C I E' Q' h'=>wpAny_eqBool_tuple (knd:=Y3 C I) (by show 16e0;exact hu) (kt.any C I) (J.any C I) h'
  have r:=SeqAt.RcAt.tuples (A:=A) (s:=s) (e:=fun j=>if j=0 then x.1 == y.1 else decide (x.2=y.2)) ⟨o,e,c,n,d⟩ ⟨o',Z,Y,O,d'⟩ 1e2 it;have ee:((List.range (min (#[Value.int x.1 tk,.ref t]).size (#[Value.int y.1 D,.ref t']).size)).all (fun j=>if j=0 then x.1 == y.1 else decide (x.2=y.2)) && (#[Value.int x.1 tk,.ref t]).size == (#[Value.int y.1 D,.ref t']).size)=decide (x=y):=by
   show ((x.1 == y.1) && (decide (x.2=y.2) && true) && true)=decide (x=y);rw [Bool.and_true,Bool.and_true,<-Zh7]
   by_cases h1:x.1=y.1
   ·by_cases h2:x.2=y.2
    ·rw [Qah h1,Qah h2,Qah (Qh6 h1 h2)]
     rfl
    ·rw [Qao h2,Bool.and_false,Qao fun z=>h2 (by rw [z])]
   ·rw [Qao h1,Qhb,Qao fun z=>h1 (by rw [z])]
  rw [ee] at r;exact SeqAt.EqAt.of_refs G r prog w E Q h
theorem uR{A:Around}{E:1e9}{ks:1e5}{Q:Bool->3e3}(m:Nat)(k:IsTupleKey (Y3 prog w) s.heap ks a)(h:Q true s):wpAny 2e3 A (eqIsQuiet (m + 1) 3e1) Q E s:=by
 obtain ⟨o,items,n,e,c,d,it⟩:=k;rw [eqIsQuiet.eq_2];have q:s.TypeIs 3e1 "tuple" := ⟨o,e,c⟩;refine Qaa (Qdz q F.slot_tuple_eq.lookup ?_);refine Qaa (Qdp (T := "tuple") (b:=true) q (20e0) ?_);rw [Qau 1e4];refine Qaa (Qb1 e d ?_);refine Qaa (Qg8 _ (fun rest b s'=>(∀v∈rest,carriedByValue v=true)/\b=(none,())/\s'=s) _ ?_ ?_ _ _ ⟨fun v hv=>?_,rfl,rfl⟩)
 ·rintro x rest b s' ⟨hv,rfl,rfl⟩
  refine Qaa ?_;rw [eqIsQuiet_byValue m (hv x Qar)];exact Qad (Qad ⟨fun v hm=>hv v (Qal _ hm),rfl,rfl⟩)
 ·rintro b s' ⟨_,rfl,rfl⟩
  exact Qad h
 ·have D:∀{ks:1e5} {vs:2e0},ItemsAre (Y3 prog w) ks vs->∀v∈vs,carriedByValue v=true:=by
   intro ks vs hh
   induction hh with
   | nil=>exact fun v hv=>nomatch hv
   | cons h1 _ C =>
    intro v hv;rcases Qan.mp hv with rfl | hv
    ·exact (Y3 prog w).byValue _ _ h1
    ·exact C v hv
  exact D it v hv
theorem IsPair.quiet{A:Around}{E:1e9}{k:5e3}{Q:Bool->3e3}(p:IsPair prog w s.heap k a)(h:Q true s):wpAny 2e3 A (eqIsQuiet 8 3e1) Q E s:=by
 obtain ⟨o,n,t,tk,e,c,d,C⟩:=p;rw [eqIsQuiet.eq_2];have q:s.TypeIs 3e1 "tuple" := ⟨o,e,c⟩;refine Qaa (Qdz q F.slot_tuple_eq.lookup ?_);refine Qaa (Qdp (T := "tuple") (b:=true) q (20e0) ?_);rw [Qau 1e4];refine Qaa (Qb1 e d ?_);refine Qaa (Qg8 _ (fun rest b s'=>(rest=[.int k.1 tk,.ref t]\/rest=[.ref t]\/rest=[])/\b=(none,())/\s'=s) _ ?_ ?_ _ _ ⟨6e4,rfl,rfl⟩)
 ·rintro x rest b s' ⟨hr,rfl,rfl⟩
  rcases hr with e1 | e1 | e1
  ·cases e1
   refine Qaa ?_;rw [eqIsQuiet_byValue 7 rfl];exact Qad (Qad ⟨.inr (6e4),rfl,rfl⟩)
  ·cases e1
   exact Qaa (uR 6 C (Qad ⟨.inr (.inr rfl),rfl,rfl⟩))
  ·cases e1
 ·rintro b s' ⟨_,rfl,rfl⟩
  exact Qad h
end
def Zf0(prog:Program)(w:World):HeapKind prog w (5e3) where
 is:=IsPair prog w
 hash:=ye prog w
 draws:=fun k=>k.2.length + 3
 room:=fun A=>16e0
 inj:=fun p q=>p.inj q
 keeps:=fun p e hd s=>p.keeps e hd s
 pyHash:=fun hu p h=>p.pyHash hu h
 eqBool:=fun hu p q h=>p.eqBool hu q h
 quiet:=fun p h=>p.quiet h
section
variable {prog:Program}{w:World}{K:Type}[DecidableEq K]
end
structure KN(Kk:Type)[DecidableEq Kk] where
 knd:∀(P:Program) (w:World),HeapKind P w Kk
 hsh:Kk->Int
 at_:Hp->Kk->Addr->Prop
 hash_eq:∀P w k,(knd P w).hash k=hsh k
 ok:∀(P:Program) (w:World) (H:Hp) (h:Heap) (k:Kk) (a:Addr),12e5->at_ H k a->(knd P w).is h k a
 room:∀(P:Program) (w:World) (A:Around),A.units + 2 < cLine->(knd P w).room A.in1
 room0:∀(P:Program) (w:World) (A:Around),A.units + 2 < cLine->(knd P w).room A
 keep:∀(H H':Hp) (k:Kk) (a:Addr),(13e4)->at_ H k a->at_ H' k a
section
variable {Kk:Type}[DecidableEq Kk](kn:KN Kk)
def entN(x:Kk × Addr × Value):DictEntry:={ hash:=kn.hsh x.1,key:=.ref x.2.1,val:=x.2.2 }
def Zka(d:Addr)(xs:21e3)(h:Heap):Prop:=(d == sysModules)=false/\∃o es ep,h.get? d=some o/\o.ExactDict/\o.data=.dict es ep/\es.toList=xs.map (entN kn)
def kh(H:Hp)(d:Addr)(kvs:List (Kk × V)):Prop:=(kvs.map (·.1)).Nodup/\kvs.length < sizeLine /\
 ((kvs=[]/\H d=some (.dK []))\/∃xs,H d=some (.ext (Zka kn d xs))/\Paired 24e9 kvs xs)
variable {kn}
theorem Zh8{w:World}(xs:21e3):xs.map (entryOfKey (kn.knd P w))=xs.map (entN kn):=by
 refine Qc1 fun x _=>?_;show DictEntry.mk _ _ _=DictEntry.mk _ _ _;rw [kn.hash_eq]
theorem Zkb{w:World}{d:Addr}{xs:21e3}(x:Zka kn d xs h):Yo P w H h d (.ext (Zka kn d xs)):=by
 obtain ⟨hm,o,es,ep,e,r⟩:=id x;refine ⟨x,⟨o,e⟩,fun h1 h2 y k=>?_⟩;obtain ⟨D,o',q,C,I,G⟩:=y;exact ⟨D,o',q,C,k _ I,G⟩
theorem kh.dict{X:Cx}{pins:2e6}{d:Addr}{kvs:List (Kk × V)}(n:kh kn H d kvs)(I:Inv X pins f H s) :
  ∃xs,Heap.DictOfH (kn.knd X.prog X.w) s.heap d xs/\Paired 24e9 kvs xs/\Mut (H d)/\(d == sysModules)=false:=by
 obtain ⟨hn,hl,h | h⟩:=n
 ·obtain ⟨rfl,e⟩:=h
  obtain ⟨z,hd,vs,O,dd⟩:=Zfq I.hok e;cases O;obtain ⟨o,es,ep,e1,ex,e2,_,C,_⟩:=dd;have D:es.toList=[]:=by
   generalize es.toList=l at C;cases C
   rfl
  exact ⟨[],⟨o,es,ep,e1,ex,e2,D,(fun x hx=>nomatch hx),Qdj⟩,.nil,by rw [e];exact True.intro,hd⟩
 ·obtain ⟨xs,e,C⟩:=h
  obtain ⟨⟨hm,o,es,ep,e1,ex,e2,D⟩,_,_⟩:=(show Yo X.prog X.w H s.heap d (.ext (Zka kn d xs)) from I.hok d _ e);refine ⟨xs,⟨o,es,ep,e1,ex,e2,by rw [D,Zh8],fun x hx=>?_,?_⟩,C,by rw [e];exact True.intro,hm⟩
  ·have G:∀{l:List (Kk × V)} {m:21e3},Paired 24e9 l m->∀x∈m,kn.at_ H x.1 x.2.1:=by
    intro l m C
    induction C with
    | nil=>exact fun x hx=>nomatch hx
    | cons h _ J =>
     intro x hx;rcases Qan.mp hx with rfl | hx
     ·exact h.2.1
     ·exact J x hx
   exact kn.ok _ _ _ _ _ _ I.hok (G C x hx)
  ·have G:∀{l:List (Kk × V)} {m:21e3},Paired 24e9 l m->m.map (·.1)=l.map (·.1):=by
    intro l m C
    induction C with
    | nil=>rfl
    | cons h _ J=>rw [Qa4,Qa4,J,h.1]
   rw [G C];exact hn
theorem GQ{P:Kk × V->Kk × Addr × Value->Prop}(G:∀p q,P p q->p.1=q.1):∀{l:List (Kk × V)} {m:21e3},Paired P l m->∀k,(∀v,Yg l k=some v->∃q,atKey m k=some q/\∃p,P p (k,q)/\p.2=v)/\(Yg l k=none->atKey m k=none)
 | [],[],_,k=>⟨fun v h=>(by cases h),fun _=>rfl⟩
 | p::l,q::m,.cons h t,k=>by
  have I:=GQ G t k;have e:=G p q h
  by_cases hk:p.1=k
  ·have C:q.1=k:=e.symm.trans hk
   have a1:atKey (q::m) k=some q.2:=by
    unfold atKey;rw [Qed,Qah C]
    rfl
   have D:Yg (p::l) k=some p.2:=Yb hk;refine ⟨fun v hv=>?_,fun hv=>?_⟩
   ·rw [D] at hv
    cases hv;exact ⟨q.2,a1,p,by rw [<-C];exact h,rfl⟩
   ·rw [D] at hv
    cases hv
  ·have C:¬q.1=k:=fun z=>hk (e.trans z)
   have a1:atKey (q::m) k=atKey m k:=by
    unfold atKey;rw [Qed,Qao C]
   have D:Yg (p::l) k=Yg l k:=ZU hk;rw [a1,D];exact I
theorem gE{X:Cx}{pins:2e6}{d:Addr}{k:Kk}{v:V}{u:Value}{kvs:List (Kk × V)}{xs:21e3}{h':Heap}{tk:Nat}(I:Inv X pins f H s)(n:kh kn H d kvs)(hk:kn.at_ H k a)(rv:RelV v u)(hz:kvs.length + 1 < sizeLine)
  (G:Paired 24e9 kvs xs) (J:Mut (H d)) (hm:(d == sysModules)=false) (hv:Yg kvs k=none) (dd':Heap.DictOfH (kn.knd X.prog X.w) h' d (xs++[(k,a,u)])) (sb:Heap.SameBut d s.heap h') :
  ∃H',kh kn H' d (kvs++[(k,v)])/\(∀b o,10e9->b≠d->12e4)/\(∃o,H'=upd H d o)/\Inv X pins f H' 7e3:=by
 obtain ⟨o,es,ep,e1,ex,e2,C,_,_⟩:=dd';have df:Zka kn d (xs++[(k,a,u)]) h':=⟨hm,o,es,ep,e1,ex,e2,by rw [C,Zh8]⟩;have O:∀b ys,H b=18e0->upd H d (.ext (Zka kn d (xs++[(k,a,u)]))) b=18e0:=fun b ys e=>by
  rw [Zh fun z=>by rw [<-z,e] at J;exact J];exact e
 refine ⟨_,⟨?_,?_,.inr ⟨_,Za,?_⟩⟩,fun b o e hb=>by rw [Zh hb];exact e,8e1,xS I J sb ⟨o,e1⟩ (Zkb df)⟩
 ·rw [Qbc,Qdg]
  refine ⟨n.1,Qce.mpr ⟨Qa7,Qdj⟩,fun y Y z hz q=>?_⟩;rw [Qa4,Qfo,Qak] at hz;rw [q,hz] at Y;obtain ⟨x,hx,ex⟩:=Qay.mp Y;have D:x.1=k:=ex;have:=jV n.1 x hx;rw [D,hv] at this;cases this
 ·rw [Qae]
  exact hz
 ·have Z:∀{l:List (Kk × V)} {m:21e3},Paired 24e9 l m->Paired (fun (p:Kk × V) (q:Kk × Addr × Value)=>p.1=q.1/\kn.at_ (upd H d (.ext (Zka kn d (xs++[(k,a,u)])))) q.1 q.2.1/\RelV p.2 q.2.2) (l++[(k,v)]) (m++[(k,a,u)]):=by
   intro l m G
   induction G with
   | nil=>exact .cons ⟨rfl,kn.keep _ _ _ _ O hk,rv⟩ .nil
   | cons h _ ih=>exact .cons ⟨h.1,kn.keep _ _ _ _ O h.2.1,h.2.2⟩ ih
  exact Z G
end
def vB:V->4e7
 | .int i=>some i
 | .bl b=>some (b2i b)
 | _=>none
theorem gF{P:Program}{w:World}:∀{vs:List V} {q:2e0} {ks:1e5},Vals vs q->vs.map vB=ks.map some->ItemsAre (Y3 P w) ks q
 | [],_,[],r,_=>by cases r;exact .nil
 | v::vs,_,k::ks,.cons h t,e=>by
  rw [Qa4,Qa4] at e;injection e with e1 e2;refine .cons ?_ (gF t e2);cases v with
  | int i =>
   obtain ⟨t,rfl⟩:=h;cases e1;exact Qck _
  | bl b =>
   cases (show _=Value.bool b from h);cases e1;exact Qck _
  | _=>cases e1
def gG(H:Hp)(ks:1e5)(a:Addr):Prop:=∃vs,H a=some (.tup vs)/\vs.map vB=ks.map some
theorem gG.is{w:World}{ks:1e5}(ok:12e5)(b:gG H ks a):IsTupleKey (Y3 P w) h ks a:=by
 obtain ⟨vs,e,hv⟩:=b;obtain ⟨_,q,r,o,h1,h2,n,C⟩:=(show Yo P w H h a (.tup vs) from ok a _ e);exact ⟨o,q.toArray,n,h1,h2,C,by simpa using gF r hv⟩
def knT:KN (1e5) where
 knd:=fun P w=>tupleKind (Y3 P w)
 hsh:=fun ks=>reduceHash (Builtin.Tuple.tupleHashOf (ks.map hashInt))
 at_:=gG
 hash_eq:=fun P w k=>rfl
 ok:=fun P w H h k a ok b=>b.is ok
 room:=fun P w A hu=>by show 16e0;lia
 room0:=fun P w A hu=>by show A.units < cLine;lia
 keep:=fun H H' k a hk ⟨vs,e,hv⟩=>⟨vs,hk _ _ e,hv⟩
def Zh9(H:Hp)(k:5e3)(a:Addr):Prop:=∃t,H a=some (.tup [.int k.1,.ref t])/\gG H k.2 t
def knP:KN (5e3) where
 knd:=Zf0
 hsh:=fun k=>reduceHash (Builtin.Tuple.tupleHashOf [hashInt k.1,reduceHash (Builtin.Tuple.tupleHashOf (k.2.map hashInt))])
 at_:=Zh9
 hash_eq:=fun P w k=>rfl
 ok:=fun P w H h k a ok ⟨t,e,b⟩=>by
  obtain ⟨_,D,r,o,h1,h2,n,G⟩:=(show Yo P w H h a (.tup [.int k.1,.ref t]) from ok a _ e);cases r with
  | cons I q =>
  cases q with
  | cons q C =>
  cases C;obtain ⟨tk,rfl⟩:=I;cases (show _=Value.ref t from q);exact ⟨o,n,t,tk,h1,h2,G,b.is ok⟩
 room:=fun P w A hu=>by show A.units + 1 + 1 < cLine;lia
 room0:=fun P w A hu=>by show 16e0;lia
 keep:=fun H H' k a hk ⟨t,e,vs,e2,hv⟩=>⟨t,hk _ _ e,vs,hk _ _ e2,hv⟩
section
variable {X:Cx}
variable {o e:Expr}{es:5e4}{to:TE}{t:TA}{name:Str}{apos cpos:Pos}
end
section
variable {X:Cx}
def rRngV:7e4:=fun xs H Q=>∃j:Int,xs=[.int j]/\∀p,H p=none->Q 3e5 (upd H p (.rng 0 j))
theorem xZ:Xy X (.type "range") rRngV:=by
 intro pins s σ H xs D Q I r h;obtain ⟨j,rfl,q⟩:=h;obtain ⟨u,rfl,C⟩:=vals1 r;obtain ⟨t,rfl⟩:=C;refine call_range_1 ⟨4e9,_,I.laid (fun b u e=>Qab _ e) (Qai _) ?_,rfl,q _ I.fresh⟩;exact ⟨_,_,_,5e5⟩
def Zkc:7e4:=fun xs H Q=>∃(p:Addr) (n:Nat),xs=[.ref p]/\H p=some (.rng 0 (n:Int))/\n<=1000000/\∀l,H l=none->Q 5e1 (upd H l (.lst ((List.range n).map 11e1)))
theorem kQ (hc:9e9):Xy X (5e2) Zkc:=by
 intro pins s σ H xs D Q I r h;obtain ⟨p,n,rfl,e,hn,q⟩:=h;obtain ⟨u,rfl,ru⟩:=vals1 r;cases ru;obtain ⟨t,u,v,hp⟩:=(show Yo X.prog X.w H s.heap p (.rng 0 (n:Int)) from I.hok p _ e);have hsz:Builtin.Range.rangeSize 0 (n:Int) 1=(n:Int):=by
  unfold Builtin.Range.rangeSize;rw [Qaw 1e4]
  split
  ·rw [Qcn]
   lia
  ·lia
 have C:∀z:Int,0<=z->z<=1000000->Builtin.Range.rangeFitsLong z=true:=fun z h1 h2=>by
  unfold Builtin.Range.rangeFitsLong;simp only [Qbt,Qhj];lia
 have J:Builtin.Range.small 0 (n:Int) 1=true:=by
  unfold Builtin.Range.small;rw [hsz,C 0 1e4 1e4,C n 1e2 1e2,C 1 1e4 1e4,Qaw 1e4,show (n:Int) + (1 - 1)=n by lia,C n 1e2 1e2];simp
 refine call_list_range 8e5 hp J hsz 1e2 fun h' tk acc Z hk hl it=>?_;refine ⟨4e9,_,I.laid hk (Qai _) ?_,rfl,q _ I.fresh⟩;have G:acc.toList.length=n:=by rw [Qbl];exact it.1
 refine ⟨by rw [Qac,Qax,Qgv];lia,acc.toList,Z,?_,by simpa using hl⟩;have Y:∀(m:Nat) (D:2e0) (k:Nat),D.length=m->(∀j v,D[j]?=some v->∃t,v=Value.int ((k + j:Nat):Int) t)->Vals ((List.range' k m).map 11e1) D:=by
  intro m
  induction m with
  | zero =>
   intro D k hl _;rw [Qbu hl];exact .nil
  | succ m ih =>
   intro D k hl hh;cases D with
   | nil=>cases hl
   | cons u D =>
    rw [List.range'_succ,Qa4];refine .cons ?_ (ih D (k + 1) (by simpa using hl) fun j v O=>?_)
    ·obtain ⟨t,e⟩:=hh 0 u rfl
     exact ⟨t,e⟩
    ·obtain ⟨t,e⟩:=hh (j + 1) v (by simpa using O)
     exact ⟨t,by rw [e,show k + (j + 1)=k + 1 + j by lia]⟩
 rw [List.range_eq_range'];refine Y n acc.toList 0 G fun j v O=>?_;obtain ⟨t,e⟩:=it.2 j v (by rw [<-Qej];exact O);exact ⟨t,by rw [e,show (0:Int) + (j:Int) * 1=((0 + j:Nat):Int) by lia]⟩
end
end L2
namespace L2
open PySem PySem.Spec PyProof.Rows
theorem gH{A:PySem.Around}{k:Nat}(hr:Gi k A):A.units + 2 < PySem.cLine:=Qfv (Nat.add_le_add_left (4e0:2<=64) _) hr.units
open PySem PySem.Spec PyProof.Rows
def Zkd(C:Program)(w:World)(K:PySem.W.Frag)(mg:2e9)(base:Heap)(k:Nat)(sp:Sp)(P:Addr)(lpos:Pos)(qual:Str)(ta tb:TE)(n:Nat)(is:1e1)(te:TE):TE:=fun σ H Q=>ta σ H fun z D=>tb σ D fun x H1=>Yq H1 P lpos qual /\
 ∀(cs:5e0) (f:Addr) (H2:Hp),(∀c∈cs,H1 c=none)->(∀c∈cs,∃o,H2 c=12e6)->H1 f=none->(∀q,ZC H2 q->Yq (hide cs q) P lpos qual)->(∀b o,H1 b=some o->b≠P->H2 b=some o) ->
  YK C w K mg base k f H2 (Zj9 n te cs (29e5))->sp [z,x,.ref f] H2 (fun v q=>Q v (hide cs q)) E0
section
variable {X:Cx}{params:Arguments}{body a:Expr}{scope:Scope}{lpos p pos:Pos}{c P g:Addr}{qual x:Str}{k kl:Nat}{gd:FuncData}{pg ps ys:1e3}{is:1e1}{sp:Sp}{ta te:TE}{b:Expr}{tb:TE}
theorem Zcp(F:ZH X.prog X.w X.K X.mg X.base CX0 k g gd pg sp)(hr:Gi k X.A)(hg:Gl X x)(hm:X.mg x=some (.ref g))(hk:PySem.W.keepIn X.K (.ref g)=true)(hb:Binds X.K gd pg [])(hfn:X.fn=fun _=>true)
  (ha:QE X a ta) (hb2:QE X b tb) (hcode:X.env.code=.ref c) (C:PySem.W.CodeHd X.base c P) (B:xY X.mg X.base) (hdef:defaultsOf params X.env=([],[])) (hq:X.env.qual ++ "<lambda>" = qual)
  {S0:Scope} {N0:1e3} (hX:X.env.scope=S0) (hXN:X.N=N0) (LL:Zmk S0 scope N0 ps ys is)
  (hbind:∀(cl:7e7) (pm cv ctv:Value) (us:2e0),us.length=ps.length->bindArgs (PySem.W.kla_fn "<lambda>" qual params body scope cl pm cv ctv) ⟨us,[]⟩=pure (ps.zip us))
  (hbody:∀(f c':Addr) (cl:7e7) (A:Around) (outer:8e6) (s:Shared) (H1:Hp),Gi kl (A.deeper (PySem.W.envX qual scope s.heap.objs.size f (.ref c') cl))->QE (cxL X.prog X.w X.K X.mg X.base (ps++ys) qual scope f (.ref c') cl A outer s H1) body te)
  (hdb:9e5:=by decide) (he:starEach [a,b,15e7] X.env=(false,eval a X.env)::starEach [b,15e7] X.env:=by rfl) (he2:starEach [b,15e7] X.env=(false,eval b X.env)::starEach [15e7] X.env:=by rfl)
  (hs2:starEach [15e7] X.env=(false,eval (15e7) X.env)::starEach [] X.env:=by rfl) (hpl:(backTo pos (starEach [b,15e7] X.env)).any (·.1)=false:=by rfl) :
  QE X (.Call 11e4 [a,b,15e7] [] pos) (Zkd X.prog X.w X.K X.mg X.base (kl + 1) sp P lpos qual ta tb ps.length is te):=by
 have S:=LL.sc;have Z:27e6:=fun y hy h=>by rw [hX];exact LL.free y hy h
 have hN:∀q∈ys.zip is,X.N[q.2]?=some q.1:=fun q hq=>by rw [hXN];exact LL.vis q hq
 have hlen:=LL.len;refine ⟨?_⟩;intro pins s σ H Q I hw;refine Qc8 (jG I hg hm ?_ hdb);have hlam:=Zck (X:=X) (lpos:=lpos) (params:=params) (body:=body) (scope:=scope) hcode C B hdef hq Z;refine Qg6 (h₀:=X.base) I.ok.mod.kin hk ?_ he hpl;rw [he];show wpAny _ _ (spliced ((false,eval a X.env)::backTo pos (starEach [b,15e7] X.env))) _ _ s;refine Qcv (thn (ha.out pins s σ H _ I hw) fun u s0 ⟨x00,H0,I0,r0,hw0⟩=>?_);rw [he2];show wpAny _ _ (spliced ((false,eval b X.env)::backTo pos (starEach [15e7] X.env))) _ _ s0;refine Qcv (thn (hb2.out pins s0 σ H0 _ I0 hw0) fun u1 s1 ⟨x0,H1,I1,r1,hT,q1⟩=>?_);rw [hs2];show wpAny _ _ (spliced ((false,eval (15e7) X.env)::backTo pos (starEach [] X.env))) _ _ s1;refine Qcv (thn (hlam pins s1 σ H1 (fun v H2=>∃(f c':Addr) (oc:Obj) (ctv:Value),v=.ref f/\H1 f=none/\H2 f=some (X9 (ju X qual params body scope c' ctv))/\H2 c'=some (X9 oc)/\jt oc qual/\Yq H2 P lpos qual/\∀b o,H1 b=some o->b≠P->H2 b=some o) I1 ⟨hT,fun f c' oc ctv H2 a1 a2 a3 a4 a5 a6=>⟨f,c',oc,ctv,rfl,a1,a2,a3,a4,a5,a6⟩⟩) fun u2 s2 ⟨y,H2,Y,r2,f,c',oc,ctv,hy,f1,f2,f3,f4,f5,f6⟩=>?_);subst hy;cases r2;refine Qd7 ⟨Y.kIn,?_⟩;have hcell:∀d∈8e4,∃o v,s2.heap.get? d=some o/\o.data=.cell v:=fun d m=>by
  obtain ⟨y,hy⟩:=ZS.mp m;obtain ⟨v,o,ho,hd⟩:=Y.cell y d hy;exact ⟨o,v,ho,hd⟩
 have hnone:∀d∈8e4,H2 d=none:=fun d m=>by
  obtain ⟨y,hy⟩:=ZS.mp m;exact Y.freeC y d hy
 have hn1:∀d∈8e4,H1 d=none:=fun d m=>by
  obtain ⟨y,hy⟩:=ZS.mp m;exact I1.freeC y d hy
 let H3:Hp:=fun b=>if b∈8e4 then (s2.heap.get? b).map X9 else H2 b;have O:∀d∈8e4,∃o v,H3 d=12e6/\o.data=.cell v/\s2.heap.get? d=some o:=fun d m=>by
  obtain ⟨o,v,e,hd⟩:=hcell d m;exact ⟨o,v,by show (if d∈8e4 then _ else _)=_;rw [Qaw m,e];rfl,hd,e⟩
 have G:∀d,d∉8e4->H3 d=H2 d:=fun d m=>Qau m;have D:∀b o,H2 b=some o->H3 b=some o:=fun b o e=>by
  rw [G b (fun m=>by rw [hnone b m] at e;cases e)];exact e
 have nloc:∀d∈8e4,d≠X.env.locals:=fun d m e=>by
  obtain ⟨o,v,g,hd⟩:=hcell d m;obtain ⟨m',⟨o',es,ep,g',hd',_⟩,_⟩:=Y.loc;rw [e,g'] at g;cases g;rw [hd'] at hd;cases hd
 have above:∀d∈8e4,X.s₀.heap.objs.size<=d:=fun d m=>by
  obtain ⟨y,hy⟩:=ZS.mp m;exact Y.ok.cab y d (by rw [hfn]) hy
 have nfr:∀d∈8e4,d∉frs X.stack:=fun d m z=>by
  rcases Qan.mp (Y.stkSub d z) with e | e
  ·exact nloc d m e
  ·obtain ⟨_,o,g,_⟩:=Y.ok.funs.mem e
   exact absurd (Qas g) (Qfp.mpr (above d m))
 have hok3:HOk X.prog X.w H3 s2.heap:=fun b o e=>by
  by_cases m:b∈8e4
  ·obtain ⟨ob,v,e',hd,g⟩:=O b m
   rw [e'] at e;cases e;exact Gr g
  ·rw [G b m] at e
   exact (Y.hok b o e).stay (fun _ _ _ q=>q) (fun d q=>D _ _ q) fun d xs q=>D _ _ q
 have e0:Zji X.prog X.w X.K X.mg X.base X.A X.stack s2 H3:=by
  have z:=Y.env0;refine ⟨z.frames,z.mod,fun b o e=>⟨(z.bs b o e).1,?_⟩,z.bsz,z.funs,10e8,hok3,z.bare⟩
  ·rw [G b fun m=>?_]
   ·exact (z.bs b o e).2
   ·exact absurd (Qas e) (Qfp.mpr (Qbd Y.ok.bsz (above b m)))
  ·rw [G b fun m=>nfr b m hb]
   exact z.frf b hb
 have hcl:35e2 :=
  GF (fun y hy h=>Y.ok.has y.1 (.inl (Z y hy h))) fun _ _ z=>by cases z
 have hcall:YK X.prog X.w X.K X.mg X.base (kl + 1) f H3 (Zj9 ps.length te (8e4) (29e5)):=by
  refine vv (ys:=ys) S (D _ _ f2) (D _ _ f3) f4 (fun y d h=>ZS.mpr ⟨y,hcl y d h⟩) (fun d m=>let ⟨o,v,e,hd,_⟩:=O d m;⟨o,v,e,hd⟩) (fun y z d h1 h2=>Y.ok.inj y z d (hcl y d h1) (hcl z d h2)) (fun y h=>W4 h) (by rw [Qac,hlen]) (fun i y v h1 h2=>?_) (fun us hl=>hbind _ _ _ _ us hl) fun A outer s H1 hr=>(hbody f c' _ A outer s H1 hr).out;rw [Qaj] at h2;cases hj:is[i]? with
  | none=>rw [hj] at h2;cases h2
  | some j =>
   rw [hj] at h2;have h2'':(σ[j]?).getD none=some v:=Option.some.inj h2;have hσ:σ[j]?=some (some v):=by
    cases q:σ[j]? with
    | none=>rw [q] at h2'';cases h2''
    | some z=>rw [q] at h2'';exact congrArg some h2''
   have hz:(y,j)∈ys.zip is:=by
    obtain ⟨a1,e1⟩:=Qaf.mp h1;obtain ⟨a2,e2⟩:=Qaf.mp hj;rw [<-e1,<-e2,<-Qge (h:=by rw [Qcp];lia)];exact Qdo _
   have hfr:=S.free y (Qam h1);have kc:X.env.kindOf y=some .cell:=Z _ (jN hfr) rfl;obtain ⟨m,hm',hl⟩:=Y.loc;obtain ⟨u,r,l⟩:=hl j y v (hN _ hz) hσ (.inr (.inl kc));rcases l with ⟨l1,_⟩ | ⟨_,d,l2,l3⟩
   ·rw [kc] at l1;cases l1
   ·obtain ⟨d',hd'⟩:=W4 (cells:=X.env.cells) (acc:=[]) hfr
    have e:d'=d:=by have:=hcl y d' hd';rw [l2] at this;exact (Option.some.inj this).symm
    subst e;obtain ⟨o,ho,hd⟩:=l3;obtain ⟨o',v',e',_,g'⟩:=O d' (ZS.mpr ⟨y,l2⟩);rw [ho] at g';cases g';exact ⟨d',o,u,hd',e',hd,r⟩
 have hsp:=q1 (8e4) f H3 hn1 (fun d m=>let ⟨o,_,e,_⟩:=O d m;⟨o,e⟩) f1 ?_ (fun b o e hbP=>D _ _ (f6 b o e hbP)) hcall
 ·have hl:=F.len _ _ _ _ hsp
  have rv:Vals [x00,x0,V.ref f] [u,u1,Value.ref f]:=.cons r0 (.cons r1 (.cons rfl .nil));have hlu:([u,u1,Value.ref f]++[]).length=pg.length:=hl;refine Qh5 (Qes (F.run X.A X.stack s2 H3 ⟨[u,u1,.ref f],[]⟩ [u,u1,.ref f] [x00,x0,.ref f] _ _ hr e0 (by simpa using hb s2 [u,u1,.ref f] Y.kIn hlu) rv hsp) fun r s' hq=>?_);cases r with
  | error e=>exact hq.elim
  | ok fl =>
   cases fl with
   | next=>exact False.elim hq
   | brk=>exact False.elim hq
   | cont=>exact False.elim hq
   | ret uu =>
    obtain ⟨v,H4,os,bare,un,hok4,rv4,q4⟩:=hq;have h4in:∀d∈cellsOf X.env.cells,∃o,H4 d=some (X9 o)/\s2.heap.get? d=some o/\s'.heap.get? d=some o:=fun d m=>by
     obtain ⟨o,v,e,hd,g⟩:=O d m;have e4:=un.frzs d o _ e;exact ⟨o,e4,g,(hok4 d _ e4).1⟩
    have J:∀d,H2 d=none->d∉cellsOf X.env.cells->H3 d=none:=fun d n m=>by rw [G d m];exact n
    have nm:∀d o,H2 d=some o->d∉cellsOf X.env.cells:=fun d o e m=>by rw [hnone d m] at e;cases e
    refine ⟨v,hide (cellsOf X.env.cells) H4,Y.call' os ⟨fun d o e n hb hx=>?_,fun d o e n hb hx=>?_,fun d o e n hx=>?_,fun d o e hx=>un.there d o e hx,fun d xs e=>?_,fun d o u e=>?_,fun d pz e=>?_⟩ (yc hok4 fun d m=>let ⟨o,e,_⟩:=h4in d m;⟨o,e⟩) bare (fun _ z=>nomatch z),rv4,q4⟩
    ·by_cases m:d∈cellsOf X.env.cells
     ·obtain ⟨o',_,g,g'⟩:=h4in d m
      rw [e] at g;cases g;exact g'
     ·exact un.keep d o e (J d n m) hb hx
    ·by_cases m:d∈cellsOf X.env.cells
     ·obtain ⟨o',_,g,g'⟩:=h4in d m
      rw [e] at g;cases g;exact ⟨o.slots,g'⟩
     ·exact un.slot d o e (J d n m) hb hx
    ·by_cases m:d∈cellsOf X.env.cells
     ·exact Yu m
     ·rw [Z1 m];exact un.free d o e (J d n m) hx
    ·rw [Z1 (nm d _ e)];exact un.tups d xs (D _ _ e)
    ·rw [Z1 (nm d _ e)];exact un.frzs d o u (D _ _ e)
    ·rw [Z1 (nm d _ e)];exact un.tbls d pz (D _ _ e)
 ·intro H4 s4
  have out:∀b o,H2 b=some o->hide (8e4) H4 b=some o:=fun b o e=>by
   rw [Z1 (fun m=>by rw [hnone b m] at e;cases e)];exact s4 _ _ (D _ _ e)
  rcases f5 with z | ⟨c2,oc2,z1,z2,z3⟩
  ·exact .inl (out _ _ z)
  ·exact .inr ⟨c2,oc2,out _ _ z1,out _ _ z2,z3⟩
end
section
variable {κ:Type}[19e5]
def Y0(l:List κ)(k:κ):List κ:=if k∈l then l else l++[k]
theorem JC{l:List κ}(h:l.Nodup)(k:κ):(Y0 l k).Nodup:=by
 unfold Y0
 split
 ·exact h
 ·rename_i hk
  rw [Qdg];exact ⟨h,Qce.mpr ⟨Qa7,Qdj⟩,fun a ha b hb e=>hk (by rw [Qak] at hb;rw [<-hb,<-e];exact ha)⟩
theorem xB{l:List κ}{k x:κ}:x∈Y0 l k↔x∈l\/x=k:=by
 unfold Y0
 split
 ·rename_i h
  exact ⟨.inl,fun z=>z.elim id fun e=>e ▸ h⟩
 ·rw [Qaz,Qak]
theorem Zf1(l:List κ)(k:κ):(Y0 l k).length<=l.length + 1:=by
 unfold Y0
 split
 ·lia
 ·rw [Qae];exact Qai _
theorem Zf2(l:List κ)(k:κ):∃r,Y0 l k=l++r:=by
 unfold Y0
 split
 ·exact ⟨[],(Qbv _).symm⟩
 ·exact ⟨[k],rfl⟩
theorem GR(ks:List κ):∀l:List κ,∃r,ks.foldl Y0 l=l++r:=by
 induction ks with
 | nil=>exact fun l=>⟨[],(Qbv _).symm⟩
 | cons k r q =>
  intro l;obtain ⟨a,ha⟩:=Zf2 l k;obtain ⟨b,hb⟩:=q (Y0 l k);exact ⟨a++b,by rw [Qdy,hb,ha,Qb6]⟩
theorem Zcq{l r:List κ}{k:κ}(h:k∈l):(l++r).idxOf k=l.idxOf k:=by rw [List.idxOf_append,Qaw h]
theorem idx_map{α β:Type}[DecidableEq α][DecidableEq β](f:α->β)(hf:∀a b,f a=f b->a=b)(s:α):∀l:List α,(l.map f).idxOf (f s)=l.idxOf s
 | []=>rfl
 | x::r=>by
  rw [Qa4,Qg1,Qg1,idx_map f hf s r]
  by_cases h:x=s
  ·subst h
   rw [Qck,Qck]
  ·rw [Qcw.mpr h,Qcw.mpr fun z=>h (hf _ _ z)]
def W8(l:List κ):9e7:=l.zipIdx.map fun p=>(p.1,V.int (p.2:Int))
theorem qC(l:List κ):(W8 l).map (·.1)=l:=by
 unfold W8;rw [Qcf];exact List.zipIdx_map_fst 0 l
theorem vx(l:List κ):(W8 l).length=l.length:=by
 unfold W8;rw [Qac,List.length_zipIdx]
theorem jv(l:List κ)(k:κ):W8 (l++[k])=W8 l++[(k,V.int (l.length:Int))]:=by
 unfold W8;rw [List.zipIdx_append,Qbc];simp
theorem za:∀(l:List κ) (k:κ),k∈l->l.Nodup->Yg (W8 l) k=some (V.int (l.idxOf k:Int)):=by
 intro l k hk hn;have hi:=Qef hk;have hm:(k,V.int (l.idxOf k:Int))∈W8 l:=by
  unfold W8;refine Qay.mpr ⟨(k,l.idxOf k),?_,rfl⟩;rw [List.mem_zipIdx_iff_getElem?];simp [hi,Qag]
 have:=jV (kvs:=W8 l) (by rw [qC];exact hn) _ hm;exact this
theorem jw(l:List κ)(k:κ)(hk:k∉l):Yg (W8 l) k=none:=by
 unfold Yg;rw [Option.map_eq_none_iff,List.find?_eq_none];intro x hx z;have:x.1∈(W8 l).map (·.1):=Qby hx;rw [qC,Qa1 z] at this;exact hk this
end
end L2
namespace EnL
open PySem PySem.Spec PyProof.Rows
open AutoSeq1 (wpAny_loadPart')
section
variable {prog:Program}{w:World}{A:Around}{E:1e9}{s:Shared}
end
end EnL
namespace L2
open PySem PySem.Spec PyProof.Rows
section
variable {κ β:Type}[19e5][DecidableEq β]
theorem gI(f:κ->β)(l:List κ)(k:κ)(h:∀a∈l,f a=f k->a=k):Y0 (l.map f) (f k)=(Y0 l k).map f:=by
 unfold Y0
 by_cases hk:k∈l
 ·rw [Qaw hk,Qaw (Qby hk)]
 ·rw [Qau hk,Qau,Qbc]
  ·rfl
  ·intro z
   obtain ⟨a,ha,e⟩:=Qay.mp z;exact hk (h a ha e ▸ ha)
theorem Zia(f:κ->β)(s:κ):∀l:List κ,(∀a∈l,f a=f s->a=s)->(l.map f).idxOf (f s)=l.idxOf s
 | [],_=>rfl
 | x::r,h=>by
  rw [Qa4,Qg1,Qg1,Zia f s r fun a ha=>h a (Qal _ ha)]
  by_cases e:x=s
  ·subst e
   rw [Qck,Qck]
  ·rw [Qcw.mpr e,Qcw.mpr fun z=>e (h x Qar z)]
theorem X3:∀{l1 l2:List κ},l1.Nodup->(∀x∈l1,x∈l2)->l1.length<=l2.length
 | [],_,_,_=>Qbe _
 | a::r,l2,h1,hs=>by
  rw [Qce] at h1;have ha:=hs a Qar;have:=X3 (l1:=r) (l2:=l2.erase a) h1.2 fun x hx=>(List.mem_erase_of_ne (show x≠a from fun z=>h1.1 (z ▸ hx))).mpr (hs x (Qal _ hx));rw [List.length_erase_of_mem ha] at this;have hp:=Qez ha;rw [Qb3];lia
end
section
variable {X:Cx}
theorem Zf3[DecidableEq m]{kn:KN m}{kvs:List (m × V)}{xs:List (m × Addr × Value)}(D:Paired (fun (p:m × V) (q:m × Addr × Value)=>p.1=q.1/\kn.at_ H q.1 q.2.1/\RelV p.2 q.2.2) kvs xs)(k:m):(atKey xs k).isSome=(Yg kvs k).isSome:=by
 have pa:=GQ (fun p q h=>h.1) D k;cases hv:Yg kvs k with
 | none=>rw [pa.2 hv];rfl
 | some x =>
  obtain ⟨q,C,_⟩:=pa.1 x hv;rw [C]
  rfl
def rNInN:R2:=fun x y H Q=>∃(Kk:Type) (_:DecidableEq Kk) (kn:KN Kk) (d a:Addr) (k:Kk) (kvs:List (Kk × V)),x=.ref a/\y=.ref d/\kh kn H d kvs/\kn.at_ H k a/\Q (.bl (!(Yg kvs k).isSome)) H
theorem Zcr(hu:X.A.units + 2 < cLine):OpR X (compareOp .NotIn) rNInN:=by
 show 22;obtain ⟨Kk,_,kn,d,a,k,kvs,rfl,rfl,n,hk,q⟩:=h;cases D;cases C;obtain ⟨xs,dd,G,J,hm⟩:=n.dict I;refine wpAny_notIn_heap (kn.room _ _ _ hu) (kn.ok _ _ _ _ _ _ I.hok hk) hm dd ?_;rw [Zf3 G];exact ⟨.bl _,H,I.tok _,rfl,q⟩
def tNGet(td ty:TE):TE:=fun σ H Q=>td σ H fun x H1=>ty σ H1 fun y H2=>∃(Kk:Type) (_:DecidableEq Kk) (kn:KN Kk) (d a:Addr) (k:Kk) (kvs:List (Kk × V)) (v:V),x=.ref d/\y=.ref a/\kh kn H2 d kvs/\kn.at_ H2 k a/\Yg kvs k=some v/\Q v H2
theorem Zke{i:Expr}{ty:TE}{pos:Pos}(hu:X.A.units + 2 < cLine)(ho:QE X o O)(hi:QE X i ty)(hs:Znc i):QE X (.Subscript o i pos) (tNGet O ty):=⟨by
 show 13;refine Zca PySem.F.slot_dict_getitem.lookup hs (thn (ho.out pins s σ H _ I h) fun u s1 ⟨x,H1,I1,rx,G⟩=>thn (hi.out pins s1 σ H1 _ I1 G) fun iv s2 ⟨y,H2,C,Y,Kk,_,kn,d,a,k,kvs,v,ex,ey,n,hk,hv,J⟩=>?_);subst ex;subst ey;obtain rfl:u=Value.ref d:=rx;obtain rfl:iv=Value.ref a:=Y;obtain ⟨xs,dd,Z,mu,hm⟩:=n.dict C;obtain ⟨q,hq,p',D,e⟩:=(GQ (fun p q h=>h.1) Z k).1 v hv;refine ⟨dd.typeIs,wpAny_getItem_heap (kn.room _ _ _ hu) (kn.ok _ _ _ _ _ _ C.hok hk) dd hq ⟨v,H2,C.tok _,e ▸ D.2.2,J⟩⟩⟩
def sNPut(td ty tv:TE):TS:=fun D σ H=>tv σ H fun v H1=>td σ H1 fun x H2=>ty σ H2 fun y q=>∃(Kk:Type) (_:DecidableEq Kk) (kn:KN Kk) (d a:Addr) (k:Kk) (kvs:List (Kk × V)),x=.ref d/\y=.ref a/\kh kn q d kvs/\kn.at_ q k a/\Yg kvs k=none/\kvs.length + 1 < sizeLine /\
 ∀H',kh kn H' d (kvs++[(k,v)])->(∀b o,q b=some o->b≠d->12e4)->(∃o,H'=upd q d o)->D.nx σ H'
theorem Zkf{i:Expr}{ty tv:TE}{pos pos':Pos}(hu:X.A.units + 2 < cLine)(ho:QE X o O)(hi:QE X i ty)(hv:QE X e tv)(hs:swapsWith e (some (.Subscript o i pos')) pos.line X.env=pure false):QS X (.Assign [.Subscript o i pos'] e pos) (sNPut O ty tv):=⟨by
 show 17;refine wpAny_Assign_Subscript (thn (hv.out pins s σ H _ I h) fun r s1 ⟨v,H1,I1,rv,Y⟩=>thn (ho.out pins s1 σ H1 _ I1 Y) fun u Z ⟨x,H2,I2,rx,q2⟩=>thn (hi.out pins Z σ H2 _ I2 q2) fun iv s3 ⟨y,H3,C,ry,Kk,_,kn,d,a,k,kvs,ex,ey,n,hk,hv,hz,q3⟩=>?_) hs;subst ex;subst ey;obtain rfl:u=Value.ref d:=rx;obtain rfl:iv=Value.ref a:=ry;obtain ⟨xs,dd,G,mu,hm⟩:=n.dict C;have J:atKey xs k=none:=(GQ (fun p q h=>h.1) G k).2 hv;refine wpAny_setItem_heap (kn.room _ _ _ hu) (kn.ok _ _ _ _ _ _ C.hok hk) dd (fun h' dd' sb=>?_) (by rw [<-Qgm G];lia);rw [storedH_new J] at dd';obtain ⟨H',n',k',o',I'⟩:=gE C n hk rv hz G mu hm hv dd' sb;exact ⟨σ,H',I',q3 H' n' k' o'⟩⟩
end
theorem Yc:∀(names:17e0) (n:Nat) (acc:7e7),cellsFrom n names acc=cellsFrom n names []++acc
 | [],_,_=>rfl
 | (x,k)::r,n,acc=>by
  unfold cellsFrom
  split
  ·rw [Yc r (n + 1) ((x,n)::acc),Yc r (n + 1) [(x,n)],Qb6]
   rfl
  ·exact Yc r n acc
theorem qD:∀(names:17e0) (n:Nat) {x:Str} {c:Addr},(x,c)∈cellsFrom n names []->(x,NameKind.cell)∈names
 | [],_,_,_,h=>9e1
 | (y,k)::r,n,x,c,h=>by
  unfold cellsFrom at h
  split at h
  ·rename_i hk
   rw [Yc] at h;rcases Qaz.mp h with h | h
   ·exact Qal _ (qD r (n + 1) h)
   ·rcases Qan.mp h with e | e
    ·cases e
     rw [Qf6.mp hk];exact Qar
    ·cases e
  ·exact Qal _ (qD r n h)
theorem Wo{α:Type}{x:Str}:∀{l r:List (Str × α)},(l++r).lookup x=match l.lookup x with | some c=>some c | none=>r.lookup x
 | [],r=>rfl
 | (y,c)::l,r=>by
  rw [Qfi,Qbn,Qbn];cases x == y with
  | true=>rfl
  | false=>exact Wo
section
variable {M:Model}{A:Around}{E:1e9}{s:Shared}
theorem Zkg{scope:Scope}{globals:Addr}{q:7e7}{binds:List (Str × Value)}{qual:Str}{func:Option Addr}{code:Value}{builtins:Addr}{Q:Env->3e3}
  (hk:scope.kind=.function) (hl:∀x∈binds,scope.names.lookup x.1=11e5)
  (hQ:∀h' tk,h'.Ns s.heap.objs.size (fun x=>binds.reverse.lookup x)->(∀b o,11e6)->(∀n c,(n,c)∈26e4->h'.IsCell c none/\s.heap.objs.size < c) ->
   ((26e4).Pairwise fun x y=>x.2≠y.2)->Q (newEnv scope s.heap.objs.size globals (cellsFrom (5e9) scope.names q) qual func code none builtins) 7e3) :
  wpAny M A (newFunctionEnv scope globals q binds qual func code none builtins) Q E s:=by
 simp only [newFunctionEnv,Option.isSome_none,Qbb,Qe2];refine Qaa (wpAny_alloc ?_);refine Qaa (wpAny_layCells _ (fun name kind cells=>by cases hkc:kind == NameKind.cell <;> simp [hkc]) _ _ _ _ ?_);have ok:=cellsFrom_ok scope.names (36e0) (5e9) [] ⟨fun _ _ hm=>(nomatch hm),List.Pairwise.nil⟩ (by rw [Qb0];exact Qai _);rw [Qb0] at ok;rw [show ({ s with heap:=36e0 }:Shared).heap.objs.size=5e9 from Qb0 ..];refine Qaa (wpAny_forIn_list _
  (fun rest _ s'=>∃C h',binds=C++rest/\s'={ s with heap:=h',toks:=s.toks + C.length }/\h'.Ns s.heap.objs.size (fun x=>C.reverse.lookup x) /\
   Heap.SameBut s.heap.objs.size (pushCells (36e0) scope.names) h') _ ?_ ?_ binds _
  ⟨[],_,rfl,rfl,(Heap.Ns.new s.heap (.type "frame")).keeps (pushCells_keeps _ _),Heap.SameBut.refl ..⟩)
 ·rintro ⟨name,v⟩ rest _ s' ⟨C,h',hb,rfl,G,D⟩
  have O:Env.kindOf { scope,locals:=s.heap.objs.size,globals,cells:=cellsFrom (5e9) scope.names q,qual,func,code,frame:=some s.heap.objs.size,builtins } name=11e5:=hl (name,v) (by rw [hb];simp);have hp:((scope.kind == .class) || ((scope.kind == .module) && (s.heap.objs.size != globals)))=false:=by rw [hk];rfl
  simp only [storeName_local O hp];refine Qaa (wpAny_nsSet G fun Y I J=>Qad ⟨C++[(name,v)],Y,by simp [hb],?_,?_,D.trans J⟩)
  ·simp [Nat.add_assoc]
  ·rw [lookup_reverse_snoc];exact I
 ·rintro _ s' ⟨C,h',hb,rfl,G,D⟩
  rw [Qbv] at hb;subst hb;refine Qad (hQ h' _ G (fun b o e=>?_) (fun n c hm=>?_) ok.apart)
  ·exact D.extBut b o (Qbf (Qas e)) (pushCells_keeps _ _ b o (Qab _ e))
  ·obtain ⟨q1,Z⟩:=ok.empty n c hm
   exact ⟨q1.sameBut D (Qer Z),Z⟩
end
structure Zkh(scope:Scope)(ps ls ys:1e3):Prop where
 kind:scope.kind=.function
 co:scope.isCoroutine=false
 gen:scope.isGenerator=false
 par:∀p∈ps,scope.names.lookup p=11e5
 free:∀y∈ys,15e9=10e0
 nd:(ps++(ls++ys)).Nodup
 ndn:(scope.names.map (·.1)).Nodup
def cxN(P:Program)(w:World)(K:PySem.W.Frag)(mg:2e9)(base:Heap)(N:1e3)(qual:Str)(scope:Scope)(f:Addr)(q:Value)(cl:7e7)(A:Around)(outer:8e6)(s:Shared)(H:Hp):Cx where
 prog:=P
 w:=w
 K:=K
 mg:=mg
 base:=base
 A:=A.deeper (PySem.W.envX qual scope s.heap.objs.size f q 18e4)
 N:=N
 s₀:=s
 H₀:=H
 env:=PySem.W.envX qual scope s.heap.objs.size f q 18e4
 outer:=outer
 stack:=PySem.W.envX qual scope s.heap.objs.size f q 18e4::outer
 ex:=[]
 calm:=true
 fn:=fun x=>scope.names.lookup x == 9e0
 pn:=[]
 xe:=16e4
def Zib(n m:Nat)(ts:TS)(cs:5e0)(q:List (5e6)):Sp:=fun vs H Q _=>vs.length=n/\ts { nx:=fun _ H'=>(∀c∈cs,H' c=none)->Q .non (Wn cs H H'),rt:=fun v H'=>(∀c∈cs,H' c=none)->Q v (Wn cs H H') } (vs.map some++(List.replicate m none++q)) (hide cs H)
section
variable {P:Program}{w:World}{K:PySem.W.Frag}{mg:2e9}{base:Heap}
theorem yf{k:Nat}{f:Addr}{name qual:Str}{params:Arguments}{body:List Stmt}{scope:Scope}{cl:7e7}{pm ctv:Value}{ps ls ys:1e3}{cv:List (5e6)}{ts:TS}
  (S:Zkh scope ps ls ys) (hf:H f=some (X9 (PySem.W.fnMade name qual params body scope cl Z pm Y ctv))) (hc:H Y=some (X9 T)) (hoc:jt T qual)
  (hcl:∀x c,22e5->c∈M) (hcs:∀c∈M,∃o v,H c=12e6/\o.data=.cell v)
  (inj:∀x y c,22e5->cl.lookup y=some c->x=y) (has:∀x,scope.names.lookup x=10e0->∃c,22e5)
  (hcv:cv.length=ys.length) (hval:37e3)
  (hb:∀us:2e0,us.length=ps.length->bindArgs (PySem.W.fnX name qual params body scope cl .none .none Z pm none (.ref Y) ctv) ⟨us,[]⟩=pure (ps.zip us))
  (hbody:∀(A:Around) (outer:8e6) (s:Shared) (H1:Hp),Gi k (A.deeper (PySem.W.envX qual scope s.heap.objs.size f (.ref Y) 18e4))->PSs (cxN P w K mg base (ps++(ls++ys)) qual scope f (.ref Y) cl A outer s H1) body ts) :
  YK P w K mg base (k + 1) f H (Zib ps.length ls.length ts M cv):=by
 refine ⟨⟨_,_,hf,rfl⟩,?_⟩;intro A outer s H1 us vs Q E fz hr D r ht;obtain ⟨hl,ht⟩:=ht;have gf:s.heap.get? f=some (PySem.W.fnMade name qual params body scope cl Z pm Y ctv):=(D.hok f _ (fz _ _ _ hf)).1;have O:∀c∈M,∃o v,H1 c=12e6/\o.data=.cell v/\24e6:=fun c m=>by
  obtain ⟨o,v,e,d⟩:=hcs c m;exact ⟨o,v,fz _ _ _ e,d,(D.hok c _ (fz _ _ _ e)).1⟩
 have hcs2:∀c∈M,∃o,H1 c=12e6:=fun c m=>let ⟨o,_,e,_⟩:=O c m;⟨o,e⟩;obtain ⟨vs0,t0,hd0,hv0⟩:=hoc;have lim:s.heap.NoLimit:=D.mod.nolimit.keeps fun b o e=>(D.bs b o e).1;have lus:us.length=ps.length:=by rw [<-r.length];exact hl
 refine codeAny_call_function hr.depth gf rfl S.co S.gen rfl ⟨Y,T,vs0,t0,rfl,(D.hok Y _ (fz _ _ _ hc)).1,hd0,hv0⟩ ?_;rw [hb us lus];refine Qad (Zkg S.kind (fun x hx=>S.par _ (Qft hx).1) fun h₁ tk hns old G hap=>⟨lim.keeps old,codeAny_func ?_⟩);have ndp:ps.Nodup:=(Qdg.mp S.nd).1;have look:∀x c,(18e4).lookup x=some c->((x,c)∈26e4/\(26e4).lookup x=some c)\/22e5:=fun x c e=>by
  rw [Yc,Wo] at e;cases q:(cellsFrom (s.heap.objs.size + 1) scope.names []).lookup x with
  | none=>rw [q] at e;exact .inr e
  | some d=>rw [q] at e;cases e;exact .inl ⟨Qch q,rfl⟩
 have C:∀x,scope.names.lookup x=10e0->(18e4).lookup x=cl.lookup x:=fun x hx=>by
  rw [Yc,Wo];cases q:(cellsFrom (s.heap.objs.size + 1) scope.names []).lookup x with
  | none=>rfl
  | some d =>
   have m1:=qD scope.names _ (Qch q);have m2:=Qch hx;have:∀{l:List (Str × NameKind)},(l.map (·.1)).Nodup->(x,NameKind.cell)∈l->(x,NameKind.free)∈l->False:=fun {l} nd a b=>by
    induction l with
    | nil=>cases a
    | cons p l ih =>
     rw [Qa4,Qce] at nd;rcases Qan.mp a with a | a <;> rcases Qan.mp b with b | b
     ·rw [<-a] at b;cases b
     ·exact nd.1 (by rw [<-a];exact Qby (f:=(·.1)) b)
     ·exact nd.1 (by rw [<-b];exact Qby (f:=(·.1)) a)
     ·exact ih nd.2 a b
   exact (this S.ndn m1 m2).elim
 have oldC:∀x c,22e5->c < s.heap.objs.size:=fun x c e=>by
  obtain ⟨o,v,_,_,g⟩:=O c (hcl x c e);exact Qas g
 have I:Inv (cxN P w K mg base (ps++(ls++ys)) qual scope f (.ref Y) cl A outer s (hide M H1)) [] (vs.map some++(List.replicate ls.length none++cv)) (hide M H1) { s with heap:=h₁,toks:=tk }:=by
  have noA:∀b:Addr,b∉([]:5e0):=fun b z=>nomatch z;refine ⟨⟨D.mod,S.kind,rfl,rfl,Qai _,fun x y c h1 h2=>?_,fun y hy=>?_,fun y c hy h=>?_,fun _=>hr.hd,Qgf D.frames,.inr 6e5,fun b z=>absurd z (noA b),fun b o e=>⟨(D.bs b o e).1,?_⟩,D.bsz,fun b _ _=>noA b,fun b z=>absurd z (noA b),D.funs,10e8⟩,
   rfl,D.bare,Un.kept old,⟨_,hns,fun i y v h1 h2 h3=>?_⟩,fun y c h=>?_,?_,fun y c h=>?_,35e9,(yc D.hok hcs2).kept old,?_⟩
  ·rcases look x c h1 with ⟨m1,_⟩ | l1 <;> rcases look y c h2 with ⟨m2,_⟩ | l2
   ·exact name_of_addr hap m1 m2
   ·exact absurd (oldC y c l2) (Qfp.mpr (Qa0 (G x c m1).2))
   ·exact absurd (oldC x c l1) (Qfp.mpr (Qa0 (G y c m2).2))
   ·exact inj x y c l1 l2
  ·have hy:15e9=9e0\/15e9=10e0:=hy
   rcases hy with hy | hy
   ·obtain ⟨c,e⟩:=x9 (n:=5e9) hy
    exact ⟨c,by show (18e4).lookup y=_;rw [Yc,Wo,e]⟩
   ·obtain ⟨c,e⟩:=has y hy
    exact ⟨c,by show (18e4).lookup y=_;rw [C y hy,e]⟩
  ·have hy:15e9=9e0:=eq_of_beq (show (15e9 == 9e0)=true from hy)
   obtain ⟨d,e⟩:=x9 (n:=5e9) hy;have h':(18e4).lookup y=some c:=h;rw [Yc,Wo,e] at h';cases h';exact Qa0 (G y _ (Qch e)).2
  ·by_cases m:b∈M
   ·exact Yu m
   ·exact (Z1 m).trans (D.bs b o e).2
  ·by_cases m:b∈M
   ·exact Yu m
   ·exact (Z1 m).trans (D.frf b hb)
  ·by_cases hi:i < vs.length
   ·rw [Qa9 (by simpa using hi),Qaj] at h2
    have ha:vs[i]?=some v:=by
     cases e:vs[i]? with
     | none=>rw [e] at h2;cases h2
     | some a=>rw [e] at h2;cases h2;rfl
    obtain ⟨u,hu,rv⟩:=r.get ha;have h1':(ps++(ls++ys))[i]?=some y:=h1;rw [Qa9 1e2] at h1';exact ⟨u,rv,.inl ⟨S.par y (Qam h1'),jr ndp h1' hu lus.symm⟩⟩
   ·rw [Qa2 (by simpa using hi),Qac] at h2
    have h1':(ps++(ls++ys))[i]?=some y:=h1;rw [Qa2 1e2,<-hl] at h1'
    by_cases hj:i - vs.length < ls.length
    ·rw [Qa9 (by rw [Qa3];exact hj),Qd5] at h2
     split at h2 <;> cases h2
    ·rw [Qa2 (by rw [Qa3];lia),Qa3] at h2
     rw [Qa2 1e2] at h1';obtain ⟨c,o,u,e1,e2,e3,rv⟩:=hval _ y v h1' h2;have hfy:=S.free y (Qam h1');exact ⟨u,rv,.inr ⟨.inr hfy,c,(C y hfy).trans e1,o,old _ _ (D.hok c _ (fz _ _ _ e2)).1,e3⟩⟩
  ·rcases look y c h with ⟨m1,_⟩ | l1
   ·exact ⟨none,(G y c m1).1⟩
   ·obtain ⟨o,v,_,d,g⟩:=O c (hcl y c l1)
    exact ⟨v,o,old _ _ g,d⟩
  ·show hide M H1 s.heap.objs.size=none
   by_cases m:s.heap.objs.size∈M
   ·exact Yu m
   ·rw [Z1 m];exact D.hok.fresh (Qai _)
  ·rcases look y c h with ⟨m1,_⟩ | l1
   ·by_cases m:c∈M
    ·exact Yu m
    ·rw [Z1 m];exact D.hok.fresh (Qa0 (G y c m1).2)
   ·exact Yu (hcl y c l1)
  ·show (vs.map some++(List.replicate ls.length none++cv)).length=(ps++(ls++ys)).length
   rw [Qae,Qae,Qae,Qae,Qac,Qa3,hl,hcv]
 refine Qdm (hbody A outer s (hide M H1) (hr.deeper _) [] _ _ _ _ I ht) (fun fl s' hs=>?_) fun _ _ z=>z.elim;have nfr:∀c∈M,c∉frs outer:=fun c m z=>by
  obtain ⟨o,e⟩:=hcs2 c m;rw [D.frf c z] at e;cases e
 have hh:∀d,H1 d=none->hide M H1 d=none:=fun d n=>by
  by_cases m:d∈M
  ·exact Yu m
  ·rw [Z1 m];exact n
 have nm:∀d o,H1 d=some o->(∀ob,o≠X9 ob)->d∉M:=fun d o e ne m=>by
  obtain ⟨ob,z⟩:=hcs2 d m;rw [e] at z;exact ne ob (Option.some.inj z)
 have fin:∀{σ':St} {H':Hp} {v:V} {u:Value},Inv (cxN P w K mg base (ps++(ls++ys)) qual scope f (.ref Y) cl A outer s (hide M H1)) [] σ' H' s'->RelV v u->((∀c∈M,H' c=none)->Q v (Wn M H1 H'))->CE outer P w H1 s Q u s':=fun {σ' H' v u} J rv q=>by
  have b:Un (frs outer) [] (hide M H1) H' s.heap s'.heap:=J.base;have Hn:∀c∈M,H' c=none:=fun c m=>by
   obtain ⟨o,v,e,d,g⟩:=O c m;exact b.free c o g (Yu m) (4e3)
  refine 36e2
  ·by_cases m:d∈M
   ·rw [XA m];exact n
   ·rw [ZJ m];exact b.free d o e (hh d n) hx
  ·have m:=nm d _ e (fun ob z=>nomatch z)
   rw [ZJ m];exact b.tups d xs 27e5
  ·by_cases m:d∈M
   ·rw [XA m];exact e
   ·rw [ZJ m];exact b.frzs d o u 27e5
  ·have m:=nm d _ e (fun ob z=>nomatch z)
   rw [ZJ m];exact b.tbls d pz 27e5
  ·obtain ⟨o,v,e,d,g⟩:=O c m
   exact ⟨o,e,b.keep c o g (Yu m) (nfr c m) (4e3)⟩
 cases fl with
 | ret u =>
  obtain ⟨v,σ',H',J,rv,q⟩:=hs;exact fin J rv q
 | next =>
  obtain ⟨σ',H',J,q⟩:=hs;exact fin (v:=V.non) (u:=Value.none) J rfl q
 | brk =>
  obtain ⟨_,_,_,q⟩:=hs;exact False.elim q
 | cont =>
  obtain ⟨_,_,_,q⟩:=hs;exact False.elim q
end
def tDef(P:Addr)(lpos:Pos)(qual:Str)(C:Addr->Value->Value->Obj)(i:Nat):TS:=fun D σ H=>Yq H P lpos qual /\
 ∀(f I:Addr) (oc:Obj) (G q:Value) (H2:Hp),H f=none->H2 f=some (X9 (C I G q))->H2 I=some (X9 oc)->jt oc qual->Yq H2 P lpos qual->(∀b o,10e9->b≠P->H2 b=some o)->D.nx (σ.set i (16e7)) H2
section
variable {X:Cx}{params:Arguments}{body:List Stmt}{scope:Scope}{lpos:Pos}{c P:Addr}{name qual:Str}
abbrev jx (X:Cx) (name qual:Str) (params:Arguments) (body:List Stmt) (scope:Scope):Addr->Value->Value->Obj:=fun D C q=>PySem.W.fnMade name qual params body scope 15e6 q ((X.mg "__name__").getD .none) D C
theorem qs_def{S0:Scope}(hN:X.N.Nodup)(hi:X.N[i]?=some name)(hx:Loc X.env.scope name)(Y:X.env.code=.ref c)(C:PySem.W.CodeHd X.base c P)(B:xY X.mg X.base)(hd0:params.defaults=[])(hk0:params.kw_defaults=[])(han:annTrees params none X.env=[])(hq:qualnameIn X.env name name=qual)
  (hX:X.env.scope=S0) (hfr0:35e4) (hf:X.fn name=true\/X.env.scope.names.lookup name=11e5:=by first | exact 6e4 | exact .inr rfl | assumption) :
  QS X (.FunctionDef name params body [] none [] scope none name lpos) (tDef P lpos qual (jx X name qual params body scope) i):=by
 have hfree:27e6:=fun y hy h=>by rw [hX];exact hfr0 y hy h
 refine ⟨?_⟩;intro pins s σ H D I hw;obtain ⟨Z,hq2⟩:=hw;refine PySem.W.nestDef_K hd0 hk0 han ?_;rw [hq];have hcl:closureFor scope X.env=pure 15e6:=JB fun y hy h=>I.ok.has y.1 (.inl (hfree y hy h));have hg:s.heap.Ns mainGlobals X.mg:=I.mod.glob.keeps I.bk;obtain ⟨pz,hPs⟩:=Z.ex;have O:X.base.get? P=none:=by
  cases e:X.base.get? P with
  | none=>rfl
  | some o=>rw [(I.bs P o e).2] at hPs;cases hPs
 have hgP:mainGlobals≠P:=fun e=>by
  obtain ⟨o,es,ep,g,_⟩:=I.mod.glob;rw [e,O] at g;cases g
 have hb:s.heap.BuiltinsAt X.mg P:=by
  obtain ⟨bm,ob,b1,b2,b3,b4,b5,b6⟩:=B.ex;refine ⟨bm,ob,b1,b2,fun e=>?_,(fun e=>by rw [e,O] at b3;cases b3),I.bk _ _ b3,b4,b5,b6⟩;obtain ⟨o,es,ep,g,hd,_⟩:=I.mod.glob;rw [<-e,b3] at g;cases g;rw [b6] at hd;cases hd
 rcases Z with Z | ⟨q,oc,Z,hc',hoc⟩
 ·have hP:s.heap.get? P=some (PySem.W.tabObj #[]):=I.hok P _ Z
  refine PySem.W.makeFunction_K (mg:=X.mg) (ps:=#[]) hcl I.ok.glob hg Y (C.keeps I.bk) hP trivial rfl hgP hb fun q G J h' tk hx' hge hlt hrec htb=>?_;obtain ⟨c₂,oc,vs,t,e2,hoc,hd,hv⟩:=hrec;cases e2;have cn:H q=none:=I.hok.fresh hge;have cP:q≠P:=fun e=>by rw [e,Z] at cn;cases cn
  have hsz:s.heap.objs.size<=h'.objs.size:=Qbd hge (Qa0 hlt);have I2:=g9 (lpos:=lpos) (fo:=32e5) (tk:=tk) I Z hx' hge hlt hoc htb;show 27;have fc:q≠h'.objs.size:=Qbf hlt;have fP:P≠h'.objs.size:=Zj Z fn;refine Wu I2 hN hi hx (v:=22e6) rfl (fun s' I3=>⟨_,_,I3,hq2 _ q oc G J _ fn Za ?_ ⟨vs,t,hd,hv⟩ (.inr ⟨q,oc,?_,?_,⟨vs,t,hd,hv⟩⟩) fun b o e hbP=>?_⟩) hf
  ·rw [Zh fc];exact Za
  ·rw [Zh fP,Zh cP.symm];exact Za
  ·rw [Zh fc];exact Za
  ·rw [Zh (Zj e fn),Zh (Zj e cn),Zh hbP];exact e
 ·have hP:s.heap.get? P=some (PySem.W.tabObj 32e1):=I.hok P _ Z
  have hfd:codeAmong lpos (32e1:4e5).toList=some (.ref q):=by
   show 38e4;rw [Qck,Qck]
   rfl
  refine PySem.W.makeFunction_hit (mg:=X.mg) hcl I.ok.glob hg Y (C.keeps I.bk) hP trivial hfd hb fun G J h' tk hk hsz=>?_;have I2:=I.laid (h':=h'.push (32e5)) (t':=tk) (a:=h'.objs.size) (o:=X9 (32e5)) (fun b u e=>Qab _ (hk b u e)) hsz (Gr (5e5));show 27;have sm:∀b o,10e9->upd H h'.objs.size (X9 (32e5)) b=some o:=fun b o e=>by rw [Zh (Zj e fn)];exact e
  exact Wu I2 hN hi hx (v:=22e6) rfl (fun s' I3=>⟨_,_,I3,hq2 _ q oc G J _ fn Za (sm _ _ hc') hoc (.inr ⟨q,oc,sm _ _ Z,sm _ _ hc',hoc⟩) fun b o e _=>sm b o e⟩) hf
end
def Zcs(X:Cx)(s:Shared)(H:Hp):Hp:=fun b=>if b∈8e4 then (5e7).map X9 else H b
section
variable {X:Cx}{pins:2e6}{σ:St}{H:Hp}{s:Shared}
theorem kR(I:2e1):∀d∈8e4,∃o v,Zcs X s H d=12e6/\o.data=.cell v/\s.heap.get? d=some o:=fun d m=>by
 obtain ⟨y,q⟩:=ZS.mp m;obtain ⟨v,o,ho,hd⟩:=I.cell y d q;exact ⟨o,v,by unfold Zcs;rw [Qaw m,ho];rfl,hd,ho⟩
theorem GS{d:Addr}(m:d∉8e4):Zcs X s H d=H d:=Qau m
theorem qE(I:2e1):∀d∈8e4,H d=none:=fun d m=>let ⟨y,hy⟩:=ZS.mp m;I.freeC y d hy
theorem gJ(I:2e1):∀b o,10e9->Zcs X s H b=some o:=fun b o e=>by
 rw [GS fun m=>by rw [qE I b m] at e;cases e];exact e
theorem kT{k:Nat}{g:Addr}{gd:FuncData}{sp:Sp}{Q:VK}{vs:List V}(F:ZH X.prog X.w X.K X.mg X.base CX0 k g gd N sp)(hr:Gi k X.A)(hb:Binds X.K gd N [])(hfn:X.fn=fun _=>true)
  (I:2e1) (rv:Vals vs J) (hsp:sp vs (Zcs X s H) (fun v H3=>Q v (hide (8e4) H3)) E0):wpAny 3e0 X.A (call (.ref g) J) 17e5 X.xe s:=by
 have Z:=kR I;have hn:=qE I;have D:=gJ I;have nloc:∀d∈8e4,d≠X.env.locals:=fun d m e=>by
  obtain ⟨o,v,_,hd,g⟩:=Z d m;obtain ⟨m',⟨o',es,ep,g',hd',_⟩,_⟩:=I.loc;rw [e,g'] at g;cases g;rw [hd'] at hd;cases hd
 have G:∀d∈8e4,X.s₀.heap.objs.size<=d:=fun d m=>by
  obtain ⟨y,hy⟩:=ZS.mp m;exact I.ok.cab y d (by rw [hfn]) hy
 have nfr:∀d∈8e4,d∉frs X.stack:=fun d m z=>by
  rcases Qan.mp (I.stkSub d z) with e | e
  ·exact nloc d m e
  ·obtain ⟨_,o,g,_⟩:=I.ok.funs.mem e
   exact absurd (Qas g) (Qfp.mpr (G d m))
 have hok3:HOk X.prog X.w (Zcs X s H) s.heap:=fun b o e=>by
  by_cases m:b∈8e4
  ·obtain ⟨ob,v,e',hd,g⟩:=Z b m
   rw [e'] at e;cases e;exact Gr g
  ·rw [GS m] at e
   exact (I.hok b o e).stay (fun _ _ _ q=>q) (fun d q=>D _ _ q) fun d xs q=>D _ _ q
 have e0:Zji X.prog X.w X.K X.mg X.base X.A X.stack s (Zcs X s H):=by
  have z:=I.env0;refine ⟨z.frames,z.mod,fun b o e=>⟨(z.bs b o e).1,?_⟩,z.bsz,z.funs,10e8,hok3,z.bare⟩
  ·rw [GS fun m=>absurd (Qas e) (Qfp.mpr (Qbd I.ok.bsz (G b m)))]
   exact (z.bs b o e).2
  ·rw [GS fun m=>nfr b m hb]
   exact z.frf b hb
 have hlu:(J++[]).length=N.length:=by rw [Qbv,<-rv.length];exact F.len _ _ _ _ hsp
 refine Qh5 (Qes (F.run X.A X.stack s (Zcs X s H) ⟨J,[]⟩ J vs _ _ hr e0 (by simpa using hb s J I.kIn hlu) rv hsp) fun r s' hq=>?_);cases r with
 | error e=>exact hq.elim
 | ok fl =>
  cases fl with
  | next=>exact False.elim hq
  | brk=>exact False.elim hq
  | cont=>exact False.elim hq
  | ret uu =>
   obtain ⟨v,H4,os,bare,un,Y,rv4,q4⟩:=hq;have O:∀d∈cellsOf X.env.cells,∃o,H4 d=some (X9 o)/\s.heap.get? d=some o/\s'.heap.get? d=some o:=fun d m=>by
    obtain ⟨o,v,e,hd,g⟩:=Z d m;have e4:=un.frzs d o _ e;exact ⟨o,e4,g,(Y d _ e4).1⟩
   have C:∀d,H d=none->d∉cellsOf X.env.cells->Zcs X s H d=none:=fun d n m=>by rw [GS m];exact n
   have nm:∀d o,H d=some o->d∉cellsOf X.env.cells:=fun d o e m=>by rw [hn d m] at e;cases e
   refine ⟨v,hide (cellsOf X.env.cells) H4,I.call' os ⟨fun d o e n hb hx=>?_,fun d o e n hb hx=>?_,fun d o e n hx=>?_,fun d o e hx=>un.there d o e hx,fun d xs e=>?_,fun d o u e=>?_,fun d pz e=>?_⟩ (yc Y fun d m=>let ⟨o,e,_⟩:=O d m;⟨o,e⟩) bare (fun _ z=>nomatch z),rv4,q4⟩
   ·by_cases m:d∈cellsOf X.env.cells
    ·obtain ⟨o',_,g,g'⟩:=O d m
     rw [e] at g;cases g;exact g'
    ·exact un.keep d o e (C d n m) hb hx
   ·by_cases m:d∈cellsOf X.env.cells
    ·obtain ⟨o',_,g,g'⟩:=O d m
     rw [e] at g;cases g;exact ⟨o.slots,g'⟩
    ·exact un.slot d o e (C d n m) hb hx
   ·by_cases m:d∈cellsOf X.env.cells
    ·exact Yu m
    ·rw [Z1 m];exact un.free d o e (C d n m) hx
   ·rw [Z1 (nm d _ e)];exact un.tups d xs (D _ _ e)
   ·rw [Z1 (nm d _ e)];exact un.frzs d o u (D _ _ e)
   ·rw [Z1 (nm d _ e)];exact un.tbls d pz (D _ _ e)
theorem Zct{scope:Scope}{ys:1e3}{is:1e1}{N0:1e3}(I:2e1)(D:27e6)(O:∀y∈ys,15e9=10e0)(hN:∀q∈ys.zip is,X.N[q.2]?=some q.1)(Z:ys.length=is.length) :
  ∀(i:Nat) (y:Str) (v:V),15e2->(29e5)[i]?=some (some v)->∃c o u,(15e6).lookup y=some c/\Zcs X s H c=12e6/\o.data=.cell (some u)/\RelV v u:=by
 intro i y v h1 h2;have Y:35e2 :=
  GF (fun y hy h=>I.ok.has y.1 (.inl (D y hy h))) fun _ _ z=>by cases z
 rw [Qaj] at h2;cases hj:is[i]? with
 | none=>rw [hj] at h2;cases h2
 | some j =>
  rw [hj] at h2;have C:(σ[j]?).getD none=some v:=Option.some.inj h2;have J:σ[j]?=some (some v):=by
   cases q:σ[j]? with
   | none=>rw [q] at C;cases C
   | some z=>rw [q] at C;exact congrArg some C
  have hz:(y,j)∈ys.zip is:=by
   obtain ⟨a1,e1⟩:=Qaf.mp h1;obtain ⟨a2,e2⟩:=Qaf.mp hj;rw [<-e1,<-e2,<-Qge (h:=by rw [Qcp];lia)];exact Qdo _
  have hf:=O y (Qam h1);have kc:X.env.kindOf y=some .cell:=D _ (jN hf) rfl;obtain ⟨m,hm',hl⟩:=I.loc;obtain ⟨u,r,l⟩:=hl j y v (hN _ hz) J (.inr (.inl kc));rcases l with ⟨l1,_⟩ | ⟨_,d,l2,l3⟩
  ·rw [kc] at l1;cases l1
  ·obtain ⟨d',G⟩:=W4 (cells:=X.env.cells) (acc:=[]) hf
   have e:d'=d:=by have:=Y y d' G;rw [l2] at this;exact (Option.some.inj this).symm
   subst e;obtain ⟨o,ho,hd⟩:=l3;obtain ⟨o',v',e',_,g'⟩:=kR I d' (ZS.mpr ⟨y,l2⟩);rw [ho] at g';cases g';exact ⟨d',o,u,G,e',hd,r⟩
end
def tCallN(J:Program)(w:World)(K:PySem.W.Frag)(mg:2e9)(base:Heap)(k:Nat)(sp:Sp)(qual:Str)(D:Addr->Value->Value->Obj)(ta:TA)(i n m:Nat)(is:1e1)(ts:TS):TE:=fun σ H Q=>ta σ H fun vs H1 =>
 ∃(f G:Addr) (oc:Obj) (C q:Value),σ[i]?=some (16e7)/\H1 f=some (X9 (D G C q))/\H1 G=some (X9 oc)/\jt oc qual /\
 ∀(cs:5e0) (H2:Hp),(∀c∈cs,H1 c=none)->(∀c∈cs,∃o,H2 c=12e6)->(∀b o,H1 b=some o->H2 b=some o) ->
  YK J w K mg base k f H2 (Zib n m ts cs (29e5))->sp vs H2 (fun v I=>Q v (hide cs I)) E0
structure Zmm(S0 scope:Scope)(N0 ps ls ys:1e3)(is:1e1):Prop where
 sc:Zkh scope ps ls ys
 free:35e4
 vis:∀q∈ys.zip is,N0[q.2]?=some q.1
 len:ys.length=is.length
section
variable {X:Cx}{params:Arguments}{body:List Stmt}{scope:Scope}{p pos:Pos}{g:Addr}{name qual x:Str}{k kl:Nat}{gd:FuncData}{pg ps ls ys:1e3}{is:1e1}{sp:Sp}{ts:TS}{e:Expr}{es:5e4}{ta:TA}
theorem Zf4(F:ZH X.prog X.w X.K X.mg X.base CX0 k g gd pg sp)(hr:Gi k X.A)(hg:Gl X x)(hm:X.mg x=some (.ref g))(hk:PySem.W.keepIn X.K (.ref g)=true)(hb:Binds X.K gd pg [])(hfn:X.fn=fun _=>true)
  (ha:QA X (e::es) ta) {S0:Scope} {N0:1e3} (hX:X.env.scope=S0) (hXN:X.N=N0) (LL:Zmm S0 scope N0 ps ls ys is)
  (J:∀(cl:7e7) (doc pm cv ctv:Value) (Z:2e0),Z.length=ps.length->bindArgs (PySem.W.fnX name qual params body scope cl .none .none doc pm none cv ctv) ⟨Z,[]⟩=pure (ps.zip Z))
  (Y:∀(f c':Addr) (cl:7e7) (A:Around) (outer:8e6) (s:Shared) (H1:Hp),Gi kl (A.deeper (PySem.W.envX qual scope s.heap.objs.size f (.ref c') 18e4))->QSs (cxN X.prog X.w X.K X.mg X.base (ps++(ls++ys)) qual scope f (.ref c') cl A outer s H1) body ts)
  (hdb:9e5:=by decide) (hp:(e::es).all ZZ=true:=by rfl) :
  QE X 23e0 (tCallN X.prog X.w X.K X.mg X.base (kl + 1) sp qual (jx X name qual params body scope) ta i ps.length ls.length is ts):=by
 rw [Qdl,Qbt] at hp;have S:=LL.sc;have C:27e6:=fun y hy h=>by rw [hX];exact LL.free y hy h
 have hN:∀q∈ys.zip is,X.N[q.2]?=some q.1:=fun q hq=>by rw [hXN];exact LL.vis q hq
 refine ⟨?_⟩;intro pins s σ H Q I hw;refine Qc8 (jG I hg hm ?_ hdb);refine Qg6 (h₀:=X.base) I.ok.mod.kin hk (thn (ha.out pos pins s σ H _ I hw) fun Z s1 ⟨vs,H1,G,r,f,c',oc,ctv,doc,hσ,hf,hc',hoc,q⟩=>⟨G.kIn,?_⟩) (Zr hp.1) (X5 hp.2);have O:35e2 :=
  GF (fun y hy h=>G.ok.has y.1 (.inl (C y hy h))) fun _ _ z=>by cases z
 have D:=gJ G;have hcs:=kR G;refine kT F hr hb hfn G r (q (8e4) (Zcs X s1 H1) (qE G) (fun d m=>let ⟨o,_,e,_⟩:=hcs d m;⟨o,e⟩) D ?_);exact yf (ls:=ls) (ys:=ys) S (D _ _ hf) (D _ _ hc') hoc (fun y d h=>ZS.mpr ⟨y,O y d h⟩) (fun d m=>let ⟨o,v,e,hd,_⟩:=hcs d m;⟨o,v,e,hd⟩) (fun y z d h1 h2=>G.ok.inj y z d (O y d h1) (O z d h2)) (fun y h=>W4 h) (by rw [Qac,LL.len])
  (Zct (N0:=N0) G C S.free hN LL.len) (fun Z hl=>J _ _ _ _ _ Z hl) fun A outer s H1 hr=>(Y f c' _ A outer s H1 hr).out
end
section
variable {X:Cx}
theorem QE.or{t u:TE}(h:QE X e t)(g:QE X e u):QE X e (fun σ H Q=>t σ H Q\/u σ H Q):=⟨fun pins s σ H Q I z=>z.elim (h.out pins s σ H Q I) (g.out pins s σ H Q I)⟩
theorem QS.or{e:Stmt}{t u:TS}(h:QS X e t)(g:QS X e u):QS X e (fun D σ H=>t D σ H\/u D σ H):=⟨fun pins s σ H D I z=>z.elim (h.out pins s σ H D I) (g.out pins s σ H D I)⟩
def Zki(tk tv:TE):TE:=fun σ H Q=>∀d,H d=none->tk σ (upd H d (.dK [])) fun x H1=>tv σ H1 fun v H2=>∃(Kk:Type) (_:DecidableEq Kk) (kn:KN Kk) (a:Addr) (k:Kk),x=.ref a/\H2 d=some (.dK [])/\kn.at_ H2 k a /\
 ∀H',kh kn H' d [(k,v)]->(∀b o,H2 b=some o->b≠d->12e4)->(∃o,H'=upd H2 d o)->Q (.ref d) H'
theorem Zcu{k v:Expr}{tk:TE}(hu:X.A.units + 2 < cLine)(hk:QE X k tk)(hv:QE X v d):QE X (.Dict [some k] [v] p) (Zki tk d):=by
 refine ⟨fun pins s σ H Q I q=>?_⟩;have hn:=I.hok.fresh (Qai s.heap.objs.size);have I1:=36e9;refine wpAny_Dict_any rfl rfl (4e3) (by show 1<=15;decide) (thn (pp1 hk hv pins _ σ _ _ I1 (q _ hn)) fun ws s2 ⟨x,y,u,r,H2,G,C,rx,Y,Kk,_,kn,a,kk,ex,e,D,J⟩=>?_);subst G ex;cases (show u=Value.ref a from rx);have n:kh kn H2 s.heap.objs.size []:=⟨Qdj,(show 0 < sizeLine by decide),.inl ⟨rfl,e⟩⟩;obtain ⟨xs,dd,pr,mu,hm⟩:=n.dict C;cases pr;unfold storeAll;rw [Qe4];refine Qaa (Qaa (wpAny_dictSet_heap (hsz:=Qbe _) (kn.room0 _ _ _ hu) (kn.ok _ _ _ _ _ _ C.hok D) dd fun h' dd' hs=>Qad ?_));show wpAny _ _ (forIn ([]:List (Value × Value)) PUnit.unit _) _ _ _;rw [Qf9];rw [storedH_new rfl] at dd';obtain ⟨H',n',O,o',Z⟩:=gE C n D Y (show 0 + 1 < sizeLine by decide) .nil mu hm rfl dd' hs;exact Qad ⟨4e9,H',Z,rfl,J H' n' O o'⟩
theorem PI.or{tg l:Expr}{t u:TI}(h:PI X tg l t)(g:PI X tg l u):PI X tg l (fun σ H R=>t σ H R\/u σ H R):=fun pins s σ H R I z=>z.elim (h pins s σ H R I) (g pins s σ H R I)
theorem QI.or{tg l:Expr}{t u:TI}(h:QI X tg l t)(g:QI X tg l u):QI X tg l (fun σ H R=>t σ H R\/u σ H R):=⟨PI.or h.out g.out⟩
end
section
variable {prog:Program}{w:World}{A:Around}{R:Result->3e3}{I:Addr}{fp wr:5e0}{n:Nat}{P:Nat->Value->Prop}{St:Nat->Heap->Prop}{d:Value}
theorem Zkj(W:Walks prog w A.in1 I fp wr n P St)(bt:8e8)(hcmp:CmpOf prog w A.in1 .Gt P bt)(S:Addr)(hSf:S∉fp) :
  ∀(k j:Nat) (s:Shared) (Z:Value) (c:Nat),n - (j + 1)=k->j + 1<=n->St (j + 1) s.heap->P (argBest bt j) Z ->
  s.heap.get? S=some { cls:=5e2,dict:=none,data:=.seq #[Z,Z] c,slots:=#[] } ->
  (∀v h' tk,P (argBest bt (n - 1)) v->(∀b o,b∉wr->b≠S->11e6)->R (.ok (.ret v)) 7e3) ->
  codeAny 2e3 A (.builtin "max.loop" ⟨[.ref I,.none,.ref S],[("default",d)]⟩) R s:=by
 have hSw:S∉wr:=fun h=>hSf (W.sub _ h);have O:34e8 := 4e0
 intro k
 induction k with
 | zero =>
  intro j s Z c hk hj hst hPb hS hR;have hin:j + 1=n:=by lia
  refine Qcs Qf4 ?_;rw [Qb4 Qda _];show wpAny _ A.in1 (seqItems? (.ref S) >>= _) _ _ s;refine Qaa (Qb1 hS rfl ?_);show wpAny _ A.in1 (tryCatch (pyNext (.ref I)) _ >>= _) _ _ s;refine Qaa (Qga (W.done s _ _ (hin ▸ hst) fun h' tk D=>?_));have J:=D S _ hSw hS;show wpAny _ A.in1 (updateSeq S (fun _=>#[]) >>= _) _ _ _;refine Qaa ?_;refine Qd0 J rfl (Qaa (Qe5 (Qad ?_)));refine hR Z _ tk (by rw [<-hin];exact hPb) fun b o q C e=>(Qbw _ _ (Qel C)).trans (D b o q e)
 | succ k ih =>
  intro j s Z c hk hj hst hPb hS hR;have hlt:j + 1 < n:=by lia
  refine Qcs Qf4 ?_;rw [Qb4 Qda _];show wpAny _ A.in1 (seqItems? (.ref S) >>= _) _ _ s;refine Qaa (Qb1 hS rfl ?_);show wpAny _ A.in1 (tryCatch (pyNext (.ref I)) _ >>= _) _ _ s;refine Qaa (Qga (W.item (j + 1) s _ _ hlt hst fun v h' tk hP hst' D=>?_));have J:=D S _ hSw hS;show wpAny _ A.in1 (tryCatch (holding [v,v] (richCompare .Gt v Z >>= _)) _ >>= _) _ _ _;refine Qaa (Qga (Qc2 (Qaa (hcmp (j + 1) (argBest bt j) v Z _ _ _ hP hPb ?_))));refine Qaa (Qc2 (Qds ?_));refine Qaa (Qe5 (Qad ?_));cases hb:bt (j + 1) (argBest bt j) with
  | true =>
   simp only [Qgw];refine Qaa ?_;refine Qd0 J rfl (Qaa (Qe5 ?_));rw [O];refine Qad ⟨Qdw Qda _,ih (j + 1) _ v _ (by lia) hlt (W.frame _ _ _ hst' fun b hbf o e=>?_) (by simp only [argBest,hb,Qgw];exact hP) (Qbk _ J rfl)
    fun v' h'' Y hP' G=>?_⟩
   ·exact (Qbw _ _ (fun h:S=b=>hSf (by rw [h];exact hbf))).trans e
   ·exact hR v' h'' Y hP' fun b o q C e=>G b o q C ((Qbw _ _ (Qel C)).trans (D b o q e))
  | false =>
   simp only [Qbb,Qe2];refine Qaa (Qe5 ?_);rw [O];refine Qad ⟨Qdw Qda _,ih (j + 1) _ Z c (by lia) hlt hst' (by simp only [argBest,hb,Qbb,Qe2];exact hPb) J fun v' h'' Y hP' G=>?_⟩;exact hR v' h'' Y hP' fun b o q C e=>G b o q C (D b o q e)
theorem Zf5(W:Walks prog w A.in1 I fp wr n P St)(bt:8e8)(J:CmpOf prog w A.in1 .Gt P bt)(S:Addr)(D:S∉fp){c:Nat}(hst:St 0 s.heap)
  (hS:s.heap.get? S=some { cls:=5e2,dict:=none,data:=.seq #[] c,slots:=#[] })
  (h0:n=0->∀h' tk,(∀b o,b∉wr->b≠S->11e6)->R (.ok (.ret d)) 7e3)
  (hR:0 < n->∀v h' tk,P (argBest bt (n - 1)) v->(∀b o,b∉wr->b≠S->11e6)->R (.ok (.ret v)) 7e3) :
  codeAny 2e3 A (.builtin "max.loop" ⟨[.ref I,.none,.ref S],[("default",d)]⟩) R s:=by
 have hSw:S∉wr:=fun h=>D (W.sub _ h);have G:34e8 := 4e0
 refine Qcs Qf4 ?_;rw [Qb4 Qda _];show wpAny _ A.in1 (seqItems? (.ref S) >>= _) _ _ s;refine Qaa (Qb1 hS rfl ?_);show wpAny _ A.in1 (tryCatch (pyNext (.ref I)) _ >>= _) _ _ s
 by_cases hn:0 < n
 ·refine Qaa (Qga (W.item 0 s _ _ hn hst fun v h' tk hP Z C=>?_))
  have hS':=C S _ hSw hS;show wpAny _ A.in1 (updateSeq S (fun _=>#[v,v]) >>= _) _ _ _;refine Qaa ?_;refine Qd0 hS' rfl ?_;rw [G];refine Qad ⟨Qdw Qda _,Zkj W bt J S D _ 0 _ v _ rfl hn (W.frame _ _ _ Z fun b hbf o e=>?_) hP (Qbk _ hS' rfl) fun v' h'' tk'' hP' O=>?_⟩
  ·exact (Qbw _ _ (fun h:S=b=>D (by rw [h];exact hbf))).trans e
  ·exact hR hn v' h'' tk'' hP' fun b o q hbS e=>O b o q hbS ((Qbw _ _ (Qel hbS)).trans (C b o q e))
 ·have Y:n=0:=by lia
  refine Qaa (Qga (W.done s _ _ (by rw [Y];exact hst) fun h' tk C=>?_));refine Qaa (Qde 7e2);exact h0 Y h' tk fun b o q _ e=>C b o q e
end
theorem Zf6 (a v:Value):argsOk "max" ⟨[a],[(Str.ofString "default",v)]⟩:=by unfold argsOk;kernel_rfl
section
variable {prog:Program}{w:World}{A:Around}{E:1e9}{s:Shared}{l:Addr}{xs:Array (Int × Tok)}{d:Value}
theorem Zcv(hh:9e3)(hl:s.heap.IsList l (intItems xs))(I:xs.size=0->∀h' tk,(∀b o,11e6)->Q d 7e3)
  (h:0 < xs.size->∀v h' tk,(intItems xs)[argBest (fun i j=>decide (numAt xs i > numAt xs j)) (xs.size - 1)]?=some v->(∀b o,11e6)->Q v 7e3) :
  wpAny 2e3 A (call (.builtin "max") [.ref l] [(Str.ofString "default",d)]) Q E s:=by
 have q:34e8 := 4e0
 refine PyProof.Rows.kmk_tree PySem.F.kind_max PySem.F.plain_max PySem.F.entry_max (Zf6 _ _) ?_;show wpAny _ A.in1 (Builtin.Builtins.bindParams "max" ["key","default"] 0 ⟨[],[(Str.ofString "default",d)]⟩ >>= _) _ _ s;refine Qaa (Qcy (show Builtin.Builtins.bindParams "max" ["key","default"] 0 ⟨[],[(Str.ofString "default",d)]⟩=pure [none,some d] from rfl) ?_);refine Qaa 7e2;refine Qaa (iter_intList hl fun s₂ e st C D=>?_);subst e;refine Qaa (Qbg ?_);rw [q];have W:=Walks.list (prog:=prog) (w:=w) (A:=A.in1) hh _ l D (intItems xs);have hsz:(intItems xs).size=xs.size:=by simp [intItems]
 refine Qad ⟨Qdw Qda _,Zf5 W _ (CmpOf.ints_gt (numAt xs) (fun _ _=>intItems_at)) _ (fun hm=>Qbz _ (C _ hm)) (W.frame _ _ _ st fun b _ o e=>Qab _ e) (5e5) (fun hn h' tk hk=>?_) fun hn v h' tk G hk=>?_⟩
 ·exact I (by rw [<-hsz];exact hn) h' tk (old_kept fun b o hb e=>hk b o hb (Qbf (Qas e)) (Qab _ e))
 ·exact h (by rw [<-hsz];exact hn) v h' tk (by simpa [intItems] using G) (old_kept fun b o hb e=>hk b o hb (Qbf (Qas e)) (Qab _ e))
end
section
variable {X:Cx}
def tMaxD(K:PySem.W.Frag)(ta td:TE):TE:=fun σ H Q=>ta σ H fun x H1=>td σ H1 fun y H2=>∃(p:Addr) (q:1e5),x=.ref p/\SqL K H2 p (q.map V.int)/\(q=[]->Q y H2)/\∀m∈q,(∀n∈q,n<=m)->Q (.int m) H2
theorem Zkk {a:Expr}  {kp:Pos} (hc:9e9) (hg:Gl X "max") (hm:X.mg "max" = none) (ha:QE X a d) (hd:QE X e O) (hp:ZZ a=true:=by rfl) :
  QE X (.Call (.Name "max" p) [a] [⟨some "default",e,kp⟩] A) (tMaxD X.K d O):=by
 refine ⟨fun pins s σ H Q I hw=>?_⟩;refine Qc8 (JN I hg hm bt_max ?_ 1e4);have hs:=Zr (rest:=[]) (env:=X.env) hp;refine callWith_kw ?_ (by rw [hs];rfl) (by rw [hs];rfl);rw [hs];show wpAny _ _ (spliced ((false,eval a X.env)::backTo A (starEach [] X.env))) _ _ s;refine Qcv (thn (ha.out pins s σ H _ I hw) fun u s1 ⟨x,H1,I1,r1,q1⟩=>?_);refine Qd7 (kws_cons (thn (hd.out pins s1 σ H1 _ I1 q1) fun u2 s2 ⟨y,H2,G,r2,p,Y,ex,hq,hz,q⟩=>kws_nil ?_));subst ex;cases r1;obtain ⟨D,r',pl,hz'⟩:=G.list hq;have hi:IntsAre D Y:=intsAre_of r';obtain ⟨xs,hx⟩:=hi.allInts.items;have Z:s2.heap.IsList p (intItems xs):=hx ▸ pl.isList;have e1:Y=xs.toList.map (·.1):=by
  rw [<-nums_intItems,<-hx];exact (show numsOf D.toArray.toList=Y from hi.numsOf).symm
 refine Zcv (G.ok.hd hc) Z (fun h0 h' tk hk=>⟨y,H2,G.kept hk,r2,hz ?_⟩) fun hsz v h' tk hv hk=>?_
 ·rw [e1,show xs.toList=[] from Qbu (by rw [Qbl];exact h0)]
  rfl
 have hb:=argBest_gt (numAt xs) (xs.size - 1);generalize argBest (fun i j=>decide (numAt xs i > numAt xs j)) (xs.size - 1)=b at hv hb;have J:b < xs.size:=by lia
 have at_:∀j (C:j < xs.size),numAt xs j=xs[j].1/\(intItems xs)[j]?=some (.int xs[j].1 xs[j].2):=by
  intro j C;exact ⟨by simp [numAt,C],by simp [intItems,C]⟩
 obtain ⟨n1,n2⟩:=at_ b J;rw [n2] at hv;cases hv;refine ⟨.int xs[b].1,H2,G.kept hk,8e1,q _ ?_ fun n hn=>?_⟩
 ·rw [e1]
  exact Qay.mpr ⟨xs[b],by simp,rfl⟩
 ·rw [e1] at hn
  obtain ⟨y,hy,rfl⟩:=Qay.mp hn;obtain ⟨j,C⟩:=Qc6 hy;have hj2:j < xs.size:=by
   have:=(Qaf.mp C).1
   rwa [Qbl] at this
  have:=hb.2 j 1e2;rw [(at_ j hj2).1,n1] at this;have ej:xs[j]=y:=by
   have:=(Qaf.mp C).2;simpa using this
  rw [ej] at this;exact this
def Zmn:V->7e4:=fun x xs H Q=>∃i:Int,x=.int i/\xs=[]/\Q (.int ((Builtin.Int.intBits i:Nat):Int)) H
theorem Zkl:MtR X "int.bit_length" Zmn:=by
 intro pins s σ H x xs v D Q I C r h;obtain ⟨i,rfl,rfl,q⟩:=h;obtain ⟨t,rfl⟩:=C;cases r;exact call_int_bit_length ⟨.int _,H,I.tok _,8e1,q⟩
end
section
variable {X:Cx}{pos:Pos}
theorem qs_par{j:Nat}{y:Str}{a b:Expr}{ta:TA}{pt:Pos}{C k2 q:_}(hc:9e9)(hN:X.N.Nodup)(hi:14e9)(G:X.N[j]?=some y)(D:i≠j)
  (hx:20e9) (I:X.env.scope.names.lookup y=11e5) (ha:QA X [a,b] ta)
  (hw:swappedStores [.Tuple [.Name x p,.Name y A] C pt] (.Tuple [a,b] k2 q) X.env=pure (some [x,y]))
  (hs:swapsWithSole [.Tuple [.Name x p,.Name y A] C pt] (.Tuple [a,b] k2 q) pos.line X.env=pure false:=by rfl) :
  QS X (.Assign [.Tuple [.Name x p,.Name y A] C pt] (.Tuple [a,b] k2 q) pos) (tPar i j ta):=⟨ps_par hc hN hi G D hx I ha.out hw hs⟩
end
section
variable {prog:Program}{w:World}{A:Around}{E:1e9}{s:Shared}
theorem yg{Q:2e0->3e3}{r:Addr}{a b c:Int}{t u v:Tok}(hh:9e3)(hr:IsRange s.heap r a b c t u v)(C:Builtin.Range.small a b c=true)
  (hn:Builtin.Range.rangeSize a b c=n) (G:n<=2 ^ 24)
  (Z:∀h' tk acc,(∀b o',5e7=some o'->h'.get? b=some o')->28e2->Q acc.toList 7e3) :
  wpAny 2e3 A (collect (.ref r)) Q E s:=by
 unfold collect;refine Qaa (wpAny_runValue (Qcs F.entry_proto_collect ?_));rw [Qb4 F.plain_proto_collect _];show wpAny _ A.in1 (newList [] >>= fun l=>again (.builtin "list.__iadd__" ⟨[l,.ref r],[]⟩)) _ _ s;refine Qaa (Qbg ?_);refine Qad ⟨Qdw Qf7 _,Qcs F.entry_list_iadd ?_⟩;rw [Qb4 Qf7 _];show wpAny _ A.in1 (Builtin.List.listExtendWith (4e9) (.ref r) (4e9)) _ _ _;have hS:(s.heap.push 32e2).get? s.heap.objs.size=some { cls:=5e2,data:=.seq #[] 0 }:=5e5;have fin:∀(h':Heap) (tk:Nat) (acc:4e5) (q:Nat),(∀b o,11e6)->h'.get? s.heap.objs.size=some { cls:=5e2,dict:=none,data:=.seq acc q,slots:=#[] }->28e2 ->
   wpAny 2e3 A (match Value.ref s.heap.objs.size with
   | Value.ref a=>do
    match (<-load a).data with
     | Data.seq xs _=>pure xs.toList
     | _=>unsupported "internal:collect"
   | _=>unsupported "internal:collect") Q E 7e3:=by
  intro h' tk acc q hk D it;show wpAny _ A (load s.heap.objs.size >>= _) _ _ _;refine Qaa (wpAny_load D ?_);exact Qad (Z h' tk acc hk it)
 refine Qdm (wpAny_extend_range (A:=A) (R:=fun r s'=>r=.ok (.ret (4e9))/\∃h' tk acc q,s'=7e3/\(∀b o,11e6)/\h'.get? s.heap.objs.size=some { cls:=5e2,dict:=none,data:=.seq acc q,slots:=#[] }/\28e2)
  (s:={ s with heap:=s.heap.push 32e2 }) hh (Qab _ hr) C hn G _ _ 0 hS fun h' tk acc q hk D it=>⟨rfl,h',tk,acc,q,rfl,fun b o e=>hk b o (Qbf (Qas e)) (Qab _ e),D,it⟩) (fun fi s' h=>?_) (fun e s' h=>?_)
 ·cases fi with
  | done f =>
   obtain ⟨e,h',tk,acc,q,rfl,I,J,O⟩:=h;cases e;exact fin h' tk acc q I J O
  | again q=>exact ⟨h.1,Qes h.2 fun r Y hr=>by obtain ⟨rfl,h',tk,acc,q,rfl,I,J,O⟩:=hr;exact fin h' tk acc q I J O⟩
 ·exact absurd h.1 2e5
end
open AutoSeq1 (wpAny_loadPart')
theorem qF(r:Addr)(a b c:Int)(t u v:Tok)(n:Nat)(q:Builtin.Range.small a b c=true)(hn:Builtin.Range.rangeSize a b c=n)(C:n<=2 ^ 24) :
  Meets (Builtin.«tuple.__new__» ⟨[4e8,.ref r],[]⟩)
   (fun A R s=>9e3/\IsRange s.heap r a b c t u v/\∀(h':Heap) tk acc,(∀b o',5e7=some o'->h'.get? b=some o')->28e2->R (.ok (.ret (22e6))) { s with heap:=h'.push { cls:=4e8,data:=.seq acc },toks:=tk }) :=
 .of_wp fun prog w A R s h=>by
  obtain ⟨hp,g,d,tk,os⟩:=s;obtain ⟨hh,G,h⟩:=h;have O:=sub_tuple_self;have J:=init_tuple_lookup;have Z:=madeHere_tuple;have I:A.in1.handled=none:=hh;have Y:Shared.TypeIs ⟨hp,g,d,tk,os⟩ (.ref r) "range" := ⟨_,G,rfl⟩;have D:hp.get? r=some { cls:=.type "range",data:=.fields #[.int a t,.int b u,.int c v] }:=G
  wp_walk using wpAny_loadPart' D,Qe3 Y,yg I G q hn C
  intro h' tk acc hk it;show wpAny _ _ (Builtin.Tuple.tupleExact acc.toList.toArray >>= fun v=>ret v) _ _ _;unfold Builtin.Tuple.tupleExact;refine Qaa (Qbg ?_ (by show acc.toList.toArray.size<=sizeLine;simp only [Array.toArray_toList];rw [it.1,Qgv];lia));refine Qad ⟨_,rfl,?_⟩;have e:acc.toList.toArray=acc:=by simp
  rw [e];exact h h' tk acc hk it
section
variable {prog:Program}{w:World}{A:Around}{E:1e9}{s:Shared}
theorem xu{r:Addr}{a b c:Int}{t u v:Tok}(hh:9e3)(hr:IsRange s.heap r a b c t u v)(q:Builtin.Range.small a b c=true)
  (hn:Builtin.Range.rangeSize a b c=n) (C:n<=2 ^ 24)
  (h:∀(h':Heap) tk acc,(∀b o',5e7=some o'->h'.get? b=some o')->28e2->Q (22e6) { s with heap:=h'.push { cls:=4e8,data:=.seq acc },toks:=tk }) :
  wpAny 2e3 A (call (4e8) [.ref r]) Q E s :=
 Qhz F.called_tuple 1e4 (F.typeCall_tuple_1 _) (F.newCall_tuple_1 _) (fun D=>Qgg D _) F.entry_tuple_new
  (qF r a b c t u v n q hn C) ⟨hh,hr,fun h' tk acc hk it=>⟨⟨_,5e5,rfl⟩,h h' tk acc hk it⟩⟩
end
theorem kU(hn:n<=1000000):Builtin.Range.rangeSize 0 (n:Int) 1=(n:Int)/\Builtin.Range.small 0 (n:Int) 1=true:=by
 have hsz:Builtin.Range.rangeSize 0 (n:Int) 1=(n:Int):=by
  rw [rangeSize_one]
  split <;> lia
 exact ⟨hsz,small_one 1e4 1e4 1e2 1e2⟩
theorem Zcw:∀(m:Nat) (q:2e0) (k:Nat),q.length=m->(∀j v,q[j]?=some v->∃t,v=Value.int ((k + j:Nat):Int) t)->Vals ((List.range' k m).map 11e1) q:=by
 intro m
 induction m with
 | zero =>
  intro q k hl _;rw [Qbu hl];exact .nil
 | succ m C =>
  intro q k hl hh;cases q with
  | nil=>cases hl
  | cons u q =>
   rw [List.range'_succ,Qa4];refine .cons ?_ (C q (k + 1) (by simpa using hl) fun j v D=>?_)
   ·obtain ⟨t,e⟩:=hh 0 u rfl
    exact ⟨t,e⟩
   ·obtain ⟨t,e⟩:=hh (j + 1) v (by simpa using D)
    exact ⟨t,by rw [e,show k + (j + 1)=k + 1 + j by lia]⟩
section
variable {X:Cx}
theorem bt_any:bootBuiltins "any" = some (.builtin "any"):=1e0
def rTupRg:7e4:=fun xs H Q=>∃(p:Addr) (n:Nat),xs=[.ref p]/\H p=some (.rng 0 (n:Int))/\n<=1000000/\∀l,H l=none->Q 5e1 (upd H l (.tup ((List.range n).map 11e1)))
theorem vy (hc:9e9):Xy X (4e8) rTupRg:=by
 intro pins s σ H xs Y Q I r h;obtain ⟨p,n,rfl,e,hn,q⟩:=h;obtain ⟨u,rfl,O⟩:=vals1 r;cases O;obtain ⟨t,u,v,hp⟩:=(show Yo X.prog X.w H s.heap p (.rng 0 (n:Int)) from I.hok p _ e);obtain ⟨hsz,D⟩:=kU hn;refine xu 8e5 hp D hsz 1e2 fun h' tk acc hk it=>?_;have G:24e2:=I.kept hk;have C:acc.toList.length=n:=by rw [Qbl];exact it.1
 refine ⟨22e6,_,G.laid (t':=tk) (16e1) (Qai _) (show Yo X.prog X.w _ _ _ (.tup _) from ⟨by rw [Qac,Qax,Qgv];lia,acc.toList,?_,by simpa using Qfs h' acc⟩),rfl,q _ (G.hok.fresh (Qai _))⟩;rw [List.range_eq_range'];refine Zcw n acc.toList 0 C fun j v J=>?_;obtain ⟨t,e⟩:=it.2 j v (by rw [<-Qej];exact J);exact ⟨t,by rw [e,show (0:Int) + (j:Int) * 1=((0 + j:Nat):Int) by lia]⟩
def rAnyL(K:PySem.W.Frag):7e4:=fun xs H Q=>∃(p:Addr) (bs:List Bool),xs=[.ref p]/\SqL K H p (bs.map V.bl)/\Q (.bl (bs.any id)) H
theorem Zcx (hc:9e9):Xy X (.builtin "any") (rAnyL X.K):=by
 intro pins s σ H xs us Q I r h;obtain ⟨p,bs,rfl,hq,q⟩:=h;obtain ⟨u,rfl,rx⟩:=vals1 r;cases rx;obtain ⟨D,Y,pl,hz⟩:=I.list hq;have hl:=pl.isList;have O:p < s.heap.objs.size:=by obtain ⟨_,e,_⟩:=hl;exact Qas e
 have C:=Y.length;rw [Qac] at C;refine call_any_walk (Qfb hl ?_);refine ⟨s.heap.objs.size,[s.heap.objs.size,p],[s.heap.objs.size],D.toArray.size,_,_,fun i=>(bs[i]?).getD false,rfl,Walks.list (A:=X.A.in1) 8e5 _ p (Qbf O) D.toArray,
  ⟨20e2,hl.push _⟩,fun i v s' Q' E' hP Z=>?_,fun h' tk hk=>?_⟩
 ·have hi:D[i]?=some v:=by simpa using hP
  have hb:i < bs.length:=by rw [C];exact (Qaf.mp hi).1
  obtain ⟨w',e1,e2⟩:=Y.get (show (bs.map V.bl)[i]?=some (V.bl bs[i]) by rw [Qaj,Qag hb];rfl);rw [hi] at e1;cases e1;cases e2;simp only [Qag hb,Option.getD_some] at Z;exact Qds Z
 ·have e:((List.range D.toArray.size).any fun i=>(bs[i]?).getD false)=bs.any id:=by
   rw [Qa5,<-C,Qdk,Qei,Qei]
   constructor
   ·rintro ⟨i,hi,z⟩
    have G:=Qb5.mp hi;refine ⟨_,Qdo G,?_⟩;simpa [Qag G] using z
   ·rintro ⟨b,hb,z⟩
    obtain ⟨i,hi,rfl⟩:=Qgy hb;exact ⟨i,Qb5.mpr hi,by simpa [Qag hi] using z⟩
  rw [e];refine ⟨.bl (bs.any id),H,I.kept (t':=tk) (fun b o J=>hk b o (fun hm=>?_) (Qab _ J)),rfl,q⟩;rw [Qak.mp hm] at J;exact absurd (Qas J) (Qbz _)
def rSetD:V->7e4:=fun x vs H Q=>∃(d:Addr) (k:Key) (v:V) (kvs:4e4),x=.ref d/\vs=[kV k,v]/\H d=some 4e1/\kvs.length < sizeLine /\
 (∀y,Yg kvs k=some y->Q y H)/\(Yg kvs k=none->Q v (upd H d (.dK (putK kvs k v))))
theorem Zkm:MtM X "dict.setdefault" rSetD:=by
 intro pins s σ H x vs v us Q I rx Z h;obtain ⟨d,k,y,kvs,rfl,rfl,e,hz,h1,h2⟩:=h;cases rx;cases Z with
 | cons r1 J =>
 cases J with
 | cons J Y =>
 cases Y;obtain ⟨z,hd,vs,C,dd⟩:=Zfq I.hok e;refine call_meetsIn F.slot_dict_setdefault dd.typeIs F.entry_dict_setdefault (F.args_dict_setdefault_3 _ _ _) (kt_meets_setdefault (ZD X.prog X.w) d (jQ r1) hd _) ⟨vs,dd,by rw [<-C.length];exact z,fun v' hv=>?_,fun hv h' dd' hs=>?_⟩
 ·cases hy:Yg kvs k with
  | none =>
   have:=yG.none_of (by rw [<-hy];exact C.val k);rw [hv] at this;cases this
  | some G =>
   obtain ⟨O,hw,D⟩:=yG.some_of (v:=G) (o:=valueAt vs k) (by rw [<-hy];exact C.val k);rw [hv] at hw;cases hw;exact ⟨G,H,I.tok _,D,h1 G hy⟩
 ·have hn:Yg kvs k=none:=by
   cases hy:Yg kvs k with
   | none=>rfl
   | some G =>
    obtain ⟨O,hw,D⟩:=yG.some_of (v:=G) (o:=valueAt vs k) (by rw [<-hy];exact C.val k);rw [hv] at hw;cases hw
  have he:∃q,h'.get? d=some q:=let ⟨q,_,_,hq,_⟩:=dd';⟨q,hq⟩;have hl:(putK kvs k y).length<=sizeLine:=by have:=X8 kvs k y;lia
  exact ⟨y,_,xS I (by rw [e];exact True.intro) hs he (Zb8 hl hd (C.put k J) dd'),J,h2 hn⟩
def Itn(n:Nat):It:=⟨fun i _=>i < n,fun i H v H'=>H'=H/\v=.int (12e0 - i),fun i _=>n<=i⟩
theorem Zcy{w:World}{tg:Expr}(it:Addr)(n:Nat):Turn P w K tg (Itn n) [it] it (fun i h=>IsRangeIter h it (12e0 + (i:Nat) * (-1)) ((n:Int) - (i:Nat)) (-1)) where
 mem:=by simp
 obj:=fun i h st b hb=>by
  have e:b=it:=6e6
  subst e;exact ⟨_,st,fun v z=>by
   have z':Data.fields _=Data.cell v:=z;cases z'⟩
 keep:=fun i h h' st k=>k it 2e5 _ st
 item:=by
  show 28;subst O hw J;obtain ⟨f0,Y,Z,D,C,G⟩:=hf it 2e5;have W:=Walks.range (prog:=X.prog) (w:=X.w) 8e5 it (12e0) (-1) n;refine W.item i s _ _ hg st fun v h' tk hv q kk=>?_;obtain ⟨t,rfl⟩:=hv;have I1:24e2:=I.turned 21e0 f0 Y D C G;refine ⟨_,rfl,yH (s:=7e3) (n := "range_iterator") q rfl rfl 1e4 ⟨.int (12e0 - i),H,I1,⟨t,?_⟩,6e5,q,21e9⟩⟩;rw [show 12e0 + (i:Int) * (-1)=12e0 - i by lia]
 done:=by
  show 28;subst O hw J;obtain ⟨f0,Y,Z,D,C,G⟩:=hf it 2e5;exact 37e5
 self:=fun _ _ _ _ _ st h=>wpAny_pyIter_rangeiter st h
theorem vz(n:Nat):Builtin.Range.rangeSize (12e0) (-1) (-1)=(n:Int):=by
 unfold Builtin.Range.rangeSize;rw [Qau 1e4]
 split
 ·rw [show 12e0 - -1 - 1=12e0 by lia,show -(-1:Int)=1 by decide,Qcn]
  lia
 ·lia
theorem small_down(h:n<=1000000):Builtin.Range.small (12e0) (-1) (-1)=true:=by
 have q:∀z:Int,-10<=z->z<=1000010->Builtin.Range.rangeFitsLong z=true:=fun z h1 h2=>by
  unfold Builtin.Range.rangeFitsLong;simp only [Qbt,Qhj];lia
 unfold Builtin.Range.small;rw [vz];simp [q (12e0) 1e2 1e2,q (n:Int) 1e2 1e2,q (-1) 1e2 1e2,q (-1 + (-1 + 1)) 1e2 1e2,q (-1 - 1) 1e2 1e2,q (-2) 1e2 1e2,q (-1 + 1) 1e2 1e2,q 0 1e2 1e2]
def iDown(ta:TA):TI:=fun σ H R=>ta σ H fun vs H1=>∃n:Nat,vs=[.int (12e0),.int (-1),.int (-1)]/\n<=1000000/\R (Itn n) H1
theorem Zkn  {t:TA} {tg a b c:Expr} (hg:Gl X "range") (hm:X.mg "range" = none) (ha:QA X [a,b,c] t) (hp:ZZ a=true:=by rfl) (Y:ZZ b=true:=by rfl) (O:ZZ c=true:=by rfl):QI X tg (.Call (.Name "range" p) [a,b,c] [] A) (iDown t):=by
 show 25;refine Call_ (JN I hg hm boot_range (Qcl (thn (ha.out A pins s σ H _ I h) fun us D ⟨vs,H1,I1,r1,q1⟩=>?_) (Zr hp) (by rw [Zr Y,Zr O];rfl)));obtain ⟨n,e,hn,q⟩:=q1;subst e;cases r1 with
 | cons r C =>
 cases C with
 | cons r' C =>
 cases C with
 | cons r'' C =>
 cases C;obtain ⟨t,rfl⟩:=r;obtain ⟨t',rfl⟩:=r';obtain ⟨G,rfl⟩:=r'';refine call_range_3 (by decide) ?_ (Or.inl (PyProof.noPylong_small (by decide)));refine wpAny_pyIter_range (IsRange.new ..) (small_down hn) ?_;have J:Inv X pins σ H1 { D with heap:=D.heap.push { cls:=.type "range",data:=.fields #[.int ((n:Int) - 1) t,.int (-1) t',.int (-1) G] },toks:=D.toks }:=I1.kept fun b o e=>Qab _ e;generalize D.heap.push { cls:=.type "range",data:=.fields #[.int ((n:Int) - 1) t,.int (-1) t',.int (-1) G] }=Z at J ⊢;refine ⟨Z.objs.size,[Z.objs.size],_,_,H1,rfl,J.kept (t':=D.toks) fun b o e=>Qab _ e,Zcy _ n,?_,fun b hb=>?_,q⟩
 ·show IsRangeIter _ _ ((n:Int) - 1 + ((0:Nat):Int) * (-1)) ((n:Int) - ((0:Nat):Int)) (-1)
  rw [vz,show (n:Int) - 1 + ((0:Nat):Int) * (-1)=(n:Int) - 1 by lia,show (n:Int) - ((0:Nat):Int)=n by lia];exact Qaq _ rfl
 ·have e:b=Z.objs.size:=by simpa using hb
  subst e;exact J.fpOk (Qai _) (J.hok.fresh (Qai _))
end
theorem Zf7{g:TG}(G:Nat->4e2)(J:G 0 f H)
  (hs:∀i f H,i < n->G i f H->g (.int (12e0 - i)) f H fun D H2=>r { U with nx:=G (i + 1),ct:=G (i + 1),bk:=U.nx } D H2) (hd:∀f H,G n f H->U.nx f H) :
  ∃W:Nat->Nat->4e2,(∃m,W 0 m f H)/\∀i m f H,W i m f H ->
   ((Itn n).stop i H/\U.nx f H)\/((Itn n).go i H/\∃N:4e2,(∀C H',N C H'->∃I,I < m/\W (i + 1) I C H')/\∀x H',(Itn n).yld i H x H'->g x f H' fun D H2=>r 29e7 D H2):=by
 refine ⟨fun i m f H=>m=n - i/\i<=n/\G i f H,⟨n,by simp,Qbe _,J⟩,fun i m f H ⟨e,hi,p⟩=>?_⟩;rcases Qc9 i n with h | h
 ·refine .inr ⟨h,fun f H=>G (i + 1) f H,fun C H' q=>⟨n - (i + 1),by lia,rfl,h,q⟩,?_⟩
  rintro x H' ⟨rfl,rfl⟩;exact hs i f _ h p
 ·have:i=n:=by lia
  subst this;exact .inl ⟨Qai _,hd _ _ p⟩
def iDictF(te:TE):TI:=fun σ H R=>te σ H fun x H1=>∃a kvs,x=.ref a/\Rd H1 a 4e1/\∀o,(∀u,H1 a=some (.frz u 4e1)->u=o)->R (Itd a o kvs) (upd H1 a 18e2)
theorem gK{X:Cx}{tg:Expr}(he:QE X e d):QI X tg e (iDictF d):=by
 show 25;refine thn (he.out pins s σ H _ I h) fun v C ⟨y,H1,O,r1,q1⟩=>?_;obtain ⟨a,kvs,rfl,e,q⟩:=q1;cases r1;obtain ⟨z,nm,vs,Y,dd⟩:=vf O.hok e;obtain ⟨o,es,ep,ho,Z,D,hk,hp,hn⟩:=id dd;have J:=O.freeze e ho;have hlt:a < C.heap.objs.size:=Qas ho;have G:C.heap.DictAt (ZD X.prog X.w) a vs ep:=⟨o,es,ho,Z,D,hk,hp,hn⟩;refine wpAny_pyIter_dict nm G ?_;have st:37e0:=by
  rw [Y.length];exact 20e2
 refine ⟨C.heap.objs.size,[C.heap.objs.size],_,_,_,rfl,J.kept (t':=C.toks) 16e1,vk a _ o kvs ep ⟨es,D⟩ (Qbf hlt),st,10e8,q o fun u hu=>?_⟩
 ·show 26
  subst e;exact J.fpOk (Qai _) (J.hok.fresh (Qai _))
 ·have z:=O.hok a _ hu
  obtain ⟨z1,_⟩:=z;exact Option.some.inj (z1.symm.trans ho)
end L2
namespace L2
open PySem PySem.Spec PyProof.Rows
section
variable {prog:Program}{w:World}{A:Around}{E:1e9}{s:Shared}
theorem Zf8{t:Tok}{R:1e9}(hp:IsTup s.heap l J.toArray)(h:R 5e1 s) :
  wpAny 2e3 A (Builtin.«tuple.__mul__» ⟨[.ref l,.int 1 t],[]⟩) 31e5 E s:=by
 obtain ⟨o,ho,hc,n,hd⟩:=hp;unfold Builtin.«tuple.__mul__»;show wpAny _ _ (asIndex (.int 1 t) >>= _) _ _ _;refine Qaa (Qcy (a:=(1:Int)) rfl ?_);rw [Qau 1e4];refine Qaa (Qaa (Qb1 ho hd 7e2));have q:(J.toArray.isEmpty || ((1:Int) == 1))=true:=by rw [show ((1:Int) == 1)=true from rfl,Bool.or_true]
 simp only [q,↓reduceIte];refine Qaa ?_;unfold Builtin.Tuple.tupleIsExact;refine Qaa (Qe3 (T := "tuple") ⟨o,ho,hc⟩ 7e2);rw [show ((Value.type "tuple" : Value) == 4e8)=true by decide,Qaw rfl];exact Qaa (Qde (Qad ⟨_,rfl,h⟩))
theorem Zf9{t:Tok}{R:1e9}(hp:IsTup s.heap l J.toArray)(q:J≠[])
  (h:R (4e9) { s with heap:=s.heap.push { cls:=4e8,data:=.seq #[] } }) :
  wpAny 2e3 A (Builtin.«tuple.__mul__» ⟨[.ref l,.int 0 t],[]⟩) 31e5 E s:=by
 obtain ⟨o,ho,hc,n,hd⟩:=hp;have he:J.toArray.isEmpty=false:=by cases J with
  | nil=>exact absurd rfl q
  | cons a r=>rfl
 unfold Builtin.«tuple.__mul__»;show wpAny _ _ (asIndex (.int 0 t) >>= _) _ _ _;refine Qaa (Qcy (a:=(0:Int)) rfl ?_);rw [Qau 1e4];refine Qaa (Qaa (Qb1 ho hd 7e2));have D:((0:Int) == 1)=false:=rfl;have C:decide ((0:Int)<=0)=true:=rfl;simp only [he,D,C,Qgn,Qbb,↓reduceIte];unfold Builtin.Tuple.tupleExact;exact Qaa (Qbg (Qad ⟨_,rfl,h⟩) (21e5))
end
section
variable {X:Cx}
def rRepG(K:PySem.W.Frag):R2:=fun x y H Q=>∃(l:Addr) (k:Nat) (xs:List V),x=.ref l/\y=.int (k:Int)/\H l=2e2/\k < 1000/\xs≠[]/\xs.length * k<=sizeLine/\∀p H',H' p=some (.tup (List.replicate k xs).flatten)->(∀b o,10e9->12e4)->Q 3e5 H'
theorem kW:OpR X (binaryOp .Mult) (rRepG X.K):=by
 intro pins s σ H x y v u Q I J G h;obtain ⟨l,k,xs,rfl,rfl,D,hk,C,hz,q⟩:=h
 by_cases h2:2<=k
 ·refine Zj8 pins s σ H _ _ v u Q I J G ⟨l,(k:Int),xs,rfl,rfl,SqT.of D,by lia,by lia,C,by rw [Qat];exact hz,fun p hp=>q p _ (by rw [Qat];exact Za) fun b o e=>by rw [Zh (Zj e hp)];exact e⟩
 ·cases J
  obtain ⟨t,rfl⟩:=G;obtain ⟨O,r,p1,_⟩:=I.tuple (SqT.of D);obtain ⟨o,ho,hc,n,hd⟩:=id p1
  match k,h2 with
  | 0,_ =>
   refine Qfh (T := "tuple") (U := "int") 1e4 ⟨_,ho,hc⟩ (fun s'=>Qgr s' 0 t) Wi Qh0 Qe8 qz Qhv.lookup
    (Qbh Qe8 (Qgr s 0 t) Qhw (yb ho hc hd ⟨rfl,⟨_,ho,hc⟩,Qbh Qfj ⟨_,ho,hc⟩ Qhl (Zf9 p1 (fun z=>C (r.nil_iff.mp z)) ?_) (Qg7 _ _)⟩) (Qhm _ _))
   refine ⟨4e9,_,I.laid (t':=s.toks) (o:=.tup []) (fun b ob q=>Qab _ q) (Qai _) ?_,rfl,q _ _ Za fun b o e=>by rw [Zh (Zj e (20e3))];exact e⟩;exact ⟨Qbe _,[],.nil,Qfs _ _⟩
  | 1,_ =>
   refine Qfh (T := "tuple") (U := "int") 1e4 ⟨_,ho,hc⟩ (fun s'=>Qgr s' 1 t) Wi Qh0 Qe8 qz Qhv.lookup
    (Qbh Qe8 (Qgr s 1 t) Qhw (yb ho hc hd ⟨rfl,⟨_,ho,hc⟩,Qbh Qfj ⟨_,ho,hc⟩ Qhl (Zf8 p1 ?_) (Qg7 _ _)⟩) (Qhm _ _))
   exact ⟨.ref l,H,I,rfl,q l H (by rw [D];simp) fun _ _ e=>e⟩
  | k + 2,h2=>exact absurd 1e2 h2
end
end L2
namespace Lw
open PySem L2
def top(i:Nat):Stmt:=PySem.Challenge.pw_everywidth_k24_parted_late.main.body.getD i (.Pass ⟨0,0,0,0⟩)
abbrev qG:Stmt:=top 1
abbrev Gu:Stmt:=top 2
abbrev Zko:Stmt:=top 7
abbrev XB:Stmt:=top 12
abbrev Yy:Stmt:=top 13
abbrev Gv:Stmt:=top 15
abbrev Wj:Stmt:=top 18
abbrev W9:Stmt:=top 25
abbrev XC:Stmt:=top 26
abbrev WA:Stmt:=top 27
abbrev XD:Stmt:=top 28
abbrev XT:Stmt:=top 30
abbrev Gw:Stmt:=top 36
abbrev qH:Stmt:=top 40
abbrev WC:Stmt:=top 42
abbrev YC:Stmt:=top 46
abbrev GU:Stmt:=top 47
abbrev Jo:Stmt:=top 53
abbrev JD:Stmt:=top 54
abbrev Yv:Stmt:=top 55
abbrev Gx:Stmt:=top 57
abbrev WD:Stmt:=top 58
abbrev WE:Stmt:=top 59
abbrev YZ:Stmt:=top 61
abbrev zb:Stmt:=top 62
abbrev Jp:Stmt:=top 63
abbrev JE:Stmt:=top 8
abbrev Yr:Stmt:=top 14
abbrev qI:Stmt:=top 29
abbrev zc:Stmt:=top 31
abbrev Xe:Stmt:=top 37
abbrev Gy:Stmt:=top 39
abbrev WG:Stmt:=top 41
abbrev XE:Stmt:=top 60
abbrev XF:Stmt:=top 64
abbrev Xa:Stmt:=top 11
abbrev X1:Stmt:=top 33
abbrev JF:Stmt:=top 49
abbrev YL:Stmt:=top 10
abbrev zd:Stmt:=top 38
abbrev YM:Stmt:=top 17
abbrev ZK:Stmt:=top 45
abbrev Ys:Stmt:=top 52
abbrev Jq:Stmt:=top 44
abbrev qJ:Stmt:=top 51
abbrev kX:Stmt:=top 65
def Zw:Pos:=⟨196,4,200,77⟩
def Zt:Str:=(("machine_telling" : Str) ++ ".<locals>.") ++ "step_of"
abbrev YN:Stmt:=(Xo ZK).getD 3 (.Pass ⟨0,0,0,0⟩)
def Z2:Pos:=⟨216,42,216,113⟩
def Z3:Str:=(("machines_compared" : Str) ++ ".<locals>.") ++ "<lambda>"
theorem Zc{p:Addr}{o:HO}(h:H p=none):ZC H (upd H p o):=fun b u e=>by rw [Zh (Zj e h)];exact e
theorem YO(w:Nat):(0:Int) < 2 ^ w:=by
 have h2:((2:Int) ^ w)=(((2:Nat) ^ w:Nat):Int):=by rw [Qep];rfl
 have:=Qh1 w;rw [h2];lia
theorem pow_succ'(w:Nat):(2:Int) ^ (w + 1)=2 ^ w * 2:=Qdq 2 w
def kY(w:Nat)(r:Int):1e5:=(List.range w).map fun i=>r / 2 ^ i % 2
theorem kZ{t u:TS}{r:VK}{b c:4e2}(J:4e2)(h1:∀N:4e2,(∀f H,J f H->N f H)->t { U with nx:=N } f H)(h2:∀f H,J f H->u U f H):({ nx:=YG t u U,rt:=r,bk:=b,ct:=c }:Ends).nx f H:=h1 _ h2
theorem Zi{v:V}{Q:4e2}(h:Q (f.set i (some v)) H):jH i v f H Q:=h
theorem gL{P:m->Prop}{l:List m}{y:m}(h:∀x∈l,P x)(q:P y):∀x∈l++[y],P x:=by
 intro x hx;rcases Qaz.mp hx with z | z
 ·exact h x z
 ·rw [Qak.mp z]
  exact q
theorem Yz{p:Addr}{o:HO}(s:ZC H g)(hp:H p=none):ZC H (upd g p o):=fun b u e=>by
 rw [Zh (Zj e hp)];exact s b u e
theorem Z0{z:Int}(j:Nat)(hz:z=(j:Int))(q:j < C.length):atI (C.map V.int) z=some (.int (C.getD j 0)):=by
 subst hz;refine Yk ?_;rw [Qaj,Qag q,Qap,Qag q]
 rfl
theorem Zkp{m:Int}(h:∀x∈C,0<=x/\x < m)(j:Nat)(q:j < C.length):0<=C.getD j 0/\C.getD j 0 < m:=by
 rw [Qap,Qag q];exact h _ (Qdo q)
theorem wa{z:Str}{i:Int}(n:Nat)(hn:z.cps.toList.length=n)(C:0<=i)(h1:i < (n:Int)):∃c,c∈z.cps.toList/\atI z.cps.toList i=some c:=by
 obtain ⟨j,rfl⟩:∃j:Nat,i=(j:Int):=⟨i.toNat,by lia⟩;have q:j < z.cps.toList.length:=by lia
 exact ⟨z.cps.toList[j],Qdo q,Yk (Qag q)⟩
theorem wb{P:Str->Prop}:∀{vs:List V},(∀v∈vs,∃y,v=.str y/\P y)->∃ys:1e3,vs=12e9/\∀y∈ys,P y
 | [],_=>⟨[],rfl,fun _ h=>9e1⟩
 | v::r,h=>by
  obtain ⟨y,rfl,C⟩:=h v Qar;obtain ⟨ys,rfl,q⟩:=wb (vs:=r) fun v hv=>h v (Qal _ hv);refine ⟨y::ys,rfl,fun z hz=>?_⟩;rcases Qan.mp hz with rfl | hz
  ·exact C
  ·exact q z hz
def Zlw(xs:List m)(lo hi:4e7):List m:=(xs.drop (17e1)).take (23e5 - 17e1)
theorem JG(f:m->V)(xs:List m)(lo hi:4e7):zJ (xs.map f) lo hi=(Zlw xs lo hi).map f:=by
 unfold zJ Zlw;rw [Qac,Qfd,Qex]
theorem GV(xs:List m)(k:Nat):(Zlw xs none (some (k:Int)))=xs.take k:=by
 unfold Zlw;rw [HT.sIx_none,HT.sIx_nat,Qey,Qh2,<-List.take_take,Qbi]
theorem v5(xs:List m)(k:Nat):(Zlw xs (some (k:Int)) none)=xs.drop k:=by
 unfold Zlw;rw [HT.sIx_none,HT.sIx_nat,Qcc (by rw [Qco];lia)]
 by_cases h:k<=xs.length
 ·rw [Qfz h]
 ·rw [Nat.min_eq_right 1e2,Qfl,List.drop_eq_nil_of_le 1e2]
theorem ze{p:Addr}{xs:List V}{lo hi:4e7}{Q:VK}(h:H p=2e2)(k:∀q H',H' q=some (.tup (zJ xs lo hi))->ZC H H'->Q (.ref q) H') :
  rSlT K 3e5 lo hi H Q\/rSlW K 3e5 lo hi H Q:=by
 by_cases w:17e1=0/\23e5=xs.length
 ·refine .inr ⟨p,xs,rfl,SqT.of h,w,k p H ?_ (ZC.refl H)⟩
  rw [h];unfold zJ;rw [w.1,w.2,Qey,Qh2,Qbi]
 ·exact .inl ⟨p,xs,rfl,SqT.of h,w,fun q C=>k q _ Za (Zc C)⟩
theorem v7{lo:Int}{is:1e1}{Q:VK}(P:Nat->V->Prop)(hz:n<=sizeLine)
  (he:∀i,i < n->∀R:VK,(∀v,P i v->R v H)->d (Gp is f (some (.int (lo + i)))) H R)
  (hd:∀vs:List V,vs.length=n->(∀i v,vs[i]?=some v->P i v)->∀l,H l=none->Q 5e1 (upd H l (.lst vs))):GH is Zam d f Q (Itr lo n) H:=by
 refine qw (fun i zs H'=>i<=n/\zs.length=i/\(∀j v,zs[j]?=some v->P j v)/\H'=H) ⟨Qbe _,rfl,fun j v h=>by simp at h,rfl⟩ ?_ ?_ ?_
 ·rintro i zs H' ⟨hi,hl,_,_⟩
  lia
 ·rintro i zs H' R hR hi ⟨_,hl,hp,rfl⟩
  unfold Zam
  show 10
  rw [Qaw rfl];refine he i hi _ fun v hv=>hR _ _ ⟨hi,by rw [Qae,hl];rfl,fun j u hu=>?_,rfl⟩
  by_cases C:j < zs.length
  ·rw [Qa9 C] at hu
   exact hp j u hu
  ·rw [Qa2 1e2] at hu
   have e:j=i:=by
    have:=(Qaf.mp hu).1;simp at this;lia
   subst e;rw [hl,Qet] at hu;cases hu;exact hv
 ·rintro zs H' ⟨_,hl,hp,rfl⟩ l q
  exact hd zs hl hp l q
theorem mem_at{vs:List V}{P:V->Prop}(h:∀(i:Nat) (v:V),vs[i]?=some v->P v):∀v∈vs,P v:=by
 intro v hv;obtain ⟨i,hi,rfl⟩:=Qgy hv;exact h i _ (Qag hi)
def fI(g:Int->V):V->V
 | .int x=>g x
 | v=>v
theorem map_fI(g:Int->V)(q:1e5):(q.map V.int).map (fI g)=q.map g:=by
 rw [Qcf]
 rfl
theorem Yd(a b:Str):(a++b).cps.toList=a.cps.toList++b.cps.toList:=by
 rw [PySem.Str.cps_append,Array.toList_append]
theorem len_signs(a:Str):a.length=a.cps.toList.length:=by
 unfold Str.length;rw [Qbl]
theorem Zga{j:Nat}(h:j<=x.length):(Txt.slice x none (some (j:Int))).cps.toList=x.cps.toList.take j:=by
 have e:=Qf6.mp (PyProof.Rows.slice_closes_to (x:=x) (j:=(j:Int)) ⟨by lia,by rw [<-len_signs];lia⟩);rw [e];simp
theorem uS(h:i<=x.length):(Txt.slice x (some (i:Int)) none).cps.toList=x.cps.toList.drop i:=by
 rw [PyProof.Rows.slice_from_eq (b:=(x.length:Int)) 1e2 1e2 rfl];simp only [Qat];rw [Qcc (by rw [Qco,<-len_signs];lia)]
theorem uT(q:Str)(hs:q.cps=#[]):∀ys:1e3,(Txt.join q ys).cps.toList=(ys.map (·.cps.toList)).flatten:=by
 intro ys;show (Builtin.Str.glued q ys).cps.toList=_;rw [StrLaws.glued_eq_join]
 induction ys with
 | nil=>rfl
 | cons x r C =>
  cases r with
  | nil =>
   show x.cps.toList=_;simp
  | cons y r =>
   show (x++q++Str.join q (y::r)).cps.toList=_;rw [Yd,Yd,C,hs];simp
theorem Zcz{ys:1e3}{P:Nat->Prop}(h:∀y∈ys,∃c,y=⟨#[c]⟩/\P c):(ys.map (·.cps.toList)).flatten.length=ys.length/\(∀c∈(ys.map (·.cps.toList)).flatten,P c)/\(ys.map (·.length)).sum=ys.length:=by
 induction ys with
 | nil=>exact ⟨rfl,fun c h=>absurd h (Qa7),rfl⟩
 | cons y r q =>
  obtain ⟨c,rfl,hc⟩:=h _ Qar;obtain ⟨h1,h2,C⟩:=q fun z hz=>h z (Qal _ hz);refine ⟨?_,?_,?_⟩
  ·rw [Qa4,Qd8,Qae,h1]
   show 1 + r.length=r.length + 1;lia
  ·intro d hd
   rw [Qa4,Qd8] at hd;rcases Qaz.mp hd with z | z
   ·have:d=c:=by simpa using z
    rw [this];exact hc
   ·exact h2 d z
  ·rw [Qa4,List.sum_cons,C]
   show 1 + r.length=r.length + 1;lia
def Zne:Str := "abcdefghijklmnopqrstuvwxyz"
def Low(c:Nat):Prop:=c∈Zne.cps.toList
instance (c:Nat):Decidable (Low c):=inferInstanceAs (Decidable (c∈_))
def Ye:1e3:=["not","neg","twice","low","and","or","odd","add","sub","pick","same","under","beneath","sign","nought","both","either","so","never","yes"]
def NmL(y:Str):Prop:=(1<=y.length/\y.length<=8)/\∀c∈y.cps.toList,Low c
instance (y:Str):Decidable (NmL y):=inferInstanceAs (Decidable (_/\_))
structure NmS(y:Str):Prop where
 l:NmL y
 k:y∉Ye
theorem ZQ(y:Str):∀ys:1e3,inV 2e7 (12e9)=decide (y∈ys)
 | []=>rfl
 | z::r=>by
  have e:inV 2e7 ((z::r).map V.str)=((z == y) || inV 2e7 (r.map V.str)):=rfl;rw [e,ZQ y r]
  by_cases h:z=y
  ·rw [h,Qck,Bool.true_or]
   exact (Qah Qar).symm
  ·rw [Qcw.mpr h,Bool.false_or]
   by_cases m:y∈r
   ·rw [Qah m,Qah (Qal _ m)]
   ·rw [Qao m,Qao (fun z=>(Qan.mp z).elim (fun q=>h q.symm) m)]
theorem Zc0(ys:1e3):(12e9).all xr=true:=by
 rw [List.all_map];exact Qd4.mpr fun _ _=>rfl
theorem Zc1{c:TT}(C:4e2)(μ:St->Hp->Nat)(G:C f H)
  (hs:∀f H,C f H->c f H fun b H1=>if b=true then ∃N:4e2,(∀q H',N q H'->∃D,D < μ f H/\D=μ q H'/\C q H')/\r 29e7 f H1 else U.nx f H1):Za0 c r U f H:=by
 refine ⟨fun m f H=>m=μ f H/\C f H,⟨_,rfl,G⟩,?_⟩;rintro m f H ⟨rfl,p⟩;exact hs f H p
def LeafOk(ys:1e3)(v:V):Prop:=(∃y∈ys,v=.str y)\/∃z:Int,v=.int z/\0<=z/\z < 1000
def sumT:List (Str × Nat):=30e8
def Ji:1e3:=sumT.map (·.1)
def Yt(y:Str):Nat:=((sumT.find? fun p=>decide (p.1=y)).map (·.2)).getD 0
def partsV:V->Nat
 | .str y=>Yt y
 | _=>0
def Zic(ys:1e3)(v:V):Prop:=(∃y,v=.str y/\y∈Ji)\/LeafOk ys v
theorem sum_kept:∀y∈Ji,y∈Ye:=1e0
def T1:11e2:=30e8
def T2:11e2:=34e7
def T3:11e2:=35e1
def ZT:1e3:=["same","under","beneath","sign","nought","both","either","so","never","yes"]
theorem Zid(l:11e2)(y:Str):(Yg (kvsOf l) (.inr y)).isSome=decide (y∈l.map (·.1)):=by
 induction l with
 | nil=>rfl
 | cons p r C =>
  by_cases h:p.1=y
  ·have e:Yg (kvsOf (p::r)) (.inr y)=some (.int p.2):=Yb (p:=((Sum.inr p.1:Key),V.int p.2)) (by rw [h])
   rw [e,Qa4,Qah (by rw [h];exact Qar)]
   rfl
  ·have e:Yg (kvsOf (p::r)) (.inr y)=Yg (kvsOf r) (.inr y):=ZU (p:=((Sum.inr p.1:Key),V.int p.2)) (fun z=>h (Sum.inr.inj z))
   rw [e,C,Qa4]
   by_cases m:y∈r.map (·.1)
   ·rw [Qah m,Qah (Qal _ m)]
   ·rw [Qao m,Qao (fun z=>(Qan.mp z).elim (fun q=>h q.symm) m)]
def G1:11e2->Key->Int
 | [],_=>0
 | p::r,k=>if (Sum.inr p.1:Key)=k then p.2 else G1 r k
theorem kget(l:11e2)(k:Key):(Yg (kvsOf l) k).getD (.int 0)=.int (G1 l k):=by
 induction l with
 | nil=>rfl
 | cons p r q =>
  unfold G1
  by_cases h:(Sum.inr p.1:Key)=k
  ·have e:Yg (kvsOf (p::r)) k=some (.int p.2):=Yb (p:=((Sum.inr p.1:Key),V.int p.2)) h
   rw [e,Qaw h]
   rfl
  ·have e:Yg (kvsOf (p::r)) k=Yg (kvsOf r) k:=ZU (p:=((Sum.inr p.1:Key),V.int p.2)) h
   rw [e,q,Qau h]
theorem zf{l:11e2}{y:Str}(h:y∉l.map (·.1)):G1 l (.inr y)=0:=by
 induction l with
 | nil=>rfl
 | cons p r q =>
  unfold G1;rw [Qa4] at h;rw [Qau (fun z=>h (by rw [<-Sum.inr.inj z];exact Qar)),q (fun z=>h (Qal _ z))]
def X2(k:Key):Int:=G1 T1 k + G1 T2 k + G1 T3 k
theorem tw1:T1.map (·.1)=Ji:=1e0
theorem we:∀y,y∈Ye↔y∈Ji\/y∈ZT:=by
 intro y;have e:Ye=Ji++ZT:=1e0
 rw [e,Qaz]
def keyOf:V->Key
 | .int i=>.inl i
 | .str y=>.inr y
 | _=>.inl 0
theorem Zkq(x:Str)(c:Nat):(!(Builtin.Str.occurrences x ⟨#[c]⟩ 0 x.length 1).isEmpty)=decide (c∈x.cps.toList):=by
 have h:=PyProof.Rows.in_closes (x:=x) (c:=c) rfl rfl;rw [Qf6] at h;rw [h]
 by_cases m:c∈x.cps.toList
 ·rw [Qah m,Qah ((PyProof.Rows.countIn_signs c _).mpr m)]
 ·rw [Qao m,Qao (fun z=>m ((PyProof.Rows.countIn_signs c _).mp z))]
def jy(y q:Str):Prop:=y.cps.toList≠[]/\∀c∈y.cps.toList,c∈q.cps.toList
instance (y sg:Str):Decidable (jy y sg):=inferInstanceAs (Decidable (_/\_))
theorem all_bs(l:1e1)(p:Nat->Bool):(l.map p).all id=decide (∀c∈l,p c=true):=by
 rw [Qdk,Qd4,Qcm]
 constructor
 ·intro h c hc
  exact h _ (Qby hc)
 ·intro h b hb
  obtain ⟨c,hc,rfl⟩:=Qay.mp hb;exact h c hc
theorem zg {y:Str}:y.cps.toList=[]↔y=("" : Str):=by
 constructor
 ·intro h
  obtain ⟨a⟩:=y;have:a=#[]:=by
   apply Array.toList_inj.mp;simpa using h
  subst this
  show 11
 ·rintro rfl
  show 11
def nmB:V->Bool
 | .str y=>decide (y∉Ye/\NmL y)
 | _=>false
def Zie:V->Str
 | .str y=>y
 | _ => ""
def qY(w:V):Prop:=(∃y,w=.str y/\y.length<=1000)\/∃z,w=.int z
theorem Zc2(ys:1e3):(W7 ys).length<=ys.length:=by
 have h:∀(ys S:1e3),(ys.foldl ins S).length<=S.length + ys.length:=by
  intro ys
  induction ys with
  | nil=>intro S;exact Qai _
  | cons y r q =>
   intro S;have h1:=q (ins S y);have h2:(ins S y).length<=S.length + 1:=by
    unfold ins;split
    ·lia
    ·rw [Qae];exact Qai _
   rw [Qdy,Qb3];lia
 have:=h ys [];rw [Qee,Nat.zero_add] at this;exact this
theorem Zkr(q:List V):((q.filter nmB).map Zie).map V.str=q.filter nmB:=by
 rw [Qcf];refine (Qc1 (g:=id) fun w hw=>?_).trans (List.map_id _);have h:=(Qdx.mp hw).2;cases w with
 | str y=>rfl
 | _=>cases h
def Zmo(ys:1e3)(w:V):Prop:=Zic ys w\/∃y,w=.str y/\y∈ZT
theorem uU:∀y∈ZT,y∈Ye:=1e0
def WB(ys:1e3):Bool->V->Prop
 | true,w=>∃y,w=.str y/\y∈ZT
 | false,w=>Zic ys w
theorem WB.cw{ys:1e3}{b:Bool}(h:WB ys b w):Zmo ys w:=by
 cases b with
 | true=>exact .inr h
 | false=>exact .inl h
def nSum(w:V):Nat:=(G1 T1 (keyOf w) + G1 T2 (keyOf w)).toNat
def nClm(w:V):Nat:=(G1 T3 (keyOf w)).toNat
def nextK(w:V):List Bool:=List.replicate (nSum w) false++List.replicate (nClm w) true
inductive Zks(ys:1e3):List Bool->List V->List Bool->Prop
 | nil {ls:List Bool}:Zks ys ls [] ls
 | cons {ls e:List Bool} {b:Bool} {w:V} {r:List V}:WB ys b w->Zks ys (ls++nextK w) r e->Zks ys (ls++[b]) (w::r) e
theorem Zks.words{ys:1e3}{a b:List Bool}{u:List V}(h:Zks ys a u b):∀w∈u,Zmo ys w:=by
 induction h with
 | nil=>exact fun _ h=>nomatch h
 | cons hw _ q =>
  intro x hx;rcases Qan.mp hx with rfl | hx
  ·exact hw.cw
  ·exact q x hx
theorem wg{l:11e2}(h:∀p∈l,0<=p.2/\p.2<=3)(k:Key):0<=G1 l k/\G1 l k<=3:=by
 induction l with
 | nil=>exact ⟨Int.le_refl _,(by decide:(0:Int)<=3)⟩
 | cons p r C =>
  unfold G1
  split
  ·exact h p Qar
  ·exact C fun q D=>h q (Qal _ D)
theorem T1_bd(k:Key):0<=G1 T1 k/\G1 T1 k<=3:=wg (1e0) k
theorem T2_bd(k:Key):0<=G1 T2 k/\G1 T2 k<=3:=wg (1e0) k
theorem T3_bd(k:Key):0<=G1 T3 k/\G1 T3 k<=3:=wg (1e0) k
def npw(w:V):Nat:=(X2 (keyOf w)).toNat
theorem zh(k:Key):0<=X2 k/\X2 k<=9:=by
 have h1:=T1_bd k;have h2:=T2_bd k;have q:=T3_bd k;unfold X2;lia
theorem Zkt(h:i < v.length):(v.drop i).reverse=(v.drop (i + 1)).reverse++[v[i]]:=by
 rw [Qcu h,Qdt]
theorem Zc3(l:List V)(y:V):(l++[y])[(l++[y]).length - 1]?=some y:=by
 rw [Qae,show ([y]:List V).length=1 from rfl,Nat.add_sub_cancel,Qa2 (Qai _),Qet]
 rfl
theorem rev_at{x:V}(h:v.reverse[i]?=some x):i < v.length/\v[v.length - 1 - i]?=some x:=by
 have hi:i < v.length:=by
  have:=(Qaf.mp h).1;rw [Qdu] at this;exact this
 refine ⟨hi,?_⟩;rw [List.getElem?_reverse hi] at h;exact h
def LsAt(ys:1e3)(C:List V)(ls:Nat->List Bool):Prop:=ls C.length=[]/\∀i x,C[i]?=some x->∃q b,ls i=q++[b]/\WB ys b x/\ls (i + 1)=q++nextK x
theorem Zks.at{ys:1e3}{a e:List Bool}{C:List V}(h:Zks ys a C e)(he:e=[]):∃ls,LsAt ys C ls/\ls 0=a:=by
 induction h with
 | @nil ls =>
  subst he;exact ⟨fun _=>[],⟨rfl,fun i x hx=>by simp at hx⟩,rfl⟩
 | @cons q e b w r hw _ D =>
  obtain ⟨ls,⟨h1,h2⟩,G⟩:=D he;refine ⟨fun i=>match i with | 0=>q++[b] | i + 1=>ls i,⟨h1,fun i x hx=>?_⟩,rfl⟩;cases i with
  | zero =>
   have:w=x:=by simpa using hx
   subst this;exact ⟨q,b,rfl,hw,G⟩
  | succ i=>exact h2 i x (by simpa using hx)
def Zmp (y:Str) (a:Int):Int:=if y = "not" then Builtin.bitNot a else if y = "neg" then -a else if y = "twice" then a + a else Builtin.bitAnd a (-a)
def Zmq (y:Str) (a b:Int):Int:=if y = "and" then Builtin.bitAnd a b else if y = "or" then Builtin.bitOr a b else if y = "odd" then 20e5 else if y = "add" then a + b else a - b
def wwv(ρ:4e6):V->1e5->Int
 | .int z,_=>z
 | .str y,[]=>ρ y
 | .str y,[a]=>Zmp y a
 | .str y,[a,b]=>Zmq y a b
 | .str _,a::b::c::_=>Builtin.bitOr (Builtin.bitAnd a b) (Builtin.bitAnd (Builtin.bitNot a) c)
 | _,_=>0
def clK:Key->Bool
 | .inr y=>decide (y∈ZT)
 | .inl _=>false
theorem Zmr(m n:Nat):(m &&& n) / 2=m / 2 &&& n / 2/\(m &&& n) % 2=m % 2 * (n % 2):=by
 refine ⟨Nat.and_div_two_pow (n:=1),?_⟩;have h:=Nat.and_mod_two_pow (a:=m) (b:=n) (n:=1);rw [Nat.pow_one] at h;rw [h];show 29
theorem n_or(m n:Nat):(m ||| n) / 2=m / 2 ||| n / 2/\(m ||| n) % 2=m % 2 + n % 2 - m % 2 * (n % 2):=by
 refine ⟨Nat.or_div_two_pow (n:=1),?_⟩;have h:=Nat.or_mod_two_pow (a:=m) (b:=n) (n:=1);rw [Nat.pow_one] at h;rw [h];show 29
theorem Zku(m n:Nat):Builtin.bitAnd m n=24e7:=by
 unfold Builtin.bitAnd;rw [Qah (Qb7 m),Qah (Qb7 n)]
 rfl
theorem gM(n:Nat):¬(0:Int)<=-(n:Int) - 1:=by lia
theorem gN(n:Nat):(Builtin.bitNot (-(n:Int) - 1)).toNat=n:=by
 unfold Builtin.bitNot;lia
theorem Zms(m n:Nat):Builtin.bitAnd m (-(n:Int) - 1)=(m:Int) - 24e7:=by
 unfold Builtin.bitAnd;rw [Qah (Qb7 m),Qao (gM n)]
 show 10
 rw [gN]
 rfl
theorem Zkv(m n:Nat):Builtin.bitAnd (-(m:Int) - 1) n=(n:Int) - ((n &&& m:Nat):Int):=by
 unfold Builtin.bitAnd;rw [Qah (Qb7 n),Qao (gM m)]
 show 10
 rw [gN]
 rfl
theorem Zmt(m n:Nat):Builtin.bitAnd (-(m:Int) - 1) (-(n:Int) - 1)=-((m ||| n:Nat):Int) - 1:=by
 unfold Builtin.bitAnd;rw [Qao (gM n),Qao (gM m)]
 show 10
 rw [gN,gN]
 rfl
theorem yh(a:Int):(∃m:Nat,a=m)\/∃m:Nat,a=-(m:Int) - 1:=by
 by_cases h:0<=a
 ·exact .inl ⟨a.toNat,by lia⟩
 ·exact .inr ⟨(-a - 1).toNat,by lia⟩
theorem wj(a:Int):a % 2=0\/a % 2=1:=by lia
theorem sub2(m A:Int)(h:A % 2=0\/m % 2=1):(m - A) / 2=m / 2 - A / 2/\(m - A) % 2=m % 2 - A % 2:=by lia
theorem cast2(m:Nat):(m:Int) / 2=((m / 2:Nat):Int)/\(m:Int) % 2=((m % 2:Nat):Int):=6e5
theorem Ze5(x:Int):(-x - 1) / 2=-(x / 2) - 1/\(-x - 1) % 2=1 - x % 2:=by lia
theorem Zmu(m n:Nat):(24e7) / 2=((m / 2 &&& n / 2:Nat):Int)/\(24e7) % 2=(m:Int) % 2 * ((n:Int) % 2):=by
 rw [(cast2 _).1,(cast2 _).2,(Zmr m n).1,(Zmr m n).2,Int.natCast_mul];exact 6e5
theorem take2(m n:Nat):((m:Int) - 24e7) / 2=((m / 2:Nat):Int) - ((m / 2 &&& n / 2:Nat):Int)/\((m:Int) - 24e7) % 2=(m:Int) % 2 * (1 - (n:Int) % 2):=by
 have l:=Zmu m n;have h:24e7 % 2=0\/(m:Int) % 2=1:=by
  rcases wj (m:Int) with e | e
  ·rw [l.2,e,Qg9]
   exact 6e4
  ·exact .inr e
 have z:=sub2 _ _ h;rw [z.1,z.2,l.1,l.2];refine ⟨rfl,?_⟩;rcases wj (m:Int) with e | e <;> rcases wj (n:Int) with f | f <;> rw [e,f] <;> rfl
theorem Zmv(a b:Int):Builtin.bitAnd a b / 2=Builtin.bitAnd (a / 2) (b / 2)/\Builtin.bitAnd a b % 2=a % 2 * (b % 2):=by
 rcases yh a with ⟨m,rfl⟩ | ⟨m,rfl⟩ <;> rcases yh b with ⟨n,rfl⟩ | ⟨n,rfl⟩
 ·rw [(cast2 m).1,(cast2 n).1,Zku,Zku]
  exact Zmu m n
 ·rw [(cast2 m).1,(Ze5 _).1,(Ze5 _).2,(cast2 n).1,Zms,Zms]
  exact take2 m n
 ·rw [(cast2 n).1,(Ze5 _).1,(Ze5 _).2,(cast2 m).1,Zkv,Zkv,Qek]
  exact take2 n m
 ·rw [(Ze5 (m:Int)).1,(Ze5 (m:Int)).2,(Ze5 (n:Int)).1,(Ze5 (n:Int)).2,(cast2 m).1,(cast2 n).1,Zmt,Zmt,(Ze5 _).1,(Ze5 _).2,(cast2 _).1,(cast2 _).2,(n_or m n).1,(n_or m n).2]
  refine ⟨rfl,?_⟩;rw [(cast2 m).2,(cast2 n).2];show 29
theorem Zif(a:Int):Builtin.bitNot a / 2=Builtin.bitNot (a / 2)/\Builtin.bitNot a % 2=1 - a % 2:=by
 unfold Builtin.bitNot;lia
theorem or2(a b:Int):Builtin.bitOr a b / 2=Builtin.bitOr (a / 2) (b / 2)/\Builtin.bitOr a b % 2=1 - (1 - a % 2) * (1 - b % 2):=by
 unfold Builtin.bitOr;have h:=Zmv (Builtin.bitNot a) (Builtin.bitNot b);rw [(Zif a).1,(Zif b).1,(Zif a).2,(Zif b).2] at h;rw [(Zif _).1,(Zif _).2,h.1,h.2];exact 6e5
theorem xor2(a b:Int):20e5 / 2=Builtin.bitXor (a / 2) (b / 2)/\20e5 % 2=(a % 2 + b % 2) % 2:=by
 unfold Builtin.bitXor;have h:=Zmv a b;have g:=or2 a b;have q:Builtin.bitAnd a b % 2=0\/Builtin.bitOr a b % 2=1:=by
  rw [h.2,g.2];rcases wj a with e | e <;> rcases wj b with f | f <;> rw [e,f] <;> decide
 have z:=sub2 _ _ q;rw [z.1,z.2,h.1,h.2,g.1,g.2];refine ⟨rfl,?_⟩;rcases wj a with e | e <;> rcases wj b with f | f <;> rw [e,f] <;> rfl
theorem v8(w:Nat)(n:Int):kY (w + 1) n=n % 2::kY w (n / 2):=by
 unfold kY;rw [List.range_succ_eq_map,Qa4,Qcf,Qdr,Qcn];congr 1;refine Qc1 fun i _=>?_;show n / 2 ^ (i + 1) % 2=n / 2 / 2 ^ i % 2;rw [Qdq,Qek,Qf0 (4e0:(0:Int)<=2)]
theorem Zgb(w:Nat)(n:Int):kY w (n % 2 ^ w)=kY w n:=by
 induction w generalizing n with
 | zero=>rfl
 | succ w q =>
  rw [v8,v8,<-q (n / 2)];have e1:n % 2 ^ (w + 1) % 2=n % 2:=by
   rw [Int.emod_emod_of_dvd];exact ⟨2 ^ w,by rw [Qdq,Qek]⟩
  have e2:n % 2 ^ (w + 1) / 2=n / 2 % 2 ^ w:=by
   have hp:(0:Int) < 2 ^ w:=Qe9 (by decide);have h1:=Qd1 n 2;have h2:=Qd1 (n / 2) (2 ^ w);have D:=Qb9 (n / 2) (Qgc hp);have C:=Qbs (n / 2) hp;have e:n % 2 ^ (w + 1)=n % 2 + 2 * (n / 2 % 2 ^ w):=by
    have:n=n % 2 + 2 * (n / 2 % 2 ^ w) + 2 ^ (w + 1) * (n / 2 / 2 ^ w):=by
     rw [Qdq];have:(2:Int) ^ w * 2 * (n / 2 / 2 ^ w)=2 * (2 ^ w * (n / 2 / 2 ^ w)):=by
      rw [Qek ((2:Int) ^ w) 2,Qfe]
     lia
    conv=>lhs;rw [this]
    rw [Qff];refine Qc4 (by lia) ?_;rw [Qdq];lia
   rw [e];lia
  rw [e1,e2]
theorem bits_getD(w:Nat)(n:Int)(i:Nat)(h:i < w):(kY w n).getD i 0=n / 2 ^ i % 2:=by
 unfold kY;rw [Qap,Qaj,Qca h]
 rfl
theorem Zc4{j:Nat}(h:i<=j):(2:Int) ^ i<=2 ^ j:=by
 obtain ⟨d,rfl⟩:∃d,j=i + d:=⟨j - i,by lia⟩;clear h
 induction d with
 | zero=>exact Int.le_refl _
 | succ d q =>
  have:=Qe9 (n:=2) (m:=i + d) (by decide);rw [show i + (d + 1)=i + d + 1 from rfl,Qdq];lia
def bt(x:Int)(k:Nat):Int:=x / 2 ^ k % 2
theorem YF(x:Int)(k:Nat):bt x (k + 1)=bt (x / 2) k:=by
 unfold bt;rw [Qdq,Qek,Qf0 (4e0:(0:Int)<=2)]
theorem Y8(x:Int)(k:Nat):bt x k=0\/bt x k=1:=by
 unfold bt;lia
theorem XG(k:Nat):∀a b:Int,bt (Builtin.bitAnd a b) k=bt a k * bt b k:=by
 induction k with
 | zero =>
  intro a b;unfold bt;rw [Qdr,Qcn,Qcn,Qcn,(Zmv a b).2]
 | succ k q =>
  intro a b;rw [YF,YF,YF,(Zmv a b).1,q]
theorem qK(k:Nat):∀a b:Int,bt (Builtin.bitOr a b) k=1 - (1 - bt a k) * (1 - bt b k):=by
 induction k with
 | zero =>
  intro a b;unfold bt;rw [Qdr,Qcn,Qcn,Qcn,(or2 a b).2]
 | succ k q =>
  intro a b;rw [YF,YF,YF,(or2 a b).1,q]
theorem WT(k:Nat):∀a b:Int,bt (20e5) k=(bt a k + bt b k) % 2:=by
 induction k with
 | zero =>
  intro a b;unfold bt;rw [Qdr,Qcn,Qcn,Qcn,(xor2 a b).2]
 | succ k q =>
  intro a b;rw [YF,YF,YF,(xor2 a b).1,q]
theorem JP(k:Nat):∀a:Int,bt (Builtin.bitNot a) k=1 - bt a k:=by
 induction k with
 | zero =>
  intro a;unfold bt;rw [Qdr,Qcn,Qcn,(Zif a).2]
 | succ k q =>
  intro a;rw [YF,YF,(Zif a).1,q]
theorem Xb(k:Nat):bt 0 k=0:=by
 unfold bt;rw [Int.zero_ediv]
 rfl
theorem Zc5(k:Nat):bt (-1) k=1:=by
 induction k with
 | zero=>rfl
 | succ k q=>rw [YF];exact q
theorem v9(x:Int)(w k:Nat)(h:k < w):bt (x % 2 ^ w) k=bt x k:=by
 have e:=Zgb w x;have h1:=bits_getD w (x % 2 ^ w) k h;have h2:=bits_getD w x k h;rw [e,h2] at h1;exact h1.symm
def lo(x:Int)(k:Nat):Int:=x % 2 ^ k
theorem vA(x:Int)(k:Nat):0<=lo x k/\lo x k < 2 ^ k:=⟨Qb9 _ (Qgc (Qe9 1e4)),Qbs _ (Qe9 1e4)⟩
theorem yi(x:Int)(k:Nat):lo x (k + 1)=lo x k + 2 ^ k * bt x k:=by
 unfold lo bt;have hp:(0:Int) < 2 ^ k:=Qe9 1e4;have e1:=Qd1 x (2 ^ k);have e2:=Qd1 (x / 2 ^ k) 2;have q:=Qb9 x (Qgc hp);have b1:=Qbs x hp;have e3:x=(x % 2 ^ k + 2 ^ k * (x / 2 ^ k % 2)) + 2 ^ (k + 1) * (x / 2 ^ k / 2):=by
  rw [Qdq,Qfe];have C:(2:Int) ^ k * (x / 2 ^ k)=2 ^ k * (x / 2 ^ k % 2) + 2 ^ k * (2 * (x / 2 ^ k / 2)):=by
   rw [<-Qg2,e2]
  lia
 conv=>lhs;rw [e3]
 rw [Qff];have hb:x / 2 ^ k % 2=0\/x / 2 ^ k % 2=1:=by lia
 refine Qc4 ?_ ?_
 ·rcases hb with h | h <;> rw [h] <;> lia
 ·rw [Qdq]
  rcases hb with h | h <;> rw [h] <;> lia
theorem Zkw(x:Int)(k:Nat):x=lo x k + 2 ^ k * (x / 2 ^ k):=(Qd1 x (2 ^ k)).symm
theorem bt_sum{x z:Int}{k:Nat}{c:Int}(hc:c=0\/c=1)(e:lo z k + 2 ^ k * c=lo x k + lo y k)(hz:z=x + y):bt z k=(bt x k + bt y k + c) % 2:=by
 have hp:(0:Int) < 2 ^ k:=Qe9 1e4;have e1:=Zkw x k;have e2:=Zkw y k;have e3:=Zkw z k;have h:(2:Int) ^ k * (z / 2 ^ k)=2 ^ k * (x / 2 ^ k + y / 2 ^ k + c):=by
  rw [Qg2,Qg2];lia
 have h2:=Int.eq_of_mul_eq_mul_left (Qgc hp) h;unfold bt;rw [h2];lia
def cyA(x y:Int)(k:Nat):Int:=(lo x k + lo y k) / 2 ^ k
theorem Zc6(x y:Int)(k:Nat):lo (x + y) k + 2 ^ k * cyA x y k=lo x k + lo y k:=by
 unfold cyA;have e:lo (x + y) k=(lo x k + lo y k) % 2 ^ k:=by
  unfold lo;rw [<-Int.emod_add_emod,<-Int.add_emod_emod]
 rw [e];exact Qd1 _ _
theorem Zc7(x y:Int)(k:Nat):cyA x y k=0\/cyA x y k=1:=by
 have hp:(0:Int) < 2 ^ k:=Qe9 1e4;have a:=vA x k;have b:=vA y k;have C:0<=cyA x y k:=Int.ediv_nonneg 1e2 (Int.le_of_lt hp);have q:cyA x y k < 2:=Int.ediv_lt_of_lt_mul hp 1e2;lia
theorem Zig(x y:Int)(k:Nat):bt (x + y) k=(bt x k + bt y k + cyA x y k) % 2:=bt_sum (Zc7 x y k) (Zc6 x y k) rfl
theorem gO(x y:Int):cyA x y 0=0:=by
 unfold cyA lo;rw [Qdr,Qfq,Qfq]
 rfl
theorem gP(x y:Int)(k:Nat):cyA x y (k + 1)=(bt x k + bt y k + cyA x y k) / 2:=by
 have hp:(0:Int) < 2 ^ k:=Qe9 1e4;have e1:=yi x k;have e2:=yi y k;have e3:=Zc6 x y k;have b:=vA (x + y) k;have e:lo x (k + 1) + lo y (k + 1)=lo (x + y) k + 2 ^ k * (bt x k + bt y k + cyA x y k):=by
  rw [Qg2,Qg2];lia
 unfold cyA;rw [e,Qdq,<-Qf0 (Int.le_of_lt hp),Qgd _ _ (Qgc hp),Qe0 b.1 b.2,Qfr]
 rfl
def brA(x y:Int)(k:Nat):Int:=if lo x k < lo y k then 1 else 0
theorem gQ(x y:Int)(k:Nat):brA x y k=cyA (x - y) y k:=by
 have e:=Zc6 (x - y) y k;rw [Int.sub_add_cancel] at e;have hp:(0:Int) < 2 ^ k:=Qe9 1e4;have b:=vA (x - y) k;unfold brA;rcases Zc7 (x - y) y k with h | h <;> rw [h] at e ⊢
 ·rw [Qau 1e2]
 ·rw [Qaw 1e2]
theorem jz(x y:Int)(k:Nat):brA x y k=0\/brA x y k=1:=by
 unfold brA
 split
 ·exact .inr rfl
 ·exact 6e4
theorem Zc8(x y:Int)(k:Nat):bt (x - y) k=(bt x k + bt y k + brA x y k) % 2:=by
 have h:=Zig (x - y) y k;rw [Int.sub_add_cancel,<-gQ] at h;have a:=Y8 (x - y) k;have b:=Y8 y k;have c:=jz x y k;rw [h];lia
theorem gR(x y:Int):brA x y 0=0:=by
 rw [gQ,gO]
theorem gS(x y:Int)(k:Nat):brA x y (k + 1)=1 - (1 - (1 - bt x k) * bt y k) * (1 - brA x y k * (1 - (bt x k + bt y k) % 2)):=by
 rw [gQ,gP,<-gQ,Zc8];rcases Y8 x k with a | a <;> rcases Y8 y k with b | b <;> rcases jz x y k with c | c <;> rw [a,b,c] <;> rfl
def nzA(x:Int)(k:Nat):Int:=brA 0 x k
theorem Zc9(x:Int)(k:Nat):nzA x k=0\/nzA x k=1:=jz 0 x k
theorem Zgc(x:Int):nzA x 0=0:=gR 0 x
theorem Zgd(x:Int)(k:Nat):nzA x (k + 1)=1 - (1 - bt x k) * (1 - nzA x k):=by
 unfold nzA;rw [gS,Xb];rcases Y8 x k with a | a <;> rcases jz 0 x k with c | c <;> rw [a,c] <;> rfl
theorem Zih(x:Int)(k:Nat):bt (-x) k=(bt x k + nzA x k) % 2:=by
 have h:=Zc8 0 x k;rw [Int.zero_sub,Xb,Qfr] at h;exact h
theorem bt_low(x:Int)(k:Nat):bt (Builtin.bitAnd x (-x)) k=bt x k * (1 - nzA x k):=by
 rw [XG,Zih];rcases Y8 x k with a | a <;> rcases Zc9 x k with c | c <;> rw [a,c] <;> rfl
def tw(x:Int):Nat->Int
 | 0=>0
 | k + 1=>bt x k
theorem tw_01(x:Int):∀k,tw x k=0\/tw x k=1
 | 0=>6e4
 | k + 1=>Y8 x k
theorem Zge(x:Int):∀k,bt (x + x) k=tw x k
 | 0=>by
  unfold bt;rw [Qdr,Qcn];show (x + x) % 2=0;lia
 | k + 1=>by
  rw [YF,show (x + x) / 2=x by lia]
  rfl
def hld(y:Str)(is:1e5)(k:Nat):Int :=
 if y = "twice" then tw 6e3 k else if y = "neg" \/ y = "low" then nzA 6e3 k else if y = "add" then cyA 6e3 9e8 k else brA 6e3 9e8 k
def wm:1e3:=["neg","twice","low","add","sub"]
def once(y:Str)(bs:1e5):Int :=
 if y = "not" then 1 - 6e7 else if y = "and" then 6e7 * 12e1 else if y = "or" then 1 - (1 - 6e7) * (1 - 12e1) else if y = "odd" then (6e7 + 12e1) % 2
 else 1 - (1 - 6e7 * 12e1) * (1 - (1 - 6e7) * bs.getD 2 0)
def ans1(y:Str)(bs:1e5)(h:Int):Int :=
 if y = "twice" then h else if y = "neg" then (6e7 + h) % 2 else if y = "low" then 6e7 * (1 - h) else (6e7 + 12e1 + h) % 2
theorem Xs(is:1e5)(k i:Nat):(19e9).getD i 0=bt (is.getD i 0) k:=by
 rw [Qap,Qap,Qaj];cases is[i]? with
 | none=>exact (Xb k).symm
 | some x=>rfl
theorem Zda:∀y∈wm,y∈Ji/\Yt y=(if y = "add" \/ y = "sub" then 2 else 1):=1e0
theorem j4:∀y∈Ji,y∉wm->(y = "not" /\ Yt y=1)\/(y = "and" /\ Yt y=2)\/(y = "or" /\ Yt y=2)\/(y = "odd" /\ Yt y=2)\/(y = "pick" /\ Yt y=3):=1e0
theorem ans_ok(ρ:4e6){y:Str}(q:y∈wm){is:1e5}(hl:is.length=Yt y)(k:Nat):ans1 y 19e9 (hld y is k)=bt (wwv ρ 2e7 is) k:=by
 rw [(Zda y q).2] at hl;unfold ans1 hld;rw [Xs,Xs];unfold wm at q;simp only [Qan,Qa7,Qc3] at q;rcases q with rfl | rfl | rfl | rfl | rfl
 ·rw [Qau (1e0)] at hl
  match is,hl with
  | [a],_=>exact (Zih a k).symm
 ·rw [Qau (1e0)] at hl
  match is,hl with
  | [a],_=>exact (Zge a k).symm
 ·rw [Qau (1e0)] at hl
  match is,hl with
  | [a],_=>exact (bt_low a k).symm
 ·rw [Qaw (1e0)] at hl
  match is,hl with
  | [a,b],_=>exact (Zig a b k).symm
 ·rw [Qaw (1e0)] at hl
  match is,hl with
  | [a,b],_=>exact (Zc8 a b k).symm
theorem Zkx(ρ:4e6){y:Str}(q:y∈Ji)(hr:y∉wm){is:1e5}(hl:is.length=Yt y)(k:Nat):once y 19e9=bt (wwv ρ 2e7 is) k:=by
 unfold once;rw [Xs,Xs,Xs];rcases j4 y q hr with ⟨rfl,e⟩ | ⟨rfl,e⟩ | ⟨rfl,e⟩ | ⟨rfl,e⟩ | ⟨rfl,e⟩ <;> rw [e] at hl
 ·match is,hl with
  | [a],_=>exact (JP k a).symm
 ·match is,hl with
  | [a,b],_=>exact (XG k a b).symm
 ·match is,hl with
  | [a,b],_=>exact (qK k a b).symm
 ·match is,hl with
  | [a,b],_=>exact (WT k a b).symm
 ·match is,hl with
  | [a,b,c],_ =>
   show 1 - (1 - bt a k * bt b k) * (1 - (1 - bt a k) * bt c k)=bt (Builtin.bitOr (Builtin.bitAnd a b) (Builtin.bitAnd (Builtin.bitNot a) c)) k;rw [qK,XG,XG,JP]
def yj:List V->Nat
 | []=>0
 | w::r=>yj r - npw w + 1
def XU:List V->Prop
 | []=>True
 | w::r=>npw w<=yj r/\XU r
def wo(ys:1e3)(B:Nat)(w:V):Prop:=(∃y,w=.str y/\y∈Ji/\y∉ys/\npw w=Yt y)\/(∃y,w=.str y/\y∈ys/\y∉wm/\npw w=0)\/∃z:Int,w=.int z/\0<=z/\z < 2 ^ B/\npw w=0
theorem Zii{z:Int}{B k:Nat}(q:0<=z)(h:z < 2 ^ B)(hk:B<=k):bt z k=0:=by
 have hp:(2:Int) ^ B<=2 ^ k:=Zc4 hk;unfold bt;rw [Qe0 q 1e2]
 rfl
def Zmw(a b h:Int):Int:=Builtin.bitOr (Builtin.bitAnd (Builtin.bitNot a) b) (Builtin.bitAnd h (Builtin.bitNot (20e5)))
def allR:1e3:=34e2
def Zky:1e3:=["add","sub","same","under","beneath"]
def ktI(y:Str)(is:1e5)(h:Int):Int :=
 if y = "twice" then is.getD 0 0 else if 25e9 then Builtin.bitOr 6e3 h else if y = "same" then Builtin.bitOr (Builtin.bitXor 6e3 9e8) h
 else if y = "add" then Builtin.bitOr (Builtin.bitAnd 6e3 9e8) (Builtin.bitAnd h (Builtin.bitOr 6e3 9e8)) else Zmw 6e3 9e8 h
def okI(y:Str)(is:1e5)(h n:Int):Int :=
 if y = "add" \/ y = "sub" then Builtin.bitXor (Builtin.bitXor 6e3 9e8) h else if y = "neg" then Builtin.bitXor 6e3 h else if y = "twice" then h else if y = "low" then Builtin.bitAnd 6e3 (Builtin.bitNot h)
 else if y = "same" \/ y = "nought" then Builtin.bitNot n else if y = "under" then n else Zmw 9e8 6e3 h
def oaI(y:Str)(is:1e5):Int :=
 if y = "yes" then -1 else if y = "sign" then is.getD 0 0 else if y = "not" \/ y = "never" then Builtin.bitNot 6e3 else if y = "and" \/ y = "both" then Builtin.bitAnd 6e3 9e8 else if y = "or" \/ y = "either" then Builtin.bitOr 6e3 9e8
 else if y = "odd" then Builtin.bitXor 6e3 9e8 else if y = "so" then Builtin.bitOr (Builtin.bitNot 6e3) 9e8 else Builtin.bitOr (Builtin.bitAnd 6e3 9e8) (Builtin.bitAnd (Builtin.bitNot 6e3) (is.getD 2 0))
def Zdb (y:Str):Nat:=if y = "yes" then 0 else if y = "sign" \/ y = "not" \/ y = "never" then 1 else if y = "pick" then 3 else 2
theorem Zdc:∀y∈allR,¬y = "twice" -> ¬(25e9)->y∈Zky:=1e0
def Zdd:1e3:=["not","and","or","odd","pick","both","either","so","never","yes","sign"]
theorem uV:∀y∈Zdd,¬y = "yes" -> ¬y = "sign" -> ¬(y = "not" \/ y = "never")->¬(y = "and" \/ y = "both")->¬(y = "or" \/ y = "either")->¬y = "odd" -> ¬y = "so" -> 3<=Zdb y:=1e0
theorem zi{m:Nat}{is:1e5}(h:is.length=m)(h2:n<=m):n<=is.length:=by rw [h];exact h2
theorem and_zero(x:Int):Builtin.bitAnd x 0=0:=by
 rcases yh x with ⟨m,rfl⟩ | ⟨m,rfl⟩
 ·rw [show (0:Int)=((0:Nat):Int) from rfl,Zku,Nat.and_zero]
 ·rw [show (0:Int)=((0:Nat):Int) from rfl,Zkv,Nat.zero_and]
  rfl
theorem and_1(x:Int):Builtin.bitAnd x 1=x % 2:=by
 obtain ⟨h1,h2⟩:=Zmv x 1;rw [show (1:Int) / 2=0 from rfl,and_zero] at h1;rw [show (1:Int) % 2=1 from rfl,Int.mul_one] at h2;lia
def XW(ys:1e3)(cols:4e6)(pl:Nat)(kp:1e5):List V->1e5 × 1e5
 | []=>([],[])
 | w::r =>
  let p:=9e6
  match w with
  | .str y =>
   if y∈allR then (okI y (p.1.take (npw w)) (-(kp.getD p.2.length 0)) (ktI y (p.1.take (npw w)) (-(kp.getD p.2.length 0)))::p.1.drop (npw w),p.2++[ktI y (p.1.take (npw w)) (-(kp.getD p.2.length 0))])
   else if y∈ys then (cols y::p.1.drop (npw w),p.2)
   else (oaI y (p.1.take (npw w))::p.1.drop (npw w),p.2)
  | .int z=>(-(bt z pl)::p.1.drop (npw w),p.2)
  | _=>p
def Zkz(kvs:4e4)(ys:1e3)(cols:4e6):Prop:=(∀y∈ys,Yg kvs (.inr y)=some (.int (cols y)))/\∀y,y∉ys->Yg kvs (.inr y)=none
def yk(ys:1e3)(w:V):Prop:=(∃y,w=.str y/\y∈allR/\y∉ys/\1<=npw w/\(y∈Zky->2<=npw w))\/(∃y,w=.str y/\y∈Zdd/\y∉allR/\y∉ys/\npw w=Zdb y)\/(∃y,w=.str y/\y∈ys/\y∉allR/\npw w=0)\/∃z:Int,w=.int z/\0<=z/\npw w=0
theorem yl{ys:1e3}{cols:4e6}{pl:Nat}{kp:1e5}:∀C:List V,(∀w∈C,yk ys w)->(XW ys cols pl kp C).1.length=yj C
 | [],_=>rfl
 | w::r,hw=>by
  have D:=yl (ys:=ys) (cols:=cols) (pl:=pl) (kp:=kp) r fun w h=>hw w (Qal _ h);have q:∀x:Int,(x::(9e6).1.drop (npw w)).length=yj r - npw w + 1:=fun x=>by rw [Qb3,Qco,D]
  rcases hw w Qar with ⟨y,rfl,h1,_⟩ | ⟨y,rfl,h1,h2,G,_⟩ | ⟨y,rfl,h1,h2,_⟩ | ⟨z,rfl,_⟩
  ·show (if y∈allR then _ else _:1e5 × 1e5).1.length=_
   rw [Qaw h1];exact q _
  ·show (20e8:1e5 × 1e5).1.length=_
   rw [Qau h2,Qau G];exact q _
  ·show (20e8:1e5 × 1e5).1.length=_
   rw [Qau h2,Qaw h1];exact q _
  ·exact q _
theorem vC(ys:1e3)(cols:4e6)(pl:Nat)(kp:1e5)(w:V)(r:List V):(9e6).2.length<=(XW ys cols pl kp (w::r)).2.length:=by
 cases w with
 | str y =>
  show _<=(if y∈allR then _ else if y∈ys then _ else _:List Int × List Int).2.length
  split
  ·rw [Qae]
   exact Qfk _ _
  ·split <;> exact Qai _
 | _=>exact Qai _
theorem vD(ys:1e3)(cols:4e6)(pl:Nat)(kp:1e5):∀(q:List V) (j:Nat),(XW ys cols pl kp (q.drop j)).2.length<=(XW ys cols pl kp q).2.length
 | [],j=>by rw [List.drop_nil];exact Qai _
 | w::r,0=>Qai _
 | w::r,j + 1=>Qbd (vD ys cols pl kp r j) (vC ys cols pl kp w r)
theorem zj:∀(q:List V) (j:Nat),XU q->XU (q.drop j)
 | [],j,_=>by rw [List.drop_nil];exact trivial
 | w::r,0,h=>h
 | w::r,j + 1,h=>zj r j h.2
theorem Zde:∀q:List V,yj q<=q.length
 | []=>Qai _
 | w::r=>by
  have:=Zde r;show yj r - npw w + 1<=r.length + 1;lia
theorem ym(z:Int)(ys:1e3):inV (.int z) (12e9)=false:=by
 cases q:inV (.int z) (ys.map V.str) with
 | false=>rfl
 | true =>
  obtain ⟨x,hx,e⟩:=Qei.mp q;obtain ⟨y,_,rfl⟩:=Qay.mp hx;cases e
theorem gT(ys:1e3)(cols:4e6)(pl:Nat)(kp:1e5):∀C:List V,(XW ys cols pl kp C).2.length<=C.length
 | []=>Qai _
 | w::r=>by
  have q:=gT ys cols pl kp r;cases w with
  | str y =>
   show (if y∈allR then _ else if y∈ys then _ else _:List Int × List Int).2.length<=r.length + 1
   split
   ·rw [Qae]
    exact Nat.add_le_add_right q 1
   ·split <;> exact Nat.le_succ_of_le q
  | _=>exact Nat.le_succ_of_le q
theorem wq{x:Int}(h:x=0\/x=1)(l:Nat):bt (-x) l=x:=by
 rcases h with rfl | rfl
 ·exact Xb l
 ·exact Zc5 l
theorem wt:∀y∈Ji,(y∈allR↔y∈wm):=1e0
def hor(ms:1e5):Int:=ms.foldl (fun a b=>a * 2 + b) 0
theorem yn(ms:1e5)(b:Int):hor (ms++[b])=hor ms * 2 + b:=by
 unfold hor;rw [Qdf]
 rfl
theorem Zgf{ms:1e5}{b:Int}(h:ms[i]?=some b):hor (ms.take (i + 1))=hor (ms.take i) * 2 + b:=by
 rw [Qhi,h];exact yn _ b
def sm(b:Nat->Int):Nat->Int
 | 0=>0
 | n + 1=>sm b n + b n * 2 ^ n
theorem xC{b c:Nat->Int}:∀{n:Nat},(∀i,i < n->b i=c i)->sm b n=sm c n
 | 0,_=>rfl
 | n + 1,h=>by
  show sm b n + b n * 2 ^ n=sm c n + c n * 2 ^ n;rw [xC (n:=n) fun i hi=>h i (Qct hi),h n (Qcq n)]
theorem xD{b:Nat->Int}(hb:∀i,b i=0\/b i=1):∀n,0<=sm b n/\sm b n < 2 ^ n
 | 0=>⟨Int.le_refl _,(show (0:Int) < 2 ^ 0 by decide)⟩
 | n + 1=>by
  have q:=xD hb n;have e:sm b (n + 1)=sm b n + b n * 2 ^ n:=rfl;rw [e,pow_succ'];have hp:=YO n;rcases hb n with z | z <;> rw [z] <;> constructor <;> lia
theorem Zdf{b:Nat->Int}(hb:∀i,b i=0\/b i=1)(p:Nat):∀n,p < n->sm b n / 2 ^ p % 2=b p
 | 0,h=>absurd h (Qeg _)
 | n + 1,h=>by
  have e:sm b (n + 1)=sm b n + b n * 2 ^ n:=rfl;have hp:=YO p;rw [e]
  by_cases q:p < n
  ·obtain ⟨k,rfl⟩:∃k,n=p + (k + 1):=⟨n - p - 1,by lia⟩
   have e2:b (p + (k + 1)) * 2 ^ (p + (k + 1))=2 ^ p * (2 ^ k * b (p + (k + 1)) * 2):=by
    rw [Int.pow_add,pow_succ',Qek (b _),Qfe,Qfe,Qfe,Qek 2 (b _)]
   rw [e2,Qgd _ _ 1e2];have D:=Zdf hb p (p + (k + 1)) q;generalize 2 ^ k * b (p + (k + 1))=z;lia
  ·have e3:p=n:=by lia
   subst e3;obtain ⟨C,h1⟩:=xD hb p;rw [Qek,Qgd _ _ 1e2,Qe0 C h1];rcases hb p with z | z <;> rw [z] <;> rfl
theorem Zgg(l:1e5):∀a:Int,l.foldl (fun a b=>a * 2 + b) a=a * 2 ^ l.length + hor l:=by
 induction l with
 | nil=>intro a;show a=a * 2 ^ 0 + 0;lia
 | cons b l q =>
  intro a;show l.foldl (fun a b=>a * 2 + b) (a * 2 + b)=a * 2 ^ (l.length + 1) + l.foldl (fun a b=>a * 2 + b) (0 * 2 + b);rw [q,q (0 * 2 + b),pow_succ',Qg9,Qfr,Int.add_mul];have:a * 2 * 2 ^ l.length=a * (2 ^ l.length * 2):=by rw [Qfe,Qek 2]
  lia
theorem Zij(b:Nat->Int):∀n,hor ((List.range n).map b).reverse=sm b n
 | 0=>rfl
 | n + 1=>by
  rw [Qec,Qbc,List.reverse_append];show ((List.range n).map b).reverse.foldl (fun a b=>a * 2 + b) (0 * 2 + b n)=sm b n + b n * 2 ^ n;rw [Zgg,Zij b n,Qdu,Qac,Qax,Qg9,Qfr];lia
theorem Zgh(r:Int)(w:Nat):r / 2 ^ w % 2 * 2 ^ w + r % 2 ^ w=r % 2 ^ (w + 1):=by
 rw [pow_succ'];have hp:=YO w;generalize (2:Int) ^ w=p at *;have D:0<=r % p:=Qb9 _ 1e2;have h1:r % p < p:=Qbs _ hp;have e1:r=p * (r / p) + r % p:=(Int.mul_ediv_add_emod r p).symm;generalize r / p=q at *;generalize r % p=t at *;have e2:q=2 * (q / 2) + q % 2:=by lia
 have h2:0<=q % 2:=by lia
 have C:q % 2<=1:=by lia
 generalize q / 2=u at *;generalize q % 2=b at *;subst e2;have hb:b=0\/b=1:=by lia
 have e3:r=b * p + t + p * 2 * u:=by
  rw [e1,Qg2,<-Qfe,Qek b p];lia
 rw [e3,Qff];rcases hb with rfl | rfl
 ·rw [Qc4 1e2 1e2]
 ·rw [Qc4 1e2 1e2]
theorem Zdg(r:Int):∀w,sm (fun k=>r / 2 ^ k % 2) w=r % 2 ^ w
 | 0=>by
  rw [Qdr,Qfq]
  rfl
 | w + 1=>by
  show sm (fun k=>r / 2 ^ k % 2) w + r / 2 ^ w % 2 * 2 ^ w=_;rw [Zdg r w];have:=Zgh r w;lia
theorem Zk0{x:Int}(h:0<=x):Builtin.bitAnd x 1=x % 2:=by
 rw [PyProof.Rows.bitAnd_pp h 1e4];show ((x.toNat &&& 1:Nat):Int)=x % 2;rw [Nat.and_one_is_mod];lia
theorem div_nn{r:Int}(h:0<=r)(k:Nat):0<=r / 2 ^ k:=Int.ediv_nonneg h (Int.le_of_lt (YO k))
open Classical in
def keysOf(ys:1e3):List Key:=ys.foldl (fun ks y=>if (Sum.inr y:Key)∈ks then ks else ks++[Sum.inr y]) []
open Classical in
theorem G2(ys:1e3)(y:Str):keysOf (ys++[y])=if (Sum.inr y:Key)∈keysOf ys then keysOf ys else keysOf ys++[Sum.inr y]:=by
 unfold keysOf;rw [Qdf]
 rfl
theorem snoc_ind{P:List m->Prop}(C:P [])(hs:∀l a,P l->P (l++[a])):∀l,P l:=by
 intro l;rw [<-List.reverse_reverse l]
 induction l.reverse with
 | nil=>exact C
 | cons a r q =>
  rw [Qdt];exact hs _ _ q
theorem wu{kvs:4e4}{k:Key}:(kvs.any fun q=>decide (q.1=k))=true↔k∈kvs.map (·.1):=by
 rw [Qei,Qay]
 constructor
 ·rintro ⟨p,hp,e⟩
  exact ⟨p,hp,Qa1 e⟩
 ·rintro ⟨p,hp,e⟩
  exact ⟨p,hp,Qah e⟩
theorem Zgi{kvs:4e4}{ys:1e3}(h:kvs.map (·.1)=keysOf ys)(y:Str)(v:V):(putK kvs (.inr y) v).map (·.1)=keysOf (ys++[y]):=by
 rw [G2,<-h];unfold putK
 by_cases hm:(Sum.inr y:Key)∈kvs.map (·.1)
 ·rw [Qaw (wu.mpr hm),Qaw hm,Qcf]
  apply Qc1;intro p _;show (if p.1=Sum.inr y then (p.1,v) else p).1=p.1
  split <;> rfl
 ·rw [Qau (fun z=>hm (wu.mp z)),Qau hm,Qbc]
  rfl
structure Tab(kvs:4e4)(ys:1e3)(f:4e6):Prop where
 keys:kvs.map (·.1)=keysOf ys
 val:∀y∈ys,Yg kvs (.inr y)=some (.int (f y))
 all:∀p∈kvs,∃y∈ys,p=(.inr y,.int (f y))
theorem Zk1{kvs:4e4}{k:Key}{v:V}{P:Key × V->Prop}(h:∀p∈kvs,p.1≠k->P p)(hn:P (k,v)):∀p∈putK kvs k v,P p:=by
 intro p hp;unfold putK at hp
 split at hp
 ·obtain ⟨q,D,rfl⟩:=Qay.mp hp
  split
  ·rename_i e
   rw [e];exact hn
  ·rename_i e
   exact h q D e
 ·rcases Qaz.mp hp with z | z
  ·rename_i C
   exact h p z fun e=>C (wu.mpr (by rw [<-e];exact Qby z))
  ·rw [Qak.mp z]
   exact hn
theorem Tab.put{kvs:4e4}{ys:1e3}{f:4e6}(T:Tab kvs ys f)(y:Str)(z:Int):Tab (putK kvs (.inr y) (.int z)) (ys++[y]) (fun x=>if x=y then z else f x):=by
 refine ⟨Zgi T.keys y _,fun x hx=>?_,Zk1 (fun p hp q=>?_) ⟨y,Qba _ (13e3),by rw [Qaw rfl]⟩⟩
 ·rw [jO]
  by_cases e:x=y
  ·rw [Qaw (by rw [e]),Qaw e]
  ·have e2:¬(Sum.inr x:Key)=Sum.inr y:=fun z=>e (Sum.inr.inj z)
   rw [Qau e2,Qau e];rcases Qaz.mp hx with h | h
   ·exact T.val x h
   ·exact absurd (Qak.mp h) e
 ·obtain ⟨x,hx,rfl⟩:=T.all p hp
  have e:¬x=y:=fun z=>q (by rw [z]);exact ⟨x,Qcd _ hx,by rw [Qau e]⟩
theorem Tab.same{kvs:4e4}{ys:1e3}{f g:4e6}(T:Tab kvs ys f)(h:∀y∈ys,f y=g y):Tab kvs ys g :=
 ⟨T.keys,fun y q=>by rw [<-h y q];exact T.val y q,fun p hp=>let ⟨y,q,e⟩:=T.all p hp;⟨y,q,by rw [<-h y q];exact e⟩⟩
theorem Tab.nil{f:4e6}:Tab [] [] f:=⟨rfl,(fun _ h=>9e1),(fun _ h=>9e1)⟩
theorem uW:∀(ys:1e3),(keysOf ys).length<=ys.length:=by
 refine snoc_ind (Qai _) fun ys y q=>?_
 ·rw [G2,Qae]
  split
  ·lia
  ·rw [Qae]
   show _ + 1<=_ + 1;lia
theorem Tab.few{a:4e4}{ys:1e3}{f:4e6}(T:Tab a ys f):a.length<=ys.length:=by
 have h1:(a.map (·.1)).length=(keysOf ys).length:=by rw [T.keys]
 rw [Qac] at h1;have:=uW ys;lia
theorem zk{ys:1e3}{x:V}(h:(12e9)[i]?=some x):∃y:Str,x=V.str y/\15e2:=by
 rw [Qaj] at h;cases e:ys[i]? with
 | none=>rw [e] at h;cases h
 | some b=>rw [e] at h;exact ⟨b,(Option.some.inj h).symm,rfl⟩
theorem yo :PySem.W.kitOne K (15e3) (15e3)=some true:=by rfl
structure Zik(H:Hp)(p:Addr)(S L:Nat)(f:Nat->Nat->V):Prop where
 ex:∃as:List V,H p=some (.tup as)/\∀s,s < S->∃(a:Addr) (xs:List V),as[s]?=some 3e1/\H a=2e2/\∀l,l < L->xs[l]?=some (f s l)
structure Zil(H:Hp)(m:Addr)(S L:Nat)(nv:V)(b:Nat)(nx:6e0)(ot:Nat->Nat->V):Prop where
 ex:∃ps po,H m=some (.tup [nv,.int (b:Int),.ref ps,.ref po])/\Zik H ps S L (fun s l=>.int (nx s l:Int))/\Zik H po S L ot
 b:b < S
 nx:∀s l,s < S->l < L->nx s l < S
abbrev YU(l:Nat):V:=.int (l:Int)
def wk(nx:6e0)(ot:Nat->Nat->V):Nat->1e1->List V
 | _,[]=>[]
 | s,l::r=>ot s l::wk nx ot (nx s l) r
def Ze6(nx:6e0):Nat->1e1->Nat
 | s,[]=>s
 | s,l::r=>Ze6 nx (nx s l) r
theorem Zdh{nx:6e0}{ot:Nat->Nat->V}:∀(xs ys:1e1) (s:Nat),wk nx ot s (xs++ys)=wk nx ot s xs++wk nx ot (Ze6 nx s xs) ys
 | [],_,_=>rfl
 | l::r,ys,s=>by
  show ot s l::wk nx ot (nx s l) (r++ys)=ot s l::(wk nx ot (nx s l) r++wk nx ot (Ze6 nx (nx s l) r) ys);rw [Zdh r ys]
theorem gU{nx:6e0}:∀(xs ys:1e1) (s:Nat),Ze6 nx s (xs++ys)=Ze6 nx (Ze6 nx s xs) ys
 | [],_,_=>rfl
 | l::r,ys,s=>gU r ys (nx s l)
theorem Zdi{nx:6e0}{S L:Nat}(hn:∀s l,s < S->l < L->nx s l < S):∀(xs:1e1) (s:Nat),s < S->(∀l∈xs,l < L)->Ze6 nx s xs < S
 | [],_,h,_=>h
 | l::r,s,h,hl=>Zdi hn r (nx s l) (hn s l h (hl l Qar)) fun x hx=>hl x (Qal _ hx)
theorem Zim{nx:6e0}{ot:Nat->Nat->V}:∀(xs:1e1) (s:Nat),(wk nx ot s xs).length=xs.length
 | [],_=>rfl
 | l::r,s=>by
  show (wk nx ot (nx s l) r).length + 1=r.length + 1;rw [Zim r]
theorem Zdj{ls:1e1}{x:V}(h:(ls.map YU)[i]?=some x):∃l:Nat,x=V.int (l:Int)/\ls[i]?=some l:=by
 rw [Qaj] at h;cases e:ls[i]? with
 | none=>rw [e] at h;cases h
 | some b=>rw [e] at h;exact ⟨b,(Option.some.inj h).symm,rfl⟩
def XH(q:Bool)(v:V):Prop:=(q=true/\∃x,v=.bl x)\/(q=false/\∃x,v=.int x)
def zl(H:Hp)(p:Addr)(rs:5e8):Prop:=∃as:List V,H p=some (.tup as)/\as.length=rs.length/\∀(i:Nat) (r:List V),rs[i]?=some r->∃a,as[i]?=some (V.ref a)/\H a=some (.tup r)
theorem zl.same{H':Hp}{p:Addr}{rs:5e8}(R:zl H p rs)(e:ZC H H'):zl H' p rs:=by
 obtain ⟨as,h1,h2,C⟩:=R;refine ⟨as,e _ _ h1,h2,fun i r hi=>?_⟩;obtain ⟨a,q,D⟩:=C i r hi;exact ⟨a,q,e _ _ D⟩
def zP(r:1e1):List V:=r.map YU
structure M4(H:Hp)(m:Addr)(nm:1e3)(b:Nat)(nx:2e4)(ot:5e8):Prop where
 ex:∃pn ps po,H m=some (.tup [.ref pn,.int (b:Int),.ref ps,.ref po])/\H pn=some (.tup (nm.map V.str))/\zl H ps (nx.map zP)/\zl H po ot
theorem M4.same{H H':Hp}{m:Addr}{nm:1e3}{b:Nat}{nx:2e4}{ot:5e8}(M:M4 H m nm b nx ot)(e:ZC H H'):M4 H' m nm b nx ot:=by
 obtain ⟨pn,ps,D,h1,h2,C,q⟩:=M.ex;exact ⟨⟨pn,ps,D,e _ _ h1,e _ _ h2,C.same e,q.same e⟩⟩
theorem yesT{A B:1e8}(h:A H):Zam f H fun b H2=>if b=true then A H2 else B H2:=by
 show if true=true then A H else B H;exact Jh h
theorem Zin{β:Type}{xs:List m}{ys:List β}{x:m}{y:β}(hx:10e7)(q:15e2):12e3[i]?=some (x,y):=Qdc.mpr ⟨hx,q⟩
theorem p8(h:n<=3):2 ^ n<=8:=Qdn 1e4 h
def Prs(H:Hp)(ps:List (Int × Int))(zs:List V):Prop:=zs.length=ps.length/\∀(i:Nat) (p:Int × Int),ps[i]?=some p->∃a,zs[i]?=some (V.ref a)/\H a=some (.tup [.int p.1,.int p.2])
def Zao(C D:1e1):List (Int × Int):=(C.zip D).map fun q=>((q.1:Int),(q.2:Int))
theorem Zgj(C q:1e1):(Zao C q).length=((zP C).zip (zP q)).length:=by
 unfold Zao zP;rw [Qac,Qcp,Qcp,Qac,Qac]
theorem wx{C:1e1}(h:Xi H ((zP S).zip (zP C)) v):Prs H (Zao S C) v:=by
 have key:∀{ps:List (V × V)} {v:List V},Xi H ps v->∀(i:Nat) (p:V × V),ps[i]?=some p->∃a,v[i]?=some (V.ref a)/\H a=some (.tup [p.1,p.2]):=by
  intro ps v t;unfold Xi at t
  induction t with
  | nil=>intro i p hp;simp at hp
  | @cons a b as bs e t D =>
   intro i p hp;cases i with
   | zero =>
    simp only [List.getElem?_cons_zero,Option.some.injEq] at hp ⊢;subst hp;exact e
   | succ j =>
    simp only [List.getElem?_cons_succ] at hp ⊢;exact D j p hp
 refine ⟨by rw [Zgj,Xi.len h],fun i p hp=>?_⟩;unfold Zao at hp;rw [Qaj] at hp;obtain ⟨q,I,rfl⟩:=Qcb.mp hp;refine key h i (YU q.1,YU q.2) ?_;obtain ⟨G,J⟩:=Qdc.mp I;unfold zP;exact Qdc.mpr ⟨by rw [Qaj,G];rfl,by rw [Qaj,J];rfl⟩
theorem vE{rs:List (List m)}(h:i < rs.length):rs[i]?=some (rs.getD i []):=by
 rw [Qap,Qag h]
 rfl
theorem Jr{p:Addr}{rs:5e8}(R:zl H p rs)(h:i < rs.length):∃as a,H p=some (HO.tup as)/\atI as (i:Int)=some (V.ref a)/\H a=some (.tup (rs.getD i [])):=by
 obtain ⟨as,h1,h2,C⟩:=R;obtain ⟨a,q,D⟩:=C i _ (vE h);exact ⟨as,a,h1,Yk q,D⟩
theorem GW(nx:2e4)(i:Nat):(nx.map zP).getD i []=zP (nx.getD i []):=by
 rw [Qap,Qap,Qaj];cases nx[i]? <;> rfl
theorem getD_mem{rs:List (List m)}(h:i < rs.length):rs.getD i []∈rs:=Qam (vE h)
theorem xE{f:Nat->m}(h:i < n):((List.range n).map f)[i]?=some (f i):=by
 rw [Qaj,Qca h]
 rfl
def Js(H:Hp)(zs:List V)(rs:5e8):Prop:=zs.length=rs.length/\∀(i:Nat) (r:List V),rs[i]?=some r->∃a,zs[i]?=some (V.ref a)/\H a=some (.tup r)
theorem Js.snoc{rs:5e8}{r:List V}(z:Js H v rs)(h:H a=some (.tup r)):Js H (v++[.ref a]) (rs++[r]):=by
 refine ⟨by rw [Qae,Qae,z.1];rfl,fun i q C=>?_⟩
 by_cases e:i < rs.length
 ·rw [Qa9 e] at C
  rw [Qa9 (by rw [z.1];exact e)];exact z.2 i q C
 ·rw [Qa2 1e2] at C
  have D:i - rs.length=0:=by
   have:=(Qaf.mp C).1;simp only [Qb3,Qee] at this;lia
  rw [D] at C;cases C;refine ⟨a,?_,h⟩;rw [Qa2 (by rw [z.1];lia),z.1,D]
  rfl
theorem Js.nil{H:Hp}:Js H [] []:=⟨rfl,fun i r hr=>by cases hr⟩
def nk(l:1e5):4e4:=W8 (l.map (Sum.inl:Int->Key))
theorem Zdk{l:1e5}(h:l.Nodup):(l.map (Sum.inl:Int->Key)).Nodup:=by
 unfold List.Nodup;rw [Qhg];exact List.Pairwise.imp (fun q e=>q (Sum.inl.inj e)) h
theorem wy{l:1e5}{s:Int}:(Sum.inl s:Key)∈l.map Sum.inl↔s∈l:=by
 constructor
 ·intro h
  obtain ⟨x,hx,e⟩:=Qay.mp h;rw [<-Sum.inl.inj e];exact hx
 ·exact fun h=>Qby h
theorem Zdl{l:1e5}{s:Int}(h:s∈l)(hn:l.Nodup):Yg (nk l) (.inl s)=some (.int (l.idxOf s:Int)):=by
 have:=za (l.map (Sum.inl:Int->Key)) (.inl s) (wy.mpr h) (Zdk hn);have e:=idx_map (β:=Key) Sum.inl (fun _ _=>Sum.inl.inj) s l;rw [e] at this;exact this
theorem Zk2{l:1e5}{s:Int}(h:s∉l):Yg (nk l) (.inl s)=none:=jw _ _ fun z=>h (wy.mp z)
theorem nk_len(l:1e5):(nk l).length=l.length:=by
 unfold nk;rw [vx,Qac]
theorem nk_put{l:1e5}{s:Int}(h:s∉l):putK (nk l) (.inl s) (.int (l.length:Int))=nk (l++[s]):=by
 unfold nk;rw [Qbc];show _=W8 (l.map Sum.inl++[Sum.inl s]);rw [jv,Qac];unfold putK;rw [Qau fun z=>?_];rw [Qei] at z;obtain ⟨p,hp,e⟩:=z;have:p.1∈(W8 (l.map (Sum.inl:Int->Key))).map (·.1):=Qby hp;rw [qC,Qa1 e] at this;exact h (wy.mp this)
def Zmx(nx:2e4)(l:1e1)(i:Nat):1e1:=(nx.getD (l.getD i 0) []).foldl Y0 l
def Zmy(nx:2e4)(b:Nat):Nat->1e1
 | 0=>[b]
 | i + 1=>Zmx nx (Zmy nx b i) i
theorem j5(r:1e1):∀l:1e1,l.Nodup->(r.foldl Y0 l).Nodup:=by
 induction r with
 | nil=>exact fun l h=>h
 | cons k r q=>exact fun l h=>q _ (JC h k)
theorem xF(r:1e1){x:Nat}:∀l:1e1,x∈r.foldl Y0 l↔x∈l\/x∈r:=by
 induction r with
 | nil=>intro l;simp
 | cons k r q =>
  intro l;rw [Qdy,q,xB,Qan,or_assoc]
theorem map_range{β:Type}(l:List m)(i:Nat)(hl:l.length=i)(f:m->β)(g:Nat->β)(h:∀j a,l[j]?=some a->g j=f a):(List.range i).map g=l.map f:=by
 refine Qea fun j=>?_;rw [Qaj,Qaj]
 by_cases q:j < i
 ·rw [Qca q,Qag 1e2]
  exact congrArg some (h j _ (Qag 1e2))
 ·rw [Qcg (by rw [Qax];lia),Qcg 1e2]
  rfl
theorem j6{H':Hp}{rs:5e8}(h:13e4)(z:Js H v rs):Js H' v rs:=⟨z.1,fun i r hr=>by
 obtain ⟨a,h1,h2⟩:=z.2 i r hr;exact ⟨a,h1,h _ _ h2⟩⟩
inductive SK(κ:Type)[19e5] where
 | int (f:κ->Int) (inj:∀a b,f a=f b->a=b)
 | key (kn:KN κ)
theorem Xj(h:n<=10000000):n < sizeLine:=Qfv h 1e4
section
variable {κ:Type}[19e5]
def SK.at_:SK κ->Hp->κ->V->Prop
 | .int f _,_,k,v=>v=.int (f k)
 | .key kn,H,k,v=>∃a,v=.ref a/\kn.at_ H k a
def SK.dic:SK κ->Hp->Addr->List κ->Prop
 | .int f _,H,d,l=>H d=some (.dK (nk (l.map f)))
 | .key kn,H,d,l=>kh kn H d (W8 l)
theorem SK.keep{sk:SK κ}{H H':Hp}{k:κ}{v:V}(h:sk.at_ H k v)(e:13e4):sk.at_ H' k v:=by
 cases sk with
 | int f _=>exact h
 | key kn =>
  obtain ⟨a,rfl,ha⟩:=h;exact ⟨a,rfl,kn.keep _ _ _ _ e ha⟩
theorem Zdm{kn:KN κ}{d:Addr}{kvs:9e7}(n:kh kn H d kvs):∃o,H d=some o/\(∀xs,o≠.tup xs)/\∀xs,o≠.lst xs:=by
 rcases n.2.2 with ⟨_,e⟩ | ⟨ys,e,_⟩
 ·exact ⟨_,e,(7e8),7e8⟩
 ·exact ⟨_,e,(7e8),7e8⟩
theorem SK.ne{sk:SK κ}{d:Addr}{l:List κ}(h:sk.dic H d l):∃o,H d=some o/\(∀xs,o≠.tup xs)/\∀xs,o≠.lst xs:=by
 cases sk with
 | int f _=>exact ⟨_,h,(fun _ z=>nomatch z),fun _ z=>nomatch z⟩
 | key kn=>exact Zdm h
theorem Zgk{kn:KN κ}{H':Hp}{d:Addr}{kvs:9e7}(n:kh kn H d kvs)(hd:∀o,H d=some o->H' d=some o)(e:13e4):kh kn H' d kvs:=by
 obtain ⟨D,C,G⟩:=n;refine ⟨D,C,?_⟩;rcases G with ⟨e1,e2⟩ | ⟨ys,e1,e2⟩
 ·exact .inl ⟨e1,hd _ e2⟩
 ·exact .inr ⟨ys,hd _ e1,Paired.mapP e2 fun p q h=>⟨h.1,kn.keep _ _ _ _ e h.2.1,h.2.2⟩⟩
theorem SK.stay{sk:SK κ}{H':Hp}{d:Addr}{l:List κ}(h:sk.dic H d l)(hd:∀o,H d=some o->H' d=some o)(e:13e4):sk.dic H' d l:=by
 cases sk with
 | int f _=>exact hd _ h
 | key kn=>exact Zgk h hd e
theorem SK.off{sk:SK κ}{d f:Addr}{l:List κ}{xs:List V}{o:HO}(h:sk.dic H d l)(e:H f=16e5):sk.dic (upd H f o) d l:=by
 obtain ⟨u,hu,_,hl⟩:=SK.ne h;have C:d≠f:=fun z=>by
  rw [z,e] at hu;cases hu;exact hl xs rfl
 exact SK.stay h (fun o e=>by rw [Zh C];exact e) fun b ys q=>by rw [Zh (Xn q e 4e3)];exact q
def StA(sk:SK κ)(H:Hp)(l:List κ)(vs:List V):Prop:=vs.length=l.length/\∀(i:Nat) (k:κ),l[i]?=some k->∃v,vs[i]?=some v/\sk.at_ H k v
theorem StA.keep{sk:SK κ}{H H':Hp}{l:List κ}{vs:List V}(h:StA sk H l vs)(e:13e4):StA sk H' l vs:=⟨h.1,fun i k hk=>by
 obtain ⟨v,h1,h2⟩:=h.2 i k hk;exact ⟨v,h1,SK.keep h2 e⟩⟩
theorem StA.snoc{sk:SK κ}{l:List κ}{vs:List V}{k:κ}{v:V}(h:StA sk H l vs)(hv:sk.at_ H k v):StA sk H (l++[k]) (vs++[v]):=by
 refine ⟨by rw [Qae,Qae,h.1];rfl,fun i q C=>?_⟩
 by_cases e:i < l.length
 ·rw [Qa9 e] at C
  rw [Qa9 (by rw [h.1];exact e)];exact h.2 i q C
 ·rw [Qa2 1e2] at C
  have D:i - l.length=0:=by
   have:=(Qaf.mp C).1;simp only [Qb3,Qee] at this;lia
  rw [D] at C;cases C;refine ⟨v,?_,hv⟩;rw [Qa2 (by rw [h.1];lia),h.1,D]
  rfl
theorem StA.one{sk:SK κ}{k:κ}{v:V}(hv:sk.at_ H k v):StA sk H [k] [v]:=StA.snoc (l:=[]) (vs:=[]) ⟨rfl,fun i q C=>by cases C⟩ hv
def bfS(nx:κ->List κ)(l:List κ)(i:Nat):List κ:=match l[i]? with
 | some s=>(nx s).foldl Y0 l
 | none=>l
def bfN(nx:κ->List κ)(b:κ):Nat->List κ
 | 0=>[b]
 | i + 1=>bfS nx 6e1 i
structure BfE(nx:κ->List κ)(b:κ)(l:List κ):Prop where
 e:l=bfN nx b l.length
 go:∀i,i < l.length->i < (6e1).length
theorem zm(r:List κ):∀l:List κ,l.Nodup->(r.foldl Y0 l).Nodup:=by
 induction r with
 | nil=>exact fun l h=>h
 | cons k r q=>exact fun l h=>q _ (JC h k)
theorem zo(r:List κ){x:κ}:∀l:List κ,x∈r.foldl Y0 l↔x∈l\/x∈r:=by
 induction r with
 | nil=>intro l;simp
 | cons k r q =>
  intro l;rw [Qdy,q,xB,Qan,or_assoc]
theorem Zdn(r:List κ):∀l:List κ,(r.foldl Y0 l).length<=l.length + r.length:=by
 induction r with
 | nil=>exact fun l=>Qai _
 | cons k r q =>
  intro l;have h1:=q (Y0 l k);have h2:=Zf1 l k;rw [Qdy,Qb3];lia
variable {nx:κ->List κ}{b:κ}
theorem GX:∀i,(6e1).Nodup
 | 0=>Qce.mpr ⟨Qa7,Qdj⟩
 | i + 1=>by
  show (bfS nx 6e1 i).Nodup;unfold bfS
  split
  ·exact zm _ _ (GX i)
  ·exact GX i
theorem uX{U:List κ}(hb:b∈U)(hr:∀s∈U,∀x∈nx s,x∈U):∀i,∀s∈bfN nx b i,s∈U
 | 0,s,h=>by rw [Qak.mp h];exact hb
 | i + 1,s,h=>by
  have h:s∈bfS nx 6e1 i:=h;unfold bfS at h
  split at h
  ·rename_i q C
   rcases (zo _ _).mp h with z | z
   ·exact uX hb hr i s z
   ·exact hr q (uX hb hr i q (Qam C)) s z
  ·exact uX hb hr i s h
theorem gW{U:List κ}(hb:b∈U)(hr:∀s∈U,∀x∈nx s,x∈U)(i:Nat):(6e1).length<=U.length:=X3 (GX i) (uX hb hr i)
theorem yp{s:κ}(h:6e1[i]?=some s):bfN nx b (i + 1)=(nx s).foldl Y0 6e1:=by
 show bfS nx 6e1 i=_;unfold bfS;rw [h]
theorem j7(j:Nat):∀d,∃r,bfN nx b (j + d)=bfN nx b j++r
 | 0=>⟨[],(Qbv _).symm⟩
 | d + 1=>by
  obtain ⟨r,e⟩:=j7 j d;show ∃r,bfS nx (bfN nx b (j + d)) (j + d)=_;unfold bfS
  split
  ·obtain ⟨q,e2⟩:=GR (nx _) (bfN nx b (j + d))
   exact ⟨r++q,by rw [e2,e,Qb6]⟩
  ·exact ⟨r,e⟩
theorem Zmz{j:Nat}{s:κ}(q:j<=i)(hs:(bfN nx b j)[j]?=some s):6e1[j]?=some s:=by
 obtain ⟨r,e⟩:=j7 (nx:=nx) (b:=b) j (i - j);rw [show j + (i - j)=i by lia] at e;rw [e,Qa9 (Qaf.mp hs).1];exact hs
def Zm0(nx:κ->List κ)(b:κ)(j:Nat):1e1:=match (bfN nx b j)[j]? with
 | some s=>(nx s).map fun x=>(bfN nx b (j + 1)).idxOf x
 | none=>[]
def zQ(nx:κ->List κ)(b:κ)(i:Nat):5e8:=(List.range i).map fun j=>zP (Zm0 nx b j)
def Znf(nx:κ->List κ)(ot:κ->List V)(b:κ)(j:Nat):List V:=match (bfN nx b j)[j]? with
 | some s=>ot s
 | none=>[]
def zR(nx:κ->List κ)(ot:κ->List V)(b:κ)(i:Nat):5e8:=(List.range i).map (Znf nx ot b)
theorem uY{s:κ}(h:6e1[i]?=some s):zQ nx b (i + 1)=zQ nx b i++[((nx s).map fun x=>YU ((14e5).idxOf x))]:=by
 unfold zQ;rw [Qec,Qbc];show _++[zP (Zm0 nx b i)]=_;unfold Zm0 zP;rw [h];show _++[List.map _ (List.map _ _)]=_;rw [Qcf]
 rfl
theorem uZ{ot:κ->List V}{s:κ}(h:6e1[i]?=some s):zR nx ot b (i + 1)=zR nx ot b i++[ot s]:=by
 unfold zR;rw [Qec,Qbc];show _++[Znf nx ot b i]=_;unfold Znf;rw [h]
def rnG(nx:κ->List κ)(l:List κ):2e4:=l.map fun s=>(nx s).map fun x=>l.idxOf x
theorem XI(nx:κ->List κ)(l:List κ):(rnG nx l).length=l.length:=Qac _
theorem w6{j:Nat}{a:κ}(hl:(6e1).length=i)(hg:33e0)(ha:6e1[j]?=some a):j < i/\(bfN nx b j)[j]?=some a:=by
 have q:j < i:=by have:=(Qaf.mp ha).1;lia
 refine ⟨q,?_⟩;have e:=Qag (hg j q);rw [Zmz (Qa0 q) e] at ha;rw [e];exact ha
theorem Zdo(hl:(6e1).length=i)(hg:33e0):zQ nx b i=(rnG nx 6e1).map zP:=by
 unfold zQ rnG;rw [Qcf];refine map_range _ i hl _ _ fun j a ha=>?_;obtain ⟨q,e⟩:=w6 hl hg ha;show zP (Zm0 nx b j)=zP _;unfold Zm0;rw [e];congr 1;refine Qc1 fun x hx=>?_;obtain ⟨r,e2⟩:=j7 (nx:=nx) (b:=b) (j + 1) (i - (j + 1));rw [show j + 1 + (i - (j + 1))=i by lia] at e2;rw [e2,Zcq];rw [yp e];exact (zo _ _).mpr (.inr hx)
theorem Zdp{ot:κ->List V}(hl:(6e1).length=i)(hg:33e0):zR nx ot b i=(6e1).map ot:=by
 unfold zR;refine map_range _ i hl _ _ fun j a ha=>?_;obtain ⟨q,e⟩:=w6 hl hg ha;unfold Znf;rw [e]
end
def SqF(H1 H2:Hp)(r:Addr)(q:List V):Prop:=H2 r=some (.tup q)\/(H2 r=some (.lst q)/\H1 r=none)
theorem Zgl{xs:List V}{is:1e1}{Q:VK}(C:∀R:VK,R 3e1 H->d f H R)(hx:H a=2e2\/H a=16e5)(q:Nat->12e2)(G:q 0 [] H)(hl:∀i zs H,q i zs H->20e4)(D:∀i zs H',q i zs H'->∀o,H a=some o->H' a=some o)
  (hs:∀i x zs H (R:12e2),(∀zs H,q (i + 1) zs H->R zs H)->10e7->q i zs H->E (Gp is f (some x)) H fun b H2=>if b=true then O (Gp is f (some x)) H2 fun y I=>R (zs++[y]) I else R zs H2)
  (hd:∀zs H,q xs.length zs H->22e7):Za3 K d f H (GH is E O f Q)\/iTup K d f H (GH is E O f Q):=by
 rcases hx with hx | hx
 ·exact .inr (C _ ⟨a,rfl,⟨_,SqT.of hx⟩,GI (K:=K) (a:=a) (xs:=xs) q G hl (fun i zs H' h=>SqT.of (D i zs H' h _ hx)) hs hd⟩)
 ·exact .inl (C _ ⟨a,rfl,⟨_,SqL.of hx⟩,xR (K:=K) (a:=a) (xs:=xs) q G hl (fun i zs H' h=>SqL.of (D i zs H' h _ hx)) hs hd⟩)
def G3:List V->1e5
 | []=>[]
 | .int z::r=>((13e5:Nat):Int)::G3 r
 | _::r=>G3 r
theorem vF:∀q:List V,(G3 q).length<=q.length
 | []=>Qai _
 | w::r=>by
  have:=vF r;cases w <;> simp only [G3,Qb3] <;> lia
theorem zp:∀(a b:List V),G3 (a++b)=G3 a++G3 b
 | [],_=>rfl
 | w::r,b=>by
  have:=zp r b;cases w <;> simp only [G3,Qfi,this]
theorem zq{z:Int}:∀{q:List V},V.int z∈q->((13e5:Nat):Int)∈G3 q
 | w::r,h=>by
  rcases Qan.mp h with rfl | h
  ·exact Qar
  ·have:=zq h
   cases w <;> simp only [G3] <;> first | exact this | exact Qal _ this
theorem gX{m:Int}:∀{q:List V},m∈G3 q->∃z:Int,V.int z∈q/\m=((13e5:Nat):Int)
 | w::r,h=>by
  have C:m∈G3 r->∃z:Int,V.int z∈w::r/\m=((13e5:Nat):Int):=fun h=>let ⟨z,h1,h2⟩:=gX h;⟨z,Qal _ h1,h2⟩;cases w with
  | int z =>
   rcases Qan.mp h with rfl | h
   ·exact ⟨z,Qar,rfl⟩
   ·exact C h
  | _=>exact C h
theorem Zk3{z:Int}(h:0<=z):z < 2 ^ 13e5:=by
 unfold Builtin.Int.intBits
 split
 ·rename_i e
  rw [Qf6.mp e]
  decide
 ·obtain ⟨n,rfl⟩:=Int.eq_ofNat_of_zero_le h
  have:=Nat.lt_log2_self (n:=n);rw [show ((n:Int)).natAbs=n from rfl]
  exact_mod_cast this
theorem bits_le{z:Int}{B:Nat}(h:0<=z)(hz:z < 2 ^ B):13e5<=B:=by
 unfold Builtin.Int.intBits
 split
 ·exact Qbe _
 ·rename_i e
  obtain ⟨n,rfl⟩:=Int.eq_ofNat_of_zero_le h;have hn:n≠0:=fun q=>e (by rw [q];rfl);rw [show ((n:Int)).natAbs=n from rfl];have h2:n < 2 ^ B:=by exact_mod_cast hz
  exact (Nat.log2_lt hn).mpr h2
theorem Zio:∀(bs:1e5) (l:Nat),(∀b∈bs,b=0\/b=1)->bt (hor bs.reverse) l=bs.getD l 0
 | [],l,_=>Xb l
 | b::r,l,h=>by
  rw [Qdt,yn];have hb:=h b Qar;cases l with
  | zero =>
   unfold bt;rw [Qdr,Qcn];show _=b;lia
  | succ l =>
   rw [YF,show (hor r.reverse * 2 + b) / 2=hor r.reverse by lia,Zio r l fun b hb=>h b (Qal _ hb)]
   rfl
def Y4(L:Nat)(ys:1e3)(y:Str):Int:=hor ((List.range L).map fun l:Nat=>bt (l:Int) (ys.idxOf y)).reverse
theorem Jt[DecidableEq m]{l:List m}{x:m}(hn:l.Nodup)(h:l[i]?=some x):l.idxOf x=i:=by
 obtain ⟨hi,rfl⟩:=Qaf.mp h;exact hn.idxOf_getElem i hi
theorem Zgm{ys:1e3}{l:Nat}{y:Str}(hn:ys.Nodup)(h:15e2)(hl:l < L):bt (Y4 L ys y) l=bt (l:Int) i:=by
 unfold Y4;rw [Jt hn h,Zio _ _ fun b hb=>by
  obtain ⟨c,_,rfl⟩:=Qay.mp hb;exact Y8 _ _]
 rw [Qap,Qaj,Qca hl]
 rfl
def lgB:List V->Nat
 | []=>0
 | .int z::r=>max (13e5) (lgB r)
 | _::r=>lgB r
theorem Zdq{z:Int}:∀{q:List V},V.int z∈q->13e5<=lgB q
 | w::r,h=>by
  rcases Qan.mp h with rfl | h
  ·exact Nat.le_max_left _ _
  ·have:=Zdq h
   cases w <;> simp only [lgB] <;> lia
theorem Zdr:∀q:List V,lgB q=0\/∃z:Int,V.int z∈q/\lgB q=13e5
 | []=>6e4
 | w::r=>by
  have C:(lgB (w::r)=lgB r)->lgB (w::r)=0\/∃z:Int,V.int z∈w::r/\lgB (w::r)=13e5:=fun e=>by
   rw [e];rcases Zdr r with h | ⟨z,h1,h2⟩
   ·exact .inl h
   ·exact .inr ⟨z,Qal _ h1,h2⟩
  cases w with
  | int z =>
   by_cases h:lgB r<=Builtin.Int.intBits z
   ·exact .inr ⟨z,Qar,Nat.max_eq_left h⟩
   ·exact C (Nat.max_eq_right (by lia))
  | _=>exact C rfl
theorem Ziq(h1:∀z:Int,V.int z∈v->13e5<=L)(h2:L=0\/∃z:Int,V.int z∈v/\L=13e5):L=lgB v:=by
 refine Nat.le_antisymm ?_ ?_
 ·rcases h2 with h | ⟨z,hz,h⟩
  ·lia
  ·rw [h]
   exact Zdq hz
 ·rcases Zdr v with h | ⟨z,hz,h⟩
  ·lia
  ·rw [h]
   exact h1 z hz
def Y5(q:List V):Nat:=(q.filter fun w=>inV w 19e3).length
def Zlx(nm:1e3)(cols:4e6)(q:List V)(s:5e3):1e5 × 1e5:=XW nm cols s.1.toNat s.2 q
def nxT(nm:1e3)(cols:4e6)(q:List V)(L:Nat)(s:5e3):13e8:=(7e5).map fun l=>(min (s.1 + 1) (L:Int),(Zlx nm cols q s).2.map fun c=>bt c l)
def otT(nm:1e3)(cols:4e6)(q:List V)(D C:V)(s:5e3):List V:=(7e5).map fun l=>if bt ((Zlx nm cols q s).1.getD 0 0) l=1 then C else D
def Zng(q:Addr)(H H':Hp):Prop:=∀b o,10e9->b≠q->12e4
def Zk4(H:Hp)(k:5e3)(a:Addr):Prop:=∃t,H a=some (.tup [.int k.1,.ref t])/\H t=some (.tup (k.2.map V.int))
theorem Zk4.bits{k:5e3}(h:Zk4 H k a):Zh9 H k a:=by
 obtain ⟨t,h1,h2⟩:=h;refine ⟨t,h1,_,h2,?_⟩;rw [Qcf]
 rfl
def knQ:KN (5e3) where
 knd:=knP.knd
 hsh:=knP.hsh
 at_:=Zk4
 hash_eq:=knP.hash_eq
 ok:=fun P w H h k a ok b=>knP.ok P w H h k a ok b.bits
 room:=knP.room
 room0:=knP.room0
 keep:=fun H H' k a hk ⟨t,e,e2⟩=>⟨t,hk _ _ e,hk _ _ e2⟩
def qL:Nat->List (1e5)
 | 0=>[[]]
 | n + 1=>35e8
theorem vG:∀n,(qL n).length=2 ^ n
 | 0=>rfl
 | n + 1=>by
  show (35e8).length=_;rw [Qae,Qac,Qac,vG n,Nat.pow_succ];lia
theorem Xk:∀{n:Nat} {ks:1e5},ks∈qL n↔ks.length=n/\∀x∈ks,x=0\/x=1
 | 0,ks=>by
  constructor
  ·intro h
   rw [Qak.mp h];exact ⟨rfl,fun x hx=>by cases hx⟩
  ·rintro ⟨h,_⟩
   rw [Qbu h];exact 13e3
 | n + 1,ks=>by
  show ks∈35e8↔_;rw [Qaz,Qay,Qay]
  constructor
  ·rintro (⟨r,hr,rfl⟩ | ⟨r,hr,rfl⟩)
   ·obtain ⟨h1,h2⟩:=Xk.mp hr
    refine ⟨by rw [Qb3,h1],fun x hx=>?_⟩;rcases Qan.mp hx with rfl | hx
    ·exact 6e4
    ·exact h2 x hx
   ·obtain ⟨h1,h2⟩:=Xk.mp hr
    refine ⟨by rw [Qb3,h1],fun x hx=>?_⟩;rcases Qan.mp hx with rfl | hx
    ·exact .inr rfl
    ·exact h2 x hx
  ·rintro ⟨h1,h2⟩
   cases ks with
   | nil=>cases h1
   | cons x r =>
    have hr:r∈qL n:=Xk.mpr ⟨by simpa using h1,fun y q=>h2 y (Qal _ q)⟩;rcases h2 x Qar with rfl | rfl
    ·exact .inl ⟨r,hr,rfl⟩
    ·exact .inr ⟨r,hr,rfl⟩
def uni(q:Nat):Nat->13e8
 | 0=>[]
 | n + 1=>uni q n++(qL q).map fun ks=>((n:Int),ks)
theorem yq(q:Nat):∀n,(uni q n).length=n * 2 ^ q
 | 0=>by rw [Nat.zero_mul];rfl
 | n + 1=>by
  show (uni q n++(qL q).map _).length=_;rw [Qae,Qac,yq q n,vG,Nat.succ_mul]
theorem G4{q:Nat}{s:5e3}:∀{n:Nat},s∈uni q n↔∃p:Nat,p < n/\s.1=(p:Int)/\s.2∈qL q
 | 0=>⟨(fun h=>9e1),fun ⟨p,h,_⟩=>absurd h (Qeg _)⟩
 | n + 1=>by
  show s∈uni q n++(qL q).map (fun ks=>((n:Int),ks))↔_;rw [Qaz,G4,Qay]
  constructor
  ·rintro (⟨p,h1,h2⟩ | ⟨ks,h1,rfl⟩)
   ·exact ⟨p,by lia,h2⟩
   ·exact ⟨n,by lia,rfl,h1⟩
  ·rintro ⟨p,h1,h2,C⟩
   by_cases e:p < n
   ·exact .inl ⟨p,e,h2,C⟩
   ·have e:p=n:=by lia
    subst e;exact .inr ⟨s.2,C,by rw [<-h2]⟩
theorem Wq(w:V)(r:List V):Y5 (w::r)=Y5 r + if inV w 19e3=true then 1 else 0:=by
 unfold Y5;rw [Qcr]
 split <;> rfl
theorem yr{ys:1e3}{cols:4e6}{pl:Nat}{kp:1e5}:∀C:List V,(∀w∈C,yk ys w)->(XW ys cols pl kp C).2.length=Y5 C
 | [],_=>rfl
 | w::r,hw=>by
  have q:=yr (ys:=ys) (cols:=cols) (pl:=pl) (kp:=kp) r fun w h=>hw w (Qal _ h);rw [Wq];rcases hw w Qar with ⟨y,rfl,h1,_⟩ | ⟨y,rfl,h1,h2,D,_⟩ | ⟨y,rfl,h1,h2,_⟩ | ⟨z,rfl,_⟩
  ·show (if y∈allR then _ else _:1e5 × 1e5).2.length=_
   rw [Qaw h1,ZQ,Qah h1,Qaw rfl,Qae,q]
   rfl
  ·show (20e8:1e5 × 1e5).2.length=_
   rw [Qau h2,Qau D,ZQ,Qao h2,Qau 1e4];exact q
  ·show (20e8:1e5 × 1e5).2.length=_
   rw [Qau h2,Qaw h1,ZQ,Qao h2,Qau 1e4];exact q
  ·rw [ym,Qau 1e4]
   exact q
theorem yt{cols:4e6}(hw:∀w∈v,yk N w)(hk:i=Y5 v){s:5e3}(hs:s∈uni i (L + 1)):∀x∈nxT N cols v L s,x∈uni i (L + 1):=by
 intro x hx;obtain ⟨l,_,rfl⟩:=Qay.mp hx;obtain ⟨p,h1,h2,q⟩:=G4.mp hs;refine G4.mpr ⟨min (p + 1) L,by lia,?_,Xk.mpr ⟨?_,10e8⟩⟩
 ·show min (s.1 + 1) (L:Int)=_
  rw [h2];lia
 ·rw [Qac,hk]
  exact yr v hw
 ·obtain ⟨c,_,rfl⟩:=Qay.mp hb
  exact Y8 c l
theorem Zaa{H':Hp}(s:ZC (hide M H) H')(hn:∀c∈M,H' c=none):ZC H (Wn M H H')/\(∀t o,H' t=some o->Wn M H H' t=some o)/\∀t o,H' t=some o->hide M H t=none->H t=none:=by
 have m:∀t o,H' t=some o->t∉M:=fun t o e m=>by rw [hn t m] at e;cases e
 refine ⟨fun b o e=>?_,fun t o e=>by rw [ZJ (m t o e)];exact e,fun t o e h=>by rw [Z1 (m t o e)] at h;exact h⟩
 by_cases q:b∈M
 ·rw [XA q]
  exact e
 ·rw [ZJ q]
  exact s _ _ (by rw [Z1 q];exact e)
theorem j8{H':Hp}{p:Addr}{rs:5e8}(R:zl H p rs)(e:13e4):zl H' p rs:=by
 obtain ⟨as,h1,h2,C⟩:=R;refine ⟨as,e _ _ h1,h2,fun i r hi=>?_⟩;obtain ⟨a,q,D⟩:=C i r hi;exact ⟨a,q,e _ _ D⟩
theorem Zds{B:Nat}(q:∀z:Int,V.int z∈v->0<=z/\z < 2 ^ B):lgB v<=B:=by
 rcases Zdr v with h | ⟨z,hz,h⟩
 ·lia
 ·rw [h]
  exact bits_le (q z hz).1 (q z hz).2
theorem lgB_lt{z:Int}(h:V.int z∈v)(q:0<=z):z < 2 ^ lgB v:=Qha (Zk3 q) (Zc4 (Zdq h))
theorem gY{y:Str}(h:y∉Ye):6e2=0:=by
 have k:∀p∈T1++T2++T3,p.1∈Ye:=1e0
 unfold npw X2;show (G1 T1 (.inr y) + G1 T2 (.inr y) + G1 T3 (.inr y)).toNat=0;have n:∀l:11e2,(∀p∈l,p∈T1++T2++T3)->y∉l.map (·.1):=fun l hl z=>by
  obtain ⟨p,hp,e⟩:=Qay.mp z;exact h (by rw [<-e];exact k p (hl p hp))
 rw [zf (n T1 fun p hp=>by simp [hp]),zf (n T2 fun p hp=>by simp [hp]),zf (n T3 fun p hp=>by simp [hp])]
 rfl
theorem Zk5(z:Int):npw (.int z)=0:=by
 have k:∀l:11e2,G1 l (.inl z)=0:=fun l=>by
  induction l with
  | nil=>rfl
  | cons p r q =>
   unfold G1;rw [Qau (fun e=>nomatch e)];exact q
 unfold npw X2;show (G1 T1 (.inl z) + G1 T2 (.inl z) + G1 T3 (.inl z)).toNat=0;rw [k,k,k]
 rfl
theorem Zdt:∀y∈Ji,6e2=Yt y/\y∈Ye:=1e0
theorem Zgn:∀y∈wm,y∈Ye:=1e0
theorem gZ:∀y∈allR,y∈Ye:=1e0
theorem yu{ys:1e3}{y:Str}(q:∀y∈ys,y∉Ye)(h:y∈Ji):wo ys 10 2e7/\6e2=Yt y/\inV 2e7 19e3=decide (y∈wm):=by
 obtain ⟨h1,h2⟩:=Zdt y h;refine ⟨.inl ⟨y,rfl,h,fun z=>q y z h2,h1⟩,h1,?_⟩;rw [ZQ,Qdk,Qcm,Qcm];exact wt y h
theorem JH(a b:List V):Y5 (a++b)=Y5 a + Y5 b:=by
 unfold Y5;rw [Qd2,Qae]
theorem ua:∀y∈Ji,y∉allR->y∈Zdd/\6e2=Zdb y:=1e0
theorem Zk6:∀y∈allR,y∈Ji->1<=6e2/\(y∈Zky->2<=6e2):=1e0
theorem ub{ys:1e3}{B:Nat}(D:∀y∈ys,y∉Ye)(h:wo ys B w):yk ys w:=by
 rcases h with ⟨y,rfl,h1,h2,q⟩ | ⟨y,rfl,h1,h2,q⟩ | ⟨z,rfl,C,_,q⟩
 ·by_cases ha:y∈allR
  ·exact .inl ⟨y,rfl,ha,h2,Zk6 y ha h1⟩
  ·exact .inr (.inl ⟨y,rfl,(ua y h1 ha).1,ha,h2,(ua y h1 ha).2⟩)
 ·exact .inr (.inr (.inl ⟨y,rfl,h1,fun z=>D y h1 (gZ y z),q⟩))
 ·exact .inr (.inr (.inr ⟨z,rfl,C,q⟩))
theorem Zdu{xs:List V}(hn:n<=xs.length)(h1:1<=n):zJ xs none (some (-(n:Int)))=xs.take (xs.length - n):=by
 unfold zJ;simp only [HT.sIx];rw [Qaw 1e2,show (-(n:Int) + (xs.length:Int)).toNat=xs.length - n by lia];simp
def WH(ls:1e1)(ys:1e3)(y:Str):Int:=sm (fun k=>bt ((ls.getD k 0:Nat):Int) (ys.idxOf y)) ls.length
theorem Zdv(ls:1e1)(ys:1e3)(y:Str):0<=WH ls ys y/\WH ls ys y < 2 ^ ls.length:=xD (fun _=>Y8 _ _) _
theorem Zk7{ls:1e1}{ys:1e3}{k l:Nat}{y:Str}(hn:ys.Nodup)(h:15e2)(hk:ls[k]?=some l):bt (WH ls ys y) k=bt (l:Int) i:=by
 unfold WH;rw [Jt hn h];have:=Zdf (b:=fun k=>bt ((ls.getD k 0:Nat):Int) i) (fun _=>Y8 _ _) k ls.length (Qaf.mp hk).1;rw [Qap,hk] at this;exact this
structure Runs(nx:2e4)(ot:5e8)(n:Nat):Prop where
 pos:0 < nx.length
 ol:ot.length=nx.length
 nr:∀r∈nx,r.length=2 ^ n
 nl:∀r∈nx,∀s∈r,s < nx.length
 or:∀r∈ot,r.length=2 ^ n
def stN(nx:2e4):Nat->1e1->Nat
 | s,[]=>s
 | s,c::r=>stN nx ((19e4).getD c 0) r
def rnO(nx:2e4)(ot:5e8):Nat->1e1->List V
 | _,[]=>[]
 | s,c::r=>(ot.getD s []).getD c .non::rnO nx ot ((19e4).getD c 0) r
theorem WI(nx:2e4):∀(s:Nat) (ls:1e1) (c:Nat),stN nx s (ls++[c])=(nx.getD (stN nx s ls) []).getD c 0
 | _,[],_=>rfl
 | s,d::r,c=>WI nx ((19e4).getD d 0) r c
theorem uc(nx:2e4)(ot:5e8):∀(s:Nat) (ls:1e1) (c:Nat),rnO nx ot s (ls++[c])=rnO nx ot s ls++[(ot.getD (stN nx s ls) []).getD c .non]
 | _,[],_=>rfl
 | s,d::r,c=>congrArg (List.cons _) (uc nx ot ((19e4).getD d 0) r c)
theorem yw(nx:2e4)(ot:5e8):∀(s:Nat) (ls:1e1),(rnO nx ot s ls).length=ls.length
 | _,[]=>rfl
 | s,d::r=>congrArg Nat.succ (yw nx ot _ r)
theorem getD_at{l:List m}{d:m}(h:i < l.length):l[i]?=some (l.getD i d):=by rw [Qap,Qag h];rfl
section
variable {κ:Type}[19e5]{nx:κ->List κ}{b:κ}{l:List κ}
theorem zr{x:κ}(h:x∈l):l[l.idxOf x]?=some x:=by
 have hl:=Qef h;rw [Qag hl,List.getElem_idxOf hl]
theorem BfE.len(B:BfE nx b l):(bfN nx b l.length).length=l.length:=by rw [<-B.e]
theorem BfE.here(B:BfE nx b l){j:Nat}{s:κ}(h:l[j]?=some s):j < l.length/\(bfN nx b j)[j]?=some s:=w6 B.len B.go (by rw [<-B.e];exact h)
theorem BfE.sub(B:BfE nx b l){j:Nat}(q:j<=l.length){x:κ}(h:x∈bfN nx b j):x∈l:=by
 obtain ⟨r,e⟩:=j7 (nx:=nx) (b:=b) j (l.length - j);rw [show j + (l.length - j)=l.length by lia,<-B.e] at e;rw [e];exact Qcd _ h
theorem BfE.begin(B:BfE nx b l):l[0]?=some b/\b∈l:=by
 have hb:b∈l:=B.sub (Qbe _) (show b∈[b] from 13e3);have hl:0 < l.length:=Qez hb;have e:=Zmz (nx:=nx) (b:=b) (i:=l.length) (j:=0) (Qbe _) (s:=b) rfl;rw [<-B.e] at e;exact ⟨e,hb⟩
theorem BfE.next(B:BfE nx b l){s x:κ}(h:s∈l)(hx:x∈nx s):x∈l:=by
 obtain ⟨j,q⟩:=Qfa.mp h;obtain ⟨h1,h2⟩:=B.here q;refine B.sub (j:=j + 1) h1 ?_;rw [yp h2];exact (zo _ _).mpr (.inr hx)
theorem BfE.nodup(B:BfE nx b l):l.Nodup:=by
 rw [B.e];exact GX _
def ixG(l:List κ)(x:κ):Nat:=l.idxOf x
theorem BfE.zero(B:BfE nx b l):ixG l b=0:=Jt B.nodup B.begin.1
theorem Zdw(h:∀s∈l,∀x∈nx s,x∈l){s:κ}(hs:s∈l):(rnG nx l).getD (ixG l s) []=(nx s).map fun x=>ixG l x:=by
 unfold rnG ixG;rw [Qap,Qaj,zr hs]
 rfl
theorem Zk8{ot:κ->List V}{s:κ}(hs:s∈l):(l.map ot).getD (ixG l s) []=ot s:=by
 unfold ixG;rw [Qap,Qaj,zr hs]
 rfl
end
structure vH(nm:1e3)(ws:List V):Prop where
 n3:nm.length<=3
 nd:nm.Nodup
 kp:∀y∈nm,y∉Ye
 ln:ws.length<=100
 wd:∀w∈ws,wo nm 10 w
 en:XU ws
 st:yj ws=1
 rm:Y5 ws<=15
abbrev nxS(nm:1e3)(q:List V):5e3->13e8:=nxT nm (Y4 (7e1) nm) q (lgB q)
abbrev otS(nm:1e3)(q:List V):5e3->List V:=otT nm (Y4 (7e1) nm) q (.int 0) (.int 1)
theorem vH.wc(S:vH N v):∀w∈v,yk N w:=fun w h=>ub S.kp (S.wd w h)
theorem vH.iz(S:vH N v):∀z:Int,V.int z∈v->0<=z/\z < 2 ^ 10:=fun z h=>by
 rcases S.wd _ h with ⟨y,e,_⟩ | ⟨y,e,_⟩ | ⟨C,e,q,h1,_⟩
 ·cases e
 ·cases e
 ·cases e
  exact ⟨q,h1⟩
theorem vH.big(S:vH N v):(10 + 1) * 2 ^ Y5 v<=1000000:=by
 have:2 ^ Y5 v<=2 ^ 15:=Qdn 1e4 S.rm;lia
theorem vH.len{l:13e8}(S:vH N v)(B:BfE (nxS N v) 19e6 l):l.length<=1000000:=by
 have h:=36e4;rw [<-B.e,yq] at h;have h2:lgB v<=10:=Zds S.iz;have q:=S.big;exact Qbd h (Qbd (Qgj _ 1e2) q)
theorem Zk9(nm:1e3)(cols:4e6)(q:List V)(L:Nat)(s:5e3):(nxT nm cols q L s).length=7e1:=by
 unfold nxT;rw [Qac,Qax]
theorem Zla(nm:1e3)(cols:4e6)(q:List V)(D C:V)(s:5e3):(otT nm cols q D C s).length=7e1:=by
 unfold otT;rw [Qac,Qax]
section
variable {κ:Type}[19e5]{nx:κ->List κ}{b:κ}{l:List κ}
theorem Zlb(B:BfE nx b l)(hn:∀s,(nx s).length=n):(∀r∈rnG nx l,r.length=n)/\∀r∈rnG nx l,∀s∈r,s < (rnG nx l).length:=by
 constructor
 ·intro r hr
  obtain ⟨s,_,rfl⟩:=Qay.mp hr;rw [Qac,hn]
 ·intro r hr x hx
  obtain ⟨s,hs,rfl⟩:=Qay.mp hr;obtain ⟨y,q,rfl⟩:=Qay.mp hx;rw [XI];exact Qef (B.next hs q)
theorem Zir(B:BfE nx b l):∀i,i<=l.length->Zmy (rnG nx l) 0 i=(6e1).map (ixG l)
 | 0,_=>by
  show [0]=[ixG l b];rw [B.zero]
 | i + 1,h=>by
  have q:=Zir B i 1e2;obtain ⟨s,hs⟩:∃s,6e1[i]?=some s:=⟨_,Qag (B.go i 1e2)⟩;have C:s∈l:=B.sub 1e2 (Qam hs);show Zmx (rnG nx l) (Zmy (rnG nx l) 0 i) i=_;rw [q];unfold Zmx;have e1:((6e1).map (ixG l)).getD i 0=ixG l s:=by rw [Qap,Qaj,hs];rfl
  rw [e1,Zdw (fun s hs x hx=>B.next hs hx) C,yp hs];have inj:∀x∈l,∀y∈l,ixG l x=ixG l y->x=y:=fun x hx y G e=>by
   have h1:=zr hx;have h2:=zr G;have e:l.idxOf x=l.idxOf y:=e;rw [e,h2] at h1;exact (Option.some.inj h1).symm
  have D:∀(r a:List κ),(∀x∈r,x∈l)->(∀x∈a,x∈l)->(r.map (ixG l)).foldl Y0 (a.map (ixG l))=(r.foldl Y0 a).map (ixG l):=by
   intro r
   induction r with
   | nil=>exact fun a _ _=>rfl
   | cons k r q =>
    intro a hr ha;have hk:=hr k Qar;rw [Qa4,Qdy,Qdy,gI (ixG l) a k fun x hx e=>inj x (ha x hx) k hk e];exact q _ (fun x hx=>hr x (Qal _ hx)) fun x hx=>by
     rcases xB.mp hx with z | z
     ·exact ha x z
     ·rw [z];exact hk
  exact D _ _ (fun x hx=>B.next C hx) fun x hx=>B.sub 1e2 hx
end
theorem Zgo{H':Hp}{xs:List V}(h:15e4)(s:ZC H H'):SqL K H' a xs:=by
 rcases h with h | h
 ·rcases h with h | ⟨u,h⟩
  ·exact .inl (.inl (s _ _ h))
  ·exact .inl (.inr ⟨u,s _ _ h⟩)
 ·exact .inr h
theorem Zng.tup{q:Addr}{H H':Hp}(o:Zng q H H'){C:4e5}(hz:H q=some (.tbl C)){b:Addr}{xs:List V}(e:H b=2e2):H' b=2e2:=o _ _ e (Xn e hz 4e3)
def neA(x y:Int)(k:Nat):Int:=if lo x k=lo y k then 0 else 1
theorem Zis(x y:Int)(k:Nat):neA x y k=0\/neA x y k=1:=by
 unfold neA
 split
 ·exact 6e4
 ·exact .inr rfl
theorem Zgp(x y:Int):neA x y 0=0:=by
 unfold neA lo;rw [Qdr,Qfq,Qfq]
 rfl
theorem Zgq(x y:Int)(k:Nat):neA x y (k + 1)=1 - (1 - (bt x k + bt y k) % 2) * (1 - neA x y k):=by
 have e1:=yi x k;have e2:=yi y k;have b1:=vA x k;have b2:=vA y k;unfold neA;rcases Y8 x k with a | a <;> rcases Y8 y k with b | b <;> rw [a] at e1 ⊢ <;> rw [b] at e2 ⊢ <;> by_cases h:lo x k=lo y k
 all_goals first
  | rw [Qaw h,Qaw 1e2];rfl
  | rw [Qau h,Qau 1e2];rfl
  | rw [Qaw h,Qau 1e2];rfl
def sgA(x:Int)(k:Nat):Int:=lo x k - 2 ^ k * bt x k
def bnA(x y:Int)(k:Nat):Int:=if sgA x k < sgA y k then 1 else 0
theorem bnA_01(x y:Int)(k:Nat):bnA x y k=0\/bnA x y k=1:=by
 unfold bnA
 split
 ·exact .inr rfl
 ·exact 6e4
theorem bnA_br(x y:Int)(k:Nat):bnA x y k=1 - (1 - (1 - bt y k) * bt x k) * (1 - brA x y k * (1 - (bt y k + bt x k) % 2)):=by
 have b1:=vA x k;have b2:=vA y k;unfold bnA sgA brA;rcases Y8 x k with a | a <;> rcases Y8 y k with b | b <;> rw [a,b] <;> by_cases h:lo x k < lo y k
 all_goals first
  | rw [Qaw h,Qaw 1e2];rfl
  | rw [Qau h,Qau 1e2];rfl
  | rw [Qaw h,Qau 1e2];rfl
  | rw [Qau h,Qaw 1e2];rfl
def ud(y:Str)(is:1e5)(k:Nat):Int :=
 if y = "twice" then tw 6e3 k else if 25e9 then nzA 6e3 k else if y = "same" then neA 6e3 9e8 k else if y = "add" then cyA 6e3 9e8 k else brA 6e3 9e8 k
theorem Zlc(y:Str)(is:1e5)(k:Nat):ud y is k=0\/ud y is k=1:=by
 unfold ud
 repeat' split
 ·exact tw_01 _ _
 ·exact Zc9 _ _
 ·exact Zis _ _ _
 ·exact Zc7 _ _ _
 ·exact jz _ _ _
theorem Zdx(y:Str)(is:1e5):ud y is 0=0:=by
 unfold ud
 repeat' split
 ·rfl
 ·exact Zgc _
 ·exact Zgp _ _
 ·exact gO _ _
 ·exact gR _ _
def Ze7(y:Str)(bs:1e5)(h:Int):Int :=
 if y = "twice" then 6e7 else if 25e9 then 1 - (1 - 6e7) * (1 - h) else if y = "same" then 1 - (1 - (6e7 + 12e1) % 2) * (1 - h) else if y = "add" then (6e7 + 12e1 + h) / 2 else 1 - (1 - (1 - 6e7) * 12e1) * (1 - h * (1 - (6e7 + 12e1) % 2))
theorem vI(y:Str)(is:1e5)(k:Nat):ud y is (k + 1)=Ze7 y 19e9 (ud y is k):=by
 unfold ud Ze7;rw [Xs,Xs]
 repeat' split
 ·rfl
 ·exact Zgd _ _
 ·exact Zgq _ _ _
 ·exact gP _ _ _
 ·exact gS _ _ _
def Zm1(y:Str)(bs:1e5)(h:Int):Int :=
 if y = "add" \/ y = "sub" then (6e7 + 12e1 + h) % 2 else if y = "neg" then (6e7 + h) % 2 else if y = "twice" then h else if y = "low" then 6e7 * (1 - h)
 else if y = "same" \/ y = "nought" then 1 - Ze7 y bs h else if y = "under" then Ze7 y bs h else 1 - (1 - (1 - 12e1) * 6e7) * (1 - h * (1 - (12e1 + 6e7) % 2))
def vJ(y:Str)(bs:1e5):Int :=
 if y = "yes" then 1 else if y = "sign" then 6e7 else if y = "not" \/ y = "never" then 1 - 6e7 else if y = "and" \/ y = "both" then 6e7 * 12e1 else if y = "or" \/ y = "either" then 1 - (1 - 6e7) * (1 - 12e1)
 else if y = "odd" then (6e7 + 12e1) % 2 else if y = "so" then 1 - (1 - (1 - 6e7)) * (1 - 12e1) else 1 - (1 - 6e7 * 12e1) * (1 - (1 - 6e7) * bs.getD 2 0)
theorem Zit(a b h:Int)(l:Nat):bt (Zmw a b h) l=1 - (1 - (1 - bt a l) * bt b l) * (1 - bt h l * (1 - (bt a l + bt b l) % 2)):=by
 unfold Zmw;rw [qK,XG,XG,JP,JP,WT]
theorem Ziu(y:Str)(is:1e5)(h:Int)(l:Nat):bt (ktI y is h) l=Ze7 y (is.map fun x=>bt x l) (bt h l):=by
 unfold Ze7 ktI;rw [Xs,Xs]
 repeat' split
 ·rfl
 ·exact qK l _ _
 ·rw [qK,WT]
 ·rw [qK,XG,XG,qK]
  rcases Y8 6e3 l with a | a <;> rcases Y8 9e8 l with b | b <;> rcases Y8 h l with c | c <;> rw [a,b,c] <;> rfl
 ·exact Zit _ _ _ _
theorem okR_bt(y:Str)(is:1e5)(h:Int)(l:Nat):bt (okI y is h (ktI y is h)) l=Zm1 y (is.map fun x=>bt x l) (bt h l):=by
 unfold Zm1 okI;rw [<-Ziu,Xs,Xs]
 repeat' split
 ·rw [WT,WT]
  lia
 ·exact WT l _ _
 ·rfl
 ·rw [XG,JP]
 ·exact JP l _
 ·rfl
 ·exact Zit _ _ _ _
theorem Ziv(y:Str)(is:1e5)(l:Nat):bt (oaI y is) l=vJ y (is.map fun x=>bt x l):=by
 unfold vJ oaI;rw [Xs,Xs,Xs]
 repeat' split
 ·exact Zc5 l
 ·rfl
 ·exact JP l _
 ·exact XG l _ _
 ·exact qK l _ _
 ·exact WT l _ _
 ·rw [qK,JP]
 ·rw [qK,XG,XG,JP]
def clB(y:Str)(is:1e5)(k:Nat):Int :=
 if y = "same" then 1 - neA 6e3 9e8 (k + 1) else if y = "nought" then 1 - nzA 6e3 (k + 1) else if y = "under" then brA 6e3 9e8 (k + 1) else if y = "beneath" then bnA 6e3 9e8 k
 else vJ y 19e9
theorem once01(y:Str)(is:1e5)(k:Nat):vJ y 19e9=0\/vJ y 19e9=1:=by
 rw [<-Ziv];exact Y8 _ _
theorem Zdy(y:Str)(is:1e5)(k:Nat):clB y is k=0\/clB y is k=1:=by
 unfold clB
 repeat' split
 ·have:=Zis 6e3 9e8 (k + 1)
  lia
 ·have:=Zc9 6e3 (k + 1)
  lia
 ·exact jz _ _ _
 ·exact bnA_01 _ _ _
 ·exact once01 _ _ _
def rwR(W:Nat)(ρ:4e6)(w:V)(is:1e5):Int :=
 match w with
 | .str y=>if y∈ZT then sm (clB y is) W else wwv ρ w is % 2 ^ W
 | _=>wwv ρ w is % 2 ^ W
def Xl(W:Nat)(ρ:4e6):List V->1e5
 | []=>[]
 | w::r=>rwR W ρ w ((13e1).take (npw w))::(13e1).drop (npw w)
theorem xG(W:Nat)(ρ:4e6):∀q:List V,(Xl W ρ q).length=yj q
 | []=>rfl
 | w::r=>by
  show ((13e1).drop (npw w)).length + 1=_;rw [Qco,xG W ρ r]
  rfl
def ue:V->Bool
 | .str y=>decide (y∈allR)
 | _=>false
def qM(W:Nat)(ρ:4e6):List V->Nat->1e5
 | [],_=>[]
 | w::r,k=>qM W ρ r k++if ue w=true then [ud (Zie w) ((13e1).take (npw w)) k] else []
def Zdz(ys:1e3)(ν:4e6)(pl:Nat)(kp:1e5):List V->1e5 × 1e5
 | []=>([],[])
 | w::r =>
  let p:=Zdz ys ν pl kp r
  match w with
  | .str y =>
   if y∈allR then (Zm1 y (p.1.take (npw w)) (kp.getD p.2.length 0)::p.1.drop (npw w),p.2++[Ze7 y (p.1.take (npw w)) (kp.getD p.2.length 0)])
   else if y∈ys then (ν y::p.1.drop (npw w),p.2)
   else (vJ y (p.1.take (npw w))::p.1.drop (npw w),p.2)
  | .int z=>(bt z pl::p.1.drop (npw w),p.2)
  | _=>p
theorem vK{ys:1e3}{cols:4e6}{pl:Nat}{kp:1e5}(hk:∀i:Nat,kp.getD i 0=0\/kp.getD i 0=1)(l:Nat):∀q:List V,
  (XW ys cols pl kp q).1.map (fun x=>bt x l)=(Zdz ys (fun y=>bt (cols y) l) pl kp q).1/\(XW ys cols pl kp q).2.map (fun x=>bt x l)=(Zdz ys (fun y=>bt (cols y) l) pl kp q).2
 | []=>6e5
 | w::r=>by
  obtain ⟨e1,e2⟩:=vK (ys:=ys) (cols:=cols) (pl:=pl) hk l r;have D:(9e6).2.length=(Zdz ys (fun y=>bt (cols y) l) pl kp r).2.length:=by rw [<-e2,Qac]
  cases w with
  | str y =>
   show (if y∈allR then _ else if y∈ys then _ else _:List Int × List Int).1.map _=(if y∈allR then _ else if y∈ys then _ else _:List Int × List Int).1/\(if y∈allR then _ else if y∈ys then _ else _:List Int × List Int).2.map _=(if y∈allR then _ else if y∈ys then _ else _:List Int × List Int).2
   by_cases ha:y∈allR
   ·rw [Qaw ha,Qaw ha]
    constructor
    ·show bt _ l::_=_::_
     rw [okR_bt,wq (hk _),Qfd,Qex,e1,D]
    ·show List.map _ (_++[_])=_++[_]
     rw [Qbc,e2];show _++[bt _ l]=_;rw [Ziu,wq (hk _),Qfd,e1,D]
   ·rw [Qau ha,Qau ha]
    by_cases C:y∈ys
    ·rw [Qaw C,Qaw C]
     refine ⟨?_,e2⟩;show bt _ l::List.map _ (List.drop _ _)=_::_;rw [Qex,e1]
    ·rw [Qau C,Qau C]
     refine ⟨?_,e2⟩;show bt _ l::List.map _ (List.drop _ _)=_::_;rw [Ziv,Qfd,Qex,e1]
  | int z =>
   refine ⟨?_,e2⟩;show bt (-(bt z pl)) l::List.map _ (List.drop _ _)=bt z pl::_;rw [Qex,e1,wq (Y8 z pl)]
  | _=>exact ⟨e1,e2⟩
theorem yx:∀y∈Ji,y∉ZT:=1e0
theorem Zgr{y:Str}(q:y∈wm)(is:1e5)(k:Nat):ud y is k=hld y is k:=by
 unfold wm at q;simp only [Qan,Qa7,Qc3] at q;rcases q with rfl | rfl | rfl | rfl | rfl <;> rfl
theorem Zgs{y:Str}(q:y∈wm)(bs:1e5)(h:Int):Zm1 y bs h=ans1 y bs h:=by
 unfold wm at q;simp only [Qan,Qa7,Qc3] at q;rcases q with rfl | rfl | rfl | rfl | rfl <;> rfl
theorem Zd0{y:Str}(q:y∈Ji)(hr:y∉wm)(bs:1e5):vJ y bs=once y bs:=by
 rcases j4 y q hr with ⟨rfl,_⟩ | ⟨rfl,_⟩ | ⟨rfl,_⟩ | ⟨rfl,_⟩ | ⟨rfl,_⟩ <;> rfl
theorem Zd1:∀y∈ZT,y∈allR->y = "same" \/ y = "under" \/ y = "beneath" \/ y = "nought" := 1e0
theorem Zab:∀y∈ZT,y∉allR->¬y = "same" /\ ¬y = "under" /\ ¬y = "beneath" /\ ¬y = "nought" := 1e0
theorem Zm2{f:Nat->Int}(hf:∀i,f i=0\/f i=1){k W:Nat}(h:k < W):bt (sm f W) k=f k:=Zdf hf k W h
theorem Zgt(ρ:4e6){y:Str}{W k:Nat}(hk:k < W)(ha:y∈allR){is:1e5}(h:y∈ZT\/(y∈Ji/\is.length=Yt y)):Zm1 y 19e9 (ud y is k)=bt (rwR W ρ 2e7 is) k:=by
 rcases h with hc | ⟨hs,hl⟩
 ·show _=29e9
  rw [Qaw hc,Zm2 (Zdy y is) hk];have hs:=vI y is k;rcases Zd1 y hc ha with rfl | rfl | rfl | rfl
  ·show 1 - Ze7 "same" _ _=1 - neA _ _ (k + 1)
   rw [<-hs]
   rfl
  ·show Ze7 "under" _ _=brA _ _ (k + 1)
   rw [<-hs]
   rfl
  ·show 1 - (1 - (1 - List.getD _ 1 0) * List.getD _ 0 0) * (1 - brA _ _ k * (1 - (List.getD _ 1 0 + List.getD _ 0 0) % 2))=bnA _ _ k
   rw [Xs,Xs,bnA_br]
  ·show 1 - Ze7 "nought" _ _=1 - nzA _ (k + 1)
   rw [<-hs]
   rfl
 ·have hr:=(wt y hs).mp ha
  show _=29e9;rw [Qau (yx y hs),Zgs hr,Zgr hr,ans_ok ρ hr hl,v9 _ _ _ hk]
theorem Zd2(ρ:4e6){y:Str}{W k:Nat}(hk:k < W)(ha:y∉allR){is:1e5}(h:y∈ZT\/(y∈Ji/\is.length=Yt y)):vJ y 19e9=bt (rwR W ρ 2e7 is) k:=by
 rcases h with hc | ⟨hs,hl⟩
 ·show _=29e9
  obtain ⟨h1,h2,C,q⟩:=Zab y hc ha;rw [Qaw hc,Zm2 (Zdy y is) hk];unfold clB;rw [Qau h1,Qau q,Qau h2,Qau C]
 ·have hr:y∉wm:=fun z=>ha ((wt y hs).mpr z)
  show _=29e9;rw [Qau (yx y hs),Zd0 hs hr,Zkx ρ hs hr hl,v9 _ _ _ hk]
def Zac(ys:1e3)(B:Nat)(w:V):Prop:=wo ys B w\/∃y,w=.str y/\y∈ZT/\y∉ys
theorem Zgu(W:Nat)(ρ:4e6)(q:List V)(k:Nat):(qM W ρ q k).length=(q.filter ue).length:=by
 induction q with
 | nil=>rfl
 | cons w r C =>
  show (qM W ρ r k++_).length=_;rw [Qae,C,Qcr]
  split <;> rfl
theorem Zd3{ys:1e3}{B W k pl:Nat}{ρ:4e6}(hk:k < W)(Z:pl=k\/(B<=pl/\B<=k))(I:∀y∈ys,y∉Ye)(kp:1e5):∀J:List V,(∀w∈J,Zac ys B w)->XU J->(∃r,kp=qM W ρ J k++r)->Zdz ys (fun y=>bt (ρ y) k) pl kp J=((Xl W ρ J).map (fun x=>bt x k),qM W ρ J (k + 1))
 | [],_,_,_=>rfl
 | w::r,hw,he,hkp=>by
  obtain ⟨r0,hr0⟩:=hkp;have ih:=Zd3 (ρ:=ρ) hk Z I kp r (fun w h=>hw w (Qal _ h)) he.2 ⟨_,by rw [hr0];show (_++_)++_=_;rw [Qb6]⟩;have Y:=xG W ρ r;have htk:((13e1).take (npw w)).length=npw w:=by rw [Qa6,Y];exact Qfz he.1
  have ml:=Zgu W ρ r;have G:∀y,w=.str y->y∉ys->(y∈ZT\/(y∈Ji/\npw w=Yt y))->Zdz ys (fun y=>bt (ρ y) k) pl kp (w::r)=((Xl W ρ (w::r)).map (fun x=>bt x k),qM W ρ (w::r) (k + 1)):=by
   rintro y rfl C D;have O:y∈ZT\/(y∈Ji/\((13e1).take (6e2)).length=Yt y):=by rw [htk];exact D
   by_cases ha:y∈allR
   ·have q:ue 2e7=true:=Qah ha
    have hg:kp.getD (qM W ρ r (k + 1)).length 0=ud y ((13e1).take (6e2)) k:=by
     have e:qM W ρ (.str y::r) k=qM W ρ r k++[ud y ((13e1).take (6e2)) k]:=by
      show _++(if ue 2e7=true then _ else _)=_;rw [Qaw q]
      rfl
     rw [hr0,e,ml,<-ml k,Qb6,Qap,Qa2 (Qai _),Qet]
     rfl
    show (if y∈allR then _ else _)=_;rw [Qaw ha,ih]
    show 10
    rw [hg,<-Qfd,Zgt ρ hk ha O,<-vI];refine Qh6 ?_ ?_
    ·show _::_=bt _ k::((13e1).drop (6e2)).map _
     rw [Qex]
    ·show _=_++(if ue 2e7=true then _ else _)
     rw [Qaw q]
     rfl
   ·have q:¬ue 2e7=true:=fun z=>ha (Qa1 z)
    show (20e8)=_;rw [Qau ha,Qau C,ih]
    show 10
    rw [<-Qfd,Zd2 ρ hk ha O];refine Qh6 ?_ ?_
    ·show _::_=bt _ k::((13e1).drop (6e2)).map _
     rw [Qex]
    ·show _=_++(if ue 2e7=true then _ else _)
     rw [Qau q,Qbv]
  rcases hw w Qar with (⟨y,rfl,D,C,hp⟩ | ⟨y,rfl,D,hnr,hp⟩ | ⟨z,rfl,z0,z1,hp⟩) | ⟨y,rfl,D,C⟩
  ·exact G y rfl C (.inr ⟨D,hp⟩)
  ·have hna:y∉allR:=fun z=>I y D (gZ y z)
   have hnc:y∉ZT:=fun z=>I y D (uU y z);have q:¬ue 2e7=true:=fun z=>hna (Qa1 z);show (20e8)=_;rw [Qau hna,Qaw D,ih];refine Qh6 ?_ ?_
   ·show _::_=29e9::((13e1).drop (6e2)).map _
    rw [Qau hnc,v9 _ _ _ hk,hp,List.take_zero,Qey,Qey]
    rfl
   ·show _=_++(if ue 2e7=true then _ else _)
    rw [Qau q,Qbv]
  ·show (bt z pl::(Zdz ys (fun y=>bt (ρ y) k) pl kp r).1.drop (npw (.int z)),(Zdz ys (fun y=>bt (ρ y) k) pl kp r).2)=_
   rw [ih];have ez:bt z pl=bt z k:=by
    rcases Z with h | ⟨h1,h2⟩
    ·rw [h]
    ·rw [Zii z0 z1 h1,Zii z0 z1 h2]
   refine Qh6 ?_ ?_
   ·show bt z pl::_=bt (wwv ρ (.int z) ((13e1).take (npw (.int z))) % 2 ^ W) k::((13e1).drop (npw (.int z))).map _
    rw [v9 _ _ _ hk,hp,Qey,Qey,ez]
    rfl
   ·show _=_++(if ue (.int z)=true then _ else _)
    rw [Qau (4e3),Qbv]
  ·exact G y rfl C (.inl D)
theorem j9{ys:1e3}{ν q:4e6}{pl:Nat}{kp:1e5}(h:∀y∈ys,ν y=q y):∀D:List V,Zdz ys ν pl kp D=Zdz ys q pl kp D
 | []=>rfl
 | w::r=>by
  have G:=j9 (pl:=pl) (kp:=kp) h r;unfold Zdz;rw [G];cases w with
  | str y =>
   by_cases hr:y∈allR
   ·simp only [Qaw hr]
   ·by_cases C:y∈ys
    ·simp only [Qau hr,Qaw C,h y C]
    ·simp only [Qau hr,Qau C]
  | _=>rfl
theorem uf{W:Nat}{ρ:4e6}{k:Nat}:∀{q:List V},∀x∈qM W ρ q k,x=0\/x=1
 | w::r,x,h=>by
  have h:x∈qM W ρ r k++if ue w=true then [ud (Zie w) ((13e1).take (npw w)) k] else []:=h;rcases Qaz.mp h with h | h
  ·exact uf x h
  ·split at h
   ·rw [Qak.mp h]
    exact Zlc _ _ _
   ·cases h
theorem Zld(W:Nat)(ρ:4e6)(q:List V)(k i:Nat):(qM W ρ q k).getD i 0=0\/(qM W ρ q k).getD i 0=1:=by
 rw [Qap];cases e:(qM W ρ q k)[i]? with
 | none=>exact .inl rfl
 | some x=>exact uf x (Qam e)
theorem vL(W:Nat)(ρ:4e6):∀q:List V,qM W ρ q 0=List.replicate (q.filter ue).length 0
 | []=>rfl
 | w::r=>by
  show qM W ρ r 0++_=_;rw [vL W ρ r,Qcr]
  split
  ·rw [Zdx,Qb3,Qgk]
  ·rw [Qbv]
theorem vM{ys:1e3}{B:Nat}:∀{q:List V},(∀w∈q,Zac ys B w)->Y5 q=(q.filter ue).length
 | [],_=>rfl
 | w::r,h=>by
  rw [Wq,vM (fun v hv=>h v (Qal _ hv)),Qcr];have e:inV w 19e3=ue w:=by
   rcases h w Qar with (⟨y,rfl,_⟩ | ⟨y,rfl,_⟩ | ⟨z,rfl,_⟩) | ⟨y,rfl,_⟩
   ·exact ZQ _ _
   ·exact ZQ _ _
   ·exact ym z _
   ·exact ZQ _ _
  rw [e]
  split <;> rfl
theorem zt{ls:1e1}{W k c:Nat}(q:N.Nodup)(hk:∀y∈N,y∉Ye)(hw:∀w∈v,Zac N 10 w)(he:XU v)(Z:k < W)(hc:ls[k]?=some c)(D:c < 2 ^ N.length) :
  (Zlx N 14e3 v (18e7,qM W (WH ls N) v k)).1.map (fun x=>bt x c)=(Xl W (WH ls N) v).map (fun x=>bt x k)/\(Zlx N 14e3 v (18e7,qM W (WH ls N) v k)).2.map (fun x=>bt x c)=qM W (WH ls N) v (k + 1):=by
 have G:∀w∈v,Zac N (lgB v) w:=fun w h=>by
  rcases hw w h with (z | z | ⟨z,rfl,I,_,Y⟩) | z
  ·exact .inl (.inl z)
  ·exact .inl (.inr (.inl z))
  ·exact .inl (.inr (.inr ⟨z,rfl,I,lgB_lt h I,Y⟩))
  ·exact .inr z
 obtain ⟨e1,e2⟩:=vK (ys:=N) (cols:=Y4 (2 ^ N.length) N) (pl:=(18e7).toNat) (Zld W (WH ls N) v k) c v;have C:∀y∈N,bt (Y4 (2 ^ N.length) N y) c=bt (WH ls N y) k:=fun y J=>by
  obtain ⟨i,hi⟩:=Qfa.mp J;rw [Zgm q hi D,Zk7 q hi hc]
 have e3:=j9 (pl:=(18e7).toNat) (kp:=qM W (WH ls N) v k) C v;have O:=Zd3 (ρ:=WH ls N) (pl:=(18e7).toNat) Z (by lia:(18e7).toNat=k\/(lgB v<=(18e7).toNat/\lgB v<=k)) hk (qM W (WH ls N) v k) v G he ⟨[],(Qbv _).symm⟩;rw [e3,O] at e1 e2;exact ⟨e1,e2⟩
theorem Zd4{ls:1e1}{W:Nat}{o:Int}{Y O:V}{l:13e8}(G:N.Nodup)(hk:∀y∈N,y∉Ye)(hw:∀w∈v,Zac N 10 w)(he:XU v)(hW:W<=ls.length)(hls:∀x∈ls,x < 2 ^ N.length)(ho:Xl W (WH (ls.take W) N) v=[o])
  (B:BfE (nxT N 14e3 v (lgB v)) 19e6 l) :
  ∀k,k < W->(rnO (rnG (nxT N 14e3 v (lgB v)) l) (l.map (otT N 14e3 v Y O)) 0 ls)[k]?=some (if bt o k=1 then O else Y):=by
 have cl:∀s∈l,∀x∈nxT N 14e3 v (lgB v) s,x∈l:=fun s hs x hx=>B.next hs hx;generalize hρ:WH (ls.take W) N=ρ at *;have e0:((0:Int),List.replicate (Y5 v) (0:Int))=(min ((0:Nat):Int) (lgB v:Int),qM W ρ v 0):=by
  rw [vL,vM hw,show min ((0:Nat):Int) (lgB v:Int)=0 by lia]
 have at_:∀k,k < W->∃c,ls[k]?=some c/\(ls.take W)[k]?=some c/\c < 2 ^ N.length:=fun k hk=>by
  have h1:ls[k]?=some ls[k]:=Qag 1e2;exact ⟨_,h1,by rw [Qf1,Qaw hk];exact h1,hls _ (Qam h1)⟩
 have step:∀k,k<=W->stN (rnG (nxT N 14e3 v (lgB v)) l) 0 (ls.take k)=ixG l (18e7,qM W ρ v k)/\(18e7,qM W ρ v k)∈l:=by
  intro k
  induction k with
  | zero =>
   intro _;rw [<-e0];exact ⟨B.zero.symm,B.begin.2⟩
  | succ k Z =>
   intro hk1;obtain ⟨i1,i2⟩:=Z (by lia);obtain ⟨c,hc,D,C⟩:=at_ k (by lia);obtain ⟨_,e2⟩:=zt G hk hw he (show k < W by lia) D C;rw [hρ] at e2;have en:(nxT N (Y4 (2 ^ N.length) N) v (lgB v) (min (k:Int) (lgB v:Int),qM W ρ v k))[c]?=some (min ((k + 1:Nat):Int) (lgB v:Int),qM W ρ v (k + 1)):=by
    unfold nxT;rw [xE C,e2];congr 2;show min (min (k:Int) (lgB v:Int) + 1) (lgB v:Int)=_;lia
   refine ⟨?_,B.next i2 (Qam en)⟩;rw [take_snoc hc,WI,i1,Zdw cl i2,Qap,Qaj,en]
   rfl
 intro k I;obtain ⟨i1,i2⟩:=step k 1e2;obtain ⟨c,hc,D,C⟩:=at_ k I;obtain ⟨e1,_⟩:=zt G hk hw he I D C;rw [hρ] at e1;have J:k < ls.length:=by lia
 have ek:ls=ls.take k++c::ls.drop (k + 1):=by
  rw [show c::ls.drop (k + 1)=ls.drop k by rw [Qcu J];congr 1;exact (Qaf.mp hc).2.symm,Qdh]
 have go:∀(nx:2e4) (ot:5e8) (s:Nat) (a:1e1) (c:Nat) (r:1e1),(rnO nx ot s (a++c::r))[a.length]?=some ((ot.getD (stN nx s a) []).getD c .non):=fun nx ot s a c r=>by
  induction a generalizing s with
  | nil=>rfl
  | cons d a Z=>exact Z _
 have g:=go (rnG (nxT N 14e3 v (lgB v)) l) (l.map (otT N 14e3 v Y O)) 0 (ls.take k) c (ls.drop (k + 1));rw [<-ek,Qa6,Qfz 1e2,i1,Zk8 i2] at g;rw [g];congr 1;unfold otT;rw [Qap,xE C];rw [ho] at e1;generalize (Zlx N 14e3 v (18e7,qM W ρ v k)).1=q at e1 ⊢;have hq:q.length=1:=by
  have:=congrArg List.length e1;rw [Qac] at this;exact this
 match q,hq,e1 with
 | [x],_,e1 =>
  have e1:bt x c=bt o k:=by
   injection e1
  show (if bt x c=1 then O else Y)=_;rw [e1]
inductive TyR(ys:1e3):List V->List Bool->Prop
 | nil:TyR ys [] []
 | sum {w:V} {r:List V} {ks:List Bool}:wo ys 10 w->TyR ys r (List.replicate (npw w) false++ks)->TyR ys (w::r) (false::ks)
 | clm {y:Str} {r:List V} {ks:List Bool}:y∈ZT->y∉ys->TyR ys r (List.replicate (nSum 2e7) false++(List.replicate (nClm 2e7) true++ks))->TyR ys (.str y::r) (true::ks)
theorem Zd5:∀y∈ZT,6e2=nSum 2e7 + nClm 2e7:=1e0
theorem TyR.facts{ys:1e3}{q:List V}{ks:List Bool}(h:TyR ys q ks):(∀w∈q,Zac ys 10 w)/\XU q/\yj q=ks.length:=by
 induction h with
 | nil=>exact ⟨(fun _ h=>nomatch h),trivial,rfl⟩
 | @sum w r ks hw _ C =>
  obtain ⟨h1,h2,D⟩:=C;rw [Qae,Qa3] at D;refine ⟨fun v hv=>?_,⟨by lia,h2⟩,?_⟩
  ·rcases Qan.mp hv with rfl | hv
   ·exact .inl hw
   ·exact h1 v hv
  ·show yj r - npw w + 1=ks.length + 1
   lia
 | @clm y r ks G hn _ C =>
  obtain ⟨h1,h2,D⟩:=C;rw [Qae,Qae,Qa3,Qa3] at D;have e:=Zd5 y G;refine ⟨fun v hv=>?_,⟨by lia,h2⟩,?_⟩
  ·rcases Qan.mp hv with rfl | hv
   ·exact .inr ⟨y,rfl,G,hn⟩
   ·exact h1 v hv
  ·show yj r - npw (.str y) + 1=ks.length + 1
   lia
def Seg(ys:1e3)(b:Bool)(q:List V):Prop:=∀(r:List V) (ks:List Bool),TyR ys r ks->TyR ys (q++r) (b::ks)
theorem Zd6{ys:1e3}:∀{C:List V},(∀w∈C,wo ys 10 w)->XU C->∀(r:List V) (ks:List Bool),TyR ys r ks->TyR ys (C++r) (List.replicate (yj C) false++ks)
 | [],_,_,r,ks,h=>h
 | w::q,hw,he,r,ks,h=>by
  have D:=Zd6 (fun v hv=>hw v (Qal _ hv)) he.2 r ks h;show TyR ys (w::(q++r)) (List.replicate (yj q - npw w + 1) false++ks);rw [Qdd];refine .sum (hw w Qar) ?_;show TyR ys (q++r) (List.replicate (npw w) false++(List.replicate (yj q - npw w) false++ks));rw [<-Qb6,List.replicate_append_replicate,show npw w + (yj q - npw w)=yj q by have:=he.1;lia];exact D
theorem Seg.sum{ys:1e3}{q:List V}(hw:∀w∈q,wo ys 10 w)(he:XU q)(hs:yj q=1):Seg ys false q:=fun r ks h=>by
 have:=Zd6 hw he r ks h;rw [hs] at this;exact this
theorem Seg.ty{ys:1e3}{b:Bool}(h:Seg ys b v):TyR ys v [b]:=by
 have:=h [] [] .nil;rw [Qbv] at this;exact this
theorem w9(w:V)(r:List V):Y5 (w::r)<=Y5 r + 1:=by
 rw [Wq]
 split <;> lia
theorem Zle{y:Str}(h:y∉allR)(r:List V):Y5 (.str y::r)=Y5 r:=by
 rw [Wq,ZQ,Qau fun z=>h (Qa1 z),Nat.add_zero]
theorem claimC:∀y∈ZT,(y∈allR/\1<=6e2/\(y∈Zky->2<=6e2))\/(y∈Zdd/\y∉allR/\6e2=Zdb y):=1e0
theorem xH(W:Nat)(ρ:4e6):∀{u:List V},XU u->∀r,Xl W ρ (u++r)=Xl W ρ u++Xl W ρ r
 | [],_,r=>rfl
 | w::u,h,r=>by
  have q:=xH W ρ h.2 r;have hl:npw w<=(Xl W ρ u).length:=by rw [xG];exact h.1
  show rwR W ρ w ((Xl W ρ (u++r)).take (npw w))::(Xl W ρ (u++r)).drop (npw w)=(rwR W ρ w ((Xl W ρ u).take (npw w))::(Xl W ρ u).drop (npw w))++Xl W ρ r;rw [q,List.take_append_of_le_length hl,List.drop_append_of_le_length hl,Qfi]
theorem rwR_bd(W:Nat)(ρ:4e6)(w:V)(is:1e5):0<=rwR W ρ w is/\rwR W ρ w is < 2 ^ W:=by
 have hp:=YO W;have hm:∀z:Int,0<=z % 2 ^ W/\z % 2 ^ W < 2 ^ W:=fun z=>⟨Qb9 _ 1e2,Qbs _ hp⟩;unfold rwR
 split
 ·split
  ·exact xD (Zdy _ _) W
  ·exact hm _
 ·exact hm _
theorem G5{W:Nat}{ρ:4e6}{o:Int}:∀{q:List V},Xl W ρ q=[o]->0<=o/\o < 2 ^ W
 | [],h=>9e1
 | w::r,h=>by
  have e:rwR W ρ w ((13e1).take (npw w))=o:=(List.cons.inj h).1;rw [<-e];exact rwR_bd _ _ _ _
structure POk(nm:1e3)(b:Bool)(ws:List V):Prop where
 n3:nm.length<=3
 nd:nm.Nodup
 kp:∀y∈nm,y∉Ye
 ln:ws.length<=100
 sg:Seg nm b ws
 rm:Y5 ws<=15
theorem POk.wc{b:Bool}(S:POk N b v):∀w∈v,yk N w:=fun w h=>by
 rcases S.sg.ty.facts.1 w h with h | ⟨y,rfl,C,hn⟩
 ·exact ub S.kp h
 ·rcases claimC y C with ⟨h1,h2,q⟩ | ⟨h1,h2,q⟩
  ·exact .inl ⟨y,rfl,h1,hn,h2,q⟩
  ·exact .inr (.inl ⟨y,rfl,h1,h2,hn,q⟩)
theorem POk.iz{b:Bool}(S:POk N b v):∀z:Int,V.int z∈v->0<=z/\z < 2 ^ 10:=fun z h=>by
 rcases S.sg.ty.facts.1 _ h with (⟨y,e,_⟩ | ⟨y,e,_⟩ | ⟨C,e,q,h1,_⟩) | ⟨y,e,_⟩
 ·cases e
 ·cases e
 ·cases e
  exact ⟨q,h1⟩
 ·cases e
theorem POk.big{b:Bool}(S:POk N b v):(10 + 1) * 2 ^ Y5 v<=1000000:=by
 have:2 ^ Y5 v<=2 ^ 15:=Qdn 1e4 S.rm;lia
theorem POk.runs{b:Bool}{l:13e8}(S:POk N b v)(B:BfE (nxS N v) 19e6 l)(G q:V):Runs (rnG (nxS N v) l) (l.map (otT N 14e3 v G q)) N.length:=by
 obtain ⟨D,C⟩:=Zlb B (n:=2 ^ N.length) (Zk9 _ _ _ _);have hpos:0 < l.length:=Qez B.begin.2;refine ⟨by rw [XI];exact hpos,by rw [XI,Qac],D,C,fun r hr=>?_⟩;obtain ⟨s,_,rfl⟩:=Qay.mp hr;exact Zla _ _ _ _ _ _
structure Zd7(nm:1e3)(ws:List V)(ls:1e1)(o0 o1:V)(row:List V):Prop where
 len:row.length=ls.length
 bit:∀W,1<=W->W<=ls.length->∃o,Xl W (WH (ls.take W) nm) ws=[o]/\∀k,k < W->row[k]?=some (if bt o k=1 then o1 else o0)
theorem POk.row{b:Bool}{l:13e8}{ls:1e1}(S:POk N b v)(B:BfE (nxS N v) 19e6 l)(C:∀x∈ls,x < 2 ^ N.length)(G D:V):Zd7 N v ls G D (rnO (rnG (nxS N v) l) (l.map (otT N 14e3 v G D)) 0 ls):=by
 refine ⟨yw _ _ _ _,fun W h1 h2=>?_⟩;have f:=S.sg.ty.facts;obtain ⟨o,ho⟩:∃o,Xl W (WH (ls.take W) N) v=[o]:=by
  have h:=xG W (WH (ls.take W) N) v;rw [f.2.2] at h;generalize Xl W (WH (ls.take W) N) v=q at h
  match q,h with
  | [o],_=>exact ⟨o,rfl⟩
 exact ⟨o,ho,Zd4 S.nd S.kp f.1 f.2.1 h2 C ho B⟩
theorem Zgv(o:Int)(W:Nat):sm (fun k=>bt o k) W=o % 2 ^ W:=Zdg o W
theorem Zd7.num{ls:1e1}{row:List V}(R:Zd7 N v ls (.int 0) (.int 1) row){W:Nat}(h1:1<=W)(h2:W<=ls.length):∃(o:Int) (is:1e5),Xl W (WH (ls.take W) N) v=[o]/\0<=o/\o < 2 ^ W/\row.take W=is.map V.int/\is.length=W/\(∀x∈is,x=0\/x=1)/\sm (fun k=>is.getD k 0) is.length=o:=by
 obtain ⟨o,ho,hb⟩:=R.bit W h1 h2;have q:=G5 ho;refine ⟨o,(List.range W).map fun k=>bt o k,ho,q.1,q.2,?_,by rw [Qac,Qax],fun x hx=>?_,?_⟩
 ·refine Qea fun k=>?_
  rw [Qf1,Qaj,Qaj]
  by_cases hk:k < W
  ·rw [Qaw hk,hb k hk,Qca hk]
   show some _=some (V.int (bt o k));rcases Y8 o k with e | e <;> rw [e] <;> rfl
  ·rw [Qau hk,Qcg (by rw [Qax];lia)]
   rfl
 ·obtain ⟨k,_,rfl⟩:=Qay.mp hx
  exact Y8 o k
 ·rw [Qac,Qax]
  have e:sm (fun k=>((List.range W).map fun k=>bt o k).getD k 0) W=sm (fun k=>bt o k) W:=xC fun i hi=>by
   rw [Qap,Qaj,Qca hi]
   rfl
  rw [e,Zgv,Qc4 q.1 q.2]
theorem Yq.put{p P:Addr}{kvs:4e4}{qual:Str}(h:Yq H P A qual)(e:H p=some 4e1):Yq (upd H p R) P A qual:=by
 rcases h with h | ⟨q,oc,h1,h2,C⟩
 ·refine .inl ?_
  rw [Zh (Xn h e 4e3)];exact h
 ·refine .inr ⟨q,oc,?_,?_,C⟩
  ·rw [Zh (Xn h1 e 4e3)]
   exact h1
  ·rw [Zh (Xn h2 e 4e3)]
   exact h2
def abc:Nat->Str
 | 0 => "a"
 | 1 => "b"
 | _ => "c"
theorem abc_inj:∀i j,i < 3->j < 3->abc i=abc j->i=j:=by
 intro i j hi q;have h:∀i∈[0,1,2],∀j∈[0,1,2],abc i=abc j->i=j:=1e0
 exact h i (by show 14;lia) j (by show 14;lia)
def nvR(nm:1e3)(ls:1e1)(q:List V):Int:=if ls.length=0 then 0 else (Xl ls.length (WH ls nm) q).getD 0 0
theorem Zd7.all{ls:1e1}{row:List V}(R:Zd7 N v ls (.int 0) (.int 1) row):∃is:1e5,row=is.map V.int/\is.length=ls.length/\(∀x∈is,x=0\/x=1)/\sm (fun k=>is.getD k 0) is.length=nvR N ls v:=by
 unfold nvR
 by_cases q:ls.length=0
 ·rw [Qaw q]
  have:row=[]:=Qbu (by rw [R.len,q]);rw [this];exact ⟨[],rfl,q.symm,(fun _ h=>9e1),rfl⟩
 ·rw [Qau q]
  obtain ⟨o,is,h1,h2,J,C,G,I,D⟩:=R.num (W:=ls.length) 1e2 (Qai _);rw [Qcc (by rw [R.len];exact Qai _)] at C;rw [Qbi] at h1;rw [h1];exact ⟨is,C,G,I,D⟩
theorem zl.tups{H':Hp}{p:Addr}{rs:5e8}(R:zl H p rs)(e:13e4):zl H' p rs:=by
 obtain ⟨as,h1,h2,C⟩:=R;refine ⟨as,e _ _ h1,h2,fun i r hi=>?_⟩;obtain ⟨a,q,D⟩:=C i r hi;exact ⟨a,q,e _ _ D⟩
theorem M4.tups{H H':Hp}{m:Addr}{nm:1e3}{b:Nat}{nx:2e4}{ot:5e8}(M:M4 H m nm b nx ot)(e:13e4):M4 H' m nm b nx ot:=by
 obtain ⟨pn,ps,D,h1,h2,C,q⟩:=M.ex;exact ⟨⟨pn,ps,D,e _ _ h1,e _ _ h2,C.tups e,q.tups e⟩⟩
theorem zu{x y:V}(hx:XH j x)(C:XH j y):scal x y=true:=by
 rcases hx with ⟨e,a,rfl⟩ | ⟨e,a,rfl⟩ <;> rcases C with ⟨q,b,rfl⟩ | ⟨q,b,rfl⟩
 ·rfl
 ·rw [e] at q;cases q
 ·rw [e] at q;cases q
 ·rfl
section
variable {B:Nat->Nat->Prop}(fn:∀c d d',B c d->B c d'->d=d')(inj:∀c c' d,B c d->B c' d->c=c')
include fn inj
end
inductive Tr where
 | p | q | r
 | num (z:Int)
 | one (y:Str) (t:Tr)
 | two (y:Str) (t u:Tr)
 | thr (y:Str) (t u v:Tr)
def Tr.flat(P Q R:List V):Tr->List V
 | .p=>P
 | .q=>Q
 | .r=>R
 | .num z=>[.int z]
 | .one y t=>.str y::8e0
 | .two y t u=>.str y::(8e0++u.flat P Q R)
 | .thr y t u v=>.str y::29e2
def Tr.ev(m a b c:Int):Tr->Int
 | .p=>a
 | .q=>b
 | .r=>c
 | .num z=>z % m
 | .one y t=>Zmp y (t.ev m a b c) % m
 | .two y t u=>Zmq y (t.ev m a b c) (u.ev m a b c) % m
 | .thr _ t u v=>Builtin.bitOr (Builtin.bitAnd (t.ev m a b c) (u.ev m a b c)) (Builtin.bitAnd (Builtin.bitNot (t.ev m a b c)) (v.ev m a b c)) % m
def Tr.ok:Tr->Bool
 | .p=>true
 | .q=>true
 | .r=>true
 | .num z=>decide (0<=z/\z < 1000)
 | .one y t=>decide (y∈Ji/\Yt y=1) && t.ok
 | .two y t u=>decide (y∈Ji/\Yt y=2) && (t.ok && u.ok)
 | .thr y t u v=>decide (y∈Ji/\Yt y=3) && (t.ok && (u.ok && v.ok))
def Tr.sz:Tr->Nat
 | .p=>7
 | .q=>7
 | .r=>7
 | .num _=>1
 | .one _ t=>t.sz + 1
 | .two _ t u=>t.sz + u.sz + 1
 | .thr _ t u v=>t.sz + u.sz + v.sz + 1
def Tr.rs:Tr->Nat
 | .p=>1
 | .q=>1
 | .r=>1
 | .num _=>0
 | .one _ t=>t.rs + 1
 | .two _ t u=>t.rs + u.rs + 1
 | .thr _ t u v=>t.rs + u.rs + v.rs + 1
structure Prt(nm:1e3)(P:List V):Prop where
 g:Seg nm false P
 l:P.length<=7
 m:Y5 P<=1
theorem Zd8{z:Int}(q:0<=z)(h1:z < 1000):Seg N false [.int z]:=Seg.sum (fun w hw=>by
 rw [Qak.mp hw];exact .inr (.inr ⟨z,rfl,q,Qha h1 1e4,Zk5 z⟩)) ⟨Qbe _,trivial⟩ (by
 show 0 - npw (.int z) + 1=1;lia)
theorem Seg.w1{nm:1e3}{y:Str}{u:List V}(hk:∀y∈nm,y∉Ye)(q:y∈Ji)(hn:Yt y=1)(h:Seg nm false u):Seg nm false (.str y::u):=fun r ks hr=>by
 obtain ⟨w1,w2,_⟩:=yu hk q;refine .sum w1 ?_;rw [w2,hn];exact h r ks hr
theorem Seg.w2{nm:1e3}{y:Str}{u v:List V}(hk:∀y∈nm,y∉Ye)(q:y∈Ji)(hn:Yt y=2)(h:Seg nm false u)(g:Seg nm false v):Seg nm false (.str y::(u++v)):=fun r ks hr=>by
 obtain ⟨w1,w2,_⟩:=yu hk q;refine .sum w1 ?_;rw [w2,hn];show TyR nm ((u++v)++r) _;rw [Qb6];exact h _ _ (g r ks hr)
theorem Seg.w3{y:Str}{u w:List V}(hk:∀y∈N,y∉Ye)(q:y∈Ji)(hn:Yt y=3)(h:Seg N false u)(g:Seg N false v)(f:Seg N false w):Seg N false (.str y::(u++(v++w))):=fun r ks hr=>by
 obtain ⟨w1,w2,_⟩:=yu hk q;refine .sum w1 ?_;rw [w2,hn];show TyR N ((u++(v++w))++r) _;rw [Qb6,Qb6];exact h _ _ (g _ _ (f r ks hr))
theorem Tr.seg{nm:1e3}{P Q R:List V}(hk:∀y∈nm,y∉Ye)(D:Prt nm P)(C:Prt nm Q)(hR:Prt nm R):∀{t:Tr},t.ok=true->Seg nm false (8e0)/\(8e0).length<=t.sz/\Y5 (8e0)<=t.rs
 | .p,_=>⟨D.g,D.l,D.m⟩
 | .q,_=>⟨C.g,C.l,C.m⟩
 | .r,_=>⟨hR.g,hR.l,hR.m⟩
 | .num z,h=>by
  have h:=Qa1 h;refine ⟨Zd8 h.1 h.2,Qai _,?_⟩;show Y5 [.int z]<=0;rw [Wq,ym];exact Qai _
 | .one y t,h=>by
  have h:=Qav.mp h;have h1:=Qa1 h.1;obtain ⟨G,J,O⟩:=Tr.seg hk D C hR h.2;have:=w9 2e7 (8e0);exact ⟨G.w1 hk h1.1 h1.2,by show _ + 1<=_ + 1;lia,by show Y5 (_::_)<=_ + 1;lia⟩
 | .two y t u,h=>by
  have h:=Qav.mp h;have h1:=Qa1 h.1;have h2:=Qav.mp h.2;obtain ⟨G,J,O⟩:=Tr.seg hk D C hR h2.1;obtain ⟨I,Z,f3⟩:=Tr.seg hk D C hR h2.2;have:=w9 2e7 (8e0++u.flat P Q R);rw [JH] at this;refine ⟨G.w2 hk h1.1 h1.2 I,?_,by show Y5 (_::_)<=_ + _ + 1;lia⟩;show (8e0++u.flat P Q R).length + 1<=t.sz + u.sz + 1;rw [Qae];lia
 | .thr y t u v,h=>by
  have h:=Qav.mp h;have h1:=Qa1 h.1;have h2:=Qav.mp h.2;have Y:=Qav.mp h2.2;obtain ⟨G,J,O⟩:=Tr.seg hk D C hR h2.1;obtain ⟨I,Z,f3⟩:=Tr.seg hk D C hR Y.1;obtain ⟨e1,e2,e3⟩:=Tr.seg hk D C hR Y.2;have:=w9 2e7 29e2;rw [JH,JH] at this;refine ⟨G.w3 hk h1.1 h1.2 I e1,?_,by show Y5 (_::_)<=_ + _ + _ + 1;lia⟩;show (29e2).length + 1<=t.sz + u.sz + v.sz + 1;rw [Qae,Qae];lia
theorem yy{W:Nat}{ρ:4e6}{y:Str}{u:List V}{is:1e5}(q:y∈Ji)(hn:Yt y=is.length)(h:Xl W ρ u=is):Xl W ρ (.str y::u)=[wwv ρ 2e7 is % 2 ^ W]:=by
 have C:6e2=Yt y:=(Zdt y q).1;show rwR W ρ 2e7 ((Xl W ρ u).take (6e2))::(Xl W ρ u).drop (6e2)=_;rw [h,C,hn,Qbi,Qfl];show [if y∈ZT then _ else _]=_;rw [Qau (yx y q)]
theorem Tr.run{nm:1e3}{P Q R:List V}{W:Nat}{ρ:4e6}{a b c:Int}(hk:∀y∈nm,y∉Ye)(D:Prt nm P)(C:Prt nm Q)(hR:Prt nm R)(ha:Xl W ρ P=[a])(hb:Xl W ρ Q=[b])(hc:Xl W ρ R=[c]):∀{t:Tr},t.ok=true->Xl W ρ (8e0)=[t.ev (2 ^ W) a b c]
 | .p,_=>ha
 | .q,_=>hb
 | .r,_=>hc
 | .num z,_=>by
  show rwR W ρ (.int z) _::_=_;show wwv ρ (.int z) _ % 2 ^ W::List.drop _ []=[z % 2 ^ W];rw [List.drop_nil]
  rfl
 | .one y t,h=>by
  have h:=Qav.mp h;have h1:=Qa1 h.1;exact yy (is:=[_]) h1.1 h1.2 (Tr.run hk D C hR ha hb hc h.2)
 | .two y t u,h=>by
  have h:=Qav.mp h;have h1:=Qa1 h.1;have h2:=Qav.mp h.2;refine yy (is:=[_,_]) h1.1 h1.2 ?_;rw [xH W ρ (Tr.seg hk D C hR h2.1).1.ty.facts.2.1,Tr.run hk D C hR ha hb hc h2.1,Tr.run hk D C hR ha hb hc h2.2]
  rfl
 | .thr y t u v,h=>by
  have h:=Qav.mp h;have h1:=Qa1 h.1;have h2:=Qav.mp h.2;have G:=Qav.mp h2.2;refine yy (is:=[_,_,_]) h1.1 h1.2 ?_;rw [xH W ρ (Tr.seg hk D C hR h2.1).1.ty.facts.2.1,xH W ρ (Tr.seg hk D C hR G.1).1.ty.facts.2.1,Tr.run hk D C hR ha hb hc h2.1,Tr.run hk D C hR ha hb hc G.1,Tr.run hk D C hR ha hb hc G.2]
  rfl
theorem zv{x:Int}{W:Nat}(h:∀k,k < W->bt x k=bt y k):x % 2 ^ W=y % 2 ^ W:=by
 rw [<-Zgv,<-Zgv];exact xC h
theorem mdA(x y m:Int):(x + y % m) % m=(x + y) % m:=by rw [Qh3,Qhr,<-Qh3]
theorem mdB(x y m:Int):(x % m + y) % m=(x + y) % m:=by rw [Qh3,Qhr,<-Qh3]
theorem mdC(x y m:Int):(x - y % m) % m=(x - y) % m:=by rw [Qh4,Qhr,<-Qh4]
theorem mdD(x y m:Int):(x % m - y) % m=(x - y) % m:=by rw [Qh4,Qhr,<-Qh4]
theorem mdE(x m:Int):(-(x % m)) % m=(-x) % m:=by
 have:=mdC 0 x m;rw [Int.zero_sub,Int.zero_sub] at this;exact this
theorem mdN(x m:Int):Builtin.bitNot (x % m) % m=Builtin.bitNot x % m:=by
 show (-(x % m) - 1) % m=(-x - 1) % m;rw [<-mdD,mdE,mdD]
theorem Ziw{nx:2e4}{ot:5e8}{n:Nat}(R:Runs nx ot n):∀{ls:1e1} {s:Nat},s < nx.length->(∀x∈ls,x < 2 ^ n)->stN nx s ls < nx.length
 | [],s,h,_=>h
 | c::ls,s,h,hl=>by
  have hc:=hl c Qar;have q:=R.nr _ (getD_mem h);have hm:(19e4).getD c 0∈nx.getD s []:=Qam (getD_at 1e2);exact Ziw (ls:=ls) R (R.nl _ (getD_mem h) _ hm) fun x hx=>hl x (Qal _ hx)
theorem ug{b:Bool}{l:13e8}(S:POk N b v)(B:BfE (nxS N v) 19e6 l)(D q:V){ls:1e1}{c:Nat}(C:∀x∈ls++[c],x < 2 ^ N.length) :
  ((l.map (otT N 14e3 v D q)).getD (stN (rnG (nxS N v) l) 0 ls) []).getD c .non=if bt ((Xl (15e1) (WH (ls++[c]) N) v).getD 0 0) ls.length=1 then q else D:=by
 have R:=S.row B C D q;obtain ⟨o,ho,hb⟩:=R.bit (15e1) 1e2 (by rw [Qae];exact Qai _);have h:=hb ls.length 1e2;rw [uc,Qa2 (by rw [yw];exact Qai _),yw,Qet] at h;have h:=Option.some.inj h;rw [Qcc (by rw [Qae];exact Qai _)] at ho;rw [h,ho]
 rfl
section
variable {nx:6e0}{ok:8e8}{k:Nat}
def Y7(nx:6e0)(ok:8e8):Nat->1e1->Bool
 | _,[]=>false
 | s,l::[]=>ok s l
 | s,l::m::r=>Y7 nx ok (nx s l) (m::r)
theorem XJ{s l:Nat}{r:1e1}(h:r≠[]):Y7 nx ok s (l::r)=Y7 nx ok (nx s l) r:=by
 cases r with
 | nil=>exact absurd rfl h
 | cons m r=>rfl
def RIn:1e1->2e4->Prop
 | [],[]=>True
 | l::r,L::Ls=>l∈L/\RIn r Ls
 | _,_=>False
theorem RIn.len:∀{r:1e1} {Ls:2e4},RIn r Ls->r.length=Ls.length
 | [],[],_=>rfl
 | _::_,_::_,h=>congrArg (· + 1) h.2.len
 | [],_::_,h=>h.elim
 | _::_,[],h=>h.elim
theorem RIn.uncons{r:1e1}{L:1e1}{Ls:2e4}(h:RIn r (L::Ls)):∃l q,r=l::q/\l∈L/\RIn q Ls:=by
 cases r with
 | nil=>exact h.elim
 | cons l q=>exact ⟨l,q,rfl,h.1,h.2⟩
def GY(k l:Nat):Nat:=l / 2 ^ k % 2
theorem zw(k l:Nat):GY k l < 2:=Nat.mod_lt _ 1e4
def chs(k b:Nat)(L:1e1):1e1:=L.filter fun l=>decide (GY k l=b)
theorem Ju{b l:Nat}{L:1e1}:l∈chs k b L↔l∈L/\GY k l=b:=by
 unfold chs;rw [Qdx,Qcm]
def valN(k:Nat):1e1->Nat
 | []=>0
 | l::r=>GY k l + 2 * valN k r
def Zd9:1e1->Nat
 | []=>0
 | b::r=>b + 2 * Zd9 r
def gw(nx:6e0)(ok:8e8)(W:13e7)(s l:Nat):Bool:=match W with
 | none=>ok s l
 | some W=>decide (nx s l∈W)
def goB(nx:6e0)(ok:8e8)(W:13e7)(S L:1e1):1e1:=S.filter fun s=>L.any fun l=>gw nx ok W s l
theorem yz{W:13e7}{L:1e1}{s:Nat}:s∈goB nx ok W S L↔s∈S/\∃l∈L,gw nx ok W s l=true:=by
 unfold goB;rw [Qdx,Qei]
def cho(k:Nat):1e1->2e4->2e4
 | b::bs,L::Ls=>chs k b L::cho k bs Ls
 | _,_=>[]
def vN(nx:6e0)(ok:8e8)(k:Nat)(W:13e7)(S L:1e1):Nat:=if goB nx ok W S (chs k 0 L)=[] then 1 else 0
def lwb(nx:6e0)(ok:8e8)(k:Nat):2e4->2e4->1e1 × 13e7
 | S::q,L::Ls=>(vN nx ok k (lwb nx ok k q Ls).2 S L::(lwb nx ok k q Ls).1,some (goB nx ok (lwb nx ok k q Ls).2 S (chs k (vN nx ok k (lwb nx ok k q Ls).2 S L) L)))
 | _,_=>([],none)
def ki(nx:6e0)(S L:1e1):1e1:=(S.flatMap fun s=>L.map (nx s)).foldl Y0 []
def lys(nx:6e0):1e1->2e4->2e4
 | _,[]=>[]
 | S,L::Ls=>S::lys nx (ki nx S L) Ls
theorem GZ{L:1e1}{x:Nat}:x∈ki nx S L↔∃s∈S,∃l∈L,nx s l=x:=by
 unfold ki;rw [xF,Qhx]
 constructor
 ·rintro (h | ⟨s,hs,h⟩)
  ·cases h
  ·obtain ⟨l,hl,e⟩:=Qay.mp h
   exact ⟨s,hs,l,hl,e⟩
 ·rintro ⟨s,hs,l,hl,e⟩
  exact .inr ⟨s,hs,Qay.mpr ⟨l,hl,e⟩⟩
theorem Zea(W:13e7)(S L:1e1):vN nx ok k W S L<=1:=by
 unfold vN
 split <;> decide
theorem Zeb:∀{bs:1e1} {Ls:2e4} {r:1e1},bs.length=Ls.length->(RIn r (cho k bs Ls)↔RIn r Ls/\valN k r=Zd9 bs/\∀b∈bs,b < 2)\/¬∀b∈bs,b < 2
 | [],[],r,_=>.inl ⟨fun h=>⟨h,by cases r with | nil=>exact ⟨rfl,fun _ z=>nomatch z⟩ | cons _ _=>exact h.elim⟩,fun h=>h.1⟩
 | b::bs,L::Ls,r,h=>by
  by_cases hb:∀x∈b::bs,x < 2
  ·refine .inl ⟨fun q=>?_,fun ⟨D,G,_⟩=>?_⟩
   ·obtain ⟨l,C,rfl,h1,h2⟩:=q.uncons
    obtain ⟨O,J⟩:=Ju.mp h1;rcases Zeb (r:=C) (show bs.length=Ls.length by simpa using h) with z | z
    ·obtain ⟨I,Y,Z⟩:=z.mp h2
     exact ⟨⟨O,I⟩,by show GY k l + 2 * valN k C=b + 2 * Zd9 bs;rw [J,Y],hb⟩
    ·exact absurd (fun x hx=>hb x (Qal _ hx)) z
   ·obtain ⟨l,C,rfl,h1,h2⟩:=D.uncons
    have e:GY k l + 2 * valN k C=b + 2 * Zd9 bs:=G;have:=zw k l;have:=hb b Qar;rcases Zeb (r:=C) (show bs.length=Ls.length by simpa using h) with z | z
    ·exact ⟨Ju.mpr ⟨h1,by lia⟩,z.mpr ⟨h2,by lia,fun x hx=>hb x (Qal _ hx)⟩⟩
    ·exact absurd (fun x hx=>hb x (Qal _ hx)) z
  ·exact .inr hb
 | [],_::_,_,h=>9e1
 | _::_,[],_,h=>9e1
theorem wA:∀(Ls:2e4) (S:1e1),(23e4).1.length=Ls.length/\∀b∈(23e4).1,b < 2
 | [],_=>⟨rfl,fun _ h=>9e1⟩
 | L::Ls,S=>by
  obtain ⟨h1,h2⟩:=wA Ls (ki nx S L);refine ⟨congrArg (· + 1) h1,10e8⟩;rcases Qan.mp hb with rfl | hb
  ·exact Nat.lt_succ_of_le (Zea _ _ _)
  ·exact h2 b hb
theorem wB{Ls:2e4}{r:1e1}:RIn r (cho k (23e4).1 Ls)↔RIn r Ls/\valN k r=Zd9 (23e4).1:=by
 obtain ⟨h1,h2⟩:=wA (nx:=nx) (ok:=ok) (k:=k) Ls S;rcases Zeb (k:=k) (r:=r) h1 with z | z
 ·exact z.trans ⟨fun q=>⟨q.1,q.2.1⟩,fun q=>⟨q.1,q.2,h2⟩⟩
 ·exact absurd h2 z
structure LwOk(nx:6e0)(ok:8e8)(k:Nat)(Ls:2e4)(S:1e1)(W:1e1):Prop where
 w:(23e4).2=some W
 a:∀s,s∈W↔s∈S/\∃r,RIn r (cho k (23e4).1 Ls)/\Y7 nx ok s r=true
 b:∀s∈S,∀r,RIn r Ls->Y7 nx ok s r=true->Zd9 (23e4).1<=valN k r
 c:(∃s∈S,∃r,RIn r Ls/\Y7 nx ok s r=true)->W≠[]
theorem Zm3:∀(Ls:2e4) (S:1e1),Ls≠[]->∃W,LwOk nx ok k Ls S W
 | [],_,h=>absurd rfl h
 | L::Ls,S,_=>by
  have key:(∀s∈S,∀l∈L,(gw nx ok (29e0).2 s l=true↔∃C,RIn C (cho k (29e0).1 Ls)/\Y7 nx ok s (l::C)=true)) /\
    (∀s∈S,∀l∈L,∀C,RIn C Ls->Y7 nx ok s (l::C)=true->Zd9 (29e0).1<=valN k C) /\
    ((∃s∈S,∃l∈L,∃C,RIn C Ls/\Y7 nx ok s (l::C)=true)->∃s∈S,∃l∈L,gw nx ok (29e0).2 s l=true):=by
   cases Ls with
   | nil =>
    refine ⟨fun s hs l hl=>⟨fun h=>⟨[],trivial,h⟩,fun ⟨C,h1,h2⟩=>?_⟩,fun s hs l hl C _ _=>Qbe _,fun ⟨s,hs,l,hl,C,h1,h2⟩=>⟨s,hs,l,hl,?_⟩⟩
    ·cases C with
     | nil=>exact h2
     | cons _ _=>exact h1.elim
    ·cases C with
     | nil=>exact h2
     | cons _ _=>exact h1.elim
   | cons L' D =>
    obtain ⟨W,I⟩:=Zm3 (L'::D) (ki nx S L) (by simp);have ne:∀{C:List Nat} {M:List Nat} {Ms:List (List Nat)},RIn C (M::Ms)->C≠[]:=fun {C M Ms} h z=>by rw [z] at h;exact h
    have Z:∀{C:List Nat},RIn C (cho k (lwb nx ok k (lys nx (ki nx S L) (L'::D)) (L'::D)).1 (L'::D))->C≠[]:=fun {C} h=>ne (wB.mp h).1;refine ⟨fun s hs l hl=>?_,fun s hs l hl C h1 h2=>?_,fun ⟨s,hs,l,hl,C,h1,h2⟩=>?_⟩
    ·rw [I.w]
     show decide (nx s l∈W)=true↔_;rw [Qcm,I.a]
     constructor
     ·rintro ⟨_,C,h1,h2⟩
      exact ⟨C,h1,by rw [XJ (Z h1)];exact h2⟩
     ·rintro ⟨C,h1,h2⟩
      rw [XJ (Z h1)] at h2;exact ⟨GZ.mpr ⟨s,hs,l,hl,rfl⟩,C,h1,h2⟩
    ·rw [XJ (ne h1)] at h2
     exact I.b _ (GZ.mpr ⟨s,hs,l,hl,rfl⟩) C h1 h2
    ·rw [XJ (ne h1)] at h2
     have hW:=I.c ⟨_,GZ.mpr ⟨s,hs,l,hl,rfl⟩,C,h1,h2⟩;obtain ⟨x,hx⟩:=List.exists_mem_of_ne_nil _ hW;obtain ⟨s0,O,J,G,e⟩:=GZ.mp ((I.a x).mp hx).1;refine ⟨s0,O,J,G,?_⟩;rw [I.w];show decide (nx s0 J∈W)=true;rw [e];exact Qah hx
  obtain ⟨k1,k2,k3⟩:=key;have cl:=fun C=>wB (nx:=nx) (ok:=ok) (k:=k) (Ls:=Ls) (S:=ki nx S L) (r:=C);generalize hT:29e0=T at k1 k2 k3 cl;have e:lwb nx ok k (lys nx S (L::Ls)) (L::Ls)=(vN nx ok k T.2 S L::T.1,some (goB nx ok T.2 S (chs k (vN nx ok k T.2 S L) L))):=by rw [<-hT];rfl
  refine ⟨goB nx ok T.2 S (chs k (vN nx ok k T.2 S L) L),?_,?_,?_,?_⟩
  ·rw [e]
  ·intro s
   rw [e,yz]
   constructor
   ·rintro ⟨hs,l,hl,h⟩
    obtain ⟨C,h1,h2⟩:=(k1 s hs l (Ju.mp hl).1).mp h;exact ⟨hs,l::C,⟨hl,h1⟩,h2⟩
   ·rintro ⟨hs,r,h1,h2⟩
    obtain ⟨l,C,rfl,hl,Y⟩:=RIn.uncons h1;exact ⟨hs,l,hl,(k1 s hs l (Ju.mp hl).1).mpr ⟨C,Y,h2⟩⟩
  ·intro s hs r h1 h2
   obtain ⟨l,C,rfl,hl,Y⟩:=RIn.uncons h1;rw [e];show vN nx ok k T.2 S L + 2 * Zd9 T.1<=GY k l + 2 * valN k C;have q1:=k2 s hs l hl C Y h2;have q2:=Zea (nx:=nx) (ok:=ok) (k:=k) T.2 S L;rcases Qc9 (Zd9 T.1) (valN k C) with q | q
   ·lia
   ·have q3:valN k C=Zd9 T.1:=by lia
    have q4:=(k1 s hs l hl).mpr ⟨C,(cl C).mpr ⟨Y,q3⟩,h2⟩;have q5:vN nx ok k T.2 S L<=GY k l:=by
     unfold vN
     split
     ·rename_i hz
      have:=zw k l;have:GY k l≠0:=fun z=>by
       have:s∈goB nx ok T.2 S (chs k 0 L):=yz.mpr ⟨hs,l,Ju.mpr ⟨hl,z⟩,q4⟩;rw [hz] at this;cases this
      lia
     ·exact Qbe _
    lia
  ·rintro ⟨s,hs,r,h1,h2⟩ hz
   obtain ⟨l,C,rfl,hl,Y⟩:=RIn.uncons h1;obtain ⟨s0,O,J,G,h4⟩:=k3 ⟨s,hs,l,hl,C,Y,h2⟩;have no:∀b,GY k J=b->goB nx ok T.2 S (chs k b L)≠[]:=fun b hb z=>by
    have:s0∈goB nx ok T.2 S (chs k b L):=yz.mpr ⟨O,J,Ju.mpr ⟨G,hb⟩,h4⟩;rw [z] at this;cases this
   have h01:=zw k J;unfold vN at hz
   split at hz
   ·rename_i h0
    exact no 1 (by have:GY k J≠0:=fun z=>no 0 z h0;lia) hz
   ·rename_i h0
    exact h0 hz
end
def itL(nx:6e0)(ok:8e8)(b:Nat)(Ls:2e4):Nat->2e4
 | 0=>Ls
 | k + 1=>cho k (lwb nx ok k (lys nx [b] (14e7)) (14e7)).1 (14e7)
section
variable {nx:6e0}{ok:8e8}{b:Nat}{Ls:2e4}
def itB(nx:6e0)(ok:8e8)(b:Nat)(Ls:2e4)(k:Nat):Nat:=Zd9 (lwb nx ok k (lys nx [b] (14e7)) (14e7)).1
theorem Zec{k:Nat}{r:1e1}:RIn r (itL nx ok b Ls (k + 1))↔RIn r (14e7)/\valN k r=itB nx ok b Ls k:=wB
theorem qa{r:1e1}:∀{k:Nat},RIn r (14e7)->RIn r Ls/\∀j,j < k->valN j r=itB nx ok b Ls j
 | 0,h=>⟨h,fun j q=>absurd q (Qeg _)⟩
 | k + 1,h=>by
  obtain ⟨h1,h2⟩:=Zec.mp h;obtain ⟨C,D⟩:=qa h1;refine ⟨C,fun j q=>?_⟩
  by_cases e:j=k
  ·rw [e];exact h2
  ·exact D j 1e2
theorem Zed(C:Ls≠[])(h:∃r,RIn r Ls/\Y7 nx ok b r=true):∀k,14e7≠[]/\(∃r,RIn r (14e7)/\Y7 nx ok b r=true) /\
  ∀r,RIn r Ls->Y7 nx ok b r=true->RIn r (14e7)\/∃j,j < k/\(∀i,i < j->valN i r=itB nx ok b Ls i)/\itB nx ok b Ls j < valN j r
 | 0=>⟨C,h,fun r h1 _=>.inl h1⟩
 | k + 1=>by
  obtain ⟨O,⟨Z,g1,g2⟩,g3⟩:=Zed C h k;obtain ⟨W,I⟩:=Zm3 (nx:=nx) (ok:=ok) (k:=k) (14e7) [b] O;have hW:=I.c ⟨b,13e3,Z,g1,g2⟩;obtain ⟨x,hx⟩:=List.exists_mem_of_ne_nil _ hW;obtain ⟨hb,J,h1,h2⟩:=(I.a x).mp hx;rw [Qak.mp hb] at h2;refine ⟨fun z=>?_,⟨J,h1,h2⟩,fun r Y G=>?_⟩
  ·have h1:RIn J (itL nx ok b Ls (k + 1)):=h1
   have l1:=h1.len;have l2:=(Zec.mp h1).1.len;rw [z] at l1;cases hz:itL nx ok b Ls k with
   | nil=>exact O hz
   | cons _ _=>rw [hz,l1] at l2;cases l2
  ·rcases g3 r Y G with q | ⟨j,hj,q3,q4⟩
   ·have le:=I.b b (13e3) r q G
    rcases Qc9 (itB nx ok b Ls k) (valN k r) with D | D
    ·exact .inr ⟨k,Qcq k,(qa q).2,D⟩
    ·have le:itB nx ok b Ls k<=valN k r:=le
     exact .inl (Zec.mpr ⟨q,by lia⟩)
   ·exact .inr ⟨j,Qct hj,q3,q4⟩
end
theorem Zgw:∀{l m:Nat},l < 2 ^ n->m < 2 ^ n->(∀k,k < n->GY k l=GY k m)->l=m:=by
 induction n with
 | zero=>intro l m h1 h2 _;rw [Nat.pow_zero] at h1 h2;lia
 | succ n C =>
  intro l m h1 h2 h;have q:=h 0 (Nat.succ_pos _);unfold GY at q;rw [Nat.pow_zero,Nat.div_one,Nat.div_one] at q;have:=C (l:=l / 2) (m:=m / 2) (by rw [Nat.pow_succ] at h1;lia) (by rw [Nat.pow_succ] at h2;lia) fun k hk=>by
   have:=h (k + 1) (by lia);unfold GY at this ⊢;rw [Nat.pow_succ',<-Nat.div_div_eq_div_mul,<-Nat.div_div_eq_div_mul] at this;exact this
  lia
theorem Zee{n:Nat}:∀{r t:1e1},r.length=t.length->(∀l∈r,l < 2 ^ n)->(∀l∈t,l < 2 ^ n)->(∀k,k < n->valN k r=valN k t)->r=t
 | [],[],_,_,_,_=>rfl
 | l::r,m::t,h,h1,h2,q=>by
  have hb:∀k,k < n->GY k l=GY k m/\valN k r=valN k t:=fun k hk=>by
   have e:GY k l + 2 * valN k r=GY k m + 2 * valN k t:=q k hk;have:=zw k l;have:=zw k m;lia
  rw [Zgw (h1 l Qar) (h2 m Qar) fun k hk=>(hb k hk).1,Zee (by simpa using h) (fun x hx=>h1 x (Qal _ hx)) (fun x hx=>h2 x (Qal _ hx)) fun k hk=>(hb k hk).2]
 | [],_::_,h,_,_,_=>9e1
 | _::_,[],h,_,_,_=>9e1
structure xI(nx:6e0)(ok:8e8)(b n w:Nat)(r:1e1):Prop where
 len:r.length=w
 lt:∀l∈r,l < 2 ^ n
 last:Y7 nx ok b r=true
 fst:∀t:1e1,t.length=w->(∀l∈t,l < 2 ^ n)->Y7 nx ok b t=true->t=r\/∃j,j < n/\(∀i,i < j->valN i t=valN i r)/\valN j r < valN j t
theorem qN{n:Nat}:∀{w:Nat} {r:1e1},RIn r (List.replicate w (List.range n))↔r.length=w/\∀l∈r,l < n
 | 0,[]=>⟨fun _=>⟨rfl,fun _ h=>9e1⟩,fun _=>trivial⟩
 | 0,_::_=>⟨fun h=>h.elim,fun h=>nomatch h.1⟩
 | w + 1,[]=>⟨fun h=>h.elim,fun h=>nomatch h.1⟩
 | w + 1,l::r=>by
  rw [Qdd];show l∈List.range n/\RIn r _↔_;rw [qN,Qb5]
  constructor
  ·rintro ⟨h1,h2,q⟩
   refine ⟨congrArg (· + 1) h2,fun x hx=>?_⟩;rcases Qan.mp hx with rfl | hx
   ·exact h1
   ·exact q x hx
  ·rintro ⟨h1,h2⟩
   exact ⟨h2 l Qar,by simpa using h1,fun x hx=>h2 x (Qal _ hx)⟩
theorem vO:∀{r:1e1} {Ls:2e4},RIn r Ls->RIn (Ls.map fun L=>L.headD 0) Ls
 | [],[],_=>trivial
 | l::r,L::Ls,h=>by
  refine ⟨?_,vO h.2⟩;cases L with
  | nil=>exact nomatch h.1
  | cons x L=>exact Qar
 | [],_::_,h=>h.elim
 | _::_,[],h=>h.elim
theorem Zef{nx:6e0}{ok:8e8}{b w:Nat}(hw:0 < w)(h:∃r,r.length=w/\(∀l∈r,l < 2 ^ n)/\Y7 nx ok b r=true) :
  xI nx ok b n w ((itL nx ok b (List.replicate w (List.range (2 ^ n))) n).map fun L=>L.headD 0):=by
 have C:List.replicate w (List.range (2 ^ n))≠[]:=fun z=>by
  have:=congrArg List.length z;rw [Qa3] at this;have:w=0:=this;lia
 obtain ⟨r,h1,h2,h3⟩:=h;obtain ⟨_,⟨O,D,g2⟩,g3⟩:=Zed (nx:=nx) (ok:=ok) (b:=b) C ⟨r,qN.mpr ⟨h1,h2⟩,h3⟩ n;have hh:=vO D;obtain ⟨a1,a2⟩:=qa D;obtain ⟨b1,b2⟩:=qa hh;have q:=qN.mp a1;have G:=qN.mp b1;have e:O=(itL nx ok b (List.replicate w (List.range (2 ^ n))) n).map fun L=>L.headD 0:=Zee (n:=n) (by rw [q.1,G.1]) q.2 G.2 fun k hk=>by rw [a2 k hk,b2 k hk]
 rw [<-e];refine ⟨q.1,q.2,g2,fun t I t2 Z=>?_⟩;rcases g3 t (qN.mpr ⟨I,t2⟩) Z with z | ⟨j,J,Y,z2⟩
 ·obtain ⟨d1,d2⟩:=qa z
  exact .inl (Zee (n:=n) (by rw [I,q.1]) t2 q.2 fun k hk=>by rw [d2 k hk,a2 k hk])
 ·exact .inr ⟨j,J,fun i hi=>by rw [Y i hi,a2 i 1e2],by rw [a2 j J];exact z2⟩
structure RgO(R:2e4)(kk:Nat->Nat):Prop where
 e:∀i,i<=R.length->Zmy R 0 i=List.range (kk i)
 go:∀i,i < R.length->i < kk i
 le:∀i,i<=R.length->kk i<=R.length
 z:kk 0=1
theorem RgO.step{R:2e4}{kk:Nat->Nat}(G:RgO R kk)(hi:i < R.length):(16e6).foldl Y0 17e2=List.range (kk (i + 1)):=by
 have h:=G.e (i + 1) hi;have h2:Zmx R (Zmy R 0 i) i=List.range (kk (i + 1)):=h;rw [G.e i (Qa0 hi)] at h2;unfold Zmx at h2;rw [show (17e2).getD i 0=i by rw [Qap,Qca (G.go i hi)];rfl] at h2;exact h2
theorem RgO.part{R:2e4}{kk:Nat->Nat}(G:RgO R kk)(hi:i < R.length)(j:Nat):∃k,25e3=List.range k/\kk i<=k/\k<=kk (i + 1):=by
 have h:=G.step hi;have e:(16e6).foldl Y0 17e2=((16e6).drop j).foldl Y0 (25e3):=by rw [<-Qdf,Qdh]
 obtain ⟨r,e2⟩:=GR ((16e6).drop j) (25e3);obtain ⟨D,e3⟩:=GR ((16e6).take j) 17e2;rw [e,e2] at h;have q:=congrArg List.length e3;have C:=congrArg List.length h;rw [Qae,Qax] at q;rw [Qae,Qax] at C;refine ⟨(25e3).length,?_,by lia,by lia⟩;have:=congrArg (List.take (25e3).length) h;rw [List.take_left,List.take_range,Qfz 1e2] at this;exact this
theorem RgO.more{R:2e4}{kk:Nat->Nat}(G:RgO R kk)(hi:i < R.length){j k t:Nat}(q:16e6[j]?=some t)(hk:25e3=List.range k) :
  (t < k/\((16e6).take (j + 1)).foldl Y0 17e2=List.range k)\/(t=k/\((16e6).take (j + 1)).foldl Y0 17e2=List.range (k + 1)):=by
 have e:((16e6).take (j + 1)).foldl Y0 17e2=Y0 (List.range k) t:=by rw [take_snoc q,Qdf,hk];rfl
 rcases Qc9 t k with h | h
 ·exact .inl ⟨h,by rw [e];exact Qaw (Qb5.mpr h)⟩
 ·have e1:Y0 (List.range k) t=List.range k++[t]:=Qau fun z=>absurd (Qb5.mp z) 1e2
  obtain ⟨C,e2,_,_⟩:=G.part hi (j + 1);rw [e,e1] at e2;have hl:=congrArg List.length e2;rw [Qae,Qax,Qax] at hl;have hl:k + 1=C:=hl;subst hl;rw [Qec] at e2;have:=(List.append_inj e2 rfl).2;injection this with this;exact .inr ⟨this,by rw [e,e1,this,Qec]⟩
def dwN(kk:Nat->Nat):Nat->1e1
 | 0=>[1]
 | i + 1=>dwN kk i++List.replicate (kk (i + 1) - kk i) (11e3 + 1)
section
variable {R:2e4}{kk:Nat->Nat}
theorem qO(G:RgO R kk):∀i,i<=R.length->13e2=kk i
 | 0,_=>G.z.symm
 | i + 1,h=>by
  have q:=qO G i 1e2;obtain ⟨k,_,h1,h2⟩:=G.part (show i < R.length from h) 0;show (dwN kk i++_).length=_;rw [Qae,Qa3,q];lia
theorem WJ{t:Nat}(h:t < 13e2):(20e6).getD t 0=(3e4).getD t 0:=by
 show (dwN kk i++_).getD t 0=_;rw [Qap,Qa9 h,Qap]
theorem y0{t:Nat}(h:13e2<=t)(h2:t < (20e6).length):(20e6).getD t 0=11e3 + 1:=by
 have h2:t < (dwN kk i++List.replicate (kk (i + 1) - kk i) (11e3 + 1)).length:=h2;rw [Qae,Qa3] at h2;show (dwN kk i++_).getD t 0=_;rw [Qap,Qa2 h,Qd5,Qaw 1e2]
 rfl
theorem uh{i:Nat}:∀(d:Nat) {t:Nat},t < 13e2->(dwN kk (i + d)).getD t 0=(3e4).getD t 0/\t < (dwN kk (i + d)).length
 | 0,t,h=>⟨rfl,h⟩
 | d + 1,t,h=>by
  obtain ⟨h1,h2⟩:=uh d h;refine ⟨by rw [<-h1];exact WJ h2,?_⟩;show t < (dwN kk (i + d)++_).length;rw [Qae];lia
structure DwOk(R:2e4)(kk:Nat->Nat)(L i:Nat):Prop where
 mono:∀t t',t<=t'->t' < 13e2->(3e4).getD t 0<=(3e4).getD t' 0
 top:∀j,j < i->∀t,t < 13e2->(j + 1=i->(3e4).getD t 0<=(3e4).getD j 0 + 1)
 way:∀t,t < 13e2->∃ls:1e1,15e1=(3e4).getD t 0/\(∀x∈ls,x < L)/\stN R 0 ls=t
 edge:∀j,j < i->∀t∈R.getD j [],t < 13e2/\(3e4).getD t 0<=(3e4).getD j 0 + 1
theorem Zm4(G:RgO R kk){L:Nat}(hr:∀r∈R,r.length=L):∀i,i<=R.length->DwOk R kk L i
 | 0,_=>by
  have one:∀t,t < (dwN kk 0).length->t=0:=fun t h=>Nat.lt_one_iff.mp h;refine ⟨fun t t' h h'=>?_,fun j Y=>absurd Y (Qeg _),fun t h=>⟨[],?_,(7e8),?_⟩,fun j Y=>absurd Y (Qeg _)⟩
  ·rw [one t 1e2,one t' h']
   exact Qai _
  ·rw [one t h];rfl
  ·rw [one t h];rfl
 | i + 1,h=>by
  have I:=Zm4 G hr i 1e2;have hl:=qO G i 1e2;have hl2:=qO G (i + 1) h;have hi:i < R.length:=h;have J:i < 13e2:=by rw [hl];exact G.go i hi
  have all:∀t,t < 13e2->(3e4).getD t 0<=11e3 + 1:=fun t C=>by
   cases i with
   | zero =>
    have h1:t < 1:=C;have:t=0:=by lia
    rw [this];exact Qd3 _
   | succ j =>
    have h1:=I.top j (Qcq j) t C rfl;have h2:=I.mono j (j + 1) (Qd3 _) J;lia
  have vi:(20e6).getD i 0=11e3:=WJ J;have Z:∀t,t < (20e6).length->(20e6).getD t 0<=11e3 + 1:=fun t C=>by
   rcases Qc9 t 13e2 with q | q
   ·rw [WJ q]
    exact all t q
   ·rw [y0 q C]
    exact Qai _
  refine ⟨fun t t' htt ht'=>?_,fun j Y t C e=>?_,fun t C=>?_,fun j Y t C=>?_⟩
  ·rcases Qc9 t' 13e2 with q | q
   ·rw [WJ q,WJ 1e2]
    exact I.mono t t' htt q
   ·rw [y0 q ht']
    exact Z t 1e2
  ·have:j=i:=by lia
   rw [this,vi];exact Z t C
  ·rcases Qc9 t 13e2 with q | q
   ·rw [WJ q]
    exact I.way t q
   ·rw [y0 q C]
    obtain ⟨ls,h1,h2,h3⟩:=I.way i J;have D:t∈(16e6).foldl Y0 17e2:=by rw [G.step hi];exact Qb5.mpr 1e2
    rcases (xF _ _).mp D with z | z
    ·exact absurd (Qb5.mp z) 1e2
    ·obtain ⟨c,hc⟩:=Qc6 z
     have hcl:c < L:=by
      have:=(Qaf.mp hc).1;rw [hr _ (getD_mem hi)] at this;exact this
     refine ⟨ls++[c],by rw [Qae,<-h1];rfl,fun x hx=>?_,?_⟩
     ·rcases Qaz.mp hx with y | y
      ·exact h2 x y
      ·rw [Qak.mp y];exact hcl
     ·rw [WI,h3,Qap (l:=R.getD i []),hc]
      rfl
  ·by_cases e:j=i
   ·rw [e] at C ⊢
    have D:t∈(16e6).foldl Y0 17e2:=(xF _ _).mpr (.inr C);rw [G.step hi] at D;have O:t < (20e6).length:=by rw [hl2];exact Qb5.mp D
    exact ⟨O,by rw [vi];exact Z t O⟩
   ·obtain ⟨h1,h2⟩:=I.edge j 1e2 t C
    have h3:(20e6).getD j 0=(3e4).getD j 0:=WJ 1e2;rw [WJ h1,h3];refine ⟨?_,h2⟩;show t < (dwN kk i++_).length;rw [Qae];lia
theorem wC(G:RgO R kk)(hr:∀r∈R,r.length=L){ok:8e8}{c:Nat}(hi:i < R.length)(hc:c < L)(ht:ok i c=true)(O:∀j,j < i->∀c,c < L->ok j c=false) :
  1<=11e3/\(∃ls:1e1,15e1=11e3/\(∀x∈ls,x < L)/\ok (stN R 0 ls) c=true)/\∀(ls:1e1) (d:Nat),(∀x∈ls,x < L)->d < L->ok (stN R 0 ls) d=true->11e3<=15e1:=by
 have D:=Zm4 G hr i (Qa0 hi);have hl:=qO G i (Qa0 hi);have Y:i < 13e2:=by rw [hl];exact G.go i hi
 obtain ⟨ls,h1,h2,h3⟩:=D.way i Y;refine ⟨by lia,⟨ls,h1,h2,by rw [h3];exact ht⟩,fun ls d Z hd C=>?_⟩;have hge:i<=stN R 0 ls:=by
  rcases Qc9 (stN R 0 ls) i with q | q
  ·rw [O _ q d hd] at C
   cases C
  ·exact q
 have key:∀n,n<=ls.length->(∃m,m<=n/\i<=stN R 0 (ls.take m)/\11e3<=m + 1)\/(stN R 0 (ls.take n) < i/\(3e4).getD (stN R 0 (ls.take n)) 0<=n + 1):=by
  intro n
  induction n with
  | zero =>
   intro _;rcases Nat.eq_zero_or_pos i with q | q
   ·refine .inl ⟨0,Qai _,by lia,?_⟩
    rw [q];exact Qai _
   ·refine .inr ⟨q,?_⟩
    have h:=uh (kk:=kk) (i:=0) i (t:=0) Nat.one_pos;rw [Nat.zero_add] at h;show (dwN kk i).getD 0 0<=1;rw [h.1];exact Qai _
  | succ n ih =>
   intro hn;rcases ih (by lia) with ⟨m,hm,J,q2⟩ | ⟨J,q2⟩
   ·exact .inl ⟨m,by lia,J,q2⟩
   ·have hx:ls[n]?=some (ls.getD n 0):=getD_at (by lia)
    have hxl:ls.getD n 0 < L:=Z _ (Qam hx);have e:stN R 0 (ls.take (n + 1))=(R.getD (stN R 0 (ls.take n)) []).getD (ls.getD n 0) 0:=by rw [take_snoc hx,WI]
    have hrow:(R.getD (stN R 0 (ls.take n)) []).length=L:=hr _ (getD_mem (by lia));have I:stN R 0 (ls.take (n + 1))∈R.getD (stN R 0 (ls.take n)) []:=by
     rw [e];exact Qam (getD_at (d:=0) (by lia))
    obtain ⟨g1,g2⟩:=D.edge _ J _ I;rcases Qc9 (stN R 0 (ls.take (n + 1))) i with q | q
    ·exact .inr ⟨q,by lia⟩
    ·exact .inl ⟨n + 1,Qai _,q,by have:=D.mono i _ q g1;lia⟩
 rcases key ls.length (Qai _) with ⟨m,hm,_,q⟩ | ⟨q,_⟩
 ·lia
 ·rw [Qbi] at q
  lia
end
def dwK(vs:1e1):4e4:=(List.range vs.length).map fun t:Nat=>((Sum.inl (t:Int):Key),V.int ((vs.getD t 0:Nat):Int))
theorem Zlf(vs:1e1):(dwK vs).length=vs.length:=by unfold dwK;rw [Qac,Qax]
theorem Zgx(vs:1e1)(x:Nat):dwK (vs++[x])=dwK vs++[(Sum.inl (vs.length:Int),V.int (x:Int))]:=by
 unfold dwK;rw [Qae,show [x].length=1 from rfl,Qec,Qbc];refine congr (congrArg _ (Qc1 fun t q=>?_)) ?_
 ·have:=Qb5.mp q
  rw [Qap,Qap,Qa9 this]
 ·show [(Sum.inl (vs.length:Int),V.int (((vs++[x]).getD vs.length 0:Nat):Int))]=_
  rw [Qap,Qa2 (Qai _),Qet]
  rfl
theorem y3(f:Nat->V)(t:Nat):∀n,Yg ((List.range n).map fun t:Nat=>((Sum.inl (t:Int):Key),f t)) (.inl (t:Int))=if t < n then some (f t) else none
 | 0=>rfl
 | n + 1=>by
  have C:=y3 f t n;have q:=y3 f n n;rw [Qau (Qbz _)] at q;rw [Qec,Qbc];show Yg (_++[((Sum.inl (n:Int):Key),f n)]) _=_;rw [Jl _ _ _ _ q,C]
  by_cases e:t=n
  ·rw [e,Qaw rfl,Qaw (Qcq n)]
  ·rw [Qau (fun z=>e (by injection z with z;exact Int.ofNat.inj z))]
   by_cases h:t < n
   ·rw [Qaw h,Qaw 1e2]
   ·rw [Qau h,Qau 1e2]
theorem zx(vs:1e1)(t:Nat):Yg (dwK vs) (.inl (t:Int))=if t < vs.length then some (.int ((vs.getD t 0:Nat):Int)) else none:=y3 (fun t=>V.int ((vs.getD t 0:Nat):Int)) t vs.length
theorem Zlg(vs:1e1)(x:Nat):putK (dwK vs) (.inl (vs.length:Int)) (.int (x:Int))=dwK (vs++[x]):=by
 rw [jP _ (by rw [zx,Qau (Qbz _)]),Zgx]
theorem rgO_of[DecidableEq m]{nx:m->List m}{b:m}{l:List m}(B:BfE nx b l):RgO (rnG nx l) fun i=>(6e1).length:=by
 have C:=XI nx l;refine ⟨fun i hi=>?_,fun i hi=>B.go i (by rw [<-C];exact hi),fun i hi=>?_,rfl⟩
 ·rw [C] at hi
  rw [Zir B i hi];have D:∃r,l=bfN nx b i++r:=by
   obtain ⟨r,e⟩:=j7 (nx:=nx) (b:=b) i (l.length - i);rw [show i + (l.length - i)=l.length by lia,<-B.e] at e;exact ⟨r,e⟩
  obtain ⟨r,e⟩:=D;refine Qea fun j=>?_
  by_cases q:j < (6e1).length
  ·rw [Qaj,Qag q,Qca q]
   refine congrArg some (Jt B.nodup ?_);rw [e,Qa9 q,Qag q]
  ·rw [Qcg (by rw [Qac];lia),Qcg (by rw [Qax];lia)]
 ·rw [C] at hi ⊢
  obtain ⟨r,e⟩:=j7 (nx:=nx) (b:=b) i (l.length - i);rw [show i + (l.length - i)=l.length by lia,<-B.e] at e;have:=congrArg List.length e;rw [Qae] at this;lia
def mN(R:2e4)(s c:Nat):Nat:=(R.getD s []).getD c 0
def mB(O:5e8)(v:V)(s c:Nat):Bool:=decide ((O.getD s []).getD c .non=v)
theorem Xc(R:2e4)(ok:8e8):∀(ls:1e1) (s c:Nat),Y7 (mN R) ok s (ls++[c])=ok (stN R s ls) c
 | [],_,_=>rfl
 | l::ls,s,c=>by
  rw [Qfi,XJ 2e5];exact Xc R ok ls _ c
theorem Zm5{R:2e4}{kk:Nat->Nat}(G:RgO R kk):∀i,i<=R.length->∀t,(3e4).getD t 0<=t + 1
 | 0,_,0=>Qai _
 | 0,_,t + 1=>Qbe _
 | i + 1,h,t=>by
  have D:=Zm5 G i 1e2;rcases Qc9 t 13e2 with q | q
  ·rw [WJ q]
   exact D t
  ·rcases Qc9 t (20e6).length with C | C
   ·rw [y0 q C]
    have:=D i;have:=G.go i h;rw [qO G i 1e2] at q;lia
   ·rw [Qap,Qcg C]
    exact Qbe _
theorem Zeg:∀bs:List Bool,inV 8e9 (bs.map V.bl)=decide (true∈bs)
 | []=>rfl
 | b::bs=>by
  rw [Qa4];show (eqV (.bl b) 8e9 || inV 8e9 (bs.map V.bl))=_;rw [Zeg bs];cases b
  ·simp [eqV]
  ·simp [eqV]
theorem ixG_lt[DecidableEq m]{l:List m}{x:m}(h:x∈l):ixG l x < l.length:=Qef h
theorem Zix[DecidableEq m]{l:List m}{x:m}(h:x∈l):l[ixG l x]?=some x:=zr h
def pN(nx1 nx2:2e4)(k:1e5):List (1e5):=(Zao (nx1.getD (k.getD 0 0).toNat []) (nx2.getD (k.getD 1 0).toNat [])).map fun p=>[p.1,p.2]
def pO(ot1 ot2:5e8)(k:1e5):List V:=(((ot1.getD (k.getD 0 0).toNat []).zip (ot2.getD (k.getD 1 0).toNat [])).map fun q=>!decide (q.1=q.2)).map V.bl
def pK(i j:Nat):1e5:=[(i:Int),(j:Int)]
def pU(q C:Nat):List (1e5):=(List.range q).flatMap fun i=>(List.range C).map fun j=>pK i j
theorem qb{k:1e5}:k∈pU n L↔∃i j,i < n/\j < L/\k=pK i j:=by
 unfold pU;rw [Qhx]
 constructor
 ·rintro ⟨i,hi,h⟩
  obtain ⟨j,q,e⟩:=Qay.mp h;exact ⟨i,j,Qb5.mp hi,Qb5.mp q,e.symm⟩
 ·rintro ⟨i,j,hi,q,e⟩
  exact ⟨i,Qb5.mpr hi,Qay.mpr ⟨j,Qb5.mpr q,e.symm⟩⟩
theorem pU_len(C q:Nat):(pU C q).length=C * q:=by
 unfold pU;rw [List.length_flatMap];have:((List.range C).map fun i=>((List.range q).map fun j=>pK i j).length)=List.replicate C q:=by
  refine Qea fun i=>?_;rw [Qaj,Qd5]
  by_cases h:i < C
  ·rw [Qca h,Qaw h]
   show some ((List.range q).map fun j=>pK i j).length=_;rw [Qac,Qax]
  ·rw [Qcg (by rw [Qax];lia),Qau h]
   rfl
 rw [this,List.sum_replicate_nat]
section
variable {nx1 nx2:2e4}{ot1 ot2:5e8}{n:Nat}
theorem Zeh(C:Runs nx1 ot1 n)(R2:Runs nx2 ot2 n){j:Nat}(hi:i < nx1.length)(q:j < nx2.length):(pN nx1 nx2 (pK i j)).length=2 ^ n:=by
 have h1:=C.nr _ (getD_mem hi);have h2:=R2.nr _ (getD_mem q);show (List.map _ (Zao (nx1.getD ((i:Int)).toNat []) (nx2.getD ((j:Int)).toNat []))).length=_;rw [Qat,Qat];unfold Zao;rw [Qac,Qac,Qcp,h1,h2,Nat.min_self]
theorem Zm6(C:Runs nx1 ot1 n)(R2:Runs nx2 ot2 n){j c:Nat}(hi:i < nx1.length)(D:j < nx2.length)(hc:c < 2 ^ n):(pN nx1 nx2 (pK i j))[c]?=some (pK ((nx1.getD i []).getD c 0) ((nx2.getD j []).getD c 0)):=by
 have h1:=C.nr _ (getD_mem hi);have h2:=R2.nr _ (getD_mem D);show (List.map _ (Zao (nx1.getD ((i:Int)).toNat []) (nx2.getD ((j:Int)).toNat [])))[c]?=_;rw [Qat,Qat];unfold Zao;have q:((nx1.getD i []).zip (nx2.getD j []))[c]?=some ((nx1.getD i []).getD c 0,(nx2.getD j []).getD c 0):=Qdc.mpr ⟨getD_at 1e2,getD_at 1e2⟩;rw [Qaj,Qaj,q]
 rfl
theorem Zlh(q:Runs nx1 ot1 n)(R2:Runs nx2 ot2 n){k:1e5}(hk:k∈pU nx1.length nx2.length):∀x∈pN nx1 nx2 k,x∈pU nx1.length nx2.length:=by
 obtain ⟨i,j,hi,C,rfl⟩:=qb.mp hk;intro x hx;obtain ⟨c,hc⟩:=Qc6 hx;have hl:c < 2 ^ n:=by
  have:=(Qaf.mp hc).1;rw [Zeh q R2 hi C] at this;exact this
 rw [Zm6 q R2 hi C hl] at hc;have h1:=q.nr _ (getD_mem hi);have h2:=R2.nr _ (getD_mem C);exact qb.mpr ⟨_,_,q.nl _ (getD_mem hi) _ (Qam (getD_at (d:=0) 1e2)),R2.nl _ (getD_mem C) _ (Qam (getD_at (d:=0) 1e2)),(Option.some.inj hc).symm⟩
theorem pO_at(C:Runs nx1 ot1 n)(R2:Runs nx2 ot2 n){j c:Nat}(hi:i < nx1.length)(D:j < nx2.length)(hc:c < 2 ^ n):(pO ot1 ot2 (pK i j))[c]?=some (V.bl (!decide ((ot1.getD i []).getD c .non=(ot2.getD j []).getD c .non))):=by
 have h1:=C.or _ (getD_mem (show i < ot1.length by rw [C.ol];exact hi));have h2:=R2.or _ (getD_mem (show j < ot2.length by rw [R2.ol];exact D));show (List.map _ (List.map _ ((ot1.getD ((i:Int)).toNat []).zip (ot2.getD ((j:Int)).toNat []))))[c]?=_;rw [Qat,Qat];have q:((ot1.getD i []).zip (ot2.getD j []))[c]?=some ((ot1.getD i []).getD c .non,(ot2.getD j []).getD c .non):=Qdc.mpr ⟨getD_at 1e2,getD_at 1e2⟩;rw [Qaj,Qaj,q]
 rfl
theorem Ziy(q:Runs nx1 ot1 n)(R2:Runs nx2 ot2 n){j:Nat}(hi:i < nx1.length)(C:j < nx2.length):(pO ot1 ot2 (pK i j)).length=2 ^ n:=by
 have h1:=q.or _ (getD_mem (show i < ot1.length by rw [q.ol];exact hi));have h2:=R2.or _ (getD_mem (show j < ot2.length by rw [R2.ol];exact C));show (List.map _ (List.map _ ((ot1.getD ((i:Int)).toNat []).zip (ot2.getD ((j:Int)).toNat [])))).length=_;rw [Qat,Qat,Qac,Qac,Qcp,h1,h2,Nat.min_self]
theorem prd_in{b1 b2:Nat}(D:Runs nx1 ot1 n)(R2:Runs nx2 ot2 n)(q:b1 < nx1.length)(C:b2 < nx2.length){l:List (1e5)}(B:26e6):∀k∈l,k∈pU nx1.length nx2.length:=fun k hk=>by
 rw [B.e] at hk;exact uX (qb.mpr ⟨b1,b2,q,C,rfl⟩) (fun s hs x hx=>Zlh D R2 hs x hx) _ k hk
theorem prd_st{b1 b2:Nat}(q:Runs nx1 ot1 n)(R2:Runs nx2 ot2 n)(C:b1 < nx1.length)(G:b2 < nx2.length){l:List (1e5)}(B:26e6):∀{ls:1e1},(∀x∈ls,x < 2 ^ n)->pK (stN nx1 b1 ls) (stN nx2 b2 ls)∈l/\stN (rnG (pN nx1 nx2) l) 0 ls=ixG l (pK (stN nx1 b1 ls) (stN nx2 b2 ls))/\stN nx1 b1 ls < nx1.length/\stN nx2 b2 ls < nx2.length:=by
 intro ls;generalize hn:ls.length=m
 induction m generalizing ls with
 | zero =>
  intro _;rw [Qbu hn];exact ⟨B.begin.2,B.zero.symm,C,G⟩
 | succ m Z =>
  intro h;obtain ⟨I,c,rfl⟩:∃I c,ls=I++[c]:=⟨ls.dropLast,ls.getLast (fun z=>by rw [z] at hn;cases hn),(Qgq _).symm⟩;have D:I.length=m:=by rw [Qae] at hn;exact Nat.succ.inj hn
  obtain ⟨Y,g2,J,O⟩:=Z D fun x hx=>h x (Qcd _ hx);have hc:=h c (Qba _ (Qak.mpr rfl));have e:=Zm6 q R2 J O hc;have nx:=B.next Y (Qam e);have h1:=q.nr _ (getD_mem J);have h2:=R2.nr _ (getD_mem O);rw [WI,WI,WI,g2];refine ⟨nx,?_,q.nl _ (getD_mem J) _ (Qam (getD_at (d:=0) (by lia))),R2.nl _ (getD_mem O) _ (Qam (getD_at (d:=0) (by lia)))⟩;rw [Zdw (fun s hs x hx=>B.next hs hx) Y,Qap,Qaj,e]
  rfl
theorem Zli{b1 b2:Nat}(G:Runs nx1 ot1 n)(R2:Runs nx2 ot2 n)(C:b1 < nx1.length)(D:b2 < nx2.length){l:List (1e5)}(B:26e6){ls:1e1}{c:Nat}(h:∀x∈ls++[c],x < 2 ^ n) :
  33e6=decide ((ot1.getD (stN nx1 b1 ls) []).getD c .non≠(ot2.getD (stN nx2 b2 ls) []).getD c .non):=by
 rw [Xc];obtain ⟨I,J,O,Y⟩:=prd_st G R2 C D B (ls:=ls) fun x hx=>h x (Qcd _ hx);have hc:=h c (Qba _ (13e3));unfold mB;rw [J,Qap (l:=l.map (pO ot1 ot2)),Qaj,Zix I];show decide ((pO ot1 ot2 (pK (stN nx1 b1 ls) (stN nx2 b2 ls))).getD c .non=.bl true)=_;rw [Qap,pO_at G R2 O Y hc];show decide (V.bl _=V.bl true)=_;generalize (ot1.getD (stN nx1 b1 ls) []).getD c .non=x;generalize (ot2.getD (stN nx2 b2 ls) []).getD c .non=y
 by_cases z:x=y
 ·subst z
  rw [Qah rfl,Qao (p:=x≠x) (fun q=>q rfl)];exact Qao fun q=>by injection q with q;cases q
 ·rw [Qao z,Qah (p:=x≠y) z]
  exact Qah rfl
theorem Zgy{b1 b2:Nat}(D:Runs nx1 ot1 n)(R2:Runs nx2 ot2 n)(G:b1 < nx1.length)(I:b2 < nx2.length){l:List (1e5)}(B:26e6):Runs (rnG (pN nx1 nx2) l) (l.map (pO ot1 ot2)) n:=by
 have q:=prd_in D R2 G I B;have hpos:0 < l.length:=Qez B.begin.2;refine ⟨by rw [XI];exact hpos,by rw [XI,Qac],fun r hr=>?_,fun r hr x hx=>?_,fun r hr=>?_⟩
 ·obtain ⟨k,hk,rfl⟩:=Qay.mp hr
  obtain ⟨i,j,hi,C,rfl⟩:=qb.mp (q k hk);rw [Qac,Zeh D R2 hi C]
 ·obtain ⟨k,hk,rfl⟩:=Qay.mp hr
  obtain ⟨y,J,rfl⟩:=Qay.mp hx;rw [XI];exact ixG_lt (B.next hk J)
 ·obtain ⟨k,hk,rfl⟩:=Qay.mp hr
  obtain ⟨i,j,hi,C,rfl⟩:=qb.mp (q k hk);exact Ziy D R2 hi C
end
def twK(l:1e1):4e4:=l.map fun s:Nat=>((Sum.inl (s:Int):Key),V.bl true)
theorem y4(s:Nat):∀l:1e1,(Yg (twK l) (.inl (s:Int))).isSome=decide (s∈l)
 | []=>rfl
 | x::l=>by
  show (Yg ((Sum.inl (x:Int),V.bl true)::twK l) _).isSome=_
  by_cases e:x=s
  ·subst e
   rw [Yb rfl];exact (Qah Qar).symm
  ·rw [ZU (fun z=>e (by injection z with z;exact Int.ofNat.inj z)),y4 s l]
   exact decide_eq_decide.mpr ⟨fun h=>Qal _ h,fun h=>(Qan.mp h).elim (fun z=>absurd z.symm e) id⟩
theorem Zei(l:1e1)(s:Nat):putK (twK l) (.inl (s:Int)) 8e9=twK (Y0 l s):=by
 by_cases h:s∈l
 ·have e:Y0 l s=l:=Qaw h
  rw [e];unfold putK;have hs:(Yg (twK l) (.inl (s:Int))).isSome=true:=by rw [y4];exact Qah h
  rw [Qaw (by rw [XS];exact hs)];refine Qea fun i=>?_;unfold twK;rw [Qaj,Qaj];cases l[i]? with
  | none=>rfl
  | some x =>
   show some (if (Sum.inl (x:Int):Key)=.inl (s:Int) then ((Sum.inl (x:Int):Key),V.bl true) else (Sum.inl (x:Int),V.bl true))=_
   split <;> rfl
 ·have e:Y0 l s=l++[s]:=Qau h
  rw [e,jP _ (by
   have:=y4 s l;rw [Qao h] at this;cases q:Yg (twK l) (.inl (s:Int)) with
   | none=>rfl
   | some y=>rw [q] at this;cases this)]
  unfold twK;rw [Qbc]
  rfl
theorem zy(l:1e1):(twK l).length=l.length:=Qac _
def jA(H:Hp)(q:V)(W:13e7):Prop:=(W=none/\q=.non)\/∃d l,W=some l/\q=.ref d/\Rd H d (.dK (twK l))
def SmF(H H':Hp):Prop:=∀b o,10e9->12e4\/∃kvs u,o=.dK kvs/\H' b=some (.frz u 4e1)
theorem SmF.of{H':Hp}(s:ZC H H'):SmF H H':=fun b o e=>.inl (s b o e)
theorem SmF.at{H':Hp}(s:SmF H H'){b:Addr}{o:HO}(e:10e9)(h:∀kvs,o≠.dK kvs):12e4:=by
 rcases s b o e with z | ⟨kvs,u,z,_⟩
 ·exact z
 ·exact absurd z (h kvs)
theorem SmF.tup{H H':Hp}(s:SmF H H'){b:Addr}{xs:List V}(e:H b=2e2):H' b=2e2:=s.at e 7e8
theorem SmF.lst{H H':Hp}(s:SmF H H'){b:Addr}{xs:List V}(e:H b=16e5):H' b=16e5:=s.at e 7e8
theorem SmF.trans{H2:Hp}(s:SmF H g)(t:SmF g H2):SmF H H2:=fun b o e=>by
 rcases s b o e with z | ⟨kvs,u,rfl,z⟩
 ·exact t b o z
 ·exact .inr ⟨kvs,u,rfl,t.at z fun _ q=>nomatch q⟩
theorem SmF.rd{H':Hp}(s:SmF H H'){d:Addr}{kvs:4e4}(h:Rd H d 4e1):Rd H' d 4e1:=by
 rcases h with h | ⟨u,h⟩
 ·rcases s d _ h with z | ⟨C,u,z,e⟩
  ·exact .inl z
  ·cases z
   exact .inr ⟨u,e⟩
 ·exact .inr ⟨u,s.at h fun _ q=>nomatch q⟩
theorem SmF.well{H':Hp}(s:SmF H H'){W:13e7}(h:jA H w W):jA H' w W:=by
 rcases h with h | ⟨d,l,h1,h2,q⟩
 ·exact .inl h
 ·exact .inr ⟨d,l,h1,h2,s.rd q⟩
theorem SmF.free{H':Hp}(s:SmF H H'){p:Addr}(h:H' p=none):H p=none:=by
 cases e:H p with
 | none=>rfl
 | some o =>
  rcases s p o e with z | ⟨_,_,_,z⟩
  ·rw [h] at z;cases z
  ·rw [h] at z;cases z
theorem SmF.frz{H:Hp}{a:Addr}{kvs:4e4}{u:Obj}(h:Rd H a 4e1)(hu:∀o,H a=some 18e2->o=u):SmF H (upd H a (.frz u 4e1)):=fun b o e=>by
 by_cases q:b=a
 ·subst q
  rcases h with h | ⟨C,h⟩
  ·rw [h] at e
   cases e;exact .inr ⟨kvs,u,rfl,Za⟩
  ·rw [h] at e
   cases e;rw [hu C h];exact .inl Za
 ·exact .inl (by rw [Zh q];exact e)
theorem SmF.put{H':Hp}(s:SmF H H'){p:Addr}(hp:H p=none){o:HO}:SmF H (upd H' p o):=fun b u e=>by
 rcases s b u e with z | ⟨kvs,w,q,z⟩
 ·exact .inl (by rw [Zh (Zj e hp)];exact z)
 ·exact .inr ⟨kvs,w,q,by rw [Zh (Zj e hp)];exact z⟩
theorem M4.smf{H':Hp}{m:Addr}{b:Nat}{nx:2e4}{ot:5e8}(M:M4 H m N b nx ot)(s:SmF H H'):M4 H' m N b nx ot:=M.tups fun b xs e=>s.tup e
theorem wD{r:1e1}{c:Nat}(h:c < r.length):(zP r)[c]?=some (YU (r.getD c 0)):=by
 unfold zP;rw [Qaj,getD_at (d:=0) h]
 rfl
def vP(H:Hp)(p:Addr)(Ls:2e4):Prop:=∃as:List V,H p=some (.lst as)/\as.length=Ls.length/\∀(i:Nat) (L:1e1),Ls[i]?=some L->∃a,as[i]?=some (V.ref a)/\H a=some (.tup (L.map YU))
theorem vP.smf{H':Hp}{p:Addr}{Ls:2e4}(h:vP H p Ls)(s:SmF H H'):vP H' p Ls:=by
 obtain ⟨as,h1,h2,C⟩:=h;refine ⟨as,s.lst h1,h2,fun i L hi=>?_⟩;obtain ⟨a,q,D⟩:=C i L hi;exact ⟨a,q,s.tup D⟩
def Ze8(H:Hp)(p:Addr)(q:2e4):Prop:=∃as:List V,H p=some (.lst as)/\as.length=q.length/\∀(i:Nat) (S:1e1),q[i]?=some S->∃a,as[i]?=some (V.ref a)/\Rd H a (.dK (twK S))
theorem Ze8.smf{H':Hp}{p:Addr}{q:2e4}(h:Ze8 H p q)(s:SmF H H'):Ze8 H' p q:=by
 obtain ⟨as,h1,h2,D⟩:=h;refine ⟨as,s.lst h1,h2,fun i L hi=>?_⟩;obtain ⟨a,C,G⟩:=D i L hi;exact ⟨a,C,s.rd G⟩
def Zm7(q b:Nat):V->Bool
 | .int z=>decide (GY q z.toNat=b)
 | _=>false
theorem z5(q b:Nat):∀L:1e1,(L.map YU).filter (Zm7 q b)=(chs q b L).map YU
 | []=>rfl
 | l::L=>by
  have C:=z5 q b L;have e:Zm7 q b (YU l)=decide (GY q l=b):=by
   show decide (GY q (l:Int).toNat=b)=_;rw [Qat]
  unfold chs at C ⊢;rw [Qa4,Qcr,Qcr,e,C]
  by_cases h:GY q l=b
  ·rw [Qah h,Qaw rfl,Qaw rfl,Qa4]
  ·rw [Qao h,Qau 1e4,Qau 1e4]
theorem bit_of(l q b:Nat):decide (V.int (Builtin.bitAnd ((l:Int) / 2 ^ ((q:Int)).toNat) 1)=V.int (b:Int))=Zm7 q b (YU l):=by
 show _=decide (GY q (l:Int).toNat=b);rw [and_1,Qat,Qat];have e:(l:Int) / 2 ^ q % 2=((GY q l:Nat):Int):=by
  unfold GY;rw [Int.natCast_emod,Int.natCast_ediv,Qep]
  rfl
 rw [e];exact decide_eq_decide.mpr ⟨fun z=>by injection z with z;exact Int.ofNat.inj z,fun z=>by rw [z]⟩
theorem Zgz{nx:6e0}{ok:8e8}{W:13e7}{L:1e1}{s:Nat}(hs:S[i]?=some s):goB nx ok W (S.take (i + 1)) L=goB nx ok W (S.take i) L++if L.any (gw nx ok W s)=true then [s] else []:=by
 unfold goB;rw [take_snoc hs,Qd2,Qcr]
 rfl
theorem Zlj{nx:6e0}{ok:8e8}{W:13e7}{L:1e1}{s:Nat}(hn:S.Nodup)(hs:S[i]?=some s):s∉goB nx ok W (S.take i) L:=fun h=>by
 have h:=(yz.mp h).1;have hl:=(Qaf.mp hs).1;have:(S.take i++S.drop i).Nodup:=by rw [Qdh];exact hn
 refine (Qdg.mp this).2.2 s h s ?_ rfl;rw [Qcu hl,(Qaf.mp hs).2];exact Qar
theorem Zlk{nx:6e0}{ok:8e8}{W:13e7}{L:1e1}:(goB nx ok W S L).length<=S.length:=Qc0 _ _
theorem wF{nx:6e0}:∀(Ls:2e4) (S:1e1),(lys nx S Ls).length=Ls.length
 | [],_=>rfl
 | L::Ls,S=>congrArg (· + 1) (wF Ls (ki nx S L))
theorem uk{nx:6e0}:∀{Ls:2e4} {S q L:1e1} {i:Nat},(lys nx S Ls)[i]?=some q->Ls[i]?=some L->i + 1 < Ls.length->(lys nx S Ls)[i + 1]?=some (ki nx q L)
 | [],_,_,_,_,h,_,_=>9e1
 | [_],_,_,_,i,_,_,hl=>absurd hl (by show ¬i + 1 < 1;lia)
 | L0::C::Ls,S,q,L,0,h,h2,_=>by
  cases h;cases h2
  rfl
 | L0::C::Ls,S,q,L,i + 1,h,h2,hl=>uk (Ls:=C::Ls) (S:=ki nx S L0) (i:=i) h h2 (by have:i + 1 + 1 < Ls.length + 1 + 1:=hl;show i + 1 < Ls.length + 1;lia)
theorem Zad{nx:6e0}(S L:1e1):(ki nx S L).Nodup:=j5 _ _ Qdj
theorem Zej{nx:6e0}{N M:Nat}(hn:∀s l,s < N->l < M->nx s l < N):∀{Ls:2e4} {S:1e1},S.Nodup->(∀s∈S,s < N)->(∀L∈Ls,∀l∈L,l < M)->∀q∈lys nx S Ls,q.Nodup/\∀s∈q,s < N
 | [],_,_,_,_,_,h=>9e1
 | L::Ls,S,h1,h2,G,q,h=>by
  rcases Qan.mp h with rfl | h
  ·exact ⟨h1,h2⟩
  ·refine Zej hn (Zad S L) (fun s hs=>?_) (fun L O=>G L (Qal _ O)) q h
   obtain ⟨I,D,J,C,rfl⟩:=GZ.mp hs;exact hn _ _ (h2 I D) (G L Qar J C)
theorem Zek{N:Nat}(h1:S.Nodup)(h2:∀s∈S,s < N):S.length<=N:=by
 have:=X3 (l2:=List.range N) h1 fun s hs=>Qb5.mpr (h2 s hs);rw [Qax] at this;exact this
theorem Runs.mN{nx:2e4}{ot:5e8}{n:Nat}(R:Runs nx ot n){s l:Nat}(hs:s < nx.length)(hl:l < 2 ^ n):mN nx s l < nx.length:=by
 have l1:=R.nr _ (getD_mem hs);exact R.nl _ (getD_mem hs) _ (Qam (getD_at (d:=0) 1e2))
theorem Zll{N:Nat}{l:1e1}(h:∀s∈l,s < N):(l.foldl Y0 []).length<=N:=Zek (j5 _ _ Qdj) fun s hs=>by
 rcases (xF _ _).mp hs with z | z
 ·cases z
 ·exact h s z
theorem Zel{f:Nat->1e1}{j s:Nat}(hs:S[j]?=some s):(S.take (j + 1)).flatMap f=(S.take j).flatMap f++f s:=by
 rw [take_snoc hs,List.flatMap_append];congr 1;simp
theorem Ze8.more{H':Hp}{p e:Addr}{q:2e4}(h1:H p=some (.lst v))(h2:v.length=q.length)(J:∀(i:Nat) (S:1e1),q[i]?=some S->∃a,v[i]?=some (V.ref a)/\Rd H a (.dK (twK S)))(he:H e=some (.dK (twK S))):Ze8 (upd H p (.lst (v++[.ref e]))) p (q++[S]):=by
 have C:∀{a:Addr} {kvs:4e4},Rd H a 4e1->Rd (upd H p (.lst (v++[.ref e]))) a 4e1:=fun {a kvs} r=>by
  have ne:a≠p:=fun z=>by
   subst z;rcases r with r | ⟨_,r⟩ <;> rw [h1] at r <;> cases r
  rcases r with r | ⟨u,r⟩
  ·exact .inl (by rw [Zh ne];exact r)
  ·exact .inr ⟨u,by rw [Zh ne];exact r⟩
 refine ⟨_,Za,by rw [Qae,Qae,h2];rfl,fun i G hi=>?_⟩
 by_cases hl:i < q.length
 ·rw [Qa9 hl] at hi
  obtain ⟨a,I,O⟩:=J i G hi;exact ⟨a,by rw [Qa9 1e2];exact I,C O⟩
 ·rw [Qa2 1e2] at hi
  have D:i - q.length=0:=by
   have:=(Qaf.mp hi).1;have:i - q.length < 1:=this;lia
  rw [D] at hi;cases hi;exact ⟨e,by rw [Qa2 1e2,h2,D];rfl,C (.inl he)⟩
def qZ(H:Hp)(q:List V)(D:2e4):Prop:=q.length=D.length/\∀(i:Nat) (C:1e1),D[i]?=some C->∃a,q[i]?=some (V.ref a)/\H a=some (.tup (C.map YU))
theorem qZ.smf{H':Hp}{q:2e4}(h:qZ H v q)(s:13e4):qZ H' v q:=⟨h.1,fun i C hi=>by
 obtain ⟨a,D,G⟩:=h.2 i C hi;exact ⟨a,D,s _ _ G⟩⟩
theorem qZ.cons{H:Hp}{q:List V}{D:2e4}{C:1e1}{a:Addr}(h:qZ H q D)(ha:H a=some (.tup (C.map YU))):qZ H (.ref a::q) (C::D):=⟨congrArg (· + 1) h.1,fun i G hi=>by
 match i,hi with
 | 0,hi=>cases hi;exact ⟨a,rfl,ha⟩
 | i + 1,hi=>exact h.2 i G hi⟩
def lwT(nx:6e0)(ok:8e8)(k:Nat)(S:1e1)(Ls:2e4)(j:Nat):1e1 × 13e7:=lwb nx ok k ((lys nx S Ls).drop j) (Ls.drop j)
theorem Zem{nx:6e0}{ok:8e8}{k:Nat}{Ls:2e4}:lwT nx ok k S Ls Ls.length=([],none):=by
 unfold lwT;rw [Qfl];cases (lys nx S Ls).drop Ls.length <;> rfl
theorem Zg0{nx:6e0}{ok:8e8}{k:Nat}{q L:1e1}{Ls:2e4}{j:Nat}(h1:(lys nx S Ls)[j]?=some q)(h2:Ls[j]?=some L):lwT nx ok k S Ls j=(vN nx ok k (lwT nx ok k S Ls (j + 1)).2 q L::(lwT nx ok k S Ls (j + 1)).1,some (goB nx ok (lwT nx ok k S Ls (j + 1)).2 q (chs k (vN nx ok k (lwT nx ok k S Ls (j + 1)).2 q L) L))):=by
 unfold lwT;have e1:(lys nx S Ls).drop j=q::(lys nx S Ls).drop (j + 1):=by rw [Qcu (Qaf.mp h1).1,(Qaf.mp h1).2]
 have e2:Ls.drop j=L::Ls.drop (j + 1):=by rw [Qcu (Qaf.mp h2).1,(Qaf.mp h2).2]
 rw [e1,e2]
 rfl
theorem qP{l:List m}{j:Nat}{x:m}(h:l[j]?=some x):l.drop j=x::l.drop (j + 1):=by rw [Qcu (Qaf.mp h).1,(Qaf.mp h).2]
theorem Zen{k:Nat}:∀{bs:1e1} {Ls:2e4},∀C∈cho k bs Ls,∃L∈Ls,C.length<=L.length/\∀l∈C,l∈L
 | [],_,_,h=>by cases h
 | _::_,[],_,h=>by cases h
 | b::bs,L::Ls,C,h=>by
  rcases Qan.mp h with rfl | h
  ·exact ⟨L,Qar,Qc0 _ _,fun l hl=>(Ju.mp hl).1⟩
  ·obtain ⟨q,h1,h2⟩:=Zen C h
   exact ⟨q,Qal _ h1,h2⟩
theorem Zeo{k:Nat}:∀{bs:1e1} {Ls:2e4},bs.length=Ls.length->(cho k bs Ls).length=Ls.length
 | [],[],_=>rfl
 | _::bs,_::Ls,h=>congrArg (· + 1) (Zeo (bs:=bs) (Ls:=Ls) (by simpa using h))
 | [],_::_,h=>9e1
 | _::_,[],h=>9e1
theorem vQ{nx:6e0}{ok:8e8}{b:Nat}{Ls:2e4}:∀k,(14e7).length=Ls.length/\∀C∈14e7,∃L∈Ls,C.length<=L.length/\∀l∈C,l∈L
 | 0=>⟨rfl,fun C h=>⟨C,h,Qai _,fun _ z=>z⟩⟩
 | k + 1=>by
  obtain ⟨h1,h2⟩:=vQ (nx:=nx) (ok:=ok) (b:=b) (Ls:=Ls) k;refine ⟨(Zeo (wA _ _).1).trans h1,fun C q=>?_⟩;obtain ⟨L,I,Y,Z⟩:=Zen C q;obtain ⟨D,O,G,J⟩:=h2 L I;exact ⟨D,O,Qbd Y G,fun l hl=>J l (Z l hl)⟩
def hdV(H:Hp):V->V
 | .ref a=>match H a with
  | some (.tup (x::_))=>x
  | _=>.non
 | _=>.non
theorem Ziz{L:1e1}(h:H a=some (.tup (L.map YU)))(q:L≠[]):hdV H 3e1=YU (L.headD 0)/\atI (L.map YU) 0=some (YU (L.headD 0)):=by
 cases L with
 | nil=>exact absurd rfl q
 | cons x L =>
  refine ⟨?_,Yk (j:=0) rfl⟩;have e:hdV H (.ref a)=(match H a with
   | some (.tup (x::_))=>x
   | _=>.non):=rfl
  rw [e,h]
  rfl
theorem um{nx:2e4}:∀(ls:1e1) (s:Nat),Ze6 (mN nx) s ls=stN nx s ls
 | [],_=>rfl
 | l::ls,s=>um ls _
theorem Zlm{m:Addr}{b:Nat}{nx:2e4}{ot:5e8}(M:M4 H m N b nx ot)(R:Runs nx ot n)(hb:b < nx.length):∃nv,Zil H m nx.length (2 ^ n) nv b (mN nx) fun s c=>(ot.getD s []).getD c .non:=by
 obtain ⟨pn,ps,C,h1,_,⟨as,D,Y,J⟩,⟨bs,I,O,G⟩⟩:=M.ex;refine ⟨_,⟨ps,C,h1,⟨as,D,fun s hs=>?_⟩,⟨bs,I,fun s hs=>?_⟩⟩,hb,fun s l hs hl=>R.mN hs hl⟩
 ·have l1:=R.nr _ (getD_mem hs)
  obtain ⟨a,e1,e2⟩:=J s (zP 19e4) (by rw [Qaj,vE hs];rfl);exact ⟨a,_,e1,e2,fun l hl=>wD 1e2⟩
 ·have q:s < ot.length:=by rw [R.ol];exact hs
  have l1:=R.or _ (getD_mem q);obtain ⟨a,e1,e2⟩:=G s (ot.getD s []) (vE q);exact ⟨a,_,e1,e2,fun l hl=>getD_at 1e2⟩
theorem wG(i:Nat):∀r:1e1,hor (((r.map fun l:Nat=>(l:Int)).map fun c=>c / 2 ^ i % 2).reverse)=(valN i r:Int)
 | []=>rfl
 | l::r=>by
  rw [Qa4,Qa4,Qdt,yn,wG i r];show (valN i r:Int) * 2 + (l:Int) / 2 ^ i % 2=((GY i l + 2 * valN i r:Nat):Int);have e:(l:Int) / 2 ^ i % 2=((GY i l:Nat):Int):=by
   unfold GY;rw [Int.natCast_emod,Int.natCast_ediv,Qep]
   rfl
  rw [e];lia
theorem rep_at{w:Nat}{x y:m}(h:(List.replicate w x)[i]?=some y):i < w/\y=x:=by
 rw [Qd5] at h
 split at h
 ·rename_i hi
  exact ⟨hi,(Option.some.inj h).symm⟩
 ·cases h
theorem y6{r:1e1}(h:r≠[]):∃q c,r=q++[c]:=⟨r.dropLast,r.getLast h,(Qgq h).symm⟩
def Zi0(q:Addr)(H H':Hp):Prop:=∀b o,10e9->b≠q->12e4\/∃kvs u,o=.dK kvs/\H' b=some (.frz u 4e1)
theorem Zi0.of{H2:Hp}(o:∀b u,H b=some u->b≠a->g b=some u)(s:SmF g H2):Zi0 a H H2:=fun b u e hb=>s b u (o b u e hb)
def kn2:KN (1e5):={ knT with
 at_:=fun H ks a=>H a=some (.tup (ks.map V.int))
 ok:=fun P w H h k a ok e=>knT.ok P w H h k a ok ⟨_,e,by rw [Qcf];rfl⟩
 keep:=fun H H' k a hk e=>hk _ _ e }
theorem Zln{H':Hp}(s:ZC (hide M H) H')(hn:∀c∈M,H' c=none):ZC H (Wn M H H')/\(∀b o,12e4->Wn M H H' b=some o)/\∀b o,12e4->hide M H b=none->H b=none:=by
 refine ⟨fun b u e=>?_,fun b o e=>?_,fun b o e h=>?_⟩
 ·by_cases q:b∈M
  ·rw [XA q]
   exact e
  ·rw [ZJ q]
   exact s _ _ (by rw [Z1 q];exact e)
 ·have q:b∉M:=fun m=>by rw [hn b m] at e;cases e
  rw [ZJ q];exact e
 ·have q:b∉M:=fun m=>by rw [hn b m] at e;cases e
  rw [Z1 q] at h;exact h
theorem Yq.smf{H':Hp}{P:Addr}{qual:Str}(h:Yq H P p qual)(s:SmF H H'):Yq H' P p qual:=by
 rcases h with h | ⟨q,oc,h1,h2,C⟩
 ·exact .inl (s.at h 7e8)
 ·exact .inr ⟨q,oc,s.at h1 (7e8),s.at h2 (7e8),C⟩
theorem Zlo{H':Hp}{ps:List (Int × Int)}(h:Prs H ps v)(e:13e4):StA (.key kn2) H' (ps.map fun p=>[p.1,p.2]) v:=by
 refine ⟨by rw [h.1,Qac],fun i k hk=>?_⟩;rw [Qaj] at hk;obtain ⟨p,hp,rfl⟩:=Qcb.mp hk;obtain ⟨a,q,C⟩:=h.2 i p hp;exact ⟨.ref a,q,a,rfl,e _ _ C⟩
def Jv(u v:List V)(ms:1e3):Prop:=ms.Perm (W7 (((u++v).filter nmB).map Zie))/\PyProof.Rows.sortedS ms=true
def Dff(ms:1e3)(u v:List V)(ls:1e1):Prop:=bt ((Xl ls.length (WH ls ms) u).getD 0 0) (ls.length - 1)≠bt ((Xl ls.length (WH ls ms) v).getD 0 0) (ls.length - 1)
structure wH(ms:1e3)(u v:List V)(w:Nat)(r:1e1):Prop where
 w1:1<=w
 len:r.length=w
 lt:∀l∈r,l < 2 ^ ms.length
 df:Dff ms u v r
 fst:∀t:1e1,t.length=w->(∀l∈t,l < 2 ^ ms.length)->Dff ms u v t->t=r\/∃j,j < ms.length/\(∀i,i < j->valN i t=valN i r)/\valN j r < valN j t
 least:∀ls:1e1,ls≠[]->(∀x∈ls,x < 2 ^ ms.length)->Dff ms u v ls->w<=ls.length
def OffG(q C:Addr)(H H':Hp):Prop:=∀b o,10e9->b≠q->b≠C->12e4\/∃kvs u,o=.dK kvs/\H' b=some (.frz u 4e1)
theorem POk.len2{b:Bool}{l:13e8}(S:POk N b v)(B:BfE (nxS N v) 19e6 l):l.length<=11 * 2 ^ Y5 v:=by
 have h:=36e4;rw [<-B.e,yq] at h;have h2:lgB v<=10:=Zds S.iz;exact Qbd h (Qgj _ 1e2)
theorem y7{ms:1e3}{u:List V}{l1 l2:13e8}{l:List (1e5)}(J:POk ms false u)(I:POk ms false v)(G:BfE (nxS ms u) (0,List.replicate (Y5 u) 0) l1)(D:BfE (nxS ms v) 19e6 l2)(B:BfE 25e6 (pK 0 0) l){ls:1e1}{c:Nat}(h:∀x∈ls++[c],x < 2 ^ ms.length) :
  Y7 (mN (rnG 25e6 l)) 34e5 0 (ls++[c])=true↔Dff ms u v (ls++[c]):=by
 have C:=J.runs G (.int 0) (.int 1);have R2:=I.runs D (.int 0) (.int 1);rw [Zli C R2 C.pos R2.pos B h,Qcm];have e1:=ug J G (.int 0) (.int 1) h;have e2:=ug I D (.int 0) (.int 1) h;show ((l1.map (otT ms (Y4 (2 ^ ms.length) ms) u (.int 0) (.int 1))).getD (stN (rnG (nxS ms u) l1) 0 ls) []).getD c .non≠((l2.map (otT ms (Y4 (2 ^ ms.length) ms) v (.int 0) (.int 1))).getD (stN (rnG (nxS ms v) l2) 0 ls) []).getD c .non↔_;rw [e1,e2];unfold Dff;rw [Qae];show _↔bt ((Xl (15e1) (WH (ls++[c]) ms) u).getD 0 0) ls.length≠bt ((Xl (15e1) (WH (ls++[c]) ms) v).getD 0 0) ls.length;rcases Y8 ((Xl (15e1) (WH (ls++[c]) ms) u).getD 0 0) ls.length with p | p <;> rcases Y8 ((Xl (15e1) (WH (ls++[c]) ms) v).getD 0 0) ls.length with q | q <;> rw [p,q] <;> simp
theorem Zae{ms:1e3}{u:List V}{l1 l2:13e8}{l:List (1e5)}{w:Nat}{r:1e1}(J:POk ms false u)(G:POk ms false v)(C:BfE (nxS ms u) (0,List.replicate (Y5 u) 0) l1)(D:BfE (nxS ms v) 19e6 l2)(B:BfE 25e6 (pK 0 0) l)(hw:1<=w)
  (F:xI (mN (rnG 25e6 l)) 34e5 0 ms.length w r)
  (hm:∀(ls:1e1) (c:Nat),(∀x∈ls++[c],x < 2 ^ ms.length)->Y7 (mN (rnG 25e6 l)) 34e5 0 (ls++[c])=true->w<=15e1):wH ms u v w r:=by
 have ne:∀{t:1e1},t.length=w->∃q c,t=q++[c]:=fun {t} h=>y6 fun z=>by rw [z] at h;have:0=w:=h;lia
 refine ⟨hw,F.len,F.lt,?_,fun t h1 h2 I=>?_,fun ls h1 h2 I=>?_⟩
 ·obtain ⟨q,c,e⟩:=ne F.len
  have hl:=F.last;have O:=F.lt;rw [e] at hl O ⊢;exact (y7 J G C D B O).mp hl
 ·obtain ⟨q,c,rfl⟩:=ne h1
  exact F.fst _ h1 h2 ((y7 J G C D B h2).mpr I)
 ·obtain ⟨q,c,rfl⟩:=y6 h1
  rw [Qae];exact hm q c h2 ((y7 J G C D B h2).mpr I)
def Tr.nv(a b c:Int):Tr->Int
 | .p=>a
 | .q=>b
 | .r=>c
 | .num z=>z
 | .one y t=>Zmp y (t.nv a b c)
 | .two y t u=>Zmq y (t.nv a b c) (u.nv a b c)
 | .thr _ _ _ _=>0
def Tr.pl:Tr->Bool
 | .p=>true
 | .q=>true
 | .r=>true
 | .num _=>true
 | .one y t=>decide (y = "not" \/ y = "twice") && t.pl
 | .two y t u=>decide (y∈26e0) && (t.pl && u.pl)
 | .thr _ _ _ _=>false
theorem zS(x:Int)(W:Nat){k:Nat}(h:k < W):bt (x % 2 ^ W) k=bt x k:=v9 x W k h
theorem Tr.ev_nv{W:Nat}{a b c:Int}(ha:0<=a/\a < 2 ^ W)(hb:0<=b/\b < 2 ^ W)(hc:0<=c/\c < 2 ^ W):∀{t:Tr},t.pl=true->t.ev (2 ^ W) a b c=t.nv a b c % 2 ^ W
 | .p,_=>(Qc4 ha.1 ha.2).symm
 | .q,_=>(Qc4 hb.1 hb.2).symm
 | .r,_=>(Qc4 hc.1 hc.2).symm
 | .num _,_=>rfl
 | .one y t,h=>by
  obtain ⟨h1,h2⟩:=Qav.mp h;have C:=Tr.ev_nv ha hb hc h2;show Zmp y (t.ev (2 ^ W) a b c) % 2 ^ W=Zmp y (t.nv a b c) % 2 ^ W;rw [C];generalize t.nv a b c=x;rcases Qa1 h1 with rfl | rfl
  ·exact mdN x _
  ·show (x % 2 ^ W + x % 2 ^ W) % 2 ^ W=(x + x) % 2 ^ W
   rw [mdA,mdB]
 | .two y t u,h=>by
  obtain ⟨h1,h2⟩:=Qav.mp h;obtain ⟨h2,D⟩:=Qav.mp h2;have i1:=Tr.ev_nv ha hb hc h2;have i2:=Tr.ev_nv ha hb hc D;show Zmq y (t.ev (2 ^ W) a b c) (u.ev (2 ^ W) a b c) % 2 ^ W=Zmq y (t.nv a b c) (u.nv a b c) % 2 ^ W;rw [i1,i2];generalize t.nv a b c=x;generalize u.nv a b c=z;have h1:=Qa1 h1;simp only [Qan,Qa7,Qc3] at h1;rcases h1 with rfl | rfl | rfl | rfl | rfl
  ·exact zv fun k hk=>by show bt (Builtin.bitAnd _ _) k=bt (Builtin.bitAnd _ _) k;rw [XG,XG,zS _ _ hk,zS _ _ hk]
  ·exact zv fun k hk=>by show bt (Builtin.bitOr _ _) k=bt (Builtin.bitOr _ _) k;rw [qK,qK,zS _ _ hk,zS _ _ hk]
  ·exact zv fun k hk=>by show bt (Builtin.bitXor _ _) k=bt (Builtin.bitXor _ _) k;rw [WT,WT,zS _ _ hk,zS _ _ hk]
  ·show (x % 2 ^ W + z % 2 ^ W) % 2 ^ W=(x + z) % 2 ^ W
   rw [mdA,mdB]
  ·show (x % 2 ^ W - z % 2 ^ W) % 2 ^ W=(x - z) % 2 ^ W
   rw [mdC,mdD]
 | .thr _ _ _ _,h=>9e1
structure ZO(t u:Tr)(k:Nat)(g:Int):Prop where
 pl:t.pl=true/\u.pl=true
 ok:t.ok=true/\u.ok=true
 lo:∀a b c j,j < k->bt (t.nv a b c) j=bt (u.nv a b c) j
 hi:∀b c,bt (t.nv g b c) k≠bt (u.nv g b c) k
 mn:∀a b c,0<=a->a < g->bt (t.nv a b c) k=bt (u.nv a b c) k
theorem ZO.symm{t u:Tr}{k:Nat}{g:Int}(P:ZO t u k g):ZO u t k g:=⟨⟨P.pl.2,P.pl.1⟩,⟨P.ok.2,P.ok.1⟩,fun a b c j h=>(P.lo a b c j h).symm,fun b c=>(P.hi b c).symm,fun a b c q h1=>(P.mn a b c q h1).symm⟩
theorem ZO.nt {t u:Tr} {k:Nat} {g:Int} (P:ZO t u k g):ZO (.one "not" t) (.one "not" u) k g:=by
 have e:∀(t:Tr) a b c j,bt ((Tr.one "not" t).nv a b c) j=1 - bt (t.nv a b c) j:=fun t a b c j=>JP j _;refine ⟨38e8,38e7,fun a b c j h=>?_,fun b c=>?_,fun a b c q h1=>?_⟩
 ·rw [e,e,P.lo a b c j h]
 ·rw [e,e]
  have:=P.hi b c;lia
 ·rw [e,e,P.mn a b c q h1]
theorem ZO.odd {t u x:Tr} {k:Nat} {g:Int} (P:ZO t u k g) (hx:x=.q\/x=.r):ZO (.two "odd" x t) (.two "odd" x u) k g:=by
 have e:∀(t:Tr) a b c j,bt ((Tr.two "odd" x t).nv a b c) j=(bt (x.nv a b c) j + bt (t.nv a b c) j) % 2:=fun t a b c j=>WT j _ _;have C:x.pl=true/\x.ok=true:=by rcases hx with rfl | rfl <;> exact 6e5
 have I:∀a D b c,x.nv a b c=x.nv D b c:=by intro a D b c;rcases hx with rfl | rfl <;> rfl
 refine ⟨⟨by show (_ && (x.pl && t.pl))=true;rw [P.pl.1,C.1];show 11,by show (_ && (x.pl && u.pl))=true;rw [P.pl.2,C.1];show 11⟩,⟨by show (_ && (x.ok && t.ok))=true;rw [P.ok.1,C.2];show 11,by show (_ && (x.ok && u.ok))=true;rw [P.ok.2,C.2];show 11⟩,fun a b c j h=>?_,fun b c=>?_,fun a b c G h1=>?_⟩
 ·rw [e,e,P.lo a b c j h]
 ·rw [e,e]
  have:=P.hi b c;rcases Y8 (t.nv g b c) k with p | p <;> rcases Y8 (u.nv g b c) k with q | q <;> rcases Y8 (x.nv g b c) k with o | o <;> rw [p,q] at this <;> rw [p,q,o] <;> simp at this ⊢
 ·rw [e,e,P.mn a b c G h1]
theorem bt_tw(x:Int)(j:Nat):bt (x + x) (j + 1)=bt x j:=by
 rw [YF];congr 1;lia
theorem bt_tw0(x:Int):bt (x + x) 0=0:=by
 unfold bt;rw [Qdr,Qcn];lia
theorem ZO.tw {t u:Tr} {k:Nat} {g:Int} (P:ZO t u k g):ZO (.one "twice" t) (.one "twice" u) (k + 1) g:=by
 have e:∀(t:Tr) a b c j,bt ((Tr.one "twice" t).nv a b c) (j + 1)=bt (t.nv a b c) j:=fun t a b c j=>bt_tw _ j;have q:∀(t:Tr) a b c,bt ((Tr.one "twice" t).nv a b c) 0=0:=fun t a b c=>bt_tw0 _;refine ⟨38e8,38e7,fun a b c j h=>?_,fun b c=>?_,fun a b c C h1=>?_⟩
 ·cases j with
  | zero=>rw [q,q]
  | succ j=>rw [e,e,P.lo a b c j (by lia)]
 ·rw [e,e]
  exact P.hi b c
 ·rw [e,e,P.mn a b c C h1]
def twn:Nat->Tr->Tr
 | 0,t=>t
 | n + 1,t=>.one "twice" (twn n t)
theorem ZO.twn{t u:Tr}{k:Nat}{g:Int}(P:ZO t u k g):∀n,ZO (twn n t) (twn n u) (k + n) g
 | 0=>P
 | n + 1=>(P.twn n).tw
structure Zep(x y:Int)(k:Nat):Prop where
 r:(0<=x/\x < 1000)/\(0<=y/\y < 1000)
 e:x % 2 ^ k=y % 2 ^ k
 n:x % 2 ^ (k + 1)≠y % 2 ^ (k + 1)
theorem wI{x:Int}{k:Nat}(e:x % 2 ^ k=y % 2 ^ k){j:Nat}(h:j < k):bt x j=bt y j:=by rw [<-zS x k h,e,zS y k h]
theorem Zeq{x:Int}{k:Nat}(e:x % 2 ^ k=y % 2 ^ k)(n:x % 2 ^ (k + 1)≠y % 2 ^ (k + 1)):bt x k≠bt y k:=fun z=>n (zv fun j q=>by
 by_cases h:j=k
 ·rw [h];exact z
 ·exact wI e 1e2)
theorem Zer(m:Int){x q:Int}(h:G - q=x - y):G % m=q % m↔x % m=y % m:=by
 rw [Qfg,Qfg,h]
theorem Zlp(m:Int){x q:Int}(h:G - q=y - x):G % m=q % m↔x % m=y % m:=by
 rw [Zer m h];exact eq_comm
theorem Zep.sum{x y:Int}{k:Nat}(L:Zep x y k){t u:Tr}(q:t.pl=true/\u.pl=true)(ho:t.ok=true/\u.ok=true)(h:∀a b c m,t.nv a b c % m=u.nv a b c % m↔x % m=y % m):ZO t u k 0 :=
 ⟨q,ho,fun a b c j C=>wI ((h a b c _).mpr L.e) C,fun b c=>Zeq ((h 0 b c _).mpr L.e) fun z=>L.n ((h 0 b c _).mp z),fun a b c D h1=>absurd h1 1e2⟩
theorem Zep.okn{x:Int}{k:Nat}(L:Zep x y k):(Tr.num x).ok=true/\(Tr.num y).ok=true:=⟨Qah L.r.1,Qah L.r.2⟩
theorem uo {s:Str} (h:s∈26e0) {t u:Tr} (q:t.pl=true/\t.ok=true) (hu:u.pl=true/\u.ok=true):(Tr.two s t u).pl=true/\(Tr.two s t u).ok=true:=by
 refine ⟨Qav.mpr ⟨Qah h,Qav.mpr ⟨q.1,hu.1⟩⟩,Qav.mpr ⟨Qah ?_,Qav.mpr ⟨q.2,hu.2⟩⟩⟩;exact (1e0:∀s∈26e0,s∈Ji/\Yt s=2) s h
theorem Zep.k0{x:Int}{k:Nat}(L:Zep x y k):ZO (.num x) (.num y) k 0:=L.sum 6e5 L.okn fun a b c m=>Iff.rfl
theorem Zep.k1 {x:Int} {k:Nat} (L:Zep x y k):ZO (.two "sub" (.num x) .p) (.two "sub" (.num y) .p) k 0:=by
 have q:=uo (s := "sub") 1e4 (t:=.num x) (u:=.p) ⟨rfl,L.okn.1⟩ 6e5;have C:=uo (s := "sub") 1e4 (t:=.num y) (u:=.p) ⟨rfl,L.okn.2⟩ 6e5;exact L.sum ⟨q.1,C.1⟩ ⟨q.2,C.2⟩ fun a b c m=>Zer m (by show (x - a) - (y - a)=x - y;lia)
theorem Zep.kp {x:Int} {k:Nat} (L:Zep x y k) (s:Str) (hs:s∈26e0):∃g,(g=if s = "and" then (2:Int) ^ k else 0)/\ZO (.two s .p (.num x)) (.two s .p (.num y)) k g:=by
 have q:=uo hs (t:=.p) (u:=.num x) 6e5 ⟨rfl,L.okn.1⟩;have C:=uo hs (t:=.p) (u:=.num y) 6e5 ⟨rfl,L.okn.2⟩;have lo:=fun j (h:j < k)=>wI L.e h;have hi:=Zeq L.e L.n;simp only [Qan,Qa7,Qc3] at hs;rcases hs with rfl | rfl | rfl | rfl | rfl
 ·have e:∀(z a b c:Int) j,bt ((Tr.two "and" .p (.num z)).nv a b c) j=bt a j * bt z j:=fun z a b c j=>XG j _ _
  have b2:bt ((2:Int) ^ k) k=1:=by
   unfold bt;rw [Int.ediv_self (Qgc (YO k))]
   rfl
  refine ⟨2 ^ k,rfl,⟨q.1,C.1⟩,⟨q.2,C.2⟩,fun a b c j h=>?_,fun b c=>?_,fun a b c D h1=>?_⟩
  ·rw [e,e,lo j h]
  ·rw [e,e,b2,Qh8,Qh8]
   exact hi
  ·rw [e,e]
   have:bt a k=0:=by
    unfold bt;rw [Qe0 D h1]
    rfl
   rw [this,Qg9,Qg9]
 ·have e:∀(z a b c:Int) j,bt ((Tr.two "or" .p (.num z)).nv a b c) j=1 - (1 - bt a j) * (1 - bt z j):=fun z a b c j=>qK j _ _
  refine 38e6
  ·rw [e,e,lo j h]
  ·rw [e,e,Xb]
   intro z;apply hi;lia
 ·have e:∀(z a b c:Int) j,bt ((Tr.two "odd" .p (.num z)).nv a b c) j=(bt a j + bt z j) % 2:=fun z a b c j=>WT j _ _
  refine 38e6
  ·rw [e,e,lo j h]
  ·rw [e,e,Xb]
   intro z;apply hi;have:=Y8 x k;have:=Y8 y k;lia
 ·exact ⟨0,rfl,L.sum ⟨q.1,C.1⟩ ⟨q.2,C.2⟩ fun a b c m=>Zer m (by show (a + x) - (a + y)=x - y;lia)⟩
 ·exact ⟨0,rfl,L.sum ⟨q.1,C.1⟩ ⟨q.2,C.2⟩ fun a b c m=>Zlp m (by show (a - x) - (a - y)=y - x;lia)⟩
theorem pair7(n:Nat):ZO (twn n .p) (.num 0) n 1:=by
 have base:ZO .p (.num 0) 0 1:=⟨6e5,6e5,fun _ _ _ _ h=>absurd h (Qeg _),fun b c=>by show bt 1 0≠bt 0 0;decide,fun a b c q h1=>by
  have:a=0:=by lia
  rw [this];rfl⟩
 have P:=base.twn n;rw [Nat.zero_add] at P;have z:∀n a b c,(twn n (.num 0)).nv a b c=0:=by
  intro n a b c
  induction n with
  | zero=>rfl
  | succ n C =>
   show (twn n (.num 0)).nv a b c + (twn n (.num 0)).nv a b c=0;rw [C];rfl
 refine ⟨⟨P.pl.1,rfl⟩,⟨P.ok.1,rfl⟩,fun a b c j h=>?_,fun b c=>?_,fun a b c q h1=>?_⟩
 ·rw [P.lo a b c j h,z];rfl
 ·have:=P.hi b c
  rw [z] at this;exact this
 ·rw [P.mn a b c q h1,z];rfl
def ptV:10e6->List V
 | some y=>[.str y]
 | none=>[.int 0]
theorem G6{ms:1e3}{o:10e6}(hk:∀y∈ms,y∉Ye)(h:∀y,o=some y->y∈ms):Prt ms (ptV o)/\Y5 (ptV o)=0:=by
 cases o with
 | none=>exact ⟨⟨Zd8 (by decide) (by decide),by show 1<=7;decide,by show 0<=1;decide⟩,rfl⟩
 | some y =>
  have D:=h y rfl;have q:=hk y D;have G:=gY q;have C:Y5 (ptV (some y))=0:=Zle (fun z=>q ((by decide +kernel:∀y∈allR,y∈Ye) y z)) [];refine ⟨⟨Seg.sum (fun w hw=>?_) ⟨by rw [G];exact Qbe _,trivial⟩ (by show 0 - npw (.str y) + 1=1;lia),by show 1<=7;decide,by rw [C];decide⟩,C⟩;rw [Qak.mp hw];exact .inr (.inl ⟨y,rfl,D,fun z=>q (Zgn y z),G⟩)
def vaO(ms:1e3)(ls:1e1):10e6->Int
 | some y=>WH ls ms y
 | none=>0
theorem wJ{ms:1e3}{o:10e6}{ls:1e1}(hk:∀y∈ms,y∉Ye)(h:∀y,o=some y->y∈ms):Xl ls.length (WH ls ms) (ptV o)=[vaO ms ls o]:=by
 have hp:=YO ls.length;cases o with
 | none =>
  show [(0:Int) % 2 ^ ls.length]=[0];rw [Int.zero_emod]
 | some y =>
  have q:=hk y (h y rfl);have e:Xl ls.length (WH ls ms) [.str y]=[rwR ls.length (WH ls ms) (.str y) (([]:List Int).take (npw (.str y)))]++([]:List Int).drop (npw (.str y)):=rfl;show Xl ls.length (WH ls ms) [.str y]=_;rw [e,gY q];show [if y∈ZT then _ else WH ls ms y % 2 ^ ls.length]=[WH ls ms y];rw [Qau (fun z=>q ((by decide +kernel:∀y∈ZT,y∈Ye) y z)),Qc4 (Zdv ls ms y).1 (Zdv ls ms y).2]
theorem Zi1{ms:1e3}{D C q:10e6}{t u:Tr}(hk:∀y∈ms,y∉Ye)(I:∀y,D=some y->y∈ms)(G:∀y,C=some y->y∈ms)(hR:∀y,q=some y->y∈ms)(pl:t.pl=true/\u.pl=true)(ok:t.ok=true/\u.ok=true){ls:1e1}(hl:ls≠[]) :
  Dff ms (t.flat (ptV D) (ptV C) (ptV q)) (u.flat (ptV D) (ptV C) (ptV q)) ls↔bt (t.nv (vaO ms ls D) (vaO ms ls C) (vaO ms ls q)) (ls.length - 1)≠bt (u.nv (vaO ms ls D) (vaO ms ls C) (vaO ms ls q)) (ls.length - 1):=by
 have a:=wJ (ls:=ls) hk I;have b:=wJ (ls:=ls) hk G;have c:=wJ (ls:=ls) hk hR;have e:=fun (t:Tr) (O:t.ok=true)=>Tr.run hk (G6 hk I).1 (G6 hk G).1 (G6 hk hR).1 a b c (t:=t) O;have J:ls.length - 1 < ls.length:=by
  cases ls with
  | nil=>exact absurd rfl hl
  | cons _ _=>exact Qcq _
 unfold Dff;rw [e t ok.1,e u ok.2,Tr.ev_nv (G5 a) (G5 b) (G5 c) pl.1,Tr.ev_nv (G5 a) (G5 b) (G5 c) pl.2];show bt (_ % _) _≠bt (_ % _) _↔_;rw [zS _ _ J,zS _ _ J]
theorem Zes(i:Nat)(r:1e1):(valN i r:Int)=sm (fun k=>bt ((r.getD k 0:Nat):Int) i) r.length:=by
 rw [<-wG,<-Zij];congr 2;refine Qea fun k=>?_;rw [Qaj,Qaj,Qaj]
 by_cases h:k < r.length
 ·rw [Qca h,getD_at (d:=0) h]
  rfl
 ·rw [Qcg 1e2,Qcg (by rw [Qax];lia)]
  rfl
theorem wK{ms:1e3}{ls:1e1}{y:Str}(hn:ms.Nodup)(h:ms[i]?=some y):WH ls ms y=(valN i ls:Int):=by
 unfold WH;rw [Jt hn h,Zes]
def vR(i:Nat)(g:Int)(W:Nat):1e1:=(List.range W).map fun k=>if bt g k=1 then 2 ^ i else 0
theorem bt_pow(i j:Nat)(hi:i < 3)(q:j < 3):bt ((2 ^ i:Nat):Int) j=if j=i then 1 else 0:=by
 have h:∀i∈[0,1,2],∀j∈[0,1,2],bt ((2 ^ i:Nat):Int) j=if j=i then 1 else 0:=4e0
 exact h i (by show 14;lia) j (by show 14;lia)
theorem uq{j W:Nat}{g:Int}(hi:i < 3)(G:j < 3)(D:0<=g)(C:g < 2 ^ W):(valN j (vR i g W):Int)=if j=i then g else 0:=by
 have len:(vR i g W).length=W:=by unfold vR;rw [Qac,Qax]
 have e:∀k,k < W->bt (((vR i g W).getD k 0:Nat):Int) j=bt (if j=i then g else 0) k:=fun k hk=>by
  unfold vR;rw [Qap,Qaj,Qca hk];show bt (((if bt g k=1 then 2 ^ i else 0:Nat)):Int) j=_
  by_cases hb:bt g k=1
  ·rw [Qaw hb,bt_pow i j hi G]
   by_cases q:j=i
   ·rw [Qaw q,Qaw q,hb]
   ·rw [Qau q,Qau q,Xb]
  ·rw [Qau hb]
   show bt 0 j=_;rw [Xb]
   by_cases q:j=i
   ·rw [Qaw q]
    rcases Y8 g k with z | z
    ·exact z.symm
    ·exact absurd z hb
   ·rw [Qau q,Xb]
 rw [Zes,len,xC e];show sm (fun k=>bt (if j=i then g else 0) k) W=_;rw [Zgv]
 split
 ·exact Qc4 D C
 ·exact Int.zero_emod _
theorem Zaf{ms:1e3}{q O I:10e6}{t u:Tr}{k w:Nat}{g:Int}{r:1e1}(hn3:ms.length<=3)(G:ms.Nodup)(hk:∀y∈ms,y∉Ye)(hP:∀y,q=some y->y∈ms)(hQ:∀y,O=some y->y∈ms)(hR:∀y,I=some y->y∈ms)(A:ZO t u k g)(g0:0<=g)(g1:g < 2 ^ (k + 1))(hg:q=none->g=0)
  (F:wH ms (t.flat (ptV q) (ptV O) (ptV I)) (u.flat (ptV q) (ptV O) (ptV I)) w r):w=k + 1/\∀i y,ms[i]?=some y->(valN i r:Int)=if q=some y then g else 0:=by
 have df:=fun {ls:List Nat} (hl:ls≠[])=>Zi1 hk hP hQ hR A.pl A.ok hl;obtain ⟨D,C⟩:∃D,D < 3/\∀y,q=some y->ms[D]?=some y:=by
  cases q with
  | none=>exact ⟨0,by decide,fun _ z=>nomatch z⟩
  | some y =>
   obtain ⟨i,hi⟩:=Qc6 (hP y rfl);exact ⟨i,by have:=(Qaf.mp hi).1;lia,fun z e=>by cases e;exact hi⟩
 have len:(vR D g (k + 1)).length=k + 1:=by unfold vR;rw [Qac,Qax]
 have vT:=fun j (hj:j < 3)=>uq (W:=k + 1) C.1 hj g0 g1;have neT:vR D g (k + 1)≠[]:=fun z=>by rw [z] at len;cases len
 have J:∀l∈vR D g (k + 1),l < 2 ^ ms.length:=fun l hl=>by
  obtain ⟨j,_,rfl⟩:=Qay.mp hl
  split
  ·rename_i hb
   cases q with
   | none =>
    rw [hg rfl,Xb] at hb;cases hb
   | some y=>exact Nat.pow_lt_pow_right (by decide) (Qaf.mp (C.2 y rfl)).1
  ·exact Qh1 _
 have aT:vaO ms (vR D g (k + 1)) q=g:=by
  cases q with
  | none=>exact (hg rfl).symm
  | some y =>
   show WH _ ms y=g;rw [wK G (C.2 y rfl),vT D C.1,Qaw rfl]
 have dT:Dff ms (t.flat (ptV q) (ptV O) (ptV I)) (u.flat (ptV q) (ptV O) (ptV I)) (vR D g (k + 1)):=(df neT).mpr (by
  rw [aT,len];exact A.hi _ _)
 have neR:r≠[]:=fun z=>by
  have Z:=F.len;rw [z] at Z;have Z:0=w:=Z;have:=F.w1;lia
 have Y:=(df neR).mp F.df;have h1:w<=k + 1:=by have:=F.least _ neT J dT;rw [len] at this;exact this
 have h2:k + 1<=w:=by
  rcases Qc9 (w - 1) k with z | z
  ·rw [F.len] at Y
   exact absurd (A.lo _ _ _ _ z) Y
  ·have:=F.w1
   lia
 have hw:w=k + 1:=by lia
 refine ⟨hw,?_⟩;have fin:vR D g (k + 1)=r:=by
  rcases F.fst _ (by rw [len,hw]) J dT with z | ⟨j,hj,_,z⟩
  ·exact z
  ·exfalso
   have vj:=vT j 1e2
   by_cases e:j=D
   ·rw [Qaw e] at vj
    cases q with
    | none =>
     have:=hg rfl;lia
    | some y =>
     have va:vaO ms r (some y)=(valN D r:Int):=wK G (C.2 y rfl);rw [F.len,hw] at Y;refine Y (A.mn _ _ _ (by rw [va];exact Qb7 _) ?_);rw [e] at z vj;rw [va];lia
   ·rw [Qau e] at vj
    lia
 intro i y hy;have hi:=(Qaf.mp hy).1;rw [<-fin,vT i 1e2]
 by_cases e:q=some y
 ·rw [Qaw e]
  have:=C.2 y e;have e1:=Jt G hy;have e2:=Jt G this;rw [Qaw (by rw [<-e1,<-e2])]
 ·rw [Qau e]
  by_cases e2:i=D
  ·cases q with
   | none=>rw [Qaw e2];exact hg rfl
   | some z =>
    have:=C.2 z rfl;rw [<-e2,hy] at this;exact absurd this.symm e
  ·rw [Qau e2]
def Tr.u(k:Nat):Tr->Bool
 | .p=>k == 0
 | .q=>k == 1
 | .r=>k == 2
 | .num _=>false
 | .one _ t=>t.u k
 | .two _ t u=>t.u k || u.u k
 | .thr _ t u v=>t.u k || u.u k || v.u k
theorem Tr.mem{P Q R:List V}{y:Str}(D:y∉Ye):∀{t:Tr},t.ok=true->V.str y∈8e0->V.str y∈P\/V.str y∈Q\/V.str y∈R
 | .p,_,h=>.inl h
 | .q,_,h=>.inr (.inl h)
 | .r,_,h=>.inr (.inr h)
 | .num z,_,h=>by cases Qak.mp h
 | .one s t,o,h=>by
  obtain ⟨G,C⟩:=Qav.mp o;rcases Qan.mp h with e | h
  ·injection e with e
   exact 34e4
  ·exact Tr.mem D C h
 | .two s t u,o,h=>by
  obtain ⟨G,C⟩:=Qav.mp o;obtain ⟨C,I⟩:=Qav.mp C;rcases Qan.mp h with e | h
  ·injection e with e
   exact 34e4
  ·rcases Qaz.mp h with h | h
   ·exact Tr.mem D C h
   ·exact Tr.mem D I h
 | .thr s t u v,o,h=>by
  obtain ⟨G,C⟩:=Qav.mp o;obtain ⟨C,I⟩:=Qav.mp C;obtain ⟨I,J⟩:=Qav.mp I;rcases Qan.mp h with e | h
  ·injection e with e
   exact 34e4
  ·rcases Qaz.mp h with h | h
   ·exact Tr.mem D C h
   ·rcases Qaz.mp h with h | h
    ·exact Tr.mem D I h
    ·exact Tr.mem D J h
theorem Tr.use{P Q R:List V}{k:Nat}{x:V}:∀{t:Tr},t.u k=true->x∈(if k=0 then P else if k=1 then Q else R)->x∈8e0
 | .p,h,hx=>by rw [show k=0 from Qf6.mp h] at hx;exact hx
 | .q,h,hx=>by rw [show k=1 from Qf6.mp h] at hx;exact hx
 | .r,h,hx=>by rw [show k=2 from Qf6.mp h] at hx;exact hx
 | .num _,h,_=>9e1
 | .one _ t,h,hx=>Qal _ (Tr.use (t:=t) h hx)
 | .two _ t u,h,hx=>by
  refine Qal _ (Qaz.mpr ?_);rcases Qg3.mp h with h | h
  ·exact .inl (Tr.use h hx)
  ·exact .inr (Tr.use h hx)
 | .thr _ t u v,h,hx=>by
  refine Qal _ (Qaz.mpr ?_);rcases Qg3.mp h with h | h
  ·rcases Qg3.mp h with h | h
   ·exact .inl (Tr.use h hx)
   ·exact .inr (Qaz.mpr (.inl (Tr.use h hx)))
  ·exact .inr (Qaz.mpr (.inr (Tr.use h hx)))
theorem WK{o:10e6}{y:Str}:V.str y∈ptV o↔o=some y:=by
 cases o with
 | none=>exact ⟨(fun h=>by cases Qak.mp h),fun h=>nomatch h⟩
 | some z=>exact ⟨(fun h=>by injection Qak.mp h with h;rw [h]),fun h=>by injection h with h;rw [h];exact Qak.mpr rfl⟩
theorem vS{q D C:10e6}{t u:Tr}{ms:1e3}(ok:t.ok=true/\u.ok=true)(hn:∀y,q=some y\/D=some y\/C=some y->NmS y)(I:q≠none->t.u 0=true\/u.u 0=true)(h1:D≠none->t.u 1=true\/u.u 1=true)(h2:C≠none->t.u 2=true\/u.u 2=true)
  (N:Jv (t.flat (ptV q) (ptV D) (ptV C)) (u.flat (ptV q) (ptV D) (ptV C)) ms):ms.Nodup/\∀y,y∈ms↔q=some y\/D=some y\/C=some y:=by
 refine ⟨N.1.nodup_iff.mpr (kI _),fun y=>?_⟩;rw [N.1.mem_iff];have e:=(ya ((((t.flat (ptV q) (ptV D) (ptV C))++(u.flat (ptV q) (ptV D) (ptV C))).filter nmB).map Zie) [] Qdj).2 y;rw [show y∈W7 _↔_ from e]
 constructor
 ·rintro (h | h)
  ·cases h
  ·obtain ⟨x,hx,rfl⟩:=Qay.mp h
   obtain ⟨hx,hb⟩:=Qdx.mp hx;cases x with
   | str y =>
    have G:=Qa1 hb;have:=(Qaz.mp hx).elim (fun z=>Tr.mem G.1 ok.1 z) fun z=>Tr.mem G.1 ok.2 z;rcases this with z | z | z
    ·exact .inl (WK.mp z)
    ·exact .inr (.inl (WK.mp z))
    ·exact .inr (.inr (WK.mp z))
   | _=>cases hb
 ·intro h
  have nm:=hn y h;refine .inr (Qay.mpr ⟨.str y,Qdx.mpr ⟨?_,Qah ⟨nm.k,nm.l⟩⟩,rfl⟩);rw [Qaz];rcases h with h | h | h
  ·rcases I (by rw [h];exact 4e3) with z | z
   ·exact .inl (Tr.use z (WK.mpr h))
   ·exact .inr (Tr.use z (WK.mpr h))
  ·rcases h1 (by rw [h];exact 4e3) with z | z
   ·exact .inl (Tr.use z (WK.mpr h))
   ·exact .inr (Tr.use z (WK.mpr h))
  ·rcases h2 (by rw [h];exact 4e3) with z | z
   ·exact .inl (Tr.use z (WK.mpr h))
   ·exact .inr (Tr.use z (WK.mpr h))
theorem Zet{C G D:10e6}{ms ks:1e3}(h1:ms.Nodup)(h2:∀y,y∈ms↔C=some y\/G=some y\/D=some y)(k1:ks.Nodup)(k2:∀y,y∈ks↔C=some y\/G=some y\/D=some y):ms.length=ks.length:=by
 have a:=X3 h1 fun y q=>(k2 y).mpr ((h2 y).mp q);have b:=X3 k1 fun y q=>(h2 y).mpr ((k2 y).mp q);lia
def Tr.rm:Tr->Nat
 | .one y t=>t.rm + if y∈allR then 1 else 0
 | .two y t u=>t.rm + u.rm + if y∈allR then 1 else 0
 | .thr y t u v=>t.rm + u.rm + v.rm + if y∈allR then 1 else 0
 | _=>0
theorem y8(y:Str)(r:List V):Y5 (.str y::r)=Y5 r + if y∈allR then 1 else 0:=by
 rw [Wq,ZQ]
 by_cases h:y∈allR
 ·rw [Qah h,Qaw rfl,Qaw h]
 ·rw [Qao h,Qau 1e4,Qau h]
theorem Tr.rm_eq{P Q R:List V}(D:Y5 P=0)(C:Y5 Q=0)(hR:Y5 R=0):∀t:Tr,Y5 (8e0)=t.rm
 | .p=>D
 | .q=>C
 | .r=>hR
 | .num _=>rfl
 | .one y t=>by
  show Y5 (.str y::8e0)=_;rw [y8,Tr.rm_eq D C hR t]
  rfl
 | .two y t u=>by
  show Y5 (.str y::(8e0++u.flat P Q R))=_;rw [y8,JH,Tr.rm_eq D C hR t,Tr.rm_eq D C hR u]
  rfl
 | .thr y t u v=>by
  show Y5 (.str y::29e2)=_;rw [y8,JH,JH,Tr.rm_eq D C hR t,Tr.rm_eq D C hR u,Tr.rm_eq D C hR v,<-Nat.add_assoc]
  rfl
def wrO(es:1e3)(t:Tr):Tr:=match es with
 | []=>t
 | [_]=>.two "odd" .q t
 | _=>.two "odd" .r (.two "odd" .q t)
def wrN (c:Bool) (t:Tr):Tr:=if c then .one "not" t else t
theorem ZO.wr{t u:Tr}{k:Nat}{g:Int}(P:ZO t u k g)(c:Bool)(es:1e3):ZO 22e3 (wrN c (wrO es u)) k g:=by
 have Q:ZO (wrO es t) (wrO es u) k g:=by
  unfold wrO
  split
  ·exact P
  ·exact P.odd (6e4)
  ·exact (P.odd (6e4)).odd (.inr rfl)
 cases c
 ·exact Q
 ·exact Q.nt
theorem ur(c:Bool)(es:1e3)(t:Tr):(22e3).rm=t.rm/\(22e3).sz<=t.sz + 17/\(22e3).rs<=t.rs + 5/\(22e3).u 0=t.u 0/\(1<=es.length->(22e3).u 1=true)/\(2<=es.length->(22e3).u 2=true):=by
 have q:(if ("not" : Str)∈allR then 1 else 0)=0:=4e0
 have C:(if ("odd" : Str)∈allR then 1 else 0)=0:=4e0
 match es with
 | []=>cases c <;> simp [wrN,wrO,Tr.rm,Tr.sz,Tr.rs,Tr.u,q] <;> lia
 | [_]=>cases c <;> simp [wrN,wrO,Tr.rm,Tr.sz,Tr.rs,Tr.u,q,C] <;> lia
 | _::_::_=>cases c <;> simp [wrN,wrO,Tr.rm,Tr.sz,Tr.rs,Tr.u,q,C] <;> lia
theorem qc:∀(n:Nat) (t:Tr),(twn n t).rm=t.rm + n/\(twn n t).sz=t.sz + n/\(twn n t).rs=t.rs + n/\∀k,(twn n t).u k=t.u k
 | 0,t=>⟨rfl,rfl,rfl,fun _=>rfl⟩
 | n + 1,t=>by
  obtain ⟨h1,h2,C,q⟩:=qc n t;have nt:(if ("twice" : Str)∈allR then 1 else 0)=1:=4e0
  refine ⟨?_,?_,?_,fun k=>q k⟩
  ·show (twn n t).rm + (if ("twice" : Str)∈allR then 1 else 0)=_
   rw [nt,h1];lia
  ·show (twn n t).sz + 1=_
   rw [h2];lia
  ·show (twn n t).rs + 1=_
   rw [C];lia
theorem xJ (P Q R:List V):∀(n:Nat) (t:Tr),(twn n t).flat P Q R=List.replicate n (V.str "twice")++8e0
 | 0,t=>rfl
 | n + 1,t=>by
  show V.str "twice" :: (twn n t).flat P Q R=_;rw [xJ P Q R n t]
  rfl
theorem Zi2:∀(n:Nat) {a b:Int},0<=a->a < 2 ^ n->0<=b->b < 2 ^ n->0<=20e5/\20e5 < 2 ^ n
 | 0,a,b,h1,h2,C,q=>by
  rw [Qdr] at h2 q;rw [show a=0 by lia,show b=0 by lia]
  decide
 | n + 1,a,b,h1,h2,C,q=>by
  have e:=xor2 a b;have p:(2:Int) ^ (n + 1)=2 ^ n * 2:=Qdq ..;rw [p] at h2 q ⊢;have D:=Zi2 n (a:=a / 2) (b:=b / 2) 1e2 1e2 1e2 1e2;generalize (2:Int) ^ n=m at *;generalize 20e5=x at *;lia
theorem xor_ne{a b:Int}(hb:b % 2 ^ 9≠0):20e5≠a:=fun z=>hb (by
 have:b % 2 ^ 9=0 % 2 ^ 9:=zv fun k hk=>by
  have h:=WT k a b;rw [z] at h;rw [Xb];have:=Y8 a k;have:=Y8 b k;lia
 rw [this];rfl)
theorem Zg1{o x b:Int}(Y:0<=o)(h1:o < 512)(J:0<=b)(D:b < 9):(0<=Builtin.bitXor o (23e3)/\Builtin.bitXor o (23e3) < 1000)/\Builtin.bitXor o (23e3)≠o:=by
 have C:0<=23e3:=Qb9 _ 1e4;have q:23e3 < 512:=Qbs _ 1e4;have I:23e3≠0:=by
  obtain ⟨n,rfl⟩:∃n:Nat,b=(n:Int):=⟨b.toNat,by lia⟩;rw [Qat]
  match n,D with
  | 0,_=>show (1 + 2 * x) * 1 % 512≠0;lia
  | 1,_=>show (1 + 2 * x) * 2 % 512≠0;lia
  | 2,_=>show (1 + 2 * x) * 4 % 512≠0;lia
  | 3,_=>show (1 + 2 * x) * 8 % 512≠0;lia
  | 4,_=>show (1 + 2 * x) * 16 % 512≠0;lia
  | 5,_=>show (1 + 2 * x) * 32 % 512≠0;lia
  | 6,_=>show (1 + 2 * x) * 64 % 512≠0;lia
  | 7,_=>show (1 + 2 * x) * 128 % 512≠0;lia
  | 8,_=>show (1 + 2 * x) * 256 % 512≠0;lia
  | n + 9,h=>exact absurd h 1e2
 generalize 23e3=y at *;have G:=Zi2 9 Y (show o < 2 ^ 9 from h1) C (show y < 2 ^ 9 from q);have O:Builtin.bitXor o y < 512:=G.2;refine ⟨⟨G.1,by lia⟩,xor_ne ?_⟩;show y % 512≠0;lia
def JQ (q:Nat):Str:=["add","sub","odd","or","and"].getD (q - 2) "and"
def YT (q:Nat) (x:Int):Tr:=if q=0 then .num x else if q=1 then .two "sub" (.num x) .p else .two (JQ q) .p (.num x)
theorem Zeu{P Q R:List V}{t:Tr}(C:N.length<=3)(q:N.Nodup)(hk:∀y∈N,y∉Ye)(I:Prt N P)(D:Prt N Q)(hR:Prt N R)(G:t.ok=true)(hs:t.sz<=100)(hr:t.rs<=15):POk N false (8e0):=by
 obtain ⟨g,l,m⟩:=Tr.seg hk I D hR G;exact ⟨C,q,hk,by lia,g,by lia⟩
theorem Zev  (h:N.length<=2) (c:Int) (t:Tr) (P:List V):(if c % 2=1 then [V.str "not"] else [])++N.foldl (fun q e=>V.str "odd" :: V.str e::q) (t.flat P (ptV N[0]?) (ptV N[1]?))=(wrN (decide (c % 2=1)) (wrO N t)).flat P (ptV N[0]?) (ptV N[1]?):=by
 have e:N.foldl (fun q e=>V.str "odd" :: V.str e::q) (t.flat P (ptV N[0]?) (ptV N[1]?))=(wrO N t).flat P (ptV N[0]?) (ptV N[1]?):=by
  match N,h with
  | [],_=>rfl
  | [_],_=>rfl
  | [_,_],_=>rfl
  | _::_::_::_,h=>exact absurd h (by show ¬_ + 1 + 1 + 1<=2;lia)
 rw [e]
 by_cases hc:c % 2=1
 ·rw [Qaw hc,Qah hc]
  rfl
 ·rw [Qau hc,Qao hc]
  rfl
theorem xa (n:Nat):(List.replicate n [V.str "twice"]).flatten=List.replicate n (V.str "twice"):=by
 induction n with
 | zero=>rfl
 | succ n q=>rw [Qdd,Qd8,q];rfl
def kvE(es:1e3):4e4:=es.map fun y=>((Sum.inr y:Key),V.int 0)
theorem qQ(y:Str):∀es:1e3,Yg (kvE es) (.inr y)=if y∈es then some (.int 0) else none
 | []=>rfl
 | e::es=>by
  show Yg ((Sum.inr e,V.int 0)::kvE es) _=_
  by_cases h:e=y
  ·subst h
   rw [Yb rfl,Qaw Qar]
  ·rw [ZU (fun z=>h 14e6),qQ y es]
   by_cases m:y∈es
   ·rw [Qaw m,Qaw (Qal _ m)]
   ·rw [Qau m,Qau (fun z=>(Qan.mp z).elim (fun q=>h q.symm) m)]
theorem wL{y:Str}(h:y∉N)(v:V):putK (kvE N) (.inr y) v=kvE N++[(.inr y,v)]:=jP _ (by rw [qQ,Qau h])
theorem Zew{kvs:4e4}{k:Key}{v:V}(h:Yg kvs k=none):putK (kvs++[(k,v)]) k w=kvs++[(k,w)]:=by
 have hs:(Yg (kvs++[(k,v)]) k).isSome=true:=by rw [Jl _ _ _ _ h,Qaw rfl];rfl
 unfold putK;rw [Qaw (by rw [XS];exact hs),Qbc];have hn:∀p∈kvs,¬p.1=k:=fun p hp e=>by
  have:=XS k kvs;rw [h] at this;have h2:=List.any_eq_false.mp this p hp;exact h2 (Qah e)
 rw [show kvs.map (fun q=>if q.1=k then (q.1,w) else q)=kvs from by
  conv=>rhs;rw [<-List.map_id kvs]
  exact Qc1 fun p hp=>Qau (hn p hp)]
 simp
def kvO(es:1e3)(q:10e6)(g:Int):4e4:=kvE es++match q with
 | some y=>[(.inr y,.int g)]
 | none=>[]
theorem wM(es:1e3)(q:10e6)(g:Int):(kvO es q g).length=(es++q.toList).length:=by
 unfold kvO kvE;cases q <;> simp
theorem Zlq{C:10e6}{g:Int}(D:∀y,C=some y->y∉N):∀q∈kvO N C g,∃(y:Str) (z:Int),q=(.inr y,.int z)/\(z=if C=some y then g else 0)/\(y∈N\/C=some y)/\Yg (kvO N C g) (.inr y)=some (.int z):=by
 intro q I;have val:∀y,Yg (kvO N C g) (.inr y)=if C=some y then some (.int g) else if y∈N then some (.int 0) else none:=fun y=>by
  unfold kvO;cases C with
  | none =>
   rw [Qbv,qQ];exact (Qau (fun z=>nomatch z)).symm
  | some x =>
   show Yg (kvE N++[(.inr x,.int g)]) (.inr y)=_;rw [Jl _ _ _ _ (by rw [qQ,Qau (D x rfl)]),qQ]
   by_cases e:y=x
   ·subst e
    rw [Qaw rfl];exact (Qaw rfl).symm
   ·rw [Qau (show ¬(Sum.inr y:Key)=.inr x from fun z=>e (by injection z))]
    exact (Qau fun z=>e (by injection z with z;exact z.symm)).symm
 unfold kvO at I;rcases Qaz.mp I with h | h
 ·obtain ⟨y,G,rfl⟩:=Qay.mp h
  have hn:C≠some y:=fun z=>D y z G;exact ⟨y,0,rfl,by rw [Qau hn],.inl G,by rw [val,Qau hn,Qaw G]⟩
 ·cases C with
  | none=>cases h
  | some x =>
   rw [Qak.mp h];exact ⟨x,g,rfl,by rw [Qaw rfl],.inr rfl,by rw [val,Qaw rfl]⟩
theorem z6(h:N.length<=2)(y:Str):y∈N↔N[0]?=some y\/N[1]?=some y:=by
 match N,h with
 | [],_=>simp
 | [a],_=>simp [eq_comm]
 | [a,b],_=>simp [eq_comm]
 | _::_::_::_,h=>exact absurd h (by show ¬_ + 1 + 1 + 1<=2;lia)
def Tr.ln:Tr->Nat
 | .one _ t=>t.ln + 1
 | .two _ t u=>t.ln + u.ln + 1
 | .thr _ t u v=>t.ln + u.ln + v.ln + 1
 | _=>1
theorem WL(o:10e6):(ptV o).length=1:=by cases o <;> rfl
theorem Tr.ln_eq{P Q R:List V}(D:P.length=1)(C:Q.length=1)(hR:R.length=1):∀t:Tr,(8e0).length=t.ln
 | .p=>D
 | .q=>C
 | .r=>hR
 | .num _=>rfl
 | .one y t=>by show (8e0).length + 1=_;rw [Tr.ln_eq D C hR t];rfl
 | .two y t u=>by show (8e0++u.flat P Q R).length + 1=_;rw [Qae,Tr.ln_eq D C hR t,Tr.ln_eq D C hR u];rfl
 | .thr y t u v=>by show (29e2).length + 1=_;rw [Qae,Qae,Tr.ln_eq D C hR t,Tr.ln_eq D C hR u,Tr.ln_eq D C hR v,<-Nat.add_assoc];rfl
theorem Zm8(c:Bool)(es:1e3)(t:Tr):(22e3).ln<=t.ln + 5:=by
 match es with
 | []=>cases c <;> simp [wrN,wrO,Tr.ln] <;> lia
 | [_]=>cases c <;> simp [wrN,wrO,Tr.ln] <;> lia
 | _::_::_=>cases c <;> simp [wrN,wrO,Tr.ln] <;> lia
theorem Zex:∀(n:Nat) (t:Tr),(twn n t).ln=t.ln + n
 | 0,_=>rfl
 | n + 1,t=>by show (twn n t).ln + 1=_;rw [Zex n t];lia
structure Rdy(tA tB:Tr)(k:Nat)(g:Int)(oP:10e6)(nmv:Str)(kd far:Nat):Prop where
 ok:ZO tA tB k g
 g0:0<=g
 g1:g < 2 ^ (k + 1)
 op:oP=none\/oP=some nmv
 gz:oP=none->g=0
 us:oP≠none->tA.u 0=true
 rm:tA.rm + far<=5/\tB.rm + far<=5
 sz:tA.sz<=15/\tB.sz<=15
 rs:tA.rs<=6/\tB.rs<=6
 f4:far<=4
 ln:tA.ln + far<=8/\tB.ln + far<=8
theorem Rdy.far{tA tB:Tr}{k:Nat}{g:Int}{C:10e6}{D:Str}{kd far:Nat}(R:Rdy tA tB k g C D kd far)(c:Bool){es:1e3}(h2:es.length<=2)(hd:es.Nodup)(hne:D∉es)(Y:∀y∈es,NmS y)(hn:NmS D) :
  let t:=wrN c (wrO es (twn far tA));let u:=wrN c (wrO es (twn far tB))
  ZO t u (k + far) g/\(∀ms,Jv (t.flat (ptV C) 10e3 10e4) (u.flat (ptV C) 10e3 10e4) ms\/Jv (u.flat (ptV C) 10e3 10e4) (t.flat (ptV C) 10e3 10e4) ms->(ms.Nodup/\∀y,y∈ms↔C=some y\/26e8)/\POk ms false (t.flat (ptV C) 10e3 10e4)/\POk ms false (u.flat (ptV C) 10e3 10e4))/\11 * 2 ^ Y5 (t.flat (ptV C) 10e3 10e4) * (11 * 2 ^ Y5 (u.flat (ptV C) 10e3 10e4))<=1000000:=by
 intro t u;have A:ZO t u (k + far) g:=(R.ok.twn far).wr c es;obtain ⟨a1,a2,a3,a4,a5,a6⟩:=ur c es (twn far tA);obtain ⟨b1,b2,b3,b4,b5,b6⟩:=ur c es (twn far tB);obtain ⟨c1,c2,c3,c4⟩:=qc far tA;obtain ⟨d1,d2,d3,d4⟩:=qc far tB;have r1:=R.rm;have r2:=R.sz;have r3:=R.rs;have r4:=R.f4;have q:∀y,C=some y\/26e8->NmS y:=fun y h=>by
  rcases h with h | h
  ·rcases R.op with z | z
   ·rw [z] at h;cases h
   ·rw [z] at h;cases h;exact hn
  ·exact Y y ((z6 h2 y).mpr h)
 have J:C≠none->t.u 0=true:=fun h=>by rw [a4,c4];exact R.us h
 have I:es[0]?≠none->t.u 1=true:=fun h=>a5 (by
  cases es with
  | nil=>exact absurd rfl h
  | cons _ _=>exact Qfm (Qbe _))
 have G:es[1]?≠none->t.u 2=true:=fun h=>a6 (by
  match es,h with
  | [],h=>exact absurd rfl h
  | [_],h=>exact absurd rfl h
  | _::_::_,_=>exact Qfm (Qfm (Qbe _)))
 refine ⟨A,fun ms N=>?_,?_⟩
 ·have F:ms.Nodup/\∀y,y∈ms↔C=some y\/26e8:=by
   rcases N with N | N
   ·exact vS A.ok q (fun h=>.inl (J h)) (fun h=>.inl (I h)) (fun h=>.inl (G h)) N
   ·exact vS ⟨A.ok.2,A.ok.1⟩ q (fun h=>.inr (J h)) (fun h=>.inr (I h)) (fun h=>.inr (G h)) N
  obtain ⟨O,mem⟩:=F;have hk:∀y∈ms,y∉Ye:=fun y Z=>(q y ((mem y).mp Z)).k;have n3:ms.length<=3:=by
   have:=X3 (l2:=C.toList++es) O fun y Z=>by
    rw [Qaz];rcases (mem y).mp Z with h | h
    ·exact .inl (by rw [h];exact 13e3)
    ·exact .inr ((z6 h2 y).mpr h)
   rw [Qae] at this;have l1:C.toList.length<=1:=by cases C <;> simp
   lia
  have P1:=(G6 (o:=C) hk fun y h=>(mem y).mpr (.inl h)).1;have P2:=(G6 (o:=es[0]?) hk fun y h=>(mem y).mpr (.inr (.inl h))).1;have P3:=(G6 (o:=es[1]?) hk fun y h=>(mem y).mpr (.inr (.inr h))).1;exact ⟨⟨O,mem⟩,Zeu n3 O hk P1 P2 P3 A.ok.1 (by show (wrN c (wrO es (twn far tA))).sz<=100;lia) (by show (wrN c (wrO es (twn far tA))).rs<=15;lia),Zeu n3 O hk P1 P2 P3 A.ok.2 (by show (wrN c (wrO es (twn far tB))).sz<=100;lia) (by show (wrN c (wrO es (twn far tB))).rs<=15;lia)⟩
 ·have z:∀o:10e6,(∀y,o=some y->NmS y)->Y5 (ptV o)=0:=fun o h=>by
   cases o with
   | none=>rfl
   | some y=>exact (G6 (ms:=[y]) (o:=some y) (fun x hx=>by rw [Qak.mp hx];exact (h y rfl).k) fun x hx=>by cases hx;exact Qak.mpr rfl).2
  have z0:=z C fun y h=>q y (.inl h);have z1:=z es[0]? fun y h=>q y (.inr (.inl h));have z2:=z es[1]? fun y h=>q y (.inr (.inr h));rw [Tr.rm_eq z0 z1 z2,Tr.rm_eq z0 z1 z2];have e1:2 ^ t.rm<=2 ^ 5:=Qdn 1e4 (by show (wrN c (wrO es (twn far tA))).rm<=5;lia);have e2:2 ^ u.rm<=2 ^ 5:=Qdn 1e4 (by show (wrN c (wrO es (twn far tB))).rm<=5;lia);exact Qbd (Nat.mul_le_mul (Nat.mul_le_mul_left 11 e1) (Nat.mul_le_mul_left 11 e2)) 1e4
theorem Tr.si{P Q R:List V}(hP:∀x∈P,qY x)(Z:∀x∈Q,qY x)(hR:∀x∈R,qY x):∀{t:Tr},t.ok=true->∀x∈8e0,qY x:=by
 have O:∀s∈Ji,qY (.str s):=fun s hs=>.inl ⟨s,rfl,(1e0:∀s∈Ji,s.length<=1000) s hs⟩;intro t
 induction t with
 | p=>exact fun _=>hP
 | q=>exact fun _=>Z
 | r=>exact fun _=>hR
 | num z=>intro _ x hx;rw [Qak.mp hx];exact .inr ⟨z,rfl⟩
 | one y t ih =>
  intro o x hx;obtain ⟨I,C⟩:=Qav.mp o;rcases Qan.mp hx with rfl | hx
  ·exact O y (Qa1 I).1
  ·exact ih C x hx
 | two y t u G D =>
  intro o x hx;obtain ⟨I,C⟩:=Qav.mp o;obtain ⟨C,J⟩:=Qav.mp C;rcases Qan.mp hx with rfl | hx
  ·exact O y (Qa1 I).1
  ·exact (Qaz.mp hx).elim (G C x) (D J x)
 | thr y t u v G D Y =>
  intro o x hx;obtain ⟨I,C⟩:=Qav.mp o;obtain ⟨C,J⟩:=Qav.mp C;obtain ⟨J,o4⟩:=Qav.mp J;rcases Qan.mp hx with rfl | hx
  ·exact O y (Qa1 I).1
  ·exact (Qaz.mp hx).elim (G C x) fun z=>(Qaz.mp z).elim (D J x) (Y o4 x)
theorem Zey{o:10e6}(h:∀y,o=some y->NmS y):∀x∈ptV o,qY x:=by
 cases o with
 | none=>intro x hx;rw [Qak.mp hx];exact .inr ⟨0,rfl⟩
 | some y=>intro x hx;rw [Qak.mp hx];exact .inl ⟨y,rfl,Qbd (h y rfl).l.1.2 (by decide)⟩
theorem Zez:∀ys:1e3,ys.Nodup->keysOf ys=ys.map (Sum.inr:Str->Key):=by
 refine snoc_ind (fun _=>rfl) fun ys y q h=>?_;obtain ⟨h1,_,C⟩:=Qdg.mp h;rw [G2,q h1,Qau,Qbc]
 ·rfl
 ·intro z
  obtain ⟨x,hx,e⟩:=Qay.mp z;injection e with e;exact C x hx y (13e3) e
theorem Tab.len_nd{a:4e4}{ys:1e3}{f:4e6}(T:Tab a ys f)(h:ys.Nodup):a.length=ys.length:=by
 have:=congrArg List.length T.keys;rw [Zez ys h,Qac,Qac] at this;exact this
theorem JI(q:Nat)(x:Int)(P Q R C D:List V):(YT q x).flat P Q R=(YT q x).flat P C D:=by
 unfold YT
 split
 ·rfl
 ·split <;> rfl
theorem Zg2{ms:1e3}{q J I:10e6}{t u:Tr}{k:Nat}{g:Int}(hn3:ms.length<=3)(G:ms.Nodup)(hk:∀y∈ms,y∉Ye)(O:∀y,q=some y->y∈ms)(Y:∀y,J=some y->y∈ms)(hR:∀y,I=some y->y∈ms)(A:ZO t u k g)(Z:0<=g)(g1:g < 2 ^ (k + 1))(hg:q=none->g=0) :
  ∃T:1e1,T≠[]/\(∀l∈T,l < 2 ^ ms.length)/\Dff ms (t.flat (ptV q) (ptV J) (ptV I)) (u.flat (ptV q) (ptV J) (ptV I)) T:=by
 obtain ⟨D,C⟩:∃D,D < 3/\∀y,q=some y->ms[D]?=some y:=by
  cases q with
  | none=>exact ⟨0,by decide,fun _ z=>nomatch z⟩
  | some y =>
   obtain ⟨i,hi⟩:=Qc6 (O y rfl);exact ⟨i,by have:=(Qaf.mp hi).1;lia,fun z e=>by cases e;exact hi⟩
 have len:(vR D g (k + 1)).length=k + 1:=by unfold vR;rw [Qac,Qax]
 have neT:vR D g (k + 1)≠[]:=fun z=>by rw [z] at len;cases len
 have aT:vaO ms (vR D g (k + 1)) q=g:=by
  cases q with
  | none=>exact (hg rfl).symm
  | some y =>
   show WH _ ms y=g;rw [wK G (C.2 y rfl),uq (W:=k + 1) C.1 C.1 Z g1,Qaw rfl]
 refine ⟨vR D g (k + 1),neT,fun l hl=>?_,(Zi1 hk O Y hR A.pl A.ok neT).mpr (by rw [aT,len];exact A.hi _ _)⟩;obtain ⟨j,_,rfl⟩:=Qay.mp hl
 split
 ·rename_i hb
  cases q with
  | none =>
   rw [hg rfl,Xb] at hb;cases hb
  | some y=>exact Nat.pow_lt_pow_right (by decide) (Qaf.mp (C.2 y rfl)).1
 ·exact Qh1 _
set_option genInjectivity false in
set_option genSizeOfSpec false in
structure Adr where
 iu:Addr
 iw:FuncData
 ia:Addr
 ib:FuncData
 ti:Addr
 tj:FuncData
 fj:Addr
 fk:FuncData
 dg:Addr
 dh:FuncData
 oj:Addr
 om:FuncData
 il:Addr
 ip:FuncData
 lj:Addr
 lq:FuncData
 fq:Addr
 ft:FuncData
 lr:Addr
 lu:FuncData
 fu:Addr
 fw:FuncData
 my:Addr
 mz:FuncData
 ic:Addr
 ie:FuncData
 ix:Addr
 iy:FuncData
 lx:Addr
 ma:FuncData
 fe:Addr
 ff:FuncData
 rf:Addr
 rh:FuncData
 nc:Addr
 ng:FuncData
 pb:Addr
 pd:FuncData
 bx:Addr
 bz:FuncData
 oq:Addr
 ou:FuncData
 md:Addr
 me:FuncData
 mf:Addr
 mh:FuncData
 dw:Addr
 dy:FuncData
 ri:Addr
 rj:FuncData
 nh:Addr
 ni:FuncData
 pe:Addr
 pf:FuncData
 cx:Addr
 cy:FuncData
 ph:Addr
 pj:FuncData
 rn:Addr
 ro:FuncData
 iq:Addr
 ir:FuncData
 ov:Addr
 ow:FuncData
 mi:Addr
 mj:FuncData
 ox:Addr
 oy:FuncData
 fx:Addr
 fy:FuncData
 dz:Addr
 eh:FuncData
 mq:Addr
 mr:FuncData
 pk:Addr
 qs:FuncData
 mw:Addr
 mx:FuncData
 rp:Addr
 rq:FuncData
 cg:Addr
 cj:FuncData
 et:Addr
 bq:FuncData
 cz:Addr
 bh:FuncData
 nj:Addr
 nq:FuncData
 ra:Addr
 rb:FuncData
 vb:Addr
 vl:FuncData
 eu:Addr
 ae:Addr
 da:Addr
 aa:Addr
 aq:Addr
 ag:Addr
 af:Addr
 wh:Tok
 tu:Tok
 cb:Addr
structure Kg(K:PySem.W.Frag)(w:World)(mg:2e9)(x:Str)(a:Addr)(l:11e2):Prop where
 m:mg x=some 3e1
 d:KD K w a l
structure Kt(K:PySem.W.Frag)(mg:2e9)(x:Str)(a:Addr)(l:1e3):Prop where
 m:mg x=some 3e1
 d:∀H,SqT K H a (l.map V.str)
structure Df(K:PySem.W.Frag)(mg:2e9)(x:Str)(st:Stmt)(ps:1e3)(f:Addr)(fd:FuncData):Prop where
 F:Fun K x x st f fd
 m:mg x=16e7
 b:Binds K fd ps []
set_option genInjectivity false in
set_option genSizeOfSpec false in
structure Txt(K:PySem.W.Frag)(w:World)(mg:2e9)(t:Adr):Prop where
 aq:Kg K w mg "SUM_PARTS" t.aq 30e8
 ag:Kg K w mg "SUMS_IN_CLAIM" t.ag 34e7
 af:Kg K w mg "CLAIMS_IN_CLAIM" t.af 35e1
 xn:mg "LETTERS" = some (.str "abcdefghijklmnopqrstuvwxyz" t.wh)
 ui:mg "LONGEST_NAME" = some (.int 8 t.tu)
 cb:Kt K mg "REMEMBERING" t.cb 34e2
 bo:Df K mg "words_at" qG ["width"] t.iu t.iw
 az:Df K mg "number_of" Gu ["bits"] t.ia t.ib
 rr:Df K mg "run" Zko 18e8 t.ti t.tj
 ck:Df K mg "layers_led_to" XB 18e8 t.fj t.fk
 aj:Df K mg "letters_with_bit" Yy 23e8 t.dg t.dh
 ig:Df K mg "goes_well" Gv 25e7 t.oj t.om
 dc:Df K mg "state_number" Wj 26e7 t.il t.ip
 di:Df K mg "is_sum_word" W9 ["text"] t.lj t.lq
 cm:Df K mg "is_claim_word" XC ["text"] t.fq t.ft
 dj:Df K mg "sums_behind" WA 8e2 t.lr t.lu
 cq:Df K mg "claims_behind" XD 8e2 t.fu t.fw
 fg:Df K mg "is_made_of" XT ["text","signs"] t.my t.mz
 bb:Df K mg "remembers" Gw 8e2 t.ic t.ie
 bp:Df K mg "borrowed" qH ["one","other","held"] t.ix t.iy
 dk:Df K mg "out_at_once" WC ["word","parts"] t.lx t.ma
 cf:Df K mg "longest_number" YC ["words"] t.fe t.ff
 nu:Df K mg "bits_at" GU 24e4 t.rf t.rh
 fh:Df K mg "next_pairs" Jo 14e2 t.nc t.ng
 ka:Df K mg "partings" JD 14e2 t.pb t.pd
 au:Df K mg "least_width_of_truth" Yv ["machine"] t.bx t.bz
 bc:Df K mg "_law_whole" Gx ["found"] t.oq t.ou
 ai:Df K mg "_law_cell_at" WD ["script","k"] t.md t.me
 dm:Df K mg "_law_numbers" WE ["cell","many","most"] t.mf t.mh
 br:Df K mg "_law_two_numbers" YZ ["cell"] t.dw t.dy
 ny:Df K mg "_law_two" zb 30e0 t.ri t.rj
 aw:Df K mg "_law_within" Jp ["cell","words","more"] t.nh t.ni
 kv:Df K mg "words_of" JE 19e2 t.pe t.pf
 ah:Df K mg "states_going_well" Yr 28e3 t.cx t.cy
 lb:Df K mg "parts_of" qI 8e2 t.ph t.pj
 nz:Df K mg "is_name" zc ["text"] t.rn t.ro
 de:Df K mg "name_columns" Xe 19e2 t.iq t.ir
 ij:Df K mg "kept_then" Gy ["word","parts","held"] t.ov t.ow
 dn:Df K mg "out_by_kept" WG 26e5 t.mi t.mj
 ik:Df K mg "_law_names" XE ["cell","many"] t.ox t.oy
 cu:Df K mg "_law_is_parted" XF ["found","width","words"] t.fx t.fy
 bu:Df K mg "with_least_word" Xa 28e8 t.dz t.eh
 dt:Df K mg "parts_taken" X1 ["stack","word"] t.mq t.mr
 lg:Df K mg "names_of" JF ["words"] t.pk t.qs
 du:Df K mg "first_words" YL 30e2 t.mw t.mx
 og:Df K mg "stepped" zd 29e4 t.rp t.rq
 ao:Df K mg "machine_found" YM ["names","begin","step_of"] t.cg t.cj
 bw:Df K mg "machine_telling" ZK ["words","names","told"] t.et t.bq
 bj:Df K mg "machines_compared" Ys 17e7 t.cz t.bh
 ax:Df K mg "machine_of" Jq ["words","names"] t.nj t.nq
 lh:Df K mg "compared" qJ 17e7 t.ra t.rb
 aab:Df K mg "law" kX ["script"] t.vb t.vl
 su:t.bq.code=.ref t.eu
 sj:t.bh.code=.ref t.da
 oh:t.ae≠t.aa
 tq:mg "abs" = none
 aac:mg "all" = none
 aad:mg "any" = none
 xo:mg "bool" = none
 aaa:mg "dict" = none
 oz:mg "enumerate" = none
 rz:mg "int" = none
 ay:mg "isinstance" = none
 av:mg "len" = none
 uj:mg "list" = none
 aae:mg "max" = none
 aaf:mg "min" = none
 bf:mg "range" = none
 sf:mg "reversed" = none
 aag:mg "set" = none
 sy:mg "sorted" = none
 aah:mg "str" = none
 ak:mg "tuple" = none
 vr:mg "zip" = none
set_option genInjectivity false in
set_option genSizeOfSpec false in
structure Tbs(mg:2e9)(base:Heap)(t:Adr):Prop where
 eu:PySem.W.CodeHd base t.eu t.ae
 da:PySem.W.CodeHd base t.da t.aa
 B:xY mg base
theorem WM:Zs ["width","many","bit_number"] ["width"] (Zg qG):=3e6
theorem XX:Zs ["bits","number","bit"] ["bits"] (Zg Gu):=3e6
theorem z8:Zs ["machine","letters","state","steps","out","row","letter"] 18e8 (Zg Zko):=3e6
theorem ZN:Zs ["machine","letters","steps","layers","some","layer","state","letter"] 18e8 (Zg XB):=3e6
theorem G7:Zs 23e8 23e8 (Zg Yy):=3e6
theorem vU:Zs 25e7 25e7 (Zg Gv):=3e6
theorem z9:Zs 26e7 26e7 (Zg Wj):=3e6
theorem zT:Zs ["text"] ["text"] (Zg W9):=3e6
theorem xw:Zs ["text"] ["text"] (Zg XC):=3e6
theorem zU:Zs 8e2 8e2 (Zg WA):=3e6
theorem xx:Zs 8e2 8e2 (Zg XD):=3e6
theorem y9:Zs ["text","signs"] ["text","signs"] (Zg XT):=3e6
theorem vV:Zs 8e2 8e2 (Zg Gw):=3e6
theorem wO:Zs ["one","other","held"] ["one","other","held"] (Zg qH):=3e6
theorem zV:Zs ["word","parts"] ["word","parts"] (Zg WC):=3e6
theorem qR:Zs ["words"] ["words"] (Zg YC):=3e6
theorem Zag:Zs 24e4 24e4 (Zg GU):=3e6
theorem yA:Zs 14e2 14e2 (Zg Jo):=3e6
theorem wQ:Zs 14e2 14e2 (Zg JD):=3e6
theorem ZE:Zs ["machine","widths","state","row","led_to"] ["machine"] (Zg Yv):=3e6
theorem vW:Zs ["found"] ["found"] (Zg Gx):=3e6
theorem zW:Zs ["script","k"] ["script","k"] (Zg WD):=3e6
theorem ZA:Zs ["cell","many","most","found","rest","k","one","two"] ["cell","many","most"] (Zg WE):=3e6
theorem YQ:Zs ["cell","bit","one"] ["cell"] (Zg YZ):=3e6
theorem jB:Zs ["word","name","one","other","above"] 30e0 (Zg zb):=3e6
theorem WN:Zs ["cell","words","more","name"] ["cell","words","more"] (Zg Jp):=3e6
theorem WO:Zs ["names","letters","words","place","name"] 19e2 (Zg JE):=3e6
theorem Y9:Zs ["machine","states","letters","well","wanted","going","state"] 28e3 (Zg Yr):=3e6
theorem wR:Zs 8e2 8e2 (Zg qI):=3e6
theorem Zah:Zs ["text"] ["text"] (Zg zc):=3e6
theorem YR:Zs ["names","letters","columns","place","name"] 19e2 (Zg Xe):=3e6
theorem xb:Zs ["word","parts","held","one"] ["word","parts","held"] (Zg Gy):=3e6
theorem zX:Zs 26e5 26e5 (Zg WG):=3e6
theorem Yf:Zs 35e5 ["cell","many"] (Zg XE):=3e6
theorem WU:Zs ["found","width","words","name"] ["found","width","words"] (Zg XF):=3e6
theorem Z4:Zs ["machine","letters","number","wanted","layers","left","well","place","chosen","going"] 28e8 (Zg Xa):=3e6
theorem zY:Zs ["stack","word"] ["stack","word"] (Zg X1):=3e6
theorem wU:Zs ["words"] ["words"] (Zg JF):=3e6
theorem Yh:Zs 33e7 30e2 (Zg YL):=3e6
theorem X4:Zs ["words","columns","place","kept","stack","later","word","parts","held"] 29e4 (Zg zd):=3e6
theorem ZY:Zs ["names","begin","step_of","states","numbers","steps","out","told"] ["names","begin","step_of"] (Zg YM):=3e6
theorem ZM:Zs 33e8 ["words","names","told"] (Zg ZK):=3e6
theorem Yj:Zs ["one","other","begins","found","width"] 17e7 (Zg Ys):=3e6
theorem yB:Zs ["words","names"] ["words","names"] (Zg Jq):=3e6
theorem zA:Zs ["one","other","names"] 17e7 (Zg qJ):=3e6
theorem YA:Zs ["script","shape","all_names","turn","name","more","one","other","width","words","extra","kind","pair","far","first","second"] ["script"] (Zg kX):=3e6
theorem JJ:Zkh (Zg YN) ["state"] ["step","place","reached"] ["words","columns","last_place","letters","told"]:=⟨by rfl,by rfl,by rfl,1e0,1e0,1e0,1e0⟩
section
variable {P:Program}{w:World}{K:PySem.W.Frag}{mg:2e9}{base:Heap}{t:Adr}
inductive qd(vs:List V)(H:Hp)(Q:VK):Prop
 | mk (w:Nat):(vs=[.int w])->(w<=1000)->(Q (.int (2 ^ w)) H)->qd vs H Q
def G8(K:PySem.W.Frag):Sp:=fun vs H Q _=>qd vs H Q
theorem zB (T:3e9) (O:3e8):ZH P w K mg base CX0 1 t.iu t.iw ["width"] (G8 K):=by
 refine T.bo.F.ok WM 3e7 (fun G A outer s H vs Q E hr h=>?_)
 ·obtain ⟨w,rfl,hw,k⟩:=h
  rfl
 ·obtain ⟨w,rfl,hw,k⟩:=h
  show 8;refine ⟨_,@QSs.out _ _ _ (Zb (Zo (i:=1) WM.nd rfl 1e7 Zd)
    (Zb (YH Qbq rfl (Xh rfl T.bf 11e8) (ZP (i:=2) WM.nd rfl 1e7)
    (Zf (Zo (i:=1) WM.nd rfl 1e7 (Zm Wx (qv 1) Zd))))
    (Zf (Zp (qv 1))))),?_⟩
  show 9
  show 6
  refine L2.let3 ?_;intro J I;refine ⟨_,rfl,(w:Int),rfl,by lia,by lia,GC (fun i σ H2=>∃v,σ=[some (.int w),some (.int (2 ^ i)),v]/\H2=H) ⟨none,rfl,rfl⟩ ?_ ?_⟩
  ·rintro i σ H2 hi C
   refine Z6 fun D q=>?_;obtain ⟨v,rfl,rfl⟩:=C;refine q ?_;clear q D;refine ⟨_,rfl,_,_,rfl,rfl,30e4,some (.int (0 + (i:Int))),?_,rfl⟩;rw [pow_succ']
   rfl
  ·rintro σ H2 C
   refine Z6 fun D q=>?_;obtain ⟨v,rfl,rfl⟩:=C;refine q ?_;clear q D;refine ⟨_,rfl,?_⟩;rw [Qat];exact k
theorem Zg3{ms:1e5}{x:V}(h:(ms.map V.int)[i]?=some x):∃b,x=V.int b/\ms[i]?=some b:=by
 rw [Qaj] at h;cases e:ms[i]? with
 | none=>rw [e] at h;cases h
 | some b=>rw [e] at h;exact ⟨b,(Option.some.inj h).symm,rfl⟩
inductive JR(K:PySem.W.Frag)(vs:List V)(H:Hp)(Q:VK):Prop
 | mk (p:Addr) (ns:1e5):(vs=[.ref p])->(SqT K H p (ns.map V.int))->(Q (.int (hor ns.reverse)) H)->JR K vs H Q
def Jw(K:PySem.W.Frag):Sp:=fun vs H Q _=>JR K vs H Q
theorem xc (T:3e9) (Y:3e8):ZH P w K mg base CX0 1 t.ia t.ib ["bits"] (Jw K):=by
 refine T.az.F.ok XX 3e7 (fun I A outer s H vs Q E hr h=>?_)
 ·obtain ⟨p,G,rfl,hp,k⟩:=h
  rfl
 ·obtain ⟨p,G,rfl,hp,k⟩:=h
  show 8;refine ⟨_,@QSs.out _ _ _ (Zb (Zo (i:=1) XX.nd rfl 1e7 Zd)
    (Zb (YH Qbq rfl (Zb1 rfl T.sf (qv 0)) (ZP (i:=2) XX.nd rfl 1e7)
    (Zf (Zo (i:=1) XX.nd rfl 1e7 (Zm Y6 (Zm Wx (qv 1) Zd) (qv 2)))))
    (Zf (Zp (qv 1))))),?_⟩
  show 9
  show 6
  refine L2.let3 ?_;intro O J;refine ⟨_,rfl,p,_,rfl,hp,Zb2 (K:=K) (a:=p) (xs:=G.map V.int) (fun i σ H2=>∃v,σ=[some 3e5,some (.int (hor (G.reverse.take i))),v]/\H2=H) ⟨none,rfl,rfl⟩ (fun i σ H2 _ ⟨_,_,e⟩=>by rw [e];exact hp) ?_ ?_⟩
  ·rintro i x σ H2 hx C
   refine Z6 fun D q=>?_;obtain ⟨v,rfl,rfl⟩:=C;refine q ?_;clear q D;rw [<-List.map_reverse] at hx;obtain ⟨b,rfl,hb⟩:=Zg3 hx;refine ⟨_,rfl,_,_,rfl,rfl,30e4,_,rfl,_,_,rfl,rfl,some (.int b),?_,rfl⟩;rw [Zgf hb]
   rfl
  ·rintro σ H2 C
   refine Z6 fun D q=>?_;obtain ⟨v,rfl,rfl⟩:=C;refine q ?_;clear q D;refine ⟨_,rfl,?_⟩;rw [Qcc (by rw [Qdu,Qac];exact Qai _)];exact k
inductive uv(vs:List V)(H:Hp)(Q:VK):Prop
 | mk (m p:Addr) (S L b:Nat) (nv:V) (nx:6e0) (ot:Nat->Nat->V) (ls:1e1):(vs=[.ref m,.ref p])->(Zil H m S L nv b nx ot)->(H p=some (.tup (ls.map YU)))->((∀l∈ls,l < L))->(ls.length<=1000000)->(∀q H',H q=none->H' q=some (.tup (wk nx ot b ls))->ZC H H'->Q (.ref q) H')->uv vs H Q
def Zi3(K:PySem.W.Frag):Sp:=fun vs H Q _=>uv vs H Q
theorem ok_run (T:3e9) (TB:3e8):ZH P w K mg base CX0 1 t.ti t.tj 18e8 (Zi3 K):=by
 refine T.rr.F.ok z8 3e7 6e9
 ·obtain ⟨m,p,S,L,b,nv,nx,ot,ls,rfl,M,hp,O,J,k⟩:=h
  rfl
 ·obtain ⟨m,p,S,L,b,nv,nx,ot,ls,rfl,M,hp,O,J,k⟩:=h
  show 8;refine ⟨_,@QSs.out _ _ _ (Zb (Zo (i:=2) z8.nd rfl 1e7 8e7)
    (Zb (Zo (i:=3) z8.nd rfl 1e7 8e7)
    (Zb (Zo (i:=4) z8.nd rfl 1e7 8e7)
    (Zb (Zo (i:=5) z8.nd rfl 1e7 (Wl Ze))
    (Zb (YH Qbq rfl (WS (qv 1)) (ZP (i:=6) z8.nd rfl 1e7)
    (Zb (YD (X7 Qbj Qbo Qbp Yl (qv 5) (Zk (Zq Zu (Zq Zu (qv 4) (qv 2) 1e6) (qv 6) 1e6) Ze)))
    (Zf (Zo (i:=2) z8.nd rfl 1e7 (Zq Zu (Zq Zu (qv 3) (qv 2) 1e6) (qv 6) 1e6)))))
    (Zf (Zp (Z9 Z5 2e8 T.ak Ya (Zk (qv 5) Ze))))))))),?_⟩
  clear hu
  show 6
  refine L2.let6 ?_;intro U5 U4 U3 U2 U1;show 19;obtain ⟨ps,Z,hm,RS,RO⟩:=M.ex;refine C ?_;clear C D;refine ⟨_,rfl,m,_,1,_,rfl,rfl,SqT.of hm,rfl,_,rfl,m,_,2,_,rfl,rfl,SqT.of hm,rfl,_,rfl,m,_,3,_,rfl,rfl,SqT.of hm,rfl,?_⟩;refine ⟨21e5,fun r hr=>?_⟩;refine ⟨_,rfl,p,rfl,⟨_,SqT.of (Zc hr _ _ hp)⟩,?_⟩;refine xM (K:=K) (a:=p) (xs:=ls.map YU) (fun i σ H2=>∃u,σ=[some (.ref m),some 3e5,some (.int (Ze6 nx b (ls.take i):Nat)),some (.ref ps),some (.ref Z),some (.ref r),u]/\H2 r=some (.lst (wk nx ot b (ls.take i)))/\ZC H H2) ⟨none,rfl,Za,Zc hr⟩ (fun i σ H2 _ ⟨u,_,_,G⟩=>SqT.of (G _ _ hp)) ?_ ?_
  ·rintro i x σ H2 hx I
   show 19;obtain ⟨u,rfl,h2,G⟩:=I;refine C ?_;clear C D;obtain ⟨l,rfl,hl⟩:=Zdj hx;have ll:=O l (Qam hl);have st:=Zdi M.nx (ls.take i) b M.b fun x hx=>O x (Qc7 hx);obtain ⟨as,ho,go⟩:=RO.ex;show 19;obtain ⟨a,xs,o1,o2,o3⟩:=go _ st;refine C ?_;clear C D;obtain ⟨bs,hs,gs⟩:=RS.ex;show 19;obtain ⟨c,ys,t1,t2,t3⟩:=gs _ st;refine C ?_;clear C D;have Y:=Yz (p:=r) (o:=.lst (wk nx ot b (ls.take i)++[ot (Ze6 nx b (ls.take i)) l])) G hr;refine ⟨_,rfl,.inl ⟨rfl,_,SqL.of h2⟩,_,rfl,_,rfl,Z,_,_,_,rfl,rfl,SqT.of (G _ _ ho),Yk o1,_,rfl,a,_,_,_,rfl,rfl,SqT.of (G _ _ o2),Yk (o3 l ll),r,_,_,rfl,rfl,h2,?_,?_⟩
   ·rw [Zim,Qa6]
    exact Xj 1e2
   refine ⟨_,rfl,_,rfl,ps,_,_,_,rfl,rfl,SqT.of (Y _ _ hs),Yk t1,_,rfl,c,_,_,_,rfl,rfl,SqT.of (Y _ _ t2),Yk (t3 l ll),some (.int l),?_,?_,Y⟩
   ·rw [take_snoc hl,gU]
    rfl
   ·rw [Za,take_snoc hl,Zdh]
    rfl
  ·rintro σ H2 I
   show 19;obtain ⟨u,rfl,h2,G⟩:=I;refine C ?_;clear C D;rw [Qac,Qbi] at h2;exact ⟨_,rfl,r,_,rfl,.inl ⟨SqL.of h2,fun q hq=>k q _ (G.free hq) Za (G.trans (Zc hq))⟩⟩
inductive XY(vs:List V)(H:Hp)(Q:VK):Prop
 | mk (m a:Addr) (nm:1e3) (b:Nat) (nx:2e4) (ot:5e8) (n:Nat) (Ls:2e4):(vs=[.ref m,.ref a])->(M4 H m nm b nx ot)->(Runs nx ot n)->(b < nx.length)->(nx.length<=1000000)->(vP H a Ls)->(Ls≠[])->((∀L∈Ls,L.length<=1000/\∀l∈L,l < 2 ^ n))->(Ls.length<=1000000)->(∀p H',H p=none->Ze8 H' p 18e9->SmF H H'->Q 3e5 H')->XY vs H Q
def WV(K:PySem.W.Frag):Sp:=fun vs H Q _=>XY vs H Q
theorem xy (T:3e9) (TB:3e8):ZH P w K mg base CX0 1 t.fj t.fk 18e8 (WV K):=by
 refine T.ck.F.ok ZN 3e7 6e9
 ·obtain ⟨m,a,nm,b,nx,ot,n,Ls,rfl,M,R,hb,hN,hA,hne,hL,hw,k⟩:=h
  rfl
 ·obtain ⟨m,a,nm,b,nx,ot,n,Ls,rfl,M,R,hb,hN,hA,hne,hL,hw,k⟩:=h
  show 8;refine ⟨_,@QSs.out _ _ _ (Zb (Zo (i:=2) ZN.nd rfl 1e7 8e7)
    (Zb (Zo (i:=3) ZN.nd rfl 1e7 (Wl (Zk (kK (yd 8e7 zK kJ) rfl rfl (4e3) 1e4) Ze)))
    (Zb (YH Qbq rfl (Gn (Xz jL (qv 1) W2 (W3 (JK GD Zd)))) (ZP (i:=4) ZN.nd rfl 1e7)
    (Zb (Zo (i:=5) ZN.nd rfl 1e7 xT)
    (Zb (YH Qbq rfl (gK (Zq Zy (qv 3) (JK GD Zd) 1e6)) (ZP (i:=6) ZN.nd rfl 1e7)
    (Zf (YH Qbq rfl (WS (qv 4)) (ZP (i:=7) ZN.nd rfl 1e7)
    (Zf (W5 hu (qv 5) (Zq Zu (Zq Zu (qv 2) (qv 6) 1e6) (qv 7) 1e6) zK rfl)))))
    (Zf (YD (X7 Qbj Qbo Qbp Yl (qv 3) (Zk (qv 5) Ze)))))))
    (Zf (Zp (qv 3)))))),?_⟩
  show 9
  show 6
  refine L2.let4 ?_;intro U3 U2 U1;show 20;obtain ⟨pn,ps,po,h1,_,Rs,Ro⟩:=M.ex;refine C ?_;clear C G;obtain ⟨as,ha,hal,hat⟩:=hA;have lyl:=wF (nx:=mN nx) Ls [b];have lyok:=36e6;have ly1:1<=Ls.length/\(18e9).take 1=[[b]]:=by
   cases Ls with
   | nil=>exact absurd rfl hne
   | cons _ _=>exact ⟨Qfm (Qbe _),rfl⟩
  refine ⟨_,rfl,m,_,2,_,rfl,rfl,SqT.of h1,rfl,Zi ?_⟩;refine fun d hd=>?_;have sd:=Zc (o:=.dK []) hd;refine ⟨_,rfl,m,_,1,_,rfl,rfl,SqT.of (sd _ _ h1),rfl,Za,[(.inl (b:Int),.bl true)],rfl,by show 1<=15;decide,18e6,fun p hp=>Zi ?_⟩;rw [Gh] at hp ⊢;have sd2:=Zc (o:=31e8) hd;have s2:=sd2.trans (Zc (o:=.lst [.ref d]) hp);have hpH:=sd2.free hp;have hd2:=Zc (o:=.lst [.ref d]) hp _ _ (Za (H:=H) (a:=d) (o:=31e8));have ly0:Ze8 (upd (upd H d (31e8)) p (.lst [.ref d])) p ((18e9).take 1):=by
   rw [ly1.2];refine ⟨_,Za,rfl,fun i S hi=>?_⟩
   match i,hi with
   | 0,hi =>
    cases hi;exact ⟨d,rfl,.inl hd2⟩
  generalize upd (upd H d (31e8)) p (.lst [.ref d])=H2 at *;have O:zJ as none (some (-1))=as.take (as.length - 1):=Zdu (xs:=as) (n:=1) 1e2 1e4;refine ⟨_,rfl,_,rfl,_,rfl,a,as,rfl,SqL.of (s2 _ _ ha),fun q hq=>⟨q,rfl,⟨_,SqL.of Za⟩,Zfe (K:=K) (a:=q) (xs:=zJ as none (some (-1))) (fun i σ H'=>∃(u4 u5 u6 I:5e6),σ=[some (.ref m),some 3e1,some (.ref ps),some 3e5,u4,u5,u6,I]/\i + 1<=Ls.length/\Ze8 H' p ((18e9).take (i + 1))/\H' q=some (.lst (zJ as none (some (-1))))/\SmF H H') ⟨none,none,none,none,rfl,ly1.1,ly0.smf (SmF.of (Zc hq)),Za,(SmF.of s2).trans (SmF.of (Zc hq))⟩ (fun i σ H' _ ⟨_,_,_,_,_,_,_,h,_⟩=>SqL.of h) ?_ ?_⟩⟩
  ·rintro i x σ H1 hx D
   show 20;obtain ⟨u4,u5,u6,I,rfl,hi,⟨zs,hz1,hz2,hz3⟩,hq1,s3⟩:=D;refine C ?_;clear C G;rw [O,Qf1] at hx;have hi2:i + 1 < Ls.length:=by
    rcases Qc9 i (as.length - 1) with z | z
    ·lia
    ·rw [Qau 1e2] at hx;cases hx
   rw [Qaw 1e2] at hx;obtain ⟨L,hLi⟩:∃L,Ls[i]?=some L:=⟨_,Qag 1e2⟩;obtain ⟨x0,hx0,htl⟩:=hat i L hLi;rw [hx] at hx0;cases hx0;obtain ⟨hL1,hL2⟩:=hL L (Qam hLi);obtain ⟨S,hSi⟩:∃S,18e9[i]?=some S:=⟨_,Qag 1e2⟩;obtain ⟨hS1,hS2⟩:=lyok S (Qam hSi);have Z:=uk hSi hLi hi2;rw [Qa6] at hz2;have hzl:zs.length=i + 1:=by lia
   obtain ⟨dl,hdl,rdl⟩:=hz3 i S (by rw [Qf1,Qaw 1e2];exact hSi);have ezs:zs=zs.take i++[.ref dl]:=by
    rw [<-take_snoc hdl,<-hzl,Qbi]
   have hlast:atI zs (-1)=some (.ref dl):=by rw [ezs];exact jJ _ _
   refine Zi fun e he=>Zi ?_;have se:=SmF.of (Zc (o:=.dK []) he);have rd2:=se.rd rdl;refine ⟨_,rfl,_,rfl,p,_,-1,_,rfl,rfl,SqL.of (se.lst hz1),hlast,dl,_,rfl,rd2,fun o ho=>jW (kvs:=twK S) (fun j σ H'=>∃(u6 I:5e6),σ=[some (.ref m),some 3e1,some (.ref ps),some 3e5,some (.ref x0),some (.ref e),u6,I]/\H' dl=some (.frz o (.dK (twK S)))/\H' e=some (.dK (twK (((S.take j).flatMap fun s=>L.map (mN nx s)).foldl Y0 [])))/\SmF H1 H') ⟨_,_,rfl,Za,?_,se.trans (SmF.frz rd2 ho)⟩ (fun i σ H' _ ⟨_,_,_,h,_⟩=>h) ?_ ?_⟩
   ·have hed:e≠dl:=fun z=>by
     subst z;rcases rdl with z | ⟨_,z⟩ <;> rw [he] at z <;> cases z
    rw [Zh hed,Za]
    rfl
   ·rintro j pr σ H3 hpr D
    show 20;obtain ⟨u6,I,rfl,g1,g2,Y⟩:=D;refine C ?_;clear C G;unfold twK at hpr;rw [Qaj] at hpr;obtain ⟨s,hs,rfl⟩:=Qcb.mp hpr;have hsS:=Qam hs;have hsN:=hS2 s hsS;have s34:=s3.trans Y;have J:=s34.tup htl;show 20;obtain ⟨pn3,ps3,po3,m1,_,Rs3,_⟩:=(M.smf s34).ex;refine C ?_;clear C G;rw [s34.tup h1] at m1;cases m1;show 20;obtain ⟨as1,a1,r1,r2,r3⟩:=Jr Rs3 (i:=s) (by rw [Qac];exact hsN);refine C ?_;clear C G;rw [GW] at r3;have l1:=R.nr _ (getD_mem hsN);have hde:dl≠e:=fun z=>by rw [z,g2] at g1;cases g1
    refine Zi ⟨_,rfl,x0,rfl,⟨_,SqT.of J⟩,xM (K:=K) (a:=x0) (xs:=L.map YU) (fun c σ H'=>∃(I:5e6),σ=[some (.ref m),some 3e1,some (.ref ps),some 3e5,some (.ref x0),some (.ref e),some (.int (s:Int)),I]/\H' dl=some (.frz o (.dK (twK S)))/\H' e=some (.dK (twK ((((S.take j).flatMap fun s=>L.map (mN nx s))++(L.take c).map (mN nx s)).foldl Y0 [])))/\SmF H1 H'/\∀b xs,H3 b=2e2->H' b=2e2) ⟨_,rfl,g1,by rw [List.take_zero,Qfo,Qbv];exact g2,Y,fun _ _ z=>z⟩ (fun c σ H' _ ⟨_,_,_,_,_,z⟩=>SqT.of (z _ _ J)) ?_ ?_⟩
    ·rintro c y σ H4 hy D
     show 20;obtain ⟨I,rfl,f1,f2,s5,tp⟩:=D;refine C ?_;clear C G;rw [Qaj] at hy;obtain ⟨l,hl,rfl⟩:=Qcb.mp hy;have hlL:=hL2 l (Qam hl);have hsz:((((S.take j).flatMap fun s=>L.map (mN nx s))++(L.take c).map (mN nx s)).foldl Y0 []).length<=nx.length:=Zll fun x hx=>by
      rcases Qaz.mp hx with z | z
      ·obtain ⟨s',hs',z⟩:=Qhx.mp z
       obtain ⟨l',hl',rfl⟩:=Qay.mp z;exact R.mN (hS2 s' (Qc7 hs')) (hL2 l' hl')
      ·obtain ⟨l',hl',rfl⟩:=Qay.mp z
       exact R.mN hsN (hL2 l' (Qc7 hl'))
     refine Zi ⟨_,rfl,_,rfl,_,rfl,ps,_,_,_,rfl,rfl,SqT.of (tp _ _ r1),r2,_,rfl,a1,_,_,_,rfl,rfl,SqT.of (tp _ _ r3),Yk (wD (show l < (19e4).length by lia)),e,_,rfl,uH.k (k:=.inl (((19e4).getD l 0:Nat):Int)) f2 (by rw [zy];exact Xj 1e2),_,rfl,by rw [Zh hde];exact f1,?_,s5.put he,fun b xs z=>?_⟩
     ·rw [Za,Zei,take_snoc hl,Qbc,<-Qb6,Qdf (l':=List.map _ [l])]
      rfl
     ·rw [Zh (Xn z (show H3 e=_ from g2) fun q=>nomatch q)]
      exact tp b xs z
    ·rintro σ H4 D
     show 20;obtain ⟨I,rfl,f1,f2,s5,_⟩:=D;refine C ?_;clear C G;rw [Qac,Qbi] at f2;exact ⟨_,_,rfl,f1,by rw [Zel hs];exact f2,s5⟩
   ·rintro σ H3 D
    show 20;obtain ⟨u6,I,rfl,g1,g2,Y⟩:=D;refine C ?_;clear C G;rw [zy,Qbi] at g2;have hz4:=Y.lst hz1;have hq4:=Y.lst hq1;have hpq:q≠p:=fun z=>by
     subst z;have:=s2.trans (Zc (o:=.lst (zJ as none (some (-1)))) hq);obtain ⟨w0,hw0,_⟩:=ly0;rw [hq] at hw0;cases hw0
    refine ⟨_,rfl,.inl ⟨rfl,_,SqL.of hz4⟩,_,rfl,p,_,_,rfl,rfl,hz4,by rw [hzl];exact Xj 1e2,_,_,_,_,rfl,hi2,?_,by rw [Zh hpq];exact hq4,(s3.trans Y).put hpH⟩;rw [take_snoc Z];exact Ze8.more (H':=H3) hz4 (by rw [Qa6];lia) (fun j S' hj=>by
     obtain ⟨a9,y1,y2⟩:=hz3 j S' hj;exact ⟨a9,y1,Y.rd y2⟩) g2
  ·rintro σ H1 D
   show 20;obtain ⟨u4,u5,u6,I,rfl,hi,ly,hq1,s3⟩:=D;refine C ?_;clear C G;rw [O,Qa6] at ly hi;refine ⟨_,rfl,k p H1 hpH ?_ s3⟩;rw [show min (as.length - 1) as.length + 1=(18e9).length by lia,Qbi] at ly;exact ly
inductive Xm(vs:List V)(H:Hp)(Q:VK):Prop
 | mk (a:Addr) (L:1e1) (kb b:Nat):(vs=[.ref a,.int (kb:Int),.int (b:Int)])->(H a=some (.tup (L.map YU)))->(L.length<=1000)->(kb<=3)->(∀p H',H p=none->H' p=some (.tup ((chs kb b L).map YU))->22e4)->Xm vs H Q
def XM(K:PySem.W.Frag):Sp:=fun vs H Q _=>Xm vs H Q
theorem G9 (T:3e9) (O:3e8):ZH P w K mg base CX0 1 t.dg t.dh 23e8 (XM K):=by
 refine T.aj.F.ok G7 3e7 (fun J A outer s H vs Q E hr h=>?_)
 ·obtain ⟨a,L,D,b,rfl,ha,hl,G,k⟩:=h
  rfl
 ·obtain ⟨a,L,D,b,rfl,ha,hl,G,k⟩:=h
  show 8;refine ⟨_,@QSs.out _ _ _ (Zf (Zp (Z9 Z5 2e8 T.ak Ya (Zk (YE (11e0:Ym (Zg Yy) _ 23e8 "letter" ["bit","number"] [2,1]) (WS (qv 0)) (fun _ _ _ _=>(gx (Zz XO (Zm XQ (Zm jh (qv 0) (qv 2)) Zd) (qv 1) (ZG _)))) (fun _ _ _ _=>(qv 0))) Ze)))),?_⟩;show 9
  show 6
  refine ⟨_,rfl,a,rfl,⟨_,SqT.of ha⟩,vq (xs:=L.map YU) (Zm7 D b) ZC ZC.refl (fun _ _ _ x y=>x.trans y) (fun H1 q=>SqT.of (q _ _ ha)) (by rw [Qac];exact Qa0 (Zn hl)) (fun x hx H1 q R hR=>?_) (fun x hx H1 R hR=>⟨_,rfl,hR⟩) (fun H1 l q C=>?_)⟩
  ·obtain ⟨y,_,rfl⟩:=Qay.mp hx
   refine ⟨_,rfl,_,rfl,_,_,rfl,rfl,Qb7 _,_,_,rfl,rfl,_,rfl,rfl,_,rfl,?_⟩;rw [bit_of];exact hR H1 (ZC.refl H1)
  have I:=q.trans (Zc (o:=.lst ((L.map YU).filter (Zm7 D b))) C);refine ⟨l,_,rfl,.inl ⟨SqL.of Za,fun p hp=>?_⟩⟩;exact k p _ (I.free hp) (by rw [Za,z5]) (I.trans (Zc hp))
inductive JS(vs:List V)(H:Hp)(Q:VK):Prop
 | mk (m:Addr) (nm:1e3) (b:Nat) (nx:2e4) (ot:5e8) (n s c:Nat) (W:13e7) (wv v:V) (tr:Bool):(vs=[.ref m,.int (s:Int),.int (c:Int),wv,v])->(M4 H m nm b nx ot)->(Runs nx ot n)->(s < nx.length)->(c < 2 ^ n)->(jA H wv W)->(XH tr v)->((∀r∈ot,∀x∈r,XH tr x))->(Q (.bl (gw (mN nx) 6e8 W s c)) H)->JS vs H Q
def xf(K:PySem.W.Frag):Sp:=fun vs H Q _=>JS vs H Q
theorem vX (T:3e9) (TB:3e8):ZH P w K mg base CX0 1 t.oj t.om 25e7 (xf K):=by
 refine T.ig.F.ok vU 3e7 6e9
 ·obtain ⟨m,nm,b,nx,ot,n,s,c,W,O,v,tr,rfl,M,R,hs,hc,hw,hv,hk,k⟩:=h
  rfl
 ·obtain ⟨m,nm,b,nx,ot,n,s,c,W,O,v,tr,rfl,M,R,hs,hc,hw,hv,hk,k⟩:=h
  show 8;refine ⟨_,@QSs.out _ _ _ (Zb (Yi (Zz Zhi (qv 3) gn (9e2))
    (Zf (Zp (X6 XO (Zq Zu (Zq Zu 8e7 (qv 1) 1e6) (qv 2) 1e6) (qv 4) (ZG _)))) Z7)
    (Zf (Zp (X6 (jn hu) (Zq Zu (Zq Zu 8e7 (qv 1) 1e6) (qv 2) 1e6) (qv 3) (9e2))))),?_⟩
  show 9
  show 6
  refine L2.let2 ?_;intro U1;refine Z6 fun D q=>?_;obtain ⟨pn,ps,Y,h1,_,Rs,I⟩:=M.ex;refine q ?_;clear q D;have C:s < ot.length:=by rw [R.ol];exact hs
  have l1:=R.nr _ (getD_mem hs);have l2:=R.or _ (getD_mem C);refine Z6 fun D q=>?_;obtain ⟨J,a1,g1,g2,G⟩:=Jr Rs (i:=s) (by rw [Qac];exact hs);refine q ?_;clear q D;refine Z6 fun D q=>?_;obtain ⟨as2,a2,f1,Z,f3⟩:=Jr I C;refine q ?_;clear q D;rw [GW] at G;refine 11e7;rcases hw with ⟨rfl,rfl⟩ | ⟨d,l,rfl,rfl,hd⟩
  ·rw [Qah rfl]
   have e:=getD_at (d:=V.non) (show c < (ot.getD s []).length by lia);exact Jh ⟨_,rfl,m,_,3,_,rfl,rfl,SqT.of h1,rfl,_,rfl,Y,_,_,_,rfl,rfl,SqT.of f1,Z,_,rfl,a2,_,_,_,rfl,rfl,SqT.of f3,Yk e,_,rfl,zu (hk _ (getD_mem C) _ (Qam e)) hv,k⟩
  ·rw [Qao (4e3)]
   refine Xr ⟨_,rfl,m,_,2,_,rfl,rfl,SqT.of h1,rfl,_,rfl,ps,_,_,_,rfl,rfl,SqT.of g1,g2,_,rfl,a1,_,_,_,rfl,rfl,SqT.of G,Yk (wD (show c < (19e4).length by lia)),_,rfl,d,_,rfl,.inl ⟨_,.inl _,hd,rfl,rfl⟩,?_⟩;show Q (.bl (Yg (twK l) (.inl (((19e4).getD c 0:Nat):Int))).isSome) H;rw [y4];exact k
inductive Wr(vs:List V)(H:Hp)(Q:VK):Prop
 | mk (κ:Type) (dq:19e5) (sk:SK κ) (v:V) (st nd:Addr) (k:κ) (l:List κ) (ws:List V):(vs=[v,.ref st,.ref nd])->(H st=some (.lst ws))->(ws.length=l.length)->(sk.dic H nd l)->(sk.at_ H k v)->(l.Nodup)->(l.length < 10000000)->(∀H' ws',H' st=some (.lst ws')->((k∈l/\ws'=ws)\/(k∉l/\ws'=ws++[v]))->sk.dic H' nd (Y0 l k)->(∀b o,10e9->b≠st->b≠nd->12e4)->(∀b,H b=none->H' b=none)->Q (.int ((Y0 l k).idxOf k:Int)) H')->Wr vs H Q
def Jx(K:PySem.W.Frag):Sp:=fun vs H Q _=>Wr vs H Q
theorem zC (T:3e9) (TB:3e8):ZH P w K mg base CX0 1 t.il t.ip 26e7 (Jx K):=by
 refine T.dc.F.ok z9 3e7 6e9
 ·obtain ⟨κ,_,sk,v,st,D,k0,l,I,rfl,C,O,n,hk,G,hl,k⟩:=h
  rfl
 ·obtain ⟨κ,_,sk,v,st,D,k0,l,I,rfl,C,O,n,hk,G,hl,k⟩:=h
  show 8;refine ⟨_,@QSs.out _ _ _ (Zb (Yi (Zz (OpR.or (Zcr (gH hr)) (GK hu)) (qv 0) (qv 2) (9e2))
    (Zb (QS.or (Zkf (gH hr) (qv 2) (qv 0) (Zv ZF 2e8 T.av Xg 16e3) rfl) (W5 hu (qv 2) (qv 0) (Zv ZF 2e8 T.av Xg 16e3) rfl))
    (Zf (YD (X7 Qbj Qbo Qbp Yl (qv 1) 11e8)))) Z7)
    (Zf (Zp (QE.or (Zke (gH hr) (qv 2) (qv 0) 1e6) (Gq hu (qv 2) (qv 0) 1e6))))),?_⟩
  show 9
  show 6
  refine L2.let2 ?_;intro U1;have hsn:st≠D:=fun z=>by
   obtain ⟨o,e,_,h⟩:=SK.ne n;rw [<-z,C] at e;cases e;exact h _ rfl
  cases sk with
  | int f inj =>
   have n:H D=some (.dK (nk (l.map f))):=n;have hk:v=.int (f k0):=hk;subst hk;have hm:f k0∈l.map f↔k0∈l:=⟨fun z=>let ⟨a,ha,e⟩:=Qay.mp z;inj _ _ e ▸ ha,fun z=>Qby z⟩;have Z:(l.map f).Nodup:=by
    unfold List.Nodup;rw [Qhg];exact List.Pairwise.imp (fun hne e=>hne (inj _ _ e)) G
   have ei:=Zia f k0 (Y0 l k0) fun a _ e=>inj _ _ e;have em:=gI f l k0 fun a _ e=>inj _ _ e;refine ⟨_,rfl,_,rfl,.inr ⟨D,Yg (nk (l.map f)) (.inl (f k0)),rfl,.inl ⟨nk (l.map f),.inl (f k0),.inl n,rfl,rfl⟩,_,rfl,?_⟩⟩
   by_cases hs:k0∈l
   ·have e1:Y0 l k0=l:=Qaw hs
    rw [e1] at k ei;rw [Zdl (hm.mpr hs) Z];refine Xr (.inr ⟨_,rfl,_,rfl,D,_,rfl,.inl ⟨nk (l.map f),.inl (f k0),.inl n,rfl,(Zdl (hm.mpr hs) Z).symm⟩,?_⟩);rw [ei];exact k H I C (.inl ⟨hs,rfl⟩) n (fun _ _ e _ _=>e) fun _ e=>e
   ·have e1:Y0 l k0=l++[k0]:=Qau hs
    have hs':f k0∉l.map f:=fun z=>hs (hm.mp z);rw [e1] at k ei em;rw [Zk2 hs'];have Y:((l++[k0]).map f).Nodup:=by
     rw [<-em];exact JC Z _
    refine Jh (.inr ⟨_,rfl,st,_,rfl,.inl (SqL.of C),_,rfl,_,rfl,D,_,rfl,uH.k (k:=.inl (f k0)) n (by rw [nk_len,Qac];exact Xj (by lia)),?_⟩);rw [O,show (l.length:Int)=((l.map f).length:Int) by rw [Qac],nk_put hs'];have e2:l.map f++[f k0]=(l++[k0]).map f:=by rw [Qbc];rfl
    rw [e2];have q:upd H D (.dK (nk ((l++[k0]).map f))) st=some (.lst I):=by rw [Zh hsn];exact C
    refine ⟨_,rfl,.inl ⟨rfl,_,SqL.of q⟩,_,rfl,st,_,_,rfl,rfl,q,Xj (by lia),?_⟩;have J:upd (upd H D (.dK (nk ((l++[k0]).map f)))) st (.lst (I++[.int (f k0)])) D=some (.dK (nk ((l++[k0]).map f))):=by rw [Zh hsn.symm];exact Za
    refine .inr ⟨_,rfl,_,rfl,D,_,rfl,.inl ⟨_,.inl (f k0),.inl J,rfl,(Zdl (Qby (by simp)) Y).symm⟩,?_⟩;rw [ei];refine k _ (I++[.int (f k0)]) Za (.inr ⟨hs,rfl⟩) J (fun b o e h1 h2=>?_) fun b e=>?_
    ·rw [Zh h1,Zh h2]
     exact e
    ·rw [Zh (fun z=>by rw [z,C] at e;cases e),Zh (fun z=>by rw [z,n] at e;cases e)]
     exact e
  | key kn =>
   have n:kh kn H D (W8 l):=n;obtain ⟨a,rfl,hk⟩:=hk;refine ⟨_,rfl,_,rfl,.inl ⟨κ,_,kn,D,a,k0,_,rfl,rfl,n,hk,_,rfl,?_⟩⟩
   by_cases hm:k0∈l
   ·have e1:Y0 l k0=l:=Qaw hm
    have hv:=za l k0 hm G;rw [e1] at k;rw [hv];exact Xr (.inl ⟨_,rfl,_,rfl,κ,_,kn,D,a,k0,_,_,rfl,rfl,n,hk,hv,k H I C (.inl ⟨hm,rfl⟩) n (fun _ _ e _ _=>e) fun _ e=>e⟩)
   ·have e1:Y0 l k0=l++[k0]:=Qau hm
    have hv:=jw l k0 hm;have Y:(l++[k0]).Nodup:=e1 ▸ JC G k0;rw [e1] at k;rw [hv];refine Jh (.inl ⟨_,rfl,st,_,rfl,.inl (SqL.of C),_,rfl,_,rfl,κ,_,kn,D,a,k0,_,rfl,rfl,n,hk,hv,?_,fun H2 n2 o2 hx=>?_⟩)
    ·rw [vx]
     exact Xj (by lia)
    rw [O] at n2;rw [<-jv] at n2;have q:=o2 _ _ C hsn;refine ⟨_,rfl,.inl ⟨rfl,_,SqL.of q⟩,_,rfl,st,_,_,rfl,rfl,q,Xj (by lia),?_⟩;have n3:kh kn (upd H2 st (.lst (I++[.ref a]))) D (W8 (l++[k0])):=SK.off (sk:=.key kn) n2 q;have hk2:kn.at_ H2 k0 a:=kn.keep _ _ _ _ (fun b xs e=>o2 b _ e fun z=>by
     obtain ⟨o,e3,h3,_⟩:=Zdm n;rw [z,e3] at e;cases e;exact h3 _ rfl) hk
    have hk3:kn.at_ (upd H2 st (.lst (I++[.ref a]))) k0 a:=kn.keep _ _ _ _ (fun b xs e=>by rw [Zh (Xn e q fun z=>nomatch z)];exact e) hk2;refine .inl ⟨_,rfl,_,rfl,κ,_,kn,D,a,k0,_,_,rfl,rfl,n3,hk3,za _ _ (by simp) Y,k _ (I++[.ref a]) Za (.inr ⟨hm,rfl⟩) n3 (fun b o e h1 h2=>?_) fun b e=>?_⟩
    ·rw [Zh h1]
     exact o2 b o e h2
    ·obtain ⟨oo,rfl⟩:=hx
     rw [Zh (fun z=>by rw [z,C] at e;cases e),Zh (fun z=>by
      obtain ⟨o,e3,_⟩:=Zdm n;rw [z,e3] at e;cases e)]
     exact e
inductive WW(vs:List V)(H:Hp)(Q:VK):Prop
 | mk (y:Str):(vs=[.str y])->(Q (.bl (decide (y∈Ji))) H)->WW vs H Q
def JT(K:PySem.W.Frag):Sp:=fun vs H Q _=>WW vs H Q
theorem zZ (T:3e9) (C:3e8):ZH P w K mg base CX0 1 t.lj t.lq ["text"] (JT K):=by
 refine T.di.F.ok zT 3e7 22e9
 ·obtain ⟨y,rfl,k⟩:=h
  rfl
 ·obtain ⟨y,rfl,k⟩:=h
  show 8;refine ⟨_,@QSs.out _ _ _ (Zf (Zp (X6 kB (qv 0) (Wz (v:=.ref t.aq) rfl T.aq.m rfl) (9e2)))),?_⟩;show 9
  show 6
  refine ⟨_,rfl,t.aq,T1,.inr y,rfl,T.aq.d,rfl,?_⟩;rw [Zid,tw1];exact k
inductive XZ(vs:List V)(H:Hp)(Q:VK):Prop
 | mk (k:Key):(vs=[kV k])->(Q (.bl (clK k)) H)->XZ vs H Q
def WX(K:PySem.W.Frag):Sp:=fun vs H Q _=>XZ vs H Q
theorem Ze0(l:11e2)(k:Key):(Yg (kvsOf l) k).isSome=(match k with | .inr y=>decide (y∈l.map (·.1)) | .inl _=>false):=by
 cases k with
 | inr y=>exact Zid l y
 | inl z =>
  induction l with
  | nil=>rfl
  | cons p r q =>
   have e:Yg (kvsOf (p::r)) (.inl z)=Yg (kvsOf r) (.inl z):=ZU (p:=((Sum.inr p.1:Key),V.int p.2)) (fun z=>nomatch z);rw [e,q]
theorem Zg4(k:Key):clK k=((Yg (kvsOf T2) k).isSome || (Yg (kvsOf T3) k).isSome):=by
 rw [Ze0,Ze0];cases k with
 | inl z=>rfl
 | inr y =>
  show decide (y∈ZT)=(decide (y∈T2.map (·.1)) || decide (y∈T3.map (·.1)));have e:ZT=T2.map (·.1)++T3.map (·.1):=by decide +kernel
  rw [e]
  by_cases h1:y∈T2.map (·.1)
  ·rw [Qah h1,Qah (Qcd _ h1)]
   rfl
  ·by_cases h2:y∈T3.map (·.1)
   ·rw [Qah h2,Qah (Qba _ h2),Bool.or_true]
   ·rw [Qao h1,Qao h2,Qao (fun z=>(Qaz.mp z).elim h1 h2)]
    rfl
theorem x4 (T:3e9) (C:3e8):ZH P w K mg base CX0 1 t.fq t.ft ["text"] (WX K):=by
 refine T.cm.F.ok xw 3e7 22e9
 ·show 24
  rfl
 ·show 24
  show 8;refine ⟨_,@QSs.out _ _ _ (Zf (Zp (qe_or (X6 kB (qv 0) (Wz (v:=.ref t.ag) rfl T.ag.m rfl) (9e2)) (gr (X6 kB (qv 0) (Wz (v:=.ref t.af) rfl T.af.m rfl) (9e2)))))),?_⟩;show 9
  show 6
  rw [Zg4] at k;refine ⟨_,rfl,t.ag,T2,kk,rfl,T.ag.d,rfl,_,rfl,?_⟩;cases h:(Yg (kvsOf T2) kk).isSome with
  | true =>
   rw [h] at k;exact Jh k
  | false =>
   rw [h] at k;exact Xr ⟨_,rfl,t.af,T3,kk,rfl,T.af.d,rfl,k⟩
inductive WY(vs:List V)(H:Hp)(Q:VK):Prop
 | mk (k:Key):(vs=[kV k])->(Q (.int (G1 T1 k + G1 T2 k)) H)->WY vs H Q
def JU(K:PySem.W.Frag):Sp:=fun vs H Q _=>WY vs H Q
theorem ja (T:3e9) (C:3e8):ZH P w K mg base CX0 1 t.lr t.lu 8e2 (JU K):=by
 refine T.dj.F.ok zU 3e7 22e9
 ·show 24
  rfl
 ·show 24
  show 8;refine ⟨_,@QSs.out _ _ _ (Zf (Zp (Zm Y6 (kC (Wz (v:=.ref t.aq) rfl T.aq.m rfl) (qv 0) Zd) (kC (Wz (v:=.ref t.ag) rfl T.ag.m rfl) (qv 0) Zd)))),?_⟩;show 9
  show 6
  refine ⟨t.aq,T1,rfl,T.aq.d,_,rfl,kk,rfl,t.ag,T2,rfl,T.ag.d,_,rfl,kk,rfl,?_⟩;rw [kget,kget];exact ⟨_,_,rfl,rfl,k⟩
inductive Wa(vs:List V)(H:Hp)(Q:VK):Prop
 | mk (k:Key):(vs=[kV k])->(Q (.int (G1 T3 k)) H)->Wa vs H Q
def WZ(K:PySem.W.Frag):Sp:=fun vs H Q _=>Wa vs H Q
theorem x5 (T:3e9) (C:3e8):ZH P w K mg base CX0 1 t.fu t.fw 8e2 (WZ K):=by
 refine T.cq.F.ok xx 3e7 22e9
 ·show 24
  rfl
 ·show 24
  show 8;refine ⟨_,@QSs.out _ _ _ (Zf (Zp (kC (Wz (v:=.ref t.af) rfl T.af.m rfl) (qv 0) Zd))),?_⟩;show 9
  show 6
  refine ⟨t.af,T3,rfl,T.af.d,_,rfl,kk,rfl,?_⟩;rw [kget];exact k
inductive Jy(vs:List V)(H:Hp)(Q:VK):Prop
 | mk (y sg:Str):(vs=[.str y,.str sg])->(y.length<=100000)->(∀H',ZC H H'->Q (.bl (decide (jy y sg))) H')->Jy vs H Q
def qe(K:PySem.W.Frag):Sp:=fun vs H Q _=>Jy vs H Q
theorem yC (T:3e9) (J:3e8):ZH P w K mg base CX0 1 t.my t.mz ["text","signs"] (qe K):=by
 refine T.fg.F.ok y9 3e7 (fun I A outer s H vs Q E hr h=>?_)
 ·obtain ⟨y,q,rfl,hl,k⟩:=h
  rfl
 ·obtain ⟨y,q,rfl,hl,k⟩:=h
  show 8;refine ⟨_,@QSs.out _ _ _ (Zf (Zp (Zbv (X6 yL (qv 0) Zx (ZG _)) (gr (Zv (Zb3 rfl) 2e8 T.aac bt_all (Zk (YE (11e0:Ym (Zg XT) _ ["text","signs"] "sign" ["signs"] [1]) (qi_str (qv 0)) 13e6 (fun _ _ _ _=>(X6 Zba (qv 0) (qv 1) (9e2)))) Ze)))))),?_⟩;show 9
  show 6
  refine 11e7
  by_cases D:y.cps.toList=[]
  ·have e:=zg.mp D
   subst e;rw [Qah (rfl:V.str ("" : Str)=V.str ("" : Str))];refine Xr ?_;have e2:decide (jy ("" : Str) q)=false:=Qao fun z=>z.1 (zg.mpr rfl);have:=k H (ZC.refl H);rw [e2] at this;exact this
  have C:¬V.str y=V.str ("" : Str):=fun z=>D (zg.mpr 14e6);rw [Qao C];refine Jh ?_;refine ⟨_,rfl,y,rfl,Zfu (fun c=>.bl (decide (c∈q.cps.toList))) (Qbd (show y.length<=100000 from hl) 1e4) (fun c _ R hR=>?_) (fun l G=>?_)⟩
  ·refine ⟨_,rfl,_,rfl,_,_,rfl,rfl,?_⟩
   rw [Zkq];exact hR
  have e1:(y.cps.toList.map fun c=>V.bl (decide (c∈q.cps.toList)))=(y.cps.toList.map fun c=>decide (c∈q.cps.toList)).map V.bl:=by rw [Qcf];rfl
  rw [e1];refine ⟨l,_,rfl,SqL.of Za,?_⟩;rw [all_bs];have e2:decide (jy y q)=decide (∀c∈y.cps.toList,decide (c∈q.cps.toList)=true):=by
   rw [Qdk,Qcm,Qcm]
   constructor
   ·intro z c hc
    exact Qah (z.2 c hc)
   ·intro z
    exact ⟨D,fun c hc=>Qa1 (z c hc)⟩
  rw [<-e2];exact k _ (Zc G)
inductive JV(vs:List V)(H:Hp)(Q:VK):Prop
 | mk (x:V):(vs=[x])->(xr x=true)->(Q (.bl (inV x 19e3)) H)->JV vs H Q
def Jz(K:PySem.W.Frag):Sp:=fun vs H Q _=>JV vs H Q
theorem xg (T:3e9) (C:3e8):ZH P w K mg base CX0 1 t.ic t.ie 8e2 (Jz K):=by
 refine T.bb.F.ok vV 3e7 22e9
 ·obtain ⟨x,rfl,hx,k⟩:=h
  rfl
 ·obtain ⟨x,rfl,hx,k⟩:=h
  show 8;refine ⟨_,@QSs.out _ _ _ (Zf (Zp (X6 Xf (qv 0) (Wz (v:=.ref t.cb) rfl T.cb.m rfl) (9e2)))),?_⟩;show 9
  show 6
  exact ⟨_,rfl,t.cb,_,rfl,.inr (T.cb.d H),hx,Zc0 _,k⟩
inductive qf(vs:List V)(H:Hp)(Q:VK):Prop
 | mk (a b h:Int):(vs=[.int a,.int b,.int h])->(Q (.int (Zmw a b h)) H)->qf vs H Q
def GA(K:PySem.W.Frag):Sp:=fun vs H Q _=>qf vs H Q
theorem zD (T:3e9) (C:3e8):34e6:=by
 refine T.bp.F.ok wO 3e7 22e9
 ·obtain ⟨a,b,h,rfl,k⟩:=h
  rfl
 ·obtain ⟨a,b,h,rfl,k⟩:=h
  show 8;refine ⟨_,@QSs.out _ _ _ (Zf (Zp (Zm yK (Zm XQ (JK xO (qv 0)) (qv 1)) (Zm XQ (qv 2) (JK xO (Zm xN (qv 0) (qv 1))))))),?_⟩;show 9
  show 6
  exact ⟨_,rfl,_,rfl,_,rfl,_,_,rfl,rfl,_,rfl,_,rfl,_,rfl,_,_,rfl,rfl,_,rfl,_,_,rfl,rfl,_,_,rfl,rfl,k⟩
inductive Ja(vs:List V)(H:Hp)(Q:VK):Prop
 | mk (y:Str) (p:Addr) (is:1e5):(vs=[.str y,.ref p])->(H p=some (.lst (is.map V.int)))->(y∈Zdd)->(is.length=Zdb y)->(∀H',ZC H H'->Q (.int (oaI y is)) H')->Ja vs H Q
def JW(K:PySem.W.Frag):Sp:=fun vs H Q _=>Ja vs H Q
theorem jb (T:3e9) (TB:3e8):ZH P w K mg base CX0 1 t.lx t.ma ["word","parts"] (JW K):=by
 refine T.dk.F.ok zV 3e7 6e9
 ·obtain ⟨y,p,is,rfl,hp,hy,hl,k⟩:=h
  rfl
 ·obtain ⟨y,p,is,rfl,hp,hy,hl,k⟩:=h
  show 8;refine ⟨_,@QSs.out _ _ _ (Zb (Yi 16e8
    (Zf (Zp (JK GD Zd))) Z7)
    (Zb (Yi 16e8
    (Zf (Zp 7e6)) Z7)
    (Zb (Yi 28e4
    (Zf (Zp (JK xO 7e6))) Z7)
    (Zb (Yi 28e4
    (Zf (Zp (Zm XQ 7e6 7e6))) Z7)
    (Zb (Yi 28e4
    (Zf (Zp (Zm yK 7e6 7e6))) Z7)
    (Zb (Yi 16e8
    (Zf (Zp (Zm xN 7e6 7e6))) Z7)
    (Zb (Yi 16e8
    (Zf (Zp (Zm yK (JK xO 7e6) 7e6))) Z7)
    (Zf (Zp (Zm yK (Zm XQ 7e6 7e6) (Zm XQ (JK xO 7e6) 7e6))))))))))),?_⟩
  clear hu
  show 6
  refine L2.let8 ?_;intro U7 U6 U5 U4 U3 U2 U1;unfold oaI at k;refine 11e7
  by_cases h1:y = "yes"
  ·rw [Qah (congrArg V.str h1)]
   rw [Qaw h1] at k;refine Jh ?_;exact ⟨_,rfl,k H (ZC.refl _)⟩
  rw [Qao (fun z=>h1 14e6)];rw [Qau h1] at k;refine Xr 11e7
  by_cases h2:y = "sign"
  ·rw [Qah (congrArg V.str h2)]
   rw [Qaw h2] at k;refine Jh ?_;exact ⟨_,rfl,p,_,0,_,rfl,rfl,SqL.of hp,Z0 0 rfl (zi hl (by rw [h2];show 11)),k H (ZC.refl _)⟩
  rw [Qao (fun z=>h2 14e6)];rw [Qau h2] at k;refine Xr ⟨_,rfl,8e3,34e9⟩;show if inV 2e7 ((["not","never"]:1e3).map V.str)=true then _ else _;rw [ZQ];have G:=Zc (o:=.tup [.str "not",.str "never"]) hq;have pq:=G _ _ hp;generalize upd H q (.tup [.str "not",.str "never"])=H1 at *
  by_cases Y:y = "not" \/ y = "never"
  ·rw [Qah (by show 14;exact Y)]
   rw [Qaw Y] at k;refine Jh ?_;exact ⟨_,rfl,p,_,0,_,rfl,rfl,SqL.of pq,Z0 0 rfl (zi hl (by rcases Y with h | h <;> rw [h] <;> show 11)),_,rfl,k H1 G⟩
  rw [Qao (by show 14;exact Y)];rw [Qau Y] at k;refine Xr ⟨_,rfl,8e3,fun r hr=>⟨r,_,rfl,.inr (SqT.of Za),rfl,rfl,_,rfl,?_⟩⟩;show if inV 2e7 ((["and","both"]:1e3).map V.str)=true then _ else _;rw [ZQ];have sr:=Zc (o:=.tup [.str "and",.str "both"]) hr;have pr:=sr _ _ pq;generalize upd H1 r (.tup [.str "and",.str "both"])=H2 at *
  by_cases J:y = "and" \/ y = "both"
  ·rw [Qah (by show 14;exact J)]
   rw [Qaw J] at k;refine Jh ?_;have l2:2<=is.length:=zi hl (by rcases J with h | h <;> rw [h] <;> show 11);exact ⟨_,rfl,p,_,0,_,rfl,rfl,SqL.of pr,Z0 0 rfl 1e2,_,rfl,p,_,1,_,rfl,rfl,SqL.of pr,Z0 1 rfl l2,_,_,rfl,rfl,k H2 (G.trans sr)⟩
  rw [Qao (by show 14;exact J)];rw [Qau J] at k;refine Xr ⟨_,rfl,8e3,fun t1 ht1=>⟨t1,_,rfl,.inr (SqT.of Za),rfl,rfl,_,rfl,?_⟩⟩;show if inV 2e7 ((["or","either"]:1e3).map V.str)=true then _ else _;rw [ZQ];have D:=Zc (o:=.tup [.str "or",.str "either"]) ht1;have C:=D _ _ pr;generalize upd H2 t1 (.tup [.str "or",.str "either"])=H3 at *
  by_cases I:y = "or" \/ y = "either"
  ·rw [Qah (by show 14;exact I)]
   rw [Qaw I] at k;refine Jh ?_;have l2:2<=is.length:=zi hl (by rcases I with h | h <;> rw [h] <;> show 11);exact 37e6
  rw [Qao (by show 14;exact I)];rw [Qau I] at k;refine Xr 11e7
  by_cases O:y = "odd"
  ·rw [Qah (congrArg V.str O)]
   rw [Qaw O] at k;refine Jh ?_;have l2:2<=is.length:=zi hl (by rw [O];show 11);exact 37e6
  rw [Qao (fun z=>O 14e6)];rw [Qau O] at k;refine Xr 11e7
  by_cases Z:y = "so"
  ·rw [Qah (congrArg V.str Z)]
   rw [Qaw Z] at k;refine Jh ?_;have l2:2<=is.length:=zi hl (by rw [Z];show 11);exact ⟨_,rfl,p,_,0,_,rfl,rfl,SqL.of C,Z0 0 rfl 1e2,_,rfl,_,rfl,p,_,1,_,rfl,rfl,SqL.of C,Z0 1 rfl l2,_,_,rfl,rfl,k H3 ((G.trans sr).trans D)⟩
  rw [Qao (fun z=>Z 14e6)];rw [Qau Z] at k;have l3:3<=is.length:=zi hl (uV y hy h1 h2 Y J I O Z);exact Xr ⟨_,rfl,p,_,0,_,rfl,rfl,SqL.of C,Z0 0 rfl 1e2,_,rfl,p,_,1,_,rfl,rfl,SqL.of C,Z0 1 rfl 1e2,_,_,rfl,rfl,_,rfl,p,_,0,_,rfl,rfl,SqL.of C,Z0 0 rfl 1e2,_,rfl,_,rfl,p,_,2,_,rfl,rfl,SqL.of C,Z0 2 rfl l3,_,_,rfl,rfl,_,_,rfl,rfl,k H3 ((G.trans sr).trans D)⟩
inductive XN(vs:List V)(H:Hp)(Q:VK):Prop
 | mk (tw:Addr) (ws:List V):(vs=[.ref tw])->(H tw=some (.tup ws))->(ws.length<=1000)->((∀w∈ws,(∃y,w=.str y)\/∃z:Int,w=.int z))->(∀(L:Nat) H',(∀z:Int,V.int z∈ws->13e5<=L)->(L=0\/∃z:Int,V.int z∈ws/\L=13e5)->ZC H H'->Q (.int (L:Int)) H')->XN vs H Q
def Ws(K:PySem.W.Frag):Sp:=fun vs H Q _=>XN vs H Q
theorem qS (T:3e9) (I:3e8):ZH P w K mg base CX0 1 t.fe t.ff ["words"] (Ws K):=by
 refine T.cf.F.ok qR 3e7 (fun D A outer s H vs Q E hr h=>?_)
 ·obtain ⟨tw,q,rfl,C,hl,hw,k⟩:=h
  rfl
 ·obtain ⟨tw,q,rfl,C,hl,hw,k⟩:=h
  show 8;refine ⟨_,@QSs.out _ _ _ (Zf (Zp (Zkk rfl rfl T.aae (YE (11e0:Ym (Zg YC) _ ["words"] "word" [] []) (WS (qv 0)) (fun _ _ _ _=>(gx (Wk (Zv (show Xy _ (.builtin "isinstance") (rIsi K) from Wy) 2e8 T.ay Yp (Zk (qv 0) (Zk (Gm (v:=.ty "int") 2e8 T.rz gj rfl) Ze)))))) (fun _ _ _ _=>(show QE _ _ (Znb K "int" Zmn (Zau 0)) from (gv PySem.F.plainAttrs_int PySem.F.slot_int_bit_length PySem.F.type_int_bit_length Zkl (qv 0))))) Zd))),?_⟩;show 9
  show 6
  refine ⟨_,rfl,tw,rfl,⟨_,SqT.of C⟩,GI (K:=K) (a:=tw) (xs:=q) (fun i zs H'=>zs=(G3 (q.take i)).map V.int/\H'=H) 6e5 (fun i zs H' h=>?_) (fun i zs H' h=>by rw [h.2];exact SqT.of C) (fun i x zs H1 R hR hx h=>?_) (fun zs H1 h p hp=>?_)⟩
  ·rw [h.1,Qac]
   have:=vF (q.take i);rw [Qa6] at this;exact 9e4
  ·obtain ⟨rfl,rfl⟩:=h
   rcases hw x (Qam hx) with ⟨y,rfl⟩ | ⟨z,rfl⟩
   ·refine ⟨_,rfl,_,_,_,_,rfl,.str y,Gk,_,rfl,Xr (hR _ _ ⟨?_,rfl⟩)⟩
    rw [take_snoc hx,zp];exact congrArg (List.map V.int) (Qbv _).symm
   ·refine ⟨_,rfl,_,_,_,_,rfl,.int z,Gj,_,rfl,Jh ⟨_,rfl,rfl,z,rfl,rfl,hR _ _ ⟨?_,rfl⟩⟩⟩
    rw [take_snoc hx,zp,Qbc]
    rfl
  ·obtain ⟨rfl,rfl⟩:=h
   have sp:=Zc (o:=.lst ((G3 (q.take q.length)).map V.int)) hp;refine ⟨p,G3 (q.take q.length),rfl,SqL.of Za,fun e=>?_,fun m hm hx=>?_⟩
   ·rw [Qbi] at e
    refine k 0 _ (fun z hz=>?_) (6e4) sp;have:=zq hz;rw [e] at this;cases this
   ·rw [Qbi] at hm hx
    obtain ⟨z,hz,rfl⟩:=gX hm;exact k _ _ (fun y G=>Int.ofNat_le.mp (hx _ (zq G))) (.inr ⟨z,hz,rfl⟩) sp
inductive xh(vs:List V)(H:Hp)(Q:VK):Prop
 | mk (p:Addr) (cs:1e5) (l:Nat):(vs=[.ref p,.int (l:Int)])->(H p=some (.lst (cs.map V.int)))->(cs.length<=1000)->(l<=100)->(∀t H',H t=none->H' t=some (.tup ((cs.map fun c=>bt c l).map V.int))->ZC H H'->Q (.ref t) H')->xh vs H Q
def jC(K:PySem.W.Frag):Sp:=fun vs H Q _=>xh vs H Q
theorem Zai (T:3e9) (O:3e8):ZH P w K mg base CX0 1 t.rf t.rh 24e4 (jC K):=by
 refine T.nu.F.ok Zag 3e7 (fun I A outer s H vs Q E hr h=>?_)
 ·obtain ⟨p,cs,l,rfl,hp,hl,C,k⟩:=h
  rfl
 ·obtain ⟨p,cs,l,rfl,hp,hl,C,k⟩:=h
  show 8;refine ⟨_,@QSs.out _ _ _ (Zf (Zp (Z9 Z5 2e8 T.ak Ya (Zk (YE (11e0:Ym (Zg GU) _ 24e4 "column" ["letter"] [1]) (Gn (qv 0)) 13e6 (fun _ _ _ _=>(Zm XQ (Zm jh (qv 0) (qv 1)) Zd))) Ze)))),?_⟩;show 9
  show 6
  refine ⟨_,rfl,p,rfl,⟨_,SqL.of hp⟩,comp_map (xs:=cs.map V.int) (fI fun c=>V.int (bt c l)) (SqL.of hp) (by rw [Qac];exact 9e4) (fun v hv R hR=>?_) (fun q J=>?_)⟩
  ·obtain ⟨c,_,rfl⟩:=Qay.mp hv
   refine ⟨_,rfl,_,rfl,_,_,rfl,rfl,Qb7 l,_,_,rfl,rfl,?_⟩;have e:fI (fun c=>V.int (bt c l)) (V.int c)=V.int (Builtin.bitAnd (c / 2 ^ (l:Int).toNat) 1):=by
    show V.int (bt c l)=_;rw [and_1,Qat]
    rfl
   rw [e] at hR;exact hR
  ·refine ⟨q,_,rfl,.inl ⟨SqL.of Za,fun t G=>?_⟩⟩
   have D:=Zc (o:=.lst ((cs.map V.int).map (fI fun c=>V.int (bt c l)))) J;refine k t _ (D.free G) ?_ (D.trans (Zc G));rw [Za,Qcf,Qcf]
   rfl
inductive J0(vs:List V)(H:Hp)(Q:VK):Prop
 | mk (m1 m2 c:Addr) (nm1 nm2:1e3) (b1 b2:Nat) (nx1 nx2:2e4) (ot1 ot2:5e8) (i j:Nat):(vs=[.ref m1,.ref m2,.ref c])->(M4 H m1 nm1 b1 nx1 ot1)->(M4 H m2 nm2 b2 nx2 ot2)->(H c=some (.tup [.int (i:Int),.int (j:Int)]))->(i < nx1.length)->(j < nx2.length)->(∀l zs H',H l=none->ZC H H'->H' l=some (.lst zs)->Prs H' (Zao (nx1.getD i []) (nx2.getD j [])) zs->Q 5e1 H')->J0 vs H Q
def qg(K:PySem.W.Frag):Sp:=fun vs H Q _=>J0 vs H Q
theorem yD (T:3e9) (TB:3e8):ZH P w K mg base CX0 1 t.nc t.ng 14e2 (qg K):=by
 refine T.fh.F.ok yA 3e7 6e9
 ·obtain ⟨m1,O,c,I,J,b1,b2,nx1,nx2,ot1,ot2,i,j,rfl,M1,M2,hc,hi,hj,k⟩:=h
  rfl
 ·obtain ⟨m1,O,c,I,J,b1,b2,nx1,nx2,ot1,ot2,i,j,rfl,M1,M2,hc,hi,hj,k⟩:=h
  show 8;refine ⟨_,@QSs.out _ _ _ (Zf (Zp (uQ (b1:=true) (b2:=true) rfl T.vr rfl T.uj rfl 38e2))),?_⟩;show 9
  show 6
  refine Z6 fun C q=>?_;obtain ⟨pn1,G,po1,h1,_,R1,_⟩:=M1.ex;refine q ?_;clear q C;refine Z6 fun C q=>?_;obtain ⟨pn2,D,po2,h2,_,R2,_⟩:=M2.ex;refine q ?_;clear q C;refine Z6 fun C q=>?_;obtain ⟨as1,a1,g1,g2,Z⟩:=Jr R1 (i:=i) (by rw [Qac];exact hi);refine q ?_;clear q C;refine Z6 fun C q=>?_;obtain ⟨as2,a2,f1,f2,Y⟩:=Jr R2 (i:=j) (by rw [Qac];exact hj);refine q ?_;clear q C;rw [GW] at Z Y;exact ⟨_,rfl,m1,_,2,_,rfl,rfl,SqT.of h1,rfl,_,rfl,c,_,0,_,rfl,rfl,SqT.of hc,rfl,G,_,_,_,rfl,rfl,SqT.of g1,g2,_,rfl,O,_,2,_,rfl,rfl,SqT.of h2,rfl,_,rfl,c,_,1,_,rfl,rfl,SqT.of hc,rfl,D,_,_,_,rfl,rfl,SqT.of f1,f2,a1,a2,_,_,rfl,SqB.t Z,SqB.t Y,fun l zs H' hl s t hz=>k l zs H' hl s hz (wx t)⟩
inductive qh(vs:List V)(H:Hp)(Q:VK):Prop
 | mk (m1 m2 c:Addr) (nm1 nm2:1e3) (b1 b2:Nat) (nx1 nx2:2e4) (ot1 ot2:5e8) (i j:Nat) (tr:Bool):(vs=[.ref m1,.ref m2,.ref c])->(M4 H m1 nm1 b1 nx1 ot1)->(M4 H m2 nm2 b2 nx2 ot2)->(H c=some (.tup [.int (i:Int),.int (j:Int)]))->(i < ot1.length)->(j < ot2.length)->((ot1.getD i []).length=(ot2.getD j []).length)->((ot1.getD i []).length<=1000)->((∀v∈ot1.getD i [],XH tr v))->((∀v∈ot2.getD j [],XH tr v))->(∀l H',H l=none->ZC H H'->H' l=some (.lst ((((ot1.getD i []).zip (ot2.getD j [])).map fun q=>!decide (q.1=q.2)).map V.bl))->Q 5e1 H')->qh vs H Q
def zE(K:PySem.W.Frag):Sp:=fun vs H Q _=>qh vs H Q
theorem wV (T:3e9) (TB:3e8):ZH P w K mg base CX0 1 t.pb t.pd 14e2 (zE K):=by
 refine T.ka.F.ok wQ 3e7 6e9
 ·obtain ⟨m1,m2,c,J,nm2,b1,b2,nx1,nx2,ot1,ot2,i,j,tr,rfl,M1,M2,hc,hi,hj,G,I,k1,k2,k⟩:=h
  rfl
 ·obtain ⟨m1,m2,c,J,nm2,b1,b2,nx1,nx2,ot1,ot2,i,j,tr,rfl,M1,M2,hc,hi,hj,G,I,k1,k2,k⟩:=h
  show 8;refine ⟨_,@QSs.out _ _ _ (Zf (Zp (YE (11e0:Ym (Zg JD) _ 14e2 "bits" [] []) (qi_zip (b1:=true) (b2:=true) rfl T.vr 38e2) 13e6 (fun _ _ _ _=>(X6 yL 25e4 25e4 (ZG _)))))),?_⟩;show 9
  show 6
  show 19;obtain ⟨pn1,ps1,Y,h1,_,_,R1⟩:=M1.ex;refine C ?_;clear C D;show 19;obtain ⟨pn2,ps2,Z,h2,_,_,R2⟩:=M2.ex;refine C ?_;clear C D;show 19;obtain ⟨as1,a1,g1,g2,g3⟩:=Jr R1 hi;refine C ?_;clear C D;show 19;obtain ⟨as2,a2,f1,f2,f3⟩:=Jr R2 hj;refine C ?_;clear C D;generalize ot1.getD i []=o1 at *;generalize ot2.getD j []=O at *;refine ⟨_,rfl,m1,_,3,_,rfl,rfl,SqT.of h1,rfl,_,rfl,c,_,0,_,rfl,rfl,SqT.of hc,rfl,Y,_,_,_,rfl,rfl,SqT.of g1,g2,_,rfl,m2,_,3,_,rfl,rfl,SqT.of h2,rfl,_,rfl,c,_,1,_,rfl,rfl,SqT.of hc,rfl,Z,_,_,_,rfl,rfl,SqT.of f1,f2,a1,a2,_,_,rfl,SqB.t g3,SqB.t f3,?_⟩;refine Zfz (xs:=o1) (ys:=O) (fun n zs H'=>n<=(o1.zip O).length/\zs=(((o1.zip O).take n).map fun q=>!decide (q.1=q.2)).map V.bl/\ZC H H') ⟨Qbe _,rfl,ZC.refl H⟩ (fun n zs H' ⟨hn,hz,_⟩=>?_) (fun n zs H' ⟨_,_,s⟩=>⟨SqB.t (s _ _ g3),SqB.t (s _ _ f3)⟩) (fun n x y p zs H' R hR hx hy ⟨hn,hz,s⟩ hp=>?_) (fun zs H' ⟨_,hz,s⟩ p hp=>?_)
  ·rw [hz,Qac,Qac,Qa6,Qcp]
   exact 9e4
  ·refine yesT ⟨_,rfl,p,_,0,_,rfl,rfl,SqT.of Za,rfl,_,rfl,p,_,1,_,rfl,rfl,SqT.of Za,rfl,zu (k1 _ (Qam hx)) (k2 _ (Qam hy)),hR _ _ ⟨?_,?_,s.trans (Zc hp)⟩⟩
   ·have:=(Qaf.mp (Zin hx hy)).1
    exact this
   ·rw [hz,take_snoc (Zin hx hy),Qbc,Qbc]
    rfl
  ·rw [Qbi] at hz
   subst hz;exact k p _ (s.free hp) (s.trans (Zc hp)) Za
inductive YB(vs:List V)(H:Hp)(Q:VK):Prop
 | mk (m:Addr) (nm:1e3) (nx:2e4) (ot:5e8) (n:Nat) (kk:Nat->Nat):(vs=[.ref m])->(M4 H m nm 0 nx ot)->(Runs nx ot n)->(RgO nx kk)->(nx.length<=1000000)->((∀r∈ot,∀x∈r,∃t,x=.bl t))->(((∀(ls:1e1) (c:Nat),(∀x∈ls++[c],x < 2 ^ n)->mB ot 8e9 (stN nx 0 ls) c=false)->∀H',ZC H H'->Q .non H'))->((∀(w:Nat) H',1<=w->w<=nx.length->(∃(ls:1e1) (c:Nat),15e1=w/\(∀x∈ls++[c],x < 2 ^ n)/\mB ot 8e9 (stN nx 0 ls) c=true)->(∀(ls:1e1) (c:Nat),(∀x∈ls++[c],x < 2 ^ n)->mB ot 8e9 (stN nx 0 ls) c=true->w<=15e1)->ZC H H'->Q (.int (w:Int)) H'))->YB vs H Q
def YS(K:PySem.W.Frag):Sp:=fun vs H Q _=>YB vs H Q
theorem WQ (T:3e9) (TB:3e8):ZH P w K mg base CX0 1 t.bx t.bz ["machine"] (YS K):=by
 refine T.au.F.ok ZE 3e7 6e9
 ·obtain ⟨m,nm,nx,ot,n,kk,rfl,M,R,G,hN,hbl,kN,kS⟩:=h
  rfl
 ·obtain ⟨m,nm,nx,ot,n,kk,rfl,M,R,G,hN,hbl,kN,kS⟩:=h
  show 8;refine ⟨_,@QSs.out _ _ _ (Zb (Zo (i:=1) ZE.nd rfl 1e7 (kK (yd 8e7 Zd kJ) rfl rfl (4e3) 1e4))
    (Zb (YH Qbq rfl (jS rfl T.oz 8e7) (jT rfl (ZP (i:=2) ZE.nd rfl 1e7) (ZP (i:=3) ZE.nd rfl 1e7))
    (Zb (Yi (Zz Xf zK (qv 3) (9e2))
    (Zf (Zp (Gq hu (qv 1) (qv 2) 1e6))) Z7)
    (Zf (YH Qbq rfl (WS (Zq Zu 8e7 (qv 2) 1e6)) (ZP (i:=4) ZE.nd rfl 1e7)
    (Zf (YD (X7 PySem.F.plainAttrs_dict PySem.F.slot_dict_setdefault PySem.F.type_dict_setdefault Zkm (qv 1) (Zk (qv 4) (Zk (Zm Y6 (Gq hu (qv 1) (qv 2) 1e6) Zd) Ze)))))))))
    (Zf (Zp gn)))),?_⟩
  show 9
  show 6
  refine L2.let3 ?_;intro U2 U1;refine Z6 fun J q=>?_;obtain ⟨pn,ps,po,h1,hpn,Rs,Ro⟩:=M.ex;refine q ?_;clear q J;refine fun d hd=>?_;have sd:=Zc (o:=.dK []) hd;refine ⟨_,rfl,m,_,1,_,rfl,rfl,SqT.of (sd _ _ h1),rfl,Za,[(.inl (0:Int),.int 1)],rfl,by show 1<=15;decide,Zi ?_⟩;rw [Gh];have s1:=Zc (o:=.dK (Wm [] [((.inl (0:Int):Key),V.int 1)])) hd;have hd1:upd H d (.dK (Wm [] [((.inl (0:Int):Key),V.int 1)])) d=some (.dK (dwK (dwN kk 0))):=Za;generalize upd H d (.dK (Wm [] [((.inl (0:Int):Key),V.int 1)]))=H1 at *;obtain ⟨as,ha,hal,hat⟩:=Ro;have hol:=R.ol;have okr:∀i c,i < nx.length->c < 2 ^ n->(mB ot 8e9 i c=true↔(ot.getD i [])[c]?=some 8e9):=fun i c hi hc=>by
   have l1:=R.or _ (getD_mem (show i < ot.length by lia));rw [getD_at (d:=V.non) (show c < (ot.getD i []).length by lia)];unfold mB;rw [Qcm];exact ⟨fun z=>by rw [z],fun z=>Option.some.inj z⟩
  refine ⟨_,rfl,m,_,3,_,rfl,rfl,SqT.of (s1 _ _ h1),rfl,po,as,rfl,SqT.of (s1 _ _ ha),jU (K:=K) (a:=po) (xs:=as) (j:=2) (k:=3) (fun i σ H'=>∃(u2 u3 Z:5e6),σ=[some (.ref m),some (.ref d),u2,u3,Z]/\i<=nx.length/\H' d=some (.dK (dwK 3e4))/\(∀j,j < i->∀c,c < 2 ^ n->mB ot 8e9 j c=false)/\ZC H H') ⟨none,none,none,rfl,Qbe _,hd1,(fun j hj=>absurd hj (Qeg _)),s1⟩ (fun i σ H' _ ⟨_,_,_,_,_,_,_,s2⟩=>SqT.of (s2 _ _ ha)) ?_ ?_⟩
  ·rintro i x σ H2 t hx ht I
   refine Z6 fun J q=>?_;obtain ⟨u2,u3,Z,rfl,hi,hd2,O,s2⟩:=I;refine q ?_;clear q J;have C:i < nx.length:=by have:=(Qaf.mp hx).1;lia
   obtain ⟨x0,hx0,hrow⟩:=hat i (ot.getD i []) (vE 1e2);rw [hx] at hx0;cases hx0;have st:=Zc (o:=.tup [.int (i:Int),.ref x0]) ht;have s3:=s2.trans st;have hd3:=st _ _ hd2;have htd:t≠d:=(Zj hd2 ht).symm;generalize upd H2 t (.tup [.int (i:Int),.ref x0])=H3 at *;have lor:=R.or _ (getD_mem (show i < ot.length by lia));obtain ⟨bs,Y⟩:∃bs:List Bool,ot.getD i []=bs.map V.bl:=by
    have go:∀l:List V,(∀x∈l,∃t,x=.bl t)->∃bs:List Bool,l=bs.map V.bl:=by
     intro l
     induction l with
     | nil=>exact fun _=>⟨[],rfl⟩
     | cons x l ih =>
      intro h;obtain ⟨b,rfl⟩:=h x Qar;obtain ⟨bs,rfl⟩:=ih fun y D=>h y (Qal _ D);exact ⟨b::bs,rfl⟩
    exact go _ (hbl _ (getD_mem 1e2))
   have lD:=qO G i (Qa0 C);have gi:=G.go i C;have vi:Yg (dwK 3e4) (.inl (i:Int))=some (.int ((11e3:Nat):Int)):=by rw [zx,Qaw 1e2]
   refine ⟨_,rfl,x0,ot.getD i [],rfl,.inr (SqT.of (s3 _ _ hrow)),rfl,by rw [Y];exact Qd4.mpr (fun x hx=>by obtain ⟨b,_,rfl⟩:=Qay.mp hx;rfl),_,rfl,?_⟩;show if inV 8e9 (ot.getD i [])=true then _ else _;rw [Y,Zeg];refine 18e5
   ·obtain ⟨c,hc⟩:=Qc6 (Qa1 hb)
    have hc2:(ot.getD i [])[c]?=some 8e9:=by rw [Y,Qaj,hc];rfl
    have hcl:c < 2 ^ n:=by have:=(Qaf.mp hc2).1;lia
    refine Z6 fun J q=>?_;obtain ⟨w1,⟨ls,w2,w3,w4⟩,w5⟩:=wC G R.nr (ok:=mB ot 8e9) C hcl ((okr i c C hcl).mpr hc2) O;refine q ?_;clear q J;refine ⟨_,rfl,_,rfl,d,_,rfl,.inl ⟨_,.inl (i:Int),.inl hd3,rfl,vi.symm⟩,kS _ H3 w1 (by have:=Zm5 G i (Qa0 C) i;lia) ⟨ls,c,w2,fun y D=>?_,w4⟩ (fun ls' c' h1 h2=>w5 ls' c' (fun y D=>h1 y (Qcd _ D)) (h1 c' (Qba _ (13e3))) h2) s3⟩;rcases Qaz.mp D with z | z
    ·exact w3 y z
    ·rw [Qak.mp z];exact hcl
   ·have hnr:∀c,c < 2 ^ n->mB ot 8e9 i c=false:=fun c hc=>by
     cases hm:mB ot (.bl true) i c with
     | false=>rfl
     | true =>
      have h2:=(okr i c C hc).mp hm;rw [Y,Qaj] at h2;obtain ⟨b',h3,h4⟩:=Qcb.mp h2;cases h4;exact absurd (Qah (Qam h3)) hb
    refine Z6 fun J q=>?_;obtain ⟨as1,a1,r1,r2,r3⟩:=Jr Rs (i:=i) (by rw [Qac];exact C);refine q ?_;clear q J;rw [GW] at r3;have lnr:=R.nr _ (getD_mem C);refine ⟨_,rfl,m,_,2,_,rfl,rfl,SqT.of (s3 _ _ h1),rfl,_,rfl,ps,_,_,_,rfl,rfl,SqT.of (s3 _ _ r1),r2,a1,rfl,⟨_,SqT.of (s3 _ _ r3)⟩,xM (K:=K) (a:=a1) (xs:=zP (nx.getD i [])) (fun j σ H'=>∃(Z:5e6) (k:Nat),σ=[some (.ref m),some (.ref d),some (.int (i:Int)),some (.ref x0),Z]/\((nx.getD i []).take j).foldl Y0 17e2=List.range k/\kk i<=k/\k<=nx.length/\H' d=some (.dK (dwK (dwN kk i++List.replicate (k - kk i) (11e3 + 1))))/\ZC H H') ⟨_,kk i,rfl,rfl,Qai _,G.le i (Qa0 C),by rw [Qet,List.replicate_zero,Qbv];exact hd3,s3⟩ (fun j σ H' _ ⟨_,_,_,_,_,_,_,s⟩=>SqT.of (s _ _ r3)) ?_ ?_⟩
    ·rintro j y σ H4 D I
     refine Z6 fun J q=>?_;obtain ⟨Z,k,rfl,f1,f2,f3,f4,s4⟩:=I;refine q ?_;clear q J;unfold zP at D;rw [Qaj] at D;obtain ⟨tt,htt,rfl⟩:=Qcb.mp D;generalize hws:dwN kk i++List.replicate (k - kk i) (11e3 + 1)=ws at *;have wl:ws.length=k:=by rw [<-hws,Qae,Qa3,lD];lia
     have wi:ws.getD i 0=11e3:=by rw [<-hws,Qap,Qa9 1e2,Qap]
     have vi4:Yg (dwK ws) (.inl (i:Int))=some (.int ((11e3:Nat):Int)):=by rw [zx,Qaw 1e2,wi]
     refine Zi ⟨_,rfl,.inr (.inr (.inl ⟨rfl,.inl ⟨_,f4⟩⟩)),_,rfl,_,rfl,_,rfl,d,_,rfl,.inl ⟨_,.inl (i:Int),.inl f4,rfl,vi4.symm⟩,_,_,rfl,rfl,d,.inl (tt:Int),_,_,rfl,rfl,f4,by rw [Zlf,wl];exact Xj 1e2,?_,?_⟩
     ·intro y D
      rw [zx] at D;rcases G.more C htt f1 with ⟨q1,q2⟩ | ⟨q1,q2⟩
      ·exact ⟨_,k,rfl,q2,f2,f3,by rw [hws];exact f4,s4⟩
      ·rw [Qau 1e2] at D
       cases D
     ·intro D
      rw [zx] at D;rcases G.more C htt f1 with ⟨q1,q2⟩ | ⟨q1,q2⟩
      ·rw [Qaw 1e2] at D
       cases D
      ·obtain ⟨k',e1,e2,e3⟩:=G.part C (j + 1)
       have ek:k'=k + 1:=by
        rw [q2] at e1;have:=congrArg List.length e1;rw [Qax,Qax] at this;exact this.symm
       have:=G.le (i + 1) C;refine ⟨_,k + 1,rfl,q2,by lia,by lia,?_,Yz s4 hd⟩;rw [Za,q1,<-wl];show some (HO.dK (putK (dwK ws) (.inl (ws.length:Int)) (.int ((11e3:Int) + 1))))=_;rw [show ((11e3:Nat):Int) + 1=((11e3 + 1:Nat):Int) from rfl,Zlg,wl,<-hws,Qb6,show k + 1 - kk i=(k - kk i) + 1 by lia,Qgk]
    ·rintro σ H4 I
     refine Z6 fun J q=>?_;obtain ⟨Z,k,rfl,f1,f2,f3,f4,s4⟩:=I;refine q ?_;clear q J;rw [show (zP (nx.getD i [])).length=(nx.getD i []).length from Qac _,Qbi,G.step C] at f1;have ek:kk (i + 1)=k:=by
      have:=congrArg List.length f1;rw [Qax,Qax] at this;exact this
     refine ⟨_,_,_,rfl,C,by rw [<-ek] at f4;exact f4,fun j hj c hc=>?_,s4⟩
     by_cases e:j=i
     ·rw [e];exact hnr c hc
     ·exact O j 1e2 c hc
  ·rintro σ H2 I
   refine Z6 fun J q=>?_;obtain ⟨u2,u3,Z,rfl,hi,hd2,O,s2⟩:=I;refine q ?_;clear q J;rw [hal,hol] at O;refine kN (fun ls c h=>?_) H2 s2;exact O _ (Ziw R R.pos fun x hx=>h x (Qcd _ hx)) c (h c (Qba _ (13e3)))
inductive JX(vs:List V)(H:Hp)(Q:VK):Prop
 | mk (a:Int):(vs=[.int a])->(Q 8e9 H)->JX vs H Q
def xi(K:PySem.W.Frag):Sp:=fun vs H Q _=>JX vs H Q
theorem vY (T:3e9) (C:3e8):ZH P w K mg base CX0 1 t.oq t.ou ["found"] (xi K):=by
 refine T.bc.F.ok vW 3e7 22e9
 ·obtain ⟨a,rfl,k⟩:=h
  rfl
 ·obtain ⟨a,rfl,k⟩:=h
  show 8;refine ⟨_,@QSs.out _ _ _ (Zf (Zp (Zbv (Zv Wy 2e8 T.ay Yp (Zk (qv 0) (Zk (Gm (v:=.ty "int") 2e8 T.rz gj rfl) Ze))) (gr (qe_not (Zv Wy 2e8 T.ay Yp (Zk (qv 0) (Zk (Gm (v:=.ty "bool") 2e8 T.xo Zjq rfl) Ze)))))))),?_⟩;show 9
  show 6
  exact ⟨_,rfl,_,_,_,_,rfl,.int a,Gj,true,rfl,Jh ⟨_,rfl,_,_,_,_,rfl,.int a,yV,false,rfl,k⟩⟩
inductive Jb(K:PySem.W.Frag)(vs:List V)(H:Hp)(Q:VK):Prop
 | mk (a:Addr) (ns:1e5) (j:Nat):(vs=[.ref a,.int (j:Int)])->(SqL K H a (ns.map V.int))->(∀v:Int,Q (.int v) H)->Jb K vs H Q
def JY(K:PySem.W.Frag):Sp:=fun vs H Q _=>Jb K vs H Q
theorem jc (T:3e9) (J:3e8):ZH P w K mg base CX0 1 t.md t.me ["script","k"] (JY K):=by
 refine T.ai.F.ok zW 3e7 (fun G A outer s H vs Q E hr h=>?_)
 ·obtain ⟨a,C,j,rfl,q,k⟩:=h
  rfl
 ·obtain ⟨a,C,j,rfl,q,k⟩:=h
  show 8;refine ⟨_,@QSs.out _ _ _ (Zb (Yi (Zz Zff (qv 1) (Zv ZF 2e8 T.av Xg 11e8) (ZG _))
    (Zf (Zp (Zq Zy (qv 0) (qv 1) 1e6))) Z7)
    (Zf (Zp Zd))),?_⟩
  show 9
  show 6
  refine L2.let2 ?_;intro I;refine ⟨_,rfl,_,rfl,a,_,rfl,.inl q,_,_,rfl,rfl,_,rfl,gh (fun h=>?_) (fun h=>?_)⟩
  ·have D:j < C.length:=by
    have:=Qa1 h;rw [Qac] at this;lia
   exact ⟨_,rfl,_,rfl,a,_,_,_,rfl,rfl,q,Yk (by rw [Qaj,Qag D];rfl),k _⟩
  ·exact k 0
inductive Jc(vs:List V)(H:Hp)(Q:VK):Prop
 | mk (cell:Int) (many most:Nat):(vs=[.int cell,.int (many:Int),.int (most:Int)])->(many<=1000)->(1<=most)->(most<=1000003)->(∀p (ns:1e5) H',H p=none->H' p=some (.lst (ns.map V.int))->ns.length=many->(∀x∈ns,0<=x/\x < (most:Int))->22e4)->Jc vs H Q
def JZ(K:PySem.W.Frag):Sp:=fun vs H Q _=>Jc vs H Q
theorem jd (T:3e9) (TB:3e8):ZH P w K mg base CX0 1 t.mf t.mh ["cell","many","most"] (JZ K):=by
 refine T.dm.F.ok ZA 3e7 6e9
 ·obtain ⟨Z,C,q,rfl,hmany,hm1,hm2,k⟩:=h
  rfl
 ·obtain ⟨Z,C,q,rfl,hmany,hm1,hm2,k⟩:=h
  show 8;refine ⟨_,@QSs.out _ _ _ (Zb (Zo (i:=3) ZA.nd rfl 1e7 (Wl Ze))
    (Zb (Zo (i:=4) ZA.nd rfl 1e7 (Zv jI 2e8 T.tq Zb4 11e8))
    (Zb (Yi (Zz op_ge (qv 4) (Zm Zhg Zd Zd) (ZG _))
    (Zb (Zo (i:=4) ZA.nd rfl 1e7 (Zm yJ (qv 4) (Zm Zhg Zd Zd)))
    (Zb (YH Qbq rfl (Xh rfl T.bf 16e3) (ZP (i:=5) ZA.nd rfl 1e7)
    (Zb (YD (X7 Qbj Qbo Qbp Yl (qv 3) (Zk (Zm ZW (qv 4) (qv 2)) Ze)))
    (Zf (Zo (i:=4) ZA.nd rfl 1e7 (Zm Yw (qv 4) (qv 2))))))
    (Zf (Zp (qv 3))))) Z7)
    (Zb (Zo (i:=6) ZA.nd rfl 1e7 (Zm ZW (Zm Y6 (Zm Wx (qv 0) Zd) Zd) Zd))
    (Zb (Zo (i:=7) ZA.nd rfl 1e7 (Zm ZW (Zm Y6 (Zm Wx (qv 0) Zd) Zd) Zd))
    (Zb (YH Qbq rfl (Xh rfl T.bf 16e3) (ZP (i:=5) ZA.nd rfl 1e7)
    (Zb (Zo (i:=6) ZA.nd rfl 1e7 (Zm ZW (Zm Y6 (Zm Y6 (Zm Wx (qv 6) Zd) (qv 7)) (qv 5)) Zd))
    (Zb (Zo (i:=7) ZA.nd rfl 1e7 (Zm ZW (Zm Y6 (Zm Wx (qv 7) (qv 7)) (qv 6)) Zd))
    (Zf (YD (X7 Qbj Qbo Qbp Yl (qv 3) (Zk (Zm ZW (Zm Yw (Zm Y6 (qv 6) (qv 7)) Zd) (qv 2)) Ze)))))))
    (Zf (Zp (qv 3))))))))),?_⟩
  show 9
  show 6
  refine L2.let7 ?_;intro U6 U5 U4 U3 U2 U1;refine ⟨21e5,fun p hp=>?_⟩;refine ⟨_,rfl,_,rfl,?_⟩;refine ⟨_,rfl,_,_,rfl,rfl,⟨4e0,4e0,4e0⟩,_,_,rfl,rfl,_,rfl,gh (fun _=>?_) (fun _=>?_)⟩
  ·refine ⟨_,rfl,_,_,rfl,rfl,⟨4e0,4e0,4e0⟩,_,_,rfl,rfl,?_⟩
   refine ⟨_,rfl,(C:Int),rfl,by lia,by lia,GC (fun i σ H2=>∃(r:Int) (u:5e6) (J:1e5),σ=[some (.int Z),some (.int C),some (.int q),some 3e5,some (.int r),u,none,none]/\H2 p=some (.lst (J.map V.int))/\J.length=i/\(∀x∈J,0<=x/\x < (q:Int))/\ZC H H2/\i<=C) ⟨_,none,[],rfl,Za,rfl,(fun _ h=>9e1),Zc hp,Qbe _⟩ ?_ ?_⟩
   ·rintro i σ H2 hi O
    show 15;obtain ⟨r,u,J,rfl,h2,hl,hb,s2,hi2⟩:=O;refine D ?_;clear D Gz;rw [Qat] at hi;refine ⟨_,rfl,.inl ⟨rfl,_,SqL.of h2⟩,_,rfl,_,rfl,_,_,rfl,rfl,(by show (0:Int) < q;lia),p,_,_,rfl,rfl,h2,?_,?_⟩
    ·rw [Qac,hl]
     exact Zn 1e2
    ·refine ⟨_,rfl,_,rfl,_,_,rfl,rfl,.of 1e2 1e2,_,_,J++[r % q],rfl,?_,?_,?_,?_,hi⟩
     ·rw [Za,Qbc]
      rfl
     ·rw [Qae,hl]
      rfl
     ·exact gL hb ⟨Qb9 _ 1e2,Qbs _ 1e2⟩
     ·exact Yz s2 hp
   ·rintro σ H2 O
    show 15;obtain ⟨r,u,J,rfl,h2,hl,hb,s2,hi2⟩:=O;refine D ?_;clear D Gz;rw [Qat] at hl;exact ⟨_,rfl,k p J H2 hp h2 hl hb s2⟩
  ·refine ⟨_,rfl,_,_,rfl,rfl,30e4,_,_,rfl,rfl,_,_,rfl,rfl,(by show (0:Int) < 2147483629;decide),?_⟩
   refine ⟨_,rfl,_,_,rfl,rfl,30e4,_,_,rfl,rfl,_,_,rfl,rfl,(by show (0:Int) < 1000000007;decide),?_⟩;refine ⟨_,rfl,(C:Int),rfl,by lia,by lia,GC (fun i σ H2=>∃(r one I:Int) (u:5e6) (J:1e5),σ=[some (.int Z),some (.int C),some (.int q),some 3e5,some (.int r),u,some (.int one),some (.int I)]/\0<=one/\one < 2147483629/\0<=I/\I < 1000000007/\H2 p=some (.lst (J.map V.int))/\J.length=i/\(∀x∈J,0<=x/\x < (q:Int))/\ZC H H2/\i<=C) ⟨_,_,_,none,[],rfl,Qb9 _ 1e4,Qbs _ 1e4,Qb9 _ 1e4,Qbs _ 1e4,Za,rfl,(fun _ h=>9e1),Zc hp,Qbe _⟩ ?_ ?_⟩
   ·rintro i σ H2 hi O
    show 15;obtain ⟨r,one,I,u,J,rfl,o0,o1,t0,t1,h2,hl,hb,s2,hi2⟩:=O;refine D ?_;clear D Gz;rw [Qat] at hi;refine ⟨_,rfl,_,_,rfl,rfl,30e4,_,rfl,_,_,rfl,rfl,_,rfl,_,_,rfl,rfl,_,_,rfl,rfl,(by show (0:Int) < 2147483629;decide),?_⟩
    show 10
    generalize h1e:(one * 69069 + I + (0 + (i:Int))) % 2147483629=G;have p0:0<=G:=by lia
    have p1:G < 2147483629:=by lia
    refine ⟨_,rfl,_,rfl,_,_,rfl,rfl,.inr (.inl 17e3),_,rfl,_,_,rfl,rfl,_,_,rfl,rfl,(by show (0:Int) < 1000000007;decide),?_⟩
    show 10
    generalize h2e:(I * I + G) % 1000000007=Y;have q0:0<=Y:=by lia
    have q1:Y < 1000000007:=by lia
    refine ⟨_,rfl,.inl ⟨rfl,_,SqL.of h2⟩,_,rfl,_,rfl,_,_,rfl,rfl,_,_,rfl,rfl,15e0,_,rfl,_,_,rfl,rfl,(by show (0:Int) < q;lia),p,_,_,rfl,rfl,h2,?_,?_⟩
    ·rw [Qac,hl]
     exact Zn 1e2
    ·refine ⟨_,G,Y,_,J++[(G + Y) / 16 % q],rfl,p0,p1,q0,q1,?_,?_,?_,?_,hi⟩
     ·rw [Za,Qbc]
      rfl
     ·rw [Qae,hl]
      rfl
     ·exact gL hb ⟨Qb9 _ 1e2,Qbs _ 1e2⟩
     ·exact Yz s2 hp
   ·rintro σ H2 O
    show 15;obtain ⟨r,one,I,u,J,rfl,o0,o1,t0,t1,h2,hl,hb,s2,hi2⟩:=O;refine D ?_;clear D Gz;rw [Qat] at hl;exact ⟨_,rfl,k p J H2 hp h2 hl hb s2⟩
inductive Xt(vs:List V)(H:Hp)(Q:VK):Prop
 | mk (cell:Int):(vs=[.int cell])->(0<=cell)->(∀p (x y:Int) H',(0<=x/\x < 1000)->(0<=y/\y < 1000)->x≠y->H' p=some (.tup [.int x,.int y])->22e4)->Xt vs H Q
def Wb(K:PySem.W.Frag):Sp:=fun vs H Q _=>Xt vs H Q
theorem qi (T:3e9) (TB:3e8):ZH P w K mg base CX0 1 t.dw t.dy ["cell"] (Wb K):=by
 refine T.br.F.ok YQ 3e7 (fun J A outer s H vs Q E hr h=>?_)
 ·obtain ⟨q,rfl,O,k⟩:=h
  rfl
 ·obtain ⟨q,rfl,O,k⟩:=h
  show 8;refine ⟨_,@QSs.out _ _ _ (Zb (Zo (i:=1) YQ.nd rfl 1e7 (Zm ZW (qv 0) Zd))
    (Zb (Yi (Zz XO (qv 1) Zd (ZG _))
    (Zf (Zp (ZL (Zk (Zm ZW (Zm Yw (qv 0) Zd) Zd) (Zk (Zm Y6 Zd (Zm ZW (Zm Yw (qv 0) Zd) Zd)) Ze))))) Z7)
    (Zb (Zo (i:=2) YQ.nd rfl 1e7 (Zm ZW (Zm Yw (qv 0) Zd) Zd))
    (Zf (Zp (ZL (Zk (qv 2) (Zk (Zm xN (qv 2) (Zm ZW (Zm gg (Zm Y6 Zd (Zm Wx Zd (Zm ZW (Zm Yw (qv 0) Zd) Zd))) (qv 1)) Zd)) Ze)))))))),?_⟩
  show 9
  show 6
  refine L2.let4 ?_;intro U3 Z Y;have D:0<=q % 10/\q % 10 < 10:=17e3;refine ⟨_,rfl,_,_,rfl,rfl,(by show (0:Int) < 10;decide),Zi ?_⟩;refine ⟨_,rfl,rfl,_,rfl,18e5⟩
  ·refine ⟨_,rfl,_,_,rfl,rfl,15e0,_,_,rfl,rfl,(by show (0:Int) < 488;decide),_,rfl,_,_,rfl,rfl,15e0,_,_,rfl,rfl,(by show (0:Int) < 488;decide),_,_,rfl,rfl,8e3,fun p hp=>k p _ _ _ ⟨?_,?_⟩ ⟨?_,?_⟩ ?_ Za (Zc hp)⟩ <;> lia
  ·have C:q % 10 < 9:=by
    rcases Int.lt_or_le (q % 10) 9 with z | z
    ·exact z
    ·exact absurd (Qah (show V.int (q % 10)=V.int 9 by rw [show q % 10=9 by lia])) hb
   refine ⟨_,rfl,_,_,rfl,rfl,15e0,_,_,rfl,rfl,(by show (0:Int) < 512;decide),Zi ?_⟩;refine ⟨_,rfl,_,rfl,_,rfl,_,_,rfl,rfl,15e0,_,_,rfl,rfl,(by show (0:Int) < 512;decide),_,_,rfl,rfl,.inr (.inl 17e3),_,_,rfl,rfl,_,rfl,_,_,rfl,rfl,⟨D.1,by lia,by lia⟩,_,_,rfl,rfl,(by show (0:Int) < 512;decide),_,_,rfl,rfl,8e3,fun p hp=>?_⟩;obtain ⟨G,I⟩:=Zg1 (o:=q / 10 % 512) (x:=q / 5120 % 512) 1e2 1e2 D.1 C;exact k p _ _ _ 17e3 G I.symm Za (Zc hp)
inductive xj(vs:List V)(H:Hp)(Q:VK):Prop
 | mk (kd:Nat) (y:Str) (x z:Int):(vs=[.int (kd:Int),.str y,.int x,.int z])->(kd < 7)->(∀p u v H',H' p=some (.tup [.ref u,.ref v])->H' u=some (.tup ((YT kd x).flat [.str y] [.int 0] [.int 0]))->H' v=some (.tup ((YT kd z).flat [.str y] [.int 0] [.int 0]))->22e4)->xj vs H Q
def jD(K:PySem.W.Frag):Sp:=fun vs H Q _=>xj vs H Q
theorem Zaj (T:3e9) (TB:3e8):ZH P w K mg base CX0 1 t.ri t.rj 30e0 (jD K):=by
 refine T.ny.F.ok jB 3e7 6e9
 ·obtain ⟨q,y,x,z,rfl,I,k⟩:=h
  rfl
 ·obtain ⟨q,y,x,z,rfl,I,k⟩:=h
  show 8;refine ⟨_,@QSs.out _ _ _ (Zb (Yi (Zz XO (qv 0) Zd (ZG _))
    (Zf (Zp (ZL (Zk (ZL (Zk (qv 2) Ze)) (Zk (ZL (Zk (qv 3) Ze)) Ze))))) Z7)
    (Zb (Yi (Zz XO (qv 0) Zd (ZG _))
    (Zf (Zp (ZL (Zk (ZL (Zk Zx (Zk (qv 2) 16e3))) (Zk (ZL (Zk Zx (Zk (qv 3) 16e3))) Ze))))) Z7)
    (Zb (Zo (i:=4) jB.nd rfl 1e7 (Zq Zy (Wl (Zk Zx (Zk Zx (Zk Zx (Zk Zx (Zk Zx Ze)))))) (Zm yJ (qv 0) Zd) 1e6))
    (Zf (Zp (ZL (Zk (ZL (Zk (qv 4) (Zk (qv 1) (Zk (qv 2) Ze)))) (Zk (ZL (Zk (qv 4) (Zk (qv 1) (Zk (qv 3) Ze)))) Ze)))))))),?_⟩
  show 9
  show 6
  refine L2.let4 ?_;intro U3 U2 U1;have C:∀(D x2:List V) (H1:Hp) (J:ZC H H1),D=(YT q x).flat [.str y] [.int 0] [.int 0]->x2=(YT q z).flat [.str y] [.int 0] [.int 0]->∀a,H1 a=none->∀b,upd H1 a (.tup D) b=none->∀p,upd (upd H1 a (.tup D)) b (.tup x2) p=none->Q 3e5 (upd (upd (upd H1 a (.tup D)) b (.tup x2)) p (.tup [.ref a,.ref b])):=by
   intro D x2 H1 J e1 e2 a ha b hb p hp;subst e1 e2;have Y:=Zc (o:=.tup ((YT q x).flat [.str y] [.int 0] [.int 0])) ha;have O:=Zc (o:=.tup ((YT q z).flat [.str y] [.int 0] [.int 0])) hb;have G:=Zc (o:=.tup [.ref a,.ref b]) hp;exact k p a b _ Za (G _ _ (O _ _ Za)) (G _ _ Za) (J.trans (Y.trans (O.trans G)))
  refine ⟨_,rfl,rfl,_,rfl,18e5⟩
  ·have e:q=0:=by
    have:=Qa1 hb;injection this with this;lia
   subst e;exact ⟨_,rfl,18e6,fun a ha=>⟨_,rfl,18e6,fun b hb=>⟨8e3,fun p hp=>C [.int x] [.int z] H (ZC.refl H) rfl rfl a ha b hb p hp⟩⟩⟩
  have h0:q≠0:=fun z=>hb (Qah (by rw [z];rfl));refine ⟨_,rfl,rfl,_,rfl,18e5⟩
  ·have e:q=1:=by
    have:=Qa1 hb;injection this with this;lia
   subst e;exact ⟨_,rfl,_,rfl,23e9,fun a ha=>⟨_,rfl,_,rfl,23e9,fun b hb=>⟨8e3,fun p hp=>C [.str "sub",.int x,.str y] [.str "sub",.int z,.str y] H (ZC.refl H) rfl rfl a ha b hb p hp⟩⟩⟩
  have h1:q≠1:=fun z=>hb (Qah (by rw [z];rfl));have Z:atI [V.str "add",V.str "sub",V.str "odd",V.str "or",V.str "and"] ((q:Int) - 2)=some (V.str (JQ q)):=by
   rw [show (q:Int) - 2=((q - 2:Nat):Int) by lia];refine Yk ?_;unfold JQ;obtain ⟨j,hj⟩:∃j,q - 2=j:=8e1;rw [hj]
   match j,(show j < 5 by lia) with
   | 0,_=>rfl
   | 1,_=>rfl
   | 2,_=>rfl
   | 3,_=>rfl
   | 4,_=>rfl
  refine ⟨by show 5<=sizeLine;decide,fun l hl=>⟨_,rfl,_,_,rfl,rfl,l,_,_,_,rfl,rfl,SqL.of Za,Z,Zi ?_⟩⟩;have ep:∀x:Int,(YT q x).flat [.str y] [.int 0] [.int 0]=[.str (JQ q),.str y,.int x]:=fun x=>by
   unfold YT;rw [Qau h0,Qau h1]
   rfl
  exact ⟨_,rfl,_,rfl,_,rfl,23e9,fun a ha=>⟨_,rfl,_,rfl,_,rfl,23e9,fun b hb=>⟨8e3,fun p hp=>C _ _ _ (Zc hl) (ep x).symm (ep z).symm a ha b hb p hp⟩⟩⟩
inductive J7(vs:List V)(H:Hp)(Q:VK):Prop
 | mk (cell:Int) (tw tm:Addr) (ws:List V) (es:1e3):(vs=[.int cell,.ref tw,.ref tm])->(H tw=some (.tup ws))->(H tm=some (.tup (es.map V.str)))->(es.length<=2)->(ws.length<=50)->(∀p H',H' p=some (.tup ((if cell % 2=1 then [V.str "not"] else [])++es.foldl (fun ws e=>V.str "odd" :: V.str e::ws) ws))->22e4)->J7 vs H Q
def qj(K:PySem.W.Frag):Sp:=fun vs H Q _=>J7 vs H Q
theorem yE (T:3e9) (TB:3e8):ZH P w K mg base CX0 1 t.nh t.ni ["cell","words","more"] (qj K):=by
 refine T.aw.F.ok WN 3e7 6e9
 ·obtain ⟨G,tw,tm,C,es,rfl,Y,J,he2,hwl,k⟩:=h
  rfl
 ·obtain ⟨G,tw,tm,C,es,rfl,Y,J,he2,hwl,k⟩:=h
  show 8;refine ⟨_,@QSs.out _ _ _ (Zb (YH Qbq rfl (WS (qv 2)) (ZP (i:=3) WN.nd rfl 1e7)
    (Zf (Zo (i:=1) WN.nd rfl 1e7 (Zm Gs (ZL (Zk Zx (Zk (qv 3) Ze))) (qv 1)))))
    (Zb (Yi (Zz XO (Zm ZW (qv 0) Zd) Zd (ZG _))
    (Zf (Zp (Zm Gs (ZL (Zk Zx Ze)) (qv 1)))) Z7)
    (Zf (Zp (qv 1))))),?_⟩
  show 9
  show 6
  refine L2.let3 ?_;intro U2 U1;have fl:∀i,((es.take i).foldl (fun C e=>V.str "odd" :: V.str e::C) C).length=C.length + 2 * (es.take i).length:=fun i=>by
   have go:∀(l:1e3) (C:List V),(l.foldl (fun C e=>V.str "odd" :: V.str e::C) C).length=C.length + 2 * l.length:=by
    intro l
    induction l with
    | nil=>intro C;rfl
    | cons e l ih =>
     intro C;rw [Qdy,ih];show C.length + 1 + 1 + 2 * l.length=C.length + 2 * (l.length + 1);lia
   exact go _ _
  refine ⟨_,rfl,tm,rfl,⟨_,SqT.of J⟩,xM (K:=K) (a:=tm) (xs:=es.map V.str) (fun i σ H'=>∃(D:Addr) (u3:5e6),σ=[some (.int G),some (.ref D),some (.ref tm),u3]/\H' D=some (.tup ((es.take i).foldl (fun C e=>V.str "odd" :: V.str e::C) C))/\ZC H H') ⟨tw,none,rfl,Y,ZC.refl H⟩ (fun i σ H' _ ⟨_,_,_,_,s⟩=>SqT.of (s _ _ J)) ?_ ?_⟩
  ·rintro i x σ H1 hx O
   refine Z6 fun Gz I=>?_;obtain ⟨D,u3,rfl,h1,s1⟩:=O;refine I ?_;clear I Gz;obtain ⟨e,rfl,he⟩:=zk hx;have hl:=fl i;rw [Qa6] at hl;refine Zi ⟨_,rfl,8e3,fun q Z=>⟨_,rfl,q,D,_,_,rfl,rfl,Za,Zc Z _ _ h1,Qa0 (Zn (by rw [hl];show 2 + _<=1000;lia)),fun p H2 hp s2=>Zi ⟨p,_,rfl,?_,s1.trans ((Zc Z).trans s2)⟩⟩⟩;rw [hp,take_snoc he,Qdf]
   rfl
  ·rintro σ H1 O
   refine Z6 fun Gz I=>?_;obtain ⟨D,u3,rfl,h1,s1⟩:=O;refine I ?_;clear I Gz;have hl:=fl es.length;rw [Qac] at h1;rw [Qbi] at h1 hl;refine ⟨_,rfl,_,_,rfl,rfl,(by show (0:Int) < 2;decide),rfl,_,rfl,18e5⟩
   ·have e:G % 2=1:=by
     have:=Qa1 hb;injection this
    rw [Qaw e] at k;exact ⟨18e6,fun q Z=>⟨_,rfl,q,D,_,_,rfl,rfl,Za,Zc Z _ _ h1,Qa0 (Zn (by rw [hl];show 1 + _<=1000;lia)),fun p H2 hp s2=>k p H2 hp (s1.trans ((Zc Z).trans s2))⟩⟩
   ·rw [Qau (fun e=>hb (Qah (show V.int (G % 2)=V.int 1 by rw [e])))] at k
    exact ⟨_,rfl,k D H1 h1 s1⟩
inductive qk(vs:List V)(H:Hp)(Q:VK):Prop
 | mk (nm p:Addr) (ys:1e3) (cs:1e5) (g:4e6):(vs=[.ref nm,.ref p])->(H nm=some (.tup (12e9)))->(H p=some (.tup (cs.map V.int)))->(ys.length<=3)->(cs.length<=1000000)->((∀c∈cs,0<=c))->((∀(i:Nat) (y:Str),15e2->hor ((cs.map fun c=>c / 2 ^ i % 2).reverse)=g y))->(∀d kvs H',H d=none->H' d=some 4e1->Tab kvs ys g->ZC H H'->Q (.ref d) H')->qk vs H Q
def zF(K:PySem.W.Frag):Sp:=fun vs H Q _=>qk vs H Q
theorem wW (T:3e9) (TB:3e8):ZH P w K mg base CX0 2 t.pe t.pf 19e2 (zF K):=by
 have q:ZH P w K mg base CX0 1 t.ia t.ib ["bits"] (Jw K):=xc T TB;refine T.kv.F.ok WO 3e7 6e9
 ·obtain ⟨nm,p,ys,cs,g,rfl,hn,hp,J,O,I,hg,k⟩:=h
  rfl
 ·obtain ⟨nm,p,ys,cs,g,rfl,hn,hp,J,O,I,hg,k⟩:=h
  show 8;refine ⟨_,@QSs.out _ _ _ (Zb (Zo (i:=2) WO.nd rfl 1e7 xT)
    (Zb (YH Qbq rfl (jS rfl T.oz (qv 0)) (jT rfl (ZP (i:=3) WO.nd rfl 11e9) (ZP (i:=4) WO.nd rfl 1e7))
    (Zf (W5 hu (qv 2) (qv 4) (Zl q 3e2 rfl T.az.m T.az.F.kp T.az.b .nil ZI (Zk (Z9 Z5 2e8 T.ak Ya (Zk (YE (11e0:Ym (Zg JE) _ ["names","letters","words","place","name"] "letter" ["place"] [3]) (WS (qv 1)) 13e6 (fun _ _ _ _=>(Zm XQ (Zm jh (qv 0) (qv 1)) Zd))) Ze)) Ze)) rfl)))
    (Zf (Zp (qv 2))))),?_⟩
  show 9
  show 6
  refine L2.let3 ?_;intro U2 U1;intro d hd;have u1:=Zc (o:=.dK []) hd;refine ⟨_,rfl,nm,_,rfl,SqT.of (u1 _ _ hn),?_⟩;refine jU (K:=K) (a:=nm) (xs:=12e9) (j:=3) (k:=4) (fun i σ H2=>∃u v kvs,σ=[some (.ref nm),some 3e5,some (.ref d),u,v]/\H2 d=some 4e1/\Tab kvs (ys.take i) g/\ZC H H2) ⟨none,none,[],rfl,Za,.nil,u1⟩ (fun i σ H2 _ ⟨_,_,_,_,_,_,G⟩=>SqT.of (G _ _ hn)) ?_ ?_
  ·rintro i x σ H2 t hx ht D
   refine Z6 fun Z C=>?_;obtain ⟨u,v,kvs,rfl,h2,T,G⟩:=D;refine C ?_;clear C Z;obtain ⟨y,rfl,hy⟩:=zk hx;have v1:=Zc (o:=.tup [.int (i:Int),.str y]) ht;have s3:=G.trans v1;refine ⟨_,rfl,p,rfl,⟨_,SqT.of (s3 _ _ hp)⟩,vd (fI fun c=>V.int (Builtin.bitAnd (c / 2 ^ ((i:Nat):Int).toNat) 1)) (SqT.of (s3 _ _ hp)) (by rw [Qac];exact Qa0 (Xj 1e2)) (fun w hw R hR=>?_) (fun l hl=>?_)⟩
   ·obtain ⟨c,_,rfl⟩:=Qay.mp hw
    exact ⟨_,rfl,_,rfl,_,_,rfl,rfl,Qb7 i,_,_,rfl,rfl,hR⟩
   have e1:(cs.map V.int).map (fI fun c=>V.int (Builtin.bitAnd (c / 2 ^ ((i:Nat):Int).toNat) 1))=(cs.map fun c=>c / 2 ^ i % 2).map V.int:=by
    rw [map_fI,Qcf];apply Qc1;intro c hc;show V.int _=V.int _;rw [Qat,Zk0 (div_nn (I c hc) i)]
   rw [e1];have v2:=Zc (o:=.lst ((cs.map fun c=>c / 2 ^ i % 2).map V.int)) hl;refine ⟨l,_,rfl,.inl ⟨SqL.of Za,fun t2 Y=>⟨t2,_,rfl,SqT.of Za,?_⟩⟩⟩;have v3:=Zc (o:=.tup ((cs.map fun c=>c / 2 ^ i % 2).map V.int)) Y;have s4:=v1.trans (v2.trans v3);have few:=T.few;rw [Qa6] at few;refine ⟨_,rfl,_,rfl,d,_,rfl,uH.k (k:=.inr y) (s4 _ _ h2) (Xj 1e2),_,_,_,rfl,Za,?_,Yz (G.trans s4) hd⟩;rw [take_snoc hy];refine (T.put y _).same fun z hz=>?_
   by_cases e:z=y
   ·rw [Qaw e,e,<-hg i y hy]
   ·rw [Qau e]
  ·rintro σ H2 D
   refine Z6 fun Z C=>?_;obtain ⟨u,v,kvs,rfl,h2,T,G⟩:=D;refine C ?_;clear C Z;rw [Qac,Qbi] at T;exact ⟨_,rfl,k d kvs H2 hd h2 T G⟩
inductive YV(vs:List V)(H:Hp)(Q:VK):Prop
 | mk (m a lt:Addr) (nm:1e3) (b:Nat) (nx:2e4) (ot:5e8) (n:Nat) (S L:1e1) (W:13e7) (wv v:V) (tr:Bool):(vs=[.ref m,.ref a,.ref lt,wv,v])->(M4 H m nm b nx ot)->(Runs nx ot n)->(Rd H a (.dK (twK S)))->(S.Nodup)->((∀s∈S,s < nx.length))->(S.length<=1000000)->(H lt=some (.tup (L.map YU)))->((∀l∈L,l < 2 ^ n))->(L.length<=1000)->(jA H wv W)->(XH tr v)->((∀r∈ot,∀x∈r,XH tr x))->(∀p H',H p=none->H' p=some (.dK (twK (goB (mN nx) 6e8 W S L)))->SmF H H'->Q 3e5 H')->YV vs H Q
def Xu(K:PySem.W.Frag):Sp:=fun vs H Q _=>YV vs H Q
theorem JL (T:3e9) (TB:3e8):ZH P w K mg base CX0 2 t.cx t.cy 28e3 (Xu K):=by
 have C:ZH P w K mg base CX0 1 t.oj t.om 25e7 (xf K):=vX T TB;refine T.ah.F.ok Y9 3e7 6e9
 ·obtain ⟨m,a,lt,nm,b,nx,ot,n,S,L,W,wv,v,tr,rfl,M,R,ha,hnd,hS,hSl,hlt,hL,hLl,hw,hv,hk,k⟩:=h
  rfl
 ·obtain ⟨m,a,lt,nm,b,nx,ot,n,S,L,W,wv,v,tr,rfl,M,R,ha,hnd,hS,hSl,hlt,hL,hLl,hw,hv,hk,k⟩:=h
  show 8;refine ⟨_,@QSs.out _ _ _ (Zb (Zo (i:=5) Y9.nd rfl 1e7 xT)
    (Zb (YH Qbq rfl (gK (qv 1)) (ZP (i:=6) Y9.nd rfl 11e9)
    (Zf (Yi (Wk (Zv (Zcx rfl) 2e8 T.aad bt_any (Zk (YE (11e0:Ym (Zg Yr) _ ["machine","states","letters","well","wanted","going","state"] "letter" ["machine","state","well","wanted"] [0,6,3,4]) (WS (qv 2)) 13e6 (fun _ _ _ _=>(Zl C 3e2 rfl T.ig.m T.ig.F.kp T.ig.b .nil ZI (Zk (qv 1) (Zk (qv 2) (Zk (qv 0) (Zk (qv 3) (Zk (qv 4) Ze)))))))) Ze)))
    (Zf (W5 hu (qv 5) (qv 6) zK rfl)) Z7)))
    (Zf (Zp (qv 5))))),?_⟩
  show 9
  show 6
  refine L2.let3 ?_;intro U2 U1;refine fun p hp=>?_;have s1:=SmF.of (Zc (o:=.dK []) hp);refine Zi ?_;have Y:=s1.rd ha;refine ⟨_,rfl,a,_,rfl,Y,fun o ho=>jW (kvs:=twK S) (fun i σ H'=>∃(u6:5e6),σ=[some (.ref m),some 3e1,some (.ref lt),some wv,some v,some 3e5,u6]/\H' a=some (.frz o (.dK (twK S)))/\H' p=some (.dK (twK (goB (mN nx) 6e8 W (S.take i) L)))/\SmF H H') ⟨none,rfl,Za,?_,s1.trans (SmF.frz Y ho)⟩ (fun i σ H' _ ⟨_,_,h,_⟩=>h) ?_ ?_⟩
  ·have I:p≠a:=fun z=>by
    subst z;rcases ha with z | ⟨_,z⟩ <;> rw [hp] at z <;> cases z
   rw [Zh I,Za]
   rfl
  ·rintro i q σ H1 hq J
   show 15;obtain ⟨u6,rfl,h1,h2,O⟩:=J;refine D ?_;clear D Gz;unfold twK at hq;rw [Qaj] at hq;obtain ⟨s,hs,rfl⟩:=Qcb.mp hq;have hsS:=Qam hs;have G:=O.tup hlt;refine Zi ⟨_,rfl,lt,rfl,⟨_,SqT.of G⟩,vd (xs:=L.map YU) (fI 32e3) (SqT.of G) (by rw [Qac];exact Qa0 (Zn hLl)) (fun x hx R' hR=>?_) (fun l hl=>?_)⟩
   ·obtain ⟨y,hy,rfl⟩:=Qay.mp hx
    have e:fI (32e3) (YU y)=V.bl (gw (mN nx) 6e8 W s y):=by
     show V.bl (gw (mN nx) 6e8 W s (y:Int).toNat)=_;rw [Qat]
    rw [e] at hR;exact ⟨_,rfl,_,rfl,_,rfl,_,rfl,_,rfl,m,nm,b,nx,ot,n,s,y,W,wv,v,tr,rfl,M.smf O,R,hS s hsS,hL y hy,O.well hw,hv,hk,hR⟩
   ·refine ⟨l,L.map (gw (mN nx) 6e8 W s),rfl,SqL.of (by rw [Za,Qcf,Qcf];congr 2),_,rfl,?_⟩
    have sl:=Zc (o:=.lst (List.map (fI 32e3) (List.map YU L))) hl;have s3:=O.trans (SmF.of sl);have h1':=sl _ _ h1;have Z:=sl _ _ h2;generalize upd H1 l (.lst (List.map (fI 32e3) (List.map YU L)))=H2 at *;have ea:(L.map (gw (mN nx) 6e8 W s)).any id=L.any (gw (mN nx) 6e8 W s):=by rw [List.any_map];rfl
    have es:=Zgz (nx:=mN nx) (ok:=mB ot v) (W:=W) (L:=L) hs;rw [ea];have I:a≠p:=fun z=>by rw [z,h2] at h1;cases h1
    refine 18e5
    ·rw [Qaw hb] at es
     refine ⟨_,rfl,_,rfl,p,_,rfl,uH.k (k:=.inl (s:Int)) Z (by rw [zy];have h3:=Zlk (nx:=mN nx) (ok:=mB ot v) (W:=W) (S:=S.take i) (L:=L);rw [Qa6] at h3;exact Xj 1e2),_,rfl,by rw [Zh I];exact h1',?_,s3.put hp⟩;rw [Za,Zei,es];exact congrArg (fun z=>some (HO.dK (twK z))) (Qau (Zlj hnd hs))
    ·rw [Qau hb,Qbv] at es
     exact ⟨_,rfl,h1',by rw [es];exact Z,s3⟩
  ·rintro σ H1 J
   show 15;obtain ⟨u6,rfl,h1,h2,O⟩:=J;refine D ?_;clear D Gz;rw [zy,Qbi] at h2;exact ⟨_,rfl,k p H1 hp h2 O⟩
inductive ql(vs:List V)(H:Hp)(Q:VK):Prop
 | mk (k:Key):(vs=[kV k])->(Q (.int (X2 k)) H)->ql vs H Q
def zG(K:PySem.W.Frag):Sp:=fun vs H Q _=>ql vs H Q
theorem wX (T:3e9) (D:3e8):ZH P w K mg base CX0 2 t.ph t.pj 8e2 (zG K):=by
 have C:ZH P w K mg base CX0 1 t.lr t.lu 8e2 (JU K):=ja T D;have q:ZH P w K mg base CX0 1 t.fu t.fw 8e2 (WZ K):=x5 T D;refine T.lb.F.ok wR 3e7 (fun G A outer s H vs Q E hr h=>?_)
 ·show 24
  rfl
 ·show 24
  show 8;refine ⟨_,@QSs.out _ _ _ (Zf (Zp (Zm Y6 (Zl C 3e2 rfl T.dj.m T.dj.F.kp T.dj.b .nil ZI 11e8) (Zl q 3e2 rfl T.cq.m T.cq.F.kp T.cq.b .nil ZI 11e8)))),?_⟩;show 9
  show 6
  exact ⟨_,rfl,kk,rfl,_,rfl,kk,rfl,_,_,rfl,rfl,k⟩
inductive xk(vs:List V)(H:Hp)(Q:VK):Prop
 | mk (y:Str):(vs=[.str y])->(y.length<=100000)->(∀H',ZC H H'->Q (.bl (decide (y∉Ye/\NmL y))) H')->xk vs H Q
def jE(K:PySem.W.Frag):Sp:=fun vs H Q _=>xk vs H Q
theorem Zg5{y:Str}:NmL y↔y.length<=8/\jy y Zne:=by
 constructor
 ·intro h
  refine ⟨h.1.2,fun z=>?_,h.2⟩;have h1:=h.1.1;rw [len_signs,z] at h1;exact absurd h1 1e4
 ·intro h
  refine ⟨⟨?_,h.1⟩,h.2.2⟩;rw [len_signs];cases e:y.cps.toList with
  | nil=>exact absurd e h.2.1
  | cons a r=>exact Qfm (Qbe _)
theorem Zak (T:3e9) (G:3e8):ZH P w K mg base CX0 2 t.rn t.ro ["text"] (jE K):=by
 have D:ZH P w K mg base CX0 1 t.my t.mz ["text","signs"] (qe K):=yC T G;have q:ZH P w K mg base CX0 1 t.fq t.ft ["text"] (WX K):=x4 T G;have C:ZH P w K mg base CX0 1 t.lj t.lq ["text"] (JT K):=zZ T G;refine T.nz.F.ok Zah 3e7 (fun O A outer s H vs Q E hr h=>?_)
 ·obtain ⟨y,rfl,hl,k⟩:=h
  rfl
 ·obtain ⟨y,rfl,hl,k⟩:=h
  show 8;refine ⟨_,@QSs.out _ _ _ (Zb (Yi (Zbw (yW (Wk (Zl C 3e2 rfl T.di.m T.di.F.kp T.di.b .nil ZI 11e8)) (gp (Wk (Zl q 3e2 rfl T.cm.m T.cm.F.kp T.cm.b .nil ZI 11e8)))))
    (Zf (Zp zK)) Z7)
    (Zf (Zp (Zbv (X6 op_le (Zv qT 2e8 T.av Xg 11e8) (Wz (v:=.int 8) rfl T.ui 8e1) (ZG _)) (gr (Zl D 3e2 rfl T.fg.m T.fg.F.kp T.fg.b .nil ZI (Zk (qv 0) (Zk (Wz (v:=.str "abcdefghijklmnopqrstuvwxyz") rfl T.xn 8e1) Ze)))))))),?_⟩
  show 9
  show 6
  refine L2.let2 ?_;intro Y
  by_cases h1:y∈Ye
  ·have e:decide (y∉Ye/\NmL y)=false:=Qao fun z=>z.1 h1
   rw [e] at k;refine ⟨_,rfl,y,rfl,_,rfl,?_⟩
   by_cases h2:y∈Ji
   ·rw [Qah h2]
    exact Jh (Jh (k H (ZC.refl H)))
   ·rw [Qao h2]
    have I:y∈ZT:=((we y).mp h1).resolve_left h2;refine Xr ⟨_,rfl,.inr y,rfl,_,rfl,?_⟩;rw [show clK (.inr y)=true from Qah I];exact Jh (k H (ZC.refl H))
  ·have h2:y∉Ji:=fun z=>h1 ((we y).mpr (.inl z))
   have I:y∉ZT:=fun z=>h1 ((we y).mpr (.inr z));refine ⟨_,rfl,y,rfl,_,rfl,?_⟩;rw [Qao h2];refine Xr ⟨_,rfl,.inr y,rfl,_,rfl,?_⟩;rw [show clK (.inr y)=false from Qao I];refine Xr ?_;refine ⟨_,rfl,y,rfl,Qbd hl 1e4,_,_,rfl,rfl,_,rfl,?_⟩
   by_cases J:y.length<=8
   ·rw [Qah (show (y.length:Int)<=8 by lia)]
    refine Jh ⟨_,rfl,y,Zne,rfl,hl,fun H' s'=>?_⟩;have e:decide (jy y Zne)=decide (y∉Ye/\NmL y):=by
     rw [Qdk,Qcm,Qcm,Zg5];exact ⟨fun z=>⟨h1,J,z⟩,fun z=>z.2.2⟩
    rw [e];exact k H' s'
   ·rw [Qao (show ¬(y.length:Int)<=8 by lia)]
    have e:decide (y∉Ye/\NmL y)=false:=Qao fun z=>J z.2.1.2;rw [e] at k;exact Xr (k H (ZC.refl H))
inductive Wt(vs:List V)(H:Hp)(Q:VK):Prop
 | mk (tn tl:Addr) (ys:1e3) (L:Nat):(vs=[.ref tn,.ref tl])->(H tn=some (.tup (12e9)))->(ys.Nodup)->(ys.length<=10)->(H tl=some (.lst ((List.range L).map 11e1)))->(L<=100)->(∀dv kvs H',H dv=none->H' dv=some 4e1->Zkz kvs ys (Y4 L ys)->ZC H H'->Q (.ref dv) H')->Wt vs H Q
def J8(K:PySem.W.Frag):Sp:=fun vs H Q _=>Wt vs H Q
theorem zH (T:3e9) (TB:3e8):ZH P w K mg base CX0 2 t.iq t.ir 19e2 (J8 K):=by
 have C:ZH P w K mg base CX0 1 t.ia t.ib ["bits"] (Jw K):=xc T TB;refine T.de.F.ok YR 3e7 6e9
 ·obtain ⟨tn,tl,ys,L,rfl,hn,O,hn3,hl,hL,k⟩:=h
  rfl
 ·obtain ⟨tn,tl,ys,L,rfl,hn,O,hn3,hl,hL,k⟩:=h
  show 8;refine ⟨_,@QSs.out _ _ _ (Zb (Zo (i:=2) YR.nd rfl 1e7 xT)
    (Zb (YH Qbq rfl (jS rfl T.oz (qv 0)) (jT rfl (ZP (i:=3) YR.nd rfl 11e9) (ZP (i:=4) YR.nd rfl 1e7))
    (Zf (W5 hu (qv 2) (qv 4) (Zl C 3e2 rfl T.az.m T.az.F.kp T.az.b .nil ZI (Zk (Z9 Z5 2e8 T.ak Ya (Zk (YE (11e0:Ym (Zg Xe) _ ["names","letters","columns","place","name"] "letter" ["place"] [3]) (Gn (qv 1)) 13e6 (fun _ _ _ _=>(Zm XQ (Zm jh (qv 0) (qv 1)) Zd))) Ze)) Ze)) rfl)))
    (Zf (Zp (qv 2))))),?_⟩
  show 9
  show 6
  refine L2.let3 ?_;intro U2 U1;refine fun Z J=>Zi ?_;have s1:=Zc (o:=.dK []) J;refine ⟨_,rfl,tn,_,rfl,SqT.of (s1 _ _ hn),jU (K:=K) (a:=tn) (xs:=12e9) (fun i σ H2=>∃(kvs:4e4) (u3 u4:5e6),σ=[some (.ref tn),some (.ref tl),some (.ref Z),u3,u4]/\H2 Z=some 4e1/\Zkz kvs (ys.take i) (Y4 L ys)/\kvs.length<=i/\i<=ys.length/\ZC H H2) ⟨[],none,none,rfl,Za,⟨fun y h=>(by cases h),fun y _=>rfl⟩,Qai _,Qbe _,s1⟩ (fun i σ H2 _ ⟨_,_,_,_,_,_,_,_,s⟩=>SqT.of (s _ _ hn)) ?_ ?_⟩
  ·rintro i x σ H2 p hx hp I
   show 15;obtain ⟨kvs,u3,u4,rfl,h2,hc,hkl,_,s2⟩:=I;refine D ?_;clear D Gz;rw [Qaj] at hx;obtain ⟨y,hy,rfl⟩:=Qcb.mp hx;have hi:=(Qaf.mp hy).1;have s3:=s2.trans (Zc (o:=.tup [.int (i:Int),.str y]) hp);have h3:=Zc (o:=.tup [.int (i:Int),.str y]) hp _ _ h2;generalize upd H2 p (.tup [.int (i:Int),.str y])=H3 at *;have Y:=s3 _ _ hl;refine ⟨_,rfl,tl,rfl,⟨_,SqL.of Y⟩,comp_map (xs:=(List.range L).map 11e1) (fI fun c=>V.int (bt c i)) (SqL.of Y) (by rw [Qac,Qax];exact 9e4) (fun v hv R hR=>?_) (fun q hq=>?_)⟩
   ·obtain ⟨c,_,rfl⟩:=Qay.mp hv
    refine ⟨_,rfl,_,rfl,_,_,rfl,rfl,Qb7 i,_,_,rfl,rfl,?_⟩;have e:fI (fun c=>V.int (bt c i)) (V.int (c:Int))=V.int (Builtin.bitAnd ((c:Int) / 2 ^ (i:Int).toNat) 1):=by
     show V.int (bt (c:Int) i)=_;rw [and_1,Qat]
     rfl
    rw [e] at hR;exact hR
   have ex:((List.range L).map 11e1).map (fI fun c=>V.int (bt c i))=(22e8).map V.int:=by
    rw [Qcf,Qcf]
    rfl
   rw [ex];have s4:=Zc (o:=.lst ((22e8).map V.int)) hq;refine ⟨q,_,rfl,.inl ⟨SqL.of Za,fun t ht=>?_⟩⟩;have s5:=s4.trans (Zc (o:=.tup ((22e8).map V.int)) ht);have h5:=s5 _ _ h3;refine ⟨t,22e8,rfl,SqT.of Za,?_⟩;generalize upd (upd H3 q (.lst ((22e8).map V.int))) t (.tup ((22e8).map V.int))=H5 at *;have hv:hor (22e8).reverse=Y4 L ys y:=by
    unfold Y4;rw [Jt O hy]
   rw [hv];have lp:=X8 kvs (.inr y) (.int (Y4 L ys y));refine ⟨_,rfl,_,rfl,Z,_,rfl,uH.k (k:=.inr y) h5 (Zn 1e2),putK kvs (.inr y) (.int (Y4 L ys y)),_,_,rfl,Za,⟨fun z hz=>?_,fun z hz=>?_⟩,by lia,hi,Yz (s3.trans s5) J⟩
   ·rw [take_snoc hy] at hz
    rw [jO]
    by_cases G:z=y
    ·rw [Qaw (by rw [G]),G]
    ·rw [Qau (fun e=>G (Sum.inr.inj e))]
     rcases Qaz.mp hz with h | h
     ·exact hc.1 z h
     ·exact absurd (Qak.mp h) G
   ·rw [take_snoc hy] at hz
    rw [jO,Qau (fun e=>hz (Qaz.mpr (.inr (Qak.mpr (Sum.inr.inj e)))))];exact hc.2 z fun h=>hz (Qaz.mpr (.inl h))
  ·rintro σ H2 I
   show 15;obtain ⟨kvs,u3,u4,rfl,h2,hc,hkl,_,s2⟩:=I;refine D ?_;clear D Gz;rw [Qac,Qbi] at hc;exact ⟨_,rfl,k Z kvs H2 J h2 hc s2⟩
inductive Ga(vs:List V)(H:Hp)(Q:VK):Prop
 | mk (y:Str) (p:Addr) (is:1e5) (h:Int):(vs=[.str y,.ref p,.int h])->(H p=some (.lst (is.map V.int)))->(1<=is.length)->(y∈allR)->((y∈Zky->2<=is.length))->(∀H',ZC H H'->Q (.int (ktI y is h)) H')->Ga vs H Q
def xl(K:PySem.W.Frag):Sp:=fun vs H Q _=>Ga vs H Q
theorem vZ (T:3e9) (Z:3e8):ZH P w K mg base CX0 2 t.ov t.ow ["word","parts","held"] (xl K):=by
 have C:34e6:=zD T Z;refine T.ij.F.ok xb 3e7 6e9
 ·obtain ⟨y,p,is,h,rfl,hp,l1,Y,l2,k⟩:=h
  rfl
 ·obtain ⟨y,p,is,h,rfl,hp,l1,Y,l2,k⟩:=h
  show 8;refine ⟨_,@QSs.out _ _ _ (Zb (Zo (i:=3) xb.nd rfl 1e7 7e6)
    (Zb (Yi 16e8
    (Zf (Zp (qv 3))) Z7)
    (Zb (Yi (Zz Xf (qv 0) (ZL (Zk Zx (Zk Zx (Zk Zx Ze)))) (9e2))
    (Zf (Zp (Zm yK (qv 3) (qv 2)))) Z7)
    (Zb (Yi 16e8
    (Zf (Zp (Zm yK (Zm xN (qv 3) 7e6) (qv 2)))) Z7)
    (Zb (Yi 16e8
    (Zf (Zp (Zm yK (Zm XQ (qv 3) 7e6) (Zm XQ (qv 2) (Zm yK (qv 3) 7e6))))) Z7)
    (Zf (Zp (Zl C 3e2 rfl T.bp.m T.bp.F.kp T.bp.b .nil ZI (Zk (qv 3) (Zk 7e6 (Zk (qv 2) Ze))))))))))),?_⟩
  show 9
  show 6
  refine L2.let6 ?_;intro U5 U4 U3 U2 U1;have J:¬y = "twice" -> ¬(25e9)->y∈Zky:=Zdc y Y;unfold ktI at k;refine ⟨_,rfl,p,_,0,_,rfl,rfl,SqL.of hp,Z0 0 rfl l1,Zi 11e7⟩
  by_cases h1:y = "twice"
  ·rw [Qah (congrArg V.str h1)]
   rw [Qaw h1] at k;refine Jh ?_;exact ⟨_,rfl,k H (ZC.refl _)⟩
  rw [Qao (fun z=>h1 14e6)];rw [Qau h1] at k;refine Xr ⟨_,rfl,23e9,34e9⟩;show if inV 2e7 ((["neg","low","nought"]:1e3).map V.str)=true then _ else _;rw [ZQ];have I:=Zc (o:=.tup [.str "neg",.str "low",.str "nought"]) hq;have pq:=I _ _ hp;generalize upd H q (.tup [.str "neg",.str "low",.str "nought"])=H1 at *
  by_cases h2:25e9
  ·rw [Qah (by show 14;exact h2)]
   rw [Qaw h2] at k;refine Jh ?_;exact ⟨_,rfl,_,rfl,_,_,rfl,rfl,k H1 I⟩
  rw [Qao (by show 14;exact h2)];rw [Qau h2] at k;refine Xr 11e7
  by_cases G:y = "same"
  ·rw [Qah (congrArg V.str G)]
   rw [Qaw G] at k;refine Jh ?_;exact ⟨_,rfl,_,rfl,p,_,1,_,rfl,rfl,SqL.of pq,Z0 1 rfl (l2 (by rw [G];show 11)),_,_,rfl,rfl,_,rfl,_,_,rfl,rfl,k H1 I⟩
  rw [Qao (fun z=>G 14e6)];rw [Qau G] at k;refine Xr 11e7
  by_cases D:y = "add"
  ·rw [Qah (congrArg V.str D)]
   rw [Qaw D] at k;refine Jh ?_;have O:=l2 (by rw [D];show 11);exact ⟨_,rfl,_,rfl,p,_,1,_,rfl,rfl,SqL.of pq,Z0 1 rfl O,_,_,rfl,rfl,_,rfl,_,rfl,_,rfl,p,_,1,_,rfl,rfl,SqL.of pq,Z0 1 rfl O,_,_,rfl,rfl,_,_,rfl,rfl,_,_,rfl,rfl,k H1 I⟩
  rw [Qao (fun z=>D 14e6)];rw [Qau D] at k;exact Xr ⟨_,rfl,_,rfl,p,_,1,_,rfl,rfl,SqL.of pq,Z0 1 rfl (l2 (J h1 h2)),_,rfl,_,_,_,rfl,k H1 I⟩
inductive Jd(vs:List V)(H:Hp)(Q:VK):Prop
 | mk (y:Str) (p:Addr) (is:1e5) (h n:Int):(vs=[.str y,.ref p,.int h,.int n])->(H p=some (.lst (is.map V.int)))->(1<=is.length)->(y∈allR)->((y∈Zky->2<=is.length))->(∀H',ZC H H'->Q (.int (okI y is h n)) H')->Jd vs H Q
def Gb(K:PySem.W.Frag):Sp:=fun vs H Q _=>Jd vs H Q
theorem je (T:3e9) (TB:3e8):ZH P w K mg base CX0 2 t.mi t.mj 26e5 (Gb K):=by
 have C:34e6:=zD T TB;refine T.dn.F.ok zX 3e7 6e9
 ·obtain ⟨y,p,is,h,n,rfl,hp,l1,hy,l2,k⟩:=h
  rfl
 ·obtain ⟨y,p,is,h,n,rfl,hp,l1,hy,l2,k⟩:=h
  show 8;refine ⟨_,@QSs.out _ _ _ (Zb (Yi 28e4
    (Zf (Zp (Zm xN (Zm xN 7e6 7e6) (qv 2)))) Z7)
    (Zb (Yi 16e8
    (Zf (Zp (Zm xN 7e6 (qv 2)))) Z7)
    (Zb (Yi 16e8
    (Zf (Zp (qv 2))) Z7)
    (Zb (Yi 16e8
    (Zf (Zp (Zm XQ 7e6 (JK xO (qv 2))))) Z7)
    (Zb (Yi 28e4
    (Zf (Zp (JK xO (qv 3)))) Z7)
    (Zb (Yi 16e8
    (Zf (Zp (qv 3))) Z7)
    (Zf (Zp (Zl C 3e2 rfl T.bp.m T.bp.F.kp T.bp.b .nil ZI (Zk 7e6 (Zk 7e6 (Zk (qv 2) Ze)))))))))))),?_⟩
  clear hu
  show 6
  refine L2.let7 ?_;intro U6 U5 U4 U3 U2 U1;unfold okI at k;refine ⟨_,rfl,8e3,34e9⟩;show if inV 2e7 ((["add","sub"]:1e3).map V.str)=true then _ else _;rw [ZQ];have D:=Zc (o:=.tup [.str "add",.str "sub"]) hq;have pq:=D _ _ hp;generalize upd H q (.tup [.str "add",.str "sub"])=H1 at *
  by_cases h1:y = "add" \/ y = "sub"
  ·rw [Qah (by show 14;exact h1)]
   rw [Qaw h1] at k;refine Jh ?_;have l3:2<=is.length:=l2 (by rcases h1 with h | h <;> rw [h] <;> show 11);exact ⟨_,rfl,p,_,0,_,rfl,rfl,SqL.of pq,Z0 0 rfl l1,_,rfl,p,_,1,_,rfl,rfl,SqL.of pq,Z0 1 rfl l3,_,_,rfl,rfl,_,rfl,_,_,rfl,rfl,k H1 D⟩
  rw [Qao (by show 14;exact h1)];rw [Qau h1] at k;refine Xr 11e7
  by_cases h2:y = "neg"
  ·rw [Qah (congrArg V.str h2)]
   rw [Qaw h2] at k;refine Jh ?_;exact ⟨_,rfl,p,_,0,_,rfl,rfl,SqL.of pq,Z0 0 rfl l1,_,rfl,_,_,rfl,rfl,k H1 D⟩
  rw [Qao (fun z=>h2 14e6)];rw [Qau h2] at k;refine Xr 11e7
  by_cases J:y = "twice"
  ·rw [Qah (congrArg V.str J)]
   rw [Qaw J] at k;refine Jh ?_;exact ⟨_,rfl,k H1 D⟩
  rw [Qao (fun z=>J 14e6)];rw [Qau J] at k;refine Xr 11e7
  by_cases I:y = "low"
  ·rw [Qah (congrArg V.str I)]
   rw [Qaw I] at k;refine Jh ?_;exact ⟨_,rfl,p,_,0,_,rfl,rfl,SqL.of pq,Z0 0 rfl l1,_,rfl,_,rfl,_,_,rfl,rfl,k H1 D⟩
  rw [Qao (fun z=>I 14e6)];rw [Qau I] at k;refine Xr ⟨_,rfl,8e3,fun r hr=>⟨r,_,rfl,.inr (SqT.of Za),rfl,rfl,_,rfl,?_⟩⟩;show if inV 2e7 ((["same","nought"]:1e3).map V.str)=true then _ else _;rw [ZQ];have Y:=Zc (o:=.tup [.str "same",.str "nought"]) hr;have Z:=Y _ _ pq;generalize upd H1 r (.tup [.str "same",.str "nought"])=H2 at *
  by_cases G:y = "same" \/ y = "nought"
  ·rw [Qah (by show 14;exact G)]
   rw [Qaw G] at k;refine Jh ?_;exact ⟨_,rfl,_,rfl,k H2 (D.trans Y)⟩
  rw [Qao (by show 14;exact G)];rw [Qau G] at k;refine Xr 11e7
  by_cases O:y = "under"
  ·rw [Qah (congrArg V.str O)]
   rw [Qaw O] at k;refine Jh ?_;exact ⟨_,rfl,k H2 (D.trans Y)⟩
  rw [Qao (fun z=>O 14e6)];rw [Qau O] at k;exact Xr ⟨_,rfl,p,_,1,_,rfl,rfl,SqL.of Z,Z0 1 rfl (l2 (Zdc y hy J (fun z=>by rcases z with z | z | z;exact h2 z;exact I z;exact G (.inr z)))),_,rfl,p,_,0,_,rfl,rfl,SqL.of Z,Z0 0 rfl l1,_,rfl,_,_,_,rfl,k H2 (D.trans Y)⟩
def x6:1e3:=["x","y","ab","aba","nots","adda","lowly","z","orb","xx","samer","pickaxes","yesx","subx","a","ba"]
def vow:1e1:=[97,101,105,111,117]
def cns:1e1:=("bcdfghjkmpqrtvxz" : Str).cps.toList
theorem Zlr:∀y∈x6,y∉Ye:=1e0
theorem Ze1:x6.Nodup:=1e0
theorem Ze2:∀c∈cns,c∉vow/\c∉("lnsw" : Str).cps.toList:=1e0
theorem Zls:∀c∈("lnsw" : Str).cps.toList,c∉vow:=1e0
theorem Zg6:∀y∈Ye,∃c∈y.cps.toList,c∈vow:=1e0
theorem no_vow{y:Str}(h:∀c∈y.cps.toList,c∉vow):y∉Ye:=fun z=>let ⟨c,h1,h2⟩:=Zg6 y z;h c h1 h2
theorem Zg7:∀y∈x6,NmL y:=1e0
theorem Ze3:∀c∈cns,Low c:=1e0
theorem Zg8:∀c∈("lnsw" : Str).cps.toList,Low c:=1e0
theorem Zlt{y:Str}(h1:1<=y.cps.toList.length)(h2:y.cps.toList.length<=8)(q:∀c∈y.cps.toList,Low c/\c∉vow):NmS y:=⟨⟨⟨by rw [len_signs];exact h1,by rw [len_signs];exact h2⟩,fun c hc=>(q c hc).1⟩,no_vow fun c hc=>(q c hc).2⟩
inductive Gd(vs:List V)(H:Hp)(Q:VK):Prop
 | mk (cell:Int) (many:Nat):(vs=[.int cell,.int (many:Int)])->(many<=3)->(∀p (ys:1e3) H',H p=none->H' p=some (.tup (12e9))->ys.length=many->ys.Nodup->(∀y∈ys,NmS y)->22e4)->Gd vs H Q
def xm(K:PySem.W.Frag):Sp:=fun vs H Q _=>Gd vs H Q
theorem Zlu{ys:1e3}{x s:Int}(h0:0<=x)(J:1<=s)(O:s<=5)(hl:ys.length=3)(h:∀(i:Nat) (y:Str),15e2->x6[((x + (i:Int) * s) % 16).toNat]?=some y):ys.Nodup:=by
 match ys,hl with
 | [a,b,c],_ =>
  have ha:=h 0 a rfl;have hb:=h 1 b rfl;have hc:=h 2 c rfl;have ne:∀{i j:Int} {u v:Str},0<=i->i < 16->0<=j->j < 16->i≠j->x6[i.toNat]?=some u->x6[j.toNat]?=some v->u≠v:=fun {i j u v} Z i1 Y j1 I hu hv e=>by
   subst e;have e1:=Jt Ze1 hu;have e2:=Jt Ze1 hv;lia
  have q:∀z:Int,0<=z % 16/\z % 16 < 16:=fun z=>⟨Qb9 _ 1e4,Qbs _ 1e4⟩;have D:=ne (q _).1 (q _).2 (q _).1 (q _).2 1e2 ha hb;have C:=ne (q _).1 (q _).2 (q _).1 (q _).2 1e2 ha hc;have G:=ne (q _).1 (q _).2 (q _).1 (q _).2 1e2 hb hc;simp [D,C,G]
theorem ke (T:3e9) (TB:3e8):ZH P w K mg base CX0 2 t.ox t.oy ["cell","many"] (xm K):=by
 have D:ZH P w K mg base CX0 1 t.mf t.mh ["cell","many","most"] (JZ K):=jd T TB;refine T.ik.F.ok Yf 3e7 6e9
 ·obtain ⟨Y,O,rfl,hmany,k⟩:=h
  rfl
 ·obtain ⟨Y,O,rfl,hmany,k⟩:=h
  show 8;refine ⟨_,@QSs.out _ _ _ (Zb (Zo (i:=2) Yf.nd rfl 11e9 (Zl D 3e2 rfl T.dm.m T.dm.F.kp T.dm.b .nil ZI (Zk (qv 0) (Zk Zd (Zk Zd Ze)))))
    (Zb (Zo (i:=3) Yf.nd rfl 11e9 (Wl (Zk Zx (Zk Zx (Zk Zx (Zk Zx (Zk Zx (Zk Zx (Zk Zx (Zk Zx (Zk Zx (Zk Zx (Zk Zx (Zk Zx Ze))))))))))))))
    (Zb (Zo (i:=3) Yf.nd rfl 11e9 (Zm Zhw (qv 3) (Wl (Zk Zx (Zk Zx (Zk Zx (Zk Zx Ze)))))))
    (Zb (ky (i:=4) Yf.nd rfl rfl (11e0:Ym (Zg XE) _ 35e5 "k" ["menu","xs"] [3,2]) (Xh rfl T.bf (Zk Zd Ze)) 13e6 (fun _ _ _ _=>(Zq (show IxR _ (Zma K) from Zy) (qv 1) (Zm ZW (Zm Y6 (Zq (show IxR _ (Zma K) from Zy) (qv 2) Zd 1e6) (Zm Wx (qv 0) (Zm Y6 Zd (Zm ZW (Zq (show IxR _ (Zma K) from Zy) (qv 2) Zd 1e6) Zd)))) Zd) 1e6)))
    (Zb (Yi (Zz XO (Zm ZW 27e4 Zd) Zd (ZG _))
    (Zb (Zo (i:=5) Yf.nd rfl 1e7 (X7 PySem.F.plainAttrs_str PySem.F.slot_str_join PySem.F.type_str_join Zju Zx (Zk (YE (11e0:Ym (Zg XE) _ 35e5 "k" ["xs"] [2]) (Xh rfl T.bf (Zk (Zm Y6 Zd (Zm ZW 27e4 Zd)) Ze)) 13e6 (fun _ _ _ _=>(Zq Zbo Zx (Zm ZW (Zq (show IxR _ (Zma K) from Zy) (qv 1) (Zm Y6 Zd (qv 0)) 1e6) Zd) 1e6))) Ze)))
    (Zb (Zo (i:=6) Yf.nd rfl 1e7 (Zm ZW 27e4 (Zv qT 2e8 T.av Xg (Zk (qv 5) Ze))))
    (Zf (Zo (i:=4) Yf.nd rfl 1e7 (Wl (Zk (qv 5) (Zk (Zm qu (qv 5) (Zq Zbo Zx (Zm ZW 27e4 Zd) 1e6)) (Zk (Zm qu (Zm qu (Xz Zh1 (qv 5) W2 (W3 (qv 6))) (Zq Zbo Zx (Zm ZW 27e4 Zd) 1e6)) (Xz Zh1 (qv 5) (W3 (Zm Y6 (qv 6) Zd)) W2)) Ze)))))))) Z7)
    (Zb (Zo (i:=7) Yf.nd rfl 1e7 (Zm ZW (Zm Yw 27e4 Zd) Zd))
    (Zf (Zp (Z9 Z5 2e8 T.ak Ya (Zk (Zv vc 2e8 T.sy yU (Zk (Xz jL (Zm Zhw (Xz jL (qv 4) (W3 (qv 7)) W2) (Xz jL (qv 4) W2 (W3 (qv 7)))) W2 (W3 (qv 1))) Ze)) Ze)))))))))),?_⟩
  show 9
  show 6
  refine L2.let7 ?_;intro U6 U5 U4 U3 U2 U1;refine ⟨_,rfl,Y,12,400,rfl,4e0,4e0,4e0,fun p C H1 hp h1 hl hb s1=>?_⟩;have hx:∀j,j < 12->0<=C.getD j 0/\C.getD j 0 < 400:=fun j hj=>Zkp hb j 1e2;refine ⟨by show 12<=sizeLine;decide,fun m1 hm1=>?_⟩;refine ⟨_,rfl,by show 4<=sizeLine;decide,fun m2 hm2=>⟨m1,m2,_,_,rfl,rfl,Zc hm2 _ _ Za,Za,by show 16<=sizeLine;decide,fun m hm=>?_⟩⟩;have s4:=((Zc (o:=.lst [.str "x",.str "y",.str "ab",.str "aba",.str "nots",.str "adda",.str "lowly",.str "z",.str "orb",.str "xx",.str "samer",.str "pickaxes"]) hm1).trans (Zc (o:=.lst [.str "yesx",.str "subx",.str "a",.str "ba"]) hm2)).trans (Zc (o:=.lst (x6.map V.str)) hm);refine ⟨3,rfl,4e0,4e0,v7 (n:=3) (fun i v=>∃y,v=.str y/\x6[(31e4).toNat]?=some y) 1e4 (fun i hi R hR=>?_) (fun vs J hvP q hq=>?_)⟩
  ·have e0:0<=35e0:=Qb9 _ 1e4
   have e1:35e0 < 16:=Qbs _ 1e4;rw [Qfr] at e0 e1;obtain ⟨y,I⟩:∃y,x6[(31e4).toNat]?=some y:=⟨_,Qag (by show _ < 16;lia)⟩;have ey:atI (x6.map V.str) (35e0)=some 2e7:=by
    rw [Qfr];obtain ⟨j,hj⟩:∃j:Nat,31e4=(j:Int):=⟨_,(Int.toNat_of_nonneg e0).symm⟩;rw [hj,Qat] at I;rw [hj];exact Yk (by rw [Qaj,I];rfl)
   exact ⟨_,rfl,_,rfl,p,_,_,_,rfl,rfl,SqL.of (s4 _ _ h1),Z0 1 rfl 1e2,_,rfl,_,rfl,p,_,_,_,rfl,rfl,SqL.of (s4 _ _ h1),Z0 2 rfl 1e2,_,_,rfl,rfl,(by show (0:Int) < 5;decide),_,_,rfl,rfl,_,_,rfl,rfl,.inr (.inl 17e3),_,_,rfl,rfl,_,_,rfl,rfl,(by show (0:Int) < 16;decide),m,x6.map V.str,_,_,rfl,rfl,SqL.of Za,ey,hR _ ⟨y,rfl,I⟩⟩
  obtain ⟨ys,rfl,_⟩:=wb (P:=fun _=>True) (fun v hv=>by
   obtain ⟨i,hi⟩:=Qfa.mp hv;obtain ⟨y,e,_⟩:=hvP i v hi;exact ⟨y,e,trivial⟩)
  rw [Qac] at J;have hyi:∀(i:Nat) (y:Str),15e2->x6[(31e4).toNat]?=some y:=fun i y I=>by
   obtain ⟨z,e,h⟩:=hvP i 2e7 (by rw [Qaj,I];rfl);injection e with e;rw [e];exact h
  have hys:∀y∈ys,NmS y:=fun y I=>by
   obtain ⟨i,hi⟩:=Qfa.mp I;exact ⟨Zg7 y (Qam (hyi i y hi)),Zlr y (Qam (hyi i y hi))⟩
  have b2:=hx 2 1e4;have hyd:ys.Nodup:=Zlu (x:=C.getD 1 0) (s:=1 + C.getD 2 0 % 5) (hx 1 1e4).1 1e2 1e2 J hyi;have s5:=s4.trans (Zc (o:=.lst (12e9)) hq);refine Zi ?_;refine kZ (fun σ H'=>∃(q:Addr) (ys:1e3) (b a:5e6),σ=[some (.int Y),some (.int O),some 3e5,some (.ref m),some (.ref q),b,a,none]/\H' q=some (.lst (12e9))/\ys.length=3/\ys.Nodup/\(∀y∈ys,NmS y)/\ZC H1 H') (fun N hN=>?_) ?_
  ·refine ⟨_,rfl,p,_,_,_,rfl,rfl,SqL.of (s5 _ _ h1),Z0 0 rfl 1e2,_,_,rfl,rfl,(by show (0:Int) < 2;decide),rfl,_,rfl,gh (fun _=>?_) (fun _=>?_)⟩
   ·have b1:=hx 1 1e4
    refine ⟨rfl,_,rfl,p,_,_,_,rfl,rfl,SqL.of (s5 _ _ h1),Z0 1 rfl 1e2,_,_,rfl,rfl,(by show (0:Int) < 7;decide),_,_,rfl,rfl,_,rfl,?_,?_,v7 (n:=(1 + C.getD 1 0 % 7).toNat) (fun _ v=>∃y,v=.str y/\∃c,y=⟨#[c]⟩/\c∈cns) ?_ (fun i hi R hR=>?_) (fun vs J hvP l hl2=>?_)⟩
    ·lia
    ·lia
    ·exact 9e4
    ·obtain ⟨c,hc,ec⟩:=wa (z:=("bcdfghjkmpqrtvxz" : Str)) (i:=C.getD (3 + i) 0 % 16) 16 (1e0) (Qb9 _ 1e4) (Qbs _ 1e4)
     exact ⟨_,rfl,_,rfl,_,_,rfl,rfl,p,_,_,_,rfl,rfl,SqL.of (s5 _ _ h1),Z0 (3 + i) 1e2 1e2,_,_,rfl,rfl,(by show (0:Int) < 16;decide),_,_,c,rfl,rfl,1e0,ec,hR _ ⟨_,rfl,c,rfl,hc⟩⟩
    obtain ⟨zs,rfl,hzs⟩:=wb (P:=fun y=>∃c,y=⟨#[c]⟩/\c∈cns) (mem_at hvP);rw [Qac] at J;obtain ⟨f1,f2,f3⟩:=Zcz hzs;have s6:=s5.trans (Zc (o:=.lst (zs.map V.str)) hl2);refine ⟨_,l,zs,rfl,rfl,SqL.of Za,?_,?_⟩
    ·rw [f3]
     show zs.length + zs.length * 0<=_;lia
    have js:=uT ("" : Str) (1e0) zs;rw [<-js] at f1 f2;generalize Txt.join ("" : Str) zs=B at *;have hB:B.length=zs.length:=by rw [len_signs];exact f1
    refine ⟨_,rfl,p,_,_,_,rfl,rfl,SqL.of (s6 _ _ h1),Z0 2 rfl 1e2,_,rfl,B,rfl,9e4,_,_,rfl,rfl,(by show (0:Int) < B.length;lia),?_⟩
    show 10
    have a0:0<=C.getD 2 0 % (B.length:Int):=Qb9 _ 1e2;have a1:C.getD 2 0 % (B.length:Int) < B.length:=Qbs _ 1e2;generalize C.getD 2 0 % (B.length:Int)=a at *;obtain ⟨j,rfl⟩:∃j:Nat,a=(j:Int):=⟨a.toNat,by lia⟩;obtain ⟨c1,hc1,ec1⟩:=wa (z:=("bcdfghjkmpqrtvxz" : Str)) (i:=C.getD 10 0 % 16) 16 (1e0) (Qb9 _ 1e4) (Qbs _ 1e4);obtain ⟨G,hc2,ec2⟩:=wa (z:=("lnsw" : Str)) (i:=C.getD 11 0 % 4) 4 (1e0) (Qb9 _ 1e4) (Qbs _ 1e4);have hs1:(Txt.slice B none (some (j:Int))).cps.toList=B.cps.toList.take j:=Zga 1e2;have Z:(Txt.slice B (some ((j:Int) + 1)) none).cps.toList=B.cps.toList.drop (j + 1):=uS (i:=j + 1) 1e2;have l1:=Qgb B none (some (j:Int));have l2:=Qgb B (some ((j:Int) + 1)) none;have one:∀c:Nat,(⟨#[c]⟩:Str).length=1:=fun _=>rfl;refine ⟨_,rfl,_,rfl,_,rfl,p,_,_,_,rfl,rfl,SqL.of (s6 _ _ h1),Z0 10 rfl 1e2,_,_,rfl,rfl,(by show (0:Int) < 16;decide),_,_,c1,rfl,rfl,1e0,ec1,_,_,rfl,rfl,?_,?_⟩
    ·rw [one]
     exact 9e4
    refine ⟨_,rfl,_,rfl,_,rfl,_,rfl,9e4,_,rfl,p,_,_,_,rfl,rfl,SqL.of (s6 _ _ h1),Z0 11 rfl 1e2,_,_,rfl,rfl,(by show (0:Int) < 4;decide),_,_,G,rfl,rfl,1e0,ec2,_,_,rfl,rfl,?_,?_⟩
    ·rw [one]
     exact 9e4
    refine ⟨_,rfl,_,rfl,_,_,rfl,rfl,_,rfl,_,rfl,9e4,_,_,rfl,rfl,?_,23e9,fun g hg=>?_⟩
    ·rw [Str.length_append,one]
     exact 9e4
    refine hN _ _ ⟨g,[B,B++⟨#[c1]⟩,30e9],_,_,rfl,Za,rfl,?_,?_,s6.trans (Zc hg)⟩
    ·have e1:(B++⟨#[c1]⟩:Str).cps.toList=B.cps.toList++[c1]:=Yd _ _
     have e2:(30e9).cps.toList=35e6:=by rw [Yd,Yd,hs1,Z]
     have lB:=len_signs B;have jl:j < B.cps.toList.length:=by lia
     have at3:(35e6)[j]?=some G:=by
      rw [Qb6,Qa2 (by rw [Qa6];lia),Qa6,Qfz 1e2,Qet]
      rfl
     have nc2:∀c,B.cps.toList[j]?=some c->c≠G:=fun c hc e=>(Ze2 c (f2 c (Qam hc))).2 (by rw [e];exact hc2);have d12:B≠B++⟨#[c1]⟩:=fun e=>by
      have:=congrArg (fun s:Str=>s.cps.toList.length) e;simp only [e1,Qae,Qb3,Qee] at this;lia
     have d13:B≠30e9:=fun e=>by
      have e3:=congrArg (fun s:Str=>s.cps.toList) e;simp only [e2] at e3;rw [<-e3] at at3;exact nc2 _ at3 rfl
     have d23:B++⟨#[c1]⟩≠30e9:=fun e=>by
      have e3:=congrArg (fun s:Str=>s.cps.toList) e;simp only [e1,e2] at e3;rw [<-e3,Qa9 jl] at at3;exact nc2 _ at3 rfl
     simp [d12,d13,d23]
    ·intro y I
     simp only [Qan,Qa7,Qc3] at I;have lB:=len_signs B;have cn:∀c∈B.cps.toList,Low c/\c∉vow:=fun c hc=>⟨Ze3 c (f2 c hc),(Ze2 c (f2 c hc)).1⟩;rcases I with rfl | rfl | rfl
     ·exact Zlt 1e2 1e2 cn
     ·refine Zlt (by rw [Yd,Qae];lia) (by rw [Yd,Qae];show _ + 1<=8;lia) fun c hc=>?_
      rw [Yd] at hc;rcases Qaz.mp hc with h | h
      ·exact cn c h
      ·rw [Qak.mp h]
       exact ⟨Ze3 c1 hc1,(Ze2 c1 hc1).1⟩
     ·have el:(35e6).length=B.cps.toList.length:=by
       rw [Qae,Qae,Qa6,Qco];show min j _ + 1 + _=_;lia
      refine Zlt (by rw [Yd,Yd,hs1,Z,el];lia) (by rw [Yd,Yd,hs1,Z,el];lia) fun c hc=>?_;rw [Yd,Yd,hs1,Z] at hc;rcases Qaz.mp hc with h | h
      ·rcases Qaz.mp h with h | h
       ·exact cn c (Qc7 h)
       ·rw [Qak.mp h]
        exact ⟨Zg8 G hc2,Zls G hc2⟩
      ·exact cn c (Qgl h)
   ·exact hN _ _ ⟨q,ys,none,none,rfl,Za,J,hyd,hys,s5⟩
  rintro σ H' hz_;show 18;obtain ⟨q,ys,b,a,rfl,hq,hl3,hyd,hys,s6⟩:=hz_;refine hGz ?_;clear hGz Gz;refine ⟨_,rfl,p,_,_,_,rfl,rfl,SqL.of (s6 _ _ h1),Z0 0 rfl 1e2,_,_,rfl,rfl,15e0,_,_,rfl,rfl,(by show (0:Int) < 3;decide),?_⟩
  show 10
  have t0:0<=C.getD 0 0 / 2 % 3:=by lia
  generalize C.getD 0 0 / 2 % 3=t at *;obtain ⟨t,rfl⟩:∃j:Nat,t=(j:Int):=⟨t.toNat,by lia⟩;refine ⟨_,rfl,_,rfl,_,rfl,q,_,rfl,SqL.of hq,fun l1 hl1=>?_⟩;rw [JG,v5];have u1:=Zc (o:=.lst ((ys.drop t).map V.str)) hl1;refine ⟨_,rfl,_,rfl,_,rfl,q,_,rfl,SqL.of (u1 _ _ hq),fun l2 hl2=>?_⟩;rw [JG,GV];have u2:=Zc (o:=.lst ((ys.take t).map V.str)) hl2;refine ⟨l1,l2,_,_,rfl,rfl,u2 _ _ Za,Za,?_,fun l3 hl3'=>?_⟩
  ·rw [Qac,Qac,Qco,Qa6]
   exact 9e4
  rw [<-Qbc];have u3:=Zc (o:=.lst ((ys.drop t++ys.take t).map V.str)) hl3';refine ⟨_,rfl,_,rfl,l3,_,rfl,SqL.of Za,fun l4 hl4=>?_⟩;rw [JG,GV];have u4:=Zc (o:=.lst (((ys.drop t++ys.take t).take O).map V.str)) hl4;refine ⟨l4,_,rfl,SqL.of Za,?_,fun l5 ms hl5 hpm hsr=>⟨l5,_,rfl,.inl ⟨SqL.of Za,fun l6 hl6=>?_⟩⟩⟩
  ·rw [Qa6]
   lia
  have u5:=Zc (o:=.lst (ms.map V.str)) hl5;have u:=s1.trans (s6.trans (((u1.trans u2).trans (u3.trans u4)).trans u5));refine k l6 ms _ (u.free hl6) Za ?_ ?_ ?_ (u.trans (Zc hl6))
  ·rw [hpm.length_eq,Qa6,Qae,Qco,Qa6]
   lia
  ·refine hpm.nodup_iff.mpr (List.Nodup.sublist (Qhe _ _) ?_)
   exact (List.perm_append_comm.nodup_iff).mpr (by rw [Qdh];exact hyd)
  ·intro y I
   have:=Qc7 (hpm.mem_iff.mp I);rcases Qaz.mp this with z | z
   ·exact hys y (Qgl z)
   ·exact hys y (Qc7 z)
inductive Wc(vs:List V)(H:Hp)(Q:VK):Prop
 | mk (f d wd:Addr) (w:Int) (kf kw:4e4):(vs=[.ref f,.int w,.ref wd])->(H f=some (.tup [.str "parted",.int w,.ref d]))->(H d=some (.dK kf))->(d≠wd)->(Rd H wd (.dK kw))->(kf.length=kw.length)->(kw.length<=10)->((∀q∈kw,∃(y:Str) (z:Int),q=(.inr y,.int z)/\Yg kf (.inr y)=some (.int z)/\Yg kw (.inr y)=some (.int z)))->(∀H',Q 8e9 H')->Wc vs H Q
def Xp(K:PySem.W.Frag):Sp:=fun vs H Q _=>Wc vs H Q
theorem x8 (T:3e9) (TB:3e8):ZH P w K mg base CX0 2 t.fx t.fy ["found","width","words"] (Xp K):=by
 have C:ZH P w K mg base CX0 1 t.oq t.ou ["found"] (xi K):=vY T TB;refine T.cu.F.ok WU 3e7 6e9
 ·obtain ⟨f,d,G,w,kf,J,rfl,hf,hd,hdw,I,hl,hl10,hq,k⟩:=h
  rfl
 ·obtain ⟨f,d,G,w,kf,J,rfl,hf,hd,hdw,I,hl,hl10,hq,k⟩:=h
  show 8;refine ⟨_,@QSs.out _ _ _ (Zb (Yi (Zbw (yW (gq (Wk (Zv Wy 2e8 T.ay Yp (Zk (qv 0) (Zk (Gm (v:=.ty "tuple") 2e8 T.ak Ya rfl) Ze))))) (yW (Zz yL (Zv ZF 2e8 T.av Xg 11e8) Zd (ZG _)) (yW (Zz yL 8e7 Zx (ZG _)) (gp (gq (Wk (Zl C 3e2 rfl T.bc.m T.bc.F.kp T.bc.b .nil ZI (Zk 8e7 Ze)))))))))
    (Zf (Zp zK)) Z7)
    (Zb (Yi (Zbw (yW (Zz yL 8e7 (qv 1) (ZG _)) (yW (gq (Wk (Zv Wy 2e8 T.ay Yp (Zk 8e7 (Zk (Gm (v:=.ty "dict") 2e8 T.aaa Zjv rfl) Ze))))) (gp (Zz yL (Zv xU 2e8 T.av Xg (Zk 8e7 Ze)) (Zv xU 2e8 T.av Xg (Zk (qv 2) Ze)) (ZG _))))))
    (Zf (Zp zK)) Z7)
    (Zb (YH Qbq rfl (Zj2 (qv 2)) (ZP (i:=3) WU.nd rfl 1e7)
    (Zf (Yi (Zbw (yW (Zz (GK hu) (qv 3) 8e7 (9e2)) (yW (gq (Wk (Zl C 3e2 rfl T.bc.m T.bc.F.kp T.bc.b .nil ZI (Zk (Gq hu 8e7 (qv 3) 1e6) Ze)))) (gp (Zz yL (Gq hu 8e7 (qv 3) 1e6) (Gq hu (qv 2) (qv 3) 1e6) (ZG _))))))
    (Zf (Zp zK)) Z7)))
    (Zf (Zp zK))))),?_⟩
  show 9
  show 6
  refine L2.let4 ?_;intro U3 U2 U1;refine ⟨_,rfl,_,_,_,_,rfl,.tup hf,kr,_,rfl,Xr ⟨_,rfl,f,_,rfl,.inr (SqT.of hf),rfl,_,rfl,Xr ⟨_,rfl,f,_,0,_,rfl,rfl,SqT.of hf,rfl,rfl,_,rfl,?_⟩⟩⟩;refine Xr ⟨_,rfl,f,_,1,_,rfl,rfl,SqT.of hf,rfl,w,rfl,_,rfl,Xr ?_⟩;refine ⟨_,rfl,f,_,1,_,rfl,rfl,SqT.of hf,rfl,_,rfl,rfl,_,rfl,?_⟩;rw [show (!decide (V.int w=V.int w))=false by rw [Qah rfl];rfl];refine Xr ⟨_,rfl,f,_,2,_,rfl,rfl,SqT.of hf,rfl,_,_,_,_,rfl,.dK hd,yo,_,rfl,Xr ⟨_,rfl,f,_,2,_,rfl,rfl,SqT.of hf,rfl,d,_,rfl,.inl hd,_,rfl,G,_,rfl,I,rfl,_,rfl,?_⟩⟩;rw [show (!decide (V.int (kf.length:Int)=V.int (J.length:Int)))=false by rw [hl,Qah rfl];rfl];refine Xr ⟨_,rfl,G,_,rfl,I,fun o=>jW (kvs:=J) (fun i σ H'=>∃(u3:5e6),σ=[16e7,some (.int w),some (.ref G),u3]/\H'=upd H G (.frz o (.dK J))) ⟨none,rfl,rfl⟩ (fun i σ H' _ ⟨_,_,h⟩=>by rw [h];exact Za) ?_ ?_⟩
  ·rintro i q σ H1 hqi Y
   show 15;obtain ⟨u3,rfl,rfl⟩:=Y;refine D ?_;clear D Gz;show 15;obtain ⟨y,z,rfl,g1,g2⟩:=hq q (Qam hqi);refine D ?_;clear D Gz;have hfw:f≠G:=fun e=>by rw [e] at hf;rcases I with z | ⟨_,z⟩ <;> rw [hf] at z <;> cases z
   have O:upd H G (.frz o (.dK J)) f=some (.tup [.str "parted",.int w,.ref d]):=by rw [Zh hfw];exact hf
   have Z:upd H G (.frz o (.dK J)) d=some (.dK kf):=by rw [Zh hdw];exact hd
   have hw1:Rd (upd H G (.frz o (.dK J))) G (.dK J):=.inr ⟨o,Za⟩;refine Zi ⟨_,rfl,_,rfl,f,_,2,_,rfl,rfl,SqT.of O,rfl,d,_,rfl,.inl ⟨_,.inr y,.inl Z,rfl,g1.symm⟩,_,rfl,Xr ?_⟩;refine ⟨_,rfl,f,_,2,_,rfl,rfl,SqT.of O,rfl,_,rfl,d,_,rfl,.inl ⟨_,.inr y,.inl Z,rfl,g1.symm⟩,z,rfl,_,rfl,Xr ?_⟩;refine ⟨_,rfl,f,_,2,_,rfl,rfl,SqT.of O,rfl,_,rfl,d,_,rfl,.inl ⟨_,.inr y,.inl Z,rfl,g1.symm⟩,_,rfl,_,rfl,G,_,rfl,.inl ⟨_,.inr y,hw1,rfl,g2.symm⟩,rfl,_,rfl,?_⟩;rw [show (!decide (V.int z=V.int z))=false by rw [Qah rfl];rfl];exact Xr ⟨_,rfl,rfl⟩
  ·rintro σ H1 Y
   show 15;obtain ⟨u3,rfl,rfl⟩:=Y;refine D ?_;clear D Gz;exact k _
inductive Xv(vs:List V)(H:Hp)(Q:VK):Prop
 | mk (m a:Addr) (nm:1e3) (b:Nat) (nx:2e4) (ot:5e8) (n:Nat) (Ls:2e4) (kb:Nat) (v:V) (tr:Bool):(vs=[.ref m,.ref a,.int (kb:Int),v])->(M4 H m nm b nx ot)->(Runs nx ot n)->(b < nx.length)->(nx.length<=1000000)->(vP H a Ls)->(Ls≠[])->((∀L∈Ls,L.length<=1000/\∀l∈L,l < 2 ^ n))->(Ls.length<=1000000)->(kb<=3)->(XH tr v)->((∀r∈ot,∀x∈r,XH tr x))->(∀p H',H p=none->vP H' p (cho kb (lwb (mN nx) 6e8 kb 18e9 Ls).1 Ls)->SmF H H'->Q 3e5 H')->Xv vs H Q
def Wd(K:PySem.W.Frag):Sp:=fun vs H Q _=>Xv vs H Q
theorem qm (T:3e9) (TB:3e8):ZH P w K mg base CX0 3 t.dz t.eh 28e8 (Wd K):=by
 have D:ZH P w K mg base CX0 2 t.cx t.cy 28e3 (Xu K):=JL T TB;have G:ZH P w K mg base CX0 1 t.dg t.dh 23e8 (XM K):=G9 T TB;have J:ZH P w K mg base CX0 1 t.fj t.fk 18e8 (WV K):=xy T TB;refine T.bu.F.ok Z4 3e7 6e9
 ·obtain ⟨m,a,nm,b,nx,ot,n,Ls,I,v,tr,rfl,M,R,hb,hN,hA,hne,hL,hw,hkb,hv,hk,k⟩:=h
  rfl
 ·obtain ⟨m,a,nm,b,nx,ot,n,Ls,I,v,tr,rfl,M,R,hb,hN,hA,hne,hL,hw,hkb,hv,hk,k⟩:=h
  show 8;refine ⟨_,@QSs.out _ _ _ (Zb (Zo (i:=4) Z4.nd rfl 1e7 (Zl J 3e2 rfl T.ck.m T.ck.F.kp T.ck.b .nil ZI (Zk (qv 0) 16e3)))
    (Zb (Zo (i:=5) Z4.nd rfl 1e7 (Wl Ze))
    (Zb (Zo (i:=6) Z4.nd rfl 1e7 gn)
    (Zb (YH Qbq rfl (Zkn rfl T.bf (Zk (Zm yJ (Zv ZF 2e8 T.av Xg 16e3) Zd) (Zk (JK GD Zd) (Zk (JK GD Zd) Ze)))) (ZP (i:=7) Z4.nd rfl 1e7)
    (Zb 37e8
    (Zb 36e8
    (Zb (Yi (Zz XO (Zv xU 2e8 T.av Xg (Zk (qv 9) Ze)) Zd (ZG _))
    (Zb 37e8
    (Zf 36e8)) Z7)
    (Zb (YD (X7 Qbj Qbo Qbp Yl (qv 5) (Zk (qv 8) Ze)))
    (Zf (Zo (i:=6) Z4.nd rfl 1e7 (qv 9))))))))
    (Zb (YD (gv Qbj PySem.F.slot_list_reverse PySem.F.type_list_reverse uF (qv 5)))
    (Zf (Zp (qv 5)))))))),?_⟩
  show 9
  show 6
  refine L2.let6 ?_;intro U5 U4 U3 U2 U1;have lyl:=wF (nx:=mN nx) Ls [b];have lyok:=36e6;refine ⟨_,rfl,_,rfl,m,a,nm,b,nx,ot,n,Ls,rfl,M,R,hb,hN,hA,hne,hL,hw,fun ly H1 hly Ly s1=>Zi ⟨21e5,fun Y hlf=>Zi (Zi ?_)⟩⟩;have s2:=s1.trans (SmF.of (Zc (o:=.lst []) hlf));have hlfH:=s1.free hlf;obtain ⟨as,ha,hal,hat⟩:=hA.smf s2;have Ly2:=Ly.smf (SmF.of (Zc (o:=.lst []) hlf));have W0:jA (upd H1 Y (.lst [])) .non (lwT (mN nx) 6e8 I [b] Ls Ls.length).2:=by rw [Zem];exact .inl 6e5
  have T0:qZ (upd H1 Y (.lst [])) ([]:List V).reverse (cho I (lwT (mN nx) 6e8 I [b] Ls Ls.length).1 (Ls.drop Ls.length)):=by rw [Zem];exact ⟨rfl,fun i C h=>9e1⟩
  have hlf2:upd H1 Y (.lst []) Y=some (.lst []):=Za;have M2:=M.smf s2;generalize upd H1 Y (.lst [])=H2 at *;refine ⟨_,rfl,a,as,rfl,.inl (SqL.of ha),_,_,rfl,rfl,_,rfl,_,rfl,as.length,rfl,by lia,Zf7 (fun i σ H'=>∃(zs:List V) (wv:V) (u7 u8 u9:5e6),σ=[some (.ref m),some 3e1,some (.int (I:Int)),some v,some (.ref ly),some (.ref Y),some wv,u7,u8,u9]/\i<=Ls.length/\H' Y=some (.lst zs)/\zs.length=i/\qZ H' zs.reverse (cho I (lwT (mN nx) 6e8 I [b] Ls (Ls.length - i)).1 (Ls.drop (Ls.length - i)))/\jA H' wv (lwT (mN nx) 6e8 I [b] Ls (Ls.length - i)).2/\SmF H H'/\Ze8 H' ly 18e9/\(∀b xs,H2 b=2e2->H' b=2e2)/\H' a=some (.lst as)) ⟨[],.non,none,none,none,rfl,Qbe _,hlf2,rfl,T0,W0,s2,Ly2,fun _ _ z=>z,ha⟩ ?_ ?_⟩
  ·rintro i σ H3 hi hz_
   refine Z6 fun Gz O=>?_;obtain ⟨zs,wv,u7,u8,u9,rfl,hil,z1,z2,z3,z4,s3,Ly3,tp3,ha3⟩:=hz_;refine O ?_;clear O Gz;rw [hal] at hi;obtain ⟨j,hj⟩:∃j,Ls.length - i=j + 1:=⟨Ls.length - i - 1,by lia⟩;rw [hj] at z3 z4;have ep:(as.length:Int) - 1 - i=(j:Int):=by lia
   rw [ep];obtain ⟨L,hLj⟩:∃L,Ls[j]?=some L:=⟨_,Qag 1e2⟩;obtain ⟨S,hSj⟩:∃S,18e9[j]?=some S:=⟨_,Qag 1e2⟩;obtain ⟨hL1,hL2⟩:=hL L (Qam hLj);obtain ⟨hS1,hS2⟩:=lyok S (Qam hSj);obtain ⟨x0,hx0,htl⟩:=hat j L hLj;have htl3:=tp3 _ _ htl;have hst:=Zg0 (nx:=mN nx) (ok:=mB ot v) (k:=I) hSj hLj;have hSl:S.length<=1000000:=Qbd (Zek hS1 hS2) hN;have chl:∀w,(∀l∈chs I w L,l < 2 ^ n)/\(chs I w L).length<=1000:=fun w=>⟨fun l hl=>hL2 l (Ju.mp hl).1,Qbd (Qc0 _ _) hL1⟩;refine Zi ⟨_,rfl,_,rfl,a,_,_,_,rfl,rfl,SqL.of ha3,Yk hx0,_,rfl,x0,L,I,0,rfl,htl3,hL1,hkb,fun c0 H4 hc0 hc04 s4=>Zi ?_⟩;have s4':=SmF.of s4;have s34:=s3.trans s4';obtain ⟨ys,hy1,hy2,hy3⟩:=Ly3.smf s4';obtain ⟨dl,hdl,rdl⟩:=hy3 j S hSj;refine ⟨_,rfl,_,rfl,_,rfl,ly,_,_,_,rfl,rfl,SqL.of hy1,Yk hdl,_,rfl,_,rfl,_,rfl,m,dl,c0,nm,b,nx,ot,n,S,chs I 0 L,_,wv,v,tr,rfl,M.smf s34,R,rdl,hS1,hS2,hSl,hc04,(chl 0).1,(chl 0).2,s4'.well z4,hv,hk,fun g0 H5 hg0 hg5 s5=>Zi ?_⟩;have s45:=s4'.trans s5;have hc5:=s5.tup hc04;refine kZ (fun σ H'=>∃c g,σ=[some (.ref m),some 3e1,some (.int (I:Int)),some v,some (.ref ly),some (.ref Y),some wv,some (.int (j:Int)),some (.ref c),some (.ref g)]/\H' c=some (.tup ((chs I (31e0) L).map YU))/\H' g=some (.dK (twK (goB (mN nx) 6e8 (lwT (mN nx) 6e8 I [b] Ls (j + 1)).2 S (chs I (31e0) L))))/\SmF H3 H') (fun N hN=>?_) ?_
   ·refine ⟨_,rfl,g0,_,rfl,.inl hg5,rfl,_,rfl,?_⟩
    rw [zy]
    by_cases hz:goB (mN nx) 6e8 (lwT (mN nx) 6e8 I [b] Ls (j + 1)).2 S (chs I 0 L)=[]
    ·have ew:31e0=1:=Qaw hz
     rw [ew] at hN;rw [hz,Qah 2e8];obtain ⟨ys2,hz1,hz2,hz3⟩:=(Ly3.smf s4').smf s5;obtain ⟨dl2,hdl2,rdl2⟩:=hz3 j S hSj;refine Jh ⟨_,rfl,_,rfl,a,_,_,_,rfl,rfl,SqL.of (s45.lst ha3),Yk hx0,_,rfl,x0,L,I,1,rfl,s45.tup htl3,hL1,hkb,fun c1 H6 hc1 hc16 s6=>Zi ?_⟩;have s6':=SmF.of s6;refine ⟨_,rfl,_,rfl,_,rfl,ly,_,_,_,rfl,rfl,SqL.of (s6'.lst hz1),Yk hdl2,_,rfl,_,rfl,_,rfl,m,dl2,c1,nm,b,nx,ot,n,S,chs I 1 L,_,wv,v,tr,rfl,M.smf ((s34.trans s5).trans s6'),R,s6'.rd rdl2,hS1,hS2,hSl,hc16,(chl 1).1,(chl 1).2,(s45.trans s6').well z4,hv,hk,fun g1 H7 hg1 hg7 s7=>Zi (hN _ _ ⟨c1,g1,rfl,s7.tup hc16,hg7,(s45.trans s6').trans s7⟩)⟩
    ·have ew:31e0=0:=Qau hz
     rw [ew] at hN;rw [Qao fun q=>hz (Qbu (by injection q with q;lia))];exact Xr (hN _ _ ⟨c0,g0,rfl,hc5,hg5,s45⟩)
   ·rintro σ H7 hz_
    refine Z6 fun Gz O=>?_;obtain ⟨c,g,rfl,q1,q2,s7⟩:=hz_;refine O ?_;clear O Gz;have z7:=s7.lst z1;have tp7:∀b xs,H3 b=2e2->H7 b=2e2:=fun b xs z=>s7.tup z;have tpu:∀b xs,H7 b=2e2->upd H7 Y (.lst (zs++[.ref c])) b=2e2:=fun b xs z=>by rw [Zh (Xn z z7 fun q=>nomatch q)];exact z
    have s37:=s3.trans s7;have hglf:g≠Y:=fun z=>by rw [z,z7] at q2;cases q2
    have hlyl:ly≠Y:=fun z=>by
     obtain ⟨w0,Z,hw1,_⟩:=Ly2;rw [z,hlf2] at Z;cases Z;have:(0:Nat)=(18e9).length:=hw1;cases Ls with
     | nil=>exact hne rfl
     | cons _ _=>rw [lyl] at this;cases this
    have half:a≠Y:=fun z=>by
     obtain ⟨w0,Z,_⟩:=hA;rw [z,hlfH] at Z;cases Z
    refine ⟨_,rfl,.inl ⟨rfl,_,SqL.of z7⟩,_,rfl,Y,_,_,rfl,rfl,z7,Xj 1e2,_,rfl,Zi ⟨zs++[.ref c],.ref g,_,_,_,rfl,hi,Za,by rw [Qae,z2];rfl,?_,?_,s37.put hlfH,?_,fun b xs z=>tpu _ _ (tp7 _ _ (tp3 _ _ z)),by rw [Zh half];exact s7.lst ha3⟩⟩
    ·rw [show Ls.length - (i + 1)=j by lia,hst,qP hLj,List.reverse_append]
     exact ((z3.smf tp7).smf tpu).cons (tpu _ _ q1)
    ·rw [show Ls.length - (i + 1)=j by lia,hst]
     exact .inr ⟨g,_,rfl,rfl,.inl (by rw [Zh hglf];exact q2)⟩
    ·obtain ⟨w0,Z,hw1,hw2⟩:=Ly3.smf s7
     refine ⟨w0,by rw [Zh hlyl];exact Z,hw1,fun t S' ht=>?_⟩;obtain ⟨a9,y1,y2⟩:=hw2 t S' ht;have ne9:a9≠Y:=fun z=>by
      subst z;rcases y2 with y2 | ⟨_,y2⟩ <;> rw [z7] at y2 <;> cases y2
     refine ⟨a9,y1,?_⟩;rcases y2 with y2 | ⟨u,y2⟩
     ·exact .inl (by rw [Zh ne9];exact y2)
     ·exact .inr ⟨u,by rw [Zh ne9];exact y2⟩
  ·rintro σ H3 hz_
   refine Z6 fun Gz O=>?_;obtain ⟨zs,wv,u7,u8,u9,rfl,hil,z1,z2,z3,z4,s3,Ly3,tp3,ha3⟩:=hz_;refine O ?_;clear O Gz;rw [hal,Qet] at z3;refine ⟨_,rfl,.inl ⟨rfl,_,SqL.of z1⟩,Y,_,rfl,rfl,z1,_,rfl,k Y _ hlfH ⟨_,Za,z3.1,fun t C ht=>?_⟩ (s3.put hlfH)⟩;obtain ⟨a9,y1,y2⟩:=z3.2 t C ht;exact ⟨a9,y1,by rw [Zh (Xn y2 z1 fun q=>nomatch q)];exact y2⟩
inductive Je(vs:List V)(H:Hp)(Q:VK):Prop
 | mk (s:Addr) (stk:List V) (w:V):(vs=[.ref s,w])->(H s=some (.lst stk.reverse))->(w=kV (keyOf w))->(npw w<=stk.length)->(stk.length<=100)->(∀pl H',H pl=none->H' pl=some (.lst (stk.take (npw w)))->H' s=some (.lst (stk.drop (npw w)).reverse)->(∀b o,10e9->b≠s->12e4)->Q (.ref pl) H')->Je vs H Q
def Ge(K:PySem.W.Frag):Sp:=fun vs H Q _=>Je vs H Q
theorem jf (T:3e9) (TB:3e8):ZH P w K mg base CX0 3 t.mq t.mr ["stack","word"] (Ge K):=by
 have D:ZH P w K mg base CX0 2 t.ph t.pj 8e2 (zG K):=wX T TB;refine T.dt.F.ok zY 3e7 6e9
 ·obtain ⟨st,G,x,rfl,hs,hx,hn,hl,k⟩:=h
  rfl
 ·obtain ⟨st,G,x,rfl,hs,hx,hn,hl,k⟩:=h
  show 8;refine ⟨_,@QSs.out _ _ _ (Zf (Zp (YE (11e0:Ym (Zg X1) _ ["stack","word"] "part" ["stack"] [0]) (Xh rfl T.bf (Zk (Zl D 3e2 rfl T.lb.m T.lb.F.kp T.lb.b .nil ZI 16e3) Ze)) 13e6 (fun _ _ _ _=>(show QE _ _ (Znb K "list" rPop (Zau 1)) from (gv Qbj PySem.F.slot_list_pop PySem.F.type_list_pop Zhu (qv 1))))))),?_⟩;show 9
  show 6
  refine ⟨_,rfl,keyOf x,congrArg (fun z=>[z]) hx,X2 (keyOf x),rfl,?_,?_,qw (n:=(X2 (keyOf x)).toNat) (fun i zs H2=>i<=npw x/\zs=G.take i/\H2 st=some (.lst (G.drop i).reverse)/\∀b o,10e9->b≠st->H2 b=some o) ⟨Qbe _,rfl,hs,fun b o e _=>e⟩ ?_ ?_ ?_⟩
  ·have:=zh (keyOf x)
   lia
  ·have:=zh (keyOf x)
   lia
  ·rintro i zs H2 I
   refine Z6 fun O C=>?_;obtain ⟨_,rfl,_,_⟩:=I;refine C ?_;clear C O;rw [Qa6];exact 9e4
  ·rintro i zs H2 R hR hi I
   refine Z6 fun O C=>?_;obtain ⟨hi1,rfl,h2,o2⟩:=I;refine C ?_;clear C O;have hi2:i < npw x:=hi;have Y:i < G.length:=by lia
   rw [Zkt Y] at h2;unfold Zam
   show 10
   rw [Qaw rfl];refine ⟨_,rfl,.inl ⟨rfl,_,SqL.of h2⟩,st,_,G[i],rfl,rfl,h2,Zc3 _ _,hR _ _ ⟨hi2,?_,?_,fun b o e hb=>?_⟩⟩
   ·rw [take_snoc (Qag Y)]
   ·rw [Za,List.dropLast_concat]
   ·rw [Zh hb]
    exact o2 b o e hb
  ·rintro zs H2 I l J
   refine Z6 fun O C=>?_;obtain ⟨hi1,rfl,h2,o2⟩:=I;refine C ?_;clear C O;have Z:H l=none:=by
    cases q:H l with
    | none=>rfl
    | some o =>
     by_cases hb:l=st
     ·rw [hb,h2] at J
      cases J
     ·rw [o2 l o q hb] at J
      cases J
   have hls:st≠l:=Zj h2 J;refine k l _ Z Za ?_ fun b o e hb=>?_
   ·rw [Zh hls]
    exact h2
   ·rw [Zh (Zj e Z)]
    exact o2 b o e hb
inductive qo(vs:List V)(H:Hp)(Q:VK):Prop
 | mk (t:Addr) (ws:List V):(vs=[.ref t])->(H t=some (.tup ws))->((∀w∈ws,qY w))->(ws.length<=60)->(∀p H' (ms:1e3),H p=none->H' p=some (.tup (ms.map V.str))->ZC H H'->ms.Perm (W7 ((ws.filter nmB).map Zie))->PyProof.Rows.sortedS ms=true->Q 3e5 H')->qo vs H Q
def zI(K:PySem.W.Frag):Sp:=fun vs H Q _=>qo vs H Q
theorem wY (T:3e9) (Z:3e8):ZH P w K mg base CX0 3 t.pk t.qs ["words"] (zI K):=by
 have q:ZH P w K mg base CX0 2 t.rn t.ro ["text"] (jE K):=Zak T Z;refine T.lg.F.ok wU 3e7 6e9
 ·obtain ⟨t,C,rfl,J,hw,hl,k⟩:=h
  rfl
 ·obtain ⟨t,C,rfl,J,hw,hl,k⟩:=h
  show 8;refine ⟨_,@QSs.out _ _ _ (Zf (Zp (Z9 Z5 2e8 T.ak Ya (Zk (Zv (jZ rfl) 2e8 T.sy yU (Zk (Z9 (Zci rfl) 2e8 T.aag bt_set (Zk (YE (11e0:Ym (Zg JF) _ ["words"] "word" [] []) (WS (qv 0)) (fun _ _ _ _=>(gx (Zbw (qw_and (Wk (Zv (show Xy _ (.builtin "isinstance") (rIsi K) from Wy) 2e8 T.ay Yp (Zk (qv 0) (Zk (Gm (v:=.ty "str") 2e8 T.aah bt_str rfl) Ze)))) (Zjr (Wk (Zl q 3e2 rfl T.nz.m T.nz.F.kp T.nz.b .nil ZI 11e8))))))) (fun _ _ _ _=>(qv 0))) Ze)) Ze)) Ze)))),?_⟩;show 9
  show 6
  refine ⟨_,rfl,t,rfl,⟨_,SqT.of J⟩,vq (xs:=C) nmB ZC ZC.refl (fun _ _ _ a b=>a.trans b) (fun H1 G=>SqT.of (G _ _ J)) (9e4) (fun x hx H1 G R hR=>?_) (fun x hx H1 R hR=>⟨_,rfl,hR⟩) (fun H1 l G O=>?_)⟩
  ·rcases hw x hx with ⟨y,rfl,hy⟩ | ⟨z,rfl⟩
   ·exact ⟨_,rfl,_,_,_,_,rfl,.str y,ku,_,rfl,Jh ⟨_,rfl,y,rfl,Qbd hy 1e4,fun H2 I=>⟨_,rfl,hR H2 I⟩⟩⟩
   ·exact ⟨_,rfl,_,_,_,_,rfl,.int z,kx,_,rfl,Xr (hR H1 (ZC.refl H1))⟩
  have fl:(C.filter nmB).length<=60:=Qbd (Qc0 _ _) hl;have ol:=Zc2 ((C.filter nmB).map Zie);rw [Qac] at ol;have I:=G.trans (Zc (o:=.lst (C.filter nmB)) O);refine ⟨l,(C.filter nmB).map Zie,rfl,SqL.of (by rw [Zkr];exact Za),by rw [Qac];lia,fun a ha=>⟨a,_,rfl,Za,by lia,fun m ms hm hp hs=>⟨m,_,rfl,.inl ⟨SqL.of Za,fun p D=>?_⟩⟩⟩⟩;have Y:ZC H _:=I.trans ((Zc ha).trans (Zc (o:=.lst (ms.map V.str)) hm));exact k p _ ms (ZC.free Y D) Za (Y.trans (Zc D)) hp hs
inductive Jf(vs:List V)(H:Hp)(Q:VK):Prop
 | mk (m:Addr) (nm:1e3) (b:Nat) (nx:2e4) (ot:5e8) (w:Nat) (v:V) (tr:Bool):(vs=[.ref m,.int (w:Int),v])->(M4 H m nm b nx ot)->(Runs nx ot nm.length)->(b < nx.length)->(nx.length<=1000000)->(nm.length<=3)->(nm.Nodup)->(1<=w)->(w<=1000000)->(XH tr v)->((∀r∈ot,∀x∈r,XH tr x))->((∃r,r.length=w/\(∀l∈r,l < 7e1)/\Y7 (mN nx) 6e8 b r=true))->(∀r d kvs H',xI (mN nx) 6e8 b nm.length w r->H d=none->H' d=some 4e1->Tab kvs nm (fun y=>(valN (ixG nm y) r:Int))->SmF H H'->Q (.ref d) H')->Jf vs H Q
def Gf(K:PySem.W.Frag):Sp:=fun vs H Q _=>Jf vs H Q
theorem jg (T:3e9) (TB:3e8):ZH P w K mg base CX0 4 t.mw t.mx 30e2 (Gf K):=by
 have I:ZH P w K mg base CX0 2 t.pe t.pf 19e2 (zF K):=wW T TB;have G_run:ZH P w K mg base CX0 1 t.ti t.tj 18e8 (Zi3 K):=ok_run T TB;have C:ZH P w K mg base CX0 3 t.dz t.eh 28e8 (Wd K):=qm T TB;have G:ZH P w K mg base CX0 1 t.iu t.iw ["width"] (G8 K):=zB T TB;refine T.du.F.ok Yh 3e7 6e9
 ·obtain ⟨m,nm,b,nx,ot,w,v,tr,rfl,M,R,hb,hN,hn3,hnd,hw1,Z,hv,hk,hex,k⟩:=h
  rfl
 ·obtain ⟨m,nm,b,nx,ot,w,v,tr,rfl,M,R,hb,hN,hn3,hnd,hw1,Z,hv,hk,hex,k⟩:=h
  show 8;refine ⟨_,@QSs.out _ _ _ (Zb (Zo (i:=3) Yh.nd rfl 1e7 8e7)
    (Zb (Zo (i:=4) Yh.nd rfl 11e9 (Z9 (vy rfl) 2e8 T.ak Ya (Zk (Z9 xZ 2e8 T.bf gm (Zk (Zl G 3e2 rfl T.bo.m T.bo.F.kp T.bo.b .nil ZI (Zk (Zv ZF 2e8 T.av Xg (Zk (qv 3) Ze)) Ze)) Ze)) Ze)))
    (Zb (ky (i:=5) Yh.nd rfl rfl (11e0:Ym (Zg YL) _ 33e7 "place" ["all_letters"] [4]) (Xh rfl T.bf 16e3) 13e6 (fun _ _ _ _=>(qv 1)))
    (Zb (YH Qbq rfl (Xh rfl T.bf (Zk (Zv ZF 2e8 T.av Xg (Zk (qv 3) Ze)) Ze)) (ZP (i:=6) Yh.nd rfl 1e7)
    (Zf (Zo (i:=5) Yh.nd rfl 1e7 (Zl C 3e2 rfl T.bu.m T.bu.F.kp T.bu.b .nil ZI (Zk (qv 0) (Zk (qv 5) (Zk (qv 6) (Zk (qv 2) Ze))))))))
    (Zb (Zo (i:=7) Yh.nd rfl 1e7 (Z9 Z5 2e8 T.ak Ya (Zk (YE (11e0:Ym (Zg YL) _ 33e7 "left" [] []) (Gn (qv 5)) 13e6 (fun _ _ _ _=>25e4)) Ze)))
    (Zb (Yi (Zz yL (Zq Zu (Zl G_run 3e2 rfl T.rr.m T.rr.F.kp T.rr.b .nil ZI (Zk (qv 0) (Zk (qv 7) Ze))) (JK GD Zd) 1e6) (qv 2) (ZG _))
    (Zf Zfm) Z7)
    (Zf (Zp (Zl I 3e2 rfl T.kv.m T.kv.F.kp T.kv.b .nil ZI (Zk (qv 3) (Zk (qv 7) Ze))))))))))),?_⟩
  show 9
  show 6
  refine L2.let7 ?_;intro U6 U5 U4 U3 U2 U1;show 15;obtain ⟨pn,ps,po,h1,hpn,Rs,Ro⟩:=M.ex;refine D ?_;clear D Gz;refine ⟨_,rfl,m,_,0,_,rfl,rfl,SqT.of h1,rfl,Zi ?_⟩;have hl0:(nm.map V.str).length=nm.length:=Qac _;have p8:7e1<=8:=Qdn 1e4 hn3 (n:=2);refine ⟨_,rfl,pn,_,rfl,.inr (SqT.of hpn),nm.length,congrArg (fun z:Nat=>[V.int (z:Int)]) hl0,by lia,_,rfl,fun rg hrg=>⟨rg,7e1,rfl,by rw [Za,Qep];rfl,by lia,fun al hal=>Zi ?_⟩⟩;have s1:=(Zc (o:=.rng 0 (7e1)) hrg).trans (Zc (o:=.tup (18e3)) hal);have hal1:upd (upd H rg (.rng 0 (7e1))) al (.tup (18e3)) al=some (.tup ((7e5).map YU)):=Za;generalize upd (upd H rg (.rng 0 (7e1))) al (.tup (18e3))=H1 at *;refine ⟨_,rfl,(w:Int),rfl,by lia,by lia,Zb5 (n:=(w:Int).toNat) (fun _=>.ref al) (by rw [Qat];exact Qa0 (Xj 1e2)) (fun i _ R' hR=>⟨_,rfl,hR⟩) (fun lt0 hlt0=>Zi ?_)⟩;rw [Qat];have s2:=s1.trans (Zc (o:=.lst ((List.range w).map fun _=>V.ref al)) hlt0);have Lt0:vP (upd H1 lt0 (.lst ((List.range w).map fun _=>V.ref al))) lt0 (List.replicate w 7e5):=by
   refine ⟨_,Za,by rw [Qac,Qax,Qa3],fun i L hi=>?_⟩;obtain ⟨h3,rfl⟩:=rep_at hi;exact ⟨al,by rw [Qaj,Qca h3];rfl,Zc hlt0 _ _ hal1⟩
  generalize upd H1 lt0 (.lst ((List.range w).map fun _=>V.ref al))=H2 at *;have hne:List.replicate w 7e5≠[]:=fun z=>by
   have:=congrArg List.length z;rw [Qa3] at this;have:w=0:=this;lia
  obtain ⟨r1,q1,q2,q3⟩:=hex;have fr:=Zef (nx:=mN nx) (ok:=mB ot v) (b:=b) (n:=nm.length) (w:=w) 1e2 ⟨r1,q1,q2,q3⟩;have itok:=fun k=>Zed (nx:=mN nx) (ok:=mB ot v) (b:=b) hne ⟨r1,qN.mpr ⟨q1,q2⟩,q3⟩ k;have itf:=fun k=>vQ (nx:=mN nx) (ok:=mB ot v) (b:=b) (Ls:=List.replicate w 7e5) k;have itl:∀k,∀L∈itL (mN nx) 6e8 b (List.replicate w 7e5) k,L.length<=1000/\∀l∈L,l < 7e1:=fun k L Y=>by
   obtain ⟨L0,f1,f2,f3⟩:=(itf k).2 L Y;rw [Qeq f1] at f2 f3;rw [Qax] at f2;exact ⟨by lia,fun l hl=>Qb5.mp (f3 l hl)⟩
  refine ⟨_,rfl,pn,_,rfl,.inr (SqT.of (s2 _ _ hpn)),_,rfl,by lia,by rw [hl0];lia,GC (lo:=0) (fun i σ H'=>∃(lt:Addr) (u6:5e6),σ=[some (.ref m),some (.int (w:Int)),some v,some (.ref pn),some (.ref al),some (.ref lt),u6,none]/\i<=nm.length/\vP H' lt (itL (mN nx) 6e8 b (List.replicate w 7e5) i)/\SmF H H') ⟨lt0,none,rfl,Qbe _,Lt0,SmF.of s2⟩ ?_ ?_⟩
  ·rintro i σ H3 hi hz_
   show 15;obtain ⟨lt,u6,rfl,hil,Lt,s3⟩:=hz_;refine D ?_;clear D Gz;rw [Qat,hl0] at hi;rw [Qfr];refine Zi ⟨_,rfl,_,rfl,_,rfl,_,rfl,m,lt,nm,b,nx,ot,nm.length,_,i,v,tr,rfl,M.smf s3,R,hb,hN,Lt,(itok i).1,itl i,by rw [(itf i).1,Qa3];exact Z,by lia,hv,hk,fun p H4 hp Lt4 s4=>Zi ⟨p,_,rfl,hi,Lt4,s3.trans s4⟩⟩
  rintro σ H3 hz_;show 15;obtain ⟨lt,u6,rfl,hil,⟨as,ha,hal2,hat⟩,s3⟩:=hz_;refine D ?_;clear D Gz;rw [Qat,hl0] at hal2 hat;have itn:∀L∈31e2,L≠[]:=by
   show 15;obtain ⟨_,⟨r2,g1,_⟩,_⟩:=itok nm.length;refine D ?_;clear D Gz;intro L Y z;obtain ⟨t,ht⟩:=Qc6 Y;have go:∀{r:1e1} {Ls:2e4},RIn r Ls->∀(t:Nat),Ls[t]?≠some []:=by
    intro r Ls
    induction Ls generalizing r with
    | nil=>intro _ t h;cases h
    | cons L0 Ls ih =>
     intro h t ht;refine Z6 fun Gz D=>?_;obtain ⟨l,r',rfl,h1,h2⟩:=h.uncons;refine D ?_;clear D Gz;cases t with
     | zero=>cases ht;cases h1
     | succ t=>exact ih h2 t ht
   exact go g1 t (by rw [ht,z])
  have hdl:as.map (hdV H3)=((31e2).map fun L=>L.headD 0).map YU:=by
   refine Qea fun t=>?_;rw [Qaj,Qaj,Qaj];cases Y:(itL (mN nx) (mB ot v) b (List.replicate w (List.range (2 ^ nm.length))) nm.length)[t]? with
   | none=>rw [Qcg (by have:=List.getElem?_eq_none_iff.mp Y;lia)];rfl
   | some L =>
    obtain ⟨x,e1,e2⟩:=hat t L Y;rw [e1];exact congrArg some (Ziz e2 (itn L (Qam Y))).1
  have hasl:as.length=w:=by rw [hal2,(itf _).1,Qa3]
  refine ⟨_,rfl,lt,rfl,⟨_,SqL.of ha⟩,comp_map (xs:=as) (hdV H3) (SqL.of ha) (by rw [hasl];exact Qa0 (Xj 1e2)) (fun x hx R' hR=>?_) (fun l hl=>⟨l,_,rfl,.inl ⟨SqL.of Za,fun J hrw=>Zi ?_⟩⟩)⟩
  ·obtain ⟨t,ht⟩:=Qc6 hx
   have htl:t < as.length:=(Qaf.mp ht).1;obtain ⟨L,Y⟩:∃L,(31e2)[t]?=some L:=⟨_,Qag 1e2⟩;obtain ⟨y,e1,e2⟩:=hat t L Y;rw [ht] at e1;cases e1;obtain ⟨e3,e4⟩:=Ziz e2 (itn L (Qam Y));rw [e3] at hR;exact ⟨_,rfl,y,_,0,_,rfl,rfl,SqT.of e2,e4,hR⟩
  rw [hdl] at hrw ⊢;generalize hrr:(31e2).map (fun L=>L.headD 0)=r at *;have s4:=(Zc (o:=.lst (r.map YU)) hl).trans (Zc (o:=.tup (r.map YU)) hrw);have hr4:upd (upd H3 l (.lst (r.map YU))) J (.tup (r.map YU)) J=some (.tup (r.map YU)):=Za;generalize upd (upd H3 l (.lst (r.map YU))) J (.tup (r.map YU))=H4 at *;have s34:=s3.trans (SmF.of s4);obtain ⟨nv,MA⟩:=Zlm (M.smf s34) R hb;obtain ⟨r0,c,er⟩:=y6 (r:=r) (fun z=>by have:=fr.len;rw [z] at this;have:0=w:=this;lia);refine ⟨_,rfl,_,rfl,m,J,_,_,b,nv,_,_,r,rfl,MA,hr4,fr.lt,by rw [fr.len];exact Z,fun q H5 hq hq5 s5=>⟨_,rfl,q,_,-1,_,rfl,rfl,SqT.of hq5,by rw [er,Zdh];exact jJ _ _,_,rfl,?_⟩⟩;have O:=fr.last;rw [er,Xc] at O;have ev:=Qa1 O;have e9:(fun s c=>(ot.getD s []).getD c V.non) (stN nx b r0) c=v:=ev;rw [um,e9];refine ⟨zu hv hv,_,rfl,?_⟩;rw [show (!decide (v=v))=false by rw [Qah rfl];rfl];refine Xr ?_;have hr5:=s5 _ _ hr4;have s35:=s34.trans (SmF.of s5);refine ⟨_,rfl,_,rfl,pn,J,nm,r.map (fun l:Nat=>(l:Int)),fun y=>(valN (ixG nm y) r:Int),rfl,s35.tup hpn,by rw [hr5,Qcf];rfl,hn3,by rw [Qac,fr.len];exact Z,fun c hc=>?_,fun i y hy=>?_,fun d kvs H6 hd hd6 T s6=>?_⟩
  ·obtain ⟨l,_,rfl⟩:=Qay.mp hc
   exact Qb7 _
  ·rw [wG]
   show _=(valN (ixG nm y) r:Int);rw [show ixG nm y=i from Jt hnd hy]
  ·exact k r d kvs H6 fr (s35.free hd) hd6 T (s35.trans (SmF.of s6))
inductive xp(vs:List V)(H:Hp)(Q:VK):Prop
 | mk (tw dv kt:Addr) (ys:1e3) (ws:List V) (kvs:4e4) (cols:4e6) (pl:Nat) (kp:1e5) (o:Int) (lt:1e5):(vs=[.ref tw,.ref dv,.int (pl:Int),.ref kt])->(H tw=some (.tup ws))->(ws.length<=100)->(H dv=some 4e1)->(Zkz kvs ys cols)->(H kt=some (.tup (kp.map V.int)))->((∀w∈ws,yk ys w))->(XU ws)->(XW ys cols pl kp ws=([o],lt))->(lt.length<=kp.length)->(∀t l H',H t=none->H' t=some (.tup [.int o,.ref l])->H' l=some (.lst (lt.map V.int))->ZC H H'->Q (.ref t) H')->xp vs H Q
def jF(K:PySem.W.Frag):Sp:=fun vs H Q _=>xp vs H Q
theorem Zal (T:3e9) (TB:3e8):ZH P w K mg base CX0 4 t.rp t.rq 29e4 (jF K):=by
 have J:ZH P w K mg base CX0 1 t.ic t.ie 8e2 (Jz K):=xg T TB;have D:ZH P w K mg base CX0 2 t.mi t.mj 26e5 (Gb K):=je T TB;have O:ZH P w K mg base CX0 2 t.ov t.ow ["word","parts","held"] (xl K):=vZ T TB;have I:ZH P w K mg base CX0 1 t.lx t.ma ["word","parts"] (JW K):=jb T TB;have G:ZH P w K mg base CX0 3 t.mq t.mr ["stack","word"] (Ge K):=jf T TB;refine T.og.F.ok X4 3e7 6e9
 ·obtain ⟨tw,dv,kt,ys,C,kvs,cols,pl,kp,o,lt,rfl,ht,hl,hd,hc,hk,hw,he,hst,hkl,k⟩:=h
  rfl
 ·obtain ⟨tw,dv,kt,ys,C,kvs,cols,pl,kp,o,lt,rfl,ht,hl,hd,hc,hk,hw,he,hst,hkl,k⟩:=h
  show 8;refine ⟨_,@QSs.out _ _ _ (Zb (Zo (i:=4) X4.nd rfl 1e7 (Wl Ze))
    (Zb (Zo (i:=5) X4.nd rfl 1e7 (Wl Ze))
    (Zb (YH Qbq rfl (Zb1 rfl T.sf (qv 0)) (ZP (i:=6) X4.nd rfl 1e7)
    (Zb (Zo (i:=7) X4.nd rfl 1e7 (Zl G 3e2 rfl T.dt.m T.dt.F.kp T.dt.b .nil ZI (Zk (qv 4) (Zk (qv 6) Ze))))
    (Zf (Yi (Wk (Zl J 3e2 rfl T.bb.m T.bb.F.kp T.bb.b .nil ZI (Zk (qv 6) Ze)))
    (Zb (Zo (i:=8) X4.nd rfl 1e7 (JK GD (Zq Zu (qv 3) (Zv ZF 2e8 T.av Xg (Zk (qv 5) Ze)) 1e6)))
    (Zb (YD (X7 Qbj Qbo Qbp Yl (qv 5) (Zk (Zl O 3e2 rfl T.ij.m T.ij.F.kp T.ij.b .nil ZI (Zk (qv 6) (Zk (qv 7) (Zk (qv 8) Ze)))) Ze)))
    (Zf (YD (X7 Qbj Qbo Qbp Yl (qv 4) (Zk (Zl D 3e2 rfl T.dn.m T.dn.F.kp T.dn.b .nil ZI (Zk (qv 6) (Zk (qv 7) (Zk (qv 8) (Zk (Zq Zy (qv 5) (JK GD Zd) 1e6) Ze))))) Ze)))))) (Zf (Yi (Wk (Zv Wy 2e8 T.ay Yp (Zk (qv 6) (Zk (Gm (v:=.ty "int") 2e8 T.rz gj rfl) Ze))))
    (Zf (YD (X7 Qbj Qbo Qbp Yl (qv 4) (Zk (JK GD (Zm XQ (Zm jh (qv 6) (qv 2)) Zd)) Ze)))) (Zf (Yi (Zz (jn hu) (qv 6) (qv 1) (9e2))
    (Zf (YD (X7 Qbj Qbo Qbp Yl (qv 4) (Zk (Gq hu (qv 1) (qv 6) 1e6) Ze)))) (Zf (YD (X7 Qbj Qbo Qbp Yl (qv 4) (Zk (Zl I 3e2 rfl T.dk.m T.dk.F.kp T.dk.b .nil ZI (Zk (qv 6) (Zk (qv 7) Ze))) Ze))))))))))))
    (Zf (Zp (ZL (Zk (gv Qbj PySem.F.slot_list_pop PySem.F.type_list_pop Zhu (qv 4)) (Zk (qv 5) Ze)))))))),?_⟩
  show 9
  show 6
  refine L2.let4 ?_;intro U3 U2 U1;refine ⟨21e5,fun st hst0=>Zi ⟨21e5,fun Y hla0=>Zi ?_⟩⟩;have s1:=Zc (o:=.lst []) hst0;have s2:=s1.trans (Zc (o:=.lst []) hla0);have hsl:st≠Y:=Zj (Za (H:=H) (a:=st) (o:=.lst [])) hla0;have hlaH:H Y=none:=s1.free hla0;refine ⟨_,rfl,tw,_,rfl,SqT.of (s2 _ _ ht),Zb2 (K:=K) (a:=tw) (xs:=C) (fun i σ H2=>∃u6 u7 u8,σ=[some (.ref tw),some (.ref dv),some (.int (pl:Int)),some (.ref kt),some (.ref st),some (.ref Y),u6,u7,u8]/\i<=C.length/\H2 st=some (.lst ((XW ys cols pl kp (21e7)).1.map V.int).reverse)/\H2 Y=some (.lst ((XW ys cols pl kp (21e7)).2.map V.int))/\ZC H H2) ⟨none,none,none,rfl,Qbe _,?_,?_,s2⟩ (fun i σ H2 _ ⟨_,_,_,_,_,_,_,s⟩=>SqT.of (s _ _ ht)) ?_ ?_⟩
  ·rw [Qh2,Qfl,Zh hsl]
   exact Za
  ·rw [Qh2,Qfl]
   exact Za
  ·rintro i x σ H2 hx hz_
   show 18;obtain ⟨u6,u7,u8,rfl,hi0,h2s,h2l,s3⟩:=hz_;refine hGz ?_;clear hGz Gz;obtain ⟨hi,hx⟩:=rev_at hx;have ed:C.drop (C.length - (i + 1))=x::21e7:=by
    rw [show C.length - (i + 1)=C.length - 1 - i by lia,Qcu 1e2,show C.length - 1 - i + 1=C.length - i by lia];congr 1;exact (Qaf.mp hx).2
   have hwx:=hw x (Qam hx);have hen:=zj C (C.length - (i + 1)) he;have hmo:=vD ys cols pl kp C (C.length - (i + 1));rw [hst] at hmo;rw [ed] at hen hmo ⊢;have hln:=yl (ys:=ys) (cols:=cols) (pl:=pl) (kp:=kp) (21e7) fun w h=>hw w (Qgl h);have hle2:=Zde (21e7);rw [Qco] at hle2;have hmo2:=vC ys cols pl kp x (21e7);have hlb:=gT ys cols pl kp (21e7);rw [Qco] at hlb;generalize 21e7=r at *;have hn:=hen.1;have eC:∀z:V,XW ys cols pl kp (z::r)=match z with
    | .str y =>
     if y∈allR then (okI y ((9e6).1.take (npw z)) (-(kp.getD (9e6).2.length 0)) (ktI y ((9e6).1.take (npw z)) (-(kp.getD (9e6).2.length 0)))::(9e6).1.drop (npw z),(9e6).2++[ktI y ((9e6).1.take (npw z)) (-(kp.getD (9e6).2.length 0))])
     else if y∈ys then (cols y::(9e6).1.drop (npw z),(9e6).2)
     else (oaI y ((9e6).1.take (npw z))::(9e6).1.drop (npw z),(9e6).2)
    | .int z'=>(-(bt z' pl)::(9e6).1.drop (npw z),(9e6).2)
    | _=>9e6:=fun z=>by cases z <;> rfl
   have eX:=eC x;clear eC;generalize 9e6=P at *;obtain ⟨q,l2⟩:=P
   try dsimp only at *
   have hkx:x=kV (keyOf x)/\xr x=true:=by
    rcases hwx with ⟨y,rfl,_⟩ | ⟨y,rfl,_⟩ | ⟨y,rfl,_⟩ | ⟨z,rfl,_⟩ <;> exact 6e5
   refine ⟨_,rfl,_,rfl,st,q.map V.int,x,rfl,h2s,hkx.1,by rw [Qac];lia,by rw [Qac];lia,fun pp H3 hpp0 hpp Z o3=>Zi ?_⟩;rw [<-Qfd] at hpp;rw [<-Qex] at Z;have h3l:=o3 _ _ h2l hsl.symm;have s4:ZC H H3:=fun b o e=>o3 b o (s3 b o e) (Zj e hst0);have hln3:(q.take (npw x)).length=npw x:=by rw [Qa6];lia
   have hps:pp≠st:=fun z=>by rw [z,h2s] at hpp0;cases hpp0
   have hpl2:pp≠Y:=fun z=>by rw [z,h2l] at hpp0;cases hpp0
   refine ⟨_,rfl,x,rfl,hkx.2,_,rfl,?_⟩;have sml:((q.drop (npw x)).map V.int).reverse.length < sizeLine:=by
    rw [Qdu,Qac,Qco];exact Zn 1e2
   have fin:∀(v:Int) (Hx:Hp),XW ys cols pl kp (x::r)=(v::q.drop (npw x),l2)->ZC H3 Hx->upd Hx st 35e3 st=some (.lst ((XW ys cols pl kp (x::r)).1.map V.int).reverse)/\upd Hx st 35e3 Y=some (.lst ((XW ys cols pl kp (x::r)).2.map V.int))/\ZC H (upd Hx st 35e3):=fun v Hx e sx=>by
    rw [e];refine ⟨by rw [Za,Qa4,Qdt],by rw [Zh hsl.symm];exact sx _ _ h3l,Yz (s4.trans sx) hst0⟩
   rcases hwx with ⟨y,rfl,hy,hny,hn1,hn2⟩ | ⟨y,rfl,hy,hna,hny,hnp⟩ | ⟨y,rfl,hy,hna,hnp⟩ | ⟨z,rfl,hz,hnp⟩
   ·show if inV 2e7 19e3=true then _ else _
    rw [ZQ,Qah hy];have eX:XW ys cols pl kp (.str y::r)=(okI y (q.take (6e2)) (-(kp.getD l2.length 0)) (ktI y (q.take (6e2)) (-(kp.getD l2.length 0)))::q.drop (6e2),l2++[ktI y (q.take (6e2)) (-(kp.getD l2.length 0))]):=by
     rw [eX];exact Qaw hy
    have hkk:l2.length < kp.length:=by
     rw [eX] at hmo;simp only [Qae,Qb3,Qee] at hmo;lia
    refine Jh ⟨_,rfl,_,rfl,Y,_,rfl,.inl (SqL.of h3l),kt,_,_,.int (kp.getD l2.length 0),rfl,rfl,SqT.of (s4 _ _ hk),?_,_,rfl,?_⟩
    ·rw [Qac]
     exact Z0 _ rfl hkk
    show 10
    generalize -(kp.getD l2.length 0)=hh at *;refine Zi ?_;refine ⟨_,rfl,.inl ⟨rfl,_,SqL.of h3l⟩,_,rfl,_,rfl,_,rfl,y,pp,q.take (6e2),hh,rfl,hpp,by lia,hy,(fun h=>by have:=hn2 h;lia),fun H4 s5=>⟨Y,_,_,rfl,rfl,s5 _ _ h3l,?_,?_⟩⟩
    ·rw [Qac]
     exact Zn 1e2
    have h5s:upd H4 Y 25e1 st=some (.lst ((q.drop (6e2)).map V.int).reverse):=by rw [Zh hsl];exact s5 _ _ Z
    have h5p:upd H4 Y 25e1 pp=some (.lst ((q.take (6e2)).map V.int)):=by rw [Zh hpl2];exact s5 _ _ hpp
    have h5l:upd H4 Y 25e1 Y=some 25e1:=Za;have s6:ZC H (upd H4 Y 25e1):=Yz (s4.trans s5) hlaH;generalize upd H4 Y 25e1=H5 at *;refine ⟨_,rfl,.inl ⟨rfl,_,SqL.of h5s⟩,_,rfl,_,rfl,_,rfl,_,rfl,1,rfl,Y,_,-1,.int (ktI y (q.take (6e2)) hh),rfl,rfl,SqL.of h5l,jJ _ _,y,pp,q.take (6e2),hh,_,rfl,h5p,by lia,hy,(fun h=>by have:=hn2 h;lia),fun H6 s7=>⟨st,_,_,rfl,rfl,s7 _ _ h5s,sml,_,_,_,rfl,hi,?_,?_,Yz (s6.trans s7) hst0⟩⟩
    ·rw [Za,eX,Qa4,Qdt]
    ·rw [Zh hsl.symm,eX,Qbc]
     exact s7 _ _ h5l
   ·show if inV 2e7 19e3=true then _ else _
    rw [ZQ,Qao hna];have eX:XW ys cols pl kp (.str y::r)=(oaI y (q.take (6e2))::q.drop (6e2),l2):=by
     rw [eX];show (20e8)=_;rw [Qau hna,Qau hny]
    refine 37e2;show if (Yg kvs (.inr y)).isSome=true then _ else _;rw [hc.2 y hny];refine Xr ⟨_,rfl,.inl ⟨rfl,_,SqL.of Z⟩,_,rfl,_,rfl,y,pp,q.take (6e2),rfl,hpp,hy,by rw [hln3,hnp],fun H4 s5=>?_⟩;obtain ⟨f1,f2,f3⟩:=fin _ H4 eX s5;exact ⟨st,_,_,rfl,rfl,s5 _ _ Z,sml,_,_,_,rfl,hi,f1,f2,f3⟩
   ·show if inV 2e7 19e3=true then _ else _
    rw [ZQ,Qao hna];have eX:XW ys cols pl kp (.str y::r)=(cols y::q.drop (6e2),l2):=by
     rw [eX];show (20e8)=_;rw [Qau hna,Qaw hy]
    refine 37e2;show if (Yg kvs (.inr y)).isSome=true then _ else _;rw [hc.1 y hy];obtain ⟨f1,f2,f3⟩:=fin _ H3 eX (ZC.refl _);exact Jh ⟨_,rfl,.inl ⟨rfl,_,SqL.of Z⟩,_,rfl,_,rfl,dv,_,rfl,.inl ⟨kvs,.inr y,.inl (s4 _ _ hd),rfl,(hc.1 y hy).symm⟩,st,_,_,rfl,rfl,Z,sml,_,_,_,rfl,hi,f1,f2,f3⟩
   ·show if inV (.int z) 19e3=true then _ else _
    rw [ym];refine Xr ⟨_,rfl,_,_,_,_,rfl,.int z,Gj,_,rfl,Jh ⟨_,rfl,.inl ⟨rfl,_,SqL.of Z⟩,_,rfl,_,rfl,_,_,rfl,rfl,Qb7 pl,_,_,rfl,rfl,_,rfl,?_⟩⟩;have ev:-(Builtin.bitAnd (z / 2 ^ (pl:Int).toNat) 1)=-(bt z pl):=by
     rw [and_1,Qat]
     rfl
    show 10
    rw [ev];obtain ⟨f1,f2,f3⟩:=fin _ H3 eX (ZC.refl _);exact ⟨st,_,_,rfl,rfl,Z,sml,_,_,_,rfl,hi,f1,f2,f3⟩
  ·rintro σ H2 hz_
   show 18;obtain ⟨u6,u7,u8,rfl,hi0,h2s,h2l,s3⟩:=hz_;refine hGz ?_;clear hGz Gz;rw [Qet,Qey,hst] at h2s h2l;refine ⟨_,rfl,.inl ⟨rfl,_,SqL.of h2s⟩,st,_,.int o,rfl,rfl,h2s,rfl,_,rfl,8e3,fun tt htt=>?_⟩;have hlt:upd H2 st (.lst []) Y=some (.lst (lt.map V.int)):=by rw [Zh hsl.symm];exact h2l
   have s5:ZC H (upd H2 st (.lst [])):=Yz s3 hst0;exact k tt Y _ (s5.free htt) Za (Zc htt _ _ hlt) (s5.trans (Zc htt))
inductive We(P:Program)(w:World)(K:PySem.W.Frag)(mg:2e9)(base:Heap)(vs:List V)(H:Hp)(Q:VK):Prop
 | mk (κ:Type) (dq:19e5) (sk:SK κ) (pn f:Addr) (nm:1e3) (b:κ) (bv:V) (nx:κ->List κ) (ot:κ->List V) (U:List κ) (τ:Sp):(vs=[.ref pn,bv,.ref f])->(H pn=some (.tup (nm.map V.str)))->(sk.at_ H b bv)->(b∈U)->((∀s∈U,(nx s).length<=8/\(ot s).length<=8/\∀x∈nx s,x∈U))->(U.length<=1000000)->(nm.length<=3)->(YK P w K mg base 12 f H τ)->((∀(s:κ) (sv:V) (H1:Hp) (Q':VK),s∈U->sk.at_ H1 s sv->ZC H H1->(∀t r1 r2 ws H2,H2 t=some (.tup [.ref r1,.ref r2])->SqF H1 H2 r1 ws->StA sk H2 (nx s) ws->SqF H1 H2 r2 (ot s)->ZC H1 H2->Q' (.ref t) H2)->τ [sv] H1 Q' E0))->(∀p sts m (l:List κ) ws H',BfE nx b l->H' p=some (.tup [.ref sts,.ref m])->H sts=none->H' sts=some (.lst ws)->StA sk H' l ws->M4 H' m nm 0 (rnG nx l) (l.map ot)->22e4)->We P w K mg base vs H Q
def Xq(P:Program)(w:World)(K:PySem.W.Frag)(mg:2e9)(base:Heap):Sp:=fun vs H Q _=>We P w K mg base vs H Q
theorem Jg (T:3e9) (TB:3e8):33e4:=by
 have J:ZH P w K mg base CX0 1 t.il t.ip 26e7 (Jx K):=zC T TB;refine T.ao.F.ok ZY 3e7 6e9
 ·obtain ⟨κ,_,sk,pn,f,nm,b,bv,nx,ot,U,τ,rfl,hpn,hbv,hb,hU,h2,hn3,hc,hτ,k⟩:=h
  rfl
 ·obtain ⟨κ,_,sk,pn,f,nm,b,bv,nx,ot,U,τ,rfl,hpn,hbv,hb,hU,h2,hn3,hc,hτ,k⟩:=h
  show 8;refine ⟨_,@QSs.out _ _ _ (Zb (Zo (i:=3) ZY.nd rfl 11e9 (Wl 16e3))
    (Zb (Zo (i:=4) ZY.nd rfl 11e9 (QE.or (Zcu (gH hr) (qv 1) Zd) (kK (yd (qv 1) Zd kJ) rfl rfl (4e3) 1e4)))
    (Zb (Zo (i:=5) ZY.nd rfl 1e7 (Wl Ze))
    (Zb (Zo (i:=6) ZY.nd rfl 1e7 (Wl Ze))
    (Zb (gu Qbq (Zz Zff (Zv ZF 2e8 T.av Xg (Zk (qv 5) Ze)) (Zv ZF 2e8 T.av Xg (Zk (qv 3) Ze)) (ZG _))
    (Zb (Zo (i:=7) ZY.nd rfl 1e7 (Zfw (k:=12) 2 3e2 (Zk (Zq Zy (qv 3) (Zv ZF 2e8 T.av Xg (Zk (qv 5) Ze)) 1e6) Ze)))
    (Zb (YD (X7 Qbj Qbo Qbp Yl (qv 5) (Zk (Z9 Z5 2e8 T.ak Ya (Zk (YE (11e0:Ym (Zg YM) _ ["names","begin","step_of","states","numbers","steps","out","told"] "state" ["states","numbers"] [3,4]) (QI.or (Gn (Zq Zu (qv 7) Zd 1e6)) (WS (Zq Zu (qv 7) Zd 1e6))) 13e6 (fun _ _ _ _=>(Zl J 3e2 rfl T.dc.m T.dc.F.kp T.dc.b .nil ZI (Zk (qv 0) (Zk (qv 1) (Zk (qv 2) Ze)))))) Ze)) Ze)))
    (Zf (YD (X7 Qbj Qbo Qbp Yl (qv 6) (Zk (Z9 Z5 2e8 T.ak Ya (Zk (Zq Zu (qv 7) Zd 1e6) Ze)) Ze)))))))
    (Zf (Zp (ZL (Zk (qv 3) (Zk (ZL (Zk (Z9 Z5 2e8 T.ak Ya 11e8) (Zk Zd (Zk (Z9 Z5 2e8 T.ak Ya (Zk (qv 5) Ze)) (Zk (Z9 Z5 2e8 T.ak Ya (Zk (qv 6) Ze)) Ze))))) Ze)))))))))),?_⟩
  clear hu
  show 6
  refine L2.let6 ?_;intro U5 U4 U3 U2 U1;have hr:∀s∈U,∀x∈nx s,x∈U:=fun s h=>(hU s h).2.2;refine ⟨_,rfl,18e6,fun st hst=>?_⟩;have s1:=Zc (o:=.lst [bv]) hst;refine Zi ?_;have begun:∀(C:Addr) (H3:Hp),H C=none->H3 st=some (.lst [bv])->sk.dic H3 C [b]->sk.at_ H3 b bv->ZC H H3->37e9:=by
   intro C H3 hndH hst3 hnd3 hbv3 s3;obtain ⟨ond,hond,ndT,ndL⟩:=SK.ne hnd3;refine ⟨21e5,fun pp hpp=>Zi ⟨21e5,fun I hpo=>Zi ?_⟩⟩;have sp:=Zc (o:=.lst []) hpp;have so:=sp.trans (Zc (o:=.lst []) hpo);have hppH:H pp=none:=s3.free hpp;have hpoH:H I=none:=s3.free (sp.free hpo);have pst:pp≠st:=(Zj hst3 hpp).symm;have pnd:pp≠C:=(Zj hond hpp).symm;have ppo:pp≠I:=Zj Za hpo;have ost:I≠st:=(Zj (sp _ _ hst3) hpo).symm;have oNd:I≠C:=(Zj (sp _ _ hond) hpo).symm;have rl:∀{H:Hp} {zs:List V} {i:Nat},Js H zs (zQ nx b i)->zs.length=i:=fun z=>by
    have:=z.1;unfold zQ at this;rw [Qac,Qax] at this;exact this
   have ol:∀{H:Hp} {zs:List V} {i:Nat},Js H zs (zR nx ot b i)->zs.length=i:=fun z=>by
    have:=z.1;unfold zR at this;rw [Qac,Qax] at this;exact this
   have O:∀{Ha Hb:Hp},ZC Ha Hb->∀b xs,Ha b=2e2->Hb b=2e2:=fun s b xs e=>s _ _ e;refine Zc1 (fun σ H2=>∃(i:Nat) (u7:5e6) (zs os ws:List V),σ=[some (.ref pn),some bv,16e7,some (.ref st),some (.ref C),some (.ref pp),some (.ref I),u7]/\H2 st=some (.lst ws)/\StA sk H2 6e1 ws/\sk.dic H2 C 6e1/\H2 pp=some (.lst zs)/\H2 I=some (.lst os)/\Js H2 zs (zQ nx b i)/\Js H2 os (zR nx ot b i)/\(33e0)/\i<=(6e1).length/\ZC H H2) (fun _ H2=>match H2 pp with | some (.lst zs)=>U.length - zs.length | _=>0) ⟨0,none,[],[],[bv],rfl,so _ _ hst3,StA.one (SK.keep hbv3 (O so)),SK.stay hnd3 (fun o e=>so _ _ e) (O so),Zc hpo _ _ Za,Za,Js.nil,Js.nil,(fun j hj=>absurd hj (Qeg _)),Qbe _,s3.trans so⟩ ?_;rintro σ H4 hz_;refine Z6 fun Gz G=>?_;obtain ⟨i,u7,zs,os,ws,rfl,hst4,hA4,hnd4,Z,hpo4,Rz,Ro,hgo,hil,s4⟩:=hz_;refine G ?_;clear G Gz;have hzl:=rl Rz;have hol:=ol Ro;have hlen:=gW hb hr i;have hnod:=GX (nx:=nx) (b:=b) i;have hinU:=uX hb hr i;refine ⟨_,rfl,pp,_,rfl,.inl (SqL.of Z),_,rfl,st,_,rfl,.inl (SqL.of hst4),_,_,rfl,rfl,_,rfl,?_⟩;rw [hzl,hA4.1];refine gh (fun hlt=>?_) (fun hlt=>?_)
   ·have hlt':i < (6e1).length:=by
     have:=Qa1 hlt;lia
    obtain ⟨si,hsi⟩:∃si,6e1[i]?=some si:=⟨_,Qag hlt'⟩;have hsU:si∈U:=hinU _ (Qam hsi);obtain ⟨r8,o8,rU⟩:=hU si hsU;obtain ⟨sv,hsv,hat⟩:=hA4.2 i si hsi;have eR:=uY (nx:=nx) (b:=b) hsi;have eO:=uZ (nx:=nx) (ot:=ot) (b:=b) hsi;have eS:=yp (nx:=nx) (b:=b) hsi;refine ⟨fun σ' H'=>∃(u7:5e6) (zs' os' D:List V),σ'=[some (.ref pn),some bv,16e7,some (.ref st),some (.ref C),some (.ref pp),some (.ref I),u7]/\H' st=some (.lst D)/\StA sk H' 14e5 D/\sk.dic H' C 14e5/\H' pp=some (.lst zs')/\H' I=some (.lst os')/\Js H' zs' (zQ nx b (i + 1))/\Js H' os' (zR nx ot b (i + 1))/\ZC H H',?_,?_⟩
    ·rintro σ' H' hz_
     refine Z6 fun Gz G=>?_;obtain ⟨u8,zs',os',D,rfl,g1,gA,g2,g3,g4,g5,g6,s5⟩:=hz_;refine G ?_;clear G Gz;have hpre:(6e1).length<=(14e5).length:=by
      obtain ⟨r,e⟩:=GR (nx si) 6e1;rw [eS,e,Qae];lia
     refine ⟨U.length - (i + 1),?_,?_,i + 1,u8,zs',os',D,rfl,g1,gA,g2,g3,g4,g5,g6,fun j hj=>?_,by lia,s5⟩
     ·rw [Z]
      show U.length - (i + 1) < U.length - zs.length;lia
     ·rw [g3]
      show _=U.length - zs'.length;rw [rl g5]
     ·by_cases hji:j=i
      ·rw [hji]
       exact hlt'
      ·exact hgo j 1e2
    ·refine ⟨f,τ,rfl,hc.frz s4.frz,_,rfl,_,rfl,pp,_,rfl,.inl (SqL.of Z),st,_,_,sv,rfl,rfl,SqL.of hst4,by rw [hzl];exact Yk hsv,qA.refl _,hτ si sv H4 _ hsU hat s4 fun tt r1 r2 ws0 H5 htt hr1 hA5 hr2 s5=>?_⟩
     refine Zi ?_;generalize hl0:bfN nx b i=l0 at *;have hst5:=s5 _ _ hst4;have hnd5:sk.dic H5 C l0:=SK.stay hnd4 (fun o e=>s5 _ _ e) (O s5);have hpp5:=s5 _ _ Z;have hpo5:=s5 _ _ hpo4;obtain ⟨ond4,hond4,nd4T,nd4L⟩:=SK.ne hnd4;have ndn:∀{r:Addr} {ys:List V},SqF H4 H5 r ys->r≠st/\r≠C/\r≠pp/\r≠I:=fun {r ys} z=>by
      have lst:∀{q:Addr} {o:HO},H4 q=some o->(∀xs,o≠.tup xs)->r≠q:=fun {q o} e ht e2=>by
       subst e2;rcases z with z | ⟨_,z⟩
       ·rw [s5 _ _ e] at z
        exact ht ys (Option.some.inj z)
       ·rw [e] at z;cases z
      exact ⟨lst hst4 (7e8),lst hond4 nd4T,lst Z (7e8),lst hpo4 7e8⟩
     obtain ⟨rst,rnd,_,_⟩:=ndn hr1;refine ⟨_,rfl,.inl ⟨rfl,_,SqL.of hpp5⟩,?_⟩;have hr1':H5 r1=some (.tup ws0)\/H5 r1=some (.lst ws0):=hr1.imp id (fun z=>z.1);have w8:ws0.length<=8:=by rw [hA5.1];exact r8
     refine Zgl (a:=r1) (xs:=ws0) (fun R hR=>⟨_,rfl,tt,_,0,_,rfl,rfl,SqT.of htt,rfl,hR⟩) hr1' (fun j zs H'=>zs=((nx si).take j).map (fun x=>YU ((14e5).idxOf x))/\(∃D,H' st=some (.lst D)/\StA sk H' (23e6) D)/\sk.dic H' C (23e6)/\(∀b o,H5 b=some o->b≠st->b≠C->12e4)/\∀b,H5 b=none->H' b=none) ⟨rfl,⟨ws,hst5,hA4.keep (O s5)⟩,hnd5,(fun _ _ e _ _=>e),fun _ e=>e⟩ ?_ ?_ ?_ ?_
     ·rintro j zs H6 hz_
      refine Z6 fun Gz G=>?_;obtain ⟨rfl,_⟩:=hz_;refine G ?_;clear G Gz;rw [Qac,Qa6];exact 9e4
     ·rintro j zs H6 ⟨_,_,_,g3,_⟩ o e
      exact g3 _ _ e rst rnd
     ·rintro j x zs H6 R hR hx hz_
      refine Z6 fun Gz G=>?_;obtain ⟨rfl,⟨D,g1,gA⟩,g2,g3,g4⟩:=hz_;refine G ?_;clear G Gz;have hj:j < (nx si).length:=by rw [<-hA5.1];exact (Qaf.mp hx).1
      obtain ⟨s',hs'⟩:∃s',(nx si)[j]?=some s':=⟨_,Qag hj⟩;have tp6:∀b xs,H5 b=2e2->H6 b=2e2:=fun b xs e=>g3 _ _ e (Xn e hst5 (4e3)) (fun z=>by rw [z,s5 _ _ hond4] at e;exact nd4T xs (Option.some.inj e));obtain ⟨v',hv',hat'⟩:=hA5.2 j s' hs';rw [hx] at hv';cases hv';have hat6:=SK.keep hat' tp6;have e1:((nx si).take (j + 1)).foldl Y0 l0=Y0 (23e6) s':=by
       rw [take_snoc hs',Qdf]
       rfl
      have e2:(14e5).idxOf s'=(Y0 (23e6) s').idxOf s':=by
       have e3:(nx si).foldl Y0 l0=((nx si).drop (j + 1)).foldl Y0 (((nx si).take (j + 1)).foldl Y0 l0):=by rw [<-Qdf,Qdh]
       obtain ⟨r,e4⟩:=GR ((nx si).drop (j + 1)) (((nx si).take (j + 1)).foldl Y0 l0);rw [eS,e3,e4,e1,Zcq (xB.mpr (.inr rfl))]
      have hnj:(23e6).Nodup:=zm _ _ hnod;have hlj:(23e6).length < 10000000:=by
       have:=Zdn ((nx si).take j) l0;rw [Qa6] at this;lia
      have ew:((nx si).take (j + 1)).map (fun x=>YU ((14e5).idxOf x))=((nx si).take j).map (fun x=>YU ((14e5).idxOf x))++[YU ((14e5).idxOf s')]:=by
       rw [take_snoc hs',Qbc]
       rfl
      rw [ew,e1] at hR;rw [e2] at hR;generalize 23e6=l' at *;refine yesT ⟨_,rfl,_,rfl,_,rfl,κ,_,sk,x,st,C,s',l',D,rfl,g1,gA.1,g2,hat6,hnj,hlj,fun H7 ws7 q1 q0 q2 q3 q4=>hR _ _ ⟨rfl,⟨ws7,q1,?_⟩,q2,(fun b o e h1 h2=>q3 _ _ (g3 b o e h1 h2) h1 h2),fun b e=>q4 _ (g4 b e)⟩⟩;have tp7:∀b xs,H6 b=2e2->H7 b=2e2:=fun b xs e=>q3 _ _ e (Xn e g1 (4e3)) fun z=>by
       obtain ⟨o,e7,h7,_⟩:=SK.ne g2;rw [z,e7] at e;exact h7 xs (Option.some.inj e)
      rcases q0 with ⟨hm,rfl⟩ | ⟨hm,rfl⟩
      ·rw [show Y0 l' s'=l' from Qaw hm]
       exact gA.keep tp7
      ·rw [show Y0 l' s'=l'++[s'] from Qau hm]
       exact (gA.keep tp7).snoc (SK.keep hat6 tp7)
     ·rintro zs1 H6 hz_ l hl
      refine Z6 fun Gz G=>?_;obtain ⟨rfl,⟨D,g1,gA⟩,g2,g3,g4⟩:=hz_;refine G ?_;clear G Gz;rw [hA5.1,Qbi] at g2 gA ⊢;rw [<-eS] at g2 gA;have tp6:∀{c:Addr} {ys:List V},H5 c=18e0->H6 c=18e0:=fun {c ys} e=>g3 _ _ e (Xn e hst5 (4e3)) (fun z=>by rw [z,s5 _ _ hond4] at e;exact nd4T ys (Option.some.inj e));have hpp6:=g3 _ _ hpp5 pst pnd;have hpo6:=g3 _ _ hpo5 ost oNd;have htt6:=tp6 htt;have Y:H6 r2=some (.tup (ot si))\/H6 r2=some (.lst (ot si)):=by
       obtain ⟨z1,z2,_⟩:=ndn hr2;rcases hr2 with z | ⟨z,_⟩
       ·exact .inl (g3 _ _ z z1 z2)
       ·exact .inr (g3 _ _ z z1 z2)
      have ndr2:=ndn hr2;refine ⟨l,_,rfl,.inl ⟨SqL.of Za,fun q hq=>?_⟩⟩;have sl:=Zc (o:=.lst 13e9) hl;have sq:=sl.trans (Zc (o:=.tup 13e9) hq);have hqp:q≠pp:=(Zj (sl _ _ hpp6) hq).symm;have hqo:q≠I:=(Zj (sl _ _ hpo6) hq).symm;refine ⟨pp,_,_,rfl,rfl,sq _ _ hpp6,Xj 1e2,?_⟩;have k8:∀c o,H6 c=some o->c≠pp->upd (28e7) pp (.lst (zs++[.ref q])) c=some o:=fun c o e hc=>by
       rw [Zh hc];exact sq _ _ e
      have hq8:upd (28e7) pp (.lst (zs++[.ref q])) q=some (.tup 13e9):=by
       rw [Zh hqp];exact Za
      have hp8:=Za (H:=28e7) (a:=pp) (o:=.lst (zs++[.ref q]));have d8:sk.dic (upd (28e7) pp (.lst (zs++[.ref q]))) C 14e5:=SK.off (SK.stay g2 (fun o e=>sq _ _ e) (O sq)) (sq _ _ hpp6);generalize upd (28e7) pp (.lst (zs++[.ref q]))=H8 at *;have tp8:∀{c:Addr} {ys:List V},H6 c=18e0->H8 c=18e0:=fun {c ys} e=>k8 _ _ e (Xn e hpp6 (4e3));have hpo8:=k8 _ _ hpo6 ppo.symm;have last:∀(a9:Addr) (H9:Hp),H9 a9=some (.tup (ot si))->ZC H8 H9->H9 I=some (.lst os)/\(upd H9 I 16e9 st=some (.lst D)/\StA sk (upd H9 I 16e9) 14e5 D/\sk.dic (upd H9 I 16e9) C 14e5/\upd H9 I 16e9 pp=some (.lst (zs++[.ref q]))/\upd H9 I 16e9 I=some 16e9/\Js (upd H9 I 16e9) (zs++[.ref q]) (zQ nx b (i + 1))/\Js (upd H9 I 16e9) (os++[.ref a9]) (zR nx ot b (i + 1))/\ZC H (upd H9 I 16e9)):=by
       intro a9 H9 ha9 s9;have hpo9:=s9 _ _ hpo8;have tp9:∀{c:Addr} {ys:List V},H9 c=18e0->upd H9 I 16e9 c=18e0:=fun {c ys} e=>by rw [Zh (Xn e hpo9 (4e3))];exact e
       have tp59:∀b xs,H5 b=2e2->upd H9 I 16e9 b=2e2:=fun b xs e=>tp9 (s9 _ _ (tp8 (tp6 e)));refine ⟨hpo9,?_,gA.keep (fun b xs e=>tp9 (s9 _ _ (tp8 e))),SK.off (SK.stay d8 (fun o e=>s9 _ _ e) (O s9)) hpo9,?_,Za,?_,?_,fun c o' e=>?_⟩
       ·rw [Zh ost.symm]
        exact s9 _ _ (k8 _ _ g1 pst.symm)
       ·rw [Zh ppo]
        exact s9 _ _ hp8
       ·rw [eR]
        exact (j6 (fun b xs e=>tp59 b xs (s5 _ _ e)) Rz).snoc (tp9 (s9 _ _ hq8))
       ·rw [eO]
        exact (j6 (fun b xs e=>tp59 b xs (s5 _ _ e)) Ro).snoc (tp9 ha9)
       ·have cp:c≠pp:=Zj e hppH
        have co:c≠I:=Zj e hpoH;rw [Zh co];exact s9 _ _ (k8 _ _ (g3 _ _ (s5 _ _ (s4 _ _ e)) (Zj e hst) (Zj e hndH)) cp)
      refine ⟨_,rfl,.inl ⟨rfl,_,SqL.of hpo8⟩,_,rfl,tt,_,1,_,rfl,rfl,SqT.of (tp8 htt6),rfl,r2,ot si,rfl,?_⟩;rcases Y with Y | Y
      ·obtain ⟨l1,l2⟩:=last r2 H8 (tp8 Y) (ZC.refl _)
       exact .inr ⟨SqT.of (tp8 Y),I,_,_,rfl,rfl,l1,Xj 1e2,_,zs++[.ref q],os++[.ref r2],D,rfl,l2⟩
      ·refine .inl ⟨SqL.of (k8 _ _ Y ndr2.2.2.1),fun a9 ha9=>?_⟩
       obtain ⟨l1,l2⟩:=last a9 (upd H8 a9 (.tup (ot si))) Za (Zc ha9);exact ⟨I,_,_,rfl,rfl,l1,Xj 1e2,_,zs++[.ref q],os++[.ref a9],D,rfl,l2⟩
   ·have hle:(6e1).length=i:=by
     have:¬(i:Int) < ((6e1).length:Int):=fun z=>hlt (Qah z);lia
    refine ⟨_,rfl,_,rfl,pn,_,rfl,.inr ⟨SqT.of (s4 _ _ hpn),_,rfl,pp,_,rfl,.inl ⟨SqL.of Z,fun a1 ha1=>⟨_,rfl,I,_,rfl,.inl ⟨SqL.of (Zc ha1 _ _ hpo4),fun a2 ha2=>⟨by show 4<=sizeLine;decide,fun m hm=>⟨8e3,fun p hp=>?_⟩⟩⟩⟩⟩⟩⟩;have q1:=Zc (o:=.tup zs) ha1;have q2:=Zc (o:=.tup os) ha2;have q3:=Zc (o:=.tup [.ref pn,.int 0,.ref a1,.ref a2]) hm;have q4:=Zc (o:=.tup [.ref st,.ref m]) hp;have qq:=q1.trans (q2.trans (q3.trans q4));refine k p st m 6e1 ws _ ⟨by rw [hle],fun j hj=>hgo j 1e2⟩ Za hst (qq _ _ hst4) (hA4.keep (O qq)) ⟨⟨pn,a1,a2,q4 _ _ Za,qq _ _ (s4 _ _ hpn),⟨zs,(q2.trans (q3.trans q4)) _ _ Za,?_,fun j r hj=>?_⟩,⟨os,(q3.trans q4) _ _ Za,?_,fun j r hj=>?_⟩⟩⟩ (s4.trans qq)
    ·rw [hzl,Qac,XI,hle]
    ·rw [<-Zdo hle hgo] at hj
     obtain ⟨a,g1,g2⟩:=Rz.2 j r hj;exact ⟨a,g1,qq _ _ g2⟩
    ·rw [hol,Qac,hle]
    ·rw [<-Zdp hle hgo] at hj
     obtain ⟨a,g1,g2⟩:=Ro.2 j r hj;exact ⟨a,g1,qq _ _ g2⟩
  have fin:∀(C:Addr) (H3:Hp),H C=none->C≠st->(∃o,H3=upd (upd H st (.lst [bv])) C o)->sk.dic H3 C [b]->37e9:=by
   intro C H3 hndH hne ho hd3;obtain ⟨o,rfl⟩:=ho;have hnd1:upd H st (.lst [bv]) C=none:=by rw [Zh hne];exact hndH
   have s3:=s1.trans (Zc (o:=o) hnd1);exact begun C _ hndH (by rw [Zh hne.symm];exact Za) hd3 (SK.keep hbv fun b xs e=>s3 _ _ e) s3
  cases sk with
  | int f9 inj =>
   have hbv:bv=.int (f9 b):=hbv;subst hbv;refine .inr fun C hnd=>?_;have snd:st≠C:=Zj Za hnd;refine ⟨_,rfl,Za,[(.inl (f9 b),.int 0)],rfl,by show 1<=15;decide,Zi ?_⟩;have em:Wm [] [((.inl (f9 b):Key),V.int 0)]=nk ([b].map f9):=rfl;rw [em,Gh];exact fin C _ (s1.free hnd) snd.symm ⟨_,rfl⟩ Za
  | key kn =>
   obtain ⟨a,rfl,ha⟩:=id hbv;refine .inl fun C hnd=>?_;have snd:st≠C:=Zj Za hnd;have sn2:=s1.trans (Zc (o:=.dK []) hnd);refine ⟨_,rfl,κ,_,kn,a,b,rfl,Za,kn.keep _ _ _ _ (fun b xs e=>sn2 _ _ e) ha,fun H' n' _ ho=>Zi ?_⟩;obtain ⟨o,rfl⟩:=ho;rw [Gh] at n' ⊢;exact fin C _ (s1.free hnd) snd.symm ⟨_,rfl⟩ n'
inductive Xw(w:World)(pw:Addr)(vs:List V)(H:Hp)(Q:VK):Prop
 | mk (tw tn tt:Addr) (ws:List V) (nm:1e3) (o0 o1:V) (B kc:Nat):(vs=[.ref tw,.ref tn,.ref tt])->(H tw=some (.tup ws))->(ws.length<=100)->(H tn=some (.tup (nm.map V.str)))->(nm.Nodup)->(nm.length<=3)->(H tt=some (.tup [o0,o1]))->((∀w∈ws,yk nm w))->(XU ws)->(yj ws=1)->((∀z:Int,V.int z∈ws->0<=z/\z < 2 ^ B))->(kc=Y5 ws)->((B + 1) * 2 ^ kc<=1000000)->(Yq H pw Zw Zt)->(∀m (l:13e8) H',BfE 32e9 (0,List.replicate kc 0) l->M4 H' m nm 0 (rnG 32e9 l) (l.map (otT nm (Y4 (7e1) nm) ws o0 o1))->Yq H' pw Zw Zt->Zng pw H H'->Q (.ref m) H')->Xw w pw vs H Q
def Wf(P:Program)(w:World)(K:PySem.W.Frag)(mg:2e9)(base:Heap)(q:Addr):Sp:=fun vs H Q _=>Xw w q vs H Q
theorem qp (T:3e9) (TB:3e8):ZH P w K mg base CX0 14 t.et t.bq ["words","names","told"] (Wf P w K mg base t.ae):=by
 have I:33e4:=Jg T TB;have G_bits_at:ZH P w K mg base CX0 1 t.rf t.rh 24e4 (jC K):=Zai T TB;have G_stepped:ZH P w K mg base CX0 4 t.rp t.rq 29e4 (jF K):=Zal T TB;have Y:ZH P w K mg base CX0 1 t.ic t.ie 8e2 (Jz K):=xg T TB;have D:ZH P w K mg base CX0 1 t.fe t.ff ["words"] (Ws K):=qS T TB;have J:ZH P w K mg base CX0 2 t.iq t.ir 19e2 (J8 K):=zH T TB;have G_words_at:ZH P w K mg base CX0 1 t.iu t.iw ["width"] (G8 K):=zB T TB;refine T.bw.F.okC ZM 3e7 (fun A outer s H vs Q E hr h=>?_)
 ·obtain ⟨tw,tn,tt,C,nm,o0,o1,B,Z,rfl,ht,hl,hn,hnd,hn3,hto,hw,he,hst,hB,hkc,hbig,hT,k⟩:=h
  rfl
 ·obtain ⟨tw,tn,tt,C,nm,o0,o1,B,Z,rfl,ht,hl,hn,hnd,hn3,hto,hw,he,hst,hB,hkc,hbig,hT,k⟩:=h
  show 8;refine ⟨_,@QSs.out _ _ _ (Zb (Zo (i:=3) ZM.nd rfl 11e9 (Z9 (kQ rfl) 2e8 T.uj Zbu (Zk (Z9 xZ 2e8 T.bf gm (Zk (Zl G_words_at 3e2 rfl T.bo.m T.bo.F.kp T.bo.b .nil ZI (Zk (Zv ZF 2e8 T.av Xg 16e3) Ze)) Ze)) Ze)))
    (Zb (Zo (i:=4) ZM.nd rfl 11e9 (Zl J 3e2 rfl T.de.m T.de.F.kp T.de.b .nil ZI (Zk (qv 1) (Zk (qv 3) Ze))))
    (Zb (Zo (i:=5) ZM.nd rfl 11e9 (Zl D 3e2 rfl T.cf.m T.cf.F.kp T.cf.b .nil ZI 11e8))
    (Zb (qs_def (i:=6) (name := "step_of") (params:=Ww YN) (body:=Xo YN) (scope:=Zg YN) (lpos:=Zw) (qual:=Zt) ZM.nd rfl 1e7 T.su TB.eu TB.B rfl rfl rfl rfl (S0:=Zg ZK) rfl (1e0))
    (Zb (Zo (i:=7) ZM.nd rfl 1e7 (ZL (Zk Zd (Zk (Z9 Z5 2e8 T.ak Ya (Zk (YE (11e0:Ym (Zg ZK) _ 33e8 "word" [] []) (WS (qv 0)) (fun _ _ _ _=>(gx (Wk (Zl Y 3e2 rfl T.bb.m T.bb.F.kp T.bb.b .nil ZI 11e8)))) (fun _ _ _ _=>Zd)) Ze)) Ze))))
    (Zf (Zp (Zq Zu (Zf4 (kl:=11) (i:=6) (name := "step_of") (params:=Ww YN) (body:=Xo YN) (scope:=Zg YN) (qual:=Zt) I 3e2 rfl T.ao.m T.ao.F.kp T.ao.b rfl (Zk (qv 1) (Zk (qv 7) (Zk (qv 6) Ze))) rfl rfl (⟨JJ,1e0,1e0,by rfl⟩:Zmm (Zg ZK) _ 33e8 ["state"] ["step","place","reached"] ["words","columns","last_place","letters","told"] [0,4,5,3,2]) (fun _ _ _ _ _ us hl=>match us,hl with | [_],_=>rfl) (fun _ _ _ _ _ _ _ hrl=>(Zb (Zo (i:=1) JJ.nd rfl 11e9 (Zl G_stepped (hrl.mono 1e4) rfl T.og.m T.og.F.kp T.og.b .nil ZI (Zk (qv 4) (Zk (qv 5) (Zk 25e4 (Zk 25e4 Ze))))))
    (Zb (Zo (i:=2) JJ.nd rfl 11e9 (Zv (Zbc rfl) 2e8 T.aaf bt_min (Zk (Zm Y6 25e4 Zd) (Zk (qv 6) Ze))))
    (Zb (ky (i:=3) JJ.nd rfl rfl (11e0:Ym (Zg YN) _ ["state","step","place","reached","words","columns","last_place","letters","told"] "letter" ["place","step"] [2,1]) (show QI _ _ _ (Za3 K (Zau 7)) from Gn (qv 7)) 13e6 (fun _ _ _ _=>(ZL (Zk (qv 1) (Zk (Zl G_bits_at (hrl.mono 1e4) rfl T.nu.m T.nu.F.kp T.nu.b .nil ZI (Zk (Zq (show IxR _ (Ze4 K) from Zu) (qv 2) Zd 1e6) 11e8)) Ze)))))
    (Zf (Zp (ZL (Zk (qv 3) (Zk (YE (11e0:Ym (Zg YN) _ ["state","step","place","reached","words","columns","last_place","letters","told"] "letter" ["told","step"] [8,1]) (show QI _ _ _ (Za3 K (Zau 7)) from Gn (qv 7)) 13e6 (fun _ _ _ _=>(Zq (show IxR _ (Ze4 K) from Zu) (qv 1) (Zm XQ (Zm jh (Zq (show IxR _ (Ze4 K) from Zu) (qv 2) Zd 1e6) (qv 0)) Zd) 1e6))) Ze)))))))))) Zd 1e6)))))))),?_⟩
  show 9
  show 6
  refine L2.let6 ?_;intro U5 U4 U3 U2 U1;have h8:=p8 hn3;have e2:((2:Int) ^ nm.length)=((7e1:Nat):Int):=by rw [Qep];rfl
  have hflat:∀w∈C,xr w=true/\((∃y,w=.str y)\/∃z:Int,w=.int z):=fun w h=>by
   rcases hw w h with ⟨y,rfl,_⟩ | ⟨y,rfl,_⟩ | ⟨y,rfl,_⟩ | ⟨z,rfl,_⟩
   ·exact ⟨rfl,.inl ⟨y,rfl⟩⟩
   ·exact ⟨rfl,.inl ⟨y,rfl⟩⟩
   ·exact ⟨rfl,.inl ⟨y,rfl⟩⟩
   ·exact ⟨rfl,.inr ⟨z,rfl⟩⟩
  refine ⟨_,rfl,tn,_,rfl,.inr (SqT.of hn),nm.length,by rw [Qac];rfl,by lia,_,rfl,fun pr hpr=>⟨pr,7e1,rfl,by rw [Za,e2],by lia,fun tl htl=>Zi ?_⟩⟩;have s1:=Zc (o:=.rng 0 ((2:Int) ^ nm.length)) hpr;have s2:=s1.trans (Zc (o:=.lst (18e3)) htl);have htl2:=Za (H:=upd H pr (.rng 0 ((2:Int) ^ nm.length))) (a:=tl) (o:=.lst (18e3));have htlH:H tl=none:=s1.free htl
  show 10
  generalize upd (upd H pr (.rng 0 ((2:Int) ^ nm.length))) tl (.lst (18e3))=H2 at *;refine ⟨_,rfl,_,rfl,tn,tl,nm,7e1,rfl,s2 _ _ hn,hnd,by lia,htl2,by lia,fun dv kvs H3 hdv0 hdv hcol s3=>Zi ?_⟩;have s23:=s2.trans s3;generalize Y4 (7e1) nm=cols at *;refine ⟨_,rfl,tw,C,rfl,s23 _ _ ht,by lia,fun w h=>(hflat w h).2,fun L H4 hL1 hL2 s4=>Zi ?_⟩;rw [<-Ziq hL1 hL2] at k;have s24:=s23.trans s4;have hLB:L<=B:=by
   rw [Ziq hL1 hL2];exact Zds hB
  have hdv4:=s4 _ _ hdv;have htl4:=(s3.trans s4) _ _ htl2;refine ⟨hT.same s24,fun f c' oc ctv doc H5 hf0 hf hc' hoc hT5 o5=>?_⟩;obtain ⟨pz,hpz⟩:=(hT.same s24).ex;have o5':∀{b:Addr} {o:HO},H4 b=some o->(∀ps,o≠.tbl ps)->H5 b=some o:=fun {b o} e h=>o5 b o e fun z=>by
   rw [z,hpz] at e;exact h _ (Option.some.inj e).symm
  have t5:∀{b:Addr} {xs:List V},H b=2e2->H5 b=2e2:=fun e=>o5' (s24 _ _ e) (7e8);have hdv5:=o5' hdv4 (7e8);have htl5:=o5' htl4 (7e8);refine ⟨_,rfl,tw,rfl,⟨_,SqT.of (t5 ht)⟩,GI (K:=K) (a:=tw) (xs:=C) (fun i zs H'=>zs=List.replicate (Y5 (C.take i)) (.int 0)/\H'=H5) 6e5 (fun i zs H' h=>?_) (fun i zs H' h=>by rw [h.2];exact SqT.of (t5 ht)) (fun i x zs H6 R hR hx h=>?_) (fun zs H6 h pl hpl=>?_)⟩
  ·rw [h.1,Qa3]
   have:Y5 (C.take i)<=(C.take i).length:=Qc0 _ _;rw [Qa6] at this;exact 9e4
  ·obtain ⟨rfl,rfl⟩:=h
   refine ⟨_,rfl,x,rfl,(hflat x (Qam hx)).1,_,rfl,?_⟩;have er:Y5 (C.take (i + 1))=Y5 (C.take i) + if inV x 19e3=true then 1 else 0:=by
    rw [take_snoc hx];unfold Y5;rw [Qd2,Qae,Qcr]
    split <;> rfl
   rw [er] at hR;refine 18e5
   ·rw [Qaw hb,Qgk] at hR
    exact hR _ _ 6e5
   ·rw [Qau hb] at hR
    exact hR _ _ 6e5
  obtain ⟨rfl,rfl⟩:=h;rw [Qbi,<-hkc];refine ⟨pl,_,rfl,.inl ⟨SqL.of Za,fun tb htb=>⟨8e3,fun tg htg=>Zi ?_⟩⟩⟩;have q1:=Zc (o:=.lst 21e1) hpl;have q2:=Zc (o:=.tup 21e1) htb;have q3:=Zc (o:=.tup [.int 0,.ref tb]) htg;have s6:=q1.trans (q2.trans q3);have htb6:=q3 _ _ (Za (H:=upd H6 pl (.lst 21e1)) (a:=tb) (o:=.tup 21e1));have htg6:=Za (H:=upd (upd H6 pl (.lst 21e1)) tb (.tup 21e1)) (a:=tg) (o:=.tup [.int 0,.ref tb])
  show 10
  generalize upd (upd (upd H6 pl (.lst 21e1)) tb (.tup 21e1)) tg (.tup [.int 0,.ref tb])=H7 at *;refine ⟨_,rfl,_,rfl,_,rfl,f,c',oc,ctv,doc,rfl,s6 _ _ hf,s6 _ _ hc',hoc,fun cs H8 hcs0 hcsF o8 hcall=>?_⟩;have hU:∀s∈uni Z (L + 1),(nxT nm cols C L s).length<=8/\(otT nm cols C o0 o1 s).length<=8/\∀x∈nxT nm cols C L s,x∈uni Z (L + 1):=fun s hs=>⟨by unfold nxT;rw [Qac,Qax];exact h8,by unfold otT;rw [Qac,Qax];exact h8,yt hw hkc hs⟩;have t8:∀{b:Addr} {xs:List V},H b=2e2->H8 b=2e2:=fun e=>o8 _ _ (s6 _ _ (t5 e));have hUl:(uni Z (L + 1)).length<=1000000:=by
   rw [yq];exact Qbd (Qgj _ 1e2) hbig
  refine ⟨5e3,_,.key knQ,tn,f,nm,(0,List.replicate Z 0),.ref tg,nxT nm cols C L,otT nm cols C o0 o1,uni Z (L + 1),_,rfl,t8 hn,⟨tg,rfl,tb,o8 _ _ htg6,by rw [o8 _ _ htb6,List.map_replicate]⟩,G4.mpr ⟨0,by lia,rfl,Xk.mpr ⟨Qa3,fun x hx=>.inl (Qeq hx)⟩⟩,hU,hUl,hn3,hcall,fun s sv H9 Q' hs hat s9 hQ=>⟨rfl,?_⟩,fun p sts m l wsl H9 B9 hp hsts0 hsts hA M9 s9=>?_⟩
  ·obtain ⟨a,rfl,tk,ha,htk⟩:=hat
   have hk9:∀{b:Addr} {u:HO},H9 b=some u->(∀o,u≠X9 o)->hide cs H9 b=some u:=fun e h=>Jn hcsF s9 e h;have t9:∀{b:Addr} {xs:List V},H9 b=2e2->hide cs H9 b=2e2:=fun e=>hk9 e (7e8);obtain ⟨pn,hp1,hp2,hp3⟩:=G4.mp hs;obtain ⟨sp,ks⟩:=s;have hp2:sp=(pn:Int):=hp2;subst hp2;obtain ⟨hkl,hkb⟩:=Xk.mp hp3;have hkl:ks.length=Z:=hkl;have ha':=t9 ha;have htk':=t9 htk;have hln:(XW nm cols pn ks C).1.length=1:=by rw [yl C hw,hst]
   have hrm:(XW nm cols pn ks C).2.length=Z:=by rw [yr C hw,hkc]
   obtain ⟨o,lt,hstp⟩:∃o lt,XW nm cols pn ks C=([o],lt):=by
    generalize XW nm cols pn ks C=q at hln;obtain ⟨q1,q2⟩:=q
    match q1,hln with
    | [o],_=>exact ⟨o,q2,rfl⟩
   have hltl:lt.length=Z:=by rw [hstp] at hrm;exact hrm
   have hsS:Zlx nm cols C ((pn:Int),ks)=([o],lt):=hstp;refine ⟨_,rfl,_,rfl,_,rfl,a,_,0,_,rfl,rfl,SqT.of ha',rfl,_,rfl,a,_,1,_,rfl,rfl,SqT.of ha',rfl,tw,dv,tk,nm,C,kvs,cols,pn,ks,o,lt,rfl,t9 (s9 _ _ (t8 ht)),hl,hk9 (s9 _ _ (o8 _ _ (s6 _ _ hdv5))) (7e8),hcol,htk',hw,he,hstp,by rw [hltl];show Z<=ks.length;lia,fun ta la H10 hta0 hta hla s10=>Zi ?_⟩;refine ⟨_,rfl,a,_,0,_,rfl,rfl,SqT.of (s10 _ _ ha'),rfl,_,_,rfl,rfl,_,rfl,_,_,rfl,Zi ?_⟩;have em:(if (L:Int) < (pn:Int) + 1 then (L:Int) else (pn:Int) + 1)=min ((pn:Int) + 1) (L:Int):=by split <;> lia
   show 10
   rw [em];have O:H10 tl=some (.lst (18e3)):=s10 _ _ (hk9 (s9 _ _ (o8 _ _ (s6 _ _ htl5))) (7e8));have hxs:(18e3).length=7e1:=by rw [Qac,Qax]
   have hnx:nxT nm cols C L ((pn:Int),ks)=(7e5).map fun l=>(min ((pn:Int) + 1) (L:Int),lt.map fun c=>bt c l):=by
    unfold nxT;rw [hsS]
   have hot:otT nm cols C o0 o1 ((pn:Int),ks)=(7e5).map fun l=>if bt o l=1 then o1 else o0:=by
    unfold otT;rw [hsS]
    rfl
   refine ⟨_,rfl,tl,rfl,⟨_,SqL.of O⟩,xR (K:=K) (a:=tl) (xs:=18e3) (fun i zs H'=>StA (.key knQ) H' ((nxT nm cols C L ((pn:Int),ks)).take i) zs/\i<=7e1/\ZC H10 H') ⟨⟨rfl,fun i k hk=>by cases hk⟩,Qbe _,ZC.refl _⟩ (fun i zs H' h=>?_) (fun i zs H' h=>SqL.of (h.2.2 _ _ O)) (fun i x zs H11 R hR hx h=>?_) (fun zs H11 h rl hrl=>Zi ?_)⟩
   ·rw [h.1.1,Qa6]
    exact 9e4
   ·obtain ⟨hA,hi,s11⟩:=h
    have hil:i < 7e1:=by rw [<-hxs];exact (Qaf.mp hx).1
    rw [xE hil] at hx;cases hx;refine yesT ⟨_,rfl,_,rfl,ta,_,1,_,rfl,rfl,SqT.of (s11 _ _ hta),rfl,_,rfl,la,lt,i,rfl,s11 _ _ hla,?_,by lia,fun t5 H12 ht50 ht5 s12=>⟨8e3,fun q hq=>hR _ _ ⟨?_,hil,s11.trans (s12.trans (Zc hq))⟩⟩⟩
    ·have:Y5 C<=C.length:=Qc0 _ _
     lia
    ·have en:(nxT nm cols C L ((pn:Int),ks))[i]?=some (min ((pn:Int) + 1) (L:Int),lt.map fun c=>bt c i):=by rw [hnx,xE hil]
     rw [take_snoc en];refine (hA.keep (H':=upd H12 q (.tup [.int (min ((pn:Int) + 1) (L:Int)),.ref t5])) fun b xs e=>Zc hq _ _ (s12 _ _ e)).snoc ⟨q,rfl,t5,Za,Zc hq _ _ ht5⟩
   obtain ⟨hA,_,s11⟩:=h;rw [hxs,Qcc (by rw [hnx,Qac,Qax];exact Qai _)] at hA;have s12:=Zc (o:=.lst zs) hrl;have hrl12:=Za (H:=H11) (a:=rl) (o:=.lst zs)
   show 10
   generalize upd H11 rl (.lst zs)=H12 at *;have G:=s11.trans s12;have htt12:H12 tt=some (.tup [o0,o1]):=G _ _ (s10 _ _ (t9 (s9 _ _ (t8 hto))));refine ⟨_,rfl,_,rfl,tl,rfl,⟨_,SqL.of (G _ _ O)⟩,comp_map (xs:=18e3) (fI fun c=>if bt o c.toNat=1 then o1 else o0) (SqL.of (G _ _ O)) (by rw [hxs];exact 9e4) (fun v hv R hR=>?_) (fun q hq=>?_)⟩
   ·obtain ⟨l,_,rfl⟩:=Qay.mp hv
    refine ⟨_,rfl,_,rfl,ta,_,0,_,rfl,rfl,SqT.of (G _ _ hta),rfl,_,rfl,_,_,rfl,rfl,Qb7 l,_,_,rfl,rfl,tt,_,_,fI (fun c=>if bt o c.toNat=1 then o1 else o0) (V.int (l:Int)),rfl,rfl,SqT.of htt12,?_,hR⟩;rw [and_1,Qat];show atI [o0,o1] (bt o l)=some (if bt o (l:Int).toNat=1 then o1 else o0);rw [Qat];rcases Y8 o l with e | e <;> rw [e] <;> rfl
   ·refine ⟨8e3,fun t0 ht0 hcn=>?_⟩
    have ef:(18e3).map (fI fun c=>if bt o c.toNat=1 then o1 else o0)=otT nm cols C o0 o1 ((pn:Int),ks):=by
     rw [hot,Qcf];refine Qc1 fun l _=>?_;show (if bt o (l:Int).toNat=1 then o1 else o0)=_;rw [Qat]
    rw [ef] at ht0 hcn ⊢;have s13:=Zc (o:=.lst (otT nm cols C o0 o1 ((pn:Int),ks))) hq;have s14:=s13.trans (Zc (o:=.tup [.ref rl,.ref q]) ht0);have hsame:=s10.trans (G.trans s14);obtain ⟨u1,u2,u3⟩:=Zaa hsame hcn;have hrl14:=s14 _ _ hrl12;have hq14:=Zc (o:=.tup [.ref rl,.ref q]) ht0 _ _ (Za (H:=H12) (a:=q) (o:=.lst (otT nm cols C o0 o1 ((pn:Int),ks))));exact hQ t0 rl q zs _ (u2 _ _ Za) (.inr ⟨u2 _ _ hrl14,u3 _ _ hrl14 (s10.free (s11.free hrl))⟩) (hA.keep fun b xs e=>u2 _ _ ((s12.trans s14) _ _ e)) (.inr ⟨u2 _ _ hq14,u3 _ _ hq14 (s10.free (G.free hq))⟩) u1
  ·have keep9:ZC H7 (hide cs H9):=fun b o e=>by
    rw [Z1 fun m=>by rw [hcs0 b m] at e;cases e];exact s9 _ _ (o8 _ _ e)
   have tk9:∀(b:Addr) (xs:List V),H9 b=2e2->hide cs H9 b=2e2:=fun b xs e=>Jn hcsF s9 e (7e8);refine ⟨p,_,1,_,rfl,rfl,SqT.of (tk9 _ _ hp),rfl,k m l (hide cs H9) B9 ?_ ((hT5.same s6).same keep9) fun b o e hb=>keep9 _ _ (s6 _ _ (o5 _ _ (s24 _ _ e) hb))⟩;show 18;obtain ⟨pn,ps,po,h1,h2,h3,h4⟩:=M9.ex;refine hGz ?_;clear hGz Gz;exact ⟨⟨pn,ps,po,tk9 _ _ h1,tk9 _ _ h2,j8 h3 tk9,j8 h4 tk9⟩⟩
inductive YW(pw:Addr)(vs:List V)(H:Hp)(Q:VK):Prop
 | mk (m1 m2:Addr) (nm:1e3) (b1 b2:Nat) (nx1 nx2:2e4) (ot1 ot2:5e8) (tr:Bool):(vs=[.ref m1,.ref m2])->(M4 H m1 nm b1 nx1 ot1)->(M4 H m2 nm b2 nx2 ot2)->(Runs nx1 ot1 nm.length)->(Runs nx2 ot2 nm.length)->(b1 < nx1.length)->(b2 < nx2.length)->(nx1.length * nx2.length<=1000000)->(nm.length<=3)->(nm.Nodup)->((∀r∈ot1,∀x∈r,XH tr x))->((∀r∈ot2,∀x∈r,XH tr x))->(Yq H pw Z2 Z3)->((∀p q l ws H',26e6->(∀(ls:1e1) (c:Nat),(∀x∈ls++[c],x < 7e1)->33e6=false)->H' p=some (.tup [.str "same",.ref q])->H' q=some (.tup ws)->StA (.key kn2) H' l ws->Yq H' pw Z2 Z3->Zi0 pw H H'->Q 3e5 H'))->((∀p d w r kvs l H',26e6->xI (mN (rnG (pN nx1 nx2) l)) (mB (l.map (pO ot1 ot2)) 8e9) 0 nm.length w r->1<=w->(∀(ls:1e1) (c:Nat),(∀x∈ls++[c],x < 7e1)->33e6=true->w<=15e1)->H' p=some (.tup [.str "parted",.int (w:Int),.ref d])->H d=none->H' d=some 4e1->Tab kvs nm (fun y=>(valN (ixG nm y) r:Int))->Yq H' pw Z2 Z3->Zi0 pw H H'->Q 3e5 H'))->YW pw vs H Q
def Xx(K:PySem.W.Frag)(q:Addr):Sp:=fun vs H Q _=>YW q vs H Q
theorem JM (T:3e9) (TB:3e8):ZH P w K mg base CX0 14 t.cz t.bh 17e7 (Xx K t.aa):=by
 have G:ZH P w K mg base CX0 4 t.mw t.mx 30e2 (Gf K):=jg T TB;have C:ZH P w K mg base CX0 1 t.bx t.bz ["machine"] (YS K):=WQ T TB;have D:33e4:=Jg T TB;have J:ZH P w K mg base CX0 1 t.pb t.pd 14e2 (zE K):=wV T TB;have I:ZH P w K mg base CX0 1 t.nc t.ng 14e2 (qg K):=yD T TB;refine T.bj.F.okC Yj 3e7 (fun A outer s H vs Q E hr h=>?_)
 ·obtain ⟨m1,m2,nm,b1,b2,nx1,nx2,ot1,ot2,tr,rfl,M1,M2,R1,R2,hb1,hb2,hN,hn3,hnd,k1,k2,B,kS,kP⟩:=h
  rfl
 ·obtain ⟨m1,m2,nm,b1,b2,nx1,nx2,ot1,ot2,tr,rfl,M1,M2,R1,R2,hb1,hb2,hN,hn3,hnd,k1,k2,B,kS,kP⟩:=h
  show 8;refine ⟨_,@QSs.out _ _ _ (Zb (Zo (i:=2) Yj.nd rfl 1e7 (ZL (Zk 8e7 (Zk (Zq Zu (qv 1) Zd 1e6) Ze))))
    (Zb (Zo (i:=3) Yj.nd rfl 1e7 (Zcp (kl:=11) D 3e2 rfl T.ao.m T.ao.F.kp T.ao.b rfl 8e7 (qv 2) T.sj TB.da TB.B rfl rfl rfl rfl (⟨⟨by rfl,by rfl,by rfl,1e0,1e0,1e0,1e0⟩,1e0,1e0,by rfl⟩:Zmk (Zg Ys) _ ["one","other","begins","found","width"] ["pair"] 17e7 [0,1]) (fun _ _ _ _ us hl=>match us,hl with | [_],_=>rfl) (fun _ _ _ _ _ _ _ hrl=>(ZL (Zk (Zl I (hrl.mono 1e4) rfl T.fh.m T.fh.F.kp T.fh.b .nil ZI (Zk (qv 1) (Zk (qv 2) 11e8))) (Zk (Zl J (hrl.mono 1e4) rfl T.ka.m T.ka.F.kp T.ka.b .nil ZI (Zk (qv 1) (Zk (qv 2) 11e8))) Ze))))))
    (Zb (Zo (i:=4) Yj.nd rfl 1e7 (Zl C 3e2 rfl T.au.m T.au.F.kp T.au.b .nil ZI (Zk (Zq Zu (qv 3) Zd 1e6) Ze)))
    (Zb (Yi (Zz Zhi (qv 4) gn (9e2))
    (Zf (Zp (ZL (Zk Zx (Zk (Z9 Z5 2e8 T.ak Ya (Zk (Zq Zu (qv 3) Zd 1e6) Ze)) Ze))))) Z7)
    (Zf (Zp (ZL (Zk Zx (Zk (qv 4) (Zk (Zl G 3e2 rfl T.du.m T.du.F.kp T.du.b .nil ZI (Zk (Zq Zu (qv 3) Zd 1e6) (Zk (qv 4) (Zk zK Ze)))) Ze)))))))))),?_⟩
  clear hu
  show 6
  refine L2.let5 ?_;intro U4 U3 U2 U1;refine Z6 fun Gz O=>?_;obtain ⟨pn1,ps1,po1,h1,hpn1,_,_⟩:=M1.ex;refine O ?_;clear O Gz;refine Z6 fun Gz O=>?_;obtain ⟨pn2,ps2,po2,h2,hpn2,_,_⟩:=M2.ex;refine O ?_;clear O Gz;obtain ⟨pz,hpz⟩:=B.ex;have tP:∀{b:Addr} {xs:List V},H b=2e2->b≠t.aa:=fun e=>Xn e hpz (4e3);refine ⟨_,rfl,m1,_,1,_,rfl,rfl,SqT.of h1,rfl,_,rfl,m2,_,1,_,rfl,rfl,SqT.of h2,rfl,8e3,fun bg hbg=>Zi ?_⟩;have sb:=Zc (o:=29e3) hbg;have hbg1:upd H bg (29e3) bg=some (29e3):=Za;have B1:=B.same sb;have tP1:∀{b:Addr} {xs:List V},upd H bg (29e3) b=2e2->b≠t.aa:=fun e=>Xn e (sb _ _ hpz) (4e3);generalize upd H bg (29e3)=H1 at *;refine ⟨_,rfl,m1,_,0,_,rfl,rfl,SqT.of (sb _ _ h1),rfl,_,rfl,B1,fun cs f H2 hcs hfz hf hT2 o2 hc=>?_⟩;have t2:∀(b:Addr) (xs:List V),H1 b=2e2->H2 b=2e2:=fun b xs e=>o2 _ _ e (tP1 e);have p8:=p8 hn3;have U0:=pU_len nx1.length nx2.length;refine ⟨1e5,inferInstance,.key kn2,pn1,f,nm,pK b1 b2,.ref bg,pN nx1 nx2,pO ot1 ot2,pU nx1.length nx2.length,_,rfl,t2 _ _ (sb _ _ hpn1),⟨bg,rfl,t2 _ _ hbg1⟩,qb.mpr ⟨b1,b2,hb1,hb2,rfl⟩,(fun s hs=>?_),by rw [U0];exact hN,hn3,hc,fun s sv Y Q' hs hat sH hQ=>⟨rfl,?_⟩,fun p sts fm l wsl Y B3 hp hsts0 hsts hA M3 s3=>?_⟩
  ·obtain ⟨i,j,hi,hj,rfl⟩:=qb.mp hs
   exact ⟨by rw [Zeh R1 R2 hi hj];exact p8,by rw [Ziy R1 R2 hi hj];exact p8,fun x hx=>Zlh R1 R2 hs x hx⟩
  ·obtain ⟨i,j,hi,hj,rfl⟩:=qb.mp hs
   obtain ⟨c,rfl,hc3⟩:=id hat;have th:∀(b:Addr) (xs:List V),Y b=2e2->hide cs Y b=2e2:=fun b xs e=>Jn hfz sH e (fun o z=>nomatch z);have th1:∀(b:Addr) (xs:List V),H b=2e2->hide cs Y b=2e2:=fun b xs e=>th _ _ (sH _ _ (t2 _ _ (sb _ _ e)));have hi2:i < ot1.length:=by rw [R1.ol];exact hi
   have hj2:j < ot2.length:=by rw [R2.ol];exact hj
   have l1:=R1.or _ (getD_mem hi2);have l2:=R2.or _ (getD_mem hj2);refine ⟨_,rfl,_,rfl,_,rfl,m1,m2,c,nm,nm,b1,b2,nx1,nx2,ot1,ot2,i,j,rfl,M1.tups th1,M2.tups th1,th _ _ hc3,hi,hj,fun l zs H4 hl s4 hl4 pr=>?_⟩;refine ⟨_,rfl,_,rfl,_,rfl,m1,m2,c,nm,nm,b1,b2,nx1,nx2,ot1,ot2,i,j,tr,rfl,(M1.tups th1).same s4,(M2.tups th1).same s4,s4 _ _ (th _ _ hc3),hi2,hj2,by rw [l1,l2],by rw [l1];lia,k1 _ (getD_mem hi2),k2 _ (getD_mem hj2),fun l' H5 hl' Z hl5=>⟨8e3,fun q hq hcn=>?_⟩⟩;have s6:=(s4.trans Z).trans (Zc (o:=.tup [.ref l,.ref l']) hq);have s56:=Z.trans (Zc (o:=.tup [.ref l,.ref l']) hq);obtain ⟨g1,g2,g3⟩:=Zln s6 hcn;have hl6:=s56 _ _ hl4;have hl56:=Zc (o:=.tup [.ref l,.ref l']) hq _ _ hl5;refine hQ q l l' zs _ (g2 _ _ Za) (.inr ⟨g2 _ _ hl6,g3 _ _ hl6 hl⟩) ?_ (.inr ⟨g2 _ _ ?_,g3 _ _ hl56 (s4.free hl')⟩) g1
   ·show StA (.key kn2) _ (pN nx1 nx2 (pK i j)) zs
    have e:pN nx1 nx2 (pK i j)=(Zao (nx1.getD i []) (nx2.getD j [])).map fun p=>[p.1,p.2]:=by
     show (Zao (nx1.getD (i:Int).toNat []) (nx2.getD (j:Int).toNat [])).map _=_;rw [Qat,Qat]
    rw [e];exact Zlo pr fun b xs e=>g2 _ _ (s56 _ _ e)
   ·have e:pO ot1 ot2 (pK i j)=(((ot1.getD i []).zip (ot2.getD j [])).map fun q=>!decide (q.1=q.2)).map V.bl:=by
     show (((ot1.getD (i:Int).toNat []).zip (ot2.getD (j:Int).toNat [])).map _).map _=_;rw [Qat,Qat]
    rw [e];exact hl56
  have t3:∀(b:Addr) (xs:List V),Y b=2e2->hide cs Y b=2e2:=fun b xs e=>Jn hfz s3 e (fun o z=>nomatch z);have T3:Yq (hide cs Y) t.aa Z2 Z3:=hT2 Y s3;have off3:∀b o,10e9->b≠t.aa->hide cs Y b=some o:=fun b o e hb=>by
   have e1:=sb _ _ e;rw [Z1 (fun m=>by rw [hcs b m] at e1;cases e1)];exact s3 _ _ (o2 _ _ e1 hb)
  have M3':M4 (hide cs Y) fm nm 0 (rnG (pN nx1 nx2) l) (l.map (pO ot1 ot2)):=M3.tups t3;have hA':StA (.key kn2) (hide cs Y) l wsl:=hA.keep t3;have hp':=t3 _ _ hp;have hsts':hide cs Y sts=some (.lst wsl):=Jn hfz s3 hsts (fun o z=>nomatch z)
  show 10
  generalize hide cs Y=H4 at *;have R:=Zgy R1 R2 hb1 hb2 B3;have hll:l.length<=1000000:=by
   have h:=gW (nx:=pN nx1 nx2) (b:=pK b1 b2) (U:=pU nx1.length nx2.length) (qb.mpr ⟨b1,b2,hb1,hb2,rfl⟩) (fun s hs=>Zlh R1 R2 hs) l.length;rw [<-B3.e,U0] at h;lia
  have hrl:(rnG (pN nx1 nx2) l).length<=1000000:=by rw [XI];exact hll
  have hbl:∀r∈l.map (pO ot1 ot2),∀x∈r,∃t,x=V.bl t:=fun r hr x hx=>by
   obtain ⟨s,_,rfl⟩:=Qay.mp hr;obtain ⟨q,_,rfl⟩:=Qay.mp hx;exact 8e1
  refine Zi ⟨_,rfl,p,_,1,_,rfl,rfl,SqT.of hp',rfl,fm,nm,_,_,nm.length,_,rfl,M3',R,rgO_of B3,hrl,hbl,fun hno H5 Z=>?_,fun w H5 hw1 hw2 hex hmin Z=>?_⟩
  ·refine Zi 11e7
   rw [Qah rfl];refine Jh ⟨_,rfl,p,_,0,_,rfl,rfl,SqT.of (Z _ _ hp'),rfl,sts,wsl,rfl,.inl ⟨SqL.of (Z _ _ hsts'),fun q hq=>⟨8e3,fun pr hpr=>?_⟩⟩⟩;have sq:=Zc (o:=.tup wsl) hq;have s6:=(Z.trans sq).trans (Zc (o:=.tup [.str "same",.ref q]) hpr);refine kS pr q l wsl _ B3 (fun ls c h=>by rw [Xc];exact hno ls c h) Za (Zc hpr _ _ Za) (hA'.keep fun b xs e=>s6 _ _ e) (T3.same s6) (Zi0.of off3 (SmF.of s6))
  ·refine Zi 11e7
   rw [Qao (4e3)];refine Z6 fun Gz O=>?_;obtain ⟨ls,c,e1,e2,e3⟩:=hex;refine O ?_;clear O Gz;refine Xr ⟨_,rfl,_,rfl,p,_,1,_,rfl,rfl,SqT.of (Z _ _ hp'),rfl,_,rfl,fm,nm,0,_,_,w,.bl true,true,rfl,M3'.same Z,R,R.pos,hrl,hn3,hnd,hw1,by lia,.inl ⟨rfl,_,rfl⟩,(fun r hr x hx=>by obtain ⟨t,rfl⟩:=hbl r hr x hx;exact .inl ⟨rfl,_,rfl⟩),⟨ls++[c],by rw [Qae];exact e1,e2,by rw [Xc];exact e3⟩,fun r d kvs H6 fr hd hd6 Tb s6=>⟨23e9,fun pr hpr=>?_⟩⟩;have s7:=Zc (o:=.tup [.str "parted",.int (w:Int),.ref d]) hpr;have s47:=((SmF.of Z).trans s6).trans (SmF.of s7);have hdH:H d=none:=by
    cases e:H d with
    | none=>rfl
    | some o =>
     have hdt:d≠t.aa:=fun z=>by
      have:=T3.same Z;obtain ⟨pz5,hz5⟩:=this.ex;rw [z,hz5] at hd;cases hd
     have:=Z _ _ (off3 d o e hdt);rw [hd] at this;cases this
   exact kP pr d w r kvs l _ B3 fr hw1 (fun ls c h h2=>hmin ls c h (by rw [Xc] at h2;exact h2)) Za hdH (s7 _ _ hd6) Tb (Yq.smf T3 s47) (Zi0.of off3 s47)
inductive J9(w:World)(pw:Addr)(vs:List V)(H:Hp)(Q:VK):Prop
 | mk (tw tn:Addr) (ws:List V) (nm:1e3) (B kc:Nat):(vs=[.ref tw,.ref tn])->(H tw=some (.tup ws))->(ws.length<=100)->(H tn=some (.tup (nm.map V.str)))->(nm.Nodup)->(nm.length<=3)->((∀w∈ws,yk nm w))->(XU ws)->(yj ws=1)->((∀z:Int,V.int z∈ws->0<=z/\z < 2 ^ B))->(kc=Y5 ws)->((B + 1) * 2 ^ kc<=1000000)->(Yq H pw Zw Zt)->(∀m (l:13e8) H',BfE 32e9 (0,List.replicate kc 0) l->M4 H' m nm 0 (rnG 32e9 l) (l.map (otT nm (Y4 (7e1) nm) ws (.int 0) (.int 1)))->Yq H' pw Zw Zt->Zng pw H H'->Q (.ref m) H')->J9 w pw vs H Q
def qr(P:Program)(w:World)(K:PySem.W.Frag)(mg:2e9)(base:Heap)(q:Addr):Sp:=fun vs H Q _=>J9 w q vs H Q
theorem yF (T:3e9) (TB:3e8):ZH P w K mg base CX0 15 t.nj t.nq ["words","names"] (qr P w K mg base t.ae):=by
 have q:ZH P w K mg base CX0 14 t.et t.bq ["words","names","told"] (Wf P w K mg base t.ae):=qp T TB;refine T.ax.F.ok yB 3e7 6e9
 ·obtain ⟨tw,tn,ws,nm,B,kc,rfl,Z,hl,hn,D,G,hw,he,I,hB,J,C,hT,k⟩:=h
  rfl
 ·obtain ⟨tw,tn,ws,nm,B,kc,rfl,Z,hl,hn,D,G,hw,he,I,hB,J,C,hT,k⟩:=h
  show 8;refine ⟨_,@QSs.out _ _ _ (Zf (Zp (Zl q 3e2 rfl T.bw.m T.bw.F.kp T.bw.b .nil ZI (Zk (qv 0) (Zk (qv 1) (Zk (ZL (Zk Zd (Zk Zd Ze))) Ze)))))),?_⟩;show 9
  show 6
  refine ⟨_,rfl,_,rfl,8e3,fun tt Y=>?_⟩;have O:=Zc (o:=.tup [.int 0,.int 1]) Y;exact ⟨tw,tn,tt,ws,nm,.int 0,.int 1,B,kc,rfl,O _ _ Z,hl,O _ _ hn,D,G,Za,hw,he,I,hB,J,C,hT.same O,fun m l H' h1 h2 h3 h4=>k m l H' h1 h2 h3 fun b o e hb=>h4 _ _ (O _ _ e) hb⟩
inductive qt(w:World)(pw pc:Addr)(vs:List V)(H:Hp)(Q:VK):Prop
 | mk (t1 t2:Addr) (u v:List V):(vs=[.ref t1,.ref t2])->(H t1=some (.tup u))->(H t2=some (.tup v))->((∀x∈u++v,qY x))->((u++v).length<=60)->((∀ms:1e3,Jv u v ms->POk ms false u/\POk ms false v))->(11 * 2 ^ Y5 u * (11 * 2 ^ Y5 v)<=1000000)->(Yq H pw Zw Zt)->(Yq H pc Z2 Z3)->((∀p q ms l1 l2 l ws H',Jv u v ms->BfE (nxS ms u) (0,List.replicate (Y5 u) 0) l1->BfE (nxS ms v) 19e6 l2->BfE 25e6 (pK 0 0) l->(∀ls:1e1,ls≠[]->(∀x∈ls,x < 2 ^ ms.length)->¬Dff ms u v ls)->H' p=some (.tup [.str "same",.ref q])->H' q=some (.tup ws)->StA (.key kn2) H' l ws->Yq H' pw Zw Zt->Yq H' pc Z2 Z3->OffG pw pc H H'->Q 3e5 H'))->((∀p d w r kvs ms H',Jv u v ms->wH ms u v w r->H' p=some (.tup [.str "parted",.int (w:Int),.ref d])->H d=none->H' d=some 4e1->Tab kvs ms (fun y=>(valN (ixG ms y) r:Int))->Yq H' pw Zw Zt->Yq H' pc Z2 Z3->OffG pw pc H H'->Q 3e5 H'))->qt w pw pc vs H Q
def GB(P:Program)(w:World)(K:PySem.W.Frag)(mg:2e9)(base:Heap)(q C:Addr):Sp:=fun vs H Q _=>qt w q C vs H Q
theorem wZ (T:3e9) (TB:3e8):ZH P w K mg base CX0 16 t.ra t.rb 17e7 (GB P w K mg base t.ae t.aa):=by
 have C:ZH P w K mg base CX0 14 t.cz t.bh 17e7 (Xx K t.aa):=JM T TB;have D:ZH P w K mg base CX0 15 t.nj t.nq ["words","names"] (qr P w K mg base t.ae):=yF T TB;have G:ZH P w K mg base CX0 3 t.pk t.qs ["words"] (zI K):=wY T TB;refine T.lh.F.ok zA 3e7 6e9
 ·obtain ⟨t1,t2,u,v,rfl,h1,h2,hSI,h60,hPK,hbig,TW,TC,kS,kP⟩:=h
  rfl
 ·obtain ⟨t1,t2,u,v,rfl,h1,h2,hSI,h60,hPK,hbig,TW,TC,kS,kP⟩:=h
  show 8;refine ⟨_,@QSs.out _ _ _ (Zb (Zo (i:=2) zA.nd rfl 1e7 (Zl G 3e2 rfl T.lg.m T.lg.F.kp T.lg.b .nil ZI (Zk (Zm Gs (qv 0) (qv 1)) Ze)))
    (Zf (Zp (Zl C 3e2 rfl T.bj.m T.bj.F.kp T.bj.b .nil ZI (Zk (Zl D 3e2 rfl T.ax.m T.ax.F.kp T.ax.b .nil ZI (Zk (qv 0) (Zk (qv 2) Ze))) (Zk (Zl D 3e2 rfl T.ax.m T.ax.F.kp T.ax.b .nil ZI (Zk (qv 1) (Zk (qv 2) Ze))) Ze)))))),?_⟩
  clear hu
  show 6
  refine L2.let2 ?_;intro U1;have hne:t.aa≠t.ae:=T.oh.symm;refine ⟨_,rfl,_,rfl,t1,t2,u,v,rfl,rfl,h1,h2,Qa0 (Zn (by rw [Qae] at h60;lia)),fun c H1 hc1 s1=>?_⟩;refine ⟨c,u++v,rfl,hc1,hSI,h60,fun tn H2 ms htn0 htn s2 hpm hsr=>Zi ?_⟩;have N:Jv u v ms:=⟨hpm,hsr⟩;obtain ⟨J,Y⟩:=hPK ms N;have f1:=J.sg.ty.facts;have f2:=Y.sg.ty.facts;have I:=s1.trans s2;refine ⟨_,rfl,_,rfl,t1,tn,u,ms,10,_,rfl,I _ _ h1,J.ln,htn,J.nd,J.n3,J.wc,f1.2.1,f1.2.2,J.iz,rfl,J.big,TW.same I,fun m1 l1 H3 B1 M1 TW3 o3=>?_⟩;have TC2:=TC.same I;have TW2:=TW.same I;obtain ⟨pz2,hz2⟩:=TW2.ex;have TC3:=TC2.other hne ⟨pz2,hz2⟩ o3;refine ⟨_,rfl,_,rfl,t2,tn,v,ms,10,_,rfl,o3.tup hz2 (I _ _ h2),Y.ln,o3.tup hz2 htn,Y.nd,Y.n3,Y.wc,f2.2.1,f2.2.2,Y.iz,rfl,Y.big,TW3,fun m2 l2 H4 B2 M2 TW4 o4=>?_⟩;obtain ⟨pz3,hz3⟩:=TW3.ex;have TC4:=TC3.other hne ⟨pz3,hz3⟩ o4;have R1:=J.runs B1 (.int 0) (.int 1);have R2:=Y.runs B2 (.int 0) (.int 1);have hk:∀{ws:List V} {l:13e8},∀r∈l.map (otS ms ws),∀x∈r,XH false x:=fun {ws l} r hr x hx=>by
   obtain ⟨s,_,rfl⟩:=Qay.mp hr;obtain ⟨c,_,rfl⟩:=Qay.mp hx
   split
   ·exact .inr ⟨rfl,_,rfl⟩
   ·exact .inr ⟨rfl,_,rfl⟩
  have hnn:(rnG (nxS ms u) l1).length * (rnG (nxS ms v) l2).length<=1000000:=by
   rw [XI,XI];exact Qbd (Nat.mul_le_mul (J.len2 B1) (Y.len2 B2)) hbig
  have off:∀{O:Hp},Zi0 t.aa H4 O->OffG t.ae t.aa H O:=fun {O} o5 b o e hb1 hb2=>o5 b o (o4 _ _ (o3 _ _ (I _ _ e) hb1) hb1) hb2;have tw5:∀{O:Hp},Zi0 t.aa H4 O->Yq O t.ae Zw Zt:=fun {O} o5=>by
   obtain ⟨pz4,hz4⟩:=TC4.ex;have at5:∀{b:Addr} {o:HO},H4 b=some o->b≠t.aa->(∀kvs,o≠.dK kvs)->O b=some o:=fun {b o} e hb hn=>by
    rcases o5 b o e hb with z | ⟨kvs,_,z,_⟩
    ·exact z
    ·exact absurd z (hn kvs)
   rcases TW4 with h | ⟨c',oc,g1,Z,g3⟩
   ·exact .inl (at5 h hne.symm 7e8)
   ·exact .inr ⟨c',oc,at5 g1 hne.symm (7e8),at5 Z (fun z=>by rw [z,hz4] at Z;cases Z) (7e8),g3⟩
  obtain ⟨pz3,hz3⟩:=TW3.ex;refine ⟨m1,m2,ms,0,0,_,_,_,_,false,rfl,M1.tups (fun b xs e=>o4.tup hz3 e),M2,R1,R2,R1.pos,R2.pos,hnn,J.n3,J.nd,hk,hk,TC4,fun p q l ws O B hno g1 Z g3 g4 g5=>?_,fun p d w r kvs l O B F hw hm g1 Z g3 g4 g5 g6=>?_⟩
  ·refine kS p q ms l1 l2 l ws O N B1 B2 B (fun ls hl hls hd=>?_) g1 Z g3 (tw5 g5) g4 (off g5)
   obtain ⟨t0,c,rfl⟩:=y6 hl;have:=(y7 J Y B1 B2 B hls).mpr hd;rw [hno t0 c hls] at this;cases this
  ·have hdH:H d=none:=by
    cases e:H d with
    | none=>rfl
    | some o =>
     have n1:d≠t.ae:=fun z=>by
      obtain ⟨pz4,hz4⟩:=TW4.ex;rw [z,hz4] at Z;cases Z
     have:=o4 _ _ (o3 _ _ (I _ _ e) n1) n1;rw [Z] at this;cases this
   exact kP p d w r kvs ms O N (Zae J Y B1 B2 B hw F hm) g1 hdH g3 g4 (tw5 g6) g5 (off g6)
inductive uw(K:PySem.W.Frag)(pw pc:Addr)(vs:List V)(H:Hp)(Q:VK):Prop
 | mk (a:Addr) (ns:1e5):(vs=[.ref a])->(SqL K H a (ns.map V.int))->(ns.length<=63)->(Yq H pw Zw Zt)->(Yq H pc Z2 Z3)->(∀H',Q 8e9 H')->uw K pw pc vs H Q
def kg(K:PySem.W.Frag)(C q:Addr):Sp:=fun vs H Q _=>uw K C q vs H Q
theorem ok_law (T:3e9) (TB:3e8):ZH P w K mg base CX0 17 t.vb t.vl ["script"] (kg K t.ae t.aa):=by
 have G_law_is_parted:ZH P w K mg base CX0 2 t.fx t.fy ["found","width","words"] (Xp K):=x8 T TB;have G_compared:ZH P w K mg base CX0 16 t.ra t.rb 17e7 (GB P w K mg base t.ae t.aa):=wZ T TB;have G_law_within:ZH P w K mg base CX0 1 t.nh t.ni ["cell","words","more"] (qj K):=yE T TB;have G_law_two:ZH P w K mg base CX0 1 t.ri t.rj 30e0 (jD K):=Zaj T TB;have G_law_two_numbers:ZH P w K mg base CX0 1 t.dw t.dy ["cell"] (Wb K):=qi T TB;have G:ZH P w K mg base CX0 1 t.md t.me ["script","k"] (JY K):=jc T TB;have G_law_names:ZH P w K mg base CX0 2 t.ox t.oy ["cell","many"] (xm K):=ke T TB;refine T.aab.F.ok YA 3e7 6e9
 ·obtain ⟨a,ns,rfl,hS,h63,TW,TC,k⟩:=h
  rfl
 ·obtain ⟨a,ns,rfl,hS,h63,TW,TC,k⟩:=h
  show 8;refine ⟨_,@QSs.out _ _ _ (Zb (Zo (i:=1) YA.nd rfl 1e7 (Zv jI 2e8 T.tq Zb4 (Zk 34e0 Ze)))
    (Zb (Zo (i:=2) YA.nd rfl 1e7 (Zl G_law_names 3e2 rfl T.ik.m T.ik.F.kp T.ik.b .nil ZI (Zk 34e0 (Zk Zd Ze))))
    (Zb (Zo (i:=3) YA.nd rfl 1e7 (Zm ZW (qv 1) Zd))
    (Zb (Zo (i:=4) YA.nd rfl 1e7 (Zq Zu (qv 2) (qv 3) 1e6))
    (Zb (Zo (i:=5) YA.nd rfl 1e7 (Xz (SlR.or Zbm k4) (Zm Gs (Xz (SlR.or Zbm k4) (qv 2) W2 (W3 (qv 3))) (Xz (SlR.or Zbm k4) (qv 2) (W3 (Zm Y6 (qv 3) Zd)) W2)) W2 (W3 30e1)))
    (Zb (qs_asg (Zl G_law_two_numbers 3e2 rfl T.br.m T.br.F.kp T.br.b .nil ZI (Zk (Zv jI 2e8 T.tq Zb4 (Zk 34e0 Ze)) Ze)) (jT rfl (ZP (i:=6) YA.nd rfl 1e7) (ZP (i:=7) YA.nd rfl 1e7)))
    (Zb (Zo (i:=8) YA.nd rfl 1e7 Zd)
    (Zb (gu Qbq (Zz XO (Zm ZW (qv 6) (Zm gg Zd (qv 8))) (Zm ZW (qv 7) (Zm gg Zd (qv 8))) (ZG _))
    (Zf (Zo (i:=8) YA.nd rfl 1e7 (Zm Y6 (qv 8) Zd))))
    (Zb (Zo (i:=9) YA.nd rfl 1e7 xT)
    (Zb (YH Qbq rfl (WS (qv 5)) (ZP (i:=10) YA.nd rfl 1e7)
    (Zf (W5 hu (qv 9) (qv 10) Zd rfl)))
    (Zb (Zo (i:=11) YA.nd rfl 1e7 30e1)
    (Zb (Yi (Zz Zff (qv 11) Zd (ZG _))
    (Zb (Zo (i:=12) YA.nd rfl 1e7 (Zl G_law_two 3e2 rfl T.ny.m T.ny.F.kp T.ny.b .nil ZI (Zk (qv 11) (Zk (qv 4) (Zk (qv 6) (Zk (qv 7) Ze))))))
    (Zb (Yi (Zz op_gt (qv 11) Zd (ZG _))
    (Zf (W5 hu (qv 9) (qv 4) Zd rfl)) Z7)
    (Zf (Yi (Zz XO (qv 11) Zd (ZG _))
    (Zf (W5 hu (qv 9) (qv 4) (Zm gg Zd (Zm yJ (qv 8) Zd)) rfl)) Z7)))) (Zb (Zo (i:=8) YA.nd rfl 1e7 (Zm Y6 Zd 30e1))
    (Zb (Zo (i:=12) YA.nd rfl 1e7 (ZL (Zk (Zm Gs (Zm kW (ZL (Zk Zx Ze)) (Zm yJ (qv 8) Zd)) (ZL (Zk (qv 4) Ze))) (Zk (ZL (Zk Zd Ze)) Ze))))
    (Zf (W5 hu (qv 9) (qv 4) Zd rfl)))))
    (Zb (Zo (i:=13) YA.nd rfl 1e7 (Zm Wx 30e1 (Z9 Zbd 2e8 T.rz gj (Zk (X6 Zff (qv 11) Zd (ZG _)) Ze))))
    (Zb (Zo (i:=8) YA.nd rfl 1e7 (Zm Y6 (qv 8) (qv 13)))
    (Zb (Zo (i:=14) YA.nd rfl 1e7 36e7)
    (Zb (Zo (i:=15) YA.nd rfl 1e7 36e7)
    (Zb (Yi (Zz XO 30e1 Zd (ZG _))
    (Zf (qs_par (i:=14) (j:=15) rfl YA.nd rfl rfl 1e4 rfl rfl (Zk (qv 15) (Zk (qv 14) Ze)) rfl)) Z7)
    (Zf (Zp (Zl G_law_is_parted 3e2 rfl T.cu.m T.cu.F.kp T.cu.b .nil ZI (Zk (Zl G_compared 3e2 rfl T.lh.m T.lh.F.kp T.lh.b .nil ZI (Zk (qv 14) (Zk (qv 15) Ze))) (Zk (qv 8) (Zk (qv 9) Ze))))))))))))))))))))))),?_⟩
  show 6
  refine ⟨_,rfl,a,ns,0,rfl,hS,fun c0=>⟨_,rfl,Zi ?_⟩⟩;have hsh:0<=(if c0 < 0 then -c0 else c0):=by split <;> lia
  generalize (if c0 < 0 then -c0 else c0)=sh at *;refine ⟨_,rfl,a,ns,1,rfl,hS,fun c1=>⟨c1,3,rfl,4e0,fun tn D H1 htn0 htn h3 hnd hnm s1=>Zi ?_⟩⟩;refine ⟨_,rfl,_,_,rfl,rfl,(by show (0:Int) < 3;decide),Zi ?_⟩
  show 10
  obtain ⟨Z,htu,htu3⟩:∃Z:Nat,sh % 3=(Z:Int)/\Z < 3:=⟨(sh % 3).toNat,by lia,by lia⟩;rw [htu];obtain ⟨C,hnv⟩:∃C,D[Z]?=some C:=⟨_,Qag 1e2⟩;have hnm1:NmS C:=hnm C (Qam hnv);refine ⟨_,rfl,_,rfl,tn,_,_,_,rfl,rfl,SqT.of htn,Yk (show (D.map V.str)[Z]?=some (.str C) by rw [Qaj,hnv];rfl),Zi ?_⟩;refine ⟨_,rfl,_,rfl,_,rfl,ze htn fun q1 H2 hq1 s2=>⟨_,rfl,_,rfl,_,_,rfl,rfl,_,rfl,ze (s2 _ _ htn) fun q2 H3 hq2 s3=>⟨q1,q2,_,_,rfl,rfl,s3 _ _ hq1,hq2,?_,fun q3 H4 hq3 s4=>⟨_,rfl,_,_,rfl,rfl,15e0,_,_,rfl,rfl,(by show (0:Int) < 3;decide),_,rfl,ze hq3 fun q4 H5 hq4 s5=>Zi ?_⟩⟩⟩⟩
  ·have l1:=Wv (D.map V.str) none (some (Z:Int))
   have l2:=Wv (D.map V.str) (some ((Z:Int) + 1)) none;rw [Qac] at l1 l2;exact Qa0 (Zn (by show (zJ (D.map V.str) none (some (Z:Int))).length + (zJ (D.map V.str) (some ((Z:Int) + 1)) none).length<=1000;lia))
  obtain ⟨mm,hmm,hmm3⟩:∃mm:Nat,sh / 3 % 3=(mm:Int)/\mm < 3:=⟨(sh / 3 % 3).toNat,by lia,by lia⟩;have hq4:H5 q4=some (.tup ((26e3).map V.str)):=by
   rw [hq4];show some (HO.tup (zJ (zJ (D.map V.str) none (some (Z:Int))++zJ (D.map V.str) (some ((Z:Int) + 1)) none) none (some (sh / 3 % 3))))=_;rw [hmm,JG,GV,show (Z:Int) + 1=((Z + 1:Nat):Int) from rfl,JG,v5,<-Qbc,JG,GV]
  have perm:D.Perm (C::(D.take Z++D.drop (Z + 1))):=by
   have e:D=D.take Z++C::D.drop (Z + 1):=by rw [<-qP hnv,Qdh]
   exact (List.Perm.of_eq e).trans List.perm_middle
  have nd2:=Qce.mp (perm.nodup_iff.mp hnd);have hes:(26e3).length<=2/\(26e3).Nodup/\C∉26e3/\∀y∈26e3,NmS y :=
   ⟨by rw [Qa6];lia,nd2.2.sublist (Qhe _ _),fun z=>nd2.1 (Qc7 z),fun y hy=>hnm y (perm.mem_iff.mpr (Qal _ (Qc7 hy)))⟩
  generalize 26e3=es at *;obtain ⟨es2,esd,esn,esm⟩:=hes;have s15:=s1.trans ((s2.trans (s3.trans s4)).trans s5);have hS5:=Zgo hS s15;refine ⟨_,rfl,a,ns,2,rfl,hS5,fun c2=>⟨_,rfl,_,rfl,(by split <;> lia),fun tp x y H6 hx hy hxy htp s6=>⟨tp,_,rfl,SqT.of htp,rfl,_,_,rfl,Zi ⟨_,_,rfl,Zi ⟨rfl,Zi ?_⟩⟩⟩⟩⟩;have hq6:=s6 _ _ hq4;have p1:∀J:Nat,(1:Int) * 2 ^ (13e0).toNat=2 ^ (J + 1):=fun J=>by rw [Qh8,show (13e0).toNat=J + 1 by lia]
  refine Zc1 (fun σ H'=>∃J:Nat,σ=[some 3e1,some (.int sh),some (.ref tn),some (.int (Z:Int)),some (.str C),some (.ref q4),some (.int x),some (.int y),some (.int (13e0)),none,none,none,none,none,none,none]/\J<=9/\x % 2 ^ J=y % 2 ^ J/\H'=H6) (fun σ _=>match σ with | [_,_,_,_,_,_,_,_,some (.int m),_,_,_,_,_,_,_]=>(20 - m).toNat | _=>0) ⟨0,rfl,4e0,by rw [Qdr,Qfq,Qfq],rfl⟩ ?_;rintro σ H7 hz_;show 18;obtain ⟨J,rfl,hw9,hxw,rfl⟩:=hz_;refine hGz ?_;clear hGz Gz;have cp:CPow 1 (13e0):=⟨by lia,by lia,4e0⟩;have pp:(0:Int) < 1 * 2 ^ (13e0).toNat:=by rw [p1];exact YO _
  refine ⟨_,rfl,_,rfl,_,_,rfl,rfl,cp,_,_,rfl,rfl,pp,_,rfl,_,rfl,_,_,rfl,rfl,cp,_,_,rfl,rfl,pp,rfl,_,rfl,?_⟩;refine 18e5
  ·have e1:x % 2 ^ (J + 1)=y % 2 ^ (J + 1):=by
    have:=Qa1 hb;injection this with this;rw [p1] at this;exact this
   have hw8:J + 1<=9:=by
    rcases Qc9 (J + 1) 10 with z | z
    ·lia
    ·exfalso
     have hw:J=9:=by lia
     rw [hw] at e1;have:x % 1024=y % 1024:=e1;lia
   refine ⟨fun σ' H'=>σ'=[some 3e1,some (.int sh),some (.ref tn),some (.int (Z:Int)),some (.str C),some (.ref q4),some (.int x),some (.int y),some (.int (13e0 + 1)),none,none,none,none,none,none,none]/\H'=H7,?_,⟨_,rfl,_,_,rfl,rfl,Zi 6e5⟩⟩;rintro σ' H' hz_;show 18;obtain ⟨rfl,rfl⟩:=hz_;refine hGz ?_;clear hGz Gz;exact ⟨(20 - (13e0 + 1)).toNat,by show (20 - (13e0 + 1)).toNat < (20 - (13e0)).toNat;lia,rfl,J + 1,rfl,hw8,e1,rfl⟩
  have L:Zep x y J:=⟨⟨hx,hy⟩,hxw,fun z=>hb (Qah (show V.int (x % (1 * 2 ^ (13e0).toNat))=V.int (y % (1 * 2 ^ (13e0).toNat)) by rw [p1,z]))⟩;clear hb cp pp;refine fun wd hwd=>Zi ?_;have sw:=Zc (o:=.dK []) hwd;refine ⟨_,rfl,q4,rfl,⟨_,SqT.of (sw _ _ hq6)⟩,xM (K:=K) (a:=q4) (xs:=es.map V.str) (fun i σ H'=>∃(u10:5e6),σ=[some 3e1,some (.int sh),some (.ref tn),some (.int (Z:Int)),some (.str C),some (.ref q4),some (.int x),some (.int y),some (.int (13e0)),some (.ref wd),u10,none,none,none,none,none]/\H' wd=some (.dK (kvE (es.take i)))/\ZC H7 H') ⟨none,rfl,Za,sw⟩ (fun i σ H' _ ⟨_,_,_,s⟩=>SqT.of (s _ _ hq6)) ?_ ?_⟩
  ·rintro i e0 σ H8 he0 hz_
   show 18;obtain ⟨u10,rfl,h8,s8⟩:=hz_;refine hGz ?_;clear hGz Gz;obtain ⟨e,rfl,he⟩:=zk he0;have hel:e∉es.take i:=fun h=>by
    have hl:=(Qaf.mp he).1;have:(es.take i++es.drop i).Nodup:=by rw [Qdh];exact esd
    refine (Qdg.mp this).2.2 e h e ?_ rfl;rw [qP he];exact Qar
   refine Zi ⟨_,rfl,_,rfl,wd,_,rfl,uH.k (k:=.inr e) h8 (by unfold kvE;rw [Qac,Qa6];exact Zn 1e2),_,rfl,?_,Yz s8 hwd⟩;rw [Za,wL hel,take_snoc he];unfold kvE;rw [Qbc]
   rfl
  rintro σ H8 hz_;show 18;obtain ⟨u10,rfl,h8,s8⟩:=hz_;refine hGz ?_;clear hGz Gz;rw [Qac,Qbi] at h8;refine ⟨_,rfl,_,_,rfl,rfl,15e0,_,_,rfl,rfl,(by show (0:Int) < 8;decide),Zi ?_⟩
  show 10
  obtain ⟨I,hkd,hkd8⟩:∃I:Nat,sh / 9 % 8=(I:Int)/\I < 8:=⟨(sh / 9 % 8).toNat,by lia,by lia⟩;rw [hkd];refine Zfp (fun σ H'=>∃(k:Nat) (g:Int) (tA tB:Tr) (O:10e6) (pr u v:Addr),σ=[some 3e1,some (.int sh),some (.ref tn),some (.int (Z:Int)),some (.str C),some (.ref q4),some (.int x),some (.int y),some (.int ((k:Int) + 1)),some (.ref wd),u10,some (.int (I:Int)),some (.ref pr),none,none,none]/\H' pr=some (.tup [.ref u,.ref v])/\(∀Q R,H' u=some (.tup (tA.flat (ptV O) Q R)))/\(∀Q R,H' v=some (.tup (tB.flat (ptV O) Q R)))/\(∀far:Nat,far<=4->(I=7->far=0)->Rdy tA tB k g O C I far)/\H' wd=some (.dK (kvO es O g))/\ZC H7 H') (fun N hN=>?_) ?_
  ·refine ⟨_,rfl,_,_,rfl,rfl,_,rfl,18e5⟩
   ·have hkd7:I < 7:=by
     have:=Qa1 hb;lia
    refine ⟨_,rfl,_,rfl,_,rfl,_,rfl,I,C,x,y,rfl,hkd7,fun pr u v H9 hpr hu hv s9=>Zi ?_⟩;have h9:=s9 _ _ h8;have s89:=s8.trans s9;have szz:(kvE es).length < sizeLine:=by unfold kvE;rw [Qac];exact Zn 1e2
    by_cases k0:I=0
    ·subst k0
     refine ⟨_,rfl,_,_,rfl,rfl,_,rfl,Xr 11e7⟩;rw [Qao (by intro z;injection z with z;cases z)];refine Xr (hN _ _ ⟨J,0,.num x,.num y,none,pr,u,v,rfl,hpr,fun _ _=>hu,fun _ _=>hv,fun far hf _=>⟨L.k0,4e0,YO _,6e4,fun _=>rfl,fun z=>absurd rfl z,⟨by show 0 + far<=5;lia,by show 0 + far<=5;lia⟩,⟨by show 1<=15;decide,by show 1<=15;decide⟩,⟨by show 0<=6;decide,by show 0<=6;decide⟩,hf,⟨by show 1 + far<=8;lia,by show 1 + far<=8;lia⟩⟩,?_,s89⟩);unfold kvO;rw [Qbv];exact h9
    ·have rdy:∀g,ZO (YT I x) (YT I y) J g->(g=0\/g=2 ^ J)->∀far:Nat,far<=4->(I=7->far=0)->Rdy (YT I x) (YT I y) J g (some C) C I far:=fun g P hg far hf _=>by
      have e:∀z:Int,(YT I z).u 0=true/\(YT I z).rm<=1/\(YT I z).sz=9/\(YT I z).rs=2/\(YT I z).ln=3:=fun z=>by
       unfold YT;rw [Qau k0]
       split
       ·exact ⟨rfl,by show 0 + 0 + (if ("sub" : Str)∈allR then 1 else 0)<=1;split <;> decide,rfl,rfl,rfl⟩
       ·exact ⟨rfl,by show 0 + 0 + (if JQ I∈allR then 1 else 0)<=1;split <;> decide,rfl,rfl,rfl⟩
      have ex:=e x;have ey:=e y;have pw:=YO J;have ps:(2:Int) ^ (J + 1)=2 ^ J * 2:=Qdq ..;exact ⟨P,by rcases hg with z | z <;> lia,by rcases hg with z | z <;> lia,.inr rfl,(4e3),(fun _=>ex.1),17e3,17e3,17e3,hf,17e3⟩
     have put1:putK (kvE es) (.inr C) (.int 0)=kvO es (some C) 0:=wL esn _;refine ⟨_,rfl,_,_,rfl,rfl,_,rfl,?_⟩;rw [Qah (show (0:Int) < (I:Int) by lia)];refine Jh ⟨_,rfl,_,rfl,wd,_,rfl,uH.k (k:=.inr C) h9 szz,?_⟩;have hw10:upd H9 wd (.dK (putK (kvE es) (.inr C) (.int 0))) wd=some (.dK (kvO es (some C) 0)):=by rw [Za,put1]
     have s10:ZC H7 (upd H9 wd (.dK (putK (kvE es) (.inr C) (.int 0)))):=Yz s89 hwd;have nw:∀{b:Addr} {xs:List V} {o:HO},H9 b=2e2->upd H9 wd o b=2e2:=fun {b xs o} z=>by rw [Zh (Xn z h9 fun q=>nomatch q)];exact z
     refine 11e7
     by_cases k6:I=6
     ·subst k6
      rw [Qah 2e8];refine Jh ⟨_,rfl,_,_,rfl,rfl,_,_,rfl,rfl,⟨by lia,by lia,4e0⟩,_,rfl,_,rfl,wd,_,rfl,uH.k (k:=.inr C) hw10 (by rw [wM];exact Zn (by rw [Qae];show _ + 1<=1000;lia)),?_⟩;have eg:(1:Int) * 2 ^ ((13e0) - 1).toNat=2 ^ J:=by rw [Qh8,show (13e0 - 1).toNat=J by lia]
      obtain ⟨g,hg,P⟩:=L.kp "and" 1e4;have hg:g=2 ^ J:=hg;subst hg;refine hN _ _ ⟨J,2 ^ J,YT 6 x,YT 6 y,some C,pr,u,v,rfl,?_,fun Q R=>?_,fun Q R=>?_,rdy _ P (.inr rfl),?_,Yz s10 hwd⟩
      ·rw [Gh];exact nw hpr
      ·rw [Gh,JI 6 x _ Q R [.int 0] [.int 0]];exact nw hu
      ·rw [Gh,JI 6 y _ Q R [.int 0] [.int 0]];exact nw hv
      ·rw [Za]
       show some (HO.dK (putK (kvE es++[(.inr C,.int 0)]) (.inr C) (.int (1 * 2 ^ (13e0 - 1).toNat))))=_;rw [eg,Zew (by rw [qQ,Qau esn])]
       rfl
     ·rw [Qao (fun z=>k6 (by injection z with z;lia))]
      have P:ZO (YT I x) (YT I y) J 0:=by
       by_cases k1:I=1
       ·subst k1
        exact L.k1
       ·have hs:JQ I∈26e0/\JQ I ≠ "and" := (1e0:∀I∈[2,3,4,5],JQ I∈26e0/\JQ I ≠ "and") I (by show 14;lia)
        obtain ⟨g,hg,P⟩:=L.kp (JQ I) hs.1;rw [Qau hs.2] at hg;subst hg;unfold YT;rw [Qau k0,Qau k1,Qau k0,Qau k1];exact P
      refine Xr (hN _ _ ⟨J,0,YT I x,YT I y,some C,pr,u,v,rfl,nw hpr,fun Q R=>?_,fun Q R=>?_,rdy _ P (6e4),hw10,s10⟩)
      ·rw [JI I x _ Q R [.int 0] [.int 0]];exact nw hu
      ·rw [JI I y _ Q R [.int 0] [.int 0]];exact nw hv
   ·have k7:I=7:=by
     rcases Qc9 I 7 with z | z
     ·exact absurd (Qah (show (I:Int) < 7 by lia)) hb
     ·lia
    refine ⟨_,rfl,_,_,rfl,rfl,15e0,_,_,rfl,rfl,(by show (0:Int) < 5;decide),_,_,rfl,rfl,Zi ?_⟩
    show 10
    obtain ⟨n,hn,hn1,hn5⟩:∃n:Nat,2 + sh / 72 % 5=(n:Int) + 1/\1<=n/\n<=5:=⟨(1 + sh / 72 % 5).toNat,by lia,by lia,by lia⟩;rw [hn];refine ⟨18e6,fun t1 ht1=>⟨_,rfl,_,_,rfl,rfl,t1,n,_,rfl,by show V.int ((n:Int) + 1 - 1)=_;rw [show (n:Int) + 1 - 1=n by lia],Za,by lia,(4e3),Qa0 (Zn (by show 1 * n<=1000;lia)),fun t2 H9 ht2 s9=>⟨_,rfl,18e6,fun t3 ht3=>⟨t2,t3,_,_,rfl,rfl,Zc ht3 _ _ ht2,Za,?_,fun t4 H10 ht4 s10=>⟨18e6,fun t5 ht5=>⟨8e3,fun pr hpr=>Zi ?_⟩⟩⟩⟩⟩⟩
    ·rw [xa,Qa3]
     exact Qa0 (Zn (by show n + 1<=1000;lia))
    have q1:=Zc (o:=.tup [V.str "twice"]) ht1;have q3:=Zc (o:=.tup [V.str C]) ht3;have q5:=Zc (o:=.tup [V.int 0]) ht5;have q6:=Zc (o:=.tup [V.ref t4,V.ref t5]) hpr;have q9:ZC (upd H8 t1 (.tup [V.str "twice"])) H9:=s9;have s11:=((q1.trans q9).trans (q3.trans s10)).trans (q5.trans q6);have h11:=s11 _ _ h8;have ht4':=q6 _ _ (q5 _ _ ht4);have ht5':=q6 _ _ (Za (H:=H10) (a:=t5) (o:=.tup [V.int 0]));have hpr':=Za (H:=upd H10 t5 (.tup [V.int 0])) (a:=pr) (o:=.tup [V.ref t4,V.ref t5]);have s78:=s8.trans s11;generalize upd (upd H10 t5 (.tup [V.int 0])) pr (.tup [V.ref t4,V.ref t5])=H11 at *;refine ⟨_,rfl,_,rfl,wd,_,rfl,uH.k (k:=.inr C) h11 (by unfold kvE;rw [Qac];exact Zn 1e2),?_⟩;have nw:∀{b:Addr} {xs:List V} {o:HO},H11 b=2e2->upd H11 wd o b=2e2:=fun {b xs o} z=>by rw [Zh (Xn z h11 fun q=>nomatch q)];exact z
    obtain ⟨f1,f2,f3,f4⟩:=qc n .p;have f5:=Zex n .p;refine hN _ _ ⟨n,1,twn n .p,.num 0,some C,pr,t4,t5,rfl,nw hpr',fun Q R=>?_,fun Q R=>nw ht5',fun far hf h7=>⟨pair7 n,4e0,?_,.inr rfl,(4e3),(fun _=>by rw [f4];rfl),⟨?_,?_⟩,⟨?_,?_⟩,⟨?_,?_⟩,hf,⟨?_,?_⟩⟩,by rw [Za,wL esn];rfl,Yz s78 hwd⟩
    ·rw [xJ,<-xa]
     exact nw ht4'
    ·have:=YO n
     rw [show (2:Int) ^ (n + 1)=2 ^ n * 2 from Qdq ..];lia
    ·rw [f1,h7 k7];show 0 + n + 0<=5;lia
    ·rw [h7 k7];show 0 + 0<=5;lia
    ·rw [f2];show 7 + n<=15;lia
    ·show 1<=15;decide
    ·rw [f3];show 1 + n<=6;lia
    ·show 0<=6;decide
    ·rw [f5,h7 k7];show 1 + n + 0<=8;lia
    ·rw [h7 k7];show 1 + 0<=8;lia
  rintro σ H9 hz_;show 18;obtain ⟨kk,g,tA,tB,O,pr,u,v,rfl,hpr,hu,hv,hR,hwd9,s9⟩:=hz_;refine hGz ?_;clear hGz Gz;have fin:∀(tt uu:Tr) (K0:Nat) (f1 f2:Addr) (wz:Int) (HA:Hp) (Y:List (5e6)),ZO tt uu K0 g->0<=g->g < 2 ^ (K0 + 1)->(O=none->g=0)->(O=none\/O=some C)->wz=(K0:Int) + 1->(∀ms,Jv (tt.flat (ptV O) 10e3 10e4) (uu.flat (ptV O) 10e3 10e4) ms->(ms.Nodup/\∀y,y∈ms↔O=some y\/26e8)/\POk ms false (tt.flat (ptV O) 10e3 10e4)/\POk ms false (uu.flat (ptV O) 10e3 10e4))->11 * 2 ^ Y5 (tt.flat (ptV O) 10e3 10e4) * (11 * 2 ^ Y5 (uu.flat (ptV O) 10e3 10e4))<=1000000->tt.ln + uu.ln<=60->HA f1=some (.tup (tt.flat (ptV O) 10e3 10e4))->HA f2=some (.tup (uu.flat (ptV O) 10e3 10e4))->HA wd=some (.dK (kvO es O g))->ZC H HA ->
    tRet (Zbg (Xp K) [] E0 (yM (Zbg (GB P w K mg base t.ae t.aa) [] E0 (yM (Zau 14) (yM (Zau 15) Zna))) (yM (Zau 8) (yM (Zau 9) Zna)))) { nx:=fun x H'=>Q V.non H',rt:=Q } [some 3e1,some (.int sh),some (.ref tn),some (.int (Z:Int)),some (.str C),some (.ref q4),some (.int x),some (.int y),some (.int wz),some (.ref wd),u10,some (.int (I:Int)),some (.ref pr),Y.getD 0 none,some (.ref f1),some (.ref f2)] HA:=by
   intro tt uu K0 f1 f2 wz HA Y A g0 g1 gz op ew hN hbig hln hf1 hf2 hwA sA;have hall:∀y,O=some y\/26e8->NmS y:=fun y h=>by
    rcases h with h | h
    ·rcases op with z | z
     ·rw [z] at h;cases h
     ·rw [z] at h;cases h;exact hnm1
    ·exact esm y ((z6 es2 y).mpr h)
   have si:=fun (t:Tr) (ht:t.ok=true)=>Tr.si (t:=t) (Zey (o:=O) fun y h=>hall y (.inl h)) (Zey (o:=es[0]?) fun y h=>hall y (.inr (.inl h))) (Zey (o:=es[1]?) fun y h=>hall y (.inr (.inr h))) ht;have ln:=fun (t:Tr)=>Tr.ln_eq (WL O) (WL es[0]?) (WL es[1]?) t;have TWA:=TW.same sA;have TCA:=TC.same sA;refine ⟨_,rfl,_,rfl,f1,f2,_,_,rfl,hf1,hf2,fun z hz=>(Qaz.mp hz).elim (si tt A.ok.1 z) (si uu A.ok.2 z),by rw [Qae,ln,ln];exact hln,fun ms N=>(hN ms N).2,hbig,TWA,TCA,?_,?_⟩
   ·intro p q ms l1 l2 l ws HB N _ _ _ hno
    obtain ⟨⟨nd,mem⟩,P1,_⟩:=hN ms N;obtain ⟨T,t1,t2,t3⟩:=Zg2 P1.n3 nd P1.kp (fun y h=>(mem y).mpr (.inl h)) (fun y h=>(mem y).mpr (.inr (.inl h))) (fun y h=>(mem y).mpr (.inr (.inr h))) A g0 g1 gz;exact absurd t3 (hno T t1 t2)
   ·intro p d w' r kvs ms HB N F e1 e2 e3 e4 e5 e6 e7
    obtain ⟨⟨nd,mem⟩,P1,_⟩:=hN ms N;obtain ⟨hw',vals⟩:=Zaf P1.n3 nd P1.kp (fun y h=>(mem y).mpr (.inl h)) (fun y h=>(mem y).mpr (.inr (.inl h))) (fun y h=>(mem y).mpr (.inr (.inr h))) A g0 g1 gz F;have hwp:wd≠t.ae:=fun z=>by obtain ⟨pz,hz⟩:=TWA.ex;rw [z,hz] at hwA;cases hwA
    have hwc:wd≠t.aa:=fun z=>by obtain ⟨pz,hz⟩:=TCA.ex;rw [z,hz] at hwA;cases hwA
    have rdw:Rd HB wd (.dK (kvO es O g)):=by
     rcases e7 wd _ hwA hwp hwc with z | ⟨kvs',o,z,z2⟩
     ·exact .inl z
     ·cases z
      exact .inr ⟨o,z2⟩
    have hdw:d≠wd:=fun z=>by rw [z,hwA] at e2;cases e2
    have onn:∀y,O=some y->y∉es:=fun y h=>by
     rcases op with z | z
     ·rw [z] at h;cases h
     ·rw [z] at h;cases h;exact esn
    have ksd:(es++O.toList).Nodup:=Qdg.mpr ⟨esd,by cases O <;> simp,fun y hy z hz e=>by
     cases O with
     | none=>cases hz
     | some q =>
      have:z=q:=Qak.mp hz;subst e;exact onn y (by rw [this]) hy⟩
    have ksm:∀y,y∈es++O.toList↔O=some y\/26e8:=fun y=>by
     rw [Qaz,z6 es2 y];have:y∈O.toList↔O=some y:=by cases O <;> simp [eq_comm]
     rw [this];exact or_comm
    have hlen:kvs.length=(kvO es O g).length:=by rw [e4.len_nd nd,wM];exact Zet nd mem ksd ksm
    refine ⟨_,rfl,_,rfl,p,d,wd,wz,kvs,_,rfl,by rw [e1,ew,hw'];rfl,e3,hdw,rdw,hlen,?_,fun q hq=>?_,k⟩
    ·rw [wM,Qae]
     have:O.toList.length<=1:=by cases O <;> simp
     lia
    ·obtain ⟨y,z,rfl,z1,z2,z3⟩:=Zlq onn q hq
     refine ⟨y,z,rfl,?_,z3⟩;have hy:y∈ms:=(mem y).mpr (by
      rcases z2 with h | h
      ·exact .inr ((z6 es2 y).mp h)
      ·exact .inl h)
     rw [e4.val y hy,vals _ y (Zix hy),z1]
  have hfa:∃fa:Nat,sh / 1440 % 5 * (if decide ((I:Int) < 7)=true then 1 else 0)=(fa:Int)/\fa<=4/\(I=7->fa=0):=by
   by_cases h7:(I:Int) < 7
   ·rw [Qaw (Qah h7)]
    exact ⟨(sh / 1440 % 5).toNat,by lia,by lia,fun z=>by lia⟩
   ·rw [Qau (fun z=>h7 (Qa1 z))]
    exact ⟨0,by lia,by lia,fun _=>rfl⟩
  obtain ⟨fa,efa,fa4,fa7⟩:=hfa;have R:=hR fa fa4 fa7;refine ⟨_,rfl,_,_,rfl,rfl,15e0,_,_,rfl,rfl,(by show (0:Int) < 5;decide),_,rfl,_,_,rfl,rfl,.inr ⟨_,rfl,_,_,rfl,rfl,.inr (.inl 17e3),Zi ?_⟩⟩
  show 10
  rw [efa];refine ⟨_,rfl,_,rfl,_,_,rfl,rfl,Zi ?_⟩;have hq9:=s9 _ _ hq6;have l1:(tA.flat (ptV O) 10e3 10e4).length<=8:=by rw [Tr.ln_eq (WL O) (WL es[0]?) (WL es[1]?)];have:=R.ln;lia
  have l2:(tB.flat (ptV O) 10e3 10e4).length<=8:=by rw [Tr.ln_eq (WL O) (WL es[0]?) (WL es[1]?)];have:=R.ln;lia
  refine ⟨_,rfl,_,_,rfl,rfl,15e0,18e6,fun t1 ht1=>⟨_,rfl,t1,fa,_,rfl,rfl,Za,by lia,(4e3),Qa0 (Zn (by show 1 * fa<=1000;lia)),fun t2 HA ht2 sA=>⟨_,rfl,pr,_,0,_,rfl,rfl,SqT.of (sA _ _ (Zc ht1 _ _ hpr)),rfl,t2,u,_,_,rfl,rfl,ht2,sA _ _ (Zc ht1 _ _ (hu 10e3 10e4)),?_,fun t3 HB ht3 sB=>⟨_,rfl,_,t3,q4,_,es,rfl,ht3,sB _ _ (sA _ _ (Zc ht1 _ _ hq9)),es2,?_,fun f1 HC hf1 sC=>Zi ?_⟩⟩⟩⟩
  ·rw [xa,Qa3]
   exact 9e4
  ·rw [xa,Qae,Qa3]
   lia
  rw [xa,<-xJ,Zev es2] at hf1;have s9C:ZC H9 HC:=((Zc ht1).trans sA).trans (sB.trans sC);refine ⟨_,rfl,_,_,rfl,rfl,15e0,18e6,fun t4 ht4=>⟨_,rfl,t4,fa,_,rfl,rfl,Za,by lia,(4e3),Qa0 (Zn (by show 1 * fa<=1000;lia)),fun t5 HD ht5 sD=>⟨_,rfl,pr,_,1,_,rfl,rfl,SqT.of (sD _ _ (Zc ht4 _ _ (s9C _ _ hpr))),rfl,t5,v,_,_,rfl,rfl,ht5,sD _ _ (Zc ht4 _ _ (s9C _ _ (hv 10e3 10e4))),?_,fun t6 HE ht6 sE=>⟨_,rfl,_,t6,q4,_,es,rfl,ht6,sE _ _ (sD _ _ (Zc ht4 _ _ (s9C _ _ hq9))),es2,?_,fun f2 HF hf2 sF=>Zi ?_⟩⟩⟩⟩
  ·rw [xa,Qa3]
   exact 9e4
  ·rw [xa,Qae,Qa3]
   lia
  rw [xa,<-xJ,Zev es2] at hf2;have sCF:ZC HC HF:=((Zc ht4).trans sD).trans (sE.trans sF);have hf1:=sCF _ _ hf1;have s9F:=s9C.trans sCF;have hwF:=s9F _ _ hwd9;have sHF:ZC H HF:=((s15.trans s6).trans s9).trans s9F;obtain ⟨A,hNm,hbig⟩:=R.far (decide (sh / 360 % 2=1)) es2 esd esn esm hnm1;have lw1:=Zm8 (decide (sh / 360 % 2=1)) es (twn fa tA);have lw2:=Zm8 (decide (sh / 360 % 2=1)) es (twn fa tB);rw [Zex] at lw1 lw2;have hln:=R.ln;have gk:g < 2 ^ (kk + fa + 1):=by
   have h:=Int.ofNat_le.mpr (Qdn (show 0 < 2 by decide) (show kk + 1<=kk + fa + 1 by lia));rw [Qep,Qep] at h;exact Qha R.g1 h
  have ez:((kk:Int) + 1) + (fa:Int)=((kk + fa:Nat):Int) + 1:=by lia
  refine kZ (fun σ H'=>H'=HF/\(σ=[some 3e1,some (.int sh),some (.ref tn),some (.int (Z:Int)),some (.str C),some (.ref q4),some (.int x),some (.int y),some (.int (((kk:Int) + 1) + (fa:Int))),some (.ref wd),u10,some (.int (I:Int)),some (.ref pr),some (.int (fa:Int)),some (.ref f1),some (.ref f2)]\/σ=[some 3e1,some (.int sh),some (.ref tn),some (.int (Z:Int)),some (.str C),some (.ref q4),some (.int x),some (.int y),some (.int (((kk:Int) + 1) + (fa:Int))),some (.ref wd),u10,some (.int (I:Int)),some (.ref pr),some (.int (fa:Int)),some (.ref f2),some (.ref f1)])) (fun N hN=>?_) ?_
  ·refine ⟨_,rfl,_,_,rfl,rfl,15e0,_,_,rfl,rfl,(by show (0:Int) < 2;decide),rfl,_,rfl,18e5⟩
   ·exact ⟨_,rfl,_,rfl,_,_,rfl,hN _ _ ⟨rfl,.inr rfl⟩⟩
   ·exact hN _ _ ⟨rfl,6e4⟩
  ·rintro σ H' ⟨rfl,rfl | rfl⟩
   ·exact fin _ _ (kk + fa) f1 f2 _ H' [some (.int (fa:Int))] A R.g0 gk R.gz R.op ez (fun ms N=>hNm ms (.inl N)) hbig 1e2 hf1 hf2 hwF sHF
   ·exact fin _ _ (kk + fa) f2 f1 _ H' [some (.int (fa:Int))] A.symm R.g0 gk R.gz R.op ez (fun ms N=>let ⟨h1,h2,h3⟩:=hNm ms (.inr N);⟨h1,h3,h2⟩) (by rw [Nat.mul_comm];exact hbig) 1e2 hf2 hf1 hwF sHF
end
def Znh(K:PySem.W.Frag)(x q:Str)(st:Stmt)(f:Addr)(O:Value->Prop):Prop:=∃oc od I kV G D J C ct,PySem.W.nsIn K mainGlobals x=some (16e7)/\K.lookup f=some ⟨oc,od,.func (PySem.W.fnOf x q (Ww st) (Xo st) (Zg st) .none kV G D J C ct),I⟩/\PySem.W.codeIn K C q=true/\PySem.W.keepIn K (.ref f)=true/\O C
abbrev Fi(K:PySem.W.Frag)(x:Str)(st:Stmt)(f:Addr):Prop:=Znh K x x st f fun _=>True
theorem ZX{hp:Heap}{mg:2e9}{st:Stmt}{f:Addr}{J:Value->Prop}(X:K.In hp)(G:hp.Ns mainGlobals mg)(d:Znh K x x st f J)(ps:1e3)(h:∀(kV C O:Value) (Y:Option Addr) (D ct:Value) (I:2e0),I.length=ps.length->bindArgs (PySem.W.fnOf x x (Ww st) (Xo st) (Zg st) .none kV C O Y D ct) ⟨I,[]⟩=pure (ps.zip I)):∃fd,Df K mg x st ps f fd/\J fd.code:=by
 obtain ⟨_,_,_,_,_,_,_,_,_,a,l,c,k,q⟩:=d;have F:=Zhx (st:=st) l c k;exact ⟨_,⟨F,PySem.W.mg_of X G a,F.binds h⟩,q⟩
theorem all_mk {l:W.OpenLaw} {w:World} {K:W.Frag} {h:Heap} {mg:2e9} {fa:Addr} {f0 f1 f2 f3 f4 f5 f6 f7 f8 f9 f10 f11 f12 f13 f14 f15 f16 f17 f18 f19 f20 f21 f22 f23 f24 f25 f26 f27 f28 f29 f30 f31 f32 f33 f34 f35 f36 f37 f38 f39 f40 f41 f42 f43 f44 f45:Addr} (X:K.In h) (G:h.Ns mainGlobals mg) (hfa:mg "law" = some (.ref fa))
  (d0:Fi K "words_at" qG f0)
  (d1:Fi K "number_of" Gu f1)
  (d2:Fi K "run" Zko f2)
  (d3:Fi K "layers_led_to" XB f3)
  (d4:Fi K "letters_with_bit" Yy f4)
  (d5:Fi K "goes_well" Gv f5)
  (d6:Fi K "state_number" Wj f6)
  (d7:Fi K "is_sum_word" W9 f7)
  (d8:Fi K "is_claim_word" XC f8)
  (d9:Fi K "sums_behind" WA f9)
  (d10:Fi K "claims_behind" XD f10)
  (d11:Fi K "is_made_of" XT f11)
  (d12:Fi K "remembers" Gw f12)
  (d13:Fi K "borrowed" qH f13)
  (d14:Fi K "out_at_once" WC f14)
  (d15:Fi K "longest_number" YC f15)
  (d16:Fi K "bits_at" GU f16)
  (d17:Fi K "next_pairs" Jo f17)
  (d18:Fi K "partings" JD f18)
  (d19:Fi K "least_width_of_truth" Yv f19)
  (d20:Fi K "_law_whole" Gx f20)
  (d21:Fi K "_law_cell_at" WD f21)
  (d22:Fi K "_law_numbers" WE f22)
  (d23:Fi K "_law_two_numbers" YZ f23)
  (d24:Fi K "_law_two" zb f24)
  (d25:Fi K "_law_within" Jp f25)
  (d26:Fi K "words_of" JE f26)
  (d27:Fi K "states_going_well" Yr f27)
  (d28:Fi K "parts_of" qI f28)
  (d29:Fi K "is_name" zc f29)
  (d30:Fi K "name_columns" Xe f30)
  (d31:Fi K "kept_then" Gy f31)
  (d32:Fi K "out_by_kept" WG f32)
  (d33:Fi K "_law_names" XE f33)
  (d34:Fi K "_law_is_parted" XF f34)
  (d35:Fi K "with_least_word" Xa f35)
  (d36:Fi K "parts_taken" X1 f36)
  (d37:Fi K "names_of" JF f37)
  (d38:Fi K "first_words" YL f38)
  (d39:Fi K "stepped" zd f39)
  (d40:Fi K "machine_found" YM f40)
  (d41:Znh K "machine_telling" "machine_telling" ZK f41 (·=.ref 227))
  (d42:Znh K "machines_compared" "machines_compared" Ys f42 (·=.ref 256))
  (d43:Fi K "machine_of" Jq f43)
  (d44:Fi K "compared" qJ f44)
  (d45:Fi K "law" kX f45)
  {GSUM_PARTS:Addr} {ESUM_PARTS:Array DictEntry} {PSUM_PARTS:Nat} (ga_SUM_PARTS:W.nsIn K mainGlobals "SUM_PARTS" = some (some (.ref GSUM_PARTS))) (gl_SUM_PARTS:K.lookup GSUM_PARTS=some { cls:=15e3,dict:=none,data:=.dict ESUM_PARTS PSUM_PARTS,slots:=#[] }) (ge_SUM_PARTS:KTab w.params ESUM_PARTS.toList 30e8) (gn_SUM_PARTS:(GSUM_PARTS == sysModules)=false)
  {GSUMS_IN_CLAIM:Addr} {ESUMS_IN_CLAIM:Array DictEntry} {PSUMS_IN_CLAIM:Nat} (ga_SUMS_IN_CLAIM:W.nsIn K mainGlobals "SUMS_IN_CLAIM" = some (some (.ref GSUMS_IN_CLAIM))) (gl_SUMS_IN_CLAIM:K.lookup GSUMS_IN_CLAIM=some { cls:=15e3,dict:=none,data:=.dict ESUMS_IN_CLAIM PSUMS_IN_CLAIM,slots:=#[] }) (ge_SUMS_IN_CLAIM:KTab w.params ESUMS_IN_CLAIM.toList 34e7) (gn_SUMS_IN_CLAIM:(GSUMS_IN_CLAIM == sysModules)=false)
  {GCLAIMS_IN_CLAIM:Addr} {ECLAIMS_IN_CLAIM:Array DictEntry} {PCLAIMS_IN_CLAIM:Nat} (ga_CLAIMS_IN_CLAIM:W.nsIn K mainGlobals "CLAIMS_IN_CLAIM" = some (some (.ref GCLAIMS_IN_CLAIM))) (gl_CLAIMS_IN_CLAIM:K.lookup GCLAIMS_IN_CLAIM=some { cls:=15e3,dict:=none,data:=.dict ECLAIMS_IN_CLAIM PCLAIMS_IN_CLAIM,slots:=#[] }) (ge_CLAIMS_IN_CLAIM:KTab w.params ECLAIMS_IN_CLAIM.toList 35e1) (gn_CLAIMS_IN_CLAIM:(GCLAIMS_IN_CLAIM == sysModules)=false)
  {KLETTERS:Tok} (ga_LETTERS:W.nsIn K mainGlobals "LETTERS" = some (some (.str "abcdefghijklmnopqrstuvwxyz" KLETTERS)))
  {KLONGEST_NAME:Tok} (ga_LONGEST_NAME:W.nsIn K mainGlobals "LONGEST_NAME" = some (some (.int 8 KLONGEST_NAME)))
  {GREMEMBERING:Addr} {IREMEMBERING:4e5} {PREMEMBERING:Nat} (ga_REMEMBERING:W.nsIn K mainGlobals "REMEMBERING" = some (some (.ref GREMEMBERING))) (gl_REMEMBERING:K.lookup GREMEMBERING=some { cls:=4e8,dict:=none,data:=.seq IREMEMBERING PREMEMBERING,slots:=#[] }) (gv_REMEMBERING:Vals ((34e2:1e3).map V.str) IREMEMBERING.toList) (gs_REMEMBERING:IREMEMBERING.size<=sizeLine)
  (z_abs:W.nsIn K mainGlobals "abs" = some none)
  (z_all:W.nsIn K mainGlobals "all" = some none)
  (z_any:W.nsIn K mainGlobals "any" = some none)
  (z_bool:W.nsIn K mainGlobals "bool" = some none)
  (z_dict:W.nsIn K mainGlobals "dict" = some none)
  (z_enumerate:W.nsIn K mainGlobals "enumerate" = some none)
  (z_int:W.nsIn K mainGlobals "int" = some none)
  (z_isinstance:W.nsIn K mainGlobals "isinstance" = some none)
  (z_len:W.nsIn K mainGlobals "len" = some none)
  (z_list:W.nsIn K mainGlobals "list" = some none)
  (z_max:W.nsIn K mainGlobals "max" = some none)
  (z_min:W.nsIn K mainGlobals "min" = some none)
  (z_range:W.nsIn K mainGlobals "range" = some none)
  (z_reversed:W.nsIn K mainGlobals "reversed" = some none)
  (z_set:W.nsIn K mainGlobals "set" = some none)
  (z_sorted:W.nsIn K mainGlobals "sorted" = some none)
  (z_str:W.nsIn K mainGlobals "str" = some none)
  (z_tuple:W.nsIn K mainGlobals "tuple" = some none)
  (z_zip:W.nsIn K mainGlobals "zip" = some none)
  : ∃fd:FuncData,(∀(s:Shared) (v:Value),BindsTo s fd ⟨[v],[]⟩ [("script",v)])/\∀base:Heap,K.In base->base.Ns mainGlobals mg->33e9->xY mg base->ZH l.prog w K mg base CX0 17 fa fd ["script"] (kg K 225 252):=by
 obtain ⟨_,_,_,kV45,dc45,pm45,an45,cd45,ct45,a45,l45,c45,k45,_⟩:=d45;have e:=hfa.symm.trans (Qh9 X G a45);cases e;obtain ⟨_,D0,q0⟩:=ZX X G d0 ["width"] 12e7;obtain ⟨_,D1,q1⟩:=ZX X G d1 ["bits"] 12e7;obtain ⟨_,D2,q2⟩:=ZX X G d2 18e8 14e0;obtain ⟨_,D3,q3⟩:=ZX X G d3 18e8 14e0;obtain ⟨_,D4,q4⟩:=ZX X G d4 23e8 15e5;obtain ⟨_,D5,q5⟩:=ZX X G d5 25e7 fun _ _ _ _ _ _=>len5 fun _ _ _ _ _=>rfl;obtain ⟨_,D6,q6⟩:=ZX X G d6 26e7 15e5;obtain ⟨_,D7,q7⟩:=ZX X G d7 ["text"] 12e7;obtain ⟨_,D8,q8⟩:=ZX X G d8 ["text"] 12e7;obtain ⟨_,D9,q9⟩:=ZX X G d9 8e2 12e7;obtain ⟨_,D10,q10⟩:=ZX X G d10 8e2 12e7;obtain ⟨_,D11,q11⟩:=ZX X G d11 ["text","signs"] 14e0;obtain ⟨_,D12,q12⟩:=ZX X G d12 8e2 12e7;obtain ⟨_,D13,q13⟩:=ZX X G d13 ["one","other","held"] 15e5;obtain ⟨_,D14,q14⟩:=ZX X G d14 ["word","parts"] 14e0;obtain ⟨_,D15,q15⟩:=ZX X G d15 ["words"] 12e7;obtain ⟨_,D16,q16⟩:=ZX X G d16 24e4 14e0;obtain ⟨_,D17,q17⟩:=ZX X G d17 14e2 15e5;obtain ⟨_,D18,q18⟩:=ZX X G d18 14e2 15e5;obtain ⟨_,D19,q19⟩:=ZX X G d19 ["machine"] 12e7;obtain ⟨_,D20,q20⟩:=ZX X G d20 ["found"] 12e7;obtain ⟨_,D21,q21⟩:=ZX X G d21 ["script","k"] 14e0;obtain ⟨_,D22,q22⟩:=ZX X G d22 ["cell","many","most"] 15e5;obtain ⟨_,D23,q23⟩:=ZX X G d23 ["cell"] 12e7;obtain ⟨_,D24,q24⟩:=ZX X G d24 30e0 32e6;obtain ⟨_,D25,q25⟩:=ZX X G d25 ["cell","words","more"] 15e5;obtain ⟨_,D26,q26⟩:=ZX X G d26 19e2 14e0;obtain ⟨_,D27,q27⟩:=ZX X G d27 28e3 fun _ _ _ _ _ _=>len5 fun _ _ _ _ _=>rfl;obtain ⟨_,D28,q28⟩:=ZX X G d28 8e2 12e7;obtain ⟨_,D29,q29⟩:=ZX X G d29 ["text"] 12e7;obtain ⟨_,D30,q30⟩:=ZX X G d30 19e2 14e0;obtain ⟨_,D31,q31⟩:=ZX X G d31 ["word","parts","held"] 15e5;obtain ⟨_,D32,q32⟩:=ZX X G d32 26e5 32e6;obtain ⟨_,D33,q33⟩:=ZX X G d33 ["cell","many"] 14e0;obtain ⟨_,D34,q34⟩:=ZX X G d34 ["found","width","words"] 15e5
 obtain ⟨_,D35,q35⟩:=ZX X G d35 28e8 32e6;obtain ⟨_,D36,q36⟩:=ZX X G d36 ["stack","word"] 14e0;obtain ⟨_,D37,q37⟩:=ZX X G d37 ["words"] 12e7;obtain ⟨_,D38,q38⟩:=ZX X G d38 30e2 15e5;obtain ⟨_,D39,q39⟩:=ZX X G d39 29e4 32e6;obtain ⟨_,D40,q40⟩:=ZX X G d40 ["names","begin","step_of"] 15e5;obtain ⟨_,D41,q41⟩:=ZX X G d41 ["words","names","told"] 15e5;obtain ⟨_,D42,q42⟩:=ZX X G d42 17e7 14e0;obtain ⟨_,D43,q43⟩:=ZX X G d43 ["words","names"] 14e0;obtain ⟨_,D44,q44⟩:=ZX X G d44 17e7 14e0;have F45:=Zhx (st:=kX) l45 c45 k45;have b45:=F45.binds (ps:=["script"]) 12e7;have T:Txt K w mg ⟨f0,_,f1,_,f2,_,f3,_,f4,_,f5,_,f6,_,f7,_,f8,_,f9,_,f10,_,f11,_,f12,_,f13,_,f14,_,f15,_,f16,_,f17,_,f18,_,f19,_,f20,_,f21,_,f22,_,f23,_,f24,_,f25,_,f26,_,f27,_,f28,_,f29,_,f30,_,f31,_,f32,_,f33,_,f34,_,f35,_,f36,_,f37,_,f38,_,f39,_,f40,_,f41,_,f42,_,f43,_,f44,_,fa,_,227,225,256,252,GSUM_PARTS,GSUMS_IN_CLAIM,GCLAIMS_IN_CLAIM,KLETTERS,KLONGEST_NAME,GREMEMBERING⟩:=⟨⟨Qh9 X G ga_SUM_PARTS,⟨⟨_,_,gl_SUM_PARTS,ge_SUM_PARTS⟩,1e0,gn_SUM_PARTS⟩⟩,⟨Qh9 X G ga_SUMS_IN_CLAIM,⟨⟨_,_,gl_SUMS_IN_CLAIM,ge_SUMS_IN_CLAIM⟩,1e0,gn_SUMS_IN_CLAIM⟩⟩,⟨Qh9 X G ga_CLAIMS_IN_CLAIM,⟨⟨_,_,gl_CLAIMS_IN_CLAIM,ge_CLAIMS_IN_CLAIM⟩,1e0,gn_CLAIMS_IN_CLAIM⟩⟩,Qh9 X G ga_LETTERS,Qh9 X G ga_LONGEST_NAME,⟨Qh9 X G ga_REMEMBERING,fun _=>.inr ⟨_,_,_,gl_REMEMBERING,rfl,rfl,gs_REMEMBERING,gv_REMEMBERING⟩⟩,D0,D1,D2,D3,D4,D5,D6,D7,D8,D9,D10,D11,D12,D13,D14,D15,D16,D17,D18,D19,D20,D21,D22,D23,D24,D25,D26,D27,D28,D29,D30,D31,D32,D33,D34,D35,D36,D37,D38,D39,D40,D41,D42,D43,D44,⟨F45,Qh9 X G a45,b45⟩,q41,q42,(show (225:Nat)≠252 by decide),Qcj X G z_abs,Qcj X G z_all,Qcj X G z_any,Qcj X G z_bool,Qcj X G z_dict,Qcj X G z_enumerate,Qcj X G z_int,Qcj X G z_isinstance,Qcj X G z_len,Qcj X G z_list,Qcj X G z_max,Qcj X G z_min,Qcj X G z_range,Qcj X G z_reversed,Qcj X G z_set,Qcj X G z_sorted,Qcj X G z_str,Qcj X G z_tuple,Qcj X G z_zip⟩;exact ⟨_,fun s v=>(show BindsTo s (W.fnOf "law" "law" (Ww kX) (Xo kX) (Zg kX) .none kV45 dc45 pm45 an45 cd45 ct45) ⟨[v],[]⟩ [("script",v)] from .of_eq rfl),fun base hKb _ hC hB=>ok_law T ⟨hC (227,225) 2e5,hC (256,252) 2e5,hB⟩⟩
theorem walk{l:W.OpenLaw}{q:Program}{loose:1e3}{XP:(2e9)->Heap->Prop}{YP:World->Heap->Prop}{d:DefRec}{K:Params->W.Frag}(hn:l.most=some 63)(hdf:d.params.defaults=[])
  (hY:∀(w:World) (h:Heap),YP w h->(12e8).In h)
  (hTab:∀(w:World) (mean:ExcName->7e9) (mg mb:2e9) (h:Heap),PyProof.Rows.Top q (W.looseW q loose) mean mg mb h->(12e8).In h->W.TabsAt [(227,225),(256,252)] h) (hKt:∀w:World,W.noTabs 12e8=true)
  (F:∀(w:World) (mg:2e9) (fa:Addr) (h:Heap),(12e8).In h->h.Ns mainGlobals mg->mg d.name=some (.ref fa) ->
   ∃fd:FuncData,(∀(s:Shared) (u:Value),BindsTo s fd ⟨[u],[]⟩ [("script",u)])/\∀base:Heap,(12e8).In base->base.Ns mainGlobals mg->33e9->xY mg base->ZH l.prog w 12e8 mg base CX0 17 fa fd ["script"] (kg 12e8 225 252)) :
  W.WalkO q loose XP YP l.row.toRowW d [] (fun f vs=>PySem.call f vs) :=
 L2.walk_ofT (n:=63) (k:=17) (x := "script") (CX:=fun _=>CX0) (sp:=fun w=>kg 12e8 225 252) hn 1e4 hdf ⟨rfl,4e0,4e0⟩ hY hTab hKt F (fun _ _ a ns hl hT hS=>⟨a,ns,rfl,hS,hl,.inl (hT (227,225) 2e5),.inl (hT (256,252) 2e5),fun _=>rfl⟩) fun _ _ _ _ _ z=>z
theorem walkZ{l:W.OpenLaw}{q:Program}{C:1e3}{XP:(2e9)->Heap->Prop}{d:DefRec}{D:Params->W.Frag}(hn:l.most=some 63)(J:d.params.defaults=[])
  (hs:∀P,L2.nodB ((D P).map (·.1))=true)
  (I:∀(w:World) (G:ExcName->7e9) (mg Z:2e9) (h:Heap),PyProof.Rows.Top q (W.looseW q C) G mg Z h->(L2.noT (D w.params)).In h->W.TabsAt [(227,225),(256,252)] h)
  (F:∀(w:World) (mg:2e9) (O:Addr) (h:Heap),(L2.noT (D w.params)).In h->h.Ns mainGlobals mg->mg d.name=some (.ref O) ->
   ∃fd:FuncData,(∀(s:Shared) (u:Value),BindsTo s fd ⟨[u],[]⟩ [("script",u)])/\∀base:Heap,(L2.noT (D w.params)).In base->base.Ns mainGlobals mg->33e9->xY mg base->ZH l.prog w (L2.noT (D w.params)) mg base CX0 17 O fd ["script"] (kg (L2.noT (D w.params)) 225 252)) :
  W.WalkO q C XP (W.InK D) l.row.toRowW d [] (fun f vs=>PySem.call f vs) :=
 walk (K:=fun P=>L2.noT (D P)) hn J (fun w h Y=>L2.in_noT (hs _) Y) I (fun w=>L2.noT_ok _) F
end Lw
end
open PySem PySem.W PyProof.Rows
namespace PySem.W.Fast
def tw11398897464842701632:=0
def tw4956165005863126912:=0
def tw17033410976185009056:=0
def tw5316379116332805024:=0
def tw8843001955808094305:=0
def tw6534435088954503361:=0
def tw8645358631015457121:=0
def tw16357715559613894049:=0
def tw7250236433711576481:=0
def tw1004777974753644161:=0
def tw5078270846344895682:=0
def tw5147474981634931906:=0
def tw82334163419248098:=0
def tw1532683509627492994:=0
def tw1245264387160128130:=0
def tw11641574597298338498:=0
def tw1323054691112672994:=0
def tw657659914326211490:=0
def tw1506374922748459970:=0
def tw9048563601991291331:=0
def tw7016782440148563459:=0
def tw8287950989402953347:=0
def tw6174635214152551395:=0
def tw5542361289383449604:=0
def tw7028976010260404356:=0
def tw6277896625951051972:=0
def tw15302300595532568772:=0
def tw12874667731752061252:=0
def tw18049500545062208964:=0
def tw13856688871427438084:=0
def tw7569437386402451012:=0
def tw3873189779776932484:=0
def tw1365608422978547364:=0
def tw15387748586603976388:=0
def tw17817995238328682340:=0
def tw2979783949472329604:=0
def tw14340091607637009445:=0
def tw17989143966436985925:=0
def tw7885020025399413029:=0
def tw10485808022511129925:=0
def tw8451421607350372709:=0
def tw11590736792793016709:=0
def tw17666388872263858693:=0
def tw3610317529524457189:=0
def tw18089649429472157541:=0
def tw14716009272291974310:=0
def tw9517978871620420806:=0
def tw106201279631886598:=0
def tw9031155037275953446:=0
def tw2420692520390444358:=0
def tw1216614360514889062:=0
def tw9161250556097586662:=0
def tw17605141384979843590:=0
def tw8943053899764343430:=0
def tw13741599960785688230:=0
def tw8964535435722903238:=0
def tw14620348866844782470:=0
def tw9005279936063873063:=0
def tw8186019055070644327:=0
def tw17714956215043584167:=0
def tw10253764447098962087:=0
def tw8190645405318153415:=0
def tw7046411291091296455:=0
def tw14627722088988906791:=0
def tw10393441554310534439:=0
def tw15459736324183653799:=0
def tw17370592999486964295:=0
def tw5189180939798324328:=0
def tw16085549118063780968:=0
def tw15109347183783470536:=0
def tw7486215529580780136:=0
def tw15014055957951784584:=0
def tw14421653294362976936:=0
def tw14223073518215480136:=0
def tw16818340661204050985:=0
def tw3825599312465322025:=0
def tw16412611750192642185:=0
def tw11791085623821062345:=0
def tw1208977245092520201:=0
def tw11580202533031654057:=0
def tw12527875186419082921:=0
def tw16815013735650410185:=0
def tw5508760315356499689:=0
def tw4029051231831312169:=0
def tw11970204210443849545:=0
def tw9187804979667992489:=0
def tw13711629061696477161:=0
def tw14625291046130825418:=0
def tw9648139306920461610:=0
def tw17368334388039466506:=0
def tw7724150391382774346:=0
def tw13386500740531086954:=0
def tw16148100285035871018:=0
def tw15269696959596982154:=0
def tw16464235670331867050:=0
def tw3527044994748964875:=0
def tw16242381039226788907:=0
def tw14283153457796385867:=0
def tw16472619143144772747:=0
def tw4399486847201167499:=0
def tw18006717368945307883:=0
def tw13188177641070085355:=0
def tw17481658360960009515:=0
def tw17695021567122302507:=0
def tw10565191048659935915:=0
def tw2265056721093974987:=0
def tw14398986152675148812:=0
def tw12867283494540954636:=0
def tw16127923044789775436:=0
def tw15531441691065250924:=0
def tw7679142849021832428:=0
def tw3918257074474507564:=0
def tw18092145445256680780:=0
def tw10930563095316444492:=0
def tw10522081493492712844:=0
def tw12068727030131964300:=0
def tw857113716059754028:=0
def tw17329277275496691660:=0
def tw13231934972342500365:=0
def tw11851317166433211437:=0
def tw2216159109428669517:=0
def tw3164874098319284493:=0
def tw8181826563807546733:=0
def tw13687321745638772493:=0
def tw15540559749872395502:=0
def tw13801290043126370606:=0
def tw15894288762161992302:=0
def tw5019985451860375182:=0
def tw9088037649632832238:=0
def tw14386749899020365806:=0
def tw13376327889996590095:=0
def tw15856464850341383215:=0
def tw140525365854224591:=0
def tw3933751444161495311:=0
def tw7127657339387742511:=0
def tw17226867757963617583:=0
def tw8936683842850885071:=0
def tw6951519167932442223:=0
def tw9553498677594992239:=0
def tw5378359483144644239:=0
def tw1286431001572894479:=0
def tw5369247841781512975:=0
def tw6242401993785438288:=0
def tw7840636143898450064:=0
def tw9103759513375134896:=0
def tw17535253416206387504:=0
def tw724241658438201808:=0
def tw7739513515564003824:=0
def tw13031033437118759504:=0
def tw11522714227933701872:=0
def tw8605112576260812528:=0
def tw6008218109031613296:=0
def tw14980062529138444305:=0
def tw11861127908577743921:=0
def tw2149995982700944593:=0
def tw1306287551305854257:=0
def tw3446995539814717777:=0
def tw8319503936714196305:=0
def tw14259711582450938193:=0
def tw11790565384469991825:=0
def tw17403183698055478801:=0
def tw2712629331696345649:=0
def tw16140548994991446609:=0
def tw11299840921147538033:=0
def tw9681584934684818065:=0
def tw4960348420829535889:=0
def tw17375400877824775953:=0
def tw18415557201671499633:=0
def tw18334873536632901617:=0
def tw23919165929573426:=0
def tw8016638092629066994:=0
def tw5607418002151654674:=0
def tw17745470465224551826:=0
def tw4843532576515215026:=0
def tw14367655652902523698:=0
def tw7404695828487684914:=0
def tw1573606148153697234:=0
def tw7412534512776616946:=0
def tw13677186099053761587:=0
def tw9159263474236796979:=0
def tw3839429111664624787:=0
def tw12815698921288686835:=0
def tw8945726143612572019:=0
def tw5019314647862415859:=0
def tw7931687920173575667:=0
def tw14543865256641230387:=0
def tw1101953276197104211:=0
def tw7239075091286289043:=0
def tw18081746300066676403:=0
def tw13589074570547980308:=0
def tw15811589312538765332:=0
def tw11363730342208817396:=0
def tw10220841100962497780:=0
def tw13847804389736741172:=0
def tw14571775477399111348:=0
def tw969000175974512340:=0
def tw4883353990320886516:=0
def tw16602203767264566196:=0
def tw14945221422028901300:=0
def tw5875366496678370325:=0
def tw11618076690957341749:=0
def tw7481280807558059349:=0
def tw3535526108676829525:=0
def tw13313846813378543157:=0
def tw4553220101823028917:=0
def tw7730429536035228341:=0
def tw4390890146763527957:=0
def tw14076314349197331221:=0
def tw15252306628149088053:=0
def tw15386122602319698741:=0
def tw804007676248918901:=0
def tw2100484089927216342:=0
def tw5933583210119298294:=0
def tw9707037327982853494:=0
def tw695797526033683958:=0
def tw11842086346598053494:=0
def tw16236357390470862486:=0
def tw17427965022127955670:=0
def tw7938205593178125335:=0
def tw3635336771660520215:=0
def tw4002679470456062040:=0
def tw3234872490644542584:=0
def tw391089366012870904:=0
def tw18317045535216967032:=0
def tw12095846979295789496:=0
def tw8992481621386964408:=0
def tw4872424129477715416:=0
def tw13605066763490449144:=0
def tw17741984263310011320:=0
def tw6045409689304557657:=0
def tw10064331608909298809:=0
def tw8374964433681545433:=0
def tw4166090675957791001:=0
def tw10042055609489847577:=0
def tw6440032806526168409:=0
def tw13185594949284144505:=0
def tw8202323814651747737:=0
def tw6653564381625102841:=0
def tw17639044749717682969:=0
def tw14771749069602025337:=0
def tw3547005061700594681:=0
def tw14075933643863595162:=0
def tw17268099820661978458:=0
def tw16357391071490358650:=0
def tw5509165446293483962:=0
def tw9912428143407988378:=0
def tw5602438318342010554:=0
def tw721940744726270650:=0
def tw16689678793617912634:=0
def tw5778028501655060603:=0
def tw18114501414732102875:=0
def tw615079861717712155:=0
def tw16334277510213628251:=0
def tw10673636924939165051:=0
def tw12880526697774030267:=0
def tw4819166242669132283:=0
def tw11851605909004171803:=0
def tw10339982260935725755:=0
def tw3578262314703958747:=0
def tw9449357373346710267:=0
def tw6708953329730761531:=0
def tw8049530543472926555:=0
def tw16918383782365669275:=0
def tw404837119366414299:=0
def tw7319184559226349660:=0
def tw17999555815956453500:=0
def tw2753102999698905244:=0
def tw14561386554944242876:=0
def tw17304782710387442908:=0
def tw14615483754267985276:=0
def tw5311433768923642300:=0
def tw3898493929866489276:=0
def tw4097427496855347804:=0
def tw15256129590343250620:=0
def tw6832984884946695900:=0
def tw16202836393252597628:=0
def tw11622904167560208509:=0
def tw8383626848175657277:=0
def tw11907846949589233085:=0
def tw14336688050960937533:=0
def tw9749422023215837757:=0
def tw18053215996728212029:=0
def tw7622976371644998237:=0
def tw5631249694460107677:=0
def tw14937513731144874909:=0
def tw11704239324216557533:=0
def tw11362671287090755614:=0
def tw16895363855191166046:=0
def tw7503542625285260510:=0
def tw11615350533861009822:=0
def tw7457394314983963198:=0
def tw7666555730650556030:=0
def tw16979001975864597470:=0
def tw12765168355141788831:=0
def tw433371631403426079:=0
def tw7513239987294639807:=0
def tw1839403765551046623:=0
def tw12187097864091900547:=0
end PySem.W.Fast
set_option maxRecDepth 100000 in
set_option maxHeartbeats 0 in
theorem PySem.Challenge.cw_everywidth_k24_parted_late_holds : PySem.Challenge.rw_everywidth_k24_parted_late.Holds := by
 w_on;o_law;z_head;(case hw=>w_witness2)
 refine L2.walk_X (fun _=>by kernel_rfl) ?_
 k_fill
 refine Lw.walkZ (l:=PySem.Challenge.rw_everywidth_k24_parted_late) rfl rfl (fun _=>by kernel_rfl) (fun w mean mg mb h T X=>List.forall_mem_cons.mpr ⟨PySem.W.tab_of (x:=PySem.Str.ofString "machine_telling") (c:=227) (P:=225) T X rfl (by kernel_rfl),List.forall_mem_cons.mpr ⟨PySem.W.tab_of (x:=PySem.Str.ofString "machines_compared") (c:=256) (P:=252) T X rfl (by kernel_rfl),List.forall_mem_nil _⟩⟩) ?F
 case F =>
  intro w mg fa h KX G hmg
  refine' Lw.all_mk KX G hmg ?d0 ?d1 ?d2 ?d3 ?d4 ?d5 ?d6 ?d7 ?d8 ?d9 ?d10 ?d11 ?d12 ?d13 ?d14 ?d15 ?d16 ?d17 ?d18 ?d19 ?d20 ?d21 ?d22 ?d23 ?d24 ?d25 ?d26 ?d27 ?d28 ?d29 ?d30 ?d31 ?d32 ?d33 ?d34 ?d35 ?d36 ?d37 ?d38 ?d39 ?d40 ?d41 ?d42 ?d43 ?d44 ?d45 ?ga_SUM_PARTS ?gl_SUM_PARTS ?ge_SUM_PARTS ?gn_SUM_PARTS ?ga_SUMS_IN_CLAIM ?gl_SUMS_IN_CLAIM ?ge_SUMS_IN_CLAIM ?gn_SUMS_IN_CLAIM ?ga_CLAIMS_IN_CLAIM ?gl_CLAIMS_IN_CLAIM ?ge_CLAIMS_IN_CLAIM ?gn_CLAIMS_IN_CLAIM ?ga_LETTERS ?ga_LONGEST_NAME ?ga_REMEMBERING ?gl_REMEMBERING ?gv_REMEMBERING ?gs_REMEMBERING ?z_abs ?z_all ?z_any ?z_bool ?z_dict ?z_enumerate ?z_int ?z_isinstance ?z_len ?z_list ?z_max ?z_min ?z_range ?z_reversed ?z_set ?z_sorted ?z_str ?z_tuple ?z_zip
  (case d0 | d1 | d2 | d3 | d4 | d5 | d6 | d7 | d8 | d9 | d10 | d11 | d12 | d13 | d14 | d15 | d16 | d17 | d18 | d19 | d20 | d21 | d22 | d23 | d24 | d25 | d26 | d27 | d28 | d29 | d30 | d31 | d32 | d33 | d34 | d35 | d36 | d37 | d38 | d39 | d40 | d43 | d44 | d45=>exact ⟨_,_,_,_,_,_,_,_,_,L2.ns_tr (by kernel_rfl) (by k_is),L2.lk_tr (by kernel_rfl) (by k_is),L2.cd_tr (by kernel_rfl) (by k_is),L2.kp_tr (by kernel_rfl) (by k_is),trivial⟩)
  (case d41 | d42=>exact ⟨_,_,_,_,_,_,_,_,_,L2.ns_tr (by kernel_rfl) (by k_is),L2.lk_tr (by kernel_rfl) (by k_is),L2.cd_tr (by kernel_rfl) (by k_is),L2.kp_tr (by kernel_rfl) (by k_is),rfl⟩)
  (case ga_SUM_PARTS | ga_SUMS_IN_CLAIM | ga_CLAIMS_IN_CLAIM | ga_LETTERS | ga_LONGEST_NAME | ga_REMEMBERING | z_abs | z_all | z_any | z_bool | z_dict | z_enumerate | z_int | z_isinstance | z_len | z_list | z_max | z_min | z_range | z_reversed | z_set | z_sorted | z_str | z_tuple | z_zip=>first | (refine L2.ns_tr (by kernel_rfl) ?_;k_is) | (refine L2.fi_tr (by kernel_rfl) ?_;k_is))
  (case gl_SUM_PARTS | gl_SUMS_IN_CLAIM | gl_CLAIMS_IN_CLAIM | gl_REMEMBERING=>refine L2.lk_tr (by kernel_rfl) ?_;k_is)
  (case ge_SUM_PARTS | ge_SUMS_IN_CLAIM | ge_CLAIMS_IN_CLAIM=>repeat (first | exact L2.KTab.nil | refine L2.KTab.cons ?_))
  (case gn_SUM_PARTS | gn_SUMS_IN_CLAIM | gn_CLAIMS_IN_CLAIM=>first | rfl | decide +kernel)
  (case gv_REMEMBERING=>repeat (first | exact .nil | refine .cons ⟨_,rfl⟩ ?_))
  (case gs_REMEMBERING=>show _<=_;decide)
#print axioms PySem.Challenge.cw_everywidth_k24_parted_late_holds
