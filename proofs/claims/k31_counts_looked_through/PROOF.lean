import PyProof.Rows.All
import Wide.All
import OpenK.AllK
import Wide.FinOn
import Lean
import PyProof.EqAt
import PyProof.EqKinds
import PyProof.TupleCall
import PyProof.NeKinds
import KE.KRevSl
import KE.KRevIter
import PyProof.FactsAll.tuple
import PyProof.Rows.SortWalk
import PyProof.Rows.StrJoin2
import PyProof.StrBlockH
import PyProof.StrWalks
import PyProof.StrCalls2
import PyProof.ConsumeWalk
import KE.KIntText
import PyProof.Rows.SortStr
import PyProof.EnumStmt
import PyProof.WalksMore
import KE.KEqDict
import PyProof.DictWalks
import KE.KLam
import PyProof.Rows.SortShellK
import PyProof.AttrMissHeap
import KE.KDictOf
import PyProof.ZipIter
import PyProof.CollectWalk
import PyProof.ListNew
import KE.KSortTup
import PyProof.Rows.TupDisplay
import OpenK.KOwn
import PyProof.Rows.TopTwo
import PyProof.Rows.CatchOwn
import PyProof.RulesDel
import PyProof.RulesAs
import KE.KIsNot
import PyProof.ExcAttrAll.ValueError
import KE.KIsAll
import PyProof.StrReplace2
import PyProof.ReprStr
import PyProof.FString
import PyProof.StrLawsChain
import PyProof.SetRoads
import PyProof.StrLawsRepr
import PyProof.ReprHeads
import PyProof.ReprLen
import PyProof.FactsAll.bool
import KE.KNest
import PyProof.Rows.RuleM_int
import PyProof.Rows.CallKwBuiltin
import KE.KMinKey
import PyProof.ListRange
import PyProof.TupleOfSeq
import PyProof.TupleOfStr
import KE.KDictLaws
import KE.KPairComp
import KE.KDictSum
import PySem.Challenge.RW_everywidth_k31_counts_looked_through
noncomputable section
set_option Elab.async false
set_option linter.all false
set_option maxRecDepth 100000
set_option maxHeartbeats 0
namespace Hw
open PySem PySem.W
theorem ws:PySem.Challenge.rw_everywidth_k31_counts_looked_through.wellSaid=true:=by kernel_rfl
def p:Program:=PySem.Challenge.rw_everywidth_k31_counts_looked_through.row.toRowW.prog
def B:List Stmt:=behindTheImports p
def nth:List Stmt→Nat→Option Stmt
  | [],_=>none
  | x::_,0=>some x
  | _::r,n + 1=>nth r n
def fx:Option Stmt→Arguments × List Stmt × Scope × Str × Nat
  | some (.FunctionDef n a b _ _ _ s _ _ x)=>(a,b,s,n,x.line)
  | _=>default
def fd(i:Nat):=fx (nth B i)
def vs(s:String)(t:Nat):Value:=.str (Str.ofString s) t
def en(P:Params)(s:String)(t:Nat)(v:Value):DictEntry:=⟨PyData.keyHash P (Str.ofString s),.str (Str.ofString s) t,v⟩
def tu (l:List Value):Obj:=⟨.type "tuple",none,.seq (Array.mk l) 0,#[]⟩
def t0:Obj:=tu []
def fi(l:List Value):Obj:=⟨.none,none,.fields (Array.mk l),#[]⟩
def f0:Obj:=fi []
def vk:Nat→List String→List Value
  | _,[]=>[]
  | t,s::r=>vs s t::vk (t + 1) r
def vt(t:Nat)(l:List String):Obj:=tu (vk t l)
abbrev Fd:=Arguments × List Stmt × Scope × Str × Nat
def rO(x:Fd):Obj:=⟨.none,none,.func ⟨x.2.2.2.1,x.2.2.2.1,x.1,.stmts x.2.1,x.2.2.1,0,[],.none,.none,.none,.none,none,.none,.none,0⟩,#[]⟩
def fO (x:Fd) (m:Value) (c:Nat):Obj:=⟨.type "function",none,.func ⟨x.2.2.2.1,x.2.2.2.1,x.1,.stmts x.2.1,x.2.2.1,3,[],.none,.none,.none,m,none,.ref c,.none,0⟩,#[]⟩
def fl:String := "/claim/cut.py"
def r(i:Nat):Obj:=rO (fd i)
def f(i:Nat)(m:Value)(c:Nat):Obj:=fO (fd i) m c
def ci(n:Nat):Value:=.int n 0
def c (i t x v:Nat):Obj:=let y:=(fd i).2.2.2;⟨.type "code",none,.fields #[.str y.1 t,.str y.1 (t + 1),vs fl (t + 2),ci y.2,ci (fd i).1.args.length,ci 0,ci 0,ci 3,.ref x,.bool true,ci 181,.ref (x + 1),.none,if v == 0 then .none else .ref (x + 2),if v == 0 then .none else .ref (x + 3),.ref (if v == 0 then x + 2 else x + 4),ci (t + 3 + v),ci y.2,vs fl (t + 4 + v)],#[]⟩
def e(P:Params)(i t a:Nat):DictEntry:=let y:=(fd i).2.2.2.1;⟨PyData.keyHash P y,.str y t,.ref a⟩
def bt(P:Params):List DictEntry:=match (boot_o_3 P).data with
  | .dict e _=>e.toList.tail
  | _=>[]
def m0:Value:=vs "everywidth.bits" 187
def m1:Value:=vs "everywidth.machines.found" 207
def m2:Value:=vs "everywidth.machines.least" 224
def m3:Value:=vs "everywidth.vocabulary" 260
def m4:Value:=vs "everywidth.rows" 377
def m5:Value:=vs "everywidth.machines.columns" 385
def m6:Value:=vs "everywidth.machines.made" 462
def m7:Value:=vs "everywidth.sums.texts" 490
def m8:Value:=vs "everywidth.claims.widths" 498
def m9:Value:=vs "everywidth.claims.counts" 507
def m10:Value:=vs "law_everywidth_k31_counts_looked_through" 535
def es (P:Params):List DictEntry:=[e P 1 197 21,e P 2 206 28,e P 4 214 33,e P 5 223 40,e P 7 231 45,e P 8 237 50,e P 9 243 55,e P 10 249 60,e P 11 259 67,en P "SUM_PARTS" 292 (.ref 68),en P "SUMS_IN_CLAIM" 308 (.ref 69),en P "CLAIMS_IN_CLAIM" 324 (.ref 70),en P "LETTERS" 326 (vs "abcdefghijklmnopqrstuvwxyz" 325),en P "LONGEST_NAME" 328 (.int 8 327),e P 18 335 77,e P 19 342 84,e P 20 349 91,e P 21 356 98,e P 22 363 105,e P 23 369 110,e P 24 376 117,e P 26 384 122,en P "REMEMBERING" 396 (.ref 123),e P 29 403 130,e P 30 409 135,e P 31 424 142,e P 32 434 149,e P 33 443 156,e P 34 453 163,e P 35 461 170,e P 37 471 177,e P 38 477 182,e P 39 483 187,e P 40 489 192,e P 42 497 197,e P 44 506 204,e P 46 516 211,e P 47 522 216,e P 48 534 223,e P 50 543 230,e P 51 557 237,e P 52 568 244,e P 53 579 251,e P 54 586 258,e P 55 598 265,e P 56 612 272,e P 57 630 279,e P 58 636 284,e P 59 645 291,e P 60 655 298,e P 61 668 305,e P 62 682 312,e P 63 697 319]
def vl:List (Nat × Nat):=[(2,20),(7,27),(13,32),(23,39),(29,44),(38,49),(45,54),(48,59),(50,66),(62,76),(64,83),(66,90),(68,97),(70,104),(72,109),(74,116),(79,121),(83,129),(85,134),(90,141),(106,148),(117,155),(119,162),(133,169),(150,176),(152,181),(164,186),(166,191),(169,196),(172,203),(175,210),(177,215),(185,222),(192,229),(194,236),(206,243),(213,250),(218,257),(230,264),(243,271),(255,278),(268,283),(272,290),(286,297),(304,304),(323,311),(334,318)]
def d(i x t:Nat)(l:List String)(m:Value):List Obj:=match l with
  | []=>[t0,f0,r i,c i t x 0,f i m (x+3)]
  | l=>[t0,f0,vt (t+3) l,t0,r i,c i t x l.length,f i m (x+5)]
def nz:Nat→List Obj→PySem.W.Frag
  | _,[]=>[]
  | n,x::l=>(n,x)::nz (n+1) l
def md (P:Params) (m:String) (t e k:Nat):Obj:=⟨.type "dict",none,.dict (Array.mk (en P "__name__" 165 (vs m t)::bt P++(es P).take e)) k,#[]⟩
def tl:List (Nat × Nat)→List Value
  | []=>[]
  | x::r=>.int x.1 0::.int 0 0::.ref x.2::tl r
def tb(c:Nat):Obj:=fi (tl (vl.take c))
def ob (P:Params):List Obj:=[boot_o_0 P,boot_o_1 P,boot_o_2 P,md P "law_everywidth_k31_counts_looked_through" 535 53 62,boot_o_4 P,boot_o_5 P,boot_o_6 P,boot_o_7 P,boot_o_8 P,boot_o_9 P,boot_o_10 P,t0,tb 47,⟨(.type "code"),none,.fields #[(vs "<module>" 182),(vs "<module>" 183),(vs "/claim/cut.py" 184),(.int 1 0),(.int 0 0),(.int 0 0),(.int 0 0),(.int 0 0),(.ref 11),(.bool false),(.int 181 0),(.ref 12),.none,.none,.none,.none,(.int 185 0),(.int 1 0),(vs "/claim/cut.py" 186)],#[]⟩,⟨(.type "frame"),none,.plain,#[some (.ref 13),some (.ref 3),some (.ref 3),none,some (vs "__main__" 164),none,some (.ref 0)]⟩]++(d 1 15 189 ["width","many","bit_number"] m0++(d 2 22 198 ["bits","number","bit"] m0++(d 4 29 209 [] m1++(d 5 34 215 ["state","states","numbers"] m1++(d 7 41 226 [] m2++(d 8 46 232 [] m2++(d 9 51 238 [] m2++(d 10 56 244 [] m2++(d 11 61 250 ["classes","firsts","state","number"] m2++([⟨(.type "dict"),none,.dict #[en P "not" 262 (.int 1 263),en P "neg" 264 (.int 1 265),en P "twice" 266 (.int 1 267),en P "low" 268 (.int 1 269),en P "and" 270 (.int 2 271),en P "or" 272 (.int 2 273),en P "odd" 274 (.int 2 275),en P "add" 276 (.int 2 277),en P "sub" 278 (.int 2 279),en P "pick" 280 (.int 3 281)] 10,#[]⟩,⟨(.type "dict"),none,.dict #[en P "same" 293 (.int 2 294),en P "under" 295 (.int 2 296),en P "beneath" 297 (.int 2 298),en P "sign" 299 (.int 1 300),en P "nought" 301 (.int 1 302)] 5,#[]⟩,⟨(.type "dict"),none,.dict #[en P "both" 309 (.int 2 310),en P "either" 311 (.int 2 312),en P "so" 313 (.int 2 314),en P "never" 315 (.int 1 316),en P "yes" 317 (.int 0 318)] 5,#[]⟩]++(d 18 71 329 ["text"] m3++(d 19 78 336 ["text"] m3++(d 20 85 343 ["word"] m3++(d 21 92 350 ["word"] m3++(d 22 99 357 ["word"] m3++(d 23 106 364 [] m3++(d 24 111 370 ["text"] m3++(d 26 118 379 [] m4++([vt 387 ["neg","twice","low","add","sub","same","under","beneath","nought"]]++(d 29 124 397 ["word"] m5++(d 30 131 404 [] m5++(d 31 136 410 ["words","columns","place","kept","stack","later","word","parts","held"] m5++(d 32 143 425 ["word","parts","held","one"] m5++(d 33 150 435 ["one","other","held"] m5++(d 34 157 444 ["word","parts","held","then"] m5++(d 35 164 454 ["word","parts"] m5++(d 37 171 464 ["claim","names"] m6++(d 38 178 472 [] m6++(d 39 183 478 [] m6++(d 40 188 484 [] m6++(d 42 193 492 [] m7++(d 44 198 500 ["claim"] m8++(d 46 205 509 ["claim","width"] m9++(d 47 212 517 [] m9++(d 48 217 523 ["ways","steps","onward","state","times","led_to"] m9++(d 50 224 537 ["found"] m10++(d 51 231 544 ["script","k","cells","size","cell","turn","step","seed"] m10++(d 52 238 558 ["number","letters","some","name","k"] m10++(d 53 245 569 ["script","start","many","found","k"] m10++(d 54 252 580 ["word"] m10++(d 55 259 587 ["number","room","left","some","word","judged"] m10++(d 56 266 599 ["number","room","left","names","top","some","word","hard"] m10++(d 57 273 613 ["script","start","names","most","left","top","claim","words","parts","room","number","word"] m10++(d 58 280 631 [] m10++(d 59 285 637 ["word","one","full"] m10++(d 60 292 646 ["word","one","other","full"] m10++(d 61 299 656 ["words","full","values","pile","word","one","other"] m10++(d 62 306 669 ["names","full","found","name","wider","values","word","more"] m10++(d 63 313 683 ["script","first","names","words","width","full","due","values","found"] m10)))))))))))))))))))))))))))))))))))))))))))))))))
def K(P:Params):PySem.W.Frag:=nz 0 (ob P)
def od:Bool→List Obj→List Obj
  | _,[]=>[]
  | true,x::r=>x::od false r
  | false,_::r=>od true r
def tL:Nat→List Obj→BT
  | 0,_=>.nil
  | _,[]=>.nil
  | k + 1,x::r=>.node x (tL k (od true r)) (tL k (od false r))
def tn(P:Params)(n:Nat):BT:=tL 12 ((ob P).take n)
abbrev SS(T:BT)(n k:Nat)(o:OsState):SharedT:=⟨T,n,{},Array.mk [],{},k,o⟩
def ev:Env:={ scope:=p.main.scope,locals:=mainNs,globals:=mainNs,cells:=[],code:=(.ref 13),frame:=some 14 }
def c0:Code:=.body B ev
abbrev an:Option Value:=some (.ref 6)
abbrev z0:Pos:=⟨0,0,0,0⟩
abbrev q0:List Frame:=[topFrame z0]
def sg(a b:Nat):List Stmt:=(B.drop a).take b
def pc(a b:Nat)(x:Pos):Thread:=piecesOf (sg a b) ev c0 x q0
def R(w:World)(o:OsState)(n:Nat)(S:Params→BT)(a k:Nat)(t:Thread)(S':Params→BT)(a' k':Nat)(y:Pos):Prop:=segRunT treeTable p w 11 an 1 n (SS (S w.params) a k o) t=some (.next,SS (S' w.params) a' k' o,c0,y)
variable (w:World)(o:OsState)
def S0(P:Params):BT:=((tn P 15).set 3 fun _=>boot_o_3 P).set 12 fun _=>tb 0
def S1 (P:Params):BT:=((tn P 68).set 3 fun _=>md P "everywidth.vocabulary" 260 9 18).set 12 fun _=>tb 9
def S2 (P:Params):BT:=((tn P 78).set 3 fun _=>md P "everywidth.vocabulary" 260 15 24).set 12 fun _=>tb 10
def S3 (P:Params):BT:=((tn P 157).set 3 fun _=>md P "everywidth.machines.columns" 385 28 37).set 12 fun _=>tb 22
def S4 (P:Params):BT:=((tn P 231).set 3 fun _=>md P "law_everywidth_k31_counts_looked_through" 535 40 49).set 12 fun _=>tb 34
def S5 (P:Params):BT:=((tn P 306).set 3 fun _=>md P "law_everywidth_k31_counts_looked_through" 535 51 60).set 12 fun _=>tb 45
def S6(P:Params):BT:=tn P 320
def H1(P:Params):Heap:=⟨Array.mk (ob P),{}⟩
theorem pre:topGo treeTable p w 11 an 12 ⟨boot_heap w.params,Array.mk [],boot_drawn,boot_toks,o⟩ (topStub p)=some ((SS (S0 w.params) 15 187 o).abs,⟨denote treeTable c0,c0,z0,q0⟩):=by
  rw [Fast.te15667345088766844465,Fast.te14364793385576792824,Fast.te11892475500146522536];kernel_rfl
theorem blk:segRunT treeTable p w 11 an 1 1 (SS (S0 w.params) 15 187 o) (blockOf B ev c0 z0 q0)=some (.next,SS (S0 w.params) 15 187 o,c0,z0):=by
  rw [Fast.te10110043849684766642,Fast.te14364793385576792824];kernel_rfl
theorem g1:R w o 292 S0 15 187 (pc 0 13 z0) S1 68 262 ⟨56,0,56,8⟩:=by
  unfold R;rw [Fast.te10110043849684766642,Fast.te14364793385576792824];kernel_rfl
theorem g2f:R (w.withFollow "special-get-raises" false) o 378 S1 68 262 (pc 13 6 ⟨56,0,56,8⟩) S2 78 336 ⟨62,0,63,28⟩:=by
  unfold R;rw [Fast.te10110043849684766642,Fast.te14364793385576792824];kernel_rfl
theorem g2t:R (w.withFollow "special-get-raises" true) o 378 S1 68 262 (pc 13 6 ⟨56,0,56,8⟩) S2 78 336 ⟨62,0,63,28⟩:=by
  unfold R;rw [Fast.te10110043849684766642,Fast.te14364793385576792824];kernel_rfl
theorem g2 (w:World):∀o:OsState,R w o 378 S1 68 262 (pc 13 6 ⟨56,0,56,8⟩) S2 78 336 ⟨62,0,63,28⟩:=byRow2 "special-get-raises" (P:=fun w=>∀o:OsState,R w o 378 S1 68 262 (pc 13 6 ⟨56,0,56,8⟩) S2 78 336 ⟨62,0,63,28⟩) g2f g2t w
theorem g3:R w o 390 S2 78 336 (pc 19 15 ⟨62,0,63,28⟩) S3 157 444 ⟨117,0,118,47⟩:=by
  unfold R;rw [Fast.te10110043849684766642,Fast.te14364793385576792824];kernel_rfl
theorem g4:R w o 390 S3 157 444 (pc 34 17 ⟨117,0,118,47⟩) S4 231 544 ⟨192,0,193,67⟩:=by
  unfold R;rw [Fast.te10110043849684766642,Fast.te14364793385576792824];kernel_rfl
theorem g5:R w o 366 S4 231 544 (pc 51 11 ⟨192,0,193,67⟩) S5 306 669 ⟨304,0,322,18⟩:=by
  unfold R;rw [Fast.te10110043849684766642,Fast.te14364793385576792824];kernel_rfl
theorem g6:R w o 74 S5 306 669 (pc 62 2 ⟨304,0,322,18⟩) S6 320 698 ⟨334,0,347,15⟩:=by
  unfold R;rw [Fast.te10110043849684766642,Fast.te14364793385576792824];kernel_rfl
theorem fn:topRun treeTable p w 11 an 2 (SS (S6 w.params) 320 698 o).abs ⟨doneF .next,c0,⟨334,0,347,15⟩,q0⟩=some ⟨H1 w.params,Array.mk [],{},698,o⟩:=by
  rw [Fast.te14082659384304107361,Fast.te14364793385576792824];kernel_rfl
theorem sp:B=sg 0 13++(sg 13 6++(sg 19 15++(sg 34 17++(sg 51 11++(sg 62 2++[]))))):=by kernel_rfl
theorem bl{w:World}{N:Nat}{s s' r:Shared}{b:List Stmt}{x y:Pos}{n:Nat}(e:B=b)(h:segRun treeTable p w 11 an 1 n s (blockOf B ev c0 x q0)=some (.next,s',c0,y))(k:topRun treeTable p w 11 an N s' (restOf b ev c0 y q0)=some r):topRun treeTable p w 11 an (n + N) s ⟨denote treeTable c0,c0,x,q0⟩=some r :=
  piece_block h (by rw [e];exact k)
theorem rn:topRun treeTable p w 11 an (12 + (1 + (292 + (378 + (390 + (390 + (366 + (74 + (2))))))))) ⟨boot_heap w.params,Array.mk [],boot_drawn,boot_toks,o⟩ (topStub p)=some ⟨H1 w.params,Array.mk [],{},698,o⟩ :=
  go_top (pre w o) (bl sp (segRun_of (blk w o)) (piece_app (segRun_of (g1 w o)) (piece_app (segRun_of (g2 w o)) (piece_app (segRun_of (g3 w o)) (piece_app (segRun_of (g4 w o)) (piece_app (segRun_of (g5 w o)) (piece_app (segRun_of (g6 w o)) (fn w o))))))))
def rg(l:List Stmt):List (Nat × Nat)→List Stmt
  | []=>[]
  | x::r=>(l.drop x.1).take x.2++rg l r
def vw:Program:={ p with main:={ p.main with body:=rg p.main.body [(1,2),(4,2),(7,5),(13,12),(26,1),(28,8),(37,4),(42,1),(44,1),(46,3),(50,14)] } }
def lo:List Str:=[Str.ofString "SUM_PARTS",Str.ofString "SUMS_IN_CLAIM",Str.ofString "CLAIMS_IN_CLAIM"]
def xt(s:Shared):Bool:=xlAt vw [] s && recOk PySem.Challenge.rw_everywidth_k31_counts_looked_through.row.toRowW.records s
def as:List Addr:=List.range 320
theorem sz:((boot_heap w.params).isNs mainGlobals && (Array.mk []:Array GenState).size == 0,(boot_heap w.params).objs.size,(boot_heap w.params).nsMap mainGlobals "__annotations__")=(true,11,an):=by
  rw [Fast.te8920871248978507458];kernel_rfl
abbrev sh(w:World)(o:OsState):Shared:=⟨H1 w.params,Array.mk [],{},698,o⟩
theorem l1:(staticsOk (importedModules p.main.body) (boot_heap w.params) (H1 w.params) && namesBound p (H1 w.params) && gensDone (sh w o) && laidKept (boot_heap w.params) (H1 w.params))=true:=by
  rw [Fast.te5923862056798008813];kernel_rfl
theorem l2:openSeen vw lo (importedModules p.main.body) xt true (sh w o)=openGood vw lo:=by
  rw [Fast.te4187177175401517315,Fast.te5923862056798008813];kernel_rfl
theorem l3:X.obsZ as (sh w o)=X.valZ K 320 698 w:=by kernel_rfl
theorem left:LeftO p vw lo xt (X.obsZ as) (X.valZ K 320 698) 3894 :=
  LeftO.of_pieces (boot_open (by kernel_rfl) (by kernel_rfl) (fun _=>by kernel_rfl)) sz rn (by kernel_rfl) fun w=>funext fun o=>looks_pair (l1 w o) (looks_pair (l2 w o) (l3 w o))
end Hw
end
set_option Elab.async false
set_option linter.all false
set_option maxRecDepth 100000
noncomputable section
def Qaa:=@PySem.wpAny_bind
def Qab:=@PySem.Heap.get?_push_of_some
def Qac:=@List.length_map
def Qad:=@List.getElem?_eq_getElem
def Qae:=@PySem.wpAny_pure
def Qaf:=@List.getElem?_eq_some_iff
def Qag:=@Nat.le_refl
def Qah:=@List.mem_cons_self
def Qai:=@List.getElem?_map
def Qaj:=@List.getD_eq_getElem?_getD
def Qak:=@PySem.Heap.get?_push_size
def Qal:=@List.mem_cons_of_mem
def Qam:=@List.mem_cons
def Qan:=@PySem.Heap.lt_size
def Qao:=@decide_eq_true
def Qap:=@List.length_append
def Qaq:=@decide_eq_false
def Qar:=@PySem.F.plainAttrs_list
def Qas:=@List.mem_of_getElem?
def Qat:=@List.mem_singleton
def Qau:=@List.mem_map
def Qav:=@List.map_append
def Qaw:=@if_neg
def Qax:=@List.length_cons
def Qay:=@List.mem_append_right
def Qaz:=@Nat.le_trans
def Qa0:=@if_pos
def Qa1:=@List.length_replicate
def Qa2:=@List.size_toArray
def Qa3:=@List.map_map
def Qa4:=@PySem.F.slot_list_append
def Qa5:=@PySem.F.type_list_append
def Qa6:=@Bool.false_ne_true
def Qa7:=@List.not_mem_nil
def Qa8:=@List.getElem?_append_right
def Qa9:=@Nat.le_of_lt
def Qba:=@Option.map_eq_some_iff
def Qbb:=@Nat.lt_of_lt_of_le
def Qbc:=@Nat.zero_le
def Qbd:=@Nat.ne_of_lt
def Qbe:=@PySem.wpAny_call_entry
def Qbf:=@List.idxOf_lt_length_of_mem
def Qbg:=@List.getElem?_append_left
def Qbh:=@PySem.wpAny_newObj_type
def Qbi:=@of_decide_eq_true
def Qbj:=@PySem.Heap.get?_update_self
def Qbk:=@PySem.wpAny_field
def Qbl:=@List.length_range
def Qbm:=@List.getElem_mem
def Qbn:=@Array.length_toList
def Qbo:=@PySem.Obj.data_mapFields
def Qbp:=@PySem.wpAny_setField_rec
def Qbq:=@PySem.Heap.size_push
def Qbr:=@List.nodup_cons
def Qbs:=@Int.toNat_natCast
def Qbt:=@PySem.Heap.SameBut.update
def Qbu:=@List.map_congr_left
def Qbv:=@PySem.PassesOwn.never
def Qbw:=@Nat.lt_irrefl
def Qbx:=@List.map_cons
def Qby:=@List.length_take
def Qbz:=@Bool.and_eq_true
def Qb0:=@PySem.Heap.get?_update_other
def Qb1:=@Int.ediv_eq_zero_of_lt
def Qb2:=@List.mem_map_of_mem
def Qb3:=@Int.ediv_one
def Qb4:=@List.append_nil
def Qb5:=@Bool.false_eq_true
def Qb6:=@Int.emod_lt_of_pos
def Qb7:=@PySem.wpAny_seqItems
def Qb8:=@List.take_length
def Qb9:=@List.append_assoc
def Qca:=@List.mem_append
def Qcb:=@Int.emod_nonneg
def Qcc:=@PySem.mem_of_lookup
def Qcd:=@PySem.wpAny_holding
def Qce:=@List.all_eq_true
def Qcf:=@PyProof.Rows.callWith_type1
def Qcg:=@Nat.lt_succ_of_lt
def Qch:=@PySem.wpAny_of_eq
def Qci:=@List.nodup_nil
def Qcj:=@PySem.Obj.isFreed_of_fields
def Qck:=@Int.emod_add_mul_ediv
def Qcl:=@PySem.F.slot_list_pop
def Qcm:=@PySem.F.type_list_pop
def Qcn:=@List.mem_range
def Qco:=@PySem.Calls.spliced_cons
def Qcp:=@PySem.F.slot_enumerate_next
def Qcq:=@PySem.wpAny_setField
def Qcr:=@List.all_cons
def Qcs:=@List.reverse_cons
def Qct:=@PyProof.Rows.slot_tuple_getitem
def Qcu:=@Nat.mod_two_eq_zero_or_one
def Qcv:=@Int.add_mul_emod_self_left
def Qcw:=@List.dropLast_concat
def Qcx:=@List.take_of_length_le
def Qcy:=@PySem.W.kia_one
def Qcz:=@List.lookup_cons
def Qc0:=@PySem.wpAny_isInstance
def Qc1:=@PySem.wpAny_attempt
def Qc2:=@List.filter_cons
def Qc3:=@decide_eq_decide
def Qc4:=@List.length_reverse
def Qc5:=@List.foldl_append
def Qc6:=@List.take_append_drop
def Qc7:=@Int.pow_succ
def Qc8:=@Int.emod_eq_of_lt
def Qc9:=@List.mem_iff_getElem?
def Qda:=@PySem.wpAny_Call_Name_kw
def Qdb:=@List.foldl_cons
def Qdc:=@Int.natCast_nonneg
def Qdd:=@Int.ediv_ediv_of_nonneg
def Qde:=@List.mem_append_left
def Qdf:=@Nat.pow_le_pow_right
def Qdg:=@Nat.lt_succ_self
def Qdh:=@PySem.Calls.callWith_builtin
def Qdi:=@PySem.F.plain_max_loop
def Qdj:=@PySem.wpAny_mono
def Qdk:=@PySem.wpAny_rule
def Qdl:=@or_false
def Qdm:=@Array.getElem?_eq_getElem
def Qdn:=@List.drop_eq_getElem_cons
def Qdo:=@Ne.symm
def Qdp:=@Nat.ne_of_gt
def Qdq:=@List.find?_cons
def Qdr:=@PySem.codeAny_builtin
def Qds:=@Int.pow_zero
def Qdt:=@Nat.lt_of_le_of_lt
def Qdu:=@Nat.le_succ
def Qdv:=@beq_self_eq_true
def Qdw:=@List.eq_nil_of_length_eq_zero
def Qdx:=@PySem.lookup_relabel_local
def Qdy:=@PySem.wpAny_truthy_bool
def Qdz:=@PySem.wpAny_pyIter_list
def Qd0:=@PySem.Calls.spliced_nil
def Qd1:=@bne_self_eq_false
def Qd2:=@List.mem_filter
def Qd3:=@List.length_zip
def Qd4:=@List.range_succ
def Qd5:=@PySem.F.slot_tuple_iterator_next
def Qd6:=@List.length_drop
def Qd7:=@List.filter_append
def Qd8:=@Array.getElem?_toList
def Qd9:=@Int.mul_comm
def Qea:=@PySem.Around.under_plainId
def Qeb:=@Nat.mul_le_mul_right
def Qec:=@PySem.wpAny_passesOwn
def Qed:=@List.of_mem_zip
def Qee:=@PySem.wpAny_specialOf
def Qef:=@PySem.Obj.cls_mapFields
def Qeg:=@PySem.wpAny_setState_of
def Qeh:=@List.filterMap_cons
def Qei:=@PySem.F.args_enumerate_next_1
def Qej:=@PySem.plainId_quiet
def Qek:=@PySem.wpAny_setEntries_of
def Qel:=@Int.pow_pos
def Qem:=@List.map_take
def Qen:=@List.any_eq_true
def Qeo:=@PySem.F.entry_enumerate_next
def Qep:=@List.length_pos_of_mem
def Qeq:=@PySem.wpAny_pyIter_tuple
def Qer:=@decide_eq_true_iff
def Qes:=@List.sum_singleton
def Qet:=@PySem.codeAny_mono
def Qeu:=@List.forIn_cons
def Qev:=@List.length_nil
def Qew:=@PySem.wpAny_letGo
def Qex:=@PySem.F.called_set
def Qey:=@Nat.zero_add
def Qez:=@Nat.not_lt_zero
def Qe0:=@Nat.pow_succ
def Qe1:=@Nat.sub_self
def Qe2:=@List.sum_append
def Qe3:=@List.length_filter_le
def Qe4:=@List.nodup_append
def Qe5:=@List.map_drop
def Qe6:=@PySem.Calls.evalArgs_plain
def Qe7:=@PySem.Heap.get?_push_cases
def Qe8:=@List.getElem?_of_mem
def Qe9:=@PySem.isSubtype_stop
def Qfa:=@List.drop_zero
def Qfb:=@List.getElem_zip
def Qfc:=@Nat.le_add_right
def Qfd:=@beq_eq_false_iff_ne
def Qfe:=@PySem.F.args_tuple_add_2
def Qff:=@PySem.wpAny_comprehension_free
def Qfg:=@Nat.not_lt
def Qfh:=@List.length_erase_of_mem
def Qfi:=@Int.ne_of_gt
def Qfj:=@List.eq_of_mem_replicate
def Qfk:=@PySem.Paired.length
def Qfl:=@Bool.eq_iff_iff
def Qfm:=@PySem.F.entry_tuple_add
def Qfn:=@List.any_cons
def Qfo:=@PySem.tupleKind_room_in1
def Qfp:=@PySem.wpAny_updateSeq
def Qfq:=@of_decide_eq_false
def Qfr:=@PySem.F.slot_zip_next
def Qfs:=@List.idxOf_cons
def Qft:=@PySem.slot_listiter_next
def Qfu:=@PySem.F.slot_tuple_add
def Qfv:=@PySem.wpAny_Call_method_late
def Qfw:=@PySem.F.entry_max_loop
def Qfx:=@PySem.wpAny_mkInt
def Qfy:=@PySem.wpAny_pyIter_slot
def Qfz:=@PySem.wpAny_pyIter_enum
def Qf0:=@PySem.wpAny_newTuple
def Qf1:=@PySem.wpAny_tryCatch
def Qf2:=@PySem.builtinLookup_eq_fast
def Qf3:=@PySem.F.slot_dict_get
def Qf4:=@Int.add_mul_ediv_left
def Qf5:=@List.drop_length
def Qf6:=@PySem.Around.frames_deeper
def Qf7:=@PySem.wpAny_newFunctionEnv
def Qf8:=@PySem.F.args_object_init_2
def Qf9:=@PySem.wpAny_updateSeq_pair
def Qga:=@Bool.and_eq_true_iff
def Qgb:=@List.mem_erase_of_ne
def Qgc:=@List.replicate_succ'
def Qgd:=@PySem.wpAny_handled
def Qge:=@PySem.F.args_tuple_iterator_next_1
def Qgf:=@List.map_id''
def Qgg:=@PySem.Value.isStrOf_shape
def Qgh:=@PySem.wpAny_execs_nil
def Qgi:=@Option.map_some
def Qgj:=@PySem.F.entry_tuple_iterator_next
def Qgk:=@List.getElem?_range
def Qgl:=@List.replicate_zero
def Qgm:=@Int.natCast_add
def Qgn:=@List.mem_filterMap
def Qgo:=@PySem.W.callWith_K
def Qgp:=@Nat.le_of_eq
def Qgq:=@Nat.min_self
def Qgr:=@PySem.wpAny_forIn_array'
def Qgs:=@Int.emod_one
def Qgt:=@Nat.add_comm
def Qgu:=@Bool.and_false
def Qgv:=@PySem.isSubtype_type
def Qgw:=@PySem.wpAny_fieldsOf
def Qgx:=@List.forIn_nil
def Qgy:=@Option.isSome_map
def Qgz:=@Array.toList_push
def Qg0:=@PySem.fits_of_scanBound
def Qg1:=@List.take_add_one
def Qg2:=@decide_eq_true_eq
def Qg3:=@PySem.wpAny_setEpoch_of
def Qg4:=@List.flatMap_cons
def Qg5:=@PySem.wpAny_throw
def Qg6:=@PySem.wpAny_onRaise
def Qg7:=@Nat.add_assoc
def Qg8:=@PySem.wpAny_pyHash_int
def Qg9:=@PySem.noFill_tuple_add
def Qha:=@PySem.wpAny_askSetting
def Qhb:=@List.countP_cons
def Qhc:=@PySem.typeLookup_type
def Qhd:=@PySem.callType_new
def Qhe:=@PySem.call_meetsIn
def Qhf:=@Nat.two_pow_pos
def Qhg:=@Int.zero_add
def Qhh:=@Nat.zero_mul
def Qhi:=@Nat.succ_mul
def Qhj:=@List.nil_append
def Qhk:=@Nat.add_zero
def Qhl:=@Nat.mul_comm
def Qhm:=@PySem.wpAny_call
def Qhn:=@PySem.call_meets
def Qho:=@if_false
def Qhp:=@PySem.seqIndex_of
def Qhq:=@PySem.sizeLine_eq
def Qhr:=@Int.mul_add
def Qhs:=@Nat.mul_one
variable {i n Z:Nat}
variable {a f T:PySem.Addr}
variable {x:PySem.Str}
variable {e o:PySem.Expr}
variable {N:List PySem.Str}
variable {p D:PySem.Pos}
variable {u:PySem.Value}
variable {Q:PySem.Value->PySem.Shared->Prop}
variable {K:PySem.W.Frag}
variable {v:List Nat}
variable {s:PySem.Shared}
variable {z:Int}
variable {h:PySem.Heap}
variable {j:Bool}
variable {R:List (List Nat)}
variable {P:PySem.Program}
variable {w:PySem.World}
variable {g:Type}
variable {m:List (PySem.Addr × PySem.Obj)}
variable {B:List PySem.Expr}
variable {C:Array PySem.Value}
variable {E:List Int}
variable {J:PySem.Obj}
variable {L:List PySem.Addr}
variable {U:List PySem.Value}
section
open PySem
abbrev Aa:=Option Value->Shared->Prop
abbrev Ab:=Value->Shared->Prop
abbrev Ac:=List (Addr × Obj)
abbrev Ad:=List (List Nat)
abbrev Ae:=Str->Option Value
abbrev Af:=PySem.W.Frag
abbrev Ag:=List Value
abbrev Ah:=Array Value
abbrev Ai:=List Str
abbrev Aj:=List Nat
abbrev Ak:=List Int
abbrev Am:=List Bool
abbrev An:=List Expr
abbrev Ao:=FuncData
abbrev Aq:=Program
abbrev Ar:=Around
abbrev As:=Shared
abbrev Au:=World
abbrev Av:=Value
abbrev Aw:=Addr
abbrev Ax:=Expr
abbrev Ay:=Stmt
end
namespace L2
open PySem PySem.Spec PyProof.Rows
abbrev Key:=Sum Int Str
def GA:Key->Value->Bool
 | .inl k,v=>Value.isInt k v
 | .inr x,v=>Value.isStrOf x v
def keyH(w:Au):Key->Int
 | .inl k=>hashInt k
 | .inr x=>hashStr w x
theorem Yf:∀{k:Key} {v:Av},GA k v=true->(∃i t,k=Sum.inl i/\v=Value.int i t)\/(∃x t,k=Sum.inr x/\v=Value.str x t)
 | .inl i,v,h=>by
  obtain ⟨t,e⟩:=Value.isInt_shape (k:=i) (v:=v) h;exact .inl ⟨i,t,rfl,e⟩
 | .inr x,v,h=>by
  obtain ⟨t,e⟩:=Qgg (x:=x) (v:=v) h;exact .inr ⟨x,t,rfl,e⟩
theorem gy(i:Int)(t:Tok):GA (.inl i) (.int i t)=true:=by simp [GA,Value.isInt]
theorem gz(x:Str)(t:Tok):GA (.inr x) (.str x t)=true:=by simp [GA,Value.isStrOf]
theorem key_ll(a b:Int):decide ((Sum.inl a:Key)=Sum.inl b)=(a == b):=by grind
theorem key_rr(a b:Str):decide ((Sum.inr a:Key)=Sum.inr b)=decide (a=b):=by grind
theorem key_lr(a:Int)(b:Str):decide ((Sum.inl a:Key)=Sum.inr b)=false:=by grind
theorem key_rl(a:Str)(b:Int):decide ((Sum.inr a:Key)=Sum.inl b)=false:=by grind
def ZD(prog:Aq)(w:Au):PySem.KeyKind prog w Key where
 is:=GA
 hash:=keyH w
 inj:=fun v a b ha hb=>by
  rcases Yf ha with ⟨i,t,rfl,rfl⟩ | ⟨x,t,rfl,rfl⟩
  ·rcases Yf hb with ⟨j,u,rfl,e⟩ | ⟨y,u,rfl,e⟩
   ·injection e with e1 _;rw [e1]
   ·exact nomatch e
  ·rcases Yf hb with ⟨j,u,rfl,e⟩ | ⟨y,u,rfl,e⟩
   ·exact nomatch e
   ·injection e with e1 _;rw [e1]
 byValue:=fun k v h=>by
  rcases Yf h with ⟨i,t,rfl,rfl⟩ | ⟨x,t,rfl,rfl⟩ <;> rfl
 pyHash:=fun hv h=>by
  rcases Yf hv with ⟨i,t,rfl,rfl⟩ | ⟨x,t,rfl,rfl⟩
  ·exact Qg8 h
  ·exact wpAny_pyHash_str h
 eqBool:=fun q hv h=>by
  rcases Yf q with ⟨i,t,rfl,rfl⟩ | ⟨x,t,rfl,rfl⟩
  ·rcases Yf hv with ⟨j,u,rfl,rfl⟩ | ⟨y,u,rfl,rfl⟩
   ·rw [key_ll] at h;exact wpAny_eqBool_int h
   ·rw [key_lr] at h;exact SeqAt.EqAt.int_str i t y u _ _ _ _ h
  ·rcases Yf hv with ⟨j,u,rfl,rfl⟩ | ⟨y,u,rfl,rfl⟩
   ·rw [key_rl] at h;exact SeqAt.EqAt.str_int x t j u _ _ _ _ h
   ·rw [key_rr] at h;exact wpAny_eqBool_str h
 «strs»:=fun k x t v h=>by
  rcases Yf h with ⟨i,u,rfl,e⟩ | ⟨y,u,rfl,e⟩
  ·exact nomatch e
  ·injection e with e1 _
   subst e1;cases v <;> rfl
theorem kW(prog:Aq)(w:Au)(k:Key)(v:Av):(ZD prog w).is k v=GA k v:=rfl
theorem y7(prog:Aq)(w:Au)(i:Int)(t:Tok):(ZD prog w).is (.inl i) (.int i t)=true:=gy i t
theorem WM(prog:Aq)(w:Au)(x:Str)(t:Tok):(ZD prog w).is (.inr x) (.str x t)=true:=gz x t
inductive V where
 | non | bl (b:Bool) | int (i:Int) | str (x:Str) | byt (b:Array UInt8) | flt (b:UInt64) | ref (a:Aw) | ty (n:String)
 deriving DecidableEq
def RelV:V->Value->Prop
 | .non,u=>u=Value.none
 | .bl b,u=>u=Value.bool b
 | .int i,u=>∃t,u=Value.int i t
 | .str x,u=>∃t,u=Value.str x t
 | .byt b,u=>∃t,u=Value.bytes b t
 | .flt b,u=>∃t,u=Value.float b t
 | .ref a,u=>u=Value.ref a
 | .ty n,u=>u=Value.type n
abbrev Vals:List V->List Av->Prop:=Paired RelV
theorem Vals.length{xs:List V}{q:Ag}(r:Vals xs q):xs.length=q.length:=Qfk r
theorem Vals.get:∀{xs:List V} {q:Ag} {i:Nat} {x:V},Vals xs q->xs[i]?=some x->∃u,q[i]?=some u/\RelV x u
 | _,_,_,_,.nil,e=>by simp at e
 | _,_,0,_,.cons r _,e=>by grind
 | _,_,i + 1,x,.cons _ t,e=>by
  obtain ⟨u,h1,h2⟩:=Vals.get (i:=i) (x:=x) t (by simpa using e);exact ⟨u,by simpa using h1,h2⟩
theorem Vals.set{x:V}{u:Av}(r:RelV x u):∀{xs:List V} {C:Ag} (i:Nat),Vals xs C->Vals (xs.set i x) (C.set i u)
 | _,_,_,.nil=>.nil
 | _,_,0,.cons _ t=>.cons r t
 | _,_,i + 1,.cons q t=>.cons q (Vals.set r i t)
theorem Vals.append:∀{xs ys:List V} {C q:Ag},Vals xs C->Vals ys q->Vals (xs++ys) (C++q)
 | _,_,_,_,.nil,s=>s
 | _,_,_,_,.cons r t,s=>.cons r (Vals.append t s)
def jh:Option V->Option Av->Prop
 | some v,some u=>RelV v u
 | none,none=>True
 | _,_=>False
def KV:List (g × V)->List (g × Av)->Prop:=Paired fun (p:g × V) (q:g × Av)=>p.1=q.1/\RelV p.2 q.2
def kV:Key->V
 | .inl i=>.int i
 | .inr x=>.str x
inductive HO where
 /-- a list -/
 | lst (xs:List V)
 /-- a tuple (never changes) -/
 | tup (xs:List V)
 /-- a dict whose keys are ints and texts; one whose keys are tuples of ints and texts (the empty one is both) -/
 | dK (kvs:List (Key × V)) | dT (kvs:List (List Key × V))
 /-- a set of ints: its members, its size -/
 | set (S:Int->Bool) (n:Nat)
 /-- an instance of the class at C, its dict at dx, its attributes -/
 | ins (C dx:Aw) (fs:List (Str × V))
 /-- the dict of the instance at x -/
 | own (x:Aw)
 /-- the dict of an exception -/
 | xd (fs:List (Str × V))
 /-- a bound method, f of x -/
 | met (f x:Aw)
 /-- a range object lo, lo + 1, .. below hi -/
 | rng (lo hi:Int)
 /-- a thing that is known to the object (the script; a dict while a loop walks it): read, never written while it is so -/
 | frz (o:Obj) (u:HO)
 /-- a code object's table -/
 | tbl (ps:Ah)
 /-- any other thing, by what is true of its one object (a def of one's own: SetO a S n := HO.ext fun h => ..) -/
 | ext (φ:Heap->Prop)
abbrev Hp:=Aw->Option HO
def upd(H:Hp)(a:Aw)(o:HO):Hp:=fun b=>if b=a then some o else H b
theorem Za{H:Hp}{o:HO}:upd H a o a=some o:=by unfold upd;rw [Qa0 rfl]
theorem Zj{H:Hp}{b:Aw}{o:HO}(h:b≠a):upd H a o b=H b:=by unfold upd;rw [Qaw h]
theorem xY{H:Hp}{o u:HO}:upd (upd H a o) a u=upd H a u:=by
 funext b;unfold upd;split <;> rfl
theorem X4{H:Hp}{b:Aw}{o u:HO}(h:H a=some o)(h':H b=some u)(d:o≠u):a≠b:=by grind
theorem Zl{H:Hp}{b:Aw}{o:HO}(h:H a=some o)(h':H b=none):a≠b:=by grind
def y8 (h:Heap) (a:Aw) (xs:Ah):Prop:=∃o,h.get? a=some o/\o.cls=.type "tuple" /\ (∃n,o.data=.seq xs n)/\o.dict=none
theorem y8.tup{h:Heap}{a:Aw}{xs:Ah}(p:y8 h a xs):IsTup h a xs:=let ⟨o,e,c,d,_⟩:=p;⟨o,e,c,d⟩
theorem y8.new (h:Heap) (xs:Ah):y8 (h.push { cls:=.type "tuple",data:=.seq xs }) h.objs.size xs:=⟨_,Qak _ rfl,rfl,⟨_,rfl⟩,rfl⟩
theorem y8.lt{h:Heap}{a:Aw}{xs:Ah}(p:y8 h a xs):a < h.objs.size:=p.tup.lt
section
variable (P:Aq)(w:Au)
def Yn(H:Hp)(h:Heap)(a:Aw):HO->Prop
 | .lst xs=>xs.length<=sizeLine/\∃(D:Ag) (n:Nat),Vals xs D/\h.get? a=some { cls:=.type "list",data:=.seq D.toArray n }
 | .tup xs=>xs.length<=sizeLine/\∃D:Ag,Vals xs D/\y8 h a D.toArray
 | .dK kvs=>kvs.length<=sizeLine/\(a == sysModules)=false/\∃vs,KV kvs vs/\h.DictOf (ZD P w) a vs
 | .dT kvs=>kvs.length<=sizeLine/\(a == sysModules)=false/\∃xs:List (List Key × Aw × Av),
   Paired (fun (p:List Key × V) (q:List Key × Aw × Av)=>p.1=q.1/\H q.2.1=some (.tup (p.1.map kV))/\RelV p.2 q.2.2) kvs xs /\
   ∃o es ep,h.get? a=some o/\o.ExactDict/\o.data=.dict es ep/\es.toList=xs.map (entryOfKey (tupleKind (ZD P w)))/\(xs.map (·.1)).Nodup
 | .set S n=>h.SetOf (intKind P w) a S n
 | .ins C dx fs=>H dx=some (.own a)/\fs.length<=1000/\dx≠a/\h.get? a=some (PySem.W.instObj C dx) /\
   ∃mA,h.Ns1 dx mA/\(∀f,jh (fs.lookup f) (mA f))/\PySem.Within mA (fs.map (·.1))
 | .own _=>∃o,h.get? a=some o
 | .xd fs=>∃mA,h.Ns1 a mA/\∀f,jh (fs.lookup f) (mA f)
 | .rng lo hi=>∃t u v,h.get? a=some { cls:=.type "range",data:=.fields #[.int lo t,.int hi u,.int 1 v] }
 | .frz o u=>h.get? a=some o/\Yn H h a u
 | .tbl ps=>h.get? a=some { cls:=.none,data:=.fields ps }
 | .met f x=>h.get? a=some (PySem.W.methodObj (.ref f) (.ref x))
 | .ext φ=>φ h/\(∃o,h.get? a=some o)/\∀h1 h2:Heap,φ h1->(∀o,h1.get? a=some o->h2.get? a=some o)->φ h2
def HOk(H:Hp)(h:Heap):Prop:=∀a o,H a=some o->Yn P w H h a o
end
section
variable {P:Aq}{w:Au}{H H':Hp}{h h':Heap}{a:Aw}{o:HO}
theorem Yn.lt(x:Yn P w H h a o):a < h.objs.size:=by
 cases o with
 | lst xs=>obtain ⟨_,_,_,_,e⟩:=x;exact Qan e
 | tup xs=>obtain ⟨_,_,_,p⟩:=x;exact p.lt
 | dK kvs=>obtain ⟨_,_,_,_,o,_,_,e,_⟩:=x;exact Qan e
 | dT kvs=>obtain ⟨_,_,_,_,o,_,_,e,_⟩:=x;exact Qan e
 | set S n=>obtain ⟨o,_,_,_,e,_⟩:=x;exact Qan e
 | ins C dx fs=>obtain ⟨_,_,_,e,_⟩:=x;exact Qan e
 | own y=>obtain ⟨_,e⟩:=x;exact Qan e
 | xd fs=>obtain ⟨_,⟨_,_,_,e,_⟩,_⟩:=x;exact Qan e
 | rng lo hi=>obtain ⟨_,_,_,e⟩:=x;exact Qan e
 | frz ob u=>obtain ⟨e,_⟩:=x;exact Qan e
 | tbl ps=>exact Qan (show h.get? a=some _ from x)
 | met f y=>exact Qan (show h.get? a=some _ from x)
 | ext φ=>obtain ⟨_,⟨_,e⟩,_⟩:=x;exact Qan e
theorem Paired.mapP{α β:Type}{F G:α->β->Prop}:∀{C:List α} {q:List β},Paired F C q->(∀a b,F a b->G a b)->Paired G C q
 | _,_,.nil,_=>.nil
 | _,_,.cons r t,f=>.cons (f _ _ r) (Paired.mapP t f)
theorem Yn.stay(x:Yn P w H h a o)(k:∀b u,(b=a\/H b=some (.own a))->h.get? b=some u->h'.get? b=some u)
  (ho:∀b,H b=some (.own a)->H' b=some (.own a)) (G:∀b xs,H b=some (.tup xs)->H' b=some (.tup xs)):Yn P w H' h' a o:=by
 induction o with
 | lst xs=>obtain ⟨z,D,n,r,e⟩:=x;exact ⟨z,D,n,r,k _ _ (.inl rfl) e⟩
 | tup xs=>obtain ⟨z,D,r,ob,e,c⟩:=x;exact ⟨z,D,r,ob,k _ _ (.inl rfl) e,c⟩
 | dK kvs=>obtain ⟨z,y,vs,r,ob,es,ep,e,c⟩:=x;exact ⟨z,y,vs,r,ob,es,ep,k _ _ (.inl rfl) e,c⟩
 | dT kvs =>
  obtain ⟨z,y,xs,r,ob,es,ep,e,c⟩:=x;exact ⟨z,y,xs,Paired.mapP r fun p q z=>⟨z.1,G _ _ z.2.1,z.2.2⟩,ob,es,ep,k _ _ (.inl rfl) e,c⟩
 | set S n=>obtain ⟨ob,es,ep,t,e,c⟩:=x;exact ⟨ob,es,ep,t,k _ _ (.inl rfl) e,c⟩
 | ins C dx fs =>
  obtain ⟨d,z,ne,e,mA,⟨od,es,ep,e2,c⟩,r⟩:=x;exact ⟨ho _ d,z,ne,k _ _ (.inl rfl) e,mA,⟨od,es,ep,k _ _ (.inr d) e2,c⟩,r⟩
 | own y=>obtain ⟨ob,e⟩:=x;exact ⟨ob,k _ _ (.inl rfl) e⟩
 | xd fs=>obtain ⟨mA,⟨od,es,ep,e,c⟩,r⟩:=x;exact ⟨mA,⟨od,es,ep,k _ _ (.inl rfl) e,c⟩,r⟩
 | rng lo hi=>obtain ⟨t,u,v,e⟩:=x;exact ⟨t,u,v,k _ _ (.inl rfl) e⟩
 | frz ob u I=>obtain ⟨e,q⟩:=x;exact ⟨k _ _ (.inl rfl) e,I q⟩
 | tbl ps =>
  have e:h.get? a=some { cls:=.none,data:=.fields ps }:=x;exact k a _ (.inl rfl) e
 | met f y =>
  have e:h.get? a=some (PySem.W.methodObj (.ref f) (.ref y)):=x;exact k a _ (.inl rfl) e
 | ext φ=>obtain ⟨p,⟨o,e⟩,st⟩:=x;exact ⟨st _ _ p fun o q=>k _ _ (.inl rfl) q,⟨o,k _ _ (.inl rfl) e⟩,st⟩
theorem HOk.lt(x:HOk P w H h)(e:H a=some o):a < h.objs.size:=(x a o e).lt
theorem HOk.fresh(x:HOk P w H h)(e:h.objs.size<=a):H a=none:=by
 cases q:H a with
 | none=>rfl
 | some u=>exact absurd (Qbb (x.lt q) e) (Qbw _)
theorem HOk.kept(x:HOk P w H h)(k:∀b u,h.get? b=some u->h'.get? b=some u):HOk P w H h':=fun a o e =>
 (x a o e).stay (fun b u _ q=>k b u q) (fun _ q=>q) fun _ _ q=>q
theorem HOk.laid(x:HOk P w H h)(k:∀b u,h.get? b=some u->h'.get? b=some u)(hp:h.objs.size<=a)(new:Yn P w (upd H a o) h' a o):HOk P w (upd H a o) h':=fun b u e=>by
 have hn:=x.fresh hp
 by_cases hb:b=a
 ·subst hb;rw [Za] at e;cases e;exact new
 ·rw [Zj hb] at e
  exact (x b u e).stay (fun c v _ q=>k c v q) (fun c q=>by rw [Zj (Zl q hn)];exact q) fun c xs q=>by rw [Zj (Zl q hn)];exact q
end
def Rd(H:Hp)(a:Aw)(u:HO):Prop:=H a=some u\/∃o,H a=some (.frz o u)
theorem Rd.ok{H:Hp}{u:HO}(r:Rd H a u)(x:HOk P w H h):Yn P w H h a u:=by
 rcases r with r | ⟨o,r⟩
 ·exact x a u r
 ·obtain ⟨_,q⟩:=x a _ r
  exact q
def Mut:Option HO->Prop
 | some (.lst _)=>True
 | some (.dK _)=>True
 | some (.dT _)=>True
 | some (.set _ _)=>True
 | some (.ins _ _ _)=>True
 | some (.ext _)=>True
 | _=>False
section
variable {P:Aq}{w:Au}{H:Hp}{h h':Heap}{x e:Aw}{o':HO}
theorem HOk.write(ok:HOk P w H h)(I:Mut (H x))(he:e=x\/H e=some (.own x))(k:∀b u,b≠e->h.get? b=some u->h'.get? b=some u)(J:∃u,h'.get? e=some u)
  (new:Yn P w (upd H x o') h' x o'):HOk P w (upd H x o') h':=fun b u q=>by
 have C:∀c y,H c=some (.own y)->c≠x:=fun c y r z=>by subst z;rw [r] at I;exact I
 have D:∀c xs,H c=some (.tup xs)->c≠x:=fun c xs r z=>by subst z;rw [r] at I;exact I
 by_cases hb:b=x
 ·subst hb;rw [Za] at q;cases q;exact new
 ·rw [Zj hb] at q
  by_cases G:b=e
  ·have q':H b=some (.own x):=by
    grind
   rw [q] at q';cases q';obtain ⟨v,hv⟩:=J;exact ⟨v,by rw [G];exact hv⟩
  ·refine (ok b u q).stay (fun c v hc r=>k c v ?_ r) (fun c r=>by rw [Zj (C c b r)];exact r) fun c xs r=>by rw [Zj (D c xs r)];exact r
   rcases hc with rfl | hc
   ·exact G
   ·grind
end
structure Un(fs ex:List Aw)(H H':Hp)(h h':Heap):Prop where
 keep:∀b o,h.get? b=some o->H b=none->b∉fs->b∉ex->h'.get? b=some o
 slot:∀b o,h.get? b=some o->H b=none->b∈fs->b∉ex->∃sl,h'.get? b=some { o with slots:=sl }
 free:∀b o,h.get? b=some o->H b=none->b∉ex->H' b=none
 there:∀b o,h.get? b=some o->b∉ex->∃o',h'.get? b=some o'
 tups:∀b xs,H b=some (.tup xs)->H' b=some (.tup xs)
 frzs:∀b o u,H b=some (.frz o u)->H' b=some (.frz o u)
 tbls:∀b ps,H b=some (.tbl ps)->∃more,H' b=some (.tbl (ps++more))
section
variable {fs fs' ex ex':List Aw}{H H1 H2:Hp}{h h1 h2 h':Heap}{a x e:Aw}{o:HO}
theorem Un.any(u:Un fs ex H H1 h h1){b:Aw}(q:h.get? b=some J)(n:H b=none)(hx:b∉ex):∃C,h1.get? b=some { J with slots:=C }:=by
 by_cases hb:b∈fs
 ·exact u.slot b J q n hb hx
 ·exact ⟨J.slots,u.keep b J q n hb hx⟩
theorem Un.kept(k:∀b u,h.get? b=some u->h'.get? b=some u):Un fs ex H H h h' :=
 ⟨fun b ob q _ _ _=>k b ob q,fun b ob q _ _ _=>⟨ob.slots,k b ob q⟩,fun _ _ _ n _=>n,fun b ob q _=>⟨ob,k b ob q⟩,fun _ _ q=>q,fun _ _ _ q=>q,fun _ ps q=>⟨#[],by rw [q];simp⟩⟩
theorem Un.refl:Un fs ex H H h h:=Un.kept fun _ _ q=>q
theorem Un.laid(k:∀b u,h.get? b=some u->h'.get? b=some u)(hp:h.objs.size<=a)(hn:H a=none):Un fs ex H (upd H a o) h h' where
 keep:=fun b u q _ _ _=>k b u q
 slot:=fun b u q _ _ _=>⟨u.slots,k b u q⟩
 free:=fun b u q n _=>by rw [Zj (Qbd (Qbb (Qan q) hp))];exact n
 there:=fun b u q _=>⟨u,k b u q⟩
 tups:=fun b xs q=>by rw [Zj (Zl q hn)];exact q
 frzs:=fun b u xs q=>by rw [Zj (Zl q hn)];exact q
 tbls:=fun b ps q=>⟨#[],by rw [Zj (Zl q hn),q];simp⟩
theorem Un.write(D:Mut (H x))(he:e=x\/H e=some (.own x))(k:∀b u,b≠e->h.get? b=some u->h'.get? b=some u)(G:∃u,h'.get? e=some u):Un fs ex H (upd H x o) h h':=by
 have hx:∀b,H b=none->b≠x:=fun b n z=>by subst z;rw [n] at D;exact D
 have hb:∀b,H b=none->b≠e:=fun b n z=>by
  grind
 have hm:∀b u,H b=some u->¬Mut (some u)->b≠x:=fun b u q nm z=>by subst z;rw [q] at D;exact nm D
 refine ⟨fun b u q n _ _=>k b u (hb b n) q,fun b u q n _ _=>⟨u.slots,k b u (hb b n) q⟩,fun b u q n _=>by rw [Zj (hx b n)];exact n,fun b u q _=>?_,
  fun b xs q=>by rw [Zj (hm b _ q fun z=>z)];exact q,fun b u xs q=>by rw [Zj (hm b _ q fun z=>z)];exact q,fun b ps q=>⟨#[],by rw [Zj (hm b _ q fun z=>z),q];simp⟩⟩
 by_cases C:b=e
 ·subst C;exact G
 ·exact ⟨u,k b u C q⟩
end
def trk(h:Heap)(H:Hp):List Aw:=(List.range h.objs.size).filter fun a=>(H a).isSome
def g7(h:Heap)(H:Hp):Heap:=PySem.W.hideAll h (trk h H)
theorem g8(h:Heap)(H:Hp):(g7 h H).objs.size=h.objs.size:=PySem.W.hideAll_size _ _
theorem Zb7{H:Hp}{b:Aw}{o:Obj}(e:h.get? b=some o)(n:H b=none):(g7 h H).get? b=some o :=
 PySem.W.hideAll_get _ e fun hm=>by
  have q:(H b).isSome=true:=(Qd2.mp hm).2;rw [n] at q;simp at q
theorem Zff{H:Hp}{b:Aw}{o:Obj}(e:(g7 h H).get? b=some o):h.get? b=some o/\H b=none:=by
 have C:h.get? b=some o:=PySem.W.of_hideAll (trk h H) e;refine ⟨C,?_⟩;cases q:H b with
 | none=>rfl
 | some x =>
  have hm:b∈trk h H:=Qd2.mpr ⟨Qcn.mpr (Qan C),by simp [q]⟩;have z:(g7 h H).get? b=none:=PySem.W.hideAll_none (trk h H) hm;rw [z] at e;cases e
structure Mod(K:Af)(mg:Ae)(base:Heap):Prop where
 kin:K.In base
 glob:base.Ns mainGlobals mg
 blt:∃mb,base.Ns builtinsNs mb/\∀x:Str,x ≠ "__name__" -> mb x=bootBuiltins x
 nolimit:base.NoLimit
set_option genInjectivity false in
set_option genSizeOfSpec false in
structure Cx where
 prog:Aq
 w:Au
 K:Af
 mg:Ae
 base:Heap
 A:Ar
 N:Ai
 s₀:As
 H₀:Hp
 env:Env
 outer:List Env
 stack:List Env
 ex:List Aw
 fn:Str->Bool
 calm:Bool
 pn:Ac
 xe:Ab
def frs(l:List Env):List Aw:=l.filterMap (·.frame)
abbrev Cx.fs(X:Cx):List Aw:=frs X.outer
def Vis(q:Scope)(x:Str):Prop:=q.names.lookup x=some .local\/q.names.lookup x=some .cell\/q.names.lookup x=some .free
def Loc(q:Scope)(x:Str):Prop:=q.names.lookup x=some .local\/q.names.lookup x=some .cell
def Look(env:Env)(h:Heap)(m:Ae)(x:Str)(u:Av):Prop :=
 (env.kindOf x=some .local/\m x=some u)\/((env.kindOf x=some .cell\/env.kindOf x=some .free)/\∃c,env.cells.lookup x=some c/\h.IsCell c (some u))
set_option genInjectivity false in
set_option genSizeOfSpec false in
structure Cx.Ok(X:Cx):Prop where
 mod:Mod X.K X.mg X.base
 kind:X.env.scope.kind=.function
 glob:X.env.globals=mainGlobals
 blt:X.env.builtins=builtinsNs
 above:X.s₀.heap.objs.size<=X.env.locals
 inj:∀x y c,X.env.cells.lookup x=some c->X.env.cells.lookup y=some c->x=y
 has:∀x,(X.env.kindOf x=some .cell\/X.env.kindOf x=some .free)->∃c,X.env.cells.lookup x=some c
 cab:∀x c,X.fn x=true->X.env.cells.lookup x=some c->X.s₀.heap.objs.size<=c
 hd:X.calm=true->X.A.handled=none
 frames:X.A.frames=some X.stack
 stk:X.stack=X.outer\/(X.stack=X.env::X.outer/\X.env.frame=some X.env.locals)
 exf:∀b∈X.ex,b≠X.env.locals/\∀x c,X.env.cells.lookup x=some c->c≠b
 bs:∀b o,X.base.get? b=some o->X.s₀.heap.get? b=some o/\X.H₀ b=none
 bsz:X.base.objs.size<=X.s₀.heap.objs.size
 noex:∀b o,X.base.get? b=some o->b∉X.ex
 exfs:∀b∈X.ex,b∉X.fs
 funs:X.s₀.heap.FunFrames X.base X.outer
 frf:∀b∈X.fs,X.H₀ b=none
structure Inv(X:Cx)(pins:Ac)(σ:List (Option V))(H:Hp)(s:As):Prop where
 ok:X.Ok
 os:s.os=X.s₀.os
 bare:AllBare s.gens
 base:Un X.fs X.ex X.H₀ H X.s₀.heap s.heap
 loc:∃m,s.heap.Ns X.env.locals m/\∀(i:Nat) (x:Str) (v:V),X.N[i]?=some x->σ[i]?=some (some v)->Vis X.env.scope x->∃u,RelV v u/\Look X.env s.heap m x u
 cell:∀x c,X.env.cells.lookup x=some c->∃v,s.heap.IsCell c v
 free:H X.env.locals=none
 freeC:∀x c,X.env.cells.lookup x=some c->H c=none
 pin:∀p∈X.pn++pins,s.heap.get? p.1=some p.2/\H p.1=none/\p.1≠X.env.locals/\p.1∉X.fs/\∀v,p.2.data≠.cell v
 hok:HOk X.prog X.w H s.heap
 len:σ.length=X.N.length
section
variable {X:Cx}{pins:Ac}{σ:List (Option V)}{H H':Hp}{s:As}{h':Heap}
theorem Cx.Ok.nofr(ok:X.Ok){b:Aw}{o:Obj}(e:X.base.get? b=some o):b∉X.fs:=fun hb=>by
 have:=(ok.funs.mem hb).1;rw [e] at this;cases this
theorem Inv.bs(I:Inv X pins σ H s):∀b o,X.base.get? b=some o->s.heap.get? b=some o/\H b=none:=fun b o e =>
 ⟨I.base.keep b o (I.ok.bs b o e).1 (I.ok.bs b o e).2 (I.ok.nofr e) (I.ok.noex b o e),I.base.free b o (I.ok.bs b o e).1 (I.ok.bs b o e).2 (I.ok.noex b o e)⟩
theorem Inv.bk(I:Inv X pins σ H s):∀b o,X.base.get? b=some o->s.heap.get? b=some o:=fun b o e=>(I.bs b o e).1
theorem Inv.mod(I:Inv X pins σ H s):Mod X.K X.mg X.base:=I.ok.mod
theorem Inv.kIn(I:Inv X pins σ H s):X.K.In s.heap:=I.ok.mod.kin.keeps I.bk
theorem Inv.lt(I:Inv X pins σ H s):X.env.locals < s.heap.objs.size:=let ⟨_,hn,_⟩:=I.loc;hn.lt
theorem Inv.sz(I:Inv X pins σ H s):X.s₀.heap.objs.size<=s.heap.objs.size:=Qaz I.ok.above (Qa9 I.lt)
theorem Inv.nofs(I:Inv X pins σ H s)(h:s.heap.objs.size<=a):a∉X.fs:=fun hb=>by
 obtain ⟨_,o,ho,_⟩:=I.ok.funs.mem hb;exact absurd (Qbb (Qan ho) (Qaz I.sz h)) (Qbw _)
theorem Inv.cne(I:Inv X pins σ H s):∀x c,X.env.cells.lookup x=some c->c≠X.env.locals:=fun x c e z=>by
 obtain ⟨v,o,ho,hd⟩:=I.cell x c e;obtain ⟨m,⟨o',es,ep,C,q,_⟩,_⟩:=I.loc;rw [z,C] at ho;cases ho;rw [q] at hd;cases hd
theorem Inv.funs(I:Inv X pins σ H s):s.heap.FunFrames X.base X.outer:=by
 have all:∀(l:List Env),(∀b∈frs l,b∈X.fs)->X.s₀.heap.FunFrames X.base l->s.heap.FunFrames X.base l:=by
  intro l
  induction l with
  | nil=>intro _ _;trivial
  | cons env r C =>
   intro hs hl;obtain ⟨hk,⟨L,o,hf,hn,ho,hd⟩,hr⟩:=hl;have q:L∈X.fs:=hs L (by unfold frs;rw [Qeh,hf];exact Qah);obtain ⟨D,e⟩:=I.base.slot L o ho (I.ok.frf L q) q fun z=>I.ok.exfs L z q;exact ⟨hk,⟨L,_,hf,hn,e,hd⟩,C (fun b hb=>hs b (by unfold frs;rw [Qeh,hf];exact Qal _ hb)) hr⟩
 exact all X.outer (fun _ hb=>hb) I.ok.funs
theorem Inv.stack(I:Inv X pins σ H s):s.heap.FunFrames X.base X.stack:=by
 rcases I.ok.stk with e | ⟨e,hf⟩
 ·rw [e];exact I.funs
 ·rw [e]
  obtain ⟨m,hn,_⟩:=I.loc;refine .cons (by rw [I.ok.kind];decide) hf hn ?_ I.funs;exact Heap.get?_none_of_le (Qaz I.ok.bsz I.ok.above)
theorem Inv.stkSub(I:Inv X pins σ H s):∀b∈frs X.stack,b∈X.env.locals::X.fs:=fun b hb=>by
 rcases I.ok.stk with e | ⟨e,hf⟩
 ·grind
 ·rw [e] at hb
  unfold frs at hb;rw [Qeh,hf] at hb;exact hb
theorem Inv.stkFree(I:Inv X pins σ H s):∀b∈frs X.stack,H b=none:=fun b hb=>by
 rcases Qam.mp (I.stkSub b hb) with e | hb
 ·rw [e];exact I.free
 ·obtain ⟨_,o,ho,_⟩:=I.ok.funs.mem hb
  exact I.base.free b o ho (I.ok.frf b hb) fun z=>I.ok.exfs b z hb
theorem Inv.step{g':Array GenState}{t':Nat}{d':Drawn}{ch:List Aw}(I:Inv X pins σ H s)
  (D:∀b∈ch,(b∈X.ex\/X.s₀.heap.objs.size<=b)/\b≠X.env.locals/\(∀x c,X.env.cells.lookup x=some c->c≠b)/\∀p∈X.pn++pins,p.1≠b)
  (keep:∀b o,b≠X.env.locals->b∉X.fs->b∉ch->s.heap.get? b=some o->H b=none->h'.get? b=some o)
  (slot:∀b o,b≠X.env.locals->b∈X.fs->b∉ch->s.heap.get? b=some o->H b=none->∃Y,h'.get? b=some { o with slots:=Y }) (free:∀b o,b∉ch->s.heap.get? b=some o->H b=none->H' b=none)
  (L:∀b o,b∉ch->s.heap.get? b=some o->∃o',h'.get? b=some o')
  (tups:∀b xs,H b=some (.tup xs)->H' b=some (.tup xs)) (O:∀b o u,H b=some (.frz o u)->H' b=some (.frz o u)) (N:∀b ps,H b=some (.tbl ps)->∃M,H' b=some (.tbl (ps++M)))
  (ns:∀m,s.heap.Ns X.env.locals m->h'.Ns X.env.locals m) (Z:HOk X.prog X.w H' h') (hg:AllBare g') :
  Inv X pins σ H' { s with heap:=h',gens:=g',drawn:=d',toks:=t' }:=by
 have S:∀b o,X.s₀.heap.get? b=some o->b≠X.env.locals:=fun b o e=>Qbd (Qbb (Qan e) I.ok.above);have J:∀b o,X.s₀.heap.get? b=some o->b∉X.ex->b∉ch:=fun b o e hx hb=>by
  rcases (D b hb).1 with z | z
  ·exact hx z
  ·exact absurd (Qbb (Qan e) z) (Qbw _)
 have G:∀x c,X.env.cells.lookup x=some c->∀v,s.heap.IsCell c v->h'.IsCell c v:=fun x c e v ⟨o,ho,hd⟩=>by
  have C:c∉ch:=fun z=>(D c z).2.2.1 x c e rfl
  by_cases hc:c∈X.fs
  ·obtain ⟨Y,q⟩:=slot c o (I.cne x c e) hc C ho (I.freeC x c e)
   exact ⟨_,q,hd⟩
  ·exact ⟨o,keep c o (I.cne x c e) hc C ho (I.freeC x c e),hd⟩
 refine ⟨I.ok,I.os,hg,⟨fun b o e n hb hx=>?_,fun b o e n hb hx=>?_,fun b o e n hx=>?_,fun b o e hx=>?_,fun b xs e=>tups b xs (I.base.tups b xs e),fun b o xs e=>O b o xs (I.base.frzs b o xs e),fun b ps e=>?_⟩,?_,fun x c e=>?_,?_,fun x c e=>?_,fun p hp=>?_,Z,I.len⟩
 ·exact keep b o (S b o e) hb (J b o e hx) (I.base.keep b o e n hb hx) (I.base.free b o e n hx)
 ·obtain ⟨Y,e1⟩:=I.base.slot b o e n hb hx
  obtain ⟨sl',e2⟩:=slot b _ (S b o e) hb (J b o e hx) e1 (I.base.free b o e n hx);exact ⟨sl',e2⟩
 ·obtain ⟨o',e1⟩:=I.base.there b o e hx
  exact free b o' (J b o e hx) e1 (I.base.free b o e n hx)
 ·obtain ⟨o',e1⟩:=I.base.there b o e hx
  exact L b o' (J b o e hx) e1
 ·obtain ⟨m1,e1⟩:=I.base.tbls b ps e
  obtain ⟨m2,e2⟩:=N b _ e1;exact ⟨m1++m2,by rw [e2,Array.append_assoc]⟩
 ·obtain ⟨m,hn,hl⟩:=I.loc
  refine ⟨m,ns m hn,fun i x v e1 e2 e3=>?_⟩;obtain ⟨u,r,l⟩:=hl i x v e1 e2 e3;refine ⟨u,r,?_⟩;rcases l with l | ⟨k,c,e,z⟩
  ·exact .inl l
  ·exact .inr ⟨k,c,e,G x c e _ z⟩
 ·obtain ⟨v,z⟩:=I.cell x c e
  exact ⟨v,G x c e v z⟩
 ·obtain ⟨m,⟨o,_,_,ho,_⟩,_⟩:=I.loc
  exact free _ o (fun z=>(D _ z).2.1 rfl) ho I.free
 ·obtain ⟨v,o,ho,hd⟩:=I.cell x c e
  exact free c o (fun z=>(D c z).2.2.1 x c e rfl) ho (I.freeC x c e)
 ·obtain ⟨e,n,ne,nf,d⟩:=I.pin p hp
  have C:p.1∉ch:=fun z=>(D p.1 z).2.2.2 p hp rfl;exact ⟨keep p.1 p.2 ne nf C e n,free p.1 p.2 C e n,ne,nf,d⟩
theorem Inv.un{t':Nat}(I:Inv X pins σ H s)(u:Un X.fs [] H H' s.heap h')(D:HOk X.prog X.w H' h'):Inv X pins σ H' { s with heap:=h',toks:=t' }:=by
 obtain ⟨m,⟨o,es,ep,ho,r⟩,_⟩:=id I.loc;obtain ⟨N,J⟩:=u.any ho I.free (by simp);exact I.step (g':=s.gens) (d':=s.drawn) (ch:=[]) (fun _ z=>nomatch z) (fun b o _ hb _ e n=>u.keep b o e n hb (by simp)) (fun b o _ hb _ e n=>u.slot b o e n hb (by simp)) (fun b o _ e n=>u.free b o e n (by simp)) (fun b o _ e=>u.there b o e (by simp)) u.tups u.frzs u.tbls (fun M hm=>by
  obtain ⟨o',G,C,q,L⟩:=hm;rw [ho] at q;cases q;exact ⟨_,G,C,J,L⟩) D I.bare
theorem Inv.call{g':Array GenState}{t':Nat}{d':Drawn}{ch:List Aw}(I:Inv X pins σ H s)(u:Un (frs X.stack) ch H H' s.heap h')(J:HOk X.prog X.w H' h')(hg:AllBare g')
  (q:∀b∈ch,(b∈X.ex\/X.s₀.heap.objs.size<=b)/\b≠X.env.locals/\(∀x c,X.env.cells.lookup x=some c->c≠b)/\∀p∈X.pn++pins,p.1≠b) :
  Inv X pins σ H' { s with heap:=h',gens:=g',drawn:=d',toks:=t' }:=by
 obtain ⟨m,⟨o,es,ep,ho,r⟩,_⟩:=id I.loc;obtain ⟨O,G⟩:=u.any ho I.free fun z=>(q _ z).2.1 rfl;exact I.step (ch:=ch) q (fun b o G hb hc e n=>u.keep b o e n (fun z=>(Qam.mp (I.stkSub b z)).elim G hb) hc) (fun b o _ _ hc e n=>u.any e n hc) (fun b o hc e n=>u.free b o e n hc) (fun b o hc e=>u.there b o e hc) u.tups u.frzs u.tbls (fun N hm=>by
  obtain ⟨o',L,D,C,M⟩:=hm;rw [ho] at C;cases C;exact ⟨_,L,D,G,M⟩) J hg
theorem Inv.turned{t':Nat}{it:Aw}(I:Inv X pins σ H s)(k:∀b o,b≠it->s.heap.get? b=some o->h'.get? b=some o)(hn:H it=none)(D:it≠X.env.locals)
  (h1:it∈X.ex\/X.s₀.heap.objs.size<=it) (h2:∀x c,X.env.cells.lookup x=some c->c≠it) (G:∀p∈X.pn++pins,p.1≠it):Inv X pins σ H { s with heap:=h',toks:=t' }:=by
 have C:∀b u,H b=some u->b≠it:=fun b u e z=>by rw [z,hn] at e;cases e
 refine I.step (g':=s.gens) (d':=s.drawn) (ch:=[it]) (fun b hb=>?_) (fun b o _ _ hc e _=>k b o (fun z=>hc (by simp [z])) e) (fun b o _ _ hc e _=>⟨o.slots,k b o (fun z=>hc (by simp [z])) e⟩) (fun _ _ _ _ n=>n)
  (fun b o hc e=>⟨o,k b o (fun z=>hc (by simp [z])) e⟩) (fun _ _ e=>e) (fun _ _ _ e=>e) (fun b ps e=>⟨#[],by rw [e];simp⟩) (fun m hm=>?_) (fun b u e=>?_) I.bare
 ·grind
 ·obtain ⟨o,es,ep,ho,r⟩:=hm
  exact ⟨o,es,ep,k _ o (Qdo D) ho,r⟩
 ·refine (I.hok b u e).stay (fun c v hc q=>k c v ?_ q) (fun _ q=>q) fun _ _ q=>q
  rcases hc with z | z
  ·rw [z];exact C b u e
  ·exact C c _ z
theorem Inv.tok(I:Inv X pins σ H s)(t:Nat):Inv X pins σ H { s with toks:=t }:=I.un (h':=s.heap) (t':=t) Un.refl I.hok
theorem Inv.kept{t':Nat}(I:Inv X pins σ H s)(k:∀b u,s.heap.get? b=some u->h'.get? b=some u):Inv X pins σ H { s with heap:=h',toks:=t' }:=I.un (Un.kept k) (I.hok.kept k)
theorem Inv.laid{a:Aw}{o:HO}{t':Nat}(I:Inv X pins σ H s)(k:∀b u,s.heap.get? b=some u->h'.get? b=some u)(hp:s.heap.objs.size<=a)(new:Yn X.prog X.w (upd H a o) h' a o) :
  Inv X pins σ (upd H a o) { s with heap:=h',toks:=t' }:=I.un (Un.laid k hp (I.hok.fresh hp)) (I.hok.laid k hp new)
theorem Inv.write{x e:Aw}{o:HO}{t':Nat}(I:Inv X pins σ H s)(C:Mut (H x))(he:e=x\/H e=some (.own x))(k:∀b u,b≠e->s.heap.get? b=some u->h'.get? b=some u)(q:∃u,h'.get? e=some u)
  (new:Yn X.prog X.w (upd H x o) h' x o):Inv X pins σ (upd H x o) { s with heap:=h',toks:=t' }:=I.un (Un.write C he k q) (I.hok.write C he k q new)
theorem Inv.pins_of(I:Inv X pins σ H s)(h:∀p∈m,s.heap.get? p.1=some p.2/\H p.1=none/\p.1≠X.env.locals/\p.1∉X.fs/\∀v,p.2.data≠.cell v):Inv X m σ H s :=
 ⟨I.ok,I.os,I.bare,I.base,I.loc,I.cell,I.free,I.freeC,fun p hp=>(Qca.mp hp).elim (fun z=>I.pin p (Qde _ z)) (h p),I.hok,I.len⟩
theorem vG(hN:N.Nodup){j:Nat}(a:N[i]?=some x)(b:N[j]?=some x):i=j:=by
 obtain ⟨h1,e1⟩:=Qaf.mp a;obtain ⟨h2,e2⟩:=Qaf.mp b;exact (List.getElem_inj hN).mp (e1.trans e2.symm)
theorem g9{M:Model}{A:Ar}{E:Ab}{v:V}{Q:Unit->Shared->Prop}(I:Inv X pins σ H s)(hN:X.N.Nodup)(hi:X.N[i]?=some x)(hx:Loc X.env.scope x)(r:RelV v u)
  (h:∀s',Inv X pins (σ.set i (some v)) H s'->(∃a,Heap.SameBut a s.heap s'.heap/\(a=X.env.locals\/X.env.cells.lookup x=some a))->Q () s') (hf:X.fn x=true\/X.env.scope.names.lookup x=some .local:=by first | exact .inl rfl | exact .inr rfl | assumption):wpAny M A (storeName X.env x u) Q E s:=by
 obtain ⟨m,hn,hl⟩:=id I.loc;have S:(X.env.scope.kind == .class || (X.env.scope.kind == .module && X.env.locals != X.env.globals))=false:=by rw [I.ok.kind];rfl
 have G:i < σ.length:=by rw [I.len];exact (Qaf.mp hi).1
 have cne:=I.cne;have C:∀{a:Aw} {h':Heap},(∃o,s.heap.get? a=some o/\H a=none)->Heap.SameBut a s.heap h'->HOk X.prog X.w H h':=fun {a h'} ha hs b ob e=>by
  obtain ⟨_,_,D⟩:=ha;refine (I.hok b ob e).stay (fun c w' hc q=>(hs.2 c ?_).trans q) (fun _ q=>q) fun _ _ q=>q;rintro rfl;rcases hc with rfl | hc
  ·rw [D] at e;cases e
  ·rw [D] at hc;cases hc
 rcases hx with hk | hk
 ·refine wpAny_storeName_local hk hn (fun h' hn' hs=>?_) S
  obtain ⟨oL,_,_,hoL,_⟩:=id hn;refine h _ ⟨I.ok,I.os,I.bare,⟨fun b o e n hb hx=>?_,fun b o e n hb hx=>?_,I.base.free,fun b o e hx=>?_,I.base.tups,I.base.frzs,I.base.tbls⟩,⟨_,hn',fun j y v' e1 e2 e3=>?_⟩,fun y c e=>?_,I.free,I.freeC,fun p hp=>?_,C ⟨oL,hoL,I.free⟩ hs,by simpa using I.len⟩ ⟨_,hs,.inl rfl⟩
  ·exact (hs.2 b (Qbd (Qbb (Qan e) I.ok.above))).trans (I.base.keep b o e n hb hx)
  ·obtain ⟨sl,e1⟩:=I.base.slot b o e n hb hx
   exact ⟨sl,(hs.2 b (Qbd (Qbb (Qan e) I.ok.above))).trans e1⟩
  ·obtain ⟨o',e1⟩:=I.base.there b o e hx
   exact ⟨o',(hs.2 b (Qbd (Qbb (Qan e) I.ok.above))).trans e1⟩
  ·by_cases J:j=i
   ·subst J
    rw [hi] at e1;cases e1;rw [List.getElem?_set_self G] at e2;cases e2;exact ⟨u,r,.inl ⟨hk,by simp⟩⟩
   ·rw [List.getElem?_set_ne (Qdo J)] at e2
    obtain ⟨u',r',q⟩:=hl j y v' e1 e2 e3;refine ⟨u',r',?_⟩;rcases q with ⟨k,e⟩ | ⟨k,c,e,z⟩
    ·refine .inl ⟨k,?_⟩
     have:y≠x:=fun e=>J (vG hN e1 (e ▸ hi));simp [this,e]
    ·exact .inr ⟨k,c,e,z.sameBut hs (cne y c e)⟩
  ·obtain ⟨w',z⟩:=I.cell y c e
   exact ⟨w',z.sameBut hs (cne y c e)⟩
  ·obtain ⟨e,n,ne,nf,d⟩:=I.pin p hp
   exact ⟨(hs.2 p.1 ne).trans e,n,ne,nf,d⟩
 ·have L:X.fn x=true:=by
   rcases hf with z | z
   ·exact z
   ·rw [z] at hk;cases hk
  obtain ⟨c,hc⟩:=I.ok.has x (.inl hk);obtain ⟨w',z⟩:=I.cell x c hc;refine wpAny_storeName_cell I.ok.kind hk hc z (fun h' Y hs=>?_);obtain ⟨oc,Z,O⟩:=id z;refine h { s with heap:=h' } ⟨I.ok,I.os,I.bare,⟨fun b o e n hb hx=>?_,fun b o e n hb hx=>?_,I.base.free,fun b o e hx=>?_,I.base.tups,I.base.frzs,I.base.tbls⟩,⟨m,hn.sameBut hs (Qdo (cne x c hc)),fun j y v' e1 e2 e3=>?_⟩,fun y c' e=>?_,I.free,I.freeC,fun p hp=>?_,C ⟨oc,Z,I.freeC x c hc⟩ hs,by simpa using I.len⟩ ⟨c,hs,.inr hc⟩
  ·exact (hs.2 b (Qbd (Qbb (Qan e) (I.ok.cab x c L hc)))).trans (I.base.keep b o e n hb hx)
  ·obtain ⟨sl,e1⟩:=I.base.slot b o e n hb hx
   exact ⟨sl,(hs.2 b (Qbd (Qbb (Qan e) (I.ok.cab x c L hc)))).trans e1⟩
  ·obtain ⟨o',e1⟩:=I.base.there b o e hx
   exact ⟨o',(hs.2 b (Qbd (Qbb (Qan e) (I.ok.cab x c L hc)))).trans e1⟩
  ·by_cases J:j=i
   ·subst J
    rw [hi] at e1;cases e1;rw [List.getElem?_set_self G] at e2;cases e2;exact ⟨u,r,.inr ⟨.inl hk,c,hc,Y⟩⟩
   ·rw [List.getElem?_set_ne (Qdo J)] at e2
    obtain ⟨u',r',q⟩:=hl j y v' e1 e2 e3;refine ⟨u',r',?_⟩;rcases q with q | ⟨k,c',e,z'⟩
    ·exact .inl q
    ·refine .inr ⟨k,c',e,z'.sameBut hs ?_⟩
     rintro rfl;exact J (vG hN e1 (I.ok.inj _ _ _ e hc ▸ hi))
  ·by_cases hcc:c'=c
   ·subst hcc;exact ⟨_,Y⟩
   ·obtain ⟨w2,z2⟩:=I.cell y c' e
    exact ⟨w2,z2.sameBut hs hcc⟩
  ·obtain ⟨e,n,ne,nf,d⟩:=I.pin p hp
   refine ⟨(hs.2 p.1 ?_).trans e,n,ne,nf,d⟩;intro q;rw [q,Z] at e;have q':oc=p.2:=Option.some.inj e;exact d w' (by rw [<-q'];exact O)
theorem WX{M:Model}{A:Ar}{E:Ab}{v:V}{Q:Unit->Shared->Prop}(I:Inv X pins σ H s)(hN:X.N.Nodup)(hi:X.N[i]?=some x)(hx:Loc X.env.scope x)(r:RelV v u)
  (h:∀s',Inv X pins (σ.set i (some v)) H s'->Q () s') (hf:X.fn x=true\/X.env.scope.names.lookup x=some .local:=by first | exact .inl rfl | exact .inr rfl | assumption):wpAny M A (storeName X.env x u) Q E s :=
 g9 I hN hi hx r (fun s' q _=>h s' q) hf
theorem Inv.call'{s':As}{ch:List Aw}(I:Inv X pins σ H s)(ho:s'.os=s.os)(u:Un (frs X.stack) ch H H' s.heap s'.heap)(C:HOk X.prog X.w H' s'.heap)(hg:AllBare s'.gens)
  (q:∀b∈ch,(b∈X.ex\/X.s₀.heap.objs.size<=b)/\b≠X.env.locals/\(∀x c,X.env.cells.lookup x=some c->c≠b)/\∀p∈X.pn++pins,p.1≠b):Inv X pins σ H' s':=by
 obtain ⟨h',g',d',t',o'⟩:=s';have e:o'=s.os:=ho;subst e;exact I.call (g':=g') (t':=t') (d':=d') u C hg q
end
abbrev XK:=Av->Option Aw->Hp->Prop
abbrev St:=List (Option V)
abbrev Az:=List (List V)
abbrev A0:=List (Key × V)
abbrev A1:=St->Hp->Prop
abbrev A2:=List V
abbrev VK:=V->Hp->Prop
abbrev TE:=St->Hp->VK->Prop
abbrev TT:=St->Hp->(Bool->Hp->Prop)->Prop
abbrev TA:=St->Hp->(A2->Hp->Prop)->Prop
structure Ends where
 nx:A1
 rt:VK
 bk:A1:=fun _ _=>False
 ct:A1:=fun _ _=>False
abbrev TS:=Ends->St->Hp->Prop
def EP(X:Cx)(pins:Ac)(σ:St)(Q:VK)(u:Av)(s':As):Prop:=∃v H',Inv X pins σ H' s'/\RelV v u/\Q v H'
def TP(X:Cx)(pins:Ac)(σ:St)(Q:Bool->Hp->Prop)(b:Bool)(s':As):Prop:=∃H',Inv X pins σ H' s'/\Q b H'
def AP(X:Cx)(pins:Ac)(σ:St)(Q:A2->Hp->Prop)(q:Ag)(s':As):Prop:=∃vs H',Inv X pins σ H' s'/\Vals vs q/\Q vs H'
def SP(X:Cx)(pins:Ac)(D:Ends)(f:Flow)(s':As):Prop :=
 match f with
 | .next=>∃q H',Inv X pins q H' s'/\D.nx q H'
 | .brk=>∃q H',Inv X pins q H' s'/\D.bk q H'
 | .cont=>∃q H',Inv X pins q H' s'/\D.ct q H'
 | .ret u=>∃v q H',Inv X pins q H' s'/\RelV v u/\D.rt v H'
def PE(X:Cx)(e:Ax)(t:TE):Prop :=
 ∀(pins:Ac) (s:As) (σ:St) (H:Hp) (Q:VK),Inv X pins σ H s->t σ H Q->wpAny (model X.prog X.w) X.A (eval e X.env) (EP X pins σ Q) X.xe s
def PT(X:Cx)(e:Ax)(t:TT):Prop :=
 ∀(pins:Ac) (s:As) (σ:St) (H:Hp) (Q:Bool->Hp->Prop),Inv X pins σ H s->t σ H Q->wpAny (model X.prog X.w) X.A (isTrue e X.env (eval e X.env)) (TP X pins σ Q) X.xe s
def PW(X:Cx)(e:Ax)(t:TT):Prop :=
 ∀(q:Sem Av) (pins:Ac) (s:As) (σ:St) (H:Hp) (Q:Bool->Hp->Prop),Inv X pins σ H s->t σ H Q->wpAny (model X.prog X.w) X.A (isTrue e X.env q) (TP X pins σ Q) X.xe s
theorem PW.pt{X:Cx}{t:TT}(h:PW X e t):PT X e t:=h _
def PA(X:Cx)(es:An)(t:TA):Prop :=
 ∀(pos:Pos) (pins:Ac) (s:As) (σ:St) (H:Hp) (Q:A2->Hp->Prop),Inv X pins σ H s->t σ H Q->wpAny (model X.prog X.w) X.A (spliced (backTo pos (starEach es X.env))) (AP X pins σ Q) X.xe s
def PS(X:Cx)(st:Ay)(t:TS):Prop :=
 ∀(pins:Ac) (s:As) (σ:St) (H:Hp) (D:Ends),Inv X pins σ H s->t D σ H->wpAny (model X.prog X.w) X.A (exec st X.env) (SP X pins D) X.xe s
def PSs(X:Cx)(st:List Ay)(t:TS):Prop :=
 ∀(pins:Ac) (s:As) (σ:St) (H:Hp) (D:Ends),Inv X pins σ H s->t D σ H->wpAny (model X.prog X.w) X.A (execs st X.env) (SP X pins D) X.xe s
theorem thn{t:Sem g}{Q q:g->Shared->Prop}{M:Model}{A:Ar}{E:Ab}(h:wpAny M A t Q E s)(C:∀a s,Q a s->q a s):wpAny M A t q E s:=Qdj h C fun _ _ x=>x
section
variable {X:Cx}
def jf(i:Nat):TE:=fun σ H Q=>∃v,σ[i]?=some (some v)/\Q v H
def tC(v:V):TE:=fun _ H Q=>Q v H
theorem Zed    (hN:X.N[i]?=some x) (hv:Vis X.env.scope x) (hd:(x == ("__debug__" : Str))=false:=by decide) (hcd:(x == ("__classdict__" : Str))=false:=by decide):PE X (.Name x p) (jf i):=by
 intro pins s σ H Q I h;obtain ⟨v,e,h⟩:=h;obtain ⟨m,hn,hl⟩:=I.loc;obtain ⟨u,r,l⟩:=hl i x v hN e hv;have fin:EP X pins σ Q u s:=⟨v,H,I,r,h⟩;rcases l with ⟨hk,hm⟩ | ⟨hk,c,hc,q⟩
 ·exact wpAny_Name (wpAny_loadName_local I.ok.kind hk hn hm fin) hd
 ·rcases hk with hk | hk
  ·exact wpAny_Name (wpAny_loadName_cell I.ok.kind hk hc q fin) hd
  ·exact wpAny_Name (wpAny_loadName_free I.ok.kind hk hc q fin hcd) hd
theorem pe_int{i j pos:_}:PE X (.Constant (.int i) j pos) (tC (.int i)):=fun _ _ _ H _ I h=>wpAny_Constant_int ⟨.int i,H,I.tok _,⟨_,rfl⟩,h⟩
theorem pe_bl{b j pos:_}:PE X (.Constant (.bool b) j pos) (tC (.bl b)):=fun _ _ _ H _ I h=>Constant_bool ⟨.bl b,H,I,rfl,h⟩
theorem pe_str{x j pos:_}:PE X (.Constant (.str x) j pos) (tC (.str x)):=fun _ _ _ H _ I h=>Calls.Constant_str ⟨.str x,H,I.tok _,⟨_,rfl⟩,h⟩
def Gl(X:Cx)(x:Str):Prop:=X.env.kindOf x=some .globalImplicit
theorem xZ{E:Ab}{σ:St}{H:Hp}(I:Inv X m σ H s)(hg:Gl X x)(hm:X.mg x=some u)(h:Q u s)
  (hd:(x == ("__debug__" : Str))=false:=by decide):wpAny (model X.prog X.w) X.A (eval (.Name x p) X.env) Q E s :=
 Calls.Name_function_global I.ok.kind hg (Calls.loadGlobal_global (by rw [I.ok.glob];exact I.mod.glob.keeps I.bk) hm h) hd
theorem WE{E:Ab}{σ:St}{H:Hp}(I:Inv X m σ H s)(hg:Gl X x)(hm:X.mg x=none)(hv:bootBuiltins x=some u)(h:Q u s)
  (hn:x ≠ "__name__" := by decide) (hd:(x == ("__debug__" : Str))=false:=by decide):wpAny (model X.prog X.w) X.A (eval (.Name x p) X.env) Q E s:=by
 obtain ⟨q,h1,h2⟩:=I.mod.blt;exact Calls.Name_function_global I.ok.kind hg (Calls.loadGlobal_builtin (by rw [I.ok.glob];exact I.mod.glob.keeps I.bk) hm (by rw [I.ok.blt];exact h1.keeps I.bk) ((h2 x hn).trans hv) h) hd
theorem Zfg  {v:V}   (hg:Gl X x) (hm:X.mg x=some u) (r:RelV v u) (hd:(x == ("__debug__" : Str))=false:=by decide):PE X (.Name x p) (tC v) :=
 fun _ _ _ H _ I h=>xZ I hg hm ⟨v,H,I,r,h⟩ hd
theorem Zfh  {v:V}   (hg:Gl X x) (hm:X.mg x=none) (hv:bootBuiltins x=some u) (r:RelV v u) (hn:x ≠ "__name__" := by decide) (hd:(x == ("__debug__" : Str))=false:=by decide):PE X (.Name x p) (tC v) :=
 fun _ _ _ H _ I h=>WE I hg hm hv ⟨v,H,I,r,h⟩ hn hd
variable {a b:Ax}{ta tb:TE}{pos:Pos}
def tB(t:TE):TT:=fun σ H Q=>t σ H fun x H1=>∃c,x=.bl c/\Q c H1
theorem pt_val{t:TE}(h:PE X e t)(he:∀C,isTrue e X.env C=(do let v <-C;standAt e.pos;holding [v] (truthy v)):=by intro _;rfl):PT X e (tB t):=by
 intro pins s σ H Q I hw;refine isTrue_plain (thn (h pins s σ H _ I hw) fun v L ⟨x,H1,D,J,G⟩=>?_) (he _);obtain ⟨d,rfl,q⟩:=G;cases J;exact Qdy ⟨H1,D,q⟩
variable {tA tB':TT}{rest:An}
def tAnd(t u:TT):TT:=fun σ H Q=>t σ H fun c H1=>if c=true then u σ H1 Q else Q false H1
def tOr(t u:TT):TT:=fun σ H Q=>t σ H fun c H1=>if c=true then Q true H1 else u σ H1 Q
def tNot(t:TT):TT:=fun σ H Q=>t σ H fun c H1=>Q (!c) H1
theorem Zfi(ha:PT X a tA):PW X (.BoolOp .And [a] pos) tA:=by
 intro C pins s σ H Q I h;refine isTrue_and (thn (ha pins s σ H Q I h) fun c q e=>?_);cases c with
 | true=>exact isTrue_and_nil e
 | false=>exact e
theorem pw_or1(ha:PT X a tA):PW X (.BoolOp .Or [a] pos) tA:=by
 intro C pins s σ H Q I h;refine isTrue_or (thn (ha pins s σ H Q I h) fun c q e=>?_);cases c with
 | false=>exact isTrue_or_nil e
 | true=>exact e
theorem pw_and(ha:PT X a tA)(hb:PW X (.BoolOp .And (b::rest) pos) tB'):PW X (.BoolOp .And (a::b::rest) pos) (tAnd tA tB'):=by
 intro G pins s σ H Q I h;refine isTrue_and (thn (ha pins s σ H _ I h) fun c D ⟨H1,q,C⟩=>?_);cases c with
 | true=>exact hb G pins D σ H1 Q q C
 | false=>exact ⟨H1,q,C⟩
theorem pw_or(ha:PT X a tA)(hb:PW X (.BoolOp .Or (b::rest) pos) tB'):PW X (.BoolOp .Or (a::b::rest) pos) (tOr tA tB'):=by
 intro G pins s σ H Q I h;refine isTrue_or (thn (ha pins s σ H _ I h) fun c D ⟨H1,q,C⟩=>?_);cases c with
 | true=>exact ⟨H1,q,C⟩
 | false=>exact hb G pins D σ H1 Q q C
theorem pt_not(ha:PT X a tA):PT X (.UnaryOp .Not a pos) (tNot tA):=by
 intro pins s σ H Q I h;exact isTrue_not (thn (ha pins s σ H (fun c H1=>Q (!c) H1) I h) fun c D ⟨H1,C,q⟩=>⟨H1,C,q⟩)
def Zik(ta tb:TE):TE:=fun σ H Q=>ta σ H fun x H1=>∃c,x=.bl c/\if c=true then tb σ H1 Q else Q (.bl false) H1
def tOrV(ta tb:TE):TE:=fun σ H Q=>ta σ H fun x H1=>∃c,x=.bl c/\if c=true then Q (.bl true) H1 else tb σ H1 Q
def Zil(ta:TE):TE:=fun σ H Q=>ta σ H fun x H1=>∃c,x=.bl c/\Q (.bl (!c)) H1
theorem pe_one{q:_}{t:TE}(h:PE X a t):PE X (.BoolOp q [a] pos) t:=fun pins s σ H Q I hw=>BoolOp_one (h pins s σ H Q I hw)
theorem pe_and(ha:PE X a ta)(hb:PE X (.BoolOp .And (b::rest) pos) tb):PE X (.BoolOp .And (a::b::rest) pos) (Zik ta tb):=by
 intro pins s σ H Q I h;refine BoolOp_and (thn (ha pins s σ H _ I h) fun v D ⟨x,H1,C,G,q⟩=>?_);obtain ⟨c,rfl,q⟩:=q;cases G;refine Qdy ?_;cases c with
 | true=>exact hb pins D σ H1 Q C q
 | false=>exact ⟨.bl false,H1,C,rfl,q⟩
theorem pe_or(ha:PE X a ta)(hb:PE X (.BoolOp .Or (b::rest) pos) tb):PE X (.BoolOp .Or (a::b::rest) pos) (tOrV ta tb):=by
 intro pins s σ H Q I h;refine BoolOp_or (thn (ha pins s σ H _ I h) fun v D ⟨x,H1,C,G,q⟩=>?_);obtain ⟨c,rfl,q⟩:=q;cases G;refine Qdy ?_;cases c with
 | false=>exact hb pins D σ H1 Q C q
 | true=>exact ⟨.bl true,H1,C,rfl,q⟩
theorem pe_not(ha:PE X a ta):PE X (.UnaryOp .Not a pos) (Zil ta):=by
 intro pins s σ H Q I h;refine UnaryOp_ (thn (ha pins s σ H _ I h) fun v G ⟨x,H1,C,D,q⟩=>?_);obtain ⟨c,rfl,q⟩:=q;cases D;exact not_of (Qdy ⟨.bl (!c),H1,C,rfl,q⟩)
end
def SqL(K:Af)(H:Hp)(a:Aw)(xs:A2):Prop :=
 Rd H a (.lst xs) \/
  ∃(o:Obj) (q:Ah) (n:Nat),K.lookup a=some o/\o.cls=.type "list" /\ o.dict=none/\o.data=.seq q n/\q.size<=sizeLine/\Vals xs q.toList
def SqT(K:Af)(H:Hp)(a:Aw)(xs:A2):Prop :=
 Rd H a (.tup xs) \/
  ∃(o:Obj) (q:Ah) (n:Nat),K.lookup a=some o/\o.cls=.type "tuple" /\ o.data=.seq q n/\q.size<=sizeLine/\Vals xs q.toList
def absV:Av->Option V
 | .none=>some .non
 | .bool b=>some (.bl b)
 | .int i _=>some (.int i)
 | .str x _=>some (.str x)
 | .bytes b _=>some (.byt b)
 | .float b _=>some (.flt b)
 | .ref a=>some (.ref a)
 | .type n=>some (.ty n)
 | _=>none
theorem RelV.abs{x:V}(r:RelV x u):absV u=some x:=by
 cases x with
 | non=>cases r;rfl
 | bl _=>cases r;rfl
 | int _=>obtain ⟨t,rfl⟩:=r;rfl
 | str _=>obtain ⟨t,rfl⟩:=r;rfl
 | byt _=>obtain ⟨t,rfl⟩:=r;rfl
 | flt _=>obtain ⟨t,rfl⟩:=r;rfl
 | ref _=>cases r;rfl
 | ty _=>cases r;rfl
theorem RelV.inj{x y:V}{u:Av}(r:RelV x u)(q:RelV y u):x=y:=Option.some.inj (r.abs.symm.trans q.abs)
theorem Vals.inj:∀{xs ys:A2} {q:Ag},Vals xs q->Vals ys q->xs=ys
 | _,_,_,.nil,.nil=>rfl
 | _,_,_,.cons r t,.cons C t'=>by rw [r.inj C,Vals.inj t t']
section
variable {X:Cx}{pins:Ac}{σ:St}{H:Hp}{s:As}{a:Aw}{xs ys:A2}
theorem SqL.of(h:H a=some (.lst xs)):SqL K H a xs:=.inl (.inl h)
theorem SqT.of(h:H a=some (.tup xs)):SqT K H a xs:=.inl (.inl h)
theorem Inv.list(I:Inv X pins σ H s)(h:SqL X.K H a xs):∃q:Ag,Vals xs q/\PlainL s.heap a q.toArray/\xs.length<=sizeLine:=by
 rcases h with h | ⟨o,q,n,hk,hc,hd,hs,C,r⟩
 ·obtain ⟨z,q,n,r,e⟩:=h.ok I.hok
  exact ⟨q,r,⟨_,n,e,rfl,rfl,rfl⟩,z⟩
 ·refine ⟨q.toList,r,⟨o,n,I.kIn a o hk,hc,hd,by simpa using hs⟩,?_⟩
  have e:=r.length;simp only [Qbn] at e;lia
theorem Inv.tuple(I:Inv X pins σ H s)(h:SqT X.K H a xs):∃q:Ag,Vals xs q/\IsTup s.heap a q.toArray/\xs.length<=sizeLine:=by
 rcases h with h | ⟨o,q,n,hk,hc,hs,C,r⟩
 ·obtain ⟨z,q,r,p⟩:=h.ok I.hok
  exact ⟨q,r,p.tup,z⟩
 ·refine ⟨q.toList,r,⟨o,I.kIn a o hk,hc,n,by simpa using hs⟩,?_⟩
  have e:=r.length;simp only [Qbn] at e;lia
theorem Inv.list_inj(I:Inv X pins σ H s)(h:SqL X.K H a xs)(h':SqL X.K H a ys):xs=ys:=by
 obtain ⟨q,r,⟨o,n,e,_,_,d⟩,_⟩:=I.list h;obtain ⟨its',G,⟨o',J,C,_,_,d'⟩,_⟩:=I.list h';rw [e] at C;cases C;rw [d] at d';injection d' with D _;have:q=its':=by simpa using congrArg Array.toList D
 subst this;exact r.inj G
theorem Inv.tuple_inj(I:Inv X pins σ H s)(h:SqT X.K H a xs)(h':SqT X.K H a ys):xs=ys:=by
 obtain ⟨q,r,⟨o,e,_,n,d⟩,_⟩:=I.tuple h;obtain ⟨its',G,⟨o',C,_,J,d'⟩,_⟩:=I.tuple h';rw [e] at C;cases C;rw [d] at d';injection d' with D _;have:q=its':=by simpa using congrArg Array.toList D
 subst this;exact r.inj G
end
abbrev Cx.wish(X:Cx)(E:Ab):Cx:={ X with xe:=E }
abbrev Cx.nox(X:Cx):Cx:=X.wish fun _ _=>False
theorem Cx.Ok.wish{X:Cx}(ok:X.Ok)(E:Ab):(X.wish E).Ok :=
 ⟨ok.mod,ok.kind,ok.glob,ok.blt,ok.above,ok.inj,ok.has,ok.cab,ok.hd,ok.frames,ok.stk,ok.exf,ok.bs,ok.bsz,ok.noex,ok.exfs,ok.funs,ok.frf⟩
theorem Cx.Ok.unwish{X:Cx}{E:Ab}(ok:(X.wish E).Ok):X.Ok :=
 ⟨ok.mod,ok.kind,ok.glob,ok.blt,ok.above,ok.inj,ok.has,ok.cab,ok.hd,ok.frames,ok.stk,ok.exf,ok.bs,ok.bsz,ok.noex,ok.exfs,ok.funs,ok.frf⟩
section
variable {X:Cx}{pins:Ac}{σ:St}{H:Hp}{s:As}{E:Ab}
theorem Inv.wish(I:Inv X pins σ H s)(E:Ab):Inv (X.wish E) pins σ H s:=⟨I.ok.wish E,I.os,I.bare,I.base,I.loc,I.cell,I.free,I.freeC,I.pin,I.hok,I.len⟩
theorem Inv.unwish(I:Inv (X.wish E) pins σ H s):Inv X pins σ H s:=⟨I.ok.unwish,I.os,I.bare,I.base,I.loc,I.cell,I.free,I.freeC,I.pin,I.hok,I.len⟩
theorem SP.unwish{D:Ends}{f:Flow}{s':As}(h:SP (X.wish E) pins D f s'):SP X pins D f s':=by
 cases f with
 | next=>obtain ⟨C,H',I,q⟩:=h;exact ⟨C,H',I.unwish,q⟩
 | brk=>obtain ⟨C,H',I,q⟩:=h;exact ⟨C,H',I.unwish,q⟩
 | cont=>obtain ⟨C,H',I,q⟩:=h;exact ⟨C,H',I.unwish,q⟩
 | ret u=>obtain ⟨v,C,H',I,r,q⟩:=h;exact ⟨v,C,H',I.unwish,r,q⟩
theorem PSs.nox{st:List Ay}{t:TS}(h:PSs X.nox st t):PSs X st t:=fun pins s σ H D I hw =>
 Qdj (h pins s σ H D (I.wish _) hw) (fun _ _ q=>q.unwish) fun _ _ z=>False.elim z
end
section
variable {X:Cx}{st:Ay}{rest:List Ay}{t u:TS}{e:Ax}{te:TE}{pos:Pos}
def Zim:TS:=fun D σ H=>D.nx σ H
def Yi(t u:TS):TS:=fun D σ H=>t { D with nx:=u D } σ H
theorem Zfj:PSs X [] Zim:=fun _ _ σ H _ I h=>Qgh ⟨σ,H,I,h⟩
theorem Zb8(h1:PS X st t)(h2:PSs X rest u):PSs X (st::rest) (Yi t u):=by
 intro pins s σ H D I h;refine wpAny_execs_cons (thn (h1 pins s σ H { D with nx:=u D } I h) fun f J q=>?_);cases f with
 | next =>
  obtain ⟨C,H',G,q⟩:=q;exact h2 pins J C H' D G q
 | ret v=>exact q
 | brk=>exact q
 | cont=>exact q
theorem Zfk(h1:PS X st t):PSs X [st] t:=by
 intro pins s σ H D I h;refine wpAny_execs_cons (thn (h1 pins s σ H D I h) fun f C q=>?_);cases f with
 | next=>exact Qgh q
 | ret v=>exact q
 | brk=>exact q
 | cont=>exact q
theorem Inv.quiet{σ:St}{H:Hp}(I:Inv X m σ H s):interactive X.env=false:=by simp [interactive,I.ok.kind]
def Zin(te:TE):TS:=fun D σ H=>te σ H fun _ H1=>D.nx σ H1
theorem Zfl(he:PE X e te)(hs:swapsWith e none pos.line X.env=pure false:=by rfl):PS X (.Expr e pos) (Zin te):=by
 intro pins s σ H D I h;exact wpAny_Expr_any (thn (he pins s σ H _ I h) fun v G ⟨x,H1,q,J,C⟩=>⟨σ,H1,q,C⟩) I.quiet hs
def tRet(te:TE):TS:=fun D σ H=>te σ H D.rt
theorem ps_ret(he:PE X e te):PS X (.Return (some e) pos) (tRet te):=by
 intro pins s σ H D I h;exact wpAny_Return_some (thn (he pins s σ H _ I h) fun v J ⟨x,H1,q,C,G⟩=>⟨x,σ,H1,q,C,G⟩)
def tIfS(c:TT)(t u:TS):TS:=fun D σ H=>c σ H fun b H1=>if b=true then t D σ H1 else u D σ H1
theorem ps_if{c:Ax}{a b:List Ay}{tc:TT}(hc:PT X c tc)(ha:PSs X a t)(hb:PSs X b u):PS X (.If c a b pos) (tIfS tc t u):=by
 intro pins s σ H D I h;refine wpAny_If (thn (hc pins s σ H _ I h) fun d q ⟨H1,C,G⟩=>?_);cases d with
 | true=>exact ha pins q σ H1 D C G
 | false=>exact hb pins q σ H1 D C G
end
abbrev TG:=V->St->Hp->(A1)->Prop
abbrev TGs:=A2->St->Hp->(A1)->Prop
def PG(X:Cx)(q:Ax)(t:TG):Prop :=
 ∀(pins:Ac) (s:As) (σ:St) (H:Hp) (v:V) (u:Av) (Q:A1),Inv X pins σ H s->RelV v u->t v σ H Q ->
  wpAny (model X.prog X.w) X.A (assign q X.env u) (fun _ s'=>∃C H',Inv X pins C H' s'/\Q C H') X.xe s
def PGs(X:Cx)(ts:An)(t:TGs):Prop :=
 ∀(pins:Ac) (s:As) (σ:St) (H:Hp) (vs:A2) (C:Ag) (Q:A1),Inv X pins σ H s->Vals vs C->t vs σ H Q ->
  wpAny (model X.prog X.w) X.A (assignInOrder ((assignEach ts X.env).map (·.2)) C) (fun _ s'=>∃q H',Inv X pins q H' s'/\Q q H') X.xe s
abbrev Zjt:=V->V->V->Hp->(Hp->Prop)->Prop
def PSet(X:Cx)(t:Zjt):Prop :=
 ∀(pins:Ac) (s:As) (σ:St) (H:Hp) (o i v:V) (q C u:Av) (Q:Hp->Prop),Inv X pins σ H s->RelV o q->RelV i C->RelV v u->t o i v H Q ->
  wpAny (model X.prog X.w) X.A (setItem q C u) (fun _ s'=>∃H',Inv X pins σ H' s'/\Q H') X.xe s
section
variable {X:Cx}{pos:Pos}
def WN(i:Nat):TG:=fun v σ H Q=>Q (σ.set i (some v)) H
theorem za(hN:X.N.Nodup)(hi:X.N[i]?=some x)(hx:Loc X.env.scope x)(hf:X.fn x=true\/X.env.scope.names.lookup x=some .local:=by first | exact .inl rfl | exact .inr rfl | assumption):PG X (.Name x pos) (WN i):=by
 intro pins s σ H v u Q I r h;exact wpAny_assign_Name (WX I hN hi hx r (fun s' q=>⟨_,H,q,h⟩) hf)
def Zic:TGs:=fun vs σ H Q=>vs=[]/\Q σ H
def GB(t:TG)(u:TGs):TGs:=fun vs σ H Q=>∃v r,vs=v::r/\t v σ H fun q H'=>u r q H' Q
theorem gB:PGs X [] Zic:=by
 intro pins s σ H vs q Q I r h;obtain ⟨e,h⟩:=h;subst e;cases r;exact assignInOrder_nil ⟨σ,H,I,h⟩
theorem Gy{t:TG}{u:TGs}(h1:PG X e t)(h2:PGs X B u)
  (hs:(assignEach (e::B) X.env).map (·.2)=assign e X.env::(assignEach B X.env).map (·.2):=by rfl):PGs X (e::B) (GB t u):=by
 intro pins s σ H vs M Q I r h;obtain ⟨v,L,e1,h⟩:=h;subst e1;cases r with
 | cons r J =>
  rw [hs];refine assignInOrder_cons (thn (h1 pins s σ H _ _ _ I r h) fun _ C ⟨q,H1,D,G⟩=>?_);exact h2 pins C q H1 _ _ Q D J G
def Zid(K:Af)(n:Nat)(t:TGs):TG:=fun v σ H Q=>∃a xs,v=.ref a/\SqT K H a xs/\xs.length=n/\t xs σ H Q
theorem Zee{k:Nat}{t:TGs}(hc:X.calm=true)(h:PGs X B t)
  (hn:(assignEach B X.env).length=n:=by rfl) (q:(assignEach B X.env).findIdx? (·.1)=none:=by rfl):PG X (.Tuple B k pos) (Zid X.K n t):=by
 intro pins s σ H v u Q I r hw;obtain ⟨a,xs,e1,D,hl,hw⟩:=hw;subst e1;cases r;obtain ⟨J,C,L,M⟩:=I.tuple D;refine assign_Tuple_tuple (I.ok.hd hc) L (by simp [hn,<-hl,C.length]) q fun h' hx=>?_;have G:Inv X pins σ H { s with heap:=h' }:=I.kept (t':=s.toks) fun b o e=>hx b o (Qbd (Qan e)) e;exact h pins _ σ H xs _ Q G (by simpa using C) hw
def gSub(to C:TE)(t:Zjt):TG:=fun v σ H Q=>to σ H fun o H1=>C σ H1 fun i H2=>t o i v H2 fun q=>Q σ q
theorem pg_sub{i:Ax}{to D:TE}{t:Zjt}(ho:PE X o to)(hi:PE X i D)(hs:PSet X t)
  (ha:∀v,assign (.Subscript o i pos) X.env v=(do
   let q <-holding [v] (eval o X.env);let C <-holding [v,q] (eval i X.env)
   standAt pos
   holding [v,q,C] (setItem q C v)
   release [v,q,C] []):=by intro _;rfl):PG X (.Subscript o i pos) (gSub to D t):=by
 intro pins s σ H v u Q I r h;rw [ha];refine Qaa (Qcd (thn (ho pins s σ H _ I h) fun q G ⟨x,H1,M,J,S⟩=>?_));refine Qaa (Qcd (thn (hi pins G σ H1 _ M S) fun C N ⟨y,H2,I2,Y,Z⟩=>?_));refine Qaa (wpAny_standAt (Qaa (Qcd (thn (hs pins N σ H2 x y v q C u _ I2 J Y r Z) fun _ s3 ⟨L,I3,O⟩=>?_))));exact wpAny_release ⟨σ,L,I3,O⟩
def Zio(te:TE)(g:TG):TS:=fun D σ H=>te σ H fun x H1=>g x σ H1 D.nx
theorem ps_asg{te:TE}{g:TG}(he:PE X e te)(hg:PG X o g)(hs:swapsWithSole [o] e pos.line X.env=pure false:=by rfl)(hw:swappedStores [o] e X.env=pure none:=by rfl)
  (h1:(assignEach [o] X.env).map (·.2)=[assign o X.env]:=by rfl):PS X (.Assign [o] e pos) (Zio te g):=by
 intro pins s σ H D I h;refine wpAny_Assign_stores (thn (he pins s σ H _ I h) fun v C ⟨x,H1,G,L,J⟩=>?_) hs hw;rw [h1];exact thn (hg pins C σ H1 x v _ G L J) fun _ M q=>q
theorem ps_set{te:TE}(hN:X.N.Nodup)(hi:X.N[i]?=some x)(hx:Loc X.env.scope x)(he:PE X e te)(hs:swapsWith e (some (.Name x p)) pos.line X.env=pure false:=by rfl)(hf:X.fn x=true\/X.env.scope.names.lookup x=some .local:=by first | exact .inl rfl | exact .inr rfl | assumption) :
  PS X (.Assign [.Name x p] e pos) (Zio te (WN i)):=by
 intro pins s σ H D I h;refine wpAny_Assign_Name (thn (he pins s σ H _ I h) fun v L ⟨y,H1,q,G,C⟩=>?_) hs;exact WX q hN hi hx G (fun M J=>⟨_,H1,J,C⟩) hf
def gC(c:TT)(tb:TS):TS:=fun D σ H=>∃W:Nat->St->Hp->Prop,(∃m,W m σ H)/\∀m σ H,W m σ H ->
 c σ H fun b H1=>if b=true then ∃N:A1,(∀q H',N q H'->∃C,C < m/\W C q H')/\tb { D with nx:=N,ct:=N,bk:=D.nx } σ H1 else D.nx σ H1
theorem Zb9{c:Ax}{body:List Ay}{tc:TT}{tb:TS}(hp:PassesOwn (model X.prog X.w) X.A X.env X.xe)(hc:PT X c tc)(hb:PSs X body tb):PS X (.While c body [] pos) (gC tc tb):=by
 intro pins s σ H D I h;obtain ⟨W,⟨m0,w0⟩,J⟩:=h;refine wpAny_While (codeAny_whileLoop (fun n s'=>∃L H',Inv X pins L H' s'/\W n L H') ?_ m0 ⟨σ,H,I,w0⟩);rintro n s1 ⟨C,H1,I1,w1⟩;refine Qec hp (thn (hc pins s1 C H1 _ I1 (J n C H1 w1)) fun b s2 ⟨H2,I2,O⟩=>?_);cases b with
 | true =>
  obtain ⟨N,hN,O⟩:=O;refine Qec hp (thn (hb pins s2 C H2 _ I2 O) fun f s3 M=>?_);cases f with
  | next =>
   obtain ⟨q,G,I3,Y⟩:=M;obtain ⟨Z,hm,S⟩:=hN q G Y;exact ⟨Z,hm,q,G,I3,S⟩
  | cont =>
   obtain ⟨q,G,I3,Y⟩:=M;obtain ⟨Z,hm,S⟩:=hN q G Y;exact ⟨Z,hm,q,G,I3,S⟩
  | brk=>exact M
  | ret v=>exact M
 | false =>
  exact Qgh ⟨C,H2,I2,O⟩
end
structure It where
 go:Nat->Hp->Prop
 yld:Nat->Hp->V->Hp->Prop
 stop:Nat->Hp->Prop
def GC(X:Cx)(pins:Ac)(H:Hp)(b:Aw):Prop :=
 H b=none/\b≠X.env.locals/\b∉X.fs/\(b∈X.ex\/X.s₀.heap.objs.size<=b)/\(∀x c,X.env.cells.lookup x=some c->c≠b)/\∀p∈X.pn++pins,p.1≠b
theorem Inv.fpOk{X:Cx}{σ:St}{H H':Hp}{b:Aw}(I:Inv X m σ H s)(hb:s.heap.objs.size<=b)(hn:H' b=none):GC X m H' b:=by
 refine ⟨hn,Qdp (Qbb I.lt hb),I.nofs hb,.inr (Qaz I.sz hb),fun x c e z=>?_,fun p hp z=>?_⟩
 ·obtain ⟨v,q⟩:=I.cell x c e
  exact absurd (Qbb q.lt (by rw [z];exact hb)) (Qbw _)
 ·exact absurd (Qbb (Qan (I.pin p hp).1) (by rw [z];exact hb)) (Qbw _)
structure Turn(P:Aq)(w:Au)(K:Af)(tg:Ax)(J:It)(fp:List Aw)(it:Aw)(tn:Nat->Heap->Prop):Prop where
 mem:it∈fp
 obj:∀i h,tn i h->∀b∈fp,∃o,h.get? b=some o/\∀v,o.data≠.cell v
 keep:∀i h h',tn i h->(∀b∈fp,∀o,h.get? b=some o->h'.get? b=some o)->tn i h'
 item:∀(X:Cx),X.prog=P->X.w=w->X.K=K->X.calm=true->∀(i:Nat) (pins:Ac) (s:As) (σ:St) (H:Hp) (E:Ab),Inv X pins σ H s->(∀b∈fp,GC X pins H b)->tn i s.heap->J.go i H ->
  wpAny (model P w) X.A (pyNext (.ref it)) (fun r s1=>∃u,r=some u /\
   wpAny (model P w) X.A (letOwnedTupleGo tg (.ref it) u) (fun _ s2=>∃x H',Inv X pins σ H' s2/\RelV x u/\J.yld i H x H'/\tn (i + 1) s2.heap/\∀b∈fp,H' b=none) E s1) E s
 done:∀(X:Cx),X.prog=P->X.w=w->X.K=K->X.calm=true->∀(i:Nat) (pins:Ac) (s:As) (σ:St) (H:Hp) (E:Ab),Inv X pins σ H s->(∀b∈fp,GC X pins H b)->tn i s.heap->J.stop i H ->
  wpAny (model P w) X.A (pyNext (.ref it)) (fun r s1=>r=none/\Inv X pins σ H s1) E s
 self:∀(A:Ar) (i:Nat) (s:As) (Q:Ab) (E:Ab),tn i s.heap->Q (.ref it) s->wpAny (model P w) A (pyIter (.ref it)) Q E s
abbrev TI:=St->Hp->(It->Hp->Prop)->Prop
def PIE(X:Cx)(pins:Ac)(σ:St)(tg:Ax)(R:It->Hp->Prop)(q:Av)(D:As):Prop :=
 ∃(it:Aw) (fp:List Aw) (C:Nat->Heap->Prop) (J:It) (H':Hp),q=.ref it/\Inv X pins σ H' D/\Turn X.prog X.w X.K tg J fp it C/\C 0 D.heap/\(∀b∈fp,GC X pins H' b)/\R J H'
def PI(X:Cx)(tg iter:Ax)(wi:TI):Prop :=
 ∀(pins:Ac) (s:As) (σ:St) (H:Hp) (R:It->Hp->Prop),Inv X pins σ H s->wi σ H R ->
  wpAny (model X.prog X.w) X.A (eval iter X.env) (fun v q=>wpAny (model X.prog X.w) X.A (pyIter v) (PIE X pins σ tg R) X.xe q) X.xe s
theorem kX{M:Model}{A:Ar}{E:Ab}{it:Aw}{o:Obj}{n:String}{vs:Ah}{Q:Unit->Shared->Prop}(ho:s.heap.get? it=some o)(hc:o.cls=.type n)(hd:o.data=.fields vs)
    (hn:["enumerate","zip","dict_itemiterator","dict_reverseitemiterator","odict_iterator","itertools.zip_longest","itertools.pairwise"].contains n=false) (q:Q () s):wpAny M A (letOwnedTupleGo e (.ref it) u) Q E s:=by
  cases e <;> first
    | exact Qae q
    | (cases u <;> first
        | exact Qae q
        | (refine Qaa (wpAny_load ho ?_)
           rw [hc,hd];show wpAny M A (if (["enumerate","zip","dict_itemiterator","dict_reverseitemiterator","odict_iterator","itertools.zip_longest","itertools.pairwise"].contains n && vs[0]? == some (rawInt _))=true then _ else _) Q E s;rw [Qaw (by grind)];exact Qae q))
def Itl(K:Af)(a:Aw):It :=
 ⟨fun i H=>∃xs x,SqL K H a xs/\xs[i]?=some x,fun i H x H'=>H'=H/\∀xs,SqL K H a xs->xs[i]?=some x,fun i H=>∃xs,SqL K H a xs/\xs.length<=i⟩
def Itt(K:Af)(a:Aw):It :=
 ⟨fun i H=>∃xs x,SqT K H a xs/\xs[i]?=some x,fun i H x H'=>H'=H/\∀xs,SqT K H a xs->xs[i]?=some x,fun i H=>∃xs,SqT K H a xs/\xs.length<=i⟩
def Itr(lo:Int)(n:Nat):It:=⟨fun i _=>i < n,fun i H x H'=>H'=H/\x=.int (lo + i),fun i _=>n<=i⟩
theorem gD{tg:Ax}(a it:Aw):Turn P w K tg (Itl K a) [it] it (fun i h=>h.IsListIter it a i) where
 mem:=by simp
 obj:=fun i h st b hb=>by
  have e:b=it:=by simpa using hb
  subst e;obtain ⟨o,e,c,d⟩:=st;exact ⟨o,e,fun v z=>by rw [d] at z;cases z⟩
 keep:=fun i h h' st k=>st.at fun o e=>k it (by simp) o e
 item:=by
  intro X S hw D hc i pins s σ H E I hf st hg;subst S hw D;obtain ⟨xs,x,C,hx⟩:=hg;obtain ⟨J,M,p,hz⟩:=I.list C;obtain ⟨u,hu,ru⟩:=M.get hx;obtain ⟨f0,L,Y,N,O,G⟩:=hf it (by simp);refine wpAny_pyNext_list_item st p.isList (x:=u) (by simpa using hu) fun h' q sb=>?_;have I1:Inv X pins σ H { s with heap:=h' }:=I.turned (t':=s.toks) (fun b o hb e=>(sb.2 b hb).trans e) f0 L N O G;obtain ⟨o,e,c,d⟩:=id q;exact ⟨u,rfl,kX (s:={ s with heap:=h' }) e c d (by decide) ⟨x,H,I1,ru,⟨rfl,fun ys Z=>by rw [I.list_inj Z C];exact hx⟩,q,fun b hb=>(hf b hb).1⟩⟩
 done:=by
  intro X S hw D hc i pins s σ H E I hf st hg;subst S hw D;obtain ⟨xs,C,hx⟩:=hg;obtain ⟨J,M,p,hz⟩:=I.list C;obtain ⟨f0,L,Y,N,O,G⟩:=hf it (by simp);have hl:=M.length;exact wpAny_pyNext_list_end (I.ok.hd hc) st p.isList (by simp;lia) fun h' eb=>⟨rfl,I.turned (t':=s.toks) (fun b o hb e=>eb b o hb e) f0 L N O G⟩
 self:=fun _ _ _ _ _ st h=>wpAny_pyIter_listiter st h
theorem kY{tg:Ax}(a it:Aw):Turn P w K tg (Itt K a) [it] it (fun i h=>h.IsTupleIter it a i) where
 mem:=by simp
 obj:=fun i h st b hb=>by
  have e:b=it:=by simpa using hb
  subst e;obtain ⟨o,e,c,d⟩:=st;exact ⟨o,e,fun v z=>by rw [d] at z;cases z⟩
 keep:=fun i h h' st k=>st.at fun o e=>k it (by simp) o e
 item:=by
  intro X S hw G hc i pins s σ H E I hf st hg;subst S hw G;obtain ⟨xs,x,D,hx⟩:=hg;obtain ⟨q,M,p,hz⟩:=I.tuple D;obtain ⟨u,hu,ru⟩:=M.get hx;obtain ⟨f0,L,Y,N,O,J⟩:=hf it (by simp);refine wpAny_pyNext_tuple_item st (show s.heap.IsTuple a q.toArray from p) (x:=u) (by simpa using hu) fun h' C sb=>?_;have I1:Inv X pins σ H { s with heap:=h' }:=I.turned (t':=s.toks) (fun b o hb e=>(sb.2 b hb).trans e) f0 L N O J;obtain ⟨o,e,c,d⟩:=id C;exact ⟨u,rfl,kX (s:={ s with heap:=h' }) e c d (by decide) ⟨x,H,I1,ru,⟨rfl,fun ys Z=>by rw [I.tuple_inj Z D];exact hx⟩,C,fun b hb=>(hf b hb).1⟩⟩
 done:=by
  intro X S hw G hc i pins s σ H E I hf st hg;subst S hw G;obtain ⟨xs,D,hx⟩:=hg;obtain ⟨q,M,p,hz⟩:=I.tuple D;obtain ⟨f0,L,Y,N,O,J⟩:=hf it (by simp);have hl:=M.length;exact wpAny_pyNext_tuple_end (I.ok.hd hc) st (show s.heap.IsTuple a q.toArray from p) (by simp;lia) fun h' eb=>⟨rfl,I.turned (t':=s.toks) (fun b o hb e=>eb b o hb e) f0 L N O J⟩
 self:=fun _ _ _ _ _ st h=>wpAny_pyIter_tupleiter st h
theorem kZ{tg:Ax}(it:Aw)(lo:Int)(n:Nat):Turn P w K tg (Itr lo n) [it] it (fun i h=>IsRangeIter h it (lo + (i:Nat) * 1) ((n:Int) - (i:Nat)) 1) where
 mem:=by simp
 obj:=fun i h st b hb=>by
  grind
 keep:=fun i h h' st k=>k it (by simp) _ st
 item:=by
  intro X M hw D hc i pins s σ H E I hf st hg;subst M hw D;obtain ⟨f0,G,N,J,L,C⟩:=hf it (by simp);have W:=Walks.range (prog:=X.prog) (w:=X.w) (I.ok.hd hc) it lo 1 n;refine W.item i s _ _ hg st fun v h' tk hv q Y=>?_;obtain ⟨t,rfl⟩:=hv;have S:Inv X pins σ H { s with heap:=h',toks:=tk }:=I.turned (fun b o hb e=>Y b o (by simpa using hb) e) f0 G J L C;refine ⟨_,rfl,kX (s:={ s with heap:=h',toks:=tk }) (n := "range_iterator") q rfl rfl (by decide) ⟨.int (lo + i),H,S,⟨t,?_⟩,⟨rfl,rfl⟩,q,fun b hb=>(hf b hb).1⟩⟩;rw [Int.mul_one]
 done:=by
  intro X M hw D hc i pins s σ H E I hf st hg;subst M hw D;obtain ⟨f0,G,N,J,L,C⟩:=hf it (by simp);exact wpAny_pyNext_range_end (I.ok.hd hc) st (by have:n<=i:=hg;lia) fun h' O=>⟨rfl,I.turned (t':=s.toks) (fun b o hb e=>O b o hb e) f0 G J L C⟩
 self:=fun _ _ _ _ _ st h=>wpAny_pyIter_rangeiter st h
section
variable {X:Cx}{tg:Ax}
def gE(K:Af)(tl:TE):TI:=fun σ H R=>tl σ H fun x H1=>∃a,x=.ref a/\(∃xs,SqL K H1 a xs)/\R (Itl K a) H1
def iTup(K:Af)(tl:TE):TI:=fun σ H R=>tl σ H fun x H1=>∃a,x=.ref a/\(∃xs,SqT K H1 a xs)/\R (Itt K a) H1
theorem Zfm{l:Ax}{tl:TE}(hl:PE X l tl):PI X tg l (gE X.K tl):=by
 intro pins s σ H R I h;refine thn (hl pins s σ H _ I h) fun v C ⟨x,H1,D,L,J⟩=>?_;obtain ⟨a,e,⟨xs,G⟩,q⟩:=J;subst e;cases L;obtain ⟨M,O,p,N⟩:=D.list G;refine Qdz p.isList ?_;refine ⟨C.heap.objs.size,[C.heap.objs.size],_,_,H1,rfl,D.kept (t':=C.toks) fun b o e=>Qab _ e,gD a _,⟨_,Qak _ rfl,rfl,rfl⟩,fun b hb=>?_,q⟩;have e:b=C.heap.objs.size:=by simpa using hb
 subst e;exact D.fpOk (Qag _) (D.hok.fresh (Qag _))
theorem pi_tup{l:Ax}{tl:TE}(hl:PE X l tl):PI X tg l (iTup X.K tl):=by
 intro pins s σ H R I h;refine thn (hl pins s σ H _ I h) fun v C ⟨x,H1,D,M,L⟩=>?_;obtain ⟨a,e,⟨xs,J⟩,q⟩:=L;subst e;cases M;obtain ⟨G,O,p,N⟩:=D.tuple J;refine Qeq (show C.heap.IsTuple a G.toArray from p) ?_;refine ⟨C.heap.objs.size,[C.heap.objs.size],_,_,H1,rfl,D.kept (t':=C.toks) fun b o e=>Qab _ e,kY a _,⟨_,Qak _ rfl,rfl,rfl⟩,fun b hb=>?_,q⟩;have e:b=C.heap.objs.size:=by simpa using hb
 subst e;exact D.fpOk (Qag _) (D.hok.fresh (Qag _))
theorem vH{σ:St}{H:Hp}{R:It->Hp->Prop}{E:Ab}{lo hi:Int}{t u v:Tok}{tk:Nat}(I:Inv X m σ H s)(h1:-(2 ^ 62)<=lo)(h2:lo < 2 ^ 62)(G:-(2 ^ 62)<=hi)(D:hi < 2 ^ 62)
  (q:R (Itr lo (hi - lo).toNat) H):wpAny (model X.prog X.w) X.A (pyIter (.ref s.heap.objs.size)) (PIE X m σ tg R) E { s with heap:=s.heap.push { cls:=.type "range",data:=.fields #[.int lo t,.int hi u,.int 1 v] },toks:=tk }:=by
 refine wpAny_pyIter_range (IsRange.new ..) (small_one h1 h2 G D) ?_;have C:Inv X m σ H { s with heap:=s.heap.push { cls:=.type "range",data:=.fields #[.int lo t,.int hi u,.int 1 v] },toks:=tk }:=I.kept fun b o e=>Qab _ e;refine ⟨(s.heap.push { cls:=.type "range",data:=.fields #[.int lo t,.int hi u,.int 1 v] }).objs.size,[(s.heap.push { cls:=.type "range",data:=.fields #[.int lo t,.int hi u,.int 1 v] }).objs.size],_,_,H,rfl,
  C.kept (t':=tk) fun b o e=>Qab _ e,kZ _ lo (hi - lo).toNat,?_,fun b hb=>?_,q⟩
 ·have e1:lo + ((0:Nat):Int) * 1=lo:=by simp
  have e2:(((hi - lo).toNat:Nat):Int) - ((0:Nat):Int)=Builtin.Range.rangeSize lo hi 1:=by rw [rangeSize_one];split <;> lia
  rw [e1,e2];exact Qak _ rfl
 ·have e:b=(s.heap.push { cls:=.type "range",data:=.fields #[.int lo t,.int hi u,.int 1 v] }).objs.size:=by simpa using hb
  subst e;exact C.fpOk (Qag _) (C.hok.fresh (Qag _))
def Zfn(ta:TA):TI:=fun σ H R=>ta σ H fun vs H1=>∃j:Int,vs=[.int j]/\-(2 ^ 62)<=j/\j < 2 ^ 62/\R (Itr 0 j.toNat) H1
def Ziq(ta:TA):TI:=fun σ H R=>ta σ H fun vs H1=>∃i j:Int,vs=[.int i,.int j]/\(-(2 ^ 62)<=i/\i < 2 ^ 62/\-(2 ^ 62)<=j/\j < 2 ^ 62)/\R (Itr i (j - i).toNat) H1
theorem gF {a:Ax} {ta:TA}  (hg:Gl X "range") (hm:X.mg "range" = none) (ha:PA X [a] ta) (hs:starEach [a] X.env=[(false,eval a X.env)]:=by rfl):PI X tg (.Call (.Name "range" p) [a] [] D) (Zfn ta):=by
 intro pins s σ H R I h;refine Call_ (WE I hg hm boot_range (Qcf (thn (ha D pins s σ H _ I h) fun O N ⟨vs,H1,G,M,C⟩=>?_) hs rfl));obtain ⟨j,e,C,L,q⟩:=C;subst e;cases M with
 | cons r J =>
  cases J;obtain ⟨t,rfl⟩:=r;exact call_range_1 (vH G (by lia) (by lia) C L (by simpa using q))
theorem gG {a b:Ax} {ta:TA}  (hg:Gl X "range") (hm:X.mg "range" = none) (ha:PA X [a,b] ta) (hs:starEach [a,b] X.env=[(false,eval a X.env),(false,eval b X.env)]:=by rfl) (C:starEach [b] X.env=[(false,eval b X.env)]:=by rfl) :
  PI X tg (.Call (.Name "range" p) [a,b] [] D) (Ziq ta):=by
 intro pins s σ H R I h;refine Call_ (WE I hg hm boot_range (Qcf (thn (ha D pins s σ H _ I h) fun us Z ⟨vs,H1,M,Y,G⟩=>?_) (by rw [hs,C]) (by rw [C];rfl)));obtain ⟨i,j,e,⟨G,S,O,L⟩,q⟩:=G;subst e;cases Y with
 | cons r J =>
  cases J with
  | cons N J =>
   cases J;obtain ⟨t,rfl⟩:=r;obtain ⟨t',rfl⟩:=N;exact call_range_2 (vH M G S O L q)
def tFor(wi:TI)(g:TG)(tb:TS):TS:=fun D σ H=>wi σ H fun J H1=>∃W:Nat->Nat->St->Hp->Prop,(∃m,W 0 m σ H1)/\∀i m σ H,W i m σ H ->
 (J.stop i H/\D.nx σ H)\/(J.go i H/\∃N:A1,(∀q H',N q H'->∃G,G < m/\W (i + 1) G q H')/\∀x H',J.yld i H x H'->g x σ H' fun C H2=>tb { D with nx:=N,ct:=N,bk:=D.nx } C H2)
def x4(fp:List Aw)(h:Heap):Ac:=fp.filterMap fun b=>(h.get? b).map fun o=>(b,o)
theorem Xg{b:Aw}{o:Obj}(hb:b∈L)(e:h.get? b=some o):(b,o)∈x4 L h:=Qgn.mpr ⟨b,hb,by rw [e];rfl⟩
theorem gH{p:Aw × Obj}(hp:p∈x4 L h):p.1∈L/\h.get? p.1=some p.2:=by
 obtain ⟨b,hb,e⟩:=Qgn.mp hp;cases q:h.get? b with
 | none=>rw [q] at e;cases e
 | some o =>
  rw [q] at e;have C:(b,o)=p:=Option.some.inj e;subst C;exact ⟨hb,q⟩
theorem Inv.pinned{σ:St}{H:Hp}(I:Inv X m σ H s)(hf:∀b∈L,GC X m H b)(ho:∀b∈L,∃o,s.heap.get? b=some o/\∀v,o.data≠.cell v):Inv X (m++x4 L s.heap) σ H s :=
 I.pins_of fun p hp=>(Qca.mp hp).elim (fun z=>I.pin p (Qay _ z)) fun z=>by
  obtain ⟨hb,e⟩:=gH z;obtain ⟨f0,D,C,_⟩:=hf p.1 hb;obtain ⟨o,q,d⟩:=ho p.1 hb;rw [e] at q;cases q;exact ⟨e,f0,D,C,d⟩
theorem Inv.unpinned{pl:Ac}{σ:St}{H:Hp}(I:Inv X (m++pl) σ H s):Inv X m σ H s:=I.pins_of fun p hp=>I.pin p (Qay _ (Qde _ hp))
theorem ps_for{iter:Ax}{body:List Ay}{wi:TI}{g:TG}{tb:TS}(hp:PassesOwn (model X.prog X.w) X.A X.env X.xe)(hc:X.calm=true)(hi:PI X tg iter wi)(hg:PG X tg g)(hb:PSs X body tb)
  (hs:∀x,foldedSetIterable iter X.env x=pure x:=by intro _;rfl):PS X (.For tg iter body [] p) (tFor wi g tb):=by
 intro pins s σ H D I h;refine wpAny_For (thn (hi pins s σ H _ I h) fun v s1 h1=>thn h1 fun itv s2 h2=>?_) hs;obtain ⟨it,fp,tn,J,H2,e,I2,T,st2,f2,W,⟨m0,w0⟩,turn⟩:=h2;subst e;have L:∀{H':Hp},(∀b∈fp,H' b=none)->∀b∈fp,GC X pins H' b:=fun hn b hb=>⟨hn b hb,(f2 b hb).2⟩;refine codeAny_forLoop_any (fun n s'=>∃i O H',Inv X pins O H' s'/\tn i s'.heap/\(∀b∈fp,H' b=none)/\W i n O H') ?_ m0 ⟨0,σ,H2,I2,st2,fun b hb=>(f2 b hb).1,w0⟩;rintro n s3 ⟨i,M,H3,I3,st3,Z,w3⟩;rcases turn i n M H3 w3 with ⟨stop,qn⟩ | ⟨go,N,hN,step⟩
 ·refine Qec hp (thn (T.done X rfl rfl rfl hc i pins s3 M H3 X.xe I3 (L Z) st3 stop) fun r s4 ⟨hr,I4⟩=>?_)
  subst hr;exact Qgh ⟨M,H3,I4,qn⟩
 ·refine Qec hp (thn (T.item X rfl rfl rfl hc i pins s3 M H3 X.xe I3 (L Z) st3 go) fun r s4 ⟨u,hr,h4⟩=>?_)
  subst hr;refine Qec hp (thn h4 fun _ s5 ⟨x,H5,I5,r5,y5,Y,fr5⟩=>?_);have I5':=I5.pinned (L fr5) (T.obj _ _ Y);refine Qec hp (thn (hg _ s5 M H5 x u _ I5' r5 (step x H5 y5)) fun _ s6 ⟨σ6,H6,I6,q6⟩=>?_);refine Qec hp (thn (hb _ s6 σ6 H6 _ I6 q6) fun f s7 S=>?_);have again:∀{q:St} {G:Hp},Inv X (pins++x4 fp s5.heap) q G s7->N q G->∃m,m < n/\∃i O H',Inv X pins O H' s7/\tn i s7.heap/\(∀b∈fp,H' b=none)/\W i m O H':=fun {q G} C n7=>by
   obtain ⟨m',hm,w7⟩:=hN q G n7;refine ⟨m',hm,i + 1,q,G,C.unpinned,T.keep _ _ _ Y fun b hb o e=>(C.pin (b,o) (Qay _ (Qay _ (Xg hb e)))).1,fun b hb=>?_,w7⟩;obtain ⟨o,e,d⟩:=T.obj _ _ Y b hb;exact (C.pin (b,o) (Qay _ (Qay _ (Xg hb e)))).2.1
  cases f with
  | next=>obtain ⟨q,G,C,n7⟩:=S;exact again C n7
  | cont=>obtain ⟨q,G,C,n7⟩:=S;exact again C n7
  | brk=>obtain ⟨q,G,C,S⟩:=S;exact ⟨q,G,C.unpinned,S⟩
  | ret v=>obtain ⟨x7,q,G,C,r7,S⟩:=S;exact ⟨x7,q,G,C.unpinned,r7,S⟩
end
theorem zb{xs:A2}{g:TG}{tb:TS}{D:Ends}{σ:St}{H:Hp}(C:Nat->St->Hp->Prop)(O:C 0 σ H)(hl:∀i σ H,i<=xs.length->C i σ H->SqL K H a xs)
  (hs:∀i x σ H,xs[i]?=some x->C i σ H->g x σ H fun G H2=>tb { D with nx:=C (i + 1),ct:=C (i + 1),bk:=D.nx } G H2) (hd:∀σ H,C xs.length σ H->D.nx σ H) :
  ∃W:Nat->Nat->St->Hp->Prop,(∃m,W 0 m σ H)/\∀i m σ H,W i m σ H ->
   ((Itl K a).stop i H/\D.nx σ H)\/((Itl K a).go i H/\∃N:A1,(∀I H',N I H'->∃L,L < m/\W (i + 1) L I H')/\∀x H',(Itl K a).yld i H x H'->g x σ H' fun G H2=>tb { D with nx:=N,ct:=N,bk:=D.nx } G H2):=by
 refine ⟨fun i m σ H=>m=xs.length - i/\i<=xs.length/\C i σ H,⟨xs.length,by simp,Qbc _,O⟩,?_⟩;rintro i m σ H ⟨rfl,hi,p⟩;have q:=hl i σ H hi p
 by_cases J:i < xs.length
 ·refine .inr ⟨⟨xs,xs[i],q,by simp [J]⟩,C (i + 1),fun I H' M=>⟨xs.length - (i + 1),by lia,rfl,J,M⟩,fun x H' y=>?_⟩
  obtain ⟨e,y⟩:=y;subst e;exact hs i x σ _ (y xs q) p
 ·have e:i=xs.length:=by lia
  subst e;exact .inl ⟨⟨xs,q,Qag _⟩,hd σ H p⟩
theorem gI{xs:A2}{g:TG}{tb:TS}{D:Ends}{σ:St}{H:Hp}(C:Nat->St->Hp->Prop)(O:C 0 σ H)(hl:∀i σ H,i<=xs.length->C i σ H->SqT K H a xs)
  (hs:∀i x σ H,xs[i]?=some x->C i σ H->g x σ H fun G H2=>tb { D with nx:=C (i + 1),ct:=C (i + 1),bk:=D.nx } G H2) (hd:∀σ H,C xs.length σ H->D.nx σ H) :
  ∃W:Nat->Nat->St->Hp->Prop,(∃m,W 0 m σ H)/\∀i m σ H,W i m σ H ->
   ((Itt K a).stop i H/\D.nx σ H)\/((Itt K a).go i H/\∃N:A1,(∀I H',N I H'->∃L,L < m/\W (i + 1) L I H')/\∀x H',(Itt K a).yld i H x H'->g x σ H' fun G H2=>tb { D with nx:=N,ct:=N,bk:=D.nx } G H2):=by
 refine ⟨fun i m σ H=>m=xs.length - i/\i<=xs.length/\C i σ H,⟨xs.length,by simp,Qbc _,O⟩,?_⟩;rintro i m σ H ⟨rfl,hi,p⟩;have q:=hl i σ H hi p
 by_cases J:i < xs.length
 ·refine .inr ⟨⟨xs,xs[i],q,by simp [J]⟩,C (i + 1),fun I H' M=>⟨xs.length - (i + 1),by lia,rfl,J,M⟩,fun x H' y=>?_⟩
  obtain ⟨e,y⟩:=y;subst e;exact hs i x σ _ (y xs q) p
 ·have e:i=xs.length:=by lia
  subst e;exact .inl ⟨⟨xs,q,Qag _⟩,hd σ H p⟩
theorem Xi{lo:Int}{g:TG}{tb:TS}{D:Ends}{σ:St}{H:Hp}(q:Nat->St->Hp->Prop)(M:q 0 σ H)
  (hs:∀i σ H,i < n->q i σ H->g (.int (lo + i)) σ H fun G H2=>tb { D with nx:=q (i + 1),ct:=q (i + 1),bk:=D.nx } G H2) (hd:∀σ H,q n σ H->D.nx σ H) :
  ∃W:Nat->Nat->St->Hp->Prop,(∃m,W 0 m σ H)/\∀i m σ H,W i m σ H ->
   ((Itr lo n).stop i H/\D.nx σ H)\/((Itr lo n).go i H/\∃N:A1,(∀I H',N I H'->∃J,J < m/\W (i + 1) J I H')/\∀x H',(Itr lo n).yld i H x H'->g x σ H' fun G H2=>tb { D with nx:=N,ct:=N,bk:=D.nx } G H2):=by
 refine ⟨fun i m σ H=>m=n - i/\i<=n/\q i σ H,⟨n,by simp,Qbc _,M⟩,?_⟩;rintro i m σ H ⟨rfl,hi,p⟩
 by_cases C:i < n
 ·refine .inr ⟨C,q (i + 1),fun I H' L=>⟨n - (i + 1),by lia,rfl,C,L⟩,fun x H' y=>?_⟩
  obtain ⟨e,y⟩:=y;subst e y;exact hs i σ _ C p
 ·have e:i=n:=by lia
  subst e;exact .inl ⟨Qag _,hd σ H p⟩
abbrev R2:=V->V->Hp->VK->Prop
def OpR(X:Cx)(f:Av->Value->Sem Av)(r:R2):Prop :=
 ∀(pins:Ac) (s:As) (σ:St) (H:Hp) (x y:V) (v u:Av) (Q:VK),Inv X pins σ H s->RelV x v->RelV y u->r x y H Q ->
  wpAny (model X.prog X.w) X.A (f v u) (EP X pins σ Q) X.xe s
def UnR(X:Cx)(f:Av->Sem Av)(r:V->Hp->VK->Prop):Prop :=
 ∀(pins:Ac) (s:As) (σ:St) (H:Hp) (x:V) (v:Av) (Q:VK),Inv X pins σ H s->RelV x v->r x H Q ->
  wpAny (model X.prog X.w) X.A (f v) (EP X pins σ Q) X.xe s
def YM(X:Cx)(f:Av)(r:A2->Hp->VK->Prop):Prop :=
 ∀(pins:Ac) (s:As) (σ:St) (H:Hp) (xs:A2) (q:Ag) (Q:VK),Inv X pins σ H s->Vals xs q->r xs H Q ->
  wpAny (model X.prog X.w) X.A (call f q) (EP X pins σ Q) X.xe s
def tOp(r:R2)(ta tb:TE):TE:=fun σ H Q=>ta σ H fun x H1=>tb σ H1 fun y H2=>r x y H2 Q
def tUn(r:V->Hp->VK->Prop)(ta:TE):TE:=fun σ H Q=>ta σ H fun x H1=>r x H1 Q
def rI(C:Int->Int->Prop)(g:Int->Int->V):R2:=fun x y H Q=>∃i j,x=.int i/\y=.int j/\C i j/\Q (g i j) H
def rI0(g:Int->Int->V):R2:=fun x y H Q=>∃i j,x=.int i/\y=.int j/\Q (g i j) H
def rU(g:Int->V):V->Hp->VK->Prop:=fun x H Q=>∃i,x=.int i/\Q (g i) H
section
variable {X:Cx}{a b c:Ax}{ta tb tc:TE}{pos:Pos}
theorem binT(ha:PE X a ta)(hb:PE X b tb){σ:St}{H:Hp}{R:V->V->Hp->Prop}(I:Inv X m σ H s)
  (h:ta σ H fun x H1=>tb σ H1 fun y H2=>R x y H2)  {f:Av->Value->Sem Av}
  (hf:∀v u C x y H2,Inv X m σ H2 C->RelV x v->RelV y u->R x y H2->wpAny (model X.prog X.w) X.A (f v u) Q X.xe C) :
  wpAny (model X.prog X.w) X.A (eval a X.env) (fun v q=>wpAny (model X.prog X.w) X.A (eval b X.env) (fun u s₂=>wpAny (model X.prog X.w) X.A (f v u) Q X.xe s₂) X.xe q) X.xe s:=by
 refine thn (ha m s σ H _ I h) fun v D ⟨x,H1,G,N,J⟩=>?_;refine thn (hb m D σ H1 _ G J) fun u C ⟨y,H2,O,L,M⟩=>?_;exact hf v u C x y H2 O N L M
theorem pe_op{C:Operator}{r:R2}(ho:OpR X (binaryOp C) r)(ha:PE X a ta)(hb:PE X b tb):PE X (.BinOp a C b pos) (tOp r ta tb):=by
 intro pins s σ H Q I h;exact wpAny_BinOp (binT ha hb I h fun v u G x y H2 L D J q=>ho pins G σ H2 x y v u Q L D J q)
theorem pe_un{q:UnaryOp}{r:V->Hp->VK->Prop}(ho:UnR X (unaryOp q) r)(ha:PE X a ta):PE X (.UnaryOp q a pos) (tUn r ta):=by
 intro pins s σ H Q I h;exact UnaryOp_ (thn (ha pins s σ H _ I h) fun v C ⟨x,H1,D,G,J⟩=>ho pins C σ H1 x v Q D G J)
theorem opI{f:Av->Value->Sem Av}{C:Int->Int->Prop}{g:Int->Int->Int}
  (rule:∀(i j:Int) (t u:Tok) (s:As) (Q:Ab) (E:Ab),C i j->Q (.int (g i j) s.toks) { s with toks:=s.toks + 1 }->wpAny (model X.prog X.w) X.A (f (.int i t) (.int j u)) Q E s) :
  OpR X f (rI C fun i j=>.int (g i j)):=by
 intro pins s σ H x y v u Q I D G h;obtain ⟨i,j,rfl,rfl,hc,q⟩:=h;obtain ⟨t,rfl⟩:=D;obtain ⟨t',rfl⟩:=G;exact rule i j t t' s _ _ hc ⟨.int (g i j),H,I.tok _,⟨_,rfl⟩,q⟩
theorem Zir{f:Av->Value->Sem Av}{g:Int->Int->Int}
  (rule:∀(i j:Int) (t u:Tok) (s:As) (Q:Ab) (E:Ab),Q (.int (g i j) s.toks) { s with toks:=s.toks + 1 }->wpAny (model X.prog X.w) X.A (f (.int i t) (.int j u)) Q E s) :
  OpR X f (rI0 fun i j=>.int (g i j)):=by
 intro pins s σ H x y v u Q I C D h;obtain ⟨i,j,rfl,rfl,q⟩:=h;obtain ⟨t,rfl⟩:=C;obtain ⟨t',rfl⟩:=D;exact rule i j t t' s _ _ ⟨.int (g i j),H,I.tok _,⟨_,rfl⟩,q⟩
theorem Zju{f:Av->Value->Sem Av}{g:Int->Int->Bool}
  (rule:∀(i j:Int) (t u:Tok) (s:As) (Q:Ab) (E:Ab),Q (.bool (g i j)) s->wpAny (model X.prog X.w) X.A (f (.int i t) (.int j u)) Q E s) :
  OpR X f (rI0 fun i j=>.bl (g i j)):=by
 intro pins s σ H x y v u Q I C D h;obtain ⟨i,j,rfl,rfl,q⟩:=h;obtain ⟨t,rfl⟩:=C;obtain ⟨t',rfl⟩:=D;exact rule i j t t' s _ _ ⟨.bl (g i j),H,I,rfl,q⟩
def CPow(i j:Int):Prop:=0<=j/\j<=1000000/\i.natAbs < 2 ^ 64
def CMul(i j:Int):Prop:=(-(2 ^ 64) < i/\i < 2 ^ 64)\/(-(2 ^ 64) < j/\j < 2 ^ 64)
theorem CMul.ok{i j:Int}(h:CMul i j):IntMulOk i j:=by
 rcases h with ⟨h1,h2⟩ | ⟨h1,h2⟩
 ·exact .of_left (intBits_le_64 h1 h2)
 ·exact .of_right (intBits_le_64 h1 h2)
theorem two_pow_nn(k:Nat):(0:Int)<=2 ^ k:=by grind
theorem Y1:OpR X (binaryOp .Add) (rI0 fun i j=>.int (i + j)):=Zir fun _ _ _ _ _ _ _ q=>add_int q
theorem XZ:OpR X (binaryOp .Sub) (rI0 fun i j=>.int (i - j)):=Zir fun _ _ _ _ _ _ _ q=>sub_int q
theorem Ya:OpR X (binaryOp .Mod) (rI (fun _ j=>0 < j) fun i j=>.int (i % j)):=opI fun i j _ _ _ _ _ hc q=>by
 exact mod_int' (by lia) (by grind)
theorem op_pow:OpR X (binaryOp .Pow) (rI CPow fun i j=>.int (i ^ j.toNat)):=opI fun _ _ _ _ _ _ _ hc q=>pow_int_small hc.1 hc.2.1 hc.2.2 q
theorem op_shl:OpR X (binaryOp .LShift) (rI CPow fun i j=>.int (i * 2 ^ j.toNat)):=opI fun _ _ _ _ _ _ _ hc q=>lshift_int_small hc.1 hc.2.1 hc.2.2 q
theorem vI:OpR X (binaryOp .RShift) (rI (fun _ j=>0<=j) fun i j=>.int (i / 2 ^ j.toNat)):=opI fun i j _ _ _ _ _ hc q =>
 rshift_int hc (by grind)
theorem Xb:OpR X (binaryOp .BitAnd) (rI0 fun i j=>.int (Builtin.bitAnd i j)):=Zir fun _ _ _ _ _ _ _ q=>and_int q
theorem qS:OpR X (binaryOp .BitOr) (rI0 fun i j=>.int (Builtin.bitOr i j)):=Zir fun _ _ _ _ _ _ _ q=>or_int q
theorem GD:OpR X (binaryOp .BitXor) (rI0 fun i j=>.int (Builtin.bitXor i j)):=Zir fun _ _ _ _ _ _ _ q=>xor_int q
theorem unI{f:Av->Sem Av}{g:Int->Int}
  (rule:∀(i:Int) (t:Tok) (s:As) (Q:Ab) (E:Ab),Q (.int (g i) s.toks) { s with toks:=s.toks + 1 }->wpAny (model X.prog X.w) X.A (f (.int i t)) Q E s) :
  UnR X f (rU fun i=>.int (g i)):=by
 intro pins s σ H x v Q I C h;obtain ⟨i,rfl,q⟩:=h;obtain ⟨t,rfl⟩:=C;exact rule i t s _ _ ⟨.int (g i),H,I.tok _,⟨_,rfl⟩,q⟩
theorem ji:UnR X (unaryOp .USub) (rU fun i=>.int (-i)):=unI fun _ _ _ _ _ q=>neg_int q
theorem GF:UnR X (unaryOp .Invert) (rU fun i=>.int (Builtin.bitNot i)):=unI fun _ _ _ _ _ q=>invert_int q
end
def scal:V->V->Bool
 | .non,.non=>true | .non,.int _=>true | .int _,.non=>true | .non,.bl _=>true | .bl _,.non=>true | .non,.str _=>true | .str _,.non=>true
 | .int _,.int _=>true | .bl _,.bl _=>true | .str _,.str _=>true | .byt _,.byt _=>true
 | .int _,.str _=>true | .str _,.int _=>true | .bl _,.str _=>true | .str _,.bl _=>true
 | _,_=>false
def rEq:R2:=fun x y H Q=>scal x y=true/\Q (.bl (decide (x=y))) H
def rNe:R2:=fun x y H Q=>scal x y=true/\Q (.bl (!decide (x=y))) H
theorem gJ{i j:Int}:decide (V.int i=V.int j)=(i == j):=by grind
theorem Zef{i:Bool}:decide (V.bl i=V.bl j)=(i == j):=by grind
theorem gK{i j:Str}:decide (V.str i=V.str j)=(i == j):=by grind
theorem gL{i j:Array UInt8}:decide (V.byt i=V.byt j)=(i.toList == j.toList):=by
 rw [Qfl];cases i;cases j;simp
section
variable {X:Cx}{a b c:Ax}{ta tb tc:TE}{pos:Pos}
theorem ZL{σ:St}{H:Hp}{Q:VK}{k:Bool}(I:Inv X m σ H s)(q:Q (.bl k) H)(e:k=j):EP X m σ Q (.bool j) s:=by
 subst e;exact ⟨.bl k,H,I,rfl,q⟩
theorem Yy:OpR X (compareOp .Eq) rEq:=by
 intro pins s σ H x y v u Q I D C h;obtain ⟨hs,q⟩:=h;cases x with
 | non =>
  cases D;cases y with
  | non=>cases C;exact PySem.EqNone.eq_none_none (ZL I q (by simp))
  | bl j=>cases C;exact PySem.EqNone.eq_none_bool (ZL I q (by simp))
  | int j=>obtain ⟨t',rfl⟩:=C;exact PySem.EqNone.eq_none_int (ZL I q (by simp))
  | str j=>obtain ⟨t',rfl⟩:=C;exact PySem.EqNone.eq_none_str (ZL I q (by simp))
  | _=>exact absurd (show false=true from hs) Qa6
 | bl i =>
  cases D;cases y with
  | non=>cases C;exact PySem.EqNone.eq_bool_none (ZL I q (by simp))
  | bl j=>cases C;exact eq_bool (ZL I q Zef)
  | str j=>obtain ⟨t',rfl⟩:=C;exact PySem.EqMixed.eq_bool_str (ZL I q (by simp))
  | _=>exact absurd (show false=true from hs) Qa6
 | int i =>
  obtain ⟨t,rfl⟩:=D;cases y with
  | non=>cases C;exact PySem.EqNone.eq_int_none (ZL I q (by simp))
  | int j=>obtain ⟨t',rfl⟩:=C;exact eq_int (ZL I q gJ)
  | str j=>obtain ⟨t',rfl⟩:=C;exact PySem.EqMixed.eq_int_str (ZL I q (by simp))
  | _=>exact absurd (show false=true from hs) Qa6
 | str i =>
  obtain ⟨t,rfl⟩:=D;cases y with
  | non=>cases C;exact PySem.EqNone.eq_str_none (ZL I q (by simp))
  | bl j=>cases C;exact PySem.EqMixed.eq_str_bool (ZL I q (by simp))
  | int j=>obtain ⟨t',rfl⟩:=C;exact PySem.EqMixed.eq_str_int (ZL I q (by simp))
  | str j=>obtain ⟨t',rfl⟩:=C;exact eq_str (ZL I q gK)
  | _=>exact absurd (show false=true from hs) Qa6
 | byt i =>
  obtain ⟨t,rfl⟩:=D;cases y with
  | byt j=>obtain ⟨t',rfl⟩:=C;exact PySem.W.eq_bytes (ZL I q gL)
  | _=>exact absurd (show false=true from hs) Qa6
 | _=>cases y <;> exact absurd (show false=true from hs) Qa6
theorem Zis:OpR X (compareOp .NotEq) rNe:=by
 intro pins s σ H x y v u Q I D C h;obtain ⟨hs,q⟩:=h;cases x with
 | non =>
  cases D;cases y with
  | non=>cases C;exact PySem.EqNone.ne_none_none (ZL I q (by simp))
  | bl j=>cases C;exact PySem.EqNone.ne_none_bool (ZL I q (by simp))
  | int j=>obtain ⟨t',rfl⟩:=C;exact PySem.EqNone.ne_none_int (ZL I q (by simp))
  | str j=>obtain ⟨t',rfl⟩:=C;exact PySem.EqNone.ne_none_str (ZL I q (by simp))
  | _=>exact absurd (show false=true from hs) Qa6
 | bl i =>
  cases D;cases y with
  | non=>cases C;exact PySem.EqNone.ne_bool_none (ZL I q (by simp))
  | bl j=>cases C;exact ne_bool (ZL I q (congrArg not Zef))
  | str j=>obtain ⟨t',rfl⟩:=C;exact PySem.EqMixed.ne_bool_str (ZL I q (by simp))
  | _=>exact absurd (show false=true from hs) Qa6
 | int i =>
  obtain ⟨t,rfl⟩:=D;cases y with
  | non=>cases C;exact PySem.EqNone.ne_int_none (ZL I q (by simp))
  | int j=>obtain ⟨t',rfl⟩:=C;exact ne_int (ZL I q (congrArg not gJ))
  | str j=>obtain ⟨t',rfl⟩:=C;exact PySem.EqMixed.ne_int_str (ZL I q (by simp))
  | _=>exact absurd (show false=true from hs) Qa6
 | str i =>
  obtain ⟨t,rfl⟩:=D;cases y with
  | non=>cases C;exact PySem.EqNone.ne_str_none (ZL I q (by simp))
  | bl j=>cases C;exact PySem.EqMixed.ne_str_bool (ZL I q (by simp))
  | int j=>obtain ⟨t',rfl⟩:=C;exact PySem.EqMixed.ne_str_int (ZL I q (by simp))
  | str j=>obtain ⟨t',rfl⟩:=C;exact ne_str (ZL I q (congrArg not gK))
  | _=>exact absurd (show false=true from hs) Qa6
 | byt i =>
  obtain ⟨t,rfl⟩:=D;cases y with
  | byt j=>obtain ⟨t',rfl⟩:=C;exact PySem.W.ne_bytes (ZL I q (congrArg not gL))
  | _=>exact absurd (show false=true from hs) Qa6
 | _=>cases y <;> exact absurd (show false=true from hs) Qa6
theorem gM:OpR X (compareOp .Lt) (rI0 fun i j=>.bl (decide (i < j))):=Zju fun _ _ _ _ _ _ _ q=>lt_int q
theorem Zit:OpR X (compareOp .LtE) (rI0 fun i j=>.bl (decide (i<=j))):=Zju fun _ _ _ _ _ _ _ q=>le_int q
theorem gN:OpR X (compareOp .Gt) (rI0 fun i j=>.bl (decide (j < i))):=Zju fun _ _ _ _ _ _ _ q=>gt_int q
theorem Ziu:OpR X (compareOp .GtE) (rI0 fun i j=>.bl (decide (j<=i))):=Zju fun _ _ _ _ _ _ _ q=>ge_int q
theorem gO:OpR X (compareOp .In) (fun x y H Q=>∃i j,x=.str i/\y=.str j/\Q (.bl (!(Builtin.Str.occurrences j i 0 j.length 1).isEmpty)) H):=by
 intro pins s σ H x y v u Q I C D h;obtain ⟨i,j,rfl,rfl,q⟩:=h;obtain ⟨t,rfl⟩:=C;obtain ⟨t',rfl⟩:=D;exact in_str (ZL I q rfl)
theorem OpR.or{f:Av->Value->Sem Av}{r G:R2}(h:OpR X f r)(h':OpR X f G):OpR X f (fun x y H Q=>r x y H Q\/G x y H Q):=by
 intro pins s σ H x y v u Q I C D q;rcases q with q | q
 ·exact h pins s σ H x y v u Q I C D q
 ·exact h' pins s σ H x y v u Q I C D q
theorem Z3(b:Ax){q:CmpOp}(h:q≠.In:=by decide)(h2:q≠.NotIn:=by decide):behindInMarks q b=false:=by
 have e1:(q == CmpOp.In)=false:=by grind
 have e2:(q == CmpOp.NotIn)=false:=by grind
 cases b <;> simp [behindInMarks,e1,e2]
theorem Zfo{C:CmpOp}{r:R2}(ho:OpR X (compareOp C) r)(ha:PE X a ta)(hb:PE X b tb)(hm:behindInMarks C b=false):PE X (.Compare a [C] [b] pos) (tOp r ta tb):=by
 intro pins s σ H Q I h;exact wpAny_Compare1 (binT ha hb I h fun v u G x y H2 L D J q=>ho pins G σ H2 x y v u Q L D J q) hm
def Ziv(t:TE):TT:=fun σ H Q=>t σ H fun x H'=>∃k,x=.bl k/\Q k H'
theorem Zfp{q:CmpOp}{r:R2}(ho:OpR X (compareOp q) r)(ha:PE X a ta)(hb:PE X b tb)(hm:behindInMarks q b=false):PT X (.Compare a [q] [b] pos) (Ziv (tOp r ta tb)):=by
 intro pins s σ H Q I h;refine wpAny_isTrue_Compare1 (thn (ha pins s σ H _ I h) fun v C ⟨x,H1,D,S,M⟩=>thn (hb pins C σ H1 _ D M) fun u J ⟨y,H2,I2,N,O⟩ =>
  thn (ho pins J σ H2 x y v u _ I2 S N O) fun c s3 ⟨z,Y,Z,G,k,e,L⟩=>?_) hm
 subst e;cases G;exact Qdy ⟨Y,Z,L⟩
theorem JS:(sizeLine:Nat) < 2 ^ 63:=by decide
theorem wb:OpR X (binaryOp .Add) (fun x y H Q=>∃i j,x=.str i/\y=.str j/\i.length + j.length<=sizeLine/\Q (.str (i++j)) H):=by
 intro pins s σ H x y v u Q I C D h;obtain ⟨i,j,rfl,rfl,G,q⟩:=h;obtain ⟨t,rfl⟩:=C;obtain ⟨t',rfl⟩:=D;exact add_str (fun t' tk=>⟨.str (i++j),H,I.tok _,⟨_,rfl⟩,q⟩) G
theorem vals1{x:V}(r:Vals [x] U):∃u,U=[u]/\RelV x u:=by
 cases r with
 | cons q C=>cases C;exact ⟨_,rfl,q⟩
theorem vals2{x y:V}(r:Vals [x,y] U):∃u q,U=[u,q]/\RelV x u/\RelV y q:=by
 cases r with
 | cons G C =>
  cases C with
  | cons I D=>cases D;exact ⟨_,_,rfl,G,I⟩
theorem gP (hc:X.calm=true):YM X (.builtin "max") (fun xs H Q=>∃i j,xs=[.int i,.int j]/\Q (.int (if j > i then j else i)) H):=by
 intro pins s σ H xs G Q I r h;obtain ⟨i,j,rfl,q⟩:=h;obtain ⟨u,D,rfl,⟨t,rfl⟩,⟨t',rfl⟩⟩:=vals2 r;refine max_two_ints (I.ok.hd hc) fun h' tk k=>⟨_,H,I.kept k,?_,q⟩
 by_cases C:j > i
 ·rw [Qa0 C,Qa0 C];exact ⟨_,rfl⟩
 ·rw [Qaw C,Qaw C];exact ⟨_,rfl⟩
theorem jj (hc:X.calm=true):YM X (.builtin "min") (fun xs H Q=>∃i j,xs=[.int i,.int j]/\Q (.int (if j < i then j else i)) H):=by
 intro pins s σ H xs G Q I r h;obtain ⟨i,j,rfl,q⟩:=h;obtain ⟨u,D,rfl,⟨t,rfl⟩,⟨t',rfl⟩⟩:=vals2 r;refine min_two_ints (I.ok.hd hc) fun h' tk k=>⟨_,H,I.kept k,?_,q⟩
 by_cases C:j < i
 ·rw [Qa0 C,Qa0 C];exact ⟨_,rfl⟩
 ·rw [Qaw C,Qaw C];exact ⟨_,rfl⟩
theorem GG:YM X (.type "int") (fun xs H Q=>(∃i,xs=[.int i]/\Q (.int i) H)\/∃k,xs=[.bl k]/\Q (.int (if k then 1 else 0)) H):=by
 intro pins s σ H xs D Q I r h;rcases h with ⟨i,rfl,q⟩ | ⟨k,rfl,q⟩
 ·obtain ⟨u,rfl,t,rfl⟩:=vals1 r
  exact call_int_int ⟨.int i,H,I,⟨_,rfl⟩,q⟩
 ·obtain ⟨u,rfl,C⟩:=vals1 r
  cases C;exact call_int_bool ⟨.int (if k then 1 else 0),H,I.tok _,⟨_,rfl⟩,q⟩
end
structure ObjM(h:Heap)(x dx C:Aw)(mA:Ae):Prop where
 obj:h.get? x=some (PySem.W.instObj C dx)
 ns:h.Ns1 dx mA
 ne:dx≠x
theorem gQ{mA:Ae}(n:h.Ns1 f mA):∃od,h.get? f=some od/\∀name,PySem.W.lookIn name od=some (mA name):=by
 obtain ⟨o,es,ep,ho,hd,hk,_,hm⟩:=n;refine ⟨o,ho,fun name=>?_⟩;have e:=hm name;unfold nsFind findBy at e;rw [<-Array.find?_toList] at e;unfold PySem.W.lookIn;rw [hd];dsimp only
 split
 ·grind
 ·rename_i q
  rw [q] at e;have a:es.toList.any (·.refKey)=false:=by
   rw [List.any_eq_false];intro y D;obtain ⟨z,t,C⟩:=hk y (Array.mem_toList_iff.mp D);simp [DictEntry.refKey,C]
  have G:¬es.toList.any (·.refKey)=true:=by rw [a];exact Qa6
  rw [Qaw G];exact congrArg some e
theorem ObjM.look{x:Aw}{mA:Ae}(I:ObjM h x a f mA):∃od,PySem.W.InstAt h x (PySem.W.instObj f a) f (some od)/\∀name,PySem.W.lookIn name od=some (mA name) :=
 let ⟨od,ho,hl⟩:=gQ I.ns
 ⟨od,⟨I.obj,rfl,rfl,ho⟩,hl⟩
section
variable {prog:Aq}{w:Au}{A:Ar}{E:Ab}{s:As}{K:Af}{x dx C f:Aw}{mA:Ae}{name:Str}{v:Av}
end
theorem jh.some_of{v:V}{o:Option Av}(r:jh (some v) o):∃u,o=some u/\RelV v u:=by
 cases o with
 | none=>exact (show False from r).elim
 | some u=>exact ⟨u,rfl,r⟩
theorem jh.none_of{o:Option Av}(r:jh none o):o=none:=by
 cases o with
 | none=>rfl
 | some u=>exact (show False from r).elim
section
variable {P:Aq}{w:Au}{H H':Hp}{h h':Heap}{a C dx:Aw}{fs fs':List (Str × V)}
theorem Zfq(D:HOk P w H h)(e:H a=some (.ins C dx fs)):∃mA,ObjM h a dx C mA/\(∀f,jh (fs.lookup f) (mA f))/\PySem.Within mA (fs.map (·.1))/\fs.length<=1000/\H dx=some (.own a):=by
 obtain ⟨d,z,ne,ob,mA,n,r,q⟩:=(show Yn P w H h a (.ins C dx fs) from D a _ e);exact ⟨mA,⟨ob,n,ne⟩,r,q,z,d⟩
end
structure Cls(K:Af)(C:Aw):Prop where
 pg:PySem.W.plainGet K C Str.empty=true
 hd:PySem.W.hasDictIn K C=true
 po:PySem.W.plainOver K C=true
 sa:PySem.W.findIn K (.ref C) "__setattr__" = some (some (.builtin "object.__setattr__"))
theorem Cls.get(c:Cls K a)(f:Str):PySem.W.plainGet K a f=true:=c.pg
section
variable {X:Cx}{pins:Ac}{σ:St}{H:Hp}{s:As}{a C dx:Aw}{fs:List (Str × V)}{f:Str}{v:V}{A:Ar}{E:Ab}
end
section
variable {X:Cx}{o e value:Ax}{f:Str}{pos pos' tpos:Pos}{ta tv:TE}
end
section
variable {X:Cx}{pins:Ac}{σ:St}{H:Hp}{s:As}{A:Ar}{E:Ab}{Q:Ab}{c:Av}{b:Bool}
inductive we(K:Af)(H:Hp):V->Value->Prop where
 | non:we K H .non (.type "NoneType")
 | bl (x:Bool):we K H (.bl x) (.type "bool")
 | int (i:Int):we K H (.int i) (.type "int")
 | str (x:Str):we K H (.str x) (.type "str")
 | flt (x:UInt64):we K H (.flt x) (.type "float")
 | lst {a:Aw} {xs:A2} (e:H a=some (.lst xs)):we K H (.ref a) (.type "list")
 | frz {a:Aw} {o:Obj} {xs:A2} (e:H a=some (.frz o (.lst xs))):we K H (.ref a) (.type "list")
 | tup {a:Aw} {xs:A2} (e:H a=some (.tup xs)):we K H (.ref a) (.type "tuple")
 | dK {a:Aw} {kvs:A0} (e:H a=some (.dK kvs)):we K H (.ref a) (.type "dict")
 | dT {a:Aw} {kvs:List (List Key × V)} (e:H a=some (.dT kvs)):we K H (.ref a) (.type "dict")
 | ins {a C dx:Aw} {fs:List (Str × V)} (e:H a=some (.ins C dx fs)) (cl:Cls K C) (ha:PySem.W.findIn K (.ref C) "__class__" = some (some (.builtin "object.__class__")))
   (hn:PySem.W.specialIn K (.builtin "object.__class__") "__get__" = some (some (.builtin "getset_descriptor.__get__"))) (htk:PySem.W.takesIn K (.builtin "object.__class__")=some true)
   (hm:PySem.W.mroIn K C (.type "object")=some true):we K H (.ref a) (.ref C)
theorem gR{x:V}{t:Av}(I:Inv X pins σ H s)(D:RelV x u)(ty:we X.K H x t)(e:PySem.W.kitOne X.K t c=some b)(h:∀tk,Q (.bool b) { s with toks:=tk }) :
  wpAny (model X.prog X.w) A (call (.builtin "isinstance") [u,c]) Q E s:=by
 cases ty with
 | non=>cases (show u=Value.none from D);exact Qcy PySem.W.kitx_none I.kIn True.intro e (fun z=>nomatch z) h
 | bl y=>cases (show u=Value.bool y from D);exact Qcy PySem.W.kitx_bool I.kIn True.intro e (fun z=>nomatch z) h
 | int i=>obtain ⟨t,q⟩:=(show ∃t,u=Value.int i t from D);cases q;exact Qcy PySem.W.kitx_int I.kIn True.intro e (fun z=>nomatch z) h
 | str y=>obtain ⟨t,q⟩:=(show ∃t,u=Value.str y t from D);cases q;exact Qcy PySem.W.kitx_str I.kIn True.intro e (fun z=>nomatch z) h
 | flt y=>obtain ⟨t,q⟩:=(show ∃t,u=Value.float y t from D);cases q;exact Qcy PySem.W.kitx_float I.kIn True.intro e (fun z=>nomatch z) h
 | @lst a xs G =>
  cases (show u=Value.ref a from D);obtain ⟨_,_,n,_,h1⟩:=(show Yn X.prog X.w H s.heap a (.lst xs) from I.hok a _ G);exact Qcy PySem.W.kitx_list I.kIn ⟨_,h1,rfl⟩ e (fun z=>nomatch z) h
 | @frz a ob xs G =>
  cases (show u=Value.ref a from D);obtain ⟨_,_,_,n,_,h1⟩:=(show Yn X.prog X.w H s.heap a (.frz ob (.lst xs)) from I.hok a _ G);exact Qcy PySem.W.kitx_list I.kIn ⟨_,h1,rfl⟩ e (fun z=>nomatch z) h
 | @tup a xs G =>
  cases (show u=Value.ref a from D);obtain ⟨_,_,_,p⟩:=(show Yn X.prog X.w H s.heap a (.tup xs) from I.hok a _ G);obtain ⟨o,h1,h2,_⟩:=p;exact Qcy PySem.W.kitx_tuple I.kIn ⟨o,h1,h2⟩ e (fun z=>nomatch z) h
 | @dK a kvs G =>
  cases (show u=Value.ref a from D);obtain ⟨_,_,vs,_,p⟩:=(show Yn X.prog X.w H s.heap a (.dK kvs) from I.hok a _ G);obtain ⟨o,es,ep,h1,h2,_⟩:=p;exact Qcy PySem.W.kitx_dict I.kIn ⟨o,h1,h2.1⟩ e (fun z=>nomatch z) h
 | @dT a kvs G =>
  cases (show u=Value.ref a from D);obtain ⟨_,_,xs,_,o,es,ep,h1,h2,_⟩:=(show Yn X.prog X.w H s.heap a (.dT kvs) from I.hok a _ G);exact Qcy PySem.W.kitx_dict I.kIn ⟨o,h1,h2.1⟩ e (fun z=>nomatch z) h
 | @ins a C dx fs G cl ha hn L hm =>
  cases (show u=Value.ref a from D);obtain ⟨mA,O,_⟩:=Zfq I.hok G;obtain ⟨od,J,_⟩:=O.look;exact Qcy (PySem.W.kitx_own (cl.get _) cl.hd ha hn L hm) I.kIn J e (fun z=>nomatch z) h
end
structure W8(k:Nat)(A:Ar):Prop where
 hd:A.handled=none
 dp:A.depth + 3 * k + 5 < recursionLimit
 un:A.units + 16 * k + 200 < cLine
theorem W8.mono{j k:Nat}{A:Ar}(r:W8 k A)(h:j<=k):W8 j A:=⟨r.hd,by have:=r.dp;lia,by have:=r.un;lia⟩
theorem W8.deeper{k:Nat}{A:Ar}(r:W8 (k + 1) A)(env:Env):W8 k (A.deeper env) :=
 ⟨r.hd,by have:=r.dp;show A.depth + 1 + 3 * k + 5 < _;lia,by have:=r.un;show A.units + 3 + 16 * k + 200 < _;lia⟩
theorem W8.depth{k:Nat}{A:Ar}(r:W8 k A):A.depth < recursionLimit:=by have:=r.dp;lia
theorem W8.units{k:Nat}{A:Ar}(r:W8 k A):A.units + 64 < cLine:=by have:=r.un;lia
theorem W8.units0{k:Nat}{A:Ar}(r:W8 k A):A.units < cLine:=by have:=r.un;lia
def Zfr:TA:=fun _ H Q=>Q [] H
def J3(ta:TE)(q:TA):TA:=fun σ H Q=>ta σ H fun x H1=>q σ H1 fun xs H2=>Q (x::xs) H2
section
variable {X:Cx}{e:Ax}{es:An}{te:TE}{t:TA}{pos:Pos}
theorem pa_nil:PA X [] Zfr:=fun _ _ _ _ H Q I h=>Qd0 ⟨[],H,I,.nil,h⟩
theorem Zfs(ha:PE X e te)(hr:PA X es t)(hs:starEach (e::es) X.env=(false,eval e X.env)::starEach es X.env:=by rfl):PA X (e::es) (J3 te t):=by
 intro pos pins s σ H Q I h;rw [hs];refine Qco (thn (ha pins s σ H _ I h) fun u q ⟨x,H1,C,L,D⟩=>?_);exact thn (hr pos pins q σ H1 _ C D) fun O N ⟨xs,H2,M,G,J⟩=>⟨x::xs,H2,M,.cons L G,J⟩
def tTup(t:TA):TE:=fun σ H Q=>t σ H fun xs H1=>xs.length<=sizeLine/\∀p,H1 p=none->Q (.ref p) (upd H1 p (.tup xs))
def tLst(t:TA):TE:=fun σ H Q=>t σ H fun xs H1=>xs.length<=sizeLine/\∀p,H1 p=none->Q (.ref p) (upd H1 p (.lst xs))
theorem pe_tup{J:_}(h:PA X es t):PE X (.Tuple es J pos) (tTup t):=by
 intro pins s σ H Q I G;refine wpAny_Tuple_spliced (thn (h pos pins s σ H _ I G) fun L C ⟨xs,H1,D,r,z,q⟩=>⟨by rw [<-r.length];exact z,?_⟩);have hf:H1 C.heap.objs.size=none:=D.hok.fresh (Qag _);refine ⟨.ref C.heap.objs.size,upd H1 C.heap.objs.size (.tup xs),D.laid (t':=C.toks) (fun b u e=>Qab _ e) (Qag _) ?_,rfl,q _ hf⟩;exact ⟨z,L,r,y8.new _ _⟩
theorem pe_lst(h:PA X es t):PE X (.List es pos) (tLst t):=by
 intro pins s σ H Q I G;refine wpAny_List_spliced (thn (h pos pins s σ H _ I G) fun J C ⟨xs,H1,D,r,z,q⟩=>⟨by rw [<-r.length];exact z,?_⟩);have hf:H1 C.heap.objs.size=none:=D.hok.fresh (Qag _);refine ⟨.ref C.heap.objs.size,upd H1 C.heap.objs.size (.lst xs),D.laid (t':=C.toks) (fun b u e=>Qab _ e) (Qag _) ?_,rfl,q _ hf⟩;exact ⟨z,J,0,r,Qak _ rfl⟩
end
abbrev Sp:=A2->Hp->VK->XK->Prop
abbrev CXT:=List Env->Hp->Shared->XK->Value->Shared->Prop
structure Zft(P:Aq)(w:Au)(K:Af)(mg:Ae)(base:Heap)(A:Ar)(outer:List Env)(s:As)(H:Hp):Prop where
 frames:A.frames=some outer
 mod:Mod K mg base
 bs:∀b o,base.get? b=some o->s.heap.get? b=some o/\H b=none
 bsz:base.objs.size<=s.heap.objs.size
 funs:s.heap.FunFrames base outer
 frf:∀b∈frs outer,H b=none
 hok:HOk P w H s.heap
 bare:AllBare s.gens
def CE(outer:List Env)(P:Aq)(w:Au)(H:Hp)(s:As)(Q:VK)(u:Av)(s':As):Prop :=
 ∃v H',s'.os=s.os/\AllBare s'.gens/\Un (frs outer) [] H H' s.heap s'.heap/\HOk P w H' s'.heap/\RelV v u/\Q v H'
def CR(CX:CXT)(outer:List Env)(P:Aq)(w:Au)(H:Hp)(s:As)(Q:VK)(E:XK)(r:Result)(s':As):Prop :=
 match r with
 | .ok (.ret u)=>CE outer P w H s Q u s'
 | .ok _=>False
 | .error e=>CX outer H s E e s'
structure Y9(P:Aq)(w:Au)(K:Af)(mg:Ae)(base:Heap)(CX:CXT)(k:Nat)(f:Aw)(fd:Ao)(ps:Ai)(sp:Sp):Prop where
 len:∀vs H Q E,sp vs H Q E->vs.length=ps.length
 run:∀(A:Ar) (outer:List Env) (s:As) (H:Hp) (args:Args) (us:Ag) (vs:A2) (Q:VK) (E:XK),W8 k A->Zft P w K mg base A outer s H->BindsTo s fd args (ps.zip us)->Vals vs us->sp vs H Q E ->
  codeAny (model P w) A (.call (.ref f) args) (CR CX outer P w H s Q E) s
section
variable {X:Cx}{pins:Ac}{σ:St}{H:Hp}{s s':As}
theorem Inv.env0(I:Inv X pins σ H s):Zft X.prog X.w X.K X.mg X.base X.A X.stack s H :=
 ⟨I.ok.frames,I.ok.mod,I.bs,Qaz I.ok.bsz I.sz,I.stack,I.stkFree,I.hok,I.bare⟩
theorem Inv.after{Q:VK}(I:Inv X pins σ H s)(h:CE X.stack X.prog X.w H s Q u s'):EP X pins σ Q u s':=by
 obtain ⟨v,H',os,C,un,G,r,q⟩:=h;obtain ⟨hh,g,d,t,D⟩:=s';obtain rfl:D=s.os:=os;exact ⟨v,H',I.call (h':=hh) (g':=g) (d':=d) (t':=t) (ch:=[]) un G C (fun b z=>absurd z (by simp)),r,q⟩
end
def Zfu(sp:Sp)(dvs:A2)(E:XK)(t:TA):TE:=fun σ H Q=>t σ H fun vs H1=>sp (vs++dvs) H1 Q E
def Binds(K:Af)(fd:Ao)(ps:Ai)(ds:Ag):Prop :=
 ∀(s:As) (q:Ag),K.In s.heap->(q++ds).length=ps.length->BindsTo s fd ⟨q,[]⟩ (ps.zip (q++ds))
theorem Binds.all{fd:Ao}{ps:Ai}(h:∀q:Ag,q.length=ps.length->bindArgs fd ⟨q,[]⟩=pure (ps.zip q)):Binds K fd ps []:=fun s q _ hl=>by
 rw [Qb4] at hl ⊢;exact .of_eq (h q hl)
def Passes(CX:CXT)(X:Cx)(E:XK):Prop:=∀(pins:Ac) (σ:St) (H:Hp) (s:As) (e:Av) (s':As),Inv X pins σ H s->CX X.stack H s E e s'->X.xe e s'
section
variable {X:Cx}{CX:CXT}{k:Nat}{f C:Aw}{fd:Ao}{ps:Ai}{sp:Sp}{dvs:A2}{ds:Ag}{E:XK}{x m:Str}{p pos apos:Pos}{e o:Ax}{es:An}{ta:TE}{t:TA}
theorem run_fn{pins:Ac}{σ:St}{H:Hp}{Q:VK}{vs:A2}(F:Y9 X.prog X.w X.K X.mg X.base CX k f fd ps sp)(hr:W8 k X.A)(hb:Binds X.K fd ps ds)(hd:Vals dvs ds)(hx:Passes CX X E)
  (I:Inv X pins σ H s) (r:Vals vs U) (h:sp (vs++dvs) H Q E):wpAny (model X.prog X.w) X.A (call (.ref f) U) (EP X pins σ Q) X.xe s:=by
 have C:Vals (vs++dvs) (U++ds):=r.append hd;have hl:(U++ds).length=ps.length:=by rw [<-C.length];exact F.len _ _ _ _ h
 refine Qhm (Qet (F.run X.A X.stack s H ⟨U,[]⟩ (U++ds) (vs++dvs) Q E hr I.env0 (hb s U I.kIn hl) C h) fun r s' q=>?_);cases r with
 | error e=>exact hx pins σ H s e s' I q
 | ok D =>
  cases D with
  | ret u=>exact I.after q
  | next=>exact False.elim q
  | brk=>exact False.elim q
  | cont=>exact False.elim q
theorem Zfv(F:Y9 X.prog X.w X.K X.mg X.base CX k f fd ps sp)(hr:W8 k X.A)(hg:Gl X x)(hm:X.mg x=some (.ref f))(hk:PySem.W.keepIn X.K (.ref f)=true)(hb:Binds X.K fd ps ds)(hd:Vals dvs ds)(hx:Passes CX X E)
  (ha:PA X (e::es) t) (hdb:(x == ("__debug__" : Str))=false:=by decide) (he:starEach (e::es) X.env=(false,eval e X.env)::starEach es X.env:=by rfl) (C:(backTo pos (starEach es X.env)).any (·.1)=false:=by rfl) :
  PE X (.Call (.Name x p) (e::es) [] pos) (Zfu sp dvs E t):=by
 intro pins s σ H Q I h;refine Qda (xZ I hg hm ?_ hdb);refine Qgo (h₀:=X.base) I.ok.mod.kin hk (thn (ha pos pins s σ H _ I h) fun J G ⟨vs,H1,D,r,q⟩=>⟨D.kIn,?_⟩) he C;exact run_fn F hr hb hd hx D r q
end
section
variable {X:Cx}{CX:CXT}{k:Nat}{f C:Aw}{fd:Ao}{ps ks:Ai}{sp:Sp}{E:XK}{x m:Str}{p pos apos kpos:Pos}{e o:Ax}{es:An}{kws:List Keyword}{te ta:TE}{t tk:TA}{nm:Option Str}
variable {g:Ag->List Av->List Av}{gV:A2->List V->List V}
end
structure Zu(N P:Ai)(sc:Scope):Prop where
 kind:sc.kind=.function:=by rfl
 co:sc.isCoroutine=false:=by rfl
 gen:sc.isGenerator=false:=by rfl
 nd:N.Nodup:=by decide +kernel
 pre:N.take P.length=P:=by rfl
 par:∀x∈P,sc.names.lookup x=some .local\/sc.names.lookup x=some .cell:=by decide +kernel
 nofree:∀y∈sc.names,y.2≠.free:=by decide +kernel
theorem jk{kindOf:Str->Option NameKind}{x:Str}:∀{binds:List (Str × Av)} {m:Ae},(∀v,(x,v)∉binds)->bindL kindOf binds m x=m x
 | [],_,_=>rfl
 | (n,v)::r,m,h=>by
  unfold bindL;rw [jk fun w hw=>h w (Qal _ hw)]
  split
  ·grind
  ·rfl
theorem jl{kindOf:Str->Option NameKind}{x:Str}:∀{binds:List (Str × Av)} {m:Ae},(∀v,(x,v)∉binds)->bindC kindOf binds m x=m x
 | [],_,_=>rfl
 | (n,v)::r,m,h=>by
  unfold bindC;rw [jl fun w hw=>h w (Qal _ hw)]
  split
  ·rfl
  ·grind
theorem jm{kindOf:Str->Option NameKind}{x:Str}{v:Av}:∀{P:Ai} {vs:Ag} {i:Nat} {m:Ae},P.Nodup->P[i]?=some x->vs[i]?=some v->kindOf x=some .local ->
  bindL kindOf (P.zip vs) m x=some v
 | [],_,_,_,_,h,_,_=>by simp at h
 | _::_,[],_,_,_,_,h,_=>by simp at h
 | p::P,w::vs,0,m,q,h1,h2,hk=>by
  simp at h1 h2;subst h1;subst h2;show bindL kindOf ((p,w)::P.zip vs) m p=_;unfold bindL;rw [jk fun v hv=>(Qbr.mp q).1 (Qed hv).1,Qa0 hk];simp
 | p::P,w::vs,i + 1,m,q,h1,h2,hk=>by
  unfold bindL;exact jm (i:=i) (Qbr.mp q).2 (by simpa using h1) (by simpa using h2) hk
theorem jn{kindOf:Str->Option NameKind}{x:Str}{v:Av}:∀{P:Ai} {vs:Ag} {i:Nat} {m:Ae},P.Nodup->P[i]?=some x->vs[i]?=some v->kindOf x≠some .local ->
  bindC kindOf (P.zip vs) m x=some v
 | [],_,_,_,_,h,_,_=>by simp at h
 | _::_,[],_,_,_,_,h,_=>by simp at h
 | p::P,w::vs,0,m,q,h1,h2,hk=>by
  simp at h1 h2;subst h1;subst h2;show bindC kindOf ((p,w)::P.zip vs) m p=_;unfold bindC;rw [jl fun v hv=>(Qbr.mp q).1 (Qed hv).1,Qaw hk];simp
 | p::P,w::vs,i + 1,m,q,h1,h2,hk=>by
  unfold bindC;exact jn (i:=i) (Qbr.mp q).2 (by simpa using h1) (by simpa using h2) hk
def start(N:Ai)(vs:A2):St:=vs.map some++List.replicate (N.length - vs.length) none
def Zca(CX:CXT)(P:Aq)(w:Au)(K:Af)(mg:Ae)(base:Heap)(N:Ai)(qual:Str)(scope:Scope)(f:Aw)(C:Av)(A:Ar)(outer:List Env)(s:As)(H:Hp)(E:XK):Cx where
 prog:=P
 w:=w
 K:=K
 mg:=mg
 base:=base
 A:=A.deeper (envOfC qual scope s.heap.objs.size f C)
 N:=N
 s₀:=s
 H₀:=H
 env:=envOfC qual scope s.heap.objs.size f C
 outer:=outer
 stack:=envOfC qual scope s.heap.objs.size f C::outer
 ex:=[]
 calm:=true
 fn:=fun _=>true
 pn:=[]
 xe:=fun e s'=>wpAny (model P w) (A.deeper (envOfC qual scope s.heap.objs.size f C)) (leaving (envOfC qual scope s.heap.objs.size f C) e) (fun _ q=>CX outer H s E e q) (fun D q=>CX outer H s E D q) s'
theorem Gz{C:Scope}(h:C.names.lookup x=some .cell):∃c,(cellsFrom n C.names []).lookup x=some c:=by
 have q:=PySem.W.cellsFrom_some C.names n [] (.inl h);exact Option.isSome_iff_exists.mp q
theorem gS{CX:CXT}{mg:Ae}{base:Heap}{ps:Ai}{qual:Str}{scope:Scope}{J:Av}{A:Ar}{outer:List Env}{L:As}{H:Hp}{E:XK}{vs:A2}
  (S:Zu N ps scope) (hd:A.handled=none) (C:Zft P w K mg base A outer s H) (hl:vs.length=ps.length) (r:Vals vs U)
  (x:InCallC s s.heap.objs.size (bindL (envOfC qual scope s.heap.objs.size f J).kindOf (ps.zip U) fun _=>none) (cellsFrom (s.heap.objs.size + 1) scope.names []) (bindC (envOfC qual scope s.heap.objs.size f J).kindOf (ps.zip U) fun _=>none) L) :
  Inv (Zca CX P w K mg base N qual scope f J A outer s H E) [] (start N vs) H L:=by
 have Y:ps.length<=N.length:=by have:=congrArg List.length S.pre;rw [Qby] at this;lia
 obtain ⟨h1,tk,rfl,hk⟩:=x.done;have D:∀b:Aw,b∉(Zca CX P w K mg base N qual scope f J A outer s H E).ex:=fun b z=>absurd (show b∈([]:List Aw) from z) (by simp);refine ⟨⟨C.mod,S.kind,rfl,rfl,Qag _,fun y z c h1 h2=>?_,fun y G=>?_,fun y c _ h=>?_,fun _=>hd,Qf6 C.frames,.inr ⟨rfl,rfl⟩,fun b z=>absurd z (D b),C.bs,C.bsz,fun b _ _=>D b,fun b z=>absurd z (D b),C.funs,C.frf⟩,
  rfl,C.bare,Un.kept hk,⟨_,x.toInCall.ns,fun i y v h1 h2 Z=>?_⟩,fun y c h=>⟨_,x.cell y c h⟩,C.hok.fresh (Qag _),fun y c h=>?_,fun p hp=>absurd (show p∈([]:Ac) from hp) (by simp),C.hok.kept hk,?_⟩
 ·exact name_of_addr x.apart (Qcc h1) (Qcc h2)
 ·rcases G with G | G
  ·exact Gz G
  ·exact absurd rfl (S.nofree _ (Qcc G))
 ·exact Qa9 (x.above y c (Qcc h))
 ·have hi:i < vs.length:=by
   unfold start at h2
   by_cases hi:i < vs.length
   ·exact hi
   ·grind
  have ha:vs[i]?=some v:=by
   unfold start at h2;rw [Qbg (by simpa using hi),Qai] at h2;cases e:vs[i]? with
   | none=>rw [e] at h2;cases h2
   | some a=>rw [e] at h2;cases h2;rfl
  obtain ⟨u,M,O⟩:=r.get ha;have hp:ps[i]?=some y:=by
   rw [<-S.pre,List.getElem?_take_of_lt (by lia)];exact h1
  have I:ps.Nodup:=by rw [<-S.pre];exact S.nd.sublist (List.take_sublist _ _)
  refine ⟨u,O,?_⟩;rcases S.par y (Qas hp) with k | k
  ·exact .inl ⟨k,jm I hp M k⟩
  ·obtain ⟨c,e⟩:=Gz (n:=s.heap.objs.size + 1) k
   refine .inr ⟨.inl k,c,e,?_⟩;have q:=x.cell y c e;rw [jn I hp M (by show scope.names.lookup y≠_;rw [k];decide)] at q;exact q
 ·exact C.hok.fresh (Qa9 (x.above y c (Qcc h)))
 ·unfold start
  show _=N.length;rw [Qap,Qac,Qa1];lia
theorem Ziw{CX:CXT}{mg:Ae}{base:Heap}{k:Nat}{name qual:Str}{params:Arguments}{body:List Ay}{scope:Scope}{dV kV M pm C ct oc:Av}{an od:Option Aw}
  {osl:Array (Option Av)} {ps:Ai} {sp:Sp} (lk:K.lookup f=some ⟨oc,od,.func (PySem.W.fnOf name qual params body scope dV kV M pm an C ct),osl⟩) (hcd:PySem.W.codeIn K C qual=true) (S:Zu N ps scope)
  (len:∀vs H Q E,sp vs H Q E->vs.length=ps.length)
  (G:∀(A:Ar) (outer:List Env) (s:As) (H:Hp) (vs:A2) (Q:VK) (E:XK),W8 k (A.deeper (envOfC qual scope s.heap.objs.size f C))->sp vs H Q E ->
   ∃t,PSs (Zca CX P w K mg base N qual scope f C A outer s H E) body t/\t { nx:=fun _ H'=>Q .non H',rt:=Q } (start N vs) H) :
  Y9 P w K mg base CX (k + 1) f (PySem.W.fnOf name qual params body scope dV kV M pm an C ct) ps sp:=by
 refine ⟨len,fun A outer s H args us vs Q E hr O hb r Y=>?_⟩;have hl:=len _ _ _ _ Y;have KX:K.In s.heap:=O.mod.kin.keeps fun b o e=>(O.bs b o e).1;have lim:s.heap.NoLimit:=O.mod.nolimit.keeps fun b o e=>(O.bs b o e).1;have L:∀y∈ps.zip us,scope.names.lookup y.1=some .local\/(scope.names.lookup y.1=some .cell/\((cellsFrom (s.heap.objs.size + 1) scope.names []).lookup y.1).isSome=true):=fun ⟨n,v⟩ hy=>by
  rcases S.par n (Qed hy).1 with q | q
  ·exact .inl q
  ·exact .inr ⟨q,PySem.W.cellsFrom_some _ _ _ (.inl q)⟩
 refine codeAny_call_function hr.depth (KX _ _ lk) rfl S.co S.gen rfl (PySem.W.codeRec_of KX hcd) (hb _ _ _ _ ?_);refine wpAny_newFunctionEnv_cells S.kind L fun env he s1 x=>?_;subst he;refine ⟨lim.keeps x.toInCall.keep,codeAny_func ?_⟩;obtain ⟨t,ht,hq⟩:=G A outer s H vs Q E (hr.deeper _) Y;have I:Inv (Zca CX P w K mg base N qual scope f C A outer s H E) [] (start N vs) H s1:=gS S hr.hd O hl r x;refine Qdj (ht [] s1 (start N vs) H _ I hq) (fun fl s' hs=>?_) fun e s' hs=>hs;have fin:∀{D:St} {H':Hp} {v:V} {u:Av},Inv (Zca CX P w K mg base N qual scope f C A outer s H E) [] D H' s'->RelV v u->Q v H'->CE outer P w H s Q u s' :=
  fun {D H' v u} J Z q=>⟨v,H',J.os,J.bare,J.base,J.hok,Z,q⟩
 cases fl with
 | ret u =>
  obtain ⟨v,D,H',J,Z,q⟩:=hs;exact fin J Z q
 | next =>
  obtain ⟨D,H',J,q⟩:=hs;exact fin (v:=V.non) (u:=Value.none) J rfl q
 | brk =>
  obtain ⟨_,_,_,q⟩:=hs;exact False.elim q
 | cont =>
  obtain ⟨_,_,_,q⟩:=hs;exact False.elim q
section
variable {X:Cx}{x:Str}{p pos:Pos}{e:Ax}{es:An}{t:TA}{id T:String}{r:A2->Hp->VK->Prop}
def tCB(r:A2->Hp->VK->Prop)(t:TA):TE:=fun σ H Q=>t σ H fun vs H1=>r vs H1 Q
theorem Zcb (hc:YM X (.builtin id) r) (hg:Gl X x) (hm:X.mg x=none) (hv:bootBuiltins x=some (.builtin id)) (ha:PA X (e::es) t) (hn:x ≠ "__name__" := by decide) (hdb:(x == ("__debug__" : Str))=false:=by decide)
  (he:starEach (e::es) X.env=(false,eval e X.env)::starEach es X.env:=by rfl) (q:(backTo pos (starEach es X.env)).any (·.1)=false:=by rfl):PE X (.Call (.Name x p) (e::es) [] pos) (tCB r t):=by
 intro pins s σ H Q I h;refine Qda (WE I hg hm hv ?_ hn hdb);exact PyProof.Rows.callWith_builtin1 (thn (ha pos pins s σ H _ I h) fun L C ⟨vs,H1,D,J,G⟩=>hc pins C σ H1 vs L Q D J G) he q
theorem gT (hc:YM X (.type T) r) (hg:Gl X x) (hm:X.mg x=none) (hv:bootBuiltins x=some (.type T)) (ha:PA X (e::es) t) (hn:x ≠ "__name__" := by decide) (hdb:(x == ("__debug__" : Str))=false:=by decide)
  (he:starEach (e::es) X.env=(false,eval e X.env)::starEach es X.env:=by rfl) (q:(backTo pos (starEach es X.env)).any (·.1)=false:=by rfl):PE X (.Call (.Name x p) (e::es) [] pos) (tCB r t):=by
 intro pins s σ H Q I h;refine Qda (WE I hg hm hv ?_ hn hdb);exact Qcf (thn (ha pos pins s σ H _ I h) fun L C ⟨vs,H1,D,J,G⟩=>hc pins C σ H1 vs L Q D J G) he q
end
end L2
variable {H A:L2.Hp}
variable {b:L2.Cx}
variable {r:List L2.V}
variable {c I:L2.TE}
variable {d:L2.St}
variable {y:L2.V}
variable {q:L2.TS}
variable {G:L2.TT}
variable {O:List (List L2.V)}
variable {M:L2.Ends}
variable {S:L2.VK}
variable {Y:L2.HO}
namespace HT
open PySem PyProof.Rows
section
open PySem.SeqAt
open PySem.AutoSeq1 (wpAny_loadPart')
open PySem.MeetsSeq PySem.MeetsSeq2 PySem.MeetsSeq3
end
section
variable {prog:Aq}{w:Au}{A:Ar}{E:Ab}{s:As}
theorem cat_tup{t b:Aw}{vs:Ag}(N:IsTup s.heap t vs.toArray)(hb:IsTup s.heap b U.toArray)(hv:vs≠[])
  (h1:U=[]->Q (.ref t) s) (h2:U≠[]->Q (.ref s.heap.objs.size) { s with heap:=s.heap.push { cls:=.type "tuple",data:=.seq (vs++U).toArray } })
  (hsz:vs.length + U.length<=sizeLine):wpAny (model prog w) A (binaryOp .Add (.ref t) (.ref b)) Q E s:=by
 obtain ⟨⟨cls,dd,data,L⟩,ho,hc,n,hd⟩:=id N;obtain ⟨⟨M,D,data2,C⟩,q,I,J,G⟩:=id hb;subst hc hd I G;have e:vs.toArray++U.toArray=(vs++U).toArray:=by simp
 by_cases hw:U=[]
 ·exact concat_meets ⟨_,ho,rfl⟩ ⟨_,q,rfl⟩ Qg9 seq_tuple_add Qfu Qfm (Qfe _ _)
   (tuple_addW1 t b vs.toArray U.toArray n J dd D L C (by simpa using hv) (by simp [hw])) ⟨ho,q,h1 hw⟩
 ·refine concat_meets ⟨_,ho,rfl⟩ ⟨_,q,rfl⟩ Qg9 seq_tuple_add Qfu Qfm (Qfe _ _)
   (tuple_addW2 t b vs.toArray U.toArray n J dd D L C (by simpa using hv) (by simpa using hw) (by grind)) ⟨ho,q,?_⟩
  rw [e];exact h2 hw
end
end HT
namespace L2
open PySem PySem.Spec PyProof.Rows
abbrev TO:=St->Hp->(Option Int->Hp->Prop)->Prop
theorem intsAre_of:∀{q:Ag},Vals (E.map V.int) q->IntsAre q E:=by
 induction E with
 | nil=>intro q r;cases r;exact .nil
 | cons n E G =>
  intro q r;cases r with
  | cons D C =>
   obtain ⟨t,e⟩:=D;subst e;exact .cons n t (G C)
section
variable {X:Cx}{e:Ax}{te:TE}{lo hi:Option Ax}{tl th:TO}{pos p2:Pos}
theorem Vals.nil_iff{xs:A2}(r:Vals xs U):U=[]↔xs=[]:=by
 cases r with
 | nil=>simp
 | cons _ _=>simp
end
end L2
namespace L2
open PySem PySem.Spec PyProof.Rows
def ixN(n:Nat)(i:Int):Option Nat:=if 0<=i then (if i < n then some i.toNat else none) else if -(n:Int)<=i then some (i + n).toNat else none
def atI(xs:List g)(i:Int):Option g:=(ixN xs.length i).bind fun j=>xs[j]?
theorem gU{i:Int}{j:Nat}(h:ixN n i=some j):seqIndex? i n=some j/\j < n/\-(n:Int)<=i/\i < n:=by
 unfold ixN at h
 by_cases q:0<=i
 ·rw [Qa0 q] at h
  by_cases h1:i < n
  ·rw [Qa0 h1] at h
   have e:i.toNat=j:=Option.some.inj h;exact ⟨by rw [Qhp q h1,e],by lia,by lia,h1⟩
  ·rw [Qaw h1] at h;cases h
 ·rw [Qaw q] at h
  by_cases h1:-(n:Int)<=i
  ·rw [Qa0 h1] at h
   have e:(i + n).toNat=j:=Option.some.inj h;exact ⟨by rw [seqIndex_neg (by lia) h1,e],by lia,h1,by lia⟩
  ·rw [Qaw h1] at h;cases h
theorem y9{xs:List g}{i:Int}{v:g}(h:atI xs i=some v):∃j,seqIndex? i xs.length=some j/\xs[j]?=some v/\j < xs.length/\-(xs.length:Int)<=i/\i < xs.length:=by
 unfold atI at h;cases e:ixN xs.length i with
 | none=>rw [e] at h;cases h
 | some j =>
  rw [e] at h;obtain ⟨h1,h2,C,q⟩:=gU e;exact ⟨j,h1,h,h2,C,q⟩
theorem Xj{xs:List g}{j:Nat}{v:g}(h:xs[j]?=some v):atI xs (j:Int)=some v:=by
 have q:j < xs.length:=(Qaf.mp h).1;have e:ixN xs.length (j:Int)=some j:=by
  unfold ixN;rw [Qa0 (by lia),Qa0 (by lia)];simp
 unfold atI;rw [e];exact h
theorem Zcc(xs:List g)(v:g):atI (xs++[v]) (-1)=some v:=by
 have hl:(xs++[v]).length=xs.length + 1:=by simp
 have e:ixN (xs++[v]).length (-1)=some xs.length:=by
  unfold ixN;rw [hl,Qaw (by decide),Qa0 (by lia)];congr 1;lia
 unfold atI;rw [e];simp
def gW(b:Ax):Prop:=∀o i,subscripted b false o i=operate [o,i] (getItem o i)
def IxR(X:Cx)(r:R2):Prop :=
 ∀(value q:Ax) (pins:Ac) (s:As) (σ:St) (H:Hp) (x y:V) (v u:Av) (Q:VK),Inv X pins σ H s->RelV x v->RelV y u->r x y H Q ->
  subscripted q false v u=operate [v,u] (getItem v u)->wpAny (model X.prog X.w) X.A (subscriptTail value q v u) (EP X pins σ Q) X.xe s
def MtR(X:Cx)(id:String)(r:V->List V->Hp->VK->Prop):Prop :=
 ∀(pins:Ac) (s:As) (σ:St) (H:Hp) (x:V) (xs:A2) (v:Av) (q:Ag) (Q:VK),Inv X pins σ H s->RelV x v->Vals xs q->r x xs H Q ->
  wpAny (model X.prog X.w) X.A (call (.builtin id) (v::q)) (EP X pins σ Q) X.xe s
section
variable {X:Cx}{a b:Ax}{ta tb:TE}{pos:Pos}
theorem pe_ix{r:R2}(hr:IxR X r)(ha:PE X a ta)(hb:PE X b tb)(hs:gW b):PE X (.Subscript a b pos) (tOp r ta tb):=by
 intro pins s σ H Q I h;exact Subscript_ (binT ha hb I h fun v u D x y H2 J C G q=>hr a b pins D σ H2 x y v u Q J C G q (hs _ _))
def Zjv(K:Af):R2:=fun x y H Q=>∃p xs i v,x=.ref p/\y=.int i/\SqL K H p xs/\atI xs i=some v/\Q v H
def wg(K:Af):R2:=fun x y H Q=>∃p xs i v,x=.ref p/\y=.int i/\SqT K H p xs/\atI xs i=some v/\Q v H
def rIxS:R2:=fun x y H Q=>∃z i c,x=.str z/\y=.int i/\z.length<=sizeLine/\atI z.cps.toList i=some c/\Q (.str ⟨#[c]⟩) H
theorem Zw:IxR X (Zjv X.K):=by
 intro value G pins s σ H x y v u Q I N S h hs;obtain ⟨p,xs,i,z,rfl,rfl,O,he,q⟩:=h;cases N;obtain ⟨t,rfl⟩:=S;obtain ⟨J,r,pl,hz⟩:=I.list O;obtain ⟨j,h1,h2,h3,Y,Z⟩:=y9 he;obtain ⟨w,L,D⟩:=r.get h2;have hl:=r.length;have hn:=JS;have fin:EP X pins σ Q w s:=⟨z,H,I,D,q⟩
 by_cases M:0<=i
 ·have C:i.toNat=j:=by
   rw [Qhp M Z] at h1;exact Option.some.inj h1
  exact item_listR pl.isList M (by lia) (by rw [C];simpa using L) fin hs
 ·have C:(i + (J.toArray.size:Int)).toNat=j:=by
   rw [seqIndex_neg (by lia) Y] at h1;rw [Qa2,<-hl];exact Option.some.inj h1
  exact subscriptTail_builtinR (x:=w) pl.isList.typeIs slot_list_getitem.lookup
   (wpAny_getItem_list_neg (Q:=fun r s'=>r=w/\EP X pins σ Q r s') pl.isList (by lia) (by rw [Qa2] <;> lia) (by lia) (by rw [C];simpa using L) ⟨rfl,fin⟩) hs
theorem Yb:IxR X (wg X.K):=by
 intro value D pins s σ H x y v u Q I G L h hs;obtain ⟨p,xs,i,z,rfl,rfl,J,he,q⟩:=h;cases G;obtain ⟨t,rfl⟩:=L;obtain ⟨N,r,pl,Y⟩:=I.tuple J;obtain ⟨j,h1,h2,S,O,Z⟩:=y9 he;obtain ⟨w,M,C⟩:=r.get h2;have hl:=r.length;have hn:=JS;have fin:EP X pins σ Q w s:=⟨z,H,I,C,q⟩;exact subscriptTail_builtinR (x:=w) pl.typeIs slot_tuple_getitem.lookup
  (getItem_tuple (j:=j) (Q:=fun r s'=>r=w/\EP X pins σ Q r s') pl (by lia) (by lia) (by rw [Qa2,<-hl];exact h1) (by simpa using M) ⟨rfl,fin⟩) hs
theorem ix_str:IxR X rIxS:=by
 intro value C pins s σ H x y v u Q I D J h hs;obtain ⟨z,i,c,rfl,rfl,N,he,q⟩:=h;obtain ⟨t,rfl⟩:=D;obtain ⟨t',rfl⟩:=J;obtain ⟨j,h1,h2,M,G,L⟩:=y9 he;have hl:z.cps.toList.length=z.length:=by simp [Str.length]
 rw [hl] at h1 G L;have hn:=JS;exact tail_any (typeIs_str s z t) slot_str_getitem.lookup (getItem_str (c:=c) (by
  grind) (by rw [h1];simpa using h2) ⟨.str ⟨#[c]⟩,H,I.tok _,⟨_,rfl⟩,q⟩) hs
theorem wj (q:Ag) (n j:Nat) (u:Av):Obj.mapSeq (·.setIfInBounds j u) { cls:=.type "list",data:=.seq q.toArray n }={ cls:=.type "list",data:=.seq (q.set j u).toArray n }:=by
 simp [Obj.mapSeq]
theorem Inv.lst{pins:Ac}{σ:St}{H:Hp}{s:As}{p:Aw}{xs:A2}(I:Inv X pins σ H s)(h:H p=some (.lst xs)) :
  ∃(q:Ag) (n:Nat),Vals xs q/\s.heap.get? p=some { cls:=.type "list",data:=.seq q.toArray n }/\xs.length<=sizeLine:=by
 obtain ⟨z,q,n,r,e⟩:=I.hok p _ h;exact ⟨q,n,r,e,z⟩
theorem Inv.lstUpd{p:Aw}{xs ys:A2}{its':Ag}{f:Obj->Obj}(I:Inv X m d H s)(h:H p=some (.lst xs))
  (ho:s.heap.get? p=some { cls:=.type "list",data:=.seq U.toArray n }) (hf:f { cls:=.type "list",data:=.seq U.toArray n }={ cls:=.type "list",data:=.seq its'.toArray i }) (r:Vals ys its') (C:ys.length<=sizeLine) (t:Nat) :
  Inv X m d (upd H p (.lst ys)) { s with heap:=s.heap.update p f,toks:=t }:=by
 have e:(s.heap.update p f).get? p=some { cls:=.type "list",data:=.seq its'.toArray i }:=by
  rw [Qbj f ho (by rw [hf] <;> rfl),hf]
 refine I.write (x:=p) (e:=p) (by rw [h];trivial) (.inl rfl) (fun b u hb q=>(Qb0 _ _ (Qdo hb)).trans q) ⟨_,e⟩ ?_;exact ⟨C,its',i,r,e⟩
def rSetL:V->V->V->Hp->(Hp->Prop)->Prop:=fun o i v H Q=>∃p xs k j,o=.ref p/\i=.int k/\H p=some (.lst xs)/\ixN xs.length k=some j/\Q (upd H p (.lst (xs.set j v)))
theorem set_list:PSet X rSetL:=by
 intro pins s σ H o i v Z iv u Q I M Y N h;obtain ⟨p,xs,k,j,rfl,rfl,hp,S,q⟩:=h;cases M;obtain ⟨t,rfl⟩:=Y;obtain ⟨C,n,r,ho,O⟩:=I.lst hp;obtain ⟨h1,h2,G,J⟩:=gU S;have hl:=r.length;have hn:=JS;have D:Inv X pins σ (upd H p (.lst (xs.set j v))) { s with heap:=s.heap.update p (Obj.mapSeq (·.setIfInBounds j u)) } :=
  I.lstUpd hp ho (wj C n j u) (r.set N j) (by rw [List.length_set];exact O) s.toks
 by_cases L:0<=k
 ·have hk:k.toNat=j:=by
   rw [Qhp L J] at h1;exact Option.some.inj h1
  exact PySem.W.ki_setAt ho L (by lia) (by rw [Qa2,<-hl];exact J) (by rw [hk];exact ⟨_,D,q⟩)
 ·have hk:(k + (C.toArray.size:Int)).toNat=j:=by
   rw [seqIndex_neg (by lia) G] at h1;rw [Qa2,<-hl];exact Option.some.inj h1
  exact PySem.W.ki_setBack ho (by lia) (by rw [Qa2,<-hl];exact G) (by lia) (by rw [hk];exact ⟨_,D,q⟩)
def Xc:V->Bool
 | .non=>true
 | .bl _=>true
 | .int _=>true
 | .str _=>true
 | _=>false
def eqV:V->V->Bool
 | .non,.non=>true
 | .bl a,.bl b=>a == b
 | .bl a,.int b=>(if a then 1 else 0) == b
 | .int a,.bl b=>a == (if b then 1 else 0)
 | .int a,.int b=>a == b
 | .str a,.str b=>a == b
 | _,_=>false
theorem Zeg{A:Ar}{x:V}{v:Av}(C:RelV y u)(q:RelV x v)(D:Xc y=true)(fx:Xc x=true):SeqAt.EqAt A s u v (eqV y x):=by
 cases y with
 | non =>
  cases C;cases x with
  | non=>cases q;exact SeqAt.EqAt.same _
  | bl b=>cases q;exact SeqAt.EqAt.none_bool b
  | int b=>obtain ⟨t,rfl⟩:=q;exact SeqAt.EqAt.none_int b t
  | str b=>obtain ⟨t,rfl⟩:=q;exact SeqAt.EqAt.none_str b t
  | _=>exact absurd (show false=true from fx) Qa6
 | bl a =>
  cases C;cases x with
  | non=>cases q;exact SeqAt.EqAt.bool_none a
  | bl b=>cases q;exact SeqAt.EqAt.bool_bool a b
  | int b=>obtain ⟨t,rfl⟩:=q;exact SeqAt.EqAt.bool_int a b t
  | str b=>obtain ⟨t,rfl⟩:=q;exact SeqAt.EqAt.bool_str a b t
  | _=>exact absurd (show false=true from fx) Qa6
 | int a =>
  obtain ⟨t',rfl⟩:=C;cases x with
  | non=>cases q;exact SeqAt.EqAt.int_none a t'
  | bl b=>cases q;exact SeqAt.EqAt.int_bool a t' b
  | int b=>obtain ⟨t,rfl⟩:=q;exact SeqAt.EqAt.int_int a t' b t
  | str b=>obtain ⟨t,rfl⟩:=q;exact SeqAt.EqAt.int_str a t' b t
  | _=>exact absurd (show false=true from fx) Qa6
 | str a =>
  obtain ⟨t',rfl⟩:=C;cases x with
  | non=>cases q;exact SeqAt.EqAt.str_none a t'
  | bl b=>cases q;exact SeqAt.EqAt.str_bool a t' b
  | int b=>obtain ⟨t,rfl⟩:=q;exact SeqAt.EqAt.str_int a t' b t
  | str b=>obtain ⟨t,rfl⟩:=q;exact SeqAt.EqAt.str_str a t' b t
  | _=>exact absurd (show false=true from fx) Qa6
 | _=>exact absurd (show false=true from D) Qa6
def eqU(x:V)(u:Av):Bool:=match u with
 | .none=>eqV .non x
 | .bool b=>eqV (.bl b) x
 | .int i _=>eqV (.int i) x
 | .str z _=>eqV (.str z) x
 | _=>false
theorem vJ{x:V}(r:RelV y u)(f:Xc y=true):eqU x u=eqV y x:=by
 cases y with
 | non=>cases r;rfl
 | bl b=>cases r;rfl
 | int i=>obtain ⟨t,rfl⟩:=r;rfl
 | str z=>obtain ⟨t,rfl⟩:=r;rfl
 | _=>exact absurd (show false=true from f) Qa6
theorem GH{x:V}:∀{xs:A2} {q:Ag},Vals xs q->xs.all Xc=true->q.any (eqU x)=xs.any fun y=>eqV y x
 | _,_,.nil,_=>rfl
 | y::xs,u::q,.cons r t,f=>by
  rw [Qcr,Qbz] at f;rw [Qfn,Qfn,vJ r f.1,GH t f.2]
theorem XI{A:Ar}{s:As}{x:V}{v:Av}(D:RelV x v)(fx:Xc x=true):∀{xs:A2} {C:Ag},Vals xs C->xs.all Xc=true->∀u∈C,SeqAt.EqAt A s u v (eqU x u)
 | _,_,.nil,_=>fun u q=>by cases q
 | y::xs,u::C,.cons r t,f=>fun G q=>by
  rw [Qcr,Qbz] at f;rcases Qam.mp q with rfl | q
  ·rw [vJ r f.1];exact Zeg r D f.1 fx
  ·exact XI D fx t f.2 G q
def inV(x:V)(xs:A2):Bool:=xs.any fun y=>eqV y x
def rIn(K:Af)(neg:Bool):R2:=fun x y H Q=>∃p xs,y=.ref p/\(SqL K H p xs\/SqT K H p xs)/\Xc x=true/\xs.all Xc=true/\Q (.bl (if neg then !inV x xs else inV x xs)) H
theorem Yc:OpR X (compareOp .In) (rIn X.K false):=by
 intro pins s σ H x y v u Q I G J h;obtain ⟨p,xs,rfl,D,fx,fs,q⟩:=h;cases J;rcases D with D | D
 ·obtain ⟨C,r,pl,L⟩:=I.list D
  refine SeqAt.in_listAt (eqU x) pl.isList (fun w hw=>XI G fx r fs w (by simpa using hw)) ⟨.bl _,H,I,rfl,?_⟩;rw [show C.toArray.any (eqU x)=C.any (eqU x) by simp,GH r fs];exact q
 ·obtain ⟨C,r,pl,L⟩:=I.tuple D
  refine SeqAt.in_tupleAt (eqU x) pl (fun w hw=>XI G fx r fs w (by simpa using hw)) ⟨.bl _,H,I,rfl,?_⟩;rw [show C.toArray.any (eqU x)=C.any (eqU x) by simp,GH r fs];exact q
theorem jo:OpR X (compareOp .NotIn) (rIn X.K true):=by
 intro pins s σ H x y v u Q I G J h;obtain ⟨p,xs,rfl,D,fx,fs,q⟩:=h;cases J;rcases D with D | D
 ·obtain ⟨C,r,pl,L⟩:=I.list D
  refine SeqAt.notIn_listAt (eqU x) pl.isList (fun w hw=>XI G fx r fs w (by simpa using hw)) ⟨.bl _,H,I,rfl,?_⟩;rw [show C.toArray.any (eqU x)=C.any (eqU x) by simp,GH r fs];exact q
 ·obtain ⟨C,r,pl,L⟩:=I.tuple D
  refine SeqAt.notIn_tupleAt (eqU x) pl (fun w hw=>XI G fx r fs w (by simpa using hw)) ⟨.bl _,H,I,rfl,?_⟩;rw [show C.toArray.any (eqU x)=C.any (eqU x) by simp,GH r fs];exact q
theorem Z0:YM X (.builtin "len") (fun xs H Q=>∃p ys,xs=[.ref p]/\(SqL X.K H p ys\/SqT X.K H p ys)/\Q (.int ys.length) H):=by
 intro pins s σ H xs N Q I r h;obtain ⟨p,ys,rfl,D,q⟩:=h;obtain ⟨u,rfl,L⟩:=vals1 r;cases L;have hn:=JS;rcases D with D | D
 ·obtain ⟨G,J,pl,M⟩:=I.list D
  have C:=J.length;exact Calls.call_len_list pl.isList (by simp only [Qa2] <;> lia) ⟨.int ys.length,H,I.tok _,⟨s.toks + 1,by rw [Qa2,C]⟩,q⟩
 ·obtain ⟨G,J,pl,M⟩:=I.tuple D
  have C:=J.length;exact len_tuple pl (by simp only [Qa2] <;> lia) ⟨.int ys.length,H,I.tok _,⟨s.toks + 1,by rw [Qa2,C]⟩,q⟩
theorem jq:YM X (.builtin "len") (fun xs H Q=>∃z,xs=[.str z]/\z.length<=sizeLine/\Q (.int z.length) H):=by
 intro pins s σ H xs D Q I r h;obtain ⟨z,rfl,C,q⟩:=h;obtain ⟨u,rfl,t,rfl⟩:=vals1 r;have hn:=JS;exact len_str (by lia) ⟨.int z.length,H,I.tok _,⟨_,rfl⟩,q⟩
theorem jr:YM X (.type "list") (fun xs H Q=>∃p ys,xs=[.ref p]/\(SqL X.K H p ys\/SqT X.K H p ys)/\∀l,H l=none->Q (.ref l) (upd H l (.lst ys))):=by
 intro pins s σ H xs O Q I r h;obtain ⟨p,ys,rfl,J,q⟩:=h;obtain ⟨u,rfl,N⟩:=vals1 r;cases N;have fin:∀(C:Ag),Vals ys C->ys.length<=sizeLine->∀(h':Heap) (G:Nat),(∀b o',s.heap.get? b=some o'->h'.get? b=some o') ->
   h'.get? s.heap.objs.size=some { cls:=.type "list",dict:=none,data:=.seq C.toArray G,slots:=#[] }->EP X pins σ Q (.ref s.heap.objs.size) { s with heap:=h' }:=fun C D M h' G kp e =>
  ⟨.ref s.heap.objs.size,_,I.laid (t':=s.toks) kp (Qag _) (show Yn X.prog X.w _ h' _ (.lst ys) from ⟨M,C,G,D,e⟩),rfl,q _ (I.hok.fresh (Qag _))⟩
 rcases J with J | J
 ·obtain ⟨C,D,pl,M⟩:=I.list J
  have L:=D.length;obtain ⟨o,ho,hc,n,hd⟩:=pl.isList;exact call_list_seq p (.inl rfl) ho hc hd (fun h' G kp e=>fin C D M h' G kp e) (by simp only [Qa2] <;> lia)
 ·obtain ⟨C,D,pl,M⟩:=I.tuple J
  have L:=D.length;obtain ⟨o,ho,hc,n,hd⟩:=pl;exact call_list_seq p (.inr rfl) ho hc hd (fun h' G kp e=>fin C D M h' G kp e) (by simp only [Qa2] <;> lia)
theorem Z6:YM X (.type "tuple") (fun xs H Q=>∃p ys,xs=[.ref p]/\((SqL X.K H p ys/\∀l,H l=none->Q (.ref l) (upd H l (.tup ys)))\/(SqT X.K H p ys/\Q (.ref p) H))):=by
 intro pins s σ H xs S Q I r h;obtain ⟨p,ys,rfl,h⟩:=h;obtain ⟨u,rfl,N⟩:=vals1 r;cases N;rcases h with ⟨D,q⟩ | ⟨D,q⟩
 ·obtain ⟨C,G,pl,M⟩:=I.list D
  have J:=G.length;refine call_tuple_list pl.isList (fun h' kp=>?_) (by simp only [Qa2] <;> lia);have L:Inv X pins σ H { s with heap:=h' }:=I.kept (t':=s.toks) kp;have O:Inv X pins σ (upd H h'.objs.size (.tup ys)) { s with heap:=h'.push { cls:=.type "tuple",data:=.seq C.toArray } } :=
   L.laid (t':=s.toks) (fun b o e=>Qab _ e) (Qag _) (show Yn X.prog X.w _ _ _ (.tup ys) from ⟨M,C,G,y8.new _ _⟩)
  exact ⟨.ref h'.objs.size,_,O,rfl,q _ (L.hok.fresh (Qag _))⟩
 ·obtain ⟨C,G,pl,M⟩:=I.tuple D
  exact call_tuple_same pl ⟨.ref p,H,I,rfl,q⟩
def tyV(K:Af)(T:String)(x:V)(H:Hp):Prop:=match x with
 | .str _=>T = "str"
 | .int _=>T = "int"
 | .ref p=>(T = "list" /\ ∃xs,SqL K H p xs)\/(T = "tuple" /\ ∃o,K.lookup p=some o/\o.cls=.type "tuple" /\ o.dict=none) \/
   (T = "dict" /\ ((∃kvs,H p=some (.dK kvs))\/∃kvs,H p=some (.dT kvs)))\/(T = "set" /\ ∃S n,H p=some (.set S n))
 | _=>False
theorem Zeh{T:String}{x:V}{v:Av}(I:Inv X m d H s)(r:RelV x v)(ty:tyV X.K T x H) :
  s.TypeIs v T/\∀a,v=.ref a->∃ob,s.heap.get? a=some ob/\ob.dict=none:=by
 cases x with
 | str z =>
  obtain ⟨t,rfl⟩:=r;cases (show T = "str" from ty);exact ⟨typeIs_str s z t,fun _ e=>nomatch e⟩
 | int i =>
  obtain ⟨t,rfl⟩:=r;cases (show T = "int" from ty);exact ⟨typeIs_int s i t,fun _ e=>nomatch e⟩
 | ref p =>
  cases r;rcases ty with ⟨rfl,xs,q⟩ | ⟨rfl,o,hk,hc,hd⟩ | ⟨rfl,hk⟩ | ⟨rfl,S,n,hk⟩
  ·obtain ⟨C,_,pl,_⟩:=I.list q
   refine ⟨pl.isList.typeIs,fun a e=>?_⟩;cases e;obtain ⟨o,n,e,c,hd,_⟩:=pl;exact ⟨o,e,hd⟩
  ·refine ⟨⟨o,I.kIn p o hk,hc⟩,fun a e=>?_⟩
   cases e;exact ⟨o,I.kIn _ o hk,hd⟩
  ·have z:∃o,s.heap.get? p=some o/\o.ExactDict:=by
    rcases hk with ⟨kvs,hk⟩ | ⟨kvs,hk⟩
    ·obtain ⟨_,_,_,_,o,_,_,e,ex,_⟩:=I.hok p _ hk
     exact ⟨o,e,ex⟩
    ·obtain ⟨_,_,_,_,o,_,_,e,ex,_⟩:=I.hok p _ hk
     exact ⟨o,e,ex⟩
   obtain ⟨o,e,ex⟩:=z;refine ⟨⟨o,e,ex.1⟩,fun a e2=>?_⟩;cases e2;exact ⟨o,e,ex.2.1⟩
  ·obtain ⟨o,_,_,_,e,ex,_⟩:=I.hok p _ hk
   refine ⟨⟨o,e,ex.1⟩,fun a e2=>?_⟩;cases e2;exact ⟨o,e,ex.2.1⟩
 | _=>exact False.elim ty
def Zjw(K:Af)(T:String)(r:V->List V->Hp->VK->Prop)(to:TE):TE:=fun σ H Q=>to σ H fun x H1=>tyV K T x H1/\r x [] H1 Q
def tBM(K:Af)(T:String)(r:V->List V->Hp->VK->Prop)(to:TE)(t:TA):TE:=fun σ H Q=>to σ H fun x H1=>tyV K T x H1/\t σ H1 fun xs H2=>r x xs H2 Q
variable {o e:Ax}{es:An}{to:TE}{t:TA}{name:Str}{apos cpos:Pos}{T id:String}{r:V->List V->Hp->VK->Prop}
theorem pe_bm0 (pa:PlainAttrs T) (slot:Slot T name id) (hty:typeOf (.builtin id)=pure (.type "method_descriptor")) (hm:MtR X id r) (ho:PE X o to)
  (hbase:attributeBase o name X.env (eval o X.env)=eval o X.env:=by rfl) (hline:(apos.endLine == cpos.line)=true:=by rfl):PE X (.Call (.Attribute o name apos) [] [] cpos) (Zjw X.K T r to):=by
 intro pins s σ H Q I h;refine wpAny_Call_method0_late hbase hline (thn (ho pins s σ H _ I h) fun v D ⟨x,H1,q,C,ty,G⟩=>?_);obtain ⟨h1,h2⟩:=Zeh q C ty;exact ⟨T,id,pa,slot,hty,h1,h2,Qdh rfl (PySem.evalArgs_none (hm pins D σ H1 x [] v [] Q q C .nil G))⟩
theorem pe_bm (pa:PlainAttrs T) (slot:Slot T name id) (hty:typeOf (.builtin id)=pure (.type "method_descriptor")) (hm:MtR X id r) (ho:PE X o to) (ha:PA X (e::es) t)
  (hbase:attributeBase o name X.env (eval o X.env)=eval o X.env:=by rfl)
  (q:((backTo cpos (starEach (e::es) X.env)).all (fun x=>!x.1) && (backToKw cpos (keywordEach [] X.env)).all (fun x=>x.1.isSome)
   && decide ((e::es).length + ([]:List Keyword).length + (if ([]:List Keyword).isEmpty then 0 else 1) < 30))=true:=by rfl)
  (hline:(apos.endLine == cpos.line)=true:=by rfl) (hs:starEach (e::es) X.env=(false,eval e X.env)::starEach es X.env:=by rfl) (C:(backTo cpos (starEach es X.env)).any (·.1)=false:=by rfl) :
  PE X (.Call (.Attribute o name apos) (e::es) [] cpos) (tBM X.K T r to t):=by
 intro pins s σ H Q I h;refine Qfv hbase q hline rfl (thn (ho pins s σ H _ I h) fun v L ⟨x,H1,G,J,ty,N⟩=>?_);obtain ⟨h1,h2⟩:=Zeh G J ty;refine ⟨T,id,pa,slot,hty,h1,h2,?_⟩;have D:=ha cpos pins L σ H1 _ G N;rw [hs] at D ⊢;refine Qdh (by grind) (Qe6 ?_);exact thn D fun Z M ⟨vs,H2,Y,O,S⟩=>hm pins M σ H2 x vs v Z Q Y J O S
end
end L2
namespace L2
open PySem PySem.Spec PyProof.Rows
def MtM(X:Cx)(id:String)(r:V->List V->Hp->VK->Prop):Prop :=
 ∀(pins:Ac) (s:As) (σ:St) (H:Hp) (x:V) (xs:A2) (v:Av) (q:Ag) (Q:VK),Inv X pins σ H s->RelV x v->Vals xs q->r x xs H Q ->
  wpAny (model X.prog X.w) X.A (call (.builtin id) (v::q)) (EP X pins σ Q) X.xe s
theorem Vals.one:∀{x:V} {q:Ag},Vals [x] q->∃u,q=[u]/\RelV x u
 | _,_,.cons r .nil=>⟨_,rfl,r⟩
theorem Vals.zero:∀{q:Ag},Vals [] q->q=[]
 | _,.nil=>rfl
theorem Vals.dropLast{xs:A2}{C:Ag}(h:Vals xs C):Vals xs.dropLast C.dropLast:=by
 induction h with
 | nil=>exact .nil
 | cons r t D =>
  cases t with
  | nil=>exact .nil
  | cons q t'=>exact .cons r D
theorem Vals.reverse{xs:A2}{q:Ag}(h:Vals xs q):Vals xs.reverse q.reverse:=by
 induction h with
 | nil=>exact .nil
 | cons r t C=>rw [Qcs,Qcs];exact Vals.append C (.cons r .nil)
theorem erase_last(l:List g):l.eraseIdx (l.length - 1)=l.dropLast:=by grind
section
variable {X:Cx}{pins:Ac}{σ:St}{H:Hp}{s:As}{l b:Aw}{xs ys zs:A2}
theorem Inv.lset{its':Ag}{f:Ah->Array Av}{t':Nat}(I:Inv X pins σ H s)(C:H l=some (.lst xs))
  (e:s.heap.get? l=some { cls:=.type "list",data:=.seq U.toArray n }) (hf:f U.toArray=its'.toArray) (hv:Vals ys its') (D:ys.length<=sizeLine) :
  Inv X pins σ (upd H l (.lst ys)) { s with heap:=s.heap.update l (Obj.mapSeq f),toks:=t' }:=by
 have q:=PySem.IsL.update e f;rw [hf] at q;refine I.write (x:=l) (e:=l) (by rw [C];exact trivial) (.inl rfl) (fun J u hb G=>(Qb0 s.heap (Obj.mapSeq f) (Qdo hb)).trans G) ⟨_,q⟩ ?_;exact ⟨D,its',_,hv,q⟩
theorem Inv.lnew{t':Nat}(I:Inv X pins σ H s)(hv:Vals ys U)(C:ys.length<=sizeLine) :
  Inv X pins σ (upd H s.heap.objs.size (.lst ys)) { s with heap:=s.heap.push { cls:=.type "list",data:=.seq U.toArray },toks:=t' } :=
 I.laid (fun _ _ q=>Qab _ q) (Qag _) ⟨C,U,0,hv,Qak _ rfl⟩
theorem Inv.fresh(I:Inv X pins σ H s):H s.heap.objs.size=none:=I.hok.fresh (Qag _)
theorem Inv.lstM (I:Inv X pins σ H s) (C:H l=some (.lst xs)):xs.length<=sizeLine/\∃(q:Ag) (n:Nat),Vals xs q/\xs.length=q.length/\s.heap.get? l=some { cls:=.type "list",data:=.seq q.toArray n }:=by
 obtain ⟨z,q,n,r,e⟩:=I.hok l _ C;exact ⟨z,q,n,r,r.length,e⟩
theorem Zcd(h:n<=sizeLine):Builtin.List.listTooLong n=false:=by
 exact Qaq (by lia)
end
section
variable {X:Cx}
def Zfw:V->List V->Hp->VK->Prop:=fun x vs H Q=>∃l xs y,x=.ref l/\vs=[y]/\H l=some (.lst xs)/\xs.length < sizeLine/\Q .non (upd H l (.lst (xs++[y])))
theorem ZE:MtM X "list.append" Zfw:=by
 intro pins s σ H x vs v N Q I G L h;obtain ⟨l,xs,y,rfl,rfl,D,M,q⟩:=h;cases G;obtain ⟨u,rfl,J⟩:=L.one;obtain ⟨z,C,n,r,hl,e⟩:=I.lstM D;refine Qhn F.slot_list_append ⟨_,e,rfl⟩ F.entry_list_append (F.args_list_append_2 _ _) (PySem.list_append l C.toArray n u (by rw [Qa2];lia)) ⟨e,?_⟩;refine ⟨.non,_,I.lset (its':=C++[u]) D e (by simp) (r.append (.cons J .nil)) ?_,rfl,q⟩;rw [Qap,List.length_singleton];lia
def Zfx:V->List V->Hp->VK->Prop:=fun x vs H Q=>∃l b xs zs,x=.ref l/\vs=[.ref b]/\H l=some (.lst xs)/\H b=some (.lst zs)/\xs.length + zs.length<=sizeLine/\Q .non (upd H l (.lst (xs++zs)))
theorem gX:MtM X "list.extend" Zfx:=by
 intro pins s σ H x vs v us Q I O M h;obtain ⟨l,b,xs,zs,rfl,rfl,J,S,hz,q⟩:=h;cases O;obtain ⟨u,rfl,Y⟩:=M.one;cases Y;obtain ⟨z,D,n,r,hl,e⟩:=I.lstM J;obtain ⟨z2,C,L,Z,N,e2⟩:=I.lstM S;have hsz:D.toArray.size + C.toArray.size<=sizeLine:=by grind
 have G:¬(!D.toArray.isEmpty && Builtin.List.listTooLong (D.toArray.size + C.toArray.size))=true:=by
  rw [Zcd hsz,Qgu];exact Qa6
 refine Qhn F.slot_list_extend ⟨_,e,rfl⟩ F.entry_list_extend (F.args_list_extend_2 _ _)
  (AutoSeq1.list_extend_list_list_0 l D.toArray n b C.toArray L G (by lia) (by lia)) ⟨e,e2,?_⟩
 refine ⟨.non,_,I.lset (its':=D++C) J e (by simp) (r.append Z) ?_,rfl,q⟩;rw [Qap];lia
def rPop:V->List V->Hp->VK->Prop:=fun x vs H Q=>∃l xs y,x=.ref l/\vs=[]/\H l=some (.lst xs)/\xs[xs.length - 1]?=some y/\Q y (upd H l (.lst xs.dropLast))
theorem WY:MtM X "list.pop" rPop:=by
 intro pins s σ H x vs v Y Q I L O h;obtain ⟨l,xs,y,rfl,rfl,J,N,q⟩:=h;cases L;have D:=O.zero;subst D;obtain ⟨z,C,n,r,hl,e⟩:=I.lstM J;obtain ⟨u,S,M⟩:=r.get N;have G:C.toArray[C.toArray.size - 1]?=some u:=by
  grind
 refine Qhn F.slot_list_pop ⟨_,e,rfl⟩ F.entry_list_pop (F.args_list_pop_1 _) (MeetsSeq.list_pop_last l C.toArray n u G (by rw [Qa2];lia)) ⟨e,?_⟩;refine ⟨y,_,I.lset (its':=C.dropLast) J e ?_ r.dropLast ?_,M,q⟩
 ·grind
 ·rw [List.length_dropLast]
  lia
def rCat:R2:=fun x y H Q=>∃l b xs zs,x=.ref l/\y=.ref b/\H l=some (.lst xs)/\H b=some (.lst zs)/\xs.length + zs.length<=sizeLine/\∀p,H p=none->Q (.ref p) (upd H p (.lst (xs++zs)))
theorem Zei:OpR X (binaryOp .Add) rCat:=by
 intro pins s σ H x y v u Q I G M h;obtain ⟨l,b,xs,zs,rfl,rfl,L,J,hz,q⟩:=h;cases G;cases M;obtain ⟨z,D,n,r,hl,e⟩:=I.lstM L;obtain ⟨Z,C,Y,S,N,e2⟩:=I.lstM J;refine PySem.P.add_list e e2 ?_ (by grind);have O:D.toArray++C.toArray=(D++C).toArray:=by simp
 rw [O];exact ⟨.ref _,_,I.lnew (t':=s.toks) (r.append S) (by rw [Qap];lia),rfl,q _ I.fresh⟩
end
section
variable {prog:Aq}{w:Au}{A:Ar}{E:Ab}{s:As}
end
section
variable {X:Cx}
end
end L2
namespace Att
open PySem PySem.W PySem.Calls PyProof.Rows
theorem GI{P:Params}:∀(q:Ak) (vs:Ag),WellAll P h vs (q.map WData.int)->IntsAre vs q:=by
 intro q
 induction q with
 | nil =>
  intro vs w;cases w;exact .nil
 | cons n q C =>
  intro vs w;cases w with
  | cons a b =>
   cases a;exact .cons _ _ (C _ b)
theorem gY{l:OpenLaw}(hn:l.most=some n){P:Params}{args:List WData}
  (D:l.row.toRowW.claim.pre args=true) (M:WellAll P h U args) :
  ∃a vs C,U=[Value.ref a]/\args=[WData.list (C.map WData.int)]/\h.get? a=some { cls:=.type "list",data:=.seq vs.toArray }/\IntsAre vs C/\C.length<=n:=by
 have L:WShape.hasAll [] args [.list .int]=true:=(pre_splitW D).1;have hc:l.pre.holds [] { args:=args }=true:=(pre_splitW D).2;obtain ⟨d,r,rfl,h1,h2⟩:=hasAllW_cons L;obtain rfl:=hasAllW_nil h2;obtain ⟨xs,rfl,Y⟩:=hasW_list h1;obtain ⟨C,rfl⟩:=items_int Y;have G:C.length<=n:=by
  have J:(WTm.not (.lt (.lit (.int (n:Int))) (.len (.arg 0)))).holds [] { args:=[.list (C.map .int)] }=true:=by
   have J:=(holds_andW hc).1;rw [hn] at J;exact J
  have N:=condW_of J (w_not (w_lt w_lit (w_len_list (w_arg rfl))));refine Nat.le_of_not_lt fun q=>?_
  first
   | (exact absurd N (by decide))
   | (simp at N;lia)
 cases M with
 | cons O S =>
  cases S;cases O with
  | list ho I=>exact ⟨_,_,C,rfl,rfl,ho,GI C _ I,G⟩
theorem gZ(l:OpenLaw)(args:List WData):l.row.toRowW.claim.post args (.bool true) args=true :=
 postW_of (r:=l.row.toRowW) (X:=(true == true))
  (show WShape.has [] (.bool true) .bool=true by first | rfl | decide | skip)
  (show (WTm.eq .res (.lit (.bool true))).value [] { args:=args,res:=some (.bool true),after:=args }=some (.bool (true == true)) from w_eq_bool (w_res rfl) w_lit) rfl
theorem attach_call{l:OpenLaw}{XP:(Ae)->Heap->Prop}{YP:Au->Heap->Prop}{d:DefRec}
  (hn:l.most=some n) (hdf:d.params.defaults=[])
  (call:∀(w:Au) (s₀ q:As) (mg mb:Ae) (M:Aw) (o:Obj) (pm O C:Av) (a:Aw) (vs:Ag) (S:Ak),
   Ground P N [] XP w s₀ mg mb q.heap->YP w q.heap ->
   q.heap.get? M=some o->o.data=.func (docDef d.name d.params d.body d.scope pm O C)->q.heap.CodeRec O d.name->mg d.name=some (.ref M) ->
   q.heap.get? a=some { cls:=.type "list",data:=.seq vs.toArray }->IntsAre vs S->S.length<=n->q.gens=#[] ->
   codeAny (model l.prog w) callerA (.call (.ref M) ⟨[.ref a],[]⟩) (fun r s'=>r=.ok (.ret (.bool true))/\OldK q.heap s'.heap/\s'.os=q.os/\AllBare s'.gens) q) :
  WalkO P N XP YP l.row.toRowW d [] (fun f vs=>PySem.call f vs):=by
 intro w s₀ q mg mb G Y M o pm O C dV kV ho hd hcd hD hmg hg args vals as J hlay hrd Z hlo;obtain rfl:dV=.none:=Dflts.none hD hdf;obtain rfl:kV=.none:=Dflts.noKw hD;obtain ⟨a,vs,S,rfl,rfl,L,D,I⟩:=gY hn J Z;refine enter_call (Qet (call w s₀ q mg mb M o pm O C a vs S G Y ho (fd_plain hd) hcd hmg L D I hg) fun r s' hq=>?_);obtain ⟨rfl,h2,h3,h4⟩:=hq;exact ⟨.inl ⟨.bool true,.bool true,[],rfl,fun _=>rfl,.bool true,gZ l _,fun _=>⟨List.Pairwise.nil,fun _ hm=>(nomatch hm)⟩⟩,h2,h3,h4⟩
section
variable {prog:Aq}{w:Au}{A:Ar}{E:Ab}{s:As}{K:Frag}
end
end Att
namespace L2
open PySem PySem.Spec PyProof.Rows
theorem js:∀{vs:Ag} {q:Ak},IntsAre vs q->Vals (q.map V.int) vs
 | _,_,.nil=>.nil
 | _,_,.cons n t h=>.cons ⟨t,rfl⟩ (js h)
def Wh(s:Ay):Arguments:=match s with
 | .FunctionDef _ a _ _ _ _ _ _ _ _=>a
 | _=>{ posonlyargs:=[],args:=[],vararg:=none,kwonlyargs:=[],kw_defaults:=[],kwarg:=none,defaults:=[] }
def Xk(s:Ay):List Ay:=match s with
 | .FunctionDef _ _ b _ _ _ _ _ _ _=>b
 | _=>[]
def Zg(s:Ay):Scope:=match s with
 | .FunctionDef _ _ _ _ _ _ q _ _ _=>q
 | _=>{ kind:=.function,names:=[],isGenerator:=false,isCoroutine:=false }
abbrev CX0:CXT:=fun _ _ _ _ _ _=>False
abbrev E0:XK:=fun _ _ _=>False
theorem ZH{X:Cx}:Passes CX0 X E0:=fun _ _ _ _ _ _ _ h=>h.elim
structure Fun(K:Af)(x qual:Str)(st:Ay)(f:Aw)(fd:Ao):Prop where
 ex:∃(oc:Av) (od:Option Aw) (kV doc pm:Av) (an:Option Aw) (cdv ct:Av) (osl:Array (Option Av)),
  fd=PySem.W.fnOf x qual (Wh st) (Xk st) (Zg st) .none kV doc pm an cdv ct/\K.lookup f=some ⟨oc,od,.func fd,osl⟩/\PySem.W.codeIn K cdv qual=true
 kp:PySem.W.keepIn K (.ref f)=true
section
variable {P:Aq}{w:Au}{K:Af}{mg:Ae}{base:Heap}
theorem Fun.ok{qual:Str}{st:Ay}{fd:Ao}{ps:Ai}{k:Nat}{sp:Sp}(F:Fun K x qual st f fd)(S:Zu N ps (Zg st))(len:∀vs H Q E,sp vs H Q E->vs.length=ps.length)
  (D:∀(C:Av) (A:Ar) (outer:List Env) (s:As) (H:Hp) (vs:A2) (Q:VK) (E:XK),W8 k (A.deeper (envOfC qual (Zg st) s.heap.objs.size f C))->sp vs H Q E ->
   ∃t,PSs (Zca CX0 P w K mg base N qual (Zg st) f C A outer s H E).nox (Xk st) t/\t { nx:=fun _ H'=>Q .non H',rt:=Q } (start N vs) H):Y9 P w K mg base CX0 (k + 1) f fd ps sp:=by
 obtain ⟨oc,od,kV,I,M,O,C,ct,J,rfl,L,hcd⟩:=F.ex;refine Ziw L hcd S len fun A outer s H vs Q E hr G=>?_;obtain ⟨t,h,q⟩:=D C A outer s H vs Q E hr G;exact ⟨t,h.nox,q⟩
theorem Fun.binds{qual:Str}{st:Ay}{fd:Ao}{ps:Ai}(F:Fun K x qual st f fd)
  (h:∀(kV q D:Av) (G:Option Aw) (C ct:Av) (I:Ag),I.length=ps.length->bindArgs (PySem.W.fnOf x qual (Wh st) (Xk st) (Zg st) .none kV q D G C ct) ⟨I,[]⟩=pure (ps.zip I)):Binds K fd ps []:=by
 obtain ⟨oc,od,kV,q,D,G,C,ct,J,rfl,L,hcd⟩:=F.ex;exact .all (h kV q D G C ct)
theorem fun_mk{qual:Str}{st:Ay}{od I:Option Aw}{D:Array (Option Av)}{kV C G q ct:Av}(l:K.lookup f=some ⟨u,od,.func (PySem.W.fnOf x qual (Wh st) (Xk st) (Zg st) .none kV C G I q ct),D⟩)
  (c:PySem.W.codeIn K q qual=true) (k:PySem.W.keepIn K (.ref f)=true):Fun K x qual st f (PySem.W.fnOf x qual (Wh st) (Xk st) (Zg st) .none kV C G I q ct):=⟨⟨u,od,kV,C,G,I,q,ct,D,rfl,l,c⟩,k⟩
end
theorem ZP{A:Ar}{k:Nat}(hr:W8 k A):A.units + 1 < cLine:=Qdt (Nat.add_le_add_left (by decide:1<=64) _) hr.units
theorem Z1(h:n<=1000):n < sizeLine:=Qdt h (by decide)
section
variable {X:Cx}
theorem pv (i:Nat)   (hN:X.N[i]?=some x:=by rfl) (hv:Vis X.env.scope x:=by first | exact Or.inl rfl | exact Or.inr (Or.inl rfl) | exact Or.inr (Or.inr rfl)) (hd:(x == ("__debug__" : Str))=false:=by decide)
  (hcd:(x == ("__classdict__" : Str))=false:=by decide):PE X (.Name x p) (jf i):=Zed hN hv hd hcd
end
theorem ZI{A B:Prop}(h:B):if false=true then A else B:=by grind
theorem Y3{A B:Prop}(h:A):if true=true then A else B:=by
 exact h
theorem zc{c A B:Prop}[Decidable c](h1:c->A)(h2:¬c->B):if c then A else B:=by grind
def ZC(H H':Hp):Prop:=∀b o,H b=some o->H' b=some o
theorem ZC.refl(H:Hp):ZC H H:=fun _ _ h=>h
theorem ZC.trans{H2:Hp}(a:ZC H A)(b:ZC A H2):ZC H H2:=fun c o h=>b c o (a c o h)
theorem ZC.free{H':Hp}(e:ZC H H'){l:Aw}(h:H' l=Option.none):H l=Option.none:=by
 cases q:H l with
 | none=>rfl
 | some o =>
  rw [e l o q] at h;cases h
section
variable {X:Cx}
def Zfy(i j:Int):Prop:=0 < j/\j.natAbs.log2 < 9000
theorem Yp:OpR X (binaryOp .FloorDiv) (rI Zfy fun i j=>.int (i / j)):=opI fun i j _ _ _ _ _ hc q=>by
 have h1:(0:Int) < j:=hc.1;exact floordiv_int (by lia) (by rw [Int.fdiv_eq_ediv_of_nonneg i (by lia)];exact q) (.inl (PyProof.noPylong_of_log2 hc.2))
theorem Zfy.of{i j:Int}(h1:0 < j)(h2:j < 2 ^ 250):Zfy i j:=by
 refine ⟨h1,?_⟩;have C:j.natAbs < 2 ^ 250:=by lia
 have q:j.natAbs≠0:=by lia
 have:=(Nat.log2_lt q).mpr C;lia
def Zfz(i j:Int):Prop:=(i.natAbs < 2 ^ 250/\j.natAbs < 2 ^ 250)\/CMul i j
theorem Zfz.ok{i j:Int}(h:Zfz i j):IntMulOk i j:=by
 rcases h with ⟨h1,h2⟩ | h
 ·refine IntMulOk.of_bits (Qaz (PyProof.Rows.intBits_le h1) (by decide)) (Qaz (PyProof.Rows.intBits_le h2) (by decide))
 ·exact h.ok
theorem YN:OpR X (binaryOp .Mult) (rI Zfz fun i j=>.int (i * j)):=opI fun _ _ _ _ _ _ _ hc q=>mul_int q hc.ok
theorem ua (hc:X.calm=true):YM X (.builtin "sum") (fun xs H Q=>∃(p:Aw) (C:Ak),xs=[.ref p]/\SqL X.K H p (C.map V.int)/\Q (.int C.sum) H):=by
 intro pins s σ H xs O Q I r h;obtain ⟨p,C,rfl,L,q⟩:=h;obtain ⟨u,rfl,J⟩:=vals1 r;cases J;obtain ⟨D,M,pl,N⟩:=I.list L;have hi:IntsAre D C:=intsAre_of M;obtain ⟨xs,hx⟩:=hi.allInts.items;have G:s.heap.IsList p (intItems xs):=hx ▸ pl.isList;refine sum_intListG (I.ok.hd hc) G fun h' tk t' hk=>?_;have e1:C=xs.toList.map (·.1):=by
  rw [<-nums_intItems,<-hx];exact (show numsOf D.toArray.toList=C from hi.numsOf).symm
 have e2:preSum (numAt xs) xs.size=C.sum:=by
  rw [preSum_eq,Qcx (by simp),e1]
 rw [e2];exact ⟨.int C.sum,H,I.kept hk,⟨_,rfl⟩,q⟩
def Zjx(K:Af):A2->Hp->VK->Prop:=fun xs H Q=>∃x T t b,xs=[x,.ty T]/\we K H x t/\PySem.W.kitOne K t (.type T)=some b/\Q (.bl b) H
theorem XJ:YM X (.builtin "isinstance") (Zjx X.K):=by
 intro pins s σ H xs G Q I r h;obtain ⟨x,T,t,b,rfl,ty,e,q⟩:=h;obtain ⟨u,D,rfl,C,rt⟩:=vals2 r;cases rt;exact gR I C ty e fun tk=>⟨.bl b,H,I.tok tk,rfl,q⟩
end
def ZV:Ax->Bool
 | .Starred _ _=>false
 | _=>true
theorem Zq{rest:An}{env:Env}(h:ZV e=true):starEach (e::rest) env=(false,eval e env)::starEach rest env:=by
 cases e <;> first
  | rfl
  | cases h
theorem YV{pos:Pos}{env:Env}:∀{es:An},es.all ZV=true->(backTo pos (starEach es env)).any (·.1)=false
 | [],_=>rfl
 | e::es,h=>by
  rw [Qcr,Qbz] at h;rw [Zq h.1];show (false || (backTo pos (starEach es env)).any (·.1))=false;rw [YV h.2]
  rfl
theorem all_plain{pos:Pos}{env:Env}:∀{es:An},es.all ZV=true->(backTo pos (starEach es env)).all (fun x=>!x.1)=true
 | [],_=>rfl
 | e::es,h=>by
  rw [Qcr,Qbz] at h;rw [Zq h.1];show (true && (backTo pos (starEach es env)).all (fun x=>!x.1))=true;rw [all_plain h.2]
  rfl
section
variable {X:Cx}{CX:CXT}{k:Nat}{f C:Aw}{fd:Ao}{ps:Ai}{sp:Sp}{dvs:A2}{ds:Ag}{E:XK}{x m:Str}{p pos apos:Pos}{e o:Ax}{es:An}{ta te:TE}{t:TA}{id T:String}{r:A2->Hp->VK->Prop}
theorem pa_c(ha:PE X e te)(hr:PA X es t)(hp:ZV e=true:=by rfl):PA X (e::es) (J3 te t):=Zfs ha hr (Zq hp)
theorem Zce(F:Y9 X.prog X.w X.K X.mg X.base CX k f fd ps sp)(hr:W8 k X.A)(hg:Gl X x)(hm:X.mg x=some (.ref f))(hk:PySem.W.keepIn X.K (.ref f)=true)(hb:Binds X.K fd ps ds)(hd:Vals dvs ds)(hx:Passes CX X E)
  (ha:PA X (e::es) t) (hdb:(x == ("__debug__" : Str))=false:=by decide) (hp:(e::es).all ZV=true:=by rfl):PE X (.Call (.Name x p) (e::es) [] pos) (Zfu sp dvs E t):=by
 rw [Qcr,Qbz] at hp;exact Zfv F hr hg hm hk hb hd hx ha hdb (Zq hp.1) (YV hp.2)
theorem ub (hc:YM X (.builtin id) r) (hg:Gl X x) (hm:X.mg x=none) (hv:bootBuiltins x=some (.builtin id)) (ha:PA X (e::es) t) (hn:x ≠ "__name__" := by decide) (hdb:(x == ("__debug__" : Str))=false:=by decide)
  (hp:(e::es).all ZV=true:=by rfl):PE X (.Call (.Name x p) (e::es) [] pos) (tCB r t):=by
 rw [Qcr,Qbz] at hp;exact Zcb hc hg hm hv ha hn hdb (Zq hp.1) (YV hp.2)
theorem uc (hc:YM X (.type T) r) (hg:Gl X x) (hm:X.mg x=none) (hv:bootBuiltins x=some (.type T)) (ha:PA X (e::es) t) (hn:x ≠ "__name__" := by decide) (hdb:(x == ("__debug__" : Str))=false:=by decide)
  (hp:(e::es).all ZV=true:=by rfl):PE X (.Call (.Name x p) (e::es) [] pos) (tCB r t):=by
 rw [Qcr,Qbz] at hp;exact gT hc hg hm hv ha hn hdb (Zq hp.1) (YV hp.2)
theorem ud {tg a:Ax} (hg:Gl X "range") (hm:X.mg "range" = none) (ha:PA X [a] t) (hp:ZV a=true:=by rfl):PI X tg (.Call (.Name "range" p) [a] [] pos) (Zfn t) :=
 gF hg hm ha (by rw [Zq hp];rfl)
theorem pe_bmF {name:Str}   {C:V->List V->Hp->VK->Prop} (pa:PlainAttrs T) (slot:Slot T name id) (hty:typeOf (.builtin id)=pure (.type "method_descriptor")) (hm:MtR X id C) (ho:PE X o c) (ha:PA X (e::es) t)
  (hbase:attributeBase o name X.env (eval o X.env)=eval o X.env:=by rfl) (hline:(apos.endLine == D.line)=true:=by rfl) (hp:(e::es).all ZV=true:=by rfl) (hl:(e::es).length < 30:=by decide) :
  PE X (.Call (.Attribute o name apos) (e::es) [] D) (tBM X.K T C c t):=by
 have q:=hp;rw [Qcr,Qbz] at q;refine pe_bm pa slot hty hm ho ha hbase ?_ hline (Zq q.1) (YV q.2);rw [all_plain hp];exact Qao hl
end
theorem YA:bootBuiltins "len" = some (.builtin "len"):=by decide +kernel
theorem bt_sum:bootBuiltins "sum" = some (.builtin "sum"):=by decide +kernel
theorem Yg:bootBuiltins "isinstance" = some (.builtin "isinstance"):=by decide +kernel
theorem GJ:bootBuiltins "sorted" = some (.builtin "sorted"):=by decide +kernel
theorem bt_all:bootBuiltins "all" = some (.builtin "all"):=by decide +kernel
theorem GK:bootBuiltins "int" = some (.type "int"):=by decide +kernel
theorem Zf0:bootBuiltins "bool" = some (.type "bool"):=by decide +kernel
theorem Zej:bootBuiltins "str" = some (.type "str"):=by decide +kernel
theorem ue:bootBuiltins "list" = some (.type "list"):=by decide +kernel
theorem Yw:bootBuiltins "tuple" = some (.type "tuple"):=by decide +kernel
theorem Zek:bootBuiltins "set" = some (.type "set"):=by decide +kernel
theorem yA:bootBuiltins "reversed" = some (.type "reversed"):=by decide +kernel
theorem Zcf:bootBuiltins "range" = some (.type "range"):=by decide +kernel
theorem XM :PySem.W.kitOne K (.type "int") (.type "int")=some true:=by rfl
theorem jt :PySem.W.kitOne K (.type "int") (.type "bool")=some false:=by with_unfolding_all rfl
theorem Xl :PySem.W.kitOne K (.type "str") (.type "int")=some false:=by with_unfolding_all rfl
theorem GL :PySem.W.kitOne K (.type "str") (.type "str")=some true:=by rfl
theorem GN :PySem.W.kitOne K (.type "int") (.type "str")=some false:=by with_unfolding_all rfl
structure QE(X:Cx)(e:Ax)(t:TE):Prop where
 out:PE X e t
structure QT(X:Cx)(e:Ax)(t:TT):Prop where
 out:PT X e t
structure QW(X:Cx)(e:Ax)(t:TT):Prop where
 out:PW X e t
structure QA(X:Cx)(e:An)(t:TA):Prop where
 out:PA X e t
structure QSs(X:Cx)(e:List Ay)(t:TS):Prop where
 out:PSs X e t
structure QS(X:Cx)(e:Ay)(t:TS):Prop where
 out:PS X e t
structure QG(X:Cx)(e:Ax)(t:TG):Prop where
 out:PG X e t
structure QI(X:Cx)(tg e:Ax)(t:TI):Prop where
 out:PI X tg e t
theorem qv {X:Cx} (i:Nat)   (hN:X.N[i]?=some x:=by rfl) (hv:Vis X.env.scope x:=by first | exact Or.inl rfl | exact Or.inr (Or.inl rfl) | exact Or.inr (Or.inr rfl)) (hd:(x == ("__debug__" : Str))=false:=by decide) (hcd:(x == ("__classdict__" : Str))=false:=by decide):QE X (.Name x p) (jf i):=⟨pv (i:=i) (hN:=hN) (hv:=hv) (hd:=hd) (hcd:=hcd)⟩
theorem Zf{X:Cx}{i j pos:_}:QE X (.Constant (.int i) j pos) (tC (.int i)):=⟨pe_int ⟩
theorem X8{X:Cx}{b j pos:_}:QE X (.Constant (.bool b) j pos) (tC (.bl b)):=⟨pe_bl ⟩
theorem Zi{X:Cx}{x j pos:_}:QE X (.Constant (.str x) j pos) (tC (.str x)):=⟨pe_str ⟩
theorem XN {X:Cx}  {v:V}   (hg:Gl X x) (hm:X.mg x=some u) (r:RelV v u) (hd:(x == ("__debug__" : Str))=false:=by decide):QE X (.Name x p) (tC v):=⟨Zfg (hg:=hg) (hm:=hm) (r:=r) (hd:=hd)⟩
theorem WO {X:Cx}  {v:V}   (hg:Gl X x) (hm:X.mg x=none) (hv:bootBuiltins x=some u) (r:RelV v u) (hn:x ≠ "__name__" := by decide) (hd:(x == ("__debug__" : Str))=false:=by decide):QE X (.Name x p) (tC v):=⟨Zfh (hg:=hg) (hm:=hm) (hv:=hv) (r:=r) (hn:=hn) (hd:=hd)⟩
theorem Zo{X:Cx}{a:Ax}{b:Ax}{q:Operator}{r:R2}(ho:OpR X (binaryOp q) r)(ha:QE X a c)(hb:QE X b I):QE X (.BinOp a q b p) (tOp r c I):=⟨pe_op (ho:=ho) (ha:=ha.out) (hb:=hb.out)⟩
theorem Ge{X:Cx}{a:Ax}{q:UnaryOp}{r:V->Hp->VK->Prop}(ho:UnR X (unaryOp q) r)(ha:QE X a c):QE X (.UnaryOp q a p) (tUn r c):=⟨pe_un (ho:=ho) (ha:=ha.out)⟩
theorem YB{X:Cx}{a:Ax}{b:Ax}{q:CmpOp}{r:R2}(ho:OpR X (compareOp q) r)(ha:QE X a c)(hb:QE X b I)(hm:behindInMarks q b=false):QE X (.Compare a [q] [b] p) (tOp r c I):=⟨Zfo (ho:=ho) (ha:=ha.out) (hb:=hb.out) (hm:=hm)⟩
theorem Zr{X:Cx}{a:Ax}{b:Ax}{q:CmpOp}{r:R2}(ho:OpR X (compareOp q) r)(ha:QE X a c)(hb:QE X b I)(hm:behindInMarks q b=false):QT X (.Compare a [q] [b] p) (Ziv (tOp r c I)):=⟨Zfp (ho:=ho) (ha:=ha.out) (hb:=hb.out) (hm:=hm)⟩
theorem Xv{X:Cx}{t:TE}(h:QE X e t)(he:∀q,isTrue e X.env q=(do let v <-q;standAt e.pos;holding [v] (truthy v)):=by intro _;rfl):QT X e (tB t):=⟨pt_val (h:=h.out) (he:=he)⟩
theorem J4{X:Cx}{a:Ax}(ha:QT X a G):QW X (.BoolOp .And [a] p) G:=⟨Zfi (ha:=ha.out)⟩
theorem vK{X:Cx}{a:Ax}(ha:QT X a G):QW X (.BoolOp .Or [a] p) G:=⟨pw_or1 (ha:=ha.out)⟩
theorem x5{X:Cx}{a:Ax}{b:Ax}{tB':TT}{rest:An}(ha:QT X a G)(hb:QW X (.BoolOp .And (b::rest) p) tB'):QW X (.BoolOp .And (a::b::rest) p) (tAnd G tB'):=⟨pw_and (ha:=ha.out) (hb:=hb.out)⟩
theorem Zcg{X:Cx}{a:Ax}{b:Ax}{tB':TT}{rest:An}(ha:QT X a G)(hb:QW X (.BoolOp .Or (b::rest) p) tB'):QW X (.BoolOp .Or (a::b::rest) p) (tOr G tB'):=⟨pw_or (ha:=ha.out) (hb:=hb.out)⟩
theorem Zel{X:Cx}{a:Ax}(ha:QT X a G):QT X (.UnaryOp .Not a p) (tNot G):=⟨pt_not (ha:=ha.out)⟩
theorem GO{X:Cx}{a:Ax}{q:_}{t:TE}(h:QE X a t):QE X (.BoolOp q [a] p) t:=⟨pe_one (h:=h.out)⟩
theorem vL{X:Cx}{a:Ax}{b:Ax}{rest:An}(ha:QE X a c)(hb:QE X (.BoolOp .And (b::rest) p) I):QE X (.BoolOp .And (a::b::rest) p) (Zik c I):=⟨pe_and (ha:=ha.out) (hb:=hb.out)⟩
theorem Zf1{X:Cx}{a:Ax}{b:Ax}{rest:An}(ha:QE X a c)(hb:QE X (.BoolOp .Or (b::rest) p) I):QE X (.BoolOp .Or (a::b::rest) p) (tOrV c I):=⟨pe_or (ha:=ha.out) (hb:=hb.out)⟩
theorem uf{X:Cx}{a:Ax}(ha:QE X a c):QE X (.UnaryOp .Not a p) (Zil c):=⟨pe_not (ha:=ha.out)⟩
theorem Zx{X:Cx}:QSs X [] Zim:=⟨Zfj ⟩
theorem Zb{X:Cx}{st:Ay}{rest:List Ay}{t:TS}{u:TS}(h1:QS X st t)(h2:QSs X rest u):QSs X (st::rest) (Yi t u):=⟨Zb8 (h1:=h1.out) (h2:=h2.out)⟩
theorem Ze{X:Cx}{st:Ay}{t:TS}(h1:QS X st t):QSs X [st] t:=⟨Zfk (h1:=h1.out)⟩
theorem Yh{X:Cx}(he:QE X e c)(hs:swapsWith e none p.line X.env=pure false:=by rfl):QS X (.Expr e p) (Zin c):=⟨Zfl (he:=he.out) (hs:=hs)⟩
theorem Zn{X:Cx}(he:QE X e c):QS X (.Return (some e) p) (tRet c):=⟨ps_ret (he:=he.out)⟩
theorem ZF{X:Cx}{t:TS}{u:TS}{c:Ax}{a b:List Ay}(hc:QT X c G)(ha:QSs X a t)(hb:QSs X b u):QS X (.If c a b p) (tIfS G t u):=⟨ps_if (hc:=hc.out) (ha:=ha.out) (hb:=hb.out)⟩
theorem Yd{X:Cx}(hN:X.N.Nodup)(hi:X.N[i]?=some x)(hx:Loc X.env.scope x)(hf:X.fn x=true\/X.env.scope.names.lookup x=some .local:=by first | exact .inl rfl | exact .inr rfl | assumption):QG X (.Name x p) (WN i):=⟨za (hN:=hN) (hi:=hi) (hx:=hx) (hf:=hf)⟩
theorem Zem{X:Cx}{i:Ax}{t:Zjt}(ho:QE X o c)(hi:QE X i I)(hs:PSet X t)(ha:∀v,assign (.Subscript o i p) X.env v=(do
   let q <-holding [v] (eval o X.env);let C <-holding [v,q] (eval i X.env)
   standAt p
   holding [v,q,C] (setItem q C v)
   release [v,q,C] []):=by intro _;rfl):QG X (.Subscript o i p) (gSub c I t):=⟨pg_sub (ho:=ho.out) (hi:=hi.out) (hs:=hs) (ha:=ha)⟩
theorem Zen{X:Cx}{g:TG}(he:QE X e c)(hg:QG X o g)(hs:swapsWithSole [o] e p.line X.env=pure false:=by rfl)(hw:swappedStores [o] e X.env=pure none:=by rfl)(h1:(assignEach [o] X.env).map (·.2)=[assign o X.env]:=by rfl):QS X (.Assign [o] e p) (Zio c g):=⟨ps_asg (he:=he.out) (hg:=hg.out) (hs:=hs) (hw:=hw) (h1:=h1)⟩
theorem Zp{X:Cx}(hN:X.N.Nodup)(hi:X.N[i]?=some x)(hx:Loc X.env.scope x)(he:QE X e c)(hs:swapsWith e (some (.Name x D)) p.line X.env=pure false:=by rfl)(hf:X.fn x=true\/X.env.scope.names.lookup x=some .local:=by first | exact .inl rfl | exact .inr rfl | assumption):QS X (.Assign [.Name x D] e p) (Zio c (WN i)):=⟨ps_set (hN:=hN) (hi:=hi) (hx:=hx) (he:=he.out) (hs:=hs) (hf:=hf)⟩
theorem zd{X:Cx}{c:Ax}{body:List Ay}(hp:PassesOwn (model X.prog X.w) X.A X.env X.xe)(hc:QT X c G)(hb:QSs X body q):QS X (.While c body [] p) (gC G q):=⟨Zb9 (hp:=hp) (hc:=hc.out) (hb:=hb.out)⟩
theorem Xm{X:Cx}{l:Ax}(hl:QE X l c):QI X e l (gE X.K c):=⟨Zfm (hl:=hl.out)⟩
theorem WG{X:Cx}{l:Ax}(hl:QE X l c):QI X e l (iTup X.K c):=⟨pi_tup (hl:=hl.out)⟩
theorem YW{X:Cx}{iter:Ax}{body:List Ay}{wi:TI}{g:TG}(hp:PassesOwn (model X.prog X.w) X.A X.env X.xe)(hc:X.calm=true)(hi:QI X e iter wi)(hg:QG X e g)(hb:QSs X body q)(hs:∀x,foldedSetIterable iter X.env x=pure x:=by intro _;rfl):QS X (.For e iter body [] p) (tFor wi g q):=⟨ps_for (hp:=hp) (hc:=hc) (hi:=hi.out) (hg:=hg.out) (hb:=hb.out) (hs:=hs)⟩
theorem Yj{X:Cx}{t:TA}{q:_}(h:QA X B t):QE X (.Tuple B q p) (tTup t):=⟨pe_tup (h:=h.out)⟩
theorem ZQ{X:Cx}{t:TA}(h:QA X B t):QE X (.List B p) (tLst t):=⟨pe_lst (h:=h.out)⟩
theorem Zd{X:Cx}:QA X [] Zfr:=⟨pa_nil ⟩
theorem Zk{X:Cx}{t:TA}(ha:QE X e c)(hr:QA X B t)(hp:ZV e=true:=by rfl):QA X (e::B) (J3 c t):=⟨pa_c (ha:=ha.out) (hr:=hr.out) (hp:=hp)⟩
theorem Zm {X:Cx} {CX:CXT} {k:Nat}  {fd:Ao} {ps:Ai} {sp:Sp}   {E:XK}      {t:TA} (F:Y9 X.prog X.w X.K X.mg X.base CX k f fd ps sp) (hr:W8 k X.A) (hg:Gl X x) (hm:X.mg x=some (.ref f)) (hk:PySem.W.keepIn X.K (.ref f)=true) (hb:Binds X.K fd ps U) (hd:Vals r U) (hx:Passes CX X E) (ha:QA X (e::B) t) (hdb:(x == ("__debug__" : Str))=false:=by decide) (hp:(e::B).all ZV=true:=by rfl):QE X (.Call (.Name x p) (e::B) [] D) (Zfu sp r E t):=⟨Zce (F:=F) (hr:=hr) (hg:=hg) (hm:=hm) (hk:=hk) (hb:=hb) (hd:=hd) (hx:=hx) (ha:=ha.out) (hdb:=hdb) (hp:=hp)⟩
theorem Zs {X:Cx}      {t:TA} {id:String} {r:A2->Hp->VK->Prop} (hc:YM X (.builtin id) r) (hg:Gl X x) (hm:X.mg x=none) (hv:bootBuiltins x=some (.builtin id)) (ha:QA X (e::B) t) (hn:x ≠ "__name__" := by decide) (hdb:(x == ("__debug__" : Str))=false:=by decide) (hp:(e::B).all ZV=true:=by rfl):QE X (.Call (.Name x p) (e::B) [] D) (tCB r t):=⟨ub (hc:=hc) (hg:=hg) (hm:=hm) (hv:=hv) (ha:=ha.out) (hn:=hn) (hdb:=hdb) (hp:=hp)⟩
theorem Z8 {X:Cx}      {t:TA} {T:String} {r:A2->Hp->VK->Prop} (hc:YM X (.type T) r) (hg:Gl X x) (hm:X.mg x=none) (hv:bootBuiltins x=some (.type T)) (ha:QA X (e::B) t) (hn:x ≠ "__name__" := by decide) (hdb:(x == ("__debug__" : Str))=false:=by decide) (hp:(e::B).all ZV=true:=by rfl):QE X (.Call (.Name x p) (e::B) [] D) (tCB r t):=⟨uc (hc:=hc) (hg:=hg) (hm:=hm) (hv:=hv) (ha:=ha.out) (hn:=hn) (hdb:=hdb) (hp:=hp)⟩
theorem Xn {X:Cx}   {t:TA} {a:Ax} (hg:Gl X "range") (hm:X.mg "range" = none) (ha:QA X [a] t) (hp:ZV a=true:=by rfl):QI X e (.Call (.Name "range" p) [a] [] D) (Zfn t):=⟨ud (hg:=hg) (hm:=hm) (ha:=ha.out) (hp:=hp)⟩
theorem Y4 {X:Cx}     {t:TA} {id:String} {T:String} {name:Str}   {q:V->List V->Hp->VK->Prop} (pa:PlainAttrs T) (slot:Slot T name id) (hty:typeOf (.builtin id)=pure (.type "method_descriptor")) (hm:MtR X id q) (ho:QE X o c) (ha:QA X (e::B) t) (hbase:attributeBase o name X.env (eval o X.env)=eval o X.env:=by rfl) (hline:(p.endLine == D.line)=true:=by rfl) (hp:(e::B).all ZV=true:=by rfl) (hl:(e::B).length < 30:=by decide):QE X (.Call (.Attribute o name p) (e::B) [] D) (tBM X.K T q c t):=⟨pe_bmF (pa:=pa) (slot:=slot) (hty:=hty) (hm:=hm) (ho:=ho.out) (ha:=ha.out) (hbase:=hbase) (hline:=hline) (hp:=hp) (hl:=hl)⟩
theorem WH {X:Cx}   {name:Str}   {T:String} {id:String} {r:V->List V->Hp->VK->Prop} (pa:PlainAttrs T) (slot:Slot T name id) (hty:typeOf (.builtin id)=pure (.type "method_descriptor")) (hm:MtR X id r) (ho:QE X o c) (hbase:attributeBase o name X.env (eval o X.env)=eval o X.env:=by rfl) (hline:(p.endLine == D.line)=true:=by rfl):QE X (.Call (.Attribute o name p) [] [] D) (Zjw X.K T r c):=⟨pe_bm0 (pa:=pa) (slot:=slot) (hty:=hty) (hm:=hm) (ho:=ho.out) (hbase:=hbase) (hline:=hline)⟩
theorem Z4{X:Cx}{a:Ax}{b:Ax}{r:R2}(hr:IxR X r)(ha:QE X a c)(hb:QE X b I)(hs:gW b):QE X (.Subscript a b p) (tOp r c I):=⟨pe_ix (hr:=hr) (ha:=ha.out) (hb:=hb.out) (hs:=hs)⟩
theorem qT{X:Cx}{t:TT}(h:QW X e t):QT X e t:=⟨h.out.pt⟩
end L2
set_option maxHeartbeats 4000000
namespace L2
open PySem PySem.Spec PyProof.Rows
def Gf(cells:List (Str × Aw)):List (Str × NameKind)->List (Str × Aw)->List (Str × Aw)
 | [],acc=>acc
 | (n,k)::r,acc=>Gf cells r (if (k == NameKind.free)=true then (n,(cells.lookup n).getD 0)::acc else acc)
theorem x6{env:Env}:∀(names:List (Str × NameKind)) (acc:List (Str × Aw)),(∀y∈names,y.2=.free->∃c,env.cells.lookup y.1=some c) ->
  (forIn names acc fun (x:Str × NameKind) (r:List (Str × Aw))=>match x with
   | (name,kind)=>if (kind == NameKind.free)=true then do let a <-cellOf env name;pure (ForInStep.yield ((name,a)::r)) else pure (ForInStep.yield r):Sem (List (Str × Aw)))=pure (Gf env.cells names acc)
 | [],acc,_=>rfl
 | (n,k)::r,acc,h=>by
  rw [Qeu];have D:=fun C=>x6 (env:=env) r C fun y G=>h y (Qal _ G)
  by_cases hk:(k == NameKind.free)=true
  ·obtain ⟨c,hc⟩:=h (n,k) Qah (by simpa using hk)
   have q:env.cells.lookup n=some c:=hc;have e:cellOf env n=pure c:=by unfold cellOf;rw [q]
   simp only [hk,if_true,e];rw [Gf,Qa0 hk,q];exact D ((n,c)::acc)
  ·rw [Gf,Qaw hk]
   simp only [hk,Qho];exact D acc
theorem X9{scope:Scope}{env:Env}(h:∀y∈scope.names,y.2=.free->∃c,env.cells.lookup y.1=some c):closureFor scope env=pure (Gf env.cells scope.names []):=by
 have e:=x6 (env:=env) scope.names [] h;show (do let r <-_;pure r)=_;rw [show (forIn scope.names ([]:List (Str × Aw)) fun (x:Str × NameKind) (r:List (Str × Aw))=>match x with
   | (name,kind)=>if (kind == NameKind.free)=true then do let a <-cellOf env name;pure (ForInStep.yield ((name,a)::r)) else pure (ForInStep.yield r):Sem (List (Str × Aw)))=pure (Gf env.cells scope.names []) from e]
 rfl
theorem WZ{cells:List (Str × Aw)}:∀{names:List (Str × NameKind)} {acc:List (Str × Aw)},(∀y∈names,y.2=.free->∃c,cells.lookup y.1=some c)->(∀x c,acc.lookup x=some c->cells.lookup x=some c) ->
  ∀x c,(Gf cells names acc).lookup x=some c->cells.lookup x=some c
 | [],acc,_,ha,x,c,h=>ha x c h
 | (n,k)::r,acc,hf,ha,x,c,h=>by
  refine WZ (names:=r) (fun y q=>hf y (Qal _ q)) (fun y d hd=>?_) x c h
  by_cases hk:(k == NameKind.free)=true
  ·rw [Qa0 hk] at hd
   obtain ⟨e,he⟩:=hf (n,k) Qah (by simpa using hk);have C:cells.lookup n=some e:=he;rw [C,Qcz] at hd;cases q:y == n with
   | true =>
    rw [q] at hd;have D:y=n:=by simpa using q
    rw [D,C];exact hd
   | false =>
    rw [q] at hd;exact ha y d hd
  ·grind
theorem ju{cells:List (Str × Aw)}:∀{names:List (Str × NameKind)} {acc:List (Str × Aw)} {x:Str},(∃c,acc.lookup x=some c)->∃c,(Gf cells names acc).lookup x=some c
 | [],acc,x,h=>h
 | (n,k)::r,acc,x,h=>by
  rw [Gf];refine ju (names:=r) ?_
  by_cases hk:(k == NameKind.free)=true
  ·grind
  ·rw [Qaw hk];exact h
theorem Xd{cells:List (Str × Aw)}:∀{names:List (Str × NameKind)} {acc:List (Str × Aw)} {x:Str},names.lookup x=some .free->∃c,(Gf cells names acc).lookup x=some c
 | [],acc,x,h=>by cases h
 | (n,k)::r,acc,x,h=>by
  rw [Gf];rw [Qcz] at h;cases hx:x == n with
  | true =>
   rw [hx] at h;have hk:k=.free:=Option.some.inj h;refine ju (names:=r) ?_;rw [hk,Qa0 (show (NameKind.free == NameKind.free)=true by rfl),Qcz,hx];exact ⟨_,rfl⟩
  | false =>
   rw [hx] at h;exact Xd (names:=r) h
theorem Wi{scope:Scope}{env:Env}(hk:env.scope.kind=.function):∀{names:List (Str × NameKind)} {x:Str},names.lookup x=some .free->env.kindOf x=some .cell ->
  (names.map fun (n,k)=>if (k == NameKind.free && env.scope.kind == .function && env.kindOf n == some .cell)=true then (n,NameKind.cell) else (n,k)).lookup x=some .cell
 | [],_,h,_=>by cases h
 | (n,k)::r,x,h,hc=>by
  rw [Qcz] at h;show List.lookup x ((if (k == NameKind.free && env.scope.kind == .function && env.kindOf n == some .cell)=true then (n,NameKind.cell) else (n,k))::_)=_;cases hx:x == n with
  | true =>
   rw [hx] at h;have C:k=.free:=Option.some.inj h;have q:x=n:=by simpa using hx
   rw [C,hk,<-q,hc];simp [Qcz]
  | false =>
   rw [hx] at h;have G:=Wi (scope:=scope) hk (names:=r) h hc
   by_cases D:(k == NameKind.free && env.scope.kind == .function && env.kindOf n == some .cell)=true
   ·grind
   ·grind
theorem XO{env:Env}:∀{names:List (Str × NameKind)} {x:Str},names.lookup x=some .free->env.kindOf x=some .free ->
  (names.map fun (n,k)=>if (k == NameKind.free && env.scope.kind == .function && env.kindOf n == some .cell)=true then (n,NameKind.cell) else (n,k)).lookup x=some .free
 | [],_,h,_=>by cases h
 | (n,k)::r,x,h,hc=>by
  rw [Qcz] at h;show List.lookup x ((if (k == NameKind.free && env.scope.kind == .function && env.kindOf n == some .cell)=true then (n,NameKind.cell) else (n,k))::_)=_;cases hx:x == n with
  | true =>
   rw [hx] at h;have q:k=.free:=Option.some.inj h;have C:¬(k == NameKind.free && env.scope.kind == .function && env.kindOf n == some .cell)=true:=by
    grind
   rw [Qaw C,Qcz,hx,q]
  | false =>
   rw [hx] at h;have D:=XO (names:=r) h hc
   by_cases C:(k == NameKind.free && env.scope.kind == .function && env.kindOf n == some .cell)=true
   ·grind
   ·grind
theorem Wj{env:Env}:∀{names:List (Str × NameKind)} {x:Str},(∀y∈names,y.2≠.cell) ->
    ((names.map fun (n,k)=>if (k == NameKind.free && env.scope.kind == .function && env.kindOf n == some .cell)=true then (n,NameKind.cell) else (n,k)).lookup x=some .cell \/
     (names.map fun (n,k)=>if (k == NameKind.free && env.scope.kind == .function && env.kindOf n == some .cell)=true then (n,NameKind.cell) else (n,k)).lookup x=some .free)->names.lookup x=some .free
  | [],_,_,h=>by rcases h with h | h <;> cases h
  | (n,k)::r,x,hn,h=>by
    have D:=Wj (env:=env) (names:=r) (x:=x) fun y q=>hn y (Qal _ q)
    by_cases C:(k == NameKind.free && env.scope.kind == .function && env.kindOf n == some .cell)=true
    · grind
    · grind
def cxC(X:Cx)(N':Ai)(scope:Scope)(C:Aw)(s₂:As)(H₂:Hp)(ex:List Aw):Cx :=
 { X with N:=N',s₀:=s₂,H₀:=H₂,env:=compEnvC scope (Gf X.env.cells scope.names []) C X.env,outer:=X.stack,stack:=X.stack,ex:=ex,fn:=fun _=>false,pn:=[],xe:=fun _ _=>False }
def J1(is:Aj)(σ:St)(v:Option V):St:=v::is.map fun i=>(σ[i]?).getD none
structure ZR(S scope:Scope)(N:Ai)(x:Str)(ys:Ai)(is:Aj):Prop where
 kind:scope.kind=.function:=by rfl
 cell:∀y∈scope.names,y.2≠.cell:=by decide +kernel
 names:∀y∈scope.names,y.2=.local->scope.names.lookup y.1=some .local:=by decide +kernel
 own:scope.names.lookup x=some .local:=by rfl
 free:∀y∈scope.names,y.2=.free->S.names.lookup y.1=some .cell\/S.names.lookup y.1=some .free:=by decide +kernel
 vis:∀p∈ys.zip is,N[p.2]?=some p.1/\scope.names.lookup p.1=some .free:=by decide +kernel
 len:ys.length=is.length:=by rfl
 nd:(x::ys).Nodup:=by decide +kernel
def PF(X:Cx)(ifs:An)(t:TT):Prop :=
 ∀(pins:Ac) (s:As) (σ:St) (H:Hp) (Q:Bool->Hp->Prop),Inv X pins σ H s->t σ H Q ->
  wpAny (model X.prog X.w) X.A (forIn ifs true fun c r=>if r=true then do let ok <-isTrue c X.env (eval c X.env);pure (ForInStep.yield ok) else pure (ForInStep.yield r)) (TP X pins σ Q) X.xe s
structure QF(X:Cx)(ifs:An)(t:TT):Prop where
 out:PF X ifs t
def Zch:TT:=fun _ H Q=>Q true H
theorem Xw{X:Cx}:QF X [] Zch:=⟨fun _ _ _ H _ I h=>wpAny_tests_nil ⟨H,I,h⟩⟩
theorem vM{X:Cx}{c:Ax}{t:TT}(h:QT X c t):QF X [c] t:=⟨fun pins s σ H Q I hw=>wpAny_tests_one (h.out pins s σ H Q I hw)⟩
section
variable {X:Cx}{S scope:Scope}{N:Ai}{x:Str}{ys:Ai}{is:Aj}{pins:Ac}{σ:St}{H₂:Hp}{s₂:As}{fp:List Aw}
theorem ZR.cellOf'(K:ZR S scope N x ys is)(C:X.env.scope=S)(ok:X.Ok):∀y∈scope.names,y.2=.free->∃c,X.env.cells.lookup y.1=some c:=fun y q h =>
 ok.has y.1 (by show X.env.scope.names.lookup y.1=_\/X.env.scope.names.lookup y.1=_;rw [C];exact K.free y q h)
theorem ZR.cl(K:ZR S scope N x ys is)(q:X.env.scope=S)(ok:X.Ok):∀y c,(Gf X.env.cells scope.names []).lookup y=some c->X.env.cells.lookup y=some c :=
 WZ (K.cellOf' q ok) fun _ _ z=>by cases z
theorem G1{names:List (Str × NameKind)}{y:Str}{k:NameKind}(h:names.lookup y=some k):(y,k)∈names:=by
 induction names with
 | nil=>cases h
 | cons p r C =>
  obtain ⟨n,q⟩:=p;rw [Qcz] at h;cases hx:y == n with
  | true =>
   rw [hx] at h;have e1:y=n:=by simpa using hx
   have e2:q=k:=Option.some.inj h;rw [e1,e2];exact Qah
  | false =>
   rw [hx] at h;exact Qal _ (C h)
theorem ug(K:ZR S scope N x ys is)(D:X.env.scope=S)(I:Inv X pins σ H₂ s₂)(G:s₂.heap.objs.size<=a)(q:∀b∈fp,GC X pins H₂ b)(C:∀b∈fp,b < s₂.heap.objs.size):(cxC X (x::ys) scope a s₂ H₂ fp).Ok where
 mod:=I.ok.mod
 kind:=K.kind
 glob:=I.ok.glob
 blt:=I.ok.blt
 above:=G
 inj:=fun y z c h1 h2=>I.ok.inj y z c (K.cl D I.ok y c h1) (K.cl D I.ok z c h2)
 has:=fun y J=>Xd (Wj (env:=X.env) K.cell J)
 cab:=fun y c h=>by cases h
 hd:=I.ok.hd
 frames:=I.ok.frames
 stk:=.inl rfl
 exf:=fun b hb=>⟨fun e=>absurd (Qbb (C b hb) (Qaz G (Qgp (Eq.symm e)))) (Qbw _),fun y c h=>(q b hb).2.2.2.2.1 y c (K.cl D I.ok y c h)⟩
 bs:=I.bs
 bsz:=Qaz I.ok.bsz I.sz
 noex:=fun b o e hb=>by
  rcases (q b hb).2.2.2.1 with z | z
  ·exact I.ok.noex b o e z
  ·exact absurd (Qbb (Qan e) (Qaz I.ok.bsz z)) (Qbw _)
 exfs:=fun b hb z=>by
  rcases Qam.mp (I.stkSub b z) with e | e
  ·exact (q b hb).2.1 e
  ·exact (q b hb).2.2.1 e
 funs:=I.stack
 frf:=I.stkFree
theorem Zf2(K:ZR S scope N x ys is)(G:X.env.scope=S)(hN:X.N=N)(hk:S.kind=.function)(I:Inv X pins σ H₂ s₂){q:Heap}{tk:Nat}(hC:s₂.heap.objs.size<=a)(hD:s₂.heap.objs.size<=f)(hDC:f≠a)
  (hfp:∀b∈fp,GC X pins H₂ b) (Z:∀b∈fp,b < s₂.heap.objs.size) (D:∀b o,s₂.heap.get? b=some o->q.get? b=some o) (hn:q.Ns a fun _=>none) (L:q.get? f=some J) (hod:∀v,J.data≠.cell v) :
  Inv (cxC X (x::ys) scope a s₂ H₂ fp) [(f,J)] (J1 is σ none) H₂ { s₂ with heap:=q,toks:=tk }:=by
 have ok:=ug K G I hC hfp Z;refine ⟨ok,rfl,I.bare,Un.kept D,⟨_,hn,fun i y v h1 h2 h3=>?_⟩,fun y c h=>?_,I.hok.fresh hC,fun y c h=>I.freeC y c (K.cl G I.ok y c h),fun p hp=>?_,I.hok.kept D,?_⟩
 ·cases i with
  | zero =>
   have C:some (none:Option V)=some (some v):=h2;cases C
  | succ i =>
   have Y:ys[i]?=some y:=h1;have C:(is.map fun i=>(σ[i]?).getD none)[i]?=some (some v):=h2;rw [Qai] at C;cases hj:is[i]? with
   | none=>rw [hj] at C;cases C
   | some j =>
    have hσ:σ[j]?=some (some v):=by
     grind
    have hz:(y,j)∈ys.zip is:=by
     obtain ⟨a1,e1⟩:=Qaf.mp Y;obtain ⟨a2,e2⟩:=Qaf.mp hj;rw [<-e1,<-e2,<-Qfb (h:=by rw [Qd3];lia)];exact Qbm _
    obtain ⟨v1,O⟩:=K.vis _ hz;have kc:X.env.kindOf y=some .cell\/X.env.kindOf y=some .free:=by show X.env.scope.names.lookup y=_\/X.env.scope.names.lookup y=_;rw [G];exact K.free _ (G1 O) rfl
    obtain ⟨m,hm,hl⟩:=I.loc;obtain ⟨u,r,l⟩:=hl j y v (by rw [hN];exact v1) hσ (.inr kc);refine ⟨u,r,.inr ?_⟩;rcases l with ⟨l1,_⟩ | ⟨_,c,l2,l3⟩
    ·grind
    ·obtain ⟨c',M⟩:=Xd (cells:=X.env.cells) (acc:=[]) O
     have e:c'=c:=by have:=K.cl G I.ok y c' M;rw [l2] at this;exact (Option.some.inj this).symm
     subst e;refine ⟨kc.imp (Wi (scope:=scope) (by rw [G];exact hk) O) (XO O),c',M,?_⟩;obtain ⟨o,ho,hd⟩:=l3;exact ⟨o,D _ _ ho,hd⟩
 ·obtain ⟨v,o,ho,hd⟩:=I.cell y c (K.cl G I.ok y c h)
  exact ⟨v,o,D _ _ ho,hd⟩
 ·have e:p=(f,J):=by simpa [cxC] using hp
  subst e;refine ⟨L,I.hok.fresh hD,hDC,fun z=>?_,hod⟩;obtain ⟨_,o,ho,_⟩:=ok.funs.mem z;exact absurd (Qbb (Qan ho) hD) (Qbw _)
 ·show (J1 is σ none).length=(x::ys).length
  unfold J1;rw [Qax,Qac,Qax,K.len]
theorem uh(I:Inv X pins σ H₂ s₂){N':Ai}{L:St}{H':Hp}{pl:Ac}(G:Inv (cxC X N' scope a s₂ H₂ fp) pl L H' s)(M:s₂.heap.objs.size<=f)(D:H' f=none)
  (C:∀b∈fp,GC X pins H₂ b) {zs:A2}   (N:zs.length<=sizeLine) (r:Vals zs U) (hd:s.heap.get? f=some { cls:=.type "list",data:=.seq U.toArray n }) :
  Inv X pins σ (upd H' f (.lst zs)) s:=by
 have b:Un (frs X.stack) fp H₂ H' s₂.heap s.heap:=G.base;have ne:∀c o,s₂.heap.get? c=some o->c≠f:=fun c o e z=>absurd (Qbb (Qan e) (Qaz M (Qgp (Eq.symm z)))) (Qbw _);have J:H₂ f=none:=I.hok.fresh M;refine I.call' G.os ⟨b.keep,b.slot,fun c o e n hx=>?_,b.there,fun c xs e=>?_,fun c o u e=>?_,fun c ps e=>?_⟩ (fun c u e=>?_) G.bare fun c hc=>⟨(C c hc).2.2.2.1,(C c hc).2.1,(C c hc).2.2.2.2.1,(C c hc).2.2.2.2.2⟩
 ·rw [Zj (ne c o e)];exact b.free c o e n hx
 ·rw [Zj (Zl e J)];exact b.tups c xs e
 ·rw [Zj (Zl e J)];exact b.frzs c o u e
 ·rw [Zj (Zl e J)];exact b.tbls c ps e
 ·by_cases hc:c=f
  ·subst hc
   rw [Za] at e;cases e;exact ⟨N,U,n,r,hd⟩
  ·rw [Zj hc] at e
   exact (G.hok c u e).stay (fun _ _ _ q=>q) (fun d q=>by rw [Zj (Zl q D)];exact q) fun d xs q=>by rw [Zj (Zl q D)];exact q
end
section
variable {prog:Aq}{w:Au}{A:Ar}{R:Result->Shared->Prop}{s:As}
theorem jv{q iter:Ax}{scope:Scope}{it acc:Av}{env:Env}(I:Nat->Shared->Prop)
  (Z:∀n s,I n s->wpAny (model prog w) A (pyNext it) (fun r C=>match r with
   | none=>R (.ok .next) C
   | some v=>wpAny (model prog w) A (letOwnedTupleGo q it v) (fun _ G=>wpAny (model prog w) A (assign q env v) (fun _ s₂ =>
     wpAny (model prog w) A (forIn B true fun c r=>if r=true then do let ok <-isTrue c env (eval c env);pure (ForInStep.yield ok) else pure (ForInStep.yield r)) (fun ok D =>
      if ok=true then wpAny (model prog w) A (eval o env) (fun x N =>
       wpAny (model prog w) A (call (.builtin "list.append") [acc,x]) (fun _ L=>∃m,m < n/\I m L) (fun _ _=>False) N) (fun _ _=>False) D
      else ∃m,m < n/\I m D) (fun _ _=>False) s₂) (fun _ _=>False) G) (fun _ _=>False) C) (fun _ _=>False) s)
  (n:Nat) (h:I n s) :
  codeAny (model prog w) A (.compLoop (.ListComp o [⟨q,iter,B,0⟩] scope p) 0 it acc env) R s:=by
 refine codeAny_loop rfl I (fun n s hI=>?_) n h;refine wpAny_noted ?_;have S:∀{E:Ab} (e:Av) (s':As),False->E e s':=fun _ _ z=>z.elim;refine Qaa (wpAny_standAt (Qaa (Qdj (Z n s hI) (fun r C M=>?_) S)));cases r with
 | none=>exact Qae M
 | some v =>
  refine Qaa (Qdj M (fun _ G O=>?_) S);refine Qaa (Qdj O (fun _ s₂ Y=>Qaa (Qdj Y (fun ok D J=>?_) S)) S);cases ok with
  | false=>exact Qae ⟨rfl,J⟩
  | true =>
   exact Qaa (Qaa (Qdj J (fun x N h₄=>Qaa (Qdj h₄ (fun _ L h₅=>Qae (Qae ⟨rfl,h₅⟩)) S)) S))
end
def GP(is:Aj)(tc:TT)(te:TE)(σ:St)(Q:VK)(J:It)(H1:Hp):Prop:=∃W:Nat->Nat->List V->Hp->Prop,(∃m,W 0 m [] H1)/\∀i m zs H,W i m zs H ->
 (J.stop i H/\zs.length<=sizeLine/\∀p,H p=none->Q (.ref p) (upd H p (.lst zs))) \/
 (J.go i H/\zs.length<=sizeLine/\∀x H',J.yld i H x H'->tc (J1 is σ (some x)) H' fun b H2=>if b=true then te (J1 is σ (some x)) H2 fun y C=>∃q,q < m/\W (i + 1) q (zs++[y]) C else ∃q,q < m/\W (i + 1) q zs H2)
def Zix(wi:TI)(is:Aj)(tc:TT)(te:TE):TE:=fun σ H Q=>wi σ H (GP is tc te σ Q)
section
variable {X:Cx}{S scope:Scope}{N:Ai}{x:Str}{ys:Ai}{is:Aj}{pins:Ac}{σ:St}{H₂:Hp}{s₂:As}{fp:List Aw}{elt iter:Ax}{px pos:Pos}{ifs:An}{tc:TT}{te:TE}
theorem x8{J:It}{it:Aw}{tn:Nat->Heap->Prop}{Q:VK}{RR:Av->Addr->Result->Shared->Prop}{E:Ab}(K:ZR S scope N x ys is)(hX:X.env.scope=S)(hN:X.N=N)(hk:S.kind=.function)(hc:X.calm=true)
  (hf:∀C s₂ H₂ ex,QF (cxC X (x::ys) scope C s₂ H₂ ex) ifs tc) (he:∀C s₂ H₂ ex,QE (cxC X (x::ys) scope C s₂ H₂ ex) elt te)
  (I:Inv X pins σ H₂ s₂) (T:Turn X.prog X.w X.K (.Name x px) J fp it tn) (st:tn 0 s₂.heap) (hfp:∀b∈fp,GC X pins H₂ b)
  {W:Nat->Nat->List V->Hp->Prop}  (w0:W 0 Z [] H₂)
  (turn:∀i m zs H,W i m zs H->(J.stop i H/\zs.length<=sizeLine/\∀p,H p=none->Q (.ref p) (upd H p (.lst zs))) \/
   (J.go i H/\zs.length<=sizeLine/\∀x H',J.yld i H x H'->tc (J1 is σ (some x)) H' fun b H2=>if b=true then te (J1 is σ (some x)) H2 fun y H3=>∃O,O < m/\W (i + 1) O (zs++[y]) H3 else ∃O,O < m/\W (i + 1) O zs H2))
  (fin:∀D C s' H' O,Inv X pins σ H' s'->GC X pins H' C->s'.heap.Ns C O->Q (.ref D) H'->RR (.ref D) C (.ok .next) s') :
  wpAny (model X.prog X.w) X.A (newList []) (fun acc M=>wpAny (model X.prog X.w) X.A (newFunctionEnv scope X.env.globals (Gf X.env.cells scope.names []) [] X.env.qual none .none (some X.env)) (fun cenv s₄ =>
   codeAny (model X.prog X.w) X.A (.compStart (.ListComp elt [⟨.Name x px,iter,ifs,0⟩] scope pos) 0 (.ref it) acc { cenv with scope:=relabel scope X.env }) (RR acc cenv.locals) s₄) E M) E s₂:=by
 refine Qbh (Qf7 K.cell (by intro y hy;simp at hy) (fun h₁ Y L=>?_) K.kind);generalize hH2:s₂.heap.push { cls:=.type "list",dict:=none,data:=.seq ([]:Ag).toArray }=H2 at Y L ⊢;have hCs:H2.objs.size=s₂.heap.objs.size + 1:=by rw [<-hH2,Qbq]
 have hDC:s₂.heap.objs.size≠H2.objs.size:=by rw [hCs];exact Qbd (Qdg _)
 have hC:s₂.heap.objs.size<=H2.objs.size:=by rw [hCs];exact Qdu _
 have hlt:∀b∈fp,b < s₂.heap.objs.size:=fun b hb=>by obtain ⟨o,e,_⟩:=T.obj 0 _ st b hb;exact Qan e
 have old:∀b o,s₂.heap.get? b=some o->h₁.get? b=some o:=fun b o e=>L.extBut b o (by rw [hCs];exact Qbd (Qcg (Qan e))) (Qab _ (hH2 ▸ Qab _ e));have hacc:h₁.get? s₂.heap.objs.size=some { cls:=.type "list",data:=.seq ([]:Ag).toArray 0 }:=L.extBut _ _ hDC (Qab _ (hH2 ▸ Qak _ rfl));have st₁:tn 0 h₁:=T.keep _ _ _ st fun b _ o e=>old b o e;have fpC:∀{H':Hp} {pl:Ac},(∀p∈pl,∀b∈fp,p.1≠b)->(∀b∈fp,H' b=none)->∀b∈fp,GC (cxC X (x::ys) scope H2.objs.size s₂ H₂ fp) pl H' b:=fun {H' pl} hpl hn b hb=>by
  have ok:=ug K hX I hC hfp hlt;exact ⟨hn b hb,(ok.exf b hb).1,ok.exfs b hb,.inl hb,(ok.exf b hb).2,fun p hp=>hpl p hp b hb⟩
 have Dfp:∀(o:Obj),∀p∈[(s₂.heap.objs.size,o)],∀b∈fp,p.1≠b:=fun o p hp b hb e=>by
  grind
 have loop:∀M:As,M={ s₂ with heap:=h₁,toks:=s₂.toks + ([]:List (Str × Av)).length } ->
   codeAny (model X.prog X.w) X.A (.compLoop (.ListComp elt [⟨.Name x px,iter,ifs,0⟩] scope pos) 0 (.ref it) (.ref s₂.heap.objs.size) (compEnvC scope (Gf X.env.cells scope.names []) H2.objs.size X.env))
    (RR (.ref s₂.heap.objs.size) H2.objs.size) M:=by
  rintro M rfl;have I0:=Zf2 K hX hN hk I (tk:=s₂.toks + ([]:List (Str × Av)).length) hC (Qag _) hDC hfp hlt old Y hacc (fun v z=>by cases z);refine jv (fun n s'=>∃(i:Nat) (v0:Option V) (zs:A2) (G:Ag) (k:Nat) (H':Hp),Inv (cxC X (x::ys) scope H2.objs.size s₂ H₂ fp) [(s₂.heap.objs.size,{ cls:=.type "list",data:=.seq G.toArray k })] (J1 is σ v0) H' s' /\
   Vals zs G/\tn i s'.heap/\(∀b∈fp,H' b=none)/\W i n zs H') ?_ Z ⟨0,none,[],[],0,H₂,I0,.nil,st₁,fun b hb=>(hfp b hb).1,w0⟩
  rintro n s3 ⟨i,v0,zs,G,k,H3,I3,rv,st3,fr3,w3⟩;rcases turn i n zs H3 w3 with ⟨stop,hz,q⟩ | ⟨go,hz,step⟩
  ·refine thn (T.done (cxC X (x::ys) scope H2.objs.size s₂ H₂ fp) rfl rfl rfl hc i _ s3 _ H3 _ I3 (fpC (Dfp _) fr3) st3 stop) fun r s4 ⟨hr,I4⟩=>?_
   subst hr;have hD4:=I4.pin _ (Qay _ (Qat.mpr rfl));have I5:=uh I I4 (Qag _) hD4.2.1 hfp hz rv hD4.1;obtain ⟨O,hm',_⟩:=I4.loc;refine fin _ _ s4 _ O I5 ?_ hm' (q _ hD4.2.1);refine I.fpOk hC ?_;rw [Zj (Qdo hDC)];exact I4.free
  ·refine thn (T.item (cxC X (x::ys) scope H2.objs.size s₂ H₂ fp) rfl rfl rfl hc i _ s3 _ H3 _ I3 (fpC (Dfp _) fr3) st3 go) fun r s4 ⟨u,hr,h4⟩=>?_
   subst hr;refine thn h4 fun _ s5 ⟨xv,H5,I5,r5,y5,st5,fr5⟩=>?_;have I5':=I5.pinned (fpC (Dfp _) fr5) (T.obj _ _ st5);have pg:PG (cxC X (x::ys) scope H2.objs.size s₂ H₂ fp) (.Name x px) (WN 0):=za K.nd rfl (.inl (Qdx K.own)) (.inr (Qdx K.own));refine thn (pg _ s5 _ H5 xv u (fun σ2 H2=>σ2=J1 is σ (some xv)/\H2=H5) I5' r5 ⟨rfl,rfl⟩) fun _ s6 ⟨σ6,H6,I6,e6,e6'⟩=>?_;subst e6;subst e6';have back:∀{s7:As} {H7:Hp},Inv (cxC X (x::ys) scope H2.objs.size s₂ H₂ fp) ([(s₂.heap.objs.size,{ cls:=.type "list",data:=.seq G.toArray k })]++x4 fp s5.heap) (J1 is σ (some xv)) H7 s7 ->
     tn (i + 1) s7.heap/\(∀b∈fp,H7 b=none)/\s7.heap.get? s₂.heap.objs.size=some { cls:=.type "list",data:=.seq G.toArray k }/\H7 s₂.heap.objs.size=none:=fun {s7 H7} I7=>by
    refine ⟨T.keep _ _ _ st5 fun b hb o e=>(I7.pin (b,o) (Qay _ (Qay _ (Xg hb e)))).1,fun b hb=>?_,?_,?_⟩
    ·obtain ⟨o,e,d⟩:=T.obj _ _ st5 b hb
     exact (I7.pin (b,o) (Qay _ (Qay _ (Xg hb e)))).2.1
    ·exact (I7.pin (s₂.heap.objs.size,{ cls:=.type "list",data:=.seq G.toArray k }) (Qay _ (Qde _ (Qat.mpr rfl)))).1
    ·exact (I7.pin (s₂.heap.objs.size,{ cls:=.type "list",data:=.seq G.toArray k }) (Qay _ (Qde _ (Qat.mpr rfl)))).2.1
   refine thn ((hf _ _ _ _).out _ s6 _ H6 _ I6 (step xv H6 y5)) fun b s7 ⟨H7,I7,q7⟩=>?_;cases b with
   | false =>
    have q7':∃O,O < n/\W (i + 1) O zs H7:=by simpa using q7
    obtain ⟨O,hm',w7⟩:=q7';obtain ⟨b1,b2,b3,b4⟩:=back I7;exact ⟨O,hm',i + 1,some xv,zs,G,k,H7,I7.unpinned,rv,b1,b2,w7⟩
   | true =>
    have q7':=q7;refine thn ((he _ _ _ _).out _ s7 _ H7 _ I7 q7') fun yv s8 ⟨y,H8,I8,r8,O,hm',w8⟩=>?_;obtain ⟨b1,b2,b3,b4⟩:=back I8;refine append_at b3 (fun h9 sb9 e9=>?_) (by rw [Qa2,<-rv.length];exact hz);have ok:=ug K hX I hC hfp hlt;have I8':Inv (cxC X (x::ys) scope H2.objs.size s₂ H₂ fp) [] (J1 is σ (some xv)) H8 s8:=I8.pins_of fun p hp=>by cases hp
    have I9:Inv (cxC X (x::ys) scope H2.objs.size s₂ H₂ fp) [] (J1 is σ (some xv)) H8 { s8 with heap:=h9 }:=I8'.turned (t':=s8.toks) (it:=s₂.heap.objs.size) (fun b o hb e=>(sb9.2 b hb).trans e) b4 hDC (.inr (Qag _))
     (fun y c h z=>by
      obtain ⟨v,o,ho,_⟩:=I.cell y c (K.cl hX I.ok y c h);have:=Qan ho;rw [z] at this;exact Qbw _ this) (fun p hp=>by cases hp)
    refine ⟨O,hm',i + 1,some xv,zs++[y],G++[yv],k + 1,H8,?_,rv.append (.cons r8 .nil),T.keep _ _ _ b1 fun b hb o e=>(sb9.2 b fun z=>absurd (hlt b hb) (by rw [z];exact Qbw _)).trans e,b2,w8⟩;refine I9.pins_of fun p hp=>?_;have e1:p=(s₂.heap.objs.size,{ cls:=.type "list",data:=.seq (G++[yv]).toArray (k + 1) }):=by simpa using hp
    subst e1;refine ⟨by rw [e9,List.push_toArray],b4,hDC,fun z=>?_,fun v z=>by cases z⟩;obtain ⟨_,o,ho,_⟩:=ok.funs.mem z;exact absurd (Qan ho) (Qbw _)
 exact codeAny_compStart_list (loop _ rfl) (T.self _ 0 _ _ _ st₁ (loop _ rfl))
end
section
variable {X:Cx}{S scope:Scope}{N:Ai}{x:Str}{ys:Ai}{is:Aj}{elt iter:Ax}{px pos:Pos}{ifs:An}{wi:TI}{tc:TT}{te:TE}
theorem YO(K:ZR S scope N x ys is)(hi:QI X (.Name x px) iter wi)(hf:∀C s₂ H₂ ex,QF (cxC X (x::ys) scope C s₂ H₂ ex) ifs tc)(he:∀C s₂ H₂ ex,QE (cxC X (x::ys) scope C s₂ H₂ ex) elt te)
  (hc:X.calm=true:=by rfl) (Y:X.env.scope=S:=by rfl) (hN:X.N=N:=by rfl) (hk:S.kind=.function:=by rfl) (hs:∀v,foldedSetIterable iter X.env v=pure v:=by intro _;rfl) :
  QE X (.ListComp elt [⟨.Name x px,iter,ifs,0⟩] scope pos) (Zix wi is tc te):=by
 refine ⟨fun pins s σ H Q I h=>?_⟩;refine Qff (use:=none) rfl hs (X9 (K.cellOf' Y I.ok)) K.kind K.names (thn (hi.out pins s σ H _ I h) fun v s1 h1=>thn h1 fun itv s2 h2=>?_);obtain ⟨it,fp,tn,J,H2,rfl,I2,T,M,Z,W,⟨m0,w0⟩,G⟩:=h2;refine x8 (RR:=fun acc C=>compPost (model X.prog X.w) X.A X.xe none (EP X pins σ Q) acc C) K Y hN hk hc hf he I2 T M Z w0 G ?_;intro D C s' H' m' I' fC O q;obtain ⟨f0,f1,f3,f4,f5,f6⟩:=fC;exact ⟨m',O,fun h' L=>⟨.ref D,H',I'.turned (t':=s'.toks) (fun b o hb e=>(L.2 b hb).trans e) f0 f1 f4 f5 f6,rfl,q⟩⟩
theorem yB{y:Str}{spos:Pos}(hNd:X.N.Nodup)(hy:X.N[i]?=some y)(hl:X.env.scope.names.lookup y=some .local)(K:ZR S scope N x ys is)(hi:QI X (.Name x px) iter wi)
  (hf:∀C s₂ H₂ ex,QF (cxC X (x::ys) scope C s₂ H₂ ex) ifs tc) (he:∀C s₂ H₂ ex,QE (cxC X (x::ys) scope C s₂ H₂ ex) elt te)
  (Z:swapsWith (.ListComp elt [⟨.Name x px,iter,ifs,0⟩] scope pos) (some (.Name y D)) spos.line X.env=pure true:=by rfl)
  (hc:X.calm=true:=by rfl) (hX:X.env.scope=S:=by rfl) (hN:X.N=N:=by rfl) (hk:S.kind=.function:=by rfl) (hs:∀v,foldedSetIterable iter X.env v=pure v:=by intro _;rfl) :
  QS X (.Assign [.Name y D] (.ListComp elt [⟨.Name x px,iter,ifs,0⟩] scope pos) spos) (Zio (Zix wi is tc te) (WN i)):=by
 refine ⟨fun pins s σ H G I h=>?_⟩;rw [exec_Assign_Name_used _ _ _ _ Z];refine Qaa (wpAny_standAt (Qaa ?_));refine Qaa (thn (Qff (use:=some (assign (.Name y D) X.env)) (Q:=fun _ s'=>SP X pins G .next s') rfl hs (X9 (K.cellOf' hX I.ok)) K.kind K.names
  (thn (hi.out pins s σ H _ I h) fun v s1 h1=>thn h1 fun itv s2 h2=>?_)) fun _ s' hq=>Qae (Qae hq))
 obtain ⟨it,fp,tn,J,H2,rfl,I2,T,st2,f2,W,⟨m0,w0⟩,M⟩:=h2;refine x8 (RR:=fun acc C=>compPost (model X.prog X.w) X.A X.xe (some (assign (.Name y D) X.env)) (fun _ s'=>SP X pins G .next s') acc C) (Q:=fun v H=>G.nx (σ.set i (some v)) H) K hX hN hk hc hf he I2 T st2 f2 w0 M ?_;intro Dl C s' H' m' I' fC hm' q;obtain ⟨f0,f1,f3,f4,f5,f6⟩:=fC;obtain ⟨oC,es,ep,hoC,hdC,Y⟩:=hm';have Ip:Inv X (pins++[(C,oC)]) σ H' s':=I'.pins_of fun p hp=>(Qca.mp hp).elim (fun z=>I'.pin p (Qay _ z)) fun z=>by
  grind
 refine wpAny_assign_Name (WX Ip hNd hy (.inl hl) (v:=.ref Dl) rfl (fun s'' L=>?_) (.inr hl));have hC2:=(L.pin (C,oC) (Qay _ (Qay _ (Qat.mpr rfl)))).1;refine ⟨m',⟨oC,es,ep,hC2,hdC,Y⟩,fun h' O=>⟨_,H',L.unpinned.turned (t':=s''.toks) (fun b o hb e=>(O.2 b hb).trans e) f0 f1 f4 f5 f6,q⟩⟩
end
theorem wk{lo:Int}{is:Aj}{Q:VK}(C:Nat->List V->Hp->Prop)(J:C 0 [] H)(hl:∀i zs H,C i zs H->zs.length<=sizeLine)
  (hs:∀i zs H (R:A2->Hp->Prop),(∀zs H,C (i + 1) zs H->R zs H)->i < n->C i zs H->G (J1 is d (some (.int (lo + i)))) H fun b H2=>if b=true then c (J1 is d (some (.int (lo + i)))) H2 fun y L=>R (zs++[y]) L else R zs H2)
  (hd:∀zs H,C n zs H->∀p,H p=none->Q (.ref p) (upd H p (.lst zs))) :
  GP is G c d Q (Itr lo n) H:=by
 refine ⟨fun i m zs H=>m=n - i/\i<=n/\C i zs H,⟨n,by simp,Qbc _,J⟩,?_⟩;rintro i m zs H ⟨rfl,hi,p⟩
 by_cases D:i < n
 ·refine .inr ⟨D,hl i zs H p,fun x H' y=>?_⟩
  obtain ⟨e,y⟩:=y;subst e y;exact hs i zs _ (fun zs H=>∃I,I < n - i/\I=n - (i + 1)/\i + 1<=n/\C (i + 1) zs H) (fun zs H q=>⟨n - (i + 1),by lia,rfl,D,q⟩) D p
 ·have e:i=n:=by lia
  subst e;exact .inl ⟨Qag _,hl _ _ _ p,hd zs H p⟩
theorem XQ{xs:A2}{is:Aj}{Q:VK}(C:Nat->List V->Hp->Prop)(L:C 0 [] H)(hl:∀i zs H,C i zs H->zs.length<=sizeLine)(I:∀i zs H,C i zs H->SqT K H a xs)
  (hs:∀i x zs H (R:A2->Hp->Prop),(∀zs H,C (i + 1) zs H->R zs H)->xs[i]?=some x->C i zs H->G (J1 is d (some x)) H fun b H2=>if b=true then c (J1 is d (some x)) H2 fun y M=>R (zs++[y]) M else R zs H2)
  (hd:∀zs H,C xs.length zs H->∀p,H p=none->Q (.ref p) (upd H p (.lst zs))) :
  GP is G c d Q (Itt K a) H:=by
 refine ⟨fun i m zs H=>m=xs.length - i/\i<=xs.length/\C i zs H,⟨xs.length,by simp,Qbc _,L⟩,?_⟩;rintro i m zs H ⟨rfl,hi,p⟩
 by_cases D:i < xs.length
 ·refine .inr ⟨⟨xs,xs[i],I i zs H p,Qad D⟩,hl i zs H p,fun x H' y=>?_⟩
  obtain ⟨e,y⟩:=y;subst e;exact hs i x zs _ (fun zs H=>∃J,J < xs.length - i/\J=xs.length - (i + 1)/\i + 1<=xs.length/\C (i + 1) zs H) (fun zs H q=>⟨xs.length - (i + 1),by lia,rfl,D,q⟩) (y xs (I i zs _ p)) p
 ·have e:i=xs.length:=by lia
  exact .inl ⟨⟨xs,I i zs H p,by lia⟩,hl _ _ _ p,by rw [e] at p;exact hd zs H p⟩
end L2
namespace HT
open PySem PySem.Spec PyProof.Rows
section
variable {prog:Aq}{w:Au}{A:Ar}{E:Ab}{s:As}
theorem adjust_rev(n:Nat):Builtin.Slice.sliceAdjust none none (-1) (n:Int)=((n:Int) - 1,-1):=rfl
theorem wm(n:Nat):Builtin.Slice.slicePlaces ((n:Int) - 1) (-1) (-1)=n:=by
 unfold Builtin.Slice.slicePlaces;have h1:¬((-1:Int) > 0):=by lia
 have e:(- -1:Int)=1:=by decide
 rw [e,Qb3]
 split <;> lia
theorem vN{α β:Type}{f g:α->Option β}:∀{l:List α},(∀x∈l,f x=g x)->l.filterMap f=l.filterMap g
 | [],_=>rfl
 | x::r,h=>by
  rw [Qeh,Qeh,h x Qah,vN fun y q=>h y (Qal _ q)]
theorem Zci(xs:Ah):((List.range xs.size).filterMap fun (m:Nat)=>xs[((xs.size:Int) - 1 + (m:Int) * -1).toNat]?).toArray=xs.toList.reverse.toArray:=by
 congr 1;have e:((List.range xs.size).filterMap fun (m:Nat)=>xs[((xs.size:Int) - 1 + (m:Int) * -1).toNat]?)=((List.range xs.size).map fun k=>xs.size - 1 - k).filterMap (xs[·]?):=by
  rw [List.filterMap_map];refine vN fun m hm=>?_;have e:((xs.size:Int) - 1 + (m:Int) * -1).toNat=xs.size - 1 - m:=by lia
  rw [e]
  rfl
 rw [e,PySem.W.krv_range,List.filterMap_reverse,PySem.W.krv_all]
theorem Gg{t:Tok}{Q:Int × Int × Nat->Shared->Prop}(hs:s.heap.IsSliceOf a .none .none (.int (-1) t))(h:Q ((n:Int) - 1,-1,n) s) :
  wpAny (model prog w) A (Builtin.Slice.sliceApplied (.ref a) (pure (n:Int))) Q E s:=by
 obtain ⟨os,q,D,C⟩:=id hs;refine Qaa (Qaa (Qbk q C (x:=.none) rfl (Qaa (Qbk q C (x:=.none) rfl (Qaa (Qbk q C (x:=.int (-1) t) rfl (Qae ?_)))))));refine Qaa (slicePart_int ?_);refine Qaa (slicePart_none (Qaa (slicePart_none (Qaa (Qae ?_)))));show wpAny _ _ (match Builtin.Slice.sliceAdjust none none (-1) (n:Int) with | (lo,hi)=>pure (lo,(-1:Int),Builtin.Slice.slicePlaces lo hi (-1))) _ _ s;show wpAny _ _ (pure ((n:Int) - 1,(-1:Int),Builtin.Slice.slicePlaces ((n:Int) - 1) (-1) (-1))) _ _ s;rw [wm];exact Qae h
theorem getItem_tuple_rev{t:Aw}{u:Tok}{items:Ah}(C:IsTup s.heap t items)(hs:s.heap.IsSliceOf a .none .none (.int (-1) u))
  (h:Q (.ref s.heap.objs.size) { s with heap:=s.heap.push { cls:=.type "tuple",data:=.seq items.toList.reverse.toArray } })
  (hsz:items.size<=sizeLine):wpAny (model prog w) A (getItem (.ref t) (.ref a)) Q E s:=by
 have q:sizeOk (.seq items.toList.reverse.toArray):=by
  show items.toList.reverse.toArray.size<=sizeLine;rw [Qa2,Qc4,Qbn];exact hsz
 obtain ⟨os,J,G,L⟩:=id hs;have D:s.TypeIs (.ref a) "slice" := ⟨os,J,G⟩;unfold getItem
 try with_reducible refine Qcd ?_
 first | refine Qaa (Qae ?_) | skip
 refine Qaa (wpAny_sequenceKey C.typeIs (by decide) ?_);refine Qaa (wpAny_callSpecial?_slot (name:=Str.ofString "__getitem__") C.typeIs Qct
  (Qbe Qct C.typeIs entry_tuple_getitem ?_ (args_tuple_getitem _ _)))
 show wpAny _ _ (Builtin.Tuple.tupleItemsOf (.ref t) >>= _) _ _ s;refine Qaa (tupleItemsOf_ C ?_);refine Qaa (wpAny_typeOf D ?_);refine Qaa (Gg hs ?_);have I:¬((((items.size:Int) - 1) == 0 && (-1:Int) == 1 && items.size == items.size)=true):=by
  grind
 show wpAny _ _ (if ((((items.size:Int) - 1) == 0 && (-1:Int) == 1 && items.size == items.size))=true then _ else _) _ _ s;rw [Qaw I,Zci]
 first
  | exact Qaa (m:=Builtin.Tuple.tupleExact _) (Qbh (Qae ⟨_,rfl,Qae h⟩) q)
  | exact Qaa (m:=Builtin.Tuple.tupleExact _) (Qbh (Qaa (Qae (Qae ⟨_,rfl,Qae h⟩))) q)
  | exact Qaa (Qaa (m:=Builtin.Tuple.tupleExact _) (Qbh (Qae (Qae ⟨_,rfl,Qae h⟩)) q))
  | exact Qaa (Qaa (m:=Builtin.Tuple.tupleExact _) (Qbh (Qae ⟨_,rfl,Qae h⟩) q))
end
end HT
namespace L2
open PySem PySem.Spec PyProof.Rows
section
variable {X:Cx}{e st:Ax}{te ts:TE}{pos p2:Pos}
def RvR(X:Cx)(r:V->Hp->VK->Prop):Prop :=
 ∀(pins:Ac) (s:As) (σ:St) (H:Hp) (x:V) (v:Av) (t:Tok) (q:Aw) (Q:VK),Inv X pins σ H s->RelV x v->s.heap.IsSliceOf q .none .none (.int (-1) t)->r x H Q ->
  ∃T id,typeLookup (.type T) "__getitem__" = pure (some (.builtin id))/\s.TypeIs v T/\wpAny (model X.prog X.w) X.A (getItem v (.ref q)) (EP X pins σ Q) X.xe s
def tRv(r:V->Hp->VK->Prop)(te ts:TE):TE:=fun σ H Q=>te σ H fun x H1=>ts σ H1 fun y H2=>y=.int (-1)/\r x H2 Q
theorem qe_rev{r:V->Hp->VK->Prop}(hr:RvR X r)(he:QE X e te)(D:QE X st ts):QE X (.Subscript e (.Slice none none (some st) p2) pos) (tRv r te ts):=by
 refine ⟨fun pins s σ H Q I h=>?_⟩;refine Subscript_ (thn (he.out pins s σ H _ I h) fun v J ⟨x,H1,L,Y,O⟩=>?_);refine wpAny_Slice ?_;refine Qae ?_;refine Qae ?_;refine thn (D.out pins J σ H1 _ L O) fun vs C ⟨y,G,I3,r3,e3,N⟩=>?_;subst e3;obtain ⟨t,rfl⟩:=r3;have M:Inv X pins σ G { C with heap:=C.heap.push { cls:=.type "slice",data:=.fields #[.none,.none,.int (-1) t] } }:=I3.kept (t':=C.toks) fun b ob q=>Qab _ q;obtain ⟨T,id,S,Z,hg⟩:=hr pins { C with heap:=C.heap.push { cls:=.type "slice",data:=.fields #[.none,.none,.int (-1) t] } } σ G x v t C.heap.objs.size Q M Y (Heap.IsSliceOf.new ..) N;exact tail_any (ops:=[v,.ref C.heap.objs.size]) Z S hg (by with_unfolding_all rfl)
def rRvT(K:Af):V->Hp->VK->Prop:=fun x H Q=>∃a xs,x=.ref a/\SqT K H a xs/\∀p,H p=none->Q (.ref p) (upd H p (.tup xs.reverse))
theorem rv_tup:RvR X (rRvT X.K):=by
 intro pins s σ H x v t M Q I L hs h;obtain ⟨a,xs,rfl,hx,q⟩:=h;cases L;obtain ⟨D,r,J,G⟩:=I.tuple hx;have C:D.toArray.size=xs.length:=by exact r.length.symm
 refine ⟨"tuple",_,Qct.lookup,J.typeIs,?_⟩;refine HT.getItem_tuple_rev J hs ?_ (by rw [C];exact G);refine ⟨.ref s.heap.objs.size,_,I.laid (t':=s.toks) (o:=.tup xs.reverse) (fun b ob q=>Qab _ q) (Qag _) ?_,rfl,q _ (I.hok.fresh (Qag _))⟩;exact ⟨by rw [Qc4];exact G,_,r.reverse,y8.new _ _⟩
end
theorem vO{k:Nat}{A:Ar}(hr:W8 k A):A.units < cLine:=hr.units0
end L2
namespace RvT
open PySem PySem.Spec PyProof.Rows
theorem owner_rev:Manifest.owners.lookup (String.ofList ['d','e','s','r','e','v','e','r'].reverse)=some Manifest.sig_reversed:=by kernel_rfl
theorem slot_next:Slot "reversed" "__next__" "reversed.__next__" :=
 .of (owner := "reversed") (n := "__next__") (by kernel_rfl) (by decide +kernel) (by decide +kernel) (by decide +kernel)
  (by first | exact .inl (by decide +kernel) | exact .inr (by decide +kernel)) (by kernel_rfl)
theorem entry_next:entryFor table "reversed.__next__" = some Builtin.«reversed.__next__»:=entryFor_of_tree (by kernel_rfl)
theorem args_next (a:Av):argsOk "reversed.__next__" ⟨[a],[]⟩:=by
 kernel_rfl
theorem jw:Slot "reversed" "__iter__" "reversed.__iter__" :=
 .of (owner := "reversed") (n := "__iter__") (by rw [Qhc,Qf2];kernel_rfl) (by decide +kernel) (by decide +kernel) (by decide +kernel)
  (by first | exact .inl (by decide +kernel) | exact .inr (by decide +kernel)) (by rw [Qgv];kernel_rfl)
theorem ui (a:Av):argsOk "reversed.__iter__" ⟨[a],[]⟩:=by
 kernel_rfl
theorem wo:entryFor table "reversed.__iter__" = some Builtin.«dict_keyiterator.__iter__» :=
 entryFor_alias (id' := "dict_keyiterator.__iter__") (by kernel_rfl) (by first | rfl | decide +kernel | (unfold String.splitOn;simp +decide [String.splitOnAux])) (by decide +kernel) (by kernel_rfl)
theorem uj:Slot "reversed" "__init__" "object.__init__" :=
 .of (owner := "object") (n := "__init__") (by kernel_rfl) (by decide +kernel) (by decide +kernel) (by decide +kernel)
  (by first | exact .inl (by decide +kernel) | exact .inr (by decide +kernel)) (by kernel_rfl)
theorem called:TypeCalled "reversed" "reversed.__new__" "object.__init__" :=
 ⟨by decide +kernel,F.create_reversed,⟨_,_,F.mro_reversed⟩,F.made_reversed,F.plain_reversed_new,F.sub_reversed_self,uj⟩
theorem yC:typeLookup (.type "tuple") "__reversed__" = pure none:=by kernel_rfl
theorem sub_tuple_dict:isSubtype (.type "tuple") (.type "dict")=pure false:=by kernel_rfl
def revObj (t:Aw) (i:Int):Obj:={ cls:=.type "reversed",data:=.fields #[.ref t,rawInt i] }
def IsRev (h:Heap) (a t:Aw) (i:Int):Prop:=∃o,h.get? a=some o/\o.cls=.type "reversed" /\ o.data=.fields #[.ref t,rawInt i]
theorem IsRev.typeIs  {t:Aw} {i:Int} (x:IsRev s.heap a t i):s.TypeIs (.ref a) "reversed" := let ⟨o,ho,hc,_⟩:=x;⟨o,ho,hc⟩
theorem IsRev.at{h':Heap}{t:Aw}{i:Int}(x:IsRev h a t i)(e:∀o,h.get? a=some o->h'.get? a=some o):IsRev h' a t i:=let ⟨o,ho,r⟩:=x;⟨o,e _ ho,r⟩
section
variable {prog:Aq}{w:Au}{A:Ar}{E:Ab}{s:As}
theorem Xo(t:Aw)(items:Ah)(C:items.size < 2 ^ 63) :
  Meets (Builtin.«reversed.__new__» ⟨[.type "reversed",.ref t],[]⟩) (fun _ R s=>IsTup s.heap t items/\∀tk,R (.ok (.ret (.ref s.heap.objs.size))) { s with heap:=s.heap.push (revObj t ((items.size:Int) - 1)),toks:=tk }) :=
 .of_wp fun prog w A R s h=>by
  obtain ⟨q,h⟩:=h;refine Qaa (Qch (newClass_reversed _) ?_);refine Qaa (Qch (a:=()) (by first | rfl | kernel_rfl) ?_);refine Qaa (Qch (a:=()) (by first | rfl | kernel_rfl) ?_);refine Qaa (Qee q.typeIs yC ?_);refine Qaa ?_;refine Qaa (Qc0 (T := "tuple") (b:=false) q.typeIs sub_tuple_dict ?_);refine Qaa (Qee q.typeIs Qct.lookup ?_);refine Qae ?_;refine Qaa (len_tuple q (by lia) ?_);refine Qaa (Qch (a:=some (items.size:Int)) rfl ?_);refine Qaa (m:=newObj (.type "reversed") (.fields #[.ref t,rawInt ((items.size:Int) - 1)])) (Qbh ?_);exact Qae ⟨_,rfl,h _⟩
theorem call_rev{t:Aw}{items:Ah}(D:IsTup s.heap t items)(C:items.size < 2 ^ 63)(h:∀tk,Q (.ref s.heap.objs.size) { s with heap:=s.heap.push (revObj t ((items.size:Int) - 1)),toks:=tk }) :
  wpAny (model prog w) A (call (.type "reversed") [.ref t]) Q E s :=
 Qhd called (by decide) (F.typeCall_reversed_1 _) (F.newCall_reversed_1 _) (fun q=>Qf8 q _) F.entry_reversed_new (Xo t items C)
  ⟨D,fun tk=>⟨⟨_,Qak _ rfl,rfl⟩,h tk⟩⟩
theorem next_item{it t:Aw}{items:Ah}{x:Av}{Q:Aa}(q:IsRev s.heap it t (i:Int))(C:IsTup s.heap t items)(hi:(i:Int) < 2 ^ 63)(hx:items[i]?=some x)(G:t≠it)
  (D:∀h' tk,IsRev h' it t ((i:Int) - 1)->Heap.SameBut it s.heap h'->Q (some x) { s with heap:=h',toks:=tk }):wpAny (model prog w) A (pyNext (.ref it)) Q E s:=by
 obtain ⟨o,ho,hc,hd⟩:=id q;refine Qaa (Qc1 (wpAny_callSpecial?_slot (name:=Str.ofString "__next__") q.typeIs slot_next
  (Qbe slot_next q.typeIs entry_next ?_ (args_next _))))
 refine Qaa (Qch (a:=(Value.ref it,[])) rfl ?_);refine Qaa (Qbk ho hd (x:=.ref t) rfl ?_);refine Qaa (Qbk ho hd (x:=rawInt (i:Int)) rfl ?_);show wpAny _ _ (if (i:Int) < 0 then _ else _) _ _ s;refine Qaa (Qee C.typeIs Qct.lookup ?_);refine Qaa (Qfx ?_);have hsz:=(Array.getElem?_eq_some_iff.mp hx).1;refine Qaa (Qc1 (getItem_tuple (s:={ s with toks:=s.toks + 1 }) (j:=i) C (by lia) hi (by rw [Qhp (by lia) (by lia),Qbs]) hx ?_));refine Qaa (Qbk (s:={ s with toks:=s.toks + 1 }) ho hd (x:=rawInt (i:Int)) rfl ?_);refine Qaa (Qcq (s:={ s with toks:=s.toks + 1 }) ho hd (by simp) ?_);refine Qae ⟨x,rfl,Qae (D _ _ ?_ (Qbt ..))⟩;exact ⟨_,Qbj _ ho (Qcj (Qbo hd _)),(Qef ..).trans hc,by
  rw [Qbo hd];simp⟩
theorem next_end{it t:Aw}{Q:Aa}(hh:A.handled=none)(q:IsRev s.heap it t (-1))
  (D:∀h',(∀b o,b≠it->s.heap.get? b=some o->h'.get? b=some o)->Q none { s with heap:=h' }):wpAny (model prog w) A (pyNext (.ref it)) Q E s:=by
 obtain ⟨o,ho,hc,hd⟩:=id q;unfold pyNext;refine Qaa (Qc1 (wpAny_callSpecial?_slot (name:=Str.ofString "__next__") q.typeIs slot_next
  (Qbe slot_next q.typeIs entry_next ?_ (args_next _))))
 unfold Builtin.«reversed.__next__»;refine Qaa (Qch (a:=(Value.ref it,[])) rfl ?_)
 try dsimp only
 refine Qaa (Qbk ho hd (x:=.ref t) rfl ?_);refine Qaa (Qbk ho hd (x:=rawInt (-1)) rfl ?_);show wpAny _ _ (if (-1:Int) < 0 then _ else _) _ _ s;rw [Qa0 (by decide)];refine Qaa (Qdk ?_);refine Qaa ?_;show wpAny _ _ (setField (.ref it) 1 (rawInt (-1)) >>= _) _ _ _;refine Qaa (Qcq ho hd (by simp) ?_);have C:=Qbj (Obj.mapFields (·.setIfInBounds 1 (rawInt (-1)))) ho (Qcj (Qbo hd _));refine Qcq C (Qbo hd _) (by simp) ?_
 first
 | show wpAny _ _ (newExc (.type "StopIteration") [] >>= _) _ _ _
 | (refine Qaa ?_;show wpAny _ _ (newExc (.type "StopIteration") [] >>= _) _ _ _)
 refine Qaa ?_;simp only [newExc,newTuple];refine Qaa (Qbh ?_ (by size_fits));refine Qaa (m:=firstArgMember _ _) (Qch (a:=Value.none) (by first | rfl | (simp only [firstArgMember];rfl)) ?_);refine Qbh ?_ (by size_fits);simp only [raiseNew];refine Qaa (Qgd ?_)
 first | rw [show A.in1.handled=none from hh] | rw [hh]
 refine Qaa (Qae (Qg5 ?_));refine Qaa (Qc0 (T := "StopIteration") (b:=true) ⟨_,Qak _ rfl,rfl⟩ Qe9 ?_);refine Qae (D _ fun b ob hb e=>?_);exact Qab _ (Qab _ ((Qb0 _ _ (Qdo hb)).trans ((Qb0 _ _ (Qdo hb)).trans e)))
theorem iter_self{it t:Aw}{i:Int}(q:IsRev s.heap it t i)(h:Q (.ref it) s):wpAny (model prog w) A (pyIter (.ref it)) Q E s:=by
 refine Qfy q.typeIs jw (Qbe jw q.typeIs wo ?_ (ui _));exact Qae ⟨_,rfl,"reversed",_,q.typeIs,slot_next.lookup,h⟩
end
end RvT
namespace L2
open PySem PySem.Spec PyProof.Rows
def Itv(K:Af)(a:Aw)(n:Nat):It :=
 ⟨fun i H=>∃xs x,SqT K H a xs/\xs.length=n/\xs.reverse[i]?=some x,fun i H x H'=>H'=H/\∀xs,SqT K H a xs->xs.reverse[i]?=some x,fun i _=>i=n⟩
theorem Zcj{tg:Ax}(a it:Aw)(n:Nat)(O:a≠it):Turn P w K tg (Itv K a n) [it] it (fun i h=>RvT.IsRev h it a ((n:Int) - 1 - (i:Int))) where
 mem:=by simp
 obj:=fun i h st b hb=>by
  have e:b=it:=by simpa using hb
  subst e;obtain ⟨o,e,c,d⟩:=st;exact ⟨o,e,fun v z=>by rw [d] at z;cases z⟩
 keep:=fun i h h' st k=>st.at fun o e=>k it (by simp) o e
 item:=by
  intro X Y hw C hc i pins s σ H E I hf st hg;subst Y hw C;obtain ⟨xs,x,Z,hn,hx⟩:=hg;obtain ⟨G,rv,p,hz⟩:=I.tuple Z;have hi:i < xs.length:=by
   grind
  have J:xs[xs.length - 1 - i]?=some x:=by grind
  obtain ⟨u,hu,ru⟩:=rv.get J;obtain ⟨f0,M,f2,N,S,D⟩:=hf it (by simp);have L:(n:Int) - 1 - (i:Int)=((xs.length - 1 - i:Nat):Int):=by lia
  have hl:=JS;rw [L] at st;refine RvT.next_item (items:=G.toArray) (x:=u) st p (by lia) (by simpa using hu) O fun h' tk q sb=>?_;have I1:Inv X pins σ H { s with heap:=h',toks:=tk }:=I.turned (fun b o hb e=>(sb.2 b hb).trans e) f0 M N S D;have e1:((xs.length - 1 - i:Nat):Int) - 1=(n:Int) - 1 - ((i + 1:Nat):Int):=by lia
  rw [e1] at q;obtain ⟨o,e,c,d⟩:=id q;exact ⟨u,rfl,kX (s:={ s with heap:=h',toks:=tk }) e c d (by decide) ⟨x,H,I1,ru,⟨rfl,fun ys hy=>by rw [I.tuple_inj hy Z];exact hx⟩,q,fun b hb=>(hf b hb).1⟩⟩
 done:=by
  intro X Y hw C hc i pins s σ H E I hf st hg;subst Y hw C;obtain ⟨f0,M,f2,N,S,D⟩:=hf it (by simp);have hg':i=n:=hg;have L:(n:Int) - 1 - (i:Int)=-1:=by lia
  rw [L] at st;exact RvT.next_end (I.ok.hd hc) st fun h' eb=>⟨rfl,I.turned (t':=s.toks) (fun b o hb e=>eb b o hb e) f0 M N S D⟩
 self:=fun _ _ _ _ _ st h=>RvT.iter_self st h
def iRev(K:Af)(te:TE):TI:=fun σ H R=>te σ H fun x H1=>∃a xs,x=.ref a/\SqT K H1 a xs/\R (Itv K a xs.length) H1
theorem uk {X:Cx} {tg:Ax}   (hg:Gl X "reversed") (hm:X.mg "reversed" = none) (he:QE X e c) (hp:ZV e=true:=by rfl):QI X tg (.Call (.Name "reversed" p) [e] [] D) (iRev X.K c):=by
 refine ⟨fun pins s σ H R I h=>?_⟩;have hs:starEach [e] X.env=[(false,eval e X.env)]:=by rw [Zq hp];rfl
 refine Call_ (WE I hg hm yA (Qcf ?_ hs rfl));rw [hs];refine Qco (thn (he.out pins s σ H _ I h) fun u G ⟨x,H1,L,Z,S⟩=>?_);refine Qd0 ?_;obtain ⟨a,xs,rfl,M,q⟩:=S;cases Z;obtain ⟨C,O,pt,hz⟩:=L.tuple M;have hl:=JS;have J:=O.length;refine RvT.call_rev pt (by rw [Qa2];lia) fun tk=>?_;have Y:Inv X pins σ H1 { G with heap:=G.heap.push (RvT.revObj a ((C.toArray.size:Int) - 1)),toks:=tk }:=L.kept fun b o e=>Qab _ e;have N:(xs.length:Int) - 1 - ((0:Nat):Int)=(C.toArray.size:Int) - 1:=by rw [Qa2,<-J];lia
 have st:RvT.IsRev (G.heap.push (RvT.revObj a ((C.toArray.size:Int) - 1))) G.heap.objs.size a ((xs.length:Int) - 1 - ((0:Nat):Int)):=by
  rw [N];exact ⟨_,Qak _ rfl,rfl,rfl⟩
 refine RvT.iter_self st ⟨G.heap.objs.size,[G.heap.objs.size],_,_,H1,rfl,Y,Zcj a _ xs.length (Qbd pt.lt),st,fun b hb=>?_,q⟩;have e:b=G.heap.objs.size:=by simpa using hb
 subst e;exact L.fpOk (Qag _) (L.hok.fresh (Qag _)) |> fun f=>f
theorem um{xs:A2}{g:TG}(C:Nat->St->Hp->Prop)(S:C 0 d H)(hl:∀i d H,i<=xs.length->C i d H->SqT K H a xs)
  (hs:∀i x d H,xs.reverse[i]?=some x->C i d H->g x d H fun D H2=>q { M with nx:=C (i + 1),ct:=C (i + 1),bk:=M.nx } D H2) (hd:∀d H,C xs.length d H->M.nx d H) :
  ∃W:Nat->Nat->St->Hp->Prop,(∃m,W 0 m d H)/\∀i m d H,W i m d H ->
   ((Itv K a xs.length).stop i H/\M.nx d H)\/((Itv K a xs.length).go i H/\∃N:A1,(∀G H',N G H'->∃L,L < m/\W (i + 1) L G H')/\∀x H',(Itv K a xs.length).yld i H x H'->g x d H' fun D H2=>q { M with nx:=N,ct:=N,bk:=M.nx } D H2):=by
 refine ⟨fun i m d H=>m=xs.length - i/\i<=xs.length/\C i d H,⟨xs.length,by simp,Qbc _,S⟩,?_⟩;rintro i m d H ⟨rfl,hi,p⟩
 by_cases I:i < xs.length
 ·have J:i < xs.reverse.length:=by rw [Qc4];exact I
  refine .inr ⟨⟨xs,xs.reverse[i],hl i d H hi p,rfl,Qad J⟩,C (i + 1),fun G H' O=>⟨xs.length - (i + 1),by lia,rfl,I,O⟩,fun x H' y=>?_⟩;obtain ⟨e,y⟩:=y;subst e;exact hs i x d _ (y xs (hl i d _ hi p)) p
 ·have e:i=xs.length:=by lia
  exact .inl ⟨e,by rw [e] at p;exact hd d H p⟩
end L2
namespace HT
open PySem PySem.Spec PyProof.Rows
section
variable {prog:Aq}{w:Au}{A:Ar}{E:Ab}{s:As}
end
end HT
namespace L2
open PySem PySem.Spec PyProof.Rows
section
variable {X:Cx}
theorem wq{ys:Ai}:∀{q:Ag},Vals (ys.map V.str) q->StrsAre q ys:=by
 induction ys with
 | nil=>intro q r;cases r;exact .nil
 | cons n I G =>
  intro q r;cases r with
  | cons D C =>
   obtain ⟨t,e⟩:=D;subst e;exact .cons n t (G C)
end
theorem XA{xs:A2}{is:Aj}{Q:VK}(C:Nat->List V->Hp->Prop)(L:C 0 [] H)(hl:∀i zs H,C i zs H->zs.length<=sizeLine)(I:∀i zs H,C i zs H->SqL K H a xs)
  (hs:∀i x zs H (R:A2->Hp->Prop),(∀zs H,C (i + 1) zs H->R zs H)->xs[i]?=some x->C i zs H->G (J1 is d (some x)) H fun b H2=>if b=true then c (J1 is d (some x)) H2 fun y M=>R (zs++[y]) M else R zs H2)
  (hd:∀zs H,C xs.length zs H->∀p,H p=none->Q (.ref p) (upd H p (.lst zs))) :
  GP is G c d Q (Itl K a) H:=by
 refine ⟨fun i m zs H=>m=xs.length - i/\i<=xs.length/\C i zs H,⟨xs.length,by simp,Qbc _,L⟩,?_⟩;rintro i m zs H ⟨rfl,hi,p⟩
 by_cases D:i < xs.length
 ·refine .inr ⟨⟨xs,xs[i],I i zs H p,Qad D⟩,hl i zs H p,fun x H' y=>?_⟩
  obtain ⟨e,y⟩:=y;subst e;exact hs i x zs _ (fun zs H=>∃J,J < xs.length - i/\J=xs.length - (i + 1)/\i + 1<=xs.length/\C (i + 1) zs H) (fun zs H q=>⟨xs.length - (i + 1),by lia,rfl,D,q⟩) (y xs (I i zs _ p)) p
 ·have e:i=xs.length:=by lia
  exact .inl ⟨⟨xs,I i zs H p,by lia⟩,hl _ _ _ p,by rw [e] at p;exact hd zs H p⟩
def Its(x:Str):It:=⟨fun i _=>i < x.cps.size,fun i H v H'=>H'=H/\∃c,x.cps[i]?=some c/\v=.str ⟨#[c]⟩,fun i _=>i=x.cps.size⟩
theorem Zck    {tg:Ax} (it:Aw) (x:Str) (t:Tok) (T:String) (S:T = "str_ascii_iterator" \/ T = "str_iterator"):Turn P w K tg (Its x) [it] it (fun i h=>h.IsStrIter it T x t i) where
 mem:=by simp
 obj:=fun i h st b hb=>by
  have e:b=it:=by simpa using hb
  subst e;obtain ⟨o,e,c,d⟩:=st;exact ⟨o,e,fun v z=>by rw [d] at z;cases z⟩
 keep:=fun i h h' st k=>let ⟨o,ho,r⟩:=st;⟨o,k it (by simp) o ho,r⟩
 item:=by
  intro X hP hw N hc i pins s σ H E I hf st hg;subst hP hw N;obtain ⟨f0,J,f2,L,M,G⟩:=hf it (by simp);rcases S with rfl | rfl
  ·refine (Walks.strAscii (prog:=X.prog) (w:=X.w) (I.ok.hd hc) it x t).item i s _ _ hg st fun v h' tk hv q D=>?_
   obtain ⟨c,u,C,rfl⟩:=hv;have Y:Inv X pins σ H { s with heap:=h',toks:=tk }:=I.turned (fun b o hb e=>D b o (by simpa using hb) e) f0 J L M G;obtain ⟨o,e,O,d⟩:=id q;exact ⟨_,rfl,kX (s:={ s with heap:=h',toks:=tk }) e O d (by decide) ⟨.str ⟨#[c]⟩,H,Y,⟨_,rfl⟩,⟨rfl,c,C,rfl⟩,q,fun b hb=>(hf b hb).1⟩⟩
  ·refine (Walks.strWide (prog:=X.prog) (w:=X.w) (I.ok.hd hc) it x t).item i s _ _ hg st fun v h' tk hv q D=>?_
   obtain ⟨c,u,C,rfl⟩:=hv;have Y:Inv X pins σ H { s with heap:=h',toks:=tk }:=I.turned (fun b o hb e=>D b o (by simpa using hb) e) f0 J L M G;obtain ⟨o,e,O,d⟩:=id q;exact ⟨_,rfl,kX (s:={ s with heap:=h',toks:=tk }) e O d (by decide) ⟨.str ⟨#[c]⟩,H,Y,⟨_,rfl⟩,⟨rfl,c,C,rfl⟩,q,fun b hb=>(hf b hb).1⟩⟩
 done:=by
  intro X hP hw N hc i pins s σ H E I hf st hg;subst hP hw N;obtain ⟨f0,J,f2,L,M,G⟩:=hf it (by simp);have Z:i=x.cps.size:=hg;subst Z;rcases S with rfl | rfl
  ·exact (Walks.strAscii (prog:=X.prog) (w:=X.w) (I.ok.hd hc) it x t).done s _ _ st fun h' tk D=>⟨rfl,I.turned (t':=tk) (fun b o hb e=>D b o (by simpa using hb) e) f0 J L M G⟩
  ·exact (Walks.strWide (prog:=X.prog) (w:=X.w) (I.ok.hd hc) it x t).done s _ _ st fun h' tk D=>⟨rfl,I.turned (t':=tk) (fun b o hb e=>D b o (by simpa using hb) e) f0 J L M G⟩
 self:=fun A i s Q E st h=>by
  rcases S with rfl | rfl
  ·exact wpAny_pyIter_striter_ascii st h
  ·exact wpAny_pyIter_striter_wide st h
def iStr(te:TE):TI:=fun σ H R=>te σ H fun v H1=>∃x,v=.str x/\R (Its x) H1
theorem qi_str{X:Cx}{tg l:Ax}(hl:QE X l c):QI X tg l (iStr c):=by
 refine ⟨fun pins s σ H R I h=>?_⟩;refine thn (hl.out pins s σ H _ I h) fun v C ⟨y,H1,D,M,J⟩=>?_;obtain ⟨x,rfl,q⟩:=J;obtain ⟨t,rfl⟩:=M;have G:∀(o:Obj) (T:String),(T = "str_ascii_iterator" \/ T = "str_iterator")->(C.heap.push o).IsStrIter C.heap.objs.size T x t 0->PIE X pins σ tg R (.ref C.heap.objs.size) { C with heap:=C.heap.push o }:=fun o T L st =>
  ⟨C.heap.objs.size,[C.heap.objs.size],_,_,H1,rfl,D.kept (t':=C.toks) fun b o e=>Qab _ e,Zck _ x t T L,st,fun b hb=>by
   have e:b=C.heap.objs.size:=by simpa using hb
   subst e;exact D.fpOk (Qag _) (D.hok.fresh (Qag _)),q⟩
 cases ha:x.cps.all (· < 128)
 ·exact wpAny_pyIter_wide ha (G _ "str_iterator" (.inr rfl) ⟨_,Qak _ rfl,rfl,rfl⟩)
 ·exact wpAny_pyIter_ascii ha (G _ "str_ascii_iterator" (.inl rfl) ⟨_,Qak _ rfl,rfl,rfl⟩)
section
variable {X:Cx}
theorem uo (hc:X.calm=true):YM X (.builtin "all") (fun xs H Q=>∃(p:Aw) (bs:Am),xs=[.ref p]/\SqL X.K H p (bs.map V.bl)/\Q (.bl (bs.all id)) H):=by
 intro pins s σ H xs us Q I r h;obtain ⟨p,bs,rfl,S,q⟩:=h;obtain ⟨u,rfl,O⟩:=vals1 r;cases O;obtain ⟨C,M,pl,hz⟩:=I.list S;have hl:=pl.isList;have L:p < s.heap.objs.size:=by obtain ⟨_,e,_⟩:=hl;exact Qan e
 have D:=M.length;rw [Qac] at D;refine call_all_walk (Qdz hl ?_);refine ⟨s.heap.objs.size,[s.heap.objs.size,p],[s.heap.objs.size],C.toArray.size,_,_,fun i=>(bs[i]?).getD true,rfl,Walks.list (A:=X.A.in1) (I.ok.hd hc) _ p (Qbd L) C.toArray,
  ⟨⟨_,Qak _ rfl,rfl,rfl⟩,hl.push _⟩,fun i v s' Q' E' Y N=>?_,fun h' tk hk=>?_⟩
 ·have hi:C[i]?=some v:=by simpa using Y
  have hb:i < bs.length:=by grind
  obtain ⟨Z,e1,e2⟩:=M.get (show (bs.map V.bl)[i]?=some (V.bl bs[i]) by rw [Qai,Qad hb];rfl);rw [hi] at e1;cases e1;cases e2;simp only [Qad hb,Option.getD_some] at N;exact Qdy N
 ·have e:((List.range C.toArray.size).all fun i=>(bs[i]?).getD true)=bs.all id:=by
   rw [Qa2,<-D,Qfl,Qce,Qce]
   constructor
   ·intro z b hb
    obtain ⟨i,hi,rfl⟩:=List.getElem_of_mem hb;have:=z i (Qcn.mpr hi);simpa [Qad hi] using this
   ·intro z i hi
    have G:=Qcn.mp hi;have:=z _ (Qbm G);simpa [Qad G] using this
  rw [e];refine ⟨.bl (bs.all id),H,I.kept (t':=tk) (fun b o J=>hk b o (fun hm=>?_) (Qab _ J)),rfl,q⟩;rw [Qat.mp hm] at J;exact absurd (Qan J) (Qbw _)
theorem Wk:∀{q:Ag} {ys:Ai},StrsAre q ys->Vals (ys.map V.str) q
 | _,_,.nil=>.nil
 | _,_,.cons y t h=>.cons ⟨t,rfl⟩ (Wk h)
end
theorem Zf3:bootBuiltins "dict" = some (.type "dict"):=by decide +kernel
theorem vP:bootBuiltins "max" = some (.builtin "max"):=by decide +kernel
theorem Zeo:bootBuiltins "min" = some (.builtin "min"):=by decide +kernel
theorem take_snoc{xs:List g}{x:g}(h:xs[i]?=some x):xs.take (i + 1)=xs.take i++[x]:=by
 rw [List.take_succ,h]
 rfl
theorem yD{xs:A2}{is:Aj}{Q:VK}(p:V->Bool)(f:V->V)(hx:SqL K H a xs)(C:xs.length<=sizeLine)
  (hc:∀x∈xs,∀R:Bool->Hp->Prop,R (p x) H->G (J1 is d (some x)) H R)
  (he:∀x∈xs,p x=true->∀R:VK,R (f x) H->c (J1 is d (some x)) H R)
  (hd:∀l,H l=none->Q (.ref l) (upd H l (.lst ((xs.filter p).map f)))):GP is G c d Q (Itl K a) H:=by
 refine XA (xs:=xs) (fun i zs H'=>zs=((xs.take i).filter p).map f/\H'=H) ⟨rfl,rfl⟩ ?_ ?_ ?_ ?_
 ·grind
 ·grind
 ·rintro i x zs H' R hR q ⟨rfl,rfl⟩
  have hm:=Qas q;have e:=take_snoc q;refine hc x hm _ ?_;cases hp:p x with
  | true =>
   refine (Qa0 rfl:(if true=true then _ else _)=_) ▸ he x hm hp _ (hR _ _ ⟨?_,rfl⟩);rw [e,Qd7,Qav,Qc2,Qa0 hp]
   rfl
  | false =>
   refine (Qaw Qa6:(if false=true then _ else _)=_) ▸ hR _ _ ⟨?_,rfl⟩;rw [e,Qd7,Qav,Qc2,Qaw (by rw [hp];exact Qa6)];simp
 ·grind
theorem comp_map{xs:A2}{is:Aj}{Q:VK}(f:V->V)(hx:SqL K H a xs)(q:xs.length<=sizeLine)
  (he:∀x∈xs,∀R:VK,R (f x) H->c (J1 is d (some x)) H R)
  (hd:∀l,H l=none->Q (.ref l) (upd H l (.lst (xs.map f)))):GP is Zch c d Q (Itl K a) H:=by
 refine yD (fun _=>true) f hx q (fun x _ R h=>h) (fun x hm _=>he x hm) fun l hl=>?_;rw [List.filter_eq_self.mpr fun _ _=>rfl];exact hd l hl
theorem uq{xs:A2}{is:Aj}{Q:VK}(f:V->V)(hx:SqT K H a xs)(C:xs.length<=sizeLine)
  (he:∀x∈xs,∀R:VK,R (f x) H->c (J1 is d (some x)) H R)
  (hd:∀l,H l=none->Q (.ref l) (upd H l (.lst (xs.map f)))):GP is Zch c d Q (Itt K a) H:=by
 refine XQ (xs:=xs) (fun i zs H'=>zs=(xs.take i).map f/\H'=H) ⟨rfl,rfl⟩ ?_ ?_ ?_ ?_
 ·grind
 ·grind
 ·rintro i x zs H' R hR q ⟨rfl,rfl⟩
  unfold Zch;refine he x (Qas q) _ (hR _ _ ⟨?_,rfl⟩);rw [take_snoc q,Qav]
  rfl
 ·grind
section
variable {κ:Type}[DecidableEq κ]
def Ye(kvs:List (κ × V))(k:κ):Option V:=(kvs.find? fun q=>decide (q.1=k)).map (·.2)
def putK(kvs:List (κ × V))(k:κ)(v:V):List (κ × V) :=
 if (kvs.any fun q=>decide (q.1=k))=true then kvs.map (fun q=>if q.1=k then (q.1,v) else q) else kvs++[(k,v)]
theorem ZX{p:κ × V}{r:List (κ × V)}{k:κ}(e:p.1=k):Ye (p::r) k=some p.2:=by simp [Ye,Qdq,e]
theorem ZT{p:κ × V}{r:List (κ × V)}{k:κ}(e:¬p.1=k):Ye (p::r) k=Ye r k:=by simp [Ye,Qdq,e]
theorem Ja(k:κ):∀kvs:List (κ × V),(kvs.any fun q=>decide (q.1=k))=(Ye kvs k).isSome
 | []=>rfl
 | p::r=>by
  rw [Qfn]
  by_cases e:p.1=k
  ·simp only [ZX e,Qao e,Bool.true_or,Option.isSome_some]
  ·rw [ZT e,Qaq e,Bool.false_or];exact Ja k r
theorem vQ(k j:κ)(y:V):∀kvs:List (κ × V),Ye (kvs.map fun q=>if q.1=k then (q.1,y) else q) j=(Ye kvs j).map fun x=>if j=k then y else x
 | []=>rfl
 | p::r=>by
  have C:=vQ k j y r;rw [Qbx]
  by_cases h:p.1=k
  ·rw [Qa0 h]
   by_cases e:p.1=j
   ·rw [ZX (p:=(p.1,y)) e,ZX e,Qgi,Qa0 (e.symm.trans h)]
   ·rw [ZT (p:=(p.1,y)) e,ZT e,C]
  ·rw [Qaw h]
   by_cases e:p.1=j
   ·rw [ZX (p:=p) e,ZX e,Qgi,Qaw (fun z=>h (e.trans z))]
   ·rw [ZT (p:=p) e,ZT e,C]
theorem jx(k j:κ)(y:V):∀kvs:List (κ × V),Ye kvs k=none->Ye (kvs++[(k,y)]) j=if j=k then some y else Ye kvs j
 | [],_=>by
  by_cases e:k=j
  ·rw [Qa0 e.symm];exact ZX (p:=(k,y)) e
  ·rw [Qaw (fun z=>e z.symm)];exact ZT (p:=(k,y)) e
 | p::r,hn=>by
  rw [List.cons_append];have hk:¬p.1=k:=fun z=>by rw [ZX z] at hn;cases hn
  rw [ZT hk] at hn;have q:=jx k j y r hn
  by_cases e:p.1=j
  ·rw [ZX e,ZX e,Qaw (fun z=>hk (e.trans z))]
  ·rw [ZT e,ZT e,q]
theorem G2(kvs:List (κ × V))(k j:κ)(y:V):Ye (putK kvs k y) j=if j=k then some y else Ye kvs j:=by
 unfold putK
 by_cases a:(kvs.any fun C=>decide (C.1=k))=true
 ·rw [Qa0 a,vQ]
  rw [Ja] at a
  by_cases e:j=k
  ·obtain ⟨x,hx⟩:=Option.isSome_iff_exists.mp a
   rw [Qa0 e,e,hx,Qgi,Qa0 rfl]
  ·rw [Qaw e]
   cases Ye kvs j with
   | none=>rfl
   | some x=>rw [Qgi,Qaw e]
 ·rw [Qaw a]
  refine jx k j y kvs ?_;rw [Ja] at a;cases q:Ye kvs k with
  | none=>rfl
  | some x=>rw [q] at a;exact (a rfl).elim
theorem XR(kvs:List (κ × V))(k:κ)(v:V):(putK kvs k v).length<=kvs.length + 1:=by
 unfold putK
 split
 ·rw [Qac];lia
 ·grind
theorem jh.isSome_eq{o:Option V}{u:Option Av}(r:jh o u):o.isSome=u.isSome:=by
 cases o with
 | none=>cases u with
  | none=>rfl
  | some _=>exact (show False from r).elim
 | some _=>cases u with
  | none=>exact (show False from r).elim
  | some _=>rfl
theorem jh.getD{o:Option V}{u:Option Av}{d:V}{d':Av}(r:jh o u)(q:RelV d d'):RelV (o.getD d) (u.getD d'):=by
 cases o with
 | none=>cases u with
  | none=>exact q
  | some _=>exact (show False from r).elim
 | some _=>cases u with
  | none=>exact (show False from r).elim
  | some _=>exact r
theorem KV.val{kvs:List (κ × V)}{vs:List (κ × Av)}(r:KV kvs vs)(k:κ):jh (Ye kvs k) (valueAt vs k):=by
 induction r with
 | nil=>exact True.intro
 | @cons p q ps C h t G =>
  obtain ⟨h1,h2⟩:=h
  by_cases e:p.1=k
  ·have D:q.1=k:=h1.symm.trans e
   have b:valueAt (q::C) k=some q.2:=by simp [valueAt,Qdq,D]
   rw [ZX e,b];exact h2
  ·have D:¬q.1=k:=fun z=>e (h1.trans z)
   have b:valueAt (q::C) k=valueAt C k:=by simp [valueAt,Qdq,D]
   rw [ZT e,b];exact G
theorem KV.any{kvs:List (κ × V)}{vs:List (κ × Av)}(r:KV kvs vs)(k:κ):(kvs.any fun q=>decide (q.1=k))=vs.any fun q=>decide (q.1=k):=by
 induction r with
 | nil=>rfl
 | cons h t C=>rw [Qfn,Qfn,C,h.1]
theorem KV.repl{kvs:List (κ × V)}{vs:List (κ × Av)}(r:KV kvs vs)(k:κ)(G:RelV y u) :
  KV (kvs.map fun C=>if C.1=k then (C.1,y) else C) (vs.map fun C=>if C.1=k then (C.1,u) else C):=by
 induction r with
 | nil=>exact .nil
 | @cons p q ps I h t D =>
  refine .cons ?_ D;obtain ⟨h1,h2⟩:=h
  by_cases e:p.1=k
  ·grind
  ·grind
theorem KV.put{kvs:List (κ × V)}{vs:List (κ × Av)}(r:KV kvs vs)(k:κ)(q:RelV y u):KV (putK kvs k y) (stored vs k u):=by
 unfold putK stored;rw [r.any k]
 by_cases e:(vs.any fun C=>decide (C.1=k))=true
 ·rw [Qa0 e,Qa0 e];exact r.repl k q
 ·rw [Qaw e,Qaw e];exact Paired.snoc r ⟨rfl,q⟩
theorem KV.keys{kvs:List (κ × V)}{vs:List (κ × Av)}(r:KV kvs vs):kvs.map (·.1)=vs.map (·.1):=by
 induction r with
 | nil=>rfl
 | cons h t q=>rw [Qbx,Qbx,q,h.1]
theorem KV.length{kvs:List (κ × V)}{vs:List (κ × Av)}(r:KV kvs vs):kvs.length=vs.length:=Qfk r
end
theorem ze{k:Key}(r:RelV (kV k) u):(ZD P w).is k u=true:=by
 cases k with
 | inl i=>obtain ⟨t,e⟩:=(show ∃t,u=Value.int i t from r);subst e;exact y7 P w i t
 | inr x=>obtain ⟨t,e⟩:=(show ∃t,u=Value.str x t from r);subst e;exact WM P w x t
theorem jy{P:Aq}{w:Au}:∀{ks:List Key} {q:Ag},Vals (ks.map kV) q->ItemsAre (ZD P w) ks q
 | [],_,r=>by cases r;exact .nil
 | k::ks,_,r=>by
  cases r with
  | cons h t=>exact .cons (ze h) (jy t)
abbrev KT(H:Hp):List (List Key × V)->List (List Key × Aw × Av)->Prop:=Paired fun p q=>p.1=q.1/\H q.2.1=some (.tup (p.1.map kV))/\RelV p.2 q.2.2
theorem KT.val{kvs:List (List Key × V)}{xs:List (List Key × Aw × Av)}(r:KT H kvs xs)(k:List Key):jh (Ye kvs k) ((atKey xs k).map (·.2)):=by
 induction r with
 | nil=>exact True.intro
 | @cons p q ps C h t G =>
  obtain ⟨h1,_,h2⟩:=h
  by_cases e:p.1=k
  ·have D:q.1=k:=h1.symm.trans e
   have b:atKey (q::C) k=some q.2:=by simp [atKey,Qdq,D]
   rw [ZX e,b];exact h2
  ·have D:¬q.1=k:=fun z=>e (h1.trans z)
   have b:atKey (q::C) k=atKey C k:=by simp [atKey,Qdq,D]
   rw [ZT e,b];exact G
theorem KT.repl{kvs:List (List Key × V)}{xs:List (List Key × Aw × Av)}(r:KT H kvs xs)(k:List Key)(I:RelV y u) :
  KT H (kvs.map fun C=>if C.1=k then (C.1,y) else C) (xs.map (putAt k u)):=by
 induction r with
 | nil=>exact .nil
 | @cons p q ps G h t D =>
  refine .cons ?_ D;obtain ⟨h1,h2,J⟩:=h;unfold putAt
  by_cases e:p.1=k
  ·grind
  ·grind
theorem KT.put{kvs:List (List Key × V)}{xs:List (List Key × Aw × Av)}(r:KT H kvs xs)(k:List Key){b:Aw}(hb:H b=some (.tup (k.map kV)))(C:RelV y u) :
  KT H (putK kvs k y) (storedH xs k b u):=by
 have e:(kvs.any fun D=>decide (D.1=k))=(atKey xs k).isSome:=by
  rw [Ja,(r.val k).isSome_eq,Qgy]
 unfold putK storedH;rw [e]
 by_cases q:(atKey xs k).isSome=true
 ·rw [Qa0 q,Qa0 q];exact r.repl k C
 ·rw [Qaw q,Qaw q];exact Paired.snoc r ⟨rfl,hb,C⟩
theorem KT.keeps{H':Hp}{kvs:List (List Key × V)}{xs:List (List Key × Aw × Av)}(r:KT H kvs xs)(q:∀b ys,H b=some (.tup ys)->H' b=some (.tup ys)):KT H' kvs xs :=
 Paired.mapP r fun _ _ z=>⟨z.1,q _ _ z.2.1,z.2.2⟩
section
variable {P:Aq}{w:Au}{H:Hp}{h:Heap}{a:Aw}
theorem Ziy{u:HO}(ok:HOk P w H h)(e:Rd H a u):Yn P w H h a u:=e.ok ok
theorem zf{kvs:A0}(ok:HOk P w H h)(e:Rd H a (.dK kvs)):kvs.length<=sizeLine/\(a == sysModules)=false/\∃vs,KV kvs vs/\h.DictOf (ZD P w) a vs :=
 show Yn P w H h a (.dK kvs) from Ziy ok e
theorem Zf4{kvs:A0}(ok:HOk P w H h)(e:H a=some (.dK kvs)):kvs.length<=sizeLine/\(a == sysModules)=false/\∃vs,KV kvs vs/\h.DictOf (ZD P w) a vs:=zf ok (.inl e)
theorem jz{ks:List Key}(ok:HOk P w H h)(e:H a=some (.tup (ks.map kV))):(tupleKind (ZD P w)).is h ks a:=by
 obtain ⟨_,q,r,o,h1,h2,⟨n,C⟩,_⟩:=(show Yn P w H h a (.tup (ks.map kV)) from ok a _ e);exact ⟨o,q.toArray,n,h1,h2,C,by simpa using jy r⟩
theorem ur{kvs:List (List Key × V)}(ok:HOk P w H h)(e:Rd H a (.dT kvs)):kvs.length<=sizeLine/\(a == sysModules)=false /\
  ∃xs,KT H kvs xs/\h.DictOfH (tupleKind (ZD P w)) a xs:=by
 obtain ⟨z,y,xs,r,o,es,ep,h1,h2,G,D,I⟩:=(show Yn P w H h a (.dT kvs) from Ziy ok e);refine ⟨z,y,xs,r,o,es,ep,h1,h2,G,D,fun x hx=>?_,I⟩;have all:∀{l:List (List Key × V)} {m:List (List Key × Aw × Av)},KT H l m->∀x∈m,(tupleKind (ZD P w)).is h x.1 x.2.1:=by
  intro l m q
  induction q with
  | nil=>intro x hx;exact nomatch hx
  | @cons p q ps L C t J =>
   intro x hx;rcases Qam.mp hx with e | hx
   ·subst e
    exact jz ok (by rw [<-C.1];exact C.2.1)
   ·exact J x hx
 exact all r x hx
theorem dt_of{kvs:List (List Key × V)}(ok:HOk P w H h)(e:H a=some (.dT kvs)):kvs.length<=sizeLine/\(a == sysModules)=false /\
  ∃xs,KT H kvs xs/\h.DictOfH (tupleKind (ZD P w)) a xs:=ur ok (.inl e)
end
def Zie(H:Hp)(a:Aw)(y:V)(r:Option V):Prop :=
 (∃kvs k,Rd H a (.dK kvs)/\y=kV k/\r=Ye kvs k)\/∃kvs k b,Rd H a (.dT kvs)/\y=.ref b/\H b=some (.tup (k.map kV))/\r=Ye kvs k
def Zcl(H:Hp)(a:Aw)(y v:V)(H':Hp):Prop :=
 (∃kvs k,H a=some (.dK kvs)/\y=kV k/\kvs.length < sizeLine/\H'=upd H a (.dK (putK kvs k v))) \/
 ∃kvs k b,H a=some (.dT kvs)/\y=.ref b/\H b=some (.tup (k.map kV))/\kvs.length < sizeLine/\H'=upd H a (.dT (putK kvs k v))
theorem Zcl.k{H:Hp}{a:Aw}{kvs:A0}{k:Key}{v:V}(e:H a=some (.dK kvs))(hl:kvs.length < sizeLine):Zcl H a (kV k) v (upd H a (.dK (putK kvs k v))):=.inl ⟨kvs,k,e,rfl,hl,rfl⟩
section
variable {X:Cx}{pins:Ac}{σ:St}{H:Hp}{s:As}{a:Aw}{y v:V}{u r:Av}{o:Option V}{A:Ar}{E:Ab}
theorem Inv.big(I:Inv X pins σ H s):sysModules < s.heap.objs.size:=by
 have h:mainGlobals < s.heap.objs.size:=(I.mod.glob.keeps I.bk).lt;exact Nat.lt_trans (by decide) h
theorem uv(N:A.units + 1 < cLine)(I:Inv X pins σ H s)(g:Zie H a y (some v))(L:RelV y u)(h:∀D s',Inv X pins σ H s'->RelV v D->Q D s') :
  wpAny (model X.prog X.w) A (getItem (.ref a) u) Q E s:=by
 rcases g with ⟨kvs,k,e,G,l⟩ | ⟨kvs,k,b,e,G,M,l⟩
 ·subst G
  obtain ⟨z,hd,vs,q,dd⟩:=zf I.hok e;obtain ⟨D,hw,C⟩:=jh.some_of (v:=v) (o:=valueAt vs k) (by rw [l];exact q.val k);exact wpAny_getItem_of (ze L) dd.mapOf hw (h D _ (I.tok _) C)
 ·subst G
  cases (show u=Value.ref b from L);obtain ⟨z,hd,xs,q,dd⟩:=ur I.hok e;obtain ⟨D,hw,C⟩:=jh.some_of (v:=v) (o:=(atKey xs k).map (·.2)) (by rw [l];exact q.val k);obtain ⟨p,hp,J⟩:=Qba.mp hw;refine wpAny_getItem_heap (Qfo N) (jz I.hok M) dd hp ?_;rw [J];exact h D _ (I.tok _) C
theorem d_in(L:A.units + 1 < cLine)(I:Inv X pins σ H s)(g:Zie H a y o)(G:RelV y u)(h:∀s',Inv X pins σ H s'->Q (.bool o.isSome) s') :
  wpAny (model X.prog X.w) A (compareOp .In u (.ref a)) Q E s:=by
 rcases g with ⟨kvs,k,e,D,l⟩ | ⟨kvs,k,b,e,D,J,l⟩
 ·subst D
  obtain ⟨z,hd,vs,C,dd⟩:=zf I.hok e;refine wpAny_in_of (ze G) hd dd.mapOf ?_;rw [<-(C.val k).isSome_eq,<-l];exact h _ (I.tok _)
 ·subst D
  cases (show u=Value.ref b from G);obtain ⟨z,hd,xs,C,dd⟩:=ur I.hok e;refine wpAny_in_heap (Qfo L) (jz I.hok J) hd dd ?_;have q:=(C.val k).isSome_eq;rw [Qgy] at q;rw [<-q,<-l];exact h _ (I.tok _)
theorem Zf5(L:A.units + 1 < cLine)(I:Inv X pins σ H s)(g:Zie H a y o)(G:RelV y u)(h:∀s',Inv X pins σ H s'->Q (.bool (!o.isSome)) s') :
  wpAny (model X.prog X.w) A (compareOp .NotIn u (.ref a)) Q E s:=by
 rcases g with ⟨kvs,k,e,D,l⟩ | ⟨kvs,k,b,e,D,J,l⟩
 ·subst D
  obtain ⟨z,hd,vs,C,dd⟩:=zf I.hok e;refine wpAny_notIn_of (ze G) hd dd.mapOf ?_;rw [<-(C.val k).isSome_eq,<-l];exact h _ (I.tok _)
 ·subst D
  cases (show u=Value.ref b from G);obtain ⟨z,hd,xs,C,dd⟩:=ur I.hok e;refine wpAny_notIn_heap (Qfo L) (jz I.hok J) hd dd ?_;have q:=(C.val k).isSome_eq;rw [Qgy] at q;rw [<-q,<-l];exact h _ (I.tok _)
theorem zg{h':Heap}{t':Nat}(I:Inv X pins σ H s)(C:Mut (H a))(hs:Heap.SameBut a s.heap h')(he:∃q,h'.get? a=some q)(new:Yn X.prog X.w (upd H a Y) h' a Y) :
  Inv X pins σ (upd H a Y) { s with heap:=h',toks:=t' } :=
 I.write (x:=a) (e:=a) C (.inl rfl) (fun b q hb z=>(hs.2 b hb).trans z) he new
theorem uw{H':Hp}{h':Heap}{kvs:A0}{vs:List (Key × Av)}(z:kvs.length<=sizeLine)(hd:(a == sysModules)=false)(q:KV kvs vs)(dd:h'.DictOf (ZD P w) a vs) :
  Yn P w H' h' a (.dK kvs):=⟨z,hd,vs,q,dd⟩
theorem ux{H':Hp}{Q:Unit->Shared->Prop}(Z:A.units + 1 < cLine)(I:Inv X pins σ H s)(g:Zcl H a y v H')(M:RelV y u)(O:RelV v r)(h:∀s',Inv X pins σ H' s'->Q () s') :
  wpAny (model X.prog X.w) A (setItem (.ref a) u r) Q E s:=by
 rcases g with ⟨kvs,k,e,J,l,G⟩ | ⟨kvs,k,b,e,J,S,l,G⟩
 ·subst J G
  obtain ⟨z,hd,vs,C,dd⟩:=Zf4 I.hok e;have L:vs.length<=sizeLine:=by rw [<-C.length];exact z
  have hl:(putK kvs k v).length<=sizeLine:=by have:=XR kvs k v;lia
  refine wpAny_setItem_pairs (hsz:=L) (ze M) dd fun h' dd' hs=>h _ ?_;have he:∃q,h'.get? a=some q:=let ⟨q,_,_,D,_⟩:=dd';⟨q,D⟩;exact zg I (by rw [e];exact True.intro) hs he (uw hl hd (C.put k O) dd')
 ·subst J G
  cases (show u=Value.ref b from M);obtain ⟨z,hd,xs,C,dd⟩:=dt_of I.hok e;have L:xs.length<=sizeLine:=by rw [<-Qfk C];exact z
  have hl:(putK kvs k v).length<=sizeLine:=by have:=XR kvs k v;lia
  refine wpAny_setItem_heap (hsz:=L) (Qfo Z) (jz I.hok S) dd fun h' dd' hs=>h _ ?_;obtain ⟨q,es,ep,D,h2,h3,Y,_,h5⟩:=dd';refine zg I (by rw [e];exact True.intro) hs ⟨q,D⟩ ⟨hl,hd,_,(C.put k S O).keeps fun c ys N=>?_,q,es,ep,D,h2,h3,Y,h5⟩;rw [Zj (X4 N e (fun z=>nomatch z))];exact N
end
section
variable {X:Cx}{pins:Ac}{σ:St}{H:Hp}{s:As}{a:Aw}{kvs:A0}{k:Key}{u:Av}{A:Ar}{E:Ab}
end
def Zjy(i:Ax):Prop:=∀C q,subscripted i false C q=operate [C,q] (getItem C q)
theorem uy{prog:Aq}{A:Ar}{E:Ab}{env:Env}{q:Ax}{T id:String}
  (hl:typeLookup (.type T) "__getitem__" = pure (some (.builtin id))) (hs:Zjy q)
  (h:wpAny (model prog w) A (eval e env) (fun o D=>wpAny (model prog w) A (eval q env) (fun i s₂=>s₂.TypeIs o T/\wpAny (model prog w) A (getItem o i) Q E s₂) E D) E s) :
  wpAny (model prog w) A (eval (.Subscript e q p) env) Q E s:=by
 refine Subscript_ (Qdj h (fun o D I=>Qdj I (fun i s₂ C=>?_) fun _ _ x=>x) fun _ _ x=>x);obtain ⟨L,C⟩:=C;refine Qaa ?_;refine Qaa (Qee L hl ?_);have fin:wpAny (model prog w) A (subscripted q false o i) (fun r G=>wpAny (model prog w) A (letTemporaryGo e o r >>= fun _=>pure r) Q E G) E s₂:=by
  rw [hs o i];exact wpAny_operating (Qdj C (fun r G J=>Qaa (wpAny_letTemporaryGo (Qae J))) fun _ _ x=>x)
 first
  | exact Qae (Qaa fin)
  | exact Qaa (Qae (Qaa fin))
  | exact Qaa fin
theorem yE {X:Cx}       {o:Option V} (I:Inv X m d H s) (g:Zie H a y o):s.TypeIs (.ref a) "dict" := by
 rcases g with ⟨kvs,k,e,_,_⟩ | ⟨kvs,k,b,e,_,_,_⟩
 ·obtain ⟨_,_,vs,_,dd⟩:=zf I.hok e
  exact dd.typeIs
 ·obtain ⟨_,_,xs,_,dd⟩:=ur I.hok e
  exact dd.typeIs
def Ziz(td ty:TE):TE:=fun σ H Q=>td σ H fun x H1=>ty σ H1 fun y H2=>∃a v,x=.ref a/\Zie H2 a y (some v)/\Q v H2
def Zi0(td ty tv:TE):TS:=fun D σ H=>tv σ H fun v H1=>td σ H1 fun x H2=>ty σ H2 fun y C=>∃a q,x=.ref a/\Zcl C a y v q/\D.nx σ q
section
variable {X:Cx}{o i e value:Ax}{pos pos' tpos:Pos}{td ty tv:TE}
theorem Zf6(M:X.A.units + 1 < cLine)(ho:PE X o td)(hi:PE X i ty)(hs:Zjy i):PE X (.Subscript o i pos) (Ziz td ty):=by
 intro pins s σ H Q I h;refine uy PySem.F.slot_dict_getitem.lookup hs (thn (ho pins s σ H _ I h) fun u G ⟨x,H1,J,D,N⟩=>thn (hi pins G σ H1 _ J N) fun iv Y ⟨y,H2,C,L,a,v,ex,g,O⟩=>?_);subst ex;obtain rfl:u=Value.ref a:=D;exact ⟨yE C g,uv M C g L fun w' Z S q=>⟨v,H2,S,q,O⟩⟩
theorem Zf7(Y:X.A.units + 1 < cLine)(ho:PE X o td)(hi:PE X i ty)(hv:PE X value tv)(hs:swapsWith value (some (.Subscript o i pos')) pos.line X.env=pure false) :
  PS X (.Assign [.Subscript o i pos'] value pos) (Zi0 td ty tv):=by
 intro pins s σ H D I h;refine wpAny_Assign_Subscript (thn (hv pins s σ H _ I h) fun r C ⟨v,H1,N,L,Z⟩=>thn (ho pins C σ H1 _ N Z) fun u O ⟨x,H2,I2,q,q2⟩=>thn (hi pins O σ H2 _ I2 q2) fun iv s3 ⟨y,H3,I3,J,a,M,ex,g,S⟩=>?_) hs;subst ex;obtain rfl:u=Value.ref a:=q;exact ux Y I3 g J L fun s4 G=>⟨σ,M,G,S⟩
end
theorem zh    (h:Heap) (hb:sysModules < h.objs.size):Yn P w H (h.push { cls:=.type "dict",data:=.dict #[] }) h.objs.size (.dK []) :=
 ⟨Qbc _,Qfd.mpr (Qdo (Qbd hb)),[],.nil,Heap.DictOf.new h⟩
def Zep:TE:=fun _ H Q=>∀p,H p=none->Q (.ref p) (upd H p (.dK []))
section
variable {X:Cx}{pos:Pos}
theorem Zcm:PE X (.Dict [] [] pos) Zep:=fun pins s σ H Q I h =>
 wpAny_Dict_empty ⟨.ref s.heap.objs.size,_,I.laid (a:=s.heap.objs.size) (o:=.dK []) (t':=s.toks) (fun _ _ q=>Qab _ q) (Qag _) (zh s.heap I.big),rfl,h _ (I.hok.fresh (Qag _))⟩
end
def uz:List (TE × TE)->St->Hp->(List (V × V)->Hp->Prop)->Prop
 | [],_,H,Q=>Q [] H
 | (tk,tv)::r,σ,H,Q=>tk σ H fun x H1=>tv σ H1 fun y H2=>uz r σ H2 fun ps q=>Q ((x,y)::ps) q
abbrev VV:List (V × V)->List (Av × Av)->Prop:=Paired fun p q=>RelV p.1 q.1/\RelV p.2 q.2
def PPs(X:Cx)(pos:Pos)(keys:List (Option Ax))(q:An)(C:List (TE × TE)):Prop :=
 ∀(pins:Ac) (s:As) (σ:St) (H:Hp) (Q:List (V × V)->Hp->Prop),Inv X pins σ H s->uz C σ H Q ->
  wpAny (model X.prog X.w) X.A (evalPairs (pairTrees keys q X.env pos)) (fun vs s'=>∃ps H',Inv X pins σ H' s'/\VV ps vs/\Q ps H') X.xe s
theorem Zf8{X:Cx}:PPs X p [] [] []:=fun pins s σ H Q I h=>pairTrees_nil_walk ⟨[],H,I,.nil,h⟩
theorem Zcn{X:Cx}{k v:Ax}{ks:List (Option Ax)}{vs:An}{tk:TE}{q:List (TE × TE)}(hk:PE X k tk)(hv:PE X v c)(hr:PPs X p ks vs q) :
  PPs X p (some k::ks) (v::vs) ((tk,c)::q):=fun pins s σ H Q I h =>
 pairTrees_cons_walk (thn (hk pins s σ H _ I h) fun u G ⟨x,H1,M,D,S⟩=>thn (hv pins G σ H1 _ M S) fun w2 N ⟨y,H2,I2,J,Y⟩ =>
  thn (hr pins N σ H2 _ I2 Y) fun ws s3 ⟨ps,L,Z,C,O⟩=>⟨(x,y)::ps,L,Z,.cons ⟨D,J⟩ C,O⟩)
def GQ(kvs q:A0):A0:=q.foldl (fun acc C=>putK acc C.1 C.2) kvs
theorem KV.merge:∀{C:A0} {D:List (Key × Av)} {kvs:A0} {vs:List (Key × Av)},KV C D->KV kvs vs->KV (GQ kvs C) (merged vs D):=by
 intro C D kvs vs r
 induction r generalizing kvs vs with
 | nil=>intro q;exact q
 | @cons p q ps J h t I =>
  intro G;have e:KV (putK kvs p.1 p.2) (stored vs q.1 q.2):=by
   have:=G.put p.1 h.2;rw [<-h.1];exact this
  exact I e
theorem Jb:∀(q kvs:A0),(GQ kvs q).length<=kvs.length + q.length
 | [],kvs=>by show kvs.length<=kvs.length + 0;lia
 | p::r,kvs=>by
  have h1:=Jb r (putK kvs p.1 p.2);have h2:=XR kvs p.1 p.2;show (GQ (putK kvs p.1 p.2) r).length<=_;rw [Qax];lia
theorem x9{P:Aq}{w:Au}:∀{kvs:A0} {D:List (Av × Av)},VV (kvs.map fun G=>(kV G.1,G.2)) D->∃C,Carries (ZD P w) D C/\KV kvs C
 | [],_,r=>by cases r;exact ⟨[],True.intro,.nil⟩
 | p::kvs,_,r=>by
  cases r with
  | @cons a b as bs h t =>
   obtain ⟨C,c,q⟩:=x9 (P:=P) (w:=w) t;obtain ⟨b1,b2⟩:=b;exact ⟨(p.1,b2)::C,⟨ze h.1,rfl,c⟩,.cons ⟨rfl,h.2⟩ q⟩
def Zi1(q:List (TE × TE)):TE:=fun σ H Q=>∀p,H p=none->uz q σ (upd H p (.dK [])) fun ps H2=>H2 p=some (.dK [])/\∃kvs:A0,ps=kvs.map (fun C=>(kV C.1,C.2))/\kvs.length<=15/\Q (.ref p) (upd H2 p (.dK (GQ [] kvs)))
theorem Zf9{X:Cx}{keys:List (Option Ax)}{D:List (TE × TE)}(h:PPs X p keys B D)(C:keys.all (·.isSome)=true)(hl:keys.length=B.length)(h0:keys≠[])
  (G:keys.length<=15):PE X (.Dict keys B p) (Zi1 D):=by
 intro pins s σ H Q I q;have hn:=I.hok.fresh (Qag s.heap.objs.size);have O:=I.laid (a:=s.heap.objs.size) (o:=.dK []) (h':=s.heap.push { cls:=.type "dict",data:=.dict #[] }) (t':=s.toks) (fun _ _ q=>Qab _ q) (Qag _) (zh s.heap I.big);refine wpAny_Dict_walk (knd:=ZD X.prog X.w) C hl h0 G (thn (h pins _ σ _ _ O (q _ hn)) fun ws s2 ⟨ps,H2,L,J,e,kvs,ep,lk,Z⟩=>?_);subst ep;obtain ⟨S,c,Y⟩:=x9 (P:=X.prog) (w:=X.w) J;obtain ⟨z,hd,M,N,dd⟩:=Zf4 L.hok e;cases N;refine ⟨S,c,dd,fun h' dd' hs=>⟨.ref s.heap.objs.size,_,?_,rfl,Z⟩⟩;have hz:(GQ [] kvs).length<=sizeLine:=by
  have h1:=Jb kvs [];rw [Qev] at h1;rw [Qhq];lia
 have he:∃q,h'.get? s.heap.objs.size=some q:=let ⟨q,_,_,hq,_⟩:=dd';⟨q,hq⟩;exact zg L (by rw [e];exact True.intro) hs he (uw hz hd (Y.merge .nil) dd')
structure M2(X:Cx)(o:Ax)(m:Str)(apos:Pos)(e f:Ax)(cpos:Pos):Prop where
 base:attributeBase o m X.env (eval o X.env)=eval o X.env
 few:((backTo cpos (starEach [e,f] X.env)).all (fun x=>!x.1) && (backToKw cpos (keywordEach [] X.env)).all (fun x=>x.1.isSome)
  && decide (([e,f]:An).length + ([]:List Keyword).length + (if ([]:List Keyword).isEmpty then 0 else 1) < 30))=true
 line:(apos.endLine == cpos.line)=true
 trees:backTo cpos (starEach [e,f] X.env)=[(false,eval e X.env),(false,eval f X.env)]
section
variable {X:Cx}{pins:Ac}{σ:St}{H:Hp}{s:As}{a:Aw}{y d:V}{u r:Av}{o:Option V}{A:Ar}{E:Ab}
end
section
variable {X:Cx}{o e f:Ax}{apos cpos:Pos}{td ty tx:TE}
end
section
variable {X:Cx}{pins:Ac}{σ:St}{H:Hp}{s:As}{a:Aw}{kvs:A0}{A:Ar}{E:Ab}
theorem Zco  (I:Inv X pins σ H s) (e:Rd H a (.dK kvs)) (h:∀p s',H p=none->Inv X pins σ (upd H p (.dK kvs)) s'->Q (.ref p) s'):wpAny (model X.prog X.w) A (call (.type "dict") [.ref a]) Q E s:=by
 obtain ⟨z,hd,vs,C,dd⟩:=zf I.hok e;refine kt_call_dict hd dd (by rw [<-C.length];exact z) fun h' dd' hs=>?_;refine h _ _ (I.hok.fresh (Qag _)) (I.laid (a:=s.heap.objs.size) (o:=.dK kvs) (t':=s.toks) (fun b q D=>?_) (Qag _) (uw z (Qfd.mpr (Qdo (Qbd I.big))) C dd'));exact (hs.2 b (Qbd (Qan D))).trans (Qab _ D)
end
section
variable {X:Cx}{pins:Ac}{σ:St}{H:Hp}{s:As}{a:Aw}{y:V}{u:Av}{A:Ar}{E:Ab}
end
section
variable {X:Cx}
end
end L2
namespace EnT
open PySem PySem.Spec PyProof.Rows
open AutoSeq1 (wpAny_loadPart')
def tIt (l:Aw):Obj:={ cls:=.type "tuple_iterator",data:=.fields #[.ref l,.int 0 0] }
def enO (it:Aw):Obj:={ cls:=.type "enumerate",data:=.fields #[.none,.bool false,.ref it,rawInt 0,.none,.none] }
theorem Xo(l:Aw)(items:Ah) :
  Meets (Builtin.«enumerate.__new__» ⟨[.type "enumerate",.ref l],[]⟩) (fun _ R s=>s.heap.IsTuple l items /\
   R (.ok (.ret (.ref (s.heap.push (tIt l)).objs.size))) { s with heap:=(s.heap.push (tIt l)).push (enO s.heap.objs.size) }) :=
 .of_wp fun prog w A R s h=>by
  obtain ⟨hp,g,d,tk,os⟩:=s;obtain ⟨q,h⟩:=h;have C:=sub_enumerate;obtain ⟨⟨oc,od,D,G⟩,hl,hc,n,hd⟩:=id q;simp only at hc hd;subst hc hd
  wp_walk using wpAny_loadPart' hl
  refine wpAny_stack_any fun st=>Qae ?_
  split
  ·rename_i c _ _ _ _ _
   cases (c == Value.type "enumerate")
   ·wp_walk using wpAny_loadPart' hl,Qeq q
    exact ⟨_,rfl,h⟩
   ·wp_walk using wpAny_loadPart' hl,Qeq q
    exact ⟨_,rfl,h⟩
  ·wp_walk using wpAny_loadPart' hl,Qeq q
   exact ⟨_,rfl,h⟩
section
variable {prog:Aq}{w:Au}{A:Ar}{E:Ab}{s:As}
theorem next_of{it l:Aw}{items:_}{x:Av}(q:s.heap.IsTupleIter it l i)(hl:s.heap.IsTuple l items)(hx:items[i]?=some x)
  (G:∀h',h'.IsTupleIter it l (i + 1)->Heap.SameBut it s.heap h'->Q x { s with heap:=h' }):wpAny (model prog w) A (Builtin.SmallTypes.nextOf (.ref it)) Q E s:=by
 obtain ⟨o,ho,hc,hd⟩:=id q;obtain ⟨I,C,_,J,D⟩:=hl;refine Qaa (wpAny_callSpecial?_slot (name:=Str.ofString "__next__") q.typeIs Qd5 (Qbe Qd5 q.typeIs Qgj ?_ (Qge _)));show wpAny _ _ (field (.ref it) 0 >>= _) _ _ s;refine Qaa (Qbk ho hd (x:=.ref l) rfl ?_);refine Qaa (Qbk ho hd (x:=.int i 0) rfl ?_);refine Qaa (Qb7 C D ?_);simp only [Qbs,hx];refine Qaa (Qcq ho hd (by simp) (Qae ⟨x,rfl,Qae (G _ ⟨_,Qbj _ ho (Qcj (Qbo hd _)),(Qef ..).trans hc,?_⟩ (Qbt ..))⟩));rw [Qbo hd];simp [rawInt]
theorem next_no{it l:Aw}{items:_}(hh:A.handled=none)(q:s.heap.IsTupleIter it l i)(hl:s.heap.IsTuple l items)(hx:items[i]?=none)
  (G:∀h' e,Heap.ExtBut it s.heap h'->(∃o,h'.get? e=some o/\o.cls=.type "StopIteration")->E (.ref e) { s with heap:=h' }):wpAny (model prog w) A (Builtin.SmallTypes.nextOf (.ref it)) Q E s:=by
 obtain ⟨o,ho,hc,hd⟩:=id q;obtain ⟨I,D,_,J,C⟩:=hl;refine Qaa (wpAny_callSpecial?_slot (name:=Str.ofString "__next__") q.typeIs Qd5 (Qbe Qd5 q.typeIs Qgj ?_ (Qge _)));show wpAny _ _ (field (.ref it) 0 >>= _) _ _ s;refine Qaa (Qbk ho hd (x:=.ref l) rfl ?_);refine Qaa (Qbk ho hd (x:=.int i 0) rfl ?_);refine Qaa (Qb7 D C ?_);simp only [Qbs,hx];refine Qaa (Qdk (Qaa (Qcq ho hd (by simp) ?_)));refine Qaa ?_;refine Qaa (Qbh ?_ (by size_fits));refine Qaa (m:=firstArgMember _ _) (Qch (a:=Value.none) (by first | rfl | (rfl)) ?_);refine Qbh ?_ (by size_fits);refine Qaa (Qgd ?_)
 first | rw [show A.in1.handled=none from hh] | rw [hh]
 refine Qaa (Qae (Qg5 ?_));exact G _ _ (((Qbt ..).extBut.push _).push _) ⟨_,Qak _ rfl,rfl⟩
theorem yF{e it l:Aw}{items:Ah}{x:Av}
  (he:IsEnum s.heap e it i u) (hit:s.heap.IsTupleIter it l i) (hl:s.heap.IsTuple l items) (hx:items[i]?=some x) (S:e≠it)
  (hQ:∀h',IsEnumOut h' e it ((i:Int) + 1) x s.heap.objs.size->h'.IsTupleIter it l (i + 1) ->
   h'.get? s.heap.objs.size=some { cls:=.type "tuple",data:=.seq #[.int i s.toks,x] }->h'.objs.size=s.heap.objs.size + 1 ->
   (∀b o,b≠e->b≠it->s.heap.get? b=some o->h'.get? b=some o)->Q (.ref s.heap.objs.size) { s with heap:=h',toks:=s.toks + 1 }) :
  wpAny (model prog w) A (Builtin.«enumerate.__next__» ⟨[.ref e],[]⟩) (fun fin s'=>∃v,fin=.done (.ret v)/\Q v s') E s:=by
 obtain ⟨hp,g,d,tk,os⟩:=s;show wpAny _ _ (field (.ref e) 2 >>= _) _ _ _;refine Qaa (Qbk he rfl (x:=.ref it) rfl ?_);refine Qaa (next_of hit hl hx fun h₁ Z M=>?_);have N:IsEnum h₁ e it i u:=(M.2 e S).trans he;refine Qaa (Qbk N rfl (x:=rawInt i) rfl ?_);refine Qaa (Qbk N rfl (x:=.none) rfl ?_);refine Qaa (Qfx ?_);refine Qaa (Qbp N (by simp) fun h₂ he₂ L=>?_);refine Qaa (Qbp he₂ (by simp) fun Y he₃ J=>?_);refine Qaa (Qf0 ?_);have q:IsEnum (Y.push { cls:=.type "tuple",data:=.seq #[.int i tk,x] }) e it ((i:Int) + 1) u:=Qab _ he₃;generalize hh₄:Y.push { cls:=.type "tuple",data:=.seq #[.int i tk,x] }=I at q;have hsz:Y.objs.size=hp.objs.size:=by rw [J.1,L.1,M.1]
 have hel:e < hp.objs.size:=Qan he;have ht₄:I.get? hp.objs.size=some { cls:=.type "tuple",data:=.seq #[.int i tk,x] }:=by rw [<-hh₄,<-hsz];exact Qak _ rfl
 have hz₄:I.objs.size=hp.objs.size + 1:=by rw [<-hh₄,Qbq,hsz]
 have hk₄:∀b o,b≠e->b≠it->hp.get? b=some o->I.get? b=some o:=fun b o O hbi hb=>by
  rw [<-hh₄];exact Qab _ (J.extBut b o O (L.extBut b o O (M.extBut b o hbi hb)))
 have hit₄:I.IsTupleIter it l (i + 1):=by
  rw [<-hh₄];obtain ⟨o,ho,r⟩:=(Z.extBut L.extBut (Qdo S)).extBut J.extBut (Qdo S);exact ⟨o,Qab _ ho,r⟩
 show wpAny _ _ (Builtin.SmallTypes.ownedTupleIsFree (.ref e) >>= _) _ _ ⟨I,g,d,tk + 1,os⟩;rw [hsz];refine Qaa ?_
 ·refine Qaa (Qbk q rfl (x:=.none) rfl (Qae ?_))
  refine Qaa (Qdk ?_);refine Qaa (Qbk q rfl (x:=u) rfl ?_);refine Qaa (Qbp q (by simp) fun h₅ he₅ D=>?_);refine Qaa ?_
  ·refine Qaa (Qbp he₅ (by simp) fun h₆ he₆ G=>?_)
   refine Qbp he₆ (by simp) fun h₇ he₇ C=>?_;refine Qaa (Qew (Qae ⟨_,rfl,hQ h₇ he₇ ?_ ?_ ?_ ?_⟩))
   ·exact ((hit₄.extBut D.extBut (Qdo S)).extBut G.extBut (Qdo S)).extBut C.extBut (Qdo S)
   ·exact C.extBut _ _ (Qdp hel) (G.extBut _ _ (Qdp hel) (D.extBut _ _ (Qdp hel) ht₄))
   ·rw [C.1,G.1,D.1,hz₄]
   ·exact fun b o O hbi hb=>C.extBut b o O (G.extBut b o O (D.extBut b o O (hk₄ b o O hbi hb)))
theorem next_item{e it l:Aw}{items:Ah}{x:Av}{Q:Aa}
  (he:IsEnum s.heap e it i u) (C:s.heap.IsTupleIter it l i) (hl:s.heap.IsTuple l items) (hx:items[i]?=some x) (q:e≠it)
  (G:∀h',IsEnumOut h' e it ((i:Int) + 1) x s.heap.objs.size->h'.IsTupleIter it l (i + 1) ->
   h'.get? s.heap.objs.size=some { cls:=.type "tuple",data:=.seq #[.int i s.toks,x] }->h'.objs.size=s.heap.objs.size + 1 ->
   (∀b o,b≠e->b≠it->s.heap.get? b=some o->h'.get? b=some o)->Q (some (.ref s.heap.objs.size)) { s with heap:=h',toks:=s.toks + 1 }) :
  wpAny (model prog w) A (pyNext (.ref e)) Q E s:=by
 have D:s.TypeIs (.ref e) "enumerate" := ⟨_,he,rfl⟩;exact Qaa (Qc1 (wpAny_callSpecial?_slot (name:=Str.ofString "__next__") D Qcp (Qbe Qcp D Qeo
   (yF he C hl hx q fun h' a b c d k=>Qae (G h' a b c d k)) (Qei _))))
theorem next_end{e it l:Aw}{items:Ah}{Q:Aa}(hh:A.handled=none)
  (he:IsEnum s.heap e it i u) (C:s.heap.IsTupleIter it l i) (hl:s.heap.IsTuple l items) (hx:items[i]?=none)
  (I:∀h',Heap.ExtBut it s.heap h'->Q none { s with heap:=h' }):wpAny (model prog w) A (pyNext (.ref e)) Q E s:=by
 have G:s.TypeIs (.ref e) "enumerate" := ⟨_,he,rfl⟩;refine Qaa (Qc1 (wpAny_callSpecial?_slot (name:=Str.ofString "__next__") G Qcp (Qbe Qcp G Qeo ?_ (Qei _))));show wpAny _ _ (field (.ref e) 2 >>= _) _ _ _;refine Qaa (Qbk he rfl (x:=.ref it) rfl ?_);refine Qaa (next_no hh C hl hx fun h' x D q=>?_);obtain ⟨o,ho,hc⟩:=q;refine Qaa (Qc0 (T := "StopIteration") (b:=true) ⟨o,ho,hc⟩ Qe9 ?_);exact Qae (I _ D)
theorem call_new{l:Aw}{items:Ah}(hl:s.heap.IsTuple l items)
  (h:∀h',IsEnum h' (s.heap.objs.size + 1) s.heap.objs.size 0 .none->h'.IsTupleIter s.heap.objs.size l 0->h'.objs.size=s.heap.objs.size + 2 ->
   (∀b o,s.heap.get? b=some o->h'.get? b=some o)->Q (.ref (s.heap.objs.size + 1)) { s with heap:=h' }):wpAny (model prog w) A (call (.type "enumerate") [.ref l]) Q E s:=by
 refine Qhd F.called_enumerate (by decide) (F.typeCall_enumerate_1 _) (F.newCall_enumerate_1 _) (fun q=>Qf8 q _) F.entry_enumerate_new (Xo l items) ⟨hl,?_⟩;have C:(s.heap.push (tIt l)).objs.size=s.heap.objs.size + 1:=Qbq ..;rw [C];have he:IsEnum ((s.heap.push (tIt l)).push (enO s.heap.objs.size)) (s.heap.objs.size + 1) s.heap.objs.size 0 .none:=by
  have:=Qak (s.heap.push (tIt l)) (o:=enO s.heap.objs.size) rfl;rw [C] at this;exact this
 refine ⟨⟨_,he,rfl⟩,h _ he ⟨_,Qab _ (Qak _ rfl),rfl,rfl⟩ (by rw [Qbq,C]) fun b o x=>Qab _ (Qab _ x)⟩
end
end EnT
namespace L2
open PySem PySem.Spec PyProof.Rows
theorem XB{X:Cx}{pins:Ac}{h':Heap}{t':Nat}(I:Inv X pins d H s)(hf:∀b∈L,GC X pins H b)(k:∀b o,b∉L->s.heap.get? b=some o->h'.get? b=some o):Inv X pins d H { s with heap:=h',toks:=t' }:=by
 have C:∀b u,H b=some u->b∉L:=fun b u e z=>by rw [(hf b z).1] at e;cases e
 refine I.step (g':=s.gens) (d':=s.drawn) (ch:=L) (fun b hb=>⟨(hf b hb).2.2.2.1,(hf b hb).2.1,(hf b hb).2.2.2.2.1,(hf b hb).2.2.2.2.2⟩) (fun b o _ _ hc e _=>k b o hc e) (fun b o _ _ hc e _=>⟨o.slots,k b o hc e⟩) (fun _ _ _ _ n=>n)
  (fun b o hc e=>⟨o,k b o hc e⟩) (fun _ _ e=>e) (fun _ _ _ e=>e) (fun b ps e=>⟨#[],by rw [e];simp⟩) (fun m hm=>?_) (fun b u e=>?_) I.bare
 ·obtain ⟨o,es,ep,ho,r⟩:=hm
  exact ⟨o,es,ep,k _ o (fun z=>(hf _ z).2.1 rfl) ho,r⟩
 ·refine (I.hok b u e).stay (fun c v hc q=>k c v ?_ q) (fun _ q=>q) fun _ _ q=>q
  rcases hc with z | z
  ·rw [z]
   exact C b u e
  ·exact C c _ z
def Ite(K:Af)(a:Aw)(n:Nat):It :=
 ⟨fun i H=>∃xs x,SqT K H a xs/\xs.length=n/\xs[i]?=some x,fun i H v H'=>∃p,H p=none/\v=.ref p/\∀xs x,SqT K H a xs->xs[i]?=some x->H'=upd H p (.tup [.int i,x]),fun i H=>∃xs,SqT K H a xs/\xs.length=n/\n<=i⟩
theorem uA{ps:Pos}(a e it:Aw)(n:Nat)(L:e≠it):Turn P w K (.Tuple B Z ps) (Ite K a n) [e,it] e (fun i h=>(∃q,IsEnum h e it i q)/\h.IsTupleIter it a i) where
 mem:=by simp
 obj:=fun i h st b hb=>by
  obtain ⟨⟨q,he⟩,o,ho,hc,hd⟩:=st;rcases Qam.mp hb with rfl | hb
  ·grind
  ·grind
 keep:=fun i h h' st k=>by
  obtain ⟨⟨q,he⟩,C⟩:=st;exact ⟨⟨q,k e (by simp) _ he⟩,C.at fun o x=>k it (by simp) o x⟩
 item:=by
  intro X hP hw Y hc i pins s σ H E I hf st hg;subst hP hw Y;obtain ⟨xs,x,S,hn,hx⟩:=hg;obtain ⟨J,rv,p,hz⟩:=I.tuple S;obtain ⟨u,hu,ru⟩:=rv.get hx;obtain ⟨⟨q,he⟩,C⟩:=st;obtain ⟨f0,f1,f2,f3,f4,f5⟩:=hf e (by simp);obtain ⟨g0,g1,g2,g3,g4,g5⟩:=hf it (by simp);have hilt:it < s.heap.objs.size:=by obtain ⟨_,z,_⟩:=C;exact Qan z
  refine EnT.next_item he C (show s.heap.IsTuple a J.toArray from p) (x:=u) (by simpa using hu) L fun h' ho M hT hsz hk=>?_;refine ⟨_,rfl,wpAny_letOwnedTupleGo_enum (s:={ s with heap:=h',toks:=s.toks + 1 }) ho fun h2 he2 hs2=>?_⟩;have D:Heap.SameBut e h' h2:=hs2;have I1:Inv X pins σ (upd H s.heap.objs.size (.tup [.int i,x])) { s with heap:=s.heap.push { cls:=.type "tuple",data:=.seq #[.int i s.toks,u] },toks:=s.toks + 1 } :=
   I.laid (fun b o y=>Qab _ y) (Qag _) ⟨by show 2<=sizeLine;decide,[.int i s.toks,u],.cons ⟨_,rfl⟩ (.cons ru .nil),y8.new _ _⟩
  have N:∀b∈[e,it],GC X pins (upd H s.heap.objs.size (.tup [.int i,x])) b:=fun b hb=>by
   have hlb:b≠s.heap.objs.size:=by
    grind
   obtain ⟨a0,ar⟩:=hf b hb;exact ⟨by rw [Zj hlb];exact a0,ar⟩
  have I2:Inv X pins σ (upd H s.heap.objs.size (.tup [.int i,x])) { s with heap:=h2,toks:=s.toks + 1 }:=by
   refine XB (s:={ s with heap:=s.heap.push { cls:=.type "tuple",data:=.seq #[.int i s.toks,u] },toks:=s.toks + 1 }) I1 N fun b o hb y=>?_;have G:b≠e:=fun z=>hb (by simp [z]);have hbi:b≠it:=fun z=>hb (by simp [z]);rcases Qe7 y with ⟨rfl,rfl⟩ | y
   ·exact (D.2 _ G).trans hT
   ·exact (D.2 b G).trans (hk b o G hbi y)
  refine ⟨.ref s.heap.objs.size,_,I2,rfl,⟨_,I.hok.fresh (Qag _),rfl,fun ys y hy O=>?_⟩,⟨⟨u,?_⟩,M.at fun o y=>(D.2 it L.symm).trans y⟩,fun b hb=>(N b hb).1⟩
  ·rw [I.tuple_inj hy S,hx] at O
   cases O
   rfl
  ·grind
 done:=by
  intro X hP hw Y hc i pins s σ H E I hf st hg;subst hP hw Y;obtain ⟨xs,S,hn,hx⟩:=hg;obtain ⟨J,rv,p,hz⟩:=I.tuple S;obtain ⟨⟨q,he⟩,C⟩:=st;obtain ⟨g0,g1,g2,g3,g4,g5⟩:=hf it (by simp);have hl:=rv.length;exact EnT.next_end (I.ok.hd hc) he C (show s.heap.IsTuple a J.toArray from p) (by simp;lia) fun h' eb=>⟨rfl,I.turned (t':=s.toks) (fun b o hb e=>eb b o hb e) g0 g1 g3 g4 g5⟩
 self:=fun _ _ _ _ _ st h=>let ⟨⟨_,he⟩,_⟩:=st;Qfz he h
def iEnum(K:Af)(te:TE):TI:=fun σ H R=>te σ H fun x H1=>∃a xs,x=.ref a/\SqT K H1 a xs/\R (Ite K a xs.length) H1
theorem JT:bootBuiltins "enumerate" = some (.type "enumerate"):=by decide +kernel
theorem Zcp {X:Cx}    {ps:Pos}   (hg:Gl X "enumerate") (hm:X.mg "enumerate" = none) (he:QE X e c) (hp:ZV e=true:=by rfl):QI X (.Tuple B i ps) (.Call (.Name "enumerate" p) [e] [] D) (iEnum X.K c):=by
 refine ⟨fun pins s σ H R I h=>?_⟩;have hs:starEach [e] X.env=[(false,eval e X.env)]:=by rw [Zq hp];rfl
 refine Call_ (WE I hg hm JT (Qcf ?_ hs rfl));rw [hs];refine Qco (thn (he.out pins s σ H _ I h) fun u q ⟨x,H1,C,N,O⟩=>?_);refine Qd0 ?_;obtain ⟨a,xs,rfl,M,r⟩:=O;cases N;obtain ⟨L,Y,pt,Z⟩:=C.tuple M;refine EnT.call_new (show q.heap.IsTuple a L.toArray from pt) fun h' J G hsz hk=>?_;have S:Inv X pins σ H1 { q with heap:=h' }:=C.kept (t':=q.toks) hk;refine Qfz J ⟨q.heap.objs.size + 1,[q.heap.objs.size + 1,q.heap.objs.size],_,_,H1,rfl,S,uA a (q.heap.objs.size + 1) q.heap.objs.size xs.length (Nat.succ_ne_self _),⟨⟨_,J⟩,G⟩,fun b hb=>?_,r⟩;rcases Qam.mp hb with rfl | hb
 ·exact C.fpOk (Qdu _) (C.hok.fresh (Qdu _))
 ·have:b=q.heap.objs.size:=by simpa using hb
  subst this;exact C.fpOk (Qag _) (C.hok.fresh (Qag _))
theorem yG{X:Cx}{y:Str}{pos:Pos}{k:Nat}{q t2:TG}(hc:X.calm=true)(h1:QG X (.Name x p) q)(h2:QG X (.Name y D) t2):QG X (.Tuple [.Name x p,.Name y D] k pos) (Zid X.K 2 (GB q (GB t2 Zic))) :=
 ⟨Zee hc (Gy h1.out (Gy h2.out gB))⟩
theorem Zcq{xs:A2}{j k:Nat}(C:Nat->St->Hp->Prop)(S:C 0 d H)(hl:∀i d H,i<=xs.length->C i d H->SqT K H a xs)
  (hs:∀i x d H p,xs[i]?=some x->H p=none->C i d H->q { M with nx:=C (i + 1),ct:=C (i + 1),bk:=M.nx } ((d.set j (some (.int i))).set k (some x)) (upd H p (.tup [.int i,x]))) (hd:∀d H,C xs.length d H->M.nx d H) :
  ∃W:Nat->Nat->St->Hp->Prop,(∃m,W 0 m d H)/\∀i m d H,W i m d H ->
   ((Ite K a xs.length).stop i H/\M.nx d H)\/((Ite K a xs.length).go i H/\∃N:A1,(∀D H',N D H'->∃L,L < m/\W (i + 1) L D H')/\∀x H',(Ite K a xs.length).yld i H x H'->(Zid K 2 (GB (WN j) (GB (WN k) Zic))) x d H' fun J H2=>q { M with nx:=N,ct:=N,bk:=M.nx } J H2):=by
 refine ⟨fun i m d H=>m=xs.length - i/\i<=xs.length/\C i d H,⟨xs.length,by simp,Qbc _,S⟩,?_⟩;rintro i m d H ⟨rfl,hi,p⟩;have I:=hl i d H hi p
 by_cases G:i < xs.length
 ·have hx:=Qad G
  refine .inr ⟨⟨xs,xs[i],I,rfl,hx⟩,C (i + 1),fun D H' O=>⟨xs.length - (i + 1),by lia,rfl,G,O⟩,fun v H' y=>?_⟩;obtain ⟨t,Y,rfl,y⟩:=y;have e:=y xs _ I hx;subst e;exact ⟨t,_,rfl,SqT.of Za,rfl,_,_,rfl,_,_,rfl,rfl,hs i _ d H t hx Y p⟩
 ·have e:i=xs.length:=by lia
  exact .inl ⟨⟨xs,I,rfl,by lia⟩,by rw [e] at p;exact hd d H p⟩
section
variable {X:Cx}
theorem yH{i:Ax}(q:X.A.units + 1 < cLine)(ho:QE X o c)(hi:QE X i I)(hs:Zjy i):QE X (.Subscript o i p) (Ziz c I):=⟨Zf6 q ho.out hi.out hs⟩
theorem GR:QE X (.Dict [] [] p) Zep:=⟨Zcm⟩
theorem GS{i:Ax}{tv:TE}(q:X.A.units + 1 < cLine)(ho:QE X o c)(hi:QE X i I)(hv:QE X e tv)(hs:swapsWith e (some (.Subscript o i D)) p.line X.env=pure false) :
  QS X (.Assign [.Subscript o i D] e p) (Zi0 c I tv):=⟨Zf7 q ho.out hi.out hv.out hs⟩
def rDIn(neg:Bool):R2:=fun y x H Q=>∃a o,x=.ref a/\Zie H a y o/\Q (.bl (if neg then !o.isSome else o.isSome)) H
theorem xA(J:X.A.units + 1 < cLine):OpR X (compareOp .In) (rDIn false):=by
 intro pins s σ H x y v u Q I C G h;obtain ⟨a,o,rfl,g,q⟩:=h;cases G;exact d_in J I g C fun s' D=>⟨.bl o.isSome,H,D,rfl,q⟩
theorem zi(J:X.A.units + 1 < cLine):OpR X (compareOp .NotIn) (rDIn true):=by
 intro pins s σ H x y v u Q I C G h;obtain ⟨a,o,rfl,g,q⟩:=h;cases G;exact Zf5 J I g C fun s' D=>⟨.bl (!o.isSome),H,D,rfl,q⟩
theorem wt:YM X (.type "dict") (fun xs H Q=>∃a kvs,xs=[V.ref a]/\Rd H a (.dK kvs)/\∀p,H p=none->Q (.ref p) (upd H p (.dK kvs))):=by
 intro pins s σ H xs G Q I r h;obtain ⟨a,kvs,rfl,e,q⟩:=h;obtain ⟨u,rfl,D⟩:=vals1 r;cases D;exact Zco I e fun p s' hp C=>⟨.ref p,_,C,rfl,q p hp⟩
theorem zj{κ:Type}[DecidableEq κ]:∀{kvs:List (κ × V)},(kvs.map (·.1)).Nodup->∀p∈kvs,Ye kvs p.1=some p.2
 | [],_,_,h=>nomatch h
 | q::r,D,p,h=>by
  rw [Qbx,Qbr] at D;rcases Qam.mp h with rfl | h
  ·exact ZX rfl
  ·have C:¬q.1=p.1:=fun z=>D.1 (by rw [z];exact Qb2 h)
   rw [ZT C];exact zj D.2 p h
theorem Inv.freeze{pins:Ac}{kvs:A0}{o:Obj}(I:Inv X pins d H s)(e:Rd H a (.dK kvs))(ho:s.heap.get? a=some o):Inv X pins d (upd H a (.frz o (.dK kvs))) s:=by
 rcases e with e | ⟨o',e⟩
 ·have ne:∀b u,H b=some u->u≠.dK kvs->b≠a:=fun b u hb G z=>by
   grind
  refine I.step (h':=s.heap) (g':=s.gens) (d':=s.drawn) (t':=s.toks) (ch:=[]) (fun _ z=>nomatch z) (fun b o _ _ _ q _=>q) (fun b o _ _ _ q _=>⟨o.slots,q⟩) (fun b o _ _ n=>?_) (fun b o _ q=>⟨o,q⟩)
   (fun b xs q=>by rw [Zj (ne b _ q (fun z=>nomatch z))];exact q) (fun b o u q=>by rw [Zj (ne b _ q (fun z=>nomatch z))];exact q) (fun b ps q=>⟨#[],by rw [Zj (ne b _ q (fun z=>nomatch z)),q];simp⟩) (fun m hm=>hm) (fun b u q=>?_) I.bare
  ·rw [Zj (fun z=>by rw [z,e] at n;cases n)]
   exact n
  ·have st:∀u,Yn X.prog X.w H s.heap b u->Yn X.prog X.w (upd H a (.frz o (.dK kvs))) s.heap b u:=fun u x =>
    x.stay (fun _ _ _ q=>q) (fun c q=>by rw [Zj (ne c _ q (fun z=>nomatch z))];exact q) fun c xs q=>by rw [Zj (ne c _ q (fun z=>nomatch z))];exact q
   by_cases hb:b=a
   ·subst hb
    rw [Za] at q;cases q;exact ⟨ho,st _ (I.hok b _ e)⟩
   ·rw [Zj hb] at q
    exact st u (I.hok b u q)
 ·have z:=I.hok a _ e
  obtain ⟨D,_⟩:=z;have:o=o':=Option.some.inj (ho.symm.trans D);subst this;have C:upd H a (.frz o (.dK kvs))=H:=by
   funext b
   unfold upd
   split
   ·rename_i hb
    rw [hb,e]
   ·rfl
  rw [C];exact I
theorem vR{k:Key}{v:Av}(h:(ZD P w).is k v=true):RelV (kV k) v:=by
 rw [kW] at h;cases k with
 | inl i =>
  cases v <;> first
   | (have e:=h;unfold GA Value.isInt at e;simp at e;exact ⟨_,by rw [e]⟩)
   | (unfold GA Value.isInt at h;simp at h)
 | inr x =>
  cases v <;> first
   | (have e:=h;unfold GA Value.isStrOf at e;simp at e;exact ⟨_,by rw [e]⟩)
   | (unfold GA Value.isStrOf at h;simp at h)
end
inductive KTab(P:Params):List DictEntry->List (Str × Int)->Prop
 | nil:KTab P [] []
 | cons {k:Str} {v:Int} {t u:Tok} {es:List DictEntry} {l:List (Str × Int)}:KTab P es l->KTab P ({ hash:=PyData.keyHash P k,key:=.str k t,val:=.int v u }::es) ((k,v)::l)
structure KD(K:Af)(w:Au)(a:Aw)(l:List (Str × Int)):Prop where
 ex:∃es ep,K.lookup a=some { cls:=.type "dict",dict:=none,data:=.dict es ep,slots:=#[] }/\KTab w.params es.toList l
 nd:(l.map (·.1)).Nodup
 ns:(a == sysModules)=false
def kvsOf(l:List (Str × Int)):A0:=l.map fun p=>((Sum.inr p.1:Key),V.int p.2)
theorem KTab.pairs{es:List DictEntry}{l:List (Str × Int)}(h:KTab w.params es l):(∃vs,KV (kvsOf l) vs/\Pairs (ZD P w) es vs)/\∀e∈es,∃k,(ZD P w).is k e.key=true/\e.hash=(ZD P w).hash k:=by
 induction h with
 | nil=>exact ⟨⟨[],.nil,.nil⟩,fun _ h=>nomatch h⟩
 | @cons k v t u es l _ C =>
  obtain ⟨⟨vs,r,p⟩,q⟩:=C;refine ⟨⟨(.inr k,.int v u)::vs,.cons ⟨rfl,⟨u,rfl⟩⟩ r,.cons (WM P w k t) rfl p⟩,fun e he=>?_⟩;rcases Qam.mp he with rfl | he
  ·exact ⟨.inr k,WM P w k t,rfl⟩
  ·exact q e he
section
variable {X:Cx}{pins:Ac}{σ:St}{H:Hp}{s:As}{a:Aw}{l:List (Str × Int)}{k:Key}{u:Av}{A:Ar}{E:Ab}
theorem KD.of(I:Inv X pins σ H s)(d:KD X.K X.w a l):∃vs,KV (kvsOf l) vs/\s.heap.DictOf (ZD X.prog X.w) a vs:=by
 obtain ⟨es,ep,hk,t⟩:=d.ex;obtain ⟨⟨vs,r,p⟩,q⟩:=t.pairs (P:=X.prog);refine ⟨vs,r,_,es,ep,I.kIn a _ hk,⟨rfl,rfl,rfl⟩,rfl,fun e he=>q e (by simpa using he),p,?_⟩;rw [<-r.keys];unfold kvsOf;rw [Qa3];have:=d.nd;rw [List.nodup_iff_pairwise_ne] at *;rw [List.pairwise_map] at *;exact this.imp fun h z=>h (Sum.inr.inj z)
theorem kd_in(I:Inv X pins σ H s)(d:KD X.K X.w a l)(C:RelV (kV k) u)(h:∀s',Inv X pins σ H s'->Q (.bool (Ye (kvsOf l) k).isSome) s'):wpAny (model X.prog X.w) A (compareOp .In u (.ref a)) Q E s:=by
 obtain ⟨vs,q,dd⟩:=d.of I;refine wpAny_in_of (ze C) d.ns dd.mapOf ?_;rw [<-(q.val k).isSome_eq];exact h _ (I.tok _)
theorem Zga{z:V}{r:Av}(I:Inv X pins σ H s)(d:KD X.K X.w a l)(G:RelV (kV k) u)(D:RelV z r)(h:∀C s',Inv X pins σ H s'->RelV ((Ye (kvsOf l) k).getD z) C->Q C s') :
  wpAny (model X.prog X.w) A (call (.builtin "dict.get") [.ref a,u,r]) Q E s:=by
 obtain ⟨vs,q,dd⟩:=d.of I;exact Qhe Qf3 dd.typeIs PySem.F.entry_dict_get (PySem.F.args_dict_get_3 _ _ _) (meets_dict_get_default (ZD X.prog X.w) a (ze G) d.ns r) ⟨_,dd.mapOf,h _ _ (I.tok _) ((q.val k).getD D)⟩
end
section
variable {X:Cx}
def rKIn(K:Af)(w:Au):R2:=fun y x H Q=>∃a l k,x=.ref a/\KD K w a l/\y=kV k/\Q (.bl (Ye (kvsOf l) k).isSome) H
theorem yI:OpR X (compareOp .In) (rKIn X.K X.w):=by
 intro pins s σ H x y v u Q I C G h;obtain ⟨a,l,k,rfl,d,rfl,q⟩:=h;cases G;exact kd_in I d C fun s' D=>⟨.bl _,H,D,rfl,q⟩
def tKGet(K:Af)(w:Au)(td ty tx:TE):TE:=fun σ H Q=>td σ H fun x H1=>∃a l,x=.ref a/\KD K w a l/\ty σ H1 fun y H2=>tx σ H2 fun z q=>∃k,y=kV k/\Q ((Ye (kvsOf l) k).getD z) q
theorem m2_of{f:Ax}{m:Str}(he:ZV e=true)(hf:ZV f=true)(hb:attributeBase o m X.env (eval o X.env)=eval o X.env)(hl:(p.endLine == D.line)=true):M2 X o m p e f D where
 base:=hb
 few:=by
  rw [all_plain (by grind)]
  rfl
 line:=hl
 trees:=by
  rw [Zq he,Zq hf]
  rfl
theorem yJ {f:Ax}  {tx:TE} (ho:QE X o c) (he:QE X e I) (hf:QE X f tx) (h1:ZV e=true:=by rfl) (h2:ZV f=true:=by rfl) (hb:attributeBase o "get" X.env (eval o X.env)=eval o X.env:=by rfl) (hl:(p.endLine == D.line)=true:=by rfl) :
  QE X (.Call (.Attribute o "get" p) [e,f] [] D) (tKGet X.K X.w c I tx):=by
 have m:=m2_of (X:=X) (m := "get") (o:=o) h1 h2 hb hl;refine ⟨fun pins s σ H Q C h=>?_⟩;refine wpAny_Call_method m.base m.few m.line PySem.F.plainAttrs_dict Qf3 PySem.F.type_dict_get (thn (ho.out pins s σ H _ C h) fun u M ⟨x,H1,J,L,a,l,ex,d,q1⟩=>?_);subst ex;obtain rfl:u=Value.ref a:=L;obtain ⟨vs,rel,dd⟩:=d.of J;refine ⟨dd.typeIs,fun b q=>?_,?_⟩
 ·cases q
  obtain ⟨ob,_,_,S,g2,_⟩:=dd;exact ⟨ob,S,g2.2.1⟩
 rw [m.trees];refine Qdh rfl (Qe6 (Qco (thn (he.out pins M σ H1 _ J q1) fun iv s2 ⟨y,H2,I2,O,q2⟩=>Qco (thn (hf.out pins s2 σ H2 _ I2 q2) fun fv s3 ⟨z,Y,I3,rz,k,Z,q3⟩=>Qd0 ?_))));subst Z;exact Zga I3 d O rz fun w' s4 N G=>⟨_,Y,N,G,q3⟩
end
theorem Zcr{is:Aj}{Q:VK}(f:Nat->V)(G:x.cps.size<=sizeLine)
  (he:∀c∈x.cps.toList,∀R:VK,R (f c) H->I (J1 is d (some (.str ⟨#[c]⟩))) H R)
  (hd:∀l,H l=none->Q (.ref l) (upd H l (.lst (x.cps.toList.map f)))):GP is Zch I d Q (Its x) H:=by
 refine ⟨fun i m zs H'=>m=x.cps.size - i/\i<=x.cps.size/\zs=(x.cps.toList.take i).map f/\H'=H,⟨x.cps.size,by simp,Qbc _,rfl,rfl⟩,?_⟩;rintro i m zs H' ⟨rfl,hi,rfl,rfl⟩;have hl:((x.cps.toList.take i).map f).length<=sizeLine:=by
  grind
 by_cases q:i < x.cps.size
 ·refine .inr ⟨q,hl,fun v H2 y=>?_⟩
  obtain ⟨e,c,hc,rfl⟩:=y;subst e;have C:x.cps.toList[i]?=some c:=by rw [Qd8];exact hc
  refine he c (Qas C) _ ⟨x.cps.size - (i + 1),by lia,rfl,q,?_,rfl⟩;rw [take_snoc C,Qav]
  rfl
 ·have e:i=x.cps.size:=by lia
  refine .inl ⟨e,hl,fun l D=>?_⟩;rw [Qcx (by rw [Qbn];lia)];exact hd l D
def Zcs:A2->List V->Bool
 | [],[]=>true
 | x::xs,y::ys=>eqV x y && Zcs xs ys
 | _,_=>false
def eqJ(xs ys:A2)(j:Nat):Bool:=match xs[j]?,ys[j]? with
 | some a,some b=>eqV a b
 | _,_=>true
theorem xB:∀xs ys:A2,((List.range (min xs.length ys.length)).all (eqJ xs ys) && xs.length == ys.length)=Zcs xs ys
 | [],[]=>rfl
 | [],y::ys=>by simp [Zcs]
 | x::xs,[]=>by simp [Zcs]
 | x::xs,y::ys=>by
  have q:=xB xs ys;have e1:min (x::xs).length (y::ys).length=min xs.length ys.length + 1:=by
   simp only [Qax];lia
  have e2:((x::xs).length == (y::ys).length)=(xs.length == ys.length):=by simp
  rw [e1,e2,List.range_succ_eq_map,Qcr,List.all_map,Bool.and_assoc];show (eqV x y && ((List.range (min xs.length ys.length)).all (eqJ xs ys) && xs.length == ys.length))=(eqV x y && Zcs xs ys);rw [q]
theorem uB{A:Ar}{xs ys:A2}{q:Ag}(r:Vals xs U)(J:Vals ys q)(f:xs.all Xc=true)(L:ys.all Xc=true):∀j (h1:j < U.toArray.size) (h2:j < q.toArray.size),SeqAt.EqAt A s U.toArray[j] q.toArray[j] (eqJ xs ys j):=by
 intro j h1 h2;have l1:=r.length;have l2:=J.length;have D:j < xs.length:=by rw [l1];simpa using h1
 have C:j < ys.length:=by rw [l2];simpa using h2
 obtain ⟨u,e1,S⟩:=r.get (Qad D);obtain ⟨M,e2,Y⟩:=J.get (Qad C);have N:Xc xs[j]=true:=Qce.mp f _ (Qbm D);have O:Xc ys[j]=true:=Qce.mp L _ (Qbm C);have I:U.toArray[j]=u:=by
  grind
 have G:q.toArray[j]=M:=by
  grind
 have e3:eqJ xs ys j=eqV xs[j] ys[j]:=by
  unfold eqJ;rw [Qad D,Qad C]
 rw [I,G,e3];exact Zeg (A:=A) (s:=s) S Y N O
section
variable {X:Cx}
def rEqL(K:Af)(neg:Bool):R2:=fun x y H Q=>∃a c xs ys,x=.ref a/\y=.ref c/\SqL K H a xs/\SqL K H c ys/\xs.all Xc=true/\ys.all Xc=true/\Q (.bl (if neg then !Zcs xs ys else Zcs xs ys)) H
theorem uC(J:X.A.units < cLine):OpR X (compareOp .NotEq) (rEqL X.K true):=by
 intro pins s σ H x y v u Q I L N h;obtain ⟨a,c,xs,ys,rfl,rfl,ha,hc,f,M,q⟩:=h;cases L;cases N;obtain ⟨D,r,p,_⟩:=I.list ha;obtain ⟨C,G,p2,_⟩:=I.list hc;have e:=xB xs ys
 by_cases hl:xs.length=ys.length
 ·have hs:D.toArray.size=C.toArray.size:=by rw [Qa2,Qa2,<-r.length,<-G.length];exact hl
  refine SeqAt.RcNeAt.lists (e:=eqJ xs ys) p.isList p2.isList hs J (uB r G f M) X.prog X.w _ _ (ZL I q ?_);show (!Zcs xs ys)=_;rw [hl,Qgq,Qdv,Bool.and_true] at e;rw [Qa2,<-r.length,hl,e]
 ·have hs:(D.toArray.size != C.toArray.size)=true:=by
   rw [Qa2,Qa2,<-r.length,<-G.length];simpa using hl
  refine SeqAt.RcNeAt.lists_lengths p.isList p2.isList hs J X.prog X.w _ _ (ZL I q ?_);rw [<-e,Qfd.mpr hl,Qgu]
  rfl
end
theorem XS(t:SetTable)(n:Nat):(t.standIn n).led=t.led/\(t.plain=false->(t.standIn n).plain=false):=⟨rfl,fun _=>rfl⟩
theorem zk(t:SetTable)(n:Nat):(t.orStandIn n).led=t.led/\(t.plain=false->(t.orStandIn n).plain=false):=by
 unfold SetTable.orStandIn;split
 ·exact ⟨rfl,id⟩
 ·exact XS _ _
theorem wu(t:SetTable)(es:Array (Int × Av))(h:Int)(x:Av):(layNew t es h x).2.1.led=t.led/\(t.plain=false->(layNew t es h x).2.1.plain=false):=by
 unfold layNew;split
 ·exact zk _ _
 ·exact XS _ _
theorem j0(t:SetTable)(es:Array (Int × Av))(n:Nat):(relayAll t es n).2.1.led=t.led/\(t.plain=false->(relayAll t es n).2.1.plain=false):=by
 unfold relayAll;split
 ·rename_i t' D q
  have C:t'.led=t.led/\(t.plain=false->t'.plain=false):=by
   unfold SetTable.relaid SetTable.laid at q;cases hc:SetTable.layClean (SetTable.sizeAbove n - 1) (es.map (·.1)) with
   | none=>rw [hc] at q;exact nomatch q
   | some G =>
    rw [hc] at q;obtain ⟨rfl,_⟩:=q;exact ⟨rfl,id⟩
  dsimp only
  split
  ·exact C
  ·exact XS _ _
 ·exact XS _ _
def tx:Av->Str
 | .str x _=>x
 | _=>⟨#[]⟩
def Gh(prog:Aq)(w:Au)(h:Heap)(a:Aw)(led:Bool)(S:Ai):Prop :=
 ∃o es ep t,h.get? a=some o/\o.ExactSet/\o.data=.set es ep t/\ElemsOf (strKind prog w) es.toList/\(es.toList.map fun e=>tx e.2).Perm S/\t.fits es.size=true/\t.led=led/\(es.size=0\/t.plain=false)
section
variable {prog:Aq}{w:Au}{A:Ar}{E:Ab}{s:As}
theorem Zi2{e:Av}{k:Str}(h:(strKind prog w).is k e=true):tx e=k:=by
 obtain ⟨t,rfl⟩:=Qgg h;rfl
theorem vS{l:List (Int × Av)}(h:ElemsOf (strKind prog w) l){e:Int × Av}(he:e∈l):(strKind prog w).is (tx e.2) e.2=true/\∃t,e.2=.str (tx e.2) t:=by
 obtain ⟨⟨k,hk,_⟩,_⟩:=h e he;rw [Zi2 hk];exact ⟨hk,Qgg hk⟩
def ins(S:Ai)(x:Str):Ai:=if x∈S then S else S++[x]
theorem Zgb{l:List (Int × Av)}(h:ElemsOf (strKind prog w) l) :
  (l.findIdx? (fun e=>(strKind prog w).is x e.2)).isSome=true↔x∈l.map (fun e=>tx e.2):=by
 rw [List.findIdx?_isSome,Qen,Qau]
 constructor
 ·rintro ⟨e,he,hx⟩;exact ⟨e,he,Zi2 hx⟩
 ·rintro ⟨e,he,hx⟩;exact ⟨e,he,hx ▸ (vS h he).1⟩
theorem GU{o:Obj}{es:Array (Int × Av)}{ep:Nat}{t:SetTable}(ho:h.get? a=some o)(D:o.ExactSet)(hd:o.data=.set es ep t)
  {q:Array (Int × Av)} {t':SetTable}  {led:Bool} (G:ElemsOf (strKind prog w) q.toList) (hp:(q.toList.map fun e=>tx e.2).Perm N) (hf:t'.fits q.size=true) (hl:t'.led=led) (C:q.size=0\/t'.plain=false) :
  (h.update a (Obj.putSet q t')).get? a=some { o with data:=.set q (ep + 1) t' }/\Gh prog w (h.update a (Obj.putSet q t')) a led N:=by
 have hg:(h.update a (Obj.putSet q t')).get? a=some { o with data:=.set q (ep + 1) t' }:=by
  have:=Qbj (Obj.putSet q t') ho (by rw [putSet_of q t' hd];rfl);rw [putSet_of q t' hd] at this;exact this
 exact ⟨hg,_,q,ep + 1,t',hg,D,rfl,G,hp,hf,hl,C⟩
theorem uD{led:Bool}{tk:Tok}{Q:Bool->Shared->Prop}(hS:Gh prog w s.heap a led N)(hroom:N.length + 1 < scanBound)
  (h:∀h' b,Heap.SameBut a s.heap h'->Gh prog w h' a led (ins N x)->Q b { s with heap:=h' }) :
  wpAny (model prog w) A (setAddHashed a (.str x tk) ((strKind prog w).hash x)) Q E s:=by
 obtain ⟨o,es,ep,t,ho,hex,hd,J,hp,hf,hl,hpl⟩:=hS;have hn:es.size=N.length:=by rw [<-hp.length_eq,Qac,Qbn]
 have hkey:(strKind prog w).is x (.str x tk)=true:=by show Value.isStrOf x (.str x tk)=true;simp [Value.isStrOf]
 refine Qcd (Qaa (Qeg ho hd hf ?_));dsimp only;rw [byScan_of (knd:=strKind prog w) rfl (by lia) J];refine Qaa ?_;refine Qaa (Qdk ?_);refine Qaa (wpAny_setScan_of hkey ho hd hf J ?_);have S:=Zgb J (x:=x);cases hr:List.findIdx? (fun e=>(strKind prog w).is x e.2) es.toList with
 | some j =>
  rw [hr] at S;have hx:x∈N:=hp.mem_iff.mp (S.mp rfl);refine Qae (Qae ?_);have:=h s.heap false (Heap.SameBut.refl a s.heap) (by rw [ins,Qa0 hx];exact ⟨o,es,ep,t,ho,hex,hd,J,hp,hf,hl,hpl⟩);exact this
 | none =>
  rw [hr] at S;have hx:x∉N:=fun hm=>by simpa using S.mpr (hp.mem_iff.mpr hm)
  have M:=wu t es ((strKind prog w).hash x) (.str x tk);have D:=layNew_perm t es ((strKind prog w).hash x) (.str x tk);have I:=layNew_fits t es ((strKind prog w).hash x) (.str x tk);generalize hL:layNew t es ((strKind prog w).hash x) (.str x tk)=L at M D I ⊢;obtain ⟨q,t1,wd,gave⟩:=L;rw [Qgz] at D;have hel1:ElemsOf (strKind prog w) q.toList:=(J.push hkey rfl).perm D;have hp1:(q.toList.map fun e=>tx e.2).Perm (ins N x):=by
   rw [ins,Qaw hx];refine (D.map _).trans ?_;rw [Qav];exact hp.append_right _
  have hz1:q.size=N.length + 1:=by
   have:=hp1.length_eq;rw [ins,Qaw hx,Qac,Qbn,Qap] at this;exact this
  have hg:∀(b:Bool) {C:As} {Y:Unit->Shared->Prop},Y () C->wpAny (model prog w) A (match b with | true=>rule "set.scan.the-table-gave-way" | false=>pure ()) Y E C :=
   fun b C Y G=>by cases b <;> first | exact Qae G | exact Qdk G
  refine Qaa (hg _ ?_);have key:∀(g:Bool->Sem Unit),(∀(b:Bool) (C:As) (Y:Unit->Shared->Prop),Y () C->wpAny (model prog w) A (g b) Y E C)->∀t2:SetTable,t2.fits q.size=true->t2.led=led->t2.plain=false ->
    wpAny (model prog w) A (do
     storeSet a q t2
     if (!wd && t2.tooFull)=true then do
       g (relayAll t2 q (SetTable.grown q.size)).2.2
       storeSet a (relayAll t2 q (SetTable.grown q.size)).1 (relayAll t2 q (SetTable.grown q.size)).2.1
       pure (some true)
      else pure (some true)) (fun r s'=>r=some true/\∀b,Q b s') E s:=by
   intro g hg t2 hf2 hl2 hp2;refine Qaa (wpAny_storeSet_of ho hd ?_ (Qg0 (by lia)));obtain ⟨ho1,hS1⟩:=GU (prog:=prog) (w:=w) ho hex hd hel1 hp1 hf2 hl2 (.inr hp2);have Z:=Qbt s.heap a (Obj.putSet q t2)
   split
   ·have G:=relayAll_perm t2 q (SetTable.grown q.size)
    have hfr:=relayAll_fits t2 q (SetTable.grown q.size);have O:=j0 t2 q (SetTable.grown q.size);generalize relayAll t2 q (SetTable.grown q.size)=Rl at G hfr O ⊢;obtain ⟨es2,t3,g2⟩:=Rl;dsimp only at G hfr O ⊢;have hz2:es2.size=q.size:=by rw [<-Qbn,G.length_eq,Qbn]
    refine Qaa (hg _ _ _ ?_);refine Qaa (wpAny_storeSet_of ho1 rfl ?_ (Qg0 (by lia)));obtain ⟨_,hS2⟩:=GU (prog:=prog) (w:=w) ho1 hex rfl (hel1.perm G) ((G.map _).trans hp1) hfr (O.1.trans hl2) (.inr (O.2 hp2));exact Qae ⟨rfl,fun b=>h _ b (Z.trans (Qbt _ a _)) hS2⟩
   ·exact Qae ⟨rfl,fun b=>h _ b Z hS1⟩
  split
  ·rename_i hpt
   refine Qaa ?_;rw [hashByValue_scannable 8 rfl];refine Qae ?_;rw [show plainKind (Value.str x tk)=false from rfl];refine Qdj (key _ ?_ { t1 with plain:=false } (SetTable.fits_plain_off I) (M.1.trans hl) rfl) ?_ (fun _ _ e=>e)
   ·intro b C Y G;cases b <;> first | exact Qae G | exact Qdk G
   ·rintro r s' ⟨rfl,G⟩
    exact Qae (G _)
  ·rename_i hpt
   refine Qaa (Qae ?_);refine Qdj (key _ ?_ t1 I (M.1.trans hl) (by simpa using hpt)) ?_ (fun _ _ e=>e)
   ·intro b C Y G;cases b <;> first | exact Qae G | exact Qdk G
   ·rintro r s' ⟨rfl,G⟩
    exact Qae (G _)
end
def XC(ys:Ai):Ai:=ys.foldl ins []
theorem xC(ys:Ai)(y:Str):XC (ys++[y])=ins (XC ys) y:=by simp [XC,Qc5]
theorem Zgc(S:Ai)(x:Str):(ins S x).length<=S.length + 1:=by unfold ins;split <;> simp
theorem X5(ys:Ai):∀i,(XC (ys.take i)).length<=i
 | 0=>by simp [XC]
 | i + 1=>by
  by_cases h:i < ys.length
  ·rw [Qg1,Qad h,Option.toList_some,xC]
   have:=X5 ys i;have:=Zgc (XC (ys.take i)) ys[i];lia
  ·rw [Qcx (by lia)]
   have:=X5 ys i;rw [Qcx (by lia)] at this;lia
theorem J5{prog:Aq}{h':Heap}{led:Bool}(q:Gh prog w h a led N)(hk:∀o,h.get? a=some o->h'.get? a=some o):Gh prog w h' a led N:=by
 obtain ⟨o,es,ep,t,ho,rest⟩:=q;exact ⟨o,es,ep,t,hk o ho,rest⟩
section
variable {prog:Aq}{w:Au}{A:Ar}{R:Result->Shared->Prop}{I:Aw}{fp wr:List Aw}{G:Array GenState->Array GenState->Prop}{n:Nat}{P:Nat->Value->Prop}{St:Nat->Shared->Prop}
theorem wx(W:WalksS prog w A.in1 I fp wr G n P St)(S:Aw)(L:S∉fp){led:Bool}{ys:Ai}(hn:ys.length=n)
  (N:∀i v,P i v->∃y t,ys[i]?=some y/\v=.str y t) (hb:n + 1 < scanBound) :
  ∀(k i:Nat) (s:As),n - i=k->i<=n->St i s->Gh prog w s.heap S led (XC (ys.take i)) ->
   (∀s',Moved (S::wr) G s s'->Gh prog w s'.heap S led (XC ys)->R (.ok (.ret .none)) s') ->
   codeAny (model prog w) A (.builtin "set.update.loop" ⟨[.ref S,.ref I],[]⟩) R s:=by
 have hSw:S∉wr:=fun h=>L (W.sub _ h);have q:∀b∈wr,b∈S::wr:=fun b hb=>Qal _ hb;intro k
 induction k with
 | zero =>
  intro i s hk hi D hS hR;have O:i=n:=by lia
  rw [O,<-hn,Qb8] at hS;subst O;refine Qdr F.entry_set_update_loop ?_;refine Qaa (W.done s _ _ D fun s' hm=>?_);exact Qae (hR s' (hm.mono q) (J5 hS fun o ho=>hm.heap S _ hSw ho))
 | succ k ih =>
  intro i s hk hi D hS hR;have Z:i < n:=by lia
  refine Qdr F.entry_set_update_loop ?_;refine Qaa (W.item i s _ _ Z D fun v s' hP Y hm=>?_);obtain ⟨y,t,hy,rfl⟩:=N i v hP;have hS':=J5 hS fun o ho=>hm.heap S _ hSw ho;refine Qaa (Qcd ?_);refine Qcd ?_;refine Qaa ((PySem.strKind prog w).pyHash (k:=y) (by show Value.isStrOf y (.str y t)=true;simp [Value.isStrOf]) ?_);have C:(XC (ys.take i)).length + 1 < scanBound:=by have:=X5 ys i;lia
  refine uD (s:={ s' with toks:=s'.toks + 1 }) hS' C fun h' b J hS2=>?_;rw [<-xC,show ys.take i++[y]=ys.take (i + 1) by rw [Qg1,hy,Option.toList_some]] at hS2;refine Qae ⟨Qej F.plain_set_update_loop _,ih (i + 1) _ (by lia) Z (W.frame _ s' _ _ Y (Qdu _) fun b hb o e=>?_) hS2 fun s'' hm'' M=>?_⟩
  ·rw [J.2 b (fun h:b=S=>L (by rw [<-h];exact hb))];exact e
  ·refine hR s'' (Moved.trans W.gtrans ((hm.mono q).then_heap (Qdu _) fun b o hb e=>?_) hm'') M
   rw [J.2 b (fun h:b=S=>hb (by rw [h];exact Qah))];exact e
end
section
variable {prog:Aq}{w:Au}{A:Ar}{E:Ab}{s:As}
def j4 (w:Au):Bool:=w.params.followText "set-order"
def Yr (w:Au):Obj:={ cls:=.type "set",dict:=none,data:=.set #[] 0 (.fresh 0 0 (!j4 w)) }
theorem yK(a:Av){Q₁:Ab}(h:Q₁ (.ref s.heap.objs.size) { s with heap:=s.heap.push (Yr w) }) :
  codeAny (model prog w) A (.call (.builtin "set.__new__") ⟨[.type "set",a],[]⟩) (wants Q₁ E) s:=by
 refine codeAny_of_tree ?_;show wpAny _ A.in1 (do checkBuiltinCall "set.__new__" ⟨[.type "set",a],[]⟩;again (.builtin "set.__new__" ⟨[.type "set",a],[]⟩)) _ _ s;refine Qaa (Qch (F.newCall_set_1 a) (Qae ⟨Qej F.plain_set_new _,Qdr F.entry_set_new ?_⟩));rw [Qea F.plain_set_new _];unfold Builtin.«set.__new__» Builtin.Frozenset.newClass;have q:=sub_set_self;obtain ⟨hp,g,d,tk,os⟩:=s;dsimp only
 wp_walk
 refine Qha (Qae ?_);dsimp only;simp only [newObj];refine Qaa (wpAny_alloc (Qae ?_));exact Qae h
theorem qU{l:Aw}{items:Ah}{ys:Ai}
  (hh:A.handled=none) (hl:s.heap.IsList l items) (hi:StrsAre items.toList ys) (hb:items.size + 1 < scanBound)
  (h:∀(h':Heap) (tk:Nat),s.toks<=tk->Gh prog w h' s.heap.objs.size (!j4 w) (XC ys) ->
   (∀b o,b < s.heap.objs.size->s.heap.get? b=some o->h'.get? b=some o)->Q (.ref s.heap.objs.size) { s with heap:=h',toks:=tk }) :
  wpAny (model prog w) A (call (.type "set") [.ref l]) Q E s:=by
 obtain ⟨c,tl,hmro⟩:=Qex.mro;have hmade:=Qex.made;have hsub:=Qex.sub;refine Qhm (codeAny_of_tree ?_);show wpAny _ _ (callAny (.type "set") _) _ _ _;refine Qae ⟨Code.quiet_builtin _ (by decide +kernel),Qdr F.entry_type_call ?_⟩;rw [Around.under_plain (weight_type_call_type "set" [.ref l] []) rfl];have h1:=Qex.notType;have h2:=Qex.canCreate;have hct:=F.typeCall_set_1 (.ref l)
 repeat (any_goals (first | assumption | wp_step))
 refine Qet (yK (.ref l) (E:=E) (Q₁:=fun obj D=>obj=.ref s.heap.objs.size/\D={ s with heap:=s.heap.push (Yr w) }) ⟨rfl,rfl⟩) fun r D hr=>?_;cases r with
 | error e=>exact hr
 | ok fl =>
  cases fl with
  | ret obj =>
   obtain ⟨rfl,rfl⟩:=hr;have hS:(s.heap.push (Yr w)).get? s.heap.objs.size=some (Yr w):=Qak _ rfl;have hT:Shared.TypeIs { s with heap:=s.heap.push (Yr w) } (.ref s.heap.objs.size) "set" := ⟨_,hS,rfl⟩;have hli:=Qex.init.lookup;have hbi:=Qex.init.bind (.ref s.heap.objs.size)
   repeat (any_goals (first | assumption | wp_step))
   refine Qet (codeAny_call_builtin (R:=wants (fun r s₂=>r=.none/\∃h' tk,s.toks<=tk/\s₂={ s with heap:=h',toks:=tk } /\
     Gh prog w h' s.heap.objs.size (!j4 w) (XC ys) /\
     (∀b o,b < s.heap.objs.size->s.heap.get? b=some o->h'.get? b=some o)) E) Qex.init.plain F.entry_set_init (check_set_init_1 hT ?_)) fun Z s₂ q=>?_
   ·obtain ⟨ol,hol,N,nl,hdl⟩:=hl
    obtain ⟨ocls,G,odata,C⟩:=ol;simp only at N hdl;subst N;subst hdl;have M:(s.heap.push (Yr w)).get? l=some { cls:=.type "list",dict:=G,data:=.seq items nl,slots:=C }:=Qab _ hol;have hsls:=F.sub_list_set;have hslf:=F.sub_list_frozenset;have hne:(Value.type "list" == Value.type "dict")=false:=by decide
    have Y:(s.heap.push (Yr w)).IsList l items:=⟨_,M,rfl,nl,rfl⟩;unfold Builtin.«set.__init__» noKeywords Builtin.Frozenset.updateFrom;generalize hPI:pyIter=PI
    wp_walk
    subst hPI;refine Qdz Y ?_;refine Qaa (wpAny_runValue ?_);have S:l < s.heap.objs.size:=Qan hol;have hh3:A.in1.in1.in1.handled=none:=by simp [hh]
    have O:l≠(s.heap.push (Yr w)).objs.size:=by
     rw [Qbq];exact Qbd (Qcg S)
    have hSf:s.heap.objs.size∉[(s.heap.push (Yr w)).objs.size,l]:=by
     rw [Qbq];simp only [Qam,Qat,Qa7,Qdl,not_or];exact ⟨Qbd (Qdg _),Qdp S⟩
    have hval:∀(i:Nat) (v:Av),items[i]?=some v->∃y t,ys[i]?=some y/\v=.str y t:=fun i v hv=>by
     rw [<-Qd8] at hv;obtain ⟨y,t,e1,e2⟩:=StrsAre.item hi i v hv;exact ⟨y,t,e2,e1⟩
    refine wx ((Walks.list hh3 _ l O items).toS) s.heap.objs.size
     hSf (led:=!j4 w) (ys:=ys) (by rw [<-Qbn];exact hi.length.symm) hval hb (items.size - 0) 0 _ (by lia) (Qbc _)
     ⟨⟨_,Qak _ rfl,rfl,rfl⟩,(Y.push _)⟩ ?hS0 ?hR
    case hS0 =>
     exact ⟨Yr w,#[],0,.fresh 0 0 (!j4 w),Qab _ hS,⟨rfl,rfl,rfl⟩,rfl,fun e he=>by simp at he,by simp [XC],rfl,rfl,.inl rfl⟩
    case hR =>
     intro s' hm I;have J:=hm.toks;obtain ⟨h',g',d',tk',os'⟩:=s';have eg:g'=s.gens:=hm.gens;have ed:d'=s.drawn:=hm.drawn;have eo:os'=s.os:=hm.os;subst eg;subst ed;subst eo;show wpAny _ _ _ _ _ _;refine Qae ?_;show wpAny _ _ (ret Value.none) _ _ _;refine Qae ⟨rfl,h',tk',J,rfl,I,fun b o hb e=>?_⟩;have hb1:b≠s.heap.objs.size:=Qbd hb;have hb2:b≠(s.heap.push (Yr w)).objs.size:=by
      rw [Qbq];exact Qbd (Qcg hb)
     exact hm.heap b o (by simp only [Qam,Qat,Qa7,Qdl,not_or];exact ⟨hb1,hb2⟩) (Qab _ (Qab _ e))
   ·cases Z with
    | error e=>exact q
    | ok L =>
     cases L with
     | ret r =>
      obtain ⟨rfl,h',tk,J,rfl,I,hk'⟩:=q
      repeat (any_goals (first | assumption | wp_step))
      exact h _ _ J I hk'
     | _=>exact q.elim
  | _=>exact hr.elim
end
theorem Z5:Slot "set_iterator" "__next__" "set_iterator.__next__" :=
 .of (owner := "set_iterator") (n := "__next__") (by rw [Qhc,Qf2];kernel_rfl) (by decide +kernel) (by decide +kernel) (by decide +kernel)
  (by first | exact .inl (by decide +kernel) | exact .inr (by decide +kernel)) (by rw [Qgv];kernel_rfl)
theorem YC:entryFor table "set_iterator.__next__" = some Builtin.«set_iterator.__next__»:=entryFor_of_tree (by kernel_rfl)
theorem owner_seti:Manifest.owners.lookup (String.ofList ['r','o','t','a','r','e','t','i','_','t','e','s'].reverse)=some Manifest.sig_set_iterator:=by kernel_rfl
theorem YU (a:Av):argsOk "set_iterator.__next__" ⟨[a],[]⟩:=by
 kernel_rfl
theorem qV:entryFor table "set.__iter__" = some Builtin.«frozenset.__iter__» :=
 entryFor_alias (id' := "frozenset.__iter__") (by kernel_rfl) rfl (by decide +kernel) (by kernel_rfl)
section
variable {prog:Aq}{w:Au}{A:Ar}{E:Ab}{s:As}
theorem wy{q:Source}{Q:Nat->Shared->Prop}(hn:n≠0)(h:∀i d,i < n->Q i { s with drawn:=d }):wpAny (model prog w) A (choose q n) Q E s:=by
 intro Γ p C;exact ⟨hn,h _ _ (Nat.mod_lt _ (Nat.pos_of_ne_zero hn))⟩
theorem YD{α:Type}:∀(xs:List α) (i:Nat) (x:α),xs[i]?=some x->(x::xs.eraseIdx i).Perm xs
 | [],i,x,h=>by simp at h
 | y::ys,0,x,h=>by simp at h;subst h;exact .rfl
 | y::ys,i + 1,x,h=>by
  exact (List.Perm.swap y x _).trans ((YD ys i x h).cons y)
theorem Jc{α:Type}:∀(n:Nat) (xs:List α) (s:As) (Q:List α->Shared->Prop),xs.length<=n->(∀ys d,ys.Perm xs->Q ys { s with drawn:=d })->wpAny (model prog w) A (drawOrder n xs) Q E s
 | 0,xs,s,Q,hn,h=>by
  have:xs=[]:=Qdw (by lia);subst this;exact Qae (h [] s.drawn .rfl)
 | n + 1,[],s,Q,hn,h=>by
  exact Qae (h [] s.drawn .rfl)
 | n + 1,y::ys,s,Q,hn,h=>by
  refine Qaa (wy (by simp) fun i d hi=>?_);obtain ⟨x,hx⟩:∃x,(y::ys)[i]?=some x:=⟨_,Qad hi⟩;rw [hx];refine Qaa (Jc n ((y::ys).eraseIdx i) _ _ (by grind) fun zs d' q=>?_);exact Qae (h _ d' ((q.cons x).trans (YD _ i x hx)))
end
theorem JU{α:Type}(next:Nat->Nat):∀(q k:Nat) (left:List α) (out:Array α),q=left.length->(pickOrder.go next q k left out).toList.Perm (out.toList++left)
 | 0,k,left,out,h=>by
  have:left=[]:=Qdw h.symm;subst this;unfold pickOrder.go;simp
 | q + 1,k,left,out,h=>by
  unfold pickOrder.go;have hi:next k % left.length < left.length:=Nat.mod_lt _ (by lia);rw [Qad hi];refine (JU next q (k + 1) _ _ (by grind)).trans ?_;rw [Qgz,Qb9];exact (YD left _ _ (Qad hi)).append_left _
theorem X6(next:Nat->Nat)(xs:Array g):(pickOrder next xs).toList.Perm xs.toList:=by
 unfold pickOrder;simpa using JU next xs.size 0 xs.toList #[] (by simp)
def Wl(h:Heap)(a:Aw)(es:Array (Int × Av))(ep:Nat)(t:SetTable):Prop:=∃o,h.get? a=some o/\o.ExactSet/\o.data=.set es ep t/\t.fits es.size=true
def Ys (h:Heap) (I a:Aw) (first:Av) (i n ep:Nat):Prop:=∃o,h.get? I=some o/\o.cls=.type "set_iterator" /\ o.data=.fields #[first,.int i 0,.ref a,.int n 0,.int ep 0]
section
variable {prog:Aq}{w:Au}{A:Ar}{E:Ab}{s:As}
theorem Ys.typeIs  {first:Av} {ep:Nat} (x:Ys s.heap f a first i n ep):s.TypeIs (.ref f) "set_iterator" := let ⟨o,ho,hc,_⟩:=x;⟨o,ho,hc⟩
theorem Ys.at{h':Heap}{first:Av}{ep:Nat}(x:Ys h f a first i n ep)(e:∀o,h.get? f=some o->h'.get? f=some o):Ys h' f a first i n ep:=let ⟨o,ho,r⟩:=x;⟨o,e _ ho,r⟩
theorem Wl.at{h':Heap}{es:Array (Int × Av)}{ep:Nat}{t:SetTable}(x:Wl h a es ep t)(e:∀o,h.get? a=some o->h'.get? a=some o):Wl h' a es ep t:=let ⟨o,ho,r⟩:=x;⟨o,e _ ho,r⟩
theorem Xe{Q:Bool->Shared->Prop}(h:Q (j4 w) s):wpAny (model prog w) A setsByText Q E s:=Qaa (Qha (Qae h))
theorem JV{es:Array (Int × Av)}{ep:Nat}{t:SetTable}{given:Nat}{Q:Option (Av × Nat)->Shared->Prop}(hb:j4 w=true)(hs:Wl s.heap a es ep t)
  (h:Q (((pickOrder (w.params.setOrder a ep) es)[given]?).map fun e=>(e.2,0)) s):wpAny (model prog w) A (setNext a 0 given ep) Q E s:=by
 obtain ⟨o,ho,q,hd,hf⟩:=hs;refine Qaa (Qeg ho hd hf ?_);refine Qaa (Xe ?_);rw [hb];simp only [↓reduceIte,Qd1,Qb5];refine Qaa (Qaa (Qeg ho hd hf ?_));refine Qaa (Xe ?_);rw [hb];refine Qaa (Qha (Qae ?_));exact Qae h
theorem Jd{es:Array (Int × Av)}{ep:Nat}{t:SetTable}{slot given:Nat}{Q:Option (Av × Nat)->Shared->Prop}(hb:j4 w=false)(hs:Wl s.heap a es ep t)(hl:t.led=true)(D:es.size<=1)
  (h:Q (match es[SetTable.below t.place slot]?,t.place[SetTable.below t.place slot]? with | some (_,x),some j=>some (x,j + 1) | _,_=>none) s):wpAny (model prog w) A (setNext a slot given ep) Q E s:=by
 obtain ⟨o,ho,C,hd,hf⟩:=hs;refine Qaa (Qeg ho hd hf ?_);refine Qaa (Xe ?_);rw [hb];have q:decide (es.size > 1)=false:=by simp;lia
 show wpAny _ _ (if (!t.plain && decide (es.size > 1))=true then _ else _) _ _ _;rw [q,Qgu];refine Qaa (m:=(if (!t.led && !es.isEmpty)=true then unsupported "set:maker-not-led" else pure ())) ?_;rw [hl];exact Qae (Qae h)
theorem zm{es:Array (Int × Av)}{ep:Nat}{t:SetTable}{e:Int × Av}(hs:Wl s.heap a es ep t)(he:es[i]?=some e)
  (h:Q e.2 s):wpAny (model prog w) A (setNextDrawn a i ep) Q E s:=by
 obtain ⟨o,ho,q,hd,hf⟩:=hs;refine Qaa (Qeg ho hd hf ?_);simp only [Qd1,Qb5,↓reduceIte];rw [he];exact Qae h
theorem wz{first:Av}{ep:Nat}(x:Ys s.heap f a first i n ep) :
  Ys ((s.heap.update f (Obj.mapFields (·.setIfInBounds 0 u))).update f (Obj.mapFields (·.setIfInBounds 1 (.int Z 0)))) f a u Z n ep:=by
 obtain ⟨o,ho,hc,hd⟩:=x;have h1:=Qbj (Obj.mapFields (·.setIfInBounds 0 u)) ho (Qcj (Qbo hd _));have q:=Qbo hd (·.setIfInBounds 0 u);refine ⟨_,Qbj _ h1 (Qcj (Qbo q _)),(Qef ..).trans ((Qef ..).trans hc),?_⟩;rw [Qbo q];simp
theorem j5{es:Array (Int × Av)}{ep:Nat}{t:SetTable}{slot:Nat}{x:Av}{nx:Nat}{Q:Aa}(q:Ys s.heap f a (.int slot 0) i es.size ep)(hs:Wl s.heap a es ep t)
  (hN:∀(G:Option (Av × Nat)->Shared->Prop) (L:Ab),G (some (x,nx)) s->wpAny (model prog w) A.in1 (setNext a slot i ep) G L s)
  (J:∀h',Ys h' f a (.int nx 0) (i + 1) es.size ep->Heap.SameBut f s.heap h'->Q (some x) { s with heap:=h' }):wpAny (model prog w) A (pyNext (.ref f)) Q E s:=by
 obtain ⟨o,ho,hc,hd⟩:=id q;obtain ⟨os,C,I,D,hf⟩:=id hs;refine Qaa (Qc1 (wpAny_callSpecial?_slot (name:=Str.ofString "__next__") q.typeIs Z5
  (Qbe Z5 q.typeIs YC ?_ (YU _))))
 refine Qaa (Qae ?_);refine Qaa (Qgw ho hd ?_);refine Qaa (Qek C D hf ?_);simp only [Qd1,Qb5,↓reduceIte];refine Qaa (hN _ _ ?_);refine Qaa (Qcq ho hd (by simp) ?_);have h1:=Qbj (Obj.mapFields (·.setIfInBounds 0 (rawInt (nx:Int)))) ho (Qcj (Qbo hd _));refine Qaa (Qcq (s:={ s with heap:=s.heap.update f (Obj.mapFields (·.setIfInBounds 0 (rawInt (nx:Int)))) }) h1 (Qbo hd _) (by simp) ?_);exact Qae ⟨_,rfl,Qae (J _ (wz q) ((Qbt ..).trans (Qbt ..)))⟩
theorem vT{es:Array (Int × Av)}{ep:Nat}{t:SetTable}{slot:Nat}{Q:Aa}(hh:A.handled=none)(q:Ys s.heap f a (.int slot 0) i es.size ep)(hs:Wl s.heap a es ep t)
  (hN:∀(G:Option (Av × Nat)->Shared->Prop) (L:Ab),G none s->wpAny (model prog w) A.in1 (setNext a slot i ep) G L s)
  (J:∀h',Heap.ExtBut f s.heap h'->Q none { s with heap:=h' }):wpAny (model prog w) A (pyNext (.ref f)) Q E s:=by
 obtain ⟨o,ho,hc,hd⟩:=id q;obtain ⟨os,C,I,D,hf⟩:=id hs;refine Qaa (Qc1 (wpAny_callSpecial?_slot (name:=Str.ofString "__next__") q.typeIs Z5
  (Qbe Z5 q.typeIs YC ?_ (YU _))))
 refine Qaa (Qae ?_);refine Qaa (Qgw ho hd ?_);refine Qaa (Qek C D hf ?_);simp only [Qd1,Qb5,↓reduceIte];refine Qaa (hN _ _ ?_);refine Qaa (Qcq ho hd (by simp) ?_);refine Qaa ?_;refine Qaa (Qbh ?_ (by size_fits));refine Qaa (m:=firstArgMember _ _) (Qch (a:=Value.none) (by first | rfl | (rfl)) ?_);refine Qbh ?_ (by size_fits);refine Qaa (Qgd ?_);rw [show A.in1.handled=none from hh];refine Qaa (Qae (Qg5 ?_));refine Qaa (Qc0 (T := "StopIteration") (b:=true) ⟨_,Qak _ rfl,rfl⟩ Qe9 ?_);exact Qae (J _ (((Qbt ..).extBut.push _).push _))
theorem wA{p:Aw}{es:Array (Int × Av)}{ep:Nat}{t:SetTable}{ps:Aj}{pl:Nat}{e:Int × Av}{Q:Aa}(q:Ys s.heap f a (.ref p) i es.size ep)(hs:Wl s.heap a es ep t)
  (hp:s.heap.get? p=some J) (G:J.data=.seq (ps.map fun (k:Nat)=>rawInt k).toArray n) (hi:ps[i]?=some pl) (he:es[pl]?=some e)
  (L:∀h',Ys h' f a (.ref p) (i + 1) es.size ep->Heap.SameBut f s.heap h'->Q (some e.2) { s with heap:=h' }):wpAny (model prog w) A (pyNext (.ref f)) Q E s:=by
 obtain ⟨o,ho,hc,hd⟩:=id q;obtain ⟨os,C,I,D,hf⟩:=id hs;refine Qaa (Qc1 (wpAny_callSpecial?_slot (name:=Str.ofString "__next__") q.typeIs Z5
  (Qbe Z5 q.typeIs YC ?_ (YU _))))
 refine Qaa (Qae ?_);refine Qaa (Qgw ho hd ?_);refine Qaa (Qek C D hf ?_);simp only [Qd1,Qb5,↓reduceIte];refine Qaa (Qb7 hp G ?_);dsimp only;rw [show ((ps.map fun (k:Nat)=>rawInt k).toArray)[(i:Int).toNat]?=some (rawInt pl) by simp [hi]];simp only [rawInt,Qbs];refine Qaa (zm hs he ?_);refine Qaa (Qcq ho hd (by simp) ?_);refine Qae ⟨_,rfl,Qae (L _ ⟨_,Qbj _ ho (Qcj (Qbo hd _)),(Qef ..).trans hc,?_⟩ (Qbt ..))⟩;rw [Qbo hd];simp
theorem uE{p:Aw}{es:Array (Int × Av)}{ep:Nat}{t:SetTable}{ps:Aj}{Q:Aa}(hh:A.handled=none)(q:Ys s.heap f a (.ref p) i es.size ep)(hs:Wl s.heap a es ep t)
  (hp:s.heap.get? p=some J) (G:J.data=.seq (ps.map fun (k:Nat)=>rawInt k).toArray n) (hi:ps[i]?=none)
  (L:∀h',Heap.ExtBut f s.heap h'->Q none { s with heap:=h' }):wpAny (model prog w) A (pyNext (.ref f)) Q E s:=by
 obtain ⟨o,ho,hc,hd⟩:=id q;obtain ⟨os,C,I,D,hf⟩:=id hs;refine Qaa (Qc1 (wpAny_callSpecial?_slot (name:=Str.ofString "__next__") q.typeIs Z5
  (Qbe Z5 q.typeIs YC ?_ (YU _))))
 refine Qaa (Qae ?_);refine Qaa (Qgw ho hd ?_);refine Qaa (Qek C D hf ?_);simp only [Qd1,Qb5,↓reduceIte];refine Qaa (Qb7 hp G ?_);dsimp only;rw [show ((ps.map fun (k:Nat)=>rawInt k).toArray)[(i:Int).toNat]?=none by simp;simpa using hi];refine Qaa (Qcq ho hd (by simp) ?_);have h1:=Qbj (Obj.mapFields (·.setIfInBounds 0 (rawInt 0))) ho (Qcj (Qbo hd _));refine Qaa (Qcq (s:={ s with heap:=s.heap.update f (Obj.mapFields (·.setIfInBounds 0 (rawInt 0))) }) h1 (Qbo hd _) (by simp) ?_);refine Qaa ?_;refine Qaa (Qbh ?_ (by size_fits));refine Qaa (m:=firstArgMember _ _) (Qch (a:=Value.none) (by first | rfl | (rfl)) ?_);refine Qbh ?_ (by size_fits);refine Qaa (Qgd ?_);rw [show A.in1.handled=none from hh];refine Qaa (Qae (Qg5 ?_));refine Qaa (Qc0 (T := "StopIteration") (b:=true) ⟨_,Qak _ rfl,rfl⟩ Qe9 ?_);exact Qae (L _ ((((Qbt ..).trans (Qbt ..)).extBut.push _).push _))
end
theorem WI:Slot "set_iterator" "__iter__" "set_iterator.__iter__" :=
 .of (owner := "set_iterator") (n := "__iter__") (by rw [Qhc,Qf2];kernel_rfl) (by decide +kernel) (by decide +kernel) (by decide +kernel)
  (by first | exact .inl (by decide +kernel) | exact .inr (by decide +kernel)) (by rw [Qgv];kernel_rfl)
theorem GV:entryFor table "set_iterator.__iter__" = some Builtin.«dict_keyiterator.__iter__» :=
 entryFor_alias (id' := "dict_keyiterator.__iter__") (by kernel_rfl) rfl (by decide +kernel) (by kernel_rfl)
theorem qW (a:Av):argsOk "set_iterator.__iter__" ⟨[a],[]⟩:=by
 kernel_rfl
section
variable {prog:Aq}{w:Au}{A:Ar}{E:Ab}{s:As}
theorem GW{first:Av}{ep:Nat}(q:Ys s.heap f a first i n ep)(h:Q (.ref f) s):wpAny (model prog w) A (pyIter (.ref f)) Q E s:=by
 refine Qfy q.typeIs WI (Qbe WI q.typeIs GV ?_ (qW _));exact Qae ⟨_,rfl,"set_iterator",_,q.typeIs,Z5.lookup,h⟩
def Txs(q:List (Int × Av))(i:Nat)(v:Av):Prop:=∃e,q[i]?=some e/\v=e.2
theorem wB{es:Array (Int × Av)}{ep:Nat}{t:SetTable}(hb:j4 w=true)(hh:A.handled=none)(J:a≠f) :
  Walks prog w A f [f,a] [f] es.size (Txs (pickOrder (w.params.setOrder a ep) es).toList) (fun i h=>Ys h f a (.int (0:Nat) 0) i es.size ep/\Wl h a es ep t) where
 sub:=fun b hb=>by simp at hb;simp [hb]
 frame:=fun _ _ _ st hk=>⟨st.1.at fun o e=>hk f (by simp) o e,st.2.at fun o e=>hk a (by simp) o e⟩
 item:=fun i s Q E hi st G=>by
  have hsz:(pickOrder (w.params.setOrder a ep) es).size=es.size:=by simpa using (X6 (w.params.setOrder a ep) es).length_eq
  obtain ⟨e,he⟩:∃e,(pickOrder (w.params.setOrder a ep) es)[i]?=some e:=⟨_,Qdm (by lia)⟩;refine j5 st.1 st.2 (x:=e.2) (nx:=0) (fun L M q=>JV hb st.2 (by rw [he];exact q)) fun h' C D=>?_;exact G e.2 h' s.toks ⟨e,by simpa using he,rfl⟩ ⟨C,st.2.at fun o e=>D.extBut a o J e⟩ fun b o hb e=>D.extBut b o (fun h=>hb (by simp [h])) e
 done:=fun s Q E st G=>by
  have hsz:(pickOrder (w.params.setOrder a ep) es).size=es.size:=by simpa using (X6 (w.params.setOrder a ep) es).length_eq
  exact vT hh st.1 st.2 (fun L M q=>JV hb st.2 (by grind)) fun h' I=>G h' s.toks fun b o hb e=>I b o (fun h=>hb (by simp [h])) e
 self:=fun _ _ _ _ st G=>GW st.1 G
theorem yL{p:Aw}{es:Array (Int × Av)}{ep:Nat}{t:SetTable}{ps:Aj}(D:ps.Perm (List.range es.size))(hh:A.handled=none)(S:a≠f)(N:p≠f) :
  Walks prog w A f [f,a,p] [f] es.size (Txs (ps.filterMap (es[·]?))) (fun i h=>Ys h f a (.ref p) i es.size ep/\Wl h a es ep t/\∃C np,h.get? p=some C/\C.data=.seq (ps.map fun (k:Nat)=>rawInt k).toArray np) where
 sub:=fun b hb=>by simp at hb;simp [hb]
 frame:=fun _ _ _ st hk=>⟨st.1.at fun o e=>hk f (by simp) o e,st.2.1.at fun o e=>hk a (by simp) o e,let ⟨C,np,h1,h2⟩:=st.2.2;⟨C,np,hk p (by simp) C h1,h2⟩⟩
 item:=fun i s Q E hi st L=>by
  obtain ⟨C,np,h1,h2⟩:=st.2.2;have G:ps.length=es.size:=by simpa using D.length_eq
  have q:∀k∈ps,k < es.size:=fun k hk=>by simpa using D.mem_iff.mp hk
  have J:ps[i]?=some (ps[i]'(by lia)):=Qad _;have hk:ps[i]'(by lia) < es.size:=q _ (Qbm _);have Y:ps.filterMap (es[·]?)=ps.map (fun k=>es.getD k (0,.none)):=by
   clear J D G hk hi h1 h2 st L
   induction ps with
   | nil=>rfl
   | cons k ks Z =>
    have:=q k (by simp);rw [List.filterMap_cons_some (b:=es.getD k (0,.none)) (by simp [Array.getD,this]),Z fun k hk=>q k (by simp [hk]),Qbx]
  refine wA st.1 st.2.1 h1 h2 J (Qdm hk) fun h' M I=>?_;refine L _ h' s.toks ⟨_,?_,rfl⟩ ⟨M,st.2.1.at fun o e=>I.extBut a o S e,C,np,I.extBut p C N h1,h2⟩ fun b o hb e=>I.extBut b o (fun h=>hb (by simp [h])) e;rw [Y,Qai,J];simp [Array.getD,hk]
 done:=fun s Q E st L=>by
  obtain ⟨C,np,h1,h2⟩:=st.2.2;have G:ps.length=es.size:=by simpa using D.length_eq
  exact uE hh st.1 st.2.1 h1 h2 (by simp;lia) fun h' O=>L h' s.toks fun b o hb e=>O b o (fun h=>hb (by simp [h])) e
 self:=fun _ _ _ _ st L=>GW st.1 L
theorem j6(j:Nat):SetTable.below #[j] 0=0/\SetTable.below #[j] (j + 1)=1:=by
 constructor <;> simp [SetTable.below,SetTable.below.go]
theorem yM{es:Array (Int × Av)}{ep:Nat}{t:SetTable}(hb:j4 w=false)(hl:t.led=true)(S:es.size<=1)(hh:A.handled=none)(N:a≠f) :
  Walks prog w A f [f,a] [f] es.size (Txs es.toList) (fun i h=>∃slot:Nat,(i=0->slot=0)/\(i=1->∃j,t.place=#[j]/\slot=j + 1)/\Ys h f a (.int slot 0) i es.size ep/\Wl h a es ep t) where
 sub:=fun b hb=>by simp at hb;simp [hb]
 frame:=fun _ _ _ st hk=>by
  obtain ⟨slot,J,G,h1,h2⟩:=st;exact ⟨slot,J,G,h1.at fun o e=>hk f (by simp) o e,h2.at fun o e=>hk a (by simp) o e⟩
 item:=fun i s Q E hi st I=>by
  obtain ⟨slot,J,G,h1,h2⟩:=st;have O:i=0:=by lia
  subst O;obtain rfl:=J rfl;have hps:t.place.size=1:=by
   obtain ⟨o,ho,Y,hd,hf⟩:=h2;simp only [SetTable.fits,Qbz,beq_iff_eq,Qg2] at hf;lia
  obtain ⟨j,L⟩:∃j,t.place=#[j]:=⟨t.place[0],by grind⟩;obtain ⟨e,he⟩:∃e,es[0]?=some e:=⟨_,Qdm (by lia)⟩;refine j5 h1 h2 (x:=e.2) (nx:=j + 1) (fun Q' Z q=>Jd hb h2 hl S (by rw [L,(j6 j).1,he];exact q)) fun h' D C=>?_;exact I e.2 h' s.toks ⟨e,by simpa using he,rfl⟩ ⟨j + 1,fun z=>absurd z (by lia),fun _=>⟨j,L,rfl⟩,D,h2.at fun o e=>C.extBut a o N e⟩ fun b o hb e=>C.extBut b o (fun h=>hb (by simp [h])) e
 done:=fun s Q E st I=>by
  obtain ⟨slot,J,G,h1,h2⟩:=st;refine vT hh h1 h2 (fun Q' Z q=>Jd hb h2 hl S ?_) fun h' M=>I h' s.toks fun b o hb e=>M b o (fun h=>hb (by simp [h])) e
  by_cases h0:es.size=0
  ·grind
  ·obtain ⟨j,L,rfl⟩:=G (by lia)
   rw [L,(j6 j).2,Array.getElem?_eq_none (by lia)];exact q
 self:=fun _ _ _ _ st I=>by
  obtain ⟨slot,J,G,h1,h2⟩:=st;exact GW h1 I
theorem yN{es:Array (Int × Av)}{ep:Nat}{t:SetTable}{Q:Bool->Shared->Prop}(hs:Wl s.heap a es ep t)(h:Q (!j4 w && (!t.plain && decide (es.size > 1))) s):wpAny (model prog w) A (setDrawn a) Q E s:=by
 obtain ⟨o,ho,q,hd,hf⟩:=hs;refine Qaa (Qeg ho hd hf ?_);refine Qaa (Xe ?_);exact Qae h
structure SetW(prog:Aq)(w:Au)(h h':Heap)(I a:Aw)(es:Array (Int × Av))(ord:List (Int × Av))(fp:List Aw)(St:Nat->Heap->Prop):Prop where
 old:∀b o,h.get? b=some o->h'.get? b=some o
 new:h.objs.size<=I
 perm:ord.Perm es.toList
 lt:∀b∈fp,b < h'.objs.size
 mem:I∈fp
 st:St 0 h'
 walks:∀A:Ar,A.handled=none->Walks prog w A I fp [I] es.size (Txs ord) St
 apart:∀b∈fp,b=a\/h.objs.size<=b
theorem Zct{es:Array (Int × Av)}{ep:Nat}{t:SetTable}(hs:Wl s.heap a es ep t)(hl:t.led=!j4 w)(hp:es.size=0\/t.plain=false)(hz:es.size<=sizeLine)
  (S:∀h' d I M fp St,SetW prog w s.heap h' I a es M fp St->Q (.ref I) { s with heap:=h',drawn:=d }):wpAny (model prog w) A (pyIter (.ref a)) Q E s:=by
 obtain ⟨o,ho,J,hd,hf⟩:=id hs;have Z:s.TypeIs (.ref a) "set" := ⟨o,ho,J.1⟩;have q:=Qan ho;refine Qfy Z F.slot_set_iter (Qbe F.slot_set_iter Z qV ?_ (F.args_set_iter_1 _));unfold Builtin.«frozenset.__iter__» Builtin.Frozenset.slot0 slotArgs;simp only [List.isEmpty_nil,Bool.not_true,Qb5,↓reduceIte,bind_assoc,Qev,Qd1];refine Qaa (Qae ?_);refine Qaa (Qae ?_);refine Qaa (Qaa (Qek ho hd hf (Qae ?_)));refine Qaa (yN hs ?_);cases hb:j4 w with
 | true =>
  refine Qaa (Qae ?_);refine Qaa (Qg3 ho hd hf ?_);have hg:(s.heap.push { cls:=.type "set_iterator",data:=.fields #[rawInt 0,rawInt 0,.ref a,rawInt es.size,rawInt ep] }).get? s.heap.objs.size=some { cls:=.type "set_iterator",data:=.fields #[rawInt 0,rawInt 0,.ref a,rawInt es.size,rawInt ep] }:=Qak _ rfl;refine Qaa (Qbh (Qae ⟨_,rfl,"set_iterator",_,⟨_,hg,rfl⟩,Z5.lookup,?_⟩));refine S _ s.drawn s.heap.objs.size _ _ _ ⟨fun b o e=>Qab _ e,Qag _,X6 (w.params.setOrder a ep) es,fun b hm=>?_,Qah,⟨⟨_,hg,rfl,rfl⟩,hs.at fun o e=>Qab _ e⟩,fun A' hh=>wB hb hh (Qbd q),fun b hm=>(Qam.mp hm).elim (fun e=>.inr (e ▸ Qag _)) fun hm=>.inl (Qat.mp hm)⟩;rw [Qbq];rcases Qam.mp hm with rfl | hm
  ·exact Qdg _
  ·rw [Qat.mp hm];exact Qcg q
 | false =>
  rw [hb] at hl
  by_cases N:es.size > 1
  ·have O:t.plain=false:=hp.resolve_left (by lia)
   rw [O,Qao N];refine Qaa (Jc _ _ _ _ (Qgp Qbl) fun ps d G=>?_);have hpn:ps.length=es.size:=by simpa using G.length_eq
   refine Qaa (Qf0 ?_ (by rw [Qac];lia));refine Qaa (Qg3 (Qab _ ho) hd hf ?_);generalize hH:s.heap.push { cls:=.type "tuple",data:=.seq (ps.map fun (i:Nat)=>rawInt i).toArray }=H;have C:H.objs.size=s.heap.objs.size + 1:=by rw [<-hH,Qbq]
   have D:∀b o,s.heap.get? b=some o->H.get? b=some o:=fun b o e=>hH ▸ Qab _ e;have L:H.get? s.heap.objs.size=some { cls:=.type "tuple",data:=.seq (ps.map fun (i:Nat)=>rawInt i).toArray }:=hH ▸ Qak _ rfl;have hg:(H.push { cls:=.type "set_iterator",data:=.fields #[.ref s.heap.objs.size,rawInt 0,.ref a,rawInt es.size,rawInt ep] }).get? H.objs.size=some { cls:=.type "set_iterator",data:=.fields #[.ref s.heap.objs.size,rawInt 0,.ref a,rawInt es.size,rawInt ep] }:=Qak _ rfl;refine Qaa (Qbh (s:={ s with heap:=H,drawn:=d }) (Qae ⟨_,rfl,"set_iterator",_,⟨_,hg,rfl⟩,Z5.lookup,?_⟩));refine S _ d H.objs.size _ _ _ ⟨fun b o e=>Qab _ (D b o e),by rw [C];exact Qdu _,?_,fun b hm=>?_,Qah,⟨⟨_,hg,rfl,rfl⟩,hs.at fun o e=>Qab _ (D a o e),_,_,Qab _ L,rfl⟩,fun A' hh=>yL (p:=s.heap.objs.size) G hh (fun e=>by rw [e,C] at q;exact absurd q (Qfg.mpr (Qdu _))) (fun e=>by rw [C] at e;exact absurd e (Qbd (Qdg _))),fun b hm=>(Qam.mp hm).elim (fun e=>.inr (by rw [e,C];exact Qdu _)) fun hm=>(Qam.mp hm).elim .inl fun hm=>.inr (by rw [Qat.mp hm];exact Qag _)⟩
   ·exact (G.filterMap _).trans (by rw [filterMap_getElem?_range])
   ·rw [Qbq]
    rcases Qam.mp hm with rfl | hm
    ·exact Qdg _
    ·rcases Qam.mp hm with rfl | hm
     ·exact Qcg (C ▸ Qcg q)
     ·rw [Qat.mp hm,C];exact Qcg (Qdg _)
  ·have Y:decide (es.size > 1)=false:=by simp;lia
   rw [Y,Qgu];refine Qaa (Qae ?_);refine Qaa (Qg3 ho hd hf ?_);have hg:(s.heap.push { cls:=.type "set_iterator",data:=.fields #[rawInt 0,rawInt 0,.ref a,rawInt es.size,rawInt ep] }).get? s.heap.objs.size=some { cls:=.type "set_iterator",data:=.fields #[rawInt 0,rawInt 0,.ref a,rawInt es.size,rawInt ep] }:=Qak _ rfl;refine Qaa (Qbh (Qae ⟨_,rfl,"set_iterator",_,⟨_,hg,rfl⟩,Z5.lookup,?_⟩));refine S _ s.drawn s.heap.objs.size _ _ _ ⟨fun b o e=>Qab _ e,Qag _,.rfl,fun b hm=>?_,Qah,⟨0,fun _=>rfl,fun z=>absurd z (by lia),⟨_,hg,rfl,rfl⟩,hs.at fun o e=>Qab _ e⟩,fun A' hh=>yM hb (by simpa using hl) (by lia) hh (Qbd q),fun b hm=>(Qam.mp hm).elim (fun e=>.inr (e ▸ Qag _)) fun hm=>.inl (Qat.mp hm)⟩;rw [Qbq];rcases Qam.mp hm with rfl | hm
   ·exact Qdg _
   ·rw [Qat.mp hm];exact Qcg q
theorem yO{es:Array (Int × Av)}{ep:Nat}{t:SetTable}{Q:Ag->Shared->Prop}(hh:A.handled=none)(hs:Wl s.heap a es ep t)(hl:t.led=!j4 w)(hp:es.size=0\/t.plain=false)(hz:es.size<=sizeLine)
  (hQ:∀(h':Heap) (d:Drawn) (tk:Nat) (C:List (Int × Av)),(∀b o,s.heap.get? b=some o->h'.get? b=some o)->s.heap.objs.size<=h'.objs.size->C.Perm es.toList->Q (C.map (·.2)) { s with heap:=h',drawn:=d,toks:=tk }):wpAny (model prog w) A (collect (.ref a)) Q E s:=by
 obtain ⟨o,ho,O,hd,hf⟩:=id hs;have Z:=Qan ho;unfold collect;refine Qaa (wpAny_runValue (Qdr F.entry_proto_collect ?_));rw [Qea F.plain_proto_collect _];show wpAny _ A.in1 (newList [] >>= fun l=>again (.builtin "list.__iadd__" ⟨[l,.ref a],[]⟩)) _ _ s;refine Qaa (Qbh ?_);refine Qae ⟨Qej F.plain_list_iadd _,Qdr F.entry_list_iadd ?_⟩;rw [Qea F.plain_list_iadd _];generalize hH:s.heap.push { cls:=.type "list",data:=.seq ([]:Ag).toArray }=H;have Y:H.objs.size=s.heap.objs.size + 1:=by rw [<-hH,Qbq]
 have q:∀b o,s.heap.get? b=some o->H.get? b=some o:=fun b o e=>hH ▸ Qab _ e;have hS:H.get? s.heap.objs.size=some { cls:=.type "list",data:=.seq ([]:Ag).toArray }:=hH ▸ Qak _ rfl;have hs1:Wl H a es ep t:=hs.at fun o e=>q a o e;have hT:Shared.TypeIs { s with heap:=H } (.ref a) "set" := ⟨o,q a o ho,O.1⟩;show wpAny _ A.in1 (Builtin.List.listExtendWith (.ref s.heap.objs.size) (.ref a) (.ref s.heap.objs.size)) _ _ _;unfold Builtin.List.listExtendWith;refine Qaa (wpAny_typeOf hT ?_);have h1:Builtin.List.listSameRef (.ref s.heap.objs.size) (.ref a)=false:=by simp [Builtin.List.listSameRef];exact Qdp Z
 have h2:(Value.type "set" == Value.type "list")=false:=by decide
 have h3:(Value.type "set" == Value.type "tuple")=false:=by decide
 simp only [h1,h2,h3,Bool.or_false,Qb5,Qho];refine Qaa (Zct (s:={ s with heap:=H }) hs1 hl hp hz fun h1 d I C fp St W=>?_);refine Qaa (Qcd ?_);unfold Builtin.List.listLengthHint;have L:Shared.TypeIs { s with heap:=h1,drawn:=d } (.ref a) "set" := ⟨o,W.old a o (q a o ho),O.1⟩;refine Qaa (Qee L F.slot_set_len.lookup ?_)
 wp_delta
 refine Qaa (Qc0 (b:=true) L (by rw [Qgv];kernel_rfl) ?_);show wpAny _ A.in1 (typeOf (Value.ref a) >>= _) _ _ _;refine Qaa (wpAny_typeOf L ?_);refine Qae ?_;show wpAny _ A.in1 (rule "list.extend.makes-room" >>= fun _=>Builtin.List.listTouch (.ref s.heap.objs.size) >>= fun _ =>
  again (.builtin "list.extend.loop" ⟨[.ref s.heap.objs.size,.ref I,.ref s.heap.objs.size],[]⟩)) _ _ _
 refine Qaa (Qdk ?_);have hnf:s.heap.objs.size∉fp:=fun hm=>by
  rcases W.apart _ hm with e | e
  ·exact absurd Z (e ▸ Qbw _)
  ·exact absurd e (by show ¬H.objs.size<=_;rw [Y];exact Nat.not_succ_le_self _)
 have hS1:=W.old _ _ hS;refine Qaa ?_;show wpAny _ A.in1 (updateSeq s.heap.objs.size (·.push .none) >>= fun _=>updateSeq s.heap.objs.size (·.pop)) _ _ _;refine Qaa (Qfp (s:={ s with heap:=h1,drawn:=d }) hS1 rfl ?_);have hS2:=Qbj (Obj.mapSeq (·.push Value.none)) hS1 rfl;refine Qfp (s:={ s with heap:=h1.update s.heap.objs.size (Obj.mapSeq (·.push Value.none)),drawn:=d }) hS2 rfl ?_;have hS3:=Qbj (Obj.mapSeq (·.pop)) hS2 rfl;have N:∀b o,b≠s.heap.objs.size->h1.get? b=some o ->
   ((h1.update s.heap.objs.size (Obj.mapSeq (·.push Value.none))).update s.heap.objs.size (Obj.mapSeq (·.pop))).get? b=some o :=
  fun b o hb e=>(Qb0 _ _ (Qdo hb)).trans ((Qb0 _ _ (Qdo hb)).trans e)
 refine Qae ⟨Qej F.plain_extend_loop _,codeAny_extend_loopS (W.walks A.in1 hh).toS hz _ hnf _ es.size 0 _ _ _ rfl (Qbc _)
  ((W.walks A hh).frame 0 _ _ W.st fun b hb o e=>N b o (fun h=>hnf (h ▸ hb)) e) hS3 (ItemsOf.nil _) fun s' J c' hm S G=>?_⟩
 show wpAny _ A (load s.heap.objs.size >>= _) _ _ s';refine Qaa (wpAny_load S ?_);have M:J.toList=C.map (·.2):=by
  have hol:C.length=es.size:=by simpa using W.perm.length_eq
  apply List.ext_getElem
  ·rw [Qac,Qbn,G.1,hol]
  ·intro i i1 i2
   rw [Qbn] at i1;obtain ⟨e,he,hv⟩:=G.2 i J[i] (Qdm i1);rw [Array.getElem_toList,hv,List.getElem_map];rw [Qac] at i2;rw [Qad i2] at he;rw [Option.some.inj he]
 have eg:s'.gens=s.gens:=hm.gens;have ed:s'.drawn=d:=hm.drawn;have eo:s'.os=s.os:=hm.os;refine Qae ?_;have:=hQ s'.heap s'.drawn s'.toks C (fun b ob e=>?_) ?_ W.perm
 ·rw [<-M,<-eg,<-eo] at this;exact this
 ·have D:=Qan e
  refine hm.heap b ob (fun hb=>?_) (N b ob (Qbd D) (W.old b ob (q b ob e)));rcases Qam.mp hb with h | h
  ·exact absurd D (h ▸ Qbw _)
  ·rw [Qat.mp h] at D
   have:=W.new;exact absurd D (Qfg.mpr (Qaz (by rw [Y];exact Qdu _) this))
 ·exact Qa9 (Qan S)
theorem Je:∀{l:List (Int × Av)},ElemsOf (PySem.strKind prog w) l->StrsAre (l.map (·.2)) (l.map fun e=>tx e.2)
 | [],_=>.nil
 | e::l,h=>by
  obtain ⟨_,t,q⟩:=vS h (Qah);rw [Qbx,Qbx,q];exact .cons _ t (Je h.tail)
theorem wC{led:Bool}(hh:A.handled=none)(hS:Gh prog w s.heap a (!j4 w) N)(h64:N.length < 64)
  (h:∀(h':Heap) (d:Drawn) (tk:Nat) (l:Aw) (out:Ah) (I:Ai) (e:Nat),StrsAre out.toList I->I.Perm N->sortedS I=true->(∀b o,s.heap.get? b=some o->h'.get? b=some o)->s.heap.objs.size<=l ->
   h'.get? l=some (seqObj "list" out e)->Q (.ref l) { s with heap:=h',drawn:=d,toks:=tk }) :
  wpAny (model prog w) A (call (.builtin "sorted") [.ref a]) Q E s:=by
 obtain ⟨o,es,ep,t,ho,O,hd,Z,hp,hf,hl,hpl⟩:=hS;have hn:es.size=N.length:=by rw [<-hp.length_eq,Qac,Qbn]
 refine Calls.call_function_entry kind_sorted plain_sorted entry_sorted (args_sorted1 _) ?_;refine Qaa (m:=checkCount "sorted" 1 1 _) (Qae ?_);refine Qaa (yO (A:=A.in1) hh ⟨o,ho,O,hd,hf⟩ hl hpl (Qg0 (by unfold scanBound;lia)) fun h1 d tk q M hsz C=>?_);have J:(q.map (·.2)).length < 64:=by rw [Qac,C.length_eq,Qbn];lia
 have D:StrsAre (q.map (·.2)) (q.map fun e=>tx e.2):=Je (Z.perm C);have S:(q.map fun e=>tx e.2).Perm N:=(C.map _).trans hp;generalize hV:q.map (·.2)=vs at J D ⊢;refine Qaa (wpAny_newList ?_);have G:(h1.push (seqObj "list" vs.toArray 0)).get? h1.objs.size=some (seqObj "list" vs.toArray 0):=Qak _ rfl;refine Qaa (Qcd (Qbe slot_list_sort ⟨_,G,rfl⟩ entry_list_sort (list_sort_treeK strKind_oneLt G D.keysOf (fun v₁ v₂ rest e=>keyKind_strs (by rw [<-e];exact D)) J fun Y a1 a2=>⟨_,rfl,?_⟩) (args_list_sort _)));obtain ⟨I,b1,b2,b3⟩:=sorted_out_str D a1 a2;obtain ⟨e,he⟩:=sortedHeap_at (vs:=vs) (out:=(arrOf Y).map (·.2)) (n:=0) G;refine Qae ⟨_,rfl,h _ d tk h1.objs.size _ I e b1 (b2.trans S) b3 (fun b ob hb=>?_) hsz he⟩;have L:=Qbb (Qan hb) hsz;rw [sortedHeap_old (Qbd L) (by rw [size_push'];exact Qcg L)];exact Qab _ (M b ob hb)
end
def TxO(P:Aq)(w:Au)(a:Aw)(S:Ai):HO:=.ext fun h=>Gh P w h a (!j4 w) S
section
variable {X:Cx}
theorem Inv.drew{σ:St}(I:Inv X m σ H s)(d:Drawn):Inv X m σ H { s with drawn:=d } :=
 ⟨I.ok,I.os,I.bare,I.base,I.loc,I.cell,I.free,I.freeC,I.pin,I.hok,I.len⟩
theorem j7 (hc:X.calm=true):YM X (.type "set") (fun xs H Q=>∃(p:Aw) (C:Ai),xs=[.ref p]/\SqL X.K H p (C.map V.str)/\C.length < 4000 /\
  ∀a:Aw,H a=none->Q (.ref a) (upd H a (TxO X.prog X.w a (XC C)))):=by
 intro pins s σ H xs S Q I r h;obtain ⟨p,C,rfl,M,hn,q⟩:=h;obtain ⟨u,rfl,L⟩:=vals1 r;cases L;obtain ⟨O,G,pl,Y⟩:=I.list M;have D:=G.length;rw [Qac] at D;refine qU (I.ok.hd hc) pl.isList (by simpa using wq G) (by rw [Qa2];unfold scanBound;lia) fun h' tk N J hk=>?_;refine ⟨.ref s.heap.objs.size,_,I.laid (t':=tk) (o:=TxO X.prog X.w s.heap.objs.size (XC C)) (fun b o e=>hk b o (Qan e) e) (Qag _) ?_,rfl,q _ (I.hok.fresh (Qag _))⟩;obtain ⟨o,es,ep,t,ho,rest⟩:=id J;exact ⟨J,⟨o,ho⟩,fun h1 h2 x k=>J5 x k⟩
theorem Jf (hc:X.calm=true):YM X (.builtin "sorted") (fun xs H Q=>∃(a:Aw) (S:Ai),xs=[.ref a]/\H a=some (TxO X.prog X.w a S)/\S.length < 64 /\
  ∀(l:Aw) (D:Ai),H l=none->D.Perm S->sortedS D=true->Q (.ref l) (upd H l (.lst (D.map V.str)))):=by
 intro pins s σ H xs M Q I r h;obtain ⟨a,S,rfl,J,hn,q⟩:=h;obtain ⟨u,rfl,G⟩:=vals1 r;cases G;have L:Gh X.prog X.w s.heap a (!j4 X.w) S:=(I.hok a _ J).1;refine wC (led:=true) (I.ok.hd hc) L hn fun h' d tk l out C e hi hp hs hk hl he=>?_;refine ⟨.ref l,_,(I.drew d).laid (t':=tk) (o:=.lst (C.map V.str)) hk hl ?_,rfl,q _ C (I.hok.fresh hl) hp hs⟩;have hm:C.length=S.length:=hp.length_eq;exact ⟨by rw [Qac];exact Qa9 (Z1 (by lia)),out.toList,e,Wk hi,by simpa using he⟩
end
theorem Zgd{y:Str}(h:x.cps.toList=y.cps.toList):x=y:=by
 cases x;cases y;simp only [Str.mk.injEq];exact Array.toList_inj.mp h
theorem Zge{y:Str}(h1:ltCps x.cps.toList y.cps.toList=false)(h2:ltCps y.cps.toList x.cps.toList=false):x=y:=by
 rw [ltCps_eq] at h1 h2;exact Zgd (List.le_antisymm (Qfq h2) (Qfq h1))
theorem Zcu{y z:Str}(h1:ltCps y.cps.toList x.cps.toList=false)(h2:ltCps z.cps.toList y.cps.toList=false):ltCps z.cps.toList x.cps.toList=false:=by
 rw [ltCps_eq] at h1 h2 ⊢;refine Qaq ?_;have a1:x.cps.toList<=y.cps.toList:=Qfq h1;have a2:y.cps.toList<=z.cps.toList:=Qfq h2;exact (List.le_trans a1 a2:x.cps.toList<=z.cps.toList)
theorem J6:∀(p:Str) (l:Ai),risingS p l=true->∀y∈l,ltCps y.cps.toList p.cps.toList=false
 | p,[],_,y,q=>nomatch q
 | p,x::r,h,y,q=>by
  have h':(!ltCps x.cps.toList p.cps.toList && risingS x r)=true:=h;rw [Qbz,Bool.not_eq_true'] at h';rcases Qam.mp q with rfl | q
  ·exact h'.1
  ·exact Zcu h'.1 (J6 x r h'.2 y q)
theorem GX{p:Str}{l:Ai}(h:sortedS (p::l)=true):sortedS l=true:=by
 cases l with
 | nil=>rfl
 | cons x r =>
  have h':(!ltCps x.cps.toList p.cps.toList && risingS x r)=true:=h;rw [Qbz] at h';exact h'.2
theorem xD:∀(l m:Ai),sortedS l=true->sortedS m=true->l.Perm m->l=m
 | [],m,_,_,p=>by rw [List.nil_perm.mp p]
 | x::l,m,h1,h2,p=>by
  cases m with
  | nil=>exact absurd (List.perm_nil.mp p) (by simp)
  | cons y m =>
   have q:x=y:=by
    have hx:x∈y::m:=p.mem_iff.mp Qah;have C:y∈x::l:=p.mem_iff.mpr Qah;rcases Qam.mp hx with e | hx
    ·exact e
    ·rcases Qam.mp C with e | C
     ·exact e.symm
     ·exact Zge (J6 y m h2 x hx) (J6 x l h1 y C)
   subst q;rw [xD l m (GX h1) (GX h2) (p.cons_inv)]
theorem Zgf{y:Str}:y∈ins N x↔y∈N\/y=x:=by
 unfold ins;split
 ·grind
 ·simp
theorem uF(h:N.Nodup):(ins N x).Nodup:=by
 unfold ins;split
 ·exact h
 ·grind
theorem zo:∀(ys S:Ai),S.Nodup->(ys.foldl ins S).Nodup/\∀y,y∈ys.foldl ins S↔y∈S\/y∈ys
 | [],S,h=>⟨h,fun y=>by simp⟩
 | x::r,S,h=>by
  obtain ⟨a,b⟩:=zo r (ins S x) (uF h);refine ⟨a,fun y=>(b y).trans ?_⟩;rw [Zgf,Qam,or_assoc]
theorem yP(ys:Ai):(XC ys).Nodup:=(zo ys [] Qci).1
theorem uG{ys:Ai}{y:Str}:y∈XC ys↔y∈ys:=((zo ys [] Qci).2 y).trans (by simp)
section
variable {prog:Aq}{w:Au}{A:Ar}{E:Ab}{s:As}
end
section
variable {X:Cx}
end
theorem j8{xs:A2}{is:Aj}{Q:VK}(p:V->Bool)(S:Hp->Hp->Prop)(J:∀H,S H H)(st:∀H1 H2 I,S H1 H2->S H2 I->S H1 I)(hx:∀H1,S H H1->SqT K H1 a xs)(L:xs.length<=sizeLine)
  (hc:∀x∈xs,∀H1,S H H1->∀R:Bool->Hp->Prop,(∀H2,S H1 H2->R (p x) H2)->G (J1 is d (some x)) H1 R)
  (he:∀x∈xs,∀H1,∀R:VK,R x H1->c (J1 is d (some x)) H1 R)
  (hd:∀H1 l,S H H1->H1 l=none->Q (.ref l) (upd H1 l (.lst (xs.filter p)))):GP is G c d Q (Itt K a) H:=by
 refine XQ (xs:=xs) (fun i zs H'=>zs=(xs.take i).filter p/\S H H') ⟨rfl,J H⟩ ?_ ?_ ?_ ?_
 ·grind
 ·grind
 ·rintro i x zs H' R hR q ⟨rfl,C⟩
  have hm:=Qas q;have e:=take_snoc q;refine hc x hm H' C _ fun H2 D=>?_;cases hp:p x with
  | true =>
   refine (Qa0 rfl:(if true=true then _ else _)=_) ▸ he x hm H2 _ (hR _ _ ⟨?_,st _ _ _ C D⟩);rw [e,Qd7,Qc2,Qa0 hp]
   rfl
  | false =>
   refine (Qaw Qa6:(if false=true then _ else _)=_) ▸ hR _ _ ⟨?_,st _ _ _ C D⟩;rw [e,Qd7,Qc2,Qaw (by rw [hp];exact Qa6)];simp
 ·grind
section
variable {X:Cx}
end
abbrev Xp(o:Obj):HO:=.frz o (.ext fun _=>True)
theorem WQ{o:Obj}(e:h.get? a=some o):Yn P w H h a (Xp o):=⟨e,trivial,⟨o,e⟩,fun _ _ _ _=>trivial⟩
def hide(cs:List Aw)(H:Hp):Hp:=fun b=>if b∈cs then none else H b
def XD(cs:List Aw)(H H':Hp):Hp:=fun b=>if b∈cs then H b else H' b
theorem Yo{b:Aw}(h:b∈L):hide L H b=none:=Qa0 h
theorem Zz{b:Aw}(h:b∉L):hide L H b=H b:=Qaw h
theorem Xq{H':Hp}{b:Aw}(h:b∈L):XD L H H' b=H b:=Qa0 h
theorem ZG{H':Hp}{b:Aw}(h:b∉L):XD L H H' b=H' b:=Qaw h
theorem of_hide{b:Aw}{o:HO}(h:hide L H b=some o):b∉L/\H b=some o:=by
 by_cases m:b∈L
 ·rw [Yo m] at h;cases h
 ·rw [Zz m] at h;exact ⟨m,h⟩
def J7(H H1:Hp):Prop:=∀b o u,H b=some (.frz o u)->H1 b=some (.frz o u)
theorem J7.refl(H:Hp):J7 H H:=fun _ _ _ h=>h
theorem J7.trans{H2:Hp}(a:J7 H A)(b:J7 A H2):J7 H H2:=fun c o u h=>b c o u (a c o u h)
theorem ZC.frz{H H1:Hp}(a:ZC H H1):J7 H H1:=fun b o u h=>a b _ h
def YE(P:Aq)(w:Au)(K:Af)(mg:Ae)(base:Heap)(k:Nat)(f:Aw)(H:Hp)(τ:Sp):Prop :=
 (∃o fd,H f=some (Xp o)/\o.data=.func fd) /\
 ∀(A:Ar) (outer:List Env) (s:As) (H1:Hp) (q:Ag) (vs:A2) (Q:VK) (E:XK),J7 H H1->W8 k A->Zft P w K mg base A outer s H1->Vals vs q->τ vs H1 Q E ->
  codeAny (model P w) A (.call (.ref f) ⟨q,[]⟩) (CR CX0 outer P w H1 s Q E) s
theorem YE.frz{P:Aq}{w:Au}{K:Af}{mg:Ae}{base:Heap}{k:Nat}{f:Aw}{H H1:Hp}{τ:Sp}(c:YE P w K mg base k f H τ)(h:J7 H H1):YE P w K mg base k f H1 τ :=
 ⟨let ⟨o,fd,e,d⟩:=c.1;⟨o,fd,h _ _ _ e,d⟩,fun A outer s H2 C vs Q E q=>c.2 A outer s H2 C vs Q E (h.trans q)⟩
section
variable {P:Aq}{w:Au}{H H':Hp}{h h':Heap}{cs:List Aw}
theorem zp(x:HOk P w H h)(C:∀c∈cs,∃o,H c=some (Xp o)):HOk P w (hide cs H) h:=fun a o e=>by
 obtain ⟨_,D⟩:=of_hide e;refine (x a o D).stay (fun _ _ _ q=>q) (fun d q=>?_) fun d xs q=>?_
 ·by_cases m:d∈cs
  ·grind
  ·rw [Zz m];exact q
 ·by_cases m:d∈cs
  ·grind
  ·rw [Zz m];exact q
theorem j9(x:HOk P w H' h')(hn:∀c∈cs,H' c=none)(C:∀c∈cs,∃o,H c=some (Xp o)/\h'.get? c=some o):HOk P w (XD cs H H') h':=fun a o e=>by
 by_cases m:a∈cs
 ·rw [Xq m] at e
  obtain ⟨ob,z,g⟩:=C a m;rw [z] at e;cases e;exact WQ g
 ·rw [ZG m] at e
  refine (x a o e).stay (fun _ _ _ q=>q) (fun d q=>?_) fun d xs q=>?_
  ·by_cases m:d∈cs
   ·rw [hn d m] at q;cases q
   ·rw [ZG m];exact q
  ·by_cases m:d∈cs
   ·rw [hn d m] at q;cases q
   ·rw [ZG m];exact q
end
structure Zi3(scope:Scope)(ps ys:Ai):Prop where
 kind:scope.kind=.function
 co:scope.isCoroutine=false
 gen:scope.isGenerator=false
 cell:∀y∈scope.names,y.2≠.cell
 par:∀p∈ps,scope.names.lookup p=some .local
 free:∀y∈ys,scope.names.lookup y=some .free
 nd:(ps++ys).Nodup
def cxL(P:Aq)(w:Au)(K:Af)(mg:Ae)(base:Heap)(N:Ai)(qual:Str)(scope:Scope)(f:Aw)(q:Av)(cl:List (Str × Aw))(A:Ar)(outer:List Env)(s:As)(H:Hp):Cx where
 prog:=P
 w:=w
 K:=K
 mg:=mg
 base:=base
 A:=A.deeper (PySem.W.envX qual scope s.heap.objs.size f q cl)
 N:=N
 s₀:=s
 H₀:=H
 env:=PySem.W.envX qual scope s.heap.objs.size f q cl
 outer:=outer
 stack:=PySem.W.envX qual scope s.heap.objs.size f q cl::outer
 ex:=[]
 calm:=true
 fn:=fun _=>false
 pn:=[]
 xe:=fun _ _=>False
def Zgg(n:Nat)(te:TE)(cs:List Aw)(q:List (Option V)):Sp:=fun vs H Q _=>vs.length=n/\te (vs.map some++q) (hide cs H) fun v H'=>(∀c∈cs,H' c=none)->Q v (XD cs H H')
theorem xE{ps:Ai}(C:ps.Nodup)(h1:ps[i]?=some x)(h2:U[i]?=some u)(hl:ps.length=U.length):(ps.zip U).reverse.lookup x=some u:=by
 have hm:(x,u)∈ps.zip U:=by
  obtain ⟨a1,e1⟩:=Qaf.mp h1;obtain ⟨a2,e2⟩:=Qaf.mp h2;rw [<-e1,<-e2,<-Qfb (h:=by rw [Qd3];lia)];exact Qbm _
 have G:((ps.zip U).map (·.1)).Nodup:=by
  rw [List.map_fst_zip (by lia)];exact C
 have q:((ps.zip U).reverse.map (·.1)).Nodup:=by
  grind
 have hr:(x,u)∈(ps.zip U).reverse:=List.mem_reverse.mpr hm;generalize (ps.zip U).reverse=l at q hr
 induction l with
 | nil=>cases hr
 | cons p r I =>
  obtain ⟨n,v⟩:=p;rcases Qam.mp hr with e | D
  ·grind
  ·grind
section
variable {P:Aq}{w:Au}{K:Af}{mg:Ae}{base:Heap}
theorem jA{k:Nat}{name qual:Str}{params:Arguments}{body:Ax}{scope:Scope}{cl:List (Str × Aw)}{pm ctv:Av}{ps ys:Ai}{cv:List (Option V)}
  (S:Zi3 scope ps ys) (hf:H f=some (Xp (PySem.W.kla_obj name qual params body scope cl pm a ctv))) (hc:H a=some (Xp J)) (hoc:∃vs t,J.data=.fields vs/\vs[1]?=some (.str qual t))
  (hcl:∀x c,cl.lookup x=some c->c∈L) (hcs:∀c∈L,∃o v,H c=some (Xp o)/\o.data=.cell v)
  (inj:∀x y c,cl.lookup x=some c->cl.lookup y=some c->x=y) (has:∀x,scope.names.lookup x=some .free->∃c,cl.lookup x=some c)
  (hcv:cv.length=ys.length) (hval:∀(i:Nat) (y:Str) (v:V),ys[i]?=some y->cv[i]?=some (some v)->∃c o u,cl.lookup y=some c/\H c=some (Xp o)/\o.data=.cell (some u)/\RelV v u)
  (hb:∀Z:Ag,Z.length=ps.length->bindArgs (PySem.W.kla_fn name qual params body scope cl pm (.ref a) ctv) ⟨Z,[]⟩=pure (ps.zip Z))
  (hbody:∀(A:Ar) (outer:List Env) (s:As) (H1:Hp),W8 k (A.deeper (PySem.W.envX qual scope s.heap.objs.size f (.ref a) cl))->PE (cxL P w K mg base (ps++ys) qual scope f (.ref a) cl A outer s H1) body I) :
  YE P w K mg base (k + 1) f H (Zgg ps.length I L cv):=by
 refine ⟨⟨_,_,hf,rfl⟩,?_⟩;intro A outer s H1 Z vs Q E fz hr C r ht;obtain ⟨hl,ht⟩:=ht;have gf:s.heap.get? f=some (PySem.W.kla_obj name qual params body scope cl pm a ctv):=(C.hok f _ (fz _ _ _ hf)).1;have M:∀c∈L,∃o v,H1 c=some (Xp o)/\o.data=.cell v/\s.heap.get? c=some o:=fun c m=>by
  obtain ⟨o,v,e,d⟩:=hcs c m;exact ⟨o,v,fz _ _ _ e,d,(C.hok c _ (fz _ _ _ e)).1⟩
 have N:∀c∈L,∃o,H1 c=some (Xp o):=fun c m=>let ⟨o,_,e,_⟩:=M c m;⟨o,e⟩;obtain ⟨vs0,t0,hd0,hv0⟩:=hoc;have lim:s.heap.NoLimit:=C.mod.nolimit.keeps fun b o e=>(C.bs b o e).1;have lus:Z.length=ps.length:=by rw [<-r.length];exact hl
 refine PySem.W.kla_callFunE hr.depth gf rfl S.co S.gen rfl ⟨a,J,vs0,t0,rfl,(C.hok a _ (fz _ _ _ hc)).1,hd0,hv0⟩ ?_;rw [hb Z lus];refine Qae (Qf7 S.cell (fun x hx=>S.par _ (Qed hx).1) (fun Y hns hsb=>⟨lim.fresh _ hsb,?_⟩) S.kind);have O:∀b o,s.heap.get? b=some o->Y.get? b=some o:=fun b o e=>hsb.extBut b o (Qbd (Qan e)) (Qab _ e);have ndp:ps.Nodup:=(Qe4.mp S.nd).1;have zq14:Inv (cxL P w K mg base (ps++ys) qual scope f (.ref a) cl A outer s (hide L H1)) [] (vs.map some++cv) (hide L H1) { s with heap:=Y,toks:=s.toks + (ps.zip Z).length }:=by
  have noA:∀b:Aw,b∉([]:List Aw):=fun b z=>nomatch z;refine ⟨⟨C.mod,S.kind,rfl,rfl,Qag _,inj,fun y hy=>?_,(fun y c h=>by cases h),fun _=>hr.hd,Qf6 C.frames,.inr ⟨rfl,rfl⟩,fun b z=>absurd z (noA b),fun b o e=>⟨(C.bs b o e).1,?_⟩,C.bsz,fun b _ _=>noA b,fun b z=>absurd z (noA b),C.funs,fun b hb=>?_⟩,
   rfl,C.bare,Un.kept O,⟨_,hns,fun i y v h1 h2 h3=>?_⟩,fun y c h=>?_,?_,fun y c h=>Yo (hcl y c h),fun p hp=>absurd (show p∈([]:Ac) from hp) (by simp),(zp C.hok N).kept O,?_⟩
  ·rcases hy with hy | hy
   ·exact absurd rfl (S.cell _ (Qcc hy))
   ·exact has y hy
  ·by_cases m:b∈L
   ·exact Yo m
   ·exact (Zz m).trans (C.bs b o e).2
  ·by_cases m:b∈L
   ·exact Yo m
   ·exact (Zz m).trans (C.frf b hb)
  ·by_cases hi:i < vs.length
   ·have ha:vs[i]?=some v:=by
     grind
    obtain ⟨u,hu,rv⟩:=r.get ha;have D:(ps++ys)[i]?=some y:=h1;rw [Qbg (by lia)] at D;exact ⟨u,rv,.inl ⟨S.par y (Qas D),xE ndp D hu lus.symm⟩⟩
   ·rw [Qa8 (by simpa using hi),Qac] at h2
    have D:(ps++ys)[i]?=some y:=h1;rw [Qa8 (by lia),<-hl] at D;obtain ⟨c,o,u,e1,e2,e3,rv⟩:=hval _ y v D h2;refine ⟨u,rv,.inr ⟨.inr (S.free y (Qas D)),c,e1,o,O _ _ (C.hok c _ (fz _ _ _ e2)).1,e3⟩⟩
  ·obtain ⟨o,v,_,d,g⟩:=M c (hcl y c h)
   exact ⟨v,o,O _ _ g,d⟩
  ·show hide L H1 s.heap.objs.size=none
   by_cases m:s.heap.objs.size∈L
   ·exact Yo m
   ·rw [Zz m];exact C.hok.fresh (Qag _)
  ·show (vs.map some++cv).length=(ps++ys).length
   rw [Qap,Qap,Qac,hl,hcv]
 refine PySem.W.kla_codeExpr (Qdj (hbody A outer s (hide L H1) (hr.deeper _) [] _ _ _ _ zq14 ht) (fun u s' hs=>?_) fun _ _ z=>z.elim);obtain ⟨v,H',G,rv,q⟩:=hs;have b:Un (frs outer) [] (hide L H1) H' s.heap s'.heap:=G.base;have nfr:∀c∈L,c∉frs outer:=fun c m z=>by
  obtain ⟨o,e⟩:=N c m;rw [C.frf c z] at e;cases e
 have Hn:∀c∈L,H' c=none:=fun c m=>by
  obtain ⟨o,v,e,d,g⟩:=M c m;exact b.free c o g (Yo m) (fun z=>nomatch z)
 have hh:∀d,H1 d=none->hide L H1 d=none:=fun d n=>by
  by_cases m:d∈L
  ·exact Yo m
  ·rw [Zz m];exact n
 have nm:∀d o,H1 d=some o->(∀ob,o≠Xp ob)->d∉L:=fun d o e ne m=>by
  obtain ⟨ob,z⟩:=N d m;rw [e] at z;exact ne ob (Option.some.inj z)
 refine ⟨v,XD L H1 H',G.os,G.bare,⟨fun d o e n hb hx=>b.keep d o e (hh d n) hb hx,fun d o e n hb hx=>b.slot d o e (hh d n) hb hx,fun d o e n hx=>?_,b.there,fun d xs e=>?_,fun d o u e=>?_,fun d pz e=>?_⟩,j9 G.hok Hn fun c m=>?_,rv,q Hn⟩
 ·by_cases m:d∈L
  ·rw [Xq m];exact n
  ·rw [ZG m];exact b.free d o e (hh d n) hx
 ·have m:=nm d _ e (fun ob z=>nomatch z)
  rw [ZG m];exact b.tups d xs (by rw [Zz m];exact e)
 ·by_cases m:d∈L
  ·rw [Xq m];exact e
  ·rw [ZG m];exact b.frzs d o u (by rw [Zz m];exact e)
 ·have m:=nm d _ e (fun ob z=>nomatch z)
  rw [ZG m];exact b.tbls d pz (by rw [Zz m];exact e)
 ·obtain ⟨o,v,e,d,g⟩:=M c m
  exact ⟨o,e,b.keep c o g (Yo m) (nfr c m) (fun z=>nomatch z)⟩
end
def xF(oc:Obj)(qual:Str):Prop:=∃vs t,oc.data=.fields vs/\vs[1]?=some (.str qual t)
def Yz(H:Hp)(P:Aw)(pos:Pos)(qual:Str):Prop :=
 H P=some (.tbl #[])\/∃q oc,H P=some (.tbl #[rawInt pos.line,rawInt pos.col,.ref q])/\H q=some (Xp oc)/\xF oc qual
theorem Yz.ex{P:Aw}{qual:Str}(h:Yz H P p qual):∃ps,H P=some (.tbl ps):=by
 rcases h with h | ⟨_,_,h,_⟩ <;> exact ⟨_,h⟩
structure zq(mg:Ae)(base:Heap):Prop where
 ex:∃bm ob,mg "__builtins__" = some (.ref bm)/\bm≠builtinsNs/\base.get? bm=some ob/\ob.cls=.type "module" /\ ob.dict=some builtinsNs/\ob.data=.plain
def tLam(P:Aw)(lpos:Pos)(qual:Str)(q:Aw->Value->Obj):TE:=fun _ H Q=>Yz H P lpos qual /\
 ∀(f D:Aw) (oc:Obj) (C:Av) (H2:Hp),H f=none->H2 f=some (Xp (q D C))->H2 D=some (Xp oc)->xF oc qual->Yz H2 P lpos qual->(∀b o,H b=some o->b≠P->H2 b=some o)->Q (.ref f) H2
theorem vU{X:Cx}{σ:St}{P:Aw}{lpos:Pos}{fo:Obj}{h':Heap}{tk:Nat}(I:Inv X m σ H s)(D:H P=some (.tbl #[]))(hx:Heap.ExtBut P s.heap h')(L:s.heap.objs.size<=f)(Y:f < h'.objs.size)(S:h'.get? f=some J)
  (N:h'.get? P=some (PySem.W.tabObj #[rawInt lpos.line,rawInt lpos.col,.ref f])) (O:fo.isFreed=false:=by rfl):Inv X m σ (upd (upd (upd H P (.tbl #[rawInt lpos.line,rawInt lpos.col,.ref f])) f (Xp J)) h'.objs.size (Xp fo)) { s with heap:=h'.push fo,toks:=tk }:=by
 have G:H f=none:=I.hok.fresh L;have cP:f≠P:=fun e=>by rw [e,D] at G;cases G
 have lo:∀{b:Aw} {o:Obj},s.heap.get? b=some o->b≠f:=fun e z=>absurd (Qan e) (by rw [z];exact Qfg.mpr L);have Z:Inv X m σ (upd (upd H P (.tbl #[rawInt lpos.line,rawInt lpos.col,.ref f])) f (Xp J)) { s with heap:=h',toks:=tk }:=by
  refine I.un ⟨fun b o e n _ _=>hx b o (fun z=>by rw [z,D] at n;cases n) e,fun b o e n _ _=>⟨o.slots,hx b o (fun z=>by rw [z,D] at n;cases n) e⟩,fun b o e n _=>?_,fun b o e _=>?_,fun b xs e=>?_,fun b o u e=>?_,fun b pz e=>?_⟩ fun b u e=>?_
  ·rw [Zj (lo e),Zj (fun z=>by rw [z,D] at n;cases n)];exact n
  ·by_cases C:b=P
   ·rw [C];exact ⟨_,N⟩
   ·exact ⟨o,hx b o C e⟩
  ·rw [Zj (Zl e G),Zj (X4 e D (fun z=>nomatch z))];exact e
  ·rw [Zj (Zl e G),Zj (X4 e D (fun z=>nomatch z))];exact e
  ·by_cases C:b=P
   ·subst C
    rw [D] at e;cases e;exact ⟨#[rawInt lpos.line,rawInt lpos.col,.ref f],by rw [Zj cP.symm,Za];rfl⟩
   ·exact ⟨#[],by rw [Zj (Zl e G),Zj C,e];simp⟩
  ·by_cases M:b=f
   ·subst M
    rw [Za] at e;cases e;exact WQ S
   ·rw [Zj M] at e
    by_cases C:b=P
    ·subst C
     rw [Za] at e;cases e;exact N
    ·rw [Zj C] at e
     refine (I.hok b u e).stay (fun d v hd q=>hx d v ?_ q) (fun d q=>?_) fun d xs q=>?_
     ·grind
     ·rw [Zj (Zl q G),Zj (X4 q D (fun z=>nomatch z))];exact q
     ·rw [Zj (Zl q G),Zj (X4 q D (fun z=>nomatch z))];exact q
 exact Z.laid (h':=h'.push fo) (t':=tk) (a:=h'.objs.size) (o:=Xp fo) (fun b u e=>Qab _ e) (Qag _) (WQ (Qak _ O))
section
variable {X:Cx}{params:Arguments}{body:Ax}{scope:Scope}{lpos:Pos}{c P:Aw}{qual:Str}
abbrev xG (X:Cx) (qual:Str) (params:Arguments) (body:Ax) (scope:Scope):Aw->Value->Obj:=fun C q=>PySem.W.kla_obj "<lambda>" qual params body scope (Gf X.env.cells scope.names []) ((X.mg "__name__").getD .none) C q
theorem uH (G:X.env.code=.ref c) (C:PySem.W.CodeHd X.base c P) (B:zq X.mg X.base) (hdef:defaultsOf params X.env=([],[])) (hq:X.env.qual ++ "<lambda>" = qual)
  (N:∀y∈scope.names,y.2=.free->X.env.scope.names.lookup y.1=some .cell) :
  PE X (.Lambda params body scope lpos) (tLam P lpos qual (xG X qual params body scope)):=by
 intro pins s σ H Q I hw;obtain ⟨L,Z⟩:=hw;refine PySem.W.kla_eval hdef ?_;rw [hq];have hcl:closureFor scope X.env=pure (Gf X.env.cells scope.names []):=X9 fun y hy h=>I.ok.has y.1 (.inl (N y hy h));have hg:s.heap.Ns mainGlobals X.mg:=I.mod.glob.keeps I.bk;obtain ⟨pz,Y⟩:=L.ex;have J:X.base.get? P=none:=by
  cases e:X.base.get? P with
  | none=>rfl
  | some o=>rw [(I.bs P o e).2] at Y;cases Y
 have hgP:mainGlobals≠P:=fun e=>by
  obtain ⟨o,es,ep,g,_⟩:=I.mod.glob;rw [e,J] at g;cases g
 have hb:s.heap.BuiltinsAt X.mg P:=by
  obtain ⟨bm,ob,b1,b2,b3,b4,b5,b6⟩:=B.ex;refine ⟨bm,ob,b1,b2,fun e=>?_,(fun e=>by rw [e,J] at b3;cases b3),I.bk _ _ b3,b4,b5,b6⟩;obtain ⟨o,es,ep,g,hd,_⟩:=I.mod.glob;rw [<-e,b3] at g;cases g;rw [b6] at hd;cases hd
 rcases L with L | ⟨q,oc,L,hc',M⟩
 ·have hP:s.heap.get? P=some (PySem.W.tabObj #[]):=I.hok P _ L
  refine PySem.W.kla_makeFunction (mg:=X.mg) (ps:=#[]) hcl I.ok.glob hg G (C.keeps I.bk) hP trivial rfl hgP hb fun q D h' tk hx S O hrec htb=>?_;obtain ⟨c₂,oc,vs,t,e2,M,hd,hv⟩:=hrec;cases e2;have cn:H q=none:=I.hok.fresh S;have cP:q≠P:=fun e=>by rw [e,L] at cn;cases cn
  have hsz:s.heap.objs.size<=h'.objs.size:=Qaz S (Qa9 O);have I2:=vU (lpos:=lpos) (fo:=xG X qual params body scope q D) (tk:=tk) I L hx S O M htb;have fn:H h'.objs.size=none:=I.hok.fresh hsz;have fc:q≠h'.objs.size:=Qbd O;have fP:P≠h'.objs.size:=Zl L fn;refine ⟨.ref h'.objs.size,_,I2,rfl,Z _ q oc D _ fn Za ?_ ⟨vs,t,hd,hv⟩ (.inr ⟨q,oc,?_,?_,⟨vs,t,hd,hv⟩⟩) fun b o e hbP=>?_⟩
  ·rw [Zj fc];exact Za
  ·rw [Zj fP,Zj cP.symm];exact Za
  ·rw [Zj fc];exact Za
  ·rw [Zj (Zl e fn),Zj (Zl e cn),Zj hbP];exact e
 ·have hP:s.heap.get? P=some (PySem.W.tabObj #[rawInt lpos.line,rawInt lpos.col,.ref q]):=I.hok P _ L
  have hf:codeAmong lpos (#[rawInt lpos.line,rawInt lpos.col,.ref q]:Ah).toList=some (.ref q):=by
   show (if ((lpos.line:Int) == lpos.line && (lpos.col:Int) == lpos.col)=true then some (Value.ref q) else _)=_;rw [Qdv,Qdv]
   rfl
  refine PySem.W.kla_makeFunctionHit (mg:=X.mg) hcl I.ok.glob hg G (C.keeps I.bk) hP trivial hf hb fun D h' tk hk hsz=>?_;have I2:=I.laid (h':=h'.push (xG X qual params body scope q D)) (t':=tk) (a:=h'.objs.size) (o:=Xp (xG X qual params body scope q D)) (fun b u e=>Qab _ (hk b u e)) hsz (WQ (Qak _ rfl));have fn:H h'.objs.size=none:=I.hok.fresh hsz;have sm:∀b o,H b=some o->upd H h'.objs.size (Xp (xG X qual params body scope q D)) b=some o:=fun b o e=>by rw [Zj (Zl e fn)];exact e
  exact ⟨.ref h'.objs.size,_,I2,rfl,Z _ q oc D _ fn Za (sm _ _ hc') M (.inr ⟨q,oc,sm _ _ L,sm _ _ hc',M⟩) fun b o e _=>sm b o e⟩
end
def cellsOf(cells:List (Str × Aw)):List Aw:=(cells.map (·.1)).filterMap fun x=>cells.lookup x
theorem ZS{cells:List (Str × Aw)}{c:Aw}:c∈cellsOf cells↔∃x,cells.lookup x=some c:=by
 unfold cellsOf;rw [Qgn]
 constructor
 ·grind
 ·rintro ⟨x,h⟩
  exact ⟨x,Qau.mpr ⟨(x,c),Qcc h,rfl⟩,h⟩
structure Zi4(S0 scope:Scope)(N0 ps ys:Ai)(is:Aj):Prop where
 sc:Zi3 scope ps ys
 free:∀y∈scope.names,y.2=.free->S0.names.lookup y.1=some .cell
 vis:∀q∈ys.zip is,N0[q.2]?=some q.1
 len:ys.length=is.length
section
variable {X:Cx}{params:Arguments}{body a:Ax}{scope:Scope}{lpos p pos:Pos}{c P g:Aw}{qual x:Str}{k kl:Nat}{gd:Ao}{pg ps ys:Ai}{is:Aj}{sp:Sp}{ta te:TE}
theorem Jg{b:Aw}{u:HO}(q:∀c∈L,∃o,H c=some (Xp o))(s:ZC H A)(h:A b=some u)(C:∀o,u≠Xp o):hide L A b=some u:=by
 rw [Zz fun m=>?_]
 ·exact h
 ·obtain ⟨o,e⟩:=q b m
  rw [s _ _ e] at h;exact C o (Option.some.inj h).symm
theorem Yz.other{H':Hp}{P:Aw}{qual:Str}(h:Yz H P D qual)(q:P≠f)(C:∃ps,H f=some (.tbl ps))(s:∀b o,H b=some o->b≠f->H' b=some o):Yz H' P D qual:=by
 rcases h with h | ⟨c,oc,h1,h2,G⟩
 ·exact .inl (s _ _ h q)
 ·obtain ⟨ps,e⟩:=C
  exact .inr ⟨c,oc,s _ _ h1 q,s _ _ h2 (X4 h2 e (fun z=>nomatch z)),G⟩
theorem Yz.same{H':Hp}{P:Aw}{qual:Str}(h:Yz H P D qual)(s:ZC H H'):Yz H' P D qual:=by
 rcases h with h | ⟨c,oc,h1,h2,q⟩
 ·exact .inl (s _ _ h)
 ·exact .inr ⟨c,oc,s _ _ h1,s _ _ h2,q⟩
def tCallV(q:Aq)(w:Au)(K:Af)(mg:Ae)(base:Heap)(k:Nat)(i:Nat)(t:TA):TE:=fun σ H Q=>∃(f:Aw) (τ:Sp),σ[i]?=some (some (.ref f))/\YE q w K mg base k f H τ /\
 t σ H fun vs H1=>J7 H H1/\τ vs H1 Q E0
theorem uI{P:Aq}{mg:Ae}{base:Heap}{k:Nat}{τ:Sp}(c:YE P w K mg base k f H τ)(C:J7 H A)(q:HOk P w A h):PySem.W.FnAt f h:=by
 obtain ⟨o,fd,e,d⟩:=c.1;have g:=(q f _ (C _ _ _ e)).1;obtain ⟨oc,od,G,D⟩:=o;cases d;exact ⟨oc,od,fd,D,g⟩
theorem Zcv(i:Nat){t:TA}(hr:W8 k X.A)(ha:QA X (e::B) t)(hN:X.N[i]?=some x:=by rfl)(hv:Vis X.env.scope x:=by first | exact Or.inl rfl | exact Or.inr (Or.inl rfl) | exact Or.inr (Or.inr rfl))
  (hdb:(x == ("__debug__" : Str))=false:=by decide) (hcd:(x == ("__classdict__" : Str))=false:=by decide) (he:starEach (e::B) X.env=(false,eval e X.env)::starEach B X.env:=by rfl) (G:(backTo pos (starEach B X.env)).any (·.1)=false:=by rfl) :
  QE X (.Call (.Name x p) (e::B) [] pos) (tCallV X.prog X.w X.K X.mg X.base k i t):=by
 refine ⟨?_⟩;intro pins s σ H Q I hw;obtain ⟨f,τ,J,hc,Z⟩:=hw;refine Qda (thn (Zed hN hv hdb hcd pins s σ H (fun v H'=>v=.ref f/\H'=H) I ⟨.ref f,J,rfl,rfl⟩) fun u Y ⟨v,H',O,r,C,S⟩=>?_);subst C;subst S;cases r;refine PySem.W.callWith_F (uI hc (J7.refl _) O.hok) (thn (ha.out pos pins Y σ H' _ O Z) fun us s2 ⟨vs,H1,L,rv,M,D⟩=>⟨uI hc M L.hok,?_⟩) he G;refine Qhm (Qet (hc.2 X.A X.stack s2 H1 us vs Q E0 M hr L.env0 rv D) fun r s' q=>?_);cases r with
 | error e=>exact q.elim
 | ok fl =>
  cases fl with
  | ret u=>exact L.after q
  | next=>exact False.elim q
  | brk=>exact False.elim q
  | cont=>exact False.elim q
end
theorem uJ{mg mb:Ae}{CX:CXT}{k:Nat}{fd:Ao}{sp:Sp}{C:As}{vs:Ag}{D:List (Aw × Aw)}
  (KX:K.In C.heap) (hns:C.heap.Ns mainGlobals mg) (hb:C.heap.Ns builtinsNs mb) (hbb:∀x:Str,x ≠ "__name__" -> mb x=bootBuiltins x) (hlim:C.heap.NoLimit) (hg:C.gens=#[])
  (ha:C.heap.get? a=some { cls:=.type "list",data:=.seq vs.toArray }) (hi:IntsAre vs E) (hl:E.length<=sizeLine) (hr:W8 k callerA)
  (hT:PySem.W.TabsAt D C.heap) (hKt:PySem.W.noTabs K=true) (hbm:zq mg C.heap)
  (F:∀base:Heap,K.In base->base.Ns mainGlobals mg->(∀q∈D,PySem.W.CodeHd base q.1 q.2)->zq mg base->Y9 P w K mg base CX k f fd [x] sp) (hbind:∀(s:As) (u:Av),BindsTo s fd ⟨[u],[]⟩ [(x,u)])
  (hsp:∀H:Hp,(∀q∈D,H q.2=some (.tbl #[]))->SqL K H a (E.map V.int)->sp [.ref a] H (fun v _=>v=.bl true) fun _ _ _=>False)
  (hCX:∀H e s',CX [] H C (fun _ _ _=>False) e s'->False) :
  codeAny (model P w) callerA (.call (.ref f) ⟨[.ref a],[]⟩) (fun r s'=>r=.ok (.ret (.bool true))/\OldK C.heap s'.heap/\s'.os=C.os/\AllBare s'.gens) C:=by
 have rv:=js hi;have lenV:=hi.length;have G:∀b,b∈D.map (·.2)->C.heap.get? b=some (PySem.W.tabObj #[]):=fun b m=>by
  obtain ⟨q,L,rfl⟩:=Qau.mp m;exact (hT q L).2
 have aT:a∉D.map (·.2):=fun m=>by
  have e:=G a m;rw [ha] at e;cases e
 have S:∀H:Hp,(∀q∈D,H q.2=some (.tbl #[]))->(∀b,H b=none\/(b=a/\∃o xs,H b=some (.frz o (.lst xs)))\/(b∈D.map (·.2)/\H b=some (.tbl #[])))->SqL K H a (E.map V.int)->HOk P w H C.heap->(H a≠none->K.lookup a=none) ->
   codeAny (model P w) callerA (.call (.ref f) ⟨[.ref a],[]⟩) (fun r s'=>r=.ok (.ret (.bool true))/\OldK C.heap s'.heap/\s'.os=C.os/\AllBare s'.gens) C:=by
  intro H hTb hO hS hok hK;have I:∀{b:Aw} {o:Obj},C.heap.get? b=some o->H b=none->(g7 C.heap H).get? b=some o:=fun e n=>Zb7 e n;have noA:∀{b:Aw} {o:Obj},C.heap.get? b=some o->(∀Y n,o.data≠.seq Y n)->o.cls≠.none->H b=none:=fun {b o} e d1 d2=>by
   rcases hO b with z | ⟨rfl,_⟩ | ⟨m,_⟩
   ·exact z
   ·rw [ha] at e;cases e
    exact absurd rfl (d1 _ _)
   ·rw [G b m] at e;cases e
    exact absurd rfl d2
  have N:∀{b:Aw} {m:Ae},C.heap.Ns b m->(g7 C.heap H).Ns b m:=fun {b m} ⟨o,es,ep,e,d,r⟩=>⟨o,es,ep,I e (by
   grind),d,r⟩
  have hKb:K.In (g7 C.heap H):=fun b o e=>I (KX b o e) (by
   rcases hO b with z | ⟨rfl,ob,xs,z⟩ | ⟨m,_⟩
   ·exact z
   ·rw [hK (by rw [z];simp)] at e;cases e
   ·have g:=KX b o e
    rw [G b m] at g;cases g;have h2:=Qce.mp hKt (b,_) (PySem.W.mem_of_lookupK e);exact absurd (show false=true from h2) Qa6)
  have hM:Mod K mg (g7 C.heap H):=⟨hKb,N hns,⟨mb,N hb,hbb⟩,let ⟨mc,h1,h2⟩:=hlim;⟨mc,N h1,h2⟩⟩;have hB:zq mg (g7 C.heap H):=by
   obtain ⟨bm,ob,b1,b2,b3,b4,b5,b6⟩:=hbm.ex;exact ⟨bm,ob,b1,b2,I b3 (noA b3 (fun Y n z=>by rw [b6] at z;cases z) (fun z=>by rw [b4] at z;cases z)),b4,b5,b6⟩
  have hC:∀q∈D,PySem.W.CodeHd (g7 C.heap H) q.1 q.2:=fun q L=>by
   obtain ⟨o,vs',file,tf,Z,tg,inF,text,tt,e1,r1,r2,r3⟩:=(hT q L).1;exact ⟨o,vs',file,tf,Z,tg,inF,text,tt,I e1 (noA e1 (fun Y n z=>by rw [r2] at z;cases z) (fun z=>by rw [r1] at z;cases z)),r1,r2,r3⟩
  have e0:Zft P w K mg (g7 C.heap H) callerA [] C H:=⟨rfl,hM,fun b o e=>Zff e,Qgp (g8 _ _),trivial,fun b hb=>absurd (show b∈([]:List Aw) from hb) (by simp),hok,.of_eq hg⟩;refine Qet ((F _ hKb (N hns) hC hB).run callerA [] C H ⟨[.ref a],[]⟩ [.ref a] [.ref a] _ _ hr e0 (hbind C (.ref a)) (.cons rfl .nil) (hsp H hTb hS)) fun r s' h=>?_;cases r with
  | error e=>exact (hCX H e s' h).elim
  | ok fl =>
   cases fl with
   | next=>exact False.elim h
   | brk=>exact False.elim h
   | cont=>exact False.elim h
   | ret u =>
    obtain ⟨v,H',os,bare,un,O,r',q⟩:=h;have q':v=.bl true:=q;subst q';obtain rfl:u=Value.bool true:=r';have all:∀b o,C.heap.get? b=some o->s'.heap.get? b=some o\/∃J,b∈D.map (·.2)/\o=PySem.W.tabObj #[]/\s'.heap.get? b=some (PySem.W.tabObj (#[]++J)):=fun b o e=>by
     rcases hO b with z | ⟨_,ob,xs,z⟩ | ⟨m,z⟩
     ·exact .inl (un.keep b o e z (by intro z;exact absurd (show b∈([]:List Aw) from z) (by simp)) (by simp))
     ·have z2:=un.frzs b ob _ z
      obtain ⟨e1,_⟩:=hok b _ z;obtain ⟨e2,_⟩:=O b _ z2;rw [e] at e1;cases e1;exact .inl e2
     ·obtain ⟨J,z2⟩:=un.tbls b _ z
      rw [G b m] at e;cases e;exact .inr ⟨J,m,rfl,O b _ z2⟩
    refine ⟨rfl,⟨fun b o e=>?_,fun b o e=>?_⟩,os,bare⟩
    ·rcases all b o e with z | ⟨J,m,rfl,z⟩
     ·exact .inl z
     ·obtain ⟨q,L,rfl⟩:=Qau.mp m
      exact .inr (.inl ⟨((hT q L).1.tab (hT q L).2).isCodeTable,rfl,#[],J,rfl,z⟩)
    ·rcases all b o e with z | ⟨J,_,_,z⟩
     ·exact ⟨_,z⟩
     ·exact ⟨_,z⟩
 have tm:∀q∈D,q.2∈D.map (·.2):=fun q L=>Qb2 L;cases hk:K.lookup a with
 | some o =>
  have e:=KX a o hk;rw [ha] at e;cases e;refine S (fun b=>if b∈D.map (·.2) then some (.tbl #[]) else none) (fun q L=>Qa0 (tm q L)) (fun b=>?_) (.inr ⟨_,vs.toArray,_,hk,rfl,rfl,rfl,by rw [Qa2,lenV];exact hl,by simpa using rv⟩) (fun b u z=>?_) (fun z=>absurd (Qaw aT) z)
  ·by_cases m:b∈D.map (·.2)
   ·exact .inr (.inr ⟨m,Qa0 m⟩)
   ·exact .inl (Qaw m)
  ·by_cases m:b∈D.map (·.2)
   ·have M:=(Qa0 m).symm.trans z
    cases M;exact G b m
   ·have M:=(Qaw m).symm.trans z
    cases M
 | none =>
  refine S (fun b=>if b∈D.map (·.2) then some (.tbl #[]) else if b=a then some (.frz { cls:=.type "list",data:=.seq vs.toArray } (.lst (E.map V.int))) else none) (fun q L=>Qa0 (tm q L)) (fun b=>?_) (.inl (.inr ⟨{ cls:=.type "list",data:=.seq vs.toArray },(Qaw aT).trans (Qa0 rfl)⟩)) (fun b u z=>?_) fun _=>hk
  ·grind
  ·by_cases m:b∈D.map (·.2)
   ·have M:=(Qa0 m).symm.trans z
    cases M;exact G b m
   ·by_cases hb:b=a
    ·have M:=((Qaw m).trans (Qa0 hb)).symm.trans z
     cases M;subst hb;exact ⟨ha,by rw [Qac];exact hl,vs,_,rv,ha⟩
    ·have M:=((Qaw m).trans (Qaw hb)).symm.trans z
     cases M
theorem walk_ofT{l:PySem.W.OpenLaw}{k:Nat}{XP:(Ae)->Heap->Prop}{YP:Au->Heap->Prop}{d:DefRec}{K:Params->PySem.W.Frag}{CX:Au->CXT}{sp:Au->Sp}{q:List (Aw × Aw)}
  (hn:l.most=some n) (hn2:n<=sizeLine) (hdf:d.params.defaults=[]) (hr:W8 k callerA)
  (hY:∀(w:Au) (h:Heap),YP w h->(K w.params).In h)
  (L:∀(w:Au) (I:ExcName->Option Av) (mg mb:Ae) (h:Heap),Top P (PySem.W.looseW P N) I mg mb h->(K w.params).In h->PySem.W.TabsAt q h) (hKt:∀w:Au,PySem.W.noTabs (K w.params)=true)
  (F:∀(w:Au) (mg:Ae) (S:Aw) (h:Heap),(K w.params).In h->h.Ns mainGlobals mg->mg d.name=some (.ref S) ->
   ∃fd:Ao,(∀(s:As) (u:Av),BindsTo s fd ⟨[u],[]⟩ [(x,u)]) /\
    ∀base:Heap,(K w.params).In base->base.Ns mainGlobals mg->(∀P∈q,PySem.W.CodeHd base P.1 P.2)->zq mg base->Y9 l.prog w (K w.params) mg base (CX w) k S fd [x] (sp w))
  (hsp:∀(w:Au) (H:Hp) (a:Aw) (O:Ak),O.length<=n->(∀P∈q,H P.2=some (.tbl #[]))->SqL (K w.params) H a (O.map V.int)->sp w [.ref a] H (fun v _=>v=.bl true) fun _ _ _=>False)
  (hCX:∀(w:Au) (H:Hp) (s:As) (e:Av) (s':As),CX w [] H s (fun _ _ _=>False) e s'->False) :
  PySem.W.WalkO P N XP YP l.row.toRowW d [] (fun f vs=>PySem.call f vs):=by
 refine Att.attach_call hn hdf fun w s₀ J mg mb S o pm cd doc a vs O G Y ho hd hcd hmg M D C hg=>?_;have Z:=hY w _ Y;obtain ⟨fd,hb,hF⟩:=F w mg S _ Z G.T.g hmg;exact uJ Z G.T.g G.T.b G.T.builtins G.T.nolimit hg M D (Qaz C hn2) hr (L w _ mg mb _ G.T Z) (hKt w) ⟨G.T.bmain⟩ hF hb (fun H hTb hS=>hsp w H a O C hTb hS) fun H e s'=>hCX w H J e s'
theorem Fun.okC{mg:Ae}{base:Heap}{qual:Str}{st:Ay}{fd:Ao}{ps:Ai}{k:Nat}{sp:Sp}(F:Fun K x qual st f fd)(S:Zu N ps (Zg st))(len:∀vs H Q E,sp vs H Q E->vs.length=ps.length)
  (C:∀(A:Ar) (outer:List Env) (s:As) (H:Hp) (vs:A2) (Q:VK) (E:XK),W8 k (A.deeper (envOfC qual (Zg st) s.heap.objs.size f fd.code))->sp vs H Q E ->
   ∃t,PSs (Zca CX0 P w K mg base N qual (Zg st) f fd.code A outer s H E).nox (Xk st) t/\t { nx:=fun _ H'=>Q .non H',rt:=Q } (start N vs) H):Y9 P w K mg base CX0 (k + 1) f fd ps sp:=by
 obtain ⟨oc,od,kV,G,O,M,I,ct,J,rfl,L,hcd⟩:=F.ex;refine Ziw L hcd S len fun A outer s H vs Q E hr D=>?_;obtain ⟨t,h,q⟩:=C A outer s H vs Q E hr D;exact ⟨t,h.nox,q⟩
section
variable {X:Cx}
end
section
variable {prog:Aq}{w:Au}{A:Ar}{E:Ab}{s:As}
end
section
variable {X:Cx}
end
section
variable {prog:Aq}{w:Au}{K:Type}[DecidableEq K]{knd:KeyKind prog w K}{A:Ar}{R:Result->Shared->Prop}{d l it:Aw}{items:Ag}
end
theorem Zcw{x:V}(r:Vals [x,y] U):∃a b,U=[a,b]/\RelV x a/\RelV y b:=by
 cases r with
 | cons h1 t =>
  cases t with
  | cons h2 t =>
   cases t;exact ⟨_,_,rfl,h1,h2⟩
section
variable {X:Cx}
end
structure QPs(X:Cx)(pos:Pos)(keys:List (Option Ax))(values:An)(trs:List (TE × TE)):Prop where
 out:PPs X pos keys values trs
section
variable {X:Cx}
theorem uK:QPs X p [] [] []:=⟨Zf8⟩
theorem vV{k v:Ax}{ks:List (Option Ax)}{vs:An}{tk:TE}{q:List (TE × TE)}(hk:QE X k tk)(hv:QE X v c)(hr:QPs X p ks vs q):QPs X p (some k::ks) (v::vs) ((tk,c)::q):=⟨Zcn hk.out hv.out hr.out⟩
theorem uL{keys:List (Option Ax)}{C:List (TE × TE)}(h:QPs X p keys B C)(q:keys.all (·.isSome)=true)(hl:keys.length=B.length)(G:keys≠[])(D:keys.length<=15):QE X (.Dict keys B p) (Zi1 C):=⟨Zf9 h.out q hl G D⟩
end
end L2
namespace ZpT
open PySem PySem.Spec PyProof.Rows
def Yq:Bool->Heap->Addr->Addr->Nat->Prop
 | true,h,it,l,k=>h.IsTupleIter it l k
 | false,h,it,l,k=>h.IsListIter it l k
def SeqAt:Bool->Heap->Addr->Array Av->Prop
 | true,h,l,xs=>h.IsTuple l xs
 | false,h,l,xs=>h.IsList l xs
theorem Yq.mv{b:Bool}{h':Heap}{it l:Aw}{k:Nat}(x:Yq b h it l k)(f:∀o,h.get? it=some o->h'.get? it=some o):Yq b h' it l k:=by
 cases b
 ·exact Heap.IsListIter.at x f
 ·exact Heap.IsTupleIter.at x f
theorem SeqAt.mv{b:Bool}{h':Heap}{l:Aw}{xs:Ah}(x:SeqAt b h l xs)(f:∀o,h.get? l=some o->h'.get? l=some o):SeqAt b h' l xs:=by
 cases b
 ·obtain ⟨o,ho,r⟩:=(show h.IsList l xs from x)
  exact (show h'.IsList l xs from ⟨o,f o ho,r⟩)
 ·obtain ⟨o,ho,r⟩:=(show h.IsTuple l xs from x)
  exact (show h'.IsTuple l xs from ⟨o,f o ho,r⟩)
theorem Yq.ob{b:Bool}{it l:Aw}{k:Nat}(x:Yq b h it l k):∃o,h.get? it=some o/\∀v,o.data≠.cell v:=by
 cases b
 ·obtain ⟨o,ho,hc,hd⟩:=(show h.IsListIter it l k from x)
  exact ⟨o,ho,fun v z=>by rw [hd] at z;cases z⟩
 ·obtain ⟨o,ho,hc,hd⟩:=(show h.IsTupleIter it l k from x)
  exact ⟨o,ho,fun v z=>by rw [hd] at z;cases z⟩
def zO (f0:Av) (b:Bool) (TI TO:Aw):Obj:={ cls:=.type "zip",dict:=none,data:=.fields #[f0,.bool b,.bool false,.ref TI,.ref TO],slots:=#[] }
def F0(f0:Av):Prop:=f0=.none\/∃T:Aw,f0=rawInt T
structure Ap(z TI TO i1 i2:Aw):Prop where
 TIz:TI≠z
 TOz:TO≠z
 i1z:i1≠z
 i2z:i2≠z
 TITO:TI≠TO
 TIi1:TI≠i1
 TIi2:TI≠i2
 TOi1:TO≠i1
 TOi2:TO≠i2
 i12:i1≠i2
section
variable {prog:Aq}{w:Au}{A:Ar}{E:Ab}{s:As}
theorem J8{b:Bool}{it l:Aw}{k:Nat}{xs:Ah}{x:Av}(q:Yq b s.heap it l k)(hl:SeqAt b s.heap l xs)(hx:xs[k]?=some x)
  (C:∀h',Yq b h' it l (k + 1)->Heap.SameBut it s.heap h'->Q x { s with heap:=h' }):wpAny (model prog w) A (Builtin.SmallTypes.nextOf (.ref it)) Q E s:=by
 cases b
 ·exact wpAny_nextOf_list_item q hl hx C
 ·exact EnT.next_of q hl hx C
theorem vW{b:Bool}{it l:Aw}{k:Nat}{xs:Ah}(hh:A.handled=none)(q:Yq b s.heap it l k)(hl:SeqAt b s.heap l xs)(hx:xs[k]?=none)
  (C:∀h' e,Heap.ExtBut it s.heap h'->(∃o,h'.get? e=some o/\o.cls=.type "StopIteration")->E (.ref e) { s with heap:=h' }):wpAny (model prog w) A (Builtin.SmallTypes.nextOf (.ref it)) Q E s:=by
 cases b
 ·exact wpAny_nextOf_list_end hh q hl hx C
 ·exact EnT.next_no hh q hl hx C
theorem alive{Q:Option Obj->Shared->Prop}(h:Q (s.heap.get? a) s):wpAny (model prog w) A (loadIfAlive a) Q E s:=fun Γ p _=>h
theorem uM{z:Aw}{f0:Av}{Q:Bool->Shared->Prop}(D:s.heap.get? z=some (zO f0 j a f))(hf:F0 f0)
  (h:∀r h' I,h'.get? z=some (zO f0 I a f)->Heap.SameBut z s.heap h'->Q r { s with heap:=h' }):wpAny (model prog w) A (Builtin.SmallTypes.ownedTupleIsFree (.ref z)) Q E s:=by
 refine Qaa (Qbk D rfl (x:=f0) rfl ?_);rcases hf with rfl | ⟨T,rfl⟩
 ·exact Qae (h true s.heap j D ⟨rfl,fun _ _=>rfl⟩)
 ·refine Qaa (alive ?_)
  cases hT:s.heap.get? (Int.toNat (T:Int)) with
  | none=>exact Qae (h true s.heap j D ⟨rfl,fun _ _=>rfl⟩)
  | some o =>
   refine Qaa (Qbk D rfl (x:=.bool j) rfl ?_);cases j
   ·refine Qaa (Qbp D (by simp) fun G q C=>Qae ?_)
    exact h false G true q C
   ·exact Qae (h false s.heap true D ⟨rfl,fun _ _=>rfl⟩)
end
end ZpT
namespace ZpT
open PySem PySem.Spec PyProof.Rows
structure Of(z TO i1 i2 l:Aw):Prop where
 z:l≠z
 o:l≠TO
 i:l≠i1
 j:l≠i2
structure St(b1 b2:Bool)(z TI TO i1 i2 l1 l2:Aw)(k1 k2:Nat)(h:Heap):Prop where
 z:∃f0 fb,h.get? z=some (zO f0 fb TI TO)/\F0 f0
 I:IsPair h TI (.ref i1) (.ref i2)
 O:∃a b,IsPair h TO a b
 n1:Yq b1 h i1 l1 k1
 n2:Yq b2 h i2 l2 k2
section
variable {prog:Aq}{w:Au}{A:Ar}{E:Ab}{s:As}
theorem item{b1 b2:Bool}{z i1 i2 l1 l2:Aw}{xs ys:Ah}{x y:Av}(D:Ap z f T i1 i2)(D1:Of z T i1 i2 l1)(D2:Of z T i1 i2 l2)
  (S:St b1 b2 z f T i1 i2 l1 l2 n Z s.heap) (q1:SeqAt b1 s.heap l1 xs) (q2:SeqAt b2 s.heap l2 ys) (hx:xs[n]?=some x) (hy:ys[Z]?=some y)
  (hQ:∀h',St b1 b2 z f T i1 i2 l1 l2 (n + 1) (Z + 1) h'->IsPair h' s.heap.objs.size x y ->
   (∀c o,c≠z->c≠T->c≠i1->c≠i2->s.heap.get? c=some o->h'.get? c=some o)->Q (.ref s.heap.objs.size) { s with heap:=h' }) :
  wpAny (model prog w) A (Builtin.«zip.__next__» ⟨[.ref z],[]⟩) (fun fin s'=>∃v,fin=.done (.ret v)/\Q v s') E s:=by
 obtain ⟨⟨f0,fb,hz,hf⟩,hTI,⟨a,b,hTO⟩,n1,n2⟩:=S;show wpAny _ _ (field (.ref z) 2 >>= _) _ _ _;refine Qaa (Qbk hz rfl (x:=.bool false) rfl ?_);show wpAny _ _ (field (.ref z) 3 >>= _) _ _ _;refine Qaa (Qbk hz rfl (x:=.ref f) rfl ?_);refine Qaa (Qb7 hTI rfl ?_);show wpAny _ _ (Builtin.SmallTypes.ownedTupleIsFree (.ref z) >>= _) _ _ _;refine Qaa (uM hz hf fun r h0 fb' hz0 O=>?_);have hz0':h0.get? z=some (zO f0 fb' f T):=hz0;have hTO0:IsPair h0 T a b:=O.extBut _ _ D.TOz hTO;have hTI0:IsPair h0 f (.ref i1) (.ref i2):=O.extBut _ _ D.TIz hTI;have n10:Yq b1 h0 i1 l1 n:=n1.mv fun o e=>O.extBut _ _ D.i1z e;have n20:Yq b2 h0 i2 l2 Z:=n2.mv fun o e=>O.extBut _ _ D.i2z e;have q10:SeqAt b1 h0 l1 xs:=q1.mv fun o e=>O.extBut _ _ D1.z e;have q20:SeqAt b2 h0 l2 ys:=q2.mv fun o e=>O.extBut _ _ D2.z e;cases r with
 | true =>
  simp only [if_true];refine Qaa (Qdk ?_);refine Qaa (Qbk hz0 rfl (x:=.ref T) rfl ?_);refine Qaa (Qbp hz0 (by simp) fun h₁ hz₁ J=>?_)
  replace hz₁:h₁.get? z=some (zO .ellipsis fb' f T):=hz₁
  refine Qaa ?_;simp only [List.zipIdx_cons,List.zipIdx_nil,Qeu,Qgx];refine Qaa (Qaa (Qg6 ?_));show wpAny _ _ (Builtin.SmallTypes.nextOf (.ref i1) >>= _) _ _ _;refine Qaa (J8 (n10.mv fun o e=>J.extBut _ _ D.i1z e) (q10.mv fun o e=>J.extBut _ _ D1.z e) hx fun h₂ h1₂ q=>Qae ?_);have hTO₂:IsPair h₂ T a b:=q.extBut _ _ D.TOi1 (J.extBut _ _ D.TOz hTO0);refine Qaa (Qb7 hTO₂ rfl ?_);refine Qaa (Qf9 hTO₂ fun I hTO₃ C=>?_)
  replace hTO₃:IsPair I T x b:=hTO₃
  refine Qaa (Qew (Qae ?_));refine Qaa (Qaa (Qg6 ?_));show wpAny _ _ (Builtin.SmallTypes.nextOf (.ref i2) >>= _) _ _ _;refine Qaa (J8 (n20.mv fun o e=>C.extBut _ _ D.TOi2.symm (q.extBut _ _ D.i12.symm (J.extBut _ _ D.i2z e)))
   (q20.mv fun o e=>C.extBut _ _ D2.o (q.extBut _ _ D2.i (J.extBut _ _ D2.z e))) hy fun h₄ h2₄ N=>Qae ?_)
  have hTO₄:IsPair h₄ T x b:=N.extBut _ _ D.TOi2 hTO₃;refine Qaa (Qb7 hTO₄ rfl ?_);refine Qaa (Qf9 hTO₄ fun G L M=>?_)
  replace L:IsPair G T x y:=L
  refine Qaa (Qew (Qae (Qae ?_)));refine Qaa (Qb7 L rfl ?_);refine Qaa (Qf0 ?_);have hsz:G.objs.size=s.heap.objs.size:=by rw [M.1,N.1,C.1,q.1,J.1];exact O.1
  have hz₅:G.get? z=some (zO .ellipsis fb' f T):=M.extBut _ _ D.TOz.symm (N.extBut _ _ D.i2z.symm (C.extBut _ _ D.TOz.symm (q.extBut _ _ D.i1z.symm hz₁)));have hk₅:∀c o,c≠z->c≠T->c≠i1->c≠i2->s.heap.get? c=some o->G.get? c=some o:=fun c o c1 c2 c3 c4 e =>
   M.extBut _ _ c2 (N.extBut _ _ c4 (C.extBut _ _ c2 (q.extBut _ _ c3 (J.extBut _ _ c1 (O.extBut _ _ c1 e)))))
  have h1₅:Yq b1 G i1 l1 (n + 1):=h1₂.mv fun o e=>M.extBut _ _ D.TOi1.symm (N.extBut _ _ D.i12 (C.extBut _ _ D.TOi1.symm e));have h2₅:Yq b2 G i2 l2 (Z + 1):=h2₄.mv fun o e=>M.extBut _ _ D.TOi2.symm e;have hzlt:z < G.objs.size:=Qan hz₅;show wpAny _ _ (Builtin.SmallTypes.ownedTupleHandOut (.ref z) (.ref G.objs.size) >>= _) _ _ _;refine Qaa ?_;unfold Builtin.SmallTypes.ownedTupleHandOut;have hz₆:(G.push { cls:=.type "tuple",data:=.seq #[x,y] }).get? z=some (zO .ellipsis fb' f T):=Qab _ hz₅;refine Qaa (Qbp hz₆ (by simp) fun h₇ hz₇ hs₇=>?_)
  replace hz₇:h₇.get? z=some (zO (rawInt G.objs.size) fb' f T):=hz₇
  refine Qbp hz₇ (by simp) fun h₈ Y hs₈=>?_
  replace Y:h₈.get? z=some (zO (rawInt G.objs.size) false f T):=Y
  have up:∀c o,c≠z->G.get? c=some o->h₈.get? c=some o:=fun c o c1 e=>hs₈.extBut _ _ c1 (hs₇.extBut _ _ c1 (Qab _ e));have hT₈:IsPair h₈ G.objs.size x y:=hs₈.extBut _ _ (Qdp hzlt) (hs₇.extBut _ _ (Qdp hzlt) (Qak _ rfl));rw [hsz] at Y hT₈;refine Qae ⟨_,rfl,?_⟩;show Q (.ref G.objs.size) _;rw [hsz];exact hQ h₈ ⟨⟨_,_,Y,.inr ⟨_,rfl⟩⟩,up _ _ D.TIz (hk₅ _ _ D.TIz D.TITO D.TIi1 D.TIi2 hTI),⟨_,_,up _ _ D.TOz L⟩,h1₅.mv fun o e=>up _ o D.i1z e,h2₅.mv fun o e=>up _ o D.i2z e⟩ hT₈ fun c o c1 c2 c3 c4 e=>up c o c1 (hk₅ c o c1 c2 c3 c4 e)
 | false =>
  simp only [Qb5,Qho];refine Qaa ?_;simp only [<-Array.forIn_toList,Qeu,Qgx];refine Qaa (Qaa (Qcd ?_));show wpAny _ _ (Builtin.SmallTypes.nextOf (.ref i1) >>= _) _ _ _;refine Qaa (J8 n10 q10 hx fun h₂ h1₂ q=>Qae (Qae ?_));refine Qaa (Qaa (Qcd ?_));show wpAny _ _ (Builtin.SmallTypes.nextOf (.ref i2) >>= _) _ _ _;refine Qaa (J8 (n20.mv fun o e=>q.extBut _ _ D.i12.symm e) (q20.mv fun o e=>q.extBut _ _ D2.i e) hy fun I h2₃ C=>Qae (Qae (Qae ?_)));refine Qaa (Qf0 (hsz:=(show 2<=sizeLine by decide)) (Qae ⟨_,rfl,?_⟩));have hsz:I.objs.size=s.heap.objs.size:=by rw [C.1,q.1];exact O.1
  have hk₃:∀c o,c≠z->c≠i1->c≠i2->s.heap.get? c=some o->I.get? c=some o:=fun c o c1 c3 c4 e=>C.extBut _ _ c4 (q.extBut _ _ c3 (O.extBut _ _ c1 e));have zz:I.get? z=some (zO f0 fb' f T):=C.extBut _ _ D.i2z.symm (q.extBut _ _ D.i1z.symm hz0');have hT:IsPair (I.push { cls:=.type "tuple",data:=.seq #[x,y] }) I.objs.size x y:=Qak _ rfl;show Q (.ref I.objs.size) { s with heap:=I.push { cls:=.type "tuple",data:=.seq #[x,y] } };rw [hsz] at hT ⊢;have up:∀c o,I.get? c=some o->(I.push { cls:=.type "tuple",data:=.seq #[x,y] }).get? c=some o:=fun c o e=>Qab _ e;exact hQ _ ⟨⟨_,_,up _ _ zz,hf⟩,up _ _ (hk₃ _ _ D.TIz D.TIi1 D.TIi2 hTI),⟨_,_,up _ _ (hk₃ _ _ D.TOz D.TOi1 D.TOi2 hTO)⟩,h1₂.mv fun o e=>up _ _ (C.extBut _ _ D.i12 e),h2₃.mv fun o e=>up _ _ e⟩ hT fun c o c1 c2 c3 c4 e=>up c o (hk₃ c o c1 c3 c4 e)
end
end ZpT
namespace ZpT
open PySem PySem.Spec PyProof.Rows
section
variable {prog:Aq}{w:Au}{A:Ar}{E:Ab}{s:As}
theorem fin{b1 b2:Bool}{z i1 i2 l1 l2:Aw}{xs ys:Ah}{Q:Fin->Shared->Prop}(hh:A.handled=none)(D:Ap z f T i1 i2)(D1:Of z T i1 i2 l1)(D2:Of z T i1 i2 l2)
  (S:St b1 b2 z f T i1 i2 l1 l2 n Z s.heap) (q1:SeqAt b1 s.heap l1 xs) (q2:SeqAt b2 s.heap l2 ys) (hend:xs[n]?=none\/ys[Z]?=none)
  (hE:∀h' e,(∀c o,c≠z->c≠T->c≠i1->c≠i2->s.heap.get? c=some o->h'.get? c=some o)->(∃o,h'.get? e=some o/\o.cls=.type "StopIteration")->E (.ref e) { s with heap:=h' }) :
  wpAny (model prog w) A (Builtin.«zip.__next__» ⟨[.ref z],[]⟩) Q E s:=by
 obtain ⟨⟨f0,fb,hz,hf⟩,hTI,⟨a,b,hTO⟩,n1,n2⟩:=S;show wpAny _ _ (field (.ref z) 2 >>= _) _ _ _;refine Qaa (Qbk hz rfl (x:=.bool false) rfl ?_);show wpAny _ _ (field (.ref z) 3 >>= _) _ _ _;refine Qaa (Qbk hz rfl (x:=.ref f) rfl ?_);refine Qaa (Qb7 hTI rfl ?_);show wpAny _ _ (Builtin.SmallTypes.ownedTupleIsFree (.ref z) >>= _) _ _ _;refine Qaa (uM hz hf fun r h0 fb' hz0 I=>?_);have hz0':h0.get? z=some (zO f0 fb' f T):=hz0;have hTO0:IsPair h0 T a b:=I.extBut _ _ D.TOz hTO;have hTI0:IsPair h0 f (.ref i1) (.ref i2):=I.extBut _ _ D.TIz hTI;have n10:Yq b1 h0 i1 l1 n:=n1.mv fun o e=>I.extBut _ _ D.i1z e;have n20:Yq b2 h0 i2 l2 Z:=n2.mv fun o e=>I.extBut _ _ D.i2z e;have q10:SeqAt b1 h0 l1 xs:=q1.mv fun o e=>I.extBut _ _ D1.z e;have q20:SeqAt b2 h0 l2 ys:=q2.mv fun o e=>I.extBut _ _ D2.z e;cases r with
 | true =>
  simp only [if_true];refine Qaa (Qdk ?_);refine Qaa (Qbk hz0 rfl (x:=.ref T) rfl ?_);refine Qaa (Qbp hz0 (by simp) fun h₁ L G=>?_)
  replace L:h₁.get? z=some (zO .ellipsis fb' f T):=L
  refine Qaa ?_;simp only [List.zipIdx_cons,List.zipIdx_nil,Qeu,Qgx];refine Qaa (Qaa (Qg6 ?_));show wpAny _ _ (Builtin.SmallTypes.nextOf (.ref i1) >>= _) _ _ _;cases hx:xs[n]? with
  | none =>
   refine Qaa (vW hh (n10.mv fun o e=>G.extBut _ _ D.i1z e) (q10.mv fun o e=>G.extBut _ _ D1.z e) hx fun J e q he=>?_);obtain ⟨oe,M,hce⟩:=he;have Y:J.get? z=some (zO .ellipsis fb' f T):=q _ _ D.i1z.symm L;have hez:e≠z:=fun x=>by subst x;rw [Y] at M;cases M;simp [zO] at hce
   refine Qbp Y (by simp) fun O _ C=>hE O e (fun c o c1 _ c3 _ x=>C.extBut _ _ c1 (q _ _ c3 (G.extBut _ _ c1 (I.extBut _ _ c1 x)))) ⟨oe,C.extBut _ _ hez M,hce⟩
  | some x =>
   have hy:ys[Z]?=none:=by rcases hend with h | h;rw [hx] at h;cases h;exact h
   refine Qaa (J8 (n10.mv fun o e=>G.extBut _ _ D.i1z e) (q10.mv fun o e=>G.extBut _ _ D1.z e) hx fun J h1₂ q=>Qae ?_);have N:IsPair J T a b:=q.extBut _ _ D.TOi1 (G.extBut _ _ D.TOz hTO0);refine Qaa (Qb7 N rfl ?_);refine Qaa (Qf9 N fun O hTO₃ C=>?_);refine Qaa (Qew (Qae ?_));refine Qaa (Qaa (Qg6 ?_));show wpAny _ _ (Builtin.SmallTypes.nextOf (.ref i2) >>= _) _ _ _;refine Qaa (vW hh (n20.mv fun o e=>C.extBut _ _ D.TOi2.symm (q.extBut _ _ D.i12.symm (G.extBut _ _ D.i2z e)))
    (q20.mv fun o e=>C.extBut _ _ D2.o (q.extBut _ _ D2.i (G.extBut _ _ D2.z e))) hy fun h₄ e hs₄ he=>?_)
   obtain ⟨oe,M,hce⟩:=he;have hz₄:h₄.get? z=some (zO .ellipsis fb' f T):=hs₄ _ _ D.i2z.symm (C.extBut _ _ D.TOz.symm (q.extBut _ _ D.i1z.symm L));have hez:e≠z:=fun x=>by subst x;rw [hz₄] at M;cases M;simp [zO] at hce
   refine Qbp hz₄ (by simp) fun h₅ _ hs₅=>hE h₅ e (fun c o c1 c2 c3 c4 x=>hs₅.extBut _ _ c1 (hs₄ _ _ c4 (C.extBut _ _ c2 (q.extBut _ _ c3 (G.extBut _ _ c1 (I.extBut _ _ c1 x)))))) ⟨oe,hs₅.extBut _ _ hez M,hce⟩
 | false =>
  simp only [Qb5,Qho];refine Qaa ?_;simp only [<-Array.forIn_toList,Qeu,Qgx];refine Qaa (Qaa (Qcd ?_));show wpAny _ _ (Builtin.SmallTypes.nextOf (.ref i1) >>= _) _ _ _;cases hx:xs[n]? with
  | none=>exact Qaa (vW hh n10 q10 hx fun J e q he=>hE J e (fun c o c1 _ c3 _ x=>q _ _ c3 (I.extBut _ _ c1 x)) he)
  | some x =>
   have hy:ys[Z]?=none:=by rcases hend with h | h;rw [hx] at h;cases h;exact h
   refine Qaa (J8 n10 q10 hx fun J h1₂ q=>Qae (Qae ?_));refine Qaa (Qaa (Qcd ?_));show wpAny _ _ (Builtin.SmallTypes.nextOf (.ref i2) >>= _) _ _ _;exact Qaa (vW hh (n20.mv fun o e=>q.extBut _ _ D.i12.symm e) (q20.mv fun o e=>q.extBut _ _ D2.i e) hy fun O e C he=>hE O e (fun c o c1 _ c3 c4 x=>C _ _ c4 (q.extBut _ _ c3 (I.extBut _ _ c1 x))) he)
theorem next_item{b1 b2:Bool}{z i2 l1 l2:Aw}{xs ys:Ah}{x y:Av}{Q:Aa}(D:Ap z a f T i2)(C:Of z f T i2 l1)(G:Of z f T i2 l2)
  (S:St b1 b2 z a f T i2 l1 l2 i n s.heap) (I:SeqAt b1 s.heap l1 xs) (L:SeqAt b2 s.heap l2 ys) (hx:xs[i]?=some x) (J:ys[n]?=some y)
  (M:∀h',St b1 b2 z a f T i2 l1 l2 (i + 1) (n + 1) h'->IsPair h' s.heap.objs.size x y ->
   (∀c o,c≠z->c≠f->c≠T->c≠i2->s.heap.get? c=some o->h'.get? c=some o)->Q (some (.ref s.heap.objs.size)) { s with heap:=h' }) :
  wpAny (model prog w) A (pyNext (.ref z)) Q E s:=by
 obtain ⟨f0,Y,N,hf⟩:=S.z;have q:s.TypeIs (.ref z) "zip" := ⟨_,N,rfl⟩;exact Qaa (Qc1 (wpAny_callSpecial?_slot (name:=Str.ofString "__next__") q Qfr
  (Qbe Qfr q F.entry_zip_next (item D C G S I L hx J fun h' a1 a2 O=>Qae (M h' a1 a2 O)) (F.args_zip_next_1 _))))
theorem next_end{b1 b2:Bool}{z i1 i2 l1 l2:Aw}{xs ys:Ah}{Q:Aa}(hh:A.handled=none)(D:Ap z a f i1 i2)(G:Of z f i1 i2 l1)(J:Of z f i1 i2 l2)
  (S:St b1 b2 z a f i1 i2 l1 l2 i n s.heap) (I:SeqAt b1 s.heap l1 xs) (L:SeqAt b2 s.heap l2 ys) (q:xs[i]?=none\/ys[n]?=none)
  (M:∀h',(∀c o,c≠z->c≠f->c≠i1->c≠i2->s.heap.get? c=some o->h'.get? c=some o)->Q none { s with heap:=h' }) :
  wpAny (model prog w) A (pyNext (.ref z)) Q E s:=by
 obtain ⟨f0,O,N,hf⟩:=id S.z;have C:s.TypeIs (.ref z) "zip" := ⟨_,N,rfl⟩;refine Qaa (Qc1 (wpAny_callSpecial?_slot (name:=Str.ofString "__next__") C Qfr (Qbe Qfr C F.entry_zip_next ?_ (F.args_zip_next_1 _))));refine fin hh D G J S I L q fun h' e hk he=>?_;obtain ⟨o,ho,hc⟩:=he;exact Qaa (Qc0 (T := "StopIteration") (b:=true) ⟨o,ho,hc⟩ Qe9 (Qae (M _ hk)))
theorem iter_self{z:Aw}{f0:Av}(C:s.heap.get? z=some (zO f0 j a f))(h:Q (.ref z) s):wpAny (model prog w) A (pyIter (.ref z)) Q E s:=by
 have q:s.TypeIs (.ref z) "zip" := ⟨_,C,rfl⟩;refine Qfy q F.slot_zip_iter (Qbe F.slot_zip_iter q F.entry_zip_iter ?_ (F.args_zip_iter_1 _));exact Qae ⟨_,rfl,"zip",_,q,Qfr.lookup,h⟩
end
end ZpT
namespace ZpT
open PySem PySem.Spec PyProof.Rows
def itO (b:Bool) (l:Aw):Obj:={ cls:=.type (if b then "tuple_iterator" else "list_iterator"),data:=.fields #[.ref l,.int 0 0] }
def hz1(b1:Bool)(h:Heap)(l1:Aw):Heap:=h.push (itO b1 l1)
def hz2(b1 b2:Bool)(h:Heap)(l1 l2:Aw):Heap:=(hz1 b1 h l1).push (itO b2 l2)
def hz3 (b1 b2:Bool) (h:Heap) (l1 l2:Aw):Heap:=(hz2 b1 b2 h l1 l2).push { cls:=.type "tuple",data:=.seq #[.ref h.objs.size,.ref (hz1 b1 h l1).objs.size] }
def hz4 (b1 b2:Bool) (h:Heap) (l1 l2:Aw):Heap:=(hz3 b1 b2 h l1 l2).push { cls:=.type "tuple",data:=.seq #[.none,.none] }
def hz5(b1 b2:Bool)(h:Heap)(l1 l2:Aw):Heap:=(hz4 b1 b2 h l1 l2).push (zO .none false (hz2 b1 b2 h l1 l2).objs.size (hz3 b1 b2 h l1 l2).objs.size)
section
variable {prog:Aq}{w:Au}{A:Ar}{E:Ab}{s:As}
theorem jB{b:Bool}{l:Aw}{xs:Ah}(hl:SeqAt b s.heap l xs)(h:Q (.ref s.heap.objs.size) { s with heap:=s.heap.push (itO b l) }):wpAny (model prog w) A (pyIter (.ref l)) Q E s:=by
 cases b
 ·exact Qdz hl h
 ·exact Qeq hl h
end
theorem Xo(b1 b2:Bool)(l1 l2:Aw)(xs ys:Ah) :
  Meets (Builtin.«zip.__new__» ⟨[.type "zip",.ref l1,.ref l2],[]⟩) (fun _ R s=>SeqAt b1 s.heap l1 xs/\SeqAt b2 s.heap l2 ys /\
   R (.ok (.ret (.ref (hz4 b1 b2 s.heap l1 l2).objs.size))) { s with heap:=hz5 b1 b2 s.heap l1 l2 }) :=
 .of_wp fun prog w A R s h=>by
  obtain ⟨hp,g,d,tk,os⟩:=s;obtain ⟨D,G,h⟩:=h;have I:=sub_zip;have q:SeqAt b1 (Shared.heap ⟨hp,g,d,tk,os⟩) l1 xs:=D;have C:SeqAt b2 (Shared.heap ⟨hp.push (itO b1 l1),g,d,tk,os⟩) l2 ys:=G.mv fun o e=>Qab _ e
  wp_walk using jB q,jB C
  exact ⟨_,rfl,h⟩
section
variable {prog:Aq}{w:Au}{A:Ar}{E:Ab}{s:As}
theorem vX{b:Bool}{it l:Aw}(e:h.get? it=some (itO b l)):Yq b h it l 0:=by
 cases b
 ·exact (show h.IsListIter it l 0 from ⟨_,e,rfl,rfl⟩)
 ·exact (show h.IsTupleIter it l 0 from ⟨_,e,rfl,rfl⟩)
theorem call_new{b1 b2:Bool}{l1 l2:Aw}{xs ys:Ah}(q:SeqAt b1 s.heap l1 xs)(I:SeqAt b2 s.heap l2 ys)
  (h:∀h',St b1 b2 (s.heap.objs.size + 4) (s.heap.objs.size + 2) (s.heap.objs.size + 3) s.heap.objs.size (s.heap.objs.size + 1) l1 l2 0 0 h'->(∀c o,s.heap.get? c=some o->h'.get? c=some o)->Q (.ref (s.heap.objs.size + 4)) { s with heap:=h' }) :
  wpAny (model prog w) A (call (.type "zip") [.ref l1,.ref l2]) Q E s:=by
 refine Qhd F.called_zip (by decide) (F.typeCall_zip_2 _ _) (F.newCall_zip_2 _ _) (fun G=>F.args_object_init_3 G _ _) F.entry_zip_new (Xo b1 b2 l1 l2 xs ys) ⟨q,I,?_⟩;have J:(hz1 b1 s.heap l1).objs.size=s.heap.objs.size + 1:=Qbq ..;have C:(hz2 b1 b2 s.heap l1 l2).objs.size=s.heap.objs.size + 2:=by unfold hz2;rw [Qbq,J]
 have L:(hz3 b1 b2 s.heap l1 l2).objs.size=s.heap.objs.size + 3:=by unfold hz3;rw [Qbq,C]
 have S:(hz4 b1 b2 s.heap l1 l2).objs.size=s.heap.objs.size + 4:=by unfold hz4;rw [Qbq,L]
 have D:(hz5 b1 b2 s.heap l1 l2).get? (hz4 b1 b2 s.heap l1 l2).objs.size=some (zO .none false (hz2 b1 b2 s.heap l1 l2).objs.size (hz3 b1 b2 s.heap l1 l2).objs.size):=Qak _ rfl;have M:(hz5 b1 b2 s.heap l1 l2).get? (hz3 b1 b2 s.heap l1 l2).objs.size=some { cls:=.type "tuple",data:=.seq #[.none,.none] }:=Qab _ (Qak _ rfl);have N:(hz5 b1 b2 s.heap l1 l2).get? (hz2 b1 b2 s.heap l1 l2).objs.size=some { cls:=.type "tuple",data:=.seq #[.ref s.heap.objs.size,.ref (hz1 b1 s.heap l1).objs.size] }:=Qab _ (Qab _ (Qak _ rfl));have O:(hz5 b1 b2 s.heap l1 l2).get? (hz1 b1 s.heap l1).objs.size=some (itO b2 l2):=Qab _ (Qab _ (Qab _ (Qak _ rfl)));have Y:(hz5 b1 b2 s.heap l1 l2).get? s.heap.objs.size=some (itO b1 l1):=Qab _ (Qab _ (Qab _ (Qab _ (Qak _ rfl))));rw [C,L,S] at D;rw [J,C] at N;rw [L] at M;rw [J] at O;rw [S];exact ⟨⟨_,D,rfl⟩,h _ ⟨⟨_,_,D,.inl rfl⟩,N,⟨_,_,M⟩,vX Y,vX O⟩ fun c o x =>
  Qab _ (Qab _ (Qab _ (Qab _ (Qab _ x))))⟩
theorem St.other{b1 b2:Bool}{z i1 i2 l1 l2:Aw}{h':Heap}(D:Ap z f T i1 i2)(S:St b1 b2 z f T i1 i2 l1 l2 i n h){f0:Av}(q:h'.get? z=some (zO f0 j f T))(hf:F0 f0)(hs:Heap.SameBut z h h'):St b1 b2 z f T i1 i2 l1 l2 i n h' :=
 ⟨⟨f0,j,q,hf⟩,hs.extBut _ _ D.TIz S.I,(let ⟨a,b,e⟩:=S.O;⟨a,b,hs.extBut _ _ D.TOz e⟩),S.n1.mv fun o e=>hs.extBut _ _ D.i1z e,S.n2.mv fun o e=>hs.extBut _ _ D.i2z e⟩
theorem go_any{b1 b2:Bool}{z i1 i2 l1 l2:Aw}{Q:Unit->Shared->Prop}(D:Ap z a f i1 i2)(S:St b1 b2 z a f i1 i2 l1 l2 i Z s.heap)
  (h:∀h',St b1 b2 z a f i1 i2 l1 l2 i Z h'->Heap.SameBut z s.heap h'->Q () { s with heap:=h' }):wpAny (model prog w) A (letOwnedTupleGo e (.ref z) (.ref T)) Q E s:=by
 have G:Q () s:=h s.heap S ⟨rfl,fun _ _=>rfl⟩;obtain ⟨f0,J,I,hf⟩:=id S.z;have tup:wpAny (model prog w) A (do
   let o <-load z
   match o.cls,o.data with
   | .type n,.fields vs =>
    if ["enumerate","zip","dict_itemiterator","dict_reverseitemiterator","odict_iterator","itertools.zip_longest","itertools.pairwise"].contains n && vs[0]? == some (rawInt T) then
     rule "for.unpacks-the-owned-tuple"
     updateField z 0 .none
   | _,_=>pure ()) Q E s:=by
  refine Qaa (wpAny_load I ?_);show wpAny _ _ (if (["enumerate","zip","dict_itemiterator","dict_reverseitemiterator","odict_iterator","itertools.zip_longest","itertools.pairwise"].contains "zip" && (#[f0,.bool J,.bool false,.ref a,.ref f]:Ah)[0]? == some (rawInt T))=true then _ else _) Q E s
  split
  ·refine Qaa (Qdk ?_)
   exact Qbp I (by simp) fun h' C q=>h h' (S.other D (f0:=.none) C (.inl rfl) q) q
  ·exact Qae G
 cases e <;> first
  | exact tup
  | exact Qae G
end
end ZpT
namespace L2
open PySem PySem.Spec PyProof.Rows
open ZpT (St Ap Of SeqAt Yq)
def SqB(K:Af):Bool->Hp->Addr->List V->Prop
 | true,H,a,xs=>SqT K H a xs
 | false,H,a,xs=>SqL K H a xs
theorem SqB.t{xs:A2}(h:H a=some (.tup xs)):SqB K true H a xs:=(SqT.of h:SqT K H a xs)
theorem SqB.l{xs:A2}(h:H a=some (.lst xs)):SqB K false H a xs:=(SqL.of h:SqL K H a xs)
theorem Inv.sqB{X:Cx}{σ:L2.St}{xs:A2}{b:Bool}(I:Inv X m σ H s)(h:SqB X.K b H a xs):∃q:Ag,Vals xs q/\SeqAt b s.heap a q.toArray/\xs.length<=sizeLine:=by
 cases b
 ·obtain ⟨q,C,p,D⟩:=I.list (show SqL X.K H a xs from h)
  obtain ⟨o,n,e,hc,_,hd⟩:=p;exact ⟨q,C,(show s.heap.IsList a q.toArray from ⟨o,e,hc,n,hd⟩),D⟩
 ·obtain ⟨q,C,p,D⟩:=I.tuple (show SqT X.K H a xs from h)
  exact ⟨q,C,(show s.heap.IsTuple a q.toArray from p),D⟩
theorem Inv.sqB_inj{X:Cx}{σ:L2.St}{xs ys:A2}{b:Bool}(I:Inv X m σ H s)(h:SqB X.K b H a xs)(h':SqB X.K b H a ys):xs=ys:=by
 cases b
 ·exact I.list_inj h h'
 ·exact I.tuple_inj h h'
def Itz(K:Af)(b1 b2:Bool)(a1 a2:Aw):It :=
  ⟨fun i H=>∃xs ys x y,SqB K b1 H a1 xs/\SqB K b2 H a2 ys/\xs[i]?=some x/\ys[i]?=some y,
   fun i H v H'=>∃p,H p=none/\v=.ref p/\∀xs ys x y,SqB K b1 H a1 xs->SqB K b2 H a2 ys->xs[i]?=some x->ys[i]?=some y->H'=upd H p (.tup [x,y]),
   fun i H=>∃xs ys,SqB K b1 H a1 xs/\SqB K b2 H a2 ys/\(xs.length<=i\/ys.length<=i)⟩
theorem Zcx{tg:Ax}{b1 b2:Bool}{z i2 a1 a2:Aw}(D:Ap z a f T i2)(D1:Of z f T i2 a1)(D2:Of z f T i2 a2) :
  Turn P w K tg (Itz K b1 b2 a1 a2) [z,a,f,T,i2] z (fun i h=>ZpT.St b1 b2 z a f T i2 a1 a2 i i h) where
 mem:=by simp
 obj:=fun i h st b hb=>by
  obtain ⟨⟨f0,fb,L,hf⟩,G,⟨x,y,C⟩,Z,N⟩:=st;simp only [Qam,Qa7,Qdl] at hb;rcases hb with rfl | rfl | rfl | rfl | rfl
  ·exact ⟨_,L,fun v q=>by
    have q':Data.fields _=Data.cell v:=q;cases q'⟩
  ·grind
  ·grind
  ·exact Z.ob
  ·exact N.ob
 keep:=fun i h h' st k=>by
  obtain ⟨⟨f0,fb,L,hf⟩,G,⟨x,y,C⟩,Z,N⟩:=st;exact ⟨⟨f0,fb,k z (by simp) _ L,hf⟩,k a (by simp) _ G,⟨x,y,k f (by simp) _ C⟩,Z.mv fun o e=>k T (by simp) o e,N.mv fun o e=>k i2 (by simp) o e⟩
 item:=by
  intro X hP hw hK hc i pins s σ H E I hf st hg;subst hP hw hK;obtain ⟨xs,ys,x,y,q1,q2,hx,hy⟩:=hg;obtain ⟨S,r1,p1,z1⟩:=I.sqB q1;obtain ⟨O,r2,p2,z2⟩:=I.sqB q2;obtain ⟨u1,hu1,ru1⟩:=r1.get hx;obtain ⟨u2,hu2,ru2⟩:=r2.get hy;have olt:∀b∈[z,a,f,T,i2],b < s.heap.objs.size:=fun b hb=>by
   obtain ⟨⟨f0,fb,L,hf⟩,G,⟨x,y,C⟩,Z,N⟩:=st;simp only [Qam,Qa7,Qdl] at hb;rcases hb with rfl | rfl | rfl | rfl | rfl
   ·exact Qan L
   ·exact Qan G
   ·exact Qan C
   ·obtain ⟨o,ho,_⟩:=Z.ob
    exact Qan ho
   ·obtain ⟨o,ho,_⟩:=N.ob
    exact Qan ho
  refine ZpT.next_item D D1 D2 st p1 p2 (x:=u1) (y:=u2) (by simpa using hu1) (by simpa using hu2) fun h' st' hT hk=>?_;refine ⟨_,rfl,ZpT.go_any (s:={ s with heap:=h' }) D st' fun h2 st2 hs2=>?_⟩;have J:Heap.SameBut z h' h2:=hs2;have I1:Inv X pins σ (upd H s.heap.objs.size (.tup [x,y])) { s with heap:=s.heap.push { cls:=.type "tuple",data:=.seq #[u1,u2] },toks:=s.toks } :=
   I.laid (fun b o y=>Qab _ y) (Qag _) ⟨by show 2<=sizeLine;decide,[u1,u2],.cons ru1 (.cons ru2 .nil),y8.new _ _⟩
  have fp':∀b∈[z,a,f,T,i2],GC X pins (upd H s.heap.objs.size (.tup [x,y])) b:=fun b hb=>by
   obtain ⟨a0,ar⟩:=hf b hb;exact ⟨by rw [Zj (Qbd (olt b hb))];exact a0,ar⟩
  have I2:Inv X pins σ (upd H s.heap.objs.size (.tup [x,y])) { s with heap:=h2,toks:=s.toks }:=by
   refine XB (s:={ s with heap:=s.heap.push { cls:=.type "tuple",data:=.seq #[u1,u2] },toks:=s.toks }) I1 fp' fun b o hb q=>?_;have M:b≠z:=fun e=>hb (by simp [e]);rcases Qe7 q with ⟨rfl,rfl⟩ | q
   ·exact (J.2 _ M).trans hT
   ·exact (J.2 b M).trans (hk b o M (fun e=>hb (by simp [e])) (fun e=>hb (by simp [e])) (fun e=>hb (by simp [e])) q)
  refine ⟨.ref s.heap.objs.size,_,I2,rfl,⟨_,I.hok.fresh (Qag _),rfl,fun xs' ys' x' y' q1' q2' Y hy'=>?_⟩,st2,fun b hb=>(fp' b hb).1⟩;rw [I.sqB_inj q1' q1,hx] at Y;rw [I.sqB_inj q2' q2,hy] at hy';cases Y;cases hy'
  rfl
 done:=by
  intro X hP hw hK hc i pins s σ H E I hf st hg;subst hP hw hK;obtain ⟨xs,ys,q1,q2,hx⟩:=hg;obtain ⟨S,r1,p1,z1⟩:=I.sqB q1;obtain ⟨O,r2,p2,z2⟩:=I.sqB q2;have e1:=r1.length;have e2:=r2.length;refine ZpT.next_end (I.ok.hd hc) D D1 D2 st p1 p2 (by simp;lia) fun h' hk=>⟨rfl,?_⟩;exact XB (t':=s.toks) I hf fun b o hb q=>hk b o (fun e=>hb (by simp [e])) (fun e=>hb (by simp [e])) (fun e=>hb (by simp [e])) (fun e=>hb (by simp [e])) q
 self:=fun _ _ _ _ _ st h=>let ⟨_,_,L,_⟩:=st.z;ZpT.iter_self L h
theorem bt_zip:bootBuiltins "zip" = some (.type "zip"):=by decide +kernel
end L2
namespace L2
open PySem PySem.Spec PyProof.Rows
open ZpT (Ap Of SeqAt Yq)
section
variable {X:Cx}{A:Ar}{b1 b2:Bool}{z TI TO i1 i2 a1 a2 S:Aw}{xs ys:A2}{pins:Ac}{σ:St}{R:Result->Shared->Prop}
end
end L2
namespace L2
open PySem PySem.Spec PyProof.Rows
open ZpT (Ap Of SeqAt Yq)
def zfp(n:Nat):List Aw:=[n + 4,n + 2,n + 3,n,n + 1]
theorem zap(n:Nat):Ap (n + 4) (n + 2) (n + 3) n (n + 1):=by constructor <;> (show @Ne Nat _ _;lia)
theorem zof{l:Nat}(h:l < n):Of (n + 4) (n + 3) n (n + 1) l:=by constructor <;> (show @Ne Nat _ _;lia)
section
variable {X:Cx}{e1 e2:Ax}{t:TA}{p pos:Pos}{b1 b2:Bool}
theorem Zeq{b:Bool}{l:Aw}{xs:Ah}(q:SeqAt b h l xs):l < h.objs.size:=by
 cases b
 ·obtain ⟨o,ho,_⟩:=(show h.IsList l xs from q)
  exact Qan ho
 ·obtain ⟨o,ho,_⟩:=(show h.IsTuple l xs from q)
  exact Qan ho
theorem Zcy     {RR:Aw->Addr->List V->List V->Hp->Prop}  (hg:Gl X "zip") (hm:X.mg "zip" = none) (ha:QA X [e1,e2] t) (hp:[e1,e2].all ZV=true) (I:Inv X m d H s)
  (h:t d H fun vs H1=>∃a1 a2 xs ys,vs=[.ref a1,.ref a2]/\SqB X.K b1 H1 a1 xs/\SqB X.K b2 H1 a2 ys/\RR a1 a2 xs ys H1)
  (fin:∀a1 a2 xs ys n H1 q,Inv X m d H1 q->SqB X.K b1 H1 a1 xs->SqB X.K b2 H1 a2 ys->RR a1 a2 xs ys H1->a1 < n->a2 < n->ZpT.St b1 b2 (n + 4) (n + 2) (n + 3) n (n + 1) a1 a2 0 0 q.heap->(∀b∈zfp n,GC X m H1 b)->Q (.ref (n + 4)) q) :
  wpAny (model X.prog X.w) X.A (eval (.Call (.Name "zip" p) [e1,e2] [] pos) X.env) Q X.xe s:=by
 rw [Qcr,Qbz] at hp;refine Qda (WE I hg hm bt_zip ?_);refine Qcf (thn (ha.out pos m s d H _ I h) fun us q ⟨vs,H1,C,S,G⟩=>?_) (Zq hp.1) (YV hp.2);obtain ⟨a1,a2,xs,ys,rfl,G,N,r⟩:=G;obtain ⟨u1,Z,rfl,L,J⟩:=Zcw S;cases L;cases J;obtain ⟨O,Y,p1,z1⟩:=C.sqB G;obtain ⟨M,v2,p2,z2⟩:=C.sqB N;refine ZpT.call_new p1 p2 fun h' st hk=>?_;refine fin a1 a2 xs ys q.heap.objs.size H1 _ (C.kept (t':=q.toks) hk) G N r (Zeq p1) (Zeq p2) st fun b hb=>?_;have D:q.heap.objs.size<=b:=by
  simp only [zfp,Qam,Qa7,Qdl] at hb;rcases hb with rfl | rfl | rfl | rfl | rfl
  ·exact Qfc _ _
  ·exact Qfc _ _
  ·exact Qfc _ _
  ·exact Qag _
  ·exact Qfc _ _
 exact C.fpOk D (C.hok.fresh D)
def iZip2(K:Af)(b1 b2:Bool)(t:TA):TI:=fun σ H R=>t σ H fun vs H1=>∃a1 a2 xs ys,vs=[.ref a1,.ref a2]/\SqB K b1 H1 a1 xs/\SqB K b2 H1 a2 ys/\R (Itz K b1 b2 a1 a2) H1
theorem qi_zip  (hg:Gl X "zip") (hm:X.mg "zip" = none) (ha:QA X [e1,e2] t) (hp:[e1,e2].all ZV=true:=by rfl):QI X e (.Call (.Name "zip" p) [e1,e2] [] pos) (iZip2 X.K b1 b2 t):=by
 refine ⟨fun pins s σ H R I h=>?_⟩;refine Zcy (b1:=b1) (b2:=b2) (RR:=fun a1 a2 _ _ H1=>R (Itz X.K b1 b2 a1 a2) H1) hg hm ha hp I h fun a1 a2 xs ys n H1 G q J L r l1 l2 st hf=>?_;obtain ⟨f0,D,C,_⟩:=id st.z;exact ZpT.iter_self C ⟨n + 4,zfp n,_,_,H1,rfl,q,Zcx (zap n) (zof l1) (zof l2),st,hf,r⟩
end
end L2
namespace L2
open PySem PySem.Spec PyProof.Rows
structure Two(scope:Scope)(x x2:Str)(ys:Ai):Prop where
 own:scope.names.lookup x2=some .local
 nd:(x::x2::ys).Nodup
def yQ(is:Aj)(σ:St)(v w:Option V):St:=v::w::is.map fun i=>(σ[i]?).getD none
def uN(K:Af)(is:Aj)(tc:TT)(te:TE)(σ:St)(Q:VK)(J:It)(H1:Hp):Prop:=∃W:Nat->Nat->List V->Hp->Prop,(∃m,W 0 m [] H1)/\∀i m zs H,W i m zs H ->
 (J.stop i H/\zs.length<=sizeLine/\∀p,H p=none->Q (.ref p) (upd H p (.lst zs))) \/
 (J.go i H/\zs.length<=sizeLine/\∀x H',J.yld i H x H'->∃a C D,x=.ref a/\SqT K H' a [C,D]/\tc (yQ is σ (some C) (some D)) H' fun b H2=>if b=true then te (yQ is σ (some C) (some D)) H2 fun y G=>∃q,q < m/\W (i + 1) q (zs++[y]) G else ∃q,q < m/\W (i + 1) q zs H2)
def tComp2(K:Af)(wi:TI)(is:Aj)(tc:TT)(te:TE):TE:=fun σ H Q=>wi σ H (uN K is tc te σ Q)
section
variable {X:Cx}{S scope:Scope}{N:Ai}{x x2:Str}{ys:Ai}{is:Aj}{pins:Ac}{σ:St}{H₂:Hp}{s₂:As}{fp:List Aw}{elt iter:Ax}{px px2 pp pos:Pos}{pq:Nat}{ifs:An}{tc:TT}{te:TE}{wi:TI}
theorem yR(K:ZR S scope N x ys is)(L:Two scope x x2 ys)(D:X.env.scope=S)(I:Inv X pins σ H₂ s₂)(G:s₂.heap.objs.size<=a)(q:∀b∈fp,GC X pins H₂ b)(C:∀b∈fp,b < s₂.heap.objs.size):(cxC X (x::x2::ys) scope a s₂ H₂ fp).Ok where
 mod:=I.ok.mod
 kind:=K.kind
 glob:=I.ok.glob
 blt:=I.ok.blt
 above:=G
 inj:=fun y z c h1 h2=>I.ok.inj y z c (K.cl D I.ok y c h1) (K.cl D I.ok z c h2)
 has:=fun y J=>Xd (Wj (env:=X.env) K.cell J)
 cab:=fun y c h=>by cases h
 hd:=I.ok.hd
 frames:=I.ok.frames
 stk:=.inl rfl
 exf:=fun b hb=>⟨fun e=>absurd (Qbb (C b hb) (Qaz G (Qgp (Eq.symm e)))) (Qbw _),fun y c h=>(q b hb).2.2.2.2.1 y c (K.cl D I.ok y c h)⟩
 bs:=I.bs
 bsz:=Qaz I.ok.bsz I.sz
 noex:=fun b o e hb=>by
  rcases (q b hb).2.2.2.1 with z | z
  ·exact I.ok.noex b o e z
  ·exact absurd (Qbb (Qan e) (Qaz I.ok.bsz z)) (Qbw _)
 exfs:=fun b hb z=>by
  rcases Qam.mp (I.stkSub b z) with e | e
  ·exact (q b hb).2.1 e
  ·exact (q b hb).2.2.1 e
 funs:=I.stack
 frf:=I.stkFree
theorem Zcz(K:ZR S scope N x ys is)(K2:Two scope x x2 ys)(G:X.env.scope=S)(hN:X.N=N)(hk:S.kind=.function)(I:Inv X pins σ H₂ s₂){C:Heap}{tk:Nat}(hC:s₂.heap.objs.size<=a)(hD:s₂.heap.objs.size<=f)(hDC:f≠a)
    (hfp:∀b∈fp,GC X pins H₂ b) (Z:∀b∈fp,b < s₂.heap.objs.size) (D:∀b o,s₂.heap.get? b=some o->C.get? b=some o) (hn:C.Ns a fun _=>none) (L:C.get? f=some J) (hod:∀v,J.data≠.cell v) :
    Inv (cxC X (x::x2::ys) scope a s₂ H₂ fp) [(f,J)] (yQ is σ none none) H₂ { s₂ with heap:=C,toks:=tk }:=by
  have ok:=yR K K2 G I hC hfp Z;refine ⟨ok,rfl,I.bare,Un.kept D,⟨_,hn,fun i y v h1 h2 h3=>?_⟩,fun y c h=>?_,I.hok.fresh hC,fun y c h=>I.freeC y c (K.cl G I.ok y c h),fun p hp=>?_,I.hok.kept D,?_⟩
  · cases i with
    | zero =>
      have q:some (none:Option V)=some (some v):=h2;cases q
    | succ i =>
     cases i with
     | zero =>
      have q:some (none:Option V)=some (some v):=h2;cases q
     | succ i =>
      have Y:ys[i]?=some y:=h1;have q:(is.map fun i=>(σ[i]?).getD none)[i]?=some (some v):=h2;rw [Qai] at q;cases hj:is[i]? with
      | none=>rw [hj] at q;cases q
      | some j =>
        have hσ:σ[j]?=some (some v):=by
          grind
        have hz:(y,j)∈ys.zip is:=by
          obtain ⟨a1,e1⟩:=Qaf.mp Y;obtain ⟨a2,e2⟩:=Qaf.mp hj;rw [<-e1,<-e2,<-Qfb (h:=by rw [Qd3];lia)];exact Qbm _
        obtain ⟨v1,O⟩:=K.vis _ hz;have kc:X.env.kindOf y=some .cell\/X.env.kindOf y=some .free:=by show X.env.scope.names.lookup y=_\/X.env.scope.names.lookup y=_;rw [G];exact K.free _ (G1 O) rfl
        obtain ⟨m,hm,hl⟩:=I.loc;obtain ⟨u,r,l⟩:=hl j y v (by rw [hN];exact v1) hσ (.inr kc);refine ⟨u,r,.inr ?_⟩;rcases l with ⟨l1,_⟩ | ⟨_,c,l2,l3⟩
        · grind
        · obtain ⟨c',M⟩:=Xd (cells:=X.env.cells) (acc:=[]) O
          have e:c'=c:=by have:=K.cl G I.ok y c' M;rw [l2] at this;exact (Option.some.inj this).symm
          subst e;refine ⟨kc.imp (Wi (scope:=scope) (by rw [G];exact hk) O) (XO O),c',M,?_⟩;obtain ⟨o,ho,hd⟩:=l3;exact ⟨o,D _ _ ho,hd⟩
  · obtain ⟨v,o,ho,hd⟩:=I.cell y c (K.cl G I.ok y c h)
    exact ⟨v,o,D _ _ ho,hd⟩
  · have e:p=(f,J):=by simpa [cxC] using hp
    subst e;refine ⟨L,I.hok.fresh hD,hDC,fun z=>?_,hod⟩;obtain ⟨_,o,ho,_⟩:=ok.funs.mem z;exact absurd (Qbb (Qan ho) hD) (Qbw _)
  · show (yQ is σ none none).length=(x::x2::ys).length
    unfold yQ;rw [Qax,Qax,Qac,Qax,Qax,K.len]
theorem yS{J:It}{it:Aw}{tn:Nat->Heap->Prop}{Q:VK}{RR:Av->Addr->Result->Shared->Prop}{E:Ab}(K:ZR S scope N x ys is)(K2:Two scope x x2 ys)(hX:X.env.scope=S)(hN:X.N=N)(hk:S.kind=.function)(hc:X.calm=true)
  (hf:∀C s₂ H₂ ex,QF (cxC X (x::x2::ys) scope C s₂ H₂ ex) ifs tc) (he:∀C s₂ H₂ ex,QE (cxC X (x::x2::ys) scope C s₂ H₂ ex) elt te)
  (I:Inv X pins σ H₂ s₂) (T:Turn X.prog X.w X.K (.Tuple [.Name x px,.Name x2 px2] pq pp) J fp it tn) (st:tn 0 s₂.heap) (hfp:∀b∈fp,GC X pins H₂ b)
  {W:Nat->Nat->List V->Hp->Prop}  (w0:W 0 Z [] H₂)
  (turn:∀i m zs H,W i m zs H->(J.stop i H/\zs.length<=sizeLine/\∀p,H p=none->Q (.ref p) (upd H p (.lst zs))) \/
   (J.go i H/\zs.length<=sizeLine/\∀x H',J.yld i H x H'->∃a v1 v2,x=.ref a/\SqT X.K H' a [v1,v2]/\tc (yQ is σ (some v1) (some v2)) H' fun b H2=>if b=true then te (yQ is σ (some v1) (some v2)) H2 fun y H3=>∃O,O < m/\W (i + 1) O (zs++[y]) H3 else ∃O,O < m/\W (i + 1) O zs H2))
  (fin:∀D C s' H' O,Inv X pins σ H' s'->GC X pins H' C->s'.heap.Ns C O->Q (.ref D) H'->RR (.ref D) C (.ok .next) s') :
  wpAny (model X.prog X.w) X.A (newList []) (fun acc M=>wpAny (model X.prog X.w) X.A (newFunctionEnv scope X.env.globals (Gf X.env.cells scope.names []) [] X.env.qual none .none (some X.env)) (fun cenv s₄ =>
   codeAny (model X.prog X.w) X.A (.compStart (.ListComp elt [⟨(.Tuple [.Name x px,.Name x2 px2] pq pp),iter,ifs,0⟩] scope pos) 0 (.ref it) acc { cenv with scope:=relabel scope X.env }) (RR acc cenv.locals) s₄) E M) E s₂:=by
 refine Qbh (Qf7 K.cell (by intro y hy;simp at hy) (fun h₁ Y L=>?_) K.kind);generalize hH2:s₂.heap.push { cls:=.type "list",dict:=none,data:=.seq ([]:Ag).toArray }=H2 at Y L ⊢;have hCs:H2.objs.size=s₂.heap.objs.size + 1:=by rw [<-hH2,Qbq]
 have hDC:s₂.heap.objs.size≠H2.objs.size:=by rw [hCs];exact Qbd (Qdg _)
 have hC:s₂.heap.objs.size<=H2.objs.size:=by rw [hCs];exact Qdu _
 have hlt:∀b∈fp,b < s₂.heap.objs.size:=fun b hb=>by obtain ⟨o,e,_⟩:=T.obj 0 _ st b hb;exact Qan e
 have old:∀b o,s₂.heap.get? b=some o->h₁.get? b=some o:=fun b o e=>L.extBut b o (by rw [hCs];exact Qbd (Qcg (Qan e))) (Qab _ (hH2 ▸ Qab _ e));have hacc:h₁.get? s₂.heap.objs.size=some { cls:=.type "list",data:=.seq ([]:Ag).toArray 0 }:=L.extBut _ _ hDC (Qab _ (hH2 ▸ Qak _ rfl));have st₁:tn 0 h₁:=T.keep _ _ _ st fun b _ o e=>old b o e;have fpC:∀{H':Hp} {pl:Ac},(∀p∈pl,∀b∈fp,p.1≠b)->(∀b∈fp,H' b=none)->∀b∈fp,GC (cxC X (x::x2::ys) scope H2.objs.size s₂ H₂ fp) pl H' b:=fun {H' pl} hpl hn b hb=>by
  have ok:=yR K K2 hX I hC hfp hlt;exact ⟨hn b hb,(ok.exf b hb).1,ok.exfs b hb,.inl hb,(ok.exf b hb).2,fun p hp=>hpl p hp b hb⟩
 have Dfp:∀(o:Obj),∀p∈[(s₂.heap.objs.size,o)],∀b∈fp,p.1≠b:=fun o p hp b hb e=>by
  have e1:p=(s₂.heap.objs.size,o):=by simpa using hp
  subst e1;exact absurd (hlt b hb) (by rw [<-e];exact Qbw _)
 have loop:∀M:As,M={ s₂ with heap:=h₁,toks:=s₂.toks + ([]:List (Str × Av)).length } ->
   codeAny (model X.prog X.w) X.A (.compLoop (.ListComp elt [⟨(.Tuple [.Name x px,.Name x2 px2] pq pp),iter,ifs,0⟩] scope pos) 0 (.ref it) (.ref s₂.heap.objs.size) (compEnvC scope (Gf X.env.cells scope.names []) H2.objs.size X.env))
    (RR (.ref s₂.heap.objs.size) H2.objs.size) M:=by
  rintro M rfl;have I0:=Zcz K K2 hX hN hk I (tk:=s₂.toks + ([]:List (Str × Av)).length) hC (Qag _) hDC hfp hlt old Y hacc (fun v z=>by cases z);refine jv (fun n s'=>∃(i:Nat) (w1 w2:Option V) (zs:A2) (G:Ag) (k:Nat) (H':Hp),Inv (cxC X (x::x2::ys) scope H2.objs.size s₂ H₂ fp) [(s₂.heap.objs.size,{ cls:=.type "list",data:=.seq G.toArray k })] (yQ is σ w1 w2) H' s' /\
   Vals zs G/\tn i s'.heap/\(∀b∈fp,H' b=none)/\W i n zs H') ?_ Z ⟨0,none,none,[],[],0,H₂,I0,.nil,st₁,fun b hb=>(hfp b hb).1,w0⟩
  rintro n s3 ⟨i,w1,w2,zs,G,k,H3,I3,rv,st3,fr3,w3⟩;rcases turn i n zs H3 w3 with ⟨stop,hz,q⟩ | ⟨go,hz,step⟩
  ·refine thn (T.done (cxC X (x::x2::ys) scope H2.objs.size s₂ H₂ fp) rfl rfl rfl hc i _ s3 _ H3 _ I3 (fpC (Dfp _) fr3) st3 stop) fun r s4 ⟨hr,I4⟩=>?_
   subst hr;have hD4:=I4.pin _ (Qay _ (Qat.mpr rfl));have I5:=uh I I4 (Qag _) hD4.2.1 hfp hz rv hD4.1;obtain ⟨O,hm',_⟩:=I4.loc;refine fin _ _ s4 _ O I5 ?_ hm' (q _ hD4.2.1);refine I.fpOk hC ?_;rw [Zj (Qdo hDC)];exact I4.free
  ·refine thn (T.item (cxC X (x::x2::ys) scope H2.objs.size s₂ H₂ fp) rfl rfl rfl hc i _ s3 _ H3 _ I3 (fpC (Dfp _) fr3) st3 go) fun r s4 ⟨u,hr,h4⟩=>?_
   subst hr;refine thn h4 fun _ s5 ⟨xv,H5,I5,r5,y5,st5,fr5⟩=>?_;have I5':=I5.pinned (fpC (Dfp _) fr5) (T.obj _ _ st5);have pg:PG (cxC X (x::x2::ys) scope H2.objs.size s₂ H₂ fp) (.Tuple [.Name x px,.Name x2 px2] pq pp) (Zid X.K 2 (GB (WN 0) (GB (WN 1) Zic))):=Zee hc (Gy (za K2.nd rfl (.inl (Qdx K.own)) (.inr (Qdx K.own))) (Gy (za K2.nd rfl (.inl (Qdx K2.own)) (.inr (Qdx K2.own))) gB));obtain ⟨av,v1,v2,exv,sq5,stp⟩:=step xv H5 y5;subst exv;refine thn (pg _ s5 _ H5 (.ref av) u (fun σ2 H2=>σ2=yQ is σ (some v1) (some v2)/\H2=H5) I5' r5 ⟨av,[v1,v2],rfl,sq5,rfl,_,_,rfl,_,_,rfl,rfl,rfl,rfl⟩) fun _ s6 ⟨σ6,H6,I6,e6,e6'⟩=>?_;subst e6;subst e6';have back:∀{s7:As} {H7:Hp},Inv (cxC X (x::x2::ys) scope H2.objs.size s₂ H₂ fp) ([(s₂.heap.objs.size,{ cls:=.type "list",data:=.seq G.toArray k })]++x4 fp s5.heap) (yQ is σ (some v1) (some v2)) H7 s7 ->
     tn (i + 1) s7.heap/\(∀b∈fp,H7 b=none)/\s7.heap.get? s₂.heap.objs.size=some { cls:=.type "list",data:=.seq G.toArray k }/\H7 s₂.heap.objs.size=none:=fun {s7 H7} I7=>by
    refine ⟨T.keep _ _ _ st5 fun b hb o e=>(I7.pin (b,o) (Qay _ (Qay _ (Xg hb e)))).1,fun b hb=>?_,?_,?_⟩
    ·obtain ⟨o,e,d⟩:=T.obj _ _ st5 b hb
     exact (I7.pin (b,o) (Qay _ (Qay _ (Xg hb e)))).2.1
    ·exact (I7.pin (s₂.heap.objs.size,{ cls:=.type "list",data:=.seq G.toArray k }) (Qay _ (Qde _ (Qat.mpr rfl)))).1
    ·exact (I7.pin (s₂.heap.objs.size,{ cls:=.type "list",data:=.seq G.toArray k }) (Qay _ (Qde _ (Qat.mpr rfl)))).2.1
   refine thn ((hf _ _ _ _).out _ s6 _ H6 _ I6 stp) fun b s7 ⟨H7,I7,q7⟩=>?_;cases b with
   | false =>
    have q7':∃O,O < n/\W (i + 1) O zs H7:=by simpa using q7
    obtain ⟨O,hm',w7⟩:=q7';obtain ⟨b1,b2,b3,b4⟩:=back I7;exact ⟨O,hm',i + 1,some v1,some v2,zs,G,k,H7,I7.unpinned,rv,b1,b2,w7⟩
   | true =>
    have q7':=q7;refine thn ((he _ _ _ _).out _ s7 _ H7 _ I7 q7') fun yv s8 ⟨y,H8,I8,r8,O,hm',w8⟩=>?_;obtain ⟨b1,b2,b3,b4⟩:=back I8;refine append_at b3 (fun h9 sb9 e9=>?_) (by rw [Qa2,<-rv.length];exact hz);have ok:=yR K K2 hX I hC hfp hlt;have I8':Inv (cxC X (x::x2::ys) scope H2.objs.size s₂ H₂ fp) [] (yQ is σ (some v1) (some v2)) H8 s8:=I8.pins_of fun p hp=>by cases hp
    have I9:Inv (cxC X (x::x2::ys) scope H2.objs.size s₂ H₂ fp) [] (yQ is σ (some v1) (some v2)) H8 { s8 with heap:=h9 }:=I8'.turned (t':=s8.toks) (it:=s₂.heap.objs.size) (fun b o hb e=>(sb9.2 b hb).trans e) b4 hDC (.inr (Qag _))
     (fun y c h z=>by
      obtain ⟨v,o,ho,_⟩:=I.cell y c (K.cl hX I.ok y c h);have:=Qan ho;rw [z] at this;exact Qbw _ this) (fun p hp=>by cases hp)
    refine ⟨O,hm',i + 1,some v1,some v2,zs++[y],G++[yv],k + 1,H8,?_,rv.append (.cons r8 .nil),T.keep _ _ _ b1 fun b hb o e=>(sb9.2 b fun z=>absurd (hlt b hb) (by rw [z];exact Qbw _)).trans e,b2,w8⟩;refine I9.pins_of fun p hp=>?_;have e1:p=(s₂.heap.objs.size,{ cls:=.type "list",data:=.seq (G++[yv]).toArray (k + 1) }):=by simpa using hp
    subst e1;refine ⟨by rw [e9,List.push_toArray],b4,hDC,fun z=>?_,fun v z=>by cases z⟩;obtain ⟨_,o,ho,_⟩:=ok.funs.mem z;exact absurd (Qan ho) (Qbw _)
 exact codeAny_compStart_list (loop _ rfl) (T.self _ 0 _ _ _ st₁ (loop _ rfl))
theorem vY(K:ZR S scope N x ys is)(K2:Two scope x x2 ys)(hi:QI X (.Tuple [.Name x px,.Name x2 px2] pq pp) iter wi)(hf:∀C s₂ H₂ ex,QF (cxC X (x::x2::ys) scope C s₂ H₂ ex) ifs tc)(he:∀C s₂ H₂ ex,QE (cxC X (x::x2::ys) scope C s₂ H₂ ex) elt te)
  (hc:X.calm=true:=by rfl) (Y:X.env.scope=S:=by rfl) (hN:X.N=N:=by rfl) (hk:S.kind=.function:=by rfl) (hs:∀v,foldedSetIterable iter X.env v=pure v:=by intro _;rfl) :
  QE X (.ListComp elt [⟨(.Tuple [.Name x px,.Name x2 px2] pq pp),iter,ifs,0⟩] scope pos) (tComp2 X.K wi is tc te):=by
 refine ⟨fun pins s σ H Q I h=>?_⟩;refine Qff (use:=none) rfl hs (X9 (K.cellOf' Y I.ok)) K.kind K.names (thn (hi.out pins s σ H _ I h) fun v s1 h1=>thn h1 fun itv s2 h2=>?_);obtain ⟨it,fp,tn,J,H2,rfl,I2,T,M,Z,W,⟨m0,w0⟩,G⟩:=h2;refine yS (RR:=fun acc C=>compPost (model X.prog X.w) X.A X.xe none (EP X pins σ Q) acc C) K K2 Y hN hk hc hf he I2 T M Z w0 G ?_;intro D C s' H' m' I' fC O q;obtain ⟨f0,f1,f3,f4,f5,f6⟩:=fC;exact ⟨m',O,fun h' L=>⟨.ref D,H',I'.turned (t':=s'.toks) (fun b o hb e=>(L.2 b hb).trans e) f0 f1 f4 f5 f6,rfl,q⟩⟩
end
end L2
namespace L2
open PySem PySem.Spec PyProof.Rows PySem.W
section
variable {prog:Aq}{w:Au}{A:Ar}{E:Ab}{s:As}
end
section
variable {prog:Aq}{w:Au}{h:Heap}
end
section
variable {X:Cx}
end
end L2
namespace L2
open PySem PySem.Spec PyProof.Rows
section
variable {prog:Aq}{w:Au}{A:Ar}{E:Ab}{s:As}{c it:Aw}{oc:Obj}{es:Array DictEntry}{ep i:Nat}
end
section
variable {X:Cx}
def PP1(X:Cx)(pos:Pos)(k v:Ax)(tk tv:TE):Prop:=∀pins s σ H (R:V->V->Hp->Prop),Inv X pins σ H s->(tk σ H fun x H1=>tv σ H1 fun y H2=>R x y H2) ->
 wpAny (model X.prog X.w) X.A (evalPairs (pairTrees [some k] [v] X.env pos)) (fun C q=>∃x y u r H2,C=[(u,r)]/\Inv X pins σ H2 q/\RelV x u/\RelV y r/\R x y H2) X.xe s
theorem pp1{k v:Ax}{tk:TE}(hk:QE X k tk)(hv:QE X v c):PP1 X p k v tk c:=by
 intro pins s σ H R I q;refine pairTrees_cons_walk (thn (hk.out pins s σ H _ I q) fun u D ⟨x,H1,G,C,L⟩=>thn (hv.out pins D σ H1 _ G L) fun r O ⟨y,H2,N,J,M⟩=>pairTrees_nil_walk ⟨x,y,u,r,H2,rfl,N,C,J,M⟩)
theorem HT.cat_tup0{prog:Aq}{A:Ar}{E:Ab}{t b:Aw}(O:IsTup s.heap t #[])(hb:IsTup s.heap b U.toArray)(q:Q (.ref b) s) :
  wpAny (model prog w) A (binaryOp .Add (.ref t) (.ref b)) Q E s:=by
 obtain ⟨⟨cls,dd,data,N⟩,ho,hc,n,hd⟩:=id O;obtain ⟨⟨L,J,data2,D⟩,C,I,M,G⟩:=id hb;subst hc hd I G;exact concat_meets ⟨_,ho,rfl⟩ ⟨_,C,rfl⟩ Qg9 seq_tuple_add Qfu Qfm (Qfe _ _)
  (tuple_addW0 t b #[] U.toArray n M dd J N D rfl) ⟨ho,C,q⟩
def rCatG:R2:=fun x y H Q=>∃a b xs ys,x=.ref a/\y=.ref b/\H a=some (.tup xs)/\H b=some (.tup ys)/\xs.length + ys.length<=sizeLine/\∀p H',H' p=some (.tup (xs++ys))->ZC H H'->Q (.ref p) H'
theorem Zgh:OpR X (binaryOp .Add) rCatG:=by
 intro pins s σ H x y v u Q I L M h;obtain ⟨a,b,xs,ys,rfl,rfl,ha,hb,J,q⟩:=h;cases L;cases M;obtain ⟨N,C,p1,_⟩:=I.tuple (SqT.of ha:SqT X.K H a xs);obtain ⟨G,D,p2,_⟩:=I.tuple (SqT.of hb:SqT X.K H b ys)
 by_cases hx:xs=[]
 ·have e:=C.nil_iff.mpr hx
  subst e hx;exact HT.cat_tup0 p1 p2 ⟨.ref b,H,I,rfl,q b H hb fun _ _ z=>z⟩
 ·refine HT.cat_tup p1 p2 (fun z=>hx (C.nil_iff.mp z)) (fun z=>⟨.ref a,H,I,rfl,q a H ?_ fun _ _ z=>z⟩) (fun z=>?_) (by rw [<-C.length,<-D.length];exact J)
  ·rw [D.nil_iff.mp z,Qb4]
   exact ha
  ·have hn:=I.hok.fresh (Qag s.heap.objs.size)
   refine ⟨.ref s.heap.objs.size,_,I.laid (t':=s.toks) (o:=.tup (xs++ys)) (fun b ob q=>Qab _ q) (Qag _) ?_,rfl,q _ _ Za fun c o z=>by rw [Zj (fun e=>by rw [e,hn] at z;cases z)];exact z⟩;exact ⟨by rw [Qap];exact J,_,C.append D,y8.new _ _⟩
end
open PySem.W (hideAll of_hideAll hideAll_get hideAll_none funFrames_hide)
section
variable {P:Aq}{w:Au}{X:Cx}{pins:Ac}{σ:St}{H:Hp}{s:As}
end
end L2
namespace L2
open PySem PySem.Spec PyProof.Rows
open PySem.W (hideAll of_hideAll hideAll_get hideAll_none funFrames_hide)
section
variable {X:Cx}{E:XK}
end
end L2
namespace L2
open PySem PySem.Spec PyProof.Rows
section
variable {X:Cx}{E:XK}{x:Str}{C:Aw}{np cpos pos:Pos}{e₀:Ax}{rest:An}{t:TA}
end
section
variable {M:Model}{A:Ar}{E:Ab}
variable {nm q nm' q':Str}{C N D N':Aw}{bs bm bs' bm':Ag}{hdct hdct':Bool}{sn sn':Ai}{sub sub':Ag}{ab ab':Bool}{col col':Option Bool}{dd dd':Option Aw}{k0 k1 k2 k3 k5 k0' k1' k2' k3' k5':Option Av}{newId newId':String}
end
section
variable {X:Cx}{pins:Ac}{σ:St}{H H':Hp}{s s':As}
end
section
variable {prog:Aq}{w:Au}{A:Ar}{E:Ab}{s:As}{env:Env}
end
section
variable {X:Cx}{pins:Ac}{σ:St}{H:Hp}{s:As}
variable {k:Nat}{f:Aw}{fd:Ao}{ps:Ai}{sp:Sp}{g x y n:Str}{p np p0 cpos spos hpos pos:Pos}{e₀:Ax}{es:An}{t:TA}{b₀:Ay}{suite:List Ay}{i j:Nat}{Dc:Aw}{ts:TS}
end
end L2
namespace L2
open PySem PySem.Spec PyProof.Rows PySem.Calls
open PySem.W (Frag InstAt findObj plainGet plainGet_of kin_open kin_hooked class_get handed_on mroIn clsIn Looks subIn typeIn looks_typeIn looks_subIn isIn isi_call)
section
variable {prog:Aq}{w:Au}{A:Ar}{E:Ab}{s:As}{K:Frag}{e C D:Aw}{oe:Obj}{od:Option Obj}
end
end L2
namespace L2
open PySem PySem.Spec PyProof.Rows PySem.Calls
open PySem.W Builtin Builtin.ObjectAttr Builtin.Getset_descriptor
section
variable {prog:Aq}{w:Au}{A:Ar}{E:Ab}{s:As}{K:Frag}{e C D:Aw}
end
end L2
namespace L2
open PySem PySem.Spec PyProof.Rows PySem.Calls
open PySem.W Builtin Builtin.ObjectAttr
section
variable {prog:Aq}{w:Au}{A:Ar}{E:Ab}{s:As}{K:Frag}{x C:Aw}{name:Str}{v:Av}
end
section
variable {X:Cx}{pins:Ac}{σ:St}{H:Hp}{s:As}{e C d:Aw}{f:Str}{v:V}{u:Av}{A:Ar}{E:Ab}
end
section
variable {X:Cx}{o value:Ax}{ta tv:TE}{f:Str}{pos pos':Pos}
end
end L2
namespace L2
open PySem PySem.Spec PyProof.Rows PySem.Calls
open PySem.W
section
variable {prog:Aq}{w:Au}{A:Ar}{E:Ab}{hh:Heap}{g:Array GenState}{dr:Drawn}{t:Nat}{os:OsState}{K:Frag}
variable {nm q:Str}{C N fI:Aw}{bs tl:Ag}{hdct:Bool}{sn:Ai}{sub:Ag}{ab:Bool}{col:Option Bool}{dd:Option Aw}{k0 k1 k2 k3 k5:Option Av}
end
end L2
namespace L2
open PySem PySem.Spec PyProof.Rows PySem.Calls
open PySem.W
section
variable {X:Cx}{x:Str}{C f:Aw}{k:Nat}{fd:Ao}{ps:Ai}{sp:Sp}{p pos:Pos}{e₀:Ax}{es:An}{t:TA}
end
end L2
namespace L2
open PySem PySem.Spec PyProof.Rows PySem.Calls
open Builtin Builtin.Str
section
variable {X:Cx}{e b:Ax}{es:An}{te tb:TE}{t:TA}
end
section
variable {X:Cx}{o:Ax}{to:TE}{y z:Str}{j1 j2 j3:Nat}{p1 p2 p3 apos cpos:Pos}
end
end L2
namespace L2
open PySem PySem.Spec PyProof.Rows PySem.Calls
open Builtin Builtin.Str
section
variable {X:Cx}{e:Ax}{ta:TE}{c:Str}{j:Nat}{p1 p2 pos:Pos}
end
section
variable {X:Cx}
end
end L2
namespace L2
open PySem PySem.Spec PyProof.Rows PySem.Calls
open PySem.W
end L2
namespace L2
open PySem PySem.Spec PyProof.Rows PySem.Calls
open Builtin Builtin.Str
end L2
namespace L2
open PySem PySem.Spec PyProof.Rows PySem.Calls
section
variable {M:Model}{A:Ar}{E:Ab}{s:As}{B:Heap}{env:Env}{outer:List Env}{L e:Aw}{φ:Obj->Prop}{Q:Unit->Shared->Prop}
end
section
variable {prog:Aq}{w:Au}{A:Ar}{E:Ab}{s:As}{env:Env}{x:Sem Av}{Q:Flow->Shared->Prop}{C e1:Aw}{j:Nat}{p pos:Pos}
end
open PySem.W (hideAll of_hideAll hideAll_get hideAll_none funFrames_hide)
section
variable {X:Cx}{E:XK}
end
end L2
namespace L2
open PySem PySem.Spec PyProof.Rows PySem.Calls
section
variable {prog:Aq}{w:Au}{A:Ar}{E:Ab}{s:As}{env:Env}
end
section
variable {X:Cx}{E:XK}
end
section
variable {X:Cx}{E:XK}{k:Nat}{f:Aw}{fd:Ao}{ps:Ai}{sp:Sp}{g y x2:Str}{p np np2 cpos cpos2 spos hpos pos p9 rpos:Pos}{j:Nat}{e₀ a₀:Ax}{es as:An}{t t2:TA}{Dc C2:Aw}
end
section
variable {prog:Aq}{w:Au}{A:Ar}{E:Ab}{s:As}{a:Aw}{oa:Obj}{x:Av}{l:Ag}{na:Nat}{ts:Ai}
end
section
variable {X:Cx}{e:Ax}{ta:TE}{c:Str}{j:Nat}{p1 p2 pos:Pos}
end
open PySem.W
section
variable {X:Cx}{pins:Ac}{σ:St}{H:Hp}{s:As}{e C d:Aw}{f:Str}{v:V}{u:Av}{A:Ar}{E:Ab}{arr:Ah}
end
section
variable {X:Cx}{E:XK}
end
end L2
namespace L2
open PySem PySem.Spec PyProof.Rows PySem.Calls
open PySem.W (hideAll of_hideAll hideAll_get hideAll_none funFrames_hide)
section
variable {X:Cx}{E:XK}
end
section
variable {prog:Aq}{w:Au}{A:Ar}{E:Ab}{s:As}{env:Env}{x:Sem Av}{Q:Flow->Shared->Prop}{C:Aw}
end
section
variable {X:Cx}{E:XK}{x:Str}{C f:Aw}{k:Nat}{fd:Ao}{ps:Ai}{sp:Sp}{np cpos pos:Pos}{e₀:Ax}{es:An}{t:TA}
end
end L2
namespace L2
open PySem PySem.Spec PyProof.Rows PySem.Calls
section
variable {X:Cx}{k:Nat}{f:Aw}{fd:Ao}{ps:Ai}{sp:Sp}{g y n:Str}{p np cpos spos hpos pos:Pos}{e₀:Ax}{es:An}{t:TA}{b₀:Ay}{suite:List Ay}{j:Nat}{Dc:Aw}{ts:TS}
end
section
variable {X:Cx}
end
end L2
namespace L2
open PySem
theorem hideG{q:Prop}(h:∀G:Prop,(q->G)->G):q:=h q fun z=>z
theorem len1{P:List g->Prop}(h:∀a,P [a]):∀q:List g,q.length=1->P q
 | [a],_=>h a
theorem len2{P:List g->Prop}(h:∀a b,P [a,b]):∀q:List g,q.length=2->P q
 | [a,b],_=>h a b
theorem len3{P:List g->Prop}(h:∀a b c,P [a,b,c]):∀q:List g,q.length=3->P q
 | [a,b,c],_=>h a b c
theorem len4{P:List g->Prop}(h:∀a b c d,P [a,b,c,d]):∀q:List g,q.length=4->P q
 | [a,b,c,d],_=>h a b c d
theorem len5{P:List g->Prop}(h:∀a b c d e,P [a,b,c,d,e]):∀q:List g,q.length=5->P q
 | [a,b,c,d,e],_=>h a b c d e
theorem wD{lo:Int}{g:TG}(D:Nat->St->Hp->Prop)(J:D 0 d H)
  (hs:∀i d H,i < n->D i d H->∀(N b:A1) (r:VK),(∀d H,D (i + 1) d H->N d H)->g (.int (lo + i)) d H fun C H2=>q { nx:=N,rt:=r,bk:=b,ct:=N } C H2) (hd:∀d H,D n d H->M.nx d H) :
  ∃W:Nat->Nat->St->Hp->Prop,(∃m,W 0 m d H)/\∀i m d H,W i m d H ->
   ((Itr lo n).stop i H/\M.nx d H)\/((Itr lo n).go i H/\∃N:A1,(∀G H',N G H'->∃I,I < m/\W (i + 1) I G H')/\∀x H',(Itr lo n).yld i H x H'->g x d H' fun C H2=>q { M with nx:=N,ct:=N,bk:=M.nx } C H2) :=
 Xi D J (fun i d H hi p=>hs i d H hi p _ _ _ fun _ _ z=>z) hd
theorem walk_X{q:Aq}{M:(Ae)->Heap->Prop}{K:Params->PySem.W.Frag}{as:List Aw}{t:Nat}{r:PySem.W.RowW}{d:DefRec}{C:List (Str × Ax)}{run:Av->List Av->Sem Av}
  (e:∀P,as=(K P).map (·.1)) (W:PySem.W.WalkO q N M (PySem.W.InK K) r d C run):PySem.W.WalkX q N M (PySem.W.X.obsZ as) (PySem.W.X.valZ K n t) r d C run :=
 fun w s₀ I mg S G y a o pm Y J dV kV e1 e2 e3 e4 O e6 args D as L p l R Z nn =>
  W w s₀ I mg S G (PySem.W.InK.keeps w _ _ (PySem.W.X.z_facts e y).2.1 L.keeps) a o pm Y J dV kV e1 e2 e3 e4 O e6 args D as p l R Z nn
def noT(K:Af):Af:=K.filter fun p=>match p.2.cls,p.2.data with
 | .none,.fields _=>false
 | _,_=>true
theorem noT_ok(K:Af):PySem.W.noTabs (noT K)=true:=by
 unfold PySem.W.noTabs noT;rw [Qce];intro p hp;exact (Qd2.mp hp).2
def nodB:Aj->Bool
 | []=>true
 | a::r=>r.all (fun b=>!(Nat.beq a b)) && nodB r
theorem lookup_mem{a:Aw}{o:Obj}:∀{K:Af},K.lookup a=some o->(a,o)∈K
 | (b,u)::r,h=>by
  rw [Qcz] at h
  by_cases e:(a == b)=true
  ·grind
  ·rw [Bool.eq_false_iff.mpr e] at h
   exact Qal _ (lookup_mem h)
theorem mem_lookup{a:Aw}{o:Obj}:∀{K:Af},nodB (K.map (·.1))=true->(a,o)∈K->K.lookup a=some o
 | (b,u)::r,hn,h=>by
  rw [Qcz];have q:=Qga.mp hn;rcases Qam.mp h with e | e
  ·cases e
   rw [Qdv]
  ·have hb:(a == b)=false:=by
    rw [Qfd];intro z;have:=Qce.mp q.1 a (Qb2 e);rw [z,show Nat.beq b b=true from Nat.beq_refl b] at this;cases this
   rw [hb];exact mem_lookup q.2 e
theorem in_noT(hn:nodB (K.map (·.1))=true)(X:K.In h):(noT K).In h:=fun a o e =>
 X a o (mem_lookup hn (Qd2.mp (lookup_mem e)).1)
theorem ns_tr{m:Aw}{r:Option (Option Av)}(e:PySem.W.nsIn (noT K) m x=PySem.W.nsIn K m x)(h:PySem.W.nsIn K m x=r):PySem.W.nsIn (noT K) m x=r:=e.trans h
theorem lk_tr{r:Option Obj}(e:(noT K).lookup a=K.lookup a)(h:K.lookup a=r):(noT K).lookup a=r:=e.trans h
theorem cd_tr{c:Av}(e:PySem.W.codeIn (noT K) c x=PySem.W.codeIn K c x)(h:PySem.W.codeIn K c x=true):PySem.W.codeIn (noT K) c x=true:=e.trans h
theorem kp_tr{c:Av}(e:PySem.W.keepIn (noT K) c=PySem.W.keepIn K c)(h:PySem.W.keepIn K c=true):PySem.W.keepIn (noT K) c=true:=e.trans h
theorem cxK{CX:CXT}{mg:Ae}{base:Heap}{qual:Str}{scope:Scope}{A:Ar}{outer:List Env}{E:XK}:(Zca CX P w K mg base N qual scope f u A outer s H E).nox.K=K:=rfl
theorem cxK2{CX:CXT}{mg:Ae}{base:Heap}{qual:Str}{scope:Scope}{A:Ar}{outer:List Env}{E:XK}:(Zca CX P w K mg base N qual scope f u A outer s H E).K=K:=rfl
theorem let2{C:TS}(h:let D:=C;Yi q D M d H):Yi q C M d H:=h
theorem let3{C D:TS}(h:let G:=D;let I:=Yi C G;Yi q I M d H):Yi q (Yi C D) M d H:=h
theorem let4{C G D:TS}(h:let J:=D;let I:=Yi G J;let L:=Yi C I;Yi q L M d H):Yi q (Yi C (Yi G D)) M d H:=h
theorem let5{C D I G:TS}(h:let N:=G;let J:=Yi I N;let O:=Yi D J;let L:=Yi C O;Yi q L M d H):Yi q (Yi C (Yi D (Yi I G))) M d H:=h
theorem let6{C D J G I:TS}(h:let O:=I;let S:=Yi G O;let L:=Yi J S;let Y:=Yi D L;let N:=Yi C Y;Yi q N M d H):Yi q (Yi C (Yi D (Yi J (Yi G I)))) M d H:=h
theorem let7{C D L I J G:TS}(h:let S:=G;let Y:=Yi J S;let Z:=Yi I Y;let N:=Yi L Z;let U2:=Yi D N;let O:=Yi C U2;Yi q O M d H):Yi q (Yi C (Yi D (Yi L (Yi I (Yi J G))))) M d H:=h
theorem let8{C D N J L G I:TS}(h:let Z:=I;let Y:=Yi G Z;let U5:=Yi L Y;let U4:=Yi J U5;let O:=Yi N U4;let U2:=Yi D O;let S:=Yi C U2;Yi q S M d H):Yi q (Yi C (Yi D (Yi N (Yi J (Yi L (Yi G I)))))) M d H:=h
theorem let9{L O N G J C D I:TS}(h:let U8:=I;let S:=Yi D U8;let U6:=Yi C S;let Y:=Yi J U6;let Z:=Yi G Y;let U3:=Yi N Z;let U2:=Yi O U3;let U1:=Yi L U2;Yi q U1 M d H):Yi q (Yi L (Yi O (Yi N (Yi G (Yi J (Yi C (Yi D I))))))) M d H:=h
end L2
namespace ZpT
open PySem PySem.Spec PyProof.Rows
abbrev Zer (h:Heap) (T:Aw) (a b c:Av):Prop:=h.get? T=some { cls:=.type "tuple",data:=.seq #[a,b,c] }
structure Ap3(z TI TO i1 i2 i3:Aw):Prop where
 TIz:TI≠z
 TOz:TO≠z
 i1z:i1≠z
 i2z:i2≠z
 i3z:i3≠z
 TITO:TI≠TO
 TIi1:TI≠i1
 TIi2:TI≠i2
 TIi3:TI≠i3
 TOi1:TO≠i1
 TOi2:TO≠i2
 TOi3:TO≠i3
 i12:i1≠i2
 i13:i1≠i3
 i23:i2≠i3
structure Of3(z TO i1 i2 i3 l:Aw):Prop where
 z:l≠z
 o:l≠TO
 i:l≠i1
 j:l≠i2
 m:l≠i3
structure St3(z TI TO i1 i2 i3 l1 l2 l3:Aw)(k:Nat)(h:Heap):Prop where
 z:∃f0 fb,h.get? z=some (zO f0 fb TI TO)/\F0 f0
 I:Zer h TI (.ref i1) (.ref i2) (.ref i3)
 O:∃a b c,Zer h TO a b c
 n1:Yq false h i1 l1 k
 n2:Yq false h i2 l2 k
 n3:Yq false h i3 l3 k
section
variable {prog:Aq}{w:Au}{A:Ar}{E:Ab}{s:As}
end
end ZpT
namespace L2
open PySem PySem.Spec PyProof.Rows
section
variable {X:Cx}{S scope:Scope}{N:Ai}{x x2 x3:Str}{ys:Ai}{is:Aj}{pins:Ac}{σ:St}{H₂:Hp}{s₂:As}{fp:List Aw}{elt iter:Ax}{px px2 px3 pp pos:Pos}{pq:Nat}{ifs:An}{tc:TT}{te:TE}{wi:TI}
end
end L2
namespace ZpT
open PySem PySem.Spec PyProof.Rows
section
variable {prog:Aq}{w:Au}{A:Ar}{E:Ab}{s:As}
end
end ZpT
namespace L2
open PySem PySem.Spec PyProof.Rows
open ZpT (St3 Ap3 Of3 SeqAt Yq)
section
variable {X:Cx}{e1 e2 e3:Ax}{t:TA}{p pos:Pos}
end
end L2
namespace L2
open PySem PySem.Spec PyProof.Rows
theorem zr{o:HO}(h:H a=none):ZC H (upd H a o):=fun b o' e=>by
 rw [Zj (fun z=>by rw [z,h] at e;cases e)];exact e
section
variable {prog:Aq}{w:Au}{A:Ar}{s:As}
end
section
variable {X:Cx}
end
def b2i(b:Bool):Int:=if b=true then 1 else 0
def Zi5(k:Int):Av->Bool
 | .int i _=>i == k
 | .bool b=>b2i b == k
 | _=>false
theorem YQ{k:Int}{v:Av}(h:Zi5 k v=true):(∃t,v=.int k t)\/∃b,v=.bool b/\k=b2i b:=by
 cases v with
 | int i t=>exact .inl ⟨t,by rw [show i=k from eq_of_beq h]⟩
 | bool b=>exact .inr ⟨b,rfl,(eq_of_beq h).symm⟩
 | _=>cases h
section
variable {prog:Aq}{w:Au}
theorem yT{A:Ar}{E:Ab}{b:Bool}{Q:Int->Shared->Prop}(h:Q (hashInt (b2i b)) { s with toks:=s.toks + 1 }):wpAny (model prog w) A (pyHash (.bool b)) Q E s:=by
 refine PySem.W.pyHash_slot (T := "bool") (id := "int.__hash__") (B:=Builtin.«int.__hash__») rfl F.slot_bool_hash F.entry_int_hash (F.args_int_hash_1 _) (by decide +kernel) (.inl rfl) ?_;cases b
 ·exact Qaa (Qch (a:=(Value.bool false,(0:Int))) rfl (Qaa (Qfx (Qae ⟨0,_,rfl,h⟩))))
 ·exact Qaa (Qch (a:=(Value.bool true,(1:Int))) rfl (Qaa (Qfx (Qae ⟨1,_,rfl,h⟩))))
end
theorem dec_eq(a b:Int):decide (a=b)=(a == b):=by grind
def Yt(prog:Aq)(w:Au):KeyKind prog w Int where
 is:=Zi5
 hash:=hashInt
 inj:=fun v a b ha hb=>by
  rcases YQ ha with ⟨t,rfl⟩ | ⟨x,rfl,rfl⟩
  ·exact (eq_of_beq (show (a == b)=true from hb))
  ·exact (eq_of_beq (show (b2i x == b)=true from hb))
 byValue:=fun k v h=>by
  rcases YQ h with ⟨t,rfl⟩ | ⟨x,rfl,rfl⟩ <;> rfl
 pyHash:=fun hv h=>by
  rcases YQ hv with ⟨t,rfl⟩ | ⟨x,rfl,rfl⟩
  ·exact Qg8 h
  ·exact yT h
 eqBool:=fun q hv h=>by
  rw [dec_eq] at h;rcases YQ q with ⟨t,rfl⟩ | ⟨x,rfl,rfl⟩
  ·rcases YQ hv with ⟨u,rfl⟩ | ⟨y,rfl,rfl⟩
   ·exact wpAny_eqBool_int h
   ·exact SeqAt.EqAt.int_bool _ t y _ _ _ _ h
  ·rcases YQ hv with ⟨u,rfl⟩ | ⟨y,rfl,rfl⟩
   ·exact SeqAt.EqAt.bool_int x _ u _ _ _ _ h
   ·refine SeqAt.EqAt.bool_bool x y _ _ _ _ ?_
    have e:(b2i x == b2i y)=(x == y):=by cases x <;> cases y <;> rfl
    rw [e] at h;exact h
 «strs»:=fun k x t v h=>by cases h
section
variable {prog:Aq}{w:Au}
def IsPair(prog:Aq)(w:Au)(h:Heap)(k:Int × Ak)(a:Aw):Prop :=
 ∃o n t tk,h.get? a=some o/\o.cls=.type "tuple" /\ o.data=.seq #[.int k.1 tk,.ref t] n/\IsTupleKey (Yt prog w) h k.2 t
def vZ(prog:Aq)(w:Au)(k:Int × Ak):Int:=reduceHash (Builtin.Tuple.tupleHashOf [hashInt k.1,tupleKeyHash (Yt prog w) k.2])
theorem IsPair.inj{h:Heap}{a:Aw}{x y:Int × Ak}(p:IsPair prog w h x a)(q:IsPair prog w h y a):x=y:=by
 obtain ⟨o,n,t,tk,e,c,d,k⟩:=p;obtain ⟨o',Z,t',O,C,c',d',L⟩:=q;rw [e] at C;cases C;rw [d] at d';injection d' with D Y;have N:=congrArg Array.toList D;injection N with J G;injection J with M _;injection G with I _;injection I with S;subst S;have:=(tupleKind (Yt prog w)).inj k L;exact Prod.ext M this
theorem IsPair.keeps{h h':Heap}{k:Int × Ak}{a d:Aw}{o:Obj}{es:Array DictEntry}{ep:Nat}(p:IsPair prog w h k a)(e:h.get? d=some o)(hd:o.data=.dict es ep)(s:Heap.SameBut d h h'):IsPair prog w h' k a:=by
 obtain ⟨o1,n,t,tk,e1,D,C,k1⟩:=p;have q:a≠d:=fun z=>by
  grind
 exact ⟨o1,n,t,tk,(s.2 a q).trans e1,D,C,(tupleKind (Yt prog w)).keeps k1 e hd s⟩
theorem IsPair.pyHash{A:Ar}{E:Ab}{s:As}{k:Int × Ak}{a:Aw}{Q:Int->Shared->Prop}(q:A.units + 1 < cLine)(p:IsPair prog w s.heap k a)
  (h:Q (vZ prog w k) { s with toks:=s.toks + (k.2.length + 3) }):wpAny (model prog w) A (PySem.pyHash (.ref a)) Q E s:=by
 obtain ⟨o,n,t,tk,e,c,d,C⟩:=p;refine PySem.W.pyHash_slot (T := "tuple") (id := "tuple.__hash__") (B:=Builtin.«tuple.__hash__») ⟨o,e,c⟩ F.slot_tuple_hash F.entry_tuple_hash (F.args_tuple_hash_1 _) (by decide +kernel) (.inr (by lia)) ?_;refine Qaa (Qch (a:=(Value.ref a,[])) rfl ?_);refine Qaa (wpAny_tupleItemsOf e d ?_);refine Qaa (Qgr _ (fun rest hs s'=>(rest=[.int k.1 tk,.ref t]/\hs=#[]/\s'=s)\/(rest=[.ref t]/\hs=#[hashInt k.1]/\s'={ s with toks:=s.toks + 1 })\/(rest=[]/\hs=#[hashInt k.1,tupleKeyHash (Yt prog w) k.2]/\s'={ s with toks:=s.toks + 1 + (k.2.length + 1) })) _ ?_ ?_ _ _ (.inl ⟨rfl,rfl,rfl⟩))
 ·rintro x rest b s' (⟨e1,rfl,rfl⟩ | ⟨e1,rfl,rfl⟩ | ⟨e1,_,_⟩)
  ·cases e1
   exact Qaa (Qg8 (Qae (.inr (.inl ⟨rfl,rfl,rfl⟩))))
  ·cases e1
   refine Qaa (wpAny_pyHash_tuple (knd:=Yt prog w) (ks:=k.2) (s:={ s with toks:=s.toks + 1 }) (by exact q) C (Qae (.inr (.inr ⟨rfl,rfl,rfl⟩))))
  ·cases e1
 ·rintro b s' (⟨e1,_,_⟩ | ⟨e1,_,_⟩ | ⟨_,rfl,rfl⟩)
  ·cases e1
  ·cases e1
  ·refine Qaa (Qfx (Qae ⟨_,_,rfl,?_⟩))
   have D:s.toks + 1 + (k.2.length + 1) + 1=s.toks + (k.2.length + 3):=by lia
   rw [D];exact h
theorem _root_.PySem.IsTupleKey.any{ks:Ak}(k:IsTupleKey (Yt prog w) h ks a)(q:Aq)(C:Au):IsTupleKey (Yt q C) h ks a:=by
 obtain ⟨o,items,n,e,c,d,it⟩:=k;have D:∀{ks:Ak} {vs:Ag},ItemsAre (Yt prog w) ks vs->ItemsAre (Yt q C) ks vs:=by
  intro ks vs hh
  induction hh with
  | nil=>exact .nil
  | cons h1 _ G=>exact .cons h1 G
 exact ⟨o,items,n,e,c,d,D it⟩
theorem IsPair.eqBool{A:Ar}{E:Ab}{s:As}{x y:Int × Ak}{a b:Aw}{Q:Bool->Shared->Prop}(N:A.units + 1 < cLine)(p:IsPair prog w s.heap x a)(q:IsPair prog w s.heap y b)
  (h:Q (decide (x=y)) s):wpAny (model prog w) A (PySem.eqBool (.ref a) (.ref b)) Q E s:=by
 by_cases G:a=b
 ·subst G
  have:=p.inj q;rw [Qao this] at h;exact SeqAt.EqAt.same (.ref a) prog w E Q h
 ·obtain ⟨o,n,t,tk,e,c,d,S⟩:=p
  obtain ⟨o',L,t',D,Y,O,d',J⟩:=q;have it:∀j (h1:j < (#[Value.int x.1 tk,.ref t]).size) (h2:j < (#[Value.int y.1 D,.ref t']).size),SeqAt.EqAt A.in1 s (#[Value.int x.1 tk,.ref t])[j] (#[Value.int y.1 D,.ref t'])[j] (if j=0 then x.1 == y.1 else decide (x.2=y.2)):=by
   intro j h1 h2
   match j,h1,h2 with
   | 0,_,_=>exact SeqAt.EqAt.int_int x.1 tk y.1 D
   | 1,_,_=>exact fun C I E' Z h'=>wpAny_eqBool_tuple (knd:=Yt C I) (by exact N) (S.any C I) (J.any C I) h'
  have r:=SeqAt.RcAt.tuples (A:=A) (s:=s) (e:=fun j=>if j=0 then x.1 == y.1 else decide (x.2=y.2)) ⟨o,e,c,n,d⟩ ⟨o',Y,O,L,d'⟩ (by lia) it;have M:((List.range (min (#[Value.int x.1 tk,.ref t]).size (#[Value.int y.1 D,.ref t']).size)).all (fun j=>if j=0 then x.1 == y.1 else decide (x.2=y.2)) && (#[Value.int x.1 tk,.ref t]).size == (#[Value.int y.1 D,.ref t']).size)=decide (x=y):=by
   show ((x.1 == y.1) && (decide (x.2=y.2) && true) && true)=decide (x=y)
   by_cases h1:x.1=y.1
   ·grind
   ·grind
  rw [M] at r;exact SeqAt.EqAt.of_refs G r prog w E Q h
theorem wF{A:Ar}{E:Ab}{ks:Ak}{Q:Bool->Shared->Prop}(m:Nat)(k:IsTupleKey (Yt prog w) s.heap ks a)(h:Q true s):wpAny (model prog w) A (eqIsQuiet (m + 1) (.ref a)) Q E s:=by
 obtain ⟨o,items,n,e,c,d,it⟩:=k;rw [eqIsQuiet.eq_2];have q:s.TypeIs (.ref a) "tuple" := ⟨o,e,c⟩;refine Qaa (Qee q F.slot_tuple_eq.lookup ?_);refine Qaa (Qc0 (T := "tuple") (b:=true) q (by kernel_rfl) ?_);refine Qaa (Qb7 e d ?_);refine Qaa (Qgr _ (fun rest b s'=>(∀v∈rest,carriedByValue v=true)/\b=(none,())/\s'=s) _ ?_ ?_ _ _ ⟨fun v hv=>?_,rfl,rfl⟩)
 ·rintro x rest b s' ⟨hv,rfl,rfl⟩
  refine Qaa ?_;rw [eqIsQuiet_byValue m (hv x Qah)];exact Qae (Qae ⟨fun v hm=>hv v (Qal _ hm),rfl,rfl⟩)
 ·rintro b s' ⟨_,rfl,rfl⟩
  exact Qae h
 ·have C:∀{ks:Ak} {vs:Ag},ItemsAre (Yt prog w) ks vs->∀v∈vs,carriedByValue v=true:=by
   intro ks vs hh
   induction hh with
   | nil=>exact fun v hv=>nomatch hv
   | cons h1 _ D =>
    intro v hv;rcases Qam.mp hv with rfl | hv
    ·exact (Yt prog w).byValue _ _ h1
    ·exact D v hv
  exact C it v hv
theorem IsPair.quiet{A:Ar}{E:Ab}{k:Int × Ak}{Q:Bool->Shared->Prop}(p:IsPair prog w s.heap k a)(h:Q true s):wpAny (model prog w) A (eqIsQuiet 8 (.ref a)) Q E s:=by
 obtain ⟨o,n,t,tk,e,c,d,C⟩:=p;rw [eqIsQuiet.eq_2];have q:s.TypeIs (.ref a) "tuple" := ⟨o,e,c⟩;refine Qaa (Qee q F.slot_tuple_eq.lookup ?_);refine Qaa (Qc0 (T := "tuple") (b:=true) q (by kernel_rfl) ?_);refine Qaa (Qb7 e d ?_);refine Qaa (Qgr _ (fun rest b s'=>(rest=[.int k.1 tk,.ref t]\/rest=[.ref t]\/rest=[])/\b=(none,())/\s'=s) _ ?_ ?_ _ _ ⟨.inl rfl,rfl,rfl⟩)
 ·rintro x rest b s' ⟨hr,rfl,rfl⟩
  rcases hr with e1 | e1 | e1
  ·cases e1
   refine Qaa ?_;exact Qae (Qae ⟨.inr (.inl rfl),rfl,rfl⟩)
  ·cases e1
   exact Qaa (wF 6 C (Qae ⟨.inr (.inr rfl),rfl,rfl⟩))
  ·cases e1
 ·rintro b s' ⟨_,rfl,rfl⟩
  exact Qae h
end
def Zc0(prog:Aq)(w:Au):HeapKind prog w (Int × Ak) where
 is:=IsPair prog w
 hash:=vZ prog w
 draws:=fun k=>k.2.length + 3
 room:=fun A=>A.units + 1 < cLine
 inj:=fun p q=>p.inj q
 keeps:=fun p e hd s=>p.keeps e hd s
 pyHash:=fun C p h=>p.pyHash C h
 eqBool:=fun C p q h=>p.eqBool C q h
 quiet:=fun p h=>p.quiet h
section
variable {prog:Aq}{w:Au}{K:Type}[DecidableEq K]
theorem Zc1{xs:List (K × Aw × Av)}{k:K}{j:Nat}{p:Aw × Av}(hn:(xs.map (·.1)).Nodup)(h:xs[j]?=some (k,p)):atKey xs k=some p:=by
 unfold atKey
 induction xs generalizing j with
 | nil=>cases h
 | cons x r q =>
  rw [Qbx,Qbr] at hn;rw [Qdq];cases j with
  | zero =>
   cases h;rw [Qao rfl]
   rfl
  | succ j =>
   have hm:k∈r.map (·.1):=Qau.mpr ⟨_,Qas h,rfl⟩;rw [Qaq fun z=>hn.1 (by rw [z];exact hm)];exact q hn.2 h
theorem wG{xs:List (K × Aw × Av)}{k:K}(h:∀(j:Nat) (p:Aw × Av),xs[j]?≠some (k,p)):atKey xs k=none:=by
 unfold atKey;rw [Option.map_eq_none_iff,List.find?_eq_none];intro x hx z;obtain ⟨j,q⟩:=Qe8 hx;refine h j x.2 ?_;rw [q,<-Qbi z]
theorem J9(knd:HeapKind prog w K)(d a:Aw)(hd:(d == sysModules)=false)(dflt:Av) :
  MeetsIn prog w (Builtin.«dict.setdefault» ⟨[.ref d,.ref a,dflt],[]⟩) fun A R s=>knd.room A.in1/\∃k xs,knd.is s.heap k a/\Heap.DictOfH knd s.heap d xs/\xs.length<=sizeLine /\
   (∀p,atKey xs k=some p->R (.ok (.ret p.2)) { s with toks:=s.toks + knd.draws k }) /\
   (atKey xs k=none->∀h',Heap.DictOfH knd h' d (xs++[(k,a,dflt)])->Heap.SameBut d s.heap h'->R (.ok (.ret dflt)) { s with heap:=h',toks:=s.toks + knd.draws k }):=by
 intro A R s ⟨hr,k,xs,hk,dd,M,h1,h2⟩;obtain ⟨o,es,ep,e,ex,C,D,G,I⟩:=id dd;refine Qaa ?_;refine Qaa (wpAny_notOrdered_dict dd.typeIs ?_);refine Qaa (Qch (a:=()) rfl ?_);refine Qaa (Qch (a:=(Value.ref d,[Value.ref a,dflt])) rfl ?_);refine Qaa (Qch (a:=d) rfl (Qae ?_))
 try dsimp only
 rw [hd,Qaw (by decide)];refine Qaa ?_;refine Qcd (Qaa (knd.pyHash hr hk ?_));refine Qaa (wpAny_dictFind_heap (s:={ s with toks:=s.toks + knd.draws k }) hr hk e C D G I (fun J=>?_) (fun j p L=>?_))
 ·refine Qaa (Qdk (Qaa (wpAny_updateDictKeys (s:={ s with toks:=s.toks + knd.draws k }) e C (Qae (Qae ?_)) ?_ ?_)))
  ·refine h2 (wG J) _ ?_ (Qbt ..)
   obtain ⟨oc,od,Z,osl⟩:=o;obtain ⟨x1,x2,x3⟩:=ex;subst C;have Y:Heap.SameBut d s.heap (s.heap.update d (Obj.mapDictKeys fun x=>x.push { hash:=knd.hash k,key:=.ref a,val:=dflt })):=Qbt ..;refine ⟨_,_,_,Qbj _ e rfl,⟨x1,x2,x3⟩,rfl,?_,fun x hx=>?_,?_⟩
   ·rw [Qgz,D,Qav]
    rfl
   ·rcases Qca.mp hx with z | z
    ·exact knd.keeps (G x z) e rfl Y
    ·rw [Qat.mp z]
     exact knd.keeps hk e rfl Y
   ·rw [Qav,Qe4]
    refine ⟨I,Qbr.mpr ⟨Qa7,Qci⟩,fun y S z M q=>?_⟩;rw [Qbx,List.map_nil,Qat] at M;rw [q,M] at S;obtain ⟨x,hx,ex⟩:=Qau.mp S;obtain ⟨j,L⟩:=Qe8 hx;have O:x.1=k:=ex;exact J j x.2 (by rw [L,<-O])
  ·rw [<-Qbn,D,Qac]
   exact M
  ·grind
 ·refine Qaa (wpAny_dictEntries (s:={ s with toks:=s.toks + knd.draws k }) e C ?_)
  have N:es[j]?=some (entryOfKey knd (k,p)):=by
   rw [<-Qd8,D,Qai,L]
   rfl
  rw [N];exact Qaa (Qdk (Qae (Qae (h1 p (Zc1 I L)))))
end
theorem Zgi{prog:Aq}{A:Ar}{E:Ab}{d:Aw}{o:Obj}{es:Array DictEntry}{ep:Nat}(hd:(d == sysModules)=false)(e:s.heap.get? d=some o)(ex:o.ExactDict)(C:o.data=.dict es ep)(D:es.size<=sizeLine)
  (h:Q (.int (es.size:Int) (s.toks + 1)) { s with toks:=s.toks + 1 + 1 }):wpAny (model prog w) A (call (.builtin "len") [.ref d]) Q E s:=by
 have q:s.TypeIs (.ref d) "dict" := ⟨o,e,ex.1⟩;have hz2:=D;rw [Qhq] at hz2;refine call_len_slot q F.slot_dict_len (n:=(es.size:Int)) (fun G h'=>?_) (by lia) (by lia) h;refine Qbe F.slot_dict_len q F.entry_dict_len ?_ (F.args_dict_len_1 _);refine Qaa ?_;refine Qaa (wpAny_notOrdered_dict q (Qaa (Qch (a:=(Value.ref d,[])) rfl (Qae ?_))));refine Qaa (Qch (a:=d) rfl ?_);refine Qaa ?_;refine Qaa (wpAny_dictEntries e C (Qae ?_));refine Qaa ?_;unfold Builtin.Dict.pendingCount;rw [hd,Qaw (by decide)];refine Qae (Qaa (Qfx (Qae ⟨_,rfl,?_⟩)));exact h'
structure KN(Kk:Type)[DecidableEq Kk] where
 knd:∀(P:Aq) (w:Au),HeapKind P w Kk
 hsh:Kk->Int
 at_:Hp->Kk->Addr->Prop
 hash_eq:∀P w k,(knd P w).hash k=hsh k
 ok:∀(P:Aq) (w:Au) (H:Hp) (h:Heap) (k:Kk) (a:Aw),HOk P w H h->at_ H k a->(knd P w).is h k a
 room:∀(P:Aq) (w:Au) (A:Ar),A.units + 2 < cLine->(knd P w).room A.in1
 room0:∀(P:Aq) (w:Au) (A:Ar),A.units + 2 < cLine->(knd P w).room A
 keep:∀(H H':Hp) (k:Kk) (a:Aw),(∀b xs,H b=some (.tup xs)->H' b=some (.tup xs))->at_ H k a->at_ H' k a
section
variable {Kk:Type}[DecidableEq Kk](kn:KN Kk)
def entN(x:Kk × Aw × Av):DictEntry:={ hash:=kn.hsh x.1,key:=.ref x.2.1,val:=x.2.2 }
def Zgj(d:Aw)(xs:List (Kk × Aw × Av))(h:Heap):Prop:=(d == sysModules)=false/\∃o es ep,h.get? d=some o/\o.ExactDict/\o.data=.dict es ep/\es.toList=xs.map (entN kn)
def J2(H:Hp)(d:Aw)(kvs:List (Kk × V)):Prop:=(kvs.map (·.1)).Nodup/\kvs.length < sizeLine /\
 ((kvs=[]/\H d=some (.dK []))\/∃xs,H d=some (.ext (Zgj kn d xs))/\Paired (fun (p:Kk × V) (q:Kk × Aw × Av)=>p.1=q.1/\kn.at_ H q.1 q.2.1/\RelV p.2 q.2.2) kvs xs)
variable {kn}
theorem Zes(xs:List (Kk × Aw × Av)):xs.map (entryOfKey (kn.knd P w))=xs.map (entN kn):=by
 refine Qbu fun x _=>?_;show DictEntry.mk _ _ _=DictEntry.mk _ _ _;rw [kn.hash_eq]
theorem Zgk{d:Aw}{xs:List (Kk × Aw × Av)}(x:Zgj kn d xs h):Yn P w H h d (.ext (Zgj kn d xs)):=by
 obtain ⟨hm,o,es,ep,e,r⟩:=id x;refine ⟨x,⟨o,e⟩,fun h1 h2 y k=>?_⟩;obtain ⟨C,o',D,q,G,I⟩:=y;exact ⟨C,o',D,q,k _ G,I⟩
theorem J2.dict{X:Cx}{pins:Ac}{σ:St}{d:Aw}{kvs:List (Kk × V)}(n:J2 kn H d kvs)(I:Inv X pins σ H s) :
  ∃xs,Heap.DictOfH (kn.knd X.prog X.w) s.heap d xs/\Paired (fun (p:Kk × V) (q:Kk × Aw × Av)=>p.1=q.1/\kn.at_ H q.1 q.2.1/\RelV p.2 q.2.2) kvs xs/\Mut (H d)/\(d == sysModules)=false:=by
 obtain ⟨hn,hl,h | h⟩:=n
 ·obtain ⟨rfl,e⟩:=h
  obtain ⟨z,hd,vs,L,dd⟩:=Zf4 I.hok e;cases L;obtain ⟨o,es,ep,e1,ex,e2,_,C,_⟩:=dd;have D:es.toList=[]:=by
   generalize es.toList=l at C;cases C
   rfl
  exact ⟨[],⟨o,es,ep,e1,ex,e2,D,(fun x hx=>nomatch hx),Qci⟩,.nil,by rw [e];exact True.intro,hd⟩
 ·obtain ⟨xs,e,C⟩:=h
  obtain ⟨⟨hm,o,es,ep,e1,ex,e2,D⟩,_,_⟩:=(show Yn X.prog X.w H s.heap d (.ext (Zgj kn d xs)) from I.hok d _ e);refine ⟨xs,⟨o,es,ep,e1,ex,e2,by rw [D,Zes],fun x hx=>?_,?_⟩,C,by rw [e];exact True.intro,hm⟩
  ·have J:∀{l:List (Kk × V)} {m:List (Kk × Aw × Av)},Paired (fun (p:Kk × V) (q:Kk × Aw × Av)=>p.1=q.1/\kn.at_ H q.1 q.2.1/\RelV p.2 q.2.2) l m->∀x∈m,kn.at_ H x.1 x.2.1:=by
    intro l m C
    induction C with
    | nil=>exact fun x hx=>nomatch hx
    | cons h _ G =>
     intro x hx;rcases Qam.mp hx with rfl | hx
     ·exact h.2.1
     ·exact G x hx
   exact kn.ok _ _ _ _ _ _ I.hok (J C x hx)
  ·have J:∀{l:List (Kk × V)} {m:List (Kk × Aw × Av)},Paired (fun (p:Kk × V) (q:Kk × Aw × Av)=>p.1=q.1/\kn.at_ H q.1 q.2.1/\RelV p.2 q.2.2) l m->m.map (·.1)=l.map (·.1):=by
    intro l m C
    induction C with
    | nil=>rfl
    | cons h _ G=>rw [Qbx,Qbx,G,h.1]
   rw [J C];exact hn
theorem Wn{P:Kk × V->Kk × Aw × Av->Prop}(G:∀p q,P p q->p.1=q.1):∀{l:List (Kk × V)} {m:List (Kk × Aw × Av)},Paired P l m->∀k,(∀v,Ye l k=some v->∃q,atKey m k=some q/\∃p,P p (k,q)/\p.2=v)/\(Ye l k=none->atKey m k=none)
 | [],[],_,k=>⟨fun v h=>(by cases h),fun _=>rfl⟩
 | p::l,q::m,.cons h t,k=>by
  have I:=Wn G t k;have e:=G p q h
  by_cases hk:p.1=k
  ·have C:q.1=k:=e.symm.trans hk
   have a1:atKey (q::m) k=some q.2:=by
    unfold atKey;rw [Qdq,Qao C]
    rfl
   have D:Ye (p::l) k=some p.2:=ZX hk;refine ⟨fun v hv=>?_,fun hv=>?_⟩
   ·grind
   ·rw [D] at hv
    cases hv
  ·have C:¬q.1=k:=fun z=>hk (e.trans z)
   have a1:atKey (q::m) k=atKey m k:=by
    unfold atKey;rw [Qdq,Qaq C]
   have D:Ye (p::l) k=Ye l k:=ZT hk;rw [a1,D];exact I
theorem Zgl{X:Cx}{σ:St}{d:Aw}{kvs:List (Kk × V)}{A:Ar}{E:Ab}(I:Inv X m σ H s)(n:J2 kn H d kvs)(h:∀t s',Inv X m σ H s'->Q (.int (kvs.length:Int) t) s') :
  wpAny (model X.prog X.w) A (call (.builtin "len") [.ref d]) Q E s:=by
 obtain ⟨xs,⟨o,es,ep,e1,ex,e2,q,_,_⟩,C,_,hm⟩:=n.dict I;have hl:es.size=kvs.length:=by rw [<-Qbn,q,Qac];exact (Qfk C).symm
 refine Zgi hm e1 ex e2 (by rw [hl];exact Qa9 n.2.1) ?_;rw [hl];exact h _ _ (I.tok _)
theorem zt{X:Cx}{pins:Ac}{σ:St}{d:Aw}{k:Kk}{v:V}{kvs:List (Kk × V)}{xs:List (Kk × Aw × Av)}{h':Heap}{tk:Nat}(I:Inv X pins σ H s)(n:J2 kn H d kvs)(hk:kn.at_ H k a)(S:RelV v u)(C:kvs.length + 1 < sizeLine)
  (G:Paired (fun (p:Kk × V) (q:Kk × Aw × Av)=>p.1=q.1/\kn.at_ H q.1 q.2.1/\RelV p.2 q.2.2) kvs xs) (D:Mut (H d)) (hm:(d == sysModules)=false) (hv:Ye kvs k=none) (dd':Heap.DictOfH (kn.knd X.prog X.w) h' d (xs++[(k,a,u)])) (Y:Heap.SameBut d s.heap h') :
  ∃H',J2 kn H' d (kvs++[(k,v)])/\(∀b o,H b=some o->b≠d->H' b=some o)/\(∃o,H'=upd H d o)/\Inv X pins σ H' { s with heap:=h',toks:=tk }:=by
 obtain ⟨o,es,ep,e1,ex,e2,L,_,_⟩:=dd';have O:Zgj kn d (xs++[(k,a,u)]) h':=⟨hm,o,es,ep,e1,ex,e2,by rw [L,Zes]⟩;have M:∀b ys,H b=some (.tup ys)->upd H d (.ext (Zgj kn d (xs++[(k,a,u)]))) b=some (.tup ys):=fun b ys e=>by
  rw [Zj fun z=>by rw [<-z,e] at D;exact D];exact e
 refine ⟨_,⟨?_,?_,.inr ⟨_,Za,?_⟩⟩,fun b o e hb=>by rw [Zj hb];exact e,⟨_,rfl⟩,zg I D Y ⟨o,e1⟩ (Zgk O)⟩
 ·rw [Qav,Qe4]
  refine ⟨n.1,Qbr.mpr ⟨Qa7,Qci⟩,fun y N z C q=>?_⟩;rw [Qbx,List.map_nil,Qat] at C;rw [q,C] at N;obtain ⟨x,hx,ex⟩:=Qau.mp N;have J:x.1=k:=ex;have:=zj n.1 x hx;rw [J,hv] at this;cases this
 ·rw [Qap]
  exact C
 ·have go:∀{l:List (Kk × V)} {m:List (Kk × Aw × Av)},Paired (fun (p:Kk × V) (q:Kk × Aw × Av)=>p.1=q.1/\kn.at_ H q.1 q.2.1/\RelV p.2 q.2.2) l m->Paired (fun (p:Kk × V) (q:Kk × Aw × Av)=>p.1=q.1/\kn.at_ (upd H d (.ext (Zgj kn d (xs++[(k,a,u)])))) q.1 q.2.1/\RelV p.2 q.2.2) (l++[(k,v)]) (m++[(k,a,u)]):=by
   intro l m G
   induction G with
   | nil=>exact .cons ⟨rfl,kn.keep _ _ _ _ M hk,S⟩ .nil
   | cons h _ Z=>exact .cons ⟨h.1,kn.keep _ _ _ _ M h.2.1,h.2.2⟩ Z
  exact go G
theorem qX{X:Cx}{σ:St}{d:Aw}{k:Kk}{v:V}{kvs:List (Kk × V)}{A:Ar}{E:Ab}(I:Inv X m σ H s)(n:J2 kn H d kvs)(hk:kn.at_ H k a)(hu:A.units + 2 < cLine)(Y:RelV v u)(hz:kvs.length + 1 < sizeLine)
  (h1:∀x,Ye kvs k=some x->∀L s',RelV x L->Inv X m σ H s'->Q L s')
  (h2:Ye kvs k=none->∀H' s',J2 kn H' d (kvs++[(k,v)])->(∀b o,H b=some o->b≠d->H' b=some o)->(∃o,H'=upd H d o)->Inv X m σ H' s'->Q u s') :
  wpAny (model X.prog X.w) A (call (.builtin "dict.setdefault") [.ref d,.ref a,u]) Q E s:=by
 obtain ⟨xs,dd,G,N,hm⟩:=n.dict I;have pa:=Wn (fun p q h=>h.1) G k;refine Qhe F.slot_dict_setdefault dd.typeIs F.entry_dict_setdefault (F.args_dict_setdefault_3 _ _ _) (J9 (kn.knd X.prog X.w) d a hm u) ⟨kn.room _ _ _ hu,k,xs,kn.ok _ _ _ _ _ _ I.hok hk,dd,?_,?_,?_⟩
 ·rw [<-Qfk G]
  exact Qa9 n.2.1
 ·intro p hp
  cases hv:Ye kvs k with
  | none=>rw [pa.2 hv] at hp;cases hp
  | some x =>
   obtain ⟨q,C,p',J,e⟩:=pa.1 x hv;rw [hp] at C;cases C;exact h1 x hv p.2 _ (e ▸ J.2.2) (I.tok _)
 ·intro D h' dd' Z
  have hv:Ye kvs k=none:=by
   cases hv:Ye kvs k with
   | none=>rfl
   | some x =>
    obtain ⟨q,C,_⟩:=pa.1 x hv;rw [D] at C;cases C
  obtain ⟨H',S,O,o',M⟩:=zt I n hk Y hz G N hm hv dd' Z;exact h2 hv H' _ S O o' M
end
def vB:V->Option Int
 | .int i=>some i
 | .bl b=>some (b2i b)
 | _=>none
theorem kb{P:Aq}{w:Au}:∀{vs:A2} {q:Ag} {ks:Ak},Vals vs q->vs.map vB=ks.map some->ItemsAre (Yt P w) ks q
 | [],_,[],r,_=>by cases r;exact .nil
 | v::vs,_,k::ks,.cons h t,e=>by
  injection e with e1 e2;refine .cons ?_ (kb t e2);cases v with
  | int i =>
   obtain ⟨t,rfl⟩:=h;cases e1;exact Qdv _
  | bl b =>
   cases (show _=Value.bool b from h);cases e1;exact Qdv _
  | _=>cases e1
def ke(H:Hp)(ks:Ak)(a:Aw):Prop:=∃vs,H a=some (.tup vs)/\vs.map vB=ks.map some
theorem ke.is{ks:Ak}(ok:HOk P w H h)(b:ke H ks a):IsTupleKey (Yt P w) h ks a:=by
 obtain ⟨vs,e,hv⟩:=b;obtain ⟨_,q,r,o,h1,h2,⟨n,C⟩,_⟩:=(show Yn P w H h a (.tup vs) from ok a _ e);exact ⟨o,q.toArray,n,h1,h2,C,by simpa using kb r hv⟩
def knT:KN (Ak) where
 knd:=fun P w=>tupleKind (Yt P w)
 hsh:=fun ks=>reduceHash (Builtin.Tuple.tupleHashOf (ks.map hashInt))
 at_:=ke
 hash_eq:=fun P w k=>rfl
 ok:=fun P w H h k a ok b=>b.is ok
 room:=fun P w A q=>by show A.units + 1 < cLine;lia
 room0:=fun P w A q=>by show A.units < cLine;lia
 keep:=fun H H' k a hk ⟨vs,e,hv⟩=>⟨vs,hk _ _ e,hv⟩
def uO(H:Hp)(k:Int × Ak)(a:Aw):Prop:=∃t,H a=some (.tup [.int k.1,.ref t])/\ke H k.2 t
def knP:KN (Int × Ak) where
 knd:=Zc0
 hsh:=fun k=>reduceHash (Builtin.Tuple.tupleHashOf [hashInt k.1,reduceHash (Builtin.Tuple.tupleHashOf (k.2.map hashInt))])
 at_:=uO
 hash_eq:=fun P w k=>rfl
 ok:=fun P w H h k a ok ⟨t,e,b⟩=>by
  obtain ⟨_,J,r,o,h1,h2,⟨n,G⟩,_⟩:=(show Yn P w H h a (.tup [.int k.1,.ref t]) from ok a _ e);cases r with
  | cons I q =>
  cases q with
  | cons q C =>
  cases C;obtain ⟨tk,rfl⟩:=I;cases (show _=Value.ref t from q);exact ⟨o,n,t,tk,h1,h2,G,b.is ok⟩
 room:=fun P w A D=>by show A.units + 1 + 1 < cLine;lia
 room0:=fun P w A D=>by show A.units + 1 < cLine;lia
 keep:=fun H H' k a hk ⟨t,e,vs,e2,hv⟩=>⟨t,hk _ _ e,vs,hk _ _ e2,hv⟩
section
variable {X:Cx}
def Zi6:A2->Hp->VK->Prop:=fun xs H Q=>∃(Kk:Type) (_:DecidableEq Kk) (kn:KN Kk) (d:Aw) (kvs:List (Kk × V)),xs=[V.ref d]/\J2 kn H d kvs/\Q (.int kvs.length) H
theorem uP:YM X (.builtin "len") Zi6:=by
 intro pins s σ H xs G Q I r h;obtain ⟨Kk,_,kn,d,kvs,rfl,n,q⟩:=h;obtain ⟨u,rfl,D⟩:=vals1 r;cases D;exact Zgl I n fun t s' C=>⟨.int kvs.length,H,C,⟨t,rfl⟩,q⟩
def Zi7:V->List V->Hp->VK->Prop:=fun x vs H Q=>∃(Kk:Type) (_:DecidableEq Kk) (kn:KN Kk) (d a:Aw) (k:Kk) (v:V) (kvs:List (Kk × V)),x=.ref d/\vs=[.ref a,v]/\J2 kn H d kvs/\kn.at_ H k a/\kvs.length + 1 < sizeLine /\
 (∀y,Ye kvs k=some y->Q y H)/\(Ye kvs k=none->∀H',J2 kn H' d (kvs++[(k,v)])->(∀b o,H b=some o->b≠d->H' b=some o)->(∃o,H'=upd H d o)->Q v H')
theorem Zgm (O:X.A.units + 2 < cLine):MtM X "dict.setdefault" Zi7:=by
 intro pins s σ H x vs v us Q I G N h;obtain ⟨Kk,_,kn,d,a,k,y,kvs,rfl,rfl,n,hk,D,h1,h2⟩:=h;cases G;cases N with
 | cons J q =>
 cases q with
 | cons q Y =>
 cases Y;cases (show _=Value.ref a from J);exact qX I n hk O q D (fun z D Z s' S C=>⟨z,H,C,S,h1 z D⟩) fun hn H' s' M o' L C=>⟨y,H',C,q,h2 hn H' M o' L⟩
def tyN(x:V)(H:Hp):Prop:=∃(Kk:Type) (_:DecidableEq Kk) (kn:KN Kk) (d:Aw) (kvs:List (Kk × V)),x=.ref d/\J2 kn H d kvs
theorem tyN_is  {σ:St}   {x:V} {v:Av} (I:Inv X m σ H s) (r:RelV x v) (ty:tyN x H):s.TypeIs v "dict" /\ ∀a,v=.ref a->∃ob,s.heap.get? a=some ob/\ob.dict=none:=by
 obtain ⟨Kk,_,kn,d,kvs,rfl,n⟩:=ty;cases r;obtain ⟨xs,⟨o,es,ep,e,ex,_⟩,_,_,_⟩:=n.dict I;refine ⟨⟨o,e,ex.1⟩,fun a q=>?_⟩;cases q;exact ⟨o,e,ex.2.1⟩
def tBMN(to:TE)(t:TA):TE:=fun σ H Q=>to σ H fun x H1=>tyN x H1/\t σ H1 fun xs H2=>Zi7 x xs H2 Q
variable {o e:Ax}{es:An}{to:TE}{t:TA}{name:Str}{apos cpos:Pos}
theorem Zgn (N:X.A.units + 2 < cLine) (ho:QE X o to) (ha:QA X (e::es) t) (hbase:attributeBase o "setdefault" X.env (eval o X.env)=eval o X.env:=by rfl) (hline:(apos.endLine == cpos.line)=true:=by rfl) (hp:(e::es).all ZV=true:=by rfl) (hl:(e::es).length < 30:=by decide) :
  QE X (.Call (.Attribute o "setdefault" apos) (e::es) [] cpos) (tBMN to t):=by
 refine ⟨fun pins s σ H Q I h=>?_⟩;have q:=hp;rw [Qcr,Qbz] at q;have C:((backTo cpos (starEach (e::es) X.env)).all (fun x=>!x.1) && (backToKw cpos (keywordEach [] X.env)).all (fun x=>x.1.isSome) && decide ((e::es).length + ([]:List Keyword).length + (if ([]:List Keyword).isEmpty then 0 else 1) < 30))=true:=by
  rw [all_plain hp];exact Qao hl
 refine Qfv hbase C hline rfl (thn (ho.out pins s σ H _ I h) fun v L ⟨x,H1,G,J,ty,O⟩=>?_);obtain ⟨h1,h2⟩:=tyN_is G J ty;refine ⟨"dict","dict.setdefault",F.plainAttrs_dict,F.slot_dict_setdefault,F.type_dict_setdefault,h1,h2,?_⟩;have D:=ha.out cpos pins L σ H1 _ G O;have hs:starEach (e::es) X.env=(false,eval e X.env)::starEach es X.env:=Zq q.1;rw [hs] at D ⊢;refine Qdh (by grind) (Qe6 ?_);exact thn D fun us M ⟨vs,H2,Z,S,Y⟩=>Zgm N pins M σ H2 x vs v us Q Z J S Y
end
section
variable {X:Cx}
def rMaxL(K:Af):A2->Hp->VK->Prop:=fun xs H Q=>∃(p:Aw) (q:Ak),xs=[.ref p]/\SqL K H p (q.map V.int)/\q≠[]/\∀m∈q,(∀n∈q,n<=m)->Q (.int m) H
theorem jC (hc:X.calm=true):YM X (.builtin "max") (rMaxL X.K):=by
 intro pins s σ H xs us Q I r h;obtain ⟨p,G,rfl,O,hne,q⟩:=h;obtain ⟨u,rfl,N⟩:=vals1 r;cases N;obtain ⟨C,r',pl,hz⟩:=I.list O;have hi:IntsAre C G:=intsAre_of r';obtain ⟨xs,hx⟩:=hi.allInts.items;have M:s.heap.IsList p (intItems xs):=hx ▸ pl.isList;have e1:G=xs.toList.map (·.1):=by
  rw [<-nums_intItems,<-hx];exact (show numsOf C.toArray.toList=G from hi.numsOf).symm
 have hsz:0 < xs.size:=by
  grind
 refine max_intList (I.ok.hd hc) M hsz fun v h' tk hv hk=>?_;have hb:=argBest_gt (numAt xs) (xs.size - 1);generalize argBest (fun i j=>decide (numAt xs i > numAt xs j)) (xs.size - 1)=b at hv hb;have J:b < xs.size:=by lia
 have at_:∀j (D:j < xs.size),numAt xs j=xs[j].1/\(intItems xs)[j]?=some (.int xs[j].1 xs[j].2):=by
  intro j D;exact ⟨by simp [numAt,D],by simp [intItems,D]⟩
 obtain ⟨n1,S⟩:=at_ b J;rw [S] at hv;cases hv;refine ⟨.int xs[b].1,H,I.kept hk,⟨_,rfl⟩,q _ ?_ fun n hn=>?_⟩
 ·grind
 ·rw [e1] at hn
  obtain ⟨y,Y,rfl⟩:=Qau.mp hn;obtain ⟨j,D⟩:=Qe8 Y;have L:j < xs.size:=by
   grind
  have:=hb.2 j (by lia);rw [(at_ j L).1,n1] at this;have Z:xs[j]=y:=by
   grind
  rw [Z] at this;exact this
def rRngV:A2->Hp->VK->Prop:=fun xs H Q=>∃j:Int,xs=[.int j]/\∀p,H p=none->Q (.ref p) (upd H p (.rng 0 j))
theorem yU:YM X (.type "range") rRngV:=by
 intro pins s σ H xs D Q I r h;obtain ⟨j,rfl,q⟩:=h;obtain ⟨u,rfl,C⟩:=vals1 r;obtain ⟨t,rfl⟩:=C;refine call_range_1 ⟨.ref s.heap.objs.size,_,I.laid (fun b u e=>Qab _ e) (Qag _) ?_,rfl,q _ I.fresh⟩;exact ⟨_,_,_,Qak _ rfl⟩
def Zgo:A2->Hp->VK->Prop:=fun xs H Q=>∃(p:Aw) (n:Nat),xs=[.ref p]/\H p=some (.rng 0 (n:Int))/\n<=1000000/\∀l,H l=none->Q (.ref l) (upd H l (.lst ((List.range n).map fun i:Nat=>V.int (i:Int))))
theorem yV (hc:X.calm=true):YM X (.type "list") Zgo:=by
 intro pins s σ H xs D Q I r h;obtain ⟨p,n,rfl,e,hn,q⟩:=h;obtain ⟨u,rfl,N⟩:=vals1 r;cases N;obtain ⟨t,u,v,hp⟩:=(show Yn X.prog X.w H s.heap p (.rng 0 (n:Int)) from I.hok p _ e);have hsz:Builtin.Range.rangeSize 0 (n:Int) 1=(n:Int):=by
  unfold Builtin.Range.rangeSize
  split
  ·lia
  ·lia
 have C:∀z:Int,0<=z->z<=1000000->Builtin.Range.rangeFitsLong z=true:=fun z h1 h2=>by
  unfold Builtin.Range.rangeFitsLong;simp only [Qbz,Qg2];lia
 have L:Builtin.Range.small 0 (n:Int) 1=true:=by
  unfold Builtin.Range.small;rw [hsz,C 0 (by decide) (by decide),C n (by lia) (by lia),C 1 (by decide) (by decide),Qa0 (by decide),show (n:Int) + (1 - 1)=n by lia,C n (by lia) (by lia)];simp
 refine call_list_range (I.ok.hd hc) hp L hsz (by lia) fun h' tk acc O hk hl it=>?_;refine ⟨.ref s.heap.objs.size,_,I.laid hk (Qag _) ?_,rfl,q _ I.fresh⟩;have G:acc.toList.length=n:=by exact it.1
 refine ⟨by rw [Qac,Qbl,Qhq];lia,acc.toList,O,?_,by simpa using hl⟩;have M:∀(m:Nat) (D:Ag) (k:Nat),D.length=m->(∀j v,D[j]?=some v->∃t,v=Value.int ((k + j:Nat):Int) t)->Vals ((List.range' k m).map fun i:Nat=>V.int (i:Int)) D:=by
  intro m
  induction m with
  | zero =>
   intro D k hl _;rw [Qdw hl];exact .nil
  | succ m S =>
   intro D k hl hh;cases D with
   | nil=>cases hl
   | cons u D =>
    refine .cons ?_ (S D (k + 1) (by simpa using hl) fun j v J=>?_)
    ·obtain ⟨t,e⟩:=hh 0 u rfl
     exact ⟨t,e⟩
    ·obtain ⟨t,e⟩:=hh (j + 1) v (by simpa using J)
     exact ⟨t,by grind⟩
 rw [List.range_eq_range'];refine M n acc.toList 0 G fun j v J=>?_;obtain ⟨t,e⟩:=it.2 j v (by rw [<-Qd8];exact J);exact ⟨t,by grind⟩
end
end L2
namespace L2
open PySem PySem.Spec PyProof.Rows
theorem jD{A:PySem.Around}{k:Nat}(hr:W8 k A):A.units + 2 < PySem.cLine:=Qdt (Nat.add_le_add_left (by decide:2<=64) _) hr.units
open PySem PySem.Spec PyProof.Rows
def Zgp(C:Aq)(w:Au)(K:Af)(mg:Ae)(base:Heap)(k:Nat)(sp:Sp)(P:Aw)(lpos:Pos)(qual:Str)(ta tb:TE)(n:Nat)(is:Aj)(te:TE):TE:=fun σ H Q=>ta σ H fun z D=>tb σ D fun x H1=>Yz H1 P lpos qual /\
 ∀(cs:List Aw) (f:Aw) (H2:Hp),(∀c∈cs,H1 c=none)->(∀c∈cs,∃o,H2 c=some (Xp o))->H1 f=none->(∀q,ZC H2 q->Yz (hide cs q) P lpos qual)->(∀b o,H1 b=some o->b≠P->H2 b=some o) ->
  YE C w K mg base k f H2 (Zgg n te cs (is.map fun i=>(σ[i]?).getD none))->sp [z,x,.ref f] H2 (fun v q=>Q v (hide cs q)) E0
section
variable {X:Cx}{params:Arguments}{body a:Ax}{scope:Scope}{lpos p pos:Pos}{c P g:Aw}{qual x:Str}{k kl:Nat}{gd:Ao}{pg ps ys:Ai}{is:Aj}{sp:Sp}{ta te:TE}{b:Ax}{tb:TE}
theorem uQ(F:Y9 X.prog X.w X.K X.mg X.base CX0 k g gd pg sp)(hr:W8 k X.A)(hg:Gl X x)(hm:X.mg x=some (.ref g))(hk:PySem.W.keepIn X.K (.ref g)=true)(hb:Binds X.K gd pg [])(hfn:X.fn=fun _=>true)
  (ha:QE X a ta) (hb2:QE X b tb) (hcode:X.env.code=.ref c) (C:PySem.W.CodeHd X.base c P) (B:zq X.mg X.base) (hdef:defaultsOf params X.env=([],[])) (hq:X.env.qual ++ "<lambda>" = qual)
  {S0:Scope} {N0:Ai} (hX:X.env.scope=S0) (hXN:X.N=N0) (LL:Zi4 S0 scope N0 ps ys is)
  (hbind:∀(cl:List (Str × Aw)) (pm cv ctv:Av) (us:Ag),us.length=ps.length->bindArgs (PySem.W.kla_fn "<lambda>" qual params body scope cl pm cv ctv) ⟨us,[]⟩=pure (ps.zip us))
  (hbody:∀(f c':Aw) (cl:List (Str × Aw)) (A:Ar) (outer:List Env) (s:As) (H1:Hp),W8 kl (A.deeper (PySem.W.envX qual scope s.heap.objs.size f (.ref c') cl))->QE (cxL X.prog X.w X.K X.mg X.base (ps++ys) qual scope f (.ref c') cl A outer s H1) body te)
  (hdb:(x == ("__debug__" : Str))=false:=by decide) (he:starEach [a,b,.Lambda params body scope lpos] X.env=(false,eval a X.env)::starEach [b,.Lambda params body scope lpos] X.env:=by rfl) (he2:starEach [b,.Lambda params body scope lpos] X.env=(false,eval b X.env)::starEach [.Lambda params body scope lpos] X.env:=by rfl)
  (hs2:starEach [.Lambda params body scope lpos] X.env=(false,eval (.Lambda params body scope lpos) X.env)::starEach [] X.env:=by rfl) (hpl:(backTo pos (starEach [b,.Lambda params body scope lpos] X.env)).any (·.1)=false:=by rfl) :
  QE X (.Call (.Name x p) [a,b,.Lambda params body scope lpos] [] pos) (Zgp X.prog X.w X.K X.mg X.base (kl + 1) sp P lpos qual ta tb ps.length is te):=by
 have S:=LL.sc;have Y:∀y∈scope.names,y.2=.free->X.env.scope.names.lookup y.1=some .cell:=fun y hy h=>by rw [hX];exact LL.free y hy h
 have hN:∀q∈ys.zip is,X.N[q.2]?=some q.1:=fun q hq=>by rw [hXN];exact LL.vis q hq
 have hlen:=LL.len;refine ⟨?_⟩;intro pins s σ H Q I hw;refine Qda (xZ I hg hm ?_ hdb);have hlam:=uH (X:=X) (lpos:=lpos) (params:=params) (body:=body) (scope:=scope) hcode C B hdef hq Y;refine Qgo (h₀:=X.base) I.ok.mod.kin hk ?_ he hpl;rw [he];refine Qco (thn (ha.out pins s σ H _ I hw) fun u s0 ⟨x00,H0,I0,r0,hw0⟩=>?_);rw [he2];refine Qco (thn (hb2.out pins s0 σ H0 _ I0 hw0) fun u1 s1 ⟨x0,H1,I1,r1,hT,q1⟩=>?_);rw [hs2];refine Qco (thn (hlam pins s1 σ H1 (fun v H2=>∃(f c':Aw) (oc:Obj) (ctv:Av),v=.ref f/\H1 f=none/\H2 f=some (Xp (xG X qual params body scope c' ctv))/\H2 c'=some (Xp oc)/\xF oc qual/\Yz H2 P lpos qual/\∀b o,H1 b=some o->b≠P->H2 b=some o) I1 ⟨hT,fun f c' oc ctv H2 a1 a2 a3 a4 a5 a6=>⟨f,c',oc,ctv,rfl,a1,a2,a3,a4,a5,a6⟩⟩) fun u2 s2 ⟨y,H2,O,r2,f,c',oc,ctv,hy,f1,f2,f3,f4,f5,f6⟩=>?_);subst hy;cases r2;refine Qd0 ⟨O.kIn,?_⟩;have hcell:∀d∈cellsOf X.env.cells,∃o v,s2.heap.get? d=some o/\o.data=.cell v:=fun d m=>by
  obtain ⟨y,hy⟩:=ZS.mp m;obtain ⟨v,o,ho,hd⟩:=O.cell y d hy;exact ⟨o,v,ho,hd⟩
 have M:∀d∈cellsOf X.env.cells,H2 d=none:=fun d m=>by
  obtain ⟨y,hy⟩:=ZS.mp m;exact O.freeC y d hy
 have hn1:∀d∈cellsOf X.env.cells,H1 d=none:=fun d m=>by
  obtain ⟨y,hy⟩:=ZS.mp m;exact I1.freeC y d hy
 let H3:Hp:=fun b=>if b∈cellsOf X.env.cells then (s2.heap.get? b).map Xp else H2 b;have L:∀d∈cellsOf X.env.cells,∃o v,H3 d=some (Xp o)/\o.data=.cell v/\s2.heap.get? d=some o:=fun d m=>by
  obtain ⟨o,v,e,hd⟩:=hcell d m;exact ⟨o,v,by show (if d∈cellsOf X.env.cells then _ else _)=_;rw [Qa0 m,e];rfl,hd,e⟩
 have G:∀d,d∉cellsOf X.env.cells->H3 d=H2 d:=fun d m=>Qaw m;have D:∀b o,H2 b=some o->H3 b=some o:=fun b o e=>by
  rw [G b (fun m=>by rw [M b m] at e;cases e)];exact e
 have nloc:∀d∈cellsOf X.env.cells,d≠X.env.locals:=fun d m e=>by
  obtain ⟨o,v,g,hd⟩:=hcell d m;obtain ⟨m',⟨o',es,ep,g',hd',_⟩,_⟩:=O.loc;rw [e,g'] at g;cases g;rw [hd'] at hd;cases hd
 have above:∀d∈cellsOf X.env.cells,X.s₀.heap.objs.size<=d:=fun d m=>by
  obtain ⟨y,hy⟩:=ZS.mp m;exact O.ok.cab y d (by rw [hfn]) hy
 have nfr:∀d∈cellsOf X.env.cells,d∉frs X.stack:=fun d m z=>by
  rcases Qam.mp (O.stkSub d z) with e | e
  ·exact nloc d m e
  ·obtain ⟨_,o,g,_⟩:=O.ok.funs.mem e
   exact absurd (Qan g) (Qfg.mpr (above d m))
 have hok3:HOk X.prog X.w H3 s2.heap:=fun b o e=>by
  by_cases m:b∈cellsOf X.env.cells
  ·obtain ⟨ob,v,e',hd,g⟩:=L b m
   rw [e'] at e;cases e;exact WQ g
  ·rw [G b m] at e
   exact (O.hok b o e).stay (fun _ _ _ q=>q) (fun d q=>D _ _ q) fun d xs q=>D _ _ q
 have e0:Zft X.prog X.w X.K X.mg X.base X.A X.stack s2 H3:=by
  have z:=O.env0;refine ⟨z.frames,z.mod,fun b o e=>⟨(z.bs b o e).1,?_⟩,z.bsz,z.funs,fun b hb=>?_,hok3,z.bare⟩
  ·rw [G b fun m=>?_]
   ·exact (z.bs b o e).2
   ·exact absurd (Qan e) (Qfg.mpr (Qaz O.ok.bsz (above b m)))
  ·rw [G b fun m=>nfr b m hb]
   exact z.frf b hb
 have hcl:∀y d,(Gf X.env.cells scope.names []).lookup y=some d->X.env.cells.lookup y=some d :=
  WZ (fun y hy h=>O.ok.has y.1 (.inl (Y y hy h))) fun _ _ z=>by cases z
 have hcall:YE X.prog X.w X.K X.mg X.base (kl + 1) f H3 (Zgg ps.length te (cellsOf X.env.cells) (is.map fun i=>(σ[i]?).getD none)):=by
  refine jA (ys:=ys) S (D _ _ f2) (D _ _ f3) f4 (fun y d h=>ZS.mpr ⟨y,hcl y d h⟩) (fun d m=>let ⟨o,v,e,hd,_⟩:=L d m;⟨o,v,e,hd⟩) (fun y z d h1 h2=>O.ok.inj y z d (hcl y d h1) (hcl z d h2)) (fun y h=>Xd h) (by rw [Qac,hlen]) (fun i y v h1 h2=>?_) (fun us hl=>hbind _ _ _ _ us hl) fun A outer s H1 hr=>(hbody f c' _ A outer s H1 hr).out;rw [Qai] at h2;cases hj:is[i]? with
  | none=>rw [hj] at h2;cases h2
  | some j =>
   rw [hj] at h2;have Z:(σ[j]?).getD none=some v:=Option.some.inj h2;have hσ:σ[j]?=some (some v):=by
    cases q:σ[j]? with
    | none=>rw [q] at Z;cases Z
    | some z=>rw [q] at Z;exact congrArg some Z
   have hz:(y,j)∈ys.zip is:=by
    obtain ⟨a1,e1⟩:=Qaf.mp h1;obtain ⟨a2,e2⟩:=Qaf.mp hj;rw [<-e1,<-e2,<-Qfb (h:=by rw [Qd3];lia)];exact Qbm _
   have hfr:=S.free y (Qas h1);have kc:X.env.kindOf y=some .cell:=Y _ (G1 hfr) rfl;obtain ⟨m,hm',hl⟩:=O.loc;obtain ⟨u,r,l⟩:=hl j y v (hN _ hz) hσ (.inr (.inl kc));rcases l with ⟨l1,_⟩ | ⟨_,d,l2,l3⟩
   ·rw [kc] at l1;cases l1
   ·obtain ⟨d',hd'⟩:=Xd (cells:=X.env.cells) (acc:=[]) hfr
    have e:d'=d:=by have:=hcl y d' hd';rw [l2] at this;exact (Option.some.inj this).symm
    subst e;obtain ⟨o,ho,hd⟩:=l3;obtain ⟨o',v',e',_,g'⟩:=L d' (ZS.mpr ⟨y,l2⟩);rw [ho] at g';cases g';exact ⟨d',o,u,hd',e',hd,r⟩
 have hsp:=q1 (cellsOf X.env.cells) f H3 hn1 (fun d m=>let ⟨o,_,e,_⟩:=L d m;⟨o,e⟩) f1 ?_ (fun b o e hbP=>D _ _ (f6 b o e hbP)) hcall
 ·have hl:=F.len _ _ _ _ hsp
  have rv:Vals [x00,x0,V.ref f] [u,u1,Value.ref f]:=.cons r0 (.cons r1 (.cons rfl .nil));have hlu:([u,u1,Value.ref f]++[]).length=pg.length:=hl;refine Qhm (Qet (F.run X.A X.stack s2 H3 ⟨[u,u1,.ref f],[]⟩ [u,u1,.ref f] [x00,x0,.ref f] _ _ hr e0 (by simpa using hb s2 [u,u1,.ref f] O.kIn hlu) rv hsp) fun r s' hq=>?_);cases r with
  | error e=>exact hq.elim
  | ok fl =>
   cases fl with
   | next=>exact False.elim hq
   | brk=>exact False.elim hq
   | cont=>exact False.elim hq
   | ret uu =>
    obtain ⟨v,H4,os,bare,un,hok4,rv4,q4⟩:=hq;have h4in:∀d∈cellsOf X.env.cells,∃o,H4 d=some (Xp o)/\s2.heap.get? d=some o/\s'.heap.get? d=some o:=fun d m=>by
     obtain ⟨o,v,e,hd,g⟩:=L d m;have e4:=un.frzs d o _ e;exact ⟨o,e4,g,(hok4 d _ e4).1⟩
    have J:∀d,H2 d=none->d∉cellsOf X.env.cells->H3 d=none:=fun d n m=>by rw [G d m];exact n
    have nm:∀d o,H2 d=some o->d∉cellsOf X.env.cells:=fun d o e m=>by rw [M d m] at e;cases e
    refine ⟨v,hide (cellsOf X.env.cells) H4,O.call' os ⟨fun d o e n hb hx=>?_,fun d o e n hb hx=>?_,fun d o e n hx=>?_,fun d o e hx=>un.there d o e hx,fun d xs e=>?_,fun d o u e=>?_,fun d pz e=>?_⟩ (zp hok4 fun d m=>let ⟨o,e,_⟩:=h4in d m;⟨o,e⟩) bare (fun _ z=>nomatch z),rv4,q4⟩
    ·by_cases m:d∈cellsOf X.env.cells
     ·obtain ⟨o',_,g,g'⟩:=h4in d m
      rw [e] at g;cases g;exact g'
     ·exact un.keep d o e (J d n m) hb hx
    ·by_cases m:d∈cellsOf X.env.cells
     ·obtain ⟨o',_,g,g'⟩:=h4in d m
      rw [e] at g;cases g;exact ⟨o.slots,g'⟩
     ·exact un.slot d o e (J d n m) hb hx
    ·by_cases m:d∈cellsOf X.env.cells
     ·exact Yo m
     ·rw [Zz m];exact un.free d o e (J d n m) hx
    ·rw [Zz (nm d _ e)];exact un.tups d xs (D _ _ e)
    ·rw [Zz (nm d _ e)];exact un.frzs d o u (D _ _ e)
    ·rw [Zz (nm d _ e)];exact un.tbls d pz (D _ _ e)
 ·intro H4 s4
  have out:∀b o,H2 b=some o->hide (cellsOf X.env.cells) H4 b=some o:=fun b o e=>by
   rw [Zz (fun m=>by rw [M b m] at e;cases e)];exact s4 _ _ (D _ _ e)
  rcases f5 with z | ⟨c2,oc2,z1,z2,z3⟩
  ·exact .inl (out _ _ z)
  ·exact .inr ⟨c2,oc2,out _ _ z1,out _ _ z2,z3⟩
end
def Zi8(K:Af)(i:Nat):TI:=fun σ H R=>∃a,σ[i]?=some (some (.ref a))/\(((∃xs,SqL K H a xs)/\R (Itl K a) H)\/((∃xs,SqT K H a xs)/\R (Itt K a) H))
theorem Zgq{X:Cx}{l:Ax}(hl:QE X l (jf i)):QI X o l (Zi8 X.K i):=⟨fun pins s σ H R I h=>by
 obtain ⟨a,e,h | h⟩:=h
 ·exact (Xm hl).out pins s σ H R I ⟨_,e,a,rfl,h.1,h.2⟩
 ·exact (WG hl).out pins s σ H R I ⟨_,e,a,rfl,h.1,h.2⟩⟩
section
variable {κ:Type}[DecidableEq κ]
def Y0(l:List κ)(k:κ):List κ:=if k∈l then l else l++[k]
def Zy(ks:List κ):List κ:=ks.foldl Y0 []
theorem xH(ks:List κ)(k:κ):Zy (ks++[k])=Y0 (Zy ks) k:=by
 unfold Zy;rw [Qc5]
 rfl
theorem XE{l:List κ}(h:l.Nodup)(k:κ):(Y0 l k).Nodup:=by
 unfold Y0
 split
 ·exact h
 ·grind
theorem Xr(ks:List κ):(Zy ks).Nodup:=by
 have:∀(ks l:List κ),l.Nodup->(ks.foldl Y0 l).Nodup:=by
  intro ks
  induction ks with
  | nil=>exact fun l h=>h
  | cons k r q=>exact fun l h=>q _ (XE h k)
 exact this ks [] Qci
theorem Xx{l:List κ}{k x:κ}:x∈Y0 l k↔x∈l\/x=k:=by
 unfold Y0
 split
 ·grind
 ·rw [Qca,Qat]
theorem ZY(ks:List κ)(x:κ):x∈Zy ks↔x∈ks:=by
 have:∀(ks l:List κ),x∈ks.foldl Y0 l↔x∈l\/x∈ks:=by
  intro ks
  induction ks with
  | nil=>intro l;simp
  | cons k r q =>
   intro l;rw [Qdb,q,Xx,Qam,or_assoc]
 rw [show Zy ks=ks.foldl Y0 [] from rfl,this];simp
theorem G3(l:List κ)(k:κ):(Y0 l k).length<=l.length + 1:=by
 unfold Y0
 split
 ·lia
 ·grind
theorem kf(ks:List κ):(Zy ks).length<=ks.length:=by
 have:∀(ks l:List κ),(ks.foldl Y0 l).length<=l.length + ks.length:=by
  intro ks
  induction ks with
  | nil=>exact fun l=>Qag _
  | cons k r q =>
   intro l;have h1:=q (Y0 l k);have h2:=G3 l k;rw [Qdb,Qax];lia
 have h:=this ks [];rw [Qev,Qey] at h;exact h
theorem zu(l:List κ)(k:κ):∃r,Y0 l k=l++r:=by
 unfold Y0
 split
 ·exact ⟨[],(Qb4 _).symm⟩
 ·exact ⟨[k],rfl⟩
theorem W9(ks:List κ):∀l:List κ,∃r,ks.foldl Y0 l=l++r:=by
 induction ks with
 | nil=>exact fun l=>⟨[],(Qb4 _).symm⟩
 | cons k r q =>
  intro l;obtain ⟨a,ha⟩:=zu l k;obtain ⟨b,hb⟩:=q (Y0 l k);exact ⟨a++b,by grind⟩
theorem xI(ks:List κ)(i:Nat):∃r,Zy ks=Zy (ks.take i)++r:=by
 have e:Zy ks=(ks.drop i).foldl Y0 (Zy (ks.take i)):=by
  unfold Zy;rw [<-Qc5,Qc6]
 rw [e];exact W9 _ _
theorem JA{l r:List κ}{k:κ}(h:k∈l):(l++r).idxOf k=l.idxOf k:=by grind
theorem idx_map{α β:Type}[DecidableEq α][DecidableEq β](f:α->β)(hf:∀a b,f a=f b->a=b)(s:α):∀l:List α,(l.map f).idxOf (f s)=l.idxOf s
 | []=>rfl
 | x::r=>by
  rw [Qbx,Qfs,Qfs,idx_map f hf s r]
  by_cases h:x=s
  ·grind
  ·grind
def Xs(l:List κ):List (κ × V):=l.zipIdx.map fun p=>(p.1,V.int (p.2:Int))
theorem JB(l:List κ):(Xs l).map (·.1)=l:=by
 unfold Xs;rw [Qa3];exact List.zipIdx_map_fst 0 l
theorem Wo(l:List κ):(Xs l).length=l.length:=by
 unfold Xs;rw [Qac,List.length_zipIdx]
theorem JC(l:List κ)(k:κ):Xs (l++[k])=Xs l++[(k,V.int (l.length:Int))]:=by
 unfold Xs;rw [List.zipIdx_append,Qav];simp
theorem Wq:∀(l:List κ) (k:κ),k∈l->l.Nodup->Ye (Xs l) k=some (V.int (l.idxOf k:Int)):=by
 intro l k hk hn;have hi:=Qbf hk;have hm:(k,V.int (l.idxOf k:Int))∈Xs l:=by
  refine Qau.mpr ⟨(k,l.idxOf k),?_,rfl⟩;rw [List.mem_zipIdx_iff_getElem?];simp [hi,Qad]
 have:=zj (kvs:=Xs l) (by rw [JB];exact hn) _ hm;exact this
theorem JD(l:List κ)(k:κ)(hk:k∉l):Ye (Xs l) k=none:=by
 unfold Ye;rw [Option.map_eq_none_iff,List.find?_eq_none];intro x hx z;have:x.1∈(Xs l).map (·.1):=Qb2 hx;rw [JB,Qbi z] at this;exact hk this
end
end L2
namespace EnL
open PySem PySem.Spec PyProof.Rows
open AutoSeq1 (wpAny_loadPart')
def tIt (l:Aw):Obj:={ cls:=.type "list_iterator",data:=.fields #[.ref l,.int 0 0] }
def enO (it:Aw):Obj:={ cls:=.type "enumerate",data:=.fields #[.none,.bool false,.ref it,rawInt 0,.none,.none] }
theorem Xo(l:Aw)(items:Ah) :
  Meets (Builtin.«enumerate.__new__» ⟨[.type "enumerate",.ref l],[]⟩) (fun _ R s=>s.heap.IsList l items /\
   R (.ok (.ret (.ref (s.heap.push (tIt l)).objs.size))) { s with heap:=(s.heap.push (tIt l)).push (enO s.heap.objs.size) }) :=
 .of_wp fun prog w A R s h=>by
  obtain ⟨hp,g,d,tk,os⟩:=s;obtain ⟨q,h⟩:=h;have C:=sub_enumerate;obtain ⟨⟨oc,od,D,G⟩,hl,hc,n,hd⟩:=id q;simp only at hc hd;subst hc hd
  wp_walk using wpAny_loadPart' hl
  refine wpAny_stack_any fun st=>Qae ?_
  split
  ·rename_i c _ _ _ _ _
   cases (c == Value.type "enumerate")
   ·wp_walk using wpAny_loadPart' hl,Qdz q
    exact ⟨_,rfl,h⟩
   ·wp_walk using wpAny_loadPart' hl,Qdz q
    exact ⟨_,rfl,h⟩
  ·wp_walk using wpAny_loadPart' hl,Qdz q
   exact ⟨_,rfl,h⟩
section
variable {prog:Aq}{w:Au}{A:Ar}{E:Ab}{s:As}
theorem next_of{it l:Aw}{items:_}{x:Av}(q:s.heap.IsListIter it l i)(hl:s.heap.IsList l items)(hx:items[i]?=some x)
  (G:∀h',h'.IsListIter it l (i + 1)->Heap.SameBut it s.heap h'->Q x { s with heap:=h' }):wpAny (model prog w) A (Builtin.SmallTypes.nextOf (.ref it)) Q E s:=by
 obtain ⟨o,ho,hc,hd⟩:=id q;obtain ⟨I,C,_,J,D⟩:=hl;refine Qaa (wpAny_callSpecial?_slot (name:=Str.ofString "__next__") q.typeIs Qft (Qbe Qft q.typeIs entry_listiter_next ?_ (args_listiter_next _)));show wpAny _ _ (field (.ref it) 0 >>= _) _ _ s;refine Qaa (Qbk ho hd (x:=.ref l) rfl ?_);refine Qaa (Qbk ho hd (x:=.int i 0) rfl ?_);refine Qaa (Qb7 C D ?_);simp only [Qbs,hx];refine Qaa (Qcq ho hd (by simp) (Qae ⟨x,rfl,Qae (G _ ⟨_,Qbj _ ho (Qcj (Qbo hd _)),(Qef ..).trans hc,?_⟩ (Qbt ..))⟩));rw [Qbo hd];simp [rawInt]
theorem next_no{it l:Aw}{items:_}(hh:A.handled=none)(q:s.heap.IsListIter it l i)(hl:s.heap.IsList l items)(hx:items[i]?=none)
  (G:∀h' e,Heap.ExtBut it s.heap h'->(∃o,h'.get? e=some o/\o.cls=.type "StopIteration")->E (.ref e) { s with heap:=h' }):wpAny (model prog w) A (Builtin.SmallTypes.nextOf (.ref it)) Q E s:=by
 obtain ⟨o,ho,hc,hd⟩:=id q;obtain ⟨I,D,_,J,C⟩:=hl;refine Qaa (wpAny_callSpecial?_slot (name:=Str.ofString "__next__") q.typeIs Qft (Qbe Qft q.typeIs entry_listiter_next ?_ (args_listiter_next _)));show wpAny _ _ (field (.ref it) 0 >>= _) _ _ s;refine Qaa (Qbk ho hd (x:=.ref l) rfl ?_);refine Qaa (Qbk ho hd (x:=.int i 0) rfl ?_);refine Qaa (Qb7 D C ?_);simp only [Qbs,hx];refine Qaa (Qdk (Qaa (Qcq ho hd (by simp) ?_)));refine Qaa ?_;refine Qaa (Qbh ?_ (by size_fits));refine Qaa (m:=firstArgMember _ _) (Qch (a:=Value.none) (by first | rfl | (rfl)) ?_);refine Qbh ?_ (by size_fits);refine Qaa (Qgd ?_)
 first | rw [show A.in1.handled=none from hh] | rw [hh]
 refine Qaa (Qae (Qg5 ?_));exact G _ _ (((Qbt ..).extBut.push _).push _) ⟨_,Qak _ rfl,rfl⟩
theorem yF{e it l:Aw}{items:Ah}{x:Av}
  (he:IsEnum s.heap e it i u) (hit:s.heap.IsListIter it l i) (hl:s.heap.IsList l items) (hx:items[i]?=some x) (S:e≠it)
  (hQ:∀h',IsEnumOut h' e it ((i:Int) + 1) x s.heap.objs.size->h'.IsListIter it l (i + 1) ->
   h'.get? s.heap.objs.size=some { cls:=.type "tuple",data:=.seq #[.int i s.toks,x] }->h'.objs.size=s.heap.objs.size + 1 ->
   (∀b o,b≠e->b≠it->s.heap.get? b=some o->h'.get? b=some o)->Q (.ref s.heap.objs.size) { s with heap:=h',toks:=s.toks + 1 }) :
  wpAny (model prog w) A (Builtin.«enumerate.__next__» ⟨[.ref e],[]⟩) (fun fin s'=>∃v,fin=.done (.ret v)/\Q v s') E s:=by
 obtain ⟨hp,g,d,tk,os⟩:=s;show wpAny _ _ (field (.ref e) 2 >>= _) _ _ _;refine Qaa (Qbk he rfl (x:=.ref it) rfl ?_);refine Qaa (next_of hit hl hx fun h₁ Z M=>?_);have N:IsEnum h₁ e it i u:=(M.2 e S).trans he;refine Qaa (Qbk N rfl (x:=rawInt i) rfl ?_);refine Qaa (Qbk N rfl (x:=.none) rfl ?_);refine Qaa (Qfx ?_);refine Qaa (Qbp N (by simp) fun h₂ he₂ L=>?_);refine Qaa (Qbp he₂ (by simp) fun Y he₃ J=>?_);refine Qaa (Qf0 ?_);have q:IsEnum (Y.push { cls:=.type "tuple",data:=.seq #[.int i tk,x] }) e it ((i:Int) + 1) u:=Qab _ he₃;generalize hh₄:Y.push { cls:=.type "tuple",data:=.seq #[.int i tk,x] }=I at q;have hsz:Y.objs.size=hp.objs.size:=by rw [J.1,L.1,M.1]
 have hel:e < hp.objs.size:=Qan he;have ht₄:I.get? hp.objs.size=some { cls:=.type "tuple",data:=.seq #[.int i tk,x] }:=by rw [<-hh₄,<-hsz];exact Qak _ rfl
 have hz₄:I.objs.size=hp.objs.size + 1:=by rw [<-hh₄,Qbq,hsz]
 have hk₄:∀b o,b≠e->b≠it->hp.get? b=some o->I.get? b=some o:=fun b o O hbi hb=>by
  rw [<-hh₄];exact Qab _ (J.extBut b o O (L.extBut b o O (M.extBut b o hbi hb)))
 have hit₄:I.IsListIter it l (i + 1):=by
  rw [<-hh₄];obtain ⟨o,ho,r⟩:=(Z.extBut L.extBut (Qdo S)).extBut J.extBut (Qdo S);exact ⟨o,Qab _ ho,r⟩
 show wpAny _ _ (Builtin.SmallTypes.ownedTupleIsFree (.ref e) >>= _) _ _ ⟨I,g,d,tk + 1,os⟩;rw [hsz];refine Qaa ?_
 ·refine Qaa (Qbk q rfl (x:=.none) rfl (Qae ?_))
  refine Qaa (Qdk ?_);refine Qaa (Qbk q rfl (x:=u) rfl ?_);refine Qaa (Qbp q (by simp) fun h₅ he₅ D=>?_);refine Qaa ?_
  ·refine Qaa (Qbp he₅ (by simp) fun h₆ he₆ G=>?_)
   refine Qbp he₆ (by simp) fun h₇ he₇ C=>?_;refine Qaa (Qew (Qae ⟨_,rfl,hQ h₇ he₇ ?_ ?_ ?_ ?_⟩))
   ·exact ((hit₄.extBut D.extBut (Qdo S)).extBut G.extBut (Qdo S)).extBut C.extBut (Qdo S)
   ·exact C.extBut _ _ (Qdp hel) (G.extBut _ _ (Qdp hel) (D.extBut _ _ (Qdp hel) ht₄))
   ·rw [C.1,G.1,D.1,hz₄]
   ·exact fun b o O hbi hb=>C.extBut b o O (G.extBut b o O (D.extBut b o O (hk₄ b o O hbi hb)))
theorem next_item{e it l:Aw}{items:Ah}{x:Av}{Q:Aa}
  (he:IsEnum s.heap e it i u) (C:s.heap.IsListIter it l i) (hl:s.heap.IsList l items) (hx:items[i]?=some x) (q:e≠it)
  (G:∀h',IsEnumOut h' e it ((i:Int) + 1) x s.heap.objs.size->h'.IsListIter it l (i + 1) ->
   h'.get? s.heap.objs.size=some { cls:=.type "tuple",data:=.seq #[.int i s.toks,x] }->h'.objs.size=s.heap.objs.size + 1 ->
   (∀b o,b≠e->b≠it->s.heap.get? b=some o->h'.get? b=some o)->Q (some (.ref s.heap.objs.size)) { s with heap:=h',toks:=s.toks + 1 }) :
  wpAny (model prog w) A (pyNext (.ref e)) Q E s:=by
 have D:s.TypeIs (.ref e) "enumerate" := ⟨_,he,rfl⟩;exact Qaa (Qc1 (wpAny_callSpecial?_slot (name:=Str.ofString "__next__") D Qcp (Qbe Qcp D Qeo
   (yF he C hl hx q fun h' a b c d k=>Qae (G h' a b c d k)) (Qei _))))
theorem next_end{e it l:Aw}{items:Ah}{Q:Aa}(hh:A.handled=none)
  (he:IsEnum s.heap e it i u) (C:s.heap.IsListIter it l i) (hl:s.heap.IsList l items) (hx:items[i]?=none)
  (I:∀h',Heap.ExtBut it s.heap h'->Q none { s with heap:=h' }):wpAny (model prog w) A (pyNext (.ref e)) Q E s:=by
 have G:s.TypeIs (.ref e) "enumerate" := ⟨_,he,rfl⟩;refine Qaa (Qc1 (wpAny_callSpecial?_slot (name:=Str.ofString "__next__") G Qcp (Qbe Qcp G Qeo ?_ (Qei _))));show wpAny _ _ (field (.ref e) 2 >>= _) _ _ _;refine Qaa (Qbk he rfl (x:=.ref it) rfl ?_);refine Qaa (next_no hh C hl hx fun h' x D q=>?_);obtain ⟨o,ho,hc⟩:=q;refine Qaa (Qc0 (T := "StopIteration") (b:=true) ⟨o,ho,hc⟩ Qe9 ?_);exact Qae (I _ D)
theorem call_new{l:Aw}{items:Ah}(hl:s.heap.IsList l items)
  (h:∀h',IsEnum h' (s.heap.objs.size + 1) s.heap.objs.size 0 .none->h'.IsListIter s.heap.objs.size l 0->h'.objs.size=s.heap.objs.size + 2 ->
   (∀b o,s.heap.get? b=some o->h'.get? b=some o)->Q (.ref (s.heap.objs.size + 1)) { s with heap:=h' }):wpAny (model prog w) A (call (.type "enumerate") [.ref l]) Q E s:=by
 refine Qhd F.called_enumerate (by decide) (F.typeCall_enumerate_1 _) (F.newCall_enumerate_1 _) (fun q=>Qf8 q _) F.entry_enumerate_new (Xo l items) ⟨hl,?_⟩;have C:(s.heap.push (tIt l)).objs.size=s.heap.objs.size + 1:=Qbq ..;rw [C];have he:IsEnum ((s.heap.push (tIt l)).push (enO s.heap.objs.size)) (s.heap.objs.size + 1) s.heap.objs.size 0 .none:=by
  have:=Qak (s.heap.push (tIt l)) (o:=enO s.heap.objs.size) rfl;rw [C] at this;exact this
 refine ⟨⟨_,he,rfl⟩,h _ he ⟨_,Qab _ (Qak _ rfl),rfl,rfl⟩ (by rw [Qbq,C]) fun b o x=>Qab _ (Qab _ x)⟩
end
end EnL
namespace L2
open PySem PySem.Spec PyProof.Rows
def Zi9(K:Af)(a:Aw)(n:Nat):It :=
 ⟨fun i H=>∃xs x,SqL K H a xs/\xs.length=n/\xs[i]?=some x,fun i H v H'=>∃p,H p=none/\v=.ref p/\∀xs x,SqL K H a xs->xs[i]?=some x->H'=upd H p (.tup [.int i,x]),fun i H=>∃xs,SqL K H a xs/\xs.length=n/\n<=i⟩
theorem wH{ps:Pos}(a e it:Aw)(n:Nat)(J:e≠it):Turn P w K (.Tuple B Z ps) (Zi9 K a n) [e,it] e (fun i h=>(∃q,IsEnum h e it i q)/\h.IsListIter it a i) where
 mem:=by simp
 obj:=fun i h st b hb=>by
  obtain ⟨⟨q,he⟩,o,ho,hc,hd⟩:=st;rcases Qam.mp hb with rfl | hb
  ·grind
  ·grind
 keep:=fun i h h' st k=>by
  obtain ⟨⟨q,he⟩,C⟩:=st;exact ⟨⟨q,k e (by simp) _ he⟩,C.at fun o x=>k it (by simp) o x⟩
 item:=by
  intro X hP hw S hc i pins s σ H E I hf st hg;subst hP hw S;obtain ⟨xs,x,O,hn,hx⟩:=hg;obtain ⟨its,rv,p,hz⟩:=I.list O;obtain ⟨u,hu,ru⟩:=rv.get hx;obtain ⟨⟨q,he⟩,C⟩:=st;obtain ⟨f0,f1,f2,f3,f4,f5⟩:=hf e (by simp);obtain ⟨g0,g1,g2,g3,g4,g5⟩:=hf it (by simp);have hilt:it < s.heap.objs.size:=by obtain ⟨_,z,_⟩:=C;exact Qan z
  refine EnL.next_item he C p.isList (x:=u) (by simpa using hu) J fun h' ho L hT hsz hk=>?_;refine ⟨_,rfl,wpAny_letOwnedTupleGo_enum (s:={ s with heap:=h',toks:=s.toks + 1 }) ho fun h2 he2 Y=>?_⟩;have D:Heap.SameBut e h' h2:=Y;have I1:Inv X pins σ (upd H s.heap.objs.size (.tup [.int i,x])) { s with heap:=s.heap.push { cls:=.type "tuple",data:=.seq #[.int i s.toks,u] },toks:=s.toks + 1 } :=
   I.laid (fun b o y=>Qab _ y) (Qag _) ⟨by show 2<=sizeLine;decide,[.int i s.toks,u],.cons ⟨_,rfl⟩ (.cons ru .nil),y8.new _ _⟩
  have M:∀b∈[e,it],GC X pins (upd H s.heap.objs.size (.tup [.int i,x])) b:=fun b hb=>by
   have hlb:b≠s.heap.objs.size:=by
    grind
   obtain ⟨a0,ar⟩:=hf b hb;exact ⟨by rw [Zj hlb];exact a0,ar⟩
  have I2:Inv X pins σ (upd H s.heap.objs.size (.tup [.int i,x])) { s with heap:=h2,toks:=s.toks + 1 }:=by
   refine XB (s:={ s with heap:=s.heap.push { cls:=.type "tuple",data:=.seq #[.int i s.toks,u] },toks:=s.toks + 1 }) I1 M fun b o hb y=>?_;have G:b≠e:=fun z=>hb (by simp [z]);have hbi:b≠it:=fun z=>hb (by simp [z]);rcases Qe7 y with ⟨rfl,rfl⟩ | y
   ·exact (D.2 _ G).trans hT
   ·exact (D.2 b G).trans (hk b o G hbi y)
  refine ⟨.ref s.heap.objs.size,_,I2,rfl,⟨_,I.hok.fresh (Qag _),rfl,fun ys y hy N=>?_⟩,⟨⟨u,?_⟩,L.at fun o y=>(D.2 it J.symm).trans y⟩,fun b hb=>(M b hb).1⟩
  ·rw [I.list_inj hy O,hx] at N
   cases N
   rfl
  ·grind
 done:=by
  intro X hP hw S hc i pins s σ H E I hf st hg;subst hP hw S;obtain ⟨xs,O,hn,hx⟩:=hg;obtain ⟨its,rv,p,hz⟩:=I.list O;obtain ⟨⟨q,he⟩,C⟩:=st;obtain ⟨g0,g1,g2,g3,g4,g5⟩:=hf it (by simp);have hl:=rv.length;exact EnL.next_end (I.ok.hd hc) he C p.isList (by simp;lia) fun h' eb=>⟨rfl,I.turned (t':=s.toks) (fun b o hb e=>eb b o hb e) g0 g1 g3 g4 g5⟩
 self:=fun _ _ _ _ _ st h=>let ⟨⟨_,he⟩,_⟩:=st;Qfz he h
def iEnumL(K:Af)(te:TE):TI:=fun σ H R=>te σ H fun x H1=>∃a xs,x=.ref a/\SqL K H1 a xs/\R (Zi9 K a xs.length) H1
theorem Zc2 {X:Cx}    {ps:Pos}   (hg:Gl X "enumerate") (hm:X.mg "enumerate" = none) (he:QE X e c) (hp:ZV e=true:=by rfl):QI X (.Tuple B i ps) (.Call (.Name "enumerate" p) [e] [] D) (iEnumL X.K c):=by
 refine ⟨fun pins s σ H R I h=>?_⟩;have hs:starEach [e] X.env=[(false,eval e X.env)]:=by rw [Zq hp];rfl
 refine Call_ (WE I hg hm JT (Qcf ?_ hs rfl));rw [hs];refine Qco (thn (he.out pins s σ H _ I h) fun u q ⟨x,H1,C,M,N⟩=>?_);refine Qd0 ?_;obtain ⟨a,xs,rfl,L,r⟩:=N;cases M;obtain ⟨S,Y,pt,Z⟩:=C.list L;refine EnL.call_new pt.isList fun h' J G hsz hk=>?_;have O:Inv X pins σ H1 { q with heap:=h' }:=C.kept (t':=q.toks) hk;refine Qfz J ⟨q.heap.objs.size + 1,[q.heap.objs.size + 1,q.heap.objs.size],_,_,H1,rfl,O,wH a (q.heap.objs.size + 1) q.heap.objs.size xs.length (Nat.succ_ne_self _),⟨⟨_,J⟩,G⟩,fun b hb=>?_,r⟩;rcases Qam.mp hb with rfl | hb
 ·exact C.fpOk (Qdu _) (C.hok.fresh (Qdu _))
 ·have:b=q.heap.objs.size:=by simpa using hb
  subst this;exact C.fpOk (Qag _) (C.hok.fresh (Qag _))
theorem uR{xs:A2}{j k:Nat}(C:Nat->St->Hp->Prop)(S:C 0 d H)(hl:∀i d H,i<=xs.length->C i d H->SqL K H a xs)
  (hs:∀i x d H p,xs[i]?=some x->H p=none->C i d H->q { M with nx:=C (i + 1),ct:=C (i + 1),bk:=M.nx } ((d.set j (some (.int i))).set k (some x)) (upd H p (.tup [.int i,x]))) (hd:∀d H,C xs.length d H->M.nx d H) :
  ∃W:Nat->Nat->St->Hp->Prop,(∃m,W 0 m d H)/\∀i m d H,W i m d H ->
   ((Zi9 K a xs.length).stop i H/\M.nx d H)\/((Zi9 K a xs.length).go i H/\∃N:A1,(∀D H',N D H'->∃L,L < m/\W (i + 1) L D H')/\∀x H',(Zi9 K a xs.length).yld i H x H'->(Zid K 2 (GB (WN j) (GB (WN k) Zic))) x d H' fun J H2=>q { M with nx:=N,ct:=N,bk:=M.nx } J H2):=by
 refine ⟨fun i m d H=>m=xs.length - i/\i<=xs.length/\C i d H,⟨xs.length,by simp,Qbc _,S⟩,?_⟩;rintro i m d H ⟨rfl,hi,p⟩;have I:=hl i d H hi p
 by_cases G:i < xs.length
 ·have hx:=Qad G
  refine .inr ⟨⟨xs,xs[i],I,rfl,hx⟩,C (i + 1),fun D H' O=>⟨xs.length - (i + 1),by lia,rfl,G,O⟩,fun v H' y=>?_⟩;obtain ⟨t,Y,rfl,y⟩:=y;have e:=y xs _ I hx;subst e;exact ⟨t,_,rfl,SqT.of Za,rfl,_,_,rfl,_,_,rfl,rfl,hs i _ d H t hx Y p⟩
 ·have e:i=xs.length:=by lia
  exact .inl ⟨⟨xs,I,rfl,by lia⟩,by rw [e] at p;exact hd d H p⟩
end L2
namespace L2
open PySem PySem.Spec PyProof.Rows
section
variable {κ β:Type}[DecidableEq κ][DecidableEq β]
def XH(ks:List κ):Aj:=ks.map fun k=>(Zy ks).idxOf k
theorem kg(ks:List κ):(XH ks).length=ks.length:=Qac ..
theorem G4(ks:List κ)(i:Nat):(XH ks)[i]?=(ks[i]?).map fun k=>(Zy ks).idxOf k:=Qai ..
theorem yW{l:List κ}{a b:κ}(ha:a∈l)(h:l.idxOf a=l.idxOf b)(hb:b∈l):a=b:=by
 have h1:=List.getElem_idxOf (Qbf ha);have h2:=List.getElem_idxOf (Qbf hb);rw [<-h1,<-h2];simp only [h]
theorem zv{ks:List κ}{j:Nat}{a b:κ}(ha:ks[i]?=some a)(hb:ks[j]?=some b):(XH ks)[i]?=(XH ks)[j]?↔a=b:=by
 rw [G4,G4,ha,hb]
 constructor
 ·intro h
  exact yW ((ZY ks a).mpr (Qas ha)) (Option.some.inj h) ((ZY ks b).mpr (Qas hb))
 ·intro h
  rw [h]
theorem kh(f:κ->β)(l:List κ)(k:κ)(h:∀a∈l,f a=f k->a=k):Y0 (l.map f) (f k)=(Y0 l k).map f:=by
 unfold Y0
 by_cases hk:k∈l
 ·grind
 ·grind
theorem zw(f:κ->β)(ks:List κ)(h:∀a∈ks,∀b∈ks,f a=f b->a=b):Zy (ks.map f)=(Zy ks).map f:=by
 have q:∀(ks l:List κ),(∀a,a∈l\/a∈ks->∀b,b∈l\/b∈ks->f a=f b->a=b)->(ks.map f).foldl Y0 (l.map f)=(ks.foldl Y0 l).map f:=by
  intro ks
  induction ks with
  | nil=>exact fun l _=>rfl
  | cons k r C =>
   intro l hh;rw [Qbx,Qdb,Qdb,kh f l k fun a ha e=>hh a (.inl ha) k (.inr Qah) e];refine C _ fun a ha b hb=>hh a ?_ b ?_
   ·rcases ha with ha | ha
    ·rcases Xx.mp ha with z | z
     ·exact .inl z
     ·exact .inr (z ▸ Qah)
    ·exact .inr (Qal _ ha)
   ·rcases hb with ha | ha
    ·rcases Xx.mp ha with z | z
     ·exact .inl z
     ·exact .inr (z ▸ Qah)
    ·exact .inr (Qal _ ha)
 exact q ks [] fun a ha b hb=>h a (ha.resolve_left Qa7) b (hb.resolve_left Qa7)
theorem uS(f:κ->β)(s:κ):∀l:List κ,(∀a∈l,f a=f s->a=s)->(l.map f).idxOf (f s)=l.idxOf s
 | [],_=>rfl
 | x::r,h=>by
  rw [Qbx,Qfs,Qfs,uS f s r fun a ha=>h a (Qal _ ha)]
  by_cases e:x=s
  ·grind
  ·grind
theorem zx(f:κ->β)(ks:List κ)(h:∀a∈ks,∀b∈ks,f a=f b->a=b):XH (ks.map f)=XH ks:=by
 unfold XH;rw [Qa3,zw f ks h];refine Qbu fun k hk=>?_;exact uS f k _ fun a ha e=>h a ((ZY ks a).mp ha) k hk e
theorem uT(ks:List κ):∀a∈ks,∀b∈ks,(Zy ks).idxOf a=(Zy ks).idxOf b->a=b:=fun a ha b hb e=>yW ((ZY ks a).mpr ha) e ((ZY ks b).mpr hb)
theorem GY(ks:List κ):XH (XH ks)=XH ks:=zx (fun k=>(Zy ks).idxOf k) ks (uT ks)
theorem uU(ks:List κ):(Zy (XH ks)).length=(Zy ks).length:=by
 unfold XH;rw [zw _ ks (uT ks),Qac]
theorem XF:∀{l1 l2:List κ},l1.Nodup->(∀x∈l1,x∈l2)->l1.length<=l2.length
 | [],_,_,_=>Qbc _
 | a::r,l2,h1,hs=>by
  rw [Qbr] at h1;have ha:=hs a Qah;have:=XF (l1:=r) (l2:=l2.erase a) h1.2 fun x hx=>(Qgb (show x≠a from fun z=>h1.1 (z ▸ hx))).mpr (hs x (Qal _ hx));rw [Qfh ha] at this;have hp:=Qep ha;rw [Qax];lia
theorem ki:∀{l1 l2:List κ},l1.Nodup->(∀x∈l1,x∈l2)->l2.length<=l1.length->l2.Nodup
 | [],l2,_,_,hl=>by
  grind
 | a::r,l2,h1,hs,hl=>by
  rw [Qbr] at h1;have ha:=hs a Qah;have q:∀x∈r,x∈l2.erase a:=fun x hx=>(Qgb (show x≠a from fun z=>h1.1 (z ▸ hx))).mpr (hs x (Qal _ hx));have D:=Qfh ha;rw [Qax] at hl;have I:=ki h1.2 q (by lia);have C:a∉l2.erase a:=fun z=>by
   have:=XF (l1:=r) (l2:=(l2.erase a).erase a) h1.2 fun x hx=>(Qgb (show x≠a from fun z=>h1.1 (z ▸ hx))).mpr (q x hx);rw [Qfh z] at this;have G:=Qep z;lia
  exact (List.perm_cons_erase ha).nodup_iff.mpr (Qbr.mpr ⟨C,I⟩)
theorem jE(f:κ->β)(ks:List κ)(h:(Zy ks).length<=(Zy (ks.map f)).length):∀a∈ks,∀b∈ks,f a=f b->a=b:=by
 have hn:((Zy ks).map f).Nodup:=ki (Xr (ks.map f)) (fun x hx=>by
  obtain ⟨k,hk,e⟩:=Qau.mp ((ZY _ x).mp hx);exact Qau.mpr ⟨k,(ZY ks k).mpr hk,e⟩) (by rw [Qac];exact h)
 intro a ha b hb e;have q:=Qbf ((ZY ks a).mpr ha);have G:=Qbf ((ZY ks b).mpr hb);have C:((Zy ks).map f)[(Zy ks).idxOf a]?=some (f a):=by
  grind
 have D:((Zy ks).map f)[(Zy ks).idxOf b]?=some (f b):=by
  grind
 have:=(List.getElem?_inj (i:=(Zy ks).idxOf a) (j:=(Zy ks).idxOf b) (by rw [Qac];exact q) hn).mp (by rw [C,D,e]);exact yW ((ZY ks a).mpr ha) this ((ZY ks b).mpr hb)
theorem Zgr{ks:List κ}{m:Nat}(h:m∈XH ks):m < (Zy ks).length:=by
 obtain ⟨k,hk,rfl⟩:=Qau.mp h;exact Qbf ((ZY ks k).mpr hk)
theorem Zc3{ks:List κ}{m:Nat}(h:m∈XH ks)(hm:∀n∈XH ks,n<=m):m + 1=(Zy ks).length:=by
 have h1:=Zgr h;have hl:(Zy ks).length - 1 < (Zy ks).length:=by lia
 have hk:(Zy ks)[(Zy ks).length - 1]∈ks:=(ZY ks _).mp (Qbm hl);have hi:(Zy ks).idxOf (Zy ks)[(Zy ks).length - 1]=(Zy ks).length - 1:=List.Nodup.idxOf_getElem (Xr ks) _ hl;have:=hm _ (Qau.mpr ⟨_,hk,rfl⟩);lia
end
theorem wI{b1 b2:Bool}{xs ys:A2}{is:Aj}{Q:VK}(q:Nat->List V->Hp->Prop)(O:q 0 [] H)(hl:∀i zs H,q i zs H->zs.length<=sizeLine)(N:∀i zs H,q i zs H->SqB K b1 H a xs/\SqB K b2 H f ys)
  (hs:∀i x y p zs H (R:A2->Hp->Prop),(∀zs H,q (i + 1) zs H->R zs H)->xs[i]?=some x->ys[i]?=some y->q i zs H->H p=none->G (yQ is d (some x) (some y)) (upd H p (.tup [x,y])) fun b H2=>if b=true then I (yQ is d (some x) (some y)) H2 fun y S=>R (zs++[y]) S else R zs H2)
  (hd:∀zs H,q (xs.zip ys).length zs H->∀p,H p=none->Q (.ref p) (upd H p (.lst zs))) :
  uN K is G I d Q (Itz K b1 b2 a f) H:=by
 refine ⟨fun i m zs H=>m=(xs.zip ys).length - i/\i<=(xs.zip ys).length/\q i zs H,⟨(xs.zip ys).length,by simp,Qbc _,O⟩,?_⟩;rintro i m zs H ⟨rfl,hi,p⟩;obtain ⟨D,J⟩:=N i zs H p;have Y:(xs.zip ys).length=min xs.length ys.length:=Qd3
 by_cases C:i < (xs.zip ys).length
 ·have l1:i < xs.length:=by lia
  have l2:i < ys.length:=by lia
  refine .inr ⟨⟨xs,ys,xs[i],ys[i],D,J,Qad l1,Qad l2⟩,hl i zs H p,fun x H' y=>?_⟩;obtain ⟨c,hc,rfl,e⟩:=y;rw [e xs ys _ _ D J (Qad l1) (Qad l2)];exact ⟨c,_,_,rfl,SqT.of Za,hs i _ _ c zs H (fun zs H=>∃L,L < (xs.zip ys).length - i/\(fun i m zs H=>m=(xs.zip ys).length - i/\i<=(xs.zip ys).length/\q i zs H) (i + 1) L zs H) (fun zs H M=>⟨(xs.zip ys).length - (i + 1),by lia,rfl,C,M⟩) (Qad l1) (Qad l2) p hc⟩
 ·have e:i=(xs.zip ys).length:=by lia
  subst e;exact .inl ⟨⟨xs,ys,D,J,by lia⟩,hl _ zs H p,hd zs H p⟩
section
variable {X:Cx}
theorem Zc4[DecidableEq g]{kn:KN g}{kvs:List (g × V)}{xs:List (g × Aw × Av)}(D:Paired (fun (p:g × V) (q:g × Aw × Av)=>p.1=q.1/\kn.at_ H q.1 q.2.1/\RelV p.2 q.2.2) kvs xs)(k:g):(atKey xs k).isSome=(Ye kvs k).isSome:=by
 have pa:=Wn (fun p q h=>h.1) D k;cases hv:Ye kvs k with
 | none=>rw [pa.2 hv];rfl
 | some x =>
  obtain ⟨q,C,_⟩:=pa.1 x hv;rw [C]
  rfl
def rNInN:R2:=fun x y H Q=>∃(Kk:Type) (_:DecidableEq Kk) (kn:KN Kk) (d a:Aw) (k:Kk) (kvs:List (Kk × V)),x=.ref a/\y=.ref d/\J2 kn H d kvs/\kn.at_ H k a/\Q (.bl (!(Ye kvs k).isSome)) H
theorem uV(G:X.A.units + 2 < cLine):OpR X (compareOp .NotIn) rNInN:=by
 intro pins s σ H x y v u Q I C D h;obtain ⟨Kk,_,kn,d,a,k,kvs,rfl,rfl,n,hk,q⟩:=h;cases C;cases D;obtain ⟨xs,dd,J,L,hm⟩:=n.dict I;refine wpAny_notIn_heap (kn.room _ _ _ G) (kn.ok _ _ _ _ _ _ I.hok hk) hm dd ?_;rw [Zc4 J];exact ⟨.bl _,H,I.tok _,rfl,q⟩
def tNGet(td ty:TE):TE:=fun σ H Q=>td σ H fun x H1=>ty σ H1 fun y H2=>∃(Kk:Type) (_:DecidableEq Kk) (kn:KN Kk) (d a:Aw) (k:Kk) (kvs:List (Kk × V)) (v:V),x=.ref d/\y=.ref a/\J2 kn H2 d kvs/\kn.at_ H2 k a/\Ye kvs k=some v/\Q v H2
theorem Zgs{i:Ax}(hu:X.A.units + 2 < cLine)(ho:QE X o c)(hi:QE X i I)(hs:Zjy i):QE X (.Subscript o i D) (tNGet c I):=⟨by
 intro pins s σ H Q C h;refine uy PySem.F.slot_dict_getitem.lookup hs (thn (ho.out pins s σ H _ C h) fun u N ⟨x,H1,I1,L,q1⟩=>thn (hi.out pins N σ H1 _ I1 q1) fun S s2 ⟨y,H2,J,O,Kk,_,kn,d,a,k,kvs,v,ex,Z,n,hk,hv,q2⟩=>?_);subst ex;subst Z;obtain rfl:u=Value.ref d:=L;obtain rfl:S=Value.ref a:=O;obtain ⟨xs,dd,Y,mu,hm⟩:=n.dict J;obtain ⟨q,M,p',G,e⟩:=(Wn (fun p q h=>h.1) Y k).1 v hv;refine ⟨dd.typeIs,wpAny_getItem_heap (kn.room _ _ _ hu) (kn.ok _ _ _ _ _ _ J.hok hk) dd M ⟨v,H2,J.tok _,e ▸ G.2.2,q2⟩⟩⟩
def sNPut(td ty tv:TE):TS:=fun D σ H=>tv σ H fun v H1=>td σ H1 fun x H2=>ty σ H2 fun y q=>∃(Kk:Type) (_:DecidableEq Kk) (kn:KN Kk) (d a:Aw) (k:Kk) (kvs:List (Kk × V)),x=.ref d/\y=.ref a/\J2 kn q d kvs/\kn.at_ q k a/\Ye kvs k=none/\kvs.length + 1 < sizeLine /\
 ∀H',J2 kn H' d (kvs++[(k,v)])->(∀b o,q b=some o->b≠d->H' b=some o)->(∃o,H'=upd q d o)->D.nx σ H'
theorem Zgt{i:Ax}{tv:TE}{pos':Pos}(hu:X.A.units + 2 < cLine)(ho:QE X o c)(hi:QE X i I)(hv:QE X e tv)(hs:swapsWith e (some (.Subscript o i pos')) D.line X.env=pure false):QS X (.Assign [.Subscript o i pos'] e D) (sNPut c I tv):=⟨by
 intro pins s σ H M C h;refine wpAny_Assign_Subscript (thn (hv.out pins s σ H _ C h) fun r S ⟨v,H1,I1,rv,q1⟩=>thn (ho.out pins S σ H1 _ I1 q1) fun u s2 ⟨x,H2,I2,N,q2⟩=>thn (hi.out pins s2 σ H2 _ I2 q2) fun iv s3 ⟨y,H3,L,Y,Kk,_,kn,d,a,k,kvs,ex,ey,n,hk,hv,hz,q3⟩=>?_) hs;subst ex;subst ey;obtain rfl:u=Value.ref d:=N;obtain rfl:iv=Value.ref a:=Y;obtain ⟨xs,dd,J,Z,hm⟩:=n.dict L;have G:atKey xs k=none:=(Wn (fun p q h=>h.1) J k).2 hv;refine wpAny_setItem_heap (kn.room _ _ _ hu) (kn.ok _ _ _ _ _ _ L.hok hk) dd (fun h' dd' sb=>?_) (by rw [<-Qfk J];lia);rw [storedH_new G] at dd';obtain ⟨H',n',k',o',O⟩:=zt L n hk rv hz J Z hm hv dd' sb;exact ⟨σ,H',O,q3 H' n' k' o'⟩⟩
end
theorem ZZ:∀(names:List (Str × NameKind)) (n:Nat) (acc:List (Str × Aw)),cellsFrom n names acc=cellsFrom n names []++acc
 | [],_,_=>rfl
 | (x,k)::r,n,acc=>by
  unfold cellsFrom
  split
  ·rw [ZZ r (n + 1) ((x,n)::acc),ZZ r (n + 1) [(x,n)],Qb9]
   rfl
  ·exact ZZ r n acc
theorem JE:∀(names:List (Str × NameKind)) (n:Nat) {x:Str} {c:Aw},(x,c)∈cellsFrom n names []->(x,NameKind.cell)∈names
 | [],_,_,_,h=>nomatch h
 | (y,k)::r,n,x,c,h=>by
  unfold cellsFrom at h
  split at h
  ·rename_i hk
   rw [ZZ] at h;rcases Qca.mp h with h | h
   ·exact Qal _ (JE r (n + 1) h)
   ·grind
  ·exact Qal _ (JE r n h)
theorem WA:∀{l r:List (Str × g)},(l++r).lookup x=match l.lookup x with | some c=>some c | none=>r.lookup x
 | [],r=>rfl
 | (y,c)::l,r=>by
  grind
section
variable {M:Model}{A:Ar}{E:Ab}{s:As}
theorem Zgu{scope:Scope}{globals:Aw}{q:List (Str × Aw)}{binds:List (Str × Av)}{qual:Str}{func:Option Aw}{code:Av}{builtins:Aw}{Q:Env->Shared->Prop}
  (hk:scope.kind=.function) (hl:∀x∈binds,scope.names.lookup x.1=some .local)
  (Y:∀h' tk,h'.Ns s.heap.objs.size (fun x=>binds.reverse.lookup x)->(∀b o,s.heap.get? b=some o->h'.get? b=some o)->(∀n c,(n,c)∈cellsFrom (s.heap.objs.size + 1) scope.names []->h'.IsCell c none/\s.heap.objs.size < c) ->
   ((cellsFrom (s.heap.objs.size + 1) scope.names []).Pairwise fun x y=>x.2≠y.2)->Q (newEnv scope s.heap.objs.size globals (cellsFrom (s.heap.objs.size + 1) scope.names q) qual func code none builtins) { s with heap:=h',toks:=tk }) :
  wpAny M A (newFunctionEnv scope globals q binds qual func code none builtins) Q E s:=by
 simp only [newFunctionEnv,Option.isSome_none,Qb5,Qho];refine Qaa (wpAny_alloc ?_);refine Qaa (wpAny_layCells _ (fun name kind cells=>by grind) _ _ _ _ ?_);have ok:=cellsFrom_ok scope.names (s.heap.push { cls:=.type "frame",data:=.dict #[] }) (s.heap.objs.size + 1) [] ⟨fun _ _ hm=>(nomatch hm),List.Pairwise.nil⟩ (by rw [Qbq];exact Qag _);rw [Qbq] at ok;rw [show ({ s with heap:=s.heap.push { cls:=.type "frame",data:=.dict #[] } }:As).heap.objs.size=s.heap.objs.size + 1 from Qbq ..];refine Qaa (wpAny_forIn_list _
  (fun rest _ s'=>∃C h',binds=C++rest/\s'={ s with heap:=h',toks:=s.toks + C.length }/\h'.Ns s.heap.objs.size (fun x=>C.reverse.lookup x) /\
   Heap.SameBut s.heap.objs.size (pushCells (s.heap.push { cls:=.type "frame",data:=.dict #[] }) scope.names) h') _ ?_ ?_ binds _
  ⟨[],_,rfl,rfl,(Heap.Ns.new s.heap (.type "frame")).keeps (pushCells_keeps _ _),Heap.SameBut.refl ..⟩)
 ·rintro ⟨name,v⟩ rest _ s' ⟨C,h',hb,rfl,G,D⟩
  have L:Env.kindOf { scope,locals:=s.heap.objs.size,globals,cells:=cellsFrom (s.heap.objs.size + 1) scope.names q,qual,func,code,frame:=some s.heap.objs.size,builtins } name=some .local:=hl (name,v) (by rw [hb];simp);have hp:((scope.kind == .class) || ((scope.kind == .module) && (s.heap.objs.size != globals)))=false:=by rw [hk];rfl
  simp only [storeName_local L hp];refine Qaa (wpAny_nsSet G fun N J I=>Qae ⟨C++[(name,v)],N,by simp [hb],?_,?_,D.trans I⟩)
  ·simp [Qg7]
  ·rw [lookup_reverse_snoc];exact J
 ·rintro _ s' ⟨C,h',hb,rfl,G,D⟩
  rw [Qb4] at hb;subst hb;refine Qae (Y h' _ G (fun b o e=>?_) (fun n c hm=>?_) ok.apart)
  ·exact D.extBut b o (Qbd (Qan e)) (pushCells_keeps _ _ b o (Qab _ e))
  ·obtain ⟨S,O⟩:=ok.empty n c hm
   exact ⟨S.sameBut D (Qdp O),O⟩
end
structure Zgv(scope:Scope)(ps ls ys:Ai):Prop where
 kind:scope.kind=.function
 co:scope.isCoroutine=false
 gen:scope.isGenerator=false
 par:∀p∈ps,scope.names.lookup p=some .local
 free:∀y∈ys,scope.names.lookup y=some .free
 nd:(ps++(ls++ys)).Nodup
 ndn:(scope.names.map (·.1)).Nodup
def cxN(P:Aq)(w:Au)(K:Af)(mg:Ae)(base:Heap)(N:Ai)(qual:Str)(scope:Scope)(f:Aw)(q:Av)(cl:List (Str × Aw))(A:Ar)(outer:List Env)(s:As)(H:Hp):Cx where
 prog:=P
 w:=w
 K:=K
 mg:=mg
 base:=base
 A:=A.deeper (PySem.W.envX qual scope s.heap.objs.size f q (cellsFrom (s.heap.objs.size + 1) scope.names cl))
 N:=N
 s₀:=s
 H₀:=H
 env:=PySem.W.envX qual scope s.heap.objs.size f q (cellsFrom (s.heap.objs.size + 1) scope.names cl)
 outer:=outer
 stack:=PySem.W.envX qual scope s.heap.objs.size f q (cellsFrom (s.heap.objs.size + 1) scope.names cl)::outer
 ex:=[]
 calm:=true
 fn:=fun x=>scope.names.lookup x == some .cell
 pn:=[]
 xe:=fun _ _=>False
def Zet(n m:Nat)(ts:TS)(cs:List Aw)(q:List (Option V)):Sp:=fun vs H Q _=>vs.length=n/\ts { nx:=fun _ H'=>(∀c∈cs,H' c=none)->Q .non (XD cs H H'),rt:=fun v H'=>(∀c∈cs,H' c=none)->Q v (XD cs H H') } (vs.map some++(List.replicate m none++q)) (hide cs H)
section
variable {P:Aq}{w:Au}{K:Af}{mg:Ae}{base:Heap}
theorem zy{k:Nat}{name qual:Str}{params:Arguments}{body:List Ay}{scope:Scope}{cl:List (Str × Aw)}{doc pm ctv:Av}{ps ls ys:Ai}{cv:List (Option V)}
  (S:Zgv scope ps ls ys) (hf:H f=some (Xp (PySem.W.fnMade name qual params body scope cl doc pm T ctv))) (hc:H T=some (Xp J)) (hoc:xF J qual)
  (hcl:∀x c,cl.lookup x=some c->c∈L) (hcs:∀c∈L,∃o v,H c=some (Xp o)/\o.data=.cell v)
  (inj:∀x y c,cl.lookup x=some c->cl.lookup y=some c->x=y) (has:∀x,scope.names.lookup x=some .free->∃c,cl.lookup x=some c)
  (hcv:cv.length=ys.length) (hval:∀(i:Nat) (y:Str) (v:V),ys[i]?=some y->cv[i]?=some (some v)->∃c o u,cl.lookup y=some c/\H c=some (Xp o)/\o.data=.cell (some u)/\RelV v u)
  (hb:∀us:Ag,us.length=ps.length->bindArgs (PySem.W.fnX name qual params body scope cl .none .none doc pm none (.ref T) ctv) ⟨us,[]⟩=pure (ps.zip us))
  (hbody:∀(A:Ar) (outer:List Env) (s:As) (H1:Hp),W8 k (A.deeper (PySem.W.envX qual scope s.heap.objs.size f (.ref T) (cellsFrom (s.heap.objs.size + 1) scope.names cl)))->PSs (cxN P w K mg base (ps++(ls++ys)) qual scope f (.ref T) cl A outer s H1) body q) :
  YE P w K mg base (k + 1) f H (Zet ps.length ls.length q L cv):=by
 refine ⟨⟨_,_,hf,rfl⟩,?_⟩;intro A outer s H1 us vs Q E fz hr M r ht;obtain ⟨hl,ht⟩:=ht;have gf:s.heap.get? f=some (PySem.W.fnMade name qual params body scope cl doc pm T ctv):=(M.hok f _ (fz _ _ _ hf)).1;have Y:∀c∈L,∃o v,H1 c=some (Xp o)/\o.data=.cell v/\s.heap.get? c=some o:=fun c m=>by
  obtain ⟨o,v,e,d⟩:=hcs c m;exact ⟨o,v,fz _ _ _ e,d,(M.hok c _ (fz _ _ _ e)).1⟩
 have hcs2:∀c∈L,∃o,H1 c=some (Xp o):=fun c m=>let ⟨o,_,e,_⟩:=Y c m;⟨o,e⟩;obtain ⟨vs0,t0,hd0,hv0⟩:=hoc;have lim:s.heap.NoLimit:=M.mod.nolimit.keeps fun b o e=>(M.bs b o e).1;have lus:us.length=ps.length:=by rw [<-r.length];exact hl
 refine codeAny_call_function hr.depth gf rfl S.co S.gen rfl ⟨T,J,vs0,t0,rfl,(M.hok T _ (fz _ _ _ hc)).1,hd0,hv0⟩ ?_;rw [hb us lus];refine Qae (Zgu S.kind (fun x hx=>S.par _ (Qed hx).1) fun h₁ tk hns old O hap=>⟨lim.keeps old,codeAny_func ?_⟩);have ndp:ps.Nodup:=(Qe4.mp S.nd).1;have look:∀x c,(cellsFrom (s.heap.objs.size + 1) scope.names cl).lookup x=some c->((x,c)∈cellsFrom (s.heap.objs.size + 1) scope.names []/\(cellsFrom (s.heap.objs.size + 1) scope.names []).lookup x=some c)\/cl.lookup x=some c:=fun x c e=>by
  rw [ZZ,WA] at e;cases C:(cellsFrom (s.heap.objs.size + 1) scope.names []).lookup x with
  | none=>rw [C] at e;exact .inr e
  | some d=>rw [C] at e;cases e;exact .inl ⟨Qcc C,rfl⟩
 have G:∀x,scope.names.lookup x=some .free->(cellsFrom (s.heap.objs.size + 1) scope.names cl).lookup x=cl.lookup x:=fun x hx=>by
  rw [ZZ,WA];cases C:(cellsFrom (s.heap.objs.size + 1) scope.names []).lookup x with
  | none=>rfl
  | some d =>
   have m1:=JE scope.names _ (Qcc C);have m2:=Qcc hx;have:∀{l:List (Str × NameKind)},(l.map (·.1)).Nodup->(x,NameKind.cell)∈l->(x,NameKind.free)∈l->False:=fun {l} nd a b=>by
    induction l with
    | nil=>cases a
    | cons p l ih =>
     rw [Qbx,Qbr] at nd;rcases Qam.mp a with a | a <;> rcases Qam.mp b with b | b
     ·rw [<-a] at b;cases b
     ·exact nd.1 (by rw [<-a];exact Qb2 (f:=(·.1)) b)
     ·exact nd.1 (by rw [<-b];exact Qb2 (f:=(·.1)) a)
     ·exact ih nd.2 a b
   exact (this S.ndn m1 m2).elim
 have oldC:∀x c,cl.lookup x=some c->c < s.heap.objs.size:=fun x c e=>by
  obtain ⟨o,v,_,_,g⟩:=Y c (hcl x c e);exact Qan g
 have I:Inv (cxN P w K mg base (ps++(ls++ys)) qual scope f (.ref T) cl A outer s (hide L H1)) [] (vs.map some++(List.replicate ls.length none++cv)) (hide L H1) { s with heap:=h₁,toks:=tk }:=by
  have noA:∀b:Aw,b∉([]:List Aw):=fun b z=>nomatch z;refine ⟨⟨M.mod,S.kind,rfl,rfl,Qag _,fun x y c h1 h2=>?_,fun y Z=>?_,fun y c Z h=>?_,fun _=>hr.hd,Qf6 M.frames,.inr ⟨rfl,rfl⟩,fun b z=>absurd z (noA b),fun b o e=>⟨(M.bs b o e).1,?_⟩,M.bsz,fun b _ _=>noA b,fun b z=>absurd z (noA b),M.funs,fun b hb=>?_⟩,
   rfl,M.bare,Un.kept old,⟨_,hns,fun i y v h1 h2 h3=>?_⟩,fun y c h=>?_,?_,fun y c h=>?_,fun p hp=>absurd (show p∈([]:Ac) from hp) (by simp),(zp M.hok hcs2).kept old,?_⟩
  ·rcases look x c h1 with ⟨m1,_⟩ | l1 <;> rcases look y c h2 with ⟨m2,_⟩ | l2
   ·exact name_of_addr hap m1 m2
   ·exact absurd (oldC y c l2) (Qfg.mpr (Qa9 (O x c m1).2))
   ·exact absurd (oldC x c l1) (Qfg.mpr (Qa9 (O y c m2).2))
   ·exact inj x y c l1 l2
  ·have Z:scope.names.lookup y=some .cell\/scope.names.lookup y=some .free:=Z
   rcases Z with Z | Z
   ·obtain ⟨c,e⟩:=Gz (n:=s.heap.objs.size + 1) Z
    exact ⟨c,by show (cellsFrom (s.heap.objs.size + 1) scope.names cl).lookup y=_;rw [ZZ,WA,e]⟩
   ·obtain ⟨c,e⟩:=has y Z
    exact ⟨c,by show (cellsFrom (s.heap.objs.size + 1) scope.names cl).lookup y=_;rw [G y Z,e]⟩
  ·have Z:scope.names.lookup y=some .cell:=eq_of_beq (show (scope.names.lookup y == some .cell)=true from Z)
   obtain ⟨d,e⟩:=Gz (n:=s.heap.objs.size + 1) Z;have h':(cellsFrom (s.heap.objs.size + 1) scope.names cl).lookup y=some c:=h;rw [ZZ,WA,e] at h';cases h';exact Qa9 (O y _ (Qcc e)).2
  ·by_cases m:b∈L
   ·exact Yo m
   ·exact (Zz m).trans (M.bs b o e).2
  ·by_cases m:b∈L
   ·exact Yo m
   ·exact (Zz m).trans (M.frf b hb)
  ·by_cases hi:i < vs.length
   ·rw [Qbg (by simpa using hi),Qai] at h2
    have ha:vs[i]?=some v:=by
     cases e:vs[i]? with
     | none=>rw [e] at h2;cases h2
     | some a=>rw [e] at h2;cases h2;rfl
    obtain ⟨u,hu,rv⟩:=r.get ha;have N:(ps++(ls++ys))[i]?=some y:=h1;rw [Qbg (by lia)] at N;exact ⟨u,rv,.inl ⟨S.par y (Qas N),xE ndp N hu lus.symm⟩⟩
   ·rw [Qa8 (by simpa using hi),Qac] at h2
    have N:(ps++(ls++ys))[i]?=some y:=h1;rw [Qa8 (by lia),<-hl] at N
    by_cases hj:i - vs.length < ls.length
    ·rw [Qbg (by rw [Qa1];exact hj),List.getElem?_replicate] at h2
     split at h2 <;> cases h2
    ·rw [Qa8 (by rw [Qa1];lia),Qa1] at h2
     rw [Qa8 (by lia)] at N;obtain ⟨c,o,u,e1,e2,e3,rv⟩:=hval _ y v N h2;have hfy:=S.free y (Qas N);exact ⟨u,rv,.inr ⟨.inr hfy,c,(G y hfy).trans e1,o,old _ _ (M.hok c _ (fz _ _ _ e2)).1,e3⟩⟩
  ·rcases look y c h with ⟨m1,_⟩ | l1
   ·exact ⟨none,(O y c m1).1⟩
   ·obtain ⟨o,v,_,d,g⟩:=Y c (hcl y c l1)
    exact ⟨v,o,old _ _ g,d⟩
  ·show hide L H1 s.heap.objs.size=none
   by_cases m:s.heap.objs.size∈L
   ·exact Yo m
   ·rw [Zz m];exact M.hok.fresh (Qag _)
  ·rcases look y c h with ⟨m1,_⟩ | l1
   ·by_cases m:c∈L
    ·exact Yo m
    ·rw [Zz m];exact M.hok.fresh (Qa9 (O y c m1).2)
   ·exact Yo (hcl y c l1)
  ·show (vs.map some++(List.replicate ls.length none++cv)).length=(ps++(ls++ys)).length
   rw [Qap,Qap,Qap,Qap,Qac,Qa1,hl,hcv]
 refine Qdj (hbody A outer s (hide L H1) (hr.deeper _) [] _ _ _ _ I ht) (fun fl s' hs=>?_) fun _ _ z=>z.elim;have nfr:∀c∈L,c∉frs outer:=fun c m z=>by
  obtain ⟨o,e⟩:=hcs2 c m;rw [M.frf c z] at e;cases e
 have hh:∀d,H1 d=none->hide L H1 d=none:=fun d n=>by
  by_cases m:d∈L
  ·exact Yo m
  ·rw [Zz m];exact n
 have nm:∀d o,H1 d=some o->(∀ob,o≠Xp ob)->d∉L:=fun d o e ne m=>by
  obtain ⟨ob,z⟩:=hcs2 d m;rw [e] at z;exact ne ob (Option.some.inj z)
 have fin:∀{σ':St} {H':Hp} {v:V} {u:Av},Inv (cxN P w K mg base (ps++(ls++ys)) qual scope f (.ref T) cl A outer s (hide L H1)) [] σ' H' s'->RelV v u->((∀c∈L,H' c=none)->Q v (XD L H1 H'))->CE outer P w H1 s Q u s':=fun {σ' H' v u} D rv C=>by
  have b:Un (frs outer) [] (hide L H1) H' s.heap s'.heap:=D.base;have Hn:∀c∈L,H' c=none:=fun c m=>by
   obtain ⟨o,v,e,d,g⟩:=Y c m;exact b.free c o g (Yo m) (fun z=>nomatch z)
  refine ⟨v,XD L H1 H',D.os,D.bare,⟨fun d o e n hb hx=>b.keep d o e (hh d n) hb hx,fun d o e n hb hx=>b.slot d o e (hh d n) hb hx,fun d o e n hx=>?_,b.there,fun d xs e=>?_,fun d o u e=>?_,fun d pz e=>?_⟩,j9 D.hok Hn fun c m=>?_,rv,C Hn⟩
  ·by_cases m:d∈L
   ·rw [Xq m];exact n
   ·rw [ZG m];exact b.free d o e (hh d n) hx
  ·have m:=nm d _ e (fun ob z=>nomatch z)
   rw [ZG m];exact b.tups d xs (by rw [Zz m];exact e)
  ·by_cases m:d∈L
   ·rw [Xq m];exact e
   ·rw [ZG m];exact b.frzs d o u (by rw [Zz m];exact e)
  ·have m:=nm d _ e (fun ob z=>nomatch z)
   rw [ZG m];exact b.tbls d pz (by rw [Zz m];exact e)
  ·obtain ⟨o,v,e,d,g⟩:=Y c m
   exact ⟨o,e,b.keep c o g (Yo m) (nfr c m) (fun z=>nomatch z)⟩
 cases fl with
 | ret u =>
  obtain ⟨v,σ',H',D,rv,C⟩:=hs;exact fin D rv C
 | next =>
  obtain ⟨σ',H',D,C⟩:=hs;exact fin (v:=V.non) (u:=Value.none) D rfl C
 | brk =>
  obtain ⟨_,_,_,C⟩:=hs;exact False.elim C
 | cont =>
  obtain ⟨_,_,_,C⟩:=hs;exact False.elim C
end
def tDef(P:Aw)(lpos:Pos)(qual:Str)(q:Aw->Value->Value->Obj)(i:Nat):TS:=fun D σ H=>Yz H P lpos qual /\
 ∀(f I:Aw) (oc:Obj) (C G:Av) (H2:Hp),H f=none->H2 f=some (Xp (q I C G))->H2 I=some (Xp oc)->xF oc qual->Yz H2 P lpos qual->(∀b o,H b=some o->b≠P->H2 b=some o)->D.nx (σ.set i (some (.ref f))) H2
section
variable {X:Cx}{params:Arguments}{body:List Ay}{scope:Scope}{lpos:Pos}{c P:Aw}{name qual:Str}
abbrev xJ (X:Cx) (name qual:Str) (params:Arguments) (body:List Ay) (scope:Scope):Aw->Value->Value->Obj:=fun D q C=>PySem.W.fnMade name qual params body scope (Gf X.env.cells scope.names []) C ((X.mg "__name__").getD .none) D q
theorem qs_def{S0:Scope}(hN:X.N.Nodup)(hi:X.N[i]?=some name)(hx:Loc X.env.scope name)(M:X.env.code=.ref c)(C:PySem.W.CodeHd X.base c P)(B:zq X.mg X.base)(hd0:params.defaults=[])(hk0:params.kw_defaults=[])(han:annTrees params none X.env=[])(hq:qualnameIn X.env name name=qual)
  (hX:X.env.scope=S0) (hfr0:∀y∈scope.names,y.2=.free->S0.names.lookup y.1=some .cell) (hf:X.fn name=true\/X.env.scope.names.lookup name=some .local:=by first | exact .inl rfl | exact .inr rfl | assumption) :
  QS X (.FunctionDef name params body [] none [] scope none name lpos) (tDef P lpos qual (xJ X name qual params body scope) i):=by
 have Z:∀y∈scope.names,y.2=.free->X.env.scope.names.lookup y.1=some .cell:=fun y hy h=>by rw [hX];exact hfr0 y hy h
 refine ⟨?_⟩;intro pins s σ H D I hw;obtain ⟨O,hq2⟩:=hw;refine PySem.W.nestDef_K hd0 hk0 han ?_;rw [hq];have hcl:closureFor scope X.env=pure (Gf X.env.cells scope.names []):=X9 fun y hy h=>I.ok.has y.1 (.inl (Z y hy h));have hg:s.heap.Ns mainGlobals X.mg:=I.mod.glob.keeps I.bk;obtain ⟨pz,hPs⟩:=O.ex;have L:X.base.get? P=none:=by
  cases e:X.base.get? P with
  | none=>rfl
  | some o=>rw [(I.bs P o e).2] at hPs;cases hPs
 have hgP:mainGlobals≠P:=fun e=>by
  obtain ⟨o,es,ep,g,_⟩:=I.mod.glob;rw [e,L] at g;cases g
 have hb:s.heap.BuiltinsAt X.mg P:=by
  obtain ⟨bm,ob,b1,b2,b3,b4,b5,b6⟩:=B.ex;refine ⟨bm,ob,b1,b2,fun e=>?_,(fun e=>by rw [e,L] at b3;cases b3),I.bk _ _ b3,b4,b5,b6⟩;obtain ⟨o,es,ep,g,hd,_⟩:=I.mod.glob;rw [<-e,b3] at g;cases g;rw [b6] at hd;cases hd
 rcases O with O | ⟨q,oc,O,hc',S⟩
 ·have hP:s.heap.get? P=some (PySem.W.tabObj #[]):=I.hok P _ O
  refine PySem.W.makeFunction_K (mg:=X.mg) (ps:=#[]) hcl I.ok.glob hg M (C.keeps I.bk) hP trivial rfl hgP hb fun q G J h' tk hx' Y hlt hrec htb=>?_;obtain ⟨c₂,oc,vs,t,e2,S,hd,hv⟩:=hrec;cases e2;have cn:H q=none:=I.hok.fresh Y;have cP:q≠P:=fun e=>by rw [e,O] at cn;cases cn
  have hsz:s.heap.objs.size<=h'.objs.size:=Qaz Y (Qa9 hlt);have I2:=vU (lpos:=lpos) (fo:=xJ X name qual params body scope q G J) (tk:=tk) I O hx' Y hlt S htb;have fn:H h'.objs.size=none:=I.hok.fresh hsz;have fc:q≠h'.objs.size:=Qbd hlt;have fP:P≠h'.objs.size:=Zl O fn;refine WX I2 hN hi hx (v:=.ref h'.objs.size) rfl (fun s' I3=>⟨_,_,I3,hq2 _ q oc G J _ fn Za ?_ ⟨vs,t,hd,hv⟩ (.inr ⟨q,oc,?_,?_,⟨vs,t,hd,hv⟩⟩) fun b o e hbP=>?_⟩) hf
  ·rw [Zj fc];exact Za
  ·rw [Zj fP,Zj cP.symm];exact Za
  ·rw [Zj fc];exact Za
  ·rw [Zj (Zl e fn),Zj (Zl e cn),Zj hbP];exact e
 ·have hP:s.heap.get? P=some (PySem.W.tabObj #[rawInt lpos.line,rawInt lpos.col,.ref q]):=I.hok P _ O
  have hfd:codeAmong lpos (#[rawInt lpos.line,rawInt lpos.col,.ref q]:Ah).toList=some (.ref q):=by
   show (if ((lpos.line:Int) == lpos.line && (lpos.col:Int) == lpos.col)=true then some (Value.ref q) else _)=_;rw [Qdv,Qdv]
   rfl
  refine PySem.W.makeFunction_hit (mg:=X.mg) hcl I.ok.glob hg M (C.keeps I.bk) hP trivial hfd hb fun G J h' tk hk hsz=>?_;have I2:=I.laid (h':=h'.push (xJ X name qual params body scope q G J)) (t':=tk) (a:=h'.objs.size) (o:=Xp (xJ X name qual params body scope q G J)) (fun b u e=>Qab _ (hk b u e)) hsz (WQ (Qak _ rfl));have fn:H h'.objs.size=none:=I.hok.fresh hsz;have sm:∀b o,H b=some o->upd H h'.objs.size (Xp (xJ X name qual params body scope q G J)) b=some o:=fun b o e=>by rw [Zj (Zl e fn)];exact e
  exact WX I2 hN hi hx (v:=.ref h'.objs.size) rfl (fun s' I3=>⟨_,_,I3,hq2 _ q oc G J _ fn Za (sm _ _ hc') S (.inr ⟨q,oc,sm _ _ O,sm _ _ hc',S⟩) fun b o e _=>sm b o e⟩) hf
end
def uW(X:Cx)(s:As)(H:Hp):Hp:=fun b=>if b∈cellsOf X.env.cells then (s.heap.get? b).map Xp else H b
section
variable {X:Cx}{pins:Ac}{σ:St}{H:Hp}{s:As}
theorem yX(I:Inv X pins σ H s):∀d∈cellsOf X.env.cells,∃o v,uW X s H d=some (Xp o)/\o.data=.cell v/\s.heap.get? d=some o:=fun d m=>by
 obtain ⟨y,q⟩:=ZS.mp m;obtain ⟨v,o,ho,hd⟩:=I.cell y d q;exact ⟨o,v,by unfold uW;rw [Qa0 m,ho];rfl,hd,ho⟩
theorem Jh{d:Aw}(m:d∉cellsOf X.env.cells):uW X s H d=H d:=Qaw m
theorem JF(I:Inv X pins σ H s):∀d∈cellsOf X.env.cells,H d=none:=fun d m=>let ⟨y,hy⟩:=ZS.mp m;I.freeC y d hy
theorem kj(I:Inv X pins σ H s):∀b o,H b=some o->uW X s H b=some o:=fun b o e=>by
 rw [Jh fun m=>by rw [JF I b m] at e;cases e];exact e
theorem yY{k:Nat}{g:Aw}{gd:Ao}{sp:Sp}{Q:VK}{vs:A2}(F:Y9 X.prog X.w X.K X.mg X.base CX0 k g gd N sp)(hr:W8 k X.A)(hb:Binds X.K gd N [])(hfn:X.fn=fun _=>true)
  (I:Inv X pins σ H s) (rv:Vals vs U) (S:sp vs (uW X s H) (fun v H3=>Q v (hide (cellsOf X.env.cells) H3)) E0):wpAny (model X.prog X.w) X.A (call (.ref g) U) (EP X pins σ Q) X.xe s:=by
 have M:=yX I;have hn:=JF I;have D:=kj I;have Z:∀d∈cellsOf X.env.cells,d≠X.env.locals:=fun d m e=>by
  obtain ⟨o,v,_,hd,g⟩:=M d m;obtain ⟨m',⟨o',es,ep,g',hd',_⟩,_⟩:=I.loc;rw [e,g'] at g;cases g;rw [hd'] at hd;cases hd
 have J:∀d∈cellsOf X.env.cells,X.s₀.heap.objs.size<=d:=fun d m=>by
  obtain ⟨y,hy⟩:=ZS.mp m;exact I.ok.cab y d (by rw [hfn]) hy
 have nfr:∀d∈cellsOf X.env.cells,d∉frs X.stack:=fun d m z=>by
  rcases Qam.mp (I.stkSub d z) with e | e
  ·exact Z d m e
  ·obtain ⟨_,o,g,_⟩:=I.ok.funs.mem e
   exact absurd (Qan g) (Qfg.mpr (J d m))
 have Y:HOk X.prog X.w (uW X s H) s.heap:=fun b o e=>by
  by_cases m:b∈cellsOf X.env.cells
  ·obtain ⟨ob,v,e',hd,g⟩:=M b m
   rw [e'] at e;cases e;exact WQ g
  ·rw [Jh m] at e
   exact (I.hok b o e).stay (fun _ _ _ q=>q) (fun d q=>D _ _ q) fun d xs q=>D _ _ q
 have e0:Zft X.prog X.w X.K X.mg X.base X.A X.stack s (uW X s H):=by
  have z:=I.env0;refine ⟨z.frames,z.mod,fun b o e=>⟨(z.bs b o e).1,?_⟩,z.bsz,z.funs,fun b hb=>?_,Y,z.bare⟩
  ·rw [Jh fun m=>absurd (Qan e) (Qfg.mpr (Qaz I.ok.bsz (J b m)))]
   exact (z.bs b o e).2
  ·rw [Jh fun m=>nfr b m hb]
   exact z.frf b hb
 have hlu:(U++[]).length=N.length:=by rw [Qb4,<-rv.length];exact F.len _ _ _ _ S
 refine Qhm (Qet (F.run X.A X.stack s (uW X s H) ⟨U,[]⟩ U vs _ _ hr e0 (by simpa using hb s U I.kIn hlu) rv S) fun r s' O=>?_);cases r with
 | error e=>exact O.elim
 | ok fl =>
  cases fl with
  | next=>exact False.elim O
  | brk=>exact False.elim O
  | cont=>exact False.elim O
  | ret uu =>
   obtain ⟨v,H4,os,bare,un,L,rv4,q4⟩:=O;have G:∀d∈cellsOf X.env.cells,∃o,H4 d=some (Xp o)/\s.heap.get? d=some o/\s'.heap.get? d=some o:=fun d m=>by
    obtain ⟨o,v,e,hd,g⟩:=M d m;have e4:=un.frzs d o _ e;exact ⟨o,e4,g,(L d _ e4).1⟩
   have C:∀d,H d=none->d∉cellsOf X.env.cells->uW X s H d=none:=fun d n m=>by rw [Jh m];exact n
   have nm:∀d o,H d=some o->d∉cellsOf X.env.cells:=fun d o e m=>by rw [hn d m] at e;cases e
   refine ⟨v,hide (cellsOf X.env.cells) H4,I.call' os ⟨fun d o e n hb hx=>?_,fun d o e n hb hx=>?_,fun d o e n hx=>?_,fun d o e hx=>un.there d o e hx,fun d xs e=>?_,fun d o u e=>?_,fun d pz e=>?_⟩ (zp L fun d m=>let ⟨o,e,_⟩:=G d m;⟨o,e⟩) bare (fun _ z=>nomatch z),rv4,q4⟩
   ·by_cases m:d∈cellsOf X.env.cells
    ·obtain ⟨o',_,g,g'⟩:=G d m
     rw [e] at g;cases g;exact g'
    ·exact un.keep d o e (C d n m) hb hx
   ·by_cases m:d∈cellsOf X.env.cells
    ·obtain ⟨o',_,g,g'⟩:=G d m
     rw [e] at g;cases g;exact ⟨o.slots,g'⟩
    ·exact un.slot d o e (C d n m) hb hx
   ·by_cases m:d∈cellsOf X.env.cells
    ·exact Yo m
    ·rw [Zz m];exact un.free d o e (C d n m) hx
   ·rw [Zz (nm d _ e)];exact un.tups d xs (D _ _ e)
   ·rw [Zz (nm d _ e)];exact un.frzs d o u (D _ _ e)
   ·rw [Zz (nm d _ e)];exact un.tbls d pz (D _ _ e)
theorem uX{scope:Scope}{ys:Ai}{is:Aj}{N0:Ai}(I:Inv X pins σ H s)(C:∀y∈scope.names,y.2=.free->X.env.scope.names.lookup y.1=some .cell)(G:∀y∈ys,scope.names.lookup y=some .free)(hN:∀q∈ys.zip is,X.N[q.2]?=some q.1)(L:ys.length=is.length) :
  ∀(i:Nat) (y:Str) (v:V),ys[i]?=some y->(is.map fun i=>(σ[i]?).getD none)[i]?=some (some v)->∃c o u,(Gf X.env.cells scope.names []).lookup y=some c/\uW X s H c=some (Xp o)/\o.data=.cell (some u)/\RelV v u:=by
 intro i y v h1 h2;have S:∀y d,(Gf X.env.cells scope.names []).lookup y=some d->X.env.cells.lookup y=some d :=
  WZ (fun y O h=>I.ok.has y.1 (.inl (C y O h))) fun _ _ z=>by cases z
 rw [Qai] at h2;cases hj:is[i]? with
 | none=>rw [hj] at h2;cases h2
 | some j =>
  have J:σ[j]?=some (some v):=by
   grind
  have hz:(y,j)∈ys.zip is:=by
   obtain ⟨a1,e1⟩:=Qaf.mp h1;obtain ⟨a2,e2⟩:=Qaf.mp hj;rw [<-e1,<-e2,<-Qfb (h:=by rw [Qd3];lia)];exact Qbm _
  have hf:=G y (Qas h1);have M:X.env.kindOf y=some .cell:=C _ (G1 hf) rfl;obtain ⟨m,hm',hl⟩:=I.loc;obtain ⟨u,r,l⟩:=hl j y v (hN _ hz) J (.inr (.inl M));rcases l with ⟨l1,_⟩ | ⟨_,d,l2,Z⟩
  ·rw [M] at l1;cases l1
  ·obtain ⟨d',D⟩:=Xd (cells:=X.env.cells) (acc:=[]) hf
   have e:d'=d:=by grind
   subst e;obtain ⟨o,ho,hd⟩:=Z;obtain ⟨o',v',Y,_,g'⟩:=yX I d' (ZS.mpr ⟨y,l2⟩);rw [ho] at g';cases g';exact ⟨d',o,u,D,Y,hd,r⟩
end
def tCallN(I:Aq)(w:Au)(K:Af)(mg:Ae)(base:Heap)(k:Nat)(sp:Sp)(qual:Str)(q:Aw->Value->Value->Obj)(ta:TA)(i n m:Nat)(is:Aj)(ts:TS):TE:=fun σ H Q=>ta σ H fun vs H1 =>
 ∃(f G:Aw) (oc:Obj) (C D:Av),σ[i]?=some (some (.ref f))/\H1 f=some (Xp (q G C D))/\H1 G=some (Xp oc)/\xF oc qual /\
 ∀(cs:List Aw) (H2:Hp),(∀c∈cs,H1 c=none)->(∀c∈cs,∃o,H2 c=some (Xp o))->(∀b o,H1 b=some o->H2 b=some o) ->
  YE I w K mg base k f H2 (Zet n m ts cs (is.map fun i=>(σ[i]?).getD none))->sp vs H2 (fun v J=>Q v (hide cs J)) E0
structure Zja(S0 scope:Scope)(N0 ps ls ys:Ai)(is:Aj):Prop where
 sc:Zgv scope ps ls ys
 free:∀y∈scope.names,y.2=.free->S0.names.lookup y.1=some .cell
 vis:∀q∈ys.zip is,N0[q.2]?=some q.1
 len:ys.length=is.length
section
variable {X:Cx}{params:Arguments}{body:List Ay}{scope:Scope}{p pos:Pos}{g:Aw}{name qual x:Str}{k kl:Nat}{gd:Ao}{pg ps ls ys:Ai}{is:Aj}{sp:Sp}{ts:TS}{e:Ax}{es:An}{ta:TA}
theorem Zc5(F:Y9 X.prog X.w X.K X.mg X.base CX0 k g gd pg sp)(hr:W8 k X.A)(hg:Gl X x)(hm:X.mg x=some (.ref g))(hk:PySem.W.keepIn X.K (.ref g)=true)(hb:Binds X.K gd pg [])(hfn:X.fn=fun _=>true)
  (ha:QA X (e::es) ta) {S0:Scope} {N0:Ai} (hX:X.env.scope=S0) (hXN:X.N=N0) (LL:Zja S0 scope N0 ps ls ys is)
  (L:∀(cl:List (Str × Aw)) (doc pm cv Y:Av) (O:Ag),O.length=ps.length->bindArgs (PySem.W.fnX name qual params body scope cl .none .none doc pm none cv Y) ⟨O,[]⟩=pure (ps.zip O))
  (M:∀(f c':Aw) (cl:List (Str × Aw)) (A:Ar) (outer:List Env) (s:As) (H1:Hp),W8 kl (A.deeper (PySem.W.envX qual scope s.heap.objs.size f (.ref c') (cellsFrom (s.heap.objs.size + 1) scope.names cl)))->QSs (cxN X.prog X.w X.K X.mg X.base (ps++(ls++ys)) qual scope f (.ref c') cl A outer s H1) body ts)
  (hdb:(x == ("__debug__" : Str))=false:=by decide) (hp:(e::es).all ZV=true:=by rfl) :
  QE X (.Call (.Name x p) (e::es) [] pos) (tCallN X.prog X.w X.K X.mg X.base (kl + 1) sp qual (xJ X name qual params body scope) ta i ps.length ls.length is ts):=by
 rw [Qcr,Qbz] at hp;have S:=LL.sc;have D:∀y∈scope.names,y.2=.free->X.env.scope.names.lookup y.1=some .cell:=fun y hy h=>by rw [hX];exact LL.free y hy h
 have hN:∀q∈ys.zip is,X.N[q.2]?=some q.1:=fun q hq=>by rw [hXN];exact LL.vis q hq
 refine ⟨?_⟩;intro pins s σ H Q I hw;refine Qda (xZ I hg hm ?_ hdb);refine Qgo (h₀:=X.base) I.ok.mod.kin hk (thn (ha.out pos pins s σ H _ I hw) fun O s1 ⟨vs,H1,G,r,f,c',oc,Y,doc,hσ,hf,hc',hoc,q⟩=>⟨G.kIn,?_⟩) (Zq hp.1) (YV hp.2);have J:∀y d,(Gf X.env.cells scope.names []).lookup y=some d->X.env.cells.lookup y=some d :=
  WZ (fun y hy h=>G.ok.has y.1 (.inl (D y hy h))) fun _ _ z=>by cases z
 have C:=kj G;have Z:=yX G;refine yY F hr hb hfn G r (q (cellsOf X.env.cells) (uW X s1 H1) (JF G) (fun d m=>let ⟨o,_,e,_⟩:=Z d m;⟨o,e⟩) C ?_);exact zy (ls:=ls) (ys:=ys) S (C _ _ hf) (C _ _ hc') hoc (fun y d h=>ZS.mpr ⟨y,J y d h⟩) (fun d m=>let ⟨o,v,e,hd,_⟩:=Z d m;⟨o,v,e,hd⟩) (fun y z d h1 h2=>G.ok.inj y z d (J y d h1) (J z d h2)) (fun y h=>Xd h) (by rw [Qac,LL.len])
  (uX (N0:=N0) G D S.free hN LL.len) (fun O hl=>L _ _ _ _ _ O hl) fun A outer s H1 hr=>(M f c' _ A outer s H1 hr).out
end
section
variable {X:Cx}
theorem QE.or{t u:TE}(h:QE X e t)(g:QE X e u):QE X e (fun σ H Q=>t σ H Q\/u σ H Q):=⟨fun pins s σ H Q I z=>z.elim (h.out pins s σ H Q I) (g.out pins s σ H Q I)⟩
theorem QS.or{e:Ay}{t u:TS}(h:QS X e t)(g:QS X e u):QS X e (fun D σ H=>t D σ H\/u D σ H):=⟨fun pins s σ H D I z=>z.elim (h.out pins s σ H D I) (g.out pins s σ H D I)⟩
def Zgw(tk tv:TE):TE:=fun σ H Q=>∀d,H d=none->tk σ (upd H d (.dK [])) fun x H1=>tv σ H1 fun v H2=>∃(Kk:Type) (_:DecidableEq Kk) (kn:KN Kk) (a:Aw) (k:Kk),x=.ref a/\H2 d=some (.dK [])/\kn.at_ H2 k a /\
 ∀H',J2 kn H' d [(k,v)]->(∀b o,H2 b=some o->b≠d->H' b=some o)->(∃o,H'=upd H2 d o)->Q (.ref d) H'
theorem uY{k v:Ax}{tk:TE}(hu:X.A.units + 2 < cLine)(hk:QE X k tk)(hv:QE X v c):QE X (.Dict [some k] [v] p) (Zgw tk c):=by
 refine ⟨fun pins s σ H Q I q=>?_⟩;have hn:=I.hok.fresh (Qag s.heap.objs.size);have Z:=I.laid (a:=s.heap.objs.size) (o:=.dK []) (h':=s.heap.push { cls:=.type "dict",data:=.dict #[] }) (t':=s.toks) (fun _ _ q=>Qab _ q) (Qag _) (zh s.heap I.big);refine wpAny_Dict_any rfl rfl (fun z=>nomatch z) (by show 1<=15;decide) (thn (pp1 hk hv pins _ σ _ _ Z (q _ hn)) fun ws s2 ⟨x,y,u,r,H2,Y,C,G,L,Kk,_,kn,a,kk,ex,e,D,q2⟩=>?_);subst Y ex;cases (show u=Value.ref a from G);have n:J2 kn H2 s.heap.objs.size []:=⟨Qci,(show 0 < sizeLine by decide),.inl ⟨rfl,e⟩⟩;obtain ⟨xs,dd,O,M,hm⟩:=n.dict C;cases O;unfold storeAll;rw [Qeu];refine Qaa (Qaa (wpAny_dictSet_heap (hsz:=Qbc _) (kn.room0 _ _ _ hu) (kn.ok _ _ _ _ _ _ C.hok D) dd fun h' dd' hs=>Qae ?_));show wpAny _ _ (forIn ([]:List (Av × Av)) PUnit.unit _) _ _ _;obtain ⟨H',S,N,o',J⟩:=zt C n D L (show 0 + 1 < sizeLine by decide) .nil M hm rfl dd' hs;exact Qae ⟨.ref s.heap.objs.size,H',J,rfl,q2 H' S N o'⟩
theorem PI.or{l:Ax}{t u:TI}(h:PI X e l t)(g:PI X e l u):PI X e l (fun σ H R=>t σ H R\/u σ H R):=fun pins s σ H R I z=>z.elim (h pins s σ H R I) (g pins s σ H R I)
theorem QI.or{tg l:Ax}{t u:TI}(h:QI X tg l t)(g:QI X tg l u):QI X tg l (fun σ H R=>t σ H R\/u σ H R):=⟨PI.or h.out g.out⟩
end
section
variable {prog:Aq}{w:Au}{A:Ar}{R:Result->Shared->Prop}{I:Aw}{fp wr:List Aw}{n:Nat}{P:Nat->Value->Prop}{St:Nat->Heap->Prop}{d:Av}
theorem Zgx(W:Walks prog w A.in1 I fp wr n P St)(bt:Nat->Nat->Bool)(hcmp:CmpOf prog w A.in1 .Gt P bt)(S:Aw)(hSf:S∉fp) :
  ∀(k j:Nat) (s:As) (N:Av) (c:Nat),n - (j + 1)=k->j + 1<=n->St (j + 1) s.heap->P (argBest bt j) N ->
  s.heap.get? S=some { cls:=.type "list",dict:=none,data:=.seq #[N,N] c,slots:=#[] } ->
  (∀v h' tk,P (argBest bt (n - 1)) v->(∀b o,b∉wr->b≠S->s.heap.get? b=some o->h'.get? b=some o)->R (.ok (.ret v)) { s with heap:=h',toks:=tk }) ->
  codeAny (model prog w) A (.builtin "max.loop" ⟨[.ref I,.none,.ref S],[("default",d)]⟩) R s:=by
 have hSw:S∉wr:=fun h=>hSf (W.sub _ h);have L:(toString "max" ++ toString ".loop" : String) = "max.loop" := by decide
 intro k
 induction k with
 | zero =>
  intro j s N c hk hj hst O hS hR;have hin:j + 1=n:=by lia
  refine Qdr Qfw ?_;rw [Qea Qdi _];show wpAny _ A.in1 (seqItems? (.ref S) >>= _) _ _ s;refine Qaa (Qb7 hS rfl ?_);show wpAny _ A.in1 (tryCatch (pyNext (.ref I)) _ >>= _) _ _ s;refine Qaa (Qf1 (W.done s _ _ (hin ▸ hst) fun h' tk D=>?_));have J:=D S _ hSw hS;show wpAny _ A.in1 (updateSeq S (fun _=>#[]) >>= _) _ _ _;refine Qaa ?_;refine Qfp J rfl (Qaa (Qew (Qae ?_)));refine hR N _ tk (by rw [<-hin];exact O) fun b o q C e=>(Qb0 _ _ (Qdo C)).trans (D b o q e)
 | succ k ih =>
  intro j s N c hk hj hst O hS hR;have hlt:j + 1 < n:=by lia
  refine Qdr Qfw ?_;rw [Qea Qdi _];show wpAny _ A.in1 (seqItems? (.ref S) >>= _) _ _ s;refine Qaa (Qb7 hS rfl ?_);show wpAny _ A.in1 (tryCatch (pyNext (.ref I)) _ >>= _) _ _ s;refine Qaa (Qf1 (W.item (j + 1) s _ _ hlt hst fun v h' tk hP Y D=>?_));have J:=D S _ hSw hS;show wpAny _ A.in1 (tryCatch (holding [v,v] (richCompare .Gt v N >>= _)) _ >>= _) _ _ _;refine Qaa (Qf1 (Qcd (Qaa (hcmp (j + 1) (argBest bt j) v N _ _ _ hP O ?_))));refine Qaa (Qcd (Qdy ?_));refine Qaa (Qew (Qae ?_));cases hb:bt (j + 1) (argBest bt j) with
  | true =>
   simp only [if_true];refine Qaa ?_;refine Qfp J rfl (Qaa (Qew ?_));rw [L];refine Qae ⟨Qej Qdi _,ih (j + 1) _ v _ (by lia) hlt (W.frame _ _ _ Y fun b hbf o e=>?_) (by simp only [argBest,hb,if_true];exact hP) (Qbj _ J rfl)
    fun v' Z M hP' G=>?_⟩
   ·exact (Qb0 _ _ (fun h:S=b=>hSf (by rw [h];exact hbf))).trans e
   ·exact hR v' Z M hP' fun b o q C e=>G b o q C ((Qb0 _ _ (Qdo C)).trans (D b o q e))
  | false =>
   simp only [Qb5,Qho];refine Qaa (Qew ?_);rw [L];refine Qae ⟨Qej Qdi _,ih (j + 1) _ N c (by lia) hlt Y (by simp only [argBest,hb,Qb5,Qho];exact O) J fun v' Z M hP' G=>?_⟩;exact hR v' Z M hP' fun b o q C e=>G b o q C (D b o q e)
theorem Zc6(W:Walks prog w A.in1 I fp wr n P St)(bt:Nat->Nat->Bool)(J:CmpOf prog w A.in1 .Gt P bt)(S:Aw)(D:S∉fp){c:Nat}(M:St 0 s.heap)
  (hS:s.heap.get? S=some { cls:=.type "list",dict:=none,data:=.seq #[] c,slots:=#[] })
  (h0:n=0->∀h' tk,(∀b o,b∉wr->b≠S->s.heap.get? b=some o->h'.get? b=some o)->R (.ok (.ret d)) { s with heap:=h',toks:=tk })
  (hR:0 < n->∀v h' tk,P (argBest bt (n - 1)) v->(∀b o,b∉wr->b≠S->s.heap.get? b=some o->h'.get? b=some o)->R (.ok (.ret v)) { s with heap:=h',toks:=tk }) :
  codeAny (model prog w) A (.builtin "max.loop" ⟨[.ref I,.none,.ref S],[("default",d)]⟩) R s:=by
 have hSw:S∉wr:=fun h=>D (W.sub _ h);have hname:(toString "max" ++ toString ".loop" : String) = "max.loop" := by decide
 refine Qdr Qfw ?_;refine Qaa (Qb7 hS rfl ?_)
 by_cases hn:0 < n
 ·refine Qaa (Qf1 (W.item 0 s _ _ hn M fun v h' tk hP Z q=>?_))
  have Y:=q S _ hSw hS;show wpAny _ A.in1 (updateSeq S (fun _=>#[v,v]) >>= _) _ _ _;refine Qaa ?_;refine Qfp Y rfl ?_;refine Qae ⟨Qej Qdi _,Zgx W bt J S D _ 0 _ v _ rfl hn (W.frame _ _ _ Z fun b hbf o e=>?_) hP (Qbj _ Y rfl) fun v' h'' L hP' O=>?_⟩
  ·exact (Qb0 _ _ (fun h:S=b=>D (by rw [h];exact hbf))).trans e
  ·exact hR hn v' h'' L hP' fun b o C G e=>O b o C G ((Qb0 _ _ (Qdo G)).trans (q b o C e))
 ·have N:n=0:=by lia
  refine Qaa (Qf1 (W.done s _ _ (by rw [N];exact M) fun h' tk q=>?_));refine Qaa (Qdk (Qae ?_));exact h0 N h' tk fun b o C _ e=>q b o C e
end
theorem Zc7 (a v:Av):argsOk "max" ⟨[a],[(Str.ofString "default",v)]⟩:=by kernel_rfl
section
variable {prog:Aq}{w:Au}{A:Ar}{E:Ab}{s:As}{l:Aw}{xs:Array (Int × Tok)}{d:Av}
theorem uZ(hh:A.handled=none)(hl:s.heap.IsList l (intItems xs))(G:xs.size=0->∀h' tk,(∀b o,s.heap.get? b=some o->h'.get? b=some o)->Q d { s with heap:=h',toks:=tk })
  (h:0 < xs.size->∀v h' tk,(intItems xs)[argBest (fun i j=>decide (numAt xs i > numAt xs j)) (xs.size - 1)]?=some v->(∀b o,s.heap.get? b=some o->h'.get? b=some o)->Q v { s with heap:=h',toks:=tk }) :
  wpAny (model prog w) A (call (.builtin "max") [.ref l] [(Str.ofString "default",d)]) Q E s:=by
 have q:(toString "max" ++ toString ".loop" : String) = "max.loop" := by decide
 refine PyProof.Rows.kmk_tree PySem.F.kind_max PySem.F.plain_max PySem.F.entry_max (Zc7 _ _) ?_;refine Qaa (Qch (show Builtin.Builtins.bindParams "max" ["key","default"] 0 ⟨[],[(Str.ofString "default",d)]⟩=pure [none,some d] from rfl) ?_);refine Qaa (Qae ?_);refine Qaa (iter_intList hl fun s₂ e st C D=>?_);subst e;refine Qaa (Qbh ?_);have W:=Walks.list (prog:=prog) (w:=w) (A:=A.in1) hh _ l D (intItems xs);have hsz:(intItems xs).size=xs.size:=by simp [intItems]
 refine Qae ⟨Qej Qdi _,Zc6 W _ (CmpOf.ints_gt (numAt xs) (fun _ _=>intItems_at)) _ (fun hm=>Qbw _ (C _ hm)) (W.frame _ _ _ st fun b _ o e=>Qab _ e) (Qak _ rfl) (fun hn h' tk hk=>?_) fun hn v h' tk I hk=>?_⟩
 ·exact G (by rw [<-hsz];exact hn) h' tk (old_kept fun b o hb e=>hk b o hb (Qbd (Qan e)) (Qab _ e))
 ·exact h (by rw [<-hsz];exact hn) v h' tk (by simpa [intItems] using I) (old_kept fun b o hb e=>hk b o hb (Qbd (Qan e)) (Qab _ e))
end
section
variable {X:Cx}
def tMaxD(K:Af)(ta td:TE):TE:=fun σ H Q=>ta σ H fun x H1=>td σ H1 fun y H2=>∃(p:Aw) (q:Ak),x=.ref p/\SqL K H2 p (q.map V.int)/\(q=[]->Q y H2)/\∀m∈q,(∀n∈q,n<=m)->Q (.int m) H2
theorem Zgy {a:Ax}  {kp:Pos} (hc:X.calm=true) (hg:Gl X "max") (hm:X.mg "max" = none) (ha:QE X a c) (hd:QE X e I) (hp:ZV a=true:=by rfl) :
  QE X (.Call (.Name "max" p) [a] [⟨some "default",e,kp⟩] D) (tMaxD X.K c I):=by
 refine ⟨fun pins s σ H Q C hw=>?_⟩;refine Qda (WE C hg hm vP ?_ (by decide));have hs:=Zq (rest:=[]) (env:=X.env) hp;refine callWith_kw ?_ (by rw [hs];rfl) (by rw [hs];rfl);rw [hs];refine Qco (thn (ha.out pins s σ H _ C hw) fun u s1 ⟨x,H1,I1,r1,q1⟩=>?_);refine Qd0 (kws_cons (thn (hd.out pins s1 σ H1 _ I1 q1) fun u2 s2 ⟨y,H2,L,r2,p,M,ex,Y,hz,q⟩=>kws_nil ?_));subst ex;cases r1;obtain ⟨G,r',pl,hz'⟩:=L.list Y;have hi:IntsAre G M:=intsAre_of r';obtain ⟨xs,hx⟩:=hi.allInts.items;have S:s2.heap.IsList p (intItems xs):=hx ▸ pl.isList;have e1:M=xs.toList.map (·.1):=by
  rw [<-nums_intItems,<-hx];exact (show numsOf G.toArray.toList=M from hi.numsOf).symm
 refine uZ (L.ok.hd hc) S (fun h0 h' tk hk=>⟨y,H2,L.kept hk,r2,hz ?_⟩) fun hsz v h' tk hv hk=>?_
 ·grind
 have hb:=argBest_gt (numAt xs) (xs.size - 1);generalize argBest (fun i j=>decide (numAt xs i > numAt xs j)) (xs.size - 1)=b at hv hb;have N:b < xs.size:=by lia
 have at_:∀j (J:j < xs.size),numAt xs j=xs[j].1/\(intItems xs)[j]?=some (.int xs[j].1 xs[j].2):=by
  intro j J;exact ⟨by simp [numAt,J],by simp [intItems,J]⟩
 obtain ⟨n1,Z⟩:=at_ b N;rw [Z] at hv;cases hv;refine ⟨.int xs[b].1,H2,L.kept hk,⟨_,rfl⟩,q _ ?_ fun n hn=>?_⟩
 ·grind
 ·rw [e1] at hn
  obtain ⟨y,hy,rfl⟩:=Qau.mp hn;obtain ⟨j,J⟩:=Qe8 hy;have O:j < xs.size:=by
   grind
  have:=hb.2 j (by lia);rw [(at_ j O).1,n1] at this;have ej:xs[j]=y:=by
   grind
  rw [ej] at this;exact this
def Zjb:V->List V->Hp->VK->Prop:=fun x xs H Q=>∃i:Int,x=.int i/\xs=[]/\Q (.int ((Builtin.Int.intBits i:Nat):Int)) H
theorem Zgz:MtR X "int.bit_length" Zjb:=by
 intro pins s σ H x xs v D Q I C r h;obtain ⟨i,rfl,rfl,q⟩:=h;obtain ⟨t,rfl⟩:=C;cases r;exact call_int_bit_length ⟨.int _,H,I.tok _,⟨_,rfl⟩,q⟩
end
theorem wJ {X:Cx}  {t:TA} {a b:Ax} (hg:Gl X "range") (hm:X.mg "range" = none) (ha:QA X [a,b] t) (hp:ZV a=true:=by rfl) (q:ZV b=true:=by rfl):QI X e (.Call (.Name "range" p) [a,b] [] D) (Ziq t) :=
 ⟨gG hg hm ha.out (by rw [Zq hp,Zq q];rfl) (by rw [Zq q];rfl)⟩
section
variable {X:Cx}{pos:Pos}
end
section
variable {prog:Aq}{w:Au}{A:Ar}{E:Ab}{s:As}
end
open AutoSeq1 (wpAny_loadPart')
section
variable {prog:Aq}{w:Au}{A:Ar}{E:Ab}{s:As}
end
section
variable {X:Cx}
end
end L2
namespace L2
open PySem PySem.Spec PyProof.Rows
section
variable {prog:Aq}{w:Au}{A:Ar}{E:Ab}{s:As}
end
section
variable {X:Cx}
end
end L2
namespace L2
open PySem PySem.Spec PyProof.Rows PySem.Calls
open AutoSeq1 (wpAny_loadPart')
section
variable {X:Cx}{o e:Ax}{es:An}{to:TE}{t:TA}{name:Str}{apos cpos:Pos}{id:String}{r:V->List V->Hp->VK->Prop}
def tTM(r:V->List V->Hp->VK->Prop)(to:TE)(t:TA):TE:=fun σ H Q=>to σ H fun x H1=>∃a xs,x=.ref a/\H1 a=some (.tup xs)/\t σ H1 fun ys H2=>r x ys H2 Q
theorem Zjc (slot:Slot "tuple" name id) (hty:typeOf (.builtin id)=pure (.type "method_descriptor")) (hm:MtR X id r) (ho:QE X o to) (ha:QA X (e::es) t)
  (hbase:attributeBase o name X.env (eval o X.env)=eval o X.env:=by rfl) (hline:(apos.endLine == cpos.line)=true:=by rfl) (hp:(e::es).all ZV=true:=by rfl) (hl:(e::es).length < 30:=by decide) :
  QE X (.Call (.Attribute o name apos) (e::es) [] cpos) (tTM r to t):=by
 have q:=hp;rw [Qcr,Qbz] at q;refine ⟨fun pins s σ H Q I h=>?_⟩;refine Qfv hbase (by rw [all_plain hp];exact Qao (show (e::es).length + 0 + 0 < 30 from hl)) hline rfl (thn (ho.out pins s σ H _ I h) fun v J ⟨x,H1,G,M,a,xs,ex,hx,Z⟩=>?_);subst ex;cases M;obtain ⟨_,its,_,ob,D,Y,g3,L⟩:=G.hok a _ hx;refine ⟨"tuple",id,PySem.F.plainAttrs_tuple,slot,hty,⟨ob,D,Y⟩,fun a' N=>by cases N;exact ⟨ob,D,L⟩,?_⟩;have C:=ha.out cpos pins J σ H1 _ G Z;have hs:starEach (e::es) X.env=(false,eval e X.env)::starEach es X.env:=Zq q.1;rw [hs] at C ⊢;refine Qdh (by show (false || (backTo cpos (starEach es X.env)).any (·.1))=false;rw [YV q.2] <;> rfl) (Qe6 ?_);exact thn C fun O S ⟨vs,H2,I2,r2,q2⟩=>hm pins S σ H2 (.ref a) vs (.ref a) O Q I2 rfl r2 q2
def Zg0:V->List V->Hp->VK->Prop:=fun x vs H Q=>∃(l:Aw) (xs:A2) (y:V),x=.ref l/\vs=[y]/\H l=some (.tup xs)/\Xc y=true/\xs.all Xc=true/\Q (.int ((xs.countP fun z=>eqV z y:Nat):Int)) H
theorem jF{y:V}:∀{xs:A2} {q:Ag},Vals xs q->xs.all Xc=true->q.countP (eqU y)=xs.countP fun z=>eqV z y
 | _,_,.nil,_=>rfl
 | x::xs,u::q,.cons r t,f=>by
  rw [Qcr,Qbz] at f;rw [Qhb,Qhb,jF t f.2,vJ r f.1]
theorem Zaa:MtM X "tuple.count" Zg0:=by
 intro pins s σ H x vs v S Q I G O h;obtain ⟨l,xs,y,rfl,rfl,J,M,fx,q⟩:=h;cases G;obtain ⟨u,rfl,N⟩:=O.one;obtain ⟨_,C,r,⟨oc,od,L,D⟩,e,hc,⟨n,hd⟩,hn⟩:=I.hok l _ J;subst hc hd hn;refine Qhn PySem.F.slot_tuple_count ⟨_,e,rfl⟩ PySem.F.entry_tuple_count (PySem.F.args_tuple_count_2 _ _) (SeqAt.tuple_countAt l C.toArray n none D u (eqU y)) ⟨e,fun w hw=>XI N M r fx w (by simpa using hw),⟨.int _,H,I.tok _,⟨_,rfl⟩,?_⟩⟩;rw [show C.toArray.toList=C from rfl,jF r fx];exact q
theorem GZ{M:Model}{A:Ar}{E:Ab}{β:Type}(f:Nat->β->Sem (ForInStep β))(I:Aj->β->Shared->Prop)(Q:β->Shared->Prop)
  (q:∀x rest b s,I (x::rest) b s->wpAny M A (f x b) (fun r s'=>match r with | .yield b'=>I rest b' s' | .done b'=>Q b' s') E s)
  (fin:∀b s,I [] b s->Q b s) (b:β) (h:I (List.range n) b s):wpAny M A (forIn [:n] b f) Q E s:=by
 rw [Std.Legacy.Range.forIn_eq_forIn_range'];refine wpAny_forIn_list f I Q q fin _ b ?_;rw [show (List.range' ([:n]:Std.Legacy.Range).start ([:n]:Std.Legacy.Range).size ([:n]:Std.Legacy.Range).step)=List.range n by simp [Std.Legacy.Range.size,List.range_eq_range']];exact h
theorem z5(l:Aw)(items:Ah)(n:Nat)(dd:Option Aw)(S:Array (Option Av))(x:Av)(e:Av->Bool)(j:Nat)(Y:j < items.size)
  (M:e items[j]=true) (I:∀m (hm:m < items.size),m < j->e items[m]=false) :
  Meets (Builtin.«tuple.index» ⟨[.ref l,x],[]⟩)
   (fun A R s=>s.heap.get? l=some { cls:=.type "tuple",dict:=dd,data:=.seq items n,slots:=S }/\(∀y,y∈items->SeqAt.EqAt A.in1 s y x (e y))/\R (.ok (.ret (.int j s.toks))) { s with toks:=s.toks + 1 }) :=
 .of_wp fun prog w A R s h=>by
  obtain ⟨hp,g,d,tk,os⟩:=s;obtain ⟨hl,he,h⟩:=h;have Z:∀(i:Nat) y,items[i]?=some y->∃h:i < items.size,y=items[i]:=fun i y J=>by
   obtain ⟨h1,h2⟩:=Array.getElem?_eq_some_iff.mp J;exact ⟨h1,h2.symm⟩
  wp_walk using wpAny_loadPart' hl,GZ _ (fun rest b s'=>b.1=none/\s'=⟨hp,g,d,tk,os⟩/\∃i,i<=j/\rest=(List.range (min items.size items.size)).drop i) _
  ·rintro y rest b s' ⟨L,rfl,i,hi,G⟩
   have C:i < items.size:=by lia
   have O:i < (List.range (min items.size items.size)).length:=by rw [Qbl,Qgq];exact C
   rw [Qdn O] at G;injection G with N D;have J:y=i:=by simpa using N
   subst J;rw [Qdm C];refine Qaa (he _ (Array.getElem_mem C) prog w _ _ ?_);rcases Nat.lt_or_ge y j with q | q
   ·rw [I y C q]
    wp_walk
    exact ⟨rfl,rfl,y + 1,by lia,D⟩
   ·have e1:y=j:=by lia
    subst e1;rw [M]
    wp_walk
    exact ⟨_,rfl,h⟩
  ·rintro ⟨b1,b2⟩ s' ⟨L,rfl,i,hi,G⟩
   have:=congrArg List.length G;rw [Qd6,Qbl,Qgq] at this;simp only [Qev] at this;lia
  ·exact ⟨rfl,rfl,0,Qbc _,rfl⟩
def Zab:V->List V->Hp->VK->Prop:=fun x vs H Q=>∃(l:Aw) (xs:A2) (y z:V) (j:Nat),x=.ref l/\vs=[y]/\H l=some (.tup xs)/\Xc y=true/\xs.all Xc=true/\xs[j]?=some z/\eqV z y=true/\(∀i q,i < j->xs[i]?=some q->eqV q y=false)/\Q (.int (j:Int)) H
theorem Zac:MtM X "tuple.index" Zab:=by
 intro pins s σ H x vs v us Q I N rv h;obtain ⟨l,xs,y,z,j,rfl,rfl,O,fy,fx,hj,hit,S,q⟩:=h;cases N;obtain ⟨u,rfl,ru⟩:=rv.one;obtain ⟨_,C,r,⟨oc,od,Y,L⟩,e,hc,⟨n,hd⟩,hn⟩:=I.hok l _ O;subst hc hd hn;have hl:=r.length;have at_:∀(i:Nat) (hi:i < C.toArray.size),∃M,xs[i]?=some M/\eqU y C.toArray[i]=eqV M y:=fun i hi=>by
  have D:i < xs.length:=by rw [hl];simpa using hi
  obtain ⟨w',Z,G⟩:=r.get (i:=i) (x:=xs[i]) (Qad D);have e2:C.toArray[i]=w':=by
   grind
  refine ⟨xs[i],Qad D,?_⟩;rw [e2];exact vJ G (Qce.mp fx _ (Qbm D))
 have J:j < C.toArray.size:=by grind
 refine Qhn PySem.F.slot_tuple_index ⟨_,e,rfl⟩ PySem.F.entry_tuple_index (PySem.F.args_tuple_index_2 _ _) (z5 l C.toArray n none L u (eqU y) j J ?_ (fun m hm hlt=>?_)) ⟨e,fun w hw=>XI ru fy r fx w (by simpa using hw),⟨.int (j:Int),H,I.tok _,⟨_,rfl⟩,q⟩⟩
 ·grind
 ·grind
end
section
variable {X:Cx}
def rGet2:V->List V->Hp->VK->Prop:=fun x vs H Q=>∃(d:Aw) (k:Key) (v:V) (kvs:A0),x=.ref d/\vs=[kV k,v]/\Rd H d (.dK kvs)/\Q ((Ye kvs k).getD v) H
theorem Zg1:MtM X "dict.get" rGet2:=by
 intro pins s σ H x vs v Y Q I J O h;obtain ⟨d,k,y,kvs,rfl,rfl,e,q⟩:=h;cases J;cases O with
 | cons M D =>
 cases D with
 | cons D N =>
 cases N;obtain ⟨z,hd,vs,C,dd⟩:=zf I.hok e;refine Qhe F.slot_dict_get dd.typeIs F.entry_dict_get (F.args_dict_get_3 _ _ _) (meets_dict_get_default (ZD X.prog X.w) d (ze M) hd _) ⟨valueAt vs,dd.mapOf,?_⟩;refine ⟨(Ye kvs k).getD y,H,I.tok _,?_,q⟩;cases hy:Ye kvs k with
 | none=>rw [jh.none_of (o:=valueAt vs k) (by rw [<-hy];exact C.val k)];exact D
 | some L =>
  obtain ⟨S,hw,G⟩:=jh.some_of (v:=L) (o:=valueAt vs k) (by rw [<-hy];exact C.val k);rw [hw];exact G
def Iti(a:Aw)(o:Obj)(kvs:A0):It:=⟨fun i H=>i < kvs.length/\H a=some (.frz o (.dK kvs)),fun i H v H'=>∃p q,H p=none/\v=.ref p/\kvs[i]?=some q/\H'=upd H p (.tup [kV q.1,q.2]),fun i H=>i=kvs.length/\H a=some (.frz o (.dK kvs))⟩
theorem KV.get{kvs:List (g × V)}{vs:List (g × Av)}(r:KV kvs vs){q:g × V}(h:kvs[i]?=some q):∃u,vs[i]?=some (q.1,u)/\RelV q.2 u:=by
 induction r generalizing i with
 | nil=>simp at h
 | @cons p q' ps D e t C =>
  cases i with
  | zero =>
   simp only [List.getElem?_cons_zero,Option.some.injEq] at h;subst h;exact ⟨q'.2,by rw [e.1];rfl,e.2⟩
  | succ j =>
   exact C h
theorem wK{ps:Pos}(a it:Aw)(o:Obj)(kvs:A0)(ep:Nat)(Y:∃B,o.data=.dict B ep):Turn P w K (.Tuple B n ps) (Iti a o kvs) [it] it (fun i h=>∃ok S,IsItemIter h it a i kvs.length ep ok S) where
 mem:=by simp
 obj:=fun i h st b hb=>by
  grind
 keep:=fun i h h' st k=>let ⟨ok,S,e⟩:=st;⟨ok,S,k it (by simp) _ e⟩
 item:=by
  intro X hP hw hK hc i pins s σ H E I hf st hg;subst hP hw hK;obtain ⟨hi,hH⟩:=hg;obtain ⟨ho,z,nm,vs,D,dd⟩:=(show Yn X.prog X.w H s.heap a (.frz o (.dK kvs)) from I.hok a _ hH);obtain ⟨o',O,ep',M,L,q,hk,hp,hn⟩:=id dd;have eo:o'=o:=Option.some.inj (M.symm.trans ho);subst eo;obtain ⟨es2,C⟩:=Y;rw [q] at C;cases C;have J:s.heap.DictAt (ZD X.prog X.w) a vs ep:=⟨o',O,ho,L,q,hk,hp,hn⟩;have hl:=D.length;obtain ⟨ok,S,st⟩:=st;have hq:=Qad hi;obtain ⟨u,hu,ru⟩:=D.get hq;rw [hl] at st;refine wpAny_pyNext_items_item st J hu fun key h' Z ho2 hT hsz hk2=>?_;refine ⟨_,rfl,wpAny_letOwnedTupleGo_items (s:={ s with heap:=h' }) ho2 fun h2 hi2 hs2=>?_⟩;have G:Heap.SameBut it h' h2:=hs2;have I1:Inv X pins σ (upd H s.heap.objs.size (.tup [kV kvs[i].1,kvs[i].2])) { s with heap:=s.heap.push { cls:=.type "tuple",data:=.seq #[key,u] } } :=
   I.laid (t':=s.toks) (fun b o y=>Qab _ y) (Qag _) ⟨by show 2<=sizeLine;decide,[key,u],.cons (vR Z) (.cons ru .nil),y8.new _ _⟩
  have fp':∀b∈[it],GC X pins (upd H s.heap.objs.size (.tup [kV kvs[i].1,kvs[i].2])) b:=fun b hb=>by
   have hlb:b≠s.heap.objs.size:=by
    grind
   obtain ⟨a0,ar⟩:=hf b hb;exact ⟨by rw [Zj hlb];exact a0,ar⟩
  have I2:Inv X pins σ (upd H s.heap.objs.size (.tup [kV kvs[i].1,kvs[i].2])) { s with heap:=h2 }:=by
   refine XB (t':=s.toks) (s:={ s with heap:=s.heap.push { cls:=.type "tuple",data:=.seq #[key,u] } }) I1 fp' fun b o hb y=>?_;have N:b≠it:=fun z=>hb (by simp [z]);rcases Qe7 y with ⟨rfl,rfl⟩ | y
   ·exact (G.2 _ N).trans hT
   ·exact (G.2 b N).trans (hk2 b o N y)
  refine ⟨.ref s.heap.objs.size,_,I2,rfl,⟨_,_,I.hok.fresh (Qag _),rfl,hq,rfl⟩,⟨_,_,by rw [hl];exact hi2⟩,fun b hb=>(fp' b hb).1⟩
 done:=by
  intro X hP hw hK hc i pins s σ H E I hf st hg;subst hP hw hK;obtain ⟨hi,hH⟩:=hg;obtain ⟨f0,f1,f2,f3,f4,f5⟩:=hf it (by simp);obtain ⟨ho,z,nm,vs,D,dd⟩:=(show Yn X.prog X.w H s.heap a (.frz o (.dK kvs)) from I.hok a _ hH);obtain ⟨o',O,ep',M,L,q,hk,hp,hn⟩:=id dd;have eo:o'=o:=Option.some.inj (M.symm.trans ho);subst eo;obtain ⟨es2,C⟩:=Y;rw [q] at C;cases C;have J:s.heap.DictAt (ZD X.prog X.w) a vs ep:=⟨o',O,ho,L,q,hk,hp,hn⟩;have hl:=D.length;obtain ⟨ok,S,st⟩:=st;rw [hl] at st;exact wpAny_pyNext_items_end (I.ok.hd hc) st J (by rw [List.getElem?_eq_none_iff];lia) fun h' eb=>⟨rfl,I.turned (t':=s.toks) (fun b o hb e=>eb b o hb e) f0 f1 f3 f4 f5⟩
 self:=fun A i s Q E st h=>let ⟨ok,S,e⟩:=st;PySem.W.kcp_self e h
def iItems(te:TE):TI:=fun σ H R=>te σ H fun x H1=>∃a kvs,x=.ref a/\Rd H1 a (.dK kvs)/\∀o,R (Iti a o kvs) (upd H1 a (.frz o (.dK kvs)))
theorem km    {ps:Pos}  (he:QE X e c) (hbase:attributeBase e "items" X.env (eval e X.env)=eval e X.env:=by rfl) (hline:(p.endLine == D.line)=true:=by rfl):QI X (.Tuple B i ps) (.Call (.Attribute e "items" p) [] [] D) (iItems c):=by
 refine ⟨fun pins s σ H R I h=>?_⟩;refine wpAny_Call_method0_late hbase hline (thn (he.out pins s σ H _ I h) fun v q ⟨y,H1,Y,Z,q1⟩=>?_);obtain ⟨a,kvs,rfl,e,i⟩:=q1;cases Z;obtain ⟨z,nm,vs,O,dd⟩:=zf Y.hok e;obtain ⟨o,L,ep,ho,G,J,hk,hp,hn⟩:=id dd;have I2:=Y.freeze e ho;refine ⟨"dict","dict.items",F.plainAttrs_dict,F.slot_dict_items,F.type_dict_items,dd.typeIs,fun a' e'=>by cases e';exact ⟨o,ho,G.2.1⟩,Qdh rfl (PySem.evalArgs_none ?_)⟩;refine Qhe F.slot_dict_items dd.typeIs F.entry_dict_items (F.args_dict_items_1 _) (meets_dict_items (ZD X.prog X.w) a nm) ⟨⟨vs,dd⟩,?_⟩;have M:Inv X pins σ (upd H1 a (.frz o (.dK kvs))) { q with heap:=q.heap.push { cls:=.type "dict_items",data:=.fields #[.ref a] } }:=I2.kept (t':=q.toks) fun b o e=>Qab _ e;have C:(q.heap.push { cls:=.type "dict_items",data:=.fields #[.ref a] }).DictAt (ZD X.prog X.w) a vs ep:=⟨o,L,Qab _ ho,G,J,hk,hp,hn⟩;have S:(q.heap.push { cls:=.type "dict_items",data:=.fields #[.ref a] }).IsItemsView q.heap.objs.size a:=⟨_,Qak _ rfl,rfl,rfl⟩;generalize q.heap.push { cls:=.type "dict_items",data:=.fields #[.ref a] }=N at M C S ⊢;refine wpAny_pyIter_items S C ?_;refine ⟨N.objs.size,[N.objs.size],_,_,_,rfl,M.kept (t':=q.toks) fun b o e=>Qab _ e,wK a _ o kvs ep ⟨L,J⟩,⟨.none,.none,?_⟩,fun b hb=>?_,i o⟩
 ·rw [O.length]
  exact Qak _ rfl
 ·have e:b=N.objs.size:=by simpa using hb
  subst e;exact M.fpOk (Qag _) (M.hok.fresh (Qag _))
end
theorem Zad{o:Obj}{kvs:A0}{j k:Nat}(D:Nat->St->Hp->Prop)(Z:D 0 d H)(hl:∀i d H,i<=kvs.length->D i d H->H a=some (.frz o (.dK kvs)))
  (hs:∀i C d H p,kvs[i]?=some C->H p=none->D i d H->q { M with nx:=D (i + 1),ct:=D (i + 1),bk:=M.nx } ((d.set j (some (kV C.1))).set k (some C.2)) (upd H p (.tup [kV C.1,C.2]))) (hd:∀d H,D kvs.length d H->M.nx d H) :
  ∃W:Nat->Nat->St->Hp->Prop,(∃m,W 0 m d H)/\∀i m d H,W i m d H ->
   ((Iti a o kvs).stop i H/\M.nx d H)\/((Iti a o kvs).go i H/\∃N:A1,(∀G H',N G H'->∃S,S < m/\W (i + 1) S G H')/\∀x H',(Iti a o kvs).yld i H x H'->(Zid K 2 (GB (WN j) (GB (WN k) Zic))) x d H' fun L H2=>q { M with nx:=N,ct:=N,bk:=M.nx } L H2):=by
 refine ⟨fun i m d H=>m=kvs.length - i/\i<=kvs.length/\D i d H,⟨kvs.length,by simp,Qbc _,Z⟩,?_⟩;rintro i m d H ⟨rfl,hi,p⟩;have O:=hl i d H hi p
 by_cases I:i < kvs.length
 ·refine .inr ⟨⟨I,O⟩,D (i + 1),fun G H' Y=>⟨kvs.length - (i + 1),by lia,rfl,I,Y⟩,fun v H' y=>?_⟩
  obtain ⟨t,C,ht,rfl,J,rfl⟩:=y;exact ⟨t,_,rfl,SqT.of Za,rfl,_,_,rfl,_,_,rfl,rfl,hs i _ d H t J ht p⟩
 ·have e:i=kvs.length:=by lia
  exact .inl ⟨⟨e,O⟩,by rw [e] at p;exact hd d H p⟩
end L2
namespace L2
open PySem PySem.Spec PyProof.Rows
theorem yZ{o:Obj}{kvs:A0}{is:Aj}{Q:VK}(f:Nat->V)(G:H a=some (.frz o (.dK kvs)))(L:kvs.length<=sizeLine)
  (hs:∀i q H' (R:VK),kvs[i]?=some q->ZC H H'->(∀H2,ZC H' H2->R (f i) H2)->I (yQ is d (some (kV q.1)) (some q.2)) H' R)
  (hd:∀p H',H p=none->H' p=some (.lst ((List.range kvs.length).map f))->ZC H H'->Q (.ref p) H') :
  uN K is Zch I d Q (Iti a o kvs) H:=by
 refine ⟨fun i m zs H'=>m=kvs.length - i/\i<=kvs.length/\zs=(List.range i).map f/\ZC H H',⟨kvs.length,by simp,Qbc _,rfl,ZC.refl _⟩,?_⟩;rintro i m zs H' ⟨rfl,hi,rfl,s⟩;have e1:=s _ _ G;have D:((List.range i).map f).length<=sizeLine:=by grind
 by_cases C:i < kvs.length
 ·refine .inr ⟨⟨C,e1⟩,D,fun x H2 y=>?_⟩
  obtain ⟨c,q,hc,rfl,h1,rfl⟩:=y;refine ⟨c,_,_,rfl,SqT.of Za,?_⟩;refine hs i _ _ _ h1 (s.trans (zr hc)) fun M J=>⟨kvs.length - (i + 1),by lia,rfl,C,?_,(s.trans (zr hc)).trans J⟩;rw [Qd4,Qav]
  rfl
 ·have e:i=kvs.length:=by lia
  subst e;exact .inl ⟨⟨rfl,e1⟩,D,fun p hp=>hd p _ (s.free hp) Za (s.trans (zr hp))⟩
theorem Zae:∀{vs:Ag} {q:Ai},vs.length=q.length->(∀(j:Nat) (v:Av),vs[j]?=some v->∃y t,q[j]?=some y/\v=.str y t)->StrsAre vs q
 | [],[],_,_=>.nil
 | v::vs,y::q,h,k=>by
  obtain ⟨C,t,e1,e2⟩:=k 0 v rfl;have e1:y=C:=Option.some.inj e1;subst e1 e2;exact .cons _ t (Zae (Nat.succ.inj h) fun j v hv=>k (j + 1) v hv)
theorem jG {X:Cx} (hc:X.calm=true):YM X (.builtin "sorted") (fun xs H Q=>∃(a:Aw) (kvs:A0) (S:Ai),xs=[.ref a]/\Rd H a (.dK kvs)/\kvs.map (·.1)=S.map Sum.inr/\S.length < 64 /\
  ∀(l:Aw) (ms:Ai),H l=none->ms.Perm S->sortedS ms=true->Q (.ref l) (upd H l (.lst (ms.map V.str)))):=by
 intro pins s σ H xs us Q I r h;obtain ⟨a,kvs,S,rfl,hq,hS,hn,q⟩:=h;obtain ⟨u,rfl,rx⟩:=vals1 r;cases rx;obtain ⟨z,nm,vs,rel,dd⟩:=zf I.hok hq;obtain ⟨o,es,ep,ho,hex,hda,hk,hp,hnd⟩:=id dd;have dat:s.heap.DictAt (ZD X.prog X.w) a vs ep:=⟨o,es,ho,hex,hda,hk,hp,hnd⟩;have C:vs.map (·.1)=S.map Sum.inr:=by rw [<-rel.keys];exact hS
 have J:vs.length=S.length:=by have:=congrArg List.length C;rwa [Qac,Qac] at this
 refine Calls.call_function_entry kind_sorted plain_sorted entry_sorted (args_sorted1 _) ?_;refine Qaa (m:=checkCount "sorted" 1 1 _) (Qae ?_);refine Qaa (PySem.W.kdu_collect (A:=X.A.in1) (PySem.W.kdl_dict (knd:=ZD X.prog X.w) (kvs:=vs) (ep:=ep) nm) (I.ok.hd hc) dat (by rw [J];exact Qa9 (Z1 (by lia))) fun h1 tk acc N G=>?_);have hal:acc.toList.length=S.length:=by rw [Qbn,G.1,J]
 have D:StrsAre acc.toList S:=Zae hal fun j v hv=>by
  obtain ⟨k,x,e1,e2⟩:=G.2 j v (by rw [<-Qd8];exact hv);have e3:(vs.map (·.1))[j]?=some k:=by rw [Qai,e1];rfl
  rw [C,Qai] at e3;obtain ⟨y,hy,rfl⟩:=Qba.mp e3;obtain ⟨t,e4⟩:=vR e2;exact ⟨y,t,hy,e4⟩
 have M:acc.toList.length < 64:=by lia
 generalize hV:acc.toList=Z at M D ⊢;refine Qaa (wpAny_newList ?_ (by have:=Qhq;lia));have I1:Inv X pins σ H { s with heap:=h1,toks:=tk }:=I.kept N;have L:(h1.push (seqObj "list" Z.toArray 0)).get? h1.objs.size=some (seqObj "list" Z.toArray 0):=Qak _ rfl;refine Qaa (Qcd (Qbe slot_list_sort ⟨_,L,rfl⟩ entry_list_sort (list_sort_treeK strKind_oneLt L D.keysOf (fun v₁ v₂ rest e=>keyKind_strs (by rw [<-e];exact D)) M fun st' a1 a2=>⟨_,rfl,?_⟩) (args_list_sort _)));obtain ⟨Y,b1,b2,b3⟩:=sorted_out_str D a1 a2;obtain ⟨e,he⟩:=sortedHeap_at (vs:=Z) (out:=(arrOf st').map (·.2)) (n:=0) L;refine Qae ⟨_,rfl,⟨.ref h1.objs.size,_,I1.laid (t':=tk) (o:=.lst (Y.map V.str)) (fun b ob hb=>?_) (Qag _) ?_,rfl,q _ Y (I1.hok.fresh (Qag _)) b2 b3⟩⟩
 ·have O:=Qan hb
  rw [sortedHeap_old (Qbd O) (by rw [size_push'];exact Qcg O)];exact Qab _ hb
 ·have hm:Y.length=S.length:=b2.length_eq
  exact ⟨by rw [Qac];exact Qa9 (Z1 (by lia)),_,e,Wk b1,by exact he⟩
theorem len7{α:Type}{P:List α->Prop}(h:∀a b c d e f g,P [a,b,c,d,e,f,g]):∀q:List α,q.length=7->P q
 | [_,_,_,_,_,_,_],_=>h _ _ _ _ _ _ _
end L2
namespace Lw
open PySem L2
def top(i:Nat):Ay:=PySem.Challenge.pw_everywidth_k31_counts_looked_through.main.body.getD i (.Pass ⟨0,0,0,0⟩)
abbrev xK:Ay:=top 1
abbrev qa:Ay:=top 2
abbrev WJ:Ay:=top 5
abbrev JG:Ay:=top 9
abbrev Wr:Ay:=top 10
abbrev qb:Ay:=top 11
abbrev Ji:Ay:=top 18
abbrev Ws:Ay:=top 19
abbrev Jj:Ay:=top 20
abbrev Wt:Ay:=top 21
abbrev Wu:Ay:=top 23
abbrev qc:Ay:=top 29
abbrev xM:Ay:=top 33
abbrev Jk:Ay:=top 35
abbrev Xa:Ay:=top 39
abbrev qd:Ay:=top 40
abbrev Jl:Ay:=top 48
abbrev qe:Ay:=top 50
abbrev JW:Ay:=top 51
abbrev xN:Ay:=top 52
abbrev qf:Ay:=top 54
abbrev WR:Ay:=top 58
abbrev JX:Ay:=top 59
abbrev JY:Ay:=top 60
abbrev Jm:Ay:=top 62
abbrev Xt:Ay:=top 8
abbrev xO:Ay:=top 22
abbrev jH:Ay:=top 24
abbrev X7:Ay:=top 30
abbrev qg:Ay:=top 32
abbrev Jn:Ay:=top 34
abbrev XT:Ay:=top 47
abbrev qh:Ay:=top 53
abbrev Wa:Ay:=top 55
abbrev WK:Ay:=top 56
abbrev xP:Ay:=top 61
abbrev XU:Ay:=top 26
abbrev JH:Ay:=top 42
abbrev qi:Ay:=top 57
abbrev jI:Ay:=top 31
abbrev Xu:Ay:=top 4
abbrev qj:Ay:=top 7
abbrev ZO:Ay:=top 38
abbrev Wv:Ay:=top 37
abbrev Wb:Ay:=top 44
abbrev Zaf:Ay:=top 46
abbrev Zg2:Ay:=top 63
def Y5:Pos:=⟨30,50,30,102⟩
def Y6:Str:=(("least" : Str) ++ ".<locals>.") ++ "<lambda>"
def Zv:Pos:=⟨157,4,161,77⟩
def Zt:Str:=(("machine_telling" : Str) ++ ".<locals>.") ++ "step_of"
abbrev YF:Ay:=(Xk ZO).getD 3 (.Pass ⟨0,0,0,0⟩)
theorem Zc{p:Aw}{o:HO}(h:H p=none):ZC H (upd H p o):=fun b u e=>by rw [Zj (Zl e h)];exact e
theorem G5(w:Nat):(0:Int) < 2 ^ w:=by
 have h2:((2:Int) ^ w)=(((2:Nat) ^ w:Nat):Int):=by rfl
 have:=Qhf w;rw [h2];lia
theorem pow_succ'(w:Nat):(2:Int) ^ (w + 1)=2 ^ w * 2:=Qc7 2 w
def qY(w:Nat)(r:Int):Ak:=(List.range w).map fun i=>r / 2 ^ i % 2
theorem va{t u:TS}{r:VK}{b c:A1}(J:A1)(h1:∀N:A1,(∀d H,J d H->N d H)->t { M with nx:=N } d H)(h2:∀d H,J d H->u M d H):({ nx:=Yi t u M,rt:=r,bk:=b,ct:=c }:Ends).nx d H:=h1 _ h2
theorem Zh{v:V}{Q:A1}(h:Q (d.set i (some v)) H):WN i v d H Q:=h
theorem ZU{p:Aw}{o:HO}(s:ZC H A)(hp:H p=none):ZC H (upd A p o):=fun b u e=>by
 rw [Zj (Zl e hp)];exact s b u e
theorem Z9(j:Nat)(C:z=(j:Int))(q:j < E.length):atI (E.map V.int) z=some (.int (E.getD j 0)):=by
 subst C;refine Xj ?_;rw [Qai,Qad q,Qaj,Qad q]
 rfl
theorem Zg3{z:Str}{i:Int}(n:Nat)(hn:z.cps.toList.length=n)(C:0<=i)(h1:i < (n:Int)):∃c,c∈z.cps.toList/\atI z.cps.toList i=some c:=by
 obtain ⟨j,rfl⟩:∃j:Nat,i=(j:Int):=⟨i.toNat,by lia⟩;have q:j < z.cps.toList.length:=by lia
 exact ⟨z.cps.toList[j],Qbm q,Xj (Qad q)⟩
def fI(g:Int->V):V->V
 | .int x=>g x
 | v=>v
theorem len_signs(a:Str):a.length=a.cps.toList.length:=by
 unfold Str.length;rw [Qbn]
def gx:Str := "abcdefghijklmnopqrstuvwxyz"
def Low(c:Nat):Prop:=c∈gx.cps.toList
instance (c:Nat):Decidable (Low c):=inferInstanceAs (Decidable (c∈_))
def ZJ:Ai:=["not","neg","twice","low","and","or","odd","add","sub","pick","same","under","beneath","sign","nought","both","either","so","never","yes"]
def NmL(y:Str):Prop:=(1<=y.length/\y.length<=8)/\∀c∈y.cps.toList,Low c
instance (y:Str):Decidable (NmL y):=inferInstanceAs (Decidable (_/\_))
structure NmS(y:Str):Prop where
 l:NmL y
 k:y∉ZJ
theorem Zg4:gx.cps.toList.length=26:=by decide +kernel
theorem Zc8:gx.length<=sizeLine:=by decide +kernel
theorem Zc9:∀y∈ZJ,(1<=y.length/\y.length<=7)/\∀c∈y.cps.toList,Low c:=by decide +kernel
theorem low_at{i:Int}(q:0<=i)(h1:i < 26):∃c,Low c/\atI gx.cps.toList i=some c:=by
 obtain ⟨c,hc,e⟩:=Zg3 (z:=gx) (i:=i) 26 Zg4 q h1;exact ⟨c,hc,e⟩
theorem Zag(c:Nat):(⟨#[c]⟩:Str).length=1:=rfl
theorem ZA(y:Str):∀ys:Ai,inV (.str y) (ys.map V.str)=decide (y∈ys)
 | []=>rfl
 | z::r=>by
  have e:inV (.str y) ((z::r).map V.str)=((z == y) || inV (.str y) (r.map V.str)):=rfl;rw [e,ZA y r]
  by_cases h:z=y
  ·grind
  ·grind
theorem Zah(ys:Ai):(ys.map V.str).all Xc=true:=by
 rw [List.all_map];exact Qce.mpr fun _ _=>rfl
theorem vc{c:TT}(D:A1)(μ:St->Hp->Nat)(I:D d H)
  (hs:∀d H,D d H->c d H fun b H1=>if b=true then ∃N:A1,(∀C H',N C H'->∃G,G < μ d H/\G=μ C H'/\D C H')/\q { M with nx:=N,ct:=N,bk:=M.nx } d H1 else M.nx d H1):gC c q M d H:=by
 refine ⟨fun m d H=>m=μ d H/\D d H,⟨_,rfl,I⟩,?_⟩;rintro m d H ⟨rfl,p⟩;exact hs d H p
def LeafOk(ys:Ai)(v:V):Prop:=(∃y∈ys,v=.str y)\/∃z:Int,v=.int z/\0<=z/\z < 1000
def sumT:List (Str × Nat):=[("not",1),("neg",1),("twice",1),("low",1),("and",2),("or",2),("odd",2),("add",2),("sub",2),("pick",3)]
def Jo:Ai:=sumT.map (·.1)
def Yk(y:Str):Nat:=((sumT.find? fun p=>decide (p.1=y)).map (·.2)).getD 0
def partsV:V->Nat
 | .str y=>Yk y
 | _=>0
def Zeu(ys:Ai)(v:V):Prop:=(∃y,v=.str y/\y∈Jo)\/LeafOk ys v
theorem G6:∀y∈Jo,y∈ZJ:=by decide +kernel
def T1:List (Str × Int):=[("not",1),("neg",1),("twice",1),("low",1),("and",2),("or",2),("odd",2),("add",2),("sub",2),("pick",3)]
def T2:List (Str × Int):=[("same",2),("under",2),("beneath",2),("sign",1),("nought",1)]
def T3:List (Str × Int):=[("both",2),("either",2),("so",2),("never",1),("yes",0)]
def Z2:Ai:=["same","under","beneath","sign","nought","both","either","so","never","yes"]
theorem Zev(l:List (Str × Int))(y:Str):(Ye (kvsOf l) (.inr y)).isSome=decide (y∈l.map (·.1)):=by
 induction l with
 | nil=>rfl
 | cons p r q =>
  by_cases h:p.1=y
  ·have e:Ye (kvsOf (p::r)) (.inr y)=some (.int p.2):=ZX (p:=((Sum.inr p.1:Key),V.int p.2)) (by rw [h])
   rw [e,Qbx,Qao (by rw [h];exact Qah)]
   rfl
  ·have e:Ye (kvsOf (p::r)) (.inr y)=Ye (kvsOf r) (.inr y):=ZT (p:=((Sum.inr p.1:Key),V.int p.2)) (fun z=>h (Sum.inr.inj z))
   by_cases m:y∈r.map (·.1)
   ·grind
   ·grind
def WS:List (Str × Int)->Key->Int
 | [],_=>0
 | p::r,k=>if (Sum.inr p.1:Key)=k then p.2 else WS r k
theorem kget(l:List (Str × Int))(k:Key):(Ye (kvsOf l) k).getD (.int 0)=.int (WS l k):=by
 induction l with
 | nil=>rfl
 | cons p r q =>
  unfold WS
  by_cases h:(Sum.inr p.1:Key)=k
  ·have e:Ye (kvsOf (p::r)) k=some (.int p.2):=ZX (p:=((Sum.inr p.1:Key),V.int p.2)) h
   rw [e,Qa0 h]
   rfl
  ·have e:Ye (kvsOf (p::r)) k=Ye (kvsOf r) k:=ZT (p:=((Sum.inr p.1:Key),V.int p.2)) h
   rw [e,q,Qaw h]
theorem getN_int(l:List (Str × Int))(i:Int):WS l (.inl i)=0:=by
 induction l with
 | nil=>rfl
 | cons p r q =>
  unfold WS;rw [Qaw (fun z=>nomatch z),q]
theorem qk{l:List (Str × Int)}{y:Str}(h:y∉l.map (·.1)):WS l (.inr y)=0:=by
 induction l with
 | nil=>rfl
 | cons p r q =>
  unfold WS;rw [Qaw (fun z=>h (by grind)),q (fun z=>h (Qal _ z))]
def Xy(k:Key):Int:=WS T1 k + WS T2 k + WS T3 k
theorem tw1:T1.map (·.1)=Jo:=by decide +kernel
theorem vd:∀y,y∈ZJ↔y∈Jo\/y∈Z2:=by
 intro y;have e:ZJ=Jo++Z2:=by decide +kernel
 rw [e,Qca]
theorem z6:(∀y∈T1.map (·.1),y∈ZJ)/\(∀y∈T2.map (·.1),y∈ZJ)/\∀y∈T3.map (·.1),y∈ZJ:=by decide +kernel
def keyOf:V->Key
 | .int i=>.inl i
 | .str y=>.inr y
 | _=>.inl 0
theorem Zg5(x:Str)(c:Nat):(!(Builtin.Str.occurrences x ⟨#[c]⟩ 0 x.length 1).isEmpty)=decide (c∈x.cps.toList):=by
 have h:=PyProof.Rows.in_closes (x:=x) (c:=c) rfl rfl;rw [beq_iff_eq] at h;rw [h]
 by_cases m:c∈x.cps.toList
 ·rw [Qao m,Qao ((PyProof.Rows.countIn_signs c _).mpr m)]
 ·rw [Qaq m,Qaq (fun z=>m ((PyProof.Rows.countIn_signs c _).mp z))]
def xQ(y q:Str):Prop:=y.cps.toList≠[]/\∀c∈y.cps.toList,c∈q.cps.toList
instance (y sg:Str):Decidable (xQ y sg):=inferInstanceAs (Decidable (_/\_))
theorem all_bs(l:Aj)(p:Nat->Bool):(l.map p).all id=decide (∀c∈l,p c=true):=by
 rw [Qfl,Qce,Qer]
 constructor
 ·intro h c hc
  exact h _ (Qb2 hc)
 ·grind
theorem ql {y:Str}:y.cps.toList=[]↔y=("" : Str):=by
 constructor
 ·intro h
  obtain ⟨a⟩:=y;have:a=#[]:=by
   grind
  subst this
  decide +kernel
 ·rintro rfl
  decide +kernel
def nmB:V->Bool
 | .str y=>decide (y∉ZJ/\NmL y)
 | _=>false
def Zb1:V->Str
 | .str y=>y
 | _ => ""
def jJ(w:V):Prop:=(∃y,w=.str y/\y.length<=1000)\/∃z,w=.int z
theorem jK(ys:Ai):(XC ys).length<=ys.length:=by
 have h:∀(ys S:Ai),(ys.foldl ins S).length<=S.length + ys.length:=by
  intro ys
  induction ys with
  | nil=>intro S;exact Qag _
  | cons y r q =>
   intro S;have h1:=q (ins S y);have h2:(ins S y).length<=S.length + 1:=by
    unfold ins;split
    ·lia
    ·grind
   rw [Qdb,Qax];lia
 have:=h ys [];rw [Qev,Qey] at this;exact this
theorem Zg6(q:A2):((q.filter nmB).map Zb1).map V.str=q.filter nmB:=by
 rw [Qa3];refine (Qbu (g:=id) fun w hw=>?_).trans (List.map_id _);have h:=(Qd2.mp hw).2;cases w with
 | str y=>rfl
 | _=>cases h
def Zjd(ys:Ai)(w:V):Prop:=Zeu ys w\/∃y,w=.str y/\y∈Z2
theorem YR:∀y∈Z2,y∈ZJ:=by decide +kernel
def WB(ys:Ai):Bool->V->Prop
 | true,w=>∃y,w=.str y/\y∈Z2
 | false,w=>Zeu ys w
theorem WB.cw{ys:Ai}{b:Bool}{w:V}(h:WB ys b w):Zjd ys w:=by
 cases b with
 | true=>exact .inr h
 | false=>exact .inl h
def Jp(w:V):Nat:=(WS T1 (keyOf w) + WS T2 (keyOf w)).toNat
def z7(w:V):Nat:=(WS T3 (keyOf w)).toNat
def nextK(w:V):Am:=List.replicate (Jp w) false++List.replicate (z7 w) true
inductive Zg7(ys:Ai):Am->List V->List Bool->Prop
 | nil {ls:Am}:Zg7 ys ls [] ls
 | cons {ls e:Am} {b:Bool} {w:V} {r:A2}:WB ys b w->Zg7 ys (ls++nextK w) r e->Zg7 ys (ls++[b]) (w::r) e
theorem Zg7.words{ys:Ai}{a b:Am}{u:A2}(h:Zg7 ys a u b):∀w∈u,Zjd ys w:=by
 induction h with
 | nil=>exact fun _ h=>nomatch h
 | cons hw _ q =>
  intro x hx;rcases Qam.mp hx with rfl | hx
  ·exact hw.cw
  ·exact q x hx
theorem ve{l:List (Str × Int)}(h:∀p∈l,0<=p.2/\p.2<=3)(k:Key):0<=WS l k/\WS l k<=3:=by
 induction l with
 | nil=>exact ⟨Int.le_refl _,(by decide:(0:Int)<=3)⟩
 | cons p r q =>
  unfold WS
  split
  ·exact h p Qah
  ·grind
theorem Zje(k:Key):0<=WS T1 k/\WS T1 k<=3:=ve (by decide +kernel) k
theorem Zjf(k:Key):0<=WS T2 k/\WS T2 k<=3:=ve (by decide +kernel) k
theorem Zjg(k:Key):0<=WS T3 k/\WS T3 k<=3:=ve (by decide +kernel) k
def npw(w:V):Nat:=(Xy (keyOf w)).toNat
theorem qm(k:Key):0<=Xy k/\Xy k<=9:=by
 have h1:=Zje k;have h2:=Zjf k;have q:=Zjg k;unfold Xy;lia
theorem Zda(w:V):(nextK w).length=npw w:=by
 have h1:=Zje (keyOf w);have h2:=Zjf (keyOf w);have q:=Zjg (keyOf w);unfold nextK npw Jp z7 Xy;rw [Qap,Qa1,Qa1];lia
theorem Zg8(h:i < r.length):(r.drop i).reverse=(r.drop (i + 1)).reverse++[r[i]]:=by simp_all
theorem YX(l:A2)(y:V):(l++[y])[(l++[y]).length - 1]?=some y:=by grind
theorem Zew{x:V}(h:r.reverse[i]?=some x):i < r.length/\r[r.length - 1 - i]?=some x:=by grind
def LsAt(ys:Ai)(C:A2)(ls:Nat->List Bool):Prop:=ls C.length=[]/\∀i x,C[i]?=some x->∃q b,ls i=q++[b]/\WB ys b x/\ls (i + 1)=q++nextK x
theorem Zg7.at{ys:Ai}{a e:Am}{C:A2}(h:Zg7 ys a C e)(he:e=[]):∃ls,LsAt ys C ls/\ls 0=a:=by
 induction h with
 | @nil ls =>
  subst he;exact ⟨fun _=>[],⟨rfl,fun i x hx=>by simp at hx⟩,rfl⟩
 | @cons q e b w r hw _ G =>
  obtain ⟨ls,⟨h1,h2⟩,D⟩:=G he;refine ⟨fun i=>match i with | 0=>q++[b] | i + 1=>ls i,⟨h1,fun i x hx=>?_⟩,rfl⟩;cases i with
  | zero =>
   have:w=x:=by simpa using hx
   subst this;exact ⟨q,b,rfl,hw,D⟩
  | succ i=>exact h2 i x (by simpa using hx)
def iV:V->Int
 | .int a=>a
 | _=>0
def bV:V->Bool
 | .bl b=>b
 | _=>false
def Zif (y:Str) (a:Int):Int:=if y = "not" then Builtin.bitNot a else if y = "neg" then -a else if y = "twice" then a + a else Builtin.bitAnd a (-a)
def Zjh (y:Str) (a b:Int):Int:=if y = "and" then Builtin.bitAnd a b else if y = "or" then Builtin.bitOr a b else if y = "odd" then Builtin.bitXor a b else if y = "add" then a + b else a - b
def wwv(ρ:Str->Int):V->List Int->Int
 | .int z,_=>z
 | .str y,[]=>ρ y
 | .str y,[a]=>Zif y a
 | .str y,[a,b]=>Zjh y a b
 | .str _,a::b::c::_=>Builtin.bitOr (Builtin.bitAnd a b) (Builtin.bitAnd (Builtin.bitNot a) c)
 | _,_=>0
def sgn(m a:Int):Int:=if a * 2>=m then a - m else a
def qZ(m:Int)(y:Str)(xs:Ak):Bool :=
 if y = "nought" then decide (xs.getD 0 0=0) else if y = "sign" then decide (sgn m (xs.getD 0 0) < 0) else if y = "same" then decide (xs.getD 0 0=xs.getD 1 0)
 else if y = "under" then decide (xs.getD 0 0 < xs.getD 1 0) else decide (sgn m (xs.getD 0 0) < sgn m (xs.getD 1 0))
def Zjz(y:Str)(bs:Am):Bool :=
 if y = "yes" then true else if y = "never" then !(bs.getD 0 false) else if y = "both" then bs.getD 0 false && bs.getD 1 false else if y = "either" then bs.getD 0 false || bs.getD 1 false else bs.getD 1 false || !(bs.getD 0 false)
def cvV(m:Int)(ρ:Str->Int)(w:V)(xs:A2):V :=
 match w with
 | .str y=>if y∈Z2 then (if 0 < Jp w then .bl (qZ m y (xs.map iV)) else .bl (Zjz y (xs.map bV))) else .int (wwv ρ w (xs.map iV) % m)
 | _=>.int (wwv ρ w (xs.map iV) % m)
def Ww(m:Int)(ρ:Str->Int)(C:A2)(q:A2):A2:=C.foldr (fun w s=>cvV m ρ w (s.take (npw w))::s.drop (npw w)) q
theorem YY(m:Int)(ρ:Str->Int)(w:V)(r q:A2):Ww m ρ (w::r) q=cvV m ρ w ((Ww m ρ r q).take (npw w))::(Ww m ρ r q).drop (npw w):=rfl
def clK:Key->Bool
 | .inr y=>decide (y∈Z2)
 | .inl _=>false
theorem Zji(m n:Nat):(m &&& n) / 2=m / 2 &&& n / 2/\(m &&& n) % 2=m % 2 * (n % 2):=by
 refine ⟨Nat.and_div_two_pow (n:=1),?_⟩;have h:=Nat.and_mod_two_pow (a:=m) (b:=n) (n:=1);rw [h];rcases Qcu m with e | e <;> rcases Qcu n with f | f <;> rw [e,f] <;> rfl
theorem n_or(m n:Nat):(m ||| n) / 2=m / 2 ||| n / 2/\(m ||| n) % 2=m % 2 + n % 2 - m % 2 * (n % 2):=by
 refine ⟨Nat.or_div_two_pow (n:=1),?_⟩;have h:=Nat.or_mod_two_pow (a:=m) (b:=n) (n:=1);rw [h];rcases Qcu m with e | e <;> rcases Qcu n with f | f <;> rw [e,f] <;> rfl
theorem bA_pp(m n:Nat):Builtin.bitAnd m n=((m &&& n:Nat):Int):=by
 rfl
theorem ko(n:Nat):¬(0:Int)<=-(n:Int) - 1:=by lia
theorem kq(n:Nat):(Builtin.bitNot (-(n:Int) - 1)).toNat=n:=by
 unfold Builtin.bitNot;lia
theorem Zjj(m n:Nat):Builtin.bitAnd m (-(n:Int) - 1)=(m:Int) - ((m &&& n:Nat):Int):=by
 unfold Builtin.bitAnd;rw [Qao (Qdc m),Qaq (ko n)];rw [kq]
 rfl
theorem Zg9(m n:Nat):Builtin.bitAnd (-(m:Int) - 1) n=(n:Int) - ((n &&& m:Nat):Int):=by
 unfold Builtin.bitAnd;rw [Qao (Qdc n),Qaq (ko m)];rw [kq]
 rfl
theorem Zjk(m n:Nat):Builtin.bitAnd (-(m:Int) - 1) (-(n:Int) - 1)=-((m ||| n:Nat):Int) - 1:=by
 unfold Builtin.bitAnd;rw [Qaq (ko n),Qaq (ko m)];rw [kq,kq]
 rfl
theorem z8(a:Int):(∃m:Nat,a=m)\/∃m:Nat,a=-(m:Int) - 1:=by
 by_cases h:0<=a
 ·exact .inl ⟨a.toNat,by lia⟩
 ·exact .inr ⟨(-a - 1).toNat,by lia⟩
theorem wL(a:Int):a % 2=0\/a % 2=1:=by lia
theorem sub2(m A:Int)(h:A % 2=0\/m % 2=1):(m - A) / 2=m / 2 - A / 2/\(m - A) % 2=m % 2 - A % 2:=by lia
theorem cast2(m:Nat):(m:Int) / 2=((m / 2:Nat):Int)/\(m:Int) % 2=((m % 2:Nat):Int):=⟨rfl,rfl⟩
theorem Zb2(x:Int):(-x - 1) / 2=-(x / 2) - 1/\(-x - 1) % 2=1 - x % 2:=by lia
theorem Zjl(m n:Nat):(((m &&& n:Nat):Int)) / 2=((m / 2 &&& n / 2:Nat):Int)/\(((m &&& n:Nat):Int)) % 2=(m:Int) % 2 * ((n:Int) % 2):=by
 rw [(cast2 _).1,(cast2 _).2,(Zji m n).1,(Zji m n).2,Int.natCast_mul];exact ⟨rfl,rfl⟩
theorem take2(m n:Nat):((m:Int) - ((m &&& n:Nat):Int)) / 2=((m / 2:Nat):Int) - ((m / 2 &&& n / 2:Nat):Int)/\((m:Int) - ((m &&& n:Nat):Int)) % 2=(m:Int) % 2 * (1 - (n:Int) % 2):=by
 have l:=Zjl m n;have h:((m &&& n:Nat):Int) % 2=0\/(m:Int) % 2=1:=by
  grind
 have z:=sub2 _ _ h;rw [z.1,z.2,l.1,l.2];refine ⟨rfl,?_⟩;rcases wL (m:Int) with e | e <;> rcases wL (n:Int) with f | f <;> rw [e,f] <;> rfl
theorem Zig(a b:Int):Builtin.bitAnd a b / 2=Builtin.bitAnd (a / 2) (b / 2)/\Builtin.bitAnd a b % 2=a % 2 * (b % 2):=by
 rcases z8 a with ⟨m,rfl⟩ | ⟨m,rfl⟩ <;> rcases z8 b with ⟨n,rfl⟩ | ⟨n,rfl⟩
 ·exact Zjl m n
 ·rw [(cast2 m).1,(Zb2 _).1,(Zb2 _).2,(cast2 n).1,Zjj,Zjj]
  exact take2 m n
 ·rw [(cast2 n).1,(Zb2 _).1,(Zb2 _).2,(cast2 m).1,Zg9,Zg9,Qd9]
  exact take2 n m
 ·rw [(Zb2 (m:Int)).1,(Zb2 (m:Int)).2,(Zb2 (n:Int)).1,(Zb2 (n:Int)).2,(cast2 m).1,(cast2 n).1,Zjk,Zjk,(Zb2 _).1,(Zb2 _).2,(cast2 _).1,(cast2 _).2,(n_or m n).1,(n_or m n).2]
  refine ⟨rfl,?_⟩;rw [(cast2 m).2,(cast2 n).2];rcases Qcu m with e | e <;> rcases Qcu n with f | f <;> rw [e,f] <;> rfl
theorem Zex(a:Int):Builtin.bitNot a / 2=Builtin.bitNot (a / 2)/\Builtin.bitNot a % 2=1 - a % 2:=by
 unfold Builtin.bitNot;lia
theorem or2(a b:Int):Builtin.bitOr a b / 2=Builtin.bitOr (a / 2) (b / 2)/\Builtin.bitOr a b % 2=1 - (1 - a % 2) * (1 - b % 2):=by
 unfold Builtin.bitOr;have h:=Zig (Builtin.bitNot a) (Builtin.bitNot b);rw [(Zex a).1,(Zex b).1,(Zex a).2,(Zex b).2] at h;rw [(Zex _).1,(Zex _).2,h.1,h.2];exact ⟨rfl,rfl⟩
theorem xor2(a b:Int):Builtin.bitXor a b / 2=Builtin.bitXor (a / 2) (b / 2)/\Builtin.bitXor a b % 2=(a % 2 + b % 2) % 2:=by
 unfold Builtin.bitXor;have h:=Zig a b;have g:=or2 a b;have q:Builtin.bitAnd a b % 2=0\/Builtin.bitOr a b % 2=1:=by
  rw [h.2,g.2];rcases wL a with e | e <;> rcases wL b with f | f <;> rw [e,f] <;> decide
 have z:=sub2 _ _ q;rw [z.1,z.2,h.1,h.2,g.1,g.2];refine ⟨rfl,?_⟩;rcases wL a with e | e <;> rcases wL b with f | f <;> rw [e,f] <;> rfl
theorem qo(w:Nat)(n:Int):qY (w + 1) n=n % 2::qY w (n / 2):=by
 unfold qY;rw [List.range_succ_eq_map,Qbx,Qa3,Qds,Qb3];congr 1;refine Qbu fun i _=>?_;show n / 2 ^ (i + 1) % 2=n / 2 / 2 ^ i % 2;rw [Qc7,Qd9,Qdd (by decide:(0:Int)<=2)]
theorem Zdb(w:Nat)(n:Int):qY w (n % 2 ^ w)=qY w n:=by
 induction w generalizing n with
 | zero=>rfl
 | succ w q =>
  rw [qo,qo,<-q (n / 2)];have e1:n % 2 ^ (w + 1) % 2=n % 2:=by
   rw [Int.emod_emod_of_dvd];exact ⟨2 ^ w,by rw [Qc7,Qd9]⟩
  have e2:n % 2 ^ (w + 1) / 2=n / 2 % 2 ^ w:=by
   have hp:(0:Int) < 2 ^ w:=Qel (by decide);have h1:=Qck n 2;have h2:=Qck (n / 2) (2 ^ w);have D:=Qcb (n / 2) (Qfi hp);have C:=Qb6 (n / 2) hp;have e:n % 2 ^ (w + 1)=n % 2 + 2 * (n / 2 % 2 ^ w):=by
    have:n=n % 2 + 2 * (n / 2 % 2 ^ w) + 2 ^ (w + 1) * (n / 2 / 2 ^ w):=by
     rw [Qc7];have:(2:Int) ^ w * 2 * (n / 2 / 2 ^ w)=2 * (2 ^ w * (n / 2 / 2 ^ w)):=by
      rw [Qd9 ((2:Int) ^ w) 2,Int.mul_assoc]
     lia
    conv=>lhs;rw [this]
    rw [Qcv];refine Qc8 (by lia) ?_;rw [Qc7];lia
   rw [e];lia
  rw [e1,e2]
theorem bits_getD(w:Nat)(n:Int)(i:Nat)(h:i < w):(qY w n).getD i 0=n / 2 ^ i % 2:=by
 unfold qY;rw [Qaj,Qai,Qgk h]
 rfl
theorem jL(w:Nat)(n:Int):(qY w n).foldr (fun b t=>2 * t + b) 0=n % 2 ^ w:=by
 induction w generalizing n with
 | zero=>rw [Qds,Qgs];rfl
 | succ w q =>
  rw [qo,List.foldr_cons,q];have hp:(0:Int) < 2 ^ w:=Qel (by decide);have h1:=Qck n 2;have h2:=Qck (n / 2) (2 ^ w);have D:=Qcb (n / 2) (Qfi hp);have C:=Qb6 (n / 2) hp;have:n=2 * (n / 2 % 2 ^ w) + n % 2 + 2 ^ (w + 1) * (n / 2 / 2 ^ w):=by
   rw [Qc7];have:(2:Int) ^ w * 2 * (n / 2 / 2 ^ w)=2 * (2 ^ w * (n / 2 / 2 ^ w)):=by
    rw [Qd9 ((2:Int) ^ w) 2,Int.mul_assoc]
   lia
  conv=>rhs;rw [this]
  rw [Qcv];refine (Qc8 (by lia) ?_).symm;rw [Qc7];lia
theorem Zai{j:Nat}(h:i<=j):(2:Int) ^ i<=2 ^ j:=by
 obtain ⟨d,rfl⟩:∃d,j=i + d:=⟨j - i,by lia⟩;clear h
 induction d with
 | zero=>exact Int.le_refl _
 | succ d q =>
  have:=Qel (n:=2) (m:=i + d) (by decide);rw [show i + (d + 1)=i + d + 1 from rfl,Qc7];lia
def bt(x:Int)(k:Nat):Int:=x / 2 ^ k % 2
theorem YG(x:Int)(k:Nat):bt x (k + 1)=bt (x / 2) k:=by
 unfold bt;rw [Qc7,Qd9,Qdd (by decide:(0:Int)<=2)]
theorem YH(x:Int)(k:Nat):bt x k=0\/bt x k=1:=by
 unfold bt;lia
theorem YK(k:Nat):∀a b:Int,bt (Builtin.bitAnd a b) k=bt a k * bt b k:=by
 induction k with
 | zero =>
  intro a b;unfold bt;rw [Qds,Qb3,Qb3,Qb3,(Zig a b).2]
 | succ k q =>
  intro a b;rw [YG,YG,YG,(Zig a b).1,q]
theorem Gi(k:Nat):∀a b:Int,bt (Builtin.bitOr a b) k=1 - (1 - bt a k) * (1 - bt b k):=by
 induction k with
 | zero =>
  intro a b;unfold bt;rw [Qds,Qb3,Qb3,Qb3,(or2 a b).2]
 | succ k q =>
  intro a b;rw [YG,YG,YG,(or2 a b).1,q]
theorem qp(k:Nat):∀a b:Int,bt (Builtin.bitXor a b) k=(bt a k + bt b k) % 2:=by
 induction k with
 | zero =>
  intro a b;unfold bt;rw [Qds,Qb3,Qb3,Qb3,(xor2 a b).2]
 | succ k q =>
  intro a b;rw [YG,YG,YG,(xor2 a b).1,q]
theorem Jq(k:Nat):∀a:Int,bt (Builtin.bitNot a) k=1 - bt a k:=by
 induction k with
 | zero =>
  intro a;unfold bt;rw [Qds,Qb3,Qb3,(Zex a).2]
 | succ k q =>
  intro a;rw [YG,YG,(Zex a).1,q]
theorem qr(k:Nat):bt 0 k=0:=by
 unfold bt;rw [Int.zero_ediv]
 rfl
theorem Zaj(k:Nat):bt (-1) k=1:=by
 induction k with
 | zero=>rfl
 | succ k q=>rw [YG];exact q
theorem qt(x:Int)(w k:Nat)(h:k < w):bt (x % 2 ^ w) k=bt x k:=by
 have e:=Zdb w x;have h1:=bits_getD w (x % 2 ^ w) k h;have h2:=bits_getD w x k h;rw [e,h2] at h1;exact h1.symm
def lo(x:Int)(k:Nat):Int:=x % 2 ^ k
theorem xa(x:Int)(k:Nat):0<=lo x k/\lo x k < 2 ^ k:=⟨Qcb _ (Qfi (Qel (by decide))),Qb6 _ (Qel (by decide))⟩
theorem qu(x:Int)(k:Nat):lo x (k + 1)=lo x k + 2 ^ k * bt x k:=by
 unfold lo bt;have hp:(0:Int) < 2 ^ k:=Qel (by decide);have e1:=Qck x (2 ^ k);have q:=Qcb x (Qfi hp);have b1:=Qb6 x hp;have e3:x=(x % 2 ^ k + 2 ^ k * (x / 2 ^ k % 2)) + 2 ^ (k + 1) * (x / 2 ^ k / 2):=by
  grind
 conv=>lhs;rw [e3]
 rw [Qcv];have hb:x / 2 ^ k % 2=0\/x / 2 ^ k % 2=1:=by lia
 refine Qc8 ?_ ?_
 ·grind
 ·grind
theorem Zha(x:Int)(k:Nat):x=lo x k + 2 ^ k * (x / 2 ^ k):=(Qck x (2 ^ k)).symm
theorem bt_sum{x y:Int}{k:Nat}{c:Int}(hc:c=0\/c=1)(e:lo z k + 2 ^ k * c=lo x k + lo y k)(q:z=x + y):bt z k=(bt x k + bt y k + c) % 2:=by
 have hp:(0:Int) < 2 ^ k:=Qel (by decide);have e1:=Zha x k;have e2:=Zha y k;have e3:=Zha z k;have h:(2:Int) ^ k * (z / 2 ^ k)=2 ^ k * (x / 2 ^ k + y / 2 ^ k + c):=by
  rw [Qhr,Qhr];lia
 have h2:=Int.eq_of_mul_eq_mul_left (Qfi hp) h;unfold bt;rw [h2];lia
def cyA(x y:Int)(k:Nat):Int:=(lo x k + lo y k) / 2 ^ k
theorem Zak(x y:Int)(k:Nat):lo (x + y) k + 2 ^ k * cyA x y k=lo x k + lo y k:=by
 have e:lo (x + y) k=(lo x k + lo y k) % 2 ^ k:=by
  unfold lo;rw [<-Int.emod_add_emod,<-Int.add_emod_emod]
 rw [e];exact Qck _ _
theorem Zal(x y:Int)(k:Nat):cyA x y k=0\/cyA x y k=1:=by
 have hp:(0:Int) < 2 ^ k:=Qel (by decide);have a:=xa x k;have b:=xa y k;have q:0<=cyA x y k:=Int.ediv_nonneg (by lia) (Int.le_of_lt hp);have C:cyA x y k < 2:=Int.ediv_lt_of_lt_mul hp (by lia);lia
theorem Zey(x y:Int)(k:Nat):bt (x + y) k=(bt x k + bt y k + cyA x y k) % 2:=bt_sum (Zal x y k) (Zak x y k) rfl
theorem kr(x y:Int):cyA x y 0=0:=by
 unfold cyA lo;rw [Qds,Qgs,Qgs]
 rfl
theorem ku(x y:Int)(k:Nat):cyA x y (k + 1)=(bt x k + bt y k + cyA x y k) / 2:=by
 have hp:(0:Int) < 2 ^ k:=Qel (by decide);have e1:=qu x k;have e2:=qu y k;have e3:=Zak x y k;have b:=xa (x + y) k;have e:lo x (k + 1) + lo y (k + 1)=lo (x + y) k + 2 ^ k * (bt x k + bt y k + cyA x y k):=by
  rw [Qhr,Qhr];lia
 unfold cyA;rw [e,Qc7,<-Qdd (Int.le_of_lt hp),Qf4 _ _ (Qfi hp),Qb1 b.1 b.2,Qhg]
 rfl
def brA(x y:Int)(k:Nat):Int:=if lo x k < lo y k then 1 else 0
theorem kx(x y:Int)(k:Nat):brA x y k=cyA (x - y) y k:=by
 have e:=Zak (x - y) y k;rw [Int.sub_add_cancel] at e;have b:=xa (x - y) k;unfold brA;rcases Zal (x - y) y k with h | h <;> rw [h] at e ⊢
 ·rw [Qaw (by lia)]
 ·rw [Qa0 (by lia)]
theorem jM(x y:Int)(k:Nat):brA x y k=0\/brA x y k=1:=by
 unfold brA
 split
 ·exact .inr rfl
 ·exact .inl rfl
theorem Zam(x y:Int)(k:Nat):bt (x - y) k=(bt x k + bt y k + brA x y k) % 2:=by
 have h:=Zey (x - y) y k;rw [Int.sub_add_cancel,<-kx] at h;have a:=YH (x - y) k;rw [h];lia
theorem ky(x y:Int):brA x y 0=0:=by
 rw [kx,kr]
theorem kz(x y:Int)(k:Nat):brA x y (k + 1)=1 - (1 - (1 - bt x k) * bt y k) * (1 - brA x y k * (1 - (bt x k + bt y k) % 2)):=by
 rw [kx,ku,<-kx,Zam];rcases YH x k with a | a <;> rcases YH y k with b | b <;> rcases jM x y k with c | c <;> rw [a,b,c] <;> rfl
def nzA(x:Int)(k:Nat):Int:=brA 0 x k
theorem Zan(x:Int)(k:Nat):nzA x k=0\/nzA x k=1:=jM 0 x k
theorem Zdc(x:Int):nzA x 0=0:=ky 0 x
theorem Zdd(x:Int)(k:Nat):nzA x (k + 1)=1 - (1 - bt x k) * (1 - nzA x k):=by
 unfold nzA;rw [kz,qr];rcases YH x k with a | a <;> rcases jM 0 x k with c | c <;> rw [a,c] <;> rfl
theorem Zez(x:Int)(k:Nat):bt (-x) k=(bt x k + nzA x k) % 2:=by
 have h:=Zam 0 x k;rw [Int.zero_sub,qr,Qhg] at h;exact h
theorem bt_low(x:Int)(k:Nat):bt (Builtin.bitAnd x (-x)) k=bt x k * (1 - nzA x k):=by
 rw [YK,Zez];rcases YH x k with a | a <;> rcases Zan x k with c | c <;> rw [a,c] <;> rfl
def tw(x:Int):Nat->Int
 | 0=>0
 | k + 1=>bt x k
theorem tw_01(x:Int):∀k,tw x k=0\/tw x k=1
 | 0=>.inl rfl
 | k + 1=>YH x k
theorem Zde(x:Int):∀k,bt (x + x) k=tw x k
 | 0=>by
  unfold bt;rw [Qds,Qb3];show (x + x) % 2=0;lia
 | k + 1=>by
  rw [YG,show (x + x) / 2=x by lia]
  rfl
def hld(y:Str)(is:Ak)(k:Nat):Int :=
 if y = "twice" then tw (is.getD 0 0) k else if y = "neg" \/ y = "low" then nzA (is.getD 0 0) k else if y = "add" then cyA (is.getD 0 0) (is.getD 1 0) k else brA (is.getD 0 0) (is.getD 1 0) k
def qw:Ai:=["neg","twice","low","add","sub"]
def once(y:Str)(bs:Ak):Int :=
 if y = "not" then 1 - bs.getD 0 0 else if y = "and" then bs.getD 0 0 * bs.getD 1 0 else if y = "or" then 1 - (1 - bs.getD 0 0) * (1 - bs.getD 1 0) else if y = "odd" then (bs.getD 0 0 + bs.getD 1 0) % 2
 else 1 - (1 - bs.getD 0 0 * bs.getD 1 0) * (1 - (1 - bs.getD 0 0) * bs.getD 2 0)
def ans1(y:Str)(bs:Ak)(h:Int):Int :=
 if y = "twice" then h else if y = "neg" then (bs.getD 0 0 + h) % 2 else if y = "low" then bs.getD 0 0 * (1 - h) else (bs.getD 0 0 + bs.getD 1 0 + h) % 2
theorem Wx(is:Ak)(k i:Nat):(is.map fun x=>bt x k).getD i 0=bt (is.getD i 0) k:=by
 rw [Qaj,Qaj,Qai];cases is[i]? with
 | none=>exact (qr k).symm
 | some x=>rfl
theorem rem_parts:∀y∈qw,y∈Jo/\Yk y=(if y = "add" \/ y = "sub" then 2 else 1):=by decide +kernel
theorem xR:∀y∈Jo,y∉qw->(y = "not" /\ Yk y=1)\/(y = "and" /\ Yk y=2)\/(y = "or" /\ Yk y=2)\/(y = "odd" /\ Yk y=2)\/(y = "pick" /\ Yk y=3):=by decide +kernel
theorem ans_ok(ρ:Str->Int){y:Str}(q:y∈qw){is:Ak}(hl:is.length=Yk y)(k:Nat):ans1 y (is.map fun x=>bt x k) (hld y is k)=bt (wwv ρ (.str y) is) k:=by
 unfold qw at q;simp only [Qam,Qa7,Qdl] at q;rcases q with rfl | rfl | rfl | rfl | rfl
 ·match is,hl with
  | [a],_=>exact (Zez a k).symm
 ·match is,hl with
  | [a],_=>exact (Zde a k).symm
 ·match is,hl with
  | [a],_=>exact (bt_low a k).symm
 ·match is,hl with
  | [a,b],_=>exact (Zey a b k).symm
 ·match is,hl with
  | [a,b],_=>exact (Zam a b k).symm
theorem Zhb(ρ:Str->Int){y:Str}(q:y∈Jo)(hr:y∉qw){is:Ak}(hl:is.length=Yk y)(k:Nat):once y (is.map fun x=>bt x k)=bt (wwv ρ (.str y) is) k:=by
 rcases xR y q hr with ⟨rfl,e⟩ | ⟨rfl,e⟩ | ⟨rfl,e⟩ | ⟨rfl,e⟩ | ⟨rfl,e⟩ <;> skip
 ·match is,hl with
  | [a],_=>exact (Jq k a).symm
 ·match is,hl with
  | [a,b],_=>exact (YK k a b).symm
 ·match is,hl with
  | [a,b],_=>exact (Gi k a b).symm
 ·match is,hl with
  | [a,b],_=>exact (qp k a b).symm
 ·match is,hl with
  | [a,b,c],_ =>
   show 1 - (1 - bt a k * bt b k) * (1 - (1 - bt a k) * bt c k)=bt (Builtin.bitOr (Builtin.bitAnd a b) (Builtin.bitAnd (Builtin.bitNot a) c)) k;rw [Gi,YK,YK,Jq]
def k4:A2->Nat
 | []=>0
 | w::r=>k4 r - npw w + 1
def Wz:A2->Prop
 | []=>True
 | w::r=>npw w<=k4 r/\Wz r
def jN(ys:Ai)(B:Nat)(w:V):Prop:=(∃y,w=.str y/\y∈Jo/\y∉ys/\npw w=Yk y)\/(∃y,w=.str y/\y∈ys/\y∉qw/\npw w=0)\/∃z:Int,w=.int z/\0<=z/\z < 2 ^ B/\npw w=0
theorem Ze0{B k:Nat}(q:0<=z)(h:z < 2 ^ B)(hk:B<=k):bt z k=0:=by
 have hp:(2:Int) ^ B<=2 ^ k:=Zai hk;unfold bt;rw [Qb1 q (by lia)]
 rfl
def Zjm(a b h:Int):Int:=Builtin.bitOr (Builtin.bitAnd (Builtin.bitNot a) b) (Builtin.bitAnd h (Builtin.bitNot (Builtin.bitXor a b)))
def allR:Ai:=["neg","twice","low","add","sub","same","under","beneath","nought"]
def Zhc:Ai:=["add","sub","same","under","beneath"]
def ktI(y:Str)(is:Ak)(h:Int):Int :=
 if y = "twice" then is.getD 0 0 else if y = "neg" \/ y = "low" \/ y = "nought" then Builtin.bitOr (is.getD 0 0) h else if y = "same" then Builtin.bitOr (Builtin.bitXor (is.getD 0 0) (is.getD 1 0)) h
 else if y = "add" then Builtin.bitOr (Builtin.bitAnd (is.getD 0 0) (is.getD 1 0)) (Builtin.bitAnd h (Builtin.bitOr (is.getD 0 0) (is.getD 1 0))) else Zjm (is.getD 0 0) (is.getD 1 0) h
def okI(y:Str)(is:Ak)(h n:Int):Int :=
 if y = "add" \/ y = "sub" then Builtin.bitXor (Builtin.bitXor (is.getD 0 0) (is.getD 1 0)) h else if y = "neg" then Builtin.bitXor (is.getD 0 0) h else if y = "twice" then h else if y = "low" then Builtin.bitAnd (is.getD 0 0) (Builtin.bitNot h)
 else if y = "same" \/ y = "nought" then Builtin.bitNot n else if y = "under" then n else Zjm (is.getD 1 0) (is.getD 0 0) h
def oaI(y:Str)(is:Ak):Int :=
 if y = "yes" then -1 else if y = "sign" then is.getD 0 0 else if y = "not" \/ y = "never" then Builtin.bitNot (is.getD 0 0) else if y = "and" \/ y = "both" then Builtin.bitAnd (is.getD 0 0) (is.getD 1 0) else if y = "or" \/ y = "either" then Builtin.bitOr (is.getD 0 0) (is.getD 1 0)
 else if y = "odd" then Builtin.bitXor (is.getD 0 0) (is.getD 1 0) else if y = "so" then Builtin.bitOr (Builtin.bitNot (is.getD 0 0)) (is.getD 1 0) else Builtin.bitOr (Builtin.bitAnd (is.getD 0 0) (is.getD 1 0)) (Builtin.bitAnd (Builtin.bitNot (is.getD 0 0)) (is.getD 2 0))
def Zao (y:Str):Nat:=if y = "yes" then 0 else if y = "sign" \/ y = "not" \/ y = "never" then 1 else if y = "pick" then 3 else 2
theorem Zap:∀y∈allR,¬y = "twice" -> ¬(y = "neg" \/ y = "low" \/ y = "nought")->y∈Zhc:=by decide +kernel
def Zaq:Ai:=["not","and","or","odd","pick","both","either","so","never","yes","sign"]
theorem wM:∀y∈Zaq,¬y = "yes" -> ¬y = "sign" -> ¬(y = "not" \/ y = "never")->¬(y = "and" \/ y = "both")->¬(y = "or" \/ y = "either")->¬y = "odd" -> ¬y = "so" -> 3<=Zao y:=by decide +kernel
theorem qx{m:Nat}{is:Ak}(h:is.length=m)(h2:n<=m):n<=is.length:=by rw [h];exact h2
theorem and_zero(x:Int):Builtin.bitAnd x 0=0:=by
 rcases z8 x with ⟨m,rfl⟩ | ⟨m,rfl⟩
 ·rw [show (0:Int)=((0:Nat):Int) from rfl,bA_pp,Nat.and_zero]
 ·rw [show (0:Int)=((0:Nat):Int) from rfl,Zg9,Nat.zero_and]
  rfl
theorem and_1(x:Int):Builtin.bitAnd x 1=x % 2:=by
 obtain ⟨h1,h2⟩:=Zig x 1;rw [show (1:Int) / 2=0 from rfl,and_zero] at h1;lia
def Xz(ys:Ai)(cols:Str->Int)(pl:Nat)(kp:Ak):A2->List Int × Ak
 | []=>([],[])
 | w::r =>
  let p:=Xz ys cols pl kp r
  match w with
  | .str y =>
   if y∈allR then (okI y (p.1.take (npw w)) (-(kp.getD p.2.length 0)) (ktI y (p.1.take (npw w)) (-(kp.getD p.2.length 0)))::p.1.drop (npw w),p.2++[ktI y (p.1.take (npw w)) (-(kp.getD p.2.length 0))])
   else if y∈ys then (cols y::p.1.drop (npw w),p.2)
   else (oaI y (p.1.take (npw w))::p.1.drop (npw w),p.2)
  | .int z=>(-(bt z pl)::p.1.drop (npw w),p.2)
  | _=>p
def Zar(kvs:A0)(ys:Ai)(cols:Str->Int):Prop:=(∀y∈ys,Ye kvs (.inr y)=some (.int (cols y)))/\∀y,y∉ys->Ye kvs (.inr y)=none
def z9(ys:Ai)(w:V):Prop:=(∃y,w=.str y/\y∈allR/\y∉ys/\1<=npw w/\(y∈Zhc->2<=npw w))\/(∃y,w=.str y/\y∈Zaq/\y∉allR/\y∉ys/\npw w=Zao y)\/(∃y,w=.str y/\y∈ys/\y∉allR/\npw w=0)\/∃z:Int,w=.int z/\0<=z/\npw w=0
theorem zA{ys:Ai}{cols:Str->Int}{pl:Nat}{kp:Ak}:∀C:A2,(∀w∈C,z9 ys w)->(Xz ys cols pl kp C).1.length=k4 C
 | [],_=>rfl
 | w::r,hw=>by
  have G:=zA (ys:=ys) (cols:=cols) (pl:=pl) (kp:=kp) r fun w h=>hw w (Qal _ h);have q:∀x:Int,(x::(Xz ys cols pl kp r).1.drop (npw w)).length=k4 r - npw w + 1:=fun x=>by grind
  rcases hw w Qah with ⟨y,rfl,h1,_⟩ | ⟨y,rfl,h1,h2,D,_⟩ | ⟨y,rfl,h1,h2,_⟩ | ⟨z,rfl,_⟩
  ·show (if y∈allR then _ else _:Ak × Ak).1.length=_
   rw [Qa0 h1];exact q _
  ·show (if y∈allR then _ else if y∈ys then _ else _:Ak × Ak).1.length=_
   rw [Qaw h2,Qaw D];exact q _
  ·show (if y∈allR then _ else if y∈ys then _ else _:Ak × Ak).1.length=_
   rw [Qaw h2,Qa0 h1];exact q _
  ·exact q _
theorem jO(ys:Ai)(cols:Str->Int)(pl:Nat)(kp:Ak)(w:V)(r:A2):(Xz ys cols pl kp r).2.length<=(Xz ys cols pl kp (w::r)).2.length:=by
 cases w with
 | str y =>
  show _<=(if y∈allR then _ else if y∈ys then _ else _:Ak × Ak).2.length
  split
  ·grind
  ·split <;> exact Qag _
 | _=>exact Qag _
theorem jP(ys:Ai)(cols:Str->Int)(pl:Nat)(kp:Ak):∀(q:A2) (j:Nat),(Xz ys cols pl kp (q.drop j)).2.length<=(Xz ys cols pl kp q).2.length
 | [],j=>by rw [List.drop_nil];exact Qag _
 | w::r,0=>Qag _
 | w::r,j + 1=>Qaz (jP ys cols pl kp r j) (jO ys cols pl kp w r)
theorem qy:∀(q:A2) (j:Nat),Wz q->Wz (q.drop j)
 | [],j,_=>by rw [List.drop_nil];exact trivial
 | w::r,0,h=>h
 | w::r,j + 1,h=>qy r j h.2
theorem vf:∀q:A2,k4 q<=q.length
 | []=>Qag _
 | w::r=>by
  have:=vf r;show k4 r - npw w + 1<=r.length + 1;lia
theorem vg(z:Int)(ys:Ai):inV (.int z) (ys.map V.str)=false:=by
 cases q:inV (.int z) (ys.map V.str) with
 | false=>rfl
 | true =>
  obtain ⟨x,hx,e⟩:=Qen.mp q;obtain ⟨y,_,rfl⟩:=Qau.mp hx;cases e
theorem k6(ys:Ai)(cols:Str->Int)(pl:Nat)(kp:Ak):∀C:A2,(Xz ys cols pl kp C).2.length<=C.length
 | []=>Qag _
 | w::r=>by
  have q:=k6 ys cols pl kp r;cases w with
  | str y =>
   show (if y∈allR then _ else if y∈ys then _ else _:Ak × Ak).2.length<=r.length + 1
   split
   ·grind
   ·split <;> exact Nat.le_succ_of_le q
  | _=>exact Nat.le_succ_of_le q
theorem vh{x:Int}(h:x=0\/x=1)(l:Nat):bt (-x) l=x:=by
 rcases h with rfl | rfl
 ·exact qr l
 ·exact Zaj l
theorem Zas:∀y∈Jo,(y∈allR↔y∈qw):=by decide +kernel
theorem zB(w:Nat):∀a b:Int,Builtin.bitAnd a b / 2 ^ w=Builtin.bitAnd (a / 2 ^ w) (b / 2 ^ w):=by
 induction w with
 | zero=>intro a b;rw [Qds,Qb3,Qb3,Qb3]
 | succ w q =>
  intro a b;have d:∀x:Int,x / 2 ^ (w + 1)=x / 2 / 2 ^ w:=fun x=>by rw [Qc7,Qd9,Qdd (by decide:(0:Int)<=2)]
  rw [d,d,d,(Zig a b).1,q]
theorem Ze1(w:Nat):∀a b:Int,Builtin.bitOr a b / 2 ^ w=Builtin.bitOr (a / 2 ^ w) (b / 2 ^ w):=by
 induction w with
 | zero=>intro a b;rw [Qds,Qb3,Qb3,Qb3]
 | succ w q =>
  intro a b;have d:∀x:Int,x / 2 ^ (w + 1)=x / 2 / 2 ^ w:=fun x=>by rw [Qc7,Qd9,Qdd (by decide:(0:Int)<=2)]
  rw [d,d,d,(or2 a b).1,q]
theorem jQ{w:Nat}{x y:Int}(h:∀k,k < w->bt x k=bt y k):x % 2 ^ w=y % 2 ^ w:=by
 have e:qY w x=qY w y:=Qbu fun i hi=>h i (Qcn.mp hi);have h1:=jL w x;have h2:=jL w y;rw [e,h2] at h1;exact h1.symm
theorem Zdf{w:Nat}{a b c:Int}(G:0<=a)(a1:a < 2 ^ w)(D:0<=b)(b1:b < 2 ^ w)(C:0<=c)(I:c < 2 ^ w):Builtin.bitOr (Builtin.bitAnd a b) (Builtin.bitAnd (2 ^ w - 1 - a) c)=Builtin.bitOr (Builtin.bitAnd a b) (Builtin.bitAnd (Builtin.bitNot a) c) % 2 ^ w:=by
 have q:Builtin.bitOr (Builtin.bitAnd a b) (Builtin.bitAnd (2 ^ w - 1 - a) c) / 2 ^ w=0:=by
  rw [Ze1,zB,zB,Qb1 G a1,Qb1 D b1,Qb1 C I,Qb1 (by lia) (by lia)]
  rfl
 have hm:=Qck (Builtin.bitOr (Builtin.bitAnd a b) (Builtin.bitAnd (2 ^ w - 1 - a) c)) (2 ^ w);rw [q,Int.mul_zero,Int.add_zero] at hm;rw [<-hm];refine jQ fun k hk=>?_;have hn:bt (2 ^ w - 1 - a) k=bt (Builtin.bitNot a) k:=by
  have e:2 ^ w - 1 - a=Builtin.bitNot a % 2 ^ w:=by
   have e1:Builtin.bitNot a=(2 ^ w - 1 - a) + 2 ^ w * (-1):=by unfold Builtin.bitNot;lia
   rw [e1,Qcv,Qc8 (by lia) (by lia)]
  rw [e,qt _ _ _ hk]
 rw [Gi,YK,YK,hn,Gi,YK,YK]
def hor(q:Ak):Int:=q.foldl (fun a b=>a * 2 + b) 0
theorem k7(q:Ak)(b:Int):hor (q++[b])=hor q * 2 + b:=by
 unfold hor;rw [Qc5]
 rfl
theorem Zdg{b:Int}(h:E[i]?=some b):hor (E.take (i + 1))=hor (E.take i) * 2 + b:=by
 rw [Qg1,h];exact k7 _ b
def sm(b:Nat->Int):Nat->Int
 | 0=>0
 | n + 1=>sm b n + b n * 2 ^ n
theorem k9{b c:Nat->Int}:∀{n:Nat},(∀i,i < n->b i=c i)->sm b n=sm c n
 | 0,_=>rfl
 | n + 1,h=>by
  show sm b n + b n * 2 ^ n=sm c n + c n * 2 ^ n;rw [k9 (n:=n) fun i hi=>h i (Qcg hi),h n (Qdg n)]
theorem kA{b:Nat->Int}(hb:∀i,b i=0\/b i=1):∀n,0<=sm b n/\sm b n < 2 ^ n
 | 0=>⟨Int.le_refl _,(show (0:Int) < 2 ^ 0 by decide)⟩
 | n + 1=>by
  have q:=kA hb n;have e:sm b (n + 1)=sm b n + b n * 2 ^ n:=rfl;rw [e,pow_succ'];rcases hb n with z | z <;> rw [z] <;> constructor <;> lia
theorem Zat{b:Nat->Int}(hb:∀i,b i=0\/b i=1)(p:Nat):∀n,p < n->sm b n / 2 ^ p % 2=b p
 | 0,h=>absurd h (Qez _)
 | n + 1,h=>by
  have e:sm b (n + 1)=sm b n + b n * 2 ^ n:=rfl;have hp:=G5 p;rw [e]
  by_cases q:p < n
  ·obtain ⟨k,rfl⟩:∃k,n=p + (k + 1):=⟨n - p - 1,by lia⟩
   have e2:b (p + (k + 1)) * 2 ^ (p + (k + 1))=2 ^ p * (2 ^ k * b (p + (k + 1)) * 2):=by
    grind
   rw [e2,Qf4 _ _ (by lia)];have D:=Zat hb p (p + (k + 1)) q;lia
  ·have e3:p=n:=by lia
   subst e3;obtain ⟨C,h1⟩:=kA hb p;rw [Qd9,Qf4 _ _ (by lia),Qb1 C h1];rcases hb p with z | z <;> rw [z] <;> rfl
theorem Zau{ys:Ai}{x:V}(h:(ys.map V.str)[i]?=some x):∃y:Str,x=V.str y/\ys[i]?=some y:=by grind
theorem Zav{H':Hp}{u:HO}(e:Rd H a u)(s:ZC H H'):Rd H' a u:=by
 rcases e with e | ⟨o,e⟩
 ·exact .inl (s _ _ e)
 ·exact .inr ⟨o,s _ _ e⟩
abbrev Jr(l:Nat):V:=.int (l:Int)
def xS(q:Bool)(v:V):Prop:=(q=true/\∃x,v=.bl x)\/(q=false/\∃x,v=.int x)
def We(H:Hp)(p:Aw)(q:Az):Prop:=∃as:A2,H p=some (.tup as)/\as.length=q.length/\∀(i:Nat) (r:A2),q[i]?=some r->∃a,as[i]?=some (V.ref a)/\H a=some (.tup r)
theorem We.same{H':Hp}{p:Aw}(R:We H p O)(e:ZC H H'):We H' p O:=by
 obtain ⟨as,h1,h2,C⟩:=R;refine ⟨as,e _ _ h1,h2,fun i r hi=>?_⟩;obtain ⟨a,D,q⟩:=C i r hi;exact ⟨a,D,e _ _ q⟩
def JZ(r:Aj):A2:=r.map Jr
structure M4(H:Hp)(m:Aw)(nm:Ai)(b:Nat)(nx:Ad)(ot:Az):Prop where
 ex:∃pn ps po,H m=some (.tup [.ref pn,.int (b:Int),.ref ps,.ref po])/\H pn=some (.tup (nm.map V.str))/\We H ps (nx.map JZ)/\We H po ot
structure Wf(nm:Ai)(b:Nat)(nx:Ad)(ot:Az)(tr:Bool):Prop where
 n3:nm.length<=3
 b:b < nx.length
 le:nx.length<=1000000
 ol:ot.length=nx.length
 nr:∀r∈nx,r.length=2 ^ nm.length
 nl:∀r∈nx,∀s∈r,s < nx.length
 or:∀r∈ot,r.length=2 ^ nm.length
 ok:∀r∈ot,∀v∈r,xS tr v
 bit:∀r∈ot,∀v∈r,vB v=some 0\/vB v=some 1
theorem Zjn{A B:Hp->Prop}(h:A H):Zch d H fun b H2=>if b=true then A H2 else B H2:=by
 show if true=true then A H else B H;exact Y3 h
theorem p8(h:n<=3):2 ^ n<=8:=Qdf (by decide) h
theorem Ze2{q:List (List g)}(h:i < q.length):q[i]?=some (q.getD i []):=by grind
theorem zC{p:Aw}(R:We H p O)(h:i < O.length):∃as a,H p=some (HO.tup as)/\atI as (i:Int)=some (V.ref a)/\H a=some (.tup (O.getD i [])):=by
 obtain ⟨as,h1,h2,C⟩:=R;obtain ⟨a,D,q⟩:=C i _ (Ze2 h);exact ⟨as,a,h1,Xj D,q⟩
theorem jR(nx:Ad)(i:Nat):(nx.map JZ).getD i []=JZ (nx.getD i []):=by
 rw [Qaj,Qaj,Qai];cases nx[i]? <;> rfl
theorem getD_mem{q:List (List g)}(h:i < q.length):q.getD i []∈q:=by grind
theorem G7{f:Nat->g}(h:i < n):((List.range n).map f)[i]?=some (f i):=by grind
def Xf(H:Hp)(zs:A2)(q:Az):Prop:=zs.length=q.length/\∀(i:Nat) (r:A2),q[i]?=some r->∃a,zs[i]?=some (V.ref a)/\H a=some (.tup r)
theorem Xf.same{H':Hp}{zs:A2}(z:Xf H zs O)(e:ZC H H'):Xf H' zs O:=by
 refine ⟨z.1,fun i r hr=>?_⟩;obtain ⟨a,C,q⟩:=z.2 i r hr;exact ⟨a,C,e _ _ q⟩
theorem Xf.snoc{zs:A2}(z:Xf H zs O)(h:H a=some (.tup r)):Xf H (zs++[.ref a]) (O++[r]):=by
 refine ⟨by rw [Qap,Qap,z.1];rfl,fun i q C=>?_⟩
 by_cases e:i < O.length
 ·rw [Qbg e] at C
  rw [Qbg (by rw [z.1];exact e)];exact z.2 i q C
 ·rw [Qa8 (by lia)] at C
  have D:i - O.length=0:=by
   grind
  rw [D] at C;cases C;refine ⟨a,?_,h⟩;rw [Qa8 (by rw [z.1];lia),z.1,D]
  rfl
theorem Xf.nil{H:Hp}:Xf H [] []:=⟨rfl,fun i r hr=>by cases hr⟩
def nk(l:Ak):A0:=Xs (l.map (Sum.inl:Int->Key))
theorem Zaw{l:Ak}(h:l.Nodup):(l.map (Sum.inl:Int->Key)).Nodup:=by grind
theorem vi{l:Ak}{s:Int}:(Sum.inl s:Key)∈l.map Sum.inl↔s∈l:=by grind
theorem Zax{l:Ak}{s:Int}(h:s∈l)(hn:l.Nodup):Ye (nk l) (.inl s)=some (.int (l.idxOf s:Int)):=by
 have:=Wq (l.map (Sum.inl:Int->Key)) (.inl s) (vi.mpr h) (Zaw hn);have e:=idx_map (β:=Key) Sum.inl (fun _ _=>Sum.inl.inj) s l;rw [e] at this;exact this
theorem Zhd{l:Ak}{s:Int}(h:s∉l):Ye (nk l) (.inl s)=none:=JD _ _ fun z=>h (vi.mp z)
theorem nk_len(l:Ak):(nk l).length=l.length:=by
 unfold nk;rw [Wo,Qac]
theorem nk_put{l:Ak}{s:Int}(h:s∉l):putK (nk l) (.inl s) (.int (l.length:Int))=nk (l++[s]):=by
 unfold nk;rw [Qav];show _=Xs (l.map Sum.inl++[Sum.inl s]);rw [JC,Qac];unfold putK;rw [Qaw fun z=>?_];rw [Qen] at z;obtain ⟨p,hp,e⟩:=z;have:p.1∈(Xs (l.map (Sum.inl:Int->Key))).map (·.1):=Qb2 hp;rw [JB,Qbi e] at this;exact h (vi.mp this)
def G8(nx:Ad)(cs:Aj):List (Int × Ak):=List.zipWith (fun (c:Nat) (row:Aj)=>((c:Int),row.map fun s=>(cs.getD s 0:Int))) cs nx
theorem zD{nx:Ad}(h:v.length=nx.length):(G8 nx v).length=v.length:=by
 unfold G8;rw [List.length_zipWith,h,Qgq]
theorem kB{nx:Ad}(h:v.length=nx.length):(G8 nx v).map (·.1)=v.map fun c:Nat=>(c:Int):=by
 unfold G8;rw [List.map_zipWith];have:∀(v:Aj) (nx:Ad),v.length=nx.length->List.zipWith (fun (c:Nat) (_:Aj)=>(c:Int)) v nx=v.map fun c:Nat=>(c:Int):=by
  intro v
  induction v with
  | nil=>intro nx _;rfl
  | cons c r q =>
   intro nx h;cases nx with
   | nil=>cases h
   | cons x y=>rw [List.zipWith_cons_cons,Qbx,q y (by simpa using h)]
 exact this v nx h
theorem wN{nx:Ad}(h:v.length=nx.length)(hn:XH v=v)(hc:(Zy (G8 nx v)).length<=(Zy v).length):XH (G8 nx v)=v:=by
 have e1:Zy ((G8 nx v).map (·.1))=(Zy v).map fun c:Nat=>(c:Int):=by
  rw [kB h];exact zw _ _ fun a _ b _ e=>Int.ofNat.inj e
 have hi:=jE (·.1) (G8 nx v) (by rw [e1,Qac];exact hc);rw [<-zx (·.1) (G8 nx v) hi,kB h,zx (fun c:Nat=>(c:Int)) v fun a _ b _ e=>Int.ofNat.inj e,hn]
theorem jS{p:Aw}(R:We H p O):∃bs:List Aw,H p=some (.tup (bs.map V.ref))/\bs.length=O.length/\∀(i:Nat) (r:A2) (b:Aw),O[i]?=some r->bs[i]?=some b->H b=some (.tup r):=by
 obtain ⟨as,h1,h2,G⟩:=R;have D:∀(as:A2) (O:Az),as.length=O.length->(∀(i:Nat) (r:A2),O[i]?=some r->∃a,as[i]?=some (V.ref a)/\H a=some (.tup r))->∃bs:List Aw,as=bs.map V.ref/\∀(i:Nat) (r:A2) (b:Aw),O[i]?=some r->bs[i]?=some b->H b=some (.tup r):=by
  intro as
  induction as with
  | nil =>
   intro O hl _;exact ⟨[],rfl,fun i r b _ hb=>by cases hb⟩
  | cons v r q =>
   intro O hl hh;cases O with
   | nil=>cases hl
   | cons x y =>
    obtain ⟨a,ha,hx⟩:=hh 0 x rfl;obtain ⟨bs,e,hb⟩:=q y (by simpa using hl) fun i r hi=>by
     obtain ⟨a,I,C⟩:=hh (i + 1) r (by simpa using hi);exact ⟨a,by simpa using I,C⟩
    refine ⟨a::bs,?_,fun i r b hr J=>?_⟩
    ·grind
    ·grind
 obtain ⟨bs,e,hb⟩:=D as O h2 G;subst e;exact ⟨bs,h1,by rw [<-h2,Qac],hb⟩
theorem jT[DecidableEq g](ks:List g):(ks.map fun k=>((Zy ks).idxOf k:Int)).map V.int=(XH ks).map Jr:=by
 unfold XH;rw [Qa3,Qa3]
 rfl
theorem Js{nx:Ad}{c:Nat}{row:Aj}(hc:v[i]?=some c)(hr:nx[i]?=some row):(G8 nx v)[i]?=some ((c:Int),row.map fun s=>(v.getD s 0:Int)):=by
 unfold G8;rw [List.getElem?_zipWith,hc,hr]
theorem Zhe{q:List (Ak)}{nx:Ad}(hl:v.length=nx.length)(hk:q.length=nx.length)(h:∀(i j:Nat) (a b:Ak),q[i]?=some a->q[j]?=some b->v[i]?=v[j]?->a=b):∀(i j:Nat) (a b:Ak),q[i]?=some a->q[j]?=some b->(XH (G8 nx v))[i]?=(XH (G8 nx v))[j]?->a=b:=by
 intro i j a b ha hb e;have hi:i < nx.length:=by grind
 have G:j < nx.length:=by grind
 have D:=Qad (l:=v) (i:=i) (by lia);have C:=Qad (l:=v) (i:=j) (by lia);have:=(zv (Js D (Qad hi)) (Js C (Qad G))).mp e;refine h i j a b ha hb ?_;rw [D,C];have e2:=congrArg Prod.fst this;exact congrArg some (Int.ofNat.inj e2)
def Zdh(nx:Ad)(l:Aj)(i:Nat):Aj:=(nx.getD (l.getD i 0) []).foldl Y0 l
def WW(nx:Ad)(b:Nat):Nat->List Nat
 | 0=>[b]
 | i + 1=>Zdh nx (WW nx b i) i
structure xT(nx:Ad)(b:Nat)(l:Aj):Prop where
 e:l=WW nx b l.length
 go:∀i,i < l.length->i < (WW nx b i).length
theorem wO(r:Aj):∀l:Aj,l.Nodup->(r.foldl Y0 l).Nodup:=by
 induction r with
 | nil=>exact fun l h=>h
 | cons k r q=>exact fun l h=>q _ (XE h k)
theorem zE(r:Aj){x:Nat}:∀l:Aj,x∈r.foldl Y0 l↔x∈l\/x∈r:=by
 induction r with
 | nil=>intro l;simp
 | cons k r q =>
  intro l;rw [Qdb,q,Xx,Qam,or_assoc]
theorem qz(nx:Ad)(b:Nat):∀i,(WW nx b i).Nodup
 | 0=>Qbr.mpr ⟨Qa7,Qci⟩
 | i + 1=>wO _ _ (qz nx b i)
theorem Zay{nx:Ad}{b:Nat}(hb:b < nx.length)(hr:∀row∈nx,∀s∈row,s < nx.length):∀i,∀s∈WW nx b i,s < nx.length
 | 0,s,h=>by rw [Qat.mp h];exact hb
 | i + 1,s,h=>by
  rcases (zE _ _).mp h with z | z
  ·exact Zay hb hr i s z
  ·grind
theorem Zhf{nx:Ad}{b:Nat}(hb:b < nx.length)(hr:∀row∈nx,∀s∈row,s < nx.length)(i:Nat):(WW nx b i).length<=nx.length:=by
 have:=XF (l2:=List.range nx.length) (qz nx b i) fun x hx=>Qcn.mpr (Zay hb hr i x hx);rw [Qbl] at this;exact this
theorem vj(nx:Ad)(b j:Nat):∀d,∃r,WW nx b (j + d)=WW nx b j++r
 | 0=>⟨[],(Qb4 _).symm⟩
 | d + 1=>by
  obtain ⟨r,e⟩:=vj nx b j d;obtain ⟨q,e2⟩:=W9 (nx.getD ((WW nx b (j + d)).getD (j + d) 0) []) (WW nx b (j + d));refine ⟨r++q,?_⟩;show Zdh nx (WW nx b (j + d)) (j + d)=_;unfold Zdh;rw [e2,e,Qb9]
theorem bfs_at{nx:Ad}{b j:Nat}(q:j < i)(hg:j < (WW nx b j).length):(WW nx b i)[j]?=some ((WW nx b j).getD j 0):=by
 obtain ⟨r,e⟩:=vj nx b j (i - j);rw [show j + (i - j)=i by lia] at e;rw [e,Qbg hg,Qaj,Qad hg]
 rfl
theorem map_range{α β:Type}(l:List α)(i:Nat)(hl:l.length=i)(f:α->β)(g:Nat->β)(h:∀j a,l[j]?=some a->g j=f a):(List.range i).map g=l.map f:=by
 refine List.ext_getElem? fun j=>?_
 by_cases q:j < i
 ·grind
 ·grind
theorem xU{H':Hp}{zs:A2}(h:∀b xs,H b=some (.tup xs)->H' b=some (.tup xs))(z:Xf H zs O):Xf H' zs O:=⟨z.1,fun i r hr=>by
 obtain ⟨a,h1,h2⟩:=z.2 i r hr;exact ⟨a,h1,h _ _ h2⟩⟩
inductive SK(κ:Type)[DecidableEq κ] where
 | int (f:κ->Int) (inj:∀a b,f a=f b->a=b)
 | key (kn:KN κ)
theorem YL(h:n<=10000000):n < sizeLine:=Qdt h (by decide)
section
variable {κ:Type}[DecidableEq κ]
def SK.at_:SK κ->Hp->κ->V->Prop
 | .int f _,_,k,v=>v=.int (f k)
 | .key kn,H,k,v=>∃a,v=.ref a/\kn.at_ H k a
def SK.dic:SK κ->Hp->Addr->List κ->Prop
 | .int f _,H,d,l=>H d=some (.dK (nk (l.map f)))
 | .key kn,H,d,l=>J2 kn H d (Xs l)
theorem SK.keep{sk:SK κ}{H H':Hp}{k:κ}{v:V}(h:sk.at_ H k v)(e:∀b xs,H b=some (.tup xs)->H' b=some (.tup xs)):sk.at_ H' k v:=by
 cases sk with
 | int f _=>exact h
 | key kn =>
  obtain ⟨a,rfl,ha⟩:=h;exact ⟨a,rfl,kn.keep _ _ _ _ e ha⟩
theorem Zaz{kn:KN κ}{d:Aw}{kvs:List (κ × V)}(n:J2 kn H d kvs):∃o,H d=some o/\(∀xs,o≠.tup xs)/\∀xs,o≠.lst xs:=by
 rcases n.2.2 with ⟨_,e⟩ | ⟨ys,e,_⟩
 ·grind
 ·grind
theorem SK.ne{sk:SK κ}{d:Aw}{l:List κ}(h:sk.dic H d l):∃o,H d=some o/\(∀xs,o≠.tup xs)/\∀xs,o≠.lst xs:=by
 cases sk with
 | int f _=>exact ⟨_,h,(fun _ z=>nomatch z),fun _ z=>nomatch z⟩
 | key kn=>exact Zaz h
theorem Zdi{kn:KN κ}{H':Hp}{d:Aw}{kvs:List (κ × V)}(n:J2 kn H d kvs)(hd:∀o,H d=some o->H' d=some o)(e:∀b xs,H b=some (.tup xs)->H' b=some (.tup xs)):J2 kn H' d kvs:=by
 obtain ⟨D,C,G⟩:=n;refine ⟨D,C,?_⟩;rcases G with ⟨e1,e2⟩ | ⟨ys,e1,e2⟩
 ·exact .inl ⟨e1,hd _ e2⟩
 ·exact .inr ⟨ys,hd _ e1,Paired.mapP e2 fun p q h=>⟨h.1,kn.keep _ _ _ _ e h.2.1,h.2.2⟩⟩
theorem SK.stay{sk:SK κ}{H':Hp}{d:Aw}{l:List κ}(h:sk.dic H d l)(hd:∀o,H d=some o->H' d=some o)(e:∀b xs,H b=some (.tup xs)->H' b=some (.tup xs)):sk.dic H' d l:=by
 cases sk with
 | int f _=>exact hd _ h
 | key kn=>exact Zdi h hd e
theorem SK.off{sk:SK κ}{d:Aw}{l:List κ}{xs:A2}{o:HO}(h:sk.dic H d l)(e:H f=some (.lst xs)):sk.dic (upd H f o) d l:=by
 obtain ⟨u,D,_,hl⟩:=SK.ne h;have C:d≠f:=fun z=>by
  grind
 exact SK.stay h (fun o e=>by rw [Zj C];exact e) fun b ys q=>by rw [Zj (X4 q e fun z=>nomatch z)];exact q
def StA(sk:SK κ)(H:Hp)(l:List κ)(vs:A2):Prop:=vs.length=l.length/\∀(i:Nat) (k:κ),l[i]?=some k->∃v,vs[i]?=some v/\sk.at_ H k v
theorem StA.keep{sk:SK κ}{H H':Hp}{l:List κ}{vs:A2}(h:StA sk H l vs)(e:∀b xs,H b=some (.tup xs)->H' b=some (.tup xs)):StA sk H' l vs:=⟨h.1,fun i k hk=>by
 obtain ⟨v,h1,h2⟩:=h.2 i k hk;exact ⟨v,h1,SK.keep h2 e⟩⟩
theorem StA.snoc{sk:SK κ}{l:List κ}{vs:A2}{k:κ}{v:V}(h:StA sk H l vs)(hv:sk.at_ H k v):StA sk H (l++[k]) (vs++[v]):=by
 refine ⟨by rw [Qap,Qap,h.1];rfl,fun i q C=>?_⟩
 by_cases e:i < l.length
 ·rw [Qbg e] at C
  rw [Qbg (by rw [h.1];exact e)];exact h.2 i q C
 ·rw [Qa8 (by lia)] at C
  have D:i - l.length=0:=by
   grind
  rw [D] at C;cases C;refine ⟨v,?_,hv⟩;rw [Qa8 (by rw [h.1];lia),h.1,D]
  rfl
theorem StA.one{sk:SK κ}{k:κ}{v:V}(hv:sk.at_ H k v):StA sk H [k] [v]:=StA.snoc (l:=[]) (vs:=[]) ⟨rfl,fun i q C=>by cases C⟩ hv
def bfS(nx:κ->List κ)(l:List κ)(i:Nat):List κ:=match l[i]? with
 | some s=>(nx s).foldl Y0 l
 | none=>l
def bfN(nx:κ->List κ)(b:κ):Nat->List κ
 | 0=>[b]
 | i + 1=>bfS nx (bfN nx b i) i
structure BfE(nx:κ->List κ)(b:κ)(l:List κ):Prop where
 e:l=bfN nx b l.length
 go:∀i,i < l.length->i < (bfN nx b i).length
theorem q5(r:List κ):∀l:List κ,l.Nodup->(r.foldl Y0 l).Nodup:=by
 induction r with
 | nil=>exact fun l h=>h
 | cons k r q=>exact fun l h=>q _ (XE h k)
theorem q8(r:List κ){x:κ}:∀l:List κ,x∈r.foldl Y0 l↔x∈l\/x∈r:=by
 induction r with
 | nil=>intro l;simp
 | cons k r q =>
  intro l;rw [Qdb,q,Xx,Qam,or_assoc]
theorem Za0(r:List κ):∀l:List κ,(r.foldl Y0 l).length<=l.length + r.length:=by
 induction r with
 | nil=>exact fun l=>Qag _
 | cons k r q =>
  intro l;have h1:=q (Y0 l k);have h2:=G3 l k;rw [Qdb,Qax];lia
variable {nx:κ->List κ}{b:κ}
theorem Jt:∀i,(bfN nx b i).Nodup
 | 0=>Qbr.mpr ⟨Qa7,Qci⟩
 | i + 1=>by
  show (bfS nx (bfN nx b i) i).Nodup;unfold bfS
  split
  ·exact q5 _ _ (Jt i)
  ·exact Jt i
theorem Za1{U:List κ}(hb:b∈U)(hr:∀s∈U,∀x∈nx s,x∈U):∀i,∀s∈bfN nx b i,s∈U
 | 0,s,h=>by rw [Qat.mp h];exact hb
 | i + 1,s,h=>by
  have h:s∈bfS nx (bfN nx b i) i:=h;unfold bfS at h
  split at h
  ·rename_i q C
   rcases (q8 _ _).mp h with z | z
   ·exact Za1 hb hr i s z
   ·exact hr q (Za1 hb hr i q (Qas C)) s z
  ·exact Za1 hb hr i s h
theorem Za2{U:List κ}(hb:b∈U)(hr:∀s∈U,∀x∈nx s,x∈U)(i:Nat):(bfN nx b i).length<=U.length:=XF (Jt i) (Za1 hb hr i)
theorem zF{s:κ}(h:(bfN nx b i)[i]?=some s):bfN nx b (i + 1)=(nx s).foldl Y0 (bfN nx b i):=by
 show bfS nx (bfN nx b i) i=_;unfold bfS;rw [h]
theorem kC(j:Nat):∀d,∃r,bfN nx b (j + d)=bfN nx b j++r
 | 0=>⟨[],(Qb4 _).symm⟩
 | d + 1=>by
  obtain ⟨r,e⟩:=kC j d;show ∃r,bfS nx (bfN nx b (j + d)) (j + d)=_;unfold bfS
  split
  ·obtain ⟨q,e2⟩:=W9 (nx _) (bfN nx b (j + d))
   exact ⟨r++q,by rw [e2,e,Qb9]⟩
  ·exact ⟨r,e⟩
theorem Zjo{j:Nat}{s:κ}(q:j<=i)(hs:(bfN nx b j)[j]?=some s):(bfN nx b i)[j]?=some s:=by
 obtain ⟨r,e⟩:=kC (nx:=nx) (b:=b) j (i - j);rw [show j + (i - j)=i by lia] at e;rw [e,Qbg (Qaf.mp hs).1];exact hs
def Zj0(nx:κ->List κ)(b:κ)(j:Nat):Aj:=match (bfN nx b j)[j]? with
 | some s=>(nx s).map fun x=>(bfN nx b (j + 1)).idxOf x
 | none=>[]
def xb(nx:κ->List κ)(b:κ)(i:Nat):Az:=(List.range i).map fun j=>JZ (Zj0 nx b j)
def Zj1(nx:κ->List κ)(ot:κ->List V)(b:κ)(j:Nat):A2:=match (bfN nx b j)[j]? with
 | some s=>ot s
 | none=>[]
def zG(nx:κ->List κ)(ot:κ->List V)(b:κ)(i:Nat):Az:=(List.range i).map (Zj1 nx ot b)
theorem wQ{s:κ}(h:(bfN nx b i)[i]?=some s):xb nx b (i + 1)=xb nx b i++[((nx s).map fun x=>Jr ((bfN nx b (i + 1)).idxOf x))]:=by
 unfold xb;rw [Qd4,Qav];show _++[JZ (Zj0 nx b i)]=_;unfold Zj0 JZ;rw [h];rw [Qa3]
 rfl
theorem wR{ot:κ->List V}{s:κ}(h:(bfN nx b i)[i]?=some s):zG nx ot b (i + 1)=zG nx ot b i++[ot s]:=by
 unfold zG;rw [Qd4,Qav];show _++[Zj1 nx ot b i]=_;unfold Zj1;rw [h]
def rnG(nx:κ->List κ)(l:List κ):Ad:=l.map fun s=>(nx s).map fun x=>l.idxOf x
theorem q9(nx:κ->List κ)(l:List κ):(rnG nx l).length=l.length:=Qac _
theorem vk{j:Nat}{a:κ}(hl:(bfN nx b i).length=i)(hg:∀j,j < i->j < (bfN nx b j).length)(ha:(bfN nx b i)[j]?=some a):j < i/\(bfN nx b j)[j]?=some a:=by
 have q:j < i:=by grind
 refine ⟨q,?_⟩;have e:=Qad (hg j q);rw [Zjo (Qa9 q) e] at ha;rw [e];exact ha
theorem Za3(hl:(bfN nx b i).length=i)(hg:∀j,j < i->j < (bfN nx b j).length):xb nx b i=(rnG nx (bfN nx b i)).map JZ:=by
 unfold xb rnG;rw [Qa3];refine map_range _ i hl _ _ fun j a ha=>?_;obtain ⟨q,e⟩:=vk hl hg ha;unfold Zj0;rw [e];congr 1;refine Qbu fun x hx=>?_;obtain ⟨r,e2⟩:=kC (nx:=nx) (b:=b) (j + 1) (i - (j + 1));rw [show j + 1 + (i - (j + 1))=i by lia] at e2;rw [e2,JA];rw [zF e];exact (q8 _ _).mpr (.inr hx)
theorem Za4{ot:κ->List V}(hl:(bfN nx b i).length=i)(hg:∀j,j < i->j < (bfN nx b j).length):zG nx ot b i=(bfN nx b i).map ot:=by
 refine map_range _ i hl _ _ fun j a ha=>?_;obtain ⟨q,e⟩:=vk hl hg ha;unfold Zj1;rw [e]
end
def SqF(H1 H2:Hp)(r:Aw)(q:A2):Prop:=H2 r=some (.tup q)\/(H2 r=some (.lst q)/\H1 r=none)
theorem Zdj{xs:A2}{is:Aj}{Q:VK}(C:∀R:VK,R (.ref a) H->c d H R)(hx:H a=some (.tup xs)\/H a=some (.lst xs))(q:Nat->List V->Hp->Prop)(J:q 0 [] H)(hl:∀i zs H,q i zs H->zs.length<=sizeLine)(D:∀i zs H',q i zs H'->∀o,H a=some o->H' a=some o)
  (hs:∀i x zs H (R:A2->Hp->Prop),(∀zs H,q (i + 1) zs H->R zs H)->xs[i]?=some x->q i zs H->G (J1 is d (some x)) H fun b H2=>if b=true then I (J1 is d (some x)) H2 fun y L=>R (zs++[y]) L else R zs H2)
  (hd:∀zs H,q xs.length zs H->∀p,H p=none->Q (.ref p) (upd H p (.lst zs))):gE K c d H (GP is G I d Q)\/iTup K c d H (GP is G I d Q):=by
 rcases hx with hx | hx
 ·exact .inr (C _ ⟨a,rfl,⟨_,SqT.of hx⟩,XQ (K:=K) (a:=a) (xs:=xs) q J hl (fun i zs H' h=>SqT.of (D i zs H' h _ hx)) hs hd⟩)
 ·exact .inl (C _ ⟨a,rfl,⟨_,SqL.of hx⟩,XA (K:=K) (a:=a) (xs:=xs) q J hl (fun i zs H' h=>SqL.of (D i zs H' h _ hx)) hs hd⟩)
def Ju:A2->List Int
 | []=>[]
 | .int z::r=>((Builtin.Int.intBits z:Nat):Int)::Ju r
 | _::r=>Ju r
theorem jU:∀q:A2,(Ju q).length<=q.length
 | []=>Qag _
 | w::r=>by
  have:=jU r;cases w <;> simp only [Ju,Qax] <;> lia
theorem qA:∀(a b:A2),Ju (a++b)=Ju a++Ju b
 | [],_=>rfl
 | w::r,b=>by
  have:=qA r b;cases w <;> simp only [Ju,List.cons_append,this]
theorem qB{z:Int}:∀{q:A2},V.int z∈q->((Builtin.Int.intBits z:Nat):Int)∈Ju q
 | w::r,h=>by
  rcases Qam.mp h with rfl | h
  ·exact Qah
  ·have:=qB h
   cases w <;> skip <;> first | exact this | exact Qal _ this
theorem kD{m:Int}:∀{q:A2},m∈Ju q->∃z:Int,V.int z∈q/\m=((Builtin.Int.intBits z:Nat):Int)
 | w::r,h=>by
  have C:m∈Ju r->∃z:Int,V.int z∈w::r/\m=((Builtin.Int.intBits z:Nat):Int):=fun h=>let ⟨z,h1,h2⟩:=kD h;⟨z,Qal _ h1,h2⟩;cases w with
  | int z =>
   rcases Qam.mp h with rfl | h
   ·exact ⟨z,Qah,rfl⟩
   ·exact C h
  | _=>exact C h
theorem Zhg(h:0<=z):z < 2 ^ Builtin.Int.intBits z:=by
 unfold Builtin.Int.intBits
 split
 ·grind
 ·obtain ⟨n,rfl⟩:=Int.eq_ofNat_of_zero_le h
  have:=Nat.lt_log2_self (n:=n)
  exact_mod_cast this
theorem bits_le{B:Nat}(h:0<=z)(C:z < 2 ^ B):Builtin.Int.intBits z<=B:=by
 unfold Builtin.Int.intBits
 split
 ·exact Qbc _
 ·rename_i e
  obtain ⟨n,rfl⟩:=Int.eq_ofNat_of_zero_le h;have hn:n≠0:=fun q=>e (by rw [q];rfl);have h2:n < 2 ^ B:=by exact_mod_cast C
  exact (Nat.log2_lt hn).mpr h2
theorem Ze3:∀(bs:Ak) (l:Nat),(∀b∈bs,b=0\/b=1)->bt (hor bs.reverse) l=bs.getD l 0
 | [],l,_=>qr l
 | b::r,l,h=>by
  rw [Qcs,k7];have hb:=h b Qah;cases l with
  | zero =>
   unfold bt;show _=b;lia
  | succ l =>
   rw [YG,show (hor r.reverse * 2 + b) / 2=hor r.reverse by lia,Ze3 r l fun b hb=>h b (Qal _ hb)]
   rfl
def Y8(L:Nat)(ys:Ai)(y:Str):Int:=hor ((List.range L).map fun l:Nat=>bt (l:Int) (ys.idxOf y)).reverse
theorem Wc[DecidableEq g]{l:List g}{x:g}(hn:l.Nodup)(h:l[i]?=some x):l.idxOf x=i:=by grind
theorem Zdk{ys:Ai}{l:Nat}{y:Str}(hn:ys.Nodup)(h:ys[i]?=some y)(hl:l < n):bt (Y8 n ys y) l=bt (l:Int) i:=by
 unfold Y8;rw [Wc hn h,Ze3 _ _ fun b hb=>by
  obtain ⟨c,_,rfl⟩:=Qau.mp hb;exact YH _ _]
 rw [Qaj,Qai,Qgk hl]
 rfl
def lgB:A2->Nat
 | []=>0
 | .int z::r=>max (Builtin.Int.intBits z) (lgB r)
 | _::r=>lgB r
theorem Za5{z:Int}:∀{q:A2},V.int z∈q->Builtin.Int.intBits z<=lgB q
 | w::r,h=>by
  rcases Qam.mp h with rfl | h
  ·exact Nat.le_max_left _ _
  ·have:=Za5 h
   cases w <;> simp only [lgB] <;> lia
theorem Za6:∀q:A2,lgB q=0\/∃z:Int,V.int z∈q/\lgB q=Builtin.Int.intBits z
 | []=>.inl rfl
 | w::r=>by
  have C:(lgB (w::r)=lgB r)->lgB (w::r)=0\/∃z:Int,V.int z∈w::r/\lgB (w::r)=Builtin.Int.intBits z:=fun e=>by
   rw [e];rcases Za6 r with h | ⟨z,h1,h2⟩
   ·exact .inl h
   ·grind
  cases w with
  | int z =>
   by_cases h:lgB r<=Builtin.Int.intBits z
   ·exact .inr ⟨z,Qah,Nat.max_eq_left h⟩
   ·exact C (Nat.max_eq_right (by lia))
  | _=>exact C rfl
theorem Ze4(h1:∀z:Int,V.int z∈r->Builtin.Int.intBits z<=i)(h2:i=0\/∃z:Int,V.int z∈r/\i=Builtin.Int.intBits z):i=lgB r:=by
 refine Nat.le_antisymm ?_ ?_
 ·rcases h2 with h | ⟨z,q,h⟩
  ·lia
  ·rw [h]
   exact Za5 q
 ·rcases Za6 r with h | ⟨z,q,h⟩
  ·lia
  ·rw [h]
   exact h1 z q
def Wg(q:A2):Nat:=(q.filter fun w=>inV w (allR.map V.str)).length
def Zih(nm:Ai)(cols:Str->Int)(q:A2)(s:Int × Ak):Ak × Ak:=Xz nm cols s.1.toNat s.2 q
def nxT(nm:Ai)(cols:Str->Int)(q:A2)(L:Nat)(s:Int × Ak):List (Int × Ak):=(List.range (2 ^ nm.length)).map fun l=>(min (s.1 + 1) (L:Int),(Zih nm cols q s).2.map fun c=>bt c l)
def otT(nm:Ai)(cols:Str->Int)(q:A2)(o0 o1:V)(s:Int × Ak):A2:=(List.range (2 ^ nm.length)).map fun l=>if bt ((Zih nm cols q s).1.getD 0 0) l=1 then o1 else o0
def Zii(q:Aw)(H H':Hp):Prop:=∀b o,H b=some o->b≠q->H' b=some o
def Zhh(H:Hp)(k:Int × Ak)(a:Aw):Prop:=∃t,H a=some (.tup [.int k.1,.ref t])/\H t=some (.tup (k.2.map V.int))
theorem Zhh.bits{k:Int × Ak}(h:Zhh H k a):uO H k a:=by
 obtain ⟨t,h1,h2⟩:=h;refine ⟨t,h1,_,h2,?_⟩;rw [Qa3]
 rfl
def knQ:KN (Int × Ak) where
 knd:=knP.knd
 hsh:=knP.hsh
 at_:=Zhh
 hash_eq:=knP.hash_eq
 ok:=fun P w H h k a ok b=>knP.ok P w H h k a ok b.bits
 room:=knP.room
 room0:=knP.room0
 keep:=fun H H' k a hk ⟨t,e,e2⟩=>⟨t,hk _ _ e,hk _ _ e2⟩
def JI:Nat->List (Ak)
 | 0=>[[]]
 | n + 1=>(JI n).map (List.cons 0)++(JI n).map (List.cons 1)
theorem jV:∀n,(JI n).length=2 ^ n
 | 0=>rfl
 | n + 1=>by
  show ((JI n).map (List.cons 0)++(JI n).map (List.cons 1)).length=_;rw [Qap,Qac,Qac,jV n,Qe0];lia
theorem YZ:∀{n:Nat} {ks:Ak},ks∈JI n↔ks.length=n/\∀x∈ks,x=0\/x=1
 | 0,ks=>by
  constructor
  ·intro h
   rw [Qat.mp h];exact ⟨rfl,fun x hx=>by cases hx⟩
  ·rintro ⟨h,_⟩
   rw [Qdw h];exact Qat.mpr rfl
 | n + 1,ks=>by
  show ks∈(JI n).map (List.cons 0)++(JI n).map (List.cons 1)↔_;rw [Qca,Qau,Qau]
  constructor
  ·rintro (⟨r,hr,rfl⟩ | ⟨r,hr,rfl⟩)
   ·obtain ⟨h1,h2⟩:=YZ.mp hr
    refine ⟨by rw [Qax,h1],fun x hx=>?_⟩;rcases Qam.mp hx with rfl | hx
    ·exact .inl rfl
    ·exact h2 x hx
   ·obtain ⟨h1,h2⟩:=YZ.mp hr
    refine ⟨by rw [Qax,h1],fun x hx=>?_⟩;rcases Qam.mp hx with rfl | hx
    ·exact .inr rfl
    ·exact h2 x hx
  ·rintro ⟨h1,h2⟩
   cases ks with
   | nil=>cases h1
   | cons x r =>
    have hr:r∈JI n:=YZ.mpr ⟨by simpa using h1,fun y q=>h2 y (Qal _ q)⟩;rcases h2 x Qah with rfl | rfl
    ·exact .inl ⟨r,hr,rfl⟩
    ·exact .inr ⟨r,hr,rfl⟩
def uni(q:Nat):Nat->List (Int × Ak)
 | 0=>[]
 | n + 1=>uni q n++(JI q).map fun ks=>((n:Int),ks)
theorem zH(q:Nat):∀n,(uni q n).length=n * 2 ^ q
 | 0=>by rw [Qhh];rfl
 | n + 1=>by
  show (uni q n++(JI q).map _).length=_;rw [Qap,Qac,zH q n,jV,Qhi]
theorem WT{q:Nat}{s:Int × Ak}:∀{n:Nat},s∈uni q n↔∃p:Nat,p < n/\s.1=(p:Int)/\s.2∈JI q
 | 0=>⟨(fun h=>nomatch h),fun ⟨p,h,_⟩=>absurd h (Qez _)⟩
 | n + 1=>by
  show s∈uni q n++(JI q).map (fun ks=>((n:Int),ks))↔_;rw [Qca,WT,Qau]
  constructor
  ·grind
  ·grind
theorem jX(w:V)(r:A2):Wg (w::r)=Wg r + if inV w (allR.map V.str)=true then 1 else 0:=by
 unfold Wg;rw [Qc2]
 split <;> rfl
theorem zI{ys:Ai}{cols:Str->Int}{pl:Nat}{kp:Ak}:∀C:A2,(∀w∈C,z9 ys w)->(Xz ys cols pl kp C).2.length=Wg C
 | [],_=>rfl
 | w::r,hw=>by
  have q:=zI (ys:=ys) (cols:=cols) (pl:=pl) (kp:=kp) r fun w h=>hw w (Qal _ h);rw [jX];rcases hw w Qah with ⟨y,rfl,h1,_⟩ | ⟨y,rfl,h1,h2,D,_⟩ | ⟨y,rfl,h1,h2,_⟩ | ⟨z,rfl,_⟩
  ·show (if y∈allR then _ else _:Ak × Ak).2.length=_
   rw [Qa0 h1,ZA,Qao h1,Qa0 rfl,Qap,q]
   rfl
  ·show (if y∈allR then _ else if y∈ys then _ else _:Ak × Ak).2.length=_
   rw [Qaw h2,Qaw D,ZA,Qaq h2,Qaw (by decide)];exact q
  ·show (if y∈allR then _ else if y∈ys then _ else _:Ak × Ak).2.length=_
   rw [Qaw h2,Qa0 h1,ZA,Qaq h2,Qaw (by decide)];exact q
  ·exact q
theorem zJ{cols:Str->Int}(hw:∀w∈r,z9 N w)(hk:n=Wg r){s:Int × Ak}(hs:s∈uni n (i + 1)):∀x∈nxT N cols r i s,x∈uni n (i + 1):=by
 intro x hx;obtain ⟨l,_,rfl⟩:=Qau.mp hx;obtain ⟨p,h1,h2,q⟩:=WT.mp hs;refine WT.mpr ⟨min (p + 1) i,by lia,?_,YZ.mpr ⟨?_,fun b hb=>?_⟩⟩
 ·grind
 ·rw [Qac,hk]
  exact zI r hw
 ·obtain ⟨c,_,rfl⟩:=Qau.mp hb
  exact YH c l
theorem wU{H':Hp}(s:ZC (hide L H) H')(hn:∀c∈L,H' c=none):ZC H (XD L H H')/\(∀t o,H' t=some o->XD L H H' t=some o)/\∀t o,H' t=some o->hide L H t=none->H t=none:=by
 have m:∀t o,H' t=some o->t∉L:=fun t o e m=>by rw [hn t m] at e;cases e
 refine ⟨fun b o e=>?_,fun t o e=>by rw [ZG (m t o e)];exact e,fun t o e h=>by rw [Zz (m t o e)] at h;exact h⟩
 by_cases q:b∈L
 ·rw [Xq q]
  exact e
 ·rw [ZG q]
  exact s _ _ (by rw [Zz q];exact e)
theorem xV{H':Hp}{p:Aw}(R:We H p O)(e:∀b xs,H b=some (.tup xs)->H' b=some (.tup xs)):We H' p O:=by
 obtain ⟨as,h1,h2,C⟩:=R;refine ⟨as,e _ _ h1,h2,fun i r hi=>?_⟩;obtain ⟨a,D,q⟩:=C i r hi;exact ⟨a,D,e _ _ q⟩
theorem Za7{B:Nat}(q:∀z:Int,V.int z∈r->0<=z/\z < 2 ^ B):lgB r<=B:=by
 rcases Za6 r with h | ⟨z,C,h⟩
 ·lia
 ·rw [h]
  exact bits_le (q z C).1 (q z C).2
theorem lgB_lt(h:V.int z∈r)(q:0<=z):z < 2 ^ lgB r:=Int.lt_of_lt_of_le (Zhg q) (Zai (Za5 h))
theorem kE:∀y∈allR,y∈ZJ:=by decide +kernel
theorem kF:∀y∈Jo,y∉allR->y∈Zaq/\npw (.str y)=Zao y:=by decide +kernel
theorem Zhi:∀y∈allR,y∈Jo->1<=npw (.str y)/\(y∈Zhc->2<=npw (.str y)):=by decide +kernel
theorem kG{ys:Ai}{B:Nat}{w:V}(D:∀y∈ys,y∉ZJ)(h:jN ys B w):z9 ys w:=by
 rcases h with ⟨y,rfl,h1,h2,q⟩ | ⟨y,rfl,h1,h2,q⟩ | ⟨z,rfl,C,_,q⟩
 ·by_cases ha:y∈allR
  ·exact .inl ⟨y,rfl,ha,h2,Zhi y ha h1⟩
  ·exact .inr (.inl ⟨y,rfl,(kF y h1 ha).1,ha,h2,(kF y h1 ha).2⟩)
 ·exact .inr (.inr (.inl ⟨y,rfl,h1,fun z=>D y h1 (kE y z),q⟩))
 ·exact .inr (.inr (.inr ⟨z,rfl,C,q⟩))
def jg(ls:Aj)(ys:Ai)(y:Str):Int:=sm (fun k=>bt ((ls.getD k 0:Nat):Int) (ys.idxOf y)) ls.length
theorem Zhj{ls:Aj}{ys:Ai}{k l:Nat}{y:Str}(hn:ys.Nodup)(h:ys[i]?=some y)(hk:ls[k]?=some l):bt (jg ls ys y) k=bt (l:Int) i:=by
 unfold jg;rw [Wc hn h];have:=Zat (b:=fun k=>bt ((ls.getD k 0:Nat):Int) i) (fun _=>YH _ _) k ls.length (Qaf.mp hk).1;rw [Qaj,hk] at this;exact this
structure Runs(nx:Ad)(ot:Az)(n:Nat):Prop where
 pos:0 < nx.length
 ol:ot.length=nx.length
 nr:∀r∈nx,r.length=2 ^ n
 nl:∀r∈nx,∀s∈r,s < nx.length
 or:∀r∈ot,r.length=2 ^ n
def stN(nx:Ad):Nat->List Nat->Nat
 | s,[]=>s
 | s,c::r=>stN nx ((nx.getD s []).getD c 0) r
def rnO(nx:Ad)(ot:Az):Nat->List Nat->List V
 | _,[]=>[]
 | s,c::r=>(ot.getD s []).getD c .non::rnO nx ot ((nx.getD s []).getD c 0) r
theorem zK(nx:Ad):∀(s:Nat) (ls:Aj) (c:Nat),stN nx s (ls++[c])=(nx.getD (stN nx s ls) []).getD c 0
 | _,[],_=>rfl
 | s,d::r,c=>zK nx ((nx.getD s []).getD d 0) r c
theorem kH(nx:Ad)(ot:Az):∀(s:Nat) (ls:Aj) (c:Nat),rnO nx ot s (ls++[c])=rnO nx ot s ls++[(ot.getD (stN nx s ls) []).getD c .non]
 | _,[],_=>rfl
 | s,d::r,c=>congrArg (List.cons _) (kH nx ot ((nx.getD s []).getD d 0) r c)
theorem vl(nx:Ad)(ot:Az):∀(s:Nat) (ls:Aj),(rnO nx ot s ls).length=ls.length
 | _,[]=>rfl
 | s,d::r=>congrArg Nat.succ (vl nx ot _ r)
theorem getD_at{l:List g}{d:g}(h:i < l.length):l[i]?=some (l.getD i d):=by grind
section
variable {κ:Type}[DecidableEq κ]{nx:κ->List κ}{b:κ}{l:List κ}
theorem Za8{x:κ}(h:x∈l):l[l.idxOf x]?=some x:=by grind
theorem BfE.len(B:BfE nx b l):(bfN nx b l.length).length=l.length:=by rw [<-B.e]
theorem BfE.here(B:BfE nx b l){j:Nat}{s:κ}(h:l[j]?=some s):j < l.length/\(bfN nx b j)[j]?=some s:=vk B.len B.go (by rw [<-B.e];exact h)
theorem BfE.sub(B:BfE nx b l){j:Nat}(q:j<=l.length){x:κ}(h:x∈bfN nx b j):x∈l:=by
 obtain ⟨r,e⟩:=kC (nx:=nx) (b:=b) j (l.length - j);rw [show j + (l.length - j)=l.length by lia,<-B.e] at e;rw [e];exact Qde _ h
theorem BfE.begin(B:BfE nx b l):l[0]?=some b/\b∈l:=by
 have hb:b∈l:=B.sub (Qbc _) (show b∈[b] from Qat.mpr rfl);have e:=Zjo (nx:=nx) (b:=b) (i:=l.length) (j:=0) (Qbc _) (s:=b) rfl;rw [<-B.e] at e;exact ⟨e,hb⟩
theorem BfE.next(B:BfE nx b l){s x:κ}(h:s∈l)(hx:x∈nx s):x∈l:=by
 obtain ⟨j,q⟩:=Qc9.mp h;obtain ⟨h1,h2⟩:=B.here q;refine B.sub (j:=j + 1) h1 ?_;rw [zF h2];exact (q8 _ _).mpr (.inr hx)
theorem BfE.nodup(B:BfE nx b l):l.Nodup:=by
 rw [B.e];exact Jt _
def ixG(l:List κ)(x:κ):Nat:=l.idxOf x
theorem BfE.zero(B:BfE nx b l):ixG l b=0:=Wc B.nodup B.begin.1
theorem rnG_at(h:∀s∈l,∀x∈nx s,x∈l){s:κ}(hs:s∈l):(rnG nx l).getD (ixG l s) []=(nx s).map fun x=>ixG l x:=by
 unfold rnG ixG;rw [Qaj,Qai,Za8 hs]
 rfl
theorem Zhk{ot:κ->List V}{s:κ}(hs:s∈l):(l.map ot).getD (ixG l s) []=ot s:=by
 unfold ixG;rw [Qaj,Qai,Za8 hs]
 rfl
end
structure jY(nm:Ai)(ws:A2):Prop where
 n3:nm.length<=3
 nd:nm.Nodup
 kp:∀y∈nm,y∉ZJ
 ln:ws.length<=100
 wd:∀w∈ws,jN nm 10 w
 en:Wz ws
 st:k4 ws=1
 rm:Wg ws<=15
abbrev nxS(nm:Ai)(q:A2):Int × Ak->List (Int × Ak):=nxT nm (Y8 (2 ^ nm.length) nm) q (lgB q)
theorem jY.wc(S:jY N r):∀w∈r,z9 N w:=fun w h=>kG S.kp (S.wd w h)
theorem jY.iz(S:jY N r):∀z:Int,V.int z∈r->0<=z/\z < 2 ^ 10:=fun z h=>by
 rcases S.wd _ h with ⟨y,e,_⟩ | ⟨y,e,_⟩ | ⟨C,e,q,h1,_⟩
 ·cases e
 ·cases e
 ·cases e
  exact ⟨q,h1⟩
theorem jY.big(S:jY N r):(10 + 1) * 2 ^ Wg r<=1000000:=by
 have:2 ^ Wg r<=2 ^ 15:=Qdf (by decide) S.rm;lia
theorem jY.len{l:List (Int × Ak)}(S:jY N r)(B:BfE (nxS N r) (0,List.replicate (Wg r) 0) l):l.length<=1000000:=by
 have h:=Za2 (nx:=nxS N r) (b:=((0:Int),List.replicate (Wg r) (0:Int))) (U:=uni (Wg r) (lgB r + 1)) (WT.mpr ⟨0,by lia,rfl,YZ.mpr ⟨Qa1,fun x hx=>.inl (Qfj hx)⟩⟩) (fun s hs=>zJ S.wc rfl hs) l.length;rw [<-B.e,zH] at h;have h2:lgB r<=10:=Za7 S.iz;have q:=S.big;exact Qaz h (Qaz (Qeb _ (by lia)) q)
theorem Zhl(nm:Ai)(cols:Str->Int)(q:A2)(L:Nat)(s:Int × Ak):(nxT nm cols q L s).length=2 ^ nm.length:=by
 unfold nxT;rw [Qac,Qbl]
theorem Zhm(nm:Ai)(cols:Str->Int)(q:A2)(o0 o1:V)(s:Int × Ak):(otT nm cols q o0 o1 s).length=2 ^ nm.length:=by
 unfold otT;rw [Qac,Qbl]
section
variable {κ:Type}[DecidableEq κ]{nx:κ->List κ}{b:κ}{l:List κ}
theorem Zhn(B:BfE nx b l)(hn:∀s,(nx s).length=n):(∀r∈rnG nx l,r.length=n)/\∀r∈rnG nx l,∀s∈r,s < (rnG nx l).length:=by
 constructor
 ·intro r hr
  obtain ⟨s,_,rfl⟩:=Qau.mp hr;rw [Qac,hn]
 ·intro r hr x hx
  obtain ⟨s,hs,rfl⟩:=Qau.mp hr;obtain ⟨y,q,rfl⟩:=Qau.mp hx;rw [q9];exact Qbf (B.next hs q)
end
theorem zL{H':Hp}{xs:A2}(h:SqL K H a xs)(s:ZC H H'):SqL K H' a xs:=by
 rcases h with h | h
 ·rcases h with h | ⟨u,h⟩
  ·exact .inl (.inl (s _ _ h))
  ·exact .inl (.inr ⟨u,s _ _ h⟩)
 ·exact .inr h
theorem Zii.tup{q:Aw}{H H':Hp}(o:Zii q H H'){C:Ah}(D:H q=some (.tbl C)){b:Aw}{xs:A2}(e:H b=some (.tup xs)):H' b=some (.tup xs):=o _ _ e (X4 e D fun z=>nomatch z)
def neA(x y:Int)(k:Nat):Int:=if lo x k=lo y k then 0 else 1
theorem Ze5(x y:Int)(k:Nat):neA x y k=0\/neA x y k=1:=by
 unfold neA
 split
 ·exact .inl rfl
 ·exact .inr rfl
theorem Zdl(x y:Int):neA x y 0=0:=by
 unfold neA lo;rw [Qds,Qgs,Qgs]
 rfl
theorem Zdm(x y:Int)(k:Nat):neA x y (k + 1)=1 - (1 - (bt x k + bt y k) % 2) * (1 - neA x y k):=by
 have e1:=qu x k;have e2:=qu y k;have b1:=xa x k;have b2:=xa y k;unfold neA;rcases YH x k with a | a <;> rcases YH y k with b | b <;> rw [a] at e1 ⊢ <;> rw [b] at e2 ⊢ <;> by_cases h:lo x k=lo y k
 all_goals first
  | rw [Qa0 h,Qa0 (by lia)];rfl
  | rw [Qaw h,Qaw (by lia)];rfl
  | rw [Qa0 h,Qaw (by lia)];rfl
def sgA(x:Int)(k:Nat):Int:=lo x k - 2 ^ k * bt x k
def bnA(x y:Int)(k:Nat):Int:=if sgA x k < sgA y k then 1 else 0
theorem bnA_01(x y:Int)(k:Nat):bnA x y k=0\/bnA x y k=1:=by
 unfold bnA
 split
 ·exact .inr rfl
 ·exact .inl rfl
theorem bnA_br(x y:Int)(k:Nat):bnA x y k=1 - (1 - (1 - bt y k) * bt x k) * (1 - brA x y k * (1 - (bt y k + bt x k) % 2)):=by
 have b1:=xa x k;have b2:=xa y k;unfold bnA sgA brA;rcases YH x k with a | a <;> rcases YH y k with b | b <;> rw [a,b] <;> by_cases h:lo x k < lo y k
 all_goals first
  | rw [Qa0 h,Qa0 (by lia)];rfl
  | rw [Qaw h,Qaw (by lia)];rfl
  | rw [Qa0 h,Qaw (by lia)];rfl
  | rw [Qaw h,Qa0 (by lia)];rfl
def wV(y:Str)(is:Ak)(k:Nat):Int :=
 if y = "twice" then tw (is.getD 0 0) k else if y = "neg" \/ y = "low" \/ y = "nought" then nzA (is.getD 0 0) k else if y = "same" then neA (is.getD 0 0) (is.getD 1 0) k else if y = "add" then cyA (is.getD 0 0) (is.getD 1 0) k else brA (is.getD 0 0) (is.getD 1 0) k
theorem Zho(y:Str)(is:Ak)(k:Nat):wV y is k=0\/wV y is k=1:=by
 unfold wV
 repeat' split
 ·exact tw_01 _ _
 ·exact Zan _ _
 ·exact Ze5 _ _ _
 ·exact Zal _ _ _
 ·exact jM _ _ _
theorem Za9(y:Str)(is:Ak):wV y is 0=0:=by
 unfold wV
 repeat' split
 ·rfl
 ·exact Zdc _
 ·exact Zdl _ _
 ·exact kr _ _
 ·exact ky _ _
def Zb3(y:Str)(bs:Ak)(h:Int):Int :=
 if y = "twice" then bs.getD 0 0 else if y = "neg" \/ y = "low" \/ y = "nought" then 1 - (1 - bs.getD 0 0) * (1 - h) else if y = "same" then 1 - (1 - (bs.getD 0 0 + bs.getD 1 0) % 2) * (1 - h) else if y = "add" then (bs.getD 0 0 + bs.getD 1 0 + h) / 2 else 1 - (1 - (1 - bs.getD 0 0) * bs.getD 1 0) * (1 - h * (1 - (bs.getD 0 0 + bs.getD 1 0) % 2))
theorem jZ(y:Str)(is:Ak)(k:Nat):wV y is (k + 1)=Zb3 y (is.map fun x=>bt x k) (wV y is k):=by
 unfold wV Zb3;rw [Wx,Wx]
 repeat' split
 ·rfl
 ·exact Zdd _ _
 ·exact Zdm _ _ _
 ·exact ku _ _ _
 ·exact kz _ _ _
def Zjp(y:Str)(bs:Ak)(h:Int):Int :=
 if y = "add" \/ y = "sub" then (bs.getD 0 0 + bs.getD 1 0 + h) % 2 else if y = "neg" then (bs.getD 0 0 + h) % 2 else if y = "twice" then h else if y = "low" then bs.getD 0 0 * (1 - h)
 else if y = "same" \/ y = "nought" then 1 - Zb3 y bs h else if y = "under" then Zb3 y bs h else 1 - (1 - (1 - bs.getD 1 0) * bs.getD 0 0) * (1 - h * (1 - (bs.getD 1 0 + bs.getD 0 0) % 2))
def ya(y:Str)(bs:Ak):Int :=
 if y = "yes" then 1 else if y = "sign" then bs.getD 0 0 else if y = "not" \/ y = "never" then 1 - bs.getD 0 0 else if y = "and" \/ y = "both" then bs.getD 0 0 * bs.getD 1 0 else if y = "or" \/ y = "either" then 1 - (1 - bs.getD 0 0) * (1 - bs.getD 1 0)
 else if y = "odd" then (bs.getD 0 0 + bs.getD 1 0) % 2 else if y = "so" then 1 - (1 - (1 - bs.getD 0 0)) * (1 - bs.getD 1 0) else 1 - (1 - bs.getD 0 0 * bs.getD 1 0) * (1 - (1 - bs.getD 0 0) * bs.getD 2 0)
theorem Ze6(a b h:Int)(l:Nat):bt (Zjm a b h) l=1 - (1 - (1 - bt a l) * bt b l) * (1 - bt h l * (1 - (bt a l + bt b l) % 2)):=by
 unfold Zjm;rw [Gi,YK,YK,Jq,Jq,qp]
theorem Ze7(y:Str)(is:Ak)(h:Int)(l:Nat):bt (ktI y is h) l=Zb3 y (is.map fun x=>bt x l) (bt h l):=by
 unfold Zb3 ktI;rw [Wx,Wx]
 repeat' split
 ·rfl
 ·exact Gi l _ _
 ·rw [Gi,qp]
 ·rw [Gi,YK,YK,Gi]
  rcases YH (is.getD 0 0) l with a | a <;> rcases YH (is.getD 1 0) l with b | b <;> rcases YH h l with c | c <;> rw [a,b,c] <;> rfl
 ·exact Ze6 _ _ _ _
theorem okR_bt(y:Str)(is:Ak)(h:Int)(l:Nat):bt (okI y is h (ktI y is h)) l=Zjp y (is.map fun x=>bt x l) (bt h l):=by
 unfold Zjp okI;rw [<-Ze7,Wx,Wx]
 repeat' split
 ·rw [qp,qp]
  lia
 ·exact qp l _ _
 ·rfl
 ·rw [YK,Jq]
 ·exact Jq l _
 ·rfl
 ·exact Ze6 _ _ _ _
theorem Ze8(y:Str)(is:Ak)(l:Nat):bt (oaI y is) l=ya y (is.map fun x=>bt x l):=by
 unfold ya oaI;rw [Wx,Wx,Wx]
 repeat' split
 ·exact Zaj l
 ·rfl
 ·exact Jq l _
 ·exact YK l _ _
 ·exact Gi l _ _
 ·exact qp l _ _
 ·rw [Gi,Jq]
 ·rw [Gi,YK,YK,Jq]
def clB(y:Str)(is:Ak)(k:Nat):Int :=
 if y = "same" then 1 - neA (is.getD 0 0) (is.getD 1 0) (k + 1) else if y = "nought" then 1 - nzA (is.getD 0 0) (k + 1) else if y = "under" then brA (is.getD 0 0) (is.getD 1 0) (k + 1) else if y = "beneath" then bnA (is.getD 0 0) (is.getD 1 0) k
 else ya y (is.map fun x=>bt x k)
theorem once01(y:Str)(is:Ak)(k:Nat):ya y (is.map fun x=>bt x k)=0\/ya y (is.map fun x=>bt x k)=1:=by
 rw [<-Ze8];exact YH _ _
theorem kI(y:Str)(is:Ak)(k:Nat):clB y is k=0\/clB y is k=1:=by
 unfold clB
 repeat' split
 ·have:=Ze5 (is.getD 0 0) (is.getD 1 0) (k + 1)
  lia
 ·have:=Zan (is.getD 0 0) (k + 1)
  lia
 ·exact jM _ _ _
 ·exact bnA_01 _ _ _
 ·exact once01 _ _ _
def rwR(W:Nat)(ρ:Str->Int)(w:V)(is:Ak):Int :=
 match w with
 | .str y=>if y∈Z2 then sm (clB y is) W else wwv ρ w is % 2 ^ W
 | _=>wwv ρ w is % 2 ^ W
def WL(W:Nat)(ρ:Str->Int):A2->List Int
 | []=>[]
 | w::r=>rwR W ρ w ((WL W ρ r).take (npw w))::(WL W ρ r).drop (npw w)
theorem kJ(W:Nat)(ρ:Str->Int):∀q:A2,(WL W ρ q).length=k4 q
 | []=>rfl
 | w::r=>by
  show ((WL W ρ r).drop (npw w)).length + 1=_;rw [Qd6,kJ W ρ r]
  rfl
def wW:V->Bool
 | .str y=>decide (y∈allR)
 | _=>false
def Ga(W:Nat)(ρ:Str->Int):A2->Nat->List Int
 | [],_=>[]
 | w::r,k=>Ga W ρ r k++if wW w=true then [wV (Zb1 w) ((WL W ρ r).take (npw w)) k] else []
def Zba(ys:Ai)(ν:Str->Int)(pl:Nat)(kp:Ak):A2->List Int × Ak
 | []=>([],[])
 | w::r =>
  let p:=Zba ys ν pl kp r
  match w with
  | .str y =>
   if y∈allR then (Zjp y (p.1.take (npw w)) (kp.getD p.2.length 0)::p.1.drop (npw w),p.2++[Zb3 y (p.1.take (npw w)) (kp.getD p.2.length 0)])
   else if y∈ys then (ν y::p.1.drop (npw w),p.2)
   else (ya y (p.1.take (npw w))::p.1.drop (npw w),p.2)
  | .int z=>(bt z pl::p.1.drop (npw w),p.2)
  | _=>p
theorem yb{ys:Ai}{cols:Str->Int}{pl:Nat}{kp:Ak}(hk:∀i:Nat,kp.getD i 0=0\/kp.getD i 0=1)(l:Nat):∀q:A2,
  (Xz ys cols pl kp q).1.map (fun x=>bt x l)=(Zba ys (fun y=>bt (cols y) l) pl kp q).1/\(Xz ys cols pl kp q).2.map (fun x=>bt x l)=(Zba ys (fun y=>bt (cols y) l) pl kp q).2
 | []=>⟨rfl,rfl⟩
 | w::r=>by
  obtain ⟨e1,e2⟩:=yb (ys:=ys) (cols:=cols) (pl:=pl) hk l r;have D:(Xz ys cols pl kp r).2.length=(Zba ys (fun y=>bt (cols y) l) pl kp r).2.length:=by rw [<-e2,Qac]
  cases w with
  | str y =>
   show (if y∈allR then _ else if y∈ys then _ else _:Ak × Ak).1.map _=(if y∈allR then _ else if y∈ys then _ else _:Ak × Ak).1/\(if y∈allR then _ else if y∈ys then _ else _:Ak × Ak).2.map _=(if y∈allR then _ else if y∈ys then _ else _:Ak × Ak).2
   by_cases ha:y∈allR
   ·rw [Qa0 ha,Qa0 ha]
    constructor
    ·show bt _ l::_=_::_
     rw [okR_bt,vh (hk _),Qem,Qe5,e1,D]
    ·rw [Qav,e2]
     show _++[bt _ l]=_;rw [Ze7,vh (hk _),Qem,e1,D]
   ·rw [Qaw ha,Qaw ha]
    by_cases C:y∈ys
    ·rw [Qa0 C,Qa0 C]
     refine ⟨?_,e2⟩;show bt _ l::List.map _ (List.drop _ _)=_::_;rw [Qe5,e1]
    ·rw [Qaw C,Qaw C]
     refine ⟨?_,e2⟩;show bt _ l::List.map _ (List.drop _ _)=_::_;rw [Ze8,Qem,Qe5,e1]
  | int z =>
   refine ⟨?_,e2⟩;show bt (-(bt z pl)) l::List.map _ (List.drop _ _)=bt z pl::_;rw [Qe5,e1,vh (YH z pl)]
  | _=>exact ⟨e1,e2⟩
theorem Jv:∀y∈Jo,y∉Z2:=by decide +kernel
theorem Zdn{y:Str}(q:y∈qw)(is:Ak)(k:Nat):wV y is k=hld y is k:=by
 unfold qw at q;simp only [Qam,Qa7,Qdl] at q;rcases q with rfl | rfl | rfl | rfl | rfl <;> rfl
theorem Zdo{y:Str}(q:y∈qw)(bs:Ak)(h:Int):Zjp y bs h=ans1 y bs h:=by
 unfold qw at q;simp only [Qam,Qa7,Qdl] at q;rcases q with rfl | rfl | rfl | rfl | rfl <;> rfl
theorem Zbb{y:Str}(q:y∈Jo)(hr:y∉qw)(bs:Ak):ya y bs=once y bs:=by
 rcases xR y q hr with ⟨rfl,_⟩ | ⟨rfl,_⟩ | ⟨rfl,_⟩ | ⟨rfl,_⟩ | ⟨rfl,_⟩ <;> rfl
theorem Zbc:∀y∈Z2,y∈allR->y = "same" \/ y = "under" \/ y = "beneath" \/ y = "nought" := by decide +kernel
theorem wX:∀y∈Z2,y∉allR->¬y = "same" /\ ¬y = "under" /\ ¬y = "beneath" /\ ¬y = "nought" := by decide +kernel
theorem Zdp{f:Nat->Int}(hf:∀i,f i=0\/f i=1){k W:Nat}(h:k < W):bt (sm f W) k=f k:=Zat hf k W h
theorem Zdq(ρ:Str->Int){y:Str}{W k:Nat}(hk:k < W)(ha:y∈allR){is:Ak}(h:y∈Z2\/(y∈Jo/\is.length=Yk y)):Zjp y (is.map fun x=>bt x k) (wV y is k)=bt (rwR W ρ (.str y) is) k:=by
 rcases h with hc | ⟨hs,hl⟩
 ·show _=bt (if y∈Z2 then _ else _) k
  rw [Qa0 hc,Zdp (kI y is) hk];have hs:=jZ y is k;rcases Zbc y hc ha with rfl | rfl | rfl | rfl
  ·show 1 - Zb3 "same" _ _=1 - neA _ _ (k + 1)
   rw [<-hs]
   rfl
  ·show Zb3 "under" _ _=brA _ _ (k + 1)
   rw [<-hs]
   rfl
  ·show 1 - (1 - (1 - List.getD _ 1 0) * List.getD _ 0 0) * (1 - brA _ _ k * (1 - (List.getD _ 1 0 + List.getD _ 0 0) % 2))=bnA _ _ k
   rw [Wx,Wx,bnA_br]
  ·show 1 - Zb3 "nought" _ _=1 - nzA _ (k + 1)
   rw [<-hs]
   rfl
 ·have hr:=(Zas y hs).mp ha
  show _=bt (if y∈Z2 then _ else _) k;rw [Qaw (Jv y hs),Zdo hr,Zdn hr,ans_ok ρ hr hl,qt _ _ _ hk]
theorem Zbd(ρ:Str->Int){y:Str}{W k:Nat}(hk:k < W)(ha:y∉allR){is:Ak}(h:y∈Z2\/(y∈Jo/\is.length=Yk y)):ya y (is.map fun x=>bt x k)=bt (rwR W ρ (.str y) is) k:=by
 rcases h with hc | ⟨hs,hl⟩
 ·show _=bt (if y∈Z2 then _ else _) k
  obtain ⟨h1,h2,C,q⟩:=wX y hc ha;rw [Qa0 hc,Zdp (kI y is) hk];unfold clB;rw [Qaw h1,Qaw q,Qaw h2,Qaw C]
 ·have hr:y∉qw:=fun z=>ha ((Zas y hs).mpr z)
  show _=bt (if y∈Z2 then _ else _) k;rw [Qaw (Jv y hs),Zbb hs hr,Zhb ρ hs hr hl,qt _ _ _ hk]
def wY(ys:Ai)(B:Nat)(w:V):Prop:=jN ys B w\/∃y,w=.str y/\y∈Z2/\y∉ys
theorem Zdr(W:Nat)(ρ:Str->Int)(q:A2)(k:Nat):(Ga W ρ q k).length=(q.filter wW).length:=by
 induction q with
 | nil=>rfl
 | cons w r C =>
  show (Ga W ρ r k++_).length=_;rw [Qap,C,Qc2]
  split <;> rfl
theorem Zbe{ys:Ai}{B W k pl:Nat}{ρ:Str->Int}(hk:k < W)(M:pl=k\/(B<=pl/\B<=k))(I:∀y∈ys,y∉ZJ)(kp:Ak):∀J:A2,(∀w∈J,wY ys B w)->Wz J->(∃r,kp=Ga W ρ J k++r)->Zba ys (fun y=>bt (ρ y) k) pl kp J=((WL W ρ J).map (fun x=>bt x k),Ga W ρ J (k + 1))
 | [],_,_,_=>rfl
 | w::r,hw,he,Z=>by
  obtain ⟨r0,O⟩:=Z;have Y:=Zbe (ρ:=ρ) hk M I kp r (fun w h=>hw w (Qal _ h)) he.2 ⟨_,by rw [O];show (_++_)++_=_;rw [Qb9]⟩;have N:=kJ W ρ r;have htk:((WL W ρ r).take (npw w)).length=npw w:=by rw [Qby,N];exact Nat.min_eq_left he.1
  have ml:=Zdr W ρ r;have G:∀y,w=.str y->y∉ys->(y∈Z2\/(y∈Jo/\npw w=Yk y))->Zba ys (fun y=>bt (ρ y) k) pl kp (w::r)=((WL W ρ (w::r)).map (fun x=>bt x k),Ga W ρ (w::r) (k + 1)):=by
   rintro y rfl C D;have S:y∈Z2\/(y∈Jo/\((WL W ρ r).take (npw (.str y))).length=Yk y):=by rw [htk];exact D
   by_cases ha:y∈allR
   ·have q:wW (.str y)=true:=Qao ha
    have hg:kp.getD (Ga W ρ r (k + 1)).length 0=wV y ((WL W ρ r).take (npw (.str y))) k:=by
     have e:Ga W ρ (.str y::r) k=Ga W ρ r k++[wV y ((WL W ρ r).take (npw (.str y))) k]:=by
      show _++(if wW (.str y)=true then _ else _)=_;rw [Qa0 q]
      rfl
     rw [O,e,ml,<-ml k,Qb9,Qaj,Qa8 (Qag _),Qe1]
     rfl
    show (if y∈allR then _ else _)=_;rw [Qa0 ha,Y];rw [hg,<-Qem,Zdq ρ hk ha S,<-jZ];refine Prod.ext ?_ ?_
    ·show _::_=bt _ k::((WL W ρ r).drop (npw (.str y))).map _
     rw [Qe5]
    ·show _=_++(if wW (.str y)=true then _ else _)
     rw [Qa0 q]
     rfl
   ·have q:¬wW (.str y)=true:=fun z=>ha (Qbi z)
    show (if y∈allR then _ else if y∈ys then _ else _)=_;rw [Qaw ha,Qaw C,Y];rw [<-Qem,Zbd ρ hk ha S];refine Prod.ext ?_ ?_
    ·show _::_=bt _ k::((WL W ρ r).drop (npw (.str y))).map _
     rw [Qe5]
    ·show _=_++(if wW (.str y)=true then _ else _)
     rw [Qaw q,Qb4]
  rcases hw w Qah with (⟨y,rfl,D,C,hp⟩ | ⟨y,rfl,D,hnr,hp⟩ | ⟨z,rfl,z0,z1,hp⟩) | ⟨y,rfl,D,C⟩
  ·exact G y rfl C (.inr ⟨D,hp⟩)
  ·have L:y∉allR:=fun z=>I y D (kE y z)
   have hnc:y∉Z2:=fun z=>I y D (YR y z);have q:¬wW (.str y)=true:=fun z=>L (Qbi z);show (if y∈allR then _ else if y∈ys then _ else _)=_;rw [Qaw L,Qa0 D,Y];refine Prod.ext ?_ ?_
   ·show _::_=bt (if y∈Z2 then _ else _) k::((WL W ρ r).drop (npw (.str y))).map _
    rw [Qaw hnc,qt _ _ _ hk,hp,List.take_zero,Qfa,Qfa]
    rfl
   ·show _=_++(if wW (.str y)=true then _ else _)
    rw [Qaw q,Qb4]
  ·show (bt z pl::(Zba ys (fun y=>bt (ρ y) k) pl kp r).1.drop (npw (.int z)),(Zba ys (fun y=>bt (ρ y) k) pl kp r).2)=_
   rw [Y];have ez:bt z pl=bt z k:=by
    rcases M with h | ⟨h1,h2⟩
    ·rw [h]
    ·rw [Ze0 z0 z1 h1,Ze0 z0 z1 h2]
   refine Prod.ext ?_ ?_
   ·show bt z pl::_=bt (wwv ρ (.int z) ((WL W ρ r).take (npw (.int z))) % 2 ^ W) k::((WL W ρ r).drop (npw (.int z))).map _
    rw [qt _ _ _ hk,hp,Qfa,Qfa,ez]
    rfl
   ·show _=_++(if wW (.int z)=true then _ else _)
    rw [Qaw (fun z=>nomatch z),Qb4]
  ·exact G y rfl C (.inl D)
theorem xW{ys:Ai}{ν q:Str->Int}{pl:Nat}{kp:Ak}(h:∀y∈ys,ν y=q y):∀C:A2,Zba ys ν pl kp C=Zba ys q pl kp C
 | []=>rfl
 | w::r=>by
  have D:=xW (pl:=pl) (kp:=kp) h r;unfold Zba;rw [D];cases w with
  | str y =>
   by_cases hr:y∈allR
   ·simp only [Qa0 hr]
   ·grind
  | _=>rfl
theorem kK{W:Nat}{ρ:Str->Int}{k:Nat}:∀{q:A2},∀x∈Ga W ρ q k,x=0\/x=1
 | w::r,x,h=>by
  rcases Qca.mp h with h | h
  ·exact kK x h
  ·split at h
   ·rw [Qat.mp h]
    exact Zho _ _ _
   ·cases h
theorem Zhp(W:Nat)(ρ:Str->Int)(q:A2)(k i:Nat):(Ga W ρ q k).getD i 0=0\/(Ga W ρ q k).getD i 0=1:=by
 rw [Qaj];cases e:(Ga W ρ q k)[i]? with
 | none=>exact .inl rfl
 | some x=>exact kK x (Qas e)
theorem yc(W:Nat)(ρ:Str->Int):∀q:A2,Ga W ρ q 0=List.replicate (q.filter wW).length 0
 | []=>rfl
 | w::r=>by
  show Ga W ρ r 0++_=_;rw [yc W ρ r,Qc2]
  split
  ·rw [Za9,Qax,Qgc]
  ·rw [Qb4]
theorem yd{ys:Ai}{B:Nat}:∀{q:A2},(∀w∈q,wY ys B w)->Wg q=(q.filter wW).length
 | [],_=>rfl
 | w::r,h=>by
  rw [jX,yd (fun v hv=>h v (Qal _ hv)),Qc2];have e:inV w (allR.map V.str)=wW w:=by
   rcases h w Qah with (⟨y,rfl,_⟩ | ⟨y,rfl,_⟩ | ⟨z,rfl,_⟩) | ⟨y,rfl,_⟩
   ·exact ZA _ _
   ·exact ZA _ _
   ·exact vg z _
   ·exact ZA _ _
  rw [e]
  split <;> rfl
theorem qC{ls:Aj}{W k c:Nat}(q:N.Nodup)(hk:∀y∈N,y∉ZJ)(hw:∀w∈r,wY N 10 w)(he:Wz r)(O:k < W)(hc:ls[k]?=some c)(G:c < 2 ^ N.length) :
  (Zih N (Y8 (2 ^ N.length) N) r (min (k:Int) (lgB r:Int),Ga W (jg ls N) r k)).1.map (fun x=>bt x c)=(WL W (jg ls N) r).map (fun x=>bt x k)/\(Zih N (Y8 (2 ^ N.length) N) r (min (k:Int) (lgB r:Int),Ga W (jg ls N) r k)).2.map (fun x=>bt x c)=Ga W (jg ls N) r (k + 1):=by
 have D:∀w∈r,wY N (lgB r) w:=fun w h=>by
  rcases hw w h with (z | z | ⟨z,rfl,I,_,J⟩) | z
  ·exact .inl (.inl z)
  ·exact .inl (.inr (.inl z))
  ·exact .inl (.inr (.inr ⟨z,rfl,I,lgB_lt h I,J⟩))
  ·exact .inr z
 obtain ⟨e1,e2⟩:=yb (ys:=N) (cols:=Y8 (2 ^ N.length) N) (pl:=(min (k:Int) (lgB r:Int)).toNat) (Zhp W (jg ls N) r k) c r;have C:∀y∈N,bt (Y8 (2 ^ N.length) N y) c=bt (jg ls N y) k:=fun y L=>by
  obtain ⟨i,hi⟩:=Qc9.mp L;rw [Zdk q hi G,Zhj q hi hc]
 have e3:=xW (pl:=(min (k:Int) (lgB r:Int)).toNat) (kp:=Ga W (jg ls N) r k) C r;have M:=Zbe (ρ:=jg ls N) (pl:=(min (k:Int) (lgB r:Int)).toNat) O (by lia:(min (k:Int) (lgB r:Int)).toNat=k\/(lgB r<=(min (k:Int) (lgB r:Int)).toNat/\lgB r<=k)) hk (Ga W (jg ls N) r k) r D he ⟨[],(Qb4 _).symm⟩;rw [e3,M] at e1 e2;exact ⟨e1,e2⟩
theorem Zbf{C:A2}{ls:Aj}{W:Nat}{o:Int}{o0 o1:V}{l:List (Int × Ak)}(J:N.Nodup)(hk:∀y∈N,y∉ZJ)(hw:∀w∈C,wY N 10 w)(he:Wz C)(hW:W<=ls.length)(O:∀x∈ls,x < 2 ^ N.length)(ho:WL W (jg (ls.take W) N) C=[o])
  (B:BfE (nxT N (Y8 (2 ^ N.length) N) C (lgB C)) (0,List.replicate (Wg C) 0) l) :
  ∀k,k < W->(rnO (rnG (nxT N (Y8 (2 ^ N.length) N) C (lgB C)) l) (l.map (otT N (Y8 (2 ^ N.length) N) C o0 o1)) 0 ls)[k]?=some (if bt o k=1 then o1 else o0):=by
 have cl:∀s∈l,∀x∈nxT N (Y8 (2 ^ N.length) N) C (lgB C) s,x∈l:=fun s hs x hx=>B.next hs hx;generalize hρ:jg (ls.take W) N=ρ at *;have Z:((0:Int),List.replicate (Wg C) (0:Int))=(min ((0:Nat):Int) (lgB C:Int),Ga W ρ C 0):=by
  rw [yc,yd hw,show min ((0:Nat):Int) (lgB C:Int)=0 by lia]
 have at_:∀k,k < W->∃c,ls[k]?=some c/\(ls.take W)[k]?=some c/\c < 2 ^ N.length:=fun k hk=>by
  have h1:ls[k]?=some ls[k]:=Qad (by lia);exact ⟨_,h1,by grind,O _ (Qas h1)⟩
 have step:∀k,k<=W->stN (rnG (nxT N (Y8 (2 ^ N.length) N) C (lgB C)) l) 0 (ls.take k)=ixG l (min (k:Int) (lgB C:Int),Ga W ρ C k)/\(min (k:Int) (lgB C:Int),Ga W ρ C k)∈l:=by
  intro k
  induction k with
  | zero =>
   intro _;rw [<-Z];exact ⟨B.zero.symm,B.begin.2⟩
  | succ k M =>
   intro hk1;obtain ⟨i1,i2⟩:=M (by lia);obtain ⟨c,hc,G,D⟩:=at_ k (by lia);obtain ⟨_,e2⟩:=qC J hk hw he (show k < W by lia) G D;rw [hρ] at e2;have S:(nxT N (Y8 (2 ^ N.length) N) C (lgB C) (min (k:Int) (lgB C:Int),Ga W ρ C k))[c]?=some (min ((k + 1:Nat):Int) (lgB C:Int),Ga W ρ C (k + 1)):=by
    unfold nxT;rw [G7 D,e2];congr 2;lia
   refine ⟨?_,B.next i2 (Qas S)⟩;rw [take_snoc hc,zK,i1,rnG_at cl i2,Qaj,Qai,S]
   rfl
 intro k I;obtain ⟨i1,i2⟩:=step k (by lia);obtain ⟨c,hc,G,D⟩:=at_ k I;obtain ⟨e1,_⟩:=qC J hk hw he I G D;rw [hρ] at e1;have L:k < ls.length:=by lia
 have ek:ls=ls.take k++c::ls.drop (k + 1):=by
  rw [show c::ls.drop (k + 1)=ls.drop k by rw [Qdn L];congr 1;exact (Qaf.mp hc).2.symm,Qc6]
 have go:∀(nx:Ad) (ot:Az) (s:Nat) (a:Aj) (c:Nat) (r:Aj),(rnO nx ot s (a++c::r))[a.length]?=some ((ot.getD (stN nx s a) []).getD c .non):=fun nx ot s a c r=>by
  induction a generalizing s with
  | nil=>rfl
  | cons d a M=>exact M _
 have g:=go (rnG (nxT N (Y8 (2 ^ N.length) N) C (lgB C)) l) (l.map (otT N (Y8 (2 ^ N.length) N) C o0 o1)) 0 (ls.take k) c (ls.drop (k + 1));rw [<-ek,Qby,Nat.min_eq_left (by lia),i1,Zhk i2] at g;rw [g];congr 1;unfold otT;rw [Qaj,G7 D];rw [ho] at e1;generalize (Zih N (Y8 (2 ^ N.length) N) C (min (k:Int) (lgB C:Int),Ga W ρ C k)).1=q at e1 ⊢;have Y:q.length=1:=by
  have:=congrArg List.length e1;rw [Qac] at this;exact this
 match q,Y,e1 with
 | [x],_,e1 =>
  have e1:bt x c=bt o k:=by
   injection e1
  show (if bt x c=1 then o1 else o0)=_;rw [e1]
inductive TyR(ys:Ai):A2->List Bool->Prop
 | nil:TyR ys [] []
 | sum {w:V} {r:A2} {ks:Am}:jN ys 10 w->TyR ys r (List.replicate (npw w) false++ks)->TyR ys (w::r) (false::ks)
 | clm {y:Str} {r:A2} {ks:Am}:y∈Z2->y∉ys->TyR ys r (List.replicate (Jp (.str y)) false++(List.replicate (z7 (.str y)) true++ks))->TyR ys (.str y::r) (true::ks)
theorem qD:∀y∈Z2,npw (.str y)=Jp (.str y) + z7 (.str y):=by decide +kernel
theorem TyR.facts{ys:Ai}{q:A2}{ks:Am}(h:TyR ys q ks):(∀w∈q,wY ys 10 w)/\Wz q/\k4 q=ks.length:=by
 induction h with
 | nil=>exact ⟨(fun _ h=>nomatch h),trivial,rfl⟩
 | @sum w r ks hw _ D =>
  obtain ⟨h1,h2,C⟩:=D;rw [Qap,Qa1] at C;refine ⟨fun v hv=>?_,⟨by lia,h2⟩,?_⟩
  ·rcases Qam.mp hv with rfl | hv
   ·exact .inl hw
   ·exact h1 v hv
  ·show k4 r - npw w + 1=ks.length + 1
   lia
 | @clm y r ks G hn _ D =>
  obtain ⟨h1,h2,C⟩:=D;rw [Qap,Qap,Qa1,Qa1] at C;have e:=qD y G;refine ⟨fun v hv=>?_,⟨by lia,h2⟩,?_⟩
  ·rcases Qam.mp hv with rfl | hv
   ·exact .inr ⟨y,rfl,G,hn⟩
   ·exact h1 v hv
  ·show k4 r - npw (.str y) + 1=ks.length + 1
   lia
def RlV(W:Nat):Bool->V->Int->Prop
 | false,v,x=>v=.int x/\0<=x/\x < 2 ^ W
 | true,v,x=>v=.bl (decide (bt x (W - 1)=1))
inductive RlS(W:Nat):Am->List V->List Int->Prop
 | nil:RlS W [] [] []
 | cons {b:Bool} {bs:Am} {v:V} {vs:A2} {x:Int} {xs:Ak}:RlV W b v x->RlS W bs vs xs->RlS W (b::bs) (v::vs) (x::xs)
theorem RlS.cut{W:Nat}{as bs:Am}:∀{vs:A2} {xs:Ak},RlS W (as++bs) vs xs->RlS W as (vs.take as.length) (xs.take as.length)/\RlS W bs (vs.drop as.length) (xs.drop as.length):=by
 induction as with
 | nil=>exact fun h=>⟨.nil,h⟩
 | cons a as D =>
  intro vs xs h;cases h with
  | cons h1 h2 =>
   obtain ⟨C,q⟩:=D h2;exact ⟨.cons h1 C,q⟩
theorem RlS.ints{W:Nat}:∀{vs:A2} {xs:Ak},RlS W (List.replicate n false) vs xs->vs=xs.map V.int/\xs.length=n/\∀x∈xs,0<=x/\x < 2 ^ W:=by
 induction n with
 | zero =>
  intro vs xs h;cases h;exact ⟨rfl,rfl,(fun _ h=>nomatch h)⟩
 | succ n q =>
  intro vs xs h;cases h with
  | cons h1 h2 =>
   obtain ⟨e1,e2,e3⟩:=q h2;obtain ⟨rfl,D,C⟩:=h1;refine ⟨by rw [e1];rfl,by rw [Qax,e2],fun x hx=>?_⟩;rcases Qam.mp hx with rfl | hx
   ·exact ⟨D,C⟩
   ·exact e3 x hx
theorem RlS.bls{W:Nat}:∀{vs:A2} {xs:Ak},RlS W (List.replicate n true) vs xs->vs=xs.map (fun x=>V.bl (decide (bt x (W - 1)=1)))/\xs.length=n:=by
 induction n with
 | zero =>
  intro vs xs h;cases h;exact ⟨rfl,rfl⟩
 | succ n q =>
  intro vs xs h;cases h with
  | cons h1 h2 =>
   obtain ⟨e1,e2⟩:=q h2;cases h1;exact ⟨by rw [e1];rfl,by rw [Qax,e2]⟩
theorem wZ{x:Int}{W:Nat}(q:0<=x)(h1:x < 2 ^ W):lo x W=x:=Qc8 q h1
theorem Zbg{x:Int}{k:Nat}(q:0<=x)(h1:x < 2 ^ (k + 1)):sgA x k=sgn (2 ^ (k + 1)) x:=by
 have e:=qu x k;rw [wZ q h1] at e;have b:=xa x k;unfold sgA sgn;rcases YH x k with a | a <;> rw [a] at e ⊢
 ·lia
 ·lia
theorem JJ:∀y∈Z2,0 < Jp (.str y)->z7 (.str y)=0/\((y = "same" /\ Jp (.str y)=2)\/(y = "under" /\ Jp (.str y)=2)\/(y = "beneath" /\ Jp (.str y)=2)\/(y = "sign" /\ Jp (.str y)=1)\/(y = "nought" /\ Jp (.str y)=1)):=by decide +kernel
theorem gc:∀y∈Z2,¬0 < Jp (.str y)->(y = "both" /\ z7 (.str y)=2)\/(y = "either" /\ z7 (.str y)=2)\/(y = "so" /\ z7 (.str y)=2)\/(y = "never" /\ z7 (.str y)=1)\/(y = "yes" /\ z7 (.str y)=0):=by decide +kernel
theorem Zds{W:Nat}(C:1<=W){y:Str}(q:y∈Z2)(hs:0 < Jp (.str y)){xs:Ak}(hl:xs.length=Jp (.str y))(hb:∀x∈xs,0<=x/\x < 2 ^ W):qZ (2 ^ W) y xs=decide (clB y xs (W - 1)=1):=by
 obtain ⟨k,rfl⟩:∃k,W=k + 1:=⟨W - 1,by lia⟩;obtain ⟨_,h⟩:=JJ y q hs;rcases h with ⟨rfl,e⟩ | ⟨rfl,e⟩ | ⟨rfl,e⟩ | ⟨rfl,e⟩ | ⟨rfl,e⟩ <;> skip
 ·match xs,hl with
  | [a,b],_ =>
   have ha:=hb a Qah;have hb:=hb b (Qal _ Qah);show decide (a=b)=decide (1 - neA a b (k + 1)=1);refine Qc3.mpr ?_;unfold neA;rw [wZ ha.1 ha.2,wZ hb.1 hb.2]
   split <;> lia
 ·match xs,hl with
  | [a,b],_ =>
   have ha:=hb a Qah;have hb:=hb b (Qal _ Qah);show decide (a < b)=decide (brA a b (k + 1)=1);refine Qc3.mpr ?_;unfold brA;rw [wZ ha.1 ha.2,wZ hb.1 hb.2]
   split <;> lia
 ·match xs,hl with
  | [a,b],_ =>
   have ha:=hb a Qah;have hb:=hb b (Qal _ Qah);show decide (sgn (2 ^ (k + 1)) a < sgn (2 ^ (k + 1)) b)=decide (bnA a b k=1);refine Qc3.mpr ?_;unfold bnA;rw [Zbg ha.1 ha.2,Zbg hb.1 hb.2]
   split <;> lia
 ·match xs,hl with
  | [a],_ =>
   have ha:=hb a Qah;show decide (sgn (2 ^ (k + 1)) a < 0)=decide (bt a k=1);refine Qc3.mpr ?_;rw [<-Zbg ha.1 ha.2];have b:=xa a k;unfold sgA;rcases YH a k with h | h <;> rw [h] <;> lia
 ·match xs,hl with
  | [a],_ =>
   have ha:=hb a Qah;show decide (a=0)=decide (1 - nzA a (k + 1)=1);refine Qc3.mpr ?_;unfold nzA brA;rw [wZ ha.1 ha.2,show lo 0 (k + 1)=0 from Int.zero_emod _]
   split <;> lia
theorem Zdt{k:Nat}{y:Str}(q:y∈Z2)(hs:¬0 < Jp (.str y)){xs:Ak}(hl:xs.length=z7 (.str y)):Zjz y (xs.map fun x=>decide (bt x k=1))=decide (clB y xs k=1):=by
 rcases gc y q hs with ⟨rfl,e⟩ | ⟨rfl,e⟩ | ⟨rfl,e⟩ | ⟨rfl,e⟩ | ⟨rfl,e⟩ <;> skip
 ·match xs,hl with
  | [a,b],_ =>
   show (decide (bt a k=1) && decide (bt b k=1))=decide (bt a k * bt b k=1);rcases YH a k with h | h <;> rcases YH b k with g | g <;> rw [h,g] <;> rfl
 ·match xs,hl with
  | [a,b],_ =>
   show (decide (bt a k=1) || decide (bt b k=1))=decide (1 - (1 - bt a k) * (1 - bt b k)=1);rcases YH a k with h | h <;> rcases YH b k with g | g <;> rw [h,g] <;> rfl
 ·match xs,hl with
  | [a,b],_ =>
   show (decide (bt b k=1) || !decide (bt a k=1))=decide (1 - (1 - (1 - bt a k)) * (1 - bt b k)=1);rcases YH a k with h | h <;> rcases YH b k with g | g <;> rw [h,g] <;> rfl
 ·match xs,hl with
  | [a],_ =>
   show (!decide (bt a k=1))=decide (1 - bt a k=1);rcases YH a k with h | h <;> rw [h] <;> rfl
 ·match xs,hl with
  | [],_=>rfl
theorem zM{ys:Ai}{W:Nat}(Y:1<=W)(O:∀y∈ys,y∉ZJ)(ρ:Str->Int){M:A2}{ks:Am}(h:TyR ys M ks):RlS W ks (Ww (2 ^ W) ρ M []) (WL W ρ M):=by
 have hp:(0:Int) < 2 ^ W:=Qel (by decide)
 induction h with
 | nil=>exact .nil
 | @sum w r ks hw _ I =>
  obtain ⟨C,D⟩:=I.cut;rw [Qa1] at C D;obtain ⟨e1,e2,_⟩:=C.ints;rw [YY];have N:∀xs,cvV (2 ^ W) ρ w xs=.int (wwv ρ w (xs.map iV) % 2 ^ W)/\∀is,rwR W ρ w is=wwv ρ w is % 2 ^ W:=by
   intro xs;have S:∀y,w=.str y->y∉Z2->cvV (2 ^ W) ρ w xs=.int (wwv ρ w (xs.map iV) % 2 ^ W)/\∀is,rwR W ρ w is=wwv ρ w is % 2 ^ W:=by
    rintro y rfl hc;exact ⟨Qaw hc,fun is=>Qaw hc⟩
   rcases hw with ⟨y,rfl,q,_⟩ | ⟨y,rfl,q,_⟩ | ⟨z,rfl,_⟩
   ·exact S y rfl (Jv y q)
   ·exact S y rfl fun z=>O y q (YR y z)
   ·exact ⟨rfl,fun _=>rfl⟩
  refine .cons ?_ D;have J:((WL W ρ r).take (npw w) |>.map V.int).map iV=(WL W ρ r).take (npw w):=by
   rw [Qa3];exact Qgf (fun _=>rfl) _
  refine ⟨?_,?_⟩
  ·rw [(N _).1,e1,J,(N []).2]
  ·rw [(N []).2]
   exact ⟨Qcb _ (Qfi hp),Qb6 _ hp⟩
 | @clm y r ks q hn _ I =>
  have G:=qD y q;rw [YY]
  by_cases hs:0 < Jp (.str y)
  ·have L:=(JJ y q hs).1
   rw [L,Qgl,Qhj] at I;obtain ⟨C,D⟩:=I.cut;rw [Qa1] at C D;rw [L,Qhk] at G;rw [<-G] at C D;obtain ⟨e1,e2,e3⟩:=C.ints;refine .cons ?_ D;have J:((WL W ρ r).take (npw (.str y)) |>.map V.int).map iV=(WL W ρ r).take (npw (.str y)):=by
    rw [Qa3];exact Qgf (fun _=>rfl) _
   show (if y∈Z2 then _ else _)=V.bl (decide (bt (if y∈Z2 then _ else _) (W - 1)=1));rw [Qa0 q,Qa0 q,Qa0 hs,e1,J,Zds Y q hs (by rw [e2,G]) e3,Zdp (kI _ _) (by lia)]
  ·have L:Jp (.str y)=0:=by lia
   rw [L,Qgl,Qhj] at I;obtain ⟨C,D⟩:=I.cut;rw [Qa1] at C D;rw [L,Qey] at G;rw [<-G] at C D;obtain ⟨e1,e2⟩:=C.bls;refine .cons ?_ D;have J:((WL W ρ r).take (npw (.str y)) |>.map fun x=>V.bl (decide (bt x (W - 1)=1))).map bV=((WL W ρ r).take (npw (.str y))).map fun x=>decide (bt x (W - 1)=1):=by
    rw [Qa3]
    rfl
   show (if y∈Z2 then _ else _)=V.bl (decide (bt (if y∈Z2 then _ else _) (W - 1)=1));rw [Qa0 q,Qa0 q,Qaw hs,e1,J,Zdt q hs (by rw [e2,G]),Zdp (kI _ _) (by lia)]
theorem xX{ys:Ai}{W:Nat}(C:1<=W)(q:∀y∈ys,y∉ZJ)(ρ:Str->Int)(h:TyR ys r [true]):∃o,WL W ρ r=[o]/\Ww (2 ^ W) ρ r []=[.bl (decide (bt o (W - 1)=1))]:=by
 have g:=zM C q ρ h;generalize Ww (2 ^ W) ρ r []=vs at g;generalize WL W ρ r=xs at g;cases g with
 | cons h1 h2 =>
  cases h2;cases h1;exact ⟨_,rfl,rfl⟩
theorem TyR.tail{ys:Ai}{w:V}{ks:Am}(h:TyR ys (w::r) ks):∃q,TyR ys r q:=by
 cases h with
 | sum _ h=>exact ⟨_,h⟩
 | clm _ _ h=>exact ⟨_,h⟩
theorem TyR.drop{ys:Ai}:∀{C:A2} {ks:Am},TyR ys C ks->∀j,∃q,TyR ys (C.drop j) q
 | [],ks,h,j=>by
  rw [List.drop_nil];exact ⟨_,h⟩
 | w::r,ks,h,0=>⟨_,h⟩
 | w::r,ks,h,j + 1=>by
  obtain ⟨_,h'⟩:=h.tail;exact TyR.drop h' j
theorem zN(m:Int)(ρ:Str->Int):∀q:A2,(Ww m ρ q []).length=k4 q
 | []=>rfl
 | w::r=>by
  rw [YY,Qax,Qd6,zN m ρ r]
  rfl
theorem Zhq{ys:Ai}{w:V}(hw:jN ys 10 w)(C:∀y∈ys,y∉ZJ)(m:Int)(ρ:Str->Int)(is:Ak):cvV m ρ w (is.map V.int)=.int (wwv ρ w is % m):=by
 have D:(is.map V.int).map iV=is:=by
  rw [Qa3];exact Qgf (fun _=>rfl) _
 have G:∀y,w=.str y->y∉Z2->cvV m ρ w (is.map V.int)=.int (wwv ρ w is % m):=by
  rintro y rfl hc;have:cvV m ρ (.str y) (is.map V.int)=.int (wwv ρ (.str y) ((is.map V.int).map iV) % m):=Qaw hc;rw [D] at this;exact this
 rcases hw with ⟨y,rfl,q,_⟩ | ⟨y,rfl,q,_⟩ | ⟨z,rfl,_⟩
 ·exact G y rfl (Jv y q)
 ·exact G y rfl fun z=>C y q (YR y z)
 ·show V.int (wwv ρ (.int z) ((is.map V.int).map iV) % m)=_
  rw [D]
theorem part_of{ys:Ai}{W:Nat}(L:1<=W)(C:∀y∈ys,y∉ZJ)(ρ:Str->Int){x:V}{ks:Am}(h:TyR ys (x::r) ks) :
  (∃(is:Ak) (l:A2),jN ys 10 x/\Ww (2 ^ W) ρ r []=is.map V.int++l/\is.length=npw x/\(∀z∈is,0<=z/\z < 2 ^ W)/\cvV (2 ^ W) ρ x ((Ww (2 ^ W) ρ r []).take (npw x))::(Ww (2 ^ W) ρ r []).drop (npw x)=.int (wwv ρ x is % 2 ^ W)::l) \/
  (∃(y:Str) (is:Ak) (l:A2),x=.str y/\y∈Z2/\y∉ys/\0 < Jp (.str y)/\Ww (2 ^ W) ρ r []=is.map V.int++l/\is.length=Jp (.str y)/\(∀z∈is,0<=z/\z < 2 ^ W)/\cvV (2 ^ W) ρ x ((Ww (2 ^ W) ρ r []).take (npw x))::(Ww (2 ^ W) ρ r []).drop (npw x)=.bl (qZ (2 ^ W) y is)::l) \/
  (∃(y:Str) (bs:Am) (l:A2),x=.str y/\y∈Z2/\y∉ys/\¬0 < Jp (.str y)/\Ww (2 ^ W) ρ r []=bs.map V.bl++l/\bs.length=z7 (.str y)/\cvV (2 ^ W) ρ x ((Ww (2 ^ W) ρ r []).take (npw x))::(Ww (2 ^ W) ρ r []).drop (npw x)=.bl (Zjz y bs)::l):=by
 cases h with
 | @sum _ _ ks hw h =>
  obtain ⟨q,_⟩:=(zM L C ρ h).cut;rw [Qa1] at q;obtain ⟨e1,e2,e3⟩:=q.ints;refine .inl ⟨_,(Ww (2 ^ W) ρ r []).drop (npw x),hw,?_,e2,e3,?_⟩
  ·rw [<-e1,Qc6]
  ·rw [e1,Zhq hw C]
 | @clm y _ ks D hn h =>
  have G:=qD y D;have g:=zM L C ρ h
  by_cases hs:0 < Jp (.str y)
  ·have I:=(JJ y D hs).1
   obtain ⟨q,_⟩:=g.cut;rw [Qa1] at q;rw [I,Qhk] at G;rw [<-G] at q;obtain ⟨e1,e2,e3⟩:=q.ints;refine .inr (.inl ⟨y,_,(Ww (2 ^ W) ρ r []).drop (npw (.str y)),rfl,D,hn,hs,?_,by rw [e2,G],e3,?_⟩)
   ·rw [<-e1,Qc6]
   ·rw [e1]
    have J:(((WL W ρ r).take (npw (.str y))).map V.int).map iV=(WL W ρ r).take (npw (.str y)):=by
     rw [Qa3];exact Qgf (fun _=>rfl) _
    show (if y∈Z2 then _ else _)::_=_;rw [Qa0 D,Qa0 hs,J]
  ·have I:Jp (.str y)=0:=by lia
   rw [I,Qgl,Qhj] at g;obtain ⟨q,_⟩:=g.cut;rw [Qa1] at q;rw [I,Qey] at G;rw [<-G] at q;obtain ⟨e1,e2⟩:=q.bls;have M:((WL W ρ r).take (npw (.str y))).map (fun x=>V.bl (decide (bt x (W - 1)=1)))=(((WL W ρ r).take (npw (.str y))).map fun x=>decide (bt x (W - 1)=1)).map V.bl:=by
    rw [Qa3]
    rfl
   rw [M] at e1;refine .inr (.inr ⟨y,((WL W ρ r).take (npw (.str y))).map (fun x=>decide (bt x (W - 1)=1)),(Ww (2 ^ W) ρ r []).drop (npw (.str y)),rfl,D,hn,hs,?_,by rw [Qac,e2,G],?_⟩)
   ·rw [<-e1,Qc6]
   ·rw [e1]
    have J:∀bs:Am,(bs.map V.bl).map bV=bs:=fun bs=>by
     rw [Qa3];exact Qgf (fun _=>rfl) _
    show (if y∈Z2 then _ else _)::_=_;rw [Qa0 D,Qaw hs,J]
theorem Zij{st:Aw}{v:V}{l:A2}(h:H st=some (.lst (v::l).reverse)):H st=some (.lst (l.reverse++[v])):=by rw [h,Qcs]
structure WU(nm:Ai)(ws:A2):Prop where
 n3:nm.length<=3
 nd:nm.Nodup
 kp:∀y∈nm,y∉ZJ
 ln:ws.length<=100
 ty:TyR nm ws [true]
 rm:Wg ws<=15
abbrev otC(nm:Ai)(q:A2):Int × Ak->List V:=otT nm (Y8 (2 ^ nm.length) nm) q (.bl false) (.bl true)
structure Zj2(nm:Ai)(ws:A2)(l:List (Int × Ak))(H:Hp)(m:Aw):Prop where
 b:BfE (nxS nm ws) (0,List.replicate (Wg ws) 0) l
 m:M4 H m nm 0 (rnG (nxS nm ws) l) (l.map (otC nm ws))
theorem claimC:∀y∈Z2,(y∈allR/\1<=npw (.str y)/\(y∈Zhc->2<=npw (.str y)))\/(y∈Zaq/\y∉allR/\npw (.str y)=Zao y):=by decide +kernel
theorem WU.wc(S:WU N r):∀w∈r,z9 N w:=fun w h=>by
 rcases S.ty.facts.1 w h with h | ⟨y,rfl,C,hn⟩
 ·exact kG S.kp h
 ·rcases claimC y C with ⟨h1,h2,q⟩ | ⟨h1,h2,q⟩
  ·exact .inl ⟨y,rfl,h1,hn,h2,q⟩
  ·exact .inr (.inl ⟨y,rfl,h1,h2,hn,q⟩)
theorem WU.iz(S:WU N r):∀z:Int,V.int z∈r->0<=z/\z < 2 ^ 10:=fun z h=>by
 rcases S.ty.facts.1 _ h with (⟨y,e,_⟩ | ⟨y,e,_⟩ | ⟨C,e,q,h1,_⟩) | ⟨y,e,_⟩
 ·cases e
 ·cases e
 ·cases e
  exact ⟨q,h1⟩
 ·cases e
theorem WU.big(S:WU N r):(10 + 1) * 2 ^ Wg r<=1000000:=by
 have:2 ^ Wg r<=2 ^ 15:=Qdf (by decide) S.rm;lia
theorem WU.len{l:List (Int × Ak)}(S:WU N r)(B:BfE (nxS N r) (0,List.replicate (Wg r) 0) l):l.length<=1000000:=by
 have h:=Za2 (nx:=nxS N r) (b:=((0:Int),List.replicate (Wg r) (0:Int))) (U:=uni (Wg r) (lgB r + 1)) (WT.mpr ⟨0,by lia,rfl,YZ.mpr ⟨Qa1,fun x hx=>.inl (Qfj hx)⟩⟩) (fun s hs=>zJ S.wc rfl hs) l.length;rw [<-B.e,zH] at h;have h2:lgB r<=10:=Za7 S.iz;have q:=S.big;exact Qaz h (Qaz (Qeb _ (by lia)) q)
theorem Zj2.wf{q:A2}{l:List (Int × Ak)}{m:Aw}(S:WU N q)(M:Zj2 N q l H m):Wf N 0 (rnG (nxS N q) l) (l.map (otC N q)) true:=by
 obtain ⟨D,C⟩:=Zhn M.b (n:=2 ^ N.length) (Zhl _ _ _ _);have hpos:0 < l.length:=Qep M.b.begin.2;have ho:∀r∈l.map (otC N q),∀v∈r,v=.bl false\/v=.bl true:=fun r hr v hv=>by
  obtain ⟨s,_,rfl⟩:=Qau.mp hr;obtain ⟨c,_,rfl⟩:=Qau.mp hv
  split
  ·exact .inr rfl
  ·exact .inl rfl
 refine ⟨S.n3,by rw [q9];exact hpos,by rw [q9];exact S.len M.b,by rw [q9,Qac],D,C,fun r hr=>?_,fun r hr v hv=>?_,fun r hr v hv=>?_⟩
 ·obtain ⟨s,_,rfl⟩:=Qau.mp hr
  exact Zhm _ _ _ _ _ _
 ·rcases ho r hr v hv with e | e <;> rw [e] <;> exact .inl ⟨rfl,_,rfl⟩
 ·rcases ho r hr v hv with e | e <;> rw [e]
  ·exact .inl rfl
  ·exact .inr rfl
theorem Zbh{l:List (Int × Ak)}{m:Aw}{ls:Aj}{W:Nat}(S:WU N r)(M:Zj2 N r l H m)(D:1<=W)(C:W<=ls.length)(q:∀x∈ls,x < 2 ^ N.length) :
  ∃b:Bool,Ww (2 ^ W) (jg (ls.take W) N) r []=[.bl b]/\(rnO (rnG (nxS N r) l) (l.map (otC N r)) 0 ls)[W - 1]?=some (.bl b):=by
 obtain ⟨o,e1,e2⟩:=xX D S.kp (jg (ls.take W) N) S.ty;refine ⟨_,e2,?_⟩;have f:=S.ty.facts;have h:=Zbf (o0:=.bl false) (o1:=.bl true) S.nd S.kp f.1 f.2.1 C q e1 M.b (W - 1) (by lia);rw [h];rcases YH o (W - 1) with z | z <;> rw [z] <;> rfl
theorem wwv_cg{y:Str}{is:Ak}(h:y∈Jo)(hl:is.length=Yk y)(ρ q:Str->Int):wwv ρ (.str y) is=wwv q (.str y) is:=by
 have C:1<=Yk y:=(by decide +kernel:∀y∈Jo,1<=Yk y) y h
 match is,hl with
 | [],hl=>rw [<-hl] at C;cases C
 | [a],_=>rfl
 | [a,b],_=>rfl
 | a::b::c::_,_=>rfl
def abc:Nat->Str
 | 0 => "a"
 | 1 => "b"
 | _ => "c"
theorem Zhr:∀i j,i < 3->j < 3->abc i=abc j->i=j:=by
 intro i j hi q;have h:∀i∈[0,1,2],∀j∈[0,1,2],abc i=abc j->i=j:=by decide +kernel
 exact h i (by grind) j (by grind)
structure VOk(kvs:A0)(n:Nat)(v:Nat->V):Prop where
 yes:∀j,j < n->Ye kvs (.inr (abc j))=some (v j)
 no:∀y,(∀j,j < n->y≠abc j)->Ye kvs (.inr y)=none
theorem VOk.put{kvs:A0}{v:Nat->V}(h:VOk kvs n v)(hn:n < 3):VOk (putK kvs (.inr (abc n)) (v n)) (n + 1) v:=by
 refine ⟨fun j C=>?_,fun y q=>?_⟩
 ·rw [G2]
  by_cases e:j=n
  ·rw [Qa0 (by rw [e]),e]
  ·rw [Qaw (fun z=>e (Zhr j n (by lia) hn (Sum.inr.inj z)))]
   exact h.yes j (by lia)
 ·rw [G2,Qaw (fun z=>q n (by lia) (Sum.inr.inj z))]
  exact h.no y fun j C=>q j (by lia)
def gg(q:List (Ak))(cs:Aj):Prop:=∀(i j:Nat) (a b:Ak),q[i]?=some a->q[j]?=some b->cs[i]?=cs[j]?->a=b
def Zb4(nx:Ad)(q:List (Ak)):Nat->List Nat
 | 0=>XH q
 | i + 1=>XH (G8 nx (Zb4 nx q i))
theorem Zdu{nx:Ad}{q:List (Ak)}{j:Nat}(h:XH (G8 nx (Zb4 nx q i))=Zb4 nx q i)(D:i<=j):Zb4 nx q j=Zb4 nx q i:=by
 obtain ⟨d,rfl⟩:∃d,j=i + d:=⟨j - i,by lia⟩
 induction d with
 | zero=>rfl
 | succ d C =>
  show XH (G8 nx (Zb4 nx q (i + d)))=_;rw [C (by lia),h]
def qE:Ak->Nat->List Nat->List Nat
 | [],_,acc=>acc
 | c::r,i,acc=>qE r (i + 1) (if c=(acc.length:Int) then acc++[i] else acc)
structure Canon(R:Ad):Prop where
 ord:∀(r p t:Nat) (row:Aj),R[r]?=some row->row[p]?=some t->∀t',t' < t->t'=0\/(∃r' row',r' < r/\R[r']?=some row'/\t'∈row')\/t'∈row.take p
 reach:∀t,0 < t->t < R.length->∃r row,r < t/\R[r]?=some row/\t∈row
 lt:∀row∈R,∀s∈row,s < R.length
theorem qF{nx:Ad}{b x:Nat}:∀i,x∈WW nx b i↔x=b\/∃j,j < i/\x∈nx.getD ((WW nx b j).getD j 0) []
 | 0=>by
  constructor
  ·exact fun h=>.inl (Qat.mp h)
  ·rintro (h | ⟨j,q,_⟩)
   ·exact Qat.mpr h
   ·exact absurd q (Qez _)
 | i + 1=>by
  show x∈Zdh nx (WW nx b i) i↔_;unfold Zdh;rw [zE,qF i]
  constructor
  ·grind
  ·grind
def rnR(nx:Ad)(l:Aj):Ad:=l.map fun s=>(nx.getD s []).map fun x=>l.idxOf x
def rnQ(ot:Az)(l:Aj):Az:=l.map fun s=>ot.getD s []
theorem WV(nx:Ad)(l:Aj):(rnR nx l).length=l.length:=Qac ..
theorem xT.nodup{nx:Ad}{b:Nat}{l:Aj}(B:xT nx b l):l.Nodup:=by
 rw [B.e];exact qz nx b _
theorem xT.at{nx:Ad}{b:Nat}{l:Aj}(B:xT nx b l){j:Nat}(q:j < l.length):l[j]?=some ((WW nx b j).getD j 0):=by
 have:=bfs_at (nx:=nx) (b:=b) (i:=l.length) q (B.go j q);rw [<-B.e] at this;exact this
theorem xT.next{nx:Ad}{b:Nat}{l:Aj}(B:xT nx b l){s x:Nat}(hi:l[i]?=some s)(hx:x∈nx.getD s []):x∈l:=by
 have q:=(Qaf.mp hi).1;rw [B.at q] at hi;rw [B.e,qF];refine .inr ⟨i,q,?_⟩;rw [Option.some.inj hi];exact hx
theorem xT.zero{nx:Ad}{b:Nat}{l:Aj}(B:xT nx b l):l[0]?=some b:=by
 have:b∈l:=by rw [B.e,qF];exact .inl rfl
 exact B.at (Qep this)
theorem xT.pre{nx:Ad}{b:Nat}{l:Aj}(B:xT nx b l){j:Nat}(q:j<=l.length):∃r,l=WW nx b j++r:=by
 obtain ⟨r,e⟩:=vj nx b j (l.length - j);rw [show j + (l.length - j)=l.length by lia,<-B.e] at e;exact ⟨r,e⟩
theorem at_idx{l:Aj}{x:Nat}(h:x∈l):l[l.idxOf x]?=some x:=by grind
theorem zP{nx:Ad}{b:Nat}{l:Aj}(B:xT nx b l):Canon (rnR nx l):=by
 have hn:=B.nodup;have C:∀{r:Nat} {row:Aj},(rnR nx l)[r]?=some row->∃s,l[r]?=some s/\row=(nx.getD s []).map fun x=>l.idxOf x:=fun {r row} h=>by
  unfold rnR at h;rw [Qai] at h;obtain ⟨s,hs,e⟩:=Qba.mp h;exact ⟨s,hs,e.symm⟩
 have Y:∀{j:Nat} {x:Nat},j < l.length->x∈nx.getD ((WW nx b j).getD j 0) []->∃row,(rnR nx l)[j]?=some row/\l.idxOf x∈row:=fun {j x} Z hx=>by
  refine ⟨_,?_,Qb2 (f:=fun x=>l.idxOf x) hx⟩;unfold rnR;rw [Qai,B.at Z]
  rfl
 refine ⟨fun r p t row hr hp t' ht=>?_,fun t h1 h2=>?_,fun row I s hs=>?_⟩
 ·obtain ⟨s,hs,rfl⟩:=C hr
  have M:=(Qaf.mp hs).1;rw [Qai] at hp;obtain ⟨x,hx,rfl⟩:=Qba.mp hp;have es:(WW nx b r).getD r 0=s:=by
   have:=B.at M;rw [hs] at this;exact (Option.some.inj this).symm
  obtain ⟨q,S⟩:=B.pre (j:=r + 1) M;have eb:WW nx b (r + 1)=((nx.getD s []).drop (p + 1)).foldl Y0 (Y0 (((nx.getD s []).take p).foldl Y0 (WW nx b r)) x):=by
   show Zdh nx (WW nx b r) r=_;unfold Zdh;rw [es];have:=Qc6 (p + 1) (nx.getD s [])
   conv=>lhs;rw [<-this]
   rw [Qc5,take_snoc hx,Qc5]
   rfl
  obtain ⟨q2,e2⟩:=W9 ((nx.getD s []).drop (p + 1)) (Y0 (((nx.getD s []).take p).foldl Y0 (WW nx b r)) x);rw [e2] at eb;rw [eb,Qb9] at S;generalize hL:((nx.getD s []).take p).foldl Y0 (WW nx b r)=L at *;obtain ⟨q3,e3⟩:=zu L x;have D:t' < L.length:=by
   have G:x∈Y0 L x:=Xx.mpr (.inr rfl);have hlt:=Qbf G;have h3:=G3 L x;have h4:l.idxOf x=(Y0 L x).idxOf x:=by rw [S,JA G]
   lia
  have hy:l[t']?=some L[t']:=by
   rw [S,e3,Qb9,Qbg D,Qad D]
  have N:L[t']∈L:=Qbm D;have J:=Wc hn hy;generalize L[t']=y at *;rw [<-hL] at N;rcases (zE _ _).mp N with h | h
  ·rcases (qF r).mp h with h | ⟨j,Z,h⟩
   ·refine .inl ?_
    rw [<-J,h];exact Wc hn B.zero
   ·grind
  ·refine .inr (.inr ?_)
   rw [<-Qem,<-J];exact Qb2 (f:=fun x=>l.idxOf x) h
 ·rw [WV] at h2
  have hg:=B.go t h2;have ha:=B.at h2;have hm:(WW nx b t).getD t 0∈WW nx b t:=by
   rw [Qaj,Qad hg];exact Qbm hg
  have hi:=Wc hn ha;rcases (qF t).mp hm with h | ⟨j,Z,h⟩
  ·rw [h,Wc hn B.zero] at hi
   lia
  ·grind
 ·obtain ⟨r,hr⟩:=Qc9.mp I
  obtain ⟨s',O,rfl⟩:=C hr;obtain ⟨x,hx,rfl⟩:=Qau.mp hs;rw [WV];exact Qbf (B.next O hx)
structure Zbi(cs fs:Aj):Prop where
 at_:∀c f:Nat,fs[c]?=some f->cs[f]?=some c/\∀j d:Nat,j < f->cs[j]?=some d->d < c
 lt:∀j d:Nat,cs[j]?=some d->d < fs.length
theorem kL[DecidableEq g](ks:List g)(i d:Nat)(h:(XH ks)[i]?=some d)(c:Nat)(hc:c < d):∃j,j < i/\(XH ks)[j]?=some c:=by
 rw [G4] at h;obtain ⟨k,hk,rfl⟩:=Qba.mp h;obtain ⟨r,L⟩:=xI ks (i + 1);have e1:Zy (ks.take (i + 1))=Y0 (Zy (ks.take i)) k:=by rw [take_snoc hk,xH]
 rw [e1] at L;obtain ⟨q,S⟩:=zu (Zy (ks.take i)) k;have C:k∈Y0 (Zy (ks.take i)) k:=Xx.mpr (.inr rfl);have O:=Qbf C;have Z:=G3 (Zy (ks.take i)) k;have Y:(Zy ks).idxOf k=(Y0 (Zy (ks.take i)) k).idxOf k:=by rw [L,JA C]
 have G:c < (Zy (ks.take i)).length:=by lia
 have M:(Zy ks)[c]?=some (Zy (ks.take i))[c]:=by
  grind
 have hm:(Zy (ks.take i))[c]∈Zy (ks.take i):=Qbm G;generalize (Zy (ks.take i))[c]=y at *;obtain ⟨j,D⟩:=Qc9.mp ((ZY _ y).mp hm);rw [List.getElem?_take] at D
 split at D
 ·rename_i I
  refine ⟨j,I,?_⟩;rw [G4,D];obtain ⟨J,N⟩:=Qaf.mp M;show some ((Zy ks).idxOf y)=_;rw [<-N,List.Nodup.idxOf_getElem (Xr ks) c J]
 ·cases D
theorem Zhs(hn:XH v=v):∀(q pre acc:Aj),v=pre++q->(∀c f:Nat,acc[c]?=some f->pre[f]?=some c/\∀j d:Nat,j < f->pre[j]?=some d->d < c)->(∀j d:Nat,pre[j]?=some d->d < acc.length)->Zbi v (qE (q.map fun c:Nat=>(c:Int)) pre.length acc):=by
 intro q
 induction q with
 | nil =>
  intro pre acc e h1 h2;rw [Qb4] at e;subst e;exact ⟨h1,h2⟩
 | cons x r J =>
  intro pre acc e h1 h2;have hx:v[pre.length]?=some x:=by
   rw [e,Qa8 (Qag _),Qe1]
   rfl
  have L:x<=acc.length:=by
   rcases Nat.lt_or_ge acc.length x with h | h
   ·obtain ⟨j,G,hc⟩:=kL v pre.length x (by rw [hn];exact hx) acc.length h
    rw [hn,e,Qbg G] at hc;have:=h2 j _ hc;lia
   ·exact h
  have I:v=(pre++[x])++r:=by rw [e,Qb9];rfl
  have N:∀{j d:Nat},pre[j]?=some d->(pre++[x])[j]?=some d:=fun {j d} h=>by
   rw [Qbg (Qaf.mp h).1];exact h
  have D:∀{α:Type} {l:List α} {y z:α} {j:Nat},(l++[y])[j]?=some z->l[j]?=some z\/(j=l.length/\z=y):=fun {α l y z j} h=>by
   grind
  have M:(pre++[x]).length=pre.length + 1:=Qap;show Zbi v (qE (r.map fun c:Nat=>(c:Int)) (pre.length + 1) (if (x:Int)=(acc.length:Int) then acc++[pre.length] else acc));rw [<-M]
  by_cases C:x=acc.length
  ·rw [Qa0 (by rw [C])]
   refine J _ _ I (fun c f hf=>?_) fun j d hd=>?_
   ·rcases D hf with hf | ⟨rfl,rfl⟩
    ·grind
    ·refine ⟨by rw [Qa8 (Qag _),Qe1,C];rfl,fun j d G hd=>?_⟩
     rcases D hd with hd | ⟨rfl,rfl⟩
     ·exact h2 j d hd
     ·lia
   ·grind
  ·rw [Qaw (by lia)]
   refine J _ _ I (fun c f hf=>?_) fun j d hd=>?_
   ·grind
   ·grind
def YJ(cs:Aj):Aj:=qE (cs.map fun c:Nat=>(c:Int)) 0 []
theorem G9(hn:XH v=v):Zbi v (YJ v):=Zhs hn v [] [] rfl (fun c f h=>by cases h) fun j d h=>by cases h
theorem ye:∀(cs:Ak) (i:Nat) (acc:Aj),(qE cs i acc).length<=acc.length + cs.length
 | [],_,acc=>Qag _
 | c::r,i,acc=>by
  have:=ye r (i + 1) (if c=(acc.length:Int) then acc++[i] else acc);show (qE r (i + 1) (if c=(acc.length:Int) then acc++[i] else acc)).length<=_;have h2:(if c=(acc.length:Int) then acc++[i] else acc).length<=acc.length + 1:=by
   grind
  rw [Qax];lia
theorem yf(cs:Aj):(YJ cs).length<=cs.length:=by
 have:=ye (cs.map fun c:Nat=>(c:Int)) 0 [];unfold YJ;simpa using this
def lsR(R:Ad)(cs:Aj):Ad:=(YJ cs).map fun s=>(R.getD s []).map fun x=>cs.getD x 0
def lsO(O:Az)(cs:Aj):Az:=(YJ cs).map fun s=>O.getD s []
structure Zb5(R:Ad)(cs:Aj):Prop where
 len:cs.length=R.length
 st:XH (G8 R cs)=cs
theorem Zb5.nn(S:Zb5 R v):XH v=v:=by
 have:=GY (G8 R v);rw [S.st] at this;exact this
theorem Zb5.row(S:Zb5 R v){j c:Nat}(hi:v[i]?=some c)(q:v[j]?=some c):(R.getD i []).map (fun x=>v.getD x 0)=(R.getD j []).map fun x=>v.getD x 0:=by
 have D:=(Qaf.mp hi).1;have C:=(Qaf.mp q).1;have I:=Js hi (Qad (l:=R) (i:=i) (by rw [<-S.len];exact D));have G:=Js q (Qad (l:=R) (i:=j) (by rw [<-S.len];exact C));have:=congrArg Prod.snd ((zv I G).mp (by rw [S.st,hi,q]));have h2:=congrArg (List.map Int.toNat) this;simp only [Qa3] at h2;rw [Qaj,Qaj,Qad (by rw [<-S.len];exact D),Qad (by rw [<-S.len];exact C)];exact h2
theorem vm{l:Aj}{x:Nat}(h:l[i]?=some x):l.getD i 0=x:=by grind
theorem at_getD{l:Aj}(h:i < l.length):l[i]?=some (l.getD i 0):=by grind
theorem Zdv(C:Canon R)(S:Zb5 R v):Canon (lsR R v):=by
 have F:=G9 S.nn;have ll:(lsR R v).length=(YJ v).length:=Qac ..;have D:∀{c:Nat} {row:Aj},(lsR R v)[c]?=some row->∃f,(YJ v)[c]?=some f/\row=(R.getD f []).map fun x=>v.getD x 0:=fun {c row} h=>by
  unfold lsR at h;rw [Qai] at h;obtain ⟨s,hs,e⟩:=Qba.mp h;exact ⟨s,hs,e.symm⟩
 have cls:∀{j:Nat},j < R.length->∃c f,v[j]?=some c/\(YJ v)[c]?=some f/\(lsR R v)[c]?=some ((R.getD j []).map fun x=>v.getD x 0):=fun {j} hj=>by
  obtain ⟨c,hc⟩:∃c,v[j]?=some c:=⟨_,Qad (by rw [S.len];exact hj)⟩;obtain ⟨f,hf⟩:∃f,(YJ v)[c]?=some f:=⟨_,Qad (F.lt j c hc)⟩;refine ⟨c,f,hc,hf,?_⟩;unfold lsR;rw [Qai,hf];exact congrArg some (S.row (F.at_ c f hf).1 hc)
 have Z:∀{f x:Nat},x∈R.getD f []->x < R.length:=fun {f x} h=>by
  rw [Qaj] at h;cases q:R[f]? with
  | none=>rw [q] at h;cases h
  | some row=>rw [q] at h;exact C.lt row (Qas q) x h
 have N:∀{x:Nat},x < R.length->v.getD x 0 < (YJ v).length:=fun {x} h=>by
  exact F.lt x _ (at_getD (by rw [S.len];exact h))
 have z0:0 < R.length->v.getD 0 0=0:=fun h=>by
  obtain ⟨c,f,hc,hf,_⟩:=cls h;obtain ⟨f0,J⟩:∃f0,(YJ v)[0]?=some f0:=⟨_,Qad (by have:=F.lt 0 c hc;lia)⟩;have h0:=F.at_ 0 f0 J
  by_cases e:f0=0
  ·rw [e] at h0
   exact vm h0.1
  ·have:=h0.2 0 c (by lia) hc
   lia
 refine ⟨fun c p t row hr hp t' ht=>?_,fun t h1 h2=>?_,fun row M s hs=>?_⟩
 ·obtain ⟨f,hf,rfl⟩:=D hr
  obtain ⟨g1,g2⟩:=F.at_ c f hf;have I:f < R.length:=by rw [<-S.len];exact (Qaf.mp g1).1
  rw [Qai] at hp;obtain ⟨x,hx,rfl⟩:=Qba.mp hp;have L:=Z (Qas hx);have htl:v.getD x 0 < (YJ v).length:=N L;obtain ⟨G,hf'⟩:∃G,(YJ v)[t']?=some G:=⟨_,Qad (by lia)⟩;obtain ⟨k1,k2⟩:=F.at_ t' G hf';have O:v[x]?=some (v.getD x 0):=at_getD (by rw [S.len];exact L);have hfx:G < x:=by
   rcases Nat.lt_trichotomy G x with h | h | h
   ·exact h
   ·rw [h,O] at k1
    have:=Option.some.inj k1;lia
   ·have:=k2 x _ h O
    lia
  have Y:R[f]?=some (R.getD f []):=Ze2 I;rcases C.ord f p x _ Y hx G hfx with h | ⟨r',row',h3,h4,h5⟩ | h
  ·grind
  ·grind
  ·refine .inr (.inr ?_)
   rw [<-Qem];exact Qau.mpr ⟨G,h,vm k1⟩
 ·rw [ll] at h2
  obtain ⟨f,hf⟩:∃f,(YJ v)[t]?=some f:=⟨_,Qad h2⟩;obtain ⟨g1,g2⟩:=F.at_ t f hf;have I:f < R.length:=by rw [<-S.len];exact (Qaf.mp g1).1
  have J:0 < f:=by
   grind
  obtain ⟨r,row,h3,h4,h5⟩:=C.reach f J I;obtain ⟨c',f2,q1,q2,q3⟩:=cls (j:=r) (by lia);refine ⟨c',_,g2 r c' h3 q1,q3,?_⟩;rw [Qaj,h4];exact Qau.mpr ⟨f,h5,vm g1⟩
 ·obtain ⟨c,hc⟩:=Qc9.mp M
  obtain ⟨f,hf,rfl⟩:=D hc;obtain ⟨x,hx,rfl⟩:=Qau.mp hs;rw [ll];exact N (Z hx)
theorem We.tups{H':Hp}{p:Aw}(R:We H p O)(e:∀b xs,H b=some (.tup xs)->H' b=some (.tup xs)):We H' p O:=by
 obtain ⟨as,h1,h2,C⟩:=R;refine ⟨as,e _ _ h1,h2,fun i r hi=>?_⟩;obtain ⟨a,D,q⟩:=C i r hi;exact ⟨a,D,e _ _ q⟩
theorem M4.tups{H H':Hp}{m:Aw}{nm:Ai}{b:Nat}{nx:Ad}{ot:Az}(M:M4 H m nm b nx ot)(e:∀b xs,H b=some (.tup xs)->H' b=some (.tup xs)):M4 H' m nm b nx ot:=by
 obtain ⟨pn,ps,C,h1,h2,D,q⟩:=M.ex;exact ⟨⟨pn,ps,C,e _ _ h1,e _ _ h2,D.tups e,q.tups e⟩⟩
theorem Zht{t:Aw}{o:HO}(C:hide L H t=none)(hn:∀c∈L,upd (hide L H) t o c=none):ZC H (XD L H (upd (hide L H) t o))/\XD L H (upd (hide L H) t o) t=some o:=by
 have m:t∉L:=fun m=>by
  have:=hn t m;rw [Za] at this;cases this
 refine ⟨fun b u e=>?_,by rw [ZG m];exact Za⟩
 by_cases q:b∈L
 ·rw [Xq q]
  exact e
 ·rw [Zz m] at C
  rw [ZG q,Zj (Zl e C),Zz q];exact e
def Zbj(ot:Az):List (Ak):=ot.map fun r=>r.map fun v=>(vB v).getD 0
theorem Zhu{ot:Az}(h:∀r∈ot,∀v∈r,∃x,vB v=some x):ot.map (fun r=>r.map vB)=(Zbj ot).map (fun k=>k.map some):=by
 unfold Zbj;rw [Qa3];refine Qbu fun r hr=>?_;show _=(r.map fun v=>(vB v).getD 0).map some;rw [Qa3];refine Qbu fun v hv=>?_;obtain ⟨x,e⟩:=h r hr v hv;show vB v=some ((vB v).getD 0);rw [e]
 rfl
theorem xT.lt{nx:Ad}{b:Nat}{l:Aj}(B:xT nx b l)(hb:b < nx.length)(hr:∀row∈nx,∀s∈row,s < nx.length){s:Nat}(h:s∈l):s < nx.length:=by
 rw [B.e] at h;exact Zay hb hr _ s h
theorem xT.len{nx:Ad}{b:Nat}{l:Aj}(B:xT nx b l)(hb:b < nx.length)(hr:∀row∈nx,∀s∈row,s < nx.length):l.length<=nx.length:=by
 have:=Zhf hb hr l.length;rw [<-B.e] at this;exact this
theorem Zjq{b:Nat}{nx:Ad}{ot:Az}{l:Aj}(W:Wf N b nx ot j)(B:xT nx b l):Wf N 0 (rnR nx l) (rnQ ot l) j:=by
 have hl:∀s∈l,s < nx.length:=fun s h=>B.lt W.b W.nl h;have q:∀r∈rnQ ot l,r∈ot:=fun r h=>by
  obtain ⟨s,hs,rfl⟩:=Qau.mp h;exact getD_mem (by rw [W.ol];exact hl s hs)
 refine ⟨W.n3,?_,?_,?_,fun r hr=>?_,(zP B).lt,fun r hr=>W.or r (q r hr),fun r hr=>W.ok r (q r hr),fun r hr=>W.bit r (q r hr)⟩
 ·rw [WV]
  exact (Qaf.mp B.zero).1
 ·rw [WV]
  exact Qaz (B.len W.b W.nl) W.le
 ·rw [WV]
  exact Qac ..
 ·obtain ⟨s,hs,rfl⟩:=Qau.mp hr
  rw [Qac];exact W.nr _ (getD_mem (hl s hs))
theorem wf_ls(W:Wf N 0 R O j)(C:Canon R)(S:Zb5 R v):Wf N 0 (lsR R v) (lsO O v) j:=by
 have F:=G9 S.nn;have hl:∀f∈YJ v,f < R.length:=fun f h=>by
  obtain ⟨c,hc⟩:=Qc9.mp h;rw [<-S.len];exact (Qaf.mp (F.at_ c f hc).1).1
 have q:∀r∈lsO O v,r∈O:=fun r h=>by
  obtain ⟨s,hs,rfl⟩:=Qau.mp h;exact getD_mem (by rw [W.ol];exact hl s hs)
 have D:(lsR R v).length=(YJ v).length:=Qac ..;refine ⟨W.n3,?_,?_,?_,fun r hr=>?_,(Zdv C S).lt,fun r hr=>W.or r (q r hr),fun r hr=>W.ok r (q r hr),fun r hr=>W.bit r (q r hr)⟩
 ·rw [D]
  have G:v[0]?=some (v.getD 0 0):=at_getD (by rw [S.len];exact W.b);exact Qdt (Qbc _) (F.lt 0 _ G)
 ·rw [D]
  have:=yf v;have h2:=W.le;rw [S.len] at this;lia
 ·rw [D]
  exact Qac ..
 ·obtain ⟨s,hs,rfl⟩:=Qau.mp hr
  rw [Qac];exact W.nr _ (getD_mem (hl s hs))
theorem Zhv{b:Nat}{nx:Ad}{ot:Az}(W:Wf N b nx ot j):ot.map (fun r=>r.map vB)=(Zbj ot).map (fun k=>k.map some):=Zhu fun r hr v hv=>by
 rcases W.bit r hr v hv with h | h
 ·exact ⟨_,h⟩
 ·exact ⟨_,h⟩
theorem Zbk(cs:Aj)(s:Nat):(cs.map fun c:Nat=>(c:Int)).getD s 0=((cs.getD s 0:Nat):Int):=by grind
structure AlR(nx nx':Ad)(ot ot':Az)(b b':Nat)(A:Nat->Nat->Prop):Prop where
 b:A b b'
 lt:∀s c,A s c->s < nx.length/\c < nx'.length
 fn:∀s c c':Nat,A s c->A s c'->c=c'
 out:∀s c,A s c->ot'.getD c []=ot.getD s []
 next:∀s c p x y:Nat,A s c->(nx.getD s [])[p]?=some x->(nx'.getD c [])[p]?=some y->A x y
theorem vB_inj{v C:V}(h:xS j v)(h':xS j C)(e:(vB v).getD 0=(vB C).getD 0):v=C:=by
 rcases h with ⟨D,x,rfl⟩ | ⟨D,x,rfl⟩ <;> rcases h' with ⟨q,y,rfl⟩ | ⟨q,y,rfl⟩
 ·cases x <;> cases y
  ·rfl
  ·cases e
  ·cases e
  ·rfl
 ·rw [D] at q;cases q
 ·rw [D] at q;cases q
 ·have e:x=y:=e
  rw [e]
theorem kM{C:Bool}:∀{r q:A2},(∀v∈r,xS C v)->(∀v∈q,xS C v)->r.map (fun v=>(vB v).getD 0)=q.map (fun v=>(vB v).getD 0)->r=q
 | [],[],_,_,_=>rfl
 | [],_::_,_,_,e=>by cases e
 | _::_,[],_,_,e=>by cases e
 | v::r,D::q,h,h',e=>by
  injection e with e1 e2;rw [vB_inj (h v Qah) (h' D Qah) e1,kM (fun v hv=>h v (Qal _ hv)) (fun v hv=>h' v (Qal _ hv)) e2]
def Al(l cs:Aj)(s c:Nat):Prop:=∃i:Nat,l[i]?=some s/\cs[i]?=some c
theorem al_ok{b:Nat}{nx:Ad}{ot:Az}{tr:Bool}{l cs:Aj}(W:Wf N b nx ot tr)(B:xT nx b l)(S:Zb5 (rnR nx l) cs)(hc:gg (Zbj (rnQ ot l)) cs):AlR nx (lsR (rnR nx l) cs) ot (lsO (rnQ ot l) cs) b 0 (Al l cs):=by
 have F:=G9 S.nn;have hn:=B.nodup;have C:cs.length=l.length:=by rw [S.len,WV]
 have D:∀{s c:Nat},Al l cs s c->∃i f,l[i]?=some s/\cs[i]?=some c/\(YJ cs)[c]?=some f/\cs[f]?=some c:=fun {s c} h=>by
  obtain ⟨i,h1,h2⟩:=h;obtain ⟨f,hf⟩:∃f,(YJ cs)[c]?=some f:=⟨_,Qad (F.lt i c h2)⟩;exact ⟨i,f,h1,h2,hf,(F.at_ c f hf).1⟩
 refine ⟨⟨0,B.zero,?_⟩,fun s c h=>?_,fun s c c' h h'=>?_,fun s c h=>?_,fun s c p x y h hx O=>?_⟩
 ·have Y:cs[0]?=some (cs.getD 0 0):=at_getD (by rw [C];exact (Qaf.mp B.zero).1)
  rw [Y];rcases Nat.eq_zero_or_pos (cs.getD 0 0) with h | h
  ·rw [h]
  ·obtain ⟨j,hj,_⟩:=kL cs 0 _ (by rw [S.nn];exact Y) 0 h
   exact absurd hj (Qez _)
 ·obtain ⟨i,f,h1,h2,I,_⟩:=D h
  refine ⟨B.lt W.b W.nl (Qas h1),?_⟩;show c < ((YJ cs).map _).length;rw [Qac];exact (Qaf.mp I).1
 ·obtain ⟨i,h1,h2⟩:=h
  obtain ⟨i',L,G⟩:=h';have e1:=Wc hn h1;have e2:=Wc hn L;rw [<-e1] at h2;rw [<-e2,h2] at G;exact Option.some.inj G
 ·obtain ⟨i,f,h1,h2,I,J⟩:=D h
  have M:f < l.length:=by rw [<-C];exact (Qaf.mp J).1
  have g:∀{j s':Nat},l[j]?=some s'->(Zbj (rnQ ot l))[j]?=some ((ot.getD s' []).map fun v=>(vB v).getD 0):=fun {j s'} e=>by
   unfold Zbj rnQ;rw [Qa3,Qai,e]
   rfl
  obtain ⟨s',q⟩:∃s',l[f]?=some s':=⟨_,Qad M⟩;have e:=hc f i _ _ (g q) (g h1) (by rw [J,h2]);have Z:∀{s:Nat},s∈l->∀v∈ot.getD s [],xS tr v:=fun {s} h=>W.ok _ (getD_mem (by rw [W.ol];exact B.lt W.b W.nl h));have e2:=kM (Z (Qas q)) (Z (Qas h1)) e;unfold lsO rnQ;rw [Qaj,Qai,I];show (l.map fun s=>ot.getD s []).getD f []=_;rw [Qaj,Qai,q];exact e2
 ·obtain ⟨i,f,h1,h2,I,J⟩:=D h
  have er:(lsR (rnR nx l) cs).getD c []=((rnR nx l).getD f []).map fun x=>cs.getD x 0:=by
   unfold lsR;rw [Qaj,Qai,I]
   rfl
  have ei:(rnR nx l).getD i []=(nx.getD s []).map fun x=>l.idxOf x:=by
   unfold rnR;rw [Qaj,Qai,h1]
   rfl
  rw [er,S.row J h2,ei,Qa3,Qai,hx] at O;have hm:=B.next h1 (Qas hx);refine ⟨l.idxOf x,at_idx hm,?_⟩;rw [<-O];exact at_getD (by rw [C];exact Qbf hm)
section
variable {B:Nat->Nat->Prop}(fn:∀c d d',B c d->B c d'->d=d')(inj:∀c c' d,B c d->B c' d->c=c')
include fn inj
end
structure Bis(nx nx':Ad)(ot ot':Az)(b b':Nat)(A:Nat->Nat->Prop):Prop where
 b:A b b'
 lt:∀s c,A s c->s < nx.length/\c < nx'.length
 out:∀s c,A s c->ot'.getD c []=ot.getD s []
 next:∀s c p x y:Nat,A s c->(nx.getD s [])[p]?=some x->(nx'.getD c [])[p]?=some y->A x y
theorem AlR.bis{nx q:Ad}{ot:Az}{b:Nat}{A:Nat->Nat->Prop}(R:AlR nx q ot O b i A):Bis nx q ot O b i A:=⟨R.b,R.lt,R.out,R.next⟩
structure Lst(nm:Ai)(b:Nat)(nx:Ad)(ot:Az)(tr:Bool)(l cs:Aj):Prop where
 W:Wf nm b nx ot tr
 B:xT nx b l
 e:cs=Zb4 (rnR nx l) (Zbj (rnQ ot l)) l.length
 S:Zb5 (rnR nx l) cs
 C:gg (Zbj (rnQ ot l)) cs
theorem Lst.al{b:Nat}{nx:Ad}{ot:Az}{l:Aj}(L:Lst N b nx ot j l v):AlR nx (lsR (rnR nx l) v) ot (lsO (rnQ ot l) v) b 0 (Al l v):=al_ok L.W L.B L.S L.C
theorem Lst.W2{b:Nat}{nx:Ad}{ot:Az}{l:Aj}(L:Lst N b nx ot j l v):Wf N 0 (lsR (rnR nx l) v) (lsO (rnQ ot l) v) j:=wf_ls (Zjq L.W L.B) (zP L.B) L.S
theorem Wf.row{b:Nat}{nx:Ad}{ot:Az}(W:Wf N b nx ot j){s:Nat}(h:s < nx.length):(nx.getD s []).length=2 ^ N.length:=W.nr _ (getD_mem h)
theorem Zhw{nx:Ad}{b:Nat}{l:Aj}(B:BfE (fun s=>nx.getD s []) b l):xT nx b l:=by
 have e:∀i,i<=l.length->WW nx b i=bfN (fun s=>nx.getD s []) b i:=by
  intro i
  induction i with
  | zero=>exact fun _=>rfl
  | succ i q =>
   intro h;obtain ⟨s,hs⟩:∃s,(bfN (fun s=>nx.getD s []) b i)[i]?=some s:=⟨_,Qad (B.go i (by lia))⟩;show Zdh nx (WW nx b i) i=_;rw [q (by lia),zF hs];unfold Zdh;have:(bfN (fun s=>nx.getD s []) b i).getD i 0=s:=by rw [Qaj,hs];rfl
   rw [this]
 exact ⟨by rw [e _ (Qag _)];exact B.e,fun i hi=>by rw [e i (by lia)];exact B.go i hi⟩
theorem Ze9{nx:Ad}{ot:Az}{n:Nat}(R:Runs nx ot n):∀{ls:Aj} {s:Nat},s < nx.length->(∀x∈ls,x < 2 ^ n)->stN nx s ls < nx.length
 | [],s,h,_=>h
 | c::ls,s,h,hl=>by
  have hc:=hl c Qah;have q:=R.nr _ (getD_mem h);have hm:(nx.getD s []).getD c 0∈nx.getD s []:=Qas (getD_at (by lia));exact Ze9 (ls:=ls) R (R.nl _ (getD_mem h) _ hm) fun x hx=>hl x (Qal _ hx)
theorem Zbl{nx q:Ad}{ot D:Az}{b G n:Nat}{A:Nat->Nat->Prop}(M:Bis nx q ot D b G A)(hr:∀r∈nx,r.length=2 ^ n)(C:∀r∈q,r.length=2 ^ n):∀{ls:Aj} {s s':Nat},A s s'->(∀x∈ls,x < 2 ^ n)->rnO nx ot s ls=rnO q D s' ls
 | [],_,_,_,_=>rfl
 | c::ls,s,s',h,hl=>by
  have hc:=hl c Qah;obtain ⟨J,I⟩:=M.lt s s' h;have l1:=hr _ (getD_mem J);have l2:=C _ (getD_mem I);have hn:=M.next s s' c _ _ h (getD_at (d:=0) (by lia)) (getD_at (d:=0) (by lia));show _::_=_::_;rw [M.out s s' h,Zbl M hr C hn fun x hx=>hl x (Qal _ hx)]
def XW(n:Nat)(f:Nat->Nat):Nat:=((List.range n).map f).sum
theorem Yl(n:Nat)(f:Nat->Nat):XW (n + 1) f=XW n f + f n:=by
 unfold XW;rw [Qd4,Qav,Qe2,List.map_singleton,Qes]
theorem Yx{f g:Nat->Nat}(h:∀i,i < n->f i=g i):XW n f=XW n g:=by
 unfold XW;rw [Qbu fun i hi=>h i (Qcn.mp hi)]
theorem qG(n:Nat)(f g:Nat->Nat):XW n (fun i=>f i + g i)=XW n f + XW n g:=by
 induction n with
 | zero=>rfl
 | succ n q=>rw [Yl,Yl,Yl,q];lia
theorem Zbm(n:Nat):XW n (fun _=>0)=0:=by
 induction n with
 | zero=>rfl
 | succ n q=>rw [Yl,q]
theorem yg(n m:Nat)(f:Nat->Nat->Nat):XW n (fun i=>XW m (f i))=XW m fun j=>XW n fun i=>f i j:=by
 induction n with
 | zero=>exact (Zbm m).symm
 | succ n q =>
  rw [Yl,q,<-qG];exact Yx fun j _=>(Yl n fun i=>f i j).symm
theorem kN(a b:Nat)(f:Nat->Nat):XW (a + b) f=XW a f + XW b fun i=>f (a + i):=by
 induction b with
 | zero=>rfl
 | succ b q=>rw [<-Qg7,Yl,Yl,q,Qg7]
def SQ(n:Nat):Nat->(Aj->Nat)->Nat
 | 0,g=>g []
 | W + 1,g=>SQ n W fun ls=>XW n fun l=>g (ls++[l])
theorem WC{n:Nat}:∀{W:Nat} {g h:Aj->Nat},(∀ls,ls.length=W->(∀x∈ls,x < n)->g ls=h ls)->SQ n W g=SQ n W h
 | 0,g,h,e=>e [] rfl (fun _ z=>nomatch z)
 | W + 1,g,h,e=>WC (W:=W) fun ls h1 h2=>Yx fun l hl=>e (ls++[l]) (by rw [Qap,h1];rfl) fun x hx=>by
   grind
theorem SQ_le:∀{W:Nat} {g:Aj->Nat},(∀ls,g ls<=1)->SQ n W g<=n ^ W:=by
 have C:∀(W:Nat) (g:Aj->Nat) (c:Nat),(∀ls,g ls<=c)->SQ n W g<=c * n ^ W:=by
  intro W
  induction W with
  | zero=>intro g c h;rw [Nat.pow_zero,Qhs];exact h []
  | succ W q =>
   intro g c h;have:=q (fun ls=>XW n fun l=>g (ls++[l])) (c * n) fun ls=>by
    have:∀m,XW m (fun l=>g (ls++[l]))<=c * m:=fun m=>by
     induction m with
     | zero=>exact Qbc _
     | succ m q=>rw [Yl,Nat.mul_succ];exact Nat.add_le_add q (h _)
    exact this n
   rw [Qe0,Qhl (n ^ W) n,<-Nat.mul_assoc];exact this
 intro W g h;have:=C W g 1 h
 rwa [Nat.one_mul] at this
def adB(m:Nat):Nat->List Nat->List Nat
 | _,[]=>[]
 | l,v::vs=>(v + l % 2 * m)::adB m (l / 2) vs
theorem Zbn(m:Nat):∀(l:Nat) (vs:Aj),(adB m l vs).length=vs.length
 | _,[]=>rfl
 | l,_::vs=>congrArg Nat.succ (Zbn m (l / 2) vs)
theorem zQ(m w:Nat):∀(l:Nat) (vs:Aj),adB m l (vs++[w])=adB m l vs++[w + l / 2 ^ vs.length % 2 * m]
 | l,[]=>by show [w + l % 2 * m]=[w + l / 2 ^ 0 % 2 * m];rw [Nat.pow_zero,Nat.div_one]
 | l,v::vs=>by
  show (v + l % 2 * m)::adB m (l / 2) (vs++[w])=(v + l % 2 * m)::(adB m (l / 2) vs++[w + l / 2 ^ (vs.length + 1) % 2 * m]);rw [zQ m w (l / 2) vs,Nat.div_div_eq_div_mul,show 2 * 2 ^ vs.length=2 ^ (vs.length + 1) by rw [Qe0,Qhl]]
theorem Zbo(m:Nat):∀(l c:Nat) (vs:Aj),adB m (l + 2 ^ vs.length * c) vs=adB m l vs
 | _,_,[]=>rfl
 | l,c,v::vs=>by
  have e:l + 2 ^ (vs.length + 1) * c=l + 2 * (2 ^ vs.length * c):=by grind
  show (v + (l + 2 ^ (vs.length + 1) * c) % 2 * m)::adB m ((l + 2 ^ (vs.length + 1) * c) / 2) vs=(v + l % 2 * m)::adB m (l / 2) vs;rw [e,show (l + 2 * (2 ^ vs.length * c)) % 2=l % 2 by lia,show (l + 2 * (2 ^ vs.length * c)) / 2=l / 2 + 2 ^ vs.length * c by lia,Zbo m (l / 2) c vs]
theorem kO(m:Nat):∀(k:Nat) (g:Aj->Nat),SQ m k (fun vs=>XW (2 ^ k) fun l=>g (adB m l vs))=SQ (m + m) k g
 | 0,g=>by show XW (0 + 1) (fun l=>g (adB m l []))=g [];rw [Yl];exact Qey _
 | k + 1,g=>by
  have e:SQ m (k + 1) (fun vs=>XW (2 ^ (k + 1)) fun l=>g (adB m l vs))=SQ m k fun vs=>XW (2 ^ k) fun l=>XW (m + m) fun w=>g (adB m l vs++[w]):=by
   show SQ m k (fun vs=>XW m fun w=>XW (2 ^ (k + 1)) fun l=>g (adB m l (vs++[w])))=_;refine WC fun vs hl _=>?_;have e1:∀w,(XW (2 ^ (k + 1)) fun l=>g (adB m l (vs++[w])))=(XW (2 ^ k) fun l=>g (adB m l vs++[w])) + XW (2 ^ k) fun l=>g (adB m l vs++[m + w]):=fun w=>by
    rw [Qe0,Nat.mul_two,kN];congr 1
    ·refine Yx fun l h=>?_
     rw [zQ,hl,Nat.div_eq_of_lt h,Nat.zero_mod,Qhh,Qhk]
    ·refine Yx fun l h=>?_
     have h1:=Zbo m l 1 vs;rw [Qhs,hl] at h1;rw [zQ,hl,Qgt (2 ^ k) l,h1,Nat.add_div_right _ (Qhf k),Nat.div_eq_of_lt h,Qgt m w];rw [Nat.one_mul]
   rw [Yx fun w _=>e1 w,qG,yg,yg m (2 ^ k) fun w l=>g (adB m l vs++[m + w]),<-qG];exact Yx fun l _=>(kN m m _).symm
  rw [e];exact kO m k fun vs=>XW (m + m) fun w=>g (vs++[w])
theorem Zfa:∀(k:Nat) (g:Aj->Nat),SQ 1 k g=g (List.replicate k 0)
 | 0,_=>rfl
 | k + 1,g=>by
  show SQ 1 k (fun ls=>XW 1 fun l=>g (ls++[l]))=_;rw [Zfa k,Qgc,Yl];exact Qey _
def trnA(k:Nat)(ls:Aj):Aj × Nat:=ls.foldl (fun p l=>(adB p.2 l p.1,p.2 + p.2)) (List.replicate k 0,1)
def trn(k:Nat)(ls:Aj):Aj:=(trnA k ls).1
theorem Zdw(k:Nat)(ls:Aj):(trnA k ls).2=2 ^ ls.length:=by
 have q:∀(ls:Aj) (p:Aj × Nat),(ls.foldl (fun p l=>(adB p.2 l p.1,p.2 + p.2)) p).2=p.2 * 2 ^ ls.length:=by
  intro ls
  induction ls with
  | nil=>intro p;exact (Qhs _).symm
  | cons l ls C =>
   intro p;rw [Qdb,C];show (p.2 + p.2) * 2 ^ ls.length=p.2 * 2 ^ (ls.length + 1);rw [Qe0,<-Nat.mul_two,Nat.mul_assoc,Qhl 2]
 have:=q ls (List.replicate k 0,1);rw [Nat.one_mul] at this;exact this
theorem kP(k:Nat)(ls:Aj)(l:Nat):trn k (ls++[l])=adB (2 ^ ls.length) l (trn k ls):=by
 unfold trn;rw [<-Zdw k ls];unfold trnA;rw [Qc5]
 rfl
theorem Zhx(k:Nat)(ls:Aj):(trn k ls).length=k:=by
 have q:∀(ls:Aj) (p:Aj × Nat),(ls.foldl (fun p l=>(adB p.2 l p.1,p.2 + p.2)) p).1.length=p.1.length:=by
  intro ls
  induction ls with
  | nil=>intro p;rfl
  | cons l ls C =>
   intro p;rw [Qdb,C];exact Zbn _ _ _
 have:=q ls (List.replicate k 0,1);rw [Qa1] at this;exact this
theorem Zbp:∀(k W:Nat) (g:Aj->Nat),SQ (2 ^ k) W (fun ls=>g (trn k ls))=SQ (2 ^ W) k g
 | k,0,g=>(Zfa k g).symm
 | k,W + 1,g=>by
  have e:SQ (2 ^ k) (W + 1) (fun ls=>g (trn k ls))=SQ (2 ^ k) W fun ls=>(fun vs=>XW (2 ^ k) fun l=>g (adB (2 ^ W) l vs)) (trn k ls):=by
   refine WC fun ls hl _=>Yx fun l _=>?_;show g (trn k (ls++[l]))=_;rw [kP,hl]
  rw [e,Zbp k W fun vs=>XW (2 ^ k) fun l=>g (adB (2 ^ W) l vs),kO,Qe0,Nat.mul_two]
def chs(m:Nat):Nat->List (Aj)
 | 0=>[[]]
 | k + 1=>(chs m k).flatMap fun vs=>(List.range m).map fun w=>vs++[w]
theorem Zbq(m:Nat):∀(k:Nat) (g:Aj->Nat),((chs m k).map g).sum=SQ m k g
 | 0,g=>by exact Qhk _
 | k + 1,g=>by
  have q:∀l:Ad,((l.flatMap fun vs=>(List.range m).map fun w=>vs++[w]).map g).sum=(l.map fun vs=>XW m fun w=>g (vs++[w])).sum:=by
   intro l
   induction l with
   | nil=>rfl
   | cons v l C =>
    rw [Qg4,Qav,Qe2,C,Qbx,List.sum_cons];congr 1;rw [Qa3]
    rfl
  exact (q (chs m k)).trans (Zbq m k _)
theorem Zhy(m k:Nat):(chs m k).length=m ^ k:=by
 induction k with
 | zero=>rfl
 | succ k q =>
  have C:∀l:Ad,(l.flatMap fun vs=>(List.range m).map fun w=>vs++[w]).length=l.length * m:=by
   intro l
   induction l with
   | nil=>exact (Qhh _).symm
   | cons v l q=>rw [Qg4,Qap,q,Qac,Qbl,Qax,Qhi,Qgt]
  show ((chs m k).flatMap fun vs=>(List.range m).map fun w=>vs++[w]).length=_;rw [C,q,Qe0]
theorem Zbr{m k:Nat}{vs:Aj}(h:vs∈chs m k):vs.length=k/\∀x∈vs,x < m:=by
 induction k generalizing vs with
 | zero =>
  have:vs=[]:=Qat.mp h;subst this;exact ⟨rfl,fun _ z=>nomatch z⟩
 | succ k D =>
  obtain ⟨I,h1,h2⟩:=List.mem_flatMap.mp h;obtain ⟨w,G,rfl⟩:=Qau.mp h2;obtain ⟨q,C⟩:=D h1;refine ⟨by rw [Qap,q];rfl,fun x hx=>?_⟩;rcases Qca.mp hx with z | z
  ·exact C x z
  ·grind
def wsum(kvs:List (Nat × Nat))(F:Nat->Nat):Nat:=(kvs.map fun q=>q.2 * F q.1).sum
def addW:List (Nat × Nat)->Nat->Nat->List (Nat × Nat)
 | [],s,t=>[(s,t)]
 | q::r,s,t=>if q.1=s then (q.1,q.2 + t)::r else q::addW r s t
theorem kQ(F:Nat->Nat)(s t:Nat):∀kvs:List (Nat × Nat),wsum (addW kvs s t) F=wsum kvs F + t * F s
 | []=>by show t * F s + 0=0 + t * F s;lia
 | q::r=>by
  unfold addW
  split
  ·rename_i h
   show (q.2 + t) * F q.1 + wsum r F=q.2 * F q.1 + wsum r F + t * F s;rw [h,Nat.add_mul];lia
  ·show q.2 * F q.1 + wsum (addW r s t) F=q.2 * F q.1 + wsum r F + t * F s
   rw [kQ F s t r];lia
theorem qH{s t x:Nat}:∀{kvs:List (Nat × Nat)},x∈(addW kvs s t).map (·.1)->x∈kvs.map (·.1)\/x=s
 | [],h=>.inr (Qat.mp h)
 | q::r,h=>by
  unfold addW at h
  split at h
  ·exact .inl h
  ·rcases Qam.mp h with z | z
   ·exact .inl (Qam.mpr (.inl z))
   ·rcases qH z with z | z
    ·exact .inl (Qal _ z)
    ·exact .inr z
theorem Zbs{s t:Nat}:∀{kvs:List (Nat × Nat)},(kvs.map (·.1)).Nodup->((addW kvs s t).map (·.1)).Nodup
 | [],_=>Qbr.mpr ⟨(fun z=>nomatch z),Qci⟩
 | q::r,h=>by
  have h':=Qbr.mp h;unfold addW
  split
  ·exact h
  ·rename_i C
   refine Qbr.mpr ⟨fun z=>?_,Zbs h'.2⟩;rcases qH z with z | z
   ·exact h'.1 z
   ·exact C z
def dW(kvs:List (Nat × Nat)):A0:=kvs.map fun q=>(.inl (q.1:Int),.int (q.2:Int))
def Zjr:List (Nat × Nat)->Nat->Nat
 | [],_=>0
 | q::r,s=>if q.1=s then q.2 else Zjr r s
theorem Zfb(s:Nat):∀kvs:List (Nat × Nat),(Ye (dW kvs) (.inl (s:Int))).getD (.int 0)=.int (Zjr kvs s:Int)
 | []=>rfl
 | q::r=>by
  unfold Zjr;show (Ye ((Sum.inl (q.1:Int),V.int (q.2:Int))::dW r) (.inl (s:Int))).getD (.int 0)=_
  by_cases h:q.1=s
  ·rw [Qa0 h,ZX (by grind)]
   rfl
  ·rw [Qaw h,ZT (fun z=>h (Int.ofNat.inj (Sum.inl.inj z)))]
   exact Zfb s r
theorem Zfc{s t:Nat}:∀{kvs:List (Nat × Nat)},(kvs.map (·.1)).Nodup->putK (dW kvs) (.inl (s:Int)) (.int ((Zjr kvs s + t:Nat):Int))=dW (addW kvs s t)
 | [],_=>by show [((Sum.inl (s:Int):Key),V.int ((0 + t:Nat):Int))]=_;rw [Qey];rfl
 | q::r,h=>by
  have h':=Qbr.mp h;have G:∀v:V,s∉r.map (·.1)->(dW r).map (fun C=>if C.1=(Sum.inl (s:Int):Key) then (C.1,v) else C)=dW r:=fun v hs=>by
   refine (Qbu (g:=id) fun C D=>?_).trans (List.map_id _);obtain ⟨x,hx,rfl⟩:=Qau.mp D;exact Qaw fun z=>hs (Qau.mpr ⟨x,hx,Int.ofNat.inj (Sum.inl.inj z)⟩)
  unfold Zjr addW
  by_cases e:q.1=s
  ·rw [Qa0 e,Qa0 e]
   show (if (List.any (((Sum.inl (q.1:Int):Key),V.int (q.2:Int))::dW r) fun C=>decide (C.1=Sum.inl (s:Int)))=true then _ else _)=_;rw [Qa0 (by grind)];show (if (Sum.inl (q.1:Int):Key)=Sum.inl (s:Int) then _ else _)::_=_;rw [Qa0 (by rw [e])];exact congrArg (List.cons _) (G _ (by rw [<-e];exact h'.1))
  ·rw [Qaw e,Qaw e]
   have I:=Zfc (s:=s) (t:=t) h'.2;have ne:(Sum.inl (q.1:Int):Key)≠Sum.inl (s:Int):=fun z=>e (Int.ofNat.inj (Sum.inl.inj z));show (if (List.any (((Sum.inl (q.1:Int):Key),V.int (q.2:Int))::dW r) fun C=>decide (C.1=Sum.inl (s:Int)))=true then _ else _)=((Sum.inl (q.1:Int):Key),V.int (q.2:Int))::dW (addW r s t);rw [<-I,Qfn,Qaq ne,Bool.false_or];show _=_::(if ((dW r).any fun C=>decide (C.1=Sum.inl (s:Int)))=true then _ else _)
   split
   ·show (if (Sum.inl (q.1:Int):Key)=Sum.inl (s:Int) then _ else _)::_=_
    rw [Qaw ne]
    rfl
   ·rfl
theorem kR(kvs:List (Nat × Nat)):(dW kvs).length=kvs.length:=Qac ..
theorem Zbt:∀{n:Nat} {l:Aj},l.Nodup->(∀x∈l,x < n)->l.length<=n
 | 0,[],_,_=>Qag _
 | 0,x::_,_,h=>absurd (h x Qah) (Qez _)
 | n + 1,l,q,h=>by
  have h1:=Zbt (n:=n) (l:=l.erase n) (q.erase _) fun x hx=>by
   grind
  have h2:=List.length_erase (a:=n) (l:=l)
  split at h2 <;> lia
theorem Zfd(m:Nat):∀(l:Nat) (vs:Aj) (j:Nat),j < vs.length->(adB m l vs).getD j 0=vs.getD j 0 + l / 2 ^ j % 2 * m
 | l,v::vs,0,_=>by show v + l % 2 * m=v + l / 2 ^ 0 % 2 * m;rw [Nat.pow_zero,Nat.div_one]
 | l,v::vs,j + 1,h=>by
  show (adB m (l / 2) vs).getD j 0=vs.getD j 0 + l / 2 ^ (j + 1) % 2 * m;rw [Zfd m (l / 2) vs j (Nat.lt_of_succ_lt_succ h),Nat.div_div_eq_div_mul,Qe0,Qhl 2]
theorem trn_at{k j:Nat}(C:j < k)(ls:Aj):(((trn k ls).getD j 0:Nat):Int)=sm (fun i=>bt ((ls.getD i 0:Nat):Int) j) ls.length:=by
 have D:∀q:Aj,(((trn k q.reverse).getD j 0:Nat):Int)=sm (fun i=>bt ((q.reverse.getD i 0:Nat):Int) j) q.reverse.length:=by
  intro q
  induction q with
  | nil =>
   show (((List.replicate k 0).getD j 0:Nat):Int)=0;rw [Qaj,List.getElem?_replicate]
   split <;> rfl
  | cons r q G =>
   rw [Qcs,kP,Zfd _ _ _ _ (by rw [Zhx];exact C),Qgm,G,Qap];show _=sm _ q.reverse.length + bt (((q.reverse++[r]).getD q.reverse.length 0:Nat):Int) j * 2 ^ q.reverse.length;congr 1
   ·exact k9 fun i hi=>by grind
   ·rw [Qaj,Qa8 (Qag _),Qe1]
    rfl
 have:=D ls.reverse
 rwa [List.reverse_reverse] at this
def Zb6(nm:Ai)(vs:Aj)(y:Str):Int:=((vs.getD (nm.idxOf y) 0:Nat):Int)
theorem Zhz{y:Str}(h:y∈N)(ls:Aj):jg ls N y=Zb6 N (trn N.length ls) y:=(trn_at (Qbf h) ls).symm
theorem cv_cg{ys:Ai}{m:Int}{ρ q:Str->Int}(e:∀y∈ys,ρ y=q y){w:V}(hw:jN ys 10 w){xs:A2}(hl:xs.length=npw w):cvV m ρ w xs=cvV m q w xs:=by
 have key:wwv ρ w (xs.map iV)=wwv q w (xs.map iV):=by
  rcases hw with ⟨y,rfl,C,_,hn⟩ | ⟨y,rfl,C,_,hn⟩ | ⟨z,rfl,_,_,_⟩
  ·exact wwv_cg C (by rw [Qac,hl,hn]) ρ q
  ·rw [hn] at hl
   match xs,hl with
   | [],_=>exact e y C
  ·rfl
 unfold cvV
 split
 ·rw [key]
 ·rw [key]
theorem Zh0{ys:Ai}{m:Int}{ρ q:Str->Int}(e:∀y∈ys,ρ y=q y){C:A2}{ks:Am}(h:TyR ys C ks):Ww m ρ C []=Ww m q C []:=by
 induction h with
 | nil=>rfl
 | @sum w r ks hw I D =>
  rw [YY,YY,D,cv_cg e hw];have:=I.facts.2.2;rw [Qby,zN,this,Qap,Qa1];lia
 | @clm y r ks G hn _ D =>
  rw [YY,YY,D];congr 1;unfold cvV;dsimp only;rw [Qa0 G,Qa0 G]
theorem gh{nx:Ad}{ot:Az}{W:Nat}(S:WU N r)
  (q:∀ls:Aj,ls.length=W->(∀x∈ls,x < 2 ^ N.length)->∃b:Bool,Ww (2 ^ W) (jg ls N) r []=[.bl b]/\(rnO nx ot 0 ls)[W - 1]?=some (.bl b)) :
  SQ (2 ^ N.length) W (fun ls=>if (rnO nx ot 0 ls)[W - 1]?=some (.bl true) then 1 else 0)=SQ (2 ^ W) N.length fun vs=>if Ww (2 ^ W) (Zb6 N vs) r []=[.bl true] then 1 else 0:=by
 rw [<-Zbp N.length W];refine WC fun ls hl hb=>?_;obtain ⟨b,e1,e2⟩:=q ls hl hb;rw [e2,<-Zh0 (fun y C=>Zhz C ls) S.ty,e1];cases b
 ·grind
 ·rw [Qa0 rfl,Qa0 rfl]
structure gk(nx:Ad)(n i:Nat)(kvs:List (Nat × Nat)):Prop where
 sum:∀F,wsum kvs F=SQ n i fun ls=>F (stN nx 0 ls)
 nd:(kvs.map (·.1)).Nodup
 lt:∀q∈kvs,q.1 < nx.length
theorem gk.one{nx:Ad}(h:0 < nx.length):gk nx n 0 [(0,1)]:=by
 refine ⟨fun F=>?_,Qbr.mpr ⟨(fun z=>nomatch z),Qci⟩,fun q C=>?_⟩
 ·show 1 * F 0 + 0=F 0
  lia
 ·grind
theorem gk.len{nx:Ad}{kvs:List (Nat × Nat)}(h:gk nx n i kvs):kvs.length<=nx.length:=by
 have:=Zbt h.nd fun x hx=>by
  obtain ⟨q,C,rfl⟩:=Qau.mp hx;exact h.lt q C
 rwa [Qac] at this
theorem kS{F:Nat->Nat}:∀{kvs:List (Nat × Nat)} {q:Nat × Nat},q∈kvs->q.2 * F q.1<=wsum kvs F
 | p::r,q,h=>by
  rcases Qam.mp h with rfl | h
  ·exact Qfc _ _
  ·exact Qaz (kS h) (Nat.le_add_left _ _)
theorem gk.le{nx:Ad}{kvs:List (Nat × Nat)}(h:gk nx n i kvs){q:Nat × Nat}(C:q∈kvs):q.2<=n ^ i:=by
 have h1:=kS (F:=fun _=>1) C;rw [h.sum,Qhs] at h1;exact Qaz h1 (SQ_le fun _=>Qag _)
def XG(ot:Az)(s:Nat):Nat:=(ot.getD s []).countP fun z=>eqV z (.bl true)
theorem zR{r:List g}{d:g}(h:r.length=n)(F:g->Nat):XW n (fun l=>F (r.getD l d))=(r.map F).sum:=by
 unfold XW;congr 1;refine List.ext_getElem? fun i=>?_
 by_cases hi:i < n
 ·grind
 ·grind
theorem Zdx{ot:Az}{s:Nat}(h:(ot.getD s []).length=n)(hb:∀v∈ot.getD s [],∃b:Bool,v=.bl b):XG ot s=XW n fun l=>if (ot.getD s []).getD l .non=.bl true then 1 else 0:=by
 rw [zR h fun v=>if v=.bl true then 1 else 0];unfold XG;generalize ot.getD s []=r at hb;clear h
 induction r with
 | nil=>rfl
 | cons v r q =>
  rw [Qhb,Qbx,List.sum_cons,q fun x hx=>hb x (Qal _ hx),Qgt];obtain ⟨b,rfl⟩:=hb v Qah;cases b <;> rfl
theorem gk.count{nx:Ad}{ot:Az}{kvs:List (Nat × Nat)}(h:gk nx n i kvs)(hs:∀s,s < nx.length->(ot.getD s []).length=n/\∀v∈ot.getD s [],∃b:Bool,v=.bl b)(q:∀ls:Aj,(∀x∈ls,x < n)->stN nx 0 ls < nx.length) :
  wsum kvs (XG ot)=SQ n (i + 1) fun ls=>if (rnO nx ot 0 ls)[i]?=some (.bl true) then 1 else 0:=by
 rw [h.sum];refine WC fun ls hl hb=>?_;obtain ⟨h1,h2⟩:=hs _ (q ls hb);rw [Zdx h1 h2];refine Yx fun l _=>?_;show _=if (rnO nx ot 0 (ls++[l]))[i]?=some (.bl true) then 1 else 0;rw [kH,Qa8 (by rw [vl,hl];exact Qag _),vl,hl,Qe1];show _=if some ((ot.getD (stN nx 0 ls) []).getD l .non)=some (.bl true) then 1 else 0
 by_cases e:(ot.getD (stN nx 0 ls) []).getD l .non=.bl true
 ·rw [Qa0 e,Qa0 (by rw [e])]
 ·grind
theorem gk.next{nx:Ad}{kvs C:List (Nat × Nat)}(h:gk nx n i kvs)(hs:∀s,s < nx.length->(nx.getD s []).length=n)(D:∀ls:Aj,(∀x∈ls,x < n)->stN nx 0 ls < nx.length)
  (e:∀F,wsum C F=wsum kvs fun s=>((nx.getD s []).map F).sum) (G:(C.map (·.1)).Nodup) (lt:∀q∈C,q.1 < nx.length):gk nx n (i + 1) C:=by
 refine ⟨fun F=>?_,G,lt⟩;rw [e,h.sum];refine WC fun ls hl hb=>?_;rw [<-zR (d:=0) (hs _ (D ls hb)) F];exact Yx fun l _=>by
  show _=F (stN nx 0 (ls++[l]));rw [zK]
def NmC(C:A2)(q:Ai):Prop:=q.Perm (XC ((C.filter nmB).map Zb1))/\PyProof.Rows.sortedS q=true
def Off2(q pl:Aw)(H H':Hp):Prop:=∀b o,H b=some o->b≠q->b≠pl->H' b=some o
def Tells(C:A2)(q:Ai)(nx:Ad)(ot:Az):Prop:=∀(W:Nat) (ls:Aj),1<=W->ls.length=W->(∀x∈ls,x < 2 ^ q.length)->∃b:Bool,Ww (2 ^ W) (jg ls q) C []=[.bl b]/\(rnO nx ot 0 ls)[W - 1]?=some (.bl b)
def SmL(f:Aw)(H H':Hp):Prop:=∀b o,b≠f->H b=some o->H' b=some o
theorem kT{y:Str}(h:y∉ZJ):npw (.str y)=0:=by
 rw [<-Zda];show (List.replicate (WS T1 (.inr y) + WS T2 (.inr y)).toNat false++List.replicate (WS T3 (.inr y)).toNat true).length=0;rw [qk fun z=>h (z6.1 y z),qk fun z=>h (z6.2.1 y z),qk fun z=>h (z6.2.2 y z)]
 rfl
def jW:Ai:=["same","under","beneath","sign","nought"]
def lpS(y:Str):Am :=
 if y∈(["both","either","so"]:Ai) then [true,true] else if y = "never" then [true] else if y∈(["same","under","beneath","and","or","odd","add","sub"]:Ai) then [false,false]
 else if y∈(["sign","nought","not","neg","twice","low"]:Ai) then [false] else if y = "pick" then [false,false,false] else []
def lpW:V->List Bool
 | .str y=>lpS y
 | _=>[]
theorem Zdy:∀y∈Z2,lpS y=List.replicate (Jp (.str y)) false++List.replicate (z7 (.str y)) true:=by decide +kernel
theorem lp_sum:∀y∈Jo,lpS y=List.replicate (Yk y) false/\npw (.str y)=Yk y:=by decide +kernel
theorem Zh1:∀y∈ZJ,(lpS y).reverse=lpS y/\(lpS y).length<=3:=by decide +kernel
theorem Zbu{y:Str}(h:y∉ZJ):lpS y=[]:=by
 have q:∀y∈(["both","either","so"]:Ai),y∈ZJ:=by decide +kernel
 have C:∀y∈(["same","under","beneath","and","or","odd","add","sub"]:Ai),y∈ZJ:=by decide +kernel
 have D:∀y∈(["sign","nought","not","neg","twice","low"]:Ai),y∈ZJ:=by decide +kernel
 unfold lpS;rw [Qaw (fun z=>h (q y z)),Qaw (fun z=>h (by rw [z];decide +kernel)),Qaw (fun z=>h (C y z)),Qaw (fun z=>h (D y z)),Qaw (fun z=>h (by rw [z];decide +kernel))]
theorem Zbv(w:V):(lpW w).reverse=lpW w/\(lpW w).length<=3:=by
 cases w with
 | str y =>
  by_cases h:y∈ZJ
  ·exact Zh1 y h
  ·show (lpS y).reverse=lpS y/\(lpS y).length<=3
   rw [Zbu h];exact ⟨rfl,by decide⟩
 | _=>exact ⟨rfl,Qbc _⟩
theorem Zh2:∀y∈Z2,y∈allR->y∈jW:=by decide +kernel
theorem Zh3:∀y∈Jo,y∈allR->y∈qw:=by decide +kernel
theorem Zdz:∀y∈allR,y∈ZJ:=by decide +kernel
theorem TyR.re{ys:Ai}{C:A2}{ks:Am}(h:TyR ys C ks)(G:∀y∈ys,V.str y∈C->y∈N)(hk:∀y∈N,y∉ZJ):TyR N C ks:=by
 induction h with
 | nil=>exact .nil
 | @sum w r ks hw _ I =>
  refine .sum ?_ (I fun y q hm=>G y q (Qal _ hm));rcases hw with ⟨y,rfl,h1,_,D⟩ | ⟨y,rfl,h1,h2,D⟩ | h
  ·exact .inl ⟨y,rfl,h1,fun z=>hk y z (G6 y h1),D⟩
  ·exact .inr (.inl ⟨y,rfl,G y h1 Qah,h2,D⟩)
  ·exact .inr (.inr h)
 | @clm y r ks q _ _ I=>exact .clm q (fun z=>hk y z (YR y q)) (I fun y q hm=>G y q (Qal _ hm))
def Zd0(y:Str)(l:Ai):Int:=if y∈l then 1 else 0
structure Wds(B:Int)(nm:Ai)(ws:A2)(ks:Am)(l0 l1:Int):Prop where
 ty:∀rest,TyR nm rest ks->TyR nm (ws++rest) [true]
 rm:(Wg ws:Int) + l0 + l1<=B
 ln:ws.length + ks.length<=14
theorem Jw(q:A2)(w:V):Wg (q++[w])=Wg q + if inV w (allR.map V.str)=true then 1 else 0:=by
 unfold Wg;rw [Qd7,Qap];congr 1;rw [Qc2]
 split <;> rfl
theorem Wds.clm{B:Int}{nm:Ai}{D:A2}{ks:Am}{I l1 q:Int}{y:Str}(W:Wds B nm D (true::ks) I l1)(hk:∀y∈nm,y∉ZJ)(C:y∈Z2)(hr:((lpS y).length:Int)<=14 - D.length - (true::ks).length)(hl:q + Zd0 y jW=l1):Wds B nm (D++[.str y]) (lpS y++ks) I q:=by
 refine ⟨fun rest G=>?_,?_,?_⟩
 ·rw [Qb9]
  refine W.ty _ (.clm C (fun z=>hk y z (YR y C)) ?_);rw [Zdy y C,Qb9] at G;exact G
 ·rw [Jw,ZA]
  have:=W.rm;unfold Zd0 at hl
  by_cases h:y∈allR
  ·rw [Qa0 (Zh2 y C h)] at hl
   rw [Qa0 (Qao h)];lia
  ·grind
 ·grind
theorem Wds.sum{B:Int}{nm:Ai}{C:A2}{ks:Am}{G l1 q:Int}{w:V}(W:Wds B nm C (false::ks) G l1)(hk:∀y∈nm,y∉ZJ)
  (hw:(∃y,w=.str y/\y∈Jo/\((lpS y).length:Int)<=14 - C.length - (false::ks).length/\q + Zd0 y qw=G)\/(∃y,w=.str y/\y∈nm/\q=G)\/∃z:Int,w=.int z/\0<=z/\z < 1000/\q=G):Wds B nm (C++[w]) (lpW w++ks) q l1:=by
 have hs:=W.rm;have hl:=W.ln;rw [Qax] at hl;have I:∀{w:V},jN nm 10 w->lpW w=List.replicate (npw w) false->∀rest,TyR nm rest (lpW w++ks)->TyR nm (C++[w]++rest) [true]:=fun hw e rest M=>by
  rw [Qb9];rw [e] at M;exact W.ty _ (.sum hw M)
 have J:∀{w:V},(lpW w).length + C.length + ks.length + 1<=14->(C++[w]).length + (lpW w++ks).length<=14:=fun {w} h=>by
  grind
 rcases hw with ⟨y,rfl,D,hr,hc⟩ | ⟨y,rfl,D,rfl⟩ | ⟨z,rfl,S,N,rfl⟩
 ·have h2:=lp_sum y D
  refine ⟨I (.inl ⟨y,rfl,D,fun z=>hk y z (G6 y D),h2.2⟩) (by rw [h2.2];exact h2.1),?_,J (by show (lpS y).length + _ + _ + 1<=14;rw [Qax] at hr;lia)⟩;rw [Jw,ZA];unfold Zd0 at hc
  by_cases h:y∈allR
  ·rw [Qa0 (Zh3 y D h)] at hc
   rw [Qa0 (Qao h)];lia
  ·grind
 ·have hn:=hk y D
  have O:∀y∈qw,y∈ZJ:=by decide +kernel
  have Y:lpW (.str y)=[]:=Zbu hn;refine ⟨I (.inr (.inl ⟨y,rfl,D,fun z=>hn (O y z),kT hn⟩)) (by rw [kT hn,Y];rfl),?_,J (by grind)⟩;rw [Jw,ZA,Qaw (fun z=>hn (Zdz y (Qbi z)))];lia
 ·have L:npw (.int z)=0:=by
   show (List.replicate (WS T1 (.inl z) + WS T2 (.inl z)).toNat false++List.replicate (WS T3 (.inl z)).toNat true).length=0
   rfl
  refine ⟨I (.inr (.inr ⟨z,rfl,S,Int.lt_trans N (by decide),L⟩)) (by rw [L];rfl),?_,J (by show 0 + _ + _ + 1<=14;lia)⟩;rw [Jw,vg];show ((Wg C + 0:Nat):Int) + _ + _<=B;lia
def One1 (W:Nat) (y:Str) (v r:V):Prop:=(y∈(["not","neg","twice","low"]:Ai)/\∃a:Int,v=.int a/\0<=a/\a < 2 ^ W/\r=.int (Zif y a % 2 ^ W))\/(y∈(["sign","nought"]:Ai)/\∃a:Int,v=.int a/\0<=a/\a < 2 ^ W/\r=.bl (qZ (2 ^ W) y [a]))\/(y = "never" /\ ∃b:Bool,v=.bl b/\r=.bl (!b))
def Two2 (W:Nat) (y:Str) (v u r:V):Prop:=(y∈(["and","or","odd","add","sub"]:Ai)/\∃a b:Int,v=.int a/\u=.int b/\(0<=a/\a < 2 ^ W)/\(0<=b/\b < 2 ^ W)/\r=.int (Zjh y a b % 2 ^ W))\/(y∈(["same","under","beneath"]:Ai)/\∃a b:Int,v=.int a/\u=.int b/\(0<=a/\a < 2 ^ W)/\(0<=b/\b < 2 ^ W)/\r=.bl (qZ (2 ^ W) y [a,b]))\/(y∈(["both","either","so"]:Ai)/\∃a b:Bool,v=.bl a/\u=.bl b/\r=.bl (Zjz y [a,b]))
def kvC(nm:Ai)(vs:Aj):A0:=(nm.zip vs).map fun p=>(.inr p.1,.int (p.2:Int))
def Jx(H:Hp)(p:Aw)(nm:Ai)(L:Ad):Prop:=∃ds:List Aw,H p=some (.lst (ds.map V.ref))/\ds.length=L.length/\∀(i:Nat) (d:Aw) (v:Aj),ds[i]?=some d->L[i]?=some v->H d=some (.dK (kvC nm v))
def ntK:V->Bool
 | .str y=>decide (y∉ZJ)
 | _=>false
theorem Zd1{s:Nat}{f:Nat->Nat}(h:XW n f=s):((List.range n).map fun j=>((f j:Nat):Int)).sum=(s:Int):=by
 rw [<-h];clear h
 induction n with
 | zero=>rfl
 | succ n q =>
  rw [Qd4,Qav,Qe2,q,Yl,Qgm];show _ + [((f n:Nat):Int)].sum=_;rw [Qes]
theorem lpW_eq {w:V} (hw:(∃y,w=.str y)\/∃z:Int,w=.int z):lpW w=if inV w ((["both","either","so"]:Ai).map V.str)=true then [true,true] else if decide (w=.str "never")=true then [true] else if inV w ((["same","under","beneath","and","or","odd","add","sub"]:Ai).map V.str)=true then [false,false]
  else if inV w ((["sign","nought","not","neg","twice","low"]:Ai).map V.str)=true then [false] else if decide (w=.str "pick")=true then [false,false,false] else []:=by
 rcases hw with ⟨y,rfl⟩ | ⟨z,rfl⟩
 ·rw [ZA,ZA,ZA]
  simp only [Qg2];show lpS y=_;unfold lpS;have e:∀c:Str,(V.str y=V.str c)=(y=c):=fun c=>propext ⟨fun z=>by injection z,fun z=>by rw [z]⟩;simp only [e]
 ·rfl
theorem qI{l:Ai}{i:Int}(C:0<=i)(h1:i < (l.length:Int)):∃y,y∈l/\atI (l.map V.str) i=some (.str y):=by
 obtain ⟨j,rfl⟩:∃j:Nat,i=(j:Int):=⟨i.toNat,by lia⟩;have q:j < l.length:=by lia
 exact ⟨l[j],Qbm q,Xj (by grind)⟩
def gm:Ai:=["same","same","under","under","beneath","sign","nought","nought","both","both","either","either","so","never","never","yes"]
theorem Zd2:∀y∈gm,y∈Z2:=by decide +kernel
def vn:Ai:=["not","neg","twice","low","and","or","odd","add","sub","add","pick"]
theorem Zd3:∀y∈vn,y∈Jo/\(y∈(["add","sub","neg","twice","low"]:Ai)↔y∈qw):=by decide +kernel
theorem SmL.same{H':Hp}(h:SmL f H H')(s:ZC H' A):SmL f H A:=fun b o hb e=>s _ _ (h b o hb e)
theorem SmL.of{H':Hp}(s:ZC H H'):SmL f H H':=fun b o _ e=>s _ _ e
theorem SmL.put{H':Hp}{o:HO}(s:SmL f H H'):SmL f H (upd H' f o):=fun b u hb e=>by rw [Zj hb];exact s b u hb e
theorem kU{x:Int}{W:Nat}(h:x / 2 ^ W=0):x % 2 ^ W=x:=by
 have hm:=Qck x (2 ^ W);rw [h,Int.mul_zero,Int.add_zero] at hm;exact hm
theorem pw_le{j:Nat}(h:i<=j):(2:Int) ^ i<=2 ^ j:=by
 have h:=Int.ofNat_le.mpr (Qdf (show 0 < 2 by decide) h);exact h
theorem Zh4(w:Nat):∀a b:Int,Builtin.bitXor a b / 2 ^ w=Builtin.bitXor (a / 2 ^ w) (b / 2 ^ w):=by
 induction w with
 | zero=>intro a b;rw [Qds,Qb3,Qb3,Qb3]
 | succ w q =>
  intro a b;have d:∀x:Int,x / 2 ^ (w + 1)=x / 2 / 2 ^ w:=fun x=>by rw [Qc7,Qd9,Qdd (by decide:(0:Int)<=2)]
  rw [d,d,d,(xor2 a b).1,q]
theorem Zd4{a b:Int}{W:Nat}(q:0<=a)(a1:a < 2 ^ W)(C:0<=b)(b1:b < 2 ^ W):Builtin.bitAnd a b % 2 ^ W=Builtin.bitAnd a b/\Builtin.bitOr a b % 2 ^ W=Builtin.bitOr a b/\Builtin.bitXor a b % 2 ^ W=Builtin.bitXor a b:=by
 have e1:=Qb1 q a1;have e2:=Qb1 C b1;exact ⟨kU (by rw [zB,e1,e2];rfl),kU (by rw [Ze1,e1,e2];rfl),kU (by rw [Zh4,e1,e2];rfl)⟩
theorem ben_eq {a b:Int} {W:Nat} (G:1<=W) (C:0<=a) (a1:a < 2 ^ W) (q:0<=b) (b1:b < 2 ^ W):qZ (2 ^ W) "beneath" [a,b]=decide ((a + 2 ^ W / 2) % 2 ^ W < (b + 2 ^ W / 2) % 2 ^ W):=by
 show decide (sgn (2 ^ W) a < sgn (2 ^ W) b)=_;obtain ⟨V,rfl⟩:∃V,W=V + 1:=⟨W - 1,by lia⟩;rw [Qc7] at *;generalize (2:Int) ^ V=h at *;have e:∀c:Int,0<=c->c < h * 2->(c + h * 2 / 2) % (h * 2)=sgn (h * 2) c + h:=fun c D I=>by
  unfold sgn;rw [Int.mul_ediv_cancel _ (by decide)]
  split
  ·rw [show c + h=(c - h * 2 + h) + h * 2 * 1 by lia,Qcv,Qc8 (by lia) (by lia)]
  ·exact Qc8 (by lia) (by lia)
 rw [e a C a1,e b q b1];exact Qc3.mpr ⟨fun z=>by lia,fun z=>by lia⟩
theorem Zh5{a:Int}{W:Nat}(q:0<=a)(h1:a < 2 ^ W):Builtin.bitNot a % 2 ^ W=2 ^ W - 1 - a:=by
 have e:Builtin.bitNot a=(2 ^ W - 1 - a) + 2 ^ W * (-1):=by
  show -a - 1=_;lia
 rw [e,Qcv,Qc8 (by lia) (by lia)]
theorem Zbw(a:Int)(W:Nat):-a % 2 ^ W=(2 ^ W - a) % 2 ^ W:=by simp_all
theorem Zh6{a:Int}{W:Nat}(C:0<=a)(h1:a < 2 ^ W):Builtin.bitAnd a (-a) % 2 ^ W=Builtin.bitAnd a (2 ^ W - a):=by
 have q:Builtin.bitAnd a (2 ^ W - a) / 2 ^ W=0:=by
  rw [zB,Qb1 C h1]
  by_cases z:a=0
  ·rw [z,Int.sub_zero,Int.ediv_self (by lia)]
   rfl
  ·rw [Qb1 (by lia) (by lia)]
   rfl
 rw [<-kU q];refine jQ fun k hk=>?_;rw [YK,YK,<-qt (-a) W k hk,Zbw,qt _ _ _ hk]
theorem sign_eq {a:Int} {W:Nat} (q:0<=a) (h1:a < 2 ^ W):qZ (2 ^ W) "sign" [a]=decide ((2:Int) ^ W<=2 * a):=by
 show decide (sgn (2 ^ W) a < 0)=_;unfold sgn;refine Qc3.mpr ?_
 split <;> lia
theorem Zbx {m:Int} (a:Int):qZ m "nought" [a]=decide (V.int a=V.int 0):=by
 show decide (a=0)=_;exact Qc3.mpr ⟨fun z=>by rw [z],fun z=>by injection z⟩
theorem Zh7{ys:Ai}{W:Nat}(hW:1<=W)(hys:∀y∈ys,y∉ZJ){ρ:Str->Int}(N:∀y∈ys,0<=ρ y/\ρ y < 2 ^ W){x:V}{ks:Am}(h:TyR ys (x::r) ks){J M:A2}(h0:Ww (2 ^ W) ρ r []=J)(h1:cvV (2 ^ W) ρ x (J.take (npw x))::J.drop (npw x)=M) :
  (∃z,x=.int z/\M=.int (z % 2 ^ W)::J)\/(∃y,x=.str y/\y∈ys/\M=.int (ρ y)::J)\/∃y,x=.str y/\y∉ys/\((y = "yes" /\ M=.bl true::J)\/(y = "pick" /\ ∃(a b c:Int) (l:A2),J=.int a::.int b::.int c::l/\((0<=a/\a < 2 ^ W)/\(0<=b/\b < 2 ^ W)/\0<=c/\c < 2 ^ W)/\M=.int (Builtin.bitOr (Builtin.bitAnd a b) (Builtin.bitAnd (Builtin.bitNot a) c) % 2 ^ W)::l)
   \/ (y ≠ "yes" /\ y ≠ "pick" /\ (lpS y).length=1/\∃(v S:V) (l:A2),J=v::l/\One1 W y v S/\M=S::l)\/(y ≠ "yes" /\ y ≠ "pick" /\ (lpS y).length≠1/\∃(v u S:V) (l:A2),J=v::u::l/\Two2 W y v u S/\M=S::l)):=by
 rcases part_of hW hys ρ h with ⟨is,l,hw,e1,e2,e3,q⟩ | ⟨y,is,l,rfl,C,hn,hs,e1,e2,e3,q⟩ | ⟨y,bs,l,rfl,C,hn,hs,e1,e2,q⟩
 ·rw [h0] at e1 q
  rw [h1] at q;rcases hw with ⟨y,rfl,C,Z,I⟩ | ⟨y,rfl,C,hnr,I⟩ | ⟨z,rfl,z0,z1,I⟩
  ·refine .inr (.inr ⟨y,rfl,Z,?_⟩)
   have L:y ≠ "yes" := fun z=>Jv y C (by rw [z];decide +kernel);rw [I] at e2;have Y:(Yk y=1/\y ≠ "pick" /\ y∈(["not","neg","twice","low"]:Ai)/\(lpS y).length=1)\/(Yk y=2/\y ≠ "pick" /\ y∈(["and","or","odd","add","sub"]:Ai)/\(lpS y).length≠1)\/(y = "pick" /\ Yk y=3):=(by decide +kernel:∀y∈Jo,(Yk y=1/\y ≠ "pick" /\ y∈(["not","neg","twice","low"]:Ai)/\(lpS y).length=1)\/(Yk y=2/\y ≠ "pick" /\ y∈(["and","or","odd","add","sub"]:Ai)/\(lpS y).length≠1)\/(y = "pick" /\ Yk y=3)) y C;rcases Y with ⟨p1,G,D,k1⟩ | ⟨p1,G,D,k1⟩ | ⟨p1,p3⟩
   ·rw [p1] at e2
    match is,e2 with
    | [a],_ =>
     have ha:=e3 a Qah;exact .inr (.inr (.inl ⟨L,G,k1,.int a,_,l,e1,.inl ⟨D,a,rfl,ha.1,ha.2,rfl⟩,q⟩))
   ·rw [p1] at e2
    match is,e2 with
    | [a,b],_ =>
     have ha:=e3 a Qah;have hb:=e3 b (Qal _ Qah);exact .inr (.inr (.inr ⟨L,G,k1,.int a,.int b,_,l,e1,.inl ⟨D,a,b,rfl,rfl,ha,hb,rfl⟩,q⟩))
   ·rw [p3] at e2
    match is,e2 with
    | [a,b,c],_ =>
     have ha:=e3 a Qah;have hb:=e3 b (Qal _ Qah);have hc:=e3 c (Qal _ (Qal _ Qah));exact .inr (.inl ⟨p1,a,b,c,l,e1,⟨ha,hb,hc⟩,q⟩)
  ·rw [I] at e2
   match is,e2 with
   | [],_ =>
    refine .inr (.inl ⟨y,rfl,C,?_⟩);rw [q,e1,show wwv ρ (.str y) [] % 2 ^ W=ρ y from Qc8 (N y C).1 (N y C).2]
    rfl
  ·match is,e2 with
   | [],_ =>
    refine .inl ⟨z,rfl,?_⟩;rw [q,e1]
    rfl
 ·rw [h0] at e1 q
  rw [h1] at q;refine .inr (.inr ⟨y,rfl,hn,?_⟩);have Y:(Jp (.str y)=1/\y ≠ "yes" /\ y ≠ "pick" /\ y∈(["sign","nought"]:Ai)/\(lpS y).length=1)\/(Jp (.str y)=2/\y ≠ "yes" /\ y ≠ "pick" /\ y∈(["same","under","beneath"]:Ai)/\(lpS y).length≠1):=(by decide +kernel:∀y∈Z2,0 < Jp (.str y)->(Jp (.str y)=1/\y ≠ "yes" /\ y ≠ "pick" /\ y∈(["sign","nought"]:Ai)/\(lpS y).length=1)\/(Jp (.str y)=2/\y ≠ "yes" /\ y ≠ "pick" /\ y∈(["same","under","beneath"]:Ai)/\(lpS y).length≠1)) y C hs;rcases Y with ⟨p1,O,G,D,k1⟩ | ⟨p1,O,G,D,k1⟩
  ·rw [p1] at e2
   match is,e2 with
   | [a],_ =>
    have ha:=e3 a Qah;exact .inr (.inr (.inl ⟨O,G,k1,.int a,_,l,e1,.inr (.inl ⟨D,a,rfl,ha.1,ha.2,rfl⟩),q⟩))
  ·rw [p1] at e2
   match is,e2 with
   | [a,b],_ =>
    have ha:=e3 a Qah;have hb:=e3 b (Qal _ Qah);exact .inr (.inr (.inr ⟨O,G,k1,.int a,.int b,_,l,e1,.inr (.inl ⟨D,a,b,rfl,rfl,ha,hb,rfl⟩),q⟩))
 ·rw [h0] at e1 q
  rw [h1] at q;refine .inr (.inr ⟨y,rfl,hn,?_⟩);have Y:(z7 (.str y)=0/\y = "yes")\/(z7 (.str y)=1/\y = "never")\/(z7 (.str y)=2/\y ≠ "yes" /\ y ≠ "pick" /\ y∈(["both","either","so"]:Ai)/\(lpS y).length≠1):=(by decide +kernel:∀y∈Z2,¬0 < Jp (.str y)->(z7 (.str y)=0/\y = "yes")\/(z7 (.str y)=1/\y = "never")\/(z7 (.str y)=2/\y ≠ "yes" /\ y ≠ "pick" /\ y∈(["both","either","so"]:Ai)/\(lpS y).length≠1)) y C hs;rcases Y with ⟨p1,rfl⟩ | ⟨p1,rfl⟩ | ⟨p1,O,G,D,k1⟩
  ·match bs,e2 with
   | [],_ =>
    refine .inl ⟨rfl,?_⟩;rw [q,e1]
    rfl
  ·match bs,e2 with
   | [b],_=>exact .inr (.inr (.inl ⟨by decide +kernel,by decide +kernel,by decide +kernel,.bl b,_,l,e1,.inr (.inr ⟨rfl,b,rfl,rfl⟩),q⟩))
  ·rw [p1] at e2
   match bs,e2 with
   | [a,b],_=>exact .inr (.inr (.inr ⟨O,G,k1,.bl a,.bl b,_,l,e1,.inr (.inr ⟨D,a,b,rfl,rfl,rfl⟩),q⟩))
theorem Zh8(nm:Ai)(vs:Aj):(kvC nm vs).length<=nm.length:=by
 unfold kvC;rw [Qac,Qd3];exact Nat.min_le_left _ _
theorem Zh9{y:Str}{vs:Aj}{w:Nat}(D:y∉N)(hl:vs.length=N.length):putK (kvC N vs) (.inr y) (.int (w:Int))=kvC (N++[y]) (vs++[w]):=by
 unfold putK;rw [Qaw]
 ·unfold kvC
  rw [List.zip_append hl.symm,Qav]
  rfl
 ·intro z
  obtain ⟨q,h1,h2⟩:=Qen.mp z;obtain ⟨p,C,rfl⟩:=Qau.mp h1;have:=Qbi h2;injection this with this;exact D (by rw [<-this];exact (Qed C).1)
theorem Zia(D:N.Nodup){vs:Aj}(hl:vs.length=N.length):Zar (kvC N vs) N (Zb6 N vs):=by
 have I:∀{N:Ai} {vs:Aj},vs.length=N.length->∀y,y∉N->Ye (kvC N vs) (.inr y)=none:=by
  intro N vs hl y C;have:=Ja (.inr y:Key) (kvC N vs);cases e:Ye (kvC N vs) (.inr y) with
  | none=>rfl
  | some v =>
   rw [e] at this;obtain ⟨q,h1,h2⟩:=Qen.mp this;obtain ⟨p,J,rfl⟩:=Qau.mp h1;have:=Qbi h2;injection this with this;exact absurd (by rw [<-this];exact (Qed J).1) C
 refine ⟨?_,I hl⟩
 induction N generalizing vs with
 | nil=>intro y C;cases C
 | cons x N L =>
  match vs,hl with
  | v::vs,hl =>
   intro y C;show Ye (((.inr x:Key),V.int (v:Int))::kvC N vs) (.inr y)=some (.int (((v::vs).getD ((x::N).idxOf y) 0:Nat):Int))
   by_cases h:x=y
   ·subst h
    rw [ZX rfl,List.idxOf_cons_self]
    rfl
   ·rw [ZT (fun z=>h (Sum.inr.inj z)),show (x::N).idxOf y=N.idxOf y + 1 by rw [Qfs,beq_false_of_ne h];rfl]
    have G:y∈N:=by
     grind
    exact L (Qbr.mp D).2 (Nat.succ.inj hl) y G
theorem Jx.snoc{p:Aw}(h:Jx H a N R)(keep:∀d q,H d=some (.dK q)->A d=some (.dK q))(C:∀ds:List Aw,H a=some (.lst (ds.map V.ref))->A a=some (.lst (ds.map V.ref++[V.ref p])))(hp:A p=some (.dK (kvC N v))):Jx A a N (R++[v]):=by
 obtain ⟨ds,h1,h2,G⟩:=h;refine ⟨ds++[p],by rw [C ds h1,Qav];rfl,by grind,fun i d u hd D=>?_⟩
 by_cases hi:i < ds.length
 ·grind
 ·grind
def NmI(y:Str)(q:Int):Nat->Str->Prop
 | 0,z=>z=y
 | i + 1,z=>∃C c,NmI y q i C/\atI gx.cps.toList ((q + 7 * (i:Int)) % 26)=some c/\z=C++⟨#[c]⟩
def begL:Ai:=["","","","a","xy","so","not","yes","add","nought"]
theorem Zfe:∀y∈begL,∀j∈List.range 26,∀c∈(atI gx.cps.toList (j:Int)).toList,(NmL (y++⟨#[c]⟩)/\y++⟨#[c]⟩∉ZJ)/\∀d∈(atI gx.cps.toList (((j + 7:Nat):Int) % 26)).toList,NmL (y++⟨#[c]⟩++⟨#[d]⟩)/\y++⟨#[c]⟩++⟨#[d]⟩∉ZJ:=by decide +kernel
theorem nm_all{y z:Str}{q:Int}(G:y∈begL)(hn:n=1\/n=2)(h:NmI y q n z):NmS z:=by
 obtain ⟨j,I,C⟩:∃j:Nat,q % 26=(j:Int)/\j < 26:=⟨(q % 26).toNat,by lia,by lia⟩;rcases hn with rfl | rfl
 ·obtain ⟨D,c,rfl,hc,rfl⟩:=h
  obtain ⟨h1,_⟩:=Zfe D G j (Qcn.mpr C) c (by grind);exact ⟨h1.1,h1.2⟩
 ·obtain ⟨J,d,⟨D,c,rfl,hc,rfl⟩,hd,rfl⟩:=h
  obtain ⟨_,h1⟩:=Zfe D G j (Qcn.mpr C) c (by grind);have:=h1 d (by grind);exact ⟨this.1,this.2⟩
theorem Zib{kvs:A0}{v:V}(hk:kvs.map (·.1)=N.map Sum.inr)(hn:N.Nodup)(y:Str):∃C:Ai,(putK kvs (.inr y) v).map (·.1)=C.map Sum.inr/\C.Nodup/\C.length<=N.length + 1/\∀z∈C,z∈N\/z=y:=by
 unfold putK
 split
 ·refine ⟨N,?_,hn,Qdu _,fun z h=>.inl h⟩
  rw [<-hk,Qa3];refine Qbu fun D _=>?_;show (if D.1=Sum.inr y then (D.1,v) else D).1=D.1
  split <;> rfl
 ·rename_i h
  have G:y∉N:=fun z=>h (Qen.mpr (by
   have:(Sum.inr y:Key)∈kvs.map (·.1):=by grind
   obtain ⟨q,h1,h2⟩:=Qau.mp this;exact ⟨q,h1,Qao h2⟩))
  refine ⟨N++[y],by grind,Qe4.mpr ⟨hn,Qbr.mpr ⟨(fun z=>nomatch z),Qci⟩,fun a ha b hb e=>G (by grind)⟩,by grind,fun z I=>?_⟩;rcases Qca.mp I with z | z
  ·exact .inl z
  ·exact .inr (Qat.mp z)
theorem ty_si{ks:Am}(h:TyR N r ks)(hn:∀y∈N,NmS y):(∀w∈r,jJ w)/\r.filter ntK=r.filter nmB:=by
 have f:=h.facts.1;have cs:∀w∈r,(∃y,w=.str y/\(y∈ZJ\/y∈N))\/∃z:Int,w=.int z:=fun w hw=>by
  rcases f w hw with (⟨y,e,q,_⟩ | ⟨y,e,q,_⟩ | ⟨z,e,_⟩) | ⟨y,e,q,_⟩
  ·exact .inl ⟨y,e,.inl (G6 y q)⟩
  ·exact .inl ⟨y,e,.inr q⟩
  ·exact .inr ⟨z,e⟩
  ·exact .inl ⟨y,e,.inl (YR y q)⟩
 refine ⟨fun w hw=>?_,List.filter_congr fun w hw=>?_⟩
 ·rcases cs w hw with ⟨y,rfl,q⟩ | ⟨z,rfl⟩
  ·refine .inl ⟨y,rfl,?_⟩
   rcases q with q | q
   ·have:=(Zc9 y q).1.2
    lia
   ·have:=(hn y q).l.1.2
    lia
  ·exact .inr ⟨z,rfl⟩
 ·rcases cs w hw with ⟨y,rfl,q⟩ | ⟨z,rfl⟩
  ·refine Qc3.mpr ⟨fun h=>⟨h,?_⟩,fun h=>h.1⟩
   rcases q with q | q
   ·exact absurd q h
   ·exact (hn y q).l
  ·rfl
theorem clm_ok{G:Ai}(h:TyR N r [true])(hn:∀y∈N,NmS y)(L:N.length<=3)(hl:r.length<=14)(hr:Wg r<=5)(q:NmC r G):WU G r:=by
 have f:=h.facts.1;have C:∀y,y∈G↔V.str y∈r/\y∉ZJ/\NmL y:=fun y=>by
  rw [q.1.mem_iff,uG]
  constructor
  ·intro h
   obtain ⟨w,hw,rfl⟩:=Qau.mp h;obtain ⟨h1,h2⟩:=Qd2.mp hw;cases w with
   | str y=>exact ⟨h1,Qbi h2⟩
   | _=>cases h2
  ·intro h
   exact Qau.mpr ⟨.str y,Qd2.mpr ⟨h.1,Qao h.2⟩,rfl⟩
 have J:G.Nodup:=q.1.nodup_iff.mpr (yP _);have sub:∀y∈G,y∈N:=fun y D=>by
  obtain ⟨h1,h2,_⟩:=(C y).mp D;rcases f _ h1 with (⟨z,e,I,_⟩ | ⟨z,e,I,_⟩ | ⟨z,e,_⟩) | ⟨z,e,I,_⟩
  ·cases e;exact absurd (G6 y I) h2
  ·cases e;exact I
  ·cases e
  ·cases e;exact absurd (YR y I) h2
 have kp:∀y∈G,y∉ZJ:=fun y D=>((C y).mp D).2.1;exact ⟨Qaz (XF J sub) L,J,kp,by lia,h.re (fun y D hw=>(C y).mpr ⟨hw,(hn y D).k,(hn y D).l⟩) kp,by lia⟩
set_option genInjectivity false in
set_option genSizeOfSpec false in
structure Adr where
 oj:Aw
 om:Ao
 mi:Aw
 mj:Ao
 gb:Aw
 gi:Ao
 oq:Aw
 ou:Ao
 lh:Aw
 lj:Ao
 mm:Aw
 mn:Ao
 ij:Aw
 ik:Ao
 ff:Aw
 fg:Ao
 il:Aw
 ip:Ao
 fh:Aw
 fi:Ao
 lq:Aw
 lr:Ao
 mq:Aw
 mr:Ao
 ov:Aw
 ow:Ao
 iq:Aw
 ir:Ao
 ee:Aw
 eh:Ao
 qs:Aw
 rd:Ao
 iu:Aw
 iw:Ao
 mw:Aw
 my:Ao
 lu:Aw
 lx:Ao
 ox:Aw
 oy:Ao
 mz:Aw
 nc:Ao
 ng:Aw
 nh:Ao
 ly:Aw
 lz:Ao
 ma:Aw
 me:Ao
 ix:Aw
 iy:Ao
 fj:Aw
 fk:Ao
 oz:Aw
 pb:Ao
 rf:Aw
 rg:Ao
 gj:Aw
 ia:Ao
 ni:Aw
 nj:Ao
 ka:Aw
 kd:Ao
 nq:Aw
 nt:Ao
 nu:Aw
 nv:Ao
 el:Aw
 et:Ao
 ib:Aw
 ic:Ao
 pd:Aw
 pe:Ao
 lb:Aw
 lg:Ao
 ph:Aw
 pj:Ao
 ny:Aw
 nz:Ao
 rh:Aw
 ri:Ao
 fq:Aw
 ft:Ao
 rk:Aw
 oh:Ao
 ea:Aw
 cm:Ao
 fu:Aw
 fw:Ao
 eu:Aw
 fe:Ao
 ro:Aw
 rp:Ao
 sf:Aw
 sh:Ao
 oi:Aw
 bg:Aw
 cq:Aw
 af:Aw
 aj:Aw
 ag:Aw
 aa:Aw
 su:Tok
 rq:Tok
 ba:Aw
structure Kg(K:Af)(w:Au)(mg:Ae)(x:Str)(a:Aw)(l:List (Str × Int)):Prop where
 m:mg x=some (.ref a)
 d:KD K w a l
structure Kt(K:Af)(mg:Ae)(x:Str)(a:Aw)(l:Ai):Prop where
 m:mg x=some (.ref a)
 d:∀H,SqT K H a (l.map V.str)
structure Df(K:Af)(mg:Ae)(x:Str)(st:Ay)(ps:Ai)(f:Aw)(fd:Ao):Prop where
 F:Fun K x x st f fd
 m:mg x=some (.ref f)
 b:Binds K fd ps []
set_option genInjectivity false in
set_option genSizeOfSpec false in
structure Txt(K:Af)(w:Au)(mg:Ae)(t:Adr):Prop where
 aj:Kg K w mg "SUM_PARTS" t.aj [("not",1),("neg",1),("twice",1),("low",1),("and",2),("or",2),("odd",2),("add",2),("sub",2),("pick",3)]
 ag:Kg K w mg "SUMS_IN_CLAIM" t.ag [("same",2),("under",2),("beneath",2),("sign",1),("nought",1)]
 aa:Kg K w mg "CLAIMS_IN_CLAIM" t.aa [("both",2),("either",2),("so",2),("never",1),("yes",0)]
 sy:mg "LETTERS" = some (.str "abcdefghijklmnopqrstuvwxyz" t.su)
 rr:mg "LONGEST_NAME" = some (.int 8 t.rq)
 ba:Kt K mg "REMEMBERING" t.ba ["neg","twice","low","add","sub","same","under","beneath","nought"]
 dk:Df K mg "words_at" xK ["width"] t.oj t.om
 cz:Df K mg "number_of" qa ["bits"] t.mi t.mj
 bu:Df K mg "state_number" WJ ["state","states","numbers"] t.gb t.gi
 ax:Df K mg "numbered" JG ["marks"] t.oq t.ou
 aq:Df K mg "classes_of" Wr ["states","classes"] t.lh t.lj
 da:Df K mg "firsts_of" qb ["classes"] t.mm t.mn
 bz:Df K mg "is_sum_word" Ji ["text"] t.ij t.ik
 bj:Df K mg "is_claim_word" Ws ["text"] t.ff t.fg
 cb:Df K mg "sums_behind" Jj ["word"] t.il t.ip
 bp:Df K mg "claims_behind" Wt ["word"] t.fh t.fi
 cu:Df K mg "is_made_of" Wu ["text","signs"] t.lq t.lr
 aw:Df K mg "remembers" qc ["word"] t.mq t.mr
 ay:Df K mg "borrowed" xM ["one","other","held"] t.ov t.ow
 cc:Df K mg "out_at_once" Jk ["word","parts"] t.iq t.ir
 bb:Df K mg "longest_number" Xa ["words"] t.ee t.eh
 du:Df K mg "bits_at" qd ["columns","letter"] t.qs t.rd
 cf:Df K mg "ways_onward" Jl ["ways","steps"] t.iu t.iw
 dc:Df K mg "_law_whole" qe ["found"] t.mw t.my
 ah:Df K mg "_law_number" JW ["script","k"] t.lu t.lx
 dm:Df K mg "_law_name" xN ["number"] t.ox t.oy
 ae:Df K mg "_law_parts" qf ["word"] t.mz t.nc
 df:Df K mg "_law_named" WR ["words"] t.ng t.nh
 cx:Df K mg "_law_of_one" JX ["word","one","full"] t.ly t.lz
 cy:Df K mg "_law_of_two" JY ["word","one","other","full"] t.ma t.me
 cg:Df K mg "_law_choices" Jm ["names","full"] t.ix t.iy
 bq:Df K mg "alike_classes" Xt ["steps","out"] t.fj t.fk
 dn:Df K mg "parts_of" xO ["word"] t.oz t.pb
 dw:Df K mg "is_name" jH ["text"] t.rf t.rg
 bw:Df K mg "name_columns" X7 ["names","letters"] t.gj t.ia
 dg:Df K mg "kept_then" qg ["word","parts","held"] t.ni t.nj
 cj:Df K mg "out_by_kept" Jn ["word","parts","held","then"] t.ka t.kd
 dh:Df K mg "counts_to" XT ["machine","many"] t.nq t.nt
 di:Df K mg "_law_names" qh ["script","start","many"] t.nu t.nv
 bc:Df K mg "_law_claim_word" Wa ["number","room","left"] t.el t.et
 bx:Df K mg "_law_sum_word" WK ["number","room","left","names","top"] t.ib t.ic
 dq:Df K mg "_law_told" xP ["words","full","values"] t.pd t.pe
 ck:Df K mg "parts_taken" XU ["stack","word"] t.lb t.lg
 dt:Df K mg "names_of" JH ["words"] t.ph t.pj
 dj:Df K mg "_law_words" qi ["script","start","names","most","left","top","claim"] t.ny t.nz
 dy:Df K mg "stepped" jI ["words","columns","place","kept"] t.rh t.ri
 ai:Df K mg "machine_found" Xu ["names","begin","step_of"] t.fq t.ft
 ie:Df K mg "least" qj ["machine"] t.rk t.oh
 az:Df K mg "machine_telling" ZO ["words","names","told"] t.ea t.cm
 br:Df K mg "claim_machine" Wv ["claim","names"] t.fu t.fw
 bf:Df K mg "least_of_claim" Wb ["claim"] t.eu t.fe
 ig:Df K mg "count" Zaf ["claim","width"] t.ro t.rp
 tu:Df K mg "law" Zg2 ["script"] t.sf t.sh
 ti:t.oh.code=.ref t.oi
 rj:t.cm.code=.ref t.cq
 mf:t.bg≠t.af
 vb:mg "all" = none
 tj:mg "bool" = none
 tq:mg "dict" = none
 og:mg "enumerate" = none
 dz:mg "int" = none
 au:mg "isinstance" = none
 ak:mg "len" = none
 ry:mg "list" = none
 pk:mg "max" = none
 si:mg "min" = none
 bh:mg "range" = none
 pw:mg "reversed" = none
 sj:mg "set" = none
 mh:mg "sorted" = none
 sr:mg "str" = none
 vr:mg "sum" = none
 ao:mg "tuple" = none
 vw:mg "zip" = none
set_option genInjectivity false in
set_option genSizeOfSpec false in
structure Tbs(mg:Ae)(base:Heap)(t:Adr):Prop where
 oi:PySem.W.CodeHd base t.oi t.bg
 cq:PySem.W.CodeHd base t.cq t.af
 B:zq mg base
theorem XX:Zu ["width","many","bit_number"] ["width"] (Zg xK):={}
theorem X0:Zu ["bits","number","bit"] ["bits"] (Zg qa):={}
theorem qJ:Zu ["state","states","numbers"] ["state","states","numbers"] (Zg WJ):={}
theorem qK:Zu ["marks","numbers"] ["marks"] (Zg JG):={}
theorem zS:Zu ["states","classes"] ["states","classes"] (Zg Wr):={}
theorem X1:Zu ["classes","firsts","state","number"] ["classes"] (Zg qb):={}
theorem xc:Zu ["text"] ["text"] (Zg Ji):={}
theorem Gj:Zu ["text"] ["text"] (Zg Ws):={}
theorem xf:Zu ["word"] ["word"] (Zg Jj):={}
theorem Gk:Zu ["word"] ["word"] (Zg Wt):={}
theorem zT:Zu ["text","signs"] ["text","signs"] (Zg Wu):={}
theorem yh:Zu ["word"] ["word"] (Zg qc):={}
theorem vo:Zu ["one","other","held"] ["one","other","held"] (Zg xM):={}
theorem xg:Zu ["word","parts"] ["word","parts"] (Zg Jk):={}
theorem JK:Zu ["words"] ["words"] (Zg Xa):={}
theorem gn:Zu ["columns","letter"] ["columns","letter"] (Zg qd):={}
theorem Y2:Zu ["ways","steps","onward","state","times","led_to"] ["ways","steps"] (Zg Jl):={}
theorem yi:Zu ["found"] ["found"] (Zg qe):={}
theorem ZM:Zu ["script","k","cells","size","cell","turn","step","seed"] ["script","k"] (Zg JW):={}
theorem YS:Zu ["number","letters","some","name","k"] ["number"] (Zg xN):={}
theorem yj:Zu ["word"] ["word"] (Zg qf):={}
theorem W0:Zu ["words","kept"] ["words"] (Zg WR):={}
theorem zU:Zu ["word","one","full"] ["word","one","full"] (Zg JX):={}
theorem zV:Zu ["word","one","other","full"] ["word","one","other","full"] (Zg JY):={}
theorem ZN:Zu ["names","full","found","name","wider","values","word","more"] ["names","full"] (Zg Jm):={}
theorem Ym:Zu ["steps","out","classes","many"] ["steps","out"] (Zg Xt):={}
theorem vp:Zu ["word"] ["word"] (Zg xO):={}
theorem gp:Zu ["text"] ["text"] (Zg jH):={}
theorem YI:Zu ["names","letters","columns","place","name"] ["names","letters"] (Zg X7):={}
theorem Gb:Zu ["word","parts","held","one"] ["word","parts","held"] (Zg qg):={}
theorem xh:Zu ["word","parts","held","then"] ["word","parts","held","then"] (Zg Jn):={}
theorem Y7:Zu ["machine","many","ways","holding_letters","counts","width"] ["machine","many"] (Zg XT):={}
theorem W6:Zu ["script","start","many","found","k"] ["script","start","many"] (Zg qh):={}
theorem Z7:Zu ["number","room","left","some","word","judged"] ["number","room","left"] (Zg Wa):={}
theorem Yu:Zu ["number","room","left","names","top","some","word","hard"] ["number","room","left","names","top"] (Zg WK):={}
theorem YT:Zu ["words","full","values","pile","word","one","other"] ["words","full","values"] (Zg xP):={}
theorem xi:Zu ["stack","word"] ["stack","word"] (Zg XU):={}
theorem vq:Zu ["words"] ["words"] (Zg JH):={}
theorem Yv:Zu ["script","start","names","most","left","top","claim","words","parts","room","number","word"] ["script","start","names","most","left","top","claim"] (Zg qi):={}
theorem Xh:Zu ["words","columns","place","kept","stack","later","word","parts","held"] ["words","columns","place","kept"] (Zg jI):={}
theorem ZW:Zu ["names","begin","step_of","states","numbers","steps","out","told"] ["names","begin","step_of"] (Zg Xu):={}
theorem X2:Zu ["machine","found","steps","out","classes","firsts","least_steps","least_out"] ["machine"] (Zg qj):={}
theorem ZK:Zu ["words","names","told","letters","columns","last_place","step_of","begin"] ["words","names","told"] (Zg ZO):={}
theorem Gm:Zu ["claim","names"] ["claim","names"] (Zg Wv):={}
theorem JL:Zu ["claim"] ["claim"] (Zg Wb):={}
theorem Zd5:Zu ["claim","width"] ["claim","width"] (Zg Zaf):={}
theorem W7:Zu ["script","first","names","words","width","full","due","values","found"] ["script"] (Zg Zg2):={}
theorem WD:Zgv (Zg YF) ["state"] ["step","place","reached"] ["words","columns","last_place","letters","told"]:=⟨by rfl,by rfl,by rfl,by decide +kernel,by decide +kernel,by decide +kernel,by decide +kernel⟩
section
variable {P:Aq}{w:Au}{K:Af}{mg:Ae}{base:Heap}{t:Adr}
def vt(K:Af):Sp:=fun vs H Q _=>∃w:Nat,vs=[.int w]/\w<=1000/\Q (.int (2 ^ w)) H
theorem vu (T:Txt K w mg t) (G:Tbs mg base t):Y9 P w K mg base CX0 1 t.oj t.om ["width"] (vt K):=by
 refine T.dk.F.ok XX (fun vs H Q E h=>?_) (fun q A outer s H vs Q E hr h=>?_)
 ·obtain ⟨w,rfl,hw,k⟩:=h
  rfl
 ·obtain ⟨w,rfl,hw,k⟩:=h
  have D:=ZP hr;refine ⟨_,@QSs.out _ _ _ (Zb (Zp (i:=1) XX.nd rfl (Or.inl rfl) Zf)
    (Zb (YW Qbv rfl (Xn rfl T.bh (Zk (qv 0) Zd)) (Yd (i:=2) XX.nd rfl (Or.inl rfl))
    (Ze (Zp (i:=1) XX.nd rfl (Or.inl rfl) (Zo YN (qv 1) Zf))))
    (Ze (Zn (qv 1))))),?_⟩
  refine L2.let3 ?_;intro I C;refine ⟨_,rfl,(w:Int),rfl,by lia,by lia,Xi (fun i σ H2=>∃v,σ=[some (.int w),some (.int (2 ^ i)),v]/\H2=H) ⟨none,rfl,rfl⟩ ?_ ?_⟩
  ·rintro i σ H2 hi ⟨v,rfl,rfl⟩
   refine ⟨_,rfl,_,_,rfl,rfl,.inr (.inr ⟨by decide,by decide⟩),some (.int (0 + (i:Int))),?_,rfl⟩
   rfl
  ·rintro σ H2 ⟨v,rfl,rfl⟩
   refine ⟨_,rfl,?_⟩;exact k
theorem Zd6{x:V}(h:(E.map V.int)[i]?=some x):∃b,x=V.int b/\E[i]?=some b:=by grind
def yk(K:Af):Sp:=fun vs H Q _=>∃(p:Aw) (q:Ak),vs=[.ref p]/\SqT K H p (q.map V.int)/\Q (.int (hor q.reverse)) H
theorem yl (T:Txt K w mg t) (I:Tbs mg base t):Y9 P w K mg base CX0 1 t.mi t.mj ["bits"] (yk K):=by
 refine T.cz.F.ok X0 (fun vs H Q E h=>?_) (fun C A outer s H vs Q E hr h=>?_)
 ·obtain ⟨p,q,rfl,hp,k⟩:=h
  rfl
 ·obtain ⟨p,q,rfl,hp,k⟩:=h
  have G:=ZP hr;refine ⟨_,@QSs.out _ _ _ (Zb (Zp (i:=1) X0.nd rfl (Or.inl rfl) Zf)
    (Zb (YW Qbv rfl (uk rfl T.pw (qv 0)) (Yd (i:=2) X0.nd rfl (Or.inl rfl))
    (Ze (Zp (i:=1) X0.nd rfl (Or.inl rfl) (Zo Y1 (Zo YN (qv 1) Zf) (qv 2)))))
    (Ze (Zn (qv 1))))),?_⟩
  refine L2.let3 ?_;intro J D;refine ⟨_,rfl,p,_,rfl,hp,um (K:=K) (a:=p) (xs:=q.map V.int) (fun i σ H2=>∃v,σ=[some (.ref p),some (.int (hor (q.reverse.take i))),v]/\H2=H) ⟨none,rfl,rfl⟩ (fun i σ H2 _ ⟨_,_,e⟩=>by rw [e];exact hp) ?_ ?_⟩
  ·rintro i x σ H2 hx ⟨v,rfl,rfl⟩
   rw [<-List.map_reverse] at hx;obtain ⟨b,rfl,hb⟩:=Zd6 hx;refine ⟨_,rfl,_,_,rfl,rfl,.inr (.inr ⟨by decide,by decide⟩),_,rfl,_,_,rfl,rfl,some (.int b),?_,rfl⟩;rw [Zdg hb]
   rfl
  ·rintro σ H2 ⟨v,rfl,rfl⟩
   refine ⟨_,rfl,?_⟩;rw [Qcx (by grind)];exact k
def qL(K:Af):Sp:=fun vs H Q _=>∃(κ:Type) (G:DecidableEq κ) (sk:SK κ) (v:V) (st D:Aw) (k:κ) (l:List κ) (C:A2),vs=[v,.ref st,.ref D]/\H st=some (.lst C)/\C.length=l.length/\sk.dic H D l/\sk.at_ H k v/\l.Nodup/\l.length < 10000000 /\
 ∀H' q,H' st=some (.lst q)->((k∈l/\q=C)\/(k∉l/\q=C++[v]))->sk.dic H' D (Y0 l k)->(∀b o,H b=some o->b≠st->b≠D->H' b=some o)->(∀b,H b=none->H' b=none)->Q (.int ((Y0 l k).idxOf k:Int)) H'
theorem qM (T:Txt K w mg t) (TB:Tbs mg base t):Y9 P w K mg base CX0 1 t.gb t.gi ["state","states","numbers"] (qL K):=by
 refine T.bu.F.ok qJ (fun vs H Q E h=>?_) (fun cdv A outer s H vs Q E hr h=>?_)
 ·obtain ⟨κ,_,sk,v,st,D,k0,l,G,rfl,C,L,n,hk,I,hl,k⟩:=h
  rfl
 ·obtain ⟨κ,_,sk,v,st,D,k0,l,G,rfl,C,L,n,hk,I,hl,k⟩:=h
  have Y:=ZP hr;refine ⟨_,@QSs.out _ _ _ (Zb (ZF (Zr (OpR.or (uV (jD hr)) (zi Y)) (qv 0) (qv 2) (by with_unfolding_all rfl))
    (Zb (QS.or (Zgt (jD hr) (qv 2) (qv 0) (Zs Z0 (by rfl) T.ak YA (Zk (qv 1) Zd)) rfl) (GS Y (qv 2) (qv 0) (Zs Z0 (by rfl) T.ak YA (Zk (qv 1) Zd)) rfl))
    (Ze (Yh (Y4 Qar Qa4 Qa5 ZE (qv 1) (Zk (qv 0) Zd))))) Zx)
    (Ze (Zn (QE.or (Zgs (jD hr) (qv 2) (qv 0) (fun _ _=>rfl)) (yH Y (qv 2) (qv 0) (fun _ _=>rfl)))))),?_⟩
  clear Y hr
  try dsimp only [L2.cxK,L2.cxK2]
  refine L2.let2 ?_;intro U1;have O:st≠D:=fun z=>by
   obtain ⟨o,e,_,h⟩:=SK.ne n;rw [<-z,C] at e;cases e;exact h _ rfl
  cases sk with
  | int f inj =>
   have n:H D=some (.dK (nk (l.map f))):=n;have hk:v=.int (f k0):=hk;subst hk;have hm:f k0∈l.map f↔k0∈l:=⟨fun z=>let ⟨a,ha,e⟩:=Qau.mp z;inj _ _ e ▸ ha,fun z=>Qb2 z⟩;have M:(l.map f).Nodup:=by
    unfold List.Nodup;rw [List.pairwise_map];exact List.Pairwise.imp (fun hne e=>hne (inj _ _ e)) I
   have Z:=uS f k0 (Y0 l k0) fun a _ e=>inj _ _ e;have em:=kh f l k0 fun a _ e=>inj _ _ e;refine ⟨_,rfl,_,rfl,.inr ⟨D,Ye (nk (l.map f)) (.inl (f k0)),rfl,.inl ⟨nk (l.map f),.inl (f k0),.inl n,rfl,rfl⟩,_,rfl,?_⟩⟩
   by_cases hs:k0∈l
   ·have e1:Y0 l k0=l:=Qa0 hs
    rw [e1] at k Z;rw [Zax (hm.mpr hs) M];refine ZI (.inr ⟨_,rfl,_,rfl,D,_,rfl,.inl ⟨nk (l.map f),.inl (f k0),.inl n,rfl,(Zax (hm.mpr hs) M).symm⟩,?_⟩);rw [Z];exact k H G C (.inl ⟨hs,rfl⟩) n (fun _ _ e _ _=>e) fun _ e=>e
   ·have e1:Y0 l k0=l++[k0]:=Qaw hs
    have S:f k0∉l.map f:=fun z=>hs (hm.mp z);rw [e1] at k Z em;rw [Zhd S];have N:((l++[k0]).map f).Nodup:=by
     rw [<-em];exact XE M _
    refine Y3 (.inr ⟨_,rfl,st,_,rfl,.inl (SqL.of C),_,rfl,_,rfl,D,_,rfl,Zcl.k (k:=.inl (f k0)) n (by rw [nk_len,Qac];exact YL (by lia)),?_⟩);rw [L,show (l.length:Int)=((l.map f).length:Int) by rw [Qac],nk_put S];have e2:l.map f++[f k0]=(l++[k0]).map f:=by rw [Qav];rfl
    rw [e2];have q:upd H D (.dK (nk ((l++[k0]).map f))) st=some (.lst G):=by rw [Zj O];exact C
    refine ⟨_,rfl,.inl ⟨rfl,_,SqL.of q⟩,_,rfl,st,_,_,rfl,rfl,q,YL (by lia),?_⟩;have J:upd (upd H D (.dK (nk ((l++[k0]).map f)))) st (.lst (G++[.int (f k0)])) D=some (.dK (nk ((l++[k0]).map f))):=by rw [Zj O.symm];exact Za
    refine .inr ⟨_,rfl,_,rfl,D,_,rfl,.inl ⟨_,.inl (f k0),.inl J,rfl,(Zax (Qb2 (by simp)) N).symm⟩,?_⟩;rw [Z];refine k _ (G++[.int (f k0)]) Za (.inr ⟨hs,rfl⟩) J (fun b o e h1 h2=>?_) fun b e=>?_
    ·rw [Zj h1,Zj h2]
     exact e
    ·rw [Zj (fun z=>by rw [z,C] at e;cases e),Zj (fun z=>by rw [z,n] at e;cases e)]
     exact e
  | key kn =>
   have n:J2 kn H D (Xs l):=n;obtain ⟨a,rfl,hk⟩:=hk;refine ⟨_,rfl,_,rfl,.inl ⟨κ,_,kn,D,a,k0,_,rfl,rfl,n,hk,_,rfl,?_⟩⟩
   by_cases hm:k0∈l
   ·have e1:Y0 l k0=l:=Qa0 hm
    have hv:=Wq l k0 hm I;rw [e1] at k;rw [hv];exact ZI (.inl ⟨_,rfl,_,rfl,κ,_,kn,D,a,k0,_,_,rfl,rfl,n,hk,hv,k H G C (.inl ⟨hm,rfl⟩) n (fun _ _ e _ _=>e) fun _ e=>e⟩)
   ·have e1:Y0 l k0=l++[k0]:=Qaw hm
    have hv:=JD l k0 hm;have N:(l++[k0]).Nodup:=e1 ▸ XE I k0;rw [e1] at k;rw [hv];refine Y3 (.inl ⟨_,rfl,st,_,rfl,.inl (SqL.of C),_,rfl,_,rfl,κ,_,kn,D,a,k0,_,rfl,rfl,n,hk,hv,?_,fun H2 n2 o2 hx=>?_⟩)
    ·rw [Wo]
     exact YL (by lia)
    rw [L] at n2;rw [<-JC] at n2;have q:=o2 _ _ C O;refine ⟨_,rfl,.inl ⟨rfl,_,SqL.of q⟩,_,rfl,st,_,_,rfl,rfl,q,YL (by lia),?_⟩;have n3:J2 kn (upd H2 st (.lst (G++[.ref a]))) D (Xs (l++[k0])):=SK.off (sk:=.key kn) n2 q;have hk2:kn.at_ H2 k0 a:=kn.keep _ _ _ _ (fun b xs e=>o2 b _ e fun z=>by
     obtain ⟨o,e3,h3,_⟩:=Zaz n;rw [z,e3] at e;cases e;exact h3 _ rfl) hk
    have hk3:kn.at_ (upd H2 st (.lst (G++[.ref a]))) k0 a:=kn.keep _ _ _ _ (fun b xs e=>by rw [Zj (X4 e q fun z=>nomatch z)];exact e) hk2;refine .inl ⟨_,rfl,_,rfl,κ,_,kn,D,a,k0,_,_,rfl,rfl,n3,hk3,Wq _ _ (by simp) N,k _ (G++[.ref a]) Za (.inr ⟨hm,rfl⟩) n3 (fun b o e h1 h2=>?_) fun b e=>?_⟩
    ·rw [Zj h1]
     exact o2 b o e h2
    ·obtain ⟨oo,rfl⟩:=hx
     rw [Zj (fun z=>by rw [z,C] at e;cases e),Zj (fun z=>by
      obtain ⟨o,e3,_⟩:=Zaz n;rw [z,e3] at e;cases e)]
     exact e
def vv(K:Af):Sp:=fun vs H Q _=>∃(Kk:Type) (q:DecidableEq Kk) (kn:KN Kk) (a:Aw) (as:List Aw) (ks:List Kk),vs=[.ref a]/\(H a=some (.lst (as.map V.ref))\/H a=some (.tup (as.map V.ref)))/\as.length=ks.length/\(∀(i:Nat) (b:Aw) (k:Kk),as[i]?=some b->ks[i]?=some k->kn.at_ H k b)/\ks.length<=1000000 /\
 ∀p H',H p=none->H' p=some (.lst ((ks.map fun k=>((Zy ks).idxOf k:Int)).map V.int))->ZC H H'->Q (.ref p) H'
theorem vx (T:Txt K w mg t) (TB:Tbs mg base t):Y9 P w K mg base CX0 1 t.oq t.ou ["marks"] (vv K):=by
 refine T.ax.F.ok qK (fun vs H Q E h=>?_) (fun cdv A outer s H vs Q E hr h=>?_)
 ·obtain ⟨Kk,_,kn,a,as,ks,rfl,ha,hl,C,hz,k⟩:=h
  rfl
 ·obtain ⟨Kk,_,kn,a,as,ks,rfl,ha,hl,C,hz,k⟩:=h
  have hu:=ZP hr;refine ⟨_,@QSs.out _ _ _ (Zb (Zp (i:=1) qK.nd rfl (Or.inr rfl) GR)
    (Ze (Zn (YO ({}:ZR (Zg JG) _ ["marks","numbers"] "mark" ["numbers"] [1]) (show QI _ _ _ (Zi8 K _) from Zgq (qv 0)) (fun _ _ _ _=>Xw) (fun _ _ _ _=>(Zgn (jD hr) (qv 1) (Zk (qv 0) (Zk (Zs uP (by rfl) T.ak YA (Zk (qv 1) Zd)) Zd)))))))),?_⟩
  refine L2.let2 ?_;intro U1;refine fun d hd=>?_;have D:=Zc (o:=.dK []) hd;refine Zh ?_;have S:J2 kn (upd H d (.dK [])) d (Xs (Zy (ks.take 0))):=⟨Qci,(show 0 < sizeLine by decide),.inl ⟨rfl,Za⟩⟩;have step:∀(i:Nat) (b:Aw) (q:Kk) (H1:Hp) (R:VK),as[i]?=some b->ks[i]?=some q->J2 kn H1 d (Xs (Zy (ks.take i)))->(∀b o,H b=some o->H1 b=some o)->(∀H2,J2 kn H2 d (Xs (Zy (ks.take (i + 1))))->(∀b o,H b=some o->H2 b=some o)->R (V.int ((Zy ks).idxOf q:Int)) H2)->tBMN (jf 1) (J3 (jf 0) (J3 (tCB Zi6 (J3 (jf 1) Zfr)) Zfr)) (J1 [1] [some (.ref a),some (.ref d)] (some (.ref b))) H1 R:=by
   intro i b q H1 R hb hk I o1 hR;have e1:Zy (ks.take (i + 1))=Y0 (Zy (ks.take i)) q:=by rw [take_snoc hk,xH]
   obtain ⟨r,O⟩:=xI ks (i + 1);have M:kn.at_ H1 q b:=kn.keep _ _ _ _ (fun b xs e=>o1 b _ e) (C i b q hb hk);refine ⟨_,rfl,⟨Kk,_,kn,d,_,rfl,I⟩,_,rfl,_,rfl,Kk,_,kn,d,_,rfl,I,Kk,_,kn,d,b,q,_,_,rfl,rfl,I,M,?_,fun y G=>?_,fun hn H' Y o' _=>?_⟩
   ·rw [Wo]
    exact YL (by have:=kf (ks.take i);rw [Qby] at this;lia)
   ·by_cases hm:q∈Zy (ks.take i)
    ·rw [Wq _ _ hm (Xr _)] at G
     cases G;have e2:Zy (ks.take (i + 1))=Zy (ks.take i):=by rw [e1];exact Qa0 hm
     have:=hR H1 (by rw [e2];exact I) o1;rw [O,e2,JA hm] at this;exact this
    ·rw [JD _ _ hm] at G
     cases G
   ·have hm:q∉Zy (ks.take i):=fun z=>by
     rw [Wq _ _ z (Xr _)] at hn;cases hn
    have e2:Zy (ks.take (i + 1))=Zy (ks.take i)++[q]:=by rw [e1];exact Qaw hm
    have:=hR H' (by rw [e2,JC];rw [Wo] at Y;exact Y) (fun c o e=>o' c o (o1 c o e) (Zl e hd));rw [O,e2,JA (by simp),List.idxOf_append,Qaw hm,List.idxOf_cons_self,Qey] at this;rw [Wo];exact this
  have fin:∀(zs:A2) (H1:Hp),zs=(ks.take as.length).map (fun k=>V.int ((Zy ks).idxOf k:Int))->(∀b o,H b=some o->H1 b=some o)->∀p,H1 p=none->Q (.ref p) (upd H1 p (.lst zs)):=by
   intro zs H1 ez o1 p hp;have Z:ZC H H1:=o1;refine k p _ (Z.free hp) ?_ (Z.trans (Zc hp));rw [Za,ez,hl,Qb8,Qa3]
   rfl
  have N:∀i,((ks.take i).map (fun k=>V.int ((Zy ks).idxOf k:Int))).length<=sizeLine:=fun i=>by
   rw [Qac,Qby];exact Qa9 (YL (by lia))
  have item:∀(i:Nat) (x:V),(as.map V.ref)[i]?=some x->∃b q,x=.ref b/\as[i]?=some b/\ks[i]?=some q:=fun i x hx=>by
   rw [Qai] at hx;obtain ⟨b,hb,rfl⟩:=Qba.mp hx;have hi:=(Qaf.mp hb).1;exact ⟨b,ks[i]'(by lia),rfl,hb,Qad (by lia)⟩
  rcases ha with ha | ha
  ·refine ⟨a,rfl,.inl ⟨⟨_,SqL.of (D _ _ ha)⟩,XA (K:=K) (a:=a) (xs:=as.map V.ref) (fun i zs H'=>zs=(ks.take i).map (fun k=>V.int ((Zy ks).idxOf k:Int))/\J2 kn H' d (Xs (Zy (ks.take i)))/\∀b o,H b=some o->H' b=some o) ⟨rfl,S,D⟩ (fun i zs H' h=>by rw [h.1];exact N i) (fun i zs H' h=>SqL.of (h.2.2 _ _ ha)) (fun i x zs H1 R hR hx h=>?_) (fun zs H1 h=>?_)⟩⟩
   ·obtain ⟨b,q,rfl,hb,hk⟩:=item i x hx
    refine step i b q H1 _ hb hk h.2.1 h.2.2 fun H2 J L=>hR _ _ ⟨?_,J,L⟩;rw [h.1,take_snoc hk,Qav]
    rfl
   ·rw [Qac] at h
    exact fin zs H1 h.1 h.2.2
  ·refine ⟨a,rfl,.inr ⟨⟨_,SqT.of (D _ _ ha)⟩,XQ (K:=K) (a:=a) (xs:=as.map V.ref) (fun i zs H'=>zs=(ks.take i).map (fun k=>V.int ((Zy ks).idxOf k:Int))/\J2 kn H' d (Xs (Zy (ks.take i)))/\∀b o,H b=some o->H' b=some o) ⟨rfl,S,D⟩ (fun i zs H' h=>by rw [h.1];exact N i) (fun i zs H' h=>SqT.of (h.2.2 _ _ ha)) (fun i x zs H1 R hR hx h=>?_) (fun zs H1 h=>?_)⟩⟩
   ·obtain ⟨b,q,rfl,hb,hk⟩:=item i x hx
    refine step i b q H1 _ hb hk h.2.1 h.2.2 fun H2 J L=>hR _ _ ⟨?_,J,L⟩;rw [h.1,take_snoc hk,Qav]
    rfl
   ·rw [Qac] at h
    exact fin zs H1 h.1 h.2.2
def zW(K:Af):Sp:=fun vs H Q _=>∃(a b:Aw) (q:Aj) (cs:Ak),vs=[.ref a,.ref b]/\H a=some (.tup (q.map fun s:Nat=>V.int (s:Int)))/\H b=some (.lst (cs.map V.int))/\(∀s∈q,s < cs.length)/\q.length<=1000000/\cs.length<=1000000 /\
 ∀p H',H p=none->H' p=some (.tup ((q.map fun s=>cs.getD s 0).map V.int))->ZC H H'->Q (.ref p) H'
theorem Jy (T:Txt K w mg t) (M:Tbs mg base t):Y9 P w K mg base CX0 1 t.lh t.lj ["states","classes"] (zW K):=by
 refine T.aq.F.ok zS (fun vs H Q E h=>?_) (fun J A outer s H vs Q E hr h=>?_)
 ·obtain ⟨a,b,C,cs,rfl,ha,hb,hs,hl,hc,k⟩:=h
  rfl
 ·obtain ⟨a,b,C,cs,rfl,ha,hb,hs,hl,hc,k⟩:=h
  have L:=ZP hr;refine ⟨_,@QSs.out _ _ _ (Ze (Zn (Z8 Z6 (by rfl) T.ao Yw (Zk (YO ({}:ZR (Zg Wr) _ ["states","classes"] "state" ["classes"] [1]) (WG (qv 0)) (fun _ _ _ _=>Xw) (fun _ _ _ _=>(Z4 (show IxR _ (Zjv K) from Zw) (qv 1) (qv 0) (fun _ _=>rfl)))) Zd)))),?_⟩;refine ⟨_,rfl,a,rfl,⟨_,SqT.of ha⟩,uq (xs:=C.map fun s:Nat=>V.int (s:Int)) (fI fun z=>V.int (cs.getD z.toNat 0)) (SqT.of ha) (by rw [Qac];exact Qa9 (YL (by lia))) (fun v hv R hR=>?_) (fun l G=>?_)⟩
  ·obtain ⟨s,D,rfl⟩:=Qau.mp hv
   have q:=hs s D;exact ⟨_,rfl,_,rfl,b,_,_,_,rfl,rfl,SqL.of hb,Xj (by rw [Qai,Qad q];rfl),by
    have e:fI (fun z=>V.int (cs.getD z.toNat 0)) (V.int (s:Int))=V.int cs[s]:=by
     show V.int (cs.getD (s:Int).toNat 0)=_;rw [Qbs,Qaj,Qad q]
     rfl
    rw [e] at hR;exact hR⟩
  ·refine ⟨l,_,rfl,.inl ⟨SqL.of Za,fun p hp=>?_⟩⟩
   have I:=(Zc (o:=.lst ((C.map fun s:Nat=>V.int (s:Int)).map (fI fun z=>V.int (cs.getD z.toNat 0)))) G);refine k p _ (I.free hp) ?_ (I.trans (Zc hp));rw [Za,Qa3,Qa3]
   rfl
def ym(K:Af):Sp:=fun vs H Q _=>∃(a:Aw) (cs:Ak),vs=[.ref a]/\H a=some (.lst (cs.map V.int))/\cs.length<=1000000 /\
 ∀p H',H p=none->H' p=some (.lst ((qE cs 0 []).map fun i:Nat=>V.int (i:Int)))->ZC H H'->Q (.ref p) H'
theorem yn (T:Txt K w mg t) (TB:Tbs mg base t):Y9 P w K mg base CX0 1 t.mm t.mn ["classes"] (ym K):=by
 refine T.da.F.ok X1 (fun vs H Q E h=>?_) (fun Z A outer s H vs Q E hr h=>?_)
 ·obtain ⟨a,cs,rfl,ha,hl,k⟩:=h
  rfl
 ·obtain ⟨a,cs,rfl,ha,hl,k⟩:=h
  have hu:=ZP hr;refine ⟨_,@QSs.out _ _ _ (Zb (Zp (i:=1) X1.nd rfl (Or.inl rfl) (ZQ Zd))
    (Zb (YW Qbv rfl (Zc2 rfl T.og (qv 0)) (yG rfl (Yd (i:=2) X1.nd rfl (Or.inl rfl)) (Yd (i:=3) X1.nd rfl (Or.inl rfl)))
    (Ze (ZF (Zr Yy (qv 3) (Zs Z0 (by rfl) T.ak YA (Zk (qv 1) Zd)) (Z3 _))
    (Ze (Yh (Y4 Qar Qa4 Qa5 ZE (qv 1) (Zk (qv 2) Zd)))) Zx)))
    (Ze (Zn (qv 1))))),?_⟩
  refine L2.let3 ?_;intro U2 U1;refine ⟨by decide,fun p hp=>?_⟩;have S:=Zc (o:=.lst []) hp;refine Zh ?_;refine ⟨_,rfl,a,_,rfl,SqL.of (S _ _ ha),uR (K:=K) (a:=a) (xs:=cs.map V.int) (fun i σ H'=>∃(acc:Aj) (L O:Option V),σ=[some (.ref a),some (.ref p),L,O]/\H' p=some (.lst (acc.map fun i:Nat=>V.int (i:Int)))/\qE cs 0 []=qE (cs.drop i) i acc/\acc.length<=i/\i<=cs.length/\ZC H H') ⟨[],none,none,rfl,Za,rfl,Qag _,Qbc _,S⟩ (fun i σ H' _ ⟨_,_,_,_,_,_,_,_,s⟩=>SqL.of (s _ _ ha)) ?_ ?_⟩
  ·rintro i x σ H1 q hx Y ⟨acc,L,O,rfl,G,hf,M,hi,J⟩
   rw [Qai] at hx;obtain ⟨c,hc,rfl⟩:=Qba.mp hx;have I:i < cs.length:=(Qaf.mp hc).1;have N:=Zc (o:=.tup [.int i,.int c]) Y;have C:=N _ _ G;have D:qE cs 0 []=qE (cs.drop (i + 1)) (i + 1) (if c=(acc.length:Int) then acc++[i] else acc):=by
    rw [hf,Qdn I,(Qaf.mp hc).2]
    rfl
   refine ⟨_,rfl,_,rfl,p,_,rfl,.inl (SqL.of C),rfl,_,rfl,?_⟩;rw [Qac]
   by_cases h:c=(acc.length:Int)
   ·rw [Qa0 h] at D
    rw [Qao (by rw [h])];refine Y3 ⟨_,rfl,.inl ⟨rfl,_,SqL.of C⟩,_,rfl,p,_,_,rfl,rfl,C,by rw [Qac];exact YL (by lia),acc++[i],_,_,rfl,?_,D,by grind,I,ZU (J.trans N) hp⟩;rw [Za,Qav]
    rfl
   ·rw [Qaw h] at D
    rw [Qaq (fun z=>h (by injection z))];exact ZI ⟨acc,_,_,rfl,C,D,by lia,I,J.trans N⟩
  ·rintro σ H1 ⟨acc,L,O,rfl,G,hf,M,hi,J⟩
   rw [Qac,Qf5] at hf;exact ⟨_,rfl,k p H1 hp (by rw [G,hf];rfl) J⟩
def xj(K:Af):Sp:=fun vs H Q _=>∃(y:Str),vs=[.str y]/\Q (.bl (decide (y∈Jo))) H
theorem xk (T:Txt K w mg t) (C:Tbs mg base t):Y9 P w K mg base CX0 1 t.ij t.ik ["text"] (xj K):=by
 refine T.bz.F.ok xc (fun vs H Q E h=>?_) (fun q A outer s H vs Q E hr h=>?_)
 ·obtain ⟨y,rfl,k⟩:=h
  rfl
 ·obtain ⟨y,rfl,k⟩:=h
  have D:=ZP hr;refine ⟨_,@QSs.out _ _ _ (Ze (Zn (YB yI (qv 0) (XN (v:=.ref t.aj) rfl T.aj.m rfl) (by with_unfolding_all rfl)))),?_⟩;refine ⟨_,rfl,t.aj,T1,.inr y,rfl,T.aj.d,rfl,?_⟩;rw [Zev,tw1];exact k
def Gn(K:Af):Sp:=fun vs H Q _=>∃(k:Key),vs=[kV k]/\Q (.bl (clK k)) H
theorem Zby(l:List (Str × Int))(k:Key):(Ye (kvsOf l) k).isSome=(match k with | .inr y=>decide (y∈l.map (·.1)) | .inl _=>false):=by
 cases k with
 | inr y=>exact Zev l y
 | inl z =>
  induction l with
  | nil=>rfl
  | cons p r q =>
   have e:Ye (kvsOf (p::r)) (.inl z)=Ye (kvsOf r) (.inl z):=ZT (p:=((Sum.inr p.1:Key),V.int p.2)) (fun z=>nomatch z);rw [e,q]
theorem Zd7(k:Key):clK k=((Ye (kvsOf T2) k).isSome || (Ye (kvsOf T3) k).isSome):=by
 rw [Zby,Zby];cases k with
 | inl z=>rfl
 | inr y =>
  show decide (y∈Z2)=(decide (y∈T2.map (·.1)) || decide (y∈T3.map (·.1)));have e:Z2=T2.map (·.1)++T3.map (·.1):=by decide +kernel
  rw [e]
  by_cases h1:y∈T2.map (·.1)
  ·grind
  ·grind
theorem Gp (T:Txt K w mg t) (D:Tbs mg base t):Y9 P w K mg base CX0 1 t.ff t.fg ["text"] (Gn K):=by
 refine T.bj.F.ok Gj (fun vs H Q E h=>?_) (fun C A outer s H vs Q E hr h=>?_)
 ·obtain ⟨q,rfl,k⟩:=h
  rfl
 ·obtain ⟨q,rfl,k⟩:=h
  have G:=ZP hr;refine ⟨_,@QSs.out _ _ _ (Ze (Zn (Zf1 (YB yI (qv 0) (XN (v:=.ref t.ag) rfl T.ag.m rfl) (by with_unfolding_all rfl)) (GO (YB yI (qv 0) (XN (v:=.ref t.aa) rfl T.aa.m rfl) (by with_unfolding_all rfl)))))),?_⟩;rw [Zd7] at k;refine ⟨_,rfl,t.ag,T2,q,rfl,T.ag.d,rfl,_,rfl,?_⟩;cases h:(Ye (kvsOf T2) q).isSome with
  | true =>
   rw [h] at k;exact Y3 k
  | false =>
   rw [h] at k;exact ZI ⟨_,rfl,t.aa,T3,q,rfl,T.aa.d,rfl,k⟩
def xl(K:Af):Sp:=fun vs H Q _=>∃(k:Key),vs=[kV k]/\Q (.int (WS T1 k + WS T2 k)) H
theorem xm (T:Txt K w mg t) (D:Tbs mg base t):Y9 P w K mg base CX0 1 t.il t.ip ["word"] (xl K):=by
 refine T.cb.F.ok xf (fun vs H Q E h=>?_) (fun C A outer s H vs Q E hr h=>?_)
 ·obtain ⟨q,rfl,k⟩:=h
  rfl
 ·obtain ⟨q,rfl,k⟩:=h
  have G:=ZP hr;refine ⟨_,@QSs.out _ _ _ (Ze (Zn (Zo Y1 (yJ (XN (v:=.ref t.aj) rfl T.aj.m rfl) (qv 0) Zf) (yJ (XN (v:=.ref t.ag) rfl T.ag.m rfl) (qv 0) Zf)))),?_⟩;refine ⟨t.aj,T1,rfl,T.aj.d,_,rfl,q,rfl,t.ag,T2,rfl,T.ag.d,_,rfl,q,rfl,?_⟩;rw [kget,kget];exact ⟨_,_,rfl,rfl,k⟩
def Gq(K:Af):Sp:=fun vs H Q _=>∃(k:Key),vs=[kV k]/\Q (.int (WS T3 k)) H
theorem Gr (T:Txt K w mg t) (D:Tbs mg base t):Y9 P w K mg base CX0 1 t.fh t.fi ["word"] (Gq K):=by
 refine T.bp.F.ok Gk (fun vs H Q E h=>?_) (fun C A outer s H vs Q E hr h=>?_)
 ·obtain ⟨q,rfl,k⟩:=h
  rfl
 ·obtain ⟨q,rfl,k⟩:=h
  have G:=ZP hr;refine ⟨_,@QSs.out _ _ _ (Ze (Zn (yJ (XN (v:=.ref t.aa) rfl T.aa.m rfl) (qv 0) Zf))),?_⟩;refine ⟨t.aa,T3,rfl,T.aa.d,_,rfl,q,rfl,?_⟩;rw [kget];exact k
def zX(K:Af):Sp:=fun vs H Q _=>∃(y q:Str),vs=[.str y,.str q]/\y.length<=100000/\∀H',ZC H H'->Q (.bl (decide (xQ y q))) H'
theorem zY (T:Txt K w mg t) (L:Tbs mg base t):Y9 P w K mg base CX0 1 t.lq t.lr ["text","signs"] (zX K):=by
 refine T.cu.F.ok zT (fun vs H Q E h=>?_) (fun I A outer s H vs Q E hr h=>?_)
 ·obtain ⟨y,q,rfl,hl,k⟩:=h
  rfl
 ·obtain ⟨y,q,rfl,hl,k⟩:=h
  have J:=ZP hr;refine ⟨_,@QSs.out _ _ _ (Ze (Zn (vL (YB Zis (qv 0) Zi (Z3 _)) (GO (Zs (uo rfl) (by rfl) T.vb bt_all (Zk (YO ({}:ZR (Zg Wu) _ ["text","signs"] "sign" ["signs"] [1]) (qi_str (qv 0)) (fun _ _ _ _=>Xw) (fun _ _ _ _=>(YB gO (qv 0) (qv 1) (by with_unfolding_all rfl)))) Zd)))))),?_⟩;refine ⟨_,rfl,rfl,_,rfl,?_⟩
  by_cases D:y.cps.toList=[]
  ·have e:=ql.mp D
   subst e;refine ZI ?_;have e2:decide (xQ ("" : Str) q)=false:=Qaq fun z=>z.1 (ql.mpr rfl);have:=k H (ZC.refl H);exact this
  have G:¬V.str y=V.str ("" : Str):=fun z=>D (ql.mpr (by injection z));rw [Qaq G];refine Y3 ?_;refine ⟨_,rfl,y,rfl,Zcr (fun c=>.bl (decide (c∈q.cps.toList))) (Qaz (show y.length<=100000 from hl) (by decide)) (fun c _ R hR=>?_) (fun l C=>?_)⟩
  ·refine ⟨_,rfl,_,rfl,_,_,rfl,rfl,?_⟩
   rw [Zg5];exact hR
  have e1:(y.cps.toList.map fun c=>V.bl (decide (c∈q.cps.toList)))=(y.cps.toList.map fun c=>decide (c∈q.cps.toList)).map V.bl:=by rw [Qa3];rfl
  rw [e1];refine ⟨l,_,rfl,SqL.of Za,?_⟩;rw [all_bs];have e2:decide (xQ y q)=decide (∀c∈y.cps.toList,decide (c∈q.cps.toList)=true):=by
   rw [Qfl,Qer,Qer]
   constructor
   ·intro z c hc
    exact Qao (z.2 c hc)
   ·intro z
    exact ⟨D,fun c hc=>Qbi (z c hc)⟩
  rw [<-e2];exact k _ (Zc C)
def yo(K:Af):Sp:=fun vs H Q _=>∃x:V,vs=[x]/\Xc x=true/\Q (.bl (inV x (allR.map V.str))) H
theorem Gd (T:Txt K w mg t) (D:Tbs mg base t):Y9 P w K mg base CX0 1 t.mq t.mr ["word"] (yo K):=by
 refine T.aw.F.ok yh (fun vs H Q E h=>?_) (fun q A outer s H vs Q E hr h=>?_)
 ·obtain ⟨x,rfl,hx,k⟩:=h
  rfl
 ·obtain ⟨x,rfl,hx,k⟩:=h
  have C:=ZP hr;refine ⟨_,@QSs.out _ _ _ (Ze (Zn (YB Yc (qv 0) (XN (v:=.ref t.ba) rfl T.ba.m rfl) (by with_unfolding_all rfl)))),?_⟩;exact ⟨_,rfl,t.ba,_,rfl,.inr (T.ba.d H),hx,Zah _,k⟩
def vy(K:Af):Sp:=fun vs H Q _=>∃(a b h:Int),vs=[.int a,.int b,.int h]/\Q (.int (Zjm a b h)) H
theorem qN (T:Txt K w mg t) (D:Tbs mg base t):Y9 P w K mg base CX0 1 t.ov t.ow ["one","other","held"] (vy K):=by
 refine T.ay.F.ok vo (fun vs H Q E h=>?_) (fun q A outer s H vs Q E hr h=>?_)
 ·obtain ⟨a,b,h,rfl,k⟩:=h
  rfl
 ·obtain ⟨a,b,h,rfl,k⟩:=h
  have C:=ZP hr;refine ⟨_,@QSs.out _ _ _ (Ze (Zn (Zo qS (Zo Xb (Ge GF (qv 0)) (qv 1)) (Zo Xb (qv 2) (Ge GF (Zo GD (qv 0) (qv 1))))))),?_⟩;exact ⟨_,rfl,_,rfl,_,rfl,_,_,rfl,rfl,_,rfl,_,rfl,_,rfl,_,_,rfl,rfl,_,rfl,_,_,rfl,rfl,_,_,rfl,rfl,k⟩
def xn(K:Af):Sp:=fun vs H Q _=>∃(y:Str) (p:Aw) (is:Ak),vs=[.str y,.ref p]/\H p=some (.lst (is.map V.int))/\y∈Zaq/\is.length=Zao y/\∀H',ZC H H'->Q (.int (oaI y is)) H'
theorem xo (T:Txt K w mg t) (TB:Tbs mg base t):Y9 P w K mg base CX0 1 t.iq t.ir ["word","parts"] (xn K):=by
 refine T.cc.F.ok xg (fun vs H Q E h=>?_) (fun cdv A outer s H vs Q E hr h=>?_)
 ·obtain ⟨y,p,is,rfl,hp,hy,hl,k⟩:=h
  rfl
 ·obtain ⟨y,p,is,rfl,hp,hy,hl,k⟩:=h
  have hu:=ZP hr;refine ⟨_,@QSs.out _ _ _ (Zb (ZF (Zr Yy (qv 0) Zi (Z3 _))
    (Ze (Zn (Ge ji Zf))) Zx)
    (Zb (ZF (Zr Yy (qv 0) Zi (Z3 _))
    (Ze (Zn (Z4 Zw (qv 1) Zf (fun _ _=>rfl)))) Zx)
    (Zb (ZF (Zr Yc (qv 0) (Yj (Zk Zi (Zk Zi Zd))) (by with_unfolding_all rfl))
    (Ze (Zn (Ge GF (Z4 Zw (qv 1) Zf (fun _ _=>rfl))))) Zx)
    (Zb (ZF (Zr Yc (qv 0) (Yj (Zk Zi (Zk Zi Zd))) (by with_unfolding_all rfl))
    (Ze (Zn (Zo Xb (Z4 Zw (qv 1) Zf (fun _ _=>rfl)) (Z4 Zw (qv 1) Zf (fun _ _=>rfl))))) Zx)
    (Zb (ZF (Zr Yc (qv 0) (Yj (Zk Zi (Zk Zi Zd))) (by with_unfolding_all rfl))
    (Ze (Zn (Zo qS (Z4 Zw (qv 1) Zf (fun _ _=>rfl)) (Z4 Zw (qv 1) Zf (fun _ _=>rfl))))) Zx)
    (Zb (ZF (Zr Yy (qv 0) Zi (Z3 _))
    (Ze (Zn (Zo GD (Z4 Zw (qv 1) Zf (fun _ _=>rfl)) (Z4 Zw (qv 1) Zf (fun _ _=>rfl))))) Zx)
    (Zb (ZF (Zr Yy (qv 0) Zi (Z3 _))
    (Ze (Zn (Zo qS (Ge GF (Z4 Zw (qv 1) Zf (fun _ _=>rfl))) (Z4 Zw (qv 1) Zf (fun _ _=>rfl))))) Zx)
    (Ze (Zn (Zo qS (Zo Xb (Z4 Zw (qv 1) Zf (fun _ _=>rfl)) (Z4 Zw (qv 1) Zf (fun _ _=>rfl))) (Zo Xb (Ge GF (Z4 Zw (qv 1) Zf (fun _ _=>rfl))) (Z4 Zw (qv 1) Zf (fun _ _=>rfl))))))))))))),?_⟩
  clear hu;refine L2.let8 ?_;intro U7 U6 U5 U4 U3 U2 U1;unfold oaI at k;refine ⟨_,rfl,rfl,_,rfl,?_⟩
  by_cases h1:y = "yes"
  ·rw [Qao (congrArg V.str h1)]
   rw [Qa0 h1] at k;refine Y3 ?_;exact ⟨_,rfl,k H (ZC.refl _)⟩
  rw [Qaq (fun z=>h1 (by injection z))];rw [Qaw h1] at k;refine ZI ⟨_,rfl,rfl,_,rfl,?_⟩
  by_cases h2:y = "sign"
  ·rw [Qao (congrArg V.str h2)]
   rw [Qa0 h2] at k;refine Y3 ?_;exact ⟨_,rfl,p,_,0,_,rfl,rfl,SqL.of hp,Z9 0 rfl (qx hl (by rw [h2];decide +kernel)),k H (ZC.refl _)⟩
  rw [Qaq (fun z=>h2 (by injection z))];rw [Qaw h2] at k;refine ZI ⟨_,rfl,by decide,fun q hq=>⟨q,_,rfl,.inr (SqT.of Za),rfl,rfl,_,rfl,?_⟩⟩;show if inV (.str y) ((["not","never"]:Ai).map V.str)=true then _ else _;rw [ZA];have G:=Zc (o:=.tup [.str "not",.str "never"]) hq;have pq:=G _ _ hp;generalize upd H q (.tup [.str "not",.str "never"])=H1 at *
  by_cases N:y = "not" \/ y = "never"
  ·rw [Qao (by simp only [Qam,Qa7,Qdl];exact N)]
   rw [Qa0 N] at k;refine Y3 ?_;exact ⟨_,rfl,p,_,0,_,rfl,rfl,SqL.of pq,Z9 0 rfl (qx hl (by rcases N with h | h <;> rw [h] <;> decide +kernel)),_,rfl,k H1 G⟩
  rw [Qaq (by simp only [Qam,Qa7,Qdl];exact N)];rw [Qaw N] at k;refine ZI ⟨_,rfl,by decide,fun r hr=>⟨r,_,rfl,.inr (SqT.of Za),rfl,rfl,_,rfl,?_⟩⟩;show if inV (.str y) ((["and","both"]:Ai).map V.str)=true then _ else _;rw [ZA];have L:=Zc (o:=.tup [.str "and",.str "both"]) hr;have Z:=L _ _ pq;generalize upd H1 r (.tup [.str "and",.str "both"])=H2 at *
  by_cases M:y = "and" \/ y = "both"
  ·rw [Qao (by simp only [Qam,Qa7,Qdl];exact M)]
   rw [Qa0 M] at k;refine Y3 ?_;have l2:2<=is.length:=qx hl (by rcases M with h | h <;> rw [h] <;> decide +kernel);exact ⟨_,rfl,p,_,0,_,rfl,rfl,SqL.of Z,Z9 0 rfl (by lia),_,rfl,p,_,1,_,rfl,rfl,SqL.of Z,Z9 1 rfl l2,_,_,rfl,rfl,k H2 (G.trans L)⟩
  rw [Qaq (by simp only [Qam,Qa7,Qdl];exact M)];rw [Qaw M] at k;refine ZI ⟨_,rfl,by decide,fun t1 Y=>⟨t1,_,rfl,.inr (SqT.of Za),rfl,rfl,_,rfl,?_⟩⟩;show if inV (.str y) ((["or","either"]:Ai).map V.str)=true then _ else _;rw [ZA];have D:=Zc (o:=.tup [.str "or",.str "either"]) Y;have C:=D _ _ Z;generalize upd H2 t1 (.tup [.str "or",.str "either"])=S at *
  by_cases O:y = "or" \/ y = "either"
  ·rw [Qao (by simp only [Qam,Qa7,Qdl];exact O)]
   rw [Qa0 O] at k;refine Y3 ?_;have l2:2<=is.length:=qx hl (by rcases O with h | h <;> rw [h] <;> decide +kernel);exact ⟨_,rfl,p,_,0,_,rfl,rfl,SqL.of C,Z9 0 rfl (by lia),_,rfl,p,_,1,_,rfl,rfl,SqL.of C,Z9 1 rfl l2,_,_,rfl,rfl,k S ((G.trans L).trans D)⟩
  rw [Qaq (by simp only [Qam,Qa7,Qdl];exact O)];rw [Qaw O] at k;refine ZI ⟨_,rfl,rfl,_,rfl,?_⟩
  by_cases I:y = "odd"
  ·rw [Qao (congrArg V.str I)]
   rw [Qa0 I] at k;refine Y3 ?_;have l2:2<=is.length:=qx hl (by rw [I];decide +kernel);exact ⟨_,rfl,p,_,0,_,rfl,rfl,SqL.of C,Z9 0 rfl (by lia),_,rfl,p,_,1,_,rfl,rfl,SqL.of C,Z9 1 rfl l2,_,_,rfl,rfl,k S ((G.trans L).trans D)⟩
  rw [Qaq (fun z=>I (by injection z))];rw [Qaw I] at k;refine ZI ⟨_,rfl,rfl,_,rfl,?_⟩
  by_cases J:y = "so"
  ·rw [Qao (congrArg V.str J)]
   rw [Qa0 J] at k;refine Y3 ?_;have l2:2<=is.length:=qx hl (by rw [J];decide +kernel);exact ⟨_,rfl,p,_,0,_,rfl,rfl,SqL.of C,Z9 0 rfl (by lia),_,rfl,_,rfl,p,_,1,_,rfl,rfl,SqL.of C,Z9 1 rfl l2,_,_,rfl,rfl,k S ((G.trans L).trans D)⟩
  rw [Qaq (fun z=>J (by injection z))];rw [Qaw J] at k;have l3:3<=is.length:=qx hl (wM y hy h1 h2 N M O I J);exact ZI ⟨_,rfl,p,_,0,_,rfl,rfl,SqL.of C,Z9 0 rfl (by lia),_,rfl,p,_,1,_,rfl,rfl,SqL.of C,Z9 1 rfl (by lia),_,_,rfl,rfl,_,rfl,p,_,0,_,rfl,rfl,SqL.of C,Z9 0 rfl (by lia),_,rfl,_,rfl,p,_,2,_,rfl,rfl,SqL.of C,Z9 2 rfl l3,_,_,rfl,rfl,_,_,rfl,rfl,k S ((G.trans L).trans D)⟩
def JM(K:Af):Sp:=fun vs H Q _=>∃(tw:Aw) (q:A2),vs=[.ref tw]/\H tw=some (.tup q)/\q.length<=1000/\(∀w∈q,(∃y,w=.str y)\/∃z:Int,w=.int z) /\
 ∀(L:Nat) H',(∀z:Int,V.int z∈q->Builtin.Int.intBits z<=L)->(L=0\/∃z:Int,V.int z∈q/\L=Builtin.Int.intBits z)->ZC H H'->Q (.int (L:Int)) H'
theorem JN (T:Txt K w mg t) (L:Tbs mg base t):Y9 P w K mg base CX0 1 t.ee t.eh ["words"] (JM K):=by
 refine T.bb.F.ok JK (fun vs H Q E h=>?_) (fun I A outer s H vs Q E hr h=>?_)
 ·obtain ⟨tw,q,rfl,C,hl,hw,k⟩:=h
  rfl
 ·obtain ⟨tw,q,rfl,C,hl,hw,k⟩:=h
  have J:=ZP hr;refine ⟨_,@QSs.out _ _ _ (Ze (Zn (Zgy rfl rfl T.pk (YO ({}:ZR (Zg Xa) _ ["words"] "word" [] []) (WG (qv 0)) (fun _ _ _ _=>(vM (Xv (Zs (show YM _ (.builtin "isinstance") (Zjx K) from XJ) (by rfl) T.au Yg (Zk (qv 0) (Zk (WO (v:=.ty "int") (by rfl) T.dz GK rfl) Zd)))))) (fun _ _ _ _=>(show QE _ _ (Zjw K "int" Zjb (jf 0)) from (WH PySem.F.plainAttrs_int PySem.F.slot_int_bit_length PySem.F.type_int_bit_length Zgz (qv 0))))) Zf))),?_⟩;refine ⟨_,rfl,tw,rfl,⟨_,SqT.of C⟩,XQ (K:=K) (a:=tw) (xs:=q) (fun i zs H'=>zs=(Ju (q.take i)).map V.int/\H'=H) ⟨rfl,rfl⟩ (fun i zs H' h=>?_) (fun i zs H' h=>by rw [h.2];exact SqT.of C) (fun i x zs H1 R hR hx h=>?_) (fun zs H1 h p hp=>?_)⟩
  ·rw [h.1,Qac]
   have:=jU (q.take i);rw [Qby] at this;exact Qa9 (Z1 (by lia))
  ·obtain ⟨rfl,rfl⟩:=h
   rcases hw x (Qas hx) with ⟨y,rfl⟩ | ⟨z,rfl⟩
   ·refine ⟨_,rfl,_,_,_,_,rfl,.str y,Xl,_,rfl,ZI (hR _ _ ⟨?_,rfl⟩)⟩
    rw [take_snoc hx,qA];exact congrArg (List.map V.int) (Qb4 _).symm
   ·refine ⟨_,rfl,_,_,_,_,rfl,.int z,XM,_,rfl,Y3 ⟨_,rfl,rfl,z,rfl,rfl,hR _ _ ⟨?_,rfl⟩⟩⟩
    rw [take_snoc hx,qA,Qav]
    rfl
  ·obtain ⟨rfl,rfl⟩:=h
   have sp:=Zc (o:=.lst ((Ju (q.take q.length)).map V.int)) hp;refine ⟨p,Ju (q.take q.length),rfl,SqL.of Za,fun e=>?_,fun m hm hx=>?_⟩
   ·rw [Qb8] at e
    refine k 0 _ (fun z D=>?_) (.inl rfl) sp;have:=qB D;rw [e] at this;cases this
   ·rw [Qb8] at hm hx
    obtain ⟨z,D,rfl⟩:=kD hm;exact k _ _ (fun y G=>Int.ofNat_le.mp (hx _ (qB G))) (.inr ⟨z,D,rfl⟩) sp
def gq(K:Af):Sp:=fun vs H Q _=>∃(p:Aw) (cs:Ak) (l:Nat),vs=[.ref p,.int (l:Int)]/\H p=some (.lst (cs.map V.int))/\cs.length<=1000/\l<=100/\∀t H',H t=none->H' t=some (.tup ((cs.map fun c=>bt c l).map V.int))->ZC H H'->Q (.ref t) H'
theorem gr (T:Txt K w mg t) (M:Tbs mg base t):Y9 P w K mg base CX0 1 t.qs t.rd ["columns","letter"] (gq K):=by
 refine T.du.F.ok gn (fun vs H Q E h=>?_) (fun J A outer s H vs Q E hr h=>?_)
 ·obtain ⟨p,cs,l,rfl,hp,hl,C,k⟩:=h
  rfl
 ·obtain ⟨p,cs,l,rfl,hp,hl,C,k⟩:=h
  have L:=ZP hr;refine ⟨_,@QSs.out _ _ _ (Ze (Zn (Z8 Z6 (by rfl) T.ao Yw (Zk (YO ({}:ZR (Zg qd) _ ["columns","letter"] "column" ["letter"] [1]) (Xm (qv 0)) (fun _ _ _ _=>Xw) (fun _ _ _ _=>(Zo Xb (Zo vI (qv 0) (qv 1)) Zf))) Zd)))),?_⟩;refine ⟨_,rfl,p,rfl,⟨_,SqL.of hp⟩,comp_map (xs:=cs.map V.int) (fI fun c=>V.int (bt c l)) (SqL.of hp) (by rw [Qac];exact Qa9 (Z1 (by lia))) (fun v hv R hR=>?_) (fun q I=>?_)⟩
  ·obtain ⟨c,_,rfl⟩:=Qau.mp hv
   refine ⟨_,rfl,_,rfl,_,_,rfl,rfl,Qdc l,_,_,rfl,rfl,?_⟩;have e:fI (fun c=>V.int (bt c l)) (V.int c)=V.int (Builtin.bitAnd (c / 2 ^ (l:Int).toNat) 1):=by
    rw [and_1,Qbs]
    rfl
   rw [e] at hR;exact hR
  ·refine ⟨q,_,rfl,.inl ⟨SqL.of Za,fun t D=>?_⟩⟩
   have G:=Zc (o:=.lst ((cs.map V.int).map (fI fun c=>V.int (bt c l)))) I;refine k t _ (G.free D) ?_ (G.trans (Zc D));rw [Za,Qa3,Qa3]
   rfl
def xp(K:Af):Sp:=fun vs H Q _=>∃(d ps:Aw) (kvs:List (Nat × Nat)) (nx:Ad),vs=[.ref d,.ref ps]/\Rd H d (.dK (dW kvs))/\We H ps (nx.map JZ)/\(∀q∈kvs,q.1 < nx.length)/\(∀r∈nx,∀s∈r,s < nx.length)/\nx.length<=1000000/\∀o p (C:List (Nat × Nat)) H',H p=none->H' p=some (.dK (dW C))->(∀F,wsum C F=wsum kvs fun s=>((nx.getD s []).map F).sum)->(C.map (·.1)).Nodup->(∀q∈C,q.1 < nx.length)->ZC (upd H d (.frz o (.dK (dW kvs)))) H'->Q (.ref p) H'
theorem xq (T:Txt K w mg t) (TB:Tbs mg base t):Y9 P w K mg base CX0 1 t.iu t.iw ["ways","steps"] (xp K):=by
 refine T.cf.F.ok Y2 (fun vs H Q E h=>?_) (fun cdv A outer s H vs Q E hr h=>?_)
 ·obtain ⟨d,ps,kvs,nx,rfl,hd,R,hlt,hnx,L,k⟩:=h
  rfl
 ·obtain ⟨d,ps,kvs,nx,rfl,hd,R,hlt,hnx,L,k⟩:=h
  have hu:=ZP hr;refine ⟨_,@QSs.out _ _ _ (Zb (Zp (i:=2) Y2.nd rfl (Or.inl rfl) GR)
    (Zb (YW Qbv rfl (km (qv 0)) (yG rfl (Yd (i:=3) Y2.nd rfl (Or.inl rfl)) (Yd (i:=4) Y2.nd rfl (Or.inl rfl)))
    (Ze (YW Qbv rfl (WG (Z4 Yb (qv 1) (qv 3) (fun _ _=>rfl))) (Yd (i:=5) Y2.nd rfl (Or.inl rfl))
    (Ze (GS hu (qv 2) (qv 5) (Zo Y1 (Y4 PySem.F.plainAttrs_dict Qf3 PySem.F.type_dict_get Zg1 (qv 2) (Zk (qv 5) (Zk Zf Zd))) (qv 4)) rfl)))))
    (Ze (Zn (qv 2))))),?_⟩
  refine L2.let3 ?_;intro U2 U1;refine fun on D=>Zh ?_;have hdo:d≠on:=fun z=>by rw [z] at hd;rcases hd with e | ⟨_,e⟩ <;> rw [D] at e <;> cases e
  have s1:=Zc (o:=.dK []) D;refine ⟨_,rfl,d,_,rfl,Zav hd s1,fun o=>?_⟩;have R0:We (upd (upd H on (.dK [])) d (.frz o (.dK (dW kvs)))) ps (nx.map JZ):=by
   obtain ⟨as,h1,h2,I⟩:=R.same s1;have nd:∀{b:Aw} {xs:A2},upd H on (.dK []) b=some (.tup xs)->upd (upd H on (.dK [])) d (.frz o (.dK (dW kvs))) b=some (.tup xs):=fun {b xs} e=>by
    rw [Zj (fun z=>by rw [z] at e;rcases Zav hd s1 with z | ⟨_,z⟩ <;> rw [e] at z <;> cases z)];exact e
   refine ⟨as,nd h1,h2,fun i r hr=>?_⟩;obtain ⟨a,g1,g2⟩:=I i r hr;exact ⟨a,g1,nd g2⟩
  have Z:upd (upd H on (.dK [])) d (.frz o (.dK (dW kvs))) on=some (.dK (dW [])):=by rw [Zj hdo.symm,Za];rfl
  have hd1:upd (upd H on (.dK [])) d (.frz o (.dK (dW kvs))) d=some (.frz o (.dK (dW kvs))):=Za;have s0:ZC (upd H d (.frz o (.dK (dW kvs)))) (upd (upd H on (.dK [])) d (.frz o (.dK (dW kvs)))):=fun b u e=>by
   by_cases hb:b=d
   ·rw [hb,Za] at e ⊢
    exact e
   ·rw [Zj hb] at e ⊢
    exact s1 _ _ e
  have Y:upd H d (.frz o (.dK (dW kvs))) on=none:=by rw [Zj hdo.symm];exact D
  have dl:=kR kvs;refine Zad (K:=K) (a:=d) (o:=o) (kvs:=dW kvs) (fun i σ H'=>∃(k1:List (Nat × Nat)) (u3 u4 G:Option V),σ=[some (.ref d),some (.ref ps),some (.ref on),u3,u4,G]/\H' on=some (.dK (dW k1))/\(∀F,wsum k1 F=wsum (kvs.take i) fun s=>((nx.getD s []).map F).sum)/\(k1.map (·.1)).Nodup/\(∀q∈k1,q.1 < nx.length)/\We H' ps (nx.map JZ)/\H' d=some (.frz o (.dK (dW kvs)))/\ZC (upd H d (.frz o (.dK (dW kvs)))) H') ⟨[],none,none,none,rfl,Z,fun F=>rfl,Qci,(fun _ z=>nomatch z),R0,hd1,s0⟩ (fun i σ H' _ ⟨_,_,_,_,_,_,_,_,_,_,h,_⟩=>h) ?_ ?_
  ·rintro i q0 σ H1 p N hp ⟨k1,u3,u4,G,rfl,h1,w1,n1,l1,R1,f1,s2⟩
   obtain ⟨q,O,rfl⟩:∃q,kvs[i]?=some q/\((Sum.inl (q.1:Int):Key),V.int (q.2:Int))=q0:=by
    unfold dW at N;rw [Qai] at N;exact Qba.mp N
   have hqm:=Qas O;have M:=hlt q hqm;have S:=Zc (o:=.tup [kV (.inl (q.1:Int)),.int (q.2:Int)]) hp;obtain ⟨as,g1,g2,g3⟩:=R1.same S;obtain ⟨ra,g4,g5⟩:=g3 q.1 (JZ nx[q.1]) (by rw [Qai,Qad M];rfl);have R2:=R1.same S;have h2:=S _ _ h1;have f2:=S _ _ f1;have s4:=s2.trans S;have hgd:nx.getD q.1 []=nx[q.1]:=by rw [Qaj,Qad M];rfl
   refine ⟨_,rfl,_,rfl,ps,_,_,_,rfl,rfl,SqT.of g1,Xj g4,ra,rfl,⟨_,SqT.of g5⟩,?_⟩;refine gI (K:=K) (a:=ra) (xs:=JZ nx[q.1]) (fun j σ H'=>∃(k2:List (Nat × Nat)) (G:Option V),σ=[some (.ref d),some (.ref ps),some (.ref on),some (.int (q.1:Int)),some (.int (q.2:Int)),G]/\H' on=some (.dK (dW k2))/\(∀F,wsum k2 F=wsum k1 F + q.2 * ((nx[q.1].take j).map F).sum)/\(k2.map (·.1)).Nodup/\(∀q∈k2,q.1 < nx.length)/\We H' ps (nx.map JZ)/\H' d=some (.frz o (.dK (dW kvs)))/\H' ra=some (.tup (JZ nx[q.1]))/\ZC (upd H d (.frz o (.dK (dW kvs)))) H') ⟨k1,G,rfl,h2,fun F=>by rfl,n1,l1,R2,f2,g5,s4⟩ (fun i σ H' _ ⟨_,_,_,_,_,_,_,_,_,h,_⟩=>SqT.of h) ?_ ?_
   ·rintro j x σ H3 hx ⟨k2,G,rfl,I,w3,n3,l3,R3,f3,t3,s5⟩
    unfold JZ at hx;rw [Qai] at hx;obtain ⟨y,hy,rfl⟩:=Qba.mp hx;have hyn:y < nx.length:=hnx _ (Qbm M) y (Qas hy);have kl:k2.length<=1000000:=Qaz (by
     have:=Zbt n3 fun x hx=>by
      obtain ⟨q,N,rfl⟩:=Qau.mp hx;exact l3 q N
     rwa [Qac] at this) L
    refine Zh ⟨_,rfl,.inr (.inr (.inl ⟨rfl,.inl ⟨_,I⟩⟩)),_,rfl,on,.inl (y:Int),.int 0,_,rfl,rfl,.inl I,?_⟩;rw [Zfb];refine ⟨_,rfl,_,_,rfl,rfl,_,rfl,_,rfl,on,_,rfl,Zcl.k (k:=.inl (y:Int)) I (by rw [kR];exact YL (by lia)),?_⟩;have J:=Zfc (s:=y) (t:=q.2) n3;rw [Qgm] at J;rw [J];have C:∀{b:Aw} {u:HO},H3 b=some u->(∀kv,u≠.dK kv)->upd H3 on (.dK (dW (addW k2 y q.2))) b=some u:=fun {b u} e hu=>by
     rw [Zj (X4 e I (hu _))];exact e
    refine ⟨addW k2 y q.2,_,rfl,Za,fun F=>?_,Zbs n3,fun z hz=>?_,?_,C f3 (fun _ z=>nomatch z),C t3 (fun _ z=>nomatch z),ZU s5 Y⟩
    ·rw [kQ,w3,take_snoc hy,Qav,Qe2]
     show _=_ + q.2 * (_ + [F y].sum);rw [Qes,Nat.mul_add,Qg7]
    ·rcases qH (Qau.mpr ⟨z,hz,rfl⟩) with h | h
     ·obtain ⟨z',h1,h2⟩:=Qau.mp h
      rw [<-h2];exact l3 z' h1
     ·rw [h]
      exact hyn
    ·obtain ⟨as,e1,e2,e3⟩:=R3
     refine ⟨as,C e1 (fun _ z=>nomatch z),e2,fun i r hr=>?_⟩;obtain ⟨a,e4,e5⟩:=e3 i r hr;exact ⟨a,e4,C e5 (fun _ z=>nomatch z)⟩
   ·rintro σ H3 ⟨k2,G,rfl,I,w3,n3,l3,R3,f3,t3,s5⟩
    refine ⟨k2,_,_,_,rfl,I,fun F=>?_,n3,l3,R3,f3,s5⟩;have e:(JZ nx[q.1]).length=nx[q.1].length:=Qac ..;rw [w3,e,Qb8,w1,take_snoc O];unfold wsum;rw [Qav,Qe2];show _=_ + [q.2 * _].sum;rw [Qes,<-hgd]
  ·rintro σ H1 ⟨k1,u3,u4,G,rfl,h1,w1,n1,l1,R1,f1,s2⟩
   rw [dl,Qb8] at w1;exact ⟨_,rfl,k o on k1 H1 D h1 w1 n1 l1 s2⟩
def yp(K:Af):Sp:=fun vs H Q _=>∃(a:Int),vs=[.int a]/\Q (.bl true) H
theorem yq (T:Txt K w mg t) (C:Tbs mg base t):Y9 P w K mg base CX0 1 t.mw t.my ["found"] (yp K):=by
 refine T.dc.F.ok yi (fun vs H Q E h=>?_) (fun q A outer s H vs Q E hr h=>?_)
 ·obtain ⟨a,rfl,k⟩:=h
  rfl
 ·obtain ⟨a,rfl,k⟩:=h
  have D:=ZP hr;refine ⟨_,@QSs.out _ _ _ (Ze (Zn (vL (Zs XJ (by rfl) T.au Yg (Zk (qv 0) (Zk (WO (v:=.ty "int") (by rfl) T.dz GK rfl) Zd))) (GO (uf (Zs XJ (by rfl) T.au Yg (Zk (qv 0) (Zk (WO (v:=.ty "bool") (by rfl) T.tj Zf0 rfl) Zd)))))))),?_⟩;exact ⟨_,rfl,_,_,_,_,rfl,.int a,XM,true,rfl,Y3 ⟨_,rfl,_,_,_,_,rfl,.int a,jt,false,rfl,k⟩⟩
def zZ(K:Af):Sp:=fun vs H Q _=>∃(a:Aw) (q:Ak) (k:Nat),vs=[.ref a,.int (k:Int)]/\SqL K H a (q.map V.int)/\q.length<=63/\k<=1000/\∀(r:Int) H',0<=r->r < 1000000->ZC H H'->Q (.int r) H'
theorem XY (T:Txt K w mg t) (TB:Tbs mg base t):Y9 P w K mg base CX0 1 t.lu t.lx ["script","k"] (zZ K):=by
 refine T.ah.F.ok ZM (fun vs H Q E h=>?_) (fun cdv A outer s H vs Q E hr h=>?_)
 ·obtain ⟨a,q,C,rfl,Y,h63,hk,k⟩:=h
  rfl
 ·obtain ⟨a,q,C,rfl,Y,h63,hk,k⟩:=h
  have hu:=ZP hr;refine ⟨_,@QSs.out _ _ _ (Zb (Zp (i:=2) ZM.nd rfl (Or.inl rfl) (Zo Zei (Z8 jr (by rfl) T.ry ue (Zk (qv 0) Zd)) (ZQ (Zk Zf Zd))))
    (Zb (Zp (i:=3) ZM.nd rfl (Or.inl rfl) (Zs (gP rfl) (by rfl) T.pk vP (Zk Zf (Zk (Zs Z0 (by rfl) T.ak YA (Zk (qv 0) Zd)) Zd))))
    (Zb (Zp (i:=4) ZM.nd rfl (Or.inl rfl) (Z4 Zw (qv 2) (Zo Ya (qv 1) (qv 3)) (fun _ _=>rfl)))
    (Zb (Zp (i:=5) ZM.nd rfl (Or.inl rfl) (Zo Yp (qv 1) (qv 3)))
    (Zb (ZF (Zr Ziu (qv 4) (Zo op_pow Zf Zf) (Z3 _))
    (Zb (YW Qbv rfl (Xn rfl T.bh (Zk (Zs (jj rfl) (by rfl) T.si Zeo (Zk (qv 5) (Zk Zf Zd))) Zd)) (Yd (i:=6) ZM.nd rfl (Or.inl rfl))
    (Ze (Zp (i:=4) ZM.nd rfl (Or.inl rfl) (Zo Yp (qv 4) Zf))))
    (Ze (Zn (Zo Ya (qv 4) Zf)))) Zx)
    (Zb (Zp (i:=7) ZM.nd rfl (Or.inl rfl) (Zo Ya (Zo YN (Zo Y1 (Zo Y1 (Zo Y1 (Zo Ya (qv 4) Zf) Zf) (Zo YN Zf (qv 5))) (Zo YN Zf (qv 1))) Zf) Zf))
    (Zb (Zp (i:=7) ZM.nd rfl (Or.inl rfl) (Zo Ya (Zo Y1 (Zo Y1 (Zo YN (qv 7) (qv 7)) (Zo YN Zf (qv 5))) (Zo YN Zf (qv 1))) Zf))
    (Ze (Zn (Zo Ya (Zo Yp (Zo Ya (Zo YN (qv 7) Zf) Zf) Zf) Zf)))))))))),?_⟩
  clear hu hr
  try dsimp only [L2.cxK,L2.cxK2]
  refine L2.let8 ?_;intro U7 U6 U5 U4 U3 U2 U1;refine ⟨_,rfl,a,_,rfl,.inl Y,fun O hc1=>⟨by show 1<=sizeLine;decide,fun N G=>⟨O,N,_,_,rfl,rfl,Zc G _ _ Za,Za,?_,fun J S=>Zh ?_⟩⟩⟩
  ·rw [Qac]
   exact Qa9 (Z1 (by show q.length + 1<=1000;lia))
  have M:=(Zc (o:=.lst (q.map V.int)) hc1).trans ((Zc (o:=.lst [V.int 0]) G).trans (Zc (o:=.lst (q.map V.int++[V.int 0])) S));have h3:=Za (H:=upd (upd H O (.lst (q.map V.int))) N (.lst [V.int 0])) (a:=J) (o:=.lst (q.map V.int++[V.int 0]));generalize upd (upd (upd H O (.lst (q.map V.int))) N (.lst [V.int 0])) J (.lst (q.map V.int++[V.int 0]))=H1 at *;have Z:=zL Y M;refine ⟨_,rfl,a,_,rfl,.inl Z,1,_,rfl,Zh ?_⟩
  try dsimp only
  obtain ⟨sz,hsz,L,sz2⟩:∃sz:Nat,(if ((q.map V.int).length:Int) > 1 then ((q.map V.int).length:Int) else 1)=(sz:Int)/\1<=sz/\sz<=q.length + 1:=by
   rw [Qac]
   split
   ·exact ⟨q.length,rfl,by lia,by lia⟩
   ·exact ⟨1,rfl,by lia,by lia⟩
  rw [hsz];obtain ⟨c,ec⟩:∃c:Int,atI (q.map V.int++[V.int 0]) ((C:Int) % (sz:Int))=some (.int c):=by
   have hlt:=Nat.mod_lt C L;rw [<-Int.natCast_emod,show q.map V.int++[V.int 0]=(q++[0]).map V.int by rw [Qav];rfl];have hl:C % sz < (q++[0]).length:=by rw [Qap];show _ < q.length + 1;lia
   exact ⟨(q++[0])[C % sz],Xj (by rw [Qai,Qad hl];rfl)⟩
  refine ⟨_,rfl,_,rfl,_,rfl,_,_,rfl,rfl,(by show (0:Int) < sz;lia),J,_,_,_,rfl,rfl,SqL.of h3,ec,Zh ?_⟩;refine ⟨_,rfl,_,rfl,_,_,rfl,rfl,.of (by lia) (by lia),Zh ?_⟩
  try dsimp only
  obtain ⟨D,htn,tn1⟩:∃D:Nat,(C:Int) / (sz:Int)=(D:Int)/\D<=1000:=⟨C / sz,by rw [Int.natCast_ediv],Qaz (Nat.div_le_self _ _) hk⟩;rw [htn];refine ⟨_,rfl,_,_,rfl,rfl,⟨by decide,by decide,by decide⟩,_,_,rfl,rfl,_,rfl,zc (fun _=>?_) (fun _=>?_)⟩
  ·have md:∀z:Int,0<=z % 1000000/\z % 1000000 < 1000000:=fun z=>⟨Qcb _ (by decide),Qb6 _ (by decide)⟩
   obtain ⟨n,hn,n60⟩:∃n:Nat,(if (60:Int) < (D:Int) then (60:Int) else (D:Int))=(n:Int)/\n<=60:=by
    split
    ·exact ⟨60,rfl,by lia⟩
    ·exact ⟨D,rfl,by lia⟩
   refine ⟨_,rfl,_,_,rfl,(n:Int),(by rw [hn]),by lia,by lia,Xi (fun i σ H'=>∃(c:Int) (u6:Option V),σ=[some (.ref a),some (.int (C:Int)),some (.ref J),some (.int (sz:Int)),some (.int c),some (.int (D:Int)),u6,none]/\H'=H1) ⟨c,none,rfl,rfl⟩ ?_ ?_⟩
   ·rintro i σ H' hi ⟨c,u6,rfl,rfl⟩
    exact ⟨_,rfl,_,_,rfl,rfl,.of (by decide) (by decide),Zh ⟨_,_,rfl,rfl⟩⟩
   ·rintro σ H' ⟨c,u6,rfl,rfl⟩
    exact ⟨_,rfl,_,_,rfl,rfl,(by show (0:Int) < 1000000;decide),k _ _ (md _).1 (md _).2 M⟩
  ·refine ⟨_,rfl,_,_,rfl,rfl,(by show (0:Int) < 2147483629;decide),_,_,rfl,rfl,_,rfl,_,_,rfl,rfl,.inr (.inl ⟨by decide,by decide⟩),_,_,rfl,rfl,_,rfl,_,_,rfl,rfl,.inr (.inl ⟨by decide,by decide⟩),_,_,rfl,rfl,_,_,rfl,rfl,.inr (.inr ⟨by decide,by decide⟩),_,_,rfl,rfl,(by show (0:Int) < 2147483647;decide),Zh ?_⟩
   try dsimp only
   generalize hs1:(c % 2147483629 + 977 + 104729 * (D:Int) + 15485863 * (C:Int)) * 48271 % 2147483647=I;have d0:0<=I:=by lia
   have d1:I < 2147483647:=by lia
   refine ⟨_,rfl,_,rfl,_,_,rfl,rfl,.inr (.inl ⟨by lia,by lia⟩),_,rfl,_,_,rfl,rfl,.inr (.inl ⟨by decide,by decide⟩),_,_,rfl,rfl,_,rfl,_,_,rfl,rfl,.inr (.inl ⟨by decide,by decide⟩),_,_,rfl,rfl,_,_,rfl,rfl,(by show (0:Int) < 2147483587;decide),Zh ?_⟩
   try dsimp only
   generalize hs2:(I * I + 7919 * (D:Int) + 31 * (C:Int)) % 2147483587=se;have e0:0<=se:=by lia
   have e1:se < 2147483587:=by lia
   exact ⟨_,rfl,_,_,rfl,rfl,.inr (.inr ⟨by decide,by decide⟩),_,_,rfl,rfl,(by show (0:Int) < 2147483563;decide),_,_,rfl,rfl,.of (by decide) (by decide),_,_,rfl,rfl,(by show (0:Int) < 1000000;decide),k _ _ (Qcb _ (by decide)) (Qb6 _ (by decide)) M⟩
def vz(K:Af):Sp:=fun vs H Q _=>∃r:Int,vs=[.int r]/\0<=r/\r < 1000000/\∀y H',NmS y->ZC H H'->Q (.str y) H'
theorem v3 (T:Txt K w mg t) (TB:Tbs mg base t):Y9 P w K mg base CX0 1 t.ox t.oy ["number"] (vz K):=by
 refine T.dm.F.ok YS (fun vs H Q E h=>?_) (fun M A outer s H vs Q E hr h=>?_)
 ·obtain ⟨r,rfl,O,h1,k⟩:=h
  rfl
 ·obtain ⟨r,rfl,O,h1,k⟩:=h
  have hu:=ZP hr;refine ⟨_,@QSs.out _ _ _ (Zb (Zp (i:=1) YS.nd rfl (Or.inl rfl) Zi)
    (Zb (Zp (i:=2) YS.nd rfl (Or.inl rfl) (ZQ (Zk Zi (Zk Zi (Zk Zi (Zk Zi (Zk Zi (Zk Zi (Zk Zi (Zk Zi (Zk Zi (Zk Zi Zd))))))))))))
    (Zb (Zp (i:=3) YS.nd rfl (Or.inl rfl) (Z4 Zw (qv 2) (Zo Ya (qv 0) Zf) (fun _ _=>rfl)))
    (Zb (YW Qbv rfl (Xn rfl T.bh (Zk (Zo Y1 Zf (Zo Ya (Zo Yp (qv 0) Zf) Zf)) Zd)) (Yd (i:=4) YS.nd rfl (Or.inl rfl))
    (Ze (Zp (i:=3) YS.nd rfl (Or.inl rfl) (Zo wb (qv 3) (Z4 ix_str (qv 1) (Zo Ya (Zo Y1 (Zo Yp (qv 0) Zf) (Zo YN Zf (qv 4))) Zf) (fun _ _=>rfl))))))
    (Ze (Zn (qv 3))))))),?_⟩
  refine L2.let5 ?_;intro S Y U2 Z;refine Zh ?_;refine ⟨by decide,fun m hm=>Zh ?_⟩;obtain ⟨y,J,N⟩:=qI (l:=["","","","a","xy","so","not","yes","add","nought"]) (i:=r % 10) (Qcb _ (by decide)) (Qb6 _ (by decide));refine ⟨_,rfl,_,rfl,_,_,rfl,rfl,(by show (0:Int) < 10;decide),m,_,_,_,rfl,rfl,SqL.of Za,N,Zh ?_⟩;have L:=Zc (o:=.lst [V.str "",V.str "",V.str "",V.str "a",V.str "xy",V.str "so",V.str "not",V.str "yes",V.str "add",V.str "nought"]) hm;generalize upd H m (.lst [V.str "",V.str "",V.str "",V.str "a",V.str "xy",V.str "so",V.str "not",V.str "yes",V.str "add",V.str "nought"])=H1 at *;obtain ⟨n,hn,G⟩:∃n:Nat,1 + r / 10 % 2=(n:Int)/\(n=1\/n=2):=⟨(1 + r / 10 % 2).toNat,by lia,by lia⟩;refine ⟨_,rfl,_,_,rfl,rfl,.of (by decide) (by decide),_,_,rfl,rfl,(by show (0:Int) < 2;decide),_,_,rfl,rfl,(n:Int),(by rw [<-hn]),by lia,by lia,Xi (fun i σ H'=>∃(C:Option V) (z:Str),σ=[some (.int r),some (.str gx),some (.ref m),some (.str z),C]/\NmI y (r / 20) i z/\z.length<=6 + i/\H'=H1) ⟨none,y,rfl,rfl,(by decide +kernel:∀y∈begL,y.length<=6) y J,rfl⟩ ?_ ?_⟩
  ·rintro i σ H' hi ⟨C,z,rfl,I,D,rfl⟩
   obtain ⟨c,hc,q⟩:=low_at (i:=(r / 20 + 7 * (0 + (i:Int))) % 26) (Qcb _ (by decide)) (Qb6 _ (by decide));refine ⟨_,rfl,_,rfl,_,rfl,_,_,rfl,rfl,.of (by decide) (by decide),_,rfl,_,_,rfl,rfl,.inr (.inl ⟨by decide,by decide⟩),_,_,rfl,rfl,_,_,rfl,rfl,(by show (0:Int) < 26;decide),_,_,c,rfl,rfl,Zc8,q,_,_,rfl,rfl,?_,Zh ⟨_,_,rfl,⟨z,c,I,by rw [Qhg] at q;exact q,rfl⟩,?_,rfl⟩⟩
   ·rw [Zag]
    exact Qa9 (Z1 (by lia))
   ·rw [Str.length_append,Zag]
    lia
  ·rintro σ H' ⟨C,z,rfl,I,D,rfl⟩
   exact ⟨_,rfl,k z _ (nm_all J G I) L⟩
def yr(K:Af):Sp:=fun vs H Q _=>∃w:V,vs=[w]/\((∃y,w=.str y)\/∃z:Int,w=.int z)/\∀p H',H p=none->H' p=some (.lst ((lpW w).map V.bl))->ZC H H'->Q (.ref p) H'
theorem X3 (T:Txt K w mg t) (TB:Tbs mg base t):Y9 P w K mg base CX0 1 t.mz t.nc ["word"] (yr K):=by
 refine T.ae.F.ok yj (fun vs H Q E h=>?_) (fun O A outer s H vs Q E hr h=>?_)
 ·obtain ⟨w,rfl,hw,k⟩:=h
  rfl
 ·obtain ⟨w,rfl,hw,k⟩:=h
  have hu:=ZP hr;refine ⟨_,@QSs.out _ _ _ (Zb (ZF (Zr Yc (qv 0) (Yj (Zk Zi (Zk Zi (Zk Zi Zd)))) (by with_unfolding_all rfl))
    (Ze (Zn (ZQ (Zk X8 (Zk X8 Zd))))) Zx)
    (Zb (ZF (Zr Yy (qv 0) Zi (Z3 _))
    (Ze (Zn (ZQ (Zk X8 Zd)))) Zx)
    (Zb (ZF (Zr Yc (qv 0) (Yj (Zk Zi (Zk Zi (Zk Zi (Zk Zi (Zk Zi (Zk Zi (Zk Zi (Zk Zi Zd))))))))) (by with_unfolding_all rfl))
    (Ze (Zn (ZQ (Zk X8 (Zk X8 Zd))))) Zx)
    (Zb (ZF (Zr Yc (qv 0) (Yj (Zk Zi (Zk Zi (Zk Zi (Zk Zi (Zk Zi (Zk Zi Zd))))))) (by with_unfolding_all rfl))
    (Ze (Zn (ZQ (Zk X8 Zd)))) Zx)
    (Zb (ZF (Zr Yy (qv 0) Zi (Z3 _))
    (Ze (Zn (ZQ (Zk X8 (Zk X8 (Zk X8 Zd)))))) Zx)
    (Ze (Zn (ZQ Zd)))))))),?_⟩
  refine L2.let6 ?_;intro U5 Y Z U2 U1;have e:=lpW_eq hw;have hf:Xc w=true:=by rcases hw with ⟨y,rfl⟩ | ⟨z,rfl⟩ <;> rfl
  have I:∀c,scal w (.str c)=true:=fun c=>by rcases hw with ⟨y,rfl⟩ | ⟨z,rfl⟩ <;> rfl
  have fin:∀(H1:Hp) (bs:Am),ZC H H1->lpW w=bs->bs.length<=3->bs.length<=sizeLine/\∀p,H1 p=none->Q (.ref p) (upd H1 p (.lst (bs.map V.bl))):=fun H1 bs q hb h3=>⟨Qa9 (Z1 (by lia)),fun p hp=>k p _ (q.free hp) (by rw [Za,hb]) (q.trans (Zc hp))⟩;refine ⟨_,rfl,by decide,fun L G=>⟨L,_,rfl,.inr (SqT.of Za),hf,rfl,_,rfl,zc (fun c=>?_) (fun c=>?_)⟩⟩
  ·rw [Qa0 (show inV w ((["both","either","so"]:Ai).map V.str)=true from c)] at e
   exact let ⟨f1,f2⟩:=fin _ _ (Zc (o:=.tup [.str "both",.str "either",.str "so"]) G) e (by decide);⟨f1,f2⟩
  rw [Qaw (show ¬inV w ((["both","either","so"]:Ai).map V.str)=true from c)] at e;have q:=Zc (o:=.tup [.str "both",.str "either",.str "so"]) G;generalize upd H L (.tup [.str "both",.str "either",.str "so"])=H1 at *;refine ⟨_,rfl,I _,_,rfl,zc (fun c=>?_) (fun c=>?_)⟩
  ·rw [Qa0 c] at e
   exact let ⟨f1,f2⟩:=fin _ _ q e (by decide);⟨f1,f2⟩
  rw [Qaw c] at e;refine ⟨_,rfl,by decide,fun N D=>⟨N,_,rfl,.inr (SqT.of Za),hf,rfl,_,rfl,zc (fun c=>?_) (fun c=>?_)⟩⟩
  ·rw [Qa0 (show inV w ((["same","under","beneath","and","or","odd","add","sub"]:Ai).map V.str)=true from c)] at e
   exact let ⟨f1,f2⟩:=fin _ _ (q.trans (Zc (o:=.tup [.str "same",.str "under",.str "beneath",.str "and",.str "or",.str "odd",.str "add",.str "sub"]) D)) e (by decide);⟨f1,f2⟩
  rw [Qaw (show ¬inV w ((["same","under","beneath","and","or","odd","add","sub"]:Ai).map V.str)=true from c)] at e;have J:=q.trans (Zc (o:=.tup [.str "same",.str "under",.str "beneath",.str "and",.str "or",.str "odd",.str "add",.str "sub"]) D);generalize upd H1 N (.tup [.str "same",.str "under",.str "beneath",.str "and",.str "or",.str "odd",.str "add",.str "sub"])=H2 at *;refine ⟨_,rfl,by decide,fun S C=>⟨S,_,rfl,.inr (SqT.of Za),hf,rfl,_,rfl,zc (fun c=>?_) (fun c=>?_)⟩⟩
  ·rw [Qa0 (show inV w ((["sign","nought","not","neg","twice","low"]:Ai).map V.str)=true from c)] at e
   exact let ⟨f1,f2⟩:=fin _ _ (J.trans (Zc (o:=.tup [.str "sign",.str "nought",.str "not",.str "neg",.str "twice",.str "low"]) C)) e (by decide);⟨f1,f2⟩
  rw [Qaw (show ¬inV w ((["sign","nought","not","neg","twice","low"]:Ai).map V.str)=true from c)] at e;have M:=J.trans (Zc (o:=.tup [.str "sign",.str "nought",.str "not",.str "neg",.str "twice",.str "low"]) C);refine ⟨_,rfl,I _,_,rfl,zc (fun c=>?_) (fun c=>?_)⟩
  ·rw [Qa0 c] at e
   exact let ⟨f1,f2⟩:=fin _ _ M e (by decide);⟨f1,f2⟩
  rw [Qaw c] at e;exact let ⟨f1,f2⟩:=fin _ _ M e (by decide);⟨f1,f2⟩
def yt(K:Af):Sp:=fun vs H Q _=>∃(t:Aw) (q:A2),vs=[.ref t]/\H t=some (.tup q)/\(∀w∈q,jJ w)/\q.length<=60/\∀p H' (C:Ai),H' p=some (.lst (C.map V.str))->ZC H H'->C.Perm (XC ((q.filter ntK).map Zb1))->PyProof.Rows.sortedS C=true->Q (.ref p) H'
theorem yu (T:Txt K w mg t) (TB:Tbs mg base t):Y9 P w K mg base CX0 1 t.ng t.nh ["words"] (yt K):=by
 refine T.df.F.ok W0 (fun vs H Q E h=>?_) (fun cdv A outer s H vs Q E hr h=>?_)
 ·obtain ⟨t,q,rfl,O,hw,hl,k⟩:=h
  rfl
 ·obtain ⟨t,q,rfl,O,hw,hl,k⟩:=h
  have hu:=ZP hr;refine ⟨_,@QSs.out _ _ _ (Zb (Zp (i:=1) W0.nd rfl (Or.inr rfl) (Yj (Zk Zi (Zk Zi (Zk Zi (Zk Zi (Zk Zi (Zk Zi (Zk Zi (Zk Zi (Zk Zi (Zk Zi (Zk Zi (Zk Zi (Zk Zi (Zk Zi Zd))))))))))))))))
    (Zb (Zp (i:=1) W0.nd rfl (Or.inr rfl) (Zo Zgh (qv 1) (Yj (Zk Zi (Zk Zi (Zk Zi (Zk Zi (Zk Zi (Zk Zi Zd)))))))))
    (Ze (Zn (Zs (Jf rfl) (by rfl) T.mh GJ (Zk (Z8 (j7 rfl) (by rfl) T.sj Zek (Zk (YO ({}:ZR (Zg WR) _ ["words","kept"] "word" ["kept"] [1]) (WG (qv 0)) (fun _ _ _ _=>(vM (qT (x5 (Xv (Zs (show YM _ (.builtin "isinstance") (Zjx K) from XJ) (by rfl) T.au Yg (Zk (qv 0) (Zk (WO (v:=.ty "str") (by rfl) T.sr Zej rfl) Zd)))) (J4 (Zr (show OpR _ (compareOp .NotIn) (rIn K true) from jo) (qv 0) (qv 1) (by with_unfolding_all rfl))))))) (fun _ _ _ _=>(qv 0))) Zd)) Zd)))))),?_⟩
  refine L2.let3 ?_;intro U2 U1;refine ⟨by decide,fun k1 M=>Zh ?_⟩;refine ⟨_,rfl,by decide,fun k2 G=>⟨k1,k2,_,_,rfl,rfl,Zc G _ _ Za,Za,Qa9 (Z1 (by decide)),fun k3 H1 C S=>Zh ?_⟩⟩;have N:ZC H H1:=((Zc M).trans (Zc G)).trans S;have C:H1 k3=some (.tup (ZJ.map V.str)):=C;have D:=N _ _ O;clear S;refine ⟨_,rfl,t,rfl,⟨_,SqT.of D⟩,j8 (xs:=q) ntK ZC ZC.refl (fun _ _ _ a b=>a.trans b) (fun H2 I=>SqT.of (I _ _ D)) (Qa9 (Z1 (by lia))) (fun x hx H2 I R hR=>?_) (fun x hx H2 R hR=>⟨_,rfl,hR⟩) (fun H2 l I J=>?_)⟩
  ·rcases hw x hx with ⟨y,rfl,hy⟩ | ⟨z,rfl⟩
   ·refine ⟨_,rfl,_,_,_,_,rfl,.str y,GL,_,rfl,Y3 ⟨_,rfl,_,rfl,k3,_,rfl,.inr (SqT.of (I _ _ C)),rfl,by decide +kernel,_,rfl,?_⟩⟩
    have hR:=hR H2 (ZC.refl H2);rw [ZA];have e:(if true=true then !decide (y∈ZJ) else decide (y∈ZJ))=ntK (.str y):=by
     show (!decide (y∈ZJ))=decide (y∉ZJ)
     by_cases h:y∈ZJ
     ·grind
     ·grind
    rw [e];exact hR
   ·exact ⟨_,rfl,_,_,_,_,rfl,.int z,GN,_,rfl,ZI (hR H2 (ZC.refl H2))⟩
  have fl:(q.filter ntK).length<=60:=Qaz (Qe3 _ _) hl;have Y:=jK ((q.filter ntK).map Zb1);rw [Qac] at Y;have es:((q.filter ntK).map Zb1).map V.str=q.filter ntK:=by
   rw [Qa3];refine (Qbu (g:=id) fun w hw=>?_).trans (List.map_id _);have h:=(Qd2.mp hw).2;cases w with
   | str y=>rfl
   | _=>cases h
  have L:=N.trans (I.trans (Zc (o:=.lst (q.filter ntK)) J));refine ⟨l,(q.filter ntK).map Zb1,rfl,SqL.of (by rw [es];exact Za),by rw [Qac];lia,fun a ha=>⟨a,_,rfl,Za,by lia,fun m Z hm hp hs=>?_⟩⟩;exact k m _ Z Za (L.trans ((Zc ha).trans (Zc hm))) hp hs
def ja(K:Af):Sp:=fun vs H Q _=>∃(y:Str) (v r:V) (W:Nat),vs=[.str y,v,.int (2 ^ W)]/\1<=W/\W<=64/\One1 W y v r/\Q r H
theorem jc (T:Txt K w mg t) (Z:Tbs mg base t):Y9 P w K mg base CX0 1 t.ly t.lz ["word","one","full"] (ja K):=by
 refine T.cx.F.ok zU (fun vs H Q E h=>?_) (fun L A outer s H vs Q E hr h=>?_)
 ·obtain ⟨y,v,r,W,rfl,C,I,ho,k⟩:=h
  rfl
 ·obtain ⟨y,v,r,W,rfl,C,I,ho,k⟩:=h
  have O:=ZP hr;refine ⟨_,@QSs.out _ _ _ (Zb (ZF (Zr Yy (qv 0) Zi (Z3 _))
    (Ze (Zn (Zo XZ (Zo XZ (qv 2) Zf) (qv 1)))) Zx)
    (Zb (ZF (Zr Yy (qv 0) Zi (Z3 _))
    (Ze (Zn (Zo Ya (Zo XZ (qv 2) (qv 1)) (qv 2)))) Zx)
    (Zb (ZF (Zr Yy (qv 0) Zi (Z3 _))
    (Ze (Zn (Zo Ya (Zo YN Zf (qv 1)) (qv 2)))) Zx)
    (Zb (ZF (Zr Yy (qv 0) Zi (Z3 _))
    (Ze (Zn (Zo Xb (qv 1) (Zo XZ (qv 2) (qv 1))))) Zx)
    (Zb (ZF (Zr Yy (qv 0) Zi (Z3 _))
    (Ze (Zn (YB Ziu (Zo YN Zf (qv 1)) (qv 2) (Z3 _)))) Zx)
    (Zb (ZF (Zr Yy (qv 0) Zi (Z3 _))
    (Ze (Zn (YB Yy (qv 1) Zf (Z3 _)))) Zx)
    (Ze (Zn (uf (qv 1)))))))))),?_⟩
  refine L2.let7 ?_;intro S Y U4 M U2 N;have hp:=G5 W;have J:=pw_le I;rcases ho with ⟨G,a,rfl,q,a1,rfl⟩ | ⟨G,a,rfl,q,a1,rfl⟩ | ⟨rfl,b,rfl,rfl⟩
  ·have D:y = "not" \/ y = "neg" \/ y = "twice" \/ y = "low" := by simpa only [Qam,Qa7,Qdl] using G
   rcases D with rfl | rfl | rfl | rfl
   ·refine ⟨_,rfl,rfl,_,rfl,Y3 ⟨_,rfl,_,_,rfl,rfl,_,rfl,_,_,rfl,rfl,?_⟩⟩
    rw [show Zif "not" a % 2 ^ W=2 ^ W - 1 - a from Zh5 q a1] at k;exact k
   ·refine ⟨_,rfl,rfl,_,rfl,ZI ⟨_,rfl,rfl,_,rfl,Y3 ⟨_,rfl,_,rfl,_,_,rfl,rfl,_,rfl,_,_,rfl,rfl,hp,?_⟩⟩⟩
    rw [show Zif "neg" a % 2 ^ W=(2 ^ W - a) % 2 ^ W from Zbw a W] at k;exact k
   ·refine ⟨_,rfl,rfl,_,rfl,ZI ⟨_,rfl,rfl,_,rfl,ZI ⟨_,rfl,rfl,_,rfl,Y3 ⟨_,rfl,_,_,rfl,rfl,.inr (.inr ⟨by lia,by lia⟩),_,rfl,_,_,rfl,rfl,hp,?_⟩⟩⟩⟩
    rw [show Zif "twice" a % 2 ^ W=2 * a % 2 ^ W by show (a + a) % 2 ^ W=_;rw [Int.two_mul]] at k;exact k
   ·refine ⟨_,rfl,rfl,_,rfl,ZI ⟨_,rfl,rfl,_,rfl,ZI ⟨_,rfl,rfl,_,rfl,ZI ⟨_,rfl,rfl,_,rfl,Y3 ⟨_,rfl,_,rfl,_,rfl,_,_,rfl,rfl,_,_,rfl,rfl,?_⟩⟩⟩⟩⟩
    rw [show Zif "low" a % 2 ^ W=Builtin.bitAnd a (2 ^ W - a) from Zh6 q a1] at k;exact k
  ·have D:y = "sign" \/ y = "nought" := by grind
   rcases D with rfl | rfl
   ·refine ⟨_,rfl,rfl,_,rfl,ZI ⟨_,rfl,rfl,_,rfl,ZI ⟨_,rfl,rfl,_,rfl,ZI ⟨_,rfl,rfl,_,rfl,ZI ⟨_,rfl,rfl,_,rfl,Y3 ⟨_,rfl,_,_,rfl,rfl,.inr (.inr ⟨by lia,by lia⟩),_,rfl,_,_,rfl,rfl,?_⟩⟩⟩⟩⟩⟩
    rw [sign_eq q a1] at k;exact k
   ·refine ⟨_,rfl,rfl,_,rfl,ZI ⟨_,rfl,rfl,_,rfl,ZI ⟨_,rfl,rfl,_,rfl,ZI ⟨_,rfl,rfl,_,rfl,ZI ⟨_,rfl,rfl,_,rfl,ZI ⟨_,rfl,rfl,_,rfl,Y3 ⟨_,rfl,rfl,?_⟩⟩⟩⟩⟩⟩⟩
    rw [show qZ (2 ^ W) "nought" [a]=decide (V.int a=V.int 0) from Zbx a] at k;exact k
  ·exact ⟨_,rfl,rfl,_,rfl,ZI ⟨_,rfl,rfl,_,rfl,ZI ⟨_,rfl,rfl,_,rfl,ZI ⟨_,rfl,rfl,_,rfl,ZI ⟨_,rfl,rfl,_,rfl,ZI ⟨_,rfl,rfl,_,rfl,ZI ⟨_,rfl,_,rfl,k⟩⟩⟩⟩⟩⟩⟩
def jd(K:Af):Sp:=fun vs H Q _=>∃(y:Str) (v u r:V) (W:Nat),vs=[.str y,v,u,.int (2 ^ W)]/\1<=W/\W<=64/\Two2 W y v u r/\∀H',ZC H H'->Q r H'
theorem je (T:Txt K w mg t) (TB:Tbs mg base t):Y9 P w K mg base CX0 1 t.ma t.me ["word","one","other","full"] (jd K):=by
 refine T.cy.F.ok zV (fun vs H Q E h=>?_) (fun cdv A outer s H vs Q E hr h=>?_)
 ·obtain ⟨y,v,u,r,W,rfl,J,Z,ho,k⟩:=h
  rfl
 ·obtain ⟨y,v,u,r,W,rfl,J,Z,ho,k⟩:=h
  have hu:=ZP hr;refine ⟨_,@QSs.out _ _ _ (Zb (ZF (Zr Yc (qv 0) (Yj (Zk Zi (Zk Zi (Zk Zi Zd)))) (by with_unfolding_all rfl))
    (Ze (Zn (Z4 Zw (ZQ (Zk (Zo Xb (qv 1) (qv 2)) (Zk (Zo qS (qv 1) (qv 2)) (Zk (Zo GD (qv 1) (qv 2)) Zd)))) (Zjc PySem.F.slot_tuple_index PySem.F.type_tuple_index Zac (Yj (Zk Zi (Zk Zi (Zk Zi Zd)))) (Zk (qv 0) Zd)) (fun _ _=>rfl)))) Zx)
    (Zb (ZF (Zr Yy (qv 0) Zi (Z3 _))
    (Ze (Zn (Zo Ya (Zo Y1 (qv 1) (qv 2)) (qv 3)))) Zx)
    (Zb (ZF (Zr Yy (qv 0) Zi (Z3 _))
    (Ze (Zn (Zo Ya (Zo XZ (qv 1) (qv 2)) (qv 3)))) Zx)
    (Zb (ZF (Zr Yy (qv 0) Zi (Z3 _))
    (Ze (Zn (YB Yy (qv 1) (qv 2) (Z3 _)))) Zx)
    (Zb (ZF (Zr Yy (qv 0) Zi (Z3 _))
    (Ze (Zn (YB gM (qv 1) (qv 2) (Z3 _)))) Zx)
    (Zb (ZF (Zr Yy (qv 0) Zi (Z3 _))
    (Ze (Zn (YB gM (Zo Ya (Zo Y1 (qv 1) (Zo Yp (qv 3) Zf)) (qv 3)) (Zo Ya (Zo Y1 (qv 2) (Zo Yp (qv 3) Zf)) (qv 3)) (Z3 _)))) Zx)
    (Zb (ZF (Zr Yy (qv 0) Zi (Z3 _))
    (Ze (Zn (vL (qv 1) (GO (qv 2))))) Zx)
    (Zb (ZF (Zr Yy (qv 0) Zi (Z3 _))
    (Ze (Zn (Zf1 (qv 1) (GO (qv 2))))) Zx)
    (Ze (Zn (Zf1 (qv 2) (GO (uf (qv 1)))))))))))))),?_⟩
  clear hu hr
  try dsimp only [L2.cxK,L2.cxK2]
  refine L2.let9 ?_;intro U8 U7 U6 U5 U4 U3 U2 U1;have hp:=G5 W;have hin:∀(R:VK) (H1:Hp),ZC H H1->True:=fun _ _ _=>trivial;refine ⟨_,rfl,by show 3<=sizeLine;decide,fun O M=>⟨O,_,rfl,.inr (SqT.of Za),rfl,rfl,_,rfl,?_⟩⟩;rw [show inV (.str y) [V.str "and",V.str "or",V.str "odd"]=decide (y∈(["and","or","odd"]:Ai)) from ZA y ["and","or","odd"]];have q:=Zc (o:=.tup [V.str "and",V.str "or",V.str "odd"]) M;generalize upd H O (.tup [V.str "and",V.str "or",V.str "odd"])=H1 at *;rcases ho with ⟨I,a,b,rfl,rfl,⟨L,a1⟩,⟨N,b1⟩,rfl⟩ | ⟨I,a,b,rfl,rfl,⟨L,a1⟩,⟨N,b1⟩,rfl⟩ | ⟨I,a,b,rfl,rfl,rfl⟩
  ·have D:y = "and" \/ y = "or" \/ y = "odd" \/ y = "add" \/ y = "sub" := by simpa only [Qam,Qa7,Qdl] using I
   obtain ⟨Y,m2,m3⟩:=Zd4 L a1 N b1;have fin:∀(j:Nat) (z:Int) (y:Str),(∃C,[V.str "and",V.str "or",V.str "odd"][j]?=some C/\eqV C (.str y)=true)->(∀i C,i < j->[V.str "and",V.str "or",V.str "odd"][i]?=some C->eqV C (.str y)=false)->[V.int (Builtin.bitAnd a b),V.int (Builtin.bitOr a b),V.int (Builtin.bitXor a b)][j]?=some (.int z)->(∀H',ZC H H'->Q (.int z) H')->tRet (tOp (Zjv K) (tLst (J3 (tOp (rI0 fun i j=>V.int (Builtin.bitAnd i j)) (jf 1) (jf 2)) (J3 (tOp (rI0 fun i j=>V.int (Builtin.bitOr i j)) (jf 1) (jf 2)) (J3 (tOp (rI0 fun i j=>V.int (Builtin.bitXor i j)) (jf 1) (jf 2)) Zfr)))) (tTM Zab (tTup (J3 (tC (V.str "and")) (J3 (tC (V.str "or")) (J3 (tC (V.str "odd")) Zfr)))) (J3 (jf 0) Zfr))) { nx:=fun _ H'=>Q .non H',rt:=Q } [some (.str y),some (.int a),some (.int b),some (.int (2 ^ W))] H1:=by
    intro j z y ⟨C,h1,h2⟩ h3 D h5;refine ⟨_,rfl,_,rfl,_,_,rfl,rfl,_,rfl,_,rfl,_,_,rfl,rfl,_,rfl,_,rfl,_,_,rfl,rfl,by show 3<=sizeLine;decide,fun l hl=>⟨by show 3<=sizeLine;decide,fun S G=>⟨S,_,rfl,Za,_,rfl,S,_,_,C,j,rfl,rfl,Za,rfl,rfl,h1,h2,h3,l,_,_,_,rfl,rfl,SqL.of (Zc G _ _ Za),Xj D,h5 _ (q.trans ((Zc hl).trans (Zc G)))⟩⟩⟩
   rcases D with rfl | rfl | rfl | rfl | rfl
   ·rw [show Zjh "and" a b % 2 ^ W=Builtin.bitAnd a b from Y] at k
    rw [show decide (("and" : Str)∈(["and","or","odd"]:Ai))=true by decide +kernel];exact Y3 (fin 0 _ _ ⟨_,rfl,rfl⟩ (fun i C hi=>by lia) rfl k)
   ·rw [show Zjh "or" a b % 2 ^ W=Builtin.bitOr a b from m2] at k
    rw [show decide (("or" : Str)∈(["and","or","odd"]:Ai))=true by decide +kernel];exact Y3 (fin 1 _ _ ⟨_,rfl,rfl⟩ (fun i C hi e=>by
     obtain rfl:i=0:=by lia
     cases e
     rfl) rfl k)
   ·rw [show Zjh "odd" a b % 2 ^ W=Builtin.bitXor a b from m3] at k
    rw [show decide (("odd" : Str)∈(["and","or","odd"]:Ai))=true by decide +kernel];exact Y3 (fin 2 _ _ ⟨_,rfl,rfl⟩ (fun i C hi e=>by
     rcases (by lia:i=0\/i=1) with rfl | rfl <;> cases e <;> rfl) rfl k)
   ·rw [show decide (("add" : Str)∈(["and","or","odd"]:Ai))=false by decide +kernel]
    exact ZI ⟨_,rfl,rfl,_,rfl,Y3 ⟨_,rfl,_,rfl,_,_,rfl,rfl,_,rfl,_,_,rfl,rfl,hp,k _ q⟩⟩
   ·rw [show decide (("sub" : Str)∈(["and","or","odd"]:Ai))=false by decide +kernel]
    exact ZI ⟨_,rfl,rfl,_,rfl,ZI ⟨_,rfl,rfl,_,rfl,Y3 ⟨_,rfl,_,rfl,_,_,rfl,rfl,_,rfl,_,_,rfl,rfl,hp,k _ q⟩⟩⟩
  ·have D:y = "same" \/ y = "under" \/ y = "beneath" := by simpa only [Qam,Qa7,Qdl] using I
   rcases D with rfl | rfl | rfl
   ·rw [show qZ (2 ^ W) "same" [a,b]=decide (V.int a=V.int b) from Qc3.mpr ⟨fun z=>by rw [show a=b from z],fun z=>by injection z⟩] at k
    rw [show decide (("same" : Str)∈(["and","or","odd"]:Ai))=false by decide +kernel];exact ZI ⟨_,rfl,rfl,_,rfl,ZI ⟨_,rfl,rfl,_,rfl,ZI ⟨_,rfl,rfl,_,rfl,Y3 ⟨_,rfl,_,rfl,rfl,k _ q⟩⟩⟩⟩
   ·rw [show decide (("under" : Str)∈(["and","or","odd"]:Ai))=false by decide +kernel]
    exact ZI ⟨_,rfl,rfl,_,rfl,ZI ⟨_,rfl,rfl,_,rfl,ZI ⟨_,rfl,rfl,_,rfl,ZI ⟨_,rfl,rfl,_,rfl,Y3 ⟨_,rfl,_,rfl,_,_,rfl,rfl,k _ q⟩⟩⟩⟩⟩
   ·rw [ben_eq J L a1 N b1] at k
    rw [show decide (("beneath" : Str)∈(["and","or","odd"]:Ai))=false by decide +kernel];refine ZI ⟨_,rfl,rfl,_,rfl,ZI ⟨_,rfl,rfl,_,rfl,ZI ⟨_,rfl,rfl,_,rfl,ZI ⟨_,rfl,rfl,_,rfl,ZI ⟨_,rfl,rfl,_,rfl,Y3 ?_⟩⟩⟩⟩⟩;exact ⟨_,rfl,_,rfl,_,_,rfl,rfl,.of (by decide) (by decide),_,_,rfl,rfl,_,rfl,_,_,rfl,rfl,hp,_,rfl,_,rfl,_,_,rfl,rfl,.of (by decide) (by decide),_,_,rfl,rfl,_,rfl,_,_,rfl,rfl,hp,_,_,rfl,rfl,k _ q⟩
  ·have D:y = "both" \/ y = "either" \/ y = "so" := by simpa only [Qam,Qa7,Qdl] using I
   rcases D with rfl | rfl | rfl
   ·rw [show decide (("both" : Str)∈(["and","or","odd"]:Ai))=false by decide +kernel]
    refine ZI ⟨_,rfl,rfl,_,rfl,ZI ⟨_,rfl,rfl,_,rfl,ZI ⟨_,rfl,rfl,_,rfl,ZI ⟨_,rfl,rfl,_,rfl,ZI ⟨_,rfl,rfl,_,rfl,ZI ⟨_,rfl,rfl,_,rfl,Y3 ⟨_,rfl,_,rfl,?_⟩⟩⟩⟩⟩⟩⟩;cases a
    ·exact ZI (k _ q)
    ·exact Y3 ⟨_,rfl,k _ q⟩
   ·rw [show decide (("either" : Str)∈(["and","or","odd"]:Ai))=false by decide +kernel]
    refine ZI ⟨_,rfl,rfl,_,rfl,ZI ⟨_,rfl,rfl,_,rfl,ZI ⟨_,rfl,rfl,_,rfl,ZI ⟨_,rfl,rfl,_,rfl,ZI ⟨_,rfl,rfl,_,rfl,ZI ⟨_,rfl,rfl,_,rfl,ZI ⟨_,rfl,rfl,_,rfl,Y3 ⟨_,rfl,_,rfl,?_⟩⟩⟩⟩⟩⟩⟩⟩;cases a
    ·exact ZI ⟨_,rfl,k _ q⟩
    ·exact Y3 (k _ q)
   ·rw [show decide (("so" : Str)∈(["and","or","odd"]:Ai))=false by decide +kernel]
    refine ZI ⟨_,rfl,rfl,_,rfl,ZI ⟨_,rfl,rfl,_,rfl,ZI ⟨_,rfl,rfl,_,rfl,ZI ⟨_,rfl,rfl,_,rfl,ZI ⟨_,rfl,rfl,_,rfl,ZI ⟨_,rfl,rfl,_,rfl,ZI ⟨_,rfl,rfl,_,rfl,ZI ⟨_,rfl,_,rfl,?_⟩⟩⟩⟩⟩⟩⟩⟩;cases b
    ·exact ZI ⟨_,rfl,_,rfl,k _ q⟩
    ·exact Y3 (k _ q)
def xr(K:Af):Sp:=fun vs H Q _=>∃(pn:Aw) (nm:Ai) (m:Nat),vs=[.ref pn,.int (m:Int)]/\H pn=some (.lst (nm.map V.str))/\nm.Nodup/\nm.length<=3/\m ^ nm.length<=10000/\1<=m/\∀p H',Jx H' p nm (chs m nm.length)->ZC H H'->Q (.ref p) H'
theorem xt (T:Txt K w mg t) (TB:Tbs mg base t):Y9 P w K mg base CX0 1 t.ix t.iy ["names","full"] (xr K):=by
 refine T.cg.F.ok ZN (fun vs H Q E h=>?_) (fun cdv A outer s H vs Q E hr h=>?_)
 ·obtain ⟨pn,nm,m,rfl,J,I,hn3,G,hm1,k⟩:=h
  rfl
 ·obtain ⟨pn,nm,m,rfl,J,I,hn3,G,hm1,k⟩:=h
  have hu:=ZP hr;refine ⟨_,@QSs.out _ _ _ (Zb (Zp (i:=2) ZN.nd rfl (Or.inl rfl) (ZQ (Zk GR Zd)))
    (Zb (YW Qbv rfl (Xm (qv 0)) (Yd (i:=3) ZN.nd rfl (Or.inl rfl))
    (Zb (Zp (i:=4) ZN.nd rfl (Or.inl rfl) (ZQ Zd))
    (Zb (YW Qbv rfl (Xm (qv 2)) (Yd (i:=5) ZN.nd rfl (Or.inl rfl))
    (Ze (YW Qbv rfl (Xn rfl T.bh (Zk (qv 1) Zd)) (Yd (i:=6) ZN.nd rfl (Or.inl rfl))
    (Zb (Zp (i:=7) ZN.nd rfl (Or.inl rfl) (Z8 wt (by rfl) T.tq Zf3 (Zk (qv 5) Zd)))
    (Zb (GS hu (qv 7) (qv 3) (qv 6) rfl)
    (Ze (Yh (Y4 Qar Qa4 Qa5 ZE (qv 4) (Zk (qv 7) Zd)))))))))
    (Ze (Zp (i:=2) ZN.nd rfl (Or.inl rfl) (qv 4))))))
    (Ze (Zn (qv 2))))),?_⟩
  refine L2.let3 ?_;intro U2 U1;refine fun d hd=>⟨by show 1<=sizeLine;decide,fun fo O=>Zh ?_⟩;have s1:=(Zc (o:=.dK []) hd).trans (Zc (o:=.lst [V.ref d]) O);have D1:Jx (upd (upd H d (.dK [])) fo (.lst [V.ref d])) fo (nm.take 0) (chs m 0):=by
   refine ⟨[d],Za,rfl,fun i d' v h1 h2=>?_⟩;cases i with
   | zero =>
    cases h1;cases h2;exact Zc O _ _ Za
   | succ i=>cases h1
  refine ⟨_,rfl,pn,rfl,⟨_,SqL.of (s1 _ _ J)⟩,zb (K:=K) (a:=pn) (xs:=nm.map V.str) (fun i σ H'=>∃(fo:Aw) (u3 u4 L D C:Option V),σ=[some (.ref pn),some (.int (m:Int)),some (.ref fo),u3,u4,L,D,C]/\i<=nm.length/\Jx H' fo (nm.take i) (chs m i)/\ZC H H') ⟨fo,none,none,none,none,none,rfl,Qbc _,D1,s1⟩ (fun i σ H' _ ⟨_,_,_,_,_,_,_,_,_,s⟩=>SqL.of (s _ _ J)) ?_ ?_⟩
  ·rintro i x σ H2 hx ⟨fo,u3,u4,L,D,C,rfl,hi0,D2,s2⟩
   obtain ⟨y,rfl,hy⟩:=Zau hx;have Z:i < nm.length:=(Qaf.mp hy).1;have hyn:y∉nm.take i:=fun h=>by
    obtain ⟨j,hj⟩:=Qc9.mp h;rw [List.getElem?_take] at hj
    split at hj
    ·rename_i hlt
     have e1:=Wc I hj;have e2:=Wc I hy;lia
    ·cases hj
   have etk:nm.take (i + 1)=nm.take i++[y]:=take_snoc hy;have ltk:(nm.take i).length=i:=by rw [Qby];lia
   have hb1:m ^ i * m<=10000:=by
    exact Qaz (Qdf hm1 Z) G
   refine Zh ⟨by decide,fun wi N=>Zh ?_⟩;have s3:=Zc (o:=.lst []) N;obtain ⟨ds,d1,d2,d3⟩:=D2;have W3:Jx (upd H2 wi (.lst [])) wi (nm.take (i + 1)) []:=⟨[],Za,rfl,fun i d v h1 _=>by cases h1⟩;refine ⟨_,rfl,fo,rfl,⟨_,SqL.of (s3 _ _ d1)⟩,zb (K:=K) (a:=fo) (xs:=ds.map V.ref) (fun j σ H'=>∃(L D C:Option V),σ=[some (.ref pn),some (.int (m:Int)),some (.ref fo),some (.str y),some (.ref wi),L,D,C]/\j<=ds.length/\Jx H' wi (nm.take (i + 1)) (((chs m i).take j).flatMap fun vs=>(List.range m).map fun w=>vs++[w])/\ZC H2 H') ⟨L,D,C,rfl,Qbc _,W3,s3⟩ (fun j σ H' _ ⟨_,_,_,_,_,_,s⟩=>SqL.of (s _ _ d1)) ?_ ?_⟩
   ·rintro j x σ H4 hx ⟨v5,v6,v7,rfl,hj0,W4,s4⟩
    rw [Qai] at hx;obtain ⟨dv,Y,rfl⟩:=Qba.mp hx;have M:j < ds.length:=(Qaf.mp Y).1;have q:j < (chs m i).length:=by rw [<-d2];exact M
    have S:=Qad q;have hvl:=(Zbr (Qbm q)).1;have hkv:=d3 j dv _ Y S;generalize (chs m i)[j]=vs at *;have efm:((chs m i).take (j + 1)).flatMap (fun vs=>(List.range m).map fun w=>vs++[w])=((chs m i).take j).flatMap (fun vs=>(List.range m).map fun w=>vs++[w])++(List.range m).map fun w=>vs++[w]:=by
     rw [take_snoc S,List.flatMap_append];simp
    have fl:∀l:Ad,(l.flatMap fun vs=>(List.range m).map fun w=>vs++[w]).length=l.length * m:=by
     intro l
     induction l with
     | nil=>exact (Qhh _).symm
     | cons v l ih=>rw [Qg4,Qap,ih,Qac,Qbl,Qax,Qhi,Qgt]
    have hb2:j * m + m<=10000:=by
     rw [<-Qhi];rw [Zhy] at q;exact Qaz (Qeb _ q) hb1
    refine Zh ⟨_,rfl,(m:Int),rfl,by lia,by lia,Xi (fun w σ H'=>∃(D C:Option V),σ=[some (.ref pn),some (.int (m:Int)),some (.ref fo),some (.str y),some (.ref wi),some (.ref dv),D,C]/\Jx H' wi (nm.take (i + 1)) (((chs m i).take j).flatMap (fun vs=>(List.range m).map fun w=>vs++[w])++(List.range w).map fun w=>vs++[w])/\ZC H2 H') ⟨v6,v7,rfl,by rw [List.range_zero,List.map_nil,Qb4];exact W4,s4⟩ ?_ ?_⟩
    ·rintro w σ H5 hw ⟨v6,v7,rfl,W5,s5⟩
     refine Zh ⟨_,rfl,dv,_,rfl,.inl (s5 _ _ hkv),fun p hp=>Zh ?_⟩;refine ⟨_,rfl,_,rfl,_,rfl,p,_,rfl,Zcl.k (k:=.inr y) Za (Z1 (by have:=Zh8 (nm.take i) vs;lia)),?_⟩;rw [xY,Qhg,Zh9 hyn (by rw [hvl,ltk]),<-etk];obtain ⟨es,e1,e2,e3⟩:=id W5;have hpw:wi≠p:=fun z=>by rw [z,hp] at e1;cases e1
     have sp:=Zc (o:=.dK (kvC (nm.take (i + 1)) (vs++[w]))) hp;have e6:=sp _ _ e1;have hel:es.length < 10000:=by
      rw [e2,Qap,fl,Qac,Qbl,Qby];have:min j (chs m i).length * m<=j * m:=Qeb _ (Nat.min_le_left _ _);lia
     refine ⟨_,rfl,.inl ⟨rfl,_,SqL.of e6⟩,_,rfl,wi,_,_,rfl,rfl,e6,by rw [Qac];exact YL (by lia),?_⟩;refine ⟨_,_,rfl,?_,?_⟩
     ·rw [Qd4,Qav,<-Qb9]
      refine W5.snoc (p:=p) (fun d kv e=>?_) (fun es' h=>?_) ?_
      ·rw [Zj (X4 e e1 fun z=>nomatch z)]
       exact sp _ _ e
      ·rw [Za]
       rw [e1] at h;injection h with h;injection h with h;rw [h]
      ·rw [Zj hpw.symm,Za]
     ·exact ZU (s5.trans sp) N
    ·rintro σ H5 ⟨v6,v7,rfl,W5,s5⟩
     exact ⟨_,_,_,rfl,M,by rw [efm];exact W5,s5⟩
   ·rintro σ H4 ⟨v5,v6,v7,rfl,hj0,W4,s4⟩
    rw [Qac,d2,Qb8] at W4;exact ⟨_,rfl,Zh ⟨wi,_,_,_,_,_,rfl,Z,W4,s2.trans s4⟩⟩
  ·rintro σ H2 ⟨fo,u3,u4,L,D,C,rfl,hi0,D2,s2⟩
   rw [Qac,Qb8] at D2;exact ⟨_,rfl,k fo H2 D2 s2⟩
def Gs(K:Af):Sp:=fun vs H Q _=>∃(ps C:Aw) (nx:Ad) (ot:Az) (q:List (Ak)),vs=[.ref ps,.ref C]/\We H ps (nx.map JZ)/\We H C ot/\ot.map (fun r=>r.map vB)=q.map (fun k=>k.map some)/\ot.length=nx.length/\(∀row∈nx,row.length<=8/\∀s∈row,s < nx.length)/\1<=nx.length/\nx.length<=1000000 /\
 ∀p (cs:Aj) H',H p=none->H' p=some (.lst (cs.map Jr))->cs.length=nx.length->XH (G8 nx cs)=cs->XH cs=cs->gg q cs->cs=Zb4 nx q nx.length->ZC H H'->Q (.ref p) H'
theorem Gu (T:Txt K w mg t) (TB:Tbs mg base t):Y9 P w K mg base CX0 2 t.fj t.fk ["steps","out"] (Gs K):=by
 have D:=vx (P:=P) (base:=base) T TB;have I:=Jy (P:=P) (base:=base) T TB;refine T.bq.F.ok Ym (fun vs H Q E h=>?_) (fun cdv A outer s H vs Q E hr h=>?_)
 ·obtain ⟨ps,po,nx,ot,J,rfl,Rs,Ro,hk,hlo,hnx,h1,h2,k⟩:=h
  rfl
 ·obtain ⟨ps,po,nx,ot,J,rfl,Rs,Ro,hk,hlo,hnx,h1,h2,k⟩:=h
  have hu:=ZP hr;refine ⟨_,@QSs.out _ _ _ (Zb (Zp (i:=2) Ym.nd rfl (Or.inr rfl) (Zm D (hr.mono (by decide)) rfl T.ax.m T.ax.F.kp T.ax.b .nil ZH (Zk (qv 1) Zd)))
    (Zb (Zp (i:=3) Ym.nd rfl (Or.inl rfl) Zf)
    (Zb (zd Qbv (Zr gN (Zo Y1 (Zs (jC rfl) (by rfl) T.pk vP (Zk (qv 2) Zd)) Zf) (qv 3) (Z3 _))
    (Zb (Zp (i:=3) Ym.nd rfl (Or.inl rfl) (Zo Y1 (Zs (jC rfl) (by rfl) T.pk vP (Zk (qv 2) Zd)) Zf))
    (Ze (Zp (i:=2) Ym.nd rfl (Or.inr rfl) (Zm D (hr.mono (by decide)) rfl T.ax.m T.ax.F.kp T.ax.b .nil ZH (Zk (vY ({}:ZR (Zg Xt) _ ["steps","out","classes","many"] "mark" ["classes"] [2]) (⟨by rfl,by decide +kernel⟩:Two _ "mark" "row" ["classes"]) (qi_zip (b1:=false) (b2:=true) rfl T.vw (Zk (qv 2) (Zk (qv 0) Zd))) (fun _ _ _ _=>Xw) (fun _ _ _ _=>(Yj (Zk (qv 0) (Zk (Zm I (hr.mono (by decide)) rfl T.aq.m T.aq.F.kp T.aq.b .nil ZH (Zk (qv 1) (Zk (qv 2) Zd))) Zd))))) Zd))))))
    (Ze (Zn (qv 2)))))),?_⟩
  clear hu hr
  try dsimp only [L2.cxK,L2.cxK2]
  refine L2.let4 ?_;intro U3 U2 U1;obtain ⟨bo,hpo,hbo,hob⟩:=jS Ro;obtain ⟨bs,hps,hbs,hsb⟩:=jS Rs;have hkl:J.length=nx.length:=by
   have:=congrArg List.length hk;rw [Qac,Qac] at this;lia
  refine ⟨_,rfl,Ak,_,knT,po,bo,J,rfl,.inr hpo,by lia,fun i b kk hb M=>?_,by lia,fun p0 H1 hp0 hp1 s1=>?_⟩
  ·have hi:i < ot.length:=by have:=(Qaf.mp hb).1;lia
   refine ⟨_,hob i _ b (Qad hi) hb,?_⟩;have e:=congrArg (fun l=>l[i]?) hk;simp only [Qai,Qad hi,M] at e;exact Option.some.inj e
  rw [jT] at hp1;refine Zh ?_;have cls0:gg J (XH J):=fun i j a b ha hb e=>(zv ha hb).mp e;refine vc (fun σ H2=>∃(p:Aw) (cs:Aj) (C n:Nat),σ=[some (.ref ps),some (.ref po),some (.ref p),some (.int (C:Int))]/\H2 p=some (.lst (cs.map Jr))/\H p=none/\cs.length=nx.length/\XH cs=cs/\gg J cs/\cs=Zb4 nx J n/\n<=C/\C<=nx.length/\(C=0\/((Zy cs).length<=C->XH (G8 nx cs)=cs))/\ZC H H2) (fun σ _=>match σ with | [_,_,_,some (.int m)]=>nx.length - m.toNat | _=>0) ⟨p0,XH J,0,0,rfl,hp1,hp0,by rw [kg];exact hkl,GY J,cls0,rfl,Qag _,Qbc _,.inl rfl,s1⟩ ?_;rintro σ H2 ⟨p,cs,C,n,rfl,hp2,hpH,G,Z,hcls,hcn,hnm,hmy,hst,s2⟩;have hne:cs≠[]:=fun z=>by rw [z] at G;have:(0:Nat)=nx.length:=G;lia
  have mx:∀m∈(cs.map fun c:Nat=>(c:Int)),(∀n∈(cs.map fun c:Nat=>(c:Int)),n<=m)->m + 1=((Zy cs).length:Int):=by
   intro m hm hx;obtain ⟨c,hc,rfl⟩:=Qau.mp hm;have h3:c∈XH cs:=by rw [Z];exact hc
   have:=Zc3 h3 fun n hn=>by
    rw [Z] at hn;have:=hx _ (Qb2 hn);lia
   lia
  have L:H2 p=some (.lst ((cs.map fun c:Nat=>(c:Int)).map V.int)):=by rw [hp2,Qa3];rfl
  have hsl:(Zy cs).length<=nx.length:=by have:=kf cs;lia
  have hne':(cs.map fun c:Nat=>(c:Int))≠[]:=fun z=>hne (List.map_eq_nil_iff.mp z);refine ⟨_,rfl,p,_,rfl,SqL.of L,hne',fun m hm hx=>⟨_,_,rfl,rfl,_,rfl,_,_,rfl,rfl,_,rfl,?_⟩⟩;have em:=mx m hm hx;refine zc (fun hgt=>?_) (fun hgt=>?_)
  ·have hlt:C < (Zy cs).length:=by
    have:=Qbi hgt;lia
   refine ⟨fun σ' H'=>∃(p':Aw),σ'=[some (.ref ps),some (.ref po),some (.ref p'),some (.int ((Zy cs).length:Int))]/\H' p'=some (.lst ((XH (G8 nx cs)).map Jr))/\H p'=none/\ZC H H',?_,?_⟩
   ·rintro σ' H' ⟨p',rfl,hp',hpn,s'⟩
    refine ⟨nx.length - (Zy cs).length,?_,?_,p',XH (G8 nx cs),(Zy cs).length,n + 1,rfl,hp',hpn,?_,GY _,Zhe G hkl hcls,by rw [hcn];rfl,by lia,hsl,.inr fun Y=>?_,s'⟩
    ·show nx.length - (Zy cs).length < nx.length - (C:Int).toNat
     rw [Qbs];lia
    ·show _=nx.length - ((Zy cs).length:Int).toNat
     rw [Qbs]
    ·rw [kg,zD G,G]
    ·rw [uU] at Y
     have:=wN G Z Y;rw [this,this]
   ·refine ⟨_,rfl,p,_,rfl,SqL.of L,hne',fun m2 hm2 hx2=>⟨_,_,rfl,rfl,?_⟩⟩
    have em2:=mx m2 hm2 hx2
    try dsimp only
    rw [em2];have hps2:=s2 _ _ hps;refine ⟨_,rfl,_,rfl,p,ps,_,_,rfl,SqB.l L,SqB.t hps2,?_⟩;refine wI (xs:=(cs.map fun c:Nat=>(c:Int)).map V.int) (ys:=bs.map V.ref) (fun i zs H'=>∃ds:List Aw,zs=ds.map V.ref/\ds.length=i/\i<=nx.length/\(∀(j:Nat) (d:Aw) (kk:Int × Ak),ds[j]?=some d->(G8 nx cs)[j]?=some kk->uO H' kk d)/\ZC H2 H') ⟨[],rfl,rfl,Qbc _,(fun j d kk hd=>by cases hd),ZC.refl _⟩ ?_ ?_ ?_ ?_
    ·rintro i zs H' ⟨ds,rfl,hd,hi,_⟩
     rw [Qac,hd];exact Qa9 (YL (by lia))
    ·rintro i zs H' ⟨ds,_,_,_,_,s'⟩
     exact ⟨SqB.l (s' _ _ L),SqB.t (s' _ _ hps2)⟩
    ·rintro i x y q zs H3 R hR O hy' ⟨ds,rfl,S,hi,hpa,s3⟩ hq
     rw [Qai,Qai] at O;cases hc:cs[i]? with
     | none=>rw [hc] at O;cases O
     | some c =>
     rw [hc] at O;cases O;rw [Qai] at hy';obtain ⟨b,hb,rfl⟩:=Qba.mp hy';have hil:i < nx.length:=by have:=(Qaf.mp hc).1;lia
     have hrow:nx[i]?=some nx[i]:=Qad hil;have hbr:H b=some (.tup (JZ nx[i])):=hsb i _ b (by rw [Qai,hrow];rfl) hb;obtain ⟨r8,rlt⟩:=hnx nx[i] (Qbm hil);have sq:=Zc (o:=.tup [.int (c:Int),.ref b]) hq;have s4:=(s2.trans s3).trans sq;unfold Zch
     try dsimp only
     rw [Qa0 rfl];refine ⟨_,rfl,_,rfl,_,rfl,b,p,nx[i],cs.map fun c:Nat=>(c:Int),rfl,s4 _ _ hbr,(s3.trans sq) _ _ L,fun s hs=>by rw [Qac,G];exact rlt s hs,by lia,by rw [Qac];lia,fun t H5 ht0 ht s5=>⟨by show 2<=sizeLine;decide,fun d hd=>hR _ _ ⟨ds++[d],by rw [Qav];rfl,by rw [Qap,S];rfl,hil,fun j d' kk hj M=>?_,((s3.trans sq).trans s5).trans (Zc hd)⟩⟩⟩;have sd:=Zc (o:=.tup [.int (c:Int),.ref t]) hd;rw [List.getElem?_append] at hj
     split at hj
     ·have:=hpa j d' kk hj M
      exact knP.keep _ _ _ _ (fun b xs e=>((sq.trans s5).trans sd) _ _ e) this
     ·rename_i hnl
      have hji:j=i:=by
       have:=(Qaf.mp hj).1;rw [List.length_singleton] at this;lia
      subst hji;rw [S,Qe1] at hj;cases hj;rw [Js hc hrow] at M;cases M;refine ⟨t,Za,_,sd _ _ ht,?_⟩;rw [Qa3,Qa3,Qa3];refine Qbu fun s _=>?_;show some ((cs.map fun c:Nat=>(c:Int)).getD s 0)=some ((cs.getD s 0:Nat):Int);rw [Qaj,Qaj,Qai];cases cs[s]? <;> rfl
    ·rintro zs H3 ⟨ds,rfl,S,hi,hpa,s3⟩ l hl3
     have hzl:(((cs.map fun c:Nat=>(c:Int)).map V.int).zip (bs.map V.ref)).length=nx.length:=by
      rw [Qd3,Qac,Qac,Qac,G,hbs,Qac,Qgq]
     rw [hzl] at S;have sl:=Zc (o:=.lst (ds.map V.ref)) hl3;refine ⟨Int × Ak,_,knP,l,ds,G8 nx cs,rfl,.inl Za,by rw [zD G];lia,fun i b kk hb M=>knP.keep _ _ _ _ (fun b xs e=>sl _ _ e) (hpa i b kk hb M),by rw [zD G];lia,fun p' H6 hp6 hq6 s6=>?_⟩;rw [jT] at hq6;have s26:=(s2.trans s3).trans (sl.trans s6);exact ⟨p',rfl,hq6,(s2.trans s3).free (sl.free hp6),s26⟩
  ·have Y:(Zy cs).length<=C:=by
    have:¬(C:Int) < m + 1:=fun z=>hgt (Qao z);lia
   have N:=hst.resolve_left (fun z=>by
    have:(0:Int) < m + 1:=by
     obtain ⟨c,_,rfl⟩:=Qau.mp hm;lia
    lia) Y
   exact ⟨_,rfl,k p cs H2 hpH hp2 G N Z hcls (by rw [hcn] at N ⊢;exact (Zdu N (by lia)).symm) s2⟩
def v8(K:Af):Sp:=fun vs H Q _=>∃(k:Key),vs=[kV k]/\Q (.int (Xy k)) H
theorem vA (T:Txt K w mg t) (G:Tbs mg base t):Y9 P w K mg base CX0 2 t.oz t.pb ["word"] (v8 K):=by
 have C:=xm (P:=P) (base:=base) T G;have q:=Gr (P:=P) (base:=base) T G;refine T.dn.F.ok vp (fun vs H Q E h=>?_) (fun I A outer s H vs Q E hr h=>?_)
 ·obtain ⟨D,rfl,k⟩:=h
  rfl
 ·obtain ⟨D,rfl,k⟩:=h
  have J:=ZP hr;refine ⟨_,@QSs.out _ _ _ (Ze (Zn (Zo Y1 (Zm C (hr.mono (by decide)) rfl T.cb.m T.cb.F.kp T.cb.b .nil ZH (Zk (qv 0) Zd)) (Zm q (hr.mono (by decide)) rfl T.bp.m T.bp.F.kp T.bp.b .nil ZH (Zk (qv 0) Zd))))),?_⟩;exact ⟨_,rfl,D,rfl,_,rfl,D,rfl,_,_,rfl,rfl,k⟩
def gs(K:Af):Sp:=fun vs H Q _=>∃(y:Str),vs=[.str y]/\y.length<=100000/\∀H',ZC H H'->Q (.bl (decide (y∉ZJ/\NmL y))) H'
theorem Zd8{y:Str}:NmL y↔y.length<=8/\xQ y gx:=by
 constructor
 ·intro h
  refine ⟨h.1.2,fun z=>?_,h.2⟩;have h1:=h.1.1;rw [len_signs,z] at h1;exact absurd h1 (by decide)
 ·intro h
  refine ⟨⟨?_,h.1⟩,h.2.2⟩;rw [len_signs];cases e:y.cps.toList with
  | nil=>exact absurd e h.2.1
  | cons a r=>exact Nat.succ_le_succ (Qbc _)
theorem gu (T:Txt K w mg t) (I:Tbs mg base t):Y9 P w K mg base CX0 2 t.rf t.rg ["text"] (gs K):=by
 have D:=zY (P:=P) (base:=base) T I;have q:=Gp (P:=P) (base:=base) T I;have C:=xk (P:=P) (base:=base) T I;refine T.dw.F.ok gp (fun vs H Q E h=>?_) (fun L A outer s H vs Q E hr h=>?_)
 ·obtain ⟨y,rfl,hl,k⟩:=h
  rfl
 ·obtain ⟨y,rfl,hl,k⟩:=h
  have N:=ZP hr;refine ⟨_,@QSs.out _ _ _ (Zb (ZF (qT (Zcg (Xv (Zm C (hr.mono (by decide)) rfl T.bz.m T.bz.F.kp T.bz.b .nil ZH (Zk (qv 0) Zd))) (vK (Xv (Zm q (hr.mono (by decide)) rfl T.bj.m T.bj.F.kp T.bj.b .nil ZH (Zk (qv 0) Zd))))))
    (Ze (Zn X8)) Zx)
    (Ze (Zn (vL (YB Zit (Zs jq (by rfl) T.ak YA (Zk (qv 0) Zd)) (XN (v:=.int 8) rfl T.rr ⟨_,rfl⟩) (Z3 _)) (GO (Zm D (hr.mono (by decide)) rfl T.cu.m T.cu.F.kp T.cu.b .nil ZH (Zk (qv 0) (Zk (XN (v:=.str "abcdefghijklmnopqrstuvwxyz") rfl T.sy ⟨_,rfl⟩) Zd)))))))),?_⟩
  refine L2.let2 ?_;intro M
  by_cases h1:y∈ZJ
  ·have e:decide (y∉ZJ/\NmL y)=false:=Qaq fun z=>z.1 h1
   rw [e] at k;refine ⟨_,rfl,y,rfl,_,rfl,?_⟩
   by_cases h2:y∈Jo
   ·rw [Qao h2]
    exact Y3 (Y3 (k H (ZC.refl H)))
   ·rw [Qaq h2]
    have G:y∈Z2:=((vd y).mp h1).resolve_left h2;refine ZI ⟨_,rfl,.inr y,rfl,_,rfl,?_⟩;rw [show clK (.inr y)=true from Qao G];exact Y3 (k H (ZC.refl H))
  ·have h2:y∉Jo:=fun z=>h1 ((vd y).mpr (.inl z))
   have G:y∉Z2:=fun z=>h1 ((vd y).mpr (.inr z));refine ⟨_,rfl,y,rfl,_,rfl,?_⟩;rw [Qaq h2];refine ZI ⟨_,rfl,.inr y,rfl,_,rfl,?_⟩;rw [show clK (.inr y)=false from Qaq G];refine ZI ?_;refine ⟨_,rfl,y,rfl,Qaz hl (by decide),_,_,rfl,rfl,_,rfl,?_⟩
   by_cases J:y.length<=8
   ·rw [Qao (show (y.length:Int)<=8 by lia)]
    refine Y3 ⟨_,rfl,y,gx,rfl,hl,fun H' s'=>?_⟩;have e:decide (xQ y gx)=decide (y∉ZJ/\NmL y):=by
     rw [Qfl,Qer,Qer,Zd8];exact ⟨fun z=>⟨h1,J,z⟩,fun z=>z.2.2⟩
    rw [e];exact k H' s'
   ·rw [Qaq (show ¬(y.length:Int)<=8 by lia)]
    have e:decide (y∉ZJ/\NmL y)=false:=Qaq fun z=>J z.2.1.2;rw [e] at k;exact ZI (k H (ZC.refl H))
def qO(K:Af):Sp:=fun vs H Q _=>∃(C tl:Aw) (ys:Ai) (L:Nat),vs=[.ref C,.ref tl]/\H C=some (.tup (ys.map V.str))/\ys.Nodup/\ys.length<=10/\H tl=some (.lst ((List.range L).map fun i:Nat=>V.int (i:Int)))/\L<=100 /\
 ∀q kvs H',H q=none->H' q=some (.dK kvs)->Zar kvs ys (Y8 L ys)->ZC H H'->Q (.ref q) H'
theorem qP (T:Txt K w mg t) (TB:Tbs mg base t):Y9 P w K mg base CX0 2 t.gj t.ia ["names","letters"] (qO K):=by
 have C:=yl (P:=P) (base:=base) T TB;refine T.bw.F.ok YI (fun vs H Q E h=>?_) (fun cdv A outer s H vs Q E hr h=>?_)
 ·obtain ⟨O,tl,ys,L,rfl,hn,M,Z,hl,hL,k⟩:=h
  rfl
 ·obtain ⟨O,tl,ys,L,rfl,hn,M,Z,hl,hL,k⟩:=h
  have hu:=ZP hr;refine ⟨_,@QSs.out _ _ _ (Zb (Zp (i:=2) YI.nd rfl (Or.inl rfl) GR)
    (Zb (YW Qbv rfl (Zcp rfl T.og (qv 0)) (yG rfl (Yd (i:=3) YI.nd rfl (Or.inr rfl)) (Yd (i:=4) YI.nd rfl (Or.inl rfl)))
    (Ze (GS hu (qv 2) (qv 4) (Zm C (hr.mono (by decide)) rfl T.cz.m T.cz.F.kp T.cz.b .nil ZH (Zk (Z8 Z6 (by rfl) T.ao Yw (Zk (YO ({}:ZR (Zg X7) _ ["names","letters","columns","place","name"] "letter" ["place"] [3]) (Xm (qv 1)) (fun _ _ _ _=>Xw) (fun _ _ _ _=>(Zo Xb (Zo vI (qv 0) (qv 1)) Zf))) Zd)) Zd)) rfl)))
    (Ze (Zn (qv 2))))),?_⟩
  refine L2.let3 ?_;intro U2 U1;refine fun N G=>Zh ?_;have s1:=Zc (o:=.dK []) G;refine ⟨_,rfl,O,_,rfl,SqT.of (s1 _ _ hn),Zcq (K:=K) (a:=O) (xs:=ys.map V.str) (fun i σ H2=>∃(kvs:A0) (u3 u4:Option V),σ=[some (.ref O),some (.ref tl),some (.ref N),u3,u4]/\H2 N=some (.dK kvs)/\Zar kvs (ys.take i) (Y8 L ys)/\kvs.length<=i/\i<=ys.length/\ZC H H2) ⟨[],none,none,rfl,Za,⟨fun y h=>(by cases h),fun y _=>rfl⟩,Qag _,Qbc _,s1⟩ (fun i σ H2 _ ⟨_,_,_,_,_,_,_,_,s⟩=>SqT.of (s _ _ hn)) ?_ ?_⟩
  ·rintro i x σ H2 p hx hp ⟨kvs,u3,u4,rfl,h2,hc,Y,_,s2⟩
   rw [Qai] at hx;obtain ⟨y,S,rfl⟩:=Qba.mp hx;have hi:=(Qaf.mp S).1;have s3:=s2.trans (Zc (o:=.tup [.int (i:Int),.str y]) hp);have h3:=Zc (o:=.tup [.int (i:Int),.str y]) hp _ _ h2;have J:=s3 _ _ hl;refine ⟨_,rfl,tl,rfl,⟨_,SqL.of J⟩,comp_map (xs:=(List.range L).map fun i:Nat=>V.int (i:Int)) (fI fun c=>V.int (bt c i)) (SqL.of J) (by rw [Qac,Qbl];exact Qa9 (Z1 (by lia))) (fun v hv R hR=>?_) (fun q hq=>?_)⟩
   ·obtain ⟨c,_,rfl⟩:=Qau.mp hv
    refine ⟨_,rfl,_,rfl,_,_,rfl,rfl,Qdc i,_,_,rfl,rfl,?_⟩;have e:fI (fun c=>V.int (bt c i)) (V.int (c:Int))=V.int (Builtin.bitAnd ((c:Int) / 2 ^ (i:Int).toNat) 1):=by
     rw [and_1,Qbs]
     rfl
    rw [e] at hR;exact hR
   have ex:((List.range L).map fun i:Nat=>V.int (i:Int)).map (fI fun c=>V.int (bt c i))=((List.range L).map fun l:Nat=>bt (l:Int) i).map V.int:=by
    rw [Qa3,Qa3]
    rfl
   rw [ex];have s4:=Zc (o:=.lst (((List.range L).map fun l:Nat=>bt (l:Int) i).map V.int)) hq;refine ⟨q,_,rfl,.inl ⟨SqL.of Za,fun t ht=>?_⟩⟩;have s5:=s4.trans (Zc (o:=.tup (((List.range L).map fun l:Nat=>bt (l:Int) i).map V.int)) ht);have h5:=s5 _ _ h3;refine ⟨t,(List.range L).map fun l:Nat=>bt (l:Int) i,rfl,SqT.of Za,?_⟩;have hv:hor ((List.range L).map fun l:Nat=>bt (l:Int) i).reverse=Y8 L ys y:=by
    unfold Y8;rw [Wc M S]
   rw [hv];have lp:=XR kvs (.inr y) (.int (Y8 L ys y));refine ⟨_,rfl,_,rfl,N,_,rfl,Zcl.k (k:=.inr y) h5 (Z1 (by lia)),putK kvs (.inr y) (.int (Y8 L ys y)),_,_,rfl,Za,⟨fun z I=>?_,fun z I=>?_⟩,by lia,hi,ZU (s3.trans s5) G⟩
   ·rw [take_snoc S] at I
    rw [G2]
    by_cases D:z=y
    ·rw [Qa0 (by rw [D]),D]
    ·rw [Qaw (fun e=>D (Sum.inr.inj e))]
     rcases Qca.mp I with h | h
     ·exact hc.1 z h
     ·exact absurd (Qat.mp h) D
   ·rw [take_snoc S] at I
    rw [G2,Qaw (fun e=>I (Qca.mpr (.inr (Qat.mpr (Sum.inr.inj e)))))];exact hc.2 z fun h=>I (Qca.mpr (.inl h))
  ·rintro σ H2 ⟨kvs,u3,u4,rfl,h2,hc,Y,_,s2⟩
   rw [Qac,Qb8] at hc;exact ⟨_,rfl,k N kvs H2 G h2 hc s2⟩
def yw(K:Af):Sp:=fun vs H Q _=>∃(y:Str) (p:Aw) (is:Ak) (h:Int),vs=[.str y,.ref p,.int h]/\H p=some (.lst (is.map V.int))/\1<=is.length/\y∈allR/\(y∈Zhc->2<=is.length)/\∀H',ZC H H'->Q (.int (ktI y is h)) H'
theorem yx (T:Txt K w mg t) (S:Tbs mg base t):Y9 P w K mg base CX0 2 t.ni t.nj ["word","parts","held"] (yw K):=by
 have C:=qN (P:=P) (base:=base) T S;refine T.dg.F.ok Gb (fun vs H Q E h=>?_) (fun O A outer s H vs Q E hr h=>?_)
 ·obtain ⟨y,p,is,h,rfl,hp,l1,L,l2,k⟩:=h
  rfl
 ·obtain ⟨y,p,is,h,rfl,hp,l1,L,l2,k⟩:=h
  have hu:=ZP hr;refine ⟨_,@QSs.out _ _ _ (Zb (Zp (i:=3) Gb.nd rfl (Or.inl rfl) (Z4 Zw (qv 1) Zf (fun _ _=>rfl)))
    (Zb (ZF (Zr Yy (qv 0) Zi (Z3 _))
    (Ze (Zn (qv 3))) Zx)
    (Zb (ZF (Zr Yc (qv 0) (Yj (Zk Zi (Zk Zi (Zk Zi Zd)))) (by with_unfolding_all rfl))
    (Ze (Zn (Zo qS (qv 3) (qv 2)))) Zx)
    (Zb (ZF (Zr Yy (qv 0) Zi (Z3 _))
    (Ze (Zn (Zo qS (Zo GD (qv 3) (Z4 Zw (qv 1) Zf (fun _ _=>rfl))) (qv 2)))) Zx)
    (Zb (ZF (Zr Yy (qv 0) Zi (Z3 _))
    (Ze (Zn (Zo qS (Zo Xb (qv 3) (Z4 Zw (qv 1) Zf (fun _ _=>rfl))) (Zo Xb (qv 2) (Zo qS (qv 3) (Z4 Zw (qv 1) Zf (fun _ _=>rfl))))))) Zx)
    (Ze (Zn (Zm C (hr.mono (by decide)) rfl T.ay.m T.ay.F.kp T.ay.b .nil ZH (Zk (qv 3) (Zk (Z4 Zw (qv 1) Zf (fun _ _=>rfl)) (Zk (qv 2) Zd))))))))))),?_⟩
  refine L2.let6 ?_;intro U5 Y Z U2 U1;have J:¬y = "twice" -> ¬(y = "neg" \/ y = "low" \/ y = "nought")->y∈Zhc:=Zap y L;unfold ktI at k;refine ⟨_,rfl,p,_,0,_,rfl,rfl,SqL.of hp,Z9 0 rfl l1,Zh ⟨_,rfl,rfl,_,rfl,?_⟩⟩
  by_cases h1:y = "twice"
  ·rw [Qao (congrArg V.str h1)]
   rw [Qa0 h1] at k;refine Y3 ?_;exact ⟨_,rfl,k H (ZC.refl _)⟩
  rw [Qaq (fun z=>h1 (by injection z))];rw [Qaw h1] at k;refine ZI ⟨_,rfl,by decide,fun q N=>⟨q,_,rfl,.inr (SqT.of Za),rfl,rfl,_,rfl,?_⟩⟩;show if inV (.str y) ((["neg","low","nought"]:Ai).map V.str)=true then _ else _;rw [ZA];have D:=Zc (o:=.tup [.str "neg",.str "low",.str "nought"]) N;have pq:=D _ _ hp;generalize upd H q (.tup [.str "neg",.str "low",.str "nought"])=H1 at *
  by_cases h2:y = "neg" \/ y = "low" \/ y = "nought"
  ·rw [Qao (by grind)]
   rw [Qa0 h2] at k;refine Y3 ?_;exact ⟨_,rfl,_,rfl,_,_,rfl,rfl,k H1 D⟩
  rw [Qaq (by grind)];rw [Qaw h2] at k;refine ZI ⟨_,rfl,rfl,_,rfl,?_⟩
  by_cases I:y = "same"
  ·rw [Qao (congrArg V.str I)]
   rw [Qa0 I] at k;refine Y3 ?_;exact ⟨_,rfl,_,rfl,p,_,1,_,rfl,rfl,SqL.of pq,Z9 1 rfl (l2 (by rw [I];decide +kernel)),_,_,rfl,rfl,_,rfl,_,_,rfl,rfl,k H1 D⟩
  rw [Qaq (fun z=>I (by injection z))];rw [Qaw I] at k;refine ZI ⟨_,rfl,rfl,_,rfl,?_⟩
  by_cases G:y = "add"
  ·rw [Qao (congrArg V.str G)]
   rw [Qa0 G] at k;refine Y3 ?_;have M:=l2 (by rw [G];decide +kernel);exact ⟨_,rfl,_,rfl,p,_,1,_,rfl,rfl,SqL.of pq,Z9 1 rfl M,_,_,rfl,rfl,_,rfl,_,rfl,_,rfl,p,_,1,_,rfl,rfl,SqL.of pq,Z9 1 rfl M,_,_,rfl,rfl,_,_,rfl,rfl,_,_,rfl,rfl,k H1 D⟩
  rw [Qaq (fun z=>G (by injection z))];rw [Qaw G] at k;exact ZI ⟨_,rfl,_,rfl,p,_,1,_,rfl,rfl,SqL.of pq,Z9 1 rfl (l2 (J h1 h2)),_,rfl,_,_,_,rfl,k H1 D⟩
def xu(K:Af):Sp:=fun vs H Q _=>∃(y:Str) (p:Aw) (is:Ak) (h n:Int),vs=[.str y,.ref p,.int h,.int n]/\H p=some (.lst (is.map V.int))/\1<=is.length/\y∈allR/\(y∈Zhc->2<=is.length)/\∀H',ZC H H'->Q (.int (okI y is h n)) H'
theorem xw (T:Txt K w mg t) (TB:Tbs mg base t):Y9 P w K mg base CX0 2 t.ka t.kd ["word","parts","held","then"] (xu K):=by
 have C:=qN (P:=P) (base:=base) T TB;refine T.cj.F.ok xh (fun vs H Q E h=>?_) (fun Y A outer s H vs Q E hr h=>?_)
 ·obtain ⟨y,p,is,h,n,rfl,hp,l1,N,l2,k⟩:=h
  rfl
 ·obtain ⟨y,p,is,h,n,rfl,hp,l1,N,l2,k⟩:=h
  have Z:=ZP hr;refine ⟨_,@QSs.out _ _ _ (Zb (ZF (Zr Yc (qv 0) (Yj (Zk Zi (Zk Zi Zd))) (by with_unfolding_all rfl))
    (Ze (Zn (Zo GD (Zo GD (Z4 Zw (qv 1) Zf (fun _ _=>rfl)) (Z4 Zw (qv 1) Zf (fun _ _=>rfl))) (qv 2)))) Zx)
    (Zb (ZF (Zr Yy (qv 0) Zi (Z3 _))
    (Ze (Zn (Zo GD (Z4 Zw (qv 1) Zf (fun _ _=>rfl)) (qv 2)))) Zx)
    (Zb (ZF (Zr Yy (qv 0) Zi (Z3 _))
    (Ze (Zn (qv 2))) Zx)
    (Zb (ZF (Zr Yy (qv 0) Zi (Z3 _))
    (Ze (Zn (Zo Xb (Z4 Zw (qv 1) Zf (fun _ _=>rfl)) (Ge GF (qv 2))))) Zx)
    (Zb (ZF (Zr Yc (qv 0) (Yj (Zk Zi (Zk Zi Zd))) (by with_unfolding_all rfl))
    (Ze (Zn (Ge GF (qv 3)))) Zx)
    (Zb (ZF (Zr Yy (qv 0) Zi (Z3 _))
    (Ze (Zn (qv 3))) Zx)
    (Ze (Zn (Zm C (hr.mono (by decide)) rfl T.ay.m T.ay.F.kp T.ay.b .nil ZH (Zk (Z4 Zw (qv 1) Zf (fun _ _=>rfl)) (Zk (Z4 Zw (qv 1) Zf (fun _ _=>rfl)) (Zk (qv 2) Zd)))))))))))),?_⟩
  clear Z;refine L2.let7 ?_;intro U6 U5 U4 U3 U2 U1;unfold okI at k;refine ⟨_,rfl,by decide,fun q S=>⟨q,_,rfl,.inr (SqT.of Za),rfl,rfl,_,rfl,?_⟩⟩;show if inV (.str y) ((["add","sub"]:Ai).map V.str)=true then _ else _;rw [ZA];have D:=Zc (o:=.tup [.str "add",.str "sub"]) S;have pq:=D _ _ hp;generalize upd H q (.tup [.str "add",.str "sub"])=H1 at *
  by_cases h1:y = "add" \/ y = "sub"
  ·rw [Qao (by grind)]
   rw [Qa0 h1] at k;refine Y3 ?_;have l3:2<=is.length:=l2 (by rcases h1 with h | h <;> rw [h] <;> decide +kernel);exact ⟨_,rfl,p,_,0,_,rfl,rfl,SqL.of pq,Z9 0 rfl l1,_,rfl,p,_,1,_,rfl,rfl,SqL.of pq,Z9 1 rfl l3,_,_,rfl,rfl,_,rfl,_,_,rfl,rfl,k H1 D⟩
  rw [Qaq (by grind)];rw [Qaw h1] at k;refine ZI ⟨_,rfl,rfl,_,rfl,?_⟩
  by_cases h2:y = "neg"
  ·rw [Qao (congrArg V.str h2)]
   rw [Qa0 h2] at k;refine Y3 ?_;exact ⟨_,rfl,p,_,0,_,rfl,rfl,SqL.of pq,Z9 0 rfl l1,_,rfl,_,_,rfl,rfl,k H1 D⟩
  rw [Qaq (fun z=>h2 (by injection z))];rw [Qaw h2] at k;refine ZI ⟨_,rfl,rfl,_,rfl,?_⟩
  by_cases G:y = "twice"
  ·rw [Qao (congrArg V.str G)]
   rw [Qa0 G] at k;refine Y3 ?_;exact ⟨_,rfl,k H1 D⟩
  rw [Qaq (fun z=>G (by injection z))];rw [Qaw G] at k;refine ZI ⟨_,rfl,rfl,_,rfl,?_⟩
  by_cases L:y = "low"
  ·rw [Qao (congrArg V.str L)]
   rw [Qa0 L] at k;refine Y3 ?_;exact ⟨_,rfl,p,_,0,_,rfl,rfl,SqL.of pq,Z9 0 rfl l1,_,rfl,_,rfl,_,_,rfl,rfl,k H1 D⟩
  rw [Qaq (fun z=>L (by injection z))];rw [Qaw L] at k;refine ZI ⟨_,rfl,by decide,fun r hr=>⟨r,_,rfl,.inr (SqT.of Za),rfl,rfl,_,rfl,?_⟩⟩;show if inV (.str y) ((["same","nought"]:Ai).map V.str)=true then _ else _;rw [ZA];have J:=Zc (o:=.tup [.str "same",.str "nought"]) hr;have O:=J _ _ pq;generalize upd H1 r (.tup [.str "same",.str "nought"])=H2 at *
  by_cases M:y = "same" \/ y = "nought"
  ·rw [Qao (by simp only [Qam,Qa7,Qdl];exact M)]
   rw [Qa0 M] at k;refine Y3 ?_;exact ⟨_,rfl,_,rfl,k H2 (D.trans J)⟩
  rw [Qaq (by simp only [Qam,Qa7,Qdl];exact M)];rw [Qaw M] at k;refine ZI ⟨_,rfl,rfl,_,rfl,?_⟩
  by_cases I:y = "under"
  ·rw [Qao (congrArg V.str I)]
   rw [Qa0 I] at k;refine Y3 ?_;exact ⟨_,rfl,k H2 (D.trans J)⟩
  rw [Qaq (fun z=>I (by injection z))];rw [Qaw I] at k;exact ZI ⟨_,rfl,p,_,1,_,rfl,rfl,SqL.of O,Z9 1 rfl (l2 (Zap y N G (fun z=>by grind))),_,rfl,p,_,0,_,rfl,rfl,SqL.of O,Z9 0 rfl l1,_,rfl,_,_,_,rfl,k H2 (D.trans J)⟩
def yy(K:Af):Sp:=fun vs H Q _=>∃(m:Aw) (nm:Ai) (nx:Ad) (ot:Az) (W:Nat),vs=[.ref m,.int (W:Int)]/\M4 H m nm 0 nx ot/\Wf nm 0 nx ot true/\W<=12/\∀p H',H' p=some (.lst ((List.range W).map fun i=>V.int ((SQ (2 ^ nm.length) (i + 1) fun ls=>if (rnO nx ot 0 ls)[i]?=some (.bl true) then 1 else 0:Nat):Int)))->ZC H H'->Q (.ref p) H'
theorem yz (T:Txt K w mg t) (TB:Tbs mg base t):Y9 P w K mg base CX0 2 t.nq t.nt ["machine","many"] (yy K):=by
 have C:=xq (P:=P) (base:=base) T TB;refine T.dh.F.ok Y7 (fun vs H Q E h=>?_) (fun cdv A outer s H vs Q E hr h=>?_)
 ·obtain ⟨m,nm,nx,ot,W,rfl,M,D,hW,k⟩:=h
  rfl
 ·obtain ⟨m,nm,nx,ot,W,rfl,M,D,hW,k⟩:=h
  have hu:=ZP hr;refine ⟨_,@QSs.out _ _ _ (Zb (Zp (i:=2) Y7.nd rfl (Or.inl rfl) (uL (vV (Z4 Yb (qv 0) Zf (fun _ _=>rfl)) Zf uK) rfl rfl (fun z=>nomatch z) (by decide)))
    (Zb (Zp (i:=3) Y7.nd rfl (Or.inr rfl) (YO ({}:ZR (Zg XT) _ ["machine","many","ways","holding_letters","counts","width"] "row" [] []) (WG (Z4 Yb (qv 0) Zf (fun _ _=>rfl))) (fun _ _ _ _=>Xw) (fun _ _ _ _=>(Zjc PySem.F.slot_tuple_count PySem.F.type_tuple_count Zaa (qv 0) (Zk X8 Zd)))))
    (Zb (Zp (i:=4) Y7.nd rfl (Or.inl rfl) (ZQ Zd))
    (Zb (YW Qbv rfl (Xn rfl T.bh (Zk (qv 1) Zd)) (Yd (i:=5) Y7.nd rfl (Or.inl rfl))
    (Zb (Yh (Y4 Qar Qa4 Qa5 ZE (qv 4) (Zk (Zs (ua rfl) (by rfl) T.vr L2.bt_sum (Zk (vY ({}:ZR (Zg XT) _ ["machine","many","ways","holding_letters","counts","width"] "state" ["holding_letters"] [3]) (⟨by rfl,by decide +kernel⟩:Two _ "state" "times" ["holding_letters"]) (km (qv 2)) (fun _ _ _ _=>Xw) (fun _ _ _ _=>(Zo YN (qv 1) (Z4 (show IxR _ (Zjv K) from Zw) (qv 2) (qv 0) (fun _ _=>rfl))))) Zd)) Zd)))
    (Ze (Zp (i:=2) Y7.nd rfl (Or.inl rfl) (Zm C (hr.mono (by decide)) rfl T.cf.m T.cf.F.kp T.cf.b .nil ZH (Zk (qv 2) (Zk (Z4 Yb (qv 0) Zf (fun _ _=>rfl)) Zd)))))))
    (Ze (Zn (qv 4))))))),?_⟩
  clear hu hr
  try dsimp only [L2.cxK,L2.cxK2]
  refine L2.let5 ?_;intro U4 U3 U2 U1;obtain ⟨pn,ps,po,hm,hn,R,O⟩:=M.ex;have rb:∀s,s < nx.length->(ot.getD s []).length=2 ^ nm.length/\∀v∈ot.getD s [],∃b:Bool,v=.bl b:=fun s hs=>by
   have L:=getD_mem (show s < ot.length by rw [D.ol];exact hs);refine ⟨D.or _ L,fun v hv=>?_⟩;rcases D.ok _ L v hv with ⟨_,b,e⟩ | ⟨z,_⟩
   ·exact ⟨b,e⟩
   ·cases z
  have rn:∀s,s < nx.length->(nx.getD s []).length=2 ^ nm.length:=fun s hs=>D.nr _ (getD_mem hs);have rs:∀ls:Aj,(∀x∈ls,x < 2 ^ nm.length)->stN nx 0 ls < nx.length:=fun ls h=>Ze9 ⟨D.b,D.ol,D.nr,D.nl,D.or⟩ D.b h;refine fun d hd=>⟨_,rfl,m,_,1,_,rfl,rfl,SqT.of (Zc hd _ _ hm),rfl,Za,[(.inl 0,.int 1)],rfl,by decide,Zh ?_⟩;rw [xY,show GQ [] [((.inl 0:Key),V.int 1)]=dW [(0,1)] from rfl];have s1:=Zc (o:=.dK (dW [(0,1)])) hd;have hd1:upd H d (.dK (dW [(0,1)])) d=some (.dK (dW [(0,1)])):=Za;generalize upd H d (.dK (dW [(0,1)]))=H1 at *;obtain ⟨as,o1,o2,o3⟩:=O.same s1;have asl:as.length<=1000000:=by rw [o2,D.ol];exact D.le
  refine ⟨_,rfl,m,_,3,_,rfl,rfl,SqT.of (s1 _ _ hm),rfl,po,rfl,⟨_,SqT.of o1⟩,XQ (xs:=as) (fun i zs H'=>zs=(List.range i).map (fun s=>V.int (XG ot s:Int))/\i<=as.length/\H'=H1) ⟨rfl,Qbc _,rfl⟩ (fun i zs H' ⟨e,hi,_⟩=>by rw [e,Qac,Qbl];exact Qa9 (YL (by lia))) (fun i zs H' ⟨_,_,e⟩=>by rw [e];exact SqT.of o1) ?_ ?_⟩
  ·rintro i x zs H' N hN hx ⟨rfl,hi,rfl⟩
   have hil:i < ot.length:=by rw [<-o2];exact (Qaf.mp hx).1
   obtain ⟨ra,e1,e2⟩:=o3 i ot[i] (Qad hil);rw [hx] at e1;cases e1;have hg:ot.getD i []=ot[i]:=by rw [Qaj,Qad hil];rfl
   refine Zjn ⟨_,rfl,ra,_,rfl,e2,ra,_,_,rfl,rfl,e2,rfl,Qce.mpr fun v hv=>?_,hN _ _ ⟨?_,by lia,rfl⟩⟩
   ·obtain ⟨b,rfl⟩:=(rb i (by rw [<-D.ol];exact hil)).2 v (by rw [hg];exact hv)
    rfl
   ·rw [Qd4,Qav]
    show _=_++[V.int (XG ot i:Int)];unfold XG;rw [hg]
  rintro zs H' ⟨rfl,_,e⟩ hl Y;have asn:as.length=nx.length:=by rw [o2,D.ol]
  rw [e] at Y ⊢;rw [asn];refine Zh ⟨by show 0<=sizeLine;decide,fun c hc=>Zh ?_⟩;have s2:=Zc (o:=.lst ((List.range nx.length).map fun s=>V.int (XG ot s:Int))) Y;have s3:=Zc (o:=.lst []) hc;have hd3:=s3 _ _ (s2 _ _ hd1);have hl3:=s3 _ _ (Za (H:=H1) (a:=hl) (o:=.lst ((List.range nx.length).map fun s=>V.int (XG ot s:Int))));have hc3:=Za (H:=upd H1 hl (.lst ((List.range nx.length).map fun s=>V.int (XG ot s:Int)))) (a:=c) (o:=.lst []);have s13:=s1.trans (s2.trans s3);have hcn:H c=none:=(s1.trans s2).free hc;have hln:H hl=none:=s1.free Y;have hlc:hl≠c:=fun z=>by rw [z,Za] at hc;cases hc
  generalize upd (upd H1 hl (.lst ((List.range nx.length).map fun s=>V.int (XG ot s:Int)))) c (.lst [])=H3 at *;refine ⟨_,rfl,(W:Int),rfl,by lia,by lia,Xi (fun i σ H'=>∃(d:Aw) (kvs:List (Nat × Nat)) (u5:Option V),σ=[some (.ref m),some (.int (W:Int)),some (.ref d),some (.ref hl),some (.ref c),u5]/\H' d=some (.dK (dW kvs))/\H d=none/\gk nx (2 ^ nm.length) i kvs/\H' hl=some (.lst ((List.range nx.length).map fun s=>V.int (XG ot s:Int)))/\H' c=some (.lst ((List.range i).map fun i=>V.int ((SQ (2 ^ nm.length) (i + 1) fun ls=>if (rnO nx ot 0 ls)[i]?=some (.bl true) then 1 else 0:Nat):Int)))/\ZC H H') ⟨d,_,none,rfl,hd3,hd,gk.one D.b,hl3,hc3,s13⟩ ?_ ?_⟩
  ·rintro i σ Z hi ⟨d,kvs,u5,rfl,I,hdn,Wy,hl4,G,s4⟩
   rw [Qbs] at hi;have kl:kvs.length<=1000000:=Qaz Wy.len D.le;have hdl:hl≠d:=X4 hl4 I fun z=>nomatch z;have S:c≠d:=X4 G I fun z=>nomatch z;refine ⟨_,rfl,.inl ⟨rfl,_,SqL.of G⟩,_,rfl,d,_,rfl,.inl I,fun o=>?_⟩;have h5l:upd Z d (.frz o (.dK (dW kvs))) hl=some (.lst ((List.range nx.length).map fun s=>V.int (XG ot s:Int))):=by rw [Zj hdl];exact hl4
   have h5c:=(Zj (H:=Z) (o:=.frz o (.dK (dW kvs))) S).trans G;have s5:ZC H (upd Z d (.frz o (.dK (dW kvs)))):=ZU s4 hdn;have h5d:upd Z d (.frz o (.dK (dW kvs))) d=some (.frz o (.dK (dW kvs))):=Za;generalize upd Z d (.frz o (.dK (dW kvs)))=H5 at *;refine yZ (f:=fun j=>V.int ((((kvs.getD j (0,0)).2 * XG ot (kvs.getD j (0,0)).1:Nat)):Int)) h5d (by rw [kR];exact Qa9 (YL (by lia))) (fun j q0 J R hq s6 hR=>?_) (fun q J hqn hq s6=>?_)
   ·obtain ⟨q,hqi,rfl⟩:∃q,kvs[j]?=some q/\((Sum.inl (q.1:Int):Key),V.int (q.2:Int))=q0:=by
     unfold dW at hq;rw [Qai] at hq;exact Qba.mp hq
    have hqm:=Qas hqi;have hqn:=Wy.lt q hqm;have hqg:kvs.getD j (0,0)=q:=by rw [Qaj,hqi];rfl
    have hle:q.2<=8 ^ 12:=Qaz (Wy.le hqm) (Qaz (Nat.pow_le_pow_left (p8 D.n3) i) (Qdf (by decide) (by lia)));have hho:XG ot q.1<=8:=by
     unfold XG;refine Qaz List.countP_le_length ?_;rw [(rb q.1 hqn).1];exact p8 D.n3
    have hR:=hR J (ZC.refl J);rw [hqg] at hR;refine ⟨_,rfl,_,rfl,_,rfl,hl,_,_,_,rfl,rfl,SqL.of (s6 _ _ h5l),Xj (v:=V.int (XG ot q.1:Int)) (by rw [Qai,Qgk hqn];rfl),_,_,rfl,rfl,.inl ⟨?_,?_⟩,?_⟩
    ·rw [Int.natAbs_natCast]
     exact Qdt hle (by decide)
    ·rw [Int.natAbs_natCast]
     exact Qdt hho (by decide)
    ·rw [Int.natCast_mul] at hR
     exact hR
   ·have hsum:(((List.range (dW kvs).length).map fun j=>((((kvs.getD j (0,0)).2 * XG ot (kvs.getD j (0,0)).1:Nat)):Int)).sum:Int)=((wsum kvs (XG ot):Nat):Int):=by
     rw [kR];exact Zd1 (by
      unfold wsum;rw [<-zR (d:=(0,0)) rfl fun q=>q.2 * XG ot q.1])
    refine ⟨q,(List.range (dW kvs).length).map fun j=>((((kvs.getD j (0,0)).2 * XG ot (kvs.getD j (0,0)).1:Nat)):Int),rfl,SqL.of (by rw [hq,Qa3];rfl),c,_,_,rfl,rfl,s6 _ _ h5c,?_,?_⟩
    ·rw [Qac,Qbl]
     exact Z1 (by lia)
    rw [hsum,Wy.count rb rs];generalize hlv:(List.range i).map (fun i=>V.int ((SQ (2 ^ nm.length) (i + 1) fun ls=>if (rnO nx ot 0 ls)[i]?=some (.bl true) then 1 else 0:Nat):Int))++[V.int ((SQ (2 ^ nm.length) (i + 1) fun ls=>if (rnO nx ot 0 ls)[i]?=some (.bl true) then 1 else 0:Nat):Int)]=lv;have h7c:=Za (H:=J) (a:=c) (o:=.lst lv);have hcd:d≠c:=S.symm;have h7d:=(Zj (H:=J) (o:=.lst lv) hcd).trans (s6 _ _ h5d);have h7l:=(Zj (H:=J) (o:=.lst lv) hlc).trans (s6 _ _ h5l);have s7:ZC H (upd J c (.lst lv)):=ZU (s5.trans s6) hcn;generalize upd J c (.lst lv)=H7 at *;refine ⟨_,rfl,_,rfl,m,_,2,_,rfl,rfl,SqT.of (s7 _ _ hm),rfl,d,ps,kvs,nx,rfl,.inr ⟨o,h7d⟩,R.same s7,Wy.lt,D.nl,D.le,fun o2 p k2 H8 hpn hp e2 n2 l2 s8=>Zh ?_⟩;have hnd:∀{b:Aw} {u:HO},H7 b=some u->b≠d->H8 b=some u:=fun {b u} e hb=>s8 _ _ (by rw [Zj hb];exact e);refine ⟨p,k2,_,rfl,hp,s7.free hpn,Wy.next rn rs e2 n2 l2,hnd h7l hdl,?_,fun b u e=>hnd (s7 _ _ e) fun z=>by rw [z,hdn] at e;cases e⟩;rw [Qd4,Qav];exact (hnd h7c S).trans (by rw [<-hlv];rfl)
  ·rintro σ Z ⟨d,kvs,u5,rfl,I,hdn,Wy,hl4,G,s4⟩
   rw [Qbs] at G;exact ⟨_,rfl,k c Z G s4⟩
def y1(K:Af):Sp:=fun vs H Q _=>∃(a:Aw) (D:Ak) (st q:Nat),vs=[.ref a,.int (st:Int),.int (q:Int)]/\SqL K H a (D.map V.int)/\D.length<=63/\st<=10/\q<=3/\∀p (C:Ai) H',H' p=some (.lst (C.map V.str))->C.Nodup->C.length<=q->(∀y∈C,NmS y)->ZC H H'->Q (.ref p) H'
theorem y3 (T:Txt K w mg t) (TB:Tbs mg base t):Y9 P w K mg base CX0 2 t.nu t.nv ["script","start","many"] (y1 K):=by
 have C:=v3 (P:=P) (base:=base) T TB;have q:=XY (P:=P) (base:=base) T TB;refine T.di.F.ok W6 (fun vs H Q E h=>?_) (fun cdv A outer s H vs Q E hr h=>?_)
 ·obtain ⟨a,ns,st,D,rfl,hS,J,Z,hm,k⟩:=h
  rfl
 ·obtain ⟨a,ns,st,D,rfl,hS,J,Z,hm,k⟩:=h
  have hu:=ZP hr;refine ⟨_,@QSs.out _ _ _ (Zb (Zp (i:=3) W6.nd rfl (Or.inl rfl) GR)
    (Zb (YW Qbv rfl (Xn rfl T.bh (Zk (qv 2) Zd)) (Yd (i:=4) W6.nd rfl (Or.inl rfl))
    (Ze (GS hu (qv 3) (Zm C (hr.mono (by decide)) rfl T.dm.m T.dm.F.kp T.dm.b .nil ZH (Zk (Zm q (hr.mono (by decide)) rfl T.ah.m T.ah.F.kp T.ah.b .nil ZH (Zk (qv 0) (Zk (Zo Y1 (qv 1) (qv 4)) Zd))) Zd)) X8 rfl)))
    (Ze (Zn (Zs (jG rfl) (by rfl) T.mh GJ (Zk (qv 3) Zd)))))),?_⟩
  refine L2.let3 ?_;intro U2 U1;refine fun d hd=>Zh ?_;have s1:=Zc (o:=.dK []) hd;have O:upd H d (.dK []) d=some (.dK []):=Za;refine ⟨_,rfl,(D:Int),rfl,by lia,by lia,Xi (fun i σ H'=>∃(N:Option V) (kvs:A0) (S:Ai),σ=[some (.ref a),some (.int (st:Int)),some (.int (D:Int)),some (.ref d),N]/\H' d=some (.dK kvs)/\kvs.map (·.1)=S.map Sum.inr/\S.Nodup/\S.length<=i/\(∀y∈S,NmS y)/\ZC H H') ⟨none,[],[],rfl,O,rfl,Qci,Qag _,(fun _ z=>nomatch z),s1⟩ ?_ ?_⟩
  ·rintro i σ H2 hi ⟨N,kvs,S,rfl,G,hk,I,hl,hn,L⟩
   refine ⟨_,rfl,_,rfl,_,rfl,_,rfl,_,_,rfl,rfl,a,ns,st + i,?_,zL hS L,J,by lia,fun r H3 r0 r1 s3=>⟨r,rfl,r0,r1,fun y H4 M s4=>⟨d,_,rfl,Zcl.k (k:=.inr y) (s4 _ _ (s3 _ _ G)) ?_,?_⟩⟩⟩
   ·grind
   ·have:=congrArg List.length hk
    rw [Qac,Qac] at this;exact Z1 (by lia)
   ·obtain ⟨S',g1,g2,g3,g4⟩:=Zib (v:=.bl true) hk I y
    refine ⟨_,_,S',rfl,Za,g1,g2,by lia,fun z hz=>?_,ZU (L.trans (s3.trans s4)) hd⟩;rcases g4 z hz with h | h
    ·exact hn z h
    ·rw [h];exact M
  ·rintro σ H2 ⟨N,kvs,S,rfl,G,hk,I,hl,hn,L⟩
   exact ⟨_,rfl,d,kvs,S,rfl,.inl G,hk,by lia,fun l ms Y hp hs=>k l ms _ Za (hp.nodup_iff.mpr I) (by rw [hp.length_eq];exact hl) (fun y M=>hn y (hp.mem_iff.mp M)) (L.trans (Zc Y))⟩
def JO(K:Af):Sp:=fun vs H Q _=>∃(r C:Int) (f:Aw) (D l1:Int),vs=[.int r,.int C,.ref f]/\0<=r/\0<=C/\H f=some (.lst [.int D,.int l1])/\0<=l1/\∀(y:Str) (q:Int) H',y∈Z2->((lpS y).length:Int)<=C->q + Zd0 y jW=l1->0<=q->H' f=some (.lst [.int D,.int q])->SmL f H H'->Q (.str y) H'
theorem JP (T:Txt K w mg t) (TB:Tbs mg base t):Y9 P w K mg base CX0 2 t.el t.et ["number","room","left"] (JO K):=by
 have q:=X3 (P:=P) (base:=base) T TB;refine T.bc.F.ok Z7 (fun vs H Q E h=>?_) (fun cdv A outer s H vs Q E hr h=>?_)
 ·obtain ⟨r,L,f,l0,l1,rfl,hr0,hrm,hf,hl1,k⟩:=h
  rfl
 ·obtain ⟨r,L,f,l0,l1,rfl,hr0,hrm,hf,hl1,k⟩:=h
  have hu:=ZP hr;refine ⟨_,@QSs.out _ _ _ (Zb (Zp (i:=3) Z7.nd rfl (Or.inl rfl) (ZQ (Zk Zi (Zk Zi (Zk Zi (Zk Zi (Zk Zi (Zk Zi (Zk Zi (Zk Zi (Zk Zi (Zk Zi Zd))))))))))))
    (Zb (Zp (i:=3) Z7.nd rfl (Or.inl rfl) (Zo Zei (qv 3) (ZQ (Zk Zi (Zk Zi (Zk Zi (Zk Zi (Zk Zi (Zk Zi Zd)))))))))
    (Zb (Zp (i:=4) Z7.nd rfl (Or.inl rfl) (Z4 Zw (qv 3) (Zo Ya (qv 0) Zf) (fun _ _=>rfl)))
    (Zb (Zp (i:=5) Z7.nd rfl (Or.inl rfl) (YB Yc (qv 4) (Yj (Zk Zi (Zk Zi (Zk Zi (Zk Zi (Zk Zi Zd)))))) (by with_unfolding_all rfl)))
    (Zb (ZF (qT (Zcg (Zr gN (Zs Z0 (by rfl) T.ak YA (Zk (Zm q (hr.mono (by decide)) rfl T.ae.m T.ae.F.kp T.ae.b .nil ZH (Zk (qv 4) Zd)) Zd)) (qv 1) (Z3 _)) (vK (qT (x5 (Xv (qv 5)) (J4 (Zr Yy (Z4 Zw (qv 2) Zf (fun _ _=>rfl)) Zf (Z3 _))))))))
    (Zb (Zp (i:=4) Z7.nd rfl (Or.inl rfl) Zi)
    (Zb (Zp (i:=5) Z7.nd rfl (Or.inl rfl) X8)
    (Ze (ZF (qT (x5 (Zr gN (qv 1) Zf (Z3 _)) (J4 (Zr gN (Z4 Zw (qv 2) Zf (fun _ _=>rfl)) Zf (Z3 _)))))
    (Zb (Zp (i:=4) Z7.nd rfl (Or.inl rfl) (Z4 Zw (ZQ (Zk Zi (Zk Zi Zd))) (Zo Ya (Zo Yp (qv 0) Zf) Zf) (fun _ _=>rfl)))
    (Ze (Zp (i:=5) Z7.nd rfl (Or.inl rfl) X8))) Zx)))) Zx)
    (Zb (Zen (Zo XZ (Z4 Zw (qv 2) Zf (fun _ _=>rfl)) (Z8 GG (by rfl) T.dz GK (Zk (qv 5) Zd))) (Zem (qv 2) Zf set_list))
    (Ze (Zn (qv 4))))))))),?_⟩
  clear hu hr
  try dsimp only [L2.cxK,L2.cxK2]
  refine L2.let7 ?_;intro U6 U5 U4 U3 U2 U1;refine ⟨by show 10<=sizeLine;decide,fun m1 hm1=>?_⟩;refine ⟨_,rfl,by show 6<=sizeLine;decide,fun m2 O=>⟨m1,m2,_,_,rfl,rfl,Zc O _ _ Za,Za,by show 16<=sizeLine;decide,fun m hm=>?_⟩⟩;have s1:=((Zc (o:=.lst [.str "same",.str "same",.str "under",.str "under",.str "beneath",.str "sign",.str "nought",.str "nought",.str "both",.str "both"]) hm1).trans (Zc (o:=.lst [.str "either",.str "either",.str "so",.str "never",.str "never",.str "yes"]) O)).trans (Zc (o:=.lst (gm.map V.str)) hm);obtain ⟨y,hy,ey⟩:=qI (l:=gm) (i:=r % 16) (Qcb _ (by decide)) (Qb6 _ (by decide));have D:=Zd2 y hy;refine ⟨_,rfl,_,rfl,_,_,rfl,rfl,(by show (0:Int) < 16;decide),m,_,_,_,rfl,rfl,SqL.of (Za (o:=.lst (gm.map V.str))),ey,Zh ?_⟩;show Yi _ _ _ _ (upd _ m (.lst (gm.map V.str)));generalize upd (upd (upd H m1 (.lst [.str "same",.str "same",.str "under",.str "under",.str "beneath",.str "sign",.str "nought",.str "nought",.str "both",.str "both"])) m2 (.lst [.str "either",.str "either",.str "so",.str "never",.str "never",.str "yes"])) m (.lst (gm.map V.str))=H1 at *;refine ⟨_,rfl,by show 5<=sizeLine;decide,fun q1 Z=>⟨q1,_,rfl,.inr (SqT.of Za),rfl,rfl,Zh ?_⟩⟩;rw [show inV (.str y) [V.str "same",V.str "under",V.str "beneath",V.str "sign",V.str "nought"]=decide (y∈jW) from ZA y jW];have M:=s1.trans (Zc (o:=.tup [V.str "same",V.str "under",V.str "beneath",V.str "sign",V.str "nought"]) Z);generalize upd H1 q1 (.tup [V.str "same",V.str "under",V.str "beneath",V.str "sign",V.str "nought"])=H2 at *;refine va (fun σ H'=>∃(C:Str) (jb:Bool),σ=[some (.int r),some (.int L),some (.ref f),some (.ref m),some (.str C),some (.bl jb)]/\jb=decide (C∈jW)/\C∈Z2/\((lpS C).length:Int)<=L/\(C∈jW->1<=l1)/\ZC H H') (fun N hN=>?_) ?_
  ·refine ⟨_,rfl,.str y,rfl,.inl ⟨y,rfl⟩,fun p H3 hp0 hp G=>⟨p,_,rfl,.inl (SqL.of hp),_,rfl,_,_,rfl,rfl,_,rfl,zc (fun c=>?a) (fun c=>⟨_,rfl,_,rfl,zc (fun c2=>⟨_,rfl,f,_,1,_,rfl,rfl,SqL.of ((M.trans G) _ _ hf),rfl,rfl,_,rfl,zc (fun c3=>?b) (fun c3=>?c)⟩) (fun c2=>?d)⟩)⟩⟩
   case c =>
    refine hN _ _ ⟨y,_,rfl,rfl,D,?_,fun _=>?_,M.trans G⟩
    ·have:=fun z=>c (Qao z)
     rw [Qac] at this;exact Int.not_lt.mp this
    ·have:¬l1=0:=fun z=>c3 (Qao (by rw [z]))
     lia
   case d =>
    refine hN _ _ ⟨y,_,rfl,rfl,D,?_,fun z=>absurd (Qao z) c2,M.trans G⟩;have:=fun z=>c (Qao z);rw [Qac] at this;exact Int.not_lt.mp this
   all_goals
    have I:=(M.trans G) _ _ hf;have J:N [some (.int r),some (.int L),some (.ref f),some (.ref m),some (.str "yes"),some (.bl false)] H3:=hN _ _ ⟨"yes",false,rfl,by decide +kernel,by decide +kernel,by show ((0:Nat):Int)<=L;lia,fun z=>absurd z (by decide +kernel),M.trans G⟩
    try refine Y3 ?_
    refine Zh ?_;refine Zh ?_;refine ⟨_,rfl,_,_,rfl,rfl,_,rfl,zc (fun e1=>⟨_,rfl,f,_,1,_,rfl,rfl,SqL.of I,rfl,_,_,rfl,rfl,_,rfl,zc (fun e2=>?_) (fun e2=>J)⟩) (fun e1=>J)⟩;obtain ⟨S,hy2,ey2⟩:=qI (l:=["sign","nought"]) (i:=r / 16 % 2) (Qcb _ (by decide)) (Qb6 _ (by decide));have f2:S∈Z2/\(lpS S).length=1/\S∈jW:=(by decide +kernel:∀y∈(["sign","nought"]:Ai),y∈Z2/\(lpS y).length=1/\y∈jW) S hy2;have g1:=Qbi e1;have g2:=Qbi e2;exact ⟨by show 2<=sizeLine;decide,fun l hl=>⟨_,rfl,_,_,rfl,rfl,.of (by decide) (by decide),_,_,rfl,rfl,(by show (0:Int) < 2;decide),l,_,_,_,rfl,rfl,SqL.of Za,ey2,Zh (Zh (hN _ _ ⟨S,true,rfl,(Qao f2.2.2).symm,f2.1,by rw [f2.2.1];show (1:Int)<=L;lia,fun _=>by lia,(M.trans G).trans (Zc hl)⟩))⟩⟩
  ·rintro σ H3 ⟨C,jb,rfl,rfl,D,Y,hj,G⟩
   have I:=G _ _ hf;refine ⟨_,rfl,f,_,1,_,rfl,rfl,SqL.of I,rfl,_,rfl,.inr ⟨_,rfl,_,_,rfl,rfl,_,rfl,f,_,1,1,rfl,rfl,I,rfl,?_⟩⟩;refine ⟨_,rfl,k C _ _ D Y ?_ ?_ Za (SmL.of G).put⟩
   ·unfold Zd0
    by_cases h:C∈jW
    ·rw [Qa0 h,Qa0 (Qao h)]
     lia
    ·rw [Qaw h,Qaw (fun z=>h (Qbi z))]
     lia
   ·by_cases h:C∈jW
    ·rw [Qa0 (Qao h)]
     have:=hj h;lia
    ·rw [Qaw (fun z=>h (Qbi z))]
     lia
def qQ(K:Af):Sp:=fun vs H Q _=>∃(r D:Int) (f pn:Aw) (C l1 G:Int) (nm:Ai),vs=[.int r,.int D,.ref f,.ref pn,.int G]/\0<=r/\0<=D/\H f=some (.lst [.int C,.int l1])/\0<=C/\H pn=some (.lst (nm.map V.str))/\nm.length<=3/\1<=G/\G<=1000/\∀(w:V) (q:Int) H',((∃y,w=.str y/\y∈Jo/\((lpS y).length:Int)<=D/\q + Zd0 y qw=C)\/(∃y,w=.str y/\y∈nm/\q=C)\/∃z:Int,w=.int z/\0<=z/\z < 1000/\q=C)->0<=q->H' f=some (.lst [.int q,.int l1])->SmL f H H'->Q w H'
theorem qR (T:Txt K w mg t) (TB:Tbs mg base t):Y9 P w K mg base CX0 2 t.ib t.ic ["number","room","left","names","top"] (qQ K):=by
 have C:=X3 (P:=P) (base:=base) T TB;refine T.bx.F.ok Yu (fun vs H Q E h=>?_) (fun cdv A outer s H vs Q E hr h=>?_)
 ·obtain ⟨r,rm,f,pn,L,l1,I,nm,rfl,hr0,hrm,hf,S,hn,hn3,ht1,ht2,k⟩:=h
  rfl
 ·obtain ⟨r,rm,f,pn,L,l1,I,nm,rfl,hr0,hrm,hf,S,hn,hn3,ht1,ht2,k⟩:=h
  have hu:=ZP hr;refine ⟨_,@QSs.out _ _ _ (Zb (Zp (i:=5) Yu.nd rfl (Or.inl rfl) (ZQ (Zk Zi (Zk Zi (Zk Zi (Zk Zi (Zk Zi (Zk Zi (Zk Zi (Zk Zi (Zk Zi (Zk Zi (Zk Zi Zd)))))))))))))
    (Zb (ZF (Zr gM (Zo Ya (qv 0) Zf) Zf (Z3 _))
    (Zb (Zp (i:=6) Yu.nd rfl (Or.inl rfl) (Z4 Zw (qv 5) (Zo Ya (qv 0) Zf) (fun _ _=>rfl)))
    (Zb (Zp (i:=7) Yu.nd rfl (Or.inl rfl) (YB Yc (qv 6) (Yj (Zk Zi (Zk Zi (Zk Zi (Zk Zi (Zk Zi Zd)))))) (by with_unfolding_all rfl)))
    (Ze (ZF (qT (x5 (Zr Zit (Zs Z0 (by rfl) T.ak YA (Zk (Zm C (hr.mono (by decide)) rfl T.ae.m T.ae.F.kp T.ae.b .nil ZH (Zk (qv 6) Zd)) Zd)) (qv 1) (Z3 _)) (J4 (qT (Zcg (Zel (Xv (qv 7))) (vK (Zr gN (Z4 Zw (qv 2) Zf (fun _ _=>rfl)) Zf (Z3 _))))))))
    (Zb (Zen (Zo XZ (Z4 Zw (qv 2) Zf (fun _ _=>rfl)) (Z8 GG (by rfl) T.dz GK (Zk (qv 7) Zd))) (Zem (qv 2) Zf set_list))
    (Ze (Zn (qv 6)))) Zx)))) Zx)
    (Zb (Zp (i:=0) Yu.nd rfl (Or.inl rfl) (Zo Yp (qv 0) Zf))
    (Zb (ZF (qT (x5 (Zr (uC (vO hr)) (qv 3) (ZQ Zd) (Z3 _)) (J4 (Zr gM (Zo Ya (qv 0) Zf) Zf (Z3 _)))))
    (Ze (Zn (Z4 Zw (qv 3) (Zo Ya (Zo Yp (qv 0) Zf) (Zs Z0 (by rfl) T.ak YA (Zk (qv 3) Zd))) (fun _ _=>rfl)))) Zx)
    (Ze (Zn (Z4 Zw (ZQ (Zk (Zo Ya (Zo Yp (qv 0) Zf) Zf) (Zk (Zo Ya (Zo Yp (qv 0) Zf) (qv 4)) Zd))) (Zo Ya (Zo Yp (qv 0) Zf) Zf) (fun _ _=>rfl)))))))),?_⟩
  clear hu hr
  try dsimp only [L2.cxK,L2.cxK2]
  refine L2.let5 ?_;intro U4 U3 U2 U1;refine ⟨by show 11<=sizeLine;decide,fun m hm=>Zh ?_⟩;have s1:=Zc (o:=.lst (vn.map V.str)) hm;show Yi _ _ _ _ (upd H m (.lst (vn.map V.str)));have hm1:upd H m (.lst (vn.map V.str)) m=some (.lst (vn.map V.str)):=Za;generalize upd H m (.lst (vn.map V.str))=H1 at *;have hf1:=s1 _ _ hf;refine va (fun σ H'=>∃u6 u7,σ=[some (.int r),some (.int rm),some (.ref f),some (.ref pn),some (.int I),some (.ref m),u6,u7]/\ZC H H') (fun N hN=>?_) ?_
  ·refine ⟨_,rfl,_,_,rfl,rfl,(by show (0:Int) < 16;decide),_,_,rfl,rfl,_,rfl,zc (fun c=>?_) (fun c=>hN _ _ ⟨_,_,rfl,s1⟩)⟩
   have c:=Qbi c;obtain ⟨y,hy,ey⟩:=qI (l:=vn) (i:=r % 16) (Qcb _ (by decide)) c;obtain ⟨hyc,G⟩:=Zd3 y hy;refine ⟨_,rfl,_,rfl,_,_,rfl,rfl,(by show (0:Int) < 16;decide),m,_,_,_,rfl,rfl,SqL.of hm1,ey,Zh ?_⟩;refine ⟨_,rfl,by show 5<=sizeLine;decide,fun q1 hq1=>⟨q1,_,rfl,.inr (SqT.of Za),rfl,rfl,Zh ?_⟩⟩;rw [show inV (.str y) [V.str "add",V.str "sub",V.str "neg",V.str "twice",V.str "low"]=decide (y∈(["add","sub","neg","twice","low"]:Ai)) from ZA y ["add","sub","neg","twice","low"]];have J:=s1.trans (Zc (o:=.tup [V.str "add",V.str "sub",V.str "neg",V.str "twice",V.str "low"]) hq1);generalize upd H1 q1 (.tup [V.str "add",V.str "sub",V.str "neg",V.str "twice",V.str "low"])=H2 at *;refine ⟨_,rfl,.str y,rfl,.inl ⟨y,rfl⟩,fun p H3 hp0 hp D=>⟨p,_,rfl,.inl (SqL.of hp),_,rfl,_,_,rfl,rfl,_,rfl,zc (fun c1=>⟨_,rfl,_,rfl,zc (fun c2=>?a) (fun c2=>?b)⟩) (fun c1=>hN _ _ ⟨_,_,rfl,J.trans D⟩)⟩⟩
   case' a =>
    refine Y3 ?_;have hz:y∈qw->1<=L:=fun h=>by
     have c2:(!decide (y∈(["add","sub","neg","twice","low"]:Ai)))=true:=c2;rw [Qao (G.mpr h)] at c2;cases c2
   case' b =>
    refine ⟨_,rfl,f,_,0,_,rfl,rfl,SqL.of ((J.trans D) _ _ hf),rfl,_,_,rfl,rfl,_,rfl,zc (fun c3=>?_) (fun c3=>hN _ _ ⟨_,_,rfl,J.trans D⟩)⟩;have hz:y∈qw->1<=L:=fun _=>by have:=Qbi c3;lia
   all_goals
    have hf3:=(J.trans D) _ _ hf;have Z:((lpS y).length:Int)<=rm:=by
     have:=Qbi c1;rw [Qac] at this;exact this
    refine ⟨_,rfl,f,_,0,_,rfl,rfl,SqL.of hf3,rfl,_,rfl,.inr ⟨_,rfl,_,_,rfl,rfl,_,rfl,f,_,0,0,rfl,rfl,hf3,rfl,_,rfl,k (.str y) _ _ (.inl ⟨y,rfl,hyc,Z,?_⟩) ?_ Za (SmL.of (J.trans D)).put⟩⟩
    ·show L - (if decide (y∈(["add","sub","neg","twice","low"]:Ai))=true then 1 else 0) + Zd0 y qw=L
     unfold Zd0
     by_cases h:y∈qw
     ·rw [Qa0 h,Qa0 (Qao (G.mpr h))]
      lia
     ·rw [Qaw h,Qaw (fun z=>h (G.mp (Qbi z)))]
      lia
    ·show 0<=L - (if decide (y∈(["add","sub","neg","twice","low"]:Ai))=true then 1 else 0)
     by_cases h:y∈qw
     ·rw [Qa0 (Qao (G.mpr h))]
      have:=hz h;lia
     ·rw [Qaw (fun z=>h (G.mp (Qbi z)))]
      lia
  ·rintro σ H2 ⟨u6,u7,rfl,J⟩
   have hf2:=J _ _ hf;have hn2:=J _ _ hn;refine ⟨_,rfl,_,_,rfl,rfl,.of (by decide) (by decide),Zh ?_⟩;have q0:0<=r / 16:=by lia
   try dsimp only
   generalize r / 16=q at *;have M:∀H3,ZC H H3->U4 { nx:=fun _ H'=>Q .non H',rt:=Q } [some (.int q),some (.int rm),some (.ref f),some (.ref pn),some (.int I),some (.ref m),u6,u7] H3:=fun H3 D=>by
    obtain ⟨z,ez,z0,z1⟩:∃z:Int,atI [V.int (q / 8 % 3),V.int (q / 8 % I)] (q / 4 % 2)=some (.int z)/\0<=z/\z < 1000:=by
     have t0:0<=q / 8 % I:=Qcb _ (by lia);have t1:q / 8 % I < I:=Qb6 _ (by lia);rcases (by lia:q / 4 % 2=0\/q / 4 % 2=1) with e | e <;> rw [e]
     ·exact ⟨q / 8 % 3,rfl,by lia,by lia⟩
     ·exact ⟨q / 8 % I,rfl,t0,by lia⟩
    exact ⟨_,rfl,_,_,rfl,rfl,.of (by decide) (by decide),_,_,rfl,rfl,(by show (0:Int) < 3;decide),_,rfl,_,_,rfl,rfl,.of (by decide) (by decide),_,rfl,_,_,rfl,rfl,(by show (0:Int) < I;lia),by show 2<=sizeLine;decide,fun l hl=>⟨_,rfl,_,_,rfl,rfl,.of (by decide) (by decide),_,_,rfl,rfl,(by show (0:Int) < 2;decide),l,_,_,_,rfl,rfl,SqL.of Za,ez,k (.int z) L _ (.inr (.inr ⟨z,rfl,z0,z1,rfl⟩)) S ((D.trans (Zc hl)) _ _ hf) (SmL.of (D.trans (Zc hl)))⟩⟩
   refine ⟨_,rfl,by show 0<=sizeLine;decide,fun e he=>⟨pn,e,_,_,rfl,rfl,SqL.of (Zc he _ _ hn2),SqL.of Za,Qce.mpr fun v hv=>(by obtain ⟨y,_,rfl⟩:=Qau.mp hv;rfl),rfl,_,rfl,?_⟩⟩;have D:=J.trans (Zc (o:=.lst []) he);cases nm with
   | nil=>exact M _ D
   | cons y0 rest =>
    refine Y3 ⟨_,rfl,_,_,rfl,rfl,(by show (0:Int) < 4;decide),_,_,rfl,rfl,_,rfl,zc (fun c=>?_) (fun c=>M _ D)⟩;have Y:(0:Int) < ((y0::rest).length:Int):=by rw [Qax];lia
    obtain ⟨y,hy,ey⟩:=qI (l:=y0::rest) (i:=q / 4 % ((y0::rest).length:Int)) (Qcb _ (by lia)) (Qb6 _ Y);have O:=D _ _ hn;rw [<-Qac V.str] at ey Y;exact ⟨_,rfl,_,rfl,_,_,rfl,rfl,.of (by decide) (by decide),_,rfl,pn,_,rfl,.inl (SqL.of O),_,_,rfl,rfl,Y,pn,_,_,_,rfl,rfl,SqL.of O,ey,k (.str y) L _ (.inr (.inl ⟨y,rfl,hy,rfl⟩)) S (D _ _ hf) (SmL.of D)⟩
def vC(K:Af):Sp:=fun vs H Q _=>∃(tw C:Aw) (W:Nat) (ys:Ai) (q:A2) (kvs:A0) (ρ:Str->Int) (b:Bool),vs=[.ref tw,.int (2 ^ W),.ref C]/\1<=W/\W<=64/\H tw=some (.tup q)/\q.length<=100/\H C=some (.dK kvs)/\Zar kvs ys ρ/\(∀y∈ys,0<=ρ y/\ρ y < 2 ^ W)/\(∀y∈ys,y∉ZJ)/\TyR ys q [true]/\Ww (2 ^ W) ρ q []=[.bl b]/\∀H',ZC H H'->Q (.bl b) H'
theorem vD (T:Txt K w mg t) (TB:Tbs mg base t):Y9 P w K mg base CX0 2 t.pd t.pe ["words","full","values"] (vC K):=by
 have J:=X3 (P:=P) (base:=base) T TB;have G:=jc (P:=P) (base:=base) T TB;have I:=je (P:=P) (base:=base) T TB;refine T.dq.F.ok YT (fun vs H Q E h=>?_) (fun cdv A outer s H vs Q E hr h=>?_)
 ·obtain ⟨tw,dv,W,ys,C,kvs,ρ,b,rfl,hW1,hW,ht,hl,hd,hc,hρ,hyk,hty,hrun,k⟩:=h
  rfl
 ·obtain ⟨tw,dv,W,ys,C,kvs,ρ,b,rfl,hW1,hW,ht,hl,hd,hc,hρ,hyk,hty,hrun,k⟩:=h
  have hu:=ZP hr;refine ⟨_,@QSs.out _ _ _ (Zb (Zp (i:=3) YT.nd rfl (Or.inl rfl) (ZQ Zd))
    (Zb (YW Qbv rfl (WG (qe_rev rv_tup (qv 0) (Ge ji Zf))) (Yd (i:=4) YT.nd rfl (Or.inl rfl))
    (Ze (ZF (Xv (Zs XJ (by rfl) T.au Yg (Zk (qv 4) (Zk (WO (v:=.ty "int") (by rfl) T.dz GK rfl) Zd))))
    (Ze (Yh (Y4 Qar Qa4 Qa5 ZE (qv 3) (Zk (Zo Ya (qv 4) (qv 1)) Zd)))) (Ze (ZF (Zr (xA hu) (qv 4) (qv 2) (by with_unfolding_all rfl))
    (Ze (Yh (Y4 Qar Qa4 Qa5 ZE (qv 3) (Zk (yH hu (qv 2) (qv 4) (fun _ _=>rfl)) Zd)))) (Ze (ZF (Zr Yy (qv 4) Zi (Z3 _))
    (Ze (Yh (Y4 Qar Qa4 Qa5 ZE (qv 3) (Zk X8 Zd)))) (Ze (ZF (Zr Yy (qv 4) Zi (Z3 _))
    (Zb (Zp (i:=5) YT.nd rfl (Or.inl rfl) (WH Qar Qcl Qcm WY (qv 3)))
    (Zb (Zp (i:=6) YT.nd rfl (Or.inl rfl) (WH Qar Qcl Qcm WY (qv 3)))
    (Ze (Yh (Y4 Qar Qa4 Qa5 ZE (qv 3) (Zk (Zo qS (Zo Xb (qv 5) (qv 6)) (Zo Xb (Zo XZ (Zo XZ (qv 1) Zf) (qv 5)) (WH Qar Qcl Qcm WY (qv 3)))) Zd)))))) (Ze (ZF (Zr Yy (Zs Z0 (by rfl) T.ak YA (Zk (Zm J (hr.mono (by decide)) rfl T.ae.m T.ae.F.kp T.ae.b .nil ZH (Zk (qv 4) Zd)) Zd)) Zf (Z3 _))
    (Ze (Yh (Y4 Qar Qa4 Qa5 ZE (qv 3) (Zk (Zm G (hr.mono (by decide)) rfl T.cx.m T.cx.F.kp T.cx.b .nil ZH (Zk (qv 4) (Zk (WH Qar Qcl Qcm WY (qv 3)) (Zk (qv 1) Zd)))) Zd)))) (Zb (Zp (i:=5) YT.nd rfl (Or.inl rfl) (WH Qar Qcl Qcm WY (qv 3)))
    (Ze (Yh (Y4 Qar Qa4 Qa5 ZE (qv 3) (Zk (Zm I (hr.mono (by decide)) rfl T.cy.m T.cy.F.kp T.cy.b .nil ZH (Zk (qv 4) (Zk (qv 5) (Zk (WH Qar Qcl Qcm WY (qv 3)) (Zk (qv 1) Zd))))) Zd))))))))))))))))
    (Ze (Zn (Z4 Zw (qv 3) Zf (fun _ _=>rfl)))))),?_⟩
  clear hu hr
  try dsimp only [L2.cxK,L2.cxK2]
  refine L2.let3 ?_;intro U2 U1;have hp:=G5 W;refine ⟨by show 0<=sizeLine;decide,fun st D=>Zh ?_⟩;have s1:=Zc (o:=.lst []) D;refine ⟨_,rfl,1,rfl,rfl,tw,_,rfl,SqT.of (s1 _ _ ht),fun O htr=>⟨_,rfl,⟨_,SqT.of Za⟩,?_⟩⟩;have s2:=s1.trans (Zc (o:=.tup C.reverse) htr);have htr2:upd (upd H st (.lst [])) O (.tup C.reverse) O=some (.tup C.reverse):=Za;have hst2:upd (upd H st (.lst [])) O (.tup C.reverse) st=some (.lst []):=Zc htr _ _ Za;have N:O≠st:=fun z=>by rw [z,Za] at htr;cases htr
  generalize upd (upd H st (.lst [])) O (.tup C.reverse)=H0 at *;refine gI (K:=K) (a:=O) (xs:=C.reverse) (fun i σ H2=>∃u5 u6 u7,σ=[some (.ref tw),some (.int (2 ^ W)),some (.ref dv),some (.ref st),u5,u6,u7]/\i<=C.length/\H2 st=some (.lst (Ww (2 ^ W) ρ (C.drop (C.length - i)) []).reverse)/\H2 O=some (.tup C.reverse)/\ZC H H2) ⟨none,none,none,rfl,Qbc _,?_,htr2,s2⟩ (fun i σ H2 _ ⟨_,_,_,_,_,_,e,_⟩=>SqT.of e) ?_ ?_
  ·rw [Nat.sub_zero,Qf5]
   exact hst2
  ·rintro i x σ H2 hx ⟨u5,u6,u7,rfl,hi0,q,M,s3⟩
   obtain ⟨hi,hx⟩:=Zew hx;have ed:C.drop (C.length - (i + 1))=x::C.drop (C.length - i):=by
    rw [show C.length - (i + 1)=C.length - 1 - i by lia,Qdn (by lia),show C.length - 1 - i + 1=C.length - i by lia];congr 1;exact (Qaf.mp hx).2
   obtain ⟨ks,hk⟩:=hty.drop (C.length - (i + 1));rw [ed] at hk ⊢;have hle:(C.drop (C.length - i)).length<=100:=by rw [Qd6];lia
   generalize C.drop (C.length - i)=r at *;rw [YY];have L:(Ww (2 ^ W) ρ r []).length<=100:=by
    rw [zN];exact Qaz (vf r) hle
   have fin:∀(v:V) (Hx:Hp) (l:A2),l.length<=100->Hx st=some (.lst l.reverse)->Hx O=some (.tup C.reverse)->ZC H Hx->l.reverse.length < sizeLine/\upd Hx st (.lst (l.reverse++[v])) st=some (.lst (v::l).reverse)/\upd Hx st (.lst (l.reverse++[v])) O=some (.tup C.reverse)/\ZC H (upd Hx st (.lst (l.reverse++[v]))):=fun v Hx l hl' e1 e2 sx=>by
    refine ⟨?_,by rw [Za,Qcs],by rw [Zj N];exact e2,ZU sx D⟩;rw [Qc4];exact Z1 (by lia)
   obtain ⟨R0,h0⟩:∃R0,Ww (2 ^ W) ρ r []=R0:=⟨_,rfl⟩;rw [h0] at q L ⊢;generalize h1:cvV (2 ^ W) ρ x (R0.take (npw x))::R0.drop (npw x)=R1;have hd2:=s3 _ _ hd;rcases Zh7 hW1 hyk hρ hk h0 h1 with ⟨z,rfl,rfl⟩ | ⟨y,rfl,hy,rfl⟩ | ⟨y,rfl,hny,hc4⟩
   ·obtain ⟨f1,S,Y,f4⟩:=fin (.int (z % 2 ^ W)) H2 R0 L q M s3
    exact ⟨_,rfl,_,_,_,_,rfl,.int z,XM,_,rfl,Y3 ⟨_,rfl,.inl ⟨rfl,_,SqL.of q⟩,_,rfl,_,rfl,_,_,rfl,rfl,hp,st,_,_,rfl,rfl,q,f1,_,_,_,rfl,hi,S,Y,f4⟩⟩
   ·refine ⟨_,rfl,_,_,_,_,rfl,.str y,Xl,_,rfl,ZI ⟨_,rfl,_,rfl,dv,Ye kvs (.inr y),rfl,.inl ⟨kvs,.inr y,.inl hd2,rfl,rfl⟩,_,rfl,?_⟩⟩
    show if (Ye kvs (.inr y)).isSome=true then _ else _;rw [hc.1 y hy];obtain ⟨f1,S,Y,f4⟩:=fin (.int (ρ y)) H2 R0 L q M s3;exact Y3 ⟨_,rfl,.inl ⟨rfl,_,SqL.of q⟩,_,rfl,_,rfl,dv,_,rfl,.inl ⟨kvs,.inr y,.inl hd2,rfl,(hc.1 y hy).symm⟩,st,_,_,rfl,rfl,q,f1,_,_,_,rfl,hi,S,Y,f4⟩
   ·refine ⟨_,rfl,_,_,_,_,rfl,.str y,Xl,_,rfl,ZI ⟨_,rfl,_,rfl,dv,Ye kvs (.inr y),rfl,.inl ⟨kvs,.inr y,.inl hd2,rfl,rfl⟩,_,rfl,?_⟩⟩
    show if (Ye kvs (.inr y)).isSome=true then _ else _;rw [hc.2 y hny];refine ZI ⟨_,rfl,rfl,_,rfl,?_⟩;rcases hc4 with ⟨rfl,rfl⟩ | ⟨rfl,a,b,c,l,rfl,⟨ha,hb,hcc⟩,rfl⟩ | ⟨n0,n1,k1,v,r',l,rfl,o1,rfl⟩ | ⟨n0,n1,k1,v,u,r',l,rfl,o1,rfl⟩
    ·obtain ⟨f1,S,Y,f4⟩:=fin (.bl true) H2 R0 L q M s3
     exact Y3 ⟨_,rfl,.inl ⟨rfl,_,SqL.of q⟩,st,_,_,rfl,rfl,q,f1,_,_,_,rfl,hi,S,Y,f4⟩
    ·refine ZI ⟨_,rfl,rfl,_,rfl,Y3 ?_⟩
     have Z:=Zij q;refine ⟨_,rfl,.inl ⟨rfl,_,SqL.of Z⟩,st,_,_,rfl,rfl,Z,YX _ _,Zh ?_⟩;rw [Qcw];have s6:=ZU (o:=.lst ((V.int b::V.int c::l).reverse)) s3 D;have h4s:upd H2 st (.lst ((V.int b::V.int c::l).reverse)) st=some (.lst ((V.int b::V.int c::l).reverse)):=Za;have h4t:upd H2 st (.lst ((V.int b::V.int c::l).reverse)) O=some (.tup C.reverse):=by rw [Zj N];exact M
     show Yi _ _ _ _ (upd H2 st (.lst ((V.int b::V.int c::l).reverse)));generalize upd H2 st (.lst ((V.int b::V.int c::l).reverse))=H4 at *;have hpb:=Zij h4s;refine ⟨_,rfl,.inl ⟨rfl,_,SqL.of hpb⟩,st,_,_,rfl,rfl,hpb,YX _ _,Zh ?_⟩;rw [Qcw];have s7:=ZU (o:=.lst (V.int c::l).reverse) s6 D;have h5s:upd H4 st (.lst (V.int c::l).reverse) st=some (.lst (V.int c::l).reverse):=Za;have h5t:upd H4 st (.lst (V.int c::l).reverse) O=some (.tup C.reverse):=by rw [Zj N];exact h4t
     generalize upd H4 st (.lst (V.int c::l).reverse)=H5 at *;have hpc:=Zij h5s;have hll:l.length<=100:=by simp only [Qax] at L;lia
     refine ⟨_,rfl,.inl ⟨rfl,_,SqL.of h5s⟩,_,rfl,_,rfl,_,_,rfl,rfl,_,rfl,_,_,rfl,rfl,_,rfl,_,_,rfl,rfl,_,rfl,.inl ⟨rfl,_,SqL.of hpc⟩,st,_,_,rfl,rfl,hpc,YX _ _,_,_,rfl,rfl,_,_,rfl,rfl,?_⟩;rw [Qcw]
     try dsimp only
     rw [Zdf ha.1 ha.2 hb.1 hb.2 hcc.1 hcc.2];obtain ⟨f1,S,Y,f4⟩:=fin (.int (Builtin.bitOr (Builtin.bitAnd a b) (Builtin.bitAnd (Builtin.bitNot a) c) % 2 ^ W)) (upd H5 st (.lst l.reverse)) l hll Za (by rw [Zj N];exact h5t) (ZU s7 D);exact ⟨st,_,_,rfl,rfl,Za,f1,_,_,_,rfl,hi,S,Y,f4⟩
    ·rw [Qaq fun z=>n0 (by injection z)]
     refine ZI ⟨_,rfl,rfl,_,rfl,?_⟩;rw [Qaq fun z=>n1 (by injection z)];refine ZI ⟨_,rfl,.str y,rfl,.inl ⟨y,rfl⟩,fun p H3 hp0 hp3 sp=>⟨p,_,rfl,.inl (SqL.of hp3),rfl,_,rfl,?_⟩⟩;rw [show decide (V.int (((lpW (.str y)).map V.bl).length:Int)=V.int 1)=true from Qao (by rw [Qac];show V.int ((lpS y).length:Int)=_;rw [k1];rfl)];have h3s:=sp _ _ q;have h3t:=sp _ _ M;have s4:=s3.trans sp;have hpop:=Zij h3s;refine Y3 ⟨_,rfl,.inl ⟨rfl,_,SqL.of h3s⟩,_,rfl,_,rfl,.inl ⟨rfl,_,SqL.of hpop⟩,st,_,_,rfl,rfl,hpop,YX _ _,_,rfl,y,v,r',W,rfl,hW1,hW,o1,?_⟩;rw [Qcw];obtain ⟨f1,S,Y,f4⟩:=fin r' (upd H3 st (.lst l.reverse)) l (by simp only [Qax] at L;lia) Za (by rw [Zj N];exact h3t) (ZU s4 D);exact ⟨st,_,_,rfl,rfl,Za,f1,_,_,_,rfl,hi,S,Y,f4⟩
    ·rw [Qaq fun z=>n0 (by injection z)]
     refine ZI ⟨_,rfl,rfl,_,rfl,?_⟩;rw [Qaq fun z=>n1 (by injection z)];refine ZI ⟨_,rfl,.str y,rfl,.inl ⟨y,rfl⟩,fun p H3 hp0 hp3 sp=>⟨p,_,rfl,.inl (SqL.of hp3),rfl,_,rfl,?_⟩⟩;rw [show decide (V.int (((lpW (.str y)).map V.bl).length:Int)=V.int 1)=false from Qaq (fun z=>k1 (by rw [Qac] at z;injection z with z;show (lpW (.str y)).length=1;lia))];have h3s:=sp _ _ q;have h3t:=sp _ _ M;have s4:=s3.trans sp;have Z:=Zij h3s;refine ZI ⟨_,rfl,.inl ⟨rfl,_,SqL.of Z⟩,st,_,_,rfl,rfl,Z,YX _ _,Zh ?_⟩;rw [Qcw];have s6:=ZU (o:=.lst ((u::l).reverse)) s4 D;have h4s:upd H3 st (.lst ((u::l).reverse)) st=some (.lst ((u::l).reverse)):=Za;have h4t:upd H3 st (.lst ((u::l).reverse)) O=some (.tup C.reverse):=by rw [Zj N];exact h3t
     generalize upd H3 st (.lst ((u::l).reverse))=H4 at *;have hpb:=Zij h4s;refine ⟨_,rfl,.inl ⟨rfl,_,SqL.of h4s⟩,_,rfl,_,rfl,_,rfl,.inl ⟨rfl,_,SqL.of hpb⟩,st,_,_,rfl,rfl,hpb,YX _ _,_,rfl,y,v,u,r',W,rfl,hW1,hW,o1,fun H6 s7=>?_⟩;rw [Qcw] at s7;have s8:=ZU (o:=.lst l.reverse) s6 D;obtain ⟨f1,S,Y,f4⟩:=fin r' H6 l (by simp only [Qax] at L;lia) (s7 _ _ Za) (s7 _ _ (by rw [Zj N];exact h4t)) (s8.trans s7);exact ⟨st,_,_,rfl,rfl,s7 _ _ Za,f1,_,_,_,rfl,hi,S,Y,f4⟩
  ·rintro σ H2 ⟨u5,u6,u7,rfl,hi0,q,M,s3⟩
   rw [Qc4,Qe1,Qfa,hrun] at q;exact ⟨_,rfl,st,_,0,_,rfl,rfl,SqL.of q,rfl,k H2 s3⟩
def xx(K:Af):Sp:=fun vs H Q _=>∃(s:Aw) (q:A2) (w:V),vs=[.ref s,w]/\H s=some (.lst q.reverse)/\w=kV (keyOf w)/\npw w<=q.length/\q.length<=100 /\
 ∀pl H',H pl=none->H' pl=some (.lst (q.take (npw w)))->H' s=some (.lst (q.drop (npw w)).reverse)->(∀b o,H b=some o->b≠s->H' b=some o)->Q (.ref pl) H'
theorem xy (T:Txt K w mg t) (Y:Tbs mg base t):Y9 P w K mg base CX0 3 t.lb t.lg ["stack","word"] (xx K):=by
 have C:=vA (P:=P) (base:=base) T Y;refine T.ck.F.ok xi (fun vs H Q E h=>?_) (fun S A outer s H vs Q E hr h=>?_)
 ·obtain ⟨st,D,x,rfl,hs,hx,hn,hl,k⟩:=h
  rfl
 ·obtain ⟨st,D,x,rfl,hs,hx,hn,hl,k⟩:=h
  have Z:=ZP hr;refine ⟨_,@QSs.out _ _ _ (Ze (Zn (YO ({}:ZR (Zg XU) _ ["stack","word"] "part" ["stack"] [0]) (Xn rfl T.bh (Zk (Zm C (hr.mono (by decide)) rfl T.dn.m T.dn.F.kp T.dn.b .nil ZH (Zk (qv 1) Zd)) Zd)) (fun _ _ _ _=>Xw) (fun _ _ _ _=>(show QE _ _ (Zjw K "list" rPop (jf 1)) from (WH Qar Qcl Qcm WY (qv 1))))))),?_⟩;refine ⟨_,rfl,keyOf x,congrArg (fun z=>[z]) hx,Xy (keyOf x),rfl,?_,?_,wk (n:=(Xy (keyOf x)).toNat) (fun i zs H2=>i<=npw x/\zs=D.take i/\H2 st=some (.lst (D.drop i).reverse)/\∀b o,H b=some o->b≠st->H2 b=some o) ⟨Qbc _,rfl,hs,fun b o e _=>e⟩ ?_ ?_ ?_⟩
  ·have:=qm (keyOf x)
   lia
  ·have:=qm (keyOf x)
   lia
  ·rintro i zs H2 ⟨_,rfl,_,_⟩
   rw [Qby];exact Qa9 (Z1 (by lia))
  ·rintro i zs H2 R hR hi ⟨L,rfl,h2,M⟩
   have O:i < npw x:=hi;have I:i < D.length:=by lia
   rw [Zg8 I] at h2;unfold Zch;refine ⟨_,rfl,.inl ⟨rfl,_,SqL.of h2⟩,st,_,D[i],rfl,rfl,h2,YX _ _,hR _ _ ⟨O,?_,?_,fun b o e hb=>?_⟩⟩
   ·rw [take_snoc (Qad I)]
   ·rw [Za,Qcw]
   ·rw [Zj hb]
    exact M b o e hb
  ·rintro zs H2 ⟨L,rfl,h2,M⟩ l G
   have J:H l=none:=by
    cases q:H l with
    | none=>rfl
    | some o =>
     by_cases hb:l=st
     ·rw [hb,h2] at G
      cases G
     ·grind
   have N:st≠l:=Zl h2 G;refine k l _ J Za ?_ fun b o e hb=>?_
   ·rw [Zj N]
    exact h2
   ·rw [Zj (Zl e J)]
    exact M b o e hb
def vE(K:Af):Sp:=fun vs H Q _=>∃(t:Aw) (q:A2),vs=[.ref t]/\H t=some (.tup q)/\(∀w∈q,jJ w)/\q.length<=60/\∀p H' (C:Ai),H p=none->H' p=some (.tup (C.map V.str))->ZC H H'->C.Perm (XC ((q.filter nmB).map Zb1))->PyProof.Rows.sortedS C=true->Q (.ref p) H'
theorem vF (T:Txt K w mg t) (Z:Tbs mg base t):Y9 P w K mg base CX0 3 t.ph t.pj ["words"] (vE K):=by
 have q:=gu (P:=P) (base:=base) T Z;refine T.dt.F.ok vq (fun vs H Q E h=>?_) (fun Y A outer s H vs Q E hr h=>?_)
 ·obtain ⟨t,C,rfl,J,hw,hl,k⟩:=h
  rfl
 ·obtain ⟨t,C,rfl,J,hw,hl,k⟩:=h
  have hu:=ZP hr;refine ⟨_,@QSs.out _ _ _ (Ze (Zn (Z8 Z6 (by rfl) T.ao Yw (Zk (Zs (Jf rfl) (by rfl) T.mh GJ (Zk (Z8 (j7 rfl) (by rfl) T.sj Zek (Zk (YO ({}:ZR (Zg JH) _ ["words"] "word" [] []) (WG (qv 0)) (fun _ _ _ _=>(vM (qT (x5 (Xv (Zs (show YM _ (.builtin "isinstance") (Zjx K) from XJ) (by rfl) T.au Yg (Zk (qv 0) (Zk (WO (v:=.ty "str") (by rfl) T.sr Zej rfl) Zd)))) (J4 (Xv (Zm q (hr.mono (by decide)) rfl T.dw.m T.dw.F.kp T.dw.b .nil ZH (Zk (qv 0) Zd)))))))) (fun _ _ _ _=>(qv 0))) Zd)) Zd)) Zd)))),?_⟩;refine ⟨_,rfl,t,rfl,⟨_,SqT.of J⟩,j8 (xs:=C) nmB ZC ZC.refl (fun _ _ _ a b=>a.trans b) (fun H1 G=>SqT.of (G _ _ J)) (Qa9 (Z1 (by lia))) (fun x hx H1 G R hR=>?_) (fun x hx H1 R hR=>⟨_,rfl,hR⟩) (fun H1 l G I=>?_)⟩
  ·rcases hw x hx with ⟨y,rfl,S⟩ | ⟨z,rfl⟩
   ·exact ⟨_,rfl,_,_,_,_,rfl,.str y,GL,_,rfl,Y3 ⟨_,rfl,y,rfl,Qaz S (by decide),fun H2 L=>⟨_,rfl,hR H2 L⟩⟩⟩
   ·exact ⟨_,rfl,_,_,_,_,rfl,.int z,GN,_,rfl,ZI (hR H1 (ZC.refl H1))⟩
  have fl:(C.filter nmB).length<=60:=Qaz (Qe3 _ _) hl;have O:=jK ((C.filter nmB).map Zb1);rw [Qac] at O;have L:=G.trans (Zc (o:=.lst (C.filter nmB)) I);refine ⟨l,(C.filter nmB).map Zb1,rfl,SqL.of (by rw [Zg6];exact Za),by rw [Qac];lia,fun a ha=>⟨a,_,rfl,Za,by lia,fun m M hm hp hs=>⟨m,_,rfl,.inl ⟨SqL.of Za,fun p D=>?_⟩⟩⟩⟩;have N:ZC H _:=L.trans ((Zc ha).trans (Zc (o:=.lst (M.map V.str)) hm));exact k p _ M (ZC.free N D) Za (N.trans (Zc D)) hp hs
def y4(K:Af):Sp:=fun vs H Q _=>∃(a pn f:Aw) (D:Ak) (st:Nat) (nm:Ai) (C:Int),vs=[.ref a,.int (st:Int),.ref pn,.int 14,.ref f,.int C,.bl true]/\((Rd H a (.lst (D.map V.int))/\a≠f)\/SqL K (fun b=>none) a (D.map V.int))/\D.length<=63/\st<=10/\H pn=some (.lst (nm.map V.str))/\nm.length<=3/\(∀y∈nm,y∉ZJ)/\H f=some (.lst [.int 3,.int 2])/\pn≠f/\1<=C/\C<=1000/\∀p q H',H' p=some (.tup q)->q.length<=14->TyR nm q [true]->Wg q<=5->SmL f H H'->Q (.ref p) H'
theorem y6 (T:Txt K w mg t) (TB:Tbs mg base t):Y9 P w K mg base CX0 3 t.ny t.nz ["script","start","names","most","left","top","claim"] (y4 K):=by
 have L:=X3 (P:=P) (base:=base) T TB;have q:=JP (P:=P) (base:=base) T TB;have C:=qR (P:=P) (base:=base) T TB;have G:=XY (P:=P) (base:=base) T TB;refine T.dj.F.ok Yv (fun vs H Q E h=>?_) (fun cdv A outer s H vs Q E hr h=>?_)
 ·obtain ⟨a,pn,f,ns,st,nm,tp,rfl,hS,h63,hst,hpn,hn3,hnk,hf,hpf,ht1,ht2,k⟩:=h
  rfl
 ·obtain ⟨a,pn,f,ns,st,nm,tp,rfl,hS,h63,hst,hpn,hn3,hnk,hf,hpf,ht1,ht2,k⟩:=h
  have hu:=ZP hr;refine ⟨_,@QSs.out _ _ _ (Zb (Zp (i:=7) Yv.nd rfl (Or.inl rfl) (ZQ Zd))
    (Zb (Zp (i:=8) Yv.nd rfl (Or.inl rfl) (ZQ (Zk (qv 6) Zd)))
    (Zb (zd Qbv (Zr (uC (vO hr)) (qv 8) (ZQ Zd) (Z3 _))
    (Zb (Zp (i:=9) Yv.nd rfl (Or.inl rfl) (Zo XZ (Zo XZ (qv 3) (Zs Z0 (by rfl) T.ak YA (Zk (qv 7) Zd))) (Zs Z0 (by rfl) T.ak YA (Zk (qv 8) Zd))))
    (Zb (Zp (i:=10) Yv.nd rfl (Or.inl rfl) (Zm G (hr.mono (by decide)) rfl T.ah.m T.ah.F.kp T.ah.b .nil ZH (Zk (qv 0) (Zk (Zo Y1 (qv 1) (Zs Z0 (by rfl) T.ak YA (Zk (qv 7) Zd))) Zd))))
    (Zb (ZF (Xv (WH Qar Qcl Qcm WY (qv 8)))
    (Ze (Zp (i:=11) Yv.nd rfl (Or.inl rfl) (Zm q (hr.mono (by decide)) rfl T.bc.m T.bc.F.kp T.bc.b .nil ZH (Zk (qv 10) (Zk (qv 9) (Zk (qv 4) Zd)))))) (Ze (Zp (i:=11) Yv.nd rfl (Or.inl rfl) (Zm C (hr.mono (by decide)) rfl T.bx.m T.bx.F.kp T.bx.b .nil ZH (Zk (qv 10) (Zk (qv 9) (Zk (qv 4) (Zk (qv 2) (Zk (qv 5) Zd)))))))))
    (Zb (Yh (Y4 Qar Qa4 Qa5 ZE (qv 7) (Zk (qv 11) Zd)))
    (Ze (Yh (Y4 Qar PySem.F.slot_list_extend PySem.F.type_list_extend gX (qv 8) (Zk (Zm L (hr.mono (by decide)) rfl T.ae.m T.ae.F.kp T.ae.b .nil ZH (Zk (qv 11) Zd)) Zd)))))))))
    (Ze (Zn (Z8 Z6 (by rfl) T.ao Yw (Zk (qv 7) Zd))))))),?_⟩
  clear hu hr
  try dsimp only [L2.cxK,L2.cxK2]
  refine L2.let4 ?_;intro U3 U2 U1;refine ⟨by show 0<=sizeLine;decide,fun D hwa=>Zh ?_⟩;refine ⟨_,rfl,by show 1<=sizeLine;decide,fun pa hpa=>Zh ?_⟩;have s1:=(Zc (o:=.lst []) hwa).trans (Zc (o:=.lst [V.bl true]) hpa);have hwf:D≠f:=fun z=>by rw [z,hf] at hwa;cases hwa
  have hpw:pa≠D:=fun z=>by rw [z,Za] at hpa;cases hpa
  have hpa0:H pa=none:=by rw [Zj hpw] at hpa;exact hpa
  have S:pa≠f:=fun z=>by rw [z,hf] at hpa0;cases hpa0
  have w1:upd (upd H D (.lst [])) pa (.lst [V.bl true]) D=some (.lst []):=by rw [Zj hpw.symm,Za]
  have p1:upd (upd H D (.lst [])) pa (.lst [V.bl true]) pa=some (.lst [V.bl true]):=Za;generalize upd (upd H D (.lst [])) pa (.lst [V.bl true])=H1 at *;have keep:∀{Ha Hb:Hp} {g:Aw} {u o:HO},SmL f H Ha->(g=D\/g=pa)->SmL f H (upd Ha g o):=fun {Ha Hb g u o} s hg b v hb e=>by
   have:b≠g:=fun z=>by
    rcases hg with h | h
    ·rw [z,h,hwa] at e;cases e
    ·rw [z,h,hpa0] at e;cases e
   rw [Zj this];exact s b v hb e
  refine vc (fun σ H'=>∃(M:A2) (ks:Am) (Z l1:Int) (u9 Y u11:Option V),σ=[some (.ref a),some (.int (st:Int)),some (.ref pn),some (.int 14),some (.ref f),some (.int tp),some (.bl true),some (.ref D),some (.ref pa),u9,Y,u11]/\H' D=some (.lst M)/\H' pa=some (.lst (ks.reverse.map V.bl))/\H' f=some (.lst [.int Z,.int l1])/\Wds 5 nm M ks Z l1/\0<=Z/\0<=l1/\SmL f H H') (fun _ H'=>match H' D with | some (.lst l)=>20 - l.length | _=>0) ⟨[],[true],3,2,none,none,none,rfl,w1,p1,s1 _ _ hf,⟨fun rest h=>h,by decide,by decide⟩,by decide,by decide,SmL.of s1⟩ ?_;rintro σ H2 ⟨M,ks,Z,l1,u9,Y,u11,rfl,w2,p2,f2,W2,hl0,hl1,s2⟩;refine ⟨_,rfl,by show 0<=sizeLine;decide,fun e he=>⟨pa,e,_,_,rfl,rfl,SqL.of (Zc he _ _ p2),SqL.of Za,Qce.mpr fun v hv=>(by obtain ⟨y,_,rfl⟩:=Qau.mp hv;rfl),rfl,_,rfl,?_⟩⟩;have se:=Zc (o:=.lst []) he;have w3:=se _ _ w2;have p3:=se _ _ p2;have f3:=se _ _ f2;have s3:=s2.same se;clear se he;generalize upd H2 e (.lst [])=H3 at *;cases ks with
  | nil =>
   have hty:=W2.ty [] .nil;rw [Qb4] at hty;have hln:=W2.ln;have hrm:=W2.rm;exact ⟨_,rfl,D,_,rfl,.inl ⟨SqL.of w3,fun p hp=>k p M _ Za (by lia) hty (by lia) (s3.same (Zc hp))⟩⟩
  | cons b ks =>
   have hpop:H3 pa=some (.lst (ks.reverse.map V.bl++[V.bl b])):=by rw [p3,Qcs,Qav];rfl
   have hln:=W2.ln;rw [Qax] at hln;have hpl:((b::ks).reverse.map V.bl).length=ks.length + 1:=by rw [Qac,Qc4,Qax]
   rw [show (!Zcs ((b::ks).reverse.map V.bl) [])=true by rw [Qcs,Qav];cases ks.reverse.map V.bl <;> rfl];refine Y3 ⟨fun σ' H'=>∃(O:A2) (ks:Am) (Z l1:Int) (u9 Y u11:Option V),σ'=[some (.ref a),some (.int (st:Int)),some (.ref pn),some (.int 14),some (.ref f),some (.int tp),some (.bl true),some (.ref D),some (.ref pa),u9,Y,u11]/\O.length=M.length + 1/\H' D=some (.lst O)/\H' pa=some (.lst (ks.reverse.map V.bl))/\H' f=some (.lst [.int Z,.int l1])/\Wds 5 nm O ks Z l1/\0<=Z/\0<=l1/\SmL f H H',?_,?_⟩
   ·rintro σ' H' ⟨O,ks',I,J,v9,v10,v11,rfl,hl',h1,h2,h3,h4,h5,h6,h7⟩
    refine ⟨20 - O.length,?_,?_,O,ks',I,J,v9,v10,v11,rfl,h1,h2,h3,h4,h5,h6,h7⟩
    ·rw [w2]
     show 20 - O.length < 20 - M.length;lia
    ·rw [h1]
   refine ⟨_,rfl,_,rfl,D,_,rfl,.inl (SqL.of w3),_,_,rfl,rfl,_,rfl,pa,_,rfl,.inl (SqL.of p3),_,_,rfl,rfl,Zh ?_⟩;refine ⟨_,rfl,_,rfl,_,rfl,D,_,rfl,.inl (SqL.of w3),_,_,rfl,rfl,a,ns,st + M.length,rfl,?_,h63,by lia,fun r H4 r0 r1 s4=>Zh ?_⟩
   ·rcases hS with ⟨z | ⟨o,z⟩,haf⟩ | (z | ⟨_,z⟩) | z
    ·exact .inl (.inl (s3 _ _ haf z))
    ·exact .inl (.inr ⟨o,s3 _ _ haf z⟩)
    ·cases z
    ·cases z
    ·exact .inr z
   have w4:=s4 _ _ w3;have p4:=s4 _ _ hpop;have f4:=s4 _ _ f3;have s34:=s3.same s4;refine va (fun σ H'=>∃(w:V) (I J:Int) (u9 Y:Option V),σ=[some (.ref a),some (.int (st:Int)),some (.ref pn),some (.int 14),some (.ref f),some (.int tp),some (.bl true),some (.ref D),some (.ref pa),u9,Y,some w]/\((∃y,w=.str y)\/∃z:Int,w=.int z)/\H' D=some (.lst M)/\H' pa=some (.lst (ks.reverse.map V.bl))/\H' f=some (.lst [.int I,.int J])/\Wds 5 nm (M++[w]) (lpW w++ks) I J/\0<=I/\0<=J/\SmL f H H') (fun N hN=>?_) ?_
   ·refine ⟨_,rfl,.inl ⟨rfl,_,SqL.of p4⟩,pa,_,_,rfl,rfl,p4,YX _ _,b,rfl,?_⟩
    rw [Qcw];have w5:upd H4 pa (.lst (ks.reverse.map V.bl)) D=some (.lst M):=by rw [Zj hpw.symm];exact w4
    have p5:upd H4 pa (.lst (ks.reverse.map V.bl)) pa=some (.lst (ks.reverse.map V.bl)):=Za;have f5:upd H4 pa (.lst (ks.reverse.map V.bl)) f=some (.lst [.int Z,.int l1]):=by rw [Zj S.symm];exact f4
    have s5:SmL f H (upd H4 pa (.lst (ks.reverse.map V.bl))):=keep (Hb:=H) (u:=.lst []) s34 (.inr rfl);generalize upd H4 pa (.lst (ks.reverse.map V.bl))=H5 at *;have erm:(14:Int) - (M.length:Int) - (((b::ks).reverse.map V.bl).length:Int)=14 - M.length - ((b::ks).length:Int):=by rw [hpl,Qax]
    cases b with
    | true =>
     refine Y3 ⟨_,rfl,_,rfl,_,rfl,r,_,f,Z,l1,rfl,r0,?_,f5,hl1,fun y J H6 hy hlen hl hl' f6 s6=>Zh (hN _ _ ⟨.str y,Z,J,_,_,rfl,.inl ⟨y,rfl⟩,s6 _ _ hwf w5,s6 _ _ S p5,f6,W2.clm hnk hy ?_ hl,hl0,hl',fun b o hb e=>s6 _ _ hb (s5 b o hb e)⟩)⟩
     ·rw [hpl]
      lia
     ·rw [<-erm]
      exact hlen
    | false =>
     refine ZI ⟨_,rfl,_,rfl,_,rfl,_,rfl,_,rfl,r,_,f,pn,Z,l1,tp,nm,rfl,r0,?_,f5,hl0,s5 _ _ hpf hpn,hn3,ht1,ht2,fun w I H6 hw hl' f6 s6=>Zh (hN _ _ ⟨w,I,l1,_,_,rfl,?_,s6 _ _ hwf w5,s6 _ _ S p5,f6,W2.sum hnk ?_,hl',hl1,fun b o hb e=>s6 _ _ hb (s5 b o hb e)⟩)⟩
     ·rw [hpl]
      lia
     ·rcases hw with ⟨y,e,_⟩ | ⟨y,e,_⟩ | ⟨z,e,_⟩
      ·exact .inl ⟨y,e⟩
      ·exact .inl ⟨y,e⟩
      ·exact .inr ⟨z,e⟩
     ·rw [<-erm]
      exact hw
   ·rintro σ H5 ⟨w,I,J,v9,v10,rfl,hw,w5,p5,f5,W5,hl0',hl1',s5⟩
    refine ⟨_,rfl,.inl ⟨rfl,_,SqL.of w5⟩,_,rfl,D,_,_,rfl,rfl,w5,Z1 (by lia),?_⟩;have w6:=Za (H:=H5) (a:=D) (o:=.lst (M++[w]));have p6:=(Zj (H:=H5) (o:=.lst (M++[w])) hpw).trans p5;have f6:=(Zj (H:=H5) (o:=.lst (M++[w])) hwf.symm).trans f5;have s6:SmL f H (upd H5 D (.lst (M++[w]))):=keep (Hb:=H) (u:=.lst []) s5 (.inl rfl);generalize upd H5 D (.lst (M++[w]))=H6 at *;refine ⟨_,rfl,.inl ⟨rfl,_,SqL.of p6⟩,_,rfl,w,rfl,hw,fun p H7 hp0 hp s7=>⟨pa,p,_,_,rfl,rfl,s7 _ _ p6,hp,?_,?_⟩⟩
    ·have:=(Zbv w).2
     rw [Qac,Qac,Qc4];exact Qa9 (Z1 (by lia))
    ·refine ⟨M++[w],lpW w++ks,I,J,_,_,_,rfl,by rw [Qap];rfl,by rw [Zj hpw.symm];exact s7 _ _ w6,?_,by rw [Zj S.symm];exact s7 _ _ f6,W5,hl0',hl1',keep (Hb:=H) (u:=.lst []) (s6.same s7) (.inr rfl)⟩
     rw [Za,List.reverse_append,(Zbv w).1,Qav]
def gv(K:Af):Sp:=fun vs H Q _=>∃(tw C D:Aw) (ys:Ai) (q:A2) (kvs:A0) (cols:Str->Int) (pl:Nat) (kp:Ak) (o:Int) (lt:Ak),vs=[.ref tw,.ref C,.int (pl:Int),.ref D]/\H tw=some (.tup q)/\q.length<=100/\H C=some (.dK kvs)/\Zar kvs ys cols/\H D=some (.tup (kp.map V.int))/\(∀w∈q,z9 ys w)/\Wz q/\Xz ys cols pl kp q=([o],lt)/\lt.length<=kp.length /\
 ∀t l H',H t=none->H' t=some (.tup [.int o,.ref l])->H' l=some (.lst (lt.map V.int))->ZC H H'->Q (.ref t) H'
theorem gw (T:Txt K w mg t) (TB:Tbs mg base t):Y9 P w K mg base CX0 4 t.rh t.ri ["words","columns","place","kept"] (gv K):=by
 have J:=Gd (P:=P) (base:=base) T TB;have I:=xw (P:=P) (base:=base) T TB;have L:=yx (P:=P) (base:=base) T TB;have G:=xo (P:=P) (base:=base) T TB;have D:=xy (P:=P) (base:=base) T TB;refine T.dy.F.ok Xh (fun vs H Q E h=>?_) (fun cdv A outer s H vs Q E hr h=>?_)
 ·obtain ⟨tw,dv,kt,ys,C,kvs,cols,pl,kp,o,lt,rfl,ht,hl,hd,hc,hk,hw,he,hst,hkl,k⟩:=h
  rfl
 ·obtain ⟨tw,dv,kt,ys,C,kvs,cols,pl,kp,o,lt,rfl,ht,hl,hd,hc,hk,hw,he,hst,hkl,k⟩:=h
  have hu:=ZP hr;refine ⟨_,@QSs.out _ _ _ (Zb (Zp (i:=4) Xh.nd rfl (Or.inl rfl) (ZQ Zd))
    (Zb (Zp (i:=5) Xh.nd rfl (Or.inl rfl) (ZQ Zd))
    (Zb (YW Qbv rfl (uk rfl T.pw (qv 0)) (Yd (i:=6) Xh.nd rfl (Or.inl rfl))
    (Zb (Zp (i:=7) Xh.nd rfl (Or.inl rfl) (Zm D (hr.mono (by decide)) rfl T.ck.m T.ck.F.kp T.ck.b .nil ZH (Zk (qv 4) (Zk (qv 6) Zd))))
    (Ze (ZF (Xv (Zm J (hr.mono (by decide)) rfl T.aw.m T.aw.F.kp T.aw.b .nil ZH (Zk (qv 6) Zd)))
    (Zb (Zp (i:=8) Xh.nd rfl (Or.inl rfl) (Ge ji (Z4 Yb (qv 3) (Zs Z0 (by rfl) T.ak YA (Zk (qv 5) Zd)) (fun _ _=>rfl))))
    (Zb (Yh (Y4 Qar Qa4 Qa5 ZE (qv 5) (Zk (Zm L (hr.mono (by decide)) rfl T.dg.m T.dg.F.kp T.dg.b .nil ZH (Zk (qv 6) (Zk (qv 7) (Zk (qv 8) Zd)))) Zd)))
    (Ze (Yh (Y4 Qar Qa4 Qa5 ZE (qv 4) (Zk (Zm I (hr.mono (by decide)) rfl T.cj.m T.cj.F.kp T.cj.b .nil ZH (Zk (qv 6) (Zk (qv 7) (Zk (qv 8) (Zk (Z4 Zw (qv 5) (Ge ji Zf) (fun _ _=>rfl)) Zd))))) Zd)))))) (Ze (ZF (Xv (Zs XJ (by rfl) T.au Yg (Zk (qv 6) (Zk (WO (v:=.ty "int") (by rfl) T.dz GK rfl) Zd))))
    (Ze (Yh (Y4 Qar Qa4 Qa5 ZE (qv 4) (Zk (Ge ji (Zo Xb (Zo vI (qv 6) (qv 2)) Zf)) Zd)))) (Ze (ZF (Zr (xA hu) (qv 6) (qv 1) (by with_unfolding_all rfl))
    (Ze (Yh (Y4 Qar Qa4 Qa5 ZE (qv 4) (Zk (yH hu (qv 1) (qv 6) (fun _ _=>rfl)) Zd)))) (Ze (Yh (Y4 Qar Qa4 Qa5 ZE (qv 4) (Zk (Zm G (hr.mono (by decide)) rfl T.cc.m T.cc.F.kp T.cc.b .nil ZH (Zk (qv 6) (Zk (qv 7) Zd))) Zd))))))))))))
    (Ze (Zn (Yj (Zk (WH Qar Qcl Qcm WY (qv 4)) (Zk (qv 5) Zd)))))))),?_⟩
  clear hu hr
  try dsimp only [L2.cxK,L2.cxK2]
  refine L2.let4 ?_;intro U3 U2 U1;refine ⟨by show 0<=sizeLine;decide,fun st N=>Zh ⟨by show 0<=sizeLine;decide,fun M hla0=>Zh ?_⟩⟩;have s1:=Zc (o:=.lst []) N;have s2:=s1.trans (Zc (o:=.lst []) hla0);have Y:st≠M:=Zl (Za (H:=H) (a:=st) (o:=.lst [])) hla0;have hlaH:H M=none:=s1.free hla0;refine ⟨_,rfl,tw,_,rfl,SqT.of (s2 _ _ ht),um (K:=K) (a:=tw) (xs:=C) (fun i σ H2=>∃u6 u7 u8,σ=[some (.ref tw),some (.ref dv),some (.int (pl:Int)),some (.ref kt),some (.ref st),some (.ref M),u6,u7,u8]/\i<=C.length/\H2 st=some (.lst ((Xz ys cols pl kp (C.drop (C.length - i))).1.map V.int).reverse)/\H2 M=some (.lst ((Xz ys cols pl kp (C.drop (C.length - i))).2.map V.int))/\ZC H H2) ⟨none,none,none,rfl,Qbc _,?_,?_,s2⟩ (fun i σ H2 _ ⟨_,_,_,_,_,_,_,s⟩=>SqT.of (s _ _ ht)) ?_ ?_⟩
  ·rw [Nat.sub_zero,Qf5,Zj Y]
   exact Za
  ·rw [Nat.sub_zero,Qf5]
   exact Za
  ·rintro i x σ H2 hx ⟨u6,u7,u8,rfl,hi0,Z,h2l,s3⟩
   obtain ⟨hi,hx⟩:=Zew hx;have ed:C.drop (C.length - (i + 1))=x::C.drop (C.length - i):=by
    rw [show C.length - (i + 1)=C.length - 1 - i by lia,Qdn (by lia),show C.length - 1 - i + 1=C.length - i by lia];congr 1;exact (Qaf.mp hx).2
   have hwx:=hw x (Qas hx);have hen:=qy C (C.length - (i + 1)) he;have hmo:=jP ys cols pl kp C (C.length - (i + 1));rw [hst] at hmo;rw [ed] at hen hmo ⊢;have hln:=zA (ys:=ys) (cols:=cols) (pl:=pl) (kp:=kp) (C.drop (C.length - i)) fun w h=>hw w (List.mem_of_mem_drop h);have hle2:=vf (C.drop (C.length - i));rw [Qd6] at hle2;have hmo2:=jO ys cols pl kp x (C.drop (C.length - i));have hlb:=k6 ys cols pl kp (C.drop (C.length - i));rw [Qd6] at hlb;generalize C.drop (C.length - i)=r at *;have hn:=hen.1;have eC:∀z:V,Xz ys cols pl kp (z::r)=match z with
    | .str y =>
     if y∈allR then (okI y ((Xz ys cols pl kp r).1.take (npw z)) (-(kp.getD (Xz ys cols pl kp r).2.length 0)) (ktI y ((Xz ys cols pl kp r).1.take (npw z)) (-(kp.getD (Xz ys cols pl kp r).2.length 0)))::(Xz ys cols pl kp r).1.drop (npw z),(Xz ys cols pl kp r).2++[ktI y ((Xz ys cols pl kp r).1.take (npw z)) (-(kp.getD (Xz ys cols pl kp r).2.length 0))])
     else if y∈ys then (cols y::(Xz ys cols pl kp r).1.drop (npw z),(Xz ys cols pl kp r).2)
     else (oaI y ((Xz ys cols pl kp r).1.take (npw z))::(Xz ys cols pl kp r).1.drop (npw z),(Xz ys cols pl kp r).2)
    | .int z'=>(-(bt z' pl)::(Xz ys cols pl kp r).1.drop (npw z),(Xz ys cols pl kp r).2)
    | _=>Xz ys cols pl kp r:=fun z=>by cases z <;> rfl
   have eX:=eC x;clear eC;generalize Xz ys cols pl kp r=P at *;obtain ⟨q,l2⟩:=P
   try dsimp only at *
   have hkx:x=kV (keyOf x)/\Xc x=true:=by
    rcases hwx with ⟨y,rfl,_⟩ | ⟨y,rfl,_⟩ | ⟨y,rfl,_⟩ | ⟨z,rfl,_⟩ <;> exact ⟨rfl,rfl⟩
   refine ⟨_,rfl,_,rfl,st,q.map V.int,x,rfl,Z,hkx.1,by rw [Qac];lia,by rw [Qac];lia,fun pp H3 S hpp O o3=>Zh ?_⟩;rw [<-Qem] at hpp;rw [<-Qe5] at O;have h3l:=o3 _ _ h2l Y.symm;have s4:ZC H H3:=fun b o e=>o3 b o (s3 b o e) (Zl e N);have hln3:(q.take (npw x)).length=npw x:=by rw [Qby];lia
   have hps:pp≠st:=fun z=>by rw [z,Z] at S;cases S
   have hpl2:pp≠M:=fun z=>by rw [z,h2l] at S;cases S
   refine ⟨_,rfl,x,rfl,hkx.2,_,rfl,?_⟩;have sml:((q.drop (npw x)).map V.int).reverse.length < sizeLine:=by
    rw [Qc4,Qac,Qd6];exact Z1 (by lia)
   have fin:∀(v:Int) (Hx:Hp),Xz ys cols pl kp (x::r)=(v::q.drop (npw x),l2)->ZC H3 Hx->upd Hx st (.lst (((q.drop (npw x)).map V.int).reverse++[.int v])) st=some (.lst ((Xz ys cols pl kp (x::r)).1.map V.int).reverse)/\upd Hx st (.lst (((q.drop (npw x)).map V.int).reverse++[.int v])) M=some (.lst ((Xz ys cols pl kp (x::r)).2.map V.int))/\ZC H (upd Hx st (.lst (((q.drop (npw x)).map V.int).reverse++[.int v]))):=fun v Hx e sx=>by
    rw [e];refine ⟨by rw [Za,Qbx,Qcs],by rw [Zj Y.symm];exact sx _ _ h3l,ZU (s4.trans sx) N⟩
   rcases hwx with ⟨y,rfl,hy,hny,hn1,hn2⟩ | ⟨y,rfl,hy,hna,hny,hnp⟩ | ⟨y,rfl,hy,hna,hnp⟩ | ⟨z,rfl,hz,hnp⟩
   ·show if inV (.str y) (allR.map V.str)=true then _ else _
    rw [ZA,Qao hy];have eX:Xz ys cols pl kp (.str y::r)=(okI y (q.take (npw (.str y))) (-(kp.getD l2.length 0)) (ktI y (q.take (npw (.str y))) (-(kp.getD l2.length 0)))::q.drop (npw (.str y)),l2++[ktI y (q.take (npw (.str y))) (-(kp.getD l2.length 0))]):=by
     rw [eX];exact Qa0 hy
    have hkk:l2.length < kp.length:=by
     rw [eX] at hmo;simp only [Qap,Qax,Qev] at hmo;lia
    refine Y3 ⟨_,rfl,_,rfl,M,_,rfl,.inl (SqL.of h3l),kt,_,_,.int (kp.getD l2.length 0),rfl,rfl,SqT.of (s4 _ _ hk),?_,_,rfl,?_⟩
    ·rw [Qac]
     exact Z9 _ rfl hkk
    try dsimp only
    generalize -(kp.getD l2.length 0)=hh at *;refine Zh ?_;refine ⟨_,rfl,.inl ⟨rfl,_,SqL.of h3l⟩,_,rfl,_,rfl,_,rfl,y,pp,q.take (npw (.str y)),hh,rfl,hpp,by lia,hy,(fun h=>by have:=hn2 h;lia),fun H4 s5=>⟨M,_,_,rfl,rfl,s5 _ _ h3l,?_,?_⟩⟩
    ·rw [Qac]
     exact Z1 (by lia)
    have h5s:upd H4 M (.lst (l2.map V.int++[.int (ktI y (q.take (npw (.str y))) hh)])) st=some (.lst ((q.drop (npw (.str y))).map V.int).reverse):=by rw [Zj Y];exact s5 _ _ O
    have h5p:upd H4 M (.lst (l2.map V.int++[.int (ktI y (q.take (npw (.str y))) hh)])) pp=some (.lst ((q.take (npw (.str y))).map V.int)):=by rw [Zj hpl2];exact s5 _ _ hpp
    have h5l:upd H4 M (.lst (l2.map V.int++[.int (ktI y (q.take (npw (.str y))) hh)])) M=some (.lst (l2.map V.int++[.int (ktI y (q.take (npw (.str y))) hh)])):=Za;have s6:ZC H (upd H4 M (.lst (l2.map V.int++[.int (ktI y (q.take (npw (.str y))) hh)]))):=ZU (s4.trans s5) hlaH;generalize upd H4 M (.lst (l2.map V.int++[.int (ktI y (q.take (npw (.str y))) hh)]))=H5 at *;refine ⟨_,rfl,.inl ⟨rfl,_,SqL.of h5s⟩,_,rfl,_,rfl,_,rfl,_,rfl,1,rfl,M,_,-1,.int (ktI y (q.take (npw (.str y))) hh),rfl,rfl,SqL.of h5l,Zcc _ _,y,pp,q.take (npw (.str y)),hh,_,rfl,h5p,by lia,hy,(fun h=>by have:=hn2 h;lia),fun H6 s7=>⟨st,_,_,rfl,rfl,s7 _ _ h5s,sml,_,_,_,rfl,hi,?_,?_,ZU (s6.trans s7) N⟩⟩
    ·rw [Za,eX,Qbx,Qcs]
    ·rw [Zj Y.symm,eX,Qav]
     exact s7 _ _ h5l
   ·show if inV (.str y) (allR.map V.str)=true then _ else _
    rw [ZA,Qaq hna];have eX:Xz ys cols pl kp (.str y::r)=(oaI y (q.take (npw (.str y)))::q.drop (npw (.str y)),l2):=by
     rw [eX];show (if y∈allR then _ else if y∈ys then _ else _)=_;rw [Qaw hna,Qaw hny]
    refine ZI ⟨_,rfl,_,_,_,_,rfl,.str y,Xl,_,rfl,ZI ⟨_,rfl,_,rfl,dv,Ye kvs (.inr y),rfl,.inl ⟨kvs,.inr y,.inl (s4 _ _ hd),rfl,rfl⟩,_,rfl,?_⟩⟩;show if (Ye kvs (.inr y)).isSome=true then _ else _;rw [hc.2 y hny];refine ZI ⟨_,rfl,.inl ⟨rfl,_,SqL.of O⟩,_,rfl,_,rfl,y,pp,q.take (npw (.str y)),rfl,hpp,hy,by rw [hln3,hnp],fun H4 s5=>?_⟩;obtain ⟨f1,f2,f3⟩:=fin _ H4 eX s5;exact ⟨st,_,_,rfl,rfl,s5 _ _ O,sml,_,_,_,rfl,hi,f1,f2,f3⟩
   ·show if inV (.str y) (allR.map V.str)=true then _ else _
    rw [ZA,Qaq hna];have eX:Xz ys cols pl kp (.str y::r)=(cols y::q.drop (npw (.str y)),l2):=by
     rw [eX];show (if y∈allR then _ else if y∈ys then _ else _)=_;rw [Qaw hna,Qa0 hy]
    refine ZI ⟨_,rfl,_,_,_,_,rfl,.str y,Xl,_,rfl,ZI ⟨_,rfl,_,rfl,dv,Ye kvs (.inr y),rfl,.inl ⟨kvs,.inr y,.inl (s4 _ _ hd),rfl,rfl⟩,_,rfl,?_⟩⟩;show if (Ye kvs (.inr y)).isSome=true then _ else _;rw [hc.1 y hy];obtain ⟨f1,f2,f3⟩:=fin _ H3 eX (ZC.refl _);exact Y3 ⟨_,rfl,.inl ⟨rfl,_,SqL.of O⟩,_,rfl,_,rfl,dv,_,rfl,.inl ⟨kvs,.inr y,.inl (s4 _ _ hd),rfl,(hc.1 y hy).symm⟩,st,_,_,rfl,rfl,O,sml,_,_,_,rfl,hi,f1,f2,f3⟩
   ·show if inV (.int z) (allR.map V.str)=true then _ else _
    rw [vg];refine ZI ⟨_,rfl,_,_,_,_,rfl,.int z,XM,_,rfl,Y3 ⟨_,rfl,.inl ⟨rfl,_,SqL.of O⟩,_,rfl,_,rfl,_,_,rfl,rfl,Qdc pl,_,_,rfl,rfl,_,rfl,?_⟩⟩;have ev:-(Builtin.bitAnd (z / 2 ^ (pl:Int).toNat) 1)=-(bt z pl):=by
     rw [and_1,Qbs]
     rfl
    try dsimp only
    rw [ev];obtain ⟨f1,f2,f3⟩:=fin _ H3 eX (ZC.refl _);exact ⟨st,_,_,rfl,rfl,O,sml,_,_,_,rfl,hi,f1,f2,f3⟩
  ·rintro σ H2 ⟨u6,u7,u8,rfl,hi0,Z,h2l,s3⟩
   rw [Qe1,Qfa,hst] at Z h2l;refine ⟨_,rfl,.inl ⟨rfl,_,SqL.of Z⟩,st,_,.int o,rfl,rfl,Z,rfl,_,rfl,by show 2<=sizeLine;decide,fun tt htt=>?_⟩;have hlt:upd H2 st (.lst []) M=some (.lst (lt.map V.int)):=by rw [Zj Y.symm];exact h2l
   have s5:ZC H (upd H2 st (.lst [])):=ZU s3 N;exact k tt M _ (s5.free htt) Za (Zc htt _ _ hlt) (s5.trans (Zc htt))
def Gv(P:Aq)(w:Au)(K:Af)(mg:Ae)(base:Heap):Sp:=fun vs H Q _=>∃(κ:Type) (M:DecidableEq κ) (sk:SK κ) (pn f:Aw) (nm:Ai) (b:κ) (G:V) (nx:κ->List κ) (ot:κ->List V) (U:List κ) (τ:Sp),vs=[.ref pn,G,.ref f]/\H pn=some (.tup (nm.map V.str))/\sk.at_ H b G/\b∈U/\(∀s∈U,(nx s).length<=8/\(ot s).length<=8/\∀x∈nx s,x∈U)/\U.length<=1000000/\nm.length<=3/\YE P w K mg base 12 f H τ /\
 (∀(s:κ) (J:V) (H1:Hp) (D:VK),s∈U->sk.at_ H1 s J->ZC H H1->(∀t L I C H2,H2 t=some (.tup [.ref L,.ref I])->SqF H1 H2 L C->StA sk H2 (nx s) C->SqF H1 H2 I (ot s)->ZC H1 H2->D (.ref t) H2)->τ [J] H1 D E0) /\
 ∀p q m (l:List κ) C H',BfE nx b l->H' p=some (.tup [.ref q,.ref m])->H q=none->H' q=some (.lst C)->StA sk H' l C->M4 H' m nm 0 (rnG nx l) (l.map ot)->ZC H H'->Q (.ref p) H'
theorem Wd (T:Txt K w mg t) (TB:Tbs mg base t):Y9 P w K mg base CX0 13 t.fq t.ft ["names","begin","step_of"] (Gv P w K mg base):=by
 have J:=qM (P:=P) (base:=base) T TB;refine T.ai.F.ok ZW (fun vs H Q E h=>?_) (fun cdv A outer s H vs Q E hr h=>?_)
 ·obtain ⟨κ,_,sk,pn,f,nm,b,bv,nx,ot,U,τ,rfl,hpn,hbv,hb,hU,h2,hn3,hc,hτ,k⟩:=h
  rfl
 ·obtain ⟨κ,_,sk,pn,f,nm,b,bv,nx,ot,U,τ,rfl,hpn,hbv,hb,hU,h2,hn3,hc,hτ,k⟩:=h
  have hu:=ZP hr;refine ⟨_,@QSs.out _ _ _ (Zb (Zp (i:=3) ZW.nd rfl (Or.inr rfl) (ZQ (Zk (qv 1) Zd)))
    (Zb (Zp (i:=4) ZW.nd rfl (Or.inr rfl) (QE.or (uY (jD hr) (qv 1) Zf) (uL (vV (qv 1) Zf uK) rfl rfl (fun z=>nomatch z) (by decide))))
    (Zb (Zp (i:=5) ZW.nd rfl (Or.inl rfl) (ZQ Zd))
    (Zb (Zp (i:=6) ZW.nd rfl (Or.inl rfl) (ZQ Zd))
    (Zb (zd Qbv (Zr gM (Zs Z0 (by rfl) T.ak YA (Zk (qv 5) Zd)) (Zs Z0 (by rfl) T.ak YA (Zk (qv 3) Zd)) (Z3 _))
    (Zb (Zp (i:=7) ZW.nd rfl (Or.inl rfl) (Zcv (k:=12) 2 (hr.mono (by decide)) (Zk (Z4 Zw (qv 3) (Zs Z0 (by rfl) T.ak YA (Zk (qv 5) Zd)) (fun _ _=>rfl)) Zd)))
    (Zb (Yh (Y4 Qar Qa4 Qa5 ZE (qv 5) (Zk (Z8 Z6 (by rfl) T.ao Yw (Zk (YO ({}:ZR (Zg Xu) _ ["names","begin","step_of","states","numbers","steps","out","told"] "state" ["states","numbers"] [3,4]) (QI.or (Xm (Z4 Yb (qv 7) Zf (fun _ _=>rfl))) (WG (Z4 Yb (qv 7) Zf (fun _ _=>rfl)))) (fun _ _ _ _=>Xw) (fun _ _ _ _=>(Zm J (hr.mono (by decide)) rfl T.bu.m T.bu.F.kp T.bu.b .nil ZH (Zk (qv 0) (Zk (qv 1) (Zk (qv 2) Zd)))))) Zd)) Zd)))
    (Ze (Yh (Y4 Qar Qa4 Qa5 ZE (qv 6) (Zk (Z8 Z6 (by rfl) T.ao Yw (Zk (Z4 Yb (qv 7) Zf (fun _ _=>rfl)) Zd)) Zd)))))))
    (Ze (Zn (Yj (Zk (qv 3) (Zk (Yj (Zk (Z8 Z6 (by rfl) T.ao Yw (Zk (qv 0) Zd)) (Zk Zf (Zk (Z8 Z6 (by rfl) T.ao Yw (Zk (qv 5) Zd)) (Zk (Z8 Z6 (by rfl) T.ao Yw (Zk (qv 6) Zd)) Zd))))) Zd)))))))))),?_⟩
  clear hu
  try dsimp only [L2.cxK,L2.cxK2]
  refine L2.let6 ?_;intro U5 U4 U3 U2 U1;have hr:∀s∈U,∀x∈nx s,x∈U:=fun s h=>(hU s h).2.2;refine ⟨_,rfl,by show 1<=sizeLine;decide,fun st hst=>?_⟩;have s1:=Zc (o:=.lst [bv]) hst;refine Zh ?_;have begun:∀(D:Aw) (H3:Hp),H D=none->H3 st=some (.lst [bv])->sk.dic H3 D [b]->sk.at_ H3 b bv->ZC H H3->U2 { nx:=fun _ H'=>Q .non H',rt:=Q } [some (.ref pn),some bv,some (.ref f),some (.ref st),some (.ref D),none,none,none] H3:=by
   intro D H3 hndH hst3 hnd3 hbv3 s3;obtain ⟨ond,hond,ndT,ndL⟩:=SK.ne hnd3;refine ⟨by show 0<=sizeLine;decide,fun pp hpp=>Zh ⟨by show 0<=sizeLine;decide,fun I hpo=>Zh ?_⟩⟩;have sp:=Zc (o:=.lst []) hpp;have so:=sp.trans (Zc (o:=.lst []) hpo);have hppH:H pp=none:=s3.free hpp;have hpoH:H I=none:=s3.free (sp.free hpo);have pst:pp≠st:=(Zl hst3 hpp).symm;have pnd:pp≠D:=(Zl hond hpp).symm;have ppo:pp≠I:=Zl Za hpo;have ost:I≠st:=(Zl (sp _ _ hst3) hpo).symm;have oNd:I≠D:=(Zl (sp _ _ hond) hpo).symm;have rl:∀{H:Hp} {zs:A2} {i:Nat},Xf H zs (xb nx b i)->zs.length=i:=fun z=>by
    have:=z.1;unfold xb at this;rw [Qac,Qbl] at this;exact this
   have ol:∀{H:Hp} {zs:A2} {i:Nat},Xf H zs (zG nx ot b i)->zs.length=i:=fun z=>by
    have:=z.1;unfold zG at this;rw [Qac,Qbl] at this;exact this
   have L:∀{Ha Hb:Hp},ZC Ha Hb->∀b xs,Ha b=some (.tup xs)->Hb b=some (.tup xs):=fun s b xs e=>s _ _ e;refine vc (fun σ H2=>∃(i:Nat) (u7:Option V) (zs os ws:A2),σ=[some (.ref pn),some bv,some (.ref f),some (.ref st),some (.ref D),some (.ref pp),some (.ref I),u7]/\H2 st=some (.lst ws)/\StA sk H2 (bfN nx b i) ws/\sk.dic H2 D (bfN nx b i)/\H2 pp=some (.lst zs)/\H2 I=some (.lst os)/\Xf H2 zs (xb nx b i)/\Xf H2 os (zG nx ot b i)/\(∀j,j < i->j < (bfN nx b j).length)/\i<=(bfN nx b i).length/\ZC H H2) (fun _ H2=>match H2 pp with | some (.lst zs)=>U.length - zs.length | _=>0) ⟨0,none,[],[],[bv],rfl,so _ _ hst3,StA.one (SK.keep hbv3 (L so)),SK.stay hnd3 (fun o e=>so _ _ e) (L so),Zc hpo _ _ Za,Za,Xf.nil,Xf.nil,(fun j hj=>absurd hj (Qez _)),Qbc _,s3.trans so⟩ ?_;rintro σ H4 ⟨i,u7,zs,os,ws,rfl,S,hA4,hnd4,N,hpo4,Rz,Ro,hgo,hil,s4⟩;have hzl:=rl Rz;have hol:=ol Ro;have hlen:=Za2 hb hr i;have hnod:=Jt (nx:=nx) (b:=b) i;have hinU:=Za1 hb hr i;refine ⟨_,rfl,pp,_,rfl,.inl (SqL.of N),_,rfl,st,_,rfl,.inl (SqL.of S),_,_,rfl,rfl,_,rfl,?_⟩;rw [hzl,hA4.1];refine zc (fun hlt=>?_) (fun hlt=>?_)
   ·have hlt':i < (bfN nx b i).length:=by
     have:=Qbi hlt;lia
    obtain ⟨C,hsi⟩:∃C,(bfN nx b i)[i]?=some C:=⟨_,Qad hlt'⟩;have hsU:C∈U:=hinU _ (Qas hsi);obtain ⟨r8,o8,rU⟩:=hU C hsU;obtain ⟨sv,hsv,hat⟩:=hA4.2 i C hsi;have eR:=wQ (nx:=nx) (b:=b) hsi;have eO:=wR (nx:=nx) (ot:=ot) (b:=b) hsi;have eS:=zF (nx:=nx) (b:=b) hsi;refine ⟨fun σ' H'=>∃(u7:Option V) (zs' os' G:A2),σ'=[some (.ref pn),some bv,some (.ref f),some (.ref st),some (.ref D),some (.ref pp),some (.ref I),u7]/\H' st=some (.lst G)/\StA sk H' (bfN nx b (i + 1)) G/\sk.dic H' D (bfN nx b (i + 1))/\H' pp=some (.lst zs')/\H' I=some (.lst os')/\Xf H' zs' (xb nx b (i + 1))/\Xf H' os' (zG nx ot b (i + 1))/\ZC H H',?_,?_⟩
    ·rintro σ' H' ⟨u8,zs',os',G,rfl,g1,gA,g2,g3,g4,g5,g6,s5⟩
     have hpre:(bfN nx b i).length<=(bfN nx b (i + 1)).length:=by
      obtain ⟨r,e⟩:=W9 (nx C) (bfN nx b i);rw [eS,e,Qap];lia
     refine ⟨U.length - (i + 1),?_,?_,i + 1,u8,zs',os',G,rfl,g1,gA,g2,g3,g4,g5,g6,fun j hj=>?_,by lia,s5⟩
     ·rw [N]
      show U.length - (i + 1) < U.length - zs.length;lia
     ·rw [g3]
      show _=U.length - zs'.length;rw [rl g5]
     ·by_cases hji:j=i
      ·rw [hji]
       exact hlt'
      ·exact hgo j (by lia)
    ·refine ⟨f,τ,rfl,hc.frz s4.frz,_,rfl,_,rfl,pp,_,rfl,.inl (SqL.of N),st,_,_,sv,rfl,rfl,SqL.of S,by rw [hzl];exact Xj hsv,J7.refl _,hτ C sv H4 _ hsU hat s4 fun tt r1 r2 ws0 H5 htt hr1 hA5 hr2 s5=>?_⟩
     refine Zh ?_;generalize hl0:bfN nx b i=l0 at *;have hst5:=s5 _ _ S;have hnd5:sk.dic H5 D l0:=SK.stay hnd4 (fun o e=>s5 _ _ e) (L s5);have hpp5:=s5 _ _ N;have hpo5:=s5 _ _ hpo4;obtain ⟨ond4,hond4,nd4T,nd4L⟩:=SK.ne hnd4;have ndn:∀{r:Aw} {ys:A2},SqF H4 H5 r ys->r≠st/\r≠D/\r≠pp/\r≠I:=fun {r ys} z=>by
      have lst:∀{q:Aw} {o:HO},H4 q=some o->(∀xs,o≠.tup xs)->r≠q:=fun {q o} e ht e2=>by
       subst e2;rcases z with z | ⟨_,z⟩
       ·rw [s5 _ _ e] at z
        exact ht ys (Option.some.inj z)
       ·rw [e] at z;cases z
      exact ⟨lst S (fun _ z=>nomatch z),lst hond4 nd4T,lst N (fun _ z=>nomatch z),lst hpo4 fun _ z=>nomatch z⟩
     obtain ⟨rst,rnd,_,_⟩:=ndn hr1;refine ⟨_,rfl,.inl ⟨rfl,_,SqL.of hpp5⟩,?_⟩;have hr1':H5 r1=some (.tup ws0)\/H5 r1=some (.lst ws0):=hr1.imp id (fun z=>z.1);have w8:ws0.length<=8:=by rw [hA5.1];exact r8
     refine Zdj (a:=r1) (xs:=ws0) (fun R hR=>⟨_,rfl,tt,_,0,_,rfl,rfl,SqT.of htt,rfl,hR⟩) hr1' (fun j zs H'=>zs=((nx C).take j).map (fun x=>Jr ((bfN nx b (i + 1)).idxOf x))/\(∃G,H' st=some (.lst G)/\StA sk H' (((nx C).take j).foldl Y0 l0) G)/\sk.dic H' D (((nx C).take j).foldl Y0 l0)/\(∀b o,H5 b=some o->b≠st->b≠D->H' b=some o)/\∀b,H5 b=none->H' b=none) ⟨rfl,⟨ws,hst5,hA4.keep (L s5)⟩,hnd5,(fun _ _ e _ _=>e),fun _ e=>e⟩ ?_ ?_ ?_ ?_
     ·rintro j zs Y ⟨rfl,_⟩
      rw [Qac,Qby];exact Qa9 (Z1 (by lia))
     ·rintro j zs Y ⟨_,_,_,g3,_⟩ o e
      exact g3 _ _ e rst rnd
     ·rintro j x zs Y R hR hx ⟨rfl,⟨G,g1,gA⟩,g2,g3,g4⟩
      have hj:j < (nx C).length:=by rw [<-hA5.1];exact (Qaf.mp hx).1
      obtain ⟨s',hs'⟩:∃s',(nx C)[j]?=some s':=⟨_,Qad hj⟩;have tp6:∀b xs,H5 b=some (.tup xs)->Y b=some (.tup xs):=fun b xs e=>g3 _ _ e (X4 e hst5 (fun z=>nomatch z)) (fun z=>by rw [z,s5 _ _ hond4] at e;exact nd4T xs (Option.some.inj e));obtain ⟨v',hv',hat'⟩:=hA5.2 j s' hs';rw [hx] at hv';cases hv';have hat6:=SK.keep hat' tp6;have e1:((nx C).take (j + 1)).foldl Y0 l0=Y0 (((nx C).take j).foldl Y0 l0) s':=by
       rw [take_snoc hs',Qc5]
       rfl
      have e2:(bfN nx b (i + 1)).idxOf s'=(Y0 (((nx C).take j).foldl Y0 l0) s').idxOf s':=by
       have e3:(nx C).foldl Y0 l0=((nx C).drop (j + 1)).foldl Y0 (((nx C).take (j + 1)).foldl Y0 l0):=by rw [<-Qc5,Qc6]
       obtain ⟨r,e4⟩:=W9 ((nx C).drop (j + 1)) (((nx C).take (j + 1)).foldl Y0 l0);rw [eS,e3,e4,e1,JA (Xx.mpr (.inr rfl))]
      have hnj:(((nx C).take j).foldl Y0 l0).Nodup:=q5 _ _ hnod;have hlj:(((nx C).take j).foldl Y0 l0).length < 10000000:=by
       have:=Za0 ((nx C).take j) l0;rw [Qby] at this;lia
      have ew:((nx C).take (j + 1)).map (fun x=>Jr ((bfN nx b (i + 1)).idxOf x))=((nx C).take j).map (fun x=>Jr ((bfN nx b (i + 1)).idxOf x))++[Jr ((bfN nx b (i + 1)).idxOf s')]:=by
       rw [take_snoc hs',Qav]
       rfl
      rw [ew,e1] at hR;rw [e2] at hR;generalize ((nx C).take j).foldl Y0 l0=l' at *;refine Zjn ⟨_,rfl,_,rfl,_,rfl,κ,_,sk,x,st,D,s',l',G,rfl,g1,gA.1,g2,hat6,hnj,hlj,fun H7 ws7 q1 q0 q2 q3 q4=>hR _ _ ⟨rfl,⟨ws7,q1,?_⟩,q2,(fun b o e h1 h2=>q3 _ _ (g3 b o e h1 h2) h1 h2),fun b e=>q4 _ (g4 b e)⟩⟩;have tp7:∀b xs,Y b=some (.tup xs)->H7 b=some (.tup xs):=fun b xs e=>q3 _ _ e (X4 e g1 (fun z=>nomatch z)) fun z=>by
       obtain ⟨o,e7,h7,_⟩:=SK.ne g2;rw [z,e7] at e;exact h7 xs (Option.some.inj e)
      rcases q0 with ⟨hm,rfl⟩ | ⟨hm,rfl⟩
      ·rw [show Y0 l' s'=l' from Qa0 hm]
       exact gA.keep tp7
      ·rw [show Y0 l' s'=l'++[s'] from Qaw hm]
       exact (gA.keep tp7).snoc (SK.keep hat6 tp7)
     ·rintro zs1 Y ⟨rfl,⟨G,g1,gA⟩,g2,g3,g4⟩ l hl
      rw [hA5.1,Qb8] at g2 gA ⊢;rw [<-eS] at g2 gA;have tp6:∀{c:Aw} {ys:A2},H5 c=some (.tup ys)->Y c=some (.tup ys):=fun {c ys} e=>g3 _ _ e (X4 e hst5 (fun z=>nomatch z)) (fun z=>by rw [z,s5 _ _ hond4] at e;exact nd4T ys (Option.some.inj e));have hpp6:=g3 _ _ hpp5 pst pnd;have hpo6:=g3 _ _ hpo5 ost oNd;have htt6:=tp6 htt;have M:Y r2=some (.tup (ot C))\/Y r2=some (.lst (ot C)):=by
       obtain ⟨z1,z2,_⟩:=ndn hr2;rcases hr2 with z | ⟨z,_⟩
       ·exact .inl (g3 _ _ z z1 z2)
       ·exact .inr (g3 _ _ z z1 z2)
      have ndr2:=ndn hr2;refine ⟨l,_,rfl,.inl ⟨SqL.of Za,fun q hq=>?_⟩⟩;have sl:=Zc (o:=.lst ((nx C).map fun x=>Jr ((bfN nx b (i + 1)).idxOf x))) hl;have sq:=sl.trans (Zc (o:=.tup ((nx C).map fun x=>Jr ((bfN nx b (i + 1)).idxOf x))) hq);have hqp:q≠pp:=(Zl (sl _ _ hpp6) hq).symm;have hqo:q≠I:=(Zl (sl _ _ hpo6) hq).symm;refine ⟨pp,_,_,rfl,rfl,sq _ _ hpp6,YL (by lia),?_⟩;have k8:∀c o,Y c=some o->c≠pp->upd (upd (upd Y l (.lst ((nx C).map fun x=>Jr ((bfN nx b (i + 1)).idxOf x)))) q (.tup ((nx C).map fun x=>Jr ((bfN nx b (i + 1)).idxOf x)))) pp (.lst (zs++[.ref q])) c=some o:=fun c o e hc=>by
       rw [Zj hc];exact sq _ _ e
      have hq8:upd (upd (upd Y l (.lst ((nx C).map fun x=>Jr ((bfN nx b (i + 1)).idxOf x)))) q (.tup ((nx C).map fun x=>Jr ((bfN nx b (i + 1)).idxOf x)))) pp (.lst (zs++[.ref q])) q=some (.tup ((nx C).map fun x=>Jr ((bfN nx b (i + 1)).idxOf x))):=by
       rw [Zj hqp];exact Za
      have hp8:=Za (H:=upd (upd Y l (.lst ((nx C).map fun x=>Jr ((bfN nx b (i + 1)).idxOf x)))) q (.tup ((nx C).map fun x=>Jr ((bfN nx b (i + 1)).idxOf x)))) (a:=pp) (o:=.lst (zs++[.ref q]));have d8:sk.dic (upd (upd (upd Y l (.lst ((nx C).map fun x=>Jr ((bfN nx b (i + 1)).idxOf x)))) q (.tup ((nx C).map fun x=>Jr ((bfN nx b (i + 1)).idxOf x)))) pp (.lst (zs++[.ref q]))) D (bfN nx b (i + 1)):=SK.off (SK.stay g2 (fun o e=>sq _ _ e) (L sq)) (sq _ _ hpp6);generalize upd (upd (upd Y l (.lst ((nx C).map fun x=>Jr ((bfN nx b (i + 1)).idxOf x)))) q (.tup ((nx C).map fun x=>Jr ((bfN nx b (i + 1)).idxOf x)))) pp (.lst (zs++[.ref q]))=H8 at *;have tp8:∀{c:Aw} {ys:A2},Y c=some (.tup ys)->H8 c=some (.tup ys):=fun {c ys} e=>k8 _ _ e (X4 e hpp6 (fun z=>nomatch z));have hpo8:=k8 _ _ hpo6 ppo.symm;have last:∀(O:Aw) (Z:Hp),Z O=some (.tup (ot C))->ZC H8 Z->Z I=some (.lst os)/\(upd Z I (.lst (os++[.ref O])) st=some (.lst G)/\StA sk (upd Z I (.lst (os++[.ref O]))) (bfN nx b (i + 1)) G/\sk.dic (upd Z I (.lst (os++[.ref O]))) D (bfN nx b (i + 1))/\upd Z I (.lst (os++[.ref O])) pp=some (.lst (zs++[.ref q]))/\upd Z I (.lst (os++[.ref O])) I=some (.lst (os++[.ref O]))/\Xf (upd Z I (.lst (os++[.ref O]))) (zs++[.ref q]) (xb nx b (i + 1))/\Xf (upd Z I (.lst (os++[.ref O]))) (os++[.ref O]) (zG nx ot b (i + 1))/\ZC H (upd Z I (.lst (os++[.ref O])))):=by
       intro O Z ha9 s9;have hpo9:=s9 _ _ hpo8;have tp9:∀{c:Aw} {ys:A2},Z c=some (.tup ys)->upd Z I (.lst (os++[.ref O])) c=some (.tup ys):=fun {c ys} e=>by rw [Zj (X4 e hpo9 (fun z=>nomatch z))];exact e
       have tp59:∀b xs,H5 b=some (.tup xs)->upd Z I (.lst (os++[.ref O])) b=some (.tup xs):=fun b xs e=>tp9 (s9 _ _ (tp8 (tp6 e)));refine ⟨hpo9,?_,gA.keep (fun b xs e=>tp9 (s9 _ _ (tp8 e))),SK.off (SK.stay d8 (fun o e=>s9 _ _ e) (L s9)) hpo9,?_,Za,?_,?_,fun c o' e=>?_⟩
       ·rw [Zj ost.symm]
        exact s9 _ _ (k8 _ _ g1 pst.symm)
       ·rw [Zj ppo]
        exact s9 _ _ hp8
       ·rw [eR]
        exact (xU (fun b xs e=>tp59 b xs (s5 _ _ e)) Rz).snoc (tp9 (s9 _ _ hq8))
       ·rw [eO]
        exact (xU (fun b xs e=>tp59 b xs (s5 _ _ e)) Ro).snoc (tp9 ha9)
       ·have cp:c≠pp:=Zl e hppH
        have co:c≠I:=Zl e hpoH;rw [Zj co];exact s9 _ _ (k8 _ _ (g3 _ _ (s5 _ _ (s4 _ _ e)) (Zl e hst) (Zl e hndH)) cp)
      refine ⟨_,rfl,.inl ⟨rfl,_,SqL.of hpo8⟩,_,rfl,tt,_,1,_,rfl,rfl,SqT.of (tp8 htt6),rfl,r2,ot C,rfl,?_⟩;rcases M with M | M
      ·obtain ⟨l1,l2⟩:=last r2 H8 (tp8 M) (ZC.refl _)
       exact .inr ⟨SqT.of (tp8 M),I,_,_,rfl,rfl,l1,YL (by lia),_,zs++[.ref q],os++[.ref r2],G,rfl,l2⟩
      ·refine .inl ⟨SqL.of (k8 _ _ M ndr2.2.2.1),fun O ha9=>?_⟩
       obtain ⟨l1,l2⟩:=last O (upd H8 O (.tup (ot C))) Za (Zc ha9);exact ⟨I,_,_,rfl,rfl,l1,YL (by lia),_,zs++[.ref q],os++[.ref O],G,rfl,l2⟩
   ·have hle:(bfN nx b i).length=i:=by
     have:¬(i:Int) < ((bfN nx b i).length:Int):=fun z=>hlt (Qao z);lia
    refine ⟨_,rfl,_,rfl,pn,_,rfl,.inr ⟨SqT.of (s4 _ _ hpn),_,rfl,pp,_,rfl,.inl ⟨SqL.of N,fun a1 ha1=>⟨_,rfl,I,_,rfl,.inl ⟨SqL.of (Zc ha1 _ _ hpo4),fun a2 ha2=>⟨by show 4<=sizeLine;decide,fun m hm=>⟨by show 2<=sizeLine;decide,fun p hp=>?_⟩⟩⟩⟩⟩⟩⟩;have q1:=Zc (o:=.tup zs) ha1;have q2:=Zc (o:=.tup os) ha2;have q3:=Zc (o:=.tup [.ref pn,.int 0,.ref a1,.ref a2]) hm;have q4:=Zc (o:=.tup [.ref st,.ref m]) hp;have qq:=q1.trans (q2.trans (q3.trans q4));refine k p st m (bfN nx b i) ws _ ⟨by rw [hle],fun j hj=>hgo j (by lia)⟩ Za hst (qq _ _ S) (hA4.keep (L qq)) ⟨⟨pn,a1,a2,q4 _ _ Za,qq _ _ (s4 _ _ hpn),⟨zs,(q2.trans (q3.trans q4)) _ _ Za,?_,fun j r hj=>?_⟩,⟨os,(q3.trans q4) _ _ Za,?_,fun j r hj=>?_⟩⟩⟩ (s4.trans qq)
    ·rw [hzl,Qac,q9,hle]
    ·rw [<-Za3 hle hgo] at hj
     obtain ⟨a,g1,g2⟩:=Rz.2 j r hj;exact ⟨a,g1,qq _ _ g2⟩
    ·rw [hol,Qac,hle]
    ·rw [<-Za4 hle hgo] at hj
     obtain ⟨a,g1,g2⟩:=Ro.2 j r hj;exact ⟨a,g1,qq _ _ g2⟩
  have fin:∀(D:Aw) (H3:Hp),H D=none->D≠st->(∃o,H3=upd (upd H st (.lst [bv])) D o)->sk.dic H3 D [b]->U2 { nx:=fun _ H'=>Q .non H',rt:=Q } [some (.ref pn),some bv,some (.ref f),some (.ref st),some (.ref D),none,none,none] H3:=by
   intro D H3 hndH hne ho hd3;obtain ⟨o,rfl⟩:=ho;have hnd1:upd H st (.lst [bv]) D=none:=by rw [Zj hne];exact hndH
   have s3:=s1.trans (Zc (o:=o) hnd1);exact begun D _ hndH (by rw [Zj hne.symm];exact Za) hd3 (SK.keep hbv fun b xs e=>s3 _ _ e) s3
  cases sk with
  | int f9 inj =>
   have hbv:bv=.int (f9 b):=hbv;subst hbv;refine .inr fun D hnd=>?_;have snd:st≠D:=Zl Za hnd;refine ⟨_,rfl,Za,[(.inl (f9 b),.int 0)],rfl,by show 1<=15;decide,Zh ?_⟩;have em:GQ [] [((.inl (f9 b):Key),V.int 0)]=nk ([b].map f9):=rfl;rw [em,xY];exact fin D _ (s1.free hnd) snd.symm ⟨_,rfl⟩ Za
  | key kn =>
   obtain ⟨a,rfl,ha⟩:=id hbv;refine .inl fun D hnd=>?_;have snd:st≠D:=Zl Za hnd;have sn2:=s1.trans (Zc (o:=.dK []) hnd);refine ⟨_,rfl,κ,_,kn,a,b,rfl,Za,kn.keep _ _ _ _ (fun b xs e=>sn2 _ _ e) ha,fun H' n' _ ho=>Zh ?_⟩;obtain ⟨o,rfl⟩:=ho;rw [xY] at n' ⊢;exact fin D _ (s1.free hnd) snd.symm ⟨_,rfl⟩ n'
def Zd9(K:Af)(q:Aw):Sp:=fun vs H Q _=>∃(m:Aw) (nm:Ai) (b:Nat) (nx:Ad) (ot:Az) (C:Bool),vs=[.ref m]/\M4 H m nm b nx ot/\Wf nm b nx ot C/\Yz H q Y5 Y6 /\
 ∀f (l cs:Aj) H',xT nx b l->cs=Zb4 (rnR nx l) (Zbj (rnQ ot l)) l.length->Zb5 (rnR nx l) cs->gg (Zbj (rnQ ot l)) cs->M4 H' f nm 0 (lsR (rnR nx l) cs) (lsO (rnQ ot l) cs)->Yz H' q Y5 Y6->Zii q H H'->Q (.ref f) H'
theorem Zea (T:Txt K w mg t) (TB:Tbs mg base t):Y9 P w K mg base CX0 14 t.rk t.oh ["machine"] (Zd9 K t.bg):=by
 have I:=Jy (P:=P) (base:=base) T TB;have J:=yn (P:=P) (base:=base) T TB;have D:=Gu (P:=P) (base:=base) T TB;have G:=Wd (P:=P) (base:=base) T TB;refine T.ie.F.okC X2 (fun vs H Q E h=>?_) (fun A outer s H vs Q E hr h=>?_)
 ·obtain ⟨m,nm,b,nx,ot,tr,rfl,M,W,B,k⟩:=h
  rfl
 ·obtain ⟨m,nm,b,nx,ot,tr,rfl,M,W,B,k⟩:=h
  have hu:=ZP hr;refine ⟨_,@QSs.out _ _ _ (Zb (Zp (i:=1) X2.nd rfl (Or.inl rfl) (Z4 Yb (uQ (kl:=11) G (hr.mono (by decide)) rfl T.ai.m T.ai.F.kp T.ai.b rfl (Z4 Yb (qv 0) Zf (fun _ _=>rfl)) (Z4 Yb (qv 0) Zf (fun _ _=>rfl)) T.ti TB.oi TB.B rfl rfl rfl rfl (⟨⟨by rfl,by rfl,by rfl,by decide +kernel,by decide +kernel,by decide +kernel,by decide +kernel⟩,by decide +kernel,by decide +kernel,by rfl⟩:Zi4 (Zg qj) _ ["machine","found","steps","out","classes","firsts","least_steps","least_out"] ["state"] ["machine"] [0]) (fun _ _ _ _ us hl=>match us,hl with | [_],_=>rfl) (fun _ _ _ _ _ _ _ hrl=>(Yj (Zk (Z4 (show IxR _ (wg K) from Yb) (Z4 (show IxR _ (wg K) from Yb) (qv 1) Zf (fun _ _=>rfl)) (qv 0) (fun _ _=>rfl)) (Zk (Z4 (show IxR _ (wg K) from Yb) (Z4 (show IxR _ (wg K) from Yb) (qv 1) Zf (fun _ _=>rfl)) (qv 0) (fun _ _=>rfl)) Zd))))) Zf (fun _ _=>rfl)))
    (Zb (Zp (i:=2) X2.nd rfl (Or.inr rfl) (Z4 Yb (qv 1) Zf (fun _ _=>rfl)))
    (Zb (Zp (i:=3) X2.nd rfl (Or.inr rfl) (Z4 Yb (qv 1) Zf (fun _ _=>rfl)))
    (Zb (Zp (i:=4) X2.nd rfl (Or.inr rfl) (Zm D (hr.mono (by decide)) rfl T.bq.m T.bq.F.kp T.bq.b .nil ZH (Zk (qv 2) (Zk (qv 3) Zd))))
    (Zb (Zp (i:=5) X2.nd rfl (Or.inl rfl) (Zm J (hr.mono (by decide)) rfl T.da.m T.da.F.kp T.da.b .nil ZH (Zk (qv 4) Zd)))
    (Zb (yB (i:=6) X2.nd rfl rfl ({}:ZR (Zg qj) _ ["machine","found","steps","out","classes","firsts","least_steps","least_out"] "state" ["classes","steps"] [4,2]) (Xm (qv 5)) (fun _ _ _ _=>Xw) (fun _ _ _ _=>(Zm I (hr.mono (by decide)) rfl T.aq.m T.aq.F.kp T.aq.b .nil ZH (Zk (Z4 (show IxR _ (wg K) from Yb) (qv 2) (qv 0) (fun _ _=>rfl)) (Zk (qv 1) Zd)))))
    (Zb (yB (i:=7) X2.nd rfl rfl ({}:ZR (Zg qj) _ ["machine","found","steps","out","classes","firsts","least_steps","least_out"] "state" ["out"] [3]) (Xm (qv 5)) (fun _ _ _ _=>Xw) (fun _ _ _ _=>(Z4 (show IxR _ (wg K) from Yb) (qv 1) (qv 0) (fun _ _=>rfl))))
    (Ze (Zn (Yj (Zk (Z4 Yb (qv 1) Zf (fun _ _=>rfl)) (Zk Zf (Zk (Z8 Z6 (by rfl) T.ao Yw (Zk (qv 6) Zd)) (Zk (Z8 Z6 (by rfl) T.ao Yw (Zk (qv 7) Zd)) Zd)))))))))))))),?_⟩
  clear hu hr
  try dsimp only [L2.cxK,L2.cxK2]
  refine L2.let8 ?_;intro U7 U6 U5 U4 U3 U2 U1;obtain ⟨pn,ps,po,hm,hn,R,O⟩:=M.ex;obtain ⟨pz,hpz⟩:=B.ex;have tP:∀{b:Aw} {xs:A2},H b=some (.tup xs)->b≠t.bg:=fun e=>X4 e hpz (fun z=>nomatch z);refine ⟨_,rfl,m,_,0,_,rfl,rfl,SqT.of hm,rfl,_,rfl,m,_,1,_,rfl,rfl,SqT.of hm,rfl,B,fun cs f H2 hcs hfz hf hT2 o2 hc=>?_⟩;have t2:∀(b:Aw) (xs:A2),H b=some (.tup xs)->H2 b=some (.tup xs):=fun b xs e=>o2 _ _ e (tP e);have hL8:=p8 W.n3;refine ⟨Nat,inferInstance,.int (fun s:Nat=>(s:Int)) (fun a b e=>Int.ofNat.inj e),pn,f,nm,b,.int (b:Int),(fun s=>nx.getD s []),(fun s=>ot.getD s []),List.range nx.length,_,rfl,t2 _ _ hn,rfl,Qcn.mpr W.b,(fun s hs=>⟨by rw [W.row (Qcn.mp hs)];exact hL8,by rw [W.or _ (getD_mem (show s < ot.length by rw [W.ol];exact Qcn.mp hs))];exact hL8,fun x hx=>Qcn.mpr (W.nl _ (getD_mem (Qcn.mp hs)) x hx)⟩),by rw [Qbl];exact W.le,W.n3,hc,fun s sv H1 Q' hs hat sH hQ=>⟨rfl,?_⟩,fun p sts fm l wsl H3 B3 hp hsts0 hsts hA M3 s3=>?_⟩
  ·have hs:=Qcn.mp hs
   have hat:sv=.int (s:Int):=hat;subst hat;have th:∀(b:Aw) (xs:A2),H b=some (.tup xs)->hide cs H1 b=some (.tup xs):=fun b xs e=>Jg hfz sH (sH _ _ (t2 _ _ e)) (fun o z=>nomatch z);obtain ⟨pn',ps',po',hm',_,R',O'⟩:=(M.tups th).ex;obtain ⟨as1,a1,g1,g2,g3⟩:=zC R' (i:=s) (by rw [Qac];exact hs);obtain ⟨as2,a2,Z,f2,f3⟩:=zC O' (i:=s) (by rw [W.ol];exact hs);rw [jR] at g3;refine ⟨_,rfl,m,_,2,_,rfl,rfl,SqT.of hm',rfl,_,rfl,ps',_,_,_,rfl,rfl,SqT.of g1,g2,_,rfl,m,_,3,_,rfl,rfl,SqT.of hm',rfl,_,rfl,po',_,_,_,rfl,rfl,SqT.of Z,f2,by show 2<=sizeLine;decide,fun q hq hcn=>?_⟩;obtain ⟨sq,hq2⟩:=Zht hq hcn;exact hQ q a1 a2 _ _ hq2 (.inl (sq _ _ (of_hide g3).2)) ⟨by unfold JZ;rw [Qac],fun i k hk=>⟨Jr k,by unfold JZ;rw [Qai,hk];rfl,rfl⟩⟩ (.inl (sq _ _ (of_hide f3).2)) sq
  have B3:=Zhw B3;have M3:M4 H3 fm nm 0 (rnR nx l) (rnQ ot l):=M3;have t3:∀(b:Aw) (xs:A2),H3 b=some (.tup xs)->hide cs H3 b=some (.tup xs):=fun b xs e=>Jg hfz s3 e (fun o z=>nomatch z);have T3:=hT2 H3 s3;have off3:Zii t.bg H (hide cs H3):=fun b o e hb=>by
   rw [Zz (fun m=>by rw [hcs b m] at e;cases e)];exact s3 _ _ (o2 _ _ e hb)
  have M3':M4 (hide cs H3) fm nm 0 (rnR nx l) (rnQ ot l):=M3.tups t3;have hp':=t3 _ _ hp
  try dsimp only
  generalize hide cs H3=H4 at *;have W1:=Zjq W B3;have hl1:=WV nx l;have hle:=W1.le;have hb1:=W1.b;have C1:=zP B3;obtain ⟨pn4,ps4,po4,hm4,hn4,R4,O4⟩:=M3'.ex;refine ⟨p,_,1,_,rfl,rfl,SqT.of hp',rfl,Zh ?_⟩;refine ⟨_,rfl,fm,_,2,_,rfl,rfl,SqT.of hm4,rfl,_,rfl,fm,_,3,_,rfl,rfl,SqT.of hm4,rfl,_,rfl,_,rfl,ps4,po4,rnR nx l,rnQ ot l,Zbj (rnQ ot l),rfl,R4,O4,Zhv W1,W1.ol,(fun row h=>⟨by rw [W1.nr row h];exact hL8,W1.nl row h⟩),hb1,by lia,fun pc C H5 hpc0 hpc hcl hst hnn hcls hcn s5=>?_⟩;have S:Zb5 (rnR nx l) C:=⟨hcl,hst⟩;have F:=G9 hnn;have hfl:=yf C;rw [hl1] at hcn hle;have hcl':C.length=l.length:=by rw [hcl,hl1]
  refine ⟨_,rfl,pc,C.map fun c:Nat=>(c:Int),rfl,by rw [hpc,Qa3];rfl,by rw [Qac];lia,fun pf H6 hpf0 Y s6=>?_⟩;have Y:H6 pf=some (.lst ((YJ C).map Jr)):=Y;have s56:=s5.trans s6;have fR:∀{i f:Nat},(YJ C)[i]?=some f->f < (rnR nx l).length:=fun {i f} h=>by
   rw [<-hcl];exact (Qaf.mp (F.at_ _ _ h).1).1
  have fl:(YJ C).length<=1000000:=by lia
  refine Zh ⟨_,rfl,pf,rfl,⟨_,SqL.of Y⟩,XA (K:=K) (a:=pf) (xs:=(YJ C).map Jr) (fun i zs H'=>Xf H' zs (((lsR (rnR nx l) C).map JZ).take i)/\i<=(YJ C).length/\ZC H6 H') ⟨Xf.nil,Qbc _,ZC.refl _⟩ (fun i zs H' h=>?_) (fun i zs H' h=>SqL.of (h.2.2 _ _ Y)) (fun i x zs H7 R7 hR hx h=>?_) (fun zs H7 h p1 hp1=>?_)⟩
  ·rw [h.1.1,Qby]
   exact Qa9 (YL (by lia))
  ·obtain ⟨hZ,hi,s7⟩:=h
   rw [Qai] at hx;obtain ⟨Z,N,rfl⟩:=Qba.mp hx;have hil:=(Qaf.mp N).1;have L:=fR N;have s47:=s56.trans s7;obtain ⟨as1,a1,g1,g2,g3⟩:=zC (R4.same s47) (i:=Z) (by rw [Qac];exact L);rw [jR] at g3;have r8:=W1.nr _ (getD_mem L);refine Zjn ⟨_,rfl,_,rfl,ps4,_,_,_,rfl,rfl,SqT.of g1,g2,_,rfl,a1,pc,(rnR nx l).getD Z [],C.map fun c:Nat=>(c:Int),rfl,g3,?_,(fun s hs=>?_),by lia,by rw [Qac];lia,fun q H8 hq0 hq s8=>hR _ _ ⟨?_,hil,s7.trans s8⟩⟩
   ·rw [(s6.trans s7) _ _ hpc,Qa3]
    rfl
   ·rw [Qac,hcl]
    exact W1.nl _ (getD_mem L) s hs
   ·have e1:((lsR (rnR nx l) C).map JZ)[i]?=some (JZ (((rnR nx l).getD Z []).map fun x=>C.getD x 0)):=by
     unfold lsR;rw [Qai,Qai,N]
     rfl
    have e2:(((rnR nx l).getD Z []).map fun s=>(C.map fun c:Nat=>(c:Int)).getD s 0).map V.int=JZ (((rnR nx l).getD Z []).map fun x=>C.getD x 0):=by
     unfold JZ;rw [Qa3,Qa3];refine Qbu fun s _=>?_;exact congrArg V.int (Zbk C s)
    rw [e2] at hq;rw [take_snoc e1];exact (hZ.same s8).snoc hq
  obtain ⟨hZ,_,s7⟩:=h;have ll:((YJ C).map Jr).length=((lsR (rnR nx l) C).map JZ).length:=by
   unfold lsR;rw [Qac,Qac,Qac]
  rw [ll,Qb8] at hZ;have u1:=Zc (o:=.lst zs) hp1;have hp1':upd H7 p1 (.lst zs) p1=some (.lst zs):=Za;have hZ1:=hZ.same u1;have s67:=s7.trans u1
  try dsimp only
  generalize upd H7 p1 (.lst zs)=H8 at *;have hpf8:=s67 _ _ Y;refine Zh ⟨_,rfl,pf,rfl,⟨_,SqL.of hpf8⟩,XA (K:=K) (a:=pf) (xs:=(YJ C).map Jr) (fun i zs H'=>Xf H' zs ((lsO (rnQ ot l) C).take i)/\i<=(YJ C).length/\ZC H8 H') ⟨Xf.nil,Qbc _,ZC.refl _⟩ (fun i zs H' h=>?_) (fun i zs H' h=>SqL.of (h.2.2 _ _ hpf8)) (fun i x zs H9 R9 hR hx h=>?_) (fun zs2 H9 h p2 hp2=>?_)⟩
  ·rw [h.1.1,Qby]
   exact Qa9 (YL (by lia))
  ·obtain ⟨hZ,hi,s9⟩:=h
   rw [Qai] at hx;obtain ⟨Z,N,rfl⟩:=Qba.mp hx;have hil:=(Qaf.mp N).1;have L:=fR N;obtain ⟨as1,a1,g1,g2,g3⟩:=zC (O4.same ((s56.trans s67).trans s9)) (i:=Z) (by rw [W1.ol];exact L);refine Zjn ⟨_,rfl,_,rfl,po4,_,_,_,rfl,rfl,SqT.of g1,g2,hR _ _ ⟨?_,hil,s9⟩⟩;have e1:(lsO (rnQ ot l) C)[i]?=some ((rnQ ot l).getD Z []):=by
    unfold lsO;rw [Qai,N]
    rfl
   rw [take_snoc e1];exact hZ.snoc g3
  obtain ⟨hO,_,s9⟩:=h;have ll2:((YJ C).map Jr).length=(lsO (rnQ ot l) C).length:=by
   unfold lsO;rw [Qac,Qac]
  rw [ll2,Qb8] at hO;have u2:=Zc (o:=.lst zs2) hp2;have s4z:=(s56.trans s67).trans (s9.trans u2);have hm9:=s4z _ _ hm4;refine Zh ⟨_,rfl,fm,_,0,_,rfl,rfl,SqT.of hm9,rfl,_,rfl,p1,_,rfl,.inl ⟨SqL.of ((s9.trans u2) _ _ hp1'),fun a1 ha1=>⟨_,rfl,p2,_,rfl,.inl ⟨SqL.of (Zc ha1 _ _ Za),fun a2 ha2=>⟨by show 4<=sizeLine;decide,fun fr L=>?_⟩⟩⟩⟩⟩;have q1:=Zc (o:=.tup zs) ha1;have q2:=Zc (o:=.tup zs2) ha2;have q3:=Zc (o:=.tup [.ref pn4,.int 0,.ref a1,.ref a2]) L;have q:=(q1.trans q2).trans q3;have s4q:=s4z.trans q;refine k fr l C _ B3 hcn S hcls ⟨⟨pn4,a1,a2,Za,s4q _ _ hn4,⟨zs,(q2.trans q3) _ _ Za,(hZ1.same ((s9.trans u2).trans q)).1,(hZ1.same ((s9.trans u2).trans q)).2⟩,⟨zs2,q3 _ _ Za,(hO.same (u2.trans q)).1,(hO.same (u2.trans q)).2⟩⟩⟩ (T3.same s4q) (fun b o e hb=>s4q _ _ (off3 b o e hb))
def Jz(P:Aq)(w:Au)(K:Af)(mg:Ae)(base:Heap)(D:Aw):Sp:=fun vs H Q _=>∃(tw G I:Aw) (q:A2) (nm:Ai) (o0 o1:V) (B C:Nat),vs=[.ref tw,.ref G,.ref I]/\H tw=some (.tup q)/\q.length<=100/\H G=some (.tup (nm.map V.str))/\nm.Nodup/\nm.length<=3/\H I=some (.tup [o0,o1])/\(∀w∈q,z9 nm w)/\Wz q/\k4 q=1/\(∀z:Int,V.int z∈q->0<=z/\z < 2 ^ B)/\C=Wg q/\(B + 1) * 2 ^ C<=1000000/\Yz H D Zv Zt /\
 ∀m (l:List (Int × Ak)) H',BfE (nxT nm (Y8 (2 ^ nm.length) nm) q (lgB q)) (0,List.replicate C 0) l->M4 H' m nm 0 (rnG (nxT nm (Y8 (2 ^ nm.length) nm) q (lgB q)) l) (l.map (otT nm (Y8 (2 ^ nm.length) nm) q o0 o1))->Yz H' D Zv Zt->Zii D H H'->Q (.ref m) H'
theorem J0 (T:Txt K w mg t) (TB:Tbs mg base t):Y9 P w K mg base CX0 14 t.ea t.cm ["words","names","told"] (Jz P w K mg base t.af):=by
 have I:=Wd (P:=P) (base:=base) T TB;have Y:=gr (P:=P) (base:=base) T TB;have Z:=gw (P:=P) (base:=base) T TB;have N:=Gd (P:=P) (base:=base) T TB;have D:=JN (P:=P) (base:=base) T TB;have J:=qP (P:=P) (base:=base) T TB;have S:=vu (P:=P) (base:=base) T TB;refine T.az.F.okC ZK (fun vs H Q E h=>?_) (fun A outer s H vs Q E hr h=>?_)
 ·obtain ⟨tw,tn,tt,C,nm,o0,o1,B,O,rfl,ht,hl,hn,hnd,hn3,hto,hw,he,hst,hB,hkc,hbig,hT,k⟩:=h
  rfl
 ·obtain ⟨tw,tn,tt,C,nm,o0,o1,B,O,rfl,ht,hl,hn,hnd,hn3,hto,hw,he,hst,hB,hkc,hbig,hT,k⟩:=h
  have hu:=ZP hr;refine ⟨_,@QSs.out _ _ _ (Zb (Zp (i:=3) ZK.nd rfl (Or.inr rfl) (Z8 (yV rfl) (by rfl) T.ry ue (Zk (Z8 yU (by rfl) T.bh Zcf (Zk (Zm S (hr.mono (by decide)) rfl T.dk.m T.dk.F.kp T.dk.b .nil ZH (Zk (Zs Z0 (by rfl) T.ak YA (Zk (qv 1) Zd)) Zd)) Zd)) Zd)))
    (Zb (Zp (i:=4) ZK.nd rfl (Or.inr rfl) (Zm J (hr.mono (by decide)) rfl T.bw.m T.bw.F.kp T.bw.b .nil ZH (Zk (qv 1) (Zk (qv 3) Zd))))
    (Zb (Zp (i:=5) ZK.nd rfl (Or.inr rfl) (Zm D (hr.mono (by decide)) rfl T.bb.m T.bb.F.kp T.bb.b .nil ZH (Zk (qv 0) Zd)))
    (Zb (qs_def (i:=6) (name := "step_of") (params:=Wh YF) (body:=Xk YF) (scope:=Zg YF) (lpos:=Zv) (qual:=Zt) ZK.nd rfl (Or.inl rfl) T.rj TB.cq TB.B rfl rfl rfl rfl (S0:=Zg ZO) rfl (by decide +kernel))
    (Zb (Zp (i:=7) ZK.nd rfl (Or.inl rfl) (Yj (Zk Zf (Zk (Z8 Z6 (by rfl) T.ao Yw (Zk (YO ({}:ZR (Zg ZO) _ ["words","names","told","letters","columns","last_place","step_of","begin"] "word" [] []) (WG (qv 0)) (fun _ _ _ _=>(vM (Xv (Zm N (hr.mono (by decide)) rfl T.aw.m T.aw.F.kp T.aw.b .nil ZH (Zk (qv 0) Zd))))) (fun _ _ _ _=>Zf)) Zd)) Zd))))
    (Ze (Zn (Z4 Yb (Zc5 (kl:=11) (i:=6) (name := "step_of") (params:=Wh YF) (body:=Xk YF) (scope:=Zg YF) (qual:=Zt) I (hr.mono (by decide)) rfl T.ai.m T.ai.F.kp T.ai.b rfl (Zk (qv 1) (Zk (qv 7) (Zk (qv 6) Zd))) rfl rfl (⟨WD,by decide +kernel,by decide +kernel,by rfl⟩:Zja (Zg ZO) _ ["words","names","told","letters","columns","last_place","step_of","begin"] ["state"] ["step","place","reached"] ["words","columns","last_place","letters","told"] [0,4,5,3,2]) (fun _ _ _ _ _ us hl=>match us,hl with | [_],_=>rfl) (fun _ _ _ _ _ _ _ hrl=>(Zb (Zp (i:=1) WD.nd rfl (Or.inr rfl) (Zm Z (hrl.mono (by decide)) rfl T.dy.m T.dy.F.kp T.dy.b .nil ZH (Zk (qv 4) (Zk (qv 5) (Zk (Z4 (show IxR _ (wg K) from Yb) (qv 0) Zf (fun _ _=>rfl)) (Zk (Z4 (show IxR _ (wg K) from Yb) (qv 0) Zf (fun _ _=>rfl)) Zd))))))
    (Zb (Zp (i:=2) WD.nd rfl (Or.inr rfl) (Zs (jj rfl) (by rfl) T.si Zeo (Zk (Zo Y1 (Z4 (show IxR _ (wg K) from Yb) (qv 0) Zf (fun _ _=>rfl)) Zf) (Zk (qv 6) Zd))))
    (Zb (yB (i:=3) WD.nd rfl rfl ({}:ZR (Zg YF) _ ["state","step","place","reached","words","columns","last_place","letters","told"] "letter" ["place","step"] [2,1]) (show QI _ _ _ (gE K (jf 7)) from Xm (qv 7)) (fun _ _ _ _=>Xw) (fun _ _ _ _=>(Yj (Zk (qv 1) (Zk (Zm Y (hrl.mono (by decide)) rfl T.du.m T.du.F.kp T.du.b .nil ZH (Zk (Z4 (show IxR _ (wg K) from Yb) (qv 2) Zf (fun _ _=>rfl)) (Zk (qv 0) Zd))) Zd)))))
    (Ze (Zn (Yj (Zk (qv 3) (Zk (YO ({}:ZR (Zg YF) _ ["state","step","place","reached","words","columns","last_place","letters","told"] "letter" ["told","step"] [8,1]) (show QI _ _ _ (gE K (jf 7)) from Xm (qv 7)) (fun _ _ _ _=>Xw) (fun _ _ _ _=>(Z4 (show IxR _ (wg K) from Yb) (qv 1) (Zo Xb (Zo vI (Z4 (show IxR _ (wg K) from Yb) (qv 2) Zf (fun _ _=>rfl)) (qv 0)) Zf) (fun _ _=>rfl)))) Zd)))))))))) Zf (fun _ _=>rfl))))))))),?_⟩
  clear hu hr
  try dsimp only [L2.cxK,L2.cxK2]
  refine L2.let6 ?_;intro U5 U4 U3 U2 U1;have h8:=p8 hn3;have e2:((2:Int) ^ nm.length)=((2 ^ nm.length:Nat):Int):=by rw [Int.natCast_pow];rfl
  have hflat:∀w∈C,Xc w=true/\((∃y,w=.str y)\/∃z:Int,w=.int z):=fun w h=>by
   rcases hw w h with ⟨y,rfl,_⟩ | ⟨y,rfl,_⟩ | ⟨y,rfl,_⟩ | ⟨z,rfl,_⟩
   ·exact ⟨rfl,.inl ⟨y,rfl⟩⟩
   ·exact ⟨rfl,.inl ⟨y,rfl⟩⟩
   ·exact ⟨rfl,.inl ⟨y,rfl⟩⟩
   ·exact ⟨rfl,.inr ⟨z,rfl⟩⟩
  refine ⟨_,rfl,tn,_,rfl,.inr (SqT.of hn),nm.length,by rw [Qac];rfl,by lia,_,rfl,fun pr hpr=>⟨pr,2 ^ nm.length,rfl,by rw [Za,e2],by lia,fun tl htl=>Zh ?_⟩⟩;have s1:=Zc (o:=.rng 0 ((2:Int) ^ nm.length)) hpr;have s2:=s1.trans (Zc (o:=.lst ((List.range (2 ^ nm.length)).map fun i:Nat=>V.int (i:Int))) htl);have htl2:=Za (H:=upd H pr (.rng 0 ((2:Int) ^ nm.length))) (a:=tl) (o:=.lst ((List.range (2 ^ nm.length)).map fun i:Nat=>V.int (i:Int)));have htlH:H tl=none:=s1.free htl
  try dsimp only
  generalize upd (upd H pr (.rng 0 ((2:Int) ^ nm.length))) tl (.lst ((List.range (2 ^ nm.length)).map fun i:Nat=>V.int (i:Int)))=H2 at *;refine ⟨_,rfl,_,rfl,tn,tl,nm,2 ^ nm.length,rfl,s2 _ _ hn,hnd,by lia,htl2,by lia,fun dv kvs H3 hdv0 hdv hcol s3=>Zh ?_⟩;have s23:=s2.trans s3;generalize Y8 (2 ^ nm.length) nm=cols at *;refine ⟨_,rfl,tw,C,rfl,s23 _ _ ht,by lia,fun w h=>(hflat w h).2,fun L H4 hL1 hL2 s4=>Zh ?_⟩;rw [<-Ze4 hL1 hL2] at k;have s24:=s23.trans s4;have hLB:L<=B:=by
   rw [Ze4 hL1 hL2];exact Za7 hB
  have hdv4:=s4 _ _ hdv;have htl4:=(s3.trans s4) _ _ htl2;refine ⟨hT.same s24,fun f c' oc ctv doc H5 hf0 hf hc' hoc hT5 o5=>?_⟩;obtain ⟨pz,hpz⟩:=(hT.same s24).ex;have o5':∀{b:Aw} {o:HO},H4 b=some o->(∀ps,o≠.tbl ps)->H5 b=some o:=fun {b o} e h=>o5 b o e fun z=>by
   rw [z,hpz] at e;exact h _ (Option.some.inj e).symm
  have t5:∀{b:Aw} {xs:A2},H b=some (.tup xs)->H5 b=some (.tup xs):=fun e=>o5' (s24 _ _ e) (fun _ z=>nomatch z);have hdv5:=o5' hdv4 (fun _ z=>nomatch z);have htl5:=o5' htl4 (fun _ z=>nomatch z);refine ⟨_,rfl,tw,rfl,⟨_,SqT.of (t5 ht)⟩,XQ (K:=K) (a:=tw) (xs:=C) (fun i zs H'=>zs=List.replicate (Wg (C.take i)) (.int 0)/\H'=H5) ⟨rfl,rfl⟩ (fun i zs H' h=>?_) (fun i zs H' h=>by rw [h.2];exact SqT.of (t5 ht)) (fun i x zs H6 R hR hx h=>?_) (fun zs H6 h pl hpl=>?_)⟩
  ·rw [h.1,Qa1]
   have:Wg (C.take i)<=(C.take i).length:=Qe3 _ _;rw [Qby] at this;exact Qa9 (Z1 (by lia))
  ·obtain ⟨rfl,rfl⟩:=h
   refine ⟨_,rfl,x,rfl,(hflat x (Qas hx)).1,_,rfl,?_⟩;have er:Wg (C.take (i + 1))=Wg (C.take i) + if inV x (allR.map V.str)=true then 1 else 0:=by
    rw [take_snoc hx];unfold Wg;rw [Qd7,Qap,Qc2]
    split <;> rfl
   rw [er] at hR;refine zc (fun hb=>?_) (fun hb=>?_)
   ·rw [Qa0 hb,Qgc] at hR
    exact hR _ _ ⟨rfl,rfl⟩
   ·rw [Qaw hb] at hR
    exact hR _ _ ⟨rfl,rfl⟩
  obtain ⟨rfl,rfl⟩:=h;rw [Qb8,<-hkc];refine ⟨pl,_,rfl,.inl ⟨SqL.of Za,fun tb htb=>⟨by show 2<=sizeLine;decide,fun tg htg=>Zh ?_⟩⟩⟩;have q1:=Zc (o:=.lst (List.replicate O (.int 0))) hpl;have q2:=Zc (o:=.tup (List.replicate O (.int 0))) htb;have q3:=Zc (o:=.tup [.int 0,.ref tb]) htg;have s6:=q1.trans (q2.trans q3);have htb6:=q3 _ _ (Za (H:=upd H6 pl (.lst (List.replicate O (.int 0)))) (a:=tb) (o:=.tup (List.replicate O (.int 0))));have htg6:=Za (H:=upd (upd H6 pl (.lst (List.replicate O (.int 0)))) tb (.tup (List.replicate O (.int 0)))) (a:=tg) (o:=.tup [.int 0,.ref tb])
  try dsimp only
  generalize upd (upd (upd H6 pl (.lst (List.replicate O (.int 0)))) tb (.tup (List.replicate O (.int 0)))) tg (.tup [.int 0,.ref tb])=H7 at *;refine ⟨_,rfl,_,rfl,_,rfl,f,c',oc,ctv,doc,rfl,s6 _ _ hf,s6 _ _ hc',hoc,fun cs H8 hcs0 hcsF o8 hcall=>?_⟩;have hU:∀s∈uni O (L + 1),(nxT nm cols C L s).length<=8/\(otT nm cols C o0 o1 s).length<=8/\∀x∈nxT nm cols C L s,x∈uni O (L + 1):=fun s hs=>⟨by unfold nxT;rw [Qac,Qbl];exact h8,by unfold otT;rw [Qac,Qbl];exact h8,zJ hw hkc hs⟩;have t8:∀{b:Aw} {xs:A2},H b=some (.tup xs)->H8 b=some (.tup xs):=fun e=>o8 _ _ (s6 _ _ (t5 e));have hUl:(uni O (L + 1)).length<=1000000:=by
   rw [zH];exact Qaz (Qeb _ (by lia)) hbig
  refine ⟨Int × Ak,_,.key knQ,tn,f,nm,(0,List.replicate O 0),.ref tg,nxT nm cols C L,otT nm cols C o0 o1,uni O (L + 1),_,rfl,t8 hn,⟨tg,rfl,tb,o8 _ _ htg6,by rw [o8 _ _ htb6,List.map_replicate]⟩,WT.mpr ⟨0,by lia,rfl,YZ.mpr ⟨Qa1,fun x hx=>.inl (Qfj hx)⟩⟩,hU,hUl,hn3,hcall,fun s sv H9 Q' hs hat s9 hQ=>⟨rfl,?_⟩,fun p sts m l wsl H9 B9 hp hsts0 hsts hA M9 s9=>?_⟩
  ·obtain ⟨a,rfl,tk,ha,htk⟩:=hat
   have hk9:∀{b:Aw} {u:HO},H9 b=some u->(∀o,u≠Xp o)->hide cs H9 b=some u:=fun e h=>Jg hcsF s9 e h;have t9:∀{b:Aw} {xs:A2},H9 b=some (.tup xs)->hide cs H9 b=some (.tup xs):=fun e=>hk9 e (fun _ z=>nomatch z);obtain ⟨pn,hp1,hp2,hp3⟩:=WT.mp hs;obtain ⟨sp,ks⟩:=s;have hp2:sp=(pn:Int):=hp2;subst hp2;obtain ⟨hkl,hkb⟩:=YZ.mp hp3;have hkl:ks.length=O:=hkl;have ha':=t9 ha;have htk':=t9 htk;have hln:(Xz nm cols pn ks C).1.length=1:=by rw [zA C hw,hst]
   have hrm:(Xz nm cols pn ks C).2.length=O:=by rw [zI C hw,hkc]
   obtain ⟨o,lt,hstp⟩:∃o lt,Xz nm cols pn ks C=([o],lt):=by
    generalize Xz nm cols pn ks C=q at hln;obtain ⟨q1,q2⟩:=q
    match q1,hln with
    | [o],_=>exact ⟨o,q2,rfl⟩
   have hltl:lt.length=O:=by rw [hstp] at hrm;exact hrm
   have hsS:Zih nm cols C ((pn:Int),ks)=([o],lt):=hstp;refine ⟨_,rfl,_,rfl,_,rfl,a,_,0,_,rfl,rfl,SqT.of ha',rfl,_,rfl,a,_,1,_,rfl,rfl,SqT.of ha',rfl,tw,dv,tk,nm,C,kvs,cols,pn,ks,o,lt,rfl,t9 (s9 _ _ (t8 ht)),hl,hk9 (s9 _ _ (o8 _ _ (s6 _ _ hdv5))) (fun _ z=>nomatch z),hcol,htk',hw,he,hstp,by rw [hltl];show O<=ks.length;lia,fun ta la H10 hta0 hta hla s10=>Zh ?_⟩;refine ⟨_,rfl,a,_,0,_,rfl,rfl,SqT.of (s10 _ _ ha'),rfl,_,_,rfl,rfl,_,rfl,_,_,rfl,Zh ?_⟩;have em:(if (L:Int) < (pn:Int) + 1 then (L:Int) else (pn:Int) + 1)=min ((pn:Int) + 1) (L:Int):=by split <;> lia
   try dsimp only
   rw [em];have M:H10 tl=some (.lst ((List.range (2 ^ nm.length)).map fun i:Nat=>V.int (i:Int))):=s10 _ _ (hk9 (s9 _ _ (o8 _ _ (s6 _ _ htl5))) (fun _ z=>nomatch z));have hxs:((List.range (2 ^ nm.length)).map fun i:Nat=>V.int (i:Int)).length=2 ^ nm.length:=by rw [Qac,Qbl]
   have hnx:nxT nm cols C L ((pn:Int),ks)=(List.range (2 ^ nm.length)).map fun l=>(min ((pn:Int) + 1) (L:Int),lt.map fun c=>bt c l):=by
    unfold nxT;rw [hsS]
   have hot:otT nm cols C o0 o1 ((pn:Int),ks)=(List.range (2 ^ nm.length)).map fun l=>if bt o l=1 then o1 else o0:=by
    unfold otT;rw [hsS]
    rfl
   refine ⟨_,rfl,tl,rfl,⟨_,SqL.of M⟩,XA (K:=K) (a:=tl) (xs:=(List.range (2 ^ nm.length)).map fun i:Nat=>V.int (i:Int)) (fun i zs H'=>StA (.key knQ) H' ((nxT nm cols C L ((pn:Int),ks)).take i) zs/\i<=2 ^ nm.length/\ZC H10 H') ⟨⟨rfl,fun i k hk=>by cases hk⟩,Qbc _,ZC.refl _⟩ (fun i zs H' h=>?_) (fun i zs H' h=>SqL.of (h.2.2 _ _ M)) (fun i x zs H11 R hR hx h=>?_) (fun zs H11 h rl hrl=>Zh ?_)⟩
   ·rw [h.1.1,Qby]
    exact Qa9 (Z1 (by lia))
   ·obtain ⟨hA,hi,s11⟩:=h
    have hil:i < 2 ^ nm.length:=by rw [<-hxs];exact (Qaf.mp hx).1
    rw [G7 hil] at hx;cases hx;refine Zjn ⟨_,rfl,_,rfl,ta,_,1,_,rfl,rfl,SqT.of (s11 _ _ hta),rfl,_,rfl,la,lt,i,rfl,s11 _ _ hla,?_,by lia,fun t5 H12 ht50 ht5 s12=>⟨by show 2<=sizeLine;decide,fun q hq=>hR _ _ ⟨?_,hil,s11.trans (s12.trans (Zc hq))⟩⟩⟩
    ·have:Wg C<=C.length:=Qe3 _ _
     lia
    ·have en:(nxT nm cols C L ((pn:Int),ks))[i]?=some (min ((pn:Int) + 1) (L:Int),lt.map fun c=>bt c i):=by rw [hnx,G7 hil]
     rw [take_snoc en];refine (hA.keep (H':=upd H12 q (.tup [.int (min ((pn:Int) + 1) (L:Int)),.ref t5])) fun b xs e=>Zc hq _ _ (s12 _ _ e)).snoc ⟨q,rfl,t5,Za,Zc hq _ _ ht5⟩
   obtain ⟨hA,_,s11⟩:=h;rw [hxs,Qcx (by rw [hnx,Qac,Qbl];exact Qag _)] at hA;have s12:=Zc (o:=.lst zs) hrl;have hrl12:=Za (H:=H11) (a:=rl) (o:=.lst zs)
   try dsimp only
   generalize upd H11 rl (.lst zs)=H12 at *;have G:=s11.trans s12;have htt12:H12 tt=some (.tup [o0,o1]):=G _ _ (s10 _ _ (t9 (s9 _ _ (t8 hto))));refine ⟨_,rfl,_,rfl,tl,rfl,⟨_,SqL.of (G _ _ M)⟩,comp_map (xs:=(List.range (2 ^ nm.length)).map fun i:Nat=>V.int (i:Int)) (fI fun c=>if bt o c.toNat=1 then o1 else o0) (SqL.of (G _ _ M)) (by rw [hxs];exact Qa9 (Z1 (by lia))) (fun v hv R hR=>?_) (fun q hq=>?_)⟩
   ·obtain ⟨l,_,rfl⟩:=Qau.mp hv
    refine ⟨_,rfl,_,rfl,ta,_,0,_,rfl,rfl,SqT.of (G _ _ hta),rfl,_,rfl,_,_,rfl,rfl,Qdc l,_,_,rfl,rfl,tt,_,_,fI (fun c=>if bt o c.toNat=1 then o1 else o0) (V.int (l:Int)),rfl,rfl,SqT.of htt12,?_,hR⟩;rw [and_1,Qbs];show atI [o0,o1] (bt o l)=some (if bt o (l:Int).toNat=1 then o1 else o0);rw [Qbs];rcases YH o l with e | e <;> rw [e] <;> rfl
   ·refine ⟨by show 2<=sizeLine;decide,fun t0 ht0 hcn=>?_⟩
    have ef:((List.range (2 ^ nm.length)).map fun i:Nat=>V.int (i:Int)).map (fI fun c=>if bt o c.toNat=1 then o1 else o0)=otT nm cols C o0 o1 ((pn:Int),ks):=by
     rw [hot,Qa3];refine Qbu fun l _=>?_;show (if bt o (l:Int).toNat=1 then o1 else o0)=_;rw [Qbs]
    rw [ef] at ht0 hcn ⊢;have s13:=Zc (o:=.lst (otT nm cols C o0 o1 ((pn:Int),ks))) hq;have s14:=s13.trans (Zc (o:=.tup [.ref rl,.ref q]) ht0);have hsame:=s10.trans (G.trans s14);obtain ⟨u1,u2,u3⟩:=wU hsame hcn;have hrl14:=s14 _ _ hrl12;have hq14:=Zc (o:=.tup [.ref rl,.ref q]) ht0 _ _ (Za (H:=H12) (a:=q) (o:=.lst (otT nm cols C o0 o1 ((pn:Int),ks))));exact hQ t0 rl q zs _ (u2 _ _ Za) (.inr ⟨u2 _ _ hrl14,u3 _ _ hrl14 (s10.free (s11.free hrl))⟩) (hA.keep fun b xs e=>u2 _ _ ((s12.trans s14) _ _ e)) (.inr ⟨u2 _ _ hq14,u3 _ _ hq14 (s10.free (G.free hq))⟩) u1
  ·have keep9:ZC H7 (hide cs H9):=fun b o e=>by
    rw [Zz fun m=>by rw [hcs0 b m] at e;cases e];exact s9 _ _ (o8 _ _ e)
   have tk9:∀(b:Aw) (xs:A2),H9 b=some (.tup xs)->hide cs H9 b=some (.tup xs):=fun b xs e=>Jg hcsF s9 e (fun _ z=>nomatch z);refine ⟨p,_,1,_,rfl,rfl,SqT.of (tk9 _ _ hp),rfl,k m l (hide cs H9) B9 ?_ ((hT5.same s6).same keep9) fun b o e hb=>keep9 _ _ (s6 _ _ (o5 _ _ (s24 _ _ e) hb))⟩;obtain ⟨pn,ps,po,h1,h2,h3,h4⟩:=M9.ex;exact ⟨⟨pn,ps,po,tk9 _ _ h1,tk9 _ _ h2,xV h3 tk9,xV h4 tk9⟩⟩
def Gw(P:Aq)(w:Au)(K:Af)(mg:Ae)(base:Heap)(D:Aw):Sp:=fun vs H Q _=>∃(tw G:Aw) (q:A2) (nm:Ai) (B C:Nat),vs=[.ref tw,.ref G]/\H tw=some (.tup q)/\q.length<=100/\H G=some (.tup (nm.map V.str))/\nm.Nodup/\nm.length<=3/\(∀w∈q,z9 nm w)/\Wz q/\k4 q=1/\(∀z:Int,V.int z∈q->0<=z/\z < 2 ^ B)/\C=Wg q/\(B + 1) * 2 ^ C<=1000000/\Yz H D Zv Zt /\
 ∀m (l:List (Int × Ak)) H',BfE (nxT nm (Y8 (2 ^ nm.length) nm) q (lgB q)) (0,List.replicate C 0) l->M4 H' m nm 0 (rnG (nxT nm (Y8 (2 ^ nm.length) nm) q (lgB q)) l) (l.map (otT nm (Y8 (2 ^ nm.length) nm) q (.bl false) (.bl true)))->Yz H' D Zv Zt->Zii D H H'->Q (.ref m) H'
theorem Gx (T:Txt K w mg t) (TB:Tbs mg base t):Y9 P w K mg base CX0 15 t.fu t.fw ["claim","names"] (Gw P w K mg base t.af):=by
 have q:=J0 (P:=P) (base:=base) T TB;refine T.br.F.ok Gm (fun vs H Q E h=>?_) (fun cdv A outer s H vs Q E hr h=>?_)
 ·obtain ⟨tw,S,O,nm,B,kc,rfl,Z,hl,hn,I,G,hw,he,J,N,D,C,Y,k⟩:=h
  rfl
 ·obtain ⟨tw,S,O,nm,B,kc,rfl,Z,hl,hn,I,G,hw,he,J,N,D,C,Y,k⟩:=h
  have hu:=ZP hr;refine ⟨_,@QSs.out _ _ _ (Ze (Zn (Zm q (hr.mono (by decide)) rfl T.az.m T.az.F.kp T.az.b .nil ZH (Zk (qv 0) (Zk (qv 1) (Zk (Yj (Zk X8 (Zk X8 Zd))) Zd)))))),?_⟩;refine ⟨_,rfl,_,rfl,by decide,fun tt M=>?_⟩;have L:=Zc (o:=.tup [.bl false,.bl true]) M;exact ⟨tw,S,tt,O,nm,(.bl false),(.bl true),B,kc,rfl,L _ _ Z,hl,L _ _ hn,I,G,Za,hw,he,J,N,D,C,Y.same L,fun m l H' h1 h2 h3 h4=>k m l H' h1 h2 h3 fun b o e hb=>h4 _ _ (L _ _ e) hb⟩
def JQ(P:Aq)(w:Au)(K:Af)(mg:Ae)(base:Heap)(D pl:Aw):Sp:=fun vs H Q _=>∃(t:Aw) (C:A2),vs=[.ref t]/\H t=some (.tup C)/\(∀w∈C,jJ w)/\C.length<=60/\(∀q,NmC C q->WU q C)/\Yz H D Zv Zt/\Yz H pl Y5 Y6/\∀f q nx ot H',NmC C q->M4 H' f q 0 nx ot->Wf q 0 nx ot true->Tells C q nx ot->Yz H' D Zv Zt->Yz H' pl Y5 Y6->Off2 D pl H H'->Q (.ref f) H'
theorem JR (T:Txt K w mg t) (TB:Tbs mg base t):Y9 P w K mg base CX0 16 t.eu t.fe ["claim"] (JQ P w K mg base t.af t.bg):=by
 have D:=Zea (P:=P) (base:=base) T TB;have q:=Gx (P:=P) (base:=base) T TB;have C:=vF (P:=P) (base:=base) T TB;refine T.bf.F.ok JL (fun vs H Q E h=>?_) (fun cdv A outer s H vs Q E hr h=>?_)
 ·obtain ⟨tw,O,rfl,ht,hw,hl,hC,TW,TL,k⟩:=h
  rfl
 ·obtain ⟨tw,O,rfl,ht,hw,hl,hC,TW,TL,k⟩:=h
  have hu:=ZP hr;refine ⟨_,@QSs.out _ _ _ (Ze (Zn (Zm D (hr.mono (by decide)) rfl T.ie.m T.ie.F.kp T.ie.b .nil ZH (Zk (Zm q (hr.mono (by decide)) rfl T.br.m T.br.F.kp T.br.b .nil ZH (Zk (qv 0) (Zk (Zm C (hr.mono (by decide)) rfl T.dt.m T.dt.F.kp T.dt.b .nil ZH (Zk (qv 0) Zd)) Zd))) Zd)))),?_⟩;clear hu hr
  try dsimp only [L2.cxK,L2.cxK2]
  have N:=T.mf;refine ⟨_,rfl,_,rfl,tw,O,rfl,ht,hw,hl,fun tn H1 G hn0 hn I hp hs=>?_⟩;have S:=hC G ⟨hp,hs⟩;have f:=S.ty.facts;refine ⟨tw,tn,O,G,10,_,rfl,I _ _ ht,S.ln,hn,S.nd,S.n3,S.wc,f.2.1,f.2.2,S.iz,rfl,S.big,TW.same I,fun m l H2 B M TW2 o2=>?_⟩;have MC:Zj2 G O l H2 m:=⟨B,M⟩;have W1:=MC.wf S;obtain ⟨pz,hz⟩:=(TW.same I).ex;have J:=(TL.same I).other N ⟨pz,hz⟩ o2;refine ⟨m,G,0,_,_,true,rfl,M,W1,J,fun g lf cs H3 hB Y St hcl Mg TL3 o3=>?_⟩;have L:Lst G 0 _ _ true lf cs:=⟨W1,hB,Y,St,hcl⟩;have Z:=TW2.other N.symm J.ex o3;refine k g G _ _ H3 ⟨hp,hs⟩ Mg L.W2 (fun W ls hW hl hx=>?_) Z TL3 fun b o e h1 h2=>o3 _ _ (o2 _ _ (I _ _ e) h1) h2;obtain ⟨b,e1,e2⟩:=Zbh (ls:=ls) (W:=W) S MC hW (by lia) hx;rw [Qcx (by lia)] at e1;exact ⟨b,e1,by rw [<-Zbl L.al.bis L.W.nr L.W2.nr L.al.b hx];exact e2⟩
def Zeb(P:Aq)(w:Au)(K:Af)(mg:Ae)(base:Heap)(D pl:Aw):Sp:=fun vs H Q _=>∃(t:Aw) (q:A2) (W:Nat),vs=[.ref t,.int (W:Int)]/\1<=W/\W<=12/\H t=some (.tup q)/\(∀w∈q,jJ w)/\q.length<=60/\(∀C,NmC q C->WU C q)/\Yz H D Zv Zt/\Yz H pl Y5 Y6/\∀C H',NmC q C->Yz H' D Zv Zt->Yz H' pl Y5 Y6->Off2 D pl H H'->Q (.int ((SQ (2 ^ W) C.length fun vs=>if Ww (2 ^ W) (Zb6 C vs) q []=[.bl true] then 1 else 0:Nat):Int)) H'
theorem Zec (T:Txt K w mg t) (TB:Tbs mg base t):Y9 P w K mg base CX0 17 t.ro t.rp ["claim","width"] (Zeb P w K mg base t.af t.bg):=by
 have C:=yz (P:=P) (base:=base) T TB;have q:=JR (P:=P) (base:=base) T TB;refine T.ig.F.ok Zd5 (fun vs H Q E h=>?_) (fun cdv A outer s H vs Q E hr h=>?_)
 ·obtain ⟨tw,I,W,rfl,G,S,Y,hw,hl,J,TW,Z,k⟩:=h
  rfl
 ·obtain ⟨tw,I,W,rfl,G,S,Y,hw,hl,J,TW,Z,k⟩:=h
  have hu:=ZP hr;refine ⟨_,@QSs.out _ _ _ (Ze (Zn (Z4 Zw (Zm C (hr.mono (by decide)) rfl T.dh.m T.dh.F.kp T.dh.b .nil ZH (Zk (Zm q (hr.mono (by decide)) rfl T.bf.m T.bf.F.kp T.bf.b .nil ZH (Zk (qv 0) Zd)) (Zk (qv 1) Zd))) (Zo XZ (qv 1) Zf) (fun _ _=>rfl)))),?_⟩;refine ⟨_,rfl,tw,I,rfl,Y,hw,hl,J,TW,Z,fun f D nx ot H1 hN M Wm hT O N o1=>⟨_,rfl,f,D,nx,ot,W,rfl,M,Wm,S,fun p H2 hp L=>⟨_,rfl,_,_,rfl,rfl,?_⟩⟩⟩;have ec:=gh (W:=W) (J D hN) fun ls h1 h2=>hT W ls G h1 h2;obtain ⟨W,rfl⟩:∃W',W=W' + 1:=⟨W - 1,by lia⟩;refine ⟨p,_,(W:Int),V.int ((SQ (2 ^ (W + 1)) D.length fun vs=>if Ww (2 ^ (W + 1)) (Zb6 D vs) I []=[.bl true] then 1 else 0:Nat):Int),rfl,?_,SqL.of hp,Xj ?_,k D H2 hN (O.same L) (N.same L) fun b o e h1 h2=>L _ _ (o1 _ _ e h1 h2)⟩
  ·grind
  ·grind
def sp_law(K:Af)(pl C:Aw):Sp:=fun vs H Q _=>∃(a:Aw) (q:Ak),vs=[.ref a]/\SqL K H a (q.map V.int)/\q.length<=63/\Yz H pl Y5 Y6/\Yz H C Zv Zt/\∀H',Q (.bl true) H'
theorem ok_law (T:Txt K w mg t) (TB:Tbs mg base t):Y9 P w K mg base CX0 18 t.sf t.sh ["script"] (sp_law K t.bg t.af):=by
 have I:=yq (P:=P) (base:=base) T TB;have G_count:=Zec (P:=P) (base:=base) T TB;have C:=xt (P:=P) (base:=base) T TB;have O:=vD (P:=P) (base:=base) T TB;have L:=yu (P:=P) (base:=base) T TB;have J:=y6 (P:=P) (base:=base) T TB;have M:=y3 (P:=P) (base:=base) T TB;have G:=XY (P:=P) (base:=base) T TB;refine T.tu.F.ok W7 (fun vs H Q E h=>?_) (fun cdv A outer s H vs Q E hr h=>?_)
 ·obtain ⟨a,ns,rfl,hS,h63,TL,TW,k⟩:=h
  rfl
 ·obtain ⟨a,ns,rfl,hS,h63,TL,TW,k⟩:=h
  have hu:=ZP hr;refine ⟨_,@QSs.out _ _ _ (Zb (Zp (i:=1) W7.nd rfl (Or.inl rfl) (Zm G (hr.mono (by decide)) rfl T.ah.m T.ah.F.kp T.ah.b .nil ZH (Zk (qv 0) (Zk Zf Zd))))
    (Zb (Zp (i:=2) W7.nd rfl (Or.inl rfl) (Zm M (hr.mono (by decide)) rfl T.di.m T.di.F.kp T.di.b .nil ZH (Zk (qv 0) (Zk Zf (Zk (Zo Ya (qv 1) Zf) Zd)))))
    (Zb (Zp (i:=3) W7.nd rfl (Or.inl rfl) (Zm J (hr.mono (by decide)) rfl T.dj.m T.dj.F.kp T.dj.b .nil ZH (Zk (qv 0) (Zk Zf (Zk (qv 2) (Zk Zf (Zk (ZQ (Zk Zf (Zk Zf Zd))) (Zk (Z4 Zw (ZQ (Zk Zf (Zk Zf (Zk Zf Zd)))) (Zo Ya (Zo Yp (qv 1) Zf) Zf) (fun _ _=>rfl)) (Zk X8 Zd)))))))))
    (Zb (Zp (i:=2) W7.nd rfl (Or.inl rfl) (Zm L (hr.mono (by decide)) rfl T.df.m T.df.F.kp T.df.b .nil ZH (Zk (qv 3) Zd)))
    (Zb (YW Qbv rfl (wJ rfl T.bh (Zk Zf (Zk (Zo Y1 Zf (Z4 Zw (ZQ (Zk Zf (Zk Zf (Zk Zf (Zk Zf Zd))))) (Zs Z0 (by rfl) T.ak YA (Zk (qv 2) Zd)) (fun _ _=>rfl))) Zd))) (Yd (i:=4) W7.nd rfl (Or.inl rfl))
    (Zb (Zp (i:=5) W7.nd rfl (Or.inl rfl) (Zo op_shl Zf (qv 4)))
    (Zb (Zp (i:=6) W7.nd rfl (Or.inl rfl) Zf)
    (Zb (YW Qbv rfl (Xm (Zm C (hr.mono (by decide)) rfl T.cg.m T.cg.F.kp T.cg.b .nil ZH (Zk (qv 2) (Zk (qv 5) Zd)))) (Yd (i:=7) W7.nd rfl (Or.inl rfl))
    (Ze (Zp (i:=6) W7.nd rfl (Or.inl rfl) (Zo Y1 (qv 6) (Z8 GG (by rfl) T.dz GK (Zk (Zm O (hr.mono (by decide)) rfl T.dq.m T.dq.F.kp T.dq.b .nil ZH (Zk (qv 3) (Zk (qv 5) (Zk (qv 7) Zd)))) Zd))))))
    (Zb (Zp (i:=8) W7.nd rfl (Or.inl rfl) (Zm G_count (hr.mono (by decide)) rfl T.ig.m T.ig.F.kp T.ig.b .nil ZH (Zk (qv 3) (Zk (qv 4) Zd))))
    (Ze (ZF (qT (Zcg (Zel (Xv (Zm I (hr.mono (by decide)) rfl T.dc.m T.dc.F.kp T.dc.b .nil ZH (Zk (qv 8) Zd)))) (vK (Zr Zis (qv 8) (qv 6) (Z3 _)))))
    (Ze (Zn X8)) Zx)))))))
    (Ze (Zn X8))))))),?_⟩
  try dsimp only [L2.cxK,L2.cxK2]
  refine L2.let6 ?_;intro U5 U4 U3 U2 U1;refine ⟨_,rfl,a,ns,0,rfl,hS,h63,by lia,fun r H1 r0 r1 s1=>Zh ?_⟩;have hS1:=zL hS s1;refine ⟨_,rfl,_,rfl,_,_,rfl,rfl,(by show (0:Int) < 4;decide),a,ns,1,(r % 4).toNat,by rw [Int.toNat_of_nonneg (Qcb _ (by decide))];rfl,hS1,h63,by lia,by lia,fun pn nm H2 hpn hnd hl hn s2=>Zh ?_⟩;have Y:=s1.trans s2;have hn3:nm.length<=3:=by lia
  obtain ⟨tp,etp,tp0,tp1⟩:∃tp:Int,atI [V.int 16,V.int 16,V.int 1000] (r / 4 % 3)=some (.int tp)/\1<=tp/\tp<=1000:=by
   rcases (by lia:r / 4 % 3=0\/r / 4 % 3=1\/r / 4 % 3=2) with e | e | e <;> rw [e]
   ·exact ⟨16,rfl,by decide,by decide⟩
   ·exact ⟨16,rfl,by decide,by decide⟩
   ·exact ⟨1000,rfl,by decide,by decide⟩
  refine ⟨_,rfl,_,rfl,by show 2<=sizeLine;decide,fun f hf=>⟨by show 3<=sizeLine;decide,fun l hl2=>⟨_,rfl,_,_,rfl,rfl,.of (by decide) (by decide),_,_,rfl,rfl,(by show (0:Int) < 3;decide),l,_,_,_,rfl,rfl,SqL.of Za,etp,?_⟩⟩⟩;have s3:=Zc (o:=.lst [V.int 3,V.int 2]) hf;have s4:=Zc (o:=.lst [V.int 16,V.int 16,V.int 1000]) hl2;have f4:=s4 _ _ (Za (H:=H2) (a:=f) (o:=.lst [V.int 3,V.int 2]));have s24:=s3.trans s4;generalize upd (upd H2 f (.lst [V.int 3,V.int 2])) l (.lst [V.int 16,V.int 16,V.int 1000])=H4 at *;have nef:∀{b:Aw} {o:HO},H2 b=some o->b≠f:=fun e z=>by rw [z,hf] at e;cases e
  refine ⟨a,pn,f,ns,4,nm,tp,rfl,?_,h63,by lia,s24 _ _ hpn,hn3,fun y hy=>(hn y hy).k,f4,nef hpn,tp0,tp1,fun wa ws H5 hwa hwl hty hrm s5=>Zh ?_⟩
  ·rcases hS with (z | ⟨o,z⟩) | z
   ·exact .inl ⟨.inl (s24 _ _ (Y _ _ z)),nef (Y _ _ z)⟩
   ·exact .inl ⟨.inr ⟨o,s24 _ _ (Y _ _ z)⟩,nef (Y _ _ z)⟩
   ·exact .inr (.inr z)
  have s05:ZC H H5:=fun b o e=>s5 _ _ (nef (Y _ _ e)) (s24 _ _ (Y _ _ e));obtain ⟨hsi,hfl⟩:=ty_si hty hn;refine ⟨_,rfl,wa,ws,rfl,hwa,hsi,by lia,fun pm H6 q hpm s6 hp hs=>Zh ?_⟩;rw [hfl] at hp;have NC:NmC ws q:=⟨hp,hs⟩;have hC:∀q,NmC ws q->WU q ws:=fun q N=>clm_ok hty hn hn3 hwl hrm N;have S:=hC q NC;have TW6:=TW.same (s05.trans s6);have TL6:=TL.same (s05.trans s6);have hwa6:=s6 _ _ hwa;obtain ⟨Z,eNw,Nw12,hbig⟩:∃Z:Nat,atI [V.int 12,V.int 6,V.int 3,V.int 2] ((q.map V.str).length:Int)=some (.int (Z:Int))/\Z<=12/\∀W,W<=Z->(2 ^ W) ^ q.length<=10000:=by
   rw [Qac];have h3:=S.n3;have hw:∀k∈([0,1,2,3]:Aj),∃Z:Nat,atI [V.int 12,V.int 6,V.int 3,V.int 2] (k:Int)=some (.int (Z:Int))/\Z<=12/\(2 ^ Z) ^ k<=10000:=by
    intro k hk;simp only [Qam,Qa7,Qdl] at hk;rcases hk with rfl | rfl | rfl | rfl
    ·exact ⟨12,rfl,by decide,by decide⟩
    ·exact ⟨6,rfl,by decide,by decide⟩
    ·exact ⟨3,rfl,by decide,by decide⟩
    ·exact ⟨2,rfl,by decide,by decide⟩
   obtain ⟨Z,g1,g2,g3⟩:=hw q.length (by simp only [Qam,Qa7,Qdl];lia);exact ⟨Z,g1,g2,fun W hW=>Qaz (Nat.pow_le_pow_left (Qdf (by decide) hW) _) g3⟩
  refine ⟨by show 4<=sizeLine;decide,fun l2 hl3=>⟨_,rfl,pm,_,rfl,.inl (SqL.of (Zc hl3 _ _ hpm)),l2,_,_,_,rfl,rfl,SqL.of Za,eNw,_,_,rfl,rfl,1,_,rfl,⟨by decide,by decide,by lia,by lia⟩,?_⟩⟩;have s7:=Zc (o:=.lst [V.int 12,V.int 6,V.int 3,V.int 2]) hl3;refine wD (fun i σ H'=>∃(u4 u5 u6 u7 u8:Option V),σ=[some (.ref a),some (.int r),some (.ref pm),some (.ref wa),u4,u5,u6,u7,u8]/\H' pm=some (.lst (q.map V.str))/\H' wa=some (.tup ws)/\Yz H' t.af Zv Zt/\Yz H' t.bg Y5 Y6) ⟨none,none,none,none,none,rfl,s7 _ _ hpm,s7 _ _ hwa6,TW6.same s7,TL6.same s7⟩ ?_ ?_
  ·rintro i σ H7 hi ⟨u4,u5,u6,u7,u8,rfl,p7,w7,TW7,TL7⟩ N bk r' hN
   have hi:i < Z:=by lia
   have ew:(1:Int) + (i:Int)=((i + 1:Nat):Int):=by lia
   rw [ew];refine ⟨_,rfl,_,_,rfl,rfl,⟨Qdc _,by lia,by decide⟩,Zh ?_⟩
   try dsimp only
   rw [Int.one_mul,Qbs];refine Zh ?_;have e2:((2 ^ (i + 1):Nat):Int)=2 ^ (i + 1):=by rw [Int.natCast_pow];rfl
   refine ⟨_,rfl,_,rfl,pm,q,2 ^ (i + 1),by rw [e2];rfl,p7,S.nd,S.n3,hbig _ (by lia),Qhf _,fun p H8 D s8=>?_⟩;obtain ⟨ds,d1,d2,d3⟩:=D;have p8:=s8 _ _ p7;have w8:=s8 _ _ w7;have TW8:=TW7.same s8;have TL8:=TL7.same s8;refine ⟨p,rfl,⟨_,SqL.of d1⟩,zb (K:=K) (a:=p) (xs:=ds.map V.ref) (fun j σ H'=>∃(u7:Option V),σ=[some (.ref a),some (.int r),some (.ref pm),some (.ref wa),some (.int ((i + 1:Nat):Int)),some (.int (2 ^ (i + 1))),some (.int (((((chs (2 ^ (i + 1)) q.length).take j).map fun vs=>if Ww (2 ^ (i + 1)) (Zb6 q vs) ws []=[.bl true] then 1 else 0).sum:Nat):Int)),u7,u8]/\ZC H8 H') ⟨u7,rfl,ZC.refl _⟩ (fun j σ H' _ ⟨_,_,s⟩=>SqL.of (s _ _ d1)) ?_ ?_⟩
   ·rintro j x σ H9 hx ⟨u7,rfl,s9⟩
    rw [Qai] at hx;obtain ⟨dv,hdv,rfl⟩:=Qba.mp hx;have hjc:j < (chs (2 ^ (i + 1)) q.length).length:=by rw [<-d2];exact (Qaf.mp hdv).1
    have hvj:=Qad hjc;obtain ⟨hvl,hvb⟩:=Zbr (Qbm hjc);have hkv:=d3 j dv _ hdv hvj;have etk:=take_snoc hvj;generalize (chs (2 ^ (i + 1)) q.length)[j]=vs at *;obtain ⟨o,_,hb⟩:=xX (W:=i + 1) (by lia) S.kp (Zb6 q vs) S.ty;generalize decide (bt o (i + 1 - 1)=1)=b at hb;refine Zh ⟨_,rfl,_,rfl,_,rfl,_,rfl,wa,dv,i + 1,q,ws,kvC q vs,Zb6 q vs,b,rfl,by lia,by lia,s9 _ _ w8,by lia,s9 _ _ hkv,Zia S.nd hvl,fun y hy=>⟨Qdc _,?_⟩,S.kp,S.ty,hb,fun H10 s10=>.inr ⟨b,rfl,_,_,rfl,rfl,Zh ⟨some (.ref dv),?_,s9.trans s10⟩⟩⟩
    ·rw [<-e2]
     have hix:=Qbf hy;refine Int.ofNat_lt.mpr (hvb _ ?_);rw [Qaj,Qad (by lia)];exact Qbm _
    ·have eS:(((((chs (2 ^ (i + 1)) q.length).take (j + 1)).map fun vs=>if Ww (2 ^ (i + 1)) (Zb6 q vs) ws []=[.bl true] then 1 else 0).sum:Nat):Int)=(((((chs (2 ^ (i + 1)) q.length).take j).map fun vs=>if Ww (2 ^ (i + 1)) (Zb6 q vs) ws []=[.bl true] then 1 else 0).sum:Nat):Int) + (if b=true then 1 else 0):=by
      rw [etk,Qav,Qe2,Qgm];congr 1;rw [List.map_singleton,Qes,hb];cases b
      ·rw [Qaw (fun z=>by cases z)]
       rfl
      ·rw [Qa0 rfl]
       rfl
     rw [eS]
     rfl
   ·rintro σ H9 ⟨u7,rfl,s9⟩
    rw [Qac,d2,Qb8,Zbq];have p9:=s9 _ _ p8;have w9:=s9 _ _ w8;have TW9:=TW8.same s9;have TL9:=TL8.same s9;refine ⟨_,rfl,_,rfl,wa,ws,i + 1,rfl,by lia,by lia,w9,hsi,by lia,hC,TW9,TL9,fun ms3 H10 N3 TW10 TL10 o10=>Zh ?_⟩;have e3:ms3=q:=xD _ _ N3.2 hs (N3.1.trans hp.symm);subst e3;obtain ⟨pz1,hz1⟩:=TW9.ex;obtain ⟨pz2,hz2⟩:=TL9.ex;have k10:∀{b:Aw} {u:HO},H9 b=some u->(∀z,u≠.tbl z)->H10 b=some u:=fun e hu=>o10 _ _ e (X4 e hz1 (hu _)) (X4 e hz2 (hu _));refine ⟨_,rfl,_,rfl,_,rfl,ZI ⟨_,rfl,_,rfl,rfl,_,rfl,?_⟩⟩;rw [Qao rfl];exact ZI (hN _ _ ⟨_,_,_,_,_,rfl,k10 p9 (fun _ z=>nomatch z),k10 w9 (fun _ z=>nomatch z),TW10,TL10⟩)
  ·rintro σ H7 ⟨u4,u5,u6,u7,u8,rfl,p7,w7,TW7,TL7⟩
   exact k H7
end
def oF(K:Af)(f:Aw):Obj:=(K.lookup f).getD default
def fx(K:Af)(f:Aw):Ao:=match (oF K f).data with
 | .func g=>g
 | _=>default
abbrev fn0(K:Af)(x:Str)(st:Ay)(f:Aw):Ao:=PySem.W.fnOf x x (Wh st) (Xk st) (Zg st) .none (fx K f).kwdefaults (fx K f).doc (fx K f).pyModule (fx K f).annotations (fx K f).code (fx K f).closureTuple
abbrev FiE(K:Af)(x:Str)(st:Ay)(f:Aw):Prop:=(PySem.W.nsIn K mainGlobals x,K.lookup f,PySem.W.codeIn K (fx K f).code x,PySem.W.keepIn K (.ref f))=(some (some (.ref f)),some ⟨(oF K f).cls,(oF K f).dict,.func (fn0 K x st f),(oF K f).slots⟩,true,true)
theorem Zjs{st:Ay}(e:FiE K x st f):fx K f=fn0 K x st f :=
 congrArg (fun o:Option Obj=>match (o.getD default).data with | .func g=>g | _=>default) (congrArg (fun z=>z.2.1) e)
theorem de{hp:Heap}{mg:Ae}{st:Ay}{ps:Ai}(X:K.In hp)(G:hp.Ns mainGlobals mg)(e:FiE K x st f)
  (h:∀(kV C I:Av) (J:Option Aw) (D ct:Av) (q:Ag),q.length=ps.length->bindArgs (PySem.W.fnOf x x (Wh st) (Xk st) (Zg st) .none kV C I J D ct) ⟨q,[]⟩=pure (ps.zip q):=by first | (show ∀_ _ _ _ _ _ q,List.length q=1->_;exact fun _ _ _ _ _ _=>L2.len1 fun _=>rfl) | (show ∀_ _ _ _ _ _ q,List.length q=2->_;exact fun _ _ _ _ _ _=>L2.len2 fun _ _=>rfl) | (show ∀_ _ _ _ _ _ q,List.length q=3->_;exact fun _ _ _ _ _ _=>L2.len3 fun _ _ _=>rfl) | (show ∀_ _ _ _ _ _ q,List.length q=4->_;exact fun _ _ _ _ _ _=>L2.len4 fun _ _ _ _=>rfl) | (show ∀_ _ _ _ _ _ q,List.length q=5->_;exact fun _ _ _ _ _ _=>L2.len5 fun _ _ _ _ _=>rfl) | (show ∀_ _ _ _ _ _ q,List.length q=7->_;exact fun _ _ _ _ _ _=>L2.len7 fun _ _ _ _ _ _ _=>rfl)):Df K mg x st ps f (fx K f):=by
 have F:=fun_mk (st:=st) (congrArg (fun z=>z.2.1) e) (congrArg (fun z=>z.2.2.1) e) (congrArg (fun z=>z.2.2.2) e);exact Eq.mp (congrArg (Df K mg x st ps f) (Zjs e).symm) ⟨F,PySem.W.mg_of X G (congrArg (·.1) e),F.binds h⟩
def mkE(P:Params):List (Str × Int)->List (Nat × Nat)->List DictEntry
 | x::l,t::r=>⟨PyData.keyHash P x.1,.str x.1 t.1,.int x.2 t.2⟩::mkE P l r
 | _,_=>[]
theorem Zbz(P:Params):∀(l:List (Str × Int)) (r:List (Nat × Nat)),l.length=r.length->KTab P (mkE P l r) l
 | [],[],_=>.nil
 | _::l,_::r,h=>.cons (Zbz P l r (Nat.succ.inj h))
theorem kgo{hp:Heap}{mg:Ae}{l:List (Str × Int)}(X:K.In hp)(G:hp.Ns mainGlobals mg)(r:List (Nat × Nat))(n:Nat)
  (e:(PySem.W.nsIn K mainGlobals x,K.lookup a)=(some (some (.ref a)),some ⟨.type "dict",none,.dict (Array.mk (mkE w.params l r)) n,#[]⟩)) (hl:l.length=r.length) (hn:(l.map (·.1)).Nodup) (hs:(a == sysModules)=false):Kg K w mg x a l :=
 ⟨PySem.W.mg_of X G (congrArg (·.1) e),⟨⟨_,_,congrArg (·.2) e,Zbz _ l r hl⟩,hn,hs⟩⟩
def sV:Nat->List Str->List Av
 | _,[]=>[]
 | t,x::l=>.str x t::sV (t + 1) l
theorem Zb0:∀(l:Ai) (t:Nat),Vals (l.map V.str) (sV t l)
 | [],_=>.nil
 | _::l,t=>.cons ⟨_,rfl⟩ (Zb0 l (t + 1))
theorem kto{hp:Heap}{mg:Ae}{l:Ai}(X:K.In hp)(G:hp.Ns mainGlobals mg)(t:Nat)
  (e:(PySem.W.nsIn K mainGlobals x,K.lookup a)=(some (some (.ref a)),some ⟨.type "tuple",none,.seq (Array.mk (sV t l)) 0,#[]⟩)) (hs:(sV t l).length<=sizeLine):Kt K mg x a l :=
 ⟨PySem.W.mg_of X G (congrArg (·.1) e),fun _=>.inr ⟨_,_,_,congrArg (·.2) e,rfl,rfl,hs,Zb0 l t⟩⟩
def KK(w:Au):Af:=L2.noT (Hw.K w.params)
set_option maxHeartbeats 0 in
theorem all_mk {l:W.OpenLaw} {w:Au} {h:Heap} {mg:Ae} {fa:Aw} (X:(KK w).In h) (G:h.Ns mainGlobals mg) (hfa:mg "law" = some (.ref fa)) :
  ∃fd:Ao,(∀(s:As) (v:Av),BindsTo s fd ⟨[v],[]⟩ [("script",v)])/\∀base:Heap,(KK w).In base->base.Ns mainGlobals mg->(∀q∈([(44,42),(181,179)]:List (Aw × Aw)),W.CodeHd base q.1 q.2)->zq mg base->Y9 l.prog w (KK w) mg base CX0 18 fa fd ["script"] (sp_law (KK w) 42 179):=by
 cases hfa.symm.trans (W.mg_of X G (show W.nsIn (KK w) mainGlobals "law" = some (some (.ref 319)) by kernel_rfl));have T:Txt (KK w) w mg ⟨21,fx (KK w) 21,28,fx (KK w) 28,40,fx (KK w) 40,55,fx (KK w) 55,60,fx (KK w) 60,67,fx (KK w) 67,77,fx (KK w) 77,84,fx (KK w) 84,91,fx (KK w) 91,98,fx (KK w) 98,110,fx (KK w) 110,130,fx (KK w) 130,156,fx (KK w) 156,170,fx (KK w) 170,187,fx (KK w) 187,192,fx (KK w) 192,223,fx (KK w) 223,230,fx (KK w) 230,237,fx (KK w) 237,244,fx (KK w) 244,258,fx (KK w) 258,284,fx (KK w) 284,291,fx (KK w) 291,298,fx (KK w) 298,312,fx (KK w) 312,50,fx (KK w) 50,105,fx (KK w) 105,117,fx (KK w) 117,135,fx (KK w) 135,149,fx (KK w) 149,163,fx (KK w) 163,216,fx (KK w) 216,251,fx (KK w) 251,265,fx (KK w) 265,272,fx (KK w) 272,305,fx (KK w) 305,122,fx (KK w) 122,197,fx (KK w) 197,279,fx (KK w) 279,142,fx (KK w) 142,33,fx (KK w) 33,45,fx (KK w) 45,182,fx (KK w) 182,177,fx (KK w) 177,204,fx (KK w) 204,211,fx (KK w) 211,319,fx (KK w) 319,44,42,181,179,68,69,70,325,327,123⟩:=by
  constructor
  ·exact kgo X G [(262,263),(264,265),(266,267),(268,269),(270,271),(272,273),(274,275),(276,277),(278,279),(280,281)] 10 (by kernel_rfl) rfl (by decide +kernel) rfl
  ·exact kgo X G [(293,294),(295,296),(297,298),(299,300),(301,302)] 5 (by kernel_rfl) rfl (by decide +kernel) rfl
  ·exact kgo X G [(309,310),(311,312),(313,314),(315,316),(317,318)] 5 (by kernel_rfl) rfl (by decide +kernel) rfl
  ·exact W.mg_of X G (by kernel_rfl)
  ·exact W.mg_of X G (by kernel_rfl)
  ·exact kto X G 387 (by kernel_rfl) (by show _<=_;decide)
  all_goals first | exact de X G (by kernel_rfl) | exact W.mg_none_of X G (by kernel_rfl) | exact Nat.ne_of_beq_eq_false rfl | kernel_rfl
 exact ⟨_,fun s v=>Zjs (show FiE (KK w) "law" Zg2 319 by kernel_rfl) ▸ .of_eq rfl,fun base hKb _ hC hB=>ok_law T ⟨hC (44,42) (by simp),hC (181,179) (by simp),hB⟩⟩
end Lw
end
open PySem PySem.W PyProof.Rows
set_option maxRecDepth 100000 in
set_option maxHeartbeats 0 in
theorem PySem.Challenge.cw_everywidth_k31_counts_looked_through_holds : PySem.Challenge.rw_everywidth_k31_counts_looked_through.Holds := by
 w_on;refine holds_law Hw.ws fun said=>?_
 refine holds_openX Hw.left (fun s e=>xl_of s (Qga.mp e).1) XL.keeps
  (by rfl) (by rfl) (by rfl)
  (fun s e=>recFacts_of (Qga.mp e).2) (by rfl)
  (by first | assumption | decide +kernel) (by decide +kernel) ⟨rfl,rfl,rfl,rfl,rfl,by decide +kernel⟩ ?hw ?_
 (case hw=>w_witness2)
 refine L2.walk_X (fun _=>by kernel_rfl) ?_
 exact L2.walk_ofT (K:=fun P=>L2.noT (Hw.K P)) (n:=63) (k:=18) (x := "script") (CX:=fun _=>L2.CX0) (sp:=fun w=>Lw.sp_law (Lw.KK w) 42 179) rfl (by decide) rfl ⟨rfl,by decide,by decide⟩ (fun w h Y=>L2.in_noT (by kernel_rfl) Y) (fun w mean mg mb h T X=>List.forall_mem_cons.mpr ⟨PySem.W.tab_of (x:=PySem.Str.ofString "least") (c:=44) (P:=42) T X rfl (by kernel_rfl),List.forall_mem_cons.mpr ⟨PySem.W.tab_of (x:=PySem.Str.ofString "machine_telling") (c:=181) (P:=179) T X rfl (by kernel_rfl),List.forall_mem_nil _⟩⟩) (fun w=>L2.noT_ok _) (fun w mg fa h X G e=>Lw.all_mk X G e) (fun _ _ a ns hl hT hS=>⟨a,ns,rfl,hS,hl,.inl (hT (44,42) (by simp)),.inl (hT (181,179) (by simp)),fun _=>rfl⟩) fun _ _ _ _ _ z=>z
#print axioms PySem.Challenge.cw_everywidth_k31_counts_looked_through_holds
