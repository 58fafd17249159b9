import PyProof.Rows.All
import Wide.All
import OpenK.AllK
import Wide.FinOn
import Lean
import PyProof.EqAt
import PyProof.EqKinds
import PyProof.TupleCall
import PyProof.NeKinds
import KE.KRevSl
import KE.KRevIter
import PyProof.FactsAll.tuple
import PyProof.Rows.SortWalk
import PyProof.Rows.StrJoin2
import PyProof.StrBlockH
import PyProof.StrWalks
import PyProof.StrCalls2
import PyProof.ConsumeWalk
import KE.KIntText
import PyProof.Rows.SortStr
import PyProof.EnumStmt
import PyProof.WalksMore
import PyProof.ZipIter
import KE.KEqDict
import PyProof.DictWalks
import KE.KLam
import PyProof.Rows.SortShellK
import PyProof.AttrMissHeap
import KE.KDictOf
import PyProof.CollectWalk
import PyProof.ListNew
import KE.KSortTup
import PyProof.Rows.TupDisplay
import OpenK.KOwn
import PyProof.Rows.TopTwo
import PyProof.Rows.CatchOwn
import PyProof.RulesDel
import PyProof.RulesAs
import KE.KIsNot
import PyProof.ExcAttrAll.ValueError
import KE.KIsAll
import PyProof.StrReplace2
import PyProof.ReprStr
import PyProof.FString
import PyProof.StrLawsChain
import PyProof.SetRoads
import PyProof.StrLawsRepr
import PyProof.ReprHeads
import PyProof.ReprLen
import PyProof.FactsAll.bool
import KE.KNest
import PyProof.Rows.RuleM_int
import PyProof.Rows.CallKwBuiltin
import KE.KMinKey
import PyProof.ListRange
import PyProof.TupleOfSeq
import PyProof.TupleOfStr
import KE.KDictLaws
import KE.KPairComp
import KE.KDictSum
import PyProof.StrBlock2
import PyProof.Rows.StrJoinRep
import PyProof.DictRoadsH
import PySem.Challenge.RW_everywidth_k32_whole_counts
theorem U{α:Sort u}{a:α}:a=a:=rfl
noncomputable section
set_option Elab.async false
set_option linter.all false
set_option maxRecDepth 100000
set_option maxHeartbeats 0
namespace Hw
open PySem PySem.W
theorem ws:PySem.Challenge.rw_everywidth_k32_whole_counts.wellSaid=true:=by kernel_rfl
def p:Program:=PySem.Challenge.rw_everywidth_k32_whole_counts.row.toRowW.prog
def B:List Stmt:=behindTheImports p
def nth:List Stmt→Nat→Option Stmt
  |[],_=>none
  |x::_,0=>some x
  |_::r,n+1=>nth r n
def fx:Option Stmt→Arguments×List Stmt×Scope×Str×Nat
  |some (.FunctionDef n a b _ _ _ s _ _ x)=>(a,b,s,n,x.line)
  |_=>default
def fd(i:Nat):=fx (nth B i)
def vs(s:String)(t:Nat):Value:=.str (Str.ofString s) t
def en(P:Params)(s:String)(t:Nat)(v:Value):DictEntry:=⟨PyData.keyHash P (Str.ofString s),.str (Str.ofString s) t,v⟩
def tu (l:List Value):Obj:=⟨.type "tuple",none,.seq (Array.mk l) 0,#[]⟩
def t0:Obj:=tu []
def fi(l:List Value):Obj:=⟨.none,none,.fields (Array.mk l),#[]⟩
def f0:Obj:=fi []
def vk:Nat→List String→List Value
  |_,[]=>[]
  |t,s::r=>vs s t::vk (t+1) r
def vt(t:Nat)(l:List String):Obj:=tu (vk t l)
abbrev Fd:=Arguments×List Stmt×Scope×Str×Nat
def rO(x:Fd):Obj:=⟨.none,none,.func ⟨x.2.2.2.1,x.2.2.2.1,x.1,.stmts x.2.1,x.2.2.1,0,[],.none,.none,.none,.none,none,.none,.none,0⟩,#[]⟩
def fO (x:Fd) (m:Value) (c:Nat):Obj:=⟨.type "function",none,.func ⟨x.2.2.2.1,x.2.2.2.1,x.1,.stmts x.2.1,x.2.2.1,3,[],.none,.none,.none,m,none,.ref c,.none,0⟩,#[]⟩
def fl:String:= "/claim/cut.py"
def r(i:Nat):Obj:=rO (fd i)
def f(i:Nat)(m:Value)(c:Nat):Obj:=fO (fd i) m c
def ci(n:Nat):Value:=.int n 0
def c (i t x v:Nat):Obj:=let y:=(fd i).2.2.2;⟨.type "code",none,.fields #[.str y.1 t,.str y.1 (t+1),vs fl (t+2),ci y.2,ci (fd i).1.args.length,ci 0,ci 0,ci 3,.ref x,.bool true,ci 181,.ref (x+1),.none,if v == 0 then .none else .ref (x+2),if v == 0 then .none else .ref (x+3),.ref (if v == 0 then x+2 else x+4),ci (t+3+v),ci y.2,vs fl (t+4+v)],#[]⟩
def e(P:Params)(i t a:Nat):DictEntry:=let y:=(fd i).2.2.2.1;⟨PyData.keyHash P y,.str y t,.ref a⟩
def bt(P:Params):List DictEntry:=match (boot_o_3 P).data with
  |.dict e _=>e.toList.tail
  |_=>[]
def m0:Value:=vs "everywidth.bits" 187
def m1:Value:=vs "everywidth.machines.found" 207
def m2:Value:=vs "everywidth.machines.least" 224
def m3:Value:=vs "everywidth.vocabulary" 260
def m4:Value:=vs "everywidth.rows" 377
def m5:Value:=vs "everywidth.machines.columns" 385
def m6:Value:=vs "everywidth.machines.made" 462
def m7:Value:=vs "everywidth.sums.texts" 490
def m8:Value:=vs "everywidth.claims.widths" 498
def m9:Value:=vs "everywidth.claims.counts" 507
def m10:Value:=vs "law_everywidth_k32_whole_counts" 535
def mc (n:String)(t l x k:Nat):Obj:=⟨.type "code",none,.fields #[vs n t,vs n (t+1),vs fl (t+2),ci l,ci 0,ci 0,ci 0,ci 0,.ref x,.bool false,ci 181,.ref (x+1),.none,.none,.none,.none,ci k,ci l,vs fl (k+1)],#[]⟩
def fr (c d:Nat)(v:Value):Obj:=⟨.type "frame",none,.plain,#[some (.ref c),some (.ref 3),some (.ref d),none,some v,none,some (.ref 0)]⟩
def bf (a b:Value):Obj:=⟨.type "builtin_function_or_method",none,.fields #[a,b],#[]⟩
def dc (l:List DictEntry)(n:Nat):Obj:=⟨.type "dict",none,.dict ⟨l⟩ n,#[]⟩
def es (P:Params):List DictEntry:=[e P 1 197 21,e P 2 206 28,e P 4 214 33,e P 5 223 40,e P 7 231 45,e P 8 237 50,e P 9 243 55,e P 10 249 60,e P 11 259 67,en P "SUM_PARTS" 292 (.ref 68),en P "SUMS_IN_CLAIM" 308 (.ref 69),en P "CLAIMS_IN_CLAIM" 324 (.ref 70),en P "LETTERS" 326 (vs "abcdefghijklmnopqrstuvwxyz" 325),en P "LONGEST_NAME" 328 (.int 8 327),e P 18 335 77,e P 19 342 84,e P 20 349 91,e P 21 356 98,e P 22 363 105,e P 23 369 110,e P 24 376 117,e P 26 384 122,en P "REMEMBERING" 396 (.ref 123),e P 29 403 130,e P 30 409 135,e P 31 424 142,e P 32 434 149,e P 33 443 156,e P 34 453 163,e P 35 461 170,e P 37 471 177,e P 38 477 182,e P 39 483 187,e P 40 489 192,e P 42 497 197,e P 44 506 204,e P 46 516 211,e P 47 522 216,e P 48 534 223,e P 50 543 230,e P 51 557 237,e P 52 568 244,e P 53 579 251,e P 54 586 258,e P 55 598 265,e P 56 612 272,e P 57 630 279,e P 58 636 284,e P 59 650 291,e P 60 659 298,e P 61 670 305,e P 62 679 312,e P 63 695 319,e P 64 704 326,e P 65 719 333,e P 66 725 338,e P 67 742 345,e P 68 758 352]
def vl:List (Nat×Nat):=[(2,20),(7,27),(13,32),(23,39),(29,44),(38,49),(45,54),(48,59),(50,66),(62,76),(64,83),(66,90),(68,97),(70,104),(72,109),(74,116),(79,121),(83,129),(85,134),(90,141),(106,148),(117,155),(119,162),(133,169),(150,176),(152,181),(164,186),(166,191),(169,196),(172,203),(175,210),(177,215),(185,222),(192,229),(194,236),(206,243),(213,250),(218,257),(230,264),(243,271),(255,278),(268,283),(272,290),(283,297),(297,304),(318,311),(326,318),(348,325),(355,332),(365,337),(375,344),(388,351)]
def d(i x t:Nat)(l:List String)(m:Value):List Obj:=match l with
  |[]=>[t0,f0,r i,c i t x 0,f i m (x+3)]
  |l=>[t0,f0,vt (t+3) l,t0,r i,c i t x l.length,f i m (x+5)]
def nz:Nat→List Obj→PySem.W.Frag
  |_,[]=>[]
  |n,x::l=>(n,x)::nz (n+1) l
def md (P:Params) (m:String) (t e k:Nat):Obj:=⟨.type "dict",none,.dict (Array.mk (en P "__name__" 165 (vs m t)::bt P++(es P).take e)) k,#[]⟩
def tl:List (Nat×Nat)→List Value
  |[]=>[]
  |x::r=>.int x.1 0::.int 0 0::.ref x.2::tl r
def tb(c:Nat):Obj:=fi (tl (vl.take c))
def ob (P:Params):List Obj:=[boot_o_0 P,boot_o_1 P,boot_o_2 P,md P "law_everywidth_k32_whole_counts" 535 58 67,boot_o_4 P,boot_o_5 P,boot_o_6 P,boot_o_7 P,boot_o_8 P,boot_o_9 P,boot_o_10 P,t0,tb 52,mc "<module>" 182 1 11 185,fr 13 3 (vs "__main__" 164)]++(d 1 15 189 ["width","many","bit_number"] m0++(d 2 22 198 ["bits","number","bit"] m0++(d 4 29 209 [] m1++(d 5 34 215 ["state","states","numbers"] m1++(d 7 41 226 [] m2++(d 8 46 232 [] m2++(d 9 51 238 [] m2++(d 10 56 244 [] m2++(d 11 61 250 ["classes","firsts","state","number"] m2++([dc [en P "not" 262 (.int 1 263),en P "neg" 264 (.int 1 265),en P "twice" 266 (.int 1 267),en P "low" 268 (.int 1 269),en P "and" 270 (.int 2 271),en P "or" 272 (.int 2 273),en P "odd" 274 (.int 2 275),en P "add" 276 (.int 2 277),en P "sub" 278 (.int 2 279),en P "pick" 280 (.int 3 281)] 10,dc [en P "same" 293 (.int 2 294),en P "under" 295 (.int 2 296),en P "beneath" 297 (.int 2 298),en P "sign" 299 (.int 1 300),en P "nought" 301 (.int 1 302)] 5,dc [en P "both" 309 (.int 2 310),en P "either" 311 (.int 2 312),en P "so" 313 (.int 2 314),en P "never" 315 (.int 1 316),en P "yes" 317 (.int 0 318)] 5]++(d 18 71 329 ["text"] m3++(d 19 78 336 ["text"] m3++(d 20 85 343 ["word"] m3++(d 21 92 350 ["word"] m3++(d 22 99 357 ["word"] m3++(d 23 106 364 [] m3++(d 24 111 370 ["text"] m3++(d 26 118 379 [] m4++([vt 387 ["neg","twice","low","add","sub","same","under","beneath","nought"]]++(d 29 124 397 ["word"] m5++(d 30 131 404 [] m5++(d 31 136 410 ["words","columns","place","kept","stack","later","word","parts","held"] m5++(d 32 143 425 ["word","parts","held","one"] m5++(d 33 150 435 ["one","other","held"] m5++(d 34 157 444 ["word","parts","held","then"] m5++(d 35 164 454 ["word","parts"] m5++(d 37 171 464 ["claim","names"] m6++(d 38 178 472 [] m6++(d 39 183 478 [] m6++(d 40 188 484 [] m6++(d 42 193 492 [] m7++(d 44 198 500 ["claim"] m8++(d 46 205 509 ["claim","width"] m9++(d 47 212 517 [] m9++(d 48 217 523 ["ways","steps","onward","state","times","led_to"] m9++(d 50 224 537 ["found"] m10++(d 51 231 544 ["script","k","cells","size","cell","turn","step","seed"] m10++(d 52 238 558 ["number","letters","some","name","k"] m10++(d 53 245 569 ["script","start","many","found","k"] m10++(d 54 252 580 ["word"] m10++(d 55 259 587 ["number","room","left","some","word","judged"] m10++(d 56 266 599 ["number","room","left","names","top","some","word","hard"] m10++(d 57 273 613 ["script","start","names","most","left","top","claim","words","parts","room","number","word"] m10++(d 58 280 631 [] m10++(d 59 285 637 ["names","full","found","name","wider","values","word","more"] m10++(d 60 292 651 ["word","was","one"] m10++(d 61 299 660 ["word","was","one","other","less"] m10++(d 62 306 671 ["words","found","word"] m10++(d 63 313 680 ["words","held","bits","pile","kept","word","was","told","one","other"] m10++(d 64 320 696 ["number","name","some"] m10++(d 65 327 705 ["script","start","names","number","word","asked","rule_of","other","whole"] m10++(d 66 334 720 [] m10++(d 67 339 726 ["words","known","many","ways","counts","at","found","total","held","told","behind"] m10++(d 68 346 743 ["script","first","names","most","left","top","words","due","width","found"] m10))))))))))))))))))))))))))))))))))))))))))))))))))))))
def K(P:Params):PySem.W.Frag:=nz 0 (ob P)
def od:Bool→List Obj→List Obj
  |_,[]=>[]
  |true,x::r=>x::od false r
  |false,_::r=>od true r
def tL:Nat→List Obj→BT
  |0,_=>.nil
  |_,[]=>.nil
  |k+1,x::r=>.node x (tL k (od true r)) (tL k (od false r))
def tn(P:Params)(n:Nat):BT:=tL 12 ((ob P).take n)
abbrev SS(T:BT)(n k:Nat)(o:OsState):SharedT:=⟨T,n,{},Array.mk [],{},k,o⟩
def ev:Env:={scope:=p.main.scope,locals:=mainNs,globals:=mainNs,cells:=[],code:=(.ref 13),frame:=some 14}
def c0:Code:=.body B ev
abbrev an:Option Value:=some (.ref 6)
abbrev z0:Pos:=⟨0,0,0,0⟩
abbrev q0:List Frame:=[topFrame z0]
def sg(a b:Nat):List Stmt:=(B.drop a).take b
def pc(a b:Nat)(x:Pos):Thread:=piecesOf (sg a b) ev c0 x q0
def R(w:World)(o:OsState)(n:Nat)(S:Params→BT)(a k:Nat)(t:Thread)(S':Params→BT)(a' k':Nat)(y:Pos):Prop:=segRunT treeTable p w 11 an 1 n (SS (S w.params) a k o) t=some (.next,SS (S' w.params) a' k' o,c0,y)
variable (w:World)(o:OsState)
def S0(P:Params):BT:=((tn P 15).set 3 λ_=>boot_o_3 P).set 12 λ_=>tb 0
def S1 (P:Params):BT:=((tn P 68).set 3 λ_=>md P "everywidth.vocabulary" 260 9 18).set 12 λ_=>tb 9
def S2 (P:Params):BT:=((tn P 78).set 3 λ_=>md P "everywidth.vocabulary" 260 15 24).set 12 λ_=>tb 10
def S3 (P:Params):BT:=((tn P 157).set 3 λ_=>md P "everywidth.machines.columns" 385 28 37).set 12 λ_=>tb 22
def S4 (P:Params):BT:=((tn P 231).set 3 λ_=>md P "law_everywidth_k32_whole_counts" 535 40 49).set 12 λ_=>tb 34
def S5 (P:Params):BT:=((tn P 313).set 3 λ_=>md P "law_everywidth_k32_whole_counts" 535 52 61).set 12 λ_=>tb 46
def S6(P:Params):BT:=tn P 353
def H1(P:Params):Heap:=⟨Array.mk (ob P),{}⟩
theorem pre:topGo treeTable p w 11 an 12 ⟨boot_heap w.params,Array.mk [],boot_drawn,boot_toks,o⟩ (topStub p)=some ((SS (S0 w.params) 15 187 o).abs,⟨denote treeTable c0,c0,z0,q0⟩):=by
  rw[Fast.te15667345088766844465,Fast.te14364793385576792824,Fast.te11892475500146522536];kernel_rfl
theorem blk:segRunT treeTable p w 11 an 1 1 (SS (S0 w.params) 15 187 o) (blockOf B ev c0 z0 q0)=some (.next,SS (S0 w.params) 15 187 o,c0,z0):=by
  rw[Fast.te10110043849684766642,Fast.te14364793385576792824];kernel_rfl
theorem g1:R w o 292 S0 15 187 (pc 0 13 z0) S1 68 262 ⟨56,0,56,8⟩:=by
  unfold R;rw[Fast.te10110043849684766642,Fast.te14364793385576792824];kernel_rfl
theorem g2f:R (w.withFollow "special-get-raises" false) o 378 S1 68 262 (pc 13 6 ⟨56,0,56,8⟩) S2 78 336 ⟨62,0,63,28⟩:=by
  unfold R;rw[Fast.te10110043849684766642,Fast.te14364793385576792824];kernel_rfl
theorem g2t:R (w.withFollow "special-get-raises" true) o 378 S1 68 262 (pc 13 6 ⟨56,0,56,8⟩) S2 78 336 ⟨62,0,63,28⟩:=by
  unfold R;rw[Fast.te10110043849684766642,Fast.te14364793385576792824];kernel_rfl
theorem g2 (w:World):∀o:OsState,R w o 378 S1 68 262 (pc 13 6 ⟨56,0,56,8⟩) S2 78 336 ⟨62,0,63,28⟩:=byRow2 "special-get-raises" (P:=λw=>∀o:OsState,R w o 378 S1 68 262 (pc 13 6 ⟨56,0,56,8⟩) S2 78 336 ⟨62,0,63,28⟩) g2f g2t w
theorem g3:R w o 390 S2 78 336 (pc 19 15 ⟨62,0,63,28⟩) S3 157 444 ⟨117,0,118,47⟩:=by
  unfold R;rw[Fast.te10110043849684766642,Fast.te14364793385576792824];kernel_rfl
theorem g4:R w o 390 S3 157 444 (pc 34 17 ⟨117,0,118,47⟩) S4 231 544 ⟨192,0,193,67⟩:=by
  unfold R;rw[Fast.te10110043849684766642,Fast.te14364793385576792824];kernel_rfl
theorem g5:R w o 399 S4 231 544 (pc 51 12 ⟨192,0,193,67⟩) S5 313 680 ⟨318,0,325,23⟩:=by
  unfold R;rw[Fast.te10110043849684766642,Fast.te14364793385576792824];kernel_rfl
theorem g6:R w o 210 S5 313 680 (pc 63 6 ⟨318,0,325,23⟩) S6 353 759 ⟨388,0,404,15⟩:=by
  unfold R;rw[Fast.te10110043849684766642,Fast.te14364793385576792824];kernel_rfl
theorem fn:topRun treeTable p w 11 an 2 (SS (S6 w.params) 353 759 o).abs ⟨doneF .next,c0,⟨388,0,404,15⟩,q0⟩=some ⟨H1 w.params,Array.mk [],{},759,o⟩:=by
  rw[Fast.te14082659384304107361,Fast.te14364793385576792824];kernel_rfl
theorem sp:B=sg 0 13++(sg 13 6++(sg 19 15++(sg 34 17++(sg 51 12++(sg 63 6++[]))))):=by kernel_rfl
theorem bl{w:World}{N:Nat}{s s' r:Shared}{b:List Stmt}{x y:Pos}{n:Nat}(e:B=b)(h:segRun treeTable p w 11 an 1 n s (blockOf B ev c0 x q0)=some (.next,s',c0,y))(k:topRun treeTable p w 11 an N s' (restOf b ev c0 y q0)=some r):topRun treeTable p w 11 an (n+N) s ⟨denote treeTable c0,c0,x,q0⟩=some r:=
  piece_block h (by rw[e];exact k)
theorem rn:topRun treeTable p w 11 an (12+(1+(292+(378+(390+(390+(399+(210+(2))))))))) ⟨boot_heap w.params,Array.mk [],boot_drawn,boot_toks,o⟩ (topStub p)=some ⟨H1 w.params,Array.mk [],{},759,o⟩:=
  go_top (pre w o) (bl sp (segRun_of (blk w o)) (piece_app (segRun_of (g1 w o)) (piece_app (segRun_of (g2 w o)) (piece_app (segRun_of (g3 w o)) (piece_app (segRun_of (g4 w o)) (piece_app (segRun_of (g5 w o)) (piece_app (segRun_of (g6 w o)) (fn w o))))))))
def rg(l:List Stmt):List (Nat×Nat)→List Stmt
  |[]=>[]
  |x::r=>(l.drop x.1).take x.2++rg l r
def vw:Program:={p with main:={p.main with body:=rg p.main.body [(1,2),(4,2),(7,5),(13,12),(26,1),(28,8),(37,4),(42,1),(44,1),(46,3),(50,19)]}}
def lo:List Str:=[Str.ofString "SUM_PARTS",Str.ofString "SUMS_IN_CLAIM",Str.ofString "CLAIMS_IN_CLAIM"]
def xt(s:Shared):Bool:=xlAt vw [] s&&recOk PySem.Challenge.rw_everywidth_k32_whole_counts.row.toRowW.records s
def as:List Addr:=List.range 353
theorem sz:((boot_heap w.params).isNs mainGlobals&&(Array.mk []:Array GenState).size == 0,(boot_heap w.params).objs.size,(boot_heap w.params).nsMap mainGlobals "__annotations__")=(true,11,an):=by
  rw[Fast.te8920871248978507458];kernel_rfl
abbrev sh(w:World)(o:OsState):Shared:=⟨H1 w.params,Array.mk [],{},759,o⟩
theorem l1:(staticsOk (importedModules p.main.body) (boot_heap w.params) (H1 w.params)&&namesBound p (H1 w.params)&&gensDone (sh w o)&&laidKept (boot_heap w.params) (H1 w.params))=true:=by
  rw[Fast.te5923862056798008813];kernel_rfl
theorem l2:openSeen vw lo (importedModules p.main.body) xt true (sh w o)=openGood vw lo:=by
  rw[Fast.te4187177175401517315,Fast.te5923862056798008813];kernel_rfl
theorem l3:X.obsZ as (sh w o)=X.valZ K 353 759 w:=by kernel_rfl
theorem left:LeftO p vw lo xt (X.obsZ as) (X.valZ K 353 759) 4232:=
  LeftO.of_pieces (boot_open (by kernel_rfl) (by kernel_rfl) (λ_=>by kernel_rfl)) sz rn (by kernel_rfl) λw=>funext λo=>looks_pair (l1 w o) (looks_pair (l2 w o) (l3 w o))
end Hw
end
set_option Elab.async false
set_option linter.all false
set_option maxRecDepth 100000
noncomputable section
def Qaa:=@PySem.wpAny_bind
def Qab:=@List.length_map
def Qac:=@List.getElem?_eq_getElem
def Qad:=@PySem.Heap.get?_push_of_some
def Qae:=@PySem.wpAny_pure
def Qaf:=@List.getElem?_eq_some_iff
def Qag:=@List.length_append
def Qah:=@Nat.le_refl
def Qai:=@List.getElem?_map
def Qaj:=@List.mem_cons_self
def Qak:=@List.getD_eq_getElem?_getD
def Qal:=@List.mem_cons_of_mem
def Qam:=@PySem.Heap.get?_push_size
def Qan:=@decide_eq_false
def Qao:=@List.mem_singleton
def Qap:=@List.mem_map
def Qaq:=@decide_eq_true
def Qar:=@PySem.F.plainAttrs_list
def Qas:=@List.mem_cons
def Qat:=@List.mem_of_getElem?
def Qau:=@List.map_append
def Qav:=@PySem.Heap.lt_size
def Qaw:=@if_neg
def Qax:=@List.getElem?_append_right
def Qay:=@List.length_replicate
def Qaz:=@List.length_cons
def Qa0:=@Nat.le_of_lt
def Qa1:=@Nat.le_trans
def Qa2:=@PySem.F.slot_list_append
def Qa3:=@PySem.F.type_list_append
def Qa4:=@Option.map_eq_some_iff
def Qa5:=@if_pos
def Qa6:=@List.getElem?_append_left
def Qa7:=@List.map_map
def Qa8:=@List.mem_append_right
def Qa9:=@List.nodup_cons
def Qba:=@Bool.false_ne_true
def Qbb:=@of_decide_eq_true
def Qbc:=@Nat.ne_of_lt
def Qbd:=@PySem.wpAny_call_entry
def Qbe:=@Nat.zero_le
def Qbf:=@PySem.Heap.get?_update_self
def Qbg:=@List.idxOf_lt_length_of_mem
def Qbh:=@PySem.PassesOwn.never
def Qbi:=@List.getElem_mem
def Qbj:=@Nat.lt_of_lt_of_le
def Qbk:=@List.length_range
def Qbl:=@List.mem_append
def Qbm:=@PySem.Obj.data_mapFields
def Qbn:=@List.size_toArray
def Qbo:=@PySem.wpAny_newObj_type
def Qbp:=@List.length_take
def Qbq:=@List.not_mem_nil
def Qbr:=@PySem.Heap.SameBut.update
def Qbs:=@List.map_congr_left
def Qbt:=@List.append_assoc
def Qbu:=@List.nodup_nil
def Qbv:=@List.append_nil
def Qbw:=@List.map_cons
def Qbx:=@PySem.Heap.get?_update_other
def Qby:=@Bool.and_eq_true
def Qbz:=@PySem.wpAny_field
def Qb0:=@Array.length_toList
def Qb1:=@List.take_length
def Qb2:=@List.all_eq_true
def Qb3:=@PySem.wpAny_setField_rec
def Qb4:=@Int.emod_lt_of_pos
def Qb5:=@List.mem_map_of_mem
def Qb6:=@Int.emod_nonneg
def Qb7:=@List.mem_append_left
def Qb8:=@PySem.Heap.size_push
def Qb9:=@Nat.pow_le_pow_right
def Qca:=@Int.toNat_natCast
def Qcb:=@PySem.wpAny_holding
def Qcc:=@PySem.F.slot_list_pop
def Qcd:=@PySem.F.type_list_pop
def Qce:=@PySem.mem_of_lookup
def Qcf:=@PySem.wpAny_of_eq
def Qcg:=@List.length_nil
def Qch:=@List.mem_range
def Qci:=@PySem.wpAny_seqItems
def Qcj:=@PySem.Obj.isFreed_of_fields
def Qck:=@Nat.lt_irrefl
def Qcl:=@List.filter_cons
def Qcm:=@List.eq_nil_of_length_eq_zero
def Qcn:=@List.reverse_cons
def Qco:=@Array.getElem?_eq_getElem
def Qcp:=@List.dropLast_concat
def Qcq:=@List.take_of_length_le
def Qcr:=@List.mem_iff_getElem?
def Qcs:=@PySem.wpAny_setField
def Qct:=@beq_self_eq_true
def Qcu:=@List.all_cons
def Qcv:=@PyProof.Rows.slot_tuple_getitem
def Qcw:=@Nat.mod_two_eq_zero_or_one
def Qcx:=@PySem.Calls.spliced_cons
def Qcy:=@PySem.W.kia_one
def Qcz:=@PySem.wpAny_isInstance
def Qc0:=@PySem.wpAny_attempt
def Qc1:=@List.length_reverse
def Qc2:=@List.foldl_append
def Qc3:=@List.take_append_drop
def Qc4:=@Int.ediv_one
def Qc5:=@PySem.F.slot_dict_keyiterator_next
def Qc6:=@PyProof.Rows.callWith_type1
def Qc7:=@PySem.wpAny_Call_Name_kw
def Qc8:=@Nat.lt_of_le_of_lt
def Qc9:=@List.lookup_cons
def Qda:=@PySem.Calls.callWith_builtin
def Qdb:=@PySem.wpAny_mono
def Qdc:=@List.drop_eq_getElem_cons
def Qdd:=@PySem.codeAny_builtin
def Qde:=@List.foldl_cons
def Qdf:=@List.range_succ
def Qdg:=@List.sum_singleton
def Qdh:=@PySem.wpAny_typeNameOfWhole_keyiter
def Qdi:=@PySem.lookup_relabel_local
def Qdj:=@PySem.Paired.length
def Qdk:=@PySem.wpAny_truthy_bool
def Qdl:=@PySem.wpAny_rule
def Qdm:=@List.mem_filter
def Qdn:=@List.sum_append
def Qdo:=@Int.ediv_eq_zero_of_lt
def Qdp:=@PySem.F.slot_tuple_iterator_next
def Qdq:=@Nat.lt_succ_self
def Qdr:=@List.any_eq_true
def Qds:=@List.length_drop
def Qdt:=@List.filter_append
def Qdu:=@Int.pow_zero
def Qdv:=@List.map_take
def Qdw:=@Nat.sub_self
def Qdx:=@Ne.symm
def Qdy:=@PySem.wpAny_passesOwn
def Qdz:=@List.of_mem_zip
def Qd0:=@PySem.Calls.spliced_nil
def Qd1:=@Nat.lt_succ_of_lt
def Qd2:=@PySem.wpAny_specialOf
def Qd3:=@PySem.Obj.cls_mapFields
def Qd4:=@PySem.wpAny_setState_of
def Qd5:=@List.nodup_append
def Qd6:=@List.flatMap_cons
def Qd7:=@Nat.ne_of_gt
def Qd8:=@Nat.zero_add
def Qd9:=@List.filterMap_cons
def Qea:=@beq_eq_false_iff_ne
def Qeb:=@PySem.plainId_quiet
def Qec:=@PySem.wpAny_setEntries_of
def Qed:=@Int.ediv_ediv_of_nonneg
def Qee:=@List.map_drop
def Qef:=@Nat.le_add_right
def Qeg:=@decide_eq_decide
def Qeh:=@List.drop_length
def Qei:=@List.length_pos_of_mem
def Qej:=@PySem.F.plain_max_loop
def Qek:=@decide_eq_true_iff
def Qel:=@List.length_singleton
def Qem:=@Nat.le_succ
def Qen:=@PySem.F.slot_enumerate_next
def Qeo:=@PySem.F.slot_dict_get
def Qep:=@PySem.F.called_set
def Qeq:=@Int.emod_add_mul_ediv
def Qer:=@Nat.not_lt_zero
def Qes:=@List.length_filter_le
def Qet:=@List.any_cons
def Qeu:=@PySem.wpAny_pyIter_slot
def Qev:=@PySem.wpAny_dictEntries
def Qew:=@PySem.Calls.evalArgs_plain
def Qex:=@List.getElem?_of_mem
def Qey:=@Nat.mul_le_mul_right
def Qez:=@PySem.isSubtype_stop
def Qe0:=@PySem.wpAny_fieldsOf
def Qe1:=@or_false
def Qe2:=@PySem.wpAny_letGo
def Qe3:=@Int.pow_pos
def Qe4:=@List.getElem?_range
def Qe5:=@Int.toNat_of_nonneg
def Qe6:=@PySem.codeAny_mono
def Qe7:=@PySem.F.args_tuple_add_2
def Qe8:=@List.length_erase_of_mem
def Qe9:=@List.eq_of_mem_replicate
def Qfa:=@Nat.pow_succ
def Qfb:=@Nat.add_comm
def Qfc:=@Bool.eq_iff_iff
def Qfd:=@PySem.F.entry_tuple_add
def Qfe:=@PySem.tupleKind_room_in1
def Qff:=@PySem.F.plainAttrs_dict
def Qfg:=@Bool.false_eq_true
def Qfh:=@PySem.wpAny_updateSeq
def Qfi:=@of_decide_eq_false
def Qfj:=@PySem.F.slot_zip_next
def Qfk:=@List.length_zip
def Qfl:=@List.map_singleton
def Qfm:=@Int.natCast_nonneg
def Qfn:=@PySem.F.slot_tuple_add
def Qfo:=@PySem.wpAny_Call_method_late
def Qfp:=@PySem.F.entry_max_loop
def Qfq:=@PySem.wpAny_pyIter_list
def Qfr:=@Int.emod_eq_of_lt
def Qfs:=@Bool.and_false
def Qft:=@PySem.wpAny_tryCatch
def Qfu:=@PySem.F.type_dict_get
def Qfv:=@Nat.min_self
def Qfw:=@PySem.wpAny_notOrdered_dict
def Qfx:=@PySem.F.args_dict_keyiterator_next_1
def Qfy:=@Int.ne_of_gt
def Qfz:=@Int.add_mul_ediv_left
def Qf0:=@PySem.F.entry_dict_keyiterator_next
def Qf1:=@PySem.Around.frames_deeper
def Qf2:=@PySem.Heap.get?_push_cases
def Qf3:=@PySem.Around.under_plainId
def Qf4:=@PySem.wpAny_updateSeq_pair
def Qf5:=@Bool.and_eq_true_iff
def Qf6:=@List.mem_erase_of_ne
def Qf7:=@List.replicate_succ'
def Qf8:=@List.reverse_reverse
def Qf9:=@PySem.wpAny_handled
def Qga:=@PySem.F.args_tuple_iterator_next_1
def Qgb:=@Nat.add_assoc
def Qgc:=@List.map_id''
def Qgd:=@PySem.Value.isStrOf_shape
def Qge:=@PySem.wpAny_execs_nil
def Qgf:=@PySem.wpAny_mkInt
def Qgg:=@Option.map_some
def Qgh:=@PySem.F.entry_tuple_iterator_next
def Qgi:=@Nat.min_eq_left
def Qgj:=@List.replicate_zero
def Qgk:=@Int.natCast_add
def Qgl:=@List.mem_filterMap
def Qgm:=@PySem.W.callWith_K
def Qgn:=@PySem.call_meetsIn
def Qgo:=@PySem.wpAny_forIn_array'
def Qgp:=@Int.pow_succ
def Qgq:=@Int.zero_add
def Qgr:=@Nat.zero_mul
def Qgs:=@Nat.succ_mul
def Qgt:=@Nat.sub_zero
def Qgu:=@PySem.wpAny_newTuple
def Qgv:=@List.drop_zero
def Qgw:=@Option.isSome_map
def Qgx:=@Array.toList_push
def Qgy:=@PySem.fits_of_scanBound
def Qgz:=@List.take_add_one
def Qg0:=@bne_self_eq_false
def Qg1:=@PySem.wpAny_setEpoch_of
def Qg2:=@Nat.not_lt
def Qg3:=@PySem.wpAny_throw
def Qg4:=@PySem.wpAny_onRaise
def Qg5:=@Nat.mul_one
def Qg6:=@PySem.wpAny_pyHash_int
def Qg7:=@PySem.noFill_tuple_add
def Qg8:=@Nat.le_of_not_lt
def Qg9:=@List.getElem_zip
def Qha:=@PySem.wpAny_askSetting
def Qhb:=@List.countP_cons
def Qhc:=@List.mem_flatMap
def Qhd:=@PySem.SeqAt.EqAt.same
def Qhe:=@List.forIn_cons
def Qhf:=@Nat.le_of_eq
def Qhg:=@PySem.wpAny_dictEpoch
def Qhh:=@PySem.size_of_entries
def Qhi:=@List.find?_cons
def Qhj:=@List.idxOf_cons
def Qhk:=@Int.mul_comm
def Qhl:=@Int.emod_one
def Qhm:=@List.nil_append
def Qhn:=@Nat.add_zero
def Qho:=@Nat.mul_comm
def Qhp:=@PySem.call_meets
def Qhq:=@PySem.seqIndex_of
def Qhr:=@PySem.sizeLine_eq
def Qhs:=@List.map_id
def Qht:=@Prod.ext
variable {i n:Nat}
variable {a f Z:PySem.Addr}
variable {N:List PySem.Str}
variable {x:PySem.Str}
variable {e o:PySem.Expr}
variable {p E:PySem.Pos}
variable {K:PySem.W.Frag}
variable {u:PySem.Value}
variable {v:List Nat}
variable {Q:PySem.Value->PySem.Shared->Prop}
variable {j:Bool}
variable {s:PySem.Shared}
variable {h:PySem.Heap}
variable {z:Int}
variable {P:PySem.Program}
variable {w:PySem.World}
variable {R:List (List Nat)}
variable {g:Type}
variable {m:List (PySem.Addr×PySem.Obj)}
variable {A:List PySem.Expr}
variable {C:List Int}
variable {D:List PySem.Addr}
variable {L:PySem.Obj}
variable {O:Array PySem.Value}
variable {Ua:List PySem.Value}
section
open PySem
abbrev Aa:=Option Value->Shared->Prop
abbrev Ab:=Value->Shared->Prop
abbrev Ac:=List (Addr×Obj)
abbrev Ad:=List (List Nat)
abbrev Ae:=Str->Option Value
abbrev Af:=PySem.W.Frag
abbrev Ag:=List Value
abbrev Ah:=Array Value
abbrev Ai:=List Str
abbrev Aj:=List Nat
abbrev Ak:=List Int
abbrev Am:=List Bool
abbrev An:=List Expr
abbrev Ao:=FuncData
abbrev Aq:=Program
abbrev Ar:=Around
abbrev As:=Shared
abbrev Au:=World
abbrev Av:=Value
abbrev Aw:=Addr
abbrev Ax:=Expr
abbrev Ay:=Stmt
abbrev A9{q:Type}(p:Program)(w:World):=@wpAny q (model p w)
end
open PySem PySem.Spec PyProof.Rows
namespace L2
def Za6:0<=sizeLine:=by decide
def Zlr:1<=sizeLine:=by decide
def xj:2<=sizeLine:=by decide
def k4:3<=sizeLine:=by decide
def Zi8:4<=sizeLine:=by decide
def Zls:5<=sizeLine:=by decide
def zln6:6<=sizeLine:=by decide
def zln7:7<=sizeLine:=by decide
def zln8:8<=sizeLine:=by decide
def zln10:10<=sizeLine:=by decide
def zln11:11<=sizeLine:=by decide
def zln16:16<=sizeLine:=by decide
abbrev Key:=Sum Int Str
def xk:Key->Value->Bool
 |.inl k,v=>Value.isInt k v
 |.inr x,v=>Value.isStrOf x v
def keyH(w:Au):Key->Int
 |.inl k=>hashInt k
 |.inr x=>hashStr w x
theorem Yq:∀{k:Key} {v:Av},xk k v=true->(∃i t,k=Sum.inl i/\v=Value.int i t)\/(∃x t,k=Sum.inr x/\v=Value.str x t)
 |.inl i,v,h=>by
  obtain⟨t,e⟩:=Value.isInt_shape h;exact .inl ⟨i,t,U,e⟩
 |.inr x,v,h=>by
  obtain⟨t,e⟩:=Qgd h;exact .inr ⟨x,t,U,e⟩
def Za8(i:Int)(t:Tok):xk (.inl i) (.int i t)=true:=by simp[xk,Value.isInt]
def Za9(x:Str)(t:Tok):xk (.inr x) (.str x t)=true:=by simp[xk,Value.isStrOf]
def key_ll(a b:Int):decide ((Sum.inl a:Key)=Sum.inl b)=(a == b):=by grind
def key_rr(a b:Str):decide ((Sum.inr a:Key)=Sum.inr b)=decide (a=b):=by grind
def key_lr(a:Int)(b:Str):decide ((Sum.inl a:Key)=Sum.inr b)=false:=by grind
def key_rl(a:Str)(b:Int):decide ((Sum.inr a:Key)=Sum.inl b)=false:=by grind
def ZQ(prog:Aq)(w:Au):PySem.KeyKind prog w Key where
 is:=xk
 hash:=keyH w
 inj:=λv a b G C=>by
  rcases Yq G with⟨i,t,rfl,rfl⟩|⟨x,t,rfl,rfl⟩
  .rcases Yq C with⟨j,u,rfl,e⟩|⟨y,u,rfl,e⟩
   .injection e with e1 _;rw[e1]
   .exact nomatch e
  .rcases Yq C with⟨j,u,rfl,e⟩|⟨y,u,rfl,e⟩
   .exact nomatch e
   .injection e with e1 _;rw[e1]
 byValue:=λk v h=>by
  rcases Yq h with⟨i,t,rfl,rfl⟩|⟨x,t,rfl,rfl⟩<;>rfl
 pyHash:=λr h=>by
  rcases Yq r with⟨i,t,rfl,rfl⟩|⟨x,t,rfl,rfl⟩
  .exact Qg6 h
  .exact wpAny_pyHash_str h
 eqBool:=λD r h=>by
  rcases Yq D with⟨i,t,rfl,rfl⟩|⟨x,t,rfl,rfl⟩
  .rcases Yq r with⟨j,u,rfl,rfl⟩|⟨y,u,rfl,rfl⟩
   .rw[key_ll]at h;exact wpAny_eqBool_int h
   .rw[key_lr]at h;exact SeqAt.EqAt.int_str i t y u _ _ _ _ h
  .rcases Yq r with⟨j,u,rfl,rfl⟩|⟨y,u,rfl,rfl⟩
   .rw[key_rl]at h;exact SeqAt.EqAt.str_int x t j u _ _ _ _ h
   .rw[key_rr]at h;exact wpAny_eqBool_str h
 «strs»:=λk x t v h=>by
  rcases Yq h with⟨i,u,rfl,e⟩|⟨y,u,rfl,e⟩
  .exact nomatch e
  .injection e with e1 _;subst e1;cases v<;>rfl
def uH(prog:Aq)(w:Au)(k:Key)(v:Av):(ZQ prog w).is k v=xk k v:=rfl
def kG(prog:Aq)(w:Au)(i:Int)(t:Tok):(ZQ prog w).is (.inl i) (.int i t)=true:=Za8 i t
def JM(prog:Aq)(w:Au)(x:Str)(t:Tok):(ZQ prog w).is (.inr x) (.str x t)=true:=Za9 x t
inductive V where
 |non|bl (b:Bool)|int (i:Int)|str (x:Str)|byt (b:Array UInt8)|flt (b:UInt64)|ref (a:Aw)|ty (n:String)
 deriving DecidableEq
def RelV:V->Value->Prop
 |.non,u=>u=Value.none
 |.bl b,u=>u=Value.bool b
 |.int i,u=>∃t,u=Value.int i t
 |.str x,u=>∃t,u=Value.str x t
 |.byt b,u=>∃t,u=Value.bytes b t
 |.flt b,u=>∃t,u=Value.float b t
 |.ref a,u=>u=Value.ref a
 |.ty n,u=>u=Value.type n
abbrev Vals:List V->List Av->Prop:=Paired RelV
def Vals.length{xs:List V}{C:Ag}(r:Vals xs C):xs.length=C.length:=Qdj r
theorem Vals.get:∀{xs:List V} {C:Ag} {i:Nat} {x:V},Vals xs C->xs[i]?=some x->∃u,C[i]?=some u/\RelV x u
 |_,_,_,_,.nil,e=>by simp at e
 |_,_,0,_,.cons r _,e=>by grind
 |_,_,i+1,x,.cons _ t,e=>by
  obtain⟨u,h1,h2⟩:=Vals.get t (by simpa using e);exact⟨u,by grind,h2⟩
theorem Vals.set{x:V}{u:Av}(r:RelV x u):∀{xs:List V} {C:Ag} (i:Nat),Vals xs C->Vals (xs.set i x) (C.set i u)
 |_,_,_,.nil=>.nil
 |_,_,0,.cons _ t=>.cons r t
 |_,_,i+1,.cons q t=>.cons q (Vals.set r i t)
theorem Vals.append:∀{xs ys:List V} {D C:Ag},Vals xs D->Vals ys C->Vals (xs++ys) (D++C)
 |_,_,_,_,.nil,s=>s
 |_,_,_,_,.cons r t,s=>.cons r (Vals.append t s)
def jL:Option V->Option Av->Prop
 |some v,some u=>RelV v u
 |none,none=>True
 |_,_=>False
def KV:List (g×V)->List (g×Av)->Prop:=Paired λ(p:g×V) (q:g×Av)=>p.1=q.1/\RelV p.2 q.2
def kV:Key->V
 |.inl i=>.int i
 |.inr x=>.str x
inductive HO where
 /-- a list -/
 |lst (xs:List V)
 /-- a tuple (never changes) -/
 |tup (xs:List V)
 /-- a dict whose keys are ints and texts; one whose keys are tuples of ints and texts (the empty one is both) -/
 |dK (kvs:List (Key×V))|dT (kvs:List (List Key×V))
 /-- a set of ints: its members, its size -/
 |set (S:Int->Bool) (n:Nat)
 /-- an instance of the class at C, its dict at dx, its attributes -/
 |ins (C dx:Aw) (fs:List (Str×V))
 /-- the dict of the instance at x -/
 |own (x:Aw)
 /-- the dict of an exception -/
 |xd (fs:List (Str×V))
 /-- a bound method, f of x -/
 |met (f x:Aw)
 /-- a range object lo, lo + 1, .. below hi -/
 |rng (lo hi:Int)
 /-- a thing that is known to the object (the script; a dict while a loop walks it): read, never written while it is so -/
 |frz (o:Obj) (u:HO)
 /-- a code object's table -/
 |tbl (ps:Ah)
 /-- any other thing, by what is true of its one object (a def of one's own: SetO a S n := HO.ext λh => ..) -/
 |ext (φ:Heap->Prop)
abbrev Hp:=Aw->Option HO
def upd(H:Hp)(a:Aw)(o:HO):Hp:=λb=>if b=a then some o else H b
def Za{H:Hp}{o:HO}:upd H a o a=some o:=by unfold upd;rw[Qa5 U]
def Zj{H:Hp}{b:Aw}{o:HO}(h:b≠a):upd H a o b=H b:=by unfold upd;rw[Qaw h]
def xl{H:Hp}{o u:HO}:upd (upd H a o) a u=upd H a u:=by
 funext b;unfold upd;split<;>rfl
def ZY{H:Hp}{b:Aw}{o u:HO}(h:H a=some o)(h':H b=some u)(d:o≠u):a≠b:=by grind
def Zm{H:Hp}{b:Aw}{o:HO}(h:H a=some o)(h':H b=none):a≠b:=by grind
def gj (h:Heap) (a:Aw) (xs:Ah):Prop:=∃o,h.get? a=some o/\o.cls=.type "tuple" /\ (∃n,o.data=.seq xs n)/\o.dict=none
def gj.tup{h:Heap}{a:Aw}{xs:Ah}(p:gj h a xs):IsTup h a xs:=let⟨o,e,c,d,_⟩:=p;⟨o,e,c,d⟩
def gj.new (h:Heap) (xs:Ah):gj (h.push {cls:=.type "tuple",data:=.seq xs}) h.objs.size xs:=⟨_,Qam _ U,U,⟨_,U⟩,U⟩
def gj.lt{h:Heap}{a:Aw}{xs:Ah}(p:gj h a xs):a<h.objs.size:=p.tup.lt
section
variable (P:Aq)(w:Au)
def YY(H:Hp)(h:Heap)(a:Aw):HO->Prop
 |.lst xs=>xs.length<=sizeLine/\∃(r:Ag)(n:Nat),Vals xs r/\h.get? a=some {cls:=.type "list",data:=.seq r.toArray n}
 |.tup xs=>xs.length<=sizeLine/\∃r:Ag,Vals xs r/\gj h a r.toArray
 |.dK kvs=>kvs.length<=sizeLine/\(a == sysModules)=false/\∃vs,KV kvs vs/\h.DictOf (ZQ P w) a vs
 |.dT kvs=>kvs.length<=sizeLine/\(a == sysModules)=false/\∃xs:List (List Key×Aw×Av),
   Paired (λ(p:List Key×V) (q:List Key×Aw×Av)=>p.1=q.1/\H q.2.1=some (.tup (p.1.map kV))/\RelV p.2 q.2.2) kvs xs /\
   ∃o es ep,h.get? a=some o/\o.ExactDict/\o.data=.dict es ep/\es.toList=xs.map (entryOfKey (tupleKind (ZQ P w)))/\(xs.map (·.1)).Nodup
 |.set S n=>h.SetOf (intKind P w) a S n
 |.ins C dx fs=>H dx=some (.own a)/\fs.length<=1000/\dx≠a/\h.get? a=some (PySem.W.instObj C dx) /\
   ∃mA,h.Ns1 dx mA/\(∀f,jL (fs.lookup f) (mA f))/\PySem.Within mA (fs.map (·.1))
 |.own _=>∃o,h.get? a=some o
 |.xd fs=>∃mA,h.Ns1 a mA/\∀f,jL (fs.lookup f) (mA f)
 |.rng lo hi=>∃t u v,h.get? a=some {cls:=.type "range",data:=.fields #[.int lo t,.int hi u,.int 1 v]}
 |.frz o u=>h.get? a=some o/\YY H h a u
 |.tbl ps=>h.get? a=some {cls:=.none,data:=.fields ps}
 |.met f x=>h.get? a=some (PySem.W.methodObj (.ref f) (.ref x))
 |.ext φ=>φ h/\(∃o,h.get? a=some o)/\∀h1 h2:Heap,φ h1->(∀o,h1.get? a=some o->h2.get? a=some o)->φ h2
def HOk(H:Hp)(h:Heap):Prop:=∀a o,H a=some o->YY P w H h a o
end
section
variable {P:Aq}{w:Au}{H H':Hp}{h h':Heap}{a:Aw}{o:HO}
def YY.lt(x:YY P w H h a o):a<h.objs.size:=by
 cases o with
 |lst xs=>obtain⟨_,_,_,_,e⟩:=x;exact Qav e
 |tup xs=>obtain⟨_,_,_,p⟩:=x;exact p.lt
 |dK kvs=>obtain⟨_,_,_,_,o,_,_,e,_⟩:=x;exact Qav e
 |dT kvs=>obtain⟨_,_,_,_,o,_,_,e,_⟩:=x;exact Qav e
 |set S n=>obtain⟨o,_,_,_,e,_⟩:=x;exact Qav e
 |ins C dx fs=>obtain⟨_,_,_,e,_⟩:=x;exact Qav e
 |own y=>obtain⟨_,e⟩:=x;exact Qav e
 |xd fs=>obtain⟨_,⟨_,_,_,e,_⟩,_⟩:=x;exact Qav e
 |rng lo hi=>obtain⟨_,_,_,e⟩:=x;exact Qav e
 |frz ob u=>obtain⟨e,_⟩:=x;exact Qav e
 |tbl ps=>exact Qav (x)
 |met f y=>exact Qav (x)
 |ext φ=>obtain⟨_,⟨_,e⟩,_⟩:=x;exact Qav e
theorem Paired.mapP{α β:Type}{F G:α->β->Prop}:∀{C:List α} {D:List β},Paired F C D->(∀a b,F a b->G a b)->Paired G C D
 |_,_,.nil,_=>.nil
 |_,_,.cons r t,f=>.cons (f _ _ r) (Paired.mapP t f)
theorem YY.stay(x:YY P w H h a o)(k:∀b u,(b=a\/H b=some (.own a))->h.get? b=some u->h'.get? b=some u)
  (L:∀b,H b=some (.own a)->H' b=some (.own a)) (I:∀b xs,H b=some (.tup xs)->H' b=some (.tup xs)):YY P w H' h' a o:=by
 induction o with
 |lst xs=>obtain⟨z,D,n,r,e⟩:=x;exact⟨z,D,n,r,k _ _ (.inl U) e⟩
 |tup xs=>obtain⟨z,D,r,ob,e,c⟩:=x;exact⟨z,D,r,ob,k _ _ (.inl U) e,c⟩
 |dK kvs=>obtain⟨z,y,vs,r,ob,es,ep,e,c⟩:=x;exact⟨z,y,vs,r,ob,es,ep,k _ _ (.inl U) e,c⟩
 |dT kvs=>
  obtain⟨z,y,xs,r,ob,es,ep,e,c⟩:=x;exact⟨z,y,xs,Paired.mapP r λp q z=>⟨z.1,I _ _ z.2.1,z.2.2⟩,ob,es,ep,k _ _ (.inl U) e,c⟩
 |set S n=>obtain⟨ob,es,ep,t,e,c⟩:=x;exact⟨ob,es,ep,t,k _ _ (.inl U) e,c⟩
 |ins C dx fs=>
  obtain⟨d,z,ne,e,mA,⟨od,es,ep,e2,c⟩,r⟩:=x;exact⟨L _ d,z,ne,k _ _ (.inl U) e,mA,⟨od,es,ep,k _ _ (.inr d) e2,c⟩,r⟩
 |own y=>obtain⟨ob,e⟩:=x;exact⟨ob,k _ _ (.inl U) e⟩
 |xd fs=>obtain⟨mA,⟨od,es,ep,e,c⟩,r⟩:=x;exact⟨mA,⟨od,es,ep,k _ _ (.inl U) e,c⟩,r⟩
 |rng lo hi=>obtain⟨t,u,v,e⟩:=x;exact⟨t,u,v,k _ _ (.inl U) e⟩
 |frz ob u G=>obtain⟨e,q⟩:=x;exact⟨k _ _ (.inl U) e,G q⟩
 |tbl ps=>
  have e:=x;exact k a _ (.inl U) e
 |met f y=>
  have e:=x;exact k a _ (.inl U) e
 |ext φ=>obtain⟨p,⟨o,e⟩,st⟩:=x;exact⟨st _ _ p λo q=>k _ _ (.inl U) q,⟨o,k _ _ (.inl U) e⟩,st⟩
def HOk.lt(x:HOk P w H h)(e:H a=some o):a<h.objs.size:=(x a o e).lt
def HOk.fresh(x:HOk P w H h)(e:h.objs.size<=a):H a=none:=by
 cases q:H a with
 |none=>rfl
 |some u=>exact absurd (Qbj (x.lt q) e) (Qck _)
theorem HOk.kept(x:HOk P w H h)(k:∀b u,h.get? b=some u->h'.get? b=some u):HOk P w H h':=λa o e=>
 (x a o e).stay (λb u _ q=>k b u q) (λ_ q=>q) λ_ _ q=>q
theorem HOk.laid(x:HOk P w H h)(k:∀b u,h.get? b=some u->h'.get? b=some u)(D:h.objs.size<=a)(new:YY P w (upd H a o) h' a o):HOk P w (upd H a o) h':=λb u e=>by
 have r:=x.fresh D
 by_cases C:b=a
 .subst C;rw[Za]at e;cases e;exact new
 .rw[Zj C]at e;exact(x b u e).stay (λc v _ q=>k c v q) (λc q=>by rw[Zj (Zm q r)];exact q) λc xs q=>by rw[Zj (Zm q r)];exact q
end
def Rd(H:Hp)(a:Aw)(u:HO):Prop:=H a=some u\/∃o,H a=some (.frz o u)
def Rd.ok{H:Hp}{u:HO}(r:Rd H a u)(x:HOk P w H h):YY P w H h a u:=by
 rcases r with r|⟨o,r⟩
 .exact x a u r
 .obtain⟨_,q⟩:=x a _ r;exact q
def Mut:Option HO->Prop
 |some (.lst _)=>True
 |some (.dK _)=>True
 |some (.dT _)=>True
 |some (.set _ _)=>True
 |some (.ins _ _ _)=>True
 |some (.ext _)=>True
 |_=>False
section
variable {P:Aq}{w:Au}{H:Hp}{h h':Heap}{x e:Aw}{o':HO}
def HOk.write(ok:HOk P w H h)(D:Mut (H x))(O:e=x\/H e=some (.own x))(k:∀b u,b≠e->h.get? b=some u->h'.get? b=some u)(I:∃u,h'.get? e=some u)
  (new:YY P w (upd H x o') h' x o'):HOk P w (upd H x o') h':=λb u q=>by
 have C:∀c y,H c=some (.own y)->c≠x:=λc y r z=>by subst z;rw[r]at D;exact D
 by_cases L:b=x
 .subst L;rw[Za]at q;cases q;exact new
 .rw[Zj L]at q
  by_cases G:b=e
  .have q':H b=some (.own x):=by grind
   rw[q]at q';cases q';obtain⟨v,N⟩:=I;exact⟨v,by grind⟩
  .refine(ok b u q).stay (λc v M r=>k c v ?_ r) (λc r=>by rw[Zj (C c b r)];exact r) λc xs r=>by rw[Zj ((λc xs r z=>by subst z;rw[r]at D;exact D) c xs r)];exact r
   rcases M with rfl|M
   .exact G
   .grind
end
structure Un(fs ex:List Aw)(H H':Hp)(h h':Heap):Prop where
 keep:∀b o,h.get? b=some o->H b=none->b∉fs->b∉ex->h'.get? b=some o
 slot:∀b o,h.get? b=some o->H b=none->b∈fs->b∉ex->∃sl,h'.get? b=some {o with slots:=sl}
 free:∀b o,h.get? b=some o->H b=none->b∉ex->H' b=none
 there:∀b o,h.get? b=some o->b∉ex->∃o',h'.get? b=some o'
 tups:∀b xs,H b=some (.tup xs)->H' b=some (.tup xs)
 frzs:∀b o u,H b=some (.frz o u)->H' b=some (.frz o u)
 tbls:∀b ps,H b=some (.tbl ps)->∃more,H' b=some (.tbl (ps++more))
section
variable {fs fs' ex ex':List Aw}{H H1 H2:Hp}{h h1 h2 h':Heap}{a x e:Aw}{o:HO}
def Un.any(u:Un fs ex H H1 h h1){b:Aw}(q:h.get? b=some L)(n:H b=none)(r:b∉ex):∃D,h1.get? b=some {L with slots:=D}:=by
 by_cases C:b∈fs
 .exact u.slot b L q n C r
 .exact⟨_,u.keep b L q n C r⟩
theorem Un.kept(k:∀b u,h.get? b=some u->h'.get? b=some u):Un fs ex H H h h':=
 ⟨λb ob q _ _ _=>k b ob q,λb ob q _ _ _=>⟨_,k b ob q⟩,λ_ _ _ n _=>n,λb ob q _=>⟨ob,k b ob q⟩,λ_ _ q=>q,λ_ _ _ q=>q,λ_ ps q=>⟨#[],by grind⟩⟩
def Un.refl:Un fs ex H H h h:=Un.kept λ_ _ q=>q
theorem Un.laid(k:∀b u,h.get? b=some u->h'.get? b=some u)(C:h.objs.size<=a)(r:H a=none):Un fs ex H (upd H a o) h h' where
 keep:=λb u q _ _ _=>k b u q
 slot:=λb u q _ _ _=>⟨u.slots,k b u q⟩
 free:=λb u q n _=>by rw[Zj (Qbc (Qbj (Qav q) C))];exact n
 there:=λb u q _=>⟨u,k b u q⟩
 tups:=λb xs q=>by rw[Zj (Zm q r)];exact q
 frzs:=λb u xs q=>by rw[Zj (Zm q r)];exact q
 tbls:=λb ps q=>⟨#[],by rw[Zj (Zm q r),q];simp⟩
def Un.write(G:Mut (H x))(M:e=x\/H e=some (.own x))(k:∀b u,b≠e->h.get? b=some u->h'.get? b=some u)(D:∃u,h'.get? e=some u):Un fs ex H (upd H x o) h h':=by
 have L:∀b,H b=none->b≠x:=λb n z=>by subst z;rw[n]at G;exact G
 have I:∀b,H b=none->b≠e:=λb n z=>by
  grind
 have C:∀b u,H b=some u->¬Mut (some u)->b≠x:=λb u q nm z=>by grind
 refine⟨λb u q n _ _=>k b u (I b n) q,λb u q n _ _=>⟨u.slots,k b u (I b n) q⟩,λb u q n _=>by rw[Zj (L b n)];exact n,λb u q _=>?_,
  λb xs q=>by rw[Zj (C b _ q λz=>z)];exact q,λb u xs q=>by rw[Zj (C b _ q λz=>z)];exact q,λb ps q=>⟨#[],by rw[Zj (C b _ q λz=>z),q];simp⟩⟩
 by_cases r:b=e
 .subst r;exact D
 .exact⟨u,k b u r q⟩
end
def trk(h:Heap)(H:Hp):List Aw:=(List.range h.objs.size).filter λa=>(H a).isSome
def Ze7(h:Heap)(H:Hp):Heap:=PySem.W.hideAll h (trk h H)
theorem Zff{H:Hp}{b:Aw}{o:Obj}(e:h.get? b=some o)(n:H b=none):(Ze7 h H).get? b=some o:=
 PySem.W.hideAll_get _ e λr=>by
  have q:=(Qdm.mp r).2;rw[n]at q;simp at q
def Zi9{H:Hp}{b:Aw}{o:Obj}(e:(Ze7 h H).get? b=some o):h.get? b=some o/\H b=none:=by
 have r:=PySem.W.of_hideAll _ e;refine⟨r,?_⟩;cases q:H b with
 |none=>rfl
 |some x=>
  have z:(Ze7 h H).get? b=none:=PySem.W.hideAll_none _ (Qdm.mpr ⟨Qch.mpr (Qav r),by simp[q]⟩);rw[z]at e;cases e
structure Mod(K:Af)(mg:Ae)(base:Heap):Prop where
 kin:K.In base
 glob:base.Ns mainGlobals mg
 blt:∃mb,base.Ns builtinsNs mb/\∀x:Str,x ≠ "__name__" ->mb x=bootBuiltins x
 nolimit:base.NoLimit
set_option genInjectivity false in
set_option genSizeOfSpec false in
structure Cx where
 prog:Aq
 w:Au
 K:Af
 mg:Ae
 base:Heap
 A:Ar
 N:Ai
 s₀:As
 H₀:Hp
 env:Env
 outer:List Env
 stack:List Env
 ex:List Aw
 fn:Str->Bool
 calm:Bool
 pn:Ac
 xe:Ab
abbrev Ba{q:Type}(X:Cx):=@wpAny q (model X.prog X.w) X.A
def frs(l:List Env):List Aw:=l.filterMap (·.frame)
abbrev Cx.fs(X:Cx):List Aw:=frs X.outer
def Vis(r:Scope)(x:Str):Prop:=r.names.lookup x=some .local\/r.names.lookup x=some .cell\/r.names.lookup x=some .free
def Loc(r:Scope)(x:Str):Prop:=r.names.lookup x=some .local\/r.names.lookup x=some .cell
def Look(env:Env)(h:Heap)(m:Ae)(x:Str)(u:Av):Prop:=
 (env.kindOf x=some .local/\m x=some u)\/((env.kindOf x=some .cell\/env.kindOf x=some .free)/\∃c,env.cells.lookup x=some c/\h.IsCell c (some u))
set_option genInjectivity false in
set_option genSizeOfSpec false in
structure Cx.Ok(X:Cx):Prop where
 mod:Mod X.K X.mg X.base
 kind:X.env.scope.kind=.function
 glob:X.env.globals=mainGlobals
 blt:X.env.builtins=builtinsNs
 above:X.s₀.heap.objs.size<=X.env.locals
 inj:∀x y c,X.env.cells.lookup x=some c->X.env.cells.lookup y=some c->x=y
 has:∀x,(X.env.kindOf x=some .cell\/X.env.kindOf x=some .free)->∃c,X.env.cells.lookup x=some c
 cab:∀x c,X.fn x=true->X.env.cells.lookup x=some c->X.s₀.heap.objs.size<=c
 hd:X.calm=true->X.A.handled=none
 frames:X.A.frames=some X.stack
 stk:X.stack=X.outer\/(X.stack=X.env::X.outer/\X.env.frame=some X.env.locals)
 exf:∀b∈X.ex,b≠X.env.locals/\∀x c,X.env.cells.lookup x=some c->c≠b
 bs:∀b o,X.base.get? b=some o->X.s₀.heap.get? b=some o/\X.H₀ b=none
 bsz:X.base.objs.size<=X.s₀.heap.objs.size
 noex:∀b o,X.base.get? b=some o->b∉X.ex
 exfs:∀b∈X.ex,b∉X.fs
 funs:X.s₀.heap.FunFrames X.base X.outer
 frf:∀b∈X.fs,X.H₀ b=none
structure Inv(X:Cx)(pins:Ac)(σ:List (Option V))(H:Hp)(s:As):Prop where
 ok:X.Ok
 os:s.os=X.s₀.os
 bare:AllBare s.gens
 base:Un X.fs X.ex X.H₀ H X.s₀.heap s.heap
 loc:∃m,s.heap.Ns X.env.locals m/\∀(i:Nat)(x:Str)(v:V),X.N[i]?=some x->σ[i]?=some (some v)->Vis X.env.scope x->∃u,RelV v u/\Look X.env s.heap m x u
 cell:∀x c,X.env.cells.lookup x=some c->∃v,s.heap.IsCell c v
 free:H X.env.locals=none
 freeC:∀x c,X.env.cells.lookup x=some c->H c=none
 pin:∀p∈X.pn++pins,s.heap.get? p.1=some p.2/\H p.1=none/\p.1≠X.env.locals/\p.1∉X.fs/\∀v,p.2.data≠.cell v
 hok:HOk X.prog X.w H s.heap
 len:σ.length=X.N.length
section
variable {X:Cx}{pins:Ac}{σ:List (Option V)}{H H':Hp}{s:As}{h':Heap}
theorem Cx.Ok.nofr(ok:X.Ok){b:Aw}{o:Obj}(e:X.base.get? b=some o):b∉X.fs:=λr=>by
 have:=(ok.funs.mem r).1;rw[e]at this;cases this
theorem Inv.bs(I:Inv X pins σ H s):∀b o,X.base.get? b=some o->s.heap.get? b=some o/\H b=none:=λb o e=>
 ⟨I.base.keep b o (I.ok.bs b o e).1 (I.ok.bs b o e).2 (I.ok.nofr e) (I.ok.noex b o e),I.base.free b o (I.ok.bs b o e).1 (I.ok.bs b o e).2 (I.ok.noex b o e)⟩
def Inv.bk(I:Inv X pins σ H s):∀b o,X.base.get? b=some o->s.heap.get? b=some o:=λb o e=>(I.bs b o e).1
def Inv.mod(I:Inv X pins σ H s):Mod X.K X.mg X.base:=I.ok.mod
def Inv.kIn(I:Inv X pins σ H s):X.K.In s.heap:=I.ok.mod.kin.keeps I.bk
def Inv.lt(I:Inv X pins σ H s):X.env.locals<s.heap.objs.size:=let⟨_,hn,_⟩:=I.loc;hn.lt
def Inv.sz(I:Inv X pins σ H s):X.s₀.heap.objs.size<=s.heap.objs.size:=Qa1 I.ok.above (Qa0 I.lt)
theorem Inv.nofs(I:Inv X pins σ H s)(h:s.heap.objs.size<=a):a∉X.fs:=λC=>by
 obtain⟨_,o,r,_⟩:=I.ok.funs.mem C;exact absurd (Qbj (Qav r) (Qa1 I.sz h)) (Qck _)
theorem Inv.cne(I:Inv X pins σ H s):∀x c,X.env.cells.lookup x=some c->c≠X.env.locals:=λx c e z=>by
 obtain⟨v,o,D,G⟩:=I.cell x c e;obtain⟨m,⟨o',es,ep,r,C,_⟩,_⟩:=I.loc;rw[z,r]at D;cases D;rw[C]at G;cases G
theorem Inv.funs(I:Inv X pins σ H s):s.heap.FunFrames X.base X.outer:=by
 have all:∀(l:List Env),(∀b∈frs l,b∈X.fs)->X.s₀.heap.FunFrames X.base l->s.heap.FunFrames X.base l:=by
  intro l
  induction l with
  |nil=>intro _ _;trivial
  |cons env r N=>
   intro M Y;obtain⟨Ua,⟨L,o,G,S,Q,O⟩,Z⟩:=Y;have C:=M L (by unfold frs;rw[Qd9,G];exact Qaj);obtain⟨sl,e⟩:=I.base.slot L o Q (I.ok.frf L C) C λz=>I.ok.exfs L z C;exact⟨Ua,⟨L,_,G,S,e,O⟩,N (λb D=>M b (by unfold frs;rw[Qd9,G];exact Qal _ D)) Z⟩
 exact all X.outer (λ_ D=>D) I.ok.funs
def Inv.stack(I:Inv X pins σ H s):s.heap.FunFrames X.base X.stack:=by
 rcases I.ok.stk with e|⟨e,C⟩
 .rw[e];exact I.funs
 .rw[e];obtain⟨m,r,_⟩:=I.loc;refine .cons (by rw[I.ok.kind];decide) C r (Heap.get?_none_of_le (Qa1 I.ok.bsz I.ok.above)) I.funs
theorem Inv.stkSub(I:Inv X pins σ H s):∀b∈frs X.stack,b∈X.env.locals::X.fs:=λb r=>by
 rcases I.ok.stk with e|⟨e,C⟩
 .grind
 .rw[e]at r;unfold frs at r;rw[Qd9,C]at r;exact r
theorem Inv.stkFree(I:Inv X pins σ H s):∀b∈frs X.stack,H b=none:=λb r=>by
 rcases Qas.mp (I.stkSub b r)with e|r
 .rw[e];exact I.free
 .obtain⟨_,o,C,_⟩:=I.ok.funs.mem r;exact I.base.free b o C (I.ok.frf b r) λz=>I.ok.exfs b z r
def Inv.step{g':Array GenState}{t':Nat}{d':Drawn}{ch:List Aw}(I:Inv X pins σ H s)
  (D:∀b∈ch,(b∈X.ex\/X.s₀.heap.objs.size<=b)/\b≠X.env.locals/\(∀x c,X.env.cells.lookup x=some c->c≠b)/\∀p∈X.pn++pins,p.1≠b)
  (keep:∀b o,b≠X.env.locals->b∉X.fs->b∉ch->s.heap.get? b=some o->H b=none->h'.get? b=some o)
  (N:∀b o,b≠X.env.locals->b∈X.fs->b∉ch->s.heap.get? b=some o->H b=none->∃sl,h'.get? b=some {o with slots:=sl}) (free:∀b o,b∉ch->s.heap.get? b=some o->H b=none->H' b=none)
  (O:∀b o,b∉ch->s.heap.get? b=some o->∃o',h'.get? b=some o')
  (tups:∀b xs,H b=some (.tup xs)->H' b=some (.tup xs)) (Y:∀b o u,H b=some (.frz o u)->H' b=some (.frz o u)) (Z:∀b ps,H b=some (.tbl ps)->∃more,H' b=some (.tbl (ps++more)))
  (ns:∀m,s.heap.Ns X.env.locals m->h'.Ns X.env.locals m) (hok:HOk X.prog X.w H' h') (hg:AllBare g'):
  Inv X pins σ H' {s with heap:=h',gens:=g',drawn:=d',toks:=t'}:=by
 have Ua:∀b o,X.s₀.heap.get? b=some o->b≠X.env.locals:=λb o e=>Qbc (Qbj (Qav e) I.ok.above);have M:∀b o,X.s₀.heap.get? b=some o->b∉X.ex->b∉ch:=λb o e C Q=>by
  rcases(D b Q).1 with z|z
  .exact C z
  .exact absurd (Qbj (Qav e) z) (Qck _)
 have G:∀x c,X.env.cells.lookup x=some c->∀v,s.heap.IsCell c v->h'.IsCell c v:=λx c e v ⟨o,S,hd⟩=>by
  have L:=λz=>(D c z).2.2.1 x c e U
  by_cases hc:c∈X.fs
  .obtain⟨sl,q⟩:=N c o (I.cne x c e) hc L S (I.freeC x c e);exact⟨_,q,hd⟩
  .exact⟨o,keep c o (I.cne x c e) hc L S (I.freeC x c e),hd⟩
 refine⟨I.ok,I.os,hg,⟨λb o e n Q C=>(keep b o (Ua b o e) Q (M b o e C) (I.base.keep b o e n Q C) (I.base.free b o e n C)),λb o e n Q C=>?_,λb o e n C=>?_,λb o e C=>?_,λb xs e=>tups b xs (I.base.tups b xs e),λb o xs e=>Y b o xs (I.base.frzs b o xs e),λb ps e=>?_⟩,?_,λx c e=>?_,?_,λx c e=>?_,λp hp=>?_,hok,I.len⟩
 .obtain⟨sl,e1⟩:=I.base.slot b o e n Q C;obtain⟨sl',e2⟩:=N b _ (Ua b o e) Q (M b o e C) e1 (I.base.free b o e n C);exact⟨sl',e2⟩
 .obtain⟨o',e1⟩:=I.base.there b o e C;exact free b o' (M b o e C) e1 (I.base.free b o e n C)
 .obtain⟨o',e1⟩:=I.base.there b o e C;exact O b o' (M b o e C) e1
 .obtain⟨m1,e1⟩:=I.base.tbls b ps e;obtain⟨m2,e2⟩:=Z b _ e1;exact⟨m1++m2,by grind⟩
 .obtain⟨m,hn,hl⟩:=I.loc;refine⟨m,ns m hn,λi x v e1 e2 e3=>?_⟩;obtain⟨u,r,l⟩:=hl i x v e1 e2 e3;refine⟨u,r,?_⟩;rcases l with l|⟨k,c,e,z⟩
  .exact .inl l
  .exact .inr ⟨k,c,e,G x c e _ z⟩
 .obtain⟨v,z⟩:=I.cell x c e;exact⟨v,G x c e v z⟩
 .obtain⟨m,⟨o,_,_,S,_⟩,_⟩:=I.loc;exact free _ o (λz=>(D _ z).2.1 rfl) S I.free
 .obtain⟨v,o,S,hd⟩:=I.cell x c e;exact free c o (λz=>(D c z).2.2.1 x c e U) S (I.freeC x c e)
 .obtain⟨e,n,ne,nf,d⟩:=I.pin p hp;have L:=λz=>(D p.1 z).2.2.2 p hp rfl;exact⟨keep p.1 p.2 ne nf L e n,free p.1 p.2 L e n,ne,nf,d⟩
def Inv.un{t':Nat}(I:Inv X pins σ H s)(u:Un X.fs [] H H' s.heap h')(M:HOk X.prog X.w H' h'):Inv X pins σ H' {s with heap:=h',toks:=t'}:=by
 obtain⟨m,⟨o,es,ep,N,r⟩,_⟩:=id I.loc;obtain⟨Y,Q⟩:=u.any N I.free (by simp);exact I.step (ch:=[]) (λ_ z=>nomatch z) (λb o _ G _ e n=>u.keep b o e n G (by simp)) (λb o _ G _ e n=>u.slot b o e n G (by simp)) (λb o _ e n=>u.free b o e n (by simp)) (λb o _ e=>u.there b o e (by simp)) u.tups u.frzs u.tbls (λUa S=>by
  obtain⟨o',D,L,C,O⟩:=S;rw[N]at C;cases C;exact⟨_,D,L,Q,O⟩) M I.bare
def Inv.call{Q:Array GenState}{t':Nat}{Z:Drawn}{ch:List Aw}(I:Inv X pins σ H s)(u:Un (frs X.stack) ch H H' s.heap h')(O:HOk X.prog X.w H' h')(hg:AllBare Q)
  (G:∀b∈ch,(b∈X.ex\/X.s₀.heap.objs.size<=b)/\b≠X.env.locals/\(∀x c,X.env.cells.lookup x=some c->c≠b)/\∀p∈X.pn++pins,p.1≠b):
  Inv X pins σ H' {s with heap:=h',gens:=Q,drawn:=Z,toks:=t'}:=by
 obtain⟨m,⟨o,es,ep,S,r⟩,_⟩:=id I.loc;obtain⟨sl,L⟩:=u.any S I.free λz=>(G _ z).2.1 rfl;exact I.step G (λb o L Y C e n=>u.keep b o e n (λz=>(Qas.mp (I.stkSub b z)).elim L Y) C) (λb o _ _ C e n=>u.any e n C) (λb o C e n=>u.free b o e n C) (λb o C e=>u.there b o e C) u.tups u.frzs u.tbls (λm' hm=>by
  obtain⟨o',M,N,D,Ua⟩:=hm;rw[S]at D;cases D;exact⟨_,M,N,L,Ua⟩) O hg
def Inv.turned{t':Nat}{it:Aw}(I:Inv X pins σ H s)(k:∀b o,b≠it->s.heap.get? b=some o->h'.get? b=some o)(O:H it=none)(G:it≠X.env.locals)
  (h1:it∈X.ex\/X.s₀.heap.objs.size<=it) (h2:∀x c,X.env.cells.lookup x=some c->c≠it) (Q:∀p∈X.pn++pins,p.1≠it):Inv X pins σ H {s with heap:=h',toks:=t'}:=by
 have D:∀b u,H b=some u->b≠it:=λb u e z=>by grind
 refine I.step (ch:=[it]) (λb N=>?_) (λb o _ _ C e _=>k b o (λz=>C (by simp[z])) e) (λb o _ _ C e _=>⟨o.slots,k b o (λz=>C (by simp[z])) e⟩) (λ_ _ _ _ n=>n)
  (λb o C e=>⟨o,k b o (λz=>C (by simp[z])) e⟩) (λ_ _ e=>e) (λ_ _ _ e=>e) (λb ps e=>⟨#[],by grind⟩) (λm M=>?_) (λb u e=>?_) I.bare
 .grind
 .obtain⟨o,es,ep,L,r⟩:=M;exact⟨o,es,ep,k _ o (Qdx G) L,r⟩
 .refine(I.hok b u e).stay (λc v C q=>k c v ?_ q) (λ_ q=>q) λ_ _ q=>q
  rcases C with z|z
  .rw[z];exact D b u e
  .exact D c _ z
def Inv.tok(I:Inv X pins σ H s)(t:Nat):Inv X pins σ H {s with toks:=t}:=I.un Un.refl I.hok
def Inv.kept{t':Nat}(I:Inv X pins σ H s)(k:∀b u,s.heap.get? b=some u->h'.get? b=some u):Inv X pins σ H {s with heap:=h',toks:=t'}:=I.un (Un.kept k) (I.hok.kept k)
theorem Inv.laid{a:Aw}{o:HO}{t':Nat}(I:Inv X pins σ H s)(k:∀b u,s.heap.get? b=some u->h'.get? b=some u)(r:s.heap.objs.size<=a)(new:YY X.prog X.w (upd H a o) h' a o):
  Inv X pins σ (upd H a o) {s with heap:=h',toks:=t'}:=I.un (Un.laid k r (I.hok.fresh r)) (I.hok.laid k r new)
theorem Inv.write{x e:Aw}{o:HO}{t':Nat}(I:Inv X pins σ H s)(C:Mut (H x))(D:e=x\/H e=some (.own x))(k:∀b u,b≠e->s.heap.get? b=some u->h'.get? b=some u)(r:∃u,h'.get? e=some u)
  (new:YY X.prog X.w (upd H x o) h' x o):Inv X pins σ (upd H x o) {s with heap:=h',toks:=t'}:=I.un (Un.write C D k r) (I.hok.write C D k r new)
theorem Inv.pins_of(I:Inv X pins σ H s)(h:∀p∈m,s.heap.get? p.1=some p.2/\H p.1=none/\p.1≠X.env.locals/\p.1∉X.fs/\∀v,p.2.data≠.cell v):Inv X m σ H s:=
 ⟨I.ok,I.os,I.bare,I.base,I.loc,I.cell,I.free,I.freeC,λp r=>(Qbl.mp r).elim (λz=>I.pin p (Qb7 _ z)) (h p),I.hok,I.len⟩
def gk(r:N.Nodup){j:Nat}(a:N[i]?=some x)(b:N[j]?=some x):i=j:=by
 obtain⟨h1,e1⟩:=Qaf.mp a;obtain⟨h2,e2⟩:=Qaf.mp b;exact(List.getElem_inj r).mp (e1.trans e2.symm)
theorem Zba{M:Model}{A:Ar}{E:Ab}{v:V}{Q:Unit->Shared->Prop}(I:Inv X pins σ H s)(hN:X.N.Nodup)(hi:X.N[i]?=some x)(L:Loc X.env.scope x)(r:RelV v u)
  (h:∀s',Inv X pins (σ.set i (some v)) H s'->(∃a,Heap.SameBut a s.heap s'.heap/\(a=X.env.locals\/X.env.cells.lookup x=some a))->Q () s') (hf:X.fn x=true\/X.env.scope.names.lookup x=some .local:=by first|exact .inl U|exact .inr U|assumption):wpAny M A (storeName X.env x u) Q E s:=by
 obtain⟨m,hn,hl⟩:=id I.loc;have S:i<σ.length:=by rw[I.len];exact(Qaf.mp hi).1
 have cne:=I.cne;have D:∀{a:Aw} {h':Heap},(∃o,s.heap.get? a=some o/\H a=none)->Heap.SameBut a s.heap h'->HOk X.prog X.w H h':=λ{a h'} ha C b ob e=>by
  obtain⟨_,_,O⟩:=ha;refine(I.hok b ob e).stay (λc w' G q=>(C.2 c ?_).trans q) (λ_ q=>q) λ_ _ q=>q;rintro rfl;rcases G with rfl|G
  .rw[O]at e;cases e
  .rw[O]at G;cases G
 rcases L with Ua|Ua
 .refine wpAny_storeName_local Ua hn (λh' hn' C=>?_) (by rw[I.ok.kind];rfl);obtain⟨oL,_,_,hoL,_⟩:=id hn;refine h _ ⟨I.ok,I.os,I.bare,⟨λb o e n Y L=>?_,λb o e n Y L=>?_,I.base.free,λb o e L=>?_,I.base.tups,I.base.frzs,I.base.tbls⟩,⟨_,hn',λj y v' e1 e2 e3=>?_⟩,λy c e=>?_,I.free,I.freeC,λp hp=>?_,D ⟨oL,hoL,I.free⟩ C,by simpa using I.len⟩ ⟨_,C,.inl U⟩
  .exact(C.2 b (Qbc (Qbj (Qav e) I.ok.above))).trans (I.base.keep b o e n Y L)
  .obtain⟨sl,e1⟩:=I.base.slot b o e n Y L;exact⟨sl,(C.2 b (Qbc (Qbj (Qav e) I.ok.above))).trans e1⟩
  .obtain⟨o',e1⟩:=I.base.there b o e L;exact⟨o',(C.2 b (Qbc (Qbj (Qav e) I.ok.above))).trans e1⟩
  .by_cases Z:j=i
   .subst Z;rw[hi]at e1;cases e1;rw[List.getElem?_set_self S]at e2;cases e2;exact⟨u,r,.inl ⟨Ua,by simp⟩⟩
   .rw[List.getElem?_set_ne (Qdx Z)]at e2;obtain⟨u',r',q⟩:=hl j y v' e1 e2 e3;refine⟨u',r',?_⟩;rcases q with⟨k,e⟩|⟨k,c,e,z⟩
    .refine .inl ⟨k,?_⟩;have:y≠x:=λe=>Z (gk hN e1 (e ▸ hi));simp[this,e]
    .exact .inr ⟨k,c,e,z.sameBut C (cne y c e)⟩
  .obtain⟨w',z⟩:=I.cell y c e;exact⟨w',z.sameBut C (cne y c e)⟩
  .obtain⟨e,n,ne,nf,d⟩:=I.pin p hp;exact⟨(C.2 p.1 ne).trans e,n,ne,nf,d⟩
 .have hfn:X.fn x=true:=by
   rcases hf with z|z
   .exact z
   .rw[z]at Ua;cases Ua
  obtain⟨c,G⟩:=I.ok.has x (.inl Ua);obtain⟨w',z⟩:=I.cell x c G;refine wpAny_storeName_cell I.ok.kind Ua G z (λh' hc' C=>?_);obtain⟨oc,hoc,hocd⟩:=id z;refine h _ ⟨I.ok,I.os,I.bare,⟨λb o e n Y L=>?_,λb o e n Y L=>?_,I.base.free,λb o e L=>?_,I.base.tups,I.base.frzs,I.base.tbls⟩,⟨m,hn.sameBut C (Qdx (cne x c G)),λj y v' e1 e2 e3=>?_⟩,λy c' e=>?_,I.free,I.freeC,λp hp=>?_,D ⟨oc,hoc,I.freeC x c G⟩ C,by simpa using I.len⟩ ⟨c,C,.inr G⟩
  .exact(C.2 b (Qbc (Qbj (Qav e) (I.ok.cab x c hfn G)))).trans (I.base.keep b o e n Y L)
  .obtain⟨sl,e1⟩:=I.base.slot b o e n Y L;exact⟨sl,(C.2 b (Qbc (Qbj (Qav e) (I.ok.cab x c hfn G)))).trans e1⟩
  .obtain⟨o',e1⟩:=I.base.there b o e L;exact⟨o',(C.2 b (Qbc (Qbj (Qav e) (I.ok.cab x c hfn G)))).trans e1⟩
  .by_cases Z:j=i
   .subst Z;rw[hi]at e1;cases e1;rw[List.getElem?_set_self S]at e2;cases e2;exact⟨u,r,.inr ⟨.inl Ua,c,G,hc'⟩⟩
   .rw[List.getElem?_set_ne (Qdx Z)]at e2;obtain⟨u',r',q⟩:=hl j y v' e1 e2 e3;refine⟨u',r',?_⟩;rcases q with q|⟨k,c',e,z'⟩
    .exact .inl q
    .refine .inr ⟨k,c',e,z'.sameBut C ?_⟩;rintro rfl;exact Z (gk hN e1 (I.ok.inj _ _ _ e G ▸ hi))
  .by_cases hcc:c'=c
   .subst hcc;exact⟨_,hc'⟩
   .obtain⟨w2,z2⟩:=I.cell y c' e;exact⟨w2,z2.sameBut C hcc⟩
  .obtain⟨e,n,ne,nf,d⟩:=I.pin p hp;refine⟨(C.2 p.1 ?_).trans e,n,ne,nf,d⟩;intro q;rw[q,hoc]at e;exact d w' (by rw[<-Option.some.inj e];exact hocd)
theorem JU{M:Model}{A:Ar}{E:Ab}{v:V}{Q:Unit->Shared->Prop}(I:Inv X pins σ H s)(D:X.N.Nodup)(hi:X.N[i]?=some x)(C:Loc X.env.scope x)(r:RelV v u)
  (h:∀s',Inv X pins (σ.set i (some v)) H s'->Q () s') (L:X.fn x=true\/X.env.scope.names.lookup x=some .local:=by first|exact .inl U|exact .inr U|assumption):wpAny M A (storeName X.env x u) Q E s:=
 Zba I D hi C r (λs' G _=>h s' G) L
def Inv.call'{s':As}{ch:List Aw}(I:Inv X pins σ H s)(D:s'.os=s.os)(u:Un (frs X.stack) ch H H' s.heap s'.heap)(r:HOk X.prog X.w H' s'.heap)(G:AllBare s'.gens)
  (C:∀b∈ch,(b∈X.ex\/X.s₀.heap.objs.size<=b)/\b≠X.env.locals/\(∀x c,X.env.cells.lookup x=some c->c≠b)/\∀p∈X.pn++pins,p.1≠b):Inv X pins σ H' s':=by
 obtain⟨h',M,L,t',o'⟩:=s';subst D;exact I.call u r G C
end
abbrev XK:=Av->Option Aw->Hp->Prop
abbrev St:=List (Option V)
abbrev Az:=List (List V)
abbrev A0:=List (Key×V)
abbrev A7:=St->Hp->Prop
abbrev A8:=List V
abbrev VK:=V->Hp->Prop
abbrev TE:=St->Hp->VK->Prop
abbrev TT:=St->Hp->(Bool->Hp->Prop)->Prop
abbrev TA:=St->Hp->(A8->Hp->Prop)->Prop
structure Ends where
 nx:A7
 rt:VK
 bk:A7:=λ_ _=>False
 ct:A7:=λ_ _=>False
abbrev TS:=Ends->St->Hp->Prop
inductive EP_i(X:Cx)(pins:Ac)(σ:St)(Q:VK)(u:Av)(s':As):Prop
 |mk (v H':_):(Inv X pins σ H' s')->(RelV v u)->(Q v H')->EP_i X pins σ Q u s'
def EP(X:Cx)(pins:Ac)(σ:St)(Q:VK)(u:Av)(s':As):Prop:=EP_i X pins σ Q u s'
inductive TP_i(X:Cx)(pins:Ac)(σ:St)(Q:Bool->Hp->Prop)(b:Bool)(s':As):Prop
 |mk (H':_):(Inv X pins σ H' s')->(Q b H')->TP_i X pins σ Q b s'
def TP(X:Cx)(pins:Ac)(σ:St)(Q:Bool->Hp->Prop)(b:Bool)(s':As):Prop:=TP_i X pins σ Q b s'
inductive AP_i(X:Cx)(pins:Ac)(σ:St)(Q:A8->Hp->Prop)(us:Ag)(s':As):Prop
 |mk (vs H':_):(Inv X pins σ H' s')->(Vals vs us)->(Q vs H')->AP_i X pins σ Q us s'
def AP(X:Cx)(pins:Ac)(σ:St)(Q:A8->Hp->Prop)(r:Ag)(s':As):Prop:=AP_i X pins σ Q r s'
def SP(X:Cx)(pins:Ac)(D:Ends)(f:Flow)(s':As):Prop:=
 match f with
 |.next=>∃r H',Inv X pins r H' s'/\D.nx r H'
 |.brk=>∃r H',Inv X pins r H' s'/\D.bk r H'
 |.cont=>∃r H',Inv X pins r H' s'/\D.ct r H'
 |.ret u=>∃v r H',Inv X pins r H' s'/\RelV v u/\D.rt v H'
def PE(X:Cx)(e:Ax)(t:TE):Prop:=
 ∀(pins:Ac)(s:As)(σ:St)(H:Hp)(Q:VK),Inv X pins σ H s->t σ H Q->Ba X (eval e X.env) (EP X pins σ Q) X.xe s
def PT(X:Cx)(e:Ax)(t:TT):Prop:=
 ∀(pins:Ac)(s:As)(σ:St)(H:Hp)(Q:Bool->Hp->Prop),Inv X pins σ H s->t σ H Q->Ba X (isTrue e X.env (eval e X.env)) (TP X pins σ Q) X.xe s
def PW(X:Cx)(e:Ax)(t:TT):Prop:=
 ∀(r:Sem Av)(pins:Ac)(s:As)(σ:St)(H:Hp)(Q:Bool->Hp->Prop),Inv X pins σ H s->t σ H Q->Ba X (isTrue e X.env r) (TP X pins σ Q) X.xe s
def PW.pt{X:Cx}{t:TT}(h:PW X e t):PT X e t:=h _
def PA(X:Cx)(es:An)(t:TA):Prop:=
 ∀(pos:Pos)(pins:Ac)(s:As)(σ:St)(H:Hp)(Q:A8->Hp->Prop),Inv X pins σ H s->t σ H Q->Ba X (spliced (backTo pos (starEach es X.env))) (AP X pins σ Q) X.xe s
def PS(X:Cx)(st:Ay)(t:TS):Prop:=
 ∀(pins:Ac)(s:As)(σ:St)(H:Hp)(D:Ends),Inv X pins σ H s->t D σ H->Ba X (exec st X.env) (SP X pins D) X.xe s
def PSs(X:Cx)(st:List Ay)(t:TS):Prop:=
 ∀(pins:Ac)(s:As)(σ:St)(H:Hp)(D:Ends),Inv X pins σ H s->t D σ H->Ba X (execs st X.env) (SP X pins D) X.xe s
def thn{t:Sem g}{Q r:g->Shared->Prop}{M:Model}{A:Ar}{E:Ab}(h:wpAny M A t Q E s)(C:∀a s,Q a s->r a s):wpAny M A t r E s:=Qdb h C λ_ _ x=>x
section
variable {X:Cx}
inductive Zhh(i:Nat)(σ:St)(H:Hp)(Q:VK):Prop
 |mk (v:_):(σ[i]?=some (some v))->(Q v H)->Zhh i σ H Q
def Ze8(i:Nat):TE:=λσ H Q=>Zhh i σ H Q
def tC(v:V):TE:=λ_ H Q=>Q v H
def Zhi    (O:X.N[i]?=some x) (Ua:Vis X.env.scope x) (G:(x == ("__debug__" : Str))=false:=by decide) (L:(x == ("__classdict__" : Str))=false:=by decide):PE X (.Name x p) (Ze8 i):=by
 intro pins s σ H Q I h;obtain⟨v,e,h⟩:=h;obtain⟨m,S,Z⟩:=I.loc;obtain⟨u,r,l⟩:=Z i x v O e Ua;have fin:EP X pins σ Q u s:=⟨v,H,I,r,h⟩;rcases l with⟨D,Y⟩|⟨D,c,M,C⟩
 .exact wpAny_Name (wpAny_loadName_local I.ok.kind D S Y fin) G
 .rcases D with D|D
  .exact wpAny_Name (wpAny_loadName_cell I.ok.kind D M C fin) G
  .exact wpAny_Name (wpAny_loadName_free I.ok.kind D M C fin L) G
def Gl(X:Cx)(x:Str):Prop:=X.env.kindOf x=some .globalImplicit
def jM{E:Ab}{σ:St}{H:Hp}(I:Inv X m σ H s)(C:Gl X x)(D:X.mg x=some u)(h:Q u s)
  (r:(x == ("__debug__" : Str))=false:=by decide):Ba X (eval (.Name x p) X.env) Q E s:=
 Calls.Name_function_global I.ok.kind C (Calls.loadGlobal_global (by rw[I.ok.glob];exact I.mod.glob.keeps I.bk) D h) r
def qj{E:Ab}{σ:St}{H:Hp}(I:Inv X m σ H s)(L:Gl X x)(C:X.mg x=none)(D:bootBuiltins x=some u)(h:Q u s)
  (r:x ≠ "__name__" :=by decide) (G:(x == ("__debug__" : Str))=false:=by decide):Ba X (eval (.Name x p) X.env) Q E s:=by
 obtain⟨M,h1,h2⟩:=I.mod.blt;exact Calls.Name_function_global I.ok.kind L (Calls.loadGlobal_builtin (by rw[I.ok.glob];exact I.mod.glob.keeps I.bk) C (by rw[I.ok.blt];exact h1.keeps I.bk) ((h2 x r).trans D) h) G
variable {a b:Ax}{ta tb:TE}{pos:Pos}
inductive tB_i(Q:Bool->Hp->Prop)(x:V)(H1:Hp):Prop
 |mk (c:_):(x=.bl c)->(Q c H1)->tB_i Q x H1
def tB(t:TE):TT:=λσ H Q=>t σ H λx H1=>tB_i Q x H1
variable {tA tB':TT}{rest:An}
def tAnd(t u:TT):TT:=λσ H Q=>t σ H λc H1=>if c=true then u σ H1 Q else Q false H1
def tOr(t u:TT):TT:=λσ H Q=>t σ H λc H1=>if c=true then Q true H1 else u σ H1 Q
def tNot(t:TT):TT:=λσ H Q=>t σ H λc H1=>Q (!c) H1
inductive Zbb(tb:TE)(σ:St)(Q:VK)(x:V)(H1:Hp):Prop
 |mk (c:_):(x=.bl c)->(if c=true then tb σ H1 Q else Q (.bl false) H1)->Zbb tb σ Q x H1
def tAndV(ta tb:TE):TE:=λσ H Q=>ta σ H λx H1=>Zbb tb σ Q x H1
inductive Zhj(tb:TE)(σ:St)(Q:VK)(x:V)(H1:Hp):Prop
 |mk (c:_):(x=.bl c)->(if c=true then Q (.bl true) H1 else tb σ H1 Q)->Zhj tb σ Q x H1
def tOrV(ta tb:TE):TE:=λσ H Q=>ta σ H λx H1=>Zhj tb σ Q x H1
inductive Zbc(Q:VK)(x:V)(H1:Hp):Prop
 |mk (c:_):(x=.bl c)->(Q (.bl (!c)) H1)->Zbc Q x H1
def tNotV(ta:TE):TE:=λσ H Q=>ta σ H λx H1=>Zbc Q x H1
end
def SqL(K:Af)(H:Hp)(a:Aw)(xs:A8):Prop:=
 Rd H a (.lst xs) \/
  ∃(o:Obj)(r:Ah)(n:Nat),K.lookup a=some o/\o.cls=.type "list" /\ o.dict=none/\o.data=.seq r n/\r.size<=sizeLine/\Vals xs r.toList
def SqT(K:Af)(H:Hp)(a:Aw)(xs:A8):Prop:=
 Rd H a (.tup xs) \/
  ∃(o:Obj)(r:Ah)(n:Nat),K.lookup a=some o/\o.cls=.type "tuple" /\ o.data=.seq r n/\r.size<=sizeLine/\Vals xs r.toList
def absV:Av->Option V
 |.none=>some .non
 |.bool b=>some (.bl b)
 |.int i _=>some (.int i)
 |.str x _=>some (.str x)
 |.bytes b _=>some (.byt b)
 |.float b _=>some (.flt b)
 |.ref a=>some (.ref a)
 |.type n=>some (.ty n)
 |_=>none
def RelV.abs{x:V}(r:RelV x u):absV u=some x:=by
 cases x with
 |non=>cases r;rfl
 |bl _=>cases r;rfl
 |int _=>obtain⟨t,rfl⟩:=r;rfl
 |str _=>obtain⟨t,rfl⟩:=r;rfl
 |byt _=>obtain⟨t,rfl⟩:=r;rfl
 |flt _=>obtain⟨t,rfl⟩:=r;rfl
 |ref _=>cases r;rfl
 |ty _=>cases r;rfl
def RelV.inj{x y:V}{u:Av}(r:RelV x u)(q:RelV y u):x=y:=Option.some.inj (r.abs.symm.trans q.abs)
theorem Vals.inj:∀{xs ys:A8} {C:Ag},Vals xs C->Vals ys C->xs=ys
 |_,_,_,.nil,.nil=>rfl
 |_,_,_,.cons r t,.cons D t'=>by rw[r.inj D,Vals.inj t t']
section
variable {X:Cx}{pins:Ac}{σ:St}{H:Hp}{s:As}{a:Aw}{xs ys:A8}
def SqL.of(h:H a=some (.lst xs)):SqL K H a xs:=.inl (.inl h)
def SqT.of(h:H a=some (.tup xs)):SqT K H a xs:=.inl (.inl h)
def Inv.list(I:Inv X pins σ H s)(h:SqL X.K H a xs):∃C:Ag,Vals xs C/\PlainL s.heap a C.toArray/\xs.length<=sizeLine:=by
 rcases h with h|⟨o,C,n,D,G,M,L,N,r⟩
 .obtain⟨z,C,n,r,e⟩:=h.ok I.hok;exact⟨C,r,⟨_,n,e,U,U,U⟩,z⟩
 .refine⟨_,r,⟨o,n,I.kIn a o D,G,M,by simpa using L⟩,?_⟩;have e:=r.length;simp at e;lia
def Inv.tuple(I:Inv X pins σ H s)(h:SqT X.K H a xs):∃C:Ag,Vals xs C/\IsTup s.heap a C.toArray/\xs.length<=sizeLine:=by
 rcases h with h|⟨o,C,n,D,G,L,M,r⟩
 .obtain⟨z,C,r,p⟩:=h.ok I.hok;exact⟨C,r,p.tup,z⟩
 .refine⟨_,r,⟨o,I.kIn a o D,G,n,by simpa using L⟩,?_⟩;have e:=r.length;simp at e;lia
def Inv.list_inj(I:Inv X pins σ H s)(h:SqL X.K H a xs)(h':SqL X.K H a ys):xs=ys:=by
 obtain⟨D,r,⟨o,n,e,_,_,d⟩,_⟩:=I.list h;obtain⟨C,M,⟨o',n',L,_,_,G⟩,_⟩:=I.list h';rw[e]at L;cases L;rw[d]at G;injection G with N _;have:D=C:=by grind
 subst this;exact r.inj M
def Inv.tuple_inj(I:Inv X pins σ H s)(h:SqT X.K H a xs)(h':SqT X.K H a ys):xs=ys:=by
 obtain⟨D,r,⟨o,e,_,n,d⟩,_⟩:=I.tuple h;obtain⟨C,M,⟨o',L,_,n',G⟩,_⟩:=I.tuple h';rw[e]at L;cases L;rw[d]at G;injection G with N _;have:D=C:=by grind
 subst this;exact r.inj M
end
abbrev Cx.wish(X:Cx)(E:Ab):Cx:={X with xe:=E}
abbrev Cx.nox(X:Cx):Cx:=X.wish λ_ _=>False
theorem Cx.Ok.wish{X:Cx}(ok:X.Ok)(E:Ab):(X.wish E).Ok:=
 ⟨ok.mod,ok.kind,ok.glob,ok.blt,ok.above,ok.inj,ok.has,ok.cab,ok.hd,ok.frames,ok.stk,ok.exf,ok.bs,ok.bsz,ok.noex,ok.exfs,ok.funs,ok.frf⟩
theorem Cx.Ok.unwish{X:Cx}{E:Ab}(ok:(X.wish E).Ok):X.Ok:=
 ⟨ok.mod,ok.kind,ok.glob,ok.blt,ok.above,ok.inj,ok.has,ok.cab,ok.hd,ok.frames,ok.stk,ok.exf,ok.bs,ok.bsz,ok.noex,ok.exfs,ok.funs,ok.frf⟩
section
variable {X:Cx}{pins:Ac}{σ:St}{H:Hp}{s:As}{E:Ab}
def Inv.wish(I:Inv X pins σ H s)(E:Ab):Inv (X.wish E) pins σ H s:=⟨I.ok.wish E,I.os,I.bare,I.base,I.loc,I.cell,I.free,I.freeC,I.pin,I.hok,I.len⟩
def Inv.unwish(I:Inv (X.wish E) pins σ H s):Inv X pins σ H s:=⟨I.ok.unwish,I.os,I.bare,I.base,I.loc,I.cell,I.free,I.freeC,I.pin,I.hok,I.len⟩
def SP.unwish{D:Ends}{f:Flow}{s':As}(h:SP (X.wish E) pins D f s'):SP X pins D f s':=by
 cases f with
 |next=>obtain⟨C,H',I,q⟩:=h;exact⟨C,H',I.unwish,q⟩
 |brk=>obtain⟨C,H',I,q⟩:=h;exact⟨C,H',I.unwish,q⟩
 |cont=>obtain⟨C,H',I,q⟩:=h;exact⟨C,H',I.unwish,q⟩
 |ret u=>obtain⟨v,C,H',I,r,q⟩:=h;exact⟨v,C,H',I.unwish,r,q⟩
theorem PSs.nox{st:List Ay}{t:TS}(h:PSs X.nox st t):PSs X st t:=λpins s σ H D I hw=>
 Qdb (h pins s σ H D (I.wish _) hw) (λ_ _ q=>q.unwish) λ_ _ z=>False.elim z
end
section
variable {X:Cx}{st:Ay}{rest:List Ay}{t u:TS}{e:Ax}{te:TE}{pos:Pos}
def tNext:TS:=λD σ H=>D.nx σ H
def Yl(t u:TS):TS:=λD σ H=>t {D with nx:=u D} σ H
def Inv.quiet{σ:St}{H:Hp}(I:Inv X m σ H s):interactive X.env=false:=by simp[interactive,I.ok.kind]
def tDrop(te:TE):TS:=λD σ H=>te σ H λ_ H1=>D.nx σ H1
def tRet(te:TE):TS:=λD σ H=>te σ H D.rt
def Zm5(c:TT)(t u:TS):TS:=λD σ H=>c σ H λb H1=>if b=true then t D σ H1 else u D σ H1
end
abbrev TG:=V->St->Hp->(A7)->Prop
abbrev TGs:=A8->St->Hp->(A7)->Prop
def PG(X:Cx)(r:Ax)(t:TG):Prop:=
 ∀(pins:Ac)(s:As)(σ:St)(H:Hp)(v:V)(u:Av)(Q:A7),Inv X pins σ H s->RelV v u->t v σ H Q->
  Ba X (assign r X.env u) (λ_ s'=>∃C H',Inv X pins C H' s'/\Q C H') X.xe s
def PGs(X:Cx)(ts:An)(t:TGs):Prop:=
 ∀(pins:Ac)(s:As)(σ:St)(H:Hp)(vs:A8)(C:Ag)(Q:A7),Inv X pins σ H s->Vals vs C->t vs σ H Q->
  Ba X (assignInOrder ((assignEach ts X.env).map (·.2)) C) (λ_ s'=>∃r H',Inv X pins r H' s'/\Q r H') X.xe s
abbrev TSet:=V->V->V->Hp->(Hp->Prop)->Prop
def PSet(X:Cx)(t:TSet):Prop:=
 ∀(pins:Ac)(s:As)(σ:St)(H:Hp)(o i v:V)(C r u:Av)(Q:Hp->Prop),Inv X pins σ H s->RelV o C->RelV i r->RelV v u->t o i v H Q->
  Ba X (setItem C r u) (λ_ s'=>∃H',Inv X pins σ H' s'/\Q H') X.xe s
section
variable {X:Cx}{pos:Pos}
def Wg(i:Nat):TG:=λv σ H Q=>Q (σ.set i (some v)) H
theorem jN(D:X.N.Nodup)(hi:X.N[i]?=some x)(C:Loc X.env.scope x)(G:X.fn x=true\/X.env.scope.names.lookup x=some .local:=by first|exact .inl U|exact .inr U|assumption):PG X (.Name x pos) (Wg i):=by
 intro pins s σ H v u Q I r h;exact wpAny_assign_Name (JU I D hi C r (λs' L=>⟨_,H,L,h⟩) G)
inductive Zhk(vs:A8)(σ:St)(H:Hp)(Q:A7):Prop
 |mk  : (vs=[])->(Q σ H)->Zhk vs σ H Q
def Zlt  : TGs:=λvs σ H Q=>Zhk vs σ H Q
inductive Zbd(t:TG)(u:TGs)(vs:A8)(σ:St)(H:Hp)(Q:A7):Prop
 |mk (v r:_):(vs=v::r)->(t v σ H λσ' H'=>u r σ' H' Q)->Zbd t u vs σ H Q
def xm(t:TG)(u:TGs):TGs:=λvs σ H Q=>Zbd t u vs σ H Q
def Zbe:PGs X [] Zlt:=by
 intro pins s σ H vs C Q I r h;obtain⟨e,h⟩:=h;subst e;cases r;exact assignInOrder_nil ⟨σ,H,I,h⟩
def qS{t:TG}{u:TGs}(h1:PG X e t)(h2:PGs X A u)
  (D:(assignEach (e::A) X.env).map (·.2)=assign e X.env::(assignEach A X.env).map (·.2):=by rfl):PGs X (e::A) (xm t u):=by
 intro pins s σ H vs O Q I r h;obtain⟨v,S,e1,h⟩:=h;subst e1;cases r with
 |cons r L=>
  rw[D];refine assignInOrder_cons (thn (h1 pins s σ H _ _ _ I r h) λ_ N ⟨C,H1,M,G⟩=>(h2 pins N C H1 _ _ Q M L G))
inductive Zhl(K:Af)(n:Nat)(t:TGs)(v:V)(σ:St)(H:Hp)(Q:A7):Prop
 |mk (a xs:_):(v=.ref a)->(SqT K H a xs)->(xs.length=n)->(t xs σ H Q)->Zhl K n t v σ H Q
def Zlu(K:Af)(n:Nat)(t:TGs):TG:=λv σ H Q=>Zhl K n t v σ H Q
def Zhm{k:Nat}{t:TGs}(O:X.calm=true)(h:PGs X A t)
  (N:(assignEach A X.env).length=n:=by rfl) (hst:(assignEach A X.env).findIdx? (·.1)=none:=by rfl):PG X (.Tuple A k pos) (Zlu X.K n t):=by
 intro pins s σ H v u Q I r hw;obtain⟨a,xs,e1,L,S,hw⟩:=hw;subst e1;cases r;obtain⟨G,M,C,Ua⟩:=I.tuple L;refine assign_Tuple_tuple (I.ok.hd O) C (by simp[N,<-S,M.length]) hst λh' D=>(h pins _ σ H xs _ Q (I.kept λb o e=>D b o (Qbc (Qav e)) e) (by grind) hw)
def gSub(to C:TE)(t:TSet):TG:=λv σ H Q=>to σ H λo H1=>C σ H1 λi H2=>t o i v H2 λr=>Q σ r
def Zlv(te:TE)(g:TG):TS:=λD σ H=>te σ H λx H1=>g x σ H1 D.nx
theorem ps_set{te:TE}(L:X.N.Nodup)(hi:X.N[i]?=some x)(G:Loc X.env.scope x)(Ua:PE X e te)(r:swapsWith e (some (.Name x p)) pos.line X.env=pure false:=by rfl)(S:X.fn x=true\/X.env.scope.names.lookup x=some .local:=by first|exact .inl U|exact .inr U|assumption):
  PS X (.Assign [.Name x p] e pos) (Zlv te (Wg i)):=by
 intro pins s σ H D I h;refine wpAny_Assign_Name (thn (Ua pins s σ H _ I h) λv Z ⟨y,H1,Q,C,O⟩=>(JU Q L hi G C (λY M=>⟨_,H1,M,O⟩) S)) r
def Zhn(c:TT)(tb:TS):TS:=λD σ H=>∃W:Nat->St->Hp->Prop,(∃m,W m σ H)/\∀m σ H,W m σ H->
 c σ H λb H1=>if b=true then∃N:A7,(∀r H',N r H'->∃C,C<m/\W C r H')/\tb {D with nx:=N,ct:=N,bk:=D.nx} σ H1 else D.nx σ H1
end
structure It where
 go:Nat->Hp->Prop
 yld:Nat->Hp->V->Hp->Prop
 stop:Nat->Hp->Prop
def yJ(X:Cx)(pins:Ac)(H:Hp)(b:Aw):Prop:=
 H b=none/\b≠X.env.locals/\b∉X.fs/\(b∈X.ex\/X.s₀.heap.objs.size<=b)/\(∀x c,X.env.cells.lookup x=some c->c≠b)/\∀p∈X.pn++pins,p.1≠b
def Inv.fpOk{X:Cx}{σ:St}{H H':Hp}{b:Aw}(I:Inv X m σ H s)(r:s.heap.objs.size<=b)(D:H' b=none):yJ X m H' b:=by
 refine⟨D,Qd7 (Qbj I.lt r),I.nofs r,.inr (Qa1 I.sz r),λx c e z=>?_,λp C z=>(absurd (Qbj (Qav (I.pin p C).1) (by grind)) (Qck _))⟩
 .obtain⟨v,q⟩:=I.cell x c e;exact absurd (Qbj q.lt (by grind)) (Qck _)
structure Turn(P:Aq)(w:Au)(K:Af)(tg:Ax)(J:It)(fp:List Aw)(it:Aw)(tn:Nat->Heap->Prop):Prop where
 mem:it∈fp
 obj:∀i h,tn i h->∀b∈fp,∃o,h.get? b=some o/\∀v,o.data≠.cell v
 keep:∀i h h',tn i h->(∀b∈fp,∀o,h.get? b=some o->h'.get? b=some o)->tn i h'
 item:∀(X:Cx),X.prog=P->X.w=w->X.K=K->X.calm=true->∀(i:Nat)(pins:Ac)(s:As)(σ:St)(H:Hp)(E:Ab),Inv X pins σ H s->(∀b∈fp,yJ X pins H b)->tn i s.heap->J.go i H->
  wpAny (model P w) X.A (pyNext (.ref it)) (λr s1=>∃u,r=some u /\
   wpAny (model P w) X.A (letOwnedTupleGo tg (.ref it) u) (λ_ s2=>∃x H',Inv X pins σ H' s2/\RelV x u/\J.yld i H x H'/\tn (i+1) s2.heap/\∀b∈fp,H' b=none) E s1) E s
 done:∀(X:Cx),X.prog=P->X.w=w->X.K=K->X.calm=true->∀(i:Nat)(pins:Ac)(s:As)(σ:St)(H:Hp)(E:Ab),Inv X pins σ H s->(∀b∈fp,yJ X pins H b)->tn i s.heap->J.stop i H->
  wpAny (model P w) X.A (pyNext (.ref it)) (λr s1=>r=none/\Inv X pins σ H s1) E s
 self:∀(A:Ar)(i:Nat)(s:As)(Q:Ab)(E:Ab),tn i s.heap->Q (.ref it) s->wpAny (model P w) A (pyIter (.ref it)) Q E s
abbrev TI:=St->Hp->(It->Hp->Prop)->Prop
def PIE(X:Cx)(pins:Ac)(σ:St)(tg:Ax)(R:It->Hp->Prop)(r:Av)(C:As):Prop:=
 ∃(it:Aw)(fp:List Aw)(D:Nat->Heap->Prop)(J:It)(H':Hp),r=.ref it/\Inv X pins σ H' C/\Turn X.prog X.w X.K tg J fp it D/\D 0 C.heap/\(∀b∈fp,yJ X pins H' b)/\R J H'
def PI(X:Cx)(tg iter:Ax)(wi:TI):Prop:=
 ∀(pins:Ac)(s:As)(σ:St)(H:Hp)(R:It->Hp->Prop),Inv X pins σ H s->wi σ H R->
  Ba X (eval iter X.env) (λv r=>Ba X (pyIter v) (PIE X pins σ tg R) X.xe r) X.xe s
def kI{M:Model}{A:Ar}{E:Ab}{it:Aw}{o:Obj}{n:String}{vs:Ah}{Q:Unit->Shared->Prop}(C:s.heap.get? it=some o)(D:o.cls=.type n)(G:o.data=.fields vs)
    (I:["enumerate","zip","dict_itemiterator","dict_reverseitemiterator","odict_iterator","itertools.zip_longest","itertools.pairwise"].contains n=false) (r:Q () s):wpAny M A (letOwnedTupleGo e (.ref it) u) Q E s:=by
  cases e<;>first
    |exact Qae r
    | (cases u <;> first
        |exact Qae r
        | (refine Qaa (wpAny_load C ?_)
           rw[D,G];show wpAny M A (if(["enumerate","zip","dict_itemiterator","dict_reverseitemiterator","odict_iterator","itertools.zip_longest","itertools.pairwise"].contains n&&vs[0]? == some _)=true then _ else _) Q E s;rw[Qaw (by grind)];exact Qae r))
def Itl(K:Af)(a:Aw):It:=
 ⟨λi H=>∃xs x,SqL K H a xs/\xs[i]?=some x,λi H x H'=>H'=H/\∀xs,SqL K H a xs->xs[i]?=some x,λi H=>∃xs,SqL K H a xs/\xs.length<=i⟩
def Itt(K:Af)(a:Aw):It:=
 ⟨λi H=>∃xs x,SqT K H a xs/\xs[i]?=some x,λi H x H'=>H'=H/\∀xs,SqT K H a xs->xs[i]?=some x,λi H=>∃xs,SqT K H a xs/\xs.length<=i⟩
def Itr(lo:Int)(n:Nat):It:=⟨λi _=>i<n,λi H x H'=>H'=H/\x=.int (lo+i),λi _=>n<=i⟩
def Zbf{tg:Ax}(a it:Aw):Turn P w K tg (Itl K a) [it] it (λi h=>h.IsListIter it a i)where
 mem:=by simp
 obj:=λi h st b r=>by
  have e:=by simpa using r
  subst e;obtain⟨o,e,c,d⟩:=st;exact⟨o,e,λv z=>by grind⟩
 keep:=λi h h' st k=>st.at λo e=>k it (by simp) o e
 item:=by
  intro X L hw S hc i pins s σ H E I G st Ua;subst L hw S;obtain⟨xs,x,D,Y⟩:=Ua;obtain⟨its,N,p,hz⟩:=I.list D;obtain⟨u,hu,ru⟩:=N.get Y;obtain⟨Q,f1,f2,O,M,Z⟩:=G it (by simp);refine wpAny_pyNext_list_item st p.isList (x:=u) (by grind) λh' C sb=>?_;obtain⟨o,e,c,d⟩:=id C;exact⟨u,U,kI e c d (by decide) ⟨x,H,I.turned (t':=s.toks) (λb o r e=>(sb.2 b r).trans e) Q f1 O M Z,ru,⟨U,λys hy=>by rw[I.list_inj hy D];exact Y⟩,C,λb r=>(G b r).1⟩⟩
 done:=by
  intro X L hw S hc i pins s σ H E I G st Ua;subst L hw S;obtain⟨xs,D,Y⟩:=Ua;obtain⟨its,N,p,hz⟩:=I.list D;obtain⟨Q,f1,f2,O,M,Z⟩:=G it (by simp);have hl:=N.length;exact wpAny_pyNext_list_end (I.ok.hd hc) st p.isList (by simp;lia) λh' eb=>⟨U,I.turned (λb o r e=>eb b o r e) Q f1 O M Z⟩
 self:=λ_ _ _ _ _ st h=>wpAny_pyIter_listiter st h
def uI{tg:Ax}(a it:Aw):Turn P w K tg (Itt K a) [it] it (λi h=>h.IsTupleIter it a i)where
 mem:=by simp
 obj:=λi h st b r=>by
  have e:=by simpa using r
  subst e;obtain⟨o,e,c,d⟩:=st;exact⟨o,e,λv z=>by grind⟩
 keep:=λi h h' st k=>st.at λo e=>k it (by simp) o e
 item:=by
  intro X L hw S hc i pins s σ H E I G st Ua;subst L hw S;obtain⟨xs,x,D,Y⟩:=Ua;obtain⟨its,N,p,hz⟩:=I.tuple D;obtain⟨u,hu,ru⟩:=N.get Y;obtain⟨Q,f1,f2,O,M,Z⟩:=G it (by simp);refine wpAny_pyNext_tuple_item st (p) (x:=u) (by grind) λh' C sb=>?_;obtain⟨o,e,c,d⟩:=id C;exact⟨u,U,kI e c d (by decide) ⟨x,H,I.turned (t':=s.toks) (λb o r e=>(sb.2 b r).trans e) Q f1 O M Z,ru,⟨U,λys hy=>by rw[I.tuple_inj hy D];exact Y⟩,C,λb r=>(G b r).1⟩⟩
 done:=by
  intro X L hw S hc i pins s σ H E I G st Ua;subst L hw S;obtain⟨xs,D,Y⟩:=Ua;obtain⟨its,N,p,hz⟩:=I.tuple D;obtain⟨Q,f1,f2,O,M,Z⟩:=G it (by simp);have hl:=N.length;exact wpAny_pyNext_tuple_end (I.ok.hd hc) st (p) (by simp;lia) λh' eb=>⟨U,I.turned (λb o r e=>eb b o r e) Q f1 O M Z⟩
 self:=λ_ _ _ _ _ st h=>wpAny_pyIter_tupleiter st h
def uJ{tg:Ax}(it:Aw)(lo:Int)(n:Nat):Turn P w K tg (Itr lo n) [it] it (λi h=>IsRangeIter h it (lo+(i:Nat)*1) ((n:Int)-(i:Nat)) 1)where
 mem:=by simp
 obj:=λi h st b r=>by
  grind
 keep:=λi h h' st k=>k it (by simp) _ st
 item:=by
  intro X G hw Q O i pins s σ H E I D st S;subst G hw Q;obtain⟨N,Y,f2,M,L,Ua⟩:=D it (by simp);refine(Walks.range (I.ok.hd O) it lo 1 n).item i s _ _ S st λv h' tk hv C Z=>?_;obtain⟨t,rfl⟩:=hv;refine⟨_,U,kI C U U (by decide) ⟨.int _,H,I.turned (λb o r e=>Z b o (by simpa using r) e) N Y M L Ua,⟨t,?_⟩,⟨U,U⟩,C,λb r=>(D b r).1⟩⟩;rw[Int.mul_one]
 done:=by
  intro X G hw Q O i pins s σ H E I D st S;subst G hw Q;obtain⟨N,Y,f2,M,L,Ua⟩:=D it (by simp);exact wpAny_pyNext_range_end (I.ok.hd O) st (by have:n<=i:=S;lia) λh' eb=>⟨U,I.turned (λb o r e=>eb b o r e) N Y M L Ua⟩
 self:=λ_ _ _ _ _ st h=>wpAny_pyIter_rangeiter st h
section
variable {X:Cx}{tg:Ax}
inductive Zbg(K:Af)(R:It->Hp->Prop)(x:V)(H1:Hp):Prop
 |mk (a:_):(x=.ref a)->((∃xs,SqL K H1 a xs))->(R (Itl K a) H1)->Zbg K R x H1
def Zfg(K:Af)(tl:TE):TI:=λσ H R=>tl σ H λx H1=>Zbg K R x H1
inductive Zho(K:Af)(R:It->Hp->Prop)(x:V)(H1:Hp):Prop
 |mk (a:_):(x=.ref a)->((∃xs,SqT K H1 a xs))->(R (Itt K a) H1)->Zho K R x H1
def iTup(K:Af)(tl:TE):TI:=λσ H R=>tl σ H λx H1=>Zho K R x H1
def Zfh{σ:St}{H:Hp}{R:It->Hp->Prop}{E:Ab}{lo:Int}{t u v:Tok}{tk:Nat}(I:Inv X m σ H s)(h1:-(2^62)<=lo)(h2:lo<2^62)(D:-(2^62)<=z)(C:z<2^62)
  (q:R (Itr lo (z-lo).toNat) H):Ba X (pyIter (.ref s.heap.objs.size)) (PIE X m σ tg R) E {s with heap:=s.heap.push {cls:=.type "range",data:=.fields #[.int lo t,.int z u,.int 1 v]},toks:=tk}:=by
 refine wpAny_pyIter_range (IsRange.new ..) (small_one h1 h2 D C) ?_;have r:Inv X m σ H {s with heap:=s.heap.push {cls:=.type "range",data:=.fields #[.int lo t,.int z u,.int 1 v]},toks:=tk}:=I.kept λb o e=>Qad _ e;refine⟨_,_,_,_,H,U,
  r.kept λb o e=>Qad _ e,uJ _ lo _,?_,λb G=>?_,q⟩
 .have e1:lo+((0:Nat))*1=lo:=by simp
  have e2:(((z-lo).toNat))-((0:Nat))=Builtin.Range.rangeSize lo z 1:=by rw[rangeSize_one];split<;>lia
  rw[e1,e2];exact Qam _ U
 .have e:b=(s.heap.push {cls:=.type "range",data:=.fields #[.int lo t,.int z u,.int 1 v]}).objs.size:=by grind
  subst e;exact r.fpOk (Qah _) (r.hok.fresh (Qah _))
inductive Zbh(R:It->Hp->Prop)(vs:A8)(H1:Hp):Prop
 |mk (j:Int):(vs=[.int j])->(-(2^62)<=j)->(j<2^62)->(R (Itr 0 j.toNat) H1)->Zbh R vs H1
def Zlz(ta:TA):TI:=λσ H R=>ta σ H λvs H1=>Zbh R vs H1
def Zbi {a:Ax} {ta:TA}  (S:Gl X "range") (M:X.mg "range" = none) (O:PA X [a] ta) (D:starEach [a] X.env=[(false,eval a X.env)]:=by rfl):PI X tg (.Call (.Name "range" p) [a] [] E) (Zlz ta):=by
 intro pins s σ H R I h;refine Call_ (qj I S M boot_range (Qc6 (thn (O E pins s σ H _ I h) λUa Y ⟨vs,H1,N,G,C⟩=>?_) D U));obtain⟨j,e,C,Q,q⟩:=C;subst e;cases G with
 |cons r L=>
  cases L;obtain⟨t,rfl⟩:=r;exact call_range_1 (Zfh N (by lia) (by lia) C Q (by grind))
abbrev Zfi(J:It)(g:TG)(tb:TS)(D:Ends)(σ:St)(H:Hp):Prop:=∃W:Nat->Nat->St->Hp->Prop,(∃m,W 0 m σ H)/\∀i m σ H,W i m σ H->
 (J.stop i H/\D.nx σ H)\/(J.go i H/\∃N:A7,(∀r H',N r H'->∃G,G<m/\W (i+1) G r H')/\∀x H',J.yld i H x H'->g x σ H' λC H2=>tb {D with nx:=N,ct:=N,bk:=D.nx} C H2)
def tFor(wi:TI)(g:TG)(tb:TS):TS:=λD σ H=>wi σ H λJ H1=>Zfi J g tb D σ H1
def qk{J:It}{g:TG}{tb:TS}{D:Ends}{σ:St}{H:Hp}(n:Nat)(C:Nat->St->Hp->Prop)(N:C 0 σ H)
  (I:∀i σ H,i<n->C i σ H->J.go i H/\∀x H',J.yld i H x H'->g x σ H' λG H2=>tb {D with nx:=C (i+1),ct:=C (i+1),bk:=D.nx} G H2)
  (O:∀σ H,C n σ H->J.stop n H/\D.nx σ H):Zfi J g tb D σ H:=by
 refine⟨λi m σ H=>m=n-i/\i<=n/\C i σ H,⟨n,by simp,Qbe _,N⟩,?_⟩;rintro i m σ H ⟨rfl,hi,p⟩
 by_cases r:i<n
 .exact .inr ⟨(I i σ H r p).1,_,λM H' L=>⟨_,by lia,U,r,L⟩,(I i σ H r p).2⟩
 .grind
def gm(fp:List Aw)(h:Heap):Ac:=fp.filterMap λb=>(h.get? b).map λo=>(b,o)
def Ju{b:Aw}{o:Obj}(r:b∈D)(e:h.get? b=some o):(b,o)∈gm D h:=Qgl.mpr ⟨b,r,by rw[e];rfl⟩
def Zbj{p:Aw×Obj}(r:p∈gm D h):p.1∈D/\h.get? p.1=some p.2:=by
 obtain⟨b,G,e⟩:=Qgl.mp r;cases q:h.get? b with
 |none=>rw[q]at e;cases e
 |some o=>
  rw[q]at e;have C:=Option.some.inj e;subst C;exact⟨G,q⟩
theorem Inv.pinned{σ:St}{H:Hp}(I:Inv X m σ H s)(G:∀b∈D,yJ X m H b)(M:∀b∈D,∃o,s.heap.get? b=some o/\∀v,o.data≠.cell v):Inv X (m++gm D s.heap) σ H s:=
 I.pins_of λp L=>(Qbl.mp L).elim (λz=>I.pin p (Qa8 _ z)) λz=>by
  obtain⟨C,e⟩:=Zbj z;obtain⟨N,Q,O,_⟩:=G p.1 C;obtain⟨o,r,d⟩:=M p.1 C;rw[e]at r;cases r;exact⟨e,N,Q,O,d⟩
def Inv.unpinned{pl:Ac}{σ:St}{H:Hp}(I:Inv X (m++pl) σ H s):Inv X m σ H s:=I.pins_of λp r=>I.pin p (Qa8 _ (Qb7 _ r))
def ps_for{iter:Ax}{body:List Ay}{wi:TI}{g:TG}{tb:TS}(hp:PassesOwn (model X.prog X.w) X.A X.env X.xe)(hc:X.calm=true)(hi:PI X tg iter wi)(hg:PG X tg g)(S:PSs X body tb)
  (hs:∀x,foldedSetIterable iter X.env x=pure x:=by intro _;rfl):PS X (.For tg iter body [] p) (tFor wi g tb):=by
 intro pins s σ H D I h;refine wpAny_For (thn (hi pins s σ H _ I h) λv s1 h1=>thn h1 λitv s2 h2=>?_) hs;obtain⟨it,fp,tn,J,H2,e,I2,T,st2,f2,W,⟨m0,w0⟩,turn⟩:=h2;subst e;have O:∀{H':Hp},(∀b∈fp,H' b=none)->∀b∈fp,yJ X pins H' b:=λhn b S=>⟨hn b S,(f2 b S).2⟩;refine codeAny_forLoop_any (λn s'=>∃i Q H',Inv X pins Q H' s'/\tn i s'.heap/\(∀b∈fp,H' b=none)/\W i n Q H') ?_ m0 ⟨0,σ,H2,I2,st2,λb S=>(f2 b S).1,w0⟩;rintro n s3 ⟨i,M,H3,I3,Z,fr3,w3⟩;rcases turn i n M H3 w3 with⟨stop,qn⟩|⟨go,N,hN,step⟩
 .refine Qdy hp (thn (T.done X U U U hc i pins s3 M H3 X.xe I3 (O fr3) Z stop) λr s4 ⟨hr,I4⟩=>?_);subst hr;exact Qge ⟨M,H3,I4,qn⟩
 .refine Qdy hp (thn (T.item X U U U hc i pins s3 M H3 X.xe I3 (O fr3) Z go) λr s4 ⟨u,hr,h4⟩=>?_);subst hr;refine Qdy hp (thn h4 λ_ s5 ⟨x,H5,I5,r5,y5,Y,fr5⟩=>?_);have I5':=I5.pinned (O fr5) (T.obj _ _ Y);refine Qdy hp (thn (hg _ s5 M H5 x u _ I5' r5 (step x H5 y5)) λ_ s6 ⟨σ6,H6,I6,q6⟩=>?_);refine Qdy hp (thn (S _ s6 σ6 H6 _ I6 q6) λf s7 Ua=>?_);have again:∀{C:St} {L:Hp},Inv X _ C L s7->N C L->∃m,m<n/\∃i Q H',Inv X pins Q H' s7/\tn i s7.heap/\(∀b∈fp,H' b=none)/\W i m Q H':=λ{C L} G n7=>by
   obtain⟨m',hm,w7⟩:=hN C L n7;refine⟨m',hm,i+1,C,L,G.unpinned,T.keep _ _ _ Y λb S o e=>(G.pin (b,o) (Qa8 _ (Qa8 _ (Ju S e)))).1,λb S=>?_,w7⟩;obtain⟨o,e,d⟩:=T.obj _ _ Y b S;exact(G.pin (b,o) (Qa8 _ (Qa8 _ (Ju S e)))).2.1
  cases f with
  |next=>obtain⟨C,L,G,n7⟩:=Ua;exact again G n7
  |cont=>obtain⟨C,L,G,n7⟩:=Ua;exact again G n7
  |brk=>obtain⟨C,L,G,Ua⟩:=Ua;exact⟨C,L,G.unpinned,Ua⟩
  |ret v=>obtain⟨x7,C,L,G,r7,Ua⟩:=Ua;exact⟨x7,C,L,G.unpinned,r7,Ua⟩
end
theorem qT{xs:A8}{g:TG}{tb:TS}{D:Ends}{σ:St}{H:Hp}(r:Nat->St->Hp->Prop)(M:r 0 σ H)(G:∀i σ H,i<=xs.length->r i σ H->SqL K H a xs)
  (I:∀i x σ H,xs[i]?=some x->r i σ H->g x σ H λC H2=>tb {D with nx:=r (i+1),ct:=r (i+1),bk:=D.nx} C H2) (L:∀σ H,r xs.length σ H->D.nx σ H):
  Zfi (Itl K a) g tb D σ H:=
 qk _ r M (λi σ H hi p=>⟨⟨xs,xs[i],G i σ H (Qa0 hi) p,Qac hi⟩,λx H' ⟨e,y⟩=>e ▸ I i x σ H (y xs (G i σ H (Qa0 hi) p)) p⟩) λσ H p=>⟨⟨xs,G _ σ H (Qah _) p,Qah _⟩,L σ H p⟩
theorem Zbk{xs:A8}{g:TG}{tb:TS}{D:Ends}{σ:St}{H:Hp}(r:Nat->St->Hp->Prop)(M:r 0 σ H)(G:∀i σ H,i<=xs.length->r i σ H->SqT K H a xs)
  (I:∀i x σ H,xs[i]?=some x->r i σ H->g x σ H λC H2=>tb {D with nx:=r (i+1),ct:=r (i+1),bk:=D.nx} C H2) (L:∀σ H,r xs.length σ H->D.nx σ H):
  Zfi (Itt K a) g tb D σ H:=
 qk _ r M (λi σ H hi p=>⟨⟨xs,xs[i],G i σ H (Qa0 hi) p,Qac hi⟩,λx H' ⟨e,y⟩=>e ▸ I i x σ H (y xs (G i σ H (Qa0 hi) p)) p⟩) λσ H p=>⟨⟨xs,G _ σ H (Qah _) p,Qah _⟩,L σ H p⟩
theorem Xs{lo:Int}{g:TG}{tb:TS}{D:Ends}{σ:St}{H:Hp}(r:Nat->St->Hp->Prop)(I:r 0 σ H)
  (L:∀i σ H,i<n->r i σ H->g (.int (lo+i)) σ H λC H2=>tb {D with nx:=r (i+1),ct:=r (i+1),bk:=D.nx} C H2) (G:∀σ H,r n σ H->D.nx σ H):
  Zfi (Itr lo n) g tb D σ H:=
 qk n r I (λi σ H hi p=>⟨hi,λx H' ⟨e,y⟩=>by grind⟩) λσ H p=>⟨Qah _,G σ H p⟩
abbrev R2:=V->V->Hp->VK->Prop
def OpR(X:Cx)(f:Av->Value->Sem Av)(r:R2):Prop:=
 ∀(pins:Ac)(s:As)(σ:St)(H:Hp)(x y:V)(v u:Av)(Q:VK),Inv X pins σ H s->RelV x v->RelV y u->r x y H Q->
  Ba X (f v u) (EP X pins σ Q) X.xe s
def UnR(X:Cx)(f:Av->Sem Av)(r:V->Hp->VK->Prop):Prop:=
 ∀(pins:Ac)(s:As)(σ:St)(H:Hp)(x:V)(v:Av)(Q:VK),Inv X pins σ H s->RelV x v->r x H Q->
  Ba X (f v) (EP X pins σ Q) X.xe s
def Xf(X:Cx)(f:Av)(r:A8->Hp->VK->Prop):Prop:=
 ∀(pins:Ac)(s:As)(σ:St)(H:Hp)(xs:A8)(C:Ag)(Q:VK),Inv X pins σ H s->Vals xs C->r xs H Q->
  Ba X (call f C) (EP X pins σ Q) X.xe s
def tOp(r:R2)(ta tb:TE):TE:=λσ H Q=>ta σ H λx H1=>tb σ H1 λy H2=>r x y H2 Q
def tUn(r:V->Hp->VK->Prop)(ta:TE):TE:=λσ H Q=>ta σ H λx H1=>r x H1 Q
inductive rI_i(C:Int->Int->Prop)(g:Int->Int->V)(x:V)(y:V)(H:Hp)(Q:VK):Prop
 |mk (i j:_):(x=.int i)->(y=.int j)->(C i j)->(Q (g i j) H)->rI_i C g x y H Q
def rI(C:Int->Int->Prop)(g:Int->Int->V):R2:=λx y H Q=>rI_i C g x y H Q
inductive Zl0(g:Int->Int->V)(x:V)(y:V)(H:Hp)(Q:VK):Prop
 |mk (i j:_):(x=.int i)->(y=.int j)->(Q (g i j) H)->Zl0 g x y H Q
def rI0(g:Int->Int->V):R2:=λx y H Q=>Zl0 g x y H Q
inductive rU_i(g:Int->V)(x:V)(H:Hp)(Q:VK):Prop
 |mk (i:_):(x=.int i)->(Q (g i) H)->rU_i g x H Q
def rU(g:Int->V):V->Hp->VK->Prop:=λx H Q=>rU_i g x H Q
section
variable {X:Cx}{a b c:Ax}{ta tb tc:TE}{pos:Pos}
def binT(S:PE X a ta)(M:PE X b tb){σ:St}{H:Hp}{R:V->V->Hp->Prop}(I:Inv X m σ H s)
  (h:ta σ H λx H1=>tb σ H1 λy H2=>R x y H2)  {f:Av->Value->Sem Av}
  (Y:∀v u C x y H2,Inv X m σ H2 C->RelV x v->RelV y u->R x y H2->Ba X (f v u) Q X.xe C):
  Ba X (eval a X.env) (λv r=>Ba X (eval b X.env) (λu s₂=>Ba X (f v u) Q X.xe s₂) X.xe r) X.xe s:=by
 refine thn (S m s σ H _ I h) λv Ua ⟨x,H1,O,D,N⟩=>(thn (M m Ua σ H1 _ O N) λu C ⟨y,H2,G,L,Z⟩=>(Y v u C x y H2 G D L Z))
def opI{f:Av->Value->Sem Av}{C:Int->Int->Prop}{g:Int->Int->Int}
  (rule:∀(i j:Int)(t u:Tok)(s:As)(Q:Ab)(E:Ab),C i j->Q (.int (g i j) s.toks) {s with toks:=s.toks+1}->Ba X (f (.int i t) (.int j u)) Q E s):
  OpR X f (rI C λi j=>.int (g i j)):=by
 intro pins s σ H x y v u Q I G r h;obtain⟨i,j,rfl,rfl,D,q⟩:=h;obtain⟨t,rfl⟩:=G;obtain⟨t',rfl⟩:=r;exact rule i j t t' s _ _ D ⟨.int _,H,I.tok _,⟨_,U⟩,q⟩
def Zl1{f:Av->Value->Sem Av}{g:Int->Int->Int}
  (rule:∀(i j:Int)(t u:Tok)(s:As)(Q:Ab)(E:Ab),Q (.int (g i j) s.toks) {s with toks:=s.toks+1}->Ba X (f (.int i t) (.int j u)) Q E s):
  OpR X f (rI0 λi j=>.int (g i j)):=by
 intro pins s σ H x y v u Q I C r h;obtain⟨i,j,rfl,rfl,q⟩:=h;obtain⟨t,rfl⟩:=C;obtain⟨t',rfl⟩:=r;exact rule i j t t' s _ _ ⟨.int _,H,I.tok _,⟨_,U⟩,q⟩
def Zm6{f:Av->Value->Sem Av}{g:Int->Int->Bool}
  (rule:∀(i j:Int)(t u:Tok)(s:As)(Q:Ab)(E:Ab),Q (.bool (g i j)) s->Ba X (f (.int i t) (.int j u)) Q E s):
  OpR X f (rI0 λi j=>.bl (g i j)):=by
 intro pins s σ H x y v u Q I C r h;obtain⟨i,j,rfl,rfl,q⟩:=h;obtain⟨t,rfl⟩:=C;obtain⟨t',rfl⟩:=r;exact rule i j t t' s _ _ ⟨.bl _,H,I,U,q⟩
def CPow(i j:Int):Prop:=0<=j/\j<=1000000/\i.natAbs<2^64
def CMul(i j:Int):Prop:=(-(2^64)<i/\i<2^64)\/(-(2^64)<j/\j<2^64)
def CMul.ok{i j:Int}(h:CMul i j):IntMulOk i j:=by
 rcases h with⟨h1,h2⟩|⟨h1,h2⟩
 .exact .of_left (intBits_le_64 h1 h2)
 .exact .of_right (intBits_le_64 h1 h2)
def Yj:OpR X (binaryOp .Add) (rI0 λi j=>.int (i+j)):=Zl1 λ_ _ _ _ _ _ _ q=>add_int q
def Xt:OpR X (binaryOp .Sub) (rI0 λi j=>.int (i-j)):=Zl1 λ_ _ _ _ _ _ _ q=>sub_int q
def ZO:OpR X (binaryOp .Mod) (rI (λ_ j=>0<j) λi j=>.int (i%j)):=opI λi j _ _ _ _ _ r q=>mod_int' (by lia) (by grind)
def op_pow:OpR X (binaryOp .Pow) (rI CPow λi j=>.int (i^j.toNat)):=opI λ_ _ _ _ _ _ _ r q=>pow_int_small r.1 r.2.1 r.2.2 q
theorem gn:OpR X (binaryOp .RShift) (rI (λ_ j=>0<=j) λi j=>.int (i/2^j.toNat)):=opI λi j _ _ _ _ _ r q=>
 rshift_int r (by grind)
def Wt:OpR X (binaryOp .BitAnd) (rI0 λi j=>.int (Builtin.bitAnd i j)):=Zl1 λ_ _ _ _ _ _ _ q=>and_int q
def yK:OpR X (binaryOp .BitOr) (rI0 λi j=>.int (Builtin.bitOr i j)):=Zl1 λ_ _ _ _ _ _ _ q=>or_int q
def jg:OpR X (binaryOp .BitXor) (rI0 λi j=>.int (Builtin.bitXor i j)):=Zl1 λ_ _ _ _ _ _ _ q=>xor_int q
def unI{f:Av->Sem Av}{g:Int->Int}
  (rule:∀(i:Int)(t:Tok)(s:As)(Q:Ab)(E:Ab),Q (.int (g i) s.toks) {s with toks:=s.toks+1}->Ba X (f (.int i t)) Q E s):
  UnR X f (rU λi=>.int (g i)):=by
 intro pins s σ H x v Q I r h;obtain⟨i,rfl,q⟩:=h;obtain⟨t,rfl⟩:=r;exact rule i t s _ _ ⟨.int (g i),H,I.tok _,⟨_,U⟩,q⟩
def xn:UnR X (unaryOp .USub) (rU λi=>.int (-i)):=unI λ_ _ _ _ _ q=>neg_int q
def xo:UnR X (unaryOp .Invert) (rU λi=>.int (Builtin.bitNot i)):=unI λ_ _ _ _ _ q=>invert_int q
end
def scal:V->V->Bool
 |.non,.non=>true|.non,.int _=>true|.int _,.non=>true|.non,.bl _=>true|.bl _,.non=>true|.non,.str _=>true|.str _,.non=>true
 |.int _,.int _=>true|.bl _,.bl _=>true|.str _,.str _=>true|.byt _,.byt _=>true
 |.int _,.str _=>true|.str _,.int _=>true|.bl _,.str _=>true|.str _,.bl _=>true
 |_,_=>false
inductive Zl2(x:V)(y:V)(H:Hp)(Q:VK):Prop
 |mk  : (scal x y=true)->(Q (.bl (decide (x=y))) H)->Zl2 x y H Q
def rEq  : R2:=λx y H Q=>Zl2 x y H Q
inductive Zl3(x:V)(y:V)(H:Hp)(Q:VK):Prop
 |mk  : (scal x y=true)->(Q (.bl (!decide (x=y))) H)->Zl3 x y H Q
def rNe  : R2:=λx y H Q=>Zl3 x y H Q
def Zbl{i j:Int}:decide (V.int i=V.int j)=(i == j):=by grind
def Zhp{i:Bool}:decide (V.bl i=V.bl j)=(i == j):=by grind
def Zbm{i j:Str}:decide (V.str i=V.str j)=(i == j):=by grind
def Zbn{i j:Array UInt8}:decide (V.byt i=V.byt j)=(i.toList == j.toList):=by
 rw[Qfc];cases i;cases j;simp
section
variable {X:Cx}{a b c:Ax}{ta tb tc:TE}{pos:Pos}
def ZR{σ:St}{H:Hp}{Q:VK}{k:Bool}(I:Inv X m σ H s)(q:Q (.bl k) H)(e:k=j):EP X m σ Q (.bool j) s:=by
 subst e;exact⟨.bl k,H,I,U,q⟩
def Ym:OpR X (compareOp .Eq) rEq:=by
 intro pins s σ H x y v u Q I D r h;obtain⟨C,q⟩:=h;cases x with
 |non=>
  cases D;cases y with
  |non=>cases r;exact PySem.EqNone.eq_none_none (ZR I q (by simp))
  |bl j=>cases r;exact PySem.EqNone.eq_none_bool (ZR I q (by simp))
  |int j=>obtain⟨t',rfl⟩:=r;exact PySem.EqNone.eq_none_int (ZR I q (by simp))
  |str j=>obtain⟨t',rfl⟩:=r;exact PySem.EqNone.eq_none_str (ZR I q (by simp))
  |_=>exact absurd (show false=true from C) Qba
 |bl i=>
  cases D;cases y with
  |non=>cases r;exact PySem.EqNone.eq_bool_none (ZR I q (by simp))
  |bl j=>cases r;exact eq_bool (ZR I q Zhp)
  |str j=>obtain⟨t',rfl⟩:=r;exact PySem.EqMixed.eq_bool_str (ZR I q (by simp))
  |_=>exact absurd (show false=true from C) Qba
 |int i=>
  obtain⟨t,rfl⟩:=D;cases y with
  |non=>cases r;exact PySem.EqNone.eq_int_none (ZR I q (by simp))
  |int j=>obtain⟨t',rfl⟩:=r;exact eq_int (ZR I q Zbl)
  |str j=>obtain⟨t',rfl⟩:=r;exact PySem.EqMixed.eq_int_str (ZR I q (by simp))
  |_=>exact absurd (show false=true from C) Qba
 |str i=>
  obtain⟨t,rfl⟩:=D;cases y with
  |non=>cases r;exact PySem.EqNone.eq_str_none (ZR I q (by simp))
  |bl j=>cases r;exact PySem.EqMixed.eq_str_bool (ZR I q (by simp))
  |int j=>obtain⟨t',rfl⟩:=r;exact PySem.EqMixed.eq_str_int (ZR I q (by simp))
  |str j=>obtain⟨t',rfl⟩:=r;exact eq_str (ZR I q Zbm)
  |_=>exact absurd (show false=true from C) Qba
 |byt i=>
  obtain⟨t,rfl⟩:=D;cases y with
  |byt j=>obtain⟨t',rfl⟩:=r;exact PySem.W.eq_bytes (ZR I q Zbn)
  |_=>exact absurd (show false=true from C) Qba
 |_=>cases y<;>exact absurd (C) Qba
def Zfj:OpR X (compareOp .NotEq) rNe:=by
 intro pins s σ H x y v u Q I D r h;obtain⟨C,q⟩:=h;cases x with
 |non=>
  cases D;cases y with
  |non=>cases r;exact PySem.EqNone.ne_none_none (ZR I q (by simp))
  |bl j=>cases r;exact PySem.EqNone.ne_none_bool (ZR I q (by simp))
  |int j=>obtain⟨t',rfl⟩:=r;exact PySem.EqNone.ne_none_int (ZR I q (by simp))
  |str j=>obtain⟨t',rfl⟩:=r;exact PySem.EqNone.ne_none_str (ZR I q (by simp))
  |_=>exact absurd (show false=true from C) Qba
 |bl i=>
  cases D;cases y with
  |non=>cases r;exact PySem.EqNone.ne_bool_none (ZR I q (by simp))
  |bl j=>cases r;exact ne_bool (ZR I q (congrArg not Zhp))
  |str j=>obtain⟨t',rfl⟩:=r;exact PySem.EqMixed.ne_bool_str (ZR I q (by simp))
  |_=>exact absurd (show false=true from C) Qba
 |int i=>
  obtain⟨t,rfl⟩:=D;cases y with
  |non=>cases r;exact PySem.EqNone.ne_int_none (ZR I q (by simp))
  |int j=>obtain⟨t',rfl⟩:=r;exact ne_int (ZR I q (congrArg not Zbl))
  |str j=>obtain⟨t',rfl⟩:=r;exact PySem.EqMixed.ne_int_str (ZR I q (by simp))
  |_=>exact absurd (show false=true from C) Qba
 |str i=>
  obtain⟨t,rfl⟩:=D;cases y with
  |non=>cases r;exact PySem.EqNone.ne_str_none (ZR I q (by simp))
  |bl j=>cases r;exact PySem.EqMixed.ne_str_bool (ZR I q (by simp))
  |int j=>obtain⟨t',rfl⟩:=r;exact PySem.EqMixed.ne_str_int (ZR I q (by simp))
  |str j=>obtain⟨t',rfl⟩:=r;exact ne_str (ZR I q (congrArg not Zbm))
  |_=>exact absurd (show false=true from C) Qba
 |byt i=>
  obtain⟨t,rfl⟩:=D;cases y with
  |byt j=>obtain⟨t',rfl⟩:=r;exact PySem.W.ne_bytes (ZR I q (congrArg not Zbn))
  |_=>exact absurd (show false=true from C) Qba
 |_=>cases y<;>exact absurd (show false=true from C) Qba
def Zbo:OpR X (compareOp .Lt) (rI0 λi j=>.bl (decide (i<j))):=Zm6 λ_ _ _ _ _ _ _ q=>lt_int q
def Zl4:OpR X (compareOp .LtE) (rI0 λi j=>.bl (decide (i<=j))):=Zm6 λ_ _ _ _ _ _ _ q=>le_int q
def uK:OpR X (compareOp .Gt) (rI0 λi j=>.bl (decide (j<i))):=Zm6 λ_ _ _ _ _ _ _ q=>gt_int q
def op_ge:OpR X (compareOp .GtE) (rI0 λi j=>.bl (decide (j<=i))):=Zm6 λ_ _ _ _ _ _ _ q=>ge_int q
def Zbp:OpR X (compareOp .In) (λx y H Q=>∃i j,x=.str i/\y=.str j/\Q (.bl (!(Builtin.Str.occurrences j i 0 j.length 1).isEmpty)) H):=by
 intro pins s σ H x y v u Q I C r h;obtain⟨i,j,rfl,rfl,q⟩:=h;obtain⟨t,rfl⟩:=C;obtain⟨t',rfl⟩:=r;exact in_str (ZR I q U)
def OpR.or{f:Av->Value->Sem Av}{r D:R2}(h:OpR X f r)(h':OpR X f D):OpR X f (λx y H Q=>r x y H Q\/D x y H Q):=by
 intro pins s σ H x y v u Q I G C q;rcases q with q|q
 .exact h pins s σ H x y v u Q I G C q
 .exact h' pins s σ H x y v u Q I G C q
def Zz(b:Ax){r:CmpOp}(h:r≠.In:=by decide)(h2:r≠.NotIn:=by decide):behindInMarks r b=false:=by
 have e1:(r == CmpOp.In)=false:=by grind
 have e2:(r == CmpOp.NotIn)=false:=by grind
 cases b<;>simp[behindInMarks,e1,e2]
inductive Zbq(Q:Bool->Hp->Prop)(x:V)(H':Hp):Prop
 |mk (k:_):(x=.bl k)->(Q k H')->Zbq Q x H'
def tTest(t:TE):TT:=λσ H Q=>t σ H λx H'=>Zbq Q x H'
def ql:(sizeLine:Nat)<2^63:=by decide
def uL:OpR X (binaryOp .Add) (λx y H Q=>∃i j,x=.str i/\y=.str j/\i.length+j.length<=sizeLine/\Q (.str (i++j)) H):=by
 intro pins s σ H x y v u Q I D r h;obtain⟨i,j,rfl,rfl,C,q⟩:=h;obtain⟨t,rfl⟩:=D;obtain⟨t',rfl⟩:=r;exact add_str (λt' tk=>⟨.str _,H,I.tok _,⟨_,U⟩,q⟩) C
def vals1{x:V}(r:Vals [x] Ua):∃u,Ua=[u]/\RelV x u:=by
 cases r with
 |cons D C=>cases C;exact⟨_,U,D⟩
def vals2{x y:V}(r:Vals [x,y] Ua):∃u C,Ua=[u,C]/\RelV x u/\RelV y C:=by
 cases r with
 |cons D I=>
  cases I with
  |cons L G=>cases G;exact⟨_,_,U,D,L⟩
def xp (D:X.calm=true):Xf X (.builtin "max") (λxs H Q=>∃i j,xs=[.int i,.int j]/\Q (.int (if j>i then j else i)) H):=by
 intro pins s σ H xs G Q I r h;obtain⟨i,j,rfl,q⟩:=h;obtain⟨u,L,rfl,⟨t,rfl⟩,⟨t',rfl⟩⟩:=vals2 r;refine max_two_ints (I.ok.hd D) λh' tk k=>⟨_,H,I.kept k,?_,q⟩
 by_cases C:j>i
 .rw[Qa5 C,Qa5 C];exact⟨_,U⟩
 .rw[Qaw C,Qaw C];exact⟨_,U⟩
def xq (D:X.calm=true):Xf X (.builtin "min") (λxs H Q=>∃i j,xs=[.int i,.int j]/\Q (.int (if j<i then j else i)) H):=by
 intro pins s σ H xs G Q I r h;obtain⟨i,j,rfl,q⟩:=h;obtain⟨u,L,rfl,⟨t,rfl⟩,⟨t',rfl⟩⟩:=vals2 r;refine min_two_ints (I.ok.hd D) λh' tk k=>⟨_,H,I.kept k,?_,q⟩
 by_cases C:j<i
 .rw[Qa5 C,Qa5 C];exact⟨_,U⟩
 .rw[Qaw C,Qaw C];exact⟨_,U⟩
def Xu:Xf X (.type "int") (λxs H Q=>(∃i,xs=[.int i]/\Q (.int i) H)\/∃k,xs=[.bl k]/\Q (.int (if k then 1 else 0)) H):=by
 intro pins s σ H xs D Q I r h;rcases h with⟨i,rfl,q⟩|⟨k,rfl,q⟩
 .obtain⟨u,rfl,t,rfl⟩:=vals1 r;exact call_int_int ⟨.int i,H,I,⟨_,U⟩,q⟩
 .obtain⟨u,rfl,C⟩:=vals1 r;cases C;exact call_int_bool ⟨.int _,H,I.tok _,⟨_,U⟩,q⟩
end
structure ObjM(h:Heap)(x dx C:Aw)(mA:Ae):Prop where
 obj:h.get? x=some (PySem.W.instObj C dx)
 ns:h.Ns1 dx mA
 ne:dx≠x
theorem Zbr{mA:Ae}(n:h.Ns1 f mA):∃od,h.get? f=some od/\∀name,PySem.W.lookIn name od=some (mA name):=by
 obtain⟨o,es,ep,G,C,I,_,L⟩:=n;refine⟨o,G,λname=>?_⟩;have e:=L name;unfold nsFind findBy at e;rw[<-Array.find?_toList]at e;unfold PySem.W.lookIn;rw[C];dsimp only;split
 .grind
 .rename_i q;rw[q]at e;have a:es.toList.any (·.refKey)=false:=by
   rw[List.any_eq_false];intro y D;obtain⟨z,t,r⟩:=I y (Array.mem_toList_iff.mp D);simp[DictEntry.refKey,r]
  rw[Qaw (by grind)];exact congrArg some e
theorem ObjM.look{x:Aw}{mA:Ae}(I:ObjM h x a f mA):∃od,PySem.W.InstAt h x (PySem.W.instObj f a) f (some od)/\∀name,PySem.W.lookIn name od=some (mA name):=
 let⟨od,ho,hl⟩:=Zbr I.ns
 ⟨od,⟨I.obj,U,U,ho⟩,hl⟩
def jL.some_of{v:V}{o:Option Av}(r:jL (some v) o):∃u,o=some u/\RelV v u:=by
 cases o with
 |none=>exact(r).elim
 |some u=>exact⟨u,U,r⟩
def jL.none_of{o:Option Av}(r:jL none o):o=none:=by
 cases o with
 |none=>rfl
 |some u=>exact(r).elim
section
variable {P:Aq}{w:Au}{H H':Hp}{h h':Heap}{a C dx:Aw}{fs fs':List (Str×V)}
def Zja(D:HOk P w H h)(e:H a=some (.ins C dx fs)):∃mA,ObjM h a dx C mA/\(∀f,jL (fs.lookup f) (mA f))/\PySem.Within mA (fs.map (·.1))/\fs.length<=1000/\H dx=some (.own a):=by
 obtain⟨d,z,ne,ob,mA,n,r,q⟩:=(D a _ e);exact⟨mA,⟨ob,n,ne⟩,r,q,z,d⟩
end
structure Cls(K:Af)(C:Aw):Prop where
 pg:PySem.W.plainGet K C Str.empty=true
 hd:PySem.W.hasDictIn K C=true
 po:PySem.W.plainOver K C=true
 sa:PySem.W.findIn K (.ref C) "__setattr__" = some (some (.builtin "object.__setattr__"))
def Cls.get(c:Cls K a)(f:Str):PySem.W.plainGet K a f=true:=c.pg
section
variable {X:Cx}{pins:Ac}{σ:St}{H:Hp}{s:As}{A:Ar}{E:Ab}{Q:Ab}{c:Av}{b:Bool}
inductive uM(K:Af)(H:Hp):V->Value->Prop where
 |non:uM K H .non (.type "NoneType")
 |bl (x:Bool):uM K H (.bl x) (.type "bool")
 |int (i:Int):uM K H (.int i) (.type "int")
 |str (x:Str):uM K H (.str x) (.type "str")
 |flt (x:UInt64):uM K H (.flt x) (.type "float")
 |lst {a:Aw} {xs:A8} (e:H a=some (.lst xs)):uM K H (.ref a) (.type "list")
 |frz {a:Aw} {o:Obj} {xs:A8} (e:H a=some (.frz o (.lst xs))):uM K H (.ref a) (.type "list")
 |tup {a:Aw} {xs:A8} (e:H a=some (.tup xs)):uM K H (.ref a) (.type "tuple")
 |dK {a:Aw} {kvs:A0} (e:H a=some (.dK kvs)):uM K H (.ref a) (.type "dict")
 |dT {a:Aw} {kvs:List (List Key×V)} (e:H a=some (.dT kvs)):uM K H (.ref a) (.type "dict")
 |ins {a C dx:Aw} {fs:List (Str×V)} (e:H a=some (.ins C dx fs)) (cl:Cls K C) (ha:PySem.W.findIn K (.ref C) "__class__" = some (some (.builtin "object.__class__")))
   (hn:PySem.W.specialIn K (.builtin "object.__class__") "__get__" = some (some (.builtin "getset_descriptor.__get__"))) (htk:PySem.W.takesIn K (.builtin "object.__class__")=some true)
   (hm:PySem.W.mroIn K C (.type "object")=some true):uM K H (.ref a) (.ref C)
def Zbs{x:V}{t:Av}(I:Inv X pins σ H s)(D:RelV x u)(ty:uM X.K H x t)(e:PySem.W.kitOne X.K t c=some b)(h:∀tk,Q (.bool b) {s with toks:=tk}):
  A9 X.prog X.w A (call (.builtin "isinstance") [u,c]) Q E s:=by
 cases ty with
 |non=>cases(D);exact Qcy PySem.W.kitx_none I.kIn True.intro e (λz=>nomatch z) h
 |bl y=>cases(D);exact Qcy PySem.W.kitx_bool I.kIn True.intro e (λz=>nomatch z) h
 |int i=>obtain⟨t,q⟩:=(D);cases q;exact Qcy PySem.W.kitx_int I.kIn True.intro e (λz=>nomatch z) h
 |str y=>obtain⟨t,q⟩:=(D);cases q;exact Qcy PySem.W.kitx_str I.kIn True.intro e (λz=>nomatch z) h
 |flt y=>obtain⟨t,q⟩:=(D);cases q;exact Qcy PySem.W.kitx_float I.kIn True.intro e (λz=>nomatch z) h
 | @lst a xs r=>
  cases(D);obtain⟨_,_,n,_,h1⟩:=(I.hok a _ r);exact Qcy PySem.W.kitx_list I.kIn ⟨_,h1,U⟩ e (λz=>nomatch z) h
 | @frz a ob xs r=>
  cases(D);obtain⟨_,_,_,n,_,h1⟩:=(I.hok a _ r);exact Qcy PySem.W.kitx_list I.kIn ⟨_,h1,U⟩ e (λz=>nomatch z) h
 | @tup a xs r=>
  cases(D);obtain⟨_,_,_,p⟩:=(I.hok a _ r);obtain⟨o,h1,h2,_⟩:=p;exact Qcy PySem.W.kitx_tuple I.kIn ⟨o,h1,h2⟩ e (λz=>nomatch z) h
 | @dK a kvs r=>
  cases(D);obtain⟨_,_,vs,_,p⟩:=(I.hok a _ r);obtain⟨o,es,ep,h1,h2,_⟩:=p;exact Qcy PySem.W.kitx_dict I.kIn ⟨o,h1,h2.1⟩ e (λz=>nomatch z) h
 | @dT a kvs r=>
  cases(D);obtain⟨_,_,xs,_,o,es,ep,h1,h2,_⟩:=(I.hok a _ r);exact Qcy PySem.W.kitx_dict I.kIn ⟨o,h1,h2.1⟩ e (λz=>nomatch z) h
 | @ins a C dx fs r cl N L G M=>
  cases(D);obtain⟨mA,O,_⟩:=Zja I.hok r;obtain⟨od,J,_⟩:=O.look;exact Qcy (PySem.W.kitx_own (cl.get _) cl.hd N L G M) I.kIn J e (λz=>nomatch z) h
end
structure WL(k:Nat)(A:Ar):Prop where
 hd:A.handled=none
 dp:A.depth+3*k+5<recursionLimit
 un:A.units+16*k+200<cLine
def WL.mono{j k:Nat}{A:Ar}(r:WL k A)(h:j<=k):WL j A:=⟨r.hd,by have:=r.dp;lia,by have:=r.un;lia⟩
theorem WL.deeper{k:Nat}{A:Ar}(r:WL (k+1) A)(env:Env):WL k (A.deeper env):=
 ⟨r.hd,by have:=r.dp;show A.depth+1+3*k+5<_;lia,by have:=r.un;show A.units+3+16*k+200<_;lia⟩
def WL.depth{k:Nat}{A:Ar}(r:WL k A):A.depth<recursionLimit:=by have:=r.dp;lia
def WL.units{k:Nat}{A:Ar}(r:WL k A):A.units+64<cLine:=by have:=r.un;lia
def WL.units0{k:Nat}{A:Ar}(r:WL k A):A.units<cLine:=by have:=r.un;lia
def tNil:TA:=λ_ H Q=>Q [] H
def Zbt(ta:TE)(r:TA):TA:=λσ H Q=>ta σ H λx H1=>r σ H1 λxs H2=>Q (x::xs) H2
section
variable {X:Cx}{e:Ax}{es:An}{te:TE}{t:TA}{pos:Pos}
inductive Zhq(Q:VK)(xs:A8)(H1:Hp):Prop
 |mk  : (xs.length<=sizeLine)->(∀p,H1 p=none->Q (.ref p) (upd H1 p (.tup xs)))->Zhq Q xs H1
def tTup(t:TA):TE:=λσ H Q=>t σ H λxs H1=>Zhq Q xs H1
inductive Zhr(Q:VK)(xs:A8)(H1:Hp):Prop
 |mk  : (xs.length<=sizeLine)->(∀p,H1 p=none->Q (.ref p) (upd H1 p (.lst xs)))->Zhr Q xs H1
def tLst(t:TA):TE:=λσ H Q=>t σ H λxs H1=>Zhr Q xs H1
end
abbrev Sp:=A8->Hp->VK->XK->Prop
abbrev CXT:=List Env->Hp->Shared->XK->Value->Shared->Prop
structure Zjb(P:Aq)(w:Au)(K:Af)(mg:Ae)(base:Heap)(A:Ar)(outer:List Env)(s:As)(H:Hp):Prop where
 frames:A.frames=some outer
 mod:Mod K mg base
 bs:∀b o,base.get? b=some o->s.heap.get? b=some o/\H b=none
 bsz:base.objs.size<=s.heap.objs.size
 funs:s.heap.FunFrames base outer
 frf:∀b∈frs outer,H b=none
 hok:HOk P w H s.heap
 bare:AllBare s.gens
def CE(outer:List Env)(P:Aq)(w:Au)(H:Hp)(s:As)(Q:VK)(u:Av)(s':As):Prop:=
 ∃v H',s'.os=s.os/\AllBare s'.gens/\Un (frs outer) [] H H' s.heap s'.heap/\HOk P w H' s'.heap/\RelV v u/\Q v H'
def CR(CX:CXT)(outer:List Env)(P:Aq)(w:Au)(H:Hp)(s:As)(Q:VK)(E:XK)(r:Result)(s':As):Prop:=
 match r with
 |.ok (.ret u)=>CE outer P w H s Q u s'
 |.ok _=>False
 |.error e=>CX outer H s E e s'
structure kC(P:Aq)(w:Au)(K:Af)(mg:Ae)(base:Heap)(CX:CXT)(k:Nat)(f:Aw)(fd:Ao)(ps:Ai)(sp:Sp):Prop where
 len:∀vs H Q E,sp vs H Q E->vs.length=ps.length
 run:∀(A:Ar)(outer:List Env)(s:As)(H:Hp)(args:Args)(us:Ag)(vs:A8)(Q:VK)(E:XK),WL k A->Zjb P w K mg base A outer s H->BindsTo s fd args (ps.zip us)->Vals vs us->sp vs H Q E->
  codeAny (model P w) A (.call (.ref f) args) (CR CX outer P w H s Q E) s
section
variable {X:Cx}{pins:Ac}{σ:St}{H:Hp}{s s':As}
theorem Inv.env0(I:Inv X pins σ H s):Zjb X.prog X.w X.K X.mg X.base X.A X.stack s H:=
 ⟨I.ok.frames,I.ok.mod,I.bs,Qa1 I.ok.bsz I.sz,I.stack,I.stkFree,I.hok,I.bare⟩
def Inv.after{Q:VK}(I:Inv X pins σ H s)(h:CE X.stack X.prog X.w H s Q u s'):EP X pins σ Q u s':=by
 obtain⟨v,H',os,C,un,D,r,q⟩:=h;obtain⟨hh,g,d,t,G⟩:=s';obtain rfl:G=s.os:=os;exact⟨v,H',I.call un D C (λb z=>absurd z (by simp)),r,q⟩
end
def Zfk(sp:Sp)(dvs:A8)(E:XK)(t:TA):TE:=λσ H Q=>t σ H λvs H1=>sp (vs++dvs) H1 Q E
def Binds(K:Af)(fd:Ao)(ps:Ai)(ds:Ag):Prop:=
 ∀(s:As)(r:Ag),K.In s.heap->(r++ds).length=ps.length->BindsTo s fd ⟨r,[]⟩ (ps.zip (r++ds))
theorem Binds.all{fd:Ao}{ps:Ai}(h:∀r:Ag,r.length=ps.length->bindArgs fd ⟨r,[]⟩=pure (ps.zip r)):Binds K fd ps []:=λs r _ C=>by
 rw[Qbv]at C ⊢;exact .of_eq (h r C)
def Passes(CX:CXT)(X:Cx)(E:XK):Prop:=∀(pins:Ac)(σ:St)(H:Hp)(s:As)(e:Av)(s':As),Inv X pins σ H s->CX X.stack H s E e s'->X.xe e s'
section
variable {X:Cx}{CX:CXT}{k:Nat}{f C:Aw}{fd:Ao}{ps:Ai}{sp:Sp}{dvs:A8}{ds:Ag}{E:XK}{x m:Str}{p pos apos:Pos}{e o:Ax}{es:An}{ta:TE}{t:TA}
def run_fn{pins:Ac}{σ:St}{H:Hp}{Q:VK}{vs:A8}(F:kC X.prog X.w X.K X.mg X.base CX k f fd ps sp)(O:WL k X.A)(N:Binds X.K fd ps ds)(L:Vals dvs ds)(G:Passes CX X E)
  (I:Inv X pins σ H s) (r:Vals vs Ua) (h:sp (vs++dvs) H Q E):Ba X (call (.ref f) Ua) (EP X pins σ Q) X.xe s:=by
 have D:=r.append L;refine wpAny_call (Qe6 (F.run X.A X.stack s H _ _ _ Q E O I.env0 (N s Ua I.kIn (by rw[<-D.length];exact F.len _ _ _ _ h)) D h) λr s' C=>?_);cases r with
 |error e=>exact G pins σ H s e s' I C
 |ok M=>
  cases M with
  |ret u=>exact I.after C
  |next=>exact False.elim C
  |brk=>exact False.elim C
  |cont=>exact False.elim C
def Zjc(F:kC X.prog X.w X.K X.mg X.base CX k f fd ps sp)(hr:WL k X.A)(Y:Gl X x)(S:X.mg x=some (.ref f))(O:PySem.W.keepIn X.K (.ref f)=true)(N:Binds X.K fd ps ds)(M:Vals dvs ds)(L:Passes CX X E)
  (Ua:PA X (e::es) t) (C:(x == ("__debug__" : Str))=false:=by decide) (Z:starEach (e::es) X.env=(false,eval e X.env)::starEach es X.env:=by rfl) (D:(backTo pos (starEach es X.env)).any (·.1)=false:=by rfl):
  PE X (.Call (.Name x p) (e::es) [] pos) (Zfk sp dvs E t):=by
 intro pins s σ H Q I h;refine Qc7 (jM I Y S (Qgm I.ok.mod.kin O (thn (Ua pos pins s σ H _ I h) λus s1 ⟨vs,H1,G,r,q⟩=>⟨G.kIn,(run_fn F hr N M L G r q)⟩) Z D) C)
end
structure Zt(N P:Ai)(sc:Scope):Prop where
 kind:sc.kind=.function:=by rfl
 co:sc.isCoroutine=false:=by rfl
 gen:sc.isGenerator=false:=by rfl
 nd:N.Nodup:=by decide +kernel
 pre:N.take P.length=P:=by rfl
 par:∀x∈P,sc.names.lookup x=some .local\/sc.names.lookup x=some .cell:=by decide +kernel
 nofree:∀y∈sc.names,y.2≠.free:=by decide +kernel
theorem yL{kindOf:Str->Option NameKind}{x:Str}:∀{binds:List (Str×Av)} {m:Ae},(∀v,(x,v)∉binds)->bindL kindOf binds m x=m x
 |[],_,_=>rfl
 |(n,v)::r,m,h=>by
  unfold bindL;rw[yL λw hw=>h w (Qal _ hw)];split
  .grind
  .rfl
theorem yM{kindOf:Str->Option NameKind}{x:Str}:∀{binds:List (Str×Av)} {m:Ae},(∀v,(x,v)∉binds)->bindC kindOf binds m x=m x
 |[],_,_=>rfl
 |(n,v)::r,m,h=>by
  unfold bindC;rw[yM λw hw=>h w (Qal _ hw)];split
  .rfl
  .grind
theorem yN{kindOf:Str->Option NameKind}{x:Str}{v:Av}:∀{P:Ai} {vs:Ag} {i:Nat} {m:Ae},P.Nodup->P[i]?=some x->vs[i]?=some v->kindOf x=some .local->
  bindL kindOf (P.zip vs) m x=some v
 |[],_,_,_,_,h,_,_=>by simp at h
 |_::_,[],_,_,_,_,h,_=>by simp at h
 |p::P,w::vs,0,m,C,h1,h2,r=>by
  simp at h1 h2;subst h1;subst h2;show bindL kindOf ((p,w)::P.zip vs) m p=_;unfold bindL;rw[yL λv D=>(Qa9.mp C).1 (Qdz D).1,Qa5 r];simp
 |p::P,w::vs,i+1,m,C,h1,h2,r=>by
  unfold bindL;exact yN (i:=i) (Qa9.mp C).2 (by grind) (by grind) r
theorem yO{kindOf:Str->Option NameKind}{x:Str}{v:Av}:∀{P:Ai} {vs:Ag} {i:Nat} {m:Ae},P.Nodup->P[i]?=some x->vs[i]?=some v->kindOf x≠some .local->
  bindC kindOf (P.zip vs) m x=some v
 |[],_,_,_,_,h,_,_=>by simp at h
 |_::_,[],_,_,_,_,h,_=>by simp at h
 |p::P,w::vs,0,m,C,h1,h2,r=>by
  simp at h1 h2;subst h1;subst h2;show bindC kindOf ((p,w)::P.zip vs) m p=_;unfold bindC;rw[yM λv D=>(Qa9.mp C).1 (Qdz D).1,Qaw r];simp
 |p::P,w::vs,i+1,m,C,h1,h2,r=>by
  unfold bindC;exact yO (i:=i) (Qa9.mp C).2 (by grind) (by grind) r
def start(N:Ai)(vs:A8):St:=vs.map some++List.replicate (N.length-vs.length) none
def Zfl(CX:CXT)(P:Aq)(w:Au)(K:Af)(mg:Ae)(base:Heap)(N:Ai)(qual:Str)(scope:Scope)(f:Aw)(C:Av)(A:Ar)(outer:List Env)(s:As)(H:Hp)(E:XK):Cx where
 prog:=P
 w:=w
 K:=K
 mg:=mg
 base:=base
 A:=A.deeper (envOfC qual scope s.heap.objs.size f C)
 N:=N
 s₀:=s
 H₀:=H
 env:=envOfC qual scope s.heap.objs.size f C
 outer:=outer
 stack:=envOfC qual scope s.heap.objs.size f C::outer
 ex:=[]
 calm:=true
 fn:=λ_=>true
 pn:=[]
 xe:=λe s'=>wpAny (model P w) (A.deeper (envOfC qual scope s.heap.objs.size f C)) (leaving (envOfC qual scope s.heap.objs.size f C) e) (λ_ r=>CX outer H s E e r) (λD r=>CX outer H s E D r) s'
def qU{r:Scope}(h:r.names.lookup x=some .cell):∃c,(cellsFrom n r.names []).lookup x=some c:=Option.isSome_iff_exists.mp (PySem.W.cellsFrom_some _ n [] (.inl h))
theorem Zbu{CX:CXT}{mg:Ae}{base:Heap}{ps:Ai}{qual:Str}{scope:Scope}{M:Av}{A:Ar}{outer:List Env}{O:As}{H:Hp}{E:XK}{vs:A8}
  (S:Zt N ps scope) (Z:A.handled=none) (C:Zjb P w K mg base A outer s H) (hl:vs.length=ps.length) (r:Vals vs Ua)
  (x:InCallC s s.heap.objs.size (bindL (envOfC qual scope s.heap.objs.size f M).kindOf (ps.zip Ua) λ_=>none) (cellsFrom (s.heap.objs.size+1) scope.names []) (bindC (envOfC qual scope s.heap.objs.size f M).kindOf (ps.zip Ua) λ_=>none) O):
  Inv (Zfl CX P w K mg base N qual scope f M A outer s H E) [] (start N vs) H O:=by
 have hpl:ps.length<=N.length:=by have:=congrArg List.length S.pre;rw[Qbp]at this;lia
 obtain⟨h1,tk,rfl,Y⟩:=x.done;have D:∀b:Aw,b∉(Zfl CX P w K mg base N qual scope f M A outer s H E).ex:=λb z=>absurd (show b∈([]:List Aw)from z) (by simp);refine⟨⟨C.mod,S.kind,U,U,Qah _,λy z c h1 h2=>?_,λy G=>?_,λy c _ h=>?_,λ_=>Z,Qf1 C.frames,.inr ⟨U,U⟩,λb z=>absurd z (D b),C.bs,C.bsz,λb _ _=>D b,λb z=>absurd z (D b),C.funs,C.frf⟩,
  rfl,C.bare,Un.kept Y,⟨_,x.toInCall.ns,λi y v h1 h2 h3=>?_⟩,λy c h=>⟨_,x.cell y c h⟩,C.hok.fresh (Qah _),λy c h=>?_,λp L=>absurd (show p∈([])from L) (by simp),C.hok.kept Y,?_⟩
 .exact name_of_addr x.apart (Qce h1) (Qce h2)
 .rcases G with G|G
  .exact qU G
  .exact absurd U (S.nofree _ (Qce G))
 .exact Qa0 (x.above y c (Qce h))
 .have hi:i<vs.length:=by
   unfold start at h2
   by_cases hi:i<vs.length
   .exact hi
   .grind
  have ha:vs[i]?=some v:=by
   unfold start at h2;rw[Qa6 (by simpa using hi),Qai]at h2;cases e:vs[i]? with
   |none=>rw[e]at h2;cases h2
   |some a=>rw[e]at h2;cases h2;rfl
  obtain⟨u,Q,rv⟩:=r.get ha;have L:ps[i]?=some y:=by
   rw[<-S.pre,List.getElem?_take_of_lt (by lia)];exact h1
  have I:ps.Nodup:=by rw[<-S.pre];exact S.nd.sublist (List.take_sublist _ _)
  refine⟨u,rv,?_⟩;rcases S.par y (Qat L)with k|k
  .exact .inl ⟨k,yN I L Q k⟩
  .obtain⟨c,e⟩:=qU k;refine .inr ⟨.inl k,c,e,?_⟩;have q:=x.cell y c e;rw[yO I L Q (by show scope.names.lookup y≠_;rw[k];decide)]at q;exact q
 .exact C.hok.fresh (Qa0 (x.above y c (Qce h)))
 .unfold start;show _=N.length;rw[Qag,Qab,Qay];lia
def Zl5{CX:CXT}{mg:Ae}{k:Nat}{name qual:Str}{params:Arguments}{body:List Ay}{scope:Scope}{dV kV M pm C ct oc:Av}{an od:Option Aw}
  {osl:Array (Option Av)} {ps:Ai} {sp:Sp} (lk:K.lookup f=some ⟨oc,od,.func (PySem.W.fnOf name qual params body scope dV kV M pm an C ct),osl⟩) (hcd:PySem.W.codeIn K C qual=true) (S:Zt N ps scope)
  (len:∀vs H Q E,sp vs H Q E->vs.length=ps.length)
  (I:∀(A:Ar)(outer:List Env)(s:As)(H:Hp)(vs:A8)(Q:VK)(E:XK),WL k (A.deeper (envOfC qual scope s.heap.objs.size f C))->sp vs H Q E->
   ∃t,PSs (Zfl CX P w K mg h N qual scope f C A outer s H E) body t/\t {nx:=λ_ H'=>Q .non H',rt:=Q} (start N vs) H):
  kC P w K mg h CX (k+1) f (PySem.W.fnOf name qual params body scope dV kV M pm an C ct) ps sp:=by
 refine⟨len,λA outer s H args us vs Q E hr Ua hb r O=>?_⟩;have KX:=Ua.mod.kin.keeps λb o e=>(Ua.bs b o e).1;have Z:=Ua.mod.nolimit.keeps λb o e=>(Ua.bs b o e).1;have G:∀y∈ps.zip us,scope.names.lookup y.1=some .local\/(scope.names.lookup y.1=some .cell/\((cellsFrom (s.heap.objs.size+1) _ []).lookup y.1).isSome=true):=λ⟨n,v⟩ hy=>by
  rcases S.par n (Qdz hy).1 with q|q
  .exact .inl q
  .exact .inr ⟨q,PySem.W.cellsFrom_some _ _ _ (.inl q)⟩
 refine codeAny_call_function hr.depth (KX _ _ lk) U S.co S.gen U (PySem.W.codeRec_of KX hcd) (hb _ _ _ _ (wpAny_newFunctionEnv_cells S.kind G λenv he s1 x=>?_));subst he;refine⟨Z.keeps x.toInCall.keep,codeAny_func ?_⟩;obtain⟨t,ht,hq⟩:=I A outer s H vs Q E (hr.deeper _) O;refine Qdb (ht [] s1 _ H _ (Zbu S hr.hd Ua (len _ _ _ _ O) r x) hq) (λfl s' L=>?_) λe s' L=>L;have fin:∀{D:St} {H':Hp} {v:V} {u:Av},Inv (Zfl CX P w K mg h N qual scope f C A outer s H E) [] D H' s'->RelV v u->Q v H'->CE outer P w H s Q u s':=
  λ{D H' v u} J Y q=>⟨v,H',J.os,J.bare,J.base,J.hok,Y,q⟩
 cases fl with
 |ret u=>
  obtain⟨v,D,H',J,Y,q⟩:=L;exact fin J Y q
 |next=>
  obtain⟨D,H',J,q⟩:=L;exact fin (v:=V.non) J U q
 |brk=>
  obtain⟨_,_,_,q⟩:=L;exact False.elim q
 |cont=>
  obtain⟨_,_,_,q⟩:=L;exact False.elim q
section
variable {X:Cx}{x:Str}{p pos:Pos}{e:Ax}{es:An}{t:TA}{id T:String}{r:A8->Hp->VK->Prop}
def tCB(r:A8->Hp->VK->Prop)(t:TA):TE:=λσ H Q=>t σ H λvs H1=>r vs H1 Q
end
end L2
variable {X:L2.Cx}
variable {H B:L2.Hp}
variable {r:List L2.V}
variable {b:L2.Cx}
variable {c:L2.St}
variable {d M:L2.TE}
variable {y:L2.V}
variable {q:L2.TS}
variable {G:L2.TT}
variable {I:L2.VK}
variable {J:L2.HO}
variable {S:L2.Ends}
variable {Y:List (List L2.V)}
namespace HT
open PySem PyProof.Rows
section
variable {prog:Aq}{w:Au}{A:Ar}{E:Ab}{s:As}
def cat_tup{t b:Aw}{vs:Ag}(S:IsTup s.heap t vs.toArray)(Z:IsTup s.heap b Ua.toArray)(hv:vs≠[])
  (h1:Ua=[]->Q (.ref t) s) (h2:Ua≠[]->Q (.ref s.heap.objs.size) {s with heap:=s.heap.push {cls:=.type "tuple",data:=.seq (vs++Ua).toArray}})
  (hsz:vs.length+Ua.length<=sizeLine):A9 prog w A (binaryOp .Add (.ref t) (.ref b)) Q E s:=by
 obtain⟨⟨cls,dd,data,M⟩,G,hc,n,Y⟩:=id S;obtain⟨⟨O,D,data2,C⟩,r,L,N,I⟩:=id Z;subst hc Y L I;have e:vs.toArray++Ua.toArray=(vs++Ua).toArray:=by simp
 by_cases hw:Ua=[]
 .exact concat_meets ⟨_,G,U⟩ ⟨_,r,U⟩ Qg7 seq_tuple_add Qfn Qfd (Qe7 _ _)
   (tuple_addW1 t b _ _ n N dd D M C (by grind) (by simp[hw])) ⟨G,r,h1 hw⟩
 .refine concat_meets ⟨_,G,U⟩ ⟨_,r,U⟩ Qg7 seq_tuple_add Qfn Qfd (Qe7 _ _)
   (tuple_addW2 t b _ _ n N dd D M C (by grind) (by grind) (by grind)) ⟨G,r,?_⟩
  rw[e];exact h2 hw
end
end HT
namespace L2
abbrev TO:=St->Hp->(Option Int->Hp->Prop)->Prop
theorem intsAre_of{ns:Ak}:∀{C:Ag},Vals (ns.map V.int) C->IntsAre C ns:=by
 induction ns with
 |nil=>intro C r;cases r;exact .nil
 |cons n ns G=>
  intro C r;cases r with
  |cons D I=>
   obtain⟨t,e⟩:=D;subst e;exact .cons n t (G I)
section
variable {X:Cx}{e:Ax}{te:TE}{lo hi:Option Ax}{tl th:TO}{pos p2:Pos}
def Vals.nil_iff{xs:A8}(r:Vals xs Ua):Ua=[]↔xs=[]:=by
 cases r with
 |nil=>simp
 |cons _ _=>simp
end
def ixN(n:Nat)(i:Int):Option Nat:=if 0<=i then(if i<n then some i.toNat else none)else if -(n:Int)<=i then some (i+n).toNat else none
def atI(xs:List g)(i:Int):Option g:=(ixN xs.length i).bind λj=>xs[j]?
def Zbv{i:Int}{j:Nat}(h:ixN n i=some j):seqIndex? i n=some j/\j<n/\-(n:Int)<=i/\i<n:=by
 unfold ixN at h
 by_cases r:0<=i
 .rw[Qa5 r]at h
  by_cases h1:i<n
  .rw[Qa5 h1]at h;have e:=Option.some.inj h;exact⟨by rw[Qhq r h1,e],by lia,by lia,h1⟩
  .rw[Qaw h1]at h;cases h
 .rw[Qaw r]at h
  by_cases h1:-n<=i
  .rw[Qa5 h1]at h;have e:=Option.some.inj h;exact⟨by rw[seqIndex_neg (by lia) h1,e],by lia,h1,by lia⟩
  .rw[Qaw h1]at h;cases h
def kJ{xs:List g}{i:Int}{v:g}(h:atI xs i=some v):∃j,seqIndex? i xs.length=some j/\xs[j]?=some v/\j<xs.length/\-(xs.length:Int)<=i/\i<xs.length:=by
 unfold atI at h;cases e:ixN _ i with
 |none=>rw[e]at h;cases h
 |some j=>
  rw[e]at h;obtain⟨h1,h2,C,r⟩:=Zbv e;exact⟨j,h1,h,h2,C,r⟩
def Yv{xs:List g}{j:Nat}{v:g}(h:xs[j]?=some v):atI xs (j:Int)=some v:=by
 have r:=(Qaf.mp h).1;have e:ixN xs.length j=some j:=by
  unfold ixN;rw[Qa5 (by lia),Qa5 (by lia)];simp
 unfold atI;rw[e];exact h
def Zfm(xs:List g)(v:g):atI (xs++[v]) (-1)=some v:=by
 have r:(xs++[v]).length=xs.length+1:=by simp
 have e:ixN (xs++[v]).length (-1)=some xs.length:=by
  unfold ixN;rw[Qaw (by decide),Qa5 (by lia)];congr 1;lia
 unfold atI;rw[e];simp
def Zjd(b:Ax):Prop:=∀o i,subscripted b false o i=operate [o,i] (getItem o i)
def IxR(X:Cx)(r:R2):Prop:=
 ∀(value C:Ax)(pins:Ac)(s:As)(σ:St)(H:Hp)(x y:V)(v u:Av)(Q:VK),Inv X pins σ H s->RelV x v->RelV y u->r x y H Q->
  subscripted C false v u=operate [v,u] (getItem v u)->Ba X (subscriptTail value C v u) (EP X pins σ Q) X.xe s
def MtR(X:Cx)(id:String)(r:V->List V->Hp->VK->Prop):Prop:=
 ∀(pins:Ac)(s:As)(σ:St)(H:Hp)(x:V)(xs:A8)(v:Av)(C:Ag)(Q:VK),Inv X pins σ H s->RelV x v->Vals xs C->r x xs H Q->
  Ba X (call (.builtin id) (v::C)) (EP X pins σ Q) X.xe s
section
variable {X:Cx}{a b:Ax}{ta tb:TE}{pos:Pos}
inductive Zhs(K:Af)(x:V)(y:V)(H:Hp)(Q:VK):Prop
 |mk (p xs i v:_):(x=.ref p)->(y=.int i)->(SqL K H p xs)->(atI xs i=some v)->(Q v H)->Zhs K x y H Q
def rIxL(K:Af):R2:=λx y H Q=>Zhs K x y H Q
inductive Zht(K:Af)(x:V)(y:V)(H:Hp)(Q:VK):Prop
 |mk (p xs i v:_):(x=.ref p)->(y=.int i)->(SqT K H p xs)->(atI xs i=some v)->(Q v H)->Zht K x y H Q
def uN(K:Af):R2:=λx y H Q=>Zht K x y H Q
inductive Zhu(x:V)(y:V)(H:Hp)(Q:VK):Prop
 |mk (z i c:_):(x=.str z)->(y=.int i)->(z.length<=sizeLine)->(atI z.cps.toList i=some c)->(Q (.str ⟨#[c]⟩) H)->Zhu x y H Q
def rIxS  : R2:=λx y H Q=>Zhu x y H Q
def Zq:IxR X (rIxL X.K):=by
 intro value D pins s σ H x y v u Q I Y N h M;obtain⟨p,xs,i,z,rfl,rfl,S,he,q⟩:=h;cases Y;obtain⟨t,rfl⟩:=N;obtain⟨G,r,pl,hz⟩:=I.list S;obtain⟨j,h1,h2,h3,Z,O⟩:=kJ he;obtain⟨w,ew,C⟩:=r.get h2;have hl:=r.length;have hn:=ql;have fin:EP X pins σ Q w s:=⟨z,H,I,C,q⟩
 by_cases L:0<=i
 .have Ua:=by
   rw[Qhq L O]at h1;exact Option.some.inj h1
  exact item_listR pl.isList L (by lia) (by grind) fin M
 .have Ua:(i+G.toArray.size).toNat=j:=by
   rw[seqIndex_neg (by lia) Z]at h1;rw[Qbn,<-hl];exact Option.some.inj h1
  exact subscriptTail_builtinR pl.isList.typeIs slot_list_getitem.lookup
   (wpAny_getItem_list_neg pl.isList (by lia) (by grind) (by lia) (by grind) ⟨U,fin⟩) M
def Yf:IxR X (uN X.K):=by
 intro value D pins s σ H x y v u Q I O G h M;obtain⟨p,xs,i,z,rfl,rfl,L,S,q⟩:=h;cases O;obtain⟨t,rfl⟩:=G;obtain⟨N,r,pl,hz⟩:=I.tuple L;obtain⟨j,h1,h2,Z,h4,Ua⟩:=kJ S;obtain⟨w,ew,C⟩:=r.get h2;have hl:=r.length;have Y:=ql;have fin:EP X pins σ Q w s:=⟨z,H,I,C,q⟩;exact subscriptTail_builtinR pl.typeIs slot_tuple_getitem.lookup
  (getItem_tuple (j:=j) pl (by lia) (by lia) (by grind) (by grind) ⟨U,fin⟩) M
def ix_str:IxR X rIxS:=by
 intro value r pins s σ H x y v u Q I L C h D;obtain⟨z,i,c,rfl,rfl,Ua,O,q⟩:=h;obtain⟨t,rfl⟩:=L;obtain⟨t',rfl⟩:=C;obtain⟨j,h1,h2,Y,M,G⟩:=kJ O;have N:z.cps.toList.length=z.length:=by simp[Str.length]
 rw[N]at h1 M G;have S:=ql;exact tail_any (typeIs_str s z t) slot_str_getitem.lookup (getItem_str (c:=c) (by
  grind) (by grind) ⟨.str ⟨#[c]⟩,H,I.tok _,⟨_,U⟩,q⟩) D
def uO (r:Ag) (n j:Nat) (u:Av):Obj.mapSeq (·.setIfInBounds j u) {cls:=.type "list",data:=.seq r.toArray n}={cls:=.type "list",data:=.seq (r.set j u).toArray n}:=by
 simp[Obj.mapSeq]
def Inv.lst{pins:Ac}{σ:St}{H:Hp}{s:As}{p:Aw}{xs:A8}(I:Inv X pins σ H s)(h:H p=some (.lst xs)):
  ∃(C:Ag)(n:Nat),Vals xs C/\s.heap.get? p=some {cls:=.type "list",data:=.seq C.toArray n}/\xs.length<=sizeLine:=by
 obtain⟨z,C,n,r,e⟩:=I.hok p _ h;exact⟨C,n,r,e,z⟩
def Inv.lstUpd{p:Aw}{xs ys:A8}{C:Ag}{n':Nat}{f:Obj->Obj}(I:Inv X m c H s)(h:H p=some (.lst xs))
  (G:s.heap.get? p=some {cls:=.type "list",data:=.seq Ua.toArray n}) (D:f {cls:=.type "list",data:=.seq Ua.toArray n}={cls:=.type "list",data:=.seq C.toArray n'}) (r:Vals ys C) (L:ys.length<=sizeLine) (t:Nat):
  Inv X m c (upd H p (.lst ys)) {s with heap:=s.heap.update p f,toks:=t}:=by
 have e:(s.heap.update p f).get? p=some {cls:=.type "list",data:=.seq C.toArray n'}:=by
  rw[Qbf f G (by rw[D]<;>rfl),D]
 refine I.write (by rw[h];trivial) (.inl U) (λb u M q=>(Qbx _ _ (Qdx M)).trans q) ⟨_,e⟩ ⟨L,C,n',r,e⟩
inductive Zbw(o:V)(i:V)(v:V)(H:Hp)(Q:(Hp->Prop)):Prop
 |mk (p xs k j:_):(o=.ref p)->(i=.int k)->(H p=some (.lst xs))->(ixN xs.length k=some j)->(Q (upd H p (.lst (xs.set j v))))->Zbw o i v H Q
def rSetL  : V->V->V->Hp->(Hp->Prop)->Prop:=λo i v H Q=>Zbw o i v H Q
def set_list:PSet X rSetL:=by
 intro pins s σ H o i v ov iv u Q I N M O h;obtain⟨p,xs,k,j,rfl,rfl,L,Ua,q⟩:=h;cases N;obtain⟨t,rfl⟩:=M;obtain⟨C,n,r,D,hz⟩:=I.lst L;obtain⟨h1,h2,S,Z⟩:=Zbv Ua;have hl:=r.length;have hn:=ql;have I':=
  I.lstUpd L D (uO C n j u) (r.set O j) (by grind) s.toks
 by_cases G:0<=k
 .have Y:=by
   rw[Qhq G Z]at h1;exact Option.some.inj h1
  exact PySem.W.ki_setAt D G (by lia) (by grind) (by grind)
 .have Y:(k+C.toArray.size).toNat=j:=by
   rw[seqIndex_neg (by lia) S]at h1;rw[Qbn,<-hl];exact Option.some.inj h1
  exact PySem.W.ki_setBack D (by lia) (by grind) (by lia) (by grind)
def YZ:V->Bool
 |.non=>true
 |.bl _=>true
 |.int _=>true
 |.str _=>true
 |_=>false
def eqV:V->V->Bool
 |.non,.non=>true
 |.bl a,.bl b=>a == b
 |.bl a,.int b=>(if a then 1 else 0) == b
 |.int a,.bl b=>a == (if b then 1 else 0)
 |.int a,.int b=>a == b
 |.str a,.str b=>a == b
 |_,_=>false
def gp{A:Ar}{x:V}{v:Av}(C:RelV y u)(r:RelV x v)(D:YZ y=true)(fx:YZ x=true):SeqAt.EqAt A s u v (eqV y x):=by
 cases y with
 |non=>
  cases C;cases x with
  |non=>cases r;exact Qhd _
  |bl b=>cases r;exact SeqAt.EqAt.none_bool b
  |int b=>obtain⟨t,rfl⟩:=r;exact SeqAt.EqAt.none_int b t
  |str b=>obtain⟨t,rfl⟩:=r;exact SeqAt.EqAt.none_str b t
  |_=>exact absurd (fx) Qba
 |bl a=>
  cases C;cases x with
  |non=>cases r;exact SeqAt.EqAt.bool_none a
  |bl b=>cases r;exact SeqAt.EqAt.bool_bool a b
  |int b=>obtain⟨t,rfl⟩:=r;exact SeqAt.EqAt.bool_int a b t
  |str b=>obtain⟨t,rfl⟩:=r;exact SeqAt.EqAt.bool_str a b t
  |_=>exact absurd (fx) Qba
 |int a=>
  obtain⟨t',rfl⟩:=C;cases x with
  |non=>cases r;exact SeqAt.EqAt.int_none a t'
  |bl b=>cases r;exact SeqAt.EqAt.int_bool a t' b
  |int b=>obtain⟨t,rfl⟩:=r;exact SeqAt.EqAt.int_int a t' b t
  |str b=>obtain⟨t,rfl⟩:=r;exact SeqAt.EqAt.int_str a t' b t
  |_=>exact absurd (fx) Qba
 |str a=>
  obtain⟨t',rfl⟩:=C;cases x with
  |non=>cases r;exact SeqAt.EqAt.str_none a t'
  |bl b=>cases r;exact SeqAt.EqAt.str_bool a t' b
  |int b=>obtain⟨t,rfl⟩:=r;exact SeqAt.EqAt.str_int a t' b t
  |str b=>obtain⟨t,rfl⟩:=r;exact SeqAt.EqAt.str_str a t' b t
  |_=>exact absurd (show false=true from fx) Qba
 |_=>exact absurd (D) Qba
def eqU(x:V)(u:Av):Bool:=match u with
 |.none=>eqV .non x
 |.bool b=>eqV (.bl b) x
 |.int i _=>eqV (.int i) x
 |.str z _=>eqV (.str z) x
 |_=>false
def gq{x:V}(r:RelV y u)(f:YZ y=true):eqU x u=eqV y x:=by
 cases y with
 |non=>cases r;rfl
 |bl b=>cases r;rfl
 |int i=>obtain⟨t,rfl⟩:=r;rfl
 |str z=>obtain⟨t,rfl⟩:=r;rfl
 |_=>exact absurd (f) Qba
theorem xr{x:V}:∀{xs:A8} {C:Ag},Vals xs C->xs.all YZ=true->C.any (eqU x)=xs.any λy=>eqV y x
 |_,_,.nil,_=>rfl
 |y::xs,u::C,.cons r t,f=>by
  rw[Qcu,Qby]at f;rw[Qet,Qet,gq r f.1,xr t f.2]
theorem Wh{A:Ar}{s:As}{x:V}{v:Av}(G:RelV x v)(fx:YZ x=true):∀{xs:A8} {D:Ag},Vals xs D->xs.all YZ=true->∀u∈D,SeqAt.EqAt A s u v (eqU x u)
 |_,_,.nil,_=>λu C=>by cases C
 |y::xs,u::D,.cons r t,f=>λI C=>by
  rw[Qcu,Qby]at f;rcases Qas.mp C with rfl|C
  .rw[gq r f.1];exact gp r G f.1 fx
  .exact Wh G fx t f.2 I C
def inV(x:V)(xs:A8):Bool:=xs.any λy=>eqV y x
inductive Zl6(K:Af)(neg:Bool)(x:V)(y:V)(H:Hp)(Q:VK):Prop
 |mk (p xs:_):(y=.ref p)->((SqL K H p xs\/SqT K H p xs))->(YZ x=true)->(xs.all YZ=true)->(Q (.bl (if neg then !inV x xs else inV x xs)) H)->Zl6 K neg x y H Q
def rIn(K:Af)(neg:Bool):R2:=λx y H Q=>Zl6 K neg x y H Q
def Ya:OpR X (compareOp .In) (rIn X.K false):=by
 intro pins s σ H x y v u Q I G L h;obtain⟨p,xs,rfl,D,fx,fs,q⟩:=h;cases L;rcases D with D|D
 .obtain⟨C,r,pl,M⟩:=I.list D;refine SeqAt.in_listAt _ pl.isList (λw hw=>Wh G fx r fs w (by grind)) ⟨.bl _,H,I,U,?_⟩;rw[show C.toArray.any _=C.any (eqU x) by simp,xr r fs];exact q
 .obtain⟨C,r,pl,M⟩:=I.tuple D;refine SeqAt.in_tupleAt _ pl (λw hw=>Wh G fx r fs w (by grind)) ⟨.bl _,H,I,U,?_⟩;rw[show C.toArray.any _=C.any (eqU x) by simp,xr r fs];exact q
def yP:OpR X (compareOp .NotIn) (rIn X.K true):=by
 intro pins s σ H x y v u Q I G L h;obtain⟨p,xs,rfl,D,fx,fs,q⟩:=h;cases L;rcases D with D|D
 .obtain⟨C,r,pl,M⟩:=I.list D;refine SeqAt.notIn_listAt _ pl.isList (λw hw=>Wh G fx r fs w (by grind)) ⟨.bl _,H,I,U,?_⟩;rw[show C.toArray.any _=C.any (eqU x) by simp,xr r fs];exact q
 .obtain⟨C,r,pl,M⟩:=I.tuple D;refine SeqAt.notIn_tupleAt _ pl (λw hw=>Wh G fx r fs w (by grind)) ⟨.bl _,H,I,U,?_⟩;rw[show C.toArray.any _=C.any (eqU x) by simp,xr r fs];exact q
def Z2:Xf X (.builtin "len") (λxs H Q=>∃p ys,xs=[.ref p]/\(SqL X.K H p ys\/SqT X.K H p ys)/\Q (.int ys.length) H):=by
 intro pins s σ H xs O Q I r h;obtain⟨p,ys,rfl,D,q⟩:=h;obtain⟨u,rfl,N⟩:=vals1 r;cases N;have S:=ql;rcases D with D|D
 .obtain⟨L,G,pl,M⟩:=I.list D;have C:=G.length;exact Calls.call_len_list pl.isList (by grind) ⟨.int _,H,I.tok _,⟨s.toks+1,by grind⟩,q⟩
 .obtain⟨L,G,pl,M⟩:=I.tuple D;have C:=G.length;exact len_tuple pl (by grind) ⟨.int _,H,I.tok _,⟨s.toks+1,by grind⟩,q⟩
def yQ:Xf X (.builtin "len") (λxs H Q=>∃z,xs=[.str z]/\z.length<=sizeLine/\Q (.int z.length) H):=by
 intro pins s σ H xs D Q I r h;obtain⟨z,rfl,G,q⟩:=h;obtain⟨u,rfl,t,rfl⟩:=vals1 r;have C:=ql;exact len_str (by lia) ⟨.int _,H,I.tok _,⟨_,U⟩,q⟩
def yR:Xf X (.type "list") (λxs H Q=>∃p ys,xs=[.ref p]/\(SqL X.K H p ys\/SqT X.K H p ys)/\∀l,H l=none->Q (.ref l) (upd H l (.lst ys))):=by
 intro pins s σ H xs Y Q I r h;obtain⟨p,ys,rfl,L,q⟩:=h;obtain⟨u,rfl,Ua⟩:=vals1 r;cases Ua;have fin:∀(C:Ag),Vals ys C->ys.length<=sizeLine->∀(h':Heap)(c':Nat),(∀b o',s.heap.get? b=some o'->h'.get? b=some o')->
   h'.get? _=some _->EP X pins σ Q _ _:=λC D M h' c' kp e=>
  ⟨.ref _,_,I.laid (t':=s.toks) kp (Qah _) (show YY X.prog X.w _ h' _ (.lst ys)from⟨M,C,c',D,e⟩),U,q _ (I.hok.fresh (Qah _))⟩
 rcases L with L|L
 .obtain⟨C,D,pl,M⟩:=I.list L;have G:=D.length;obtain⟨o,S,O,n,N⟩:=pl.isList;exact call_list_seq p (.inl U) S O N (λh' c' kp e=>fin C D M h' c' kp e) (by grind)
 .obtain⟨C,D,pl,M⟩:=I.tuple L;have G:=D.length;obtain⟨o,S,O,n,N⟩:=pl;exact call_list_seq p (.inr U) S O N (λh' c' kp e=>fin C D M h' c' kp e) (by grind)
def Z5:Xf X (.type "tuple") (λxs H Q=>∃p ys,xs=[.ref p]/\((SqL X.K H p ys/\∀l,H l=none->Q (.ref l) (upd H l (.tup ys)))\/(SqT X.K H p ys/\Q (.ref p) H))):=by
 intro pins s σ H xs Ua Q I r h;obtain⟨p,ys,rfl,h⟩:=h;obtain⟨u,rfl,S⟩:=vals1 r;cases S;rcases h with⟨G,q⟩|⟨G,q⟩
 .obtain⟨C,D,pl,M⟩:=I.list G;have L:=D.length;refine call_tuple_list pl.isList (λh' kp=>?_) (by grind);have N:=I.kept (t':=s.toks) kp;have O:=
   N.laid (t':=s.toks) (λb o e=>Qad _ e) (Qah _) (show YY X.prog X.w _ _ _ (.tup ys)from⟨M,C,D,gj.new _ _⟩)
  exact⟨.ref _,_,O,U,q _ (N.hok.fresh (Qah _))⟩
 .obtain⟨C,D,pl,M⟩:=I.tuple G;exact call_tuple_same pl ⟨.ref p,H,I,U,q⟩
def tyV(K:Af)(T:String)(x:V)(H:Hp):Prop:=match x with
 |.str _=>T = "str"
 |.int _=>T = "int"
 |.ref p=>(T = "list" /\ ∃xs,SqL K H p xs)\/(T = "tuple" /\ ∃o,K.lookup p=some o/\o.cls=.type "tuple" /\ o.dict=none) \/
   (T = "dict" /\ ((∃kvs,H p=some (.dK kvs))\/∃kvs,H p=some (.dT kvs)))\/(T = "set" /\ ∃S n,H p=some (.set S n))
 |_=>False
def Zhv{σ:St}{T:String}{x:V}{v:Av}(I:Inv X m σ H s)(r:RelV x v)(ty:tyV X.K T x H):
  s.TypeIs v T/\∀a,v=.ref a->∃ob,s.heap.get? a=some ob/\ob.dict=none:=by
 cases x with
 |str z=>
  obtain⟨t,rfl⟩:=r;cases(ty);exact⟨typeIs_str s z t,λ_ e=>nomatch e⟩
 |int i=>
  obtain⟨t,rfl⟩:=r;cases(ty);exact⟨typeIs_int s i t,λ_ e=>nomatch e⟩
 |ref p=>
  cases r;rcases ty with⟨rfl,xs,L⟩|⟨rfl,o,C,M,D⟩|⟨rfl,C⟩|⟨rfl,S,n,C⟩
  .obtain⟨G,_,pl,_⟩:=I.list L;refine⟨pl.isList.typeIs,λa e=>?_⟩;cases e;obtain⟨o,n,e,c,D,_⟩:=pl;exact⟨o,e,D⟩
  .refine⟨⟨o,I.kIn p o C,M⟩,λa e=>?_⟩;cases e;exact⟨o,I.kIn _ o C,D⟩
  .have z:∃o,s.heap.get? p=some o/\o.ExactDict:=by
    rcases C with⟨kvs,C⟩|⟨kvs,C⟩
    .obtain⟨_,_,_,_,o,_,_,e,ex,_⟩:=I.hok p _ C;exact⟨o,e,ex⟩
    .obtain⟨_,_,_,_,o,_,_,e,ex,_⟩:=I.hok p _ C;exact⟨o,e,ex⟩
   obtain⟨o,e,ex⟩:=z;refine⟨⟨o,e,ex.1⟩,λa e2=>?_⟩;cases e2;exact⟨o,e,ex.2.1⟩
  .obtain⟨o,_,_,_,e,ex,_⟩:=I.hok p _ C;refine⟨⟨o,e,ex.1⟩,λa e2=>?_⟩;cases e2;exact⟨o,e,ex.2.1⟩
 |_=>exact False.elim ty
inductive Zhw(K:Af)(T:String)(r:V->List V->Hp->VK->Prop)(Q:VK)(x:V)(H1:Hp):Prop
 |mk  : (tyV K T x H1)->(r x [] H1 Q)->Zhw K T r Q x H1
def tBM0(K:Af)(T:String)(r:V->List V->Hp->VK->Prop)(to:TE):TE:=λσ H Q=>to σ H λx H1=>Zhw K T r Q x H1
inductive Zl7(K:Af)(T:String)(r:V->List V->Hp->VK->Prop)(t:TA)(σ:St)(Q:VK)(x:V)(H1:Hp):Prop
 |mk  : (tyV K T x H1)->(t σ H1 λxs H2=>r x xs H2 Q)->Zl7 K T r t σ Q x H1
def tBM(K:Af)(T:String)(r:V->List V->Hp->VK->Prop)(to:TE)(t:TA):TE:=λσ H Q=>to σ H λx H1=>Zl7 K T r t σ Q x H1
variable {o e:Ax}{es:An}{to:TE}{t:TA}{name:Str}{apos cpos:Pos}{T id:String}{r:V->List V->Hp->VK->Prop}
def pe_bm (pa:PlainAttrs T) (L:Slot T name id) (N:typeOf (.builtin id)=pure (.type "method_descriptor")) (hm:MtR X id r) (ho:PE X o to) (ha:PA X (e::es) t)
  (G:attributeBase o name X.env (eval o X.env)=eval o X.env:=by rfl)
  (M:((backTo cpos (starEach (e::es) X.env)).all (λx=>!x.1)&&(backToKw cpos (keywordEach [] X.env)).all (λx=>x.1.isSome)
   && decide ((e::es).length+([]:List Keyword).length+(if([]:List Keyword).isEmpty then 0 else 1)<30))=true:=by rfl)
  (D:(apos.endLine == cpos.line)=true:=by rfl) (Z:starEach (e::es) X.env=(false,eval e X.env)::starEach es X.env:=by rfl) (C:(backTo cpos (starEach es X.env)).any (·.1)=false:=by rfl):
  PE X (.Call (.Attribute o name apos) (e::es) [] cpos) (tBM X.K T r to t):=by
 intro pins s σ H Q I h;refine Qfo G M D U (thn (ho pins s σ H _ I h) λv s1 ⟨x,H1,Ua,O,ty,q1⟩=>?_);obtain⟨h1,h2⟩:=Zhv Ua O ty;refine⟨T,id,pa,L,N,h1,h2,?_⟩;have S:=ha cpos pins s1 σ H1 _ Ua q1;rw[Z]at S ⊢;refine Qda (by show(false||(backTo cpos (starEach es X.env)).any (·.1))=false;rw[C]<;>rfl) (Qew ?_);exact thn S λY s2 ⟨vs,H2,I2,r2,q2⟩=>hm pins s2 σ H2 x vs v Y Q I2 O r2 q2
end
def MtM(X:Cx)(id:String)(r:V->List V->Hp->VK->Prop):Prop:=
 ∀(pins:Ac)(s:As)(σ:St)(H:Hp)(x:V)(xs:A8)(v:Av)(C:Ag)(Q:VK),Inv X pins σ H s->RelV x v->Vals xs C->r x xs H Q->
  Ba X (call (.builtin id) (v::C)) (EP X pins σ Q) X.xe s
theorem Vals.one:∀{x:V} {C:Ag},Vals [x] C->∃u,C=[u]/\RelV x u
 |_,_,.cons r .nil=>⟨_,U,r⟩
theorem Vals.zero:∀{r:Ag},Vals [] r->r=[]
 |_,.nil=>rfl
theorem Vals.dropLast{xs:A8}{C:Ag}(h:Vals xs C):Vals xs.dropLast C.dropLast:=by
 induction h with
 |nil=>exact .nil
 |cons r t D=>
  cases t with
  |nil=>exact .nil
  |cons q t'=>exact .cons r D
theorem Vals.reverse{xs:A8}{C:Ag}(h:Vals xs C):Vals xs.reverse C.reverse:=by
 induction h with
 |nil=>exact .nil
 |cons r t D=>rw[Qcn,Qcn];exact Vals.append D (.cons r .nil)
section
variable {X:Cx}{pins:Ac}{σ:St}{H:Hp}{s:As}{l b:Aw}{xs ys zs:A8}
def Inv.lset{r:Ag}{f:Ah->Array Av}{t':Nat}(I:Inv X pins σ H s)(L:H l=some (.lst xs))
  (e:s.heap.get? l=some {cls:=.type "list",data:=.seq Ua.toArray n}) (M:f Ua.toArray=r.toArray) (D:Vals ys r) (G:ys.length<=sizeLine):
  Inv X pins σ (upd H l (.lst ys)) {s with heap:=s.heap.update l (Obj.mapSeq f),toks:=t'}:=by
 have q:=PySem.IsL.update e f;rw[M]at q;refine I.write (by rw[L];exact trivial) (.inl U) (λb' u N C=>(Qbx s.heap _ (Qdx N)).trans C) ⟨_,q⟩ ⟨G,r,_,D,q⟩
theorem Inv.lnew{t':Nat}(I:Inv X pins σ H s)(r:Vals ys Ua)(C:ys.length<=sizeLine):
  Inv X pins σ (upd H s.heap.objs.size (.lst ys)) {s with heap:=s.heap.push {cls:=.type "list",data:=.seq Ua.toArray},toks:=t'}:=
 I.laid (λ_ _ q=>Qad _ q) (Qah _) ⟨C,Ua,0,r,Qam _ U⟩
def Inv.fresh(I:Inv X pins σ H s):H s.heap.objs.size=none:=I.hok.fresh (Qah _)
def Inv.lstM (I:Inv X pins σ H s) (D:H l=some (.lst xs)):xs.length<=sizeLine/\∃(C:Ag)(n:Nat),Vals xs C/\xs.length=C.length/\s.heap.get? l=some {cls:=.type "list",data:=.seq C.toArray n}:=by
 obtain⟨z,C,n,r,e⟩:=I.hok l _ D;exact⟨z,C,n,r,r.length,e⟩
def Zfn(h:n<=sizeLine):Builtin.List.listTooLong n=false:=Qan (by lia)
end
inductive yS(x:V)(vs:A8)(H:Hp)(Q:VK):Prop
 |mk (l xs y:_):(x=.ref l)->(vs=[y])->(H l=some (.lst xs))->(xs.length<sizeLine)->(Q .non (upd H l (.lst (xs++[y]))))->yS x vs H Q
def Zje  : V->List V->Hp->VK->Prop:=λx vs H Q=>yS x vs H Q
def ZI:MtM X "list.append" Zje:=by
 intro pins s σ H x vs v N Q I M L h;obtain⟨l,xs,y,rfl,rfl,C,O,q⟩:=h;cases M;obtain⟨u,rfl,D⟩:=L.one;obtain⟨z,G,n,r,S,e⟩:=I.lstM C;refine Qhp F.slot_list_append ⟨_,e,U⟩ F.entry_list_append (F.args_list_append_2 _ _) (PySem.list_append l _ n u (by grind)) ⟨e,⟨.non,_,I.lset C e (by simp) (r.append (.cons D .nil)) ?_,U,q⟩⟩;rw[Qag,Qel];lia
inductive yT(x:V)(vs:A8)(H:Hp)(Q:VK):Prop
 |mk (l b xs zs:_):(x=.ref l)->(vs=[.ref b])->(H l=some (.lst xs))->(H b=some (.lst zs))->(xs.length+zs.length<=sizeLine)->(Q .non (upd H l (.lst (xs++zs))))->yT x vs H Q
def Zjf  : V->List V->Hp->VK->Prop:=λx vs H Q=>yT x vs H Q
def yU:MtM X "list.extend" Zjf:=by
 intro pins s σ H x vs v us Q I Z M h;obtain⟨l,b,xs,zs,rfl,rfl,L,Y,hz,q⟩:=h;cases Z;obtain⟨u,rfl,Ua⟩:=M.one;cases Ua;obtain⟨z,D,n,r,hl,e⟩:=I.lstM L;obtain⟨z2,C,S,N,O,e2⟩:=I.lstM Y;have hsz:D.toArray.size+C.toArray.size<=sizeLine:=by grind
 have G:¬(!D.toArray.isEmpty&&Builtin.List.listTooLong (D.toArray.size+C.toArray.size))=true:=by
  rw[Zfn hsz,Qfs];exact Qba
 refine Qhp F.slot_list_extend ⟨_,e,U⟩ F.entry_list_extend (F.args_list_extend_2 _ _)
  (AutoSeq1.list_extend_list_list_0 l _ n b _ S G (by lia) (by lia)) ⟨e,e2,⟨.non,_,I.lset L e (by simp) (r.append N) ?_,U,q⟩⟩
 rw[Qag];lia
inductive Zhx(x:V)(vs:A8)(H:Hp)(Q:VK):Prop
 |mk (l xs y:_):(x=.ref l)->(vs=[])->(H l=some (.lst xs))->(xs[xs.length-1]?=some y)->(Q y (upd H l (.lst xs.dropLast)))->Zhx x vs H Q
def rPop  : V->List V->Hp->VK->Prop:=λx vs H Q=>Zhx x vs H Q
def J3:MtM X "list.pop" rPop:=by
 intro pins s σ H x vs v Ua Q I O N h;obtain⟨l,xs,y,rfl,rfl,L,S,q⟩:=h;cases O;have G:=N.zero;subst G;obtain⟨z,C,n,r,Z,e⟩:=I.lstM L;obtain⟨u,Y,M⟩:=r.get S;have D:C.toArray[C.toArray.size-1]?=some u:=by
  grind
 refine Qhp F.slot_list_pop ⟨_,e,U⟩ F.entry_list_pop (F.args_list_pop_1 _) (MeetsSeq.list_pop_last l _ n u D (by grind)) ⟨e,⟨y,_,I.lset L e ?_ r.dropLast ?_,M,q⟩⟩
 .grind
 .rw[List.length_dropLast];lia
inductive Zhy(x:V)(y:V)(H:Hp)(Q:VK):Prop
 |mk (l b xs zs:_):(x=.ref l)->(y=.ref b)->(H l=some (.lst xs))->(H b=some (.lst zs))->(xs.length+zs.length<=sizeLine)->(∀p,H p=none->Q (.ref p) (upd H p (.lst (xs++zs))))->Zhy x y H Q
def rCat  : R2:=λx y H Q=>Zhy x y H Q
def Zhz:OpR X (binaryOp .Add) rCat:=by
 intro pins s σ H x y v u Q I O G h;obtain⟨l,b,xs,zs,rfl,rfl,Ua,N,Z,q⟩:=h;cases O;cases G;obtain⟨z,D,n,r,hl,e⟩:=I.lstM Ua;obtain⟨Y,C,n2,L,M,e2⟩:=I.lstM N;refine PySem.P.add_list e e2 ?_ (by grind);have S:D.toArray++C.toArray=(D++C).toArray:=by simp
 rw[S];exact⟨.ref _,_,I.lnew (r.append L) (by grind),U,q _ I.fresh⟩
end L2
namespace Att
open PySem PySem.W PySem.Calls PyProof.Rows
theorem xt{P:Params}:∀(ns:Ak)(vs:Ag),WellAll P h vs (ns.map WData.int)->IntsAre vs ns:=by
 intro ns
 induction ns with
 |nil=>
  intro vs w;cases w;exact .nil
 |cons n ns r=>
  intro vs w;cases w with
  |cons a b=>
   cases a;exact .cons _ _ (r _ b)
def Zbx{l:OpenLaw}(S:l.most=some n){P:Params}{args:List WData}
  (C:l.row.toRowW.claim.pre args=true) (L:WellAll P h Ua args):
  ∃a vs ns,Ua=[Value.ref a]/\args=[WData.list (ns.map WData.int)]/\h.get? a=some {cls:=.type "list",data:=.seq vs.toArray}/\IntsAre vs ns/\ns.length<=n:=by
 obtain⟨d,r,rfl,h1,h2⟩:=hasAllW_cons (pre_splitW C).1;obtain rfl:=hasAllW_nil h2;obtain⟨xs,rfl,Y⟩:=hasW_list h1;obtain⟨ns,rfl⟩:=items_int Y;have D:ns.length<=n:=by
  have I:=by
   have I:=(holds_andW (pre_splitW C).2).1;rw[S]at I;exact I
  have M:=condW_of I (w_not (w_lt w_lit (w_len_list (w_arg U))));refine Qg8 λq=>?_
  first
   |(exact absurd M _)
   |(simp at M;lia)
 cases L with
 |cons O N=>
  cases N;cases O with
  |list Q G=>exact⟨_,_,ns,U,U,Q,xt ns _ G,D⟩
theorem Zby(l:OpenLaw)(args:List WData):l.row.toRowW.claim.post args (.bool true) args=true:=
 postW_of
  (by first|rfl|decide|skip)
  (w_eq_bool (w_res U) w_lit) U
def attach_call{l:OpenLaw}{q:Aq}{XP:(Ae)->Heap->Prop}{YP:Au->Heap->Prop}{d:DefRec}
  (hn:l.most=some n) (hdf:d.params.defaults=[])
  (call:∀(w:Au)(s₀ C:As)(mg Z:Ae)(M:Aw)(o:Obj)(pm S I:Av)(a:Aw)(vs:Ag)(ns:Ak),
   Ground q N [] XP w s₀ mg Z C.heap->YP w C.heap->
   C.heap.get? M=some o->o.data=.func (docDef d.name d.params d.body d.scope pm S I)->C.heap.CodeRec S d.name->mg d.name=some (.ref M)->
   C.heap.get? a=some {cls:=.type "list",data:=.seq vs.toArray}->IntsAre vs ns->ns.length<=n->C.gens=#[]->
   codeAny (model l.prog w) callerA (.call (.ref M) ⟨[.ref a],[]⟩) (λr s'=>r=.ok (.ret (.bool true))/\OldK C.heap s'.heap/\s'.os=C.os/\AllBare s'.gens) C):
  WalkO q N XP YP l.row.toRowW d [] (λf vs=>PySem.call f vs):=by
 intro w s₀ C mg Z G Y M o pm S I dV kV ho hd hcd hD hmg hg args vals as O hlay hrd Ua hlo;obtain rfl:dV=.none:=Dflts.none hD hdf;obtain rfl:kV=.none:=Dflts.noKw hD;obtain⟨a,vs,ns,rfl,rfl,Q,D,L⟩:=Zbx hn O Ua;refine enter_call (Qe6 (call w s₀ C mg Z M o pm S I a vs ns G Y ho (fd_plain hd) hcd hmg Q D L hg) λr s' hq=>?_);obtain⟨rfl,h2,h3,h4⟩:=hq;exact⟨.inl ⟨_,_,[],U,λ_=>U,.bool true,Zby l _,λ_=>⟨List.Pairwise.nil,λ_ hm=>(nomatch hm)⟩⟩,h2,h3,h4⟩
end Att
namespace L2
theorem yV:∀{vs:Ag} {ns:Ak},IntsAre vs ns->Vals (ns.map V.int) vs
 |_,_,.nil=>.nil
 |_,_,.cons n t h=>.cons ⟨t,U⟩ (yV h)
def WR(s:Ay):Arguments:=match s with
 |.FunctionDef _ a _ _ _ _ _ _ _ _=>a
 |_=>{posonlyargs:=[],args:=[],vararg:=none,kwonlyargs:=[],kw_defaults:=[],kwarg:=none,defaults:=[]}
def Xg(s:Ay):List Ay:=match s with
 |.FunctionDef _ _ b _ _ _ _ _ _ _=>b
 |_=>[]
def Zk(s:Ay):Scope:=match s with
 |.FunctionDef _ _ _ _ _ _ r _ _ _=>r
 |_=>{kind:=.function,names:=[],isGenerator:=false,isCoroutine:=false}
abbrev CX0:CXT:=λ_ _ _ _ _ _=>False
abbrev E0:XK:=λ_ _ _=>False
def JV{X:Cx}:Passes CX0 X E0:=λ_ _ _ _ _ _ _ h=>h.elim
structure Fun(K:Af)(x qual:Str)(st:Ay)(f:Aw)(fd:Ao):Prop where
 ex:∃(oc:Av)(od:Option Aw)(kV doc pm:Av)(an:Option Aw)(cdv ct:Av)(osl:Array (Option Av)),
  fd=PySem.W.fnOf x qual (WR st) (Xg st) (Zk st) .none kV doc pm an cdv ct/\K.lookup f=some ⟨oc,od,.func fd,osl⟩/\PySem.W.codeIn K cdv qual=true
 kp:PySem.W.keepIn K (.ref f)=true
section
variable {P:Aq}{w:Au}{K:Af}{mg:Ae}{base:Heap}
theorem Fun.ok{qual:Str}{st:Ay}{fd:Ao}{ps:Ai}{k:Nat}{sp:Sp}(F:Fun K x qual st f fd)(S:Zt N ps (Zk st))(len:∀vs H Q E,sp vs H Q E->vs.length=ps.length)
  (C:∀(r:Av)(A:Ar)(outer:List Env)(s:As)(H:Hp)(vs:A8)(Q:VK)(E:XK),WL k (A.deeper (envOfC qual (Zk st) s.heap.objs.size f r))->sp vs H Q E->
   ∃t,PSs (Zfl CX0 P w K mg base N qual (Zk st) f r A outer s H E).nox (Xg st) t/\t {nx:=λ_ H'=>Q .non H',rt:=Q} (start N vs) H):kC P w K mg base CX0 (k+1) f fd ps sp:=by
 obtain⟨oc,od,kV,I,Ua,Y,r,ct,L,rfl,M,G⟩:=F.ex;refine Zl5 M G S len λA outer s H vs Q E O D=>?_;obtain⟨t,h,q⟩:=C r A outer s H vs Q E O D;exact⟨t,h.nox,q⟩
def Fun.binds{qual:Str}{st:Ay}{fd:Ao}{ps:Ai}(F:Fun K x qual st f fd)
  (h:∀(kV r I:Av)(G:Option Aw)(C ct:Av)(D:Ag),D.length=ps.length->bindArgs (PySem.W.fnOf x qual (WR st) (Xg st) (Zk st) .none kV r I G C ct) ⟨D,[]⟩=pure (ps.zip D)):Binds K fd ps []:=by
 obtain⟨oc,od,kV,r,I,G,C,ct,L,rfl,N,M⟩:=F.ex;exact .all (h kV r I G C ct)
theorem fun_mk{qual:Str}{st:Ay}{od G:Option Aw}{D:Array (Option Av)}{kV C I r ct:Av}(l:K.lookup f=some ⟨u,od,.func (PySem.W.fnOf x qual (WR st) (Xg st) (Zk st) .none kV C I G r ct),D⟩)
  (c:PySem.W.codeIn K r qual=true) (k:PySem.W.keepIn K (.ref f)=true):Fun K x qual st f (PySem.W.fnOf x qual (WR st) (Xg st) (Zk st) .none kV C I G r ct):=⟨⟨u,od,kV,C,I,G,r,ct,D,U,l,c⟩,k⟩
end
def zH{A:Ar}{k:Nat}(r:WL k A):A.units+1<cLine:=Qc8 (by lia) r.units
def Z3(h:n<=1000):n<sizeLine:=Qc8 h (by decide)
def ZK{A B:Prop}(h:B):if false=true then A else B:=by grind
def Yp{A B:Prop}(h:A):if true=true then A else B:=h
def jO{c A B:Prop}[Decidable c](h1:c->A)(h2:¬c->B):if c then A else B:=by grind
def Z7(H H':Hp):Prop:=∀b o,H b=some o->H' b=some o
def Z7.refl(H:Hp):Z7 H H:=λ_ _ h=>h
def Z7.trans{H2:Hp}(a:Z7 H B)(b:Z7 B H2):Z7 H H2:=λc o h=>b c o (a c o h)
def Z7.free{H':Hp}(e:Z7 H H'){l:Aw}(h:H' l=Option.none):H l=Option.none:=by
 cases q:H l with
 |none=>rfl
 |some o=>
  rw[e l o q]at h;cases h
def Zjg(i j:Int):Prop:=0<j/\j.natAbs.log2<9000
theorem ZH:OpR X (binaryOp .FloorDiv) (rI Zjg λi j=>.int (i/j)):=opI λi j _ _ _ _ _ r q=>by
 have h1:=r.1;exact floordiv_int (by lia) (by grind) (.inl (PyProof.noPylong_of_log2 r.2))
def Zjg.of{i j:Int}(h1:0<j)(h2:j<2^250):Zjg i j:=by
 refine⟨h1,?_⟩;have r:j.natAbs<2^250:=by lia
 have:=(Nat.log2_lt (by lia)).mpr r;lia
def Zjh(i j:Int):Prop:=(i.natAbs<2^250/\j.natAbs<2^250)\/CMul i j
def Zjh.ok{i j:Int}(h:Zjh i j):IntMulOk i j:=by
 rcases h with⟨h1,h2⟩|h
 .refine IntMulOk.of_bits (Qa1 (PyProof.Rows.intBits_le h1) (by decide)) (Qa1 (PyProof.Rows.intBits_le h2) (by decide))
 .exact h.ok
def YC:OpR X (binaryOp .Mult) (rI Zjh λi j=>.int (i*j)):=opI λ_ _ _ _ _ _ _ r q=>mul_int q r.ok
def Zbz (N:X.calm=true):Xf X (.builtin "sum") (λxs H Q=>∃(p:Aw)(ns:Ak),xs=[.ref p]/\SqL X.K H p (ns.map V.int)/\Q (.int ns.sum) H):=by
 intro pins s σ H xs S Q I r h;obtain⟨p,ns,rfl,L,q⟩:=h;obtain⟨u,rfl,O⟩:=vals1 r;cases O;obtain⟨G,D,pl,Ua⟩:=I.list L;have hi:=intsAre_of D;obtain⟨xs,C⟩:=hi.allInts.items;refine sum_intListG (I.ok.hd N) (C ▸ pl.isList) λh' tk t' M=>?_;have e1:ns=xs.toList.map (·.1):=by
  rw[<-nums_intItems,<-C];exact(hi.numsOf).symm
 have e2:preSum (numAt xs) xs.size=ns.sum:=by
  rw[preSum_eq,Qcq (by simp),e1]
 rw[e2];exact⟨.int ns.sum,H,I.kept M,⟨_,U⟩,q⟩
inductive Zh0(K:Af)(xs:A8)(H:Hp)(Q:VK):Prop
 |mk (x T t b:_):(xs=[x,.ty T])->(uM K H x t)->(PySem.W.kitOne K t (.type T)=some b)->(Q (.bl b) H)->Zh0 K xs H Q
def Zm7(K:Af):A8->Hp->VK->Prop:=λxs H Q=>Zh0 K xs H Q
def X8:Xf X (.builtin "isinstance") (Zm7 X.K):=by
 intro pins s σ H xs D Q I r h;obtain⟨x,T,t,b,rfl,ty,e,q⟩:=h;obtain⟨u,G,rfl,C,rt⟩:=vals2 r;cases rt;exact Zbs I C ty e λtk=>⟨.bl b,H,I.tok tk,U,q⟩
def Yk:Ax->Bool
 |.Starred _ _=>false
 |_=>true
def Zy{rest:An}{env:Env}(h:Yk e=true):starEach (e::rest) env=(false,eval e env)::starEach rest env:=by
 cases e<;>first
  |rfl
  |cases h
theorem Xa{pos:Pos}{env:Env}:∀{es:An},es.all Yk=true->(backTo pos (starEach es env)).any (·.1)=false
 |[],_=>rfl
 |e::es,h=>by
  rw[Qcu,Qby]at h;rw[Zy h.1];show(false||(backTo pos _).any _)=false;rw[Xa h.2];rfl
theorem all_plain{pos:Pos}{env:Env}:∀{es:An},es.all Yk=true->(backTo pos (starEach es env)).all (λx=>!x.1)=true
 |[],_=>rfl
 |e::es,h=>by
  rw[Qcu,Qby]at h;rw[Zy h.1];show(true&&(backTo pos _).all _)=true;rw[all_plain h.2];rfl
section
variable {X:Cx}{CX:CXT}{k:Nat}{f C:Aw}{fd:Ao}{ps:Ai}{sp:Sp}{dvs:A8}{ds:Ag}{E:XK}{x m:Str}{p pos apos:Pos}{e o:Ax}{es:An}{ta te:TE}{t:TA}{id T:String}{r:A8->Hp->VK->Prop}
def pa_c(N:PE X e te)(Ua:PA X es t)(G:Yk e=true:=by rfl):PA X (e::es) (Zbt te t):=by
 intro pos pins s σ H Q I h;rw[(Zy G)];refine Qcx (thn (N pins s σ H _ I h) λu O ⟨x,H1,M,r,L⟩=>(thn (Ua pos pins O σ H1 _ M L) λY Z ⟨xs,H2,C,D,S⟩=>⟨x::xs,H2,C,.cons r D,S⟩))
def Zfo(F:kC X.prog X.w X.K X.mg X.base CX k f fd ps sp)(O:WL k X.A)(N:Gl X x)(G:X.mg x=some (.ref f))(D:PySem.W.keepIn X.K (.ref f)=true)(Q:Binds X.K fd ps ds)(M:Vals dvs ds)(I:Passes CX X E)
  (L:PA X (e::es) t) (C:(x == ("__debug__" : Str))=false:=by decide) (r:(e::es).all Yk=true:=by rfl):PE X (.Call (.Name x p) (e::es) [] pos) (Zfk sp dvs E t):=by
 rw[Qcu,Qby]at r;exact Zjc F O N G D Q M I L C (Zy r.1) (Xa r.2)
def Zb0 (O:Xf X (.builtin id) r) (hg:Gl X x) (S:X.mg x=none) (Ua:bootBuiltins x=some (.builtin id)) (Z:PA X (e::es) t) (N:x ≠ "__name__" :=by decide) (C:(x == ("__debug__" : Str))=false:=by decide)
  (D:(e::es).all Yk=true:=by rfl):PE X (.Call (.Name x p) (e::es) [] pos) (tCB r t):=by
 rw[Qcu,Qby]at D;intro pins s σ H Q I h;refine Qc7 (qj I hg S Ua (PyProof.Rows.callWith_builtin1 (thn (Z pos pins s σ H _ I h) λG s1 ⟨vs,H1,Y,L,M⟩=>O pins s1 σ H1 vs G Q Y L M) (Zy D.1) (Xa D.2)) N C)
def Zb1 (O:Xf X (.type T) r) (hg:Gl X x) (S:X.mg x=none) (Ua:bootBuiltins x=some (.type T)) (Z:PA X (e::es) t) (N:x ≠ "__name__" :=by decide) (C:(x == ("__debug__" : Str))=false:=by decide)
  (D:(e::es).all Yk=true:=by rfl):PE X (.Call (.Name x p) (e::es) [] pos) (tCB r t):=by
 rw[Qcu,Qby]at D;intro pins s σ H Q I h;refine Qc7 (qj I hg S Ua (Qc6 (thn (Z pos pins s σ H _ I h) λG s1 ⟨vs,H1,Y,L,M⟩=>O pins s1 σ H1 vs G Q Y L M) (Zy D.1) (Xa D.2)) N C)
end
def Y7:bootBuiltins "len" = some (.builtin "len"):=by decide +kernel
def bt_sum:bootBuiltins "sum" = some (.builtin "sum"):=by decide +kernel
def Yg:bootBuiltins "isinstance" = some (.builtin "isinstance"):=by decide +kernel
def xu:bootBuiltins "sorted" = some (.builtin "sorted"):=by decide +kernel
def bt_all:bootBuiltins "all" = some (.builtin "all"):=by decide +kernel
def Wu:bootBuiltins "int" = some (.type "int"):=by decide +kernel
def Zh1:bootBuiltins "str" = some (.type "str"):=by decide +kernel
def Zb2:bootBuiltins "list" = some (.type "list"):=by decide +kernel
def Yr:bootBuiltins "tuple" = some (.type "tuple"):=by decide +kernel
def Zh2:bootBuiltins "set" = some (.type "set"):=by decide +kernel
def kK:bootBuiltins "reversed" = some (.type "reversed"):=by decide +kernel
def Xv :PySem.W.kitOne K (.type "int") (.type "int")=some true:=by rfl
def yW :PySem.W.kitOne K (.type "int") (.type "bool")=some false:=by with_unfolding_all rfl
def Xw :PySem.W.kitOne K (.type "str") (.type "int")=some false:=by with_unfolding_all rfl
def xw :PySem.W.kitOne K (.type "str") (.type "str")=some true:=by rfl
def xx :PySem.W.kitOne K (.type "int") (.type "str")=some false:=by with_unfolding_all rfl
structure QE(X:Cx)(e:Ax)(t:TE):Prop where
 out:PE X e t
structure QT(X:Cx)(e:Ax)(t:TT):Prop where
 out:PT X e t
structure QW(X:Cx)(e:Ax)(t:TT):Prop where
 out:PW X e t
structure QA(X:Cx)(e:An)(t:TA):Prop where
 out:PA X e t
structure QSs(X:Cx)(e:List Ay)(t:TS):Prop where
 out:PSs X e t
structure QS(X:Cx)(e:Ay)(t:TS):Prop where
 out:PS X e t
structure QG(X:Cx)(e:Ax)(t:TG):Prop where
 out:PG X e t
structure QI(X:Cx)(tg e:Ax)(t:TI):Prop where
 out:PI X tg e t
def qv {X:Cx} (i:Nat)   (C:X.N[i]?=some x:=by rfl) (G:Vis X.env.scope x:=by first|exact Or.inl U|exact Or.inr (Or.inl U)|exact Or.inr (Or.inr U)) (D:(x == ("__debug__" : Str))=false:=by decide) (r:(x == ("__classdict__" : Str))=false:=by decide):QE X (.Name x p) (Ze8 i):=⟨Zhi C G D r⟩
def Ze{X:Cx}{i j pos:_}:QE X (.Constant (.int i) j pos) (tC (.int i)):=⟨λ_ _ _ H _ I h=>wpAny_Constant_int ⟨.int i,H,I.tok _,⟨_,U⟩,h⟩⟩
def XT{X:Cx}{b j pos:_}:QE X (.Constant (.bool b) j pos) (tC (.bl b)):=⟨λ_ _ _ H _ I h=>Constant_bool ⟨.bl b,H,I,U,h⟩⟩
def Zh{X:Cx}{x j pos:_}:QE X (.Constant (.str x) j pos) (tC (.str x)):=⟨λ_ _ _ H _ I h=>Calls.Constant_str ⟨.str x,H,I.tok _,⟨_,U⟩,h⟩⟩
def Wi {X:Cx}  {v:V}   (G:Gl X x) (C:X.mg x=some u) (r:RelV v u) (D:(x == ("__debug__" : Str))=false:=by decide):QE X (.Name x p) (tC v):=⟨λ_ _ _ H _ I h=>jM I G C ⟨v,H,I,r,h⟩ D⟩
def WS {X:Cx}  {v:V}   (M:Gl X x) (D:X.mg x=none) (G:bootBuiltins x=some u) (r:RelV v u) (C:x ≠ "__name__" :=by decide) (L:(x == ("__debug__" : Str))=false:=by decide):QE X (.Name x p) (tC v):=⟨λ_ _ _ H _ I h=>qj I M D G ⟨v,H,I,r,h⟩ C L⟩
theorem Zl{X:Cx}{a:Ax}{b:Ax}{C:Operator}{r:R2}(N:OpR X (binaryOp C) r)(Ua:QE X a d)(L:QE X b M):QE X (.BinOp a C b p) (tOp r d M):=⟨by
 intro pins s σ H Q I h;exact wpAny_BinOp (binT Ua.out L.out I h λv u O x y H2 G S D q=>N pins O σ H2 x y v u Q G S D q)⟩
theorem JW{X:Cx}{a:Ax}{C:UnaryOp}{r:V->Hp->VK->Prop}(L:UnR X (unaryOp C) r)(N:QE X a d):QE X (.UnaryOp C a p) (tUn r d):=⟨by
 intro pins s σ H Q I h;exact UnaryOp_ (thn (N.out pins s σ H _ I h) λv O ⟨x,H1,M,D,G⟩=>L pins O σ H1 x v Q M D G)⟩
theorem Yn{X:Cx}{a:Ax}{b:Ax}{C:CmpOp}{r:R2}(N:OpR X (compareOp C) r)(Y:QE X a d)(L:QE X b M)(S:behindInMarks C b=false):QE X (.Compare a [C] [b] p) (tOp r d M):=⟨by
 intro pins s σ H Q I h;exact wpAny_Compare1 (binT Y.out L.out I h λv u O x y H2 G Ua D q=>N pins O σ H2 x y v u Q G Ua D q) S⟩
theorem Zo{X:Cx}{a:Ax}{b:Ax}{C:CmpOp}{r:R2}(ho:OpR X (compareOp C) r)(ha:QE X a d)(hb:QE X b M)(hm:behindInMarks C b=false):QT X (.Compare a [C] [b] p) (tTest (tOp r d M)):=⟨by
 intro pins s σ H Q I h;refine wpAny_isTrue_Compare1 (thn (ha.out pins s σ H _ I h) λv S ⟨x,H1,I1,D,N⟩=>thn (hb.out pins S σ H1 _ I1 N) λu O ⟨y,H2,G,Y,Ua⟩=>
  thn (ho pins O σ H2 x y v u _ G D Y Ua) λc s3 ⟨z,H3,I3,Z,k,e,L⟩=>?_) hm
 subst e;cases Z;exact Qdk ⟨H3,I3,L⟩⟩
def Xx{X:Cx}{t:TE}(h:QE X e t)(L:∀r,isTrue e X.env r=(do let v <-r;standAt e.pos;holding [v] (truthy v)):=by intro _;rfl):QT X e (tB t):=⟨by
 intro pins s σ H Q I hw;refine isTrue_plain (thn (h.out pins s σ H _ I hw) λv M ⟨x,H1,G,C,D⟩=>?_) (L _);obtain⟨d,rfl,q⟩:=D;cases C;exact Qdk ⟨H1,G,q⟩⟩
theorem WT{X:Cx}{a:Ax}(r:QT X a G):QW X (.BoolOp .And [a] p) G:=⟨by
 intro D pins s σ H Q I h;refine isTrue_and (thn (r.out pins s σ H Q I h) λc C e=>?_);cases c with
 |true=>exact isTrue_and_nil e
 |false=>exact e⟩
theorem yX{X:Cx}{a:Ax}(r:QT X a G):QW X (.BoolOp .Or [a] p) G:=⟨by
 intro D pins s σ H Q I h;refine isTrue_or (thn (r.out pins s σ H Q I h) λc C e=>?_);cases c with
 |false=>exact isTrue_or_nil e
 |true=>exact e⟩
theorem qm{X:Cx}{a:Ax}{b:Ax}{tB':TT}{rest:An}(M:QT X a G)(L:QW X (.BoolOp .And (b::rest) p) tB'):QW X (.BoolOp .And (a::b::rest) p) (tAnd G tB'):=⟨by
 intro D pins s σ H Q I h;refine isTrue_and (thn (M.out pins s σ H _ I h) λc N ⟨H1,C,r⟩=>?_);cases c with
 |true=>exact L.out D pins N σ H1 Q C r
 |false=>exact⟨H1,C,r⟩⟩
theorem Zb3{X:Cx}{a:Ax}{b:Ax}{tB':TT}{rest:An}(M:QT X a G)(L:QW X (.BoolOp .Or (b::rest) p) tB'):QW X (.BoolOp .Or (a::b::rest) p) (tOr G tB'):=⟨by
 intro D pins s σ H Q I h;refine isTrue_or (thn (M.out pins s σ H _ I h) λc N ⟨H1,C,r⟩=>?_);cases c with
 |true=>exact⟨H1,C,r⟩
 |false=>exact L.out D pins N σ H1 Q C r⟩
theorem Zh3{X:Cx}{a:Ax}(C:QT X a G):QT X (.UnaryOp .Not a p) (tNot G):=⟨by
 intro pins s σ H Q I h;exact isTrue_not (thn (C.out pins s σ H _ I h) λc D ⟨H1,r,q⟩=>⟨H1,r,q⟩)⟩
def JX{X:Cx}{a:Ax}{r:_}{t:TE}(h:QE X a t):QE X (.BoolOp r [a] p) t:=⟨λpins s σ H Q I hw=>BoolOp_one (h.out pins s σ H Q I hw)⟩
theorem jh{X:Cx}{a:Ax}{b:Ax}{rest:An}(L:QE X a d)(G:QE X (.BoolOp .And (b::rest) p) M):QE X (.BoolOp .And (a::b::rest) p) (tAndV d M):=⟨by
 intro pins s σ H Q I h;refine BoolOp_and (thn (L.out pins s σ H _ I h) λv N ⟨x,H1,C,D,r⟩=>?_);obtain⟨c,rfl,r⟩:=r;cases D;refine Qdk ?_;cases c with
 |true=>exact G.out pins N σ H1 Q C r
 |false=>exact⟨.bl false,H1,C,U,r⟩⟩
theorem Zji{X:Cx}{a:Ax}{b:Ax}{rest:An}(L:QE X a d)(G:QE X (.BoolOp .Or (b::rest) p) M):QE X (.BoolOp .Or (a::b::rest) p) (tOrV d M):=⟨by
 intro pins s σ H Q I h;refine BoolOp_or (thn (L.out pins s σ H _ I h) λv N ⟨x,H1,C,D,r⟩=>?_);obtain⟨c,rfl,r⟩:=r;cases D;refine Qdk ?_;cases c with
 |false=>exact G.out pins N σ H1 Q C r
 |true=>exact⟨.bl true,H1,C,U,r⟩⟩
theorem Zb4{X:Cx}{a:Ax}(G:QE X a d):QE X (.UnaryOp .Not a p) (tNotV d):=⟨by
 intro pins s σ H Q I h;refine UnaryOp_ (thn (G.out pins s σ H _ I h) λv L ⟨x,H1,D,C,r⟩=>?_);obtain⟨c,rfl,r⟩:=r;cases C;exact not_of (Qdk ⟨.bl (!c),H1,D,U,r⟩)⟩
def Zx{X:Cx}:QSs X [] tNext:=⟨λ_ _ σ H _ I h=>Qge ⟨σ,H,I,h⟩⟩
theorem Zc{X:Cx}{st:Ay}{rest:List Ay}{t:TS}{u:TS}(h1:QS X st t)(h2:QSs X rest u):QSs X (st::rest) (Yl t u):=⟨by
 intro pins s σ H D I h;refine wpAny_execs_cons (thn (h1.out pins s σ H _ I h) λf C q=>?_);cases f with
 |next=>
  obtain⟨r,H',G,q⟩:=q;exact h2.out pins C r H' D G q
 |ret v=>exact q
 |brk=>exact q
 |cont=>exact q⟩
theorem Zf{X:Cx}{st:Ay}{t:TS}(h1:QS X st t):QSs X [st] t:=⟨by
 intro pins s σ H D I h;refine wpAny_execs_cons (thn (h1.out pins s σ H D I h) λf r q=>?_);cases f with
 |next=>exact Qge q
 |ret v=>exact q
 |brk=>exact q
 |cont=>exact q⟩
def Yb{X:Cx}(L:QE X e d)(C:swapsWith e none p.line X.env=pure false:=by rfl):QS X (.Expr e p) (tDrop d):=⟨by
 intro pins s σ H D I h;exact wpAny_Expr_any (thn (L.out pins s σ H _ I h) λv N ⟨x,H1,G,M,r⟩=>⟨σ,H1,G,r⟩) I.quiet C⟩
theorem Zn{X:Cx}(L:QE X e d):QS X (.Return (some e) p) (tRet d):=⟨by
 intro pins s σ H D I h;exact wpAny_Return_some (thn (L.out pins s σ H _ I h) λv M ⟨x,H1,G,C,r⟩=>⟨x,σ,H1,G,C,r⟩)⟩
theorem ZJ{X:Cx}{t:TS}{u:TS}{c:Ax}{a b:List Ay}(N:QT X c G)(O:QSs X a t)(M:QSs X b u):QS X (.If c a b p) (Zm5 G t u):=⟨by
 intro pins s σ H D I h;refine wpAny_If (thn (N.out pins s σ H _ I h) λd L ⟨H1,C,r⟩=>?_);cases d with
 |true=>exact O.out pins L σ H1 D C r
 |false=>exact M.out pins L σ H1 D C r⟩
theorem Zjj{X:Cx}(r:X.N.Nodup)(hi:X.N[i]?=some x)(C:Loc X.env.scope x)(D:X.fn x=true\/X.env.scope.names.lookup x=some .local:=by first|exact .inl U|exact .inr U|assumption):QG X (.Name x p) (Wg i):=⟨jN r hi C⟩
theorem Xh{X:Cx}(i:Nat)(r:X.N.Nodup)(hi:X.N[i]?=some x:=by exact U)(D:Loc X.env.scope x:=by first|exact .inl U|exact .inr U)(C:X.fn x=true\/X.env.scope.names.lookup x=some .local:=by first|exact .inl U|exact .inr U|assumption):QG X (.Name x p) (Wg i):=Zjj r hi D C
def Zh4{X:Cx}{i:Ax}{t:TSet}(ho:QE X o d)(hi:QE X i M)(G:PSet X t)(ha:∀v,assign (.Subscript o i p) X.env v=(do
   let C <-holding [v] (eval o X.env);let D <-holding [v,C] (eval i X.env)
   standAt p
   holding [v,C,D] (setItem C D v)
   release [v,C,D] []):=by intro _;rfl):QG X (.Subscript o i p) (gSub d M t):=⟨by
 intro pins s σ H v u Q I r h;rw[ha];refine Qaa (Qcb (thn (ho.out pins s σ H _ I h) λC s1 ⟨x,H1,I1,L,Ua⟩=>(Qaa (Qcb (thn (hi.out pins s1 σ H1 _ I1 Ua) λD Z ⟨y,H2,N,S,q2⟩=>(Qaa (wpAny_standAt (Qaa (Qcb (thn (G pins Z σ H2 x y v C D u _ N L S r q2) λ_ s3 ⟨H3,Y,O⟩=>(wpAny_release ⟨σ,H3,Y,O⟩)))))))))))⟩
def Zh5{X:Cx}{g:TG}(O:QE X e d)(N:QG X o g)(r:swapsWithSole [o] e p.line X.env=pure false:=by rfl)(hw:swappedStores [o] e X.env=pure none:=by rfl)(h1:(assignEach [o] X.env).map (·.2)=[assign o X.env]:=by rfl):QS X (.Assign [o] e p) (Zlv d g):=⟨by
 intro pins s σ H D I h;refine wpAny_Assign_stores (thn (O.out pins s σ H _ I h) λv M ⟨x,H1,L,C,G⟩=>?_) r hw;rw[h1];exact thn (N.out pins M σ H1 x v _ L C G) λ_ Q q=>q⟩
theorem qs_set{X:Cx}(r:X.N.Nodup)(hi:X.N[i]?=some x)(G:Loc X.env.scope x)(D:QE X e d)(C:swapsWith e (some (.Name x E)) p.line X.env=pure false:=by rfl)(I:X.fn x=true\/X.env.scope.names.lookup x=some .local:=by first|exact .inl U|exact .inr U|assumption):QS X (.Assign [.Name x E] e p) (Zlv d (Wg i)):=⟨ps_set r hi G D.out C⟩
theorem Zu{X:Cx}(i:Nat)(r:X.N.Nodup)(G:QE X e d)(hi:X.N[i]?=some x:=by exact U)(I:Loc X.env.scope x:=by first|exact .inl U|exact .inr U)(D:swapsWith e (some (.Name x E)) p.line X.env=pure false:=by rfl)(C:X.fn x=true\/X.env.scope.names.lookup x=some .local:=by first|exact .inl U|exact .inr U|assumption):QS X (.Assign [.Name x E] e p) (Zlv d (Wg i)):=qs_set r hi I G D C
theorem qV{X:Cx}{c:Ax}{body:List Ay}(hp:PassesOwn (model X.prog X.w) X.A X.env X.xe)(hc:QT X c G)(hb:QSs X body q):QS X (.While c body [] p) (Zhn G q):=⟨by
 intro pins s σ H D I h;obtain⟨W,⟨m0,w0⟩,M⟩:=h;refine wpAny_While (codeAny_whileLoop (λn s'=>∃L H',Inv X pins L H' s'/\W n L H') ?_ m0 ⟨σ,H,I,w0⟩);rintro n s1 ⟨C,H1,I1,w1⟩;refine Qdy hp (thn (hc.out pins s1 C H1 _ I1 (M n C H1 w1)) λb s2 ⟨H2,I2,S⟩=>?_);cases b with
 |true=>
  obtain⟨N,hN,S⟩:=S;refine Qdy hp (thn (hb.out pins s2 C H2 _ I2 S) λf s3 Q=>?_);cases f with
  |next=>
   obtain⟨r,O,Z,n3⟩:=Q;obtain⟨Y,hm,Ua⟩:=hN r O n3;exact⟨Y,hm,r,O,Z,Ua⟩
  |cont=>
   obtain⟨r,O,Z,n3⟩:=Q;obtain⟨Y,hm,Ua⟩:=hN r O n3;exact⟨Y,hm,r,O,Z,Ua⟩
  |brk=>exact Q
  |ret v=>exact Q
 |false=>
  exact Qge ⟨C,H2,I2,S⟩⟩
def YG{X:Cx}{tg:Ax}{l:Ax}(N:QE X l d):QI X tg l (Zfg X.K d):=⟨by
 intro pins s σ H R I h;refine thn (N.out pins s σ H _ I h) λv S ⟨x,H1,r,C,M⟩=>?_;obtain⟨a,e,⟨xs,G⟩,q⟩:=M;subst e;cases C;obtain⟨D,O,p,Q⟩:=r.list G;refine Qfq p.isList ⟨_,_,_,_,H1,U,r.kept λb o e=>Qad _ e,Zbf a _,⟨_,Qam _ U,U,U⟩,λb L=>?_,q⟩;have e:=by simpa using L
 subst e;exact r.fpOk (Qah _) (r.hok.fresh (Qah _))⟩
def J4{X:Cx}{tg:Ax}{l:Ax}(N:QE X l d):QI X tg l (iTup X.K d):=⟨by
 intro pins s σ H R I h;refine thn (N.out pins s σ H _ I h) λv S ⟨x,H1,r,C,M⟩=>?_;obtain⟨a,e,⟨xs,G⟩,q⟩:=M;subst e;cases C;obtain⟨D,O,p,Q⟩:=r.tuple G;refine wpAny_pyIter_tuple (p) ⟨_,_,_,_,H1,U,r.kept λb o e=>Qad _ e,uI a _,⟨_,Qam _ U,U,U⟩,λb L=>?_,q⟩;have e:=by simpa using L
 subst e;exact r.fpOk (Qah _) (r.hok.fresh (Qah _))⟩
def YD{X:Cx}{iter:Ax}{body:List Ay}{wi:TI}{g:TG}(r:PassesOwn (model X.prog X.w) X.A X.env X.xe)(D:X.calm=true)(hi:QI X e iter wi)(G:QG X e g)(I:QSs X body q)(C:∀x,foldedSetIterable iter X.env x=pure x:=by intro _;rfl):QS X (.For e iter body [] p) (tFor wi g q):=⟨ps_for r D hi.out G.out I.out C⟩
theorem Z0{X:Cx}{t:TA}{G:_}(h:QA X A t):QE X (.Tuple A G p) (tTup t):=⟨by
 intro pins s σ H Q I L;refine wpAny_Tuple_spliced (thn (h.out p pins s σ H _ I L) λD N ⟨xs,H1,C,r,z,q⟩=>⟨by rw[<-r.length];exact z,?_⟩);have M:=C.hok.fresh (Qah _);refine⟨.ref _,_,C.laid (λb u e=>Qad _ e) (Qah _) ?_,U,q _ M⟩;exact⟨z,D,r,gj.new _ _⟩⟩
theorem ZA{X:Cx}{t:TA}(h:QA X A t):QE X (.List A p) (tLst t):=⟨by
 intro pins s σ H Q I G;refine wpAny_List_spliced (thn (h.out p pins s σ H _ I G) λD M ⟨xs,H1,C,r,z,q⟩=>⟨by rw[<-r.length];exact z,?_⟩);have L:=C.hok.fresh (Qah _);refine⟨.ref _,_,C.laid (λb u e=>Qad _ e) (Qah _) ?_,U,q _ L⟩;exact⟨z,D,0,r,Qam _ U⟩⟩
def Zd{X:Cx}:QA X [] tNil:=⟨λ_ _ _ _ H Q I h=>Qd0 ⟨[],H,I,.nil,h⟩⟩
def Zi{X:Cx}{t:TA}(C:QE X e d)(D:QA X A t)(r:Yk e=true:=by rfl):QA X (e::A) (Zbt d t):=⟨pa_c C.out D.out r⟩
def Yx {X:Cx} {CX:CXT} {k:Nat}  {fd:Ao} {ps:Ai} {sp:Sp}   {E:XK}   {pos:Pos}  {es:An} {t:TA} (F:kC X.prog X.w X.K X.mg X.base CX k f fd ps sp) (S:WL k X.A) (Q:Gl X x) (N:X.mg x=some (.ref f)) (M:PySem.W.keepIn X.K (.ref f)=true) (I:Binds X.K fd ps Ua) (G:Vals r Ua) (D:Passes CX X E) (O:QA X (e::es) t) (C:(x == ("__debug__" : Str))=false:=by decide) (L:(e::es).all Yk=true:=by rfl):QE X (.Call (.Name x p) (e::es) [] pos) (Zfk sp r E t):=⟨Zfo F S Q N M I G D O.out C L⟩
def Zp {X:Cx}      {t:TA} {id:String} {r:A8->Hp->VK->Prop} (I:Xf X (.builtin id) r) (O:Gl X x) (M:X.mg x=none) (L:bootBuiltins x=some (.builtin id)) (N:QA X (e::A) t) (G:x ≠ "__name__" :=by decide) (C:(x == ("__debug__" : Str))=false:=by decide) (D:(e::A).all Yk=true:=by rfl):QE X (.Call (.Name x p) (e::A) [] E) (tCB r t):=⟨Zb0 I O M L N.out G C D⟩
def Z4 {X:Cx}      {t:TA} {T:String} {r:A8->Hp->VK->Prop} (I:Xf X (.type T) r) (O:Gl X x) (M:X.mg x=none) (L:bootBuiltins x=some (.type T)) (N:QA X (e::A) t) (G:x ≠ "__name__" :=by decide) (C:(x == ("__debug__" : Str))=false:=by decide) (D:(e::A).all Yk=true:=by rfl):QE X (.Call (.Name x p) (e::A) [] E) (tCB r t):=⟨Zb1 I O M L N.out G C D⟩
def Xb {X:Cx}   {t:TA} {a:Ax} (D:Gl X "range") (G:X.mg "range" = none) (C:QA X [a] t) (r:Yk a=true:=by rfl):QI X e (.Call (.Name "range" p) [a] [] E) (Zlz t):=⟨Zbi D G C.out (by rw[Zy r];rfl)⟩
def Yy {X:Cx}     {t:TA} {id:String} {T:String} {name:Str}   {M:V->List V->Hp->VK->Prop} (S:PlainAttrs T) (G:Slot T name id) (I:typeOf (.builtin id)=pure (.type "method_descriptor")) (O:MtR X id M) (N:QE X o d) (Q:QA X (e::A) t) (D:attributeBase o name X.env (eval o X.env)=eval o X.env:=by rfl) (r:(p.endLine == E.line)=true:=by rfl) (L:(e::A).all Yk=true:=by rfl) (Ua:(e::A).length<30:=by decide):QE X (.Call (.Attribute o name p) (e::A) [] E) (tBM X.K T M d t):=⟨by
 have C:=L;rw[Qcu,Qby]at C;refine pe_bm S G I O N.out Q.out D ?_ r (Zy C.1) (Xa C.2);rw[all_plain L];exact Qaq Ua⟩
def WU {X:Cx}   {name:Str}   {T:String} {id:String} {r:V->List V->Hp->VK->Prop} (O:PlainAttrs T) (G:Slot T name id) (L:typeOf (.builtin id)=pure (.type "method_descriptor")) (Y:MtR X id r) (Ua:QE X o d) (D:attributeBase o name X.env (eval o X.env)=eval o X.env:=by rfl) (C:(p.endLine == E.line)=true:=by rfl):QE X (.Call (.Attribute o name p) [] [] E) (tBM0 X.K T r d):=⟨by
 intro pins s σ H Q I h;refine wpAny_Call_method0_late D C (thn (Ua.out pins s σ H _ I h) λv Z ⟨x,H1,N,M,ty,S⟩=>?_);obtain⟨h1,h2⟩:=Zhv N M ty;exact⟨T,id,O,G,L,h1,h2,Qda U (PySem.evalArgs_none (Y pins Z σ H1 x [] v [] Q N M .nil S))⟩⟩
def Z1{X:Cx}{a:Ax}{b:Ax}{r:R2}(Ua:IxR X r)(S:QE X a d)(L:QE X b M)(D:Zjd b:=by exactλ_ _=>U):QE X (.Subscript a b p) (tOp r d M):=⟨by
 intro pins s σ H Q I h;exact Subscript_ (binT S.out L.out I h λv u N x y H2 G O C q=>Ua a b pins N σ H2 x y v u Q G O C q (D _ _))⟩
def GL{X:Cx}{t:TT}(h:QW X e t):QT X e t:=⟨h.out.pt⟩
end L2
set_option maxHeartbeats 4000000
namespace L2
def ji(cells:List (Str×Aw)):List (Str×NameKind)->List (Str×Aw)->List (Str×Aw)
 |[],acc=>acc
 |(n,k)::r,acc=>ji cells r (if(k == NameKind.free)=true then(n,(cells.lookup n).getD 0)::acc else acc)
noncomputable def jj{env:Env}:∀(names:List (Str×NameKind))(acc:List (Str×Aw)),(∀y∈names,y.2=.free->∃c,env.cells.lookup y.1=some c)->
  (forIn names acc λ(x:Str×NameKind) (r:List (Str×Aw))=>match x with
   | (name,kind)=>if (kind == NameKind.free)=true then do let a <-cellOf env name;pure (ForInStep.yield ((name,a)::r)) else pure (ForInStep.yield r):Sem (List (Str × Aw)))=pure (ji env.cells names acc)
 |[],acc,_=>rfl
 |(n,k)::r,acc,h=>by
  rw[Qhe];have I:=λC=>jj r C λy L=>h y (Qal _ L)
  by_cases G:(k == NameKind.free)=true
  .obtain⟨c,M⟩:=h (n,k) Qaj (by grind);have D:=M;have e:cellOf env n=pure c:=by unfold cellOf;rw[D]
   simp only[G,e];rw[ji,Qa5 G,D];exact I _
  .rw[ji];simp only[G];exact I acc
def Jv{scope:Scope}{env:Env}(h:∀y∈scope.names,y.2=.free->∃c,env.cells.lookup y.1=some c):closureFor scope env=pure (ji env.cells scope.names []):=by
 show(do let r <-_;pure r)=_;rw[jj _ [] h];rfl
noncomputable def JY{cells:List (Str×Aw)}:∀{names:List (Str×NameKind)} {acc:List (Str×Aw)},(∀y∈names,y.2=.free->∃c,cells.lookup y.1=some c)->(∀x c,acc.lookup x=some c->cells.lookup x=some c)->
  ∀x c,(ji cells names acc).lookup x=some c->cells.lookup x=some c
 |[],acc,_,L,x,c,h=>L x c h
 |(n,k)::r,acc,M,L,x,c,h=>by
  refine JY (λy G=>M y (Qal _ G)) (λy d C=>?_) x c h
  by_cases N:(k == NameKind.free)=true
  .rw[Qa5 N]at C;obtain⟨e,O⟩:=M (n,k) Qaj (by grind);have D:=O;rw[D,Qc9]at C;cases G:y == n with
   |true=>
    rw[G]at C;have I:y=n:=by grind
    rw[I,D];exact C
   |false=>
    rw[G]at C;exact L y d C
  .grind
theorem yY{cells:List (Str×Aw)}:∀{names:List (Str×NameKind)} {acc:List (Str×Aw)} {x:Str},(∃c,acc.lookup x=some c)->∃c,(ji cells names acc).lookup x=some c
 |[],acc,x,h=>h
 |(n,k)::r,acc,x,h=>by
  rw[ji];refine yY ?_
  by_cases C:(k == NameKind.free)=true
  .grind
  .rw[Qaw C];exact h
theorem Jw{cells:List (Str×Aw)}:∀{names:List (Str×NameKind)} {acc:List (Str×Aw)} {x:Str},names.lookup x=some .free->∃c,(ji cells names acc).lookup x=some c
 |[],acc,x,h=>by cases h
 |(n,k)::r,acc,x,h=>by
  rw[ji];rw[Qc9]at h;cases hx:x == n with
  |true=>
   rw[hx]at h;refine yY ?_;rw[Option.some.inj h,Qa5 (by rfl),Qc9,hx];exact⟨_,U⟩
  |false=>
   rw[hx]at h;exact Jw h
noncomputable def qo{scope:Scope}{env:Env}(D:env.scope.kind=.function):∀{names:List (Str×NameKind)} {x:Str},names.lookup x=some .free->env.kindOf x=some .cell->
  (names.map λ(n,k)=>if(k == NameKind.free&&env.scope.kind == .function&&env.kindOf n == some .cell)=true then(n,NameKind.cell)else(n,k)).lookup x=some .cell
 |[],_,h,_=>by cases h
 |(n,k)::r,x,h,G=>by
  rw[Qc9]at h;show List.lookup x ((if(k == NameKind.free&&env.scope.kind == .function&&env.kindOf n == some .cell)=true then(n,NameKind.cell)else(n,k))::_)=_;cases hx:x == n with
  |true=>
   rw[hx]at h;have C:x=n:=by grind
   rw[Option.some.inj h,D,<-C,G];simp
  |false=>
   rw[hx]at h;have I:=qo (scope:=scope) D h G
   by_cases L:(k == NameKind.free&&env.scope.kind == .function&&env.kindOf n == some .cell)=true
   .grind
   .grind
def JZ{env:Env}:∀{names:List (Str×NameKind)} {x:Str},names.lookup x=some .free->env.kindOf x=some .free->
  (names.map λ(n,k)=>if(k == NameKind.free&&env.scope.kind == .function&&env.kindOf n == some .cell)=true then(n,NameKind.cell)else(n,k)).lookup x=some .free
 |[],_,h,_=>by cases h
 |(n,k)::r,x,h,D=>by
  rw[Qc9]at h;show List.lookup x ((if(k == NameKind.free&&env.scope.kind == .function&&env.kindOf n == some .cell)=true then(n,NameKind.cell)else(n,k))::_)=_;cases hx:x == n with
  |true=>
   rw[hx]at h;have C:¬(k == NameKind.free&&env.scope.kind == .function&&env.kindOf n == some .cell)=true:=by grind
   rw[Qaw C,Qc9,hx,Option.some.inj h]
  |false=>
   rw[hx]at h;have G:=JZ h D
   by_cases C:(k == NameKind.free&&env.scope.kind == .function&&env.kindOf n == some .cell)=true
   .grind
   .grind
theorem qp{env:Env}:∀{names:List (Str×NameKind)} {x:Str},(∀y∈names,y.2≠.cell)->
    ((names.map λ(n,k)=>if(k == NameKind.free&&env.scope.kind == .function&&env.kindOf n == some .cell)=true then(n,NameKind.cell)else(n,k)).lookup x=some .cell \/
     (names.map λ(n,k)=>if(k == NameKind.free&&env.scope.kind == .function&&env.kindOf n == some .cell)=true then(n,NameKind.cell)else(n,k)).lookup x=some .free)->names.lookup x=some .free
  |[],_,_,h=>by grind
  |(n,k)::r,x,C,h=>by
    have G:=qp (env:=env) (x:=x) λy D=>C y (Qal _ D)
    by_cases I:(k == NameKind.free&&env.scope.kind == .function&&env.kindOf n == some .cell)=true
    . grind
    . grind
def cxC(X:Cx)(N':Ai)(scope:Scope)(C:Aw)(s₂:As)(H₂:Hp)(ex:List Aw):Cx:=
 {X with N:=N',s₀:=s₂,H₀:=H₂,env:=compEnvC scope (ji X.env.cells scope.names []) C X.env,outer:=X.stack,stack:=X.stack,ex:=ex,fn:=λ_=>false,pn:=[],xe:=λ_ _=>False}
def zF(is:Aj)(σ:St)(v:Option V):St:=v::is.map λi=>(σ[i]?).getD none
def Zl8(xs:Ai)(is:Aj)(σ:St):St:=xs.map (λ_=>none)++is.map λi=>(σ[i]?).getD none
structure ZW(S scope:Scope)(N:Ai)(x:Str)(ys:Ai)(is:Aj):Prop where
 kind:scope.kind=.function:=by rfl
 cell:∀y∈scope.names,y.2≠.cell:=by decide +kernel
 names:∀y∈scope.names,y.2=.local->scope.names.lookup y.1=some .local:=by decide +kernel
 own:scope.names.lookup x=some .local:=by rfl
 free:∀y∈scope.names,y.2=.free->S.names.lookup y.1=some .cell\/S.names.lookup y.1=some .free:=by decide +kernel
 vis:∀p∈ys.zip is,N[p.2]?=some p.1/\scope.names.lookup p.1=some .free:=by decide +kernel
 len:ys.length=is.length:=by rfl
 nd:(x::ys).Nodup:=by decide +kernel
def PF(X:Cx)(ifs:An)(t:TT):Prop:=
 ∀(pins:Ac)(s:As)(σ:St)(H:Hp)(Q:Bool->Hp->Prop),Inv X pins σ H s->t σ H Q->
  Ba X (forIn ifs true λc r=>if r=true then do let ok <-isTrue c X.env (eval c X.env);pure (ForInStep.yield ok)else pure (ForInStep.yield r)) (TP X pins σ Q) X.xe s
structure QF(X:Cx)(ifs:An)(t:TT):Prop where
 out:PF X ifs t
def Zh6:TT:=λ_ H Q=>Q true H
def Xk{X:Cx}:QF X [] Zh6:=⟨λ_ _ _ H _ I h=>wpAny_tests_nil ⟨H,I,h⟩⟩
def gr{X:Cx}{c:Ax}{t:TT}(h:QT X c t):QF X [c] t:=⟨λpins s σ H Q I hw=>wpAny_tests_one (h.out pins s σ H Q I hw)⟩
section
variable {X:Cx}{S scope:Scope}{N:Ai}{x:Str}{ys:Ai}{is:Aj}{pins:Ac}{σ:St}{H₂:Hp}{s₂:As}{fp:List Aw}
theorem ZW.cellOf'(K:ZW S scope N x ys is)(r:X.env.scope=S)(ok:X.Ok):∀y∈scope.names,y.2=.free->∃c,X.env.cells.lookup y.1=some c:=λy C h=>
 ok.has y.1 (by show X.env.scope.names.lookup y.1=_\/X.env.scope.names.lookup y.1=_;rw[r];exact K.free y C h)
theorem ZW.cl(K:ZW S scope N x ys is)(r:X.env.scope=S)(ok:X.Ok):∀y c,(ji X.env.cells scope.names []).lookup y=some c->X.env.cells.lookup y=some c:=
 JY (K.cellOf' r ok) λ_ _ z=>by cases z
theorem gs{names:List (Str×NameKind)}{y:Str}{k:NameKind}(h:names.lookup y=some k):(y,k)∈names:=by
 induction names with
 |nil=>cases h
 |cons p r C=>
  obtain⟨n,D⟩:=p;rw[Qc9]at h;cases hx:y == n with
  |true=>
   rw[hx]at h;have e1:y=n:=by grind
   rw[e1,Option.some.inj h];exact Qaj
  |false=>
   rw[hx]at h;exact Qal _ (C h)
theorem Zb5{ns:Ai}(K:ZW S scope N x ys is)(D:X.env.scope=S)(I:Inv X pins σ H₂ s₂)(L:s₂.heap.objs.size<=a)(r:∀b∈fp,yJ X pins H₂ b)(G:∀b∈fp,b<s₂.heap.objs.size):(cxC X ns scope a s₂ H₂ fp).Ok where
 mod:=I.ok.mod
 kind:=K.kind
 glob:=I.ok.glob
 blt:=I.ok.blt
 above:=L
 inj:=λy z c h1 h2=>I.ok.inj y z c (K.cl D I.ok y c h1) (K.cl D I.ok z c h2)
 has:=λy M=>Jw (qp K.cell M)
 cab:=λy c h=>by cases h
 hd:=I.ok.hd
 frames:=I.ok.frames
 stk:=.inl U
 exf:=λb C=>⟨λe=>absurd (Qbj (G b C) (Qa1 L (Qhf (Eq.symm e)))) (Qck _),λy c h=>(r b C).2.2.2.2.1 y c (K.cl D I.ok y c h)⟩
 bs:=I.bs
 bsz:=Qa1 I.ok.bsz I.sz
 noex:=λb o e C=>by
  rcases(r b C).2.2.2.1 with z|z
  .exact I.ok.noex b o e z
  .exact absurd (Qbj (Qav e) (Qa1 I.ok.bsz z)) (Qck _)
 exfs:=λb C z=>by
  rcases Qas.mp (I.stkSub b z)with e|e
  .exact(r b C).2.1 e
  .exact(r b C).2.2.1 e
 funs:=I.stack
 frf:=I.stkFree
def Zjk(xs:Ai)(K:ZW S scope N x ys is)(O:X.env.scope=S)(hN:X.N=N)(hk:S.kind=.function)(I:Inv X pins σ H₂ s₂){C:Heap}{tk:Nat}(hC:s₂.heap.objs.size<=a)(hD:s₂.heap.objs.size<=f)(hDC:f≠a)
  (hfp:∀b∈fp,yJ X pins H₂ b) (hlt:∀b∈fp,b<s₂.heap.objs.size) (D:∀b o,s₂.heap.get? b=some o->C.get? b=some o) (hn:C.Ns a λ_=>none) (Y:C.get? f=some L) (hod:∀v,L.data≠.cell v):
  Inv (cxC X (xs++ys) scope a s₂ H₂ fp) [(f,L)] (Zl8 xs is σ) H₂ {s₂ with heap:=C,toks:=tk}:=by
 have ok:=Zb5 (ns:=xs++ys) K O I hC hfp hlt;refine⟨ok,U,I.bare,Un.kept D,⟨_,hn,λi y v h1 h2 h3=>?_⟩,λy c h=>?_,I.hok.fresh hC,λy c h=>I.freeC y c (K.cl O I.ok y c h),λp hp=>?_,I.hok.kept D,?_⟩
 .unfold Zl8 at h2
  by_cases hi:i<xs.length
  .grind
  .have M:(xs++ys)[i]?=some y:=h1;rw[Qax (Qg8 hi)]at M;rw[Qax (by rw[Qab];exact Qg8 hi),Qab]at h2;generalize i-xs.length=i at M h2;have G:=h2;rw[Qai]at G;cases hj:is[i]? with
   |none=>rw[hj]at G;cases G
   |some j=>
    have hσ:σ[j]?=some (some v):=by
     grind
    have hz:(y,j)∈ys.zip is:=by
     obtain⟨a1,e1⟩:=Qaf.mp M;obtain⟨a2,e2⟩:=Qaf.mp hj;rw[<-e1,<-e2,<-Qg9 (h:=by grind)];exact Qbi _
    obtain⟨v1,v2⟩:=K.vis _ hz;have Q:X.env.kindOf y=some .cell\/X.env.kindOf y=some .free:=by show X.env.scope.names.lookup y=_\/X.env.scope.names.lookup y=_;rw[O];exact K.free _ (gs v2) U
    obtain⟨m,hm,hl⟩:=I.loc;obtain⟨u,r,l⟩:=hl j y v (by rw[hN];exact v1) hσ (.inr Q);refine⟨u,r,.inr ?_⟩;rcases l with⟨l1,_⟩|⟨_,c,l2,l3⟩
    .rcases Q with Q|Q<;>rw[Q]at l1<;>cases l1
    .obtain⟨c',Z⟩:=Jw (acc:=[]) v2;have e:c'=c:=by have:=K.cl O I.ok y c' Z;rw[l2]at this;exact(Option.some.inj this).symm
     subst e;refine⟨Q.imp (qo (scope:=scope) (by rw[O];exact hk) v2) (JZ v2),c',Z,?_⟩;obtain⟨o,Ua,hd⟩:=l3;exact⟨o,D _ _ Ua,hd⟩
 .obtain⟨v,o,Ua,hd⟩:=I.cell y c (K.cl O I.ok y c h);exact⟨v,o,D _ _ Ua,hd⟩
 .have e:p=(f,L):=by simpa[cxC]using hp
  subst e;refine⟨Y,I.hok.fresh hD,hDC,λz=>?_,hod⟩;obtain⟨_,o,Ua,_⟩:=ok.funs.mem z;exact absurd (Qbj (Qav Ua) hD) (Qck _)
 .show(Zl8 xs is σ).length=(xs++ys).length;unfold Zl8;rw[Qag,Qab,Qab,Qag,K.len]
def Zjl(I:Inv X pins σ H₂ s₂){N':Ai}{O:St}{H':Hp}{pl:Ac}(M:Inv (cxC X N' scope a s₂ H₂ fp) pl O H' s)(Q:s₂.heap.objs.size<=f)(L:H' f=none)
  (C:∀b∈fp,yJ X pins H₂ b)    (Z:r.length<=sizeLine) (G:Vals r Ua) (Y:s.heap.get? f=some {cls:=.type "list",data:=.seq Ua.toArray n}):
  Inv X pins σ (upd H' f (.lst r)) s:=by
 have b:=M.base;have N:=I.hok.fresh Q;refine I.call' M.os ⟨b.keep,b.slot,λc o e n S=>?_,b.there,λc xs e=>?_,λc o u e=>?_,λc ps e=>?_⟩ (λc u e=>?_) M.bare λc D=>⟨(C c D).2.2.2.1,(C c D).2.1,(C c D).2.2.2.2.1,(C c D).2.2.2.2.2⟩
 .rw[Zj ((λc o e z=>absurd (Qbj (Qav e) (Qa1 Q (Qhf (Eq.symm z)))) (Qck _)) c o e)];exact b.free c o e n S
 .rw[Zj (Zm e N)];exact b.tups c xs e
 .rw[Zj (Zm e N)];exact b.frzs c o u e
 .rw[Zj (Zm e N)];exact b.tbls c ps e
 .by_cases D:c=f
  .subst D;rw[Za]at e;cases e;exact⟨Z,Ua,n,G,Y⟩
  .rw[Zj D]at e;exact(M.hok c u e).stay (λ_ _ _ q=>q) (λd q=>by rw[Zj (Zm q L)];exact q) λd xs q=>by rw[Zj (Zm q L)];exact q
end
section
variable {prog:Aq}{w:Au}{A:Ar}{R:Result->Shared->Prop}{s:As}
def Zb6{C iter:Ax}{ifs:An}{scope:Scope}{it acc:Av}{env:Env}(I:Nat->Shared->Prop)
  (turn:∀n s,I n s->A9 prog w A (pyNext it) (λr G=>match r with
   |none=>R (.ok .next) G
   |some v=>A9 prog w A (letOwnedTupleGo C it v) (λ_ D=>A9 prog w A (assign C env v) (λ_ s₂=>
     A9 prog w A (forIn ifs true λc r=>if r=true then do let ok <-isTrue c env (eval c env);pure (ForInStep.yield ok)else pure (ForInStep.yield r)) (λok L=>
      if ok=true then A9 prog w A (eval o env) (λx M=>
       A9 prog w A (call (.builtin "list.append") [acc,x]) (λ_ Q=>∃m,m<n/\I m Q) (λ_ _=>False) M) (λ_ _=>False) L
      else∃m,m<n/\I m L) (λ_ _=>False) s₂) (λ_ _=>False) D) (λ_ _=>False) G) (λ_ _=>False) s)
  (n:Nat) (h:I n s):
  codeAny (model prog w) A (.compLoop (.ListComp o [⟨C,iter,ifs,0⟩] scope p) 0 it acc env) R s:=by
 refine codeAny_loop U I (λn s hI=>(wpAny_noted ?_)) n h;have Ua:∀{E:Ab} (e:Av) (s':As),False->E e s':=λ_ _ z=>z.elim;refine Qaa (wpAny_standAt (Qaa (Qdb (turn n s hI) (λr G O=>?_) Ua)));cases r with
 |none=>exact Qae O
 |some v=>
  refine Qaa (Qdb O (λ_ D S=>(Qaa (Qdb S (λ_ s₂ Z=>Qaa (Qdb Z (λok L N=>?_) Ua)) Ua))) Ua);cases ok with
  |false=>exact Qae ⟨U,N⟩
  |true=>
   exact Qaa (Qaa (Qdb N (λx M h₄=>Qaa (Qdb h₄ (λ_ Q Y=>Qae (Qae ⟨U,Y⟩)) Ua)) Ua))
end
def yZ(g:TG)(Sg:St->Prop)(tc:TT)(te:TE)(Q:VK)(J:It)(H1:Hp):Prop:=∃W:Nat->Nat->List V->Hp->Prop,(∃m,W 0 m [] H1)/\∀i m zs H,W i m zs H->
 (J.stop i H/\zs.length<=sizeLine/\∀p,H p=none->Q (.ref p) (upd H p (.lst zs))) \/
 (J.go i H/\zs.length<=sizeLine/\∀x H',J.yld i H x H'->∃r,Sg r/\(∀D,Sg D->g x D H' λG H2=>G=r/\H2=H')/\tc r H' λb H2=>if b=true then te r H2 λy I=>∃C,C<m/\W (i+1) C (zs++[y]) I else∃C,C<m/\W (i+1) C zs H2)
structure Zb7(X:Cx)(S scope:Scope)(N:Ai)(x:Str)(ys:Ai)(is:Aj)(xs:Ai)(tg:Ax)(g:TG)(Sg:St->St->Prop):Prop where
 sc:ZW S scope N x ys is
 hX:X.env.scope=S
 hN:X.N=N
 hk:S.kind=.function
 hc:X.calm=true
 pg:∀C s₂ H₂ fp,PG (cxC X (xs++ys) scope C s₂ H₂ fp) tg g
 s0:∀σ,Sg σ (Zl8 xs is σ)
def GN(is:Aj)(tc:TT)(te:TE)(σ:St)(Q:VK)(J:It)(H1:Hp):Prop:=∃W:Nat->Nat->List V->Hp->Prop,(∃m,W 0 m [] H1)/\∀i m zs H,W i m zs H->
 (J.stop i H/\zs.length<=sizeLine/\∀p,H p=none->Q (.ref p) (upd H p (.lst zs))) \/
 (J.go i H/\zs.length<=sizeLine/\∀x H',J.yld i H x H'->tc (zF is σ (some x)) H' λb H2=>if b=true then te (zF is σ (some x)) H2 λy C=>∃r,r<m/\W (i+1) r (zs++[y]) C else∃r,r<m/\W (i+1) r zs H2)
def Zl9(wi:TI)(is:Aj)(tc:TT)(te:TE):TE:=λσ H Q=>wi σ H (GN is tc te σ Q)
section
variable {X:Cx}{S scope:Scope}{N:Ai}{x:Str}{ys:Ai}{is:Aj}{pins:Ac}{σ:St}{H₂:Hp}{s₂:As}{fp:List Aw}{elt iter:Ax}{px pos:Pos}{ifs:An}{tc:TT}{te:TE}{xs:Ai}{tg:Ax}{g:TG}{Sg:St->St->Prop}{wi:TI}{CW:St->VK->It->Hp->Prop}
def jk{J:It}{it:Aw}{tn:Nat->Heap->Prop}{RR:Av->Addr->Result->Shared->Prop}{E:Ab}(L:Zb7 X S scope N x ys is xs tg g Sg)
  (hf:∀C s₂ H₂ ex,QF (cxC X (xs++ys) scope C s₂ H₂ ex) ifs tc) (he:∀C s₂ H₂ ex,QE (cxC X (xs++ys) scope C s₂ H₂ ex) elt te)
  (G:Inv X pins σ H₂ s₂) (T:Turn X.prog X.w X.K tg J fp it tn) (st:tn 0 s₂.heap) (hfp:∀b∈fp,yJ X pins H₂ b)
  (hw:yZ g (Sg σ) tc te I J H₂)
  (fin:∀D C s' H' m',Inv X pins σ H' s'->yJ X pins H' C->s'.heap.Ns C m'->I (.ref D) H'->RR (.ref D) C (.ok .next) s'):
  Ba X (newList []) (λacc Ua=>Ba X (newFunctionEnv scope X.env.globals (ji X.env.cells scope.names []) [] X.env.qual none .none (some X.env)) (λcenv s₄=>
   codeAny (model X.prog X.w) X.A (.compStart (.ListComp elt [⟨tg,iter,ifs,0⟩] scope pos) 0 (.ref it) acc {cenv with scope:=relabel scope X.env}) (RR acc cenv.locals) s₄) E Ua) E s₂:=by
 obtain⟨W,⟨m0,w0⟩,turn⟩:=hw;have K:=L.sc;refine Qbo (wpAny_newFunctionEnv K.cell (by intro y hy;simp at hy) (λh₁ Y Q=>?_) K.kind);generalize hH2:s₂.heap.push {cls:=.type "list",dict:=none,data:=.seq ([]:Ag).toArray}=H2 at Y Q ⊢;have hCs:H2.objs.size=s₂.heap.objs.size+1:=by rw[<-hH2,Qb8]
 have hDC:s₂.heap.objs.size≠H2.objs.size:=by rw[hCs];exact Qbc (Qdq _)
 have hC:s₂.heap.objs.size<=H2.objs.size:=by rw[hCs];exact Qem _
 have hlt:∀b∈fp,b<s₂.heap.objs.size:=λb O=>by obtain⟨o,e,_⟩:=T.obj 0 _ st b O;exact Qav e
 have old:∀b o,s₂.heap.get? b=some o->h₁.get? b=some o:=λb o e=>Q.extBut b o (by rw[hCs];exact Qbc (Qd1 (Qav e))) (Qad _ (hH2 ▸ Qad _ e));have st₁:tn 0 h₁:=T.keep _ _ _ st λb _ o e=>old b o e;have fpC:∀{H':Hp} {pl:Ac},(∀p∈pl,∀b∈fp,p.1≠b)->(∀b∈fp,H' b=none)->∀b∈fp,yJ (cxC X (xs++ys) scope H2.objs.size s₂ H₂ fp) pl H' b:=λ{H' pl} hpl hn b O=>by
  have ok:=Zb5 (ns:=xs++ys) K L.hX G hC hfp hlt;exact⟨hn b O,(ok.exf b O).1,ok.exfs b O,.inl O,(ok.exf b O).2,λp hp=>hpl p hp b O⟩
 have Dfp:∀(o:Obj),∀p∈[(s₂.heap.objs.size,o)],∀b∈fp,p.1≠b:=λo p hp b O e=>by
  grind
 have loop:∀Ua:As,Ua={s₂ with heap:=h₁,toks:=s₂.toks+([]:List (Str×Av)).length}->
   codeAny (model X.prog X.w) X.A (.compLoop (.ListComp elt [⟨tg,iter,ifs,0⟩] scope pos) 0 (.ref it) (.ref s₂.heap.objs.size) (compEnvC scope (ji X.env.cells scope.names []) H2.objs.size X.env))
    (RR (.ref s₂.heap.objs.size) H2.objs.size) Ua:=by
  rintro Ua rfl;have I0:=Zjk xs K L.hX L.hN L.hk G (tk:=s₂.toks+([]:List (Str×Av)).length) hC (Qah _) hDC hfp hlt old Y (Q.extBut _ _ hDC (Qad _ (hH2 ▸ Qam _ U))) (λv z=>by cases z);refine Zb6 (λn s'=>∃(i:Nat)(σ1:St)(zs:A8)(M:Ag)(k:Nat)(H':Hp),Inv (cxC X (xs++ys) scope H2.objs.size s₂ H₂ fp) [(s₂.heap.objs.size,{cls:=.type "list",data:=.seq M.toArray k})] σ1 H' s'/\Sg σ σ1 /\
   Vals zs M/\tn i s'.heap/\(∀b∈fp,H' b=none)/\W i n zs H') ?_ m0 ⟨0,_,[],[],0,H₂,I0,L.s0 σ,.nil,st₁,λb O=>(hfp b O).1,w0⟩
  rintro n s3 ⟨i,σ1,zs,M,k,H3,I3,sg3,rv,st3,fr3,w3⟩;rcases turn i n zs H3 w3 with⟨stop,hz,q⟩|⟨go,hz,step⟩
  .refine thn (T.done (cxC X (xs++ys) scope H2.objs.size s₂ H₂ fp) U U U L.hc i _ s3 _ H3 _ I3 (fpC (Dfp _) fr3) st3 stop) λr s4 ⟨hr,I4⟩=>?_
   subst hr;have hD4:=I4.pin _ (Qa8 _ (Qao.mpr U));have I5:=Zjl G I4 (Qah _) hD4.2.1 hfp hz rv hD4.1;obtain⟨m',Z,_⟩:=I4.loc;refine fin _ _ s4 _ m' I5 ?_ Z (q _ hD4.2.1);refine G.fpOk hC ?_;rw[Zj (Qdx hDC)];exact I4.free
  .refine thn (T.item (cxC X (xs++ys) scope H2.objs.size s₂ H₂ fp) U U U L.hc i _ s3 _ H3 _ I3 (fpC (Dfp _) fr3) st3 go) λr s4 ⟨u,hr,h4⟩=>?_
   subst hr;refine thn h4 λ_ s5 ⟨xv,H5,I5,r5,y5,st5,fr5⟩=>?_;have I5':=I5.pinned (fpC (Dfp _) fr5) (T.obj _ _ st5);obtain⟨σx,sgx,gx,stp⟩:=step xv H5 y5;refine thn (L.pg _ _ _ _ _ s5 _ H5 xv u (λσ2 H2=>σ2=σx/\H2=H5) I5' r5 (gx _ sg3)) λ_ s6 ⟨σ6,H6,I6,e6,e6'⟩=>?_;subst e6;subst e6';have back:∀{s7:As} {H7:Hp},Inv (cxC X (xs++ys) scope H2.objs.size s₂ H₂ fp) ([(s₂.heap.objs.size,{cls:=.type "list",data:=.seq M.toArray k})]++gm fp s5.heap) (σ6) H7 s7->
     tn (i+1) s7.heap/\(∀b∈fp,H7 b=none)/\s7.heap.get? s₂.heap.objs.size=some {cls:=.type "list",data:=.seq M.toArray k}/\H7 s₂.heap.objs.size=none:=λ{s7 H7} I7=>by
    refine⟨T.keep _ _ _ st5 λb O o e=>(I7.pin (b,o) (Qa8 _ (Qa8 _ (Ju O e)))).1,λb O=>?_,?_,?_⟩
    .obtain⟨o,e,d⟩:=T.obj _ _ st5 b O;exact(I7.pin (b,o) (Qa8 _ (Qa8 _ (Ju O e)))).2.1
    .exact(I7.pin (s₂.heap.objs.size,{cls:=.type "list",data:=.seq M.toArray k}) (Qa8 _ (Qb7 _ (Qao.mpr U)))).1
    .exact(I7.pin (s₂.heap.objs.size,{cls:=.type "list",data:=.seq M.toArray k}) (Qa8 _ (Qb7 _ (Qao.mpr U)))).2.1
   refine thn ((hf _ _ _ _).out _ s6 _ H6 _ I6 stp) λb s7 ⟨H7,I7,q7⟩=>?_;cases b with
   |false=>
    have q7':∃m',m'<n/\W (i+1) m' zs H7:=by simpa using q7
    obtain⟨m',Z,w7⟩:=q7';obtain⟨b1,b2,b3,b4⟩:=back I7;exact⟨m',Z,i+1,_,zs,M,k,H7,I7.unpinned,sgx,rv,b1,b2,w7⟩
   |true=>
    have q7':=q7;refine thn ((he _ _ _ _).out _ s7 _ H7 _ I7 q7') λyv s8 ⟨y,H8,I8,r8,m',Z,w8⟩=>?_;obtain⟨b1,b2,b3,b4⟩:=back I8;refine append_at b3 (λh9 sb9 e9=>?_) (by rw[Qbn,<-rv.length];exact hz);have ok:=Zb5 (ns:=xs++ys) K L.hX G hC hfp hlt;have I8':Inv (cxC X (xs++ys) scope H2.objs.size s₂ H₂ fp) [] (σ6) H8 s8:=I8.pins_of λp hp=>by cases hp
    have I9:Inv (cxC X (xs++ys) scope H2.objs.size s₂ H₂ fp) [] (σ6) H8 {s8 with heap:=h9}:=I8'.turned (t':=s8.toks) (it:=s₂.heap.objs.size) (λb o O e=>(sb9.2 b O).trans e) b4 hDC (.inr (Qah _))
     (λy c h z=>by
      obtain⟨v,o,ho,_⟩:=G.cell y c (K.cl L.hX G.ok y c h);have:=Qav ho;rw[z]at this;exact Qck _ this) (λp hp=>by cases hp)
    refine⟨m',Z,i+1,_,zs++[y],M++[yv],k+1,H8,?_,sgx,rv.append (.cons r8 .nil),T.keep _ _ _ b1 λb O o e=>(sb9.2 b λz=>absurd (hlt b O) (by rw[z];exact Qck _)).trans e,b2,w8⟩;refine I9.pins_of λp hp=>?_;have e1:p=(s₂.heap.objs.size,{cls:=.type "list",data:=.seq (M++[yv]).toArray (k+1)}):=by simpa using hp
    subst e1;refine⟨by rw[e9,List.push_toArray],b4,hDC,λz=>?_,λv z=>by cases z⟩;obtain⟨_,o,ho,_⟩:=ok.funs.mem z;exact absurd (Qav ho) (Qck _)
 exact codeAny_compStart_list (loop _ U) (T.self _ 0 _ _ _ st₁ (loop _ U))
end
section
variable {X:Cx}{S scope:Scope}{N:Ai}{x:Str}{ys:Ai}{is:Aj}{elt iter:Ax}{px pos:Pos}{ifs:An}{wi:TI}{tc:TT}{te:TE}{xs:Ai}{tg:Ax}{g:TG}{Sg:St->St->Prop}{CW:St->VK->It->Hp->Prop}
def gu(L:Zb7 X S scope N x ys is xs tg g Sg)(cv:∀σ Q J H,CW σ Q J H->yZ g (Sg σ) tc te Q J H)(hi:QI X tg iter wi)(hf:∀C s₂ H₂ ex,QF (cxC X (xs++ys) scope C s₂ H₂ ex) ifs tc)(he:∀C s₂ H₂ ex,QE (cxC X (xs++ys) scope C s₂ H₂ ex) elt te)
  (hs:∀v,foldedSetIterable iter X.env v=pure v:=by intro _;rfl):
  QE X (.ListComp elt [⟨tg,iter,ifs,0⟩] scope pos) (λσ H Q=>wi σ H (CW σ Q)):=by
 refine⟨λpins s σ H Q I h=>(wpAny_comprehension_free U hs (Jv (L.sc.cellOf' L.hX I.ok)) L.sc.kind L.sc.names (thn (hi.out pins s σ H _ I h) λv s1 h1=>thn h1 λUa s2 h2=>?_))⟩;obtain⟨it,fp,tn,J,H2,rfl,Y,T,r,f2,w2⟩:=h2;refine jk L hf he Y T r f2 (cv _ _ _ _ w2) ?_;intro D C s' H' m' I' Z M q;obtain⟨f0,f1,f3,O,f5,f6⟩:=Z;exact⟨m',M,λh' G=>⟨.ref D,H',I'.turned (λb o hb e=>(G.2 b hb).trans e) f0 f1 O f5 f6,U,q⟩⟩
def Zfp{y:Str}{spos:Pos}(hNd:X.N.Nodup)(hy:X.N[i]?=some y)(hl:X.env.scope.names.lookup y=some .local)(L:Zb7 X S scope N x ys is xs tg g Sg)(cv:∀σ Q J H,CW σ Q J H->yZ g (Sg σ) tc te Q J H)(hi:QI X tg iter wi)
  (hf:∀C s₂ H₂ ex,QF (cxC X (xs++ys) scope C s₂ H₂ ex) ifs tc) (he:∀C s₂ H₂ ex,QE (cxC X (xs++ys) scope C s₂ H₂ ex) elt te)
  (Y:swapsWith (.ListComp elt [⟨tg,iter,ifs,0⟩] scope pos) (some (.Name y E)) spos.line X.env=pure true:=by rfl)
  (hs:∀v,foldedSetIterable iter X.env v=pure v:=by intro _;rfl):
  QS X (.Assign [.Name y E] (.ListComp elt [⟨tg,iter,ifs,0⟩] scope pos) spos) (Zlv (λσ H Q=>wi σ H (CW σ Q)) (Wg i)):=by
 refine⟨λpins s σ H D I h=>?_⟩;rw[exec_Assign_Name_used _ _ _ _ Y];refine Qaa (wpAny_standAt (Qaa ?_));refine Qaa (thn (wpAny_comprehension_free U hs (Jv (L.sc.cellOf' L.hX I.ok)) L.sc.kind L.sc.names
  (thn (hi.out pins s σ H _ I h) λv s1 h1=>thn h1 λitv s2 h2=>?_)) λ_ s' hq=>Qae (Qae hq))
 obtain⟨it,fp,tn,J,H2,rfl,I2,T,O,f2,w2⟩:=h2;refine jk L hf he I2 T O f2 (cv _ _ _ _ w2) ?_;intro Dl C s' H' m' I' fC Z q;obtain⟨f0,f1,f3,f4,f5,f6⟩:=fC;obtain⟨oC,es,ep,hoC,M,G⟩:=Z;have Ip:Inv X (pins++[(C,oC)]) σ H' s':=I'.pins_of λp hp=>(Qbl.mp hp).elim (λz=>I'.pin p (Qa8 _ z)) λz=>by
  grind
 refine wpAny_assign_Name (JU Ip hNd hy (.inl hl) (v:=.ref Dl) U (λs'' r=>?_) (.inr hl));refine⟨m',⟨oC,es,ep,(r.pin (C,oC) (Qa8 _ (Qa8 _ (Qao.mpr U)))).1,M,G⟩,λh' Ua=>⟨_,H',r.unpinned.turned (λb o hb e=>(Ua.2 b hb).trans e) f0 f1 f4 f5 f6,q⟩⟩
theorem Zh7(K:ZW S scope N x ys is)(D:X.env.scope=S)(I:X.N=N)(C:S.kind=.function)(G:X.calm=true):Zb7 X S scope N x ys is [x] (.Name x px) (Wg 0) (λσ r=>∃v,r=zF is σ v):=
 ⟨K,D,I,C,G,λ_ _ _ _=>jN K.nd U (.inl (Qdi K.own)) (.inr (Qdi K.own)),λ_=>⟨none,U⟩⟩
theorem Zma:∀σ Q J H,GN is tc te σ Q J H->yZ (Wg 0) (λr=>∃v,r=zF is σ v) tc te Q J H:=λσ Q J H ⟨W,C,t⟩=>
 ⟨W,C,λi m zs H w=>(t i m zs H w).imp_right λz=>⟨z.1,z.2.1,λx H' y=>⟨_,⟨_,U⟩,λr ⟨v,e⟩=>e ▸ ⟨U,U⟩,z.2.2 x H' y⟩⟩⟩
def YH(K:ZW S scope N x ys is)(hi:QI X (.Name x px) iter wi)(M:∀C s₂ H₂ ex,QF (cxC X (x::ys) scope C s₂ H₂ ex) ifs tc)(O:∀C s₂ H₂ ex,QE (cxC X (x::ys) scope C s₂ H₂ ex) elt te)
  (I:X.calm=true:=by rfl) (r:X.env.scope=S:=by rfl) (L:X.N=N:=by rfl) (D:S.kind=.function:=by rfl) (G:∀v,foldedSetIterable iter X.env v=pure v:=by intro _;rfl):
  QE X (.ListComp elt [⟨.Name x px,iter,ifs,0⟩] scope pos) (Zl9 wi is tc te):=
 gu (Zh7 K r L D I) Zma hi M O G
def kL{y:Str}(r:X.N.Nodup)(Y:X.N[i]?=some y)(Q:X.env.scope.names.lookup y=some .local)(K:ZW S scope N x ys is)(hi:QI X (.Name x px) iter wi)
  (Ua:∀C s₂ H₂ ex,QF (cxC X (x::ys) scope C s₂ H₂ ex) ifs tc) (Z:∀C s₂ H₂ ex,QE (cxC X (x::ys) scope C s₂ H₂ ex) elt te)
  (D:swapsWith (.ListComp elt [⟨.Name x px,iter,ifs,0⟩] scope pos) (some (.Name y p)) E.line X.env=pure true:=by rfl)
  (O:X.calm=true:=by rfl) (M:X.env.scope=S:=by rfl) (I:X.N=N:=by rfl) (L:S.kind=.function:=by rfl) (G:∀v,foldedSetIterable iter X.env v=pure v:=by intro _;rfl):
  QS X (.Assign [.Name y p] (.ListComp elt [⟨.Name x px,iter,ifs,0⟩] scope pos) E) (Zlv (Zl9 wi is tc te) (Wg i)):=
 Zfp r Y Q (Zh7 K M I L O) Zma hi Ua Z D G
end
def kM{J:It}{is:Aj}(n:Nat)(r:Nat->List V->Hp->Prop)(M:r 0 [] H)(O:∀i zs H,r i zs H->zs.length<=sizeLine)
  (L:∀i zs H (R:A8->Hp->Prop),(∀zs H,r (i+1) zs H->R zs H)->i<n->r i zs H->J.go i H/\∀x H',J.yld i H x H'->G (zF is c (some x)) H' λb H2=>if b=true then d (zF is c (some x)) H2 λy N=>R (zs++[y]) N else R zs H2)
  (Q:∀zs H,r n zs H->J.stop n H/\∀p,H p=none->I (.ref p) (upd H p (.lst zs))):GN is G d c I J H:=by
 refine⟨λi m zs H=>m=n-i/\i<=n/\r i zs H,⟨n,by simp,Qbe _,M⟩,?_⟩;rintro i m zs H ⟨rfl,hi,p⟩
 by_cases C:i<n
 .have z:=L i zs H (λzs H=>∃D,D<n-i/\D=n-(i+1)/\i+1<=n/\r _ zs H) (λzs H q=>⟨_,by lia,U,C,q⟩) C p;exact .inr ⟨z.1,O i zs H p,z.2⟩
 .grind
theorem uP{lo:Int}{is:Aj}(r:Nat->List V->Hp->Prop)(L:r 0 [] H)(N:∀i zs H,r i zs H->zs.length<=sizeLine)
  (C:∀i zs H (R:A8->Hp->Prop),(∀zs H,r (i+1) zs H->R zs H)->i<n->r i zs H->G (zF is c (some (.int (lo+i)))) H λb H2=>if b=true then d (zF is c (some (.int (lo+i)))) H2 λy M=>R (zs++[y]) M else R zs H2)
  (D:∀zs H,r n zs H->∀p,H p=none->I (.ref p) (upd H p (.lst zs))):
  GN is G d c I (Itr lo n) H:=
 kM n r L N (λi zs H R k hi p=>⟨hi,λx H' ⟨e,y⟩=>by subst e y;exact C i zs _ R k hi p⟩) λzs H p=>⟨Qah _,D zs H p⟩
theorem Wj{xs:A8}{is:Aj}(r:Nat->List V->Hp->Prop)(M:r 0 [] H)(O:∀i zs H,r i zs H->zs.length<=sizeLine)(C:∀i zs H,r i zs H->SqT K H a xs)
  (D:∀i x zs H (R:A8->Hp->Prop),(∀zs H,r (i+1) zs H->R zs H)->xs[i]?=some x->r i zs H->G (zF is c (some x)) H λb H2=>if b=true then d (zF is c (some x)) H2 λy N=>R (zs++[y]) N else R zs H2)
  (L:∀zs H,r xs.length zs H->∀p,H p=none->I (.ref p) (upd H p (.lst zs))):
  GN is G d c I (Itt K a) H:=
 kM _ r M O (λi zs H R k hi p=>⟨⟨xs,xs[i],C i zs H p,Qac hi⟩,λx H' ⟨e,y⟩=>e ▸ D i x zs H R k (y xs (C i zs H p)) p⟩) λzs H p=>⟨⟨xs,C _ zs H p,Qah _⟩,L zs H p⟩
end L2
namespace HT
section
variable {prog:Aq}{w:Au}{A:Ar}{E:Ab}{s:As}
def uQ(n:Nat):Builtin.Slice.slicePlaces ((n:Int)-1) (-1) (-1)=n:=by
 unfold Builtin.Slice.slicePlaces;have h1:¬((-1)>0):=by lia
 have e:(- -1)=1:=by decide
 split<;>lia
theorem gv{α β:Type}{f g:α->Option β}:∀{l:List α},(∀x∈l,f x=g x)->l.filterMap f=l.filterMap g
 |[],_=>rfl
 |x::r,h=>by
  rw[Qd9,Qd9,h x Qaj,gv λy C=>h y (Qal _ C)]
def Zfq(xs:Ah):((List.range xs.size).filterMap λ(m:Nat)=>xs[((xs.size:Int)-1+(m:Int) * -1).toNat]?).toArray=xs.toList.reverse.toArray:=by
 congr 1;have e:((List.range xs.size).filterMap λ(m:Nat)=>xs[((xs.size:Int)-1+m * -1).toNat]?)=((List.range xs.size).map λk=>xs.size-1-k).filterMap (xs[·]?):=by
  rw[List.filterMap_map];refine gv λm r=>?_;have e:(xs.size-1+(m:Int) * -1).toNat=xs.size-1-m:=by lia
  rw[e];rfl
 rw[e,PySem.W.krv_range,List.filterMap_reverse,PySem.W.krv_all]
def qG{t:Tok}{Q:Int×Int×Nat->Shared->Prop}(D:s.heap.IsSliceOf a .none .none (.int (-1) t))(h:Q ((n:Int)-1,-1,n) s):
  A9 prog w A (Builtin.Slice.sliceApplied (.ref a) (pure (n:Int))) Q E s:=by
 obtain⟨os,r,G,C⟩:=id D;refine Qaa (Qaa (Qbz r C U (Qaa (Qbz r C U (Qaa (Qbz r C U (Qae ?_)))))));refine Qaa (slicePart_int (Qaa (slicePart_none (Qaa (slicePart_none (Qaa (Qae ?_)))))));show wpAny _ _ _ _ _ s;show wpAny _ _ (pure ((n:Int)-1,(-1),Builtin.Slice.slicePlaces (n-1) (-1) (-1))) _ _ s;rw[uQ];exact Qae h
def getItem_tuple_rev{t:Aw}{u:Tok}{items:Ah}(C:IsTup s.heap t items)(L:s.heap.IsSliceOf a .none .none (.int (-1) u))
  (h:Q (.ref s.heap.objs.size) {s with heap:=s.heap.push {cls:=.type "tuple",data:=.seq items.toList.reverse.toArray}})
  (hsz:items.size<=sizeLine):A9 prog w A (getItem (.ref t) (.ref a)) Q E s:=by
 have r:=by
  show items.toList.reverse.toArray.size<=sizeLine;rw[Qbn,Qc1];exact hsz
 obtain⟨os,G,D,M⟩:=id L;unfold getItem;try with_reducible refine Qcb ?_
 first|refine Qaa _|skip
 refine Qaa (wpAny_sequenceKey C.typeIs (by decide) ?_);refine Qaa (wpAny_callSpecial?_slot C.typeIs Qcv
  (Qbd Qcv C.typeIs entry_tuple_getitem ?_ (args_tuple_getitem _ _)))
 show wpAny _ _ (Builtin.Tuple.tupleItemsOf _ >>= _) _ _ s;refine Qaa (tupleItemsOf_ C ?_);refine Qaa (wpAny_typeOf ⟨os,G,D⟩ (Qaa (qG L ?_)));have I:¬((((items.size:Int)-1) == 0&&(-1) == 1&&items.size == items.size)=true):=by
  grind
 show wpAny _ _ (if((((items.size:Int)-1) == 0&&(-1) == 1&&items.size == items.size))=true then _ else _) _ _ s;rw[Qaw I,Zfq]
 first
  |exact Qaa (Qbo (Qae ⟨_,U,Qae h⟩) r)
  |exact Qaa _
  |exact Qaa _
  |exact Qaa _
end
end HT
namespace L2
section
variable {X:Cx}{e st:Ax}{te ts:TE}{pos p2:Pos}
def RvR(X:Cx)(r:V->Hp->VK->Prop):Prop:=
 ∀(pins:Ac)(s:As)(σ:St)(H:Hp)(x:V)(v:Av)(t:Tok)(C:Aw)(Q:VK),Inv X pins σ H s->RelV x v->s.heap.IsSliceOf C .none .none (.int (-1) t)->r x H Q->
  ∃T id,typeLookup (.type T) "__getitem__" = pure (some (.builtin id))/\s.TypeIs v T/\Ba X (getItem v (.ref C)) (EP X pins σ Q) X.xe s
def tRv(r:V->Hp->VK->Prop)(te ts:TE):TE:=λσ H Q=>te σ H λx H1=>ts σ H1 λy H2=>y=.int (-1)/\r x H2 Q
def Zb8{r:V->Hp->VK->Prop}(hr:RvR X r)(he:QE X e te)(hst:QE X st ts):QE X (.Subscript e (.Slice none none (some st) p2) pos) (tRv r te ts):=by
 refine⟨λpins s σ H Q I h=>(Subscript_ (thn (he.out pins s σ H _ I h) λv Y ⟨x,H1,S,G,N⟩=>(wpAny_Slice (Qae (Qae (thn (hst.out pins Y σ H1 _ S N) λvs s3 ⟨y,Ua,O,M,e3,L⟩=>?_))))))⟩;subst e3;obtain⟨t,rfl⟩:=M;obtain⟨T,id,C,D,Z⟩:=hr pins _ σ Ua x v t _ Q (O.kept λb ob q=>Qad _ q) G (Heap.IsSliceOf.new ..) L;exact tail_any D C Z (by with_unfolding_all rfl)
def rRvT(K:Af):V->Hp->VK->Prop:=λx H Q=>∃a xs,x=.ref a/\SqT K H a xs/\∀p,H p=none->Q (.ref p) (upd H p (.tup xs.reverse))
def Zh8:RvR X (rRvT X.K):=by
 intro pins s σ H x v t O Q I N L h;obtain⟨a,xs,rfl,M,q⟩:=h;cases N;obtain⟨C,r,G,S⟩:=I.tuple M;have D:C.toArray.size=xs.length:=r.length.symm;refine⟨"tuple",_,Qcv.lookup,G.typeIs,(HT.getItem_tuple_rev G L ⟨.ref _,_,I.laid (λb ob q=>Qad _ q) (Qah _) ?_,U,q _ (I.hok.fresh (Qah _))⟩ (by lia))⟩;exact⟨by grind,_,r.reverse,gj.new _ _⟩
def rRvL(K:Af):V->Hp->VK->Prop:=λx H Q=>∃a xs,x=.ref a/\SqL K H a xs/\∀p,H p=none->Q (.ref p) (upd H p (.lst xs.reverse))
def Zjm:RvR X (rRvL X.K):=by
 intro pins s σ H x v t O Q I N G h;obtain⟨a,xs,rfl,L,q⟩:=h;cases N;obtain⟨M,r,D,S⟩:=I.list L;have C:=r.length;refine⟨"list",_,slot_list_getitem.lookup,D.isList.typeIs,(wpAny_getItem_list_slice D.isList G .none .none (.int (-1) t) (by decide) ?_ (by grind))⟩;rw[PySem.W.krv_pick];refine⟨.ref _,_,I.laid (λb ob q=>Qad _ q) (Qah _) ?_,U,q _ (I.hok.fresh (Qah _))⟩;exact⟨by grind,_,0,r.reverse,Qam _ U⟩
end
def jP{k:Nat}{A:Ar}(r:WL k A):A.units<cLine:=r.units0
end L2
namespace RvT
theorem slot_next:Slot "reversed" "__next__" "reversed.__next__" :=
 .of (owner:= "reversed") (n:= "__next__") (by kernel_rfl) (by decide +kernel) (by decide +kernel) (by decide +kernel)
  (by first|exact .inl (by decide +kernel)|exact .inr _) (by kernel_rfl)
def entry_next:entryFor table "reversed.__next__" = some Builtin.«reversed.__next__»:=entryFor_of_tree (by kernel_rfl)
def args_next (a:Av):argsOk "reversed.__next__" ⟨[a],[]⟩:=by
 kernel_rfl
theorem va:Slot "reversed" "__iter__" "reversed.__iter__" :=
 .of (owner:= "reversed") (n:= "__iter__") (by kernel_rfl) (by decide +kernel) (by decide +kernel) (by decide +kernel)
  (by first|exact .inl (by decide +kernel)|exact .inr _) (by kernel_rfl)
def Zb9 (a:Av):argsOk "reversed.__iter__" ⟨[a],[]⟩:=by
 kernel_rfl
theorem uR:entryFor table "reversed.__iter__" = some Builtin.«dict_keyiterator.__iter__» :=
 entryFor_alias (id':= "dict_keyiterator.__iter__") (by kernel_rfl) (by first|rfl|decide +kernel|(unfold String.splitOn;simp +decide [String.splitOnAux])) (by decide +kernel) (by kernel_rfl)
theorem Zca:Slot "reversed" "__init__" "object.__init__" :=
 .of (owner:= "object") (n:= "__init__") (by kernel_rfl) (by decide +kernel) (by decide +kernel) (by decide +kernel)
  (by first|exact .inl (by decide +kernel)|exact .inr _) (by kernel_rfl)
theorem called:TypeCalled "reversed" "reversed.__new__" "object.__init__" :=
 ⟨by simp,F.create_reversed,⟨_,_,F.mro_reversed⟩,F.made_reversed,F.plain_reversed_new,F.sub_reversed_self,Zca⟩
def kN:typeLookup (.type "tuple") "__reversed__" = pure none:=by kernel_rfl
def sub_tuple_dict:isSubtype (.type "tuple") (.type "dict")=pure false:=by kernel_rfl
def revObj (t:Aw) (i:Int):Obj:={cls:=.type "reversed",data:=.fields #[.ref t,rawInt i]}
def IsRev (h:Heap) (a t:Aw) (i:Int):Prop:=∃o,h.get? a=some o/\o.cls=.type "reversed" /\ o.data=.fields #[.ref t,rawInt i]
def IsRev.typeIs  {t:Aw} {i:Int} (x:IsRev s.heap a t i):s.TypeIs (.ref a) "reversed" :=let⟨o,ho,hc,_⟩:=x;⟨o,ho,hc⟩
def IsRev.at{h':Heap}{t:Aw}{i:Int}(x:IsRev h a t i)(e:∀o,h.get? a=some o->h'.get? a=some o):IsRev h' a t i:=let⟨o,ho,r⟩:=x;⟨o,e _ ho,r⟩
section
variable {prog:Aq}{w:Au}{A:Ar}{E:Ab}{s:As}
theorem WV(t:Aw)(items:Ah)(C:items.size<2^63):
  Meets (Builtin.«reversed.__new__» ⟨[.type "reversed",.ref t],[]⟩) (λ_ R s=>IsTup s.heap t items/\∀tk,R (.ok (.ret (.ref s.heap.objs.size))) {s with heap:=s.heap.push (revObj t ((items.size:Int)-1)),toks:=tk}):=
 .of_wp λprog w A R s h=>by
  obtain⟨r,h⟩:=h;refine Qaa (Qcf (newClass_reversed _) ?_);refine Qaa (Qcf (a:=()) (by first|rfl|kernel_rfl) ?_);refine Qaa (Qcf (a:=()) (by first|rfl|kernel_rfl) ?_);refine Qaa (Qd2 r.typeIs kN ?_);refine Qaa ?_;refine Qaa (Qcz (T:= "tuple") (b:=false) r.typeIs sub_tuple_dict ?_);refine Qaa (Qd2 r.typeIs Qcv.lookup ?_);refine Qae ?_;refine Qaa (len_tuple r (by lia) ?_);refine Qaa (Qcf U ?_);refine Qaa (m:=newObj (.type "reversed") (.fields #[.ref t,rawInt ((items.size:Int)-1)])) (Qbo ?_);exact Qae ⟨_,U,h _⟩
theorem call_rev{t:Aw}{items:Ah}(D:IsTup s.heap t items)(C:items.size<2^63)(h:∀tk,Q (.ref s.heap.objs.size) {s with heap:=s.heap.push (revObj t ((items.size:Int)-1)),toks:=tk}):
  A9 prog w A (call (.type "reversed") [.ref t]) Q E s:=
 callType_new called (by decide) (F.typeCall_reversed_1 _) (F.newCall_reversed_1 _) (λr=>F.args_object_init_2 r _) F.entry_reversed_new (WV t items C)
  ⟨D,λtk=>⟨⟨_,Qam _ U,U⟩,h tk⟩⟩
def next_item{it t:Aw}{items:Ah}{x:Av}{Q:Aa}(r:IsRev s.heap it t (i:Int))(G:IsTup s.heap t items)(hi:(i:Int)<2^63)(I:items[i]?=some x)(N:t≠it)
  (L:∀h' tk,IsRev h' it t ((i:Int)-1)->Heap.SameBut it s.heap h'->Q (some x) {s with heap:=h',toks:=tk}):A9 prog w A (pyNext (.ref it)) Q E s:=by
 obtain⟨o,D,M,C⟩:=id r;refine Qaa (Qc0 (wpAny_callSpecial?_slot r.typeIs slot_next
  (Qbd slot_next r.typeIs entry_next ?_ (args_next _))))
 refine Qaa (Qcf (a:=(Value.ref it,[])) U ?_);refine Qaa (Qbz D C (x:=.ref t) U ?_);refine Qaa (Qbz D C (x:=rawInt (i:Int)) U ?_);show wpAny _ _ _ _ _ s;refine Qaa (Qd2 G.typeIs Qcv.lookup ?_);refine Qaa (Qgf ?_);have hsz:=(Array.getElem?_eq_some_iff.mp I).1;refine Qaa (Qc0 (getItem_tuple (j:=i) G (by lia) hi (by rw[Qhq (by lia) (by lia),Qca]) I ?_));refine Qaa (Qbz D C (x:=rawInt (i:Int)) U ?_);refine Qaa (Qcs D C (by simp) ?_);refine Qae ⟨x,U,Qae (L _ _ ?_ (Qbr ..))⟩;exact⟨_,Qbf _ D (Qcj (Qbm C _)),(Qd3 ..).trans M,by
  rw[Qbm C];simp⟩
def next_end{it t:Aw}{Q:Aa}(hh:A.handled=none)(r:IsRev s.heap it t (-1))
  (L:∀h',(∀b o,b≠it->s.heap.get? b=some o->h'.get? b=some o)->Q none {s with heap:=h'}):A9 prog w A (pyNext (.ref it)) Q E s:=by
 obtain⟨o,D,M,C⟩:=id r;refine Qaa (Qc0 (wpAny_callSpecial?_slot (name:=Str.ofString "__next__") r.typeIs slot_next
  (Qbd slot_next r.typeIs entry_next ?_ (args_next _))))
 refine Qaa (Qcf (a:=(Value.ref it,[])) U ?_);refine Qaa (Qbz D C (x:=.ref t) U ?_);refine Qaa (Qbz D C (x:=rawInt (-1)) U ?_);show wpAny _ _ (if(-1:Int)<0 then _ else _) _ _ s;refine Qaa (Qdl ?_);refine Qaa ?_;refine Qaa (Qcs D C (by simp) ?_);have G:=Qbf (Obj.mapFields (·.setIfInBounds 1 (rawInt (-1)))) D (Qcj (Qbm C _));refine Qcs G (Qbm C _) (by simp) ?_
 first
 |show wpAny _ _ (newExc (.type "StopIteration") [] >>= _) _ _ _
 |(refine Qaa ?_)
 refine Qaa ?_;refine Qaa (Qbo ?_ (by size_fits));refine Qaa (m:=firstArgMember _ _) (Qcf (a:=Value.none) (by first|rfl|(rfl)) ?_);refine Qbo ?_ (by size_fits);refine Qaa (Qf9 ?_)
 first|rw[show A.in1.handled=none from hh]|rw[hh]
 refine Qaa (Qae (Qg3 ?_));refine Qaa (Qcz (T:= "StopIteration") (b:=true) ⟨_,Qam _ U,U⟩ Qez ?_);refine Qae (L _ λb ob I e=>?_);exact Qad _ (Qad _ ((Qbx _ _ (Qdx I)).trans ((Qbx _ _ (Qdx I)).trans e)))
def iter_self{it t:Aw}{i:Int}(r:IsRev s.heap it t i)(h:Q (.ref it) s):A9 prog w A (pyIter (.ref it)) Q E s:=by
 refine Qeu r.typeIs va (Qbd va r.typeIs uR (Qae ⟨_,U,_,_,r.typeIs,slot_next.lookup,h⟩) (Zb9 _))
end
end RvT
namespace L2
def Itv(K:Af)(a:Aw)(n:Nat):It:=
 ⟨λi H=>∃xs x,SqT K H a xs/\xs.length=n/\xs.reverse[i]?=some x,λi H x H'=>H'=H/\∀xs,SqT K H a xs->xs.reverse[i]?=some x,λi _=>i=n⟩
def Zfr{tg:Ax}(a it:Aw)(n:Nat)(S:a≠it):Turn P w K tg (Itv K a n) [it] it (λi h=>RvT.IsRev h it a ((n:Int)-1-(i:Int)))where
 mem:=by simp
 obj:=λi h st b r=>by
  have e:b=it:=by simpa using r
  subst e;obtain⟨o,e,c,d⟩:=st;exact⟨o,e,λv z=>by rw[d]at z;cases z⟩
 keep:=λi h h' st k=>st.at λo e=>k it (by simp) o e
 item:=by
  intro X G hw O hc i pins s σ H E I D st Q;subst G hw O;obtain⟨xs,x,hq,hn,hx⟩:=Q;obtain⟨Z,rv,p,hz⟩:=I.tuple hq;have hi:i<xs.length:=by
   grind
  have Ua:xs[xs.length-1-i]?=some x:=by grind
  obtain⟨u,hu,ru⟩:=rv.get Ua;obtain⟨N,f1,f2,M,L,Y⟩:=D it (by simp);have e0:(n:Int)-1-(i:Int)=((xs.length-1-i:Nat):Int):=by lia
  have hl:=ql;rw[e0]at st;refine RvT.next_item (items:=Z.toArray) (x:=u) st p (by lia) (by simpa using hu) S λh' tk C sb=>?_;have e1:((xs.length-1-i:Nat):Int)-1=(n:Int)-1-((i+1:Nat):Int):=by lia
  rw[e1]at C;obtain⟨o,e,c,d⟩:=id C;exact⟨u,U,kI e c d (by decide) ⟨x,H,I.turned (λb o r e=>(sb.2 b r).trans e) N f1 M L Y,ru,⟨U,λys hy=>by rw[I.tuple_inj hy hq];exact hx⟩,C,λb r=>(D b r).1⟩⟩
 done:=by
  intro X G hw O hc i pins s σ H E I D st Q;subst G hw O;obtain⟨N,f1,f2,M,L,Y⟩:=D it (by simp);have hg':i=n:=Q;have e0:(n:Int)-1-(i:Int)=-1:=by lia
  rw[e0]at st;exact RvT.next_end (I.ok.hd hc) st λh' eb=>⟨U,I.turned (t':=s.toks) (λb o r e=>eb b o r e) N f1 M L Y⟩
 self:=λ_ _ _ _ _ st h=>RvT.iter_self st h
inductive Zh9(K:Af)(R:It->Hp->Prop)(x:V)(H1:Hp):Prop
 |mk (a xs:_):(x=.ref a)->(SqT K H1 a xs)->(R (Itv K a xs.length) H1)->Zh9 K R x H1
def iRev(K:Af)(te:TE):TI:=λσ H R=>te σ H λx H1=>Zh9 K R x H1
def Zcb {X:Cx} {tg:Ax}   (O:Gl X "reversed") (hm:X.mg "reversed" = none) (he:QE X e d) (Q:Yk e=true:=by rfl):QI X tg (.Call (.Name "reversed" p) [e] [] E) (iRev X.K d):=by
 refine⟨λpins s σ H R I h=>?_⟩;have L:starEach [e] X.env=[(false,eval e X.env)]:=by rw[Zy Q];rfl
 refine Call_ (qj I O hm kK (Qc6 ?_ L U));rw[L];refine Qcx (thn (he.out pins s σ H _ I h) λu G ⟨x,H1,C,Y,N⟩=>(Qd0 ?_));obtain⟨a,xs,rfl,Ua,q⟩:=N;cases Y;obtain⟨r,M,pt,hz⟩:=C.tuple Ua;have hl:=ql;have D:=M.length;refine RvT.call_rev pt (by grind) λtk=>?_;have S:xs.length-1-((0:Nat):Int)=r.toArray.size-1:=by grind
 have st:RvT.IsRev (G.heap.push (RvT.revObj a (r.toArray.size-1))) G.heap.objs.size a (xs.length-1-((0:Nat))):=by
  rw[S];exact⟨_,Qam _ U,U,U⟩
 refine RvT.iter_self st ⟨_,_,_,_,H1,U,C.kept λb o e=>Qad _ e,Zfr a _ _ (Qbc pt.lt),st,λb Z=>?_,q⟩;have e:=by simpa using Z
 subst e;exact C.fpOk (Qah _) (C.hok.fresh (Qah _)) |> λf=>f
theorem Zcc{xs:A8}{g:TG}(r:Nat->St->Hp->Prop)(I:r 0 c H)(D:∀i c H,i<=xs.length->r i c H->SqT K H a xs)
  (G:∀i x c H,xs.reverse[i]?=some x->r i c H->g x c H λC H2=>q {S with nx:=r (i+1),ct:=r (i+1),bk:=S.nx} C H2) (L:∀c H,r xs.length c H->S.nx c H):
  Zfi (Itv K a xs.length) g q S c H:=
 qk _ r I (λi c H hi p=>⟨⟨xs,xs.reverse[i]'(by grind),D i c H (Qa0 hi) p,U,Qac _⟩,λx H' ⟨e,y⟩=>e ▸ G i x c H (y xs (D i c H (Qa0 hi) p)) p⟩) λc H p=>⟨U,L c H p⟩
theorem uS{ys:Ai}:∀{C:Ag},Vals (ys.map V.str) C->StrsAre C ys:=by
 induction ys with
 |nil=>intro C r;cases r;exact .nil
 |cons n ns G=>
  intro C r;cases r with
  |cons D I=>
   obtain⟨t,e⟩:=D;subst e;exact .cons n t (G I)
theorem Xy{xs:A8}{is:Aj}(r:Nat->List V->Hp->Prop)(M:r 0 [] H)(O:∀i zs H,r i zs H->zs.length<=sizeLine)(C:∀i zs H,r i zs H->SqL K H a xs)
  (D:∀i x zs H (R:A8->Hp->Prop),(∀zs H,r (i+1) zs H->R zs H)->xs[i]?=some x->r i zs H->G (zF is c (some x)) H λb H2=>if b=true then d (zF is c (some x)) H2 λy N=>R (zs++[y]) N else R zs H2)
  (L:∀zs H,r xs.length zs H->∀p,H p=none->I (.ref p) (upd H p (.lst zs))):
  GN is G d c I (Itl K a) H:=
 kM _ r M O (λi zs H R k hi p=>⟨⟨xs,xs[i],C i zs H p,Qac hi⟩,λx H' ⟨e,y⟩=>e ▸ D i x zs H R k (y xs (C i zs H p)) p⟩) λzs H p=>⟨⟨xs,C _ zs H p,Qah _⟩,L zs H p⟩
def Its(x:Str):It:=⟨λi _=>i<x.cps.size,λi H v H'=>H'=H/\∃c,x.cps[i]?=some c/\v=.str ⟨#[c]⟩,λi _=>i=x.cps.size⟩
def Zfs    {tg:Ax} (it:Aw) (x:Str) (t:Tok) (T:String) (hT:T = "str_ascii_iterator" \/ T = "str_iterator"):Turn P w K tg (Its x) [it] it (λi h=>h.IsStrIter it T x t i)where
 mem:=by simp
 obj:=λi h st b C=>by
  have e:b=it:=by simpa using C
  subst e;obtain⟨o,e,c,d⟩:=st;exact⟨o,e,λv z=>by rw[d]at z;cases z⟩
 keep:=λi h h' st k=>let⟨o,ho,r⟩:=st;⟨o,k it (by simp) o ho,r⟩
 item:=by
  intro X hP hw hK S i pins s σ H E I Ua st hg;subst hP hw hK;obtain⟨O,Z,f2,N,M,Y⟩:=Ua it (by simp);rcases hT with rfl|rfl
  .refine(Walks.strAscii (prog:=X.prog) (w:=X.w) (I.ok.hd S) it x t).item i s _ _ hg st λv h' tk hv D G=>?_
   obtain⟨c,u,L,rfl⟩:=hv;have I1:Inv X pins σ H {s with heap:=h',toks:=tk}:=I.turned (λb o C e=>G b o (by simpa using C) e) O Z N M Y;obtain⟨o,e,cc,d⟩:=id D;exact⟨_,U,kI e cc d (by decide) ⟨.str ⟨#[c]⟩,H,I1,⟨_,U⟩,⟨U,c,L,U⟩,D,λb C=>(Ua b C).1⟩⟩
  .refine(Walks.strWide (prog:=X.prog) (w:=X.w) (I.ok.hd S) it x t).item i s _ _ hg st λv h' tk hv D G=>?_
   obtain⟨c,u,L,rfl⟩:=hv;have I1:Inv X pins σ H {s with heap:=h',toks:=tk}:=I.turned (λb o C e=>G b o (by simpa using C) e) O Z N M Y;obtain⟨o,e,cc,d⟩:=id D;exact⟨_,U,kI e cc d (by decide) ⟨.str ⟨#[c]⟩,H,I1,⟨_,U⟩,⟨U,c,L,U⟩,D,λb C=>(Ua b C).1⟩⟩
 done:=by
  intro X hP hw hK S i pins s σ H E I Ua st hg;subst hP hw hK;obtain⟨O,Z,f2,N,M,Y⟩:=Ua it (by simp);subst hg;rcases hT with rfl|rfl
  .exact(Walks.strAscii (prog:=X.prog) (w:=X.w) (I.ok.hd S) it x t).done s _ _ st λh' tk G=>⟨U,I.turned (t':=tk) (λb o C e=>G b o (by simpa using C) e) O Z N M Y⟩
  .exact(Walks.strWide (prog:=X.prog) (w:=X.w) (I.ok.hd S) it x t).done s _ _ st λh' tk G=>⟨U,I.turned (t':=tk) (λb o C e=>G b o (by simpa using C) e) O Z N M Y⟩
 self:=λA i s Q E st h=>by
  rcases hT with rfl|rfl
  .exact wpAny_pyIter_striter_ascii st h
  .exact wpAny_pyIter_striter_wide st h
inductive Zia(R:It->Hp->Prop)(v:V)(H1:Hp):Prop
 |mk (x:_):(v=.str x)->(R (Its x) H1)->Zia R v H1
def iStr(te:TE):TI:=λσ H R=>te σ H λv H1=>Zia R v H1
def qi_str{X:Cx}{tg l:Ax}(N:QE X l d):QI X tg l (iStr d):=by
 refine⟨λpins s σ H R I h=>?_⟩;refine thn (N.out pins s σ H _ I h) λv C ⟨y,H1,r,G,M⟩=>?_;obtain⟨x,rfl,q⟩:=M;obtain⟨t,rfl⟩:=G;have go:∀(o:Obj)(T:String),(T = "str_ascii_iterator" \/ T = "str_iterator")->(C.heap.push o).IsStrIter _ T x t 0->PIE X pins σ tg R _ _:=λo T D st=>
  ⟨_,_,_,_,H1,U,r.kept (t':=C.toks) λb o e=>Qad _ e,Zfs _ x t T D,st,λb L=>by
   have e:=by simpa using L
   subst e;exact r.fpOk (Qah _) (r.hok.fresh (Qah _)),q⟩
 cases ha:x.cps.all (· < 128)
 .exact wpAny_pyIter_wide ha (go _ "str_iterator" (.inr U) ⟨_,Qam _ U,U,U⟩)
 .exact wpAny_pyIter_ascii ha (go _ _ (.inl U) ⟨_,Qam _ U,U,U⟩)
def Zcd (Z:X.calm=true):Xf X (.builtin "all") (λxs H Q=>∃(p:Aw)(bs:Am),xs=[.ref p]/\SqL X.K H p (bs.map V.bl)/\Q (.bl (bs.all id)) H):=by
 intro pins s σ H xs us Q I r h;obtain⟨p,bs,rfl,Y,q⟩:=h;obtain⟨u,rfl,rx⟩:=vals1 r;cases rx;obtain⟨L,S,pl,hz⟩:=I.list Y;have N:=pl.isList;have C:=S.length;rw[Qab]at C;refine call_all_walk (Qfq N ?_);refine⟨_,_,_,_,_,_,λi=>(bs[i]?).getD true,U,Walks.list (A:=X.A.in1) (I.ok.hd Z) _ p (Qbc (by obtain⟨_,e,_⟩:=N;exact Qav e)) _,
  ⟨⟨_,Qam _ U,U,U⟩,N.push _⟩,λi v s' Q' E' Ua O=>?_,λh' tk hk=>?_⟩
 .have hi:=by simpa using Ua
  have G:i<bs.length:=by grind
  obtain⟨w',e1,e2⟩:=S.get (by rw[Qai,Qac G];rfl);rw[hi]at e1;cases e1;cases e2;simp[Qac G]at O;exact Qdk O
 .have e:((List.range L.toArray.size).all λi=>(bs[i]?).getD true)=bs.all id:=by
   rw[Qbn,<-C,Qfc,Qb2,Qb2];constructor
   .intro z b G;obtain⟨i,hi,rfl⟩:=List.getElem_of_mem G;have:=z i (Qch.mpr hi);simpa[Qac hi]using this
   .intro z i hi;have D:=Qch.mp hi;have:=z _ (Qbi D);simpa[Qac D]using this
  rw[e];refine⟨.bl _,H,I.kept (λb o M=>hk b o (λhm=>?_) (Qad _ M)),U,q⟩;rw[Qao.mp hm]at M;exact absurd (Qav M) (Qck _)
theorem WW:∀{r:Ag} {ys:Ai},StrsAre r ys->Vals (ys.map V.str) r
 |_,_,.nil=>.nil
 |_,_,.cons y t h=>.cons ⟨t,U⟩ (WW h)
def jl:bootBuiltins "max" = some (.builtin "max"):=by decide +kernel
def Zce:bootBuiltins "min" = some (.builtin "min"):=by decide +kernel
def qW{t u:TS}(J:A7)(h1:∀N:A7,(∀c H,J c H->N c H)->t {S with nx:=N} c H)(h2:∀c H,J c H->u S c H):Yl t u S c H:=h1 _ h2
def take_snoc{xs:List g}{x:g}(h:xs[i]?=some x):xs.take (i+1)=xs.take i++[x]:=by
 rw[List.take_succ,h];rfl
def kO{xs:A8}{is:Aj}(p:V->Bool)(f:V->V)(M:SqL K H a xs)(O:xs.length<=sizeLine)
  (D:∀x∈xs,∀R:Bool->Hp->Prop,R (p x) H->G (zF is c (some x)) H R)
  (L:∀x∈xs,p x=true->∀R:VK,R (f x) H->d (zF is c (some x)) H R)
  (N:∀l,H l=none->I (.ref l) (upd H l (.lst ((xs.filter p).map f)))):GN is G d c I (Itl K a) H:=by
 refine Xy (xs:=xs) (λi zs H'=>zs=((xs.take i).filter p).map f/\H'=H) ⟨U,U⟩ ?_ ?_ ?_ ?_
 .grind
 .grind
 .rintro i x zs H' R hR r ⟨rfl,rfl⟩;have C:=Qat r;have e:=take_snoc r;refine D x C _ ?_;cases hp:p x with
  |true=>
   refine(Qa5 U) ▸ L x C hp _ (hR _ _ ⟨?_,U⟩);rw[e,Qdt,Qau,Qcl,Qa5 hp];rfl
  |false=>
   refine(Qaw Qba) ▸ hR _ _ ⟨?_,U⟩;rw[e,Qdt,Qcl,Qaw (by grind)];simp
 .grind
def comp_map{xs:A8}{is:Aj}(f:V->V)(C:SqL K H a xs)(D:xs.length<=sizeLine)
  (M:∀x∈xs,∀R:VK,R (f x) H->d (zF is c (some x)) H R)
  (L:∀l,H l=none->I (.ref l) (upd H l (.lst (xs.map f)))):GN is Zh6 d c I (Itl K a) H:=by
 refine kO _ f C D (λx _ R h=>h) (λx r _=>M x r) λl G=>?_;rw[List.filter_eq_self.mpr λ_ _=>U];exact L l G
def Zcf{xs:A8}{is:Aj}(f:V->V)(D:SqT K H a xs)(L:xs.length<=sizeLine)
  (C:∀x∈xs,∀R:VK,R (f x) H->d (zF is c (some x)) H R)
  (G:∀l,H l=none->I (.ref l) (upd H l (.lst (xs.map f)))):GN is Zh6 d c I (Itt K a) H:=by
 refine Wj (xs:=xs) (λi zs H'=>zs=(xs.take i).map f/\H'=H) ⟨U,U⟩ ?_ ?_ ?_ ?_
 .grind
 .grind
 .rintro i x zs H' R hR r ⟨rfl,rfl⟩;unfold Zh6;refine C x (Qat r) _ (hR _ _ ⟨?_,U⟩);rw[take_snoc r,Qau];rfl
 .grind
section
variable {κ:Type}[DecidableEq κ]
def Yc(kvs:List (κ×V))(k:κ):Option V:=(kvs.find? λr=>decide (r.1=k)).map (·.2)
def putK(kvs:List (κ×V))(k:κ)(v:V):List (κ×V):=
 if(kvs.any λr=>decide (r.1=k))=true then kvs.map (λr=>if r.1=k then(r.1,v)else r)else kvs++[(k,v)]
def ZU{p:κ×V}{r:List (κ×V)}{k:κ}(e:p.1=k):Yc (p::r) k=some p.2:=by simp[Yc,e]
def ZP{p:κ×V}{r:List (κ×V)}{k:κ}(e:¬p.1=k):Yc (p::r) k=Yc r k:=by simp[Yc,e]
theorem Ga(k:κ):∀kvs:List (κ×V),(kvs.any λC=>decide (C.1=k))=(Yc kvs k).isSome
 |[]=>rfl
 |p::r=>by
  rw[Qet]
  by_cases e:p.1=k
  .simp[ZU e,Qaq e]
  .rw[ZP e,Qan e];exact Ga k r
theorem gw(k j:κ)(y:V):∀kvs:List (κ×V),Yc (kvs.map λC=>if C.1=k then(C.1,y)else C) j=(Yc kvs j).map λx=>if j=k then y else x
 |[]=>rfl
 |p::r=>by
  have D:=gw k j y r;rw[Qbw]
  by_cases h:p.1=k
  .rw[Qa5 h]
   by_cases e:p.1=j
   .rw[ZU (p:=(p.1,y)) e,ZU e,Qgg,Qa5 (e.symm.trans h)]
   .rw[ZP (p:=(p.1,y)) e,ZP e,D]
  .rw[Qaw h]
   by_cases e:p.1=j
   .rw[ZU e,ZU e,Qgg,Qaw (λz=>h (e.trans z))]
   .rw[ZP e,ZP e,D]
theorem vc(k j:κ)(y:V):∀kvs:List (κ×V),Yc kvs k=none->Yc (kvs++[(k,y)]) j=if j=k then some y else Yc kvs j
 |[],_=>by
  by_cases e:k=j
  .rw[Qa5 e.symm];exact ZU e
  .rw[Qaw (λz=>e z.symm)];exact ZP e
 |p::r,C=>by
  rw[List.cons_append];have D:¬p.1=k:=λz=>by rw[ZU z]at C;cases C
  rw[ZP D]at C
  by_cases e:p.1=j
  .rw[ZU e,ZU e,Qaw (λz=>D (e.trans z))]
  .rw[ZP e,ZP e,vc k j y r C]
def qX(kvs:List (κ×V))(k j:κ)(y:V):Yc (putK kvs k y) j=if j=k then some y else Yc kvs j:=by
 unfold putK
 by_cases a:(kvs.any λC=>decide (C.1=k))=true
 .rw[Qa5 a,gw];rw[Ga]at a
  by_cases e:j=k
  .obtain⟨x,r⟩:=Option.isSome_iff_exists.mp a;rw[Qa5 e,e,r,Qgg,Qa5 U]
  .rw[Qaw e];cases Yc kvs j with
   |none=>rfl
   |some x=>rw[Qgg,Qaw e]
 .rw[Qaw a];refine vc k j y kvs ?_;rw[Ga]at a;cases q:Yc kvs k with
  |none=>rfl
  |some x=>rw[q]at a;exact(a U).elim
def Wk(kvs:List (κ×V))(k:κ)(v:V):(putK kvs k v).length<=kvs.length+1:=by
 unfold putK;split
 .rw[Qab];lia
 .grind
def jL.isSome_eq{o:Option V}{u:Option Av}(r:jL o u):o.isSome=u.isSome:=by
 cases o with
 |none=>cases u with
  |none=>rfl
  |some _=>exact(r).elim
 |some _=>cases u with
  |none=>exact(r).elim
  |some _=>rfl
def jL.getD{o:Option V}{u:Option Av}{d:V}{C:Av}(r:jL o u)(D:RelV d C):RelV (o.getD d) (u.getD C):=by
 cases o with
 |none=>cases u with
  |none=>exact D
  |some _=>exact(r).elim
 |some _=>cases u with
  |none=>exact(r).elim
  |some _=>exact r
theorem KV.val{kvs:List (κ×V)}{vs:List (κ×Av)}(r:KV kvs vs)(k:κ):jL (Yc kvs k) (valueAt vs k):=by
 induction r with
 |nil=>exact True.intro
 | @cons p q ps D h t G=>
  obtain⟨h1,h2⟩:=h
  by_cases e:p.1=k
  .have C:=h1.symm.trans e;have b:valueAt (q::D) k=some q.2:=by simp[valueAt,C]
   rw[ZU e,b];exact h2
  .have C:¬q.1=k:=λz=>e (h1.trans z)
   have b:valueAt (q::D) k=valueAt D k:=by simp[valueAt,C]
   rw[ZP e,b];exact G
theorem KV.any{kvs:List (κ×V)}{vs:List (κ×Av)}(r:KV kvs vs)(k:κ):(kvs.any λC=>decide (C.1=k))=vs.any λC=>decide (C.1=k):=by
 induction r with
 |nil=>rfl
 |cons h t D=>rw[Qet,Qet,D,h.1]
theorem KV.repl{kvs:List (κ×V)}{vs:List (κ×Av)}(r:KV kvs vs)(k:κ)(G:RelV y u):
  KV (kvs.map λC=>if C.1=k then(C.1,y)else C) (vs.map λC=>if C.1=k then(C.1,u)else C):=by
 induction r with
 |nil=>exact .nil
 | @cons p q ps I h t D=>
  refine .cons ?_ D;obtain⟨h1,h2⟩:=h
  by_cases e:p.1=k
  .grind
  .grind
def KV.put{kvs:List (κ×V)}{vs:List (κ×Av)}(r:KV kvs vs)(k:κ)(C:RelV y u):KV (putK kvs k y) (stored vs k u):=by
 unfold putK stored;rw[r.any k]
 by_cases e:(vs.any λD=>decide (D.1=k))=true
 .rw[Qa5 e,Qa5 e];exact r.repl k C
 .rw[Qaw e,Qaw e];exact Paired.snoc r ⟨U,C⟩
theorem KV.keys{kvs:List (κ×V)}{vs:List (κ×Av)}(r:KV kvs vs):kvs.map (·.1)=vs.map (·.1):=by
 induction r with
 |nil=>rfl
 |cons h t C=>rw[Qbw,Qbw,C,h.1]
def KV.length{kvs:List (κ×V)}{vs:List (κ×Av)}(r:KV kvs vs):kvs.length=vs.length:=Qdj r
end
def jQ{k:Key}(r:RelV (kV k) u):(ZQ P w).is k u=true:=by
 cases k with
 |inl i=>obtain⟨t,e⟩:=(r);subst e;exact kG P w i t
 |inr x=>obtain⟨t,e⟩:=(r);subst e;exact JM P w x t
theorem vd{P:Aq}{w:Au}:∀{ks:List Key} {C:Ag},Vals (ks.map kV) C->ItemsAre (ZQ P w) ks C
 |[],_,r=>by cases r;exact .nil
 |k::ks,_,r=>by
  cases r with
  |cons h t=>exact .cons (jQ h) (vd t)
abbrev KT(H:Hp):List (List Key×V)->List (List Key×Aw×Av)->Prop:=Paired λp q=>p.1=q.1/\H q.2.1=some (.tup (p.1.map kV))/\RelV p.2 q.2.2
theorem KT.val{kvs:List (List Key×V)}{xs:List (List Key×Aw×Av)}(r:KT H kvs xs)(k:List Key):jL (Yc kvs k) ((atKey xs k).map (·.2)):=by
 induction r with
 |nil=>exact True.intro
 | @cons p q ps D h t G=>
  obtain⟨h1,_,h2⟩:=h
  by_cases e:p.1=k
  .have C:=h1.symm.trans e;have b:atKey (q::D) k=some q.2:=by simp[atKey,C]
   rw[ZU e,b];exact h2
  .have C:¬q.1=k:=λz=>e (h1.trans z)
   have b:atKey (q::D) k=atKey D k:=by simp[atKey,C]
   rw[ZP e,b];exact G
theorem KT.repl{kvs:List (List Key×V)}{xs:List (List Key×Aw×Av)}(r:KT H kvs xs)(k:List Key)(G:RelV y u):
  KT H (kvs.map λC=>if C.1=k then(C.1,y)else C) (xs.map (putAt k u)):=by
 induction r with
 |nil=>exact .nil
 | @cons p q ps L h t D=>
  refine .cons ?_ D;obtain⟨h1,h2,I⟩:=h;unfold putAt
  by_cases e:p.1=k
  .grind
  .grind
def KT.put{kvs:List (List Key×V)}{xs:List (List Key×Aw×Av)}(r:KT H kvs xs)(k:List Key){b:Aw}(G:H b=some (.tup (k.map kV)))(C:RelV y u):
  KT H (putK kvs k y) (storedH xs k b u):=by
 have e:(kvs.any λD=>decide (D.1=k))=(atKey xs k).isSome:=by
  rw[Ga,(r.val k).isSome_eq,Qgw]
 unfold putK storedH;rw[e]
 by_cases q:(atKey xs k).isSome=true
 .rw[Qa5 q,Qa5 q];exact r.repl k C
 .rw[Qaw q,Qaw q];exact Paired.snoc r ⟨U,G,C⟩
theorem KT.keeps{H':Hp}{kvs:List (List Key×V)}{xs:List (List Key×Aw×Av)}(r:KT H kvs xs)(C:∀b ys,H b=some (.tup ys)->H' b=some (.tup ys)):KT H' kvs xs:=
 Paired.mapP r λ_ _ z=>⟨z.1,C _ _ z.2.1,z.2.2⟩
section
variable {P:Aq}{w:Au}{H:Hp}{h:Heap}{a:Aw}
def Zjn{u:HO}(ok:HOk P w H h)(e:Rd H a u):YY P w H h a u:=e.ok ok
theorem jR{kvs:A0}(ok:HOk P w H h)(e:Rd H a (.dK kvs)):kvs.length<=sizeLine/\(a == sysModules)=false/\∃vs,KV kvs vs/\h.DictOf (ZQ P w) a vs:=
 Zjn ok e
def Zjo{kvs:A0}(ok:HOk P w H h)(e:H a=some (.dK kvs)):kvs.length<=sizeLine/\(a == sysModules)=false/\∃vs,KV kvs vs/\h.DictOf (ZQ P w) a vs:=jR ok (.inl e)
def xy{ks:List Key}(ok:HOk P w H h)(e:H a=some (.tup (ks.map kV))):(tupleKind (ZQ P w)).is h ks a:=by
 obtain⟨_,D,r,o,h1,h2,⟨n,C⟩,_⟩:=(ok a _ e);exact⟨o,_,n,h1,h2,C,by simpa using vd r⟩
theorem uT{kvs:List (List Key×V)}(ok:HOk P w H h)(e:Rd H a (.dT kvs)):kvs.length<=sizeLine/\(a == sysModules)=false /\
  ∃xs,KT H kvs xs/\h.DictOfH (tupleKind (ZQ P w)) a xs:=by
 obtain⟨z,y,xs,r,o,es,ep,h1,h2,L,I,G⟩:=(Zjn ok e);refine⟨z,y,xs,r,o,es,ep,h1,h2,L,I,λx C=>?_,G⟩;have all:∀{l:List _} {m:List _},KT H l m->∀x∈m,(tupleKind (ZQ P w)).is h x.1 x.2.1:=by
  intro l m q
  induction q with
  |nil=>intro x C;exact nomatch C
  | @cons p q ps N M t D=>
   intro x C;rcases Qas.mp C with e|C
   .subst e;exact xy ok (by grind)
   .exact D x C
 exact all r x C
theorem Zmb{kvs:List (List Key×V)}(ok:HOk P w H h)(e:H a=some (.dT kvs)):kvs.length<=sizeLine/\(a == sysModules)=false /\
  ∃xs,KT H kvs xs/\h.DictOfH (tupleKind (ZQ P w)) a xs:=uT ok (.inl e)
end
def Zib(H:Hp)(a:Aw)(y:V)(r:Option V):Prop:=
 (∃kvs k,Rd H a (.dK kvs)/\y=kV k/\r=Yc kvs k)\/∃kvs k b,Rd H a (.dT kvs)/\y=.ref b/\H b=some (.tup (k.map kV))/\r=Yc kvs k
def uU(H:Hp)(a:Aw)(y v:V)(H':Hp):Prop:=
 (∃kvs k,H a=some (.dK kvs)/\y=kV k/\kvs.length<sizeLine/\H'=upd H a (.dK (putK kvs k v))) \/
 ∃kvs k b,H a=some (.dT kvs)/\y=.ref b/\H b=some (.tup (k.map kV))/\kvs.length<sizeLine/\H'=upd H a (.dT (putK kvs k v))
def Zib.t{b:Aw}{kvs:List (List Key×V)}{k:List Key}(e:H a=some (.dT kvs))(r:H b=some (.tup (k.map kV))):Zib H a (.ref b) (Yc kvs k):=.inr ⟨kvs,k,b,.inl e,U,r,U⟩
def uU.k{H:Hp}{a:Aw}{kvs:A0}{k:Key}{v:V}(e:H a=some (.dK kvs))(r:kvs.length<sizeLine):uU H a (kV k) v (upd H a (.dK (putK kvs k v))):=.inl ⟨kvs,k,e,U,r,U⟩
theorem uU.t{b:Aw}{kvs:List (List Key×V)}{k:List Key}{v:V}(e:H a=some (.dT kvs))(r:H b=some (.tup (k.map kV)))(C:kvs.length<sizeLine):
  uU H a (.ref b) v (upd H a (.dT (putK kvs k v))):=.inr ⟨kvs,k,b,e,U,r,C,U⟩
section
variable {X:Cx}{pins:Ac}{σ:St}{H:Hp}{s:As}{a:Aw}{y v:V}{u r:Av}{o:Option V}{A:Ar}{E:Ab}
def Inv.big(I:Inv X pins σ H s):sysModules<s.heap.objs.size:=Nat.lt_trans (by decide) (I.mod.glob.keeps I.bk).lt
def Zcg(N:A.units+1<cLine)(I:Inv X pins σ H s)(g:Zib H a y (some v))(M:RelV y u)(h:∀D s',Inv X pins σ H s'->RelV v D->Q D s'):
  A9 X.prog X.w A (getItem (.ref a) u) Q E s:=by
 rcases g with⟨kvs,k,e,L,l⟩|⟨kvs,k,b,e,L,S,l⟩
 .subst L;obtain⟨z,O,vs,r,dd⟩:=jR I.hok e;obtain⟨D,hw,C⟩:=jL.some_of (by rw[l];exact r.val k);exact wpAny_getItem_of (jQ M) dd.mapOf hw (h D _ (I.tok _) C)
 .subst L;cases(M);obtain⟨z,O,xs,r,dd⟩:=uT I.hok e;obtain⟨D,hw,C⟩:=jL.some_of (by rw[l];exact r.val k);obtain⟨p,Ua,G⟩:=Qa4.mp hw;refine wpAny_getItem_heap (Qfe N) (xy I.hok S) dd Ua ?_;rw[G];exact h D _ (I.tok _) C
def d_in(L:A.units+1<cLine)(I:Inv X pins σ H s)(g:Zib H a y o)(G:RelV y u)(h:∀s',Inv X pins σ H s'->Q (.bool o.isSome) s'):
  A9 X.prog X.w A (compareOp .In u (.ref a)) Q E s:=by
 rcases g with⟨kvs,k,e,D,l⟩|⟨kvs,k,b,e,D,M,l⟩
 .subst D;obtain⟨z,C,vs,r,dd⟩:=jR I.hok e;refine wpAny_in_of (jQ G) C dd.mapOf ?_;rw[<-(r.val k).isSome_eq,<-l];exact h _ (I.tok _)
 .subst D;cases(G);obtain⟨z,C,xs,r,dd⟩:=uT I.hok e;refine wpAny_in_heap (Qfe L) (xy I.hok M) C dd ?_;have q:=(r.val k).isSome_eq;rw[Qgw]at q;rw[<-q,<-l];exact h _ (I.tok _)
def Zjp(L:A.units+1<cLine)(I:Inv X pins σ H s)(g:Zib H a y o)(G:RelV y u)(h:∀s',Inv X pins σ H s'->Q (.bool (!o.isSome)) s'):
  A9 X.prog X.w A (compareOp .NotIn u (.ref a)) Q E s:=by
 rcases g with⟨kvs,k,e,D,l⟩|⟨kvs,k,b,e,D,M,l⟩
 .subst D;obtain⟨z,C,vs,r,dd⟩:=jR I.hok e;refine wpAny_notIn_of (jQ G) C dd.mapOf ?_;rw[<-(r.val k).isSome_eq,<-l];exact h _ (I.tok _)
 .subst D;cases(G);obtain⟨z,C,xs,r,dd⟩:=uT I.hok e;refine wpAny_notIn_heap (Qfe L) (xy I.hok M) C dd ?_;have q:=(r.val k).isSome_eq;rw[Qgw]at q;rw[<-q,<-l];exact h _ (I.tok _)
theorem x4{t':Nat}(I:Inv X pins σ H s)(r:Mut (H a))(C:Heap.SameBut a s.heap h)(D:∃q,h.get? a=some q)(new:YY X.prog X.w (upd H a J) h a J):
  Inv X pins σ (upd H a J) {s with heap:=h,toks:=t'}:=
 I.write r (.inl U) (λb q G z=>(C.2 b G).trans z) D new
theorem Zch{H':Hp}{kvs:A0}{vs:List (Key×Av)}(z:kvs.length<=sizeLine)(C:(a == sysModules)=false)(r:KV kvs vs)(dd:h.DictOf (ZQ P w) a vs):
  YY P w H' h a (.dK kvs):=⟨z,C,vs,r,dd⟩
def Zci{H':Hp}{Q:Unit->Shared->Prop}(hu:A.units+1<cLine)(I:Inv X pins σ H s)(g:uU H a y v H')(S:RelV y u)(Ua:RelV v r)(h:∀s',Inv X pins σ H' s'->Q () s'):
  A9 X.prog X.w A (setItem (.ref a) u r) Q E s:=by
 rcases g with⟨kvs,k,e,L,l,N⟩|⟨kvs,k,b,e,L,Z,l,N⟩
 .subst L N;obtain⟨z,G,vs,C,dd⟩:=Zjo I.hok e;have hz:vs.length<=sizeLine:=by rw[<-C.length];exact z
  have O:(putK kvs k v).length<=sizeLine:=by have:=Wk kvs k v;lia
  refine wpAny_setItem_pairs (jQ S) dd λh' dd' M=>h _ ?_;exact x4 I (by rw[e];exact True.intro) M (let⟨q,_,_,D,_⟩:=dd';⟨q,D⟩) (Zch O G (C.put k Ua) dd')
 .subst L N;cases(S);obtain⟨z,G,xs,C,dd⟩:=Zmb I.hok e;have hz:xs.length<=sizeLine:=by rw[<-Qdj C];exact z
  have O:(putK kvs k v).length<=sizeLine:=by have:=Wk kvs k v;lia
  refine wpAny_setItem_heap (Qfe hu) (xy I.hok Z) dd λh' dd' M=>h _ ?_;obtain⟨q,es,ep,D,h2,h3,h4,_,h5⟩:=dd';refine x4 I (by rw[e];exact True.intro) M ⟨q,D⟩ ⟨O,G,_,(C.put k Z Ua).keeps λc ys Y=>?_,q,es,ep,D,h2,h3,h4,h5⟩;rw[Zj (ZY Y e (λz=>nomatch z))];exact Y
end
def Zm8(i:Ax):Prop:=∀C r,subscripted i false C r=operate [C,r] (getItem C r)
def Zcj{prog:Aq}{A:Ar}{E:Ab}{env:Env}{C:Ax}{T id:String}
  (S:typeLookup (.type T) "__getitem__" = pure (some (.builtin id))) (O:Zm8 C)
  (h:A9 prog w A (eval e env) (λo G=>A9 prog w A (eval C env) (λi s₂=>s₂.TypeIs o T/\A9 prog w A (getItem o i) Q E s₂) E G) E s):
  A9 prog w A (eval (.Subscript e C p) env) Q E s:=by
 refine Subscript_ (Qdb h (λo G L=>Qdb L (λi s₂ D=>?_) λ_ _ x=>x) λ_ _ x=>x);obtain⟨N,D⟩:=D;refine Qaa (Qaa (Qd2 N S ?_));have fin:A9 prog w A (subscripted C false o i) (λr I=>A9 prog w A (letTemporaryGo e o r >>= λ_=>pure r) Q E I) E s₂:=by
  rw[O o i];exact wpAny_operating (Qdb D (λr I M=>Qaa (wpAny_letTemporaryGo (Qae M))) λ_ _ x=>x)
 first
  |exact Qae (Qaa fin)
  |exact Qaa _
  |exact Qaa fin
inductive Zck(Q:VK)(x:V)(y:V)(H2:Hp):Prop
 |mk (a v:_):(x=.ref a)->(Zib H2 a y (some v))->(Q v H2)->Zck Q x y H2
def Zmc(td ty:TE):TE:=λσ H Q=>td σ H λx H1=>ty σ H1 λy H2=>Zck Q x y H2
inductive Zcl(D:Ends)(σ:St)(v:V)(x:V)(y:V)(H3:Hp):Prop
 |mk (a H4:_):(x=.ref a)->(uU H3 a y v H4)->(D.nx σ H4)->Zcl D σ v x y H3
def sDPut(td ty tv:TE):TS:=λD σ H=>tv σ H λv H1=>td σ H1 λx H2=>ty σ H2 λy r=>Zcl D σ v x y r
section
variable {X:Cx}{o i e value:Ax}{pos pos' tpos:Pos}{td ty tv:TE}
def Zjq(N:X.A.units+1<cLine)(Ua:PE X o td)(hi:PE X i ty)(O:Zm8 i):PE X (.Subscript o i pos) (Zmc td ty):=by
 intro pins s σ H Q I h;refine Zcj PySem.F.slot_dict_getitem.lookup O (thn (Ua pins s σ H _ I h) λu L ⟨x,H1,Y,Z,G⟩=>thn (hi pins L σ H1 _ Y G) λiv s2 ⟨y,H2,C,D,a,v,ex,g,M⟩=>?_);subst ex;obtain rfl:u=Value.ref a:=Z;exact⟨(by
    rcases g with⟨kvs,k,e,_,_⟩|⟨kvs,k,b,e,_,_,_⟩
    .obtain⟨_,_,vs,_,dd⟩:=jR C.hok e;exact dd.typeIs
    .obtain⟨_,_,xs,_,dd⟩:=uT C.hok e;exact dd.typeIs),Zcg N C g D λw' s3 S r=>⟨v,H2,S,r,M⟩⟩
end
theorem jS    (h:Heap) (r:sysModules<h.objs.size):YY P w H (h.push {cls:=.type "dict",data:=.dict #[]}) h.objs.size (.dK []):=
 ⟨Qbe _,Qea.mpr (Qdx (Qbc r)),[],.nil,Heap.DictOf.new h⟩
theorem gy    (h:Heap) (r:sysModules<h.objs.size):YY P w H (h.push {cls:=.type "dict",data:=.dict #[]}) h.objs.size (.dT []):=
 ⟨Qbe _,Qea.mpr (Qdx (Qbc r)),[],.nil,_,#[],0,Qam _ U,⟨U,U,U⟩,U,U,Qbu⟩
def tDNewK:TE:=λ_ H Q=>∀p,H p=none->Q (.ref p) (upd H p (.dK []))
def tDNewT:TE:=λ_ H Q=>∀p,H p=none->Q (.ref p) (upd H p (.dT []))
def Zcm:List (TE×TE)->St->Hp->(List (V×V)->Hp->Prop)->Prop
 |[],_,H,Q=>Q [] H
 |(tk,tv)::r,σ,H,Q=>tk σ H λx H1=>tv σ H1 λy H2=>Zcm r σ H2 λps C=>Q ((x,y)::ps) C
abbrev VV:List (V×V)->List (Av×Av)->Prop:=Paired λp q=>RelV p.1 q.1/\RelV p.2 q.2
def PPs(X:Cx)(pos:Pos)(keys:List (Option Ax))(r:An)(C:List (TE×TE)):Prop:=
 ∀(pins:Ac)(s:As)(σ:St)(H:Hp)(Q:List (V×V)->Hp->Prop),Inv X pins σ H s->Zcm C σ H Q->
  Ba X (evalPairs (pairTrees keys r X.env pos)) (λvs s'=>∃ps H',Inv X pins σ H' s'/\VV ps vs/\Q ps H') X.xe s
def x5(kvs r:A0):A0:=r.foldl (λacc C=>putK acc C.1 C.2) kvs
theorem KV.merge:∀{C:A0} {D:List (Key×Av)} {kvs:A0} {vs:List (Key×Av)},KV C D->KV kvs vs->KV (x5 kvs C) (merged vs D):=by
 intro C D kvs vs r
 induction r generalizing kvs vs with
 |nil=>intro q;exact q
 | @cons p q ps L h t I=>
  intro G;have e:KV (putK kvs p.1 p.2) (stored vs q.1 q.2):=by
   have:=G.put p.1 h.2;rw[<-h.1];exact this
  exact I e
theorem Gb:∀(C kvs:A0),(x5 kvs C).length<=kvs.length+C.length
 |[],kvs=>by show kvs.length<=kvs.length+0;lia
 |p::r,kvs=>by
  have h1:=Gb r (putK kvs p.1 p.2);have h2:=Wk kvs p.1 p.2;show(x5 _ r).length<=_;rw[Qaz];lia
theorem jm{P:Aq}{w:Au}:∀{kvs:A0} {D:List (Av×Av)},VV (kvs.map λG=>(kV G.1,G.2)) D->∃C,Carries (ZQ P w) D C/\KV kvs C
 |[],_,r=>by cases r;exact⟨[],True.intro,.nil⟩
 |p::kvs,_,r=>by
  cases r with
  | @cons a b as bs h t=>
   obtain⟨C,c,q⟩:=jm t;obtain⟨b1,b2⟩:=b;exact⟨(p.1,b2)::C,⟨jQ h.1,U,c⟩,.cons ⟨U,h.2⟩ q⟩
def tDisp(r:List (TE×TE)):TE:=λσ H Q=>∀p,H p=none->Zcm r σ (upd H p (.dK [])) λps H2=>H2 p=some (.dK [])/\∃kvs:A0,ps=kvs.map (λC=>(kV C.1,C.2))/\kvs.length<=15/\Q (.ref p) (upd H2 p (.dK (x5 [] kvs)))
structure M2(X:Cx)(o:Ax)(m:Str)(apos:Pos)(e f:Ax)(cpos:Pos):Prop where
 base:attributeBase o m X.env (eval o X.env)=eval o X.env
 few:((backTo cpos (starEach [e,f] X.env)).all (λx=>!x.1)&&(backToKw cpos (keywordEach [] X.env)).all (λx=>x.1.isSome)
  && decide (([e,f]:An).length+([]:List Keyword).length+(if([]:List Keyword).isEmpty then 0 else 1)<30))=true
 line:(apos.endLine == cpos.line)=true
 trees:backTo cpos (starEach [e,f] X.env)=[(false,eval e X.env),(false,eval f X.env)]
section
variable {X:Cx}{pins:Ac}{σ:St}{H:Hp}{s:As}{a:Aw}{kvs:A0}{A:Ar}{E:Ab}
def Zft  (I:Inv X pins σ H s) (e:Rd H a (.dK kvs)) (h:∀p s',H p=none->Inv X pins σ (upd H p (.dK kvs)) s'->Q (.ref p) s'):A9 X.prog X.w A (call (.type "dict") [.ref a]) Q E s:=by
 obtain⟨z,G,vs,r,dd⟩:=jR I.hok e;refine kt_call_dict G dd (by rw[<-r.length];exact z) λh' dd' D=>(h _ _ (I.hok.fresh (Qah _)) (I.laid (λb q C=>((D.2 b (Qbc (Qav C))).trans (Qad _ C))) (Qah _) (Zch z (Qea.mpr (Qdx (Qbc I.big))) r dd')))
end
end L2
namespace EnT
section
variable {prog:Aq}{w:Au}{A:Ar}{E:Ab}{s:As}
def next_of{it l:Aw}{items:_}{x:Av}(r:s.heap.IsTupleIter it l i)(O:s.heap.IsTuple l items)(N:items[i]?=some x)
  (L:∀h',h'.IsTupleIter it l (i+1)->Heap.SameBut it s.heap h'->Q x {s with heap:=h'}):A9 prog w A (Builtin.SmallTypes.nextOf (.ref it)) Q E s:=by
 obtain⟨o,D,M,C⟩:=id r;obtain⟨S,G,_,Ua,I⟩:=O;refine Qaa (wpAny_callSpecial?_slot r.typeIs Qdp (Qbd Qdp r.typeIs Qgh ?_ (Qga _)));show wpAny _ _ (field _ 0 >>= _) _ _ s;refine Qaa (Qbz D C U (Qaa (Qbz D C U (Qaa (Qci G I ?_)))));simp[N];refine Qaa (Qcs D C (by simp) (Qae ⟨x,U,Qae (L _ ⟨_,Qbf _ D (Qcj (Qbm C _)),(Qd3 ..).trans M,?_⟩ (Qbr ..))⟩));rw[Qbm C];simp[rawInt]
def next_no{it l:Aw}{items:_}(hh:A.handled=none)(r:s.heap.IsTupleIter it l i)(M:s.heap.IsTuple l items)(L:items[i]?=none)
  (N:∀h' e,Heap.ExtBut it s.heap h'->(∃o,h'.get? e=some o/\o.cls=.type "StopIteration")->E (.ref e) {s with heap:=h'}):A9 prog w A (Builtin.SmallTypes.nextOf (.ref it)) Q E s:=by
 obtain⟨o,G,S,D⟩:=id r;obtain⟨Ua,I,_,O,C⟩:=M;refine Qaa (wpAny_callSpecial?_slot r.typeIs Qdp (Qbd Qdp r.typeIs Qgh ?_ (Qga _)));show wpAny _ _ (field (.ref it) 0 >>= _) _ _ s;refine Qaa (Qbz G D (x:=.ref l) U ?_);refine Qaa (Qbz G D (x:=.int i 0) U ?_);refine Qaa (Qci I C ?_);simp only[Qca,L];refine Qaa (Qdl (Qaa (Qcs G D (by simp) ?_)));refine Qaa ?_;refine Qaa (Qbo ?_ (by size_fits));refine Qaa (Qcf (by first|rfl|(rfl)) ?_);refine Qbo ?_ (by size_fits);refine Qaa (Qf9 ?_)
 first|rw[hh]|rw[hh]
 refine Qaa (Qae (Qg3 ?_));exact N _ _ (((Qbr ..).extBut.push _).push _) ⟨_,Qam _ U,U⟩
end
end EnT
namespace ZpT
def ZS:Bool->Heap->Addr->Addr->Nat->Prop
 |true,h,it,l,k=>h.IsTupleIter it l k
 |false,h,it,l,k=>h.IsListIter it l k
def SeqAt:Bool->Heap->Addr->Array Av->Prop
 |true,h,l,xs=>h.IsTuple l xs
 |false,h,l,xs=>h.IsList l xs
def ZS.mv{b:Bool}{h':Heap}{it l:Aw}{k:Nat}(x:ZS b h it l k)(f:∀o,h.get? it=some o->h'.get? it=some o):ZS b h' it l k:=by
 cases b
 .exact Heap.IsListIter.at x f
 .exact Heap.IsTupleIter.at x f
def SeqAt.mv{b:Bool}{h':Heap}{l:Aw}{xs:Ah}(x:SeqAt b h l xs)(f:∀o,h.get? l=some o->h'.get? l=some o):SeqAt b h' l xs:=by
 cases b
 .obtain⟨o,C,r⟩:=(x);exact(⟨o,f o C,r⟩)
 .obtain⟨o,C,r⟩:=(x);exact(⟨o,f o C,r⟩)
def ZS.ob{b:Bool}{it l:Aw}{k:Nat}(x:ZS b h it l k):∃o,h.get? it=some o/\∀v,o.data≠.cell v:=by
 cases b
 .obtain⟨o,r,C,D⟩:=(x);exact⟨o,r,λv z=>by grind⟩
 .obtain⟨o,r,C,D⟩:=(x);exact⟨o,r,λv z=>by grind⟩
def itO (b:Bool) (l:Aw):Obj:={cls:=.type (if b then "tuple_iterator" else "list_iterator"),data:=.fields #[.ref l,.int 0 0]}
section
variable {prog:Aq}{w:Au}{A:Ar}{E:Ab}{s:As}
def WX{b:Bool}{it l:Aw}{k:Nat}{xs:Ah}{x:Av}(r:ZS b s.heap it l k)(G:SeqAt b s.heap l xs)(D:xs[k]?=some x)
  (C:∀h',ZS b h' it l (k+1)->Heap.SameBut it s.heap h'->Q x {s with heap:=h'}):A9 prog w A (Builtin.SmallTypes.nextOf (.ref it)) Q E s:=by
 cases b
 .exact wpAny_nextOf_list_item r G D C
 .exact EnT.next_of r G D C
def jn{b:Bool}{it l:Aw}{k:Nat}{xs:Ah}(hh:A.handled=none)(r:ZS b s.heap it l k)(D:SeqAt b s.heap l xs)(C:xs[k]?=none)
  (G:∀h' e,Heap.ExtBut it s.heap h'->(∃o,h'.get? e=some o/\o.cls=.type "StopIteration")->E (.ref e) {s with heap:=h'}):A9 prog w A (Builtin.SmallTypes.nextOf (.ref it)) Q E s:=by
 cases b
 .exact wpAny_nextOf_list_end hh r D C G
 .exact EnT.next_no hh r D C G
def XU{b:Bool}{l:Aw}{xs:Ah}(r:SeqAt b s.heap l xs)(h:Q (.ref s.heap.objs.size) {s with heap:=s.heap.push (itO b l)}):A9 prog w A (pyIter (.ref l)) Q E s:=by
 cases b
 .exact Qfq r h
 .exact wpAny_pyIter_tuple r h
def qY{b:Bool}{it l:Aw}(e:h.get? it=some (itO b l)):ZS b h it l 0:=by
 cases b
 .exact(⟨_,e,U,U⟩)
 .exact(⟨_,e,U,U⟩)
end
end ZpT
namespace L2
open ZpT (SeqAt ZS)
def SqB(K:Af):Bool->Hp->Addr->List V->Prop
 |true,H,a,xs=>SqT K H a xs
 |false,H,a,xs=>SqL K H a xs
def SqB.t{xs:A8}(h:H a=some (.tup xs)):SqB K true H a xs:=(SqT.of h)
def SqB.l{xs:A8}(h:H a=some (.lst xs)):SqB K false H a xs:=(SqL.of h)
def Inv.sqB{X:Cx}{σ:L2.St}{xs:A8}{b:Bool}(I:Inv X m σ H s)(h:SqB X.K b H a xs):∃r:Ag,Vals xs r/\SeqAt b s.heap a r.toArray/\xs.length<=sizeLine:=by
 cases b
 .obtain⟨r,C,p,D⟩:=I.list (h);obtain⟨o,n,e,L,_,G⟩:=p;exact⟨r,C,(⟨o,e,L,n,G⟩),D⟩
 .obtain⟨r,C,p,D⟩:=I.tuple (h);exact⟨r,C,(p),D⟩
def Inv.sqB_inj{X:Cx}{σ:L2.St}{xs ys:A8}{b:Bool}(I:Inv X m σ H s)(h:SqB X.K b H a xs)(h':SqB X.K b H a ys):xs=ys:=by
 cases b
 .exact I.list_inj h h'
 .exact I.tuple_inj h h'
end L2
namespace EnT
open AutoSeq1 (wpAny_loadPart')
open ZpT (SeqAt ZS itO XU WX jn qY)
def enO (it:Aw):Obj:={cls:=.type "enumerate",data:=.fields #[.none,.bool false,.ref it,rawInt 0,.none,.none]}
theorem WV(b:Bool)(l:Aw)(items:Ah):
  Meets (Builtin.«enumerate.__new__» ⟨[.type "enumerate",.ref l],[]⟩) (λ_ R s=>SeqAt b s.heap l items /\
   R (.ok (.ret (.ref (s.heap.push (itO b l)).objs.size))) {s with heap:=(s.heap.push (itO b l)).push (enO s.heap.objs.size)}):=
 .of_wp λprog w A R s h=>by
  obtain⟨I,g,d,tk,os⟩:=s;obtain⟨G,h⟩:=h;have D:=sub_enumerate;have r:SeqAt b (Shared.heap ⟨I,g,d,tk,os⟩) l items:=G;obtain⟨o,C,M⟩:∃o,I.get? l=some o/\∀v,o.data≠.cell v:=by cases b<;>(obtain⟨o,e,_,_,L⟩:=G;exact⟨o,e,λv z=>by rw[L]at z;cases z⟩)
  wp_walk using wpAny_loadPart' C
  refine wpAny_stack_any λst=>Qae ?_
  split
  .rename_i c _ _ _ _ _;cases(c == Value.type "enumerate")
   .wp_walk using wpAny_loadPart' C,XU r
    exact⟨_,U,h⟩
   .wp_walk using wpAny_loadPart' C,XU r
    exact⟨_,U,h⟩
  .wp_walk using wpAny_loadPart' C,XU r
   exact⟨_,U,h⟩
section
variable {prog:Aq}{w:Au}{A:Ar}{E:Ab}{s:As}
def Zjr{b:Bool}{e it l:Aw}{items:Ah}{x:Av}
  (he:IsEnum s.heap e it i u) (hit:ZS b s.heap it l i) (hl:SeqAt b s.heap l items) (hx:items[i]?=some x) (Ua:e≠it)
  (hQ:∀h',IsEnumOut h' e it ((i:Int)+1) x s.heap.objs.size->ZS b h' it l (i+1)->
   h'.get? s.heap.objs.size=some {cls:=.type "tuple",data:=.seq #[.int i s.toks,x]}->h'.objs.size=s.heap.objs.size+1->
   (∀b o,b≠e->b≠it->s.heap.get? b=some o->h'.get? b=some o)->Q (.ref s.heap.objs.size) {s with heap:=h',toks:=s.toks+1}):
  A9 prog w A (Builtin.«enumerate.__next__» ⟨[.ref e],[]⟩) (λfin s'=>∃v,fin=.done (.ret v)/\Q v s') E s:=by
 obtain⟨hp,g,d,tk,os⟩:=s;show wpAny _ _ (field (.ref e) 2 >>= _) _ _ _;refine Qaa (Qbz he U (x:=.ref it) U ?_);refine Qaa (WX hit hl hx λh₁ hit₁ L=>?_);have N:IsEnum h₁ e it i u:=(L.2 e Ua).trans he;refine Qaa (Qbz N U (x:=rawInt i) U ?_);refine Qaa (Qbz N U (x:=.none) U ?_);refine Qaa (Qgf ?_);refine Qaa (Qb3 N (by simp) λh₂ he₂ M=>?_);refine Qaa (Qb3 he₂ (by simp) λY he₃ O=>?_);refine Qaa (Qgu ?_);have G:IsEnum (Y.push {cls:=.type "tuple",data:=.seq #[.int i tk,x]}) e it ((i:Int)+1) u:=Qad _ he₃;generalize hh₄:Y.push {cls:=.type "tuple",data:=.seq #[.int i tk,x]}=I at G;have hsz:Y.objs.size=hp.objs.size:=by rw[O.1,M.1,L.1]
 have hel:e<hp.objs.size:=Qav he;have ht₄:I.get? hp.objs.size=some {cls:=.type "tuple",data:=.seq #[.int i tk,x]}:=by rw[<-hh₄,<-hsz];exact Qam _ U
 have hz₄:I.objs.size=hp.objs.size+1:=by rw[<-hh₄,Qb8,hsz]
 have hk₄:∀b o,b≠e->b≠it->hp.get? b=some o->I.get? b=some o:=λb o S hbi hb=>by
  rw[<-hh₄];exact Qad _ (O.extBut b o S (M.extBut b o S (L.extBut b o hbi hb)))
 have Z:ZS b I it l (i+1):=by
  rw[<-hh₄];exact hit₁.mv λo z=>Qad _ (O.extBut _ _ (Qdx Ua) (M.extBut _ _ (Qdx Ua) z))
 show wpAny _ _ (Builtin.SmallTypes.ownedTupleIsFree (.ref e) >>= _) _ _ ⟨I,g,d,tk+1,os⟩;rw[hsz];refine Qaa ?_
 .refine Qaa (Qbz G U (x:=.none) U (Qae ?_));refine Qaa (Qdl ?_);refine Qaa (Qbz G U (x:=u) U ?_);refine Qaa (Qb3 G (by simp) λh₅ he₅ r=>?_);refine Qaa ?_
  .refine Qaa (Qb3 he₅ (by simp) λh₆ he₆ C=>?_);refine Qb3 he₆ (by simp) λh₇ he₇ D=>?_;refine Qaa (Qe2 (Qae ⟨_,U,hQ h₇ he₇ ?_ ?_ ?_ ?_⟩))
   .exact Z.mv λo z=>D.extBut _ _ (Qdx Ua) (C.extBut _ _ (Qdx Ua) (r.extBut _ _ (Qdx Ua) z))
   .exact D.extBut _ _ (Qd7 hel) (C.extBut _ _ (Qd7 hel) (r.extBut _ _ (Qd7 hel) ht₄))
   .rw[D.1,C.1,r.1,hz₄]
   .exact λb o S hbi hb=>D.extBut b o S (C.extBut b o S (r.extBut b o S (hk₄ b o S hbi hb)))
def next_item{b:Bool}{e it l:Aw}{items:Ah}{x:Av}{Q:Aa}
  (G:IsEnum s.heap e it i u) (C:ZS b s.heap it l i) (M:SeqAt b s.heap l items) (I:items[i]?=some x) (r:e≠it)
  (L:∀h',IsEnumOut h' e it ((i:Int)+1) x s.heap.objs.size->ZS b h' it l (i+1)->
   h'.get? s.heap.objs.size=some {cls:=.type "tuple",data:=.seq #[.int i s.toks,x]}->h'.objs.size=s.heap.objs.size+1->
   (∀b o,b≠e->b≠it->s.heap.get? b=some o->h'.get? b=some o)->Q (some (.ref s.heap.objs.size)) {s with heap:=h',toks:=s.toks+1}):
  A9 prog w A (pyNext (.ref e)) Q E s:=by
 have D:s.TypeIs (.ref e) _:=⟨_,G,U⟩;exact Qaa (Qc0 (wpAny_callSpecial?_slot D Qen (Qbd Qen D F.entry_enumerate_next
   (Zjr G C M I r λh' a b c d k=>Qae (L h' a b c d k)) (F.args_enumerate_next_1 _))))
def next_end{b:Bool}{e it l:Aw}{items:Ah}{Q:Aa}(hh:A.handled=none)
  (I:IsEnum s.heap e it i u) (C:ZS b s.heap it l i) (S:SeqAt b s.heap l items) (L:items[i]?=none)
  (M:∀h',Heap.ExtBut it s.heap h'->Q none {s with heap:=h'}):A9 prog w A (pyNext (.ref e)) Q E s:=by
 have G:s.TypeIs (.ref e) _:=⟨_,I,U⟩;refine Qaa (Qc0 (wpAny_callSpecial?_slot G Qen (Qbd Qen G F.entry_enumerate_next ?_ (F.args_enumerate_next_1 _))));show wpAny _ _ (field _ 2 >>= _) _ _ _;refine Qaa (Qbz I U U (Qaa (jn hh C S L λh' x D r=>?_)));obtain⟨o,N,O⟩:=r;refine Qaa (Qcz ⟨o,N,O⟩ Qez (Qae (M _ D)))
def call_new{b:Bool}{l:Aw}{items:Ah}(G:SeqAt b s.heap l items)
  (h:∀h',IsEnum h' (s.heap.objs.size+1) s.heap.objs.size 0 .none->ZS b h' s.heap.objs.size l 0->h'.objs.size=s.heap.objs.size+2->
   (∀b o,s.heap.get? b=some o->h'.get? b=some o)->Q (.ref (s.heap.objs.size+1)) {s with heap:=h'}):A9 prog w A (call (.type "enumerate") [.ref l]) Q E s:=by
 refine callType_new F.called_enumerate (by decide) (F.typeCall_enumerate_1 _) (F.newCall_enumerate_1 _) (λr=>F.args_object_init_2 r _) F.entry_enumerate_new (WV b l items) ⟨G,?_⟩;have C:(s.heap.push (itO b l)).objs.size=s.heap.objs.size+1:=Qb8 ..;rw[C];have D:=by
  have:=Qam (s.heap.push (itO b l)) (o:=enO s.heap.objs.size) rfl;rw[C]at this;exact this
 refine⟨⟨_,D,U⟩,h _ D (qY (Qad _ (Qam _ U))) (by simp) λb o x=>Qad _ (Qad _ x)⟩
end
end EnT
namespace L2
open ZpT (SeqAt ZS)
def Jx{X:Cx}{pins:Ac}{σ:St}{t':Nat}(I:Inv X pins σ H s)(G:∀b∈D,yJ X pins H b)(k:∀b o,b∉D->s.heap.get? b=some o->h.get? b=some o):Inv X pins σ H {s with heap:=h,toks:=t'}:=by
 have L:∀b u,H b=some u->b∉D:=λb u e z=>by rw[(G b z).1]at e;cases e
 refine I.step (λb M=>⟨(G b M).2.2.2.1,(G b M).2.1,(G b M).2.2.2.2.1,(G b M).2.2.2.2.2⟩) (λb o _ _ C e _=>k b o C e) (λb o _ _ C e _=>⟨o.slots,k b o C e⟩) (λ_ _ _ _ n=>n)
  (λb o C e=>⟨o,k b o C e⟩) (λ_ _ e=>e) (λ_ _ _ e=>e) (λb ps e=>⟨#[],by grind⟩) (λm O=>?_) (λb u e=>?_) I.bare
 .obtain⟨o,es,ep,N,r⟩:=O;exact⟨o,es,ep,k _ o (λz=>(G _ z).2.1 rfl) N,r⟩
 .refine(I.hok b u e).stay (λc v C q=>k c v ?_ q) (λ_ q=>q) λ_ _ q=>q
  rcases C with z|z
  .rw[z];exact L b u e
  .exact L c _ z
def Ite(K:Af)(b:Bool)(a:Aw)(n:Nat):It:=
 ⟨λi H=>∃xs x,SqB K b H a xs/\xs.length=n/\xs[i]?=some x,λi H v H'=>∃p,H p=none/\v=.ref p/\∀xs x,SqB K b H a xs->xs[i]?=some x->H'=upd H p (.tup [.int i,x]),λi H=>∃xs,SqB K b H a xs/\xs.length=n/\n<=i⟩
def Zcn{q:Nat}{ps:Pos}(b:Bool)(a e it:Aw)(n:Nat)(O:e≠it):Turn P w K (.Tuple A q ps) (Ite K b a n) [e,it] e (λi h=>(∃C,IsEnum h e it i C)/\ZS b h it a i)where
 mem:=by simp
 obj:=λi h st b D=>by
  obtain⟨⟨C,L⟩,r⟩:=st;rcases Qas.mp D with rfl|D
  .grind
  .have:b=it:=by simpa using D
   subst this;exact r.ob
 keep:=λi h h' st k=>by
  obtain⟨⟨C,L⟩,r⟩:=st;exact⟨⟨C,k e (by simp) _ L⟩,r.mv λo x=>k it (by simp) o x⟩
 item:=by
  intro X hP hw hK hc i pins s σ H E I S st hg;subst hP hw hK;obtain⟨xs,x,Y,hn,hx⟩:=hg;obtain⟨its,Z,p,hz⟩:=I.sqB Y;obtain⟨u,hu,ru⟩:=Z.get hx;obtain⟨⟨C,L⟩,r⟩:=st;obtain⟨f0,f1,f2,f3,f4,f5⟩:=S e (by simp);obtain⟨g0,g1,g2,g3,g4,g5⟩:=S it (by simp);have hilt:it<s.heap.objs.size:=by obtain⟨_,z,_⟩:=r.ob;exact Qav z
  refine EnT.next_item L r p (x:=u) (by simpa using hu) O λh' ho Q hT hsz hk=>?_;refine⟨_,U,wpAny_letOwnedTupleGo_enum ho λh2 he2 hs2=>?_⟩;have G:Heap.SameBut e h' h2:=hs2;have I1:Inv X pins σ (upd H s.heap.objs.size (.tup [.int i,x])) {s with heap:=s.heap.push _,toks:=s.toks+1}:=
   I.laid (λb o y=>Qad _ y) (Qah _) ⟨xj,[.int i s.toks,u],.cons ⟨_,U⟩ (.cons ru .nil),gj.new _ _⟩
  have Ua:∀b∈[e,it],yJ X pins (upd H s.heap.objs.size (.tup [.int i,x])) b:=λb D=>by
   have hlb:b≠s.heap.objs.size:=by
    grind
   obtain⟨a0,ar⟩:=S b D;exact⟨by rw[Zj hlb];exact a0,ar⟩
  have I2:Inv X pins σ (upd H s.heap.objs.size (.tup [.int i,x])) {s with heap:=h2,toks:=s.toks+1}:=by
   refine Jx (s:={s with heap:=s.heap.push _,toks:=s.toks+1}) I1 Ua λb o D y=>?_;have M:b≠e:=λz=>D (by simp[z]);have hbi:b≠it:=λz=>D (by simp[z]);rcases Qf2 y with⟨rfl,rfl⟩|y
   .exact(G.2 _ M).trans hT
   .exact(G.2 b M).trans (hk b o M hbi y)
  refine⟨.ref s.heap.objs.size,_,I2,U,⟨_,I.hok.fresh (Qah _),U,λys y hy N=>?_⟩,⟨⟨u,?_⟩,Q.mv λo y=>(G.2 it O.symm).trans y⟩,λb D=>(Ua b D).1⟩
  .rw[I.sqB_inj hy Y,hx]at N;cases N;rfl
  .grind
 done:=by
  intro X hP hw hK hc i pins s σ H E I S st hg;subst hP hw hK;obtain⟨xs,Y,hn,hx⟩:=hg;obtain⟨its,Z,p,hz⟩:=I.sqB Y;obtain⟨⟨C,L⟩,r⟩:=st;obtain⟨g0,g1,g2,g3,g4,g5⟩:=S it (by simp);have hl:=Z.length;exact EnT.next_end (I.ok.hd hc) L r p (by simp;lia) λh' eb=>⟨U,I.turned (t':=s.toks) (λb o D e=>eb b o D e) g0 g1 g3 g4 g5⟩
 self:=λ_ _ _ _ _ st h=>let⟨⟨_,L⟩,_⟩:=st;wpAny_pyIter_enum L h
def Zjs(K:Af)(b:Bool)(te:TE):TI:=λσ H R=>te σ H λx H1=>∃a xs,x=.ref a/\SqB K b H1 a xs/\R (Ite K b a xs.length) H1
def ve:bootBuiltins "enumerate" = some (.type "enumerate"):=by decide +kernel
def Zco {b:Bool} {X:Cx}   {q:Nat} {ps:Pos}   (Q:Gl X "enumerate") (hm:X.mg "enumerate" = none) (he:QE X e d) (Y:Yk e=true:=by rfl):QI X (.Tuple A q ps) (.Call (.Name "enumerate" p) [e] [] E) (Zjs X.K b d):=by
 refine⟨λpins s σ H R I h=>?_⟩;have M:starEach [e] X.env=[(false,eval e X.env)]:=by rw[Zy Y];rfl
 refine Call_ (qj I Q hm ve (Qc6 ?_ M U));rw[M];refine Qcx (thn (he.out pins s σ H _ I h) λu s1 ⟨x,H1,C,S,O⟩=>(Qd0 ?_));obtain⟨a,xs,rfl,N,r⟩:=O;cases S;obtain⟨Ua,rv,pt,hz⟩:=C.sqB N;refine EnT.call_new pt λh' G D hsz Z=>?_;refine wpAny_pyIter_enum G ⟨_,_,_,_,H1,U,C.kept Z,Zcn b a _ _ _ (Nat.succ_ne_self _),⟨⟨_,G⟩,D⟩,λb L=>?_,r⟩;rcases Qas.mp L with rfl|L
 .exact C.fpOk (Qem _) (C.hok.fresh (Qem _))
 .have:=by simpa using L
  subst this;exact C.fpOk (Qah _) (C.hok.fresh (Qah _))
def Zfu {X:Cx}   {q:Nat} {ps:Pos}   (C:Gl X "enumerate") (D:X.mg "enumerate" = none) (G:QE X e d) (r:Yk e=true:=by rfl):QI X (.Tuple A q ps) (.Call (.Name "enumerate" p) [e] [] E) (Zjs X.K true d):=Zco C D G r
def Zfv {X:Cx}   {q:Nat} {ps:Pos}   (C:Gl X "enumerate") (D:X.mg "enumerate" = none) (G:QE X e d) (r:Yk e=true:=by rfl):QI X (.Tuple A q ps) (.Call (.Name "enumerate" p) [e] [] E) (Zjs X.K false d):=Zco C D G r
theorem x6{X:Cx}{y:Str}{pos:Pos}{k:Nat}{r t2:TG}(C:X.calm=true)(h1:QG X (.Name x p) r)(h2:QG X (.Name y E) t2):QG X (.Tuple [.Name x p,.Name y E] k pos) (Zlu X.K 2 (xm r (xm t2 Zlt))):=
 ⟨Zhm C (qS h1.out (qS h2.out Zbe))⟩
theorem gz{b:Bool}{xs:A8}{j k:Nat}(r:Nat->St->Hp->Prop)(L:r 0 c H)(C:∀i c H,i<=xs.length->r i c H->SqB K b H a xs)
  (G:∀i x c H p,xs[i]?=some x->H p=none->r i c H->q {S with nx:=r (i+1),ct:=r (i+1),bk:=S.nx} ((c.set j (some (.int i))).set k (some x)) (upd H p (.tup [.int i,x]))) (I:∀c H,r xs.length c H->S.nx c H):
  Zfi (Ite K b a xs.length) (Zlu K 2 (xm (Wg j) (xm (Wg k) Zlt))) q S c H:=
 qk _ r L (λi c H hi p=>⟨⟨xs,xs[i],C i c H (Qa0 hi) p,U,Qac hi⟩,λv H' y=>by
  obtain⟨t,D,rfl,y⟩:=y;have e:=y xs _ (C i c H (Qa0 hi) p) (Qac hi);subst e;exact⟨t,_,U,SqT.of Za,U,_,_,U,_,_,U,U,G i _ c H t (Qac hi) D p⟩⟩) λc H p=>⟨⟨xs,C _ c H (Qah _) p,U,Qah _⟩,I c H p⟩
end L2
namespace L2
def JN{i:Ax}(C:X.A.units+1<cLine)(r:QE X o d)(hi:QE X i M)(D:Zm8 i):QE X (.Subscript o i p) (Zmc d M):=⟨Zjq C r.out hi.out D⟩
theorem x8:QE X (.Dict [] [] p) tDNewK:=⟨λpins s σ H Q I h=>
 wpAny_Dict_empty ⟨.ref _,_,I.laid (λ_ _ q=>Qad _ q) (Qah _) (jS s.heap I.big),U,h _ (I.hok.fresh (Qah _))⟩⟩
theorem JO{i:Ax}{tv:TE}(hu:X.A.units+1<cLine)(ho:QE X o d)(hi:QE X i M)(hv:QE X e tv)(hs:swapsWith e (some (.Subscript o i E)) p.line X.env=pure false):
  QS X (.Assign [.Subscript o i E] e p) (sDPut d M tv):=⟨by
 intro pins s σ H D I h;refine wpAny_Assign_Subscript (thn (hv.out pins s σ H _ I h) λr Ua ⟨v,H1,I1,O,Q⟩=>thn (ho.out pins Ua σ H1 _ I1 Q) λu S ⟨x,H2,G,rx,Y⟩=>thn (hi.out pins S σ H2 _ G Y) λiv s3 ⟨y,H3,I3,C,a,N,ex,g,L⟩=>?_) hs;subst ex;obtain rfl:u=Value.ref a:=rx;exact Zci hu I3 g C O λs4 Z=>⟨σ,N,Z,L⟩⟩
inductive Zic(neg:Bool)(y:V)(x:V)(H:Hp)(Q:VK):Prop
 |mk (a o:_):(x=.ref a)->(Zib H a y o)->(Q (.bl (if neg then !o.isSome else o.isSome)) H)->Zic neg y x H Q
def rDIn(neg:Bool):R2:=λy x H Q=>Zic neg y x H Q
def jo(r:X.A.units+1<cLine):OpR X (compareOp .In) (rDIn false):=by
 intro pins s σ H x y v u Q I D C h;obtain⟨a,o,rfl,g,q⟩:=h;cases C;exact d_in r I g D λs' G=>⟨.bl _,H,G,U,q⟩
def Gd(r:X.A.units+1<cLine):OpR X (compareOp .NotIn) (rDIn true):=by
 intro pins s σ H x y v u Q I D C h;obtain⟨a,o,rfl,g,q⟩:=h;cases C;exact Zjp r I g D λs' G=>⟨.bl _,H,G,U,q⟩
def uV:Xf X (.type "dict") (λxs H Q=>∃a kvs,xs=[V.ref a]/\Rd H a (.dK kvs)/\∀p,H p=none->Q (.ref p) (upd H p (.dK kvs))):=by
 intro pins s σ H xs L Q I r h;obtain⟨a,kvs,rfl,e,q⟩:=h;obtain⟨u,rfl,C⟩:=vals1 r;cases C;exact Zft I e λp s' D G=>⟨.ref p,_,G,U,q p D⟩
theorem jT{κ:Type}[DecidableEq κ]:∀{kvs:List (κ×V)},(kvs.map (·.1)).Nodup->∀p∈kvs,Yc kvs p.1=some p.2
 |[],_,_,h=>nomatch h
 |q::r,C,p,h=>by
  rw[Qbw,Qa9]at C;rcases Qas.mp h with rfl|h
  .exact ZU U
  .rw[ZP λz=>C.1 (by grind)];exact jT C.2 p h
def g7{x:V}(h:YZ x=true):eqV x x=true:=by
 cases x<;>first
  |exact Qct _
  |rfl
  |cases h
theorem Inv.freeze{pins:Ac}{σ:St}{kvs:A0}{o:Obj}(I:Inv X pins σ H s)(e:Rd H a (.dK kvs))(C:s.heap.get? a=some o):Inv X pins σ (upd H a (.frz o (.dK kvs))) s:=by
 rcases e with e|⟨o',e⟩
 .have ne:∀b u,H b=some u->u≠.dK kvs->b≠a:=λb u r M z=>by
   grind
  refine I.step (ch:=[]) (λ_ z=>nomatch z) (λb o _ _ _ q _=>q) (λb o _ _ _ q _=>⟨o.slots,q⟩) (λb o _ _ n=>?_) (λb o _ q=>⟨o,q⟩)
   (λb xs q=>by rw[Zj (ne b _ q (λz=>nomatch z))];exact q) (λb o u q=>by rw[Zj (ne b _ q (λz=>nomatch z))];exact q) (λb ps q=>⟨#[],by rw[Zj (ne b _ q (λz=>nomatch z)),q];simp⟩) (λm D=>D) (λb u q=>?_) I.bare
  .rw[Zj (λz=>by grind)];exact n
  .have st:∀u,YY X.prog X.w H s.heap b u->YY X.prog X.w (upd H a (.frz o (.dK kvs))) s.heap b u:=λu x=>
    x.stay (λ_ _ _ q=>q) (λc q=>by rw[Zj (ne c _ q (λz=>nomatch z))];exact q) λc xs q=>by rw[Zj (ne c _ q (λz=>nomatch z))];exact q
   by_cases r:b=a
   .subst r;rw[Za]at q;cases q;exact⟨C,st _ (I.hok b _ e)⟩
   .rw[Zj r]at q;exact st u (I.hok b u q)
 .have z:=I.hok a _ e;obtain⟨L,_⟩:=z;have:=Option.some.inj (C.symm.trans L);subst this;have G:upd H a (.frz o (.dK kvs))=H:=by
   funext b;unfold upd;split
   .rename_i r;rw[r,e]
   .rfl
  rw[G];exact I
def g8{k:Key}{v:Av}(h:(ZQ P w).is k v=true):RelV (kV k) v:=by
 rw[uH]at h;cases k with
 |inl i=>
  cases v<;>first
   |(have e:=h;unfold xk Value.isInt at e;simp at e;exact⟨_,by rw[e]⟩)
   |(unfold xk Value.isInt at h;simp at h)
 |inr x=>
  cases v<;>first
   |(have e:=h;unfold xk Value.isStrOf at e;simp at e;exact⟨_,by rw[e]⟩)
   |(unfold xk Value.isStrOf at h;simp at h)
inductive KTab(P:Params):List DictEntry->List (Str×Int)->Prop
 |nil:KTab P [] []
 |cons {k:Str} {v:Int} {t u:Tok} {es:List DictEntry} {l:List (Str×Int)}:KTab P es l->KTab P ({hash:=PyData.keyHash P k,key:=.str k t,val:=.int v u}::es) ((k,v)::l)
structure KD(K:Af)(w:Au)(a:Aw)(l:List (Str×Int)):Prop where
 ex:∃es ep,K.lookup a=some {cls:=.type "dict",dict:=none,data:=.dict es ep,slots:=#[]}/\KTab w.params es.toList l
 nd:(l.map (·.1)).Nodup
 ns:(a == sysModules)=false
def kvsOf(l:List (Str×Int)):A0:=l.map λp=>((Sum.inr p.1:Key),V.int p.2)
theorem KTab.pairs{es:List DictEntry}{l:List (Str×Int)}(h:KTab w.params es l):(∃vs,KV (kvsOf l) vs/\Pairs (ZQ P w) es vs)/\∀e∈es,∃k,(ZQ P w).is k e.key=true/\e.hash=(ZQ P w).hash k:=by
 induction h with
 |nil=>exact⟨⟨[],.nil,.nil⟩,λ_ h=>nomatch h⟩
 | @cons k v t u es l _ D=>
  obtain⟨⟨vs,r,p⟩,q⟩:=D;refine⟨⟨(.inr k,.int v u)::vs,.cons ⟨U,⟨u,U⟩⟩ r,.cons (JM P w k t) U p⟩,λe C=>?_⟩;rcases Qas.mp C with rfl|C
  .exact⟨.inr k,JM P w k t,U⟩
  .exact q e C
section
variable {X:Cx}{pins:Ac}{σ:St}{H:Hp}{s:As}{a:Aw}{l:List (Str×Int)}{k:Key}{u:Av}{A:Ar}{E:Ab}
def KD.of(I:Inv X pins σ H s)(d:KD X.K X.w a l):∃vs,KV (kvsOf l) vs/\s.heap.DictOf (ZQ X.prog X.w) a vs:=by
 obtain⟨es,ep,C,t⟩:=d.ex;obtain⟨⟨vs,r,p⟩,q⟩:=t.pairs;refine⟨vs,r,_,es,ep,I.kIn a _ C,⟨U,U,U⟩,U,λe D=>q e (by grind),p,?_⟩;rw[<-r.keys];unfold kvsOf;rw[Qa7];have:=d.nd;rw[List.nodup_iff_pairwise_ne]at *;rw[List.pairwise_map]at *;exact this.imp λh z=>h (Sum.inr.inj z)
def kd_in(I:Inv X pins σ H s)(d:KD X.K X.w a l)(C:RelV (kV k) u)(h:∀s',Inv X pins σ H s'->Q (.bool (Yc (kvsOf l) k).isSome) s'):A9 X.prog X.w A (compareOp .In u (.ref a)) Q E s:=by
 obtain⟨vs,r,dd⟩:=d.of I;refine wpAny_in_of (jQ C) d.ns dd.mapOf ?_;rw[<-(r.val k).isSome_eq];exact h _ (I.tok _)
def Zjt{z:V}{r:Av}(I:Inv X pins σ H s)(d:KD X.K X.w a l)(G:RelV (kV k) u)(L:RelV z r)(h:∀D s',Inv X pins σ H s'->RelV ((Yc (kvsOf l) k).getD z) D->Q D s'):
  A9 X.prog X.w A (call (.builtin "dict.get") [.ref a,u,r]) Q E s:=by
 obtain⟨vs,C,dd⟩:=d.of I;exact Qgn Qeo dd.typeIs PySem.F.entry_dict_get (PySem.F.args_dict_get_3 _ _ _) (meets_dict_get_default _ a (jQ G) d.ns r) ⟨_,dd.mapOf,h _ _ (I.tok _) ((C.val k).getD L)⟩
end
def rKIn(K:Af)(w:Au):R2:=λy x H Q=>∃a l k,x=.ref a/\KD K w a l/\y=kV k/\Q (.bl (Yc (kvsOf l) k).isSome) H
def kP:OpR X (compareOp .In) (rKIn X.K X.w):=by
 intro pins s σ H x y v u Q I C r h;obtain⟨a,l,k,rfl,d,rfl,q⟩:=h;cases r;exact kd_in I d C λs' D=>⟨.bl _,H,D,U,q⟩
def tKGet(K:Af)(w:Au)(td ty tx:TE):TE:=λσ H Q=>td σ H λx H1=>∃a l,x=.ref a/\KD K w a l/\ty σ H1 λy H2=>tx σ H2 λz r=>∃k,y=kV k/\Q ((Yc (kvsOf l) k).getD z) r
def m2_of{f:Ax}{m:Str}(D:Yk e=true)(C:Yk f=true)(G:attributeBase o m X.env (eval o X.env)=eval o X.env)(r:(p.endLine == E.line)=true):M2 X o m p e f E where
 base:=G
 few:=by
  rw[all_plain (by grind)];rfl
 line:=r
 trees:=by
  rw[Zy D,Zy C];rfl
def kQ {f:Ax}  {ty tx:TE} (ho:QE X o M) (he:QE X e ty) (hf:QE X f tx) (h1:Yk e=true:=by rfl) (h2:Yk f=true:=by rfl) (hb:attributeBase o "get" X.env (eval o X.env)=eval o X.env:=by rfl) (hl:(p.endLine == E.line)=true:=by rfl):
  QE X (.Call (.Attribute o "get" p) [e,f] [] E) (tKGet X.K X.w M ty tx):=by
 have m:=m2_of h1 h2 hb hl;refine⟨λpins s σ H Q I h=>(wpAny_Call_method m.base m.few m.line Qff Qeo Qfu (thn (ho.out pins s σ H _ I h) λu Z ⟨x,H1,C,rx,a,l,ex,d,Ua⟩=>?_))⟩;subst ex;obtain rfl:u=Value.ref a:=rx;obtain⟨vs,D,dd⟩:=d.of C;refine⟨dd.typeIs,λb q=>?_,?_⟩
 .cases q;obtain⟨ob,_,_,g1,g2,_⟩:=dd;exact⟨ob,g1,g2.2.1⟩
 rw[m.trees];refine Qda U (Qew (Qcx (thn (he.out pins Z σ H1 _ C Ua) λiv Y ⟨y,H2,L,G,q2⟩=>Qcx (thn (hf.out pins Y σ H2 _ L q2) λfv s3 ⟨z,H3,I3,N,k,S,O⟩=>Qd0 ?_))));subst S;exact Zjt I3 d G N λw' s4 I4 r=>⟨_,H3,I4,r,O⟩
def Zfw{is:Aj}{σ:St}(f:Nat->V)(O:x.cps.size<=sizeLine)
  (M:∀c∈x.cps.toList,∀R:VK,R (f c) H->d (zF is σ (some (.str ⟨#[c]⟩))) H R)
  (L:∀l,H l=none->I (.ref l) (upd H l (.lst (x.cps.toList.map f)))):GN is Zh6 d σ I (Its x) H:=by
 refine⟨λi m zs H'=>m=x.cps.size-i/\i<=x.cps.size/\zs=(x.cps.toList.take i).map f/\H'=H,⟨x.cps.size,by simp,Qbe _,U,U⟩,?_⟩;rintro i m zs H' ⟨rfl,hi,rfl,rfl⟩;have G:((x.cps.toList.take i).map f).length<=sizeLine:=by
  grind
 by_cases C:i<x.cps.size
 .refine .inr ⟨C,G,λv H2 y=>?_⟩;obtain⟨e,c,N,rfl⟩:=y;subst e;have r:x.cps.toList[i]?=some c:=by grind
  refine M c (Qat r) _ ⟨_,by lia,U,C,?_,U⟩;rw[take_snoc r,Qau];rfl
 .have e:i=x.cps.size:=by lia
  refine .inl ⟨e,G,λl D=>?_⟩;rw[Qcq (by grind)];exact L l D
def Zfx:A8->List V->Bool
 |[],[]=>true
 |x::xs,y::ys=>eqV x y&&Zfx xs ys
 |_,_=>false
def eqJ(xs ys:A8)(j:Nat):Bool:=match xs[j]?,ys[j]? with
 |some a,some b=>eqV a b
 |_,_=>true
theorem jq:∀xs ys:A8,((List.range (min xs.length ys.length)).all (eqJ xs ys)&&xs.length == ys.length)=Zfx xs ys
 |[],[]=>rfl
 |[],y::ys=>by simp[Zfx]
 |x::xs,[]=>by simp[Zfx]
 |x::xs,y::ys=>by
  have e1:min (x::xs).length (y::ys).length=min xs.length ys.length+1:=by simp
  have e2:((x::xs).length == (y::ys).length)=(xs.length == ys.length):=by simp
  rw[e1,e2,List.range_succ_eq_map,Qcu,List.all_map,Bool.and_assoc];show(eqV x y&&((List.range _).all (eqJ xs ys)&&xs.length == ys.length))=(eqV x y&&Zfx xs ys);rw[jq xs ys]
def Zcp{A:Ar}{xs ys:A8}{C:Ag}(r:Vals xs Ua)(M:Vals ys C)(f:xs.all YZ=true)(S:ys.all YZ=true):∀j (h1:j<Ua.toArray.size) (h2:j<C.toArray.size),SeqAt.EqAt A s Ua.toArray[j] C.toArray[j] (eqJ xs ys j):=by
 intro j h1 h2;have Z:=r.length;have Y:=M.length;have L:j<xs.length:=by grind
 have D:j<ys.length:=by grind
 obtain⟨u,e1,O⟩:=r.get (Qac L);obtain⟨N,e2,Q⟩:=M.get (Qac D);have G:Ua.toArray[j]=u:=by
  grind
 have I:C.toArray[j]=N:=by
  grind
 have e3:eqJ xs ys j=eqV xs[j] ys[j]:=by
  unfold eqJ;rw[Qac L,Qac D]
 rw[G,I,e3];exact gp O Q (Qb2.mp f _ (Qbi L)) (Qb2.mp S _ (Qbi D))
inductive Zid(K:Af)(neg:Bool)(x:V)(y:V)(H:Hp)(Q:VK):Prop
 |mk (a c xs ys:_):(x=.ref a)->(y=.ref c)->(SqL K H a xs)->(SqL K H c ys)->(xs.all YZ=true)->(ys.all YZ=true)->(Q (.bl (if neg then !Zfx xs ys else Zfx xs ys)) H)->Zid K neg x y H Q
def rEqL(K:Af)(neg:Bool):R2:=λx y H Q=>Zid K neg x y H Q
def kR(N:X.A.units<cLine):OpR X (compareOp .NotEq) (rEqL X.K true):=by
 intro pins s σ H x y v u Q I Y O h;obtain⟨a,c,xs,ys,rfl,rfl,Z,Ua,f,S,q⟩:=h;cases Y;cases O;obtain⟨D,r,p,_⟩:=I.list Z;obtain⟨C,M,p2,_⟩:=I.list Ua;have e:=jq xs ys
 by_cases G:xs.length=ys.length
 .have L:D.toArray.size=C.toArray.size:=by rw[Qbn,Qbn,<-r.length,<-M.length];exact G
  refine SeqAt.RcNeAt.lists p.isList p2.isList L N (Zcp r M f S) X.prog X.w _ _ (ZR I q ?_);show(!Zfx xs ys)=_;rw[G,Qfv,Qct,Bool.and_true]at e;rw[Qbn,<-r.length,G,e]
 .have L:(D.toArray.size != C.toArray.size)=true:=by
   rw[Qbn,Qbn,<-r.length,<-M.length];simpa using G
  refine SeqAt.RcNeAt.lists_lengths p.isList p2.isList L N X.prog X.w _ _ (ZR I q ?_);rw[<-e,Qea.mpr G,Qfs];rfl
def Wl(t:SetTable)(n:Nat):(t.standIn n).led=t.led/\(t.plain=false->(t.standIn n).plain=false):=⟨U,λ_=>U⟩
def jU(t:SetTable)(n:Nat):(t.orStandIn n).led=t.led/\(t.plain=false->(t.orStandIn n).plain=false):=by
 unfold SetTable.orStandIn;split
 .exact⟨U,id⟩
 .exact Wl _ _
def uW(t:SetTable)(es:Array (Int×Av))(h:Int)(x:Av):(layNew t es h x).2.1.led=t.led/\(t.plain=false->(layNew t es h x).2.1.plain=false):=by
 unfold layNew;split
 .exact jU _ _
 .exact Wl _ _
theorem vf(t:SetTable)(es:Array (Int×Av))(n:Nat):(relayAll t es n).2.1.led=t.led/\(t.plain=false->(relayAll t es n).2.1.plain=false):=by
 unfold relayAll;split
 .rename_i t' D r;have C:t'.led=t.led/\(t.plain=false->t'.plain=false):=by
   unfold SetTable.relaid SetTable.laid at r;cases hc:SetTable.layClean _ _ with
   |none=>rw[hc]at r;exact nomatch r
   |some G=>
    rw[hc]at r;obtain⟨rfl,_⟩:=r;exact⟨U,id⟩
  dsimp only;split
  .exact C
  .exact Wl _ _
 .exact Wl _ _
def tx:Av->Str
 |.str x _=>x
 |_=>⟨#[]⟩
def x9(prog:Aq)(w:Au)(h:Heap)(a:Aw)(led:Bool)(S:Ai):Prop:=
 ∃o es ep t,h.get? a=some o/\o.ExactSet/\o.data=.set es ep t/\ElemsOf (strKind prog w) es.toList/\(es.toList.map λe=>tx e.2).Perm S/\t.fits es.size=true/\t.led=led/\(es.size=0\/t.plain=false)
section
variable {prog:Aq}{w:Au}{A:Ar}{E:Ab}{s:As}
def Zmd{e:Av}{k:Str}(h:(strKind prog w).is k e=true):tx e=k:=by
 obtain⟨t,rfl⟩:=Qgd h;rfl
def g9{l:List (Int×Av)}(h:ElemsOf (strKind prog w) l){e:Int×Av}(C:e∈l):(strKind prog w).is (tx e.2) e.2=true/\∃t,e.2=.str (tx e.2) t:=by
 obtain⟨⟨k,r,_⟩,_⟩:=h e C;rw[Zmd r];exact⟨r,Qgd r⟩
def ins(S:Ai)(x:Str):Ai:=if x∈S then S else S++[x]
def Zju{l:List (Int×Av)}(h:ElemsOf (strKind prog w) l):
  (l.findIdx? (λe=>(strKind prog w).is x e.2)).isSome=true↔x∈l.map (λe=>tx e.2):=by
 rw[List.findIdx?_isSome,Qdr,Qap];constructor
 .rintro⟨e,r,C⟩;exact⟨e,r,Zmd C⟩
 .rintro⟨e,r,C⟩;exact⟨e,r,C ▸ (g9 h r).1⟩
def xA{o:Obj}{es:Array (Int×Av)}{ep:Nat}{t:SetTable}(O:h.get? a=some o)(G:o.ExactSet)(L:o.data=.set es ep t)
  {r:Array (Int×Av)} {t':SetTable}  {led:Bool} (D:ElemsOf (strKind prog w) r.toList) (M:(r.toList.map λe=>tx e.2).Perm N) (S:t'.fits r.size=true) (Q:t'.led=led) (C:r.size=0\/t'.plain=false):
  (h.update a (Obj.putSet r t')).get? a=some {o with data:=.set r (ep+1) t'}/\x9 prog w (h.update a (Obj.putSet r t')) a led N:=by
 have I:=by
  have:=Qbf (Obj.putSet r t') O (by rw[putSet_of r t' L];rfl);rw[putSet_of r t' L]at this;exact this
 exact⟨I,_,r,ep+1,t',I,G,U,D,M,S,Q,C⟩
theorem Zcq{led:Bool}{tk:Tok}{Q:Bool->Shared->Prop}(hS:x9 prog w s.heap a led N)(hroom:N.length+1<scanBound)
  (h:∀h' b,Heap.SameBut a s.heap h'->x9 prog w h' a led (ins N x)->Q b {s with heap:=h'}):
  A9 prog w A (setAddHashed a (.str x tk) ((strKind prog w).hash x)) Q E s:=by
 obtain⟨o,es,ep,t,ho,hex,hd,S,hp,hf,hl,hpl⟩:=hS;have hn:es.size=N.length:=by rw[<-hp.length_eq,Qab,Qb0]
 have Y:(strKind prog w).is x (.str x tk)=true:=by show Value.isStrOf x (.str x tk)=true;simp[Value.isStrOf]
 refine Qcb (Qaa (Qd4 ho hd hf ?_));dsimp only;rw[byScan_of (knd:=strKind prog w) U (by lia) S];refine Qaa ?_;refine Qaa (Qdl ?_);refine Qaa (wpAny_setScan_of Y ho hd hf S ?_);have Ua:=Zju S (x:=x);cases hr:List.findIdx? (λe=>(strKind prog w).is x e.2) es.toList with
 |some j=>
  rw[hr]at Ua;have hx:x∈N:=hp.mem_iff.mp (Ua.mp U);refine Qae (Qae ?_);have:=h s.heap false (Heap.SameBut.refl a s.heap) (by rw[ins,Qa5 hx];exact⟨o,es,ep,t,ho,hex,hd,S,hp,hf,hl,hpl⟩);exact this
 |none=>
  rw[hr]at Ua;have hx:x∉N:=λhm=>by simpa using Ua.mpr (hp.mem_iff.mpr hm)
  have O:=uW t es ((strKind prog w).hash x) (.str x tk);have G:=layNew_perm t es ((strKind prog w).hash x) (.str x tk);have M:=layNew_fits t es ((strKind prog w).hash x) (.str x tk);generalize hL:layNew t es ((strKind prog w).hash x) (.str x tk)=L at O G M ⊢;obtain⟨C,t1,wd,gave⟩:=L;rw[Qgx]at G;have Z:ElemsOf (strKind prog w) C.toList:=(S.push Y U).perm G;have hp1:(C.toList.map λe=>tx e.2).Perm (ins N x):=by
   rw[ins,Qaw hx];refine(G.map _).trans ?_;rw[Qau];exact hp.append_right _
  have hz1:C.size=N.length+1:=by
   have:=hp1.length_eq;rw[ins,Qaw hx,Qab,Qb0,Qag]at this;exact this
  have hg:∀(b:Bool) {D:As} {Q':Unit->Shared->Prop},Q' () D->A9 prog w A (match b with|true=>rule "set.scan.the-table-gave-way" |false=>pure ()) Q' E D:=
   λb D Q' I=>by cases b<;>first|exact Qae I|exact Qdl I
  refine Qaa (hg _ ?_);have key:∀(g:Bool->Sem Unit),(∀(b:Bool)(D:As)(Q':Unit->Shared->Prop),Q' () D->A9 prog w A (g b) Q' E D)->∀t2:SetTable,t2.fits C.size=true->t2.led=led->t2.plain=false->
    A9 prog w A (do
     storeSet a C t2
     if(!wd&&t2.tooFull)=true then do
       g (relayAll t2 C (SetTable.grown C.size)).2.2
       storeSet a (relayAll t2 C (SetTable.grown C.size)).1 (relayAll t2 C (SetTable.grown C.size)).2.1
       pure (some true)
      else pure (some true)) (λr s'=>r=some true/\∀b,Q b s') E s:=by
   intro g hg t2 hf2 hl2 hp2;refine Qaa (wpAny_storeSet_of ho hd ?_ (Qgy (by lia)));obtain⟨ho1,hS1⟩:=xA (prog:=prog) (w:=w) ho hex hd Z hp1 hf2 hl2 (.inr hp2);have hsb1:=Qbr s.heap a (Obj.putSet C t2);split
   .have I:=relayAll_perm t2 C (SetTable.grown C.size);have hfr:=relayAll_fits t2 C (SetTable.grown C.size);have hlr:=vf t2 C (SetTable.grown C.size);generalize relayAll t2 C (SetTable.grown C.size)=Rl at I hfr hlr ⊢;obtain⟨es2,t3,g2⟩:=Rl;have hz2:es2.size=C.size:=by rw[<-Qb0,I.length_eq,Qb0]
    refine Qaa (hg _ _ _ ?_);refine Qaa (wpAny_storeSet_of ho1 U ?_ (Qgy (by lia)));obtain⟨_,hS2⟩:=xA (prog:=prog) (w:=w) ho1 hex U (Z.perm I) ((I.map _).trans hp1) hfr (hlr.1.trans hl2) (.inr (hlr.2 hp2));exact Qae ⟨U,λb=>h _ b (hsb1.trans (Qbr _ a _)) hS2⟩
   .exact Qae ⟨U,λb=>h _ b hsb1 hS1⟩
  split
  .rename_i hpt;refine Qaa ?_;rw[hashByValue_scannable 8 rfl];refine Qae ?_;rw[show plainKind (Value.str x tk)=false from U];refine Qdb (key _ ?_ {t1 with plain:=false} (SetTable.fits_plain_off M) (O.1.trans hl) U) ?_ (λ_ _ e=>e)
   .intro b D Q' I;cases b<;>first|exact Qae I|exact Qdl I
   .rintro r s' ⟨rfl,I⟩;exact Qae (I _)
  .rename_i hpt;refine Qaa (Qae ?_);refine Qdb (key _ ?_ t1 M (O.1.trans hl) (by simpa using hpt)) ?_ (λ_ _ e=>e)
   .intro b D Q' I;cases b<;>first|exact Qae I|exact Qdl I
   .rintro r s' ⟨rfl,I⟩;exact Qae (I _)
end
def Wn(ys:Ai):Ai:=ys.foldl ins []
def jr(ys:Ai)(y:Str):Wn (ys++[y])=ins (Wn ys) y:=by simp[Wn]
def Zjv(S:Ai)(x:Str):(ins S x).length<=S.length+1:=by unfold ins;split<;>simp
theorem XO(ys:Ai):∀i,(Wn (ys.take i)).length<=i
 |0=>by simp[Wn]
 |i+1=>by
  by_cases h:i<ys.length
  .rw[Qgz,Qac h,Option.toList_some,jr];have:=XO ys i;have:=Zjv (Wn (ys.take i)) ys[i];lia
  .rw[Qcq (by lia)];have:=XO ys i;rw[Qcq (by lia)]at this;lia
def GO{prog:Aq}{h':Heap}{led:Bool}(D:x9 prog w h a led N)(C:∀o,h.get? a=some o->h'.get? a=some o):x9 prog w h' a led N:=by
 obtain⟨o,es,ep,t,r,rest⟩:=D;exact⟨o,es,ep,t,C o r,rest⟩
section
variable {prog:Aq}{w:Au}{A:Ar}{R:Result->Shared->Prop}{I:Aw}{fp wr:List Aw}{G:Array GenState->Array GenState->Prop}{n:Nat}{P:Nat->Value->Prop}{St:Nat->Shared->Prop}
theorem uX(W:WalksS prog w A.in1 I fp wr G n P St)(S:Aw)(hSf:S∉fp){led:Bool}{ys:Ai}(hn:ys.length=n)
  (M:∀i v,P i v->∃y t,ys[i]?=some y/\v=.str y t) (D:n+1<scanBound):
  ∀(k i:Nat)(s:As),n-i=k->i<=n->St i s->x9 prog w s.heap S led (Wn (ys.take i))->
   (∀s',Moved (S::wr) G s s'->x9 prog w s'.heap S led (Wn ys)->R (.ok (.ret .none)) s')->
   codeAny (model prog w) A (.builtin "set.update.loop" ⟨[.ref S,.ref I],[]⟩) R s:=by
 have Q:S∉wr:=λh=>hSf (W.sub _ h);have r:∀b∈wr,b∈S::wr:=λb D=>Qal _ D;intro k
 induction k with
 |zero=>
  intro i s hk hi hst hS hR;have Y:i=n:=by lia
  rw[Y,<-hn,Qb1]at hS;subst Y;refine Qdd F.entry_set_update_loop ?_;refine Qaa (W.done s _ _ hst λs' Z=>?_);exact Qae (hR s' (Z.mono r) (GO hS λo ho=>Z.heap S _ Q ho))
 |succ k ih=>
  intro i s hk hi hst hS hR;have O:i<n:=by lia
  refine Qdd F.entry_set_update_loop ?_;refine Qaa (W.item i s _ _ O hst λv s' hP N Z=>?_);obtain⟨y,t,hy,rfl⟩:=M i v hP;have hS':=GO hS λo ho=>Z.heap S _ Q ho;refine Qaa (Qcb ?_);refine Qcb ?_;refine Qaa ((PySem.strKind prog w).pyHash (k:=y) (by show Value.isStrOf y (.str y t)=true;simp[Value.isStrOf]) ?_);have C:(Wn (ys.take i)).length+1<scanBound:=by have:=XO ys i;lia
  refine Zcq (s:={s' with toks:=s'.toks+1}) hS' C λh' b Ua hS2=>?_;rw[<-jr,show ys.take i++[y]=ys.take (i+1) by rw[Qgz,hy,Option.toList_some]]at hS2;refine Qae ⟨Qeb F.plain_set_update_loop _,ih (i+1) _ (by lia) O (W.frame _ s' _ _ N (Qem _) λb D o e=>?_) hS2 λs'' hm'' L=>?_⟩
  .rw[Ua.2 b (λh:b=S=>hSf (by rw[<-h];exact D))];exact e
  .refine hR s'' (Moved.trans W.gtrans ((Z.mono r).then_heap (Qem _) λb o D e=>?_) hm'') L;rw[Ua.2 b (λh:b=S=>D (by rw[h];exact Qaj))];exact e
end
section
variable {prog:Aq}{w:Au}{A:Ar}{E:Ab}{s:As}
def kD (w:Au):Bool:=w.params.followText "set-order"
def Y0 (w:Au):Obj:={cls:=.type "set",dict:=none,data:=.set #[] 0 (.fresh 0 0 (!kD w))}
def kS(a:Av){Q₁:Ab}(h:Q₁ (.ref s.heap.objs.size) {s with heap:=s.heap.push (Y0 w)}):
  codeAny (model prog w) A (.call (.builtin "set.__new__") ⟨[.type "set",a],[]⟩) (wants Q₁ E) s:=by
 refine codeAny_of_tree ?_;show wpAny _ A.in1 _ _ _ s;refine Qaa (Qcf (F.newCall_set_1 a) (Qae ⟨Qeb F.plain_set_new _,Qdd F.entry_set_new ?_⟩));rw[Qf3 F.plain_set_new _];unfold Builtin.«set.__new__» Builtin.Frozenset.newClass;have r:=sub_set_self;obtain⟨C,g,d,tk,os⟩:=s;dsimp only
 wp_walk
 refine Qha (Qae ?_);dsimp only;simp only[newObj];refine Qaa (wpAny_alloc (Qae ?_));exact Qae h
theorem zI{l:Aw}{items:Ah}{ys:Ai}
  (hh:A.handled=none) (hl:s.heap.IsList l items) (hi:StrsAre items.toList ys) (hb:items.size+1<scanBound)
  (h:∀(h':Heap)(tk:Nat),s.toks<=tk->x9 prog w h' s.heap.objs.size (!kD w) (Wn ys)->
   (∀b o,b<s.heap.objs.size->s.heap.get? b=some o->h'.get? b=some o)->Q (.ref s.heap.objs.size) {s with heap:=h',toks:=tk}):
  wpAny (model prog w) A (call (.type "set") [.ref l]) Q E s:=by
 obtain⟨c,tl,hmro⟩:=Qep.mro;have hmade:=Qep.made;have hsub:=Qep.sub;refine wpAny_call (codeAny_of_tree ?_);show wpAny _ _ (callAny (.type "set") _) _ _ _;refine Qae ⟨Code.quiet_builtin _ (by decide +kernel),Qdd F.entry_type_call ?_⟩;rw[Around.under_plain (weight_type_call_type "set" [.ref l] []) U];have h1:=Qep.notType;have h2:=Qep.canCreate;have hct:=F.typeCall_set_1 (.ref l)
 repeat (any_goals (first|assumption|wp_step))
 refine Qe6 (kS (.ref l) (E:=E) (Q₁:=λobj G=>obj=.ref s.heap.objs.size/\G={s with heap:=s.heap.push (Y0 w)}) ⟨U,U⟩) λr G hr=>?_;cases r with
 |error e=>exact hr
 |ok fl=>
  cases fl with
  |ret obj=>
   obtain⟨rfl,rfl⟩:=hr;have hS:(s.heap.push (Y0 w)).get? s.heap.objs.size=some (Y0 w):=Qam _ rfl;have hT:Shared.TypeIs {s with heap:=s.heap.push (Y0 w)} (.ref s.heap.objs.size) "set" :=⟨_,hS,U⟩;have hli:=Qep.init.lookup;have hbi:=Qep.init.bind (.ref s.heap.objs.size)
   repeat (any_goals (first|assumption|wp_step))
   refine Qe6 (codeAny_call_builtin (R:=wants (λr s₂=>r=.none/\∃h' tk,s.toks<=tk/\s₂={s with heap:=h',toks:=tk} /\
     x9 prog w h' s.heap.objs.size (!kD w) (Wn ys) /\
     (∀b o,b<s.heap.objs.size->s.heap.get? b=some o->h'.get? b=some o)) E) Qep.init.plain F.entry_set_init (check_set_init_1 hT ?_)) λS s₂ C=>?_
   .obtain⟨ol,hol,Z,nl,hdl⟩:=hl;obtain⟨ocls,I,odata,D⟩:=ol;simp only at Z hdl;subst Z;subst hdl;have Ua:(s.heap.push (Y0 w)).get? l=some {cls:=.type "list",dict:=I,data:=.seq items nl,slots:=D}:=Qad _ hol;have hsls:=F.sub_list_set;have hslf:=F.sub_list_frozenset;have hne:(Value.type "list" == Value.type "dict")=false:=by decide
    have hl1:(s.heap.push (Y0 w)).IsList l items:=⟨_,Ua,U,nl,U⟩;unfold Builtin.«set.__init__» noKeywords Builtin.Frozenset.updateFrom;generalize hPI:pyIter=PI
    wp_walk
    subst hPI;refine Qfq hl1 ?_;refine Qaa (wpAny_runValue ?_);have O:l<s.heap.objs.size:=Qav hol;have hh3:A.in1.in1.in1.handled=none:=by simp[hh]
    have Y:l≠(s.heap.push (Y0 w)).objs.size:=by
     rw[Qb8];exact Qbc (Qd1 O)
    have hSf:s.heap.objs.size∉[(s.heap.push (Y0 w)).objs.size,l]:=by
     rw[Qb8];simp only[Qas,Qao,Qbq,Qe1,not_or];exact⟨Qbc (Qdq _),Qd7 O⟩
    have hval:∀(i:Nat)(v:Av),items[i]?=some v->∃y t,ys[i]?=some y/\v=.str y t:=λi v hv=>by
     rw[<-Array.getElem?_toList]at hv;obtain⟨y,t,e1,e2⟩:=StrsAre.item hi i v hv;exact⟨y,t,e2,e1⟩
    refine uX ((Walks.list hh3 _ l Y items).toS) s.heap.objs.size
     hSf (led:=!kD w) (ys:=ys) (by rw[<-Qb0];exact hi.length.symm) hval hb (items.size-0) 0 _ (by lia) (Qbe _)
     ⟨⟨_,Qam _ U,U,U⟩,(hl1.push _)⟩ ?hS0 ?hR
    case hS0=>
     exact⟨Y0 w,#[],0,.fresh 0 0 (!kD w),Qad _ hS,⟨U,U,U⟩,U,λe he=>by simp at he,by simp[Wn],U,U,.inl U⟩
    case hR=>
     intro s' hm M;have N:=hm.toks;obtain⟨h',g',d',tk',os'⟩:=s';have eg:g'=s.gens:=hm.gens;have ed:d'=s.drawn:=hm.drawn;have eo:os'=s.os:=hm.os;subst eg;subst ed;subst eo;show wpAny _ _ _ _ _ _;refine Qae ?_;show wpAny _ _ (ret Value.none) _ _ _;refine Qae ⟨U,h',tk',N,U,M,λb o hb e=>?_⟩;have hb1:b≠s.heap.objs.size:=Qbc hb;have hb2:b≠(s.heap.push (Y0 w)).objs.size:=by
      rw[Qb8];exact Qbc (Qd1 hb)
     exact hm.heap b o (by simp only[Qas,Qao,Qbq,Qe1,not_or];exact⟨hb1,hb2⟩) (Qad _ (Qad _ e))
   .cases S with
    |error e=>exact C
    |ok L=>
     cases L with
     |ret r=>
      obtain⟨rfl,h',tk,N,rfl,M,hk'⟩:=C
      repeat (any_goals (first|assumption|wp_step))
      exact h _ _ N M hk'
     |_=>exact C.elim
  |_=>exact hr.elim
end
theorem Z9:Slot "set_iterator" "__next__" "set_iterator.__next__" :=
 .of (owner:= "set_iterator") (n:= "__next__") (by kernel_rfl) (by decide +kernel) (by decide +kernel) (by decide +kernel)
  (by first|exact .inl (by decide +kernel)|exact .inr _) (by kernel_rfl)
def YI:entryFor table "set_iterator.__next__" = some Builtin.«set_iterator.__next__»:=entryFor_of_tree (by kernel_rfl)
def YW (a:Av):argsOk "set_iterator.__next__" ⟨[a],[]⟩:=by
 kernel_rfl
theorem zJ:entryFor table "set.__iter__" = some Builtin.«frozenset.__iter__» :=
 entryFor_alias (id':= "frozenset.__iter__") (by kernel_rfl) U (by decide +kernel) (by kernel_rfl)
section
variable {prog:Aq}{w:Au}{A:Ar}{E:Ab}{s:As}
def uY{r:Source}{Q:Nat->Shared->Prop}(C:n≠0)(h:∀i d,i<n->Q i {s with drawn:=d}):A9 prog w A (choose r n) Q E s:=by
 intro Γ p D;exact⟨C,h _ _ (Nat.mod_lt _ (Nat.pos_of_ne_zero C))⟩
theorem YJ{α:Type}:∀(xs:List α)(i:Nat)(x:α),xs[i]?=some x->(x::xs.eraseIdx i).Perm xs
 |[],i,x,h=>by simp at h
 |y::ys,0,x,h=>by simp at h;subst h;exact .rfl
 |y::ys,i+1,x,h=>(List.Perm.swap y x _).trans ((YJ ys i x h).cons y)
theorem Ge{α:Type}:∀(n:Nat)(xs:List α)(s:As)(Q:List α->Shared->Prop),xs.length<=n->(∀ys d,ys.Perm xs->Q ys {s with drawn:=d})->A9 prog w A (drawOrder n xs) Q E s
 |0,xs,s,Q,C,h=>by
  have:xs=[]:=Qcm (by lia);subst this;exact Qae (h [] s.drawn .rfl)
 |n+1,[],s,Q,C,h=>Qae (h [] s.drawn .rfl)
 |n+1,y::ys,s,Q,C,h=>by
  refine Qaa (uY (by simp) λi d hi=>?_);obtain⟨x,r⟩:∃x,(y::ys)[i]?=some x:=⟨_,Qac hi⟩;rw[r];refine Qaa (Ge n _ _ _ (by grind) λzs D G=>(Qae (h _ D ((G.cons x).trans (YJ _ i x r)))))
end
theorem qr{α:Type}(next:Nat->Nat):∀(r k:Nat)(left:List α)(C:Array α),r=left.length->(pickOrder.go next r k left C).toList.Perm (C.toList++left)
 |0,k,left,C,h=>by
  have:=Qcm h.symm;subst this;unfold pickOrder.go;simp
 |r+1,k,left,C,h=>by
  unfold pickOrder.go;have hi:next k%left.length<left.length:=Nat.mod_lt _ (by lia);rw[Qac hi];refine(qr next r _ _ _ (by grind)).trans ?_;rw[Qgx,Qbt];exact(YJ left _ _ (Qac hi)).append_left _
def XQ(next:Nat->Nat)(xs:Array g):(pickOrder next xs).toList.Perm xs.toList:=by
 unfold pickOrder;simpa using qr next xs.size 0 _ #[] (by simp)
def WY(h:Heap)(a:Aw)(es:Array (Int×Av))(ep:Nat)(t:SetTable):Prop:=∃o,h.get? a=some o/\o.ExactSet/\o.data=.set es ep t/\t.fits es.size=true
def Y1 (h:Heap) (I a:Aw) (first:Av) (i n ep:Nat):Prop:=∃o,h.get? I=some o/\o.cls=.type "set_iterator" /\ o.data=.fields #[first,.int i 0,.ref a,.int n 0,.int ep 0]
section
variable {prog:Aq}{w:Au}{A:Ar}{E:Ab}{s:As}
def Y1.typeIs  {first:Av} {ep:Nat} (x:Y1 s.heap f a first i n ep):s.TypeIs (.ref f) "set_iterator" :=let⟨o,ho,hc,_⟩:=x;⟨o,ho,hc⟩
def Y1.at{h':Heap}{first:Av}{ep:Nat}(x:Y1 h f a first i n ep)(e:∀o,h.get? f=some o->h'.get? f=some o):Y1 h' f a first i n ep:=let⟨o,ho,r⟩:=x;⟨o,e _ ho,r⟩
def WY.at{h':Heap}{es:Array (Int×Av)}{ep:Nat}{t:SetTable}(x:WY h a es ep t)(e:∀o,h.get? a=some o->h'.get? a=some o):WY h' a es ep t:=let⟨o,ho,r⟩:=x;⟨o,e _ ho,r⟩
def Xm{Q:Bool->Shared->Prop}(h:Q (kD w) s):A9 prog w A setsByText Q E s:=Qaa (Qha (Qae h))
def qt{es:Array (Int×Av)}{ep:Nat}{t:SetTable}{given:Nat}{Q:Option (Av×Nat)->Shared->Prop}(G:kD w=true)(I:WY s.heap a es ep t)
  (h:Q (((pickOrder (w.params.setOrder a ep) es)[given]?).map λe=>(e.2,0)) s):A9 prog w A (setNext a 0 given ep) Q E s:=by
 obtain⟨o,r,L,C,D⟩:=I;refine Qaa (Qd4 r C D (Qaa (Xm ?_)));rw[G];simp;refine Qaa (Qaa (Qd4 r C D (Qaa (Xm ?_))));rw[G];refine Qaa (Qha (Qae (Qae h)))
def Gf{es:Array (Int×Av)}{ep:Nat}{t:SetTable}{given:Nat}{Q:Option (Av×Nat)->Shared->Prop}(N:kD w=false)(D:WY s.heap a es ep t)(G:t.led=true)(O:es.size<=1)
  (h:Q (match es[SetTable.below t.place i]?,t.place[SetTable.below t.place i]? with|some (_,x),some j=>some (x,j+1)|_,_=>none) s):A9 prog w A (setNext a i given ep) Q E s:=by
 obtain⟨o,C,I,L,M⟩:=D;refine Qaa (Qd4 C L M (Qaa (Xm ?_)));rw[N];have r:decide (es.size>1)=false:=by simp;lia
 show wpAny _ _ (if(!t.plain&&decide _)=true then _ else _) _ _ _;rw[r,Qfs];refine Qaa (m:=(if(!t.led && !es.isEmpty)=true then unsupported _ else pure ())) ?_;rw[G];exact Qae (Qae h)
def jV{es:Array (Int×Av)}{ep:Nat}{t:SetTable}{e:Int×Av}(C:WY s.heap a es ep t)(I:es[i]?=some e)
  (h:Q e.2 s):A9 prog w A (setNextDrawn a i ep) Q E s:=by
 obtain⟨o,r,D,G,L⟩:=C;refine Qaa (Qd4 r G L ?_);simp;rw[I];exact Qae h
def uZ{first:Av}{ep:Nat}(x:Y1 s.heap f a first i n ep){C:Nat}:
  Y1 ((s.heap.update f (Obj.mapFields (·.setIfInBounds 0 u))).update f (Obj.mapFields (·.setIfInBounds 1 (.int C 0)))) f a u C n ep:=by
 obtain⟨o,G,I,D⟩:=x;have h1:=Qbf (Obj.mapFields (·.setIfInBounds 0 u)) G (Qcj (Qbm D _));have r:=Qbm D (·.setIfInBounds 0 u);refine⟨_,Qbf _ h1 (Qcj (Qbm r _)),(Qd3 ..).trans ((Qd3 ..).trans I),?_⟩;rw[Qbm r];simp
def vg{es:Array (Int×Av)}{ep:Nat}{t:SetTable}{x:Av}{nx:Nat}{Q:Aa}(r:Y1 s.heap f a (.int n 0) i es.size ep)(M:WY s.heap a es ep t)
  (N:∀(L:Option (Av×Nat)->Shared->Prop)(O:Ab),L (some (x,nx)) s->A9 prog w A.in1 (setNext a n i ep) L O s)
  (S:∀h',Y1 h' f a (.int nx 0) (i+1) es.size ep->Heap.SameBut f s.heap h'->Q (some x) {s with heap:=h'}):A9 prog w A (pyNext (.ref f)) Q E s:=by
 obtain⟨o,D,Z,C⟩:=id r;obtain⟨os,G,Ua,I,Y⟩:=id M;refine Qaa (Qc0 (wpAny_callSpecial?_slot r.typeIs Z9
  (Qbd Z9 r.typeIs YI (Qaa (Qae ?_)) (YW _))))
 refine Qaa (Qe0 D C (Qaa (Qec G I Y ?_)));simp;refine Qaa (N _ _ (Qaa (Qcs D C (by simp) ?_)));refine Qaa (Qcs (Qbf _ D (Qcj (Qbm C _))) (Qbm C _) (by simp) (Qae ⟨_,U,Qae (S _ (uZ r) ((Qbr ..).trans (Qbr ..)))⟩))
def gB{es:Array (Int×Av)}{ep:Nat}{t:SetTable}{Q:Aa}(hh:A.handled=none)(r:Y1 s.heap f a (.int n 0) i es.size ep)(M:WY s.heap a es ep t)
  (N:∀(G:Option (Av×Nat)->Shared->Prop)(O:Ab),G none s->A9 prog w A.in1 (setNext a n i ep) G O s)
  (S:∀h',Heap.ExtBut f s.heap h'->Q none {s with heap:=h'}):A9 prog w A (pyNext (.ref f)) Q E s:=by
 obtain⟨o,L,Z,I⟩:=id r;obtain⟨os,C,Ua,D,Y⟩:=id M;refine Qaa (Qc0 (wpAny_callSpecial?_slot r.typeIs Z9
  (Qbd Z9 r.typeIs YI ?_ (YW _))))
 refine Qaa (Qae ?_);refine Qaa (Qe0 L I ?_);refine Qaa (Qec C D Y ?_);simp;refine Qaa (N _ _ ?_);refine Qaa (Qcs L I (by simp) ?_);refine Qaa ?_;refine Qaa (Qbo ?_ (by size_fits));refine Qaa (Qcf (a:=Value.none) (by first|rfl|(rfl)) ?_);refine Qbo ?_ (by size_fits);refine Qaa (Qf9 ?_);rw[hh];refine Qaa (Qae (Qg3 ?_));refine Qaa (Qcz (T:= "StopIteration") (b:=true) ⟨_,Qam _ U,U⟩ Qez ?_);exact Qae (S _ (((Qbr ..).extBut.push _).push _))
def Zaa{p:Aw}{es:Array (Int×Av)}{ep:Nat}{t:SetTable}{ps:Aj}{pl:Nat}{e:Int×Av}{Q:Aa}(r:Y1 s.heap f a (.ref p) i es.size ep)(N:WY s.heap a es ep t)
  (O:s.heap.get? p=some L) (D:L.data=.seq (ps.map λ(k:Nat)=>rawInt k).toArray n) (hi:ps[i]?=some pl) (he:es[pl]?=some e)
  (S:∀h',Y1 h' f a (.ref p) (i+1) es.size ep->Heap.SameBut f s.heap h'->Q (some e.2) {s with heap:=h'}):A9 prog w A (pyNext (.ref f)) Q E s:=by
 obtain⟨o,G,Ua,C⟩:=id r;obtain⟨os,I,Y,M,Z⟩:=id N;refine Qaa (Qc0 (wpAny_callSpecial?_slot r.typeIs Z9
  (Qbd Z9 r.typeIs YI (Qaa (Qae ?_)) (YW _))))
 refine Qaa (Qe0 G C (Qaa (Qec I M Z ?_)));simp only[Qg0,↓reduceIte];refine Qaa (Qci O D ?_);dsimp only;rw[show((ps.map _).toArray)[(i:Int).toNat]?=some (rawInt pl) by simp[hi]];simp[rawInt];refine Qaa (jV N he ?_);refine Qaa (Qcs G C (by simp) (Qae ⟨_,U,Qae (S _ ⟨_,Qbf _ G (Qcj (Qbm C _)),(Qd3 ..).trans Ua,?_⟩ (Qbr ..))⟩));rw[Qbm C];simp
def Zcr{p:Aw}{es:Array (Int×Av)}{ep:Nat}{t:SetTable}{ps:Aj}{Q:Aa}(hh:A.handled=none)(r:Y1 s.heap f a (.ref p) i es.size ep)(N:WY s.heap a es ep t)
  (O:s.heap.get? p=some L) (D:L.data=.seq (ps.map λ(k:Nat)=>rawInt k).toArray n) (hi:ps[i]?=none)
  (S:∀h',Heap.ExtBut f s.heap h'->Q none {s with heap:=h'}):A9 prog w A (pyNext (.ref f)) Q E s:=by
 obtain⟨o,G,Z,C⟩:=id r;obtain⟨os,I,Ua,M,Y⟩:=id N;refine Qaa (Qc0 (wpAny_callSpecial?_slot (name:=Str.ofString "__next__") r.typeIs Z9
  (Qbd Z9 r.typeIs YI ?_ (YW _))))
 refine Qaa (Qae ?_);refine Qaa (Qe0 G C ?_);refine Qaa (Qec I M Y ?_);simp only[Qg0,Qfg,↓reduceIte];refine Qaa (Qci O D ?_);dsimp only;rw[show((ps.map λ(k:Nat)=>rawInt k).toArray)[(i:Int).toNat]?=none by simp;simpa using hi];refine Qaa (Qcs G C (by simp) ?_);have h1:=Qbf (Obj.mapFields (·.setIfInBounds 0 (rawInt 0))) G (Qcj (Qbm C _));refine Qaa (Qcs h1 (Qbm C _) (by simp) ?_);refine Qaa ?_;refine Qaa (Qbo ?_ (by size_fits));refine Qaa (m:=firstArgMember _ _) (Qcf (a:=Value.none) (by first|rfl|(rfl)) ?_);refine Qbo ?_ (by size_fits);refine Qaa (Qf9 ?_);rw[show A.in1.handled=none from hh];refine Qaa (Qae (Qg3 ?_));refine Qaa (Qcz (T:= "StopIteration") (b:=true) ⟨_,Qam _ U,U⟩ Qez ?_);exact Qae (S _ ((((Qbr ..).trans (Qbr ..)).extBut.push _).push _))
end
theorem J5:Slot "set_iterator" "__iter__" "set_iterator.__iter__" :=
 .of (owner:= "set_iterator") (n:= "__iter__") (by kernel_rfl) (by decide +kernel) (by decide +kernel) (by decide +kernel)
  (by first|exact .inl (by decide +kernel)|exact .inr _) (by kernel_rfl)
theorem xB:entryFor table "set_iterator.__iter__" = some Builtin.«dict_keyiterator.__iter__» :=
 entryFor_alias (id':= "dict_keyiterator.__iter__") (by kernel_rfl) U (by decide +kernel) (by kernel_rfl)
def zK (a:Av):argsOk "set_iterator.__iter__" ⟨[a],[]⟩:=by
 kernel_rfl
section
variable {prog:Aq}{w:Au}{A:Ar}{E:Ab}{s:As}
def xC{first:Av}{ep:Nat}(r:Y1 s.heap f a first i n ep)(h:Q (.ref f) s):A9 prog w A (pyIter (.ref f)) Q E s:=by
 refine Qeu r.typeIs J5 (Qbd J5 r.typeIs xB (Qae ⟨_,U,_,_,r.typeIs,Z9.lookup,h⟩) (zK _))
def Txs(r:List (Int×Av))(i:Nat)(v:Av):Prop:=∃e,r[i]?=some e/\v=e.2
def Zab{es:Array (Int×Av)}{ep:Nat}{t:SetTable}(r:kD w=true)(hh:A.handled=none)(I:a≠f):
  Walks prog w A f [f,a] [f] es.size (Txs (pickOrder (w.params.setOrder a ep) es).toList) (λi h=>Y1 h f a (.int (0:Nat) 0) i es.size ep/\WY h a es ep t)where
 sub:=λb r=>by grind
 frame:=λ_ _ _ st M=>⟨st.1.at λo e=>M f (by simp) o e,st.2.at λo e=>M a (by simp) o e⟩
 item:=λi s Q E hi st D=>by
  have hsz:=by simpa using (XQ (w.params.setOrder a ep) es).length_eq
  obtain⟨e,S⟩:∃e,(pickOrder (w.params.setOrder a ep) es)[i]?=some e:=⟨_,Qco (by lia)⟩;refine vg st.1 st.2 (λN O q=>qt r st.2 (by grind)) λh' C G=>(D e.2 h' s.toks ⟨e,by simpa using S,U⟩ ⟨C,st.2.at λo e=>G.extBut a o I e⟩ λb o r e=>G.extBut b o (λh=>r (by simp[h])) e)
 done:=λs Q E st D=>by
  have hsz:=by simpa using (XQ (w.params.setOrder a ep) es).length_eq
  exact gB hh st.1 st.2 (λN O q=>qt r st.2 (by grind)) λh' L=>D h' s.toks λb o r e=>L b o (λh=>r (by simp[h])) e
 self:=λ_ _ _ _ st D=>xC st.1 D
theorem kT{p:Aw}{es:Array (Int×Av)}{ep:Nat}{t:SetTable}{ps:Aj}(M:ps.Perm (List.range es.size))(hh:A.handled=none)(Y:a≠f)(hnp:p≠f):
  Walks prog w A f [f,a,p] [f] es.size (Txs (ps.filterMap (es[·]?))) (λi h=>Y1 h f a (.ref p) i es.size ep/\WY h a es ep t/\∃D np,h.get? p=some D/\D.data=.seq (ps.map λ(k:Nat)=>rawInt k).toArray np)where
 sub:=λb O=>by simp at O;simp[O]
 frame:=λ_ _ _ st C=>⟨st.1.at λo e=>C f (by simp) o e,st.2.1.at λo e=>C a (by simp) o e,let⟨D,np,h1,h2⟩:=st.2.2;⟨D,np,C p (by simp) D h1,h2⟩⟩
 item:=λi s Q E hi st N=>by
  obtain⟨D,np,h1,h2⟩:=st.2.2;have G:=by simpa using M.length_eq
  have r:∀k∈ps,k<es.size:=λk C=>by grind
  have L:ps[i]?=some (ps[i]'(by lia)):=Qac _;have C:ps[i]'(by lia)<es.size:=r _ (Qbi _);have Z:ps.filterMap (es[·]?)=ps.map (λk=>es.getD k (0,.none)):=by
   clear L M G C hi h1 h2 st N
   induction ps with
   |nil=>rfl
   |cons k ks ih=>
    have:=r k (by simp);rw[List.filterMap_cons_some (b:=es.getD k (0,.none)) (by simp[Array.getD,this]),ih λk C=>r k (by simp[C]),Qbw]
  refine Zaa st.1 st.2.1 h1 h2 L (Qco C) λh' S I=>?_;refine N _ h' s.toks ⟨_,?_,U⟩ ⟨S,st.2.1.at λo e=>I.extBut a o Y e,D,np,I.extBut p D hnp h1,h2⟩ λb o O e=>I.extBut b o (λh=>O (by simp[h])) e;rw[Z,Qai,L];simp[Array.getD,C]
 done:=λs Q E st N=>by
  obtain⟨D,np,h1,h2⟩:=st.2.2;have G:=by simpa using M.length_eq
  exact Zcr hh st.1 st.2.1 h1 h2 (by simp;lia) λh' Ua=>N h' s.toks λb o O e=>Ua b o (λh=>O (by simp[h])) e
 self:=λ_ _ _ _ st N=>xC st.1 N
def vh(j:Nat):SetTable.below #[j] 0=0/\SetTable.below #[j] (j+1)=1:=by
 constructor<;>simp[SetTable.below,SetTable.below.go]
def kU{es:Array (Int×Av)}{ep:Nat}{t:SetTable}(C:kD w=false)(hl:t.led=true)(Z:es.size<=1)(hh:A.handled=none)(S:a≠f):
  Walks prog w A f [f,a] [f] es.size (Txs es.toList) (λi h=>∃r:Nat,(i=0->r=0)/\(i=1->∃j,t.place=#[j]/\r=j+1)/\Y1 h f a (.int r 0) i es.size ep/\WY h a es ep t)where
 sub:=λb C=>by simp at C;simp[C]
 frame:=λ_ _ _ st Y=>by
  obtain⟨r,M,L,h1,h2⟩:=st;exact⟨r,M,L,h1.at λo e=>Y f (by simp) o e,h2.at λo e=>Y a (by simp) o e⟩
 item:=λi s Q E hi st G=>by
  obtain⟨r,M,L,h1,h2⟩:=st;have Ua:i=0:=by lia
  subst Ua;obtain rfl:=M rfl;have hps:t.place.size=1:=by
   obtain⟨o,ho,hex,hd,hf⟩:=h2;simp only[SetTable.fits,Qby,beq_iff_eq,decide_eq_true_eq]at hf;lia
  obtain⟨j,N⟩:∃j,t.place=#[j]:=⟨t.place[0],by grind⟩;obtain⟨e,he⟩:∃e,es[0]?=some e:=⟨_,Qco (by lia)⟩;refine vg h1 h2 (x:=e.2) (nx:=j+1) (λQ' E' q=>Gf C h2 hl Z (by rw[N,(vh j).1,he];exact q)) λh' D I=>?_;exact G e.2 h' s.toks ⟨e,by simpa using he,U⟩ ⟨j+1,λz=>absurd z (by lia),λ_=>⟨j,N,U⟩,D,h2.at λo e=>I.extBut a o S e⟩ λb o C e=>I.extBut b o (λh=>C (by simp[h])) e
 done:=λs Q E st G=>by
  obtain⟨r,M,L,h1,h2⟩:=st;refine gB hh h1 h2 (λQ' E' q=>Gf C h2 hl Z ?_) λh' O=>G h' s.toks λb o C e=>O b o (λh=>C (by simp[h])) e
  by_cases h0:es.size=0
  .grind
  .obtain⟨j,N,rfl⟩:=L (by lia);rw[N,(vh j).2,Array.getElem?_eq_none (by lia)];exact q
 self:=λ_ _ _ _ st G=>by
  obtain⟨r,M,L,h1,h2⟩:=st;exact xC h1 G
def kW{es:Array (Int×Av)}{ep:Nat}{t:SetTable}{Q:Bool->Shared->Prop}(C:WY s.heap a es ep t)(h:Q (!kD w&&(!t.plain&&decide (es.size>1))) s):A9 prog w A (setDrawn a) Q E s:=by
 obtain⟨o,r,D,G,I⟩:=C;refine Qaa (Qd4 r G I (Qaa (Xm (Qae h))))
structure SetW(prog:Aq)(w:Au)(h h':Heap)(I a:Aw)(es:Array (Int×Av))(ord:List (Int×Av))(fp:List Aw)(St:Nat->Heap->Prop):Prop where
 old:∀b o,h.get? b=some o->h'.get? b=some o
 new:h.objs.size<=I
 perm:ord.Perm es.toList
 lt:∀b∈fp,b<h'.objs.size
 mem:I∈fp
 st:St 0 h'
 walks:∀A:Ar,A.handled=none->Walks prog w A I fp [I] es.size (Txs ord) St
 apart:∀b∈fp,b=a\/h.objs.size<=b
def Zfy{es:Array (Int×Av)}{ep:Nat}{t:SetTable}(M:WY s.heap a es ep t)(hl:t.led=!kD w)(hp:es.size=0\/t.plain=false)(hz:es.size<=sizeLine)
  (Y:∀h' d I ord fp St,SetW prog w s.heap h' I a es ord fp St->Q (.ref I) {s with heap:=h',drawn:=d}):A9 prog w A (pyIter (.ref a)) Q E s:=by
 obtain⟨o,L,hex,S,Ua⟩:=id M;have hT:s.TypeIs (.ref a) "set" :=⟨o,L,hex.1⟩;have N:=Qav L;refine Qeu hT F.slot_set_iter (Qbd F.slot_set_iter hT zJ ?_ (F.args_set_iter_1 _));unfold Builtin.«frozenset.__iter__» Builtin.Frozenset.slot0 slotArgs;simp only[List.isEmpty_nil,Bool.not_true,Qfg,↓reduceIte,bind_assoc,Qcg,Qg0];refine Qaa (Qae ?_);refine Qaa (Qae ?_);refine Qaa (Qaa (Qec L S Ua (Qae ?_)));refine Qaa (kW M ?_);cases hb:kD w with
 |true=>
  refine Qaa (Qae ?_);refine Qaa (Qg1 L S Ua ?_);have C:(s.heap.push {cls:=.type "set_iterator",data:=.fields #[rawInt 0,rawInt 0,.ref a,rawInt es.size,rawInt ep]}).get? s.heap.objs.size=some {cls:=.type "set_iterator",data:=.fields #[rawInt 0,rawInt 0,.ref a,rawInt es.size,rawInt ep]}:=Qam _ rfl;refine Qaa (Qbo (Qae ⟨_,U,"set_iterator",_,⟨_,C,U⟩,Z9.lookup,?_⟩));refine Y _ s.drawn s.heap.objs.size _ _ _ ⟨λb o e=>Qad _ e,Qah _,XQ (w.params.setOrder a ep) es,λb r=>?_,Qaj,⟨⟨_,C,U,U⟩,M.at λo e=>Qad _ e⟩,λA' hh=>Zab hb hh (Qbc N),λb r=>(Qas.mp r).elim (λe=>.inr (e ▸ Qah _)) λr=>.inl (Qao.mp r)⟩;rw[Qb8];rcases Qas.mp r with rfl|r
  .exact Qdq _
  .grind
 |false=>
  rw[hb]at hl
  by_cases Z:es.size>1
  .have hpl:t.plain=false:=hp.resolve_left (by lia);rw[hpl,Qaq Z];refine Qaa (Ge _ _ _ _ (Qhf Qbk) λps d G=>?_);have hpn:ps.length=es.size:=by simpa using G.length_eq
   refine Qaa (Qgu ?_ (by rw[Qab];lia));refine Qaa (Qg1 (Qad _ L) S Ua ?_);generalize hH:s.heap.push {cls:=.type "tuple",data:=.seq (ps.map λ(i:Nat)=>rawInt i).toArray}=H;have O:H.objs.size=s.heap.objs.size+1:=by rw[<-hH,Qb8]
   have D:∀b o,s.heap.get? b=some o->H.get? b=some o:=λb o e=>hH ▸ Qad _ e;have C:(H.push {cls:=.type "set_iterator",data:=.fields #[.ref s.heap.objs.size,rawInt 0,.ref a,rawInt es.size,rawInt ep]}).get? H.objs.size=some _:=Qam _ rfl;refine Qaa (Qbo (s:={s with heap:=H,drawn:=d}) (Qae ⟨_,U,"set_iterator",_,⟨_,C,U⟩,Z9.lookup,?_⟩));refine Y _ d H.objs.size _ _ _ ⟨λb o e=>Qad _ (D b o e),by rw[O];exact Qem _,?_,λb r=>?_,Qaj,⟨⟨_,C,U,U⟩,M.at λo e=>Qad _ (D a o e),_,_,Qad _ (hH ▸ Qam _ U),U⟩,λA' hh=>kT (p:=s.heap.objs.size) G hh (λe=>by grind) (λe=>by grind),λb r=>(Qas.mp r).elim (λe=>.inr (by rw[e,O];exact Qem _)) λr=>(Qas.mp r).elim .inl λr=>.inr (by grind)⟩
   .exact(G.filterMap _).trans (by rw[filterMap_getElem?_range])
   .rw[Qb8];rcases Qas.mp r with rfl|r
    .exact Qdq _
    .grind
  .have hd2:decide (es.size>1)=false:=by simp;lia
   rw[hd2,Qfs];refine Qaa (Qae ?_);refine Qaa (Qg1 L S Ua ?_);have C:(s.heap.push {cls:=.type "set_iterator",data:=.fields #[rawInt 0,rawInt 0,.ref a,rawInt es.size,rawInt ep]}).get? s.heap.objs.size=some {cls:=.type "set_iterator",data:=.fields #[rawInt 0,rawInt 0,.ref a,rawInt es.size,rawInt ep]}:=Qam _ rfl;refine Qaa (Qbo (Qae ⟨_,U,"set_iterator",_,⟨_,C,U⟩,Z9.lookup,?_⟩));refine Y _ s.drawn s.heap.objs.size _ _ _ ⟨λb o e=>Qad _ e,Qah _,.rfl,λb r=>?_,Qaj,⟨0,λ_=>U,λz=>absurd z (by lia),⟨_,C,U,U⟩,M.at λo e=>Qad _ e⟩,λA' hh=>kU hb (by simpa using hl) (by lia) hh (Qbc N),λb r=>(Qas.mp r).elim (λe=>.inr (e ▸ Qah _)) λr=>.inl (Qao.mp r)⟩;rw[Qb8];rcases Qas.mp r with rfl|r
   .exact Qdq _
   .grind
def kX{es:Array (Int×Av)}{ep:Nat}{t:SetTable}{Q:Ag->Shared->Prop}(hh:A.handled=none)(hs:WY s.heap a es ep t)(hl:t.led=!kD w)(hp:es.size=0\/t.plain=false)(hz:es.size<=sizeLine)
  (hQ:∀(h':Heap)(d:Drawn)(tk:Nat)(C:List (Int×Av)),(∀b o,s.heap.get? b=some o->h'.get? b=some o)->s.heap.objs.size<=h'.objs.size->C.Perm es.toList->Q (C.map (·.2)) {s with heap:=h',drawn:=d,toks:=tk}):A9 prog w A (collect (.ref a)) Q E s:=by
 obtain⟨o,ho,Y,hd,hf⟩:=id hs;have Z:=Qav ho;unfold collect;refine Qaa (wpAny_runValue (Qdd F.entry_proto_collect ?_));rw[Qf3 F.plain_proto_collect _];show wpAny _ A.in1 (newList [] >>= λl=>again (.builtin "list.__iadd__" ⟨[l,.ref a],[]⟩)) _ _ s;refine Qaa (Qbo ?_);refine Qae ⟨Qeb F.plain_list_iadd _,Qdd F.entry_list_iadd ?_⟩;rw[Qf3 F.plain_list_iadd _];generalize hH:s.heap.push {cls:=.type "list",data:=.seq ([]:Ag).toArray}=H;have hHs:H.objs.size=s.heap.objs.size+1:=by rw[<-hH,Qb8]
 have r:∀b o,s.heap.get? b=some o->H.get? b=some o:=λb o e=>hH ▸ Qad _ e;have hS:H.get? s.heap.objs.size=some {cls:=.type "list",data:=.seq ([]:Ag).toArray}:=hH ▸ Qam _ rfl;have hs1:WY H a es ep t:=hs.at λo e=>r a o e;have hT:Shared.TypeIs {s with heap:=H} (.ref a) "set" :=⟨o,r a o ho,Y.1⟩;show wpAny _ A.in1 (Builtin.List.listExtendWith (.ref s.heap.objs.size) (.ref a) (.ref s.heap.objs.size)) _ _ _;unfold Builtin.List.listExtendWith;refine Qaa (wpAny_typeOf hT ?_);have h1:Builtin.List.listSameRef (.ref s.heap.objs.size) (.ref a)=false:=by simp[Builtin.List.listSameRef];exact Qd7 Z
 have h2:(Value.type "set" == Value.type "list")=false:=by decide
 have h3:(Value.type "set" == Value.type "tuple")=false:=by decide
 simp only[h1,h2,h3,Bool.or_false,Qfg,if_false];refine Qaa (Zfy (s:={s with heap:=H}) hs1 hl hp hz λh1 d I C fp St W=>?_);refine Qaa (Qcb ?_);unfold Builtin.List.listLengthHint;have M:Shared.TypeIs {s with heap:=h1,drawn:=d} (.ref a) "set" :=⟨o,W.old a o (r a o ho),Y.1⟩;refine Qaa (Qd2 M F.slot_set_len.lookup ?_)
 wp_delta
 refine Qaa (Qcz (b:=true) M (by rw[isSubtype_type];kernel_rfl) ?_);show wpAny _ A.in1 (typeOf (Value.ref a) >>= _) _ _ _;refine Qaa (wpAny_typeOf M ?_);refine Qae ?_;show wpAny _ A.in1 (rule "list.extend.makes-room" >>= λ_=>Builtin.List.listTouch (.ref s.heap.objs.size) >>= λ_=>
  again (.builtin "list.extend.loop" ⟨[.ref s.heap.objs.size,.ref I,.ref s.heap.objs.size],[]⟩)) _ _ _
 refine Qaa (Qdl ?_);have hnf:s.heap.objs.size∉fp:=λS=>by
  rcases W.apart _ S with e|e
  .exact absurd Z (e ▸ Qck _)
  .exact absurd e (by show¬H.objs.size<=_;rw[hHs];exact Nat.not_succ_le_self _)
 have hS1:=W.old _ _ hS;refine Qaa ?_;show wpAny _ A.in1 (updateSeq s.heap.objs.size (·.push .none) >>= λ_=>updateSeq s.heap.objs.size (·.pop)) _ _ _;refine Qaa (Qfh (s:={s with heap:=h1,drawn:=d}) hS1 U ?_);have hS2:=Qbf (Obj.mapSeq (·.push Value.none)) hS1 rfl;refine Qfh (s:={s with heap:=h1.update s.heap.objs.size (Obj.mapSeq (·.push Value.none)),drawn:=d}) hS2 U ?_;have hS3:=Qbf (Obj.mapSeq (·.pop)) hS2 rfl;have oth:∀b o,b≠s.heap.objs.size->h1.get? b=some o->
   ((h1.update s.heap.objs.size (Obj.mapSeq (·.push Value.none))).update s.heap.objs.size (Obj.mapSeq (·.pop))).get? b=some o:=
  λb o O e=>(Qbx _ _ (Qdx O)).trans ((Qbx _ _ (Qdx O)).trans e)
 refine Qae ⟨Qeb F.plain_extend_loop _,codeAny_extend_loopS (W.walks A.in1 hh).toS hz _ hnf _ es.size 0 _ _ _ U (Qbe _)
  ((W.walks A hh).frame 0 _ _ W.st λb O o e=>oth b o (λh=>hnf (h ▸ O)) e) hS3 (ItemsOf.nil _) λs' L c' S Ua G=>?_⟩
 show wpAny _ A (load s.heap.objs.size >>= _) _ _ s';refine Qaa (wpAny_load Ua ?_);have N:L.toList=C.map (·.2):=by
  have hol:C.length=es.size:=by simpa using W.perm.length_eq
  apply List.ext_getElem
  .rw[Qab,Qb0,G.1,hol]
  .intro i i1 i2;rw[Qb0]at i1;obtain⟨e,he,hv⟩:=G.2 i L[i] (Qco i1);rw[Array.getElem_toList,hv,List.getElem_map];rw[Qab]at i2;rw[Qac i2]at he;rw[Option.some.inj he]
 have eg:s'.gens=s.gens:=S.gens;have ed:s'.drawn=d:=S.drawn;have eo:s'.os=s.os:=S.os;refine Qae ?_;have:=hQ s'.heap s'.drawn s'.toks C (λb ob e=>?_) ?_ W.perm
 .rw[<-N,<-eg,<-eo]at this;exact this
 .have D:=Qav e;refine S.heap b ob (λO=>?_) (oth b ob (Qbc D) (W.old b ob (r b ob e)));rcases Qas.mp O with h|h
  .exact absurd D (h ▸ Qck _)
  .rw[Qao.mp h]at D;have:=W.new;exact absurd D (Qg2.mpr (Qa1 (by rw[hHs];exact Qem _) this))
 .exact Qa0 (Qav Ua)
theorem Gg:∀{l:List (Int×Av)},ElemsOf (PySem.strKind prog w) l->StrsAre (l.map (·.2)) (l.map λe=>tx e.2)
 |[],_=>.nil
 |e::l,h=>by
  obtain⟨_,t,r⟩:=g9 h (Qaj);rw[Qbw,r];exact .cons _ t (Gg h.tail)
def Zac{led:Bool}(hh:A.handled=none)(hS:x9 prog w s.heap a (!kD w) N)(h64:N.length<64)
  (h:∀(h':Heap)(d:Drawn)(tk:Nat)(l:Aw)(I:Ah)(G:Ai)(e:Nat),StrsAre I.toList G->G.Perm N->sortedS G=true->(∀b o,s.heap.get? b=some o->h'.get? b=some o)->s.heap.objs.size<=l->
   h'.get? l=some (seqObj "list" I e)->Q (.ref l) {s with heap:=h',drawn:=d,toks:=tk}):
  A9 prog w A (call (.builtin "sorted") [.ref a]) Q E s:=by
 obtain⟨o,es,ep,t,ho,Y,hd,Z,hp,hf,hl,Ua⟩:=hS;have hn:es.size=N.length:=by rw[<-hp.length_eq,Qab,Qb0]
 refine Calls.call_function_entry kind_sorted plain_sorted entry_sorted (args_sorted1 _) ?_;refine Qaa (Qae ?_);refine Qaa (kX (A:=A.in1) hh ⟨o,ho,Y,hd,hf⟩ hl Ua (Qgy (by unfold scanBound;lia)) λh1 d tk S L hsz r=>?_);have O:(S.map (·.2)).length<64:=by rw[Qab,r.length_eq,Qb0];lia
 have C:=Gg (Z.perm r);generalize hV:S.map (·.2)=vs at O C ⊢;refine Qaa (wpAny_newList ?_);have D:(h1.push _).get? h1.objs.size=some (seqObj "list" vs.toArray 0):=Qam _ rfl;refine Qaa (Qcb (Qbd slot_list_sort ⟨_,D,U⟩ entry_list_sort (list_sort_treeK strKind_oneLt D C.keysOf (λv₁ v₂ rest e=>keyKind_strs (by rw[<-e];exact C)) O λst' a1 a2=>⟨_,U,?_⟩) (args_list_sort _)));obtain⟨G,b1,b2,b3⟩:=sorted_out_str C a1 a2;obtain⟨e,he⟩:=sortedHeap_at (vs:=vs) (n:=0) D;refine Qae ⟨_,U,h _ d tk h1.objs.size _ G e b1 (b2.trans ((r.map _).trans hp)) b3 (λb ob hb=>?_) hsz he⟩;have M:=Qbj (Qav hb) hsz;rw[sortedHeap_old (Qbc M) (by rw[size_push'];exact Qd1 M)];exact Qad _ (L b ob hb)
end
def TxO(P:Aq)(w:Au)(a:Aw)(S:Ai):HO:=.ext λh=>x9 P w h a (!kD w) S
theorem Inv.drew(I:Inv X m c H s)(d:Drawn):Inv X m c H {s with drawn:=d}:=
 ⟨I.ok,I.os,I.bare,I.base,I.loc,I.cell,I.free,I.freeC,I.pin,I.hok,I.len⟩
def vi (N:X.calm=true):Xf X (.type "set") (λxs H Q=>∃(p:Aw)(D:Ai),xs=[.ref p]/\SqL X.K H p (D.map V.str)/\D.length<4000 /\
  ∀a:Aw,H a=none->Q (.ref a) (upd H a (TxO X.prog X.w a (Wn D)))):=by
 intro pins s σ H xs us Q I r h;obtain⟨p,D,rfl,M,hn,q⟩:=h;obtain⟨u,rfl,Z⟩:=vals1 r;cases Z;obtain⟨S,L,pl,hz⟩:=I.list M;have C:=L.length;rw[Qab]at C;refine zI (I.ok.hd N) pl.isList (by simpa using uS L) (by rw[Qbn];unfold scanBound;lia) λh' tk O G Y=>⟨.ref _,_,I.laid (λb o e=>Y b o (Qav e) e) (Qah _) ?_,U,q _ (I.hok.fresh (Qah _))⟩;obtain⟨o,es,ep,t,Ua,rest⟩:=id G;exact⟨G,⟨o,Ua⟩,λh1 h2 x k=>GO x k⟩
def Gh (Z:X.calm=true):Xf X (.builtin "sorted") (λxs H Q=>∃(a:Aw)(S:Ai),xs=[.ref a]/\H a=some (TxO X.prog X.w a S)/\S.length<64 /\
  ∀(l:Aw)(C:Ai),H l=none->C.Perm S->sortedS C=true->Q (.ref l) (upd H l (.lst (C.map V.str)))):=by
 intro pins s σ H xs us Q I r h;obtain⟨a,S,rfl,M,O,q⟩:=h;obtain⟨u,rfl,rx⟩:=vals1 r;cases rx;refine Zac (led:=true) (I.ok.hd Z) (I.hok a _ M).1 O λh' d tk l Ua N e hi D L Y G he=>⟨.ref l,_,(I.drew d).laid Y G ?_,U,q _ N (I.hok.fresh G) D L⟩;have hm:=D.length_eq;exact⟨by rw[Qab];exact Qa0 (Z3 (by lia)),_,e,WW hi,by simpa using he⟩
def Zjw{y:Str}(h1:ltCps x.cps.toList y.cps.toList=false)(h2:ltCps y.cps.toList x.cps.toList=false):x=y:=by
 rw[ltCps_eq]at h1 h2;cases x;cases y;simp;exact Array.toList_inj.mp (List.le_antisymm (Qfi h2) (Qfi h1))
def Zfz{y z:Str}(h1:ltCps y.cps.toList x.cps.toList=false)(h2:ltCps z.cps.toList y.cps.toList=false):ltCps z.cps.toList x.cps.toList=false:=by
 rw[ltCps_eq]at h1 h2 ⊢;refine Qan ((List.le_trans (Qfi h1) (Qfi h2)))
theorem GP:∀(p:Str)(l:Ai),risingS p l=true->∀y∈l,ltCps y.cps.toList p.cps.toList=false
 |p,[],_,y,C=>nomatch C
 |p,x::r,h,y,C=>by
  have h':(!ltCps _ _&&risingS x r)=true:=h;rw[Qby,Bool.not_eq_true']at h';rcases Qas.mp C with rfl|C
  .exact h'.1
  .exact Zfz h'.1 (GP x r h'.2 y C)
def xD{p:Str}{l:Ai}(h:sortedS (p::l)=true):sortedS l=true:=by
 cases l with
 |nil=>rfl
 |cons x r=>
  have h':(!ltCps _ _&&risingS x r)=true:=h;rw[Qby]at h';exact h'.2
theorem js:∀(l m:Ai),sortedS l=true->sortedS m=true->l.Perm m->l=m
 |[],m,_,_,p=>by rw[List.nil_perm.mp p]
 |x::l,m,h1,h2,p=>by
  cases m with
  |nil=>exact absurd (List.perm_nil.mp p) (by simp)
  |cons y m=>
   have r:x=y:=by
    have C:=p.mem_iff.mp Qaj;have D:=p.mem_iff.mpr Qaj;rcases Qas.mp C with e|C
    .exact e
    .rcases Qas.mp D with e|D
     .exact e.symm
     .exact Zjw (GP y m h2 x C) (GP x l h1 y D)
   subst r;rw[js l m (xD h1) (xD h2) (p.cons_inv)]
def Zjx{y:Str}:y∈ins N x↔y∈N\/y=x:=by
 unfold ins;split
 .grind
 .simp
def Zcs(h:N.Nodup):(ins N x).Nodup:=by
 unfold ins;split
 .exact h
 .grind
theorem jX:∀(ys S:Ai),S.Nodup->(ys.foldl ins S).Nodup/\∀y,y∈ys.foldl ins S↔y∈S\/y∈ys
 |[],S,h=>⟨h,λy=>by simp⟩
 |x::r,S,h=>by
  obtain⟨a,b⟩:=jX r _ (Zcs h);refine⟨a,λy=>(b y).trans ?_⟩;rw[Zjx,Qas,or_assoc]
def kY(ys:Ai):(Wn ys).Nodup:=(jX ys [] Qbu).1
def Zct{ys:Ai}{y:Str}:y∈Wn ys↔y∈ys:=((jX ys [] Qbu).2 y).trans (by simp)
def vj{xs:A8}{is:Aj}(p:V->Bool)(S:Hp->Hp->Prop)(N:∀H,S H H)(st:∀H1 H2 M,S H1 H2->S H2 M->S H1 M)(Ua:∀H1,S H H1->SqT K H1 a xs)(Z:xs.length<=sizeLine)
  (O:∀x∈xs,∀H1,S H H1->∀R:Bool->Hp->Prop,(∀H2,S H1 H2->R (p x) H2)->G (zF is c (some x)) H1 R)
  (Q:∀x∈xs,∀H1,∀R:VK,R x H1->d (zF is c (some x)) H1 R)
  (Y:∀H1 l,S H H1->H1 l=none->I (.ref l) (upd H1 l (.lst (xs.filter p)))):GN is G d c I (Itt K a) H:=by
 refine Wj (xs:=xs) (λi zs H'=>zs=(xs.take i).filter p/\S H H') ⟨U,N H⟩ ?_ ?_ ?_ ?_
 .grind
 .grind
 .rintro i x zs H' R hR r ⟨rfl,C⟩;have L:=Qat r;have e:=take_snoc r;refine O x L H' C _ λH2 D=>?_;cases hp:p x with
  |true=>
   refine(Qa5 U) ▸ Q x L H2 _ (hR _ _ ⟨?_,st _ _ _ C D⟩);rw[e,Qdt,Qcl,Qa5 hp];rfl
  |false=>
   refine(Qaw Qba) ▸ hR _ _ ⟨?_,st _ _ _ C D⟩;rw[e,Qdt,Qcl,Qaw (by grind)];simp
 .grind
abbrev XS(o:Obj):HO:=.frz o (.ext λ_=>True)
def GQ{o:Obj}(e:h.get? a=some o):YY P w H h a (XS o):=⟨e,trivial,⟨o,e⟩,λ_ _ _ _=>trivial⟩
def hide(cs:List Aw)(H:Hp):Hp:=λb=>if b∈cs then none else H b
def Wv(cs:List Aw)(H H':Hp):Hp:=λb=>if b∈cs then H b else H' b
def YK{b:Aw}(h:b∈D):hide D H b=none:=Qa5 h
def ZE{b:Aw}(h:b∉D):hide D H b=H b:=Qaw h
def WZ{H':Hp}{b:Aw}(h:b∈D):Wv D H H' b=H b:=Qa5 h
def Yo{H':Hp}{b:Aw}(h:b∉D):Wv D H H' b=H' b:=Qaw h
def of_hide{b:Aw}{o:HO}(h:hide D H b=some o):b∉D/\H b=some o:=by
 by_cases m:b∈D
 .rw[YK m]at h;cases h
 .rw[ZE m]at h;exact⟨m,h⟩
def GR(H H1:Hp):Prop:=∀b o u,H b=some (.frz o u)->H1 b=some (.frz o u)
def GR.refl(H:Hp):GR H H:=λ_ _ _ h=>h
def GR.trans{H2:Hp}(a:GR H B)(b:GR B H2):GR H H2:=λc o u h=>b c o u (a c o u h)
def Z7.frz{H H1:Hp}(a:Z7 H H1):GR H H1:=λb o u h=>a b _ h
def YX(P:Aq)(w:Au)(K:Af)(mg:Ae)(base:Heap)(k:Nat)(f:Aw)(H:Hp)(τ:Sp):Prop:=
 (∃o fd,H f=some (XS o)/\o.data=.func fd) /\
 ∀(A:Ar)(outer:List Env)(s:As)(H1:Hp)(r:Ag)(vs:A8)(Q:VK)(E:XK),GR H H1->WL k A->Zjb P w K mg base A outer s H1->Vals vs r->τ vs H1 Q E->
  codeAny (model P w) A (.call (.ref f) ⟨r,[]⟩) (CR CX0 outer P w H1 s Q E) s
theorem YX.frz{P:Aq}{w:Au}{K:Af}{mg:Ae}{base:Heap}{k:Nat}{f:Aw}{H H1:Hp}{τ:Sp}(c:YX P w K mg base k f H τ)(h:GR H H1):YX P w K mg base k f H1 τ:=
 ⟨let⟨o,fd,e,d⟩:=c.1;⟨o,fd,h _ _ _ e,d⟩,λA outer s H2 r vs Q E C=>c.2 A outer s H2 r vs Q E (h.trans C)⟩
section
variable {P:Aq}{w:Au}{H H':Hp}{h h':Heap}{cs:List Aw}
theorem kZ(x:HOk P w H h)(C:∀c∈cs,∃o,H c=some (XS o)):HOk P w (hide cs H) h:=λa o e=>by
 obtain⟨_,r⟩:=of_hide e;refine(x a o r).stay (λ_ _ _ q=>q) (λd q=>?_) λd xs q=>?_
 .by_cases m:d∈cs
  .grind
  .rw[ZE m];exact q
 .by_cases m:d∈cs
  .grind
  .rw[ZE m];exact q
theorem Zcu(x:HOk P w H' h')(C:∀c∈cs,H' c=none)(r:∀c∈cs,∃o,H c=some (XS o)/\h'.get? c=some o):HOk P w (Wv cs H H') h':=λa o e=>by
 by_cases m:a∈cs
 .rw[WZ m]at e;obtain⟨ob,z,g⟩:=r a m;rw[z]at e;cases e;exact GQ g
 .rw[Yo m]at e;refine(x a o e).stay (λ_ _ _ q=>q) (λd q=>?_) λd xs q=>?_
  .by_cases m:d∈cs
   .rw[C d m]at q;cases q
   .rw[Yo m];exact q
  .by_cases m:d∈cs
   .rw[C d m]at q;cases q
   .rw[Yo m];exact q
end
structure Zme(scope:Scope)(ps ys:Ai):Prop where
 kind:scope.kind=.function
 co:scope.isCoroutine=false
 gen:scope.isGenerator=false
 cell:∀y∈scope.names,y.2≠.cell
 par:∀p∈ps,scope.names.lookup p=some .local
 free:∀y∈ys,scope.names.lookup y=some .free
 nd:(ps++ys).Nodup
def cxL(P:Aq)(w:Au)(K:Af)(mg:Ae)(base:Heap)(N:Ai)(qual:Str)(scope:Scope)(f:Aw)(r:Av)(cl:List (Str×Aw))(A:Ar)(outer:List Env)(s:As)(H:Hp):Cx where
 prog:=P
 w:=w
 K:=K
 mg:=mg
 base:=base
 A:=A.deeper (PySem.W.envX qual scope s.heap.objs.size f r cl)
 N:=N
 s₀:=s
 H₀:=H
 env:=PySem.W.envX qual scope s.heap.objs.size f r cl
 outer:=outer
 stack:=PySem.W.envX qual scope s.heap.objs.size f r cl::outer
 ex:=[]
 calm:=true
 fn:=λ_=>false
 pn:=[]
 xe:=λ_ _=>False
def Zmf(n:Nat)(te:TE)(cs:List Aw)(r:List (Option V)):Sp:=λvs H Q _=>vs.length=n/\te (vs.map some++r) (hide cs H) λv H'=>(∀c∈cs,H' c=none)->Q v (Wv cs H H')
theorem jt{ps:Ai}(M:ps.Nodup)(h1:ps[i]?=some x)(h2:Ua[i]?=some u)(O:ps.length=Ua.length):(ps.zip Ua).reverse.lookup x=some u:=by
 have L:(x,u)∈ps.zip Ua:=by
  obtain⟨a1,e1⟩:=Qaf.mp h1;obtain⟨a2,e2⟩:=Qaf.mp h2;rw[<-e1,<-e2,<-Qg9 (h:=by grind)];exact Qbi _
 have I:((ps.zip Ua).map (·.1)).Nodup:=by
  rw[List.map_fst_zip (by lia)];exact M
 have C:((ps.zip Ua).reverse.map (·.1)).Nodup:=by
  grind
 have D:=List.mem_reverse.mpr L;generalize (ps.zip Ua).reverse=l at C D
 induction l with
 |nil=>cases D
 |cons p r N=>
  obtain⟨n,v⟩:=p;rcases Qas.mp D with e|G
  .grind
  .grind
section
variable {P:Aq}{w:Au}{K:Af}{mg:Ae}{base:Heap}
theorem gC{A:Ar}{outer:List Env}{s':As}{H':Hp}{v:V}(Y:Zjb P w K mg base A outer s H)(r:∀c∈D,∃o v,H c=some (XS o)/\o.data=.cell v/\s.heap.get? c=some o)
  (os:s'.os=s.os) (C:AllBare s'.gens) (b:Un (frs outer) [] (hide D H) H' s.heap s'.heap) (N:HOk P w H' s'.heap) (S:RelV v u) (q:(∀c∈D,H' c=none)->I v (Wv D H H')):CE outer P w H s I u s':=by
 have L:∀c∈D,∃o,H c=some _:=λc m=>let⟨o,_,e,_⟩:=r c m;⟨o,e⟩;have M:∀c∈D,c∉frs outer:=λc m z=>by
  obtain⟨o,e⟩:=L c m;rw[Y.frf c z]at e;cases e
 have Q:∀c∈D,H' c=none:=λc m=>by
  obtain⟨o,v,e,d,g⟩:=r c m;exact b.free c o g (YK m) (λz=>nomatch z)
 have hh:∀d,H d=none->hide D H d=none:=λd n=>by
  by_cases m:d∈D
  .exact YK m
  .rw[ZE m];exact n
 have nm:∀d o,H d=some o->(∀ob,o≠XS ob)->d∉D:=λd o e ne m=>by
  grind
 refine⟨v,_,os,C,⟨λd o e n O G=>b.keep d o e (hh d n) O G,λd o e n O G=>b.slot d o e (hh d n) O G,λd o e n G=>?_,b.there,λd xs e=>?_,λd o u e=>?_,λd Ua e=>?_⟩,Zcu N Q λc m=>?_,S,q Q⟩
 .by_cases m:d∈D
  .rw[WZ m];exact n
  .rw[Yo m];exact b.free d o e (hh d n) G
 .have m:=nm d _ e (λob z=>nomatch z);rw[Yo m];exact b.tups d xs (by rw[ZE m];exact e)
 .by_cases m:d∈D
  .rw[WZ m];exact e
  .rw[Yo m];exact b.frzs d o u (by rw[ZE m];exact e)
 .have m:=nm d _ e (λob z=>nomatch z);rw[Yo m];exact b.tbls d Ua (by rw[ZE m];exact e)
 .obtain⟨o,v,e,d,g⟩:=r c m;exact⟨o,e,b.keep c o g (YK m) (M c m) (λz=>nomatch z)⟩
theorem vk{k:Nat}{c':Aw}{name qual:Str}{params:Arguments}{body:Ax}{scope:Scope}{cl:List (Str×Aw)}{pm ctv:Av}{ps ys:Ai}{cv:List (Option V)}
  (S:Zme scope ps ys) (hf:H f=some (XS (PySem.W.kla_obj name qual params body scope cl pm c' ctv))) (hc:H c'=some (XS L)) (hoc:∃vs t,L.data=.fields vs/\vs[1]?=some (.str qual t))
  (hcl:∀x c,cl.lookup x=some c->c∈D) (hcs:∀c∈D,∃o v,H c=some (XS o)/\o.data=.cell v)
  (inj:∀x y c,cl.lookup x=some c->cl.lookup y=some c->x=y) (has:∀x,scope.names.lookup x=some .free->∃c,cl.lookup x=some c)
  (hcv:cv.length=ys.length) (hval:∀(i:Nat)(y:Str)(v:V),ys[i]?=some y->cv[i]?=some (some v)->∃c o u,cl.lookup y=some c/\H c=some (XS o)/\o.data=.cell (some u)/\RelV v u)
  (hb:∀us:Ag,us.length=ps.length->bindArgs (PySem.W.kla_fn name qual params body scope cl pm (.ref c') ctv) ⟨us,[]⟩=pure (ps.zip us))
  (Z:∀(A:Ar)(outer:List Env)(s:As)(H1:Hp),WL k (A.deeper (PySem.W.envX qual scope s.heap.objs.size f (.ref c') cl))->PE (cxL P w K mg base (ps++ys) qual scope f (.ref c') cl A outer s H1) body M):
  YX P w K mg base (k+1) f H (Zmf ps.length M D cv):=by
 refine⟨⟨_,_,hf,U⟩,?_⟩;intro A outer s H1 us vs Q E fz hr C r ht;obtain⟨hl,ht⟩:=ht;have N:∀c∈D,∃o v,H1 c=some (XS o)/\o.data=.cell v/\s.heap.get? c=some o:=λc m=>by
  obtain⟨o,v,e,d⟩:=hcs c m;exact⟨o,v,fz _ _ _ e,d,(C.hok c _ (fz _ _ _ e)).1⟩
 obtain⟨vs0,t0,hd0,hv0⟩:=hoc;have lim:s.heap.NoLimit:=C.mod.nolimit.keeps λb o e=>(C.bs b o e).1;have lus:us.length=ps.length:=by rw[<-r.length];exact hl
 refine PySem.W.kla_callFunE hr.depth (C.hok f _ (fz _ _ _ hf)).1 rfl S.co S.gen U ⟨c',L,vs0,t0,U,(C.hok c' _ (fz _ _ _ hc)).1,hd0,hv0⟩ ?_;rw[hb us lus];refine Qae (wpAny_newFunctionEnv S.cell (λx hx=>S.par _ (Qdz hx).1) (λUa hns hsb=>⟨lim.fresh _ hsb,?_⟩) S.kind);have O:∀b o,s.heap.get? b=some o->Ua.get? b=some o:=λb o e=>hsb.extBut b o (Qbc (Qav e)) (Qad _ e);have ndp:ps.Nodup:=(Qd5.mp S.nd).1;have I:Inv (cxL P w K mg base (ps++ys) qual scope f (.ref c') cl A outer s (hide D H1)) [] (vs.map some++cv) (hide D H1) {s with heap:=Ua,toks:=s.toks+(ps.zip us).length}:=by
  have Y:∀b:Aw,b∉([]:List Aw):=λb z=>nomatch z;refine⟨⟨C.mod,S.kind,U,U,Qah _,inj,λy hy=>?_,(λy c h=>by cases h),λ_=>hr.hd,Qf1 C.frames,.inr ⟨U,U⟩,λb z=>absurd z (Y b),λb o e=>⟨(C.bs b o e).1,?_⟩,C.bsz,λb _ _=>Y b,λb z=>absurd z (Y b),C.funs,λb hb=>?_⟩,
   rfl,C.bare,Un.kept O,⟨_,hns,λi y v h1 h2 h3=>?_⟩,λy c h=>?_,?_,λy c h=>YK (hcl y c h),λp hp=>absurd (show p∈([]:Ac)from hp) (by simp),(kZ C.hok λc m=>let⟨o,_,e,_⟩:=N c m;⟨o,e⟩).kept O,?_⟩
  .rcases hy with hy|hy
   .exact absurd U (S.cell _ (Qce hy))
   .exact has y hy
  .by_cases m:b∈D
   .exact YK m
   .exact(ZE m).trans (C.bs b o e).2
  .by_cases m:b∈D
   .exact YK m
   .exact(ZE m).trans (C.frf b hb)
  .by_cases hi:i<vs.length
   .have ha:vs[i]?=some v:=by
     grind
    obtain⟨u,hu,rv⟩:=r.get ha;have G:(ps++ys)[i]?=some y:=h1;rw[Qa6 (by lia)]at G;exact⟨u,rv,.inl ⟨S.par y (Qat G),jt ndp G hu lus.symm⟩⟩
   .rw[Qax (by simpa using hi),Qab]at h2;have G:(ps++ys)[i]?=some y:=h1;rw[Qax (by lia),<-hl]at G;obtain⟨c,o,u,e1,e2,e3,rv⟩:=hval _ y v G h2;refine⟨u,rv,.inr ⟨.inr (S.free y (Qat G)),c,e1,o,O _ _ (C.hok c _ (fz _ _ _ e2)).1,e3⟩⟩
  .obtain⟨o,v,_,d,g⟩:=N c (hcl y c h);exact⟨v,o,O _ _ g,d⟩
  .show hide D H1 s.heap.objs.size=none
   by_cases m:s.heap.objs.size∈D
   .exact YK m
   .rw[ZE m];exact C.hok.fresh (Qah _)
  .show(vs.map some++cv).length=(ps++ys).length;rw[Qag,Qag,Qab,hl,hcv]
 refine PySem.W.kla_codeExpr (Qdb (Z A outer s (hide D H1) (hr.deeper _) [] _ _ _ _ I ht) (λu s' hs=>?_) λ_ _ z=>z.elim);obtain⟨v,H',J,rv,q⟩:=hs;exact gC C N J.os J.bare J.base J.hok rv q
end
def ju(oc:Obj)(qual:Str):Prop:=∃vs t,oc.data=.fields vs/\vs[1]?=some (.str qual t)
def Yw(H:Hp)(P:Aw)(pos:Pos)(qual:Str):Prop:=
 H P=some (.tbl #[])\/∃c' oc,H P=some (.tbl #[rawInt pos.line,rawInt pos.col,.ref c'])/\H c'=some (XS oc)/\ju oc qual
def Yw.ex{P:Aw}{qual:Str}(h:Yw H P p qual):∃ps,H P=some (.tbl ps):=by
 rcases h with h|⟨_,_,h,_⟩<;>exact⟨_,h⟩
structure jY(mg:Ae)(base:Heap):Prop where
 ex:∃bm ob,mg "__builtins__" = some (.ref bm)/\bm≠builtinsNs/\base.get? bm=some ob/\ob.cls=.type "module" /\ ob.dict=some builtinsNs/\ob.data=.plain
def tLam(P:Aw)(lpos:Pos)(qual:Str)(r:Aw->Value->Obj):TE:=λ_ H Q=>Yw H P lpos qual /\
 ∀(f c':Aw)(oc:Obj)(C:Av)(H2:Hp),H f=none->H2 f=some (XS (r c' C))->H2 c'=some (XS oc)->ju oc qual->Yw H2 P lpos qual->(∀b o,H b=some o->b≠P->H2 b=some o)->Q (.ref f) H2
def gD{X:Cx}{P c':Aw}{lpos:Pos}{fo:Obj}{tk:Nat}(I:Inv X m c H s)(C:H P=some (.tbl #[]))(O:Heap.ExtBut P s.heap h)(N:s.heap.objs.size<=c')(Z:c'<h.objs.size)(S:h.get? c'=some L)
  (D:h.get? P=some (PySem.W.tabObj #[rawInt lpos.line,rawInt lpos.col,.ref c'])) (Q:fo.isFreed=false:=by rfl):Inv X m c (upd (upd (upd H P (.tbl #[rawInt lpos.line,rawInt lpos.col,.ref c'])) c' (XS L)) h.objs.size (XS fo)) {s with heap:=h.push fo,toks:=tk}:=by
 have G:=I.hok.fresh N;have Ua:c'≠P:=λe=>by grind
 have Y:Inv X m c (upd (upd H P (.tbl #[rawInt lpos.line,rawInt lpos.col,.ref c'])) c' (XS L)) {s with heap:=h,toks:=tk}:=by
  refine I.un ⟨λb o e n _ _=>O b o (λz=>by grind) e,λb o e n _ _=>⟨o.slots,O b o (λz=>by grind) e⟩,λb o e n _=>?_,λb o e _=>?_,λb xs e=>?_,λb o u e=>?_,λb pz e=>?_⟩ λb u e=>?_
  .rw[Zj ((λe z=>absurd (Qav e) (by rw[z];exact Qg2.mpr N)) e),Zj (λz=>by grind)];exact n
  .by_cases r:b=P
   .rw[r];exact⟨_,D⟩
   .exact⟨o,O b o r e⟩
  .rw[Zj (Zm e G),Zj (ZY e C (λz=>nomatch z))];exact e
  .rw[Zj (Zm e G),Zj (ZY e C (λz=>nomatch z))];exact e
  .by_cases r:b=P
   .subst r;rw[C]at e;cases e;exact⟨#[rawInt _,rawInt _,.ref c'],by rw[Zj Ua.symm,Za];rfl⟩
   .exact⟨#[],by rw[Zj (Zm e G),Zj r,e];simp⟩
  .by_cases M:b=c'
   .subst M;rw[Za]at e;cases e;exact GQ S
   .rw[Zj M]at e
    by_cases r:b=P
    .subst r;rw[Za]at e;cases e;exact D
    .rw[Zj r]at e;refine(I.hok b u e).stay (λd v hd q=>O d v ?_ q) (λd q=>?_) λd xs q=>?_
     .grind
     .rw[Zj (Zm q G),Zj (ZY q C (λz=>nomatch z))];exact q
     .rw[Zj (Zm q G),Zj (ZY q C (λz=>nomatch z))];exact q
 exact Y.laid (λb u e=>Qad _ e) (Qah _) (GQ (Qam _ Q))
section
variable {X:Cx}{params:Arguments}{body:Ax}{scope:Scope}{lpos:Pos}{c P:Aw}{qual:Str}
abbrev vl (X:Cx) (qual:Str) (params:Arguments) (body:Ax) (scope:Scope):Aw->Value->Obj:=λc' r=>PySem.W.kla_obj "<lambda>" qual params body scope (ji X.env.cells scope.names []) ((X.mg "__name__").getD .none) c' r
def Zcv (D:X.env.code=.ref c) (C:PySem.W.CodeHd X.base c P) (B:jY X.mg X.base) (Z:defaultsOf params X.env=([],[])) (hq:X.env.qual ++ "<lambda>" = qual)
  (S:∀y∈scope.names,y.2=.free->X.env.scope.names.lookup y.1=some .cell):
  PE X (.Lambda params body scope lpos) (tLam P lpos qual (vl X qual params body scope)):=by
 intro pins s σ H Q I hw;obtain⟨L,Y⟩:=hw;refine PySem.W.kla_eval Z ?_;rw[hq];have hcl:=Jv λy hy h=>I.ok.has y.1 (.inl (S y hy h));have hg:=I.mod.glob.keeps I.bk;obtain⟨pz,hPs⟩:=L.ex;have N:X.base.get? P=none:=by
  cases e:X.base.get? P with
  |none=>rfl
  |some o=>rw[(I.bs P o e).2]at hPs;cases hPs
 have hgP:mainGlobals≠P:=λe=>by
  obtain⟨o,es,ep,g,_⟩:=I.mod.glob;rw[e,N]at g;cases g
 have hb:s.heap.BuiltinsAt X.mg P:=by
  obtain⟨bm,ob,b1,b2,b3,b4,b5,b6⟩:=B.ex;refine⟨bm,ob,b1,b2,λe=>?_,(λe=>by grind),I.bk _ _ b3,b4,b5,b6⟩;obtain⟨o,es,ep,g,Ua,_⟩:=I.mod.glob;rw[<-e,b3]at g;cases g;rw[b6]at Ua;cases Ua
 rcases L with L|⟨c',oc,L,hc',G⟩
 .have hP:=I.hok P _ L;refine PySem.W.kla_makeFunction (mg:=X.mg) (ps:=#[]) hcl I.ok.glob hg D (C.keeps I.bk) hP trivial U hgP hb λc' r h' tk hx M O hrec htb=>?_;obtain⟨c₂,oc,vs,t,e2,G,Ua,hv⟩:=hrec;cases e2;have cn:H c'=none:=I.hok.fresh M;have cP:c'≠P:=λe=>by grind
  have hsz:=Qa1 M (Qa0 O);have I2:=gD (lpos:=lpos) (fo:=vl X qual params body scope c' r) (tk:=tk) I L hx M O G htb;have fn:=I.hok.fresh hsz;have fc:=Qbc O;refine⟨.ref h'.objs.size,_,I2,U,Y _ c' oc r _ fn Za ?_ ⟨vs,t,Ua,hv⟩ (.inr ⟨c',oc,?_,?_,⟨vs,t,Ua,hv⟩⟩) λb o e hbP=>?_⟩
  .rw[Zj fc];exact Za
  .rw[Zj (Zm L fn),Zj cP.symm];exact Za
  .rw[Zj fc];exact Za
  .rw[Zj (Zm e fn),Zj (Zm e cn),Zj hbP];exact e
 .have hP:=I.hok P _ L;have hf:codeAmong lpos (#[rawInt lpos.line,rawInt lpos.col,.ref c']:Ah).toList=some (.ref c'):=by
   show(if((lpos.line:Int) == lpos.line&&(lpos.col:Int) == lpos.col)=true then some (Value.ref c')else _)=_;rw[Qct,Qct];rfl
  refine PySem.W.kla_makeFunctionHit (mg:=X.mg) hcl I.ok.glob hg D (C.keeps I.bk) hP trivial hf hb λr h' tk hk hsz=>?_;have I2:=I.laid (t':=tk) (o:=XS (vl X qual params body scope c' r)) (λb u e=>Qad _ (hk b u e)) hsz (GQ (Qam _ U));have fn:=I.hok.fresh hsz;have sm:∀b o,H b=some o->upd H h'.objs.size (XS (vl X qual params body scope c' r)) b=some o:=λb o e=>by rw[Zj (Zm e fn)];exact e
  exact⟨.ref h'.objs.size,_,I2,U,Y _ c' oc r _ fn Za (sm _ _ hc') G (.inr ⟨c',oc,sm _ _ L,sm _ _ hc',G⟩) λb o e _=>sm b o e⟩
end
def cellsOf(cells:List (Str×Aw)):List Aw:=(cells.map (·.1)).filterMap λx=>cells.lookup x
def YR{cells:List (Str×Aw)}{c:Aw}:c∈cellsOf cells↔∃x,cells.lookup x=some c:=by
 unfold cellsOf;rw[Qgl];constructor
 .grind
 .rintro⟨x,h⟩;exact⟨x,Qap.mpr ⟨(x,c),Qce h,U⟩,h⟩
def Zcw(X:Cx)(s:As)(H:Hp):Hp:=λb=>if b∈cellsOf X.env.cells then(s.heap.get? b).map XS else H b
section
variable {X:Cx}{pins:Ac}{σ:St}{H:Hp}{s:As}
theorem jZ(I:Inv X pins σ H s):∀d∈cellsOf X.env.cells,∃o v,Zcw X s H d=some (XS o)/\o.data=.cell v/\s.heap.get? d=some o:=λd m=>by
 obtain⟨y,D⟩:=YR.mp m;obtain⟨v,o,r,C⟩:=I.cell y d D;exact⟨o,v,by unfold Zcw;rw[Qa5 m,r];rfl,C,r⟩
def Gi{d:Aw}(m:d∉cellsOf X.env.cells):Zcw X s H d=H d:=Qaw m
def XW(I:Inv X pins σ H s):∀d∈cellsOf X.env.cells,H d=none:=λd m=>let⟨y,hy⟩:=YR.mp m;I.freeC y d hy
theorem qZ(I:Inv X pins σ H s):∀b o,H b=some o->Zcw X s H b=some o:=λb o e=>by
 rw[Gi λm=>by rw[XW I b m]at e;cases e];exact e
def xE{k:Nat}{g:Aw}{gd:Ao}{sp:Sp}{vs:A8}(F:kC X.prog X.w X.K X.mg X.base CX0 k g gd N sp)(hr:WL k X.A)(Q:Binds X.K gd N [])(hfn:X.fn=λ_=>true)
  (C:Inv X pins σ H s) (rv:Vals vs Ua) (hsp:sp vs (Zcw X s H) (λv H3=>I v (hide (cellsOf X.env.cells) H3)) E0):Ba X (call (.ref g) Ua) (EP X pins σ I) X.xe s:=by
 have Y:=jZ C;have hn:=XW C;have G:=qZ C;have nloc:∀d∈cellsOf _,d≠X.env.locals:=λd m e=>by
  obtain⟨o,v,_,hd,g⟩:=Y d m;obtain⟨m',⟨o',es,ep,g',hd',_⟩,_⟩:=C.loc;rw[e,g']at g;cases g;rw[hd']at hd;cases hd
 have L:∀d∈cellsOf _,X.s₀.heap.objs.size<=d:=λd m=>by
  obtain⟨y,hy⟩:=YR.mp m;exact C.ok.cab y d (by rw[hfn]) hy
 have nfr:∀d∈cellsOf _,d∉frs X.stack:=λd m z=>by
  rcases Qas.mp (C.stkSub d z)with e|e
  .exact nloc d m e
  .obtain⟨_,o,g,_⟩:=C.ok.funs.mem e;exact absurd (Qav g) (Qg2.mpr (L d m))
 have hok3:HOk X.prog X.w (Zcw X s H) s.heap:=λb o e=>by
  by_cases m:b∈cellsOf X.env.cells
  .obtain⟨ob,v,e',hd,g⟩:=Y b m;rw[e']at e;cases e;exact GQ g
  .rw[Gi m]at e;exact(C.hok b o e).stay (λ_ _ _ q=>q) (λd q=>G _ _ q) λd xs q=>G _ _ q
 have e0:Zjb X.prog X.w X.K X.mg X.base X.A X.stack s (Zcw X s H):=by
  have z:=C.env0;refine⟨z.frames,z.mod,λb o e=>⟨(z.bs b o e).1,?_⟩,z.bsz,z.funs,λb Q=>?_,hok3,z.bare⟩
  .rw[Gi λm=>absurd (Qav e) (Qg2.mpr (Qa1 C.ok.bsz (L b m)))];exact(z.bs b o e).2
  .rw[Gi λm=>nfr b m Q];exact z.frf b Q
 refine wpAny_call (Qe6 (F.run X.A X.stack s _ _ Ua vs _ _ hr e0 (by simpa using Q s Ua C.kIn (by rw[Qbv,<-rv.length];exact F.len _ _ _ _ hsp)) rv hsp) λr s' Z=>?_);cases r with
 |error e=>exact Z.elim
 |ok fl=>
  cases fl with
  |next=>exact False.elim Z
  |brk=>exact False.elim Z
  |cont=>exact False.elim Z
  |ret uu=>
   obtain⟨v,H4,os,bare,un,O,rv4,q4⟩:=Z;have M:∀d∈cellsOf _,∃o,H4 d=some (XS o)/\s.heap.get? d=some o/\s'.heap.get? d=some o:=λd m=>by
    obtain⟨o,v,e,hd,g⟩:=Y d m;have e4:=un.frzs d o _ e;exact⟨o,e4,g,(O d _ e4).1⟩
   have D:∀d,H d=none->d∉cellsOf _->Zcw X s H d=none:=λd n m=>by rw[Gi m];exact n
   have nm:∀d o,H d=some o->d∉cellsOf X.env.cells:=λd o e m=>by grind
   refine⟨v,_,C.call' os ⟨λd o e n Q S=>?_,λd o e n Q S=>?_,λd o e n S=>?_,λd o e S=>un.there d o e S,λd xs e=>?_,λd o u e=>?_,λd pz e=>?_⟩ (kZ O λd m=>let⟨o,e,_⟩:=M d m;⟨o,e⟩) bare (λ_ z=>nomatch z),rv4,q4⟩
   .by_cases m:d∈cellsOf X.env.cells
    .obtain⟨o',_,g,g'⟩:=M d m;rw[e]at g;cases g;exact g'
    .exact un.keep d o e (D d n m) Q S
   .by_cases m:d∈cellsOf X.env.cells
    .obtain⟨o',_,g,g'⟩:=M d m;rw[e]at g;cases g;exact⟨o.slots,g'⟩
    .exact un.slot d o e (D d n m) Q S
   .by_cases m:d∈cellsOf X.env.cells
    .exact YK m
    .rw[ZE m];exact un.free d o e (D d n m) S
   .rw[ZE (nm d _ e)];exact un.tups d xs (G _ _ e)
   .rw[ZE (nm d _ e)];exact un.frzs d o u (G _ _ e)
   .rw[ZE (nm d _ e)];exact un.tbls d pz (G _ _ e)
def vm{scope:Scope}{ys:Ai}{is:Aj}{N0:Ai}(I:Inv X pins σ H s)(C:∀y∈scope.names,y.2=.free->X.env.scope.names.lookup y.1=some .cell)(D:∀y∈ys,scope.names.lookup y=some .free)(hN:∀q∈ys.zip is,X.N[q.2]?=some q.1)(O:ys.length=is.length):
  ∀(i:Nat)(y:Str)(v:V),ys[i]?=some y->(is.map λi=>(σ[i]?).getD none)[i]?=some (some v)->∃c o u,(ji X.env.cells scope.names []).lookup y=some c/\Zcw X s H c=some (XS o)/\o.data=.cell (some u)/\RelV v u:=by
 intro i y v h1 h2;have hcl:∀y d,(ji _ _ []).lookup y=some d->X.env.cells.lookup y=some d:=
  JY (λy hy h=>I.ok.has y.1 (.inl (C y hy h))) λ_ _ z=>by cases z
 rw[Qai]at h2;cases hj:is[i]? with
 |none=>rw[hj]at h2;cases h2
 |some j=>
  have M:σ[j]?=some (some v):=by
   grind
  have hz:(y,j)∈ys.zip is:=by
   obtain⟨a1,e1⟩:=Qaf.mp h1;obtain⟨a2,e2⟩:=Qaf.mp hj;rw[<-e1,<-e2,<-Qg9 (h:=by grind)];exact Qbi _
  have S:=D y (Qat h1);have Ua:X.env.kindOf y=some .cell:=C _ (gs S) rfl;obtain⟨m,hm',hl⟩:=I.loc;obtain⟨u,r,l⟩:=hl j y v (hN _ hz) M (.inr (.inl Ua));rcases l with⟨Q,_⟩|⟨_,d,l2,l3⟩
  .rw[Ua]at Q;cases Q
  .obtain⟨L,G⟩:=Jw (cells:=X.env.cells) (acc:=[]) S;have e:L=d:=by grind
   subst e;obtain⟨o,ho,Z⟩:=l3;obtain⟨o',v',e',_,Y⟩:=jZ I L (YR.mpr ⟨y,l2⟩);rw[ho]at Y;cases Y;exact⟨L,o,u,G,e',Z,r⟩
def Zjy{P:Aw}{lpos:Pos}{qual:Str}(I:Inv X pins σ H s)(T:Yw H P lpos qual)(L:Z7 (Zcw X s H) B):Yw (hide (cellsOf X.env.cells) B) P lpos qual:=by
 have r:∀b o,H b=some o->hide _ B b=some o:=λb o e=>by
  rw[ZE (λm=>by rw[XW I b m]at e;cases e)];exact L _ _ (qZ I _ _ e)
 rcases T with z|⟨G,C,M,N,D⟩
 .exact .inl (r _ _ z)
 .exact .inr ⟨G,C,r _ _ M,r _ _ N,D⟩
end
structure Zmg(S0 scope:Scope)(N0 ps ys:Ai)(is:Aj):Prop where
 sc:Zme scope ps ys
 free:∀y∈scope.names,y.2=.free->S0.names.lookup y.1=some .cell
 vis:∀q∈ys.zip is,N0[q.2]?=some q.1
 len:ys.length=is.length
section
variable {X:Cx}{params:Arguments}{body a:Ax}{scope:Scope}{lpos p pos:Pos}{c P g:Aw}{qual x:Str}{k kl:Nat}{gd:Ao}{pg ps ys:Ai}{is:Aj}{sp:Sp}{ta te:TE}
def Gj{b:Aw}{u:HO}(r:∀c∈D,∃o,H c=some (XS o))(s:Z7 H B)(h:B b=some u)(C:∀o,u≠XS o):hide D B b=some u:=by
 rw[ZE λm=>?_]
 .exact h
 .obtain⟨o,e⟩:=r b m;rw[s _ _ e]at h;exact C o (Option.some.inj h).symm
def Yw.other{H':Hp}{P:Aw}{qual:Str}(h:Yw H P E qual)(r:P≠f)(C:∃ps,H f=some (.tbl ps))(s:∀b o,H b=some o->b≠f->H' b=some o):Yw H' P E qual:=by
 rcases h with h|⟨c,oc,h1,h2,D⟩
 .exact .inl (s _ _ h r)
 .obtain⟨ps,e⟩:=C;exact .inr ⟨c,oc,s _ _ h1 r,s _ _ h2 (ZY h2 e (λz=>nomatch z)),D⟩
def Yw.same{H H':Hp}{P:Aw}{pos:Pos}{qual:Str}(h:Yw H P pos qual)(s:Z7 H H'):Yw H' P pos qual:=by
 rcases h with h|⟨c,oc,h1,h2,r⟩
 .exact .inl (s _ _ h)
 .exact .inr ⟨c,oc,s _ _ h1,s _ _ h2,r⟩
def tCallV(r:Aq)(w:Au)(K:Af)(mg:Ae)(base:Heap)(k:Nat)(i:Nat)(t:TA):TE:=λσ H Q=>∃(f:Aw)(τ:Sp),σ[i]?=some (some (.ref f))/\YX r w K mg base k f H τ /\
 t σ H λvs H1=>GR H H1/\τ vs H1 Q E0
theorem Zcx{P:Aq}{mg:Ae}{base:Heap}{k:Nat}{τ:Sp}(c:YX P w K mg base k f H τ)(C:GR H B)(r:HOk P w B h):PySem.W.FnAt f h:=by
 obtain⟨o,fd,e,d⟩:=c.1;have g:=(r f _ (C _ _ _ e)).1;obtain⟨oc,od,G,D⟩:=o;cases d;exact⟨oc,od,fd,D,g⟩
def Zf0(i:Nat){es:An}{t:TA}(hr:WL k X.A)(ha:QA X (e::es) t)(hN:X.N[i]?=some x:=by rfl)(hv:Vis X.env.scope x:=by first|exact Or.inl U|exact Or.inr (Or.inl U)|exact Or.inr (Or.inr U))
  (S:(x == ("__debug__" : Str))=false:=by decide) (Y:(x == ("__classdict__" : Str))=false:=by decide) (he:starEach (e::es) X.env=(false,eval e X.env)::starEach es X.env:=by rfl) (M:(backTo pos (starEach es X.env)).any (·.1)=false:=by rfl):
  QE X (.Call (.Name x p) (e::es) [] pos) (tCallV X.prog X.w X.K X.mg X.base k i t):=by
 refine⟨?_⟩;intro pins s σ H Q I hw;obtain⟨f,τ,Ua,L,ht⟩:=hw;refine Qc7 (thn (Zhi hN hv S Y pins s σ H (λv H'=>v=.ref f/\H'=H) I ⟨.ref f,Ua,U,U⟩) λu s1 ⟨v,H',I1,r,G,hH⟩=>?_);subst G;subst hH;cases r;refine PySem.W.callWith_F (Zcx L (GR.refl _) I1.hok) (thn (ha.out pos pins s1 σ H' _ I1 ht) λus s2 ⟨vs,H1,D,rv,Z,O⟩=>⟨Zcx L Z D.hok,(wpAny_call (Qe6 (L.2 X.A X.stack s2 H1 us vs Q E0 Z hr D.env0 rv O) λr s' C=>?_))⟩) he M;cases r with
 |error e=>exact C.elim
 |ok fl=>
  cases fl with
  |ret u=>exact D.after C
  |next=>exact False.elim C
  |brk=>exact False.elim C
  |cont=>exact False.elim C
end
theorem Zcy{mg mb:Ae}{CX:CXT}{k:Nat}{fd:Ao}{sp:Sp}{C:As}{vs:Ag}{ns:Ak}{D:List (Aw×Aw)}
  (KX:K.In C.heap) (hns:C.heap.Ns mainGlobals mg) (hb:C.heap.Ns builtinsNs mb) (hbb:∀x:Str,x ≠ "__name__" ->mb x=bootBuiltins x) (hlim:C.heap.NoLimit) (hg:C.gens=#[])
  (ha:C.heap.get? a=some {cls:=.type "list",data:=.seq vs.toArray}) (hi:IntsAre vs ns) (hl:ns.length<=sizeLine) (hr:WL k callerA)
  (hT:PySem.W.TabsAt D C.heap) (hKt:PySem.W.noTabs K=true) (hbm:jY mg C.heap)
  (F:∀base:Heap,K.In base->base.Ns mainGlobals mg->(∀q∈D,PySem.W.CodeHd base q.1 q.2)->jY mg base->kC P w K mg base CX k f fd [x] sp) (Ua:∀(s:As)(u:Av),BindsTo s fd ⟨[u],[]⟩ [(x,u)])
  (hsp:∀H:Hp,(∀q∈D,H q.2=some (.tbl #[]))->SqL K H a (ns.map V.int)->sp [.ref a] H (λv _=>v=.bl true) λ_ _ _=>False)
  (hCX:∀H e s',CX [] H C (λ_ _ _=>False) e s'->False):
  codeAny (model P w) callerA (.call (.ref f) ⟨[.ref a],[]⟩) (λr s'=>r=.ok (.ret (.bool true))/\OldK C.heap s'.heap/\s'.os=C.os/\AllBare s'.gens) C:=by
 have rv:=yV hi;have lenV:=hi.length;have G:∀b,b∈D.map (·.2)->C.heap.get? b=some (PySem.W.tabObj #[]):=λb m=>by
  obtain⟨q,M,rfl⟩:=Qap.mp m;exact(hT q M).2
 have aT:a∉D.map (·.2):=λm=>by
  have e:=G a m;rw[ha]at e;cases e
 have Q:∀H:Hp,(∀q∈D,H q.2=some (.tbl #[]))->(∀b,H b=none\/(b=a/\∃o xs,H b=some (.frz o (.lst xs)))\/(b∈D.map (·.2)/\H b=some (.tbl #[])))->SqL K H a (ns.map V.int)->HOk P w H C.heap->(H a≠none->K.lookup a=none)->
   codeAny (model P w) callerA (.call (.ref f) ⟨[.ref a],[]⟩) (λr s'=>r=.ok (.ret (.bool true))/\OldK C.heap s'.heap/\s'.os=C.os/\AllBare s'.gens) C:=by
  intro H hTb hO hS hok hK;have I:∀{b:Aw} {o:Obj},C.heap.get? b=some o->H b=none->(Ze7 C.heap H).get? b=some o:=λe n=>Zff e n;have noA:∀{b:Aw} {o:Obj},C.heap.get? b=some o->(∀Z n,o.data≠.seq Z n)->o.cls≠.none->H b=none:=λ{b o} e d1 d2=>by
   rcases hO b with z|⟨rfl,_⟩|⟨m,_⟩
   .exact z
   .rw[ha]at e;cases e;exact absurd U (d1 _ _)
   .rw[G b m]at e;cases e;exact absurd U d2
  have O:∀{b:Aw} {m:Ae},C.heap.Ns b m->(Ze7 C.heap H).Ns b m:=λ{b m} ⟨o,es,ep,e,d,r⟩=>⟨o,es,ep,I e (by
   grind),d,r⟩
  have hKb:K.In (Ze7 C.heap H):=λb o e=>I (KX b o e) (by
   rcases hO b with z|⟨rfl,ob,xs,z⟩|⟨m,_⟩
   .exact z
   .rw[hK (by rw[z];simp)]at e;cases e
   .have g:=KX b o e;rw[G b m]at g;cases g;have h2:=Qb2.mp hKt (b,_) (PySem.W.mem_of_lookupK e);exact absurd (show false=true from h2) Qba)
  have hM:Mod K mg (Ze7 C.heap H):=⟨hKb,O hns,⟨mb,O hb,hbb⟩,let⟨mc,h1,h2⟩:=hlim;⟨mc,O h1,h2⟩⟩;have hB:jY mg (Ze7 C.heap H):=by
   obtain⟨bm,ob,b1,b2,b3,b4,b5,b6⟩:=hbm.ex;exact⟨bm,ob,b1,b2,I b3 (noA b3 (λZ n z=>by rw[b6]at z;cases z) (λz=>by rw[b4]at z;cases z)),b4,b5,b6⟩
  have hC:∀q∈D,PySem.W.CodeHd (Ze7 C.heap H) q.1 q.2:=λq M=>by
   obtain⟨o,vs',file,tf,Y,tg,inF,text,tt,e1,r1,r2,r3⟩:=(hT q M).1;exact⟨o,vs',file,tf,Y,tg,inF,text,tt,I e1 (noA e1 (λZ n z=>by rw[r2]at z;cases z) (λz=>by rw[r1]at z;cases z)),r1,r2,r3⟩
  have e0:Zjb P w K mg (Ze7 C.heap H) callerA [] C H:=⟨U,hM,λb o e=>Zi9 e,Qhf (PySem.W.hideAll_size _ _),trivial,λb hb=>absurd (show b∈([]:List Aw)from hb) (by simp),hok,.of_eq hg⟩;refine Qe6 ((F _ hKb (O hns) hC hB).run callerA [] C H ⟨[.ref a],[]⟩ [.ref a] [.ref a] _ _ hr e0 (Ua C (.ref a)) (.cons U .nil) (hsp H hTb hS)) λr s' h=>?_;cases r with
  |error e=>exact(hCX H e s' h).elim
  |ok fl=>
   cases fl with
   |next=>exact False.elim h
   |brk=>exact False.elim h
   |cont=>exact False.elim h
   |ret u=>
    obtain⟨v,H',os,bare,un,S,r',q⟩:=h;have q':v=.bl true:=q;subst q';obtain rfl:u=Value.bool true:=r';have all:∀b o,C.heap.get? b=some o->s'.heap.get? b=some o\/∃L,b∈D.map (·.2)/\o=PySem.W.tabObj #[]/\s'.heap.get? b=some (PySem.W.tabObj (#[]++L)):=λb o e=>by
     rcases hO b with z|⟨_,ob,xs,z⟩|⟨m,z⟩
     .exact .inl (un.keep b o e z (by intro z;exact absurd (show b∈([]:List Aw)from z) (by simp)) (by simp))
     .have z2:=un.frzs b ob _ z;obtain⟨e1,_⟩:=hok b _ z;obtain⟨e2,_⟩:=S b _ z2;rw[e]at e1;cases e1;exact .inl e2
     .obtain⟨L,z2⟩:=un.tbls b _ z;rw[G b m]at e;cases e;exact .inr ⟨L,m,U,S b _ z2⟩
    refine⟨U,⟨λb o e=>?_,λb o e=>?_⟩,os,bare⟩
    .rcases all b o e with z|⟨L,m,rfl,z⟩
     .exact .inl z
     .obtain⟨q,M,rfl⟩:=Qap.mp m;exact .inr (.inl ⟨((hT q M).1.tab (hT q M).2).isCodeTable,U,#[],L,U,z⟩)
    .rcases all b o e with z|⟨L,_,_,z⟩
     .exact⟨_,z⟩
     .exact⟨_,z⟩
 have tm:∀q∈D,q.2∈D.map (·.2):=λq M=>Qb5 M;cases hk:K.lookup a with
 |some o=>
  have e:=KX a o hk;rw[ha]at e;cases e;refine Q (λb=>if b∈D.map (·.2)then some (.tbl #[])else none) (λq M=>Qa5 (tm q M)) (λb=>?_) (.inr ⟨_,vs.toArray,_,hk,U,U,U,by rw[Qbn,lenV];exact hl,by simpa using rv⟩) (λb u z=>?_) (λz=>absurd (Qaw aT) z)
  .by_cases m:b∈D.map (·.2)
   .exact .inr (.inr ⟨m,Qa5 m⟩)
   .exact .inl (Qaw m)
  .by_cases m:b∈D.map (·.2)
   .have N:=(Qa5 m).symm.trans z;cases N;exact G b m
   .have N:=(Qaw m).symm.trans z;cases N
 |none=>
  refine Q (λb=>if b∈D.map (·.2)then some (.tbl #[])else if b=a then some (.frz {cls:=.type "list",data:=.seq vs.toArray} (.lst (ns.map V.int)))else none) (λq M=>Qa5 (tm q M)) (λb=>?_) (.inl (.inr ⟨{cls:=.type "list",data:=.seq vs.toArray},(Qaw aT).trans (Qa5 U)⟩)) (λb u z=>?_) λ_=>hk
  .grind
  .by_cases m:b∈D.map (·.2)
   .have N:=(Qa5 m).symm.trans z;cases N;exact G b m
   .by_cases hb:b=a
    .have N:=((Qaw m).trans (Qa5 hb)).symm.trans z;cases N;subst hb;exact⟨ha,by rw[Qab];exact hl,vs,_,rv,ha⟩
    .have N:=((Qaw m).trans (Qaw hb)).symm.trans z;cases N
def walk_ofT{l:PySem.W.OpenLaw}{k:Nat}{q:Aq}{XP:(Ae)->Heap->Prop}{YP:Au->Heap->Prop}{d:DefRec}{K:Params->PySem.W.Frag}{CX:Au->CXT}{sp:Au->Sp}{r:List (Aw×Aw)}
  (hn:l.most=some n) (Ua:n<=sizeLine) (hdf:d.params.defaults=[]) (hr:WL k callerA)
  (hY:∀(w:Au)(h:Heap),YP w h->(K w.params).In h)
  (I:∀(w:Au)(L:ExcName->Option Av)(mg mb:Ae)(h:Heap),Top q (PySem.W.looseW q N) L mg mb h->(K w.params).In h->PySem.W.TabsAt r h) (Z:∀w:Au,PySem.W.noTabs (K w.params)=true)
  (F:∀(w:Au)(mg:Ae)(Q:Aw)(h:Heap),(K w.params).In h->h.Ns mainGlobals mg->mg d.name=some (.ref Q)->
   ∃fd:Ao,(∀(s:As)(u:Av),BindsTo s fd ⟨[u],[]⟩ [(x,u)]) /\
    ∀base:Heap,(K w.params).In base->base.Ns mainGlobals mg->(∀q∈r,PySem.W.CodeHd base q.1 q.2)->jY mg base->kC l.prog w (K w.params) mg base (CX w) k Q fd [x] (sp w))
  (hsp:∀(w:Au)(H:Hp)(a:Aw)(ns:Ak),ns.length<=n->(∀q∈r,H q.2=some (.tbl #[]))->SqL (K w.params) H a (ns.map V.int)->sp w [.ref a] H (λv _=>v=.bl true) λ_ _ _=>False)
  (hCX:∀(w:Au)(H:Hp)(s:As)(e:Av)(s':As),CX w [] H s (λ_ _ _=>False) e s'->False):
  PySem.W.WalkO q N XP YP l.row.toRowW d [] (λf vs=>PySem.call f vs):=by
 refine Att.attach_call hn hdf λw s₀ M mg mb Q o pm cd doc a vs ns G Y ho hd hcd hmg O D C hg=>?_;have S:=hY w _ Y;obtain⟨fd,hb,hF⟩:=F w mg Q _ S G.T.g hmg;exact Zcy S G.T.g G.T.b G.T.builtins G.T.nolimit hg O D (Qa1 C Ua) hr (I w _ mg mb _ G.T S) (Z w) ⟨G.T.bmain⟩ hF hb (λH hTb hS=>hsp w H a ns C hTb hS) λH e s'=>hCX w H M e s'
theorem Fun.okC{mg:Ae}{base:Heap}{qual:Str}{st:Ay}{fd:Ao}{ps:Ai}{k:Nat}{sp:Sp}(F:Fun K x qual st f fd)(S:Zt N ps (Zk st))(len:∀vs H Q E,sp vs H Q E->vs.length=ps.length)
  (r:∀(A:Ar)(outer:List Env)(s:As)(H:Hp)(vs:A8)(Q:VK)(E:XK),WL k (A.deeper (envOfC qual (Zk st) s.heap.objs.size f fd.code))->sp vs H Q E->
   ∃t,PSs (Zfl CX0 P w K mg base N qual (Zk st) f fd.code A outer s H E).nox (Xg st) t/\t {nx:=λ_ H'=>Q .non H',rt:=Q} (start N vs) H):kC P w K mg base CX0 (k+1) f fd ps sp:=by
 obtain⟨oc,od,kV,G,Y,Ua,I,ct,M,rfl,L,D⟩:=F.ex;refine Zl5 L D S len λA outer s H vs Q E O C=>?_;obtain⟨t,h,q⟩:=r A outer s H vs Q E O C;exact⟨t,h.nox,q⟩
def Zf1{x:V}(r:Vals [x,y] Ua):∃a b,Ua=[a,b]/\RelV x a/\RelV y b:=by
 cases r with
 |cons h1 t=>
  cases t with
  |cons h2 t=>
   cases t;exact⟨_,_,U,h1,h2⟩
structure QPs(X:Cx)(pos:Pos)(keys:List (Option Ax))(values:An)(trs:List (TE×TE)):Prop where
 out:PPs X pos keys values trs
def Zcz:QPs X p [] [] []:=⟨λpins s σ H Q I h=>pairTrees_nil_walk ⟨[],H,I,.nil,h⟩⟩
theorem gE{k v:Ax}{ks:List (Option Ax)}{vs:An}{tk:TE}{r:List (TE×TE)}(Y:QE X k tk)(Z:QE X v d)(hr:QPs X p ks vs r):QPs X p (some k::ks) (v::vs) ((tk,d)::r):=⟨λpins s σ H Q I h=>
 pairTrees_cons_walk (thn (Y.out pins s σ H _ I h) λu O ⟨x,H1,I1,rx,M⟩=>thn (Z.out pins O σ H1 _ I1 M) λw2 N ⟨y,H2,G,D,S⟩=>
  thn (hr.out pins N σ H2 _ G S) λws s3 ⟨ps,H3,Ua,C,L⟩=>⟨_,H3,Ua,.cons ⟨rx,D⟩ C,L⟩)⟩
def Zc0{keys:List (Option Ax)}{C:List (TE×TE)}(h:QPs X p keys A C)(r:keys.all (·.isSome)=true)(hl:keys.length=A.length)(S:keys≠[])(G:keys.length<=15):QE X (.Dict keys A p) (tDisp C):=⟨by
 intro pins s σ H Q I q;refine wpAny_Dict_walk (knd:=ZQ X.prog X.w) r hl S G (thn (h.out pins _ σ _ _ (I.laid (λ_ _ q=>Qad _ q) (Qah _) (jS s.heap I.big)) (q _ (I.hok.fresh (Qah _)))) λws s2 ⟨ps,H2,L,D,e,kvs,ep,lk,Ua⟩=>?_);subst ep;obtain⟨O,c,M⟩:=jm D;obtain⟨z,N,Y,r0,dd⟩:=Zjo L.hok e;cases r0;refine⟨O,c,dd,λh' dd' Z=>⟨.ref _,_,?_,U,Ua⟩⟩;have hz:(x5 [] kvs).length<=sizeLine:=by
  have h1:=Gb kvs [];rw[Qcg]at h1;rw[Qhr];lia
 exact x4 L (by rw[e];exact True.intro) Z (let⟨q,_,_,hq,_⟩:=dd';⟨q,hq⟩) (Zch hz N (M.merge .nil) dd')⟩
end L2
namespace ZpT
def zO (r:Av) (b:Bool) (TI TO:Aw):Obj:={cls:=.type "zip",dict:=none,data:=.fields #[r,.bool b,.bool false,.ref TI,.ref TO],slots:=#[]}
def F0(r:Av):Prop:=r=.none\/∃T:Aw,r=rawInt T
structure Ap(z TI TO i1 i2:Aw):Prop where
 TIz:TI≠z
 TOz:TO≠z
 i1z:i1≠z
 i2z:i2≠z
 TITO:TI≠TO
 TIi1:TI≠i1
 TIi2:TI≠i2
 TOi1:TO≠i1
 TOi2:TO≠i2
 i12:i1≠i2
section
variable {prog:Aq}{w:Au}{A:Ar}{E:Ab}{s:As}
def alive{Q:Option Obj->Shared->Prop}(h:Q (s.heap.get? a) s):A9 prog w A (loadIfAlive a) Q E s:=λΓ p _=>h
def Zc1{z:Aw}{Q:Bool->Shared->Prop}(G:s.heap.get? z=some (zO u j a f))(M:F0 u)
  (h:∀r h' L,h'.get? z=some (zO u L a f)->Heap.SameBut z s.heap h'->Q r {s with heap:=h'}):A9 prog w A (Builtin.SmallTypes.ownedTupleIsFree (.ref z)) Q E s:=by
 refine Qaa (Qbz G U U ?_);rcases M with rfl|⟨T,rfl⟩
 .exact Qae (h true s.heap j G ⟨U,λ_ _=>U⟩)
 .refine Qaa (alive ?_);cases hT:s.heap.get? _ with
  |none=>exact Qae (h true s.heap j G ⟨U,λ_ _=>U⟩)
  |some o=>
   refine Qaa (Qbz G U U ?_);cases j
   .refine Qaa (Qb3 G (by simp) λI D C=>Qae (h false I true D C))
   .exact Qae (h false s.heap true G ⟨U,λ_ _=>U⟩)
end
structure Of(z TO i1 i2 l:Aw):Prop where
 z:l≠z
 o:l≠TO
 i:l≠i1
 j:l≠i2
structure St(b1 b2:Bool)(z TI TO i1 i2 l1 l2:Aw)(k1 k2:Nat)(h:Heap):Prop where
 z:∃f0 fb,h.get? z=some (zO f0 fb TI TO)/\F0 f0
 I:IsPair h TI (.ref i1) (.ref i2)
 O:∃a b,IsPair h TO a b
 n1:ZS b1 h i1 l1 k1
 n2:ZS b2 h i2 l2 k2
section
variable {prog:Aq}{w:Au}{A:Ar}{E:Ab}{s:As}
def item{b1 b2:Bool}{z i1 i2 l1 l2:Aw}{k2:Nat}{xs ys:Ah}{x y:Av}(D:Ap z f Z i1 i2)(D1:Of z Z i1 i2 l1)(D2:Of z Z i1 i2 l2)
  (S:St b1 b2 z f Z i1 i2 l1 l2 n k2 s.heap) (q1:SeqAt b1 s.heap l1 xs) (q2:SeqAt b2 s.heap l2 ys) (hx:xs[n]?=some x) (hy:ys[k2]?=some y)
  (hQ:∀h',St b1 b2 z f Z i1 i2 l1 l2 (n+1) (k2+1) h'->IsPair h' s.heap.objs.size x y->
   (∀c o,c≠z->c≠Z->c≠i1->c≠i2->s.heap.get? c=some o->h'.get? c=some o)->Q (.ref s.heap.objs.size) {s with heap:=h'}):
  A9 prog w A (Builtin.«zip.__next__» ⟨[.ref z],[]⟩) (λfin s'=>∃v,fin=.done (.ret v)/\Q v s') E s:=by
 obtain⟨⟨f0,fb,hz,hf⟩,hTI,⟨a,b,hTO⟩,n1,n2⟩:=S;show wpAny _ _ (field (.ref z) 2 >>= _) _ _ _;refine Qaa (Qbz hz U (x:=.bool false) U ?_);refine Qaa (Qbz hz U (x:=.ref f) U ?_);refine Qaa (Qci hTI U ?_);refine Qaa (Zc1 hz hf λr h0 fb' hz0 Y=>?_);have hz0':h0.get? z=some (zO f0 fb' f Z):=hz0;have hTO0:IsPair h0 Z a b:=Y.extBut _ _ D.TOz hTO;have n10:ZS b1 h0 i1 l1 n:=n1.mv λo e=>Y.extBut _ _ D.i1z e;have n20:ZS b2 h0 i2 l2 k2:=n2.mv λo e=>Y.extBut _ _ D.i2z e;have q10:SeqAt b1 h0 l1 xs:=q1.mv λo e=>Y.extBut _ _ D1.z e;have q20:SeqAt b2 h0 l2 ys:=q2.mv λo e=>Y.extBut _ _ D2.z e;cases r with
 |true=>
  refine Qaa (Qdl ?_);refine Qaa (Qbz hz0 U (x:=.ref Z) U ?_);refine Qaa (Qb3 hz0 (by simp) λh₁ hz₁ L=>?_);refine Qaa ?_;refine Qaa (Qaa (Qg4 ?_));refine Qaa (WX (n10.mv λo e=>L.extBut _ _ D.i1z e) (q10.mv λo e=>L.extBut _ _ D1.z e) hx λh₂ h1₂ C=>Qae ?_);have hTO₂:IsPair h₂ Z a b:=C.extBut _ _ D.TOi1 (L.extBut _ _ D.TOz hTO0);refine Qaa (Qci hTO₂ U ?_);refine Qaa (Qf4 hTO₂ λM hTO₃ G=>?_);refine Qaa (Qe2 (Qae ?_));refine Qaa (Qaa (Qg4 ?_));refine Qaa (WX (n20.mv λo e=>G.extBut _ _ D.TOi2.symm (C.extBut _ _ D.i12.symm (L.extBut _ _ D.i2z e)))
   (q20.mv λo e=>G.extBut _ _ D2.o (C.extBut _ _ D2.i (L.extBut _ _ D2.z e))) hy λh₄ h2₄ O=>Qae ?_)
  have hTO₄:IsPair h₄ Z x b:=O.extBut _ _ D.TOi2 hTO₃;refine Qaa (Qci hTO₄ U ?_);refine Qaa (Qf4 hTO₄ λI N Ua=>?_);replace N:IsPair I Z x y:=N;refine Qaa (Qe2 (Qae (Qae ?_)));refine Qaa (Qci N U ?_);refine Qaa (Qgu ?_);have hsz:I.objs.size=s.heap.objs.size:=by rw[Ua.1,O.1,G.1,C.1,L.1];exact Y.1
  have hz₅:I.get? z=some (zO .ellipsis fb' f Z):=Ua.extBut _ _ D.TOz.symm (O.extBut _ _ D.i2z.symm (G.extBut _ _ D.TOz.symm (C.extBut _ _ D.i1z.symm hz₁)));have hk₅:∀c o,c≠z->c≠Z->c≠i1->c≠i2->s.heap.get? c=some o->I.get? c=some o:=λc o c1 c2 c3 c4 e=>
   Ua.extBut _ _ c2 (O.extBut _ _ c4 (G.extBut _ _ c2 (C.extBut _ _ c3 (L.extBut _ _ c1 (Y.extBut _ _ c1 e)))))
  have h1₅:ZS b1 I i1 l1 (n+1):=h1₂.mv λo e=>Ua.extBut _ _ D.TOi1.symm (O.extBut _ _ D.i12 (G.extBut _ _ D.TOi1.symm e));have h2₅:ZS b2 I i2 l2 (k2+1):=h2₄.mv λo e=>Ua.extBut _ _ D.TOi2.symm e;have hzlt:z<I.objs.size:=Qav hz₅;refine Qaa ?_;have hz₆:(I.push {cls:=.type "tuple",data:=.seq #[x,y]}).get? z=some (zO .ellipsis fb' f Z):=Qad _ hz₅;refine Qaa (Qb3 hz₆ (by simp) λh₇ hz₇ hs₇=>?_);refine Qb3 hz₇ (by simp) λh₈ hz₈ hs₈=>?_;have up:∀c o,c≠z->I.get? c=some o->h₈.get? c=some o:=λc o c1 e=>hs₈.extBut _ _ c1 (hs₇.extBut _ _ c1 (Qad _ e));have hT₈:IsPair h₈ I.objs.size x y:=hs₈.extBut _ _ (Qd7 hzlt) (hs₇.extBut _ _ (Qd7 hzlt) (Qam _ U));rw[hsz]at hz₈ hT₈;refine Qae ⟨_,U,?_⟩;rw[hsz];exact hQ h₈ ⟨⟨_,_,hz₈,.inr ⟨_,U⟩⟩,up _ _ D.TIz (hk₅ _ _ D.TIz D.TITO D.TIi1 D.TIi2 hTI),⟨_,_,up _ _ D.TOz N⟩,h1₅.mv λo e=>up _ o D.i1z e,h2₅.mv λo e=>up _ o D.i2z e⟩ hT₈ λc o c1 c2 c3 c4 e=>up c o c1 (hk₅ c o c1 c2 c3 c4 e)
 |false=>
  refine Qaa ?_;refine Qaa (Qaa (Qcb ?_));refine Qaa (WX n10 q10 hx λh₂ h1₂ C=>Qae (Qae ?_));refine Qaa (Qaa (Qcb ?_));refine Qaa (WX (n20.mv λo e=>C.extBut _ _ D.i12.symm e) (q20.mv λo e=>C.extBut _ _ D2.i e) hy λM h2₃ G=>Qae (Qae (Qae ?_)));refine Qaa (Qgu (hsz:=(show 2<=sizeLine by decide)) (Qae ⟨_,U,?_⟩));have hsz:M.objs.size=s.heap.objs.size:=by rw[G.1,C.1];exact Y.1
  have hk₃:∀c o,c≠z->c≠i1->c≠i2->s.heap.get? c=some o->M.get? c=some o:=λc o c1 c3 c4 e=>G.extBut _ _ c4 (C.extBut _ _ c3 (Y.extBut _ _ c1 e));have zz:M.get? z=some (zO f0 fb' f Z):=G.extBut _ _ D.i2z.symm (C.extBut _ _ D.i1z.symm hz0');have hT:IsPair (M.push {cls:=.type "tuple",data:=.seq #[x,y]}) M.objs.size x y:=Qam _ rfl;rw[hsz]at hT ⊢;have up:∀c o,M.get? c=some o->(M.push {cls:=.type "tuple",data:=.seq #[x,y]}).get? c=some o:=λc o e=>Qad _ e;exact hQ _ ⟨⟨_,_,up _ _ zz,hf⟩,up _ _ (hk₃ _ _ D.TIz D.TIi1 D.TIi2 hTI),⟨_,_,up _ _ (hk₃ _ _ D.TOz D.TOi1 D.TOi2 hTO)⟩,h1₂.mv λo e=>up _ _ (G.extBut _ _ D.i12 e),h2₃.mv λo e=>up _ _ e⟩ hT λc o c1 c2 c3 c4 e=>up c o (hk₃ c o c1 c3 c4 e)
end
section
variable {prog:Aq}{w:Au}{A:Ar}{E:Ab}{s:As}
def fin{b1 b2:Bool}{z i1 i2 l1 l2:Aw}{k2:Nat}{xs ys:Ah}{Q:Fin->Shared->Prop}(hh:A.handled=none)(D:Ap z f Z i1 i2)(D1:Of z Z i1 i2 l1)(D2:Of z Z i1 i2 l2)
  (S:St b1 b2 z f Z i1 i2 l1 l2 n k2 s.heap) (q1:SeqAt b1 s.heap l1 xs) (q2:SeqAt b2 s.heap l2 ys) (hend:xs[n]?=none\/ys[k2]?=none)
  (hE:∀h' e,(∀c o,c≠z->c≠Z->c≠i1->c≠i2->s.heap.get? c=some o->h'.get? c=some o)->(∃o,h'.get? e=some o/\o.cls=.type "StopIteration")->E (.ref e) {s with heap:=h'}):
  A9 prog w A (Builtin.«zip.__next__» ⟨[.ref z],[]⟩) Q E s:=by
 obtain⟨⟨f0,fb,hz,hf⟩,hTI,⟨a,b,hTO⟩,n1,n2⟩:=S;show wpAny _ _ (field (.ref z) 2 >>= _) _ _ _;refine Qaa (Qbz hz U (x:=.bool false) U ?_);refine Qaa (Qbz hz U (x:=.ref f) U ?_);refine Qaa (Qci hTI U ?_);refine Qaa (Zc1 hz hf λr h0 fb' hz0 M=>?_);have hTO0:IsPair h0 Z a b:=M.extBut _ _ D.TOz hTO;have n10:ZS b1 h0 i1 l1 n:=n1.mv λo e=>M.extBut _ _ D.i1z e;have n20:ZS b2 h0 i2 l2 k2:=n2.mv λo e=>M.extBut _ _ D.i2z e;have q10:SeqAt b1 h0 l1 xs:=q1.mv λo e=>M.extBut _ _ D1.z e;have q20:SeqAt b2 h0 l2 ys:=q2.mv λo e=>M.extBut _ _ D2.z e;cases r with
 |true=>
  refine Qaa (Qdl ?_);refine Qaa (Qbz hz0 U (x:=.ref Z) U ?_);refine Qaa (Qb3 hz0 (by simp) λh₁ hz₁ G=>?_);refine Qaa ?_;refine Qaa (Qaa (Qg4 ?_));cases hx:xs[n]? with
  |none=>
   refine Qaa (jn hh (n10.mv λo e=>G.extBut _ _ D.i1z e) (q10.mv λo e=>G.extBut _ _ D1.z e) hx λL e C he=>?_);obtain⟨oe,N,hce⟩:=he;have hz₂:L.get? z=some (zO .ellipsis fb' f Z):=C _ _ D.i1z.symm hz₁;have hez:e≠z:=λx=>by subst x;rw[hz₂]at N;cases N;simp[zO]at hce
   refine Qb3 hz₂ (by simp) λO _ I=>hE O e (λc o Y _ c3 _ x=>I.extBut _ _ Y (C _ _ c3 (G.extBut _ _ Y (M.extBut _ _ Y x)))) ⟨oe,I.extBut _ _ hez N,hce⟩
  |some x=>
   have hy:ys[k2]?=none:=by grind
   refine Qaa (WX (n10.mv λo e=>G.extBut _ _ D.i1z e) (q10.mv λo e=>G.extBut _ _ D1.z e) hx λL h1₂ C=>Qae ?_);have Ua:IsPair L Z a b:=C.extBut _ _ D.TOi1 (G.extBut _ _ D.TOz hTO0);refine Qaa (Qci Ua U ?_);refine Qaa (Qf4 Ua λO hTO₃ I=>?_);refine Qaa (Qe2 (Qae ?_));refine Qaa (Qaa (Qg4 ?_));refine Qaa (jn hh (n20.mv λo e=>I.extBut _ _ D.TOi2.symm (C.extBut _ _ D.i12.symm (G.extBut _ _ D.i2z e)))
    (q20.mv λo e=>I.extBut _ _ D2.o (C.extBut _ _ D2.i (G.extBut _ _ D2.z e))) hy λh₄ e hs₄ he=>?_)
   obtain⟨oe,N,hce⟩:=he;have hz₄:h₄.get? z=some (zO .ellipsis fb' f Z):=hs₄ _ _ D.i2z.symm (I.extBut _ _ D.TOz.symm (C.extBut _ _ D.i1z.symm hz₁));have hez:e≠z:=λx=>by subst x;rw[hz₄]at N;cases N;simp[zO]at hce
   refine Qb3 hz₄ (by simp) λh₅ _ hs₅=>hE h₅ e (λc o Y c2 c3 c4 x=>hs₅.extBut _ _ Y (hs₄ _ _ c4 (I.extBut _ _ c2 (C.extBut _ _ c3 (G.extBut _ _ Y (M.extBut _ _ Y x)))))) ⟨oe,hs₅.extBut _ _ hez N,hce⟩
 |false=>
  refine Qaa ?_;refine Qaa (Qaa (Qcb ?_));cases hx:xs[n]? with
  |none=>exact Qaa (jn hh n10 q10 hx λL e C he=>hE L e (λc o Y _ c3 _ x=>C _ _ c3 (M.extBut _ _ Y x)) he)
  |some x=>
   have hy:ys[k2]?=none:=by grind
   refine Qaa (WX n10 q10 hx λL h1₂ C=>Qae (Qae ?_));refine Qaa (Qaa (Qcb ?_));exact Qaa (jn hh (n20.mv λo e=>C.extBut _ _ D.i12.symm e) (q20.mv λo e=>C.extBut _ _ D2.i e) hy λO e I he=>hE O e (λc o Y _ c3 c4 x=>I _ _ c4 (C.extBut _ _ c3 (M.extBut _ _ Y x))) he)
def next_item{b1 b2:Bool}{z i2 C r:Aw}{xs ys:Ah}{x y:Av}{Q:Aa}(D:Ap z a f Z i2)(L:Of z f Z i2 C)(M:Of z f Z i2 r)
  (S:St b1 b2 z a f Z i2 C r i n s.heap) (Ua:SeqAt b1 s.heap C xs) (q2:SeqAt b2 s.heap r ys) (I:xs[i]?=some x) (O:ys[n]?=some y)
  (N:∀h',St b1 b2 z a f Z i2 C r (i+1) (n+1) h'->IsPair h' s.heap.objs.size x y->
   (∀c o,c≠z->c≠f->c≠Z->c≠i2->s.heap.get? c=some o->h'.get? c=some o)->Q (some (.ref s.heap.objs.size)) {s with heap:=h'}):
  A9 prog w A (pyNext (.ref z)) Q E s:=by
 obtain⟨f0,fb,Y,hf⟩:=S.z;have G:s.TypeIs (.ref z) "zip" :=⟨_,Y,U⟩;exact Qaa (Qc0 (wpAny_callSpecial?_slot G Qfj
  (Qbd Qfj G F.entry_zip_next (item D L M S Ua q2 I O λh' a1 a2 a3=>Qae (N h' a1 a2 a3)) (F.args_zip_next_1 _))))
def next_end{b1 b2:Bool}{z i2 G C:Aw}{xs ys:Ah}{Q:Aa}(hh:A.handled=none)(D:Ap z a f Z i2)(L:Of z f Z i2 G)(M:Of z f Z i2 C)
  (S:St b1 b2 z a f Z i2 G C i n s.heap) (O:SeqAt b1 s.heap G xs) (q2:SeqAt b2 s.heap C ys) (r:xs[i]?=none\/ys[n]?=none)
  (N:∀h',(∀c o,c≠z->c≠f->c≠Z->c≠i2->s.heap.get? c=some o->h'.get? c=some o)->Q none {s with heap:=h'}):
  A9 prog w A (pyNext (.ref z)) Q E s:=by
 obtain⟨f0,fb,hz,hf⟩:=id S.z;have I:s.TypeIs (.ref z) "zip" :=⟨_,hz,U⟩;refine Qaa (Qc0 (wpAny_callSpecial?_slot I Qfj (Qbd Qfj I F.entry_zip_next (fin hh D L M S O q2 r λh' e Ua he=>?_) (F.args_zip_next_1 _))));obtain⟨o,Y,hc⟩:=he;exact Qaa (Qcz ⟨o,Y,hc⟩ Qez (Qae (N _ Ua)))
def iter_self{z:Aw}(C:s.heap.get? z=some (zO u j a f))(h:Q (.ref z) s):A9 prog w A (pyIter (.ref z)) Q E s:=by
 have r:s.TypeIs (.ref z) "zip" :=⟨_,C,U⟩;refine Qeu r F.slot_zip_iter (Qbd F.slot_zip_iter r F.entry_zip_iter (Qae ⟨_,U,"zip",_,r,Qfj.lookup,h⟩) (F.args_zip_iter_1 _))
end
def hz1(b1:Bool)(h:Heap)(r:Aw):Heap:=h.push (itO b1 r)
def hz2(b1 b2:Bool)(h:Heap)(C r:Aw):Heap:=(hz1 b1 h C).push (itO b2 r)
def hz3 (b1 b2:Bool) (h:Heap) (r C:Aw):Heap:=(hz2 b1 b2 h r C).push {cls:=.type "tuple",data:=.seq #[.ref h.objs.size,.ref (hz1 b1 h r).objs.size]}
def hz4 (b1 b2:Bool) (h:Heap) (C r:Aw):Heap:=(hz3 b1 b2 h C r).push {cls:=.type "tuple",data:=.seq #[.none,.none]}
def hz5(b1 b2:Bool)(h:Heap)(C r:Aw):Heap:=(hz4 b1 b2 h C r).push (zO .none false (hz2 b1 b2 h C r).objs.size (hz3 b1 b2 h C r).objs.size)
theorem WV(b1 b2:Bool)(r C:Aw)(xs ys:Ah):
  Meets (Builtin.«zip.__new__» ⟨[.type "zip",.ref r,.ref C],[]⟩) (λ_ R s=>SeqAt b1 s.heap r xs/\SeqAt b2 s.heap C ys /\
   R (.ok (.ret (.ref (hz4 b1 b2 s.heap r C).objs.size))) {s with heap:=hz5 b1 b2 s.heap r C}):=
 .of_wp λprog w A R s h=>by
  obtain⟨N,g,d,tk,os⟩:=s;obtain⟨I,G,h⟩:=h;have M:=sub_zip;have D:SeqAt b1 (Shared.heap ⟨N,g,d,tk,os⟩) r xs:=I;have L:SeqAt b2 (Shared.heap ⟨N.push (itO b1 r),g,d,tk,os⟩) C ys:=G.mv λo e=>Qad _ e
  wp_walk using XU D,XU L
  exact⟨_,U,h⟩
section
variable {prog:Aq}{w:Au}{A:Ar}{E:Ab}{s:As}
def call_new{b1 b2:Bool}{xs ys:Ah}(M:SeqAt b1 s.heap a xs)(C:SeqAt b2 s.heap f ys)
  (h:∀h',St b1 b2 (s.heap.objs.size+4) (s.heap.objs.size+2) (s.heap.objs.size+3) s.heap.objs.size (s.heap.objs.size+1) a f 0 0 h'->(∀c o,s.heap.get? c=some o->h'.get? c=some o)->Q (.ref (s.heap.objs.size+4)) {s with heap:=h'}):
  A9 prog w A (call (.type "zip") [.ref a,.ref f]) Q E s:=by
 refine callType_new F.called_zip (by decide) (F.typeCall_zip_2 _ _) (F.newCall_zip_2 _ _) (λr=>F.args_object_init_3 r _ _) F.entry_zip_new (WV b1 b2 a f xs ys) ⟨M,C,?_⟩;have G:(hz1 b1 s.heap a).objs.size=s.heap.objs.size+1:=Qb8 ..;have L:(hz2 b1 b2 s.heap a f).objs.size=s.heap.objs.size+2:=by unfold hz2;rw[Qb8,G]
 have D:(hz3 b1 b2 s.heap a f).objs.size=s.heap.objs.size+3:=by unfold hz3;rw[Qb8,L]
 have N:(hz4 b1 b2 s.heap a f).objs.size=s.heap.objs.size+4:=by unfold hz4;rw[Qb8,D]
 have I:(hz5 b1 b2 s.heap a f).get? (hz4 b1 b2 s.heap a f).objs.size=some _:=Qam _ rfl;have S:(hz5 b1 b2 s.heap a f).get? (hz3 b1 b2 s.heap a f).objs.size=some {cls:=.type "tuple",data:=.seq #[.none,.none]}:=Qad _ (Qam _ U);have O:(hz5 b1 b2 s.heap a f).get? (hz2 b1 b2 s.heap a f).objs.size=some _:=Qad _ (Qad _ (Qam _ U));have Ua:(hz5 b1 b2 s.heap a f).get? (hz1 b1 s.heap a).objs.size=some (itO b2 f):=Qad _ (Qad _ (Qad _ (Qam _ U)));rw[L,D,N]at I;rw[G,L]at O;rw[D]at S;rw[G]at Ua;rw[N];exact⟨⟨_,I,U⟩,h _ ⟨⟨_,_,I,.inl U⟩,O,⟨_,_,S⟩,qY (Qad _ (Qad _ (Qad _ (Qad _ (Qam _ U))))),qY Ua⟩ λc o x=>
  Qad _ (Qad _ (Qad _ (Qad _ (Qad _ x))))⟩
theorem St.other{b1 b2:Bool}{z i1 i2 G C:Aw}{h':Heap}(D:Ap z f Z i1 i2)(S:St b1 b2 z f Z i1 i2 G C i n h)(L:h'.get? z=some (zO u j f Z))(M:F0 u)(r:Heap.SameBut z h h'):St b1 b2 z f Z i1 i2 G C i n h':=
 ⟨⟨u,j,L,M⟩,r.extBut _ _ D.TIz S.I,(let⟨a,b,e⟩:=S.O;⟨a,b,r.extBut _ _ D.TOz e⟩),S.n1.mv λo e=>r.extBut _ _ D.i1z e,S.n2.mv λo e=>r.extBut _ _ D.i2z e⟩
def go_any{b1 b2:Bool}{z i2 M L T:Aw}{k2:Nat}{Q:Unit->Shared->Prop}(D:Ap z a f Z i2)(S:St b1 b2 z a f Z i2 M L i k2 s.heap)
  (h:∀h',St b1 b2 z a f Z i2 M L i k2 h'->Heap.SameBut z s.heap h'->Q () {s with heap:=h'}):A9 prog w A (letOwnedTupleGo e (.ref z) (.ref T)) Q E s:=by
 have G:=h s.heap S ⟨U,λ_ _=>U⟩;obtain⟨N,O,I,Ua⟩:=id S.z;have tup:A9 prog w A (do
   let o <-load z
   match o.cls,o.data with
   |.type n,.fields vs=>
    if["enumerate","zip","dict_itemiterator","dict_reverseitemiterator","odict_iterator","itertools.zip_longest","itertools.pairwise"].contains n&&vs[0]? == some (rawInt T)then
     rule "for.unpacks-the-owned-tuple"
     updateField z 0 .none
   |_,_=>pure ()) Q E s:=by
  refine Qaa (wpAny_load I ?_);show wpAny _ _ (if(["enumerate","zip","dict_itemiterator","dict_reverseitemiterator","odict_iterator","itertools.zip_longest","itertools.pairwise"].contains "zip" && (#[N,.bool O,.bool false,.ref a,.ref f])[0]? == some _)=true then _ else _) Q E s;split
  .refine Qaa (Qdl (Qb3 I (by simp) λh' C r=>h h' (S.other D C (.inl U) r) r))
  .exact Qae G
 cases e<;>first
  |exact tup
  |exact Qae G
end
end ZpT
namespace L2
open ZpT (St Ap Of SeqAt ZS)
def Itz(K:Af)(b1 b2:Bool)(a1 a2:Aw):It:=
  ⟨λi H=>∃xs ys x y,SqB K b1 H a1 xs/\SqB K b2 H a2 ys/\xs[i]?=some x/\ys[i]?=some y,
   λi H v H'=>∃p,H p=none/\v=.ref p/\∀xs ys x y,SqB K b1 H a1 xs->SqB K b2 H a2 ys->xs[i]?=some x->ys[i]?=some y->H'=upd H p (.tup [x,y]),
   λi H=>∃xs ys,SqB K b1 H a1 xs/\SqB K b2 H a2 ys/\(xs.length<=i\/ys.length<=i)⟩
def Zf2{tg:Ax}{b1 b2:Bool}{z i2 a1 a2:Aw}(D:Ap z a f Z i2)(D1:Of z f Z i2 a1)(D2:Of z f Z i2 a2):
  Turn P w K tg (Itz K b1 b2 a1 a2) [z,a,f,Z,i2] z (λi h=>ZpT.St b1 b2 z a f Z i2 a1 a2 i i h)where
 mem:=by simp
 obj:=λi h st b r=>by
  obtain⟨⟨f0,fb,O,N⟩,G,⟨x,y,C⟩,Q,n2⟩:=st;simp at r;rcases r with rfl|rfl|rfl|rfl|rfl
  .exact⟨_,O,λv q=>by
    have q':Data.fields _=Data.cell v:=q;cases q'⟩
  .grind
  .grind
  .exact Q.ob
  .exact n2.ob
 keep:=λi h h' st k=>by
  obtain⟨⟨f0,fb,O,N⟩,G,⟨x,y,C⟩,Q,n2⟩:=st;exact⟨⟨f0,fb,k z (by simp) _ O,N⟩,k a (by simp) _ G,⟨x,y,k f (by simp) _ C⟩,Q.mv λo e=>k Z (by simp) o e,n2.mv λo e=>k i2 (by simp) o e⟩
 item:=by
  intro X hP hw hK hc i pins s σ H E I N st hg;subst hP hw hK;obtain⟨xs,ys,x,y,q1,q2,hx,hy⟩:=hg;obtain⟨its1,r1,p1,z1⟩:=I.sqB q1;obtain⟨S,r2,p2,z2⟩:=I.sqB q2;obtain⟨u1,hu1,ru1⟩:=r1.get hx;obtain⟨u2,hu2,ru2⟩:=r2.get hy;have olt:∀b∈[z,a,f,Z,i2],b<s.heap.objs.size:=λb r=>by
   obtain⟨⟨f0,fb,O,N⟩,G,⟨x,y,C⟩,Q,n2⟩:=st;simp at r;rcases r with rfl|rfl|rfl|rfl|rfl
   .exact Qav O
   .exact Qav G
   .exact Qav C
   .obtain⟨o,ho,_⟩:=Q.ob;exact Qav ho
   .obtain⟨o,ho,_⟩:=n2.ob;exact Qav ho
  refine ZpT.next_item D D1 D2 st p1 p2 (x:=u1) (y:=u2) (by simpa using hu1) (by simpa using hu2) λh' st' hT hk=>?_;refine⟨_,U,ZpT.go_any (s:={s with heap:=h'}) D st' λh2 st2 hs2=>?_⟩;have L:Heap.SameBut z h' h2:=hs2;have I1:Inv X pins σ (upd H s.heap.objs.size (.tup [x,y])) {s with heap:=s.heap.push _,toks:=s.toks}:=
   I.laid (λb o y=>Qad _ y) (Qah _) ⟨xj,[u1,u2],.cons ru1 (.cons ru2 .nil),gj.new _ _⟩
  have fp':∀b∈[z,a,f,Z,i2],yJ X pins (upd H s.heap.objs.size (.tup [x,y])) b:=λb r=>by
   obtain⟨a0,ar⟩:=N b r;exact⟨by rw[Zj (Qbc (olt b r))];exact a0,ar⟩
  have I2:Inv X pins σ (upd H s.heap.objs.size (.tup [x,y])) {s with heap:=h2,toks:=s.toks}:=by
   refine Jx (s:={s with heap:=s.heap.push _,toks:=s.toks}) I1 fp' λb o r q=>?_;have M:b≠z:=λe=>r (by simp[e]);rcases Qf2 q with⟨rfl,rfl⟩|q
   .exact(L.2 _ M).trans hT
   .exact(L.2 b M).trans (hk b o M (λe=>r (by simp[e])) (λe=>r (by simp[e])) (λe=>r (by simp[e])) q)
  refine⟨.ref s.heap.objs.size,_,I2,U,⟨_,I.hok.fresh (Qah _),U,λxs' ys' x' y' q1' q2' Ua Y=>?_⟩,st2,λb r=>(fp' b r).1⟩;rw[I.sqB_inj q1' q1,hx]at Ua;rw[I.sqB_inj q2' q2,hy]at Y;cases Ua;cases Y;rfl
 done:=by
  intro X hP hw hK hc i pins s σ H E I N st hg;subst hP hw hK;obtain⟨xs,ys,q1,q2,hx⟩:=hg;obtain⟨its1,r1,p1,z1⟩:=I.sqB q1;obtain⟨S,r2,p2,z2⟩:=I.sqB q2;have e1:=r1.length;have e2:=r2.length;refine ZpT.next_end (I.ok.hd hc) D D1 D2 st p1 p2 (by simp;lia) λh' hk=>⟨U,?_⟩;exact Jx (t':=s.toks) I N λb o r q=>hk b o (λe=>r (by simp[e])) (λe=>r (by simp[e])) (λe=>r (by simp[e])) (λe=>r (by simp[e])) q
 self:=λ_ _ _ _ _ st h=>let⟨_,_,O,_⟩:=st.z;ZpT.iter_self O h
def bt_zip:bootBuiltins "zip" = some (.type "zip"):=by decide +kernel
end L2
namespace L2
open ZpT (Ap Of SeqAt ZS)
def zfp(n:Nat):List Aw:=[n+4,n+2,n+3,n,n+1]
def zof{l:Nat}(h:l<n):Of (n+4) (n+3) n (n+1) l:=by constructor<;>(lia)
section
variable {X:Cx}{e1 e2:Ax}{t:TA}{p pos:Pos}{b1 b2:Bool}
def Zie{b:Bool}{l:Aw}{xs:Ah}(q:SeqAt b h l xs):l<h.objs.size:=by
 cases b
 .obtain⟨o,r,_⟩:=(q);exact Qav r
 .obtain⟨o,r,_⟩:=(q);exact Qav r
def Zf3     {Z:Aw->Addr->List V->List V->Hp->Prop}  (hg:Gl X "zip") (hm:X.mg "zip" = none) (ha:QA X [e1,e2] t) (N:[e1,e2].all Yk=true) (I:Inv X m c H s)
  (h:t c H λvs H1=>∃a1 a2 xs ys,vs=[.ref a1,.ref a2]/\SqB X.K b1 H1 a1 xs/\SqB X.K b2 H1 a2 ys/\Z a1 a2 xs ys H1)
  (fin:∀a1 a2 xs ys n H1 D,Inv X m c H1 D->SqB X.K b1 H1 a1 xs->SqB X.K b2 H1 a2 ys->Z a1 a2 xs ys H1->a1<n->a2<n->ZpT.St b1 b2 (n+4) (n+2) (n+3) n (n+1) a1 a2 0 0 D.heap->(∀b∈zfp n,yJ X m H1 b)->Q (.ref (n+4)) D):
  Ba X (eval (.Call (.Name "zip" p) [e1,e2] [] pos) X.env) Q X.xe s:=by
 rw[Qcu,Qby]at N;refine Qc7 (qj I hg hm bt_zip (Qc6 (thn (ha.out pos m s c H _ I h) λus D ⟨vs,H1,G,r1,L⟩=>?_) (Zy N.1) (Xa N.2)));obtain⟨a1,a2,xs,ys,rfl,L,Y,r⟩:=L;obtain⟨u1,u2,rfl,M,O⟩:=Zf1 r1;cases M;cases O;obtain⟨S,v1,p1,z1⟩:=G.sqB L;obtain⟨Ua,v2,p2,z2⟩:=G.sqB Y;refine ZpT.call_new p1 p2 λh' st hk=>(fin a1 a2 xs ys _ H1 _ (G.kept hk) L Y r (Zie p1) (Zie p2) st λb hb=>?_);have C:D.heap.objs.size<=b:=by
  simp[zfp]at hb;rcases hb with rfl|rfl|rfl|rfl|rfl
  .exact Qef _ _
  .exact Qef _ _
  .exact Qef _ _
  .exact Qah _
  .exact Qef _ _
 exact G.fpOk C (G.hok.fresh C)
def iZip2(K:Af)(b1 b2:Bool)(t:TA):TI:=λσ H R=>t σ H λvs H1=>∃a1 a2 xs ys,vs=[.ref a1,.ref a2]/\SqB K b1 H1 a1 xs/\SqB K b2 H1 a2 ys/\R (Itz K b1 b2 a1 a2) H1
def Zif  (Q:Gl X "zip") (D:X.mg "zip" = none) (S:QA X [e1,e2] t) (C:[e1,e2].all Yk=true:=by rfl):QI X e (.Call (.Name "zip" p) [e1,e2] [] pos) (iZip2 X.K b1 b2 t):=by
 refine⟨λpins s σ H R I h=>(Zf3 Q D S C I h λa1 a2 xs ys n H1 s1 L Ua q2 r N M st O=>?_)⟩;obtain⟨Y,Z,G,_⟩:=id st.z;exact ZpT.iter_self G ⟨n+4,zfp n,_,_,H1,U,L,Zf2 (by constructor<;>(lia)) (zof N) (zof M),st,O,r⟩
end
end L2
namespace L2
structure Two(scope:Scope)(x x2:Str)(ys:Ai):Prop where
 own:scope.names.lookup x2=some .local
 nd:(x::x2::ys).Nodup
def Zf4(is:Aj)(σ:St)(v w:Option V):St:=v::w::is.map λi=>(σ[i]?).getD none
def vn(K:Af)(is:Aj)(tc:TT)(te:TE)(σ:St)(Q:VK)(J:It)(H1:Hp):Prop:=∃W:Nat->Nat->List V->Hp->Prop,(∃m,W 0 m [] H1)/\∀i m zs H,W i m zs H->
 (J.stop i H/\zs.length<=sizeLine/\∀p,H p=none->Q (.ref p) (upd H p (.lst zs))) \/
 (J.go i H/\zs.length<=sizeLine/\∀x H',J.yld i H x H'->∃a C D,x=.ref a/\SqT K H' a [C,D]/\tc (Zf4 is σ (some C) (some D)) H' λb H2=>if b=true then te (Zf4 is σ (some C) (some D)) H2 λy G=>∃r,r<m/\W (i+1) r (zs++[y]) G else∃r,r<m/\W (i+1) r zs H2)
def tComp2(K:Af)(wi:TI)(is:Aj)(tc:TT)(te:TE):TE:=λσ H Q=>wi σ H (vn K is tc te σ Q)
section
variable {X:Cx}{S scope:Scope}{N:Ai}{x x2:Str}{ys:Ai}{is:Aj}{pins:Ac}{σ:St}{H₂:Hp}{s₂:As}{fp:List Aw}{elt iter:Ax}{px px2 pp pos:Pos}{pq:Nat}{ifs:An}{tc:TT}{te:TE}{wi:TI}
theorem compT2(K:ZW S scope N x ys is)(r:Two scope x x2 ys)(M:X.env.scope=S)(O:X.N=N)(L:S.kind=.function)(D:X.calm=true):Zb7 X S scope N x ys is [x,x2] (.Tuple [.Name x px,.Name x2 px2] pq pp) (Zlu X.K 2 (xm (Wg 0) (xm (Wg 1) Zlt))) (λσ C=>∃G I,C=Zf4 is σ G I):=
 ⟨K,M,O,L,D,λ_ _ _ _=>Zhm D (qS (jN r.nd U (.inl (Qdi K.own)) (.inr (Qdi K.own))) (qS (jN r.nd U (.inl (Qdi r.own)) (.inr (Qdi r.own))) Zbe)),λ_=>⟨none,none,U⟩⟩
theorem conv2{F:Af}:∀σ Q J H,vn F is tc te σ Q J H->yZ (Zlu F 2 (xm (Wg 0) (xm (Wg 1) Zlt))) (λr=>∃G I,r=Zf4 is σ G I) tc te Q J H:=λσ Q J H ⟨W,D,t⟩=>
 ⟨W,D,λi m zs H w=>(t i m zs H w).imp_right λz=>⟨z.1,z.2.1,λx H' y=>by
  obtain⟨a,L,M,rfl,C,k⟩:=z.2.2 x H' y;exact⟨_,⟨_,_,U⟩,λr ⟨_,_,e⟩=>e ▸ ⟨a,_,U,C,U,_,_,U,_,_,U,U,U,U⟩,k⟩⟩⟩
def ya(K:ZW S scope N x ys is)(O:Two scope x x2 ys)(hi:QI X (.Tuple [.Name x px,.Name x2 px2] pq pp) iter wi)(M:∀C s₂ H₂ ex,QF (cxC X (x::x2::ys) scope C s₂ H₂ ex) ifs tc)(Q:∀C s₂ H₂ ex,QE (cxC X (x::x2::ys) scope C s₂ H₂ ex) elt te)
  (I:X.calm=true:=by rfl) (r:X.env.scope=S:=by rfl) (L:X.N=N:=by rfl) (D:S.kind=.function:=by rfl) (G:∀v,foldedSetIterable iter X.env v=pure v:=by intro _;rfl):
  QE X (.ListComp elt [⟨(.Tuple [.Name x px,.Name x2 px2] pq pp),iter,ifs,0⟩] scope pos) (tComp2 X.K wi is tc te):=
 gu (compT2 K O r L D I) conv2 hi M Q G
end
section
variable {prog:Aq}{w:Au}{A:Ar}{E:Ab}{s:As}{c it:Aw}{oc:Obj}{es:Array DictEntry}{ep i:Nat}
def Zf5(nm:(c == sysModules)=false)(r:s.heap.get? c=some oc)(C:oc.ExactDict)(gd:oc.data=.dict es ep)
  (q:Q (.ref s.heap.objs.size) {s with heap:=s.heap.push {cls:=.type "dict_keyiterator",data:=.fields #[.ref c,.int 0 0,.int es.size 0,.int ep 0]}}):
  A9 prog w A (pyIter (.ref c)) Q E s:=by
 have ty:s.TypeIs (.ref c) "dict" :=⟨oc,r,C.1⟩;refine Qeu ty F.slot_dict_iter (Qbd F.slot_dict_iter ty F.entry_dict_iter (by
  unfold Builtin.«dict.__iter__»;refine Qaa (Qaa (Qfw ty (Qae ?_)));show wpAny _ _ (Builtin.Dict.showsAll c >>= _) _ _ s;unfold Builtin.Dict.showsAll;rw[Qaw (λz=>by grind)];refine Qaa (Qae (Qaa (Qev r gd (Qaa (Qhg r gd (Qaa (Qbo (Qae ⟨_,U,_,_,⟨_,Qam _ U,U⟩,Qc5.lookup,?_⟩))))))));simpa[rawInt]using q) (F.args_dict_iter_1 _))
def Zc2{Q:Aa}(I:s.heap.IsKeyIter it c i es.size ep)(G:s.heap.get? c=some oc)(gd:oc.data=.dict es ep)(lt:i<es.size)
  (q:∀h',h'.IsKeyIter it c (i+1) es.size ep->Heap.SameBut it s.heap h'->Q (some es[i].key) {s with heap:=h'}):
  A9 prog w A (pyNext (.ref it)) Q E s:=by
 obtain⟨N,D,M,C⟩:=id I;have ty:=I.typeIs;refine Qaa (Qc0 (wpAny_callSpecial?_slot (name:=Str.ofString "__next__") ty Qc5
  (Qbd Qc5 ty Qf0 ?_ (Qfx _))))
 refine Qaa (Qae (Qaa (Qaa ?_)))
 first|refine Qaa (Qdh ty (Qae (Qaa (Qe0 D C ?_))))|refine Qaa _
 have L:Builtin.Dict_items.ownsTuple "dict_keyiterator" = false:=by decide
 refine Qaa (Qae (Qaa (Qev G gd ?_)));rw[Qaw (by simp)];refine Qaa (Qae (Qaa (Qhg G gd ?_)));rw[Qaw (by simp)];refine Qae ?_;simp only[show¬((i:Int)<0)from by lia,if_false,Qca,Qco lt];refine Qaa ?_
 first|refine Qaa (Qdh ty (Qae (Qaa (wpAny_isOneOf_keyiter ty ?_))))|refine Qaa _
 show wpAny _ _ (setField (.ref it) 1 (rawInt ((i:Int)+1)) >>= _) _ _ s;refine Qaa (Qcs D C (by simp) ?_);have r:(s.heap.update it (Obj.mapFields (·.setIfInBounds 1 (rawInt ((i:Int)+1))))).IsKeyIter it c (i+1) es.size ep:=
  ⟨_,Qbf _ D (Qcj (Qbm C _)),(Qd3 ..).trans M,by rw[Qbm C];simp[rawInt]⟩
 refine Qaa (Qcb (Qaa (wpAny_isOneOf_keyiter r.typeIs ?_)));exact Qae (Qae ⟨_,U,Qae (q _ r (Qbr ..))⟩)
def Zf6{Q:Aa}(hh:A.handled=none)(G:s.heap.IsKeyIter it c es.size es.size ep)(r:s.heap.get? c=some oc)(gd:oc.data=.dict es ep)
  (q:∀h',Heap.ExtBut it s.heap h'->Q none {s with heap:=h'}):A9 prog w A (pyNext (.ref it)) Q E s:=by
 obtain⟨L,D,M,C⟩:=id G;have ty:=G.typeIs;refine Qaa (Qc0 (wpAny_callSpecial?_slot (name:=Str.ofString "__next__") ty Qc5
  (Qbd Qc5 ty Qf0 ?_ (Qfx _))))
 refine Qaa (Qae (Qaa (Qaa ?_)))
 first|refine Qaa (Qdh ty (Qae (Qaa (Qe0 D C ?_))))|refine Qaa _
 have I:Builtin.Dict_items.ownsTuple "dict_keyiterator" = false:=by decide
 refine Qaa (Qae (Qaa (Qev r gd ?_)));rw[Qaw (by simp)];refine Qaa (Qae (Qaa (Qhg r gd ?_)));rw[Qaw (by simp)];refine Qae ?_;simp;refine Qaa ?_
 first|refine Qaa (Qdh ty (Qae ?_))|refine Qaa (wpAny_typeNameOf_keyiter ty (Qae ?_))
 show wpAny _ _ (setField (.ref it) 0 .none >>= _) _ _ s;refine Qaa (Qcs D C (by simp) (Qaa ?_));refine Qaa (Qbo (Qaa (m:=firstArgMember _ _) (Qcf (a:=Value.none) (by first|rfl|(rfl)) (Qbo ?_ (by size_fits)))) (by size_fits));refine Qaa (Qf9 ?_);rw[show A.in1.handled=none from hh];refine Qaa (Qae (Qg3 ?_));refine Qaa (Qcz (T:= "StopIteration") (b:=true) ⟨_,Qam _ U,U⟩ Qez (Qae ?_));exact q _ (((Qbr ..).extBut.push _).push _)
end
def Zjz{kvs:List (List Key×V)}(ok:YY P w H h a (.dT kvs)):(a == sysModules)=false /\
  ∃xs o es ep,KT H kvs xs/\h.get? a=some o/\o.ExactDict/\o.data=.dict es ep/\es.toList=xs.map (entryOfKey (tupleKind (ZQ P w))):=by
 obtain⟨z,y,xs,r,o,es,ep,h1,h2,D,C,G⟩:=ok;exact⟨y,xs,o,es,ep,r,h1,h2,D,C⟩
theorem Inv.freezeT{pins:Ac}{σ:St}{kvs:List (List Key×V)}{o:Obj}(I:Inv X pins σ H s)(e:Rd H a (.dT kvs))(C:s.heap.get? a=some o):Inv X pins σ (upd H a (.frz o (.dT kvs))) s:=by
 rcases e with e|⟨o',e⟩
 .have ne:∀b u,H b=some u->u≠.dT kvs->b≠a:=λb u r M z=>by
   grind
  refine I.step (ch:=[]) (λ_ z=>nomatch z) (λb o _ _ _ q _=>q) (λb o _ _ _ q _=>⟨o.slots,q⟩) (λb o _ _ n=>?_) (λb o _ q=>⟨o,q⟩)
   (λb xs q=>by rw[Zj (ne b _ q (λz=>nomatch z))];exact q) (λb o u q=>by rw[Zj (ne b _ q (λz=>nomatch z))];exact q) (λb ps q=>⟨#[],by rw[Zj (ne b _ q (λz=>nomatch z)),q];simp⟩) (λm D=>D) (λb u q=>?_) I.bare
  .rw[Zj (λz=>by grind)];exact n
  .have st:∀u,YY X.prog X.w H s.heap b u->YY X.prog X.w (upd H a (.frz o (.dT kvs))) s.heap b u:=λu x=>
    x.stay (λ_ _ _ q=>q) (λc q=>by rw[Zj (ne c _ q (λz=>nomatch z))];exact q) λc xs q=>by rw[Zj (ne c _ q (λz=>nomatch z))];exact q
   by_cases r:b=a
   .subst r;rw[Za]at q;cases q;exact⟨C,st _ (I.hok b _ e)⟩
   .rw[Zj r]at q;exact st u (I.hok b u q)
 .have z:=I.hok a _ e;obtain⟨L,_⟩:=z;have:=Option.some.inj (C.symm.trans L);subst this;have G:upd H a (.frz o (.dT kvs))=H:=by
   funext b;unfold upd;split
   .rename_i r;rw[r,e]
   .rfl
  rw[G];exact I
def ItD(a:Aw)(o:Obj)(kvs:List (List Key×V)):It:=⟨λi H=>i<kvs.length/\H a=some (.frz o (.dT kvs)),λi H v H'=>H'=H/\∃p b,kvs[i]?=some p/\v=.ref b/\H b=some (.tup (p.1.map kV)),λi H=>i=kvs.length/\H a=some (.frz o (.dT kvs))⟩
theorem KT.at{H:Hp}{kvs:List (List Key×V)}{xs:List (List Key×Aw×Av)}(r:KT H kvs xs){i:Nat}{q:List Key×Aw×Av}(h:xs[i]?=some q):∃p,kvs[i]?=some p/\H q.2.1=some (.tup (p.1.map kV)):=by
 induction r generalizing i with
 |nil=>simp at h
 | @cons p q' ps D e t C=>
  cases i with
  |zero=>
   simp at h;subst h;exact⟨p,U,e.2.1⟩
  |succ j=>
   exact C h
def Zad{tg:Ax}(a it:Aw)(o:Obj)(kvs:List (List Key×V))(ep:Nat)(O:∃es,o.data=.dict es ep)(hne:a≠it):Turn P w K tg (ItD a o kvs) [it] it (λi h=>h.IsKeyIter it a i kvs.length ep)where
 mem:=by simp
 obj:=λi h st b N=>by
  have e:b=it:=by simpa using N
  subst e;obtain⟨o,e,c,d⟩:=st;exact⟨o,e,λv z=>by rw[d]at z;cases z⟩
 keep:=λi h h' st k=>st.at λo e=>k it (by simp) o e
 item:=by
  intro X Z hw hK hc i pins s σ H E I Y st hg;subst Z hw hK;obtain⟨hi,hH⟩:=hg;obtain⟨f0,f1,f2,f3,f4,f5⟩:=Y it (by simp);obtain⟨Ua,ok⟩:=(I.hok a _ hH);obtain⟨nm,xs,o',es,ep',r,L,hex,C,G⟩:=Zjz ok;have eo:o'=o:=Option.some.inj (L.symm.trans Ua);subst eo;obtain⟨es2,D⟩:=O;rw[C]at D;cases D;have hsz:es.size=kvs.length:=by rw[Qhh G,Qdj r]
  rw[<-hsz]at st;have S:i<es.size:=by rw[hsz];exact hi
  have hx:i<xs.length:=by rw[<-Qdj r];exact hi
  refine Zc2 st Ua C S λh' M sb=>?_;obtain⟨oi,e,cc,d⟩:=id M;have ek:=entry_at G i;rw[Qco S,Qac hx]at ek;have ek2:es[i].key=.ref (xs[i]).2.1:=by rw[Option.some.inj ek];rfl
  obtain⟨p,hp1,hp2⟩:=r.at (Qac hx);rw[ek2];rw[hsz]at M;exact⟨_,U,kI e cc d (by decide) ⟨.ref (xs[i]).2.1,H,I.turned (λb o N e=>sb.extBut b o (λh=>N (by simp[h])) e) f0 f1 f3 f4 f5,U,⟨U,p,_,hp1,U,hp2⟩,M,λb N=>(Y b N).1⟩⟩
 done:=by
  intro X Z hw hK hc i pins s σ H E I Y st hg;subst Z hw hK;obtain⟨hi,hH⟩:=hg;obtain⟨f0,f1,f2,f3,f4,f5⟩:=Y it (by simp);obtain⟨Ua,ok⟩:=(I.hok a _ hH);obtain⟨nm,xs,o',es,ep',r,L,hex,C,G⟩:=Zjz ok;have eo:o'=o:=Option.some.inj (L.symm.trans Ua);subst eo;obtain⟨es2,D⟩:=O;rw[C]at D;cases D;have hsz:es.size=kvs.length:=by rw[Qhh G,Qdj r]
  rw[hi,<-hsz]at st;exact Zf6 (I.ok.hd hc) st Ua C λh' kk=>⟨U,I.turned (t':=s.toks) (λb o N e=>kk b o (λh=>N (by simp[h])) e) f0 f1 f3 f4 f5⟩
 self:=λA i s Q E st h=>wpAny_pyIter_keyiter st h
def iDictT(te:TE):TI:=λσ H R=>te σ H λx H1=>∃a kvs,x=.ref a/\Rd H1 a (.dT kvs)/\∀o,R (ItD a o kvs) (upd H1 a (.frz o (.dT kvs)))
def Zf7{tg:Ax}(Y:QE X e d):QI X tg e (iDictT d):=by
 refine⟨λpins s σ H R I h=>(thn (Y.out pins s σ H _ I h) λv O ⟨y,H1,N,Q,Ua⟩=>?_)⟩;obtain⟨a,kvs,rfl,e,q⟩:=Ua;cases Q;obtain⟨nm,xs,o,es,ep,C,L,M,r,G⟩:=Zjz (Zjn N.hok e);have D:=N.freezeT e L;have hsz:es.size=kvs.length:=by rw[Qhh G,Qdj C]
 refine Zf5 nm L M r ?_;have st:(O.heap.push {cls:=.type "dict_keyiterator",data:=.fields #[.ref a,.int 0 0,.int es.size 0,.int ep 0]}).IsKeyIter O.heap.objs.size a 0 kvs.length ep:=by
  rw[hsz];exact⟨_,Qam _ U,U,U⟩
 refine⟨_,_,_,_,_,U,D.kept λb o e=>Qad _ e,Zad a _ o kvs ep ⟨es,r⟩ (Qbc (Qav L)),st,λb S=>?_,q o⟩;have e:=by simpa using S
 subst e;exact D.fpOk (Qah _) (D.hok.fresh (Qah _))
theorem gF:QE X (.Dict [] [] p) tDNewT:=⟨λpins s σ H Q I h=>
 wpAny_Dict_empty ⟨.ref _,_,I.laid (λ_ _ q=>Qad _ q) (Qah _) (gy s.heap I.big),U,h _ (I.hok.fresh (Qah _))⟩⟩
def Zj0(tk tv:TE):TE:=λσ H Q=>∀p,H p=none->tk σ (upd H p (.dT [])) λx H1=>tv σ H1 λy H2=>H2 p=some (.dT [])/\∃b ks,x=.ref b/\H2 b=some (.tup (ks.map kV))/\Q (.ref p) (upd H2 p (.dT [(ks,y)]))
def PP1(X:Cx)(pos:Pos)(k v:Ax)(tk tv:TE):Prop:=∀pins s σ H (R:V->V->Hp->Prop),Inv X pins σ H s->(tk σ H λx H1=>tv σ H1 λy H2=>R x y H2)->
 Ba X (evalPairs (pairTrees [some k] [v] X.env pos)) (λC D=>∃x y u r H2,C=[(u,r)]/\Inv X pins σ H2 D/\RelV x u/\RelV y r/\R x y H2) X.xe s
def store1{A:Ar}{E:Ab}{p b:Aw}{ks:List Key}{Q:PUnit->Shared->Prop}(G:A.units<cLine)(I:Inv X m c H s)(e:H p=some (.dT []))(C:H b=some (.tup (ks.map kV)))(M:RelV y u)
  (q:∀s',Inv X m c (upd H p (.dT [(ks,y)])) s'->Q PUnit.unit s'):A9 X.prog X.w A (storeAll p [(.ref b,u)]) Q E s:=by
 unfold storeAll;rw[Qhe];obtain⟨z,N,xs,r,dd⟩:=Zmb I.hok e;cases r;refine Qaa (Qaa (wpAny_dictSet_heap G (xy I.hok C) dd λh' dd' L=>Qae ?_));show wpAny _ A _ Q E _;refine Qae (q _ ?_);obtain⟨o,es,ep,D,h2,Y,Ua,_,O⟩:=dd';have S:(upd H p (.dT [(ks,y)])) b=some (.tup (ks.map kV)):=by
  rw[Zj (ZY C e (λz=>nomatch z))];exact C
 exact x4 I (by rw[e];exact True.intro) L ⟨o,D⟩ ⟨(Zlr),N,_,.cons ⟨U,S,M⟩ .nil,o,es,ep,D,h2,Y,Ua,O⟩
def pp1{k v:Ax}{tk:TE}(L:QE X k tk)(M:QE X v d):PP1 X p k v tk d:=by
 intro pins s σ H R I q;refine pairTrees_cons_walk (thn (L.out pins s σ H _ I q) λu Q ⟨x,H1,N,O,G⟩=>thn (M.out pins Q σ H1 _ N G) λr Ua ⟨y,H2,D,C,S⟩=>pairTrees_nil_walk ⟨x,y,u,r,H2,U,D,O,C,S⟩)
def Zc3{k v:Ax}{tk:TE}(Y:X.A.units+1<cLine)(L:QE X k tk)(M:QE X v d):QE X (.Dict [some k] [v] p) (Zj0 tk d):=by
 refine⟨λpins s σ H Q I q=>?_⟩;refine wpAny_Dict_any U U (λz=>nomatch z) (by simp) (thn (pp1 L M pins _ σ _ _ (I.laid (λ_ _ q=>Qad _ q) (Qah _) (gy s.heap I.big)) (q _ (I.hok.fresh (Qah _)))) λZ s2 ⟨x,y,u,r,H2,O,D,N,C,e,b,ks,ex,G,Ua⟩=>?_);subst O ex;cases(N);exact store1 (by lia) D e G C λs' S=>⟨.ref _,_,S,U,Ua⟩
theorem Zj1{b1 b2:Bool}{a1 a2:Aw}{xs ys:A8}{g:TG}{σ:St}(r:Nat->St->Hp->Prop)(Ua:r 0 σ H)(G:∀i σ H,r i σ H->SqB K b1 H a1 xs/\SqB K b2 H a2 ys)
  (N:∀i x y p σ H,xs[i]?=some x->ys[i]?=some y->r i σ H->H p=none->g (.ref p) σ (upd H p (.tup [x,y])) λC H2=>q {S with nx:=r (i+1),ct:=r (i+1),bk:=S.nx} C H2) (O:∀σ H,r (xs.zip ys).length σ H->S.nx σ H):
  Zfi (Itz K b1 b2 a1 a2) g q S σ H:=
 qk _ r Ua (λi σ H hi p=>by
  obtain⟨L,M⟩:=G i σ H p;have Y:(xs.zip ys).length=min _ _:=Qfk;have D:=Qac (show i<xs.length by lia);have I:=Qac (show i<ys.length by lia);refine⟨⟨xs,ys,_,_,L,M,D,I⟩,λx H' y=>?_⟩;obtain⟨c,Q,rfl,e⟩:=y;rw[e xs ys _ _ L M D I];exact N i _ _ c σ H D I p Q) λσ H p=>⟨⟨xs,ys,(G _ σ H p).1,(G _ σ H p).2,by grind⟩,O σ H p⟩
def Zae{xs:A8}{is:Aj}(r:Nat->List V->Hp->Prop)(Y:r 0 [] H)(N:∀i zs H,r i zs H->zs.length<=sizeLine)(Ua:∀i zs H,r i zs H->SqL K H a xs)
  (O:∀i x zs H (R:A8->Hp->Prop),(∀zs H,r (i+1) zs H->R zs H)->xs[i]?=some x->r i zs H->∃a C D,x=.ref a/\SqT K H a [C,D]/\G (Zf4 is c (some C) (some D)) H λb H2=>if b=true then d (Zf4 is c (some C) (some D)) H2 λy Z=>R (zs++[y]) Z else R zs H2)
  (S:∀zs H,r xs.length zs H->∀p,H p=none->I (.ref p) (upd H p (.lst zs))):
  vn K is G d c I (Itl K a) H:=by
 refine⟨λi m zs H=>m=xs.length-i/\i<=xs.length/\r i zs H,⟨xs.length,by simp,Qbe _,Y⟩,?_⟩;rintro i m zs H ⟨rfl,hi,p⟩;have q:=Ua i zs H p
 by_cases L:i<xs.length
 .refine .inr ⟨⟨xs,xs[i],q,by simp⟩,N i zs H p,λx H' y=>?_⟩;obtain⟨e,y⟩:=y;subst e;exact O i x zs _ (λzs H=>∃M,M<xs.length-i/\(λi m zs H=>m=xs.length-i/\i<=xs.length/\r i zs H) _ M zs H) (λzs H Q=>⟨_,by lia,U,L,Q⟩) (y xs q) p
 .have e:i=xs.length:=by lia
  subst e;exact .inl ⟨⟨xs,q,Qah _⟩,N _ zs H p,S zs H p⟩
def HT.cat_tup0{prog:Aq}{A:Ar}{E:Ab}{t b:Aw}(N:IsTup s.heap t #[])(Y:IsTup s.heap b Ua.toArray)(q:Q (.ref b) s):
  A9 prog w A (binaryOp .Add (.ref t) (.ref b)) Q E s:=by
 obtain⟨⟨cls,dd,data,O⟩,L,Z,n,S⟩:=id N;obtain⟨⟨M,G,data2,D⟩,r,I,n2,C⟩:=id Y;subst Z S I C;exact concat_meets ⟨_,L,U⟩ ⟨_,r,U⟩ Qg7 seq_tuple_add Qfn Qfd (Qe7 _ _)
  (tuple_addW0 t b #[] _ n n2 dd G O D U) ⟨L,r,q⟩
inductive Zc4(x:V)(y:V)(H:Hp)(Q:VK):Prop
 |mk (a b xs ys:_):(x=.ref a)->(y=.ref b)->(H a=some (.tup xs))->(H b=some (.tup ys))->(xs.length+ys.length<=sizeLine)->(∀p H',H' p=some (.tup (xs++ys))->Z7 H H'->Q (.ref p) H')->Zc4 x y H Q
def rCatG  : R2:=λx y H Q=>Zc4 x y H Q
def Ja:OpR X (binaryOp .Add) rCatG:=by
 intro pins s σ H x y v u Q I Ua N h;obtain⟨a,b,xs,ys,rfl,rfl,M,G,S,q⟩:=h;cases Ua;cases N;obtain⟨O,r,p1,_⟩:=I.tuple (SqT.of M);obtain⟨L,D,p2,_⟩:=I.tuple (SqT.of G)
 by_cases C:xs=[]
 .have e:=r.nil_iff.mpr C;subst e C;exact HT.cat_tup0 p1 p2 ⟨.ref b,H,I,U,q b H G λ_ _ z=>z⟩
 .refine HT.cat_tup p1 p2 (λz=>C (r.nil_iff.mp z)) (λz=>⟨.ref a,H,I,U,q a H ?_ λ_ _ z=>z⟩) (λz=>?_) (by rw[<-r.length,<-D.length];exact S)
  .rw[D.nil_iff.mp z,Qbv];exact M
  .have Y:=I.hok.fresh (Qah _);refine⟨.ref _,_,I.laid (λb ob q=>Qad _ q) (Qah _) ?_,U,q _ _ Za λc o z=>by rw[Zj (λe=>by grind)];exact z⟩;exact⟨by grind,_,r.append D,gj.new _ _⟩
open PySem.W (hideAll of_hideAll hideAll_get hideAll_none funFrames_hide)
end L2
namespace L2
open PySem
def hideG{r:Prop}(h:∀G:Prop,(r->G)->G):r:=h r λz=>z
theorem len1{P:List g->Prop}(h:∀a,P [a]):∀r:List g,r.length=1->P r
 |[a],_=>h a
theorem len2{P:List g->Prop}(h:∀a b,P [a,b]):∀r:List g,r.length=2->P r
 |[a,b],_=>h a b
theorem len3{P:List g->Prop}(h:∀a b c,P [a,b,c]):∀r:List g,r.length=3->P r
 |[a,b,c],_=>h a b c
theorem len4{P:List g->Prop}(h:∀a b c d,P [a,b,c,d]):∀r:List g,r.length=4->P r
 |[a,b,c,d],_=>h a b c d
theorem len5{P:List g->Prop}(h:∀a b c d e,P [a,b,c,d,e]):∀r:List g,r.length=5->P r
 |[a,b,c,d,e],_=>h a b c d e
theorem walk_X{q:Aq}{O:(Ae)->Heap->Prop}{K:Params->PySem.W.Frag}{as:List Aw}{t:Nat}{r:PySem.W.RowW}{d:DefRec}{C:List (Str×Ax)}{run:Av->List Av->Sem Av}
  (e:∀P,as=(K P).map (·.1)) (W:PySem.W.WalkO q N O (PySem.W.InK K) r d C run):PySem.W.WalkX q N O (PySem.W.X.obsZ as) (PySem.W.X.valZ K n t) r d C run:=
 λw s₀ D mg Ua G y a o pm cd M Q kV e1 e2 e3 S e5 Y args I as L p l R Z nn=>
  W w s₀ D mg Ua G (PySem.W.InK.keeps w _ _ (PySem.W.X.z_facts e y).2.1 L.keeps) a o pm cd M Q kV e1 e2 e3 S e5 Y args I as p l R Z nn
def noT(K:Af):Af:=K.filter λp=>match p.2.cls,p.2.data with
 |.none,.fields _=>false
 |_,_=>true
def noT_ok(K:Af):PySem.W.noTabs (noT K)=true:=by
 unfold PySem.W.noTabs noT;rw[Qb2];intro p r;exact(Qdm.mp r).2
def nodB:Aj->Bool
 |[]=>true
 |a::r=>r.all (λb=>!(Nat.beq a b))&&nodB r
theorem lookup_mem{a:Aw}{o:Obj}:∀{K:Af},K.lookup a=some o->(a,o)∈K
 |(b,u)::r,h=>by
  rw[Qc9]at h
  by_cases e:(a == b)=true
  .grind
  .rw[Bool.eq_false_iff.mpr e]at h;exact Qal _ (lookup_mem h)
theorem mem_lookup{a:Aw}{o:Obj}:∀{K:Af},nodB (K.map (·.1))=true->(a,o)∈K->K.lookup a=some o
 |(b,u)::r,D,h=>by
  rw[Qc9];have C:=Qf5.mp D;rcases Qas.mp h with e|e
  .cases e;rw[Qct]
  .have G:(a == b)=false:=by
    rw[Qea];intro z;have:=Qb2.mp C.1 a (Qb5 e);rw[z,Nat.beq_refl b]at this;cases this
   rw[G];exact mem_lookup C.2 e
theorem in_noT(r:nodB (K.map (·.1))=true)(X:K.In h):(noT K).In h:=λa o e=>
 X a o (mem_lookup r (Qdm.mp (lookup_mem e)).1)
def cxK{CX:CXT}{mg:Ae}{qual:Str}{scope:Scope}{A:Ar}{outer:List Env}{E:XK}:(Zfl CX P w K mg h N qual scope f u A outer s H E).nox.K=K:=rfl
def cxK2{CX:CXT}{mg:Ae}{qual:Str}{scope:Scope}{A:Ar}{outer:List Env}{E:XK}:(Zfl CX P w K mg h N qual scope f u A outer s H E).K=K:=rfl
def let3{C r:TS}(h:let G:=r;let D:=Yl C G;Yl q D S c H):Yl q (Yl C r) S c H:=h
def let5{D C G r:TS}(h:let L:=r;let M:=Yl G L;let N:=Yl C M;let I:=Yl D N;Yl q I S c H):Yl q (Yl D (Yl C (Yl G r))) S c H:=h
def let6{D C G r I:TS}(h:let N:=I;let M:=Yl r N;let O:=Yl G M;let Q:=Yl C O;let L:=Yl D Q;Yl q L S c H):Yl q (Yl D (Yl C (Yl G (Yl r I)))) S c H:=h
end L2
namespace ZpT
abbrev Zig (h:Heap) (T:Aw) (a b c:Av):Prop:=h.get? T=some {cls:=.type "tuple",data:=.seq #[a,b,c]}
end ZpT
namespace L2
theorem yb{o:HO}(h:H a=none):Z7 H (upd H a o):=λb o' e=>by
 rw[Zj (λz=>by grind)];exact e
def b2i(b:Bool):Int:=if b=true then 1 else 0
def Zmh(k:Int):Av->Bool
 |.int i _=>i == k
 |.bool b=>b2i b == k
 |_=>false
def YS{k:Int}{v:Av}(h:Zmh k v=true):(∃t,v=.int k t)\/∃b,v=.bool b/\k=b2i b:=by
 cases v with
 |int i t=>exact .inl ⟨t,by rw[eq_of_beq h]⟩
 |bool b=>exact .inr ⟨b,U,(eq_of_beq h).symm⟩
 |_=>cases h
section
variable {prog:Aq}{w:Au}
def wb{A:Ar}{E:Ab}{b:Bool}{Q:Int->Shared->Prop}(h:Q (hashInt (b2i b)) {s with toks:=s.toks+1}):A9 prog w A (pyHash (.bool b)) Q E s:=by
 refine PySem.W.pyHash_slot (T:= "bool") U F.slot_bool_hash F.entry_int_hash (F.args_int_hash_1 _) (by decide +kernel) (.inl U) ?_;cases b
 .exact Qaa (Qcf U (Qaa (Qgf (Qae ⟨0,_,U,h⟩))))
 .exact Qaa (Qcf U (Qaa (Qgf (Qae ⟨1,_,U,h⟩))))
end
def dec_eq(a b:Int):decide (a=b)=(a == b):=by grind
def YL(prog:Aq)(w:Au):KeyKind prog w Int where
 is:=Zmh
 hash:=hashInt
 inj:=λv a b G C=>by
  rcases YS G with⟨t,rfl⟩|⟨x,rfl,rfl⟩
  .exact(eq_of_beq (show(a == b)=true from C))
  .exact(eq_of_beq (show(b2i x == b)=true from C))
 byValue:=λk v h=>by
  rcases YS h with⟨t,rfl⟩|⟨x,rfl,rfl⟩<;>rfl
 pyHash:=λr h=>by
  rcases YS r with⟨t,rfl⟩|⟨x,rfl,rfl⟩
  .exact Qg6 h
  .exact wb h
 eqBool:=λD r h=>by
  rw[dec_eq]at h;rcases YS D with⟨t,rfl⟩|⟨x,rfl,rfl⟩
  .rcases YS r with⟨u,rfl⟩|⟨y,rfl,rfl⟩
   .exact wpAny_eqBool_int h
   .exact SeqAt.EqAt.int_bool _ t y _ _ _ _ h
  .rcases YS r with⟨u,rfl⟩|⟨y,rfl,rfl⟩
   .exact SeqAt.EqAt.bool_int x _ u _ _ _ _ h
   .refine SeqAt.EqAt.bool_bool x y _ _ _ _ ?_;have e:(b2i x == b2i y)=(x == y):=by cases x<;>cases y<;>rfl
    rw[e]at h;exact h
 «strs»:=λk x t v h=>by cases h
section
variable {prog:Aq}{w:Au}
def IsPair(prog:Aq)(w:Au)(h:Heap)(k:Int×Ak)(a:Aw):Prop:=
 ∃o n t tk,h.get? a=some o/\o.cls=.type "tuple" /\ o.data=.seq #[.int k.1 tk,.ref t] n/\IsTupleKey (YL prog w) h k.2 t
def gG(prog:Aq)(w:Au)(k:Int×Ak):Int:=reduceHash (Builtin.Tuple.tupleHashOf [hashInt k.1,tupleKeyHash (YL prog w) k.2])
def IsPair.inj{h:Heap}{a:Aw}{x y:Int×Ak}(p:IsPair prog w h x a)(q:IsPair prog w h y a):x=y:=by
 obtain⟨o,n,t,tk,e,c,d,k⟩:=p;obtain⟨o',n',t',I,r,c',C,L⟩:=q;rw[e]at r;cases r;rw[d]at C;injection C with N S;injection congrArg Array.toList N with M O;injection M with D _;injection O with G _;injection G with Q;subst Q;have:=(tupleKind _).inj k L;exact Qht D this
def IsPair.keeps{h h':Heap}{k:Int×Ak}{a d:Aw}{o:Obj}{es:Array DictEntry}{ep:Nat}(p:IsPair prog w h k a)(e:h.get? d=some o)(C:o.data=.dict es ep)(s:Heap.SameBut d h h'):IsPair prog w h' k a:=by
 obtain⟨D,n,t,tk,e1,G,I,k1⟩:=p;have r:a≠d:=λz=>by
  grind
 exact⟨D,n,t,tk,(s.2 a r).trans e1,G,I,(tupleKind _).keeps k1 e C s⟩
def IsPair.pyHash{A:Ar}{E:Ab}{s:As}{k:Int×Ak}{a:Aw}{Q:Int->Shared->Prop}(C:A.units+1<cLine)(p:IsPair prog w s.heap k a)
  (h:Q (gG prog w k) {s with toks:=s.toks+(k.2.length+3)}):A9 prog w A (PySem.pyHash (.ref a)) Q E s:=by
 obtain⟨o,n,t,tk,e,c,d,G⟩:=p;refine PySem.W.pyHash_slot (T:= "tuple") (id:= "tuple.__hash__") (B:=Builtin.«tuple.__hash__») ⟨o,e,c⟩ F.slot_tuple_hash F.entry_tuple_hash (F.args_tuple_hash_1 _) (by decide +kernel) (.inr (by lia)) ?_;refine Qaa (Qcf (a:=(Value.ref a,[])) U ?_);refine Qaa (wpAny_tupleItemsOf e d ?_);refine Qaa (Qgo _ (λrest r s'=>(rest=[.int k.1 tk,.ref t]/\r=#[]/\s'=s)\/(rest=[.ref t]/\r=#[hashInt k.1]/\s'={s with toks:=s.toks+1})\/(rest=[]/\r=#[hashInt k.1,tupleKeyHash (YL prog w) k.2]/\s'={s with toks:=s.toks+1+(k.2.length+1)})) _ ?_ ?_ _ _ (.inl ⟨U,U,U⟩))
 .rintro x rest b s' (⟨e1,rfl,rfl⟩|⟨e1,rfl,rfl⟩|⟨e1,_,_⟩)
  .cases e1;exact Qaa (Qg6 (Qae (.inr (.inl ⟨U,U,U⟩))))
  .cases e1;refine Qaa (wpAny_pyHash_tuple (knd:=YL prog w) (ks:=k.2) (by exact C) G (Qae (.inr (.inr ⟨U,U,U⟩))))
  .cases e1
 .rintro b s' (⟨e1,_,_⟩|⟨e1,_,_⟩|⟨_,rfl,rfl⟩)
  .cases e1
  .cases e1
  .refine Qaa (Qgf (Qae ⟨_,_,U,?_⟩));have D:s.toks+1+(k.2.length+1)+1=s.toks+(k.2.length+3):=by lia
   rw[D];exact h
theorem _root_.PySem.IsTupleKey.any{ks:Ak}(k:IsTupleKey (YL prog w) h ks a)(r:Aq)(C:Au):IsTupleKey (YL r C) h ks a:=by
 obtain⟨o,items,n,e,c,d,it⟩:=k;have go:∀{ks:Ak} {vs:Ag},ItemsAre (YL prog w) ks vs->ItemsAre (YL r C) ks vs:=by
  intro ks vs hh
  induction hh with
  |nil=>exact .nil
  |cons h1 _ D=>exact .cons h1 D
 exact⟨o,items,n,e,c,d,go it⟩
def IsPair.eqBool{A:Ar}{E:Ab}{s:As}{x y:Int×Ak}{a b:Aw}{Q:Bool->Shared->Prop}(S:A.units+1<cLine)(p:IsPair prog w s.heap x a)(q:IsPair prog w s.heap y b)
  (h:Q (decide (x=y)) s):A9 prog w A (PySem.eqBool (.ref a) (.ref b)) Q E s:=by
 by_cases G:a=b
 .subst G;have:=p.inj q;rw[Qaq this]at h;exact Qhd _ prog w E Q h
 .obtain⟨o,n,t,tk,e,c,d,M⟩:=p;obtain⟨o',n',t',C,O,c',Ua,I⟩:=q;have it:∀j (h1:j<(#[Value.int x.1 tk,.ref t]).size) (h2:j<(#[Value.int y.1 C,.ref t']).size),SeqAt.EqAt A.in1 s (#[Value.int x.1 tk,.ref t])[j] (#[Value.int y.1 C,.ref t'])[j] (if j=0 then x.1 == y.1 else decide (x.2=y.2)):=by
   intro j h1 h2
   match j,h1,h2 with
   |0,_,_=>exact SeqAt.EqAt.int_int x.1 tk y.1 C
   |1,_,_=>exactλD L Y Z h'=>wpAny_eqBool_tuple (S) (M.any D L) (I.any D L) h'
  have r:=SeqAt.RcAt.tuples ⟨o,e,c,n,d⟩ ⟨o',O,c',n',Ua⟩ (by lia) it;have N:((List.range (min (#[Value.int x.1 tk,.ref t]).size (#[Value.int y.1 C,.ref t']).size)).all (λj=>if j=0 then x.1 == y.1 else decide (x.2=y.2))&&(#[Value.int x.1 tk,.ref t]).size == (#[Value.int y.1 C,.ref t']).size)=decide (x=y):=by
   show((x.1 == y.1)&&(decide _&&true)&&true)=decide _
   by_cases h1:x.1=y.1
   .grind
   .grind
  rw[N]at r;exact SeqAt.EqAt.of_refs G r prog w E Q h
theorem Zaf{A:Ar}{E:Ab}{ks:Ak}{Q:Bool->Shared->Prop}(m:Nat)(k:IsTupleKey (YL prog w) s.heap ks a)(h:Q true s):A9 prog w A (eqIsQuiet (m+1) (.ref a)) Q E s:=by
 obtain⟨o,items,n,e,c,d,it⟩:=k;rw[eqIsQuiet.eq_2];have C:s.TypeIs (.ref a) "tuple" :=⟨o,e,c⟩;refine Qaa (Qd2 C F.slot_tuple_eq.lookup ?_);refine Qaa (Qcz (b:=true) C (by kernel_rfl) ?_);refine Qaa (Qci e d (Qaa (Qgo _ (λrest b s'=>(∀v∈rest,carriedByValue v=true)/\b=(none,())/\s'=s) _ ?_ ?_ _ _ ⟨λv r=>?_,U,U⟩)))
 .rintro x rest b s' ⟨r,rfl,rfl⟩;refine Qaa ?_;rw[eqIsQuiet_byValue m (r x Qaj)];exact Qae (Qae ⟨λv G=>r v (Qal _ G),U,U⟩)
 .rintro b s' ⟨_,rfl,rfl⟩;exact Qae h
 .have go:∀{ks:Ak} {vs:Ag},ItemsAre (YL prog w) ks vs->∀v∈vs,carriedByValue v=true:=by
   intro ks vs hh
   induction hh with
   |nil=>exactλv r=>nomatch r
   |cons h1 _ D=>
    intro v r;rcases Qas.mp r with rfl|r
    .exact(YL prog w).byValue _ _ h1
    .exact D v r
  exact go it v r
def IsPair.quiet{A:Ar}{E:Ab}{k:Int×Ak}{Q:Bool->Shared->Prop}(p:IsPair prog w s.heap k a)(h:Q true s):A9 prog w A (eqIsQuiet 8 (.ref a)) Q E s:=by
 obtain⟨o,n,t,tk,e,c,d,C⟩:=p;rw[eqIsQuiet.eq_2];have r:s.TypeIs (.ref a) "tuple" :=⟨o,e,c⟩;refine Qaa (Qd2 r F.slot_tuple_eq.lookup ?_);refine Qaa (Qcz (b:=true) r (by kernel_rfl) (Qaa (Qci e d ?_)));refine Qaa (Qgo _ (λrest b s'=>(rest=[.int k.1 tk,.ref t]\/rest=[.ref t]\/rest=[])/\b=(none,())/\s'=s) _ ?_ ?_ _ _ ⟨.inl U,U,U⟩)
 .rintro x rest b s' ⟨D,rfl,rfl⟩;rcases D with e1|e1|e1
  .cases e1;refine Qaa (Qae (Qae ⟨.inr (.inl U),U,U⟩))
  .cases e1;exact Qaa (Zaf 6 C (Qae ⟨.inr (.inr U),U,U⟩))
  .cases e1
 .rintro b s' ⟨_,rfl,rfl⟩;exact Qae h
end
def Zf8(prog:Aq)(w:Au):HeapKind prog w (Int×Ak)where
 is:=IsPair prog w
 hash:=gG prog w
 draws:=λk=>k.2.length+3
 room:=λA=>A.units+1<cLine
 inj:=λp q=>p.inj q
 keeps:=λp e C s=>p.keeps e C s
 pyHash:=λr p h=>p.pyHash r h
 eqBool:=λr p q h=>p.eqBool r q h
 quiet:=λp h=>p.quiet h
section
variable {prog:Aq}{w:Au}{K:Type}[DecidableEq K]
theorem Zf9{xs:List (K×Aw×Av)}{k:K}{j:Nat}{p:Aw×Av}(C:(xs.map (·.1)).Nodup)(h:xs[j]?=some (k,p)):atKey xs k=some p:=by
 unfold atKey
 induction xs generalizing j with
 |nil=>cases h
 |cons x r D=>
  rw[Qbw,Qa9]at C;rw[Qhi];cases j with
  |zero=>
   cases h;rw[Qaq U];rfl
  |succ j=>
   rw[Qan λz=>C.1 (by rw[z];exact Qap.mpr ⟨_,Qat h,U⟩)];exact D C.2 h
def Zag{xs:List (K×Aw×Av)}{k:K}(h:∀(j:Nat)(p:Aw×Av),xs[j]?≠some (k,p)):atKey xs k=none:=by
 unfold atKey;rw[Option.map_eq_none_iff,List.find?_eq_none];intro x C z;obtain⟨j,r⟩:=Qex C;refine h j x.2 ?_;rw[r,<-Qbb z]
def GS(knd:HeapKind prog w K)(d a:Aw)(Y:(d == sysModules)=false)(dflt:Av):
  MeetsIn prog w (Builtin.«dict.setdefault» ⟨[.ref d,.ref a,dflt],[]⟩) λA R s=>knd.room A.in1/\∃k xs,knd.is s.heap k a/\Heap.DictOfH knd s.heap d xs/\xs.length<=sizeLine /\
   (∀p,atKey xs k=some p->R (.ok (.ret p.2)) {s with toks:=s.toks+knd.draws k}) /\
   (atKey xs k=none->∀h',Heap.DictOfH knd h' d (xs++[(k,a,dflt)])->Heap.SameBut d s.heap h'->R (.ok (.ret dflt)) {s with heap:=h',toks:=s.toks+knd.draws k}):=by
 intro A R s ⟨hr,k,xs,hk,dd,M,h1,h2⟩;obtain⟨o,es,ep,e,ex,C,r,D,G⟩:=id dd;refine Qaa ?_;refine Qaa (Qfw dd.typeIs ?_);refine Qaa (Qcf (a:=()) U ?_);refine Qaa (Qcf U ?_);refine Qaa (Qcf (a:=d) U (Qae ?_));try dsimp only
 rw[Y,Qaw (by decide)];refine Qaa ?_;refine Qcb (Qaa (knd.pyHash hr hk ?_));refine Qaa (wpAny_dictFind_heap hr hk e C r D G (λI=>?_) (λj p L=>?_))
 .refine Qaa (Qdl (Qaa (wpAny_updateDictKeys e C (Qae (Qae ?_)) ?_ ?_)))
  .refine h2 (Zag I) _ ?_ (Qbr ..);obtain⟨oc,od,Z,osl⟩:=o;obtain⟨x1,x2,x3⟩:=ex;subst C;have Ua:Heap.SameBut d s.heap (s.heap.update d (Obj.mapDictKeys λx=>x.push {hash:=knd.hash k,key:=.ref a,val:=dflt})):=Qbr ..;refine⟨_,_,_,Qbf _ e U,⟨x1,x2,x3⟩,U,?_,λx Q=>?_,?_⟩
   .rw[Qgx,r,Qau];rfl
   .rcases Qbl.mp Q with z|z
    .exact knd.keeps (D x z) e U Ua
    .rw[Qao.mp z];exact knd.keeps hk e U Ua
   .rw[Qau,Qd5];refine⟨G,Qa9.mpr ⟨Qbq,Qbu⟩,λy S z M q=>?_⟩;rw[Qbw,List.map_nil,Qao]at M;rw[q,M]at S;obtain⟨x,Q,ex⟩:=Qap.mp S;obtain⟨j,L⟩:=Qex Q;have O:x.1=k:=ex;exact I j x.2 (by rw[L,<-O])
  .rw[<-Qb0,r,Qab];exact M
  .grind
 .refine Qaa (Qev e C ?_);have N:es[j]?=some (entryOfKey knd (k,p)):=by
   rw[<-Array.getElem?_toList,r,Qai,L];rfl
  rw[N];exact Qaa (Qdl (Qae (Qae (h1 p (Zf9 G L)))))
end
def Zj2{prog:Aq}{A:Ar}{E:Ab}{d:Aw}{o:Obj}{es:Array DictEntry}{ep:Nat}(G:(d == sysModules)=false)(e:s.heap.get? d=some o)(ex:o.ExactDict)(C:o.data=.dict es ep)(D:es.size<=sizeLine)
  (h:Q (.int (es.size:Int) (s.toks+1)) {s with toks:=s.toks+1+1}):A9 prog w A (call (.builtin "len") [.ref d]) Q E s:=by
 have r:s.TypeIs (.ref d) "dict" :=⟨o,e,ex.1⟩;rw[Qhr]at D;refine call_len_slot r F.slot_dict_len (λI h'=>(Qbd F.slot_dict_len r F.entry_dict_len ?_ (F.args_dict_len_1 _))) (by lia) (by lia) h;refine Qaa (Qaa (Qfw r (Qaa (Qcf U (Qae (Qaa (Qcf U (Qaa (Qaa (Qev e C (Qae (Qaa ?_))))))))))));unfold Builtin.Dict.pendingCount;rw[G];refine Qae (Qaa (Qgf (Qae ⟨_,U,h'⟩)))
structure KN(Kk:Type)[DecidableEq Kk]where
 knd:∀(P:Aq)(w:Au),HeapKind P w Kk
 hsh:Kk->Int
 at_:Hp->Kk->Addr->Prop
 hash_eq:∀P w k,(knd P w).hash k=hsh k
 ok:∀(P:Aq)(w:Au)(H:Hp)(h:Heap)(k:Kk)(a:Aw),HOk P w H h->at_ H k a->(knd P w).is h k a
 room:∀(P:Aq)(w:Au)(A:Ar),A.units+2<cLine->(knd P w).room A.in1
 room0:∀(P:Aq)(w:Au)(A:Ar),A.units+2<cLine->(knd P w).room A
 keep:∀(H H':Hp)(k:Kk)(a:Aw),(∀b xs,H b=some (.tup xs)->H' b=some (.tup xs))->at_ H k a->at_ H' k a
section
variable {Kk:Type}[DecidableEq Kk](kn:KN Kk)
def entN(x:Kk×Aw×Av):DictEntry:={hash:=kn.hsh x.1,key:=.ref x.2.1,val:=x.2.2}
def Zm9(d:Aw)(xs:List (Kk×Aw×Av))(h:Heap):Prop:=(d == sysModules)=false/\∃o es ep,h.get? d=some o/\o.ExactDict/\o.data=.dict es ep/\es.toList=xs.map (entN kn)
def qu(H:Hp)(d:Aw)(kvs:List (Kk×V)):Prop:=(kvs.map (·.1)).Nodup/\kvs.length<sizeLine /\
 ((kvs=[]/\H d=some (.dK []))\/∃xs,H d=some (.ext (Zm9 kn d xs))/\Paired (λ(p:Kk×V) (q:Kk×Aw×Av)=>p.1=q.1/\kn.at_ H q.1 q.2.1/\RelV p.2 q.2.2) kvs xs)
variable {kn}
def Zih(xs:List (Kk×Aw×Av)):xs.map (entryOfKey (kn.knd P w))=xs.map (entN kn):=by
 refine Qbs λx _=>?_;show DictEntry.mk _ _ _=DictEntry.mk _ _ _;rw[kn.hash_eq]
theorem qu.dict{X:Cx}{pins:Ac}{d:Aw}{kvs:List (Kk×V)}(n:qu kn H d kvs)(I:Inv X pins c H s):
  ∃xs,Heap.DictOfH (kn.knd X.prog X.w) s.heap d xs/\Paired (λ(p:Kk×V) (q:Kk×Aw×Av)=>p.1=q.1/\kn.at_ H q.1 q.2.1/\RelV p.2 q.2.2) kvs xs/\Mut (H d)/\(d == sysModules)=false:=by
 obtain⟨N,Q,h|h⟩:=n
 .obtain⟨rfl,e⟩:=h;obtain⟨z,M,vs,G,dd⟩:=Zjo I.hok e;cases G;obtain⟨o,es,ep,e1,ex,e2,_,r,_⟩:=dd;have D:es.toList=[]:=by
   generalize es.toList=l at r;cases r;rfl
  exact⟨[],⟨o,es,ep,e1,ex,e2,D,(λx C=>nomatch C),Qbu⟩,.nil,by rw[e];exact True.intro,M⟩
 .obtain⟨xs,e,r⟩:=h;obtain⟨⟨O,o,es,ep,e1,ex,e2,D⟩,_,_⟩:=(I.hok d _ e);refine⟨xs,⟨o,es,ep,e1,ex,e2,by rw[D,Zih],λx C=>?_,?_⟩,r,by rw[e];exact True.intro,O⟩
  .have go:∀{l:List (Kk×V)} {m:List (Kk×Aw×Av)},Paired (λp q=>p.1=q.1/\kn.at_ H q.1 q.2.1/\RelV p.2 q.2.2) l m->∀x∈m,kn.at_ H x.1 x.2.1:=by
    intro l m r
    induction r with
    |nil=>exactλx C=>nomatch C
    |cons h _ L=>
     intro x C;rcases Qas.mp C with rfl|C
     .exact h.2.1
     .exact L x C
   exact kn.ok _ _ _ _ _ _ I.hok (go r x C)
  .have go:∀{l:List (Kk×V)} {m:List (Kk×Aw×Av)},Paired (λp q=>p.1=q.1/\kn.at_ H q.1 q.2.1/\RelV p.2 q.2.2) l m->m.map (·.1)=l.map (·.1):=by
    intro l m r
    induction r with
    |nil=>rfl
    |cons h _ L=>rw[Qbw,Qbw,L,h.1]
   rw[go r];exact N
theorem Jb{P:Kk×V->Kk×Aw×Av->Prop}(I:∀p q,P p q->p.1=q.1):∀{l:List (Kk×V)} {m:List (Kk×Aw×Av)},Paired P l m->∀k,(∀v,Yc l k=some v->∃q,atKey m k=some q/\∃p,P p (k,q)/\p.2=v)/\(Yc l k=none->atKey m k=none)
 |[],[],_,k=>⟨λv h=>(by cases h),λ_=>U⟩
 |p::l,q::m,.cons h t,k=>by
  have e:=I p q h
  by_cases r:p.1=k
  .have D:=e.symm.trans r;have a1:atKey (q::m) k=some q.2:=by
    unfold atKey;rw[Qhi,Qaq D];rfl
   have C:Yc (p::l) k=some p.2:=ZU r;refine⟨λv G=>?_,λG=>?_⟩
   .grind
   .rw[C]at G;cases G
  .have D:=λz=>r (e.trans z)
   have a1:atKey (q::m) k=atKey m k:=by
    unfold atKey;rw[Qhi,Qan D]
   have C:Yc _ k=Yc l k:=ZP r;rw[a1,C];exact Jb I t k
def Zj3{X:Cx}{d:Aw}{kvs:List (Kk×V)}{A:Ar}{E:Ab}(I:Inv X m c H s)(n:qu kn H d kvs)(h:∀t s',Inv X m c H s'->Q (.int (kvs.length:Int) t) s'):
  A9 X.prog X.w A (call (.builtin "len") [.ref d]) Q E s:=by
 obtain⟨xs,⟨o,es,ep,e1,ex,e2,r,_,_⟩,D,_,G⟩:=n.dict I;have C:es.size=kvs.length:=by rw[<-Qb0,r,Qab];exact(Qdj D).symm
 refine Zj2 G e1 ex e2 (by rw[C];exact Qa0 n.2.1) ?_;rw[C];exact h _ _ (I.tok _)
theorem yc{X:Cx}{pins:Ac}{d:Aw}{k:Kk}{v:V}{kvs:List (Kk×V)}{xs:List (Kk×Aw×Av)}{h':Heap}{tk:Nat}(I:Inv X pins c H s)(n:qu kn H d kvs)(hk:kn.at_ H k a)(rv:RelV v u)(C:kvs.length+1<sizeLine)
  (G:Paired (λ(p:Kk×V) (q:Kk×Aw×Av)=>p.1=q.1/\kn.at_ H q.1 q.2.1/\RelV p.2 q.2.2) kvs xs) (D:Mut (H d)) (Y:(d == sysModules)=false) (hv:Yc kvs k=none) (dd':Heap.DictOfH (kn.knd X.prog X.w) h' d (xs++[(k,a,u)])) (sb:Heap.SameBut d s.heap h'):
  ∃H',qu kn H' d (kvs++[(k,v)])/\(∀b o,H b=some o->b≠d->H' b=some o)/\(∃o,H'=upd H d o)/\Inv X pins c H' {s with heap:=h',toks:=tk}:=by
 obtain⟨o,es,ep,e1,ex,e2,L,_,_⟩:=dd';have Ua:Zm9 kn d _ h':=⟨Y,o,es,ep,e1,ex,e2,by rw[L,Zih]⟩;have S:∀b ys,H b=some (.tup ys)->upd H d (.ext (Zm9 kn d (xs++[(k,a,u)]))) b=some _:=λb ys e=>by
  rw[Zj λz=>by rw[<-z,e]at D;exact D];exact e
 refine⟨_,⟨?_,?_,.inr ⟨_,Za,?_⟩⟩,λb o e hb=>by rw[Zj hb];exact e,⟨_,U⟩,x4 I D sb ⟨o,e1⟩ (by
    obtain⟨Y,o,es,ep,e,r⟩:=id Ua;refine⟨Ua,⟨o,e⟩,λh1 h2 y k=>?_⟩;obtain⟨M,o',N,O,e',r'⟩:=y;exact⟨M,o',N,O,k _ e',r'⟩)⟩
 .rw[Qau,Qd5];refine⟨n.1,Qa9.mpr ⟨Qbq,Qbu⟩,λy Q z C q=>?_⟩;rw[Qbw,List.map_nil,Qao]at C;rw[q,C]at Q;obtain⟨x,hx,ex⟩:=Qap.mp Q;have:=jT n.1 x hx;rw[ex,hv]at this;cases this
 .rw[Qag];exact C
 .have go:∀{l:List _} {m:List _},Paired (λp q=>p.1=q.1/\kn.at_ H q.1 q.2.1/\RelV p.2 q.2.2) l m->Paired (λp q=>p.1=q.1/\kn.at_ (upd H d (.ext (Zm9 kn d (xs++[(k,a,u)])))) q.1 q.2.1/\RelV p.2 q.2.2) (l++[(k,v)]) (m++[(k,a,u)]):=by
   intro l m G
   induction G with
   |nil=>exact .cons ⟨U,kn.keep _ _ _ _ S hk,rv⟩ .nil
   |cons h _ Z=>exact .cons ⟨h.1,kn.keep _ _ _ _ S h.2.1,h.2.2⟩ Z
  exact go G
def zL{X:Cx}{d:Aw}{k:Kk}{v:V}{kvs:List (Kk×V)}{A:Ar}{E:Ab}(I:Inv X m c H s)(n:qu kn H d kvs)(S:kn.at_ H k a)(hu:A.units+2<cLine)(Z:RelV v u)(hz:kvs.length+1<sizeLine)
  (h1:∀x,Yc kvs k=some x->∀O s',RelV x O->Inv X m c H s'->Q O s')
  (h2:Yc kvs k=none->∀H' s',qu kn H' d (kvs++[(k,v)])->(∀b o,H b=some o->b≠d->H' b=some o)->(∃o,H'=upd H d o)->Inv X m c H' s'->Q u s'):
  A9 X.prog X.w A (call (.builtin "dict.setdefault") [.ref d,.ref a,u]) Q E s:=by
 obtain⟨xs,dd,D,Y,Ua⟩:=n.dict I;have G:=Jb (λp q h=>h.1) D k;refine Qgn F.slot_dict_setdefault dd.typeIs F.entry_dict_setdefault (F.args_dict_setdefault_3 _ _ _) (GS _ d a Ua u) ⟨kn.room _ _ _ hu,k,xs,kn.ok _ _ _ _ _ _ I.hok S,dd,?_,?_,?_⟩
 .rw[<-Qdj D];exact Qa0 n.2.1
 .intro p M;cases r:Yc kvs k with
  |none=>rw[G.2 r]at M;cases M
  |some x=>
   obtain⟨q,C,p',N,e⟩:=G.1 x r;rw[M]at C;cases C;exact h1 x r p.2 _ (e ▸ N.2.2) (I.tok _)
 .intro L h' dd' sb;have r:Yc kvs k=none:=by
   cases r:Yc kvs k with
   |none=>rfl
   |some x=>
    obtain⟨q,C,_⟩:=G.1 x r;rw[L]at C;cases C
  obtain⟨H',n',k',o',I'⟩:=yc I n S Z hz D Y Ua r dd' sb;exact h2 r H' _ n' k' o' I'
end
def vB:V->Option Int
 |.int i=>some i
 |.bl b=>some (b2i b)
 |_=>none
theorem gH{P:Aq}{w:Au}:∀{vs:A8} {C:Ag} {ks:Ak},Vals vs C->vs.map vB=ks.map some->ItemsAre (YL P w) ks C
 |[],_,[],r,_=>by cases r;exact .nil
 |v::vs,_,k::ks,.cons h t,e=>by
  injection e with e1 e2;refine .cons ?_ (gH t e2);cases v with
  |int i=>
   obtain⟨t,rfl⟩:=h;cases e1;exact Qct _
  |bl b=>
   cases(h);cases e1;exact Qct _
  |_=>cases e1
def gI(H:Hp)(ks:Ak)(a:Aw):Prop:=∃vs,H a=some (.tup vs)/\vs.map vB=ks.map some
def gI.is{ks:Ak}(ok:HOk P w H h)(b:gI H ks a):IsTupleKey (YL P w) h ks a:=by
 obtain⟨vs,e,C⟩:=b;obtain⟨_,G,r,o,h1,h2,⟨n,D⟩,_⟩:=(ok a _ e);exact⟨o,_,n,h1,h2,D,by simpa using gH r C⟩
def knT:KN (Ak)where
 knd:=λP w=>tupleKind (YL P w)
 hsh:=λks=>reduceHash (Builtin.Tuple.tupleHashOf (ks.map hashInt))
 at_:=gI
 hash_eq:=λP w k=>U
 ok:=λP w H h k a ok b=>b.is ok
 room:=λP w A r=>by show A.units+1<cLine;lia
 room0:=λP w A r=>by show A.units<cLine;lia
 keep:=λH H' k a C ⟨vs,e,D⟩=>⟨vs,C _ _ e,D⟩
def Zc5(H:Hp)(k:Int×Ak)(a:Aw):Prop:=∃t,H a=some (.tup [.int k.1,.ref t])/\gI H k.2 t
def knP:KN (Int×Ak)where
 knd:=Zf8
 hsh:=λk=>reduceHash (Builtin.Tuple.tupleHashOf [hashInt k.1,reduceHash (Builtin.Tuple.tupleHashOf (k.2.map hashInt))])
 at_:=Zc5
 hash_eq:=λP w k=>U
 ok:=λP w H h k a ok ⟨t,e,b⟩=>by
  obtain⟨_,L,r,o,h1,h2,⟨n,O⟩,_⟩:=(show YY P w H h a (.tup [.int k.1,.ref t])from ok a _ e);cases r with
  |cons I C=>
  cases C with
  |cons C M=>
  cases M;obtain⟨tk,rfl⟩:=I;cases(show _=Value.ref t from C);exact⟨o,n,t,tk,h1,h2,O,b.is ok⟩
 room:=λP w A G=>by show A.units+1+1<cLine;lia
 room0:=λP w A G=>by show A.units+1<cLine;lia
 keep:=λH H' k a D ⟨t,e,vs,e2,N⟩=>⟨t,D _ _ e,vs,D _ _ e2,N⟩
section
def Zmi:A8->Hp->VK->Prop:=λxs H Q=>∃(Kk:Type)(_:DecidableEq Kk)(kn:KN Kk)(d:Aw)(kvs:List (Kk×V)),xs=[V.ref d]/\qu kn H d kvs/\Q (.int kvs.length) H
def Zc6:Xf X (.builtin "len") Zmi:=by
 intro pins s σ H xs G Q I r h;obtain⟨Kk,_,kn,d,kvs,rfl,n,q⟩:=h;obtain⟨u,rfl,C⟩:=vals1 r;cases C;exact Zj3 I n λt s' D=>⟨.int _,H,D,⟨t,U⟩,q⟩
def Zmj:V->List V->Hp->VK->Prop:=λx vs H Q=>∃(Kk:Type)(_:DecidableEq Kk)(kn:KN Kk)(d a:Aw)(k:Kk)(v:V)(kvs:List (Kk×V)),x=.ref d/\vs=[.ref a,v]/\qu kn H d kvs/\kn.at_ H k a/\kvs.length+1<sizeLine /\
 (∀y,Yc kvs k=some y->Q y H)/\(Yc kvs k=none->∀H',qu kn H' d (kvs++[(k,v)])->(∀b o,H b=some o->b≠d->H' b=some o)->(∃o,H'=upd H d o)->Q v H')
def Zj4 (S:X.A.units+2<cLine):MtM X "dict.setdefault" Zmj:=by
 intro pins s σ H x vs v us Q I Z L h;obtain⟨Kk,_,kn,d,a,k,y,kvs,rfl,rfl,n,Y,C,h1,h2⟩:=h;cases Z;cases L with
 |cons G r=>
 cases r with
 |cons r Ua=>
 cases Ua;cases(G);exact zL I n Y S r C (λz C u' s' N D=>⟨z,H,D,N,h1 z C⟩) λM H' s' n' o' O D=>⟨y,H',D,r,h2 M H' n' o' O⟩
def tyN(x:V)(H:Hp):Prop:=∃(Kk:Type)(_:DecidableEq Kk)(kn:KN Kk)(d:Aw)(kvs:List (Kk×V)),x=.ref d/\qu kn H d kvs
def tyN_is     {x:V} {v:Av} (I:Inv X m c H s) (r:RelV x v) (ty:tyN x H):s.TypeIs v "dict" /\ ∀a,v=.ref a->∃ob,s.heap.get? a=some ob/\ob.dict=none:=by
 obtain⟨Kk,_,kn,d,kvs,rfl,n⟩:=ty;cases r;obtain⟨xs,⟨o,es,ep,e,ex,_⟩,_,_,_⟩:=n.dict I;refine⟨⟨o,e,ex.1⟩,λa C=>?_⟩;cases C;exact⟨o,e,ex.2.1⟩
def tBMN(to:TE)(t:TA):TE:=λσ H Q=>to σ H λx H1=>tyN x H1/\t σ H1 λxs H2=>Zmj x xs H2 Q
variable {o e:Ax}{es:An}{to:TE}{t:TA}{name:Str}{apos cpos:Pos}
def Zj5 (Ua:X.A.units+2<cLine) (ho:QE X o to) (ha:QA X (e::es) t) (C:attributeBase o "setdefault" X.env (eval o X.env)=eval o X.env:=by rfl) (r:(apos.endLine == cpos.line)=true:=by rfl) (N:(e::es).all Yk=true:=by rfl) (hl:(e::es).length<30:=by decide):
  QE X (.Call (.Attribute o "setdefault" apos) (e::es) [] cpos) (tBMN to t):=by
 refine⟨λpins s σ H Q I h=>?_⟩;have D:=N;rw[Qcu,Qby]at D;have G:((backTo cpos (starEach (e::es) X.env)).all (λx=>!x.1)&&(backToKw cpos (keywordEach [] X.env)).all (λx=>x.1.isSome)&&decide ((e::es).length+([]:List Keyword).length+(if([]:List Keyword).isEmpty then 0 else 1)<30))=true:=by
  rw[all_plain N];exact Qaq hl
 refine Qfo C G r U (thn (ho.out pins s σ H _ I h) λv s1 ⟨x,H1,O,L,ty,q1⟩=>?_);obtain⟨h1,h2⟩:=tyN_is O L ty;refine⟨"dict",_,F.plainAttrs_dict,F.slot_dict_setdefault,F.type_dict_setdefault,h1,h2,?_⟩;have M:=ha.out cpos pins s1 σ H1 _ O q1;have Y:starEach _ X.env=(false,eval e X.env)::starEach es X.env:=Zy D.1;rw[Y]at M ⊢;refine Qda (by grind) (Qew (thn M λS s2 ⟨vs,H2,Z,r2,q2⟩=>Zj4 Ua pins s2 σ H2 x vs v S Q Z L r2 q2))
end
def rMaxL(K:Af):A8->Hp->VK->Prop:=λxs H Q=>∃(p:Aw)(ns:Ak),xs=[.ref p]/\SqL K H p (ns.map V.int)/\ns≠[]/\∀m∈ns,(∀n∈ns,n<=m)->Q (.int m) H
def vo (Ua:X.calm=true):Xf X (.builtin "max") (rMaxL X.K):=by
 intro pins s σ H xs us Q I r h;obtain⟨p,ns,rfl,S,hne,q⟩:=h;obtain⟨u,rfl,rx⟩:=vals1 r;cases rx;obtain⟨its,r',pl,hz⟩:=I.list S;have hi:=intsAre_of r';obtain⟨xs,M⟩:=hi.allInts.items;have e1:ns=xs.toList.map (·.1):=by
  rw[<-nums_intItems,<-M];exact(hi.numsOf).symm
 have hsz:0<xs.size:=by
  grind
 refine max_intList (I.ok.hd Ua) (M ▸ pl.isList) hsz λv h' tk G hk=>?_;have N:=argBest_gt (numAt xs) (xs.size-1);generalize argBest _ (xs.size-1)=b at G N;have at_:∀j (C:j<xs.size),numAt xs j=xs[j].1/\(intItems xs)[j]?=some (.int xs[j].1 xs[j].2):=by
  intro j C;exact⟨by simp[numAt,C],by simp[intItems,C]⟩
 obtain⟨O,Y⟩:=at_ b (by lia);rw[Y]at G;cases G;refine⟨.int xs[b].1,H,I.kept hk,⟨_,U⟩,q _ ?_ λn L=>?_⟩
 .grind
 .rw[e1]at L;obtain⟨y,Z,rfl⟩:=Qap.mp L;obtain⟨j,C⟩:=Qex Z;have D:j<xs.size:=by
   grind
  have:=N.2 j (by lia);rw[(at_ j D).1,O]at this;have ej:xs[j]=y:=by
   grind
  rw[ej]at this;exact this
def rRngV:A8->Hp->VK->Prop:=λxs H Q=>∃j:Int,xs=[.int j]/\∀p,H p=none->Q (.ref p) (upd H p (.rng 0 j))
def we:Xf X (.type "range") rRngV:=by
 intro pins s σ H xs D Q I r h;obtain⟨j,rfl,q⟩:=h;obtain⟨u,rfl,C⟩:=vals1 r;obtain⟨t,rfl⟩:=C;refine call_range_1 ⟨.ref _,_,I.laid (λb u e=>Qad _ e) (Qah _) ?_,U,q _ I.fresh⟩;exact⟨_,_,_,Qam _ U⟩
def Zj6:A8->Hp->VK->Prop:=λxs H Q=>∃(p:Aw)(n:Nat),xs=[.ref p]/\H p=some (.rng 0 (n:Int))/\n<=1000000/\∀l,H l=none->Q (.ref l) (upd H l (.lst ((List.range n).map λi:Nat=>V.int i)))
theorem wg (O:X.calm=true):Xf X (.type "list") Zj6:=by
 intro pins s σ H xs D Q I r h;obtain⟨p,n,rfl,e,Z,q⟩:=h;obtain⟨u,rfl,S⟩:=vals1 r;cases S;obtain⟨t,u,v,Ua⟩:=(I.hok p _ e);have hsz:Builtin.Range.rangeSize 0 (n:Int) 1=(n:Int):=by
  unfold Builtin.Range.rangeSize;split
  .lia
  .lia
 have C:∀z:Int,0<=z->z<=1000000->Builtin.Range.rangeFitsLong z=true:=λz h1 h2=>by
  unfold Builtin.Range.rangeFitsLong;simp;lia
 have L:Builtin.Range.small 0 (n:Int) 1=true:=by
  unfold Builtin.Range.small;rw[hsz,C 0 (by decide) (by decide),C 1 (by decide) (by decide),show(n:Int)+(1-1)=n by lia,C n (by lia) (by lia)];simp
 refine call_list_range (I.ok.hd O) Ua L hsz (by lia) λh' tk acc c' Y G it=>?_;refine⟨.ref _,_,I.laid Y (Qah _) ?_,U,q _ I.fresh⟩;refine⟨by rw[Qab,Qbk,Qhr];lia,acc.toList,c',?_,by simpa using G⟩;have go:∀(m:Nat)(D:Ag)(k:Nat),D.length=m->(∀j v,D[j]?=some v->∃t,v=Value.int ((k+j:Nat):Int) t)->Vals ((List.range' k m).map λi:Nat=>V.int i) D:=by
  intro m
  induction m with
  |zero=>
   intro D k G _;rw[Qcm G];exact .nil
  |succ m N=>
   intro D k G hh;cases D with
   |nil=>cases G
   |cons u D=>
    refine .cons ?_ (N D (k+1) (by simpa using G) λj v M=>?_)
    .obtain⟨t,e⟩:=hh 0 u rfl;exact⟨t,e⟩
    .obtain⟨t,e⟩:=hh (j+1) v (by simpa using M);exact⟨t,by grind⟩
 rw[List.range_eq_range'];refine go n acc.toList 0 (by exact it.1) λj v M=>?_;obtain⟨t,e⟩:=it.2 j v (by grind);exact⟨t,by grind⟩
def jv{A:PySem.Around}{k:Nat}(r:WL k A):A.units+2<PySem.cLine:=Qc8 (by lia) r.units
def Zj7(C:Aq)(w:Au)(K:Af)(mg:Ae)(base:Heap)(k:Nat)(sp:Sp)(P:Aw)(lpos:Pos)(qual:Str)(ta tb:TE)(n:Nat)(is:Aj)(te:TE):TE:=λσ H Q=>ta σ H λz D=>tb σ D λx H1=>Yw H1 P lpos qual /\
 ∀(cs:List Aw)(f:Aw)(H2:Hp),(∀c∈cs,H1 c=none)->(∀c∈cs,∃o,H2 c=some (XS o))->H1 f=none->(∀r,Z7 H2 r->Yw (hide cs r) P lpos qual)->(∀b o,H1 b=some o->b≠P->H2 b=some o)->
  YX C w K mg base k f H2 (Zmf n te cs (is.map λi=>(σ[i]?).getD none))->sp [z,x,.ref f] H2 (λv r=>Q v (hide cs r)) E0
section
variable {X:Cx}{params:Arguments}{body a:Ax}{scope:Scope}{lpos p pos:Pos}{c P g:Aw}{qual x:Str}{k kl:Nat}{gd:Ao}{pg ps ys:Ai}{is:Aj}{sp:Sp}{ta te:TE}{b:Ax}{tb:TE}
def Zc7(F:kC X.prog X.w X.K X.mg X.base CX0 k g gd pg sp)(hr:WL k X.A)(hg:Gl X x)(hm:X.mg x=some (.ref g))(hk:PySem.W.keepIn X.K (.ref g)=true)(hb:Binds X.K gd pg [])(hfn:X.fn=λ_=>true)
  (ha:QE X a ta) (hb2:QE X b tb) (O:X.env.code=.ref c) (C:PySem.W.CodeHd X.base c P) (B:jY X.mg X.base) (hdef:defaultsOf params X.env=([],[])) (hq:X.env.qual ++ "<lambda>" = qual)
  {S0:Scope} {N0:Ai} (hX:X.env.scope=S0) (hXN:X.N=N0) (LL:Zmg S0 scope N0 ps ys is)
  (Z:∀(cl:List (Str×Aw))(pm cv D:Av)(us:Ag),us.length=ps.length->bindArgs (PySem.W.kla_fn "<lambda>" qual params body scope cl pm cv D) ⟨us,[]⟩=pure (ps.zip us))
  (Y:∀(f c':Aw)(cl:List (Str×Aw))(A:Ar)(outer:List Env)(s:As)(H1:Hp),WL kl (A.deeper (PySem.W.envX qual scope s.heap.objs.size f (.ref c') cl))->QE (cxL X.prog X.w X.K X.mg X.base (ps++ys) qual scope f (.ref c') cl A outer s H1) body te)
  (hdb:(x == ("__debug__" : Str))=false:=by decide) (he:starEach [a,b,.Lambda params body scope lpos] X.env=(false,eval a X.env)::starEach [b,.Lambda params body scope lpos] X.env:=by rfl) (he2:starEach [b,.Lambda params body scope lpos] X.env=(false,eval b X.env)::starEach [.Lambda params body scope lpos] X.env:=by rfl)
  (hs2:starEach [.Lambda params body scope lpos] X.env=(false,eval (.Lambda params body scope lpos) X.env)::starEach [] X.env:=by rfl) (hpl:(backTo pos (starEach [b,.Lambda params body scope lpos] X.env)).any (·.1)=false:=by rfl):
  QE X (.Call (.Name x p) [a,b,.Lambda params body scope lpos] [] pos) (Zj7 X.prog X.w X.K X.mg X.base (kl+1) sp P lpos qual ta tb ps.length is te):=by
 have S:=LL.sc;have r:∀y∈scope.names,y.2=.free->X.env.scope.names.lookup y.1=some .cell:=λy hy h=>by rw[hX];exact LL.free y hy h
 have L:=LL.len;refine⟨?_⟩;intro pins s σ H Q I hw;refine Qc7 (jM I hg hm ?_ hdb);have hlam:=Zcv (X:=X) (lpos:=lpos) (params:=params) (body:=body) (scope:=scope) O C B hdef hq r;refine Qgm (h₀:=X.base) I.ok.mod.kin hk ?_ he hpl;rw[he];refine Qcx (thn (ha.out pins s σ H _ I hw) λu s0 ⟨x00,H0,I0,r0,hw0⟩=>?_);rw[he2];refine Qcx (thn (hb2.out pins s0 σ H0 _ I0 hw0) λu1 s1 ⟨x0,H1,I1,r1,hT,q1⟩=>?_);rw[hs2];refine Qcx (thn (hlam pins s1 σ H1 (λv H2=>∃(f c':Aw)(oc:Obj)(D:Av),v=.ref f/\H1 f=none/\H2 f=some (XS (vl X qual params body scope c' D))/\H2 c'=some (XS oc)/\ju oc qual/\Yw H2 P lpos qual/\∀b o,H1 b=some o->b≠P->H2 b=some o) I1 ⟨hT,λf c' oc D H2 a1 a2 a3 a4 a5 a6=>⟨f,c',oc,D,U,a1,a2,a3,a4,a5,a6⟩⟩) λu2 s2 ⟨y,H2,M,r2,f,c',oc,D,hy,f1,f2,f3,f4,f5,f6⟩=>?_);subst hy;cases r2;refine Qd0 ⟨M.kIn,?_⟩;have Ua:∀y d,(ji X.env.cells scope.names []).lookup y=some d->X.env.cells.lookup y=some d:=
  JY (λy hy h=>M.ok.has y.1 (.inl (r y hy h))) λ_ _ z=>by cases z
 have G:=qZ M;have hcs:=jZ M;refine xE F hr hb hfn M (show Vals [x00,x0,V.ref f] [u,u1,Value.ref f]from .cons r0 (.cons r1 (.cons U .nil))) (q1 (cellsOf X.env.cells) f (Zcw X s2 H2) (XW I1) (λd m=>let⟨o,_,e,_⟩:=hcs d m;⟨o,e⟩) f1 (λH4 s4=>Zjy M f5 s4) (λb o e hbP=>G _ _ (f6 b o e hbP)) ?_);exact vk (ys:=ys) S (G _ _ f2) (G _ _ f3) f4 (λy d h=>YR.mpr ⟨y,Ua y d h⟩) (λd m=>let⟨o,v,e,hd,_⟩:=hcs d m;⟨o,v,e,hd⟩) (λy z d h1 h2=>M.ok.inj y z d (Ua y d h1) (Ua z d h2)) (λy h=>Jw h) (by rw[Qab,L])
  (vm (N0:=N0) M r S.free (λq hq=>by rw[hXN];exact LL.vis q hq) L) (λus hl=>Z _ _ _ _ us hl) λA outer s H1 hr=>(Y f c' _ A outer s H1 hr).out
end
def Zmk(K:Af)(i:Nat):TI:=λσ H R=>∃a,σ[i]?=some (some (.ref a))/\(((∃xs,SqL K H a xs)/\R (Itl K a) H)\/((∃xs,SqT K H a xs)/\R (Itt K a) H))
theorem Zj8{X:Cx}{l:Ax}(r:QE X l (Ze8 i)):QI X o l (Zmk X.K i):=⟨λpins s σ H R I h=>by
 obtain⟨a,e,h|h⟩:=h
 .exact(YG r).out pins s σ H R I ⟨_,e,a,U,h.1,h.2⟩
 .exact(J4 r).out pins s σ H R I ⟨_,e,a,U,h.1,h.2⟩⟩
section
variable {κ:Type}[DecidableEq κ]
def Y8(l:List κ)(k:κ):List κ:=if k∈l then l else l++[k]
def Z6(ks:List κ):List κ:=ks.foldl Y8 []
def jw(ks:List κ)(k:κ):Z6 (ks++[k])=Y8 (Z6 ks) k:=by
 unfold Z6;rw[Qc2];rfl
def XX{l:List κ}(h:l.Nodup)(k:κ):(Y8 l k).Nodup:=by
 unfold Y8;split
 .exact h
 .grind
theorem Xz(ks:List κ):(Z6 ks).Nodup:=by
 have:∀(ks l:List κ),l.Nodup->(ks.foldl Y8 l).Nodup:=by
  intro ks
  induction ks with
  |nil=>exactλl h=>h
  |cons k r C=>exactλl h=>C _ (XX h k)
 exact this ks [] Qbu
def X9{l:List κ}{k x:κ}:x∈Y8 l k↔x∈l\/x=k:=by
 unfold Y8;split
 .grind
 .rw[Qbl,Qao]
theorem Yh(ks:List κ)(x:κ):x∈Z6 ks↔x∈ks:=by
 have:∀(ks l:List κ),x∈ks.foldl Y8 l↔x∈l\/x∈ks:=by
  intro ks
  induction ks with
  |nil=>intro l;simp
  |cons k r C=>
   intro l;rw[Qde,C,X9,Qas,or_assoc]
 rw[show Z6 ks=ks.foldl Y8 []from U,this];simp
def xa(l:List κ)(k:κ):(Y8 l k).length<=l.length+1:=by
 unfold Y8;split
 .lia
 .grind
theorem gJ(ks:List κ):(Z6 ks).length<=ks.length:=by
 have:∀(ks l:List κ),(ks.foldl Y8 l).length<=l.length+ks.length:=by
  intro ks
  induction ks with
  |nil=>exactλl=>Qah _
  |cons k r C=>
   intro l;have h1:=C (Y8 l k);have h2:=xa l k;rw[Qde,Qaz];lia
 have h:=this ks [];rw[Qcg,Qd8]at h;exact h
def yd(l:List κ)(k:κ):∃r,Y8 l k=l++r:=by
 unfold Y8;split
 .exact⟨[],(Qbv _).symm⟩
 .exact⟨[k],U⟩
theorem Jy(ks:List κ):∀l:List κ,∃r,ks.foldl Y8 l=l++r:=by
 induction ks with
 |nil=>exactλl=>⟨[],(Qbv _).symm⟩
 |cons k r C=>
  intro l;obtain⟨a,D⟩:=yd l k;obtain⟨b,G⟩:=C (Y8 l k);exact⟨a++b,by grind⟩
def jx(ks:List κ)(i:Nat):∃r,Z6 ks=Z6 (ks.take i)++r:=by
 have e:Z6 ks=(ks.drop i).foldl Y8 (Z6 (ks.take i)):=by
  unfold Z6;rw[<-Qc2,Qc3]
 rw[e];exact Jy _ _
def xF{l r:List κ}{k:κ}(h:k∈l):(l++r).idxOf k=l.idxOf k:=by grind
theorem idx_map{α β:Type}[DecidableEq α][DecidableEq β](f:α->β)(C:∀a b,f a=f b->a=b)(s:α):∀l:List α,(l.map f).idxOf (f s)=l.idxOf s
 |[]=>rfl
 |x::r=>by
  rw[Qbw,Qhj,idx_map f C s r]
  by_cases h:x=s
  .grind
  .grind
def X7(l:List κ):List (κ×V):=l.zipIdx.map λp=>(p.1,V.int (p.2:Int))
def GU(l:List κ):(X7 l).map (·.1)=l:=by
 unfold X7;rw[Qa7];exact List.zipIdx_map_fst 0 l
def Jc(l:List κ):(X7 l).length=l.length:=by
 unfold X7;rw[Qab,List.length_zipIdx]
def GV(l:List κ)(k:κ):X7 (l++[k])=X7 l++[(k,V.int (l.length:Int))]:=by
 unfold X7;rw[List.zipIdx_append];simp
def Jd:∀(l:List κ)(k:κ),k∈l->l.Nodup->Yc (X7 l) k=some (V.int (l.idxOf k:Int)):=by
 intro l k C r;have D:(k,V.int (l.idxOf k))∈X7 l:=by
  refine Qap.mpr ⟨(k,l.idxOf k),?_,U⟩;rw[List.mem_zipIdx_iff_getElem?];simp[Qbg C]
 have:=jT (by rw[GU];exact r) _ D;exact this
def GW(l:List κ)(k:κ)(r:k∉l):Yc (X7 l) k=none:=by
 unfold Yc;rw[Option.map_eq_none_iff,List.find?_eq_none];intro x C z;have:x.1∈(X7 l).map _:=Qb5 C;rw[GU,Qbb z]at this;exact r this
end
section
variable {κ β:Type}[DecidableEq κ][DecidableEq β]
def We(ks:List κ):Aj:=ks.map λk=>(Z6 ks).idxOf k
def gK(ks:List κ):(We ks).length=ks.length:=Qab ..
def xb(ks:List κ)(i:Nat):(We ks)[i]?=(ks[i]?).map λk=>(Z6 ks).idxOf k:=Qai ..
def wj{l:List κ}{a b:κ}(r:a∈l)(h:l.idxOf a=l.idxOf b)(C:b∈l):a=b:=by
 rw[<-List.getElem_idxOf (Qbg r)];simp[h]
def ye{ks:List κ}{j:Nat}{a b:κ}(r:ks[i]?=some a)(C:ks[j]?=some b):(We ks)[i]?=(We ks)[j]?↔a=b:=by
 rw[xb,xb,r,C];constructor
 .exact λh=>wj ((Yh ks a).mpr (Qat r)) (Option.some.inj h) ((Yh ks b).mpr (Qat C))
 .intro h;rw[h]
def gL(f:κ->β)(l:List κ)(k:κ)(h:∀a∈l,f a=f k->a=k):Y8 (l.map f) (f k)=(Y8 l k).map f:=by
 unfold Y8
 by_cases r:k∈l
 .grind
 .grind
theorem yf(f:κ->β)(ks:List κ)(h:∀a∈ks,∀b∈ks,f a=f b->a=b):Z6 (ks.map f)=(Z6 ks).map f:=by
 have go:∀(ks l:List κ),(∀a,a∈l\/a∈ks->∀b,b∈l\/b∈ks->f a=f b->a=b)->(ks.map f).foldl Y8 (l.map f)=(ks.foldl Y8 l).map f:=by
  intro ks
  induction ks with
  |nil=>exactλl _=>U
  |cons k r G=>
   intro l hh;rw[Qbw,Qde,gL f l k λa C e=>hh a (.inl C) k (.inr Qaj) e];refine G _ λa C b D=>hh a ?_ b ?_
   .rcases C with C|C
    .rcases X9.mp C with z|z
     .exact .inl z
     .exact .inr (z ▸ Qaj)
    .exact .inr (Qal _ C)
   .rcases D with C|C
    .rcases X9.mp C with z|z
     .exact .inl z
     .exact .inr (z ▸ Qaj)
    .exact .inr (Qal _ C)
 exact go ks [] λa C b D=>h a (C.resolve_left Qbq) b (D.resolve_left Qbq)
theorem Zc8(f:κ->β)(s:κ):∀l:List κ,(∀a∈l,f a=f s->a=s)->(l.map f).idxOf (f s)=l.idxOf s
 |[],_=>rfl
 |x::r,h=>by
  rw[Qbw,Qhj,Zc8 f s r λa C=>h a (Qal _ C)]
  by_cases e:x=s
  .grind
  .grind
def yg(f:κ->β)(ks:List κ)(h:∀a∈ks,∀b∈ks,f a=f b->a=b):We (ks.map f)=We ks:=by
 unfold We;rw[Qa7,yf f ks h];refine Qbs λk r=>(Zc8 f k _ λa C e=>h a ((Yh ks a).mp C) k r e)
def Zc9(ks:List κ):∀a∈ks,∀b∈ks,(Z6 ks).idxOf a=(Z6 ks).idxOf b->a=b:=λa r b C e=>wj ((Yh ks a).mpr r) e ((Yh ks b).mpr C)
def xG(ks:List κ):We (We ks)=We ks:=yg _ ks (Zc9 ks)
def Zda(ks:List κ):(Z6 (We ks)).length=(Z6 ks).length:=by
 unfold We;rw[yf _ ks (Zc9 ks),Qab]
theorem Xq:∀{D C:List κ},D.Nodup->(∀x∈D,x∈C)->D.length<=C.length
 |[],_,_,_=>Qbe _
 |a::r,C,h1,G=>by
  rw[Qa9]at h1;have L:=G a Qaj;have:=Xq h1.2 λx I=>(Qf6 (show x≠a fromλz=>h1.1 (z ▸ I))).mpr (G x (Qal _ I));rw[Qe8 L]at this;have M:=Qei L;rw[Qaz];lia
theorem gM:∀{L D:List κ},L.Nodup->(∀x∈L,x∈D)->D.length<=L.length->D.Nodup
 |[],D,_,_,O=>by
  grind
 |a::r,D,h1,M,O=>by
  rw[Qa9]at h1;have N:=M a Qaj;have C:=λx G=>(Qf6 (show x≠a fromλz=>h1.1 (z ▸ G))).mpr (M x (Qal _ G));have Ua:=Qe8 N;rw[Qaz]at O;have S:=gM h1.2 C (by lia);have I:a∉D.erase a:=λz=>by
   have:=Xq h1.2 λx G=>(Qf6 (show x≠a fromλz=>h1.1 (z ▸ G))).mpr (C x G);rw[Qe8 z]at this;have Q:=Qei z;lia
  exact(List.perm_cons_erase N).nodup_iff.mpr (Qa9.mpr ⟨I,S⟩)
def vp(f:κ->β)(ks:List κ)(h:(Z6 ks).length<=(Z6 (ks.map f)).length):∀a∈ks,∀b∈ks,f a=f b->a=b:=by
 have D:=gM (Xz (ks.map f)) (λx I=>by
  obtain⟨k,G,e⟩:=Qap.mp ((Yh _ x).mp I);exact Qap.mpr ⟨k,(Yh ks k).mpr G,e⟩) (by grind)
 intro a r b C e;have L:=Qbg ((Yh ks a).mpr r);have N:=Qbg ((Yh ks b).mpr C);have M:((Z6 ks).map f)[(Z6 ks).idxOf a]?=some (f a):=by
  grind
 have O:((Z6 ks).map f)[(Z6 ks).idxOf b]?=some (f b):=by
  grind
 have:=(List.getElem?_inj (j:=(Z6 ks).idxOf b) (by rw[Qab];exact L) D).mp (by grind);exact wj ((Yh ks a).mpr r) this ((Yh ks b).mpr C)
def Zj9{ks:List κ}{m:Nat}(h:m∈We ks):m<(Z6 ks).length:=by
 obtain⟨k,r,rfl⟩:=Qap.mp h;exact Qbg ((Yh ks k).mpr r)
def Zga{ks:List κ}{m:Nat}(h:m∈We ks)(C:∀n∈We ks,n<=m):m+1=(Z6 ks).length:=by
 have h1:=Zj9 h;have r:(Z6 ks).length-1<(Z6 ks).length:=by lia
 have hi:=List.Nodup.idxOf_getElem (Xz ks) _ r;have:=C _ (Qap.mpr ⟨_,(Yh ks _).mp (Qbi r),U⟩);lia
end
def Zah{b1 b2:Bool}{a1 a2:Aw}{xs ys:A8}{is:Aj}{σ:St}(r:Nat->List V->Hp->Prop)(Y:r 0 [] H)(Q:∀i zs H,r i zs H->zs.length<=sizeLine)(hq:∀i zs H,r i zs H->SqB K b1 H a1 xs/\SqB K b2 H a2 ys)
  (Z:∀i x y p zs H (R:A8->Hp->Prop),(∀zs H,r (i+1) zs H->R zs H)->xs[i]?=some x->ys[i]?=some y->r i zs H->H p=none->G (Zf4 is σ (some x) (some y)) (upd H p (.tup [x,y])) λb H2=>if b=true then d (Zf4 is σ (some x) (some y)) H2 λy H3=>R (zs++[y]) H3 else R zs H2)
  (S:∀zs H,r (xs.zip ys).length zs H->∀p,H p=none->I (.ref p) (upd H p (.lst zs))):
  vn K is G d σ I (Itz K b1 b2 a1 a2) H:=by
 refine⟨λi m zs H=>m=(xs.zip ys).length-i/\i<=(xs.zip ys).length/\r i zs H,⟨(xs.zip ys).length,by simp,Qbe _,Y⟩,?_⟩;rintro i m zs H ⟨rfl,hi,p⟩;obtain⟨C,L⟩:=hq i zs H p;have hz:(xs.zip ys).length=min _ _:=Qfk
 by_cases N:i<(xs.zip ys).length
 .have D:i<xs.length:=by lia
  have M:i<ys.length:=by lia
  refine .inr ⟨⟨xs,ys,xs[i],ys[i],C,L,Qac D,Qac M⟩,Q i zs H p,λx H' y=>?_⟩;obtain⟨c,Ua,rfl,e⟩:=y;rw[e xs ys _ _ C L (Qac D) (Qac M)];exact⟨c,_,_,U,SqT.of Za,Z i _ _ c zs H (λzs H=>∃O,O<(xs.zip ys).length-i/\(λi m zs H=>m=(xs.zip ys).length-i/\i<=(xs.zip ys).length/\r i zs H) (i+1) O zs H) (λzs H p'=>⟨_,by lia,U,N,p'⟩) (Qac D) (Qac M) p Ua⟩
 .have e:i=(xs.zip ys).length:=by lia
  subst e;exact .inl ⟨⟨xs,ys,C,L,by lia⟩,Q _ zs H p,S zs H p⟩
def Zdb{k:Nat}{A:Ar}(r:WL k A):A.units+4<cLine:=by have:=r.un;lia
def EqB(H:Hp):Nat->V->V->Bool->Prop
 |0,x,y,b=>YZ x=true/\YZ y=true/\b=eqV x y
 |n+1,x,y,b=>(YZ x=true/\YZ y=true/\b=eqV x y)\/∃(a c:Aw)(xs ys:A8)(e:Nat->Bool),x=.ref a/\y=.ref c/\H a=some (.tup xs)/\H c=some (.tup ys)/\b=((List.range (min xs.length ys.length)).all e&&xs.length == ys.length)/\∀(j:Nat)(u v:V),xs[j]?=some u->ys[j]?=some v->EqB H n u v (e j)
theorem gN{H:Hp}:∀(n:Nat)(x:V)(b:Bool),EqB H n x x b->b=true
 |0,x,b,h=>by
  obtain⟨f,_,rfl⟩:=h;exact g7 f
 |n+1,x,b,h=>by
  rcases h with⟨f,_,rfl⟩|⟨a,c,xs,ys,e,rfl,D,G,C,rfl,I⟩
  .exact g7 f
  .cases D;rw[G]at C;cases C;rw[Qfv,Qct,Bool.and_true,Qb2];intro j r;have r:=Qch.mp r;exact gN n _ _ (I j _ _ (Qac r) (Qac r))
def gO{xs:A8}(r:Vals xs Ua){j:Nat}(h1:j<Ua.toArray.size):∃x,xs[j]?=some x/\RelV x Ua.toArray[j]:=by
 have D:j<xs.length:=by rw[r.length];simpa using h1
 obtain⟨u,e1,G⟩:=r.get (Qac D);have C:Ua.toArray[j]=u:=by
  grind
 rw[C];exact⟨_,Qac D,G⟩
theorem Zii{X:Cx}{pins:Ac}{σ:St}{H:Hp}{s:As}(I:Inv X pins σ H s):∀(n:Nat)(A:Ar)(x y:V)(b:Bool)(v u:Av),RelV x v->RelV y u->EqB H n x y b->A.units+n<cLine->SeqAt.EqAt A s v u b
 |0,A,x,y,b,v,u,G,D,h,Z=>by
  obtain⟨f,L,rfl⟩:=h;exact gp G D f L
 |n+1,A,x,y,b,v,u,G,D,h,Z=>by
  rcases h with⟨f,L,rfl⟩|⟨a,c,xs,ys,e,rfl,rfl,Q,N,rfl,S⟩
  .exact gp G D f L
  .cases G;cases D
   by_cases C:a=c
   .subst C;rw[gN (n+1) _ _ (.inr ⟨a,a,xs,ys,e,U,U,Q,N,U,S⟩)];exact Qhd _
   obtain⟨its,r,p,_⟩:=I.tuple (SqT.of Q);obtain⟨M,O,p2,_⟩:=I.tuple (SqT.of N);refine SeqAt.EqAt.of_refs C ?_;have q:=SeqAt.RcAt.tuples (A:=A) (e:=e) p p2 (by lia) λj h1 h2=>?_
   .rw[Qbn,Qbn,<-r.length,<-O.length]at q;exact q
   .obtain⟨w1,g1,Ua⟩:=gO r h1;obtain⟨w2,g2,Y⟩:=gO O h2;exact Zii I n A.in1 _ _ _ _ _ Ua Y (S j _ _ g1 g2) (by lia)
def Zgb[DecidableEq g]{kn:KN g}{kvs:List (g×V)}{xs:List (g×Aw×Av)}(C:Paired (λ(p:g×V) (q:g×Aw×Av)=>p.1=q.1/\kn.at_ H q.1 q.2.1/\RelV p.2 q.2.2) kvs xs)(k:g):(atKey xs k).isSome=(Yc kvs k).isSome:=by
 have r:=Jb (λp q h=>h.1) C k;cases hv:Yc kvs k with
 |none=>rw[r.2 hv];rfl
 |some x=>
  obtain⟨q,D,_⟩:=r.1 x hv;rw[D];rfl
def rNInN:R2:=λx y H Q=>∃(Kk:Type)(_:DecidableEq Kk)(kn:KN Kk)(d a:Aw)(k:Kk)(kvs:List (Kk×V)),x=.ref a/\y=.ref d/\qu kn H d kvs/\kn.at_ H k a/\Q (.bl (!(Yc kvs k).isSome)) H
def Zdc(r:X.A.units+2<cLine):OpR X (compareOp .NotIn) rNInN:=by
 intro pins s σ H x y v u Q I M C h;obtain⟨Kk,_,kn,d,a,k,kvs,rfl,rfl,n,G,q⟩:=h;cases M;cases C;obtain⟨xs,dd,D,N,L⟩:=n.dict I;refine wpAny_notIn_heap (kn.room _ _ _ r) (kn.ok _ _ _ _ _ _ I.hok G) L dd ?_;rw[Zgb D];exact⟨.bl _,H,I.tok _,U,q⟩
def tNGet(td ty:TE):TE:=λσ H Q=>td σ H λx H1=>ty σ H1 λy H2=>∃(Kk:Type)(_:DecidableEq Kk)(kn:KN Kk)(d a:Aw)(k:Kk)(kvs:List (Kk×V))(v:V),x=.ref d/\y=.ref a/\qu kn H2 d kvs/\kn.at_ H2 k a/\Yc kvs k=some v/\Q v H2
theorem Zka{i:Ax}{ty:TE}(Y:X.A.units+2<cLine)(ho:QE X o M)(hi:QE X i ty)(Z:Zm8 i):QE X (.Subscript o i E) (tNGet M ty):=⟨by
 intro pins s σ H Q I h;refine Zcj PySem.F.slot_dict_getitem.lookup Z (thn (ho.out pins s σ H _ I h) λu S ⟨x,H1,I1,rx,O⟩=>thn (hi.out pins S σ H1 _ I1 O) λiv s2 ⟨y,H2,r,D,Kk,_,kn,d,a,k,kvs,v,ex,L,n,hk,hv,Ua⟩=>?_);subst ex;subst L;obtain rfl:u=Value.ref d:=rx;obtain rfl:iv=Value.ref a:=D;obtain⟨xs,dd,G,mu,hm⟩:=n.dict r;obtain⟨q,N,p',C,e⟩:=(Jb (λp q h=>h.1) G k).1 v hv;refine⟨dd.typeIs,wpAny_getItem_heap (kn.room _ _ _ Y) (kn.ok _ _ _ _ _ _ r.hok hk) dd N ⟨v,H2,r.tok _,e ▸ C.2.2,Ua⟩⟩⟩
def sNPut(td ty tv:TE):TS:=λD σ H=>tv σ H λv H1=>td σ H1 λx H2=>ty σ H2 λy r=>∃(Kk:Type)(_:DecidableEq Kk)(kn:KN Kk)(d a:Aw)(k:Kk)(kvs:List (Kk×V)),x=.ref d/\y=.ref a/\qu kn r d kvs/\kn.at_ r k a/\Yc kvs k=none/\kvs.length+1<sizeLine /\
 ∀H',qu kn H' d (kvs++[(k,v)])->(∀b o,r b=some o->b≠d->H' b=some o)->(∃o,H'=upd r d o)->D.nx σ H'
theorem Zkb{i:Ax}{ty tv:TE}{pos':Pos}(hu:X.A.units+2<cLine)(ho:QE X o M)(hi:QE X i ty)(C:QE X e tv)(hs:swapsWith e (some (.Subscript o i pos')) E.line X.env=pure false):QS X (.Assign [.Subscript o i pos'] e E) (sNPut M ty tv):=⟨by
 intro pins s σ H D I h;refine wpAny_Assign_Subscript (thn (C.out pins s σ H _ I h) λr s1 ⟨v,H1,I1,Z,q1⟩=>thn (ho.out pins s1 σ H1 _ I1 q1) λu s2 ⟨x,H2,S,rx,q2⟩=>thn (hi.out pins s2 σ H2 _ S q2) λiv s3 ⟨y,H3,L,Q,Kk,_,kn,d,a,k,kvs,ex,Y,n,N,C,hz,Ua⟩=>?_) hs;subst ex;subst Y;obtain rfl:u=Value.ref d:=rx;obtain rfl:iv=Value.ref a:=Q;obtain⟨xs,dd,G,O,hm⟩:=n.dict L;refine wpAny_setItem_heap (kn.room _ _ _ hu) (kn.ok _ _ _ _ _ _ L.hok N) dd (λh' dd' sb=>?_) (by rw[<-Qdj G];lia);rw[storedH_new ((Jb (λp q h=>h.1) G k).2 C)]at dd';obtain⟨H',n',k',o',I'⟩:=yc L n N Z hz G O hm C dd' sb;exact⟨σ,H',I',Ua H' n' k' o'⟩⟩
theorem Yi:∀(names:List (Str×NameKind))(n:Nat)(acc:List (Str×Aw)),cellsFrom n names acc=cellsFrom n names []++acc
 |[],_,_=>rfl
 |(x,k)::r,n,acc=>by
  unfold cellsFrom;split
  .rw[Yi r _ _,Yi r _ [(x,n)],Qbt];rfl
  .exact Yi r n acc
theorem GX:∀(names:List (Str×NameKind)) (n:Nat) {x:Str} {c:Aw},(x,c)∈cellsFrom n names []->(x,NameKind.cell)∈names
 |[],_,_,_,h=>nomatch h
 |(y,k)::r,n,x,c,h=>by
  unfold cellsFrom at h;split at h
  .rename_i C;rw[Yi]at h;rcases Qbl.mp h with h|h
   .exact Qal _ (GX r _ h)
   .grind
  .exact Qal _ (GX r n h)
theorem Jz:∀{l r:List (Str×g)},(l++r).lookup x=match l.lookup x with|some c=>some c|none=>r.lookup x
 |[],r=>rfl
 |(y,c)::l,r=>by
  grind
section
variable {M:Model}{A:Ar}{E:Ab}{s:As}
def Zkc{scope:Scope}{globals:Aw}{r:List (Str×Aw)}{binds:List (Str×Av)}{qual:Str}{func:Option Aw}{code:Av}{builtins:Aw}{Q:Env->Shared->Prop}
  (hk:scope.kind=.function) (hl:∀x∈binds,scope.names.lookup x.1=some .local)
  (Z:∀h' tk,h'.Ns s.heap.objs.size (λx=>binds.reverse.lookup x)->(∀b o,s.heap.get? b=some o->h'.get? b=some o)->(∀n c,(n,c)∈cellsFrom (s.heap.objs.size+1) scope.names []->h'.IsCell c none/\s.heap.objs.size<c)->
   ((cellsFrom (s.heap.objs.size+1) scope.names []).Pairwise λx y=>x.2≠y.2)->Q (newEnv scope s.heap.objs.size globals (cellsFrom (s.heap.objs.size+1) scope.names r) qual func code none builtins) {s with heap:=h',toks:=tk}):
  wpAny M A (newFunctionEnv scope globals r binds qual func code none builtins) Q E s:=by
 simp only[newFunctionEnv,if_false];refine Qaa (wpAny_alloc (Qaa (wpAny_layCells _ (λname kind cells=>by grind) _ _ _ _ ?_)));have ok:=cellsFrom_ok scope.names (s.heap.push {cls:=.type "frame",data:=.dict #[]}) (s.heap.objs.size+1) [] ⟨λ_ _ Ua=>(nomatch Ua),List.Pairwise.nil⟩ (by simp);rw[Qb8]at ok;rw[Qb8 ..];refine Qaa (wpAny_forIn_list _
  (λrest _ s'=>∃C h',binds=C++rest/\s'={s with heap:=h',toks:=s.toks+C.length}/\h'.Ns _ (λx=>C.reverse.lookup x) /\
   Heap.SameBut s.heap.objs.size _ h') _ ?_ ?_ binds _
  ⟨[],_,U,U,(Heap.Ns.new s.heap _).keeps (pushCells_keeps _ _),Heap.SameBut.refl ..⟩)
 .rintro⟨name,v⟩ rest _ s' ⟨C,h',N,rfl,G,D⟩;have O:Env.kindOf {scope,locals:=s.heap.objs.size,globals,cells:=cellsFrom (s.heap.objs.size+1) scope.names r,qual,func,code,frame:=some s.heap.objs.size,builtins} name=some .local:=hl (name,v) (by grind);simp only[storeName_local O (by rw[hk];rfl)];refine Qaa (wpAny_nsSet G λS L I=>Qae ⟨C++[(name,v)],S,by simp[N],?_,?_,D.trans I⟩)
  .simp[Qgb]
  .rw[lookup_reverse_snoc];exact L
 .rintro _ s' ⟨C,h',N,rfl,G,D⟩;rw[Qbv]at N;subst N;refine Qae (Z h' _ G (λb o e=>(D.extBut b o (Qbc (Qav e)) (pushCells_keeps _ _ b o (Qad _ e)))) (λn c Ua=>?_) ok.apart)
  .obtain⟨q1,Y⟩:=ok.empty n c Ua;exact⟨q1.sameBut D (Qd7 Y),Y⟩
end
structure Zkd(scope:Scope)(ps ls ys:Ai):Prop where
 kind:scope.kind=.function
 co:scope.isCoroutine=false
 gen:scope.isGenerator=false
 par:∀p∈ps,scope.names.lookup p=some .local
 free:∀y∈ys,scope.names.lookup y=some .free
 nd:(ps++(ls++ys)).Nodup
 ndn:(scope.names.map (·.1)).Nodup
def cxN(P:Aq)(w:Au)(K:Af)(mg:Ae)(base:Heap)(N:Ai)(qual:Str)(scope:Scope)(f:Aw)(r:Av)(cl:List (Str×Aw))(A:Ar)(outer:List Env)(s:As)(H:Hp):Cx where
 prog:=P
 w:=w
 K:=K
 mg:=mg
 base:=base
 A:=A.deeper (PySem.W.envX qual scope s.heap.objs.size f r (cellsFrom (s.heap.objs.size+1) scope.names cl))
 N:=N
 s₀:=s
 H₀:=H
 env:=PySem.W.envX qual scope s.heap.objs.size f r (cellsFrom (s.heap.objs.size+1) scope.names cl)
 outer:=outer
 stack:=PySem.W.envX qual scope s.heap.objs.size f r (cellsFrom (s.heap.objs.size+1) scope.names cl)::outer
 ex:=[]
 calm:=true
 fn:=λx=>scope.names.lookup x == some .cell
 pn:=[]
 xe:=λ_ _=>False
def Zij(n m:Nat)(ts:TS)(cs:List Aw)(r:List (Option V)):Sp:=λvs H Q _=>vs.length=n/\ts {nx:=λ_ H'=>(∀c∈cs,H' c=none)->Q .non (Wv cs H H'),rt:=λv H'=>(∀c∈cs,H' c=none)->Q v (Wv cs H H')} (vs.map some++(List.replicate m none++r)) (hide cs H)
section
variable {P:Aq}{w:Au}{K:Af}{mg:Ae}{base:Heap}
theorem yh{k:Nat}{c':Aw}{name qual:Str}{params:Arguments}{body:List Ay}{scope:Scope}{cl:List (Str×Aw)}{doc pm ctv:Av}{ps ls ys:Ai}{cv:List (Option V)}{ts:TS}
  (S:Zkd scope ps ls ys) (hf:H f=some (XS (PySem.W.fnMade name qual params body scope cl doc pm c' ctv))) (hc:H c'=some (XS L)) (hoc:ju L qual)
  (hcl:∀x c,cl.lookup x=some c->c∈D) (hcs:∀c∈D,∃o v,H c=some (XS o)/\o.data=.cell v)
  (inj:∀x y c,cl.lookup x=some c->cl.lookup y=some c->x=y) (has:∀x,scope.names.lookup x=some .free->∃c,cl.lookup x=some c)
  (hcv:cv.length=ys.length) (hval:∀(i:Nat)(y:Str)(v:V),ys[i]?=some y->cv[i]?=some (some v)->∃c o u,cl.lookup y=some c/\H c=some (XS o)/\o.data=.cell (some u)/\RelV v u)
  (hb:∀us:Ag,us.length=ps.length->bindArgs (PySem.W.fnX name qual params body scope cl .none .none doc pm none (.ref c') ctv) ⟨us,[]⟩=pure (ps.zip us))
  (hbody:∀(A:Ar)(outer:List Env)(s:As)(H1:Hp),WL k (A.deeper (PySem.W.envX qual scope s.heap.objs.size f (.ref c') (cellsFrom (s.heap.objs.size+1) scope.names cl)))->PSs (cxN P w K mg base (ps++(ls++ys)) qual scope f (.ref c') cl A outer s H1) body ts):
  YX P w K mg base (k+1) f H (Zij ps.length ls.length ts D cv):=by
 refine⟨⟨_,_,hf,U⟩,?_⟩;intro A outer s H1 us vs Q E fz hr G r ht;obtain⟨hl,ht⟩:=ht;have O:∀c∈D,∃o v,H1 c=some (XS o)/\o.data=.cell v/\s.heap.get? c=some o:=λc m=>by
  obtain⟨o,v,e,d⟩:=hcs c m;exact⟨o,v,fz _ _ _ e,d,(G.hok c _ (fz _ _ _ e)).1⟩
 have hcs2:∀c∈D,∃o,H1 c=some (XS o):=λc m=>let⟨o,_,e,_⟩:=O c m;⟨o,e⟩;obtain⟨vs0,t0,hd0,hv0⟩:=hoc;have lim:s.heap.NoLimit:=G.mod.nolimit.keeps λb o e=>(G.bs b o e).1;have lus:us.length=ps.length:=by rw[<-r.length];exact hl
 refine codeAny_call_function hr.depth (G.hok f _ (fz _ _ _ hf)).1 rfl S.co S.gen U ⟨c',L,vs0,t0,U,(G.hok c' _ (fz _ _ _ hc)).1,hd0,hv0⟩ ?_;rw[hb us lus];refine Qae (Zkc S.kind (λx hx=>S.par _ (Qdz hx).1) λh₁ tk hns Y M hap=>⟨lim.keeps Y,codeAny_func ?_⟩);have ndp:ps.Nodup:=(Qd5.mp S.nd).1;have look:∀x c,(cellsFrom (s.heap.objs.size+1) scope.names cl).lookup x=some c->((x,c)∈cellsFrom (s.heap.objs.size+1) scope.names []/\(cellsFrom (s.heap.objs.size+1) scope.names []).lookup x=some c)\/cl.lookup x=some c:=λx c e=>by
  rw[Yi,Jz]at e;cases q:(cellsFrom (s.heap.objs.size+1) scope.names []).lookup x with
  |none=>rw[q]at e;exact .inr e
  |some d=>rw[q]at e;cases e;exact .inl ⟨Qce q,U⟩
 have C:∀x,scope.names.lookup x=some .free->(cellsFrom (s.heap.objs.size+1) scope.names cl).lookup x=cl.lookup x:=λx hx=>by
  rw[Yi,Jz];cases q:(cellsFrom (s.heap.objs.size+1) scope.names []).lookup x with
  |none=>rfl
  |some d=>
   have m1:=GX scope.names _ (Qce q);have m2:=Qce hx;have:∀{l:List (Str×NameKind)},(l.map (·.1)).Nodup->(x,NameKind.cell)∈l->(x,NameKind.free)∈l->False:=λ{l} nd a b=>by
    induction l with
    |nil=>cases a
    |cons p l ih=>
     rw[Qbw,Qa9]at nd;rcases Qas.mp a with a|a<;>rcases Qas.mp b with b|b
     .rw[<-a]at b;cases b
     .exact nd.1 (by rw[<-a];exact Qb5 (f:=(·.1)) b)
     .exact nd.1 (by rw[<-b];exact Qb5 (f:=(·.1)) a)
     .exact ih nd.2 a b
   exact(this S.ndn m1 m2).elim
 have oldC:∀x c,cl.lookup x=some c->c<s.heap.objs.size:=λx c e=>by
  obtain⟨o,v,_,_,g⟩:=O c (hcl x c e);exact Qav g
 have I:Inv (cxN P w K mg base (ps++(ls++ys)) qual scope f (.ref c') cl A outer s (hide D H1)) [] (vs.map some++(List.replicate ls.length none++cv)) (hide D H1) {s with heap:=h₁,toks:=tk}:=by
  have noA:∀b:Aw,b∉([]:List Aw):=λb z=>nomatch z;refine⟨⟨G.mod,S.kind,U,U,Qah _,λx y c h1 h2=>?_,λy Ua=>?_,λy c Ua h=>?_,λ_=>hr.hd,Qf1 G.frames,.inr ⟨U,U⟩,λb z=>absurd z (noA b),λb o e=>⟨(G.bs b o e).1,?_⟩,G.bsz,λb _ _=>noA b,λb z=>absurd z (noA b),G.funs,λb hb=>?_⟩,
   rfl,G.bare,Un.kept Y,⟨_,hns,λi y v h1 h2 h3=>?_⟩,λy c h=>?_,?_,λy c h=>?_,λp hp=>absurd (show p∈([]:Ac)from hp) (by simp),(kZ G.hok hcs2).kept Y,?_⟩
  .rcases look x c h1 with⟨m1,_⟩|l1<;>rcases look y c h2 with⟨m2,_⟩|l2
   .exact name_of_addr hap m1 m2
   .exact absurd (oldC y c l2) (Qg2.mpr (Qa0 (M x c m1).2))
   .exact absurd (oldC x c l1) (Qg2.mpr (Qa0 (M y c m2).2))
   .exact inj x y c l1 l2
  .have Ua:scope.names.lookup y=some .cell\/scope.names.lookup y=some .free:=Ua;rcases Ua with Ua|Ua
   .obtain⟨c,e⟩:=qU (n:=s.heap.objs.size+1) Ua;exact⟨c,by show(cellsFrom (s.heap.objs.size+1) scope.names cl).lookup y=_;rw[Yi,Jz,e]⟩
   .obtain⟨c,e⟩:=has y Ua;exact⟨c,by show(cellsFrom (s.heap.objs.size+1) scope.names cl).lookup y=_;rw[C y Ua,e]⟩
  .have Ua:scope.names.lookup y=some .cell:=eq_of_beq (show(scope.names.lookup y == some .cell)=true from Ua);obtain⟨d,e⟩:=qU (n:=s.heap.objs.size+1) Ua;have h':(cellsFrom (s.heap.objs.size+1) scope.names cl).lookup y=some c:=h;rw[Yi,Jz,e]at h';cases h';exact Qa0 (M y _ (Qce e)).2
  .by_cases m:b∈D
   .exact YK m
   .exact(ZE m).trans (G.bs b o e).2
  .by_cases m:b∈D
   .exact YK m
   .exact(ZE m).trans (G.frf b hb)
  .by_cases hi:i<vs.length
   .rw[Qa6 (by simpa using hi),Qai]at h2;have ha:vs[i]?=some v:=by
     cases e:vs[i]? with
     |none=>rw[e]at h2;cases h2
     |some a=>rw[e]at h2;cases h2;rfl
    obtain⟨u,hu,rv⟩:=r.get ha;have N:(ps++(ls++ys))[i]?=some y:=h1;rw[Qa6 (by lia)]at N;exact⟨u,rv,.inl ⟨S.par y (Qat N),jt ndp N hu lus.symm⟩⟩
   .rw[Qax (by simpa using hi),Qab]at h2;have N:(ps++(ls++ys))[i]?=some y:=h1;rw[Qax (by lia),<-hl]at N
    by_cases hj:i-vs.length<ls.length
    .rw[Qa6 (by rw[Qay];exact hj),List.getElem?_replicate]at h2;split at h2<;>cases h2
    .rw[Qax (by rw[Qay];lia),Qay]at h2;rw[Qax (by lia)]at N;obtain⟨c,o,u,e1,e2,e3,rv⟩:=hval _ y v N h2;have hfy:=S.free y (Qat N);exact⟨u,rv,.inr ⟨.inr hfy,c,(C y hfy).trans e1,o,Y _ _ (G.hok c _ (fz _ _ _ e2)).1,e3⟩⟩
  .rcases look y c h with⟨m1,_⟩|l1
   .exact⟨none,(M y c m1).1⟩
   .obtain⟨o,v,_,d,g⟩:=O c (hcl y c l1);exact⟨v,o,Y _ _ g,d⟩
  .show hide D H1 s.heap.objs.size=none
   by_cases m:s.heap.objs.size∈D
   .exact YK m
   .rw[ZE m];exact G.hok.fresh (Qah _)
  .rcases look y c h with⟨m1,_⟩|l1
   .by_cases m:c∈D
    .exact YK m
    .rw[ZE m];exact G.hok.fresh (Qa0 (M y c m1).2)
   .exact YK (hcl y c l1)
  .show(vs.map some++(List.replicate ls.length none++cv)).length=(ps++(ls++ys)).length;rw[Qag,Qag,Qag,Qag,Qab,Qay,hl,hcv]
 refine Qdb (hbody A outer s (hide D H1) (hr.deeper _) [] _ _ _ _ I ht) (λfl s' hs=>?_) λ_ _ z=>z.elim;have fin:∀{Z:St} {H':Hp} {v:V} {u:Av},Inv (cxN P w K mg base (ps++(ls++ys)) qual scope f (.ref c') cl A outer s (hide D H1)) [] Z H' s'->RelV v u->((∀c∈D,H' c=none)->Q v (Wv D H1 H'))->CE outer P w H1 s Q u s':=λ{Z H' v u} J rv q=>gC G O J.os J.bare J.base J.hok rv q;cases fl with
 |ret u=>
  obtain⟨v,Z,H',J,rv,q⟩:=hs;exact fin J rv q
 |next=>
  obtain⟨Z,H',J,q⟩:=hs;exact fin (v:=V.non) (u:=Value.none) J U q
 |brk=>
  obtain⟨_,_,_,q⟩:=hs;exact False.elim q
 |cont=>
  obtain⟨_,_,_,q⟩:=hs;exact False.elim q
end
def tDef(P:Aw)(lpos:Pos)(qual:Str)(r:Aw->Value->Value->Obj)(i:Nat):TS:=λD σ H=>Yw H P lpos qual /\
 ∀(f c':Aw)(oc:Obj)(C G:Av)(H2:Hp),H f=none->H2 f=some (XS (r c' C G))->H2 c'=some (XS oc)->ju oc qual->Yw H2 P lpos qual->(∀b o,H b=some o->b≠P->H2 b=some o)->D.nx (σ.set i (some (.ref f))) H2
section
variable {X:Cx}{params:Arguments}{body:List Ay}{scope:Scope}{lpos:Pos}{c P:Aw}{name qual:Str}
abbrev vq (X:Cx) (name qual:Str) (params:Arguments) (body:List Ay) (scope:Scope):Aw->Value->Value->Obj:=λc' r C=>PySem.W.fnMade name qual params body scope (ji X.env.cells scope.names []) C ((X.mg "__name__").getD .none) c' r
theorem qs_def{S0:Scope}(hN:X.N.Nodup)(hi:X.N[i]?=some name)(hx:Loc X.env.scope name)(L:X.env.code=.ref c)(C:PySem.W.CodeHd X.base c P)(B:jY X.mg X.base)(hd0:params.defaults=[])(hk0:params.kw_defaults=[])(han:annTrees params none X.env=[])(hq:qualnameIn X.env name name=qual)
  (hX:X.env.scope=S0) (hfr0:∀y∈scope.names,y.2=.free->S0.names.lookup y.1=some .cell) (hf:X.fn name=true\/X.env.scope.names.lookup name=some .local:=by first|exact .inl U|exact .inr U|assumption):
  QS X (.FunctionDef name params body [] none [] scope none name lpos) (tDef P lpos qual (vq X name qual params body scope) i):=by
 have Y:∀y∈scope.names,y.2=.free->X.env.scope.names.lookup y.1=some .cell:=λy hy h=>by grind
 refine⟨?_⟩;intro pins s σ H D I hw;obtain⟨M,hq2⟩:=hw;refine PySem.W.nestDef_K hd0 hk0 han ?_;rw[hq];have Z:=Jv λy hy h=>I.ok.has y.1 (.inl (Y y hy h));have hg:=I.mod.glob.keeps I.bk;obtain⟨pz,hPs⟩:=M.ex;have S:X.base.get? P=none:=by
  cases e:X.base.get? P with
  |none=>rfl
  |some o=>rw[(I.bs P o e).2]at hPs;cases hPs
 have hgP:mainGlobals≠P:=λe=>by
  obtain⟨o,es,ep,g,_⟩:=I.mod.glob;rw[e,S]at g;cases g
 have hb:s.heap.BuiltinsAt X.mg P:=by
  obtain⟨bm,ob,b1,b2,b3,b4,b5,b6⟩:=B.ex;refine⟨bm,ob,b1,b2,λe=>?_,(λe=>by grind),I.bk _ _ b3,b4,b5,b6⟩;obtain⟨o,es,ep,g,hd,_⟩:=I.mod.glob;rw[<-e,b3]at g;cases g;rw[b6]at hd;cases hd
 rcases M with M|⟨c',oc,M,hc',O⟩
 .have hP:=I.hok P _ M;refine PySem.W.makeFunction_K (mg:=X.mg) (ps:=#[]) Z I.ok.glob hg L (C.keeps I.bk) hP trivial U hgP hb λc' G r h' tk hx' Q Ua hrec htb=>?_;obtain⟨c₂,oc,vs,t,e2,O,hd,hv⟩:=hrec;cases e2;have cn:H c'=none:=I.hok.fresh Q;have cP:c'≠P:=λe=>by grind
  have hsz:=Qa1 Q (Qa0 Ua);have I2:=gD (lpos:=lpos) (fo:=vq X name qual params body scope c' G r) (tk:=tk) I M hx' Q Ua O htb;have fn:=I.hok.fresh hsz;have fc:=Qbc Ua;refine JU I2 hN hi hx (v:=.ref h'.objs.size) U (λs' I3=>⟨_,_,I3,hq2 _ c' oc G r _ fn Za ?_ ⟨vs,t,hd,hv⟩ (.inr ⟨c',oc,?_,?_,⟨vs,t,hd,hv⟩⟩) λb o e hbP=>?_⟩) hf
  .rw[Zj fc];exact Za
  .rw[Zj (Zm M fn),Zj cP.symm];exact Za
  .rw[Zj fc];exact Za
  .rw[Zj (Zm e fn),Zj (Zm e cn),Zj hbP];exact e
 .have hP:=I.hok P _ M;have hfd:codeAmong lpos (#[rawInt lpos.line,rawInt lpos.col,.ref c']:Ah).toList=some (.ref c'):=by
   show(if((lpos.line:Int) == lpos.line&&(lpos.col:Int) == lpos.col)=true then some (Value.ref c')else _)=_;rw[Qct,Qct];rfl
  refine PySem.W.makeFunction_hit (mg:=X.mg) Z I.ok.glob hg L (C.keeps I.bk) hP trivial hfd hb λG r h' tk hk hsz=>?_;have I2:=I.laid (t':=tk) (o:=XS (vq X name qual params body scope c' G r)) (λb u e=>Qad _ (hk b u e)) hsz (GQ (Qam _ U));have fn:=I.hok.fresh hsz;have sm:∀b o,H b=some o->upd H h'.objs.size (XS (vq X name qual params body scope c' G r)) b=some o:=λb o e=>by rw[Zj (Zm e fn)];exact e
  exact JU I2 hN hi hx (v:=.ref h'.objs.size) U (λs' I3=>⟨_,_,I3,hq2 _ c' oc G r _ fn Za (sm _ _ hc') O (.inr ⟨c',oc,sm _ _ M,sm _ _ hc',O⟩) λb o e _=>sm b o e⟩) hf
end
def tCallN(G:Aq)(w:Au)(K:Af)(mg:Ae)(base:Heap)(k:Nat)(sp:Sp)(qual:Str)(r:Aw->Value->Value->Obj)(ta:TA)(i n m:Nat)(is:Aj)(ts:TS):TE:=λσ H Q=>ta σ H λvs H1=>
 ∃(f c':Aw)(oc:Obj)(C D:Av),σ[i]?=some (some (.ref f))/\H1 f=some (XS (r c' C D))/\H1 c'=some (XS oc)/\ju oc qual /\
 ∀(cs:List Aw)(H2:Hp),(∀c∈cs,H1 c=none)->(∀c∈cs,∃o,H2 c=some (XS o))->(∀b o,H1 b=some o->H2 b=some o)->
  YX G w K mg base k f H2 (Zij n m ts cs (is.map λi=>(σ[i]?).getD none))->sp vs H2 (λv I=>Q v (hide cs I)) E0
structure Zml(S0 scope:Scope)(N0 ps ls ys:Ai)(is:Aj):Prop where
 sc:Zkd scope ps ls ys
 free:∀y∈scope.names,y.2=.free->S0.names.lookup y.1=some .cell
 vis:∀q∈ys.zip is,N0[q.2]?=some q.1
 len:ys.length=is.length
section
variable {X:Cx}{params:Arguments}{body:List Ay}{scope:Scope}{p pos:Pos}{g:Aw}{name qual x:Str}{k kl:Nat}{gd:Ao}{pg ps ls ys:Ai}{is:Aj}{sp:Sp}{ts:TS}{e:Ax}{es:An}{ta:TA}
def Zgc(F:kC X.prog X.w X.K X.mg X.base CX0 k g gd pg sp)(hr:WL k X.A)(hg:Gl X x)(hm:X.mg x=some (.ref g))(hk:PySem.W.keepIn X.K (.ref g)=true)(hb:Binds X.K gd pg [])(hfn:X.fn=λ_=>true)
  (ha:QA X (e::es) ta) {S0:Scope} {N0:Ai} (hX:X.env.scope=S0) (hXN:X.N=N0) (LL:Zml S0 scope N0 ps ls ys is)
  (M:∀(cl:List (Str×Aw))(Z pm cv Y:Av)(Ua:Ag),Ua.length=ps.length->bindArgs (PySem.W.fnX name qual params body scope cl .none .none Z pm none cv Y) ⟨Ua,[]⟩=pure (ps.zip Ua))
  (L:∀(f c':Aw)(cl:List (Str×Aw))(A:Ar)(outer:List Env)(s:As)(H1:Hp),WL kl (A.deeper (PySem.W.envX qual scope s.heap.objs.size f (.ref c') (cellsFrom (s.heap.objs.size+1) scope.names cl)))->QSs (cxN X.prog X.w X.K X.mg X.base (ps++(ls++ys)) qual scope f (.ref c') cl A outer s H1) body ts)
  (hdb:(x == ("__debug__" : Str))=false:=by decide) (hp:(e::es).all Yk=true:=by rfl):
  QE X (.Call (.Name x p) (e::es) [] pos) (tCallN X.prog X.w X.K X.mg X.base (kl+1) sp qual (vq X name qual params body scope) ta i ps.length ls.length is ts):=by
 rw[Qcu,Qby]at hp;have S:=LL.sc;have C:∀y∈scope.names,y.2=.free->X.env.scope.names.lookup y.1=some .cell:=λy hy h=>by rw[hX];exact LL.free y hy h
 refine⟨?_⟩;intro pins s σ H Q I hw;refine Qc7 (jM I hg hm ?_ hdb);refine Qgm I.ok.mod.kin hk (thn (ha.out pos pins s σ H _ I hw) λUa s1 ⟨vs,H1,G,r,f,c',oc,Y,Z,hσ,hf,hc',hoc,q⟩=>⟨G.kIn,?_⟩) (Zy hp.1) (Xa hp.2);have O:∀y d,(ji _ _ []).lookup y=some d->X.env.cells.lookup y=some d:=
  JY (λy hy h=>G.ok.has y.1 (.inl (C y hy h))) λ_ _ z=>by cases z
 have D:=qZ G;have hcs:=jZ G;refine xE F hr hb hfn G r (q _ _ (XW G) (λd m=>let⟨o,_,e,_⟩:=hcs d m;⟨o,e⟩) D ?_);exact yh S (D _ _ hf) (D _ _ hc') hoc (λy d h=>YR.mpr ⟨y,O y d h⟩) (λd m=>let⟨o,v,e,hd,_⟩:=hcs d m;⟨o,v,e,hd⟩) (λy z d h1 h2=>G.ok.inj y z d (O y d h1) (O z d h2)) (λy h=>Jw h) (by rw[Qab,LL.len])
  (vm (N0:=N0) G C S.free (λq hq=>by rw[hXN];exact LL.vis q hq) LL.len) (λUa hl=>M _ _ _ _ _ Ua hl) λA outer s H1 hr=>(L f c' _ A outer s H1 hr).out
end
def QE.or{t u:TE}(h:QE X e t)(g:QE X e u):QE X e (λσ H Q=>t σ H Q\/u σ H Q):=⟨λpins s σ H Q I z=>z.elim (h.out pins s σ H Q I) (g.out pins s σ H Q I)⟩
def QS.or{e:Ay}{t u:TS}(h:QS X e t)(g:QS X e u):QS X e (λD σ H=>t D σ H\/u D σ H):=⟨λpins s σ H D I z=>z.elim (h.out pins s σ H D I) (g.out pins s σ H D I)⟩
def Zke(tk tv:TE):TE:=λσ H Q=>∀d,H d=none->tk σ (upd H d (.dK [])) λx H1=>tv σ H1 λv H2=>∃(Kk:Type)(_:DecidableEq Kk)(kn:KN Kk)(a:Aw)(k:Kk),x=.ref a/\H2 d=some (.dK [])/\kn.at_ H2 k a /\
 ∀H',qu kn H' d [(k,v)]->(∀b o,H2 b=some o->b≠d->H' b=some o)->(∃o,H'=upd H2 d o)->Q (.ref d) H'
def Zdd{k v:Ax}{tk:TE}(S:X.A.units+2<cLine)(Z:QE X k tk)(hv:QE X v d):QE X (.Dict [some k] [v] p) (Zke tk d):=by
 refine⟨λpins s σ H Q I q=>?_⟩;have N:=I.hok.fresh (Qah _);have I1:=I.laid (t':=s.toks) (λ_ _ q=>Qad _ q) (Qah _) (jS s.heap I.big);refine wpAny_Dict_any U U (λz=>nomatch z) (by simp) (thn (pp1 Z hv pins _ σ _ _ I1 (q _ N)) λws s2 ⟨x,y,u,r,H2,ew,C,rx,L,Kk,_,kn,a,kk,ex,e,D,O⟩=>?_);subst ew ex;cases(rx);have n:qu kn H2 _ []:=⟨Qbu,(show 0<sizeLine by decide),.inl ⟨U,e⟩⟩;obtain⟨xs,dd,M,G,hm⟩:=n.dict C;cases M;unfold storeAll;rw[Qhe];refine Qaa (Qaa (wpAny_dictSet_heap (kn.room0 _ _ _ S) (kn.ok _ _ _ _ _ _ C.hok D) dd λh' dd' Ua=>Qae ?_));show wpAny _ _ _ _ _ _;obtain⟨H',n',Y,o',I'⟩:=yc C n D L (show 0+1<sizeLine by decide) .nil G hm U dd' Ua;exact Qae ⟨.ref _,H',I',U,O H' n' Y o'⟩
def PI.or{l:Ax}{t u:TI}(h:PI X e l t)(g:PI X e l u):PI X e l (λσ H R=>t σ H R\/u σ H R):=λpins s σ H R I z=>z.elim (h pins s σ H R I) (g pins s σ H R I)
def QI.or{tg l:Ax}{t u:TI}(h:QI X tg l t)(g:QI X tg l u):QI X tg l (λσ H R=>t σ H R\/u σ H R):=⟨PI.or h.out g.out⟩
section
variable {prog:Aq}{w:Au}{A:Ar}{R:Result->Shared->Prop}{I:Aw}{fp wr:List Aw}{n:Nat}{P:Nat->Value->Prop}{St:Nat->Heap->Prop}{d:Av}
theorem Zkf(W:Walks prog w A.in1 I fp wr n P St)(bt:Nat->Nat->Bool)(hcmp:CmpOf prog w A.in1 .Gt P bt)(S:Aw)(hSf:S∉fp):
  ∀(k j:Nat)(s:As)(vb:Av)(c:Nat),n-(j+1)=k->j+1<=n->St (j+1) s.heap->P (argBest bt j) vb->
  s.heap.get? S=some {cls:=.type "list",dict:=none,data:=.seq #[vb,vb] c,slots:=#[]}->
  (∀v h' tk,P (argBest bt (n-1)) v->(∀b o,b∉wr->b≠S->s.heap.get? b=some o->h'.get? b=some o)->R (.ok (.ret v)) {s with heap:=h',toks:=tk})->
  codeAny (model prog w) A (.builtin "max.loop" ⟨[.ref I,.none,.ref S],[("default",d)]⟩) R s:=by
 have hSw:S∉wr:=λh=>hSf (W.sub _ h);have hname:(toString "max" ++ toString ".loop" : String) = "max.loop" :=by decide
 intro k
 induction k with
 |zero=>
  intro j s vb c hk hj hst N Z hR;have hin:j+1=n:=by lia
  refine Qdd Qfp ?_;refine Qaa (Qci Z U ?_);refine Qaa (Qft (W.done s _ _ (hin ▸ hst) λh' tk D=>?_));have G:=D S _ hSw Z;refine Qaa ?_;refine Qfh G U (Qaa (Qe2 (Qae ?_)));refine hR vb _ tk (by rw[<-hin];exact N) λb o r C e=>(Qbx _ _ (Qdx C)).trans (D b o r e)
 |succ k ih=>
  intro j s vb c hk hj hst N Z hR;have Q:j+1<n:=by lia
  refine Qdd Qfp ?_;refine Qaa (Qci Z U ?_);refine Qaa (Qft (W.item (j+1) s _ _ Q hst λv h' tk hP O D=>?_));have G:=D S _ hSw Z;show wpAny _ A.in1 (tryCatch (holding [v,v] (richCompare .Gt v vb >>= _)) _ >>= _) _ _ _;refine Qaa (Qft (Qcb (Qaa (hcmp (j+1) (argBest bt j) v vb _ _ _ hP N ?_))));refine Qaa (Qcb (Qdk ?_));refine Qaa (Qe2 (Qae ?_));cases hb:bt (j+1) (argBest bt j)with
  |true=>
   refine Qaa ?_;refine Qfh G U (Qaa (Qe2 ?_));refine Qae ⟨Qeb Qej _,ih (j+1) _ v _ (by lia) Q (W.frame _ _ _ O λb hbf o e=>?_) (by simp only[argBest,hb,if_true];exact hP) (Qbf _ G U)
    λv' Ua M Y L=>?_⟩
   .exact(Qbx _ _ (λh:S=b=>hSf (by rw[h];exact hbf))).trans e
   .exact hR v' Ua M Y λb o r C e=>L b o r C ((Qbx _ _ (Qdx C)).trans (D b o r e))
  |false=>
   refine Qaa (Qe2 ?_);refine Qae ⟨Qeb Qej _,ih (j+1) _ vb c (by lia) Q O (by simp only[argBest,hb,Qfg,if_false];exact N) G λv' Ua M Y L=>?_⟩;exact hR v' Ua M Y λb o r C e=>L b o r C (D b o r e)
def Zgd(W:Walks prog w A.in1 I fp wr n P St)(bt:Nat->Nat->Bool)(Ua:CmpOf prog w A.in1 .Gt P bt)(S:Aw)(D:S∉fp){c:Nat}(hst:St 0 s.heap)
  (hS:s.heap.get? S=some {cls:=.type "list",dict:=none,data:=.seq #[] c,slots:=#[]})
  (h0:n=0->∀h' tk,(∀b o,b∉wr->b≠S->s.heap.get? b=some o->h'.get? b=some o)->R (.ok (.ret d)) {s with heap:=h',toks:=tk})
  (hR:0<n->∀v h' tk,P (argBest bt (n-1)) v->(∀b o,b∉wr->b≠S->s.heap.get? b=some o->h'.get? b=some o)->R (.ok (.ret v)) {s with heap:=h',toks:=tk}):
  codeAny (model prog w) A (.builtin "max.loop" ⟨[.ref I,.none,.ref S],[("default",d)]⟩) R s:=by
 have hSw:S∉wr:=λh=>D (W.sub _ h);have Z:(toString "max" ++ toString ".loop" : String) = "max.loop" :=by decide
 refine Qdd Qfp ?_;refine Qaa (Qci hS U ?_)
 by_cases hn:0<n
 .refine Qaa (Qft (W.item 0 s _ _ hn hst λv h' tk hP M C=>?_));have L:=C S _ hSw hS;show wpAny _ A.in1 (updateSeq S (λ_=>#[v,v]) >>= _) _ _ _;refine Qaa ?_;refine Qfh L U ?_;refine Qae ⟨Qeb Qej _,Zkf W bt Ua S D _ 0 _ v _ U hn (W.frame _ _ _ M λb hbf o e=>?_) hP (Qbf _ L U) λv' Y Q hP' N=>?_⟩
  .exact(Qbx _ _ (λh:S=b=>D (by rw[h];exact hbf))).trans e
  .exact hR hn v' Y Q hP' λb o r G e=>N b o r G ((Qbx _ _ (Qdx G)).trans (C b o r e))
 .have O:n=0:=by lia
  refine Qaa (Qft (W.done s _ _ (by rw[O];exact hst) λh' tk C=>?_));refine Qaa (Qdl (Qae ?_));exact h0 O h' tk λb o r _ e=>C b o r e
end
section
variable {prog:Aq}{w:Au}{A:Ar}{E:Ab}{s:As}{l:Aw}{xs:Array (Int×Tok)}{d:Av}
def Zde(hh:A.handled=none)(S:s.heap.IsList l (intItems xs))(O:xs.size=0->∀h' tk,(∀b o,s.heap.get? b=some o->h'.get? b=some o)->Q d {s with heap:=h',toks:=tk})
  (h:0<xs.size->∀v h' tk,(intItems xs)[argBest (λi j=>decide (numAt xs i>numAt xs j)) (xs.size-1)]?=some v->(∀b o,s.heap.get? b=some o->h'.get? b=some o)->Q v {s with heap:=h',toks:=tk}):
  A9 prog w A (call (.builtin "max") [.ref l] [(Str.ofString "default",d)]) Q E s:=by
 have I:(toString "max" ++ toString ".loop" : String) = "max.loop" :=by decide
 refine PyProof.Rows.kmk_tree PySem.F.kind_max PySem.F.plain_max PySem.F.entry_max (by kernel_rfl) ?_;refine Qaa (Qcf (U) ?_);refine Qaa (Qae ?_);refine Qaa (iter_intList S λs₂ e st r L=>?_);subst e;refine Qaa (Qbo ?_);have W:=Walks.list (prog:=prog) (w:=w) (A:=A.in1) hh _ l L (intItems xs);have hsz:(intItems xs).size=xs.size:=by simp[intItems]
 refine Qae ⟨Qeb Qej _,Zgd W _ (CmpOf.ints_gt (numAt xs) (λ_ _=>intItems_at)) _ (λN=>Qck _ (r _ N)) (W.frame _ _ _ st λb _ o e=>Qad _ e) (Qam _ U) (λD h' tk G=>?_) λD v h' tk M G=>?_⟩
 .exact O (by rw[<-hsz];exact D) h' tk (old_kept λb o C e=>G b o C (Qbc (Qav e)) (Qad _ e))
 .exact h (by rw[<-hsz];exact D) v h' tk (by simpa[intItems]using M) (old_kept λb o C e=>G b o C (Qbc (Qav e)) (Qad _ e))
end
def tMaxD(K:Af)(ta td:TE):TE:=λσ H Q=>ta σ H λx H1=>td σ H1 λy H2=>∃(p:Aw)(ns:Ak),x=.ref p/\SqL K H2 p (ns.map V.int)/\(ns=[]->Q y H2)/\∀m∈ns,(∀n∈ns,n<=m)->Q (.int m) H2
def Zkg {a:Ax}  {kp:Pos} (hc:X.calm=true) (hg:Gl X "max") (hm:X.mg "max" = none) (ha:QE X a d) (hd:QE X e M) (hp:Yk a=true:=by rfl):
  QE X (.Call (.Name "max" p) [a] [⟨some "default",e,kp⟩] E) (tMaxD X.K d M):=by
 refine⟨λpins s σ H Q I hw=>?_⟩;refine Qc7 (qj I hg hm jl ?_ (by decide));have G:=Zy (rest:=[]) (env:=X.env) hp;refine callWith_kw ?_ (by rw[G];rfl) (by rw[G];rfl);rw[G];refine Qcx (thn (ha.out pins s σ H _ I hw) λu s1 ⟨x,H1,I1,Y,q1⟩=>?_);refine Qd0 (kws_cons (thn (hd.out pins s1 σ H1 _ I1 q1) λu2 s2 ⟨y,H2,r,r2,p,ns,ex,hq,hz,q⟩=>kws_nil ?_));subst ex;cases Y;obtain⟨its,r',pl,hz'⟩:=r.list hq;have hi:=intsAre_of r';obtain⟨xs,S⟩:=hi.allInts.items;have e1:ns=xs.toList.map (·.1):=by
  rw[<-nums_intItems,<-S];exact(hi.numsOf).symm
 refine Zde (r.ok.hd hc) (S ▸ pl.isList) (λh0 h' tk L=>⟨y,H2,r.kept L,r2,hz ?_⟩) λhsz v h' tk N L=>?_
 .grind
 have Ua:=argBest_gt (numAt xs) (xs.size-1);generalize argBest _ (xs.size-1)=b at N Ua;have at_:∀j (C:j<xs.size),numAt xs j=xs[j].1/\(intItems xs)[j]?=some (.int xs[j].1 xs[j].2):=by
  intro j C;exact⟨by simp[numAt,C],by simp[intItems,C]⟩
 obtain⟨Z,n2⟩:=at_ b (by lia);rw[n2]at N;cases N;refine⟨.int xs[b].1,H2,r.kept L,⟨_,U⟩,q _ ?_ λn O=>?_⟩
 .grind
 .rw[e1]at O;obtain⟨y,hy,rfl⟩:=Qap.mp O;obtain⟨j,C⟩:=Qex hy;have D:j<xs.size:=by
   grind
  have:=Ua.2 j (by lia);rw[(at_ j D).1,Z]at this;have ej:xs[j]=y:=by
   grind
  rw[ej]at this;exact this
def Zmm:V->List V->Hp->VK->Prop:=λx xs H Q=>∃i:Int,x=.int i/\xs=[]/\Q (.int ((Builtin.Int.intBits i:Nat):Int)) H
def Zkh:MtR X "int.bit_length" Zmm:=by
 intro pins s σ H x xs v D Q I C r h;obtain⟨i,rfl,rfl,q⟩:=h;obtain⟨t,rfl⟩:=C;cases r;exact call_int_bit_length ⟨.int _,H,I.tok _,⟨_,U⟩,q⟩
open AutoSeq1 (wpAny_loadPart')
end L2
namespace L2
open PySem.Calls
open AutoSeq1 (wpAny_loadPart')
section
variable {X:Cx}{o e:Ax}{es:An}{to:TE}{t:TA}{name:Str}{apos cpos:Pos}{id:String}{r:V->List V->Hp->VK->Prop}
def tTM(r:V->List V->Hp->VK->Prop)(to:TE)(t:TA):TE:=λσ H Q=>to σ H λx H1=>∃a xs,x=.ref a/\H1 a=some (.tup xs)/\t σ H1 λys H2=>r x ys H2 Q
def Zmn (L:Slot "tuple" name id) (M:typeOf (.builtin id)=pure (.type "method_descriptor")) (hm:MtR X id r) (ho:QE X o to) (ha:QA X (e::es) t)
  (C:attributeBase o name X.env (eval o X.env)=eval o X.env:=by rfl) (G:(apos.endLine == cpos.line)=true:=by rfl) (O:(e::es).all Yk=true:=by rfl) (hl:(e::es).length<30:=by decide):
  QE X (.Call (.Attribute o name apos) (e::es) [] cpos) (tTM r to t):=by
 have D:=O;rw[Qcu,Qby]at D;refine⟨λpins s σ H Q I h=>(Qfo C (by rw[all_plain O];exact Qaq (hl)) G U (thn (ho.out pins s σ H _ I h) λv s1 ⟨x,H1,S,Ua,a,xs,ex,hx,Z⟩=>?_))⟩;subst ex;cases Ua;obtain⟨_,its,_,ob,g1,g2,g3,g4⟩:=S.hok a _ hx;refine⟨"tuple",id,PySem.F.plainAttrs_tuple,L,M,⟨ob,g1,g2⟩,λa' e'=>by grind,?_⟩;have N:=ha.out cpos pins s1 σ H1 _ S Z;rw[Zy D.1]at N ⊢;refine Qda (by show(false||(backTo cpos _).any _)=false;rw[Xa D.2]<;>rfl) (Qew (thn N λus s2 ⟨vs,H2,Y,r2,q2⟩=>hm pins s2 σ H2 (.ref a) vs _ us Q Y U r2 q2))
def Zki:V->List V->Hp->VK->Prop:=λx vs H Q=>∃(l:Aw)(xs:A8)(y:V),x=.ref l/\vs=[y]/\H l=some (.tup xs)/\YZ y=true/\xs.all YZ=true/\Q (.int ((xs.countP λz=>eqV z y:Nat):Int)) H
theorem vt{y:V}:∀{xs:A8} {C:Ag},Vals xs C->xs.all YZ=true->C.countP (eqU y)=xs.countP λz=>eqV z y
 |_,_,.nil,_=>rfl
 |x::xs,u::C,.cons r t,f=>by
  rw[Qcu,Qby]at f;rw[Qhb,Qhb,vt t f.2,gq r f.1]
def Zdf:MtM X "tuple.count" Zki:=by
 intro pins s σ H x vs v us Q I S N h;obtain⟨l,xs,y,rfl,rfl,Y,Z,fx,q⟩:=h;cases S;obtain⟨u,rfl,D⟩:=N.one;obtain⟨_,G,r,⟨oc,od,M,C⟩,e,Ua,⟨n,L⟩,O⟩:=I.hok l _ Y;subst Ua L O;refine Qhp PySem.F.slot_tuple_count ⟨_,e,U⟩ PySem.F.entry_tuple_count (PySem.F.args_tuple_count_2 _ _) (SeqAt.tuple_countAt l _ n none C u _) ⟨e,λw hw=>Wh D Z r fx w (by grind),⟨.int _,H,I.tok _,⟨_,U⟩,?_⟩⟩;rw[vt r fx];exact q
def xH{M:Model}{A:Ar}{E:Ab}(f:Nat->g->Sem (ForInStep g))(I:Aj->g->Shared->Prop)(Q:g->Shared->Prop)
  (C:∀x rest b s,I (x::rest) b s->wpAny M A (f x b) (λr s'=>match r with|.yield b'=>I rest b' s'|.done b'=>Q b' s') E s)
  (fin:∀b s,I [] b s->Q b s) (b:g) (h:I (List.range n) b s):wpAny M A (forIn [:n] b f) Q E s:=by
 rw[Std.Legacy.Range.forIn_eq_forIn_range'];refine wpAny_forIn_list f I Q C fin _ b ?_;rw[show(List.range' _ _ _)=List.range n by simp[List.range_eq_range']];exact h
def yi(l:Aw)(items:Ah)(n:Nat)(dd:Option Aw)(O:Array (Option Av))(x:Av)(e:Av->Bool)(j:Nat)(Z:j<items.size)
  (G:e items[j]=true) (I:∀m (hm:m<items.size),m<j->e items[m]=false):
  Meets (Builtin.«tuple.index» ⟨[.ref l,x],[]⟩)
   (λA R s=>s.heap.get? l=some {cls:=.type "tuple",dict:=dd,data:=.seq items n,slots:=O}/\(∀y,y∈items->SeqAt.EqAt A.in1 s y x (e y))/\R (.ok (.ret (.int j s.toks))) {s with toks:=s.toks+1}):=
 .of_wp λprog w A R s h=>by
  obtain⟨Q,g,d,tk,os⟩:=s;obtain⟨S,Ua,h⟩:=h;have Y:∀(i:Nat) y,items[i]?=some y->∃h:i<items.size,y=items[i]:=λi y L=>by
   obtain⟨h1,h2⟩:=Array.getElem?_eq_some_iff.mp L;exact⟨h1,h2.symm⟩
  wp_walk using wpAny_loadPart' S,xH _ (λrest b s'=>b.1=none/\s'=⟨Q,g,d,tk,os⟩/\∃i,i<=j/\rest=(List.range (min items.size items.size)).drop i) _
  .rintro y rest b s' ⟨N,rfl,i,hi,D⟩;have r:i<items.size:=by lia
   rw[Qdc (by rw[Qbk,Qfv];exact r)]at D;injection D with M C;have L:y=i:=by simpa using M
   subst L;rw[Qco r];refine Qaa (Ua _ (Array.getElem_mem r) prog w _ _ ?_);rcases Nat.lt_or_ge y j with q|q
   .rw[I y r q]
    wp_walk
    exact⟨U,U,y+1,by lia,C⟩
   .have e1:y=j:=by lia
    subst e1;rw[G]
    wp_walk
    exact⟨_,U,h⟩
  .rintro⟨b1,b2⟩ s' ⟨N,rfl,i,hi,D⟩;have:=congrArg List.length D;rw[Qds,Qbk,Qfv]at this;simp only[Qcg]at this;lia
  .exact⟨U,U,0,Qbe _,U⟩
def Zkj:V->List V->Hp->VK->Prop:=λx vs H Q=>∃(l:Aw)(xs:A8)(y z:V)(j:Nat),x=.ref l/\vs=[y]/\H l=some (.tup xs)/\YZ y=true/\xs.all YZ=true/\xs[j]?=some z/\eqV z y=true/\(∀i r,i<j->xs[i]?=some r->eqV r y=false)/\Q (.int j) H
def Zdg:MtM X "tuple.index" Zkj:=by
 intro pins s σ H x vs v us Q I rx Ua h;obtain⟨l,xs,y,z,j,rfl,rfl,hH,fy,fx,hj,N,S,q⟩:=h;cases rx;obtain⟨u,rfl,ru⟩:=Ua.one;obtain⟨_,C,r,⟨oc,od,oda,L⟩,e,Z,⟨n,O⟩,Y⟩:=I.hok l _ hH;subst Z O Y;have hl:=r.length;have at_:∀(i:Nat)(hi:i<C.toArray.size),∃M,xs[i]?=some M/\eqU y C.toArray[i]=eqV M y:=λi hi=>by
  have D:i<xs.length:=by grind
  obtain⟨w',hw',G⟩:=r.get (Qac D);have e2:C.toArray[i]=w':=by
   grind
  refine⟨xs[i],Qac D,?_⟩;rw[e2];exact gq G (Qb2.mp fx _ (Qbi D))
 refine Qhp PySem.F.slot_tuple_index ⟨_,e,U⟩ PySem.F.entry_tuple_index (PySem.F.args_tuple_index_2 _ _) (yi l _ n none L u _ j (by grind) ?_ (λm hm hlt=>?_)) ⟨e,λw hw=>Wh ru fy r fx w (by grind),⟨.int j,H,I.tok _,⟨_,U⟩,q⟩⟩
 .grind
 .grind
end
def rGet2:V->List V->Hp->VK->Prop:=λx vs H Q=>∃(d:Aw)(k:Key)(v:V)(kvs:A0),x=.ref d/\vs=[kV k,v]/\Rd H d (.dK kvs)/\Q ((Yc kvs k).getD v) H
def Zkk:MtM X "dict.get" rGet2:=by
 intro pins s σ H x vs v S Q I O N h;obtain⟨d,k,y,kvs,rfl,rfl,e,q⟩:=h;cases O;cases N with
 |cons G D=>
 cases D with
 |cons D M=>
 cases M;obtain⟨z,L,vs,r,dd⟩:=jR I.hok e;refine Qgn F.slot_dict_get dd.typeIs F.entry_dict_get (F.args_dict_get_3 _ _ _) (meets_dict_get_default _ d (jQ G) L _) ⟨_,dd.mapOf,⟨_,H,I.tok _,?_,q⟩⟩;cases hy:Yc kvs k with
 |none=>rw[jL.none_of (o:=valueAt vs k) (by rw[<-hy];exact r.val k)];exact D
 |some Ua=>
  obtain⟨Y,hw,C⟩:=jL.some_of (by rw[<-hy];exact r.val k);rw[hw];exact C
def Iti(a:Aw)(o:Obj)(kvs:A0):It:=⟨λi H=>i<kvs.length/\H a=some (.frz o (.dK kvs)),λi H v H'=>∃p q,H p=none/\v=.ref p/\kvs[i]?=some q/\H'=upd H p (.tup [kV q.1,q.2]),λi H=>i=kvs.length/\H a=some (.frz o (.dK kvs))⟩
theorem KV.get{kvs:List (g×V)}{vs:List (g×Av)}(r:KV kvs vs){q:g×V}(h:kvs[i]?=some q):∃u,vs[i]?=some (q.1,u)/\RelV q.2 u:=by
 induction r generalizing i with
 |nil=>simp at h
 | @cons p q' ps D e t C=>
  cases i with
  |zero=>
   simp at h;subst h;exact⟨q'.2,by grind,e.2⟩
  |succ j=>
   exact C h
def Zai{es:An}{q:Nat}{ps:Pos}(a it:Aw)(o:Obj)(kvs:A0)(ep:Nat)(hep:∃es,o.data=.dict es ep):Turn P w K (.Tuple es q ps) (Iti a o kvs) [it] it (λi h=>∃ok Y,IsItemIter h it a i kvs.length ep ok Y)where
 mem:=by simp
 obj:=λi h st b L=>by
  grind
 keep:=λi h h' st k=>let⟨ok,Y,e⟩:=st;⟨ok,Y,k it (by simp) _ e⟩
 item:=by
  intro X hP hw hK hc i pins s σ H E I hf st hg;subst hP hw hK;obtain⟨hi,hH⟩:=hg;obtain⟨Z,z,nm,vs,D,dd⟩:=(I.hok a _ hH);obtain⟨o',O,ep',M,N,r,hk,hp,hn⟩:=id dd;have eo:o'=o:=Option.some.inj (M.symm.trans Z);subst eo;obtain⟨es2,C⟩:=hep;rw[r]at C;cases C;have Ua:s.heap.DictAt (ZQ X.prog X.w) a vs ep:=⟨o',O,Z,N,r,hk,hp,hn⟩;have hl:=D.length;obtain⟨ok,Y,st⟩:=st;have hq:=Qac hi;obtain⟨u,hu,ru⟩:=D.get hq;rw[hl]at st;refine wpAny_pyNext_items_item st Ua hu λkey h' hkey ho2 hT hsz hk2=>?_;refine⟨_,U,wpAny_letOwnedTupleGo_items (s:={s with heap:=h'}) ho2 λh2 hi2 hs2=>?_⟩;have G:Heap.SameBut it h' h2:=hs2;have I1:Inv X pins σ (upd H s.heap.objs.size (.tup [kV kvs[i].1,kvs[i].2])) _:=
   I.laid (t':=s.toks) (λb o y=>Qad _ y) (Qah _) ⟨xj,[key,u],.cons (g8 hkey) (.cons ru .nil),gj.new _ _⟩
  have fp':∀b∈[it],yJ X pins (upd H s.heap.objs.size (.tup [kV kvs[i].1,kvs[i].2])) b:=λb L=>by
   have hlb:b≠s.heap.objs.size:=by
    grind
   obtain⟨a0,ar⟩:=hf b L;exact⟨by rw[Zj hlb];exact a0,ar⟩
  have I2:Inv X pins σ (upd H s.heap.objs.size (.tup [kV kvs[i].1,kvs[i].2])) {s with heap:=h2}:=by
   refine Jx (t':=s.toks) (s:={s with heap:=s.heap.push _}) I1 fp' λb o L y=>?_;have S:b≠it:=λz=>L (by simp[z]);rcases Qf2 y with⟨rfl,rfl⟩|y
   .exact(G.2 _ S).trans hT
   .exact(G.2 b S).trans (hk2 b o S y)
  refine⟨.ref s.heap.objs.size,_,I2,U,⟨_,_,I.hok.fresh (Qah _),U,hq,U⟩,⟨_,_,by rw[hl];exact hi2⟩,λb L=>(fp' b L).1⟩
 done:=by
  intro X hP hw hK hc i pins s σ H E I hf st hg;subst hP hw hK;obtain⟨hi,hH⟩:=hg;obtain⟨f0,f1,f2,f3,f4,f5⟩:=hf it (by simp);obtain⟨Z,z,nm,vs,D,dd⟩:=(I.hok a _ hH);obtain⟨o',O,ep',M,N,r,hk,hp,hn⟩:=id dd;have eo:o'=o:=Option.some.inj (M.symm.trans Z);subst eo;obtain⟨es2,C⟩:=hep;rw[r]at C;cases C;have Ua:s.heap.DictAt (ZQ X.prog X.w) a vs ep:=⟨o',O,Z,N,r,hk,hp,hn⟩;have hl:=D.length;obtain⟨ok,Y,st⟩:=st;rw[hl]at st;exact wpAny_pyNext_items_end (I.ok.hd hc) st Ua (by grind) λh' eb=>⟨U,I.turned (t':=s.toks) (λb o L e=>eb b o L e) f0 f1 f3 f4 f5⟩
 self:=λA i s Q E st h=>let⟨ok,Y,e⟩:=st;PySem.W.kcp_self e h
def iItems(te:TE):TI:=λσ H R=>te σ H λx H1=>∃a kvs,x=.ref a/\Rd H1 a (.dK kvs)/\∀o,R (Iti a o kvs) (upd H1 a (.frz o (.dK kvs)))
def gP   {q:Nat} {ps:Pos}  (he:QE X e d) (C:attributeBase e "items" X.env (eval e X.env)=eval e X.env:=by rfl) (D:(p.endLine == E.line)=true:=by rfl):QI X (.Tuple A q ps) (.Call (.Attribute e "items" p) [] [] E) (iItems d):=by
 refine⟨λpins s σ H R I h=>?_⟩;refine wpAny_Call_method0_late C D (thn (he.out pins s σ H _ I h) λv r ⟨y,H1,Z,r1,q1⟩=>?_);obtain⟨a,kvs,rfl,e,q⟩:=q1;cases r1;obtain⟨z,nm,vs,Q,dd⟩:=jR Z.hok e;obtain⟨o,N,ep,S,M,G,hk,hp,hn⟩:=id dd;have I2:=Z.freeze e S;refine⟨"dict","dict.items",F.plainAttrs_dict,F.slot_dict_items,F.type_dict_items,dd.typeIs,λa' e'=>by cases e';exact⟨o,S,M.2.1⟩,Qda U (PySem.evalArgs_none ?_)⟩;refine Qgn F.slot_dict_items dd.typeIs F.entry_dict_items (F.args_dict_items_1 _) (meets_dict_items (ZQ X.prog X.w) a nm) ⟨⟨vs,dd⟩,?_⟩;have O:Inv X pins σ (upd H1 a (.frz o (.dK kvs))) {r with heap:=r.heap.push {cls:=.type "dict_items",data:=.fields #[.ref a]}}:=I2.kept (t':=r.toks) λb o e=>Qad _ e;have L:(r.heap.push {cls:=.type "dict_items",data:=.fields #[.ref a]}).DictAt (ZQ X.prog X.w) a vs ep:=⟨o,N,Qad _ S,M,G,hk,hp,hn⟩;have Y:(r.heap.push {cls:=.type "dict_items",data:=.fields #[.ref a]}).IsItemsView r.heap.objs.size a:=⟨_,Qam _ U,U,U⟩;generalize r.heap.push {cls:=.type "dict_items",data:=.fields #[.ref a]}=Ua at O L Y ⊢;refine wpAny_pyIter_items Y L ?_;refine⟨Ua.objs.size,[Ua.objs.size],_,_,_,U,O.kept (t':=r.toks) λb o e=>Qad _ e,Zai a _ o kvs ep ⟨N,G⟩,⟨.none,.none,?_⟩,λb hb=>?_,q o⟩
 .rw[Q.length];exact Qam _ U
 .have e:b=Ua.objs.size:=by simpa using hb
  subst e;exact O.fpOk (Qah _) (O.hok.fresh (Qah _))
theorem Zdh{o:Obj}{kvs:A0}{j k:Nat}{tb:TS}(r:Nat->St->Hp->Prop)(M:r 0 c H)(D:∀i c H,i<=kvs.length->r i c H->H a=some (.frz o (.dK kvs)))
  (I:∀i q c H p,kvs[i]?=some q->H p=none->r i c H->tb {S with nx:=r (i+1),ct:=r (i+1),bk:=S.nx} ((c.set j (some (kV q.1))).set k (some q.2)) (upd H p (.tup [kV q.1,q.2]))) (L:∀c H,r kvs.length c H->S.nx c H):
  Zfi (Iti a o kvs) (Zlu K 2 (xm (Wg j) (xm (Wg k) Zlt))) tb S c H:=
 qk _ r M (λi c H hi p=>⟨⟨hi,D i c H (Qa0 hi) p⟩,λv H' y=>by
  obtain⟨t,q,G,rfl,C,rfl⟩:=y;exact⟨t,_,U,SqT.of Za,U,_,_,U,_,_,U,U,I i _ c H t C G p⟩⟩) λc H p=>⟨⟨U,D _ c H (Qah _) p⟩,L c H p⟩
end L2
namespace L2
def wk{o:Obj}{kvs:A0}{is:Aj}{σ:St}(f:Nat->V)(O:H a=some (.frz o (.dK kvs)))(Q:kvs.length<=sizeLine)
  (L:∀i q H' (R:VK),kvs[i]?=some q->Z7 H H'->(∀H2,Z7 H' H2->R (f i) H2)->d (Zf4 is σ (some (kV q.1)) (some q.2)) H' R)
  (M:∀p H',H p=none->H' p=some (.lst ((List.range kvs.length).map f))->Z7 H H'->I (.ref p) H'):
  vn K is Zh6 d σ I (Iti a o kvs) H:=by
 refine⟨λi m zs H'=>m=kvs.length-i/\i<=kvs.length/\zs=(List.range i).map f/\Z7 H H',⟨kvs.length,by simp,Qbe _,U,Z7.refl _⟩,?_⟩;rintro i m zs H' ⟨rfl,hi,rfl,s⟩;have e1:=s _ _ O;have r:((List.range i).map f).length<=sizeLine:=by grind
 by_cases C:i<kvs.length
 .refine .inr ⟨⟨C,e1⟩,r,λx H2 y=>?_⟩;obtain⟨c,q,G,rfl,h1,rfl⟩:=y;refine⟨c,_,_,U,SqT.of Za,(L i _ _ _ h1 (s.trans (yb G)) λS N=>⟨_,by lia,U,C,?_,(s.trans (yb G)).trans N⟩)⟩;rw[Qdf,Qau];rfl
 .have e:i=kvs.length:=by lia
  subst e;exact .inl ⟨⟨U,e1⟩,r,λp D=>M p _ (s.free D) Za (s.trans (yb D))⟩
theorem Zdi:∀{vs:Ag} {r:Ai},vs.length=r.length->(∀(j:Nat)(v:Av),vs[j]?=some v->∃y t,r[j]?=some y/\v=.str y t)->StrsAre vs r
 |[],[],_,_=>.nil
 |v::vs,y::r,h,k=>by
  obtain⟨D,t,e1,e2⟩:=k 0 v rfl;have e1:=Option.some.inj e1;subst e1 e2;exact .cons _ t (Zdi (Nat.succ.inj h) λj v C=>k (j+1) v C)
def vu {X:Cx} (hc:X.calm=true):Xf X (.builtin "sorted") (λxs H Q=>∃(a:Aw)(kvs:A0)(S:Ai),xs=[.ref a]/\Rd H a (.dK kvs)/\kvs.map (·.1)=S.map Sum.inr/\S.length<64 /\
  ∀(l:Aw)(ms:Ai),H l=none->ms.Perm S->sortedS ms=true->Q (.ref l) (upd H l (.lst (ms.map V.str)))):=by
 intro pins s σ H xs us Q I r h;obtain⟨a,kvs,S,rfl,hq,hS,hn,q⟩:=h;obtain⟨u,rfl,rx⟩:=vals1 r;cases rx;obtain⟨z,nm,vs,Y,dd⟩:=jR I.hok hq;obtain⟨o,es,ep,ho,Z,hda,hk,hp,hnd⟩:=id dd;have C:vs.map (·.1)=S.map Sum.inr:=by rw[<-Y.keys];exact hS
 have G:vs.length=S.length:=by have:=congrArg List.length C;rwa [Qab,Qab]at this
 refine Calls.call_function_entry kind_sorted plain_sorted entry_sorted (args_sorted1 _) ?_;refine Qaa (Qae ?_);refine Qaa (PySem.W.kdu_collect (A:=X.A.in1) (PySem.W.kdl_dict (kvs:=vs) (ep:=ep) nm) (I.ok.hd hc) ⟨o,es,ho,Z,hda,hk,hp,hnd⟩ (by rw[G];exact Qa0 (Z3 (by lia))) λh1 tk acc O L=>?_);have hal:acc.toList.length=S.length:=by rw[Qb0,L.1,G]
 have D:StrsAre acc.toList S:=Zdi hal λj v hv=>by
  obtain⟨k,x,e1,e2⟩:=L.2 j v (by grind);have e3:(vs.map (·.1))[j]?=some k:=by grind
  rw[C,Qai]at e3;obtain⟨y,hy,rfl⟩:=Qa4.mp e3;obtain⟨t,e4⟩:=g8 e2;exact⟨y,t,hy,e4⟩
 have N:acc.toList.length<64:=by lia
 generalize hV:acc.toList=ws at N D ⊢;refine Qaa (wpAny_newList ?_ (by have:=Qhr;lia));have I1:Inv X pins σ H {s with heap:=h1,toks:=tk}:=I.kept O;have M:(h1.push _).get? h1.objs.size=some (seqObj "list" ws.toArray 0):=Qam _ rfl;refine Qaa (Qcb (Qbd slot_list_sort ⟨_,M,U⟩ entry_list_sort (list_sort_treeK strKind_oneLt M D.keysOf (λv₁ v₂ rest e=>keyKind_strs (by rw[<-e];exact D)) N λst' a1 a2=>⟨_,U,?_⟩) (args_list_sort _)));obtain⟨ss,b1,b2,b3⟩:=sorted_out_str D a1 a2;obtain⟨e,he⟩:=sortedHeap_at (vs:=ws) (n:=0) M;refine Qae ⟨_,U,⟨.ref h1.objs.size,_,I1.laid (t':=tk) (λb ob hb=>?_) (Qah _) ?_,U,q _ ss (I1.hok.fresh (Qah _)) b2 b3⟩⟩
 .have Ua:=Qav hb;rw[sortedHeap_old (Qbc Ua) (by rw[size_push'];exact Qd1 Ua)];exact Qad _ hb
 .have hm:ss.length=S.length:=b2.length_eq;exact⟨by rw[Qab];exact Qa0 (Z3 (by lia)),_,e,WW b1,by exact he⟩
theorem len7{α:Type}{P:List α->Prop}(h:∀a b c d e f g,P [a,b,c,d,e,f,g]):∀r:List α,r.length=7->P r
 |[_,_,_,_,_,_,_],_=>h _ _ _ _ _ _ _
open PySem.Calls
def rNeLB:R2:=λx y H Q=>∃(a c:Aw)(xs ys:A8)(e:Nat->Bool),x=.ref a/\y=.ref c/\H a=some (.lst xs)/\H c=some (.lst ys)/\(xs.length=ys.length->∀(j:Nat)(u v:V),xs[j]?=some u->ys[j]?=some v->EqB H 3 u v (e j))/\Q (.bl (!((List.range xs.length).all e&&xs.length == ys.length))) H
def Zkl(hu:X.A.units+4<cLine):OpR X (compareOp .NotEq) rNeLB:=by
 intro pins s σ H x y v u Q I Z N h;obtain⟨a,c,xs,ys,e,rfl,rfl,ha,S,he,q⟩:=h;cases Z;cases N;obtain⟨D,r,p,_⟩:=I.list (SqL.of ha);obtain⟨C,M,p2,_⟩:=I.list (SqL.of S)
 by_cases G:xs.length=ys.length
 .have L:D.toArray.size=C.toArray.size:=by rw[Qbn,Qbn,<-r.length,<-M.length];exact G
  refine SeqAt.RcNeAt.lists (e:=e) p.isList p2.isList L (by lia) (λj h1 h2=>?_) X.prog X.w _ _ (ZR I q ?_)
  .obtain⟨w1,g1,O⟩:=gO r h1;obtain⟨w2,Y,Ua⟩:=gO M h2;exact Zii I 3 _ _ _ _ _ _ O Ua (he G j _ _ g1 Y) (by lia)
  .rw[Qbn,<-r.length,G,Qct,Bool.and_true]
 .have L:(D.toArray.size != C.toArray.size)=true:=by
   rw[Qbn,Qbn,<-r.length,<-M.length];simpa using G
  refine SeqAt.RcNeAt.lists_lengths p.isList p2.isList L (by lia) X.prog X.w _ _ (ZR I q ?_);rw[beq_false_of_ne G,Qfs];rfl
end L2
namespace L2
def rGet2T:V->List V->Hp->VK->Prop:=λx vs H Q=>∃(d b:Aw)(k:List Key)(v:V)(kvs:List (List Key×V)),x=.ref d/\vs=[.ref b,v]/\Rd H d (.dT kvs)/\H b=some (.tup (k.map kV))/\Q ((Yc kvs k).getD v) H
def Zge (Y:X.A.units+2<cLine):MtM X "dict.get" rGet2T:=by
 intro pins s σ H x vs v Ua Q I S O h;obtain⟨d,b,k,y,kvs,rfl,rfl,e,M,q⟩:=h;cases S;cases O with
 |cons G D=>
 cases D with
 |cons D N=>
 cases N;cases(G);obtain⟨z,L,xs,r,dd⟩:=uT I.hok e;refine Qgn F.slot_dict_get dd.typeIs F.entry_dict_get (F.args_dict_get_3 _ _ _) (meetsH_dict_get_default _ d b L _) ⟨by show X.A.units+1<cLine;lia,k,xs,xy I.hok M,dd,⟨_,H,I.tok _,?_,q⟩⟩;cases hy:Yc kvs k with
 |none=>rw[jL.none_of (o:=(atKey xs k).map _) (by rw[<-hy];exact KT.val r k)];exact D
 |some Z=>
  obtain⟨w',hw,C⟩:=jL.some_of (by rw[<-hy];exact KT.val r k);rw[hw];exact C
end L2
namespace Lw
open PySem L2
def top(i:Nat):Ay:=PySem.Challenge.pw_everywidth_k32_whole_counts.main.body.getD i (.Pass ⟨0,0,0,0⟩)
abbrev jy:Ay:=top 1
abbrev xI:Ay:=top 2
abbrev J6:Ay:=top 5
abbrev GY:Ay:=top 9
abbrev Je:Ay:=top 10
abbrev xJ:Ay:=top 11
abbrev Gk:Ay:=top 18
abbrev Jf:Ay:=top 19
abbrev Gm:Ay:=top 20
abbrev Jg:Ay:=top 21
abbrev Jh:Ay:=top 23
abbrev xK:Ay:=top 29
abbrev jz:Ay:=top 33
abbrev Gn:Ay:=top 35
abbrev Xi:Ay:=top 39
abbrev xM:Ay:=top 40
abbrev Gp:Ay:=top 48
abbrev xN:Ay:=top 50
abbrev qw:Ay:=top 51
abbrev j0:Ay:=top 52
abbrev xO:Ay:=top 54
abbrev JP:Ay:=top 58
abbrev Gq:Ay:=top 59
abbrev J7:Ay:=top 60
abbrev J8:Ay:=top 61
abbrev xP:Ay:=top 62
abbrev Gr:Ay:=top 64
abbrev X0:Ay:=top 8
abbrev j4:Ay:=top 22
abbrev vv:Ay:=top 24
abbrev XR:Ay:=top 30
abbrev xQ:Ay:=top 32
abbrev Gs:Ay:=top 34
abbrev Wo:Ay:=top 47
abbrev xR:Ay:=top 53
abbrev Ww:Ay:=top 55
abbrev J9:Ay:=top 56
abbrev j5:Ay:=top 63
abbrev qx:Ay:=top 65
abbrev qy:Ay:=top 67
abbrev Wq:Ay:=top 26
abbrev GZ:Ay:=top 42
abbrev xS:Ay:=top 57
abbrev Xn:Ay:=top 66
abbrev vx:Ay:=top 31
abbrev X1:Ay:=top 4
abbrev xT:Ay:=top 7
abbrev ZZ:Ay:=top 38
abbrev Ji:Ay:=top 37
abbrev Wx:Ay:=top 44
abbrev Zdj:Ay:=top 46
abbrev Zkm:Ay:=top 68
def Y5:Pos:=⟨30,50,30,102⟩
def Y6:Str:=(("least" : Str) ++ ".<locals>.") ++ "<lambda>"
def Zw:Pos:=⟨157,4,161,77⟩
def Zs:Str:=(("machine_telling" : Str) ++ ".<locals>.") ++ "step_of"
abbrev YM:Ay:=(Xg ZZ).getD 3 (.Pass ⟨0,0,0,0⟩)
def Zb{p:Aw}{o:HO}(h:H p=none):Z7 H (upd H p o):=λb u e=>by rw[Zj (Zm e h)];exact e
def gQ(w:Nat):(0:Int)<2^w:=by
 have h2:(2^w)=((2^w):Int):=by rfl
 have:=Nat.two_pow_pos w;rw[h2];lia
def wm(w:Nat)(r:Int):Ak:=(List.range w).map λi=>r/2^i%2
def wo{t u:TS}{b c:A7}{σ:L2.St}(J:A7)(h1:∀N:A7,(∀σ H,J σ H->N σ H)->t {S with nx:=N} σ H)(h2:∀σ H,J σ H->u S σ H):({nx:=Yl t u S,rt:=I,bk:=b,ct:=c}:Ends).nx σ H:=h1 _ h2
def Zg{v:V}{Q:A7}(h:Q (c.set i (some v)) H):Wg i v c H Q:=h
theorem ZF{p:Aw}{o:HO}(s:Z7 H B)(r:H p=none):Z7 H (upd B p o):=λb u e=>by
 rw[Zj (Zm e r)];exact s b u e
def ZG{ns:Ak}(j:Nat)(r:z=(j:Int))(C:j<ns.length):atI (ns.map V.int) z=some (.int (ns.getD j 0)):=by
 subst r;refine Yv ?_;rw[Qai,Qak,Qac C];rfl
def Zkn{z:Str}{i:Int}(n:Nat)(C:z.cps.toList.length=n)(D:0<=i)(h1:i<(n:Int)):∃c,c∈z.cps.toList/\atI z.cps.toList i=some c:=by
 obtain⟨j,rfl⟩:∃j:Nat,i=j:=⟨i.toNat,by lia⟩;have r:j<z.cps.toList.length:=by lia
 exact⟨_,Qbi r,Yv (Qac r)⟩
def fI(g:Int->V):V->V
 |.int x=>g x
 |v=>v
def len_signs(a:Str):a.length=a.cps.toList.length:=by
 unfold Str.length;rw[Qb0]
def Zdk:Str:= "abcdefghijklmnopqrstuvwxyz"
def Low(c:Nat):Prop:=c∈Zdk.cps.toList
instance (c:Nat):Decidable (Low c):=inferInstanceAs (Decidable (c∈_))
def Z8:Ai:=["not","neg","twice","low","and","or","odd","add","sub","pick","same","under","beneath","sign","nought","both","either","so","never","yes"]
def NmL(y:Str):Prop:=(1<=y.length/\y.length<=8)/\∀c∈y.cps.toList,Low c
instance (y:Str):Decidable (NmL y):=inferInstanceAs (Decidable (_/\_))
structure NmS(y:Str):Prop where
 l:NmL y
 k:y∉Z8
def Zko:Zdk.cps.toList.length=26:=by decide +kernel
def Zgf:Zdk.length<=sizeLine:=by decide +kernel
def Zgg:∀y∈Z8,(1<=y.length/\y.length<=7)/\∀c∈y.cps.toList,Low c:=by decide +kernel
def low_at{i:Int}(r:0<=i)(h1:i<26):∃c,Low c/\atI Zdk.cps.toList i=some c:=by
 obtain⟨c,C,e⟩:=Zkn 26 Zko r h1;exact⟨c,C,e⟩
def Zdl(c:Nat):(⟨#[c]⟩:Str).length=1:=rfl
theorem ZC(y:Str):∀ys:Ai,inV (.str y) (ys.map V.str)=decide (y∈ys)
 |[]=>rfl
 |z::r=>by
  have e:inV (.str y) ((z::r).map V.str)=((z == y)||inV _ _):=rfl;rw[e,ZC y r]
  by_cases h:z=y
  .grind
  .grind
def yj{c:TT}{σ:L2.St}(C:A7)(μ:L2.St->Hp->Nat)(I:C σ H)
  (G:∀σ H,C σ H->c σ H λb H1=>if b=true then∃N:A7,(∀r H',N r H'->∃D,D<μ σ H/\D=μ r H'/\C r H')/\q {S with nx:=N,ct:=N,bk:=S.nx} σ H1 else S.nx σ H1):Zhn c q S σ H:=by
 refine⟨λm σ H=>m=μ σ H/\C σ H,⟨_,U,I⟩,?_⟩;rintro m σ H ⟨rfl,p⟩;exact G σ H p
def sumT:List (Str×Nat):=[("not",1),("neg",1),("twice",1),("low",1),("and",2),("or",2),("odd",2),("add",2),("sub",2),("pick",3)]
def Wz:Ai:=sumT.map (·.1)
def Yz(y:Str):Nat:=((sumT.find? λp=>decide (p.1=y)).map (·.2)).getD 0
def xc:∀y∈Wz,y∈Z8:=by decide +kernel
def T1:List (Str×Int):=[("not",1),("neg",1),("twice",1),("low",1),("and",2),("or",2),("odd",2),("add",2),("sub",2),("pick",3)]
def T2:List (Str×Int):=[("same",2),("under",2),("beneath",2),("sign",1),("nought",1)]
def T3:List (Str×Int):=[("both",2),("either",2),("so",2),("never",1),("yes",0)]
def Zv:Ai:=["same","under","beneath","sign","nought","both","either","so","never","yes"]
theorem Zil(l:List (Str×Int))(y:Str):(Yc (kvsOf l) (.inr y)).isSome=decide (y∈l.map (·.1)):=by
 induction l with
 |nil=>rfl
 |cons p r C=>
  by_cases h:p.1=y
  .have e:Yc (kvsOf (p::r)) _=some _:=ZU (p:=((Sum.inr p.1),V.int p.2)) (by rw[h]);rw[e,Qaq (by grind)];rfl
  .have e:Yc (kvsOf (p::r)) _=Yc (kvsOf r) _:=ZP (λz=>h (Sum.inr.inj z))
   by_cases m:y∈r.map (·.1)
   .grind
   .grind
def JQ:List (Str×Int)->Key->Int
 |[],_=>0
 |p::r,k=>if(Sum.inr p.1:Key)=k then p.2 else JQ r k
theorem kget(l:List (Str×Int))(k:Key):(Yc (kvsOf l) k).getD (.int 0)=.int (JQ l k):=by
 induction l with
 |nil=>rfl
 |cons p r C=>
  unfold JQ
  by_cases h:(Sum.inr p.1)=k
  .have e:Yc (kvsOf (p::r)) k=some _:=ZU h;rw[e,Qa5 h];rfl
  .have e:Yc (kvsOf (p::r)) k=Yc (kvsOf r) k:=ZP h;rw[e,C,Qaw h]
theorem xU{l:List (Str×Int)}{y:Str}(h:y∉l.map (·.1)):JQ l (.inr y)=0:=by
 induction l with
 |nil=>rfl
 |cons p r C=>
  unfold JQ;rw[Qaw (λz=>h (by grind)),C (λz=>h (Qal _ z))]
def Wr(k:Key):Int:=JQ T1 k+JQ T2 k+JQ T3 k
def wq:∀y,y∈Z8↔y∈Wz\/y∈Zv:=by
 intro y;have e:Z8=Wz++Zv:=by decide +kernel
 rw[e,Qbl]
def yk:(∀y∈T1.map (·.1),y∈Z8)/\(∀y∈T2.map (·.1),y∈Z8)/\∀y∈T3.map (·.1),y∈Z8:=by decide +kernel
def keyOf:V->Key
 |.int i=>.inl i
 |.str y=>.inr y
 |_=>.inl 0
def Zkp(x:Str)(c:Nat):(!(Builtin.Str.occurrences x ⟨#[c]⟩ 0 x.length 1).isEmpty)=decide (c∈x.cps.toList):=by
 have h:=PyProof.Rows.in_closes (x:=x) (c:=c) U rfl;rw[beq_iff_eq]at h;rw[h]
 by_cases m:c∈x.cps.toList
 .rw[Qaq m,Qaq ((PyProof.Rows.countIn_signs c _).mpr m)]
 .rw[Qan m,Qan (λz=>m ((PyProof.Rows.countIn_signs c _).mp z))]
def j6(y r:Str):Prop:=y.cps.toList≠[]/\∀c∈y.cps.toList,c∈r.cps.toList
instance (y sg:Str):Decidable (j6 y sg):=inferInstanceAs (Decidable (_/\_))
def all_bs(l:Aj)(p:Nat->Bool):(l.map p).all id=decide (∀c∈l,p c=true):=by
 rw[Qfc,Qb2,Qek];constructor
 .exact λh c r=>h _ (Qb5 r)
 .grind
def xV {y:Str}:y.cps.toList=[]↔y=("" : Str):=by
 constructor
 .intro h;obtain⟨a⟩:=y;have:a=#[]:=by
   grind
  subst this;decide +kernel
 .rintro rfl;decide +kernel
def nmB:V->Bool
 |.str y=>decide (y∉Z8/\NmL y)
 |_=>false
def Ze9:V->Str
 |.str y=>y
 |_=> ""
def qz(w:V):Prop:=(∃y,w=.str y/\y.length<=1000)\/∃z,w=.int z
theorem vy(ys:Ai):(Wn ys).length<=ys.length:=by
 have h:∀(ys S:Ai),(ys.foldl ins S).length<=S.length+ys.length:=by
  intro ys
  induction ys with
  |nil=>intro S;exact Qah _
  |cons y r C=>
   intro S;have h1:=C (ins S y);have h2:(ins S y).length<=S.length+1:=by
    unfold ins;split
    .lia
    .grind
   rw[Qde,Qaz];lia
 have:=h ys [];rw[Qcg,Qd8]at this;exact this
def Zkq(r:A8):((r.filter nmB).map Ze9).map V.str=r.filter nmB:=by
 rw[Qa7];refine(Qbs λw hw=>?_).trans (Qhs _);cases w with
 |str y=>rfl
 |_=>cases(Qdm.mp hw).2
def YE:∀y∈Zv,y∈Z8:=by decide +kernel
def qa(w:V):Nat:=(JQ T1 (keyOf w)+JQ T2 (keyOf w)).toNat
def kE(w:V):Nat:=(JQ T3 (keyOf w)).toNat
def nextK(w:V):Am:=List.replicate (qa w) false++List.replicate (kE w) true
theorem wt{l:List (Str×Int)}(h:∀p∈l,0<=p.2/\p.2<=3)(k:Key):0<=JQ l k/\JQ l k<=3:=by
 induction l with
 |nil=>exact⟨Int.le_refl _,(by decide:(0:Int)<=3)⟩
 |cons p r C=>
  unfold JQ;split
  .exact h p Qaj
  .grind
def Zmp(k:Key):0<=JQ T1 k/\JQ T1 k<=3:=wt (by decide +kernel) k
def Zmq(k:Key):0<=JQ T2 k/\JQ T2 k<=3:=wt (by decide +kernel) k
def Zmr(k:Key):0<=JQ T3 k/\JQ T3 k<=3:=wt (by decide +kernel) k
def npw(w:V):Nat:=(Wr (keyOf w)).toNat
def xW(k:Key):0<=Wr k/\Wr k<=9:=by
 have h1:=Zmp k;have h2:=Zmq k;have r:=Zmr k;unfold Wr;lia
def Zgh(w:V):(nextK w).length=npw w:=by
 have h1:=Zmp (keyOf w);have h2:=Zmq (keyOf w);have r:=Zmr (keyOf w);unfold nextK npw qa kE Wr;rw[Qag,Qay,Qay];lia
def Zks(h:i<r.length):(r.drop i).reverse=(r.drop (i+1)).reverse++[r[i]]:=by simp
def YN(l:A8)(y:V):(l++[y])[(l++[y]).length-1]?=some y:=by grind
def Zim{x:V}(h:r.reverse[i]?=some x):i<r.length/\r[r.length-1-i]?=some x:=by grind
def iV:V->Int
 |.int a=>a
 |_=>0
def bV:V->Bool
 |.bl b=>b
 |_=>false
def oneV (y:Str) (a:Int):Int:=if y = "not" then Builtin.bitNot a else if y = "neg" then -a else if y = "twice" then a+a else Builtin.bitAnd a (-a)
def twoV (y:Str) (a b:Int):Int:=if y = "and" then Builtin.bitAnd a b else if y = "or" then Builtin.bitOr a b else if y = "odd" then Builtin.bitXor a b else if y = "add" then a+b else a-b
def wwv(ρ:Str->Int):V->List Int->Int
 |.int z,_=>z
 |.str y,[]=>ρ y
 |.str y,[a]=>oneV y a
 |.str y,[a,b]=>twoV y a b
 |.str _,a::b::c::_=>Builtin.bitOr (Builtin.bitAnd a b) (Builtin.bitAnd (Builtin.bitNot a) c)
 |_,_=>0
def sgn(m a:Int):Int:=if a*2>=m then a-m else a
def Zdm(m:Int)(y:Str)(xs:Ak):Bool:=
 if y = "nought" then decide (xs.getD 0 0=0)else if y = "sign" then decide (sgn m (xs.getD 0 0)<0)else if y = "same" then decide (xs.getD 0 0=xs.getD 1 0)
 else if y = "under" then decide (xs.getD 0 0<xs.getD 1 0)else decide (sgn m (xs.getD 0 0)<sgn m (xs.getD 1 0))
def Zna(y:Str)(bs:Am):Bool:=
 if y = "yes" then true else if y = "never" then !(bs.getD 0 false)else if y = "both" then bs.getD 0 false&&bs.getD 1 false else if y = "either" then bs.getD 0 false||bs.getD 1 false else bs.getD 1 false || !(bs.getD 0 false)
def cvV(m:Int)(ρ:Str->Int)(w:V)(xs:A8):V:=
 match w with
 |.str y=>if y∈Zv then(if 0<qa w then .bl (Zdm m y (xs.map iV))else .bl (Zna y (xs.map bV)))else .int (wwv ρ w (xs.map iV)%m)
 |_=>.int (wwv ρ w (xs.map iV)%m)
def WQ(m:Int)(ρ:Str->Int)(C:A8)(r:A8):A8:=C.foldr (λw s=>cvV m ρ w (s.take (npw w))::s.drop (npw w)) r
def X2(m:Int)(ρ:Str->Int)(w:V)(r C:A8):WQ m ρ (w::r) C=cvV m ρ w ((WQ m ρ r C).take (npw w))::(WQ m ρ r C).drop (npw w):=rfl
def clK:Key->Bool
 |.inr y=>decide (y∈Zv)
 |.inl _=>false
def Zms(m n:Nat):(m &&& n)/2=m/2 &&& n/2/\(m &&& n)%2=m%2*(n%2):=by
 refine⟨Nat.and_div_two_pow (n:=1),?_⟩;rw[Nat.and_mod_two_pow (n:=1)];rcases Qcw m with e|e<;>rcases Qcw n with f|f<;>rw[e,f]<;>rfl
def n_or(m n:Nat):(m ||| n)/2=m/2 ||| n/2/\(m ||| n)%2=m%2+n%2-m%2*(n%2):=by
 refine⟨Nat.or_div_two_pow (n:=1),?_⟩;rw[Nat.or_mod_two_pow (n:=1)];rcases Qcw m with e|e<;>rcases Qcw n with f|f<;>rw[e,f]<;>rfl
def bA_pp(m n:Nat):Builtin.bitAnd m n=((m &&& n:Nat):Int):=by
 rfl
def gR(n:Nat):¬(0:Int)<=-(n:Int)-1:=by lia
def gS(n:Nat):(Builtin.bitNot (-(n:Int)-1)).toNat=n:=by
 unfold Builtin.bitNot;lia
def Zmt(m n:Nat):Builtin.bitAnd m (-(n:Int)-1)=(m:Int)-((m &&& n:Nat):Int):=by
 unfold Builtin.bitAnd;rw[Qan (gR n)];rw[gS];rfl
def Zkt(m n:Nat):Builtin.bitAnd (-(m:Int)-1) n=(n:Int)-((n &&& m:Nat):Int):=by
 unfold Builtin.bitAnd;rw[Qan (gR m)];rw[gS];rfl
def Zmu(m n:Nat):Builtin.bitAnd (-(m:Int)-1) (-(n:Int)-1)=-((m ||| n:Nat):Int)-1:=by
 unfold Builtin.bitAnd;rw[Qan (gR n),Qan (gR m)];rw[gS,gS];rfl
def yl(a:Int):(∃m:Nat,a=m)\/∃m:Nat,a=-(m:Int)-1:=by
 by_cases h:0<=a
 .exact .inl ⟨a.toNat,by lia⟩
 .exact .inr ⟨(-a-1).toNat,by lia⟩
def Zaj(a:Int):a%2=0\/a%2=1:=by lia
def sub2(m A:Int)(h:A%2=0\/m%2=1):(m-A)/2=m/2-A/2/\(m-A)%2=m%2-A%2:=by lia
def cast2(m:Nat):(m:Int)/2=((m/2:Nat):Int)/\(m:Int)%2=((m%2:Nat):Int):=⟨U,U⟩
def Zfa(x:Int):(-x-1)/2=-(x/2)-1/\(-x-1)%2=1-x%2:=by lia
def Zmv(m n:Nat):(((m &&& n:Nat):Int))/2=((m/2 &&& n/2:Nat):Int)/\(((m &&& n:Nat):Int))%2=(m:Int)%2*((n:Int)%2):=by
 rw[(cast2 _).1,(cast2 _).2,(Zms m n).1,(Zms m n).2];exact⟨U,U⟩
def take2(m n:Nat):((m:Int)-((m &&& n:Nat):Int))/2=((m/2:Nat):Int)-((m/2 &&& n/2:Nat):Int)/\((m:Int)-((m &&& n:Nat):Int))%2=(m:Int)%2*(1-(n:Int)%2):=by
 have l:=Zmv m n;have h:((m &&& n):Int)%2=0\/(m:Int)%2=1:=by
  grind
 have z:=sub2 _ _ h;rw[z.1,z.2,l.1,l.2];refine⟨U,?_⟩;rcases Zaj m with e|e<;>rcases Zaj _ with f|f<;>rw[e,f]<;>rfl
def Zmw(a b:Int):Builtin.bitAnd a b/2=Builtin.bitAnd (a/2) (b/2)/\Builtin.bitAnd a b%2=a%2*(b%2):=by
 rcases yl a with⟨m,rfl⟩|⟨m,rfl⟩<;>rcases yl b with⟨n,rfl⟩|⟨n,rfl⟩
 .exact Zmv m n
 .rw[(cast2 m).1,(Zfa _).1,(Zfa _).2,(cast2 n).1,Zmt,Zmt];exact take2 m n
 .rw[(cast2 n).1,(Zfa _).1,(Zfa _).2,(cast2 m).1,Zkt,Zkt,Qhk];exact take2 n m
 .rw[(Zfa _).1,(Zfa _).2,(Zfa _).1,(Zfa _).2,(cast2 m).1,(cast2 n).1,Zmu,Zmu,(Zfa _).1,(Zfa _).2,(cast2 _).1,(cast2 _).2,(n_or m n).1,(n_or m n).2];refine⟨U,?_⟩;rw[(cast2 m).2,(cast2 n).2];rcases Qcw m with e|e<;>rcases Qcw n with f|f<;>rw[e,f]<;>rfl
def Zin(a:Int):Builtin.bitNot a/2=Builtin.bitNot (a/2)/\Builtin.bitNot a%2=1-a%2:=by
 unfold Builtin.bitNot;lia
def or2(a b:Int):Builtin.bitOr a b/2=Builtin.bitOr (a/2) (b/2)/\Builtin.bitOr a b%2=1-(1-a%2)*(1-b%2):=by
 unfold Builtin.bitOr;have h:=Zmw (Builtin.bitNot a) (Builtin.bitNot b);rw[(Zin a).1,(Zin b).1,(Zin a).2,(Zin b).2]at h;rw[(Zin _).1,(Zin _).2,h.1,h.2];exact⟨U,U⟩
def xor2(a b:Int):Builtin.bitXor a b/2=Builtin.bitXor (a/2) (b/2)/\Builtin.bitXor a b%2=(a%2+b%2)%2:=by
 unfold Builtin.bitXor;have h:=Zmw a b;have g:=or2 a b;have q:Builtin.bitAnd a b%2=0\/Builtin.bitOr a b%2=1:=by
  rw[h.2,g.2];rcases Zaj a with e|e<;>rcases Zaj b with f|f<;>rw[e,f]<;>decide
 have z:=sub2 _ _ q;rw[z.1,z.2,h.1,h.2,g.1,g.2];refine⟨U,?_⟩;rcases Zaj a with e|e<;>rcases Zaj b with f|f<;>rw[e,f]<;>rfl
def vz(w:Nat)(n:Int):wm (w+1) n=n%2::wm w (n/2):=by
 unfold wm;rw[List.range_succ_eq_map,Qbw,Qa7,Qdu,Qc4];congr 1;refine Qbs λi _=>?_;show n/2^(i+1)%2=n/2/2^i%2;rw[Qgp,Qhk,Qed (by decide)]
theorem Zgi(w:Nat)(n:Int):wm w (n%2^w)=wm w n:=by
 induction w generalizing n with
 |zero=>rfl
 |succ w C=>
  rw[vz,vz,<-C (n/2)];have e1:n%2^(w+1)%2=n%2:=by
   rw[Int.emod_emod_of_dvd];exact⟨2^w,by grind⟩
  have e2:n%2^(w+1)/2=n/2%2^w:=by
   have r:(0:Int)<2^w:=Qe3 (by decide);have h2:=Qeq (n/2) (2^w);have G:=Qb6 (n/2) (Qfy r);have D:=Qb4 (n/2) r;have e:n%2^(w+1)=n%2+2*(n/2%2^w):=by
    have:n=n%2+2*(n/2%2^w)+2^(w+1)*(n/2/2^w):=by grind
    conv=>lhs;rw[this]
    rw[Int.add_mul_emod_self_left];refine Qfr (by lia) ?_;lia
   rw[e];lia
  rw[e1,e2]
def bits_getD(w:Nat)(n:Int)(i:Nat)(h:i<w):(wm w n).getD i 0=n/2^i%2:=by
 unfold wm;rw[Qak,Qai,Qe4 h];rfl
theorem Zdn{j:Nat}(h:i<=j):(2:Int)^i<=2^j:=by
 obtain⟨d,rfl⟩:∃d,j=i+d:=⟨j-i,by lia⟩;clear h
 induction d with
 |zero=>exact Int.le_refl _
 |succ d r=>
  lia
def bt(x:Int)(k:Nat):Int:=x/2^k%2
def YO(x:Int)(k:Nat):bt x (k+1)=bt (x/2) k:=by
 unfold bt;rw[Qgp,Qhk,Qed (by decide)]
def Y9(x:Int)(k:Nat):bt x k=0\/bt x k=1:=by
 unfold bt;lia
theorem W0(k:Nat):∀a b:Int,bt (Builtin.bitAnd a b) k=bt a k*bt b k:=by
 induction k with
 |zero=>
  intro a b;unfold bt;rw[Qdu,Qc4,Qc4,Qc4,(Zmw a b).2]
 |succ k r=>
  intro a b;rw[YO,YO,YO,(Zmw a b).1,r]
theorem zM(k:Nat):∀a b:Int,bt (Builtin.bitOr a b) k=1-(1-bt a k)*(1-bt b k):=by
 induction k with
 |zero=>
  intro a b;unfold bt;rw[Qdu,Qc4,Qc4,Qc4,(or2 a b).2]
 |succ k r=>
  intro a b;rw[YO,YO,YO,(or2 a b).1,r]
theorem xX(k:Nat):∀a b:Int,bt (Builtin.bitXor a b) k=(bt a k+bt b k)%2:=by
 induction k with
 |zero=>
  intro a b;unfold bt;rw[Qdu,Qc4,Qc4,Qc4,(xor2 a b).2]
 |succ k r=>
  intro a b;rw[YO,YO,YO,(xor2 a b).1,r]
theorem Gu(k:Nat):∀a:Int,bt (Builtin.bitNot a) k=1-bt a k:=by
 induction k with
 |zero=>
  intro a;unfold bt;rw[Qdu,Qc4,Qc4,(Zin a).2]
 |succ k r=>
  intro a;rw[YO,YO,(Zin a).1,r]
def xY(k:Nat):bt 0 k=0:=by
 unfold bt;rw[Int.zero_ediv];rfl
theorem Zdo(k:Nat):bt (-1) k=1:=by
 induction k with
 |zero=>rfl
 |succ k r=>rw[YO];exact r
def j7(x:Int)(w k:Nat)(h:k<w):bt (x%2^w) k=bt x k:=by
 have h1:=bits_getD w (x%2^w) k h;rw[Zgi w x,bits_getD w x k h]at h1;exact h1.symm
def lo(x:Int)(k:Nat):Int:=x%2^k
def zN(x:Int)(k:Nat):0<=lo x k/\lo x k<2^k:=⟨Qb6 _ (Qfy (Qe3 (by decide))),Qb4 _ (Qe3 (by decide))⟩
def xZ(x:Int)(k:Nat):lo x (k+1)=lo x k+2^k*bt x k:=by
 unfold lo bt;have r:(0:Int)<2^k:=Qe3 (by decide);have e1:=Qeq x (2^k);have D:=Qb6 x (Qfy r);have b1:=Qb4 x r;have e3:x=(x%2^k+2^k*(x/2^k%2))+2^(k+1)*(x/2^k/2):=by
  grind
 conv=>lhs;rw[e3]
 rw[Int.add_mul_emod_self_left];have C:x/2^k%2=0\/x/2^k%2=1:=by lia
 refine Qfr ?_ ?_
 .rcases C with h|h<;>rw[h]<;>lia
 .grind
def Zku(x:Int)(k:Nat):x=lo x k+2^k*(x/2^k):=(Qeq x _).symm
def bt_sum{x y:Int}{k:Nat}{c:Int}(r:c=0\/c=1)(e:lo z k+2^k*c=lo x k+lo y k)(C:z=x+y):bt z k=(bt x k+bt y k+c)%2:=by
 have e1:=Zku x k;have e2:=Zku y k;have e3:=Zku z k;have h:2^k*(z/2^k)=2^k*(x/2^k+y/2^k+c):=by grind
 unfold bt;rw[Int.eq_of_mul_eq_mul_left (Qfy (Qe3 (by decide))) h];lia
def cyA(x y:Int)(k:Nat):Int:=(lo x k+lo y k)/2^k
def Zdp(x y:Int)(k:Nat):lo (x+y) k+2^k*cyA x y k=lo x k+lo y k:=by
 have e:lo (x+y) k=(lo x k+lo y k)%2^k:=by
  unfold lo;rw[<-Int.emod_add_emod,<-Int.add_emod_emod]
 rw[e];exact Qeq _ _
def Zdq(x y:Int)(k:Nat):cyA x y k=0\/cyA x y k=1:=by
 have r:(0:Int)<2^k:=Qe3 (by decide);have a:=zN x k;have b:=zN y k;have C:0<=cyA x y k:=Int.ediv_nonneg (by lia) (Int.le_of_lt r);have D:cyA x y k<2:=Int.ediv_lt_of_lt_mul r (by lia);lia
def Zio(x y:Int)(k:Nat):bt (x+y) k=(bt x k+bt y k+cyA x y k)%2:=bt_sum (Zdq x y k) (Zdp x y k) U
def gT(x y:Int):cyA x y 0=0:=by
 unfold cyA lo;rw[Qdu,Qhl,Qhl];rfl
def gU(x y:Int)(k:Nat):cyA x y (k+1)=(bt x k+bt y k+cyA x y k)/2:=by
 have r:(0:Int)<2^k:=Qe3 (by decide);have e1:=xZ x k;have e2:=xZ y k;have e3:=Zdp x y k;have b:=zN (x+y) k;have e:lo x (k+1)+lo y (k+1)=lo (x+y) k+2^k*(bt x k+bt y k+cyA x y k):=by
  lia
 unfold cyA;rw[e,Qgp,<-Qed (Int.le_of_lt r),Qfz _ _ (Qfy r),Qdo b.1 b.2,Qgq];rfl
def brA(x y:Int)(k:Nat):Int:=if lo x k<lo y k then 1 else 0
def gW(x y:Int)(k:Nat):brA x y k=cyA (x-y) y k:=by
 have e:=Zdp (x-y) y k;have b:=zN (x-y) k;unfold brA;rcases Zdq _ y k with h|h<;>rw[h]at e ⊢
 .rw[Qaw (by lia)]
 .rw[Qa5 (by lia)]
def v3(x y:Int)(k:Nat):brA x y k=0\/brA x y k=1:=by
 unfold brA;split
 .exact .inr U
 .exact .inl U
def Zdr(x y:Int)(k:Nat):bt (x-y) k=(bt x k+bt y k+brA x y k)%2:=by
 have h:=Zio (x-y) y k;rw[Int.sub_add_cancel,<-gW]at h;have a:=Y9 (x-y) k;rw[h];lia
def gX(x y:Int):brA x y 0=0:=by
 rw[gW,gT]
def gY(x y:Int)(k:Nat):brA x y (k+1)=1-(1-(1-bt x k)*bt y k)*(1-brA x y k*(1-(bt x k+bt y k)%2)):=by
 rw[gW,gU,<-gW,Zdr];rcases Y9 x k with a|a<;>rcases Y9 y k with b|b<;>rcases v3 x y k with c|c<;>rw[a,b,c]<;>rfl
def nzA(x:Int)(k:Nat):Int:=brA 0 x k
def Zds(x:Int)(k:Nat):nzA x k=0\/nzA x k=1:=v3 0 x k
def Zgj(x:Int):nzA x 0=0:=gX 0 x
def Zgk(x:Int)(k:Nat):nzA x (k+1)=1-(1-bt x k)*(1-nzA x k):=by
 unfold nzA;rw[gY,xY];rcases Y9 x k with a|a<;>rcases v3 0 x k with c|c<;>rw[a,c]<;>rfl
def Ziq(x:Int)(k:Nat):bt (-x) k=(bt x k+nzA x k)%2:=by
 have h:=Zdr 0 x k;rw[Int.zero_sub,xY,Qgq]at h;exact h
def bt_low(x:Int)(k:Nat):bt (Builtin.bitAnd x (-x)) k=bt x k*(1-nzA x k):=by
 rw[W0,Ziq];rcases Y9 x k with a|a<;>rcases Zds x k with c|c<;>rw[a,c]<;>rfl
def tw(x:Int):Nat->Int
 |0=>0
 |k+1=>bt x k
theorem tw_01(x:Int):∀k,tw x k=0\/tw x k=1
 |0=>.inl U
 |k+1=>Y9 x k
theorem Zgl(x:Int):∀k,bt (x+x) k=tw x k
 |0=>by
  unfold bt;rw[Qdu,Qc4];show(x+x)%2=0;lia
 |k+1=>by
  rw[YO,show(x+x)/2=x by lia];rfl
def hld(y:Str)(is:Ak)(k:Nat):Int:=
 if y = "twice" then tw (is.getD 0 0) k else if y = "neg" \/ y = "low" then nzA (is.getD 0 0) k else if y = "add" then cyA (is.getD 0 0) (is.getD 1 0) k else brA (is.getD 0 0) (is.getD 1 0) k
def za:Ai:=["neg","twice","low","add","sub"]
def once(y:Str)(bs:Ak):Int:=
 if y = "not" then 1-bs.getD 0 0 else if y = "and" then bs.getD 0 0*bs.getD 1 0 else if y = "or" then 1-(1-bs.getD 0 0)*(1-bs.getD 1 0)else if y = "odd" then(bs.getD 0 0+bs.getD 1 0)%2
 else 1-(1-bs.getD 0 0*bs.getD 1 0)*(1-(1-bs.getD 0 0)*bs.getD 2 0)
def ans1(y:Str)(bs:Ak)(h:Int):Int:=
 if y = "twice" then h else if y = "neg" then(bs.getD 0 0+h)%2 else if y = "low" then bs.getD 0 0*(1-h)else(bs.getD 0 0+bs.getD 1 0+h)%2
def Jj(is:Ak)(k i:Nat):(is.map λx=>bt x k).getD i 0=bt (is.getD i 0) k:=by
 rw[Qak,Qak,Qai];cases is[i]? with
 |none=>exact(xY k).symm
 |some x=>rfl
def j8:∀y∈Wz,y∉za->(y = "not" /\ Yz y=1)\/(y = "and" /\ Yz y=2)\/(y = "or" /\ Yz y=2)\/(y = "odd" /\ Yz y=2)\/(y = "pick" /\ Yz y=3):=by decide +kernel
def ans_ok(ρ:Str->Int){y:Str}(C:y∈za){is:Ak}(r:is.length=Yz y)(k:Nat):ans1 y (is.map λx=>bt x k) (hld y is k)=bt (wwv ρ (.str y) is) k:=by
 unfold za at C;simp at C;rcases C with rfl|rfl|rfl|rfl|rfl
 .match is,r with
  |[a],_=>exact(Ziq a k).symm
 .match is,r with
  |[a],_=>exact(Zgl a k).symm
 .match is,r with
  |[a],_=>exact(bt_low a k).symm
 .match is,r with
  |[a,b],_=>exact(Zio a b k).symm
 .match is,r with
  |[a,b],_=>exact(Zdr a b k).symm
def Zkv(ρ:Str->Int){y:Str}(C:y∈Wz)(D:y∉za){is:Ak}(r:is.length=Yz y)(k:Nat):once y (is.map λx=>bt x k)=bt (wwv ρ (.str y) is) k:=by
 rcases j8 y C D with⟨rfl,e⟩|⟨rfl,e⟩|⟨rfl,e⟩|⟨rfl,e⟩|⟨rfl,e⟩<;>skip
 .match is,r with
  |[a],_=>exact(Gu k a).symm
 .match is,r with
  |[a,b],_=>exact(W0 k a b).symm
 .match is,r with
  |[a,b],_=>exact(zM k a b).symm
 .match is,r with
  |[a,b],_=>exact(xX k a b).symm
 .match is,r with
  |[a,b,c],_=>
   show 1-(1-bt a k*bt b k)*(1-(1-bt a k)*bt c k)=bt (Builtin.bitOr _ _) k;rw[zM,W0,W0,Gu]
def gZ:A8->Nat
 |[]=>0
 |w::r=>gZ r-npw w+1
def Jk:A8->Prop
 |[]=>True
 |w::r=>npw w<=gZ r/\Jk r
def vA(ys:Ai)(B:Nat)(w:V):Prop:=(∃y,w=.str y/\y∈Wz/\y∉ys/\npw w=Yz y)\/(∃y,w=.str y/\y∈ys/\y∉za/\npw w=0)\/∃z:Int,w=.int z/\0<=z/\z<2^B/\npw w=0
def Zir{B k:Nat}(r:0<=z)(h:z<2^B)(C:B<=k):bt z k=0:=by
 have D:=Zdn C;unfold bt;rw[Qdo r (by lia)];rfl
def Zmx(a b h:Int):Int:=Builtin.bitOr (Builtin.bitAnd (Builtin.bitNot a) b) (Builtin.bitAnd h (Builtin.bitNot (Builtin.bitXor a b)))
def allR:Ai:=["neg","twice","low","add","sub","same","under","beneath","nought"]
def Zkw:Ai:=["add","sub","same","under","beneath"]
def ktI(y:Str)(is:Ak)(h:Int):Int:=
 if y = "twice" then is.getD 0 0 else if y = "neg" \/ y = "low" \/ y = "nought" then Builtin.bitOr (is.getD 0 0) h else if y = "same" then Builtin.bitOr (Builtin.bitXor (is.getD 0 0) (is.getD 1 0)) h
 else if y = "add" then Builtin.bitOr (Builtin.bitAnd (is.getD 0 0) (is.getD 1 0)) (Builtin.bitAnd h (Builtin.bitOr (is.getD 0 0) (is.getD 1 0)))else Zmx (is.getD 0 0) (is.getD 1 0) h
def okI(y:Str)(is:Ak)(h n:Int):Int:=
 if y = "add" \/ y = "sub" then Builtin.bitXor (Builtin.bitXor (is.getD 0 0) (is.getD 1 0)) h else if y = "neg" then Builtin.bitXor (is.getD 0 0) h else if y = "twice" then h else if y = "low" then Builtin.bitAnd (is.getD 0 0) (Builtin.bitNot h)
 else if y = "same" \/ y = "nought" then Builtin.bitNot n else if y = "under" then n else Zmx (is.getD 1 0) (is.getD 0 0) h
def oaI(y:Str)(is:Ak):Int:=
 if y = "yes" then -1 else if y = "sign" then is.getD 0 0 else if y = "not" \/ y = "never" then Builtin.bitNot (is.getD 0 0)else if y = "and" \/ y = "both" then Builtin.bitAnd (is.getD 0 0) (is.getD 1 0)else if y = "or" \/ y = "either" then Builtin.bitOr (is.getD 0 0) (is.getD 1 0)
 else if y = "odd" then Builtin.bitXor (is.getD 0 0) (is.getD 1 0)else if y = "so" then Builtin.bitOr (Builtin.bitNot (is.getD 0 0)) (is.getD 1 0)else Builtin.bitOr (Builtin.bitAnd (is.getD 0 0) (is.getD 1 0)) (Builtin.bitAnd (Builtin.bitNot (is.getD 0 0)) (is.getD 2 0))
def Zdt (y:Str):Nat:=if y = "yes" then 0 else if y = "sign" \/ y = "not" \/ y = "never" then 1 else if y = "pick" then 3 else 2
def Zdu:∀y∈allR,¬y = "twice" ->¬(y = "neg" \/ y = "low" \/ y = "nought")->y∈Zkw:=by decide +kernel
def Zdv:Ai:=["not","and","or","odd","pick","both","either","so","never","yes","sign"]
def Zak:∀y∈Zdv,¬y = "yes" ->¬y = "sign" ->¬(y = "not" \/ y = "never")->¬(y = "and" \/ y = "both")->¬(y = "or" \/ y = "either")->¬y = "odd" ->¬y = "so" ->3<=Zdt y:=by decide +kernel
def zb{m:Nat}{is:Ak}(h:is.length=m)(h2:n<=m):n<=is.length:=by grind
def and_zero(x:Int):Builtin.bitAnd x 0=0:=by
 rcases yl x with⟨m,rfl⟩|⟨m,rfl⟩
 .rw[show 0=((0:Nat):Int)from U,bA_pp,Nat.and_zero]
 .rw[show 0=((0:Nat):Int)from U,Zkt,Nat.zero_and];rfl
def and_1(x:Int):Builtin.bitAnd x 1=x%2:=by
 obtain⟨h1,h2⟩:=Zmw x 1;rw[show(1:Int)/2=0 from U,and_zero]at h1;lia
def XA(ys:Ai)(cols:Str->Int)(pl:Nat)(kp:Ak):A8->List Int×Ak
 |[]=>([],[])
 |w::r=>
  let p:=XA ys cols pl kp r
  match w with
  |.str y=>
   if y∈allR then(okI y (p.1.take (npw w)) (-(kp.getD p.2.length 0)) (ktI y (p.1.take (npw w)) (-(kp.getD p.2.length 0)))::p.1.drop (npw w),p.2++[ktI y (p.1.take (npw w)) (-(kp.getD p.2.length 0))])
   else if y∈ys then(cols y::p.1.drop (npw w),p.2)
   else(oaI y (p.1.take (npw w))::p.1.drop (npw w),p.2)
  |.int z=>(-(bt z pl)::p.1.drop (npw w),p.2)
  |_=>p
def Zdw(kvs:A0)(ys:Ai)(cols:Str->Int):Prop:=(∀y∈ys,Yc kvs (.inr y)=some (.int (cols y)))/\∀y,y∉ys->Yc kvs (.inr y)=none
def ym(ys:Ai)(w:V):Prop:=(∃y,w=.str y/\y∈allR/\y∉ys/\1<=npw w/\(y∈Zkw->2<=npw w))\/(∃y,w=.str y/\y∈Zdv/\y∉allR/\y∉ys/\npw w=Zdt y)\/(∃y,w=.str y/\y∈ys/\y∉allR/\npw w=0)\/∃z:Int,w=.int z/\0<=z/\npw w=0
theorem yn{ys:Ai}{cols:Str->Int}{pl:Nat}{kp:Ak}:∀C:A8,(∀w∈C,ym ys w)->(XA ys cols pl kp C).1.length=gZ C
 |[],_=>rfl
 |w::r,hw=>by
  have G:=yn (cols:=cols) (pl:=pl) (kp:=kp) r λw h=>hw w (Qal _ h);have go:∀x,(x::(XA ys cols pl kp r).1.drop (npw w)).length=gZ r-npw w+1:=λx=>by grind
  rcases hw w Qaj with⟨y,rfl,h1,_⟩|⟨y,rfl,h1,h2,D,_⟩|⟨y,rfl,h1,h2,_⟩|⟨z,rfl,_⟩
  .show(if y∈allR then _ else _:Ak×Ak).1.length=_;rw[Qa5 h1];exact go _
  .show(if y∈allR then _ else if y∈ys then _ else _:Ak×Ak).1.length=_;rw[Qaw h2,Qaw D];exact go _
  .show(if y∈allR then _ else if y∈ys then _ else _:Ak×Ak).1.length=_;rw[Qaw h2,Qa5 h1];exact go _
  .exact go _
def vC(ys:Ai)(cols:Str->Int)(pl:Nat)(kp:Ak)(w:V)(r:A8):(XA ys cols pl kp r).2.length<=(XA ys cols pl kp (w::r)).2.length:=by
 cases w with
 |str y=>
  show _<=(if y∈allR then _ else if y∈ys then _ else _:Ak×Ak).2.length;split
  .grind
  .split<;>exact Qah _
 |_=>exact Qah _
theorem vD(ys:Ai)(cols:Str->Int)(pl:Nat)(kp:Ak):∀(C:A8)(j:Nat),(XA ys cols pl kp (C.drop j)).2.length<=(XA ys cols pl kp C).2.length
 |[],j=>by simp
 |w::r,0=>Qah _
 |w::r,j+1=>Qa1 (vD ys cols pl kp r j) (vC ys cols pl kp w r)
theorem zc:∀(C:A8)(j:Nat),Jk C->Jk (C.drop j)
 |[],j,_=>by grind
 |w::r,0,h=>h
 |w::r,j+1,h=>zc r j h.2
theorem wu:∀C:A8,gZ C<=C.length
 |[]=>Qah _
 |w::r=>by
  have:=wu r;show gZ r-npw w+1<=r.length+1;lia
def wx(z:Int)(ys:Ai):inV (.int z) (ys.map V.str)=false:=by
 cases q:inV _ _ with
 |false=>rfl
 |true=>
  obtain⟨x,r,e⟩:=Qdr.mp q;obtain⟨y,_,rfl⟩:=Qap.mp r;cases e
theorem ua(ys:Ai)(cols:Str->Int)(pl:Nat)(kp:Ak):∀D:A8,(XA ys cols pl kp D).2.length<=D.length
 |[]=>Qah _
 |w::r=>by
  have C:=ua ys cols pl kp r;cases w with
  |str y=>
   show(if y∈allR then _ else if y∈ys then _ else _:Ak×Ak).2.length<=r.length+1;split
   .grind
   .split<;>exact Nat.le_succ_of_le C
  |_=>exact Nat.le_succ_of_le C
def wy{x:Int}(h:x=0\/x=1)(l:Nat):bt (-x) l=x:=by
 rcases h with rfl|rfl
 .exact xY l
 .exact Zdo l
def Zdx:∀y∈Wz,(y∈allR↔y∈za):=by decide +kernel
def hor(r:Ak):Int:=r.foldl (λa b=>a*2+b) 0
def ub(r:Ak)(b:Int):hor (r++[b])=hor r*2+b:=by
 unfold hor;rw[Qc2];rfl
def Zgm{b:Int}(h:C[i]?=some b):hor (C.take (i+1))=hor (C.take i)*2+b:=by
 rw[Qgz,h];exact ub _ b
def sm(b:Nat->Int):Nat->Int
 |0=>0
 |n+1=>sm b n+b n*2^n
theorem uc{b c:Nat->Int}:∀{n:Nat},(∀i,i<n->b i=c i)->sm b n=sm c n
 |0,_=>rfl
 |n+1,h=>by
  show sm b n+b n*2^n=sm c n+c n*2^n;rw[uc λi hi=>h i (Qd1 hi),h n (Qdq n)]
theorem yo{b:Nat->Int}(r:∀i,b i=0\/b i=1):∀n,0<=sm b n/\sm b n<2^n
 |0=>⟨Int.le_refl _,(show 0<2^0 by decide)⟩
 |n+1=>by
  have C:=yo r n;have e:sm b (n+1)=sm b n+b n*2^n:=rfl;rw[e];rcases r n with z|z<;>rw[z]<;>constructor<;>lia
theorem Zdy{b:Nat->Int}(C:∀i,b i=0\/b i=1)(p:Nat):∀n,p<n->sm b n/2^p%2=b p
 |0,h=>absurd h (Qer _)
 |n+1,h=>by
  have e:sm b (n+1)=sm b n+b n*2^n:=rfl;have G:=gQ p;rw[e]
  by_cases r:p<n
  .obtain⟨k,rfl⟩:∃k,n=p+(k+1):=⟨n-p-1,by lia⟩;have e2:b (p+(k+1))*2^(p+(k+1))=2^p*(2^k*b (p+(k+1))*2):=by grind
   rw[e2,Qfz _ _ (by lia)];have I:=Zdy C p _ r;lia
  .have e3:p=n:=by lia
   subst e3;obtain⟨D,h1⟩:=yo C p;rw[Qhk,Qfz _ _ (by lia),Qdo D h1];rcases C p with z|z<;>rw[z]<;>rfl
def Zdz{ys:Ai}{x:V}(h:(ys.map V.str)[i]?=some x):∃y:Str,x=V.str y/\ys[i]?=some y:=by grind
def Zd0{H':Hp}{u:HO}(e:Rd H a u)(s:Z7 H H'):Rd H' a u:=by
 rcases e with e|⟨o,e⟩
 .exact .inl (s _ _ e)
 .exact .inr ⟨o,s _ _ e⟩
abbrev Gv(l:Nat):V:=.int l
def j9(r:Bool)(v:V):Prop:=(r=true/\∃x,v=.bl x)\/(r=false/\∃x,v=.int x)
def WM(H:Hp)(p:Aw)(C:Az):Prop:=∃as:A8,H p=some (.tup as)/\as.length=C.length/\∀(i:Nat)(r:A8),C[i]?=some r->∃a,as[i]?=some (V.ref a)/\H a=some (.tup r)
def WM.same{H H':Hp}{p:Aw}{C:Az}(R:WM H p C)(e:Z7 H H'):WM H' p C:=by
 obtain⟨as,h1,h2,G⟩:=R;refine⟨as,e _ _ h1,h2,λi r hi=>?_⟩;obtain⟨a,I,D⟩:=G i r hi;exact⟨a,I,e _ _ D⟩
def q9(r:Aj):A8:=r.map Gv
structure M4(H:Hp)(m:Aw)(nm:Ai)(b:Nat)(nx:Ad)(ot:Az):Prop where
 ex:∃pn ps po,H m=some (.tup [.ref pn,.int b,.ref ps,.ref po])/\H pn=some (.tup (nm.map V.str))/\WM H ps (nx.map q9)/\WM H po ot
structure Wf(nm:Ai)(b:Nat)(nx:Ad)(ot:Az)(tr:Bool):Prop where
 n3:nm.length<=3
 b:b<nx.length
 le:nx.length<=1000000
 ol:ot.length=nx.length
 nr:∀r∈nx,r.length=2^nm.length
 nl:∀r∈nx,∀s∈r,s<nx.length
 or:∀r∈ot,r.length=2^nm.length
 ok:∀r∈ot,∀v∈r,j9 tr v
 bit:∀r∈ot,∀v∈r,vB v=some 0\/vB v=some 1
def Zkx{A B:Hp->Prop}(h:A H):Zh6 c H λb H2=>if b=true then A H2 else B H2:=by
 show if true=true then A H else B H;exact Yp h
def p8(h:n<=3):2^n<=8:=Qb9 (by decide) h
def Zis{r:List (List g)}(h:i<r.length):r[i]?=some (r.getD i []):=by grind
def yp{p:Aw}(R:WM H p Y)(h:i<Y.length):∃as a,H p=some (HO.tup as)/\atI as (i:Int)=some (V.ref a)/\H a=some (.tup (Y.getD i [])):=by
 obtain⟨as,h1,h2,C⟩:=R;obtain⟨a,D,r⟩:=C i _ (Zis h);exact⟨as,a,h1,Yv D,r⟩
def vE(nx:Ad)(i:Nat):(nx.map q9).getD i []=q9 (nx.getD i []):=by
 rw[Qak,Qak,Qai];cases nx[i]?<;>rfl
def getD_mem{r:List (List g)}(h:i<r.length):r.getD i []∈r:=by grind
def xf{f:Nat->g}(h:i<n):((List.range n).map f)[i]?=some (f i):=by grind
def Xo(H:Hp)(zs:A8)(C:Az):Prop:=zs.length=C.length/\∀(i:Nat)(r:A8),C[i]?=some r->∃a,zs[i]?=some (V.ref a)/\H a=some (.tup r)
def Xo.same{H H':Hp}{zs:A8}{C:Az}(z:Xo H zs C)(e:Z7 H H'):Xo H' zs C:=by
 refine⟨z.1,λi r I=>?_⟩;obtain⟨a,G,D⟩:=z.2 i r I;exact⟨a,G,e _ _ D⟩
def Xo.snoc{zs:A8}(z:Xo H zs Y)(h:H a=some (.tup r)):Xo H (zs++[.ref a]) (Y++[r]):=by
 refine⟨by rw[Qag,Qag,z.1];rfl,λi q C=>?_⟩
 by_cases e:i<Y.length
 .rw[Qa6 e]at C;rw[Qa6 (by rw[z.1];exact e)];exact z.2 i q C
 .rw[Qax (by lia)]at C;have D:i-Y.length=0:=by
   grind
  rw[D]at C;cases C;refine⟨a,?_,h⟩;rw[Qax (by rw[z.1];lia),z.1,D];rfl
def Xo.nil{H:Hp}:Xo H [] []:=⟨U,λi r C=>by cases C⟩
def nk(l:Ak):A0:=X7 (l.map (Sum.inl:Int->Key))
def wz{l:Ak}{s:Int}:(Sum.inl s:Key)∈l.map Sum.inl↔s∈l:=by grind
def Zd1{l:Ak}{s:Int}(h:s∈l)(r:l.Nodup):Yc (nk l) (.inl s)=some (.int (l.idxOf s:Int)):=by
 have:=Jd _ _ (wz.mpr h) (by grind);rw[idx_map Sum.inl (λ_ _=>Sum.inl.inj) s l]at this;exact this
def Zky{l:Ak}{s:Int}(h:s∉l):Yc (nk l) (.inl s)=none:=GW _ _ λz=>h (wz.mp z)
def nk_len(l:Ak):(nk l).length=l.length:=by
 unfold nk;rw[Jc,Qab]
def nk_put{l:Ak}{s:Int}(h:s∉l):putK (nk l) (.inl s) (.int (l.length:Int))=nk (l++[s]):=by
 unfold nk;rw[Qau];show _=X7 (l.map Sum.inl++[Sum.inl s]);rw[GV,Qab];unfold putK;rw[Qaw λz=>?_];rw[Qdr]at z;obtain⟨p,r,e⟩:=z;have:p.1∈(X7 _).map _:=Qb5 r;rw[GU,Qbb e]at this;exact h (wz.mp this)
def zd(nx:Ad)(cs:Aj):List (Int×Ak):=List.zipWith (λ(c:Nat) (row:Aj)=>((c:Int),row.map λs=>(cs.getD s 0:Int))) cs nx
def yq{nx:Ad}(h:v.length=nx.length):(zd nx v).length=v.length:=by
 unfold zd;rw[List.length_zipWith,h,Qfv]
theorem ud{nx:Ad}(h:v.length=nx.length):(zd nx v).map (·.1)=v.map λc:Nat=>(c:Int):=by
 unfold zd;rw[List.map_zipWith];have:∀(v:Aj)(nx:Ad),v.length=nx.length->List.zipWith (λ(c:Nat) _=>(c:Int)) v nx=v.map λc:Nat=>(c:Int):=by
  intro v
  induction v with
  |nil=>intro nx _;rfl
  |cons c r C=>
   intro nx h;cases nx with
   |nil=>cases h
   |cons x y=>rw[List.zipWith_cons_cons,Qbw,C y (by grind)]
 exact this v nx h
def Zal{nx:Ad}(h:v.length=nx.length)(r:We v=v)(C:(Z6 (zd nx v)).length<=(Z6 v).length):We (zd nx v)=v:=by
 have e1:Z6 ((zd nx v).map (·.1))=(Z6 v).map λc:Nat=>(c:Int):=by
  rw[ud h];exact yf _ _ λa _ b _ e=>Int.ofNat.inj e
 have hi:=vp (·.1) (zd nx v) (by grind);rw[<-yg _ _ hi,ud h,yg (λc:Nat=>(c:Int)) v λa _ b _ e=>Int.ofNat.inj e,r]
theorem vF{p:Aw}(R:WM H p Y):∃bs:List Aw,H p=some (.tup (bs.map V.ref))/\bs.length=Y.length/\∀(i:Nat)(r:A8)(b:Aw),Y[i]?=some r->bs[i]?=some b->H b=some (.tup r):=by
 obtain⟨as,h1,h2,M⟩:=R;have go:∀(as:A8)(Y:List _),as.length=Y.length->(∀(i:Nat)(r:A8),Y[i]?=some r->∃a,as[i]?=some (V.ref a)/\H a=some (.tup r))->∃bs:List Aw,as=bs.map V.ref/\∀(i:Nat)(r:A8)(b:Aw),Y[i]?=some r->bs[i]?=some b->H b=some (.tup r):=by
  intro as
  induction as with
  |nil=>
   exactλY D _=>⟨[],U,λi r b _ C=>by cases C⟩
  |cons v r G=>
   intro Y D hh;cases Y with
   |nil=>cases D
   |cons x y=>
    obtain⟨a,O,N⟩:=hh 0 x rfl;obtain⟨bs,e,C⟩:=G y (by grind) λi r hi=>by
     obtain⟨a,Q,I⟩:=hh (i+1) r (by grind);exact⟨a,by grind,I⟩
    refine⟨a::bs,?_,λi r b S L=>?_⟩
    .grind
    .grind
 obtain⟨bs,e,C⟩:=go as Y h2 M;subst e;exact⟨bs,h1,by grind,C⟩
def vG[DecidableEq g](ks:List g):(ks.map λk=>((Z6 ks).idxOf k:Int)).map V.int=(We ks).map Gv:=by
 unfold We;rw[Qa7,Qa7];rfl
def Gw{nx:Ad}{c:Nat}{row:Aj}(C:v[i]?=some c)(r:nx[i]?=some row):(zd nx v)[i]?=some ((c:Int),row.map λs=>(v.getD s 0:Int)):=by
 unfold zd;rw[List.getElem?_zipWith,C,r]
def Zkz{r:List (Ak)}{nx:Ad}(N:v.length=nx.length)(M:r.length=nx.length)(h:∀(i j:Nat)(a b:Ak),r[i]?=some a->r[j]?=some b->v[i]?=v[j]?->a=b):∀(i j:Nat)(a b:Ak),r[i]?=some a->r[j]?=some b->(We (zd nx v))[i]?=(We (zd nx v))[j]?->a=b:=by
 intro i j a b I L e;have hi:i<nx.length:=by grind
 have G:j<nx.length:=by grind
 have D:=Qac (l:=v) (i:=i) (by lia);have C:=Qac (l:=v) (i:=j) (by lia);have:=(ye (Gw D (Qac hi)) (Gw C (Qac G))).mp e;refine h i j a b I L ?_;rw[D,C];exact congrArg some (Int.ofNat.inj (congrArg Prod.fst this))
def Zgn(nx:Ad)(l:Aj)(i:Nat):Aj:=(nx.getD (l.getD i 0) []).foldl Y8 l
def qH(nx:Ad)(b:Nat):Nat->List Nat
 |0=>[b]
 |i+1=>Zgn nx (qH nx b i) i
structure jA(nx:Ad)(b:Nat)(l:Aj):Prop where
 e:l=qH nx b l.length
 go:∀i,i<l.length->i<(qH nx b i).length
theorem Zam(r:Aj):∀l:Aj,l.Nodup->(r.foldl Y8 l).Nodup:=by
 induction r with
 |nil=>exactλl h=>h
 |cons k r C=>exactλl h=>C _ (XX h k)
theorem yr(r:Aj){x:Nat}:∀l:Aj,x∈r.foldl Y8 l↔x∈l\/x∈r:=by
 induction r with
 |nil=>intro l;simp
 |cons k r C=>
  intro l;rw[Qde,C,X9,Qas,or_assoc]
theorem ze(nx:Ad)(b:Nat):∀i,(qH nx b i).Nodup
 |0=>Qa9.mpr ⟨Qbq,Qbu⟩
 |i+1=>Zam _ _ (ze nx b i)
theorem Zd2{nx:Ad}{b:Nat}(r:b<nx.length)(C:∀row∈nx,∀s∈row,s<nx.length):∀i,∀s∈qH nx b i,s<nx.length
 |0,s,h=>by rw[Qao.mp h];exact r
 |i+1,s,h=>by
  rcases(yr _ _).mp h with z|z
  .exact Zd2 r C i s z
  .grind
theorem wF(nx:Ad)(b j:Nat):∀d,∃r,qH nx b (j+d)=qH nx b j++r
 |0=>⟨[],(Qbv _).symm⟩
 |d+1=>by
  obtain⟨r,e⟩:=wF nx b j d;obtain⟨C,e2⟩:=Jy _ (qH nx b _);refine⟨r++C,?_⟩;show Zgn nx (qH nx b (j+d)) _=_;unfold Zgn;rw[e2,e,Qbt]
def bfs_at{nx:Ad}{b j:Nat}(D:j<i)(C:j<(qH nx b j).length):(qH nx b i)[j]?=some ((qH nx b j).getD j 0):=by
 obtain⟨r,e⟩:=wF nx b j _;rw[show j+(i-j)=i by lia]at e;rw[e,Qa6 C,Qak,Qac C];rfl
def map_range{α β:Type}(l:List α)(i:Nat)(C:l.length=i)(f:α->β)(g:Nat->β)(h:∀j a,l[j]?=some a->g j=f a):(List.range i).map g=l.map f:=by
 refine List.ext_getElem? λj=>?_
 by_cases r:j<i
 .grind
 .grind
theorem jB{H':Hp}(h:∀b xs,H b=some (.tup xs)->H' b=some (.tup xs))(z:Xo H r Y):Xo H' r Y:=⟨z.1,λi C D=>by
 obtain⟨a,h1,h2⟩:=z.2 i C D;exact⟨a,h1,h _ _ h2⟩⟩
inductive SK(κ:Type)[DecidableEq κ]where
 |int (f:κ->Int) (inj:∀a b,f a=f b->a=b)
 |key (kn:KN κ)
def Y2(h:n<=10000000):n<sizeLine:=Qc8 h (by decide)
section
variable {κ:Type}[DecidableEq κ]
def SK.at_:SK κ->Hp->κ->V->Prop
 |.int f _,_,k,v=>v=.int (f k)
 |.key kn,H,k,v=>∃a,v=.ref a/\kn.at_ H k a
def SK.dic:SK κ->Hp->Addr->List κ->Prop
 |.int f _,H,d,l=>H d=some (.dK (nk (l.map f)))
 |.key kn,H,d,l=>qu kn H d (X7 l)
def SK.keep{sk:SK κ}{H H':Hp}{k:κ}{v:V}(h:sk.at_ H k v)(e:∀b xs,H b=some (.tup xs)->H' b=some (.tup xs)):sk.at_ H' k v:=by
 cases sk with
 |int f _=>exact h
 |key kn=>
  obtain⟨a,rfl,r⟩:=h;exact⟨a,U,kn.keep _ _ _ _ e r⟩
def Zd3{kn:KN κ}{d:Aw}{kvs:List (κ×V)}(n:qu kn H d kvs):∃o,H d=some o/\(∀xs,o≠.tup xs)/\∀xs,o≠.lst xs:=by
 rcases n.2.2 with⟨_,e⟩|⟨ys,e,_⟩
 .grind
 .grind
def SK.ne{sk:SK κ}{d:Aw}{l:List κ}(h:sk.dic H d l):∃o,H d=some o/\(∀xs,o≠.tup xs)/\∀xs,o≠.lst xs:=by
 cases sk with
 |int f _=>exact⟨_,h,(λ_ z=>nomatch z),λ_ z=>nomatch z⟩
 |key kn=>exact Zd3 h
def SK.stay{sk:SK κ}{H':Hp}{d:Aw}{l:List κ}(h:sk.dic H d l)(r:∀o,H d=some o->H' d=some o)(e:∀b xs,H b=some (.tup xs)->H' b=some (.tup xs)):sk.dic H' d l:=by
 cases sk with
 |int f _=>exact r _ h
 |key kn=>exact(by
    obtain⟨C,D,G⟩:=h;refine⟨C,D,?_⟩;rcases G with⟨e1,e2⟩|⟨ys,e1,e2⟩
    .exact .inl ⟨e1,r _ e2⟩
    .exact .inr ⟨ys,r _ e1,Paired.mapP e2 λp q h=>⟨h.1,kn.keep _ _ _ _ e h.2.1,h.2.2⟩⟩)
def SK.off{sk:SK κ}{d:Aw}{l:List κ}{xs:A8}{o:HO}(h:sk.dic H d l)(e:H f=some (.lst xs)):sk.dic (upd H f o) d l:=by
 obtain⟨u,C,_,D⟩:=SK.ne h;have r:d≠f:=λz=>by
  grind
 exact SK.stay h (λo e=>by rw[Zj r];exact e) λb ys q=>by rw[Zj (ZY q e λz=>nomatch z)];exact q
def StA(sk:SK κ)(H:Hp)(l:List κ)(vs:A8):Prop:=vs.length=l.length/\∀(i:Nat)(k:κ),l[i]?=some k->∃v,vs[i]?=some v/\sk.at_ H k v
theorem StA.keep{sk:SK κ}{H H':Hp}{l:List κ}{vs:A8}(h:StA sk H l vs)(e:∀b xs,H b=some (.tup xs)->H' b=some (.tup xs)):StA sk H' l vs:=⟨h.1,λi k r=>by
 obtain⟨v,h1,h2⟩:=h.2 i k r;exact⟨v,h1,SK.keep h2 e⟩⟩
def StA.snoc{sk:SK κ}{l:List κ}{vs:A8}{k:κ}{v:V}(h:StA sk H l vs)(D:sk.at_ H k v):StA sk H (l++[k]) (vs++[v]):=by
 refine⟨by rw[Qag,Qag,h.1];rfl,λi q r=>?_⟩
 by_cases e:i<l.length
 .rw[Qa6 e]at r;rw[Qa6 (by rw[h.1];exact e)];exact h.2 i q r
 .rw[Qax (by lia)]at r;have C:i-l.length=0:=by
   grind
  rw[C]at r;cases r;refine⟨v,?_,D⟩;rw[Qax (by rw[h.1];lia),h.1,C];rfl
def StA.one{sk:SK κ}{k:κ}{v:V}(r:sk.at_ H k v):StA sk H [k] [v]:=StA.snoc (l:=[]) (vs:=[]) ⟨U,λi q C=>by cases C⟩ r
def bfS(nx:κ->List κ)(l:List κ)(i:Nat):List κ:=match l[i]? with
 |some s=>(nx s).foldl Y8 l
 |none=>l
def bfN(nx:κ->List κ)(b:κ):Nat->List κ
 |0=>[b]
 |i+1=>bfS nx (bfN nx b i) i
structure BfE(nx:κ->List κ)(b:κ)(l:List κ):Prop where
 e:l=bfN nx b l.length
 go:∀i,i<l.length->i<(bfN nx b i).length
theorem zf(r:List κ):∀l:List κ,l.Nodup->(r.foldl Y8 l).Nodup:=by
 induction r with
 |nil=>exactλl h=>h
 |cons k r C=>exactλl h=>C _ (XX h k)
theorem zg(r:List κ){x:κ}:∀l:List κ,x∈r.foldl Y8 l↔x∈l\/x∈r:=by
 induction r with
 |nil=>intro l;simp
 |cons k r C=>
  intro l;rw[Qde,C,X9,Qas,or_assoc]
theorem Zd4(r:List κ):∀l:List κ,(r.foldl Y8 l).length<=l.length+r.length:=by
 induction r with
 |nil=>exactλl=>Qah _
 |cons k r C=>
  intro l;have h1:=C (Y8 l k);have h2:=xa l k;rw[Qde,Qaz];lia
variable {nx:κ->List κ}{b:κ}
theorem Gx:∀i,(bfN nx b i).Nodup
 |0=>Qa9.mpr ⟨Qbq,Qbu⟩
 |i+1=>by
  show(bfS nx _ i).Nodup;unfold bfS;split
  .exact zf _ _ (Gx i)
  .exact Gx i
theorem Zd5{Ua:List κ}(C:b∈Ua)(r:∀s∈Ua,∀x∈nx s,x∈Ua):∀i,∀s∈bfN nx b i,s∈Ua
 |0,s,h=>by rw[Qao.mp h];exact C
 |i+1,s,h=>by
  have h:s∈bfS nx _ i:=h;unfold bfS at h;split at h
  .rename_i q D;rcases(zg _ _).mp h with z|z
   .exact Zd5 C r i s z
   .exact r q (Zd5 C r i q (Qat D)) s z
  .exact Zd5 C r i s h
def Zd6{Ua:List κ}(C:b∈Ua)(r:∀s∈Ua,∀x∈nx s,x∈Ua)(i:Nat):(bfN nx b i).length<=Ua.length:=Xq (Gx i) (Zd5 C r i)
def yt{s:κ}(h:(bfN nx b i)[i]?=some s):bfN nx b (i+1)=(nx s).foldl Y8 (bfN nx b i):=by
 show bfS nx _ i=_;unfold bfS;rw[h]
theorem ue(j:Nat):∀d,∃r,bfN nx b (j+d)=bfN nx b j++r
 |0=>⟨[],(Qbv _).symm⟩
 |d+1=>by
  obtain⟨r,e⟩:=ue j d;show∃r,bfS nx (bfN nx b (j+d)) _=_;unfold bfS;split
  .obtain⟨C,e2⟩:=Jy (nx _) _;exact⟨r++C,by rw[e2,e,Qbt]⟩
  .exact⟨r,e⟩
def Zmy{j:Nat}{s:κ}(D:j<=i)(C:(bfN nx b j)[j]?=some s):(bfN nx b i)[j]?=some s:=by
 obtain⟨r,e⟩:=ue (b:=b) j _;rw[show j+(i-j)=i by lia]at e;rw[e,Qa6 (Qaf.mp C).1];exact C
def rowG(nx:κ->List κ)(b:κ)(j:Nat):Aj:=match (bfN nx b j)[j]? with
 |some s=>(nx s).map λx=>(bfN nx b (j+1)).idxOf x
 |none=>[]
def zP(nx:κ->List κ)(b:κ)(i:Nat):Az:=(List.range i).map λj=>q9 (rowG nx b j)
def Znb(nx:κ->List κ)(ot:κ->List V)(b:κ)(j:Nat):A8:=match (bfN nx b j)[j]? with
 |some s=>ot s
 |none=>[]
def yu(nx:κ->List κ)(ot:κ->List V)(b:κ)(i:Nat):Az:=(List.range i).map (Znb nx ot b)
def Zan{s:κ}(h:(bfN nx b i)[i]?=some s):zP nx b (i+1)=zP nx b i++[((nx s).map λx=>Gv ((bfN nx b (i+1)).idxOf x))]:=by
 unfold zP;rw[Qdf,Qau];show _++[q9 _]=_;unfold rowG q9;rw[h];rw[Qa7];rfl
def Zao{ot:κ->List V}{s:κ}(h:(bfN nx b i)[i]?=some s):yu nx ot b (i+1)=yu nx ot b i++[ot s]:=by
 unfold yu;rw[Qdf,Qau];show _++[Znb nx ot b i]=_;unfold Znb;rw[h]
def rnG(nx:κ->List κ)(l:List κ):Ad:=l.map λs=>(nx s).map λx=>l.idxOf x
def zh(nx:κ->List κ)(l:List κ):(rnG nx l).length=l.length:=Qab _
def wG{j:Nat}{a:κ}(G:(bfN nx b i).length=i)(D:∀j,j<i->j<(bfN nx b j).length)(C:(bfN nx b i)[j]?=some a):j<i/\(bfN nx b j)[j]?=some a:=by
 have r:j<i:=by grind
 refine⟨r,?_⟩;have e:=Qac (D j r);rw[Zmy (Qa0 r) e]at C;rw[e];exact C
def Zd7(C:(bfN nx b i).length=i)(I:∀j,j<i->j<(bfN nx b j).length):zP nx b i=(rnG nx (bfN nx b i)).map q9:=by
 unfold zP rnG;rw[Qa7];refine map_range _ i C _ _ λj a G=>?_;obtain⟨L,e⟩:=wG C I G;unfold rowG;rw[e];congr 1;refine Qbs λx D=>?_;obtain⟨r,e2⟩:=ue (b:=b) _ _;rw[show j+1+(i-(j+1))=i by lia]at e2;rw[e2,xF];rw[yt e];exact(zg _ _).mpr (.inr D)
def Zd8{ot:κ->List V}(r:(bfN nx b i).length=i)(D:∀j,j<i->j<(bfN nx b j).length):yu nx ot b i=(bfN nx b i).map ot:=by
 refine map_range _ i r _ _ λj a C=>?_;obtain⟨G,e⟩:=wG r D C;unfold Znb;rw[e]
end
def SqF(H1 H2:Hp)(r:Aw)(C:A8):Prop:=H2 r=some (.tup C)\/(H2 r=some (.lst C)/\H1 r=none)
def Zgo{xs:A8}{is:Aj}(D:∀R:VK,R (.ref a) H->d c H R)(C:H a=some (.tup xs)\/H a=some (.lst xs))(r:Nat->List V->Hp->Prop)(Q:r 0 [] H)(S:∀i zs H,r i zs H->zs.length<=sizeLine)(O:∀i zs H',r i zs H'->∀o,H a=some o->H' a=some o)
  (L:∀i x zs H (R:A8->Hp->Prop),(∀zs H,r (i+1) zs H->R zs H)->xs[i]?=some x->r i zs H->G (zF is c (some x)) H λb H2=>if b=true then M (zF is c (some x)) H2 λy Ua=>R (zs++[y]) Ua else R zs H2)
  (N:∀zs H,r xs.length zs H->∀p,H p=none->I (.ref p) (upd H p (.lst zs))):Zfg K d c H (GN is G M c I)\/iTup K d c H (GN is G M c I):=by
 rcases C with C|C
 .exact .inr (D _ ⟨a,U,⟨_,SqT.of C⟩,Wj r Q S (λi zs H' h=>SqT.of (O i zs H' h _ C)) L N⟩)
 .exact .inl (D _ ⟨a,U,⟨_,SqL.of C⟩,Xy r Q S (λi zs H' h=>SqL.of (O i zs H' h _ C)) L N⟩)
def Gy:A8->List Int
 |[]=>[]
 |.int z::r=>((Builtin.Int.intBits z:Nat):Int)::Gy r
 |_::r=>Gy r
theorem vH:∀C:A8,(Gy C).length<=C.length
 |[]=>Qah _
 |w::r=>by
  have:=vH r;cases w<;>simp[Gy]<;>lia
theorem zi:∀(a b:A8),Gy (a++b)=Gy a++Gy b
 |[],_=>rfl
 |w::r,b=>by
  have:=zi r b;cases w<;>simp[Gy,this]
theorem zj{z:Int}:∀{C:A8},V.int z∈C->((Builtin.Int.intBits z:Nat):Int)∈Gy C
 |w::r,h=>by
  rcases Qas.mp h with rfl|h
  .exact Qaj
  .have:=zj h;cases w<;>skip<;>first|exact this|exact Qal _ this
theorem uf{m:Int}:∀{C:A8},m∈Gy C->∃z:Int,V.int z∈C/\m=((Builtin.Int.intBits z:Nat):Int)
 |w::r,h=>by
  have go:m∈Gy r->∃z:Int,V.int z∈w::r/\m=((Builtin.Int.intBits z)):=λh=>let⟨z,h1,h2⟩:=uf h;⟨z,Qal _ h1,h2⟩;cases w with
  |int z=>
   rcases Qas.mp h with rfl|h
   .exact⟨z,Qaj,U⟩
   .exact go h
  |_=>exact go h
theorem bits_le{B:Nat}(h:0<=z)(C:z<2^B):Builtin.Int.intBits z<=B:=by
 unfold Builtin.Int.intBits;split
 .exact Qbe _
 .rename_i e;obtain⟨n,rfl⟩:=Int.eq_ofNat_of_zero_le h;have r:n≠0:=λq=>e (by rw[q];rfl);exact(Nat.log2_lt r).mpr (by grind)
theorem Zit:∀(bs:Ak)(l:Nat),(∀b∈bs,b=0\/b=1)->bt (hor bs.reverse) l=bs.getD l 0
 |[],l,_=>xY l
 |b::r,l,h=>by
  rw[Qcn,ub];have C:=h b Qaj;cases l with
  |zero=>
   unfold bt;show _=b;lia
  |succ l=>
   rw[YO,show(hor _*2+b)/2=hor r.reverse by lia,Zit r l λb C=>h b (Qal _ C)];rfl
def YT(L:Nat)(ys:Ai)(y:Str):Int:=hor ((List.range L).map λl:Nat=>bt (l:Int) (ys.idxOf y)).reverse
def XY[DecidableEq g]{l:List g}{x:g}(r:l.Nodup)(h:l[i]?=some x):l.idxOf x=i:=by grind
def Zgp{ys:Ai}{l:Nat}{y:Str}(r:ys.Nodup)(h:ys[i]?=some y)(C:l<n):bt (YT n ys y) l=bt (l:Int) i:=by
 unfold YT;rw[XY r h,Zit _ _ λb D=>by
  obtain⟨c,_,rfl⟩:=Qap.mp D;exact Y9 _ _]
 rw[Qak,Qai,Qe4 C];rfl
def lgB:A8->Nat
 |[]=>0
 |.int z::r=>max (Builtin.Int.intBits z) (lgB r)
 |_::r=>lgB r
theorem Zd9{z:Int}:∀{C:A8},V.int z∈C->Builtin.Int.intBits z<=lgB C
 |w::r,h=>by
  rcases Qas.mp h with rfl|h
  .exact Nat.le_max_left _ _
  .have:=Zd9 h;cases w<;>simp[lgB]<;>lia
theorem Zea:∀C:A8,lgB C=0\/∃z:Int,V.int z∈C/\lgB C=Builtin.Int.intBits z
 |[]=>.inl U
 |w::r=>by
  have go:(lgB _=lgB r)->lgB _=0\/∃z:Int,V.int z∈w::r/\lgB (w::r)=Builtin.Int.intBits z:=λe=>by
   rw[e];rcases Zea r with h|⟨z,h1,h2⟩
   .exact .inl h
   .grind
  cases w with
  |int z=>
   by_cases h:lgB r<=Builtin.Int.intBits z
   .exact .inr ⟨z,Qaj,Nat.max_eq_left h⟩
   .exact go (Nat.max_eq_right (by lia))
  |_=>exact go U
def Ziu(h1:∀z:Int,V.int z∈r->Builtin.Int.intBits z<=i)(h2:i=0\/∃z:Int,V.int z∈r/\i=Builtin.Int.intBits z):i=lgB r:=by
 refine Nat.le_antisymm ?_ ?_
 .rcases h2 with h|⟨z,C,h⟩
  .lia
  .rw[h];exact Zd9 C
 .rcases Zea r with h|⟨z,C,h⟩
  .lia
  .rw[h];exact h1 z C
def J2(r:A8):Nat:=(r.filter λw=>inV w (allR.map V.str)).length
def Zlw(nm:Ai)(cols:Str->Int)(r:A8)(s:Int×Ak):Ak×Ak:=XA nm cols s.1.toNat s.2 r
def nxT(nm:Ai)(cols:Str->Int)(r:A8)(L:Nat)(s:Int×Ak):List (Int×Ak):=(List.range (2^nm.length)).map λl=>(min (s.1+1) (L:Int),(Zlw nm cols r s).2.map λc=>bt c l)
def otT(nm:Ai)(cols:Str->Int)(r:A8)(C D:V)(s:Int×Ak):A8:=(List.range (2^nm.length)).map λl=>if bt ((Zlw nm cols r s).1.getD 0 0) l=1 then D else C
def Zlx(r:Aw)(H H':Hp):Prop:=∀b o,H b=some o->b≠r->H' b=some o
def Zk0(H:Hp)(k:Int×Ak)(a:Aw):Prop:=∃t,H a=some (.tup [.int k.1,.ref t])/\H t=some (.tup (k.2.map V.int))
def Zk0.bits{k:Int×Ak}(h:Zk0 H k a):Zc5 H k a:=by
 obtain⟨t,h1,h2⟩:=h;refine⟨t,h1,_,h2,?_⟩;rw[Qa7];rfl
def knQ:KN (Int×Ak)where
 knd:=knP.knd
 hsh:=knP.hsh
 at_:=Zk0
 hash_eq:=knP.hash_eq
 ok:=λP w H h k a ok b=>knP.ok P w H h k a ok b.bits
 room:=knP.room
 room0:=knP.room0
 keep:=λH H' k a r ⟨t,e,e2⟩=>⟨t,r _ _ e,r _ _ e2⟩
def qI:Nat->List (Ak)
 |0=>[[]]
 |n+1=>(qI n).map (List.cons 0)++(qI n).map (List.cons 1)
theorem vI:∀n,(qI n).length=2^n
 |0=>rfl
 |n+1=>by
  show((qI n).map _++(qI n).map _).length=_;rw[Qag,Qab,Qab,vI n];lia
theorem Xc:∀{n:Nat} {ks:Ak},ks∈qI n↔ks.length=n/\∀x∈ks,x=0\/x=1
 |0,ks=>by
  constructor
  .intro h;rw[Qao.mp h];exact⟨U,λx C=>by cases C⟩
  .rintro⟨h,_⟩;rw[Qcm h];exact Qao.mpr U
 |n+1,ks=>by
  show ks∈(qI n).map _++(qI n).map _↔_;rw[Qbl,Qap,Qap];constructor
  .rintro(⟨r,D,rfl⟩|⟨r,D,rfl⟩)
   .obtain⟨h1,h2⟩:=Xc.mp D;refine⟨by grind,λx C=>?_⟩;rcases Qas.mp C with rfl|C
    .exact .inl U
    .exact h2 x C
   .obtain⟨h1,h2⟩:=Xc.mp D;refine⟨by grind,λx C=>?_⟩;rcases Qas.mp C with rfl|C
    .exact .inr U
    .exact h2 x C
  .rintro⟨h1,h2⟩;cases ks with
   |nil=>cases h1
   |cons x r=>
    have D:=Xc.mpr ⟨by simpa using h1,λy G=>h2 y (Qal _ G)⟩;rcases h2 x Qaj with rfl|rfl
    .exact .inl ⟨r,D,U⟩
    .exact .inr ⟨r,D,U⟩
def uni(r:Nat):Nat->List (Int×Ak)
 |0=>[]
 |n+1=>uni r n++(qI r).map λks=>((n:Int),ks)
theorem yw(r:Nat):∀n,(uni r n).length=n*2^r
 |0=>by rw[Qgr];rfl
 |n+1=>by
  show(uni r n++(qI r).map _).length=_;rw[Qag,Qab,yw r n,vI,Qgs]
theorem JR{r:Nat}{s:Int×Ak}:∀{n:Nat},s∈uni r n↔∃p:Nat,p<n/\s.1=(p:Int)/\s.2∈qI r
 |0=>⟨(λh=>nomatch h),λ⟨p,h,_⟩=>absurd h (Qer _)⟩
 |n+1=>by
  show s∈uni r n++(qI r).map _↔_;rw[Qbl,JR];constructor
  .grind
  .grind
def vJ(w:V)(r:A8):J2 (w::r)=J2 r+if inV w (allR.map V.str)=true then 1 else 0:=by
 unfold J2;rw[Qcl];split<;>rfl
theorem yx{ys:Ai}{cols:Str->Int}{pl:Nat}{kp:Ak}:∀D:A8,(∀w∈D,ym ys w)->(XA ys cols pl kp D).2.length=J2 D
 |[],_=>rfl
 |w::r,hw=>by
  have C:=yx (cols:=cols) (pl:=pl) (kp:=kp) r λw h=>hw w (Qal _ h);rw[vJ];rcases hw w Qaj with⟨y,rfl,h1,_⟩|⟨y,rfl,h1,h2,G,_⟩|⟨y,rfl,h1,h2,_⟩|⟨z,rfl,_⟩
  .show(if y∈allR then _ else _:Ak×Ak).2.length=_;rw[Qa5 h1,ZC,Qaq h1,Qag,C];rfl
  .show(if y∈allR then _ else if y∈ys then _ else _:Ak×Ak).2.length=_;rw[Qaw h2,Qaw G,ZC,Qan h2];exact C
  .show(if y∈allR then _ else if y∈ys then _ else _:Ak×Ak).2.length=_;rw[Qaw h2,Qa5 h1,ZC,Qan h2];exact C
  .exact C
def yy{nm:Ai}{cols:Str->Int}(hw:∀w∈r,ym nm w)(I:n=J2 r){s:Int×Ak}(C:s∈uni n (i+1)):∀x∈nxT nm cols r i s,x∈uni n (i+1):=by
 intro x D;obtain⟨l,_,rfl⟩:=Qap.mp D;obtain⟨p,h1,h2,L⟩:=JR.mp C;refine JR.mpr ⟨min (p+1) i,by lia,?_,Xc.mpr ⟨?_,λb G=>?_⟩⟩
 .grind
 .rw[Qab,I];exact yx r hw
 .obtain⟨c,_,rfl⟩:=Qap.mp G;exact Y9 c l
def Zap{H':Hp}(s:Z7 (hide D H) H')(C:∀c∈D,H' c=none):Z7 H (Wv D H H')/\(∀t o,H' t=some o->Wv D H H' t=some o)/\∀t o,H' t=some o->hide D H t=none->H t=none:=by
 have m:∀t o,H' t=some o->t∉D:=λt o e m=>by grind
 refine⟨λb o e=>?_,λt o e=>by rw[Yo (m t o e)];exact e,λt o e h=>by rw[ZE (m t o e)]at h;exact h⟩
 by_cases r:b∈D
 .rw[WZ r];exact e
 .rw[Yo r];exact s _ _ (by rw[ZE r];exact e)
def jC{H':Hp}{p:Aw}(R:WM H p Y)(e:∀b xs,H b=some (.tup xs)->H' b=some (.tup xs)):WM H' p Y:=by
 obtain⟨as,h1,h2,D⟩:=R;refine⟨as,e _ _ h1,h2,λi r hi=>?_⟩;obtain⟨a,G,C⟩:=D i r hi;exact⟨a,G,e _ _ C⟩
def Zeb{B:Nat}(D:∀z:Int,V.int z∈r->0<=z/\z<2^B):lgB r<=B:=by
 rcases Zea r with h|⟨z,C,h⟩
 .lia
 .rw[h];exact bits_le (D z C).1 (D z C).2
theorem lgB_lt(h:V.int z∈r)(C:0<=z):z<2^lgB r:=Int.lt_of_lt_of_le (by
       unfold Builtin.Int.intBits;split
       . grind
       . obtain⟨n,rfl⟩:=Int.eq_ofNat_of_zero_le C;have:=Nat.lt_log2_self (n:=n)
         exact_mod_cast this) (Zdn (Zd9 h))
def ug:∀y∈allR,y∈Z8:=by decide +kernel
def uh:∀y∈Wz,y∉allR->y∈Zdv/\npw (.str y)=Zdt y:=by decide +kernel
def Zk1:∀y∈allR,y∈Wz->1<=npw (.str y)/\(y∈Zkw->2<=npw (.str y)):=by decide +kernel
def ui{ys:Ai}{B:Nat}{w:V}(G:∀y∈ys,y∉Z8)(h:vA ys B w):ym ys w:=by
 rcases h with⟨y,rfl,h1,h2,C⟩|⟨y,rfl,h1,h2,C⟩|⟨z,rfl,D,_,C⟩
 .by_cases r:y∈allR
  .exact .inl ⟨y,U,r,h2,Zk1 y r h1⟩
  .exact .inr (.inl ⟨y,U,(uh y h1 r).1,r,h2,(uh y h1 r).2⟩)
 .exact .inr (.inr (.inl ⟨y,U,h1,λz=>G y h1 (ug y z),C⟩))
 .exact .inr (.inr (.inr ⟨z,U,D,C⟩))
def yI(ls:Aj)(ys:Ai)(y:Str):Int:=sm (λk=>bt ((ls.getD k 0:Nat):Int) (ys.idxOf y)) ls.length
def Zk2(ls:Aj)(ys:Ai)(y:Str):0<=yI ls ys y/\yI ls ys y<2^ls.length:=yo (λ_=>Y9 _ _) _
def Zec{ls:Aj}{ys:Ai}{k l:Nat}{y:Str}(C:ys.Nodup)(h:ys[i]?=some y)(r:ls[k]?=some l):bt (yI ls ys y) k=bt (l:Int) i:=by
 unfold yI;rw[XY C h];have:=Zdy (b:=λk=>bt ((ls.getD k 0)) i) (λ_=>Y9 _ _) k _ (Qaf.mp r).1;rw[Qak,r]at this;exact this
structure Runs(nx:Ad)(ot:Az)(n:Nat):Prop where
 pos:0<nx.length
 ol:ot.length=nx.length
 nr:∀r∈nx,r.length=2^n
 nl:∀r∈nx,∀s∈r,s<nx.length
 or:∀r∈ot,r.length=2^n
def stN(nx:Ad):Nat->List Nat->Nat
 |s,[]=>s
 |s,c::r=>stN nx ((nx.getD s []).getD c 0) r
def rnO(nx:Ad)(ot:Az):Nat->List Nat->List V
 |_,[]=>[]
 |s,c::r=>(ot.getD s []).getD c .non::rnO nx ot ((nx.getD s []).getD c 0) r
theorem yz(nx:Ad):∀(s:Nat)(ls:Aj)(c:Nat),stN nx s (ls++[c])=(nx.getD (stN nx s ls) []).getD c 0
 |_,[],_=>rfl
 |s,d::r,c=>yz nx _ r c
theorem uj(nx:Ad)(ot:Az):∀(s:Nat)(ls:Aj)(c:Nat),rnO nx ot s (ls++[c])=rnO nx ot s ls++[(ot.getD (stN nx s ls) []).getD c .non]
 |_,[],_=>rfl
 |s,d::r,c=>congrArg _ (uj nx ot _ r c)
theorem wH(nx:Ad)(ot:Az):∀(s:Nat)(ls:Aj),(rnO nx ot s ls).length=ls.length
 |_,[]=>rfl
 |s,d::r=>congrArg _ (wH nx ot _ r)
def getD_at{l:List g}{d:g}(h:i<l.length):l[i]?=some (l.getD i d):=by grind
section
variable {κ:Type}[DecidableEq κ]{nx:κ->List κ}{b:κ}{l:List κ}
def Zed{x:κ}(h:x∈l):l[l.idxOf x]?=some x:=by grind
def BfE.len(B:BfE nx b l):(bfN nx b l.length).length=l.length:=by rw[<-B.e]
def BfE.here(B:BfE nx b l){j:Nat}{s:κ}(h:l[j]?=some s):j<l.length/\(bfN nx b j)[j]?=some s:=wG B.len B.go (by rw[<-B.e];exact h)
def BfE.sub(B:BfE nx b l){j:Nat}(C:j<=l.length){x:κ}(h:x∈bfN nx b j):x∈l:=by
 obtain⟨r,e⟩:=ue (b:=b) j _;rw[show j+(l.length-j)=l.length by lia,<-B.e]at e;rw[e];exact Qb7 _ h
def BfE.begin(B:BfE nx b l):l[0]?=some b/\b∈l:=by
 have r:=B.sub (Qbe _) (Qao.mpr U);have e:=Zmy (nx:=nx) (i:=l.length) (Qbe _) (s:=b) rfl;rw[<-B.e]at e;exact⟨e,r⟩
def BfE.next(B:BfE nx b l){s x:κ}(h:s∈l)(C:x∈nx s):x∈l:=by
 obtain⟨j,r⟩:=Qcr.mp h;obtain⟨h1,h2⟩:=B.here r;refine B.sub h1 ?_;rw[yt h2];exact(zg _ _).mpr (.inr C)
def BfE.nodup(B:BfE nx b l):l.Nodup:=by
 rw[B.e];exact Gx _
def ixG(l:List κ)(x:κ):Nat:=l.idxOf x
def BfE.zero(B:BfE nx b l):ixG l b=0:=XY B.nodup B.begin.1
def rnG_at(h:∀s∈l,∀x∈nx s,x∈l){s:κ}(r:s∈l):(rnG nx l).getD (ixG l s) []=(nx s).map λx=>ixG l x:=by
 unfold rnG ixG;rw[Qak,Qai,Zed r];rfl
def Zk3{ot:κ->List V}{s:κ}(r:s∈l):(l.map ot).getD (ixG l s) []=ot s:=by
 unfold ixG;rw[Qak,Qai,Zed r];rfl
end
abbrev nxS(nm:Ai)(r:A8):Int×Ak->List (Int×Ak):=nxT nm (YT (2^nm.length) nm) r (lgB r)
def Zk4(nm:Ai)(cols:Str->Int)(r:A8)(L:Nat)(s:Int×Ak):(nxT nm cols r L s).length=2^nm.length:=by
 unfold nxT;rw[Qab,Qbk]
def Zk5(nm:Ai)(cols:Str->Int)(r:A8)(C D:V)(s:Int×Ak):(otT nm cols r C D s).length=2^nm.length:=by
 unfold otT;rw[Qab,Qbk]
section
variable {κ:Type}[DecidableEq κ]{nx:κ->List κ}{b:κ}{l:List κ}
def Zk6(B:BfE nx b l)(D:∀s,(nx s).length=n):(∀r∈rnG nx l,r.length=n)/\∀r∈rnG nx l,∀s∈r,s<(rnG nx l).length:=by
 constructor
 .intro r C;obtain⟨s,_,rfl⟩:=Qap.mp C;rw[Qab,D]
 .intro r C x I;obtain⟨s,G,rfl⟩:=Qap.mp C;obtain⟨y,L,rfl⟩:=Qap.mp I;rw[zh];exact Qbg (B.next G L)
end
def Gz{H':Hp}{xs:A8}(h:SqL K H a xs)(s:Z7 H H'):SqL K H' a xs:=by
 rcases h with h|h
 .rcases h with h|⟨u,h⟩
  .exact .inl (.inl (s _ _ h))
  .exact .inl (.inr ⟨u,s _ _ h⟩)
 .exact .inr h
def neA(x y:Int)(k:Nat):Int:=if lo x k=lo y k then 0 else 1
def Ziv(x y:Int)(k:Nat):neA x y k=0\/neA x y k=1:=by
 unfold neA;split
 .exact .inl U
 .exact .inr U
def Zgq(x y:Int):neA x y 0=0:=by
 unfold neA lo;rw[Qdu,Qhl,Qhl];rfl
def Zgr(x y:Int)(k:Nat):neA x y (k+1)=1-(1-(bt x k+bt y k)%2)*(1-neA x y k):=by
 have e1:=xZ x k;have e2:=xZ y k;have b1:=zN x k;have b2:=zN y k;unfold neA;rcases Y9 x k with a|a<;>rcases Y9 y k with b|b<;>rw[a]at e1 ⊢ <;> rw[b]at e2 ⊢ <;> by_cases h:lo x k=lo y k
 all_goals first
  |rw[Qa5 h,Qa5 (by lia)];rfl
  |rw[Qaw h,Qaw (by lia)];rfl
  |rw[Qa5 h,Qaw (by lia)];rfl
def sgA(x:Int)(k:Nat):Int:=lo x k-2^k*bt x k
def bnA(x y:Int)(k:Nat):Int:=if sgA x k<sgA y k then 1 else 0
def bnA_01(x y:Int)(k:Nat):bnA x y k=0\/bnA x y k=1:=by
 unfold bnA;split
 .exact .inr U
 .exact .inl U
def bnA_br(x y:Int)(k:Nat):bnA x y k=1-(1-(1-bt y k)*bt x k)*(1-brA x y k*(1-(bt y k+bt x k)%2)):=by
 have b1:=zN x k;have b2:=zN y k;unfold bnA sgA brA;rcases Y9 x k with a|a<;>rcases Y9 y k with b|b<;>rw[a,b]<;>by_cases h:lo x k<lo y k
 all_goals first
  |rw[Qa5 h,Qa5 (by lia)];rfl
  |rw[Qaw h,Qaw (by lia)];rfl
  |rw[Qa5 h,Qaw (by lia)];rfl
  |rw[Qaw h,Qa5 (by lia)];rfl
def zG(y:Str)(is:Ak)(k:Nat):Int:=
 if y = "twice" then tw (is.getD 0 0) k else if y = "neg" \/ y = "low" \/ y = "nought" then nzA (is.getD 0 0) k else if y = "same" then neA (is.getD 0 0) (is.getD 1 0) k else if y = "add" then cyA (is.getD 0 0) (is.getD 1 0) k else brA (is.getD 0 0) (is.getD 1 0) k
def wI(y:Str)(is:Ak)(k:Nat):zG y is k=0\/zG y is k=1:=by
 unfold zG
 repeat' split
 .exact tw_01 _ _
 .exact Zds _ _
 .exact Ziv _ _ _
 .exact Zdq _ _ _
 .exact v3 _ _ _
def vL(y:Str)(is:Ak):zG y is 0=0:=by
 unfold zG
 repeat' split
 .rfl
 .exact Zgj _
 .exact Zgq _ _
 .exact gT _ _
 .exact gX _ _
def uk(y:Str)(bs:Ak)(h:Int):Int:=
 if y = "twice" then bs.getD 0 0 else if y = "neg" \/ y = "low" \/ y = "nought" then 1-(1-bs.getD 0 0)*(1-h)else if y = "same" then 1-(1-(bs.getD 0 0+bs.getD 1 0)%2)*(1-h)else if y = "add" then(bs.getD 0 0+bs.getD 1 0+h)/2 else 1-(1-(1-bs.getD 0 0)*bs.getD 1 0)*(1-h*(1-(bs.getD 0 0+bs.getD 1 0)%2))
def zk(y:Str)(is:Ak)(k:Nat):zG y is (k+1)=uk y (is.map λx=>bt x k) (zG y is k):=by
 unfold zG uk;rw[Jj,Jj]
 repeat' split
 .rfl
 .exact Zgk _ _
 .exact Zgr _ _ _
 .exact gU _ _ _
 .exact gY _ _ _
def Zk7(y:Str)(bs:Ak)(h:Int):Int:=
 if y = "add" \/ y = "sub" then(bs.getD 0 0+bs.getD 1 0+h)%2 else if y = "neg" then(bs.getD 0 0+h)%2 else if y = "twice" then h else if y = "low" then bs.getD 0 0*(1-h)
 else if y = "same" \/ y = "nought" then 1-uk y bs h else if y = "under" then uk y bs h else 1-(1-(1-bs.getD 1 0)*bs.getD 0 0)*(1-h*(1-(bs.getD 1 0+bs.getD 0 0)%2))
def zQ(y:Str)(bs:Ak):Int:=
 if y = "yes" then 1 else if y = "sign" then bs.getD 0 0 else if y = "not" \/ y = "never" then 1-bs.getD 0 0 else if y = "and" \/ y = "both" then bs.getD 0 0*bs.getD 1 0 else if y = "or" \/ y = "either" then 1-(1-bs.getD 0 0)*(1-bs.getD 1 0)
 else if y = "odd" then(bs.getD 0 0+bs.getD 1 0)%2 else if y = "so" then 1-(1-(1-bs.getD 0 0))*(1-bs.getD 1 0)else 1-(1-bs.getD 0 0*bs.getD 1 0)*(1-(1-bs.getD 0 0)*bs.getD 2 0)
def Ziw(a b h:Int)(l:Nat):bt (Zmx a b h) l=1-(1-(1-bt a l)*bt b l)*(1-bt h l*(1-(bt a l+bt b l)%2)):=by
 unfold Zmx;rw[zM,W0,W0,Gu,Gu,xX]
def Zix(y:Str)(is:Ak)(h:Int)(l:Nat):bt (ktI y is h) l=uk y (is.map λx=>bt x l) (bt h l):=by
 unfold uk ktI;rw[Jj,Jj]
 repeat' split
 .rfl
 .exact zM l _ _
 .rw[zM,xX]
 .rw[zM,W0,W0,zM];rcases Y9 _ l with a|a<;>rcases Y9 _ l with b|b<;>rcases Y9 h l with c|c<;>rw[a,b,c]<;>rfl
 .exact Ziw _ _ _ _
def okR_bt(y:Str)(is:Ak)(h:Int)(l:Nat):bt (okI y is h (ktI y is h)) l=Zk7 y (is.map λx=>bt x l) (bt h l):=by
 unfold Zk7 okI;rw[<-Zix,Jj,Jj]
 repeat' split
 .rw[xX,xX];lia
 .exact xX l _ _
 .rfl
 .rw[W0,Gu]
 .exact Gu l _
 .rfl
 .exact Ziw _ _ _ _
def Ziy(y:Str)(is:Ak)(l:Nat):bt (oaI y is) l=zQ y (is.map λx=>bt x l):=by
 unfold zQ oaI;rw[Jj,Jj,Jj]
 repeat' split
 .exact Zdo l
 .rfl
 .exact Gu l _
 .exact W0 l _ _
 .exact zM l _ _
 .exact xX l _ _
 .rw[zM,Gu]
 .rw[zM,W0,W0,Gu]
def clB(y:Str)(is:Ak)(k:Nat):Int:=
 if y = "same" then 1-neA (is.getD 0 0) (is.getD 1 0) (k+1)else if y = "nought" then 1-nzA (is.getD 0 0) (k+1)else if y = "under" then brA (is.getD 0 0) (is.getD 1 0) (k+1)else if y = "beneath" then bnA (is.getD 0 0) (is.getD 1 0) k
 else zQ y (is.map λx=>bt x k)
def once01(y:Str)(is:Ak)(k:Nat):zQ y (is.map λx=>bt x k)=0\/zQ y (is.map λx=>bt x k)=1:=by
 rw[<-Ziy];exact Y9 _ _
def um(y:Str)(is:Ak)(k:Nat):clB y is k=0\/clB y is k=1:=by
 unfold clB
 repeat' split
 .have:=Ziv (is.getD 0 0) (is.getD 1 0) (k+1);lia
 .have:=Zds (is.getD 0 0) (k+1);lia
 .exact v3 _ _ _
 .exact bnA_01 _ _ _
 .exact once01 _ _ _
def rwR(W:Nat)(ρ:Str->Int)(w:V)(is:Ak):Int:=
 match w with
 |.str y=>if y∈Zv then sm (clB y is) W else wwv ρ w is%2^W
 |_=>wwv ρ w is%2^W
def W6(W:Nat)(ρ:Str->Int):A8->List Int
 |[]=>[]
 |w::r=>rwR W ρ w ((W6 W ρ r).take (npw w))::(W6 W ρ r).drop (npw w)
theorem y1(W:Nat)(ρ:Str->Int):∀C:A8,(W6 W ρ C).length=gZ C
 |[]=>rfl
 |w::r=>by
  show((W6 W ρ r).drop _).length+1=_;rw[Qds,y1 W ρ r];rfl
def xg:V->Bool
 |.str y=>decide (y∈allR)
 |_=>false
def zm(W:Nat)(ρ:Str->Int):A8->Nat->List Int
 |[],_=>[]
 |w::r,k=>zm W ρ r k++if xg w=true then[zG (Ze9 w) ((W6 W ρ r).take (npw w)) k]else[]
def Zee(ys:Ai)(ν:Str->Int)(pl:Nat)(kp:Ak):A8->List Int×Ak
 |[]=>([],[])
 |w::r=>
  let p:=Zee ys ν pl kp r
  match w with
  |.str y=>
   if y∈allR then(Zk7 y (p.1.take (npw w)) (kp.getD p.2.length 0)::p.1.drop (npw w),p.2++[uk y (p.1.take (npw w)) (kp.getD p.2.length 0)])
   else if y∈ys then(ν y::p.1.drop (npw w),p.2)
   else(zQ y (p.1.take (npw w))::p.1.drop (npw w),p.2)
  |.int z=>(bt z pl::p.1.drop (npw w),p.2)
  |_=>p
noncomputable def vM{ys:Ai}{cols:Str->Int}{pl:Nat}{kp:Ak}(I:∀i:Nat,kp.getD i 0=0\/kp.getD i 0=1)(l:Nat):∀C:A8,
  (XA ys cols pl kp C).1.map (λx=>bt x l)=(Zee ys (λy=>bt (cols y) l) pl kp C).1/\(XA ys cols pl kp C).2.map (λx=>bt x l)=(Zee ys (λy=>bt (cols y) l) pl kp C).2
 |[]=>⟨U,U⟩
 |w::r=>by
  obtain⟨e1,e2⟩:=vM (ys:=ys) (cols:=cols) (pl:=pl) I l r;have L:(XA ys cols pl kp r).2.length=(Zee ys (λy=>bt (cols y) l) pl kp r).2.length:=by grind
  cases w with
  |str y=>
   show(if y∈allR then _ else if y∈ys then _ else _:Ak×Ak).1.map _=(if y∈allR then _ else if y∈ys then _ else _:Ak×Ak).1/\(if y∈allR then _ else if y∈ys then _ else _:Ak×Ak).2.map _=(if y∈allR then _ else if y∈ys then _ else _:Ak×Ak).2
   by_cases D:y∈allR
   .rw[Qa5 D,Qa5 D];constructor
    .show bt _ l::_=_::_;rw[okR_bt,wy (I _),Qdv,Qee,e1,L]
    .rw[Qau,e2];show _++[bt _ l]=_;rw[Zix,wy (I _),Qdv,e1,L]
   .rw[Qaw D,Qaw D]
    by_cases G:y∈ys
    .rw[Qa5 G,Qa5 G];refine⟨?_,e2⟩;show bt _ l::List.map _ _=_::_;rw[Qee,e1]
    .rw[Qaw G,Qaw G];refine⟨?_,e2⟩;show bt _ l::List.map _ _=_::_;rw[Ziy,Qdv,Qee,e1]
  |int z=>
   refine⟨?_,e2⟩;show bt _ l::List.map _ _=bt z pl::_;rw[Qee,e1,wy (Y9 z pl)]
  |_=>exact⟨e1,e2⟩
def J0:∀y∈Wz,y∉Zv:=by decide +kernel
def Zgs{y:Str}(r:y∈za)(is:Ak)(k:Nat):zG y is k=hld y is k:=by
 unfold za at r;simp at r;rcases r with rfl|rfl|rfl|rfl|rfl<;>rfl
def Zgt{y:Str}(r:y∈za)(bs:Ak)(h:Int):Zk7 y bs h=ans1 y bs h:=by
 unfold za at r;simp at r;rcases r with rfl|rfl|rfl|rfl|rfl<;>rfl
def Zef{y:Str}(r:y∈Wz)(C:y∉za)(bs:Ak):zQ y bs=once y bs:=by
 rcases j8 y r C with⟨rfl,_⟩|⟨rfl,_⟩|⟨rfl,_⟩|⟨rfl,_⟩|⟨rfl,_⟩<;>rfl
def Zeg:∀y∈Zv,y∈allR->y = "same" \/ y = "under" \/ y = "beneath" \/ y = "nought" :=by decide +kernel
def Zaq:∀y∈Zv,y∉allR->¬y = "same" /\ ¬y = "under" /\ ¬y = "beneath" /\ ¬y = "nought" :=by decide +kernel
def Zgu{f:Nat->Int}(r:∀i,f i=0\/f i=1){k W:Nat}(h:k<W):bt (sm f W) k=f k:=Zdy r k W h
def uo(ρ:Str->Int){y:Str}{W k:Nat}(D:k<W)(I:y∈allR){is:Ak}(h:y∈Zv\/(y∈Wz/\is.length=Yz y)):Zk7 y (is.map λx=>bt x k) (zG y is k)=bt (rwR W ρ (.str y) is) k:=by
 rcases h with G|⟨r,L⟩
 .show _=bt (if y∈Zv then _ else _) k;rw[Qa5 G,Zgu (um y is) D];have r:=zk y is k;rcases Zeg y G I with rfl|rfl|rfl|rfl
  .show 1-uk "same" _ _=1-neA _ _ _;rw[<-r];rfl
  .show uk "under" _ _=brA _ _ _;rw[<-r];rfl
  .show 1-(1-(1-List.getD _ 1 0)*List.getD _ 0 0)*(1-brA _ _ k*(1-(List.getD _ 1 0+List.getD _ 0 0)%2))=bnA _ _ k;rw[Jj,Jj,bnA_br]
  .show 1-uk _ _ _=1-nzA _ _;rw[<-r];rfl
 .have C:=(Zdx y r).mp I;show _=bt (if y∈Zv then _ else _) k;rw[Qaw (J0 y r),Zgt C,Zgs C,ans_ok ρ C L,j7 _ _ _ D]
def vN(ρ:Str->Int){y:Str}{W k:Nat}(C:k<W)(G:y∉allR){is:Ak}(h:y∈Zv\/(y∈Wz/\is.length=Yz y)):zQ y (is.map λx=>bt x k)=bt (rwR W ρ (.str y) is) k:=by
 rcases h with D|⟨r,M⟩
 .show _=bt (if y∈Zv then _ else _) k;obtain⟨h1,h2,N,L⟩:=Zaq y D G;rw[Qa5 D,Zgu (um y is) C];unfold clB;rw[Qaw h1,Qaw L,Qaw h2,Qaw N]
 .have I:=λz=>G ((Zdx y r).mpr z)
  show _=bt (if y∈Zv then _ else _) k;rw[Qaw (J0 y r),Zef r I,Zkv ρ r I M,j7 _ _ _ C]
def Zar(ys:Ai)(B:Nat)(w:V):Prop:=vA ys B w\/∃y,w=.str y/\y∈Zv/\y∉ys
theorem Zgv(W:Nat)(ρ:Str->Int)(C:A8)(k:Nat):(zm W ρ C k).length=(C.filter xg).length:=by
 induction C with
 |nil=>rfl
 |cons w r D=>
  show(zm W ρ r k++_).length=_;rw[Qag,D,Qcl];split<;>rfl
theorem Zeh{ys:Ai}{B W k pl:Nat}{ρ:Str->Int}(Y:k<W)(S:pl=k\/(B<=pl/\B<=k))(L:∀y∈ys,y∉Z8)(kp:Ak):∀M:A8,(∀w∈M,Zar ys B w)->Jk M->(∃r,kp=zm W ρ M k++r)->Zee ys (λy=>bt (ρ y) k) pl kp M=((W6 W ρ M).map (λx=>bt x k),zm W ρ M (k+1))
 |[],_,_,_=>rfl
 |w::r,hw,he,hkp=>by
  obtain⟨r0,Q⟩:=hkp;have ih:=Zeh Y S L kp r (λw h=>hw w (Qal _ h)) he.2 ⟨_,by rw[Q];show(_++_)++_=_;rw[Qbt]⟩;have htk:((W6 W ρ r).take (npw w)).length=npw w:=by rw[Qbp,y1 W ρ r];exact Qgi he.1
  have ml:=Zgv W ρ r;have I:∀y,w=.str y->y∉ys->(y∈Zv\/(y∈Wz/\npw w=Yz y))->Zee ys (λy=>bt (ρ y) k) pl kp (w::r)=((W6 W ρ (w::r)).map (λx=>bt x k),zm W ρ (w::r) (k+1)):=by
   rintro y rfl D G;have Z:y∈Zv\/(y∈Wz/\((W6 W ρ r).take (npw (.str y))).length=Yz y):=by grind
   by_cases N:y∈allR
   .have C:xg (.str y)=true:=Qaq N;have hg:kp.getD (zm W ρ r (k+1)).length 0=zG y ((W6 W ρ r).take (npw (.str y))) k:=by
     have e:zm W ρ (.str y::r) k=zm W ρ r k++[zG y ((W6 W ρ r).take (npw (.str y))) k]:=by
      show _++(if xg (.str y)=true then _ else _)=_;rw[Qa5 C];rfl
     rw[Q,e,ml,<-ml k,Qbt,Qak,Qax (Qah _),Qdw];rfl
    show(if y∈allR then _ else _)=_;rw[Qa5 N,ih];rw[hg,<-Qdv,uo ρ Y N Z,<-zk];refine Qht ?_ ?_
    .show _::_=bt _ k::((W6 W ρ r).drop _).map _;rw[Qee]
    .show _=_++(if xg (.str y)=true then _ else _);rw[Qa5 C];rfl
   .have C:¬xg (.str y)=true:=λz=>N (Qbb z)
    show(if y∈allR then _ else if y∈ys then _ else _)=_;rw[Qaw N,Qaw D,ih];rw[<-Qdv,vN ρ Y N Z];refine Qht ?_ ?_
    .show _::_=bt _ k::((W6 W ρ r).drop _).map _;rw[Qee]
    .show _=_++(if xg (.str y)=true then _ else _);rw[Qaw C,Qbv]
  rcases hw w Qaj with(⟨y,rfl,G,D,Ua⟩|⟨y,rfl,G,hnr,Ua⟩|⟨z,rfl,z0,z1,Ua⟩)|⟨y,rfl,G,D⟩
  .exact I y U D (.inr ⟨G,Ua⟩)
  .have O:=λz=>L y G (ug y z)
   have C:¬xg (.str y)=true:=λz=>O (Qbb z);show(if y∈allR then _ else if y∈ys then _ else _)=_;rw[Qaw O,Qa5 G,ih];refine Qht ?_ ?_
   .show _::_=bt (if y∈Zv then _ else _) k::((W6 W ρ r).drop _).map _;rw[Qaw λz=>L y G (YE y z),j7 _ _ _ Y,Ua,Qgv];rfl
   .show _=_++(if xg (.str y)=true then _ else _);rw[Qaw C,Qbv]
  .show(bt z pl::(Zee ys _ pl kp r).1.drop _,(Zee ys _ pl kp r).2)=_;rw[ih];have ez:bt z pl=bt z k:=by
    rcases S with h|⟨h1,h2⟩
    .rw[h]
    .rw[Zir z0 z1 h1,Zir z0 z1 h2]
   refine Qht ?_ ?_
   .show bt z pl::_=bt (wwv ρ (.int z) _%2^W) k::((W6 W ρ r).drop _).map _;rw[j7 _ _ _ Y,Ua,ez];rfl
   .show _=_++(if xg (.int z)=true then _ else _);rw[Qaw (λz=>nomatch z),Qbv]
  .exact I y U D (.inl G)
theorem jD{ys:Ai}{ν C:Str->Int}{pl:Nat}{kp:Ak}(h:∀y∈ys,ν y=C y):∀D:A8,Zee ys ν pl kp D=Zee ys C pl kp D
 |[]=>rfl
 |w::r=>by
  unfold Zee;rw[jD h r];cases w with
  |str y=>
   by_cases G:y∈allR
   .simp[Qa5 G]
   .grind
  |_=>rfl
theorem uq{W:Nat}{ρ:Str->Int}{k:Nat}:∀{C:A8},∀x∈zm W ρ C k,x=0\/x=1
 |w::r,x,h=>by
  rcases Qbl.mp h with h|h
  .exact uq x h
  .split at h
   .rw[Qao.mp h];exact wI _ _ _
   .cases h
def Zk8(W:Nat)(ρ:Str->Int)(r:A8)(k i:Nat):(zm W ρ r k).getD i 0=0\/(zm W ρ r k).getD i 0=1:=by
 rw[Qak];cases e:(zm W ρ r k)[i]? with
 |none=>exact .inl U
 |some x=>exact uq x (Qat e)
theorem vO(W:Nat)(ρ:Str->Int):∀C:A8,zm W ρ C 0=List.replicate (C.filter xg).length 0
 |[]=>rfl
 |w::r=>by
  show zm W ρ r 0++_=_;rw[vO W ρ r,Qcl];split
  .rw[vL,Qaz,Qf7]
  .rw[Qbv]
theorem G2{ys:Ai}{B:Nat}:∀{C:A8},(∀w∈C,Zar ys B w)->J2 C=(C.filter xg).length
 |[],_=>rfl
 |w::r,h=>by
  rw[vJ,G2 (λv D=>h v (Qal _ D)),Qcl];have e:inV w (allR.map V.str)=xg w:=by
   rcases h w Qaj with(⟨y,rfl,_⟩|⟨y,rfl,_⟩|⟨z,rfl,_⟩)|⟨y,rfl,_⟩
   .exact ZC _ _
   .exact ZC _ _
   .exact wx z _
   .exact ZC _ _
  rw[e];split<;>rfl
def zo{nm:Ai}{ls:Aj}{W k c:Nat}(C:nm.Nodup)(N:∀y∈nm,y∉Z8)(hw:∀w∈r,Zar nm 10 w)(Ua:Jk r)(M:k<W)(O:ls[k]?=some c)(I:c<2^nm.length):
  (Zlw nm (YT (2^nm.length) nm) r (min (k:Int) (lgB r:Int),zm W (yI ls nm) r k)).1.map (λx=>bt x c)=(W6 W (yI ls nm) r).map (λx=>bt x k)/\(Zlw nm (YT (2^nm.length) nm) r (min (k:Int) (lgB r:Int),zm W (yI ls nm) r k)).2.map (λx=>bt x c)=zm W (yI ls nm) r (k+1):=by
 have G:∀w∈r,Zar nm _ w:=λw h=>by
  rcases hw w h with(z|z|⟨z,rfl,L,_,Q⟩)|z
  .exact .inl (.inl z)
  .exact .inl (.inr (.inl z))
  .exact .inl (.inr (.inr ⟨z,U,L,lgB_lt h L,Q⟩))
  .exact .inr z
 obtain⟨e1,e2⟩:=vM (Zk8 W _ r k) c r;have D:∀y∈nm,bt _ c=bt _ k:=λy S=>by
  obtain⟨i,hi⟩:=Qcr.mp S;rw[Zgp C hi I,Zec C hi O]
 rw[jD D r,Zeh (pl:=(min (k:Int) (lgB r)).toNat) M (by lia) N _ r G Ua ⟨[],(Qbv _).symm⟩]at e1 e2;exact⟨e1,e2⟩
theorem Zei{nm:Ai}{ls:Aj}{W:Nat}{o:Int}{N O:V}{l:List (Int×Ak)}(M:nm.Nodup)(Y:∀y∈nm,y∉Z8)(hw:∀w∈r,Zar nm 10 w)(he:Jk r)(hW:W<=ls.length)(S:∀x∈ls,x<2^nm.length)(ho:W6 W (yI (ls.take W) nm) r=[o])
  (B:BfE (nxT nm (YT (2^nm.length) nm) r (lgB r)) (0,List.replicate (J2 r) 0) l):
  ∀k,k<W->(rnO (rnG (nxT nm (YT (2^nm.length) nm) r (lgB r)) l) (l.map (otT nm (YT (2^nm.length) nm) r N O)) 0 ls)[k]?=some (if bt o k=1 then O else N):=by
 generalize hρ:yI (ls.take W) nm=ρ at *;have e0:((0:Int),List.replicate (J2 r) (0:Int))=(min ((0:Nat):Int) (lgB r:Int),zm W ρ r 0):=by
  rw[vO,G2 hw,show min ((0:Nat):Int) (lgB r:Int)=0 by lia]
 have at_:∀k,k<W->∃c,ls[k]?=some c/\(ls.take W)[k]?=some c/\c<2^nm.length:=λk Y=>by
  have h1:ls[k]?=some ls[k]:=Qac (by lia);exact⟨_,h1,by grind,S _ (Qat h1)⟩
 have step:∀k,k<=W->stN (rnG (nxT nm (YT (2^nm.length) nm) r (lgB r)) l) 0 (ls.take k)=ixG l (min (k:Int) (lgB r:Int),zm W ρ r k)/\(min (k:Int) (lgB r:Int),zm W ρ r k)∈l:=by
  intro k
  induction k with
  |zero=>
   intro _;rw[<-e0];exact⟨B.zero.symm,B.begin.2⟩
  |succ k Q=>
   intro hk1;obtain⟨i1,i2⟩:=Q (by lia);obtain⟨c,Ua,G,C⟩:=at_ k (by lia);obtain⟨_,e2⟩:=zo M Y hw he (show k<W by lia) G C;rw[hρ]at e2;have Z:(nxT nm (YT (2^nm.length) nm) r (lgB r) (min (k:Int) (lgB r:Int),zm W ρ r k))[c]?=some (min ((k+1:Nat):Int) (lgB r:Int),zm W ρ r (k+1)):=by
    unfold nxT;rw[xf C,e2];congr 2;lia
   refine⟨?_,B.next i2 (Qat Z)⟩;rw[take_snoc Ua,yz,i1,rnG_at (λs hs x hx=>B.next hs hx) i2,Qak,Qai,Z];rfl
 intro k I;obtain⟨i1,i2⟩:=step k (by lia);obtain⟨c,Ua,G,C⟩:=at_ k I;obtain⟨e1,_⟩:=zo M Y hw he I G C;rw[hρ]at e1;have L:k<ls.length:=by lia
 have ek:ls=ls.take k++c::ls.drop (k+1):=by
  rw[show c::ls.drop (k+1)=ls.drop k by rw[Qdc L];congr 1;exact(Qaf.mp Ua).2.symm,Qc3]
 have go:∀(nx:Ad)(ot:Az)(s:Nat)(a:Aj)(c:Nat)(D:Aj),(rnO nx ot s (a++c::D))[a.length]?=some ((ot.getD (stN nx s a) []).getD c .non):=λnx ot s a c D=>by
  induction a generalizing s with
  |nil=>rfl
  |cons d a Q=>exact Q _
 have g:=go (rnG (nxT nm (YT (2^nm.length) nm) r (lgB r)) l) (l.map (otT nm (YT (2^nm.length) nm) r N O)) 0 (ls.take k) c (ls.drop (k+1));rw[<-ek,Qbp,Qgi (by lia),i1,Zk3 i2]at g;rw[g];congr 1;unfold otT;rw[Qak,xf C];rw[ho]at e1;generalize (Zlw nm (YT (2^nm.length) nm) r _).1=q at e1 ⊢;have hq:q.length=1:=by
  have:=congrArg List.length e1;rw[Qab]at this;exact this
 match q,hq,e1 with
 |[x],_,e1=>
  have e1:bt x c=bt o k:=by
   injection e1
  show(if bt x c=1 then O else N)=_;rw[e1]
inductive TyR(ys:Ai):A8->List Bool->Prop
 |nil:TyR ys [] []
 |sum {w:V} {r:A8} {ks:Am}:vA ys 10 w->TyR ys r (List.replicate (npw w) false++ks)->TyR ys (w::r) (false::ks)
 |clm {y:Str} {r:A8} {ks:Am}:y∈Zv->y∉ys->TyR ys r (List.replicate (qa (.str y)) false++(List.replicate (kE (.str y)) true++ks))->TyR ys (.str y::r) (true::ks)
def G3:∀y∈Zv,npw (.str y)=qa (.str y)+kE (.str y):=by decide +kernel
theorem TyR.facts{ys:Ai}{ks:Am}(h:TyR ys r ks):(∀w∈r,Zar ys 10 w)/\Jk r/\gZ r=ks.length:=by
 induction h with
 |nil=>exact⟨(λ_ h=>nomatch h),trivial,U⟩
 | @sum w C ks hw _ G=>
  obtain⟨h1,h2,I⟩:=G;rw[Qag,Qay]at I;refine⟨λv D=>?_,⟨by lia,h2⟩,?_⟩
  .rcases Qas.mp D with rfl|D
   .exact .inl hw
   .exact h1 v D
  .show gZ C-npw w+1=ks.length+1;lia
 | @clm y C ks L M _ G=>
  obtain⟨h1,h2,I⟩:=G;rw[Qag,Qag,Qay,Qay]at I;have e:=G3 y L;refine⟨λv D=>?_,⟨by lia,h2⟩,?_⟩
  .rcases Qas.mp D with rfl|D
   .exact .inr ⟨y,U,L,M⟩
   .exact h1 v D
  .show gZ C-npw _+1=ks.length+1;lia
def RlV(W:Nat):Bool->V->Int->Prop
 |false,v,x=>v=.int x/\0<=x/\x<2^W
 |true,v,x=>v=.bl (decide (bt x (W-1)=1))
inductive RlS(W:Nat):Am->List V->List Int->Prop
 |nil:RlS W [] [] []
 |cons {b:Bool} {bs:Am} {v:V} {vs:A8} {x:Int} {xs:Ak}:RlV W b v x->RlS W bs vs xs->RlS W (b::bs) (v::vs) (x::xs)
theorem RlS.cut{W:Nat}{as bs:Am}:∀{vs:A8} {xs:Ak},RlS W (as++bs) vs xs->RlS W as (vs.take as.length) (xs.take as.length)/\RlS W bs (vs.drop as.length) (xs.drop as.length):=by
 induction as with
 |nil=>exactλh=>⟨.nil,h⟩
 |cons a as C=>
  intro vs xs h;cases h with
  |cons h1 h2=>
   obtain⟨D,r⟩:=C h2;exact⟨.cons h1 D,r⟩
theorem RlS.ints{W:Nat}:∀{vs:A8} {xs:Ak},RlS W (List.replicate n false) vs xs->vs=xs.map V.int/\xs.length=n/\∀x∈xs,0<=x/\x<2^W:=by
 induction n with
 |zero=>
  intro vs xs h;cases h;exact⟨U,U,(λ_ h=>nomatch h)⟩
 |succ n D=>
  intro vs xs h;cases h with
  |cons h1 h2=>
   obtain⟨e1,e2,e3⟩:=D h2;obtain⟨rfl,G,C⟩:=h1;refine⟨by grind,by grind,λx r=>?_⟩;rcases Qas.mp r with rfl|r
   .exact⟨G,C⟩
   .exact e3 x r
theorem RlS.bls{W:Nat}:∀{vs:A8} {xs:Ak},RlS W (List.replicate n true) vs xs->vs=xs.map (λx=>V.bl (decide (bt x (W-1)=1)))/\xs.length=n:=by
 induction n with
 |zero=>
  intro vs xs h;cases h;exact⟨U,U⟩
 |succ n r=>
  intro vs xs h;cases h with
  |cons h1 h2=>
   obtain⟨e1,e2⟩:=r h2;cases h1;exact⟨by grind,by grind⟩
def Zas{x:Int}{W:Nat}(r:0<=x)(h1:x<2^W):lo x W=x:=Qfr r h1
def Zej{x:Int}{k:Nat}(r:0<=x)(h1:x<2^(k+1)):sgA x k=sgn (2^(k+1)) x:=by
 have e:=xZ x k;rw[Zas r h1]at e;have b:=zN x k;unfold sgA sgn;rcases Y9 x k with a|a<;>skip
 .lia
 .lia
def qb:∀y∈Zv,0<qa (.str y)->kE (.str y)=0/\((y = "same" /\ qa (.str y)=2)\/(y = "under" /\ qa (.str y)=2)\/(y = "beneath" /\ qa (.str y)=2)\/(y = "sign" /\ qa (.str y)=1)\/(y = "nought" /\ qa (.str y)=1)):=by decide +kernel
def Zat:∀y∈Zv,¬0<qa (.str y)->(y = "both" /\ kE (.str y)=2)\/(y = "either" /\ kE (.str y)=2)\/(y = "so" /\ kE (.str y)=2)\/(y = "never" /\ kE (.str y)=1)\/(y = "yes" /\ kE (.str y)=0):=by decide +kernel
def Zgw{W:Nat}(L:1<=W){y:Str}(I:y∈Zv)(G:0<qa (.str y)){xs:Ak}(D:xs.length=qa (.str y))(r:∀x∈xs,0<=x/\x<2^W):Zdm (2^W) y xs=decide (clB y xs (W-1)=1):=by
 obtain⟨k,rfl⟩:∃k,W=k+1:=⟨W-1,by lia⟩;obtain⟨_,h⟩:=qb y I G;rcases h with⟨rfl,e⟩|⟨rfl,e⟩|⟨rfl,e⟩|⟨rfl,e⟩|⟨rfl,e⟩<;>skip
 .match xs,D with
  |[a,b],_=>
   have C:=r a Qaj;have r:=r b (Qal _ Qaj);show decide (a=b)=decide (1-neA a b (k+1)=1);refine Qeg.mpr ?_;unfold neA;rw[Zas C.1 C.2,Zas r.1 r.2];split<;>lia
 .match xs,D with
  |[a,b],_=>
   have C:=r a Qaj;have r:=r b (Qal _ Qaj);show decide (a<b)=decide (brA a b (k+1)=1);refine Qeg.mpr ?_;unfold brA;rw[Zas C.1 C.2,Zas r.1 r.2];split<;>lia
 .match xs,D with
  |[a,b],_=>
   have C:=r a Qaj;have r:=r b (Qal _ Qaj);show decide (sgn (2^(k+1)) a<sgn (2^(k+1)) b)=decide (bnA a b k=1);refine Qeg.mpr ?_;unfold bnA;rw[Zej C.1 C.2,Zej r.1 r.2];split<;>lia
 .match xs,D with
  |[a],_=>
   have C:=r a Qaj;show decide (sgn (2^(k+1)) a<0)=decide (bt a k=1);refine Qeg.mpr ?_;rw[<-Zej C.1 C.2];have b:=zN a k;unfold sgA;rcases Y9 a k with h|h<;>rw[h]<;>lia
 .match xs,D with
  |[a],_=>
   have C:=r a Qaj;show decide (a=0)=decide (1-nzA a (k+1)=1);refine Qeg.mpr ?_;unfold nzA brA;rw[Zas C.1 C.2,show lo 0 (k+1)=0 from Int.zero_emod _];split<;>lia
def Zgx{k:Nat}{y:Str}(D:y∈Zv)(C:¬0<qa (.str y)){xs:Ak}(r:xs.length=kE (.str y)):Zna y (xs.map λx=>decide (bt x k=1))=decide (clB y xs k=1):=by
 rcases Zat y D C with⟨rfl,e⟩|⟨rfl,e⟩|⟨rfl,e⟩|⟨rfl,e⟩|⟨rfl,e⟩<;>skip
 .match xs,r with
  |[a,b],_=>
   show(decide _&&decide _)=decide (bt a k*bt b k=1);rcases Y9 a k with h|h<;>rcases Y9 b k with g|g<;>rw[h,g]<;>rfl
 .match xs,r with
  |[a,b],_=>
   show(decide _||decide _)=decide (1-(1-bt a k)*(1-bt b k)=1);rcases Y9 a k with h|h<;>rcases Y9 b k with g|g<;>rw[h,g]<;>rfl
 .match xs,r with
  |[a,b],_=>
   show(decide _ || !decide _)=decide (1-(1-(1-bt a k))*(1-bt b k)=1);rcases Y9 a k with h|h<;>rcases Y9 b k with g|g<;>rw[h,g]<;>rfl
 .match xs,r with
  |[a],_=>
   show(!decide _)=decide (1-bt a k=1);rcases Y9 a k with h|h<;>rw[h]<;>rfl
 .match xs,r with
  |[],_=>rfl
theorem y3{ys:Ai}{W:Nat}(hW:1<=W)(S:∀y∈ys,y∉Z8)(ρ:Str->Int){ks:Am}(h:TyR ys r ks):RlS W ks (WQ (2^W) ρ r []) (W6 W ρ r):=by
 have Z:(0:Int)<2^W:=Qe3 (by decide)
 induction h with
 |nil=>exact .nil
 | @sum w C ks hw _ M=>
  obtain⟨G,I⟩:=M.cut;rw[Qay]at G I;obtain⟨e1,e2,_⟩:=G.ints;rw[X2];have Ua:∀xs,cvV (2^W) ρ w xs=.int (wwv ρ w (xs.map iV)%2^W)/\∀is,rwR W ρ w is=wwv ρ w is%2^W:=by
   intro xs;have no:∀y,w=.str y->y∉Zv->cvV (2^W) ρ w xs=.int (wwv ρ w (xs.map iV)%2^W)/\∀is,rwR W ρ w is=wwv ρ w is%2^W:=by
    rintro y rfl Y;exact⟨Qaw Y,λis=>Qaw Y⟩
   rcases hw with⟨y,rfl,D,_⟩|⟨y,rfl,D,_⟩|⟨z,rfl,_⟩
   .exact no y U (J0 y D)
   .exact no y U λz=>S y D (YE y z)
   .exact⟨U,λ_=>U⟩
  refine .cons ?_ I;have Q:((W6 W ρ C).take (npw w) |>.map V.int).map iV=(W6 W ρ C).take (npw w):=by
   rw[Qa7];exact Qgc (λ_=>U) _
  refine⟨?_,?_⟩
  .rw[(Ua _).1,e1,Q,(Ua []).2]
  .rw[(Ua []).2];exact⟨Qb6 _ (Qfy Z),Qb4 _ Z⟩
 | @clm y C ks D hn _ M=>
  have L:=G3 y D;rw[X2]
  by_cases O:0<qa (.str y)
  .have N:=(qb y D O).1;rw[N,Qgj,Qhm]at M;obtain⟨G,I⟩:=M.cut;rw[Qay]at G I;rw[N,Qhn]at L;rw[<-L]at G I;obtain⟨e1,e2,e3⟩:=G.ints;refine .cons ?_ I;have Q:((W6 W ρ C).take (npw (.str y)) |>.map V.int).map iV=(W6 W ρ C).take (npw (.str y)):=by
    rw[Qa7];exact Qgc (λ_=>U) _
   show(if y∈Zv then _ else _)=V.bl (decide (bt (if y∈Zv then _ else _) (W-1)=1));rw[Qa5 D,Qa5 D,Qa5 O,e1,Q,Zgw hW D O (by rw[e2,L]) e3,Zgu (um _ _) (by lia)]
  .have N:qa (.str y)=0:=by lia
   rw[N,Qgj,Qhm]at M;obtain⟨G,I⟩:=M.cut;rw[Qay]at G I;rw[N,Qd8]at L;rw[<-L]at G I;obtain⟨e1,e2⟩:=G.bls;refine .cons ?_ I;have Q:((W6 W ρ C).take (npw (.str y)) |>.map λx=>V.bl (decide (bt x (W-1)=1))).map bV=((W6 W ρ C).take (npw (.str y))).map λx=>decide (bt x (W-1)=1):=by
    rw[Qa7];rfl
   show(if y∈Zv then _ else _)=V.bl (decide (bt (if y∈Zv then _ else _) (W-1)=1));rw[Qa5 D,Qa5 D,Qaw O,e1,Q,Zgx D O (by rw[e2,L]),Zgu (um _ _) (by lia)]
def jE{ys:Ai}{W:Nat}(D:1<=W)(C:∀y∈ys,y∉Z8)(ρ:Str->Int)(h:TyR ys r [true]):∃o,W6 W ρ r=[o]/\WQ (2^W) ρ r []=[.bl (decide (bt o (W-1)=1))]:=by
 have g:=y3 D C ρ h;generalize WQ _ ρ r []=vs at g;generalize W6 W ρ r=xs at g;cases g with
 |cons h1 h2=>
  cases h2;cases h1;exact⟨_,U,U⟩
def TyR.tail{ys:Ai}{w:V}{ks:Am}(h:TyR ys (w::r) ks):∃C,TyR ys r C:=by
 cases h with
 |sum _ h=>exact⟨_,h⟩
 |clm _ _ h=>exact⟨_,h⟩
theorem TyR.drop{ys:Ai}:∀{D:A8} {ks:Am},TyR ys D ks->∀j,∃C,TyR ys (D.drop j) C
 |[],ks,h,j=>by
  rw[List.drop_nil];exact⟨_,h⟩
 |w::r,ks,h,0=>⟨_,h⟩
 |w::r,ks,h,j+1=>by
  obtain⟨_,h'⟩:=h.tail;exact TyR.drop h' j
theorem ur(m:Int)(ρ:Str->Int):∀C:A8,(WQ m ρ C []).length=gZ C
 |[]=>rfl
 |w::r=>by
  rw[X2,Qaz,Qds,ur m ρ r];rfl
def Zly{st:Aw}{v:V}{l:A8}(h:H st=some (.lst (v::l).reverse)):H st=some (.lst (l.reverse++[v])):=by grind
structure Xj(nm:Ai)(ws:A8):Prop where
 n3:nm.length<=3
 nd:nm.Nodup
 kp:∀y∈nm,y∉Z8
 ln:ws.length<=100
 ty:TyR nm ws [true]
 rm:J2 ws<=15
abbrev otC(nm:Ai)(r:A8):Int×Ak->List V:=otT nm (YT (2^nm.length) nm) r (.bl false) (.bl true)
structure Znc(nm:Ai)(ws:A8)(l:List (Int×Ak))(H:Hp)(m:Aw):Prop where
 b:BfE (nxS nm ws) (0,List.replicate (J2 ws) 0) l
 m:M4 H m nm 0 (rnG (nxS nm ws) l) (l.map (otC nm ws))
def claimC:∀y∈Zv,(y∈allR/\1<=npw (.str y)/\(y∈Zkw->2<=npw (.str y)))\/(y∈Zdv/\y∉allR/\npw (.str y)=Zdt y):=by decide +kernel
theorem Xj.wc{nm:Ai}(S:Xj nm r):∀w∈r,ym nm w:=λw h=>by
 rcases S.ty.facts.1 w h with h|⟨y,rfl,G,D⟩
 .exact ui S.kp h
 .rcases claimC y G with⟨h1,h2,C⟩|⟨h1,h2,C⟩
  .exact .inl ⟨y,U,h1,D,h2,C⟩
  .exact .inr (.inl ⟨y,U,h1,h2,D,C⟩)
theorem Xj.iz{nm:Ai}(S:Xj nm r):∀z:Int,V.int z∈r->0<=z/\z<2^10:=λz h=>by
 rcases S.ty.facts.1 _ h with(⟨y,e,_⟩|⟨y,e,_⟩|⟨D,e,C,h1,_⟩)|⟨y,e,_⟩
 .cases e
 .cases e
 .cases e;exact⟨C,h1⟩
 .cases e
def Xj.big{nm:Ai}(S:Xj nm r):(10+1)*2^J2 r<=1000000:=by
 have:2^J2 r<=2^15:=Qb9 (by decide) S.rm;lia
def Xj.len{nm:Ai}{l:List (Int×Ak)}(S:Xj nm r)(B:BfE (nxS nm r) (0,List.replicate (J2 r) 0) l):l.length<=1000000:=by
 have h:=Zd6 (nx:=nxS nm r) (b:=(0,List.replicate _ 0)) (JR.mpr ⟨0,by lia,U,Xc.mpr ⟨Qay,λx D=>.inl (Qe9 D)⟩⟩) (λs C=>yy S.wc U C) l.length;rw[<-B.e,yw]at h;have h2:=Zeb S.iz;exact Qa1 h (Qa1 (Qey _ (by lia)) S.big)
def Znc.wf{nm:Ai}{l:List (Int×Ak)}{m:Aw}(S:Xj nm r)(M:Znc nm r l H m):Wf nm 0 (rnG (nxS nm r) l) (l.map (otC nm r)) true:=by
 obtain⟨L,N⟩:=Zk6 M.b (Zk4 _ _ _ _);have I:∀C∈l.map (otC nm r),∀v∈C,v=.bl false\/v=.bl true:=λC D v G=>by
  obtain⟨s,_,rfl⟩:=Qap.mp D;obtain⟨c,_,rfl⟩:=Qap.mp G;split
  .exact .inr U
  .exact .inl U
 refine⟨S.n3,by rw[zh];exact Qei M.b.begin.2,by rw[zh];exact S.len M.b,by rw[zh,Qab],L,N,λC D=>?_,λC D v G=>?_,λC D v G=>?_⟩
 .obtain⟨s,_,rfl⟩:=Qap.mp D;exact Zk5 _ _ _ _ _ _
 .rcases I C D v G with e|e<;>rw[e]<;>exact .inl ⟨U,_,U⟩
 .rcases I C D v G with e|e<;>rw[e]
  .exact .inl U
  .exact .inr U
def Zek{nm:Ai}{l:List (Int×Ak)}{m:Aw}{ls:Aj}{W:Nat}(S:Xj nm r)(M:Znc nm r l H m)(G:1<=W)(D:W<=ls.length)(C:∀x∈ls,x<2^nm.length):
  ∃b:Bool,WQ (2^W) (yI (ls.take W) nm) r []=[.bl b]/\(rnO (rnG (nxS nm r) l) (l.map (otC nm r)) 0 ls)[W-1]?=some (.bl b):=by
 obtain⟨o,e1,e2⟩:=jE G S.kp _ S.ty;refine⟨_,e2,?_⟩;have f:=S.ty.facts;rw[Zei S.nd S.kp f.1 f.2.1 D C e1 M.b _ (by lia)];rcases Y9 o _ with z|z<;>rw[z]<;>rfl
def wwv_cg{y:Str}{is:Ak}(h:y∈Wz)(r:is.length=Yz y)(ρ C:Str->Int):wwv ρ (.str y) is=wwv C (.str y) is:=by
 have D:=(by decide +kernel:∀y∈Wz,1<=Yz y) y h
 match is,r with
 |[],r=>rw[<-r]at D;cases D
 |[a],_=>rfl
 |[a,b],_=>rfl
 |a::b::c::_,_=>rfl
def abc:Nat->Str
 |0=> "a"
 |1=> "b"
 |_=> "c"
def Zau(r:List (Ak))(cs:Aj):Prop:=∀(i j:Nat)(a b:Ak),r[i]?=some a->r[j]?=some b->cs[i]?=cs[j]?->a=b
def Zfb(nx:Ad)(r:List (Ak)):Nat->List Nat
 |0=>We r
 |i+1=>We (zd nx (Zfb nx r i))
theorem Zgy{nx:Ad}{r:List (Ak)}{j:Nat}(h:We (zd nx (Zfb nx r i))=Zfb nx r i)(D:i<=j):Zfb nx r j=Zfb nx r i:=by
 obtain⟨d,rfl⟩:∃d,j=i+d:=⟨j-i,by lia⟩
 induction d with
 |zero=>rfl
 |succ d C=>
  show We (zd nx (Zfb nx r (i+d)))=_;rw[C (by lia),h]
def zp:Ak->Nat->List Nat->List Nat
 |[],_,acc=>acc
 |c::r,i,acc=>zp r (i+1) (if c=(acc.length:Int)then acc++[i]else acc)
structure Canon(R:Ad):Prop where
 ord:∀(r p t:Nat)(row:Aj),R[r]?=some row->row[p]?=some t->∀t',t'<t->t'=0\/(∃r' row',r'<r/\R[r']?=some row'/\t'∈row')\/t'∈row.take p
 reach:∀t,0<t->t<R.length->∃r row,r<t/\R[r]?=some row/\t∈row
 lt:∀row∈R,∀s∈row,s<R.length
theorem zq{nx:Ad}{b x:Nat}:∀i,x∈qH nx b i↔x=b\/∃j,j<i/\x∈nx.getD ((qH nx b j).getD j 0) []
 |0=>by
  constructor
  .exact λh=>.inl (Qao.mp h)
  .rintro(h|⟨j,r,_⟩)
   .exact Qao.mpr h
   .exact absurd r (Qer _)
 |i+1=>by
  show x∈Zgn nx _ i↔_;unfold Zgn;rw[yr,zq i];constructor
  .grind
  .grind
def rnR(nx:Ad)(l:Aj):Ad:=l.map λs=>(nx.getD s []).map λx=>l.idxOf x
def rnQ(ot:Az)(l:Aj):Az:=l.map λs=>ot.getD s []
def JS(nx:Ad)(l:Aj):(rnR nx l).length=l.length:=Qab ..
def jA.nodup{nx:Ad}{b:Nat}{l:Aj}(B:jA nx b l):l.Nodup:=by
 rw[B.e];exact ze nx b _
def jA.at{nx:Ad}{b:Nat}{l:Aj}(B:jA nx b l){j:Nat}(r:j<l.length):l[j]?=some ((qH nx b j).getD j 0):=by
 have:=bfs_at r (B.go j r);rw[<-B.e]at this;exact this
def jA.next{nx:Ad}{b:Nat}{l:Aj}(B:jA nx b l){s x:Nat}(hi:l[i]?=some s)(C:x∈nx.getD s []):x∈l:=by
 have r:=(Qaf.mp hi).1;rw[B.at r]at hi;rw[B.e,zq];refine .inr ⟨i,r,?_⟩;rw[Option.some.inj hi];exact C
def jA.zero{nx:Ad}{b:Nat}{l:Aj}(B:jA nx b l):l[0]?=some b:=by
 have:b∈l:=by rw[B.e,zq];exact .inl U
 exact B.at (Qei this)
def jA.pre{nx:Ad}{b:Nat}{l:Aj}(B:jA nx b l){j:Nat}(C:j<=l.length):∃r,l=qH nx b j++r:=by
 obtain⟨r,e⟩:=wF nx b j _;rw[show j+(l.length-j)=l.length by lia,<-B.e]at e;exact⟨r,e⟩
def y4{nx:Ad}{b:Nat}{l:Aj}(B:jA nx b l):Canon (rnR nx l):=by
 have Ua:=B.nodup;have C:∀{r:Nat} {row:Aj},(rnR nx l)[r]?=some row->∃s,l[r]?=some s/\row=(nx.getD s []).map λx=>l.idxOf x:=λ{r row} h=>by
  unfold rnR at h;rw[Qai]at h;obtain⟨s,G,e⟩:=Qa4.mp h;exact⟨s,G,e.symm⟩
 have inRow:∀{j:Nat} {x:Nat},j<l.length->x∈nx.getD ((qH nx b j).getD j 0) []->∃row,(rnR nx l)[j]?=some row/\l.idxOf x∈row:=λ{j x} Z O=>by
  refine⟨_,?_,Qb5 (f:=λx=>l.idxOf x) O⟩;unfold rnR;rw[Qai,B.at Z];rfl
 refine⟨λr p t row hr hp t' ht=>?_,λt h1 h2=>?_,λrow N s G=>?_⟩
 .obtain⟨s,G,rfl⟩:=C hr;have I:=(Qaf.mp G).1;rw[Qai]at hp;obtain⟨x,O,rfl⟩:=Qa4.mp hp;have es:(qH nx b r).getD r 0=s:=by
   have:=B.at I;rw[G]at this;exact(Option.some.inj this).symm
  obtain⟨q,eq⟩:=B.pre (j:=r+1) I;have eb:qH nx b (r+1)=((nx.getD s []).drop (p+1)).foldl Y8 (Y8 (((nx.getD s []).take p).foldl Y8 (qH nx b r)) x):=by
   show Zgn nx (qH nx b r) r=_;unfold Zgn;rw[es];have:=Qc3 (p+1) (nx.getD s [])
   conv=>lhs;rw[<-this]
   rw[Qc2,take_snoc O,Qc2];rfl
  obtain⟨q2,e2⟩:=Jy ((nx.getD s []).drop (p+1)) _;rw[e2]at eb;rw[eb,Qbt]at eq;generalize hL:((nx.getD s []).take p).foldl Y8 (qH nx b r)=L at *;obtain⟨q3,e3⟩:=yd L x;have D:t'<L.length:=by
   have Q:x∈Y8 L x:=X9.mpr (.inr U);have hlt:=Qbg Q;have h3:=xa L x;have h4:l.idxOf x=(Y8 L x).idxOf x:=by rw[eq,xF Q]
   lia
  have hy:l[t']?=some L[t']:=by
   rw[eq,e3,Qbt,Qa6 D,Qac D]
  have M:L[t']∈L:=Qbi D;have S:=XY Ua hy;generalize L[t']=y at *;rw[<-hL]at M;rcases(yr _ _).mp M with h|h
  .rcases(zq r).mp h with h|⟨j,Z,h⟩
   .refine .inl ?_;rw[<-S,h];exact XY Ua B.zero
   .grind
  .refine .inr (.inr ?_);rw[<-Qdv,<-S];exact Qb5 (f:=λx=>l.idxOf x) h
 .rw[JS]at h2;have hg:=B.go t h2;have ha:=B.at h2;have hm:(qH nx b t).getD t 0∈qH nx b t:=by
   rw[Qak,Qac hg];exact Qbi hg
  have hi:=XY Ua ha;rcases(zq t).mp hm with h|⟨j,Z,h⟩
  .rw[h,XY Ua B.zero]at hi;lia
  .grind
 .obtain⟨r,hr⟩:=Qcr.mp N;obtain⟨s',Y,rfl⟩:=C hr;obtain⟨x,O,rfl⟩:=Qap.mp G;rw[JS];exact Qbg (B.next Y O)
structure Zel(cs fs:Aj):Prop where
 at_:∀c f:Nat,fs[c]?=some f->cs[f]?=some c/\∀j d:Nat,j<f->cs[j]?=some d->d<c
 lt:∀j d:Nat,cs[j]?=some d->d<fs.length
theorem uv[DecidableEq g](ks:List g)(i d:Nat)(h:(We ks)[i]?=some d)(c:Nat)(Ua:c<d):∃j,j<i/\(We ks)[j]?=some c:=by
 rw[xb]at h;obtain⟨k,Q,rfl⟩:=Qa4.mp h;obtain⟨r,N⟩:=jx ks _;have e1:Z6 (ks.take (i+1))=Y8 (Z6 (ks.take i)) k:=by rw[take_snoc Q,jw]
 rw[e1]at N;obtain⟨q,Z⟩:=yd (Z6 (ks.take i)) k;have G:k∈Y8 (Z6 (ks.take i)) k:=X9.mpr (.inr U);have L:=Qbg G;have Y:=xa (Z6 (ks.take i)) k;have h4:(Z6 ks).idxOf k=(Y8 (Z6 (ks.take i)) k).idxOf k:=by grind
 have M:(Z6 ks)[c]?=some (Z6 (ks.take i))[c]:=by
  grind
 have S:(Z6 (ks.take i))[c]∈Z6 _:=Qbi (by lia);generalize (Z6 (ks.take i))[c]=y at *;obtain⟨j,C⟩:=Qcr.mp ((Yh _ y).mp S);rw[List.getElem?_take]at C;split at C
 .rename_i D;refine⟨j,D,?_⟩;rw[xb,C];obtain⟨I,O⟩:=Qaf.mp M;show some ((Z6 ks).idxOf y)=_;rw[<-O,List.Nodup.idxOf_getElem (Xz ks) c I]
 .cases C
theorem Zlb(O:We v=v):∀(C pre acc:Aj),v=pre++C->(∀c f:Nat,acc[c]?=some f->pre[f]?=some c/\∀j d:Nat,j<f->pre[j]?=some d->d<c)->(∀j d:Nat,pre[j]?=some d->d<acc.length)->Zel v (zp (C.map λc:Nat=>(c:Int)) pre.length acc):=by
 intro C
 induction C with
 |nil=>
  intro pre acc e h1 h2;rw[Qbv]at e;subst e;exact⟨h1,h2⟩
 |cons x r N=>
  intro pre acc e h1 h2;have Ua:v[pre.length]?=some x:=by
   rw[e,Qax (Qah _),Qdw];rfl
  have Y:x<=acc.length:=by
   rcases Nat.lt_or_ge acc.length x with h|h
   .obtain⟨j,Q,S⟩:=uv v pre.length x (by rw[O];exact Ua) acc.length h;rw[O,e,Qa6 Q]at S;have:=h2 j _ S;lia
   .exact h
  have M:v=(pre++[x])++r:=by rw[e,Qbt];rfl
  have lft:∀{j d:Nat},pre[j]?=some d->(pre++[x])[j]?=some d:=λ{j d} h=>by
   rw[Qa6 (Qaf.mp h).1];exact h
  have D:∀{α:Type} {l:List α} {y z:α} {j:Nat},(l++[y])[j]?=some z->l[j]?=some z\/(j=l.length/\z=y):=λ{α l y z j} h=>by
   grind
  have Z:(pre++[x]).length=pre.length+1:=Qag;show Zel v (zp (r.map λc:Nat=>(c:Int)) (pre.length+1) (if(x:Int)=(acc.length:Int)then acc++[pre.length]else acc));rw[<-Z]
  by_cases I:x=acc.length
  .rw[Qa5 (by rw[I])];refine N _ _ M (λc f L=>?_) λj d G=>?_
   .rcases D L with L|⟨rfl,rfl⟩
    .grind
    .refine⟨by rw[Qax (Qah _),Qdw,I];rfl,λj d Q G=>?_⟩;rcases D G with G|⟨rfl,rfl⟩
     .exact h2 j d G
     .lia
   .grind
  .rw[Qaw (by lia)];refine N _ _ M (λc f L=>?_) λj d G=>?_
   .grind
   .grind
def YU(cs:Aj):Aj:=zp (cs.map λc:Nat=>(c:Int)) 0 []
def xh(r:We v=v):Zel v (YU v):=Zlb r v [] [] U (λc f h=>by cases h) λj d h=>by cases h
theorem vP:∀(cs:Ak)(i:Nat)(acc:Aj),(zp cs i acc).length<=acc.length+cs.length
 |[],_,acc=>Qah _
 |c::r,i,acc=>by
  have:=vP r (i+1) (if c=acc.length then acc++[i]else acc);show(zp r _ _).length<=_;have h2:(if c=acc.length then acc++[i]else acc).length<=acc.length+1:=by
   grind
  rw[Qaz];lia
def vQ(cs:Aj):(YU cs).length<=cs.length:=by
 have:=vP (cs.map λc:Nat=>c) 0 [];unfold YU;simpa using this
def lsR(R:Ad)(cs:Aj):Ad:=(YU cs).map λs=>(R.getD s []).map λx=>cs.getD x 0
def lsO(O:Az)(cs:Aj):Az:=(YU cs).map λs=>O.getD s []
structure Zfc(R:Ad)(cs:Aj):Prop where
 len:cs.length=R.length
 st:We (zd R cs)=cs
def Zfc.nn(S:Zfc R v):We v=v:=by
 have:=xG (zd R v);rw[S.st]at this;exact this
def Zfc.row(S:Zfc R v){j c:Nat}(hi:v[i]?=some c)(r:v[j]?=some c):(R.getD i []).map (λx=>v.getD x 0)=(R.getD j []).map λx=>v.getD x 0:=by
 have:=congrArg Prod.snd ((ye (Gw hi (Qac (by rw[<-S.len];exact(Qaf.mp hi).1))) (Gw r (Qac (by rw[<-S.len];exact(Qaf.mp r).1)))).mp (by rw[S.st,hi,r]));have h2:=congrArg (List.map Int.toNat) this;simp at h2;rw[Qak,Qak,Qac _,Qac _];exact h2
def wJ{l:Aj}{x:Nat}(h:l[i]?=some x):l.getD i 0=x:=by grind
def at_getD{l:Aj}(h:i<l.length):l[i]?=some (l.getD i 0):=by grind
def Zgz(C:Canon R)(S:Zfc R v):Canon (lsR R v):=by
 have F:=xh S.nn;have ll:(lsR R v).length=(YU v).length:=Qab ..;have D:∀{c:Nat} {row:Aj},(lsR R v)[c]?=some row->∃f,(YU v)[c]?=some f/\row=(R.getD f []).map λx=>v.getD x 0:=λ{c row} h=>by
  unfold lsR at h;rw[Qai]at h;obtain⟨s,hs,e⟩:=Qa4.mp h;exact⟨s,hs,e.symm⟩
 have cls:∀{j:Nat},j<R.length->∃c f,v[j]?=some c/\(YU v)[c]?=some f/\(lsR R v)[c]?=some ((R.getD j []).map λx=>v.getD x 0):=λ{j} hj=>by
  obtain⟨c,I⟩:∃c,v[j]?=some c:=⟨_,Qac (by rw[S.len];exact hj)⟩;obtain⟨f,G⟩:∃f,(YU v)[c]?=some f:=⟨_,Qac (F.lt j c I)⟩;refine⟨c,f,I,G,?_⟩;unfold lsR;rw[Qai,G];exact congrArg some (S.row (F.at_ c f G).1 I)
 have Ua:∀{f x:Nat},x∈R.getD f []->x<R.length:=λ{f x} h=>by
  rw[Qak]at h;cases q:R[f]? with
  |none=>rw[q]at h;cases h
  |some row=>rw[q]at h;exact C.lt row (Qat q) x h
 have Z:=λ{x} h=>by
  exact F.lt x _ (at_getD (by rw[S.len];exact h))
 have z0:0<R.length->v.getD 0 0=0:=λh=>by
  obtain⟨c,f,I,G,_⟩:=cls h;obtain⟨f0,L⟩:∃f0,(YU v)[0]?=some f0:=⟨_,Qac (by have:=F.lt 0 c I;lia)⟩;have h0:=F.at_ 0 f0 L
  by_cases e:f0=0
  .rw[e]at h0;exact wJ h0.1
  .have:=h0.2 0 c (by lia) I;lia
 refine⟨λc p t row hr hp t' ht=>?_,λt h1 h2=>?_,λrow Q s hs=>?_⟩
 .obtain⟨f,G,rfl⟩:=D hr;obtain⟨g1,g2⟩:=F.at_ c f G;have M:f<R.length:=by rw[<-S.len];exact(Qaf.mp g1).1
  rw[Qai]at hp;obtain⟨x,hx,rfl⟩:=Qa4.mp hp;have Y:=Ua (Qat hx);have htl:v.getD x 0<(YU v).length:=Z Y;obtain⟨N,hf'⟩:∃N,(YU v)[t']?=some N:=⟨_,Qac (by lia)⟩;obtain⟨k1,k2⟩:=F.at_ t' N hf';have hcx:v[x]?=some (v.getD x 0):=at_getD (by rw[S.len];exact Y);have hfx:N<x:=by
   rcases Nat.lt_trichotomy N x with h|h|h
   .exact h
   .lia
   .have:=k2 x _ h hcx;lia
  have O:R[f]?=some (R.getD f []):=Zis M;rcases C.ord f p x _ O hx N hfx with h|⟨r',row',h3,h4,h5⟩|h
  .grind
  .grind
  .refine .inr (.inr ?_);rw[<-Qdv];exact Qap.mpr ⟨N,h,wJ k1⟩
 .rw[ll]at h2;obtain⟨f,G⟩:∃f,(YU v)[t]?=some f:=⟨_,Qac h2⟩;obtain⟨g1,g2⟩:=F.at_ t f G;have M:f<R.length:=by rw[<-S.len];exact(Qaf.mp g1).1
  have L:0<f:=by
   grind
  obtain⟨r,row,h3,h4,h5⟩:=C.reach f L M;obtain⟨c',f2,q1,q2,q3⟩:=cls (j:=r) (by lia);refine⟨c',_,g2 r c' h3 q1,q3,?_⟩;rw[Qak,h4];exact Qap.mpr ⟨f,h5,wJ g1⟩
 .obtain⟨c,I⟩:=Qcr.mp Q;obtain⟨f,G,rfl⟩:=D I;obtain⟨x,hx,rfl⟩:=Qap.mp hs;rw[ll];exact Z (Ua hx)
def WM.tups{H':Hp}{p:Aw}(R:WM H p Y)(e:∀b xs,H b=some (.tup xs)->H' b=some (.tup xs)):WM H' p Y:=by
 obtain⟨as,h1,h2,D⟩:=R;refine⟨as,e _ _ h1,h2,λi r hi=>?_⟩;obtain⟨a,G,C⟩:=D i r hi;exact⟨a,G,e _ _ C⟩
def M4.tups{H H':Hp}{m:Aw}{nm:Ai}{b:Nat}{nx:Ad}{ot:Az}(M:M4 H m nm b nx ot)(e:∀b xs,H b=some (.tup xs)->H' b=some (.tup xs)):M4 H' m nm b nx ot:=by
 obtain⟨pn,ps,D,h1,h2,C,r⟩:=M.ex;exact⟨⟨pn,ps,D,e _ _ h1,e _ _ h2,C.tups e,r.tups e⟩⟩
def Zlc{t:Aw}{o:HO}(C:hide D H t=none)(G:∀c∈D,upd (hide D H) t o c=none):Z7 H (Wv D H (upd (hide D H) t o))/\Wv D H (upd (hide D H) t o) t=some o:=by
 have m:t∉D:=λm=>by
  have:=G t m;rw[Za]at this;cases this
 refine⟨λb u e=>?_,by rw[Yo m];exact Za⟩
 by_cases r:b∈D
 .rw[WZ r];exact e
 .rw[ZE m]at C;rw[Yo r,Zj (Zm e C),ZE r];exact e
def Zem(ot:Az):List (Ak):=ot.map λr=>r.map λv=>(vB v).getD 0
def Zld{ot:Az}(h:∀r∈ot,∀v∈r,∃x,vB v=some x):ot.map (λr=>r.map vB)=(Zem ot).map (λk=>k.map some):=by
 unfold Zem;rw[Qa7];refine Qbs λr D=>?_;show _=(r.map _).map some;rw[Qa7];refine Qbs λv C=>?_;obtain⟨x,e⟩:=h r D v C;show vB v=some ((vB v).getD 0);rw[e]
 rfl
def jA.lt{nx:Ad}{b:Nat}{l:Aj}(B:jA nx b l)(C:b<nx.length)(r:∀row∈nx,∀s∈row,s<nx.length){s:Nat}(h:s∈l):s<nx.length:=by
 rw[B.e]at h;exact Zd2 C r _ s h
def jA.len{nx:Ad}{b:Nat}{l:Aj}(B:jA nx b l)(D:b<nx.length)(C:∀row∈nx,∀s∈row,s<nx.length):l.length<=nx.length:=by
 have:=(by
    have:=Xq (ze nx b _) λx r=>Qch.mpr (Zd2 D C l.length x r);rw[Qbk]at this;exact this)
 rw[<-B.e]at this;exact this
def Zmz{nm:Ai}{b:Nat}{nx:Ad}{ot:Az}{l:Aj}(W:Wf nm b nx ot j)(B:jA nx b l):Wf nm 0 (rnR nx l) (rnQ ot l) j:=by
 have I:∀s∈l,s<nx.length:=λs h=>B.lt W.b W.nl h;have G:∀r∈rnQ ot l,r∈ot:=λr h=>by
  obtain⟨s,D,rfl⟩:=Qap.mp h;exact getD_mem (by rw[W.ol];exact I s D)
 refine⟨W.n3,?_,?_,?_,λr C=>?_,(y4 B).lt,λr C=>W.or r (G r C),λr C=>W.ok r (G r C),λr C=>W.bit r (G r C)⟩
 .rw[JS];exact(Qaf.mp B.zero).1
 .rw[JS];exact Qa1 (B.len W.b W.nl) W.le
 .rw[JS];exact Qab ..
 .obtain⟨s,D,rfl⟩:=Qap.mp C;rw[Qab];exact W.nr _ (getD_mem (I s D))
def wf_ls{nm:Ai}(W:Wf nm 0 R Y j)(C:Canon R)(S:Zfc R v):Wf nm 0 (lsR R v) (lsO Y v) j:=by
 have F:=xh S.nn;have M:∀f∈YU v,f<R.length:=λf h=>by
  obtain⟨c,N⟩:=Qcr.mp h;rw[<-S.len];exact(Qaf.mp (F.at_ c f N).1).1
 have I:∀r∈lsO Y v,r∈Y:=λr h=>by
  obtain⟨s,G,rfl⟩:=Qap.mp h;exact getD_mem (by rw[W.ol];exact M s G)
 have L:(lsR R v).length=(YU v).length:=Qab ..;refine⟨W.n3,?_,?_,?_,λr D=>?_,(Zgz C S).lt,λr D=>W.or r (I r D),λr D=>W.ok r (I r D),λr D=>W.bit r (I r D)⟩
 .rw[L];exact Qc8 (Qbe _) (F.lt 0 _ (at_getD (by rw[S.len];exact W.b)))
 .rw[L];have:=vQ v;have h2:=W.le;rw[S.len]at this;lia
 .rw[L];exact Qab ..
 .obtain⟨s,G,rfl⟩:=Qap.mp D;rw[Qab];exact W.nr _ (getD_mem (M s G))
theorem Zle{nm:Ai}{b:Nat}{nx:Ad}{ot:Az}(W:Wf nm b nx ot j):ot.map (λr=>r.map vB)=(Zem ot).map (λk=>k.map some):=Zld λr D v C=>by
 rcases W.bit r D v C with h|h
 .exact⟨_,h⟩
 .exact⟨_,h⟩
def Zen(cs:Aj)(s:Nat):(cs.map λc:Nat=>(c:Int)).getD s 0=((cs.getD s 0:Nat):Int):=by grind
structure AlR(nx nx':Ad)(ot ot':Az)(b b':Nat)(A:Nat->Nat->Prop):Prop where
 b:A b b'
 lt:∀s c,A s c->s<nx.length/\c<nx'.length
 fn:∀s c c':Nat,A s c->A s c'->c=c'
 out:∀s c,A s c->ot'.getD c []=ot.getD s []
 next:∀s c p x y:Nat,A s c->(nx.getD s [])[p]?=some x->(nx'.getD c [])[p]?=some y->A x y
def vB_inj{v D:V}(h:j9 j v)(h':j9 j D)(e:(vB v).getD 0=(vB D).getD 0):v=D:=by
 rcases h with⟨C,x,rfl⟩|⟨C,x,rfl⟩<;>rcases h' with⟨r,y,rfl⟩|⟨r,y,rfl⟩
 .cases x<;>cases y
  .rfl
  .cases e
  .cases e
  .rfl
 .rw[C]at r;cases r
 .rw[C]at r;cases r
 .have e:x=y:=e;rw[e]
theorem uw{G:Bool}:∀{r C:A8},(∀v∈r,j9 G v)->(∀v∈C,j9 G v)->r.map (λv=>(vB v).getD 0)=C.map (λv=>(vB v).getD 0)->r=C
 |[],[],_,_,_=>rfl
 |[],_::_,_,_,e=>by cases e
 |_::_,[],_,_,e=>by cases e
 |v::r,I::C,h,h',e=>by
  injection e with e1 e2;rw[vB_inj (h v Qaj) (h' I Qaj) e1,uw (λv D=>h v (Qal _ D)) (λv D=>h' v (Qal _ D)) e2]
def Al(l cs:Aj)(s c:Nat):Prop:=∃i:Nat,l[i]?=some s/\cs[i]?=some c
def al_ok{nm:Ai}{b:Nat}{nx:Ad}{ot:Az}{tr:Bool}{l cs:Aj}(W:Wf nm b nx ot tr)(B:jA nx b l)(S:Zfc (rnR nx l) cs)(hc:Zau (Zem (rnQ ot l)) cs):AlR nx (lsR (rnR nx l) cs) ot (lsO (rnQ ot l) cs) b 0 (Al l cs):=by
 have F:=xh S.nn;have Q:=B.nodup;have C:cs.length=l.length:=by rw[S.len,JS]
 have D:∀{s c:Nat},Al l cs s c->∃i f,l[i]?=some s/\cs[i]?=some c/\(YU cs)[c]?=some f/\cs[f]?=some c:=λ{s c} h=>by
  obtain⟨i,h1,h2⟩:=h;obtain⟨f,Y⟩:∃f,(YU cs)[c]?=some f:=⟨_,Qac (F.lt i c h2)⟩;exact⟨i,f,h1,h2,Y,(F.at_ c f Y).1⟩
 refine⟨⟨0,B.zero,?_⟩,λs c h=>?_,λs c c' h h'=>?_,λs c h=>?_,λs c p x y h hx Z=>?_⟩
 .have Ua:=at_getD (by rw[C];exact(Qaf.mp B.zero).1);rw[Ua];rcases Nat.eq_zero_or_pos (cs.getD 0 0)with h|h
  .rw[h]
  .obtain⟨j,hj,_⟩:=uv cs 0 _ (by rw[S.nn];exact Ua) 0 h;exact absurd hj (Qer _)
 .obtain⟨i,f,h1,h2,I,_⟩:=D h;refine⟨B.lt W.b W.nl (Qat h1),?_⟩;show c<((YU cs).map _).length;rw[Qab];exact(Qaf.mp I).1
 .obtain⟨i,h1,h2⟩:=h;obtain⟨i',N,G⟩:=h';have e2:=XY Q N;rw[<-XY Q h1]at h2;rw[<-e2,h2]at G;exact Option.some.inj G
 .obtain⟨i,f,h1,h2,I,L⟩:=D h;have M:f<l.length:=by rw[<-C];exact(Qaf.mp L).1
  have g:∀{j s':Nat},l[j]?=some s'->(Zem (rnQ ot l))[j]?=some _:=λ{j s'} e=>by
   unfold Zem rnQ;rw[Qa7,Qai,e];rfl
  obtain⟨s',r⟩:∃s',l[f]?=some s':=⟨_,Qac M⟩;have e:=hc f i _ _ (g r) (g h1) (by rw[L,h2]);have O:∀{s:Nat},s∈l->∀v∈ot.getD s [],j9 tr v:=λ{s} h=>W.ok _ (getD_mem (by rw[W.ol];exact B.lt W.b W.nl h));have e2:=uw (O (Qat r)) (O (Qat h1)) e;unfold lsO rnQ;rw[Qak,Qai,I];show(l.map _).getD f []=_;rw[Qak,Qai,r];exact e2
 .obtain⟨i,f,h1,h2,I,L⟩:=D h;have er:(lsR (rnR nx l) cs).getD c []=((rnR nx l).getD f []).map λx=>cs.getD x 0:=by
   unfold lsR;rw[Qak,Qai,I];rfl
  have ei:(rnR nx l).getD i []=(nx.getD s []).map λx=>l.idxOf x:=by
   unfold rnR;rw[Qak,Qai,h1];rfl
  rw[er,S.row L h2,ei,Qa7,Qai,hx]at Z;have hm:=B.next h1 (Qat hx);refine⟨l.idxOf x,(by grind),?_⟩;rw[<-Z];exact at_getD (by rw[C];exact Qbg hm)
structure Bis(nx nx':Ad)(ot ot':Az)(b b':Nat)(A:Nat->Nat->Prop):Prop where
 b:A b b'
 lt:∀s c,A s c->s<nx.length/\c<nx'.length
 out:∀s c,A s c->ot'.getD c []=ot.getD s []
 next:∀s c p x y:Nat,A s c->(nx.getD s [])[p]?=some x->(nx'.getD c [])[p]?=some y->A x y
def AlR.bis{nx r:Ad}{ot:Az}{b b':Nat}{A:Nat->Nat->Prop}(R:AlR nx r ot Y b b' A):Bis nx r ot Y b b' A:=⟨R.b,R.lt,R.out,R.next⟩
structure Lst(nm:Ai)(b:Nat)(nx:Ad)(ot:Az)(tr:Bool)(l cs:Aj):Prop where
 W:Wf nm b nx ot tr
 B:jA nx b l
 e:cs=Zfb (rnR nx l) (Zem (rnQ ot l)) l.length
 S:Zfc (rnR nx l) cs
 C:Zau (Zem (rnQ ot l)) cs
def Lst.al{nm:Ai}{b:Nat}{nx:Ad}{ot:Az}{l:Aj}(L:Lst nm b nx ot j l v):AlR nx (lsR (rnR nx l) v) ot (lsO (rnQ ot l) v) b 0 (Al l v):=al_ok L.W L.B L.S L.C
def Lst.W2{nm:Ai}{b:Nat}{nx:Ad}{ot:Az}{l:Aj}(L:Lst nm b nx ot j l v):Wf nm 0 (lsR (rnR nx l) v) (lsO (rnQ ot l) v) j:=wf_ls (Zmz L.W L.B) (y4 L.B) L.S
def Wf.row{nm:Ai}{b:Nat}{nx:Ad}{ot:Az}(W:Wf nm b nx ot j){s:Nat}(h:s<nx.length):(nx.getD s []).length=2^nm.length:=W.nr _ (getD_mem h)
theorem Zlf{nx:Ad}{b:Nat}{l:Aj}(B:BfE (λs=>nx.getD s []) b l):jA nx b l:=by
 have e:∀i,i<=l.length->qH nx b i=bfN (λs=>nx.getD s []) b i:=by
  intro i
  induction i with
  |zero=>exactλ_=>U
  |succ i C=>
   intro h;obtain⟨s,r⟩:∃s,(bfN _ b i)[i]?=some s:=⟨_,Qac (B.go i (by lia))⟩;show Zgn nx _ i=_;rw[C (by lia),yt r];unfold Zgn;have:(bfN (λs=>nx.getD s []) b i).getD i 0=s:=by grind
   rw[this]
 exact⟨by rw[e _ (Qah _)];exact B.e,λi hi=>by rw[e i (by lia)];exact B.go i hi⟩
theorem Ziz{nx:Ad}{ot:Az}{n:Nat}(R:Runs nx ot n):∀{ls:Aj} {s:Nat},s<nx.length->(∀x∈ls,x<2^n)->stN nx s ls<nx.length
 |[],s,h,_=>h
 |c::ls,s,h,r=>by
  have D:=r c Qaj;have G:=R.nr _ (getD_mem h);exact Ziz (ls:=ls) R (R.nl _ (getD_mem h) _ (Qat (getD_at (by lia)))) λx C=>r x (Qal _ C)
theorem Zeo{nx C:Ad}{ot G:Az}{b b' n:Nat}{A:Nat->Nat->Prop}(M:Bis nx C ot G b b' A)(L:∀r∈nx,r.length=2^n)(D:∀r∈C,r.length=2^n):∀{ls:Aj} {s s':Nat},A s s'->(∀x∈ls,x<2^n)->rnO nx ot s ls=rnO C G s' ls
 |[],_,_,_,_=>rfl
 |c::ls,s,s',h,I=>by
  have S:=I c Qaj;obtain⟨Q,O⟩:=M.lt s s' h;have Y:=L _ (getD_mem Q);have Ua:=D _ (getD_mem O);show _::_=_::_;rw[M.out s s' h,Zeo M L D (M.next s s' c _ _ h (getD_at (by lia)) (getD_at (by lia))) λx N=>I x (Qal _ N)]
def WN(n:Nat)(f:Nat->Nat):Nat:=((List.range n).map f).sum
def Yt(n:Nat)(f:Nat->Nat):WN (n+1) f=WN n f+f n:=by
 unfold WN;rw[Qdf,Qau,Qdn,Qfl,Qdg]
def Yd{f g:Nat->Nat}(h:∀i,i<n->f i=g i):WN n f=WN n g:=by
 unfold WN;rw[Qbs λi hi=>h i (Qch.mp hi)]
theorem zr(n:Nat)(f g:Nat->Nat):WN n (λi=>f i+g i)=WN n f+WN n g:=by
 induction n with
 |zero=>rfl
 |succ n r=>rw[Yt,Yt,Yt];lia
theorem vR(n:Nat):WN n (λ_=>0)=0:=by
 induction n with
 |zero=>rfl
 |succ n r=>rw[Yt,r]
theorem vS(n m:Nat)(f:Nat->Nat->Nat):WN n (λi=>WN m (f i))=WN m λj=>WN n λi=>f i j:=by
 induction n with
 |zero=>exact(vR m).symm
 |succ n r=>
  rw[Yt,r,<-zr];exact Yd λj _=>(Yt n _).symm
theorem ux(a b:Nat)(f:Nat->Nat):WN (a+b) f=WN a f+WN b λi=>f (a+i):=by
 induction b with
 |zero=>rfl
 |succ b r=>rw[<-Qgb,Yt,Yt,r,Qgb]
def SQ(n:Nat):Nat->(Aj->Nat)->Nat
 |0,g=>g []
 |W+1,g=>SQ n W λls=>WN n λl=>g (ls++[l])
theorem XB{n:Nat}:∀{W:Nat} {g h:Aj->Nat},(∀ls,ls.length=W->(∀x∈ls,x<n)->g ls=h ls)->SQ n W g=SQ n W h
 |0,g,h,e=>e [] U (λ_ z=>nomatch z)
 |W+1,g,h,e=>XB (W:=W) λls h1 h2=>Yd λl C=>e _ (by grind) λx r=>by
   grind
theorem Zm0:∀{W:Nat} {g:Aj->Nat},(∀ls,g ls<=1)->SQ n W g<=n^W:=by
 have go:∀(W:Nat)(g:Aj->Nat)(c:Nat),(∀ls,g ls<=c)->SQ n W g<=c*n^W:=by
  intro W
  induction W with
  |zero=>intro g c h;rw[Nat.pow_zero,Qg5];exact h []
  |succ W r=>
   intro g c h;have:=r _ _ λls=>by
    have:∀m,WN m (λl=>g (ls++[l]))<=c*m:=λm=>by
     induction m with
     |zero=>exact Qbe _
     |succ m r=>rw[Yt];exact Nat.add_le_add r (h _)
    exact this n
   rw[Qfa,Qho _ n,<-Nat.mul_assoc];exact this
 intro W g h;have:=go W g 1 h
 rwa [Nat.one_mul]at this
def adB(m:Nat):Nat->List Nat->List Nat
 |_,[]=>[]
 |l,v::vs=>(v+l%2*m)::adB m (l/2) vs
theorem Zep(m:Nat):∀(l:Nat)(vs:Aj),(adB m l vs).length=vs.length
 |_,[]=>rfl
 |l,_::vs=>congrArg Nat.succ (Zep m _ vs)
theorem y6(m w:Nat):∀(l:Nat)(vs:Aj),adB m l (vs++[w])=adB m l vs++[w+l/2^vs.length%2*m]
 |l,[]=>by show[w+l%2*m]=[w+l/2^0%2*m];rw[Nat.div_one]
 |l,v::vs=>by
  show(v+l%2*m)::adB m _ (vs++[w])=(v+l%2*m)::(adB m _ vs++[w+l/2^(vs.length+1)%2*m]);rw[y6 m w _ vs,Nat.div_div_eq_div_mul,show 2*2^vs.length=2^(vs.length+1) by rw[Qfa,Qho]]
theorem Zeq(m:Nat):∀(l c:Nat)(vs:Aj),adB m (l+2^vs.length*c) vs=adB m l vs
 |_,_,[]=>rfl
 |l,c,v::vs=>by
  have e:l+2^(vs.length+1)*c=l+2*(2^vs.length*c):=by grind
  show(v+(l+2^(vs.length+1)*c)%2*m)::adB m ((l+2^(vs.length+1)*c)/2) vs=(v+l%2*m)::adB m _ vs;rw[e,show(l+2*(2^vs.length*c))%2=l%2 by lia,show(l+2*(2^vs.length*c))/2=l/2+2^vs.length*c by lia,Zeq m _ c vs]
theorem uy(m:Nat):∀(k:Nat)(g:Aj->Nat),SQ m k (λvs=>WN (2^k) λl=>g (adB m l vs))=SQ (m+m) k g
 |0,g=>by show WN _ _=g [];rw[Yt];exact Qd8 _
 |k+1,g=>by
  have e:SQ m (k+1) (λvs=>WN (2^(k+1)) λl=>g (adB m l vs))=SQ m k λvs=>WN (2^k) λl=>WN (m+m) λw=>g (adB m l vs++[w]):=by
   show SQ m k _=_;refine XB λvs r _=>?_;have e1:∀w,(WN (2^(k+1)) λl=>g (adB m l _))=(WN _ λl=>g (adB m l vs++[w]))+WN _ λl=>g (adB m l vs++[m+w]):=λw=>by
    rw[Qfa,Nat.mul_two,ux];congr 1
    .refine Yd λl h=>?_
     rw[y6,r,Nat.div_eq_of_lt h,Qgr,Qhn]
    .refine Yd λl h=>?_
     have h1:=Zeq m l 1 vs;rw[Qg5,r]at h1;rw[y6,r,Qfb _ l,h1,Nat.add_div_right _ (Nat.two_pow_pos k),Nat.div_eq_of_lt h,Qfb m w];rw[Nat.one_mul]
   rw[Yd λw _=>e1 w,zr,vS,vS m _ _,<-zr];exact Yd λl _=>(ux m m _).symm
  rw[e];exact uy m k λvs=>WN _ λw=>g (vs++[w])
theorem Zi0:∀(k:Nat)(g:Aj->Nat),SQ 1 k g=g (List.replicate k 0)
 |0,_=>rfl
 |k+1,g=>by
  show SQ 1 k _=_;rw[Zi0 k,Qf7,Yt];exact Qd8 _
def trnA(k:Nat)(ls:Aj):Aj×Nat:=ls.foldl (λp l=>(adB p.2 l p.1,p.2+p.2)) (List.replicate k 0,1)
def trn(k:Nat)(ls:Aj):Aj:=(trnA k ls).1
theorem Zg0(k:Nat)(ls:Aj):(trnA k ls).2=2^ls.length:=by
 have go:∀(ls:Aj)(p:Aj×Nat),(ls.foldl (λp l=>(adB p.2 l p.1,p.2+p.2)) p).2=p.2*2^ls.length:=by
  intro ls
  induction ls with
  |nil=>intro p;exact(Qg5 _).symm
  |cons l ls r=>
   intro p;rw[Qde,r];show(p.2+p.2)*2^ls.length=p.2*2^(ls.length+1);rw[Qfa,<-Nat.mul_two,Nat.mul_assoc,Qho 2]
 have:=go ls (List.replicate k 0,1);rw[Nat.one_mul]at this;exact this
def uz(k:Nat)(ls:Aj)(l:Nat):trn k (ls++[l])=adB (2^ls.length) l (trn k ls):=by
 unfold trn;rw[<-Zg0 k ls];unfold trnA;rw[Qc2];rfl
theorem Zlg(k:Nat)(ls:Aj):(trn k ls).length=k:=by
 have go:∀(ls:Aj)(p:Aj×Nat),(ls.foldl (λp l=>(adB p.2 l p.1,p.2+p.2)) p).1.length=p.1.length:=by
  intro ls
  induction ls with
  |nil=>intro p;rfl
  |cons l ls r=>
   intro p;rw[Qde,r];exact Zep _ _ _
 have:=go ls (List.replicate k 0,1);rw[Qay]at this;exact this
theorem y7:∀(k W:Nat)(g:Aj->Nat),SQ (2^k) W (λls=>g (trn k ls))=SQ (2^W) k g
 |k,0,g=>(Zi0 k g).symm
 |k,W+1,g=>by
  have e:SQ (2^k) (W+1) (λls=>g (trn k ls))=SQ (2^k) W λls=>(λvs=>WN (2^k) λl=>g (adB (2^W) l vs)) (trn k ls):=by
   refine XB λls r _=>Yd λl _=>?_;show g _=_;rw[uz,r]
  rw[e,y7 k W λvs=>WN _ λl=>g (adB _ l vs),uy,Qfa,Nat.mul_two]
def chs(m:Nat):Nat->List (Aj)
 |0=>[[]]
 |k+1=>(chs m k).flatMap λvs=>(List.range m).map λw=>vs++[w]
theorem Zer(m:Nat):∀(k:Nat)(g:Aj->Nat),((chs m k).map g).sum=SQ m k g
 |0,g=>Qhn _
 |k+1,g=>by
  have go:∀l:List _,((l.flatMap λvs=>(List.range m).map λw=>vs++[w]).map g).sum=(l.map λvs=>WN m λw=>g (vs++[w])).sum:=by
   intro l
   induction l with
   |nil=>rfl
   |cons v l r=>
    rw[Qd6,Qau,Qdn];congr 1;rw[Qa7];rfl
  exact(go _).trans (Zer m k _)
theorem wK(m k:Nat):(chs m k).length=m^k:=by
 induction k with
 |zero=>rfl
 |succ k r=>
  have go:∀l:List _,(l.flatMap λvs=>(List.range m).map λw=>vs++[w]).length=l.length*m:=by
   intro l
   induction l with
   |nil=>exact(Qgr _).symm
   |cons v l r=>rw[Qd6,Qag,r,Qab,Qbk,Qaz,Qgs,Qfb]
  show((chs m k).flatMap _).length=_;rw[go,r,Qfa]
theorem Zes{m k:Nat}{vs:Aj}(h:vs∈chs m k):vs.length=k/\∀x∈vs,x<m:=by
 induction k generalizing vs with
 |zero=>
  have:=Qao.mp h;subst this;exact⟨U,λ_ z=>nomatch z⟩
 |succ k D=>
  obtain⟨G,h1,h2⟩:=Qhc.mp h;obtain⟨w,I,rfl⟩:=Qap.mp h2;obtain⟨L,C⟩:=D h1;refine⟨by grind,λx r=>?_⟩;rcases Qbl.mp r with z|z
  .exact C x z
  .grind
def wsum(kvs:List (Nat×Nat))(F:Nat->Nat):Nat:=(kvs.map λq=>q.2*F q.1).sum
def addW:List (Nat×Nat)->Nat->Nat->List (Nat×Nat)
 |[],s,t=>[(s,t)]
 |q::r,s,t=>if q.1=s then(q.1,q.2+t)::r else q::addW r s t
theorem uA(F:Nat->Nat)(s t:Nat):∀kvs:List (Nat×Nat),wsum (addW kvs s t) F=wsum kvs F+t*F s
 |[]=>by show t*F s+0=0+t*F s;lia
 |q::r=>by
  unfold addW;split
  .rename_i h;show(q.2+t)*F q.1+wsum r F=q.2*F q.1+wsum r F+t*F s;lia
  .show q.2*F q.1+wsum _ F=q.2*F q.1+wsum r F+t*F s;rw[uA F s t r];lia
theorem zt{s t x:Nat}:∀{kvs:List (Nat×Nat)},x∈(addW kvs s t).map (·.1)->x∈kvs.map (·.1)\/x=s
 |[],h=>.inr (Qao.mp h)
 |q::r,h=>by
  unfold addW at h;split at h
  .exact .inl h
  .rcases Qas.mp h with z|z
   .exact .inl (Qas.mpr (.inl z))
   .rcases zt z with z|z
    .exact .inl (Qal _ z)
    .exact .inr z
theorem Zet{s t:Nat}:∀{kvs:List (Nat×Nat)},(kvs.map (·.1)).Nodup->((addW kvs s t).map (·.1)).Nodup
 |[],_=>Qa9.mpr ⟨(λz=>nomatch z),Qbu⟩
 |q::r,h=>by
  have h':=Qa9.mp h;unfold addW;split
  .exact h
  .rename_i C;refine Qa9.mpr ⟨λz=>?_,Zet h'.2⟩;rcases zt z with z|z
   .exact h'.1 z
   .exact C z
def dW(kvs:List (Nat×Nat)):A0:=kvs.map λq=>(.inl (q.1:Int),.int (q.2:Int))
def Zm1:List (Nat×Nat)->Nat->Nat
 |[],_=>0
 |q::r,s=>if q.1=s then q.2 else Zm1 r s
theorem Zi1(s:Nat):∀kvs:List (Nat×Nat),(Yc (dW kvs) (.inl (s:Int))).getD (.int 0)=.int (Zm1 kvs s:Int)
 |[]=>rfl
 |q::r=>by
  unfold Zm1;show(Yc ((Sum.inl _,V.int _)::dW r) _).getD _=_
  by_cases h:q.1=s
  .rw[Qa5 h,ZU (by grind)];rfl
  .rw[Qaw h,ZP (λz=>h (Int.ofNat.inj (Sum.inl.inj z)))];exact Zi1 s r
theorem Zi2{s t:Nat}:∀{kvs:List (Nat×Nat)},(kvs.map (·.1)).Nodup->putK (dW kvs) (.inl (s:Int)) (.int ((Zm1 kvs s+t:Nat):Int))=dW (addW kvs s t)
 |[],_=>by show[((Sum.inl _),V.int ((0+t:Nat)))]=_;rw[Qd8];rfl
 |q::r,h=>by
  have L:∀v,s∉r.map _->(dW r).map (λC=>if C.1=(Sum.inl s:Key)then(C.1,v)else C)=dW r:=λv G=>by
   refine(Qbs λC D=>?_).trans (Qhs _);obtain⟨x,I,rfl⟩:=Qap.mp D;exact Qaw λz=>G (Qap.mpr ⟨x,I,Int.ofNat.inj (Sum.inl.inj z)⟩)
  unfold Zm1 addW
  by_cases e:q.1=s
  .rw[Qa5 e,Qa5 e];show(if(List.any (((Sum.inl _),V.int _)::dW r) _)=true then _ else _)=_;rw[Qa5 (by grind)];show(if(Sum.inl _)=Sum.inl _ then _ else _)::_=_;rw[Qa5 (by rw[e])];exact congrArg _ (L _ (by grind))
  .rw[Qaw e,Qaw e];have ne:(Sum.inl q.1:Key)≠Sum.inl (s:Int):=λz=>e (Int.ofNat.inj (Sum.inl.inj z));show(if(List.any (((Sum.inl _),V.int _)::dW r) _)=true then _ else _)=((Sum.inl _),V.int _)::dW _;rw[<-Zi2 (Qa9.mp h).2,Qet,Qan ne,Bool.false_or];show _=_::(if((dW r).any _)=true then _ else _)
   split
   .show(if(Sum.inl _)=Sum.inl _ then _ else _)::_=_;rw[Qaw ne];rfl
   .rfl
def uB(kvs:List (Nat×Nat)):(dW kvs).length=kvs.length:=Qab ..
theorem Zeu:∀{n:Nat} {l:Aj},l.Nodup->(∀x∈l,x<n)->l.length<=n
 |0,[],_,_=>Qah _
 |0,x::_,_,h=>absurd (h x Qaj) (Qer _)
 |n+1,l,r,h=>by
  have h1:=Zeu (n:=n) (l:=l.erase n) (r.erase _) λx C=>by
   grind
  have h2:=List.length_erase (a:=n) (l:=l);split at h2<;>lia
theorem Zi3(m:Nat):∀(l:Nat)(vs:Aj)(j:Nat),j<vs.length->(adB m l vs).getD j 0=vs.getD j 0+l/2^j%2*m
 |l,v::vs,0,_=>by show v+l%2*m=v+l/2^0%2*m;rw[Nat.div_one]
 |l,v::vs,j+1,h=>by
  show(adB m _ vs).getD j 0=vs.getD j 0+l/2^(j+1)%2*m;rw[Zi3 m _ vs j (Nat.lt_of_succ_lt_succ h),Nat.div_div_eq_div_mul,Qfa,Qho 2]
theorem trn_at{k j:Nat}(D:j<k)(ls:Aj):(((trn k ls).getD j 0:Nat):Int)=sm (λi=>bt ((ls.getD i 0:Nat):Int) j) ls.length:=by
 have go:∀C:Aj,(((trn k C.reverse).getD j 0))=sm (λi=>bt ((C.reverse.getD i 0)) j) C.reverse.length:=by
  intro C
  induction C with
  |nil=>
   show(((List.replicate k 0).getD j 0:Nat):Int)=0;rw[Qak,List.getElem?_replicate];split<;>rfl
  |cons r C G=>
   rw[Qcn,uz,Zi3 _ _ _ _ (by rw[Zlg];exact D),Qgk,G,Qag];show _=sm _ _+bt _ j*2^C.reverse.length;congr 1
   .exact uc λi hi=>by grind
   .rw[Qak,Qax (Qah _),Qdw];rfl
 have:=go ls.reverse
 rwa [Qf8]at this
def kF(nm:Ai)(vs:Aj)(y:Str):Int:=((vs.getD (nm.idxOf y) 0:Nat):Int)
def y8{nm:Ai}{y:Str}(h:y∈nm)(ls:Aj):yI ls nm y=kF nm (trn nm.length ls) y:=(trn_at (Qbg h) ls).symm
def cv_cg{ys:Ai}{m:Int}{ρ r:Str->Int}(e:∀y∈ys,ρ y=r y){w:V}(hw:vA ys 10 w){xs:A8}(G:xs.length=npw w):cvV m ρ w xs=cvV m r w xs:=by
 have key:wwv ρ w (xs.map iV)=wwv r w (xs.map iV):=by
  rcases hw with⟨y,rfl,C,_,D⟩|⟨y,rfl,C,_,D⟩|⟨z,rfl,_,_,_⟩
  .exact wwv_cg C (by grind) ρ r
  .rw[D]at G
   match xs,G with
   |[],_=>exact e y C
  .rfl
 unfold cvV;split
 .rw[key]
 .rw[key]
theorem Zev{ys:Ai}{m:Int}{ρ D:Str->Int}(e:∀y∈ys,ρ y=D y){ks:Am}(h:TyR ys r ks):WQ m ρ r []=WQ m D r []:=by
 induction h with
 |nil=>rfl
 | @sum w C ks hw L G=>
  rw[X2,X2,G,cv_cg e hw];have:=L.facts.2.2;rw[Qbp,ur,this,Qag,Qay];lia
 | @clm y C ks I M _ G=>
  rw[X2,X2,G];congr 1;unfold cvV;try dsimp only
  rw[Qa5 I,Qa5 I]
def Zav{nm:Ai}{nx:Ad}{ot:Az}{W:Nat}(S:Xj nm r)
  (C:∀ls:Aj,ls.length=W->(∀x∈ls,x<2^nm.length)->∃b:Bool,WQ (2^W) (yI ls nm) r []=[.bl b]/\(rnO nx ot 0 ls)[W-1]?=some (.bl b)):
  SQ (2^nm.length) W (λls=>if(rnO nx ot 0 ls)[W-1]?=some (.bl true)then 1 else 0)=SQ (2^W) nm.length λvs=>if WQ (2^W) (kF nm vs) r []=[.bl true]then 1 else 0:=by
 rw[<-y7 _ W];refine XB λls D I=>?_;obtain⟨b,e1,e2⟩:=C ls D I;rw[e2,<-Zev (λy G=>y8 G ls) S.ty,e1];cases b
 .grind
 .rw[Qa5 U,Qa5 U]
structure Zaw(nx:Ad)(n i:Nat)(kvs:List (Nat×Nat)):Prop where
 sum:∀F,wsum kvs F=SQ n i λls=>F (stN nx 0 ls)
 nd:(kvs.map (·.1)).Nodup
 lt:∀q∈kvs,q.1<nx.length
def Zaw.one{nx:Ad}(h:0<nx.length):Zaw nx n 0 [(0,1)]:=by
 refine⟨λF=>?_,Qa9.mpr ⟨(λz=>nomatch z),Qbu⟩,λq r=>?_⟩
 .show 1*F 0+0=F 0;lia
 .grind
def Zaw.len{nx:Ad}{kvs:List (Nat×Nat)}(h:Zaw nx n i kvs):kvs.length<=nx.length:=by
 have:=Zeu h.nd λx r=>by
  obtain⟨q,C,rfl⟩:=Qap.mp r;exact h.lt q C
 rwa [Qab]at this
theorem uC{F:Nat->Nat}:∀{kvs:List (Nat×Nat)} {q:Nat×Nat},q∈kvs->q.2*F q.1<=wsum kvs F
 |p::r,q,h=>by
  rcases Qas.mp h with rfl|h
  .exact Qef _ _
  .exact Qa1 (uC h) (Nat.le_add_left _ _)
def Zaw.le{nx:Ad}{kvs:List (Nat×Nat)}(h:Zaw nx n i kvs){q:Nat×Nat}(r:q∈kvs):q.2<=n^i:=by
 have h1:=uC (F:=λ_=>1) r;rw[h.sum,Qg5]at h1;exact Qa1 h1 (Zm0 λ_=>Qah _)
def WO(ot:Az)(s:Nat):Nat:=(ot.getD s []).countP λz=>eqV z (.bl true)
def y9{r:List g}{d:g}(h:r.length=n)(F:g->Nat):WN n (λl=>F (r.getD l d))=(r.map F).sum:=by
 unfold WN;congr 1;refine List.ext_getElem? λi=>?_
 by_cases hi:i<n
 .grind
 .grind
theorem Zg1{ot:Az}{s:Nat}(h:(ot.getD s []).length=n)(C:∀v∈ot.getD s [],∃b:Bool,v=.bl b):WO ot s=WN n λl=>if(ot.getD s []).getD l .non=.bl true then 1 else 0:=by
 rw[y9 h λv=>if v=.bl true then 1 else 0];unfold WO;generalize ot.getD s []=r at C;clear h
 induction r with
 |nil=>rfl
 |cons v r G=>
  rw[Qhb,G λx D=>C x (Qal _ D),Qfb];obtain⟨b,rfl⟩:=C v Qaj;cases b<;>rfl
def Zaw.count{nx:Ad}{ot:Az}{kvs:List (Nat×Nat)}(h:Zaw nx n i kvs)(C:∀s,s<nx.length->(ot.getD s []).length=n/\∀v∈ot.getD s [],∃b:Bool,v=.bl b)(hst:∀ls:Aj,(∀x∈ls,x<n)->stN nx 0 ls<nx.length):
  wsum kvs (WO ot)=SQ n (i+1) λls=>if(rnO nx ot 0 ls)[i]?=some (.bl true)then 1 else 0:=by
 rw[h.sum];refine XB λls r D=>?_;obtain⟨h1,h2⟩:=C _ (hst ls D);rw[Zg1 h1 h2];refine Yd λl _=>?_;show _=if(rnO nx ot 0 _)[i]?=some _ then 1 else 0;rw[uj,Qax (by rw[wH,r];exact Qah _),wH,r,Qdw];show _=if some _=some _ then 1 else 0
 by_cases e:(ot.getD (stN nx 0 ls) []).getD l .non=.bl true
 .rw[Qa5 e,Qa5 (by rw[e])]
 .grind
def Zaw.next{nx:Ad}{kvs r:List (Nat×Nat)}(h:Zaw nx n i kvs)(C:∀s,s<nx.length->(nx.getD s []).length=n)(hst:∀ls:Aj,(∀x∈ls,x<n)->stN nx 0 ls<nx.length)
  (e:∀F,wsum r F=wsum kvs λs=>((nx.getD s []).map F).sum) (D:(r.map (·.1)).Nodup) (lt:∀q∈r,q.1<nx.length):Zaw nx n (i+1) r:=by
 refine⟨λF=>?_,D,lt⟩;rw[e,h.sum];refine XB λls I G=>?_;rw[<-y9 (C _ (hst ls G)) F];exact Yd λl _=>by
  show _=F _;rw[yz]
def NmC(C:A8)(r:Ai):Prop:=r.Perm (Wn ((C.filter nmB).map Ze9))/\PyProof.Rows.sortedS r=true
def wL(r pl:Aw)(H H':Hp):Prop:=∀b o,H b=some o->b≠r->b≠pl->H' b=some o
def Tells(C:A8)(r:Ai)(nx:Ad)(ot:Az):Prop:=∀(W:Nat)(ls:Aj),1<=W->ls.length=W->(∀x∈ls,x<2^r.length)->∃b:Bool,WQ (2^W) (yI ls r) C []=[.bl b]/\(rnO nx ot 0 ls)[W-1]?=some (.bl b)
def SmL(f:Aw)(H H':Hp):Prop:=∀b o,b≠f->H b=some o->H' b=some o
def G4{y:Str}(h:y∉Z8):npw (.str y)=0:=by
 rw[<-Zgh];show(List.replicate (JQ T1 (.inr y)+JQ T2 (.inr y)).toNat false++List.replicate (JQ T3 (.inr y)).toNat true).length=0;rw[xU λz=>h (yk.1 y z),xU λz=>h (yk.2.1 y z),xU λz=>h (yk.2.2 y z)];rfl
def jW:Ai:=["same","under","beneath","sign","nought"]
def lpS(y:Str):Am:=
 if y∈(["both","either","so"]:Ai)then[true,true]else if y = "never" then[true]else if y∈(["same","under","beneath","and","or","odd","add","sub"]:Ai)then[false,false]
 else if y∈(["sign","nought","not","neg","twice","low"]:Ai)then[false]else if y = "pick" then[false,false,false]else[]
def lpW:V->List Bool
 |.str y=>lpS y
 |_=>[]
def G5:∀y∈Zv,lpS y=List.replicate (qa (.str y)) false++List.replicate (kE (.str y)) true:=by decide +kernel
def zu:∀y∈Wz,lpS y=List.replicate (Yz y) false/\npw (.str y)=Yz y:=by decide +kernel
def wM:∀y∈Z8,(lpS y).reverse=lpS y/\(lpS y).length<=3:=by decide +kernel
def Zew{y:Str}(h:y∉Z8):lpS y=[]:=by
 have D:∀y∈(["both","either","so"]:Ai),y∈Z8:=by decide +kernel
 have C:∀y∈(["same","under","beneath","and","or","odd","add","sub"]:Ai),y∈Z8:=by decide +kernel
 have r:∀y∈(["sign","nought","not","neg","twice","low"]:Ai),y∈Z8:=by decide +kernel
 unfold lpS;rw[Qaw (λz=>h (D y z)),Qaw (λz=>h (by rw[z];decide +kernel)),Qaw (λz=>h (C y z)),Qaw (λz=>h (r y z)),Qaw (λz=>h (by rw[z];decide +kernel))]
def Zex(w:V):(lpW w).reverse=lpW w/\(lpW w).length<=3:=by
 cases w with
 |str y=>
  by_cases h:y∈Z8
  .exact wM y h
  .show(lpS y).reverse=lpS y/\(lpS y).length<=3;rw[Zew h];exact⟨U,by decide⟩
 |_=>exact⟨U,Qbe _⟩
def Zlh:∀y∈Zv,y∈allR->y∈jW:=by decide +kernel
def Zli:∀y∈Wz,y∈allR->y∈za:=by decide +kernel
def yA:∀y∈allR,y∈Z8:=by decide +kernel
theorem TyR.re{ys:Ai}{ks:Am}(h:TyR ys r ks)(L:∀y∈ys,V.str y∈r->y∈N)(O:∀y∈N,y∉Z8):TyR N r ks:=by
 induction h with
 |nil=>exact .nil
 | @sum w D ks hw _ G=>
  refine .sum ?_ (G λy C I=>L y C (Qal _ I));rcases hw with⟨y,rfl,h1,_,M⟩|⟨y,rfl,h1,h2,M⟩|h
  .exact .inl ⟨y,U,h1,λz=>O y z (xc y h1),M⟩
  .exact .inr (.inl ⟨y,U,L y h1 Qaj,h2,M⟩)
  .exact .inr (.inr h)
 | @clm y D ks C _ _ G=>exact .clm C (λz=>O y z (YE y C)) (G λy C I=>L y C (Qal _ I))
def Zg2(y:Str)(l:Ai):Int:=if y∈l then 1 else 0
structure Wds(M:Nat)(B:Int)(nm:Ai)(ws:A8)(ks:Am)(l0 l1:Int):Prop where
 ty:∀rest,TyR nm rest ks->TyR nm (ws++rest) [true]
 rm:(J2 ws:Int)+l0+l1<=B
 ln:ws.length+ks.length<=M
def G6(r:A8)(w:V):J2 (r++[w])=J2 r+if inV w (allR.map V.str)=true then 1 else 0:=by
 unfold J2;rw[Qdt,Qag];congr 1;rw[Qcl];split<;>rfl
def Wds.clm{M:Nat}{B:Int}{nm:Ai}{D:A8}{ks:Am}{G I r:Int}{y:Str}(W:Wds M B nm D (true::ks) G I)(O:∀y∈nm,y∉Z8)(C:y∈Zv)(Q:((lpS y).length:Int)<=(M:Int)-D.length-(true::ks).length)(N:r+Zg2 y jW=I):Wds M B nm (D++[.str y]) (lpS y++ks) G r:=by
 refine⟨λrest L=>?_,?_,?_⟩
 .rw[Qbt];refine W.ty _ (.clm C (λz=>O y z (YE y C)) ?_);rw[G5 y C,Qbt]at L;exact L
 .rw[G6,ZC];have:=W.rm;unfold Zg2 at N
  by_cases h:y∈allR
  .rw[Qa5 (Zlh y C h)]at N;lia
  .grind
 .grind
def Wds.sum{M:Nat}{B:Int}{nm:Ai}{D:A8}{ks:Am}{I Ua r:Int}{w:V}(W:Wds M B nm D (false::ks) I Ua)(O:∀y∈nm,y∉Z8)
  (hw:(∃y,w=.str y/\y∈Wz/\((lpS y).length:Int)<=(M:Int)-D.length-(false::ks).length/\r+Zg2 y za=I)\/(∃y,w=.str y/\y∈nm/\r=I)\/∃z:Int,w=.int z/\0<=z/\z<1000/\r=I):Wds M B nm (D++[w]) (lpW w++ks) r Ua:=by
 have hs:=W.rm;have hl:=W.ln;rw[Qaz]at hl;have go:∀{w:V},vA nm 10 w->lpW w=List.replicate (npw w) false->∀rest,TyR nm rest (lpW w++ks)->TyR nm (D++[w]++rest) [true]:=λhw e rest N=>by
  rw[Qbt];rw[e]at N;exact W.ty _ (.sum hw N)
 have L:∀{w:V},(lpW w).length+D.length+ks.length+1<=M->(D++[w]).length+(lpW w++ks).length<=M:=λ{w} h=>by
  grind
 rcases hw with⟨y,rfl,C,hr,Q⟩|⟨y,rfl,C,rfl⟩|⟨z,rfl,z0,z1,rfl⟩
 .have h2:=zu y C;refine⟨go (.inl ⟨y,U,C,λz=>O y z (xc y C),h2.2⟩) (by rw[h2.2];exact h2.1),?_,L (by show(lpS y).length+_+_+1<=M;rw[Qaz]at hr;lia)⟩;rw[G6,ZC];unfold Zg2 at Q
  by_cases h:y∈allR
  .rw[Qa5 (Zli y C h)]at Q;lia
  .grind
 .have G:=O y C;have Z:∀y∈za,y∈Z8:=by decide +kernel
  have Y:lpW (.str y)=[]:=Zew G;refine⟨go (.inr (.inl ⟨y,U,C,λz=>G (Z y z),G4 G⟩)) (by rw[G4 G,Y];rfl),?_,L (by rw[Y];show 0+_+_+1<=M;lia)⟩;rw[G6,ZC,Qaw (λz=>G (yA y (Qbb z)))];lia
 .have S:npw (.int z)=0:=by
   show(List.replicate (JQ T1 (.inl z)+JQ T2 (.inl z)).toNat false++List.replicate (JQ T3 (.inl z)).toNat true).length=0;rfl
  refine⟨go (.inr (.inr ⟨z,U,z0,Int.lt_trans z1 (by decide),S⟩)) (by rw[S];rfl),?_,L (by show 0+_+_+1<=M;lia)⟩;rw[G6,wx];lia
def kvC(nm:Ai)(vs:Aj):A0:=(nm.zip vs).map λp=>(.inr p.1,.int (p.2:Int))
def W7(H:Hp)(p:Aw)(nm:Ai)(L:Ad):Prop:=∃ds:List Aw,H p=some (.lst (ds.map V.ref))/\ds.length=L.length/\∀(i:Nat)(d:Aw)(v:Aj),ds[i]?=some d->L[i]?=some v->H d=some (.dK (kvC nm v))
def ntK:V->Bool
 |.str y=>decide (y∉Z8)
 |_=>false
theorem Zg3{s:Nat}{f:Nat->Nat}(h:WN n f=s):((List.range n).map λj=>((f j:Nat):Int)).sum=(s:Int):=by
 rw[<-h];clear h
 induction n with
 |zero=>rfl
 |succ n r=>
  rw[Qdf,Qau,Qdn,r,Yt,Qgk];show _+[((f n):Int)].sum=_;rw[Qdg]
def lpW_eq {w:V} (hw:(∃y,w=.str y)\/∃z:Int,w=.int z):lpW w=if inV w ((["both","either","so"]:Ai).map V.str)=true then[true,true]else if decide (w=.str "never")=true then[true]else if inV w ((["same","under","beneath","and","or","odd","add","sub"]:Ai).map V.str)=true then[false,false]
  else if inV w ((["sign","nought","not","neg","twice","low"]:Ai).map V.str)=true then[false]else if decide (w=.str "pick")=true then[false,false,false]else[]:=by
 rcases hw with⟨y,rfl⟩|⟨z,rfl⟩
 .rw[ZC,ZC,ZC];simp;show lpS y=_;unfold lpS;have e:∀c,(V.str y=V.str c)=(y=c):=λc=>propext ⟨λz=>by injection z,λz=>by rw[z]⟩;simp
 .rfl
def zv{l:Ai}{i:Int}(r:0<=i)(h1:i<(l.length:Int)):∃y,y∈l/\atI (l.map V.str) i=some (.str y):=by
 obtain⟨j,rfl⟩:∃j:Nat,i=j:=⟨i.toNat,by lia⟩;exact⟨l[j],Qbi _,Yv (by grind)⟩
def Zax:Ai:=["same","same","under","under","beneath","sign","nought","nought","both","both","either","either","so","never","never","yes"]
def Zg4:∀y∈Zax,y∈Zv:=by decide +kernel
def wN:Ai:=["not","neg","twice","low","and","or","odd","add","sub","add","pick"]
def Zg5:∀y∈wN,y∈Wz/\(y∈(["add","sub","neg","twice","low"]:Ai)↔y∈za):=by decide +kernel
def SmL.same{f:Aw}{H H' H2:Hp}(h:SmL f H H')(s:Z7 H' H2):SmL f H H2:=λb o r e=>s _ _ (h b o r e)
def SmL.of{H':Hp}(s:Z7 H H'):SmL f H H':=λb o _ e=>s _ _ e
def SmL.put{H':Hp}{o:HO}(s:SmL f H H'):SmL f H (upd H' f o):=λb u r e=>by rw[Zj r];exact s b u r e
def Zlj(nm:Ai)(vs:Aj):(kvC nm vs).length<=nm.length:=by
 unfold kvC;rw[Qab,Qfk];exact Nat.min_le_left _ _
def Zlk{nm:Ai}{y:Str}{vs:Aj}{w:Nat}(D:y∉nm)(r:vs.length=nm.length):putK (kvC nm vs) (.inr y) (.int w)=kvC (nm++[y]) (vs++[w]):=by
 unfold putK;rw[Qaw]
 .unfold kvC;rw[List.zip_append r.symm,Qau];rfl
 .intro z;obtain⟨q,h1,h2⟩:=Qdr.mp z;obtain⟨p,C,rfl⟩:=Qap.mp h1;have:=Qbb h2;injection this with this;exact D (by rw[<-this];exact(Qdz C).1)
theorem Zll{nm:Ai}(D:nm.Nodup){vs:Aj}(r:vs.length=nm.length):Zdw (kvC nm vs) nm (kF nm vs):=by
 have go:∀{nm:Ai} {vs:Aj},vs.length=nm.length->∀y,y∉nm->Yc (kvC nm vs) (.inr y)=none:=by
  intro nm vs r y C;have:=Ga (.inr y) (kvC nm vs);cases e:Yc (kvC nm vs) _ with
  |none=>rfl
  |some v=>
   rw[e]at this;obtain⟨q,h1,h2⟩:=Qdr.mp this;obtain⟨p,I,rfl⟩:=Qap.mp h1;have:=Qbb h2;injection this with this;exact absurd (by rw[<-this];exact(Qdz I).1) C
 refine⟨?_,go r⟩
 induction nm generalizing vs with
 |nil=>intro y C;cases C
 |cons x nm G=>
  match vs,r with
  |v::vs,r=>
   intro y C;show Yc (((.inr x),V.int _)::kvC nm vs) _=some (.int (((v::vs).getD _ 0)))
   by_cases h:x=y
   .subst h;rw[ZU U,List.idxOf_cons_self];rfl
   .rw[ZP (λz=>h (Sum.inr.inj z)),show(x::nm).idxOf y=nm.idxOf y+1 by rw[Qhj,beq_false_of_ne h];rfl];exact G (Qa9.mp D).2 (Nat.succ.inj r) y (by grind)
def W7.same{H H':Hp}{p:Aw}{nm:Ai}{L:Ad}(h:W7 H p nm L)(s:Z7 H H'):W7 H' p nm L:=by
 obtain⟨ds,h1,h2,C⟩:=h;exact⟨ds,s _ _ h1,h2,λi d v D r=>s _ _ (C i d v D r)⟩
def W7.snoc{p q:Aw}{nm:Ai}(h:W7 H q nm R)(keep:∀d r,H d=some (.dK r)->B d=some (.dK r))(L:∀ds:List Aw,H q=some (.lst (ds.map V.ref))->B q=some (.lst (ds.map V.ref++[V.ref p])))(C:B p=some (.dK (kvC nm v))):W7 B q nm (R++[v]):=by
 obtain⟨ds,h1,h2,G⟩:=h;refine⟨ds++[p],by grind,by grind,λi d u I D=>?_⟩
 by_cases hi:i<ds.length
 .grind
 .grind
def NmI(y:Str)(q:Int):Nat->Str->Prop
 |0,z=>z=y
 |i+1,z=>∃r c,NmI y q i r/\atI Zdk.cps.toList ((q+7*(i:Int))%26)=some c/\z=r++⟨#[c]⟩
def begL:Ai:=["","","","a","xy","so","not","yes","add","nought"]
def Zi4:∀y∈begL,∀j∈List.range 26,∀c∈(atI Zdk.cps.toList (j:Int)).toList,(NmL (y++⟨#[c]⟩)/\y++⟨#[c]⟩∉Z8)/\∀d∈(atI Zdk.cps.toList (((j+7:Nat):Int)%26)).toList,NmL (y++⟨#[c]⟩++⟨#[d]⟩)/\y++⟨#[c]⟩++⟨#[d]⟩∉Z8:=by decide +kernel
def nm_all{y z:Str}{q:Int}(D:y∈begL)(G:n=1\/n=2)(h:NmI y q n z):NmS z:=by
 obtain⟨j,M,r⟩:∃j:Nat,q%26=j/\j<26:=⟨(q%26).toNat,by lia,by lia⟩;rcases G with rfl|rfl
 .obtain⟨C,c,rfl,I,rfl⟩:=h;obtain⟨h1,_⟩:=Zi4 C D j (Qch.mpr r) c (by grind);exact⟨h1.1,h1.2⟩
 .obtain⟨N,d,⟨C,c,rfl,I,rfl⟩,L,rfl⟩:=h;obtain⟨_,h1⟩:=Zi4 C D j (Qch.mpr r) c (by grind);have:=h1 d (by grind);exact⟨this.1,this.2⟩
theorem Zlm{kvs:A0}{v:V}(G:kvs.map (·.1)=N.map Sum.inr)(D:N.Nodup)(y:Str):∃r:Ai,(putK kvs (.inr y) v).map (·.1)=r.map Sum.inr/\r.Nodup/\r.length<=N.length+1/\∀z∈r,z∈N\/z=y:=by
 unfold putK;split
 .refine⟨N,?_,D,Qem _,λz h=>.inl h⟩;rw[<-G,Qa7];refine Qbs λC _=>?_;show(if C.1=Sum.inr y then(C.1,v)else C).1=C.1
  split<;>rfl
 .rename_i h;have L:y∉N:=λz=>h (Qdr.mpr (by
   have:(Sum.inr y)∈kvs.map (·.1):=by grind
   obtain⟨q,h1,h2⟩:=Qap.mp this;exact⟨q,h1,Qaq h2⟩))
  refine⟨N++[y],by grind,Qd5.mpr ⟨D,Qa9.mpr ⟨(λz=>nomatch z),Qbu⟩,λa O b M e=>L (by grind)⟩,by grind,λz I=>?_⟩;rcases Qbl.mp I with z|z
  .exact .inl z
  .exact .inr (Qao.mp z)
def ty_si{nm:Ai}{ks:Am}(h:TyR nm r ks)(D:∀y∈nm,NmS y):(∀w∈r,qz w)/\r.filter ntK=r.filter nmB:=by
 have cs:∀w∈r,(∃y,w=.str y/\(y∈Z8\/y∈nm))\/∃z:Int,w=.int z:=λw hw=>by
  rcases h.facts.1 w hw with(⟨y,e,C,_⟩|⟨y,e,C,_⟩|⟨z,e,_⟩)|⟨y,e,C,_⟩
  .exact .inl ⟨y,e,.inl (xc y C)⟩
  .exact .inl ⟨y,e,.inr C⟩
  .exact .inr ⟨z,e⟩
  .exact .inl ⟨y,e,.inl (YE y C)⟩
 refine⟨λw hw=>?_,List.filter_congr λw hw=>?_⟩
 .rcases cs w hw with⟨y,rfl,C⟩|⟨z,rfl⟩
  .refine .inl ⟨y,U,?_⟩;rcases C with C|C
   .have:=(Zgg y C).1.2;lia
   .have:=(D y C).l.1.2;lia
  .exact .inr ⟨z,U⟩
 .rcases cs w hw with⟨y,rfl,C⟩|⟨z,rfl⟩
  .refine Qeg.mpr ⟨λh=>⟨h,?_⟩,λh=>h.1⟩;rcases C with C|C
   .exact absurd C h
   .exact(D y C).l
  .rfl
def clm_ok{nm:Ai}(h:TyR nm r [true])(L:∀y∈nm,NmS y)(O:nm.length<=3)(Q:r.length<=60)(S:J2 r<=15)(C:NmC r N):Xj N r:=by
 have D:∀y,y∈N↔V.str y∈r/\y∉Z8/\NmL y:=λy=>by
  rw[C.1.mem_iff,Zct];constructor
  .intro h;obtain⟨w,hw,rfl⟩:=Qap.mp h;obtain⟨h1,h2⟩:=Qdm.mp hw;cases w with
   |str y=>exact⟨h1,Qbb h2⟩
   |_=>cases h2
  .exact λh=>Qap.mpr ⟨.str y,Qdm.mpr ⟨h.1,Qaq h.2⟩,U⟩
 have M:=C.1.nodup_iff.mpr (kY _);have sub:∀y∈N,y∈nm:=λy G=>by
  obtain⟨h1,h2,_⟩:=(D y).mp G;rcases h.facts.1 _ h1 with(⟨z,e,I,_⟩|⟨z,e,I,_⟩|⟨z,e,_⟩)|⟨z,e,I,_⟩
  .cases e;exact absurd (xc y I) h2
  .cases e;exact I
  .cases e
  .cases e;exact absurd (YE y I) h2
 have kp:=λy G=>((D y).mp G).2.1;exact⟨Qa1 (Xq M sub) O,M,kp,by lia,h.re (λy G hw=>(D y).mpr ⟨hw,(L y G).k,(L y G).l⟩) kp,by lia⟩
def vb(b:Bool)(x:Int):V:=if b=true then .bl (decide (x=1))else .int x
def vbs(ks:Am)(xs:Ak):A8:=List.zipWith vb ks xs
def ld1(y:Str)(h a:Int):Int×Int:=
 if y = "not" then(1-a,0)else if y = "neg" then((1-a+h)%2,(1-a+h)/2)else if y = "twice" then(h,a)else if y = "low" then(a*(1-h),if h>a then h else a)
 else if y = "sign" then(a,0)else if y = "nought" then(h*(1-a),h*(1-a))else(1-a,0)
def ld2(y:Str)(h a b:Int):Int×Int:=
 if y = "and" then(if b<a then b else a,0)else if y = "or" then(if b>a then b else a,0)else if y = "odd" then((a+b)%2,0)else if y = "add" then((a+b+h)%2,(a+b+h)/2)
 else if y = "sub" then((a-b-h)%2,if decide (a-b-h<0)=true then 1 else 0)else if y = "same" then(if a=b then h else 0,if a=b then h else 0)
 else if y = "under" then(if a=b then h else if a<b then 1 else 0,if a=b then h else if a<b then 1 else 0)
 else if y = "beneath" then(if a=b then h else if a<b then 0 else 1,if a=b then h else if a<b then 1 else 0)
 else if y = "both" then(if a=1 then b else 0,0)else if y = "either" then(if a=1 then 1 else b,0)else(if b=1 then 1 else 1-a,0)
def ldW(y:Str)(h:Int)(bs:Ak):Int×Int:=
 if y = "yes" then(1,0)else if y = "pick" then(if bs.getD 0 0=1 then bs.getD 1 0 else bs.getD 2 0,0)else if(lpS y).length=1 then ld1 y h (bs.getD 0 0)else ld2 y h (bs.getD 0 0) (bs.getD 1 0)
def lst(ys:Ai)(β:Str->Int):A8->List Int->List Int×Ak
 |w::r,h::C=>
  let p:=lst ys β r C
  match w with
  |.str y=>if y∈ys then(β y::p.1,0::p.2)else((ldW y h (p.1.take (lpS y).length)).1::p.1.drop (lpS y).length,(ldW y h (p.1.take (lpS y).length)).2::p.2)
  |_=>(h%2::p.1,h/2::p.2)
 |_,_=>([],[])
def wO(y:Str)(is:Ak)(k:Nat):Int:=
 if y = "neg" \/ y = "same" \/ y = "nought" then 1-zG y is k else if y = "twice" \/ y = "low" \/ y = "add" \/ y = "sub" \/ y = "under" \/ y = "beneath" then zG y is k else 0
def heldW(ys:Ai)(W:Nat)(ρ:Str->Int):A8->Nat->List Int
 |[],_=>[]
 |w::r,k=>(match w with|.str y=>if y∈ys then 0 else wO y ((W6 W ρ r).take (lpS y).length) k|.int z=>z/2^k|_=>0)::heldW ys W ρ r k
def GK:V->Int
 |.str y=>if y = "neg" \/ y = "same" \/ y = "nought" then 1 else 0
 |.int z=>z
 |_=>0
def uD:Ai:=["not","neg","twice","low","and","or","odd","add","sub","pick","same","under","beneath","sign","nought","both","either","so","never","yes"]
def G7:∀y,(y∈Wz\/y∈Zv)->y∈uD:=by
 have h1:∀y∈Wz,y∈uD:=by decide +kernel
 have h2:∀y∈Zv,y∈uD:=by decide +kernel
 exactλy h=>h.elim (h1 y) (h2 y)
def ld_ok{y:Str}(N:y∈Wz\/y∈Zv){is:Ak}(C:is.length=(lpS y).length)(ρ:Str->Int){W k:Nat}(M:k<W):
  ldW y (wO y is k) (is.map λx=>bt x k)=(bt (rwR W ρ (.str y) is) k,wO y is (k+1)):=by
 have Q:∀y∈Wz,(lpS y).length=Yz y:=λy h=>by rw[(zu y h).1,Qay]
 have L:y∈Zv\/(y∈Wz/\is.length=Yz y):=by
  grind
 have G:=λx=>Y9 x k;have hh:=wI y is k;have e:bt (rwR W ρ (.str y) is) k=if y∈allR then Zk7 y (is.map λx=>bt x k) (zG y is k)else zQ y (is.map λx=>bt x k):=by
  by_cases I:y∈allR
  .rw[Qa5 I,uo ρ M I L]
  .rw[Qaw I,vN ρ M I L]
 have e2:wO y is (k+1)=if y = "neg" \/ y = "same" \/ y = "nought" then 1-uk y (is.map λx=>bt x k) (zG y is k)else if y = "twice" \/ y = "low" \/ y = "add" \/ y = "sub" \/ y = "under" \/ y = "beneath" then uk y (is.map λx=>bt x k) (zG y is k)else 0:=by
  unfold wO;rw[zk]
 rw[e,e2];unfold wO;generalize zG y is k=h at *;have r:=G7 y N;have go:∀y∈uD,∀a∈([0,1]:Ak),∀b∈([0,1]:Ak),∀c∈([0,1]:Ak),∀h∈([0,1]:Ak),ldW y (if y = "neg" \/ y = "same" \/ y = "nought" then 1-h else if y = "twice" \/ y = "low" \/ y = "add" \/ y = "sub" \/ y = "under" \/ y = "beneath" then h else 0) ([a,b,c].take (lpS y).length)=(if y∈allR then Zk7 y ([a,b,c].take (lpS y).length) h else zQ y ([a,b,c].take (lpS y).length),if y = "neg" \/ y = "same" \/ y = "nought" then 1-uk y ([a,b,c].take (lpS y).length) h else if y = "twice" \/ y = "low" \/ y = "add" \/ y = "sub" \/ y = "under" \/ y = "beneath" then uk y ([a,b,c].take (lpS y).length) h else 0):=by decide +kernel
 have D:∀{x:Int},(x=0\/x=1)->x∈([0,1]:Ak):=λh=>by grind
 have O:(lpS y).length<=3:=(wM y r).2
 match is,C with
 |[],C=>have e:=go y r 0 (by decide) 0 (by decide) 0 (by decide) h (D hh);rw[<-C]at e;exact e
 |[a],C=>have e:=go y r _ (D (G a)) 0 (by decide) 0 (by decide) h (D hh);rw[<-C]at e;exact e
 |[a,b],C=>have e:=go y r _ (D (G a)) _ (D (G b)) 0 (by decide) h (D hh);rw[<-C]at e;exact e
 |[a,b,c],C=>have e:=go y r _ (D (G a)) _ (D (G b)) _ (D (G c)) h (D hh);rw[<-C]at e;exact e
 |_::_::_::_::_,C=>simp at C;lia
def Xd{ys:Ai}{x:V}{ks:Am}(I:∀y∈ys,y∉Z8)(h:TyR ys (x::r) ks):
  (∃z:Int,∃k0,x=.int z/\0<=z/\z<2^10/\ks=false::k0/\TyR ys r k0)\/(∃y k0,x=.str y/\y∈ys/\ks=false::k0/\TyR ys r k0)\/∃y k0,x=.str y/\y∉ys/\(y∈Wz\/y∈Zv)/\npw (.str y)=(lpS y).length/\ks=decide (y∈Zv)::k0/\TyR ys r (lpS y++k0):=by
 cases h with
 | @sum _ _ ks hw h=>
  rcases hw with⟨y,rfl,C,G,D⟩|⟨y,rfl,C,N,D⟩|⟨z,rfl,M,L,D⟩
  .refine .inr (.inr ⟨y,ks,U,G,.inl C,by rw[(zu y C).1,Qay,D],by rw[Qan (J0 y C)],?_⟩);rw[(zu y C).1,<-D];exact h
  .grind
  .grind
 | @clm y _ ks C G h=>
  refine .inr (.inr ⟨y,ks,U,G,.inr C,?_,by grind,?_⟩)
  .rw[G5 y C,Qag,Qay,Qay,G3 y C]
  .rw[G5 y C,Qbt];exact h
noncomputable def vT{ys:Ai}{W k:Nat}(D:k<W)(C:∀y∈ys,y∉Z8)(ρ:Str->Int):∀{M:A8} {ks:Am},TyR ys M ks->
  lst ys (λy=>bt (ρ y) k) M (heldW ys W ρ M k)=((W6 W ρ M).map (λx=>bt x k),heldW ys W ρ M (k+1))
 |[],_,_=>rfl
 |w::r,ks,h=>by
  rcases Xd C h with⟨z,k0,rfl,Ua,S,rfl,N⟩|⟨y,k0,rfl,G,rfl,N⟩|⟨y,k0,rfl,Q,G,O,rfl,N⟩
  .have L:=vT D C ρ N;show((z/2^k)%2::(lst ys _ r _).1,(z/2^k)/2::(lst ys _ r _).2)=(bt _ k::((W6 W ρ r).drop _).map _,z/2^(k+1)::heldW ys W ρ r _);rw[L];refine Qht ?_ ?_
   .show bt z k::_=bt (wwv ρ _ []%2^W) k::_;rw[j7 _ _ _ D];rfl
   .rw[Qed (Int.le_of_lt (gQ k)),Qgp]
  .have L:=vT D C ρ N;have O:=G4 (C y G);show(if y∈ys then _ else _)=(bt (if y∈Zv then _ else _) k::((W6 W ρ r).drop _).map _,(if y∈ys then _ else _)::heldW ys W ρ r _);rw[Qa5 G,Qa5 G,Qaw λz=>C y G (YE y z),L,O,j7 _ _ _ D];rfl
  .have L:=vT D C ρ N;have I:((W6 W ρ r).take (lpS y).length).length=(lpS y).length:=by
    rw[Qbp,y1,<-O];exact Qgi h.facts.2.1.1
   show(if y∈ys then _ else _)=(bt _ k::((W6 W ρ r).drop _).map _,(if y∈ys then _ else _)::heldW ys W ρ r _);rw[Qaw Q,Qaw Q,O];try dsimp only
   rw[L,<-Qdv,Qee];rw[Qaw Q,ld_ok G I ρ D]
theorem vU{ys:Ai}{W:Nat}{ρ:Str->Int}(C:∀y∈ys,y∉Z8):∀{D:A8} {ks:Am},TyR ys D ks->heldW ys W ρ D 0=D.map GK
 |[],_,_=>rfl
 |w::r,ks,h=>by
  have L:heldW ys W ρ r 0=r.map GK:=by
   obtain⟨N,h'⟩:=h.tail;exact vU C h'
  rcases Xd C h with⟨z,k0,rfl,S,Q,rfl,I⟩|⟨y,k0,rfl,G,rfl,I⟩|⟨y,k0,rfl,M,G,O,rfl,I⟩
  .show z/2^0::_=z::_;rw[L,Qdu,Qc4]
  .show(if y∈ys then _ else _)::_=GK _::_;rw[Qa5 G];congr 1;show _=if _ then _ else _;have:=C y G;rw[Qaw];rintro(rfl|rfl|rfl)<;>exact this (by decide +kernel)
  .show(if y∈ys then _ else _)::_=GK _::_;rw[Qaw M];congr 1;show(if _ then 1-zG y _ 0 else if _ then zG y _ 0 else 0)=if _ then 1 else 0;rw[vL]
   split
   .rfl
   .split<;>rfl
theorem zw{ys:Ai}{β C:Str->Int}(e:∀y∈ys,β y=C y):∀(G:A8)(D:Ak),lst ys β G D=lst ys C G D
 |[],_=>rfl
 |_::_,[]=>rfl
 |w::r,h::D=>by
  unfold lst;rw[zw e r D];cases w with
  |str y=>
   by_cases I:y∈ys
   .simp[e y I]
   .simp[Qaw I]
  |_=>rfl
def nxH(nm:Ai)(r:A8)(h:Ak)(vs:Aj):Ak:=(lst nm (kF nm vs) r h).2
def tdH(nm:Ai)(r:A8)(h:Ak)(vs:Aj):Int:=(lst nm (kF nm vs) r h).1.getD 0 0
def hst(nm:Ai)(r:A8)(ls:Aj):Ak:=ls.foldl (λh l=>nxH nm r h (trn nm.length [l])) (r.map GK)
def xi(nm:Ai)(r:A8)(ls:Aj)(l:Nat):hst nm r (ls++[l])=nxH nm r (hst nm r ls) (trn nm.length [l]):=by
 unfold hst;rw[Qc2];rfl
theorem vV{nm:Ai}(r:nm.Nodup){ls:Aj}{k c:Nat}(D:ls[k]?=some c):∀y∈nm,kF nm (trn nm.length [c]) y=bt (yI ls nm y) k:=λy C=>by
 obtain⟨i,hi⟩:=Qcr.mp C;rw[Zec r hi D,<-y8 C [c]];unfold yI;rw[XY r hi];show 0+bt _ i*2^0=_;rw[Qdu,Int.mul_one,Qgq];rfl
theorem Zi5{nm:Ai}(S:Xj nm r){ls:Aj}{W:Nat}(I:ls.length=W):∀k,k<=W->hst nm r (ls.take k)=heldW nm W (yI ls nm) r k:=by
 intro k
 induction k with
 |zero=>
  intro _;rw[vU S.kp S.ty];rfl
 |succ k D=>
  intro G;obtain⟨c,C⟩:∃c,ls[k]?=some c:=⟨_,Qac (by lia)⟩;rw[take_snoc C,xi,D (by lia)];unfold nxH;rw[zw (vV S.nd C),vT (by lia) S.kp _ S.ty]
def vW{nm:Ai}(S:Xj nm r)(ls:Aj)(l:Nat):
  (tdH nm r (hst nm r ls) (trn nm.length [l])=0\/tdH nm r (hst nm r ls) (trn nm.length [l])=1) /\
  WQ (2^(ls.length+1)) (yI (ls++[l]) nm) r []=[.bl (decide (tdH nm r (hst nm r ls) (trn nm.length [l])=1))]:=by
 have D:(ls++[l]).length=ls.length+1:=Qag;obtain⟨o,e1,e2⟩:=jE (W:=ls.length+1) (by lia) S.kp _ S.ty;have h1:=Zi5 S D ls.length (by lia);rw[List.take_left' U]at h1;have C:(ls++[l])[ls.length]?=some l:=by grind
 have e3:tdH nm r (hst nm r ls) (trn nm.length [l])=bt o ls.length:=by
  unfold tdH;rw[h1,zw (vV S.nd C),vT (Qdq _) S.kp _ S.ty,e1];rfl
 rw[e3,e2];exact⟨Y9 _ _,U⟩
def tdN(nm:Ai)(r:A8)(h:Ak):Nat:=((chs 2 nm.length).map λvs=>(tdH nm r h vs).toNat).sum
def JT(k:Nat)(g:Aj->Nat):((chs 2 k).map g).sum=WN (2^k) λl=>g (trn k [l]):=by
 rw[Zer];exact(y7 k 1 g).symm
def Zay{nm:Ai}(S:Xj nm r)(i:Nat):
  SQ (2^nm.length) i (λls=>tdN nm r (hst nm r ls))=SQ (2^(i+1)) nm.length λvs=>if WQ (2^(i+1)) (kF nm vs) r []=[.bl true]then 1 else 0:=by
 rw[<-y7 _ (i+1)];refine XB λls C G=>?_;unfold tdN;rw[JT];refine Yd λl _=>?_;obtain⟨h1,h2⟩:=vW S ls l;show _=if WQ _ _ r []=[.bl true]then 1 else 0;rw[<-Zev (λy D=>y8 D _) S.ty,<-C,h2];rcases h1 with h|h<;>rw[h]<;>rfl
abbrev HK:=Ak
def wsH(kvs:List (HK×Nat))(F:HK->Nat):Nat:=(kvs.map λq=>q.2*F q.1).sum
def Zfd:List (HK×Nat)->HK->Nat->List (HK×Nat)
 |[],s,t=>[(s,t)]
 |q::r,s,t=>if q.1=s then(q.1,q.2+t)::r else q::Zfd r s t
theorem Zey(F:HK->Nat)(s:HK)(t:Nat):∀kvs:List (HK×Nat),wsH (Zfd kvs s t) F=wsH kvs F+t*F s
 |[]=>by show t*F s+0=0+t*F s;lia
 |q::r=>by
  unfold Zfd;split
  .rename_i h;show(q.2+t)*F q.1+wsH r F=q.2*F q.1+wsH r F+t*F s;lia
  .show q.2*F q.1+wsH _ F=q.2*F q.1+wsH r F+t*F s;rw[Zey F s t r];lia
theorem zx{s x:HK}{t:Nat}:∀{kvs:List (HK×Nat)},x∈(Zfd kvs s t).map (·.1)->x∈kvs.map (·.1)\/x=s
 |[],h=>.inr (Qao.mp h)
 |q::r,h=>by
  unfold Zfd at h;split at h
  .exact .inl h
  .rcases Qas.mp h with z|z
   .exact .inl (Qas.mpr (.inl z))
   .rcases zx z with z|z
    .exact .inl (Qal _ z)
    .exact .inr z
theorem Zez{s:HK}{t:Nat}:∀{kvs:List (HK×Nat)},(kvs.map (·.1)).Nodup->((Zfd kvs s t).map (·.1)).Nodup
 |[],_=>Qa9.mpr ⟨(λz=>nomatch z),Qbu⟩
 |q::r,h=>by
  have h':=Qa9.mp h;unfold Zfd;split
  .exact h
  .rename_i C;refine Qa9.mpr ⟨λz=>?_,Zez h'.2⟩;rcases zx z with z|z
   .exact h'.1 z
   .exact C z
def kH(h:HK):List Key:=h.map Sum.inl
def jF{a b:HK}(h:kH a=kH b):a=b:=(List.map_inj_right λ_ _ z=>Sum.inl.inj z).mp h
def vX(h:HK):(kH h).map kV=h.map V.int:=by
 unfold kH;rw[Qa7];rfl
def dH(f:g->V)(kvs:List (HK×g)):List (List Key×V):=kvs.map λq=>(kH q.1,f q.2)
def Zm2:List (HK×Nat)->HK->Nat
 |[],_=>0
 |q::r,s=>if q.1=s then q.2 else Zm2 r s
abbrev nV(n:Nat):V:=.int n
theorem Zi6(s:HK):∀kvs:List (HK×Nat),(Yc (dH nV kvs) (kH s)).getD (.int 0)=.int (Zm2 kvs s:Int)
 |[]=>rfl
 |q::r=>by
  unfold Zm2;show(Yc ((kH q.1,nV q.2)::dH nV r) _).getD _=_
  by_cases h:q.1=s
  .rw[Qa5 h,ZU (by rw[h])];rfl
  .rw[Qaw h,ZP (λz=>h (jF z))];exact Zi6 s r
theorem Ze0{β:Type}{f:β->V}:∀{kvs:List (HK×β)},(kvs.map (·.1)).Nodup->∀{q:HK×β},q∈kvs->Yc (dH f kvs) (kH q.1)=some (f q.2)
 |p::r,C,q,h=>by
  have h':=Qa9.mp C;show Yc ((kH p.1,f p.2)::dH f r) _=_;rcases Qas.mp h with rfl|h
  .exact ZU U
  .rw[ZP λz=>h'.1 (Qap.mpr ⟨q,h,(jF z).symm⟩)];exact Ze0 h'.2 h
theorem Ze1{β:Type}{f:β->V}:∀{kvs:List (HK×β)} {s:HK},s∉kvs.map (·.1)->Yc (dH f kvs) (kH s)=none
 |[],_,_=>rfl
 |p::r,s,h=>by
  show Yc ((kH p.1,f p.2)::dH f r) _=_;rw[ZP λz=>h (Qap.mpr ⟨p,Qaj,jF z⟩)];exact Ze1 λz=>h (Qal _ z)
def Zln{f:g->V}{kvs:List (HK×g)}{s:HK}{b:g}(h:s∉kvs.map (·.1)):putK (dH f kvs) (kH s) (f b)=dH f (kvs++[(s,b)]):=by
 unfold putK;rw[Qaw]
 .unfold dH;rw[Qau];rfl
 .intro z;obtain⟨q,h1,h2⟩:=Qdr.mp z;obtain⟨x,r,rfl⟩:=Qap.mp h1;exact h (Qap.mpr ⟨x,r,jF (Qbb h2)⟩)
theorem Zi7{s:HK}{t:Nat}:∀{kvs:List (HK×Nat)},(kvs.map (·.1)).Nodup->putK (dH nV kvs) (kH s) (.int ((Zm2 kvs s+t:Nat):Int))=dH nV (Zfd kvs s t)
 |[],_=>by show[(kH s,V.int ((0+t:Nat)))]=_;rw[Qd8];rfl
 |q::r,h=>by
  have L:∀v,s∉r.map _->(dH nV r).map (λC=>if C.1=kH s then(C.1,v)else C)=dH nV r:=λv G=>by
   refine(Qbs λC D=>?_).trans (Qhs _);obtain⟨x,I,rfl⟩:=Qap.mp D;exact Qaw λz=>G (Qap.mpr ⟨x,I,jF z⟩)
  unfold Zm2 Zfd
  by_cases e:q.1=s
  .rw[Qa5 e,Qa5 e];show(if(List.any ((kH q.1,nV q.2)::dH nV r) _)=true then _ else _)=_;rw[Qa5 (by grind)];show(if kH q.1=kH s then _ else _)::_=_;rw[Qa5 (by rw[e])];exact congrArg _ (L _ (by grind))
  .rw[Qaw e,Qaw e];have ne:=λz=>e (jF z);show(if(List.any ((kH q.1,nV q.2)::dH nV r) _)=true then _ else _)=(kH q.1,nV q.2)::dH nV _;rw[<-Zi7 (Qa9.mp h).2,Qet,Qan ne,Bool.false_or];show _=_::(if((dH nV r).any _)=true then _ else _)
   split
   .show(if kH q.1=kH s then _ else _)::_=_;rw[Qaw ne];rfl
   .rfl
def Zfe (y:Str):Bool:=decide (y∈(["never","both","either","so"]:Ai))
def Znd:Ai:=["not","neg","twice","low","sign","nought","never"]
def Zne:Ai:=["and","or","odd","add","sub","same","under","beneath","both","either","so"]
def Zlo:∀y∈uD,y = "yes" /\ lpS y=[]\/y = "pick" /\ lpS y=[false,false,false]\/(y ≠ "yes" /\ y ≠ "pick" /\ y∈Znd/\lpS y=[Zfe y])\/(y ≠ "yes" /\ y ≠ "pick" /\ y∈Zne/\lpS y=[Zfe y,Zfe y]):=by decide +kernel
def Zlp:∀y∈uD,∀h∈([0,1]:Ak),∀a∈([0,1]:Ak),∀b∈([0,1]:Ak),∀c∈([0,1]:Ak),((ldW y h ([a,b,c].take (lpS y).length)).1=0\/(ldW y h ([a,b,c].take (lpS y).length)).1=1)/\((ldW y h ([a,b,c].take (lpS y).length)).2=0\/y∈allR/\(ldW y h ([a,b,c].take (lpS y).length)).2=1):=by decide +kernel
def HvW:V->Int->Prop
 |.int _,h=>0<=h/\h<2^10
 |.str _,h=>h=0\/h=1
 |_,_=>False
inductive HvS:A8->List Int->Prop
 |nil:HvS [] []
 |cons {w:V} {h:Int} {r:A8} {hs:Ak}:HvW w h->HvS r hs->HvS (w::r) (h::hs)
theorem HvS.len(h:HvS r C):C.length=r.length:=by
 induction h with
 |nil=>rfl
 |cons _ _ D=>rw[Qaz,Qaz,D]
theorem HvS.drop{r:A8}{C:Ak}(h:HvS r C)(j:Nat):HvS (r.drop j) (C.drop j):=by
 induction h generalizing j with
 |nil=>rw[List.drop_nil,List.drop_nil];exact .nil
 |cons h1 h2 D=>
  cases j with
  |zero=>exact .cons h1 h2
  |succ j=>exact D j
def Jl{x:Int}(h:x=0\/x=1):x∈([0,1]:Ak):=by grind
noncomputable def XC{ys:Ai}(I:∀y∈ys,y∉Z8){β:Str->Int}(G:∀y∈ys,β y=0\/β y=1):∀{L:A8} {ks:Am} {C:Ak},TyR ys L ks->HvS L C->
  (lst ys β L C).1.length=ks.length/\(∀x∈(lst ys β L C).1,x=0\/x=1)/\HvS L (lst ys β L C).2
 |[],ks,C,h,D=>by
  cases h;cases D;exact⟨U,(λ_ z=>nomatch z),.nil⟩
 |w::r,ks,C,h,D=>by
  cases D with
  | @cons _ x _ C h1 h2=>
  rcases Xd I h with⟨z,k0,rfl,z0,Y,rfl,O⟩|⟨y,k0,rfl,Q,rfl,O⟩|⟨y,k0,rfl,S,Q,hp,rfl,O⟩
  .obtain⟨i1,i2,N⟩:=XC I G O h2;have h1:0<=x/\x<2^10:=h1;refine⟨congrArg Nat.succ i1,λv D=>?_,.cons (show 0<=x/2/\x/2<2^10 by lia) N⟩;rcases Qas.mp D with rfl|D
   .lia
   .exact i2 v D
  .obtain⟨i1,i2,N⟩:=XC I G O h2;have e:lst ys β (.str y::r) (x::C)=(β y::(lst ys β r C).1,0::(lst ys β r C).2):=by
    show(if y∈ys then _ else _)=_;rw[Qa5 Q]
   rw[e];refine⟨congrArg Nat.succ i1,λv D=>?_,.cons (.inl U) N⟩;rcases Qas.mp D with rfl|D
   .exact G y Q
   .exact i2 v D
  .obtain⟨i1,i2,N⟩:=XC I G O h2;have e:lst ys β (.str y::r) (x::C)=((ldW y x ((lst ys β r C).1.take (lpS y).length)).1::(lst ys β r C).1.drop (lpS y).length,(ldW y x ((lst ys β r C).1.take (lpS y).length)).2::(lst ys β r C).2):=by
    show(if y∈ys then _ else _)=_;rw[Qaw S]
   rw[Qag]at i1;have Ua:((ldW y x ((lst ys β r C).1.take (lpS y).length)).1=0\/(ldW y x ((lst ys β r C).1.take (lpS y).length)).1=1)/\((ldW y x ((lst ys β r C).1.take (lpS y).length)).2=0\/y∈allR/\(ldW y x ((lst ys β r C).1.take (lpS y).length)).2=1):=by
    have M:=G7 y Q;have Z:=(wM y M).2;have tl:((lst ys β r C).1.take (lpS y).length).length=(lpS y).length:=by rw[Qbp];lia
    have tb:∀v∈(lst ys β r C).1.take (lpS y).length,v=0\/v=1:=λv D=>i2 v (List.mem_of_mem_take D);have go:=Zlp y M x (Jl h1);generalize (lst ys β r C).1.take (lpS y).length=q at *
    match q,tl with
    |[],tl=>have g:=go 0 (by decide) 0 (by decide) 0 (by decide);rw[<-tl]at g;exact g
    |[a],tl=>have g:=go a (Jl (tb a (by simp))) 0 (by decide) 0 (by decide);rw[<-tl]at g;exact g
    |[a,b],tl=>have g:=go a (Jl (tb a (by simp))) b (Jl (tb b (by simp))) 0 (by decide);rw[<-tl]at g;exact g
    |[a,b,c],tl=>have g:=go a (Jl (tb a (by simp))) b (Jl (tb b (by simp))) c (Jl (tb c (by simp)));rw[<-tl]at g;exact g
    |_::_::_::_::_,tl=>simp only[Qaz]at tl;lia
   rw[e];refine⟨?_,λv D=>?_,.cons ?_ N⟩
   .grind
   .grind
   .rcases Ua.2 with z|⟨_,z⟩
    .exact .inl z
    .exact .inr z
def Zlq{ks:Am}{xs:Ak}(h:xs.length=ks.length):(vbs ks xs).length=ks.length:=by
 unfold vbs;rw[List.length_zipWith];lia
def Zg6{ys:Ai}(I:∀y∈ys,y∉Z8){β:Str->Int}(O:∀y∈ys,β y=0\/β y=1){x:V}{ks:Am}{h:Int}(S:TyR ys (x::r) ks)(Ua:HvS (x::r) (h::C)):
  ∃k0,TyR ys r k0/\(((∃z:Int,x=.int z)/\0<=h/\vbs ks (lst ys β (x::r) (h::C)).1=.int (h%2)::vbs k0 (lst ys β r C).1/\(lst ys β (x::r) (h::C)).2=h/2::(lst ys β r C).2)\/∃y,x=.str y /\
   ((y∈ys/\vbs ks (lst ys β (x::r) (h::C)).1=.int (β y)::vbs k0 (lst ys β r C).1/\(lst ys β (x::r) (h::C)).2=0::(lst ys β r C).2) \/
   (y∉ys/\(h=0\/h=1)/\(lst ys β (x::r) (h::C)).2=(ldW y h ((lst ys β r C).1.take (lpS y).length)).2::(lst ys β r C).2 /\
    ((y = "yes" /\ (ldW y h ((lst ys β r C).1.take (lpS y).length)).2=0/\vbs ks (lst ys β (x::r) (h::C)).1=.bl true::vbs k0 (lst ys β r C).1) \/
    (y = "pick" /\ (ldW y h ((lst ys β r C).1.take (lpS y).length)).2=0/\∃(a b c:Int)(l:A8),(a=0\/a=1)/\vbs k0 (lst ys β r C).1=.int a::.int b::.int c::l/\vbs ks (lst ys β (x::r) (h::C)).1=.int (if a=1 then b else c)::l) \/
    (y ≠ "yes" /\ y ≠ "pick" /\ y∈Znd/\(lpS y).length=1/\∃(a:Int)(l:A8),(a=0\/a=1)/\vbs k0 (lst ys β r C).1=vb (Zfe y) a::l/\vbs ks (lst ys β (x::r) (h::C)).1=vb (decide (y∈Zv)) (ld1 y h a).1::l/\(ldW y h ((lst ys β r C).1.take (lpS y).length)).2=(ld1 y h a).2) \/
    (y ≠ "yes" /\ y ≠ "pick" /\ y∈Zne/\(lpS y).length≠1/\∃(a b:Int)(l:A8),(a=0\/a=1)/\(b=0\/b=1)/\vbs k0 (lst ys β r C).1=vb (Zfe y) a::vb (Zfe y) b::l/\vbs ks (lst ys β (x::r) (h::C)).1=vb (decide (y∈Zv)) (ld2 y h a b).1::l/\(ldW y h ((lst ys β r C).1.take (lpS y).length)).2=(ld2 y h a b).2))))):=by
 cases Ua with
 |cons h1 h2=>
 rcases Xd I S with⟨z,k0,rfl,Z,Y,rfl,D⟩|⟨y,k0,rfl,M,rfl,D⟩|⟨y,k0,rfl,Q,M,hp,rfl,D⟩
 .exact⟨k0,D,.inl ⟨⟨z,U⟩,(show 0<=h/\h<2^10 from h1).1,U,U⟩⟩
 .have e:lst ys β (.str y::r) (h::C)=(β y::(lst ys β r C).1,0::(lst ys β r C).2):=by
   show(if y∈ys then _ else _)=_;rw[Qa5 M]
  rw[e];exact⟨k0,D,.inr ⟨y,U,.inl ⟨M,U,U⟩⟩⟩
 .have e:lst ys β (.str y::r) (h::C)=((ldW y h ((lst ys β r C).1.take (lpS y).length)).1::(lst ys β r C).1.drop (lpS y).length,(ldW y h ((lst ys β r C).1.take (lpS y).length)).2::(lst ys β r C).2):=by
   show(if y∈ys then _ else _)=_;rw[Qaw Q]
  obtain⟨i1,i2,_⟩:=XC I O D h2;rw[e];refine⟨_,D,.inr ⟨y,U,.inr ⟨Q,h1,U,?_⟩⟩⟩;generalize (lst ys β r C).1=P at *;have N:=G7 y M;rcases Zlo y N with⟨rfl,e2⟩|⟨rfl,e2⟩|⟨L,G,m,e2⟩|⟨L,G,m,e2⟩
  .exact .inl ⟨U,U,U⟩
  .rw[e2,Qag]at i1
   match P,i1 with
   |[],i1=>simp only[Qaz,Qcg]at i1;lia
   |[_],i1=>simp only[Qaz,Qcg]at i1;lia
   |[_,_],i1=>simp only[Qaz,Qcg]at i1;lia
   |a::b::c::l,_=>exact .inr (.inl ⟨U,U,a,b,c,vbs k0 l,i2 a (by simp),U,U⟩)
  .rw[e2,Qag]at i1
   match P,i1 with
   |[],i1=>simp only[Qaz,Qcg]at i1;lia
   |a::l,_=>
    have hw:ldW y h ((a::l).take (lpS y).length)=ld1 y h a:=by
     unfold ldW;rw[Qaw L,Qaw G,e2];rfl
    refine .inr (.inr (.inl ⟨L,G,m,by rw[e2];rfl,a,vbs k0 l,i2 a (by simp),by rw[e2];rfl,?_,by rw[hw]⟩));rw[hw,e2];rfl
  .rw[e2,Qag]at i1
   match P,i1 with
   |[],i1=>simp only[Qaz,Qcg]at i1;lia
   |[_],i1=>simp only[Qaz,Qcg]at i1;lia
   |a::b::l,_=>
    have hw:ldW y h ((a::b::l).take (lpS y).length)=ld2 y h a b:=by
     unfold ldW;rw[Qaw L,Qaw G,e2];rfl
    refine .inr (.inr (.inr ⟨L,G,m,by rw[e2];exact(by decide:(2:Nat)≠1),a,b,vbs k0 l,i2 a (by simp),i2 b (by simp),by rw[e2];rfl,?_,by rw[hw]⟩));rw[hw,e2];rfl
def optH(k:Nat):V->List Int
 |.int z=>[z/2^k]
 |.str y=>if y∈allR then[0,1]else[0]
 |_=>[0]
def vY(k:Nat):A8->List HK
 |[]=>[[]]
 |w::r=>(optH k w).flatMap λh=>(vY k r).map (h::·)
def univ(r:A8):List HK:=(List.range 11).flatMap λk=>vY k r
theorem vZ(k:Nat):∀C:A8,(vY k C).length=2^(C.filter xg).length
 |[]=>rfl
 |w::r=>by
  have D:=vZ k r;rw[Qcl];have one:∀{x:Int},((([x]).flatMap λh=>(vY k r).map (h::·)).length)=2^(r.filter xg).length:=λ{x}=>by
   grind
  cases w with
  |str y=>
   by_cases h:y∈allR
   .rw[Qa5 (show xg (.str y)=true from Qaq h),Qaz];show((if y∈allR then _ else _:Ak).flatMap _).length=_;rw[Qa5 h,Qd6,Qd6,List.flatMap_nil,Qbv,Qag,Qab,Qab];lia
   .rw[Qaw (show¬xg (.str y)=true fromλz=>h (Qbb z))];show((if y∈allR then _ else _:Ak).flatMap _).length=_;rw[Qaw h];exact one
  |_=>exact one
theorem Zg7(r:A8):(univ r).length=11*2^(r.filter xg).length:=by
 have go:∀l:Aj,(l.flatMap λk=>vY k r).length=l.length*2^(r.filter xg).length:=by
  intro l
  induction l with
  |nil=>exact(Qgr _).symm
  |cons a l C=>rw[Qd6,Qag,C,vZ,Qaz,Qgs,Qfb]
 exact(go _).trans (by simp)
theorem G8{ys:Ai}(C:∀y∈ys,y∉Z8){W:Nat}{ρ:Str->Int}{k:Nat}:∀{I:A8} {ks:Am},TyR ys I ks->heldW ys W ρ I k∈vY (min k 10) I
 |[],_,_=>Qao.mpr U
 |w::r,ks,h=>by
  have put:∀{x:Int} {t:HK},x∈optH _ w->t∈vY (min k 10) r->x::t∈vY _ (w::r):=λh1 h2=>Qhc.mpr ⟨_,h1,Qap.mpr ⟨_,h2,U⟩⟩;rcases Xd C h with⟨z,k0,rfl,M,L,rfl,D⟩|⟨y,k0,rfl,G,rfl,D⟩|⟨y,k0,rfl,N,G,Q,rfl,D⟩
  .refine put (Qao.mpr ?_) (G8 C D)
   by_cases O:k<=10
   .rw[Qgi O]
   .rw[Nat.min_eq_right (by lia),Qdo M L];exact Qdo M (Int.lt_of_lt_of_le L (by
     have:=Qb9 (show 0<2 by decide) (show 10<=k by lia);exact Int.ofNat_le.mpr this))
  .refine put ?_ (G8 C D);show(if y∈ys then _ else _)∈(if y∈allR then _ else _);rw[Qa5 G,Qaw λz=>C y G (yA y z)];exact Qao.mpr U
  .refine put ?_ (G8 C D);show(if y∈ys then _ else _)∈(if y∈allR then _ else _);rw[Qaw N];have hh:=wI y ((W6 W ρ r).take (lpS y).length) k;unfold wO;generalize zG y _ k=g at *;have go:∀y∈uD,∀g∈([0,1]),(if y = "neg" \/ y = "same" \/ y = "nought" then 1-g else if y = "twice" \/ y = "low" \/ y = "add" \/ y = "sub" \/ y = "under" \/ y = "beneath" then g else 0)∈(if y∈allR then[0,1]else[0]:Ak):=by decide +kernel
   exact go y (G7 y G) g (Jl hh)
def Zg8{nm:Ai}(S:Xj nm r)(ls:Aj):hst nm r ls∈univ r:=by
 have h:=Zi5 S U ls.length (Qah _);rw[Qb1]at h;rw[h];exact Qhc.mpr ⟨_,Qch.mpr (by lia),G8 S.kp S.ty⟩
theorem hst_hv{nm:Ai}(S:Xj nm r)(ls:Aj):HvS r (hst nm r ls):=by
 have N:∀{r:A8} {ks:Am},TyR nm r ks->HvS r (r.map GK):=by
  intro r
  induction r with
  |nil=>exactλ_=>.nil
  |cons w G D=>
   intro ks h;obtain⟨O,h'⟩:=h.tail;refine .cons ?_ (D h');rcases Xd S.kp h with⟨z,k0,rfl,M,I,_⟩|⟨y,k0,rfl,_⟩|⟨y,k0,rfl,_⟩
   .exact⟨M,I⟩
   .show(if _ then(1:Int)else 0)=0\/(if _ then(1:Int)else 0)=1;split<;>simp
   .show(if _ then(1:Int)else 0)=0\/(if _ then(1:Int)else 0)=1;split<;>simp
 have go:∀C:Aj,HvS r (hst nm r C.reverse):=by
  intro C
  induction C with
  |nil=>exact N S.ty
  |cons l C D=>
   rw[Qcn,xi];exact(XC S.kp (λy L=>by
    rw[<-y8 L [l]];have:=Zk2 [l] nm y;simp at this;lia) S.ty D).2.2
 have:=go ls.reverse
 rwa [Qf8]at this
theorem zy{ys:Ai}(C:∀y∈ys,y∉Z8):∀{L:A8} {ks D:Am},TyR ys L ks->TyR ys L D->ks=D
 |[],_,_,h,h'=>by
  cases h;cases h';rfl
 |w::r,_,_,h,h'=>by
  rcases Xd C h with⟨z,k0,rfl,_,_,rfl,t⟩|⟨y,k0,rfl,O,rfl,t⟩|⟨y,k0,rfl,M,_,_,rfl,t⟩<;>rcases Xd C h' with⟨Q,k1,e,_,_,rfl,t'⟩|⟨N,k1,e,G,rfl,t'⟩|⟨N,k1,e,I,_,_,rfl,t'⟩<;>cases e
  .rw[zy C t t']
  .rw[zy C t t']
  .exact absurd O I
  .exact absurd G M
  .rw[List.append_cancel_left (zy C t t')]
def uE{l:List g}{x:g}(h:l[l.length-1-i]?=some x)(hi:i<l.length):l.drop (l.length-(i+1))=x::l.drop (l.length-i):=by
 rw[show l.length-(i+1)=l.length-1-i by lia,Qdc _,show l.length-1-i+1=l.length-i by lia];congr 1;exact(Qaf.mp h).2
def Za7(nm:Ai)(r:A8)(H:Hp)(h:HK)(a:Aw):Prop:=∃as:List Aw,H a=some (.lst (as.map V.ref))/\as.length=(chs 2 nm.length).length /\
 ∀(i:Nat)(b:Aw)(vs:Aj),as[i]?=some b->(chs 2 nm.length)[i]?=some vs->∃c,H b=some (.tup [vb true (tdH nm r h vs),.ref c])/\H c=some (.tup ((nxH nm r h vs).map V.int))
def Reach(nm:Ai)(r:A8)(h:HK):Prop:=∃ls,hst nm r ls=h
structure Zm3(nm:Ai)(ws:A8)(kvs:List (HK×Aw))(H:Hp):Prop where
 nd:(kvs.map (·.1)).Nodup
 rc:∀q∈kvs,Reach nm ws q.1
 rw_:∀q∈kvs,Za7 nm ws H q.1 q.2
 b:ws.map GK∈kvs.map (·.1)
 cl:∀q∈kvs,∀vs∈chs 2 nm.length,nxH nm ws q.1 vs∈kvs.map (·.1)
def Za7.same{nm:Ai}{r:A8}{H H':Hp}{h:HK}{a:Aw}(R:Za7 nm r H h a)(s:Z7 H H'):Za7 nm r H' h a:=by
 obtain⟨as,h1,h2,L⟩:=R;refine⟨as,s _ _ h1,h2,λi b vs D G=>?_⟩;obtain⟨c,I,C⟩:=L i b vs D G;exact⟨c,s _ _ I,s _ _ C⟩
def Zm3.same{nm:Ai}{r:A8}{kvs:List (HK×Aw)}{H H':Hp}(M:Zm3 nm r kvs H)(s:Z7 H H'):Zm3 nm r kvs H':=⟨M.nd,M.rc,λq C=>(M.rw_ q C).same s,M.b,M.cl⟩
theorem jG{k:Nat}{vs:Aj}(h:vs∈chs 2 k):∃l,vs=trn k [l]:=by
 refine Classical.byContradiction λC=>?_;have e:=JT k λv=>if v=vs then 1 else 0;have z:WN (2^k) (λl=>if trn k [l]=vs then 1 else 0)=0:=(Yd λl _=>Qaw λz=>C ⟨l,z.symm⟩).trans (vR _);have:∀{l:List _},vs∈l->1<=(l.map λv=>if v=vs then 1 else 0).sum:=by
  intro l
  induction l with
  |nil=>exactλz=>nomatch z
  |cons a l D=>
   intro r;rw[Qbw,List.sum_cons];rcases Qas.mp r with rfl|r
   .lia
   .lia
 have:=this h;lia
def Reach.next{nm:Ai}{h:HK}(R:Reach nm r h){vs:Aj}(C:vs∈chs 2 nm.length):Reach nm r (nxH nm r h vs):=by
 obtain⟨ls,rfl⟩:=R;obtain⟨l,rfl⟩:=jG C;exact⟨_,xi nm r ls l⟩
def Reach.beg(nm:Ai)(r:A8):Reach nm r (r.map GK):=⟨[],U⟩
def Reach.td{nm:Ai}(S:Xj nm r){h:HK}(R:Reach nm r h){vs:Aj}(C:vs∈chs 2 nm.length):tdH nm r h vs=0\/tdH nm r h vs=1:=by
 obtain⟨ls,rfl⟩:=R;obtain⟨l,rfl⟩:=jG C;exact(vW S ls l).1
def z5{nm:Ai}(S:Xj nm r){l:List HK}(D:l.Nodup)(h:∀x∈l,Reach nm r x):l.length<=360448:=by
 have h1:=Xq D λx C=>by
  obtain⟨ls,rfl⟩:=h x C;exact Zg8 S ls
 have G:2^(r.filter xg).length<=2^15:=Qb9 (by decide) (by rw[<-G2 S.ty.facts.1];exact S.rm);rw[Zg7]at h1;lia
structure Ze2(nm:Ai)(ws:A8)(i:Nat)(kvs:List (HK×Nat)):Prop where
 sum:∀F,wsH kvs F=SQ (2^nm.length) i λls=>F (hst nm ws ls)
 nd:(kvs.map (·.1)).Nodup
def Ze2.one(nm:Ai)(r:A8):Ze2 nm r 0 [(r.map GK,1)]:=by
 refine⟨λF=>?_,Qa9.mpr ⟨(λz=>nomatch z),Qbu⟩⟩;show 1*F _+0=F (r.map GK);lia
theorem Ze3{F:HK->Nat}:∀{kvs:List (HK×Nat)} {q:HK×Nat},q∈kvs->q.2*F q.1<=wsH kvs F
 |p::r,q,h=>by
  rcases Qas.mp h with rfl|h
  .exact Qef _ _
  .exact Qa1 (Ze3 h) (Nat.le_add_left _ _)
def Ze2.le{nm:Ai}{kvs:List (HK×Nat)}(h:Ze2 nm r i kvs){q:HK×Nat}(C:q∈kvs):q.2<=(2^nm.length)^i:=by
 have h1:=Ze3 (F:=λ_=>1) C;rw[h.sum,Qg5]at h1;exact Qa1 h1 (Zm0 λ_=>Qah _)
def Ze2.next{nm:Ai}{kvs C:List (HK×Nat)}(h:Ze2 nm r i kvs)(D:(C.map (·.1)).Nodup)(e:∀F,wsH C F=wsH kvs λs=>((chs 2 nm.length).map λvs=>F (nxH nm r s vs)).sum):Ze2 nm r (i+1) C:=by
 refine⟨λF=>?_,D⟩;rw[e,h.sum];refine XB λls _ _=>?_;rw[JT];exact Yd λl _=>congrArg F (xi nm r ls l).symm
def Ze2.count{nm:Ai}{kvs:List (HK×Nat)}(h:Ze2 nm r i kvs)(S:Xj nm r):wsH kvs (tdN nm r)=SQ (2^(i+1)) nm.length λvs=>if WQ (2^(i+1)) (kF nm vs) r []=[.bl true]then 1 else 0:=by
 rw[h.sum,<-Zay S i]
def Xe(H:Hp)(as:List Aw)(r:List HK):Prop:=as.length=r.length/\∀(i:Nat)(a:Aw)(h:HK),as[i]?=some a->r[i]?=some h->H a=some (.tup (h.map V.int))
structure MacW(nm:Ai)(ws:A8)(kd wa:Aw)(kvs:List (HK×Aw))(as:List Aw)(hl:List HK)(H:Hp):Prop where
 k:H kd=some (.dT (dH V.ref kvs))
 w:H wa=some (.lst (as.map V.ref))
 t:Xe H as hl
 nd:(kvs.map (·.1)).Nodup
 rc:∀q∈kvs,Reach nm ws q.1
 rl:∀h∈hl,Reach nm ws h
 rw_:∀q∈kvs,Za7 nm ws H q.1 q.2
 nw:∀q∈kvs,q.2≠wa
 b:ws.map GK∈kvs.map (·.1)\/ws.map GK∈hl
 cl:∀q∈kvs,∀vs∈chs 2 nm.length,nxH nm ws q.1 vs∈kvs.map (·.1)\/nxH nm ws q.1 vs∈hl
 ln:hl.length<=1+8*kvs.length
def Za7.off{nm:Ai}{H':Hp}{h:HK}{xs:A8}{I:List (List Key×V)}(R:Za7 nm r H h a)(N:a≠Z)(hw:H Z=some (.lst xs))(D:H f=some (.dT I))(o:wL Z f H H'):Za7 nm r H' h a:=by
 obtain⟨as,h1,h2,O⟩:=R;refine⟨as,o _ _ h1 N (ZY h1 D λz=>nomatch z),h2,λi b vs L M=>?_⟩;obtain⟨c,G,C⟩:=O i b vs L M;exact⟨c,o _ _ G (ZY G hw λz=>nomatch z) (ZY G D λz=>nomatch z),o _ _ C (ZY C hw λz=>nomatch z) (ZY C D λz=>nomatch z)⟩
theorem Xe.off{H':Hp}{as:List Aw}{C:List HK}{xs:A8}{G:List (List Key×V)}(T:Xe H as C)(hw:H Z=some (.lst xs))(D:H f=some (.dT G))(o:wL Z f H H'):Xe H' as C:=
 ⟨T.1,λi a h r hh=>o _ _ (T.2 i a h r hh) (ZY (T.2 i a h r hh) hw λz=>nomatch z) (ZY (T.2 i a h r hh) D λz=>nomatch z)⟩
def wL.put1{pl:Aw}{u:HO}:wL a pl H (upd H a u):=λb o e h1 _=>by rw[Zj h1];exact e
def wL.put2{pl:Aw}{u:HO}:wL a pl H (upd H pl u):=λb o e _ h2=>by rw[Zj h2];exact e
def jH(f:g->V)(kvs:List (HK×g)):(dH f kvs).length=kvs.length:=Qab ..
def Xe.app{as:List Aw}{I G:List HK}(T:Xe H as I)(C:Xe H D G):Xe H (as++D) (I++G):=by
 refine⟨by rw[Qag,Qag,T.1,C.1],λi a h r hh=>?_⟩
 by_cases hi:i<as.length
 .rw[Qa6 hi]at r;rw[Qa6 (by rw[<-T.1];exact hi)]at hh;exact T.2 i a h r hh
 .rw[Qax (by lia)]at r;rw[Qax (by rw[<-T.1];lia),<-T.1]at hh;exact C.2 _ a h r hh
theorem Xe.left{as:List Aw}{r C:List HK}(e:as.length=r.length)(T:Xe H (as++D) (r++C)):Xe H as r:=
 ⟨e,λi a h G hh=>T.2 i a h (by grind) (by grind)⟩
theorem Xe.last{as:List Aw}{r:List HK}{h:HK}(e:as.length=r.length)(T:Xe H (as++[a]) (r++[h])):H a=some (.tup (h.map V.int)):=
 T.2 as.length a h (by grind) (by grind)
def uF(kvs:List (HK×Nat))(q:HK×Nat)(F:HK->Nat):wsH (kvs++[q]) F=wsH kvs F+q.2*F q.1:=by
 unfold wsH;rw[Qau,Qdn,Qfl,Qdg]
def Zaz(A B q t:Nat):((A+q*(B+t):Nat):Int)=((A+q*B:Nat):Int)+(q:Int)*(t:Int):=by grind
def ty_s{nm:Ai}{y:Str}{ks:Am}(C:y∈Wz)(D:y∉nm)(h:TyR nm r (List.replicate (Yz y) false++ks)):TyR nm (.str y::r) (false::ks):=by
 have e:=(zu y C).2;exact .sum (.inl ⟨y,U,C,D,e⟩) (by grind)
def ty_n{nm:Ai}{y:Str}{ks:Am}(D:y∈nm)(C:y∉Z8)(h:TyR nm r ks):TyR nm (.str y::r) (false::ks):=by
 have G:∀z∈za,z∈Z8:=by decide +kernel
 exact .sum (.inr (.inl ⟨y,U,D,λz=>C (G y z),G4 C⟩)) (by rw[G4 C];exact h)
def ty_i{nm:Ai}{ks:Am}(C:0<=z)(h1:z<2^10)(h:TyR nm r ks):TyR nm (.int z::r) (false::ks):=.sum (.inr (.inr ⟨z,U,C,h1,U⟩)) h
structure ZL(nm:Ai)(b:Bool)(n c:Nat)(ws:A8):Prop where
 ln:ws.length<=n
 rm:(ws.filter xg).length<=c
 ty:∀rest ks,TyR nm rest ks->TyR nm (ws++rest) (b::ks)
def wQ{y:Str}{b:Bool}(h:decide (y∈allR)=b):((V.str y::r).filter xg).length=(if b=true then 1 else 0)+(r.filter xg).length:=by
 rw[Qcl,show xg (.str y)=b from h];cases b
 .simp
 .simp[Qfb]
def ZL.name{nm:Ai}{y:Str}(C:y∈nm)(r:y∉Z8):ZL nm false 1 0 [.str y]:=⟨Qah _,by rw[wQ (Qan λz=>r (yA y z))];exact Qah _,λrest ks h=>ty_n C r h⟩
def ZL.int{nm:Ai}{z:Int}(r:0<=z)(h1:z<2^10):ZL nm false 1 0 [.int z]:=⟨Qah _,Qah _,λrest ks h=>ty_i r h1 h⟩
def ZL.one{nm:Ai}(M:∀y∈nm,y∉Z8){y:Str}{b b':Bool}{c:Nat}(G:y∈uD)(e:lpS y=[b])(D:decide (y∈Zv)=b')(P:ZL nm b n c r):ZL nm b' (n+1) (c+if y∈allR then 1 else 0) (.str y::r):=by
 have I:=λz=>M y z G;refine⟨Nat.succ_le_succ P.ln,?_,λrest ks h=>?_⟩
 .rw[wQ U];have:=P.rm
  by_cases h:y∈allR
  .grind
  .grind
 .have h2:=P.ty rest ks h;have L:=(by decide +kernel:∀y∈uD,y∈Wz\/y∈Zv) y G
  by_cases C:y∈Zv
  .rw[Qaq C]at D;subst D;refine .clm C I ?_;rw[<-Qbt,<-G5 y C,e];exact h2
  .rw[Qan C]at D;subst D;refine ty_s (L.resolve_right C) I ?_;rw[<-(zu y (L.resolve_right C)).1,e];exact h2
def ZL.two{nm:Ai}(O:∀y∈nm,y∉Z8){y:Str}{b b':Bool}{c n' c':Nat}{D:A8}(M:y∈uD)(e:lpS y=[b,b])(G:decide (y∈Zv)=b')(P:ZL nm b n c r)(I:ZL nm b n' c' D):ZL nm b' (n+n'+1) (c+c'+if y∈allR then 1 else 0) (.str y::(r++D)):=by
 have L:=λz=>O y z M;refine⟨?_,?_,λrest ks h=>?_⟩
 .have h1:=P.ln;have h2:=I.ln;rw[Qaz,Qag];lia
 .rw[wQ U];have h1:=P.rm;have h2:=I.rm
  by_cases h:y∈allR
  .grind
  .grind
 .have h2:=P.ty _ _ (I.ty rest ks h);rw[<-Qbt]at h2;have N:=(by decide +kernel:∀y∈uD,y∈Wz\/y∈Zv) y M
  by_cases C:y∈Zv
  .rw[Qaq C]at G;subst G;refine .clm C L ?_;rw[<-Qbt,<-G5 y C,e];exact h2
  .rw[Qan C]at G;subst G;refine ty_s (N.resolve_right C) L ?_;rw[<-(zu y (N.resolve_right C)).1,e];exact h2
def ZL.le{nm:Ai}{b:Bool}{c n' c':Nat}(P:ZL nm b n c r)(h1:n<=n')(h2:c<=c'):ZL nm b n' c' r:=⟨Qa1 P.ln h1,Qa1 P.rm h2,P.ty⟩
def ZL.claim{nm:Ai}{c:Nat}(P:ZL nm true n c r):TyR nm r [true]:=by
 have:=P.ty [] [] .nil
 rwa [Qbv]at this
def qc{nm:Ai}(C:∀y∈nm,y∉Z8){y:Str}(L:y∈nm)(M:0<=z)(h1:z<2^10):
  ZL nm false 8 3 [.str "twice",.str "not",.str y]/\ZL nm false 8 3 [.str "twice",.str "twice",.str "not",.str y]/\ZL nm false 8 3 [.str "odd",.int 1,.str "twice",.str "odd",.str y,.str "twice",.str y] /\
  ZL nm false 8 3 [.str "odd",.int z,.str "twice",.str "twice",.str y]/\ZL nm false 8 3 [.str "odd",.int 1,.str "twice",.str "odd",.str y,.str "twice",.str "twice",.str y]/\ZL nm false 8 3 [.str "odd",.int z,.str "twice",.str "twice",.str "twice",.str y]:=by
 have N:=ZL.name L (C y L);have I:=ZL.int (nm:=nm) M h1;have J:=ZL.int (nm:=nm) (z:=1) (by decide) (by decide);have tw:∀{n c:Nat} {r:A8},ZL nm false n c r->ZL nm false (n+1) (c+1) _:=λP=>(P.one C (y:= "twice") (by decide +kernel) (by decide +kernel) (by decide +kernel)).le (Qah _) (by split<;>lia);have G:∀{n c:Nat} {r:A8},ZL nm false n c r->ZL nm false (n+1) c _:=λP=>(P.one C (y:= "not") (by decide +kernel) (by decide +kernel) (by decide +kernel)).le (Qah _) (by exact Qah _);have od:∀{n c n' c':Nat} {r D:A8},ZL nm false n c r->ZL nm false n' c' D->ZL nm false (n+n'+1) (c+c') _:=λP O=>(P.two C (y:= "odd") (by decide +kernel) (by decide +kernel) (by decide +kernel) O).le (Qah _) (by exact Qah _);exact⟨(tw (G N)).le (by decide) (by decide),(tw (tw (G N))).le (by decide) (by decide),(od J (tw (od N (tw N)))).le (by decide) (by decide),(od I (tw (tw N))).le (by decide) (by decide),(od J (tw (od N (tw (tw N))))).le (by decide) (by decide),(od I (tw (tw (tw N)))).le (by decide) (by decide)⟩
def wR {nm:Ai} (r:∀y∈nm,y∉Z8) {y:Str} (D:y∈nm):ZL nm true 3 1 [.str "sign",.str y]/\ZL nm true 3 1 [.str "never",.str "sign",.str y]/\ZL nm true 3 1 [.str "under",.int 5,.str y]:=by
 have N:=ZL.name D (r y D);have C:=(N.one r (y:= "sign") (by decide +kernel) (by decide +kernel) (by decide +kernel):ZL nm true 2 _ _);refine⟨C.le (by decide) (by decide),(C.one r (by decide +kernel) (by decide +kernel) (by decide +kernel)).le (by decide) (by split<;>decide),((ZL.int (nm:=nm) (z:=5) (by decide) (by decide)).two r (by decide +kernel) (by decide +kernel) (by decide +kernel) N).le (by decide) (by grind)⟩
def jI {nm:Ai} (C:∀y∈nm,y∉Z8) {y w:Str} (I:y∈nm) (hw:w∈(["both","so"]:Ai)) {G:A8} (R:ZL nm false 8 3 r) (A:ZL nm true 3 1 G):ZL nm true 20 8 ([V.str w,.str "nought",.str "odd",.str y]++r++G):=by
 have D:=(by decide +kernel:∀w∈(["both","so"]:Ai),w∈uD/\lpS w=[true,true]/\decide (w∈Zv)=true) w hw;refine ZL.le ?_ (Qah _) (Qah _);have:=((((ZL.name I (C y I)).two C (y:= "odd") (b':=false) (by decide +kernel) (by decide +kernel) (by decide +kernel) R).one C (y:= "nought") (by decide +kernel) (by decide +kernel) (by decide +kernel)).two C D.1 D.2.1 D.2.2 A).le (n':=20) (c':=8) (by decide) (by grind);simpa using this
def Za0 {nm:Ai} (C:∀y∈nm,y∉Z8) {y w v:Str} (M:y∈nm) (L:x∈nm) (hw:w∈(["both","so"]:Ai)) (Q:v∈(["both","either","so"]:Ai)) {I ot:A8} (R:ZL nm false 8 3 r) (O:ZL nm false 8 3 ot) (A:ZL nm true 3 1 I):
  ZL nm true 40 15 ([V.str w,.str "nought",.str "or",.str "odd",.str y]++r++[V.str "odd",.str x]++ot++[V.str v,.str "sign",.str x]++I):=by
 have X:=ZL.name L (C x L);have D:=(by decide +kernel:∀w∈(["both","so"]:Ai),w∈uD/\lpS w=[true,true]/\decide (w∈Zv)=true) w hw;have G:=(by decide +kernel:∀w∈(["both","either","so"]:Ai),w∈uD/\lpS w=[true,true]/\decide (w∈Zv)=true) v Q;have Y:=(ZL.name M (C y M)).two C (y:= "odd") (b':=false) (by decide +kernel) (by decide +kernel) (by decide +kernel) R;have Ua:=X.two C (y:= "odd") (b':=false) (by decide +kernel) (by decide +kernel) (by decide +kernel) O;have S:=(Y.two C (y:= "or") (b':=false) (by decide +kernel) (by decide +kernel) (by decide +kernel) Ua).one C (y:= "nought") (b':=true) (by decide +kernel) (by decide +kernel) (by decide +kernel);have N:=(X.one C (y:= "sign") (b':=true) (by decide +kernel) (by decide +kernel) (by decide +kernel)).two C (y:=v) G.1 G.2.1 G.2.2 A;have b:∀(p:Prop) [Decidable p],(if p then 1 else 0:Nat)<=1:=λp _=>by grind
 have:=(S.two C (y:=w) (b':=true) D.1 D.2.1 D.2.2 N).le (n':=40) (c':=15) (by decide) (by lia);simpa using this
set_option genInjectivity false in
set_option genSizeOfSpec false in
structure Adr where
 su:Aw
 sy:Ao
 ph:Aw
 pj:Ao
 lg:Aw
 lh:Ao
 tj:Aw
 tq:Ao
 nz:Aw
 og:Ao
 pk:Aw
 pv:Ao
 mi:Aw
 mj:Ao
 il:Aw
 ip:Ao
 mm:Aw
 mn:Ao
 iq:Aw
 ir:Ao
 oh:Aw
 oj:Ao
 rd:Aw
 rf:Ao
 tu:Aw
 vr:Ao
 mq:Aw
 mr:Ao
 ib:Aw
 ic:Ao
 aak:Aw
 aal:Ao
 mw:Aw
 my:Ao
 rg:Aw
 rh:Ao
 om:Aw
 oq:Ao
 vw:Aw
 wh:Ao
 ri:Aw
 rj:Ao
 rk:Aw
 ro:Ao
 mz:Aw
 nc:Ao
 lj:Aw
 lq:Ao
 lr:Aw
 lu:Ao
 rp:Aw
 rq:Ao
 ng:Aw
 nh:Ao
 iu:Aw
 iw:Ao
 aaa:Aw
 aab:Ao
 aam:Aw
 aan:Ao
 lx:Aw
 ly:Ao
 rr:Aw
 ry:Ao
 ni:Aw
 nj:Ao
 rz:Aw
 sf:Ao
 sh:Aw
 si:Ao
 ie:Aw
 ig:Ao
 lz:Aw
 ma:Ao
 aac:Aw
 aad:Ao
 ou:Aw
 ox:Ao
 oy:Aw
 oz:Ao
 nq:Aw
 nt:Ao
 aae:Aw
 aaf:Ao
 sj:Aw
 sr:Ao
 nu:Aw
 nv:Ao
 aao:Aw
 aap:Ao
 ix:Aw
 iy:Ao
 aas:Aw
 me:Ao
 gi:Aw
 dy:Ao
 ka:Aw
 ki:Ao
 ij:Aw
 ik:Ao
 aat:Aw
 aau:Ao
 aay:Aw
 aaz:Ao
 fw:Aw
 au:Aw
 bh:Aw
 aa:Aw
 bf:Aw
 av:Aw
 aj:Aw
 aaq:Tok
 mf:Tok
 da:Aw
structure Kg(K:Af)(w:Au)(mg:Ae)(x:Str)(a:Aw)(l:List (Str×Int)):Prop where
 m:mg x=some (.ref a)
 d:KD K w a l
structure Kt(K:Af)(mg:Ae)(x:Str)(a:Aw)(l:Ai):Prop where
 m:mg x=some (.ref a)
 d:∀H,SqT K H a (l.map V.str)
structure Df(K:Af)(mg:Ae)(x:Str)(st:Ay)(ps:Ai)(f:Aw)(fd:Ao):Prop where
 F:Fun K x x st f fd
 m:mg x=some (.ref f)
 b:Binds K fd ps []
abbrev FnD{mg:Ae}{st:Ay}{ps:Ai}{fd:Ao}(_:Df K mg x st ps f fd)(P:Aq)(w:Au)(base:Heap)(k:Nat)(sp:Sp):Prop:=kC P w K mg base CX0 k f fd ps sp
theorem Df.go{mg:Ae}{base:Heap}{st:Ay}{ps:Ai}{fd:Ao}{k:Nat}{sp:Sp}(d:Df K mg x st ps f fd)(S:Zt N ps (Zk st))(b:∀(C:Av)(A:Ar)(outer:List Env)(s:As)(H:Hp)(vs:A8)(Q:VK)(E:XK),WL k (A.deeper (envOfC x (Zk st) s.heap.objs.size f C))->sp vs H Q E->∃t,QSs (Zfl CX0 P w K mg base N x (Zk st) f C A outer s H E).nox (Xg st) t/\t {nx:=λ_ H'=>Q .non H',rt:=Q} (start N vs) H)(len:∀vs H Q E,sp vs H Q E->vs.length=ps.length:=by rintro _ _ _ _ ⟨⟩;subst_vars;rfl):kC P w K mg base CX0 (k+1) f fd ps sp:=d.F.ok S len λc A o s H vs Q E D h=>let⟨t,q,r⟩:=b c A o s H vs Q E D h;⟨t,q.out,r⟩
def Zr {X:Cx}  {st:Ay} {ps:Ai}  {fd:Ao} {k:Nat} {sp:Sp}   {es:An} {t:TA} (d:Df X.K X.mg x st ps f fd) (F:kC X.prog X.w X.K X.mg X.base CX0 k f fd ps sp) (D:WL n X.A) (I:QA X (e::es) t) (G:k<=n:=by decide) (L:Gl X x:=by exact U) (r:(x == ("__debug__" : Str))=false:=by decide) (C:(e::es).all Yk=true:=by rfl):QE X (.Call (.Name x p) (e::es) [] E) (Zfk sp [] E0 t):=Yx F (D.mono G) L d.m d.F.kp d.b .nil JV I r C
set_option genInjectivity false in
set_option genSizeOfSpec false in
structure Txt(K:Af)(w:Au)(mg:Ae)(t:Adr):Prop where
 bf:Kg K w mg "SUM_PARTS" t.bf [("not",1),("neg",1),("twice",1),("low",1),("and",2),("or",2),("odd",2),("add",2),("sub",2),("pick",3)]
 av:Kg K w mg "SUMS_IN_CLAIM" t.av [("same",2),("under",2),("beneath",2),("sign",1),("nought",1)]
 aj:Kg K w mg "CLAIMS_IN_CLAIM" t.aj [("both",2),("either",2),("so",2),("never",1),("yes",0)]
 aar:mg "LETTERS" = some (.str "abcdefghijklmnopqrstuvwxyz" t.aaq)
 mh:mg "LONGEST_NAME" = some (.int 8 t.mf)
 da:Kt K mg "REMEMBERING" t.da ["neg","twice","low","add","sub","same","under","beneath","nought"]
 fh:Df K mg "words_at" jy ["width"] t.su t.sy
 dz:Df K mg "number_of" xI ["bits"] t.ph t.pj
 ck:Df K mg "state_number" J6 ["state","states","numbers"] t.lg t.lh
 cy:Df K mg "numbered" GY ["marks"] t.tj t.tq
 br:Df K mg "classes_of" Je ["states","classes"] t.nz t.og
 el:Df K mg "firsts_of" xJ ["classes"] t.pk t.pv
 dc:Df K mg "is_sum_word" Gk ["text"] t.mi t.mj
 bx:Df K mg "is_claim_word" Jf ["text"] t.il t.ip
 ba:Df K mg "sums_behind" Gm ["word"] t.mm t.mn
 ax:Df K mg "claims_behind" Jg ["word"] t.iq t.ir
 dn:Df K mg "is_made_of" Jh ["text","signs"] t.oh t.oj
 cg:Df K mg "remembers" xK ["word"] t.rd t.rf
 cz:Df K mg "borrowed" jz ["one","other","held"] t.tu t.vr
 df:Df K mg "out_at_once" Gn ["word","parts"] t.mq t.mr
 bu:Df K mg "longest_number" Xi ["words"] t.ib t.ic
 bz:Df K mg "bits_at" xM ["columns","letter"] t.aak t.aal
 dg:Df K mg "ways_onward" Gp ["ways","steps"] t.mw t.my
 et:Df K mg "_law_whole" xN ["found"] t.rg t.rh
 ag:Df K mg "_law_number" qw ["script","k"] t.om t.oq
 bj:Df K mg "_law_name" j0 ["number"] t.vw t.wh
 az:Df K mg "_law_parts" xO ["word"] t.ri t.rj
 eu:Df K mg "_law_named" JP ["words"] t.rk t.ro
 dh:Df K mg "_law_choices" Gq ["names","full"] t.mz t.nc
 cm:Df K mg "_law_step_one" J7 ["word","was","one"] t.lj t.lq
 cq:Df K mg "_law_step_two" J8 ["word","was","one","other"] t.lr t.lu
 cj:Df K mg "_law_begun" xP ["words"] t.rp t.rq
 di:Df K mg "_law_held_to" Gr ["number","name"] t.ng t.nh
 cb:Df K mg "alike_classes" X0 ["steps","out"] t.iu t.iw
 bp:Df K mg "parts_of" j4 ["word"] t.aaa t.aab
 fk:Df K mg "is_name" vv ["text"] t.aam t.aan
 cu:Df K mg "name_columns" XR ["names","letters"] t.lx t.ly
 fe:Df K mg "kept_then" xQ ["word","parts","held"] t.rr t.ry
 dj:Df K mg "out_by_kept" Gs ["word","parts","held","then"] t.ni t.nj
 bg:Df K mg "counts_to" Wo ["machine","many"] t.rz t.sf
 ff:Df K mg "_law_names" xR ["script","start","many"] t.sh t.si
 bw:Df K mg "_law_claim_word" Ww ["number","room","left"] t.ie t.ig
 cx:Df K mg "_law_sum_word" J9 ["number","room","left","names","top"] t.lz t.ma
 fi:Df K mg "_law_step" j5 ["words","held","bits"] t.aac t.aad
 dt:Df K mg "_law_ringed" qx ["script","start","names"] t.ou t.ox
 du:Df K mg "_law_counts" qy ["words","known","many"] t.oy t.oz
 dk:Df K mg "parts_taken" Wq ["stack","word"] t.nq t.nt
 bq:Df K mg "names_of" GZ ["words"] t.aae t.aaf
 fg:Df K mg "_law_words" xS ["script","start","names","most","left","top","claim"] t.sj t.sr
 dm:Df K mg "_law_machine" Xn ["words","names"] t.nu t.nv
 cf:Df K mg "stepped" vx ["words","columns","place","kept"] t.aao t.aap
 ae:Df K mg "machine_found" X1 ["names","begin","step_of"] t.ix t.iy
 dw:Df K mg "least" xT ["machine"] t.aas t.me
 ao:Df K mg "machine_telling" ZZ ["words","names","told"] t.gi t.dy
 ay:Df K mg "claim_machine" Ji ["claim","names"] t.ka t.ki
 aq:Df K mg "least_of_claim" Wx ["claim"] t.ij t.ik
 gb:Df K mg "count" Zdj ["claim","width"] t.aat t.aau
 aag:Df K mg "law" Zkm ["script"] t.aay t.aaz
 aav:t.me.code=.ref t.fw
 ia:t.dy.code=.ref t.bh
 fq:t.au≠t.aa
 aba:mg "all" = none
 aaw:mg "bool" = none
 aax:mg "dict" = none
 fu:mg "enumerate" = none
 bc:mg "int" = none
 ai:mg "isinstance" = none
 af:mg "len" = none
 pe:mg "list" = none
 fj:mg "max" = none
 lb:mg "min" = none
 bb:mg "range" = none
 gc:mg "reversed" = none
 aah:mg "set" = none
 ft:mg "sorted" = none
 aai:mg "str" = none
 abb:mg "sum" = none
 ah:mg "tuple" = none
 aaj:mg "zip" = none
set_option genInjectivity false in
set_option genSizeOfSpec false in
structure Tbs(mg:Ae)(base:Heap)(t:Adr):Prop where
 fw:PySem.W.CodeHd base t.fw t.au
 bh:PySem.W.CodeHd base t.bh t.aa
 B:jY mg base
def Ws:Zt ["width","many","bit_number"] ["width"] (Zk jy):={}
def XD:Zt ["bits","number","bit"] ["bits"] (Zk xI):={}
def z6:Zt ["state","states","numbers"] ["state","states","numbers"] (Zk J6):={}
def z7:Zt ["marks","numbers"] ["marks"] (Zk GY):={}
def yB:Zt ["states","classes"] ["states","classes"] (Zk Je):={}
def XE:Zt ["classes","firsts","state","number"] ["classes"] (Zk xJ):={}
def zR:Zt ["text"] ["text"] (Zk Gk):={}
def qJ:Zt ["text"] ["text"] (Zk Jf):={}
def zS:Zt ["word"] ["word"] (Zk Gm):={}
def qK:Zt ["word"] ["word"] (Zk Jg):={}
def yC:Zt ["text","signs"] ["text","signs"] (Zk Jh):={}
def kb:Zt ["word"] ["word"] (Zk xK):={}
def wU:Zt ["one","other","held"] ["one","other","held"] (Zk jz):={}
def zT:Zt ["word","parts"] ["word","parts"] (Zk Gn):={}
def qd:Zt ["words"] ["words"] (Zk Xi):={}
def Za1:Zt ["columns","letter"] ["columns","letter"] (Zk xM):={}
def YA:Zt ["ways","steps","onward","state","times","led_to"] ["ways","steps"] (Zk Gp):={}
def ke:Zt ["found"] ["found"] (Zk xN):={}
def ZV:Zt ["script","k","cells","size","cell","turn","step","seed"] ["script","k"] (Zk qw):={}
def YV:Zt ["number","letters","some","name","k"] ["number"] (Zk j0):={}
def kf:Zt ["word"] ["word"] (Zk xO):={}
def Jm:Zt ["words","kept"] ["words"] (Zk JP):={}
def ZX:Zt ["names","full","found","name","wider","values","word","more"] ["names","full"] (Zk Gq):={}
def z8:Zt ["word","was","one"] ["word","was","one"] (Zk J7):={}
def X3:Zt ["word","was","one","other","less"] ["word","was","one","other"] (Zk J8):={}
def Jn:Zt ["words","found","word"] ["words"] (Zk xP):={}
def JA:Zt ["number","name","some"] ["number","name"] (Zk Gr):={}
def Yu:Zt ["steps","out","classes","many"] ["steps","out"] (Zk X0):={}
def wV:Zt ["word"] ["word"] (Zk j4):={}
def Za2:Zt ["text"] ["text"] (Zk vv):={}
def YQ:Zt ["names","letters","columns","place","name"] ["names","letters"] (Zk XR):={}
def qA:Zt ["word","parts","held","one"] ["word","parts","held"] (Zk xQ):={}
def zU:Zt ["word","parts","held","then"] ["word","parts","held","then"] (Zk Gs):={}
def YF:Zt ["machine","many","ways","holding_letters","counts","width"] ["machine","many"] (Zk Wo):={}
def Jo:Zt ["script","start","many","found","k"] ["script","start","many"] (Zk xR):={}
def ZD:Zt ["number","room","left","some","word","judged"] ["number","room","left"] (Zk Ww):={}
def Y3:Zt ["number","room","left","names","top","some","word","hard"] ["number","room","left","names","top"] (Zk J9):={}
def ZM:Zt ["words","held","bits","pile","kept","word","was","told","one","other"] ["words","held","bits"] (Zk j5):={}
def Ys:Zt ["script","start","names","number","word","asked","rule_of","other","whole"] ["script","start","names"] (Zk qx):={}
def ZN:Zt ["words","known","many","ways","counts","at","found","total","held","told","behind"] ["words","known","many"] (Zk qy):={}
def zV:Zt ["stack","word"] ["stack","word"] (Zk Wq):={}
def wW:Zt ["words"] ["words"] (Zk GZ):={}
def Y4:Zt ["script","start","names","most","left","top","claim","words","parts","room","number","word"] ["script","start","names","most","left","top","claim"] (Zk xS):={}
def YB:Zt ["words","names","letters","known","waiting","held"] ["words","names"] (Zk Xn):={}
def Xr:Zt ["words","columns","place","kept","stack","later","word","parts","held"] ["words","columns","place","kept"] (Zk vx):={}
def Ye:Zt ["names","begin","step_of","states","numbers","steps","out","told"] ["names","begin","step_of"] (Zk X1):={}
def XF:Zt ["machine","found","steps","out","classes","firsts","least_steps","least_out"] ["machine"] (Zk xT):={}
def ZT:Zt ["words","names","told","letters","columns","last_place","step_of","begin"] ["words","names","told"] (Zk ZZ):={}
def qL:Zt ["claim","names"] ["claim","names"] (Zk Ji):={}
def qe:Zt ["claim"] ["claim"] (Zk Wx):={}
def Zg9:Zt ["claim","width"] ["claim","width"] (Zk Zdj):={}
def W8:Zt ["script","first","names","most","left","top","words","due","width","found"] ["script"] (Zk Zkm):={}
def J1:Zkd (Zk YM) ["state"] ["step","place","reached"] ["words","columns","last_place","letters","told"]:=⟨by rfl,by rfl,by rfl,by decide +kernel,by decide +kernel,by decide +kernel,by decide +kernel⟩
def spQ(i:A8->Hp->VK->Prop):Sp:=λvs H Q _=>i vs H Q
section
variable (P:Aq){w:Au}{K:Af}{mg:Ae}(base:Heap){t:Adr}
variable (T:Txt K w mg t)(TB:Tbs mg base t)
include T TB
variable(vs:A8)(H:Hp)(Q:VK)
inductive G9:Prop
 |mk(w:Nat):vs=[.int w]->w<=1000->Q (.int (2^w)) H->G9
theorem wX:FnD T.fh P w base 1 (spQ G9):=by
 refine T.fh.go Ws ?_;rintro r A outer s H _ Q E G ⟨w,rfl,hw,k⟩;refine⟨_,(Zc (Zu 1 Ws.nd Ze)
   (Zc (YD Qbh U (Xb U T.bb (Zi (qv 0) Zd)) (Xh 2 Ws.nd)
   (Zf (Zu 1 Ws.nd (Zl YC (qv 1) Ze))))
   (Zf (Zn (qv 1))))),(L2.let3 ?_)⟩
 intro D C;refine⟨_,U,w,U,by lia,by lia,Xs (λi σ H2=>∃v,σ=[some _,some (.int (2^i)),v]/\H2=H) ⟨none,U,U⟩ ?_ ?_⟩
 .rintro i σ H2 hi ⟨v,rfl,rfl⟩;refine⟨_,U,_,_,U,U,.inr (.inr ⟨by decide,by decide⟩),some (.int (0+(i:Int))),?_,U⟩;rfl
 .rintro σ H2 ⟨v,rfl,rfl⟩;refine⟨_,U,?_⟩;exact k
omit T TB in
theorem Zha{x:V}(h:(C.map V.int)[i]?=some x):∃b,x=V.int b/\C[i]?=some b:=by grind
inductive JB(K:Af):Prop
 |mk(p:Aw)(ns:Ak):vs=[.ref p]->SqT K H p (ns.map V.int)->Q (.int (hor ns.reverse)) H->JB K
def kg(K:Af):Sp:=λvs H Q _=>JB vs H Q K
theorem kh:FnD T.dz P w base 1 (kg K):=by
 refine T.dz.go XD ?_;rintro G A outer s H _ Q E M ⟨p,ns,rfl,D,k⟩;refine⟨_,(Zc (Zu 1 XD.nd Ze)
   (Zc (YD Qbh U (Zcb U T.gc (qv 0)) (Xh 2 XD.nd)
   (Zf (Zu 1 XD.nd (Zl Yj (Zl YC (qv 1) Ze) (qv 2)))))
   (Zf (Zn (qv 1))))),(L2.let3 ?_)⟩
 intro L I;refine⟨_,U,p,_,U,D,Zcc (K:=K) (λi σ H2=>∃v,σ=[some _,some (.int (hor (ns.reverse.take i))),v]/\H2=H) ⟨none,U,U⟩ (λi σ H2 _ ⟨_,_,e⟩=>by grind) ?_ ?_⟩
 .rintro i x σ H2 r ⟨v,rfl,rfl⟩;rw[<-List.map_reverse]at r;obtain⟨b,rfl,C⟩:=Zha r;refine⟨_,U,_,_,U,U,.inr (.inr ⟨by decide,by decide⟩),_,U,_,_,U,U,some (.int b),?_,U⟩;rw[Zgm C];rfl
 .rintro σ H2 ⟨v,rfl,rfl⟩;refine⟨_,U,?_⟩;rw[Qcq (by grind)];exact k
inductive XZ:Prop
 |mk(κ:Type)(dq:DecidableEq κ)(sk:SK κ)(v:V)(st nd:Aw)(k:κ)(l:List κ)(ws:A8):vs=[v,.ref st,.ref nd]->H st=some (.lst ws)->ws.length=l.length->sk.dic H nd l->sk.at_ H k v->l.Nodup->l.length<10000000->(∀H' ws',H' st=some (.lst ws')->((k∈l/\ws'=ws)\/(k∉l/\ws'=ws++[v]))->sk.dic H' nd (Y8 l k)->(∀b o,H b=some o->b≠st->b≠nd->H' b=some o)->(∀b,H b=none->H' b=none)->Q (.int ((Y8 l k).idxOf k:Int)) H')->XZ
theorem z9:FnD T.ck P w base 1 (spQ XZ):=by
 refine T.ck.go z6 ?_;rintro cdv A outer s H _ Q E hr ⟨κ,_,sk,v,st,C,k0,l,L,rfl,hst,Z,n,G,O,hl,k⟩;have hu:=zH hr;refine⟨_,(Zc (ZJ (Zo (OpR.or (Zdc (jv hr)) (Gd hu)) (qv 0) (qv 2) (by with_unfolding_all rfl))
   (Zc (QS.or (Zkb (jv hr) (qv 2) (qv 0) (Zp Z2 (by rfl) T.af Y7 (Zi (qv 1) Zd)) U) (JO hu (qv 2) (qv 0) (Zp Z2 (by rfl) T.af Y7 (Zi (qv 1) Zd)) U))
   (Zf (Yb (Yy Qar Qa2 Qa3 ZI (qv 1) (Zi (qv 0) Zd))))) Zx)
   (Zf (Zn (QE.or (Zka (jv hr) (qv 2) (qv 0) (λ_ _=>U)) (JN hu (qv 2) (qv 0) (λ_ _=>U)))))),?_⟩
 try dsimp only[L2.cxK,L2.cxK2]
 have M:st≠C:=λz=>by
  obtain⟨o,e,_,h⟩:=SK.ne n;rw[<-z,hst]at e;cases e;exact h _ U
 cases sk with
 |int f inj=>
  have n:H C=some (.dK (nk (l.map f))):=n;have G:v=.int (f k0):=G;subst G;have D:f k0∈l.map f↔k0∈l:=⟨λz=>let⟨a,ha,e⟩:=Qap.mp z;inj _ _ e ▸ ha,λz=>Qb5 z⟩;have Ua:(l.map f).Nodup:=by
   unfold List.Nodup;rw[List.pairwise_map];exact List.Pairwise.imp (λhne e=>hne (inj _ _ e)) O
  have ei:=Zc8 f k0 (Y8 l k0) λa _ e=>inj _ _ e;have em:=gL f l k0 λa _ e=>inj _ _ e;refine⟨_,U,_,U,.inr ⟨C,Yc (nk (l.map f)) (.inl (f k0)),U,.inl ⟨nk (l.map f),.inl (f k0),.inl n,U,U⟩,_,U,?_⟩⟩
  by_cases S:k0∈l
  .have e1:Y8 l k0=l:=Qa5 S;rw[e1]at k ei;rw[Zd1 (D.mpr S) Ua];refine ZK (.inr ⟨_,U,_,U,C,_,U,.inl ⟨nk (l.map f),.inl (f k0),.inl n,U,(Zd1 (D.mpr S) Ua).symm⟩,?_⟩);rw[ei];exact k H L hst (.inl ⟨S,U⟩) n (λ_ _ e _ _=>e) λ_ e=>e
  .have e1:Y8 l k0=l++[k0]:=Qaw S;have Y:f k0∉l.map f:=λz=>S (D.mp z);rw[e1]at k ei em;rw[Zky Y];have N:((l++[k0]).map f).Nodup:=by
    rw[<-em];exact XX Ua _
   refine Yp (.inr ⟨_,U,st,_,U,.inl (SqL.of hst),_,U,_,U,C,_,U,uU.k (k:=.inl (f k0)) n (by rw[nk_len,Qab];exact Y2 (by lia)),?_⟩);rw[Z,show(l.length:Int)=((l.map f).length:Int) by rw[Qab],nk_put Y];have e2:l.map f++[f k0]=(l++[k0]).map f:=by rw[Qau];rfl
   rw[e2];have r:upd H C (.dK (nk ((l++[k0]).map f))) st=some (.lst L):=by rw[Zj M];exact hst
   refine⟨_,U,.inl ⟨U,_,SqL.of r⟩,_,U,st,_,_,U,U,r,Y2 (by lia),?_⟩;have I:upd (upd H C (.dK (nk ((l++[k0]).map f)))) st (.lst (L++[.int (f k0)])) C=some (.dK (nk ((l++[k0]).map f))):=by rw[Zj M.symm];exact Za
   refine .inr ⟨_,U,_,U,C,_,U,.inl ⟨_,.inl (f k0),.inl I,U,(Zd1 (Qb5 (by simp)) N).symm⟩,?_⟩;rw[ei];refine k _ (L++[.int (f k0)]) Za (.inr ⟨S,U⟩) I (λb o e h1 h2=>?_) λb e=>?_
   .rw[Zj h1,Zj h2];exact e
   .rw[Zj (λz=>by rw[z,hst]at e;cases e),Zj (λz=>by rw[z,n]at e;cases e)];exact e
 |key kn=>
  have n:qu kn H C (X7 l):=n;obtain⟨a,rfl,G⟩:=G;refine⟨_,U,_,U,.inl ⟨κ,_,kn,C,a,k0,_,U,U,n,G,_,U,?_⟩⟩
  by_cases D:k0∈l
  .have e1:Y8 l k0=l:=Qa5 D;have hv:=Jd l k0 D O;rw[e1]at k;rw[hv];exact ZK (.inl ⟨_,U,_,U,κ,_,kn,C,a,k0,_,_,U,U,n,G,hv,k H L hst (.inl ⟨D,U⟩) n (λ_ _ e _ _=>e) λ_ e=>e⟩)
  .have e1:Y8 l k0=l++[k0]:=Qaw D;have hv:=GW l k0 D;have N:(l++[k0]).Nodup:=e1 ▸ XX O k0;rw[e1]at k;rw[hv];refine Yp (.inl ⟨_,U,st,_,U,.inl (SqL.of hst),_,U,_,U,κ,_,kn,C,a,k0,_,U,U,n,G,hv,?_,λH2 n2 o2 hx=>?_⟩)
   .rw[Jc];exact Y2 (by lia)
   rw[Z]at n2;rw[<-GV]at n2;have r:=o2 _ _ hst M;refine⟨_,U,.inl ⟨U,_,SqL.of r⟩,_,U,st,_,_,U,U,r,Y2 (by lia),?_⟩;have n3:qu kn (upd H2 st (.lst (L++[.ref a]))) C (X7 (l++[k0])):=SK.off (sk:=.key kn) n2 r;have hk2:kn.at_ H2 k0 a:=kn.keep _ _ _ _ (λb xs e=>o2 b _ e λz=>by
    obtain⟨o,e3,h3,_⟩:=Zd3 n;rw[z,e3]at e;cases e;exact h3 _ U) G
   have hk3:kn.at_ (upd H2 st (.lst (L++[.ref a]))) k0 a:=kn.keep _ _ _ _ (λb xs e=>by rw[Zj (ZY e r λz=>nomatch z)];exact e) hk2;refine .inl ⟨_,U,_,U,κ,_,kn,C,a,k0,_,_,U,U,n3,hk3,Jd _ _ (by simp) N,k _ (L++[.ref a]) Za (.inr ⟨D,U⟩) n3 (λb o e h1 h2=>?_) λb e=>?_⟩
   .rw[Zj h1];exact o2 b o e h2
   .obtain⟨oo,rfl⟩:=hx;rw[Zj (λz=>by rw[z,hst]at e;cases e),Zj (λz=>by
     obtain⟨o,e3,_⟩:=Zd3 n;rw[z,e3]at e;cases e)]
    exact e
inductive GA:Prop
 |mk(Kk:Type)(dq:DecidableEq Kk)(kn:KN Kk)(a:Aw)(as:List Aw)(ks:List Kk):vs=[.ref a]->H a=some (.lst (as.map V.ref))\/H a=some (.tup (as.map V.ref))->as.length=ks.length->(∀(i:Nat)(b:Aw)(k:Kk),as[i]?=some b->ks[i]?=some k->kn.at_ H k b)->ks.length<=1000000->(∀p H',H p=none->H' p=some (.lst ((ks.map λk=>((Z6 ks).idxOf k:Int)).map V.int))->Z7 H H'->Q (.ref p) H')->GA
theorem wY:FnD T.cy P w base 1 (spQ GA):=by
 refine T.cy.go z7 ?_;rintro cdv A outer s H _ Q E hr ⟨Kk,_,kn,a,as,ks,rfl,L,hl,hat,hz,k⟩;refine⟨_,(Zc (Zu 1 z7.nd x8)
   (Zf (Zn (YH ({}:ZW (Zk GY) _ ["marks","numbers"] "mark" ["numbers"] [1]) (show QI _ _ _ (Zmk K _)from Zj8 (qv 0)) (λ_ _ _ _=>Xk) (λ_ _ _ _=>(Zj5 (jv hr) (qv 1) (Zi (qv 0) (Zi (Zp Zc6 (by rfl) T.af Y7 (Zi (qv 1) Zd)) Zd)))))))),?_⟩
 refineλd hd=>?_;have S:=Zb (o:=.dK []) hd;refine Zg ?_;have n0:qu kn (upd H d (.dK [])) d (X7 (Z6 (ks.take 0))):=⟨Qbu,(show 0<sizeLine by decide),.inl ⟨U,Za⟩⟩;have step:∀(i:Nat)(b:Aw)(C:Kk)(H1:Hp)(R:VK),as[i]?=some b->ks[i]?=some C->qu kn H1 d (X7 (Z6 (ks.take i)))->(∀b o,H b=some o->H1 b=some o)->(∀H2,qu kn H2 d (X7 (Z6 (ks.take (i+1))))->(∀b o,H b=some o->H2 b=some o)->R (V.int ((Z6 ks).idxOf C:Int)) H2)->tBMN (Ze8 1) (Zbt (Ze8 0) (Zbt (tCB Zmi (Zbt (Ze8 1) tNil)) tNil)) (zF [1] [some (.ref a),some (.ref d)] (some (.ref b))) H1 R:=by
  intro i b C H1 R D G O N hR;have e1:Z6 (ks.take (i+1))=Y8 (Z6 (ks.take i)) C:=by rw[take_snoc G,jw]
  obtain⟨r,er⟩:=jx ks (i+1);have at1:kn.at_ H1 C b:=kn.keep _ _ _ _ (λb xs e=>N b _ e) (hat i b C D G);refine⟨_,U,⟨Kk,_,kn,d,_,U,O⟩,_,U,_,U,Kk,_,kn,d,_,U,O,Kk,_,kn,d,b,C,_,_,U,U,O,at1,?_,λy Ua=>?_,λhn H' n' o' _=>?_⟩
  .rw[Jc];exact Y2 (by have:=gJ (ks.take i);rw[Qbp]at this;lia)
  .by_cases I:C∈Z6 (ks.take i)
   .rw[Jd _ _ I (Xz _)]at Ua;cases Ua;have e2:Z6 (ks.take (i+1))=Z6 (ks.take i):=by rw[e1];exact Qa5 I
    have:=hR H1 (by rw[e2];exact O) N;rw[er,e2,xF I]at this;exact this
   .rw[GW _ _ I]at Ua;cases Ua
  .have I:C∉Z6 (ks.take i):=λz=>by
    rw[Jd _ _ z (Xz _)]at hn;cases hn
   have e2:Z6 (ks.take (i+1))=Z6 (ks.take i)++[C]:=by rw[e1];exact Qaw I
   have:=hR H' (by rw[e2,GV];rw[Jc]at n';exact n') (λc o e=>o' c o (N c o e) (Zm e hd));rw[er,e2,xF (by simp),List.idxOf_append,Qaw I,List.idxOf_cons_self,Qd8]at this;rw[Jc];exact this
 have fin:∀(zs:A8)(H1:Hp),zs=(ks.take as.length).map (λk=>V.int ((Z6 ks).idxOf k:Int))->(∀b o,H b=some o->H1 b=some o)->∀p,H1 p=none->Q (.ref p) (upd H1 p (.lst zs)):=by
  intro zs H1 ez N p hp;have s2:Z7 H H1:=N;refine k p _ (s2.free hp) ?_ (s2.trans (Zb hp));rw[Za,ez,hl,Qb1,Qa7];rfl
 have zl:∀i,((ks.take i).map (λk=>V.int ((Z6 ks).idxOf k:Int))).length<=sizeLine:=λi=>by
  rw[Qab,Qbp];exact Qa0 (Y2 (by lia))
 have item:∀(i:Nat)(x:V),(as.map V.ref)[i]?=some x->∃b C,x=.ref b/\as[i]?=some b/\ks[i]?=some C:=λi x M=>by
  rw[Qai]at M;obtain⟨b,D,rfl⟩:=Qa4.mp M;have hi:=(Qaf.mp D).1;exact⟨b,ks[i]'(by lia),U,D,Qac (by lia)⟩
 rcases L with L|L
 .refine⟨a,U,.inl ⟨⟨_,SqL.of (S _ _ L)⟩,Xy (K:=K) (a:=a) (xs:=as.map V.ref) (λi zs H'=>zs=(ks.take i).map (λk=>V.int ((Z6 ks).idxOf k:Int))/\qu kn H' d (X7 (Z6 (ks.take i)))/\∀b o,H b=some o->H' b=some o) ⟨U,n0,S⟩ (λi zs H' h=>by rw[h.1];exact zl i) (λi zs H' h=>SqL.of (h.2.2 _ _ L)) (λi x zs H1 R hR M h=>?_) (λzs H1 h=>?_)⟩⟩
  .obtain⟨b,C,rfl,D,G⟩:=item i x M;refine step i b C H1 _ D G h.2.1 h.2.2 λH2 Y Z=>hR _ _ ⟨?_,Y,Z⟩;rw[h.1,take_snoc G,Qau]
   rfl
  .rw[Qab]at h;exact fin zs H1 h.1 h.2.2
 .refine⟨a,U,.inr ⟨⟨_,SqT.of (S _ _ L)⟩,Wj (K:=K) (a:=a) (xs:=as.map V.ref) (λi zs H'=>zs=(ks.take i).map (λk=>V.int ((Z6 ks).idxOf k:Int))/\qu kn H' d (X7 (Z6 (ks.take i)))/\∀b o,H b=some o->H' b=some o) ⟨U,n0,S⟩ (λi zs H' h=>by rw[h.1];exact zl i) (λi zs H' h=>SqT.of (h.2.2 _ _ L)) (λi x zs H1 R hR M h=>?_) (λzs H1 h=>?_)⟩⟩
  .obtain⟨b,C,rfl,D,G⟩:=item i x M;refine step i b C H1 _ D G h.2.1 h.2.2 λH2 Y Z=>hR _ _ ⟨?_,Y,Z⟩;rw[h.1,take_snoc G,Qau]
   rfl
  .rw[Qab]at h;exact fin zs H1 h.1 h.2.2
inductive Jp:Prop
 |mk(a b:Aw)(ss:Aj)(cs:Ak):vs=[.ref a,.ref b]->H a=some (.tup (ss.map λs:Nat=>V.int s))->H b=some (.lst (cs.map V.int))->(∀s∈ss,s<cs.length)->ss.length<=1000000->cs.length<=1000000->(∀p H',H p=none->H' p=some (.tup ((ss.map λs=>cs.getD s 0).map V.int))->Z7 H H'->Q (.ref p) H')->Jp
theorem GB:FnD T.br P w base 1 (spQ Jp):=by
 refine T.br.go yB ?_;rintro S A outer s H _ Q E hr ⟨a,b,O,cs,rfl,L,N,M,Z,Y,k⟩;refine⟨_,(Zf (Zn (Z4 Z5 (by rfl) T.ah Yr (Zi (YH ({}:ZW (Zk Je) _ ["states","classes"] "state" ["classes"] [1]) (J4 (qv 0)) (λ_ _ _ _=>Xk) (λ_ _ _ _=>(Z1 (show IxR _ (rIxL K)from Zq) (qv 1) (qv 0)))) Zd)))),?_⟩;refine⟨_,U,a,U,⟨_,SqT.of L⟩,Zcf (fI λz=>V.int (cs.getD z.toNat 0)) (SqT.of L) (by rw[Qab];exact Qa0 (Y2 (by lia))) (λv Ua R hR=>?_) (λl C=>?_)⟩
 .obtain⟨s,D,rfl⟩:=Qap.mp Ua;have r:=M s D;exact⟨_,U,_,U,b,_,_,_,U,U,SqL.of N,Yv (by rw[Qai,Qac r];rfl),by
   have e:fI (λz=>V.int (cs.getD z.toNat 0)) (V.int s)=V.int cs[s]:=by
    show V.int _=_;rw[Qca,Qak,Qac r];rfl
   rw[e]at hR;exact hR⟩
 .refine⟨l,_,U,.inl ⟨SqL.of Za,λp G=>?_⟩⟩;have I:=(Zb (o:=.lst ((O.map λs:Nat=>V.int s).map (fI λz=>V.int (cs.getD z.toNat 0)))) C);refine k p _ (I.free G) ?_ (I.trans (Zb G));rw[Za,Qa7,Qa7];rfl
inductive JC:Prop
 |mk(a:Aw)(cs:Ak):vs=[.ref a]->H a=some (.lst (cs.map V.int))->cs.length<=1000000->(∀p H',H p=none->H' p=some (.lst ((zp cs 0 []).map λi:Nat=>V.int i))->Z7 H H'->Q (.ref p) H')->JC
theorem kj:FnD T.el P w base 1 (spQ JC):=by
 refine T.el.go XE ?_;rintro cdv A outer s H _ Q E hr ⟨a,cs,rfl,ha,hl,k⟩;refine⟨_,(Zc (Zu 1 XE.nd (ZA Zd))
   (Zc (YD Qbh U (Zfv U T.fu (qv 0)) (x6 U (Xh 2 XE.nd) (Xh 3 XE.nd))
   (Zf (ZJ (Zo Ym (qv 3) (Zp Z2 (by rfl) T.af Y7 (Zi (qv 1) Zd)) (Zz _))
   (Zf (Yb (Yy Qar Qa2 Qa3 ZI (qv 1) (Zi (qv 2) Zd)))) Zx)))
   (Zf (Zn (qv 1))))),?_⟩
 refine⟨by decide,λp S=>?_⟩;have Z:=Zb (o:=.lst []) S;refine Zg ?_;refine⟨_,U,a,_,U,SqL.of (Z _ _ ha),gz (K:=K) (a:=a) (xs:=cs.map V.int) (λi σ H'=>∃(acc:Aj)(M Ua:Option V),σ=[some (.ref a),some (.ref p),M,Ua]/\H' p=some (.lst (acc.map λi:Nat=>V.int i))/\zp cs 0 []=zp (cs.drop i) i acc/\acc.length<=i/\i<=cs.length/\Z7 H H') ⟨[],none,none,U,Za,U,Qah _,Qbe _,Z⟩ (λi σ H' _ ⟨_,_,_,_,_,_,_,_,s⟩=>SqL.of (s _ _ ha)) ?_ ?_⟩
 .rintro i x σ H1 q hx hq ⟨acc,M,Ua,rfl,G,L,N,hi,I⟩;rw[Qai]at hx;obtain⟨c,Y,rfl⟩:=Qa4.mp hx;have D:i<cs.length:=(Qaf.mp Y).1;have O:=Zb (o:=.tup [.int i,.int c]) hq;have C:=O _ _ G;have r:zp cs 0 []=zp (cs.drop (i+1)) (i+1) (if c=(acc.length:Int)then acc++[i]else acc):=by
   rw[L,Qdc D,(Qaf.mp Y).2];rfl
  refine⟨_,U,_,U,p,_,U,.inl (SqL.of C),U,_,U,?_⟩;rw[Qab]
  by_cases h:c=(acc.length:Int)
  .rw[Qa5 h]at r;rw[Qaq (by rw[h])];refine Yp ⟨_,U,.inl ⟨U,_,SqL.of C⟩,_,U,p,_,_,U,U,C,by rw[Qab];exact Y2 (by lia),acc++[i],_,_,U,?_,r,by grind,D,ZF (I.trans O) S⟩;rw[Za,Qau];rfl
  .rw[Qaw h]at r;rw[Qan (λz=>h (by injection z))];exact ZK ⟨acc,_,_,U,C,r,by lia,D,I.trans O⟩
 .rintro σ H1 ⟨acc,M,Ua,rfl,G,L,N,hi,I⟩;rw[Qab,Qeh]at L;exact⟨_,U,k p H1 S (by rw[G,L];rfl) I⟩
inductive W9:Prop
 |mk(y:Str):vs=[.str y]->Q (.bl (decide (y∈Wz))) H->W9
theorem zW:FnD T.dc P w base 1 (spQ W9):=by
 refine T.dc.go zR ?_;rintro r A outer s H _ Q E C ⟨y,rfl,k⟩;refine⟨_,(Zf (Zn (Yn kP (qv 0) (Wi (v:=.ref _) U T.bf.m U) (by with_unfolding_all rfl)))),⟨_,U,_,T1,.inr y,U,T.bf.d,U,?_⟩⟩;rw[Zil];exact k
inductive XG:Prop
 |mk(k:Key):vs=[kV k]->Q (.bl (clK k)) H->XG
omit T TB in
theorem Ze4(l:List (Str×Int))(k:Key):(Yc (kvsOf l) k).isSome=(match k with|.inr y=>decide (y∈l.map (·.1))|.inl _=>false):=by
 cases k with
 |inr y=>exact Zil l y
 |inl z=>
  induction l with
  |nil=>rfl
  |cons p r C=>
   have e:Yc (kvsOf (p::r)) (.inl z)=Yc (kvsOf r) _:=ZP (λz=>nomatch z);rw[e,C]
omit T TB in
theorem Zhb(k:Key):clK k=((Yc (kvsOf T2) k).isSome||(Yc (kvsOf T3) k).isSome):=by
 rw[Ze4,Ze4];cases k with
 |inl z=>rfl
 |inr y=>
  show decide _=(decide _||decide _);have e:Zv=T2.map (·.1)++T3.map (·.1):=by decide +kernel
  rw[e]
  by_cases h1:y∈T2.map (·.1)
  .grind
  .grind
theorem qM:FnD T.bx P w base 1 (spQ XG):=by
 refine T.bx.go qJ ?_;rintro C A outer s H _ Q E D ⟨r,rfl,k⟩;refine⟨_,(Zf (Zn (Zji (Yn kP (qv 0) (Wi (v:=.ref _) U T.av.m U) (by with_unfolding_all rfl)) (JX (Yn kP (qv 0) (Wi (v:=.ref _) U T.aj.m U) (by with_unfolding_all rfl)))))),?_⟩;rw[Zhb]at k;refine⟨_,U,_,T2,r,U,T.av.d,U,_,U,?_⟩;cases h:(Yc _ r).isSome with
 |true=>
  rw[h]at k;exact Yp k
 |false=>
  rw[h]at k;exact ZK ⟨_,U,_,T3,r,U,T.aj.d,U,k⟩
inductive WA:Prop
 |mk(k:Key):vs=[kV k]->Q (.int (JQ T1 k+JQ T2 k)) H->WA
theorem zX:FnD T.ba P w base 1 (spQ WA):=by
 refine T.ba.go zS ?_;rintro C A outer s H _ Q E D ⟨r,rfl,k⟩;refine⟨_,(Zf (Zn (Zl Yj (kQ (Wi (v:=.ref _) U T.bf.m U) (qv 0) Ze) (kQ (Wi (v:=.ref _) U T.av.m U) (qv 0) Ze)))),⟨_,T1,U,T.bf.d,_,U,r,U,_,T2,U,T.av.d,_,U,r,U,?_⟩⟩;rw[kget,kget];exact⟨_,_,U,U,k⟩
inductive XH:Prop
 |mk(k:Key):vs=[kV k]->Q (.int (JQ T3 k)) H->XH
theorem qN:FnD T.ax P w base 1 (spQ XH):=by
 refine T.ax.go qK ?_;rintro r A outer s H _ Q E D ⟨C,rfl,k⟩;refine⟨_,(Zf (Zn (kQ (Wi (v:=.ref _) U T.aj.m U) (qv 0) Ze))),⟨_,T3,U,T.aj.d,_,U,C,U,?_⟩⟩;rw[kget];exact k
inductive Jq:Prop
 |mk(y sg:Str):vs=[.str y,.str sg]->y.length<=100000->(∀H',Z7 H H'->Q (.bl (decide (j6 y sg))) H')->Jq
theorem yD:FnD T.dn P w base 1 (spQ Jq):=by
 refine T.dn.go yC ?_;rintro I A outer s H _ Q E M ⟨y,r,rfl,L,k⟩;refine⟨_,(Zf (Zn (jh (Yn Zfj (qv 0) Zh (Zz _)) (JX (Zp (Zcd U) (by rfl) T.aba bt_all (Zi (YH ({}:ZW (Zk Jh) _ ["text","signs"] "sign" ["signs"] [1]) (qi_str (qv 0)) (λ_ _ _ _=>Xk) (λ_ _ _ _=>(Yn Zbp (qv 0) (qv 1) (by with_unfolding_all rfl)))) Zd)))))),?_⟩;refine⟨_,U,U,_,U,?_⟩
 by_cases G:y.cps.toList=[]
 .have e:=xV.mp G;subst e;refine ZK ?_;have e2:decide (j6 ("" : Str) r)=false:=Qan λz=>z.1 (xV.mpr U);have:=k H (Z7.refl H);exact this
 rw[Qan λz=>G (xV.mpr (by injection z))];refine Yp ?_;refine⟨_,U,y,U,Zfw (λc=>.bl (decide (c∈r.cps.toList))) (Qa1 (L) (by decide)) (λc _ R hR=>?_) (λl C=>?_)⟩
 .refine⟨_,U,_,U,_,_,U,U,?_⟩;rw[Zkp];exact hR
 have e1:(y.cps.toList.map λc=>V.bl (decide (c∈r.cps.toList)))=(y.cps.toList.map λc=>decide (c∈r.cps.toList)).map V.bl:=by simp
 rw[e1];refine⟨l,_,U,SqL.of Za,?_⟩;rw[all_bs];have e2:decide (j6 y r)=decide (∀c∈y.cps.toList,decide (c∈r.cps.toList)=true):=by
  rw[Qfc,Qek,Qek];constructor
  .intro z c D;exact Qaq (z.2 c D)
  .intro z;exact⟨G,λc D=>Qbb (z c D)⟩
 rw[<-e2];exact k _ (Zb C)
inductive JD:Prop
 |mk(x:V):vs=[x]->YZ x=true->Q (.bl (inV x (allR.map V.str))) H->JD
theorem qB:FnD T.cg P w base 1 (spQ JD):=by
 refine T.cg.go kb ?_;rintro r A outer s H _ Q E D ⟨x,rfl,C,k⟩;refine⟨_,(Zf (Zn (Yn Ya (qv 0) (Wi (v:=.ref _) U T.da.m U) (by with_unfolding_all rfl)))),?_⟩;exact⟨_,U,_,_,U,.inr (T.da.d H),C,(by
    rw[List.all_map];exact Qb2.mpr λ_ _=>U),k⟩
inductive GC:Prop
 |mk(a b h:Int):vs=[.int a,.int b,.int h]->Q (.int (Zmx a b h)) H->GC
theorem zA:FnD T.cz P w base 1 (spQ GC):=by
 refine T.cz.go wU ?_;rintro r A outer s H _ Q E C ⟨a,b,h,rfl,k⟩;refine⟨_,(Zf (Zn (Zl yK (Zl Wt (JW xo (qv 0)) (qv 1)) (Zl Wt (qv 2) (JW xo (Zl jg (qv 0) (qv 1))))))),⟨_,U,_,U,_,U,_,_,U,U,_,U,_,U,_,U,_,_,U,U,_,U,_,_,U,U,_,_,U,U,k⟩⟩
inductive WC:Prop
 |mk(y:Str)(p:Aw)(is:Ak):vs=[.str y,.ref p]->H p=some (.lst (is.map V.int))->y∈Zdv->is.length=Zdt y->(∀H',Z7 H H'->Q (.int (oaI y is)) H')->WC
theorem zY:FnD T.df P w base 1 (spQ WC):=by
 refine T.df.go zT ?_;rintro cdv A outer s H _ Q E hr ⟨y,p,is,rfl,hp,hy,G,k⟩;refine⟨_,(Zc (ZJ (Zo Ym (qv 0) Zh (Zz _))
   (Zf (Zn (JW xn Ze))) Zx)
   (Zc (ZJ (Zo Ym (qv 0) Zh (Zz _))
   (Zf (Zn (Z1 Zq (qv 1) Ze))) Zx)
   (Zc (ZJ (Zo Ya (qv 0) (Z0 (Zi Zh (Zi Zh Zd))) (by with_unfolding_all rfl))
   (Zf (Zn (JW xo (Z1 Zq (qv 1) Ze)))) Zx)
   (Zc (ZJ (Zo Ya (qv 0) (Z0 (Zi Zh (Zi Zh Zd))) (by with_unfolding_all rfl))
   (Zf (Zn (Zl Wt (Z1 Zq (qv 1) Ze) (Z1 Zq (qv 1) Ze)))) Zx)
   (Zc (ZJ (Zo Ya (qv 0) (Z0 (Zi Zh (Zi Zh Zd))) (by with_unfolding_all rfl))
   (Zf (Zn (Zl yK (Z1 Zq (qv 1) Ze) (Z1 Zq (qv 1) Ze)))) Zx)
   (Zc (ZJ (Zo Ym (qv 0) Zh (Zz _))
   (Zf (Zn (Zl jg (Z1 Zq (qv 1) Ze) (Z1 Zq (qv 1) Ze)))) Zx)
   (Zc (ZJ (Zo Ym (qv 0) Zh (Zz _))
   (Zf (Zn (Zl yK (JW xo (Z1 Zq (qv 1) Ze)) (Z1 Zq (qv 1) Ze)))) Zx)
   (Zf (Zn (Zl yK (Zl Wt (Z1 Zq (qv 1) Ze) (Z1 Zq (qv 1) Ze)) (Zl Wt (JW xo (Z1 Zq (qv 1) Ze)) (Z1 Zq (qv 1) Ze)))))))))))),?_⟩
 unfold oaI at k;refine⟨_,U,U,_,U,?_⟩
 by_cases h1:y = "yes"
 .rw[Qaq (congrArg V.str h1)];rw[Qa5 h1]at k;refine Yp ?_;exact⟨_,U,k H (Z7.refl _)⟩
 rw[Qan (λz=>h1 (by injection z))];rw[Qaw h1]at k;refine ZK ⟨_,U,U,_,U,?_⟩
 by_cases h2:y = "sign"
 .rw[Qaq (congrArg V.str h2)];rw[Qa5 h2]at k;refine Yp ?_;exact⟨_,U,p,_,0,_,U,U,SqL.of hp,ZG 0 rfl (zb G (by rw[h2];decide +kernel)),k H (Z7.refl _)⟩
 rw[Qan (λz=>h2 (by injection z))];rw[Qaw h2]at k;refine ZK ⟨_,U,by decide,λq hq=>⟨q,_,U,.inr (SqT.of Za),U,U,_,U,?_⟩⟩;show if inV (.str y) ((["not","never"]:Ai).map V.str)=true then _ else _;rw[ZC];have L:=Zb (o:=.tup [.str "not",.str "never"]) hq;have pq:=L _ _ hp;generalize upd H q (.tup [.str "not",.str "never"])=H1 at *
 by_cases Y:y = "not" \/ y = "never"
 .rw[Qaq (by grind)];rw[Qa5 Y]at k;refine Yp ?_;exact⟨_,U,p,_,0,_,U,U,SqL.of pq,ZG 0 rfl (zb G (by rcases Y with h|h<;>rw[h]<;>decide +kernel)),_,U,k H1 L⟩
 rw[Qan (by grind)];rw[Qaw Y]at k;refine ZK ⟨_,U,by decide,λr hr=>⟨r,_,U,.inr (SqT.of Za),U,U,_,U,?_⟩⟩;show if inV (.str y) ((["and","both"]:Ai).map V.str)=true then _ else _;rw[ZC];have O:=Zb (o:=.tup [.str "and",.str "both"]) hr;have pr:=O _ _ pq;generalize upd H1 r (.tup [.str "and",.str "both"])=H2 at *
 by_cases Ua:y = "and" \/ y = "both"
 .rw[Qaq (by grind)];rw[Qa5 Ua]at k;refine Yp ?_;have I:2<=is.length:=zb G (by rcases Ua with h|h<;>rw[h]<;>decide +kernel);exact⟨_,U,p,_,0,_,U,U,SqL.of pr,ZG 0 rfl (by lia),_,U,p,_,1,_,U,U,SqL.of pr,ZG 1 rfl I,_,_,U,U,k H2 (L.trans O)⟩
 rw[Qan (by simp only[Qas,Qbq,Qe1];exact Ua)];rw[Qaw Ua]at k;refine ZK ⟨_,U,by decide,λt1 ht1=>⟨t1,_,U,.inr (SqT.of Za),U,U,_,U,?_⟩⟩;show if inV (.str y) ((["or","either"]:Ai).map V.str)=true then _ else _;rw[ZC];have D:=Zb (o:=.tup [.str "or",.str "either"]) ht1;have C:=D _ _ pr;generalize upd H2 t1 (.tup [.str "or",.str "either"])=Z at *
 by_cases N:y = "or" \/ y = "either"
 .rw[Qaq (by simp only[Qas,Qbq,Qe1];exact N)];rw[Qa5 N]at k;refine Yp ?_;have I:2<=is.length:=zb G (by rcases N with h|h<;>rw[h]<;>decide +kernel);exact⟨_,U,p,_,0,_,U,U,SqL.of C,ZG 0 rfl (by lia),_,U,p,_,1,_,U,U,SqL.of C,ZG 1 rfl I,_,_,U,U,k Z ((L.trans O).trans D)⟩
 rw[Qan (by simp only[Qas,Qbq,Qe1];exact N)];rw[Qaw N]at k;refine ZK ⟨_,U,U,_,U,?_⟩
 by_cases M:y = "odd"
 .rw[Qaq (congrArg V.str M)];rw[Qa5 M]at k;refine Yp ?_;have I:2<=is.length:=zb G (by rw[M];decide +kernel);exact⟨_,U,p,_,0,_,U,U,SqL.of C,ZG 0 rfl (by lia),_,U,p,_,1,_,U,U,SqL.of C,ZG 1 rfl I,_,_,U,U,k Z ((L.trans O).trans D)⟩
 rw[Qan (λz=>M (by injection z))];rw[Qaw M]at k;refine ZK ⟨_,U,U,_,U,?_⟩
 by_cases S:y = "so"
 .rw[Qaq (congrArg V.str S)];rw[Qa5 S]at k;refine Yp ?_;have I:2<=is.length:=zb G (by rw[S];decide +kernel);exact⟨_,U,p,_,0,_,U,U,SqL.of C,ZG 0 rfl (by lia),_,U,_,U,p,_,1,_,U,U,SqL.of C,ZG 1 rfl I,_,_,U,U,k Z ((L.trans O).trans D)⟩
 rw[Qan (λz=>S (by injection z))];rw[Qaw S]at k;have l3:3<=is.length:=zb G (Zak y hy h1 h2 Y Ua N M S);exact ZK ⟨_,U,p,_,0,_,U,U,SqL.of C,ZG 0 rfl (by lia),_,U,p,_,1,_,U,U,SqL.of C,ZG 1 rfl (by lia),_,_,U,U,_,U,p,_,0,_,U,U,SqL.of C,ZG 0 rfl (by lia),_,U,_,U,p,_,2,_,U,U,SqL.of C,ZG 2 rfl l3,_,_,U,U,_,_,U,U,k Z ((L.trans O).trans D)⟩
inductive X4:Prop
 |mk(tw:Aw)(ws:A8):vs=[.ref tw]->H tw=some (.tup ws)->ws.length<=1000->(∀w∈ws,(∃y,w=.str y)\/∃z:Int,w=.int z)->(∀(L:Nat) H',(∀z:Int,V.int z∈ws->Builtin.Int.intBits z<=L)->(L=0\/∃z:Int,V.int z∈ws/\L=Builtin.Int.intBits z)->Z7 H H'->Q (.int L) H')->X4
theorem qf:FnD T.bu P w base 1 (spQ X4):=by
 refine T.bu.go qd ?_;rintro M A outer s H _ Q E S ⟨tw,r,rfl,G,O,hw,k⟩;refine⟨_,(Zf (Zn (Zkg U U T.fj (YH ({}:ZW (Zk Xi) _ ["words"] "word" [] []) (J4 (qv 0)) (λ_ _ _ _=>(gr (Xx (Zp (show Xf _ (.builtin "isinstance") (Zm7 K)from X8) (by rfl) T.ai Yg (Zi (qv 0) (Zi (WS (v:=.ty "int") (by rfl) T.bc Wu U) Zd)))))) (λ_ _ _ _=>(show QE _ _ (tBM0 K "int" Zmm (Ze8 0))from(WU PySem.F.plainAttrs_int PySem.F.slot_int_bit_length PySem.F.type_int_bit_length Zkh (qv 0))))) Ze))),?_⟩;refine⟨_,U,tw,U,⟨_,SqT.of G⟩,Wj (K:=K) (a:=tw) (xs:=r) (λi zs H'=>zs=(Gy (r.take i)).map V.int/\H'=H) ⟨U,U⟩ (λi zs H' h=>?_) (λi zs H' h=>by rw[h.2];exact SqT.of G) (λi x zs H1 R hR C h=>?_) (λzs H1 h p L=>?_)⟩
 .rw[h.1,Qab];have:=vH (r.take i);rw[Qbp]at this;exact Qa0 (Z3 (by lia))
 .obtain⟨rfl,rfl⟩:=h;rcases hw x (Qat C)with⟨y,rfl⟩|⟨z,rfl⟩
  .refine⟨_,U,_,_,_,_,U,.str y,Xw,_,U,ZK (hR _ _ ⟨?_,U⟩)⟩;rw[take_snoc C,zi];exact congrArg (List.map V.int) (Qbv _).symm
  .refine⟨_,U,_,_,_,_,U,.int z,Xv,_,U,Yp ⟨_,U,U,z,U,U,hR _ _ ⟨?_,U⟩⟩⟩;rw[take_snoc C,zi,Qau];rfl
 .obtain⟨rfl,rfl⟩:=h;have sp:=Zb (o:=.lst ((Gy (r.take r.length)).map V.int)) L;refine⟨p,Gy (r.take r.length),U,SqL.of Za,λe=>?_,λm I C=>?_⟩
  .rw[Qb1]at e;refine k 0 _ (λz D=>?_) (.inl U) sp;have:=zj D;rw[e]at this;cases this
  .rw[Qb1]at I C;obtain⟨z,D,rfl⟩:=uf I;exact k _ _ (λy N=>Int.ofNat_le.mp (C _ (zj N))) (.inr ⟨z,D,U⟩) sp
inductive qC:Prop
 |mk(p:Aw)(cs:Ak)(l:Nat):vs=[.ref p,.int l]->H p=some (.lst (cs.map V.int))->cs.length<=1000->l<=100->(∀t H',H t=none->H' t=some (.tup ((cs.map λc=>bt c l).map V.int))->Z7 H H'->Q (.ref t) H')->qC
theorem Za3:FnD T.bz P w base 1 (spQ qC):=by
 refine T.bz.go Za1 ?_;rintro M A outer s H _ Q E O ⟨p,cs,l,rfl,C,N,I,k⟩;refine⟨_,(Zf (Zn (Z4 Z5 (by rfl) T.ah Yr (Zi (YH ({}:ZW (Zk xM) _ ["columns","letter"] "column" ["letter"] [1]) (YG (qv 0)) (λ_ _ _ _=>Xk) (λ_ _ _ _=>(Zl Wt (Zl gn (qv 0) (qv 1)) Ze))) Zd)))),?_⟩;refine⟨_,U,p,U,⟨_,SqL.of C⟩,comp_map (fI λc=>V.int (bt c l)) (SqL.of C) (by rw[Qab];exact Qa0 (Z3 (by lia))) (λv L R hR=>?_) (λq G=>?_)⟩
 .obtain⟨c,_,rfl⟩:=Qap.mp L;refine⟨_,U,_,U,_,_,U,U,Qfm l,_,_,U,U,?_⟩;have e:fI (λc=>V.int (bt c l)) (V.int c)=V.int (Builtin.bitAnd (c/2^(l:Int).toNat) 1):=by
   rw[and_1];rfl
  rw[e]at hR;exact hR
 .refine⟨q,_,U,.inl ⟨SqL.of Za,λt r=>?_⟩⟩;have D:=Zb (o:=.lst ((cs.map V.int).map (fI λc=>V.int (bt c l)))) G;refine k t _ (D.free r) ?_ (D.trans (Zb r));rw[Za,Qa7,Qa7];rfl
inductive WD:Prop
 |mk(d ps:Aw)(kvs:List (Nat×Nat))(nx:Ad):vs=[.ref d,.ref ps]->Rd H d (.dK (dW kvs))->WM H ps (nx.map q9)->(∀q∈kvs,q.1<nx.length)->(∀r∈nx,∀s∈r,s<nx.length)->nx.length<=1000000->(∀o p (kvs':List (Nat×Nat)) H',H p=none->H' p=some (.dK (dW kvs'))->(∀F,wsum kvs' F=wsum kvs λs=>((nx.getD s []).map F).sum)->(kvs'.map (·.1)).Nodup->(∀q∈kvs',q.1<nx.length)->Z7 (upd H d (.frz o (.dK (dW kvs)))) H'->Q (.ref p) H')->WD
theorem zZ:FnD T.dg P w base 1 (spQ WD):=by
 refine T.dg.go YA ?_;rintro cdv A outer s H _ Q E S ⟨d,ps,kvs,nx,rfl,hd,R,hlt,hnx,N,k⟩;have hu:=zH S;refine⟨_,(Zc (Zu 2 YA.nd x8)
   (Zc (YD Qbh U (gP (qv 0)) (x6 U (Xh 3 YA.nd) (Xh 4 YA.nd))
   (Zf (YD Qbh U (J4 (Z1 Yf (qv 1) (qv 3))) (Xh 5 YA.nd)
   (Zf (JO hu (qv 2) (qv 5) (Zl Yj (Yy Qff Qeo Qfu Zkk (qv 2) (Zi (qv 5) (Zi Ze Zd))) (qv 4)) U)))))
   (Zf (Zn (qv 2))))),?_⟩
 refineλon C=>Zg ?_;have O:d≠on:=λz=>by rw[z]at hd;rcases hd with e|⟨_,e⟩<;>rw[C]at e<;>cases e
 have s1:=Zb (o:=.dK []) C;refine⟨_,U,d,_,U,Zd0 hd s1,λo=>?_⟩;have R0:WM (upd (upd H on (.dK [])) d (.frz o (.dK (dW kvs)))) ps (nx.map q9):=by
  obtain⟨as,h1,h2,G⟩:=R.same s1;have nd:∀{b:Aw} {xs:A8},upd H on (.dK []) b=some (.tup xs)->upd (upd H on (.dK [])) d (.frz o (.dK (dW kvs))) b=some (.tup xs):=λ{b xs} e=>by
   rw[Zj (λz=>by rw[z]at e;rcases Zd0 hd s1 with z|⟨_,z⟩<;>rw[e]at z<;>cases z)];exact e
  refine⟨as,nd h1,h2,λi r S=>?_⟩;obtain⟨a,g1,g2⟩:=G i r S;exact⟨a,g1,nd g2⟩
 have Ua:upd (upd H on (.dK [])) d (.frz o (.dK (dW kvs))) on=some (.dK (dW [])):=by rw[Zj O.symm,Za];rfl
 have hd1:upd (upd H on (.dK [])) d (.frz o (.dK (dW kvs))) d=some (.frz o (.dK (dW kvs))):=Za;have s0:Z7 (upd H d (.frz o (.dK (dW kvs)))) (upd (upd H on (.dK [])) d (.frz o (.dK (dW kvs)))):=λb u e=>by
  by_cases hb:b=d
  .rw[hb,Za]at e ⊢;exact e
  .rw[Zj hb]at e ⊢;exact s1 _ _ e
 have hond:upd H d (.frz o (.dK (dW kvs))) on=none:=by rw[Zj O.symm];exact C
 have dl:=uB kvs;refine Zdh (K:=K) (a:=d) (o:=o) (kvs:=dW kvs) (λi σ H'=>∃(k1:List (Nat×Nat))(u3 u4 I:Option V),σ=[some (.ref d),some (.ref ps),some (.ref on),u3,u4,I]/\H' on=some (.dK (dW k1))/\(∀F,wsum k1 F=wsum (kvs.take i) λs=>((nx.getD s []).map F).sum)/\(k1.map (·.1)).Nodup/\(∀q∈k1,q.1<nx.length)/\WM H' ps (nx.map q9)/\H' d=some (.frz o (.dK (dW kvs)))/\Z7 (upd H d (.frz o (.dK (dW kvs)))) H') ⟨[],none,none,none,U,Ua,λF=>U,Qbu,(λ_ z=>nomatch z),R0,hd1,s0⟩ (λi σ H' _ ⟨_,_,_,_,_,_,_,_,_,_,h,_⟩=>h) ?_ ?_
 .rintro i q0 σ H1 p Y hp ⟨k1,u3,u4,I,rfl,h1,w1,n1,l1,R1,f1,s2⟩;obtain⟨q,Z,rfl⟩:∃q,kvs[i]?=some q/\((Sum.inl (q.1:Int):Key),V.int (q.2:Int))=q0:=by
   unfold dW at Y;rw[Qai]at Y;exact Qa4.mp Y
  have hqm:=Qat Z;have M:=hlt q hqm;have s3:=Zb (o:=.tup [kV (.inl (q.1:Int)),.int (q.2:Int)]) hp;obtain⟨as,g1,g2,g3⟩:=R1.same s3;obtain⟨ra,g4,g5⟩:=g3 q.1 (q9 nx[q.1]) (by rw[Qai,Qac M];rfl);have R2:=R1.same s3;have h2:=s3 _ _ h1;have f2:=s3 _ _ f1;have s4:=s2.trans s3;have hgd:nx.getD q.1 []=nx[q.1]:=by rw[Qak,Qac M];rfl
  refine⟨_,U,_,U,ps,_,_,_,U,U,SqT.of g1,Yv g4,ra,U,⟨_,SqT.of g5⟩,?_⟩;refine Zbk (K:=K) (a:=ra) (xs:=q9 nx[q.1]) (λj σ H'=>∃(k2:List (Nat×Nat))(I:Option V),σ=[some (.ref d),some (.ref ps),some (.ref on),some (.int (q.1:Int)),some (.int (q.2:Int)),I]/\H' on=some (.dK (dW k2))/\(∀F,wsum k2 F=wsum k1 F+q.2*((nx[q.1].take j).map F).sum)/\(k2.map (·.1)).Nodup/\(∀q∈k2,q.1<nx.length)/\WM H' ps (nx.map q9)/\H' d=some (.frz o (.dK (dW kvs)))/\H' ra=some (.tup (q9 nx[q.1]))/\Z7 (upd H d (.frz o (.dK (dW kvs)))) H') ⟨k1,I,U,h2,λF=>by rfl,n1,l1,R2,f2,g5,s4⟩ (λi σ H' _ ⟨_,_,_,_,_,_,_,_,_,h,_⟩=>SqT.of h) ?_ ?_
  .rintro j x σ H3 hx ⟨k2,I,rfl,G,w3,n3,l3,R3,f3,t3,s5⟩;unfold q9 at hx;rw[Qai]at hx;obtain⟨y,hy,rfl⟩:=Qa4.mp hx;have hyn:y<nx.length:=hnx _ (Qbi M) y (Qat hy);have kl:k2.length<=1000000:=Qa1 (by
    have:=Zeu n3 λx hx=>by
     obtain⟨q,Y,rfl⟩:=Qap.mp hx;exact l3 q Y
    rwa [Qab]at this) N
   refine Zg ⟨_,U,.inr (.inr (.inl ⟨U,.inl ⟨_,G⟩⟩)),_,U,on,.inl (y:Int),.int 0,_,U,U,.inl G,?_⟩;rw[Zi1];refine⟨_,U,_,_,U,U,_,U,_,U,on,_,U,uU.k (k:=.inl (y:Int)) G (by rw[uB];exact Y2 (by lia)),?_⟩;have L:=Zi2 (s:=y) (t:=q.2) n3;rw[Qgk]at L;rw[L];have D:∀{b:Aw} {u:HO},H3 b=some u->(∀kv,u≠.dK kv)->upd H3 on (.dK (dW (addW k2 y q.2))) b=some u:=λ{b u} e hu=>by
    rw[Zj (ZY e G (hu _))];exact e
   refine⟨addW k2 y q.2,_,U,Za,λF=>?_,Zet n3,λz hz=>?_,?_,D f3 (λ_ z=>nomatch z),D t3 (λ_ z=>nomatch z),ZF s5 hond⟩
   .rw[uA,w3,take_snoc hy,Qau,Qdn];show _=_+q.2*(_+[F y].sum);rw[Qdg,Nat.mul_add,Qgb]
   .rcases zt (Qap.mpr ⟨z,hz,U⟩)with h|h
    .obtain⟨z',h1,h2⟩:=Qap.mp h;rw[<-h2];exact l3 z' h1
    .rw[h];exact hyn
   .obtain⟨as,e1,e2,e3⟩:=R3;refine⟨as,D e1 (λ_ z=>nomatch z),e2,λi r S=>?_⟩;obtain⟨a,e4,e5⟩:=e3 i r S;exact⟨a,e4,D e5 (λ_ z=>nomatch z)⟩
  .rintro σ H3 ⟨k2,I,rfl,G,w3,n3,l3,R3,f3,t3,s5⟩;refine⟨k2,_,_,_,U,G,λF=>?_,n3,l3,R3,f3,s5⟩;have e:(q9 nx[q.1]).length=nx[q.1].length:=Qab ..;rw[w3,e,Qb1,w1,take_snoc Z];unfold wsum;rw[Qau,Qdn];show _=_+[q.2*_].sum;rw[Qdg,<-hgd]
 .rintro σ H1 ⟨k1,u3,u4,I,rfl,h1,w1,n1,l1,R1,f1,s2⟩;rw[dl,Qb1]at w1;exact⟨_,U,k o on k1 H1 C h1 w1 n1 l1 s2⟩
inductive JE:Prop
 |mk(a:Int):vs=[.int a]->Q (.bl true) H->JE
theorem km:FnD T.et P w base 1 (spQ JE):=by
 refine T.et.go ke ?_;rintro r A outer s H _ Q E C ⟨a,rfl,k⟩;refine⟨_,(Zf (Zn (jh (Zp X8 (by rfl) T.ai Yg (Zi (qv 0) (Zi (WS (v:=.ty "int") (by rfl) T.bc Wu U) Zd))) (JX (Zb4 (Zp X8 (by rfl) T.ai Yg (Zi (qv 0) (Zi (WS (v:=.ty "bool") (by rfl) T.aaw (by decide +kernel) U) Zd)))))))),⟨_,U,_,_,_,_,U,.int a,Xv,true,U,Yp ⟨_,U,_,_,_,_,U,.int a,yW,false,U,k⟩⟩⟩
inductive Jr(K:Af):Prop
 |mk(a:Aw)(ns:Ak)(k:Nat):vs=[.ref a,.int k]->SqL K H a (ns.map V.int)->ns.length<=63->k<=1000->(∀(r:Int) H',0<=r->r<1000000->Z7 H H'->Q (.int r) H')->Jr K
def yE(K:Af):Sp:=λvs H Q _=>Jr vs H Q K
theorem Xp:FnD T.ag P w base 1 (yE K):=by
 refine T.ag.go ZV ?_;rintro cdv A outer s H _ Q E hr ⟨a,ns,r,rfl,hS,h63,hk,k⟩;refine⟨_,(Zc (Zu 2 ZV.nd (Zl Zhz (Z4 yR (by rfl) T.pe Zb2 (Zi (qv 0) Zd)) (ZA (Zi Ze Zd))))
   (Zc (Zu 3 ZV.nd (Zp (xp U) (by rfl) T.fj jl (Zi Ze (Zi (Zp Z2 (by rfl) T.af Y7 (Zi (qv 0) Zd)) Zd))))
   (Zc (Zu 4 ZV.nd (Z1 Zq (qv 2) (Zl ZO (qv 1) (qv 3))))
   (Zc (Zu 5 ZV.nd (Zl ZH (qv 1) (qv 3)))
   (Zc (ZJ (Zo op_ge (qv 4) (Zl op_pow Ze Ze) (Zz _))
   (Zc (YD Qbh U (Xb U T.bb (Zi (Zp (xq U) (by rfl) T.lb Zce (Zi (qv 5) (Zi Ze Zd))) Zd)) (Xh 6 ZV.nd)
   (Zf (Zu 4 ZV.nd (Zl ZH (qv 4) Ze))))
   (Zf (Zn (Zl ZO (qv 4) Ze)))) Zx)
   (Zc (Zu 7 ZV.nd (Zl ZO (Zl YC (Zl Yj (Zl Yj (Zl Yj (Zl ZO (qv 4) Ze) Ze) (Zl YC Ze (qv 5))) (Zl YC Ze (qv 1))) Ze) Ze))
   (Zc (Zu 7 ZV.nd (Zl ZO (Zl Yj (Zl Yj (Zl YC (qv 7) (qv 7)) (Zl YC Ze (qv 5))) (Zl YC Ze (qv 1))) Ze))
   (Zf (Zn (Zl ZO (Zl ZH (Zl ZO (Zl YC (qv 7) Ze) Ze) Ze) Ze)))))))))),?_⟩
 try dsimp only[L2.cxK,L2.cxK2]
 refine⟨_,U,a,_,U,.inl hS,λO Y=>⟨Zlr,λc2 D=>⟨O,c2,_,_,U,U,Zb D _ _ Za,Za,?_,λG M=>Zg ?_⟩⟩⟩
 .rw[Qab];exact Qa0 (Z3 (by show ns.length+1<=1000;lia))
 have S:=(Zb (o:=.lst (ns.map V.int)) Y).trans ((Zb (o:=.lst [V.int 0]) D).trans (Zb (o:=.lst (ns.map V.int++[V.int 0])) M));have h3:=Za (H:=upd (upd H O (.lst (ns.map V.int))) c2 (.lst [V.int 0])) (a:=G) (o:=.lst (ns.map V.int++[V.int 0]));generalize upd (upd (upd H O (.lst (ns.map V.int))) c2 (.lst [V.int 0])) G (.lst (ns.map V.int++[V.int 0]))=H1 at *;have Ua:=Gz hS S;refine⟨_,U,a,_,U,.inl Ua,1,_,U,Zg ?_⟩;try dsimp only
 obtain⟨sz,hsz,Z,sz2⟩:∃sz:Nat,(if((ns.map V.int).length:Int)>1 then((ns.map V.int).length:Int)else 1)=(sz:Int)/\1<=sz/\sz<=ns.length+1:=by
  rw[Qab];split
  .exact⟨ns.length,U,by lia,by lia⟩
  .exact⟨1,U,by lia,by lia⟩
 rw[hsz];obtain⟨c,ec⟩:∃c:Int,atI (ns.map V.int++[V.int 0]) ((r:Int)%(sz:Int))=some (.int c):=by
  have hlt:=Nat.mod_lt r Z;rw[<-Int.natCast_emod,show ns.map V.int++[V.int 0]=(ns++[0]).map V.int by rw[Qau];rfl];have hl:r%sz<(ns++[0]).length:=by rw[Qag];show _<ns.length+1;lia
  exact⟨(ns++[0])[r%sz],Yv (by rw[Qai,Qac hl];rfl)⟩
 refine⟨_,U,_,U,_,U,_,_,U,U,(by show(0:Int)<sz;lia),G,_,_,_,U,U,SqL.of h3,ec,Zg ?_⟩;refine⟨_,U,_,U,_,_,U,U,.of (by lia) (by lia),Zg ?_⟩;try dsimp only
 obtain⟨C,N,tn1⟩:∃C:Nat,(r:Int)/(sz:Int)=(C:Int)/\C<=1000:=⟨r/sz,by rw[Int.natCast_ediv],Qa1 (Nat.div_le_self _ _) hk⟩;rw[N];refine⟨_,U,_,_,U,U,⟨by decide,by decide,by decide⟩,_,_,U,U,_,U,jO (λ_=>?_) (λ_=>?_)⟩
 .have md:∀z:Int,0<=z%1000000/\z%1000000<1000000:=λz=>⟨Qb6 _ (by decide),Qb4 _ (by decide)⟩
  obtain⟨n,hn,n60⟩:∃n:Nat,(if(60:Int)<(C:Int)then(60:Int)else(C:Int))=(n:Int)/\n<=60:=by
   split
   .exact⟨60,U,by lia⟩
   .exact⟨C,U,by lia⟩
  refine⟨_,U,_,_,U,(n:Int),(by rw[hn]),by lia,by lia,Xs (λi σ H'=>∃(c:Int)(L:Option V),σ=[some (.ref a),some (.int r),some (.ref G),some (.int sz),some (.int c),some (.int C),L,none]/\H'=H1) ⟨c,none,U,U⟩ ?_ ?_⟩
  .rintro i σ H' hi ⟨c,L,rfl,rfl⟩;exact⟨_,U,_,_,U,U,.of (by decide) (by decide),Zg ⟨_,_,U,U⟩⟩
  .rintro σ H' ⟨c,L,rfl,rfl⟩;exact⟨_,U,_,_,U,U,(by show(0:Int)<1000000;decide),k _ _ (md _).1 (md _).2 S⟩
 .refine⟨_,U,_,_,U,U,(by show(0:Int)<2147483629;decide),_,_,U,U,_,U,_,_,U,U,.inr (.inl ⟨by decide,by decide⟩),_,_,U,U,_,U,_,_,U,U,.inr (.inl ⟨by decide,by decide⟩),_,_,U,U,_,_,U,U,.inr (.inr ⟨by decide,by decide⟩),_,_,U,U,(by show(0:Int)<2147483647;decide),Zg ?_⟩;try dsimp only
  generalize hs1:(c%2147483629+977+104729*(C:Int)+15485863*(r:Int))*48271%2147483647=I;have d0:0<=I:=by lia
  have d1:I<2147483647:=by lia
  refine⟨_,U,_,U,_,_,U,U,.inr (.inl ⟨by lia,by lia⟩),_,U,_,_,U,U,.inr (.inl ⟨by decide,by decide⟩),_,_,U,U,_,U,_,_,U,U,.inr (.inl ⟨by decide,by decide⟩),_,_,U,U,_,_,U,U,(by show(0:Int)<2147483587;decide),Zg ?_⟩;try dsimp only
  generalize hs2:(I*I+7919*(C:Int)+31*(r:Int))%2147483587=se;have e0:0<=se:=by lia
  have e1:se<2147483587:=by lia
  exact⟨_,U,_,_,U,U,.inr (.inr ⟨by decide,by decide⟩),_,_,U,U,(by show(0:Int)<2147483563;decide),_,_,U,U,.of (by decide) (by decide),_,_,U,U,(by show(0:Int)<1000000;decide),k _ _ (Qb6 _ (by decide)) (Qb4 _ (by decide)) S⟩
inductive GD:Prop
 |mk(r:Int):vs=[.int r]->0<=r->r<1000000->(∀y H',NmS y->Z7 H H'->Q (.str y) H')->GD
theorem wZ:FnD T.bj P w base 1 (spQ GD):=by
 refine T.bj.go YV ?_;rintro S A outer s H _ Q E hr ⟨r,rfl,Z,h1,k⟩;refine⟨_,(Zc (Zu 1 YV.nd Zh)
   (Zc (Zu 2 YV.nd (ZA (Zi Zh (Zi Zh (Zi Zh (Zi Zh (Zi Zh (Zi Zh (Zi Zh (Zi Zh (Zi Zh (Zi Zh Zd))))))))))))
   (Zc (Zu 3 YV.nd (Z1 Zq (qv 2) (Zl ZO (qv 0) Ze)))
   (Zc (YD Qbh U (Xb U T.bb (Zi (Zl Yj Ze (Zl ZO (Zl ZH (qv 0) Ze) Ze)) Zd)) (Xh 4 YV.nd)
   (Zf (Zu 3 YV.nd (Zl uL (qv 3) (Z1 ix_str (qv 1) (Zl ZO (Zl Yj (Zl ZH (qv 0) Ze) (Zl YC Ze (qv 4))) Ze))))))
   (Zf (Zn (qv 3))))))),?_⟩
 refine Zg ?_;refine⟨by decide,λm Ua=>Zg ?_⟩;obtain⟨y,M,N⟩:=zv (l:=["","","","a","xy","so","not","yes","add","nought"]) (i:=r%10) (Qb6 _ (by decide)) (Qb4 _ (by decide));refine⟨_,U,_,U,_,_,U,U,(by show(0:Int)<10;decide),m,_,_,_,U,U,SqL.of Za,N,Zg ?_⟩;have Y:=Zb (o:=.lst [V.str "",V.str "",V.str "",V.str "a",V.str "xy",V.str "so",V.str "not",V.str "yes",V.str "add",V.str "nought"]) Ua;generalize upd H m _=H1 at *;obtain⟨n,O,I⟩:∃n:Nat,1+r/10%2=(n:Int)/\(n=1\/n=2):=⟨(1+r/10%2).toNat,by lia,by lia⟩;refine⟨_,U,_,_,U,U,.of (by decide) (by decide),_,_,U,U,(by show(0:Int)<2;decide),_,_,U,U,(n:Int),(by rw[<-O]),by lia,by lia,Xs (λi σ H'=>∃(D:Option V)(z:Str),σ=[some (.int r),some (.str Zdk),some (.ref m),some (.str z),D]/\NmI y (r/20) i z/\z.length<=6+i/\H'=H1) ⟨none,y,U,U,(by decide +kernel:∀y∈begL,y.length<=6) y M,U⟩ ?_ ?_⟩
 .rintro i σ H' hi ⟨D,z,rfl,L,G,rfl⟩;obtain⟨c,hc,C⟩:=low_at (i:=(r/20+7*(0+(i:Int)))%26) (Qb6 _ (by decide)) (Qb4 _ (by decide));refine⟨_,U,_,U,_,U,_,_,U,U,.of (by decide) (by decide),_,U,_,_,U,U,.inr (.inl ⟨by decide,by decide⟩),_,_,U,U,_,_,U,U,(by show(0:Int)<26;decide),_,_,c,U,U,Zgf,C,_,_,U,U,?_,Zg ⟨_,_,U,⟨z,c,L,by rw[Qgq]at C;exact C,U⟩,?_,U⟩⟩
  .rw[Zdl];exact Qa0 (Z3 (by lia))
  .rw[Str.length_append,Zdl];lia
 .rintro σ H' ⟨D,z,rfl,L,G,rfl⟩;exact⟨_,U,k z _ (nm_all M I L) Y⟩
inductive JF:Prop
 |mk(w:V):vs=[w]->((∃y,w=.str y)\/∃z:Int,w=.int z)->(∀p H',H p=none->H' p=some (.lst ((lpW w).map V.bl))->Z7 H H'->Q (.ref p) H')->JF
theorem XI:FnD T.az P w base 1 (spQ JF):=by
 refine T.az.go kf ?_;rintro cdv A outer s H _ Q E hr ⟨w,rfl,hw,k⟩;refine⟨_,(Zc (ZJ (Zo Ya (qv 0) (Z0 (Zi Zh (Zi Zh (Zi Zh Zd)))) (by with_unfolding_all rfl))
   (Zf (Zn (ZA (Zi XT (Zi XT Zd))))) Zx)
   (Zc (ZJ (Zo Ym (qv 0) Zh (Zz _))
   (Zf (Zn (ZA (Zi XT Zd)))) Zx)
   (Zc (ZJ (Zo Ya (qv 0) (Z0 (Zi Zh (Zi Zh (Zi Zh (Zi Zh (Zi Zh (Zi Zh (Zi Zh (Zi Zh Zd))))))))) (by with_unfolding_all rfl))
   (Zf (Zn (ZA (Zi XT (Zi XT Zd))))) Zx)
   (Zc (ZJ (Zo Ya (qv 0) (Z0 (Zi Zh (Zi Zh (Zi Zh (Zi Zh (Zi Zh (Zi Zh Zd))))))) (by with_unfolding_all rfl))
   (Zf (Zn (ZA (Zi XT Zd)))) Zx)
   (Zc (ZJ (Zo Ym (qv 0) Zh (Zz _))
   (Zf (Zn (ZA (Zi XT (Zi XT (Zi XT Zd)))))) Zx)
   (Zf (Zn (ZA Zd)))))))),?_⟩
 have e:=lpW_eq hw;have I:YZ w=true:=by rcases hw with⟨y,rfl⟩|⟨z,rfl⟩<;>rfl
 have O:∀c,scal w (.str c)=true:=λc=>by rcases hw with⟨y,rfl⟩|⟨z,rfl⟩<;>rfl
 have fin:∀(H1:Hp)(bs:Am),Z7 H H1->lpW w=bs->bs.length<=3->bs.length<=sizeLine/\∀p,H1 p=none->Q (.ref p) (upd H1 p (.lst (bs.map V.bl))):=λH1 bs r Z h3=>⟨Qa0 (Z3 (by lia)),λp M=>k p _ (r.free M) (by rw[Za,Z]) (r.trans (Zb M))⟩;refine⟨_,U,by decide,λN D=>⟨N,_,U,.inr (SqT.of Za),I,U,_,U,jO (λc=>?_) (λc=>?_)⟩⟩
 .rw[Qa5 (show inV w ((["both","either","so"]:Ai).map V.str)=true from c)]at e;exact let⟨f1,f2⟩:=fin _ _ (Zb (o:=.tup [.str "both",.str "either",.str "so"]) D) e (by decide);⟨f1,f2⟩
 rw[Qaw (show¬inV w ((["both","either","so"]:Ai).map V.str)=true from c)]at e;have r:=Zb (o:=.tup [.str "both",.str "either",.str "so"]) D;generalize upd H N (.tup [.str "both",.str "either",.str "so"])=H1 at *;refine⟨_,U,O _,_,U,jO (λc=>?_) (λc=>?_)⟩
 .rw[Qa5 c]at e;exact let⟨f1,f2⟩:=fin _ _ r e (by decide);⟨f1,f2⟩
 rw[Qaw c]at e;refine⟨_,U,by decide,λUa C=>⟨Ua,_,U,.inr (SqT.of Za),I,U,_,U,jO (λc=>?_) (λc=>?_)⟩⟩
 .rw[Qa5 (show inV w ((["same","under","beneath","and","or","odd","add","sub"]:Ai).map V.str)=true from c)]at e;exact let⟨f1,f2⟩:=fin _ _ (r.trans (Zb C)) e (by decide);⟨f1,f2⟩
 rw[Qaw (show¬inV w ((["same","under","beneath","and","or","odd","add","sub"]:Ai).map V.str)=true from c)]at e;have S:=r.trans (Zb (o:=.tup [.str "same",.str "under",.str "beneath",.str "and",.str "or",.str "odd",.str "add",.str "sub"]) C);generalize upd H1 Ua _=H2 at *;refine⟨_,U,by decide,λY G=>⟨Y,_,U,.inr (SqT.of Za),I,U,_,U,jO (λc=>?_) (λc=>?_)⟩⟩
 .rw[Qa5 (show inV w ((["sign","nought","not","neg","twice","low"]:Ai).map V.str)=true from c)]at e;exact let⟨f1,f2⟩:=fin _ _ (S.trans (Zb (o:=.tup [.str "sign",.str "nought",.str "not",.str "neg",.str "twice",.str "low"]) G)) e (by decide);⟨f1,f2⟩
 rw[Qaw (show¬inV w ((["sign","nought","not","neg","twice","low"]:Ai).map V.str)=true from c)]at e;have L:=S.trans (Zb (o:=.tup [.str "sign",.str "nought",.str "not",.str "neg",.str "twice",.str "low"]) G);refine⟨_,U,O _,_,U,jO (λc=>?_) (λc=>?_)⟩
 .rw[Qa5 c]at e;exact let⟨f1,f2⟩:=fin _ _ L e (by decide);⟨f1,f2⟩
 rw[Qaw c]at e;exact let⟨f1,f2⟩:=fin _ _ L e (by decide);⟨f1,f2⟩
inductive JG:Prop
 |mk(t:Aw)(ws:A8):vs=[.ref t]->H t=some (.tup ws)->(∀w∈ws,qz w)->ws.length<=60->(∀p H' (ms:Ai),H' p=some (.lst (ms.map V.str))->Z7 H H'->ms.Perm (Wn ((ws.filter ntK).map Ze9))->PyProof.Rows.sortedS ms=true->Q (.ref p) H')->JG
theorem ko:FnD T.eu P w base 1 (spQ JG):=by
 refine T.eu.go Jm ?_;rintro Ua A outer s H _ Q E hr ⟨t,r,rfl,Z,hw,hl,k⟩;refine⟨_,(Zc (Zu 1 Jm.nd (Z0 (Zi Zh (Zi Zh (Zi Zh (Zi Zh (Zi Zh (Zi Zh (Zi Zh (Zi Zh (Zi Zh (Zi Zh (Zi Zh (Zi Zh (Zi Zh (Zi Zh Zd))))))))))))))))
   (Zc (Zu 1 Jm.nd (Zl Ja (qv 1) (Z0 (Zi Zh (Zi Zh (Zi Zh (Zi Zh (Zi Zh (Zi Zh Zd)))))))))
   (Zf (Zn (Zp (Gh U) (by rfl) T.ft xu (Zi (Z4 (vi U) (by rfl) T.aah Zh2 (Zi (YH ({}:ZW (Zk JP) _ ["words","kept"] "word" ["kept"] [1]) (J4 (qv 0)) (λ_ _ _ _=>(gr (GL (qm (Xx (Zp (show Xf _ (.builtin "isinstance") (Zm7 K)from X8) (by rfl) T.ai Yg (Zi (qv 0) (Zi (WS (v:=.ty "str") (by rfl) T.aai Zh1 U) Zd)))) (WT (Zo (show OpR _ (compareOp .NotIn) (rIn K true)from yP) (qv 0) (qv 1) (by with_unfolding_all rfl))))))) (λ_ _ _ _=>(qv 0))) Zd)) Zd)))))),?_⟩
 refine⟨by decide,λk1 M=>Zg ?_⟩;refine⟨_,U,by decide,λk2 D=>⟨k1,k2,_,_,U,U,Zb D _ _ Za,Za,Qa0 (Z3 (by decide)),λk3 H1 C s3=>Zg ?_⟩⟩;have O:Z7 H H1:=((Zb M).trans (Zb D)).trans s3;have C:H1 k3=some (.tup (Z8.map V.str)):=C;have I:=O _ _ Z;refine⟨_,U,t,U,⟨_,SqT.of I⟩,vj (xs:=r) ntK Z7 Z7.refl (λ_ _ _ a b=>a.trans b) (λH2 G=>SqT.of (G _ _ I)) (Qa0 (Z3 (by lia))) (λx S H2 G R hR=>?_) (λx S H2 R hR=>⟨_,U,hR⟩) (λH2 l G L=>?_)⟩
 .rcases hw x S with⟨y,rfl,hy⟩|⟨z,rfl⟩
  .refine⟨_,U,_,_,_,_,U,.str y,xw,_,U,Yp ⟨_,U,_,U,k3,_,U,.inr (SqT.of (G _ _ C)),U,by decide +kernel,_,U,?_⟩⟩;have hR:=hR H2 (Z7.refl H2);rw[ZC];have e:(if true=true then !decide (y∈Z8)else decide (y∈Z8))=ntK (.str y):=by
    show(!decide (y∈Z8))=decide (y∉Z8)
    by_cases h:y∈Z8
    .grind
    .grind
   rw[e];exact hR
  .exact⟨_,U,_,_,_,_,U,.int z,xx,_,U,ZK (hR H2 (Z7.refl H2))⟩
 have fl:(r.filter ntK).length<=60:=Qa1 (Qes _ _) hl;have ol:=vy ((r.filter ntK).map Ze9);rw[Qab]at ol;have es:((r.filter ntK).map Ze9).map V.str=r.filter ntK:=by
  rw[Qa7];refine(Qbs (g:=id) λw hw=>?_).trans (Qhs _);have h:=(Qdm.mp hw).2;cases w with
  |str y=>rfl
  |_=>cases h
 have N:=O.trans (G.trans (Zb (o:=.lst (r.filter ntK)) L));refine⟨l,(r.filter ntK).map Ze9,U,SqL.of (by rw[es];exact Za),by rw[Qab];lia,λa ha=>⟨a,_,U,Za,by lia,λm Y hm hp hs=>?_⟩⟩;exact k m _ Y Za (N.trans ((Zb ha).trans (Zb hm))) hp hs
inductive WE:Prop
 |mk(pn:Aw)(nm:Ai)(m:Nat):vs=[.ref pn,.int m]->H pn=some (.lst (nm.map V.str))->nm.Nodup->nm.length<=3->m^nm.length<=10000->1<=m->(∀p H',W7 H' p nm (chs m nm.length)->Z7 H H'->Q (.ref p) H')->WE
theorem ja:FnD T.dh P w base 1 (spQ WE):=by
 refine T.dh.go ZX ?_;rintro cdv A outer s H _ Q E hr ⟨pn,nm,m,rfl,Y,Ua,hn3,N,hm1,k⟩;have hu:=zH hr;refine⟨_,(Zc (Zu 2 ZX.nd (ZA (Zi x8 Zd)))
   (Zc (YD Qbh U (YG (qv 0)) (Xh 3 ZX.nd)
   (Zc (Zu 4 ZX.nd (ZA Zd))
   (Zc (YD Qbh U (YG (qv 2)) (Xh 5 ZX.nd)
   (Zf (YD Qbh U (Xb U T.bb (Zi (qv 1) Zd)) (Xh 6 ZX.nd)
   (Zc (Zu 7 ZX.nd (Z4 uV (by rfl) T.aax (by decide +kernel) (Zi (qv 5) Zd)))
   (Zc (JO hu (qv 7) (qv 3) (qv 6) U)
   (Zf (Yb (Yy Qar Qa2 Qa3 ZI (qv 4) (Zi (qv 7) Zd)))))))))
   (Zf (Zu 2 ZX.nd (qv 4))))))
   (Zf (Zn (qv 2))))),?_⟩
 refineλd hd=>⟨Zlr,λfo L=>Zg ?_⟩;have s1:=(Zb (o:=.dK []) hd).trans (Zb (o:=.lst [V.ref d]) L);have D1:W7 (upd (upd H d (.dK [])) fo (.lst [V.ref d])) fo (nm.take 0) (chs m 0):=by
  refine⟨[d],Za,U,λi d' v h1 h2=>?_⟩;cases i with
  |zero=>
   cases h1;cases h2;exact Zb L _ _ Za
  |succ i=>cases h1
 refine⟨_,U,pn,U,⟨_,SqL.of (s1 _ _ Y)⟩,qT (K:=K) (a:=pn) (xs:=nm.map V.str) (λi σ H'=>∃(fo:Aw)(u3 u4 G D C:Option V),σ=[some (.ref pn),some (.int m),some (.ref fo),u3,u4,G,D,C]/\i<=nm.length/\W7 H' fo (nm.take i) (chs m i)/\Z7 H H') ⟨fo,none,none,none,none,none,U,Qbe _,D1,s1⟩ (λi σ H' _ ⟨_,_,_,_,_,_,_,_,_,s⟩=>SqL.of (s _ _ Y)) ?_ ?_⟩
 .rintro i x σ H2 hx ⟨fo,u3,u4,G,D,C,rfl,hi0,Z,s2⟩;obtain⟨y,rfl,hy⟩:=Zdz hx;have M:i<nm.length:=(Qaf.mp hy).1;have hyn:y∉nm.take i:=λh=>by
   obtain⟨j,hj⟩:=Qcr.mp h;rw[List.getElem?_take]at hj;split at hj
   .rename_i hlt;have e1:=XY Ua hj;have e2:=XY Ua hy;lia
   .cases hj
  have etk:nm.take (i+1)=nm.take i++[y]:=take_snoc hy;have ltk:(nm.take i).length=i:=by rw[Qbp];lia
  have hb1:m^i*m<=10000:=by
   exact Qa1 (Qb9 hm1 M) N
  refine Zg ⟨by decide,λwi S=>Zg ?_⟩;have s3:=Zb (o:=.lst []) S;obtain⟨ds,d1,d2,d3⟩:=Z;have W3:W7 (upd H2 wi (.lst [])) wi (nm.take (i+1)) []:=⟨[],Za,U,λi d v h1 _=>by cases h1⟩;refine⟨_,U,fo,U,⟨_,SqL.of (s3 _ _ d1)⟩,qT (K:=K) (a:=fo) (xs:=ds.map V.ref) (λj σ H'=>∃(G D C:Option V),σ=[some (.ref pn),some (.int m),some (.ref fo),some (.str y),some (.ref wi),G,D,C]/\j<=ds.length/\W7 H' wi (nm.take (i+1)) (((chs m i).take j).flatMap λvs=>(List.range m).map λw=>vs++[w])/\Z7 H2 H') ⟨G,D,C,U,Qbe _,W3,s3⟩ (λj σ H' _ ⟨_,_,_,_,_,_,s⟩=>SqL.of (s _ _ d1)) ?_ ?_⟩
  .rintro j x σ H4 hx ⟨v5,v6,v7,rfl,hj0,W4,s4⟩;rw[Qai]at hx;obtain⟨dv,O,rfl⟩:=Qa4.mp hx;have hjl:j<ds.length:=(Qaf.mp O).1;have r:j<(chs m i).length:=by rw[<-d2];exact hjl
   have I:=Qac r;have hvl:=(Zes (Qbi r)).1;have hkv:=d3 j dv _ O I;generalize (chs m i)[j]=vs at *;have efm:((chs m i).take (j+1)).flatMap (λvs=>(List.range m).map λw=>vs++[w])=((chs m i).take j).flatMap (λvs=>(List.range m).map λw=>vs++[w])++(List.range m).map λw=>vs++[w]:=by
    rw[take_snoc I,List.flatMap_append];simp
   have fl:∀l:Ad,(l.flatMap λvs=>(List.range m).map λw=>vs++[w]).length=l.length*m:=by
    intro l
    induction l with
    |nil=>exact(Qgr _).symm
    |cons v l ih=>rw[Qd6,Qag,ih,Qab,Qbk,Qaz,Qgs,Qfb]
   have hb2:j*m+m<=10000:=by
    rw[<-Qgs];rw[wK]at r;exact Qa1 (Qey _ r) hb1
   refine Zg ⟨_,U,(m:Int),U,by lia,by lia,Xs (λw σ H'=>∃(D C:Option V),σ=[some (.ref pn),some (.int m),some (.ref fo),some (.str y),some (.ref wi),some (.ref dv),D,C]/\W7 H' wi (nm.take (i+1)) (((chs m i).take j).flatMap (λvs=>(List.range m).map λw=>vs++[w])++(List.range w).map λw=>vs++[w])/\Z7 H2 H') ⟨v6,v7,U,by rw[List.range_zero,List.map_nil,Qbv];exact W4,s4⟩ ?_ ?_⟩
   .rintro w σ H5 hw ⟨v6,v7,rfl,W5,s5⟩;refine Zg ⟨_,U,dv,_,U,.inl (s5 _ _ hkv),λp hp=>Zg ?_⟩;refine⟨_,U,_,U,_,U,p,_,U,uU.k (k:=.inr y) Za (Z3 (by have:=Zlj (nm.take i) vs;lia)),?_⟩;rw[xl,Qgq,Zlk hyn (by rw[hvl,ltk]),<-etk];obtain⟨es,e1,e2,e3⟩:=id W5;have hpw:wi≠p:=λz=>by rw[z,hp]at e1;cases e1
    have sp:=Zb (o:=.dK (kvC (nm.take (i+1)) (vs++[w]))) hp;have e6:=sp _ _ e1;have hel:es.length<10000:=by
     grind
    refine⟨_,U,.inl ⟨U,_,SqL.of e6⟩,_,U,wi,_,_,U,U,e6,by rw[Qab];exact Y2 (by lia),?_⟩;refine⟨_,_,U,?_,?_⟩
    .rw[Qdf,Qau,<-Qbt];refine W5.snoc (p:=p) (λd kv e=>?_) (λes' h=>?_) ?_
     .rw[Zj (ZY e e1 λz=>nomatch z)];exact sp _ _ e
     .rw[Za];rw[e1]at h;injection h with h;injection h with h;rw[h]
     .rw[Zj hpw.symm,Za]
    .exact ZF (s5.trans sp) S
   .grind
  .rintro σ H4 ⟨v5,v6,v7,rfl,hj0,W4,s4⟩;rw[Qab,d2,Qb1]at W4;exact⟨_,U,Zg ⟨wi,_,_,_,_,_,U,M,W4,s2.trans s4⟩⟩
 .rintro σ H2 ⟨fo,u3,u4,G,D,C,rfl,hi0,Z,s2⟩;rw[Qab,Qb1]at Z;exact⟨_,U,k fo H2 Z s2⟩
inductive Wa:Prop
 |mk(y:Str)(h a:Int):vs=[.str y,.int h,vb (Zfe y) a]->y∈Znd->h=0\/h=1->a=0\/a=1->(∀p H',H p=none->H' p=some (.tup [vb (decide (y∈Zv)) (ld1 y h a).1,.int (ld1 y h a).2])->Z7 H H'->Q (.ref p) H')->Wa
theorem zB:FnD T.cm P w base 1 (spQ Wa):=by
 refine T.cm.go z8 ?_;rintro D A outer s H _ Q E M ⟨y,h,a,rfl,L,hh,C,k⟩;refine⟨_,(Zc (ZJ (Zo Ym (qv 0) Zh (Zz _))
   (Zf (Zn (Z0 (Zi (Zl Xt Ze (qv 2)) (Zi Ze Zd))))) Zx)
   (Zc (ZJ (Zo Ym (qv 0) Zh (Zz _))
   (Zf (Zn (Z0 (Zi (Zl ZO (Zl Yj (Zl Xt Ze (qv 2)) (qv 1)) Ze) (Zi (Zl ZH (Zl Yj (Zl Xt Ze (qv 2)) (qv 1)) Ze) Zd))))) Zx)
   (Zc (ZJ (Zo Ym (qv 0) Zh (Zz _))
   (Zf (Zn (Z0 (Zi (qv 1) (Zi (qv 2) Zd))))) Zx)
   (Zc (ZJ (Zo Ym (qv 0) Zh (Zz _))
   (Zf (Zn (Z0 (Zi (Zl YC (qv 2) (Zl Xt Ze (qv 1))) (Zi (Zp (xp U) (by rfl) T.fj jl (Zi (qv 2) (Zi (qv 1) Zd))) Zd))))) Zx)
   (Zc (ZJ (Zo Ym (qv 0) Zh (Zz _))
   (Zf (Zn (Z0 (Zi (Yn Ym (qv 2) Ze (Zz _)) (Zi Ze Zd))))) Zx)
   (Zc (ZJ (Zo Ym (qv 0) Zh (Zz _))
   (Zf (Zn (Z0 (Zi (jh (Yn Ym (qv 1) Ze (Zz _)) (JX (Yn Ym (qv 2) Ze (Zz _)))) (Zi (Zl YC (qv 1) (Zl Xt Ze (qv 2))) Zd))))) Zx)
   (Zf (Zn (Z0 (Zi (Zb4 (qv 2)) (Zi Ze Zd))))))))))),?_⟩
 have h2:2<=sizeLine:=by decide
 have G:(0:Int)<2:=by decide
 have fin:∀{p:Aw} {H':Hp} {v w:V},H p=none->H'=upd H p (.tup [v,w])->vb (decide (y∈Zv)) (ld1 y h a).1=v->V.int (ld1 y h a).2=w->Q (.ref p) H':=λr e e1 e2=>k _ _ r (by rw[e,Za,e1,e2]) (by rw[e];exact Zb r);have I:y = "not" \/ y = "neg" \/ y = "twice" \/ y = "low" \/ y = "sign" \/ y = "nought" \/ y = "never" :=by simpa only[Znd,Qas,Qbq,Qe1]using L
 rcases I with rfl|rfl|rfl|rfl|rfl|rfl|rfl
 .exact⟨_,U,U,_,U,Yp ⟨_,U,_,_,U,U,h2,λp r=>fin r U U U⟩⟩
 .exact⟨_,U,U,_,U,ZK ⟨_,U,U,_,U,Yp ⟨_,U,_,_,U,U,_,U,_,_,U,U,_,_,U,U,G,_,U,_,_,U,U,_,U,_,_,U,U,_,_,U,U,.of (by decide) (by decide),h2,λp r=>fin r U U U⟩⟩⟩
 .exact⟨_,U,U,_,U,ZK ⟨_,U,U,_,U,ZK ⟨_,U,U,_,U,Yp ⟨_,U,_,U,h2,λp r=>fin r U U U⟩⟩⟩⟩
 .exact⟨_,U,U,_,U,ZK ⟨_,U,U,_,U,ZK ⟨_,U,U,_,U,ZK ⟨_,U,U,_,U,Yp ⟨_,U,_,U,_,_,U,U,_,_,U,U,.inl ⟨by rcases C with rfl|rfl<;>decide,by rcases hh with rfl|rfl<;>decide⟩,_,U,_,U,_,_,U,h2,λp r=>fin r U U U⟩⟩⟩⟩⟩
 .rcases C with rfl|rfl<;>exact⟨_,U,U,_,U,ZK ⟨_,U,U,_,U,ZK ⟨_,U,U,_,U,ZK ⟨_,U,U,_,U,ZK ⟨_,U,U,_,U,Yp ⟨_,U,U,h2,λp r=>fin r U U U⟩⟩⟩⟩⟩⟩
 .refine⟨_,U,U,_,U,ZK ⟨_,U,U,_,U,ZK ⟨_,U,U,_,U,ZK ⟨_,U,U,_,U,ZK ⟨_,U,U,_,U,ZK ⟨_,U,U,_,U,Yp ⟨_,U,U,_,U,?_⟩⟩⟩⟩⟩⟩⟩;rcases hh with rfl|rfl<;>rcases C with rfl|rfl
  .exact ZK ⟨_,U,_,U,_,_,U,U,_,_,U,U,.inl ⟨by decide,by decide⟩,h2,λp r=>fin r U U U⟩
  .exact ZK ⟨_,U,_,U,_,_,U,U,_,_,U,U,.inl ⟨by decide,by decide⟩,h2,λp r=>fin r U U U⟩
  .exact Yp ⟨_,U,U,_,U,_,U,_,_,U,U,_,_,U,U,.inl ⟨by decide,by decide⟩,h2,λp r=>fin r U U U⟩
  .exact Yp ⟨_,U,U,_,U,_,U,_,_,U,U,_,_,U,U,.inl ⟨by decide,by decide⟩,h2,λp r=>fin r U U U⟩
 .rcases C with rfl|rfl<;>exact⟨_,U,U,_,U,ZK ⟨_,U,U,_,U,ZK ⟨_,U,U,_,U,ZK ⟨_,U,U,_,U,ZK ⟨_,U,U,_,U,ZK ⟨_,U,U,_,U,ZK ⟨_,U,_,U,h2,λp r=>fin r U U U⟩⟩⟩⟩⟩⟩⟩
inductive Wb:Prop
 |mk(y:Str)(h a b:Int):vs=[.str y,.int h,vb (Zfe y) a,vb (Zfe y) b]->y∈Zne->h=0\/h=1->a=0\/a=1->b=0\/b=1->(∀p H',H p=none->H' p=some (.tup [vb (decide (y∈Zv)) (ld2 y h a b).1,.int (ld2 y h a b).2])->Z7 H H'->Q (.ref p) H')->Wb
theorem zC:FnD T.cq P w base 1 (spQ Wb):=by
 refine T.cq.go X3 ?_;rintro cdv A outer s H _ Q E hr ⟨y,h,a,b,rfl,hy,hh,M,N,k⟩;refine⟨_,(Zc (ZJ (Zo Ya (qv 0) (Z0 (Zi Zh (Zi Zh (Zi Zh Zd)))) (by with_unfolding_all rfl))
   (Zf (Zn (Z0 (Zi (Z1 Zq (ZA (Zi (Zp (xq U) (by rfl) T.lb Zce (Zi (qv 2) (Zi (qv 3) Zd))) (Zi (Zp (xp U) (by rfl) T.fj jl (Zi (qv 2) (Zi (qv 3) Zd))) (Zi (Zl ZO (Zl Yj (qv 2) (qv 3)) Ze) Zd)))) (Zmn PySem.F.slot_tuple_index PySem.F.type_tuple_index Zdg (Z0 (Zi Zh (Zi Zh (Zi Zh Zd)))) (Zi (qv 0) Zd))) (Zi Ze Zd))))) Zx)
   (Zc (ZJ (Zo Ym (qv 0) Zh (Zz _))
   (Zf (Zn (Z0 (Zi (Zl ZO (Zl Yj (Zl Yj (qv 2) (qv 3)) (qv 1)) Ze) (Zi (Zl ZH (Zl Yj (Zl Yj (qv 2) (qv 3)) (qv 1)) Ze) Zd))))) Zx)
   (Zc (ZJ (Zo Ym (qv 0) Zh (Zz _))
   (Zf (Zn (Z0 (Zi (Zl ZO (Zl Xt (Zl Xt (qv 2) (qv 3)) (qv 1)) Ze) (Zi (Z4 Xu (by rfl) T.bc Wu (Zi (Yn Zbo (Zl Xt (Zl Xt (qv 2) (qv 3)) (qv 1)) Ze (Zz _)) Zd)) Zd))))) Zx)
   (Zc (ZJ (Zo Ym (qv 0) Zh (Zz _))
   (Zf (Zn (Z0 (Zi (jh (Yn Ym (qv 1) Ze (Zz _)) (JX (Yn Ym (qv 2) (qv 3) (Zz _)))) (Zi (Zl YC (qv 1) (Z4 Xu (by rfl) T.bc Wu (Zi (Yn Ym (qv 2) (qv 3) (Zz _)) Zd))) Zd))))) Zx)
   (Zc (ZJ (Zo Ya (qv 0) (Z0 (Zi Zh (Zi Zh Zd))) (by with_unfolding_all rfl))
   (Zc (Zu 4 X3.nd (qv 1))
   (Zc (ZJ (Zo Zfj (qv 2) (qv 3) (Zz _))
   (Zf (Zu 4 X3.nd (Z4 Xu (by rfl) T.bc Wu (Zi (Yn Zbo (qv 2) (qv 3) (Zz _)) Zd)))) Zx)
   (Zc (ZJ (GL (qm (Zo Ym (qv 0) Zh (Zz _)) (WT (Zo Zfj (qv 2) (qv 3) (Zz _)))))
   (Zf (Zn (Z0 (Zi (Yn uK (qv 2) (qv 3) (Zz _)) (Zi (qv 4) Zd))))) Zx)
   (Zf (Zn (Z0 (Zi (Yn Ym (qv 4) Ze (Zz _)) (Zi (qv 4) Zd)))))))) Zx)
   (Zc (ZJ (Zo Ym (qv 0) Zh (Zz _))
   (Zf (Zn (Z0 (Zi (jh (qv 2) (JX (qv 3))) (Zi Ze Zd))))) Zx)
   (Zc (ZJ (Zo Ym (qv 0) Zh (Zz _))
   (Zf (Zn (Z0 (Zi (Zji (qv 2) (JX (qv 3))) (Zi Ze Zd))))) Zx)
   (Zf (Zn (Z0 (Zi (Zji (qv 3) (JX (Zb4 (qv 2)))) (Zi Ze Zd)))))))))))),?_⟩
 try dsimp only[L2.cxK,L2.cxK2]
 have h2:2<=sizeLine:=by decide
 have O:(0:Int)<2:=by decide
 refine⟨_,U,k4,λq1 Y=>⟨q1,_,U,.inr (SqT.of Za),U,U,_,U,?_⟩⟩;rw[show inV (.str y) [V.str "and",V.str "or",V.str "odd"]=decide (y∈(["and","or","odd"]:Ai))from ZC y ["and","or","odd"]];have s1:=Zb (o:=.tup [V.str "and",V.str "or",V.str "odd"]) Y;generalize upd H q1 (.tup [V.str "and",V.str "or",V.str "odd"])=H1 at *;have fin:∀{p:Aw} {H2 H':Hp} {v w:V},Z7 H1 H2->H2 p=none->H'=upd H2 p (.tup [v,w])->vb (decide (y∈Zv)) (ld2 y h a b).1=v->V.int (ld2 y h a b).2=w->Q (.ref p) H':=λs2 r e e1 e2=>k _ _ ((s1.trans s2).free r) (by rw[e,Za,e1,e2]) (by rw[e];exact(s1.trans s2).trans (Zb r));have Z:y = "and" \/ y = "or" \/ y = "odd" \/ y = "add" \/ y = "sub" \/ y = "same" \/ y = "under" \/ y = "beneath" \/ y = "both" \/ y = "either" \/ y = "so" :=by simpa only[Zne,Qas,Qbq,Qe1]using hy
 rcases Z with rfl|rfl|rfl|rfl|rfl|rfl|rfl|rfl|rfl|rfl|rfl
 .rw[show decide (("and" : Str)∈(["and","or","odd"]:Ai))=true by decide +kernel];exact Yp ⟨_,U,_,U,_,_,U,_,U,_,U,_,_,U,_,U,_,U,_,_,U,U,_,_,U,U,O,k4,λl S=>⟨k4,λL D=>⟨L,_,U,Za,_,U,L,_,_,_,0,U,U,Za,U,U,U,U,(λi z hi=>by lia),l,_,_,_,U,U,SqL.of (Zb D _ _ Za),Yv U,h2,λp r=>fin ((Zb S).trans (Zb D)) r U U U⟩⟩⟩
 .rw[show decide (("or" : Str)∈(["and","or","odd"]:Ai))=true by decide +kernel];exact Yp ⟨_,U,_,U,_,_,U,_,U,_,U,_,_,U,_,U,_,U,_,_,U,U,_,_,U,U,O,k4,λl S=>⟨k4,λL D=>⟨L,_,U,Za,_,U,L,_,_,_,1,U,U,Za,U,U,U,U,(λi z hi e=>by rcases(by lia:i=0)with rfl;cases e;rfl),l,_,_,_,U,U,SqL.of (Zb D _ _ Za),Yv U,h2,λp r=>fin ((Zb S).trans (Zb D)) r U U U⟩⟩⟩
 .rw[show decide (("odd" : Str)∈(["and","or","odd"]:Ai))=true by decide +kernel];exact Yp ⟨_,U,_,U,_,_,U,_,U,_,U,_,_,U,_,U,_,U,_,_,U,U,_,_,U,U,O,k4,λl S=>⟨k4,λL D=>⟨L,_,U,Za,_,U,L,_,_,_,2,U,U,Za,U,U,U,U,(λi z hi e=>by rcases(by lia:i=0\/i=1)with rfl|rfl<;>cases e<;>rfl),l,_,_,_,U,U,SqL.of (Zb D _ _ Za),Yv U,h2,λp r=>fin ((Zb S).trans (Zb D)) r U U U⟩⟩⟩
 .rw[show decide (("add" : Str)∈(["and","or","odd"]:Ai))=false by decide +kernel];exact ZK ⟨_,U,U,_,U,Yp ⟨_,U,_,U,_,_,U,U,_,U,_,_,U,U,_,_,U,U,O,_,U,_,U,_,_,U,U,_,U,_,_,U,U,_,_,U,U,.of (by decide) (by decide),h2,λp r=>fin (Z7.refl _) r U U U⟩⟩
 .rw[show decide (("sub" : Str)∈(["and","or","odd"]:Ai))=false by decide +kernel];exact ZK ⟨_,U,U,_,U,ZK ⟨_,U,U,_,U,Yp ⟨_,U,_,U,_,_,U,U,_,U,_,_,U,U,_,_,U,U,O,_,U,_,U,_,_,U,U,_,U,_,_,U,U,_,_,U,U,.inr ⟨_,U,h2,λp r=>fin (Z7.refl _) r U U U⟩⟩⟩⟩
 .rw[show decide (("same" : Str)∈(["and","or","odd"]:Ai))=false by decide +kernel];refine ZK ⟨_,U,U,_,U,ZK ⟨_,U,U,_,U,ZK ⟨_,U,U,_,U,Yp ⟨_,U,U,_,U,?_⟩⟩⟩⟩;rcases hh with rfl|rfl
  .rcases M with rfl|rfl<;>rcases N with rfl|rfl<;>exact ZK ⟨_,U,_,U,_,U,U,.inr ⟨_,U,_,_,U,U,.inl ⟨by decide,by decide⟩,h2,λp r=>fin (Z7.refl _) r U U U⟩⟩
  .rcases M with rfl|rfl<;>rcases N with rfl|rfl<;>exact Yp ⟨_,U,_,U,U,_,U,_,U,_,U,U,.inr ⟨_,U,_,_,U,U,.inl ⟨by decide,by decide⟩,h2,λp r=>fin (Z7.refl _) r U U U⟩⟩
 .rw[show decide (("under" : Str)∈(["and","or","odd"]:Ai))=false by decide +kernel];refine ZK ⟨_,U,U,_,U,ZK ⟨_,U,U,_,U,ZK ⟨_,U,U,_,U,ZK ⟨_,U,xj,λG C=>⟨G,_,U,.inr (SqT.of Za),U,U,_,U,?_⟩⟩⟩⟩⟩;rw[show inV (.str "under") [V.str "under",V.str "beneath"]=true by decide +kernel];have I:=Zb (o:=.tup [V.str "under",V.str "beneath"]) C;generalize upd H1 G (.tup [V.str "under",V.str "beneath"])=Ua at *;refine Yp ⟨_,U,Zg ?_⟩;rcases hh with rfl|rfl<;>rcases M with rfl|rfl<;>rcases N with rfl|rfl<;>first
   |exact⟨_,U,_,U,U,_,U,ZK ⟨_,U,U,_,U,ZK (ZK ⟨_,U,U,_,U,h2,λp r=>fin I r U U U⟩)⟩⟩
   |exact⟨_,U,_,U,U,_,U,Yp ⟨_,U,_,U,_,_,U,U,.inr ⟨_,U,Zg ⟨_,U,U,_,U,ZK (ZK ⟨_,U,U,_,U,h2,λp r=>fin I r U U U⟩)⟩⟩⟩⟩
 .rw[show decide (("beneath" : Str)∈(["and","or","odd"]:Ai))=false by decide +kernel];refine ZK ⟨_,U,U,_,U,ZK ⟨_,U,U,_,U,ZK ⟨_,U,U,_,U,ZK ⟨_,U,xj,λG C=>⟨G,_,U,.inr (SqT.of Za),U,U,_,U,?_⟩⟩⟩⟩⟩;rw[show inV (.str "beneath") [V.str "under",V.str "beneath"]=true by decide +kernel];have I:=Zb (o:=.tup [V.str "under",V.str "beneath"]) C;generalize upd H1 G (.tup [V.str "under",V.str "beneath"])=Ua at *;refine Yp ⟨_,U,Zg ?_⟩;rcases hh with rfl|rfl<;>rcases M with rfl|rfl<;>rcases N with rfl|rfl<;>first
   |exact⟨_,U,_,U,U,_,U,ZK ⟨_,U,U,_,U,Yp ⟨_,U,_,U,U,_,U,ZK ⟨_,U,U,_,U,h2,λp r=>fin I r U U U⟩⟩⟩⟩
   |exact⟨_,U,_,U,U,_,U,Yp ⟨_,U,_,U,_,_,U,U,.inr ⟨_,U,Zg ⟨_,U,U,_,U,Yp ⟨_,U,_,U,U,_,U,Yp ⟨_,U,_,U,_,_,U,U,_,U,h2,λp r=>fin I r U U U⟩⟩⟩⟩⟩⟩
 .rw[show decide (("both" : Str)∈(["and","or","odd"]:Ai))=false by decide +kernel];refine ZK ⟨_,U,U,_,U,ZK ⟨_,U,U,_,U,ZK ⟨_,U,U,_,U,ZK ⟨_,U,xj,λG C=>⟨G,_,U,.inr (SqT.of Za),U,U,_,U,?_⟩⟩⟩⟩⟩;rw[show inV (.str "both") [V.str "under",V.str "beneath"]=false by decide +kernel];have I:=Zb (o:=.tup [V.str "under",V.str "beneath"]) C;generalize upd H1 G (.tup [V.str "under",V.str "beneath"])=Ua at *;refine ZK ⟨_,U,U,_,U,Yp ⟨_,U,_,U,?_⟩⟩;rcases M with rfl|rfl
  .exact ZK ⟨h2,λp r=>fin I r U U U⟩
  .exact Yp ⟨_,U,h2,λp r=>fin I r U U U⟩
 .rw[show decide (("either" : Str)∈(["and","or","odd"]:Ai))=false by decide +kernel];refine ZK ⟨_,U,U,_,U,ZK ⟨_,U,U,_,U,ZK ⟨_,U,U,_,U,ZK ⟨_,U,xj,λG C=>⟨G,_,U,.inr (SqT.of Za),U,U,_,U,?_⟩⟩⟩⟩⟩;rw[show inV (.str "either") [V.str "under",V.str "beneath"]=false by decide +kernel];have I:=Zb (o:=.tup [V.str "under",V.str "beneath"]) C;generalize upd H1 G (.tup [V.str "under",V.str "beneath"])=Ua at *;refine ZK ⟨_,U,U,_,U,ZK ⟨_,U,U,_,U,Yp ⟨_,U,_,U,?_⟩⟩⟩;rcases M with rfl|rfl
  .exact ZK ⟨_,U,h2,λp r=>fin I r U U U⟩
  .exact Yp ⟨h2,λp r=>fin I r U U U⟩
 .rw[show decide (("so" : Str)∈(["and","or","odd"]:Ai))=false by decide +kernel];refine ZK ⟨_,U,U,_,U,ZK ⟨_,U,U,_,U,ZK ⟨_,U,U,_,U,ZK ⟨_,U,xj,λG C=>⟨G,_,U,.inr (SqT.of Za),U,U,_,U,?_⟩⟩⟩⟩⟩;rw[show inV (.str "so") [V.str "under",V.str "beneath"]=false by decide +kernel];have I:=Zb (o:=.tup [V.str "under",V.str "beneath"]) C;generalize upd H1 G (.tup [V.str "under",V.str "beneath"])=Ua at *;refine ZK ⟨_,U,U,_,U,ZK ⟨_,U,U,_,U,ZK ⟨_,U,_,U,?_⟩⟩⟩;rcases N with rfl|rfl
  .rcases M with rfl|rfl<;>exact ZK ⟨_,U,_,U,h2,λp r=>fin I r U U U⟩
  .exact Yp ⟨h2,λp r=>fin I r U U U⟩
inductive JH:Prop
 |mk(t:Aw)(ws:A8):vs=[.ref t]->H t=some (.tup ws)->(∀w∈ws,qz w)->ws.length<=60->(∀p H',H p=none->H' p=some (.tup ((ws.map GK).map V.int))->Z7 H H'->Q (.ref p) H')->JH
theorem qD:FnD T.cj P w base 1 (spQ JH):=by
 refine T.cj.go Jn ?_;rintro cdv A outer s H _ Q E hr ⟨tw,r,rfl,Y,hw,hl,k⟩;refine⟨_,(Zc (Zu 1 Jn.nd (ZA Zd))
   (Zc (YD Qbh U (J4 (qv 0)) (Xh 2 Jn.nd)
   (Zf (ZJ (Xx (Zp X8 (by rfl) T.ai Yg (Zi (qv 2) (Zi (WS (v:=.ty "int") (by rfl) T.bc Wu U) Zd))))
   (Zf (Yb (Yy Qar Qa2 Qa3 ZI (qv 1) (Zi (qv 2) Zd)))) (Zf (Yb (Yy Qar Qa2 Qa3 ZI (qv 1) (Zi (Z4 Xu (by rfl) T.bc Wu (Zi (Yn Ya (qv 2) (Z0 (Zi Zh (Zi Zh (Zi Zh Zd)))) (by with_unfolding_all rfl)) Zd)) Zd)))))))
   (Zf (Zn (Z4 Z5 (by rfl) T.ah Yr (Zi (qv 1) Zd)))))),?_⟩
 refine⟨by decide,λfo C=>Zg ?_⟩;have Z:=Zb (o:=.lst []) C;refine⟨_,U,tw,U,⟨_,SqT.of (Z _ _ Y)⟩,Zbk (K:=K) (a:=tw) (xs:=r) (λi σ H2=>∃(I:Option V),σ=[some (.ref tw),some (.ref fo),I]/\i<=r.length/\H2 fo=some (.lst (((r.take i).map GK).map V.int))/\Z7 H H2) ⟨none,U,Qbe _,Za,Z⟩ (λi σ H2 _ ⟨_,_,_,_,s⟩=>SqT.of (s _ _ Y)) ?_ ?_⟩
 .rintro i x σ H2 N ⟨I,rfl,hi,h2,D⟩;have M:i<r.length:=(Qaf.mp N).1;have fin:∀{v:Int} {G:Hp},GK x=v->Z7 H2 G->G fo=some (.lst (((r.take i).map GK).map V.int))/\(((r.take i).map GK).map V.int).length<sizeLine/\∃O,[some (.ref tw),some (.ref fo),some x]=[some (.ref tw),some (.ref fo),O]/\i+1<=r.length/\(upd G fo (.lst (((r.take i).map GK).map V.int++[.int v]))) fo=some (.lst (((r.take (i+1)).map GK).map V.int))/\Z7 H (upd G fo (.lst (((r.take i).map GK).map V.int++[.int v]))):=λe s3=>by
   refine⟨s3 _ _ h2,?_,_,U,M,?_,ZF (D.trans s3) C⟩
   .rw[Qab,Qab,Qbp];exact Z3 (by lia)
   .rw[Za,take_snoc N,Qau,Qau,<-e];rfl
  rcases hw x (Qat N)with⟨y,rfl,_⟩|⟨z,rfl⟩
  .refine⟨_,U,_,_,_,_,U,.str y,Xw,_,U,ZK ⟨_,U,.inl ⟨U,_,SqL.of h2⟩,_,U,by decide,λq hq=>⟨q,_,U,.inr (SqT.of Za),U,U,.inr ⟨_,U,?_⟩⟩⟩⟩;have e:GK (.str y)=if inV (.str y) [V.str "neg",V.str "same",V.str "nought"]=true then 1 else 0:=by
    rw[show inV (.str y) [V.str "neg",V.str "same",V.str "nought"]=decide (y∈(["neg","same","nought"]:Ai))from ZC y ["neg","same","nought"]];show(if _ then(1:Int)else 0)=_;simp only[Qas,Qbq,Qe1,decide_eq_true_eq]
   obtain⟨Ua,S,L⟩:=fin e (Zb hq);exact⟨fo,_,_,U,U,Ua,S,L⟩
  .obtain⟨Ua,S,L⟩:=fin (v:=z) U (Z7.refl H2);exact⟨_,U,_,_,_,_,U,.int z,Xv,_,U,Yp ⟨_,U,.inl ⟨U,_,SqL.of h2⟩,_,U,fo,_,_,U,U,Ua,S,L⟩⟩
 .rintro σ H2 ⟨I,rfl,hi,h2,D⟩;rw[Qcq (Qah _)]at h2;exact⟨_,U,fo,_,U,.inl ⟨SqL.of h2,λp hp=>k p _ (D.free hp) Za (D.trans (Zb hp))⟩⟩
inductive WG:Prop
 |mk(r:Int)(y:Str)(nm:Ai):vs=[.int r,.str y]->0<=r->y∈nm->(∀z∈nm,z∉Z8)->(∀p ws H',H' p=some (.tup ws)->ZL nm false 8 3 ws->Z7 H H'->Q (.ref p) H')->WG
theorem jc:FnD T.di P w base 1 (spQ WG):=by
 refine T.di.go JA ?_;rintro cdv A outer s H _ Q E hr ⟨r,y,nm,rfl,h0,hy,hk,k⟩;refine⟨_,(Zc (Zu 2 JA.nd (ZA (Zi (Z0 (Zi Zh (Zi Zh (Zi (qv 1) Zd)))) (Zi (Z0 (Zi Zh (Zi Zh (Zi Zh (Zi (qv 1) Zd))))) (Zi (Z0 (Zi Zh (Zi Ze (Zi Zh (Zi Zh (Zi (qv 1) (Zi Zh (Zi (qv 1) Zd)))))))) Zd)))))
   (Zc (Yb (Yy Qar Qa2 Qa3 ZI (qv 2) (Zi (Z0 (Zi Zh (Zi (Zl ZO (Zl ZH (qv 0) Ze) Ze) (Zi Zh (Zi Zh (Zi (qv 1) Zd)))))) Zd)))
   (Zc (ZJ (Zo Ym (Zl ZO (Zl ZH (qv 0) Ze) Ze) Ze (Zz _))
   (Zc (Yb (Yy Qar Qa2 Qa3 ZI (qv 2) (Zi (Z0 (Zi Zh (Zi Ze (Zi Zh (Zi Zh (Zi (qv 1) (Zi Zh (Zi Zh (Zi (qv 1) Zd))))))))) Zd)))
   (Zf (Yb (Yy Qar Qa2 Qa3 ZI (qv 2) (Zi (Z0 (Zi Zh (Zi (Zl ZO (Zl ZH (qv 0) Ze) Ze) (Zi Zh (Zi Zh (Zi Zh (Zi (qv 1) Zd))))))) Zd))))) Zx)
   (Zf (Zn (Z1 Zq (qv 2) (Zl ZO (qv 0) (Zp Z2 (by rfl) T.af Y7 (Zi (qv 2) Zd))))))))),?_⟩
 try dsimp only[L2.cxK,L2.cxK2]
 have z1:0<=r/8%8/\r/8%8<2^10:=by lia
 have z2:0<=r/128%16/\r/128%16<2^10:=by lia
 obtain⟨A1,A2,A3,A4,A5,_⟩:=qc hk hy z1.1 z1.2;obtain⟨_,_,_,_,_,A6⟩:=qc hk hy z2.1 z2.2;refine⟨_,U,k4,λp1 hp1=>⟨_,U,Zi8,λp2 hp2=>⟨_,U,_,U,zln7,λp3 hp3=>⟨k4,λC L=>Zg ?_⟩⟩⟩⟩;have s1:=(Zb (o:=.tup [V.str "twice",.str "not",.str y]) hp1).trans ((Zb (o:=.tup [V.str "twice",.str "twice",.str "not",.str y]) hp2).trans (Zb (o:=.tup [V.str "odd",.int 1,.str "twice",.str "odd",.str y,.str "twice",.str y]) hp3));have e1:=Zb (o:=.lst [V.ref p1,.ref p2,.ref p3]) L _ _ (Zb (o:=.tup [V.str "odd",.int 1,.str "twice",.str "odd",.str y,.str "twice",.str y]) hp3 _ _ (Zb (o:=.tup [V.str "twice",.str "twice",.str "not",.str y]) hp2 _ _ (Za (H:=H) (a:=p1) (o:=.tup [V.str "twice",.str "not",.str y]))));have e2:=Zb (o:=.lst [V.ref p1,.ref p2,.ref p3]) L _ _ (Zb (o:=.tup [V.str "odd",.int 1,.str "twice",.str "odd",.str y,.str "twice",.str y]) hp3 _ _ (Za (H:=upd H p1 (.tup [V.str "twice",.str "not",.str y])) (a:=p2) (o:=.tup [V.str "twice",.str "twice",.str "not",.str y])));have e3:=Zb (o:=.lst [V.ref p1,.ref p2,.ref p3]) L _ _ (Za (H:=upd (upd H p1 (.tup [V.str "twice",.str "not",.str y])) p2 (.tup [V.str "twice",.str "twice",.str "not",.str y])) (a:=p3) (o:=.tup [V.str "odd",.int 1,.str "twice",.str "odd",.str y,.str "twice",.str y]));have so1:=Za (H:=upd (upd (upd H p1 (.tup [V.str "twice",.str "not",.str y])) p2 (.tup [V.str "twice",.str "twice",.str "not",.str y])) p3 (.tup [V.str "odd",.int 1,.str "twice",.str "odd",.str y,.str "twice",.str y])) (a:=C) (o:=.lst [V.ref p1,.ref p2,.ref p3]);have Z:=s1.free L;have s2:=s1.trans (Zb (o:=.lst [V.ref p1,.ref p2,.ref p3]) L);try dsimp only
 generalize upd (upd (upd (upd H p1 (.tup [V.str "twice",.str "not",.str y])) p2 (.tup [V.str "twice",.str "twice",.str "not",.str y])) p3 (.tup [V.str "odd",.int 1,.str "twice",.str "odd",.str y,.str "twice",.str y])) C (.lst [V.ref p1,.ref p2,.ref p3])=H4 at *;have all4:∀a∈[p1,p2,p3],∃I,H4 a=some (.tup I)/\ZL nm false 8 3 I:=λa ha=>by
  simp only[Qas,Qbq,Qe1]at ha;rcases ha with rfl|rfl|rfl
  .exact⟨_,e1,A1⟩
  .exact⟨_,e2,A2⟩
  .exact⟨_,e3,A3⟩
 have M:∀{Ha:Hp} {as:List Aw} {p:Aw} {I:A8},(∀a∈as,∃I,Ha a=some (.tup I)/\ZL nm false 8 3 I)->Ha C=some (.lst (as.map V.ref))->Ha p=none->ZL nm false 8 3 I->(∀a∈as++[p],∃D,upd (upd Ha p (.tup I)) C (.lst (as.map V.ref++[.ref p])) a=some (.tup D)/\ZL nm false 8 3 D):=λ{Ha as p I} al hs hp P a ha=>by
  have hps:p≠C:=λz=>by rw[z,hs]at hp;cases hp
  rcases Qbl.mp ha with z|z
  .obtain⟨D,g1,g2⟩:=al a z;exact⟨D,(Zj (ZY g1 hs λz=>nomatch z)).trans (Zb hp _ _ g1),g2⟩
  .rw[Qao.mp z];exact⟨I,(Zj hps).trans Za,P⟩
 have s4:H4 C=some (.lst ([p1,p2,p3].map V.ref)):=so1;have hz:(0:Int)<2:=by decide
 refine⟨_,U,.inl ⟨U,_,SqL.of s4⟩,_,U,_,_,U,U,.of (by decide) (by decide),_,_,U,U,(by show(0:Int)<8;decide),_,U,Zls,λG Ua=>⟨C,_,_,U,U,Zb Ua _ _ s4,by show 3<sizeLine;decide,?_⟩⟩;have S:∀a∈[p1,p2,p3,G],∃D,upd (upd H4 G (.tup [V.str "odd",.int (r/8%8),.str "twice",.str "twice",.str y])) C (.lst ([p1,p2,p3].map V.ref++[.ref G])) a=some (.tup D)/\ZL nm false 8 3 D:=M all4 s4 Ua A4;have s5:upd (upd H4 G (.tup [V.str "odd",.int (r/8%8),.str "twice",.str "twice",.str y])) C (.lst ([p1,p2,p3].map V.ref++[.ref G])) C=some (.lst ([p1,p2,p3,G].map V.ref)):=Za;have s25:=ZF (o:=.lst ([p1,p2,p3].map V.ref++[.ref G])) (s2.trans (Zb (o:=.tup [V.str "odd",.int (r/8%8),.str "twice",.str "twice",.str y]) Ua)) Z;try dsimp only
 generalize upd (upd H4 G (.tup [V.str "odd",.int (r/8%8),.str "twice",.str "twice",.str y])) C (.lst ([p1,p2,p3].map V.ref++[.ref G]))=H5 at *;show Yl (Zm5 _ _ _) _ _ _ _;refine qW (λσ H'=>σ=[some (.int r),some (.str y),some (.ref C)]/\∃as:List Aw,0<as.length/\H' C=some (.lst (as.map V.ref))/\(∀a∈as,∃I,H' a=some (.tup I)/\ZL nm false 8 3 I)/\Z7 H H') (λN hN=>?_) ?_
 .refine⟨_,U,_,_,U,U,.of (by decide) (by decide),_,_,U,U,hz,U,_,U,?_⟩
  by_cases e:V.int (r/64%2)=V.int 0
  .rw[Qaq e];refine Yp ⟨_,U,.inl ⟨U,_,SqL.of s5⟩,_,U,_,U,zln8,λO hp5=>⟨C,_,_,U,U,Zb hp5 _ _ s5,by show 4<sizeLine;decide,?_⟩⟩;have all6:∀a∈[p1,p2,p3,G,O],∃D,upd (upd H5 O (.tup [V.str "odd",.int 1,.str "twice",.str "odd",.str y,.str "twice",.str "twice",.str y])) C (.lst ([p1,p2,p3,G].map V.ref++[.ref O])) a=some (.tup D)/\ZL nm false 8 3 D:=M S s5 hp5 A5;have s6:upd (upd H5 O (.tup [V.str "odd",.int 1,.str "twice",.str "odd",.str y,.str "twice",.str "twice",.str y])) C (.lst ([p1,p2,p3,G].map V.ref++[.ref O])) C=some (.lst ([p1,p2,p3,G,O].map V.ref)):=Za;have s26:=ZF (o:=.lst ([p1,p2,p3,G].map V.ref++[.ref O])) (s25.trans (Zb (o:=.tup [V.str "odd",.int 1,.str "twice",.str "odd",.str y,.str "twice",.str "twice",.str y]) hp5)) Z;try dsimp only
   generalize upd (upd H5 O (.tup [V.str "odd",.int 1,.str "twice",.str "odd",.str y,.str "twice",.str "twice",.str y])) C (.lst ([p1,p2,p3,G].map V.ref++[.ref O]))=H6 at *;refine⟨_,U,.inl ⟨U,_,SqL.of s6⟩,_,U,_,_,U,U,.of (by decide) (by decide),_,_,U,U,(by show(0:Int)<16;decide),_,U,zln6,λp6 Y=>⟨C,_,_,U,U,Zb Y _ _ s6,by show 5<sizeLine;decide,?_⟩⟩;exact hN _ _ ⟨U,[p1,p2,p3,G,O,p6],by show 0<6;decide,Za,M all6 s6 Y A6,ZF (s26.trans (Zb Y)) Z⟩
  .rw[Qan e];exact ZK (hN _ _ ⟨U,[p1,p2,p3,G],by show 0<4;decide,s5,S,s25⟩)
 .rintro σ H6 ⟨rfl,as,hp,h6,a6,s6⟩;obtain⟨i,ei,hi⟩:∃i:Nat,r%((as.map V.ref).length:Int)=(i:Int)/\i<as.length:=⟨(r%(as.length:Int)).toNat,by rw[Qab,Qe5 (Qb6 _ (by lia))],by have:=Qb4 r (show(0:Int)<as.length by lia);have:=Qb6 r (show(as.length:Int)≠0 by lia);lia⟩;obtain⟨I,g1,g2⟩:=a6 as[i] (Qbi hi);refine⟨_,U,_,U,_,U,C,_,U,.inl (SqL.of h6),_,_,U,U,by rw[Qab];lia,C,_,_,_,U,U,SqL.of h6,by rw[ei];exact Yv (v:=V.ref as[i]) (by rw[Qai,Qac hi];rfl),k as[i] I H6 g1 g2 s6⟩
inductive XJ:Prop
 |mk(ps po:Aw)(nx:Ad)(ot:Az)(kos:List (Ak)):vs=[.ref ps,.ref po]->WM H ps (nx.map q9)->WM H po ot->ot.map (λr=>r.map vB)=kos.map (λk=>k.map some)->ot.length=nx.length->(∀row∈nx,row.length<=8/\∀s∈row,s<nx.length)->1<=nx.length->nx.length<=1000000->(∀p (cs:Aj) H',H p=none->H' p=some (.lst (cs.map Gv))->cs.length=nx.length->We (zd nx cs)=cs->We cs=cs->Zau kos cs->cs=Zfb nx kos nx.length->Z7 H H'->Q (.ref p) H')->XJ
theorem qO:FnD T.cb P w base 2 (spQ XJ):=by
 have C:=wY P base T TB;have G:=GB P base T TB;refine T.cb.go Yu ?_;rintro cdv A outer s H _ Q E hr ⟨ps,po,nx,ot,I,rfl,Rs,Ro,hk,hlo,hnx,h1,h2,k⟩;refine⟨_,(Zc (Zu 2 Yu.nd (Zr T.cy C hr (Zi (qv 1) Zd)))
   (Zc (Zu 3 Yu.nd Ze)
   (Zc (qV Qbh (Zo uK (Zl Yj (Zp (vo U) (by rfl) T.fj jl (Zi (qv 2) Zd)) Ze) (qv 3) (Zz _))
   (Zc (Zu 3 Yu.nd (Zl Yj (Zp (vo U) (by rfl) T.fj jl (Zi (qv 2) Zd)) Ze))
   (Zf (Zu 2 Yu.nd (Zr T.cy C hr (Zi (ya ({}:ZW (Zk X0) _ ["steps","out","classes","many"] "mark" ["classes"] [2]) (⟨by rfl,by decide +kernel⟩:Two _ "mark" "row" ["classes"]) (Zif (b1:=false) (b2:=true) U T.aaj (Zi (qv 2) (Zi (qv 0) Zd))) (λ_ _ _ _=>Xk) (λ_ _ _ _=>(Z0 (Zi (qv 0) (Zi (Zr T.br G hr (Zi (qv 1) (Zi (qv 2) Zd))) Zd))))) Zd))))))
   (Zf (Zn (qv 2)))))),?_⟩
 try dsimp only[L2.cxK,L2.cxK2]
 obtain⟨bo,hpo,hbo,hob⟩:=vF Ro;obtain⟨bs,hps,hbs,hsb⟩:=vF Rs;have hkl:I.length=nx.length:=by
  have:=congrArg List.length hk;rw[Qab,Qab]at this;lia
 refine⟨_,U,Ak,_,knT,po,bo,I,U,.inr hpo,by lia,λi b kk hb M=>?_,by lia,λp0 H1 hp0 hp1 s1=>?_⟩
 .have hi:i<ot.length:=by have:=(Qaf.mp hb).1;lia
  refine⟨_,hob i _ b (Qac hi) hb,?_⟩;have e:=congrArg (λl=>l[i]?) hk;simp only[Qai,Qac hi,M]at e;exact Option.some.inj e
 rw[vG]at hp1;refine Zg ?_;have cls0:Zau I (We I):=λi j a b ha hb e=>(ye ha hb).mp e;refine yj (λσ H2=>∃(p:Aw)(cs:Aj)(r n:Nat),σ=[some (.ref ps),some (.ref po),some (.ref p),some (.int r)]/\H2 p=some (.lst (cs.map Gv))/\H p=none/\cs.length=nx.length/\We cs=cs/\Zau I cs/\cs=Zfb nx I n/\n<=r/\r<=nx.length/\(r=0\/((Z6 cs).length<=r->We (zd nx cs)=cs))/\Z7 H H2) (λσ _=>match σ with|[_,_,_,some (.int m)]=>nx.length-m.toNat|_=>0) ⟨p0,We I,0,0,U,hp1,hp0,by rw[gK];exact hkl,xG I,cls0,U,Qah _,Qbe _,.inl U,s1⟩ ?_;rintro σ H2 ⟨p,cs,r,n,rfl,hp2,hpH,D,Y,hcls,hcn,hnm,hmy,hst,s2⟩;have hne:cs≠[]:=λz=>by rw[z]at D;have:(0:Nat)=nx.length:=D;lia
 have mx:∀m∈(cs.map λc:Nat=>(c:Int)),(∀n∈(cs.map λc:Nat=>(c:Int)),n<=m)->m+1=((Z6 cs).length:Int):=by
  intro m hm hx;obtain⟨c,hc,rfl⟩:=Qap.mp hm;have h3:c∈We cs:=by rw[Y];exact hc
  have:=Zga h3 λn hn=>by
   rw[Y]at hn;have:=hx _ (Qb5 hn);lia
  lia
 have L:H2 p=some (.lst ((cs.map λc:Nat=>(c:Int)).map V.int)):=by rw[hp2,Qa7];rfl
 have hsl:(Z6 cs).length<=nx.length:=by have:=gJ cs;lia
 have hne':(cs.map λc:Nat=>(c:Int))≠[]:=λz=>hne (List.map_eq_nil_iff.mp z);refine⟨_,U,p,_,U,SqL.of L,hne',λm hm hx=>⟨_,_,U,U,_,U,_,_,U,U,_,U,?_⟩⟩;have em:=mx m hm hx;refine jO (λhgt=>?_) (λhgt=>?_)
 .have hlt:r<(Z6 cs).length:=by
   have:=Qbb hgt;lia
  refine⟨λσ' H'=>∃(p':Aw),σ'=[some (.ref ps),some (.ref po),some (.ref p'),some (.int ((Z6 cs).length:Int))]/\H' p'=some (.lst ((We (zd nx cs)).map Gv))/\H p'=none/\Z7 H H',?_,?_⟩
  .rintro σ' H' ⟨p',rfl,hp',hpn,s'⟩;refine⟨nx.length-(Z6 cs).length,?_,?_,p',We (zd nx cs),(Z6 cs).length,n+1,U,hp',hpn,?_,xG _,Zkz D hkl hcls,by rw[hcn];rfl,by lia,hsl,.inr λS=>?_,s'⟩
   .show nx.length-(Z6 cs).length<nx.length-(r:Int).toNat;rw[Qca];lia
   .show _=nx.length-((Z6 cs).length:Int).toNat;rw[Qca]
   .rw[gK,yq D,D]
   .rw[Zda]at S;have:=Zal D Y S;rw[this,this]
  .refine⟨_,U,p,_,U,SqL.of L,hne',λm2 hm2 hx2=>⟨_,_,U,U,?_⟩⟩;have em2:=mx m2 hm2 hx2;try dsimp only
   rw[em2];have Z:=s2 _ _ hps;refine⟨_,U,_,U,p,ps,_,_,U,SqB.l L,SqB.t Z,?_⟩;refine Zah (xs:=(cs.map λc:Nat=>(c:Int)).map V.int) (ys:=bs.map V.ref) (λi zs H'=>∃ds:List Aw,zs=ds.map V.ref/\ds.length=i/\i<=nx.length/\(∀(j:Nat)(d:Aw)(kk:Int×Ak),ds[j]?=some d->(zd nx cs)[j]?=some kk->Zc5 H' kk d)/\Z7 H2 H') ⟨[],U,U,Qbe _,(λj d kk hd=>by cases hd),Z7.refl _⟩ ?_ ?_ ?_ ?_
   .rintro i zs H' ⟨ds,rfl,hd,hi,_⟩;rw[Qab,hd];exact Qa0 (Y2 (by lia))
   .rintro i zs H' ⟨ds,_,_,_,_,s'⟩;exact⟨SqB.l (s' _ _ L),SqB.t (s' _ _ Z)⟩
   .rintro i x y q zs H3 R hR O hy' ⟨ds,rfl,Ua,hi,hpa,s3⟩ hq;rw[Qai,Qai]at O;cases hc:cs[i]? with
    |none=>rw[hc]at O;cases O
    |some c=>
    rw[hc]at O;cases O;rw[Qai]at hy';obtain⟨b,hb,rfl⟩:=Qa4.mp hy';have hil:i<nx.length:=by have:=(Qaf.mp hc).1;lia
    have hrow:nx[i]?=some nx[i]:=Qac hil;have hbr:H b=some (.tup (q9 nx[i])):=hsb i _ b (by rw[Qai,hrow];rfl) hb;obtain⟨r8,rlt⟩:=hnx nx[i] (Qbi hil);have sq:=Zb (o:=.tup [.int c,.ref b]) hq;have s4:=(s2.trans s3).trans sq;unfold Zh6;try dsimp only
    rw[Qa5 U];refine⟨_,U,_,U,_,U,b,p,nx[i],cs.map λc:Nat=>(c:Int),U,s4 _ _ hbr,(s3.trans sq) _ _ L,λs hs=>by rw[Qab,D];exact rlt s hs,by lia,by rw[Qab];lia,λt H5 ht0 ht s5=>⟨xj,λd hd=>hR _ _ ⟨ds++[d],by rw[Qau];rfl,by rw[Qag,Ua];rfl,hil,λj d' kk hj M=>?_,((s3.trans sq).trans s5).trans (Zb hd)⟩⟩⟩;have sd:=Zb (o:=.tup [.int c,.ref t]) hd;rw[List.getElem?_append]at hj;split at hj
    .have:=hpa j d' kk hj M;exact knP.keep _ _ _ _ (λb xs e=>((sq.trans s5).trans sd) _ _ e) this
    .rename_i hnl;have hji:j=i:=by
      have:=(Qaf.mp hj).1;rw[Qel]at this;lia
     subst hji;rw[Ua,Qdw]at hj;cases hj;rw[Gw hc hrow]at M;cases M;refine⟨t,Za,_,sd _ _ ht,?_⟩;rw[Qa7,Qa7,Qa7];refine Qbs λs _=>?_;show some ((cs.map λc:Nat=>(c:Int)).getD s 0)=some ((cs.getD s 0:Nat):Int);rw[Qak,Qak,Qai];cases cs[s]?<;>rfl
   .rintro zs H3 ⟨ds,rfl,Ua,hi,hpa,s3⟩ l hl3;have hzl:(((cs.map λc:Nat=>(c:Int)).map V.int).zip (bs.map V.ref)).length=nx.length:=by
     rw[Qfk,Qab,Qab,Qab,D,hbs,Qab,Qfv]
    rw[hzl]at Ua;have sl:=Zb (o:=.lst (ds.map V.ref)) hl3;refine⟨Int×Ak,_,knP,l,ds,zd nx cs,U,.inl Za,by rw[yq D];lia,λi b kk hb M=>knP.keep _ _ _ _ (λb xs e=>sl _ _ e) (hpa i b kk hb M),by rw[yq D];lia,λp' H6 hp6 hq6 s6=>?_⟩;rw[vG]at hq6;have s26:=(s2.trans s3).trans (sl.trans s6);exact⟨p',U,hq6,(s2.trans s3).free (sl.free hp6),s26⟩
 .have S:(Z6 cs).length<=r:=by
   have:¬(r:Int)<m+1:=λz=>hgt (Qaq z);lia
  have N:=hst.resolve_left (λz=>by
   have:(0:Int)<m+1:=by
    obtain⟨c,_,rfl⟩:=Qap.mp hm;lia
   lia) S
  exact⟨_,U,k p cs H2 hpH hp2 D N Y hcls (by rw[hcn]at N ⊢;exact(Zgy N (by lia)).symm) s2⟩
inductive GF:Prop
 |mk(k:Key):vs=[kV k]->Q (.int (Wr k)) H->GF
theorem gf:FnD T.bp P w base 2 (spQ GF):=by
 refine T.bp.go wV ?_;rintro D A outer s H _ Q E C ⟨r,rfl,k⟩;refine⟨_,(Zf (Zn (Zl Yj (Yx (zX P base T TB) (C.mono (by decide)) U T.ba.m T.ba.F.kp T.ba.b .nil JV (Zi (qv 0) Zd)) (Yx (qN P base T TB) (C.mono (by decide)) U T.ax.m T.ax.F.kp T.ax.b .nil JV (Zi (qv 0) Zd))))),⟨_,U,r,U,_,U,r,U,_,_,U,U,k⟩⟩
inductive qE:Prop
 |mk(y:Str):vs=[.str y]->y.length<=100000->(∀H',Z7 H H'->Q (.bl (decide (y∉Z8/\NmL y))) H')->qE
omit T TB in
theorem Zhc{y:Str}:NmL y↔y.length<=8/\j6 y Zdk:=by
 constructor
 .intro h;refine⟨h.1.2,λz=>?_,h.2⟩;have h1:=h.1.1;rw[len_signs,z]at h1;exact absurd h1 (by decide)
 .intro h;refine⟨⟨?_,h.1⟩,h.2.2⟩;rw[len_signs];cases e:y.cps.toList with
  |nil=>exact absurd e h.2.1
  |cons a r=>exact Nat.succ_le_succ (Qbe _)
theorem Za4:FnD T.fk P w base 2 (spQ qE):=by
 have D:=yD P base T TB;have r:=qM P base T TB;have C:=zW P base T TB;refine T.fk.go Za2 ?_;rintro N A outer s H _ Q E I ⟨y,rfl,M,k⟩;refine⟨_,(Zc (ZJ (GL (Zb3 (Xx (Zr T.dc C I (Zi (qv 0) Zd))) (yX (Xx (Zr T.bx r I (Zi (qv 0) Zd))))))
   (Zf (Zn XT)) Zx)
   (Zf (Zn (jh (Yn Zl4 (Zp yQ (by rfl) T.af Y7 (Zi (qv 0) Zd)) (Wi (v:=.int 8) U T.mh ⟨_,U⟩) (Zz _)) (JX (Zr T.dn D I (Zi (qv 0) (Zi (Wi (v:=.str "abcdefghijklmnopqrstuvwxyz") U T.aar ⟨_,U⟩) Zd)))))))),?_⟩
 by_cases h1:y∈Z8
 .have e:decide (y∉Z8/\NmL y)=false:=Qan λz=>z.1 h1
  rw[e]at k;refine⟨_,U,y,U,_,U,?_⟩
  by_cases h2:y∈Wz
  .rw[Qaq h2];exact Yp (Yp (k H (Z7.refl H)))
  .rw[Qan h2];have G:y∈Zv:=((wq y).mp h1).resolve_left h2;refine ZK ⟨_,U,.inr y,U,_,U,?_⟩;rw[show clK (.inr y)=true from Qaq G];exact Yp (k H (Z7.refl H))
 .have h2:y∉Wz:=λz=>h1 ((wq y).mpr (.inl z))
  have G:y∉Zv:=λz=>h1 ((wq y).mpr (.inr z));refine⟨_,U,y,U,_,U,?_⟩;rw[Qan h2];refine ZK ⟨_,U,.inr y,U,_,U,?_⟩;rw[show clK (.inr y)=false from Qan G];refine ZK ?_;refine⟨_,U,y,U,Qa1 M (by decide),_,_,U,U,_,U,?_⟩
  by_cases L:y.length<=8
  .rw[Qaq (show(y.length:Int)<=8 by lia)];refine Yp ⟨_,U,y,Zdk,U,M,λH' s'=>?_⟩;have e:decide (j6 y Zdk)=decide (y∉Z8/\NmL y):=by
    rw[Qfc,Qek,Qek,Zhc];exact⟨λz=>⟨h1,L,z⟩,λz=>z.2.2⟩
   rw[e];exact k H' s'
  .rw[Qan (show¬(y.length:Int)<=8 by lia)];have e:decide (y∉Z8/\NmL y)=false:=Qan λz=>L z.2.1.2;rw[e]at k;exact ZK (k H (Z7.refl H))
inductive Wc:Prop
 |mk(tn tl:Aw)(ys:Ai)(L:Nat):vs=[.ref tn,.ref tl]->H tn=some (.tup (ys.map V.str))->ys.Nodup->ys.length<=10->H tl=some (.lst ((List.range L).map λi:Nat=>V.int i))->L<=100->(∀dv kvs H',H dv=none->H' dv=some (.dK kvs)->Zdw kvs ys (YT L ys)->Z7 H H'->Q (.ref dv) H')->Wc
theorem zD:FnD T.cu P w base 2 (spQ Wc):=by
 have r:=kh P base T TB;refine T.cu.go YQ ?_;rintro cdv A outer s H _ Q E hr ⟨tn,tl,ys,L,rfl,hn,Z,hn3,hl,hL,k⟩;have hu:=zH hr;refine⟨_,(Zc (Zu 2 YQ.nd x8)
   (Zc (YD Qbh U (Zfu U T.fu (qv 0)) (x6 U (Xh 3 YQ.nd) (Xh 4 YQ.nd))
   (Zf (JO hu (qv 2) (qv 4) (Zr T.dz r hr (Zi (Z4 Z5 (by rfl) T.ah Yr (Zi (YH ({}:ZW (Zk XR) _ ["names","letters","columns","place","name"] "letter" ["place"] [3]) (YG (qv 1)) (λ_ _ _ _=>Xk) (λ_ _ _ _=>(Zl Wt (Zl gn (qv 0) (qv 1)) Ze))) Zd)) Zd)) U)))
   (Zf (Zn (qv 2))))),?_⟩
 refineλN D=>Zg ?_;have s1:=Zb (o:=.dK []) D;refine⟨_,U,tn,_,U,SqT.of (s1 _ _ hn),gz (K:=K) (a:=tn) (xs:=ys.map V.str) (λi σ H2=>∃(kvs:A0)(u3 Ua:Option V),σ=[some (.ref tn),some (.ref tl),some (.ref N),u3,Ua]/\H2 N=some (.dK kvs)/\Zdw kvs (ys.take i) (YT L ys)/\kvs.length<=i/\i<=ys.length/\Z7 H H2) ⟨[],none,none,U,Za,⟨λy h=>(by cases h),λy _=>U⟩,Qah _,Qbe _,s1⟩ (λi σ H2 _ ⟨_,_,_,_,_,_,_,_,s⟩=>SqT.of (s _ _ hn)) ?_ ?_⟩
 .rintro i x σ H2 p hx hp ⟨kvs,u3,Ua,rfl,h2,I,S,_,Y⟩;rw[Qai]at hx;obtain⟨y,O,rfl⟩:=Qa4.mp hx;have hi:=(Qaf.mp O).1;have s3:=Y.trans (Zb (o:=.tup [.int i,.str y]) hp);have h3:=Zb (o:=.tup [.int i,.str y]) hp _ _ h2;have M:=s3 _ _ hl;refine⟨_,U,tl,U,⟨_,SqL.of M⟩,comp_map (xs:=(List.range L).map λi:Nat=>V.int i) (fI λc=>V.int (bt c i)) (SqL.of M) (by rw[Qab,Qbk];exact Qa0 (Z3 (by lia))) (λv hv R hR=>?_) (λq hq=>?_)⟩
  .obtain⟨c,_,rfl⟩:=Qap.mp hv;refine⟨_,U,_,U,_,_,U,U,Qfm i,_,_,U,U,?_⟩;have e:fI (λc=>V.int (bt c i)) (V.int c)=V.int (Builtin.bitAnd ((c:Int)/2^(i:Int).toNat) 1):=by
    rw[and_1,Qca];rfl
   rw[e]at hR;exact hR
  have ex:((List.range L).map λi:Nat=>V.int i).map (fI λc=>V.int (bt c i))=((List.range L).map λl:Nat=>bt (l:Int) i).map V.int:=by
   rw[Qa7,Qa7];rfl
  rw[ex];have s4:=Zb (o:=.lst (((List.range L).map λl:Nat=>bt (l:Int) i).map V.int)) hq;refine⟨q,_,U,.inl ⟨SqL.of Za,λt ht=>?_⟩⟩;have s5:=s4.trans (Zb (o:=.tup (((List.range L).map λl:Nat=>bt (l:Int) i).map V.int)) ht);have h5:=s5 _ _ h3;refine⟨t,(List.range L).map λl:Nat=>bt (l:Int) i,U,SqT.of Za,?_⟩;have hv:hor ((List.range L).map λl:Nat=>bt (l:Int) i).reverse=YT L ys y:=by
   unfold YT;rw[XY Z O]
  rw[hv];have lp:=Wk kvs (.inr y) (.int (YT L ys y));refine⟨_,U,_,U,N,_,U,uU.k (k:=.inr y) h5 (Z3 (by lia)),putK kvs (.inr y) (.int (YT L ys y)),_,_,U,Za,⟨λz G=>?_,λz G=>?_⟩,by lia,hi,ZF (s3.trans s5) D⟩
  .rw[take_snoc O]at G;rw[qX]
   by_cases C:z=y
   .rw[Qa5 (by rw[C]),C]
   .rw[Qaw (λe=>C (Sum.inr.inj e))];rcases Qbl.mp G with h|h
    .exact I.1 z h
    .exact absurd (Qao.mp h) C
  .rw[take_snoc O]at G;rw[qX,Qaw (λe=>G (Qbl.mpr (.inr (Qao.mpr (Sum.inr.inj e)))))];exact I.2 z λh=>G (Qbl.mpr (.inl h))
 .rintro σ H2 ⟨kvs,u3,Ua,rfl,h2,I,S,_,Y⟩;rw[Qab,Qb1]at I;exact⟨_,U,k N kvs H2 D h2 I Y⟩
inductive JI:Prop
 |mk(y:Str)(p:Aw)(is:Ak)(h:Int):vs=[.str y,.ref p,.int h]->H p=some (.lst (is.map V.int))->1<=is.length->y∈allR->(y∈Zkw->2<=is.length)->(∀H',Z7 H H'->Q (.int (ktI y is h)) H')->JI
theorem kq:FnD T.fe P w base 2 (spQ JI):=by
 have r:=zA P base T TB;refine T.fe.go qA ?_;rintro S A outer s H _ Q E Z ⟨y,p,is,h,rfl,M,Ua,Y,L,k⟩;refine⟨_,(Zc (Zu 3 qA.nd (Z1 Zq (qv 1) Ze))
   (Zc (ZJ (Zo Ym (qv 0) Zh (Zz _))
   (Zf (Zn (qv 3))) Zx)
   (Zc (ZJ (Zo Ya (qv 0) (Z0 (Zi Zh (Zi Zh (Zi Zh Zd)))) (by with_unfolding_all rfl))
   (Zf (Zn (Zl yK (qv 3) (qv 2)))) Zx)
   (Zc (ZJ (Zo Ym (qv 0) Zh (Zz _))
   (Zf (Zn (Zl yK (Zl jg (qv 3) (Z1 Zq (qv 1) Ze)) (qv 2)))) Zx)
   (Zc (ZJ (Zo Ym (qv 0) Zh (Zz _))
   (Zf (Zn (Zl yK (Zl Wt (qv 3) (Z1 Zq (qv 1) Ze)) (Zl Wt (qv 2) (Zl yK (qv 3) (Z1 Zq (qv 1) Ze)))))) Zx)
   (Zf (Zn (Zr T.cz r Z (Zi (qv 3) (Zi (Z1 Zq (qv 1) Ze) (Zi (qv 2) Zd))))))))))),?_⟩
 have I:¬y = "twice" ->¬(y = "neg" \/ y = "low" \/ y = "nought")->y∈Zkw:=Zdu y Y;unfold ktI at k;refine⟨_,U,p,_,0,_,U,U,SqL.of M,ZG 0 rfl Ua,Zg ⟨_,U,U,_,U,?_⟩⟩
 by_cases h1:y = "twice"
 .rw[Qaq (congrArg V.str h1)];rw[Qa5 h1]at k;refine Yp ?_;exact⟨_,U,k H (Z7.refl _)⟩
 rw[Qan (λz=>h1 (by injection z))];rw[Qaw h1]at k;refine ZK ⟨_,U,by decide,λq O=>⟨q,_,U,.inr (SqT.of Za),U,U,_,U,?_⟩⟩;show if inV (.str y) ((["neg","low","nought"]:Ai).map V.str)=true then _ else _;rw[ZC];have C:=Zb (o:=.tup [.str "neg",.str "low",.str "nought"]) O;have pq:=C _ _ M;generalize upd H q (.tup [.str "neg",.str "low",.str "nought"])=H1 at *
 by_cases h2:y = "neg" \/ y = "low" \/ y = "nought"
 .rw[Qaq (by grind)];rw[Qa5 h2]at k;refine Yp ?_;exact⟨_,U,_,U,_,_,U,U,k H1 C⟩
 rw[Qan (by grind)];rw[Qaw h2]at k;refine ZK ⟨_,U,U,_,U,?_⟩
 by_cases G:y = "same"
 .rw[Qaq (congrArg V.str G)];rw[Qa5 G]at k;refine Yp ?_;exact⟨_,U,_,U,p,_,1,_,U,U,SqL.of pq,ZG 1 rfl (L (by rw[G];decide +kernel)),_,_,U,U,_,U,_,_,U,U,k H1 C⟩
 rw[Qan (λz=>G (by injection z))];rw[Qaw G]at k;refine ZK ⟨_,U,U,_,U,?_⟩
 by_cases D:y = "add"
 .rw[Qaq (congrArg V.str D)];rw[Qa5 D]at k;refine Yp ?_;have N:=L (by rw[D];decide +kernel);exact⟨_,U,_,U,p,_,1,_,U,U,SqL.of pq,ZG 1 rfl N,_,_,U,U,_,U,_,U,_,U,p,_,1,_,U,U,SqL.of pq,ZG 1 rfl N,_,_,U,U,_,_,U,U,_,_,U,U,k H1 C⟩
 rw[Qan (λz=>D (by injection z))];rw[Qaw D]at k;exact ZK ⟨_,U,_,U,p,_,1,_,U,U,SqL.of pq,ZG 1 rfl (L (I h1 h2)),_,U,_,_,_,U,k H1 C⟩
inductive WH:Prop
 |mk(y:Str)(p:Aw)(is:Ak)(h n:Int):vs=[.str y,.ref p,.int h,.int n]->H p=some (.lst (is.map V.int))->1<=is.length->y∈allR->(y∈Zkw->2<=is.length)->(∀H',Z7 H H'->Q (.int (okI y is h n)) H')->WH
theorem jd:FnD T.dj P w base 2 (spQ WH):=by
 have C:=zA P base T TB;refine T.dj.go zU ?_;rintro cdv A outer s H _ Q E S ⟨y,p,is,h,n,rfl,hp,N,hy,Y,k⟩;refine⟨_,(Zc (ZJ (Zo Ya (qv 0) (Z0 (Zi Zh (Zi Zh Zd))) (by with_unfolding_all rfl))
   (Zf (Zn (Zl jg (Zl jg (Z1 Zq (qv 1) Ze) (Z1 Zq (qv 1) Ze)) (qv 2)))) Zx)
   (Zc (ZJ (Zo Ym (qv 0) Zh (Zz _))
   (Zf (Zn (Zl jg (Z1 Zq (qv 1) Ze) (qv 2)))) Zx)
   (Zc (ZJ (Zo Ym (qv 0) Zh (Zz _))
   (Zf (Zn (qv 2))) Zx)
   (Zc (ZJ (Zo Ym (qv 0) Zh (Zz _))
   (Zf (Zn (Zl Wt (Z1 Zq (qv 1) Ze) (JW xo (qv 2))))) Zx)
   (Zc (ZJ (Zo Ya (qv 0) (Z0 (Zi Zh (Zi Zh Zd))) (by with_unfolding_all rfl))
   (Zf (Zn (JW xo (qv 3)))) Zx)
   (Zc (ZJ (Zo Ym (qv 0) Zh (Zz _))
   (Zf (Zn (qv 3))) Zx)
   (Zf (Zn (Zr T.cz C S (Zi (Z1 Zq (qv 1) Ze) (Zi (Z1 Zq (qv 1) Ze) (Zi (qv 2) Zd)))))))))))),?_⟩
 unfold okI at k;refine⟨_,U,by decide,λq Z=>⟨q,_,U,.inr (SqT.of Za),U,U,_,U,?_⟩⟩;show if inV (.str y) ((["add","sub"]:Ai).map V.str)=true then _ else _;rw[ZC];have D:=Zb (o:=.tup [.str "add",.str "sub"]) Z;have pq:=D _ _ hp;generalize upd H q (.tup [.str "add",.str "sub"])=H1 at *
 by_cases h1:y = "add" \/ y = "sub"
 .rw[Qaq (by grind)];rw[Qa5 h1]at k;refine Yp ?_;have l3:2<=is.length:=Y (by rcases h1 with h|h<;>rw[h]<;>decide +kernel);exact⟨_,U,p,_,0,_,U,U,SqL.of pq,ZG 0 rfl N,_,U,p,_,1,_,U,U,SqL.of pq,ZG 1 rfl l3,_,_,U,U,_,U,_,_,U,U,k H1 D⟩
 rw[Qan (by grind)];rw[Qaw h1]at k;refine ZK ⟨_,U,U,_,U,?_⟩
 by_cases h2:y = "neg"
 .rw[Qaq (congrArg V.str h2)];rw[Qa5 h2]at k;refine Yp ?_;exact⟨_,U,p,_,0,_,U,U,SqL.of pq,ZG 0 rfl N,_,U,_,_,U,U,k H1 D⟩
 rw[Qan (λz=>h2 (by injection z))];rw[Qaw h2]at k;refine ZK ⟨_,U,U,_,U,?_⟩
 by_cases G:y = "twice"
 .rw[Qaq (congrArg V.str G)];rw[Qa5 G]at k;refine Yp ?_;exact⟨_,U,k H1 D⟩
 rw[Qan (λz=>G (by injection z))];rw[Qaw G]at k;refine ZK ⟨_,U,U,_,U,?_⟩
 by_cases O:y = "low"
 .rw[Qaq (congrArg V.str O)];rw[Qa5 O]at k;refine Yp ?_;exact⟨_,U,p,_,0,_,U,U,SqL.of pq,ZG 0 rfl N,_,U,_,U,_,_,U,U,k H1 D⟩
 rw[Qan (λz=>O (by injection z))];rw[Qaw O]at k;refine ZK ⟨_,U,by decide,λr S=>⟨r,_,U,.inr (SqT.of Za),U,U,_,U,?_⟩⟩;show if inV (.str y) ((["same","nought"]:Ai).map V.str)=true then _ else _;rw[ZC];have M:=Zb (o:=.tup [.str "same",.str "nought"]) S;have Ua:=M _ _ pq;generalize upd H1 r (.tup [.str "same",.str "nought"])=H2 at *
 by_cases L:y = "same" \/ y = "nought"
 .rw[Qaq (by simp only[Qas,Qbq,Qe1];exact L)];rw[Qa5 L]at k;refine Yp ?_;exact⟨_,U,_,U,k H2 (D.trans M)⟩
 rw[Qan (by simp only[Qas,Qbq,Qe1];exact L)];rw[Qaw L]at k;refine ZK ⟨_,U,U,_,U,?_⟩
 by_cases I:y = "under"
 .rw[Qaq (congrArg V.str I)];rw[Qa5 I]at k;refine Yp ?_;exact⟨_,U,k H2 (D.trans M)⟩
 rw[Qan (λz=>I (by injection z))];rw[Qaw I]at k;exact ZK ⟨_,U,p,_,1,_,U,U,SqL.of Ua,ZG 1 rfl (Y (Zdu y hy G (λz=>by grind))),_,U,p,_,0,_,U,U,SqL.of Ua,ZG 0 rfl N,_,U,_,_,_,U,k H2 (D.trans M)⟩
inductive JJ:Prop
 |mk(m:Aw)(nm:Ai)(nx:Ad)(ot:Az)(W:Nat):vs=[.ref m,.int W]->M4 H m nm 0 nx ot->Wf nm 0 nx ot true->W<=60->(∀p H',H' p=some (.lst ((List.range W).map λi=>V.int ((SQ (2^nm.length) (i+1) λls=>if(rnO nx ot 0 ls)[i]?=some (.bl true)then 1 else 0:Nat):Int)))->Z7 H H'->Q (.ref p) H')->JJ
theorem kr:FnD T.bg P w base 2 (spQ JJ):=by
 have r:=zZ P base T TB;refine T.bg.go YF ?_;rintro cdv A outer s H _ Q E hr ⟨m,nm,nx,ot,W,rfl,M,C,hW,k⟩;refine⟨_,(Zc (Zu 2 YF.nd (Zc0 (gE (Z1 Yf (qv 0) Ze) Ze Zcz) U U (λz=>nomatch z) (by decide)))
   (Zc (Zu 3 YF.nd (YH ({}:ZW (Zk Wo) _ ["machine","many","ways","holding_letters","counts","width"] "row" [] []) (J4 (Z1 Yf (qv 0) Ze)) (λ_ _ _ _=>Xk) (λ_ _ _ _=>(Zmn PySem.F.slot_tuple_count PySem.F.type_tuple_count Zdf (qv 0) (Zi XT Zd)))))
   (Zc (Zu 4 YF.nd (ZA Zd))
   (Zc (YD Qbh U (Xb U T.bb (Zi (qv 1) Zd)) (Xh 5 YF.nd)
   (Zc (Yb (Yy Qar Qa2 Qa3 ZI (qv 4) (Zi (Zp (Zbz U) (by rfl) T.abb L2.bt_sum (Zi (ya ({}:ZW (Zk Wo) _ ["machine","many","ways","holding_letters","counts","width"] "state" ["holding_letters"] [3]) (⟨by rfl,by decide +kernel⟩:Two _ "state" "times" ["holding_letters"]) (gP (qv 2)) (λ_ _ _ _=>Xk) (λ_ _ _ _=>(Zl YC (qv 1) (Z1 (show IxR _ (rIxL K)from Zq) (qv 2) (qv 0))))) Zd)) Zd)))
   (Zf (Zu 2 YF.nd (Zr T.dg r hr (Zi (qv 2) (Zi (Z1 Yf (qv 0) Ze) Zd)))))))
   (Zf (Zn (qv 4))))))),?_⟩
 obtain⟨pn,ps,po,hm,hn,R,O⟩:=M.ex;have rb:∀s,s<nx.length->(ot.getD s []).length=2^nm.length/\∀v∈ot.getD s [],∃b:Bool,v=.bl b:=λs hs=>by
  have I:=getD_mem (show s<ot.length by rw[C.ol];exact hs);refine⟨C.or _ I,λv hv=>?_⟩;rcases C.ok _ I v hv with⟨_,b,e⟩|⟨z,_⟩
  .exact⟨b,e⟩
  .cases z
 have rn:∀s,s<nx.length->(nx.getD s []).length=2^nm.length:=λs hs=>C.nr _ (getD_mem hs);have rs:∀ls:Aj,(∀x∈ls,x<2^nm.length)->stN nx 0 ls<nx.length:=λls h=>Ziz ⟨C.b,C.ol,C.nr,C.nl,C.or⟩ C.b h;refineλd hd=>⟨_,U,m,_,1,_,U,U,SqT.of (Zb hd _ _ hm),U,Za,[(.inl 0,.int 1)],U,by decide,Zg ?_⟩;rw[xl,show x5 [] [((.inl 0:Key),V.int 1)]=dW [(0,1)]from U];have s1:=Zb (o:=.dK (dW [(0,1)])) hd;have hd1:upd H d (.dK (dW [(0,1)])) d=some (.dK (dW [(0,1)])):=Za;generalize upd H d (.dK (dW [(0,1)]))=H1 at *;obtain⟨as,o1,o2,o3⟩:=O.same s1;have asl:as.length<=1000000:=by rw[o2,C.ol];exact C.le
 refine⟨_,U,m,_,3,_,U,U,SqT.of (s1 _ _ hm),U,po,U,⟨_,SqT.of o1⟩,Wj (xs:=as) (λi zs H'=>zs=(List.range i).map (λs=>V.int (WO ot s:Int))/\i<=as.length/\H'=H1) ⟨U,Qbe _,U⟩ (λi zs H' ⟨e,hi,_⟩=>by rw[e,Qab,Qbk];exact Qa0 (Y2 (by lia))) (λi zs H' ⟨_,_,e⟩=>by rw[e];exact SqT.of o1) ?_ ?_⟩
 .rintro i x zs H' N hN hx ⟨rfl,hi,rfl⟩;have Ua:i<ot.length:=by rw[<-o2];exact(Qaf.mp hx).1
  obtain⟨ra,e1,e2⟩:=o3 i ot[i] (Qac Ua);rw[hx]at e1;cases e1;have hg:ot.getD i []=ot[i]:=by rw[Qak,Qac Ua];rfl
  refine Zkx ⟨_,U,ra,_,U,e2,ra,_,_,U,U,e2,U,Qb2.mpr λv hv=>?_,hN _ _ ⟨?_,by lia,U⟩⟩
  .obtain⟨b,rfl⟩:=(rb i (by rw[<-C.ol];exact Ua)).2 v (by rw[hg];exact hv);rfl
  .rw[Qdf,Qau];show _=_++[V.int (WO ot i:Int)];unfold WO;rw[hg]
 rintro zs H' ⟨rfl,_,e⟩ L hhl;have asn:as.length=nx.length:=by rw[o2,C.ol]
 rw[e]at hhl ⊢;rw[asn];refine Zg ⟨by decide,λc hc=>Zg ?_⟩;have s2:=Zb (o:=.lst ((List.range nx.length).map λs=>V.int (WO ot s:Int))) hhl;have s3:=Zb (o:=.lst []) hc;have hd3:=s3 _ _ (s2 _ _ hd1);have hl3:=s3 _ _ (Za (H:=H1) (a:=L) (o:=.lst ((List.range nx.length).map λs=>V.int (WO ot s:Int))));have hc3:=Za (H:=upd H1 L (.lst ((List.range nx.length).map λs=>V.int (WO ot s:Int)))) (a:=c) (o:=.lst []);have s13:=s1.trans (s2.trans s3);have hcn:H c=none:=(s1.trans s2).free hc;have hlc:L≠c:=λz=>by rw[z,Za]at hc;cases hc
 refine⟨_,U,(W:Int),U,by lia,by lia,Xs (λi σ H'=>∃(d:Aw)(kvs:List (Nat×Nat))(u5:Option V),σ=[some (.ref m),some (.int W),some (.ref d),some (.ref L),some (.ref c),u5]/\H' d=some (.dK (dW kvs))/\H d=none/\Zaw nx (2^nm.length) i kvs/\H' L=some (.lst ((List.range nx.length).map λs=>V.int (WO ot s:Int)))/\H' c=some (.lst ((List.range i).map λi=>V.int ((SQ (2^nm.length) (i+1) λls=>if(rnO nx ot 0 ls)[i]?=some (.bl true)then 1 else 0:Nat):Int)))/\Z7 H H') ⟨d,_,none,U,hd3,hd,Zaw.one C.b,hl3,hc3,s13⟩ ?_ ?_⟩
 .rintro i σ H4 hi ⟨d,kvs,u5,rfl,G,hdn,Y,Z,D,s4⟩;have kl:kvs.length<=1000000:=Qa1 Y.len C.le;have hdl:L≠d:=ZY Z G λz=>nomatch z;have hdc:c≠d:=ZY D G λz=>nomatch z;refine⟨_,U,.inl ⟨U,_,SqL.of D⟩,_,U,d,_,U,.inl G,λo=>?_⟩;have h5l:upd H4 d (.frz o (.dK (dW kvs))) L=some (.lst ((List.range nx.length).map λs=>V.int (WO ot s:Int))):=by rw[Zj hdl];exact Z
  have h5c:=(Zj (H:=H4) (o:=.frz o (.dK (dW kvs))) hdc).trans D;have s5:Z7 H (upd H4 d (.frz o (.dK (dW kvs)))):=ZF s4 hdn;have h5d:upd H4 d (.frz o (.dK (dW kvs))) d=some (.frz o (.dK (dW kvs))):=Za;refine wk (f:=λj=>V.int ((((kvs.getD j (0,0)).2*WO ot (kvs.getD j (0,0)).1:Nat)):Int)) h5d (by rw[uB];exact Qa0 (Y2 (by lia))) (λj q0 S R hq s6 hR=>?_) (λq S hqn hq s6=>?_)
  .obtain⟨q,hqi,rfl⟩:∃q,kvs[j]?=some q/\((Sum.inl (q.1:Int):Key),V.int (q.2:Int))=q0:=by
    unfold dW at hq;rw[Qai]at hq;exact Qa4.mp hq
   have hqm:=Qat hqi;have hqn:=Y.lt q hqm;have hqg:kvs.getD j (0,0)=q:=by rw[Qak,hqi];rfl
   have hle:q.2<=8^60:=Qa1 (Y.le hqm) (Qa1 (Nat.pow_le_pow_left (p8 C.n3) i) (Qb9 (by decide) (by lia)));have hho:WO ot q.1<=8:=by
    refine Qa1 List.countP_le_length ?_;rw[(rb q.1 hqn).1];exact p8 C.n3
   have hR:=hR S (Z7.refl S);rw[hqg]at hR;refine⟨_,U,_,U,_,U,L,_,_,_,U,U,SqL.of (s6 _ _ h5l),Yv (v:=V.int (WO ot q.1:Int)) (by rw[Qai,Qe4 hqn];rfl),_,_,U,U,.inl ⟨?_,?_⟩,?_⟩
   .exact Qc8 hle (by decide)
   .exact Qc8 hho (by decide)
   .exact hR
  .have hsum:(((List.range (dW kvs).length).map λj=>((((kvs.getD j (0,0)).2*WO ot (kvs.getD j (0,0)).1:Nat)):Int)).sum:Int)=((wsum kvs (WO ot):Nat):Int):=by
    rw[uB];exact Zg3 (by
     unfold wsum;rw[<-y9 (d:=(0,0)) U λq=>q.2*WO ot q.1])
   refine⟨q,(List.range (dW kvs).length).map λj=>((((kvs.getD j (0,0)).2*WO ot (kvs.getD j (0,0)).1:Nat)):Int),U,SqL.of (by rw[hq,Qa7];rfl),c,_,_,U,U,s6 _ _ h5c,?_,?_⟩
   .rw[Qab,Qbk];exact Z3 (by lia)
   rw[hsum,Y.count rb rs];generalize hlv:(List.range i).map (λi=>V.int ((SQ (2^nm.length) (i+1) λls=>if(rnO nx ot 0 ls)[i]?=some (.bl true)then 1 else 0:Nat):Int))++[V.int ((SQ (2^nm.length) (i+1) λls=>if(rnO nx ot 0 ls)[i]?=some (.bl true)then 1 else 0:Nat):Int)]=lv;have h7c:=Za (H:=S) (a:=c) (o:=.lst lv);have hcd:d≠c:=hdc.symm;have h7d:=(Zj (H:=S) (o:=.lst lv) hcd).trans (s6 _ _ h5d);have h7l:=(Zj (H:=S) (o:=.lst lv) hlc).trans (s6 _ _ h5l);have s7:Z7 H (upd S c (.lst lv)):=ZF (s5.trans s6) hcn;generalize upd S c (.lst lv)=H7 at *;refine⟨_,U,_,U,m,_,2,_,U,U,SqT.of (s7 _ _ hm),U,d,ps,kvs,nx,U,.inr ⟨o,h7d⟩,R.same s7,Y.lt,C.nl,C.le,λo2 p k2 H8 hpn hp e2 n2 l2 s8=>Zg ?_⟩;have hnd:∀{b:Aw} {u:HO},H7 b=some u->b≠d->H8 b=some u:=λ{b u} e hb=>s8 _ _ (by rw[Zj hb];exact e);refine⟨p,k2,_,U,hp,s7.free hpn,Y.next rn rs e2 n2 l2,hnd h7l hdl,?_,λb u e=>hnd (s7 _ _ e) λz=>by rw[z,hdn]at e;cases e⟩;rw[Qdf,Qau];exact(hnd h7c hdc).trans (by rw[<-hlv];rfl)
 .rintro σ H4 ⟨d,kvs,u5,rfl,G,hdn,Y,Z,D,s4⟩;exact⟨_,U,k c H4 D s4⟩
inductive JK(K:Af):Prop
 |mk(a:Aw)(ns:Ak)(st many:Nat):vs=[.ref a,.int st,.int many]->SqL K H a (ns.map V.int)->ns.length<=63->st<=10->many<=3->(∀p (ms:Ai) H',H' p=some (.lst (ms.map V.str))->ms.Nodup->ms.length<=many->(∀y∈ms,NmS y)->Z7 H H'->Q (.ref p) H')->JK K
def ku(K:Af):Sp:=λvs H Q _=>JK vs H Q K
theorem kx:FnD T.ff P w base 2 (ku K):=by
 refine T.ff.go Jo ?_;rintro cdv A outer s H _ Q E hr ⟨a,ns,st,C,rfl,hS,Y,hst,hm,k⟩;have hu:=zH hr;refine⟨_,(Zc (Zu 3 Jo.nd x8)
   (Zc (YD Qbh U (Xb U T.bb (Zi (qv 2) Zd)) (Xh 4 Jo.nd)
   (Zf (JO hu (qv 3) (Yx (wZ P base T TB) (hr.mono (by decide)) U T.bj.m T.bj.F.kp T.bj.b .nil JV (Zi (Yx (Xp P base T TB) (hr.mono (by decide)) U T.ag.m T.ag.F.kp T.ag.b .nil JV (Zi (qv 0) (Zi (Zl Yj (qv 1) (qv 4)) Zd))) Zd)) XT U)))
   (Zf (Zn (Zp (vu U) (by rfl) T.ft xu (Zi (qv 3) Zd)))))),?_⟩
 refineλd hd=>Zg ?_;have s1:=Zb (o:=.dK []) hd;have Ua:upd H d (.dK []) d=some (.dK []):=Za;refine⟨_,U,(C:Int),U,by lia,by lia,Xs (λi σ H'=>∃(M:Option V)(kvs:A0)(S:Ai),σ=[some (.ref a),some (.int st),some (.int C),some (.ref d),M]/\H' d=some (.dK kvs)/\kvs.map (·.1)=S.map Sum.inr/\S.Nodup/\S.length<=i/\(∀y∈S,NmS y)/\Z7 H H') ⟨none,[],[],U,Ua,U,Qbu,Qah _,(λ_ z=>nomatch z),s1⟩ ?_ ?_⟩
 .rintro i σ H2 hi ⟨M,kvs,S,rfl,D,L,G,hl,O,I⟩;refine⟨_,U,_,U,_,U,_,U,_,_,U,U,a,ns,st+i,?_,Gz hS I,Y,by lia,λr H3 r0 r1 s3=>⟨r,U,r0,r1,λy H4 Z s4=>⟨d,_,U,uU.k (k:=.inr y) (s4 _ _ (s3 _ _ D)) ?_,?_⟩⟩⟩
  .grind
  .have:=congrArg List.length L;rw[Qab,Qab]at this;exact Z3 (by lia)
  .obtain⟨S',g1,g2,g3,g4⟩:=Zlm (v:=.bl true) L G y;refine⟨_,_,S',U,Za,g1,g2,by lia,λz hz=>?_,ZF (I.trans (s3.trans s4)) hd⟩;rcases g4 z hz with h|h
   .exact O z h
   .rw[h];exact Z
 .rintro σ H2 ⟨M,kvs,S,rfl,D,L,G,hl,O,I⟩;exact⟨_,U,d,kvs,S,U,.inl D,L,by lia,λl ms N hp hs=>k l ms _ Za (hp.nodup_iff.mpr G) (by rw[hp.length_eq];exact hl) (λy Z=>O y (hp.mem_iff.mp Z)) (I.trans (Zb N))⟩
inductive X5:Prop
 |mk(r rm:Int)(f:Aw)(l0 l1:Int):vs=[.int r,.int rm,.ref f]->0<=r->0<=rm->H f=some (.lst [.int l0,.int l1])->0<=l1->(∀(y:Str) (l1':Int) H',y∈Zv->((lpS y).length:Int)<=rm->l1'+Zg2 y jW=l1->0<=l1'->H' f=some (.lst [.int l0,.int l1'])->SmL f H H'->Q (.str y) H')->X5
theorem qg:FnD T.bw P w base 2 (spQ X5):=by
 have C:=XI P base T TB;refine T.bw.go ZD ?_;rintro cdv A outer s H _ Q E hr ⟨r,Y,f,l0,l1,rfl,hr0,hrm,hf,hl1,k⟩;refine⟨_,(Zc (Zu 3 ZD.nd (ZA (Zi Zh (Zi Zh (Zi Zh (Zi Zh (Zi Zh (Zi Zh (Zi Zh (Zi Zh (Zi Zh (Zi Zh Zd))))))))))))
   (Zc (Zu 3 ZD.nd (Zl Zhz (qv 3) (ZA (Zi Zh (Zi Zh (Zi Zh (Zi Zh (Zi Zh (Zi Zh Zd)))))))))
   (Zc (Zu 4 ZD.nd (Z1 Zq (qv 3) (Zl ZO (qv 0) Ze)))
   (Zc (Zu 5 ZD.nd (Yn Ya (qv 4) (Z0 (Zi Zh (Zi Zh (Zi Zh (Zi Zh (Zi Zh Zd)))))) (by with_unfolding_all rfl)))
   (Zc (ZJ (GL (Zb3 (Zo uK (Zp Z2 (by rfl) T.af Y7 (Zi (Zr T.az C hr (Zi (qv 4) Zd)) Zd)) (qv 1) (Zz _)) (yX (GL (qm (Xx (qv 5)) (WT (Zo Ym (Z1 Zq (qv 2) Ze) Ze (Zz _))))))))
   (Zc (Zu 4 ZD.nd Zh)
   (Zc (Zu 5 ZD.nd XT)
   (Zf (ZJ (GL (qm (Zo uK (qv 1) Ze (Zz _)) (WT (Zo uK (Z1 Zq (qv 2) Ze) Ze (Zz _)))))
   (Zc (Zu 4 ZD.nd (Z1 Zq (ZA (Zi Zh (Zi Zh Zd))) (Zl ZO (Zl ZH (qv 0) Ze) Ze)))
   (Zf (Zu 5 ZD.nd XT))) Zx)))) Zx)
   (Zc (Zh5 (Zl Xt (Z1 Zq (qv 2) Ze) (Z4 Xu (by rfl) T.bc Wu (Zi (qv 5) Zd))) (Zh4 (qv 2) Ze set_list))
   (Zf (Zn (qv 4))))))))),?_⟩
 try dsimp only[L2.cxK,L2.cxK2]
 refine⟨zln10,λm1 hm1=>?_⟩;refine⟨_,U,zln6,λm2 Z=>⟨m1,m2,_,_,U,U,Zb Z _ _ Za,Za,zln16,λm hm=>?_⟩⟩;have s1:=((Zb (o:=.lst [.str "same",.str "same",.str "under",.str "under",.str "beneath",.str "sign",.str "nought",.str "nought",.str "both",.str "both"]) hm1).trans (Zb (o:=.lst [.str "either",.str "either",.str "so",.str "never",.str "never",.str "yes"]) Z)).trans (Zb (o:=.lst (Zax.map V.str)) hm);obtain⟨y,hy,ey⟩:=zv (l:=Zax) (i:=r%16) (Qb6 _ (by decide)) (Qb4 _ (by decide));have D:=Zg4 y hy;refine⟨_,U,_,U,_,_,U,U,(by show(0:Int)<16;decide),m,_,_,_,U,U,SqL.of (Za (o:=.lst (Zax.map V.str))),ey,Zg ?_⟩;show Yl _ _ _ _ (upd _ m (.lst (Zax.map V.str)));generalize upd (upd (upd H m1 (.lst [.str "same",.str "same",.str "under",.str "under",.str "beneath",.str "sign",.str "nought",.str "nought",.str "both",.str "both"])) m2 (.lst [.str "either",.str "either",.str "so",.str "never",.str "never",.str "yes"])) m (.lst (Zax.map V.str))=H1 at *;refine⟨_,U,Zls,λq1 hq1=>⟨q1,_,U,.inr (SqT.of Za),U,U,Zg ?_⟩⟩;rw[show inV (.str y) [V.str "same",V.str "under",V.str "beneath",V.str "sign",V.str "nought"]=decide (y∈jW)from ZC y jW];have O:=s1.trans (Zb (o:=.tup [V.str "same",V.str "under",V.str "beneath",V.str "sign",V.str "nought"]) hq1);generalize upd H1 q1 (.tup [V.str "same",V.str "under",V.str "beneath",V.str "sign",V.str "nought"])=H2 at *;refine wo (λσ H'=>∃(G:Str)(jb:Bool),σ=[some (.int r),some (.int Y),some (.ref f),some (.ref m),some (.str G),some (.bl jb)]/\jb=decide (G∈jW)/\G∈Zv/\((lpS G).length:Int)<=Y/\(G∈jW->1<=l1)/\Z7 H H') (λN hN=>?_) ?_
 .refine⟨_,U,.str y,U,.inl ⟨y,U⟩,λp H3 hp0 hp L=>⟨p,_,U,.inl (SqL.of hp),_,U,_,_,U,U,_,U,jO (λc=>?a) (λc=>⟨_,U,_,U,jO (λc2=>⟨_,U,f,_,1,_,U,U,SqL.of ((O.trans L) _ _ hf),U,U,_,U,jO (λc3=>?b) (λc3=>?c)⟩) (λc2=>?d)⟩)⟩⟩
  case c=>
   refine hN _ _ ⟨y,_,U,U,D,?_,λ_=>?_,O.trans L⟩
   .have:=λz=>c (Qaq z)
    rw[Qab]at this;exact Int.not_lt.mp this
   .have:¬l1=0:=λz=>c3 (Qaq (by rw[z]))
    lia
  case d=>
   refine hN _ _ ⟨y,_,U,U,D,?_,λz=>absurd (Qaq z) c2,O.trans L⟩;have:=λz=>c (Qaq z);rw[Qab]at this;exact Int.not_lt.mp this
  all_goals
   have I:=(O.trans L) _ _ hf;have M:N [some (.int r),some (.int Y),some (.ref f),some (.ref m),some (.str "yes"),some (.bl false)] H3:=hN _ _ ⟨"yes",false,U,by decide +kernel,by decide +kernel,by show((0:Nat):Int)<=Y;lia,λz=>absurd z (by decide +kernel),O.trans L⟩;try refine Yp ?_
   refine Zg ?_;refine Zg ?_;refine⟨_,U,_,_,U,U,_,U,jO (λe1=>⟨_,U,f,_,1,_,U,U,SqL.of I,U,_,_,U,U,_,U,jO (λe2=>?_) (λe2=>M)⟩) (λe1=>M)⟩;obtain⟨Ua,hy2,ey2⟩:=zv (l:=["sign","nought"]) (i:=r/16%2) (Qb6 _ (by decide)) (Qb4 _ (by decide));have f2:Ua∈Zv/\(lpS Ua).length=1/\Ua∈jW:=(by decide +kernel:∀y∈(["sign","nought"]:Ai),y∈Zv/\(lpS y).length=1/\y∈jW) Ua hy2;have g1:=Qbb e1;have g2:=Qbb e2;exact⟨xj,λl hl=>⟨_,U,_,_,U,U,.of (by decide) (by decide),_,_,U,U,(by show(0:Int)<2;decide),l,_,_,_,U,U,SqL.of Za,ey2,Zg (Zg (hN _ _ ⟨Ua,true,U,(Qaq f2.2.2).symm,f2.1,by rw[f2.2.1];show(1:Int)<=Y;lia,λ_=>by lia,(O.trans L).trans (Zb hl)⟩))⟩⟩
 .rintro σ H3 ⟨G,jb,rfl,rfl,D,S,hj,L⟩;have I:=L _ _ hf;refine⟨_,U,f,_,1,_,U,U,SqL.of I,U,_,U,.inr ⟨_,U,_,_,U,U,_,U,f,_,1,1,U,U,I,U,?_⟩⟩;refine⟨_,U,k G _ _ D S ?_ ?_ Za (SmL.of L).put⟩
  .unfold Zg2
   by_cases h:G∈jW
   .rw[Qa5 h,Qa5 (Qaq h)];lia
   .rw[Qaw h,Qaw (λz=>h (Qbb z))];lia
  .by_cases h:G∈jW
   .rw[Qa5 (Qaq h)];have:=hj h;lia
   .rw[Qaw (λz=>h (Qbb z))];lia
inductive Wd:Prop
 |mk(r rm:Int)(f pn:Aw)(l0 l1 tp:Int)(nm:Ai):vs=[.int r,.int rm,.ref f,.ref pn,.int tp]->0<=r->0<=rm->H f=some (.lst [.int l0,.int l1])->0<=l0->H pn=some (.lst (nm.map V.str))->nm.length<=3->1<=tp->tp<=1000->(∀(w:V) (l0':Int) H',((∃y,w=.str y/\y∈Wz/\((lpS y).length:Int)<=rm/\l0'+Zg2 y za=l0)\/(∃y,w=.str y/\y∈nm/\l0'=l0)\/∃z:Int,w=.int z/\0<=z/\z<1000/\l0'=l0)->0<=l0'->H' f=some (.lst [.int l0',.int l1])->SmL f H H'->Q w H')->Wd
theorem zE:FnD T.cx P w base 2 (spQ Wd):=by
 have C:=XI P base T TB;refine T.cx.go Y3 ?_;rintro cdv A outer s H _ Q E hr ⟨r,rm,f,pn,O,l1,M,nm,rfl,hr0,hrm,Ua,hl0,hn,hn3,ht1,ht2,k⟩;refine⟨_,(Zc (Zu 5 Y3.nd (ZA (Zi Zh (Zi Zh (Zi Zh (Zi Zh (Zi Zh (Zi Zh (Zi Zh (Zi Zh (Zi Zh (Zi Zh (Zi Zh Zd)))))))))))))
   (Zc (ZJ (Zo Zbo (Zl ZO (qv 0) Ze) Ze (Zz _))
   (Zc (Zu 6 Y3.nd (Z1 Zq (qv 5) (Zl ZO (qv 0) Ze)))
   (Zc (Zu 7 Y3.nd (Yn Ya (qv 6) (Z0 (Zi Zh (Zi Zh (Zi Zh (Zi Zh (Zi Zh Zd)))))) (by with_unfolding_all rfl)))
   (Zf (ZJ (GL (qm (Zo Zl4 (Zp Z2 (by rfl) T.af Y7 (Zi (Zr T.az C hr (Zi (qv 6) Zd)) Zd)) (qv 1) (Zz _)) (WT (GL (Zb3 (Zh3 (Xx (qv 7))) (yX (Zo uK (Z1 Zq (qv 2) Ze) Ze (Zz _))))))))
   (Zc (Zh5 (Zl Xt (Z1 Zq (qv 2) Ze) (Z4 Xu (by rfl) T.bc Wu (Zi (qv 7) Zd))) (Zh4 (qv 2) Ze set_list))
   (Zf (Zn (qv 6)))) Zx)))) Zx)
   (Zc (Zu 0 Y3.nd (Zl ZH (qv 0) Ze))
   (Zc (ZJ (GL (qm (Zo (kR (jP hr)) (qv 3) (ZA Zd) (Zz _)) (WT (Zo Zbo (Zl ZO (qv 0) Ze) Ze (Zz _)))))
   (Zf (Zn (Z1 Zq (qv 3) (Zl ZO (Zl ZH (qv 0) Ze) (Zp Z2 (by rfl) T.af Y7 (Zi (qv 3) Zd)))))) Zx)
   (Zf (Zn (Z1 Zq (ZA (Zi (Zl ZO (Zl ZH (qv 0) Ze) Ze) (Zi (Zl ZO (Zl ZH (qv 0) Ze) (qv 4)) Zd))) (Zl ZO (Zl ZH (qv 0) Ze) Ze)))))))),?_⟩
 try dsimp only[L2.cxK,L2.cxK2]
 refine L2.let5 ?_;intro U4 U3 U2 U1;refine⟨zln11,λm hm=>Zg ?_⟩;have s1:=Zb (o:=.lst (wN.map V.str)) hm;show Yl _ _ _ _ (upd H m (.lst (wN.map V.str)));have hm1:upd H m (.lst (wN.map V.str)) m=some (.lst (wN.map V.str)):=Za;generalize upd H m (.lst (wN.map V.str))=H1 at *;have hf1:=s1 _ _ Ua;refine wo (λσ H'=>∃u6 u7,σ=[some (.int r),some (.int rm),some (.ref f),some (.ref pn),some (.int M),some (.ref m),u6,u7]/\Z7 H H') (λN hN=>?_) ?_
 .refine⟨_,U,_,_,U,U,(by show(0:Int)<16;decide),_,_,U,U,_,U,jO (λc=>?_) (λc=>hN _ _ ⟨_,_,U,s1⟩)⟩;have c:=Qbb c;obtain⟨y,hy,ey⟩:=zv (l:=wN) (i:=r%16) (Qb6 _ (by decide)) c;obtain⟨hyc,G⟩:=Zg5 y hy;refine⟨_,U,_,U,_,_,U,U,(by show(0:Int)<16;decide),m,_,_,_,U,U,SqL.of hm1,ey,Zg ?_⟩;refine⟨_,U,Zls,λq1 hq1=>⟨q1,_,U,.inr (SqT.of Za),U,U,Zg ?_⟩⟩;rw[show inV (.str y) [V.str "add",V.str "sub",V.str "neg",V.str "twice",V.str "low"]=decide (y∈(["add","sub","neg","twice","low"]:Ai))from ZC y ["add","sub","neg","twice","low"]];have I:=s1.trans (Zb (o:=.tup [V.str "add",V.str "sub",V.str "neg",V.str "twice",V.str "low"]) hq1);generalize upd H1 q1 (.tup [V.str "add",V.str "sub",V.str "neg",V.str "twice",V.str "low"])=H2 at *;refine⟨_,U,.str y,U,.inl ⟨y,U⟩,λp H3 hp0 hp D=>⟨p,_,U,.inl (SqL.of hp),_,U,_,_,U,U,_,U,jO (λc1=>⟨_,U,_,U,jO (λY=>?a) (λY=>?b)⟩) (λc1=>hN _ _ ⟨_,_,U,I.trans D⟩)⟩⟩
  case' a=>
   refine Yp ?_;have hz:y∈za->1<=O:=λh=>by
    have Y:(!decide (y∈(["add","sub","neg","twice","low"]:Ai)))=true:=Y;rw[Qaq (G.mpr h)]at Y;cases Y
  case' b=>
   refine⟨_,U,f,_,0,_,U,U,SqL.of ((I.trans D) _ _ Ua),U,_,_,U,U,_,U,jO (λc3=>?_) (λc3=>hN _ _ ⟨_,_,U,I.trans D⟩)⟩;have hz:y∈za->1<=O:=λ_=>by have:=Qbb c3;lia
  all_goals
   have Z:=(I.trans D) _ _ Ua;have hlen:((lpS y).length:Int)<=rm:=by
    have:=Qbb c1;rw[Qab]at this;exact this
   refine⟨_,U,f,_,0,_,U,U,SqL.of Z,U,_,U,.inr ⟨_,U,_,_,U,U,_,U,f,_,0,0,U,U,Z,U,_,U,k (.str y) _ _ (.inl ⟨y,U,hyc,hlen,?_⟩) ?_ Za (SmL.of (I.trans D)).put⟩⟩
   .show O-(if decide (y∈(["add","sub","neg","twice","low"]:Ai))=true then 1 else 0)+Zg2 y za=O;unfold Zg2
    by_cases h:y∈za
    .rw[Qa5 h,Qa5 (Qaq (G.mpr h))];lia
    .rw[Qaw h,Qaw (λz=>h (G.mp (Qbb z)))];lia
   .show 0<=O-(if decide (y∈(["add","sub","neg","twice","low"]:Ai))=true then 1 else 0)
    by_cases h:y∈za
    .rw[Qa5 (Qaq (G.mpr h))];have:=hz h;lia
    .rw[Qaw (λz=>h (G.mp (Qbb z)))];lia
 .rintro σ H2 ⟨u6,u7,rfl,I⟩;have hf2:=I _ _ Ua;have hn2:=I _ _ hn;refine⟨_,U,_,_,U,U,.of (by decide) (by decide),Zg ?_⟩;have q0:0<=r/16:=by lia
  try dsimp only
  generalize r/16=q at *;have last:∀H3,Z7 H H3->U4 {nx:=λ_ H'=>Q .non H',rt:=Q} [some (.int q),some (.int rm),some (.ref f),some (.ref pn),some (.int M),some (.ref m),u6,u7] H3:=λH3 D=>by
   obtain⟨z,ez,z0,z1⟩:∃z:Int,atI [V.int (q/8%3),V.int (q/8%M)] (q/4%2)=some (.int z)/\0<=z/\z<1000:=by
    have t0:0<=q/8%M:=Qb6 _ (by lia);have t1:q/8%M<M:=Qb4 _ (by lia);rcases(by lia:q/4%2=0\/q/4%2=1)with e|e<;>rw[e]
    .exact⟨q/8%3,U,by lia,by lia⟩
    .exact⟨q/8%M,U,t0,by lia⟩
   exact⟨_,U,_,_,U,U,.of (by decide) (by decide),_,_,U,U,(by show(0:Int)<3;decide),_,U,_,_,U,U,.of (by decide) (by decide),_,U,_,_,U,U,(by show(0:Int)<M;lia),xj,λl hl=>⟨_,U,_,_,U,U,.of (by decide) (by decide),_,_,U,U,(by show(0:Int)<2;decide),l,_,_,_,U,U,SqL.of Za,ez,k (.int z) O _ (.inr (.inr ⟨z,U,z0,z1,U⟩)) hl0 ((D.trans (Zb hl)) _ _ Ua) (SmL.of (D.trans (Zb hl)))⟩⟩
  refine⟨_,U,Za6,λe he=>⟨pn,e,_,_,U,U,SqL.of (Zb he _ _ hn2),SqL.of Za,Qb2.mpr λv hv=>(by obtain⟨y,_,rfl⟩:=Qap.mp hv;rfl),U,_,U,?_⟩⟩;have D:=I.trans (Zb (o:=.lst []) he);cases nm with
  |nil=>exact last _ D
  |cons y0 rest=>
   refine Yp ⟨_,U,_,_,U,U,(by show(0:Int)<4;decide),_,_,U,U,_,U,jO (λc=>?_) (λc=>last _ D)⟩;have S:(0:Int)<((y0::rest).length:Int):=by rw[Qaz];lia
   obtain⟨y,hy,ey⟩:=zv (l:=y0::rest) (i:=q/4%((y0::rest).length:Int)) (Qb6 _ (by lia)) (Qb4 _ S);have L:=D _ _ hn;rw[<-Qab V.str]at ey S;exact⟨_,U,_,U,_,_,U,U,.of (by decide) (by decide),_,U,pn,_,U,.inl (SqL.of L),_,_,U,U,S,pn,_,_,_,U,U,SqL.of L,ey,k (.str y) O _ (.inr (.inl ⟨y,U,hy,U⟩)) hl0 (D _ _ Ua) (SmL.of D)⟩
inductive GG:Prop
 |mk(tw th dv:Aw)(ys:Ai)(ws:A8)(hs:Ak)(kvs:A0)(β:Str->Int):vs=[.ref tw,.ref th,.ref dv]->H tw=some (.tup ws)->ws.length<=60->H th=some (.tup (hs.map V.int))->H dv=some (.dK kvs)->Zdw kvs ys β->(∀y∈ys,β y=0\/β y=1)->(∀y∈ys,y∉Z8)->TyR ys ws [true]->HvS ws hs->(∀p q H',H p=none->H' p=some (.tup [vb true ((lst ys β ws hs).1.getD 0 0),.ref q])->H' q=some (.tup ((lst ys β ws hs).2.map V.int))->Z7 H H'->Q (.ref p) H')->GG
theorem gg:FnD T.fi P w base 2 (spQ GG):=by
 have Ua:=XI P base T TB;have D:=zB P base T TB;have I:=zC P base T TB;refine T.fi.go ZM ?_;rintro cdv A outer s H _ Q E Z ⟨tw,th,dv,ys,C,L,kvs,β,rfl,ht,hl,hth,hd,hc,hβ,hyk,hty,hv,k⟩;have hu:=zH Z;refine⟨_,(Zc (Zu 3 ZM.nd (ZA Zd))
   (Zc (Zu 4 ZM.nd (ZA Zd))
   (Zc (YD Qbh U (Zif (b1:=true) (b2:=true) U T.aaj (Zi (Zb8 Zh8 (qv 0) (JW xn Ze)) (Zi (Zb8 Zh8 (qv 1) (JW xn Ze)) Zd))) (x6 U (Xh 5 ZM.nd) (Xh 6 ZM.nd))
   (Zc (ZJ (Xx (Zp X8 (by rfl) T.ai Yg (Zi (qv 5) (Zi (WS (v:=.ty "int") (by rfl) T.bc Wu U) Zd))))
   (Zf (Zu 7 ZM.nd (Z0 (Zi (Zl ZO (qv 6) Ze) (Zi (Zl ZH (qv 6) Ze) Zd))))) (Zf (ZJ (Zo (jo hu) (qv 5) (qv 2) (by with_unfolding_all rfl))
   (Zf (Zu 7 ZM.nd (Z0 (Zi (JN hu (qv 2) (qv 5) (λ_ _=>U)) (Zi Ze Zd))))) (Zf (ZJ (Zo Ym (qv 5) Zh (Zz _))
   (Zf (Zu 7 ZM.nd (Z0 (Zi XT (Zi Ze Zd))))) (Zf (ZJ (Zo Ym (qv 5) Zh (Zz _))
   (Zc (Zu 8 ZM.nd (WU Qar Qcc Qcd J3 (qv 3)))
   (Zc (Zu 9 ZM.nd (WU Qar Qcc Qcd J3 (qv 3)))
   (Zf (Zu 7 ZM.nd (Z0 (Zi (Z1 Zq (ZA (Zi (WU Qar Qcc Qcd J3 (qv 3)) (Zi (qv 9) Zd))) (qv 8)) (Zi Ze Zd))))))) (Zf (ZJ (Zo Ym (Zp Z2 (by rfl) T.af Y7 (Zi (Zr T.az Ua Z (Zi (qv 5) Zd)) Zd)) Ze (Zz _))
   (Zf (Zu 7 ZM.nd (Zr T.cm D Z (Zi (qv 5) (Zi (qv 6) (Zi (WU Qar Qcc Qcd J3 (qv 3)) Zd)))))) (Zc (Zu 8 ZM.nd (WU Qar Qcc Qcd J3 (qv 3)))
   (Zf (Zu 7 ZM.nd (Zr T.cq I Z (Zi (qv 5) (Zi (qv 6) (Zi (qv 8) (Zi (WU Qar Qcc Qcd J3 (qv 3)) Zd)))))))))))))))))
   (Zc (Yb (Yy Qar Qa2 Qa3 ZI (qv 3) (Zi (Z1 Yf (qv 7) Ze) Zd)))
   (Zf (Yb (Yy Qar Qa2 Qa3 ZI (qv 4) (Zi (Z1 Yf (qv 7) Ze) Zd)))))))
   (Zf (Zn (Z0 (Zi (Z1 Zq (qv 3) Ze) (Zi (Z4 Z5 (by rfl) T.ah Yr (Zi (Zb8 Zjm (qv 4) (JW xn Ze)) Zd)) Zd)))))))),?_⟩
 try dsimp only[L2.cxK,L2.cxK2]
 have h2:2<=sizeLine:=by decide
 have hz:(0:Int)<2:=by decide
 refine⟨Za6,λst M=>Zg ⟨Za6,λkt Y=>Zg ?_⟩⟩;have s1:=(Zb (o:=.lst []) M).trans (Zb (o:=.lst []) Y);have S:kt≠st:=λz=>by rw[z,Za]at Y;cases Y
 have e1:upd (upd H st (.lst [])) kt (.lst []) st=some (.lst []):=by rw[Zj S.symm,Za]
 have e2:upd (upd H st (.lst [])) kt (.lst []) kt=some (.lst []):=Za;have hkt:H kt=none:=by rw[Zj S]at Y;exact Y
 generalize upd (upd H st (.lst [])) kt (.lst [])=H1 at *;have hvl:=hv.len;refine⟨_,U,1,U,U,tw,_,U,SqT.of (s1 _ _ ht),λtr htr=>⟨_,U,1,U,U,th,_,U,SqT.of (Zb htr _ _ (s1 _ _ hth)),λZ hhr=>⟨tr,Z,_,_,U,SqT.of (Zb hhr _ _ Za),SqT.of Za,?_⟩⟩⟩;have s2:=s1.trans ((Zb (o:=.tup C.reverse) htr).trans (Zb (o:=.tup (L.map V.int).reverse) hhr));have t0:upd (upd H1 tr (.tup C.reverse)) Z (.tup (L.map V.int).reverse) tr=some (.tup C.reverse):=Zb hhr _ _ Za;have r0:upd (upd H1 tr (.tup C.reverse)) Z (.tup (L.map V.int).reverse) Z=some (.tup (L.map V.int).reverse):=Za;have p0:=Zb (o:=.tup (L.map V.int).reverse) hhr _ _ (Zb (o:=.tup C.reverse) htr _ _ e1);have k0:=Zb (o:=.tup (L.map V.int).reverse) hhr _ _ (Zb (o:=.tup C.reverse) htr _ _ e2);have n1:tr≠st:=ZY t0 p0 λz=>nomatch z;have n2:tr≠kt:=ZY t0 k0 λz=>nomatch z;have n3:Z≠st:=ZY r0 p0 λz=>nomatch z;have n4:Z≠kt:=ZY r0 k0 λz=>nomatch z
 try dsimp only
 generalize upd (upd H1 tr (.tup C.reverse)) Z (.tup (L.map V.int).reverse)=H0 at *;refine Zj1 (K:=K) (b1:=true) (b2:=true) (a1:=tr) (a2:=Z) (xs:=C.reverse) (ys:=(L.map V.int).reverse) (λi σ H2=>∃(ks:Am)(u5 u6 u7 u8 u9:Option V),σ=[some (.ref tw),some (.ref th),some (.ref dv),some (.ref st),some (.ref kt),u5,u6,u7,u8,u9]/\i<=C.length/\TyR ys (C.drop (C.length-i)) ks/\H2 st=some (.lst (vbs ks (lst ys β (C.drop (C.length-i)) (L.drop (C.length-i))).1).reverse)/\H2 kt=some (.lst ((lst ys β (C.drop (C.length-i)) (L.drop (C.length-i))).2.map V.int).reverse)/\H2 tr=some (.tup C.reverse)/\H2 Z=some (.tup (L.map V.int).reverse)/\Z7 H H2) ⟨[],none,none,none,none,none,U,Qbe _,?_,?_,?_,t0,r0,s2⟩ (λi σ H2 ⟨_,_,_,_,_,_,_,_,_,_,_,a,b,_⟩=>⟨SqT.of a,SqT.of b⟩) ?_ ?_
 .rw[Qgt,Qeh];exact .nil
 .rw[Qgt,Qeh];exact p0
 .rw[Qgt,Qeh];exact k0
 .rintro i x hx_ p σ H2 hx hhx ⟨ks,u5,u6,u7,u8,u9,rfl,hi0,hk,p2,k2,t2,r2,s3⟩ hp;obtain⟨hi,hx⟩:=Zim hx;have hhx2:L[L.length-1-i]?=some (L.getD (L.length-1-i) 0):=by
   rw[Qak,Qac (by lia)];rfl
  have eh:hx_=.int (L.getD (L.length-1-i) 0):=by
   rw[List.getElem?_reverse (by rw[Qab];lia),Qab,Qai,hhx2]at hhx;exact(Option.some.inj hhx).symm
  generalize L.getD (L.length-1-i) 0=h at *;subst eh;have ed:=uE hx hi;have ee:=uE hhx2 (by lia);rw[hvl]at ee;obtain⟨k1,hk1⟩:=hty.drop (C.length-(i+1));have hv1:=hv.drop (C.length-(i+1));rw[ed]at hk1;rw[ed,ee]at hv1;have hle:(C.drop (C.length-i)).length<=60:=by rw[Qds];lia
  generalize er:C.drop (C.length-i)=r at *;generalize eg:L.drop (C.length-i)=g at *;obtain⟨kk,hkk,hcs⟩:=Zg6 hyk hβ hk1 hv1;have eks:=zy hyk hk hkk;subst eks;have hn:=Zlq (XC hyk hβ hk (by cases hv1;assumption)).1;have hkl:ks.length<=60:=by
   have:=hk.facts.2.2;have:=wu r;lia
  have hkg:(lst ys β r g).2.length<=60:=by
   cases hv1 with
   |cons _ hv2=>have:=(XC hyk hβ hk hv2).2.2.len;lia
  generalize hP:vbs ks (lst ys β r g).1=P at *;generalize hG:(lst ys β r g).2=G at *;generalize hP1:vbs k1 (lst ys β (x::r) (h::g)).1=P1 at *;generalize hG1:(lst ys β (x::r) (h::g)).2=G1 at *;have sp:=Zb (o:=.tup [x,.int h]) hp;refine⟨p,_,U,SqT.of Za,U,_,_,U,_,_,U,U,?_⟩;have p3:=sp _ _ p2;have k3:=sp _ _ k2;have t3:=sp _ _ t2;have r3:=sp _ _ r2;have d3:=(s3.trans sp) _ _ hd;have s4:=s3.trans sp;try dsimp only
  generalize upd H2 p (.tup [x,.int h])=H3 at *;refine qW (λσ H'=>∃(q:Aw)(v:V)(nx:Int)(l:A8)(u8 u9:Option V),σ=[some (.ref tw),some (.ref th),some (.ref dv),some (.ref st),some (.ref kt),some x,some (.int h),some (.ref q),u8,u9]/\H' q=some (.tup [v,.int nx])/\H' st=some (.lst l.reverse)/\H' kt=some (.lst (G.map V.int).reverse)/\P1=v::l/\G1=nx::G/\l.length<=60/\H' tr=some (.tup C.reverse)/\H' Z=some (.tup (L.map V.int).reverse)/\Z7 H H') (λN hN=>?_) ?_
  .have fin:∀{q:Aw} {H5:Hp} {v:V} {nx:Int} {l:A8} {u8 u9:Option V},H5 q=none->H5 st=some (.lst l.reverse)->H5 kt=some (.lst (G.map V.int).reverse)->P1=v::l->G1=nx::G->l.length<=60->H5 tr=some (.tup C.reverse)->H5 Z=some (.tup (L.map V.int).reverse)->Z7 H H5->N [some (.ref tw),some (.ref th),some (.ref dv),some (.ref st),some (.ref kt),some x,some (.int h),some (.ref q),u8,u9] (upd H5 q (.tup [v,.int nx])):=λO a1 a2 a3 a4 a5 a6 a7 a8=>hN _ _ ⟨_,_,_,_,_,_,U,Za,Zb O _ _ a1,Zb O _ _ a2,a3,a4,a5,Zb O _ _ a6,Zb O _ _ a7,a8.trans (Zb O)⟩
   rcases hcs with⟨⟨z,rfl⟩,h0,eP,eG⟩|⟨y,rfl,hcs⟩
   .exact⟨_,U,_,_,_,_,U,.int z,Xv,_,U,Yp ⟨_,U,_,_,U,U,hz,_,U,_,_,U,U,.of (by decide) (by decide),h2,λq O=>Zg (fin O p3 k3 eP eG (by lia) t3 r3 s4)⟩⟩
   refine⟨_,U,_,_,_,_,U,.str y,Xw,_,U,ZK ⟨_,U,_,U,dv,Yc kvs (.inr y),U,.inl ⟨kvs,.inr y,.inl d3,U,U⟩,_,U,?_⟩⟩;show if(Yc kvs (.inr y)).isSome=true then _ else _;rcases hcs with⟨hy,eP,eG⟩|⟨hny,hh,eG,hc4⟩
   .rw[hc.1 y hy];exact Yp ⟨_,U,_,U,dv,_,U,.inl ⟨kvs,.inr y,.inl d3,U,(hc.1 y hy).symm⟩,h2,λq O=>Zg (fin O p3 k3 eP eG (by lia) t3 r3 s4)⟩
   rw[hc.2 y hny];refine ZK ⟨_,U,U,_,U,?_⟩;rcases hc4 with⟨rfl,e0,eP⟩|⟨rfl,e0,a,b,c,l,ha,rfl,eP⟩|⟨n0,ny,m1,q1,a,l,ha,rfl,eP,e5⟩|⟨n0,ny,m1,q1,a,b,l,ha,hb,rfl,eP,e5⟩
   .rw[e0]at eG;exact Yp ⟨h2,λq O=>Zg (fin O p3 k3 eP eG (by lia) t3 r3 s4)⟩
   .rw[e0]at eG;refine ZK ⟨_,U,U,_,U,Yp ?_⟩;have hpa:=Zly p3;refine⟨_,U,.inl ⟨U,_,SqL.of hpa⟩,st,_,_,U,U,hpa,YN _ _,Zg ?_⟩;rw[Qcp];have s6:=ZF (o:=.lst ((V.int b::V.int c::l).reverse)) s4 M;have p6:upd H3 st (.lst ((V.int b::V.int c::l).reverse)) st=some (.lst ((V.int b::V.int c::l).reverse)):=Za;have k6:=(Zj (H:=H3) (o:=.lst ((V.int b::V.int c::l).reverse)) S).trans k3;have t6:=(Zj (H:=H3) (o:=.lst ((V.int b::V.int c::l).reverse)) n1).trans t3;have r6:=(Zj (H:=H3) (o:=.lst ((V.int b::V.int c::l).reverse)) n3).trans r3;show Yl _ _ _ _ (upd H3 st (.lst ((V.int b::V.int c::l).reverse)));generalize upd H3 st (.lst ((V.int b::V.int c::l).reverse))=H6 at *;have hpb:=Zly p6;refine⟨_,U,.inl ⟨U,_,SqL.of hpb⟩,st,_,_,U,U,hpb,YN _ _,Zg ?_⟩;rw[Qcp];have s7:=ZF (o:=.lst ((V.int c::l).reverse)) s6 M;have p7:upd H6 st (.lst ((V.int c::l).reverse)) st=some (.lst ((V.int c::l).reverse)):=Za;have k7:=(Zj (H:=H6) (o:=.lst ((V.int c::l).reverse)) S).trans k6;have t7:=(Zj (H:=H6) (o:=.lst ((V.int c::l).reverse)) n1).trans t6;have r7:=(Zj (H:=H6) (o:=.lst ((V.int c::l).reverse)) n3).trans r6;generalize upd H6 st (.lst ((V.int c::l).reverse))=H7 at *;have hpc:=Zly p7;refine⟨_,U,.inl ⟨U,_,SqL.of hpc⟩,st,_,_,U,U,hpc,YN _ _,_,U,h2,λl2 hl2=>⟨_,U,l2,_,_,.int (if a=1 then b else c),U,U,SqL.of Za,by rcases ha with rfl|rfl<;>rfl,h2,λq O=>?_⟩⟩;rw[Qcp]at hl2 O ⊢;have hl:l.length<=60:=by simp only[Qaz]at hn;lia
    have s8:=(ZF (o:=.lst l.reverse) s7 M).trans (Zb (o:=.lst [V.int c,V.int b]) hl2);have q8:=Zb (o:=.lst [V.int c,V.int b]) hl2;exact Zg (fin O (q8 _ _ Za) (q8 _ _ ((Zj S).trans k7)) eP eG hl (q8 _ _ ((Zj n1).trans t7)) (q8 _ _ ((Zj n3).trans r7)) s8)
   .rw[Qan λz=>n0 (by injection z)];refine ZK ⟨_,U,U,_,U,?_⟩;rw[Qan λz=>ny (by injection z)];refine ZK ⟨_,U,.str y,U,.inl ⟨y,U⟩,λp H6 hp0 hp3 sp=>⟨p,_,U,.inl (SqL.of hp3),U,_,U,?_⟩⟩;rw[show decide (V.int (((lpW (.str y)).map V.bl).length:Int)=V.int 1)=true from Qaq (by rw[Qab];show V.int ((lpS y).length:Int)=_;rw[q1];rfl)];have hpop:=Zly (sp _ _ p3);refine Yp ⟨_,U,_,U,_,U,.inl ⟨U,_,SqL.of hpop⟩,st,_,_,U,U,hpop,YN _ _,y,h,a,U,m1,hh,ha,λq H7 hq0 O s7=>Zg (hN _ _ ?_)⟩;rw[Qcp]at s7;rw[e5]at eG;exact⟨q,_,_,l,_,_,U,O,s7 _ _ Za,s7 _ _ ((Zj S).trans (sp _ _ k3)),eP,eG,by simp only[Qaz]at hn;lia,s7 _ _ ((Zj n1).trans (sp _ _ t3)),s7 _ _ ((Zj n3).trans (sp _ _ r3)),(ZF (s4.trans sp) M).trans s7⟩
   .rw[Qan λz=>n0 (by injection z)];refine ZK ⟨_,U,U,_,U,?_⟩;rw[Qan λz=>ny (by injection z)];refine ZK ⟨_,U,.str y,U,.inl ⟨y,U⟩,λp H6 hp0 hp3 sp=>⟨p,_,U,.inl (SqL.of hp3),U,_,U,?_⟩⟩;rw[show decide (V.int (((lpW (.str y)).map V.bl).length:Int)=V.int 1)=false from Qan (λz=>q1 (by rw[Qab]at z;injection z with z;show(lpW (.str y)).length=1;lia))];have hpa:=Zly (sp _ _ p3);refine ZK ⟨_,U,.inl ⟨U,_,SqL.of hpa⟩,st,_,_,U,U,hpa,YN _ _,Zg ?_⟩;rw[Qcp];have hpb:=Zly (Za (H:=H6) (a:=st) (o:=.lst ((vb (Zfe y) b::l).reverse)));refine⟨_,U,_,U,_,U,_,U,.inl ⟨U,_,SqL.of hpb⟩,st,_,_,U,U,hpb,YN _ _,y,h,a,b,U,m1,hh,ha,hb,λq H7 hq0 O s7=>Zg (hN _ _ ?_)⟩;rw[Qcp,xl]at s7;rw[e5]at eG;exact⟨q,_,_,l,_,_,U,O,s7 _ _ Za,s7 _ _ ((Zj S).trans (sp _ _ k3)),eP,eG,by simp only[Qaz]at hn;lia,s7 _ _ ((Zj n1).trans (sp _ _ t3)),s7 _ _ ((Zj n3).trans (sp _ _ r3)),(ZF (s4.trans sp) M).trans s7⟩
  .rintro σ H5 ⟨q,v,nx,l,v8,v9,rfl,q5,p5,k5,rfl,rfl,hl5,t5,r5,s5⟩;have qs:q≠st:=ZY q5 p5 λz=>nomatch z;refine⟨_,U,.inl ⟨U,_,SqL.of p5⟩,_,U,q,_,0,_,U,U,SqT.of q5,U,st,_,_,U,U,p5,by rw[Qc1];exact Z3 (by lia),?_⟩;have p6:upd H5 st (.lst (l.reverse++[v])) st=some (.lst (l.reverse++[v])):=Za;have k6:=(Zj (H:=H5) (o:=.lst (l.reverse++[v])) S).trans k5;have q6:=(Zj (H:=H5) (o:=.lst (l.reverse++[v])) qs).trans q5;have t6:=(Zj (H:=H5) (o:=.lst (l.reverse++[v])) n1).trans t5;have r6:=(Zj (H:=H5) (o:=.lst (l.reverse++[v])) n3).trans r5;have s6:=ZF (o:=.lst (l.reverse++[v])) s5 M
   try dsimp only
   generalize upd H5 st (.lst (l.reverse++[v]))=H6 at *;refine⟨_,U,.inl ⟨U,_,SqL.of k6⟩,_,U,q,_,1,_,U,U,SqT.of q6,U,kt,_,_,U,U,k6,by rw[Qc1,Qab];exact Z3 (by lia),?_⟩;refine⟨k1,_,_,_,_,_,U,hi,by rw[ed];exact hk1,?_,?_,(Zj n2).trans t6,(Zj n4).trans r6,ZF s6 hkt⟩
   .rw[ed,ee,hP1,Zj S.symm,p6,Qcn]
   .rw[ed,ee,hG1,Za,Qbw,Qcn]
 .rintro σ H2 ⟨ks,u5,u6,u7,u8,u9,rfl,hi0,hk,p2,k2,t2,r2,s3⟩;have ez:(C.reverse.zip (L.map V.int).reverse).length=C.length:=by
   rw[Qfk,Qc1,Qc1,Qab];lia
  rw[ez,Qdw,Qgv]at hk p2 k2;rw[Qgv]at p2 k2;obtain rfl:=zy hyk hty hk;have hb:=XC hyk hβ hty hv
  match O:(lst ys β C L).1,hb.1 with
  |[x],_=>
   rw[O]at p2 k;refine⟨_,U,st,_,0,_,U,U,SqL.of p2,U,_,U,1,U,U,kt,_,U,SqL.of k2,λl1 hl1=>?_⟩;refine⟨l1,_,U,.inl ⟨SqL.of Za,λq hq2=>⟨h2,λp hp=>k p q _ ?_ Za ?_ ?_⟩⟩⟩
   .exact(s3.trans ((Zb hl1).trans (Zb hq2))).free hp
   .exact(Zb hp _ _ Za).trans (by rw[Qf8])
   .exact s3.trans ((Zb hl1).trans ((Zb hq2).trans (Zb hp)))
inductive Js(K:Af):Prop
 |mk(a pn:Aw)(ns:Ak)(st:Nat)(nm:Ai):vs=[.ref a,.int st,.ref pn]->SqL K H a (ns.map V.int)->ns.length<=63->st<=10->H pn=some (.lst (nm.map V.str))->nm≠[]->(∀z∈nm,z∉Z8)->(∀p ws H',H' p=some (.tup ws)->ws.length<=40->TyR nm ws [true]->J2 ws<=15->Z7 H H'->Q (.ref p) H')->Js K
def yF(K:Af):Sp:=λvs H Q _=>Js vs H Q K
theorem yG:FnD T.dt P w base 2 (yF K):=by
 have G:=jc P base T TB;have C:=Xp P base T TB;refine T.dt.go Ys ?_;rintro cdv A outer s H _ Q E hr ⟨a,pn,ns,st,nm,rfl,hS,h63,hst,hpn,hne,hk,k⟩;refine⟨_,(Zc (Zu 3 Ys.nd (Zr T.ag C hr (Zi (qv 0) (Zi (qv 1) Zd))))
   (Zc (Zu 4 Ys.nd (Z1 Zq (ZA (Zi Zh (Zi Zh Zd))) (Zl ZO (qv 3) Ze)))
   (Zc (Zu 5 Ys.nd (Z1 Zq (ZA (Zi (Z0 (Zi Zh (Zi (Z1 Zq (qv 2) Ze) Zd))) (Zi (Z0 (Zi Zh (Zi Zh (Zi (Z1 Zq (qv 2) Ze) Zd)))) (Zi (Z0 (Zi Zh (Zi Ze (Zi (Z1 Zq (qv 2) Ze) Zd)))) Zd)))) (Zl ZO (Zl ZH (qv 3) Ze) Ze)))
   (Zc (Zu 6 Ys.nd (Zr T.di G hr (Zi (Zr T.ag C hr (Zi (qv 0) (Zi (Zl Yj (qv 1) Ze) Zd))) (Zi (Z1 Zq (qv 2) Ze) Zd))))
   (Zc (ZJ (GL (Zb3 (Zo Ym (Zl ZO (Zl ZH (qv 3) Ze) Ze) Ze (Zz _)) (yX (Zo Ym (Zp Z2 (by rfl) T.af Y7 (Zi (qv 2) Zd)) Ze (Zz _)))))
   (Zf (Zn (Zl Ja (Zl Ja (Z0 (Zi (qv 4) (Zi Zh (Zi Zh (Zi (Z1 Zq (qv 2) Ze) Zd))))) (qv 6)) (qv 5)))) Zx)
   (Zc (Zu 7 Ys.nd (Z1 Zq (ZA (Zi (Z0 (Zi Zh (Zi Zh (Zi (Z1 Zq (qv 2) Ze) Zd)))) (Zi (Z0 (Zi Zh (Zi Ze (Zi Zh (Zi Zh (Zi (Z1 Zq (qv 2) Ze) Zd)))))) Zd))) (Zl ZO (Zl ZH (qv 3) Ze) Ze)))
   (Zc (Zu 8 Ys.nd (Zl Ja (Zl Ja (Zl Ja (Z0 (Zi (qv 4) (Zi Zh (Zi Zh (Zi Zh (Zi (Z1 Zq (qv 2) Ze) Zd)))))) (qv 6)) (Z0 (Zi Zh (Zi (Z1 Zq (qv 2) Ze) Zd)))) (qv 7)))
   (Zf (Zn (Zl Ja (Zl Ja (qv 8) (Z0 (Zi (Z1 Zq (ZA (Zi Zh (Zi Zh (Zi Zh Zd)))) (Zl ZO (Zl ZH (qv 3) Ze) Ze)) (Zi Zh (Zi (Z1 Zq (qv 2) Ze) Zd))))) (qv 5))))))))))),?_⟩
 try dsimp only[L2.cxK,L2.cxK2]
 have hz:(0:Int)<2:=by decide
 refine⟨_,U,_,U,a,ns,st,U,hS,h63,by lia,λr H1 r0 r1 s1=>Zg ?_⟩;obtain⟨w,ew,hw⟩:∃w,atI [V.str "both",V.str "so"] (r%2)=some (.str w)/\w∈(["both","so"]:Ai):=by
  rcases(by lia:r%2=0\/r%2=1)with e|e<;>rw[e]
  .exact⟨"both",U,by decide⟩
  .exact⟨"so",U,by decide⟩
 obtain⟨y,I,rfl⟩:∃y I,nm=y::I:=by
  cases nm with
  |nil=>exact absurd U hne
  |cons y I=>exact⟨y,I,U⟩
 have hy:y∈y::I:=Qaj;have n0:atI ((y::I).map V.str) 0=some (.str y):=Yv (j:=0) rfl;obtain⟨K1,K2,K3⟩:=wR hk hy;refine⟨xj,λl0 hl0=>⟨_,U,_,_,U,U,hz,l0,_,_,_,U,U,SqL.of Za,ew,Zg ?_⟩⟩;have s2:=s1.trans (Zb (o:=.lst [V.str "both",V.str "so"]) hl0);generalize upd H1 l0 (.lst [V.str "both",V.str "so"])=H2 at *;have n2:=s2 _ _ hpn;refine⟨_,U,pn,_,0,.str y,U,U,SqL.of (n2),n0,xj,λp1 hp1=>⟨_,U,pn,_,0,.str y,U,U,SqL.of (Zb hp1 _ _ n2),n0,k4,λp2 hp2=>⟨_,U,pn,_,0,.str y,U,U,SqL.of (Zb hp2 _ _ (Zb hp1 _ _ n2)),n0,k4,λp3 hp3=>⟨k4,λl1 hl1=>⟨_,U,_,_,U,U,.of (by decide) (by decide),_,_,U,U,(by show(0:Int)<3;decide),?_⟩⟩⟩⟩⟩;have d1:=Zb (o:=.tup [V.str "sign",.str y]) hp1;have d2:=Zb (o:=.tup [V.str "never",.str "sign",.str y]) hp2;have d3:=Zb (o:=.tup [V.str "under",.int 5,.str y]) hp3;have d4:=Zb (o:=.lst [V.ref p1,.ref p2,.ref p3]) hl1;have e1:=d4 _ _ (d3 _ _ (d2 _ _ (Za (H:=H2) (a:=p1) (o:=.tup [V.str "sign",.str y]))));have e2:=d4 _ _ (d3 _ _ (Za (H:=upd H2 p1 (.tup [V.str "sign",.str y])) (a:=p2) (o:=.tup [V.str "never",.str "sign",.str y])));have e3:=d4 _ _ (Za (H:=upd (upd H2 p1 (.tup [V.str "sign",.str y])) p2 (.tup [V.str "never",.str "sign",.str y])) (a:=p3) (o:=.tup [V.str "under",.int 5,.str y]));have e4:=Za (H:=upd (upd (upd H2 p1 (.tup [V.str "sign",.str y])) p2 (.tup [V.str "never",.str "sign",.str y])) p3 (.tup [V.str "under",.int 5,.str y])) (a:=l1) (o:=.lst [V.ref p1,.ref p2,.ref p3]);have s3:=s2.trans (d1.trans (d2.trans (d3.trans d4)));try dsimp only
 generalize upd (upd (upd (upd H2 p1 (.tup [V.str "sign",.str y])) p2 (.tup [V.str "never",.str "sign",.str y])) p3 (.tup [V.str "under",.int 5,.str y])) l1 (.lst [V.ref p1,.ref p2,.ref p3])=H3 at *;obtain⟨ak,aw,ea,ha,A⟩:∃ak aw,atI [V.ref p1,V.ref p2,V.ref p3] (r/2%3)=some (.ref ak)/\H3 ak=some (.tup aw)/\ZL (y::I) true 3 1 aw:=by
  rcases(by lia:r/2%3=0\/r/2%3=1\/r/2%3=2)with e|e|e<;>rw[e]
  .exact⟨p1,_,U,e1,K1⟩
  .exact⟨p2,_,U,e2,K2⟩
  .exact⟨p3,_,U,e3,K3⟩
 refine⟨l1,_,_,_,U,U,SqL.of e4,ea,Zg ?_⟩;have n3:=s3 _ _ hpn;refine⟨_,U,_,U,_,_,U,U,a,ns,st+1,U,Gz hS s3,h63,by lia,λr2 H4 r20 r21 s4=>⟨_,U,pn,_,0,.str y,U,U,SqL.of (s4 _ _ n3),n0,r2,y,y::I,U,r20,hy,hk,λpr Z H5 hpr R s5=>Zg ?_⟩⟩;have n5:=s5 _ _ (s4 _ _ n3);have a5:=s5 _ _ (s4 _ _ ha);have s15:=s3.trans (s4.trans s5);have rl8:=R.ln;have al3:=A.ln;have sm:∀{n:Nat},n<=1000->n<=sizeLine:=λh=>Qa0 (Z3 h);have fin:∀{q:Aw} {Hz:Hp} {ws:A8} {n c:Nat},Hz q=some (.tup ws)->ZL (y::I) true n c ws->n<=40->c<=15->Z7 H Hz->Q (.ref q) Hz:=λ{q Hz ws n c} h P h1 h2 s=>k q ws Hz h (Qa1 P.ln h1) P.claim (by rw[G2 P.claim.facts.1];exact Qa1 P.rm h2) s;refine⟨_,U,_,_,U,U,.of (by decide) (by decide),_,_,U,U,hz,U,_,U,?_⟩
 by_cases e:V.int (r/6%2)=V.int 0
 .rw[Qaq e];exact Yp (Yp ⟨_,U,_,U,pn,_,0,.str y,U,U,SqL.of n5,n0,Zi8,λq1 D=>⟨_,U,q1,pr,_,_,U,U,Za,Zb D _ _ hpr,sm (by show 4+Z.length<=1000;lia),λq2 H6 M s6=>⟨_,U,q2,ak,_,_,U,U,M,s6 _ _ (Zb D _ _ a5),sm (by rw[Qag];show 4+Z.length+aw.length<=1000;lia),λq3 H7 L s7=>fin L (jI hk hy hw R A) (by decide) (by decide) (s15.trans ((Zb D).trans (s6.trans s7)))⟩⟩⟩)
 rw[Qan e];refine ZK ⟨_,U,pn,_,U,.inl (SqL.of n5),U,_,U,?_⟩;cases I with
 |nil=>exact Yp ⟨_,U,_,U,pn,_,0,.str y,U,U,SqL.of n5,n0,Zi8,λq1 D=>⟨_,U,q1,pr,_,_,U,U,Za,Zb D _ _ hpr,sm (by show 4+Z.length<=1000;lia),λq2 H6 M s6=>⟨_,U,q2,ak,_,_,U,U,M,s6 _ _ (Zb D _ _ a5),sm (by rw[Qag];show 4+Z.length+aw.length<=1000;lia),λq3 H7 L s7=>fin L (jI hk hy hw R A) (by decide) (by decide) (s15.trans ((Zb D).trans (s6.trans s7)))⟩⟩⟩
 |cons x I=>
  have hx:x∈y::x::I:=by simp
  have n1:atI ((y::x::I).map V.str) 1=some (.str x):=Yv (j:=1) rfl;rw[show decide (V.int (((y::x::I).map V.str).length:Int)=V.int 1)=false from Qan (λz=>by rw[Qab]at z;injection z with z;simp only[Qaz]at z;lia)];obtain⟨O1,_,_,O2,_,_⟩:=qc hk hx (z:=3) (by decide) (by decide);refine ZK ⟨_,U,pn,_,1,.str x,U,U,SqL.of (n5),n1,k4,λN hp4=>⟨_,U,pn,_,1,.str x,U,U,SqL.of (Zb hp4 _ _ n5),n1,Zls,λp5 hp5=>⟨xj,λl2 hl2=>⟨_,U,_,_,U,U,.of (by decide) (by decide),_,_,U,U,hz,?_⟩⟩⟩⟩;have d4:=Zb (o:=.tup [V.str "twice",.str "not",.str x]) hp4;have d5:=Zb (o:=.tup [V.str "odd",.int 3,.str "twice",.str "twice",.str x]) hp5;have d6:=Zb (o:=.lst [V.ref N,.ref p5]) hl2;have e4:=d6 _ _ (d5 _ _ (Za (H:=H5) (a:=N) (o:=.tup [V.str "twice",.str "not",.str x])));have e5:=d6 _ _ (Za (H:=upd H5 N (.tup [V.str "twice",.str "not",.str x])) (a:=p5) (o:=.tup [V.str "odd",.int 3,.str "twice",.str "twice",.str x]));have e6:=Za (H:=upd (upd H5 N (.tup [V.str "twice",.str "not",.str x])) p5 (.tup [V.str "odd",.int 3,.str "twice",.str "twice",.str x])) (a:=l2) (o:=.lst [V.ref N,.ref p5]);have Y:=d4.trans (d5.trans d6);try dsimp only
  generalize upd (upd (upd H5 N (.tup [V.str "twice",.str "not",.str x])) p5 (.tup [V.str "odd",.int 3,.str "twice",.str "twice",.str x])) l2 (.lst [V.ref N,.ref p5])=H6 at *;obtain⟨ot,ow,eo,ho,O⟩:∃ot ow,atI [V.ref N,V.ref p5] (r/12%2)=some (.ref ot)/\H6 ot=some (.tup ow)/\ZL (y::x::I) false 8 3 ow:=by
   rcases(by lia:r/12%2=0\/r/12%2=1)with e|e<;>rw[e]
   .exact⟨N,_,U,e4,O1⟩
   .exact⟨p5,_,U,e5,O2⟩
  obtain⟨v,ev,hv⟩:∃v,atI [V.str "both",V.str "either",V.str "so"] (r/24%3)=some (.str v)/\v∈(["both","either","so"]:Ai):=by
   rcases(by lia:r/24%3=0\/r/24%3=1\/r/24%3=2)with e|e|e<;>rw[e]
   .exact⟨"both",U,by decide⟩
   .exact⟨"either",U,by decide⟩
   .exact⟨"so",U,by decide⟩
  have ol3:=O.ln;refine⟨l2,_,_,_,U,U,SqL.of e6,eo,Zg ?_⟩;have n6:=Y _ _ n5;have r6:=Y _ _ hpr;have a6:=Y _ _ a5;have s16:=s15.trans Y;refine⟨_,U,_,U,pn,_,0,.str y,U,U,SqL.of (n6),n0,Zls,λq1 D=>⟨_,U,q1,pr,_,_,U,U,Za,Zb D _ _ r6,sm (by show 5+Z.length<=1000;lia),λq2 H7 M s7=>⟨_,U,pn,_,1,.str x,U,U,SqL.of (s7 _ _ (Zb D _ _ n6)),n1,xj,λq3 L=>⟨q2,q3,_,_,U,U,Zb L _ _ M,Za,sm (by rw[Qag];show 5+Z.length+2<=1000;lia),λq4 H8 hq4 s8=>?_⟩⟩⟩⟩;have Ua:=(Zb D).trans (s7.trans ((Zb L).trans s8));have n8:=Ua _ _ n6;have a8:=Ua _ _ a6;have o8:=Ua _ _ ho;have s18:=s16.trans Ua;refine⟨_,U,q4,ot,_,_,U,U,hq4,o8,sm (by rw[Qag,Qag];show 5+Z.length+2+ow.length<=1000;lia),λq5 H9 hq5 s9=>Zg ?_⟩;refine⟨_,U,k4,λl3 S=>⟨_,U,_,_,U,U,.of (by decide) (by decide),_,_,U,U,(by show(0:Int)<3;decide),l3,_,_,_,U,U,SqL.of Za,ev,_,U,pn,_,1,.str x,U,U,SqL.of (Zb S _ _ (s9 _ _ n8)),n1,k4,λq6 hq6=>⟨q5,q6,_,_,U,U,Zb hq6 _ _ (Zb S _ _ hq5),Za,sm (by rw[Qag,Qag,Qag];show 5+Z.length+2+ow.length+3<=1000;lia),λq7 HA hq7 s10=>⟨_,U,q7,ak,_,_,U,U,hq7,s10 _ _ (Zb hq6 _ _ (Zb S _ _ (s9 _ _ a8))),sm (by rw[Qag,Qag,Qag,Qag];show 5+Z.length+2+ow.length+3+aw.length<=1000;lia),λq8 HB hq8 s11=>fin hq8 (Za0 hk hy hx hw hv R O A) (by decide) (by decide) (s18.trans (s9.trans ((Zb S).trans ((Zb hq6).trans (s10.trans s11)))))⟩⟩⟩⟩
inductive Jt:Prop
 |mk(tw kd:Aw)(W:Nat)(ws:A8)(nm:Ai)(kvs:List (HK×Aw)):vs=[.ref tw,.ref kd,.int W]->W<=60->H tw=some (.tup ws)->H kd=some (.dT (dH V.ref kvs))->Zm3 nm ws kvs H->Xj nm ws->(∀w∈ws,qz w)->ws.length<=60->(∀p H',H' p=some (.lst ((List.range W).map λi=>V.int ((SQ (2^(i+1)) nm.length λvs=>if WQ (2^(i+1)) (kF nm vs) ws []=[.bl true]then 1 else 0:Nat):Int)))->Z7 H H'->Q (.ref p) H')->Jt
theorem yH:FnD T.du P w base 2 (spQ Jt):=by
 have G:=qD P base T TB;refine T.du.go ZN ?_;rintro cdv A outer s H _ Q E Z ⟨tw,kd,W,C,nm,kvs,rfl,hW,ht,hk,M,S,hw,hl,k⟩;have hu:=zH Z;refine⟨_,(Zc (Zu 3 ZN.nd (Zc3 hu (Zr T.cj G Z (Zi (qv 0) Zd)) Ze))
   (Zc (Zu 4 ZN.nd (ZA Zd))
   (Zc (YD Qbh U (Xb U T.bb (Zi (qv 2) Zd)) (Xh 5 ZN.nd)
   (Zc (Zu 6 ZN.nd gF)
   (Zc (Zu 7 ZN.nd Ze)
   (Zc (YD Qbh U (Zf7 (qv 3)) (Xh 8 ZN.nd)
   (Zf (YD Qbh U (YG (JN hu (qv 1) (qv 8) (λ_ _=>U))) (x6 U (Xh 9 ZN.nd) (Xh 10 ZN.nd))
   (Zc (Zu 7 ZN.nd (Zl Yj (qv 7) (Zl YC (JN hu (qv 3) (qv 8) (λ_ _=>U)) (Z4 Xu (by rfl) T.bc Wu (Zi (qv 9) Zd)))))
   (Zf (JO hu (qv 6) (qv 10) (Zl Yj (Yy Qff Qeo Qfu (Zge (jv Z)) (qv 6) (Zi (qv 10) (Zi Ze Zd))) (JN hu (qv 3) (qv 8) (λ_ _=>U))) U))))))
   (Zc (Yb (Yy Qar Qa2 Qa3 ZI (qv 4) (Zi (qv 7) Zd)))
   (Zf (Zu 3 ZN.nd (qv 6))))))))
   (Zf (Zn (qv 4)))))),?_⟩
 try dsimp only[L2.cxK,L2.cxK2]
 refineλwd hwd=>⟨_,U,tw,C,U,Zb hwd _ _ ht,hw,hl,λpb H1 hpb0 hpb s1=>⟨s1 _ _ Za,pb,kH (C.map GK),U,by rw[vX];exact hpb,Zg ⟨Za6,λct hct=>Zg ?_⟩⟩⟩;have hwn:H wd=none:=hwd;have s2:Z7 H (upd H1 wd (.dT [(kH (C.map GK),.int 1)])):=ZF ((Zb hwd).trans s1) hwd;have s3:=s2.trans (Zb (o:=.lst []) hct);have d3:upd (upd H1 wd (.dT [(kH (C.map GK),.int 1)])) ct (.lst []) wd=some (.dT (dH nV [(C.map GK,1)])):=Zb hct _ _ Za;have c3:upd (upd H1 wd (.dT [(kH (C.map GK),.int 1)])) ct (.lst []) ct=some (.lst []):=Za;have hcn:H ct=none:=s2.free hct
 try dsimp only
 generalize upd (upd H1 wd (.dT [(kH (C.map GK),.int 1)])) ct (.lst [])=H3 at *;have hch:(chs 2 nm.length).length<=8:=by
  rw[wK];exact Qa1 (Qb9 (by decide) S.n3) (by decide)
 have few:∀{k1:List (HK×Nat)},(k1.map (·.1)).Nodup->(∀q∈k1,q.1∈kvs.map (·.1))->k1.length<=360448:=λnd Y=>by
  have:=z5 S nd λx hx=>by
   obtain⟨q,hq,rfl⟩:=Qap.mp hx;obtain⟨r,Z,e⟩:=Qap.mp (Y q hq);rw[<-e];exact M.rc r Z
  rwa [Qab]at this
 refine⟨_,U,(W:Int),U,by lia,by lia,Xs (λi σ H'=>∃(d:Aw)(I:List (HK×Nat))(u5 u6 u7 u8 u9 N:Option V),σ=[some (.ref tw),some (.ref kd),some (.int W),some (.ref d),some (.ref ct),u5,u6,u7,u8,u9,N]/\H' d=some (.dT (dH nV I))/\H d=none/\Ze2 nm C i I/\(∀q∈I,q.1∈kvs.map (·.1))/\H' ct=some (.lst ((List.range i).map λi=>V.int ((SQ (2^(i+1)) nm.length λvs=>if WQ (2^(i+1)) (kF nm vs) C []=[.bl true]then 1 else 0:Nat):Int)))/\Z7 H H') ⟨wd,_,none,none,none,none,none,none,U,d3,hwn,Ze2.one nm C,(λq hq=>by rw[Qao.mp hq];exact M.b),c3,s3⟩ ?_ ?_⟩
 .rintro i σ O hi ⟨d,I,u5,u6,u7,u8,u9,N,rfl,L,hdn,Wy,Y,D,s4⟩;rw[Qca]at hi;refineλf hf=>Zg (Zg ?_);have hfd:f≠d:=λz=>by rw[z,L]at hf;cases hf
  have f5:upd O f (.dT []) f=some (.dT []):=Za;have d5:=Zb (o:=.dT []) hf _ _ L;refine⟨_,U,d,_,U,.inl d5,λo=>?_⟩;have m6:SmL d O (upd (upd O f (.dT [])) d (.frz o (.dT (dH nV I)))):=λb u hb e=>by rw[Zj hb];exact Zb hf _ _ e
  have d6:upd (upd O f (.dT [])) d (.frz o (.dT (dH nV I))) d=some (.frz o (.dT (dH nV I))):=Za;have f6:upd (upd O f (.dT [])) d (.frz o (.dT (dH nV I))) f=some (.dT (dH nV [])):=(Zj hfd).trans f5;generalize upd (upd O f (.dT [])) d (.frz o (.dT (dH nV I)))=H6 at *;have kl:=few Wy.nd Y;have kd4:=s4 _ _ hk;have kd6:∀{H':Hp},SmL d O H'->H' kd=some (.dT (dH V.ref kvs)):=λsm=>sm _ _ (λz=>by rw[z,hdn]at hk;cases hk) kd4;have M4:=M.same s4;refine qk (J:=ItD d o (dH nV I)) I.length (λJ σ H'=>∃(k1:List (HK×Nat))(u8 u9 N:Option V),σ=[some (.ref tw),some (.ref kd),some (.int W),some (.ref d),some (.ref ct),some (.int (0+(i:Int))),some (.ref f),some (.int ((wsH (I.take J) (tdN nm C):Nat):Int)),u8,u9,N]/\H' f=some (.dT (dH nV k1))/\(∀F,wsH k1 F=wsH (I.take J) λs=>((chs 2 nm.length).map λvs=>F (nxH nm C s vs)).sum)/\(k1.map (·.1)).Nodup/\(∀q∈k1,q.1∈kvs.map (·.1))/\H' d=some (.frz o (.dT (dH nV I)))/\SmL d O H') ⟨[],u8,u9,N,U,f6,λF=>U,Qbu,(λ_ z=>nomatch z),d6,m6⟩ ?_ ?_
  .rintro J σ H7 hJ ⟨k1,v8,v9,Ua,rfl,f7,w7,n7,i7,d7,m7⟩;refine⟨⟨by rw[jH];exact hJ,d7⟩,?_⟩;rintro x H8 ⟨e8,p,hb,hp,rfl,hhb⟩;subst e8;obtain⟨q,hq,rfl⟩:∃q,I[J]?=some q/\(kH q.1,nV q.2)=p:=by
    unfold dH at hp;rw[Qai]at hp;exact Qa4.mp hp
   have hqm:=Qat hq;obtain⟨r,Z,er⟩:=Qap.mp (Y q hqm);have hR:=M4.rc r Z;have hrow:=M4.rw_ r Z;have hcl:=M4.cl r Z;have hval:=Ze0 (f:=V.ref) M4.nd Z;rw[er]at hR hrow hcl hval;obtain⟨as,a1,a2,a3⟩:=hrow;have hble:q.2<=8^60:=Qa1 (Wy.le hqm) (Qa1 (Nat.pow_le_pow_left (p8 S.n3) i) (Qb9 (by decide) (by lia)));have wval:=Ze0 (f:=nV) Wy.nd hqm;have hkey:H8 hb=some (.tup ((kH q.1).map kV)):=hhb;refine⟨_,U,_,U,kd,_,U,.inr ⟨_,kH q.1,hb,.inl (kd6 m7),U,hkey,hval.symm⟩,r.2,U,⟨_,SqL.of (m7 _ _ (ZY a1 L λz=>nomatch z) a1)⟩,?_⟩;refine qT (K:=K) (a:=r.2) (xs:=as.map V.ref) (λj σ H'=>∃(k2:List (HK×Nat))(u9 N:Option V),σ=[some (.ref tw),some (.ref kd),some (.int W),some (.ref d),some (.ref ct),some (.int (0+(i:Int))),some (.ref f),some (.int ((wsH (I.take J) (tdN nm C)+q.2*(((chs 2 nm.length).take j).map λvs=>(tdH nm C q.1 vs).toNat).sum:Nat):Int)),some (.ref hb),u9,N]/\H' f=some (.dT (dH nV k2))/\(∀F,wsH k2 F=wsH k1 F+q.2*(((chs 2 nm.length).take j).map λvs=>F (nxH nm C q.1 vs)).sum)/\(k2.map (·.1)).Nodup/\(∀q∈k2,q.1∈kvs.map (·.1))/\H' d=some (.frz o (.dT (dH nV I)))/\H' hb=some (.tup ((kH q.1).map kV))/\SmL d O H') ⟨k1,v9,Ua,U,f7,λF=>by rw[List.take_zero];rfl,n7,i7,d7,hkey,m7⟩ (λj σ H' _ ⟨_,_,_,_,_,_,_,_,_,_,m⟩=>SqL.of (m _ _ (ZY a1 L λz=>nomatch z) a1)) ?_ ?_
   .rintro j x σ H9 hx ⟨k2,v9,Ua,rfl,f9,w9,n9,i9,d9,b9,m9⟩;rw[Qai]at hx;obtain⟨b,hbi,rfl⟩:=Qa4.mp hx;have hjl:j<(chs 2 nm.length).length:=by rw[<-a2];exact(Qaf.mp hbi).1
    have hvs:=Qac hjl;have hvm:=Qbi hjl;obtain⟨c,c1,c2⟩:=a3 j b _ hbi hvs;have c1:=m9 _ _ (ZY c1 L λz=>nomatch z) c1;have c2:=m9 _ _ (ZY c2 L λz=>nomatch z) c2;have etk:=take_snoc hvs;have htd:=hR.td S hvm;have hnk:=hcl _ hvm;generalize (chs 2 nm.length)[j]=vs at *;have k2l:=few n9 i9;have vtd:vb true (tdH nm C q.1 vs)=.bl (decide (tdH nm C q.1 vs=1)):=rfl;have ti:(if decide (tdH nm C q.1 vs=1)=true then(1:Int)else 0)=(((tdH nm C q.1 vs).toNat:Nat):Int):=by rcases htd with h|h<;>rw[h]<;>rfl
    refine⟨b,_,U,SqT.of c1,U,_,_,U,_,_,U,U,?_⟩;refine⟨_,U,_,U,_,U,d,_,U,.inr ⟨_,kH q.1,hb,.inr ⟨o,d9⟩,U,b9,wval.symm⟩,_,U,.inr ⟨_,U,_,_,U,U,.inl ⟨?_,?_⟩,_,_,U,U,Zg ?_⟩⟩
    .rw[Int.natAbs_natCast];exact Qc8 hble (by decide)
    .rw[ti,Int.natAbs_natCast];rcases htd with h|h<;>rw[h]<;>decide
    have D:H9 c=some (.tup ((kH (nxH nm C q.1 vs)).map kV)):=by rw[vX];exact c2
    refine⟨_,U,.inr (.inr (.inl ⟨U,.inr ⟨_,f9⟩⟩)),_,U,f,c,kH (nxH nm C q.1 vs),.int 0,_,U,U,.inl f9,D,?_⟩;rw[Zi6];refine⟨_,U,_,U,d,_,U,.inr ⟨_,kH q.1,hb,.inr ⟨o,d9⟩,U,b9,wval.symm⟩,_,_,U,U,_,U,_,U,f,_,U,uU.t (k:=kH (nxH nm C q.1 vs)) f9 D (by rw[jH];exact Y2 (by lia)),?_⟩;have eput:=Zi7 (s:=nxH nm C q.1 vs) (t:=q.2) n9;rw[Qgk]at eput;try dsimp only
    rw[eput,ti];have hfb:f≠hb:=ZY f9 b9 λz=>nomatch z;refine⟨Zfd k2 (nxH nm C q.1 vs) q.2,some (vb true (tdH nm C q.1 vs)),some (.ref c),?_,Za,λF=>?_,Zez n9,λz hz=>?_,(Zj hfd.symm).trans d9,(Zj hfb.symm).trans b9,λb u hbd e=>(Zj (λz=>by rw[z,hf]at e;cases e)).trans (m9 _ _ hbd e)⟩
    .rw[etk,Qau,Qdn,Qfl,Qdg,Zaz];rfl
    .rw[Zey,w9,etk,Qau,Qdn,Qfl,Qdg,Nat.mul_add,Qgb]
    .rcases zx (Qap.mpr ⟨z,hz,U⟩)with h|h
     .obtain⟨z',h1,h2⟩:=Qap.mp h;rw[<-h2];exact i9 z' h1
     .rw[h];exact hnk
   .rintro σ H9 ⟨k2,v9,Ua,rfl,f9,w9,n9,i9,d9,b9,m9⟩;have efl:(chs 2 nm.length).take (as.map V.ref).length=chs 2 nm.length:=by rw[Qab,a2,Qb1]
    rw[efl]at w9 ⊢;refine⟨k2,some (.ref hb),v9,Ua,?_,f9,λF=>?_,n9,i9,d9,m9⟩
    .rw[take_snoc hq,uF];rfl
    .rw[w9,w7,take_snoc hq,uF]
  .rintro σ H7 ⟨k1,v8,v9,Ua,rfl,f7,w7,n7,i7,d7,m7⟩;refine⟨⟨by rw[jH],d7⟩,?_⟩;rw[Qb1]at w7 ⊢;have ch4:H7 ct=_:=m7 _ _ (ZY D L λz=>nomatch z) D;refine⟨_,U,.inl ⟨U,_,SqL.of ch4⟩,_,U,ct,_,_,U,U,ch4,by rw[Qab,Qbk];exact Z3 (by lia),?_⟩;have hcf:ct≠f:=λz=>by rw[<-z,D]at hf;cases hf
   refine⟨_,U,Zg ⟨f,k1,_,_,_,_,_,_,U,(Zj hcf.symm).trans f7,s4.free hf,Wy.next n7 w7,i7,?_,?_⟩⟩
   .rw[Za,Wy.count S,Qdf,Qau];rfl
   .exact λb u e=>(Zj (λz=>by rw[z,hcn]at e;cases e)).trans (m7 _ _ (λz=>by rw[z,hdn]at e;cases e) (s4 _ _ e))
 .rintro σ O ⟨d,I,u5,u6,u7,u8,u9,N,rfl,L,hdn,Wy,Y,D,s4⟩;rw[Qca]at D;exact⟨_,U,k ct O D s4⟩
inductive WI:Prop
 |mk(s:Aw)(stk:A8)(w:V):vs=[.ref s,w]->H s=some (.lst stk.reverse)->w=kV (keyOf w)->npw w<=stk.length->stk.length<=100->(∀pl H',H pl=none->H' pl=some (.lst (stk.take (npw w)))->H' s=some (.lst (stk.drop (npw w)).reverse)->(∀b o,H b=some o->b≠s->H' b=some o)->Q (.ref pl) H')->WI
theorem je:FnD T.dk P w base 3 (spQ WI):=by
 refine T.dk.go zV ?_;rintro O A outer s H _ Q E Y ⟨st,r,x,rfl,S,Ua,Z,hl,k⟩;refine⟨_,(Zf (Zn (YH ({}:ZW (Zk Wq) _ ["stack","word"] "part" ["stack"] [0]) (Xb U T.bb (Zi (Yx (gf P base T TB) (Y.mono (by decide)) U T.bp.m T.bp.F.kp T.bp.b .nil JV (Zi (qv 1) Zd)) Zd)) (λ_ _ _ _=>Xk) (λ_ _ _ _=>(show QE _ _ (tBM0 K "list" rPop (Ze8 1))from(WU Qar Qcc Qcd J3 (qv 1))))))),?_⟩;refine⟨_,U,keyOf x,congrArg (λz=>[z]) Ua,Wr (keyOf x),U,?_,?_,uP (λi zs H2=>i<=npw x/\zs=r.take i/\H2 st=some (.lst (r.drop i).reverse)/\∀b o,H b=some o->b≠st->H2 b=some o) ⟨Qbe _,U,S,λb o e _=>e⟩ ?_ ?_ ?_⟩
 .have:=xW (keyOf x);lia
 .have:=xW (keyOf x);lia
 .rintro i zs H2 ⟨_,rfl,_,_⟩;rw[Qbp];exact Qa0 (Z3 (by lia))
 .rintro i zs H2 R hR hi ⟨N,rfl,h2,L⟩;have M:i<npw x:=hi;have I:i<r.length:=by lia
  rw[Zks I]at h2;refine⟨_,U,.inl ⟨U,_,SqL.of h2⟩,st,_,r[i],U,U,h2,YN _ _,hR _ _ ⟨M,?_,?_,λb o e D=>?_⟩⟩
  .rw[take_snoc (Qac I)]
  .rw[Za,Qcp]
  .rw[Zj D];exact L b o e D
 .rintro zs H2 ⟨N,rfl,h2,L⟩ l C;have G:H l=none:=by
   cases q:H l with
   |none=>rfl
   |some o=>
    by_cases D:l=st
    .rw[D,h2]at C;cases C
    .grind
  refine k l _ G Za ?_ λb o e D=>?_
  .rw[Zj (Zm h2 C)];exact h2
  .rw[Zj (Zm e G)];exact L b o e D
inductive GH:Prop
 |mk(t:Aw)(ws:A8):vs=[.ref t]->H t=some (.tup ws)->(∀w∈ws,qz w)->ws.length<=60->(∀p H' (ms:Ai),H p=none->H' p=some (.tup (ms.map V.str))->Z7 H H'->ms.Perm (Wn ((ws.filter nmB).map Ze9))->PyProof.Rows.sortedS ms=true->Q (.ref p) H')->GH
theorem gh:FnD T.bq P w base 3 (spQ GH):=by
 have r:=Za4 P base T TB;refine T.bq.go wW ?_;rintro Ua A outer s H _ Q E hr ⟨t,C,rfl,N,hw,hl,k⟩;refine⟨_,(Zf (Zn (Z4 Z5 (by rfl) T.ah Yr (Zi (Zp (Gh U) (by rfl) T.ft xu (Zi (Z4 (vi U) (by rfl) T.aah Zh2 (Zi (YH ({}:ZW (Zk GZ) _ ["words"] "word" [] []) (J4 (qv 0)) (λ_ _ _ _=>(gr (GL (qm (Xx (Zp (show Xf _ (.builtin "isinstance") (Zm7 K)from X8) (by rfl) T.ai Yg (Zi (qv 0) (Zi (WS (v:=.ty "str") (by rfl) T.aai Zh1 U) Zd)))) (WT (Xx (Zr T.fk r hr (Zi (qv 0) Zd)))))))) (λ_ _ _ _=>(qv 0))) Zd)) Zd)) Zd)))),?_⟩;refine⟨_,U,t,U,⟨_,SqT.of N⟩,vj (xs:=C) nmB Z7 Z7.refl (λ_ _ _ a b=>a.trans b) (λH1 G=>SqT.of (G _ _ N)) (Qa0 (Z3 (by lia))) (λx O H1 G R hR=>?_) (λx O H1 R hR=>⟨_,U,hR⟩) (λH1 l G L=>?_)⟩
 .rcases hw x O with⟨y,rfl,Y⟩|⟨z,rfl⟩
  .exact⟨_,U,_,_,_,_,U,.str y,xw,_,U,Yp ⟨_,U,y,U,Qa1 Y (by decide),λH2 I=>⟨_,U,hR H2 I⟩⟩⟩
  .exact⟨_,U,_,_,_,_,U,.int z,xx,_,U,ZK (hR H1 (Z7.refl H1))⟩
 have fl:(C.filter nmB).length<=60:=Qa1 (Qes _ _) hl;have ol:=vy ((C.filter nmB).map Ze9);rw[Qab]at ol;have I:=G.trans (Zb (o:=.lst (C.filter nmB)) L);refine⟨l,(C.filter nmB).map Ze9,U,SqL.of (by rw[Zkq];exact Za),by rw[Qab];lia,λa ha=>⟨a,_,U,Za,by lia,λm M hm hp Z=>⟨m,_,U,.inl ⟨SqL.of Za,λp D=>?_⟩⟩⟩⟩;have S:Z7 H _:=I.trans ((Zb ha).trans (Zb (o:=.lst (M.map V.str)) hm));exact k p _ M (Z7.free S D) Za (S.trans (Zb D)) hp Z
inductive JL(K:Af):Prop
 |mk(a pn f:Aw)(ns:Ak)(st:Nat)(nm:Ai)(mo:Nat)(tp k0 k1:Int):vs=[.ref a,.int st,.ref pn,.int mo,.ref f,.int tp,.bl true]->(Rd H a (.lst (ns.map V.int))/\a≠f)\/SqL K (λb=>none) a (ns.map V.int)->ns.length<=63->st<=10->mo<=24->1<=mo->H pn=some (.lst (nm.map V.str))->nm.length<=3->(∀y∈nm,y∉Z8)->H f=some (.lst [.int k0,.int k1])->0<=k0->0<=k1->k0+k1<=5->pn≠f->1<=tp->tp<=1000->(∀p ws H',H' p=some (.tup ws)->ws.length<=mo->TyR nm ws [true]->(J2 ws:Int)<=k0+k1->SmL f H H'->Q (.ref p) H')->JL K
def ky(K:Af):Sp:=λvs H Q _=>JL vs H Q K
theorem kz:FnD T.fg P w base 3 (ky K):=by
 have S:=XI P base T TB;have C:=qg P base T TB;have G:=zE P base T TB;have L:=Xp P base T TB;refine T.fg.go Y4 ?_;rintro cdv A outer s H _ Q E hr ⟨a,pn,f,ns,st,nm,mo,tp,k0,k1,rfl,hS,h63,hst,hmo,hmo1,hpn,hn3,hnk,hf,hk0,hk1,hk5,hpf,ht1,ht2,k⟩;refine⟨_,(Zc (Zu 7 Y4.nd (ZA Zd))
   (Zc (Zu 8 Y4.nd (ZA (Zi (qv 6) Zd)))
   (Zc (qV Qbh (Zo (kR (jP hr)) (qv 8) (ZA Zd) (Zz _))
   (Zc (Zu 9 Y4.nd (Zl Xt (Zl Xt (qv 3) (Zp Z2 (by rfl) T.af Y7 (Zi (qv 7) Zd))) (Zp Z2 (by rfl) T.af Y7 (Zi (qv 8) Zd))))
   (Zc (Zu 10 Y4.nd (Zr T.ag L hr (Zi (qv 0) (Zi (Zl Yj (qv 1) (Zp Z2 (by rfl) T.af Y7 (Zi (qv 7) Zd))) Zd))))
   (Zc (ZJ (Xx (WU Qar Qcc Qcd J3 (qv 8)))
   (Zf (Zu 11 Y4.nd (Zr T.bw C hr (Zi (qv 10) (Zi (qv 9) (Zi (qv 4) Zd)))))) (Zf (Zu 11 Y4.nd (Zr T.cx G hr (Zi (qv 10) (Zi (qv 9) (Zi (qv 4) (Zi (qv 2) (Zi (qv 5) Zd)))))))))
   (Zc (Yb (Yy Qar Qa2 Qa3 ZI (qv 7) (Zi (qv 11) Zd)))
   (Zf (Yb (Yy Qar PySem.F.slot_list_extend PySem.F.type_list_extend yU (qv 8) (Zi (Zr T.az S hr (Zi (qv 11) Zd)) Zd)))))))))
   (Zf (Zn (Z4 Z5 (by rfl) T.ah Yr (Zi (qv 7) Zd))))))),?_⟩
 try dsimp only[L2.cxK,L2.cxK2]
 refine⟨Za6,λI hwa=>Zg ?_⟩;refine⟨_,U,Zlr,λD hpa=>Zg ?_⟩;have s1:=(Zb (o:=.lst []) hwa).trans (Zb (o:=.lst [V.bl true]) hpa);have hwf:I≠f:=λz=>by rw[z,hf]at hwa;cases hwa
 have hpw:D≠I:=λz=>by rw[z,Za]at hpa;cases hpa
 have hpa0:H D=none:=by rw[Zj hpw]at hpa;exact hpa
 have Z:D≠f:=λz=>by rw[z,hf]at hpa0;cases hpa0
 have w1:upd (upd H I (.lst [])) D (.lst [V.bl true]) I=some (.lst []):=by rw[Zj hpw.symm,Za]
 have p1:upd (upd H I (.lst [])) D (.lst [V.bl true]) D=some (.lst [V.bl true]):=Za;generalize upd (upd H I (.lst [])) D (.lst [V.bl true])=H1 at *;have keep:∀{Ha Hb:Hp} {g:Aw} {u o:HO},SmL f H Ha->(g=I\/g=D)->SmL f H (upd Ha g o):=λ{Ha Hb g u o} s hg b v hb e=>by
  have:b≠g:=λz=>by
   rcases hg with h|h
   .rw[z,h,hwa]at e;cases e
   .rw[z,h,hpa0]at e;cases e
  rw[Zj this];exact s b v hb e
 refine yj (λσ H'=>∃(Ua:A8)(ks:Am)(l0 l1:Int)(u9 u10 u11:Option V),σ=[some (.ref a),some (.int st),some (.ref pn),some (.int mo),some (.ref f),some (.int tp),some (.bl true),some (.ref I),some (.ref D),u9,u10,u11]/\H' I=some (.lst Ua)/\H' D=some (.lst (ks.reverse.map V.bl))/\H' f=some (.lst [.int l0,.int l1])/\Wds mo (k0+k1) nm Ua ks l0 l1/\0<=l0/\0<=l1/\SmL f H H') (λ_ H'=>match H' I with|some (.lst l)=>30-l.length|_=>0) ⟨[],[true],k0,k1,none,none,none,U,w1,p1,s1 _ _ hf,⟨λrest h=>h,by show((0:Nat):Int)+k0+k1<=k0+k1;lia,hmo1⟩,hk0,hk1,SmL.of s1⟩ ?_;rintro σ H2 ⟨Ua,ks,l0,l1,u9,u10,u11,rfl,w2,p2,f2,W2,hl0,hl1,s2⟩;refine⟨_,U,Za6,λe he=>⟨D,e,_,_,U,U,SqL.of (Zb he _ _ p2),SqL.of Za,Qb2.mpr λv hv=>(by obtain⟨y,_,rfl⟩:=Qap.mp hv;rfl),U,_,U,?_⟩⟩;have se:=Zb (o:=.lst []) he;have w3:=se _ _ w2;have p3:=se _ _ p2;have f3:=se _ _ f2;have s3:=s2.same se;generalize upd H2 e (.lst [])=H3 at *;cases ks with
 |nil=>
  have hty:=W2.ty [] .nil;rw[Qbv]at hty;have hln:=W2.ln;have hrm:=W2.rm;exact⟨_,U,I,_,U,.inl ⟨SqL.of w3,λp hp=>k p Ua _ Za (by lia) hty (by lia) (s3.same (Zb hp))⟩⟩
 |cons b ks=>
  have hpop:H3 D=some (.lst (ks.reverse.map V.bl++[V.bl b])):=by rw[p3,Qcn,Qau];rfl
  have hln:=W2.ln;rw[Qaz]at hln;have hpl:((b::ks).reverse.map V.bl).length=ks.length+1:=by rw[Qab,Qc1,Qaz]
  rw[show(!Zfx ((b::ks).reverse.map V.bl) [])=true by rw[Qcn,Qau];cases ks.reverse.map V.bl<;>rfl];refine Yp ⟨λσ' H'=>∃(Y:A8)(ks:Am)(l0 l1:Int)(u9 u10 u11:Option V),σ'=[some (.ref a),some (.int st),some (.ref pn),some (.int mo),some (.ref f),some (.int tp),some (.bl true),some (.ref I),some (.ref D),u9,u10,u11]/\Y.length=Ua.length+1/\H' I=some (.lst Y)/\H' D=some (.lst (ks.reverse.map V.bl))/\H' f=some (.lst [.int l0,.int l1])/\Wds mo (k0+k1) nm Y ks l0 l1/\0<=l0/\0<=l1/\SmL f H H',?_,?_⟩
  .rintro σ' H' ⟨Y,ks',M,O,v9,v10,v11,rfl,hl',h1,h2,h3,h4,h5,h6,h7⟩;refine⟨30-Y.length,?_,?_,Y,ks',M,O,v9,v10,v11,U,h1,h2,h3,h4,h5,h6,h7⟩
   .rw[w2];show 30-Y.length<30-Ua.length;lia
   .rw[h1]
  refine⟨_,U,_,U,I,_,U,.inl (SqL.of w3),_,_,U,U,_,U,D,_,U,.inl (SqL.of p3),_,_,U,U,Zg ?_⟩;refine⟨_,U,_,U,_,U,I,_,U,.inl (SqL.of w3),_,_,U,U,a,ns,st+Ua.length,U,?_,h63,by lia,λr H4 r0 r1 s4=>Zg ?_⟩
  .rcases hS with⟨z|⟨o,z⟩,haf⟩|(z|⟨_,z⟩)|z
   .exact .inl (.inl (s3 _ _ haf z))
   .exact .inl (.inr ⟨o,s3 _ _ haf z⟩)
   .cases z
   .cases z
   .exact .inr z
  have w4:=s4 _ _ w3;have p4:=s4 _ _ hpop;have f4:=s4 _ _ f3;have s34:=s3.same s4;refine wo (λσ H'=>∃(w:V)(M O:Int)(u9 u10:Option V),σ=[some (.ref a),some (.int st),some (.ref pn),some (.int mo),some (.ref f),some (.int tp),some (.bl true),some (.ref I),some (.ref D),u9,u10,some w]/\((∃y,w=.str y)\/∃z:Int,w=.int z)/\H' I=some (.lst Ua)/\H' D=some (.lst (ks.reverse.map V.bl))/\H' f=some (.lst [.int M,.int O])/\Wds mo (k0+k1) nm (Ua++[w]) (lpW w++ks) M O/\0<=M/\0<=O/\SmL f H H') (λN hN=>?_) ?_
  .refine⟨_,U,.inl ⟨U,_,SqL.of p4⟩,D,_,_,U,U,p4,YN _ _,b,U,?_⟩;rw[Qcp];have w5:upd H4 D (.lst (ks.reverse.map V.bl)) I=some (.lst Ua):=by rw[Zj hpw.symm];exact w4
   have p5:upd H4 D (.lst (ks.reverse.map V.bl)) D=some (.lst (ks.reverse.map V.bl)):=Za;have f5:upd H4 D (.lst (ks.reverse.map V.bl)) f=some (.lst [.int l0,.int l1]):=by rw[Zj Z.symm];exact f4
   have s5:SmL f H (upd H4 D (.lst (ks.reverse.map V.bl))):=keep (Hb:=H) (u:=.lst []) s34 (.inr U);generalize upd H4 D (.lst (ks.reverse.map V.bl))=H5 at *;have erm:(mo:Int)-(Ua.length:Int)-(((b::ks).reverse.map V.bl).length:Int)=(mo:Int)-Ua.length-((b::ks).length:Int):=by rw[hpl,Qaz]
   cases b with
   |true=>
    refine Yp ⟨_,U,_,U,_,U,r,_,f,l0,l1,U,r0,?_,f5,hl1,λy O H6 hy hlen hl hl' f6 s6=>Zg (hN _ _ ⟨.str y,l0,O,_,_,U,.inl ⟨y,U⟩,s6 _ _ hwf w5,s6 _ _ Z p5,f6,W2.clm hnk hy ?_ hl,hl0,hl',λb o hb e=>s6 _ _ hb (s5 b o hb e)⟩)⟩
    .rw[hpl];lia
    .rw[<-erm];exact hlen
   |false=>
    refine ZK ⟨_,U,_,U,_,U,_,U,_,U,r,_,f,pn,l0,l1,tp,nm,U,r0,?_,f5,hl0,s5 _ _ hpf hpn,hn3,ht1,ht2,λw M H6 hw hl' f6 s6=>Zg (hN _ _ ⟨w,M,l1,_,_,U,?_,s6 _ _ hwf w5,s6 _ _ Z p5,f6,W2.sum hnk ?_,hl',hl1,λb o hb e=>s6 _ _ hb (s5 b o hb e)⟩)⟩
    .rw[hpl];lia
    .rcases hw with⟨y,e,_⟩|⟨y,e,_⟩|⟨z,e,_⟩
     .exact .inl ⟨y,e⟩
     .exact .inl ⟨y,e⟩
     .exact .inr ⟨z,e⟩
    .rw[<-erm];exact hw
  .rintro σ H5 ⟨w,M,O,v9,v10,rfl,hw,w5,p5,f5,W5,hl0',hl1',s5⟩;refine⟨_,U,.inl ⟨U,_,SqL.of w5⟩,_,U,I,_,_,U,U,w5,Z3 (by lia),?_⟩;have w6:=Za (H:=H5) (a:=I) (o:=.lst (Ua++[w]));have p6:=(Zj (H:=H5) (o:=.lst (Ua++[w])) hpw).trans p5;have f6:=(Zj (H:=H5) (o:=.lst (Ua++[w])) hwf.symm).trans f5;have s6:SmL f H (upd H5 I (.lst (Ua++[w]))):=keep (Hb:=H) (u:=.lst []) s5 (.inl U);generalize upd H5 I (.lst (Ua++[w]))=H6 at *;refine⟨_,U,.inl ⟨U,_,SqL.of p6⟩,_,U,w,U,hw,λp H7 hp0 hp s7=>⟨D,p,_,_,U,U,s7 _ _ p6,hp,?_,?_⟩⟩
   .have:=(Zex w).2;rw[Qab,Qab,Qc1];exact Qa0 (Z3 (by lia))
   .refine⟨Ua++[w],lpW w++ks,M,O,_,_,_,U,by rw[Qag];rfl,by rw[Zj hpw.symm];exact s7 _ _ w6,?_,by rw[Zj Z.symm];exact s7 _ _ f6,W5,hl0',hl1',keep (Hb:=H) (u:=.lst []) (s6.same s7) (.inr U)⟩;rw[Za,List.reverse_append,(Zex w).1,Qau]
inductive WJ:Prop
 |mk(tw pn:Aw)(ws:A8)(nm:Ai):vs=[.ref tw,.ref pn]->H tw=some (.tup ws)->H pn=some (.lst (nm.map V.str))->Xj nm ws->(∀w∈ws,qz w)->ws.length<=60->(∀p kvs H',H' p=some (.dT (dH V.ref kvs))->Zm3 nm ws kvs H'->Z7 H H'->Q (.ref p) H')->WJ
theorem jf:FnD T.dm P w base 3 (spQ WJ):=by
 have G_law_step:=gg P base T TB;have Y:=qD P base T TB;have L:=ja P base T TB;refine T.dm.go YB ?_;rintro cdv A outer s H _ Q E hr ⟨tw,pn,N,nm,rfl,ht,hn,S,hw,hl_,k⟩;have hu:=zH hr;refine⟨_,(Zc (Zu 2 YB.nd (Zr T.dh L hr (Zi (qv 1) (Zi Ze Zd))))
   (Zc (Zu 3 YB.nd gF)
   (Zc (Zu 4 YB.nd (ZA (Zi (Zr T.cj Y hr (Zi (qv 0) Zd)) Zd)))
   (Zc (qV Qbh (Zo (Zkl (Zdb hr)) (qv 4) (ZA Zd) (Zz _))
   (Zc (Zu 5 YB.nd (WU Qar Qcc Qcd J3 (qv 4)))
   (Zf (ZJ (Zo (Gd hu) (qv 5) (qv 3) (by with_unfolding_all rfl))
   (Zc (JO hu (qv 3) (qv 5) (YH ({}:ZW (Zk Xn) _ ["words","names","letters","known","waiting","held"] "bits" ["words","held"] [0,5]) (YG (qv 2)) (λ_ _ _ _=>Xk) (λ_ _ _ _=>(Zr T.fi G_law_step hr (Zi (qv 1) (Zi (qv 2) (Zi (qv 0) Zd)))))) U)
   (Zf (Yb (Yy Qar PySem.F.slot_list_extend PySem.F.type_list_extend yU (qv 4) (Zi (ya ({}:ZW (Zk Xn) _ ["words","names","letters","known","waiting","held"] "told" [] []) (⟨by rfl,by decide +kernel⟩:Two _ "told" "behind" []) (YG (JN hu (qv 3) (qv 5) (λ_ _=>U))) (λ_ _ _ _=>Xk) (λ_ _ _ _=>(qv 1))) Zd))))) Zx))))
   (Zf (Zn (qv 3))))))),?_⟩
 try dsimp only[L2.cxK,L2.cxK2]
 refine⟨_,U,pn,nm,2,U,hn,S.nd,S.n3,Qa1 (Qb9 (by decide) S.n3) (by decide),by decide,λpl H1 D1 s1=>Zg ?_⟩;refineλG hkd=>Zg ⟨_,U,tw,N,U,Zb hkd _ _ (s1 _ _ ht),hw,hl_,λpb H3 hpb0 hpb s3=>⟨Zlr,λD hwa=>Zg ?_⟩⟩;have s1k:=Zb (o:=.dT []) hkd;have hwa1:H1 D=none:=(s1k.trans s3).free hwa;have hwk:D≠G:=λz=>by rw[z]at hwa;have:=s3 _ _ (Za (H:=H1) (a:=G) (o:=.dT []));rw[hwa]at this;cases this
 have e4:upd H3 D (.lst [.ref pb]) G=some (.dT (dH V.ref [])):=(Zj hwk.symm).trans (s3 _ _ Za);have s4:Z7 H1 (upd H3 D (.lst [.ref pb])):=(s1k.trans s3).trans (Zb hwa);have w4:upd H3 D (.lst [.ref pb]) D=some (.lst [.ref pb]):=Za;have b4:=Zb (o:=.lst [.ref pb]) hwa _ _ hpb;try dsimp only
 generalize upd H3 D (.lst [.ref pb])=H4 at *;refine yj (λσ H'=>∃(kvs:List (HK×Aw))(as:List Aw)(hl:List HK)(u5:Option V),σ=[some (.ref tw),some (.ref pn),some (.ref pl),some (.ref G),some (.ref D),u5]/\MacW nm N G D kvs as hl H'/\Z7 H1 H') (λ_ H'=>match H' G,H' D with|some (.dT d),some (.lst l)=>(360448-d.length)*9+l.length|_,_=>0) ⟨[],[pb],[N.map GK],none,U,⟨e4,w4,⟨U,λi a h ha hh=>?_⟩,Qbu,(λ_ z=>nomatch z),(λh hh=>by rw[Qao.mp hh];exact Reach.beg nm N),(λ_ z=>nomatch z),(λ_ z=>nomatch z),.inr (Qao.mpr U),(λ_ z=>nomatch z),Qah _⟩,s4⟩ ?_
 .match i with
  |0=>cases ha;cases hh;exact b4
  |i+1=>simp at ha
 rintro σ H5 ⟨kvs,as,hl,u5,rfl,M,s5⟩;refine⟨_,U,Za6,λe he=>⟨D,e,_,_,λ_=>true,U,U,Zb he _ _ M.w,Za,(λ_ j u v _ hv=>by simp at hv),_,U,?_⟩⟩;have s6:=Zb (o:=.lst []) he;have w6:=s6 _ _ M.w;have k6:=s6 _ _ M.k;have t6:Xe (upd H5 e (.lst [])) as hl:=⟨M.t.1,λi a h ha hh=>s6 _ _ (M.t.2 i a h ha hh)⟩;have r6:∀q∈kvs,Za7 nm N (upd H5 e (.lst [])) q.1 q.2:=λq C=>(M.rw_ q C).same s6;have s16:=s5.trans s6;generalize upd H5 e (.lst [])=H6 at *;rcases List.eq_nil_or_concat as with rfl|⟨r,a,rfl⟩
 .refine ZK ⟨_,U,k G kvs H6 k6 ⟨M.nd,M.rc,r6,?_,λq C vs hv=>?_⟩ (s1.trans s16)⟩
  .rcases M.b with z|z
   .exact z
   .rw[Qcm t6.1.symm]at z;cases z
  .rcases M.cl q C vs hv with z|z
   .exact z
   .rw[Qcm t6.1.symm]at z;cases z
 rw[List.concat_eq_append]at *;rcases List.eq_nil_or_concat hl with rfl|⟨Ua,h,rfl⟩
 .have:=t6.1;simp at this
 rw[List.concat_eq_append]at *;have hal:r.length=Ua.length:=by
  have:=t6.1;rw[Qag,Qag]at this;exact Nat.add_right_cancel this
 rw[show(!(((List.range ((r++[a]).map V.ref).length).all λ_=>true)&&((r++[a]).map V.ref).length == ([]:A8).length))=true by simp];have hln:=M.ln;rw[Qag]at hln;have hkl:kvs.length<=360448:=by
  have:=z5 S M.nd λx hx=>by
   obtain⟨q,C,rfl⟩:=Qap.mp hx;exact M.rc q C
  rwa [Qab]at this
 refine Yp ⟨λσ' H'=>∃(Z:List (HK×Aw))(as2:List Aw)(hl2:List HK)(u5:Option V),σ'=[some (.ref tw),some (.ref pn),some (.ref pl),some (.ref G),some (.ref D),u5]/\MacW nm N G D Z as2 hl2 H'/\Z7 H1 H'/\(360448-Z.length)*9+as2.length<(360448-kvs.length)*9+(r.length+1),?_,?_⟩
 .rintro σ' H' ⟨Z,as2,hl2,u',rfl,M',s',lt⟩;refine⟨_,?_,U,Z,as2,hl2,u',U,M',s'⟩;rw[M'.k,M'.w,M.k,M.w];show(360448-(dH V.ref Z).length)*9+(as2.map V.ref).length<(360448-(dH V.ref kvs).length)*9+((r++[a]).map V.ref).length;rw[jH,jH,Qab,Qab,Qag];exact lt
 rw[Qau]at w6;refine⟨_,U,.inl ⟨U,_,SqL.of w6⟩,D,_,_,U,U,w6,YN _ _,Zg ?_⟩;rw[show(r.map V.ref++[a].map V.ref).dropLast=r.map V.ref from Qcp];have o7:wL D G H6 (upd H6 D (.lst (r.map V.ref))):=wL.put1;have w7:upd H6 D (.lst (r.map V.ref)) D=some (.lst (r.map V.ref)):=Za;have k7:=(Zj (H:=H6) (o:=.lst (r.map V.ref)) hwk.symm).trans k6;have t7:=t6.off w6 k6 o7;have r7:∀q∈kvs,Za7 nm N (upd H6 D (.lst (r.map V.ref))) q.1 q.2:=λq C=>(r6 q C).off (M.nw q C) w6 k6 o7;have s17:=ZF (o:=.lst (r.map V.ref)) s16 hwa1
 try dsimp only
 generalize upd H6 D (.lst (r.map V.ref))=H7 at *;have a7:=t7.last hal;have t7':=t7.left hal;have hR:=M.rl h (by simp);refine⟨_,U,_,U,G,Yc (dH V.ref kvs) (kH h),U,Zib.t k7 (by rw[vX];exact a7),_,U,?_⟩;show if(!(Yc (dH V.ref kvs) (kH h)).isSome)=true then _ else _;have old:∀x,x∈Ua++[h]->x∈Ua\/x=h:=λx hx=>by
  rcases Qbl.mp hx with z|z
  .exact .inl z
  .exact .inr (Qao.mp z)
 by_cases hm:h∈kvs.map (·.1)
 .obtain⟨q,C,rfl⟩:=Qap.mp hm;rw[Ze0 M.nd C];have mv:∀x,(x∈kvs.map (·.1)\/x∈Ua++[q.1])->(x∈kvs.map (·.1)\/x∈Ua):=λx hx=>by
   rcases hx with z|z
   .exact .inl z
   .rcases old x z with z|rfl
    .exact .inr z
    .exact .inl hm
  exact ZK ⟨kvs,r,Ua,_,U,⟨k7,w7,t7',M.nd,M.rc,λx hx=>M.rl x (Qb7 _ hx),r7,M.nw,mv _ M.b,λq C vs hv=>mv _ (M.cl q C vs hv),by lia⟩,s17,by lia⟩
 rw[Ze1 hm];refine Yp ?_;obtain⟨ds,d1,d2,d3⟩:=D1.same s17;obtain⟨lv,hlv⟩:=hR;have hv:HvS N h:=hlv ▸ hst_hv S lv;have hR:Reach nm N h:=⟨lv,hlv⟩;have hch:(chs 2 nm.length).length<=8:=by
  rw[wK];exact Qa1 (Qb9 (by decide) S.n3) (by decide)
 have ht7:=s17 _ _ (s1 _ _ ht);refine⟨_,U,pl,U,⟨_,SqL.of d1⟩,Xy (K:=K) (a:=pl) (xs:=ds.map V.ref) (λi zs H'=>∃bs:List Aw,zs=bs.map V.ref/\bs.length=i/\i<=ds.length/\(∀(j:Nat)(b:Aw)(vs:Aj),bs[j]?=some b->(chs 2 nm.length)[j]?=some vs->∃c,H' b=some (.tup [vb true (tdH nm N h vs),.ref c])/\H' c=some (.tup ((nxH nm N h vs).map V.int)))/\Z7 H7 H') ⟨[],U,U,Qbe _,(λj b vs z=>by simp at z),Z7.refl _⟩ (λi zs H' ⟨bs,e1,e2,e3,_⟩=>by rw[e1,Qab,e2];exact Qa0 (Y2 (by lia))) (λi zs H' ⟨_,_,_,_,_,s⟩=>SqL.of (s _ _ d1)) ?_ ?_⟩
 .rintro i x zs H8 R hRR hx ⟨bs,rfl,hbl,hi,hb,s8⟩;rw[Qai]at hx;obtain⟨dv,hdv,rfl⟩:=Qa4.mp hx;have hil:i<ds.length:=(Qaf.mp hdv).1;have O:=Qac (l:=chs 2 nm.length) (i:=i) (by lia);obtain⟨hvl,hvb⟩:=Zes (Qbi (l:=chs 2 nm.length) (n:=i) (by lia));have hdk:=d3 i dv _ hdv O;generalize (chs 2 nm.length)[i]=us at *;refine Zkx ⟨_,U,_,U,_,U,tw,a,dv,nm,N,h,kvC nm us,kF nm us,U,s8 _ _ ht7,hl_,s8 _ _ a7,s8 _ _ hdk,Zll S.nd hvl,λy hy=>?_,S.kp,S.ty,hv,λp q H9 hp0 hp C s9=>hRR _ _ ⟨bs++[p],by rw[Qau];rfl,by rw[Qag,hbl];rfl,hil,λj b vs I hjv=>?_,s8.trans s9⟩⟩
  .have hix:=Qbg hy;have h2:=hvb (us.getD (nm.idxOf y) 0) (by rw[Qak,Qac (by lia)];exact Qbi _);unfold kF;lia
  .by_cases hj:j<bs.length
   .rw[Qa6 hj]at I;obtain⟨c,g1,g2⟩:=hb j b vs I hjv;exact⟨c,s9 _ _ g1,s9 _ _ g2⟩
   .have hj2:j<(bs++[p]).length:=(Qaf.mp I).1;rw[Qag]at hj2;have ej:j=i:=by simp only[Qaz,Qcg]at hj2;lia
    subst ej;rw[Qax (by lia),hbl,Qdw]at I;cases I;rw[O]at hjv;cases hjv;exact⟨q,hp,C⟩
 rintro zs H8 ⟨bs,rfl,hbl,_,hb,s8⟩ p hp;rw[Qab,d2]at hbl;have s9:=s8.trans (Zb (o:=.lst (bs.map V.ref)) hp);have p9:=Za (H:=H8) (a:=p) (o:=.lst (bs.map V.ref));have hb9:∀(j:Nat)(b:Aw)(vs:Aj),bs[j]?=some b->(chs 2 nm.length)[j]?=some vs->∃c,upd H8 p (.lst (bs.map V.ref)) b=some (.tup [vb true (tdH nm N h vs),.ref c])/\upd H8 p (.lst (bs.map V.ref)) c=some (.tup ((nxH nm N h vs).map V.int)):=λj b vs g1 g2=>by
  obtain⟨c,g3,g4⟩:=hb j b vs g1 g2;exact⟨c,Zb hp _ _ g3,Zb hp _ _ g4⟩
 have hpw:p≠D:=λz=>by rw[z,s8 _ _ w7]at hp;cases hp
 generalize upd H8 p (.lst (bs.map V.ref))=H9 at *;have k9:=s9 _ _ k7;have a9:=s9 _ _ a7;have w9:=s9 _ _ w7;refine⟨_,U,_,U,G,_,U,uU.t (k:=kH h) k9 (by rw[vX];exact a9) (by rw[jH];exact Y2 (by lia)),?_⟩;rw[Zln hm];have oA:wL D G H9 (upd H9 G (.dT (dH V.ref (kvs++[(h,p)])))):=wL.put2;have rA:∀q∈kvs,Za7 nm N (upd H9 G (.dT (dH V.ref (kvs++[(h,p)])))) q.1 q.2:=λq C=>((r7 q C).same s9).off (M.nw q C) w9 k9 oA;have tA:=(show Xe H9 r Ua from⟨hal,λi a h ha hh=>s9 _ _ (t7'.2 i a h ha hh)⟩).off w9 k9 oA;have kA:upd H9 G (.dT (dH V.ref (kvs++[(h,p)]))) G=some (.dT (dH V.ref (kvs++[(h,p)]))):=Za;have aA:upd H9 G (.dT (dH V.ref (kvs++[(h,p)]))) a=some (.tup (h.map V.int)):=oA _ _ a9 (ZY a9 w9 λz=>nomatch z) (ZY a9 k9 λz=>nomatch z);have wA:=(Zj (H:=H9) (o:=.dT (dH V.ref (kvs++[(h,p)]))) hwk).trans w9;have pA:upd H9 G (.dT (dH V.ref (kvs++[(h,p)]))) p=some (.lst (bs.map V.ref)):=oA _ _ p9 hpw (ZY p9 k9 λz=>nomatch z);have hbA:∀(j:Nat)(b:Aw)(vs:Aj),bs[j]?=some b->(chs 2 nm.length)[j]?=some vs->∃c,upd H9 G (.dT (dH V.ref (kvs++[(h,p)]))) b=some (.tup [vb true (tdH nm N h vs),.ref c])/\upd H9 G (.dT (dH V.ref (kvs++[(h,p)]))) c=some (.tup ((nxH nm N h vs).map V.int)):=λj b vs g1 g2=>by
  obtain⟨c,g3,g4⟩:=hb9 j b vs g1 g2;exact⟨c,oA _ _ g3 (ZY g3 w9 λz=>nomatch z) (ZY g3 k9 λz=>nomatch z),oA _ _ g4 (ZY g4 w9 λz=>nomatch z) (ZY g4 k9 λz=>nomatch z)⟩
 have sA:=ZF (o:=.dT (dH V.ref (kvs++[(h,p)]))) (s17.trans s9) hkd;have ndA:((kvs++[(h,p)]).map (·.1)).Nodup:=by
  rw[Qau,Qd5];refine⟨M.nd,Qa9.mpr ⟨(λz=>nomatch z),Qbu⟩,λy hy z hz q=>hm ?_⟩;rw[Qao.mp hz]at q;have q:y=h:=q;rw[<-q];exact hy
 try dsimp only
 generalize upd H9 G (.dT (dH V.ref (kvs++[(h,p)])))=HA at *;refine⟨_,U,.inl ⟨U,_,SqL.of wA⟩,_,U,_,U,G,_,U,.inr ⟨_,kH h,a,.inl kA,U,by rw[vX];exact aA,(Ze0 ndA (q:=(h,p)) (by simp)).symm⟩,p,U,⟨_,SqL.of pA⟩,Zae (K:=K) (a:=p) (xs:=bs.map V.ref) (λi zs H'=>∃cs:List Aw,zs=cs.map V.ref/\cs.length=i/\i<=bs.length/\(∀(j:Nat)(c:Aw)(vs:Aj),cs[j]?=some c->(chs 2 nm.length)[j]?=some vs->H' c=some (.tup ((nxH nm N h vs).map V.int)))/\H'=HA) ⟨[],U,U,Qbe _,(λj b vs z=>by simp at z),U⟩ (λi zs H' ⟨cs,e1,e2,e3,_⟩=>by rw[e1,Qab,e2];exact Qa0 (Y2 (by lia))) (λi zs H' ⟨_,_,_,_,_,e⟩=>by rw[e];exact SqL.of pA) ?_ ?_⟩
 .rintro i x zs H' R hRR hx ⟨cs,rfl,hcl,hi,hc,rfl⟩;rw[Qai]at hx;obtain⟨b,hbi,rfl⟩:=Qa4.mp hx;have hil:i<bs.length:=(Qaf.mp hbi).1;have O:=Qac (l:=chs 2 nm.length) (i:=i) (by lia);obtain⟨c,g1,g2⟩:=hbA i b _ hbi O;refine⟨b,_,_,U,SqT.of g1,Zkx ⟨_,U,hRR _ _ ⟨cs++[c],by rw[Qau];rfl,by rw[Qag,hcl];rfl,hil,λj b2 vs I hjv=>?_,U⟩⟩⟩
  by_cases hj:j<cs.length
  .rw[Qa6 hj]at I;exact hc j b2 vs I hjv
  .have hj2:j<(cs++[c]).length:=(Qaf.mp I).1;rw[Qag]at hj2;have ej:j=i:=by simp only[Qaz,Qcg]at hj2;lia
   subst ej;rw[Qax (by lia),hcl,Qdw]at I;cases I;rw[O]at hjv;cases hjv;exact g2
 rintro zs H' ⟨cs,rfl,hcl,_,hc,rfl⟩ l hll;rw[Qab]at hcl;have sB:=Zb (o:=.lst (cs.map V.ref)) hll;have wB:=sB _ _ wA;have kB:=sB _ _ kA;have lB:=Za (H:=H') (a:=l) (o:=.lst (cs.map V.ref));have tB:Xe (upd H' l (.lst (cs.map V.ref))) (r++cs) (Ua++(chs 2 nm.length).map (nxH nm N h)):=Xe.app ⟨hal,λi a h ha hh=>sB _ _ (tA.2 i a h ha hh)⟩ ⟨by rw[Qab,hcl,hbl],λi a g ha hg=>by
  rw[Qai]at hg;obtain⟨vs,O,rfl⟩:=Qa4.mp hg;exact sB _ _ (hc i a vs ha O)⟩
 have rB:∀q∈kvs++[(h,p)],Za7 nm N (upd H' l (.lst (cs.map V.ref))) q.1 q.2:=λq C=>by
  rcases Qbl.mp C with z|z
  .exact(rA q z).same sB
  .rw[Qao.mp z];refine⟨bs,sB _ _ pA,hbl,λi b vs g1 g2=>?_⟩;obtain⟨c,g3,g4⟩:=hbA i b vs g1 g2;exact⟨c,sB _ _ g3,sB _ _ g4⟩
 have nwB:∀q∈kvs++[(h,p)],q.2≠D:=λq C=>by
  rcases Qbl.mp C with z|z
  .exact M.nw q z
  .rw[Qao.mp z];exact hpw
 have s1B:=sA.trans sB;generalize upd H' l (.lst (cs.map V.ref))=HB at *;have oC:wL D G HB (upd HB D (.lst (r.map V.ref++cs.map V.ref))):=wL.put1;have lk:(kvs++[(h,p)]).length=kvs.length+1:=Qag;have hkl2:(kvs++[(h,p)]).length<=360448:=by
  have:=z5 S ndA λx hx=>by
   obtain⟨q,C,rfl⟩:=Qap.mp hx;rcases Qbl.mp C with z|z
   .exact M.rc q z
   .rw[Qao.mp z];exact hR
  rwa [Qab]at this
 refine⟨D,l,_,_,U,U,wB,lB,?_,kvs++[(h,p)],r++cs,Ua++(chs 2 nm.length).map (nxH nm N h),_,U,⟨(Zj hwk.symm).trans kB,?_,tB.off wB kB oC,ndA,λq C=>?_,λx hx=>?_,λq C=>(rB q C).off (nwB q C) wB kB oC,nwB,?_,λq C vs hv2=>?_,?_⟩,ZF s1B hwa1,?_⟩
 .rw[Qab,Qab];exact Qa0 (Y2 (by simp only[Qel]at hln;lia))
 .rw[Za,Qau]
 .rcases Qbl.mp C with z|z
  .exact M.rc q z
  .rw[Qao.mp z];exact hR
 .rcases Qbl.mp hx with z|z
  .exact M.rl x (Qb7 _ z)
  .obtain⟨vs,O,rfl⟩:=Qap.mp z;exact hR.next O
 .rw[Qau];rcases M.b with z|z
  .exact .inl (Qb7 _ z)
  .rcases old _ z with z|z
   .exact .inr (Qb7 _ z)
   .exact .inl (Qa8 _ (by rw[z];exact Qao.mpr U))
 .rw[Qau];rcases Qbl.mp C with z|z
  .rcases M.cl q z vs hv2 with z|z
   .exact .inl (Qb7 _ z)
   .rcases old _ z with z|z
    .exact .inr (Qb7 _ z)
    .exact .inl (Qa8 _ (by rw[z];exact Qao.mpr U))
  .rw[Qao.mp z];exact .inr (Qa8 _ (Qap.mpr ⟨vs,hv2,U⟩))
 .rw[Qag,Qab,lk];simp only[Qel]at hln;lia
 .rw[lk,Qag];lia
inductive qF:Prop
 |mk(tw dv kt:Aw)(ys:Ai)(ws:A8)(kvs:A0)(cols:Str->Int)(pl:Nat)(kp:Ak)(o:Int)(lt:Ak):vs=[.ref tw,.ref dv,.int pl,.ref kt]->H tw=some (.tup ws)->ws.length<=100->H dv=some (.dK kvs)->Zdw kvs ys cols->H kt=some (.tup (kp.map V.int))->(∀w∈ws,ym ys w)->Jk ws->XA ys cols pl kp ws=([o],lt)->lt.length<=kp.length->(∀t l H',H t=none->H' t=some (.tup [.int o,.ref l])->H' l=some (.lst (lt.map V.int))->Z7 H H'->Q (.ref t) H')->qF
theorem Za5:FnD T.cf P w base 4 (spQ qF):=by
 have M:=qB P base T TB;have L:=jd P base T TB;have N:=kq P base T TB;have G:=zY P base T TB;have I:=je P base T TB;refine T.cf.go Xr ?_;rintro cdv A outer s H _ Q E hr ⟨tw,dv,kt,ys,D,kvs,cols,pl,kp,o,lt,rfl,ht,hl,hd,hc,hk,hw,he,hst,hkl,k⟩;have hu:=zH hr;refine⟨_,(Zc (Zu 4 Xr.nd (ZA Zd))
   (Zc (Zu 5 Xr.nd (ZA Zd))
   (Zc (YD Qbh U (Zcb U T.gc (qv 0)) (Xh 6 Xr.nd)
   (Zc (Zu 7 Xr.nd (Zr T.dk I hr (Zi (qv 4) (Zi (qv 6) Zd))))
   (Zf (ZJ (Xx (Zr T.cg M hr (Zi (qv 6) Zd)))
   (Zc (Zu 8 Xr.nd (JW xn (Z1 Yf (qv 3) (Zp Z2 (by rfl) T.af Y7 (Zi (qv 5) Zd)))))
   (Zc (Yb (Yy Qar Qa2 Qa3 ZI (qv 5) (Zi (Zr T.fe N hr (Zi (qv 6) (Zi (qv 7) (Zi (qv 8) Zd)))) Zd)))
   (Zf (Yb (Yy Qar Qa2 Qa3 ZI (qv 4) (Zi (Zr T.dj L hr (Zi (qv 6) (Zi (qv 7) (Zi (qv 8) (Zi (Z1 Zq (qv 5) (JW xn Ze)) Zd))))) Zd)))))) (Zf (ZJ (Xx (Zp X8 (by rfl) T.ai Yg (Zi (qv 6) (Zi (WS (v:=.ty "int") (by rfl) T.bc Wu U) Zd))))
   (Zf (Yb (Yy Qar Qa2 Qa3 ZI (qv 4) (Zi (JW xn (Zl Wt (Zl gn (qv 6) (qv 2)) Ze)) Zd)))) (Zf (ZJ (Zo (jo hu) (qv 6) (qv 1) (by with_unfolding_all rfl))
   (Zf (Yb (Yy Qar Qa2 Qa3 ZI (qv 4) (Zi (JN hu (qv 1) (qv 6) (λ_ _=>U)) Zd)))) (Zf (Yb (Yy Qar Qa2 Qa3 ZI (qv 4) (Zi (Zr T.df G hr (Zi (qv 6) (Zi (qv 7) Zd))) Zd))))))))))))
   (Zf (Zn (Z0 (Zi (WU Qar Qcc Qcd J3 (qv 4)) (Zi (qv 5) Zd)))))))),?_⟩
 try dsimp only[L2.cxK,L2.cxK2]
 refine⟨Za6,λst Ua=>Zg ⟨Za6,λO hla0=>Zg ?_⟩⟩;have s1:=Zb (o:=.lst []) Ua;have s2:=s1.trans (Zb (o:=.lst []) hla0);have hsl:st≠O:=Zm (Za (H:=H) (a:=st) (o:=.lst [])) hla0;have hlaH:H O=none:=s1.free hla0;refine⟨_,U,tw,_,U,SqT.of (s2 _ _ ht),Zcc (K:=K) (a:=tw) (xs:=D) (λi σ H2=>∃u6 u7 u8,σ=[some (.ref tw),some (.ref dv),some (.int pl),some (.ref kt),some (.ref st),some (.ref O),u6,u7,u8]/\i<=D.length/\H2 st=some (.lst ((XA ys cols pl kp (D.drop (D.length-i))).1.map V.int).reverse)/\H2 O=some (.lst ((XA ys cols pl kp (D.drop (D.length-i))).2.map V.int))/\Z7 H H2) ⟨none,none,none,U,Qbe _,?_,?_,s2⟩ (λi σ H2 _ ⟨_,_,_,_,_,_,_,s⟩=>SqT.of (s _ _ ht)) ?_ ?_⟩
 .rw[Qgt,Qeh,Zj hsl];exact Za
 .rw[Qgt,Qeh];exact Za
 .rintro i x σ H2 hx ⟨u6,u7,u8,rfl,hi0,h2s,h2l,s3⟩;obtain⟨hi,hx⟩:=Zim hx;have ed:D.drop (D.length-(i+1))=x::D.drop (D.length-i):=by
   rw[show D.length-(i+1)=D.length-1-i by lia,Qdc (by lia),show D.length-1-i+1=D.length-i by lia];congr 1;exact(Qaf.mp hx).2
  have hwx:=hw x (Qat hx);have hen:=zc D (D.length-(i+1)) he;have hmo:=vD ys cols pl kp D (D.length-(i+1));rw[hst]at hmo;rw[ed]at hen hmo ⊢;have hln:=yn (ys:=ys) (cols:=cols) (pl:=pl) (kp:=kp) (D.drop (D.length-i)) λw h=>hw w (List.mem_of_mem_drop h);have hle2:=wu (D.drop (D.length-i));rw[Qds]at hle2;have hmo2:=vC ys cols pl kp x (D.drop (D.length-i));have hlb:=ua ys cols pl kp (D.drop (D.length-i));rw[Qds]at hlb;generalize D.drop (D.length-i)=r at *;have hn:=hen.1;have eC:∀z:V,XA ys cols pl kp (z::r)=match z with
   |.str y=>
    if y∈allR then(okI y ((XA ys cols pl kp r).1.take (npw z)) (-(kp.getD (XA ys cols pl kp r).2.length 0)) (ktI y ((XA ys cols pl kp r).1.take (npw z)) (-(kp.getD (XA ys cols pl kp r).2.length 0)))::(XA ys cols pl kp r).1.drop (npw z),(XA ys cols pl kp r).2++[ktI y ((XA ys cols pl kp r).1.take (npw z)) (-(kp.getD (XA ys cols pl kp r).2.length 0))])
    else if y∈ys then(cols y::(XA ys cols pl kp r).1.drop (npw z),(XA ys cols pl kp r).2)
    else(oaI y ((XA ys cols pl kp r).1.take (npw z))::(XA ys cols pl kp r).1.drop (npw z),(XA ys cols pl kp r).2)
   |.int z'=>(-(bt z' pl)::(XA ys cols pl kp r).1.drop (npw z),(XA ys cols pl kp r).2)
   |_=>XA ys cols pl kp r:=λz=>by cases z<;>rfl
  have eX:=eC x;generalize XA ys cols pl kp r=P at *;obtain⟨C,Y⟩:=P;try dsimp only at *
  have hkx:x=kV (keyOf x)/\YZ x=true:=by
   rcases hwx with⟨y,rfl,_⟩|⟨y,rfl,_⟩|⟨y,rfl,_⟩|⟨z,rfl,_⟩<;>exact⟨U,U⟩
  refine⟨_,U,_,U,st,C.map V.int,x,U,h2s,hkx.1,by rw[Qab];lia,by rw[Qab];lia,λpp H3 Z hpp S o3=>Zg ?_⟩;rw[<-Qdv]at hpp;rw[<-Qee]at S;have h3l:=o3 _ _ h2l hsl.symm;have s4:Z7 H H3:=λb o e=>o3 b o (s3 b o e) (Zm e Ua);have hln3:(C.take (npw x)).length=npw x:=by rw[Qbp];lia
  have hps:pp≠st:=λz=>by rw[z,h2s]at Z;cases Z
  have hpl2:pp≠O:=λz=>by rw[z,h2l]at Z;cases Z
  refine⟨_,U,x,U,hkx.2,_,U,?_⟩;have sml:((C.drop (npw x)).map V.int).reverse.length<sizeLine:=by
   rw[Qc1,Qab,Qds];exact Z3 (by lia)
  have fin:∀(v:Int)(Hx:Hp),XA ys cols pl kp (x::r)=(v::C.drop (npw x),Y)->Z7 H3 Hx->upd Hx st (.lst (((C.drop (npw x)).map V.int).reverse++[.int v])) st=some (.lst ((XA ys cols pl kp (x::r)).1.map V.int).reverse)/\upd Hx st (.lst (((C.drop (npw x)).map V.int).reverse++[.int v])) O=some (.lst ((XA ys cols pl kp (x::r)).2.map V.int))/\Z7 H (upd Hx st (.lst (((C.drop (npw x)).map V.int).reverse++[.int v]))):=λv Hx e sx=>by
   rw[e];refine⟨by rw[Za,Qbw,Qcn],by rw[Zj hsl.symm];exact sx _ _ h3l,ZF (s4.trans sx) Ua⟩
  rcases hwx with⟨y,rfl,hy,hny,hn1,hn2⟩|⟨y,rfl,hy,hna,hny,hnp⟩|⟨y,rfl,hy,hna,hnp⟩|⟨z,rfl,hz,hnp⟩
  .show if inV (.str y) (allR.map V.str)=true then _ else _
   rw[ZC,Qaq hy];have eX:XA ys cols pl kp (.str y::r)=(okI y (C.take (npw (.str y))) (-(kp.getD Y.length 0)) (ktI y (C.take (npw (.str y))) (-(kp.getD Y.length 0)))::C.drop (npw (.str y)),Y++[ktI y (C.take (npw (.str y))) (-(kp.getD Y.length 0))]):=by
    rw[eX];exact Qa5 hy
   have hkk:Y.length<kp.length:=by
    rw[eX]at hmo;simp only[Qag,Qaz,Qcg]at hmo;lia
   refine Yp ⟨_,U,_,U,O,_,U,.inl (SqL.of h3l),kt,_,_,.int (kp.getD Y.length 0),U,U,SqT.of (s4 _ _ hk),?_,_,U,?_⟩
   .rw[Qab];exact ZG _ U hkk
   try dsimp only
   generalize -(kp.getD Y.length 0)=hh at *;refine Zg ?_;refine⟨_,U,.inl ⟨U,_,SqL.of h3l⟩,_,U,_,U,_,U,y,pp,C.take (npw (.str y)),hh,U,hpp,by lia,hy,(λh=>by have:=hn2 h;lia),λH4 s5=>⟨O,_,_,U,U,s5 _ _ h3l,?_,?_⟩⟩
   .rw[Qab];exact Z3 (by lia)
   have h5s:upd H4 O (.lst (Y.map V.int++[.int (ktI y (C.take (npw (.str y))) hh)])) st=some (.lst ((C.drop (npw (.str y))).map V.int).reverse):=by rw[Zj hsl];exact s5 _ _ S
   have h5p:upd H4 O (.lst (Y.map V.int++[.int (ktI y (C.take (npw (.str y))) hh)])) pp=some (.lst ((C.take (npw (.str y))).map V.int)):=by rw[Zj hpl2];exact s5 _ _ hpp
   have h5l:upd H4 O (.lst (Y.map V.int++[.int (ktI y (C.take (npw (.str y))) hh)])) O=some (.lst (Y.map V.int++[.int (ktI y (C.take (npw (.str y))) hh)])):=Za;have s6:Z7 H (upd H4 O (.lst (Y.map V.int++[.int (ktI y (C.take (npw (.str y))) hh)]))):=ZF (s4.trans s5) hlaH;generalize upd H4 O (.lst (Y.map V.int++[.int (ktI y (C.take (npw (.str y))) hh)]))=H5 at *;refine⟨_,U,.inl ⟨U,_,SqL.of h5s⟩,_,U,_,U,_,U,_,U,1,U,O,_,-1,.int (ktI y (C.take (npw (.str y))) hh),U,U,SqL.of h5l,Zfm _ _,y,pp,C.take (npw (.str y)),hh,_,U,h5p,by lia,hy,(λh=>by have:=hn2 h;lia),λH6 s7=>⟨st,_,_,U,U,s7 _ _ h5s,sml,_,_,_,U,hi,?_,?_,ZF (s6.trans s7) Ua⟩⟩
   .rw[Za,eX,Qbw,Qcn]
   .rw[Zj hsl.symm,eX,Qau];exact s7 _ _ h5l
  .show if inV (.str y) (allR.map V.str)=true then _ else _
   rw[ZC,Qan hna];have eX:XA ys cols pl kp (.str y::r)=(oaI y (C.take (npw (.str y)))::C.drop (npw (.str y)),Y):=by
    rw[eX];show(if y∈allR then _ else if y∈ys then _ else _)=_;rw[Qaw hna,Qaw hny]
   refine ZK ⟨_,U,_,_,_,_,U,.str y,Xw,_,U,ZK ⟨_,U,_,U,dv,Yc kvs (.inr y),U,.inl ⟨kvs,.inr y,.inl (s4 _ _ hd),U,U⟩,_,U,?_⟩⟩;show if(Yc kvs (.inr y)).isSome=true then _ else _;rw[hc.2 y hny];refine ZK ⟨_,U,.inl ⟨U,_,SqL.of S⟩,_,U,_,U,y,pp,C.take (npw (.str y)),U,hpp,hy,by rw[hln3,hnp],λH4 s5=>?_⟩;obtain⟨f1,f2,f3⟩:=fin _ H4 eX s5;exact⟨st,_,_,U,U,s5 _ _ S,sml,_,_,_,U,hi,f1,f2,f3⟩
  .show if inV (.str y) (allR.map V.str)=true then _ else _
   rw[ZC,Qan hna];have eX:XA ys cols pl kp (.str y::r)=(cols y::C.drop (npw (.str y)),Y):=by
    rw[eX];show(if y∈allR then _ else if y∈ys then _ else _)=_;rw[Qaw hna,Qa5 hy]
   refine ZK ⟨_,U,_,_,_,_,U,.str y,Xw,_,U,ZK ⟨_,U,_,U,dv,Yc kvs (.inr y),U,.inl ⟨kvs,.inr y,.inl (s4 _ _ hd),U,U⟩,_,U,?_⟩⟩;show if(Yc kvs (.inr y)).isSome=true then _ else _;rw[hc.1 y hy];obtain⟨f1,f2,f3⟩:=fin _ H3 eX (Z7.refl _);exact Yp ⟨_,U,.inl ⟨U,_,SqL.of S⟩,_,U,_,U,dv,_,U,.inl ⟨kvs,.inr y,.inl (s4 _ _ hd),U,(hc.1 y hy).symm⟩,st,_,_,U,U,S,sml,_,_,_,U,hi,f1,f2,f3⟩
  .show if inV (.int z) (allR.map V.str)=true then _ else _
   rw[wx];refine ZK ⟨_,U,_,_,_,_,U,.int z,Xv,_,U,Yp ⟨_,U,.inl ⟨U,_,SqL.of S⟩,_,U,_,U,_,_,U,U,Qfm pl,_,_,U,U,_,U,?_⟩⟩;have ev:-(Builtin.bitAnd (z/2^(pl:Int).toNat) 1)=-(bt z pl):=by
    rw[and_1,Qca];rfl
   try dsimp only
   rw[ev];obtain⟨f1,f2,f3⟩:=fin _ H3 eX (Z7.refl _);exact⟨st,_,_,U,U,S,sml,_,_,_,U,hi,f1,f2,f3⟩
 .rintro σ H2 ⟨u6,u7,u8,rfl,hi0,h2s,h2l,s3⟩;rw[Qdw,Qgv,hst]at h2s h2l;refine⟨_,U,.inl ⟨U,_,SqL.of h2s⟩,st,_,.int o,U,U,h2s,U,_,U,xj,λtt htt=>?_⟩;have hlt:upd H2 st (.lst []) O=some (.lst (lt.map V.int)):=by rw[Zj hsl.symm];exact h2l
  have s5:Z7 H (upd H2 st (.lst [])):=ZF s3 Ua;exact k tt O _ (s5.free htt) Za (Zb htt _ _ hlt) (s5.trans (Zb htt))
inductive XM(P:Aq)(w:Au)(K:Af)(mg:Ae)(base:Heap):Prop
 |mk(κ:Type)(dq:DecidableEq κ)(sk:SK κ)(pn f:Aw)(nm:Ai)(b:κ)(bv:V)(nx:κ->List κ)(ot:κ->List V)(Ua:List κ)(τ:Sp):vs=[.ref pn,bv,.ref f]->H pn=some (.tup (nm.map V.str))->sk.at_ H b bv->b∈Ua->(∀s∈Ua,(nx s).length<=8/\(ot s).length<=8/\∀x∈nx s,x∈Ua)->Ua.length<=1000000->nm.length<=3->YX P w K mg base 12 f H τ->(∀(s:κ)(sv:V)(H1:Hp)(Q':VK),s∈Ua->sk.at_ H1 s sv->Z7 H H1->(∀t r1 r2 ws H2,H2 t=some (.tup [.ref r1,.ref r2])->SqF H1 H2 r1 ws->StA sk H2 (nx s) ws->SqF H1 H2 r2 (ot s)->Z7 H1 H2->Q' (.ref t) H2)->τ [sv] H1 Q' E0)->(∀p sts m (l:List κ) ws H',BfE nx b l->H' p=some (.tup [.ref sts,.ref m])->H sts=none->H' sts=some (.lst ws)->StA sk H' l ws->M4 H' m nm 0 (rnG nx l) (l.map ot)->Z7 H H'->Q (.ref p) H')->XM P w K mg base
def qP(P:Aq)(w:Au)(K:Af)(mg:Ae)(base:Heap):Sp:=λvs H Q _=>XM vs H Q P w K mg base
theorem WK:FnD T.ae P w base 13 (qP P w K mg base):=by
 have L:=z9 P base T TB;refine T.ae.go Ye ?_;rintro cdv A outer s H _ Q E hr ⟨κ,_,sk,pn,f,nm,b,bv,nx,ot,Ua,τ,rfl,hpn,hbv,hb,hU,h2,hn3,hc,hτ,k⟩;refine⟨_,(Zc (Zu 3 Ye.nd (ZA (Zi (qv 1) Zd)))
   (Zc (Zu 4 Ye.nd (QE.or (Zdd (jv hr) (qv 1) Ze) (Zc0 (gE (qv 1) Ze Zcz) U U (λz=>nomatch z) (by decide))))
   (Zc (Zu 5 Ye.nd (ZA Zd))
   (Zc (Zu 6 Ye.nd (ZA Zd))
   (Zc (qV Qbh (Zo Zbo (Zp Z2 (by rfl) T.af Y7 (Zi (qv 5) Zd)) (Zp Z2 (by rfl) T.af Y7 (Zi (qv 3) Zd)) (Zz _))
   (Zc (Zu 7 Ye.nd (Zf0 (k:=12) 2 (hr.mono (by decide)) (Zi (Z1 Zq (qv 3) (Zp Z2 (by rfl) T.af Y7 (Zi (qv 5) Zd))) Zd)))
   (Zc (Yb (Yy Qar Qa2 Qa3 ZI (qv 5) (Zi (Z4 Z5 (by rfl) T.ah Yr (Zi (YH ({}:ZW (Zk X1) _ ["names","begin","step_of","states","numbers","steps","out","told"] "state" ["states","numbers"] [3,4]) (QI.or (YG (Z1 Yf (qv 7) Ze)) (J4 (Z1 Yf (qv 7) Ze))) (λ_ _ _ _=>Xk) (λ_ _ _ _=>(Zr T.ck L hr (Zi (qv 0) (Zi (qv 1) (Zi (qv 2) Zd)))))) Zd)) Zd)))
   (Zf (Yb (Yy Qar Qa2 Qa3 ZI (qv 6) (Zi (Z4 Z5 (by rfl) T.ah Yr (Zi (Z1 Yf (qv 7) Ze) Zd)) Zd)))))))
   (Zf (Zn (Z0 (Zi (qv 3) (Zi (Z0 (Zi (Z4 Z5 (by rfl) T.ah Yr (Zi (qv 0) Zd)) (Zi Ze (Zi (Z4 Z5 (by rfl) T.ah Yr (Zi (qv 5) Zd)) (Zi (Z4 Z5 (by rfl) T.ah Yr (Zi (qv 6) Zd)) Zd))))) Zd)))))))))),?_⟩
 try dsimp only[L2.cxK,L2.cxK2]
 refine L2.let6 ?_;intro U5 U4 U3 U2 U1;have hr:∀s∈Ua,∀x∈nx s,x∈Ua:=λs h=>(hU s h).2.2;refine⟨_,U,Zlr,λst hst=>?_⟩;have s1:=Zb (o:=.lst [bv]) hst;refine Zg ?_;have begun:∀(D:Aw)(H3:Hp),H D=none->H3 st=some (.lst [bv])->sk.dic H3 D [b]->sk.at_ H3 b bv->Z7 H H3->U2 {nx:=λ_ H'=>Q .non H',rt:=Q} [some (.ref pn),some bv,some (.ref f),some (.ref st),some (.ref D),none,none,none] H3:=by
  intro D H3 hndH hst3 hnd3 hbv3 s3;obtain⟨ond,hond,ndT,ndL⟩:=SK.ne hnd3;refine⟨Za6,λpp hpp=>Zg ⟨Za6,λI hpo=>Zg ?_⟩⟩;have sp:=Zb (o:=.lst []) hpp;have so:=sp.trans (Zb (o:=.lst []) hpo);have hppH:H pp=none:=s3.free hpp;have hpoH:H I=none:=s3.free (sp.free hpo);have pst:pp≠st:=(Zm hst3 hpp).symm;have pnd:pp≠D:=(Zm hond hpp).symm;have ppo:pp≠I:=Zm Za hpo;have ost:I≠st:=(Zm (sp _ _ hst3) hpo).symm;have oNd:I≠D:=(Zm (sp _ _ hond) hpo).symm;have rl:∀{H:Hp} {zs:A8} {i:Nat},Xo H zs (zP nx b i)->zs.length=i:=λz=>by
   have:=z.1;unfold zP at this;rw[Qab,Qbk]at this;exact this
  have ol:∀{H:Hp} {zs:A8} {i:Nat},Xo H zs (yu nx ot b i)->zs.length=i:=λz=>by
   have:=z.1;unfold yu at this;rw[Qab,Qbk]at this;exact this
  have M:∀{Ha Hb:Hp},Z7 Ha Hb->∀b xs,Ha b=some (.tup xs)->Hb b=some (.tup xs):=λs b xs e=>s _ _ e;refine yj (λσ H2=>∃(i:Nat)(u7:Option V)(zs os ws:A8),σ=[some (.ref pn),some bv,some (.ref f),some (.ref st),some (.ref D),some (.ref pp),some (.ref I),u7]/\H2 st=some (.lst ws)/\StA sk H2 (bfN nx b i) ws/\sk.dic H2 D (bfN nx b i)/\H2 pp=some (.lst zs)/\H2 I=some (.lst os)/\Xo H2 zs (zP nx b i)/\Xo H2 os (yu nx ot b i)/\(∀j,j<i->j<(bfN nx b j).length)/\i<=(bfN nx b i).length/\Z7 H H2) (λ_ H2=>match H2 pp with|some (.lst zs)=>Ua.length-zs.length|_=>0) ⟨0,none,[],[],[bv],U,so _ _ hst3,StA.one (SK.keep hbv3 (M so)),SK.stay hnd3 (λo e=>so _ _ e) (M so),Zb hpo _ _ Za,Za,Xo.nil,Xo.nil,(λj hj=>absurd hj (Qer _)),Qbe _,s3.trans so⟩ ?_;rintro σ H4 ⟨i,u7,zs,os,ws,rfl,Y,hA4,hnd4,N,hpo4,Rz,Ro,hgo,hil,s4⟩;have hzl:=rl Rz;have hol:=ol Ro;have hlen:=Zd6 hb hr i;have hnod:=Gx (nx:=nx) (b:=b) i;have hinU:=Zd5 hb hr i;refine⟨_,U,pp,_,U,.inl (SqL.of N),_,U,st,_,U,.inl (SqL.of Y),_,_,U,U,_,U,?_⟩;rw[hzl,hA4.1];refine jO (λhlt=>?_) (λhlt=>?_)
  .have hlt':i<(bfN nx b i).length:=by
    have:=Qbb hlt;lia
   obtain⟨C,hsi⟩:∃C,(bfN nx b i)[i]?=some C:=⟨_,Qac hlt'⟩;have hsU:C∈Ua:=hinU _ (Qat hsi);obtain⟨r8,o8,rU⟩:=hU C hsU;obtain⟨sv,hsv,hat⟩:=hA4.2 i C hsi;have eR:=Zan (nx:=nx) (b:=b) hsi;have eO:=Zao (nx:=nx) (ot:=ot) (b:=b) hsi;have eS:=yt (nx:=nx) (b:=b) hsi;refine⟨λσ' H'=>∃(u7:Option V)(zs' os' G:A8),σ'=[some (.ref pn),some bv,some (.ref f),some (.ref st),some (.ref D),some (.ref pp),some (.ref I),u7]/\H' st=some (.lst G)/\StA sk H' (bfN nx b (i+1)) G/\sk.dic H' D (bfN nx b (i+1))/\H' pp=some (.lst zs')/\H' I=some (.lst os')/\Xo H' zs' (zP nx b (i+1))/\Xo H' os' (yu nx ot b (i+1))/\Z7 H H',?_,?_⟩
   .rintro σ' H' ⟨u8,zs',os',G,rfl,g1,gA,g2,g3,g4,g5,g6,s5⟩;have hpre:(bfN nx b i).length<=(bfN nx b (i+1)).length:=by
     obtain⟨r,e⟩:=Jy (nx C) (bfN nx b i);rw[eS,e,Qag];lia
    refine⟨Ua.length-(i+1),?_,?_,i+1,u8,zs',os',G,U,g1,gA,g2,g3,g4,g5,g6,λj hj=>?_,by lia,s5⟩
    .rw[N];show Ua.length-(i+1)<Ua.length-zs.length;lia
    .rw[g3];show _=Ua.length-zs'.length;rw[rl g5]
    .by_cases hji:j=i
     .rw[hji];exact hlt'
     .exact hgo j (by lia)
   .refine⟨f,τ,U,hc.frz s4.frz,_,U,_,U,pp,_,U,.inl (SqL.of N),st,_,_,sv,U,U,SqL.of Y,by rw[hzl];exact Yv hsv,GR.refl _,hτ C sv H4 _ hsU hat s4 λtt r1 r2 ws0 H5 htt hr1 hA5 hr2 s5=>?_⟩;refine Zg ?_;generalize hl0:bfN nx b i=l0 at *;have hst5:=s5 _ _ Y;have hnd5:sk.dic H5 D l0:=SK.stay hnd4 (λo e=>s5 _ _ e) (M s5);have hpp5:=s5 _ _ N;have hpo5:=s5 _ _ hpo4;obtain⟨ond4,Z,nd4T,nd4L⟩:=SK.ne hnd4;have ndn:∀{r:Aw} {ys:A8},SqF H4 H5 r ys->r≠st/\r≠D/\r≠pp/\r≠I:=λ{r ys} z=>by
     have lst:∀{q:Aw} {o:HO},H4 q=some o->(∀xs,o≠.tup xs)->r≠q:=λ{q o} e ht e2=>by
      subst e2;rcases z with z|⟨_,z⟩
      .rw[s5 _ _ e]at z;exact ht ys (Option.some.inj z)
      .rw[e]at z;cases z
     exact⟨lst Y (λ_ z=>nomatch z),lst Z nd4T,lst N (λ_ z=>nomatch z),lst hpo4 λ_ z=>nomatch z⟩
    obtain⟨rst,rnd,_,_⟩:=ndn hr1;refine⟨_,U,.inl ⟨U,_,SqL.of hpp5⟩,?_⟩;have hr1':H5 r1=some (.tup ws0)\/H5 r1=some (.lst ws0):=hr1.imp id (λz=>z.1);have w8:ws0.length<=8:=by rw[hA5.1];exact r8
    refine Zgo (a:=r1) (xs:=ws0) (λR hR=>⟨_,U,tt,_,0,_,U,U,SqT.of htt,U,hR⟩) hr1' (λj zs H'=>zs=((nx C).take j).map (λx=>Gv ((bfN nx b (i+1)).idxOf x))/\(∃G,H' st=some (.lst G)/\StA sk H' (((nx C).take j).foldl Y8 l0) G)/\sk.dic H' D (((nx C).take j).foldl Y8 l0)/\(∀b o,H5 b=some o->b≠st->b≠D->H' b=some o)/\∀b,H5 b=none->H' b=none) ⟨U,⟨ws,hst5,hA4.keep (M s5)⟩,hnd5,(λ_ _ e _ _=>e),λ_ e=>e⟩ ?_ ?_ ?_ ?_
    .rintro j zs H6 ⟨rfl,_⟩;rw[Qab,Qbp];exact Qa0 (Z3 (by lia))
    .rintro j zs H6 ⟨_,_,_,g3,_⟩ o e;exact g3 _ _ e rst rnd
    .rintro j x zs H6 R hR hx ⟨rfl,⟨G,g1,gA⟩,g2,g3,g4⟩;have hj:j<(nx C).length:=by rw[<-hA5.1];exact(Qaf.mp hx).1
     obtain⟨s',hs'⟩:∃s',(nx C)[j]?=some s':=⟨_,Qac hj⟩;have tp6:∀b xs,H5 b=some (.tup xs)->H6 b=some (.tup xs):=λb xs e=>g3 _ _ e (ZY e hst5 (λz=>nomatch z)) (λz=>by rw[z,s5 _ _ Z]at e;exact nd4T xs (Option.some.inj e));obtain⟨v',hv',hat'⟩:=hA5.2 j s' hs';rw[hx]at hv';cases hv';have hat6:=SK.keep hat' tp6;have e1:((nx C).take (j+1)).foldl Y8 l0=Y8 (((nx C).take j).foldl Y8 l0) s':=by
      rw[take_snoc hs',Qc2];rfl
     have e2:(bfN nx b (i+1)).idxOf s'=(Y8 (((nx C).take j).foldl Y8 l0) s').idxOf s':=by
      have e3:(nx C).foldl Y8 l0=((nx C).drop (j+1)).foldl Y8 (((nx C).take (j+1)).foldl Y8 l0):=by rw[<-Qc2,Qc3]
      obtain⟨r,e4⟩:=Jy ((nx C).drop (j+1)) (((nx C).take (j+1)).foldl Y8 l0);rw[eS,e3,e4,e1,xF (X9.mpr (.inr U))]
     have hnj:(((nx C).take j).foldl Y8 l0).Nodup:=zf _ _ hnod;have hlj:(((nx C).take j).foldl Y8 l0).length<10000000:=by
      have:=Zd4 ((nx C).take j) l0;rw[Qbp]at this;lia
     have ew:((nx C).take (j+1)).map (λx=>Gv ((bfN nx b (i+1)).idxOf x))=((nx C).take j).map (λx=>Gv ((bfN nx b (i+1)).idxOf x))++[Gv ((bfN nx b (i+1)).idxOf s')]:=by
      rw[take_snoc hs',Qau];rfl
     rw[ew,e1]at hR;rw[e2]at hR;generalize ((nx C).take j).foldl Y8 l0=l' at *;refine Zkx ⟨_,U,_,U,_,U,κ,_,sk,x,st,D,s',l',G,U,g1,gA.1,g2,hat6,hnj,hlj,λH7 ws7 q1 q0 q2 q3 q4=>hR _ _ ⟨U,⟨ws7,q1,?_⟩,q2,(λb o e h1 h2=>q3 _ _ (g3 b o e h1 h2) h1 h2),λb e=>q4 _ (g4 b e)⟩⟩;have tp7:∀b xs,H6 b=some (.tup xs)->H7 b=some (.tup xs):=λb xs e=>q3 _ _ e (ZY e g1 (λz=>nomatch z)) λz=>by
      obtain⟨o,e7,h7,_⟩:=SK.ne g2;rw[z,e7]at e;exact h7 xs (Option.some.inj e)
     rcases q0 with⟨hm,rfl⟩|⟨hm,rfl⟩
     .rw[show Y8 l' s'=l' from Qa5 hm];exact gA.keep tp7
     .rw[show Y8 l' s'=l'++[s']from Qaw hm];exact(gA.keep tp7).snoc (SK.keep hat6 tp7)
    .rintro zs1 H6 ⟨rfl,⟨G,g1,gA⟩,g2,g3,g4⟩ l hl;rw[hA5.1,Qb1]at g2 gA ⊢;rw[<-eS]at g2 gA;have tp6:∀{c:Aw} {ys:A8},H5 c=some (.tup ys)->H6 c=some (.tup ys):=λ{c ys} e=>g3 _ _ e (ZY e hst5 (λz=>nomatch z)) (λz=>by rw[z,s5 _ _ Z]at e;exact nd4T ys (Option.some.inj e));have hpp6:=g3 _ _ hpp5 pst pnd;have hpo6:=g3 _ _ hpo5 ost oNd;have htt6:=tp6 htt;have O:H6 r2=some (.tup (ot C))\/H6 r2=some (.lst (ot C)):=by
      obtain⟨z1,z2,_⟩:=ndn hr2;rcases hr2 with z|⟨z,_⟩
      .exact .inl (g3 _ _ z z1 z2)
      .exact .inr (g3 _ _ z z1 z2)
     have ndr2:=ndn hr2;refine⟨l,_,U,.inl ⟨SqL.of Za,λq hq=>?_⟩⟩;have sl:=Zb (o:=.lst ((nx C).map λx=>Gv ((bfN nx b (i+1)).idxOf x))) hl;have sq:=sl.trans (Zb (o:=.tup ((nx C).map λx=>Gv ((bfN nx b (i+1)).idxOf x))) hq);have hqp:q≠pp:=(Zm (sl _ _ hpp6) hq).symm;have hqo:q≠I:=(Zm (sl _ _ hpo6) hq).symm;refine⟨pp,_,_,U,U,sq _ _ hpp6,Y2 (by lia),?_⟩;have k8:∀c o,H6 c=some o->c≠pp->upd (upd (upd H6 l (.lst ((nx C).map λx=>Gv ((bfN nx b (i+1)).idxOf x)))) q (.tup ((nx C).map λx=>Gv ((bfN nx b (i+1)).idxOf x)))) pp (.lst (zs++[.ref q])) c=some o:=λc o e hc=>by
      rw[Zj hc];exact sq _ _ e
     have hq8:upd (upd (upd H6 l (.lst ((nx C).map λx=>Gv ((bfN nx b (i+1)).idxOf x)))) q (.tup ((nx C).map λx=>Gv ((bfN nx b (i+1)).idxOf x)))) pp (.lst (zs++[.ref q])) q=some (.tup ((nx C).map λx=>Gv ((bfN nx b (i+1)).idxOf x))):=by
      rw[Zj hqp];exact Za
     have hp8:=Za (H:=upd (upd H6 l (.lst ((nx C).map λx=>Gv ((bfN nx b (i+1)).idxOf x)))) q (.tup ((nx C).map λx=>Gv ((bfN nx b (i+1)).idxOf x)))) (a:=pp) (o:=.lst (zs++[.ref q]));have d8:sk.dic (upd (upd (upd H6 l (.lst ((nx C).map λx=>Gv ((bfN nx b (i+1)).idxOf x)))) q (.tup ((nx C).map λx=>Gv ((bfN nx b (i+1)).idxOf x)))) pp (.lst (zs++[.ref q]))) D (bfN nx b (i+1)):=SK.off (SK.stay g2 (λo e=>sq _ _ e) (M sq)) (sq _ _ hpp6);generalize upd (upd (upd H6 l (.lst ((nx C).map λx=>Gv ((bfN nx b (i+1)).idxOf x)))) q (.tup ((nx C).map λx=>Gv ((bfN nx b (i+1)).idxOf x)))) pp (.lst (zs++[.ref q]))=H8 at *;have tp8:∀{c:Aw} {ys:A8},H6 c=some (.tup ys)->H8 c=some (.tup ys):=λ{c ys} e=>k8 _ _ e (ZY e hpp6 (λz=>nomatch z));have hpo8:=k8 _ _ hpo6 ppo.symm;have last:∀(S:Aw)(H9:Hp),H9 S=some (.tup (ot C))->Z7 H8 H9->H9 I=some (.lst os)/\(upd H9 I (.lst (os++[.ref S])) st=some (.lst G)/\StA sk (upd H9 I (.lst (os++[.ref S]))) (bfN nx b (i+1)) G/\sk.dic (upd H9 I (.lst (os++[.ref S]))) D (bfN nx b (i+1))/\upd H9 I (.lst (os++[.ref S])) pp=some (.lst (zs++[.ref q]))/\upd H9 I (.lst (os++[.ref S])) I=some (.lst (os++[.ref S]))/\Xo (upd H9 I (.lst (os++[.ref S]))) (zs++[.ref q]) (zP nx b (i+1))/\Xo (upd H9 I (.lst (os++[.ref S]))) (os++[.ref S]) (yu nx ot b (i+1))/\Z7 H (upd H9 I (.lst (os++[.ref S])))):=by
      intro S H9 ha9 s9;have hpo9:=s9 _ _ hpo8;have tp9:∀{c:Aw} {ys:A8},H9 c=some (.tup ys)->upd H9 I (.lst (os++[.ref S])) c=some (.tup ys):=λ{c ys} e=>by rw[Zj (ZY e hpo9 (λz=>nomatch z))];exact e
      have tp59:∀b xs,H5 b=some (.tup xs)->upd H9 I (.lst (os++[.ref S])) b=some (.tup xs):=λb xs e=>tp9 (s9 _ _ (tp8 (tp6 e)));refine⟨hpo9,?_,gA.keep (λb xs e=>tp9 (s9 _ _ (tp8 e))),SK.off (SK.stay d8 (λo e=>s9 _ _ e) (M s9)) hpo9,?_,Za,?_,?_,λc o' e=>?_⟩
      .rw[Zj ost.symm];exact s9 _ _ (k8 _ _ g1 pst.symm)
      .rw[Zj ppo];exact s9 _ _ hp8
      .rw[eR];exact(jB (λb xs e=>tp59 b xs (s5 _ _ e)) Rz).snoc (tp9 (s9 _ _ hq8))
      .rw[eO];exact(jB (λb xs e=>tp59 b xs (s5 _ _ e)) Ro).snoc (tp9 ha9)
      .have cp:c≠pp:=Zm e hppH;have co:c≠I:=Zm e hpoH;rw[Zj co];exact s9 _ _ (k8 _ _ (g3 _ _ (s5 _ _ (s4 _ _ e)) (Zm e hst) (Zm e hndH)) cp)
     refine⟨_,U,.inl ⟨U,_,SqL.of hpo8⟩,_,U,tt,_,1,_,U,U,SqT.of (tp8 htt6),U,r2,ot C,U,?_⟩;rcases O with O|O
     .obtain⟨l1,l2⟩:=last r2 H8 (tp8 O) (Z7.refl _);exact .inr ⟨SqT.of (tp8 O),I,_,_,U,U,l1,Y2 (by lia),_,zs++[.ref q],os++[.ref r2],G,U,l2⟩
     .refine .inl ⟨SqL.of (k8 _ _ O ndr2.2.2.1),λS ha9=>?_⟩;obtain⟨l1,l2⟩:=last S (upd H8 S (.tup (ot C))) Za (Zb ha9);exact⟨I,_,_,U,U,l1,Y2 (by lia),_,zs++[.ref q],os++[.ref S],G,U,l2⟩
  .have hle:(bfN nx b i).length=i:=by
    have:¬(i:Int)<((bfN nx b i).length:Int):=λz=>hlt (Qaq z);lia
   refine⟨_,U,_,U,pn,_,U,.inr ⟨SqT.of (s4 _ _ hpn),_,U,pp,_,U,.inl ⟨SqL.of N,λa1 ha1=>⟨_,U,I,_,U,.inl ⟨SqL.of (Zb ha1 _ _ hpo4),λa2 ha2=>⟨Zi8,λm hm=>⟨xj,λp hp=>?_⟩⟩⟩⟩⟩⟩⟩;have q1:=Zb (o:=.tup zs) ha1;have q2:=Zb (o:=.tup os) ha2;have q3:=Zb (o:=.tup [.ref pn,.int 0,.ref a1,.ref a2]) hm;have q4:=Zb (o:=.tup [.ref st,.ref m]) hp;have qq:=q1.trans (q2.trans (q3.trans q4));refine k p st m (bfN nx b i) ws _ ⟨by rw[hle],λj hj=>hgo j (by lia)⟩ Za hst (qq _ _ Y) (hA4.keep (M qq)) ⟨⟨pn,a1,a2,q4 _ _ Za,qq _ _ (s4 _ _ hpn),⟨zs,(q2.trans (q3.trans q4)) _ _ Za,?_,λj r hj=>?_⟩,⟨os,(q3.trans q4) _ _ Za,?_,λj r hj=>?_⟩⟩⟩ (s4.trans qq)
   .rw[hzl,Qab,zh,hle]
   .rw[<-Zd7 hle hgo]at hj;obtain⟨a,g1,g2⟩:=Rz.2 j r hj;exact⟨a,g1,qq _ _ g2⟩
   .rw[hol,Qab,hle]
   .rw[<-Zd8 hle hgo]at hj;obtain⟨a,g1,g2⟩:=Ro.2 j r hj;exact⟨a,g1,qq _ _ g2⟩
 have fin:∀(D:Aw)(H3:Hp),H D=none->D≠st->(∃o,H3=upd (upd H st (.lst [bv])) D o)->sk.dic H3 D [b]->U2 {nx:=λ_ H'=>Q .non H',rt:=Q} [some (.ref pn),some bv,some (.ref f),some (.ref st),some (.ref D),none,none,none] H3:=by
  intro D H3 hndH hne ho hd3;obtain⟨o,rfl⟩:=ho;have hnd1:upd H st (.lst [bv]) D=none:=by rw[Zj hne];exact hndH
  have s3:=s1.trans (Zb (o:=o) hnd1);exact begun D _ hndH (by rw[Zj hne.symm];exact Za) hd3 (SK.keep hbv λb xs e=>s3 _ _ e) s3
 cases sk with
 |int f9 inj=>
  have hbv:bv=.int (f9 b):=hbv;subst hbv;refine .inr λD hnd=>?_;have snd:st≠D:=Zm Za hnd;refine⟨_,U,Za,[(.inl (f9 b),.int 0)],U,by show 1<=15;decide,Zg ?_⟩;have em:x5 [] [((.inl (f9 b):Key),V.int 0)]=nk ([b].map f9):=rfl;rw[em,xl];exact fin D _ (s1.free hnd) snd.symm ⟨_,U⟩ Za
 |key kn=>
  obtain⟨a,rfl,ha⟩:=id hbv;refine .inl λD hnd=>?_;have snd:st≠D:=Zm Za hnd;have sn2:=s1.trans (Zb (o:=.dK []) hnd);refine⟨_,U,κ,_,kn,a,b,U,Za,kn.keep _ _ _ _ (λb xs e=>sn2 _ _ e) ha,λH' n' _ ho=>Zg ?_⟩;obtain⟨o,rfl⟩:=ho;rw[xl]at n' ⊢;exact fin D _ (s1.free hnd) snd.symm ⟨_,U⟩ n'
inductive jJ(pw:Aw):Prop
 |mk(m:Aw)(nm:Ai)(b:Nat)(nx:Ad)(ot:Az)(tr:Bool):vs=[.ref m]->M4 H m nm b nx ot->Wf nm b nx ot tr->Yw H pw Y5 Y6->(∀f (l cs:Aj) H',jA nx b l->cs=Zfb (rnR nx l) (Zem (rnQ ot l)) l.length->Zfc (rnR nx l) cs->Zau (Zem (rnQ ot l)) cs->M4 H' f nm 0 (lsR (rnR nx l) cs) (lsO (rnQ ot l) cs)->Yw H' pw Y5 Y6->Zlx pw H H'->Q (.ref f) H')->jJ pw
def Zhd(K:Af)(r:Aw):Sp:=λvs H Q _=>jJ vs H Q r
theorem Zhe:FnD T.dw P w base 14 (Zhd K t.au):=by
 have G:=GB P base T TB;have I:=kj P base T TB;have C:=qO P base T TB;have D:=WK P base T TB;refine T.dw.F.okC XF (λvs H Q E h=>?_) (λA outer s H vs Q E hr h=>?_)
 .obtain⟨_,_,_,_,_,_,rfl,_⟩:=h;rfl
 .obtain⟨m,nm,b,nx,ot,tr,rfl,M,W,B,k⟩:=h;refine⟨_,@QSs.out _ _ _ (Zc (Zu 1 XF.nd (Z1 Yf (Zc7 (kl:=11) D (hr.mono (by decide)) U T.ae.m T.ae.F.kp T.ae.b U (Z1 Yf (qv 0) Ze) (Z1 Yf (qv 0) Ze) T.aav TB.fw TB.B U U U U (⟨⟨by rfl,by rfl,by rfl,by decide +kernel,by decide +kernel,by decide +kernel,by decide +kernel⟩,by decide +kernel,by decide +kernel,by rfl⟩:Zmg (Zk xT) _ ["machine","found","steps","out","classes","firsts","least_steps","least_out"] ["state"] ["machine"] [0]) (λ_ _ _ _ us hl=>match us,hl with|[_],_=>rfl) (λ_ _ _ _ _ _ _ hrl=>(Z0 (Zi (Z1 (show IxR _ (uN K)from Yf) (Z1 (show IxR _ (uN K)from Yf) (qv 1) Ze) (qv 0)) (Zi (Z1 (show IxR _ (uN K)from Yf) (Z1 (show IxR _ (uN K)from Yf) (qv 1) Ze) (qv 0)) Zd))))) Ze))
    (Zc (Zu 2 XF.nd (Z1 Yf (qv 1) Ze))
    (Zc (Zu 3 XF.nd (Z1 Yf (qv 1) Ze))
    (Zc (Zu 4 XF.nd (Zr T.cb C hr (Zi (qv 2) (Zi (qv 3) Zd))))
    (Zc (Zu 5 XF.nd (Zr T.el I hr (Zi (qv 4) Zd)))
    (Zc (kL (i:=6) XF.nd U U ({}:ZW (Zk xT) _ ["machine","found","steps","out","classes","firsts","least_steps","least_out"] "state" ["classes","steps"] [4,2]) (YG (qv 5)) (λ_ _ _ _=>Xk) (λ_ _ _ _=>(Zr T.br G hr (Zi (Z1 (show IxR _ (uN K)from Yf) (qv 2) (qv 0)) (Zi (qv 1) Zd)))))
    (Zc (kL (i:=7) XF.nd U U ({}:ZW (Zk xT) _ ["machine","found","steps","out","classes","firsts","least_steps","least_out"] "state" ["out"] [3]) (YG (qv 5)) (λ_ _ _ _=>Xk) (λ_ _ _ _=>(Z1 (show IxR _ (uN K)from Yf) (qv 1) (qv 0))))
    (Zf (Zn (Z0 (Zi (Z1 Yf (qv 1) Ze) (Zi Ze (Zi (Z4 Z5 (by rfl) T.ah Yr (Zi (qv 6) Zd)) (Zi (Z4 Z5 (by rfl) T.ah Yr (Zi (qv 7) Zd)) Zd)))))))))))))),?_⟩
  try dsimp only[L2.cxK,L2.cxK2]
  obtain⟨pn,ps,po,hm,hn,R,O⟩:=M.ex;obtain⟨pz,hpz⟩:=B.ex;have tP:∀{b:Aw} {xs:A8},H b=some (.tup xs)->b≠t.au:=λe=>ZY e hpz (λz=>nomatch z);refine⟨_,U,m,_,0,_,U,U,SqT.of hm,U,_,U,m,_,1,_,U,U,SqT.of hm,U,B,λcs f H2 hcs hfz hf hT2 o2 hc=>?_⟩;have t2:∀(b:Aw)(xs:A8),H b=some (.tup xs)->H2 b=some (.tup xs):=λb xs e=>o2 _ _ e (tP e);have hL8:=p8 W.n3;refine⟨Nat,inferInstance,.int (λs:Nat=>(s:Int)) (λa b e=>Int.ofNat.inj e),pn,f,nm,b,.int b,(λs=>nx.getD s []),(λs=>ot.getD s []),List.range nx.length,_,U,t2 _ _ hn,U,Qch.mpr W.b,(λs Z=>⟨by rw[W.row (Qch.mp Z)];exact hL8,by rw[W.or _ (getD_mem (show s<ot.length by rw[W.ol];exact Qch.mp Z))];exact hL8,λx hx=>Qch.mpr (W.nl _ (getD_mem (Qch.mp Z)) x hx)⟩),by rw[Qbk];exact W.le,W.n3,hc,λs sv H1 Q' Z hat sH hQ=>⟨U,?_⟩,λp sts fm l wsl H3 B3 hp hsts0 hsts hA M3 s3=>?_⟩
  .have Z:=Qch.mp Z;have hat:sv=.int s:=hat;subst hat;have th:∀(b:Aw)(xs:A8),H b=some (.tup xs)->hide cs H1 b=some (.tup xs):=λb xs e=>Gj hfz sH (sH _ _ (t2 _ _ e)) (λo z=>nomatch z);obtain⟨pn',ps',po',hm',_,R',O'⟩:=(M.tups th).ex;obtain⟨as1,a1,g1,g2,g3⟩:=yp R' (i:=s) (by rw[Qab];exact Z);obtain⟨as2,a2,Y,f2,f3⟩:=yp O' (i:=s) (by rw[W.ol];exact Z);rw[vE]at g3;refine⟨_,U,m,_,2,_,U,U,SqT.of hm',U,_,U,ps',_,_,_,U,U,SqT.of g1,g2,_,U,m,_,3,_,U,U,SqT.of hm',U,_,U,po',_,_,_,U,U,SqT.of Y,f2,xj,λq hq hcn=>?_⟩;obtain⟨sq,hq2⟩:=Zlc hq hcn;exact hQ q a1 a2 _ _ hq2 (.inl (sq _ _ (of_hide g3).2)) ⟨by unfold q9;rw[Qab],λi k hk=>⟨Gv k,by unfold q9;rw[Qai,hk];rfl,U⟩⟩ (.inl (sq _ _ (of_hide f3).2)) sq
  have B3:=Zlf B3;have M3:M4 H3 fm nm 0 (rnR nx l) (rnQ ot l):=M3;have t3:∀(b:Aw)(xs:A8),H3 b=some (.tup xs)->hide cs H3 b=some (.tup xs):=λb xs e=>Gj hfz s3 e (λo z=>nomatch z);have T3:=hT2 H3 s3;have off3:Zlx t.au H (hide cs H3):=λb o e hb=>by
   rw[ZE (λm=>by rw[hcs b m]at e;cases e)];exact s3 _ _ (o2 _ _ e hb)
  have M3':M4 (hide cs H3) fm nm 0 (rnR nx l) (rnQ ot l):=M3.tups t3;have hp':=t3 _ _ hp;try dsimp only
  generalize hide cs H3=H4 at *;have W1:=Zmz W B3;have hl1:=JS nx l;have hle:=W1.le;have hb1:=W1.b;have C1:=y4 B3;obtain⟨pn4,ps4,po4,hm4,hn4,R4,O4⟩:=M3'.ex;refine⟨p,_,1,_,U,U,SqT.of hp',U,Zg ?_⟩;refine⟨_,U,fm,_,2,_,U,U,SqT.of hm4,U,_,U,fm,_,3,_,U,U,SqT.of hm4,U,_,U,_,U,ps4,po4,rnR nx l,rnQ ot l,Zem (rnQ ot l),U,R4,O4,Zle W1,W1.ol,(λrow h=>⟨by rw[W1.nr row h];exact hL8,W1.nl row h⟩),hb1,by lia,λpc r H5 hpc0 hpc hcl hst hnn hcls hcn s5=>?_⟩;have S:Zfc (rnR nx l) r:=⟨hcl,hst⟩;have F:=xh hnn;have hfl:=vQ r;rw[hl1]at hcn hle;have hcl':r.length=l.length:=by rw[hcl,hl1]
  refine⟨_,U,pc,r.map λc:Nat=>(c:Int),U,by rw[hpc,Qa7];rfl,by rw[Qab];lia,λpf H6 hpf0 Ua s6=>?_⟩;have Ua:H6 pf=some (.lst ((YU r).map Gv)):=Ua;have s56:=s5.trans s6;have fR:∀{i f:Nat},(YU r)[i]?=some f->f<(rnR nx l).length:=λ{i f} h=>by
   rw[<-hcl];exact(Qaf.mp (F.at_ _ _ h).1).1
  have fl:(YU r).length<=1000000:=by lia
  refine Zg ⟨_,U,pf,U,⟨_,SqL.of Ua⟩,Xy (K:=K) (a:=pf) (xs:=(YU r).map Gv) (λi zs H'=>Xo H' zs (((lsR (rnR nx l) r).map q9).take i)/\i<=(YU r).length/\Z7 H6 H') ⟨Xo.nil,Qbe _,Z7.refl _⟩ (λi zs H' h=>?_) (λi zs H' h=>SqL.of (h.2.2 _ _ Ua)) (λi x zs H7 R7 hR hx h=>?_) (λzs H7 h p1 hp1=>?_)⟩
  .rw[h.1.1,Qbp];exact Qa0 (Y2 (by lia))
  .obtain⟨hZ,hi,s7⟩:=h;rw[Qai]at hx;obtain⟨Y,N,rfl⟩:=Qa4.mp hx;have hil:=(Qaf.mp N).1;have L:=fR N;have s47:=s56.trans s7;obtain⟨as1,a1,g1,g2,g3⟩:=yp (R4.same s47) (i:=Y) (by rw[Qab];exact L);rw[vE]at g3;have r8:=W1.nr _ (getD_mem L);refine Zkx ⟨_,U,_,U,ps4,_,_,_,U,U,SqT.of g1,g2,_,U,a1,pc,(rnR nx l).getD Y [],r.map λc:Nat=>(c:Int),U,g3,?_,(λs Z=>?_),by lia,by rw[Qab];lia,λq H8 hq0 hq s8=>hR _ _ ⟨?_,hil,s7.trans s8⟩⟩
   .rw[(s6.trans s7) _ _ hpc,Qa7];rfl
   .rw[Qab,hcl];exact W1.nl _ (getD_mem L) s Z
   .have e1:((lsR (rnR nx l) r).map q9)[i]?=some (q9 (((rnR nx l).getD Y []).map λx=>r.getD x 0)):=by
     unfold lsR;rw[Qai,Qai,N];rfl
    have e2:(((rnR nx l).getD Y []).map λs=>(r.map λc:Nat=>(c:Int)).getD s 0).map V.int=q9 (((rnR nx l).getD Y []).map λx=>r.getD x 0):=by
     unfold q9;rw[Qa7,Qa7];refine Qbs λs _=>?_;exact congrArg V.int (Zen r s)
    rw[e2]at hq;rw[take_snoc e1];exact(hZ.same s8).snoc hq
  obtain⟨hZ,_,s7⟩:=h;have ll:((YU r).map Gv).length=((lsR (rnR nx l) r).map q9).length:=by
   unfold lsR;rw[Qab,Qab,Qab]
  rw[ll,Qb1]at hZ;have u1:=Zb (o:=.lst zs) hp1;have hp1':upd H7 p1 (.lst zs) p1=some (.lst zs):=Za;have hZ1:=hZ.same u1;have s67:=s7.trans u1;try dsimp only
  generalize upd H7 p1 (.lst zs)=H8 at *;have hpf8:=s67 _ _ Ua;refine Zg ⟨_,U,pf,U,⟨_,SqL.of hpf8⟩,Xy (K:=K) (a:=pf) (xs:=(YU r).map Gv) (λi zs H'=>Xo H' zs ((lsO (rnQ ot l) r).take i)/\i<=(YU r).length/\Z7 H8 H') ⟨Xo.nil,Qbe _,Z7.refl _⟩ (λi zs H' h=>?_) (λi zs H' h=>SqL.of (h.2.2 _ _ hpf8)) (λi x zs H9 R9 hR hx h=>?_) (λzs2 H9 h p2 hp2=>?_)⟩
  .rw[h.1.1,Qbp];exact Qa0 (Y2 (by lia))
  .obtain⟨hZ,hi,s9⟩:=h;rw[Qai]at hx;obtain⟨Y,N,rfl⟩:=Qa4.mp hx;have hil:=(Qaf.mp N).1;have L:=fR N;obtain⟨as1,a1,g1,g2,g3⟩:=yp (O4.same ((s56.trans s67).trans s9)) (i:=Y) (by rw[W1.ol];exact L);refine Zkx ⟨_,U,_,U,po4,_,_,_,U,U,SqT.of g1,g2,hR _ _ ⟨?_,hil,s9⟩⟩;have e1:(lsO (rnQ ot l) r)[i]?=some ((rnQ ot l).getD Y []):=by
    unfold lsO;rw[Qai,N];rfl
   rw[take_snoc e1];exact hZ.snoc g3
  obtain⟨hO,_,s9⟩:=h;have ll2:((YU r).map Gv).length=(lsO (rnQ ot l) r).length:=by
   unfold lsO;rw[Qab,Qab]
  rw[ll2,Qb1]at hO;have u2:=Zb (o:=.lst zs2) hp2;have s4z:=(s56.trans s67).trans (s9.trans u2);have hm9:=s4z _ _ hm4;refine Zg ⟨_,U,fm,_,0,_,U,U,SqT.of hm9,U,_,U,p1,_,U,.inl ⟨SqL.of ((s9.trans u2) _ _ hp1'),λa1 ha1=>⟨_,U,p2,_,U,.inl ⟨SqL.of (Zb ha1 _ _ Za),λa2 ha2=>⟨Zi8,λfr L=>?_⟩⟩⟩⟩⟩;have q1:=Zb (o:=.tup zs) ha1;have q2:=Zb (o:=.tup zs2) ha2;have q3:=Zb (o:=.tup [.ref pn4,.int 0,.ref a1,.ref a2]) L;have q:=(q1.trans q2).trans q3;have s4q:=s4z.trans q;refine k fr l r _ B3 hcn S hcls ⟨⟨pn4,a1,a2,Za,s4q _ _ hn4,⟨zs,(q2.trans q3) _ _ Za,(hZ1.same ((s9.trans u2).trans q)).1,(hZ1.same ((s9.trans u2).trans q)).2⟩,⟨zs2,q3 _ _ Za,(hO.same (u2.trans q)).1,(hO.same (u2.trans q)).2⟩⟩⟩ (T3.same s4q) (λb o e hb=>s4q _ _ (off3 b o e hb))
inductive Xl(w:Au)(pw:Aw):Prop
 |mk(tw tn tt:Aw)(ws:A8)(nm:Ai)(o0 o1:V)(B kc:Nat):vs=[.ref tw,.ref tn,.ref tt]->H tw=some (.tup ws)->ws.length<=100->H tn=some (.tup (nm.map V.str))->nm.Nodup->nm.length<=3->H tt=some (.tup [o0,o1])->(∀w∈ws,ym nm w)->Jk ws->gZ ws=1->(∀z:Int,V.int z∈ws->0<=z/\z<2^B)->kc=J2 ws->(B+1)*2^kc<=1000000->Yw H pw Zw Zs->(∀m (l:List (Int×Ak)) H',BfE (nxT nm (YT (2^nm.length) nm) ws (lgB ws)) (0,List.replicate kc 0) l->M4 H' m nm 0 (rnG (nxT nm (YT (2^nm.length) nm) ws (lgB ws)) l) (l.map (otT nm (YT (2^nm.length) nm) ws o0 o1))->Yw H' pw Zw Zs->Zlx pw H H'->Q (.ref m) H')->Xl w pw
def GI(P:Aq)(w:Au)(K:Af)(mg:Ae)(base:Heap)(r:Aw):Sp:=λvs H Q _=>Xl vs H Q w r
theorem GJ:FnD T.ao P w base 14 (GI P w K mg base t.aa):=by
 have G:=WK P base T TB;have Ua:=Za3 P base T TB;have Y:=Za5 P base T TB;have M:=qB P base T TB;have C:=qf P base T TB;have I:=zD P base T TB;have O:=wX P base T TB;refine T.ao.F.okC ZT (λvs H Q E h=>?_) (λA outer s H vs Q E hr h=>?_)
 .obtain⟨_,_,_,_,_,_,_,_,_,rfl,_⟩:=h;rfl
 .obtain⟨tw,tn,tt,r,nm,Z,o1,B,S,rfl,ht,hl,hn,hnd,hn3,hto,hw,he,hst,hB,hkc,hbig,hT,k⟩:=h;refine⟨_,@QSs.out _ _ _ (Zc (Zu 3 ZT.nd (Z4 (wg U) (by rfl) T.pe Zb2 (Zi (Z4 we (by rfl) T.bb (by decide +kernel) (Zi (Zr T.fh O hr (Zi (Zp Z2 (by rfl) T.af Y7 (Zi (qv 1) Zd)) Zd)) Zd)) Zd)))
    (Zc (Zu 4 ZT.nd (Zr T.cu I hr (Zi (qv 1) (Zi (qv 3) Zd))))
    (Zc (Zu 5 ZT.nd (Zr T.bu C hr (Zi (qv 0) Zd)))
    (Zc (qs_def (i:=6) (name:= "step_of") (params:=WR YM) (body:=Xg YM) (scope:=Zk YM) (lpos:=Zw) (qual:=Zs) ZT.nd U (Or.inl U) T.ia TB.bh TB.B U U U U (S0:=Zk ZZ) U (by decide +kernel))
    (Zc (Zu 7 ZT.nd (Z0 (Zi Ze (Zi (Z4 Z5 (by rfl) T.ah Yr (Zi (YH ({}:ZW (Zk ZZ) _ ["words","names","told","letters","columns","last_place","step_of","begin"] "word" [] []) (J4 (qv 0)) (λ_ _ _ _=>(gr (Xx (Zr T.cg M hr (Zi (qv 0) Zd))))) (λ_ _ _ _=>Ze)) Zd)) Zd))))
    (Zf (Zn (Z1 Yf (Zgc (kl:=11) (i:=6) (name:= "step_of") (params:=WR YM) (body:=Xg YM) (scope:=Zk YM) (qual:=Zs) G (hr.mono (by decide)) U T.ae.m T.ae.F.kp T.ae.b U (Zi (qv 1) (Zi (qv 7) (Zi (qv 6) Zd))) U U (⟨J1,by decide +kernel,by decide +kernel,by rfl⟩:Zml (Zk ZZ) _ ["words","names","told","letters","columns","last_place","step_of","begin"] ["state"] ["step","place","reached"] ["words","columns","last_place","letters","told"] [0,4,5,3,2]) (λ_ _ _ _ _ us hl=>match us,hl with|[_],_=>rfl) (λ_ _ _ _ _ _ _ hrl=>(Zc (Zu 1 J1.nd (Yx Y (hrl.mono (by decide)) U T.cf.m T.cf.F.kp T.cf.b .nil JV (Zi (qv 4) (Zi (qv 5) (Zi (Z1 (show IxR _ (uN K)from Yf) (qv 0) Ze) (Zi (Z1 (show IxR _ (uN K)from Yf) (qv 0) Ze) Zd))))))
    (Zc (Zu 2 J1.nd (Zp (xq U) (by rfl) T.lb Zce (Zi (Zl Yj (Z1 (show IxR _ (uN K)from Yf) (qv 0) Ze) Ze) (Zi (qv 6) Zd))))
    (Zc (kL (i:=3) J1.nd U U ({}:ZW (Zk YM) _ ["state","step","place","reached","words","columns","last_place","letters","told"] "letter" ["place","step"] [2,1]) (show QI _ _ _ (Zfg K (Ze8 7))from YG (qv 7)) (λ_ _ _ _=>Xk) (λ_ _ _ _=>(Z0 (Zi (qv 1) (Zi (Yx Ua (hrl.mono (by decide)) U T.bz.m T.bz.F.kp T.bz.b .nil JV (Zi (Z1 (show IxR _ (uN K)from Yf) (qv 2) Ze) (Zi (qv 0) Zd))) Zd)))))
    (Zf (Zn (Z0 (Zi (qv 3) (Zi (YH ({}:ZW (Zk YM) _ ["state","step","place","reached","words","columns","last_place","letters","told"] "letter" ["told","step"] [8,1]) (show QI _ _ _ (Zfg K (Ze8 7))from YG (qv 7)) (λ_ _ _ _=>Xk) (λ_ _ _ _=>(Z1 (show IxR _ (uN K)from Yf) (qv 1) (Zl Wt (Zl gn (Z1 (show IxR _ (uN K)from Yf) (qv 2) Ze) (qv 0)) Ze)))) Zd)))))))))) Ze)))))))),?_⟩
  try dsimp only[L2.cxK,L2.cxK2]
  have h8:=p8 hn3;have e2:((2:Int)^nm.length)=((2^nm.length:Nat):Int):=by rw[Int.natCast_pow];rfl
  have hflat:∀w∈r,YZ w=true/\((∃y,w=.str y)\/∃z:Int,w=.int z):=λw h=>by
   rcases hw w h with⟨y,rfl,_⟩|⟨y,rfl,_⟩|⟨y,rfl,_⟩|⟨z,rfl,_⟩
   .exact⟨U,.inl ⟨y,U⟩⟩
   .exact⟨U,.inl ⟨y,U⟩⟩
   .exact⟨U,.inl ⟨y,U⟩⟩
   .exact⟨U,.inr ⟨z,U⟩⟩
  refine⟨_,U,tn,_,U,.inr (SqT.of hn),nm.length,by rw[Qab];rfl,by lia,_,U,λpr hpr=>⟨pr,2^nm.length,U,by rw[Za,e2],by lia,λtl htl=>Zg ?_⟩⟩;have s1:=Zb (o:=.rng 0 ((2:Int)^nm.length)) hpr;have s2:=s1.trans (Zb (o:=.lst ((List.range (2^nm.length)).map λi:Nat=>V.int i)) htl);have htl2:=Za (H:=upd H pr (.rng 0 ((2:Int)^nm.length))) (a:=tl) (o:=.lst ((List.range (2^nm.length)).map λi:Nat=>V.int i));have htlH:H tl=none:=s1.free htl;try dsimp only
  generalize upd (upd H pr (.rng 0 ((2:Int)^nm.length))) tl (.lst ((List.range (2^nm.length)).map λi:Nat=>V.int i))=H2 at *;refine⟨_,U,_,U,tn,tl,nm,2^nm.length,U,s2 _ _ hn,hnd,by lia,htl2,by lia,λdv kvs H3 hdv0 hdv hcol s3=>Zg ?_⟩;have s23:=s2.trans s3;generalize YT (2^nm.length) nm=cols at *;refine⟨_,U,tw,r,U,s23 _ _ ht,by lia,λw h=>(hflat w h).2,λL H4 hL1 hL2 s4=>Zg ?_⟩;rw[<-Ziu hL1 hL2]at k;have s24:=s23.trans s4;have hLB:L<=B:=by
   rw[Ziu hL1 hL2];exact Zeb hB
  have hdv4:=s4 _ _ hdv;have htl4:=(s3.trans s4) _ _ htl2;refine⟨hT.same s24,λf c' oc ctv doc H5 hf0 hf hc' hoc hT5 o5=>?_⟩;obtain⟨pz,hpz⟩:=(hT.same s24).ex;have o5':∀{b:Aw} {o:HO},H4 b=some o->(∀ps,o≠.tbl ps)->H5 b=some o:=λ{b o} e h=>o5 b o e λz=>by
   rw[z,hpz]at e;exact h _ (Option.some.inj e).symm
  have t5:∀{b:Aw} {xs:A8},H b=some (.tup xs)->H5 b=some (.tup xs):=λe=>o5' (s24 _ _ e) (λ_ z=>nomatch z);have hdv5:=o5' hdv4 (λ_ z=>nomatch z);have htl5:=o5' htl4 (λ_ z=>nomatch z);refine⟨_,U,tw,U,⟨_,SqT.of (t5 ht)⟩,Wj (K:=K) (a:=tw) (xs:=r) (λi zs H'=>zs=List.replicate (J2 (r.take i)) (.int 0)/\H'=H5) ⟨U,U⟩ (λi zs H' h=>?_) (λi zs H' h=>by rw[h.2];exact SqT.of (t5 ht)) (λi x zs H6 R hR hx h=>?_) (λzs H6 h pl hpl=>?_)⟩
  .rw[h.1,Qay];have:J2 (r.take i)<=(r.take i).length:=Qes _ _;rw[Qbp]at this;exact Qa0 (Z3 (by lia))
  .obtain⟨rfl,rfl⟩:=h;refine⟨_,U,x,U,(hflat x (Qat hx)).1,_,U,?_⟩;have er:J2 (r.take (i+1))=J2 (r.take i)+if inV x (allR.map V.str)=true then 1 else 0:=by
    rw[take_snoc hx];unfold J2;rw[Qdt,Qag,Qcl];split<;>rfl
   rw[er]at hR;refine jO (λhb=>?_) (λhb=>?_)
   .rw[Qa5 hb,Qf7]at hR;exact hR _ _ ⟨U,U⟩
   .rw[Qaw hb]at hR;exact hR _ _ ⟨U,U⟩
  obtain⟨rfl,rfl⟩:=h;rw[Qb1,<-hkc];refine⟨pl,_,U,.inl ⟨SqL.of Za,λtb htb=>⟨xj,λtg htg=>Zg ?_⟩⟩⟩;have q1:=Zb (o:=.lst (List.replicate S (.int 0))) hpl;have q2:=Zb (o:=.tup (List.replicate S (.int 0))) htb;have q3:=Zb (o:=.tup [.int 0,.ref tb]) htg;have s6:=q1.trans (q2.trans q3);have htb6:=q3 _ _ (Za (H:=upd H6 pl (.lst (List.replicate S (.int 0)))) (a:=tb) (o:=.tup (List.replicate S (.int 0))));have htg6:=Za (H:=upd (upd H6 pl (.lst (List.replicate S (.int 0)))) tb (.tup (List.replicate S (.int 0)))) (a:=tg) (o:=.tup [.int 0,.ref tb]);try dsimp only
  generalize upd (upd (upd H6 pl (.lst (List.replicate S (.int 0)))) tb (.tup (List.replicate S (.int 0)))) tg (.tup [.int 0,.ref tb])=H7 at *;refine⟨_,U,_,U,_,U,f,c',oc,ctv,doc,U,s6 _ _ hf,s6 _ _ hc',hoc,λcs H8 hcs0 hcsF o8 hcall=>?_⟩;have hU:∀s∈uni S (L+1),(nxT nm cols r L s).length<=8/\(otT nm cols r Z o1 s).length<=8/\∀x∈nxT nm cols r L s,x∈uni S (L+1):=λs hs=>⟨by unfold nxT;rw[Qab,Qbk];exact h8,by unfold otT;rw[Qab,Qbk];exact h8,yy hw hkc hs⟩;have t8:∀{b:Aw} {xs:A8},H b=some (.tup xs)->H8 b=some (.tup xs):=λe=>o8 _ _ (s6 _ _ (t5 e));have hUl:(uni S (L+1)).length<=1000000:=by
   rw[yw];exact Qa1 (Qey _ (by lia)) hbig
  refine⟨Int×Ak,_,.key knQ,tn,f,nm,(0,List.replicate S 0),.ref tg,nxT nm cols r L,otT nm cols r Z o1,uni S (L+1),_,U,t8 hn,⟨tg,U,tb,o8 _ _ htg6,by rw[o8 _ _ htb6,List.map_replicate]⟩,JR.mpr ⟨0,by lia,U,Xc.mpr ⟨Qay,λx hx=>.inl (Qe9 hx)⟩⟩,hU,hUl,hn3,hcall,λs sv H9 Q' hs hat s9 hQ=>⟨U,?_⟩,λp sts m l wsl H9 B9 hp hsts0 hsts hA M9 s9=>?_⟩
  .obtain⟨a,rfl,tk,ha,htk⟩:=hat;have hk9:∀{b:Aw} {u:HO},H9 b=some u->(∀o,u≠XS o)->hide cs H9 b=some u:=λe h=>Gj hcsF s9 e h;have t9:∀{b:Aw} {xs:A8},H9 b=some (.tup xs)->hide cs H9 b=some (.tup xs):=λe=>hk9 e (λ_ z=>nomatch z);obtain⟨pn,hp1,hp2,hp3⟩:=JR.mp hs;obtain⟨sp,ks⟩:=s;have hp2:sp=(pn:Int):=hp2;subst hp2;obtain⟨hkl,hkb⟩:=Xc.mp hp3;have hkl:ks.length=S:=hkl;have ha':=t9 ha;have htk':=t9 htk;have hln:(XA nm cols pn ks r).1.length=1:=by rw[yn r hw,hst]
   have hrm:(XA nm cols pn ks r).2.length=S:=by rw[yx r hw,hkc]
   obtain⟨o,lt,hstp⟩:∃o lt,XA nm cols pn ks r=([o],lt):=by
    generalize XA nm cols pn ks r=q at hln;obtain⟨q1,q2⟩:=q
    match q1,hln with
    |[o],_=>exact⟨o,q2,U⟩
   have hltl:lt.length=S:=by rw[hstp]at hrm;exact hrm
   have hsS:Zlw nm cols r ((pn:Int),ks)=([o],lt):=hstp;refine⟨_,U,_,U,_,U,a,_,0,_,U,U,SqT.of ha',U,_,U,a,_,1,_,U,U,SqT.of ha',U,tw,dv,tk,nm,r,kvs,cols,pn,ks,o,lt,U,t9 (s9 _ _ (t8 ht)),hl,hk9 (s9 _ _ (o8 _ _ (s6 _ _ hdv5))) (λ_ z=>nomatch z),hcol,htk',hw,he,hstp,by rw[hltl];show S<=ks.length;lia,λta la H10 hta0 hta hla s10=>Zg ?_⟩;refine⟨_,U,a,_,0,_,U,U,SqT.of (s10 _ _ ha'),U,_,_,U,U,_,U,_,_,U,Zg ?_⟩;have em:(if(L:Int)<(pn:Int)+1 then(L:Int)else(pn:Int)+1)=min ((pn:Int)+1) (L:Int):=by split<;>lia
   try dsimp only
   rw[em];have N:H10 tl=some (.lst ((List.range (2^nm.length)).map λi:Nat=>V.int i)):=s10 _ _ (hk9 (s9 _ _ (o8 _ _ (s6 _ _ htl5))) (λ_ z=>nomatch z));have hxs:((List.range (2^nm.length)).map λi:Nat=>V.int i).length=2^nm.length:=by rw[Qab,Qbk]
   have hnx:nxT nm cols r L ((pn:Int),ks)=(List.range (2^nm.length)).map λl=>(min ((pn:Int)+1) (L:Int),lt.map λc=>bt c l):=by
    unfold nxT;rw[hsS]
   have hot:otT nm cols r Z o1 ((pn:Int),ks)=(List.range (2^nm.length)).map λl=>if bt o l=1 then o1 else Z:=by
    unfold otT;rw[hsS];rfl
   refine⟨_,U,tl,U,⟨_,SqL.of N⟩,Xy (K:=K) (a:=tl) (xs:=(List.range (2^nm.length)).map λi:Nat=>V.int i) (λi zs H'=>StA (.key knQ) H' ((nxT nm cols r L ((pn:Int),ks)).take i) zs/\i<=2^nm.length/\Z7 H10 H') ⟨⟨U,λi k hk=>by cases hk⟩,Qbe _,Z7.refl _⟩ (λi zs H' h=>?_) (λi zs H' h=>SqL.of (h.2.2 _ _ N)) (λi x zs H11 R hR hx h=>?_) (λzs H11 h rl hrl=>Zg ?_)⟩
   .rw[h.1.1,Qbp];exact Qa0 (Z3 (by lia))
   .obtain⟨hA,hi,s11⟩:=h;have hil:i<2^nm.length:=by rw[<-hxs];exact(Qaf.mp hx).1
    rw[xf hil]at hx;cases hx;refine Zkx ⟨_,U,_,U,ta,_,1,_,U,U,SqT.of (s11 _ _ hta),U,_,U,la,lt,i,U,s11 _ _ hla,?_,by lia,λt5 H12 ht50 ht5 s12=>⟨xj,λq hq=>hR _ _ ⟨?_,hil,s11.trans (s12.trans (Zb hq))⟩⟩⟩
    .have:J2 r<=r.length:=Qes _ _;lia
    .have en:(nxT nm cols r L ((pn:Int),ks))[i]?=some (min ((pn:Int)+1) (L:Int),lt.map λc=>bt c i):=by rw[hnx,xf hil]
     rw[take_snoc en];refine(hA.keep (H':=upd H12 q (.tup [.int (min ((pn:Int)+1) (L:Int)),.ref t5])) λb xs e=>Zb hq _ _ (s12 _ _ e)).snoc ⟨q,U,t5,Za,Zb hq _ _ ht5⟩
   obtain⟨hA,_,s11⟩:=h;rw[hxs,Qcq (by rw[hnx,Qab,Qbk];exact Qah _)]at hA;have s12:=Zb (o:=.lst zs) hrl;have hrl12:=Za (H:=H11) (a:=rl) (o:=.lst zs);try dsimp only
   generalize upd H11 rl (.lst zs)=H12 at *;have D:=s11.trans s12;have htt12:H12 tt=some (.tup [Z,o1]):=D _ _ (s10 _ _ (t9 (s9 _ _ (t8 hto))));refine⟨_,U,_,U,tl,U,⟨_,SqL.of (D _ _ N)⟩,comp_map (xs:=(List.range (2^nm.length)).map λi:Nat=>V.int i) (fI λc=>if bt o c.toNat=1 then o1 else Z) (SqL.of (D _ _ N)) (by rw[hxs];exact Qa0 (Z3 (by lia))) (λv hv R hR=>?_) (λq hq=>?_)⟩
   .obtain⟨l,_,rfl⟩:=Qap.mp hv;refine⟨_,U,_,U,ta,_,0,_,U,U,SqT.of (D _ _ hta),U,_,U,_,_,U,U,Qfm l,_,_,U,U,tt,_,_,fI (λc=>if bt o c.toNat=1 then o1 else Z) (V.int l),U,U,SqT.of htt12,?_,hR⟩;rw[and_1,Qca];show atI [Z,o1] (bt o l)=some (if bt o (l:Int).toNat=1 then o1 else Z);rw[Qca];rcases Y9 o l with e|e<;>rw[e]<;>rfl
   .refine⟨xj,λt0 ht0 hcn=>?_⟩;have ef:((List.range (2^nm.length)).map λi:Nat=>V.int i).map (fI λc=>if bt o c.toNat=1 then o1 else Z)=otT nm cols r Z o1 ((pn:Int),ks):=by
     rw[hot,Qa7];refine Qbs λl _=>?_;show(if bt o (l:Int).toNat=1 then o1 else Z)=_;rw[Qca]
    rw[ef]at ht0 hcn ⊢;have s13:=Zb (o:=.lst (otT nm cols r Z o1 ((pn:Int),ks))) hq;have s14:=s13.trans (Zb (o:=.tup [.ref rl,.ref q]) ht0);have hsame:=s10.trans (D.trans s14);obtain⟨u1,u2,u3⟩:=Zap hsame hcn;have hrl14:=s14 _ _ hrl12;have hq14:=Zb (o:=.tup [.ref rl,.ref q]) ht0 _ _ (Za (H:=H12) (a:=q) (o:=.lst (otT nm cols r Z o1 ((pn:Int),ks))));exact hQ t0 rl q zs _ (u2 _ _ Za) (.inr ⟨u2 _ _ hrl14,u3 _ _ hrl14 (s10.free (s11.free hrl))⟩) (hA.keep λb xs e=>u2 _ _ ((s12.trans s14) _ _ e)) (.inr ⟨u2 _ _ hq14,u3 _ _ hq14 (s10.free (D.free hq))⟩) u1
  .have keep9:Z7 H7 (hide cs H9):=λb o e=>by
    rw[ZE λm=>by rw[hcs0 b m]at e;cases e];exact s9 _ _ (o8 _ _ e)
   have tk9:∀(b:Aw)(xs:A8),H9 b=some (.tup xs)->hide cs H9 b=some (.tup xs):=λb xs e=>Gj hcsF s9 e (λ_ z=>nomatch z);refine⟨p,_,1,_,U,U,SqT.of (tk9 _ _ hp),U,k m l (hide cs H9) B9 ?_ ((hT5.same s6).same keep9) λb o e hb=>keep9 _ _ (s6 _ _ (o5 _ _ (s24 _ _ e) hb))⟩;obtain⟨pn,ps,po,h1,h2,h3,h4⟩:=M9.ex;exact⟨⟨pn,ps,po,tk9 _ _ h1,tk9 _ _ h2,jC h3 tk9,jC h4 tk9⟩⟩
inductive XN(w:Au)(pw:Aw):Prop
 |mk(tw tn:Aw)(ws:A8)(nm:Ai)(B kc:Nat):vs=[.ref tw,.ref tn]->H tw=some (.tup ws)->ws.length<=100->H tn=some (.tup (nm.map V.str))->nm.Nodup->nm.length<=3->(∀w∈ws,ym nm w)->Jk ws->gZ ws=1->(∀z:Int,V.int z∈ws->0<=z/\z<2^B)->kc=J2 ws->(B+1)*2^kc<=1000000->Yw H pw Zw Zs->(∀m (l:List (Int×Ak)) H',BfE (nxT nm (YT (2^nm.length) nm) ws (lgB ws)) (0,List.replicate kc 0) l->M4 H' m nm 0 (rnG (nxT nm (YT (2^nm.length) nm) ws (lgB ws)) l) (l.map (otT nm (YT (2^nm.length) nm) ws (.bl false) (.bl true)))->Yw H' pw Zw Zs->Zlx pw H H'->Q (.ref m) H')->XN w pw
def qQ(P:Aq)(w:Au)(K:Af)(mg:Ae)(base:Heap)(r:Aw):Sp:=λvs H Q _=>XN vs H Q w r
theorem qR:FnD T.ay P w base 15 (qQ P w K mg base t.aa):=by
 refine T.ay.go qL ?_;rintro N A outer s H _ Q E hr ⟨tw,tn,ws,nm,B,Z,rfl,Y,hl,M,I,G,hw,he,hst,hB,L,r,Ua,k⟩;refine⟨_,(Zf (Zn (Yx (GJ P base T TB) (hr.mono (by decide)) U T.ao.m T.ao.F.kp T.ao.b .nil JV (Zi (qv 0) (Zi (qv 1) (Zi (Z0 (Zi XT (Zi XT Zd))) Zd)))))),⟨_,U,_,U,by decide,λO D=>?_⟩⟩;have C:=Zb (o:=.tup [.bl false,.bl true]) D;exact⟨tw,tn,O,ws,nm,_,_,B,Z,U,C _ _ Y,hl,C _ _ M,I,G,Za,hw,he,hst,hB,L,r,Ua.same C,λm l H' h1 h2 S h4=>k m l H' h1 h2 S λb o e hb=>h4 _ _ (C _ _ e) hb⟩
inductive X6(w:Au)(pw pl:Aw):Prop
 |mk(t:Aw)(ws:A8):vs=[.ref t]->H t=some (.tup ws)->(∀w∈ws,qz w)->ws.length<=60->(∀ms,NmC ws ms->Xj ms ws)->Yw H pw Zw Zs->Yw H pl Y5 Y6->(∀f ms nx ot H',NmC ws ms->M4 H' f ms 0 nx ot->Wf ms 0 nx ot true->Tells ws ms nx ot->Yw H' pw Zw Zs->Yw H' pl Y5 Y6->wL pw pl H H'->Q (.ref f) H')->X6 w pw pl
def qh(P:Aq)(w:Au)(K:Af)(mg:Ae)(base:Heap)(r pl:Aw):Sp:=λvs H Q _=>X6 vs H Q w r pl
theorem qi:FnD T.aq P w base 16 (qh P w K mg base t.aa t.au):=by
 refine T.aq.go qe ?_;rintro cdv A outer s H _ Q E Z ⟨tw,O,rfl,ht,hw,hl,hC,TW,TL,k⟩;refine⟨_,(Zf (Zn (Yx (Zhe P base T TB) (Z.mono (by decide)) U T.dw.m T.dw.F.kp T.dw.b .nil JV (Zi (Yx (qR P base T TB) (Z.mono (by decide)) U T.ay.m T.ay.F.kp T.ay.b .nil JV (Zi (qv 0) (Zi (Yx (gh P base T TB) (Z.mono (by decide)) U T.bq.m T.bq.F.kp T.bq.b .nil JV (Zi (qv 0) Zd)) Zd))) Zd)))),?_⟩;have G:=T.fq;refine⟨_,U,_,U,tw,O,U,ht,hw,hl,λtn H1 r hn0 hn C hp hs=>?_⟩;have S:=hC r ⟨hp,hs⟩;have f:=S.ty.facts;refine⟨tw,tn,O,r,10,_,U,C _ _ ht,S.ln,hn,S.nd,S.n3,S.wc,f.2.1,f.2.2,S.iz,U,S.big,TW.same C,λm l H2 B M Ua o2=>?_⟩;have MC:Znc r O l H2 m:=⟨B,M⟩;have W1:=MC.wf S;obtain⟨pz,hz⟩:=(TW.same C).ex;have D:=(TL.same C).other G ⟨pz,hz⟩ o2;refine⟨m,r,0,_,_,true,U,M,W1,D,λg lf cs H3 hB Y St N Mg I o3=>?_⟩;have L:Lst r 0 _ _ true lf cs:=⟨W1,hB,Y,St,N⟩;refine k g r _ _ H3 ⟨hp,hs⟩ Mg L.W2 (λW ls hW hl hx=>?_) (Ua.other G.symm D.ex o3) I λb o e h1 h2=>o3 _ _ (o2 _ _ (C _ _ e) h1) h2;obtain⟨b,e1,e2⟩:=Zek S MC hW (by lia) hx;rw[Qcq (by lia)]at e1;exact⟨b,e1,by rw[<-Zeo L.al.bis L.W.nr L.W2.nr L.al.b hx];exact e2⟩
inductive jK(w:Au)(pw pl:Aw):Prop
 |mk(t:Aw)(ws:A8)(W:Nat):vs=[.ref t,.int W]->1<=W->W<=60->H t=some (.tup ws)->(∀w∈ws,qz w)->ws.length<=60->(∀ms,NmC ws ms->Xj ms ws)->Yw H pw Zw Zs->Yw H pl Y5 Y6->(∀ms H',NmC ws ms->Yw H' pw Zw Zs->Yw H' pl Y5 Y6->wL pw pl H H'->Q (.int ((SQ (2^W) ms.length λvs=>if WQ (2^W) (kF ms vs) ws []=[.bl true]then 1 else 0:Nat):Int)) H')->jK w pw pl
def Zhf(P:Aq)(w:Au)(K:Af)(mg:Ae)(base:Heap)(r pl:Aw):Sp:=λvs H Q _=>jK vs H Q w r pl
theorem Zhg:FnD T.gb P w base 17 (Zhf P w K mg base t.aa t.au):=by
 refine T.gb.go Zg9 ?_;rintro cdv A outer s H _ Q E O ⟨tw,ws,W,rfl,D,Ua,ht,hw,hl,L,TW,Z,k⟩;refine⟨_,(Zf (Zn (Z1 Zq (Yx (kr P base T TB) (O.mono (by decide)) U T.bg.m T.bg.F.kp T.bg.b .nil JV (Zi (Yx (qi P base T TB) (O.mono (by decide)) U T.aq.m T.aq.F.kp T.aq.b .nil JV (Zi (qv 0) Zd)) (Zi (qv 1) Zd))) (Zl Xt (qv 1) Ze)))),⟨_,U,tw,ws,U,ht,hw,hl,L,TW,Z,λf C nx ot H1 N M S hT G I Y=>⟨_,U,f,C,nx,ot,W,U,M,S,Ua,λp H2 hp r=>⟨_,U,_,_,U,U,?_⟩⟩⟩⟩;have ec:=Zav (L C N) λls h1 h2=>hT W ls D h1 h2;obtain⟨W,rfl⟩:∃W',W=W'+1:=⟨W-1,by lia⟩;refine⟨p,_,W,_,U,?_,SqL.of hp,Yv ?_,k C H2 N (G.same r) (I.same r) λb o e h1 h2=>r _ _ (Y _ _ e h1 h2)⟩
 .grind
 .grind
inductive uG(K:Af)(pl pw:Aw):Prop
 |mk(a:Aw)(ns:Ak):vs=[.ref a]->SqL K H a (ns.map V.int)->ns.length<=63->Yw H pl Y5 Y6->Yw H pw Zw Zs->(∀H',Q (.bl true) H')->uG K pl pw
def sp_law(K:Af)(pl r:Aw):Sp:=λvs H Q _=>uG vs H Q K pl r
theorem ok_law:FnD T.aag P w base 18 (sp_law K t.au t.aa):=by
 have Y:=km P base T TB;have G_count:=Zhg P base T TB;have G:=yH P base T TB;have C:=jf P base T TB;have Z:=ko P base T TB;have I:=yG P base T TB;have O:=kz P base T TB;have Ua:=kx P base T TB;have D:=Xp P base T TB;refine T.aag.go W8 ?_;rintro cdv A outer s H _ Q E hr ⟨a,ns,rfl,hS,h63,TL,TW,k⟩;have hu:=zH hr;refine⟨_,(Zc (Zu 1 W8.nd (Zr T.ag D hr (Zi (qv 0) (Zi Ze Zd))))
   (Zc (Zu 2 W8.nd (Zr T.ff Ua hr (Zi (qv 0) (Zi Ze (Zi (Zl ZO (qv 1) Ze) Zd)))))
   (Zc (Zu 3 W8.nd (Z1 Zq (ZA (Zi Ze (Zi Ze (Zi Ze (Zi Ze Zd))))) (Zp Z2 (by rfl) T.af Y7 (Zi (qv 2) Zd))))
   (Zc (Zu 4 W8.nd (ZA (Zi (Z1 Zq (ZA (Zi Ze (Zi Ze (Zi Ze (Zi Ze Zd))))) (Zp Z2 (by rfl) T.af Y7 (Zi (qv 2) Zd))) (Zi Ze Zd))))
   (Zc (Zu 5 W8.nd (Z1 Zq (ZA (Zi Ze (Zi Ze (Zi Ze Zd)))) (Zl ZO (Zl ZH (qv 1) Ze) Ze)))
   (Zc (ZJ (Zo Ym (qv 5) Ze (Zz _))
   (Zf (Zu 4 W8.nd (ZA (Zi Ze (Zi Ze Zd))))) Zx)
   (Zc (Zu 6 W8.nd (Zr T.fg O hr (Zi (qv 0) (Zi Ze (Zi (qv 2) (Zi (qv 3) (Zi (qv 4) (Zi (qv 5) (Zi XT Zd)))))))))
   (Zc (ZJ (GL (qm (Zo Ym (Zl ZO (Zl ZH (qv 1) Ze) Ze) Ze (Zz _)) (WT (Zo (kR (jP hr)) (qv 2) (ZA Zd) (Zz _)))))
   (Zf (Zu 6 W8.nd (Zr T.dt I hr (Zi (qv 0) (Zi Ze (Zi (qv 2) Zd)))))) Zx)
   (Zc (Zu 7 W8.nd (Zr T.du G hr (Zi (qv 6) (Zi (Zr T.dm C hr (Zi (qv 6) (Zi (Zr T.eu Z hr (Zi (qv 6) Zd)) Zd))) (Zi Ze Zd)))))
   (Zc (YD Qbh U (YG (ZA (Zi Ze (Zi Ze (Zi (Zl Yj Ze (Zl ZO (Zl ZH (qv 1) Ze) Ze)) (Zi (Zl Yj Ze (Zl ZO (Zl ZH (qv 1) Ze) Ze)) (Zi Ze Zd))))))) (Xh 8 W8.nd)
   (Zc (Zu 9 W8.nd (Zr T.gb G_count hr (Zi (qv 6) (Zi (qv 8) Zd))))
   (Zf (ZJ (GL (Zb3 (Zh3 (Xx (Zr T.et Y hr (Zi (qv 9) Zd)))) (yX (Zo Zfj (qv 9) (Z1 Zq (qv 7) (Zl Xt (qv 8) Ze)) (Zz _)))))
   (Zf (Zn XT)) Zx))))
   (Zf (Zn XT)))))))))))),?_⟩
 try dsimp only[L2.cxK,L2.cxK2]
 refine⟨_,U,a,ns,0,U,hS,h63,by lia,λr H1 r0 r1 s1=>Zg ?_⟩;have hS1:=Gz hS s1;refine⟨_,U,_,U,_,_,U,U,(by show(0:Int)<4;decide),a,ns,1,(r%4).toNat,by rw[Qe5 (Qb6 _ (by decide))];rfl,hS1,h63,by lia,by lia,λpn nm H2 hpn hnd hl hn s2=>Zg ?_⟩;have s12:=s1.trans s2;have hn3:nm.length<=3:=by lia
 have pick:∀{l:A8} {b:Int},l.length=4->(∀v∈l,∃z:Nat,v=.int z/\1<=z/\z<=24)->∃z:Nat,atI l ((nm.map V.str).length:Int)=some (.int z)/\1<=z/\z<=24:=λ{l b} hl h=>by
  have hi:(nm.map V.str).length<l.length:=by rw[Qab];lia
  obtain⟨z,e,h1,h2⟩:=h _ (Qbi hi);exact⟨z,Yv (by rw[Qac hi,e]),h1,h2⟩
 obtain⟨mo,emo,mo1,mo24⟩:=pick (l:=[V.int 24,V.int 24,V.int 24,V.int 14]) (b:=0) U λv hv=>by
  simp only[Qas,Qbq,Qe1]at hv;rcases hv with rfl|rfl|rfl|rfl
  .exact⟨24,U,by decide,by decide⟩
  .exact⟨24,U,by decide,by decide⟩
  .exact⟨24,U,by decide,by decide⟩
  .exact⟨14,U,by decide,by decide⟩
 obtain⟨k0,ek0,k01,k03⟩:∃k0:Int,atI [V.int 3,V.int 3,V.int 3,V.int 2] ((nm.map V.str).length:Int)=some (.int k0)/\0<=k0/\k0<=3:=by
  have hi:(nm.map V.str).length<4:=by rw[Qab];lia
  generalize (nm.map V.str).length=n at *;rcases(by lia:n=0\/n=1\/n=2\/n=3)with rfl|rfl|rfl|rfl
  .exact⟨3,U,by decide,by decide⟩
  .exact⟨3,U,by decide,by decide⟩
  .exact⟨3,U,by decide,by decide⟩
  .exact⟨2,U,by decide,by decide⟩
 obtain⟨tp,etp,tp0,tp1⟩:∃tp:Int,atI [V.int 16,V.int 16,V.int 1000] (r/8%3)=some (.int tp)/\1<=tp/\tp<=1000:=by
  rcases(by lia:r/8%3=0\/r/8%3=1\/r/8%3=2)with e|e|e<;>rw[e]
  .exact⟨16,U,by decide,by decide⟩
  .exact⟨16,U,by decide,by decide⟩
  .exact⟨1000,U,by decide,by decide⟩
 refine⟨Zi8,λl1 hl1=>⟨_,U,pn,_,U,.inl (SqL.of (Zb hl1 _ _ hpn)),l1,_,_,_,U,U,SqL.of Za,emo,Zg ?_⟩⟩;have t1:=Zb (o:=.lst [V.int 24,V.int 24,V.int 24,V.int 14]) hl1;generalize upd H2 l1 (.lst [V.int 24,V.int 24,V.int 24,V.int 14])=H3 at *;refine⟨Zi8,λl2 hl2=>⟨_,U,pn,_,U,.inl (SqL.of (Zb hl2 _ _ (t1 _ _ hpn))),l2,_,_,_,U,U,SqL.of Za,ek0,xj,λlf hlf=>Zg ?_⟩⟩;have t2:=t1.trans (Zb (o:=.lst [V.int 3,V.int 3,V.int 3,V.int 2]) hl2);have hfn:H2 lf=none:=t2.free hlf;have f4:=Za (H:=upd H3 l2 (.lst [V.int 3,V.int 3,V.int 3,V.int 2])) (a:=lf) (o:=.lst [V.int k0,V.int 2]);have t3:=t2.trans (Zb (o:=.lst [V.int k0,V.int 2]) hlf);generalize upd (upd H3 l2 (.lst [V.int 3,V.int 3,V.int 3,V.int 2])) lf (.lst [V.int k0,V.int 2])=H4 at *;refine⟨k4,λl3 hl3=>⟨_,U,_,_,U,U,.of (by decide) (by decide),_,_,U,U,(by show(0:Int)<3;decide),l3,_,_,_,U,U,SqL.of Za,etp,Zg ?_⟩⟩;have f5:=Zb (o:=.lst [V.int 16,V.int 16,V.int 1000]) hl3 _ _ f4;have t4:=t3.trans (Zb (o:=.lst [V.int 16,V.int 16,V.int 1000]) hl3);generalize upd H4 l3 (.lst [V.int 16,V.int 16,V.int 1000])=H5 at *;try dsimp only
 show Yl (Zm5 _ _ _) _ _ _ _;refine qW (λσ H'=>∃(f:Aw)(k0:Int),σ=[some (.ref a),some (.int r),some (.ref pn),some (.int mo),some (.ref f),some (.int tp),none,none,none,none]/\H2 f=none/\H' f=some (.lst [.int k0,.int 2])/\0<=k0/\k0<=3/\Z7 H2 H') (λN hN=>?_) ?_
 .refine⟨_,U,U,_,U,?_⟩
  by_cases e:V.int tp=V.int 1000
  .rw[Qaq e];exact Yp ⟨xj,λf hf=>Zg (hN _ _ ⟨f,2,U,t4.free hf,Za,by decide,by decide,t4.trans (Zb hf)⟩)⟩
  .rw[Qan e];exact ZK (hN _ _ ⟨lf,k0,U,hfn,f5,k01,k03,t4⟩)
 rintro σ H6 ⟨f,k0,rfl,hf,f6,k01,k03,t6⟩;have nef:∀{b:Aw} {o:HO},H2 b=some o->b≠f:=λe z=>by rw[z,hf]at e;cases e
 refine⟨_,U,_,U,_,U,_,U,_,U,a,pn,f,ns,4,nm,mo,tp,k0,2,U,?_,h63,by lia,mo24,mo1,t6 _ _ hpn,hn3,λy hy=>(hn y hy).k,f6,k01,by decide,by lia,nef hpn,tp0,tp1,λwa L H7 hwa hwl hty hrm s7=>Zg ?_⟩
 .rcases hS with(z|⟨o,z⟩)|z
  .exact .inl ⟨.inl (t6 _ _ (s12 _ _ z)),nef (s12 _ _ z)⟩
  .exact .inl ⟨.inr ⟨o,t6 _ _ (s12 _ _ z)⟩,nef (s12 _ _ z)⟩
  .exact .inr (.inr z)
 have s07:Z7 H H7:=λb o e=>s7 _ _ (nef (s12 _ _ e)) (t6 _ _ (s12 _ _ e));have n7:=s7 _ _ (nef hpn) (t6 _ _ hpn);have hz:(0:Int)<2:=by decide
 have hk:∀z∈nm,z∉Z8:=λy hy=>(hn y hy).k
 try dsimp only
 show Yl (Zm5 _ _ _) _ _ _ _;refine qW (λσ H'=>∃(wa:Aw)(L:A8),σ=[some (.ref a),some (.int r),some (.ref pn),some (.int mo),some (.ref f),some (.int tp),some (.ref wa),none,none,none]/\H' wa=some (.tup L)/\L.length<=40/\TyR nm L [true]/\J2 L<=15/\Z7 H H') (λN hN=>?_) ?_
 .have no:∀{H':Hp},Z7 H7 H'->N [some (.ref a),some (.int r),some (.ref pn),some (.int mo),some (.ref f),some (.int tp),some (.ref wa),none,none,none] H':=λs=>hN _ _ ⟨wa,L,U,s _ _ hwa,by lia,hty,by lia,s07.trans s⟩
  refine⟨_,U,_,_,U,U,.of (by decide) (by decide),_,_,U,U,hz,U,_,U,?_⟩
  by_cases e:V.int (r/4%2)=V.int 0
  .rw[Qaq e];refine Yp ⟨_,U,Za6,λe he=>⟨pn,e,_,_,U,U,SqL.of (Zb he _ _ n7),SqL.of Za,Qb2.mpr λv hv=>(by obtain⟨y,_,rfl⟩:=Qap.mp hv;rfl),U,_,U,?_⟩⟩;cases nm with
   |nil=>exact ZK (no (Zb he))
   |cons y ms=>exact Yp ⟨_,U,_,U,a,pn,ns,4,y::ms,U,Gz hS (s07.trans (Zb he)),h63,by lia,Zb he _ _ n7,(λz=>nomatch z),hk,λp L H' hp hl ht hr s=>Zg (hN _ _ ⟨p,L,U,hp,hl,ht,hr,(s07.trans (Zb he)).trans s⟩)⟩
  .rw[Qan e];exact ZK (ZK (no (Z7.refl _)))
 rintro σ H8 ⟨wa,L,rfl,hwa,hwl,hty,hrm,s8⟩;obtain⟨hsi,hfl⟩:=ty_si hty hn;refine⟨_,U,_,U,_,U,wa,L,U,hwa,hsi,by lia,λpm H9 ms hpm s9 hp hs=>?_⟩;rw[hfl]at hp;have NC:NmC L ms:=⟨hp,hs⟩;have hC:∀ms,NmC L ms->Xj ms L:=λms N=>clm_ok hty hn hn3 (by lia) (by lia) N;have one:∀ms',NmC L ms'->ms'=ms:=λms' N=>js _ _ N.2 hs (N.1.trans hp.symm);have S:=hC ms NC;refine⟨wa,pm,L,ms,U,s9 _ _ hwa,hpm,S,hsi,by lia,λkd kvs HA hkd M sA=>⟨wa,kd,60,L,ms,kvs,U,by decide,sA _ _ (s9 _ _ hwa),hkd,M,S,hsi,by lia,λpd HB hpd sB=>Zg ?_⟩⟩;have wB:=sB _ _ (sA _ _ (s9 _ _ hwa));have s0B:=s8.trans (s9.trans (sA.trans sB));have TWB:=TW.same s0B;have TLB:=TL.same s0B;have keep:∀{Ha Hb:Hp},Yw Ha t.aa Zw Zs->Yw Ha t.au Y5 Y6->wL t.aa t.au Ha Hb->∀{b:Aw} {u:HO},Ha b=some u->(∀z,u≠.tbl z)->Hb b=some u:=λ{Ha Hb} A B o {b u} e hu=>by
  obtain⟨pz1,hz1⟩:=A.ex;obtain⟨pz2,hz2⟩:=B.ex;exact o _ _ e (ZY e hz1 (hu _)) (ZY e hz2 (hu _))
 have h60:(0:Int)<60:=by decide
 refine⟨_,U,_,_,U,U,.of (by decide) (by decide),_,_,U,U,h60,_,_,U,U,_,U,_,_,U,U,.of (by decide) (by decide),_,_,U,U,h60,_,_,U,U,Zls,λlw hlw=>⟨lw,U,⟨_,SqL.of Za⟩,?_⟩⟩;have sC:=Zb (o:=.lst [V.int 60,V.int 1,V.int (1+r/24%60),V.int (1+r/1440%60),V.int 2]) hlw;have wC:=sC _ _ wB;have pC:=sC _ _ hpd;have TWC:=TWB.same sC;have TLC:=TLB.same sC;have lC:=Za (H:=HB) (a:=lw) (o:=.lst [V.int 60,V.int 1,V.int (1+r/24%60),V.int (1+r/1440%60),V.int 2]);try dsimp only
 generalize upd HB lw (.lst [V.int 60,V.int 1,V.int (1+r/24%60),V.int (1+r/1440%60),V.int 2])=HC at *;refine qT (K:=K) (a:=lw) (xs:=[V.int 60,V.int 1,V.int (1+r/24%60),V.int (1+r/1440%60),V.int 2]) (λi σ H'=>∃(u8 u9:Option V),σ=[some (.ref a),some (.int r),some (.ref pn),some (.int mo),some (.ref f),some (.int tp),some (.ref wa),some (.ref pd),u8,u9]/\H' lw=some (.lst [V.int 60,V.int 1,V.int (1+r/24%60),V.int (1+r/1440%60),V.int 2])/\H' wa=some (.tup L)/\H' pd=some (.lst ((List.range 60).map λi=>V.int ((SQ (2^(i+1)) ms.length λvs=>if WQ (2^(i+1)) (kF ms vs) L []=[.bl true]then 1 else 0:Nat):Int)))/\Yw H' t.aa Zw Zs/\Yw H' t.au Y5 Y6) ⟨none,none,U,lC,wC,pC,TWC,TLC⟩ (λi σ H' _ ⟨_,_,_,e,_⟩=>SqL.of e) ?_ ?_
 .rintro i x σ HD hx ⟨u8,u9,rfl,lD,wD,pD,TWD,TLD⟩;obtain⟨W,rfl,hW1,hW⟩:∃W:Nat,x=.int W/\1<=W/\W<=60:=by
   have hx:=Qat hx;simp only[Qas,Qbq,Qe1]at hx;rcases hx with rfl|rfl|rfl|rfl|rfl
   .exact⟨60,U,by decide,by decide⟩
   .exact⟨1,U,by decide,by decide⟩
   .exact⟨(1+r/24%60).toNat,by rw[Qe5 (by lia)],by lia,by lia⟩
   .exact⟨(1+r/1440%60).toNat,by rw[Qe5 (by lia)],by lia,by lia⟩
   .exact⟨2,U,by decide,by decide⟩
  refine Zg ⟨_,U,_,U,wa,L,W,U,hW1,hW,wD,hsi,by lia,hC,TWD,TLD,λms3 HE N3 TWE TLE oE=>Zg ?_⟩;have e3:=one _ N3;subst e3;have lE:=keep TWD TLD oE lD (λ_ z=>nomatch z);have wE:=keep TWD TLD oE wD (λ_ z=>nomatch z);have pE:=keep TWD TLD oE pD (λ_ z=>nomatch z);obtain⟨W,rfl⟩:∃W',W=W'+1:=⟨W-1,by lia⟩;have ed:atI ((List.range 60).map λi=>V.int ((SQ (2^(i+1)) ms3.length λvs=>if WQ (2^(i+1)) (kF ms3 vs) L []=[.bl true]then 1 else 0:Nat):Int)) (((W+1:Nat):Int)-1)=some (.int ((SQ (2^(W+1)) ms3.length λvs=>if WQ (2^(W+1)) (kF ms3 vs) L []=[.bl true]then 1 else 0:Nat):Int)):=by
   rw[show((W+1:Nat):Int)-1=(W:Int) by lia];exact Yv (by rw[Qai,Qe4 (by lia)];rfl)
  refine⟨_,U,_,U,_,U,ZK ⟨_,U,_,U,_,U,_,_,U,U,pd,_,_,_,U,U,SqL.of pE,ed,U,_,U,?_⟩⟩;rw[Qaq U];exact ZK ⟨_,_,U,lE,wE,pE,TWE,TLE⟩
 .rintro σ HD ⟨u8,u9,rfl,lD,wD,pD,TWD,TLD⟩;exact k HD
end
def oF(K:Af)(f:Aw):Obj:=(K.lookup f).getD default
def fx(K:Af)(f:Aw):Ao:=match (oF K f).data with
 |.func g=>g
 |_=>default
abbrev fn0(K:Af)(x:Str)(st:Ay)(f:Aw):Ao:=PySem.W.fnOf x x (WR st) (Xg st) (Zk st) .none (fx K f).kwdefaults (fx K f).doc (fx K f).pyModule (fx K f).annotations (fx K f).code (fx K f).closureTuple
abbrev FiE(K:Af)(x:Str)(st:Ay)(f:Aw):Prop:=(PySem.W.nsIn K mainGlobals x,K.lookup f,PySem.W.codeIn K (fx K f).code x,PySem.W.keepIn K (.ref f))=(some (some (.ref f)),some ⟨(oF K f).cls,(oF K f).dict,.func (fn0 K x st f),(oF K f).slots⟩,true,true)
theorem Zm4{st:Ay}(e:FiE K x st f):fx K f=fn0 K x st f:=
 congrArg (λo:Option Obj=>match (o.getD default).data with|.func g=>g|_=>default) (congrArg (λz=>z.2.1) e)
def de{I:Heap}{mg:Ae}{st:Ay}{ps:Ai}(X:K.In I)(G:I.Ns mainGlobals mg)(e:FiE K x st f)
  (h:∀(kV D M:Av)(L:Option Aw)(C ct:Av)(r:Ag),r.length=ps.length->bindArgs (PySem.W.fnOf x x (WR st) (Xg st) (Zk st) .none kV D M L C ct) ⟨r,[]⟩=pure (ps.zip r):=by first|(show∀_ _ _ _ _ _ r,List.length r=1->_;exactλ_ _ _ _ _ _=>L2.len1 λ_=>U)|(show∀_ _ _ _ _ _ r,List.length r=2->_;exactλ_ _ _ _ _ _=>L2.len2 λ_ _=>U)|(show∀_ _ _ _ _ _ r,List.length r=3->_;exactλ_ _ _ _ _ _=>L2.len3 λ_ _ _=>U)|(show∀_ _ _ _ _ _ r,List.length r=4->_;exactλ_ _ _ _ _ _=>L2.len4 λ_ _ _ _=>U)|(show∀_ _ _ _ _ _ r,List.length r=5->_;exactλ_ _ _ _ _ _=>L2.len5 λ_ _ _ _ _=>U)|(show∀_ _ _ _ _ _ r,List.length r=7->_;exactλ_ _ _ _ _ _=>L2.len7 λ_ _ _ _ _ _ _=>U)):Df K mg x st ps f (fx K f):=by
 have F:=fun_mk (st:=st) (congrArg (λz=>z.2.1) e) (congrArg (λz=>z.2.2.1) e) (congrArg (λz=>z.2.2.2) e);exact Eq.mp (congrArg (Df K mg x st ps f) (Zm4 e).symm) ⟨F,PySem.W.mg_of X G (congrArg (·.1) e),F.binds h⟩
def mkE(P:Params):List (Str×Int)->List (Nat×Nat)->List DictEntry
 |x::l,t::r=>⟨PyData.keyHash P x.1,.str x.1 t.1,.int x.2 t.2⟩::mkE P l r
 |_,_=>[]
theorem Ze5(P:Params):∀(l:List (Str×Int))(r:List (Nat×Nat)),l.length=r.length->KTab P (mkE P l r) l
 |[],[],_=>.nil
 |_::l,_::r,h=>.cons (Ze5 P l r (Nat.succ.inj h))
theorem kgo{mg:Ae}{l:List (Str×Int)}(X:K.In h)(G:h.Ns mainGlobals mg)(r:List (Nat×Nat))(n:Nat)
  (e:(PySem.W.nsIn K mainGlobals x,K.lookup a)=(some (some (.ref a)),some ⟨.type "dict",none,.dict (Array.mk (mkE w.params l r)) n,#[]⟩)) (I:l.length=r.length) (C:(l.map (·.1)).Nodup) (D:(a == sysModules)=false):Kg K w mg x a l:=
 ⟨PySem.W.mg_of X G (congrArg (·.1) e),⟨⟨_,_,congrArg (·.2) e,Ze5 _ l r I⟩,C,D⟩⟩
def sV:Nat->List Str->List Av
 |_,[]=>[]
 |t,x::l=>.str x t::sV (t+1) l
theorem Ze6:∀(l:Ai)(t:Nat),Vals (l.map V.str) (sV t l)
 |[],_=>.nil
 |_::l,t=>.cons ⟨_,U⟩ (Ze6 l (t+1))
theorem kto{mg:Ae}{l:Ai}(X:K.In h)(G:h.Ns mainGlobals mg)(t:Nat)
  (e:(PySem.W.nsIn K mainGlobals x,K.lookup a)=(some (some (.ref a)),some ⟨.type "tuple",none,.seq (Array.mk (sV t l)) 0,#[]⟩)) (r:(sV t l).length<=sizeLine):Kt K mg x a l:=
 ⟨PySem.W.mg_of X G (congrArg (·.1) e),λ_=>.inr ⟨_,_,_,congrArg (·.2) e,U,U,r,Ze6 l t⟩⟩
def KK(w:Au):Af:=L2.noT (Hw.K w.params)
set_option maxHeartbeats 0 in
theorem all_mk {l:W.OpenLaw} {w:Au} {h:Heap} {mg:Ae} {fa:Aw} (X:(KK w).In h) (G:h.Ns mainGlobals mg) (hfa:mg "law" = some (.ref fa)):
  ∃fd:Ao,(∀(s:As)(v:Av),BindsTo s fd ⟨[v],[]⟩ [("script",v)])/\∀base:Heap,(KK w).In base->base.Ns mainGlobals mg->(∀q∈([(44,42),(181,179)]:List (Aw×Aw)),W.CodeHd base q.1 q.2)->jY mg base->kC l.prog w (KK w) mg base CX0 18 fa fd ["script"] (sp_law (KK w) 42 179):=by
 cases hfa.symm.trans (W.mg_of X G (show W.nsIn (KK w) mainGlobals "law" = some (some (.ref 352)) by kernel_rfl));have T:Txt (KK w) w mg ⟨21,fx (KK w) 21,28,fx (KK w) 28,40,fx (KK w) 40,55,fx (KK w) 55,60,fx (KK w) 60,67,fx (KK w) 67,77,fx (KK w) 77,84,fx (KK w) 84,91,fx (KK w) 91,98,fx (KK w) 98,110,fx (KK w) 110,130,fx (KK w) 130,156,fx (KK w) 156,170,fx (KK w) 170,187,fx (KK w) 187,192,fx (KK w) 192,223,fx (KK w) 223,230,fx (KK w) 230,237,fx (KK w) 237,244,fx (KK w) 244,258,fx (KK w) 258,284,fx (KK w) 284,291,fx (KK w) 291,298,fx (KK w) 298,305,fx (KK w) 305,312,fx (KK w) 312,326,fx (KK w) 326,50,fx (KK w) 50,105,fx (KK w) 105,117,fx (KK w) 117,135,fx (KK w) 135,149,fx (KK w) 149,163,fx (KK w) 163,216,fx (KK w) 216,251,fx (KK w) 251,265,fx (KK w) 265,272,fx (KK w) 272,319,fx (KK w) 319,333,fx (KK w) 333,345,fx (KK w) 345,122,fx (KK w) 122,197,fx (KK w) 197,279,fx (KK w) 279,338,fx (KK w) 338,142,fx (KK w) 142,33,fx (KK w) 33,45,fx (KK w) 45,182,fx (KK w) 182,177,fx (KK w) 177,204,fx (KK w) 204,211,fx (KK w) 211,352,fx (KK w) 352,44,42,181,179,68,69,70,325,327,123⟩:=by
  constructor
  .exact kgo X G [(262,263),(264,265),(266,267),(268,269),(270,271),(272,273),(274,275),(276,277),(278,279),(280,281)] 10 (by kernel_rfl) U (by decide +kernel) U
  .exact kgo X G [(293,294),(295,296),(297,298),(299,300),(301,302)] 5 (by kernel_rfl) U (by decide +kernel) U
  .exact kgo X G [(309,310),(311,312),(313,314),(315,316),(317,318)] 5 (by kernel_rfl) U (by decide +kernel) U
  .exact W.mg_of X G (by kernel_rfl)
  .exact W.mg_of X G (by kernel_rfl)
  .exact kto X G 387 (by kernel_rfl) (by show _<=_;decide)
  all_goals first|exact de X G (by kernel_rfl)|exact W.mg_none_of X G (by kernel_rfl)|exact Nat.ne_of_beq_eq_false U|kernel_rfl
 exact⟨_,λs v=>Zm4 (show FiE (KK w) "law" Zkm 352 by kernel_rfl) ▸ .of_eq U,λbase hKb _ hC hB=>ok_law _ _ T ⟨hC (44,42) (by simp),hC (181,179) (by simp),hB⟩⟩
end Lw
end
open PySem PySem.W PyProof.Rows
set_option maxRecDepth 100000 in
set_option maxHeartbeats 0 in
theorem PySem.Challenge.cw_everywidth_k32_whole_counts_holds : PySem.Challenge.rw_everywidth_k32_whole_counts.Holds := by
 w_on;refine holds_law Hw.ws λsaid=>?_
 refine holds_openX Hw.left (λs e=>xl_of s (Qf5.mp e).1) XL.keeps
  (by rfl) (by rfl) (by rfl)
  (λs e=>recFacts_of (Qf5.mp e).2) (by rfl)
  (by first|assumption|decide +kernel) (by decide +kernel) ⟨U,U,U,U,U,by decide +kernel⟩ ?hw ?_
 (case hw=>w_witness2)
 refine L2.walk_X (λ_=>by kernel_rfl) ?_
 exact L2.walk_ofT (K:=λP=>L2.noT (Hw.K P)) (n:=63) (k:=18) (x:= "script") (CX:=λ_=>L2.CX0) (sp:=λw=>Lw.sp_law (Lw.KK w) 42 179) U (by decide) U ⟨U,by decide,by decide⟩ (λw h Y=>L2.in_noT (by kernel_rfl) Y) (λw mean mg mb h T X=>List.forall_mem_cons.mpr ⟨PySem.W.tab_of (x:=PySem.Str.ofString "least") (c:=44) (P:=42) T X U (by kernel_rfl),List.forall_mem_cons.mpr ⟨PySem.W.tab_of (x:=PySem.Str.ofString "machine_telling") (c:=181) (P:=179) T X U (by kernel_rfl),List.forall_mem_nil _⟩⟩) (λw=>L2.noT_ok _) (λw mg fa h X G e=>Lw.all_mk X G e) (λ_ _ a ns hl hT hS=>⟨a,ns,U,hS,hl,.inl (hT (44,42) (by simp)),.inl (hT (181,179) (by simp)),λ_=>U⟩) λ_ _ _ _ _ z=>z
#print axioms PySem.Challenge.cw_everywidth_k32_whole_counts_holds
