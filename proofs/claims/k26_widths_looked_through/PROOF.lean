import PyProof.Rows.All
import Wide.All
import OpenK.AllK
import Wide.FinOn
import Lean
import PyProof.EqAt
import PyProof.EqKinds
import PyProof.TupleCall
import PyProof.NeKinds
import KE.KRevSl
import KE.KRevIter
import PyProof.FactsAll.tuple
import PyProof.Rows.SortWalk
import PyProof.Rows.StrJoin2
import PyProof.StrBlockH
import PyProof.StrWalks
import PyProof.StrCalls2
import PyProof.ConsumeWalk
import KE.KIntText
import PyProof.Rows.SortStr
import PyProof.EnumStmt
import PyProof.WalksMore
import PyProof.ZipIter
import KE.KEqDict
import PyProof.DictWalks
import KE.KLam
import PyProof.Rows.SortShellK
import PyProof.AttrMissHeap
import KE.KDictOf
import PyProof.CollectWalk
import PyProof.ListNew
import KE.KSortTup
import PyProof.Rows.TupDisplay
import OpenK.KOwn
import PyProof.Rows.TopTwo
import PyProof.Rows.CatchOwn
import PyProof.RulesDel
import PyProof.RulesAs
import KE.KIsNot
import PyProof.ExcAttrAll.ValueError
import KE.KIsAll
import PyProof.StrReplace2
import PyProof.ReprStr
import PyProof.FString
import PyProof.StrLawsChain
import PyProof.SetRoads
import PyProof.StrLawsRepr
import PyProof.ReprHeads
import PyProof.ReprLen
import PyProof.FactsAll.bool
import KE.KNest
import PyProof.Rows.RuleM_int
import PyProof.Rows.CallKwBuiltin
import KE.KMinKey
import PyProof.ListRange
import PyProof.TupleOfSeq
import PyProof.TupleOfStr
import KE.KDictLaws
import KE.KPairComp
import KE.KDictSum
import PySem.Challenge.RW_everywidth_k26_widths_looked_through
noncomputable section
set_option Elab.async false
set_option linter.all false
set_option maxRecDepth 100000
set_option maxHeartbeats 0
namespace Hw
open PySem PySem.W
theorem ws:PySem.Challenge.rw_everywidth_k26_widths_looked_through.wellSaid=true:=by kernel_rfl
def p:Program:=PySem.Challenge.rw_everywidth_k26_widths_looked_through.row.toRowW.prog
def B:List Stmt:=behindTheImports p
def nth:List Stmt→Nat→Option Stmt
  |[],_=>none
  |x::_,0=>some x
  |_::r,n+1=>nth r n
def fx:Option Stmt→Arguments×List Stmt×Scope×Str×Nat
  |some (.FunctionDef n a b _ _ _ s _ _ x)=>(a,b,s,n,x.line)
  |_=>default
def fd(i:Nat):=fx (nth B i)
def vs(s:String)(t:Nat):Value:=.str (Str.ofString s) t
def en(P:Params)(s:String)(t:Nat)(v:Value):DictEntry:=⟨PyData.keyHash P (Str.ofString s),.str (Str.ofString s) t,v⟩
def tu (l:List Value):Obj:=⟨.type "tuple",none,.seq (Array.mk l) 0,#[]⟩
def t0:Obj:=tu []
def fi(l:List Value):Obj:=⟨.none,none,.fields (Array.mk l),#[]⟩
def f0:Obj:=fi []
def vk:Nat→List String→List Value
  |_,[]=>[]
  |t,s::r=>vs s t::vk (t+1) r
def vt(t:Nat)(l:List String):Obj:=tu (vk t l)
abbrev Fd:=Arguments×List Stmt×Scope×Str×Nat
def rO(x:Fd):Obj:=⟨.none,none,.func ⟨x.2.2.2.1,x.2.2.2.1,x.1,.stmts x.2.1,x.2.2.1,0,[],.none,.none,.none,.none,none,.none,.none,0⟩,#[]⟩
def fO (x:Fd) (m:Value) (c:Nat):Obj:=⟨.type "function",none,.func ⟨x.2.2.2.1,x.2.2.2.1,x.1,.stmts x.2.1,x.2.2.1,3,[],.none,.none,.none,m,none,.ref c,.none,0⟩,#[]⟩
def fl:String:= "/claim/cut.py"
def r(i:Nat):Obj:=rO (fd i)
def f(i:Nat)(m:Value)(c:Nat):Obj:=fO (fd i) m c
def ci(n:Nat):Value:=.int n 0
def c (i t x v:Nat):Obj:=let y:=(fd i).2.2.2;⟨.type "code",none,.fields #[.str y.1 t,.str y.1 (t+1),vs fl (t+2),ci y.2,ci (fd i).1.args.length,ci 0,ci 0,ci 3,.ref x,.bool true,ci 181,.ref (x+1),.none,if v == 0 then .none else .ref (x+2),if v == 0 then .none else .ref (x+3),.ref (if v == 0 then x+2 else x+4),ci (t+3+v),ci y.2,vs fl (t+4+v)],#[]⟩
def e(P:Params)(i t a:Nat):DictEntry:=let y:=(fd i).2.2.2.1;⟨PyData.keyHash P y,.str y t,.ref a⟩
def bt(P:Params):List DictEntry:=match (boot_o_3 P).data with
  |.dict e _=>e.toList.tail
  |_=>[]
def m0:Value:=vs "everywidth.bits" 187
def m1:Value:=vs "everywidth.machines.found" 207
def m2:Value:=vs "everywidth.machines.least" 224
def m3:Value:=vs "everywidth.vocabulary" 260
def m4:Value:=vs "everywidth.rows" 377
def m5:Value:=vs "everywidth.machines.columns" 385
def m6:Value:=vs "everywidth.machines.made" 462
def m7:Value:=vs "everywidth.sums.texts" 490
def m8:Value:=vs "everywidth.claims.widths" 498
def m9:Value:=vs "law_everywidth_k26_widths_looked_through" 564
def mc (n:String)(t l x k:Nat):Obj:=⟨.type "code",none,.fields #[vs n t,vs n (t+1),vs fl (t+2),ci l,ci 0,ci 0,ci 0,ci 0,.ref x,.bool false,ci 181,.ref (x+1),.none,.none,.none,.none,ci k,ci l,vs fl (k+1)],#[]⟩
def fr (c d:Nat)(v:Value):Obj:=⟨.type "frame",none,.plain,#[some (.ref c),some (.ref 3),some (.ref d),none,some v,none,some (.ref 0)]⟩
def bf (a b:Value):Obj:=⟨.type "builtin_function_or_method",none,.fields #[a,b],#[]⟩
def dc (l:List DictEntry)(n:Nat):Obj:=⟨.type "dict",none,.dict ⟨l⟩ n,#[]⟩
def es (P:Params):List DictEntry:=[e P 1 197 21,e P 2 206 28,e P 4 214 33,e P 5 223 40,e P 7 231 45,e P 8 237 50,e P 9 243 55,e P 10 249 60,e P 11 259 67,en P "SUM_PARTS" 292 (.ref 68),en P "SUMS_IN_CLAIM" 308 (.ref 69),en P "CLAIMS_IN_CLAIM" 324 (.ref 70),en P "LETTERS" 326 (vs "abcdefghijklmnopqrstuvwxyz" 325),en P "LONGEST_NAME" 328 (.int 8 327),e P 18 335 77,e P 19 342 84,e P 20 349 91,e P 21 356 98,e P 22 363 105,e P 23 369 110,e P 24 376 117,e P 26 384 122,en P "REMEMBERING" 396 (.ref 123),e P 29 403 130,e P 30 409 135,e P 31 424 142,e P 32 434 149,e P 33 443 156,e P 34 453 163,e P 35 461 170,e P 37 471 177,e P 38 477 182,e P 39 483 187,e P 40 489 192,e P 42 497 197,e P 44 507 204,e P 45 514 211,e P 46 521 218,e P 47 527 223,e P 48 533 228,e P 49 544 235,e P 50 555 242,e P 51 563 249,e P 53 579 256,e P 54 590 263,e P 55 601 270,e P 56 608 277,e P 57 620 284,e P 58 634 291,e P 59 652 298,e P 60 658 303,e P 61 667 310,e P 62 677 317,e P 63 690 324,e P 64 704 331,e P 65 710 336,e P 66 720 343,e P 67 726 348]
def vl:List (Nat×Nat):=[(2,20),(7,27),(13,32),(23,39),(29,44),(38,49),(45,54),(48,59),(50,66),(62,76),(64,83),(66,90),(68,97),(70,104),(72,109),(74,116),(79,121),(83,129),(85,134),(90,141),(106,148),(117,155),(119,162),(133,169),(150,176),(152,181),(164,186),(166,191),(169,196),(172,203),(175,210),(177,217),(179,222),(181,227),(193,234),(199,241),(206,248),(212,255),(224,262),(231,269),(236,276),(248,283),(261,290),(273,297),(286,302),(290,309),(304,316),(322,323),(341,330),(352,335),(365,342),(370,347)]
def d(i x t:Nat)(l:List String)(m:Value):List Obj:=match l with
  |[]=>[t0,f0,r i,c i t x 0,f i m (x+3)]
  |l=>[t0,f0,vt (t+3) l,t0,r i,c i t x l.length,f i m (x+5)]
def nz:Nat→List Obj→PySem.W.Frag
  |_,[]=>[]
  |n,x::l=>(n,x)::nz (n+1) l
def md (P:Params) (m:String) (t e k:Nat):Obj:=⟨.type "dict",none,.dict (Array.mk (en P "__name__" 165 (vs m t)::bt P++(es P).take e)) k,#[]⟩
def tl:List (Nat×Nat)→List Value
  |[]=>[]
  |x::r=>.int x.1 0::.int 0 0::.ref x.2::tl r
def tb(c:Nat):Obj:=fi (tl (vl.take c))
def ob (P:Params):List Obj:=[boot_o_0 P,boot_o_1 P,boot_o_2 P,md P "law_everywidth_k26_widths_looked_through" 564 58 67,boot_o_4 P,boot_o_5 P,boot_o_6 P,boot_o_7 P,boot_o_8 P,boot_o_9 P,boot_o_10 P,t0,tb 52,mc "<module>" 182 1 11 185,fr 13 3 (vs "__main__" 164)]++(d 1 15 189 ["width","many","bit_number"] m0++(d 2 22 198 ["bits","number","bit"] m0++(d 4 29 209 [] m1++(d 5 34 215 ["state","states","numbers"] m1++(d 7 41 226 [] m2++(d 8 46 232 [] m2++(d 9 51 238 [] m2++(d 10 56 244 [] m2++(d 11 61 250 ["classes","firsts","state","number"] m2++([dc [en P "not" 262 (.int 1 263),en P "neg" 264 (.int 1 265),en P "twice" 266 (.int 1 267),en P "low" 268 (.int 1 269),en P "and" 270 (.int 2 271),en P "or" 272 (.int 2 273),en P "odd" 274 (.int 2 275),en P "add" 276 (.int 2 277),en P "sub" 278 (.int 2 279),en P "pick" 280 (.int 3 281)] 10,dc [en P "same" 293 (.int 2 294),en P "under" 295 (.int 2 296),en P "beneath" 297 (.int 2 298),en P "sign" 299 (.int 1 300),en P "nought" 301 (.int 1 302)] 5,dc [en P "both" 309 (.int 2 310),en P "either" 311 (.int 2 312),en P "so" 313 (.int 2 314),en P "never" 315 (.int 1 316),en P "yes" 317 (.int 0 318)] 5]++(d 18 71 329 ["text"] m3++(d 19 78 336 ["text"] m3++(d 20 85 343 ["word"] m3++(d 21 92 350 ["word"] m3++(d 22 99 357 ["word"] m3++(d 23 106 364 [] m3++(d 24 111 370 ["text"] m3++(d 26 118 379 [] m4++([vt 387 ["neg","twice","low","add","sub","same","under","beneath","nought"]]++(d 29 124 397 ["word"] m5++(d 30 131 404 [] m5++(d 31 136 410 ["words","columns","place","kept","stack","later","word","parts","held"] m5++(d 32 143 425 ["word","parts","held","one"] m5++(d 33 150 435 ["one","other","held"] m5++(d 34 157 444 ["word","parts","held","then"] m5++(d 35 164 454 ["word","parts"] m5++(d 37 171 464 ["claim","names"] m6++(d 38 178 472 [] m6++(d 39 183 478 [] m6++(d 40 188 484 [] m6++(d 42 193 492 [] m7++(d 44 198 500 ["claim","told"] m8++(d 45 205 508 ["claim"] m8++(d 46 212 515 ["claim"] m8++(d 47 219 522 [] m8++(d 48 224 528 [] m8++(d 49 229 534 ["states","steps","reached","state","led_to"] m8++(d 50 236 545 ["tail","ring","length","kept","begin"] m8++(d 51 243 556 ["ring","length"] m8++(d 53 250 566 ["script","k","cells","size","cell","turn","step","seed"] m9++(d 54 257 580 ["number","letters","some","name","k"] m9++(d 55 264 591 ["script","start","many","found","k"] m9++(d 56 271 602 ["word"] m9++(d 57 278 609 ["number","room","left","some","word","judged"] m9++(d 58 285 621 ["number","room","left","names","top","some","word","hard"] m9++(d 59 292 635 ["script","start","names","most","left","top","claim","words","parts","room","number","word"] m9++(d 60 299 653 [] m9++(d 61 304 659 ["word","one","full"] m9++(d 62 311 668 ["word","one","other","full"] m9++(d 63 318 678 ["words","full","values","pile","word","one","other"] m9++(d 64 325 691 ["names","full","found","name","longer","values","word","more"] m9++(d 65 332 705 [] m9++(d 66 337 711 ["told","width","tail","ring"] m9++(d 67 344 721 [] m9))))))))))))))))))))))))))))))))))))))))))))))))))))))
def K(P:Params):PySem.W.Frag:=nz 0 (ob P)
def od:Bool→List Obj→List Obj
  |_,[]=>[]
  |true,x::r=>x::od false r
  |false,_::r=>od true r
def tL:Nat→List Obj→BT
  |0,_=>.nil
  |_,[]=>.nil
  |k+1,x::r=>.node x (tL k (od true r)) (tL k (od false r))
def tn(P:Params)(n:Nat):BT:=tL 12 ((ob P).take n)
abbrev SS(T:BT)(n k:Nat)(o:OsState):SharedT:=⟨T,n,{},Array.mk [],{},k,o⟩
def ev:Env:={scope:=p.main.scope,locals:=mainNs,globals:=mainNs,cells:=[],code:=(.ref 13),frame:=some 14}
def c0:Code:=.body B ev
abbrev an:Option Value:=some (.ref 6)
abbrev z0:Pos:=⟨0,0,0,0⟩
abbrev q0:List Frame:=[topFrame z0]
def sg(a b:Nat):List Stmt:=(B.drop a).take b
def pc(a b:Nat)(x:Pos):Thread:=piecesOf (sg a b) ev c0 x q0
def R(w:World)(o:OsState)(n:Nat)(S:Params→BT)(a k:Nat)(t:Thread)(S':Params→BT)(a' k':Nat)(y:Pos):Prop:=segRunT treeTable p w 11 an 1 n (SS (S w.params) a k o) t=some (.next,SS (S' w.params) a' k' o,c0,y)
variable (w:World)(o:OsState)
def S0(P:Params):BT:=((tn P 15).set 3 fun _=>boot_o_3 P).set 12 fun _=>tb 0
def S1 (P:Params):BT:=((tn P 68).set 3 fun _=>md P "everywidth.vocabulary" 260 9 18).set 12 fun _=>tb 9
def S2 (P:Params):BT:=((tn P 78).set 3 fun _=>md P "everywidth.vocabulary" 260 15 24).set 12 fun _=>tb 10
def S3 (P:Params):BT:=((tn P 157).set 3 fun _=>md P "everywidth.machines.columns" 385 28 37).set 12 fun _=>tb 22
def S4 (P:Params):BT:=((tn P 236).set 3 fun _=>md P "everywidth.claims.widths" 498 41 50).set 12 fun _=>tb 35
def S5 (P:Params):BT:=((tn P 311).set 3 fun _=>md P "law_everywidth_k26_widths_looked_through" 564 52 61).set 12 fun _=>tb 46
def S6(P:Params):BT:=tn P 349
def H1(P:Params):Heap:=⟨Array.mk (ob P),{}⟩
theorem pre:topGo treeTable p w 11 an 12 ⟨boot_heap w.params,Array.mk [],boot_drawn,boot_toks,o⟩ (topStub p)=some ((SS (S0 w.params) 15 187 o).abs,⟨denote treeTable c0,c0,z0,q0⟩):=by
  rw[Fast.te15667345088766844465,Fast.te14364793385576792824,Fast.te11892475500146522536];kernel_rfl
theorem blk:segRunT treeTable p w 11 an 1 1 (SS (S0 w.params) 15 187 o) (blockOf B ev c0 z0 q0)=some (.next,SS (S0 w.params) 15 187 o,c0,z0):=by
  rw[Fast.te10110043849684766642,Fast.te14364793385576792824];kernel_rfl
theorem g1:R w o 292 S0 15 187 (pc 0 13 z0) S1 68 262 ⟨56,0,56,8⟩:=by
  unfold R;rw[Fast.te10110043849684766642,Fast.te14364793385576792824];kernel_rfl
theorem g2f:R (w.withFollow "special-get-raises" false) o 378 S1 68 262 (pc 13 6 ⟨56,0,56,8⟩) S2 78 336 ⟨62,0,63,28⟩:=by
  unfold R;rw[Fast.te10110043849684766642,Fast.te14364793385576792824];kernel_rfl
theorem g2t:R (w.withFollow "special-get-raises" true) o 378 S1 68 262 (pc 13 6 ⟨56,0,56,8⟩) S2 78 336 ⟨62,0,63,28⟩:=by
  unfold R;rw[Fast.te10110043849684766642,Fast.te14364793385576792824];kernel_rfl
theorem g2 (w:World):∀o:OsState,R w o 378 S1 68 262 (pc 13 6 ⟨56,0,56,8⟩) S2 78 336 ⟨62,0,63,28⟩:=byRow2 "special-get-raises" (P:=fun w=>∀o:OsState,R w o 378 S1 68 262 (pc 13 6 ⟨56,0,56,8⟩) S2 78 336 ⟨62,0,63,28⟩) g2f g2t w
theorem g3:R w o 390 S2 78 336 (pc 19 15 ⟨62,0,63,28⟩) S3 157 444 ⟨117,0,118,47⟩:=by
  unfold R;rw[Fast.te10110043849684766642,Fast.te14364793385576792824];kernel_rfl
theorem g4:R w o 397 S3 157 444 (pc 34 16 ⟨117,0,118,47⟩) S4 236 545 ⟨193,0,198,33⟩:=by
  unfold R;rw[Fast.te10110043849684766642,Fast.te14364793385576792824];kernel_rfl
theorem g5:R w o 371 S4 236 545 (pc 50 12 ⟨193,0,198,33⟩) S5 311 668 ⟨290,0,303,18⟩:=by
  unfold R;rw[Fast.te10110043849684766642,Fast.te14364793385576792824];kernel_rfl
theorem g6:R w o 188 S5 311 668 (pc 62 6 ⟨290,0,303,18⟩) S6 349 727 ⟨370,0,385,62⟩:=by
  unfold R;rw[Fast.te10110043849684766642,Fast.te14364793385576792824];kernel_rfl
theorem fn:topRun treeTable p w 11 an 2 (SS (S6 w.params) 349 727 o).abs ⟨doneF .next,c0,⟨370,0,385,62⟩,q0⟩=some ⟨H1 w.params,Array.mk [],{},727,o⟩:=by
  rw[Fast.te14082659384304107361,Fast.te14364793385576792824];kernel_rfl
theorem sp:B=sg 0 13++(sg 13 6++(sg 19 15++(sg 34 16++(sg 50 12++(sg 62 6++[]))))):=by kernel_rfl
theorem bl{w:World}{N:Nat}{s s' r:Shared}{b:List Stmt}{x y:Pos}{n:Nat}(e:B=b)(h:segRun treeTable p w 11 an 1 n s (blockOf B ev c0 x q0)=some (.next,s',c0,y))(k:topRun treeTable p w 11 an N s' (restOf b ev c0 y q0)=some r):topRun treeTable p w 11 an (n+N) s ⟨denote treeTable c0,c0,x,q0⟩=some r:=
  piece_block h (by rw[e];exact k)
theorem rn:topRun treeTable p w 11 an (12+(1+(292+(378+(390+(397+(371+(188+(2))))))))) ⟨boot_heap w.params,Array.mk [],boot_drawn,boot_toks,o⟩ (topStub p)=some ⟨H1 w.params,Array.mk [],{},727,o⟩:=
  go_top (pre w o) (bl sp (segRun_of (blk w o)) (piece_app (segRun_of (g1 w o)) (piece_app (segRun_of (g2 w o)) (piece_app (segRun_of (g3 w o)) (piece_app (segRun_of (g4 w o)) (piece_app (segRun_of (g5 w o)) (piece_app (segRun_of (g6 w o)) (fn w o))))))))
def rg(l:List Stmt):List (Nat×Nat)→List Stmt
  |[]=>[]
  |x::r=>(l.drop x.1).take x.2++rg l r
def vw:Program:={p with main:={p.main with body:=rg p.main.body [(1,2),(4,2),(7,5),(13,12),(26,1),(28,8),(37,4),(42,1),(44,8),(53,15)]}}
def lo:List Str:=[Str.ofString "SUM_PARTS",Str.ofString "SUMS_IN_CLAIM",Str.ofString "CLAIMS_IN_CLAIM"]
def xt(s:Shared):Bool:=xlAt vw [] s&&recOk PySem.Challenge.rw_everywidth_k26_widths_looked_through.row.toRowW.records s
def as:List Addr:=List.range 349
theorem sz:((boot_heap w.params).isNs mainGlobals&&(Array.mk []:Array GenState).size == 0,(boot_heap w.params).objs.size,(boot_heap w.params).nsMap mainGlobals "__annotations__")=(true,11,an):=by
  rw[Fast.te8920871248978507458];kernel_rfl
abbrev sh(w:World)(o:OsState):Shared:=⟨H1 w.params,Array.mk [],{},727,o⟩
theorem l1:(staticsOk (importedModules p.main.body) (boot_heap w.params) (H1 w.params)&&namesBound p (H1 w.params)&&gensDone (sh w o)&&laidKept (boot_heap w.params) (H1 w.params))=true:=by
  rw[Fast.te5923862056798008813];kernel_rfl
theorem l2:openSeen vw lo (importedModules p.main.body) xt true (sh w o)=openGood vw lo:=by
  rw[Fast.te4187177175401517315,Fast.te5923862056798008813];kernel_rfl
theorem l3:X.obsZ as (sh w o)=X.valZ K 349 727 w:=by kernel_rfl
theorem left:LeftO p vw lo xt (X.obsZ as) (X.valZ K 349 727) 4146:=
  LeftO.of_pieces (boot_open (by kernel_rfl) (by kernel_rfl) (fun _=>by kernel_rfl)) sz rn (by kernel_rfl) fun w=>funext fun o=>looks_pair (l1 w o) (looks_pair (l2 w o) (l3 w o))
end Hw
end
set_option Elab.async false
set_option linter.all false
set_option maxRecDepth 100000
noncomputable section
def Qaa:=@PySem.wpAny_bind
def Qab:=@List.length_map
def Qac:=@List.getElem?_eq_getElem
def Qad:=@PySem.Heap.get?_push_of_some
def Qae:=@PySem.wpAny_pure
def Qaf:=@List.getD_eq_getElem?_getD
def Qag:=@List.getElem?_eq_some_iff
def Qah:=@List.getElem?_map
def Qai:=@List.mem_cons_self
def Qaj:=@Nat.le_refl
def Qak:=@List.length_append
def Qal:=@List.mem_cons_of_mem
def Qam:=@PySem.Heap.get?_push_size
def Qan:=@decide_eq_true
def Qao:=@List.mem_cons
def Qap:=@decide_eq_false
def Qaq:=@PySem.Heap.lt_size
def Qar:=@List.mem_of_getElem?
def Qas:=@List.size_toArray
def Qat:=@PySem.F.plainAttrs_list
def Qau:=@List.mem_map
def Qav:=@Nat.le_of_lt
def Qaw:=@List.mem_singleton
def Qax:=@List.map_map
def Qay:=@if_neg
def Qaz:=@List.map_append
def Qa0:=@List.getElem?_append_right
def Qa1:=@List.length_replicate
def Qa2:=@List.length_take
def Qa3:=@if_pos
def Qa4:=@Option.map_eq_some_iff
def Qa5:=@PySem.F.slot_list_append
def Qa6:=@PySem.F.type_list_append
def Qa7:=@Bool.false_ne_true
def Qa8:=@List.getElem?_append_left
def Qa9:=@List.length_cons
def Qba:=@List.not_mem_nil
def Qbb:=@List.length_range
def Qbc:=@Nat.le_trans
def Qbd:=@PySem.wpAny_newObj_type
def Qbe:=@PySem.wpAny_call_entry
def Qbf:=@Nat.ne_of_lt
def Qbg:=@of_decide_eq_true
def Qbh:=@List.idxOf_lt_length_of_mem
def Qbi:=@PyProof.Rows.slot_tuple_getitem
def Qbj:=@Array.length_toList
def Qbk:=@Nat.lt_of_lt_of_le
def Qbl:=@List.mem_append_right
def Qbm:=@List.map_congr_left
def Qbn:=@Int.toNat_natCast
def Qbo:=@List.mem_append
def Qbp:=@PySem.PassesOwn.never
def Qbq:=@List.length_drop
def Qbr:=@PySem.Heap.get?_update_self
def Qbs:=@List.getElem_mem
def Qbt:=@Nat.zero_le
def Qbu:=@List.mem_range
def Qbv:=@PySem.Obj.data_mapFields
def Qbw:=@PySem.wpAny_field
def Qbx:=@List.map_cons
def Qby:=@List.append_nil
def Qbz:=@Int.emod_nonneg
def Qb0:=@Int.emod_lt_of_pos
def Qb1:=@PySem.Heap.get?_update_other
def Qb2:=@PySem.Heap.size_push
def Qb3:=@Int.ediv_eq_zero_of_lt
def Qb4:=@Bool.and_eq_true
def Qb5:=@PySem.Heap.SameBut.update
def Qb6:=@List.mem_map_of_mem
def Qb7:=@List.take_length
def Qb8:=@PySem.wpAny_holding
def Qb9:=@Int.ediv_one
def Qca:=@List.all_eq_true
def Qcb:=@PySem.wpAny_setField_rec
def Qcc:=@List.any_eq_true
def Qcd:=@List.nodup_cons
def Qce:=@Nat.lt_irrefl
def Qcf:=@Int.add_mul_emod_self_left
def Qcg:=@List.append_assoc
def Qch:=@PySem.mem_of_lookup
def Qci:=@PySem.wpAny_seqItems
def Qcj:=@PySem.wpAny_of_eq
def Qck:=@Bool.false_eq_true
def Qcl:=@List.mem_iff_getElem?
def Qcm:=@PySem.F.slot_list_pop
def Qcn:=@PySem.F.type_list_pop
def Qco:=@List.eq_nil_of_length_eq_zero
def Qcp:=@List.reverse_cons
def Qcq:=@List.nodup_nil
def Qcr:=@Nat.pow_le_pow_right
def Qcs:=@PyProof.Rows.callWith_type1
def Qct:=@PySem.Obj.isFreed_of_fields
def Qcu:=@beq_self_eq_true
def Qcv:=@decide_eq_decide
def Qcw:=@Nat.mod_two_eq_zero_or_one
def Qcx:=@List.dropLast_concat
def Qcy:=@PySem.Calls.spliced_cons
def Qcz:=@List.take_of_length_le
def Qc0:=@PySem.W.kia_one
def Qc1:=@List.foldl_cons
def Qc2:=@List.drop_eq_getElem_cons
def Qc3:=@List.all_cons
def Qc4:=@List.lookup_cons
def Qc5:=@List.filter_cons
def Qc6:=@Nat.mod_eq_of_lt
def Qc7:=@List.length_reverse
def Qc8:=@List.foldl_append
def Qc9:=@List.take_append_drop
def Qda:=@Int.emod_add_mul_ediv
def Qdb:=@Int.emod_eq_of_lt
def Qdc:=@PySem.wpAny_setField
def Qdd:=@PySem.wpAny_Call_Name_kw
def Qde:=@Int.natCast_nonneg
def Qdf:=@Int.ediv_ediv_of_nonneg
def Qdg:=@PySem.wpAny_rule
def Qdh:=@PySem.wpAny_isInstance
def Qdi:=@PySem.wpAny_mono
def Qdj:=@PySem.wpAny_truthy_bool
def Qdk:=@PySem.wpAny_attempt
def Qdl:=@Array.getElem?_eq_getElem
def Qdm:=@List.map_take
def Qdn:=@List.mem_filter
def Qdo:=@Bool.eq_iff_iff
def Qdp:=@List.find?_cons
def Qdq:=@Array.getElem?_toList
def Qdr:=@PySem.codeAny_builtin
def Qds:=@Int.pow_zero
def Qdt:=@List.getElem?_take
def Qdu:=@PySem.lookup_relabel_local
def Qdv:=@List.map_drop
def Qdw:=@Nat.lt_succ_of_lt
def Qdx:=@bne_self_eq_false
def Qdy:=@PySem.Calls.callWith_builtin
def Qdz:=@or_false
def Qd0:=@PySem.F.slot_tuple_iterator_next
def Qd1:=@Int.natCast_emod
def Qd2:=@List.filter_append
def Qd3:=@Ne.symm
def Qd4:=@List.mem_append_left
def Qd5:=@PySem.wpAny_passesOwn
def Qd6:=@PySem.Calls.spliced_nil
def Qd7:=@List.of_mem_zip
def Qd8:=@PySem.wpAny_specialOf
def Qd9:=@PySem.wpAny_setState_of
def Qea:=@Nat.not_lt_zero
def Qeb:=@List.range_succ
def Qec:=@List.eq_of_mem_replicate
def Qed:=@Nat.ne_of_gt
def Qee:=@Int.pow_succ
def Qef:=@List.filterMap_cons
def Qeg:=@beq_eq_false_iff_ne
def Qeh:=@PySem.plainId_quiet
def Qei:=@PySem.wpAny_setEntries_of
def Qej:=@List.getElem?_range
def Qek:=@Nat.lt_succ_self
def Qel:=@List.drop_length
def Qem:=@Nat.mod_lt
def Qen:=@List.drop_zero
def Qeo:=@List.length_pos_of_mem
def Qep:=@PySem.F.plain_max_loop
def Qeq:=@Nat.lt_of_le_of_lt
def Qer:=@decide_eq_true_iff
def Qes:=@List.length_zip
def Qet:=@Nat.le_succ
def Qeu:=@List.length_nil
def Qev:=@PySem.F.slot_enumerate_next
def Qew:=@PySem.F.called_set
def Qex:=@Nat.min_eq_left
def Qey:=@Int.mul_comm
def Qez:=@Int.pow_pos
def Qe0:=@Nat.sub_self
def Qe1:=@List.getElem?_eq_none
def Qe2:=@List.length_filter_le
def Qe3:=@PySem.wpAny_pyIter_list
def Qe4:=@PySem.Obj.cls_mapFields
def Qe5:=@List.pairwise_map
def Qe6:=@List.nodup_append
def Qe7:=@PySem.Calls.evalArgs_plain
def Qe8:=@List.getElem?_of_mem
def Qe9:=@Nat.mul_le_mul_right
def Qfa:=@List.replicate_succ'
def Qfb:=@PySem.Calls.call_function_entry
def Qfc:=@PySem.wpAny_letGo
def Qfd:=@Int.toNat_of_nonneg
def Qfe:=@PySem.codeAny_mono
def Qff:=@PySem.F.args_tuple_add_2
def Qfg:=@Nat.zero_add
def Qfh:=@List.length_erase_of_mem
def Qfi:=@Int.ne_of_gt
def Qfj:=@Nat.pow_succ
def Qfk:=@PySem.Paired.length
def Qfl:=@PySem.F.entry_tuple_add
def Qfm:=@Option.map_some
def Qfn:=@PySem.tupleKind_room_in1
def Qfo:=@PySem.wpAny_updateSeq
def Qfp:=@of_decide_eq_false
def Qfq:=@PySem.F.slot_zip_next
def Qfr:=@List.idxOf_cons
def Qfs:=@Nat.add_assoc
def Qft:=@PySem.F.slot_tuple_add
def Qfu:=@PySem.wpAny_Call_method_late
def Qfv:=@PySem.F.entry_max_loop
def Qfw:=@PySem.wpAny_pyIter_slot
def Qfx:=@List.ext_getElem?
def Qfy:=@PySem.isSubtype_stop
def Qfz:=@PySem.wpAny_tryCatch
def Qf0:=@PySem.wpAny_typeOf
def Qf1:=@Nat.add_comm
def Qf2:=@Int.add_mul_ediv_left
def Qf3:=@Nat.le_add_right
def Qf4:=@PySem.Around.frames_deeper
def Qf5:=@PySem.Around.under_plainId
def Qf6:=@PySem.wpAny_updateSeq_pair
def Qf7:=@Bool.and_eq_true_iff
def Qf8:=@List.mem_erase_of_ne
def Qf9:=@List.any_cons
def Qga:=@PySem.F.args_tuple_iterator_next_1
def Qgb:=@List.map_id''
def Qgc:=@PySem.Value.isStrOf_shape
def Qgd:=@PySem.wpAny_execs_nil
def Qge:=@PyProof.Rows.entry_tuple_getitem
def Qgf:=@PySem.wpAny_mkInt
def Qgg:=@PySem.F.entry_tuple_iterator_next
def Qgh:=@List.map_id
def Qgi:=@List.replicate_zero
def Qgj:=@List.length_pos_iff
def Qgk:=@List.mem_filterMap
def Qgl:=@PySem.W.callWith_K
def Qgm:=@PyProof.Rows.args_tuple_getitem
def Qgn:=@Nat.succ_mul
def Qgo:=@Nat.min_self
def Qgp:=@Nat.mul_comm
def Qgq:=@PySem.wpAny_forIn_array'
def Qgr:=@Nat.lt_or_ge
def Qgs:=@Int.emod_one
def Qgt:=@Nat.add_zero
def Qgu:=@Nat.eq_zero_or_pos
def Qgv:=@List.getElem?_drop
def Qgw:=@Nat.mod_eq_sub_mod
def Qgx:=@Nat.add_sub_cancel
def Qgy:=@PyProof.Rows.slicePart_none
def Qgz:=@Bool.and_false
def Qg0:=@PySem.wpAny_newTuple
def Qg1:=@PySem.wpAny_fieldsOf
def Qg2:=@PySem.wpAny_sequenceKey
def Qg3:=@Option.isSome_map
def Qg4:=@Array.toList_push
def Qg5:=@PySem.fits_of_scanBound
def Qg6:=@List.take_add_one
def Qg7:=@decide_eq_true_eq
def Qg8:=@PySem.wpAny_setEpoch_of
def Qg9:=@Nat.not_lt
def Qha:=@List.flatMap_cons
def Qhb:=@Nat.add_mod_right
def Qhc:=@PySem.wpAny_handled
def Qhd:=@PySem.sizeLine_eq
def Qhe:=@PySem.wpAny_onRaise
def Qhf:=@PySem.wpAny_pyHash_int
def Qhg:=@PySem.noFill_tuple_add
def Qhh:=@Nat.le_of_not_lt
def Qhi:=@List.getElem_zip
def Qhj:=@PySem.wpAny_askSetting
def Qhk:=@PySem.SeqAt.EqAt.same
def Qhl:=@Nat.le_of_eq
def Qhm:=@PyProof.Rows.entry_list_sort
def Qhn:=@Nat.two_pow_pos
def Qho:=@Nat.sub_zero
def Qhp:=@Int.zero_add
def Qhq:=@Nat.le_antisymm
def Qhr:=@Nat.zero_mul
def Qhs:=@List.nil_append
def Qht:=@Nat.div_add_mod
def Qhu:=@and_congr_right
def Qhv:=@Prod.ext
def Qhw:=@PySem.seqIndex_of
def Qhx:=@PySem.wpAny_throw
variable {i n L:Nat}
variable {a f Z:PySem.Addr}
variable {x:PySem.Str}
variable {e o:PySem.Expr}
variable {N:List PySem.Str}
variable {p q:PySem.Pos}
variable {v:PySem.Value}
variable {S:List Nat}
variable {Q:PySem.Value->PySem.Shared->Prop}
variable {K:PySem.W.Frag}
variable {z:Int}
variable {j:Bool}
variable {s:PySem.Shared}
variable {h:PySem.Heap}
variable {R:List (List Nat)}
variable {d:Type}
variable {P:PySem.Program}
variable {w:PySem.World}
variable {m:List (PySem.Addr×PySem.Obj)}
variable {A:List PySem.Expr}
variable {B:List Bool}
variable {D:Array PySem.Value}
variable {E:List Int}
variable {J:List PySem.Addr}
variable {M:List PySem.Value}
section
open PySem
abbrev Aa:=Option Value->Shared->Prop
abbrev Ab:=Value->Shared->Prop
abbrev Ac:=List (Addr×Obj)
abbrev Ad:=List (List Nat)
abbrev Ae:=Str->Option Value
abbrev Af:=PySem.W.Frag
abbrev Ag:=List Value
abbrev Ah:=Array Value
abbrev Ai:=List Str
abbrev Aj:=List Nat
abbrev Ak:=List Int
abbrev Am:=List Bool
abbrev An:=List Expr
abbrev Ao:=FuncData
abbrev Aq:=Program
abbrev Ar:=Around
abbrev As:=Shared
abbrev Au:=World
abbrev Av:=Value
abbrev Aw:=Addr
abbrev Ax:=Expr
abbrev Ay:=Stmt
abbrev A3{q:Type}(p:Program)(w:World):=@wpAny q (model p w)
end
open PySem PySem.Spec PyProof.Rows
namespace L2
def Zbc:0<=sizeLine:=by decide
def Znq:1<=sizeLine:=by decide
def kE:2<=sizeLine:=by decide
def zln3:3<=sizeLine:=by decide
def zln4:4<=sizeLine:=by decide
def zln5:5<=sizeLine:=by decide
def zln6:6<=sizeLine:=by decide
def zln10:10<=sizeLine:=by decide
def zln11:11<=sizeLine:=by decide
def zln16:16<=sizeLine:=by decide
abbrev Key:=Sum Int Str
def qY:Key->Value->Bool
 |.inl k,v=>Value.isInt k v
 |.inr x,v=>Value.isStrOf x v
def keyH(w:Au):Key->Int
 |.inl k=>hashInt k
 |.inr x=>hashStr w x
theorem Ym:∀{k:Key} {v:Av},qY k v=true->(∃i t,k=Sum.inl i/\v=Value.int i t)\/(∃x t,k=Sum.inr x/\v=Value.str x t)
 |.inl i,v,h=>by
  obtain⟨t,e⟩:=Value.isInt_shape (k:=i) (v:=v) h;exact .inl ⟨i,t,rfl,e⟩
 |.inr x,v,h=>by
  obtain⟨t,e⟩:=Qgc (x:=x) (v:=v) h;exact .inr ⟨x,t,rfl,e⟩
def Zbg(i:Int)(t:Tok):qY (.inl i) (.int i t)=true:=by simp[qY,Value.isInt]
def Zbh(x:Str)(t:Tok):qY (.inr x) (.str x t)=true:=by simp[qY,Value.isStrOf]
def key_ll(a b:Int):decide ((Sum.inl a:Key)=Sum.inl b)=(a == b):=by grind
def key_rr(a b:Str):decide ((Sum.inr a:Key)=Sum.inr b)=decide (a=b):=by grind
def key_lr(a:Int)(b:Str):decide ((Sum.inl a:Key)=Sum.inr b)=false:=by grind
def key_rl(a:Str)(b:Int):decide ((Sum.inr a:Key)=Sum.inl b)=false:=by grind
def ZH(prog:Aq)(w:Au):PySem.KeyKind prog w Key where
 is:=qY
 hash:=keyH w
 inj:=fun v a b ha C=>by
  rcases Ym ha with⟨i,t,rfl,rfl⟩|⟨x,t,rfl,rfl⟩
  ·rcases Ym C with⟨j,u,rfl,e⟩|⟨y,u,rfl,e⟩
   ·injection e with e1 _;rw[e1]
   ·exact nomatch e
  ·rcases Ym C with⟨j,u,rfl,e⟩|⟨y,u,rfl,e⟩
   ·exact nomatch e
   ·injection e with e1 _;rw[e1]
 byValue:=fun k v h=>by
  rcases Ym h with⟨i,t,rfl,rfl⟩|⟨x,t,rfl,rfl⟩<;>rfl
 pyHash:=fun q h=>by
  rcases Ym q with⟨i,t,rfl,rfl⟩|⟨x,t,rfl,rfl⟩
  ·exact Qhf h
  ·exact wpAny_pyHash_str h
 eqBool:=fun D q h=>by
  rcases Ym D with⟨i,t,rfl,rfl⟩|⟨x,t,rfl,rfl⟩
  ·rcases Ym q with⟨j,u,rfl,rfl⟩|⟨y,u,rfl,rfl⟩
   ·rw[key_ll]at h;exact wpAny_eqBool_int h
   ·rw[key_lr]at h;exact SeqAt.EqAt.int_str i t y u _ _ _ _ h
  ·rcases Ym q with⟨j,u,rfl,rfl⟩|⟨y,u,rfl,rfl⟩
   ·rw[key_rl]at h;exact SeqAt.EqAt.str_int x t j u _ _ _ _ h
   ·rw[key_rr]at h;exact wpAny_eqBool_str h
 «strs»:=fun k x t v h=>by
  rcases Ym h with⟨i,u,rfl,e⟩|⟨y,u,rfl,e⟩
  ·exact nomatch e
  ·injection e with e1 _;subst e1;cases v<;>rfl
def uJ(prog:Aq)(w:Au)(k:Key)(v:Av):(ZH prog w).is k v=qY k v:=rfl
def kG(prog:Aq)(w:Au)(i:Int)(t:Tok):(ZH prog w).is (.inl i) (.int i t)=true:=Zbg i t
def JC(prog:Aq)(w:Au)(x:Str)(t:Tok):(ZH prog w).is (.inr x) (.str x t)=true:=Zbh x t
inductive V where
 |non|bl (b:Bool)|int (i:Int)|str (x:Str)|byt (b:Array UInt8)|flt (b:UInt64)|ref (a:Aw)|ty (n:String)
 deriving DecidableEq
def RelV:V->Value->Prop
 |.non,u=>u=Value.none
 |.bl b,u=>u=Value.bool b
 |.int i,u=>∃t,u=Value.int i t
 |.str x,u=>∃t,u=Value.str x t
 |.byt b,u=>∃t,u=Value.bytes b t
 |.flt b,u=>∃t,u=Value.float b t
 |.ref a,u=>u=Value.ref a
 |.ty n,u=>u=Value.type n
abbrev Vals:List V->List Av->Prop:=Paired RelV
def Vals.length{xs:List V}{q:Ag}(r:Vals xs q):xs.length=q.length:=Qfk r
theorem Vals.get:∀{xs:List V} {q:Ag} {i:Nat} {x:V},Vals xs q->xs[i]?=some x->∃u,q[i]?=some u/\RelV x u
 |_,_,_,_,.nil,e=>by simp at e
 |_,_,0,_,.cons r _,e=>by grind
 |_,_,i+1,x,.cons _ t,e=>by
  obtain⟨u,h1,h2⟩:=Vals.get (i:=i) (x:=x) t (by simpa using e);exact⟨u,by simpa using h1,h2⟩
theorem Vals.set{x:V}{u:Av}(r:RelV x u):∀{xs:List V} {C:Ag} (i:Nat),Vals xs C->Vals (xs.set i x) (C.set i u)
 |_,_,_,.nil=>.nil
 |_,_,0,.cons _ t=>.cons r t
 |_,_,i+1,.cons q t=>.cons q (Vals.set r i t)
theorem Vals.append:∀{xs ys:List V} {q C:Ag},Vals xs q->Vals ys C->Vals (xs++ys) (q++C)
 |_,_,_,_,.nil,s=>s
 |_,_,_,_,.cons r t,s=>.cons r (Vals.append t s)
theorem Vals.take:∀{xs:List V} {q:Ag} (n:Nat),Vals xs q->Vals (xs.take n) (q.take n)
 |_,_,0,_=>.nil
 |_,_,_+1,.nil=>.nil
 |_,_,n+1,.cons r t=>.cons r (Vals.take n t)
theorem Vals.drop:∀{xs:List V} {q:Ag} (n:Nat),Vals xs q->Vals (xs.drop n) (q.drop n)
 |_,_,0,r=>r
 |_,_,_+1,.nil=>.nil
 |_,_,n+1,.cons _ t=>Vals.drop n t
def uK:Option V->Option Av->Prop
 |some v,some u=>RelV v u
 |none,none=>True
 |_,_=>False
def KV:List (d×V)->List (d×Av)->Prop:=Paired fun(p:d×V) (q:d×Av)=>p.1=q.1/\RelV p.2 q.2
def kV:Key->V
 |.inl i=>.int i
 |.inr x=>.str x
inductive HO where
 /-- a list -/
 |lst (xs:List V)
 /-- a tuple (never changes) -/
 |tup (xs:List V)
 /-- a dict whose keys are ints and texts; one whose keys are tuples of ints and texts (the empty one is both) -/
 |dK (kvs:List (Key×V))|dT (kvs:List (List Key×V))
 /-- a set of ints: its members, its size -/
 |set (S:Int->Bool) (n:Nat)
 /-- an instance of the class at C, its dict at dx, its attributes -/
 |ins (C dx:Aw) (fs:List (Str×V))
 /-- the dict of the instance at x -/
 |own (x:Aw)
 /-- the dict of an exception -/
 |xd (fs:List (Str×V))
 /-- a bound method, f of x -/
 |met (f x:Aw)
 /-- a range object lo, lo + 1, .. below hi -/
 |rng (lo hi:Int)
 /-- a thing that is known to the object (the script; a dict while a loop walks it): read, never written while it is so -/
 |frz (o:Obj) (u:HO)
 /-- a code object's table -/
 |tbl (ps:Ah)
 /-- any other thing, by what is true of its one object (a def of one's own: SetO a S n := HO.ext fun h => ..) -/
 |ext (φ:Heap->Prop)
abbrev Hp:=Aw->Option HO
def upd(H:Hp)(a:Aw)(o:HO):Hp:=fun b=>if b=a then some o else H b
def Za{H:Hp}{o:HO}:upd H a o a=some o:=by unfold upd;rw[Qa3 rfl]
def Zk{H:Hp}{b:Aw}{o:HO}(h:b≠a):upd H a o b=H b:=by unfold upd;rw[Qay h]
def kH{H:Hp}{o u:HO}:upd (upd H a o) a u=upd H a u:=by
 funext b;unfold upd;split<;>rfl
def Xn{H:Hp}{b:Aw}{o u:HO}(h:H a=some o)(h':H b=some u)(d:o≠u):a≠b:=by grind
def Zm{H:Hp}{b:Aw}{o:HO}(h:H a=some o)(h':H b=none):a≠b:=by grind
def kI (h:Heap) (a:Aw) (xs:Ah):Prop:=∃o,h.get? a=some o/\o.cls=.type "tuple" /\ (∃n,o.data=.seq xs n)/\o.dict=none
def kI.tup{h:Heap}{a:Aw}{xs:Ah}(p:kI h a xs):IsTup h a xs:=let⟨o,e,c,d,_⟩:=p;⟨o,e,c,d⟩
def kI.new (h:Heap) (xs:Ah):kI (h.push {cls:=.type "tuple",data:=.seq xs}) h.objs.size xs:=⟨_,Qam _ rfl,rfl,⟨_,rfl⟩,rfl⟩
def kI.lt{h:Heap}{a:Aw}{xs:Ah}(p:kI h a xs):a<h.objs.size:=p.tup.lt
section
variable (P:Aq)(w:Au)
def Y1(H:Hp)(h:Heap)(a:Aw):HO->Prop
 |.lst xs=>xs.length<=sizeLine/\∃(D:Ag) (n:Nat),Vals xs D/\h.get? a=some {cls:=.type "list",data:=.seq D.toArray n}
 |.tup xs=>xs.length<=sizeLine/\∃D:Ag,Vals xs D/\kI h a D.toArray
 |.dK kvs=>kvs.length<=sizeLine/\(a == sysModules)=false/\∃vs,KV kvs vs/\h.DictOf (ZH P w) a vs
 |.dT kvs=>kvs.length<=sizeLine/\(a == sysModules)=false/\∃xs:List (List Key×Aw×Av),
   Paired (fun(p:List Key×V) (q:List Key×Aw×Av)=>p.1=q.1/\H q.2.1=some (.tup (p.1.map kV))/\RelV p.2 q.2.2) kvs xs /\
   ∃o es ep,h.get? a=some o/\o.ExactDict/\o.data=.dict es ep/\es.toList=xs.map (entryOfKey (tupleKind (ZH P w)))/\(xs.map (·.1)).Nodup
 |.set S n=>h.SetOf (intKind P w) a S n
 |.ins C dx fs=>H dx=some (.own a)/\fs.length<=1000/\dx≠a/\h.get? a=some (PySem.W.instObj C dx) /\
   ∃mA,h.Ns1 dx mA/\(∀f,uK (fs.lookup f) (mA f))/\PySem.Within mA (fs.map (·.1))
 |.own _=>∃o,h.get? a=some o
 |.xd fs=>∃mA,h.Ns1 a mA/\∀f,uK (fs.lookup f) (mA f)
 |.rng lo hi=>∃t u v,h.get? a=some {cls:=.type "range",data:=.fields #[.int lo t,.int hi u,.int 1 v]}
 |.frz o u=>h.get? a=some o/\Y1 H h a u
 |.tbl ps=>h.get? a=some {cls:=.none,data:=.fields ps}
 |.met f x=>h.get? a=some (PySem.W.methodObj (.ref f) (.ref x))
 |.ext φ=>φ h/\(∃o,h.get? a=some o)/\∀h1 h2:Heap,φ h1->(∀o,h1.get? a=some o->h2.get? a=some o)->φ h2
def HOk(H:Hp)(h:Heap):Prop:=∀a o,H a=some o->Y1 P w H h a o
end
section
variable {P:Aq}{w:Au}{H H':Hp}{h h':Heap}{a:Aw}{o:HO}
def Y1.lt(x:Y1 P w H h a o):a<h.objs.size:=by
 cases o with
 |lst xs=>obtain⟨_,_,_,_,e⟩:=x;exact Qaq e
 |tup xs=>obtain⟨_,_,_,p⟩:=x;exact p.lt
 |dK kvs=>obtain⟨_,_,_,_,o,_,_,e,_⟩:=x;exact Qaq e
 |dT kvs=>obtain⟨_,_,_,_,o,_,_,e,_⟩:=x;exact Qaq e
 |set S n=>obtain⟨o,_,_,_,e,_⟩:=x;exact Qaq e
 |ins C dx fs=>obtain⟨_,_,_,e,_⟩:=x;exact Qaq e
 |own y=>obtain⟨_,e⟩:=x;exact Qaq e
 |xd fs=>obtain⟨_,⟨_,_,_,e,_⟩,_⟩:=x;exact Qaq e
 |rng lo hi=>obtain⟨_,_,_,e⟩:=x;exact Qaq e
 |frz ob u=>obtain⟨e,_⟩:=x;exact Qaq e
 |tbl ps=>exact Qaq (show h.get? a=some _ from x)
 |met f y=>exact Qaq (show h.get? a=some _ from x)
 |ext φ=>obtain⟨_,⟨_,e⟩,_⟩:=x;exact Qaq e
theorem Paired.mapP{α β:Type}{F G:α->β->Prop}:∀{C:List α} {q:List β},Paired F C q->(∀a b,F a b->G a b)->Paired G C q
 |_,_,.nil,_=>.nil
 |_,_,.cons r t,f=>.cons (f _ _ r) (Paired.mapP t f)
theorem Y1.stay(x:Y1 P w H h a o)(k:∀b u,(b=a\/H b=some (.own a))->h.get? b=some u->h'.get? b=some u)
  (ho:∀b,H b=some (.own a)->H' b=some (.own a)) (G:∀b xs,H b=some (.tup xs)->H' b=some (.tup xs)):Y1 P w H' h' a o:=by
 induction o with
 |lst xs=>obtain⟨z,D,n,r,e⟩:=x;exact⟨z,D,n,r,k _ _ (.inl rfl) e⟩
 |tup xs=>obtain⟨z,D,r,ob,e,c⟩:=x;exact⟨z,D,r,ob,k _ _ (.inl rfl) e,c⟩
 |dK kvs=>obtain⟨z,y,vs,r,ob,es,ep,e,c⟩:=x;exact⟨z,y,vs,r,ob,es,ep,k _ _ (.inl rfl) e,c⟩
 |dT kvs=>
  obtain⟨z,y,xs,r,ob,es,ep,e,c⟩:=x;exact⟨z,y,xs,Paired.mapP r fun p q z=>⟨z.1,G _ _ z.2.1,z.2.2⟩,ob,es,ep,k _ _ (.inl rfl) e,c⟩
 |set S n=>obtain⟨ob,es,ep,t,e,c⟩:=x;exact⟨ob,es,ep,t,k _ _ (.inl rfl) e,c⟩
 |ins C dx fs=>
  obtain⟨d,z,ne,e,mA,⟨od,es,ep,e2,c⟩,r⟩:=x;exact⟨ho _ d,z,ne,k _ _ (.inl rfl) e,mA,⟨od,es,ep,k _ _ (.inr d) e2,c⟩,r⟩
 |own y=>obtain⟨ob,e⟩:=x;exact⟨ob,k _ _ (.inl rfl) e⟩
 |xd fs=>obtain⟨mA,⟨od,es,ep,e,c⟩,r⟩:=x;exact⟨mA,⟨od,es,ep,k _ _ (.inl rfl) e,c⟩,r⟩
 |rng lo hi=>obtain⟨t,u,v,e⟩:=x;exact⟨t,u,v,k _ _ (.inl rfl) e⟩
 |frz ob u F=>obtain⟨e,q⟩:=x;exact⟨k _ _ (.inl rfl) e,F q⟩
 |tbl ps=>
  have e:h.get? a=some {cls:=.none,data:=.fields ps}:=x;exact k a _ (.inl rfl) e
 |met f y=>
  have e:h.get? a=some (PySem.W.methodObj (.ref f) (.ref y)):=x;exact k a _ (.inl rfl) e
 |ext φ=>obtain⟨p,⟨o,e⟩,st⟩:=x;exact⟨st _ _ p fun o q=>k _ _ (.inl rfl) q,⟨o,k _ _ (.inl rfl) e⟩,st⟩
def HOk.lt(x:HOk P w H h)(e:H a=some o):a<h.objs.size:=(x a o e).lt
def HOk.fresh(x:HOk P w H h)(e:h.objs.size<=a):H a=none:=by
 cases q:H a with
 |none=>rfl
 |some u=>exact absurd (Qbk (x.lt q) e) (Qce _)
theorem HOk.kept(x:HOk P w H h)(k:∀b u,h.get? b=some u->h'.get? b=some u):HOk P w H h':=fun a o e=>
 (x a o e).stay (fun b u _ q=>k b u q) (fun _ q=>q) fun _ _ q=>q
theorem HOk.laid(x:HOk P w H h)(k:∀b u,h.get? b=some u->h'.get? b=some u)(F:h.objs.size<=a)(new:Y1 P w (upd H a o) h' a o):HOk P w (upd H a o) h':=fun b u e=>by
 have C:=x.fresh F
 by_cases D:b=a
 ·subst D;rw[Za]at e;cases e;exact new
 ·rw[Zk D]at e;exact(x b u e).stay (fun c v _ q=>k c v q) (fun c q=>by rw[Zk (Zm q C)];exact q) fun c xs q=>by rw[Zk (Zm q C)];exact q
end
def Rd(H:Hp)(a:Aw)(u:HO):Prop:=H a=some u\/∃o,H a=some (.frz o u)
def Rd.ok{H:Hp}{u:HO}(r:Rd H a u)(x:HOk P w H h):Y1 P w H h a u:=by
 rcases r with r|⟨o,r⟩
 ·exact x a u r
 ·obtain⟨_,q⟩:=x a _ r;exact q
def Mut:Option HO->Prop
 |some (.lst _)=>True
 |some (.dK _)=>True
 |some (.dT _)=>True
 |some (.set _ _)=>True
 |some (.ins _ _ _)=>True
 |some (.ext _)=>True
 |_=>False
section
variable {P:Aq}{w:Au}{H:Hp}{h h':Heap}{x e:Aw}{o':HO}
def HOk.write(ok:HOk P w H h)(G:Mut (H x))(O:e=x\/H e=some (.own x))(k:∀b u,b≠e->h.get? b=some u->h'.get? b=some u)(I:∃u,h'.get? e=some u)
  (new:Y1 P w (upd H x o') h' x o'):HOk P w (upd H x o') h':=fun b u q=>by
 have C:∀c y,H c=some (.own y)->c≠x:=fun c y r z=>by subst z;rw[r]at G;exact G
 have D:∀c xs,H c=some (.tup xs)->c≠x:=fun c xs r z=>by subst z;rw[r]at G;exact G
 by_cases L:b=x
 ·subst L;rw[Za]at q;cases q;exact new
 ·rw[Zk L]at q
  by_cases F:b=e
  ·have q':H b=some (.own x):=by
    grind
   rw[q]at q';cases q';obtain⟨v,M⟩:=I;exact⟨v,by rw[F];exact M⟩
  ·refine(ok b u q).stay (fun c v J r=>k c v ?_ r) (fun c r=>by rw[Zk (C c b r)];exact r) fun c xs r=>by rw[Zk (D c xs r)];exact r
   rcases J with rfl|J
   ·exact F
   ·grind
end
structure Un(fs ex:List Aw)(H H':Hp)(h h':Heap):Prop where
 keep:∀b o,h.get? b=some o->H b=none->b∉fs->b∉ex->h'.get? b=some o
 slot:∀b o,h.get? b=some o->H b=none->b∈fs->b∉ex->∃sl,h'.get? b=some {o with slots:=sl}
 free:∀b o,h.get? b=some o->H b=none->b∉ex->H' b=none
 there:∀b o,h.get? b=some o->b∉ex->∃o',h'.get? b=some o'
 tups:∀b xs,H b=some (.tup xs)->H' b=some (.tup xs)
 frzs:∀b o u,H b=some (.frz o u)->H' b=some (.frz o u)
 tbls:∀b ps,H b=some (.tbl ps)->∃more,H' b=some (.tbl (ps++more))
section
variable {fs fs' ex ex':List Aw}{H H1 H2:Hp}{h h1 h2 h':Heap}{a x e:Aw}{o:HO}
def Un.any(u:Un fs ex H H1 h h1){b:Aw}{ob:Obj}(q:h.get? b=some ob)(n:H b=none)(C:b∉ex):∃F,h1.get? b=some {ob with slots:=F}:=by
 by_cases D:b∈fs
 ·exact u.slot b ob q n D C
 ·exact⟨ob.slots,u.keep b ob q n D C⟩
theorem Un.kept(k:∀b u,h.get? b=some u->h'.get? b=some u):Un fs ex H H h h':=
 ⟨fun b ob q _ _ _=>k b ob q,fun b ob q _ _ _=>⟨ob.slots,k b ob q⟩,fun _ _ _ n _=>n,fun b ob q _=>⟨ob,k b ob q⟩,fun _ _ q=>q,fun _ _ _ q=>q,fun _ ps q=>⟨#[],by rw[q];simp⟩⟩
def Un.refl:Un fs ex H H h h:=Un.kept fun _ _ q=>q
theorem Un.laid(k:∀b u,h.get? b=some u->h'.get? b=some u)(D:h.objs.size<=a)(C:H a=none):Un fs ex H (upd H a o) h h' where
 keep:=fun b u q _ _ _=>k b u q
 slot:=fun b u q _ _ _=>⟨u.slots,k b u q⟩
 free:=fun b u q n _=>by rw[Zk (Qbf (Qbk (Qaq q) D))];exact n
 there:=fun b u q _=>⟨u,k b u q⟩
 tups:=fun b xs q=>by rw[Zk (Zm q C)];exact q
 frzs:=fun b u xs q=>by rw[Zk (Zm q C)];exact q
 tbls:=fun b ps q=>⟨#[],by rw[Zk (Zm q C),q];simp⟩
def Un.write(D:Mut (H x))(L:e=x\/H e=some (.own x))(k:∀b u,b≠e->h.get? b=some u->h'.get? b=some u)(F:∃u,h'.get? e=some u):Un fs ex H (upd H x o) h h':=by
 have J:∀b,H b=none->b≠x:=fun b n z=>by subst z;rw[n]at D;exact D
 have I:∀b,H b=none->b≠e:=fun b n z=>by
  grind
 have G:∀b u,H b=some u->¬Mut (some u)->b≠x:=fun b u q nm z=>by subst z;rw[q]at D;exact nm D
 refine⟨fun b u q n _ _=>k b u (I b n) q,fun b u q n _ _=>⟨u.slots,k b u (I b n) q⟩,fun b u q n _=>by rw[Zk (J b n)];exact n,fun b u q _=>?_,
  fun b xs q=>by rw[Zk (G b _ q fun z=>z)];exact q,fun b u xs q=>by rw[Zk (G b _ q fun z=>z)];exact q,fun b ps q=>⟨#[],by rw[Zk (G b _ q fun z=>z),q];simp⟩⟩
 by_cases C:b=e
 ·subst C;exact F
 ·exact⟨u,k b u C q⟩
end
def trk(h:Heap)(H:Hp):List Aw:=(List.range h.objs.size).filter fun a=>(H a).isSome
def Zbi(h:Heap)(H:Hp):Heap:=PySem.W.hideAll h (trk h H)
def Zbj(h:Heap)(H:Hp):(Zbi h H).objs.size=h.objs.size:=PySem.W.hideAll_size _ _
theorem Zfz{H:Hp}{b:Aw}{o:Obj}(e:h.get? b=some o)(n:H b=none):(Zbi h H).get? b=some o:=
 PySem.W.hideAll_get _ e fun C=>by
  have q:(H b).isSome=true:=(Qdn.mp C).2;rw[n]at q;simp at q
def Zj4{H:Hp}{b:Aw}{o:Obj}(e:(Zbi h H).get? b=some o):h.get? b=some o/\H b=none:=by
 have C:h.get? b=some o:=PySem.W.of_hideAll (trk h H) e;refine⟨C,?_⟩;cases q:H b with
 |none=>rfl
 |some x=>
  have D:b∈trk h H:=Qdn.mpr ⟨Qbu.mpr (Qaq C),by simp[q]⟩;have z:(Zbi h H).get? b=none:=PySem.W.hideAll_none (trk h H) D;rw[z]at e;cases e
structure Mod(K:Af)(mg:Ae)(base:Heap):Prop where
 kin:K.In base
 glob:base.Ns mainGlobals mg
 blt:∃mb,base.Ns builtinsNs mb/\∀x:Str,x ≠ "__name__" ->mb x=bootBuiltins x
 nolimit:base.NoLimit
set_option genInjectivity false in
set_option genSizeOfSpec false in
structure Cx where
 prog:Aq
 w:Au
 K:Af
 mg:Ae
 base:Heap
 A:Ar
 N:Ai
 s₀:As
 H₀:Hp
 env:Env
 outer:List Env
 stack:List Env
 ex:List Aw
 fn:Str->Bool
 calm:Bool
 pn:Ac
 xe:Ab
abbrev A4{q:Type}(X:Cx):=@wpAny q (model X.prog X.w) X.A
def frs(l:List Env):List Aw:=l.filterMap (·.frame)
abbrev Cx.fs(X:Cx):List Aw:=frs X.outer
def Vis(q:Scope)(x:Str):Prop:=q.names.lookup x=some .local\/q.names.lookup x=some .cell\/q.names.lookup x=some .free
def Loc(q:Scope)(x:Str):Prop:=q.names.lookup x=some .local\/q.names.lookup x=some .cell
def Look(env:Env)(h:Heap)(m:Ae)(x:Str)(u:Av):Prop:=
 (env.kindOf x=some .local/\m x=some u)\/((env.kindOf x=some .cell\/env.kindOf x=some .free)/\∃c,env.cells.lookup x=some c/\h.IsCell c (some u))
set_option genInjectivity false in
set_option genSizeOfSpec false in
structure Cx.Ok(X:Cx):Prop where
 mod:Mod X.K X.mg X.base
 kind:X.env.scope.kind=.function
 glob:X.env.globals=mainGlobals
 blt:X.env.builtins=builtinsNs
 above:X.s₀.heap.objs.size<=X.env.locals
 inj:∀x y c,X.env.cells.lookup x=some c->X.env.cells.lookup y=some c->x=y
 has:∀x,(X.env.kindOf x=some .cell\/X.env.kindOf x=some .free)->∃c,X.env.cells.lookup x=some c
 cab:∀x c,X.fn x=true->X.env.cells.lookup x=some c->X.s₀.heap.objs.size<=c
 hd:X.calm=true->X.A.handled=none
 frames:X.A.frames=some X.stack
 stk:X.stack=X.outer\/(X.stack=X.env::X.outer/\X.env.frame=some X.env.locals)
 exf:∀b∈X.ex,b≠X.env.locals/\∀x c,X.env.cells.lookup x=some c->c≠b
 bs:∀b o,X.base.get? b=some o->X.s₀.heap.get? b=some o/\X.H₀ b=none
 bsz:X.base.objs.size<=X.s₀.heap.objs.size
 noex:∀b o,X.base.get? b=some o->b∉X.ex
 exfs:∀b∈X.ex,b∉X.fs
 funs:X.s₀.heap.FunFrames X.base X.outer
 frf:∀b∈X.fs,X.H₀ b=none
structure Inv(X:Cx)(pins:Ac)(σ:List (Option V))(H:Hp)(s:As):Prop where
 ok:X.Ok
 os:s.os=X.s₀.os
 bare:AllBare s.gens
 base:Un X.fs X.ex X.H₀ H X.s₀.heap s.heap
 loc:∃m,s.heap.Ns X.env.locals m/\∀(i:Nat) (x:Str) (v:V),X.N[i]?=some x->σ[i]?=some (some v)->Vis X.env.scope x->∃u,RelV v u/\Look X.env s.heap m x u
 cell:∀x c,X.env.cells.lookup x=some c->∃v,s.heap.IsCell c v
 free:H X.env.locals=none
 freeC:∀x c,X.env.cells.lookup x=some c->H c=none
 pin:∀p∈X.pn++pins,s.heap.get? p.1=some p.2/\H p.1=none/\p.1≠X.env.locals/\p.1∉X.fs/\∀v,p.2.data≠.cell v
 hok:HOk X.prog X.w H s.heap
 len:σ.length=X.N.length
section
variable {X:Cx}{pins:Ac}{σ:List (Option V)}{H H':Hp}{s:As}{h':Heap}
theorem Cx.Ok.nofr(ok:X.Ok){b:Aw}{o:Obj}(e:X.base.get? b=some o):b∉X.fs:=fun q=>by
 have:=(ok.funs.mem q).1;rw[e]at this;cases this
theorem Inv.bs(I:Inv X pins σ H s):∀b o,X.base.get? b=some o->s.heap.get? b=some o/\H b=none:=fun b o e=>
 ⟨I.base.keep b o (I.ok.bs b o e).1 (I.ok.bs b o e).2 (I.ok.nofr e) (I.ok.noex b o e),I.base.free b o (I.ok.bs b o e).1 (I.ok.bs b o e).2 (I.ok.noex b o e)⟩
def Inv.bk(I:Inv X pins σ H s):∀b o,X.base.get? b=some o->s.heap.get? b=some o:=fun b o e=>(I.bs b o e).1
def Inv.mod(I:Inv X pins σ H s):Mod X.K X.mg X.base:=I.ok.mod
def Inv.kIn(I:Inv X pins σ H s):X.K.In s.heap:=I.ok.mod.kin.keeps I.bk
def Inv.lt(I:Inv X pins σ H s):X.env.locals<s.heap.objs.size:=let⟨_,hn,_⟩:=I.loc;hn.lt
def Inv.sz(I:Inv X pins σ H s):X.s₀.heap.objs.size<=s.heap.objs.size:=Qbc I.ok.above (Qav I.lt)
theorem Inv.nofs(I:Inv X pins σ H s)(h:s.heap.objs.size<=a):a∉X.fs:=fun q=>by
 obtain⟨_,o,ho,_⟩:=I.ok.funs.mem q;exact absurd (Qbk (Qaq ho) (Qbc I.sz h)) (Qce _)
theorem Inv.cne(I:Inv X pins σ H s):∀x c,X.env.cells.lookup x=some c->c≠X.env.locals:=fun x c e z=>by
 obtain⟨v,o,ho,D⟩:=I.cell x c e;obtain⟨m,⟨o',es,ep,q,C,_⟩,_⟩:=I.loc;rw[z,q]at ho;cases ho;rw[C]at D;cases D
theorem Inv.funs(I:Inv X pins σ H s):s.heap.FunFrames X.base X.outer:=by
 have all:∀(l:List Env),(∀b∈frs l,b∈X.fs)->X.s₀.heap.FunFrames X.base l->s.heap.FunFrames X.base l:=by
  intro l
  induction l with
  |nil=>intro _ _;trivial
  |cons env r Y=>
   intro hs F;obtain⟨O,⟨L,o,D,J,ho,G⟩,M⟩:=F;have q:L∈X.fs:=hs L (by unfold frs;rw[Qef,D];exact Qai);obtain⟨Z,e⟩:=I.base.slot L o ho (I.ok.frf L q) q fun z=>I.ok.exfs L z q;exact⟨O,⟨L,_,D,J,e,G⟩,Y (fun b C=>hs b (by unfold frs;rw[Qef,D];exact Qal _ C)) M⟩
 exact all X.outer (fun _ C=>C) I.ok.funs
def Inv.stack(I:Inv X pins σ H s):s.heap.FunFrames X.base X.stack:=by
 rcases I.ok.stk with e|⟨e,q⟩
 ·rw[e];exact I.funs
 ·rw[e];obtain⟨m,C,_⟩:=I.loc;refine .cons (by rw[I.ok.kind];decide) q C ?_ I.funs;exact Heap.get?_none_of_le (Qbc I.ok.bsz I.ok.above)
theorem Inv.stkSub(I:Inv X pins σ H s):∀b∈frs X.stack,b∈X.env.locals::X.fs:=fun b q=>by
 rcases I.ok.stk with e|⟨e,C⟩
 ·grind
 ·rw[e]at q;unfold frs at q;rw[Qef,C]at q;exact q
theorem Inv.stkFree(I:Inv X pins σ H s):∀b∈frs X.stack,H b=none:=fun b q=>by
 rcases Qao.mp (I.stkSub b q)with e|q
 ·rw[e];exact I.free
 ·obtain⟨_,o,ho,_⟩:=I.ok.funs.mem q;exact I.base.free b o ho (I.ok.frf b q) fun z=>I.ok.exfs b z q
def Inv.step{g':Array GenState}{t':Nat}{d':Drawn}{ch:List Aw}(I:Inv X pins σ H s)
  (G:∀b∈ch,(b∈X.ex\/X.s₀.heap.objs.size<=b)/\b≠X.env.locals/\(∀x c,X.env.cells.lookup x=some c->c≠b)/\∀p∈X.pn++pins,p.1≠b)
  (keep:∀b o,b≠X.env.locals->b∉X.fs->b∉ch->s.heap.get? b=some o->H b=none->h'.get? b=some o)
  (L:∀b o,b≠X.env.locals->b∈X.fs->b∉ch->s.heap.get? b=some o->H b=none->∃sl,h'.get? b=some {o with slots:=sl}) (free:∀b o,b∉ch->s.heap.get? b=some o->H b=none->H' b=none)
  (M:∀b o,b∉ch->s.heap.get? b=some o->∃o',h'.get? b=some o')
  (tups:∀b xs,H b=some (.tup xs)->H' b=some (.tup xs)) (frzs:∀b o u,H b=some (.frz o u)->H' b=some (.frz o u)) (Z:∀b ps,H b=some (.tbl ps)->∃Y,H' b=some (.tbl (ps++Y)))
  (ns:∀m,s.heap.Ns X.env.locals m->h'.Ns X.env.locals m) (hok:HOk X.prog X.w H' h') (hg:AllBare g'):
  Inv X pins σ H' {s with heap:=h',gens:=g',drawn:=d',toks:=t'}:=by
 have neL:∀b o,X.s₀.heap.get? b=some o->b≠X.env.locals:=fun b o e=>Qbf (Qbk (Qaq e) I.ok.above);have J:∀b o,X.s₀.heap.get? b=some o->b∉X.ex->b∉ch:=fun b o e C O=>by
  rcases(G b O).1 with z|z
  ·exact C z
  ·exact absurd (Qbk (Qaq e) z) (Qce _)
 have D:∀x c,X.env.cells.lookup x=some c->∀v,s.heap.IsCell c v->h'.IsCell c v:=fun x c e v ⟨o,ho,hd⟩=>by
  have F:c∉ch:=fun z=>(G c z).2.2.1 x c e rfl
  by_cases hc:c∈X.fs
  ·obtain⟨sl,q⟩:=L c o (I.cne x c e) hc F ho (I.freeC x c e);exact⟨_,q,hd⟩
  ·exact⟨o,keep c o (I.cne x c e) hc F ho (I.freeC x c e),hd⟩
 refine⟨I.ok,I.os,hg,⟨fun b o e n O C=>?_,fun b o e n O C=>?_,fun b o e n C=>?_,fun b o e C=>?_,fun b xs e=>tups b xs (I.base.tups b xs e),fun b o xs e=>frzs b o xs (I.base.frzs b o xs e),fun b ps e=>?_⟩,?_,fun x c e=>?_,?_,fun x c e=>?_,fun p hp=>?_,hok,I.len⟩
 ·exact keep b o (neL b o e) O (J b o e C) (I.base.keep b o e n O C) (I.base.free b o e n C)
 ·obtain⟨sl,e1⟩:=I.base.slot b o e n O C;obtain⟨sl',e2⟩:=L b _ (neL b o e) O (J b o e C) e1 (I.base.free b o e n C);exact⟨sl',e2⟩
 ·obtain⟨o',e1⟩:=I.base.there b o e C;exact free b o' (J b o e C) e1 (I.base.free b o e n C)
 ·obtain⟨o',e1⟩:=I.base.there b o e C;exact M b o' (J b o e C) e1
 ·obtain⟨m1,e1⟩:=I.base.tbls b ps e;obtain⟨m2,e2⟩:=Z b _ e1;exact⟨m1++m2,by rw[e2,Array.append_assoc]⟩
 ·obtain⟨m,hn,hl⟩:=I.loc;refine⟨m,ns m hn,fun i x v e1 e2 e3=>?_⟩;obtain⟨u,r,l⟩:=hl i x v e1 e2 e3;refine⟨u,r,?_⟩;rcases l with l|⟨k,c,e,z⟩
  ·exact .inl l
  ·exact .inr ⟨k,c,e,D x c e _ z⟩
 ·obtain⟨v,z⟩:=I.cell x c e;exact⟨v,D x c e v z⟩
 ·obtain⟨m,⟨o,_,_,ho,_⟩,_⟩:=I.loc;exact free _ o (fun z=>(G _ z).2.1 rfl) ho I.free
 ·obtain⟨v,o,ho,hd⟩:=I.cell x c e;exact free c o (fun z=>(G c z).2.2.1 x c e rfl) ho (I.freeC x c e)
 ·obtain⟨e,n,ne,nf,d⟩:=I.pin p hp;have F:p.1∉ch:=fun z=>(G p.1 z).2.2.2 p hp rfl;exact⟨keep p.1 p.2 ne nf F e n,free p.1 p.2 F e n,ne,nf,d⟩
def Inv.un{t':Nat}(I:Inv X pins σ H s)(u:Un X.fs [] H H' s.heap h')(G:HOk X.prog X.w H' h'):Inv X pins σ H' {s with heap:=h',toks:=t'}:=by
 obtain⟨m,⟨o,es,ep,ho,r⟩,_⟩:=id I.loc;obtain⟨Y,L⟩:=u.any ho I.free (by simp);exact I.step (g':=s.gens) (d':=s.drawn) (ch:=[]) (fun _ z=>nomatch z) (fun b o _ F _ e n=>u.keep b o e n F (by simp)) (fun b o _ F _ e n=>u.slot b o e n F (by simp)) (fun b o _ e n=>u.free b o e n (by simp)) (fun b o _ e=>u.there b o e (by simp)) u.tups u.frzs u.tbls (fun O M=>by
  obtain⟨o',D,C,q,J⟩:=M;rw[ho]at q;cases q;exact⟨_,D,C,L,J⟩) G I.bare
def Inv.call{g':Array GenState}{t':Nat}{d':Drawn}{ch:List Aw}(I:Inv X pins σ H s)(u:Un (frs X.stack) ch H H' s.heap h')(L:HOk X.prog X.w H' h')(Y:AllBare g')
  (D:∀b∈ch,(b∈X.ex\/X.s₀.heap.objs.size<=b)/\b≠X.env.locals/\(∀x c,X.env.cells.lookup x=some c->c≠b)/\∀p∈X.pn++pins,p.1≠b):
  Inv X pins σ H' {s with heap:=h',gens:=g',drawn:=d',toks:=t'}:=by
 obtain⟨m,⟨o,es,ep,ho,r⟩,_⟩:=id I.loc;obtain⟨sl,G⟩:=u.any ho I.free fun z=>(D _ z).2.1 rfl;exact I.step (ch:=ch) D (fun b o G O q e n=>u.keep b o e n (fun z=>(Qao.mp (I.stkSub b z)).elim G O) q) (fun b o _ _ q e n=>u.any e n q) (fun b o q e n=>u.free b o e n q) (fun b o q e=>u.there b o e q) u.tups u.frzs u.tbls (fun m' Z=>by
  obtain⟨o',J,F,C,M⟩:=Z;rw[ho]at C;cases C;exact⟨_,J,F,G,M⟩) L Y
def Inv.turned{t':Nat}{it:Aw}(I:Inv X pins σ H s)(k:∀b o,b≠it->s.heap.get? b=some o->h'.get? b=some o)(G:H it=none)(F:it≠X.env.locals)
  (h1:it∈X.ex\/X.s₀.heap.objs.size<=it) (h2:∀x c,X.env.cells.lookup x=some c->c≠it) (M:∀p∈X.pn++pins,p.1≠it):Inv X pins σ H {s with heap:=h',toks:=t'}:=by
 have D:∀b u,H b=some u->b≠it:=fun b u e z=>by rw[z,G]at e;cases e
 refine I.step (g':=s.gens) (d':=s.drawn) (ch:=[it]) (fun b L=>?_) (fun b o _ _ C e _=>k b o (fun z=>C (by simp[z])) e) (fun b o _ _ C e _=>⟨o.slots,k b o (fun z=>C (by simp[z])) e⟩) (fun _ _ _ _ n=>n)
  (fun b o C e=>⟨o,k b o (fun z=>C (by simp[z])) e⟩) (fun _ _ e=>e) (fun _ _ _ e=>e) (fun b ps e=>⟨#[],by rw[e];simp⟩) (fun m J=>?_) (fun b u e=>?_) I.bare
 ·grind
 ·obtain⟨o,es,ep,ho,r⟩:=J;exact⟨o,es,ep,k _ o (Qd3 F) ho,r⟩
 ·refine(I.hok b u e).stay (fun c v C q=>k c v ?_ q) (fun _ q=>q) fun _ _ q=>q
  rcases C with z|z
  ·rw[z];exact D b u e
  ·exact D c _ z
def Inv.tok(I:Inv X pins σ H s)(t:Nat):Inv X pins σ H {s with toks:=t}:=I.un (h':=s.heap) (t':=t) Un.refl I.hok
def Inv.kept{t':Nat}(I:Inv X pins σ H s)(k:∀b u,s.heap.get? b=some u->h'.get? b=some u):Inv X pins σ H {s with heap:=h',toks:=t'}:=I.un (Un.kept k) (I.hok.kept k)
theorem Inv.laid{a:Aw}{o:HO}{t':Nat}(I:Inv X pins σ H s)(k:∀b u,s.heap.get? b=some u->h'.get? b=some u)(q:s.heap.objs.size<=a)(new:Y1 X.prog X.w (upd H a o) h' a o):
  Inv X pins σ (upd H a o) {s with heap:=h',toks:=t'}:=I.un (Un.laid k q (I.hok.fresh q)) (I.hok.laid k q new)
theorem Inv.write{x e:Aw}{o:HO}{t':Nat}(I:Inv X pins σ H s)(C:Mut (H x))(D:e=x\/H e=some (.own x))(k:∀b u,b≠e->s.heap.get? b=some u->h'.get? b=some u)(q:∃u,h'.get? e=some u)
  (new:Y1 X.prog X.w (upd H x o) h' x o):Inv X pins σ (upd H x o) {s with heap:=h',toks:=t'}:=I.un (Un.write C D k q) (I.hok.write C D k q new)
theorem Inv.pins_of(I:Inv X pins σ H s)(h:∀p∈m,s.heap.get? p.1=some p.2/\H p.1=none/\p.1≠X.env.locals/\p.1∉X.fs/\∀v,p.2.data≠.cell v):Inv X m σ H s:=
 ⟨I.ok,I.os,I.bare,I.base,I.loc,I.cell,I.free,I.freeC,fun p q=>(Qbo.mp q).elim (fun z=>I.pin p (Qd4 _ z)) (h p),I.hok,I.len⟩
def gs(q:N.Nodup){j:Nat}(a:N[i]?=some x)(b:N[j]?=some x):i=j:=by
 obtain⟨h1,e1⟩:=Qag.mp a;obtain⟨h2,e2⟩:=Qag.mp b;exact(List.getElem_inj q).mp (e1.trans e2.symm)
theorem Zbk{M:Model}{A:Ar}{E:Ab}{v:V}{u:Av}{Q:Unit->Shared->Prop}(I:Inv X pins σ H s)(hN:X.N.Nodup)(hi:X.N[i]?=some x)(F:Loc X.env.scope x)(r:RelV v u)
  (h:∀s',Inv X pins (σ.set i (some v)) H s'->(∃a,Heap.SameBut a s.heap s'.heap/\(a=X.env.locals\/X.env.cells.lookup x=some a))->Q () s') (hf:X.fn x=true\/X.env.scope.names.lookup x=some .local:=by first|exact .inl rfl|exact .inr rfl|assumption):wpAny M A (storeName X.env x u) Q E s:=by
 obtain⟨m,hn,hl⟩:=id I.loc;have hcls:(X.env.scope.kind == .class||(X.env.scope.kind == .module&&X.env.locals != X.env.globals))=false:=by rw[I.ok.kind];rfl
 have J:i<σ.length:=by rw[I.len];exact(Qag.mp hi).1
 have cne:=I.cne;have C:∀{a:Aw} {h':Heap},(∃o,s.heap.get? a=some o/\H a=none)->Heap.SameBut a s.heap h'->HOk X.prog X.w H h':=fun{a h'} ha hs b ob e=>by
  obtain⟨_,_,G⟩:=ha;refine(I.hok b ob e).stay (fun c w' D q=>(hs.2 c ?_).trans q) (fun _ q=>q) fun _ _ q=>q;rintro rfl;rcases D with rfl|D
  ·rw[G]at e;cases e
  ·rw[G]at D;cases D
 rcases F with L|L
 ·refine wpAny_storeName_local L hn (fun h' hn' hs=>?_) hcls;obtain⟨oL,_,_,hoL,_⟩:=id hn;refine h _ ⟨I.ok,I.os,I.bare,⟨fun b o e n Y F=>?_,fun b o e n Y F=>?_,I.base.free,fun b o e F=>?_,I.base.tups,I.base.frzs,I.base.tbls⟩,⟨_,hn',fun j y v' e1 e2 e3=>?_⟩,fun y c e=>?_,I.free,I.freeC,fun p hp=>?_,C ⟨oL,hoL,I.free⟩ hs,by simpa using I.len⟩ ⟨_,hs,.inl rfl⟩
  ·exact(hs.2 b (Qbf (Qbk (Qaq e) I.ok.above))).trans (I.base.keep b o e n Y F)
  ·obtain⟨sl,e1⟩:=I.base.slot b o e n Y F;exact⟨sl,(hs.2 b (Qbf (Qbk (Qaq e) I.ok.above))).trans e1⟩
  ·obtain⟨o',e1⟩:=I.base.there b o e F;exact⟨o',(hs.2 b (Qbf (Qbk (Qaq e) I.ok.above))).trans e1⟩
  ·by_cases Z:j=i
   ·subst Z;rw[hi]at e1;cases e1;rw[List.getElem?_set_self J]at e2;cases e2;exact⟨u,r,.inl ⟨L,by simp⟩⟩
   ·rw[List.getElem?_set_ne (Qd3 Z)]at e2;obtain⟨u',r',q⟩:=hl j y v' e1 e2 e3;refine⟨u',r',?_⟩;rcases q with⟨k,e⟩|⟨k,c,e,z⟩
    ·refine .inl ⟨k,?_⟩;have:y≠x:=fun e=>Z (gs hN e1 (e ▸ hi));simp[this,e]
    ·exact .inr ⟨k,c,e,z.sameBut hs (cne y c e)⟩
  ·obtain⟨w',z⟩:=I.cell y c e;exact⟨w',z.sameBut hs (cne y c e)⟩
  ·obtain⟨e,n,ne,nf,d⟩:=I.pin p hp;exact⟨(hs.2 p.1 ne).trans e,n,ne,nf,d⟩
 ·have O:X.fn x=true:=by
   rcases hf with z|z
   ·exact z
   ·rw[z]at L;cases L
  obtain⟨c,D⟩:=I.ok.has x (.inl L);obtain⟨w',z⟩:=I.cell x c D;refine wpAny_storeName_cell I.ok.kind L D z (fun h' hc' hs=>?_);obtain⟨oc,hoc,hocd⟩:=id z;refine h {s with heap:=h'} ⟨I.ok,I.os,I.bare,⟨fun b o e n Y F=>?_,fun b o e n Y F=>?_,I.base.free,fun b o e F=>?_,I.base.tups,I.base.frzs,I.base.tbls⟩,⟨m,hn.sameBut hs (Qd3 (cne x c D)),fun j y v' e1 e2 e3=>?_⟩,fun y c' e=>?_,I.free,I.freeC,fun p hp=>?_,C ⟨oc,hoc,I.freeC x c D⟩ hs,by simpa using I.len⟩ ⟨c,hs,.inr D⟩
  ·exact(hs.2 b (Qbf (Qbk (Qaq e) (I.ok.cab x c O D)))).trans (I.base.keep b o e n Y F)
  ·obtain⟨sl,e1⟩:=I.base.slot b o e n Y F;exact⟨sl,(hs.2 b (Qbf (Qbk (Qaq e) (I.ok.cab x c O D)))).trans e1⟩
  ·obtain⟨o',e1⟩:=I.base.there b o e F;exact⟨o',(hs.2 b (Qbf (Qbk (Qaq e) (I.ok.cab x c O D)))).trans e1⟩
  ·by_cases Z:j=i
   ·subst Z;rw[hi]at e1;cases e1;rw[List.getElem?_set_self J]at e2;cases e2;exact⟨u,r,.inr ⟨.inl L,c,D,hc'⟩⟩
   ·rw[List.getElem?_set_ne (Qd3 Z)]at e2;obtain⟨u',r',q⟩:=hl j y v' e1 e2 e3;refine⟨u',r',?_⟩;rcases q with q|⟨k,c',e,z'⟩
    ·exact .inl q
    ·refine .inr ⟨k,c',e,z'.sameBut hs ?_⟩;rintro rfl;exact Z (gs hN e1 (I.ok.inj _ _ _ e D ▸ hi))
  ·by_cases hcc:c'=c
   ·subst hcc;exact⟨_,hc'⟩
   ·obtain⟨w2,z2⟩:=I.cell y c' e;exact⟨w2,z2.sameBut hs hcc⟩
  ·obtain⟨e,n,ne,nf,d⟩:=I.pin p hp;refine⟨(hs.2 p.1 ?_).trans e,n,ne,nf,d⟩;intro q;rw[q,hoc]at e;have q':oc=p.2:=Option.some.inj e;exact d w' (by rw[<-q'];exact hocd)
theorem Jm{M:Model}{A:Ar}{E:Ab}{v:V}{u:Av}{Q:Unit->Shared->Prop}(I:Inv X pins σ H s)(q:X.N.Nodup)(hi:X.N[i]?=some x)(C:Loc X.env.scope x)(r:RelV v u)
  (h:∀s',Inv X pins (σ.set i (some v)) H s'->Q () s') (D:X.fn x=true\/X.env.scope.names.lookup x=some .local:=by first|exact .inl rfl|exact .inr rfl|assumption):wpAny M A (storeName X.env x u) Q E s:=
 Zbk I q hi C r (fun s' F _=>h s' F) D
def Inv.call'{s':As}{ch:List Aw}(I:Inv X pins σ H s)(ho:s'.os=s.os)(u:Un (frs X.stack) ch H H' s.heap s'.heap)(C:HOk X.prog X.w H' s'.heap)(D:AllBare s'.gens)
  (q:∀b∈ch,(b∈X.ex\/X.s₀.heap.objs.size<=b)/\b≠X.env.locals/\(∀x c,X.env.cells.lookup x=some c->c≠b)/\∀p∈X.pn++pins,p.1≠b):Inv X pins σ H' s':=by
 obtain⟨h',g',d',t',o'⟩:=s';have e:o'=s.os:=ho;subst e;exact I.call (g':=g') (t':=t') (d':=d') u C D q
end
abbrev XK:=Av->Option Aw->Hp->Prop
abbrev St:=List (Option V)
abbrev Az:=List (List V)
abbrev A0:=List (Key×V)
abbrev A1:=St->Hp->Prop
abbrev A2:=List V
abbrev VK:=V->Hp->Prop
abbrev TE:=St->Hp->VK->Prop
abbrev TT:=St->Hp->(Bool->Hp->Prop)->Prop
abbrev TA:=St->Hp->(A2->Hp->Prop)->Prop
structure Ends where
 nx:A1
 rt:VK
 bk:A1:=fun _ _=>False
 ct:A1:=fun _ _=>False
abbrev TS:=Ends->St->Hp->Prop
inductive EP_i(X:Cx)(pins:Ac)(σ:St)(Q:VK)(u:Av)(s':As):Prop
 |mk (v H':_):(Inv X pins σ H' s')->(RelV v u)->(Q v H')->EP_i X pins σ Q u s'
def EP(X:Cx)(pins:Ac)(σ:St)(Q:VK)(u:Av)(s':As):Prop:=EP_i X pins σ Q u s'
inductive TP_i(X:Cx)(pins:Ac)(σ:St)(Q:Bool->Hp->Prop)(b:Bool)(s':As):Prop
 |mk (H':_):(Inv X pins σ H' s')->(Q b H')->TP_i X pins σ Q b s'
def TP(X:Cx)(pins:Ac)(σ:St)(Q:Bool->Hp->Prop)(b:Bool)(s':As):Prop:=TP_i X pins σ Q b s'
inductive AP_i(X:Cx)(pins:Ac)(σ:St)(Q:A2->Hp->Prop)(us:Ag)(s':As):Prop
 |mk (vs H':_):(Inv X pins σ H' s')->(Vals vs us)->(Q vs H')->AP_i X pins σ Q us s'
def AP(X:Cx)(pins:Ac)(σ:St)(Q:A2->Hp->Prop)(q:Ag)(s':As):Prop:=AP_i X pins σ Q q s'
def SP(X:Cx)(pins:Ac)(D:Ends)(f:Flow)(s':As):Prop:=
 match f with
 |.next=>∃q H',Inv X pins q H' s'/\D.nx q H'
 |.brk=>∃q H',Inv X pins q H' s'/\D.bk q H'
 |.cont=>∃q H',Inv X pins q H' s'/\D.ct q H'
 |.ret u=>∃v q H',Inv X pins q H' s'/\RelV v u/\D.rt v H'
def PE(X:Cx)(e:Ax)(t:TE):Prop:=
 ∀(pins:Ac) (s:As) (σ:St) (H:Hp) (Q:VK),Inv X pins σ H s->t σ H Q->A4 X (eval e X.env) (EP X pins σ Q) X.xe s
def PT(X:Cx)(e:Ax)(t:TT):Prop:=
 ∀(pins:Ac) (s:As) (σ:St) (H:Hp) (Q:Bool->Hp->Prop),Inv X pins σ H s->t σ H Q->A4 X (isTrue e X.env (eval e X.env)) (TP X pins σ Q) X.xe s
def PW(X:Cx)(e:Ax)(t:TT):Prop:=
 ∀(q:Sem Av) (pins:Ac) (s:As) (σ:St) (H:Hp) (Q:Bool->Hp->Prop),Inv X pins σ H s->t σ H Q->A4 X (isTrue e X.env q) (TP X pins σ Q) X.xe s
def PW.pt{X:Cx}{t:TT}(h:PW X e t):PT X e t:=h _
def PA(X:Cx)(es:An)(t:TA):Prop:=
 ∀(pos:Pos) (pins:Ac) (s:As) (σ:St) (H:Hp) (Q:A2->Hp->Prop),Inv X pins σ H s->t σ H Q->A4 X (spliced (backTo pos (starEach es X.env))) (AP X pins σ Q) X.xe s
def PS(X:Cx)(st:Ay)(t:TS):Prop:=
 ∀(pins:Ac) (s:As) (σ:St) (H:Hp) (D:Ends),Inv X pins σ H s->t D σ H->A4 X (exec st X.env) (SP X pins D) X.xe s
def PSs(X:Cx)(st:List Ay)(t:TS):Prop:=
 ∀(pins:Ac) (s:As) (σ:St) (H:Hp) (D:Ends),Inv X pins σ H s->t D σ H->A4 X (execs st X.env) (SP X pins D) X.xe s
def thn{t:Sem d}{Q q:d->Shared->Prop}{M:Model}{A:Ar}{E:Ab}(h:wpAny M A t Q E s)(C:∀a s,Q a s->q a s):wpAny M A t q E s:=Qdi h C fun _ _ x=>x
section
variable {X:Cx}
inductive Zia(i:Nat)(σ:St)(H:Hp)(Q:VK):Prop
 |mk (v:_):(σ[i]?=some (some v))->(Q v H)->Zia i σ H Q
def yP(i:Nat):TE:=fun σ H Q=>Zia i σ H Q
def tC(v:V):TE:=fun _ H Q=>Q v H
def Zib    (Y:X.N[i]?=some x) (J:Vis X.env.scope x) (D:(x == ("__debug__" : Str))=false:=by decide) (F:(x == ("__classdict__" : Str))=false:=by decide):PE X (.Name x p) (yP i):=by
 intro pins s σ H Q I h;obtain⟨v,e,h⟩:=h;obtain⟨m,M,L⟩:=I.loc;obtain⟨u,r,l⟩:=L i x v Y e J;have fin:EP X pins σ Q u s:=⟨v,H,I,r,h⟩;rcases l with⟨C,O⟩|⟨C,c,G,q⟩
 ·exact wpAny_Name (wpAny_loadName_local I.ok.kind C M O fin) D
 ·rcases C with C|C
  ·exact wpAny_Name (wpAny_loadName_cell I.ok.kind C G q fin) D
  ·exact wpAny_Name (wpAny_loadName_free I.ok.kind C G q fin F) D
def pe_int{i j pos:_}:PE X (.Constant (.int i) j pos) (tC (.int i)):=fun _ _ _ H _ I h=>wpAny_Constant_int ⟨.int i,H,I.tok _,⟨_,rfl⟩,h⟩
def pe_bl{b j pos:_}:PE X (.Constant (.bool b) j pos) (tC (.bl b)):=fun _ _ _ H _ I h=>Constant_bool ⟨.bl b,H,I,rfl,h⟩
def pe_str{x j pos:_}:PE X (.Constant (.str x) j pos) (tC (.str x)):=fun _ _ _ H _ I h=>Calls.Constant_str ⟨.str x,H,I.tok _,⟨_,rfl⟩,h⟩
def Gl(X:Cx)(x:Str):Prop:=X.env.kindOf x=some .globalImplicit
def jL{E:Ab}{σ:St}{H:Hp}{u:Av}(I:Inv X m σ H s)(q:Gl X x)(C:X.mg x=some u)(h:Q u s)
  (D:(x == ("__debug__" : Str))=false:=by decide):A4 X (eval (.Name x p) X.env) Q E s:=
 Calls.Name_function_global I.ok.kind q (Calls.loadGlobal_global (by rw[I.ok.glob];exact I.mod.glob.keeps I.bk) C h) D
def JL{E:Ab}{σ:St}{H:Hp}{u:Av}(I:Inv X m σ H s)(C:Gl X x)(D:X.mg x=none)(F:bootBuiltins x=some u)(h:Q u s)
  (q:x ≠ "__name__" :=by decide) (G:(x == ("__debug__" : Str))=false:=by decide):A4 X (eval (.Name x p) X.env) Q E s:=by
 obtain⟨J,h1,h2⟩:=I.mod.blt;exact Calls.Name_function_global I.ok.kind C (Calls.loadGlobal_builtin (by rw[I.ok.glob];exact I.mod.glob.keeps I.bk) D (by rw[I.ok.blt];exact h1.keeps I.bk) ((h2 x q).trans F) h) G
def Zj5  {v:V} {u:Av}  (q:Gl X x) (C:X.mg x=some u) (r:RelV v u) (D:(x == ("__debug__" : Str))=false:=by decide):PE X (.Name x p) (tC v):=
 fun _ _ _ H _ I h=>jL I q C ⟨v,H,I,r,h⟩ D
def Zj6  {v:V} {u:Av}  (C:Gl X x) (D:X.mg x=none) (F:bootBuiltins x=some u) (r:RelV v u) (q:x ≠ "__name__" :=by decide) (G:(x == ("__debug__" : Str))=false:=by decide):PE X (.Name x p) (tC v):=
 fun _ _ _ H _ I h=>JL I C D F ⟨v,H,I,r,h⟩ q G
variable {a b:Ax}{ta tb:TE}{pos:Pos}
inductive tB_i(Q:Bool->Hp->Prop)(x:V)(H1:Hp):Prop
 |mk (c:_):(x=.bl c)->(Q c H1)->tB_i Q x H1
def tB(t:TE):TT:=fun σ H Q=>t σ H fun x H1=>tB_i Q x H1
def pt_val{t:TE}(h:PE X e t)(J:∀C,isTrue e X.env C=(do let v <-C;standAt e.pos;holding [v] (truthy v)):=by intro _;rfl):PT X e (tB t):=by
 intro pins s σ H Q I hw;refine isTrue_plain (thn (h pins s σ H _ I hw) fun v L ⟨x,H1,F,G,D⟩=>?_) (J _);obtain⟨d,rfl,q⟩:=D;cases G;exact Qdj ⟨H1,F,q⟩
variable {tA tB':TT}{rest:An}
def tAnd(t u:TT):TT:=fun σ H Q=>t σ H fun c H1=>if c=true then u σ H1 Q else Q false H1
def tOr(t u:TT):TT:=fun σ H Q=>t σ H fun c H1=>if c=true then Q true H1 else u σ H1 Q
def tNot(t:TT):TT:=fun σ H Q=>t σ H fun c H1=>Q (!c) H1
def Zj7(ha:PT X a tA):PW X (.BoolOp .And [a] pos) tA:=by
 intro q pins s σ H Q I h;refine isTrue_and (thn (ha pins s σ H Q I h) fun c C e=>?_);cases c with
 |true=>exact isTrue_and_nil e
 |false=>exact e
def pw_or1(ha:PT X a tA):PW X (.BoolOp .Or [a] pos) tA:=by
 intro q pins s σ H Q I h;refine isTrue_or (thn (ha pins s σ H Q I h) fun c C e=>?_);cases c with
 |false=>exact isTrue_or_nil e
 |true=>exact e
def pw_and(ha:PT X a tA)(D:PW X (.BoolOp .And (b::rest) pos) tB'):PW X (.BoolOp .And (a::b::rest) pos) (tAnd tA tB'):=by
 intro F pins s σ H Q I h;refine isTrue_and (thn (ha pins s σ H _ I h) fun c G ⟨H1,C,q⟩=>?_);cases c with
 |true=>exact D F pins G σ H1 Q C q
 |false=>exact⟨H1,C,q⟩
def pw_or(ha:PT X a tA)(D:PW X (.BoolOp .Or (b::rest) pos) tB'):PW X (.BoolOp .Or (a::b::rest) pos) (tOr tA tB'):=by
 intro F pins s σ H Q I h;refine isTrue_or (thn (ha pins s σ H _ I h) fun c G ⟨H1,C,q⟩=>?_);cases c with
 |true=>exact⟨H1,C,q⟩
 |false=>exact D F pins G σ H1 Q C q
def pt_not(ha:PT X a tA):PT X (.UnaryOp .Not a pos) (tNot tA):=by
 intro pins s σ H Q I h;exact isTrue_not (thn (ha pins s σ H (fun c H1=>Q (!c) H1) I h) fun c D ⟨H1,C,q⟩=>⟨H1,C,q⟩)
inductive Zbl(tb:TE)(σ:St)(Q:VK)(x:V)(H1:Hp):Prop
 |mk (c:_):(x=.bl c)->(if c=true then tb σ H1 Q else Q (.bl false) H1)->Zbl tb σ Q x H1
def Znr(ta tb:TE):TE:=fun σ H Q=>ta σ H fun x H1=>Zbl tb σ Q x H1
inductive Zic(tb:TE)(σ:St)(Q:VK)(x:V)(H1:Hp):Prop
 |mk (c:_):(x=.bl c)->(if c=true then Q (.bl true) H1 else tb σ H1 Q)->Zic tb σ Q x H1
def tOrV(ta tb:TE):TE:=fun σ H Q=>ta σ H fun x H1=>Zic tb σ Q x H1
inductive Zbm(Q:VK)(x:V)(H1:Hp):Prop
 |mk (c:_):(x=.bl c)->(Q (.bl (!c)) H1)->Zbm Q x H1
def Zns(ta:TE):TE:=fun σ H Q=>ta σ H fun x H1=>Zbm Q x H1
def pe_one{q:_}{t:TE}(h:PE X a t):PE X (.BoolOp q [a] pos) t:=fun pins s σ H Q I hw=>BoolOp_one (h pins s σ H Q I hw)
def pe_and(ha:PE X a ta)(F:PE X (.BoolOp .And (b::rest) pos) tb):PE X (.BoolOp .And (a::b::rest) pos) (Znr ta tb):=by
 intro pins s σ H Q I h;refine BoolOp_and (thn (ha pins s σ H _ I h) fun v D ⟨x,H1,C,G,q⟩=>?_);obtain⟨c,rfl,q⟩:=q;cases G;refine Qdj ?_;cases c with
 |true=>exact F pins D σ H1 Q C q
 |false=>exact⟨.bl false,H1,C,rfl,q⟩
def pe_or(ha:PE X a ta)(F:PE X (.BoolOp .Or (b::rest) pos) tb):PE X (.BoolOp .Or (a::b::rest) pos) (tOrV ta tb):=by
 intro pins s σ H Q I h;refine BoolOp_or (thn (ha pins s σ H _ I h) fun v D ⟨x,H1,C,G,q⟩=>?_);obtain⟨c,rfl,q⟩:=q;cases G;refine Qdj ?_;cases c with
 |false=>exact F pins D σ H1 Q C q
 |true=>exact⟨.bl true,H1,C,rfl,q⟩
def pe_not(ha:PE X a ta):PE X (.UnaryOp .Not a pos) (Zns ta):=by
 intro pins s σ H Q I h;refine UnaryOp_ (thn (ha pins s σ H _ I h) fun v F ⟨x,H1,D,C,q⟩=>?_);obtain⟨c,rfl,q⟩:=q;cases C;exact not_of (Qdj ⟨.bl (!c),H1,D,rfl,q⟩)
end
def SqL(K:Af)(H:Hp)(a:Aw)(xs:A2):Prop:=
 Rd H a (.lst xs) \/
  ∃(o:Obj) (q:Ah) (n:Nat),K.lookup a=some o/\o.cls=.type "list" /\ o.dict=none/\o.data=.seq q n/\q.size<=sizeLine/\Vals xs q.toList
def SqT(K:Af)(H:Hp)(a:Aw)(xs:A2):Prop:=
 Rd H a (.tup xs) \/
  ∃(o:Obj) (q:Ah) (n:Nat),K.lookup a=some o/\o.cls=.type "tuple" /\ o.data=.seq q n/\q.size<=sizeLine/\Vals xs q.toList
def absV:Av->Option V
 |.none=>some .non
 |.bool b=>some (.bl b)
 |.int i _=>some (.int i)
 |.str x _=>some (.str x)
 |.bytes b _=>some (.byt b)
 |.float b _=>some (.flt b)
 |.ref a=>some (.ref a)
 |.type n=>some (.ty n)
 |_=>none
def RelV.abs{x:V}{u:Av}(r:RelV x u):absV u=some x:=by
 cases x with
 |non=>cases r;rfl
 |bl _=>cases r;rfl
 |int _=>obtain⟨t,rfl⟩:=r;rfl
 |str _=>obtain⟨t,rfl⟩:=r;rfl
 |byt _=>obtain⟨t,rfl⟩:=r;rfl
 |flt _=>obtain⟨t,rfl⟩:=r;rfl
 |ref _=>cases r;rfl
 |ty _=>cases r;rfl
def RelV.inj{x y:V}{u:Av}(r:RelV x u)(q:RelV y u):x=y:=Option.some.inj (r.abs.symm.trans q.abs)
theorem Vals.inj:∀{xs ys:A2} {q:Ag},Vals xs q->Vals ys q->xs=ys
 |_,_,_,.nil,.nil=>rfl
 |_,_,_,.cons r t,.cons C t'=>by rw[r.inj C,Vals.inj t t']
section
variable {X:Cx}{pins:Ac}{σ:St}{H:Hp}{s:As}{a:Aw}{xs ys:A2}
def SqL.of(h:H a=some (.lst xs)):SqL K H a xs:=.inl (.inl h)
def SqT.of(h:H a=some (.tup xs)):SqT K H a xs:=.inl (.inl h)
def Inv.list(I:Inv X pins σ H s)(h:SqL X.K H a xs):∃q:Ag,Vals xs q/\PlainL s.heap a q.toArray/\xs.length<=sizeLine:=by
 rcases h with h|⟨o,q,n,D,F,C,hs,G,r⟩
 ·obtain⟨z,q,n,r,e⟩:=h.ok I.hok;exact⟨q,r,⟨_,n,e,rfl,rfl,rfl⟩,z⟩
 ·refine⟨q.toList,r,⟨o,n,I.kIn a o D,F,C,by simpa using hs⟩,?_⟩;have e:=r.length;simp only[Qbj]at e;lia
def Inv.tuple(I:Inv X pins σ H s)(h:SqT X.K H a xs):∃q:Ag,Vals xs q/\IsTup s.heap a q.toArray/\xs.length<=sizeLine:=by
 rcases h with h|⟨o,q,n,D,C,hs,F,r⟩
 ·obtain⟨z,q,r,p⟩:=h.ok I.hok;exact⟨q,r,p.tup,z⟩
 ·refine⟨q.toList,r,⟨o,I.kIn a o D,C,n,by simpa using hs⟩,?_⟩;have e:=r.length;simp only[Qbj]at e;lia
def Inv.list_inj(I:Inv X pins σ H s)(h:SqL X.K H a xs)(h':SqL X.K H a ys):xs=ys:=by
 obtain⟨q,r,⟨o,n,e,_,_,d⟩,_⟩:=I.list h;obtain⟨its',F,⟨o',G,C,_,_,d'⟩,_⟩:=I.list h';rw[e]at C;cases C;rw[d]at d';injection d' with D _;have:q=its':=by simpa using congrArg Array.toList D
 subst this;exact r.inj F
def Inv.tuple_inj(I:Inv X pins σ H s)(h:SqT X.K H a xs)(h':SqT X.K H a ys):xs=ys:=by
 obtain⟨q,r,⟨o,e,_,n,d⟩,_⟩:=I.tuple h;obtain⟨its',F,⟨o',C,_,G,d'⟩,_⟩:=I.tuple h';rw[e]at C;cases C;rw[d]at d';injection d' with D _;have:q=its':=by simpa using congrArg Array.toList D
 subst this;exact r.inj F
end
abbrev Cx.wish(X:Cx)(E:Ab):Cx:={X with xe:=E}
abbrev Cx.nox(X:Cx):Cx:=X.wish fun _ _=>False
theorem Cx.Ok.wish{X:Cx}(ok:X.Ok)(E:Ab):(X.wish E).Ok:=
 ⟨ok.mod,ok.kind,ok.glob,ok.blt,ok.above,ok.inj,ok.has,ok.cab,ok.hd,ok.frames,ok.stk,ok.exf,ok.bs,ok.bsz,ok.noex,ok.exfs,ok.funs,ok.frf⟩
theorem Cx.Ok.unwish{X:Cx}{E:Ab}(ok:(X.wish E).Ok):X.Ok:=
 ⟨ok.mod,ok.kind,ok.glob,ok.blt,ok.above,ok.inj,ok.has,ok.cab,ok.hd,ok.frames,ok.stk,ok.exf,ok.bs,ok.bsz,ok.noex,ok.exfs,ok.funs,ok.frf⟩
section
variable {X:Cx}{pins:Ac}{σ:St}{H:Hp}{s:As}{E:Ab}
def Inv.wish(I:Inv X pins σ H s)(E:Ab):Inv (X.wish E) pins σ H s:=⟨I.ok.wish E,I.os,I.bare,I.base,I.loc,I.cell,I.free,I.freeC,I.pin,I.hok,I.len⟩
def Inv.unwish(I:Inv (X.wish E) pins σ H s):Inv X pins σ H s:=⟨I.ok.unwish,I.os,I.bare,I.base,I.loc,I.cell,I.free,I.freeC,I.pin,I.hok,I.len⟩
def SP.unwish{D:Ends}{f:Flow}{s':As}(h:SP (X.wish E) pins D f s'):SP X pins D f s':=by
 cases f with
 |next=>obtain⟨C,H',I,q⟩:=h;exact⟨C,H',I.unwish,q⟩
 |brk=>obtain⟨C,H',I,q⟩:=h;exact⟨C,H',I.unwish,q⟩
 |cont=>obtain⟨C,H',I,q⟩:=h;exact⟨C,H',I.unwish,q⟩
 |ret u=>obtain⟨v,C,H',I,r,q⟩:=h;exact⟨v,C,H',I.unwish,r,q⟩
theorem PSs.nox{st:List Ay}{t:TS}(h:PSs X.nox st t):PSs X st t:=fun pins s σ H D I hw=>
 Qdi (h pins s σ H D (I.wish _) hw) (fun _ _ q=>q.unwish) fun _ _ z=>False.elim z
end
section
variable {X:Cx}{st:Ay}{rest:List Ay}{t u:TS}{e:Ax}{te:TE}{pos:Pos}
def Znt:TS:=fun D σ H=>D.nx σ H
def ZY(t u:TS):TS:=fun D σ H=>t {D with nx:=u D} σ H
def Zj8:PSs X [] Znt:=fun _ _ σ H _ I h=>Qgd ⟨σ,H,I,h⟩
def Zf0(h1:PS X st t)(h2:PSs X rest u):PSs X (st::rest) (ZY t u):=by
 intro pins s σ H D I h;refine wpAny_execs_cons (thn (h1 pins s σ H {D with nx:=u D} I h) fun f G q=>?_);cases f with
 |next=>
  obtain⟨C,H',F,q⟩:=q;exact h2 pins G C H' D F q
 |ret v=>exact q
 |brk=>exact q
 |cont=>exact q
def Zj9(h1:PS X st t):PSs X [st] t:=by
 intro pins s σ H D I h;refine wpAny_execs_cons (thn (h1 pins s σ H D I h) fun f C q=>?_);cases f with
 |next=>exact Qgd q
 |ret v=>exact q
 |brk=>exact q
 |cont=>exact q
def Inv.quiet{σ:St}{H:Hp}(I:Inv X m σ H s):interactive X.env=false:=by simp[interactive,I.ok.kind]
def Znu(te:TE):TS:=fun D σ H=>te σ H fun _ H1=>D.nx σ H1
def Zka(C:PE X e te)(hs:swapsWith e none pos.line X.env=pure false:=by rfl):PS X (.Expr e pos) (Znu te):=by
 intro pins s σ H D I h;exact wpAny_Expr_any (thn (C pins s σ H _ I h) fun v J ⟨x,H1,F,G,q⟩=>⟨σ,H1,F,q⟩) I.quiet hs
def tRet(te:TE):TS:=fun D σ H=>te σ H D.rt
def ps_ret(F:PE X e te):PS X (.Return (some e) pos) (tRet te):=by
 intro pins s σ H D I h;exact wpAny_Return_some (thn (F pins s σ H _ I h) fun v J ⟨x,H1,G,C,q⟩=>⟨x,σ,H1,G,C,q⟩)
def tIfS(c:TT)(t u:TS):TS:=fun D σ H=>c σ H fun b H1=>if b=true then t D σ H1 else u D σ H1
def ps_if{c:Ax}{a b:List Ay}{tc:TT}(G:PT X c tc)(ha:PSs X a t)(J:PSs X b u):PS X (.If c a b pos) (tIfS tc t u):=by
 intro pins s σ H D I h;refine wpAny_If (thn (G pins s σ H _ I h) fun d F ⟨H1,C,q⟩=>?_);cases d with
 |true=>exact ha pins F σ H1 D C q
 |false=>exact J pins F σ H1 D C q
end
abbrev TG:=V->St->Hp->(A1)->Prop
abbrev TGs:=A2->St->Hp->(A1)->Prop
def PG(X:Cx)(q:Ax)(t:TG):Prop:=
 ∀(pins:Ac) (s:As) (σ:St) (H:Hp) (v:V) (u:Av) (Q:A1),Inv X pins σ H s->RelV v u->t v σ H Q->
  A4 X (assign q X.env u) (fun _ s'=>∃C H',Inv X pins C H' s'/\Q C H') X.xe s
def PGs(X:Cx)(ts:An)(t:TGs):Prop:=
 ∀(pins:Ac) (s:As) (σ:St) (H:Hp) (vs:A2) (C:Ag) (Q:A1),Inv X pins σ H s->Vals vs C->t vs σ H Q->
  A4 X (assignInOrder ((assignEach ts X.env).map (·.2)) C) (fun _ s'=>∃q H',Inv X pins q H' s'/\Q q H') X.xe s
abbrev Zo8:=V->V->V->Hp->(Hp->Prop)->Prop
def PSet(X:Cx)(t:Zo8):Prop:=
 ∀(pins:Ac) (s:As) (σ:St) (H:Hp) (o i v:V) (C q u:Av) (Q:Hp->Prop),Inv X pins σ H s->RelV o C->RelV i q->RelV v u->t o i v H Q->
  A4 X (setItem C q u) (fun _ s'=>∃H',Inv X pins σ H' s'/\Q H') X.xe s
abbrev TIp:=V->V->Hp->VK->Prop
def PIp(X:Cx)(q:Operator)(t:TIp):Prop:=
 ∀(pins:Ac) (s:As) (σ:St) (H:Hp) (x y:V) (v u:Av) (Q:VK),Inv X pins σ H s->RelV x v->RelV y u->t x y H Q->
  A4 X (inplaceOp q v u) (EP X pins σ Q) X.xe s
section
variable {X:Cx}{pos:Pos}
def WL(i:Nat):TG:=fun v σ H Q=>Q (σ.set i (some v)) H
theorem jM(F:X.N.Nodup)(hi:X.N[i]?=some x)(q:Loc X.env.scope x)(D:X.fn x=true\/X.env.scope.names.lookup x=some .local:=by first|exact .inl rfl|exact .inr rfl|assumption):PG X (.Name x pos) (WL i):=by
 intro pins s σ H v u Q I r h;exact wpAny_assign_Name (Jm I F hi q r (fun s' C=>⟨_,H,C,h⟩) D)
inductive Zid(vs:A2)(σ:St)(H:Hp)(Q:A1):Prop
 |mk  : (vs=[])->(Q σ H)->Zid vs σ H Q
def Znv  : TGs:=fun vs σ H Q=>Zid vs σ H Q
inductive Zbn(t:TG)(u:TGs)(vs:A2)(σ:St)(H:Hp)(Q:A1):Prop
 |mk (v r:_):(vs=v::r)->(t v σ H fun σ' H'=>u r σ' H' Q)->Zbn t u vs σ H Q
def jN(t:TG)(u:TGs):TGs:=fun vs σ H Q=>Zbn t u vs σ H Q
def Zbo:PGs X [] Znv:=by
 intro pins s σ H vs q Q I r h;obtain⟨e,h⟩:=h;subst e;cases r;exact assignInOrder_nil ⟨σ,H,I,h⟩
def qJ{t:TG}{u:TGs}(h1:PG X e t)(h2:PGs X A u)
  (hs:(assignEach (e::A) X.env).map (·.2)=assign e X.env::(assignEach A X.env).map (·.2):=by rfl):PGs X (e::A) (jN t u):=by
 intro pins s σ H vs L Q I r h;obtain⟨v,J,e1,h⟩:=h;subst e1;cases r with
 |cons r D=>
  rw[hs];refine assignInOrder_cons (thn (h1 pins s σ H _ _ _ I r h) fun _ G ⟨q,H1,F,C⟩=>?_);exact h2 pins G q H1 _ _ Q F D C
inductive Zie(K:Af)(n:Nat)(t:TGs)(v:V)(σ:St)(H:Hp)(Q:A1):Prop
 |mk (a xs:_):(v=.ref a)->(SqT K H a xs)->(xs.length=n)->(t xs σ H Q)->Zie K n t v σ H Q
def Znw(K:Af)(n:Nat)(t:TGs):TG:=fun v σ H Q=>Zie K n t v σ H Q
def Zif{k:Nat}{t:TGs}(M:X.calm=true)(h:PGs X A t)
  (Y:(assignEach A X.env).length=n:=by rfl) (q:(assignEach A X.env).findIdx? (·.1)=none:=by rfl):PG X (.Tuple A k pos) (Znw X.K n t):=by
 intro pins s σ H v u Q I r hw;obtain⟨a,xs,e1,F,G,hw⟩:=hw;subst e1;cases r;obtain⟨J,C,O,Z⟩:=I.tuple F;refine assign_Tuple_tuple (I.ok.hd M) O (by simp[Y,<-G,C.length]) q fun h' D=>?_;have L:Inv X pins σ H {s with heap:=h'}:=I.kept (t':=s.toks) fun b o e=>D b o (Qbf (Qaq e)) e;exact h pins _ σ H xs _ Q L (by simpa using C) hw
def gSub(to q:TE)(t:Zo8):TG:=fun v σ H Q=>to σ H fun o H1=>q σ H1 fun i H2=>t o i v H2 fun C=>Q σ C
def pg_sub{i:Ax}{to D:TE}{t:Zo8}(ho:PE X o to)(hi:PE X i D)(hs:PSet X t)
  (ha:∀v,assign (.Subscript o i pos) X.env v=(do
   let q <-holding [v] (eval o X.env);let C <-holding [v,q] (eval i X.env)
   standAt pos
   holding [v,q,C] (setItem q C v)
   release [v,q,C] []):=by intro _;rfl):PG X (.Subscript o i pos) (gSub to D t):=by
 intro pins s σ H v u Q I r h;rw[ha];refine Qaa (Qb8 (thn (ho pins s σ H _ I h) fun q J ⟨x,H1,I1,M,Z⟩=>?_));refine Qaa (Qb8 (thn (hi pins J σ H1 _ I1 Z) fun C s2 ⟨y,H2,I2,G,Y⟩=>?_));refine Qaa (wpAny_standAt (Qaa (Qb8 (thn (hs pins s2 σ H2 x y v q C u _ I2 M G r Y) fun _ s3 ⟨O,L,F⟩=>?_))));exact wpAny_release ⟨σ,O,L,F⟩
def Zkb(te:TE)(g:TG):TS:=fun D σ H=>te σ H fun x H1=>g x σ H1 D.nx
def ps_asg{te:TE}{g:TG}(M:PE X e te)(J:PG X o g)(hs:swapsWithSole [o] e pos.line X.env=pure false:=by rfl)(hw:swappedStores [o] e X.env=pure none:=by rfl)
  (h1:(assignEach [o] X.env).map (·.2)=[assign o X.env]:=by rfl):PS X (.Assign [o] e pos) (Zkb te g):=by
 intro pins s σ H D I h;refine wpAny_Assign_stores (thn (M pins s σ H _ I h) fun v G ⟨x,H1,F,L,C⟩=>?_) hs hw;rw[h1];exact thn (J pins G σ H1 x v _ F L C) fun _ O q=>q
theorem ps_set{te:TE}(O:X.N.Nodup)(hi:X.N[i]?=some x)(q:Loc X.env.scope x)(M:PE X e te)(hs:swapsWith e (some (.Name x p)) pos.line X.env=pure false:=by rfl)(J:X.fn x=true\/X.env.scope.names.lookup x=some .local:=by first|exact .inl rfl|exact .inr rfl|assumption):
  PS X (.Assign [.Name x p] e pos) (Zkb te (WL i)):=by
 intro pins s σ H D I h;refine wpAny_Assign_Name (thn (M pins s σ H _ I h) fun v Y ⟨y,H1,F,L,C⟩=>?_) hs;exact Jm F O hi q L (fun Z G=>⟨_,H1,G,C⟩) J
inductive Zig(i:Nat)(te:TE)(ti:TIp)(D:Ends)(σ:St)(H:Hp):Prop
 |mk (x:_):(σ[i]?=some (some x))->(te σ H fun y H1=>ti x y H1 fun z H2=>D.nx (σ.set i (some z)) H2)->Zig i te ti D σ H
def tAug(i:Nat)(te:TE)(q:TIp):TS:=fun D σ H=>Zig i te q D σ H
theorem ps_aug{te:TE}{G:Operator}{O:TIp}(hN:X.N.Nodup)(hi:X.N[i]?=some x)(J:Loc X.env.scope x)(he:PE X e te)(ho:PIp X G O)(hf:X.fn x=true\/X.env.scope.names.lookup x=some .local:=by first|exact .inl rfl|exact .inr rfl|assumption):
  PS X (.AugAssign (.Name x p) G e pos) (tAug i te O):=by
 intro pins s σ H D I h;obtain⟨v,e1,h⟩:=h;obtain⟨m,hn,hl⟩:=I.loc;have L:Vis X.env.scope x:=by rcases J with k|k;exact .inl k;exact .inr (.inl k)
 obtain⟨u,r,l⟩:=hl i x v hi e1 L;refine wpAny_AugAssign_Name ?_;have M:A4 X (eval e X.env) (fun w s₂=>A4 X (inplaceOp G u w) (fun r F=>A4 X (storeName X.env x r) (fun _=>SP X pins D .next) X.xe F) X.xe s₂) X.xe s:=by
  refine thn (he pins s σ H _ I h) fun w Z ⟨y,H1,I1,r1,q1⟩=>?_;refine thn (ho pins Z σ H1 v y u w _ I1 r r1 q1) fun z s2 ⟨zv,H2,I2,Y,q2⟩=>?_;exact Jm I2 hN hi J Y (fun s3 I3=>⟨_,H2,I3,q2⟩) hf
 rcases l with⟨q,hm⟩|⟨q,c,hc,C⟩
 ·exact wpAny_loadName_local I.ok.kind q hn hm M
 ·rcases q with q|q
  ·exact wpAny_loadName_cell I.ok.kind q hc C M
  ·rcases J with k|k
   ·have:X.env.scope.names.lookup x=some .free:=q;rw[k]at this;cases this
   ·have:X.env.scope.names.lookup x=some .free:=q;rw[k]at this;cases this
inductive Znx(f:Int->Int->Int)(x:V)(y:V)(H:Hp)(Q:VK):Prop
 |mk (i j:_):(x=.int i)->(y=.int j)->(Q (.int (f i j)) H)->Znx f x y H Q
def ipI(f:Int->Int->Int):TIp:=fun x y H Q=>Znx f x y H Q
def ip_add:PIp X .Add (ipI fun i j=>i+j):=by
 intro pins s σ H x y v u Q I D C h;obtain⟨i,j,e1,e2,q⟩:=h;subst e1;subst e2;obtain⟨t,rfl⟩:=D;obtain⟨t',rfl⟩:=C;exact iadd_int ⟨.int _,H,I.tok _,⟨_,rfl⟩,q⟩
def ip_sub:PIp X .Sub (ipI fun i j=>i-j):=by
 intro pins s σ H x y v u Q I D C h;obtain⟨i,j,e1,e2,q⟩:=h;subst e1;subst e2;obtain⟨t,rfl⟩:=D;obtain⟨t',rfl⟩:=C;exact isub_int ⟨.int _,H,I.tok _,⟨_,rfl⟩,q⟩
def Zbp(c:TT)(tb:TS):TS:=fun D σ H=>∃W:Nat->St->Hp->Prop,(∃m,W m σ H)/\∀m σ H,W m σ H->
 c σ H fun b H1=>if b=true then∃N:A1,(∀q H',N q H'->∃C,C<m/\W C q H')/\tb {D with nx:=N,ct:=N,bk:=D.nx} σ H1 else D.nx σ H1
def Zf1{c:Ax}{body:List Ay}{tc:TT}{tb:TS}(hp:PassesOwn (model X.prog X.w) X.A X.env X.xe)(hc:PT X c tc)(hb:PSs X body tb):PS X (.While c body [] pos) (Zbp tc tb):=by
 intro pins s σ H D I h;obtain⟨W,⟨m0,w0⟩,J⟩:=h;refine wpAny_While (codeAny_whileLoop (fun n s'=>∃F H',Inv X pins F H' s'/\W n F H') ?_ m0 ⟨σ,H,I,w0⟩);rintro n s1 ⟨C,H1,I1,w1⟩;refine Qd5 hp (thn (hc pins s1 C H1 _ I1 (J n C H1 w1)) fun b s2 ⟨H2,I2,M⟩=>?_);cases b with
 |true=>
  obtain⟨N,hN,M⟩:=M;refine Qd5 hp (thn (hb pins s2 C H2 _ I2 M) fun f s3 L=>?_);cases f with
  |next=>
   obtain⟨q,G,Y,n3⟩:=L;obtain⟨O,Z,w3⟩:=hN q G n3;exact⟨O,Z,q,G,Y,w3⟩
  |cont=>
   obtain⟨q,G,Y,n3⟩:=L;obtain⟨O,Z,w3⟩:=hN q G n3;exact⟨O,Z,q,G,Y,w3⟩
  |brk=>exact L
  |ret v=>exact L
 |false=>
  exact Qgd ⟨C,H2,I2,M⟩
end
structure It where
 go:Nat->Hp->Prop
 yld:Nat->Hp->V->Hp->Prop
 stop:Nat->Hp->Prop
def kF(X:Cx)(pins:Ac)(H:Hp)(b:Aw):Prop:=
 H b=none/\b≠X.env.locals/\b∉X.fs/\(b∈X.ex\/X.s₀.heap.objs.size<=b)/\(∀x c,X.env.cells.lookup x=some c->c≠b)/\∀p∈X.pn++pins,p.1≠b
def Inv.fpOk{X:Cx}{σ:St}{H H':Hp}{b:Aw}(I:Inv X m σ H s)(C:s.heap.objs.size<=b)(F:H' b=none):kF X m H' b:=by
 refine⟨F,Qed (Qbk I.lt C),I.nofs C,.inr (Qbc I.sz C),fun x c e z=>?_,fun p D z=>?_⟩
 ·obtain⟨v,q⟩:=I.cell x c e;exact absurd (Qbk q.lt (by rw[z];exact C)) (Qce _)
 ·exact absurd (Qbk (Qaq (I.pin p D).1) (by rw[z];exact C)) (Qce _)
structure Turn(P:Aq)(w:Au)(K:Af)(tg:Ax)(J:It)(fp:List Aw)(it:Aw)(tn:Nat->Heap->Prop):Prop where
 mem:it∈fp
 obj:∀i h,tn i h->∀b∈fp,∃o,h.get? b=some o/\∀v,o.data≠.cell v
 keep:∀i h h',tn i h->(∀b∈fp,∀o,h.get? b=some o->h'.get? b=some o)->tn i h'
 item:∀(X:Cx),X.prog=P->X.w=w->X.K=K->X.calm=true->∀(i:Nat) (pins:Ac) (s:As) (σ:St) (H:Hp) (E:Ab),Inv X pins σ H s->(∀b∈fp,kF X pins H b)->tn i s.heap->J.go i H->
  wpAny (model P w) X.A (pyNext (.ref it)) (fun r s1=>∃u,r=some u /\
   wpAny (model P w) X.A (letOwnedTupleGo tg (.ref it) u) (fun _ s2=>∃x H',Inv X pins σ H' s2/\RelV x u/\J.yld i H x H'/\tn (i+1) s2.heap/\∀b∈fp,H' b=none) E s1) E s
 done:∀(X:Cx),X.prog=P->X.w=w->X.K=K->X.calm=true->∀(i:Nat) (pins:Ac) (s:As) (σ:St) (H:Hp) (E:Ab),Inv X pins σ H s->(∀b∈fp,kF X pins H b)->tn i s.heap->J.stop i H->
  wpAny (model P w) X.A (pyNext (.ref it)) (fun r s1=>r=none/\Inv X pins σ H s1) E s
 self:∀(A:Ar) (i:Nat) (s:As) (Q:Ab) (E:Ab),tn i s.heap->Q (.ref it) s->wpAny (model P w) A (pyIter (.ref it)) Q E s
abbrev TI:=St->Hp->(It->Hp->Prop)->Prop
def PIE(X:Cx)(pins:Ac)(σ:St)(tg:Ax)(R:It->Hp->Prop)(q:Av)(D:As):Prop:=
 ∃(it:Aw) (fp:List Aw) (C:Nat->Heap->Prop) (J:It) (H':Hp),q=.ref it/\Inv X pins σ H' D/\Turn X.prog X.w X.K tg J fp it C/\C 0 D.heap/\(∀b∈fp,kF X pins H' b)/\R J H'
def PI(X:Cx)(tg iter:Ax)(wi:TI):Prop:=
 ∀(pins:Ac) (s:As) (σ:St) (H:Hp) (R:It->Hp->Prop),Inv X pins σ H s->wi σ H R->
  A4 X (eval iter X.env) (fun v q=>A4 X (pyIter v) (PIE X pins σ tg R) X.xe q) X.xe s
def uL{M:Model}{A:Ar}{E:Ab}{it:Aw}{u:Av}{o:Obj}{n:String}{vs:Ah}{Q:Unit->Shared->Prop}(ho:s.heap.get? it=some o)(D:o.cls=.type n)(C:o.data=.fields vs)
    (F:["enumerate","zip","dict_itemiterator","dict_reverseitemiterator","odict_iterator","itertools.zip_longest","itertools.pairwise"].contains n=false) (q:Q () s):wpAny M A (letOwnedTupleGo e (.ref it) u) Q E s:=by
  cases e<;>first
    |exact Qae q
    | (cases u <;> first
        |exact Qae q
        | (refine Qaa (wpAny_load ho ?_)
           rw[D,C];show wpAny M A (if(["enumerate","zip","dict_itemiterator","dict_reverseitemiterator","odict_iterator","itertools.zip_longest","itertools.pairwise"].contains n&&vs[0]? == some (rawInt _))=true then _ else _) Q E s;rw[Qay (by grind)];exact Qae q))
def Itl(K:Af)(a:Aw):It:=
 ⟨fun i H=>∃xs x,SqL K H a xs/\xs[i]?=some x,fun i H x H'=>H'=H/\∀xs,SqL K H a xs->xs[i]?=some x,fun i H=>∃xs,SqL K H a xs/\xs.length<=i⟩
def Itt(K:Af)(a:Aw):It:=
 ⟨fun i H=>∃xs x,SqT K H a xs/\xs[i]?=some x,fun i H x H'=>H'=H/\∀xs,SqT K H a xs->xs[i]?=some x,fun i H=>∃xs,SqT K H a xs/\xs.length<=i⟩
def Itr(lo:Int)(n:Nat):It:=⟨fun i _=>i<n,fun i H x H'=>H'=H/\x=.int (lo+i),fun i _=>n<=i⟩
def Zbq{tg:Ax}(a it:Aw):Turn P w K tg (Itl K a) [it] it (fun i h=>h.IsListIter it a i)where
 mem:=by simp
 obj:=fun i h st b q=>by
  have e:b=it:=by simpa using q
  subst e;obtain⟨o,e,c,d⟩:=st;exact⟨o,e,fun v z=>by rw[d]at z;cases z⟩
 keep:=fun i h h' st k=>st.at fun o e=>k it (by simp) o e
 item:=by
  intro X J hw G hc i pins s σ H E I D st hg;subst J hw G;obtain⟨xs,x,F,M⟩:=hg;obtain⟨Y,rv,p,hz⟩:=I.list F;obtain⟨u,hu,ru⟩:=rv.get M;obtain⟨f0,O,f2,Z,L,f5⟩:=D it (by simp);refine wpAny_pyNext_list_item st p.isList (x:=u) (by simpa using hu) fun h' C sb=>?_;have I1:Inv X pins σ H {s with heap:=h'}:=I.turned (t':=s.toks) (fun b o q e=>(sb.2 b q).trans e) f0 O Z L f5;obtain⟨o,e,c,d⟩:=id C;exact⟨u,rfl,uL (s:={s with heap:=h'}) e c d (by decide) ⟨x,H,I1,ru,⟨rfl,fun ys hy=>by rw[I.list_inj hy F];exact M⟩,C,fun b q=>(D b q).1⟩⟩
 done:=by
  intro X J hw G hc i pins s σ H E I D st hg;subst J hw G;obtain⟨xs,F,M⟩:=hg;obtain⟨Y,rv,p,hz⟩:=I.list F;obtain⟨f0,O,f2,Z,L,f5⟩:=D it (by simp);have hl:=rv.length;exact wpAny_pyNext_list_end (I.ok.hd hc) st p.isList (by simp;lia) fun h' eb=>⟨rfl,I.turned (t':=s.toks) (fun b o q e=>eb b o q e) f0 O Z L f5⟩
 self:=fun _ _ _ _ _ st h=>wpAny_pyIter_listiter st h
def uM{tg:Ax}(a it:Aw):Turn P w K tg (Itt K a) [it] it (fun i h=>h.IsTupleIter it a i)where
 mem:=by simp
 obj:=fun i h st b C=>by
  have e:b=it:=by simpa using C
  subst e;obtain⟨o,e,c,d⟩:=st;exact⟨o,e,fun v z=>by rw[d]at z;cases z⟩
 keep:=fun i h h' st k=>st.at fun o e=>k it (by simp) o e
 item:=by
  intro X L hw J hc i pins s σ H E I F st hg;subst L hw J;obtain⟨xs,x,G,O⟩:=hg;obtain⟨q,rv,p,hz⟩:=I.tuple G;obtain⟨u,hu,ru⟩:=rv.get O;obtain⟨f0,Y,f2,Z,M,f5⟩:=F it (by simp);refine wpAny_pyNext_tuple_item st (show s.heap.IsTuple a q.toArray from p) (x:=u) (by simpa using hu) fun h' D sb=>?_;have I1:Inv X pins σ H {s with heap:=h'}:=I.turned (t':=s.toks) (fun b o C e=>(sb.2 b C).trans e) f0 Y Z M f5;obtain⟨o,e,c,d⟩:=id D;exact⟨u,rfl,uL (s:={s with heap:=h'}) e c d (by decide) ⟨x,H,I1,ru,⟨rfl,fun ys hy=>by rw[I.tuple_inj hy G];exact O⟩,D,fun b C=>(F b C).1⟩⟩
 done:=by
  intro X L hw J hc i pins s σ H E I F st hg;subst L hw J;obtain⟨xs,G,O⟩:=hg;obtain⟨q,rv,p,hz⟩:=I.tuple G;obtain⟨f0,Y,f2,Z,M,f5⟩:=F it (by simp);have hl:=rv.length;exact wpAny_pyNext_tuple_end (I.ok.hd hc) st (show s.heap.IsTuple a q.toArray from p) (by simp;lia) fun h' eb=>⟨rfl,I.turned (t':=s.toks) (fun b o C e=>eb b o C e) f0 Y Z M f5⟩
 self:=fun _ _ _ _ _ st h=>wpAny_pyIter_tupleiter st h
def uN{tg:Ax}(it:Aw)(lo:Int)(n:Nat):Turn P w K tg (Itr lo n) [it] it (fun i h=>IsRangeIter h it (lo+(i:Nat)*1) ((n:Int)-(i:Nat)) 1)where
 mem:=by simp
 obj:=fun i h st b q=>by
  grind
 keep:=fun i h h' st k=>k it (by simp) _ st
 item:=by
  intro X G hw F L i pins s σ H E I D st O;subst G hw F;obtain⟨f0,Z,f2,M,J,Y⟩:=D it (by simp);have W:=Walks.range (prog:=X.prog) (w:=X.w) (I.ok.hd L) it lo 1 n;refine W.item i s _ _ O st fun v h' tk hv C kk=>?_;obtain⟨t,rfl⟩:=hv;have I1:Inv X pins σ H {s with heap:=h',toks:=tk}:=I.turned (fun b o q e=>kk b o (by simpa using q) e) f0 Z M J Y;refine⟨_,rfl,uL (s:={s with heap:=h',toks:=tk}) (n:= "range_iterator") C rfl rfl (by decide) ⟨.int (lo+i),H,I1,⟨t,?_⟩,⟨rfl,rfl⟩,C,fun b q=>(D b q).1⟩⟩;rw[Int.mul_one]
 done:=by
  intro X G hw F L i pins s σ H E I D st O;subst G hw F;obtain⟨f0,Z,f2,M,J,Y⟩:=D it (by simp);exact wpAny_pyNext_range_end (I.ok.hd L) st (by have:n<=i:=O;lia) fun h' eb=>⟨rfl,I.turned (t':=s.toks) (fun b o q e=>eb b o q e) f0 Z M J Y⟩
 self:=fun _ _ _ _ _ st h=>wpAny_pyIter_rangeiter st h
section
variable {X:Cx}{tg:Ax}
inductive Zbr(K:Af)(R:It->Hp->Prop)(x:V)(H1:Hp):Prop
 |mk (a:_):(x=.ref a)->((∃xs,SqL K H1 a xs))->(R (Itl K a) H1)->Zbr K R x H1
def Zbs(K:Af)(tl:TE):TI:=fun σ H R=>tl σ H fun x H1=>Zbr K R x H1
inductive Zih(K:Af)(R:It->Hp->Prop)(x:V)(H1:Hp):Prop
 |mk (a:_):(x=.ref a)->((∃xs,SqT K H1 a xs))->(R (Itt K a) H1)->Zih K R x H1
def iTup(K:Af)(tl:TE):TI:=fun σ H R=>tl σ H fun x H1=>Zih K R x H1
def Zkc{l:Ax}{tl:TE}(J:PE X l tl):PI X tg l (Zbs X.K tl):=by
 intro pins s σ H R I h;refine thn (J pins s σ H _ I h) fun v D ⟨x,H1,C,O,F⟩=>?_;obtain⟨a,e,⟨xs,G⟩,q⟩:=F;subst e;cases O;obtain⟨L,Y,p,Z⟩:=C.list G;refine Qe3 p.isList ?_;refine⟨D.heap.objs.size,[D.heap.objs.size],_,_,H1,rfl,C.kept (t':=D.toks) fun b o e=>Qad _ e,Zbq a _,⟨_,Qam _ rfl,rfl,rfl⟩,fun b M=>?_,q⟩;have e:b=D.heap.objs.size:=by simpa using M
 subst e;exact C.fpOk (Qaj _) (C.hok.fresh (Qaj _))
def pi_tup{l:Ax}{tl:TE}(L:PE X l tl):PI X tg l (iTup X.K tl):=by
 intro pins s σ H R I h;refine thn (L pins s σ H _ I h) fun v C ⟨x,H1,D,O,G⟩=>?_;obtain⟨a,e,⟨xs,J⟩,q⟩:=G;subst e;cases O;obtain⟨F,Y,p,Z⟩:=D.tuple J;refine wpAny_pyIter_tuple (show C.heap.IsTuple a F.toArray from p) ?_;refine⟨C.heap.objs.size,[C.heap.objs.size],_,_,H1,rfl,D.kept (t':=C.toks) fun b o e=>Qad _ e,uM a _,⟨_,Qam _ rfl,rfl,rfl⟩,fun b M=>?_,q⟩;have e:b=C.heap.objs.size:=by simpa using M
 subst e;exact D.fpOk (Qaj _) (D.hok.fresh (Qaj _))
def gu{σ:St}{H:Hp}{R:It->Hp->Prop}{E:Ab}{lo hi:Int}{t u v:Tok}{tk:Nat}(I:Inv X m σ H s)(h1:-(2^62)<=lo)(h2:lo<2^62)(G:-(2^62)<=hi)(F:hi<2^62)
  (q:R (Itr lo (hi-lo).toNat) H):A4 X (pyIter (.ref s.heap.objs.size)) (PIE X m σ tg R) E {s with heap:=s.heap.push {cls:=.type "range",data:=.fields #[.int lo t,.int hi u,.int 1 v]},toks:=tk}:=by
 refine wpAny_pyIter_range (IsRange.new ..) (small_one h1 h2 G F) ?_;have C:Inv X m σ H {s with heap:=s.heap.push {cls:=.type "range",data:=.fields #[.int lo t,.int hi u,.int 1 v]},toks:=tk}:=I.kept fun b o e=>Qad _ e;refine⟨(s.heap.push {cls:=.type "range",data:=.fields #[.int lo t,.int hi u,.int 1 v]}).objs.size,[(s.heap.push {cls:=.type "range",data:=.fields #[.int lo t,.int hi u,.int 1 v]}).objs.size],_,_,H,rfl,
  C.kept (t':=tk) fun b o e=>Qad _ e,uN _ lo (hi-lo).toNat,?_,fun b D=>?_,q⟩
 ·have e1:lo+((0:Nat):Int)*1=lo:=by simp
  have e2:(((hi-lo).toNat:Nat):Int)-((0:Nat):Int)=Builtin.Range.rangeSize lo hi 1:=by rw[rangeSize_one];split<;>lia
  rw[e1,e2];exact Qam _ rfl
 ·have e:b=(s.heap.push {cls:=.type "range",data:=.fields #[.int lo t,.int hi u,.int 1 v]}).objs.size:=by simpa using D
  subst e;exact C.fpOk (Qaj _) (C.hok.fresh (Qaj _))
inductive Zbt(R:It->Hp->Prop)(vs:A2)(H1:Hp):Prop
 |mk (j:Int):(vs=[.int j])->(-(2^62)<=j)->(j<2^62)->(R (Itr 0 j.toNat) H1)->Zbt R vs H1
def Zkd(ta:TA):TI:=fun σ H R=>ta σ H fun vs H1=>Zbt R vs H1
inductive Zbu(R:It->Hp->Prop)(vs:A2)(H1:Hp):Prop
 |mk (i j:Int):(vs=[.int i,.int j])->((-(2^62)<=i/\i<2^62/\-(2^62)<=j/\j<2^62))->(R (Itr i (j-i).toNat) H1)->Zbu R vs H1
def Zny(ta:TA):TI:=fun σ H R=>ta σ H fun vs H1=>Zbu R vs H1
def Zbv {a:Ax} {ta:TA}  (L:Gl X "range") (M:X.mg "range" = none) (ha:PA X [a] ta) (hs:starEach [a] X.env=[(false,eval a X.env)]:=by rfl):PI X tg (.Call (.Name "range" p) [a] [] q) (Zkd ta):=by
 intro pins s σ H R I h;refine Call_ (JL I L M boot_range (Qcs (thn (ha q pins s σ H _ I h) fun Z Y ⟨vs,H1,J,O,D⟩=>?_) hs rfl));obtain⟨j,e,D,F,C⟩:=D;subst e;cases O with
 |cons r G=>
  cases G;obtain⟨t,rfl⟩:=r;exact call_range_1 (gu J (by lia) (by lia) D F (by simpa using C))
def Zbw {a b:Ax} {ta:TA}  (Y:Gl X "range") (Z:X.mg "range" = none) (ha:PA X [a,b] ta) (hs:starEach [a,b] X.env=[(false,eval a X.env),(false,eval b X.env)]:=by rfl) (C:starEach [b] X.env=[(false,eval b X.env)]:=by rfl):
  PI X tg (.Call (.Name "range" p) [a,b] [] q) (Zny ta):=by
 intro pins s σ H R I h;refine Call_ (JL I Y Z boot_range (Qcs (thn (ha q pins s σ H _ I h) fun us s1 ⟨vs,H1,O,r1,F⟩=>?_) (by rw[hs,C]) (by rw[C];rfl)));obtain⟨i,j,e,⟨F,J,L,q4⟩,D⟩:=F;subst e;cases r1 with
 |cons r G=>
  cases G with
  |cons M G=>
   cases G;obtain⟨t,rfl⟩:=r;obtain⟨t',rfl⟩:=M;exact call_range_2 (gu O F J L q4 D)
abbrev Zke(J:It)(g:TG)(tb:TS)(D:Ends)(σ:St)(H:Hp):Prop:=∃W:Nat->Nat->St->Hp->Prop,(∃m,W 0 m σ H)/\∀i m σ H,W i m σ H->
 (J.stop i H/\D.nx σ H)\/(J.go i H/\∃N:A1,(∀q H',N q H'->∃F,F<m/\W (i+1) F q H')/\∀x H',J.yld i H x H'->g x σ H' fun C H2=>tb {D with nx:=N,ct:=N,bk:=D.nx} C H2)
def tFor(wi:TI)(g:TG)(tb:TS):TS:=fun D σ H=>wi σ H fun J H1=>Zke J g tb D σ H1
def yQ{J:It}{g:TG}{tb:TS}{D:Ends}{σ:St}{H:Hp}(n:Nat)(C:Nat->St->Hp->Prop)(L:C 0 σ H)
  (hs:∀i σ H,i<n->C i σ H->J.go i H/\∀x H',J.yld i H x H'->g x σ H' fun F H2=>tb {D with nx:=C (i+1),ct:=C (i+1),bk:=D.nx} F H2)
  (M:∀σ H,C n σ H->J.stop n H/\D.nx σ H):Zke J g tb D σ H:=by
 refine⟨fun i m σ H=>m=n-i/\i<=n/\C i σ H,⟨n,by simp,Qbt _,L⟩,?_⟩;rintro i m σ H ⟨rfl,hi,p⟩
 by_cases q:i<n
 ·exact .inr ⟨(hs i σ H q p).1,C (i+1),fun G H' I=>⟨n-(i+1),by lia,rfl,q,I⟩,(hs i σ H q p).2⟩
 ·grind
def yR(fp:List Aw)(h:Heap):Ac:=fp.filterMap fun b=>(h.get? b).map fun o=>(b,o)
def Jn{b:Aw}{o:Obj}(q:b∈J)(e:h.get? b=some o):(b,o)∈yR J h:=Qgk.mpr ⟨b,q,by rw[e];rfl⟩
def Zbx{p:Aw×Obj}(C:p∈yR J h):p.1∈J/\h.get? p.1=some p.2:=by
 obtain⟨b,D,e⟩:=Qgk.mp C;cases q:h.get? b with
 |none=>rw[q]at e;cases e
 |some o=>
  rw[q]at e;have F:(b,o)=p:=Option.some.inj e;subst F;exact⟨D,q⟩
theorem Inv.pinned{σ:St}{H:Hp}(I:Inv X m σ H s)(G:∀b∈J,kF X m H b)(ho:∀b∈J,∃o,s.heap.get? b=some o/\∀v,o.data≠.cell v):Inv X (m++yR J s.heap) σ H s:=
 I.pins_of fun p D=>(Qbo.mp D).elim (fun z=>I.pin p (Qbl _ z)) fun z=>by
  obtain⟨C,e⟩:=Zbx z;obtain⟨f0,L,F,_⟩:=G p.1 C;obtain⟨o,q,d⟩:=ho p.1 C;rw[e]at q;cases q;exact⟨e,f0,L,F,d⟩
def Inv.unpinned{pl:Ac}{σ:St}{H:Hp}(I:Inv X (m++pl) σ H s):Inv X m σ H s:=I.pins_of fun p q=>I.pin p (Qbl _ (Qd4 _ q))
def ps_for{iter:Ax}{body:List Ay}{wi:TI}{g:TG}{tb:TS}(hp:PassesOwn (model X.prog X.w) X.A X.env X.xe)(hc:X.calm=true)(hi:PI X tg iter wi)(hg:PG X tg g)(M:PSs X body tb)
  (hs:∀x,foldedSetIterable iter X.env x=pure x:=by intro _;rfl):PS X (.For tg iter body [] p) (tFor wi g tb):=by
 intro pins s σ H D I h;refine wpAny_For (thn (hi pins s σ H _ I h) fun v s1 h1=>thn h1 fun itv s2 h2=>?_) hs;obtain⟨it,fp,tn,J,H2,e,I2,T,st2,f2,W,⟨m0,w0⟩,turn⟩:=h2;subst e;have G:∀{H':Hp},(∀b∈fp,H' b=none)->∀b∈fp,kF X pins H' b:=fun hn b M=>⟨hn b M,(f2 b M).2⟩;refine codeAny_forLoop_any (fun n s'=>∃i C H',Inv X pins C H' s'/\tn i s'.heap/\(∀b∈fp,H' b=none)/\W i n C H') ?_ m0 ⟨0,σ,H2,I2,st2,fun b M=>(f2 b M).1,w0⟩;rintro n s3 ⟨i,L,H3,I3,st3,fr3,w3⟩;rcases turn i n L H3 w3 with⟨stop,qn⟩|⟨go,N,hN,step⟩
 ·refine Qd5 hp (thn (T.done X rfl rfl rfl hc i pins s3 L H3 X.xe I3 (G fr3) st3 stop) fun r s4 ⟨hr,I4⟩=>?_);subst hr;exact Qgd ⟨L,H3,I4,qn⟩
 ·refine Qd5 hp (thn (T.item X rfl rfl rfl hc i pins s3 L H3 X.xe I3 (G fr3) st3 go) fun r s4 ⟨u,hr,h4⟩=>?_);subst hr;refine Qd5 hp (thn h4 fun _ s5 ⟨x,H5,I5,r5,y5,Z,fr5⟩=>?_);have I5':=I5.pinned (G fr5) (T.obj _ _ Z);refine Qd5 hp (thn (hg _ s5 L H5 x u _ I5' r5 (step x H5 y5)) fun _ s6 ⟨σ6,H6,I6,q6⟩=>?_);refine Qd5 hp (thn (M _ s6 σ6 H6 _ I6 q6) fun f s7 Y=>?_);have again:∀{q:St} {O:Hp},Inv X (pins++yR fp s5.heap) q O s7->N q O->∃m,m<n/\∃i C H',Inv X pins C H' s7/\tn i s7.heap/\(∀b∈fp,H' b=none)/\W i m C H':=fun{q O} F n7=>by
   obtain⟨m',hm,w7⟩:=hN q O n7;refine⟨m',hm,i+1,q,O,F.unpinned,T.keep _ _ _ Z fun b M o e=>(F.pin (b,o) (Qbl _ (Qbl _ (Jn M e)))).1,fun b M=>?_,w7⟩;obtain⟨o,e,d⟩:=T.obj _ _ Z b M;exact(F.pin (b,o) (Qbl _ (Qbl _ (Jn M e)))).2.1
  cases f with
  |next=>obtain⟨q,O,F,n7⟩:=Y;exact again F n7
  |cont=>obtain⟨q,O,F,n7⟩:=Y;exact again F n7
  |brk=>obtain⟨q,O,F,Y⟩:=Y;exact⟨q,O,F.unpinned,Y⟩
  |ret v=>obtain⟨x7,q,O,F,r7,Y⟩:=Y;exact⟨x7,q,O,F.unpinned,r7,Y⟩
end
theorem gv{xs:A2}{g:TG}{tb:TS}{D:Ends}{σ:St}{H:Hp}(q:Nat->St->Hp->Prop)(I:q 0 σ H)(C:∀i σ H,i<=xs.length->q i σ H->SqL K H a xs)
  (hs:∀i x σ H,xs[i]?=some x->q i σ H->g x σ H fun F H2=>tb {D with nx:=q (i+1),ct:=q (i+1),bk:=D.nx} F H2) (G:∀σ H,q xs.length σ H->D.nx σ H):
  Zke (Itl K a) g tb D σ H:=
 yQ xs.length q I (fun i σ H hi p=>⟨⟨xs,xs[i],C i σ H (Qav hi) p,Qac hi⟩,fun x H' ⟨e,y⟩=>e ▸ hs i x σ H (y xs (C i σ H (Qav hi) p)) p⟩) fun σ H p=>⟨⟨xs,C _ σ H (Qaj _) p,Qaj _⟩,G σ H p⟩
theorem jO{xs:A2}{g:TG}{tb:TS}{D:Ends}{σ:St}{H:Hp}(q:Nat->St->Hp->Prop)(I:q 0 σ H)(C:∀i σ H,i<=xs.length->q i σ H->SqT K H a xs)
  (hs:∀i x σ H,xs[i]?=some x->q i σ H->g x σ H fun F H2=>tb {D with nx:=q (i+1),ct:=q (i+1),bk:=D.nx} F H2) (G:∀σ H,q xs.length σ H->D.nx σ H):
  Zke (Itt K a) g tb D σ H:=
 yQ xs.length q I (fun i σ H hi p=>⟨⟨xs,xs[i],C i σ H (Qav hi) p,Qac hi⟩,fun x H' ⟨e,y⟩=>e ▸ hs i x σ H (y xs (C i σ H (Qav hi) p)) p⟩) fun σ H p=>⟨⟨xs,C _ σ H (Qaj _) p,Qaj _⟩,G σ H p⟩
theorem XU{lo:Int}{g:TG}{tb:TS}{D:Ends}{σ:St}{H:Hp}(q:Nat->St->Hp->Prop)(G:q 0 σ H)
  (hs:∀i σ H,i<n->q i σ H->g (.int (lo+i)) σ H fun C H2=>tb {D with nx:=q (i+1),ct:=q (i+1),bk:=D.nx} C H2) (F:∀σ H,q n σ H->D.nx σ H):
  Zke (Itr lo n) g tb D σ H:=
 yQ n q G (fun i σ H hi p=>⟨hi,fun x H' ⟨e,y⟩=>by subst e y;exact hs i σ _ hi p⟩) fun σ H p=>⟨Qaj _,F σ H p⟩
abbrev R2:=V->V->Hp->VK->Prop
def OpR(X:Cx)(f:Av->Value->Sem Av)(r:R2):Prop:=
 ∀(pins:Ac) (s:As) (σ:St) (H:Hp) (x y:V) (v u:Av) (Q:VK),Inv X pins σ H s->RelV x v->RelV y u->r x y H Q->
  A4 X (f v u) (EP X pins σ Q) X.xe s
def UnR(X:Cx)(f:Av->Sem Av)(r:V->Hp->VK->Prop):Prop:=
 ∀(pins:Ac) (s:As) (σ:St) (H:Hp) (x:V) (v:Av) (Q:VK),Inv X pins σ H s->RelV x v->r x H Q->
  A4 X (f v) (EP X pins σ Q) X.xe s
def Y9(X:Cx)(f:Av)(r:A2->Hp->VK->Prop):Prop:=
 ∀(pins:Ac) (s:As) (σ:St) (H:Hp) (xs:A2) (q:Ag) (Q:VK),Inv X pins σ H s->Vals xs q->r xs H Q->
  A4 X (call f q) (EP X pins σ Q) X.xe s
def tOp(r:R2)(ta tb:TE):TE:=fun σ H Q=>ta σ H fun x H1=>tb σ H1 fun y H2=>r x y H2 Q
def tUn(r:V->Hp->VK->Prop)(ta:TE):TE:=fun σ H Q=>ta σ H fun x H1=>r x H1 Q
inductive rI_i(C:Int->Int->Prop)(g:Int->Int->V)(x:V)(y:V)(H:Hp)(Q:VK):Prop
 |mk (i j:_):(x=.int i)->(y=.int j)->(C i j)->(Q (g i j) H)->rI_i C g x y H Q
def rI(C:Int->Int->Prop)(g:Int->Int->V):R2:=fun x y H Q=>rI_i C g x y H Q
inductive Znz(g:Int->Int->V)(x:V)(y:V)(H:Hp)(Q:VK):Prop
 |mk (i j:_):(x=.int i)->(y=.int j)->(Q (g i j) H)->Znz g x y H Q
def rI0(g:Int->Int->V):R2:=fun x y H Q=>Znz g x y H Q
inductive rU_i(g:Int->V)(x:V)(H:Hp)(Q:VK):Prop
 |mk (i:_):(x=.int i)->(Q (g i) H)->rU_i g x H Q
def rU(g:Int->V):V->Hp->VK->Prop:=fun x H Q=>rU_i g x H Q
section
variable {X:Cx}{a b c:Ax}{ta tb tc:TE}{pos:Pos}
def binT(ha:PE X a ta)(O:PE X b tb){σ:St}{H:Hp}{R:V->V->Hp->Prop}(I:Inv X m σ H s)
  (h:ta σ H fun x H1=>tb σ H1 fun y H2=>R x y H2)  {f:Av->Value->Sem Av}
  (Y:∀v u C x y H2,Inv X m σ H2 C->RelV x v->RelV y u->R x y H2->A4 X (f v u) Q X.xe C):
  A4 X (eval a X.env) (fun v q=>A4 X (eval b X.env) (fun u s₂=>A4 X (f v u) Q X.xe s₂) X.xe q) X.xe s:=by
 refine thn (ha m s σ H _ I h) fun v L ⟨x,H1,J,Z,F⟩=>?_;refine thn (O m L σ H1 _ J F) fun u C ⟨y,H2,M,G,D⟩=>?_;exact Y v u C x y H2 M Z G D
def pe_op{C:Operator}{r:R2}(ho:OpR X (binaryOp C) r)(ha:PE X a ta)(G:PE X b tb):PE X (.BinOp a C b pos) (tOp r ta tb):=by
 intro pins s σ H Q I h;exact wpAny_BinOp (binT ha G I h fun v u J x y H2 F L D q=>ho pins J σ H2 x y v u Q F L D q)
def pe_un{q:UnaryOp}{r:V->Hp->VK->Prop}(ho:UnR X (unaryOp q) r)(ha:PE X a ta):PE X (.UnaryOp q a pos) (tUn r ta):=by
 intro pins s σ H Q I h;exact UnaryOp_ (thn (ha pins s σ H _ I h) fun v G ⟨x,H1,F,D,C⟩=>ho pins G σ H1 x v Q F D C)
def opI{f:Av->Value->Sem Av}{C:Int->Int->Prop}{g:Int->Int->Int}
  (rule:∀(i j:Int) (t u:Tok) (s:As) (Q:Ab) (E:Ab),C i j->Q (.int (g i j) s.toks) {s with toks:=s.toks+1}->A4 X (f (.int i t) (.int j u)) Q E s):
  OpR X f (rI C fun i j=>.int (g i j)):=by
 intro pins s σ H x y v u Q I G D h;obtain⟨i,j,rfl,rfl,F,q⟩:=h;obtain⟨t,rfl⟩:=G;obtain⟨t',rfl⟩:=D;exact rule i j t t' s _ _ F ⟨.int (g i j),H,I.tok _,⟨_,rfl⟩,q⟩
def Zn0{f:Av->Value->Sem Av}{g:Int->Int->Int}
  (rule:∀(i j:Int) (t u:Tok) (s:As) (Q:Ab) (E:Ab),Q (.int (g i j) s.toks) {s with toks:=s.toks+1}->A4 X (f (.int i t) (.int j u)) Q E s):
  OpR X f (rI0 fun i j=>.int (g i j)):=by
 intro pins s σ H x y v u Q I D C h;obtain⟨i,j,rfl,rfl,q⟩:=h;obtain⟨t,rfl⟩:=D;obtain⟨t',rfl⟩:=C;exact rule i j t t' s _ _ ⟨.int (g i j),H,I.tok _,⟨_,rfl⟩,q⟩
def Zo9{f:Av->Value->Sem Av}{g:Int->Int->Bool}
  (rule:∀(i j:Int) (t u:Tok) (s:As) (Q:Ab) (E:Ab),Q (.bool (g i j)) s->A4 X (f (.int i t) (.int j u)) Q E s):
  OpR X f (rI0 fun i j=>.bl (g i j)):=by
 intro pins s σ H x y v u Q I D C h;obtain⟨i,j,rfl,rfl,q⟩:=h;obtain⟨t,rfl⟩:=D;obtain⟨t',rfl⟩:=C;exact rule i j t t' s _ _ ⟨.bl (g i j),H,I,rfl,q⟩
def CPow(i j:Int):Prop:=0<=j/\j<=1000000/\i.natAbs<2^64
def CMul(i j:Int):Prop:=(-(2^64)<i/\i<2^64)\/(-(2^64)<j/\j<2^64)
def CMul.ok{i j:Int}(h:CMul i j):IntMulOk i j:=by
 rcases h with⟨h1,h2⟩|⟨h1,h2⟩
 ·exact .of_left (intBits_le_64 h1 h2)
 ·exact .of_right (intBits_le_64 h1 h2)
def two_pow_nn(k:Nat):(0:Int)<=2^k:=by grind
def YA:OpR X (binaryOp .Add) (rI0 fun i j=>.int (i+j)):=Zn0 fun _ _ _ _ _ _ _ q=>add_int q
def YO:OpR X (binaryOp .Sub) (rI0 fun i j=>.int (i-j)):=Zn0 fun _ _ _ _ _ _ _ q=>sub_int q
theorem ZL:OpR X (binaryOp .Mod) (rI (fun _ j=>0<j) fun i j=>.int (i%j)):=opI fun i j _ _ _ _ _ C q=>by
 exact mod_int' (by lia) (by grind)
def op_pow:OpR X (binaryOp .Pow) (rI CPow fun i j=>.int (i^j.toNat)):=opI fun _ _ _ _ _ _ _ C q=>pow_int_small C.1 C.2.1 C.2.2 q
def op_shl:OpR X (binaryOp .LShift) (rI CPow fun i j=>.int (i*2^j.toNat)):=opI fun _ _ _ _ _ _ _ C q=>lshift_int_small C.1 C.2.1 C.2.2 q
theorem gw:OpR X (binaryOp .RShift) (rI (fun _ j=>0<=j) fun i j=>.int (i/2^j.toNat)):=opI fun i j _ _ _ _ _ C q=>
 rshift_int C (by grind)
def Xg:OpR X (binaryOp .BitAnd) (rI0 fun i j=>.int (Builtin.bitAnd i j)):=Zn0 fun _ _ _ _ _ _ _ q=>and_int q
def z7:OpR X (binaryOp .BitOr) (rI0 fun i j=>.int (Builtin.bitOr i j)):=Zn0 fun _ _ _ _ _ _ _ q=>or_int q
def qZ:OpR X (binaryOp .BitXor) (rI0 fun i j=>.int (Builtin.bitXor i j)):=Zn0 fun _ _ _ _ _ _ _ q=>xor_int q
def unI{f:Av->Sem Av}{g:Int->Int}
  (rule:∀(i:Int) (t:Tok) (s:As) (Q:Ab) (E:Ab),Q (.int (g i) s.toks) {s with toks:=s.toks+1}->A4 X (f (.int i t)) Q E s):
  UnR X f (rU fun i=>.int (g i)):=by
 intro pins s σ H x v Q I C h;obtain⟨i,rfl,q⟩:=h;obtain⟨t,rfl⟩:=C;exact rule i t s _ _ ⟨.int (g i),H,I.tok _,⟨_,rfl⟩,q⟩
def xa:UnR X (unaryOp .USub) (rU fun i=>.int (-i)):=unI fun _ _ _ _ _ q=>neg_int q
def xb:UnR X (unaryOp .Invert) (rU fun i=>.int (Builtin.bitNot i)):=unI fun _ _ _ _ _ q=>invert_int q
end
def scal:V->V->Bool
 |.non,.non=>true|.non,.int _=>true|.int _,.non=>true|.non,.bl _=>true|.bl _,.non=>true|.non,.str _=>true|.str _,.non=>true
 |.int _,.int _=>true|.bl _,.bl _=>true|.str _,.str _=>true|.byt _,.byt _=>true
 |.int _,.str _=>true|.str _,.int _=>true|.bl _,.str _=>true|.str _,.bl _=>true
 |_,_=>false
inductive Zn1(x:V)(y:V)(H:Hp)(Q:VK):Prop
 |mk  : (scal x y=true)->(Q (.bl (decide (x=y))) H)->Zn1 x y H Q
def rEq  : R2:=fun x y H Q=>Zn1 x y H Q
inductive Zn2(x:V)(y:V)(H:Hp)(Q:VK):Prop
 |mk  : (scal x y=true)->(Q (.bl (!decide (x=y))) H)->Zn2 x y H Q
def rNe  : R2:=fun x y H Q=>Zn2 x y H Q
def Zby{i j:Int}:decide (V.int i=V.int j)=(i == j):=by grind
def Zii{i:Bool}:decide (V.bl i=V.bl j)=(i == j):=by grind
def Zbz{i j:Str}:decide (V.str i=V.str j)=(i == j):=by grind
def Zb0{i j:Array UInt8}:decide (V.byt i=V.byt j)=(i.toList == j.toList):=by
 rw[Qdo];cases i;cases j;simp
section
variable {X:Cx}{a b c:Ax}{ta tb tc:TE}{pos:Pos}
def ZG{σ:St}{H:Hp}{Q:VK}{k:Bool}(I:Inv X m σ H s)(q:Q (.bl k) H)(e:k=j):EP X m σ Q (.bool j) s:=by
 subst e;exact⟨.bl k,H,I,rfl,q⟩
def Yt:OpR X (compareOp .Eq) rEq:=by
 intro pins s σ H x y v u Q I D C h;obtain⟨hs,q⟩:=h;cases x with
 |non=>
  cases D;cases y with
  |non=>cases C;exact PySem.EqNone.eq_none_none (ZG I q (by simp))
  |bl j=>cases C;exact PySem.EqNone.eq_none_bool (ZG I q (by simp))
  |int j=>obtain⟨t',rfl⟩:=C;exact PySem.EqNone.eq_none_int (ZG I q (by simp))
  |str j=>obtain⟨t',rfl⟩:=C;exact PySem.EqNone.eq_none_str (ZG I q (by simp))
  |_=>exact absurd (show false=true from hs) Qa7
 |bl i=>
  cases D;cases y with
  |non=>cases C;exact PySem.EqNone.eq_bool_none (ZG I q (by simp))
  |bl j=>cases C;exact eq_bool (ZG I q Zii)
  |str j=>obtain⟨t',rfl⟩:=C;exact PySem.EqMixed.eq_bool_str (ZG I q (by simp))
  |_=>exact absurd (show false=true from hs) Qa7
 |int i=>
  obtain⟨t,rfl⟩:=D;cases y with
  |non=>cases C;exact PySem.EqNone.eq_int_none (ZG I q (by simp))
  |int j=>obtain⟨t',rfl⟩:=C;exact eq_int (ZG I q Zby)
  |str j=>obtain⟨t',rfl⟩:=C;exact PySem.EqMixed.eq_int_str (ZG I q (by simp))
  |_=>exact absurd (show false=true from hs) Qa7
 |str i=>
  obtain⟨t,rfl⟩:=D;cases y with
  |non=>cases C;exact PySem.EqNone.eq_str_none (ZG I q (by simp))
  |bl j=>cases C;exact PySem.EqMixed.eq_str_bool (ZG I q (by simp))
  |int j=>obtain⟨t',rfl⟩:=C;exact PySem.EqMixed.eq_str_int (ZG I q (by simp))
  |str j=>obtain⟨t',rfl⟩:=C;exact eq_str (ZG I q Zbz)
  |_=>exact absurd (show false=true from hs) Qa7
 |byt i=>
  obtain⟨t,rfl⟩:=D;cases y with
  |byt j=>obtain⟨t',rfl⟩:=C;exact PySem.W.eq_bytes (ZG I q Zb0)
  |_=>exact absurd (show false=true from hs) Qa7
 |_=>cases y<;>exact absurd (show false=true from hs) Qa7
def Zf2:OpR X (compareOp .NotEq) rNe:=by
 intro pins s σ H x y v u Q I D C h;obtain⟨hs,q⟩:=h;cases x with
 |non=>
  cases D;cases y with
  |non=>cases C;exact PySem.EqNone.ne_none_none (ZG I q (by simp))
  |bl j=>cases C;exact PySem.EqNone.ne_none_bool (ZG I q (by simp))
  |int j=>obtain⟨t',rfl⟩:=C;exact PySem.EqNone.ne_none_int (ZG I q (by simp))
  |str j=>obtain⟨t',rfl⟩:=C;exact PySem.EqNone.ne_none_str (ZG I q (by simp))
  |_=>exact absurd (show false=true from hs) Qa7
 |bl i=>
  cases D;cases y with
  |non=>cases C;exact PySem.EqNone.ne_bool_none (ZG I q (by simp))
  |bl j=>cases C;exact ne_bool (ZG I q (congrArg not Zii))
  |str j=>obtain⟨t',rfl⟩:=C;exact PySem.EqMixed.ne_bool_str (ZG I q (by simp))
  |_=>exact absurd (show false=true from hs) Qa7
 |int i=>
  obtain⟨t,rfl⟩:=D;cases y with
  |non=>cases C;exact PySem.EqNone.ne_int_none (ZG I q (by simp))
  |int j=>obtain⟨t',rfl⟩:=C;exact ne_int (ZG I q (congrArg not Zby))
  |str j=>obtain⟨t',rfl⟩:=C;exact PySem.EqMixed.ne_int_str (ZG I q (by simp))
  |_=>exact absurd (show false=true from hs) Qa7
 |str i=>
  obtain⟨t,rfl⟩:=D;cases y with
  |non=>cases C;exact PySem.EqNone.ne_str_none (ZG I q (by simp))
  |bl j=>cases C;exact PySem.EqMixed.ne_str_bool (ZG I q (by simp))
  |int j=>obtain⟨t',rfl⟩:=C;exact PySem.EqMixed.ne_str_int (ZG I q (by simp))
  |str j=>obtain⟨t',rfl⟩:=C;exact ne_str (ZG I q (congrArg not Zbz))
  |_=>exact absurd (show false=true from hs) Qa7
 |byt i=>
  obtain⟨t,rfl⟩:=D;cases y with
  |byt j=>obtain⟨t',rfl⟩:=C;exact PySem.W.ne_bytes (ZG I q (congrArg not Zb0))
  |_=>exact absurd (show false=true from hs) Qa7
 |_=>cases y<;>exact absurd (show false=true from hs) Qa7
def Zb1:OpR X (compareOp .Lt) (rI0 fun i j=>.bl (decide (i<j))):=Zo9 fun _ _ _ _ _ _ _ q=>lt_int q
def Zkf:OpR X (compareOp .LtE) (rI0 fun i j=>.bl (decide (i<=j))):=Zo9 fun _ _ _ _ _ _ _ q=>le_int q
def kJ:OpR X (compareOp .Gt) (rI0 fun i j=>.bl (decide (j<i))):=Zo9 fun _ _ _ _ _ _ _ q=>gt_int q
def Zn3:OpR X (compareOp .GtE) (rI0 fun i j=>.bl (decide (j<=i))):=Zo9 fun _ _ _ _ _ _ _ q=>ge_int q
def Zb2:OpR X (compareOp .In) (fun x y H Q=>∃i j,x=.str i/\y=.str j/\Q (.bl (!(Builtin.Str.occurrences j i 0 j.length 1).isEmpty)) H):=by
 intro pins s σ H x y v u Q I D C h;obtain⟨i,j,rfl,rfl,q⟩:=h;obtain⟨t,rfl⟩:=D;obtain⟨t',rfl⟩:=C;exact in_str (ZG I q rfl)
def OpR.or{f:Av->Value->Sem Av}{r C:R2}(h:OpR X f r)(h':OpR X f C):OpR X f (fun x y H Q=>r x y H Q\/C x y H Q):=by
 intro pins s σ H x y v u Q I F D q;rcases q with q|q
 ·exact h pins s σ H x y v u Q I F D q
 ·exact h' pins s σ H x y v u Q I F D q
def Zx(b:Ax){q:CmpOp}(h:q≠.In:=by decide)(h2:q≠.NotIn:=by decide):behindInMarks q b=false:=by
 have e1:(q == CmpOp.In)=false:=by grind
 have e2:(q == CmpOp.NotIn)=false:=by grind
 cases b<;>simp[behindInMarks,e1,e2]
def Zkg{C:CmpOp}{r:R2}(ho:OpR X (compareOp C) r)(ha:PE X a ta)(G:PE X b tb)(J:behindInMarks C b=false):PE X (.Compare a [C] [b] pos) (tOp r ta tb):=by
 intro pins s σ H Q I h;exact wpAny_Compare1 (binT ha G I h fun v u L x y H2 F M D q=>ho pins L σ H2 x y v u Q F M D q) J
inductive Zb3(Q:Bool->Hp->Prop)(x:V)(H':Hp):Prop
 |mk (k:_):(x=.bl k)->(Q k H')->Zb3 Q x H'
def Zn4(t:TE):TT:=fun σ H Q=>t σ H fun x H'=>Zb3 Q x H'
def Zkh{q:CmpOp}{r:R2}(ho:OpR X (compareOp q) r)(ha:PE X a ta)(Y:PE X b tb)(hm:behindInMarks q b=false):PT X (.Compare a [q] [b] pos) (Zn4 (tOp r ta tb)):=by
 intro pins s σ H Q I h;refine wpAny_isTrue_Compare1 (thn (ha pins s σ H _ I h) fun v M ⟨x,H1,L,r1,D⟩=>thn (Y pins M σ H1 _ L D) fun u s2 ⟨y,H2,O,G,C⟩=>
  thn (ho pins s2 σ H2 x y v u _ O r1 G C) fun c s3 ⟨z,H3,Z,J,k,e,F⟩=>?_) hm
 subst e;cases J;exact Qdj ⟨H3,Z,F⟩
def qe:(sizeLine:Nat)<2^63:=by decide
def uO:OpR X (binaryOp .Add) (fun x y H Q=>∃i j,x=.str i/\y=.str j/\i.length+j.length<=sizeLine/\Q (.str (i++j)) H):=by
 intro pins s σ H x y v u Q I F C h;obtain⟨i,j,rfl,rfl,D,q⟩:=h;obtain⟨t,rfl⟩:=F;obtain⟨t',rfl⟩:=C;exact add_str (fun t' tk=>⟨.str (i++j),H,I.tok _,⟨_,rfl⟩,q⟩) D
def vals1{x:V}(r:Vals [x] M):∃u,M=[u]/\RelV x u:=by
 cases r with
 |cons q C=>cases C;exact⟨_,rfl,q⟩
def vals2{x y:V}(r:Vals [x,y] M):∃u q,M=[u,q]/\RelV x u/\RelV y q:=by
 cases r with
 |cons C D=>
  cases D with
  |cons G F=>cases F;exact⟨_,_,rfl,C,G⟩
def Zb4 (D:X.calm=true):Y9 X (.builtin "max") (fun xs H Q=>∃i j,xs=[.int i,.int j]/\Q (.int (if j>i then j else i)) H):=by
 intro pins s σ H xs G Q I r h;obtain⟨i,j,rfl,q⟩:=h;obtain⟨u,F,rfl,⟨t,rfl⟩,⟨t',rfl⟩⟩:=vals2 r;refine max_two_ints (I.ok.hd D) fun h' tk k=>⟨_,H,I.kept k,?_,q⟩
 by_cases C:j>i
 ·rw[Qa3 C,Qa3 C];exact⟨_,rfl⟩
 ·rw[Qay C,Qay C];exact⟨_,rfl⟩
def yS (D:X.calm=true):Y9 X (.builtin "min") (fun xs H Q=>∃i j,xs=[.int i,.int j]/\Q (.int (if j<i then j else i)) H):=by
 intro pins s σ H xs G Q I r h;obtain⟨i,j,rfl,q⟩:=h;obtain⟨u,F,rfl,⟨t,rfl⟩,⟨t',rfl⟩⟩:=vals2 r;refine min_two_ints (I.ok.hd D) fun h' tk k=>⟨_,H,I.kept k,?_,q⟩
 by_cases C:j<i
 ·rw[Qa3 C,Qa3 C];exact⟨_,rfl⟩
 ·rw[Qay C,Qay C];exact⟨_,rfl⟩
def xc:Y9 X (.type "int") (fun xs H Q=>(∃i,xs=[.int i]/\Q (.int i) H)\/∃k,xs=[.bl k]/\Q (.int (if k then 1 else 0)) H):=by
 intro pins s σ H xs D Q I r h;rcases h with⟨i,rfl,q⟩|⟨k,rfl,q⟩
 ·obtain⟨u,rfl,t,rfl⟩:=vals1 r;exact call_int_int ⟨.int i,H,I,⟨_,rfl⟩,q⟩
 ·obtain⟨u,rfl,C⟩:=vals1 r;cases C;exact call_int_bool ⟨.int (if k then 1 else 0),H,I.tok _,⟨_,rfl⟩,q⟩
end
structure ObjM(h:Heap)(x dx C:Aw)(mA:Ae):Prop where
 obj:h.get? x=some (PySem.W.instObj C dx)
 ns:h.Ns1 dx mA
 ne:dx≠x
theorem Zb5{mA:Ae}(n:h.Ns1 f mA):∃od,h.get? f=some od/\∀name,PySem.W.lookIn name od=some (mA name):=by
 obtain⟨o,es,ep,ho,F,I,_,D⟩:=n;refine⟨o,ho,fun name=>?_⟩;have e:=D name;unfold nsFind findBy at e;rw[<-Array.find?_toList]at e;unfold PySem.W.lookIn;rw[F];dsimp only;split
 ·grind
 ·rename_i q;rw[q]at e;have a:es.toList.any (·.refKey)=false:=by
   rw[List.any_eq_false];intro y G;obtain⟨z,t,C⟩:=I y (Array.mem_toList_iff.mp G);simp[DictEntry.refKey,C]
  have J:¬es.toList.any (·.refKey)=true:=by rw[a];exact Qa7
  rw[Qay J];exact congrArg some e
theorem ObjM.look{x:Aw}{mA:Ae}(I:ObjM h x a f mA):∃od,PySem.W.InstAt h x (PySem.W.instObj f a) f (some od)/\∀name,PySem.W.lookIn name od=some (mA name):=
 let⟨od,ho,hl⟩:=Zb5 I.ns
 ⟨od,⟨I.obj,rfl,rfl,ho⟩,hl⟩
section
variable {prog:Aq}{w:Au}{A:Ar}{E:Ab}{s:As}{K:Af}{x dx C f:Aw}{mA:Ae}{name:Str}{v:Av}
end
def uK.some_of{v:V}{o:Option Av}(r:uK (some v) o):∃u,o=some u/\RelV v u:=by
 cases o with
 |none=>exact(show False from r).elim
 |some u=>exact⟨u,rfl,r⟩
section
variable {P:Aq}{w:Au}{H H':Hp}{h h':Heap}{a C dx:Aw}{fs fs':List (Str×V)}
def Zki(D:HOk P w H h)(e:H a=some (.ins C dx fs)):∃mA,ObjM h a dx C mA/\(∀f,uK (fs.lookup f) (mA f))/\PySem.Within mA (fs.map (·.1))/\fs.length<=1000/\H dx=some (.own a):=by
 obtain⟨d,z,ne,ob,mA,n,r,q⟩:=(show Y1 P w H h a (.ins C dx fs)from D a _ e);exact⟨mA,⟨ob,n,ne⟩,r,q,z,d⟩
end
structure Cls(K:Af)(C:Aw):Prop where
 pg:PySem.W.plainGet K C Str.empty=true
 hd:PySem.W.hasDictIn K C=true
 po:PySem.W.plainOver K C=true
 sa:PySem.W.findIn K (.ref C) "__setattr__" = some (some (.builtin "object.__setattr__"))
def Cls.get(c:Cls K a)(f:Str):PySem.W.plainGet K a f=true:=c.pg
section
variable {X:Cx}{pins:Ac}{σ:St}{H:Hp}{s:As}{a C dx:Aw}{fs:List (Str×V)}{f:Str}{v:V}{A:Ar}{E:Ab}
end
section
variable {X:Cx}{o e value:Ax}{f:Str}{pos pos' tpos:Pos}{ta tv:TE}
end
section
variable {X:Cx}{pins:Ac}{σ:St}{H:Hp}{s:As}{A:Ar}{E:Ab}{Q:Ab}{c:Av}{b:Bool}
inductive uP(K:Af)(H:Hp):V->Value->Prop where
 |non:uP K H .non (.type "NoneType")
 |bl (x:Bool):uP K H (.bl x) (.type "bool")
 |int (i:Int):uP K H (.int i) (.type "int")
 |str (x:Str):uP K H (.str x) (.type "str")
 |flt (x:UInt64):uP K H (.flt x) (.type "float")
 |lst {a:Aw} {xs:A2} (e:H a=some (.lst xs)):uP K H (.ref a) (.type "list")
 |frz {a:Aw} {o:Obj} {xs:A2} (e:H a=some (.frz o (.lst xs))):uP K H (.ref a) (.type "list")
 |tup {a:Aw} {xs:A2} (e:H a=some (.tup xs)):uP K H (.ref a) (.type "tuple")
 |dK {a:Aw} {kvs:A0} (e:H a=some (.dK kvs)):uP K H (.ref a) (.type "dict")
 |dT {a:Aw} {kvs:List (List Key×V)} (e:H a=some (.dT kvs)):uP K H (.ref a) (.type "dict")
 |ins {a C dx:Aw} {fs:List (Str×V)} (e:H a=some (.ins C dx fs)) (cl:Cls K C) (ha:PySem.W.findIn K (.ref C) "__class__" = some (some (.builtin "object.__class__")))
   (hn:PySem.W.specialIn K (.builtin "object.__class__") "__get__" = some (some (.builtin "getset_descriptor.__get__"))) (htk:PySem.W.takesIn K (.builtin "object.__class__")=some true)
   (hm:PySem.W.mroIn K C (.type "object")=some true):uP K H (.ref a) (.ref C)
def Zb6{x:V}{u:Av}(I:Inv X pins σ H s)(F:RelV x u)(ty:uP X.K H x v)(e:PySem.W.kitOne X.K v c=some b)(h:∀tk,Q (.bool b) {s with toks:=tk}):
  A3 X.prog X.w A (call (.builtin "isinstance") [u,c]) Q E s:=by
 cases ty with
 |non=>cases(show u=Value.none from F);exact Qc0 PySem.W.kitx_none I.kIn True.intro e (fun z=>nomatch z) h
 |bl y=>cases(show u=Value.bool y from F);exact Qc0 PySem.W.kitx_bool I.kIn True.intro e (fun z=>nomatch z) h
 |int i=>obtain⟨v,q⟩:=(show∃v,u=Value.int i v from F);cases q;exact Qc0 PySem.W.kitx_int I.kIn True.intro e (fun z=>nomatch z) h
 |str y=>obtain⟨v,q⟩:=(show∃v,u=Value.str y v from F);cases q;exact Qc0 PySem.W.kitx_str I.kIn True.intro e (fun z=>nomatch z) h
 |flt y=>obtain⟨v,q⟩:=(show∃v,u=Value.float y v from F);cases q;exact Qc0 PySem.W.kitx_float I.kIn True.intro e (fun z=>nomatch z) h
 | @lst a xs D=>
  cases(show u=Value.ref a from F);obtain⟨_,_,n,_,h1⟩:=(show Y1 X.prog X.w H s.heap a (.lst xs)from I.hok a _ D);exact Qc0 PySem.W.kitx_list I.kIn ⟨_,h1,rfl⟩ e (fun z=>nomatch z) h
 | @frz a ob xs D=>
  cases(show u=Value.ref a from F);obtain⟨_,_,_,n,_,h1⟩:=(show Y1 X.prog X.w H s.heap a (.frz ob (.lst xs))from I.hok a _ D);exact Qc0 PySem.W.kitx_list I.kIn ⟨_,h1,rfl⟩ e (fun z=>nomatch z) h
 | @tup a xs D=>
  cases(show u=Value.ref a from F);obtain⟨_,_,_,p⟩:=(show Y1 X.prog X.w H s.heap a (.tup xs)from I.hok a _ D);obtain⟨o,h1,h2,_⟩:=p;exact Qc0 PySem.W.kitx_tuple I.kIn ⟨o,h1,h2⟩ e (fun z=>nomatch z) h
 | @dK a kvs D=>
  cases(show u=Value.ref a from F);obtain⟨_,_,vs,_,p⟩:=(show Y1 X.prog X.w H s.heap a (.dK kvs)from I.hok a _ D);obtain⟨o,es,ep,h1,h2,_⟩:=p;exact Qc0 PySem.W.kitx_dict I.kIn ⟨o,h1,h2.1⟩ e (fun z=>nomatch z) h
 | @dT a kvs D=>
  cases(show u=Value.ref a from F);obtain⟨_,_,xs,_,o,es,ep,h1,h2,_⟩:=(show Y1 X.prog X.w H s.heap a (.dT kvs)from I.hok a _ D);exact Qc0 PySem.W.kitx_dict I.kIn ⟨o,h1,h2.1⟩ e (fun z=>nomatch z) h
 | @ins a C dx fs D cl ha L G M=>
  cases(show u=Value.ref a from F);obtain⟨mA,O,_⟩:=Zki I.hok D;obtain⟨od,J,_⟩:=O.look;exact Qc0 (PySem.W.kitx_own (cl.get _) cl.hd ha L G M) I.kIn J e (fun z=>nomatch z) h
end
structure WK(k:Nat)(A:Ar):Prop where
 hd:A.handled=none
 dp:A.depth+3*k+5<recursionLimit
 un:A.units+16*k+200<cLine
def WK.mono{j k:Nat}{A:Ar}(r:WK k A)(h:j<=k):WK j A:=⟨r.hd,by have:=r.dp;lia,by have:=r.un;lia⟩
theorem WK.deeper{k:Nat}{A:Ar}(r:WK (k+1) A)(env:Env):WK k (A.deeper env):=
 ⟨r.hd,by have:=r.dp;show A.depth+1+3*k+5<_;lia,by have:=r.un;show A.units+3+16*k+200<_;lia⟩
def WK.depth{k:Nat}{A:Ar}(r:WK k A):A.depth<recursionLimit:=by have:=r.dp;lia
def WK.units{k:Nat}{A:Ar}(r:WK k A):A.units+64<cLine:=by have:=r.un;lia
def WK.units0{k:Nat}{A:Ar}(r:WK k A):A.units<cLine:=by have:=r.un;lia
def Zkj:TA:=fun _ H Q=>Q [] H
def G9(ta:TE)(q:TA):TA:=fun σ H Q=>ta σ H fun x H1=>q σ H1 fun xs H2=>Q (x::xs) H2
section
variable {X:Cx}{e:Ax}{es:An}{te:TE}{t:TA}{pos:Pos}
def pa_nil:PA X [] Zkj:=fun _ _ _ _ H Q I h=>Qd6 ⟨[],H,I,.nil,h⟩
def Zkk(ha:PE X e te)(L:PA X es t)(hs:starEach (e::es) X.env=(false,eval e X.env)::starEach es X.env:=by rfl):PA X (e::es) (G9 te t):=by
 intro pos pins s σ H Q I h;rw[hs];refine Qcy (thn (ha pins s σ H _ I h) fun u G ⟨x,H1,F,M,C⟩=>?_);exact thn (L pos pins G σ H1 _ F C) fun O Y ⟨xs,H2,J,D,q⟩=>⟨x::xs,H2,J,.cons M D,q⟩
inductive Zij(Q:VK)(xs:A2)(H1:Hp):Prop
 |mk  : (xs.length<=sizeLine)->(∀p,H1 p=none->Q (.ref p) (upd H1 p (.tup xs)))->Zij Q xs H1
def tTup(t:TA):TE:=fun σ H Q=>t σ H fun xs H1=>Zij Q xs H1
inductive Zik(Q:VK)(xs:A2)(H1:Hp):Prop
 |mk  : (xs.length<=sizeLine)->(∀p,H1 p=none->Q (.ref p) (upd H1 p (.lst xs)))->Zik Q xs H1
def tLst(t:TA):TE:=fun σ H Q=>t σ H fun xs H1=>Zik Q xs H1
def pe_tup{F:_}(h:PA X es t):PE X (.Tuple es F pos) (tTup t):=by
 intro pins s σ H Q I L;refine wpAny_Tuple_spliced (thn (h pos pins s σ H _ I L) fun G C ⟨xs,H1,D,r,z,q⟩=>⟨by rw[<-r.length];exact z,?_⟩);have J:H1 C.heap.objs.size=none:=D.hok.fresh (Qaj _);refine⟨.ref C.heap.objs.size,upd H1 C.heap.objs.size (.tup xs),D.laid (t':=C.toks) (fun b u e=>Qad _ e) (Qaj _) ?_,rfl,q _ J⟩;exact⟨z,G,r,kI.new _ _⟩
def pe_lst(h:PA X es t):PE X (.List es pos) (tLst t):=by
 intro pins s σ H Q I J;refine wpAny_List_spliced (thn (h pos pins s σ H _ I J) fun F C ⟨xs,H1,D,r,z,q⟩=>⟨by rw[<-r.length];exact z,?_⟩);have G:H1 C.heap.objs.size=none:=D.hok.fresh (Qaj _);refine⟨.ref C.heap.objs.size,upd H1 C.heap.objs.size (.lst xs),D.laid (t':=C.toks) (fun b u e=>Qad _ e) (Qaj _) ?_,rfl,q _ G⟩;exact⟨z,F,0,r,Qam _ rfl⟩
end
abbrev Sp:=A2->Hp->VK->XK->Prop
abbrev CXT:=List Env->Hp->Shared->XK->Value->Shared->Prop
structure Zkl(P:Aq)(w:Au)(K:Af)(mg:Ae)(base:Heap)(A:Ar)(outer:List Env)(s:As)(H:Hp):Prop where
 frames:A.frames=some outer
 mod:Mod K mg base
 bs:∀b o,base.get? b=some o->s.heap.get? b=some o/\H b=none
 bsz:base.objs.size<=s.heap.objs.size
 funs:s.heap.FunFrames base outer
 frf:∀b∈frs outer,H b=none
 hok:HOk P w H s.heap
 bare:AllBare s.gens
def CE(outer:List Env)(P:Aq)(w:Au)(H:Hp)(s:As)(Q:VK)(u:Av)(s':As):Prop:=
 ∃v H',s'.os=s.os/\AllBare s'.gens/\Un (frs outer) [] H H' s.heap s'.heap/\HOk P w H' s'.heap/\RelV v u/\Q v H'
def CR(CX:CXT)(outer:List Env)(P:Aq)(w:Au)(H:Hp)(s:As)(Q:VK)(E:XK)(r:Result)(s':As):Prop:=
 match r with
 |.ok (.ret u)=>CE outer P w H s Q u s'
 |.ok _=>False
 |.error e=>CX outer H s E e s'
structure Y5(P:Aq)(w:Au)(K:Af)(mg:Ae)(base:Heap)(CX:CXT)(k:Nat)(f:Aw)(fd:Ao)(ps:Ai)(sp:Sp):Prop where
 len:∀vs H Q E,sp vs H Q E->vs.length=ps.length
 run:∀(A:Ar) (outer:List Env) (s:As) (H:Hp) (args:Args) (us:Ag) (vs:A2) (Q:VK) (E:XK),WK k A->Zkl P w K mg base A outer s H->BindsTo s fd args (ps.zip us)->Vals vs us->sp vs H Q E->
  codeAny (model P w) A (.call (.ref f) args) (CR CX outer P w H s Q E) s
section
variable {X:Cx}{pins:Ac}{σ:St}{H:Hp}{s s':As}
theorem Inv.env0(I:Inv X pins σ H s):Zkl X.prog X.w X.K X.mg X.base X.A X.stack s H:=
 ⟨I.ok.frames,I.ok.mod,I.bs,Qbc I.ok.bsz I.sz,I.stack,I.stkFree,I.hok,I.bare⟩
def Inv.after{Q:VK}{u:Av}(I:Inv X pins σ H s)(h:CE X.stack X.prog X.w H s Q u s'):EP X pins σ Q u s':=by
 obtain⟨v,H',os,C,un,F,r,q⟩:=h;obtain⟨hh,g,d,t,D⟩:=s';obtain rfl:D=s.os:=os;exact⟨v,H',I.call (h':=hh) (g':=g) (d':=d) (t':=t) (ch:=[]) un F C (fun b z=>absurd z (by simp)),r,q⟩
end
def Zf3(sp:Sp)(dvs:A2)(E:XK)(t:TA):TE:=fun σ H Q=>t σ H fun vs H1=>sp (vs++dvs) H1 Q E
def Binds(K:Af)(fd:Ao)(ps:Ai)(ds:Ag):Prop:=
 ∀(s:As) (q:Ag),K.In s.heap->(q++ds).length=ps.length->BindsTo s fd ⟨q,[]⟩ (ps.zip (q++ds))
theorem Binds.all{fd:Ao}{ps:Ai}(h:∀q:Ag,q.length=ps.length->bindArgs fd ⟨q,[]⟩=pure (ps.zip q)):Binds K fd ps []:=fun s q _ C=>by
 rw[Qby]at C ⊢;exact .of_eq (h q C)
def Passes(CX:CXT)(X:Cx)(E:XK):Prop:=∀(pins:Ac) (σ:St) (H:Hp) (s:As) (e:Av) (s':As),Inv X pins σ H s->CX X.stack H s E e s'->X.xe e s'
section
variable {X:Cx}{CX:CXT}{k:Nat}{f C:Aw}{fd:Ao}{ps:Ai}{sp:Sp}{dvs:A2}{ds:Ag}{E:XK}{x m:Str}{p pos apos:Pos}{e o:Ax}{es:An}{ta:TE}{t:TA}
def run_fn{pins:Ac}{σ:St}{H:Hp}{Q:VK}{vs:A2}(F:Y5 X.prog X.w X.K X.mg X.base CX k f fd ps sp)(Y:WK k X.A)(O:Binds X.K fd ps ds)(J:Vals dvs ds)(D:Passes CX X E)
  (I:Inv X pins σ H s) (r:Vals vs M) (h:sp (vs++dvs) H Q E):A4 X (call (.ref f) M) (EP X pins σ Q) X.xe s:=by
 have C:Vals (vs++dvs) (M++ds):=r.append J;have L:(M++ds).length=ps.length:=by rw[<-C.length];exact F.len _ _ _ _ h
 refine wpAny_call (Qfe (F.run X.A X.stack s H ⟨M,[]⟩ (M++ds) (vs++dvs) Q E Y I.env0 (O s M I.kIn L) C h) fun r s' q=>?_);cases r with
 |error e=>exact D pins σ H s e s' I q
 |ok G=>
  cases G with
  |ret u=>exact I.after q
  |next=>exact False.elim q
  |brk=>exact False.elim q
  |cont=>exact False.elim q
def Zkm(F:Y5 X.prog X.w X.K X.mg X.base CX k f fd ps sp)(Z:WK k X.A)(O:Gl X x)(Y:X.mg x=some (.ref f))(hk:PySem.W.keepIn X.K (.ref f)=true)(M:Binds X.K fd ps ds)(L:Vals dvs ds)(J:Passes CX X E)
  (ha:PA X (e::es) t) (D:(x == ("__debug__" : Str))=false:=by decide) (he:starEach (e::es) X.env=(false,eval e X.env)::starEach es X.env:=by rfl) (C:(backTo pos (starEach es X.env)).any (·.1)=false:=by rfl):
  PE X (.Call (.Name x p) (e::es) [] pos) (Zf3 sp dvs E t):=by
 intro pins s σ H Q I h;refine Qdd (jL I O Y ?_ D);refine Qgl (h₀:=X.base) I.ok.mod.kin hk (thn (ha pos pins s σ H _ I h) fun us s1 ⟨vs,H1,G,r,q⟩=>⟨G.kIn,?_⟩) he C;exact run_fn F Z M L J G r q
end
section
variable {X:Cx}{CX:CXT}{k:Nat}{f C:Aw}{fd:Ao}{ps ks:Ai}{sp:Sp}{E:XK}{x m:Str}{p pos apos kpos:Pos}{e o:Ax}{es:An}{kws:List Keyword}{te ta:TE}{t tk:TA}{nm:Option Str}
variable {g:Ag->List Av->List Av}{gV:A2->List V->List V}
end
structure Zv(N P:Ai)(sc:Scope):Prop where
 kind:sc.kind=.function:=by rfl
 co:sc.isCoroutine=false:=by rfl
 gen:sc.isGenerator=false:=by rfl
 nd:N.Nodup:=by decide +kernel
 pre:N.take P.length=P:=by rfl
 par:∀x∈P,sc.names.lookup x=some .local\/sc.names.lookup x=some .cell:=by decide +kernel
 nofree:∀y∈sc.names,y.2≠.free:=by decide +kernel
theorem yT{kindOf:Str->Option NameKind}{x:Str}:∀{binds:List (Str×Av)} {m:Ae},(∀v,(x,v)∉binds)->bindL kindOf binds m x=m x
 |[],_,_=>rfl
 |(n,v)::r,m,h=>by
  unfold bindL;rw[yT fun w hw=>h w (Qal _ hw)];split
  ·grind
  ·rfl
theorem yU{kindOf:Str->Option NameKind}{x:Str}:∀{binds:List (Str×Av)} {m:Ae},(∀v,(x,v)∉binds)->bindC kindOf binds m x=m x
 |[],_,_=>rfl
 |(n,v)::r,m,h=>by
  unfold bindC;rw[yU fun w hw=>h w (Qal _ hw)];split
  ·rfl
  ·grind
theorem yV{kindOf:Str->Option NameKind}{x:Str}{v:Av}:∀{P:Ai} {vs:Ag} {i:Nat} {m:Ae},P.Nodup->P[i]?=some x->vs[i]?=some v->kindOf x=some .local->
  bindL kindOf (P.zip vs) m x=some v
 |[],_,_,_,_,h,_,_=>by simp at h
 |_::_,[],_,_,_,_,h,_=>by simp at h
 |p::P,w::vs,0,m,q,h1,h2,C=>by
  simp at h1 h2;subst h1;subst h2;show bindL kindOf ((p,w)::P.zip vs) m p=_;unfold bindL;rw[yT fun v D=>(Qcd.mp q).1 (Qd7 D).1,Qa3 C];simp
 |p::P,w::vs,i+1,m,q,h1,h2,C=>by
  unfold bindL;exact yV (i:=i) (Qcd.mp q).2 (by simpa using h1) (by simpa using h2) C
theorem yW{kindOf:Str->Option NameKind}{x:Str}{v:Av}:∀{P:Ai} {vs:Ag} {i:Nat} {m:Ae},P.Nodup->P[i]?=some x->vs[i]?=some v->kindOf x≠some .local->
  bindC kindOf (P.zip vs) m x=some v
 |[],_,_,_,_,h,_,_=>by simp at h
 |_::_,[],_,_,_,_,h,_=>by simp at h
 |p::P,w::vs,0,m,q,h1,h2,C=>by
  simp at h1 h2;subst h1;subst h2;show bindC kindOf ((p,w)::P.zip vs) m p=_;unfold bindC;rw[yU fun v D=>(Qcd.mp q).1 (Qd7 D).1,Qay C];simp
 |p::P,w::vs,i+1,m,q,h1,h2,C=>by
  unfold bindC;exact yW (i:=i) (Qcd.mp q).2 (by simpa using h1) (by simpa using h2) C
def start(N:Ai)(vs:A2):St:=vs.map some++List.replicate (N.length-vs.length) none
def Zf4(CX:CXT)(P:Aq)(w:Au)(K:Af)(mg:Ae)(base:Heap)(N:Ai)(qual:Str)(scope:Scope)(f:Aw)(C:Av)(A:Ar)(outer:List Env)(s:As)(H:Hp)(E:XK):Cx where
 prog:=P
 w:=w
 K:=K
 mg:=mg
 base:=base
 A:=A.deeper (envOfC qual scope s.heap.objs.size f C)
 N:=N
 s₀:=s
 H₀:=H
 env:=envOfC qual scope s.heap.objs.size f C
 outer:=outer
 stack:=envOfC qual scope s.heap.objs.size f C::outer
 ex:=[]
 calm:=true
 fn:=fun _=>true
 pn:=[]
 xe:=fun e s'=>wpAny (model P w) (A.deeper (envOfC qual scope s.heap.objs.size f C)) (leaving (envOfC qual scope s.heap.objs.size f C) e) (fun _ q=>CX outer H s E e q) (fun D q=>CX outer H s E D q) s'
def qK{C:Scope}(h:C.names.lookup x=some .cell):∃c,(cellsFrom n C.names []).lookup x=some c:=by
 have q:=PySem.W.cellsFrom_some C.names n [] (.inl h);exact Option.isSome_iff_exists.mp q
theorem Zb7{CX:CXT}{mg:Ae}{base:Heap}{ps:Ai}{qual:Str}{scope:Scope}{J:Av}{A:Ar}{outer:List Env}{O:As}{H:Hp}{E:XK}{vs:A2}
  (S:Zv N ps scope) (Z:A.handled=none) (C:Zkl P w K mg base A outer s H) (hl:vs.length=ps.length) (r:Vals vs M)
  (x:InCallC s s.heap.objs.size (bindL (envOfC qual scope s.heap.objs.size f J).kindOf (ps.zip M) fun _=>none) (cellsFrom (s.heap.objs.size+1) scope.names []) (bindC (envOfC qual scope s.heap.objs.size f J).kindOf (ps.zip M) fun _=>none) O):
  Inv (Zf4 CX P w K mg base N qual scope f J A outer s H E) [] (start N vs) H O:=by
 have hpl:ps.length<=N.length:=by have:=congrArg List.length S.pre;rw[Qa2]at this;lia
 obtain⟨h1,tk,rfl,Y⟩:=x.done;have D:∀b:Aw,b∉(Zf4 CX P w K mg base N qual scope f J A outer s H E).ex:=fun b z=>absurd (show b∈([]:List Aw)from z) (by simp);refine⟨⟨C.mod,S.kind,rfl,rfl,Qaj _,fun y z c h1 h2=>?_,fun y I=>?_,fun y c _ h=>?_,fun _=>Z,Qf4 C.frames,.inr ⟨rfl,rfl⟩,fun b z=>absurd z (D b),C.bs,C.bsz,fun b _ _=>D b,fun b z=>absurd z (D b),C.funs,C.frf⟩,
  rfl,C.bare,Un.kept Y,⟨_,x.toInCall.ns,fun i y v h1 h2 h3=>?_⟩,fun y c h=>⟨_,x.cell y c h⟩,C.hok.fresh (Qaj _),fun y c h=>?_,fun p F=>absurd (show p∈([]:Ac)from F) (by simp),C.hok.kept Y,?_⟩
 ·exact name_of_addr x.apart (Qch h1) (Qch h2)
 ·rcases I with I|I
  ·exact qK I
  ·exact absurd rfl (S.nofree _ (Qch I))
 ·exact Qav (x.above y c (Qch h))
 ·have hi:i<vs.length:=by
   unfold start at h2
   by_cases hi:i<vs.length
   ·exact hi
   ·grind
  have ha:vs[i]?=some v:=by
   unfold start at h2;rw[Qa8 (by simpa using hi),Qah]at h2;cases e:vs[i]? with
   |none=>rw[e]at h2;cases h2
   |some a=>rw[e]at h2;cases h2;rfl
  obtain⟨u,L,rv⟩:=r.get ha;have F:ps[i]?=some y:=by
   rw[<-S.pre,List.getElem?_take_of_lt (by lia)];exact h1
  have G:ps.Nodup:=by rw[<-S.pre];exact S.nd.sublist (List.take_sublist _ _)
  refine⟨u,rv,?_⟩;rcases S.par y (Qar F)with k|k
  ·exact .inl ⟨k,yV G F L k⟩
  ·obtain⟨c,e⟩:=qK (n:=s.heap.objs.size+1) k;refine .inr ⟨.inl k,c,e,?_⟩;have q:=x.cell y c e;rw[yW G F L (by show scope.names.lookup y≠_;rw[k];decide)]at q;exact q
 ·exact C.hok.fresh (Qav (x.above y c (Qch h)))
 ·unfold start;show _=N.length;rw[Qak,Qab,Qa1];lia
def Zn5{CX:CXT}{mg:Ae}{k:Nat}{name qual:Str}{params:Arguments}{body:List Ay}{scope:Scope}{dV kV O pm C ct oc:Av}{an od:Option Aw}
  {Y:Array (Option Av)} {ps:Ai} {sp:Sp} (lk:K.lookup f=some ⟨oc,od,.func (PySem.W.fnOf name qual params body scope dV kV O pm an C ct),Y⟩) (hcd:PySem.W.codeIn K C qual=true) (S:Zv N ps scope)
  (len:∀vs H Q E,sp vs H Q E->vs.length=ps.length)
  (F:∀(A:Ar) (outer:List Env) (s:As) (H:Hp) (vs:A2) (Q:VK) (E:XK),WK k (A.deeper (envOfC qual scope s.heap.objs.size f C))->sp vs H Q E->
   ∃t,PSs (Zf4 CX P w K mg h N qual scope f C A outer s H E) body t/\t {nx:=fun _ H'=>Q .non H',rt:=Q} (start N vs) H):
  Y5 P w K mg h CX (k+1) f (PySem.W.fnOf name qual params body scope dV kV O pm an C ct) ps sp:=by
 refine⟨len,fun A outer s H args us vs Q E hr M hb r L=>?_⟩;have hl:=len _ _ _ _ L;have KX:K.In s.heap:=M.mod.kin.keeps fun b o e=>(M.bs b o e).1;have Z:s.heap.NoLimit:=M.mod.nolimit.keeps fun b o e=>(M.bs b o e).1;have G:∀y∈ps.zip us,scope.names.lookup y.1=some .local\/(scope.names.lookup y.1=some .cell/\((cellsFrom (s.heap.objs.size+1) scope.names []).lookup y.1).isSome=true):=fun⟨n,v⟩ hy=>by
  rcases S.par n (Qd7 hy).1 with q|q
  ·exact .inl q
  ·exact .inr ⟨q,PySem.W.cellsFrom_some _ _ _ (.inl q)⟩
 refine codeAny_call_function hr.depth (KX _ _ lk) rfl S.co S.gen rfl (PySem.W.codeRec_of KX hcd) (hb _ _ _ _ ?_);refine wpAny_newFunctionEnv_cells S.kind G fun env he s1 x=>?_;subst he;refine⟨Z.keeps x.toInCall.keep,codeAny_func ?_⟩;obtain⟨t,ht,hq⟩:=F A outer s H vs Q E (hr.deeper _) L;have I:Inv (Zf4 CX P w K mg h N qual scope f C A outer s H E) [] (start N vs) H s1:=Zb7 S hr.hd M hl r x;refine Qdi (ht [] s1 (start N vs) H _ I hq) (fun fl s' hs=>?_) fun e s' hs=>hs;have fin:∀{D:St} {H':Hp} {v:V} {u:Av},Inv (Zf4 CX P w K mg h N qual scope f C A outer s H E) [] D H' s'->RelV v u->Q v H'->CE outer P w H s Q u s':=
  fun{D H' v u} J rv q=>⟨v,H',J.os,J.bare,J.base,J.hok,rv,q⟩
 cases fl with
 |ret u=>
  obtain⟨v,D,H',J,rv,q⟩:=hs;exact fin J rv q
 |next=>
  obtain⟨D,H',J,q⟩:=hs;exact fin (v:=V.non) (u:=Value.none) J rfl q
 |brk=>
  obtain⟨_,_,_,q⟩:=hs;exact False.elim q
 |cont=>
  obtain⟨_,_,_,q⟩:=hs;exact False.elim q
section
variable {X:Cx}{x:Str}{p pos:Pos}{e:Ax}{es:An}{t:TA}{id T:String}{r:A2->Hp->VK->Prop}
def tCB(r:A2->Hp->VK->Prop)(t:TA):TE:=fun σ H Q=>t σ H fun vs H1=>r vs H1 Q
def Zf5 (J:Y9 X (.builtin id) r) (O:Gl X x) (Y:X.mg x=none) (F:bootBuiltins x=some (.builtin id)) (ha:PA X (e::es) t) (M:x ≠ "__name__" :=by decide) (C:(x == ("__debug__" : Str))=false:=by decide)
  (he:starEach (e::es) X.env=(false,eval e X.env)::starEach es X.env:=by rfl) (q:(backTo pos (starEach es X.env)).any (·.1)=false:=by rfl):PE X (.Call (.Name x p) (e::es) [] pos) (tCB r t):=by
 intro pins s σ H Q I h;refine Qdd (JL I O Y F ?_ M C);exact PyProof.Rows.callWith_builtin1 (thn (ha pos pins s σ H _ I h) fun Z L ⟨vs,H1,G,r1,D⟩=>J pins L σ H1 vs Z Q G r1 D) he q
def Zb8 (J:Y9 X (.type T) r) (O:Gl X x) (Y:X.mg x=none) (F:bootBuiltins x=some (.type T)) (ha:PA X (e::es) t) (M:x ≠ "__name__" :=by decide) (C:(x == ("__debug__" : Str))=false:=by decide)
  (he:starEach (e::es) X.env=(false,eval e X.env)::starEach es X.env:=by rfl) (q:(backTo pos (starEach es X.env)).any (·.1)=false:=by rfl):PE X (.Call (.Name x p) (e::es) [] pos) (tCB r t):=by
 intro pins s σ H Q I h;refine Qdd (JL I O Y F ?_ M C);exact Qcs (thn (ha pos pins s σ H _ I h) fun Z L ⟨vs,H1,G,r1,D⟩=>J pins L σ H1 vs Z Q G r1 D) he q
end
end L2
variable {X:L2.Cx}
variable {H C:L2.Hp}
variable {b:L2.Cx}
variable {r:List L2.V}
variable {u I:L2.TE}
variable {c:L2.St}
variable {y:L2.V}
variable {g:L2.TS}
variable {G:L2.TT}
variable {O:L2.Ends}
variable {U:L2.VK}
variable {Y:List (List L2.V)}
namespace HT
open PySem PyProof.Rows
section
open PySem.SeqAt
open PySem.AutoSeq1 (wpAny_loadPart')
open PySem.MeetsSeq PySem.MeetsSeq2 PySem.MeetsSeq3
end
section
variable {prog:Aq}{w:Au}{A:Ar}{E:Ab}{s:As}
def cat_tup{b:Aw}{vs:Ag}(ht:IsTup s.heap a vs.toArray)(hb:IsTup s.heap b M.toArray)(J:vs≠[])
  (h1:M=[]->Q (.ref a) s) (h2:M≠[]->Q (.ref s.heap.objs.size) {s with heap:=s.heap.push {cls:=.type "tuple",data:=.seq (vs++M).toArray}})
  (hsz:vs.length+M.length<=sizeLine):A3 prog w A (binaryOp .Add (.ref a) (.ref b)) Q E s:=by
 obtain⟨⟨cls,dd,data,O⟩,ho,Z,n,Y⟩:=id ht;obtain⟨⟨I,C,data2,D⟩,q,F,L,G⟩:=id hb;subst Z Y F G;have e:vs.toArray++M.toArray=(vs++M).toArray:=by simp
 by_cases hw:M=[]
 ·exact concat_meets ⟨_,ho,rfl⟩ ⟨_,q,rfl⟩ Qhg seq_tuple_add Qft Qfl (Qff _ _)
   (tuple_addW1 a b vs.toArray M.toArray n L dd C O D (by simpa using J) (by simp[hw])) ⟨ho,q,h1 hw⟩
 ·refine concat_meets ⟨_,ho,rfl⟩ ⟨_,q,rfl⟩ Qhg seq_tuple_add Qft Qfl (Qff _ _)
   (tuple_addW2 a b vs.toArray M.toArray n L dd C O D (by simpa using J) (by simpa using hw) (by grind)) ⟨ho,q,?_⟩
  rw[e];exact h2 hw
def sIx(n d:Nat):Option Int->Nat
 |none=>d
 |some v=>if v<0 then(v+(n:Int)).toNat else min v.toNat n
def sIx_none(n d:Nat):sIx n d none=d:=rfl
def sIx_nat(n d k:Nat):sIx n d (some (k:Int))=min k n:=by
 show(if(k:Int)<0 then((k:Int)+(n:Int)).toNat else min (k:Int).toNat n)=min k n;rw[Qay (by lia),Qbn]
def sIx_le(n d:Nat)(q:d<=n)(o:Option Int):sIx n d o<=n:=by
 cases o with
 |none=>exact q
 |some v=>
  show(if v<0 then(v+(n:Int)).toNat else min v.toNat n)<=n
  by_cases C:v<0
  ·lia
  ·grind
def Zb9(v:Int)(n d:Nat):(if v<0 then max (v+(n:Int)) 0 else min v (n:Int))=((sIx n d (some v):Nat):Int):=by
 show(if v<0 then max (v+(n:Int)) 0 else min v (n:Int))=(((if v<0 then(v+(n:Int)).toNat else min v.toNat n):Nat):Int)
 by_cases q:v<0
 ·lia
 ·lia
def uQ(lo hi:Option Int)(n:Nat):Builtin.Slice.sliceAdjust lo hi 1 (n:Int)=(((sIx n 0 lo:Nat):Int),((sIx n n hi:Nat):Int)):=by
 have h1:¬((1:Int)<0):=by lia
 unfold Builtin.Slice.sliceAdjust;refine Qhv ?_ ?_
 ·cases lo with
  |none=>rfl
  |some v=>exact Zb9 v n 0
 ·cases hi with
  |none=>rfl
  |some v=>exact Zb9 v n n
def uR(i j:Nat):Builtin.Slice.slicePlaces (i:Int) (j:Int) 1=j-i:=by
 unfold Builtin.Slice.slicePlaces;split<;>lia
def je{o:Option Int}{Q:Option Int->Shared->Prop}(p:IsPart v o)(h:Q o s):A3 prog w A (Builtin.Slice.slicePartIndex v) Q E s:=by
 cases p with
 |none=>exact Qgy h
 |int i t=>exact slicePart_int h
def Wx{vu:Av}{lo hi:Option Int}{Q:Int×Int×Nat->Shared->Prop}(hs:s.heap.IsSliceOf a v vu .none)(pl:IsPart v lo)(F:IsPart vu hi)
  (h:Q (((sIx n 0 lo:Nat):Int),1,sIx n n hi-sIx n 0 lo) s):A3 prog w A (Builtin.Slice.sliceApplied (.ref a) (pure (n:Int))) Q E s:=by
 obtain⟨os,C,D,q⟩:=id hs;refine Qaa (Qaa (Qbw C q (x:=v) rfl (Qaa (Qbw C q (x:=vu) rfl (Qaa (Qbw C q (x:=.none) rfl (Qae ?_)))))));refine Qaa (Qgy ?_);refine Qaa (je pl (Qaa (je F (Qaa (Qae ?_)))));show wpAny _ _ (match Builtin.Slice.sliceAdjust lo hi 1 (n:Int)with|(lo,hi)=>pure (lo,(1:Int),Builtin.Slice.slicePlaces lo hi 1)) _ _ s;rw[uQ lo hi n];show wpAny _ _ (pure (((sIx n 0 lo:Nat):Int),(1:Int),Builtin.Slice.slicePlaces ((sIx n 0 lo:Nat):Int) ((sIx n n hi:Nat):Int) 1)) _ _ s;rw[uR];exact Qae h
def Zf6(xs:Ah)(i k:Nat):((List.range k).filterMap fun(m:Nat)=>xs[((i:Int)+(m:Int)*1).toNat]?).toArray=((xs.toList.drop i).take k).toArray:=by
 have e:(fun(m:Nat)=>xs[((i:Int)+(m:Int)*1).toNat]?)=fun m=>xs[i+m]?:=by
  grind
 rw[e];have:=pick_run xs i k;rw[List.filterMap_map]at this;have e2:((fun x=>xs[x]?)∘fun x=>i+x)=fun m=>xs[i+m]?:=rfl;rw[e2]at this;rw[this]
def getItem_tuple_cut{items:Ah}{vu:Av}{lo hi:Option Int}(C:IsTup s.heap a items)(hs:s.heap.IsSliceOf f v vu .none)(pl:IsPart v lo)(L:IsPart vu hi)
  (hw:¬(sIx items.size 0 lo=0/\sIx items.size items.size hi=items.size))
  (h:Q (.ref s.heap.objs.size) {s with heap:=s.heap.push {cls:=.type "tuple",data:=.seq ((items.toList.drop (sIx items.size 0 lo)).take (sIx items.size items.size hi-sIx items.size 0 lo)).toArray}})
  (hsz:items.size<=sizeLine):A3 prog w A (getItem (.ref a) (.ref f)) Q E s:=by
 have q:sizeOk (.seq ((items.toList.drop (sIx items.size 0 lo)).take (sIx items.size items.size hi-sIx items.size 0 lo)).toArray):=by
  show((items.toList.drop (sIx items.size 0 lo)).take (sIx items.size items.size hi-sIx items.size 0 lo)).toArray.size<=sizeLine;rw[Qas,Qa2,Qbq,Qbj];lia
 obtain⟨os,F,D,J⟩:=id hs;have I:s.TypeIs (.ref f) "slice" :=⟨os,F,D⟩;unfold getItem;try with_reducible refine Qb8 ?_
 first|refine Qaa (Qae ?_)|skip
 refine Qaa (Qg2 C.typeIs (by decide) ?_);refine Qaa (wpAny_callSpecial?_slot (name:=Str.ofString "__getitem__") C.typeIs Qbi
  (Qbe Qbi C.typeIs Qge ?_ (Qgm _ _)))
 show wpAny _ _ (Builtin.Tuple.tupleItemsOf (.ref a) >>= _) _ _ s;refine Qaa (tupleItemsOf_ C ?_);refine Qaa (Qf0 I ?_);refine Qaa (Wx hs pl L ?_);have G:¬((((sIx items.size 0 lo:Nat):Int) == 0&&(1:Int) == 1&&(sIx items.size items.size hi-sIx items.size 0 lo) == items.size)=true):=by
  grind
 show wpAny _ _ (if(((sIx items.size 0 lo:Nat):Int) == 0&&(1:Int) == 1&&(sIx items.size items.size hi-sIx items.size 0 lo) == items.size)=true then _ else _) _ _ s;rw[Qay G,Zf6]
 first
  |exact Qaa (m:=Builtin.Tuple.tupleExact _) (Qbd (Qae ⟨_,rfl,Qae h⟩) q)
  |exact Qaa (m:=Builtin.Tuple.tupleExact _) (Qbd (Qaa (Qae (Qae ⟨_,rfl,Qae h⟩))) q)
  |exact Qaa (Qaa (m:=Builtin.Tuple.tupleExact _) (Qbd (Qae (Qae ⟨_,rfl,Qae h⟩)) q))
  |exact Qaa (Qaa (m:=Builtin.Tuple.tupleExact _) (Qbd (Qae ⟨_,rfl,Qae h⟩) q))
end
end HT
namespace L2
abbrev TO:=St->Hp->(Option Int->Hp->Prop)->Prop
def PO(X:Cx)(e:Option Ax)(t:TO):Prop:=
 ∀(pins:Ac) (s:As) (σ:St) (H:Hp) (Q:Option Int->Hp->Prop),Inv X pins σ H s->t σ H Q->
  A4 X (evalPart e X.env) (fun u s'=>∃o H',Inv X pins σ H' s'/\IsPart u o/\Q o H') X.xe s
def Zca:TO:=fun _ H Q=>Q none H
inductive Zcb(Q:Option Int->Hp->Prop)(x:V)(H1:Hp):Prop
 |mk (i:_):(x=.int i)->(Q (some i) H1)->Zcb Q x H1
def Zn6(t:TE):TO:=fun σ H Q=>t σ H fun x H1=>Zcb Q x H1
theorem intsAre_of{ns:Ak}:∀{q:Ag},Vals (ns.map V.int) q->IntsAre q ns:=by
 induction ns with
 |nil=>intro q r;cases r;exact .nil
 |cons n ns D=>
  intro q r;cases r with
  |cons C F=>
   obtain⟨t,e⟩:=C;subst e;exact .cons n t (D F)
section
variable {X:Cx}{e:Ax}{te:TE}{lo hi:Option Ax}{tl th:TO}{pos p2:Pos}
def Zkn:PO X none Zca:=by
 intro pins s σ H Q I h;exact Qae ⟨none,H,I,.none,h⟩
def Zko(h:PE X e te):PO X (some e) (Zn6 te):=by
 intro pins s σ H Q I hw;refine thn (h pins s σ H _ I hw) fun u G ⟨x,H1,D,F,C⟩=>?_;obtain⟨i,rfl,q⟩:=C;obtain⟨t,rfl⟩:=F;exact⟨some i,H1,D,.int i t,q⟩
def SlR(X:Cx)(r:V->Option Int->Option Int->Hp->VK->Prop):Prop:=
 ∀(pins:Ac) (s:As) (σ:St) (H:Hp) (x:V) (v q vu:Av) (lo hi:Option Int) (C:Aw) (Q:VK),Inv X pins σ H s->RelV x v->s.heap.IsSliceOf C q vu .none->IsPart q lo->IsPart vu hi->r x lo hi H Q->
  ∃T id,typeLookup (.type T) "__getitem__" = pure (some (.builtin id))/\s.TypeIs v T/\A4 X (getItem v (.ref C)) (EP X pins σ Q) X.xe s
def SlR.or{r C:V->Option Int->Option Int->Hp->VK->Prop}(h:SlR X r)(h':SlR X C):SlR X (fun x lo hi H Q=>r x lo hi H Q\/C x lo hi H Q):=by
 intro pins s σ H x v G vu lo hi D Q I J hs pl F q;rcases q with q|q
 ·exact h pins s σ H x v G vu lo hi D Q I J hs pl F q
 ·exact h' pins s σ H x v G vu lo hi D Q I J hs pl F q
def tSl(r:V->Option Int->Option Int->Hp->VK->Prop)(te:TE)(tl th:TO):TE:=fun σ H Q=>te σ H fun x H1=>tl σ H1 fun l H2=>th σ H2 fun u q=>r x l u q Q
def Zf7{r:V->Option Int->Option Int->Hp->VK->Prop}(hr:SlR X r)(he:PE X e te)(hl:PO X lo tl)(G:PO X hi th):PE X (.Subscript e (.Slice lo hi none p2) pos) (tSl r te tl th):=by
 intro pins s σ H Q I h;refine Subscript_ (thn (he pins s σ H _ I h) fun v M ⟨x,H1,I1,Z,q1⟩=>?_);refine wpAny_Slice (thn (hl pins M σ H1 _ I1 q1) fun D s2 ⟨l,H2,I2,pl,q2⟩=>thn (G pins s2 σ H2 _ I2 q2) fun vu C ⟨u,F,O,pu,J⟩=>?_);refine Qae ?_;have Y:Inv X pins σ F {C with heap:=C.heap.push {cls:=.type "slice",data:=.fields #[D,vu,.none]}}:=O.kept (t':=C.toks) fun b ob q=>Qad _ q;obtain⟨T,id,L,ht,hg⟩:=hr pins {C with heap:=C.heap.push {cls:=.type "slice",data:=.fields #[D,vu,.none]}} σ F x v D vu l u C.heap.objs.size Q Y Z (Heap.IsSliceOf.new ..) pl pu J;exact tail_any (ops:=[.ref C.heap.objs.size,v]) ht L hg (by with_unfolding_all rfl)
def Zbd(xs:A2)(lo hi:Option Int):A2:=(xs.drop (HT.sIx xs.length 0 lo)).take (HT.sIx xs.length xs.length hi-HT.sIx xs.length 0 lo)
def xf(xs:A2)(lo hi:Option Int):(Zbd xs lo hi).length<=xs.length:=by
 unfold Zbd;rw[Qa2,Qbq];lia
inductive Zil(K:Af)(x:V)(lo:Option Int)(hi:Option Int)(H:Hp)(Q:VK):Prop
 |mk (a xs:_):(x=.ref a)->(SqT K H a xs)->(¬(HT.sIx xs.length 0 lo=0/\HT.sIx xs.length xs.length hi=xs.length))->(∀p,H p=none->Q (.ref p) (upd H p (.tup (Zbd xs lo hi))))->Zil K x lo hi H Q
def rSlT(K:Af):V->Option Int->Option Int->Hp->VK->Prop:=fun x lo hi H Q=>Zil K x lo hi H Q
def sl_tup:SlR X (rSlT X.K):=by
 intro pins s σ H x v Y vu lo hi O Q I M hs pl L h;obtain⟨a,xs,rfl,J,hw,q⟩:=h;cases M;obtain⟨D,r,F,G⟩:=I.tuple J;have C:D.toArray.size=xs.length:=by exact r.length.symm
 refine⟨"tuple",_,Qbi.lookup,F.typeIs,?_⟩;refine HT.getItem_tuple_cut F hs pl L (by rw[C];exact hw) ?_ (by rw[C];exact G);rw[C];refine⟨.ref s.heap.objs.size,_,I.laid (t':=s.toks) (o:=.tup (Zbd xs lo hi)) (fun b ob q=>Qad _ q) (Qaj _) ?_,rfl,q _ (I.hok.fresh (Qaj _))⟩;exact⟨Qbc (xf xs lo hi) G,_,(r.drop (HT.sIx xs.length 0 lo)).take (HT.sIx xs.length xs.length hi-HT.sIx xs.length 0 lo),kI.new _ _⟩
def Vals.nil_iff{xs:A2}(r:Vals xs M):M=[]↔xs=[]:=by
 cases r with
 |nil=>simp
 |cons _ _=>simp
end
end L2
namespace L2
def ixN(n:Nat)(i:Int):Option Nat:=if 0<=i then(if i<n then some i.toNat else none)else if -(n:Int)<=i then some (i+n).toNat else none
def atI(xs:List d)(i:Int):Option d:=(ixN xs.length i).bind fun j=>xs[j]?
def Zcc{i:Int}{j:Nat}(h:ixN n i=some j):seqIndex? i n=some j/\j<n/\-(n:Int)<=i/\i<n:=by
 unfold ixN at h
 by_cases q:0<=i
 ·rw[Qa3 q]at h
  by_cases h1:i<n
  ·rw[Qa3 h1]at h;have e:i.toNat=j:=Option.some.inj h;exact⟨by rw[Qhw q h1,e],by lia,by lia,h1⟩
  ·rw[Qay h1]at h;cases h
 ·rw[Qay q]at h
  by_cases h1:-(n:Int)<=i
  ·rw[Qa3 h1]at h;have e:(i+n).toNat=j:=Option.some.inj h;exact⟨by rw[seqIndex_neg (by lia) h1,e],by lia,h1,by lia⟩
  ·rw[Qay h1]at h;cases h
def kK{xs:List d}{i:Int}{v:d}(h:atI xs i=some v):∃j,seqIndex? i xs.length=some j/\xs[j]?=some v/\j<xs.length/\-(xs.length:Int)<=i/\i<xs.length:=by
 unfold atI at h;cases e:ixN xs.length i with
 |none=>rw[e]at h;cases h
 |some j=>
  rw[e]at h;obtain⟨h1,h2,C,q⟩:=Zcc e;exact⟨j,h1,h,h2,C,q⟩
def YB{xs:List d}{j:Nat}{v:d}(h:xs[j]?=some v):atI xs (j:Int)=some v:=by
 have q:j<xs.length:=(Qag.mp h).1;have e:ixN xs.length (j:Int)=some j:=by
  unfold ixN;rw[Qa3 (by lia),Qa3 (by lia)];simp
 unfold atI;rw[e];exact h
def Zf8(xs:List d)(v:d):atI (xs++[v]) (-1)=some v:=by
 have q:(xs++[v]).length=xs.length+1:=by simp
 have e:ixN (xs++[v]).length (-1)=some xs.length:=by
  unfold ixN;rw[q,Qay (by decide),Qa3 (by lia)];congr 1;lia
 unfold atI;rw[e];simp
def Zcd(b:Ax):Prop:=∀o i,subscripted b false o i=operate [o,i] (getItem o i)
def IxR(X:Cx)(r:R2):Prop:=
 ∀(value q:Ax) (pins:Ac) (s:As) (σ:St) (H:Hp) (x y:V) (v u:Av) (Q:VK),Inv X pins σ H s->RelV x v->RelV y u->r x y H Q->
  subscripted q false v u=operate [v,u] (getItem v u)->A4 X (subscriptTail value q v u) (EP X pins σ Q) X.xe s
def MtR(X:Cx)(id:String)(r:V->List V->Hp->VK->Prop):Prop:=
 ∀(pins:Ac) (s:As) (σ:St) (H:Hp) (x:V) (xs:A2) (v:Av) (q:Ag) (Q:VK),Inv X pins σ H s->RelV x v->Vals xs q->r x xs H Q->
  A4 X (call (.builtin id) (v::q)) (EP X pins σ Q) X.xe s
section
variable {X:Cx}{a b:Ax}{ta tb:TE}{pos:Pos}
def pe_ix{r:R2}(G:IxR X r)(ha:PE X a ta)(F:PE X b tb)(hs:Zcd b):PE X (.Subscript a b pos) (tOp r ta tb):=by
 intro pins s σ H Q I h;exact Subscript_ (binT ha F I h fun v u J x y H2 D L C q=>G a b pins J σ H2 x y v u Q D L C q (hs _ _))
inductive Zim(K:Af)(x:V)(y:V)(H:Hp)(Q:VK):Prop
 |mk (p xs i v:_):(x=.ref p)->(y=.int i)->(SqL K H p xs)->(atI xs i=some v)->(Q v H)->Zim K x y H Q
def Zpa(K:Af):R2:=fun x y H Q=>Zim K x y H Q
inductive Zin(K:Af)(x:V)(y:V)(H:Hp)(Q:VK):Prop
 |mk (p xs i v:_):(x=.ref p)->(y=.int i)->(SqT K H p xs)->(atI xs i=some v)->(Q v H)->Zin K x y H Q
def uS(K:Af):R2:=fun x y H Q=>Zin K x y H Q
inductive Zio(x:V)(y:V)(H:Hp)(Q:VK):Prop
 |mk (z i c:_):(x=.str z)->(y=.int i)->(z.length<=sizeLine)->(atI z.cps.toList i=some c)->(Q (.str ⟨#[c]⟩) H)->Zio x y H Q
def rIxS  : R2:=fun x y H Q=>Zio x y H Q
def Zy:IxR X (Zpa X.K):=by
 intro value G pins s σ H x y v u Q I rx Z h hs;obtain⟨p,xs,i,z,rfl,rfl,O,he,q⟩:=h;cases rx;obtain⟨t,rfl⟩:=Z;obtain⟨D,r,pl,hz⟩:=I.list O;obtain⟨j,h1,h2,h3,M,h5⟩:=kK he;obtain⟨w,J,C⟩:=r.get h2;have Y:=r.length;have hn:=qe;have fin:EP X pins σ Q w s:=⟨z,H,I,C,q⟩
 by_cases L:0<=i
 ·have F:i.toNat=j:=by
   rw[Qhw L h5]at h1;exact Option.some.inj h1
  exact item_listR pl.isList L (by lia) (by rw[F];simpa using J) fin hs
 ·have F:(i+(D.toArray.size:Int)).toNat=j:=by
   rw[seqIndex_neg (by lia) M]at h1;rw[Qas,<-Y];exact Option.some.inj h1
  exact subscriptTail_builtinR (x:=w) pl.isList.typeIs slot_list_getitem.lookup
   (wpAny_getItem_list_neg (Q:=fun r s'=>r=w/\EP X pins σ Q r s') pl.isList (by lia) (by rw[Qas]<;>lia) (by lia) (by rw[F];simpa using J) ⟨rfl,fin⟩) hs
def ZO:IxR X (uS X.K):=by
 intro value D pins s σ H x y v u Q I Y M h hs;obtain⟨p,xs,i,z,rfl,rfl,G,O,q⟩:=h;cases Y;obtain⟨t,rfl⟩:=M;obtain⟨L,r,pl,hz⟩:=I.tuple G;obtain⟨j,h1,h2,h3,h4,h5⟩:=kK O;obtain⟨w,F,C⟩:=r.get h2;have J:=r.length;have Z:=qe;have fin:EP X pins σ Q w s:=⟨z,H,I,C,q⟩;exact subscriptTail_builtinR (x:=w) pl.typeIs slot_tuple_getitem.lookup
  (getItem_tuple (j:=j) (Q:=fun r s'=>r=w/\EP X pins σ Q r s') pl (by lia) (by lia) (by rw[Qas,<-J];exact h1) (by simpa using F) ⟨rfl,fin⟩) hs
def ix_str:IxR X rIxS:=by
 intro value C pins s σ H x y v u Q I M F h hs;obtain⟨z,i,c,rfl,rfl,Y,L,q⟩:=h;obtain⟨t,rfl⟩:=M;obtain⟨t',rfl⟩:=F;obtain⟨j,h1,h2,Z,G,J⟩:=kK L;have D:z.cps.toList.length=z.length:=by simp[Str.length]
 rw[D]at h1 G J;have O:=qe;exact tail_any (typeIs_str s z t) slot_str_getitem.lookup (getItem_str (c:=c) (by
  grind) (by rw[h1];simpa using h2) ⟨.str ⟨#[c]⟩,H,I.tok _,⟨_,rfl⟩,q⟩) hs
def uT (q:Ag) (n j:Nat) (u:Av):Obj.mapSeq (·.setIfInBounds j u) {cls:=.type "list",data:=.seq q.toArray n}={cls:=.type "list",data:=.seq (q.set j u).toArray n}:=by
 simp[Obj.mapSeq]
def Inv.lst{pins:Ac}{σ:St}{H:Hp}{s:As}{p:Aw}{xs:A2}(I:Inv X pins σ H s)(h:H p=some (.lst xs)):
  ∃(q:Ag) (n:Nat),Vals xs q/\s.heap.get? p=some {cls:=.type "list",data:=.seq q.toArray n}/\xs.length<=sizeLine:=by
 obtain⟨z,q,n,r,e⟩:=I.hok p _ h;exact⟨q,n,r,e,z⟩
def Inv.lstUpd{p:Aw}{xs ys:A2}{its':Ag}{f:Obj->Obj}(I:Inv X m c H s)(h:H p=some (.lst xs))
  (ho:s.heap.get? p=some {cls:=.type "list",data:=.seq M.toArray n}) (C:f {cls:=.type "list",data:=.seq M.toArray n}={cls:=.type "list",data:=.seq its'.toArray i}) (r:Vals ys its') (F:ys.length<=sizeLine) (t:Nat):
  Inv X m c (upd H p (.lst ys)) {s with heap:=s.heap.update p f,toks:=t}:=by
 have e:(s.heap.update p f).get? p=some {cls:=.type "list",data:=.seq its'.toArray i}:=by
  rw[Qbr f ho (by rw[C]<;>rfl),C]
 refine I.write (x:=p) (e:=p) (by rw[h];trivial) (.inl rfl) (fun b u D q=>(Qb1 _ _ (Qd3 D)).trans q) ⟨_,e⟩ ?_;exact⟨F,its',i,r,e⟩
inductive Zce(o:V)(i:V)(v:V)(H:Hp)(Q:(Hp->Prop)):Prop
 |mk (p xs k j:_):(o=.ref p)->(i=.int k)->(H p=some (.lst xs))->(ixN xs.length k=some j)->(Q (upd H p (.lst (xs.set j v))))->Zce o i v H Q
def rSetL  : V->V->V->Hp->(Hp->Prop)->Prop:=fun o i v H Q=>Zce o i v H Q
def set_list:PSet X rSetL:=by
 intro pins s σ H o i v ov iv u Q I ro ri Y h;obtain⟨p,xs,k,j,rfl,rfl,G,Z,q⟩:=h;cases ro;obtain⟨t,rfl⟩:=ri;obtain⟨C,n,r,ho,hz⟩:=I.lst G;obtain⟨h1,h2,M,L⟩:=Zcc Z;have D:=r.length;have hn:=qe;have J:Inv X pins σ (upd H p (.lst (xs.set j v))) {s with heap:=s.heap.update p (Obj.mapSeq (·.setIfInBounds j u))}:=
  I.lstUpd G ho (uT C n j u) (r.set Y j) (by rw[List.length_set];exact hz) s.toks
 by_cases O:0<=k
 ·have F:k.toNat=j:=by
   rw[Qhw O L]at h1;exact Option.some.inj h1
  exact PySem.W.ki_setAt ho O (by lia) (by rw[Qas,<-D];exact L) (by rw[F];exact⟨_,J,q⟩)
 ·have F:(k+(C.toArray.size:Int)).toNat=j:=by
   rw[seqIndex_neg (by lia) M]at h1;rw[Qas,<-D];exact Option.some.inj h1
  exact PySem.W.ki_setBack ho (by lia) (by rw[Qas,<-D];exact M) (by lia) (by rw[F];exact⟨_,J,q⟩)
def yX(lo hi:Option Int)(n:Nat):(sliceBounds lo hi none n).1=((HT.sIx n 0 lo:Nat):Int)/\(sliceBounds lo hi none n).2.1=((HT.sIx n n hi:Nat):Int)/\(sliceBounds lo hi none n).2.2=1:=by
 refine⟨?_,?_,rfl⟩
 ·cases lo with
  |none=>simp[sliceBounds,HT.sIx]
  |some i=>
   simp only[sliceBounds,HT.sIx,Option.getD_none,show(1:Int)>0 by decide,if_true]
   by_cases h:i<0
   ·skip<;>lia
   ·skip<;>lia
 ·cases hi with
  |none=>simp[sliceBounds,HT.sIx]
  |some i=>
   simp only[sliceBounds,HT.sIx,Option.getD_none,show(1:Int)>0 by decide,if_true]
   by_cases h:i<0
   ·skip<;>lia
   ·skip<;>lia
def jP(q:Ag)(lo hi:Option Int):slicePick q.toArray lo hi none=((q.drop (HT.sIx q.length 0 lo)).take (HT.sIx q.length q.length hi-HT.sIx q.length 0 lo)).toArray:=by
 obtain⟨h1,h2,C⟩:=yX lo hi q.toArray.size;unfold slicePick;rw[h1,h2,C];simp only[sliceRange_one,pick_run,Qas]<;>rfl
inductive Ziq(K:Af)(x:V)(lo:Option Int)(hi:Option Int)(H:Hp)(Q:VK):Prop
 |mk (a xs:_):(x=.ref a)->(SqL K H a xs)->(∀p,H p=none->Q (.ref p) (upd H p (.lst (Zbd xs lo hi))))->Ziq K x lo hi H Q
def rSlL(K:Af):V->Option Int->Option Int->Hp->VK->Prop:=fun x lo hi H Q=>Ziq K x lo hi H Q
def JD:SlR X (rSlL X.K):=by
 intro pins s σ H x v Y vu lo hi O Q I M hs pl L h;obtain⟨a,xs,rfl,F,q⟩:=h;cases M;obtain⟨G,r,D,J⟩:=I.list F;have C:=r.length;refine⟨"list",_,slot_list_getitem.lookup,D.isList.typeIs,?_⟩;refine wpAny_getItem_list_slice D.isList hs pl L .none (by simp) ?_ (by rw[Qas]<;>lia);rw[jP,<-C];refine⟨.ref s.heap.objs.size,_,I.laid (t':=s.toks) (o:=.lst (Zbd xs lo hi)) (fun b ob q=>Qad _ q) (Qaj _) ?_,rfl,q _ (I.hok.fresh (Qaj _))⟩;exact⟨Qbc (xf xs lo hi) J,_,0,(r.drop (HT.sIx xs.length 0 lo)).take (HT.sIx xs.length xs.length hi-HT.sIx xs.length 0 lo),Qam _ rfl⟩
def YM:V->Bool
 |.non=>true
 |.bl _=>true
 |.int _=>true
 |.str _=>true
 |_=>false
def eqV:V->V->Bool
 |.non,.non=>true
 |.bl a,.bl b=>a == b
 |.bl a,.int b=>(if a then 1 else 0) == b
 |.int a,.bl b=>a == (if b then 1 else 0)
 |.int a,.int b=>a == b
 |.str a,.str b=>a == b
 |_,_=>false
def gy{A:Ar}{x:V}{u:Av}(C:RelV y u)(q:RelV x v)(D:YM y=true)(fx:YM x=true):SeqAt.EqAt A s u v (eqV y x):=by
 cases y with
 |non=>
  cases C;cases x with
  |non=>cases q;exact Qhk _
  |bl b=>cases q;exact SeqAt.EqAt.none_bool b
  |int b=>obtain⟨t,rfl⟩:=q;exact SeqAt.EqAt.none_int b t
  |str b=>obtain⟨t,rfl⟩:=q;exact SeqAt.EqAt.none_str b t
  |_=>exact absurd (show false=true from fx) Qa7
 |bl a=>
  cases C;cases x with
  |non=>cases q;exact SeqAt.EqAt.bool_none a
  |bl b=>cases q;exact SeqAt.EqAt.bool_bool a b
  |int b=>obtain⟨t,rfl⟩:=q;exact SeqAt.EqAt.bool_int a b t
  |str b=>obtain⟨t,rfl⟩:=q;exact SeqAt.EqAt.bool_str a b t
  |_=>exact absurd (show false=true from fx) Qa7
 |int a=>
  obtain⟨t',rfl⟩:=C;cases x with
  |non=>cases q;exact SeqAt.EqAt.int_none a t'
  |bl b=>cases q;exact SeqAt.EqAt.int_bool a t' b
  |int b=>obtain⟨t,rfl⟩:=q;exact SeqAt.EqAt.int_int a t' b t
  |str b=>obtain⟨t,rfl⟩:=q;exact SeqAt.EqAt.int_str a t' b t
  |_=>exact absurd (show false=true from fx) Qa7
 |str a=>
  obtain⟨t',rfl⟩:=C;cases x with
  |non=>cases q;exact SeqAt.EqAt.str_none a t'
  |bl b=>cases q;exact SeqAt.EqAt.str_bool a t' b
  |int b=>obtain⟨t,rfl⟩:=q;exact SeqAt.EqAt.str_int a t' b t
  |str b=>obtain⟨t,rfl⟩:=q;exact SeqAt.EqAt.str_str a t' b t
  |_=>exact absurd (show false=true from fx) Qa7
 |_=>exact absurd (show false=true from D) Qa7
def eqU(x:V)(u:Av):Bool:=match u with
 |.none=>eqV .non x
 |.bool b=>eqV (.bl b) x
 |.int i _=>eqV (.int i) x
 |.str z _=>eqV (.str z) x
 |_=>false
def Zcf{x:V}{u:Av}(r:RelV y u)(f:YM y=true):eqU x u=eqV y x:=by
 cases y with
 |non=>cases r;rfl
 |bl b=>cases r;rfl
 |int i=>obtain⟨t,rfl⟩:=r;rfl
 |str z=>obtain⟨t,rfl⟩:=r;rfl
 |_=>exact absurd (show false=true from f) Qa7
theorem xg{x:V}:∀{xs:A2} {q:Ag},Vals xs q->xs.all YM=true->q.any (eqU x)=xs.any fun y=>eqV y x
 |_,_,.nil,_=>rfl
 |y::xs,u::q,.cons r t,f=>by
  rw[Qc3,Qb4]at f;rw[Qf9,Qf9,Zcf r f.1,xg t f.2]
theorem Jo{A:Ar}{s:As}{x:V}{v:Av}(D:RelV x v)(fx:YM x=true):∀{xs:A2} {C:Ag},Vals xs C->xs.all YM=true->∀u∈C,SeqAt.EqAt A s u v (eqU x u)
 |_,_,.nil,_=>fun u q=>by cases q
 |y::xs,u::C,.cons r t,f=>fun F q=>by
  rw[Qc3,Qb4]at f;rcases Qao.mp q with rfl|q
  ·rw[Zcf r f.1];exact gy r D f.1 fx
  ·exact Jo D fx t f.2 F q
def inV(x:V)(xs:A2):Bool:=xs.any fun y=>eqV y x
inductive Zn7(K:Af)(neg:Bool)(x:V)(y:V)(H:Hp)(Q:VK):Prop
 |mk (p xs:_):(y=.ref p)->((SqL K H p xs\/SqT K H p xs))->(YM x=true)->(xs.all YM=true)->(Q (.bl (if neg then !inV x xs else inV x xs)) H)->Zn7 K neg x y H Q
def rIn(K:Af)(neg:Bool):R2:=fun x y H Q=>Zn7 K neg x y H Q
def ZZ:OpR X (compareOp .In) (rIn X.K false):=by
 intro pins s σ H x y v u Q I F G h;obtain⟨p,xs,rfl,D,fx,fs,q⟩:=h;cases G;rcases D with D|D
 ·obtain⟨C,r,pl,J⟩:=I.list D;refine SeqAt.in_listAt (eqU x) pl.isList (fun w hw=>Jo F fx r fs w (by simpa using hw)) ⟨.bl _,H,I,rfl,?_⟩;rw[show C.toArray.any (eqU x)=C.any (eqU x) by simp,xg r fs];exact q
 ·obtain⟨C,r,pl,J⟩:=I.tuple D;refine SeqAt.in_tupleAt (eqU x) pl (fun w hw=>Jo F fx r fs w (by simpa using hw)) ⟨.bl _,H,I,rfl,?_⟩;rw[show C.toArray.any (eqU x)=C.any (eqU x) by simp,xg r fs];exact q
def qf:OpR X (compareOp .NotIn) (rIn X.K true):=by
 intro pins s σ H x y v u Q I F G h;obtain⟨p,xs,rfl,D,fx,fs,q⟩:=h;cases G;rcases D with D|D
 ·obtain⟨C,r,pl,J⟩:=I.list D;refine SeqAt.notIn_listAt (eqU x) pl.isList (fun w hw=>Jo F fx r fs w (by simpa using hw)) ⟨.bl _,H,I,rfl,?_⟩;rw[show C.toArray.any (eqU x)=C.any (eqU x) by simp,xg r fs];exact q
 ·obtain⟨C,r,pl,J⟩:=I.tuple D;refine SeqAt.notIn_tupleAt (eqU x) pl (fun w hw=>Jo F fx r fs w (by simpa using hw)) ⟨.bl _,H,I,rfl,?_⟩;rw[show C.toArray.any (eqU x)=C.any (eqU x) by simp,xg r fs];exact q
def Zr:Y9 X (.builtin "len") (fun xs H Q=>∃p ys,xs=[.ref p]/\(SqL X.K H p ys\/SqT X.K H p ys)/\Q (.int ys.length) H):=by
 intro pins s σ H xs O Q I r h;obtain⟨p,ys,rfl,D,q⟩:=h;obtain⟨u,rfl,L⟩:=vals1 r;cases L;have M:=qe;rcases D with D|D
 ·obtain⟨F,G,pl,J⟩:=I.list D;have C:=G.length;exact Calls.call_len_list pl.isList (by simp only[Qas]<;>lia) ⟨.int ys.length,H,I.tok _,⟨s.toks+1,by rw[Qas,C]⟩,q⟩
 ·obtain⟨F,G,pl,J⟩:=I.tuple D;have C:=G.length;exact len_tuple pl (by simp only[Qas]<;>lia) ⟨.int ys.length,H,I.tok _,⟨s.toks+1,by rw[Qas,C]⟩,q⟩
def yY:Y9 X (.builtin "len") (fun xs H Q=>∃z,xs=[.str z]/\z.length<=sizeLine/\Q (.int z.length) H):=by
 intro pins s σ H xs F Q I r h;obtain⟨z,rfl,D,q⟩:=h;obtain⟨u,rfl,t,rfl⟩:=vals1 r;have C:=qe;exact len_str (by lia) ⟨.int z.length,H,I.tok _,⟨_,rfl⟩,q⟩
def yZ:Y9 X (.type "list") (fun xs H Q=>∃p ys,xs=[.ref p]/\(SqL X.K H p ys\/SqT X.K H p ys)/\∀l,H l=none->Q (.ref l) (upd H l (.lst ys))):=by
 intro pins s σ H xs Z Q I r h;obtain⟨p,ys,rfl,J,q⟩:=h;obtain⟨u,rfl,Y⟩:=vals1 r;cases Y;have fin:∀(C:Ag),Vals ys C->ys.length<=sizeLine->∀(h':Heap) (D:Nat),(∀b o',s.heap.get? b=some o'->h'.get? b=some o')->
   h'.get? s.heap.objs.size=some {cls:=.type "list",dict:=none,data:=.seq C.toArray D,slots:=#[]}->EP X pins σ Q (.ref s.heap.objs.size) {s with heap:=h'}:=fun C F L h' D kp e=>
  ⟨.ref s.heap.objs.size,_,I.laid (t':=s.toks) kp (Qaj _) (show Y1 X.prog X.w _ h' _ (.lst ys)from⟨L,C,D,F,e⟩),rfl,q _ (I.hok.fresh (Qaj _))⟩
 rcases J with J|J
 ·obtain⟨C,F,pl,L⟩:=I.list J;have G:=F.length;obtain⟨o,ho,O,n,M⟩:=pl.isList;exact call_list_seq p (.inl rfl) ho O M (fun h' D kp e=>fin C F L h' D kp e) (by simp only[Qas]<;>lia)
 ·obtain⟨C,F,pl,L⟩:=I.tuple J;have G:=F.length;obtain⟨o,ho,O,n,M⟩:=pl;exact call_list_seq p (.inr rfl) ho O M (fun h' D kp e=>fin C F L h' D kp e) (by simp only[Qas]<;>lia)
def Z0:Y9 X (.type "tuple") (fun xs H Q=>∃p ys,xs=[.ref p]/\((SqL X.K H p ys/\∀l,H l=none->Q (.ref l) (upd H l (.tup ys)))\/(SqT X.K H p ys/\Q (.ref p) H))):=by
 intro pins s σ H xs Y Q I r h;obtain⟨p,ys,rfl,h⟩:=h;obtain⟨u,rfl,O⟩:=vals1 r;cases O;rcases h with⟨D,q⟩|⟨D,q⟩
 ·obtain⟨C,F,pl,L⟩:=I.list D;have G:=F.length;refine call_tuple_list pl.isList (fun h' kp=>?_) (by simp only[Qas]<;>lia);have J:Inv X pins σ H {s with heap:=h'}:=I.kept (t':=s.toks) kp;have M:Inv X pins σ (upd H h'.objs.size (.tup ys)) {s with heap:=h'.push {cls:=.type "tuple",data:=.seq C.toArray}}:=
   J.laid (t':=s.toks) (fun b o e=>Qad _ e) (Qaj _) (show Y1 X.prog X.w _ _ _ (.tup ys)from⟨L,C,F,kI.new _ _⟩)
  exact⟨.ref h'.objs.size,_,M,rfl,q _ (J.hok.fresh (Qaj _))⟩
 ·obtain⟨C,F,pl,L⟩:=I.tuple D;exact call_tuple_same pl ⟨.ref p,H,I,rfl,q⟩
def tyV(K:Af)(T:String)(x:V)(H:Hp):Prop:=match x with
 |.str _=>T = "str"
 |.int _=>T = "int"
 |.ref p=>(T = "list" /\ ∃xs,SqL K H p xs)\/(T = "tuple" /\ ∃o,K.lookup p=some o/\o.cls=.type "tuple" /\ o.dict=none) \/
   (T = "dict" /\ ((∃kvs,H p=some (.dK kvs))\/∃kvs,H p=some (.dT kvs)))\/(T = "set" /\ ∃S n,H p=some (.set S n))
 |_=>False
def Zir{σ:St}{T:String}{x:V}(I:Inv X m σ H s)(r:RelV x v)(ty:tyV X.K T x H):
  s.TypeIs v T/\∀a,v=.ref a->∃ob,s.heap.get? a=some ob/\ob.dict=none:=by
 cases x with
 |str z=>
  obtain⟨t,rfl⟩:=r;cases(show T = "str" from ty);exact⟨typeIs_str s z t,fun _ e=>nomatch e⟩
 |int i=>
  obtain⟨t,rfl⟩:=r;cases(show T = "int" from ty);exact⟨typeIs_int s i t,fun _ e=>nomatch e⟩
 |ref p=>
  cases r;rcases ty with⟨rfl,xs,G⟩|⟨rfl,o,q,F,C⟩|⟨rfl,q⟩|⟨rfl,S,n,q⟩
  ·obtain⟨D,_,pl,_⟩:=I.list G;refine⟨pl.isList.typeIs,fun a e=>?_⟩;cases e;obtain⟨o,n,e,c,C,_⟩:=pl;exact⟨o,e,C⟩
  ·refine⟨⟨o,I.kIn p o q,F⟩,fun a e=>?_⟩;cases e;exact⟨o,I.kIn _ o q,C⟩
  ·have z:∃o,s.heap.get? p=some o/\o.ExactDict:=by
    rcases q with⟨kvs,q⟩|⟨kvs,q⟩
    ·obtain⟨_,_,_,_,o,_,_,e,ex,_⟩:=I.hok p _ q;exact⟨o,e,ex⟩
    ·obtain⟨_,_,_,_,o,_,_,e,ex,_⟩:=I.hok p _ q;exact⟨o,e,ex⟩
   obtain⟨o,e,ex⟩:=z;refine⟨⟨o,e,ex.1⟩,fun a e2=>?_⟩;cases e2;exact⟨o,e,ex.2.1⟩
  ·obtain⟨o,_,_,_,e,ex,_⟩:=I.hok p _ q;refine⟨⟨o,e,ex.1⟩,fun a e2=>?_⟩;cases e2;exact⟨o,e,ex.2.1⟩
 |_=>exact False.elim ty
inductive Zis(K:Af)(T:String)(r:V->List V->Hp->VK->Prop)(Q:VK)(x:V)(H1:Hp):Prop
 |mk  : (tyV K T x H1)->(r x [] H1 Q)->Zis K T r Q x H1
def Zpb(K:Af)(T:String)(r:V->List V->Hp->VK->Prop)(to:TE):TE:=fun σ H Q=>to σ H fun x H1=>Zis K T r Q x H1
inductive Zn8(K:Af)(T:String)(r:V->List V->Hp->VK->Prop)(t:TA)(σ:St)(Q:VK)(x:V)(H1:Hp):Prop
 |mk  : (tyV K T x H1)->(t σ H1 fun xs H2=>r x xs H2 Q)->Zn8 K T r t σ Q x H1
def tBM(K:Af)(T:String)(r:V->List V->Hp->VK->Prop)(to:TE)(t:TA):TE:=fun σ H Q=>to σ H fun x H1=>Zn8 K T r t σ Q x H1
variable {o e:Ax}{es:An}{to:TE}{t:TA}{name:Str}{apos cpos:Pos}{T id:String}{r:V->List V->Hp->VK->Prop}
def pe_bm0 (O:PlainAttrs T) (D:Slot T name id) (F:typeOf (.builtin id)=pure (.type "method_descriptor")) (Y:MtR X id r) (ho:PE X o to)
  (C:attributeBase o name X.env (eval o X.env)=eval o X.env:=by rfl) (q:(apos.endLine == cpos.line)=true:=by rfl):PE X (.Call (.Attribute o name apos) [] [] cpos) (Zpb X.K T r to):=by
 intro pins s σ H Q I h;refine wpAny_Call_method0_late C q (thn (ho pins s σ H _ I h) fun v M ⟨x,H1,G,J,ty,L⟩=>?_);obtain⟨h1,h2⟩:=Zir G J ty;exact⟨T,id,O,D,F,h1,h2,Qdy rfl (PySem.evalArgs_none (Y pins M σ H1 x [] v [] Q G J .nil L))⟩
def pe_bm (pa:PlainAttrs T) (D:Slot T name id) (J:typeOf (.builtin id)=pure (.type "method_descriptor")) (hm:MtR X id r) (ho:PE X o to) (ha:PA X (e::es) t)
  (C:attributeBase o name X.env (eval o X.env)=eval o X.env:=by rfl)
  (F:((backTo cpos (starEach (e::es) X.env)).all (fun x=>!x.1)&&(backToKw cpos (keywordEach [] X.env)).all (fun x=>x.1.isSome)
   && decide ((e::es).length+([]:List Keyword).length+(if([]:List Keyword).isEmpty then 0 else 1)<30))=true:=by rfl)
  (q:(apos.endLine == cpos.line)=true:=by rfl) (hs:starEach (e::es) X.env=(false,eval e X.env)::starEach es X.env:=by rfl) (G:(backTo cpos (starEach es X.env)).any (·.1)=false:=by rfl):
  PE X (.Call (.Attribute o name apos) (e::es) [] cpos) (tBM X.K T r to t):=by
 intro pins s σ H Q I h;refine Qfu C F q rfl (thn (ho pins s σ H _ I h) fun v s1 ⟨x,H1,L,O,ty,Z⟩=>?_);obtain⟨h1,h2⟩:=Zir L O ty;refine⟨T,id,pa,D,J,h1,h2,?_⟩;have M:=ha cpos pins s1 σ H1 _ L Z;rw[hs]at M ⊢;refine Qdy (by grind) (Qe7 ?_);exact thn M fun us s2 ⟨vs,H2,I2,r2,Y⟩=>hm pins s2 σ H2 x vs v us Q I2 O r2 Y
end
end L2
namespace L2
def MtM(X:Cx)(id:String)(r:V->List V->Hp->VK->Prop):Prop:=
 ∀(pins:Ac) (s:As) (σ:St) (H:Hp) (x:V) (xs:A2) (v:Av) (q:Ag) (Q:VK),Inv X pins σ H s->RelV x v->Vals xs q->r x xs H Q->
  A4 X (call (.builtin id) (v::q)) (EP X pins σ Q) X.xe s
theorem Vals.one:∀{x:V} {q:Ag},Vals [x] q->∃u,q=[u]/\RelV x u
 |_,_,.cons r .nil=>⟨_,rfl,r⟩
theorem Vals.zero:∀{q:Ag},Vals [] q->q=[]
 |_,.nil=>rfl
theorem Vals.dropLast{xs:A2}{C:Ag}(h:Vals xs C):Vals xs.dropLast C.dropLast:=by
 induction h with
 |nil=>exact .nil
 |cons r t D=>
  cases t with
  |nil=>exact .nil
  |cons q t'=>exact .cons r D
theorem Vals.reverse{xs:A2}{q:Ag}(h:Vals xs q):Vals xs.reverse q.reverse:=by
 induction h with
 |nil=>exact .nil
 |cons r t C=>rw[Qcp,Qcp];exact Vals.append C (.cons r .nil)
theorem Vals.rep{xs:A2}{q:Ag}(h:Vals xs q):∀k:Nat,Vals (List.replicate k xs).flatten (List.replicate k q).flatten
 |0=>.nil
 |k+1=>by
  exact Vals.append h (Vals.rep h k)
def erase_last(l:List d):l.eraseIdx (l.length-1)=l.dropLast:=by grind
def foldl_rep(q:Ag):∀(k:Nat) (acc:Ag),
  List.foldl (fun C x2=>C++x2) acc.toArray (List.replicate k q.toArray)=(acc++(List.replicate k q).flatten).toArray
 |0,acc=>by simp
 |k+1,acc=>by
  have e:acc.toArray++q.toArray=(acc++q).toArray:=by simp
  have e2:(acc++q)++(List.replicate k q).flatten=acc++(List.replicate (k+1) q).flatten:=by
   grind
  rw[<-e2,<-foldl_rep q k (acc++q),<-e,List.replicate_succ,Qc1]
section
variable {X:Cx}{pins:Ac}{σ:St}{H:Hp}{s:As}{l b:Aw}{xs ys zs:A2}
def Inv.lset{its':Ag}{f:Ah->Array Av}{t':Nat}(I:Inv X pins σ H s)(G:H l=some (.lst xs))
  (e:s.heap.get? l=some {cls:=.type "list",data:=.seq M.toArray n}) (J:f M.toArray=its'.toArray) (L:Vals ys its') (D:ys.length<=sizeLine):
  Inv X pins σ (upd H l (.lst ys)) {s with heap:=s.heap.update l (Obj.mapSeq f),toks:=t'}:=by
 have q:=PySem.IsL.update e f;rw[J]at q;refine I.write (x:=l) (e:=l) (by rw[G];exact trivial) (.inl rfl) (fun O u C F=>(Qb1 s.heap (Obj.mapSeq f) (Qd3 C)).trans F) ⟨_,q⟩ ?_;exact⟨D,its',_,L,q⟩
theorem Inv.lnew{t':Nat}(I:Inv X pins σ H s)(C:Vals ys M)(D:ys.length<=sizeLine):
  Inv X pins σ (upd H s.heap.objs.size (.lst ys)) {s with heap:=s.heap.push {cls:=.type "list",data:=.seq M.toArray},toks:=t'}:=
 I.laid (fun _ _ q=>Qad _ q) (Qaj _) ⟨D,M,0,C,Qam _ rfl⟩
def Inv.fresh(I:Inv X pins σ H s):H s.heap.objs.size=none:=I.hok.fresh (Qaj _)
def Inv.lstM (I:Inv X pins σ H s) (C:H l=some (.lst xs)):xs.length<=sizeLine/\∃(q:Ag) (n:Nat),Vals xs q/\xs.length=q.length/\s.heap.get? l=some {cls:=.type "list",data:=.seq q.toArray n}:=by
 obtain⟨z,q,n,r,e⟩:=I.hok l _ C;exact⟨z,q,n,r,r.length,e⟩
def Zf9(h:n<=sizeLine):Builtin.List.listTooLong n=false:=by
 exact Qap (by lia)
end
inductive va(x:V)(vs:A2)(H:Hp)(Q:VK):Prop
 |mk (l xs y:_):(x=.ref l)->(vs=[y])->(H l=some (.lst xs))->(xs.length<sizeLine)->(Q .non (upd H l (.lst (xs++[y]))))->va x vs H Q
def Zkp  : V->List V->Hp->VK->Prop:=fun x vs H Q=>va x vs H Q
def ZF:MtM X "list.append" Zkp:=by
 intro pins s σ H x vs v Y Q I L G h;obtain⟨l,xs,y,rfl,rfl,D,O,q⟩:=h;cases L;obtain⟨u,rfl,J⟩:=G.one;obtain⟨z,C,n,r,M,e⟩:=I.lstM D;refine call_meets F.slot_list_append ⟨_,e,rfl⟩ F.entry_list_append (F.args_list_append_2 _ _) (PySem.list_append l C.toArray n u (by rw[Qas];lia)) ⟨e,?_⟩;refine⟨.non,_,I.lset (its':=C++[u]) D e (by simp) (r.append (.cons J .nil)) ?_,rfl,q⟩;rw[Qak,List.length_singleton];lia
inductive vc(x:V)(vs:A2)(H:Hp)(Q:VK):Prop
 |mk (l b xs zs:_):(x=.ref l)->(vs=[.ref b])->(H l=some (.lst xs))->(H b=some (.lst zs))->(xs.length+zs.length<=sizeLine)->(Q .non (upd H l (.lst (xs++zs))))->vc x vs H Q
def Zkq  : V->List V->Hp->VK->Prop:=fun x vs H Q=>vc x vs H Q
def Zcg:MtM X "list.extend" Zkq:=by
 intro pins s σ H x vs v us Q I O M h;obtain⟨l,b,xs,zs,rfl,rfl,J,hB,hz,q⟩:=h;cases O;obtain⟨u,rfl,ru⟩:=M.one;cases ru;obtain⟨z,D,n,r,hl,e⟩:=I.lstM J;obtain⟨z2,C,Z,L,Y,e2⟩:=I.lstM hB;have hsz:D.toArray.size+C.toArray.size<=sizeLine:=by grind
 have G:¬(!D.toArray.isEmpty&&Builtin.List.listTooLong (D.toArray.size+C.toArray.size))=true:=by
  rw[Zf9 hsz,Qgz];exact Qa7
 refine call_meets F.slot_list_extend ⟨_,e,rfl⟩ F.entry_list_extend (F.args_list_extend_2 _ _)
  (AutoSeq1.list_extend_list_list_0 l D.toArray n b C.toArray Z G (by lia) (by lia)) ⟨e,e2,?_⟩
 refine⟨.non,_,I.lset (its':=D++C) J e (by simp) (r.append L) ?_,rfl,q⟩;rw[Qak];lia
inductive Zit(x:V)(vs:A2)(H:Hp)(Q:VK):Prop
 |mk (l xs y:_):(x=.ref l)->(vs=[])->(H l=some (.lst xs))->(xs[xs.length-1]?=some y)->(Q y (upd H l (.lst xs.dropLast)))->Zit x vs H Q
def rPop  : V->List V->Hp->VK->Prop:=fun x vs H Q=>Zit x vs H Q
def JM:MtM X "list.pop" rPop:=by
 intro pins s σ H x vs v us Q I Y L h;obtain⟨l,xs,y,rfl,rfl,J,M,q⟩:=h;cases Y;have D:=L.zero;subst D;obtain⟨z,C,n,r,hl,e⟩:=I.lstM J;obtain⟨u,Z,O⟩:=r.get M;have G:C.toArray[C.toArray.size-1]?=some u:=by
  grind
 refine call_meets F.slot_list_pop ⟨_,e,rfl⟩ F.entry_list_pop (F.args_list_pop_1 _) (MeetsSeq.list_pop_last l C.toArray n u G (by rw[Qas];lia)) ⟨e,?_⟩;refine⟨y,_,I.lset (its':=C.dropLast) J e ?_ r.dropLast ?_,O,q⟩
 ·grind
 ·rw[List.length_dropLast];lia
inductive Ziu(x:V)(y:V)(H:Hp)(Q:VK):Prop
 |mk (l b xs zs:_):(x=.ref l)->(y=.ref b)->(H l=some (.lst xs))->(H b=some (.lst zs))->(xs.length+zs.length<=sizeLine)->(∀p,H p=none->Q (.ref p) (upd H p (.lst (xs++zs))))->Ziu x y H Q
def rCat  : R2:=fun x y H Q=>Ziu x y H Q
def gz:OpR X (binaryOp .Add) rCat:=by
 intro pins s σ H x y v u Q I Y J h;obtain⟨l,b,xs,zs,rfl,rfl,O,M,hz,q⟩:=h;cases Y;cases J;obtain⟨z,D,n,r,hl,e⟩:=I.lstM O;obtain⟨Z,C,n2,G,F,e2⟩:=I.lstM M;refine PySem.P.add_list e e2 ?_ (by grind);have L:D.toArray++C.toArray=(D++C).toArray:=by simp
 rw[L];exact⟨.ref _,_,I.lnew (t':=s.toks) (r.append G) (by rw[Qak];lia),rfl,q _ I.fresh⟩
theorem len_rep(xs:List d)(k:Nat):(List.replicate k xs).flatten.length=k*xs.length:=by
 induction k with
 |zero=>simp
 |succ k q=>rw[List.replicate_succ,List.flatten_cons,Qak,q,Qgn,Qf1]
section
variable {prog:Aq}{w:Au}{A:Ar}{E:Ab}{s:As}
end
end L2
namespace Att
open PySem PySem.W PySem.Calls PyProof.Rows
theorem xh{P:Params}:∀(ns:Ak) (vs:Ag),WellAll P h vs (ns.map WData.int)->IntsAre vs ns:=by
 intro ns
 induction ns with
 |nil=>
  intro vs w;cases w;exact .nil
 |cons n ns q=>
  intro vs w;cases w with
  |cons a b=>
   cases a;exact .cons _ _ (q _ b)
def Zch{l:OpenLaw}(Z:l.most=some n){P:Params}{args:List WData}
  (C:l.row.toRowW.claim.pre args=true) (I:WellAll P h M args):
  ∃a vs ns,M=[Value.ref a]/\args=[WData.list (ns.map WData.int)]/\h.get? a=some {cls:=.type "list",data:=.seq vs.toArray}/\IntsAre vs ns/\ns.length<=n:=by
 have J:WShape.hasAll [] args [.list .int]=true:=(pre_splitW C).1;have O:l.pre.holds [] {args:=args}=true:=(pre_splitW C).2;obtain⟨d,r,rfl,h1,h2⟩:=hasAllW_cons J;obtain rfl:=hasAllW_nil h2;obtain⟨xs,rfl,h3⟩:=hasW_list h1;obtain⟨ns,rfl⟩:=items_int h3;have D:ns.length<=n:=by
  have G:(WTm.not (.lt (.lit (.int (n:Int))) (.len (.arg 0)))).holds [] {args:=[.list (ns.map .int)]}=true:=by
   have G:=(holds_andW O).1;rw[Z]at G;exact G
  have L:=condW_of G (w_not (w_lt w_lit (w_len_list (w_arg rfl))));refine Qhh fun q=>?_
  first
   |(exact absurd L (by decide))
   |(simp at L;lia)
 cases I with
 |cons Y w2=>
  cases w2;cases Y with
  |list ho F=>exact⟨_,_,ns,rfl,rfl,ho,xh ns _ F,D⟩
theorem Zci(l:OpenLaw)(args:List WData):l.row.toRowW.claim.post args (.bool true) args=true:=
 postW_of (r:=l.row.toRowW) (X:=(true == true))
  (show WShape.has [] (.bool true) .bool=true by first|rfl|decide|skip)
  (show(WTm.eq .res (.lit (.bool true))).value [] {args:=args,res:=some (.bool true),after:=args}=some (.bool (true == true))from w_eq_bool (w_res rfl) w_lit) rfl
def attach_call{l:OpenLaw}{XP:(Ae)->Heap->Prop}{YP:Au->Heap->Prop}{d:DefRec}
  (hn:l.most=some n) (hdf:d.params.defaults=[])
  (call:∀(w:Au) (s₀ q:As) (mg O:Ae) (I:Aw) (o:Obj) (pm M D:Av) (a:Aw) (vs:Ag) (ns:Ak),
   Ground P N [] XP w s₀ mg O q.heap->YP w q.heap->
   q.heap.get? I=some o->o.data=.func (docDef d.name d.params d.body d.scope pm M D)->q.heap.CodeRec M d.name->mg d.name=some (.ref I)->
   q.heap.get? a=some {cls:=.type "list",data:=.seq vs.toArray}->IntsAre vs ns->ns.length<=n->q.gens=#[]->
   codeAny (model l.prog w) callerA (.call (.ref I) ⟨[.ref a],[]⟩) (fun r s'=>r=.ok (.ret (.bool true))/\OldK q.heap s'.heap/\s'.os=q.os/\AllBare s'.gens) q):
  WalkO P N XP YP l.row.toRowW d [] (fun f vs=>PySem.call f vs):=by
 intro w s₀ q mg O G Y I o pm M D dV kV ho hd hcd hD Z hg args vals as J hlay hrd hwl hlo;obtain rfl:dV=.none:=Dflts.none hD hdf;obtain rfl:kV=.none:=Dflts.noKw hD;obtain⟨a,vs,ns,rfl,rfl,L,C,F⟩:=Zch hn J hwl;refine enter_call (Qfe (call w s₀ q mg O I o pm M D a vs ns G Y ho (fd_plain hd) hcd Z L C F hg) fun r s' hq=>?_);obtain⟨rfl,h2,h3,h4⟩:=hq;exact⟨.inl ⟨.bool true,.bool true,[],rfl,fun _=>rfl,.bool true,Zci l _,fun _=>⟨List.Pairwise.nil,fun _ hm=>(nomatch hm)⟩⟩,h2,h3,h4⟩
section
variable {prog:Aq}{w:Au}{A:Ar}{E:Ab}{s:As}{K:Frag}
end
end Att
namespace L2
theorem xi:∀{vs:Ag} {ns:Ak},IntsAre vs ns->Vals (ns.map V.int) vs
 |_,_,.nil=>.nil
 |_,_,.cons n t h=>.cons ⟨t,rfl⟩ (xi h)
def WM(s:Ay):Arguments:=match s with
 |.FunctionDef _ a _ _ _ _ _ _ _ _=>a
 |_=>{posonlyargs:=[],args:=[],vararg:=none,kwonlyargs:=[],kw_defaults:=[],kwarg:=none,defaults:=[]}
def Xo(s:Ay):List Ay:=match s with
 |.FunctionDef _ _ b _ _ _ _ _ _ _=>b
 |_=>[]
def Zh(s:Ay):Scope:=match s with
 |.FunctionDef _ _ _ _ _ _ q _ _ _=>q
 |_=>{kind:=.function,names:=[],isGenerator:=false,isCoroutine:=false}
abbrev CX0:CXT:=fun _ _ _ _ _ _=>False
abbrev E0:XK:=fun _ _ _=>False
def Zkr{X:Cx}:Passes CX0 X E0:=fun _ _ _ _ _ _ _ h=>h.elim
structure Fun(K:Af)(x qual:Str)(st:Ay)(f:Aw)(fd:Ao):Prop where
 ex:∃(oc:Av) (od:Option Aw) (kV doc pm:Av) (an:Option Aw) (cdv ct:Av) (osl:Array (Option Av)),
  fd=PySem.W.fnOf x qual (WM st) (Xo st) (Zh st) .none kV doc pm an cdv ct/\K.lookup f=some ⟨oc,od,.func fd,osl⟩/\PySem.W.codeIn K cdv qual=true
 kp:PySem.W.keepIn K (.ref f)=true
section
variable {P:Aq}{w:Au}{K:Af}{mg:Ae}{base:Heap}
theorem Fun.ok{qual:Str}{st:Ay}{fd:Ao}{ps:Ai}{k:Nat}{sp:Sp}(F:Fun K x qual st f fd)(S:Zv N ps (Zh st))(len:∀vs H Q E,sp vs H Q E->vs.length=ps.length)
  (D:∀(C:Av) (A:Ar) (outer:List Env) (s:As) (H:Hp) (vs:A2) (Q:VK) (E:XK),WK k (A.deeper (envOfC qual (Zh st) s.heap.objs.size f C))->sp vs H Q E->
   ∃t,PSs (Zf4 CX0 P w K mg base N qual (Zh st) f C A outer s H E).nox (Xo st) t/\t {nx:=fun _ H'=>Q .non H',rt:=Q} (start N vs) H):Y5 P w K mg base CX0 (k+1) f fd ps sp:=by
 obtain⟨oc,od,kV,O,Y,Z,C,ct,J,rfl,L,G⟩:=F.ex;refine Zn5 L G S len fun A outer s H vs Q E M I=>?_;obtain⟨t,h,q⟩:=D C A outer s H vs Q E M I;exact⟨t,h.nox,q⟩
def Fun.binds{qual:Str}{st:Ay}{fd:Ao}{ps:Ai}(F:Fun K x qual st f fd)
  (h:∀(kV C D:Av) (I:Option Aw) (q ct:Av) (G:Ag),G.length=ps.length->bindArgs (PySem.W.fnOf x qual (WM st) (Xo st) (Zh st) .none kV C D I q ct) ⟨G,[]⟩=pure (ps.zip G)):Binds K fd ps []:=by
 obtain⟨oc,od,kV,C,D,I,q,ct,J,rfl,M,L⟩:=F.ex;exact .all (h kV C D I q ct)
theorem fun_mk{qual:Str}{st:Ay}{od G:Option Aw}{D:Array (Option Av)}{kV C F q ct:Av}(l:K.lookup f=some ⟨v,od,.func (PySem.W.fnOf x qual (WM st) (Xo st) (Zh st) .none kV C F G q ct),D⟩)
  (c:PySem.W.codeIn K q qual=true) (k:PySem.W.keepIn K (.ref f)=true):Fun K x qual st f (PySem.W.fnOf x qual (WM st) (Xo st) (Zh st) .none kV C F G q ct):=⟨⟨v,od,kV,C,F,G,q,ct,D,rfl,l,c⟩,k⟩
end
def ZK{A:Ar}{k:Nat}(q:WK k A):A.units+1<cLine:=Qeq (Nat.add_le_add_left (by decide:1<=64) _) q.units
def Z2(h:n<=1000):n<sizeLine:=Qeq h (by decide)
def pv (i:Nat)   (C:X.N[i]?=some x:=by rfl) (D:Vis X.env.scope x:=by first|exact Or.inl rfl|exact Or.inr (Or.inl rfl)|exact Or.inr (Or.inr rfl)) (F:(x == ("__debug__" : Str))=false:=by decide)
  (q:(x == ("__classdict__" : Str))=false:=by decide):PE X (.Name x p) (yP i):=Zib C D F q
def ZD{A B:Prop}(h:B):if false=true then A else B:=by grind
def Y2{A B:Prop}(h:A):if true=true then A else B:=by
 exact h
def z6{c A B:Prop}[Decidable c](h1:c->A)(h2:¬c->B):if c then A else B:=by grind
def Z8(H H':Hp):Prop:=∀b o,H b=some o->H' b=some o
def Z8.refl(H:Hp):Z8 H H:=fun _ _ h=>h
def Z8.trans{H2:Hp}(a:Z8 H C)(b:Z8 C H2):Z8 H H2:=fun c o h=>b c o (a c o h)
def Z8.free{H':Hp}(e:Z8 H H'){l:Aw}(h:H' l=Option.none):H l=Option.none:=by
 cases q:H l with
 |none=>rfl
 |some o=>
  rw[e l o q]at h;cases h
def Zks(i j:Int):Prop:=0<j/\j.natAbs.log2<9000
theorem Yh:OpR X (binaryOp .FloorDiv) (rI Zks fun i j=>.int (i/j)):=opI fun i j _ _ _ _ _ C q=>by
 have h1:(0:Int)<j:=C.1;exact floordiv_int (by lia) (by grind) (.inl (PyProof.noPylong_of_log2 C.2))
def Zks.of{i j:Int}(h1:0<j)(h2:j<2^250):Zks i j:=by
 refine⟨h1,?_⟩;have C:j.natAbs<2^250:=by lia
 have q:j.natAbs≠0:=by lia
 have:=(Nat.log2_lt q).mpr C;lia
def Zkt(i j:Int):Prop:=(i.natAbs<2^250/\j.natAbs<2^250)\/CMul i j
def Zkt.ok{i j:Int}(h:Zkt i j):IntMulOk i j:=by
 rcases h with⟨h1,h2⟩|h
 ·refine IntMulOk.of_bits (Qbc (PyProof.Rows.intBits_le h1) (by decide)) (Qbc (PyProof.Rows.intBits_le h2) (by decide))
 ·exact h.ok
def Xe:OpR X (binaryOp .Mult) (rI Zkt fun i j=>.int (i*j)):=opI fun _ _ _ _ _ _ _ C q=>mul_int q C.ok
inductive Ziv(K:Af)(xs:A2)(H:Hp)(Q:VK):Prop
 |mk (x T t b:_):(xs=[x,.ty T])->(uP K H x t)->(PySem.W.kitOne K t (.type T)=some b)->(Q (.bl b) H)->Ziv K xs H Q
def Zn9(K:Af):A2->Hp->VK->Prop:=fun xs H Q=>Ziv K xs H Q
def X5:Y9 X (.builtin "isinstance") (Zn9 X.K):=by
 intro pins s σ H xs F Q I r h;obtain⟨x,T,t,b,rfl,ty,e,q⟩:=h;obtain⟨u,D,rfl,C,rt⟩:=vals2 r;cases rt;exact Zb6 I C ty e fun tk=>⟨.bl b,H,I.tok tk,rfl,q⟩
def ZU:Ax->Bool
 |.Starred _ _=>false
 |_=>true
def Zu{rest:An}{env:Env}(h:ZU e=true):starEach (e::rest) env=(false,eval e env)::starEach rest env:=by
 cases e<;>first
  |rfl
  |cases h
theorem Xa{pos:Pos}{env:Env}:∀{es:An},es.all ZU=true->(backTo pos (starEach es env)).any (·.1)=false
 |[],_=>rfl
 |e::es,h=>by
  rw[Qc3,Qb4]at h;rw[Zu h.1];show(false||(backTo pos (starEach es env)).any (·.1))=false;rw[Xa h.2];rfl
theorem all_plain{pos:Pos}{env:Env}:∀{es:An},es.all ZU=true->(backTo pos (starEach es env)).all (fun x=>!x.1)=true
 |[],_=>rfl
 |e::es,h=>by
  rw[Qc3,Qb4]at h;rw[Zu h.1];show(true&&(backTo pos (starEach es env)).all (fun x=>!x.1))=true;rw[all_plain h.2];rfl
section
variable {X:Cx}{CX:CXT}{k:Nat}{f C:Aw}{fd:Ao}{ps:Ai}{sp:Sp}{dvs:A2}{ds:Ag}{E:XK}{x m:Str}{p pos apos:Pos}{e o:Ax}{es:An}{ta te:TE}{t:TA}{id T:String}{r:A2->Hp->VK->Prop}
def pa_c(ha:PE X e te)(C:PA X es t)(q:ZU e=true:=by rfl):PA X (e::es) (G9 te t):=Zkk ha C (Zu q)
def Zga(F:Y5 X.prog X.w X.K X.mg X.base CX k f fd ps sp)(L:WK k X.A)(I:Gl X x)(J:X.mg x=some (.ref f))(O:PySem.W.keepIn X.K (.ref f)=true)(G:Binds X.K fd ps ds)(M:Vals dvs ds)(D:Passes CX X E)
  (ha:PA X (e::es) t) (C:(x == ("__debug__" : Str))=false:=by decide) (q:(e::es).all ZU=true:=by rfl):PE X (.Call (.Name x p) (e::es) [] pos) (Zf3 sp dvs E t):=by
 rw[Qc3,Qb4]at q;exact Zkm F L I J O G M D ha C (Zu q.1) (Xa q.2)
def Zcj (J:Y9 X (.builtin id) r) (F:Gl X x) (G:X.mg x=none) (I:bootBuiltins x=some (.builtin id)) (ha:PA X (e::es) t) (D:x ≠ "__name__" :=by decide) (C:(x == ("__debug__" : Str))=false:=by decide)
  (q:(e::es).all ZU=true:=by rfl):PE X (.Call (.Name x p) (e::es) [] pos) (tCB r t):=by
 rw[Qc3,Qb4]at q;exact Zf5 J F G I ha D C (Zu q.1) (Xa q.2)
def Zck (J:Y9 X (.type T) r) (F:Gl X x) (G:X.mg x=none) (I:bootBuiltins x=some (.type T)) (ha:PA X (e::es) t) (D:x ≠ "__name__" :=by decide) (C:(x == ("__debug__" : Str))=false:=by decide)
  (q:(e::es).all ZU=true:=by rfl):PE X (.Call (.Name x p) (e::es) [] pos) (tCB r t):=by
 rw[Qc3,Qb4]at q;exact Zb8 J F G I ha D C (Zu q.1) (Xa q.2)
def Zcl {tg a:Ax} (C:Gl X "range") (D:X.mg "range" = none) (ha:PA X [a] t) (q:ZU a=true:=by rfl):PI X tg (.Call (.Name "range" p) [a] [] pos) (Zkd t):=
 Zbv C D ha (by rw[Zu q];rfl)
def pe_bmF {name:Str}   {L:V->List V->Hp->VK->Prop} (M:PlainAttrs T) (G:Slot T name id) (I:typeOf (.builtin id)=pure (.type "method_descriptor")) (O:MtR X id L) (ho:PE X o u) (ha:PA X (e::es) t)
  (F:attributeBase o name X.env (eval o X.env)=eval o X.env:=by rfl) (C:(apos.endLine == q.line)=true:=by rfl) (J:(e::es).all ZU=true:=by rfl) (Y:(e::es).length<30:=by decide):
  PE X (.Call (.Attribute o name apos) (e::es) [] q) (tBM X.K T L u t):=by
 have D:=J;rw[Qc3,Qb4]at D;refine pe_bm M G I O ho ha F ?_ C (Zu D.1) (Xa D.2);rw[all_plain J];exact Qan Y
end
def Ya:bootBuiltins "len" = some (.builtin "len"):=by decide +kernel
def Yd:bootBuiltins "isinstance" = some (.builtin "isinstance"):=by decide +kernel
def JN:bootBuiltins "sorted" = some (.builtin "sorted"):=by decide +kernel
def bt_all:bootBuiltins "all" = some (.builtin "all"):=by decide +kernel
def jf:bootBuiltins "int" = some (.type "int"):=by decide +kernel
def Zku:bootBuiltins "bool" = some (.type "bool"):=by decide +kernel
def Ziw:bootBuiltins "str" = some (.type "str"):=by decide +kernel
def Zcm:bootBuiltins "list" = some (.type "list"):=by decide +kernel
def ZQ:bootBuiltins "tuple" = some (.type "tuple"):=by decide +kernel
def Zix:bootBuiltins "set" = some (.type "set"):=by decide +kernel
def kL:bootBuiltins "reversed" = some (.type "reversed"):=by decide +kernel
def Zgb:bootBuiltins "range" = some (.type "range"):=by decide +kernel
def JE :PySem.W.kitOne K (.type "int") (.type "int")=some true:=by rfl
def xj :PySem.W.kitOne K (.type "tuple") (.type "tuple")=some true:=by rfl
def Xp :PySem.W.kitOne K (.type "str") (.type "int")=some false:=by with_unfolding_all rfl
def xk :PySem.W.kitOne K (.type "str") (.type "str")=some true:=by rfl
def xl :PySem.W.kitOne K (.type "int") (.type "str")=some false:=by with_unfolding_all rfl
structure QE(X:Cx)(e:Ax)(t:TE):Prop where
 out:PE X e t
structure QT(X:Cx)(e:Ax)(t:TT):Prop where
 out:PT X e t
structure QW(X:Cx)(e:Ax)(t:TT):Prop where
 out:PW X e t
structure QA(X:Cx)(e:An)(t:TA):Prop where
 out:PA X e t
structure QSs(X:Cx)(e:List Ay)(t:TS):Prop where
 out:PSs X e t
structure QS(X:Cx)(e:Ay)(t:TS):Prop where
 out:PS X e t
structure QG(X:Cx)(e:Ax)(t:TG):Prop where
 out:PG X e t
structure QI(X:Cx)(tg e:Ax)(t:TI):Prop where
 out:PI X tg e t
structure QO(X:Cx)(e:Option Ax)(t:TO):Prop where
 out:PO X e t
def qv {X:Cx} (i:Nat)   (C:X.N[i]?=some x:=by rfl) (D:Vis X.env.scope x:=by first|exact Or.inl rfl|exact Or.inr (Or.inl rfl)|exact Or.inr (Or.inr rfl)) (F:(x == ("__debug__" : Str))=false:=by decide) (q:(x == ("__classdict__" : Str))=false:=by decide):QE X (.Name x p) (yP i):=⟨pv i C D F q⟩
def Zf{X:Cx}{i j pos:_}:QE X (.Constant (.int i) j pos) (tC (.int i)):=⟨pe_int ⟩
def YC{X:Cx}{b j pos:_}:QE X (.Constant (.bool b) j pos) (tC (.bl b)):=⟨pe_bl ⟩
def Zj{X:Cx}{x j pos:_}:QE X (.Constant (.str x) j pos) (tC (.str x)):=⟨pe_str ⟩
def Wk {X:Cx}  {v:V} {u:Av}  (q:Gl X x) (C:X.mg x=some u) (r:RelV v u) (D:(x == ("__debug__" : Str))=false:=by decide):QE X (.Name x p) (tC v):=⟨Zj5 q C r D⟩
def WN {X:Cx}  {v:V} {u:Av}  (C:Gl X x) (D:X.mg x=none) (F:bootBuiltins x=some u) (r:RelV v u) (q:x ≠ "__name__" :=by decide) (G:(x == ("__debug__" : Str))=false:=by decide):QE X (.Name x p) (tC v):=⟨Zj6 C D F r q G⟩
def Zp{X:Cx}{a:Ax}{b:Ax}{q:Operator}{r:R2}(ho:OpR X (binaryOp q) r)(ha:QE X a u)(C:QE X b I):QE X (.BinOp a q b p) (tOp r u I):=⟨pe_op ho ha.out C.out⟩
def JO{X:Cx}{a:Ax}{q:UnaryOp}{r:V->Hp->VK->Prop}(ho:UnR X (unaryOp q) r)(ha:QE X a u):QE X (.UnaryOp q a p) (tUn r u):=⟨pe_un ho ha.out⟩
def Yk{X:Cx}{a:Ax}{b:Ax}{q:CmpOp}{r:R2}(ho:OpR X (compareOp q) r)(ha:QE X a u)(C:QE X b I)(D:behindInMarks q b=false):QE X (.Compare a [q] [b] p) (tOp r u I):=⟨Zkg ho ha.out C.out D⟩
def Zq{X:Cx}{a:Ax}{b:Ax}{q:CmpOp}{r:R2}(ho:OpR X (compareOp q) r)(ha:QE X a u)(C:QE X b I)(D:behindInMarks q b=false):QT X (.Compare a [q] [b] p) (Zn4 (tOp r u I)):=⟨Zkh ho ha.out C.out D⟩
def YQ{X:Cx}(h:QE X e u)(C:∀q,isTrue e X.env q=(do let v <-q;standAt e.pos;holding [v] (truthy v)):=by intro _;rfl):QT X e (tB u):=⟨pt_val h.out C⟩
def Wl{X:Cx}{a:Ax}(ha:QT X a G):QW X (.BoolOp .And [a] p) G:=⟨Zj7 ha.out⟩
def JP{X:Cx}{a:Ax}(ha:QT X a G):QW X (.BoolOp .Or [a] p) G:=⟨pw_or1 ha.out⟩
def JQ{X:Cx}{a:Ax}{b:Ax}{tB':TT}{rest:An}(ha:QT X a G)(q:QW X (.BoolOp .And (b::rest) p) tB'):QW X (.BoolOp .And (a::b::rest) p) (tAnd G tB'):=⟨pw_and ha.out q.out⟩
def jQ{X:Cx}{a:Ax}{b:Ax}{tB':TT}{rest:An}(ha:QT X a G)(q:QW X (.BoolOp .Or (b::rest) p) tB'):QW X (.BoolOp .Or (a::b::rest) p) (tOr G tB'):=⟨pw_or ha.out q.out⟩
def jg{X:Cx}{a:Ax}(ha:QT X a G):QT X (.UnaryOp .Not a p) (tNot G):=⟨pt_not ha.out⟩
def xm{X:Cx}{a:Ax}{q:_}(h:QE X a u):QE X (.BoolOp q [a] p) u:=⟨pe_one h.out⟩
def g7{X:Cx}{a:Ax}{b:Ax}{rest:An}(ha:QE X a u)(q:QE X (.BoolOp .And (b::rest) p) I):QE X (.BoolOp .And (a::b::rest) p) (Znr u I):=⟨pe_and ha.out q.out⟩
def Zkv{X:Cx}{a:Ax}{b:Ax}{rest:An}(ha:QE X a u)(q:QE X (.BoolOp .Or (b::rest) p) I):QE X (.BoolOp .Or (a::b::rest) p) (tOrV u I):=⟨pe_or ha.out q.out⟩
def Zcn{X:Cx}{a:Ax}(ha:QE X a u):QE X (.UnaryOp .Not a p) (Zns u):=⟨pe_not ha.out⟩
def Zw{X:Cx}:QSs X [] Znt:=⟨Zj8 ⟩
def Zb{X:Cx}{st:Ay}{rest:List Ay}{u:TS}(h1:QS X st g)(h2:QSs X rest u):QSs X (st::rest) (ZY g u):=⟨Zf0 h1.out h2.out⟩
def Ze{X:Cx}{st:Ay}(h1:QS X st g):QSs X [st] g:=⟨Zj9 h1.out⟩
def Yn{X:Cx}(q:QE X e u)(hs:swapsWith e none p.line X.env=pure false:=by rfl):QS X (.Expr e p) (Znu u):=⟨Zka q.out hs⟩
def Zo{X:Cx}(q:QE X e u):QS X (.Return (some e) p) (tRet u):=⟨ps_ret q.out⟩
def ZE{X:Cx}{u:TS}{c:Ax}{a b:List Ay}(C:QT X c G)(ha:QSs X a g)(q:QSs X b u):QS X (.If c a b p) (tIfS G g u):=⟨ps_if C.out ha.out q.out⟩
theorem Zkw{X:Cx}(D:X.N.Nodup)(hi:X.N[i]?=some x)(C:Loc X.env.scope x)(q:X.fn x=true\/X.env.scope.names.lookup x=some .local:=by first|exact .inl rfl|exact .inr rfl|assumption):QG X (.Name x p) (WL i):=⟨jM D hi C q⟩
theorem Xq{X:Cx}(i:Nat)(D:X.N.Nodup)(hi:X.N[i]?=some x:=by exact rfl)(C:Loc X.env.scope x:=by first|exact .inl rfl|exact .inr rfl)(q:X.fn x=true\/X.env.scope.names.lookup x=some .local:=by first|exact .inl rfl|exact .inr rfl|assumption):QG X (.Name x p) (WL i):=Zkw D hi C q
def Ziy{X:Cx}{i:Ax}{t:Zo8}(ho:QE X o u)(hi:QE X i I)(hs:PSet X t)(ha:∀v,assign (.Subscript o i p) X.env v=(do
   let q <-holding [v] (eval o X.env);let C <-holding [v,q] (eval i X.env)
   standAt p
   holding [v,q,C] (setItem q C v)
   release [v,q,C] []):=by intro _;rfl):QG X (.Subscript o i p) (gSub u I t):=⟨pg_sub (ho:=ho.out) (hi:=hi.out) (hs:=hs) (ha:=ha)⟩
def g8{X:Cx}{g:TG}(C:QE X e u)(q:QG X o g)(hs:swapsWithSole [o] e p.line X.env=pure false:=by rfl)(hw:swappedStores [o] e X.env=pure none:=by rfl)(h1:(assignEach [o] X.env).map (·.2)=[assign o X.env]:=by rfl):QS X (.Assign [o] e p) (Zkb u g):=⟨ps_asg C.out q.out hs hw h1⟩
theorem qs_set{X:Cx}(G:X.N.Nodup)(hi:X.N[i]?=some x)(D:Loc X.env.scope x)(F:QE X e u)(hs:swapsWith e (some (.Name x q)) p.line X.env=pure false:=by rfl)(C:X.fn x=true\/X.env.scope.names.lookup x=some .local:=by first|exact .inl rfl|exact .inr rfl|assumption):QS X (.Assign [.Name x q] e p) (Zkb u (WL i)):=⟨ps_set G hi D F.out hs C⟩
theorem Zz{X:Cx}(i:Nat)(G:X.N.Nodup)(F:QE X e u)(hi:X.N[i]?=some x:=by exact rfl)(D:Loc X.env.scope x:=by first|exact .inl rfl|exact .inr rfl)(hs:swapsWith e (some (.Name x q)) p.line X.env=pure false:=by rfl)(C:X.fn x=true\/X.env.scope.names.lookup x=some .local:=by first|exact .inl rfl|exact .inr rfl|assumption):QS X (.Assign [.Name x q] e p) (Zkb u (WL i)):=qs_set G hi D F hs C
def Jp{X:Cx}{c:Ax}{body:List Ay}(q:PassesOwn (model X.prog X.w) X.A X.env X.xe)(D:QT X c G)(C:QSs X body g):QS X (.While c body [] p) (Zbp G g):=⟨Zf1 q D.out C.out⟩
def Xr{X:Cx}{l:Ax}(q:QE X l u):QI X e l (Zbs X.K u):=⟨Zkc q.out⟩
def Xs{X:Cx}{l:Ax}(q:QE X l u):QI X e l (iTup X.K u):=⟨pi_tup q.out⟩
def Xb{X:Cx}{iter:Ax}{body:List Ay}{wi:TI}{g:TG}{tb:TS}(q:PassesOwn (model X.prog X.w) X.A X.env X.xe)(F:X.calm=true)(hi:QI X e iter wi)(D:QG X e g)(C:QSs X body tb)(hs:∀x,foldedSetIterable iter X.env x=pure x:=by intro _;rfl):QS X (.For e iter body [] p) (tFor wi g tb):=⟨ps_for q F hi.out D.out C.out hs⟩
def Yb{X:Cx}{t:TA}{q:_}(h:QA X A t):QE X (.Tuple A q p) (tTup t):=⟨pe_tup h.out⟩
def ZM{X:Cx}{t:TA}(h:QA X A t):QE X (.List A p) (tLst t):=⟨pe_lst h.out⟩
def Zd{X:Cx}:QA X [] Zkj:=⟨pa_nil ⟩
def Zi{X:Cx}{t:TA}(ha:QE X e u)(C:QA X A t)(q:ZU e=true:=by rfl):QA X (e::A) (G9 u t):=⟨pa_c ha.out C.out q⟩
def jR {X:Cx} {CX:CXT} {k:Nat}  {fd:Ao} {ps:Ai} {sp:Sp}   {E:XK}     {es:An} {t:TA} (F:Y5 X.prog X.w X.K X.mg X.base CX k f fd ps sp) (Y:WK k X.A) (L:Gl X x) (O:X.mg x=some (.ref f)) (Z:PySem.W.keepIn X.K (.ref f)=true) (J:Binds X.K fd ps M) (I:Vals r M) (G:Passes CX X E) (ha:QA X (e::es) t) (C:(x == ("__debug__" : Str))=false:=by decide) (D:(e::es).all ZU=true:=by rfl):QE X (.Call (.Name x p) (e::es) [] q) (Zf3 sp r E t):=⟨Zga F Y L O Z J I G ha.out C D⟩
def Zn {X:Cx}      {t:TA} {id:String} {r:A2->Hp->VK->Prop} (L:Y9 X (.builtin id) r) (G:Gl X x) (I:X.mg x=none) (J:bootBuiltins x=some (.builtin id)) (ha:QA X (e::A) t) (F:x ≠ "__name__" :=by decide) (C:(x == ("__debug__" : Str))=false:=by decide) (D:(e::A).all ZU=true:=by rfl):QE X (.Call (.Name x p) (e::A) [] q) (tCB r t):=⟨Zcj L G I J ha.out F C D⟩
def Z4 {X:Cx}      {t:TA} {T:String} {r:A2->Hp->VK->Prop} (L:Y9 X (.type T) r) (G:Gl X x) (I:X.mg x=none) (J:bootBuiltins x=some (.type T)) (ha:QA X (e::A) t) (F:x ≠ "__name__" :=by decide) (C:(x == ("__debug__" : Str))=false:=by decide) (D:(e::A).all ZU=true:=by rfl):QE X (.Call (.Name x p) (e::A) [] q) (tCB r t):=⟨Zck L G I J ha.out F C D⟩
def XW {X:Cx}   {t:TA} {a:Ax} (D:Gl X "range") (F:X.mg "range" = none) (ha:QA X [a] t) (C:ZU a=true:=by rfl):QI X e (.Call (.Name "range" p) [a] [] q) (Zkd t):=⟨Zcl D F ha.out C⟩
def YD {X:Cx}     {t:TA} {id:String} {T:String} {name:Str}   {I:V->List V->Hp->VK->Prop} (L:PlainAttrs T) (F:Slot T name id) (G:typeOf (.builtin id)=pure (.type "method_descriptor")) (M:MtR X id I) (ho:QE X o u) (ha:QA X (e::A) t) (D:attributeBase o name X.env (eval o X.env)=eval o X.env:=by rfl) (C:(p.endLine == q.line)=true:=by rfl) (J:(e::A).all ZU=true:=by rfl) (O:(e::A).length<30:=by decide):QE X (.Call (.Attribute o name p) (e::A) [] q) (tBM X.K T I u t):=⟨pe_bmF L F G M ho.out ha.out D C J O⟩
def Jy {X:Cx}   {name:Str}   {T:String} {id:String} {r:V->List V->Hp->VK->Prop} (I:PlainAttrs T) (F:Slot T name id) (G:typeOf (.builtin id)=pure (.type "method_descriptor")) (J:MtR X id r) (ho:QE X o u) (D:attributeBase o name X.env (eval o X.env)=eval o X.env:=by rfl) (C:(p.endLine == q.line)=true:=by rfl):QE X (.Call (.Attribute o name p) [] [] q) (Zpb X.K T r u):=⟨pe_bm0 I F G J ho.out D C⟩
def JF{X:Cx}:QO X none Zca:=⟨Zkn ⟩
def Wn{X:Cx}(h:QE X e u):QO X (some e) (Zn6 u):=⟨Zko h.out⟩
def X6{X:Cx}{lo:Option Ax}{hi:Option Ax}{tl:TO}{th:TO}{r:V->Option Int->Option Int->Hp->VK->Prop}(D:SlR X r)(G:QE X e u)(F:QO X lo tl)(C:QO X hi th):QE X (.Subscript e (.Slice lo hi none q) p) (tSl r u tl th):=⟨Zf7 D G.out F.out C.out⟩
def Z3{X:Cx}{a:Ax}{b:Ax}{r:R2}(C:IxR X r)(ha:QE X a u)(q:QE X b I)(hs:Zcd b:=by exact fun _ _=>rfl):QE X (.Subscript a b p) (tOp r u I):=⟨pe_ix C ha.out q.out hs⟩
def WH{X:Cx}(h:QW X e G):QT X e G:=⟨h.out.pt⟩
end L2
set_option maxHeartbeats 4000000
namespace L2
def xn(cells:List (Str×Aw)):List (Str×NameKind)->List (Str×Aw)->List (Str×Aw)
 |[],acc=>acc
 |(n,k)::r,acc=>xn cells r (if(k == NameKind.free)=true then(n,(cells.lookup n).getD 0)::acc else acc)
def jh{env:Env}:∀(names:List (Str×NameKind)) (acc:List (Str×Aw)),(∀y∈names,y.2=.free->∃c,env.cells.lookup y.1=some c)->
  (forIn names acc fun(x:Str×NameKind) (r:List (Str×Aw))=>match x with
   | (name,kind)=>if (kind == NameKind.free)=true then do let a <-cellOf env name;pure (ForInStep.yield ((name,a)::r)) else pure (ForInStep.yield r):Sem (List (Str × Aw)))=pure (xn env.cells names acc)
 |[],acc,_=>rfl
 |(n,k)::r,acc,h=>by
  rw[List.forIn_cons];have F:=fun D=>jh (env:=env) r D fun y I=>h y (Qal _ I)
  by_cases q:(k == NameKind.free)=true
  ·obtain⟨c,G⟩:=h (n,k) Qai (by simpa using q);have C:env.cells.lookup n=some c:=G;have e:cellOf env n=pure c:=by unfold cellOf;rw[C]
   simp only[q,if_true,e];rw[xn,Qa3 q,C];exact F ((n,c)::acc)
  ·rw[xn,Qay q];simp only[q,if_false];exact F acc
def Jq{scope:Scope}{env:Env}(h:∀y∈scope.names,y.2=.free->∃c,env.cells.lookup y.1=some c):closureFor scope env=pure (xn env.cells scope.names []):=by
 have e:=jh (env:=env) scope.names [] h;show(do let r <-_;pure r)=_;rw[show(forIn scope.names ([]:List (Str×Aw)) fun(x:Str×NameKind) (r:List (Str×Aw))=>match x with
   | (name,kind)=>if (kind == NameKind.free)=true then do let a <-cellOf env name;pure (ForInStep.yield ((name,a)::r)) else pure (ForInStep.yield r):Sem (List (Str × Aw)))=pure (xn env.cells scope.names []) from e]
 rfl
def JR{cells:List (Str×Aw)}:∀{names:List (Str×NameKind)} {acc:List (Str×Aw)},(∀y∈names,y.2=.free->∃c,cells.lookup y.1=some c)->(∀x c,acc.lookup x=some c->cells.lookup x=some c)->
  ∀x c,(xn cells names acc).lookup x=some c->cells.lookup x=some c
 |[],acc,_,ha,x,c,h=>ha x c h
 |(n,k)::r,acc,G,ha,x,c,h=>by
  refine JR (names:=r) (fun y D=>G y (Qal _ D)) (fun y d q=>?_) x c h
  by_cases I:(k == NameKind.free)=true
  ·rw[Qa3 I]at q;obtain⟨e,J⟩:=G (n,k) Qai (by simpa using I);have C:cells.lookup n=some e:=J;rw[C,Qc4]at q;cases D:y == n with
   |true=>
    rw[D]at q;have F:y=n:=by simpa using D
    rw[F,C];exact q
   |false=>
    rw[D]at q;exact ha y d q
  ·grind
theorem vd{cells:List (Str×Aw)}:∀{names:List (Str×NameKind)} {acc:List (Str×Aw)} {x:Str},(∃c,acc.lookup x=some c)->∃c,(xn cells names acc).lookup x=some c
 |[],acc,x,h=>h
 |(n,k)::r,acc,x,h=>by
  rw[xn];refine vd (names:=r) ?_
  by_cases q:(k == NameKind.free)=true
  ·grind
  ·rw[Qay q];exact h
theorem Jr{cells:List (Str×Aw)}:∀{names:List (Str×NameKind)} {acc:List (Str×Aw)} {x:Str},names.lookup x=some .free->∃c,(xn cells names acc).lookup x=some c
 |[],acc,x,h=>by cases h
 |(n,k)::r,acc,x,h=>by
  rw[xn];rw[Qc4]at h;cases hx:x == n with
  |true=>
   rw[hx]at h;have q:k=.free:=Option.some.inj h;refine vd (names:=r) ?_;rw[q,Qa3 (show(NameKind.free == NameKind.free)=true by rfl),Qc4,hx];exact⟨_,rfl⟩
  |false=>
   rw[hx]at h;exact Jr (names:=r) h
def qg{scope:Scope}{env:Env}(F:env.scope.kind=.function):∀{names:List (Str×NameKind)} {x:Str},names.lookup x=some .free->env.kindOf x=some .cell->
  (names.map fun(n,k)=>if(k == NameKind.free&&env.scope.kind == .function&&env.kindOf n == some .cell)=true then(n,NameKind.cell)else(n,k)).lookup x=some .cell
 |[],_,h,_=>by cases h
 |(n,k)::r,x,h,D=>by
  rw[Qc4]at h;show List.lookup x ((if(k == NameKind.free&&env.scope.kind == .function&&env.kindOf n == some .cell)=true then(n,NameKind.cell)else(n,k))::_)=_;cases hx:x == n with
  |true=>
   rw[hx]at h;have q:k=.free:=Option.some.inj h;have C:x=n:=by simpa using hx
   rw[q,F,<-C,D];simp[Qc4]
  |false=>
   rw[hx]at h;have G:=qg (scope:=scope) F (names:=r) h D
   by_cases I:(k == NameKind.free&&env.scope.kind == .function&&env.kindOf n == some .cell)=true
   ·grind
   ·grind
def JS{env:Env}:∀{names:List (Str×NameKind)} {x:Str},names.lookup x=some .free->env.kindOf x=some .free->
  (names.map fun(n,k)=>if(k == NameKind.free&&env.scope.kind == .function&&env.kindOf n == some .cell)=true then(n,NameKind.cell)else(n,k)).lookup x=some .free
 |[],_,h,_=>by cases h
 |(n,k)::r,x,h,D=>by
  rw[Qc4]at h;show List.lookup x ((if(k == NameKind.free&&env.scope.kind == .function&&env.kindOf n == some .cell)=true then(n,NameKind.cell)else(n,k))::_)=_;cases hx:x == n with
  |true=>
   rw[hx]at h;have q:k=.free:=Option.some.inj h;have C:¬(k == NameKind.free&&env.scope.kind == .function&&env.kindOf n == some .cell)=true:=by
    grind
   rw[Qay C,Qc4,hx,q]
  |false=>
   rw[hx]at h;have F:=JS (names:=r) h D
   by_cases C:(k == NameKind.free&&env.scope.kind == .function&&env.kindOf n == some .cell)=true
   ·grind
   ·grind
theorem qh{env:Env}:∀{names:List (Str×NameKind)} {x:Str},(∀y∈names,y.2≠.cell)->
    ((names.map fun(n,k)=>if(k == NameKind.free&&env.scope.kind == .function&&env.kindOf n == some .cell)=true then(n,NameKind.cell)else(n,k)).lookup x=some .cell \/
     (names.map fun(n,k)=>if(k == NameKind.free&&env.scope.kind == .function&&env.kindOf n == some .cell)=true then(n,NameKind.cell)else(n,k)).lookup x=some .free)->names.lookup x=some .free
  |[],_,_,h=>by rcases h with h|h<;>cases h
  |(n,k)::r,x,q,h=>by
    have D:=qh (env:=env) (names:=r) (x:=x) fun y C=>q y (Qal _ C)
    by_cases F:(k == NameKind.free&&env.scope.kind == .function&&env.kindOf n == some .cell)=true
    · grind
    · grind
def cxC(X:Cx)(N':Ai)(scope:Scope)(C:Aw)(s₂:As)(H₂:Hp)(ex:List Aw):Cx:=
 {X with N:=N',s₀:=s₂,H₀:=H₂,env:=compEnvC scope (xn X.env.cells scope.names []) C X.env,outer:=X.stack,stack:=X.stack,ex:=ex,fn:=fun _=>false,pn:=[],xe:=fun _ _=>False}
def xo(is:Aj)(σ:St)(v:Option V):St:=v::is.map fun i=>(σ[i]?).getD none
def Zoa(xs:Ai)(is:Aj)(σ:St):St:=xs.map (fun _=>none)++is.map fun i=>(σ[i]?).getD none
structure ZP(S scope:Scope)(N:Ai)(x:Str)(ys:Ai)(is:Aj):Prop where
 kind:scope.kind=.function:=by rfl
 cell:∀y∈scope.names,y.2≠.cell:=by decide +kernel
 names:∀y∈scope.names,y.2=.local->scope.names.lookup y.1=some .local:=by decide +kernel
 own:scope.names.lookup x=some .local:=by rfl
 free:∀y∈scope.names,y.2=.free->S.names.lookup y.1=some .cell\/S.names.lookup y.1=some .free:=by decide +kernel
 vis:∀p∈ys.zip is,N[p.2]?=some p.1/\scope.names.lookup p.1=some .free:=by decide +kernel
 len:ys.length=is.length:=by rfl
 nd:(x::ys).Nodup:=by decide +kernel
def PF(X:Cx)(ifs:An)(t:TT):Prop:=
 ∀(pins:Ac) (s:As) (σ:St) (H:Hp) (Q:Bool->Hp->Prop),Inv X pins σ H s->t σ H Q->
  A4 X (forIn ifs true fun c r=>if r=true then do let ok <-isTrue c X.env (eval c X.env);pure (ForInStep.yield ok)else pure (ForInStep.yield r)) (TP X pins σ Q) X.xe s
structure QF(X:Cx)(ifs:An)(t:TT):Prop where
 out:PF X ifs t
def Zkx:TT:=fun _ H Q=>Q true H
def Xh{X:Cx}:QF X [] Zkx:=⟨fun _ _ _ H _ I h=>wpAny_tests_nil ⟨H,I,h⟩⟩
def ve{X:Cx}{c:Ax}(h:QT X c G):QF X [c] G:=⟨fun pins s σ H Q I hw=>wpAny_tests_one (h.out pins s σ H Q I hw)⟩
section
variable {X:Cx}{S scope:Scope}{N:Ai}{x:Str}{ys:Ai}{is:Aj}{pins:Ac}{σ:St}{H₂:Hp}{s₂:As}{fp:List Aw}
theorem ZP.cellOf'(K:ZP S scope N x ys is)(q:X.env.scope=S)(ok:X.Ok):∀y∈scope.names,y.2=.free->∃c,X.env.cells.lookup y.1=some c:=fun y C h=>
 ok.has y.1 (by show X.env.scope.names.lookup y.1=_\/X.env.scope.names.lookup y.1=_;rw[q];exact K.free y C h)
theorem ZP.cl(K:ZP S scope N x ys is)(q:X.env.scope=S)(ok:X.Ok):∀y c,(xn X.env.cells scope.names []).lookup y=some c->X.env.cells.lookup y=some c:=
 JR (K.cellOf' q ok) fun _ _ z=>by cases z
theorem g9{names:List (Str×NameKind)}{y:Str}{k:NameKind}(h:names.lookup y=some k):(y,k)∈names:=by
 induction names with
 |nil=>cases h
 |cons p r q=>
  obtain⟨n,C⟩:=p;rw[Qc4]at h;cases hx:y == n with
  |true=>
   rw[hx]at h;have e1:y=n:=by simpa using hx
   have e2:C=k:=Option.some.inj h;rw[e1,e2];exact Qai
  |false=>
   rw[hx]at h;exact Qal _ (q h)
theorem Zco{ns:Ai}(K:ZP S scope N x ys is)(F:X.env.scope=S)(I:Inv X pins σ H₂ s₂)(G:s₂.heap.objs.size<=a)(q:∀b∈fp,kF X pins H₂ b)(D:∀b∈fp,b<s₂.heap.objs.size):(cxC X ns scope a s₂ H₂ fp).Ok where
 mod:=I.ok.mod
 kind:=K.kind
 glob:=I.ok.glob
 blt:=I.ok.blt
 above:=G
 inj:=fun y z c h1 h2=>I.ok.inj y z c (K.cl F I.ok y c h1) (K.cl F I.ok z c h2)
 has:=fun y J=>Jr (qh (env:=X.env) K.cell J)
 cab:=fun y c h=>by cases h
 hd:=I.ok.hd
 frames:=I.ok.frames
 stk:=.inl rfl
 exf:=fun b C=>⟨fun e=>absurd (Qbk (D b C) (Qbc G (Qhl (Eq.symm e)))) (Qce _),fun y c h=>(q b C).2.2.2.2.1 y c (K.cl F I.ok y c h)⟩
 bs:=I.bs
 bsz:=Qbc I.ok.bsz I.sz
 noex:=fun b o e C=>by
  rcases(q b C).2.2.2.1 with z|z
  ·exact I.ok.noex b o e z
  ·exact absurd (Qbk (Qaq e) (Qbc I.ok.bsz z)) (Qce _)
 exfs:=fun b C z=>by
  rcases Qao.mp (I.stkSub b z)with e|e
  ·exact(q b C).2.1 e
  ·exact(q b C).2.2.1 e
 funs:=I.stack
 frf:=I.stkFree
def Zky(xs:Ai)(K:ZP S scope N x ys is)(G:X.env.scope=S)(hN:X.N=N)(hk:S.kind=.function)(I:Inv X pins σ H₂ s₂){q:Heap}{tk:Nat}{O:Obj}(hC:s₂.heap.objs.size<=a)(hD:s₂.heap.objs.size<=f)(Z:f≠a)
  (hfp:∀b∈fp,kF X pins H₂ b) (hlt:∀b∈fp,b<s₂.heap.objs.size) (C:∀b o,s₂.heap.get? b=some o->q.get? b=some o) (hn:q.Ns a fun _=>none) (L:q.get? f=some O) (hod:∀v,O.data≠.cell v):
  Inv (cxC X (xs++ys) scope a s₂ H₂ fp) [(f,O)] (Zoa xs is σ) H₂ {s₂ with heap:=q,toks:=tk}:=by
 have ok:=Zco (ns:=xs++ys) K G I hC hfp hlt;refine⟨ok,rfl,I.bare,Un.kept C,⟨_,hn,fun i y v h1 h2 h3=>?_⟩,fun y c h=>?_,I.hok.fresh hC,fun y c h=>I.freeC y c (K.cl G I.ok y c h),fun p hp=>?_,I.hok.kept C,?_⟩
 ·unfold Zoa at h2
  by_cases hi:i<xs.length
  ·grind
  ·have D:(xs++ys)[i]?=some y:=h1;rw[Qa0 (Qhh hi)]at D;rw[Qa0 (by rw[Qab];exact Qhh hi),Qab]at h2;generalize i-xs.length=i at D h2;have F:(is.map fun i=>(σ[i]?).getD none)[i]?=some (some v):=h2;rw[Qah]at F;cases hj:is[i]? with
   |none=>rw[hj]at F;cases F
   |some j=>
    have hσ:σ[j]?=some (some v):=by
     grind
    have hz:(y,j)∈ys.zip is:=by
     obtain⟨a1,e1⟩:=Qag.mp D;obtain⟨a2,e2⟩:=Qag.mp hj;rw[<-e1,<-e2,<-Qhi (h:=by rw[Qes];lia)];exact Qbs _
    obtain⟨v1,Y⟩:=K.vis _ hz;have J:X.env.kindOf y=some .cell\/X.env.kindOf y=some .free:=by show X.env.scope.names.lookup y=_\/X.env.scope.names.lookup y=_;rw[G];exact K.free _ (g9 Y) rfl
    obtain⟨m,hm,hl⟩:=I.loc;obtain⟨u,r,l⟩:=hl j y v (by rw[hN];exact v1) hσ (.inr J);refine⟨u,r,.inr ?_⟩;rcases l with⟨l1,_⟩|⟨_,c,l2,l3⟩
    ·rcases J with J|J<;>rw[J]at l1<;>cases l1
    ·obtain⟨c',M⟩:=Jr (cells:=X.env.cells) (acc:=[]) Y;have e:c'=c:=by have:=K.cl G I.ok y c' M;rw[l2]at this;exact(Option.some.inj this).symm
     subst e;refine⟨J.imp (qg (scope:=scope) (by rw[G];exact hk) Y) (JS Y),c',M,?_⟩;obtain⟨o,ho,hd⟩:=l3;exact⟨o,C _ _ ho,hd⟩
 ·obtain⟨v,o,ho,hd⟩:=I.cell y c (K.cl G I.ok y c h);exact⟨v,o,C _ _ ho,hd⟩
 ·have e:p=(f,O):=by simpa[cxC]using hp
  subst e;refine⟨L,I.hok.fresh hD,Z,fun z=>?_,hod⟩;obtain⟨_,o,ho,_⟩:=ok.funs.mem z;exact absurd (Qbk (Qaq ho) hD) (Qce _)
 ·show(Zoa xs is σ).length=(xs++ys).length;unfold Zoa;rw[Qak,Qab,Qab,Qak,K.len]
def Zkz(I:Inv X pins σ H₂ s₂){N':Ai}{J:St}{H':Hp}{pl:Ac}(G:Inv (cxC X N' scope a s₂ H₂ fp) pl J H' s)(O:s₂.heap.objs.size<=f)(F:H' f=none)
  (C:∀b∈fp,kF X pins H₂ b) {zs:A2}   (hz:zs.length<=sizeLine) (r:Vals zs M) (Z:s.heap.get? f=some {cls:=.type "list",data:=.seq M.toArray n}):
  Inv X pins σ (upd H' f (.lst zs)) s:=by
 have b:Un (frs X.stack) fp H₂ H' s₂.heap s.heap:=G.base;have ne:∀c o,s₂.heap.get? c=some o->c≠f:=fun c o e z=>absurd (Qbk (Qaq e) (Qbc O (Qhl (Eq.symm z)))) (Qce _);have L:H₂ f=none:=I.hok.fresh O;refine I.call' G.os ⟨b.keep,b.slot,fun c o e n Y=>?_,b.there,fun c xs e=>?_,fun c o u e=>?_,fun c ps e=>?_⟩ (fun c u e=>?_) G.bare fun c D=>⟨(C c D).2.2.2.1,(C c D).2.1,(C c D).2.2.2.2.1,(C c D).2.2.2.2.2⟩
 ·rw[Zk (ne c o e)];exact b.free c o e n Y
 ·rw[Zk (Zm e L)];exact b.tups c xs e
 ·rw[Zk (Zm e L)];exact b.frzs c o u e
 ·rw[Zk (Zm e L)];exact b.tbls c ps e
 ·by_cases D:c=f
  ·subst D;rw[Za]at e;cases e;exact⟨hz,M,n,r,Z⟩
  ·rw[Zk D]at e;exact(G.hok c u e).stay (fun _ _ _ q=>q) (fun d q=>by rw[Zk (Zm q F)];exact q) fun d xs q=>by rw[Zk (Zm q F)];exact q
end
section
variable {prog:Aq}{w:Au}{A:Ar}{R:Result->Shared->Prop}{s:As}
def Zcp{q iter:Ax}{ifs:An}{scope:Scope}{it acc:Av}{env:Env}(I:Nat->Shared->Prop)
  (turn:∀n s,I n s->A3 prog w A (pyNext it) (fun r C=>match r with
   |none=>R (.ok .next) C
   |some v=>A3 prog w A (letOwnedTupleGo q it v) (fun _ F=>A3 prog w A (assign q env v) (fun _ s₂=>
     A3 prog w A (forIn ifs true fun c r=>if r=true then do let ok <-isTrue c env (eval c env);pure (ForInStep.yield ok)else pure (ForInStep.yield r)) (fun ok D=>
      if ok=true then A3 prog w A (eval o env) (fun x J=>
       A3 prog w A (call (.builtin "list.append") [acc,x]) (fun _ L=>∃m,m<n/\I m L) (fun _ _=>False) J) (fun _ _=>False) D
      else∃m,m<n/\I m D) (fun _ _=>False) s₂) (fun _ _=>False) F) (fun _ _=>False) C) (fun _ _=>False) s)
  (n:Nat) (h:I n s):
  codeAny (model prog w) A (.compLoop (.ListComp o [⟨q,iter,ifs,0⟩] scope p) 0 it acc env) R s:=by
 refine codeAny_loop rfl I (fun n s hI=>?_) n h;refine wpAny_noted ?_;have Y:∀{E:Ab} (e:Av) (s':As),False->E e s':=fun _ _ z=>z.elim;refine Qaa (wpAny_standAt (Qaa (Qdi (turn n s hI) (fun r C M=>?_) Y)));cases r with
 |none=>exact Qae M
 |some v=>
  refine Qaa (Qdi M (fun _ F O=>?_) Y);refine Qaa (Qdi O (fun _ s₂ Z=>Qaa (Qdi Z (fun ok D G=>?_) Y)) Y);cases ok with
  |false=>exact Qae ⟨rfl,G⟩
  |true=>
   exact Qaa (Qaa (Qdi G (fun x J h₄=>Qaa (Qdi h₄ (fun _ L h₅=>Qae (Qae ⟨rfl,h₅⟩)) Y)) Y))
end
def vf(g:TG)(Sg:St->Prop)(tc:TT)(te:TE)(Q:VK)(J:It)(H1:Hp):Prop:=∃W:Nat->Nat->List V->Hp->Prop,(∃m,W 0 m [] H1)/\∀i m zs H,W i m zs H->
 (J.stop i H/\zs.length<=sizeLine/\∀p,H p=none->Q (.ref p) (upd H p (.lst zs))) \/
 (J.go i H/\zs.length<=sizeLine/\∀x H',J.yld i H x H'->∃q,Sg q/\(∀C,Sg C->g x C H' fun F H2=>F=q/\H2=H')/\tc q H' fun b H2=>if b=true then te q H2 fun y G=>∃D,D<m/\W (i+1) D (zs++[y]) G else∃D,D<m/\W (i+1) D zs H2)
structure Zcq(X:Cx)(S scope:Scope)(N:Ai)(x:Str)(ys:Ai)(is:Aj)(xs:Ai)(tg:Ax)(g:TG)(Sg:St->St->Prop):Prop where
 sc:ZP S scope N x ys is
 hX:X.env.scope=S
 hN:X.N=N
 hk:S.kind=.function
 hc:X.calm=true
 pg:∀C s₂ H₂ fp,PG (cxC X (xs++ys) scope C s₂ H₂ fp) tg g
 s0:∀σ,Sg σ (Zoa xs is σ)
def GA(is:Aj)(tc:TT)(te:TE)(σ:St)(Q:VK)(J:It)(H1:Hp):Prop:=∃W:Nat->Nat->List V->Hp->Prop,(∃m,W 0 m [] H1)/\∀i m zs H,W i m zs H->
 (J.stop i H/\zs.length<=sizeLine/\∀p,H p=none->Q (.ref p) (upd H p (.lst zs))) \/
 (J.go i H/\zs.length<=sizeLine/\∀x H',J.yld i H x H'->tc (xo is σ (some x)) H' fun b H2=>if b=true then te (xo is σ (some x)) H2 fun y C=>∃q,q<m/\W (i+1) q (zs++[y]) C else∃q,q<m/\W (i+1) q zs H2)
def Zob(wi:TI)(is:Aj)(tc:TT)(te:TE):TE:=fun σ H Q=>wi σ H (GA is tc te σ Q)
section
variable {X:Cx}{S scope:Scope}{N:Ai}{x:Str}{ys:Ai}{is:Aj}{pins:Ac}{σ:St}{H₂:Hp}{s₂:As}{fp:List Aw}{elt iter:Ax}{px pos:Pos}{ifs:An}{tc:TT}{te:TE}{xs:Ai}{tg:Ax}{g:TG}{Sg:St->St->Prop}{wi:TI}{CW:St->VK->It->Hp->Prop}
def ji{J:It}{it:Aw}{tn:Nat->Heap->Prop}{Q:VK}{RR:Av->Addr->Result->Shared->Prop}{E:Ab}(L:Zcq X S scope N x ys is xs tg g Sg)
  (hf:∀C s₂ H₂ ex,QF (cxC X (xs++ys) scope C s₂ H₂ ex) ifs tc) (he:∀C s₂ H₂ ex,QE (cxC X (xs++ys) scope C s₂ H₂ ex) elt te)
  (I:Inv X pins σ H₂ s₂) (T:Turn X.prog X.w X.K tg J fp it tn) (st:tn 0 s₂.heap) (hfp:∀b∈fp,kF X pins H₂ b)
  (hw:vf g (Sg σ) tc te Q J H₂)
  (fin:∀D C s' H' m',Inv X pins σ H' s'->kF X pins H' C->s'.heap.Ns C m'->Q (.ref D) H'->RR (.ref D) C (.ok .next) s'):
  A4 X (newList []) (fun acc O=>A4 X (newFunctionEnv scope X.env.globals (xn X.env.cells scope.names []) [] X.env.qual none .none (some X.env)) (fun cenv s₄=>
   codeAny (model X.prog X.w) X.A (.compStart (.ListComp elt [⟨tg,iter,ifs,0⟩] scope pos) 0 (.ref it) acc {cenv with scope:=relabel scope X.env}) (RR acc cenv.locals) s₄) E O) E s₂:=by
 obtain⟨W,⟨m0,w0⟩,turn⟩:=hw;have K:=L.sc;refine Qbd (wpAny_newFunctionEnv K.cell (by intro y hy;simp at hy) (fun Y Z M=>?_) K.kind);generalize hH2:s₂.heap.push {cls:=.type "list",dict:=none,data:=.seq ([]:Ag).toArray}=H2 at Z M ⊢;have hCs:H2.objs.size=s₂.heap.objs.size+1:=by rw[<-hH2,Qb2]
 have hDC:s₂.heap.objs.size≠H2.objs.size:=by rw[hCs];exact Qbf (Qek _)
 have hC:s₂.heap.objs.size<=H2.objs.size:=by rw[hCs];exact Qet _
 have hlt:∀b∈fp,b<s₂.heap.objs.size:=fun b G=>by obtain⟨o,e,_⟩:=T.obj 0 _ st b G;exact Qaq e
 have old:∀b o,s₂.heap.get? b=some o->Y.get? b=some o:=fun b o e=>M.extBut b o (by rw[hCs];exact Qbf (Qdw (Qaq e))) (Qad _ (hH2 ▸ Qad _ e));have hacc:Y.get? s₂.heap.objs.size=some {cls:=.type "list",data:=.seq ([]:Ag).toArray 0}:=M.extBut _ _ hDC (Qad _ (hH2 ▸ Qam _ rfl));have st₁:tn 0 Y:=T.keep _ _ _ st fun b _ o e=>old b o e;have fpC:∀{H':Hp} {pl:Ac},(∀p∈pl,∀b∈fp,p.1≠b)->(∀b∈fp,H' b=none)->∀b∈fp,kF (cxC X (xs++ys) scope H2.objs.size s₂ H₂ fp) pl H' b:=fun{H' pl} hpl hn b G=>by
  have ok:=Zco (ns:=xs++ys) K L.hX I hC hfp hlt;exact⟨hn b G,(ok.exf b G).1,ok.exfs b G,.inl G,(ok.exf b G).2,fun p hp=>hpl p hp b G⟩
 have Dfp:∀(o:Obj),∀p∈[(s₂.heap.objs.size,o)],∀b∈fp,p.1≠b:=fun o p hp b G e=>by
  grind
 have loop:∀O:As,O={s₂ with heap:=Y,toks:=s₂.toks+([]:List (Str×Av)).length}->
   codeAny (model X.prog X.w) X.A (.compLoop (.ListComp elt [⟨tg,iter,ifs,0⟩] scope pos) 0 (.ref it) (.ref s₂.heap.objs.size) (compEnvC scope (xn X.env.cells scope.names []) H2.objs.size X.env))
    (RR (.ref s₂.heap.objs.size) H2.objs.size) O:=by
  rintro O rfl;have I0:=Zky xs K L.hX L.hN L.hk I (tk:=s₂.toks+([]:List (Str×Av)).length) hC (Qaj _) hDC hfp hlt old Z hacc (fun v z=>by cases z);refine Zcp (fun n s'=>∃(i:Nat) (σ1:St) (zs:A2) (F:Ag) (k:Nat) (H':Hp),Inv (cxC X (xs++ys) scope H2.objs.size s₂ H₂ fp) [(s₂.heap.objs.size,{cls:=.type "list",data:=.seq F.toArray k})] σ1 H' s'/\Sg σ σ1 /\
   Vals zs F/\tn i s'.heap/\(∀b∈fp,H' b=none)/\W i n zs H') ?_ m0 ⟨0,_,[],[],0,H₂,I0,L.s0 σ,.nil,st₁,fun b G=>(hfp b G).1,w0⟩
  rintro n s3 ⟨i,σ1,zs,F,k,H3,I3,sg3,rv,st3,fr3,w3⟩;rcases turn i n zs H3 w3 with⟨stop,hz,q⟩|⟨go,hz,step⟩
  ·refine thn (T.done (cxC X (xs++ys) scope H2.objs.size s₂ H₂ fp) rfl rfl rfl L.hc i _ s3 _ H3 _ I3 (fpC (Dfp _) fr3) st3 stop) fun r s4 ⟨hr,I4⟩=>?_
   subst hr;have hD4:=I4.pin _ (Qbl _ (Qaw.mpr rfl));have I5:=Zkz I I4 (Qaj _) hD4.2.1 hfp hz rv hD4.1;obtain⟨m',hm',_⟩:=I4.loc;refine fin _ _ s4 _ m' I5 ?_ hm' (q _ hD4.2.1);refine I.fpOk hC ?_;rw[Zk (Qd3 hDC)];exact I4.free
  ·refine thn (T.item (cxC X (xs++ys) scope H2.objs.size s₂ H₂ fp) rfl rfl rfl L.hc i _ s3 _ H3 _ I3 (fpC (Dfp _) fr3) st3 go) fun r s4 ⟨u,hr,h4⟩=>?_
   subst hr;refine thn h4 fun _ s5 ⟨xv,H5,I5,r5,y5,st5,fr5⟩=>?_;have I5':=I5.pinned (fpC (Dfp _) fr5) (T.obj _ _ st5);obtain⟨σx,sgx,gx,stp⟩:=step xv H5 y5;refine thn (L.pg _ _ _ _ _ s5 _ H5 xv u (fun σ2 H2=>σ2=σx/\H2=H5) I5' r5 (gx _ sg3)) fun _ s6 ⟨σ6,H6,I6,e6,e6'⟩=>?_;subst e6;subst e6';have back:∀{s7:As} {H7:Hp},Inv (cxC X (xs++ys) scope H2.objs.size s₂ H₂ fp) ([(s₂.heap.objs.size,{cls:=.type "list",data:=.seq F.toArray k})]++yR fp s5.heap) (σ6) H7 s7->
     tn (i+1) s7.heap/\(∀b∈fp,H7 b=none)/\s7.heap.get? s₂.heap.objs.size=some {cls:=.type "list",data:=.seq F.toArray k}/\H7 s₂.heap.objs.size=none:=fun{s7 H7} I7=>by
    refine⟨T.keep _ _ _ st5 fun b G o e=>(I7.pin (b,o) (Qbl _ (Qbl _ (Jn G e)))).1,fun b G=>?_,?_,?_⟩
    ·obtain⟨o,e,d⟩:=T.obj _ _ st5 b G;exact(I7.pin (b,o) (Qbl _ (Qbl _ (Jn G e)))).2.1
    ·exact(I7.pin (s₂.heap.objs.size,{cls:=.type "list",data:=.seq F.toArray k}) (Qbl _ (Qd4 _ (Qaw.mpr rfl)))).1
    ·exact(I7.pin (s₂.heap.objs.size,{cls:=.type "list",data:=.seq F.toArray k}) (Qbl _ (Qd4 _ (Qaw.mpr rfl)))).2.1
   refine thn ((hf _ _ _ _).out _ s6 _ H6 _ I6 stp) fun b s7 ⟨H7,I7,q7⟩=>?_;cases b with
   |false=>
    have q7':∃m',m'<n/\W (i+1) m' zs H7:=by simpa using q7
    obtain⟨m',hm',w7⟩:=q7';obtain⟨b1,b2,b3,b4⟩:=back I7;exact⟨m',hm',i+1,_,zs,F,k,H7,I7.unpinned,sgx,rv,b1,b2,w7⟩
   |true=>
    have q7':=q7;refine thn ((he _ _ _ _).out _ s7 _ H7 _ I7 q7') fun yv s8 ⟨y,H8,I8,r8,m',hm',w8⟩=>?_;obtain⟨b1,b2,b3,b4⟩:=back I8;refine append_at b3 (fun h9 sb9 e9=>?_) (by rw[Qas,<-rv.length];exact hz);have ok:=Zco (ns:=xs++ys) K L.hX I hC hfp hlt;have I8':Inv (cxC X (xs++ys) scope H2.objs.size s₂ H₂ fp) [] (σ6) H8 s8:=I8.pins_of fun p hp=>by cases hp
    have I9:Inv (cxC X (xs++ys) scope H2.objs.size s₂ H₂ fp) [] (σ6) H8 {s8 with heap:=h9}:=I8'.turned (t':=s8.toks) (it:=s₂.heap.objs.size) (fun b o G e=>(sb9.2 b G).trans e) b4 hDC (.inr (Qaj _))
     (fun y c h z=>by
      obtain⟨v,o,ho,_⟩:=I.cell y c (K.cl L.hX I.ok y c h);have:=Qaq ho;rw[z]at this;exact Qce _ this) (fun p hp=>by cases hp)
    refine⟨m',hm',i+1,_,zs++[y],F++[yv],k+1,H8,?_,sgx,rv.append (.cons r8 .nil),T.keep _ _ _ b1 fun b G o e=>(sb9.2 b fun z=>absurd (hlt b G) (by rw[z];exact Qce _)).trans e,b2,w8⟩;refine I9.pins_of fun p hp=>?_;have e1:p=(s₂.heap.objs.size,{cls:=.type "list",data:=.seq (F++[yv]).toArray (k+1)}):=by simpa using hp
    subst e1;refine⟨by rw[e9,List.push_toArray],b4,hDC,fun z=>?_,fun v z=>by cases z⟩;obtain⟨_,o,ho,_⟩:=ok.funs.mem z;exact absurd (Qaq ho) (Qce _)
 exact codeAny_compStart_list (loop _ rfl) (T.self _ 0 _ _ _ st₁ (loop _ rfl))
end
section
variable {X:Cx}{S scope:Scope}{N:Ai}{x:Str}{ys:Ai}{is:Aj}{elt iter:Ax}{px pos:Pos}{ifs:An}{wi:TI}{tc:TT}{te:TE}{xs:Ai}{tg:Ax}{g:TG}{Sg:St->St->Prop}{CW:St->VK->It->Hp->Prop}
def gB(L:Zcq X S scope N x ys is xs tg g Sg)(cv:∀σ Q J H,CW σ Q J H->vf g (Sg σ) tc te Q J H)(hi:QI X tg iter wi)(hf:∀C s₂ H₂ ex,QF (cxC X (xs++ys) scope C s₂ H₂ ex) ifs tc)(he:∀C s₂ H₂ ex,QE (cxC X (xs++ys) scope C s₂ H₂ ex) elt te)
  (hs:∀v,foldedSetIterable iter X.env v=pure v:=by intro _;rfl):
  QE X (.ListComp elt [⟨tg,iter,ifs,0⟩] scope pos) (fun σ H Q=>wi σ H (CW σ Q)):=by
 refine⟨fun pins s σ H Q I h=>?_⟩;refine wpAny_comprehension_free (use:=none) rfl hs (Jq (L.sc.cellOf' L.hX I.ok)) L.sc.kind L.sc.names (thn (hi.out pins s σ H _ I h) fun v s1 h1=>thn h1 fun Y s2 h2=>?_);obtain⟨it,fp,tn,J,H2,rfl,I2,T,F,f2,w2⟩:=h2;refine ji (RR:=fun acc C=>compPost (model X.prog X.w) X.A X.xe none (EP X pins σ Q) acc C) L hf he I2 T F f2 (cv _ _ _ _ w2) ?_;intro D C s' H' Z O fC M q;obtain⟨f0,f1,f3,f4,f5,f6⟩:=fC;exact⟨Z,M,fun h' G=>⟨.ref D,H',O.turned (t':=s'.toks) (fun b o hb e=>(G.2 b hb).trans e) f0 f1 f4 f5 f6,rfl,q⟩⟩
def Zgc{y:Str}{spos:Pos}(Z:X.N.Nodup)(hy:X.N[i]?=some y)(hl:X.env.scope.names.lookup y=some .local)(L:Zcq X S scope N x ys is xs tg g Sg)(cv:∀σ Q J H,CW σ Q J H->vf g (Sg σ) tc te Q J H)(hi:QI X tg iter wi)
  (hf:∀C s₂ H₂ ex,QF (cxC X (xs++ys) scope C s₂ H₂ ex) ifs tc) (he:∀C s₂ H₂ ex,QE (cxC X (xs++ys) scope C s₂ H₂ ex) elt te)
  (M:swapsWith (.ListComp elt [⟨tg,iter,ifs,0⟩] scope pos) (some (.Name y q)) spos.line X.env=pure true:=by rfl)
  (hs:∀v,foldedSetIterable iter X.env v=pure v:=by intro _;rfl):
  QS X (.Assign [.Name y q] (.ListComp elt [⟨tg,iter,ifs,0⟩] scope pos) spos) (Zkb (fun σ H Q=>wi σ H (CW σ Q)) (WL i)):=by
 refine⟨fun pins s σ H D I h=>?_⟩;rw[exec_Assign_Name_used _ _ _ _ M];refine Qaa (wpAny_standAt (Qaa ?_));refine Qaa (thn (wpAny_comprehension_free (use:=some (assign (.Name y q) X.env)) (Q:=fun _ s'=>SP X pins D .next s') rfl hs (Jq (L.sc.cellOf' L.hX I.ok)) L.sc.kind L.sc.names
  (thn (hi.out pins s σ H _ I h) fun v s1 h1=>thn h1 fun itv s2 h2=>?_)) fun _ s' hq=>Qae (Qae hq))
 obtain⟨it,fp,tn,J,H2,rfl,I2,T,O,f2,w2⟩:=h2;refine ji (RR:=fun acc C=>compPost (model X.prog X.w) X.A X.xe (some (assign (.Name y q) X.env)) (fun _ s'=>SP X pins D .next s') acc C) (Q:=fun v H=>D.nx (σ.set i (some v)) H) L hf he I2 T O f2 (cv _ _ _ _ w2) ?_;intro Dl C s' H' m' I' fC hm' G;obtain⟨f0,f1,f3,f4,f5,f6⟩:=fC;obtain⟨Y,es,ep,hoC,hdC,hrC⟩:=hm';have Ip:Inv X (pins++[(C,Y)]) σ H' s':=I'.pins_of fun p hp=>(Qbo.mp hp).elim (fun z=>I'.pin p (Qbl _ z)) fun z=>by
  grind
 refine wpAny_assign_Name (Jm Ip Z hy (.inl hl) (v:=.ref Dl) rfl (fun s'' F=>?_) (.inr hl));have hC2:=(F.pin (C,Y) (Qbl _ (Qbl _ (Qaw.mpr rfl)))).1;refine⟨m',⟨Y,es,ep,hC2,hdC,hrC⟩,fun h' hs'=>⟨_,H',F.unpinned.turned (t':=s''.toks) (fun b o hb e=>(hs'.2 b hb).trans e) f0 f1 f4 f5 f6,G⟩⟩
theorem Ziz(K:ZP S scope N x ys is)(C:X.env.scope=S)(G:X.N=N)(D:S.kind=.function)(F:X.calm=true):Zcq X S scope N x ys is [x] (.Name x px) (WL 0) (fun σ q=>∃v,q=xo is σ v):=
 ⟨K,C,G,D,F,fun _ _ _ _=>jM K.nd rfl (.inl (Qdu K.own)) (.inr (Qdu K.own)),fun _=>⟨none,rfl⟩⟩
theorem Zoc:∀σ Q J H,GA is tc te σ Q J H->vf (WL 0) (fun q=>∃v,q=xo is σ v) tc te Q J H:=fun σ Q J H ⟨W,C,t⟩=>
 ⟨W,C,fun i m zs H w=>(t i m zs H w).imp_right fun z=>⟨z.1,z.2.1,fun x H' y=>⟨xo is σ (some x),⟨_,rfl⟩,fun q ⟨v,e⟩=>e ▸ ⟨rfl,rfl⟩,z.2.2 x H' y⟩⟩⟩
def Y3(K:ZP S scope N x ys is)(hi:QI X (.Name x px) iter wi)(D:∀C s₂ H₂ ex,QF (cxC X (x::ys) scope C s₂ H₂ ex) ifs tc)(I:∀C s₂ H₂ ex,QE (cxC X (x::ys) scope C s₂ H₂ ex) elt te)
  (q:X.calm=true:=by rfl) (F:X.env.scope=S:=by rfl) (J:X.N=N:=by rfl) (G:S.kind=.function:=by rfl) (hs:∀v,foldedSetIterable iter X.env v=pure v:=by intro _;rfl):
  QE X (.ListComp elt [⟨.Name x px,iter,ifs,0⟩] scope pos) (Zob wi is tc te):=
 gB (Ziz K F J G q) Zoc hi D I hs
def jS{y:Str}(F:X.N.Nodup)(J:X.N[i]?=some y)(G:X.env.scope.names.lookup y=some .local)(K:ZP S scope N x ys is)(hi:QI X (.Name x px) iter wi)
  (L:∀C s₂ H₂ ex,QF (cxC X (x::ys) scope C s₂ H₂ ex) ifs tc) (Y:∀C s₂ H₂ ex,QE (cxC X (x::ys) scope C s₂ H₂ ex) elt te)
  (D:swapsWith (.ListComp elt [⟨.Name x px,iter,ifs,0⟩] scope pos) (some (.Name y p)) q.line X.env=pure true:=by rfl)
  (I:X.calm=true:=by rfl) (M:X.env.scope=S:=by rfl) (Z:X.N=N:=by rfl) (O:S.kind=.function:=by rfl) (hs:∀v,foldedSetIterable iter X.env v=pure v:=by intro _;rfl):
  QS X (.Assign [.Name y p] (.ListComp elt [⟨.Name x px,iter,ifs,0⟩] scope pos) q) (Zkb (Zob wi is tc te) (WL i)):=
 Zgc F J G (Ziz K M Z O I) Zoc hi L Y D hs
end
def kM{J:It}{is:Aj}{Q:VK}(n:Nat)(C:Nat->List V->Hp->Prop)(L:C 0 [] H)(I:∀i zs H,C i zs H->zs.length<=sizeLine)
  (hs:∀i zs H (R:A2->Hp->Prop),(∀zs H,C (i+1) zs H->R zs H)->i<n->C i zs H->J.go i H/\∀x H',J.yld i H x H'->G (xo is c (some x)) H' fun b H2=>if b=true then u (xo is c (some x)) H2 fun y M=>R (zs++[y]) M else R zs H2)
  (O:∀zs H,C n zs H->J.stop n H/\∀p,H p=none->Q (.ref p) (upd H p (.lst zs))):GA is G u c Q J H:=by
 refine⟨fun i m zs H=>m=n-i/\i<=n/\C i zs H,⟨n,by simp,Qbt _,L⟩,?_⟩;rintro i m zs H ⟨rfl,hi,p⟩
 by_cases D:i<n
 ·have z:=hs i zs H (fun zs H=>∃F,F<n-i/\F=n-(i+1)/\i+1<=n/\C (i+1) zs H) (fun zs H q=>⟨n-(i+1),by lia,rfl,D,q⟩) D p;exact .inr ⟨z.1,I i zs H p,z.2⟩
 ·grind
theorem uU{lo:Int}{is:Aj}{Q:VK}(q:Nat->List V->Hp->Prop)(F:q 0 [] H)(C:∀i zs H,q i zs H->zs.length<=sizeLine)
  (hs:∀i zs H (R:A2->Hp->Prop),(∀zs H,q (i+1) zs H->R zs H)->i<n->q i zs H->G (xo is c (some (.int (lo+i)))) H fun b H2=>if b=true then u (xo is c (some (.int (lo+i)))) H2 fun y I=>R (zs++[y]) I else R zs H2)
  (D:∀zs H,q n zs H->∀p,H p=none->Q (.ref p) (upd H p (.lst zs))):
  GA is G u c Q (Itr lo n) H:=
 kM n q F C (fun i zs H R k hi p=>⟨hi,fun x H' ⟨e,y⟩=>by subst e y;exact hs i zs _ R k hi p⟩) fun zs H p=>⟨Qaj _,D zs H p⟩
theorem X7{xs:A2}{is:Aj}{Q:VK}(q:Nat->List V->Hp->Prop)(I:q 0 [] H)(D:∀i zs H,q i zs H->zs.length<=sizeLine)(C:∀i zs H,q i zs H->SqT K H a xs)
  (hs:∀i x zs H (R:A2->Hp->Prop),(∀zs H,q (i+1) zs H->R zs H)->xs[i]?=some x->q i zs H->G (xo is c (some x)) H fun b H2=>if b=true then u (xo is c (some x)) H2 fun y J=>R (zs++[y]) J else R zs H2)
  (F:∀zs H,q xs.length zs H->∀p,H p=none->Q (.ref p) (upd H p (.lst zs))):
  GA is G u c Q (Itt K a) H:=
 kM xs.length q I D (fun i zs H R k hi p=>⟨⟨xs,xs[i],C i zs H p,Qac hi⟩,fun x H' ⟨e,y⟩=>e ▸ hs i x zs H R k (y xs (C i zs H p)) p⟩) fun zs H p=>⟨⟨xs,C _ zs H p,Qaj _⟩,F zs H p⟩
end L2
namespace HT
section
variable {prog:Aq}{w:Au}{A:Ar}{E:Ab}{s:As}
def adjust_rev(n:Nat):Builtin.Slice.sliceAdjust none none (-1) (n:Int)=((n:Int)-1,-1):=rfl
def uV(n:Nat):Builtin.Slice.slicePlaces ((n:Int)-1) (-1) (-1)=n:=by
 unfold Builtin.Slice.slicePlaces;have h1:¬((-1:Int)>0):=by lia
 have e:(- -1:Int)=1:=by decide
 split<;>lia
theorem gC{α β:Type}{f g:α->Option β}:∀{l:List α},(∀x∈l,f x=g x)->l.filterMap f=l.filterMap g
 |[],_=>rfl
 |x::r,h=>by
  rw[Qef,Qef,h x Qai,gC fun y q=>h y (Qal _ q)]
def Zgd(xs:Ah):((List.range xs.size).filterMap fun(m:Nat)=>xs[((xs.size:Int)-1+(m:Int) * -1).toNat]?).toArray=xs.toList.reverse.toArray:=by
 congr 1;have e:((List.range xs.size).filterMap fun(m:Nat)=>xs[((xs.size:Int)-1+(m:Int) * -1).toNat]?)=((List.range xs.size).map fun k=>xs.size-1-k).filterMap (xs[·]?):=by
  rw[List.filterMap_map];refine gC fun m q=>?_;have e:((xs.size:Int)-1+(m:Int) * -1).toNat=xs.size-1-m:=by lia
  rw[e];rfl
 rw[e,PySem.W.krv_range,List.filterMap_reverse,PySem.W.krv_all]
def qx{t:Tok}{Q:Int×Int×Nat->Shared->Prop}(hs:s.heap.IsSliceOf a .none .none (.int (-1) t))(h:Q ((n:Int)-1,-1,n) s):
  A3 prog w A (Builtin.Slice.sliceApplied (.ref a) (pure (n:Int))) Q E s:=by
 obtain⟨os,C,D,q⟩:=id hs;refine Qaa (Qaa (Qbw C q (x:=.none) rfl (Qaa (Qbw C q (x:=.none) rfl (Qaa (Qbw C q (x:=.int (-1) t) rfl (Qae ?_)))))));refine Qaa (slicePart_int ?_);refine Qaa (Qgy (Qaa (Qgy (Qaa (Qae ?_)))));show wpAny _ _ (match Builtin.Slice.sliceAdjust none none (-1) (n:Int)with|(lo,hi)=>pure (lo,(-1:Int),Builtin.Slice.slicePlaces lo hi (-1))) _ _ s;show wpAny _ _ (pure ((n:Int)-1,(-1:Int),Builtin.Slice.slicePlaces ((n:Int)-1) (-1) (-1))) _ _ s;rw[uV];exact Qae h
def getItem_tuple_rev{u:Tok}{items:Ah}(C:IsTup s.heap a items)(hs:s.heap.IsSliceOf f .none .none (.int (-1) u))
  (h:Q (.ref s.heap.objs.size) {s with heap:=s.heap.push {cls:=.type "tuple",data:=.seq items.toList.reverse.toArray}})
  (hsz:items.size<=sizeLine):A3 prog w A (getItem (.ref a) (.ref f)) Q E s:=by
 have q:sizeOk (.seq items.toList.reverse.toArray):=by
  show items.toList.reverse.toArray.size<=sizeLine;rw[Qas,Qc7,Qbj];exact hsz
 obtain⟨os,I,D,J⟩:=id hs;have G:s.TypeIs (.ref f) "slice" :=⟨os,I,D⟩;unfold getItem;try with_reducible refine Qb8 ?_
 first|refine Qaa (Qae ?_)|skip
 refine Qaa (Qg2 C.typeIs (by decide) ?_);refine Qaa (wpAny_callSpecial?_slot (name:=Str.ofString "__getitem__") C.typeIs Qbi
  (Qbe Qbi C.typeIs Qge ?_ (Qgm _ _)))
 show wpAny _ _ (Builtin.Tuple.tupleItemsOf (.ref a) >>= _) _ _ s;refine Qaa (tupleItemsOf_ C ?_);refine Qaa (Qf0 G ?_);refine Qaa (qx hs ?_);have F:¬((((items.size:Int)-1) == 0&&(-1:Int) == 1&&items.size == items.size)=true):=by
  grind
 show wpAny _ _ (if((((items.size:Int)-1) == 0&&(-1:Int) == 1&&items.size == items.size))=true then _ else _) _ _ s;rw[Qay F,Zgd]
 first
  |exact Qaa (m:=Builtin.Tuple.tupleExact _) (Qbd (Qae ⟨_,rfl,Qae h⟩) q)
  |exact Qaa (m:=Builtin.Tuple.tupleExact _) (Qbd (Qaa (Qae (Qae ⟨_,rfl,Qae h⟩))) q)
  |exact Qaa (Qaa (m:=Builtin.Tuple.tupleExact _) (Qbd (Qae (Qae ⟨_,rfl,Qae h⟩)) q))
  |exact Qaa (Qaa (m:=Builtin.Tuple.tupleExact _) (Qbd (Qae ⟨_,rfl,Qae h⟩) q))
end
end HT
namespace L2
section
variable {X:Cx}{e st:Ax}{te ts:TE}{pos p2:Pos}
def RvR(X:Cx)(r:V->Hp->VK->Prop):Prop:=
 ∀(pins:Ac) (s:As) (σ:St) (H:Hp) (x:V) (v:Av) (t:Tok) (q:Aw) (Q:VK),Inv X pins σ H s->RelV x v->s.heap.IsSliceOf q .none .none (.int (-1) t)->r x H Q->
  ∃T id,typeLookup (.type T) "__getitem__" = pure (some (.builtin id))/\s.TypeIs v T/\A4 X (getItem v (.ref q)) (EP X pins σ Q) X.xe s
def tRv(r:V->Hp->VK->Prop)(te ts:TE):TE:=fun σ H Q=>te σ H fun x H1=>ts σ H1 fun y H2=>y=.int (-1)/\r x H2 Q
def qe_rev{r:V->Hp->VK->Prop}(hr:RvR X r)(he:QE X e te)(D:QE X st ts):QE X (.Subscript e (.Slice none none (some st) p2) pos) (tRv r te ts):=by
 refine⟨fun pins s σ H Q I h=>?_⟩;refine Subscript_ (thn (he.out pins s σ H _ I h) fun v Y ⟨x,H1,O,r1,G⟩=>?_);refine wpAny_Slice ?_;refine Qae ?_;refine Qae ?_;refine thn (D.out pins Y σ H1 _ O G) fun vs C ⟨y,F,I3,M,e3,J⟩=>?_;subst e3;obtain⟨t,rfl⟩:=M;have I4:Inv X pins σ F {C with heap:=C.heap.push {cls:=.type "slice",data:=.fields #[.none,.none,.int (-1) t]}}:=I3.kept (t':=C.toks) fun b ob q=>Qad _ q;obtain⟨T,id,L,Z,hg⟩:=hr pins {C with heap:=C.heap.push {cls:=.type "slice",data:=.fields #[.none,.none,.int (-1) t]}} σ F x v t C.heap.objs.size Q I4 r1 (Heap.IsSliceOf.new ..) J;exact tail_any (ops:=[v,.ref C.heap.objs.size]) Z L hg (by with_unfolding_all rfl)
def rRvT(K:Af):V->Hp->VK->Prop:=fun x H Q=>∃a xs,x=.ref a/\SqT K H a xs/\∀p,H p=none->Q (.ref p) (upd H p (.tup xs.reverse))
def rv_tup:RvR X (rRvT X.K):=by
 intro pins s σ H x v t M Q I L hs h;obtain⟨a,xs,rfl,J,q⟩:=h;cases L;obtain⟨D,r,F,G⟩:=I.tuple J;have C:D.toArray.size=xs.length:=by exact r.length.symm
 refine⟨"tuple",_,Qbi.lookup,F.typeIs,?_⟩;refine HT.getItem_tuple_rev F hs ?_ (by rw[C];exact G);refine⟨.ref s.heap.objs.size,_,I.laid (t':=s.toks) (o:=.tup xs.reverse) (fun b ob q=>Qad _ q) (Qaj _) ?_,rfl,q _ (I.hok.fresh (Qaj _))⟩;exact⟨by rw[Qc7];exact G,_,r.reverse,kI.new _ _⟩
def all_true(n:Nat):((List.range n).all fun _=>true)=true:=by simp
end
def Wo{k:Nat}{A:Ar}(q:WK k A):A.units<cLine:=q.units0
end L2
namespace RvT
def owner_rev:Manifest.owners.lookup (String.ofList ['d','e','s','r','e','v','e','r'].reverse)=some Manifest.sig_reversed:=by kernel_rfl
theorem slot_next:Slot "reversed" "__next__" "reversed.__next__" :=
 .of (owner:= "reversed") (n:= "__next__") (by kernel_rfl) (by decide +kernel) (by decide +kernel) (by decide +kernel)
  (by first|exact .inl (by decide +kernel)|exact .inr (by decide +kernel)) (by kernel_rfl)
def entry_next:entryFor table "reversed.__next__" = some Builtin.«reversed.__next__»:=entryFor_of_tree (by kernel_rfl)
def args_next (a:Av):argsOk "reversed.__next__" ⟨[a],[]⟩:=by
 kernel_rfl
theorem vg:Slot "reversed" "__iter__" "reversed.__iter__" :=
 .of (owner:= "reversed") (n:= "__iter__") (by kernel_rfl) (by decide +kernel) (by decide +kernel) (by decide +kernel)
  (by first|exact .inl (by decide +kernel)|exact .inr (by decide +kernel)) (by kernel_rfl)
def Zcr (a:Av):argsOk "reversed.__iter__" ⟨[a],[]⟩:=by
 kernel_rfl
theorem uW:entryFor table "reversed.__iter__" = some Builtin.«dict_keyiterator.__iter__» :=
 entryFor_alias (id':= "dict_keyiterator.__iter__") (by kernel_rfl) (by first|rfl|decide +kernel|(unfold String.splitOn;simp +decide [String.splitOnAux])) (by decide +kernel) (by kernel_rfl)
theorem Zcs:Slot "reversed" "__init__" "object.__init__" :=
 .of (owner:= "object") (n:= "__init__") (by kernel_rfl) (by decide +kernel) (by decide +kernel) (by decide +kernel)
  (by first|exact .inl (by decide +kernel)|exact .inr (by decide +kernel)) (by kernel_rfl)
theorem called:TypeCalled "reversed" "reversed.__new__" "object.__init__" :=
 ⟨by decide +kernel,F.create_reversed,⟨_,_,F.mro_reversed⟩,F.made_reversed,F.plain_reversed_new,F.sub_reversed_self,Zcs⟩
def kN:typeLookup (.type "tuple") "__reversed__" = pure none:=by kernel_rfl
def sub_tuple_dict:isSubtype (.type "tuple") (.type "dict")=pure false:=by kernel_rfl
def revObj (t:Aw) (i:Int):Obj:={cls:=.type "reversed",data:=.fields #[.ref t,rawInt i]}
def IsRev (h:Heap) (a t:Aw) (i:Int):Prop:=∃o,h.get? a=some o/\o.cls=.type "reversed" /\ o.data=.fields #[.ref t,rawInt i]
def IsRev.typeIs   {i:Int} (x:IsRev s.heap a f i):s.TypeIs (.ref a) "reversed" :=let⟨o,ho,hc,_⟩:=x;⟨o,ho,hc⟩
def IsRev.at{h':Heap}{i:Int}(x:IsRev h a f i)(e:∀o,h.get? a=some o->h'.get? a=some o):IsRev h' a f i:=let⟨o,ho,r⟩:=x;⟨o,e _ ho,r⟩
section
variable {prog:Aq}{w:Au}{A:Ar}{E:Ab}{s:As}
theorem WO(t:Aw)(items:Ah)(C:items.size<2^63):
  Meets (Builtin.«reversed.__new__» ⟨[.type "reversed",.ref t],[]⟩) (fun _ R s=>IsTup s.heap t items/\∀tk,R (.ok (.ret (.ref s.heap.objs.size))) {s with heap:=s.heap.push (revObj t ((items.size:Int)-1)),toks:=tk}):=
 .of_wp fun prog w A R s h=>by
  obtain⟨q,h⟩:=h;refine Qaa (Qcj (newClass_reversed _) ?_);refine Qaa (Qcj (a:=()) (by first|rfl|kernel_rfl) ?_);refine Qaa (Qcj (a:=()) (by first|rfl|kernel_rfl) ?_);refine Qaa (Qd8 q.typeIs kN ?_);refine Qaa ?_;refine Qaa (Qdh (T:= "tuple") (b:=false) q.typeIs sub_tuple_dict ?_);refine Qaa (Qd8 q.typeIs Qbi.lookup ?_);refine Qae ?_;refine Qaa (len_tuple q (by lia) ?_);refine Qaa (Qcj (a:=some (items.size:Int)) rfl ?_);refine Qaa (m:=newObj (.type "reversed") (.fields #[.ref t,rawInt ((items.size:Int)-1)])) (Qbd ?_);exact Qae ⟨_,rfl,h _⟩
theorem call_rev{items:Ah}(D:IsTup s.heap a items)(C:items.size<2^63)(h:∀tk,Q (.ref s.heap.objs.size) {s with heap:=s.heap.push (revObj a ((items.size:Int)-1)),toks:=tk}):
  A3 prog w A (call (.type "reversed") [.ref a]) Q E s:=
 callType_new called (by decide) (F.typeCall_reversed_1 _) (F.newCall_reversed_1 _) (fun q=>F.args_object_init_2 q _) F.entry_reversed_new (WO a items C)
  ⟨D,fun tk=>⟨⟨_,Qam _ rfl,rfl⟩,h tk⟩⟩
def next_item{it:Aw}{items:Ah}{x:Av}{Q:Aa}(q:IsRev s.heap it f (i:Int))(F:IsTup s.heap f items)(hi:(i:Int)<2^63)(D:items[i]?=some x)(I:f≠it)
  (G:∀h' tk,IsRev h' it f ((i:Int)-1)->Heap.SameBut it s.heap h'->Q (some x) {s with heap:=h',toks:=tk}):A3 prog w A (pyNext (.ref it)) Q E s:=by
 obtain⟨o,ho,J,C⟩:=id q;refine Qaa (Qdk (wpAny_callSpecial?_slot (name:=Str.ofString "__next__") q.typeIs slot_next
  (Qbe slot_next q.typeIs entry_next ?_ (args_next _))))
 refine Qaa (Qcj (a:=(Value.ref it,[])) rfl ?_);refine Qaa (Qbw ho C (x:=.ref f) rfl ?_);refine Qaa (Qbw ho C (x:=rawInt (i:Int)) rfl ?_);show wpAny _ _ (if(i:Int)<0 then _ else _) _ _ s;refine Qaa (Qd8 F.typeIs Qbi.lookup ?_);refine Qaa (Qgf ?_);have hsz:=(Array.getElem?_eq_some_iff.mp D).1;refine Qaa (Qdk (getItem_tuple (s:={s with toks:=s.toks+1}) (j:=i) F (by lia) hi (by rw[Qhw (by lia) (by lia),Qbn]) D ?_));refine Qaa (Qbw (s:={s with toks:=s.toks+1}) ho C (x:=rawInt (i:Int)) rfl ?_);refine Qaa (Qdc (s:={s with toks:=s.toks+1}) ho C (by simp) ?_);refine Qae ⟨x,rfl,Qae (G _ _ ?_ (Qb5 ..))⟩;exact⟨_,Qbr _ ho (Qct (Qbv C _)),(Qe4 ..).trans J,by
  rw[Qbv C];simp⟩
def next_end{it:Aw}{Q:Aa}(hh:A.handled=none)(q:IsRev s.heap it f (-1))
  (G:∀h',(∀b o,b≠it->s.heap.get? b=some o->h'.get? b=some o)->Q none {s with heap:=h'}):A3 prog w A (pyNext (.ref it)) Q E s:=by
 obtain⟨o,ho,I,C⟩:=id q;refine Qaa (Qdk (wpAny_callSpecial?_slot (name:=Str.ofString "__next__") q.typeIs slot_next
  (Qbe slot_next q.typeIs entry_next ?_ (args_next _))))
 refine Qaa (Qcj (a:=(Value.ref it,[])) rfl ?_);refine Qaa (Qbw ho C (x:=.ref f) rfl ?_);refine Qaa (Qbw ho C (x:=rawInt (-1)) rfl ?_);show wpAny _ _ (if(-1:Int)<0 then _ else _) _ _ s;refine Qaa (Qdg ?_);refine Qaa ?_;refine Qaa (Qdc ho C (by simp) ?_);have D:=Qbr (Obj.mapFields (·.setIfInBounds 1 (rawInt (-1)))) ho (Qct (Qbv C _));refine Qdc D (Qbv C _) (by simp) ?_
 first
 |show wpAny _ _ (newExc (.type "StopIteration") [] >>= _) _ _ _
 |(refine Qaa ?_)
 refine Qaa ?_;refine Qaa (Qbd ?_ (by size_fits));refine Qaa (m:=firstArgMember _ _) (Qcj (a:=Value.none) (by first|rfl|(rfl)) ?_);refine Qbd ?_ (by size_fits);refine Qaa (Qhc ?_)
 first|rw[show A.in1.handled=none from hh]|rw[hh]
 refine Qaa (Qae (Qhx ?_));refine Qaa (Qdh (T:= "StopIteration") (b:=true) ⟨_,Qam _ rfl,rfl⟩ Qfy ?_);refine Qae (G _ fun b ob F e=>?_);exact Qad _ (Qad _ ((Qb1 _ _ (Qd3 F)).trans ((Qb1 _ _ (Qd3 F)).trans e)))
def iter_self{it:Aw}{i:Int}(q:IsRev s.heap it a i)(h:Q (.ref it) s):A3 prog w A (pyIter (.ref it)) Q E s:=by
 refine Qfw q.typeIs vg (Qbe vg q.typeIs uW ?_ (Zcr _));exact Qae ⟨_,rfl,"reversed",_,q.typeIs,slot_next.lookup,h⟩
end
end RvT
namespace L2
def Itv(K:Af)(a:Aw)(n:Nat):It:=
 ⟨fun i H=>∃xs x,SqT K H a xs/\xs.length=n/\xs.reverse[i]?=some x,fun i H x H'=>H'=H/\∀xs,SqT K H a xs->xs.reverse[i]?=some x,fun i _=>i=n⟩
def Zge{tg:Ax}(a it:Aw)(n:Nat)(Y:a≠it):Turn P w K tg (Itv K a n) [it] it (fun i h=>RvT.IsRev h it a ((n:Int)-1-(i:Int)))where
 mem:=by simp
 obj:=fun i h st b C=>by
  have e:b=it:=by simpa using C
  subst e;obtain⟨o,e,c,d⟩:=st;exact⟨o,e,fun v z=>by rw[d]at z;cases z⟩
 keep:=fun i h h' st k=>st.at fun o e=>k it (by simp) o e
 item:=by
  intro X G hw F hc i pins s σ H E I D st hg;subst G hw F;obtain⟨xs,x,hq,hn,hx⟩:=hg;obtain⟨O,rv,p,hz⟩:=I.tuple hq;have hi:i<xs.length:=by
   grind
  have hx':xs[xs.length-1-i]?=some x:=by grind
  obtain⟨u,hu,ru⟩:=rv.get hx';obtain⟨f0,M,f2,Z,J,f5⟩:=D it (by simp);have L:(n:Int)-1-(i:Int)=((xs.length-1-i:Nat):Int):=by lia
  have hl:=qe;rw[L]at st;refine RvT.next_item (items:=O.toArray) (x:=u) st p (by lia) (by simpa using hu) Y fun h' tk q sb=>?_;have I1:Inv X pins σ H {s with heap:=h',toks:=tk}:=I.turned (fun b o C e=>(sb.2 b C).trans e) f0 M Z J f5;have e1:((xs.length-1-i:Nat):Int)-1=(n:Int)-1-((i+1:Nat):Int):=by lia
  rw[e1]at q;obtain⟨o,e,c,d⟩:=id q;exact⟨u,rfl,uL (s:={s with heap:=h',toks:=tk}) e c d (by decide) ⟨x,H,I1,ru,⟨rfl,fun ys hy=>by rw[I.tuple_inj hy hq];exact hx⟩,q,fun b C=>(D b C).1⟩⟩
 done:=by
  intro X G hw F hc i pins s σ H E I D st hg;subst G hw F;obtain⟨f0,M,f2,Z,J,f5⟩:=D it (by simp);have hg':i=n:=hg;have L:(n:Int)-1-(i:Int)=-1:=by lia
  rw[L]at st;exact RvT.next_end (I.ok.hd hc) st fun h' eb=>⟨rfl,I.turned (t':=s.toks) (fun b o C e=>eb b o C e) f0 M Z J f5⟩
 self:=fun _ _ _ _ _ st h=>RvT.iter_self st h
inductive Zi0(K:Af)(R:It->Hp->Prop)(x:V)(H1:Hp):Prop
 |mk (a xs:_):(x=.ref a)->(SqT K H1 a xs)->(R (Itv K a xs.length) H1)->Zi0 K R x H1
def iRev(K:Af)(te:TE):TI:=fun σ H R=>te σ H fun x H1=>Zi0 K R x H1
def Zct {X:Cx} {tg:Ax}   (hg:Gl X "reversed") (hm:X.mg "reversed" = none) (he:QE X e I) (M:ZU e=true:=by rfl):QI X tg (.Call (.Name "reversed" p) [e] [] q) (iRev X.K I):=by
 refine⟨fun pins s σ H R C h=>?_⟩;have hs:starEach [e] X.env=[(false,eval e X.env)]:=by rw[Zu M];rfl
 refine Call_ (JL C hg hm kL (Qcs ?_ hs rfl));rw[hs];refine Qcy (thn (he.out pins s σ H _ C h) fun u F ⟨x,H1,L,ru,q1⟩=>?_);refine Qd6 ?_;obtain⟨a,xs,rfl,hq,G⟩:=q1;cases ru;obtain⟨D,Y,pt,hz⟩:=L.tuple hq;have hl:=qe;have J:=Y.length;refine RvT.call_rev pt (by rw[Qas];lia) fun tk=>?_;have Z:Inv X pins σ H1 {F with heap:=F.heap.push (RvT.revObj a ((D.toArray.size:Int)-1)),toks:=tk}:=L.kept fun b o e=>Qad _ e;have O:(xs.length:Int)-1-((0:Nat):Int)=(D.toArray.size:Int)-1:=by rw[Qas,<-J];lia
 have st:RvT.IsRev (F.heap.push (RvT.revObj a ((D.toArray.size:Int)-1))) F.heap.objs.size a ((xs.length:Int)-1-((0:Nat):Int)):=by
  rw[O];exact⟨_,Qam _ rfl,rfl,rfl⟩
 refine RvT.iter_self st ⟨F.heap.objs.size,[F.heap.objs.size],_,_,H1,rfl,Z,Zge a _ xs.length (Qbf pt.lt),st,fun b hb=>?_,G⟩;have e:b=F.heap.objs.size:=by simpa using hb
 subst e;exact L.fpOk (Qaj _) (L.hok.fresh (Qaj _)) |> fun f=>f
theorem Zcu{xs:A2}{g:TG}{tb:TS}(q:Nat->St->Hp->Prop)(G:q 0 c H)(D:∀i c H,i<=xs.length->q i c H->SqT K H a xs)
  (hs:∀i x c H,xs.reverse[i]?=some x->q i c H->g x c H fun C H2=>tb {O with nx:=q (i+1),ct:=q (i+1),bk:=O.nx} C H2) (F:∀c H,q xs.length c H->O.nx c H):
  Zke (Itv K a xs.length) g tb O c H:=
 yQ xs.length q G (fun i c H hi p=>⟨⟨xs,xs.reverse[i]'(by rw[Qc7];exact hi),D i c H (Qav hi) p,rfl,Qac _⟩,fun x H' ⟨e,y⟩=>e ▸ hs i x c H (y xs (D i c H (Qav hi) p)) p⟩) fun c H p=>⟨rfl,F c H p⟩
end L2
namespace HT
section
variable {prog:Aq}{w:Au}{A:Ar}{E:Ab}{s:As}
def getItem_tuple_whole{items:Ah}{vu:Av}{lo hi:Option Int}(C:IsTup s.heap a items)(hs:s.heap.IsSliceOf f v vu .none)(pl:IsPart v lo)(J:IsPart vu hi)
  (hw:sIx items.size 0 lo=0/\sIx items.size items.size hi=items.size) (h:Q (.ref a) s):A3 prog w A (getItem (.ref a) (.ref f)) Q E s:=by
 obtain⟨os,G,D,I⟩:=id hs;have F:s.TypeIs (.ref f) "slice" :=⟨os,G,D⟩;unfold getItem;try with_reducible refine Qb8 ?_
 first|refine Qaa (Qae ?_)|skip
 refine Qaa (Qg2 C.typeIs (by decide) ?_);refine Qaa (wpAny_callSpecial?_slot (name:=Str.ofString "__getitem__") C.typeIs Qbi
  (Qbe Qbi C.typeIs Qge ?_ (Qgm _ _)))
 show wpAny _ _ (Builtin.Tuple.tupleItemsOf (.ref a) >>= _) _ _ s;refine Qaa (tupleItemsOf_ C ?_);refine Qaa (Qf0 F ?_);refine Qaa (Wx hs pl J ?_);have q:(((sIx items.size 0 lo:Nat):Int) == 0&&(1:Int) == 1&&(sIx items.size items.size hi-sIx items.size 0 lo) == items.size)=true:=by
  rw[hw.1,hw.2];simp
 show wpAny _ _ (if(((sIx items.size 0 lo:Nat):Int) == 0&&(1:Int) == 1&&(sIx items.size items.size hi-sIx items.size 0 lo) == items.size)=true then _ else _) _ _ s;rw[Qa3 q];refine Qaa (m:=Builtin.Tuple.tupleIsExact (.ref a)) (Qaa (Qf0 C.typeIs (Qae ?_)))
 first
  |exact Qaa (Qdg (Qaa (Qae (Qae ⟨_,rfl,Qae h⟩))))
  |exact Qaa (Qdg (Qae ⟨_,rfl,Qae h⟩))
  |exact Qaa (Qdg (Qaa (Qae ⟨_,rfl,Qae h⟩)))
end
end HT
namespace L2
inductive Zi1(K:Af)(x:V)(lo:Option Int)(hi:Option Int)(H:Hp)(Q:VK):Prop
 |mk (a xs:_):(x=.ref a)->(SqT K H a xs)->((HT.sIx xs.length 0 lo=0/\HT.sIx xs.length xs.length hi=xs.length))->(Q (.ref a) H)->Zi1 K x lo hi H Q
def rSlW(K:Af):V->Option Int->Option Int->Hp->VK->Prop:=fun x lo hi H Q=>Zi1 K x lo hi H Q
def Zk0:SlR X (rSlW X.K):=by
 intro pins s σ H x v Y vu lo hi M Q I L hs pl J h;obtain⟨a,xs,rfl,G,hw,q⟩:=h;cases L;obtain⟨D,r,F,O⟩:=I.tuple G;have C:D.toArray.size=xs.length:=by exact r.length.symm
 refine⟨"tuple",_,Qbi.lookup,F.typeIs,?_⟩;exact HT.getItem_tuple_whole F hs pl J (by rw[C];exact hw) ⟨.ref a,H,I,rfl,q⟩
theorem uX{ys:Ai}:∀{q:Ag},Vals (ys.map V.str) q->StrsAre q ys:=by
 induction ys with
 |nil=>intro q r;cases r;exact .nil
 |cons n ns D=>
  intro q r;cases r with
  |cons C F=>
   obtain⟨t,e⟩:=C;subst e;exact .cons n t (D F)
theorem Xt{xs:A2}{is:Aj}{Q:VK}(q:Nat->List V->Hp->Prop)(I:q 0 [] H)(D:∀i zs H,q i zs H->zs.length<=sizeLine)(C:∀i zs H,q i zs H->SqL K H a xs)
  (hs:∀i x zs H (R:A2->Hp->Prop),(∀zs H,q (i+1) zs H->R zs H)->xs[i]?=some x->q i zs H->G (xo is c (some x)) H fun b H2=>if b=true then u (xo is c (some x)) H2 fun y J=>R (zs++[y]) J else R zs H2)
  (F:∀zs H,q xs.length zs H->∀p,H p=none->Q (.ref p) (upd H p (.lst zs))):
  GA is G u c Q (Itl K a) H:=
 kM xs.length q I D (fun i zs H R k hi p=>⟨⟨xs,xs[i],C i zs H p,Qac hi⟩,fun x H' ⟨e,y⟩=>e ▸ hs i x zs H R k (y xs (C i zs H p)) p⟩) fun zs H p=>⟨⟨xs,C _ zs H p,Qaj _⟩,F zs H p⟩
def Its(x:Str):It:=⟨fun i _=>i<x.cps.size,fun i H v H'=>H'=H/\∃c,x.cps[i]?=some c/\v=.str ⟨#[c]⟩,fun i _=>i=x.cps.size⟩
def Zgf    {tg:Ax} (it:Aw) (x:Str) (t:Tok) (T:String) (hT:T = "str_ascii_iterator" \/ T = "str_iterator"):Turn P w K tg (Its x) [it] it (fun i h=>h.IsStrIter it T x t i)where
 mem:=by simp
 obj:=fun i h st b q=>by
  have e:b=it:=by simpa using q
  subst e;obtain⟨o,e,c,d⟩:=st;exact⟨o,e,fun v z=>by rw[d]at z;cases z⟩
 keep:=fun i h h' st k=>let⟨o,ho,r⟩:=st;⟨o,k it (by simp) o ho,r⟩
 item:=by
  intro X hP hw hK L i pins s σ H E I J st Z;subst hP hw hK;obtain⟨f0,Y,f2,M,G,O⟩:=J it (by simp);rcases hT with rfl|rfl
  ·refine(Walks.strAscii (prog:=X.prog) (w:=X.w) (I.ok.hd L) it x t).item i s _ _ Z st fun v h' tk hv C F=>?_
   obtain⟨c,u,D,rfl⟩:=hv;have I1:Inv X pins σ H {s with heap:=h',toks:=tk}:=I.turned (fun b o q e=>F b o (by simpa using q) e) f0 Y M G O;obtain⟨o,e,cc,d⟩:=id C;exact⟨_,rfl,uL (s:={s with heap:=h',toks:=tk}) e cc d (by decide) ⟨.str ⟨#[c]⟩,H,I1,⟨_,rfl⟩,⟨rfl,c,D,rfl⟩,C,fun b q=>(J b q).1⟩⟩
  ·refine(Walks.strWide (prog:=X.prog) (w:=X.w) (I.ok.hd L) it x t).item i s _ _ Z st fun v h' tk hv C F=>?_
   obtain⟨c,u,D,rfl⟩:=hv;have I1:Inv X pins σ H {s with heap:=h',toks:=tk}:=I.turned (fun b o q e=>F b o (by simpa using q) e) f0 Y M G O;obtain⟨o,e,cc,d⟩:=id C;exact⟨_,rfl,uL (s:={s with heap:=h',toks:=tk}) e cc d (by decide) ⟨.str ⟨#[c]⟩,H,I1,⟨_,rfl⟩,⟨rfl,c,D,rfl⟩,C,fun b q=>(J b q).1⟩⟩
 done:=by
  intro X hP hw hK L i pins s σ H E I J st Z;subst hP hw hK;obtain⟨f0,Y,f2,M,G,O⟩:=J it (by simp);have hg':i=x.cps.size:=Z;subst hg';rcases hT with rfl|rfl
  ·exact(Walks.strAscii (prog:=X.prog) (w:=X.w) (I.ok.hd L) it x t).done s _ _ st fun h' tk F=>⟨rfl,I.turned (t':=tk) (fun b o q e=>F b o (by simpa using q) e) f0 Y M G O⟩
  ·exact(Walks.strWide (prog:=X.prog) (w:=X.w) (I.ok.hd L) it x t).done s _ _ st fun h' tk F=>⟨rfl,I.turned (t':=tk) (fun b o q e=>F b o (by simpa using q) e) f0 Y M G O⟩
 self:=fun A i s Q E st h=>by
  rcases hT with rfl|rfl
  ·exact wpAny_pyIter_striter_ascii st h
  ·exact wpAny_pyIter_striter_wide st h
inductive Zi2(R:It->Hp->Prop)(v:V)(H1:Hp):Prop
 |mk (x:_):(v=.str x)->(R (Its x) H1)->Zi2 R v H1
def iStr(te:TE):TI:=fun σ H R=>te σ H fun v H1=>Zi2 R v H1
def qi_str{X:Cx}{tg l:Ax}(J:QE X l u):QI X tg l (iStr u):=by
 refine⟨fun pins s σ H R I h=>?_⟩;refine thn (J.out pins s σ H _ I h) fun v C ⟨y,H1,D,O,G⟩=>?_;obtain⟨x,rfl,q⟩:=G;obtain⟨t,rfl⟩:=O;have F:∀(o:Obj) (T:String),(T = "str_ascii_iterator" \/ T = "str_iterator")->(C.heap.push o).IsStrIter C.heap.objs.size T x t 0->PIE X pins σ tg R (.ref C.heap.objs.size) {C with heap:=C.heap.push o}:=fun o T L st=>
  ⟨C.heap.objs.size,[C.heap.objs.size],_,_,H1,rfl,D.kept (t':=C.toks) fun b o e=>Qad _ e,Zgf _ x t T L,st,fun b M=>by
   have e:b=C.heap.objs.size:=by simpa using M
   subst e;exact D.fpOk (Qaj _) (D.hok.fresh (Qaj _)),q⟩
 cases ha:x.cps.all (· < 128)
 ·exact wpAny_pyIter_wide ha (F _ "str_iterator" (.inr rfl) ⟨_,Qam _ rfl,rfl,rfl⟩)
 ·exact wpAny_pyIter_ascii ha (F _ "str_ascii_iterator" (.inl rfl) ⟨_,Qam _ rfl,rfl,rfl⟩)
def Zcv (hc:X.calm=true):Y9 X (.builtin "all") (fun xs H Q=>∃(p:Aw) (bs:Am),xs=[.ref p]/\SqL X.K H p (bs.map V.bl)/\Q (.bl (bs.all id)) H):=by
 intro pins s σ H xs us Q I r h;obtain⟨p,bs,rfl,hq,q⟩:=h;obtain⟨u,rfl,rx⟩:=vals1 r;cases rx;obtain⟨C,Y,pl,hz⟩:=I.list hq;have M:=pl.isList;have J:p<s.heap.objs.size:=by obtain⟨_,e,_⟩:=M;exact Qaq e
 have D:=Y.length;rw[Qab]at D;refine call_all_walk (Qe3 M ?_);refine⟨s.heap.objs.size,[s.heap.objs.size,p],[s.heap.objs.size],C.toArray.size,_,_,fun i=>(bs[i]?).getD true,rfl,Walks.list (A:=X.A.in1) (I.ok.hd hc) _ p (Qbf J) C.toArray,
  ⟨⟨_,Qam _ rfl,rfl,rfl⟩,M.push _⟩,fun i v s' Q' E' Z O=>?_,fun h' tk hk=>?_⟩
 ·have hi:C[i]?=some v:=by simpa using Z
  have G:i<bs.length:=by grind
  obtain⟨w',e1,e2⟩:=Y.get (show(bs.map V.bl)[i]?=some (V.bl bs[i]) by rw[Qah,Qac G];rfl);rw[hi]at e1;cases e1;cases e2;simp only[Qac G,Option.getD_some]at O;exact Qdj O
 ·have e:((List.range C.toArray.size).all fun i=>(bs[i]?).getD true)=bs.all id:=by
   rw[Qas,<-D,Qdo,Qca,Qca];constructor
   ·intro z b G;obtain⟨i,hi,rfl⟩:=List.getElem_of_mem G;have:=z i (Qbu.mpr hi);simpa[Qac hi]using this
   ·intro z i hi;have F:=Qbu.mp hi;have:=z _ (Qbs F);simpa[Qac F]using this
  rw[e];refine⟨.bl (bs.all id),H,I.kept (t':=tk) (fun b o L=>hk b o (fun hm=>?_) (Qad _ L)),rfl,q⟩;rw[Qaw.mp hm]at L;exact absurd (Qaq L) (Qce _)
theorem WQ:∀{q:Ag} {ys:Ai},StrsAre q ys->Vals (ys.map V.str) q
 |_,_,.nil=>.nil
 |_,_,.cons y t h=>.cons ⟨t,rfl⟩ (WQ h)
def Zk1:bootBuiltins "dict" = some (.type "dict"):=by decide +kernel
def gD:bootBuiltins "max" = some (.builtin "max"):=by decide +kernel
def Zi3:bootBuiltins "min" = some (.builtin "min"):=by decide +kernel
def jT :PySem.W.kitOne K (.type "bool") (.type "bool")=some true:=by rfl
def take_snoc{xs:List d}{x:d}(h:xs[i]?=some x):xs.take (i+1)=xs.take i++[x]:=by
 rw[List.take_succ,h];rfl
def kO{xs:A2}{is:Aj}{Q:VK}(p:V->Bool)(f:V->V)(I:SqL K H a xs)(L:xs.length<=sizeLine)
  (D:∀x∈xs,∀R:Bool->Hp->Prop,R (p x) H->G (xo is c (some x)) H R)
  (F:∀x∈xs,p x=true->∀R:VK,R (f x) H->u (xo is c (some x)) H R)
  (J:∀l,H l=none->Q (.ref l) (upd H l (.lst ((xs.filter p).map f)))):GA is G u c Q (Itl K a) H:=by
 refine Xt (xs:=xs) (fun i zs H'=>zs=((xs.take i).filter p).map f/\H'=H) ⟨rfl,rfl⟩ ?_ ?_ ?_ ?_
 ·grind
 ·grind
 ·rintro i x zs H' R hR q ⟨rfl,rfl⟩;have C:=Qar q;have e:=take_snoc q;refine D x C _ ?_;cases hp:p x with
  |true=>
   refine(Qa3 rfl:(if true=true then _ else _)=_) ▸ F x C hp _ (hR _ _ ⟨?_,rfl⟩);rw[e,Qd2,Qaz,Qc5,Qa3 hp];rfl
  |false=>
   refine(Qay Qa7:(if false=true then _ else _)=_) ▸ hR _ _ ⟨?_,rfl⟩;rw[e,Qd2,Qaz,Qc5,Qay (by rw[hp];exact Qa7)];simp
 ·grind
def comp_map{xs:A2}{is:Aj}{Q:VK}(f:V->V)(q:SqL K H a xs)(F:xs.length<=sizeLine)
  (C:∀x∈xs,∀R:VK,R (f x) H->u (xo is c (some x)) H R)
  (G:∀l,H l=none->Q (.ref l) (upd H l (.lst (xs.map f)))):GA is Zkx u c Q (Itl K a) H:=by
 refine kO (fun _=>true) f q F (fun x _ R h=>h) (fun x D _=>C x D) fun l I=>?_;rw[List.filter_eq_self.mpr fun _ _=>rfl];exact G l I
def xp{xs:A2}{is:Aj}{Q:VK}(f:V->V)(D:SqT K H a xs)(G:xs.length<=sizeLine)
  (C:∀x∈xs,∀R:VK,R (f x) H->u (xo is c (some x)) H R)
  (F:∀l,H l=none->Q (.ref l) (upd H l (.lst (xs.map f)))):GA is Zkx u c Q (Itt K a) H:=by
 refine X7 (xs:=xs) (fun i zs H'=>zs=(xs.take i).map f/\H'=H) ⟨rfl,rfl⟩ ?_ ?_ ?_ ?_
 ·grind
 ·grind
 ·rintro i x zs H' R hR q ⟨rfl,rfl⟩;unfold Zkx;refine C x (Qar q) _ (hR _ _ ⟨?_,rfl⟩);rw[take_snoc q,Qaz];rfl
 ·grind
section
variable {κ:Type}[DecidableEq κ]
def Yi(kvs:List (κ×V))(k:κ):Option V:=(kvs.find? fun q=>decide (q.1=k)).map (·.2)
def putK(kvs:List (κ×V))(k:κ)(v:V):List (κ×V):=
 if(kvs.any fun q=>decide (q.1=k))=true then kvs.map (fun q=>if q.1=k then(q.1,v)else q)else kvs++[(k,v)]
def Yj{p:κ×V}{r:List (κ×V)}{k:κ}(e:p.1=k):Yi (p::r) k=some p.2:=by simp[Yi,Qdp,e]
def Ye{p:κ×V}{r:List (κ×V)}{k:κ}(e:¬p.1=k):Yi (p::r) k=Yi r k:=by simp[Yi,Qdp,e]
theorem X8(k:κ):∀kvs:List (κ×V),(kvs.any fun q=>decide (q.1=k))=(Yi kvs k).isSome
 |[]=>rfl
 |p::r=>by
  rw[Qf9]
  by_cases e:p.1=k
  ·simp only[Yj e,Qan e,Bool.true_or,Option.isSome_some]
  ·rw[Ye e,Qap e,Bool.false_or];exact X8 k r
theorem gE(k j:κ)(y:V):∀kvs:List (κ×V),Yi (kvs.map fun q=>if q.1=k then(q.1,y)else q) j=(Yi kvs j).map fun x=>if j=k then y else x
 |[]=>rfl
 |p::r=>by
  have C:=gE k j y r;rw[Qbx]
  by_cases h:p.1=k
  ·rw[Qa3 h]
   by_cases e:p.1=j
   ·rw[Yj (p:=(p.1,y)) e,Yj e,Qfm,Qa3 (e.symm.trans h)]
   ·rw[Ye (p:=(p.1,y)) e,Ye e,C]
  ·rw[Qay h]
   by_cases e:p.1=j
   ·rw[Yj (p:=p) e,Yj e,Qfm,Qay (fun z=>h (e.trans z))]
   ·rw[Ye (p:=p) e,Ye e,C]
theorem vh(k j:κ)(y:V):∀kvs:List (κ×V),Yi kvs k=none->Yi (kvs++[(k,y)]) j=if j=k then some y else Yi kvs j
 |[],_=>by
  by_cases e:k=j
  ·rw[Qa3 e.symm];exact Yj (p:=(k,y)) e
  ·rw[Qay (fun z=>e z.symm)];exact Ye (p:=(k,y)) e
 |p::r,q=>by
  rw[List.cons_append];have C:¬p.1=k:=fun z=>by rw[Yj z]at q;cases q
  rw[Ye C]at q;have D:=vh k j y r q
  by_cases e:p.1=j
  ·rw[Yj e,Yj e,Qay (fun z=>C (e.trans z))]
  ·rw[Ye e,Ye e,D]
def qL(kvs:List (κ×V))(k j:κ)(y:V):Yi (putK kvs k y) j=if j=k then some y else Yi kvs j:=by
 unfold putK
 by_cases a:(kvs.any fun D=>decide (D.1=k))=true
 ·rw[Qa3 a,gE];rw[X8]at a
  by_cases e:j=k
  ·obtain⟨x,C⟩:=Option.isSome_iff_exists.mp a;rw[Qa3 e,e,C,Qfm,Qa3 rfl]
  ·rw[Qay e];cases Yi kvs j with
   |none=>rfl
   |some x=>rw[Qfm,Qay e]
 ·rw[Qay a];refine vh k j y kvs ?_;rw[X8]at a;cases q:Yi kvs k with
  |none=>rfl
  |some x=>rw[q]at a;exact(a rfl).elim
def Wq(kvs:List (κ×V))(k:κ)(v:V):(putK kvs k v).length<=kvs.length+1:=by
 unfold putK;split
 ·rw[Qab];lia
 ·grind
def uK.isSome_eq{o:Option V}{u:Option Av}(r:uK o u):o.isSome=u.isSome:=by
 cases o with
 |none=>cases u with
  |none=>rfl
  |some _=>exact(show False from r).elim
 |some _=>cases u with
  |none=>exact(show False from r).elim
  |some _=>rfl
def uK.getD{o:Option V}{u:Option Av}{d:V}{d':Av}(r:uK o u)(q:RelV d d'):RelV (o.getD d) (u.getD d'):=by
 cases o with
 |none=>cases u with
  |none=>exact q
  |some _=>exact(show False from r).elim
 |some _=>cases u with
  |none=>exact(show False from r).elim
  |some _=>exact r
theorem KV.val{kvs:List (κ×V)}{vs:List (κ×Av)}(r:KV kvs vs)(k:κ):uK (Yi kvs k) (valueAt vs k):=by
 induction r with
 |nil=>exact True.intro
 | @cons p q ps C h t F=>
  obtain⟨h1,h2⟩:=h
  by_cases e:p.1=k
  ·have D:q.1=k:=h1.symm.trans e;have b:valueAt (q::C) k=some q.2:=by simp[valueAt,Qdp,D]
   rw[Yj e,b];exact h2
  ·have D:¬q.1=k:=fun z=>e (h1.trans z)
   have b:valueAt (q::C) k=valueAt C k:=by simp[valueAt,Qdp,D]
   rw[Ye e,b];exact F
theorem KV.any{kvs:List (κ×V)}{vs:List (κ×Av)}(r:KV kvs vs)(k:κ):(kvs.any fun q=>decide (q.1=k))=vs.any fun q=>decide (q.1=k):=by
 induction r with
 |nil=>rfl
 |cons h t C=>rw[Qf9,Qf9,C,h.1]
theorem KV.repl{kvs:List (κ×V)}{vs:List (κ×Av)}(r:KV kvs vs)(k:κ){u:Av}(G:RelV y u):
  KV (kvs.map fun C=>if C.1=k then(C.1,y)else C) (vs.map fun C=>if C.1=k then(C.1,u)else C):=by
 induction r with
 |nil=>exact .nil
 | @cons p q ps F h t D=>
  refine .cons ?_ D;obtain⟨h1,h2⟩:=h
  by_cases e:p.1=k
  ·grind
  ·grind
def KV.put{kvs:List (κ×V)}{vs:List (κ×Av)}(r:KV kvs vs)(k:κ){u:Av}(q:RelV y u):KV (putK kvs k y) (stored vs k u):=by
 unfold putK stored;rw[r.any k]
 by_cases e:(vs.any fun C=>decide (C.1=k))=true
 ·rw[Qa3 e,Qa3 e];exact r.repl k q
 ·rw[Qay e,Qay e];exact Paired.snoc r ⟨rfl,q⟩
theorem KV.keys{kvs:List (κ×V)}{vs:List (κ×Av)}(r:KV kvs vs):kvs.map (·.1)=vs.map (·.1):=by
 induction r with
 |nil=>rfl
 |cons h t q=>rw[Qbx,Qbx,q,h.1]
def KV.length{kvs:List (κ×V)}{vs:List (κ×Av)}(r:KV kvs vs):kvs.length=vs.length:=Qfk r
end
def vi{k:Key}{u:Av}(r:RelV (kV k) u):(ZH P w).is k u=true:=by
 cases k with
 |inl i=>obtain⟨t,e⟩:=(show∃t,u=Value.int i t from r);subst e;exact kG P w i t
 |inr x=>obtain⟨t,e⟩:=(show∃t,u=Value.str x t from r);subst e;exact JC P w x t
theorem vj{P:Aq}{w:Au}:∀{ks:List Key} {q:Ag},Vals (ks.map kV) q->ItemsAre (ZH P w) ks q
 |[],_,r=>by cases r;exact .nil
 |k::ks,_,r=>by
  cases r with
  |cons h t=>exact .cons (vi h) (vj t)
abbrev KT(H:Hp):List (List Key×V)->List (List Key×Aw×Av)->Prop:=Paired fun p q=>p.1=q.1/\H q.2.1=some (.tup (p.1.map kV))/\RelV p.2 q.2.2
theorem KT.val{kvs:List (List Key×V)}{xs:List (List Key×Aw×Av)}(r:KT H kvs xs)(k:List Key):uK (Yi kvs k) ((atKey xs k).map (·.2)):=by
 induction r with
 |nil=>exact True.intro
 | @cons p q ps C h t F=>
  obtain⟨h1,_,h2⟩:=h
  by_cases e:p.1=k
  ·have D:q.1=k:=h1.symm.trans e;have b:atKey (q::C) k=some q.2:=by simp[atKey,Qdp,D]
   rw[Yj e,b];exact h2
  ·have D:¬q.1=k:=fun z=>e (h1.trans z)
   have b:atKey (q::C) k=atKey C k:=by simp[atKey,Qdp,D]
   rw[Ye e,b];exact F
theorem KT.repl{kvs:List (List Key×V)}{xs:List (List Key×Aw×Av)}(r:KT H kvs xs)(k:List Key){u:Av}(G:RelV y u):
  KT H (kvs.map fun C=>if C.1=k then(C.1,y)else C) (xs.map (putAt k u)):=by
 induction r with
 |nil=>exact .nil
 | @cons p q ps F h t D=>
  refine .cons ?_ D;obtain⟨h1,h2,I⟩:=h;unfold putAt
  by_cases e:p.1=k
  ·grind
  ·grind
def KT.put{kvs:List (List Key×V)}{xs:List (List Key×Aw×Av)}(r:KT H kvs xs)(k:List Key){b:Aw}{u:Av}(D:H b=some (.tup (k.map kV)))(C:RelV y u):
  KT H (putK kvs k y) (storedH xs k b u):=by
 have e:(kvs.any fun F=>decide (F.1=k))=(atKey xs k).isSome:=by
  rw[X8,(r.val k).isSome_eq,Qg3]
 unfold putK storedH;rw[e]
 by_cases q:(atKey xs k).isSome=true
 ·rw[Qa3 q,Qa3 q];exact r.repl k C
 ·rw[Qay q,Qay q];exact Paired.snoc r ⟨rfl,D,C⟩
theorem KT.keeps{H':Hp}{kvs:List (List Key×V)}{xs:List (List Key×Aw×Av)}(r:KT H kvs xs)(q:∀b ys,H b=some (.tup ys)->H' b=some (.tup ys)):KT H' kvs xs:=
 Paired.mapP r fun _ _ z=>⟨z.1,q _ _ z.2.1,z.2.2⟩
section
variable {P:Aq}{w:Au}{H:Hp}{h:Heap}{a:Aw}
def Zod{u:HO}(ok:HOk P w H h)(e:Rd H a u):Y1 P w H h a u:=e.ok ok
theorem vk{kvs:A0}(ok:HOk P w H h)(e:Rd H a (.dK kvs)):kvs.length<=sizeLine/\(a == sysModules)=false/\∃vs,KV kvs vs/\h.DictOf (ZH P w) a vs:=
 show Y1 P w H h a (.dK kvs)from Zod ok e
def Zk2{kvs:A0}(ok:HOk P w H h)(e:H a=some (.dK kvs)):kvs.length<=sizeLine/\(a == sysModules)=false/\∃vs,KV kvs vs/\h.DictOf (ZH P w) a vs:=vk ok (.inl e)
def vm{ks:List Key}(ok:HOk P w H h)(e:H a=some (.tup (ks.map kV))):(tupleKind (ZH P w)).is h ks a:=by
 obtain⟨_,q,r,o,h1,h2,⟨n,C⟩,_⟩:=(show Y1 P w H h a (.tup (ks.map kV))from ok a _ e);exact⟨o,q.toArray,n,h1,h2,C,by simpa using vj r⟩
theorem Zcw{kvs:List (List Key×V)}(ok:HOk P w H h)(e:Rd H a (.dT kvs)):kvs.length<=sizeLine/\(a == sysModules)=false /\
  ∃xs,KT H kvs xs/\h.DictOfH (tupleKind (ZH P w)) a xs:=by
 obtain⟨z,y,xs,r,o,es,ep,h1,h2,G,F,I⟩:=(show Y1 P w H h a (.dT kvs)from Zod ok e);refine⟨z,y,xs,r,o,es,ep,h1,h2,G,F,fun x C=>?_,I⟩;have all:∀{l:List (List Key×V)} {m:List (List Key×Aw×Av)},KT H l m->∀x∈m,(tupleKind (ZH P w)).is h x.1 x.2.1:=by
  intro l m q
  induction q with
  |nil=>intro x C;exact nomatch C
  | @cons p q ps L D t J=>
   intro x C;rcases Qao.mp C with e|C
   ·subst e;exact vm ok (by rw[<-D.1];exact D.2.1)
   ·exact J x C
 exact all r x C
theorem dt_of{kvs:List (List Key×V)}(ok:HOk P w H h)(e:H a=some (.dT kvs)):kvs.length<=sizeLine/\(a == sysModules)=false /\
  ∃xs,KT H kvs xs/\h.DictOfH (tupleKind (ZH P w)) a xs:=Zcw ok (.inl e)
end
def uY(H:Hp)(a:Aw)(y:V)(r:Option V):Prop:=
 (∃kvs k,Rd H a (.dK kvs)/\y=kV k/\r=Yi kvs k)\/∃kvs k b,Rd H a (.dT kvs)/\y=.ref b/\H b=some (.tup (k.map kV))/\r=Yi kvs k
def Zbe(H:Hp)(a:Aw)(y v:V)(H':Hp):Prop:=
 (∃kvs k,H a=some (.dK kvs)/\y=kV k/\kvs.length<sizeLine/\H'=upd H a (.dK (putK kvs k v))) \/
 ∃kvs k b,H a=some (.dT kvs)/\y=.ref b/\H b=some (.tup (k.map kV))/\kvs.length<sizeLine/\H'=upd H a (.dT (putK kvs k v))
def uY.t{b:Aw}{kvs:List (List Key×V)}{k:List Key}(e:H a=some (.dT kvs))(q:H b=some (.tup (k.map kV))):uY H a (.ref b) (Yi kvs k):=.inr ⟨kvs,k,b,.inl e,rfl,q,rfl⟩
def Zbe.k{H:Hp}{a:Aw}{kvs:A0}{k:Key}{v:V}(e:H a=some (.dK kvs))(q:kvs.length<sizeLine):Zbe H a (kV k) v (upd H a (.dK (putK kvs k v))):=.inl ⟨kvs,k,e,rfl,q,rfl⟩
theorem Zbe.t{b:Aw}{kvs:List (List Key×V)}{k:List Key}{v:V}(e:H a=some (.dT kvs))(C:H b=some (.tup (k.map kV)))(q:kvs.length<sizeLine):
  Zbe H a (.ref b) v (upd H a (.dT (putK kvs k v))):=.inr ⟨kvs,k,b,e,rfl,C,q,rfl⟩
section
variable {X:Cx}{pins:Ac}{σ:St}{H:Hp}{s:As}{a:Aw}{y v:V}{u r:Av}{o:Option V}{A:Ar}{E:Ab}
def Inv.big(I:Inv X pins σ H s):sysModules<s.heap.objs.size:=by
 have h:mainGlobals<s.heap.objs.size:=(I.mod.glob.keeps I.bk).lt;exact Nat.lt_trans (by decide) h
def Zcx(M:A.units+1<cLine)(I:Inv X pins σ H s)(g:uY H a y (some v))(J:RelV y u)(h:∀D s',Inv X pins σ H s'->RelV v D->Q D s'):
  A3 X.prog X.w A (getItem (.ref a) u) Q E s:=by
 rcases g with⟨kvs,k,e,F,l⟩|⟨kvs,k,b,e,F,Y,l⟩
 ·subst F;obtain⟨z,O,vs,C,dd⟩:=vk I.hok e;obtain⟨D,hw,q⟩:=uK.some_of (v:=v) (o:=valueAt vs k) (by rw[l];exact C.val k);exact wpAny_getItem_of (vi J) dd.mapOf hw (h D _ (I.tok _) q)
 ·subst F;cases(show u=Value.ref b from J);obtain⟨z,O,xs,C,dd⟩:=Zcw I.hok e;obtain⟨D,hw,q⟩:=uK.some_of (v:=v) (o:=(atKey xs k).map (·.2)) (by rw[l];exact C.val k);obtain⟨p,L,G⟩:=Qa4.mp hw;refine wpAny_getItem_heap (Qfn M) (vm I.hok Y) dd L ?_;rw[G];exact h D _ (I.tok _) q
def d_in(J:A.units+1<cLine)(I:Inv X pins σ H s)(g:uY H a y o)(G:RelV y u)(h:∀s',Inv X pins σ H s'->Q (.bool o.isSome) s'):
  A3 X.prog X.w A (compareOp .In u (.ref a)) Q E s:=by
 rcases g with⟨kvs,k,e,D,l⟩|⟨kvs,k,b,e,D,L,l⟩
 ·subst D;obtain⟨z,F,vs,C,dd⟩:=vk I.hok e;refine wpAny_in_of (vi G) F dd.mapOf ?_;rw[<-(C.val k).isSome_eq,<-l];exact h _ (I.tok _)
 ·subst D;cases(show u=Value.ref b from G);obtain⟨z,F,xs,C,dd⟩:=Zcw I.hok e;refine wpAny_in_heap (Qfn J) (vm I.hok L) F dd ?_;have q:=(C.val k).isSome_eq;rw[Qg3]at q;rw[<-q,<-l];exact h _ (I.tok _)
def Zk3(J:A.units+1<cLine)(I:Inv X pins σ H s)(g:uY H a y o)(G:RelV y u)(h:∀s',Inv X pins σ H s'->Q (.bool (!o.isSome)) s'):
  A3 X.prog X.w A (compareOp .NotIn u (.ref a)) Q E s:=by
 rcases g with⟨kvs,k,e,D,l⟩|⟨kvs,k,b,e,D,L,l⟩
 ·subst D;obtain⟨z,F,vs,C,dd⟩:=vk I.hok e;refine wpAny_notIn_of (vi G) F dd.mapOf ?_;rw[<-(C.val k).isSome_eq,<-l];exact h _ (I.tok _)
 ·subst D;cases(show u=Value.ref b from G);obtain⟨z,F,xs,C,dd⟩:=Zcw I.hok e;refine wpAny_notIn_heap (Qfn J) (vm I.hok L) F dd ?_;have q:=(C.val k).isSome_eq;rw[Qg3]at q;rw[<-q,<-l];exact h _ (I.tok _)
theorem jU{h':Heap}{t':Nat}{ob:HO}(I:Inv X pins σ H s)(D:Mut (H a))(hs:Heap.SameBut a s.heap h')(F:∃q,h'.get? a=some q)(new:Y1 X.prog X.w (upd H a ob) h' a ob):
  Inv X pins σ (upd H a ob) {s with heap:=h',toks:=t'}:=
 I.write (x:=a) (e:=a) D (.inl rfl) (fun b q C z=>(hs.2 b C).trans z) F new
theorem Zcy{H':Hp}{h':Heap}{kvs:A0}{vs:List (Key×Av)}(z:kvs.length<=sizeLine)(C:(a == sysModules)=false)(q:KV kvs vs)(dd:h'.DictOf (ZH P w) a vs):
  Y1 P w H' h' a (.dK kvs):=⟨z,C,vs,q,dd⟩
def Zcz{H':Hp}{Q:Unit->Shared->Prop}(hu:A.units+1<cLine)(I:Inv X pins σ H s)(g:Zbe H a y v H')(Z:RelV y u)(rv:RelV v r)(h:∀s',Inv X pins σ H' s'->Q () s'):
  A3 X.prog X.w A (setItem (.ref a) u r) Q E s:=by
 rcases g with⟨kvs,k,e,G,l,F⟩|⟨kvs,k,b,e,G,O,l,F⟩
 ·subst G F;obtain⟨z,J,vs,C,dd⟩:=Zk2 I.hok e;have M:vs.length<=sizeLine:=by rw[<-C.length];exact z
  have L:(putK kvs k v).length<=sizeLine:=by have:=Wq kvs k v;lia
  refine wpAny_setItem_pairs (hsz:=M) (vi Z) dd fun h' dd' hs=>h _ ?_;have he:∃q,h'.get? a=some q:=let⟨q,_,_,D,_⟩:=dd';⟨q,D⟩;exact jU I (by rw[e];exact True.intro) hs he (Zcy L J (C.put k rv) dd')
 ·subst G F;cases(show u=Value.ref b from Z);obtain⟨z,J,xs,C,dd⟩:=dt_of I.hok e;have M:xs.length<=sizeLine:=by rw[<-Qfk C];exact z
  have L:(putK kvs k v).length<=sizeLine:=by have:=Wq kvs k v;lia
  refine wpAny_setItem_heap (hsz:=M) (Qfn hu) (vm I.hok O) dd fun h' dd' hs=>h _ ?_;obtain⟨q,es,ep,D,h2,h3,h4,_,h5⟩:=dd';refine jU I (by rw[e];exact True.intro) hs ⟨q,D⟩ ⟨L,J,_,(C.put k O rv).keeps fun c ys Y=>?_,q,es,ep,D,h2,h3,h4,h5⟩;rw[Zk (Xn Y e (fun z=>nomatch z))];exact Y
end
section
variable {X:Cx}{pins:Ac}{σ:St}{H:Hp}{s:As}{a:Aw}{kvs:A0}{k:Key}{u:Av}{A:Ar}{E:Ab}
end
def Zpc(i:Ax):Prop:=∀q C,subscripted i false q C=operate [q,C] (getItem q C)
def Zc0{prog:Aq}{A:Ar}{E:Ab}{env:Env}{q:Ax}{T id:String}
  (J:typeLookup (.type T) "__getitem__" = pure (some (.builtin id))) (hs:Zpc q)
  (h:A3 prog w A (eval e env) (fun o D=>A3 prog w A (eval q env) (fun i s₂=>s₂.TypeIs o T/\A3 prog w A (getItem o i) Q E s₂) E D) E s):
  A3 prog w A (eval (.Subscript e q p) env) Q E s:=by
 refine Subscript_ (Qdi h (fun o D I=>Qdi I (fun i s₂ C=>?_) fun _ _ x=>x) fun _ _ x=>x);obtain⟨L,C⟩:=C;refine Qaa ?_;refine Qaa (Qd8 L J ?_);have fin:A3 prog w A (subscripted q false o i) (fun r F=>A3 prog w A (letTemporaryGo e o r >>= fun _=>pure r) Q E F) E s₂:=by
  rw[hs o i];exact wpAny_operating (Qdi C (fun r F G=>Qaa (wpAny_letTemporaryGo (Qae G))) fun _ _ x=>x)
 first
  |exact Qae (Qaa fin)
  |exact Qaa (Qae (Qaa fin))
  |exact Qaa fin
def kP {X:Cx}       {o:Option V} (I:Inv X m c H s) (g:uY H a y o):s.TypeIs (.ref a) "dict" :=by
 rcases g with⟨kvs,k,e,_,_⟩|⟨kvs,k,b,e,_,_,_⟩
 ·obtain⟨_,_,vs,_,dd⟩:=vk I.hok e;exact dd.typeIs
 ·obtain⟨_,_,xs,_,dd⟩:=Zcw I.hok e;exact dd.typeIs
inductive Zc1(Q:VK)(x:V)(y:V)(H2:Hp):Prop
 |mk (a v:_):(x=.ref a)->(uY H2 a y (some v))->(Q v H2)->Zc1 Q x y H2
def Zoe(td ty:TE):TE:=fun σ H Q=>td σ H fun x H1=>ty σ H1 fun y H2=>Zc1 Q x y H2
inductive Zc2(D:Ends)(σ:St)(v:V)(x:V)(y:V)(H3:Hp):Prop
 |mk (a H4:_):(x=.ref a)->(Zbe H3 a y v H4)->(D.nx σ H4)->Zc2 D σ v x y H3
def Zof(td ty tv:TE):TS:=fun D σ H=>tv σ H fun v H1=>td σ H1 fun x H2=>ty σ H2 fun y q=>Zc2 D σ v x y q
section
variable {X:Cx}{o i e value:Ax}{pos pos' tpos:Pos}{td ty tv:TE}
def Zk4(J:X.A.units+1<cLine)(ho:PE X o td)(hi:PE X i ty)(hs:Zpc i):PE X (.Subscript o i pos) (Zoe td ty):=by
 intro pins s σ H Q I h;refine Zc0 PySem.F.slot_dict_getitem.lookup hs (thn (ho pins s σ H _ I h) fun u M ⟨x,H1,L,Z,G⟩=>thn (hi pins M σ H1 _ L G) fun iv s2 ⟨y,H2,C,O,a,v,ex,g,D⟩=>?_);subst ex;obtain rfl:u=Value.ref a:=Z;exact⟨kP C g,Zcx J C g O fun w' s3 Y q=>⟨v,H2,Y,q,D⟩⟩
def Zk5(q:X.A.units+1<cLine)(ho:PE X o td)(hi:PE X i ty)(O:PE X value tv)(hs:swapsWith value (some (.Subscript o i pos')) pos.line X.env=pure false):
  PS X (.Assign [.Subscript o i pos'] value pos) (Zof td ty tv):=by
 intro pins s σ H D I h;refine wpAny_Assign_Subscript (thn (O pins s σ H _ I h) fun r F ⟨v,H1,Y,rv,M⟩=>thn (ho pins F σ H1 _ Y M) fun u s2 ⟨x,H2,I2,rx,L⟩=>thn (hi pins s2 σ H2 _ I2 L) fun iv s3 ⟨y,H3,G,Z,a,H4,ex,g,C⟩=>?_) hs;subst ex;obtain rfl:u=Value.ref a:=rx;exact Zcz q G g Z rv fun s4 J=>⟨σ,H4,J,C⟩
end
theorem jV    (h:Heap) (q:sysModules<h.objs.size):Y1 P w H (h.push {cls:=.type "dict",data:=.dict #[]}) h.objs.size (.dK []):=
 ⟨Qbt _,Qeg.mpr (Qd3 (Qbf q)),[],.nil,Heap.DictOf.new h⟩
theorem Zgg    (h:Heap) (q:sysModules<h.objs.size):Y1 P w H (h.push {cls:=.type "dict",data:=.dict #[]}) h.objs.size (.dT []):=
 ⟨Qbt _,Qeg.mpr (Qd3 (Qbf q)),[],.nil,_,#[],0,Qam _ rfl,⟨rfl,rfl,rfl⟩,rfl,rfl,Qcq⟩
def Zi4:TE:=fun _ H Q=>∀p,H p=none->Q (.ref p) (upd H p (.dK []))
def Zi5:TE:=fun _ H Q=>∀p,H p=none->Q (.ref p) (upd H p (.dT []))
section
variable {X:Cx}{pos:Pos}
theorem Zgh:PE X (.Dict [] [] pos) Zi4:=fun pins s σ H Q I h=>
 wpAny_Dict_empty ⟨.ref s.heap.objs.size,_,I.laid (a:=s.heap.objs.size) (o:=.dK []) (t':=s.toks) (fun _ _ q=>Qad _ q) (Qaj _) (jV s.heap I.big),rfl,h _ (I.hok.fresh (Qaj _))⟩
theorem Zgi:PE X (.Dict [] [] pos) Zi5:=fun pins s σ H Q I h=>
 wpAny_Dict_empty ⟨.ref s.heap.objs.size,_,I.laid (a:=s.heap.objs.size) (o:=.dT []) (t':=s.toks) (fun _ _ q=>Qad _ q) (Qaj _) (Zgg s.heap I.big),rfl,h _ (I.hok.fresh (Qaj _))⟩
end
def Zc3:List (TE×TE)->St->Hp->(List (V×V)->Hp->Prop)->Prop
 |[],_,H,Q=>Q [] H
 |(tk,tv)::r,σ,H,Q=>tk σ H fun x H1=>tv σ H1 fun y H2=>Zc3 r σ H2 fun ps q=>Q ((x,y)::ps) q
abbrev VV:List (V×V)->List (Av×Av)->Prop:=Paired fun p q=>RelV p.1 q.1/\RelV p.2 q.2
def PPs(X:Cx)(pos:Pos)(keys:List (Option Ax))(q:An)(C:List (TE×TE)):Prop:=
 ∀(pins:Ac) (s:As) (σ:St) (H:Hp) (Q:List (V×V)->Hp->Prop),Inv X pins σ H s->Zc3 C σ H Q->
  A4 X (evalPairs (pairTrees keys q X.env pos)) (fun vs s'=>∃ps H',Inv X pins σ H' s'/\VV ps vs/\Q ps H') X.xe s
def Zk6{X:Cx}:PPs X p [] [] []:=fun pins s σ H Q I h=>pairTrees_nil_walk ⟨[],H,I,.nil,h⟩
theorem Zgj{X:Cx}{k v:Ax}{ks:List (Option Ax)}{vs:An}{tk:TE}{C:List (TE×TE)}(hk:PE X k tk)(Y:PE X v I)(hr:PPs X p ks vs C):
  PPs X p (some k::ks) (v::vs) ((tk,I)::C):=fun pins s σ H Q q h=>
 pairTrees_cons_walk (thn (hk pins s σ H _ q h) fun u G ⟨x,H1,Z,rx,O⟩=>thn (Y pins G σ H1 _ Z O) fun w2 s2 ⟨y,H2,I2,ry,M⟩=>
  thn (hr pins s2 σ H2 _ I2 M) fun ws s3 ⟨ps,L,J,D,F⟩=>⟨(x,y)::ps,L,J,.cons ⟨rx,ry⟩ D,F⟩)
def jj(kvs q:A0):A0:=q.foldl (fun acc C=>putK acc C.1 C.2) kvs
theorem KV.merge:∀{C:A0} {D:List (Key×Av)} {kvs:A0} {vs:List (Key×Av)},KV C D->KV kvs vs->KV (jj kvs C) (merged vs D):=by
 intro C D kvs vs r
 induction r generalizing kvs vs with
 |nil=>intro q;exact q
 | @cons p q ps I h t G=>
  intro F;have e:KV (putK kvs p.1 p.2) (stored vs q.1 q.2):=by
   have:=F.put p.1 h.2;rw[<-h.1];exact this
  exact G e
theorem JT:∀(q kvs:A0),(jj kvs q).length<=kvs.length+q.length
 |[],kvs=>by show kvs.length<=kvs.length+0;lia
 |p::r,kvs=>by
  have h1:=JT r (putK kvs p.1 p.2);have h2:=Wq kvs p.1 p.2;show(jj (putK kvs p.1 p.2) r).length<=_;rw[Qa9];lia
theorem jk{P:Aq}{w:Au}:∀{kvs:A0} {D:List (Av×Av)},VV (kvs.map fun F=>(kV F.1,F.2)) D->∃C,Carries (ZH P w) D C/\KV kvs C
 |[],_,r=>by cases r;exact⟨[],True.intro,.nil⟩
 |p::kvs,_,r=>by
  cases r with
  | @cons a b as bs h t=>
   obtain⟨C,c,q⟩:=jk (P:=P) (w:=w) t;obtain⟨b1,b2⟩:=b;exact⟨(p.1,b2)::C,⟨vi h.1,rfl,c⟩,.cons ⟨rfl,h.2⟩ q⟩
def Zog(q:List (TE×TE)):TE:=fun σ H Q=>∀p,H p=none->Zc3 q σ (upd H p (.dK [])) fun ps H2=>H2 p=some (.dK [])/\∃kvs:A0,ps=kvs.map (fun C=>(kV C.1,C.2))/\kvs.length<=15/\Q (.ref p) (upd H2 p (.dK (jj [] kvs)))
def Zk7{X:Cx}{keys:List (Option Ax)}{C:List (TE×TE)}(h:PPs X p keys A C)(D:keys.all (·.isSome)=true)(hl:keys.length=A.length)(O:keys≠[])
  (F:keys.length<=15):PE X (.Dict keys A p) (Zog C):=by
 intro pins s σ H Q I q;have M:=I.hok.fresh (Qaj s.heap.objs.size);have I1:=I.laid (a:=s.heap.objs.size) (o:=.dK []) (h':=s.heap.push {cls:=.type "dict",data:=.dict #[]}) (t':=s.toks) (fun _ _ q=>Qad _ q) (Qaj _) (jV s.heap I.big);refine wpAny_Dict_walk (knd:=ZH X.prog X.w) D hl O F (thn (h pins _ σ _ _ I1 (q _ M)) fun ws s2 ⟨ps,H2,J,G,e,kvs,ep,lk,Y⟩=>?_);subst ep;obtain⟨rs,c,L⟩:=jk (P:=X.prog) (w:=X.w) G;obtain⟨z,hd,vs0,Z,dd⟩:=Zk2 J.hok e;cases Z;refine⟨rs,c,dd,fun h' dd' hs=>⟨.ref s.heap.objs.size,_,?_,rfl,Y⟩⟩;have hz:(jj [] kvs).length<=sizeLine:=by
  have h1:=JT kvs [];rw[Qeu]at h1;rw[Qhd];lia
 have he:∃q,h'.get? s.heap.objs.size=some q:=let⟨q,_,_,hq,_⟩:=dd';⟨q,hq⟩;exact jU J (by rw[e];exact True.intro) hs he (Zcy hz hd (L.merge .nil) dd')
structure M2(X:Cx)(o:Ax)(m:Str)(apos:Pos)(e f:Ax)(cpos:Pos):Prop where
 base:attributeBase o m X.env (eval o X.env)=eval o X.env
 few:((backTo cpos (starEach [e,f] X.env)).all (fun x=>!x.1)&&(backToKw cpos (keywordEach [] X.env)).all (fun x=>x.1.isSome)
  && decide (([e,f]:An).length+([]:List Keyword).length+(if([]:List Keyword).isEmpty then 0 else 1)<30))=true
 line:(apos.endLine == cpos.line)=true
 trees:backTo cpos (starEach [e,f] X.env)=[(false,eval e X.env),(false,eval f X.env)]
section
variable {X:Cx}{pins:Ac}{σ:St}{H:Hp}{s:As}{a:Aw}{y d:V}{u r:Av}{o:Option V}{A:Ar}{E:Ab}
end
section
variable {X:Cx}{o e f:Ax}{apos cpos:Pos}{td ty tx:TE}
end
section
variable {X:Cx}{pins:Ac}{σ:St}{H:Hp}{s:As}{a:Aw}{kvs:A0}{A:Ar}{E:Ab}
def Zgk  (I:Inv X pins σ H s) (e:Rd H a (.dK kvs)) (h:∀p s',H p=none->Inv X pins σ (upd H p (.dK kvs)) s'->Q (.ref p) s'):A3 X.prog X.w A (call (.type "dict") [.ref a]) Q E s:=by
 obtain⟨z,F,vs,C,dd⟩:=vk I.hok e;refine kt_call_dict F dd (by rw[<-C.length];exact z) fun h' dd' hs=>?_;refine h _ _ (I.hok.fresh (Qaj _)) (I.laid (a:=s.heap.objs.size) (o:=.dK kvs) (t':=s.toks) (fun b q D=>?_) (Qaj _) (Zcy z (Qeg.mpr (Qd3 (Qbf I.big))) C dd'));exact(hs.2 b (Qbf (Qaq D))).trans (Qad _ D)
end
section
variable {X:Cx}{pins:Ac}{σ:St}{H:Hp}{s:As}{a:Aw}{y:V}{u:Av}{A:Ar}{E:Ab}
end
end L2
namespace EnT
section
variable {prog:Aq}{w:Au}{A:Ar}{E:Ab}{s:As}
def next_of{it l:Aw}{items:_}{x:Av}(q:s.heap.IsTupleIter it l i)(J:s.heap.IsTuple l items)(G:items[i]?=some x)
  (I:∀h',h'.IsTupleIter it l (i+1)->Heap.SameBut it s.heap h'->Q x {s with heap:=h'}):A3 prog w A (Builtin.SmallTypes.nextOf (.ref it)) Q E s:=by
 obtain⟨o,ho,L,C⟩:=id q;obtain⟨M,D,_,O,F⟩:=J;refine Qaa (wpAny_callSpecial?_slot (name:=Str.ofString "__next__") q.typeIs Qd0 (Qbe Qd0 q.typeIs Qgg ?_ (Qga _)));show wpAny _ _ (field (.ref it) 0 >>= _) _ _ s;refine Qaa (Qbw ho C (x:=.ref l) rfl ?_);refine Qaa (Qbw ho C (x:=.int i 0) rfl ?_);refine Qaa (Qci D F ?_);simp only[Qbn,G];refine Qaa (Qdc ho C (by simp) (Qae ⟨x,rfl,Qae (I _ ⟨_,Qbr _ ho (Qct (Qbv C _)),(Qe4 ..).trans L,?_⟩ (Qb5 ..))⟩));rw[Qbv C];simp[rawInt]
def next_no{it l:Aw}{items:_}(hh:A.handled=none)(q:s.heap.IsTupleIter it l i)(I:s.heap.IsTuple l items)(G:items[i]?=none)
  (J:∀h' e,Heap.ExtBut it s.heap h'->(∃o,h'.get? e=some o/\o.cls=.type "StopIteration")->E (.ref e) {s with heap:=h'}):A3 prog w A (Builtin.SmallTypes.nextOf (.ref it)) Q E s:=by
 obtain⟨o,ho,M,C⟩:=id q;obtain⟨O,D,_,L,F⟩:=I;refine Qaa (wpAny_callSpecial?_slot (name:=Str.ofString "__next__") q.typeIs Qd0 (Qbe Qd0 q.typeIs Qgg ?_ (Qga _)));show wpAny _ _ (field (.ref it) 0 >>= _) _ _ s;refine Qaa (Qbw ho C (x:=.ref l) rfl ?_);refine Qaa (Qbw ho C (x:=.int i 0) rfl ?_);refine Qaa (Qci D F ?_);simp only[Qbn,G];refine Qaa (Qdg (Qaa (Qdc ho C (by simp) ?_)));refine Qaa ?_;refine Qaa (Qbd ?_ (by size_fits));refine Qaa (m:=firstArgMember _ _) (Qcj (a:=Value.none) (by first|rfl|(rfl)) ?_);refine Qbd ?_ (by size_fits);refine Qaa (Qhc ?_)
 first|rw[show A.in1.handled=none from hh]|rw[hh]
 refine Qaa (Qae (Qhx ?_));exact J _ _ (((Qb5 ..).extBut.push _).push _) ⟨_,Qam _ rfl,rfl⟩
end
end EnT
namespace ZpT
def ZI:Bool->Heap->Addr->Addr->Nat->Prop
 |true,h,it,l,k=>h.IsTupleIter it l k
 |false,h,it,l,k=>h.IsListIter it l k
def SeqAt:Bool->Heap->Addr->Array Av->Prop
 |true,h,l,xs=>h.IsTuple l xs
 |false,h,l,xs=>h.IsList l xs
def ZI.mv{b:Bool}{h':Heap}{it l:Aw}{k:Nat}(x:ZI b h it l k)(f:∀o,h.get? it=some o->h'.get? it=some o):ZI b h' it l k:=by
 cases b
 ·exact Heap.IsListIter.at x f
 ·exact Heap.IsTupleIter.at x f
def SeqAt.mv{b:Bool}{h':Heap}{l:Aw}{xs:Ah}(x:SeqAt b h l xs)(f:∀o,h.get? l=some o->h'.get? l=some o):SeqAt b h' l xs:=by
 cases b
 ·obtain⟨o,ho,r⟩:=(show h.IsList l xs from x);exact(show h'.IsList l xs from⟨o,f o ho,r⟩)
 ·obtain⟨o,ho,r⟩:=(show h.IsTuple l xs from x);exact(show h'.IsTuple l xs from⟨o,f o ho,r⟩)
def ZI.ob{b:Bool}{it l:Aw}{k:Nat}(x:ZI b h it l k):∃o,h.get? it=some o/\∀v,o.data≠.cell v:=by
 cases b
 ·obtain⟨o,ho,C,q⟩:=(show h.IsListIter it l k from x);exact⟨o,ho,fun v z=>by rw[q]at z;cases z⟩
 ·obtain⟨o,ho,C,q⟩:=(show h.IsTupleIter it l k from x);exact⟨o,ho,fun v z=>by rw[q]at z;cases z⟩
def itO (b:Bool) (l:Aw):Obj:={cls:=.type (if b then "tuple_iterator" else "list_iterator"),data:=.fields #[.ref l,.int 0 0]}
section
variable {prog:Aq}{w:Au}{A:Ar}{E:Ab}{s:As}
def WR{b:Bool}{it l:Aw}{k:Nat}{xs:Ah}{x:Av}(q:ZI b s.heap it l k)(F:SeqAt b s.heap l xs)(C:xs[k]?=some x)
  (D:∀h',ZI b h' it l (k+1)->Heap.SameBut it s.heap h'->Q x {s with heap:=h'}):A3 prog w A (Builtin.SmallTypes.nextOf (.ref it)) Q E s:=by
 cases b
 ·exact wpAny_nextOf_list_item q F C D
 ·exact EnT.next_of q F C D
def jl{b:Bool}{it l:Aw}{k:Nat}{xs:Ah}(hh:A.handled=none)(q:ZI b s.heap it l k)(D:SeqAt b s.heap l xs)(C:xs[k]?=none)
  (F:∀h' e,Heap.ExtBut it s.heap h'->(∃o,h'.get? e=some o/\o.cls=.type "StopIteration")->E (.ref e) {s with heap:=h'}):A3 prog w A (Builtin.SmallTypes.nextOf (.ref it)) Q E s:=by
 cases b
 ·exact wpAny_nextOf_list_end hh q D C F
 ·exact EnT.next_no hh q D C F
def XX{b:Bool}{l:Aw}{xs:Ah}(q:SeqAt b s.heap l xs)(h:Q (.ref s.heap.objs.size) {s with heap:=s.heap.push (itO b l)}):A3 prog w A (pyIter (.ref l)) Q E s:=by
 cases b
 ·exact Qe3 q h
 ·exact wpAny_pyIter_tuple q h
def qM{b:Bool}{it l:Aw}(e:h.get? it=some (itO b l)):ZI b h it l 0:=by
 cases b
 ·exact(show h.IsListIter it l 0 from⟨_,e,rfl,rfl⟩)
 ·exact(show h.IsTupleIter it l 0 from⟨_,e,rfl,rfl⟩)
end
end ZpT
namespace L2
open ZpT (SeqAt ZI)
def SqB(K:Af):Bool->Hp->Addr->List V->Prop
 |true,H,a,xs=>SqT K H a xs
 |false,H,a,xs=>SqL K H a xs
def SqB.t{xs:A2}(h:H a=some (.tup xs)):SqB K true H a xs:=(SqT.of h:SqT K H a xs)
def SqB.l{xs:A2}(h:H a=some (.lst xs)):SqB K false H a xs:=(SqL.of h:SqL K H a xs)
def Inv.sqB{X:Cx}{σ:L2.St}{xs:A2}{b:Bool}(I:Inv X m σ H s)(h:SqB X.K b H a xs):∃q:Ag,Vals xs q/\SeqAt b s.heap a q.toArray/\xs.length<=sizeLine:=by
 cases b
 ·obtain⟨q,C,p,D⟩:=I.list (show SqL X.K H a xs from h);obtain⟨o,n,e,G,_,F⟩:=p;exact⟨q,C,(show s.heap.IsList a q.toArray from⟨o,e,G,n,F⟩),D⟩
 ·obtain⟨q,C,p,D⟩:=I.tuple (show SqT X.K H a xs from h);exact⟨q,C,(show s.heap.IsTuple a q.toArray from p),D⟩
def Inv.sqB_inj{X:Cx}{σ:L2.St}{xs ys:A2}{b:Bool}(I:Inv X m σ H s)(h:SqB X.K b H a xs)(h':SqB X.K b H a ys):xs=ys:=by
 cases b
 ·exact I.list_inj h h'
 ·exact I.tuple_inj h h'
end L2
namespace EnT
open AutoSeq1 (wpAny_loadPart')
open ZpT (SeqAt ZI itO XX WR jl qM)
def enO (it:Aw):Obj:={cls:=.type "enumerate",data:=.fields #[.none,.bool false,.ref it,rawInt 0,.none,.none]}
theorem WO(b:Bool)(l:Aw)(items:Ah):
  Meets (Builtin.«enumerate.__new__» ⟨[.type "enumerate",.ref l],[]⟩) (fun _ R s=>SeqAt b s.heap l items /\
   R (.ok (.ret (.ref (s.heap.push (itO b l)).objs.size))) {s with heap:=(s.heap.push (itO b l)).push (enO s.heap.objs.size)}):=
 .of_wp fun prog w A R s h=>by
  obtain⟨D,g,d,tk,os⟩:=s;obtain⟨G,h⟩:=h;have F:=sub_enumerate;have q:SeqAt b (Shared.heap ⟨D,g,d,tk,os⟩) l items:=G;obtain⟨o,C,J⟩:∃o,D.get? l=some o/\∀v,o.data≠.cell v:=by cases b<;>(obtain⟨o,e,_,_,I⟩:=G;exact⟨o,e,fun v z=>by rw[I]at z;cases z⟩)
  wp_walk using wpAny_loadPart' C
  refine wpAny_stack_any fun st=>Qae ?_
  split
  ·rename_i c _ _ _ _ _;cases(c == Value.type "enumerate")
   ·wp_walk using wpAny_loadPart' C,XX q
    exact⟨_,rfl,h⟩
   ·wp_walk using wpAny_loadPart' C,XX q
    exact⟨_,rfl,h⟩
  ·wp_walk using wpAny_loadPart' C,XX q
   exact⟨_,rfl,h⟩
section
variable {prog:Aq}{w:Au}{A:Ar}{E:Ab}{s:As}
def Zk8{b:Bool}{e it l:Aw}{items:Ah}{x old:Av}
  (he:IsEnum s.heap e it i old) (hit:ZI b s.heap it l i) (hl:SeqAt b s.heap l items) (hx:items[i]?=some x) (Y:e≠it)
  (hQ:∀h',IsEnumOut h' e it ((i:Int)+1) x s.heap.objs.size->ZI b h' it l (i+1)->
   h'.get? s.heap.objs.size=some {cls:=.type "tuple",data:=.seq #[.int i s.toks,x]}->h'.objs.size=s.heap.objs.size+1->
   (∀b o,b≠e->b≠it->s.heap.get? b=some o->h'.get? b=some o)->Q (.ref s.heap.objs.size) {s with heap:=h',toks:=s.toks+1}):
  A3 prog w A (Builtin.«enumerate.__next__» ⟨[.ref e],[]⟩) (fun fin s'=>∃v,fin=.done (.ret v)/\Q v s') E s:=by
 obtain⟨hp,g,d,tk,os⟩:=s;show wpAny _ _ (field (.ref e) 2 >>= _) _ _ _;refine Qaa (Qbw he rfl (x:=.ref it) rfl ?_);refine Qaa (WR hit hl hx fun h₁ hit₁ M=>?_);have L:IsEnum h₁ e it i old:=(M.2 e Y).trans he;refine Qaa (Qbw L rfl (x:=rawInt i) rfl ?_);refine Qaa (Qbw L rfl (x:=.none) rfl ?_);refine Qaa (Qgf ?_);refine Qaa (Qcb L (by simp) fun h₂ he₂ I=>?_);refine Qaa (Qcb he₂ (by simp) fun Z he₃ J=>?_);refine Qaa (Qg0 ?_);have D:IsEnum (Z.push {cls:=.type "tuple",data:=.seq #[.int i tk,x]}) e it ((i:Int)+1) old:=Qad _ he₃;generalize hh₄:Z.push {cls:=.type "tuple",data:=.seq #[.int i tk,x]}=G at D;have hsz:Z.objs.size=hp.objs.size:=by rw[J.1,I.1,M.1]
 have hel:e<hp.objs.size:=Qaq he;have ht₄:G.get? hp.objs.size=some {cls:=.type "tuple",data:=.seq #[.int i tk,x]}:=by rw[<-hh₄,<-hsz];exact Qam _ rfl
 have hz₄:G.objs.size=hp.objs.size+1:=by rw[<-hh₄,Qb2,hsz]
 have hk₄:∀b o,b≠e->b≠it->hp.get? b=some o->G.get? b=some o:=fun b o O hbi hb=>by
  rw[<-hh₄];exact Qad _ (J.extBut b o O (I.extBut b o O (M.extBut b o hbi hb)))
 have hit₄:ZI b G it l (i+1):=by
  rw[<-hh₄];exact hit₁.mv fun o z=>Qad _ (J.extBut _ _ (Qd3 Y) (I.extBut _ _ (Qd3 Y) z))
 show wpAny _ _ (Builtin.SmallTypes.ownedTupleIsFree (.ref e) >>= _) _ _ ⟨G,g,d,tk+1,os⟩;rw[hsz];refine Qaa ?_
 ·refine Qaa (Qbw D rfl (x:=.none) rfl (Qae ?_));refine Qaa (Qdg ?_);refine Qaa (Qbw D rfl (x:=old) rfl ?_);refine Qaa (Qcb D (by simp) fun h₅ he₅ q=>?_);refine Qaa ?_
  ·refine Qaa (Qcb he₅ (by simp) fun h₆ he₆ C=>?_);refine Qcb he₆ (by simp) fun h₇ he₇ F=>?_;refine Qaa (Qfc (Qae ⟨_,rfl,hQ h₇ he₇ ?_ ?_ ?_ ?_⟩))
   ·exact hit₄.mv fun o z=>F.extBut _ _ (Qd3 Y) (C.extBut _ _ (Qd3 Y) (q.extBut _ _ (Qd3 Y) z))
   ·exact F.extBut _ _ (Qed hel) (C.extBut _ _ (Qed hel) (q.extBut _ _ (Qed hel) ht₄))
   ·rw[F.1,C.1,q.1,hz₄]
   ·exact fun b o O hbi hb=>F.extBut b o O (C.extBut b o O (q.extBut b o O (hk₄ b o O hbi hb)))
def next_item{b:Bool}{e it l:Aw}{items:Ah}{x:Av}{Q:Aa}
  (G:IsEnum s.heap e it i v) (q:ZI b s.heap it l i) (L:SeqAt b s.heap l items) (I:items[i]?=some x) (C:e≠it)
  (J:∀h',IsEnumOut h' e it ((i:Int)+1) x s.heap.objs.size->ZI b h' it l (i+1)->
   h'.get? s.heap.objs.size=some {cls:=.type "tuple",data:=.seq #[.int i s.toks,x]}->h'.objs.size=s.heap.objs.size+1->
   (∀b o,b≠e->b≠it->s.heap.get? b=some o->h'.get? b=some o)->Q (some (.ref s.heap.objs.size)) {s with heap:=h',toks:=s.toks+1}):
  A3 prog w A (pyNext (.ref e)) Q E s:=by
 have D:s.TypeIs (.ref e) "enumerate" :=⟨_,G,rfl⟩;exact Qaa (Qdk (wpAny_callSpecial?_slot (name:=Str.ofString "__next__") D Qev (Qbe Qev D F.entry_enumerate_next
   (Zk8 G q L I C fun h' a b c d k=>Qae (J h' a b c d k)) (F.args_enumerate_next_1 _))))
def next_end{b:Bool}{e it l:Aw}{items:Ah}{Q:Aa}(hh:A.handled=none)
  (I:IsEnum s.heap e it i v) (q:ZI b s.heap it l i) (L:SeqAt b s.heap l items) (J:items[i]?=none)
  (M:∀h',Heap.ExtBut it s.heap h'->Q none {s with heap:=h'}):A3 prog w A (pyNext (.ref e)) Q E s:=by
 have G:s.TypeIs (.ref e) "enumerate" :=⟨_,I,rfl⟩;refine Qaa (Qdk (wpAny_callSpecial?_slot (name:=Str.ofString "__next__") G Qev (Qbe Qev G F.entry_enumerate_next ?_ (F.args_enumerate_next_1 _))));show wpAny _ _ (field (.ref e) 2 >>= _) _ _ _;refine Qaa (Qbw I rfl (x:=.ref it) rfl ?_);refine Qaa (jl hh q L J fun h' x C D=>?_);obtain⟨o,ho,O⟩:=D;refine Qaa (Qdh (T:= "StopIteration") (b:=true) ⟨o,ho,O⟩ Qfy ?_);exact Qae (M _ C)
def call_new{b:Bool}{l:Aw}{items:Ah}(G:SeqAt b s.heap l items)
  (h:∀h',IsEnum h' (s.heap.objs.size+1) s.heap.objs.size 0 .none->ZI b h' s.heap.objs.size l 0->h'.objs.size=s.heap.objs.size+2->
   (∀b o,s.heap.get? b=some o->h'.get? b=some o)->Q (.ref (s.heap.objs.size+1)) {s with heap:=h'}):A3 prog w A (call (.type "enumerate") [.ref l]) Q E s:=by
 refine callType_new F.called_enumerate (by decide) (F.typeCall_enumerate_1 _) (F.newCall_enumerate_1 _) (fun q=>F.args_object_init_2 q _) F.entry_enumerate_new (WO b l items) ⟨G,?_⟩;have C:(s.heap.push (itO b l)).objs.size=s.heap.objs.size+1:=Qb2 ..;rw[C];have D:IsEnum ((s.heap.push (itO b l)).push (enO s.heap.objs.size)) (s.heap.objs.size+1) s.heap.objs.size 0 .none:=by
  have:=Qam (s.heap.push (itO b l)) (o:=enO s.heap.objs.size) rfl;rw[C]at this;exact this
 refine⟨⟨_,D,rfl⟩,h _ D (qM (Qad _ (Qam _ rfl))) (by rw[Qb2,C]) fun b o x=>Qad _ (Qad _ x)⟩
end
end EnT
namespace L2
open ZpT (SeqAt ZI)
def GB{X:Cx}{pins:Ac}{σ:St}{h':Heap}{t':Nat}(I:Inv X pins σ H s)(D:∀b∈J,kF X pins H b)(k:∀b o,b∉J->s.heap.get? b=some o->h'.get? b=some o):Inv X pins σ H {s with heap:=h',toks:=t'}:=by
 have F:∀b u,H b=some u->b∉J:=fun b u e z=>by rw[(D b z).1]at e;cases e
 refine I.step (g':=s.gens) (d':=s.drawn) (ch:=J) (fun b G=>⟨(D b G).2.2.2.1,(D b G).2.1,(D b G).2.2.2.2.1,(D b G).2.2.2.2.2⟩) (fun b o _ _ C e _=>k b o C e) (fun b o _ _ C e _=>⟨o.slots,k b o C e⟩) (fun _ _ _ _ n=>n)
  (fun b o C e=>⟨o,k b o C e⟩) (fun _ _ e=>e) (fun _ _ _ e=>e) (fun b ps e=>⟨#[],by rw[e];simp⟩) (fun m L=>?_) (fun b u e=>?_) I.bare
 ·obtain⟨o,es,ep,ho,r⟩:=L;exact⟨o,es,ep,k _ o (fun z=>(D _ z).2.1 rfl) ho,r⟩
 ·refine(I.hok b u e).stay (fun c v C q=>k c v ?_ q) (fun _ q=>q) fun _ _ q=>q
  rcases C with z|z
  ·rw[z];exact F b u e
  ·exact F c _ z
def Ite(K:Af)(b:Bool)(a:Aw)(n:Nat):It:=
 ⟨fun i H=>∃xs x,SqB K b H a xs/\xs.length=n/\xs[i]?=some x,fun i H v H'=>∃p,H p=none/\v=.ref p/\∀xs x,SqB K b H a xs->xs[i]?=some x->H'=upd H p (.tup [.int i,x]),fun i H=>∃xs,SqB K b H a xs/\xs.length=n/\n<=i⟩
def Zc4{ps:Pos}(b:Bool)(a e it:Aw)(n:Nat)(Z:e≠it):Turn P w K (.Tuple A L ps) (Ite K b a n) [e,it] e (fun i h=>(∃C,IsEnum h e it i C)/\ZI b h it a i)where
 mem:=by simp
 obj:=fun i h st b D=>by
  obtain⟨⟨C,G⟩,q⟩:=st;rcases Qao.mp D with rfl|D
  ·grind
  ·have:b=it:=by simpa using D
   subst this;exact q.ob
 keep:=fun i h h' st k=>by
  obtain⟨⟨C,G⟩,q⟩:=st;exact⟨⟨C,k e (by simp) _ G⟩,q.mv fun o x=>k it (by simp) o x⟩
 item:=by
  intro X hP hw hK hc i pins s σ H E I Y st hg;subst hP hw hK;obtain⟨xs,x,hq,hn,hx⟩:=hg;obtain⟨its,rv,p,hz⟩:=I.sqB hq;obtain⟨u,hu,ru⟩:=rv.get hx;obtain⟨⟨C,G⟩,q⟩:=st;obtain⟨f0,f1,f2,f3,f4,f5⟩:=Y e (by simp);obtain⟨g0,g1,g2,g3,g4,g5⟩:=Y it (by simp);have hilt:it<s.heap.objs.size:=by obtain⟨_,z,_⟩:=q.ob;exact Qaq z
  refine EnT.next_item G q p (x:=u) (by simpa using hu) Z fun h' ho O hT hsz hk=>?_;refine⟨_,rfl,wpAny_letOwnedTupleGo_enum (s:={s with heap:=h',toks:=s.toks+1}) ho fun h2 he2 hs2=>?_⟩;have F:Heap.SameBut e h' h2:=hs2;have I1:Inv X pins σ (upd H s.heap.objs.size (.tup [.int i,x])) {s with heap:=s.heap.push {cls:=.type "tuple",data:=.seq #[.int i s.toks,u]},toks:=s.toks+1}:=
   I.laid (fun b o y=>Qad _ y) (Qaj _) ⟨kE,[.int i s.toks,u],.cons ⟨_,rfl⟩ (.cons ru .nil),kI.new _ _⟩
  have M:∀b∈[e,it],kF X pins (upd H s.heap.objs.size (.tup [.int i,x])) b:=fun b D=>by
   have hlb:b≠s.heap.objs.size:=by
    grind
   obtain⟨a0,ar⟩:=Y b D;exact⟨by rw[Zk hlb];exact a0,ar⟩
  have I2:Inv X pins σ (upd H s.heap.objs.size (.tup [.int i,x])) {s with heap:=h2,toks:=s.toks+1}:=by
   refine GB (s:={s with heap:=s.heap.push {cls:=.type "tuple",data:=.seq #[.int i s.toks,u]},toks:=s.toks+1}) I1 M fun b o D y=>?_;have J:b≠e:=fun z=>D (by simp[z]);have hbi:b≠it:=fun z=>D (by simp[z]);rcases Heap.get?_push_cases y with⟨rfl,rfl⟩|y
   ·exact(F.2 _ J).trans hT
   ·exact(F.2 b J).trans (hk b o J hbi y)
  refine⟨.ref s.heap.objs.size,_,I2,rfl,⟨_,I.hok.fresh (Qaj _),rfl,fun ys y hy hyi=>?_⟩,⟨⟨u,?_⟩,O.mv fun o y=>(F.2 it Z.symm).trans y⟩,fun b D=>(M b D).1⟩
  ·rw[I.sqB_inj hy hq,hx]at hyi;cases hyi;rfl
  ·grind
 done:=by
  intro X hP hw hK hc i pins s σ H E I Y st hg;subst hP hw hK;obtain⟨xs,hq,hn,hx⟩:=hg;obtain⟨its,rv,p,hz⟩:=I.sqB hq;obtain⟨⟨C,G⟩,q⟩:=st;obtain⟨g0,g1,g2,g3,g4,g5⟩:=Y it (by simp);have hl:=rv.length;exact EnT.next_end (I.ok.hd hc) G q p (by simp;lia) fun h' eb=>⟨rfl,I.turned (t':=s.toks) (fun b o D e=>eb b o D e) g0 g1 g3 g4 g5⟩
 self:=fun _ _ _ _ _ st h=>let⟨⟨_,G⟩,_⟩:=st;wpAny_pyIter_enum G h
def Zk9(K:Af)(b:Bool)(te:TE):TI:=fun σ H R=>te σ H fun x H1=>∃a xs,x=.ref a/\SqB K b H1 a xs/\R (Ite K b a xs.length) H1
def vn:bootBuiltins "enumerate" = some (.type "enumerate"):=by decide +kernel
def Zc5 {b:Bool} {X:Cx}    {ps:Pos}  {pos:Pos} (hg:Gl X "enumerate") (M:X.mg "enumerate" = none) (he:QE X e I) (L:ZU e=true:=by rfl):QI X (.Tuple A i ps) (.Call (.Name "enumerate" p) [e] [] pos) (Zk9 X.K b I):=by
 refine⟨fun pins s σ H R C h=>?_⟩;have hs:starEach [e] X.env=[(false,eval e X.env)]:=by rw[Zu L];rfl
 refine Call_ (JL C hg M vn (Qcs ?_ hs rfl));rw[hs];refine Qcy (thn (he.out pins s σ H _ C h) fun u q ⟨x,H1,D,ru,Y⟩=>?_);refine Qd6 ?_;obtain⟨a,xs,rfl,O,r⟩:=Y;cases ru;obtain⟨Z,rv,pt,hz⟩:=D.sqB O;refine EnT.call_new pt fun h' F G hsz hk=>?_;have I2:Inv X pins σ H1 {q with heap:=h'}:=D.kept (t':=q.toks) hk;refine wpAny_pyIter_enum F ⟨q.heap.objs.size+1,[q.heap.objs.size+1,q.heap.objs.size],_,_,H1,rfl,I2,Zc4 b a (q.heap.objs.size+1) q.heap.objs.size xs.length (Nat.succ_ne_self _),⟨⟨_,F⟩,G⟩,fun b J=>?_,r⟩;rcases Qao.mp J with rfl|J
 ·exact D.fpOk (Qet _) (D.hok.fresh (Qet _))
 ·have:b=q.heap.objs.size:=by simpa using J
  subst this;exact D.fpOk (Qaj _) (D.hok.fresh (Qaj _))
def Zgl {X:Cx}    {ps:Pos}  {pos:Pos} (C:Gl X "enumerate") (D:X.mg "enumerate" = none) (F:QE X e u) (q:ZU e=true:=by rfl):QI X (.Tuple A i ps) (.Call (.Name "enumerate" p) [e] [] pos) (Zk9 X.K true u):=Zc5 C D F q
def Zgm {X:Cx}    {ps:Pos}  {pos:Pos} (C:Gl X "enumerate") (D:X.mg "enumerate" = none) (F:QE X e u) (q:ZU e=true:=by rfl):QI X (.Tuple A i ps) (.Call (.Name "enumerate" p) [e] [] pos) (Zk9 X.K false u):=Zc5 C D F q
theorem jX{X:Cx}{y:Str}{pos:Pos}{k:Nat}{C t2:TG}(D:X.calm=true)(h1:QG X (.Name x p) C)(h2:QG X (.Name y q) t2):QG X (.Tuple [.Name x p,.Name y q] k pos) (Znw X.K 2 (jN C (jN t2 Znv))):=
 ⟨Zif D (qJ h1.out (qJ h2.out Zbo))⟩
theorem gF{b:Bool}{xs:A2}{j k:Nat}(q:Nat->St->Hp->Prop)(G:q 0 c H)(C:∀i c H,i<=xs.length->q i c H->SqB K b H a xs)
  (hs:∀i x c H p,xs[i]?=some x->H p=none->q i c H->g {O with nx:=q (i+1),ct:=q (i+1),bk:=O.nx} ((c.set j (some (.int i))).set k (some x)) (upd H p (.tup [.int i,x]))) (D:∀c H,q xs.length c H->O.nx c H):
  Zke (Ite K b a xs.length) (Znw K 2 (jN (WL j) (jN (WL k) Znv))) g O c H:=
 yQ xs.length q G (fun i c H hi p=>⟨⟨xs,xs[i],C i c H (Qav hi) p,rfl,Qac hi⟩,fun v H' y=>by
  obtain⟨t,F,rfl,y⟩:=y;have e:=y xs _ (C i c H (Qav hi) p) (Qac hi);subst e;exact⟨t,_,rfl,SqT.of Za,rfl,_,_,rfl,_,_,rfl,rfl,hs i _ c H t (Qac hi) F p⟩⟩) fun c H p=>⟨⟨xs,C _ c H (Qaj _) p,rfl,Qaj _⟩,D c H p⟩
end L2
namespace L2
def xq{i:Ax}(q:X.A.units+1<cLine)(ho:QE X o u)(hi:QE X i I)(hs:Zpc i):QE X (.Subscript o i p) (Zoe u I):=⟨Zk4 q ho.out hi.out hs⟩
def xr:QE X (.Dict [] [] p) Zi4:=⟨Zgh⟩
theorem GC{i:Ax}{tv:TE}(C:X.A.units+1<cLine)(ho:QE X o u)(hi:QE X i I)(D:QE X e tv)(hs:swapsWith e (some (.Subscript o i q)) p.line X.env=pure false):
  QS X (.Assign [.Subscript o i q] e p) (Zof u I tv):=⟨Zk5 C ho.out hi.out D.out hs⟩
inductive Zi6(neg:Bool)(y:V)(x:V)(H:Hp)(Q:VK):Prop
 |mk (a o:_):(x=.ref a)->(uY H a y o)->(Q (.bl (if neg then !o.isSome else o.isSome)) H)->Zi6 neg y x H Q
def rDIn(neg:Bool):R2:=fun y x H Q=>Zi6 neg y x H Q
def jm(C:X.A.units+1<cLine):OpR X (compareOp .In) (rDIn false):=by
 intro pins s σ H x y v u Q I G F h;obtain⟨a,o,rfl,g,q⟩:=h;cases F;exact d_in C I g G fun s' D=>⟨.bl o.isSome,H,D,rfl,q⟩
def JU(C:X.A.units+1<cLine):OpR X (compareOp .NotIn) (rDIn true):=by
 intro pins s σ H x y v u Q I G F h;obtain⟨a,o,rfl,g,q⟩:=h;cases F;exact Zk3 C I g G fun s' D=>⟨.bl (!o.isSome),H,D,rfl,q⟩
def uZ:Y9 X (.type "dict") (fun xs H Q=>∃a kvs,xs=[V.ref a]/\Rd H a (.dK kvs)/\∀p,H p=none->Q (.ref p) (upd H p (.dK kvs))):=by
 intro pins s σ H xs G Q I r h;obtain⟨a,kvs,rfl,e,q⟩:=h;obtain⟨u,rfl,F⟩:=vals1 r;cases F;exact Zgk I e fun p s' C D=>⟨.ref p,_,D,rfl,q p C⟩
theorem qN{κ:Type}[DecidableEq κ]:∀{kvs:List (κ×V)},(kvs.map (·.1)).Nodup->∀p∈kvs,Yi kvs p.1=some p.2
 |[],_,_,h=>nomatch h
 |q::r,C,p,h=>by
  rw[Qbx,Qcd]at C;rcases Qao.mp h with rfl|h
  ·exact Yj rfl
  ·have D:¬q.1=p.1:=fun z=>C.1 (by rw[z];exact Qb6 h)
   rw[Ye D];exact qN C.2 p h
def gG{x:V}(h:YM x=true):eqV x x=true:=by
 cases x<;>first
  |exact Qcu _
  |rfl
  |cases h
def gH{k:Key}(h:(ZH P w).is k v=true):RelV (kV k) v:=by
 rw[uJ]at h;cases k with
 |inl i=>
  cases v<;>first
   |(have e:=h;unfold qY Value.isInt at e;simp at e;exact⟨_,by rw[e]⟩)
   |(unfold qY Value.isInt at h;simp at h)
 |inr x=>
  cases v<;>first
   |(have e:=h;unfold qY Value.isStrOf at e;simp at e;exact⟨_,by rw[e]⟩)
   |(unfold qY Value.isStrOf at h;simp at h)
inductive KTab(P:Params):List DictEntry->List (Str×Int)->Prop
 |nil:KTab P [] []
 |cons {k:Str} {v:Int} {t u:Tok} {es:List DictEntry} {l:List (Str×Int)}:KTab P es l->KTab P ({hash:=PyData.keyHash P k,key:=.str k t,val:=.int v u}::es) ((k,v)::l)
structure KD(K:Af)(w:Au)(a:Aw)(l:List (Str×Int)):Prop where
 ex:∃es ep,K.lookup a=some {cls:=.type "dict",dict:=none,data:=.dict es ep,slots:=#[]}/\KTab w.params es.toList l
 nd:(l.map (·.1)).Nodup
 ns:(a == sysModules)=false
def kvsOf(l:List (Str×Int)):A0:=l.map fun p=>((Sum.inr p.1:Key),V.int p.2)
theorem KTab.pairs{es:List DictEntry}{l:List (Str×Int)}(h:KTab w.params es l):(∃vs,KV (kvsOf l) vs/\Pairs (ZH P w) es vs)/\∀e∈es,∃k,(ZH P w).is k e.key=true/\e.hash=(ZH P w).hash k:=by
 induction h with
 |nil=>exact⟨⟨[],.nil,.nil⟩,fun _ h=>nomatch h⟩
 | @cons k v t u es l _ D=>
  obtain⟨⟨vs,r,p⟩,q⟩:=D;refine⟨⟨(.inr k,.int v u)::vs,.cons ⟨rfl,⟨u,rfl⟩⟩ r,.cons (JC P w k t) rfl p⟩,fun e C=>?_⟩;rcases Qao.mp C with rfl|C
  ·exact⟨.inr k,JC P w k t,rfl⟩
  ·exact q e C
section
variable {X:Cx}{pins:Ac}{σ:St}{H:Hp}{s:As}{a:Aw}{l:List (Str×Int)}{k:Key}{u:Av}{A:Ar}{E:Ab}
def KD.of(I:Inv X pins σ H s)(d:KD X.K X.w a l):∃vs,KV (kvsOf l) vs/\s.heap.DictOf (ZH X.prog X.w) a vs:=by
 obtain⟨es,ep,C,t⟩:=d.ex;obtain⟨⟨vs,r,p⟩,q⟩:=t.pairs (P:=X.prog);refine⟨vs,r,_,es,ep,I.kIn a _ C,⟨rfl,rfl,rfl⟩,rfl,fun e D=>q e (by simpa using D),p,?_⟩;rw[<-r.keys];unfold kvsOf;rw[Qax];have:=d.nd;rw[List.nodup_iff_pairwise_ne]at *;rw[Qe5]at *;exact this.imp fun h z=>h (Sum.inr.inj z)
def kd_in(I:Inv X pins σ H s)(d:KD X.K X.w a l)(C:RelV (kV k) u)(h:∀s',Inv X pins σ H s'->Q (.bool (Yi (kvsOf l) k).isSome) s'):A3 X.prog X.w A (compareOp .In u (.ref a)) Q E s:=by
 obtain⟨vs,q,dd⟩:=d.of I;refine wpAny_in_of (vi C) d.ns dd.mapOf ?_;rw[<-(q.val k).isSome_eq];exact h _ (I.tok _)
def Zla{z:V}{r:Av}(I:Inv X pins σ H s)(d:KD X.K X.w a l)(D:RelV (kV k) u)(G:RelV z r)(h:∀C s',Inv X pins σ H s'->RelV ((Yi (kvsOf l) k).getD z) C->Q C s'):
  A3 X.prog X.w A (call (.builtin "dict.get") [.ref a,u,r]) Q E s:=by
 obtain⟨vs,q,dd⟩:=d.of I;exact call_meetsIn PySem.F.slot_dict_get dd.typeIs PySem.F.entry_dict_get (PySem.F.args_dict_get_3 _ _ _) (meets_dict_get_default (ZH X.prog X.w) a (vi D) d.ns r) ⟨_,dd.mapOf,h _ _ (I.tok _) ((q.val k).getD G)⟩
end
def rKIn(K:Af)(w:Au):R2:=fun y x H Q=>∃a l k,x=.ref a/\KD K w a l/\y=kV k/\Q (.bl (Yi (kvsOf l) k).isSome) H
def kQ:OpR X (compareOp .In) (rKIn X.K X.w):=by
 intro pins s σ H x y v u Q I F D h;obtain⟨a,l,k,rfl,d,rfl,q⟩:=h;cases D;exact kd_in I d F fun s' C=>⟨.bl _,H,C,rfl,q⟩
def tKGet(K:Af)(w:Au)(td ty tx:TE):TE:=fun σ H Q=>td σ H fun x H1=>∃a l,x=.ref a/\KD K w a l/\ty σ H1 fun y H2=>tx σ H2 fun z q=>∃k,y=kV k/\Q ((Yi (kvsOf l) k).getD z) q
def m2_of{f:Ax}{m:Str}(G:ZU e=true)(C:ZU f=true)(F:attributeBase o m X.env (eval o X.env)=eval o X.env)(D:(p.endLine == q.line)=true):M2 X o m p e f q where
 base:=F
 few:=by
  rw[all_plain (by grind)];rfl
 line:=D
 trees:=by
  rw[Zu G,Zu C];rfl
def kR {f:Ax}  {ty tx:TE} (ho:QE X o I) (he:QE X e ty) (hf:QE X f tx) (h1:ZU e=true:=by rfl) (h2:ZU f=true:=by rfl) (hb:attributeBase o "get" X.env (eval o X.env)=eval o X.env:=by rfl) (hl:(p.endLine == q.line)=true:=by rfl):
  QE X (.Call (.Attribute o "get" p) [e,f] [] q) (tKGet X.K X.w I ty tx):=by
 have m:=m2_of (X:=X) (m:= "get") (o:=o) h1 h2 hb hl;refine⟨fun pins s σ H Q C h=>?_⟩;refine wpAny_Call_method m.base m.few m.line PySem.F.plainAttrs_dict PySem.F.slot_dict_get PySem.F.type_dict_get (thn (ho.out pins s σ H _ C h) fun u Z ⟨x,H1,J,rx,a,l,ex,d,q1⟩=>?_);subst ex;obtain rfl:u=Value.ref a:=rx;obtain⟨vs,rel,dd⟩:=d.of J;refine⟨dd.typeIs,fun b D=>?_,?_⟩
 ·cases D;obtain⟨ob,_,_,g1,M,_⟩:=dd;exact⟨ob,g1,M.2.1⟩
 rw[m.trees];refine Qdy rfl (Qe7 (Qcy (thn (he.out pins Z σ H1 _ J q1) fun iv s2 ⟨y,H2,I2,ry,q2⟩=>Qcy (thn (hf.out pins s2 σ H2 _ I2 q2) fun fv s3 ⟨z,H3,I3,Y,k,L,O⟩=>Qd6 ?_))));subst L;exact Zla I3 d ry Y fun w' s4 I4 G=>⟨_,H3,I4,G,O⟩
def Zgn{is:Aj}{σ:St}{Q:VK}(f:Nat->V)(L:x.cps.size<=sizeLine)
  (J:∀c∈x.cps.toList,∀R:VK,R (f c) H->u (xo is σ (some (.str ⟨#[c]⟩))) H R)
  (G:∀l,H l=none->Q (.ref l) (upd H l (.lst (x.cps.toList.map f)))):GA is Zkx u σ Q (Its x) H:=by
 refine⟨fun i m zs H'=>m=x.cps.size-i/\i<=x.cps.size/\zs=(x.cps.toList.take i).map f/\H'=H,⟨x.cps.size,by simp,Qbt _,rfl,rfl⟩,?_⟩;rintro i m zs H' ⟨rfl,hi,rfl,rfl⟩;have F:((x.cps.toList.take i).map f).length<=sizeLine:=by
  grind
 by_cases q:i<x.cps.size
 ·refine .inr ⟨q,F,fun v H2 y=>?_⟩;obtain⟨e,c,I,rfl⟩:=y;subst e;have C:x.cps.toList[i]?=some c:=by rw[Qdq];exact I
  refine J c (Qar C) _ ⟨x.cps.size-(i+1),by lia,rfl,q,?_,rfl⟩;rw[take_snoc C,Qaz];rfl
 ·have e:i=x.cps.size:=by lia
  refine .inl ⟨e,F,fun l D=>?_⟩;rw[Qcz (by rw[Qbj];lia)];exact G l D
def jn:A2->List V->Bool
 |[],[]=>true
 |x::xs,y::ys=>eqV x y&&jn xs ys
 |_,_=>false
def eqJ(xs ys:A2)(j:Nat):Bool:=match xs[j]?,ys[j]? with
 |some a,some b=>eqV a b
 |_,_=>true
theorem Js:∀xs ys:A2,((List.range (min xs.length ys.length)).all (eqJ xs ys)&&xs.length == ys.length)=jn xs ys
 |[],[]=>rfl
 |[],y::ys=>by simp[jn]
 |x::xs,[]=>by simp[jn]
 |x::xs,y::ys=>by
  have q:=Js xs ys;have e1:min (x::xs).length (y::ys).length=min xs.length ys.length+1:=by
   simp only[Qa9];lia
  have e2:((x::xs).length == (y::ys).length)=(xs.length == ys.length):=by simp
  rw[e1,e2,List.range_succ_eq_map,Qc3,List.all_map,Bool.and_assoc];show(eqV x y&&((List.range (min xs.length ys.length)).all (eqJ xs ys)&&xs.length == ys.length))=(eqV x y&&jn xs ys);rw[q]
def xt{A:Ar}{xs ys:A2}{q:Ag}(r:Vals xs M)(I:Vals ys q)(f:xs.all YM=true)(f2:ys.all YM=true):∀j (h1:j<M.toArray.size) (h2:j<q.toArray.size),SeqAt.EqAt A s M.toArray[j] q.toArray[j] (eqJ xs ys j):=by
 intro j h1 h2;have l1:=r.length;have l2:=I.length;have G:j<xs.length:=by rw[l1];simpa using h1
 have C:j<ys.length:=by rw[l2];simpa using h2
 obtain⟨u,e1,O⟩:=r.get (Qac G);obtain⟨Y,e2,L⟩:=I.get (Qac C);have Z:YM xs[j]=true:=Qca.mp f _ (Qbs G);have J:YM ys[j]=true:=Qca.mp f2 _ (Qbs C);have D:M.toArray[j]=u:=by
  grind
 have F:q.toArray[j]=Y:=by
  grind
 have e3:eqJ xs ys j=eqV xs[j] ys[j]:=by
  unfold eqJ;rw[Qac G,Qac C]
 rw[D,F,e3];exact gy (A:=A) (s:=s) O L Z J
inductive Zi7(K:Af)(neg:Bool)(x:V)(y:V)(H:Hp)(Q:VK):Prop
 |mk (a c xs ys:_):(x=.ref a)->(y=.ref c)->(SqT K H a xs)->(SqT K H c ys)->(xs.all YM=true)->(ys.all YM=true)->(Q (.bl (if neg then !jn xs ys else jn xs ys)) H)->Zi7 K neg x y H Q
def rEqT(K:Af)(neg:Bool):R2:=fun x y H Q=>Zi7 K neg x y H Q
def Zc6(F:X.A.units<cLine):OpR X (compareOp .Eq) (rEqT X.K false):=by
 intro pins s σ H x y v u Q I O L h;obtain⟨a,c,xs,ys,rfl,rfl,ha,M,f,J,q⟩:=h;cases O;cases L;obtain⟨G,r,p,_⟩:=I.tuple ha;obtain⟨D,C,p2,_⟩:=I.tuple M;refine SeqAt.eq_tupleAt (e:=eqJ xs ys) p p2 F (xt r C f J) (ZG I q ?_);show jn xs ys=_;rw[Qas,Qas,<-r.length,<-C.length,Js]
def Zlb(F:X.A.units<cLine):OpR X (compareOp .NotEq) (rEqT X.K true):=by
 intro pins s σ H x y v u Q I O L h;obtain⟨a,c,xs,ys,rfl,rfl,ha,M,f,J,q⟩:=h;cases O;cases L;obtain⟨G,r,p,_⟩:=I.tuple ha;obtain⟨D,C,p2,_⟩:=I.tuple M;refine SeqAt.RcNeAt.tuples (e:=eqJ xs ys) p p2 F (xt r C f J) X.prog X.w _ _ (ZG I q ?_);show(!jn xs ys)=_;rw[Qas,Qas,<-r.length,<-C.length,Js]
inductive Zi8(K:Af)(neg:Bool)(x:V)(y:V)(H:Hp)(Q:VK):Prop
 |mk (a c xs ys:_):(x=.ref a)->(y=.ref c)->(SqL K H a xs)->(SqL K H c ys)->(xs.all YM=true)->(ys.all YM=true)->(Q (.bl (if neg then !jn xs ys else jn xs ys)) H)->Zi8 K neg x y H Q
def rEqL(K:Af)(neg:Bool):R2:=fun x y H Q=>Zi8 K neg x y H Q
def jY(J:X.A.units<cLine):OpR X (compareOp .NotEq) (rEqL X.K true):=by
 intro pins s σ H x y v u Q I Y M h;obtain⟨a,c,xs,ys,rfl,rfl,ha,O,f,L,q⟩:=h;cases Y;cases M;obtain⟨F,r,p,_⟩:=I.list ha;obtain⟨C,G,p2,_⟩:=I.list O;have e:=Js xs ys
 by_cases D:xs.length=ys.length
 ·have hs:F.toArray.size=C.toArray.size:=by rw[Qas,Qas,<-r.length,<-G.length];exact D
  refine SeqAt.RcNeAt.lists (e:=eqJ xs ys) p.isList p2.isList hs J (xt r G f L) X.prog X.w _ _ (ZG I q ?_);show(!jn xs ys)=_;rw[D,Qgo,Qcu,Bool.and_true]at e;rw[Qas,<-r.length,D,e]
 ·have hs:(F.toArray.size != C.toArray.size)=true:=by
   rw[Qas,Qas,<-r.length,<-G.length];simpa using D
  refine SeqAt.RcNeAt.lists_lengths p.isList p2.isList hs J X.prog X.w _ _ (ZG I q ?_);rw[<-e,Qeg.mpr D,Qgz];rfl
def Wr(t:SetTable)(n:Nat):(t.standIn n).led=t.led/\(t.plain=false->(t.standIn n).plain=false):=⟨rfl,fun _=>rfl⟩
def jZ(t:SetTable)(n:Nat):(t.orStandIn n).led=t.led/\(t.plain=false->(t.orStandIn n).plain=false):=by
 unfold SetTable.orStandIn;split
 ·exact⟨rfl,id⟩
 ·exact Wr _ _
def Zaa(t:SetTable)(es:Array (Int×Av))(h:Int)(x:Av):(layNew t es h x).2.1.led=t.led/\(t.plain=false->(layNew t es h x).2.1.plain=false):=by
 unfold layNew;split
 ·exact jZ _ _
 ·exact Wr _ _
theorem vo(t:SetTable)(es:Array (Int×Av))(n:Nat):(relayAll t es n).2.1.led=t.led/\(t.plain=false->(relayAll t es n).2.1.plain=false):=by
 unfold relayAll;split
 ·rename_i t' D q;have C:t'.led=t.led/\(t.plain=false->t'.plain=false):=by
   unfold SetTable.relaid SetTable.laid at q;cases hc:SetTable.layClean (SetTable.sizeAbove n-1) (es.map (·.1))with
   |none=>rw[hc]at q;exact nomatch q
   |some F=>
    rw[hc]at q;obtain⟨rfl,_⟩:=q;exact⟨rfl,id⟩
  dsimp only;split
  ·exact C
  ·exact Wr _ _
 ·exact Wr _ _
def tx:Av->Str
 |.str x _=>x
 |_=>⟨#[]⟩
def qy(prog:Aq)(w:Au)(h:Heap)(a:Aw)(led:Bool)(S:Ai):Prop:=
 ∃o es ep t,h.get? a=some o/\o.ExactSet/\o.data=.set es ep t/\ElemsOf (strKind prog w) es.toList/\(es.toList.map fun e=>tx e.2).Perm S/\t.fits es.size=true/\t.led=led/\(es.size=0\/t.plain=false)
section
variable {prog:Aq}{w:Au}{A:Ar}{E:Ab}{s:As}
def Zoh{e:Av}{k:Str}(h:(strKind prog w).is k e=true):tx e=k:=by
 obtain⟨t,rfl⟩:=Qgc h;rfl
def gI{l:List (Int×Av)}(h:ElemsOf (strKind prog w) l){e:Int×Av}(C:e∈l):(strKind prog w).is (tx e.2) e.2=true/\∃t,e.2=.str (tx e.2) t:=by
 obtain⟨⟨k,q,_⟩,_⟩:=h e C;rw[Zoh q];exact⟨q,Qgc q⟩
def ins(S:Ai)(x:Str):Ai:=if x∈S then S else S++[x]
def Zlc{l:List (Int×Av)}(h:ElemsOf (strKind prog w) l):
  (l.findIdx? (fun e=>(strKind prog w).is x e.2)).isSome=true↔x∈l.map (fun e=>tx e.2):=by
 rw[List.findIdx?_isSome,Qcc,Qau];constructor
 ·rintro⟨e,q,C⟩;exact⟨e,q,Zoh C⟩
 ·rintro⟨e,q,C⟩;exact⟨e,q,C ▸ (gI h q).1⟩
def xu{o:Obj}{es:Array (Int×Av)}{ep:Nat}{t:SetTable}(ho:h.get? a=some o)(F:o.ExactSet)(I:o.data=.set es ep t)
  {q:Array (Int×Av)} {t':SetTable} {S:Ai} {led:Bool} (C:ElemsOf (strKind prog w) q.toList) (J:(q.toList.map fun e=>tx e.2).Perm S) (L:t'.fits q.size=true) (M:t'.led=led) (D:q.size=0\/t'.plain=false):
  (h.update a (Obj.putSet q t')).get? a=some {o with data:=.set q (ep+1) t'}/\qy prog w (h.update a (Obj.putSet q t')) a led S:=by
 have G:(h.update a (Obj.putSet q t')).get? a=some {o with data:=.set q (ep+1) t'}:=by
  have:=Qbr (Obj.putSet q t') ho (by rw[putSet_of q t' I];rfl);rw[putSet_of q t' I]at this;exact this
 exact⟨G,_,q,ep+1,t',G,F,rfl,C,J,L,M,D⟩
theorem Zc7{led:Bool}{S:Ai}{tk:Tok}{Q:Bool->Shared->Prop}(hS:qy prog w s.heap a led S)(hroom:S.length+1<scanBound)
  (h:∀h' b,Heap.SameBut a s.heap h'->qy prog w h' a led (ins S x)->Q b {s with heap:=h'}):
  A3 prog w A (setAddHashed a (.str x tk) ((strKind prog w).hash x)) Q E s:=by
 obtain⟨o,es,ep,t,ho,hex,hd,J,hp,hf,hl,hpl⟩:=hS;have hn:es.size=S.length:=by rw[<-hp.length_eq,Qab,Qbj]
 have Z:(strKind prog w).is x (.str x tk)=true:=by show Value.isStrOf x (.str x tk)=true;simp[Value.isStrOf]
 refine Qb8 (Qaa (Qd9 ho hd hf ?_));dsimp only;rw[byScan_of (knd:=strKind prog w) rfl (by lia) J];refine Qaa ?_;refine Qaa (Qdg ?_);refine Qaa (wpAny_setScan_of Z ho hd hf J ?_);have M:=Zlc J (x:=x);cases hr:List.findIdx? (fun e=>(strKind prog w).is x e.2) es.toList with
 |some j=>
  rw[hr]at M;have hx:x∈S:=hp.mem_iff.mp (M.mp rfl);refine Qae (Qae ?_);have:=h s.heap false (Heap.SameBut.refl a s.heap) (by rw[ins,Qa3 hx];exact⟨o,es,ep,t,ho,hex,hd,J,hp,hf,hl,hpl⟩);exact this
 |none=>
  rw[hr]at M;have hx:x∉S:=fun hm=>by simpa using M.mpr (hp.mem_iff.mpr hm)
  have I:=Zaa t es ((strKind prog w).hash x) (.str x tk);have D:=layNew_perm t es ((strKind prog w).hash x) (.str x tk);have G:=layNew_fits t es ((strKind prog w).hash x) (.str x tk);generalize hL:layNew t es ((strKind prog w).hash x) (.str x tk)=L at I D G ⊢;obtain⟨q,t1,wd,gave⟩:=L;rw[Qg4]at D;have hel1:ElemsOf (strKind prog w) q.toList:=(J.push Z rfl).perm D;have hp1:(q.toList.map fun e=>tx e.2).Perm (ins S x):=by
   rw[ins,Qay hx];refine(D.map _).trans ?_;rw[Qaz];exact hp.append_right _
  have hz1:q.size=S.length+1:=by
   have:=hp1.length_eq;rw[ins,Qay hx,Qab,Qbj,Qak]at this;exact this
  have hg:∀(b:Bool) {C:As} {Y:Unit->Shared->Prop},Y () C->A3 prog w A (match b with|true=>rule "set.scan.the-table-gave-way" |false=>pure ()) Y E C:=
   fun b C Y F=>by cases b<;>first|exact Qae F|exact Qdg F
  refine Qaa (hg _ ?_);have key:∀(g:Bool->Sem Unit),(∀(b:Bool) (C:As) (Y:Unit->Shared->Prop),Y () C->A3 prog w A (g b) Y E C)->∀t2:SetTable,t2.fits q.size=true->t2.led=led->t2.plain=false->
    A3 prog w A (do
     storeSet a q t2
     if(!wd&&t2.tooFull)=true then do
       g (relayAll t2 q (SetTable.grown q.size)).2.2
       storeSet a (relayAll t2 q (SetTable.grown q.size)).1 (relayAll t2 q (SetTable.grown q.size)).2.1
       pure (some true)
      else pure (some true)) (fun r s'=>r=some true/\∀b,Q b s') E s:=by
   intro g hg t2 hf2 hl2 hp2;refine Qaa (wpAny_storeSet_of ho hd ?_ (Qg5 (by lia)));obtain⟨ho1,hS1⟩:=xu (prog:=prog) (w:=w) ho hex hd hel1 hp1 hf2 hl2 (.inr hp2);have O:=Qb5 s.heap a (Obj.putSet q t2);split
   ·have F:=relayAll_perm t2 q (SetTable.grown q.size);have hfr:=relayAll_fits t2 q (SetTable.grown q.size);have hlr:=vo t2 q (SetTable.grown q.size);generalize relayAll t2 q (SetTable.grown q.size)=Rl at F hfr hlr ⊢;obtain⟨es2,t3,g2⟩:=Rl;have hz2:es2.size=q.size:=by rw[<-Qbj,F.length_eq,Qbj]
    refine Qaa (hg _ _ _ ?_);refine Qaa (wpAny_storeSet_of ho1 rfl ?_ (Qg5 (by lia)));obtain⟨_,hS2⟩:=xu (prog:=prog) (w:=w) ho1 hex rfl (hel1.perm F) ((F.map _).trans hp1) hfr (hlr.1.trans hl2) (.inr (hlr.2 hp2));exact Qae ⟨rfl,fun b=>h _ b (O.trans (Qb5 _ a _)) hS2⟩
   ·exact Qae ⟨rfl,fun b=>h _ b O hS1⟩
  split
  ·rename_i hpt;refine Qaa ?_;rw[hashByValue_scannable 8 rfl];refine Qae ?_;rw[show plainKind (Value.str x tk)=false from rfl];refine Qdi (key _ ?_ {t1 with plain:=false} (SetTable.fits_plain_off G) (I.1.trans hl) rfl) ?_ (fun _ _ e=>e)
   ·intro b C Y F;cases b<;>first|exact Qae F|exact Qdg F
   ·rintro r s' ⟨rfl,F⟩;exact Qae (F _)
  ·rename_i hpt;refine Qaa (Qae ?_);refine Qdi (key _ ?_ t1 G (I.1.trans hl) (by simpa using hpt)) ?_ (fun _ _ e=>e)
   ·intro b C Y F;cases b<;>first|exact Qae F|exact Qdg F
   ·rintro r s' ⟨rfl,F⟩;exact Qae (F _)
end
def XY(ys:Ai):Ai:=ys.foldl ins []
def jo(ys:Ai)(y:Str):XY (ys++[y])=ins (XY ys) y:=by simp[XY,Qc8]
def Zld(S:Ai)(x:Str):(ins S x).length<=S.length+1:=by unfold ins;split<;>simp
theorem XO(ys:Ai):∀i,(XY (ys.take i)).length<=i
 |0=>by simp[XY]
 |i+1=>by
  by_cases h:i<ys.length
  ·rw[Qg6,Qac h,Option.toList_some,jo];have:=XO ys i;have:=Zld (XY (ys.take i)) ys[i];lia
  ·rw[Qcz (by lia)];have:=XO ys i;rw[Qcz (by lia)]at this;lia
def GD{prog:Aq}{h':Heap}{led:Bool}{S:Ai}(C:qy prog w h a led S)(q:∀o,h.get? a=some o->h'.get? a=some o):qy prog w h' a led S:=by
 obtain⟨o,es,ep,t,ho,rest⟩:=C;exact⟨o,es,ep,t,q o ho,rest⟩
section
variable {prog:Aq}{w:Au}{A:Ar}{R:Result->Shared->Prop}{I:Aw}{fp wr:List Aw}{G:Array GenState->Array GenState->Prop}{n:Nat}{P:Nat->Value->Prop}{St:Nat->Shared->Prop}
theorem Zab(W:WalksS prog w A.in1 I fp wr G n P St)(S:Aw)(M:S∉fp){led:Bool}{ys:Ai}(hn:ys.length=n)
  (hval:∀i v,P i v->∃y t,ys[i]?=some y/\v=.str y t) (J:n+1<scanBound):
  ∀(k i:Nat) (s:As),n-i=k->i<=n->St i s->qy prog w s.heap S led (XY (ys.take i))->
   (∀s',Moved (S::wr) G s s'->qy prog w s'.heap S led (XY ys)->R (.ok (.ret .none)) s')->
   codeAny (model prog w) A (.builtin "set.update.loop" ⟨[.ref S,.ref I],[]⟩) R s:=by
 have hSw:S∉wr:=fun h=>M (W.sub _ h);have q:∀b∈wr,b∈S::wr:=fun b J=>Qal _ J;intro k
 induction k with
 |zero=>
  intro i s hk hi D hS hR;have hin:i=n:=by lia
  rw[hin,<-hn,Qb7]at hS;subst hin;refine Qdr F.entry_set_update_loop ?_;refine Qaa (W.done s _ _ D fun s' Z=>?_);exact Qae (hR s' (Z.mono q) (GD hS fun o ho=>Z.heap S _ hSw ho))
 |succ k ih=>
  intro i s hk hi D hS hR;have O:i<n:=by lia
  refine Qdr F.entry_set_update_loop ?_;refine Qaa (W.item i s _ _ O D fun v s' hP hst' Z=>?_);obtain⟨y,t,hy,rfl⟩:=hval i v hP;have hS':=GD hS fun o ho=>Z.heap S _ hSw ho;refine Qaa (Qb8 ?_);refine Qb8 ?_;refine Qaa ((PySem.strKind prog w).pyHash (k:=y) (by show Value.isStrOf y (.str y t)=true;simp[Value.isStrOf]) ?_);have C:(XY (ys.take i)).length+1<scanBound:=by have:=XO ys i;lia
  refine Zc7 (s:={s' with toks:=s'.toks+1}) hS' C fun h' b L hS2=>?_;rw[<-jo,show ys.take i++[y]=ys.take (i+1) by rw[Qg6,hy,Option.toList_some]]at hS2;refine Qae ⟨Qeh F.plain_set_update_loop _,ih (i+1) _ (by lia) O (W.frame _ s' _ _ hst' (Qet _) fun b J o e=>?_) hS2 fun s'' hm'' Y=>?_⟩
  ·rw[L.2 b (fun h:b=S=>M (by rw[<-h];exact J))];exact e
  ·refine hR s'' (Moved.trans W.gtrans ((Z.mono q).then_heap (Qet _) fun b o J e=>?_) hm'') Y;rw[L.2 b (fun h:b=S=>J (by rw[h];exact Qai))];exact e
end
section
variable {prog:Aq}{w:Au}{A:Ar}{E:Ab}{s:As}
def vp (w:Au):Bool:=w.params.followText "set-order"
def Yw (w:Au):Obj:={cls:=.type "set",dict:=none,data:=.set #[] 0 (.fresh 0 0 (!vp w))}
def kS(a:Av){Q₁:Ab}(h:Q₁ (.ref s.heap.objs.size) {s with heap:=s.heap.push (Yw w)}):
  codeAny (model prog w) A (.call (.builtin "set.__new__") ⟨[.type "set",a],[]⟩) (wants Q₁ E) s:=by
 refine codeAny_of_tree ?_;show wpAny _ A.in1 (do checkBuiltinCall "set.__new__" ⟨[.type "set",a],[]⟩;again (.builtin "set.__new__" ⟨[.type "set",a],[]⟩)) _ _ s;refine Qaa (Qcj (F.newCall_set_1 a) (Qae ⟨Qeh F.plain_set_new _,Qdr F.entry_set_new ?_⟩));rw[Qf5 F.plain_set_new _];unfold Builtin.«set.__new__» Builtin.Frozenset.newClass;have q:=sub_set_self;obtain⟨C,g,d,tk,os⟩:=s;dsimp only
 wp_walk
 refine Qhj (Qae ?_);dsimp only;simp only[newObj];refine Qaa (wpAny_alloc (Qae ?_));exact Qae h
theorem z8{l:Aw}{items:Ah}{ys:Ai}
  (hh:A.handled=none) (hl:s.heap.IsList l items) (hi:StrsAre items.toList ys) (hb:items.size+1<scanBound)
  (h:∀(h':Heap) (tk:Nat),s.toks<=tk->qy prog w h' s.heap.objs.size (!vp w) (XY ys)->
   (∀b o,b<s.heap.objs.size->s.heap.get? b=some o->h'.get? b=some o)->Q (.ref s.heap.objs.size) {s with heap:=h',toks:=tk}):
  wpAny (model prog w) A (call (.type "set") [.ref l]) Q E s:=by
 obtain⟨c,tl,hmro⟩:=Qew.mro;have hmade:=Qew.made;have hsub:=Qew.sub;refine wpAny_call (codeAny_of_tree ?_);show wpAny _ _ (callAny (.type "set") _) _ _ _;refine Qae ⟨Code.quiet_builtin _ (by decide +kernel),Qdr F.entry_type_call ?_⟩;rw[Around.under_plain (weight_type_call_type "set" [.ref l] []) rfl];have h1:=Qew.notType;have h2:=Qew.canCreate;have hct:=F.typeCall_set_1 (.ref l)
 repeat (any_goals (first|assumption|wp_step))
 refine Qfe (kS (.ref l) (E:=E) (Q₁:=fun obj D=>obj=.ref s.heap.objs.size/\D={s with heap:=s.heap.push (Yw w)}) ⟨rfl,rfl⟩) fun r D hr=>?_;cases r with
 |error e=>exact hr
 |ok fl=>
  cases fl with
  |ret obj=>
   obtain⟨rfl,rfl⟩:=hr;have hS:(s.heap.push (Yw w)).get? s.heap.objs.size=some (Yw w):=Qam _ rfl;have hT:Shared.TypeIs {s with heap:=s.heap.push (Yw w)} (.ref s.heap.objs.size) "set" :=⟨_,hS,rfl⟩;have hli:=Qew.init.lookup;have hbi:=Qew.init.bind (.ref s.heap.objs.size)
   repeat (any_goals (first|assumption|wp_step))
   refine Qfe (codeAny_call_builtin (R:=wants (fun r s₂=>r=.none/\∃h' tk,s.toks<=tk/\s₂={s with heap:=h',toks:=tk} /\
     qy prog w h' s.heap.objs.size (!vp w) (XY ys) /\
     (∀b o,b<s.heap.objs.size->s.heap.get? b=some o->h'.get? b=some o)) E) Qew.init.plain F.entry_set_init (check_set_init_1 hT ?_)) fun r₂ s₂ q=>?_
   ·obtain⟨ol,hol,O,nl,hdl⟩:=hl;obtain⟨ocls,G,odata,C⟩:=ol;simp only at O hdl;subst O;subst hdl;have hol':(s.heap.push (Yw w)).get? l=some {cls:=.type "list",dict:=G,data:=.seq items nl,slots:=C}:=Qad _ hol;have hsls:=F.sub_list_set;have hslf:=F.sub_list_frozenset;have hne:(Value.type "list" == Value.type "dict")=false:=by decide
    have Y:(s.heap.push (Yw w)).IsList l items:=⟨_,hol',rfl,nl,rfl⟩;unfold Builtin.«set.__init__» noKeywords Builtin.Frozenset.updateFrom;generalize hPI:pyIter=PI
    wp_walk
    subst hPI;refine Qe3 Y ?_;refine Qaa (wpAny_runValue ?_);have M:l<s.heap.objs.size:=Qaq hol;have hh3:A.in1.in1.in1.handled=none:=by simp[hh]
    have hneI:l≠(s.heap.push (Yw w)).objs.size:=by
     rw[Qb2];exact Qbf (Qdw M)
    have hSf:s.heap.objs.size∉[(s.heap.push (Yw w)).objs.size,l]:=by
     rw[Qb2];simp only[Qao,Qaw,Qba,Qdz,not_or];exact⟨Qbf (Qek _),Qed M⟩
    have Z:∀(i:Nat) (v:Av),items[i]?=some v->∃y t,ys[i]?=some y/\v=.str y t:=fun i v hv=>by
     rw[<-Qdq]at hv;obtain⟨y,t,e1,e2⟩:=StrsAre.item hi i v hv;exact⟨y,t,e2,e1⟩
    refine Zab ((Walks.list hh3 _ l hneI items).toS) s.heap.objs.size
     hSf (led:=!vp w) (ys:=ys) (by rw[<-Qbj];exact hi.length.symm) Z hb (items.size-0) 0 _ (by lia) (Qbt _)
     ⟨⟨_,Qam _ rfl,rfl,rfl⟩,(Y.push _)⟩ ?hS0 ?hR
    case hS0=>
     exact⟨Yw w,#[],0,.fresh 0 0 (!vp w),Qad _ hS,⟨rfl,rfl,rfl⟩,rfl,fun e he=>by simp at he,by simp[XY],rfl,rfl,.inl rfl⟩
    case hR=>
     intro s' hm J;have L:=hm.toks;obtain⟨h',g',d',tk',os'⟩:=s';have eg:g'=s.gens:=hm.gens;have ed:d'=s.drawn:=hm.drawn;have eo:os'=s.os:=hm.os;subst eg;subst ed;subst eo;show wpAny _ _ _ _ _ _;refine Qae ?_;show wpAny _ _ (ret Value.none) _ _ _;refine Qae ⟨rfl,h',tk',L,rfl,J,fun b o hb e=>?_⟩;have hb1:b≠s.heap.objs.size:=Qbf hb;have hb2:b≠(s.heap.push (Yw w)).objs.size:=by
      rw[Qb2];exact Qbf (Qdw hb)
     exact hm.heap b o (by simp only[Qao,Qaw,Qba,Qdz,not_or];exact⟨hb1,hb2⟩) (Qad _ (Qad _ e))
   ·cases r₂ with
    |error e=>exact q
    |ok I=>
     cases I with
     |ret r=>
      obtain⟨rfl,h',tk,L,rfl,J,hk'⟩:=q
      repeat (any_goals (first|assumption|wp_step))
      exact h _ _ L J hk'
     |_=>exact q.elim
  |_=>exact hr.elim
end
theorem Z6:Slot "set_iterator" "__next__" "set_iterator.__next__" :=
 .of (owner:= "set_iterator") (n:= "__next__") (by kernel_rfl) (by decide +kernel) (by decide +kernel) (by decide +kernel)
  (by first|exact .inl (by decide +kernel)|exact .inr (by decide +kernel)) (by kernel_rfl)
def YE:entryFor table "set_iterator.__next__" = some Builtin.«set_iterator.__next__»:=entryFor_of_tree (by kernel_rfl)
def owner_seti:Manifest.owners.lookup (String.ofList ['r','o','t','a','r','e','t','i','_','t','e','s'].reverse)=some Manifest.sig_set_iterator:=by kernel_rfl
def YY (a:Av):argsOk "set_iterator.__next__" ⟨[a],[]⟩:=by
 kernel_rfl
theorem z9:entryFor table "set.__iter__" = some Builtin.«frozenset.__iter__» :=
 entryFor_alias (id':= "frozenset.__iter__") (by kernel_rfl) rfl (by decide +kernel) (by kernel_rfl)
section
variable {prog:Aq}{w:Au}{A:Ar}{E:Ab}{s:As}
def Zac{q:Source}{Q:Nat->Shared->Prop}(C:n≠0)(h:∀i d,i<n->Q i {s with drawn:=d}):A3 prog w A (choose q n) Q E s:=by
 intro Γ p D;exact⟨C,h _ _ (Qem _ (Nat.pos_of_ne_zero C))⟩
theorem YF{α:Type}:∀(xs:List α) (i:Nat) (x:α),xs[i]?=some x->(x::xs.eraseIdx i).Perm xs
 |[],i,x,h=>by simp at h
 |y::ys,0,x,h=>by simp at h;subst h;exact .rfl
 |y::ys,i+1,x,h=>by
  exact(List.Perm.swap y x _).trans ((YF ys i x h).cons y)
theorem JV{α:Type}:∀(n:Nat) (xs:List α) (s:As) (Q:List α->Shared->Prop),xs.length<=n->(∀ys d,ys.Perm xs->Q ys {s with drawn:=d})->A3 prog w A (drawOrder n xs) Q E s
 |0,xs,s,Q,C,h=>by
  have:xs=[]:=Qco (by lia);subst this;exact Qae (h [] s.drawn .rfl)
 |n+1,[],s,Q,C,h=>by
  exact Qae (h [] s.drawn .rfl)
 |n+1,y::ys,s,Q,C,h=>by
  refine Qaa (Zac (by simp) fun i d hi=>?_);obtain⟨x,q⟩:∃x,(y::ys)[i]?=some x:=⟨_,Qac hi⟩;rw[q];refine Qaa (JV n ((y::ys).eraseIdx i) _ _ (by grind) fun zs d' D=>?_);exact Qae (h _ d' ((D.cons x).trans (YF _ i x q)))
end
theorem qi{α:Type}(next:Nat->Nat):∀(q k:Nat) (left:List α) (out:Array α),q=left.length->(pickOrder.go next q k left out).toList.Perm (out.toList++left)
 |0,k,left,out,h=>by
  have:left=[]:=Qco h.symm;subst this;unfold pickOrder.go;simp
 |q+1,k,left,out,h=>by
  unfold pickOrder.go;have hi:next k%left.length<left.length:=Qem _ (by lia);rw[Qac hi];refine(qi next q (k+1) _ _ (by grind)).trans ?_;rw[Qg4,Qcg];exact(YF left _ _ (Qac hi)).append_left _
def XQ(next:Nat->Nat)(xs:Array d):(pickOrder next xs).toList.Perm xs.toList:=by
 unfold pickOrder;simpa using qi next xs.size 0 xs.toList #[] (by simp)
def WS(h:Heap)(a:Aw)(es:Array (Int×Av))(ep:Nat)(t:SetTable):Prop:=∃o,h.get? a=some o/\o.ExactSet/\o.data=.set es ep t/\t.fits es.size=true
def Yx (h:Heap) (I a:Aw) (first:Av) (i n ep:Nat):Prop:=∃o,h.get? I=some o/\o.cls=.type "set_iterator" /\ o.data=.fields #[first,.int i 0,.ref a,.int n 0,.int ep 0]
section
variable {prog:Aq}{w:Au}{A:Ar}{E:Ab}{s:As}
def Yx.typeIs  {first:Av} {ep:Nat} (x:Yx s.heap f a first i n ep):s.TypeIs (.ref f) "set_iterator" :=let⟨o,ho,hc,_⟩:=x;⟨o,ho,hc⟩
def Yx.at{h':Heap}{first:Av}{ep:Nat}(x:Yx h f a first i n ep)(e:∀o,h.get? f=some o->h'.get? f=some o):Yx h' f a first i n ep:=let⟨o,ho,r⟩:=x;⟨o,e _ ho,r⟩
def WS.at{h':Heap}{es:Array (Int×Av)}{ep:Nat}{t:SetTable}(x:WS h a es ep t)(e:∀o,h.get? a=some o->h'.get? a=some o):WS h' a es ep t:=let⟨o,ho,r⟩:=x;⟨o,e _ ho,r⟩
def Xj{Q:Bool->Shared->Prop}(h:Q (vp w) s):A3 prog w A setsByText Q E s:=Qaa (Qhj (Qae h))
def qj{es:Array (Int×Av)}{ep:Nat}{t:SetTable}{given:Nat}{Q:Option (Av×Nat)->Shared->Prop}(q:vp w=true)(hs:WS s.heap a es ep t)
  (h:Q (((pickOrder (w.params.setOrder a ep) es)[given]?).map fun e=>(e.2,0)) s):A3 prog w A (setNext a 0 given ep) Q E s:=by
 obtain⟨o,ho,F,C,D⟩:=hs;refine Qaa (Qd9 ho C D ?_);refine Qaa (Xj ?_);rw[q];simp only[↓reduceIte,Qdx,Qck];refine Qaa (Qaa (Qd9 ho C D ?_));refine Qaa (Xj ?_);rw[q];refine Qaa (Qhj (Qae ?_));exact Qae h
def JW{es:Array (Int×Av)}{ep:Nat}{t:SetTable}{given:Nat}{Q:Option (Av×Nat)->Shared->Prop}(C:vp w=false)(hs:WS s.heap a es ep t)(F:t.led=true)(J:es.size<=1)
  (h:Q (match es[SetTable.below t.place i]?,t.place[SetTable.below t.place i]? with|some (_,x),some j=>some (x,j+1)|_,_=>none) s):A3 prog w A (setNext a i given ep) Q E s:=by
 obtain⟨o,ho,I,D,G⟩:=hs;refine Qaa (Qd9 ho D G ?_);refine Qaa (Xj ?_);rw[C];have q:decide (es.size>1)=false:=by simp;lia
 show wpAny _ _ (if(!t.plain&&decide (es.size>1))=true then _ else _) _ _ _;rw[q,Qgz];refine Qaa (m:=(if(!t.led && !es.isEmpty)=true then unsupported "set:maker-not-led" else pure ())) ?_;rw[F];exact Qae (Qae h)
def ya{es:Array (Int×Av)}{ep:Nat}{t:SetTable}{e:Int×Av}(hs:WS s.heap a es ep t)(F:es[i]?=some e)
  (h:Q e.2 s):A3 prog w A (setNextDrawn a i ep) Q E s:=by
 obtain⟨o,ho,D,q,C⟩:=hs;refine Qaa (Qd9 ho q C ?_);simp only[Qdx,Qck,↓reduceIte];rw[F];exact Qae h
def Zad{first:Av}{ep:Nat}(x:Yx s.heap f a first i n ep):
  Yx ((s.heap.update f (Obj.mapFields (·.setIfInBounds 0 v))).update f (Obj.mapFields (·.setIfInBounds 1 (.int L 0)))) f a v L n ep:=by
 obtain⟨o,ho,D,C⟩:=x;have h1:=Qbr (Obj.mapFields (·.setIfInBounds 0 v)) ho (Qct (Qbv C _));have q:=Qbv C (·.setIfInBounds 0 v);refine⟨_,Qbr _ h1 (Qct (Qbv q _)),(Qe4 ..).trans ((Qe4 ..).trans D),?_⟩;rw[Qbv q];simp
def vq{es:Array (Int×Av)}{ep:Nat}{t:SetTable}{x:Av}{nx:Nat}{Q:Aa}(q:Yx s.heap f a (.int n 0) i es.size ep)(hs:WS s.heap a es ep t)
  (O:∀(G:Option (Av×Nat)->Shared->Prop) (L:Ab),G (some (x,nx)) s->A3 prog w A.in1 (setNext a n i ep) G L s)
  (I:∀h',Yx h' f a (.int nx 0) (i+1) es.size ep->Heap.SameBut f s.heap h'->Q (some x) {s with heap:=h'}):A3 prog w A (pyNext (.ref f)) Q E s:=by
 obtain⟨o,ho,Y,C⟩:=id q;obtain⟨os,F,J,D,M⟩:=id hs;refine Qaa (Qdk (wpAny_callSpecial?_slot (name:=Str.ofString "__next__") q.typeIs Z6
  (Qbe Z6 q.typeIs YE ?_ (YY _))))
 refine Qaa (Qae ?_);refine Qaa (Qg1 ho C ?_);refine Qaa (Qei F D M ?_);simp only[Qdx,Qck,↓reduceIte];refine Qaa (O _ _ ?_);refine Qaa (Qdc ho C (by simp) ?_);have h1:=Qbr (Obj.mapFields (·.setIfInBounds 0 (rawInt (nx:Int)))) ho (Qct (Qbv C _));refine Qaa (Qdc (s:={s with heap:=s.heap.update f (Obj.mapFields (·.setIfInBounds 0 (rawInt (nx:Int))))}) h1 (Qbv C _) (by simp) ?_);exact Qae ⟨_,rfl,Qae (I _ (Zad q) ((Qb5 ..).trans (Qb5 ..)))⟩
def gJ{es:Array (Int×Av)}{ep:Nat}{t:SetTable}{Q:Aa}(hh:A.handled=none)(q:Yx s.heap f a (.int n 0) i es.size ep)(hs:WS s.heap a es ep t)
  (O:∀(G:Option (Av×Nat)->Shared->Prop) (L:Ab),G none s->A3 prog w A.in1 (setNext a n i ep) G L s)
  (I:∀h',Heap.ExtBut f s.heap h'->Q none {s with heap:=h'}):A3 prog w A (pyNext (.ref f)) Q E s:=by
 obtain⟨o,ho,Y,F⟩:=id q;obtain⟨os,D,J,C,M⟩:=id hs;refine Qaa (Qdk (wpAny_callSpecial?_slot (name:=Str.ofString "__next__") q.typeIs Z6
  (Qbe Z6 q.typeIs YE ?_ (YY _))))
 refine Qaa (Qae ?_);refine Qaa (Qg1 ho F ?_);refine Qaa (Qei D C M ?_);simp only[Qdx,Qck,↓reduceIte];refine Qaa (O _ _ ?_);refine Qaa (Qdc ho F (by simp) ?_);refine Qaa ?_;refine Qaa (Qbd ?_ (by size_fits));refine Qaa (m:=firstArgMember _ _) (Qcj (a:=Value.none) (by first|rfl|(rfl)) ?_);refine Qbd ?_ (by size_fits);refine Qaa (Qhc ?_);rw[show A.in1.handled=none from hh];refine Qaa (Qae (Qhx ?_));refine Qaa (Qdh (T:= "StopIteration") (b:=true) ⟨_,Qam _ rfl,rfl⟩ Qfy ?_);exact Qae (I _ (((Qb5 ..).extBut.push _).push _))
def Zae{p:Aw}{es:Array (Int×Av)}{ep:Nat}{t:SetTable}{ps:Aj}{pl:Nat}{e:Int×Av}{I:Obj}{Q:Aa}(q:Yx s.heap f a (.ref p) i es.size ep)(hs:WS s.heap a es ep t)
  (J:s.heap.get? p=some I) (G:I.data=.seq (ps.map fun(k:Nat)=>rawInt k).toArray n) (hi:ps[i]?=some pl) (Z:es[pl]?=some e)
  (L:∀h',Yx h' f a (.ref p) (i+1) es.size ep->Heap.SameBut f s.heap h'->Q (some e.2) {s with heap:=h'}):A3 prog w A (pyNext (.ref f)) Q E s:=by
 obtain⟨o,ho,O,C⟩:=id q;obtain⟨os,F,M,D,Y⟩:=id hs;refine Qaa (Qdk (wpAny_callSpecial?_slot (name:=Str.ofString "__next__") q.typeIs Z6
  (Qbe Z6 q.typeIs YE ?_ (YY _))))
 refine Qaa (Qae ?_);refine Qaa (Qg1 ho C ?_);refine Qaa (Qei F D Y ?_);simp only[Qdx,Qck,↓reduceIte];refine Qaa (Qci J G ?_);dsimp only;rw[show((ps.map fun(k:Nat)=>rawInt k).toArray)[(i:Int).toNat]?=some (rawInt pl) by simp[hi]];simp only[rawInt,Qbn];refine Qaa (ya hs Z ?_);refine Qaa (Qdc ho C (by simp) ?_);refine Qae ⟨_,rfl,Qae (L _ ⟨_,Qbr _ ho (Qct (Qbv C _)),(Qe4 ..).trans O,?_⟩ (Qb5 ..))⟩;rw[Qbv C];simp
def Zc8{p:Aw}{es:Array (Int×Av)}{ep:Nat}{t:SetTable}{ps:Aj}{I:Obj}{Q:Aa}(hh:A.handled=none)(q:Yx s.heap f a (.ref p) i es.size ep)(hs:WS s.heap a es ep t)
  (J:s.heap.get? p=some I) (G:I.data=.seq (ps.map fun(k:Nat)=>rawInt k).toArray n) (hi:ps[i]?=none)
  (L:∀h',Heap.ExtBut f s.heap h'->Q none {s with heap:=h'}):A3 prog w A (pyNext (.ref f)) Q E s:=by
 obtain⟨o,ho,Y,C⟩:=id q;obtain⟨os,F,M,D,O⟩:=id hs;refine Qaa (Qdk (wpAny_callSpecial?_slot (name:=Str.ofString "__next__") q.typeIs Z6
  (Qbe Z6 q.typeIs YE ?_ (YY _))))
 refine Qaa (Qae ?_);refine Qaa (Qg1 ho C ?_);refine Qaa (Qei F D O ?_);simp only[Qdx,Qck,↓reduceIte];refine Qaa (Qci J G ?_);dsimp only;rw[show((ps.map fun(k:Nat)=>rawInt k).toArray)[(i:Int).toNat]?=none by simp;simpa using hi];refine Qaa (Qdc ho C (by simp) ?_);have h1:=Qbr (Obj.mapFields (·.setIfInBounds 0 (rawInt 0))) ho (Qct (Qbv C _));refine Qaa (Qdc (s:={s with heap:=s.heap.update f (Obj.mapFields (·.setIfInBounds 0 (rawInt 0)))}) h1 (Qbv C _) (by simp) ?_);refine Qaa ?_;refine Qaa (Qbd ?_ (by size_fits));refine Qaa (m:=firstArgMember _ _) (Qcj (a:=Value.none) (by first|rfl|(rfl)) ?_);refine Qbd ?_ (by size_fits);refine Qaa (Qhc ?_);rw[show A.in1.handled=none from hh];refine Qaa (Qae (Qhx ?_));refine Qaa (Qdh (T:= "StopIteration") (b:=true) ⟨_,Qam _ rfl,rfl⟩ Qfy ?_);exact Qae (L _ ((((Qb5 ..).trans (Qb5 ..)).extBut.push _).push _))
end
theorem Jz:Slot "set_iterator" "__iter__" "set_iterator.__iter__" :=
 .of (owner:= "set_iterator") (n:= "__iter__") (by kernel_rfl) (by decide +kernel) (by decide +kernel) (by decide +kernel)
  (by first|exact .inl (by decide +kernel)|exact .inr (by decide +kernel)) (by kernel_rfl)
theorem xw:entryFor table "set_iterator.__iter__" = some Builtin.«dict_keyiterator.__iter__» :=
 entryFor_alias (id':= "dict_keyiterator.__iter__") (by kernel_rfl) rfl (by decide +kernel) (by kernel_rfl)
def zA (a:Av):argsOk "set_iterator.__iter__" ⟨[a],[]⟩:=by
 kernel_rfl
section
variable {prog:Aq}{w:Au}{A:Ar}{E:Ab}{s:As}
def xx{first:Av}{ep:Nat}(q:Yx s.heap f a first i n ep)(h:Q (.ref f) s):A3 prog w A (pyIter (.ref f)) Q E s:=by
 refine Qfw q.typeIs Jz (Qbe Jz q.typeIs xw ?_ (zA _));exact Qae ⟨_,rfl,"set_iterator",_,q.typeIs,Z6.lookup,h⟩
def Txs(q:List (Int×Av))(i:Nat)(v:Av):Prop:=∃e,q[i]?=some e/\v=e.2
def Zaf{es:Array (Int×Av)}{ep:Nat}{t:SetTable}(C:vp w=true)(hh:A.handled=none)(J:a≠f):
  Walks prog w A f [f,a] [f] es.size (Txs (pickOrder (w.params.setOrder a ep) es).toList) (fun i h=>Yx h f a (.int (0:Nat) 0) i es.size ep/\WS h a es ep t)where
 sub:=fun b C=>by simp at C;simp[C]
 frame:=fun _ _ _ st L=>⟨st.1.at fun o e=>L f (by simp) o e,st.2.at fun o e=>L a (by simp) o e⟩
 item:=fun i s Q E hi st D=>by
  have hsz:(pickOrder (w.params.setOrder a ep) es).size=es.size:=by simpa using (XQ (w.params.setOrder a ep) es).length_eq
  obtain⟨e,M⟩:∃e,(pickOrder (w.params.setOrder a ep) es)[i]?=some e:=⟨_,Qdl (by lia)⟩;refine vq st.1 st.2 (x:=e.2) (nx:=0) (fun O Y q=>qj C st.2 (by rw[M];exact q)) fun h' G F=>?_;exact D e.2 h' s.toks ⟨e,by simpa using M,rfl⟩ ⟨G,st.2.at fun o e=>F.extBut a o J e⟩ fun b o C e=>F.extBut b o (fun h=>C (by simp[h])) e
 done:=fun s Q E st D=>by
  have hsz:(pickOrder (w.params.setOrder a ep) es).size=es.size:=by simpa using (XQ (w.params.setOrder a ep) es).length_eq
  exact gJ hh st.1 st.2 (fun O Y q=>qj C st.2 (by grind)) fun h' I=>D h' s.toks fun b o C e=>I b o (fun h=>C (by simp[h])) e
 self:=fun _ _ _ _ st D=>xx st.1 D
theorem kT{p:Aw}{es:Array (Int×Av)}{ep:Nat}{t:SetTable}{ps:Aj}(D:ps.Perm (List.range es.size))(hh:A.handled=none)(hne:a≠f)(Y:p≠f):
  Walks prog w A f [f,a,p] [f] es.size (Txs (ps.filterMap (es[·]?))) (fun i h=>Yx h f a (.ref p) i es.size ep/\WS h a es ep t/\∃F np,h.get? p=some F/\F.data=.seq (ps.map fun(k:Nat)=>rawInt k).toArray np)where
 sub:=fun b M=>by simp at M;simp[M]
 frame:=fun _ _ _ st C=>⟨st.1.at fun o e=>C f (by simp) o e,st.2.1.at fun o e=>C a (by simp) o e,let⟨F,np,h1,h2⟩:=st.2.2;⟨F,np,C p (by simp) F h1,h2⟩⟩
 item:=fun i s Q E hi st L=>by
  obtain⟨F,np,h1,h2⟩:=st.2.2;have G:ps.length=es.size:=by simpa using D.length_eq
  have q:∀k∈ps,k<es.size:=fun k C=>by simpa using D.mem_iff.mp C
  have I:ps[i]?=some (ps[i]'(by lia)):=Qac _;have C:ps[i]'(by lia)<es.size:=q _ (Qbs _);have hfm:ps.filterMap (es[·]?)=ps.map (fun k=>es.getD k (0,.none)):=by
   clear I D G C hi h1 h2 st L
   induction ps with
   |nil=>rfl
   |cons k ks ih=>
    have:=q k (by simp);rw[List.filterMap_cons_some (b:=es.getD k (0,.none)) (by simp[Array.getD,this]),ih fun k C=>q k (by simp[C]),Qbx]
  refine Zae st.1 st.2.1 h1 h2 I (Qdl C) fun h' O J=>?_;refine L _ h' s.toks ⟨_,?_,rfl⟩ ⟨O,st.2.1.at fun o e=>J.extBut a o hne e,F,np,J.extBut p F Y h1,h2⟩ fun b o M e=>J.extBut b o (fun h=>M (by simp[h])) e;rw[hfm,Qah,I];simp[Array.getD,C]
 done:=fun s Q E st L=>by
  obtain⟨F,np,h1,h2⟩:=st.2.2;have G:ps.length=es.size:=by simpa using D.length_eq
  exact Zc8 hh st.1 st.2.1 h1 h2 (by simp;lia) fun h' Z=>L h' s.toks fun b o M e=>Z b o (fun h=>M (by simp[h])) e
 self:=fun _ _ _ _ st L=>xx st.1 L
def vt(j:Nat):SetTable.below #[j] 0=0/\SetTable.below #[j] (j+1)=1:=by
 constructor<;>simp[SetTable.below,SetTable.below.go]
def kU{es:Array (Int×Av)}{ep:Nat}{t:SetTable}(D:vp w=false)(hl:t.led=true)(hz:es.size<=1)(hh:A.handled=none)(Z:a≠f):
  Walks prog w A f [f,a] [f] es.size (Txs es.toList) (fun i h=>∃C:Nat,(i=0->C=0)/\(i=1->∃j,t.place=#[j]/\C=j+1)/\Yx h f a (.int C 0) i es.size ep/\WS h a es ep t)where
 sub:=fun b D=>by simp at D;simp[D]
 frame:=fun _ _ _ st hk=>by
  obtain⟨C,I,L,h1,h2⟩:=st;exact⟨C,I,L,h1.at fun o e=>hk f (by simp) o e,h2.at fun o e=>hk a (by simp) o e⟩
 item:=fun i s Q E hi st F=>by
  obtain⟨C,I,L,h1,h2⟩:=st;have Y:i=0:=by lia
  subst Y;obtain rfl:=I rfl;have hps:t.place.size=1:=by
   obtain⟨o,ho,hex,hd,hf⟩:=h2;simp only[SetTable.fits,Qb4,beq_iff_eq,Qg7]at hf;lia
  obtain⟨j,M⟩:∃j,t.place=#[j]:=⟨t.place[0],by grind⟩;obtain⟨e,he⟩:∃e,es[0]?=some e:=⟨_,Qdl (by lia)⟩;refine vq h1 h2 (x:=e.2) (nx:=j+1) (fun Q' E' q=>JW D h2 hl hz (by rw[M,(vt j).1,he];exact q)) fun h' G J=>?_;exact F e.2 h' s.toks ⟨e,by simpa using he,rfl⟩ ⟨j+1,fun z=>absurd z (by lia),fun _=>⟨j,M,rfl⟩,G,h2.at fun o e=>J.extBut a o Z e⟩ fun b o D e=>J.extBut b o (fun h=>D (by simp[h])) e
 done:=fun s Q E st F=>by
  obtain⟨C,I,L,h1,h2⟩:=st;refine gJ hh h1 h2 (fun Q' E' q=>JW D h2 hl hz ?_) fun h' O=>F h' s.toks fun b o D e=>O b o (fun h=>D (by simp[h])) e
  by_cases h0:es.size=0
  ·grind
  ·obtain⟨j,M,rfl⟩:=L (by lia);rw[M,(vt j).2,Array.getElem?_eq_none (by lia)];exact q
 self:=fun _ _ _ _ st F=>by
  obtain⟨C,I,L,h1,h2⟩:=st;exact xx h1 F
def kW{es:Array (Int×Av)}{ep:Nat}{t:SetTable}{Q:Bool->Shared->Prop}(hs:WS s.heap a es ep t)(h:Q (!vp w&&(!t.plain&&decide (es.size>1))) s):A3 prog w A (setDrawn a) Q E s:=by
 obtain⟨o,ho,D,q,C⟩:=hs;refine Qaa (Qd9 ho q C ?_);refine Qaa (Xj ?_);exact Qae h
structure SetW(prog:Aq)(w:Au)(h h':Heap)(I a:Aw)(es:Array (Int×Av))(ord:List (Int×Av))(fp:List Aw)(St:Nat->Heap->Prop):Prop where
 old:∀b o,h.get? b=some o->h'.get? b=some o
 new:h.objs.size<=I
 perm:ord.Perm es.toList
 lt:∀b∈fp,b<h'.objs.size
 mem:I∈fp
 st:St 0 h'
 walks:∀A:Ar,A.handled=none->Walks prog w A I fp [I] es.size (Txs ord) St
 apart:∀b∈fp,b=a\/h.objs.size<=b
def Zgo{es:Array (Int×Av)}{ep:Nat}{t:SetTable}(hs:WS s.heap a es ep t)(hl:t.led=!vp w)(hp:es.size=0\/t.plain=false)(hz:es.size<=sizeLine)
  (Y:∀h' d I ord fp St,SetW prog w s.heap h' I a es ord fp St->Q (.ref I) {s with heap:=h',drawn:=d}):A3 prog w A (pyIter (.ref a)) Q E s:=by
 obtain⟨o,ho,hex,O,M⟩:=id hs;have hT:s.TypeIs (.ref a) "set" :=⟨o,ho,hex.1⟩;have J:=Qaq ho;refine Qfw hT F.slot_set_iter (Qbe F.slot_set_iter hT z9 ?_ (F.args_set_iter_1 _));unfold Builtin.«frozenset.__iter__» Builtin.Frozenset.slot0 slotArgs;simp only[List.isEmpty_nil,Bool.not_true,Qck,↓reduceIte,bind_assoc,Qeu,Qdx];refine Qaa (Qae ?_);refine Qaa (Qae ?_);refine Qaa (Qaa (Qei ho O M (Qae ?_)));refine Qaa (kW hs ?_);cases hb:vp w with
 |true=>
  refine Qaa (Qae ?_);refine Qaa (Qg8 ho O M ?_);have D:(s.heap.push {cls:=.type "set_iterator",data:=.fields #[rawInt 0,rawInt 0,.ref a,rawInt es.size,rawInt ep]}).get? s.heap.objs.size=some {cls:=.type "set_iterator",data:=.fields #[rawInt 0,rawInt 0,.ref a,rawInt es.size,rawInt ep]}:=Qam _ rfl;refine Qaa (Qbd (Qae ⟨_,rfl,"set_iterator",_,⟨_,D,rfl⟩,Z6.lookup,?_⟩));refine Y _ s.drawn s.heap.objs.size _ _ _ ⟨fun b o e=>Qad _ e,Qaj _,XQ (w.params.setOrder a ep) es,fun b q=>?_,Qai,⟨⟨_,D,rfl,rfl⟩,hs.at fun o e=>Qad _ e⟩,fun A' hh=>Zaf hb hh (Qbf J),fun b q=>(Qao.mp q).elim (fun e=>.inr (e ▸ Qaj _)) fun q=>.inl (Qaw.mp q)⟩;rw[Qb2];rcases Qao.mp q with rfl|q
  ·exact Qek _
  ·grind
 |false=>
  rw[hb]at hl
  by_cases hd1:es.size>1
  ·have hpl:t.plain=false:=hp.resolve_left (by lia);rw[hpl,Qan hd1];refine Qaa (JV _ _ _ _ (Qhl Qbb) fun ps d G=>?_);have hpn:ps.length=es.size:=by simpa using G.length_eq
   refine Qaa (Qg0 ?_ (by rw[Qab];lia));refine Qaa (Qg8 (Qad _ ho) O M ?_);generalize hH:s.heap.push {cls:=.type "tuple",data:=.seq (ps.map fun(i:Nat)=>rawInt i).toArray}=H;have L:H.objs.size=s.heap.objs.size+1:=by rw[<-hH,Qb2]
   have C:∀b o,s.heap.get? b=some o->H.get? b=some o:=fun b o e=>hH ▸ Qad _ e;have htp:H.get? s.heap.objs.size=some {cls:=.type "tuple",data:=.seq (ps.map fun(i:Nat)=>rawInt i).toArray}:=hH ▸ Qam _ rfl;have D:(H.push {cls:=.type "set_iterator",data:=.fields #[.ref s.heap.objs.size,rawInt 0,.ref a,rawInt es.size,rawInt ep]}).get? H.objs.size=some {cls:=.type "set_iterator",data:=.fields #[.ref s.heap.objs.size,rawInt 0,.ref a,rawInt es.size,rawInt ep]}:=Qam _ rfl;refine Qaa (Qbd (s:={s with heap:=H,drawn:=d}) (Qae ⟨_,rfl,"set_iterator",_,⟨_,D,rfl⟩,Z6.lookup,?_⟩));refine Y _ d H.objs.size _ _ _ ⟨fun b o e=>Qad _ (C b o e),by rw[L];exact Qet _,?_,fun b q=>?_,Qai,⟨⟨_,D,rfl,rfl⟩,hs.at fun o e=>Qad _ (C a o e),_,_,Qad _ htp,rfl⟩,fun A' hh=>kT (p:=s.heap.objs.size) G hh (fun e=>by grind) (fun e=>by grind),fun b q=>(Qao.mp q).elim (fun e=>.inr (by rw[e,L];exact Qet _)) fun q=>(Qao.mp q).elim .inl fun q=>.inr (by grind)⟩
   ·exact(G.filterMap _).trans (by rw[filterMap_getElem?_range])
   ·rw[Qb2];rcases Qao.mp q with rfl|q
    ·exact Qek _
    ·grind
  ·have Z:decide (es.size>1)=false:=by simp;lia
   rw[Z,Qgz];refine Qaa (Qae ?_);refine Qaa (Qg8 ho O M ?_);have D:(s.heap.push {cls:=.type "set_iterator",data:=.fields #[rawInt 0,rawInt 0,.ref a,rawInt es.size,rawInt ep]}).get? s.heap.objs.size=some {cls:=.type "set_iterator",data:=.fields #[rawInt 0,rawInt 0,.ref a,rawInt es.size,rawInt ep]}:=Qam _ rfl;refine Qaa (Qbd (Qae ⟨_,rfl,"set_iterator",_,⟨_,D,rfl⟩,Z6.lookup,?_⟩));refine Y _ s.drawn s.heap.objs.size _ _ _ ⟨fun b o e=>Qad _ e,Qaj _,.rfl,fun b q=>?_,Qai,⟨0,fun _=>rfl,fun z=>absurd z (by lia),⟨_,D,rfl,rfl⟩,hs.at fun o e=>Qad _ e⟩,fun A' hh=>kU hb (by simpa using hl) (by lia) hh (Qbf J),fun b q=>(Qao.mp q).elim (fun e=>.inr (e ▸ Qaj _)) fun q=>.inl (Qaw.mp q)⟩;rw[Qb2];rcases Qao.mp q with rfl|q
   ·exact Qek _
   ·grind
def kX{es:Array (Int×Av)}{ep:Nat}{t:SetTable}{Q:Ag->Shared->Prop}(hh:A.handled=none)(hs:WS s.heap a es ep t)(hl:t.led=!vp w)(hp:es.size=0\/t.plain=false)(hz:es.size<=sizeLine)
  (hQ:∀(h':Heap) (d:Drawn) (tk:Nat) (C:List (Int×Av)),(∀b o,s.heap.get? b=some o->h'.get? b=some o)->s.heap.objs.size<=h'.objs.size->C.Perm es.toList->Q (C.map (·.2)) {s with heap:=h',drawn:=d,toks:=tk}):A3 prog w A (collect (.ref a)) Q E s:=by
 obtain⟨o,ho,hex,hd,hf⟩:=id hs;have hlt:=Qaq ho;unfold collect;refine Qaa (wpAny_runValue (Qdr F.entry_proto_collect ?_));rw[Qf5 F.plain_proto_collect _];show wpAny _ A.in1 (newList [] >>= fun l=>again (.builtin "list.__iadd__" ⟨[l,.ref a],[]⟩)) _ _ s;refine Qaa (Qbd ?_);refine Qae ⟨Qeh F.plain_list_iadd _,Qdr F.entry_list_iadd ?_⟩;rw[Qf5 F.plain_list_iadd _];generalize hH:s.heap.push {cls:=.type "list",data:=.seq ([]:Ag).toArray}=H;have hHs:H.objs.size=s.heap.objs.size+1:=by rw[<-hH,Qb2]
 have q:∀b o,s.heap.get? b=some o->H.get? b=some o:=fun b o e=>hH ▸ Qad _ e;have hS:H.get? s.heap.objs.size=some {cls:=.type "list",data:=.seq ([]:Ag).toArray}:=hH ▸ Qam _ rfl;have hs1:WS H a es ep t:=hs.at fun o e=>q a o e;have hT:Shared.TypeIs {s with heap:=H} (.ref a) "set" :=⟨o,q a o ho,hex.1⟩;show wpAny _ A.in1 (Builtin.List.listExtendWith (.ref s.heap.objs.size) (.ref a) (.ref s.heap.objs.size)) _ _ _;unfold Builtin.List.listExtendWith;refine Qaa (Qf0 hT ?_);have h1:Builtin.List.listSameRef (.ref s.heap.objs.size) (.ref a)=false:=by simp[Builtin.List.listSameRef];exact Qed hlt
 have h2:(Value.type "set" == Value.type "list")=false:=by decide
 have h3:(Value.type "set" == Value.type "tuple")=false:=by decide
 simp only[h1,h2,h3,Bool.or_false,Qck,if_false];refine Qaa (Zgo (s:={s with heap:=H}) hs1 hl hp hz fun h1 d I C fp St W=>?_);refine Qaa (Qb8 ?_);unfold Builtin.List.listLengthHint;have M:Shared.TypeIs {s with heap:=h1,drawn:=d} (.ref a) "set" :=⟨o,W.old a o (q a o ho),hex.1⟩;refine Qaa (Qd8 M F.slot_set_len.lookup ?_)
 wp_delta
 refine Qaa (Qdh (b:=true) M (by rw[isSubtype_type];kernel_rfl) ?_);show wpAny _ A.in1 (typeOf (Value.ref a) >>= _) _ _ _;refine Qaa (Qf0 M ?_);refine Qae ?_;show wpAny _ A.in1 (rule "list.extend.makes-room" >>= fun _=>Builtin.List.listTouch (.ref s.heap.objs.size) >>= fun _=>
  again (.builtin "list.extend.loop" ⟨[.ref s.heap.objs.size,.ref I,.ref s.heap.objs.size],[]⟩)) _ _ _
 refine Qaa (Qdg ?_);have Z:s.heap.objs.size∉fp:=fun O=>by
  rcases W.apart _ O with e|e
  ·exact absurd hlt (e ▸ Qce _)
  ·exact absurd e (by show¬H.objs.size<=_;rw[hHs];exact Nat.not_succ_le_self _)
 have hS1:=W.old _ _ hS;refine Qaa ?_;show wpAny _ A.in1 (updateSeq s.heap.objs.size (·.push .none) >>= fun _=>updateSeq s.heap.objs.size (·.pop)) _ _ _;refine Qaa (Qfo (s:={s with heap:=h1,drawn:=d}) hS1 rfl ?_);have hS2:=Qbr (Obj.mapSeq (·.push Value.none)) hS1 rfl;refine Qfo (s:={s with heap:=h1.update s.heap.objs.size (Obj.mapSeq (·.push Value.none)),drawn:=d}) hS2 rfl ?_;have hS3:=Qbr (Obj.mapSeq (·.pop)) hS2 rfl;have oth:∀b o,b≠s.heap.objs.size->h1.get? b=some o->
   ((h1.update s.heap.objs.size (Obj.mapSeq (·.push Value.none))).update s.heap.objs.size (Obj.mapSeq (·.pop))).get? b=some o:=
  fun b o Y e=>(Qb1 _ _ (Qd3 Y)).trans ((Qb1 _ _ (Qd3 Y)).trans e)
 refine Qae ⟨Qeh F.plain_extend_loop _,codeAny_extend_loopS (W.walks A.in1 hh).toS hz _ Z _ es.size 0 _ _ _ rfl (Qbt _)
  ((W.walks A hh).frame 0 _ _ W.st fun b Y o e=>oth b o (fun h=>Z (h ▸ Y)) e) hS3 (ItemsOf.nil _) fun s' J c' O hS' G=>?_⟩
 show wpAny _ A (load s.heap.objs.size >>= _) _ _ s';refine Qaa (wpAny_load hS' ?_);have L:J.toList=C.map (·.2):=by
  have hol:C.length=es.size:=by simpa using W.perm.length_eq
  apply List.ext_getElem
  ·rw[Qab,Qbj,G.1,hol]
  ·intro i i1 i2;rw[Qbj]at i1;obtain⟨e,he,hv⟩:=G.2 i J[i] (Qdl i1);rw[Array.getElem_toList,hv,List.getElem_map];rw[Qab]at i2;rw[Qac i2]at he;rw[Option.some.inj he]
 have eg:s'.gens=s.gens:=O.gens;have ed:s'.drawn=d:=O.drawn;have eo:s'.os=s.os:=O.os;refine Qae ?_;have:=hQ s'.heap s'.drawn s'.toks C (fun b ob e=>?_) ?_ W.perm
 ·rw[<-L,<-eg,<-eo]at this;exact this
 ·have D:=Qaq e;refine O.heap b ob (fun Y=>?_) (oth b ob (Qbf D) (W.old b ob (q b ob e)));rcases Qao.mp Y with h|h
  ·exact absurd D (h ▸ Qce _)
  ·rw[Qaw.mp h]at D;have:=W.new;exact absurd D (Qg9.mpr (Qbc (by rw[hHs];exact Qet _) this))
 ·exact Qav (Qaq hS')
theorem JX:∀{l:List (Int×Av)},ElemsOf (PySem.strKind prog w) l->StrsAre (l.map (·.2)) (l.map fun e=>tx e.2)
 |[],_=>.nil
 |e::l,h=>by
  obtain⟨_,t,q⟩:=gI h (Qai);rw[Qbx,Qbx,q];exact .cons _ t (JX h.tail)
def Zag{led:Bool}{S:Ai}(hh:A.handled=none)(hS:qy prog w s.heap a (!vp w) S)(h64:S.length<64)
  (h:∀(h':Heap) (d:Drawn) (tk:Nat) (l:Aw) (out:Ah) (L:Ai) (e:Nat),StrsAre out.toList L->L.Perm S->sortedS L=true->(∀b o,s.heap.get? b=some o->h'.get? b=some o)->s.heap.objs.size<=l->
   h'.get? l=some (seqObj "list" out e)->Q (.ref l) {s with heap:=h',drawn:=d,toks:=tk}):
  A3 prog w A (call (.builtin "sorted") [.ref a]) Q E s:=by
 obtain⟨o,es,ep,t,ho,M,hd,hel,hp,hf,hl,Y⟩:=hS;have hn:es.size=S.length:=by rw[<-hp.length_eq,Qab,Qbj]
 refine Qfb kind_sorted plain_sorted entry_sorted (args_sorted1 _) ?_;refine Qaa (m:=checkCount "sorted" 1 1 _) (Qae ?_);refine Qaa (kX (A:=A.in1) hh ⟨o,ho,M,hd,hf⟩ hl Y (Qg5 (by unfold scanBound;lia)) fun h1 d tk C J hsz q=>?_);have I:(C.map (·.2)).length<64:=by rw[Qab,q.length_eq,Qbj];lia
 have D:StrsAre (C.map (·.2)) (C.map fun e=>tx e.2):=JX (hel.perm q);have Z:(C.map fun e=>tx e.2).Perm S:=(q.map _).trans hp;generalize hV:C.map (·.2)=vs at I D ⊢;refine Qaa (wpAny_newList ?_);have F:(h1.push (seqObj "list" vs.toArray 0)).get? h1.objs.size=some (seqObj "list" vs.toArray 0):=Qam _ rfl;refine Qaa (Qb8 (Qbe slot_list_sort ⟨_,F,rfl⟩ Qhm (list_sort_treeK strKind_oneLt F D.keysOf (fun v₁ v₂ rest e=>keyKind_strs (by rw[<-e];exact D)) I fun O a1 a2=>⟨_,rfl,?_⟩) (args_list_sort _)));obtain⟨L,b1,b2,b3⟩:=sorted_out_str D a1 a2;obtain⟨e,he⟩:=sortedHeap_at (vs:=vs) (out:=(arrOf O).map (·.2)) (n:=0) F;refine Qae ⟨_,rfl,h _ d tk h1.objs.size _ L e b1 (b2.trans Z) b3 (fun b ob hb=>?_) hsz he⟩;have G:=Qbk (Qaq hb) hsz;rw[sortedHeap_old (Qbf G) (by rw[size_push'];exact Qdw G)];exact Qad _ (J b ob hb)
end
def TxO(P:Aq)(w:Au)(a:Aw)(S:Ai):HO:=.ext fun h=>qy P w h a (!vp w) S
theorem Inv.drew(I:Inv X m c H s)(d:Drawn):Inv X m c H {s with drawn:=d}:=
 ⟨I.ok,I.os,I.bare,I.base,I.loc,I.cell,I.free,I.freeC,I.pin,I.hok,I.len⟩
def vv (O:X.calm=true):Y9 X (.type "set") (fun xs H Q=>∃(p:Aw) (D:Ai),xs=[.ref p]/\SqL X.K H p (D.map V.str)/\D.length<4000 /\
  ∀a:Aw,H a=none->Q (.ref a) (upd H a (TxO X.prog X.w a (XY D)))):=by
 intro pins s σ H xs us Q I r h;obtain⟨p,D,rfl,J,hn,q⟩:=h;obtain⟨u,rfl,Z⟩:=vals1 r;cases Z;obtain⟨M,F,pl,hz⟩:=I.list J;have C:=F.length;rw[Qab]at C;refine z8 (I.ok.hd O) pl.isList (by simpa using uX F) (by rw[Qas];unfold scanBound;lia) fun h' tk L G Y=>?_;refine⟨.ref s.heap.objs.size,_,I.laid (t':=tk) (o:=TxO X.prog X.w s.heap.objs.size (XY D)) (fun b o e=>Y b o (Qaq e) e) (Qaj _) ?_,rfl,q _ (I.hok.fresh (Qaj _))⟩;obtain⟨o,es,ep,t,ho,rest⟩:=id G;exact⟨G,⟨o,ho⟩,fun h1 h2 x k=>GD x k⟩
def JY (L:X.calm=true):Y9 X (.builtin "sorted") (fun xs H Q=>∃(a:Aw) (S:Ai),xs=[.ref a]/\H a=some (TxO X.prog X.w a S)/\S.length<64 /\
  ∀(l:Aw) (C:Ai),H l=none->C.Perm S->sortedS C=true->Q (.ref l) (upd H l (.lst (C.map V.str)))):=by
 intro pins s σ H xs us Q I r h;obtain⟨a,S,rfl,J,O,q⟩:=h;obtain⟨u,rfl,rx⟩:=vals1 r;cases rx;have M:qy X.prog X.w s.heap a (!vp X.w) S:=(I.hok a _ J).1;refine Zag (led:=true) (I.ok.hd L) M O fun h' d tk l out D e hi F hs Y G Z=>?_;refine⟨.ref l,_,(I.drew d).laid (t':=tk) (o:=.lst (D.map V.str)) Y G ?_,rfl,q _ D (I.hok.fresh G) F hs⟩;have hm:D.length=S.length:=F.length_eq;exact⟨by rw[Qab];exact Qav (Z2 (by lia)),out.toList,e,WQ hi,by simpa using Z⟩
def Zle{y:Str}(h:x.cps.toList=y.cps.toList):x=y:=by
 cases x;cases y;simp only[Str.mk.injEq];exact Array.toList_inj.mp h
def Zlf{y:Str}(h1:ltCps x.cps.toList y.cps.toList=false)(h2:ltCps y.cps.toList x.cps.toList=false):x=y:=by
 rw[ltCps_eq]at h1 h2;exact Zle (List.le_antisymm (Qfp h2) (Qfp h1))
def Zgp{y z:Str}(h1:ltCps y.cps.toList x.cps.toList=false)(h2:ltCps z.cps.toList y.cps.toList=false):ltCps z.cps.toList x.cps.toList=false:=by
 rw[ltCps_eq]at h1 h2 ⊢;refine Qap ?_;have a1:x.cps.toList<=y.cps.toList:=Qfp h1;have a2:y.cps.toList<=z.cps.toList:=Qfp h2;exact(List.le_trans a1 a2:x.cps.toList<=z.cps.toList)
theorem GF:∀(p:Str) (l:Ai),risingS p l=true->∀y∈l,ltCps y.cps.toList p.cps.toList=false
 |p,[],_,y,q=>nomatch q
 |p,x::r,h,y,q=>by
  have h':(!ltCps x.cps.toList p.cps.toList&&risingS x r)=true:=h;rw[Qb4,Bool.not_eq_true']at h';rcases Qao.mp q with rfl|q
  ·exact h'.1
  ·exact Zgp h'.1 (GF x r h'.2 y q)
def xy{p:Str}{l:Ai}(h:sortedS (p::l)=true):sortedS l=true:=by
 cases l with
 |nil=>rfl
 |cons x r=>
  have h':(!ltCps x.cps.toList p.cps.toList&&risingS x r)=true:=h;rw[Qb4]at h';exact h'.2
theorem jq:∀(l m:Ai),sortedS l=true->sortedS m=true->l.Perm m->l=m
 |[],m,_,_,p=>by rw[List.nil_perm.mp p]
 |x::l,m,h1,h2,p=>by
  cases m with
  |nil=>exact absurd (List.perm_nil.mp p) (by simp)
  |cons y m=>
   have D:x=y:=by
    have q:x∈y::m:=p.mem_iff.mp Qai;have C:y∈x::l:=p.mem_iff.mpr Qai;rcases Qao.mp q with e|q
    ·exact e
    ·rcases Qao.mp C with e|C
     ·exact e.symm
     ·exact Zlf (GF y m h2 x q) (GF x l h1 y C)
   subst D;rw[jq l m (xy h1) (xy h2) (p.cons_inv)]
def Zlg{S:Ai}{y:Str}:y∈ins S x↔y∈S\/y=x:=by
 unfold ins;split
 ·grind
 ·simp
def Zc9{S:Ai}(h:S.Nodup):(ins S x).Nodup:=by
 unfold ins;split
 ·exact h
 ·grind
theorem yb:∀(ys S:Ai),S.Nodup->(ys.foldl ins S).Nodup/\∀y,y∈ys.foldl ins S↔y∈S\/y∈ys
 |[],S,h=>⟨h,fun y=>by simp⟩
 |x::r,S,h=>by
  obtain⟨a,b⟩:=yb r (ins S x) (Zc9 h);refine⟨a,fun y=>(b y).trans ?_⟩;rw[Zlg,Qao,or_assoc]
def kY(ys:Ai):(XY ys).Nodup:=(yb ys [] Qcq).1
def Zda{ys:Ai}{y:Str}:y∈XY ys↔y∈ys:=((yb ys [] Qcq).2 y).trans (by simp)
theorem zB:fillsNumberSlot (.type "tuple") "mul" = pure false:=
 PySem.fillsNumberSlot_seq (id:= "tuple.__mul__") (r:=some (.builtin "tuple.__rmul__")) F.slot_tuple_mul.lookup (by decide +kernel) F.slot_tuple_rmul.lookup (by decide +kernel)
def Zah:seqRepeat? (.type "tuple")=pure (some (.builtin "tuple.__mul__")):=by
 rfl
section
variable {prog:Aq}{w:Au}{A:Ar}{E:Ab}{s:As}
def Zgq {a:Int} {t:Tok} {l:Aw} {o:Obj}   {R:Ab} (ho:s.heap.get? l=some o) (C:o.cls=.type "tuple") (q:o.data=.seq D n) (h:R .notImplemented s):
  wpAny (model prog w) A (Builtin.«int.__rmul__» ⟨[.int a t,.ref l],[]⟩) (fun fin s'=>∃r,fin=.done (.ret r)/\R r s') E s:=by
 obtain⟨cls,dict,data,slots⟩:=o;cases C;cases q;obtain⟨F,g,d,tk,os⟩:=s
 wp_walk
 exact⟨_,rfl,h⟩
def Zlh{k:Int}{t:Tok}{l:Aw}{R:Ab}(I:IsTup s.heap l M.toArray)(h2:2<=k)(h3:k<2^63)(Y:M≠[])(Z:M.length*k.toNat<=sizeLine)
  (h:R (.ref s.heap.objs.size) {s with heap:=s.heap.push {cls:=.type "tuple",data:=.seq (List.replicate k.toNat M).flatten.toArray}}):
  A3 prog w A (Builtin.«tuple.__mul__» ⟨[.ref l,.int k t],[]⟩) (fun fin s'=>∃r,fin=.done (.ret r)/\R r s') E s:=by
 obtain⟨o,ho,hc,n,O⟩:=I;have L:((M.toArray.size:Nat):Int)*k<=(sizeLine:Int):=by
  grind
 have C:¬((M.toArray.size:Nat):Int)*k>(2^63-1)/8:=by
  have:(sizeLine:Int)<=(2^63-1)/8:=by decide
  lia
 have q:Builtin.Tuple.tupleTooMany (((M.toArray.size:Nat):Int)*k)=false:=by
  unfold Builtin.Tuple.tupleTooMany;simp;lia
 have he:M.toArray.isEmpty=false:=by grind
 have D:List.foldl (fun J x2=>J++x2) #[] (List.replicate k.toNat M.toArray)=(List.replicate k.toNat M).flatten.toArray:=by
  have:=foldl_rep M k.toNat [];exact this
 refine Qaa (Qcj (a:=k) rfl ?_);rw[Qay (by simp;lia)];refine Qaa (Qaa (Qci ho O (Qae ?_)));have G:(k == 1)=false:=by simp;lia
 have F:decide (k<=0)=false:=by simp;lia
 simp only[he,G,F,Bool.or_false,Qck,↓reduceIte,C,q,D];refine Qaa (Qbd (Qae ⟨_,rfl,h⟩) (by show(List.replicate k.toNat M).flatten.toArray.size<=sizeLine;rw[Qas,len_rep,Qgp];exact Z))
end
def rRepT(K:Af):R2:=fun x y H Q=>∃l k xs,x=.ref l/\y=.int k/\SqT K H l xs/\2<=k/\k<2^63/\xs≠[]/\xs.length*k.toNat<=sizeLine /\
 ∀p,H p=none->Q (.ref p) (upd H p (.tup (List.replicate k.toNat xs).flatten))
def Zli:OpR X (binaryOp .Mult) (rRepT X.K):=by
 intro pins s σ H x y v u Q I O Z h;obtain⟨l,k,xs,rfl,rfl,M,h1,h2,D,G,q⟩:=h;cases O;obtain⟨t,rfl⟩:=Z;obtain⟨L,r,p1,_⟩:=I.tuple M;obtain⟨o,ho,C,n,Y⟩:=id p1;have J:=r.length;refine wpAny_binaryOp_repeat_ref (T:= "tuple") (U:= "int") (by decide) ⟨_,ho,C⟩ (fun s'=>typeIs_int s' k t) zB F.fills_int_mul F.slot_int_rmul Zah F.slot_int_index.lookup
  (Qbe F.slot_int_rmul (typeIs_int s k t) F.entry_int_rmul (Zgq ho C Y ⟨rfl,⟨_,ho,C⟩,Qbe F.slot_tuple_mul ⟨_,ho,C⟩ F.entry_tuple_mul (Zlh p1 h1 h2 (fun z=>D (r.nil_iff.mp z)) (by rw[<-J];exact G) ?_) (F.args_tuple_mul_2 _ _)⟩) (F.args_int_rmul_2 _ _))
 refine⟨.ref s.heap.objs.size,_,I.laid (t':=s.toks) (o:=.tup (List.replicate k.toNat xs).flatten) (fun b ob q=>Qad _ q) (Qaj _) ?_,rfl,q _ (I.hok.fresh (Qaj _))⟩;exact⟨by rw[len_rep,Qgp];exact G,_,r.rep k.toNat,kI.new _ _⟩
def vw{xs:A2}{is:Aj}{Q:VK}(p:V->Bool)(S:Hp->Hp->Prop)(L:∀H,S H H)(st:∀H1 H2 I,S H1 H2->S H2 I->S H1 I)(O:∀H1,S H H1->SqT K H1 a xs)(Z:xs.length<=sizeLine)
  (J:∀x∈xs,∀H1,S H H1->∀R:Bool->Hp->Prop,(∀H2,S H1 H2->R (p x) H2)->G (xo is c (some x)) H1 R)
  (M:∀x∈xs,∀H1,∀R:VK,R x H1->u (xo is c (some x)) H1 R)
  (Y:∀H1 l,S H H1->H1 l=none->Q (.ref l) (upd H1 l (.lst (xs.filter p)))):GA is G u c Q (Itt K a) H:=by
 refine X7 (xs:=xs) (fun i zs H'=>zs=(xs.take i).filter p/\S H H') ⟨rfl,L H⟩ ?_ ?_ ?_ ?_
 ·grind
 ·grind
 ·rintro i x zs H' R hR q ⟨rfl,C⟩;have D:=Qar q;have e:=take_snoc q;refine J x D H' C _ fun H2 F=>?_;cases hp:p x with
  |true=>
   refine(Qa3 rfl:(if true=true then _ else _)=_) ▸ M x D H2 _ (hR _ _ ⟨?_,st _ _ _ C F⟩);rw[e,Qd2,Qc5,Qa3 hp];rfl
  |false=>
   refine(Qay Qa7:(if false=true then _ else _)=_) ▸ hR _ _ ⟨?_,st _ _ _ C F⟩;rw[e,Qd2,Qc5,Qay (by rw[hp];exact Qa7)];simp
 ·grind
abbrev X4(o:Obj):HO:=.frz o (.ext fun _=>True)
def GG{o:Obj}(e:h.get? a=some o):Y1 P w H h a (X4 o):=⟨e,trivial,⟨o,e⟩,fun _ _ _ _=>trivial⟩
def hide(cs:List Aw)(H:Hp):Hp:=fun b=>if b∈cs then none else H b
def XZ(cs:List Aw)(H H':Hp):Hp:=fun b=>if b∈cs then H b else H' b
def YG{b:Aw}(h:b∈J):hide J H b=none:=Qa3 h
def Z9{b:Aw}(h:b∉J):hide J H b=H b:=Qay h
def WT{H':Hp}{b:Aw}(h:b∈J):XZ J H H' b=H b:=Qa3 h
def Yl{H':Hp}{b:Aw}(h:b∉J):XZ J H H' b=H' b:=Qay h
def of_hide{b:Aw}{o:HO}(h:hide J H b=some o):b∉J/\H b=some o:=by
 by_cases m:b∈J
 ·rw[YG m]at h;cases h
 ·rw[Z9 m]at h;exact⟨m,h⟩
def GH(H H1:Hp):Prop:=∀b o u,H b=some (.frz o u)->H1 b=some (.frz o u)
def GH.refl(H:Hp):GH H H:=fun _ _ _ h=>h
def GH.trans{H2:Hp}(a:GH H C)(b:GH C H2):GH H H2:=fun c o u h=>b c o u (a c o u h)
def Z8.frz{H H1:Hp}(a:Z8 H H1):GH H H1:=fun b o u h=>a b _ h
def YZ(P:Aq)(w:Au)(K:Af)(mg:Ae)(base:Heap)(k:Nat)(f:Aw)(H:Hp)(τ:Sp):Prop:=
 (∃o fd,H f=some (X4 o)/\o.data=.func fd) /\
 ∀(A:Ar) (outer:List Env) (s:As) (H1:Hp) (q:Ag) (vs:A2) (Q:VK) (E:XK),GH H H1->WK k A->Zkl P w K mg base A outer s H1->Vals vs q->τ vs H1 Q E->
  codeAny (model P w) A (.call (.ref f) ⟨q,[]⟩) (CR CX0 outer P w H1 s Q E) s
theorem YZ.frz{P:Aq}{w:Au}{K:Af}{mg:Ae}{base:Heap}{k:Nat}{f:Aw}{H H1:Hp}{τ:Sp}(c:YZ P w K mg base k f H τ)(h:GH H H1):YZ P w K mg base k f H1 τ:=
 ⟨let⟨o,fd,e,d⟩:=c.1;⟨o,fd,h _ _ _ e,d⟩,fun A outer s H2 C vs Q E q=>c.2 A outer s H2 C vs Q E (h.trans q)⟩
section
variable {P:Aq}{w:Au}{H H':Hp}{h h':Heap}{cs:List Aw}
theorem kZ(x:HOk P w H h)(C:∀c∈cs,∃o,H c=some (X4 o)):HOk P w (hide cs H) h:=fun a o e=>by
 obtain⟨_,D⟩:=of_hide e;refine(x a o D).stay (fun _ _ _ q=>q) (fun d q=>?_) fun d xs q=>?_
 ·by_cases m:d∈cs
  ·grind
  ·rw[Z9 m];exact q
 ·by_cases m:d∈cs
  ·grind
  ·rw[Z9 m];exact q
theorem Zdb(x:HOk P w H' h')(D:∀c∈cs,H' c=none)(C:∀c∈cs,∃o,H c=some (X4 o)/\h'.get? c=some o):HOk P w (XZ cs H H') h':=fun a o e=>by
 by_cases m:a∈cs
 ·rw[WT m]at e;obtain⟨ob,z,g⟩:=C a m;rw[z]at e;cases e;exact GG g
 ·rw[Yl m]at e;refine(x a o e).stay (fun _ _ _ q=>q) (fun d q=>?_) fun d xs q=>?_
  ·by_cases m:d∈cs
   ·rw[D d m]at q;cases q
   ·rw[Yl m];exact q
  ·by_cases m:d∈cs
   ·rw[D d m]at q;cases q
   ·rw[Yl m];exact q
end
structure Zoi(scope:Scope)(ps ys:Ai):Prop where
 kind:scope.kind=.function
 co:scope.isCoroutine=false
 gen:scope.isGenerator=false
 cell:∀y∈scope.names,y.2≠.cell
 par:∀p∈ps,scope.names.lookup p=some .local
 free:∀y∈ys,scope.names.lookup y=some .free
 nd:(ps++ys).Nodup
def cxL(P:Aq)(w:Au)(K:Af)(mg:Ae)(base:Heap)(N:Ai)(qual:Str)(scope:Scope)(f:Aw)(q:Av)(cl:List (Str×Aw))(A:Ar)(outer:List Env)(s:As)(H:Hp):Cx where
 prog:=P
 w:=w
 K:=K
 mg:=mg
 base:=base
 A:=A.deeper (PySem.W.envX qual scope s.heap.objs.size f q cl)
 N:=N
 s₀:=s
 H₀:=H
 env:=PySem.W.envX qual scope s.heap.objs.size f q cl
 outer:=outer
 stack:=PySem.W.envX qual scope s.heap.objs.size f q cl::outer
 ex:=[]
 calm:=true
 fn:=fun _=>false
 pn:=[]
 xe:=fun _ _=>False
def Zoj(n:Nat)(te:TE)(cs:List Aw)(q:List (Option V)):Sp:=fun vs H Q _=>vs.length=n/\te (vs.map some++q) (hide cs H) fun v H'=>(∀c∈cs,H' c=none)->Q v (XZ cs H H')
theorem jr{ps:Ai}(F:ps.Nodup){u:Av}(h1:ps[i]?=some x)(h2:M[i]?=some u)(J:ps.length=M.length):(ps.zip M).reverse.lookup x=some u:=by
 have G:(x,u)∈ps.zip M:=by
  obtain⟨a1,e1⟩:=Qag.mp h1;obtain⟨a2,e2⟩:=Qag.mp h2;rw[<-e1,<-e2,<-Qhi (h:=by rw[Qes];lia)];exact Qbs _
 have D:((ps.zip M).map (·.1)).Nodup:=by
  rw[List.map_fst_zip (by lia)];exact F
 have q:((ps.zip M).reverse.map (·.1)).Nodup:=by
  grind
 have C:(x,u)∈(ps.zip M).reverse:=List.mem_reverse.mpr G;generalize (ps.zip M).reverse=l at q C
 induction l with
 |nil=>cases C
 |cons p r L=>
  obtain⟨n,v⟩:=p;rcases Qao.mp C with e|I
  ·grind
  ·grind
section
variable {P:Aq}{w:Au}{K:Af}{mg:Ae}{base:Heap}
theorem gK{A:Ar}{outer:List Env}{s':As}{H':Hp}{Q:VK}{v:V}{u:Av}(e0:Zkl P w K mg base A outer s H)(C:∀c∈J,∃o v,H c=some (X4 o)/\o.data=.cell v/\s.heap.get? c=some o)
  (os:s'.os=s.os) (G:AllBare s'.gens) (b:Un (frs outer) [] (hide J H) H' s.heap s'.heap) (L:HOk P w H' s'.heap) (Z:RelV v u) (q:(∀c∈J,H' c=none)->Q v (XZ J H H')):CE outer P w H s Q u s':=by
 have F:∀c∈J,∃o,H c=some (X4 o):=fun c m=>let⟨o,_,e,_⟩:=C c m;⟨o,e⟩;have M:∀c∈J,c∉frs outer:=fun c m z=>by
  obtain⟨o,e⟩:=F c m;rw[e0.frf c z]at e;cases e
 have O:∀c∈J,H' c=none:=fun c m=>by
  obtain⟨o,v,e,d,g⟩:=C c m;exact b.free c o g (YG m) (fun z=>nomatch z)
 have hh:∀d,H d=none->hide J H d=none:=fun d n=>by
  by_cases m:d∈J
  ·exact YG m
  ·rw[Z9 m];exact n
 have nm:∀d o,H d=some o->(∀ob,o≠X4 ob)->d∉J:=fun d o e ne m=>by
  grind
 refine⟨v,XZ J H H',os,G,⟨fun d o e n I D=>b.keep d o e (hh d n) I D,fun d o e n I D=>b.slot d o e (hh d n) I D,fun d o e n D=>?_,b.there,fun d xs e=>?_,fun d o u e=>?_,fun d Y e=>?_⟩,Zdb L O fun c m=>?_,Z,q O⟩
 ·by_cases m:d∈J
  ·rw[WT m];exact n
  ·rw[Yl m];exact b.free d o e (hh d n) D
 ·have m:=nm d _ e (fun ob z=>nomatch z);rw[Yl m];exact b.tups d xs (by rw[Z9 m];exact e)
 ·by_cases m:d∈J
  ·rw[WT m];exact e
  ·rw[Yl m];exact b.frzs d o u (by rw[Z9 m];exact e)
 ·have m:=nm d _ e (fun ob z=>nomatch z);rw[Yl m];exact b.tbls d Y (by rw[Z9 m];exact e)
 ·obtain⟨o,v,e,d,g⟩:=C c m;exact⟨o,e,b.keep c o g (YG m) (M c m) (fun z=>nomatch z)⟩
theorem vx{k:Nat}{name qual:Str}{params:Arguments}{body:Ax}{scope:Scope}{cl:List (Str×Aw)}{pm ctv:Av}{oc:Obj}{ps ys:Ai}{cv:List (Option V)}
  (S:Zoi scope ps ys) (hf:H f=some (X4 (PySem.W.kla_obj name qual params body scope cl pm a ctv))) (hc:H a=some (X4 oc)) (hoc:∃vs t,oc.data=.fields vs/\vs[1]?=some (.str qual t))
  (hcl:∀x c,cl.lookup x=some c->c∈J) (hcs:∀c∈J,∃o v,H c=some (X4 o)/\o.data=.cell v)
  (inj:∀x y c,cl.lookup x=some c->cl.lookup y=some c->x=y) (has:∀x,scope.names.lookup x=some .free->∃c,cl.lookup x=some c)
  (hcv:cv.length=ys.length) (hval:∀(i:Nat) (y:Str) (v:V),ys[i]?=some y->cv[i]?=some (some v)->∃c o u,cl.lookup y=some c/\H c=some (X4 o)/\o.data=.cell (some u)/\RelV v u)
  (hb:∀Z:Ag,Z.length=ps.length->bindArgs (PySem.W.kla_fn name qual params body scope cl pm (.ref a) ctv) ⟨Z,[]⟩=pure (ps.zip Z))
  (Y:∀(A:Ar) (outer:List Env) (s:As) (H1:Hp),WK k (A.deeper (PySem.W.envX qual scope s.heap.objs.size f (.ref a) cl))->PE (cxL P w K mg base (ps++ys) qual scope f (.ref a) cl A outer s H1) body I):
  YZ P w K mg base (k+1) f H (Zoj ps.length I J cv):=by
 refine⟨⟨_,_,hf,rfl⟩,?_⟩;intro A outer s H1 Z vs Q E fz hr C r ht;obtain⟨hl,ht⟩:=ht;have gf:s.heap.get? f=some (PySem.W.kla_obj name qual params body scope cl pm a ctv):=(C.hok f _ (fz _ _ _ hf)).1;have G:∀c∈J,∃o v,H1 c=some (X4 o)/\o.data=.cell v/\s.heap.get? c=some o:=fun c m=>by
  obtain⟨o,v,e,d⟩:=hcs c m;exact⟨o,v,fz _ _ _ e,d,(C.hok c _ (fz _ _ _ e)).1⟩
 have hcs2:∀c∈J,∃o,H1 c=some (X4 o):=fun c m=>let⟨o,_,e,_⟩:=G c m;⟨o,e⟩;obtain⟨vs0,t0,hd0,hv0⟩:=hoc;have lim:s.heap.NoLimit:=C.mod.nolimit.keeps fun b o e=>(C.bs b o e).1;have lus:Z.length=ps.length:=by rw[<-r.length];exact hl
 refine PySem.W.kla_callFunE hr.depth gf rfl S.co S.gen rfl ⟨a,oc,vs0,t0,rfl,(C.hok a _ (fz _ _ _ hc)).1,hd0,hv0⟩ ?_;rw[hb Z lus];refine Qae (wpAny_newFunctionEnv S.cell (fun x hx=>S.par _ (Qd7 hx).1) (fun M hns hsb=>⟨lim.fresh _ hsb,?_⟩) S.kind);have L:∀b o,s.heap.get? b=some o->M.get? b=some o:=fun b o e=>hsb.extBut b o (Qbf (Qaq e)) (Qad _ e);have ndp:ps.Nodup:=(Qe6.mp S.nd).1;have zq20:Inv (cxL P w K mg base (ps++ys) qual scope f (.ref a) cl A outer s (hide J H1)) [] (vs.map some++cv) (hide J H1) {s with heap:=M,toks:=s.toks+(ps.zip Z).length}:=by
  have O:∀b:Aw,b∉([]:List Aw):=fun b z=>nomatch z;refine⟨⟨C.mod,S.kind,rfl,rfl,Qaj _,inj,fun y hy=>?_,(fun y c h=>by cases h),fun _=>hr.hd,Qf4 C.frames,.inr ⟨rfl,rfl⟩,fun b z=>absurd z (O b),fun b o e=>⟨(C.bs b o e).1,?_⟩,C.bsz,fun b _ _=>O b,fun b z=>absurd z (O b),C.funs,fun b hb=>?_⟩,
   rfl,C.bare,Un.kept L,⟨_,hns,fun i y v h1 h2 h3=>?_⟩,fun y c h=>?_,?_,fun y c h=>YG (hcl y c h),fun p hp=>absurd (show p∈([]:Ac)from hp) (by simp),(kZ C.hok hcs2).kept L,?_⟩
  ·rcases hy with hy|hy
   ·exact absurd rfl (S.cell _ (Qch hy))
   ·exact has y hy
  ·by_cases m:b∈J
   ·exact YG m
   ·exact(Z9 m).trans (C.bs b o e).2
  ·by_cases m:b∈J
   ·exact YG m
   ·exact(Z9 m).trans (C.frf b hb)
  ·by_cases hi:i<vs.length
   ·have ha:vs[i]?=some v:=by
     grind
    obtain⟨u,hu,rv⟩:=r.get ha;have D:(ps++ys)[i]?=some y:=h1;rw[Qa8 (by lia)]at D;exact⟨u,rv,.inl ⟨S.par y (Qar D),jr ndp D hu lus.symm⟩⟩
   ·rw[Qa0 (by simpa using hi),Qab]at h2;have D:(ps++ys)[i]?=some y:=h1;rw[Qa0 (by lia),<-hl]at D;obtain⟨c,o,u,e1,e2,e3,rv⟩:=hval _ y v D h2;refine⟨u,rv,.inr ⟨.inr (S.free y (Qar D)),c,e1,o,L _ _ (C.hok c _ (fz _ _ _ e2)).1,e3⟩⟩
  ·obtain⟨o,v,_,d,g⟩:=G c (hcl y c h);exact⟨v,o,L _ _ g,d⟩
  ·show hide J H1 s.heap.objs.size=none
   by_cases m:s.heap.objs.size∈J
   ·exact YG m
   ·rw[Z9 m];exact C.hok.fresh (Qaj _)
  ·show(vs.map some++cv).length=(ps++ys).length;rw[Qak,Qak,Qab,hl,hcv]
 refine PySem.W.kla_codeExpr (Qdi (Y A outer s (hide J H1) (hr.deeper _) [] _ _ _ _ zq20 ht) (fun u s' hs=>?_) fun _ _ z=>z.elim);obtain⟨v,H',F,rv,q⟩:=hs;exact gK C G F.os F.bare F.base F.hok rv q
end
def js(oc:Obj)(qual:Str):Prop:=∃vs t,oc.data=.fields vs/\vs[1]?=some (.str qual t)
def Yo(H:Hp)(P:Aw)(pos:Pos)(qual:Str):Prop:=
 H P=some (.tbl #[])\/∃q oc,H P=some (.tbl #[rawInt pos.line,rawInt pos.col,.ref q])/\H q=some (X4 oc)/\js oc qual
def Yo.ex{P:Aw}{qual:Str}(h:Yo H P p qual):∃ps,H P=some (.tbl ps):=by
 rcases h with h|⟨_,_,h,_⟩<;>exact⟨_,h⟩
structure yc(mg:Ae)(base:Heap):Prop where
 ex:∃bm ob,mg "__builtins__" = some (.ref bm)/\bm≠builtinsNs/\base.get? bm=some ob/\ob.cls=.type "module" /\ ob.dict=some builtinsNs/\ob.data=.plain
def tLam(P:Aw)(lpos:Pos)(qual:Str)(q:Aw->Value->Obj):TE:=fun _ H Q=>Yo H P lpos qual /\
 ∀(f D:Aw) (oc:Obj) (C:Av) (H2:Hp),H f=none->H2 f=some (X4 (q D C))->H2 D=some (X4 oc)->js oc qual->Yo H2 P lpos qual->(∀b o,H b=some o->b≠P->H2 b=some o)->Q (.ref f) H2
def gL{X:Cx}{P:Aw}{lpos:Pos}{oc fo:Obj}{h':Heap}{tk:Nat}(I:Inv X m c H s)(D:H P=some (.tbl #[]))(M:Heap.ExtBut P s.heap h')(J:s.heap.objs.size<=f)(hlt:f<h'.objs.size)(Y:h'.get? f=some oc)
  (G:h'.get? P=some (PySem.W.tabObj #[rawInt lpos.line,rawInt lpos.col,.ref f])) (O:fo.isFreed=false:=by rfl):Inv X m c (upd (upd (upd H P (.tbl #[rawInt lpos.line,rawInt lpos.col,.ref f])) f (X4 oc)) h'.objs.size (X4 fo)) {s with heap:=h'.push fo,toks:=tk}:=by
 have F:H f=none:=I.hok.fresh J;have Z:f≠P:=fun e=>by rw[e,D]at F;cases F
 have lo:∀{b:Aw} {o:Obj},s.heap.get? b=some o->b≠f:=fun e z=>absurd (Qaq e) (by rw[z];exact Qg9.mpr J);have I1:Inv X m c (upd (upd H P (.tbl #[rawInt lpos.line,rawInt lpos.col,.ref f])) f (X4 oc)) {s with heap:=h',toks:=tk}:=by
  refine I.un ⟨fun b o e n _ _=>M b o (fun z=>by rw[z,D]at n;cases n) e,fun b o e n _ _=>⟨o.slots,M b o (fun z=>by rw[z,D]at n;cases n) e⟩,fun b o e n _=>?_,fun b o e _=>?_,fun b xs e=>?_,fun b o u e=>?_,fun b pz e=>?_⟩ fun b u e=>?_
  ·rw[Zk (lo e),Zk (fun z=>by rw[z,D]at n;cases n)];exact n
  ·by_cases C:b=P
   ·rw[C];exact⟨_,G⟩
   ·exact⟨o,M b o C e⟩
  ·rw[Zk (Zm e F),Zk (Xn e D (fun z=>nomatch z))];exact e
  ·rw[Zk (Zm e F),Zk (Xn e D (fun z=>nomatch z))];exact e
  ·by_cases C:b=P
   ·subst C;rw[D]at e;cases e;exact⟨#[rawInt lpos.line,rawInt lpos.col,.ref f],by rw[Zk Z.symm,Za];rfl⟩
   ·exact⟨#[],by rw[Zk (Zm e F),Zk C,e];simp⟩
  ·by_cases L:b=f
   ·subst L;rw[Za]at e;cases e;exact GG Y
   ·rw[Zk L]at e
    by_cases C:b=P
    ·subst C;rw[Za]at e;cases e;exact G
    ·rw[Zk C]at e;refine(I.hok b u e).stay (fun d v hd q=>M d v ?_ q) (fun d q=>?_) fun d xs q=>?_
     ·grind
     ·rw[Zk (Zm q F),Zk (Xn q D (fun z=>nomatch z))];exact q
     ·rw[Zk (Zm q F),Zk (Xn q D (fun z=>nomatch z))];exact q
 exact I1.laid (h':=h'.push fo) (t':=tk) (a:=h'.objs.size) (o:=X4 fo) (fun b u e=>Qad _ e) (Qaj _) (GG (Qam _ O))
section
variable {X:Cx}{params:Arguments}{body:Ax}{scope:Scope}{lpos:Pos}{c P:Aw}{qual:Str}
abbrev jt (X:Cx) (qual:Str) (params:Arguments) (body:Ax) (scope:Scope):Aw->Value->Obj:=fun C q=>PySem.W.kla_obj "<lambda>" qual params body scope (xn X.env.cells scope.names []) ((X.mg "__name__").getD .none) C q
def Zdc (F:X.env.code=.ref c) (C:PySem.W.CodeHd X.base c P) (B:yc X.mg X.base) (hdef:defaultsOf params X.env=([],[])) (hq:X.env.qual ++ "<lambda>" = qual)
  (M:∀y∈scope.names,y.2=.free->X.env.scope.names.lookup y.1=some .cell):
  PE X (.Lambda params body scope lpos) (tLam P lpos qual (jt X qual params body scope)):=by
 intro pins s σ H Q I hw;obtain⟨J,Z⟩:=hw;refine PySem.W.kla_eval hdef ?_;rw[hq];have hcl:closureFor scope X.env=pure (xn X.env.cells scope.names []):=Jq fun y hy h=>I.ok.has y.1 (.inl (M y hy h));have hg:s.heap.Ns mainGlobals X.mg:=I.mod.glob.keeps I.bk;obtain⟨pz,hPs⟩:=J.ex;have G:X.base.get? P=none:=by
  cases e:X.base.get? P with
  |none=>rfl
  |some o=>rw[(I.bs P o e).2]at hPs;cases hPs
 have hgP:mainGlobals≠P:=fun e=>by
  obtain⟨o,es,ep,g,_⟩:=I.mod.glob;rw[e,G]at g;cases g
 have hb:s.heap.BuiltinsAt X.mg P:=by
  obtain⟨bm,ob,b1,b2,b3,b4,b5,b6⟩:=B.ex;refine⟨bm,ob,b1,b2,fun e=>?_,(fun e=>by rw[e,G]at b3;cases b3),I.bk _ _ b3,b4,b5,b6⟩;obtain⟨o,es,ep,g,hd,_⟩:=I.mod.glob;rw[<-e,b3]at g;cases g;rw[b6]at hd;cases hd
 rcases J with J|⟨q,oc,J,hc',L⟩
 ·have hP:s.heap.get? P=some (PySem.W.tabObj #[]):=I.hok P _ J;refine PySem.W.kla_makeFunction (mg:=X.mg) (ps:=#[]) hcl I.ok.glob hg F (C.keeps I.bk) hP trivial rfl hgP hb fun q D h' tk hx Y O hrec htb=>?_;obtain⟨c₂,oc,vs,t,e2,L,hd,hv⟩:=hrec;cases e2;have cn:H q=none:=I.hok.fresh Y;have cP:q≠P:=fun e=>by rw[e,J]at cn;cases cn
  have hsz:s.heap.objs.size<=h'.objs.size:=Qbc Y (Qav O);have I2:=gL (lpos:=lpos) (fo:=jt X qual params body scope q D) (tk:=tk) I J hx Y O L htb;have fn:H h'.objs.size=none:=I.hok.fresh hsz;have fc:q≠h'.objs.size:=Qbf O;have fP:P≠h'.objs.size:=Zm J fn;refine⟨.ref h'.objs.size,_,I2,rfl,Z _ q oc D _ fn Za ?_ ⟨vs,t,hd,hv⟩ (.inr ⟨q,oc,?_,?_,⟨vs,t,hd,hv⟩⟩) fun b o e hbP=>?_⟩
  ·rw[Zk fc];exact Za
  ·rw[Zk fP,Zk cP.symm];exact Za
  ·rw[Zk fc];exact Za
  ·rw[Zk (Zm e fn),Zk (Zm e cn),Zk hbP];exact e
 ·have hP:s.heap.get? P=some (PySem.W.tabObj #[rawInt lpos.line,rawInt lpos.col,.ref q]):=I.hok P _ J;have hf:codeAmong lpos (#[rawInt lpos.line,rawInt lpos.col,.ref q]:Ah).toList=some (.ref q):=by
   show(if((lpos.line:Int) == lpos.line&&(lpos.col:Int) == lpos.col)=true then some (Value.ref q)else _)=_;rw[Qcu,Qcu];rfl
  refine PySem.W.kla_makeFunctionHit (mg:=X.mg) hcl I.ok.glob hg F (C.keeps I.bk) hP trivial hf hb fun D h' tk hk hsz=>?_;have I2:=I.laid (h':=h'.push (jt X qual params body scope q D)) (t':=tk) (a:=h'.objs.size) (o:=X4 (jt X qual params body scope q D)) (fun b u e=>Qad _ (hk b u e)) hsz (GG (Qam _ rfl));have fn:H h'.objs.size=none:=I.hok.fresh hsz;have sm:∀b o,H b=some o->upd H h'.objs.size (X4 (jt X qual params body scope q D)) b=some o:=fun b o e=>by rw[Zk (Zm e fn)];exact e
  exact⟨.ref h'.objs.size,_,I2,rfl,Z _ q oc D _ fn Za (sm _ _ hc') L (.inr ⟨q,oc,sm _ _ J,sm _ _ hc',L⟩) fun b o e _=>sm b o e⟩
end
def cellsOf(cells:List (Str×Aw)):List Aw:=(cells.map (·.1)).filterMap fun x=>cells.lookup x
def YS{cells:List (Str×Aw)}{c:Aw}:c∈cellsOf cells↔∃x,cells.lookup x=some c:=by
 unfold cellsOf;rw[Qgk];constructor
 ·grind
 ·rintro⟨x,h⟩;exact⟨x,Qau.mpr ⟨(x,c),Qch h,rfl⟩,h⟩
def Zai(X:Cx)(s:As)(H:Hp):Hp:=fun b=>if b∈cellsOf X.env.cells then(s.heap.get? b).map X4 else H b
section
variable {X:Cx}{pins:Ac}{σ:St}{H:Hp}{s:As}
theorem yd(I:Inv X pins σ H s):∀d∈cellsOf X.env.cells,∃o v,Zai X s H d=some (X4 o)/\o.data=.cell v/\s.heap.get? d=some o:=fun d m=>by
 obtain⟨y,q⟩:=YS.mp m;obtain⟨v,o,ho,C⟩:=I.cell y d q;exact⟨o,v,by unfold Zai;rw[Qa3 m,ho];rfl,C,ho⟩
def JZ{d:Aw}(m:d∉cellsOf X.env.cells):Zai X s H d=H d:=Qay m
def Wa(I:Inv X pins σ H s):∀d∈cellsOf X.env.cells,H d=none:=fun d m=>let⟨y,hy⟩:=YS.mp m;I.freeC y d hy
theorem qO(I:Inv X pins σ H s):∀b o,H b=some o->Zai X s H b=some o:=fun b o e=>by
 rw[JZ fun m=>by rw[Wa I b m]at e;cases e];exact e
def x5{k:Nat}{g:Aw}{gd:Ao}{sp:Sp}{Q:VK}{vs:A2}(F:Y5 X.prog X.w X.K X.mg X.base CX0 k g gd N sp)(hr:WK k X.A)(O:Binds X.K gd N [])(hfn:X.fn=fun _=>true)
  (I:Inv X pins σ H s) (rv:Vals vs M) (hsp:sp vs (Zai X s H) (fun v H3=>Q v (hide (cellsOf X.env.cells) H3)) E0):A4 X (call (.ref g) M) (EP X pins σ Q) X.xe s:=by
 have Y:=yd I;have hn:=Wa I;have D:=qO I;have nloc:∀d∈cellsOf X.env.cells,d≠X.env.locals:=fun d m e=>by
  obtain⟨o,v,_,hd,g⟩:=Y d m;obtain⟨m',⟨o',es,ep,g',hd',_⟩,_⟩:=I.loc;rw[e,g']at g;cases g;rw[hd']at hd;cases hd
 have G:∀d∈cellsOf X.env.cells,X.s₀.heap.objs.size<=d:=fun d m=>by
  obtain⟨y,hy⟩:=YS.mp m;exact I.ok.cab y d (by rw[hfn]) hy
 have nfr:∀d∈cellsOf X.env.cells,d∉frs X.stack:=fun d m z=>by
  rcases Qao.mp (I.stkSub d z)with e|e
  ·exact nloc d m e
  ·obtain⟨_,o,g,_⟩:=I.ok.funs.mem e;exact absurd (Qaq g) (Qg9.mpr (G d m))
 have hok3:HOk X.prog X.w (Zai X s H) s.heap:=fun b o e=>by
  by_cases m:b∈cellsOf X.env.cells
  ·obtain⟨ob,v,e',hd,g⟩:=Y b m;rw[e']at e;cases e;exact GG g
  ·rw[JZ m]at e;exact(I.hok b o e).stay (fun _ _ _ q=>q) (fun d q=>D _ _ q) fun d xs q=>D _ _ q
 have e0:Zkl X.prog X.w X.K X.mg X.base X.A X.stack s (Zai X s H):=by
  have z:=I.env0;refine⟨z.frames,z.mod,fun b o e=>⟨(z.bs b o e).1,?_⟩,z.bsz,z.funs,fun b O=>?_,hok3,z.bare⟩
  ·rw[JZ fun m=>absurd (Qaq e) (Qg9.mpr (Qbc I.ok.bsz (G b m)))];exact(z.bs b o e).2
  ·rw[JZ fun m=>nfr b m O];exact z.frf b O
 have hlu:(M++[]).length=N.length:=by rw[Qby,<-rv.length];exact F.len _ _ _ _ hsp
 refine wpAny_call (Qfe (F.run X.A X.stack s (Zai X s H) ⟨M,[]⟩ M vs _ _ hr e0 (by simpa using O s M I.kIn hlu) rv hsp) fun r s' hq=>?_);cases r with
 |error e=>exact hq.elim
 |ok fl=>
  cases fl with
  |next=>exact False.elim hq
  |brk=>exact False.elim hq
  |cont=>exact False.elim hq
  |ret uu=>
   obtain⟨v,H4,os,bare,un,L,rv4,q4⟩:=hq;have J:∀d∈cellsOf X.env.cells,∃o,H4 d=some (X4 o)/\s.heap.get? d=some o/\s'.heap.get? d=some o:=fun d m=>by
    obtain⟨o,v,e,hd,g⟩:=Y d m;have e4:=un.frzs d o _ e;exact⟨o,e4,g,(L d _ e4).1⟩
   have C:∀d,H d=none->d∉cellsOf X.env.cells->Zai X s H d=none:=fun d n m=>by rw[JZ m];exact n
   have nm:∀d o,H d=some o->d∉cellsOf X.env.cells:=fun d o e m=>by rw[hn d m]at e;cases e
   refine⟨v,hide (cellsOf X.env.cells) H4,I.call' os ⟨fun d o e n O Z=>?_,fun d o e n O Z=>?_,fun d o e n Z=>?_,fun d o e Z=>un.there d o e Z,fun d xs e=>?_,fun d o u e=>?_,fun d pz e=>?_⟩ (kZ L fun d m=>let⟨o,e,_⟩:=J d m;⟨o,e⟩) bare (fun _ z=>nomatch z),rv4,q4⟩
   ·by_cases m:d∈cellsOf X.env.cells
    ·obtain⟨o',_,g,g'⟩:=J d m;rw[e]at g;cases g;exact g'
    ·exact un.keep d o e (C d n m) O Z
   ·by_cases m:d∈cellsOf X.env.cells
    ·obtain⟨o',_,g,g'⟩:=J d m;rw[e]at g;cases g;exact⟨o.slots,g'⟩
    ·exact un.slot d o e (C d n m) O Z
   ·by_cases m:d∈cellsOf X.env.cells
    ·exact YG m
    ·rw[Z9 m];exact un.free d o e (C d n m) Z
   ·rw[Z9 (nm d _ e)];exact un.tups d xs (D _ _ e)
   ·rw[Z9 (nm d _ e)];exact un.frzs d o u (D _ _ e)
   ·rw[Z9 (nm d _ e)];exact un.tbls d pz (D _ _ e)
def vy{scope:Scope}{ys:Ai}{is:Aj}{N0:Ai}(I:Inv X pins σ H s)(C:∀y∈scope.names,y.2=.free->X.env.scope.names.lookup y.1=some .cell)(G:∀y∈ys,scope.names.lookup y=some .free)(hN:∀q∈ys.zip is,X.N[q.2]?=some q.1)(J:ys.length=is.length):
  ∀(i:Nat) (y:Str) (v:V),ys[i]?=some y->(is.map fun i=>(σ[i]?).getD none)[i]?=some (some v)->∃c o u,(xn X.env.cells scope.names []).lookup y=some c/\Zai X s H c=some (X4 o)/\o.data=.cell (some u)/\RelV v u:=by
 intro i y v h1 h2;have O:∀y d,(xn X.env.cells scope.names []).lookup y=some d->X.env.cells.lookup y=some d:=
  JR (fun y hy h=>I.ok.has y.1 (.inl (C y hy h))) fun _ _ z=>by cases z
 rw[Qah]at h2;cases hj:is[i]? with
 |none=>rw[hj]at h2;cases h2
 |some j=>
  have D:σ[j]?=some (some v):=by
   grind
  have hz:(y,j)∈ys.zip is:=by
   obtain⟨a1,e1⟩:=Qag.mp h1;obtain⟨a2,e2⟩:=Qag.mp hj;rw[<-e1,<-e2,<-Qhi (h:=by rw[Qes];lia)];exact Qbs _
  have L:=G y (Qar h1);have M:X.env.kindOf y=some .cell:=C _ (g9 L) rfl;obtain⟨m,hm',hl⟩:=I.loc;obtain⟨u,r,l⟩:=hl j y v (hN _ hz) D (.inr (.inl M));rcases l with⟨l1,_⟩|⟨_,d,l2,Z⟩
  ·rw[M]at l1;cases l1
  ·obtain⟨d',F⟩:=Jr (cells:=X.env.cells) (acc:=[]) L;have e:d'=d:=by grind
   subst e;obtain⟨o,ho,hd⟩:=Z;obtain⟨o',v',Y,_,g'⟩:=yd I d' (YS.mpr ⟨y,l2⟩);rw[ho]at g';cases g';exact⟨d',o,u,F,Y,hd,r⟩
def Zlj{P:Aw}{lpos:Pos}{qual:Str}(I:Inv X pins σ H s)(T:Yo H P lpos qual)(G:Z8 (Zai X s H) C):Yo (hide (cellsOf X.env.cells) C) P lpos qual:=by
 have out:∀b o,H b=some o->hide (cellsOf X.env.cells) C b=some o:=fun b o e=>by
  rw[Z9 (fun m=>by rw[Wa I b m]at e;cases e)];exact G _ _ (qO I _ _ e)
 rcases T with z|⟨L,q,J,D,F⟩
 ·exact .inl (out _ _ z)
 ·exact .inr ⟨L,q,out _ _ J,out _ _ D,F⟩
end
structure Zok(S0 scope:Scope)(N0 ps ys:Ai)(is:Aj):Prop where
 sc:Zoi scope ps ys
 free:∀y∈scope.names,y.2=.free->S0.names.lookup y.1=some .cell
 vis:∀q∈ys.zip is,N0[q.2]?=some q.1
 len:ys.length=is.length
section
variable {X:Cx}{params:Arguments}{body a:Ax}{scope:Scope}{lpos p pos:Pos}{c P g:Aw}{qual x:Str}{k kl:Nat}{gd:Ao}{pg ps ys:Ai}{is:Aj}{sp:Sp}{ta te:TE}
def Ga{b:Aw}{u:HO}(q:∀c∈J,∃o,H c=some (X4 o))(s:Z8 H C)(h:C b=some u)(D:∀o,u≠X4 o):hide J C b=some u:=by
 rw[Z9 fun m=>?_]
 ·exact h
 ·obtain⟨o,e⟩:=q b m;rw[s _ _ e]at h;exact D o (Option.some.inj h).symm
def Yo.other{H':Hp}{P:Aw}{qual:Str}(h:Yo H P q qual)(C:P≠f)(D:∃ps,H f=some (.tbl ps))(s:∀b o,H b=some o->b≠f->H' b=some o):Yo H' P q qual:=by
 rcases h with h|⟨c,oc,h1,h2,F⟩
 ·exact .inl (s _ _ h C)
 ·obtain⟨ps,e⟩:=D;exact .inr ⟨c,oc,s _ _ h1 C,s _ _ h2 (Xn h2 e (fun z=>nomatch z)),F⟩
def Yo.same{H H':Hp}{P:Aw}{pos:Pos}{qual:Str}(h:Yo H P pos qual)(s:Z8 H H'):Yo H' P pos qual:=by
 rcases h with h|⟨c,oc,h1,h2,q⟩
 ·exact .inl (s _ _ h)
 ·exact .inr ⟨c,oc,s _ _ h1,s _ _ h2,q⟩
def tCallV(q:Aq)(w:Au)(K:Af)(mg:Ae)(base:Heap)(k:Nat)(i:Nat)(t:TA):TE:=fun σ H Q=>∃(f:Aw) (τ:Sp),σ[i]?=some (some (.ref f))/\YZ q w K mg base k f H τ /\
 t σ H fun vs H1=>GH H H1/\τ vs H1 Q E0
theorem Zdd{P:Aq}{mg:Ae}{base:Heap}{k:Nat}{τ:Sp}(c:YZ P w K mg base k f H τ)(D:GH H C)(q:HOk P w C h):PySem.W.FnAt f h:=by
 obtain⟨o,fd,e,d⟩:=c.1;have g:=(q f _ (D _ _ _ e)).1;obtain⟨oc,od,G,F⟩:=o;cases d;exact⟨oc,od,fd,F,g⟩
def Zgr(i:Nat){es:An}{t:TA}(hr:WK k X.A)(ha:QA X (e::es) t)(hN:X.N[i]?=some x:=by rfl)(hv:Vis X.env.scope x:=by first|exact Or.inl rfl|exact Or.inr (Or.inl rfl)|exact Or.inr (Or.inr rfl))
  (C:(x == ("__debug__" : Str))=false:=by decide) (O:(x == ("__classdict__" : Str))=false:=by decide) (he:starEach (e::es) X.env=(false,eval e X.env)::starEach es X.env:=by rfl) (G:(backTo pos (starEach es X.env)).any (·.1)=false:=by rfl):
  QE X (.Call (.Name x p) (e::es) [] pos) (tCallV X.prog X.w X.K X.mg X.base k i t):=by
 refine⟨?_⟩;intro pins s σ H Q I hw;obtain⟨f,τ,J,L,ht⟩:=hw;refine Qdd (thn (Zib hN hv C O pins s σ H (fun v H'=>v=.ref f/\H'=H) I ⟨.ref f,J,rfl,rfl⟩) fun u s1 ⟨v,H',Z,r,D,hH⟩=>?_);subst D;subst hH;cases r;refine PySem.W.callWith_F (Zdd L (GH.refl _) Z.hok) (thn (ha.out pos pins s1 σ H' _ Z ht) fun us s2 ⟨vs,H1,M,rv,Y,F⟩=>⟨Zdd L Y M.hok,?_⟩) he G;refine wpAny_call (Qfe (L.2 X.A X.stack s2 H1 us vs Q E0 Y hr M.env0 rv F) fun r s' q=>?_);cases r with
 |error e=>exact q.elim
 |ok fl=>
  cases fl with
  |ret u=>exact M.after q
  |next=>exact False.elim q
  |brk=>exact False.elim q
  |cont=>exact False.elim q
end
theorem Zde{mg mb:Ae}{CX:CXT}{k:Nat}{fd:Ao}{sp:Sp}{C:As}{vs:Ag}{ns:Ak}{D:List (Aw×Aw)}
  (KX:K.In C.heap) (hns:C.heap.Ns mainGlobals mg) (hb:C.heap.Ns builtinsNs mb) (hbb:∀x:Str,x ≠ "__name__" ->mb x=bootBuiltins x) (hlim:C.heap.NoLimit) (hg:C.gens=#[])
  (ha:C.heap.get? a=some {cls:=.type "list",data:=.seq vs.toArray}) (hi:IntsAre vs ns) (hl:ns.length<=sizeLine) (hr:WK k callerA)
  (hT:PySem.W.TabsAt D C.heap) (hKt:PySem.W.noTabs K=true) (hbm:yc mg C.heap)
  (F:∀base:Heap,K.In base->base.Ns mainGlobals mg->(∀q∈D,PySem.W.CodeHd base q.1 q.2)->yc mg base->Y5 P w K mg base CX k f fd [x] sp) (hbind:∀(s:As) (u:Av),BindsTo s fd ⟨[u],[]⟩ [(x,u)])
  (hsp:∀H:Hp,(∀q∈D,H q.2=some (.tbl #[]))->SqL K H a (ns.map V.int)->sp [.ref a] H (fun v _=>v=.bl true) fun _ _ _=>False)
  (hCX:∀H e s',CX [] H C (fun _ _ _=>False) e s'->False):
  codeAny (model P w) callerA (.call (.ref f) ⟨[.ref a],[]⟩) (fun r s'=>r=.ok (.ret (.bool true))/\OldK C.heap s'.heap/\s'.os=C.os/\AllBare s'.gens) C:=by
 have rv:=xi hi;have lenV:=hi.length;have G:∀b,b∈D.map (·.2)->C.heap.get? b=some (PySem.W.tabObj #[]):=fun b m=>by
  obtain⟨q,L,rfl⟩:=Qau.mp m;exact(hT q L).2
 have aT:a∉D.map (·.2):=fun m=>by
  have e:=G a m;rw[ha]at e;cases e
 have Y:∀H:Hp,(∀q∈D,H q.2=some (.tbl #[]))->(∀b,H b=none\/(b=a/\∃o xs,H b=some (.frz o (.lst xs)))\/(b∈D.map (·.2)/\H b=some (.tbl #[])))->SqL K H a (ns.map V.int)->HOk P w H C.heap->(H a≠none->K.lookup a=none)->
   codeAny (model P w) callerA (.call (.ref f) ⟨[.ref a],[]⟩) (fun r s'=>r=.ok (.ret (.bool true))/\OldK C.heap s'.heap/\s'.os=C.os/\AllBare s'.gens) C:=by
  intro H hTb hO hS hok hK;have I:∀{b:Aw} {o:Obj},C.heap.get? b=some o->H b=none->(Zbi C.heap H).get? b=some o:=fun e n=>Zfz e n;have noA:∀{b:Aw} {o:Obj},C.heap.get? b=some o->(∀its n,o.data≠.seq its n)->o.cls≠.none->H b=none:=fun{b o} e d1 d2=>by
   rcases hO b with z|⟨rfl,_⟩|⟨m,_⟩
   ·exact z
   ·rw[ha]at e;cases e;exact absurd rfl (d1 _ _)
   ·rw[G b m]at e;cases e;exact absurd rfl d2
  have O:∀{b:Aw} {m:Ae},C.heap.Ns b m->(Zbi C.heap H).Ns b m:=fun{b m} ⟨o,es,ep,e,d,r⟩=>⟨o,es,ep,I e (by
   grind),d,r⟩
  have hKb:K.In (Zbi C.heap H):=fun b o e=>I (KX b o e) (by
   rcases hO b with z|⟨rfl,ob,xs,z⟩|⟨m,_⟩
   ·exact z
   ·rw[hK (by rw[z];simp)]at e;cases e
   ·have g:=KX b o e;rw[G b m]at g;cases g;have h2:=Qca.mp hKt (b,_) (PySem.W.mem_of_lookupK e);exact absurd (show false=true from h2) Qa7)
  have hM:Mod K mg (Zbi C.heap H):=⟨hKb,O hns,⟨mb,O hb,hbb⟩,let⟨mc,h1,h2⟩:=hlim;⟨mc,O h1,h2⟩⟩;have hB:yc mg (Zbi C.heap H):=by
   obtain⟨bm,ob,b1,b2,b3,b4,b5,b6⟩:=hbm.ex;exact⟨bm,ob,b1,b2,I b3 (noA b3 (fun its n z=>by rw[b6]at z;cases z) (fun z=>by rw[b4]at z;cases z)),b4,b5,b6⟩
  have hC:∀q∈D,PySem.W.CodeHd (Zbi C.heap H) q.1 q.2:=fun q L=>by
   obtain⟨o,vs',file,tf,flags,tg,inF,text,tt,e1,r1,r2,r3⟩:=(hT q L).1;exact⟨o,vs',file,tf,flags,tg,inF,text,tt,I e1 (noA e1 (fun its n z=>by rw[r2]at z;cases z) (fun z=>by rw[r1]at z;cases z)),r1,r2,r3⟩
  have e0:Zkl P w K mg (Zbi C.heap H) callerA [] C H:=⟨rfl,hM,fun b o e=>Zj4 e,Qhl (Zbj _ _),trivial,fun b hb=>absurd (show b∈([]:List Aw)from hb) (by simp),hok,.of_eq hg⟩;refine Qfe ((F _ hKb (O hns) hC hB).run callerA [] C H ⟨[.ref a],[]⟩ [.ref a] [.ref a] _ _ hr e0 (hbind C (.ref a)) (.cons rfl .nil) (hsp H hTb hS)) fun r s' h=>?_;cases r with
  |error e=>exact(hCX H e s' h).elim
  |ok fl=>
   cases fl with
   |next=>exact False.elim h
   |brk=>exact False.elim h
   |cont=>exact False.elim h
   |ret u=>
    obtain⟨v,H',os,bare,un,Z,r',q⟩:=h;have q':v=.bl true:=q;subst q';obtain rfl:u=Value.bool true:=r';have all:∀b o,C.heap.get? b=some o->s'.heap.get? b=some o\/∃J,b∈D.map (·.2)/\o=PySem.W.tabObj #[]/\s'.heap.get? b=some (PySem.W.tabObj (#[]++J)):=fun b o e=>by
     rcases hO b with z|⟨_,ob,xs,z⟩|⟨m,z⟩
     ·exact .inl (un.keep b o e z (by intro z;exact absurd (show b∈([]:List Aw)from z) (by simp)) (by simp))
     ·have z2:=un.frzs b ob _ z;obtain⟨e1,_⟩:=hok b _ z;obtain⟨e2,_⟩:=Z b _ z2;rw[e]at e1;cases e1;exact .inl e2
     ·obtain⟨J,z2⟩:=un.tbls b _ z;rw[G b m]at e;cases e;exact .inr ⟨J,m,rfl,Z b _ z2⟩
    refine⟨rfl,⟨fun b o e=>?_,fun b o e=>?_⟩,os,bare⟩
    ·rcases all b o e with z|⟨J,m,rfl,z⟩
     ·exact .inl z
     ·obtain⟨q,L,rfl⟩:=Qau.mp m;exact .inr (.inl ⟨((hT q L).1.tab (hT q L).2).isCodeTable,rfl,#[],J,rfl,z⟩)
    ·rcases all b o e with z|⟨J,_,_,z⟩
     ·exact⟨_,z⟩
     ·exact⟨_,z⟩
 have tm:∀q∈D,q.2∈D.map (·.2):=fun q L=>Qb6 L;cases hk:K.lookup a with
 |some o=>
  have e:=KX a o hk;rw[ha]at e;cases e;refine Y (fun b=>if b∈D.map (·.2)then some (.tbl #[])else none) (fun q L=>Qa3 (tm q L)) (fun b=>?_) (.inr ⟨_,vs.toArray,_,hk,rfl,rfl,rfl,by rw[Qas,lenV];exact hl,by simpa using rv⟩) (fun b u z=>?_) (fun z=>absurd (Qay aT) z)
  ·by_cases m:b∈D.map (·.2)
   ·exact .inr (.inr ⟨m,Qa3 m⟩)
   ·exact .inl (Qay m)
  ·by_cases m:b∈D.map (·.2)
   ·have M:=(Qa3 m).symm.trans z;cases M;exact G b m
   ·have M:=(Qay m).symm.trans z;cases M
 |none=>
  refine Y (fun b=>if b∈D.map (·.2)then some (.tbl #[])else if b=a then some (.frz {cls:=.type "list",data:=.seq vs.toArray} (.lst (ns.map V.int)))else none) (fun q L=>Qa3 (tm q L)) (fun b=>?_) (.inl (.inr ⟨{cls:=.type "list",data:=.seq vs.toArray},(Qay aT).trans (Qa3 rfl)⟩)) (fun b u z=>?_) fun _=>hk
  ·grind
  ·by_cases m:b∈D.map (·.2)
   ·have M:=(Qa3 m).symm.trans z;cases M;exact G b m
   ·by_cases hb:b=a
    ·have M:=((Qay m).trans (Qa3 hb)).symm.trans z;cases M;subst hb;exact⟨ha,by rw[Qab];exact hl,vs,_,rv,ha⟩
    ·have M:=((Qay m).trans (Qay hb)).symm.trans z;cases M
def walk_ofT{l:PySem.W.OpenLaw}{k:Nat}{XP:(Ae)->Heap->Prop}{YP:Au->Heap->Prop}{d:DefRec}{K:Params->PySem.W.Frag}{CX:Au->CXT}{sp:Au->Sp}{q:List (Aw×Aw)}
  (hn:l.most=some n) (hn2:n<=sizeLine) (hdf:d.params.defaults=[]) (hr:WK k callerA)
  (hY:∀(w:Au) (h:Heap),YP w h->(K w.params).In h)
  (J:∀(w:Au) (M:ExcName->Option Av) (mg mb:Ae) (h:Heap),Top P (PySem.W.looseW P N) M mg mb h->(K w.params).In h->PySem.W.TabsAt q h) (Z:∀w:Au,PySem.W.noTabs (K w.params)=true)
  (F:∀(w:Au) (mg:Ae) (O:Aw) (h:Heap),(K w.params).In h->h.Ns mainGlobals mg->mg d.name=some (.ref O)->
   ∃fd:Ao,(∀(s:As) (u:Av),BindsTo s fd ⟨[u],[]⟩ [(x,u)]) /\
    ∀base:Heap,(K w.params).In base->base.Ns mainGlobals mg->(∀P∈q,PySem.W.CodeHd base P.1 P.2)->yc mg base->Y5 l.prog w (K w.params) mg base (CX w) k O fd [x] (sp w))
  (hsp:∀(w:Au) (H:Hp) (a:Aw) (ns:Ak),ns.length<=n->(∀P∈q,H P.2=some (.tbl #[]))->SqL (K w.params) H a (ns.map V.int)->sp w [.ref a] H (fun v _=>v=.bl true) fun _ _ _=>False)
  (hCX:∀(w:Au) (H:Hp) (s:As) (e:Av) (s':As),CX w [] H s (fun _ _ _=>False) e s'->False):
  PySem.W.WalkO P N XP YP l.row.toRowW d [] (fun f vs=>PySem.call f vs):=by
 refine Att.attach_call hn hdf fun w s₀ I mg mb O o pm cd doc a vs ns G Y ho hd hcd hmg L D C hg=>?_;have KX:=hY w _ Y;obtain⟨fd,hb,hF⟩:=F w mg O _ KX G.T.g hmg;exact Zde KX G.T.g G.T.b G.T.builtins G.T.nolimit hg L D (Qbc C hn2) hr (J w _ mg mb _ G.T KX) (Z w) ⟨G.T.bmain⟩ hF hb (fun H hTb hS=>hsp w H a ns C hTb hS) fun H e s'=>hCX w H I e s'
theorem Fun.okC{mg:Ae}{base:Heap}{qual:Str}{st:Ay}{fd:Ao}{ps:Ai}{k:Nat}{sp:Sp}(F:Fun K x qual st f fd)(S:Zv N ps (Zh st))(len:∀vs H Q E,sp vs H Q E->vs.length=ps.length)
  (C:∀(A:Ar) (outer:List Env) (s:As) (H:Hp) (vs:A2) (Q:VK) (E:XK),WK k (A.deeper (envOfC qual (Zh st) s.heap.objs.size f fd.code))->sp vs H Q E->
   ∃t,PSs (Zf4 CX0 P w K mg base N qual (Zh st) f fd.code A outer s H E).nox (Xo st) t/\t {nx:=fun _ H'=>Q .non H',rt:=Q} (start N vs) H):Y5 P w K mg base CX0 (k+1) f fd ps sp:=by
 obtain⟨oc,od,kV,O,Z,Y,J,ct,I,rfl,L,D⟩:=F.ex;refine Zn5 L D S len fun A outer s H vs Q E M G=>?_;obtain⟨t,h,q⟩:=C A outer s H vs Q E M G;exact⟨t,h.nox,q⟩
section
variable {prog:Aq}{w:Au}{A:Ar}{E:Ab}{s:As}
end
section
variable {prog:Aq}{w:Au}{K:Type}[DecidableEq K]{knd:KeyKind prog w K}{A:Ar}{R:Result->Shared->Prop}{d l it:Aw}{items:Ag}
end
def Zgs{x:V}(r:Vals [x,y] M):∃a b,M=[a,b]/\RelV x a/\RelV y b:=by
 cases r with
 |cons h1 t=>
  cases t with
  |cons h2 t=>
   cases t;exact⟨_,_,rfl,h1,h2⟩
structure QPs(X:Cx)(pos:Pos)(keys:List (Option Ax))(values:An)(trs:List (TE×TE)):Prop where
 out:PPs X pos keys values trs
def Zlk:QPs X p [] [] []:=⟨Zk6⟩
def Zgt{k v:Ax}{ks:List (Option Ax)}{vs:An}{tk:TE}{q:List (TE×TE)}(F:QE X k tk)(C:QE X v u)(D:QPs X p ks vs q):QPs X p (some k::ks) (v::vs) ((tk,u)::q):=⟨Zgj F.out C.out D.out⟩
def Zll{keys:List (Option Ax)}{q:List (TE×TE)}(h:QPs X p keys A q)(C:keys.all (·.isSome)=true)(F:keys.length=A.length)(G:keys≠[])(D:keys.length<=15):QE X (.Dict keys A p) (Zog q):=⟨Zk7 h.out C F G D⟩
end L2
namespace ZpT
def zO (f0:Av) (b:Bool) (TI TO:Aw):Obj:={cls:=.type "zip",dict:=none,data:=.fields #[f0,.bool b,.bool false,.ref TI,.ref TO],slots:=#[]}
def F0(f0:Av):Prop:=f0=.none\/∃T:Aw,f0=rawInt T
structure Ap(z TI TO i1 i2:Aw):Prop where
 TIz:TI≠z
 TOz:TO≠z
 i1z:i1≠z
 i2z:i2≠z
 TITO:TI≠TO
 TIi1:TI≠i1
 TIi2:TI≠i2
 TOi1:TO≠i1
 TOi2:TO≠i2
 i12:i1≠i2
section
variable {prog:Aq}{w:Au}{A:Ar}{E:Ab}{s:As}
def alive{Q:Option Obj->Shared->Prop}(h:Q (s.heap.get? a) s):A3 prog w A (loadIfAlive a) Q E s:=fun Γ p _=>h
def Zdf{z:Aw}{f0:Av}{Q:Bool->Shared->Prop}(D:s.heap.get? z=some (zO f0 j a f))(I:F0 f0)
  (h:∀r h' G,h'.get? z=some (zO f0 G a f)->Heap.SameBut z s.heap h'->Q r {s with heap:=h'}):A3 prog w A (Builtin.SmallTypes.ownedTupleIsFree (.ref z)) Q E s:=by
 refine Qaa (Qbw D rfl (x:=f0) rfl ?_);rcases I with rfl|⟨T,rfl⟩
 ·exact Qae (h true s.heap j D ⟨rfl,fun _ _=>rfl⟩)
 ·refine Qaa (alive ?_);cases hT:s.heap.get? (Int.toNat (T:Int))with
  |none=>exact Qae (h true s.heap j D ⟨rfl,fun _ _=>rfl⟩)
  |some o=>
   refine Qaa (Qbw D rfl (x:=.bool j) rfl ?_);cases j
   ·refine Qaa (Qcb D (by simp) fun F C q=>Qae ?_);exact h false F true C q
   ·exact Qae (h false s.heap true D ⟨rfl,fun _ _=>rfl⟩)
end
end ZpT
namespace ZpT
structure Of(z TO i1 i2 l:Aw):Prop where
 z:l≠z
 o:l≠TO
 i:l≠i1
 j:l≠i2
structure St(b1 b2:Bool)(z TI TO i1 i2 l1 l2:Aw)(k1 k2:Nat)(h:Heap):Prop where
 z:∃f0 fb,h.get? z=some (zO f0 fb TI TO)/\F0 f0
 I:IsPair h TI (.ref i1) (.ref i2)
 O:∃a b,IsPair h TO a b
 n1:ZI b1 h i1 l1 k1
 n2:ZI b2 h i2 l2 k2
section
variable {prog:Aq}{w:Au}{A:Ar}{E:Ab}{s:As}
def item{b1 b2:Bool}{z i1 i2 l1 l2:Aw}{xs ys:Ah}{x y:Av}(D:Ap z f Z i1 i2)(D1:Of z Z i1 i2 l1)(D2:Of z Z i1 i2 l2)
  (S:St b1 b2 z f Z i1 i2 l1 l2 n L s.heap) (q1:SeqAt b1 s.heap l1 xs) (q2:SeqAt b2 s.heap l2 ys) (hx:xs[n]?=some x) (hy:ys[L]?=some y)
  (hQ:∀h',St b1 b2 z f Z i1 i2 l1 l2 (n+1) (L+1) h'->IsPair h' s.heap.objs.size x y->
   (∀c o,c≠z->c≠Z->c≠i1->c≠i2->s.heap.get? c=some o->h'.get? c=some o)->Q (.ref s.heap.objs.size) {s with heap:=h'}):
  A3 prog w A (Builtin.«zip.__next__» ⟨[.ref z],[]⟩) (fun fin s'=>∃v,fin=.done (.ret v)/\Q v s') E s:=by
 obtain⟨⟨f0,fb,hz,hf⟩,hTI,⟨a,b,hTO⟩,n1,n2⟩:=S;show wpAny _ _ (field (.ref z) 2 >>= _) _ _ _;refine Qaa (Qbw hz rfl (x:=.bool false) rfl ?_);refine Qaa (Qbw hz rfl (x:=.ref f) rfl ?_);refine Qaa (Qci hTI rfl ?_);refine Qaa (Zdf hz hf fun r h0 fb' hz0 Y=>?_);have hz0':h0.get? z=some (zO f0 fb' f Z):=hz0;have hTO0:IsPair h0 Z a b:=Y.extBut _ _ D.TOz hTO;have n10:ZI b1 h0 i1 l1 n:=n1.mv fun o e=>Y.extBut _ _ D.i1z e;have n20:ZI b2 h0 i2 l2 L:=n2.mv fun o e=>Y.extBut _ _ D.i2z e;have q10:SeqAt b1 h0 l1 xs:=q1.mv fun o e=>Y.extBut _ _ D1.z e;have q20:SeqAt b2 h0 l2 ys:=q2.mv fun o e=>Y.extBut _ _ D2.z e;cases r with
 |true=>
  refine Qaa (Qdg ?_);refine Qaa (Qbw hz0 rfl (x:=.ref Z) rfl ?_);refine Qaa (Qcb hz0 (by simp) fun h₁ hz₁ G=>?_);refine Qaa ?_;refine Qaa (Qaa (Qhe ?_));refine Qaa (WR (n10.mv fun o e=>G.extBut _ _ D.i1z e) (q10.mv fun o e=>G.extBut _ _ D1.z e) hx fun h₂ h1₂ q=>Qae ?_);have hTO₂:IsPair h₂ Z a b:=q.extBut _ _ D.TOi1 (G.extBut _ _ D.TOz hTO0);refine Qaa (Qci hTO₂ rfl ?_);refine Qaa (Qf6 hTO₂ fun I hTO₃ C=>?_);refine Qaa (Qfc (Qae ?_));refine Qaa (Qaa (Qhe ?_));refine Qaa (WR (n20.mv fun o e=>C.extBut _ _ D.TOi2.symm (q.extBut _ _ D.i12.symm (G.extBut _ _ D.i2z e)))
   (q20.mv fun o e=>C.extBut _ _ D2.o (q.extBut _ _ D2.i (G.extBut _ _ D2.z e))) hy fun h₄ h2₄ O=>Qae ?_)
  have hTO₄:IsPair h₄ Z x b:=O.extBut _ _ D.TOi2 hTO₃;refine Qaa (Qci hTO₄ rfl ?_);refine Qaa (Qf6 hTO₄ fun F J M=>?_);replace J:IsPair F Z x y:=J;refine Qaa (Qfc (Qae (Qae ?_)));refine Qaa (Qci J rfl ?_);refine Qaa (Qg0 ?_);have hsz:F.objs.size=s.heap.objs.size:=by rw[M.1,O.1,C.1,q.1,G.1];exact Y.1
  have hz₅:F.get? z=some (zO .ellipsis fb' f Z):=M.extBut _ _ D.TOz.symm (O.extBut _ _ D.i2z.symm (C.extBut _ _ D.TOz.symm (q.extBut _ _ D.i1z.symm hz₁)));have hk₅:∀c o,c≠z->c≠Z->c≠i1->c≠i2->s.heap.get? c=some o->F.get? c=some o:=fun c o c1 c2 c3 c4 e=>
   M.extBut _ _ c2 (O.extBut _ _ c4 (C.extBut _ _ c2 (q.extBut _ _ c3 (G.extBut _ _ c1 (Y.extBut _ _ c1 e)))))
  have h1₅:ZI b1 F i1 l1 (n+1):=h1₂.mv fun o e=>M.extBut _ _ D.TOi1.symm (O.extBut _ _ D.i12 (C.extBut _ _ D.TOi1.symm e));have h2₅:ZI b2 F i2 l2 (L+1):=h2₄.mv fun o e=>M.extBut _ _ D.TOi2.symm e;have hzlt:z<F.objs.size:=Qaq hz₅;refine Qaa ?_;have hz₆:(F.push {cls:=.type "tuple",data:=.seq #[x,y]}).get? z=some (zO .ellipsis fb' f Z):=Qad _ hz₅;refine Qaa (Qcb hz₆ (by simp) fun h₇ hz₇ hs₇=>?_);refine Qcb hz₇ (by simp) fun h₈ hz₈ hs₈=>?_;have up:∀c o,c≠z->F.get? c=some o->h₈.get? c=some o:=fun c o c1 e=>hs₈.extBut _ _ c1 (hs₇.extBut _ _ c1 (Qad _ e));have hT₈:IsPair h₈ F.objs.size x y:=hs₈.extBut _ _ (Qed hzlt) (hs₇.extBut _ _ (Qed hzlt) (Qam _ rfl));rw[hsz]at hz₈ hT₈;refine Qae ⟨_,rfl,?_⟩;rw[hsz];exact hQ h₈ ⟨⟨_,_,hz₈,.inr ⟨_,rfl⟩⟩,up _ _ D.TIz (hk₅ _ _ D.TIz D.TITO D.TIi1 D.TIi2 hTI),⟨_,_,up _ _ D.TOz J⟩,h1₅.mv fun o e=>up _ o D.i1z e,h2₅.mv fun o e=>up _ o D.i2z e⟩ hT₈ fun c o c1 c2 c3 c4 e=>up c o c1 (hk₅ c o c1 c2 c3 c4 e)
 |false=>
  refine Qaa ?_;refine Qaa (Qaa (Qb8 ?_));refine Qaa (WR n10 q10 hx fun h₂ h1₂ q=>Qae (Qae ?_));refine Qaa (Qaa (Qb8 ?_));refine Qaa (WR (n20.mv fun o e=>q.extBut _ _ D.i12.symm e) (q20.mv fun o e=>q.extBut _ _ D2.i e) hy fun I h2₃ C=>Qae (Qae (Qae ?_)));refine Qaa (Qg0 (hsz:=(show 2<=sizeLine by decide)) (Qae ⟨_,rfl,?_⟩));have hsz:I.objs.size=s.heap.objs.size:=by rw[C.1,q.1];exact Y.1
  have hk₃:∀c o,c≠z->c≠i1->c≠i2->s.heap.get? c=some o->I.get? c=some o:=fun c o c1 c3 c4 e=>C.extBut _ _ c4 (q.extBut _ _ c3 (Y.extBut _ _ c1 e));have zz:I.get? z=some (zO f0 fb' f Z):=C.extBut _ _ D.i2z.symm (q.extBut _ _ D.i1z.symm hz0');have hT:IsPair (I.push {cls:=.type "tuple",data:=.seq #[x,y]}) I.objs.size x y:=Qam _ rfl;rw[hsz]at hT ⊢;have up:∀c o,I.get? c=some o->(I.push {cls:=.type "tuple",data:=.seq #[x,y]}).get? c=some o:=fun c o e=>Qad _ e;exact hQ _ ⟨⟨_,_,up _ _ zz,hf⟩,up _ _ (hk₃ _ _ D.TIz D.TIi1 D.TIi2 hTI),⟨_,_,up _ _ (hk₃ _ _ D.TOz D.TOi1 D.TOi2 hTO)⟩,h1₂.mv fun o e=>up _ _ (C.extBut _ _ D.i12 e),h2₃.mv fun o e=>up _ _ e⟩ hT fun c o c1 c2 c3 c4 e=>up c o (hk₃ c o c1 c3 c4 e)
end
end ZpT
namespace ZpT
section
variable {prog:Aq}{w:Au}{A:Ar}{E:Ab}{s:As}
def fin{b1 b2:Bool}{z i1 i2 l1 l2:Aw}{xs ys:Ah}{Q:Fin->Shared->Prop}(hh:A.handled=none)(D:Ap z f Z i1 i2)(D1:Of z Z i1 i2 l1)(D2:Of z Z i1 i2 l2)
  (S:St b1 b2 z f Z i1 i2 l1 l2 n L s.heap) (q1:SeqAt b1 s.heap l1 xs) (q2:SeqAt b2 s.heap l2 ys) (hend:xs[n]?=none\/ys[L]?=none)
  (hE:∀h' e,(∀c o,c≠z->c≠Z->c≠i1->c≠i2->s.heap.get? c=some o->h'.get? c=some o)->(∃o,h'.get? e=some o/\o.cls=.type "StopIteration")->E (.ref e) {s with heap:=h'}):
  A3 prog w A (Builtin.«zip.__next__» ⟨[.ref z],[]⟩) Q E s:=by
 obtain⟨⟨f0,fb,hz,hf⟩,hTI,⟨a,b,hTO⟩,n1,n2⟩:=S;show wpAny _ _ (field (.ref z) 2 >>= _) _ _ _;refine Qaa (Qbw hz rfl (x:=.bool false) rfl ?_);refine Qaa (Qbw hz rfl (x:=.ref f) rfl ?_);refine Qaa (Qci hTI rfl ?_);refine Qaa (Zdf hz hf fun r h0 fb' hz0 I=>?_);have hTO0:IsPair h0 Z a b:=I.extBut _ _ D.TOz hTO;have n10:ZI b1 h0 i1 l1 n:=n1.mv fun o e=>I.extBut _ _ D.i1z e;have n20:ZI b2 h0 i2 l2 L:=n2.mv fun o e=>I.extBut _ _ D.i2z e;have q10:SeqAt b1 h0 l1 xs:=q1.mv fun o e=>I.extBut _ _ D1.z e;have q20:SeqAt b2 h0 l2 ys:=q2.mv fun o e=>I.extBut _ _ D2.z e;cases r with
 |true=>
  refine Qaa (Qdg ?_);refine Qaa (Qbw hz0 rfl (x:=.ref Z) rfl ?_);refine Qaa (Qcb hz0 (by simp) fun h₁ hz₁ F=>?_);refine Qaa ?_;refine Qaa (Qaa (Qhe ?_));cases hx:xs[n]? with
  |none=>
   refine Qaa (jl hh (n10.mv fun o e=>F.extBut _ _ D.i1z e) (q10.mv fun o e=>F.extBut _ _ D1.z e) hx fun G e q he=>?_);obtain⟨oe,J,hce⟩:=he;have hz₂:G.get? z=some (zO .ellipsis fb' f Z):=q _ _ D.i1z.symm hz₁;have hez:e≠z:=fun x=>by subst x;rw[hz₂]at J;cases J;simp[zO]at hce
   refine Qcb hz₂ (by simp) fun M _ C=>hE M e (fun c o Y _ c3 _ x=>C.extBut _ _ Y (q _ _ c3 (F.extBut _ _ Y (I.extBut _ _ Y x)))) ⟨oe,C.extBut _ _ hez J,hce⟩
  |some x=>
   have hy:ys[L]?=none:=by grind
   refine Qaa (WR (n10.mv fun o e=>F.extBut _ _ D.i1z e) (q10.mv fun o e=>F.extBut _ _ D1.z e) hx fun G h1₂ q=>Qae ?_);have O:IsPair G Z a b:=q.extBut _ _ D.TOi1 (F.extBut _ _ D.TOz hTO0);refine Qaa (Qci O rfl ?_);refine Qaa (Qf6 O fun M hTO₃ C=>?_);refine Qaa (Qfc (Qae ?_));refine Qaa (Qaa (Qhe ?_));refine Qaa (jl hh (n20.mv fun o e=>C.extBut _ _ D.TOi2.symm (q.extBut _ _ D.i12.symm (F.extBut _ _ D.i2z e)))
    (q20.mv fun o e=>C.extBut _ _ D2.o (q.extBut _ _ D2.i (F.extBut _ _ D2.z e))) hy fun h₄ e hs₄ he=>?_)
   obtain⟨oe,J,hce⟩:=he;have hz₄:h₄.get? z=some (zO .ellipsis fb' f Z):=hs₄ _ _ D.i2z.symm (C.extBut _ _ D.TOz.symm (q.extBut _ _ D.i1z.symm hz₁));have hez:e≠z:=fun x=>by subst x;rw[hz₄]at J;cases J;simp[zO]at hce
   refine Qcb hz₄ (by simp) fun h₅ _ hs₅=>hE h₅ e (fun c o Y c2 c3 c4 x=>hs₅.extBut _ _ Y (hs₄ _ _ c4 (C.extBut _ _ c2 (q.extBut _ _ c3 (F.extBut _ _ Y (I.extBut _ _ Y x)))))) ⟨oe,hs₅.extBut _ _ hez J,hce⟩
 |false=>
  refine Qaa ?_;refine Qaa (Qaa (Qb8 ?_));cases hx:xs[n]? with
  |none=>exact Qaa (jl hh n10 q10 hx fun G e q he=>hE G e (fun c o Y _ c3 _ x=>q _ _ c3 (I.extBut _ _ Y x)) he)
  |some x=>
   have hy:ys[L]?=none:=by grind
   refine Qaa (WR n10 q10 hx fun G h1₂ q=>Qae (Qae ?_));refine Qaa (Qaa (Qb8 ?_));exact Qaa (jl hh (n20.mv fun o e=>q.extBut _ _ D.i12.symm e) (q20.mv fun o e=>q.extBut _ _ D2.i e) hy fun M e C he=>hE M e (fun c o Y _ c3 c4 x=>C _ _ c4 (q.extBut _ _ c3 (I.extBut _ _ Y x))) he)
def next_item{b1 b2:Bool}{z i2 l1 l2:Aw}{xs ys:Ah}{x y:Av}{Q:Aa}(D:Ap z a f Z i2)(G:Of z f Z i2 l1)(M:Of z f Z i2 l2)
  (S:St b1 b2 z a f Z i2 l1 l2 i n s.heap) (C:SeqAt b1 s.heap l1 xs) (I:SeqAt b2 s.heap l2 ys) (J:xs[i]?=some x) (Y:ys[n]?=some y)
  (L:∀h',St b1 b2 z a f Z i2 l1 l2 (i+1) (n+1) h'->IsPair h' s.heap.objs.size x y->
   (∀c o,c≠z->c≠f->c≠Z->c≠i2->s.heap.get? c=some o->h'.get? c=some o)->Q (some (.ref s.heap.objs.size)) {s with heap:=h'}):
  A3 prog w A (pyNext (.ref z)) Q E s:=by
 obtain⟨f0,fb,O,hf⟩:=S.z;have q:s.TypeIs (.ref z) "zip" :=⟨_,O,rfl⟩;exact Qaa (Qdk (wpAny_callSpecial?_slot (name:=Str.ofString "__next__") q Qfq
  (Qbe Qfq q F.entry_zip_next (item D G M S C I J Y fun h' a1 a2 a3=>Qae (L h' a1 a2 a3)) (F.args_zip_next_1 _))))
def next_end{b1 b2:Bool}{z i2 l1 l2:Aw}{xs ys:Ah}{Q:Aa}(hh:A.handled=none)(D:Ap z a f Z i2)(I:Of z f Z i2 l1)(M:Of z f Z i2 l2)
  (S:St b1 b2 z a f Z i2 l1 l2 i n s.heap) (G:SeqAt b1 s.heap l1 xs) (J:SeqAt b2 s.heap l2 ys) (q:xs[i]?=none\/ys[n]?=none)
  (L:∀h',(∀c o,c≠z->c≠f->c≠Z->c≠i2->s.heap.get? c=some o->h'.get? c=some o)->Q none {s with heap:=h'}):
  A3 prog w A (pyNext (.ref z)) Q E s:=by
 obtain⟨f0,fb,Y,hf⟩:=id S.z;have C:s.TypeIs (.ref z) "zip" :=⟨_,Y,rfl⟩;refine Qaa (Qdk (wpAny_callSpecial?_slot (name:=Str.ofString "__next__") C Qfq (Qbe Qfq C F.entry_zip_next ?_ (F.args_zip_next_1 _))));refine fin hh D I M S G J q fun h' e hk he=>?_;obtain⟨o,ho,O⟩:=he;exact Qaa (Qdh (T:= "StopIteration") (b:=true) ⟨o,ho,O⟩ Qfy (Qae (L _ hk)))
def iter_self{z:Aw}{f0:Av}(C:s.heap.get? z=some (zO f0 j a f))(h:Q (.ref z) s):A3 prog w A (pyIter (.ref z)) Q E s:=by
 have q:s.TypeIs (.ref z) "zip" :=⟨_,C,rfl⟩;refine Qfw q F.slot_zip_iter (Qbe F.slot_zip_iter q F.entry_zip_iter ?_ (F.args_zip_iter_1 _));exact Qae ⟨_,rfl,"zip",_,q,Qfq.lookup,h⟩
end
end ZpT
namespace ZpT
def hz1(b1:Bool)(h:Heap)(l1:Aw):Heap:=h.push (itO b1 l1)
def hz2(b1 b2:Bool)(h:Heap)(l1 l2:Aw):Heap:=(hz1 b1 h l1).push (itO b2 l2)
def hz3 (b1 b2:Bool) (h:Heap) (l1 l2:Aw):Heap:=(hz2 b1 b2 h l1 l2).push {cls:=.type "tuple",data:=.seq #[.ref h.objs.size,.ref (hz1 b1 h l1).objs.size]}
def hz4 (b1 b2:Bool) (h:Heap) (l1 l2:Aw):Heap:=(hz3 b1 b2 h l1 l2).push {cls:=.type "tuple",data:=.seq #[.none,.none]}
def hz5(b1 b2:Bool)(h:Heap)(l1 l2:Aw):Heap:=(hz4 b1 b2 h l1 l2).push (zO .none false (hz2 b1 b2 h l1 l2).objs.size (hz3 b1 b2 h l1 l2).objs.size)
theorem WO(b1 b2:Bool)(l1 l2:Aw)(xs ys:Ah):
  Meets (Builtin.«zip.__new__» ⟨[.type "zip",.ref l1,.ref l2],[]⟩) (fun _ R s=>SeqAt b1 s.heap l1 xs/\SeqAt b2 s.heap l2 ys /\
   R (.ok (.ret (.ref (hz4 b1 b2 s.heap l1 l2).objs.size))) {s with heap:=hz5 b1 b2 s.heap l1 l2}):=
 .of_wp fun prog w A R s h=>by
  obtain⟨G,g,d,tk,os⟩:=s;obtain⟨C,q,h⟩:=h;have I:=sub_zip;have D:SeqAt b1 (Shared.heap ⟨G,g,d,tk,os⟩) l1 xs:=C;have F:SeqAt b2 (Shared.heap ⟨G.push (itO b1 l1),g,d,tk,os⟩) l2 ys:=q.mv fun o e=>Qad _ e
  wp_walk using XX D,XX F
  exact⟨_,rfl,h⟩
section
variable {prog:Aq}{w:Au}{A:Ar}{E:Ab}{s:As}
def call_new{b1 b2:Bool}{l1 l2:Aw}{xs ys:Ah}(D:SeqAt b1 s.heap l1 xs)(J:SeqAt b2 s.heap l2 ys)
  (h:∀h',St b1 b2 (s.heap.objs.size+4) (s.heap.objs.size+2) (s.heap.objs.size+3) s.heap.objs.size (s.heap.objs.size+1) l1 l2 0 0 h'->(∀c o,s.heap.get? c=some o->h'.get? c=some o)->Q (.ref (s.heap.objs.size+4)) {s with heap:=h'}):
  A3 prog w A (call (.type "zip") [.ref l1,.ref l2]) Q E s:=by
 refine callType_new F.called_zip (by decide) (F.typeCall_zip_2 _ _) (F.newCall_zip_2 _ _) (fun G=>F.args_object_init_3 G _ _) F.entry_zip_new (WO b1 b2 l1 l2 xs ys) ⟨D,J,?_⟩;have L:(hz1 b1 s.heap l1).objs.size=s.heap.objs.size+1:=Qb2 ..;have I:(hz2 b1 b2 s.heap l1 l2).objs.size=s.heap.objs.size+2:=by unfold hz2;rw[Qb2,L]
 have q:(hz3 b1 b2 s.heap l1 l2).objs.size=s.heap.objs.size+3:=by unfold hz3;rw[Qb2,I]
 have Y:(hz4 b1 b2 s.heap l1 l2).objs.size=s.heap.objs.size+4:=by unfold hz4;rw[Qb2,q]
 have C:(hz5 b1 b2 s.heap l1 l2).get? (hz4 b1 b2 s.heap l1 l2).objs.size=some (zO .none false (hz2 b1 b2 s.heap l1 l2).objs.size (hz3 b1 b2 s.heap l1 l2).objs.size):=Qam _ rfl;have O:(hz5 b1 b2 s.heap l1 l2).get? (hz3 b1 b2 s.heap l1 l2).objs.size=some {cls:=.type "tuple",data:=.seq #[.none,.none]}:=Qad _ (Qam _ rfl);have Z:(hz5 b1 b2 s.heap l1 l2).get? (hz2 b1 b2 s.heap l1 l2).objs.size=some {cls:=.type "tuple",data:=.seq #[.ref s.heap.objs.size,.ref (hz1 b1 s.heap l1).objs.size]}:=Qad _ (Qad _ (Qam _ rfl));have M:(hz5 b1 b2 s.heap l1 l2).get? (hz1 b1 s.heap l1).objs.size=some (itO b2 l2):=Qad _ (Qad _ (Qad _ (Qam _ rfl)));have g1:(hz5 b1 b2 s.heap l1 l2).get? s.heap.objs.size=some (itO b1 l1):=Qad _ (Qad _ (Qad _ (Qad _ (Qam _ rfl))));rw[I,q,Y]at C;rw[L,I]at Z;rw[q]at O;rw[L]at M;rw[Y];exact⟨⟨_,C,rfl⟩,h _ ⟨⟨_,_,C,.inl rfl⟩,Z,⟨_,_,O⟩,qM g1,qM M⟩ fun c o x=>
  Qad _ (Qad _ (Qad _ (Qad _ (Qad _ x))))⟩
theorem St.other{b1 b2:Bool}{z i1 i2 l1 l2:Aw}{h':Heap}(D:Ap z f Z i1 i2)(S:St b1 b2 z f Z i1 i2 l1 l2 i n h){f0:Av}(q:h'.get? z=some (zO f0 j f Z))(C:F0 f0)(hs:Heap.SameBut z h h'):St b1 b2 z f Z i1 i2 l1 l2 i n h':=
 ⟨⟨f0,j,q,C⟩,hs.extBut _ _ D.TIz S.I,(let⟨a,b,e⟩:=S.O;⟨a,b,hs.extBut _ _ D.TOz e⟩),S.n1.mv fun o e=>hs.extBut _ _ D.i1z e,S.n2.mv fun o e=>hs.extBut _ _ D.i2z e⟩
def go_any{b1 b2:Bool}{z i2 l1 l2 T:Aw}{Q:Unit->Shared->Prop}(D:Ap z a f Z i2)(S:St b1 b2 z a f Z i2 l1 l2 i L s.heap)
  (h:∀h',St b1 b2 z a f Z i2 l1 l2 i L h'->Heap.SameBut z s.heap h'->Q () {s with heap:=h'}):A3 prog w A (letOwnedTupleGo e (.ref z) (.ref T)) Q E s:=by
 have F:Q () s:=h s.heap S ⟨rfl,fun _ _=>rfl⟩;obtain⟨f0,I,G,J⟩:=id S.z;have tup:A3 prog w A (do
   let o <-load z
   match o.cls,o.data with
   |.type n,.fields vs=>
    if["enumerate","zip","dict_itemiterator","dict_reverseitemiterator","odict_iterator","itertools.zip_longest","itertools.pairwise"].contains n&&vs[0]? == some (rawInt T)then
     rule "for.unpacks-the-owned-tuple"
     updateField z 0 .none
   |_,_=>pure ()) Q E s:=by
  refine Qaa (wpAny_load G ?_);show wpAny _ _ (if(["enumerate","zip","dict_itemiterator","dict_reverseitemiterator","odict_iterator","itertools.zip_longest","itertools.pairwise"].contains "zip" && (#[f0,.bool I,.bool false,.ref a,.ref f]:Ah)[0]? == some (rawInt T))=true then _ else _) Q E s;split
  ·refine Qaa (Qdg ?_);exact Qcb G (by simp) fun h' C q=>h h' (S.other D (f0:=.none) C (.inl rfl) q) q
  ·exact Qae F
 cases e<;>first
  |exact tup
  |exact Qae F
end
end ZpT
namespace L2
open ZpT (St Ap Of SeqAt ZI)
def Itz(K:Af)(b1 b2:Bool)(a1 a2:Aw):It:=
  ⟨fun i H=>∃xs ys x y,SqB K b1 H a1 xs/\SqB K b2 H a2 ys/\xs[i]?=some x/\ys[i]?=some y,
   fun i H v H'=>∃p,H p=none/\v=.ref p/\∀xs ys x y,SqB K b1 H a1 xs->SqB K b2 H a2 ys->xs[i]?=some x->ys[i]?=some y->H'=upd H p (.tup [x,y]),
   fun i H=>∃xs ys,SqB K b1 H a1 xs/\SqB K b2 H a2 ys/\(xs.length<=i\/ys.length<=i)⟩
def Zgu{tg:Ax}{b1 b2:Bool}{z i2 a1 a2:Aw}(D:Ap z a f Z i2)(D1:Of z f Z i2 a1)(D2:Of z f Z i2 a2):
  Turn P w K tg (Itz K b1 b2 a1 a2) [z,a,f,Z,i2] z (fun i h=>ZpT.St b1 b2 z a f Z i2 a1 a2 i i h)where
 mem:=by simp
 obj:=fun i h st b C=>by
  obtain⟨⟨f0,fb,M,L⟩,F,⟨x,y,G⟩,n1,n2⟩:=st;simp only[Qao,Qba,Qdz]at C;rcases C with rfl|rfl|rfl|rfl|rfl
  ·exact⟨_,M,fun v q=>by
    have q':Data.fields _=Data.cell v:=q;cases q'⟩
  ·grind
  ·grind
  ·exact n1.ob
  ·exact n2.ob
 keep:=fun i h h' st k=>by
  obtain⟨⟨f0,fb,M,L⟩,F,⟨x,y,G⟩,n1,n2⟩:=st;exact⟨⟨f0,fb,k z (by simp) _ M,L⟩,k a (by simp) _ F,⟨x,y,k f (by simp) _ G⟩,n1.mv fun o e=>k Z (by simp) o e,n2.mv fun o e=>k i2 (by simp) o e⟩
 item:=by
  intro X hP hw hK hc i pins s σ H E I L st hg;subst hP hw hK;obtain⟨xs,ys,x,y,q1,q2,hx,hy⟩:=hg;obtain⟨its1,r1,p1,z1⟩:=I.sqB q1;obtain⟨its2,r2,p2,z2⟩:=I.sqB q2;obtain⟨u1,hu1,ru1⟩:=r1.get hx;obtain⟨u2,hu2,ru2⟩:=r2.get hy;have olt:∀b∈[z,a,f,Z,i2],b<s.heap.objs.size:=fun b C=>by
   obtain⟨⟨f0,fb,M,L⟩,F,⟨x,y,G⟩,n1,n2⟩:=st;simp only[Qao,Qba,Qdz]at C;rcases C with rfl|rfl|rfl|rfl|rfl
   ·exact Qaq M
   ·exact Qaq F
   ·exact Qaq G
   ·obtain⟨o,ho,_⟩:=n1.ob;exact Qaq ho
   ·obtain⟨o,ho,_⟩:=n2.ob;exact Qaq ho
  refine ZpT.next_item D D1 D2 st p1 p2 (x:=u1) (y:=u2) (by simpa using hu1) (by simpa using hu2) fun h' st' hT hk=>?_;refine⟨_,rfl,ZpT.go_any (s:={s with heap:=h'}) D st' fun h2 st2 hs2=>?_⟩;have J:Heap.SameBut z h' h2:=hs2;have I1:Inv X pins σ (upd H s.heap.objs.size (.tup [x,y])) {s with heap:=s.heap.push {cls:=.type "tuple",data:=.seq #[u1,u2]},toks:=s.toks}:=
   I.laid (fun b o y=>Qad _ y) (Qaj _) ⟨kE,[u1,u2],.cons ru1 (.cons ru2 .nil),kI.new _ _⟩
  have Y:∀b∈[z,a,f,Z,i2],kF X pins (upd H s.heap.objs.size (.tup [x,y])) b:=fun b C=>by
   obtain⟨a0,ar⟩:=L b C;exact⟨by rw[Zk (Qbf (olt b C))];exact a0,ar⟩
  have I2:Inv X pins σ (upd H s.heap.objs.size (.tup [x,y])) {s with heap:=h2,toks:=s.toks}:=by
   refine GB (s:={s with heap:=s.heap.push {cls:=.type "tuple",data:=.seq #[u1,u2]},toks:=s.toks}) I1 Y fun b o C q=>?_;have O:b≠z:=fun e=>C (by simp[e]);rcases Heap.get?_push_cases q with⟨rfl,rfl⟩|q
   ·exact(J.2 _ O).trans hT
   ·exact(J.2 b O).trans (hk b o O (fun e=>C (by simp[e])) (fun e=>C (by simp[e])) (fun e=>C (by simp[e])) q)
  refine⟨.ref s.heap.objs.size,_,I2,rfl,⟨_,I.hok.fresh (Qaj _),rfl,fun xs' ys' x' y' q1' q2' hx' hy'=>?_⟩,st2,fun b C=>(Y b C).1⟩;rw[I.sqB_inj q1' q1,hx]at hx';rw[I.sqB_inj q2' q2,hy]at hy';cases hx';cases hy';rfl
 done:=by
  intro X hP hw hK hc i pins s σ H E I L st hg;subst hP hw hK;obtain⟨xs,ys,q1,q2,hx⟩:=hg;obtain⟨its1,r1,p1,z1⟩:=I.sqB q1;obtain⟨its2,r2,p2,z2⟩:=I.sqB q2;have e1:=r1.length;have e2:=r2.length;refine ZpT.next_end (I.ok.hd hc) D D1 D2 st p1 p2 (by simp;lia) fun h' hk=>⟨rfl,?_⟩;exact GB (t':=s.toks) I L fun b o C q=>hk b o (fun e=>C (by simp[e])) (fun e=>C (by simp[e])) (fun e=>C (by simp[e])) (fun e=>C (by simp[e])) q
 self:=fun _ _ _ _ _ st h=>let⟨_,_,M,_⟩:=st.z;ZpT.iter_self M h
def bt_zip:bootBuiltins "zip" = some (.type "zip"):=by decide +kernel
end L2
namespace L2
open ZpT (Ap Of SeqAt ZI)
section
variable {X:Cx}{A:Ar}{b1 b2:Bool}{z TI TO i1 i2 a1 a2 S:Aw}{xs ys:A2}{pins:Ac}{σ:St}{R:Result->Shared->Prop}
end
end L2
namespace L2
open ZpT (Ap Of SeqAt ZI)
def zfp(n:Nat):List Aw:=[n+4,n+2,n+3,n,n+1]
def zap(n:Nat):Ap (n+4) (n+2) (n+3) n (n+1):=by constructor<;>(lia)
def zof{l:Nat}(h:l<n):Of (n+4) (n+3) n (n+1) l:=by constructor<;>(lia)
section
variable {X:Cx}{e1 e2:Ax}{t:TA}{p pos:Pos}{b1 b2:Bool}
def Zi9{b:Bool}{l:Aw}{xs:Ah}(q:SeqAt b h l xs):l<h.objs.size:=by
 cases b
 ·obtain⟨o,ho,_⟩:=(show h.IsList l xs from q);exact Qaq ho
 ·obtain⟨o,ho,_⟩:=(show h.IsTuple l xs from q);exact Qaq ho
def Zgv     {RR:Aw->Addr->List V->List V->Hp->Prop}  (hg:Gl X "zip") (hm:X.mg "zip" = none) (ha:QA X [e1,e2] t) (G:[e1,e2].all ZU=true) (I:Inv X m c H s)
  (h:t c H fun vs H1=>∃a1 a2 xs ys,vs=[.ref a1,.ref a2]/\SqB X.K b1 H1 a1 xs/\SqB X.K b2 H1 a2 ys/\RR a1 a2 xs ys H1)
  (fin:∀a1 a2 xs ys n H1 q,Inv X m c H1 q->SqB X.K b1 H1 a1 xs->SqB X.K b2 H1 a2 ys->RR a1 a2 xs ys H1->a1<n->a2<n->ZpT.St b1 b2 (n+4) (n+2) (n+3) n (n+1) a1 a2 0 0 q.heap->(∀b∈zfp n,kF X m H1 b)->Q (.ref (n+4)) q):
  A4 X (eval (.Call (.Name "zip" p) [e1,e2] [] pos) X.env) Q X.xe s:=by
 rw[Qc3,Qb4]at G;refine Qdd (JL I hg hm bt_zip ?_);refine Qcs (thn (ha.out pos m s c H _ I h) fun us q ⟨vs,H1,D,r1,F⟩=>?_) (Zu G.1) (Xa G.2);obtain⟨a1,a2,xs,ys,rfl,F,M,r⟩:=F;obtain⟨u1,u2,rfl,L,J⟩:=Zgs r1;cases L;cases J;obtain⟨Y,v1,p1,z1⟩:=D.sqB F;obtain⟨Z,v2,p2,z2⟩:=D.sqB M;refine ZpT.call_new p1 p2 fun h' st hk=>?_;refine fin a1 a2 xs ys q.heap.objs.size H1 _ (D.kept (t':=q.toks) hk) F M r (Zi9 p1) (Zi9 p2) st fun b O=>?_;have C:q.heap.objs.size<=b:=by
  simp only[zfp,Qao,Qba,Qdz]at O;rcases O with rfl|rfl|rfl|rfl|rfl
  ·exact Qf3 _ _
  ·exact Qf3 _ _
  ·exact Qf3 _ _
  ·exact Qaj _
  ·exact Qf3 _ _
 exact D.fpOk C (D.hok.fresh C)
def iZip2(K:Af)(b1 b2:Bool)(t:TA):TI:=fun σ H R=>t σ H fun vs H1=>∃a1 a2 xs ys,vs=[.ref a1,.ref a2]/\SqB K b1 H1 a1 xs/\SqB K b2 H1 a2 ys/\R (Itz K b1 b2 a1 a2) H1
def qi_zip  (D:Gl X "zip") (F:X.mg "zip" = none) (ha:QA X [e1,e2] t) (q:[e1,e2].all ZU=true:=by rfl):QI X e (.Call (.Name "zip" p) [e1,e2] [] pos) (iZip2 X.K b1 b2 t):=by
 refine⟨fun pins s σ H R I h=>?_⟩;refine Zgv (b1:=b1) (b2:=b2) (RR:=fun a1 a2 _ _ H1=>R (Itz X.K b1 b2 a1 a2) H1) D F ha q I h fun a1 a2 xs ys n H1 O C M L r l1 l2 st J=>?_;obtain⟨f0,Y,G,_⟩:=id st.z;exact ZpT.iter_self G ⟨n+4,zfp n,_,_,H1,rfl,C,Zgu (zap n) (zof l1) (zof l2),st,J,r⟩
end
end L2
namespace L2
structure Two(scope:Scope)(x x2:Str)(ys:Ai):Prop where
 own:scope.names.lookup x2=some .local
 nd:(x::x2::ys).Nodup
def Zlm(is:Aj)(σ:St)(v w:Option V):St:=v::w::is.map fun i=>(σ[i]?).getD none
def Zdg(K:Af)(is:Aj)(tc:TT)(te:TE)(σ:St)(Q:VK)(J:It)(H1:Hp):Prop:=∃W:Nat->Nat->List V->Hp->Prop,(∃m,W 0 m [] H1)/\∀i m zs H,W i m zs H->
 (J.stop i H/\zs.length<=sizeLine/\∀p,H p=none->Q (.ref p) (upd H p (.lst zs))) \/
 (J.go i H/\zs.length<=sizeLine/\∀x H',J.yld i H x H'->∃a D C,x=.ref a/\SqT K H' a [D,C]/\tc (Zlm is σ (some D) (some C)) H' fun b H2=>if b=true then te (Zlm is σ (some D) (some C)) H2 fun y F=>∃q,q<m/\W (i+1) q (zs++[y]) F else∃q,q<m/\W (i+1) q zs H2)
def tComp2(K:Af)(wi:TI)(is:Aj)(tc:TT)(te:TE):TE:=fun σ H Q=>wi σ H (Zdg K is tc te σ Q)
section
variable {X:Cx}{S scope:Scope}{N:Ai}{x x2:Str}{ys:Ai}{is:Aj}{pins:Ac}{σ:St}{H₂:Hp}{s₂:As}{fp:List Aw}{elt iter:Ax}{px px2 pp pos:Pos}{pq:Nat}{ifs:An}{tc:TT}{te:TE}{wi:TI}
theorem compT2(K:ZP S scope N x ys is)(q:Two scope x x2 ys)(G:X.env.scope=S)(L:X.N=N)(I:S.kind=.function)(D:X.calm=true):Zcq X S scope N x ys is [x,x2] (.Tuple [.Name x px,.Name x2 px2] pq pp) (Znw X.K 2 (jN (WL 0) (jN (WL 1) Znv))) (fun σ C=>∃J F,C=Zlm is σ J F):=
 ⟨K,G,L,I,D,fun _ _ _ _=>Zif D (qJ (jM q.nd rfl (.inl (Qdu K.own)) (.inr (Qdu K.own))) (qJ (jM q.nd rfl (.inl (Qdu q.own)) (.inr (Qdu q.own))) Zbo)),fun _=>⟨none,none,rfl⟩⟩
theorem conv2:∀σ Q J H,Zdg K is tc te σ Q J H->vf (Znw K 2 (jN (WL 0) (jN (WL 1) Znv))) (fun q=>∃F G,q=Zlm is σ F G) tc te Q J H:=fun σ Q J H ⟨W,I,t⟩=>
 ⟨W,I,fun i m zs H w=>(t i m zs H w).imp_right fun z=>⟨z.1,z.2.1,fun x H' y=>by
  obtain⟨a,D,C,rfl,L,k⟩:=z.2.2 x H' y;exact⟨Zlm is σ (some D) (some C),⟨_,_,rfl⟩,fun q ⟨_,_,e⟩=>e ▸ ⟨a,[D,C],rfl,L,rfl,_,_,rfl,_,_,rfl,rfl,rfl,rfl⟩,k⟩⟩⟩
def Zgw(K:ZP S scope N x ys is)(G:Two scope x x2 ys)(hi:QI X (.Tuple [.Name x px,.Name x2 px2] pq pp) iter wi)(D:∀C s₂ H₂ ex,QF (cxC X (x::x2::ys) scope C s₂ H₂ ex) ifs tc)(J:∀C s₂ H₂ ex,QE (cxC X (x::x2::ys) scope C s₂ H₂ ex) elt te)
  (q:X.calm=true:=by rfl) (F:X.env.scope=S:=by rfl) (L:X.N=N:=by rfl) (I:S.kind=.function:=by rfl) (hs:∀v,foldedSetIterable iter X.env v=pure v:=by intro _;rfl):
  QE X (.ListComp elt [⟨(.Tuple [.Name x px,.Name x2 px2] pq pp),iter,ifs,0⟩] scope pos) (tComp2 X.K wi is tc te):=
 gB (compT2 K G F L I q) conv2 hi D J hs
end
end L2
namespace L2
open PySem.W
section
variable {prog:Aq}{w:Au}{A:Ar}{E:Ab}{s:As}
end
section
variable {prog:Aq}{w:Au}{h:Heap}
end
end L2
namespace L2
section
variable {prog:Aq}{w:Au}{A:Ar}{E:Ab}{s:As}{c it:Aw}{oc:Obj}{es:Array DictEntry}{ep i:Nat}
end
def Zgx:QE X (.Dict [] [] p) Zi5:=⟨Zgi⟩
def PP1(X:Cx)(pos:Pos)(k v:Ax)(tk tv:TE):Prop:=∀pins s σ H (R:V->V->Hp->Prop),Inv X pins σ H s->(tk σ H fun x H1=>tv σ H1 fun y H2=>R x y H2)->
 A4 X (evalPairs (pairTrees [some k] [v] X.env pos)) (fun q C=>∃x y u r H2,q=[(u,r)]/\Inv X pins σ H2 C/\RelV x u/\RelV y r/\R x y H2) X.xe s
def pp1{k v:Ax}{tk:TE}(Y:QE X k tk)(G:QE X v I):PP1 X p k v tk I:=by
 intro pins s σ H R C q;refine pairTrees_cons_walk (thn (Y.out pins s σ H _ C q) fun u M ⟨x,H1,L,Z,F⟩=>thn (G.out pins M σ H1 _ L F) fun r s2 ⟨y,H2,O,J,D⟩=>pairTrees_nil_walk ⟨x,y,u,r,H2,rfl,O,Z,J,D⟩)
def HT.cat_tup0{prog:Aq}{A:Ar}{E:Ab}{b:Aw}(ht:IsTup s.heap a #[])(hb:IsTup s.heap b M.toArray)(q:Q (.ref b) s):
  A3 prog w A (binaryOp .Add (.ref a) (.ref b)) Q E s:=by
 obtain⟨⟨cls,dd,data,Z⟩,ho,Y,n,L⟩:=id ht;obtain⟨⟨J,D,data2,G⟩,C,F,O,I⟩:=id hb;subst Y L F I;exact concat_meets ⟨_,ho,rfl⟩ ⟨_,C,rfl⟩ Qhg seq_tuple_add Qft Qfl (Qff _ _)
  (tuple_addW0 a b #[] M.toArray n O dd D Z G rfl) ⟨ho,C,q⟩
inductive Zdh(x:V)(y:V)(H:Hp)(Q:VK):Prop
 |mk (a b xs ys:_):(x=.ref a)->(y=.ref b)->(H a=some (.tup xs))->(H b=some (.tup ys))->(xs.length+ys.length<=sizeLine)->(∀p H',H' p=some (.tup (xs++ys))->Z8 H H'->Q (.ref p) H')->Zdh x y H Q
def rCatG  : R2:=fun x y H Q=>Zdh x y H Q
def Zln:OpR X (binaryOp .Add) rCatG:=by
 intro pins s σ H x y v u Q I Z O h;obtain⟨a,b,xs,ys,rfl,rfl,ha,G,L,q⟩:=h;cases Z;cases O;obtain⟨M,C,p1,_⟩:=I.tuple (SqT.of ha:SqT X.K H a xs);obtain⟨J,F,p2,_⟩:=I.tuple (SqT.of G:SqT X.K H b ys)
 by_cases D:xs=[]
 ·have e:=C.nil_iff.mpr D;subst e D;exact HT.cat_tup0 p1 p2 ⟨.ref b,H,I,rfl,q b H G fun _ _ z=>z⟩
 ·refine HT.cat_tup p1 p2 (fun z=>D (C.nil_iff.mp z)) (fun z=>⟨.ref a,H,I,rfl,q a H ?_ fun _ _ z=>z⟩) (fun z=>?_) (by rw[<-C.length,<-F.length];exact L)
  ·rw[F.nil_iff.mp z,Qby];exact ha
  ·have Y:=I.hok.fresh (Qaj s.heap.objs.size);refine⟨.ref s.heap.objs.size,_,I.laid (t':=s.toks) (o:=.tup (xs++ys)) (fun b ob q=>Qad _ q) (Qaj _) ?_,rfl,q _ _ Za fun c o z=>by rw[Zk (fun e=>by rw[e,Y]at z;cases z)];exact z⟩;exact⟨by rw[Qak];exact L,_,C.append F,kI.new _ _⟩
open PySem.W (hideAll of_hideAll hideAll_get hideAll_none funFrames_hide)
section
variable {P:Aq}{w:Au}{X:Cx}{pins:Ac}{σ:St}{H:Hp}{s:As}
end
end L2
namespace L2
open PySem.W (hideAll of_hideAll hideAll_get hideAll_none funFrames_hide)
section
variable {X:Cx}{E:XK}
end
end L2
namespace L2
section
variable {X:Cx}{E:XK}{x:Str}{C:Aw}{np cpos pos:Pos}{e₀:Ax}{rest:An}{t:TA}
end
section
variable {M:Model}{A:Ar}{E:Ab}
variable {nm q nm' q':Str}{C N D N':Aw}{bs bm bs' bm':Ag}{hdct hdct':Bool}{sn sn':Ai}{sub sub':Ag}{ab ab':Bool}{col col':Option Bool}{dd dd':Option Aw}{k0 k1 k2 k3 k5 k0' k1' k2' k3' k5':Option Av}{newId newId':String}
end
section
variable {X:Cx}{pins:Ac}{σ:St}{H H':Hp}{s s':As}
end
section
variable {prog:Aq}{w:Au}{A:Ar}{E:Ab}{s:As}{env:Env}
end
section
variable {X:Cx}{pins:Ac}{σ:St}{H:Hp}{s:As}
variable {k:Nat}{f:Aw}{fd:Ao}{ps:Ai}{sp:Sp}{g x y n:Str}{p np p0 cpos spos hpos pos:Pos}{e₀:Ax}{es:An}{t:TA}{b₀:Ay}{suite:List Ay}{i j:Nat}{Dc:Aw}{ts:TS}
end
end L2
namespace L2
open PySem.Calls
open PySem.W (Frag InstAt findObj plainGet plainGet_of kin_open kin_hooked class_get handed_on mroIn clsIn Looks subIn typeIn looks_typeIn looks_subIn isIn isi_call)
section
variable {prog:Aq}{w:Au}{A:Ar}{E:Ab}{s:As}{K:Frag}{e C D:Aw}{oe:Obj}{od:Option Obj}
end
end L2
namespace L2
open PySem.Calls
open PySem.W Builtin Builtin.ObjectAttr Builtin.Getset_descriptor
section
variable {prog:Aq}{w:Au}{A:Ar}{E:Ab}{s:As}{K:Frag}{e C D:Aw}
end
end L2
namespace L2
open PySem.Calls
open PySem.W Builtin Builtin.ObjectAttr
section
variable {prog:Aq}{w:Au}{A:Ar}{E:Ab}{s:As}{K:Frag}{x C:Aw}{name:Str}{v:Av}
end
section
variable {X:Cx}{pins:Ac}{σ:St}{H:Hp}{s:As}{e C d:Aw}{f:Str}{v:V}{u:Av}{A:Ar}{E:Ab}
end
section
variable {X:Cx}{o value:Ax}{ta tv:TE}{f:Str}{pos pos':Pos}
end
end L2
namespace L2
open PySem.Calls
open PySem.W
section
variable {prog:Aq}{w:Au}{A:Ar}{E:Ab}{hh:Heap}{g:Array GenState}{dr:Drawn}{t:Nat}{os:OsState}{K:Frag}
variable {nm q:Str}{C N fI:Aw}{bs tl:Ag}{hdct:Bool}{sn:Ai}{sub:Ag}{ab:Bool}{col:Option Bool}{dd:Option Aw}{k0 k1 k2 k3 k5:Option Av}
end
end L2
namespace L2
open PySem.Calls
open PySem.W
section
variable {X:Cx}{x:Str}{C f:Aw}{k:Nat}{fd:Ao}{ps:Ai}{sp:Sp}{p pos:Pos}{e₀:Ax}{es:An}{t:TA}
end
end L2
namespace L2
open PySem.Calls
open Builtin Builtin.Str
section
variable {X:Cx}{e b:Ax}{es:An}{te tb:TE}{t:TA}
end
section
variable {X:Cx}{o:Ax}{to:TE}{y z:Str}{j1 j2 j3:Nat}{p1 p2 p3 apos cpos:Pos}
end
end L2
namespace L2
open PySem.Calls
open Builtin Builtin.Str
section
variable {X:Cx}{e:Ax}{ta:TE}{c:Str}{j:Nat}{p1 p2 pos:Pos}
end
end L2
namespace L2
open PySem.Calls
open PySem.W
end L2
namespace L2
open PySem.Calls
open Builtin Builtin.Str
end L2
namespace L2
open PySem.Calls
section
variable {M:Model}{A:Ar}{E:Ab}{s:As}{B:Heap}{env:Env}{outer:List Env}{L e:Aw}{φ:Obj->Prop}{Q:Unit->Shared->Prop}
end
section
variable {prog:Aq}{w:Au}{A:Ar}{E:Ab}{s:As}{env:Env}{x:Sem Av}{Q:Flow->Shared->Prop}{C e1:Aw}{j:Nat}{p pos:Pos}
end
open PySem.W (hideAll of_hideAll hideAll_get hideAll_none funFrames_hide)
section
variable {X:Cx}{E:XK}
end
end L2
namespace L2
open PySem.Calls
section
variable {prog:Aq}{w:Au}{A:Ar}{E:Ab}{s:As}{env:Env}
end
section
variable {X:Cx}{E:XK}
end
section
variable {X:Cx}{E:XK}{k:Nat}{f:Aw}{fd:Ao}{ps:Ai}{sp:Sp}{g y x2:Str}{p np np2 cpos cpos2 spos hpos pos p9 rpos:Pos}{j:Nat}{e₀ a₀:Ax}{es as:An}{t t2:TA}{Dc C2:Aw}
end
section
variable {prog:Aq}{w:Au}{A:Ar}{E:Ab}{s:As}{a:Aw}{oa:Obj}{x:Av}{l:Ag}{na:Nat}{ts:Ai}
end
section
variable {X:Cx}{e:Ax}{ta:TE}{c:Str}{j:Nat}{p1 p2 pos:Pos}
end
open PySem.W
section
variable {X:Cx}{pins:Ac}{σ:St}{H:Hp}{s:As}{e C d:Aw}{f:Str}{v:V}{u:Av}{A:Ar}{E:Ab}{arr:Ah}
end
section
variable {X:Cx}{E:XK}
end
end L2
namespace L2
open PySem.Calls
open PySem.W (hideAll of_hideAll hideAll_get hideAll_none funFrames_hide)
section
variable {X:Cx}{E:XK}
end
section
variable {prog:Aq}{w:Au}{A:Ar}{E:Ab}{s:As}{env:Env}{x:Sem Av}{Q:Flow->Shared->Prop}{C:Aw}
end
section
variable {X:Cx}{E:XK}{x:Str}{C f:Aw}{k:Nat}{fd:Ao}{ps:Ai}{sp:Sp}{np cpos pos:Pos}{e₀:Ax}{es:An}{t:TA}
end
end L2
namespace L2
open PySem.Calls
section
variable {X:Cx}{k:Nat}{f:Aw}{fd:Ao}{ps:Ai}{sp:Sp}{g y n:Str}{p np cpos spos hpos pos:Pos}{e₀:Ax}{es:An}{t:TA}{b₀:Ay}{suite:List Ay}{j:Nat}{Dc:Aw}{ts:TS}
end
end L2
namespace L2
open PySem
def hideG{q:Prop}(h:∀G:Prop,(q->G)->G):q:=h q fun z=>z
theorem len1{P:List d->Prop}(h:∀a,P [a]):∀q:List d,q.length=1->P q
 |[a],_=>h a
theorem len2{P:List d->Prop}(h:∀a b,P [a,b]):∀q:List d,q.length=2->P q
 |[a,b],_=>h a b
theorem len3{P:List d->Prop}(h:∀a b c,P [a,b,c]):∀q:List d,q.length=3->P q
 |[a,b,c],_=>h a b c
theorem len4{α:Type}{P:List α->Prop}(h:∀a b c d,P [a,b,c,d]):∀q:List α,q.length=4->P q
 |[a,b,c,d],_=>h a b c d
theorem len5{α:Type}{P:List α->Prop}(h:∀a b c d e,P [a,b,c,d,e]):∀q:List α,q.length=5->P q
 |[a,b,c,d,e],_=>h a b c d e
theorem ju{lo:Int}{g:TG}{tb:TS}(D:Nat->St->Hp->Prop)(I:D 0 c H)
  (hs:∀i c H,i<n->D i c H->∀(N b:A1) (r:VK),(∀c H,D (i+1) c H->N c H)->g (.int (lo+i)) c H fun q H2=>tb {nx:=N,rt:=r,bk:=b,ct:=N} q H2) (G:∀c H,D n c H->O.nx c H):
  ∃W:Nat->Nat->St->Hp->Prop,(∃m,W 0 m c H)/\∀i m c H,W i m c H->
   ((Itr lo n).stop i H/\O.nx c H)\/((Itr lo n).go i H/\∃N:A1,(∀C H',N C H'->∃F,F<m/\W (i+1) F C H')/\∀x H',(Itr lo n).yld i H x H'->g x c H' fun q H2=>tb {O with nx:=N,ct:=N,bk:=O.nx} q H2):=
 XU D I (fun i c H hi p=>hs i c H hi p _ _ _ fun _ _ z=>z) G
theorem walk_X{q:Aq}{J:(Ae)->Heap->Prop}{K:Params->PySem.W.Frag}{as:List Aw}{r:PySem.W.RowW}{d:DefRec}{F:List (Str×Ax)}{run:Av->List Av->Sem Av}
  (e:∀P,as=(K P).map (·.1)) (W:PySem.W.WalkO q N J (PySem.W.InK K) r d F run):PySem.W.WalkX q N J (PySem.W.X.obsZ as) (PySem.W.X.valZ K n i) r d F run:=
 fun w s₀ D mg M G y a o pm cd I O kV e1 e2 e3 Z Y e6 args C as L p l R W' nn=>
  W w s₀ D mg M G (PySem.W.InK.keeps w _ _ (PySem.W.X.z_facts e y).2.1 L.keeps) a o pm cd I O kV e1 e2 e3 Z Y e6 args C as p l R W' nn
def noT(K:Af):Af:=K.filter fun p=>match p.2.cls,p.2.data with
 |.none,.fields _=>false
 |_,_=>true
def noT_ok(K:Af):PySem.W.noTabs (noT K)=true:=by
 unfold PySem.W.noTabs noT;rw[Qca];intro p q;exact(Qdn.mp q).2
def nodB:Aj->Bool
 |[]=>true
 |a::r=>r.all (fun b=>!(Nat.beq a b))&&nodB r
theorem lookup_mem{a:Aw}{o:Obj}:∀{K:Af},K.lookup a=some o->(a,o)∈K
 |(b,u)::r,h=>by
  rw[Qc4]at h
  by_cases e:(a == b)=true
  ·grind
  ·rw[Bool.eq_false_iff.mpr e]at h;exact Qal _ (lookup_mem h)
theorem mem_lookup{a:Aw}{o:Obj}:∀{K:Af},nodB (K.map (·.1))=true->(a,o)∈K->K.lookup a=some o
 |(b,u)::r,C,h=>by
  rw[Qc4];have q:=Qf7.mp C;rcases Qao.mp h with e|e
  ·cases e;rw[Qcu]
  ·have D:(a == b)=false:=by
    rw[Qeg];intro z;have:=Qca.mp q.1 a (Qb6 e);rw[z,show Nat.beq b b=true from Nat.beq_refl b]at this;cases this
   rw[D];exact mem_lookup q.2 e
theorem in_noT(q:nodB (K.map (·.1))=true)(X:K.In h):(noT K).In h:=fun a o e=>
 X a o (mem_lookup q (Qdn.mp (lookup_mem e)).1)
def ns_tr{m:Aw}{r:Option (Option Av)}(e:PySem.W.nsIn (noT K) m x=PySem.W.nsIn K m x)(h:PySem.W.nsIn K m x=r):PySem.W.nsIn (noT K) m x=r:=e.trans h
def lk_tr{r:Option Obj}(e:(noT K).lookup a=K.lookup a)(h:K.lookup a=r):(noT K).lookup a=r:=e.trans h
def cd_tr{c:Av}(e:PySem.W.codeIn (noT K) c x=PySem.W.codeIn K c x)(h:PySem.W.codeIn K c x=true):PySem.W.codeIn (noT K) c x=true:=e.trans h
def kp_tr{c:Av}(e:PySem.W.keepIn (noT K) c=PySem.W.keepIn K c)(h:PySem.W.keepIn K c=true):PySem.W.keepIn (noT K) c=true:=e.trans h
def cxK{CX:CXT}{mg:Ae}{qual:Str}{scope:Scope}{A:Ar}{outer:List Env}{E:XK}:(Zf4 CX P w K mg h N qual scope f v A outer s H E).nox.K=K:=rfl
def cxK2{CX:CXT}{mg:Ae}{qual:Str}{scope:Scope}{A:Ar}{outer:List Env}{E:XK}:(Zf4 CX P w K mg h N qual scope f v A outer s H E).K=K:=rfl
def let2{q:TS}(h:let C:=q;ZY g C O c H):ZY g q O c H:=h
def let3{C q:TS}(h:let D:=q;let F:=ZY C D;ZY g F O c H):ZY g (ZY C q) O c H:=h
def let4{D q C:TS}(h:let I:=C;let F:=ZY q I;let G:=ZY D F;ZY g G O c H):ZY g (ZY D (ZY q C)) O c H:=h
def let5{F D q C:TS}(h:let I:=C;let G:=ZY q I;let J:=ZY D G;let L:=ZY F J;ZY g L O c H):ZY g (ZY F (ZY D (ZY q C))) O c H:=h
def let6{G F q C D:TS}(h:let Y:=D;let J:=ZY C Y;let I:=ZY q J;let L:=ZY F I;let M:=ZY G L;ZY g M O c H):ZY g (ZY G (ZY F (ZY q (ZY C D)))) O c H:=h
def let7{I G q C D F:TS}(h:let J:=F;let U5:=ZY D J;let M:=ZY C U5;let L:=ZY q M;let Y:=ZY G L;let Z:=ZY I Y;ZY g Z O c H):ZY g (ZY I (ZY G (ZY q (ZY C (ZY D F))))) O c H:=h
def let8{J I C D F G q:TS}(h:let M:=q;let L:=ZY G M;let U5:=ZY F L;let Z:=ZY D U5;let Y:=ZY C Z;let U2:=ZY I Y;let U1:=ZY J U2;ZY g U1 O c H):ZY g (ZY J (ZY I (ZY C (ZY D (ZY F (ZY G q)))))) O c H:=h
def let9{I F G J q C D L:TS}(h:let Z:=L;let U7:=ZY D Z;let M:=ZY C U7;let U5:=ZY q M;let Y:=ZY J U5;let U3:=ZY G Y;let U2:=ZY F U3;let U1:=ZY I U2;ZY g U1 O c H):ZY g (ZY I (ZY F (ZY G (ZY J (ZY q (ZY C (ZY D L))))))) O c H:=h
def let10{M L C D F G I J q:TS}(h:let U9:=q;let U8:=ZY J U9;let Y:=ZY I U8;let U6:=ZY G Y;let U5:=ZY F U6;let U4:=ZY D U5;let Z:=ZY C U4;let U2:=ZY L Z;let U1:=ZY M U2;ZY g U1 O c H):ZY g (ZY M (ZY L (ZY C (ZY D (ZY F (ZY G (ZY I (ZY J q)))))))) O c H:=h
end L2
namespace ZpT
abbrev Zja (h:Heap) (T:Aw) (a b c:Av):Prop:=h.get? T=some {cls:=.type "tuple",data:=.seq #[a,b,c]}
structure Ap3(z TI TO i1 i2 i3:Aw):Prop where
 TIz:TI≠z
 TOz:TO≠z
 i1z:i1≠z
 i2z:i2≠z
 i3z:i3≠z
 TITO:TI≠TO
 TIi1:TI≠i1
 TIi2:TI≠i2
 TIi3:TI≠i3
 TOi1:TO≠i1
 TOi2:TO≠i2
 TOi3:TO≠i3
 i12:i1≠i2
 i13:i1≠i3
 i23:i2≠i3
structure Of3(z TO i1 i2 i3 l:Aw):Prop where
 z:l≠z
 o:l≠TO
 i:l≠i1
 j:l≠i2
 m:l≠i3
structure St3(z TI TO i1 i2 i3 l1 l2 l3:Aw)(k:Nat)(h:Heap):Prop where
 z:∃f0 fb,h.get? z=some (zO f0 fb TI TO)/\F0 f0
 I:Zja h TI (.ref i1) (.ref i2) (.ref i3)
 O:∃a b c,Zja h TO a b c
 n1:ZI false h i1 l1 k
 n2:ZI false h i2 l2 k
 n3:ZI false h i3 l3 k
section
variable {prog:Aq}{w:Au}{A:Ar}{E:Ab}{s:As}
end
end ZpT
namespace L2
section
variable {X:Cx}{S scope:Scope}{N:Ai}{x x2 x3:Str}{ys:Ai}{is:Aj}{pins:Ac}{σ:St}{H₂:Hp}{s₂:As}{fp:List Aw}{elt iter:Ax}{px px2 px3 pp pos:Pos}{pq:Nat}{ifs:An}{tc:TT}{te:TE}{wi:TI}
end
end L2
namespace ZpT
section
variable {prog:Aq}{w:Au}{A:Ar}{E:Ab}{s:As}
end
end ZpT
namespace L2
open ZpT (St3 Ap3 Of3 SeqAt ZI)
section
variable {X:Cx}{e1 e2 e3:Ax}{t:TA}{p pos:Pos}
end
end L2
namespace L2
section
variable {prog:Aq}{w:Au}{A:Ar}{s:As}
end
def b2i(b:Bool):Int:=if b=true then 1 else 0
def Zol(k:Int):Av->Bool
 |.int i _=>i == k
 |.bool b=>b2i b == k
 |_=>false
def YT{k:Int}(h:Zol k v=true):(∃t,v=.int k t)\/∃b,v=.bool b/\k=b2i b:=by
 cases v with
 |int i t=>exact .inl ⟨t,by rw[show i=k from eq_of_beq h]⟩
 |bool b=>exact .inr ⟨b,rfl,(eq_of_beq h).symm⟩
 |_=>cases h
section
variable {prog:Aq}{w:Au}
def we{A:Ar}{E:Ab}{b:Bool}{Q:Int->Shared->Prop}(h:Q (hashInt (b2i b)) {s with toks:=s.toks+1}):A3 prog w A (pyHash (.bool b)) Q E s:=by
 refine PySem.W.pyHash_slot (T:= "bool") (id:= "int.__hash__") (B:=Builtin.«int.__hash__») rfl F.slot_bool_hash F.entry_int_hash (F.args_int_hash_1 _) (by decide +kernel) (.inl rfl) ?_;cases b
 ·exact Qaa (Qcj (a:=(Value.bool false,(0:Int))) rfl (Qaa (Qgf (Qae ⟨0,_,rfl,h⟩))))
 ·exact Qaa (Qcj (a:=(Value.bool true,(1:Int))) rfl (Qaa (Qgf (Qae ⟨1,_,rfl,h⟩))))
end
def dec_eq(a b:Int):decide (a=b)=(a == b):=by grind
def Yy(prog:Aq)(w:Au):KeyKind prog w Int where
 is:=Zol
 hash:=hashInt
 inj:=fun v a b ha C=>by
  rcases YT ha with⟨t,rfl⟩|⟨x,rfl,rfl⟩
  ·exact(eq_of_beq (show(a == b)=true from C))
  ·exact(eq_of_beq (show(b2i x == b)=true from C))
 byValue:=fun k v h=>by
  rcases YT h with⟨t,rfl⟩|⟨x,rfl,rfl⟩<;>rfl
 pyHash:=fun q h=>by
  rcases YT q with⟨t,rfl⟩|⟨x,rfl,rfl⟩
  ·exact Qhf h
  ·exact we h
 eqBool:=fun D q h=>by
  rw[dec_eq]at h;rcases YT D with⟨t,rfl⟩|⟨x,rfl,rfl⟩
  ·rcases YT q with⟨u,rfl⟩|⟨y,rfl,rfl⟩
   ·exact wpAny_eqBool_int h
   ·exact SeqAt.EqAt.int_bool _ t y _ _ _ _ h
  ·rcases YT q with⟨u,rfl⟩|⟨y,rfl,rfl⟩
   ·exact SeqAt.EqAt.bool_int x _ u _ _ _ _ h
   ·refine SeqAt.EqAt.bool_bool x y _ _ _ _ ?_;have e:(b2i x == b2i y)=(x == y):=by cases x<;>cases y<;>rfl
    rw[e]at h;exact h
 «strs»:=fun k x t v h=>by cases h
section
variable {prog:Aq}{w:Au}
def IsPair(prog:Aq)(w:Au)(h:Heap)(k:Int×Ak)(a:Aw):Prop:=
 ∃o n t tk,h.get? a=some o/\o.cls=.type "tuple" /\ o.data=.seq #[.int k.1 tk,.ref t] n/\IsTupleKey (Yy prog w) h k.2 t
def gM(prog:Aq)(w:Au)(k:Int×Ak):Int:=reduceHash (Builtin.Tuple.tupleHashOf [hashInt k.1,tupleKeyHash (Yy prog w) k.2])
def IsPair.inj{h:Heap}{a:Aw}{x y:Int×Ak}(p:IsPair prog w h x a)(q:IsPair prog w h y a):x=y:=by
 obtain⟨o,n,t,tk,e,c,d,k⟩:=p;obtain⟨o',n',t',J,C,Z,d',L⟩:=q;rw[e]at C;cases C;rw[d]at d';injection d' with M d2;have G:=congrArg Array.toList M;injection G with O D;injection O with F _;injection D with I _;injection I with Y;subst Y;have:=(tupleKind (Yy prog w)).inj k L;exact Qhv F this
def IsPair.keeps{h h':Heap}{k:Int×Ak}{a d:Aw}{o:Obj}{es:Array DictEntry}{ep:Nat}(p:IsPair prog w h k a)(e:h.get? d=some o)(D:o.data=.dict es ep)(s:Heap.SameBut d h h'):IsPair prog w h' k a:=by
 obtain⟨o1,n,t,tk,e1,C,F,k1⟩:=p;have q:a≠d:=fun z=>by
  grind
 exact⟨o1,n,t,tk,(s.2 a q).trans e1,C,F,(tupleKind (Yy prog w)).keeps k1 e D s⟩
def IsPair.pyHash{A:Ar}{E:Ab}{s:As}{k:Int×Ak}{a:Aw}{Q:Int->Shared->Prop}(q:A.units+1<cLine)(p:IsPair prog w s.heap k a)
  (h:Q (gM prog w k) {s with toks:=s.toks+(k.2.length+3)}):A3 prog w A (PySem.pyHash (.ref a)) Q E s:=by
 obtain⟨o,n,t,tk,e,c,d,C⟩:=p;refine PySem.W.pyHash_slot (T:= "tuple") (id:= "tuple.__hash__") (B:=Builtin.«tuple.__hash__») ⟨o,e,c⟩ F.slot_tuple_hash F.entry_tuple_hash (F.args_tuple_hash_1 _) (by decide +kernel) (.inr (by lia)) ?_;refine Qaa (Qcj (a:=(Value.ref a,[])) rfl ?_);refine Qaa (wpAny_tupleItemsOf e d ?_);refine Qaa (Qgq _ (fun rest hs s'=>(rest=[.int k.1 tk,.ref t]/\hs=#[]/\s'=s)\/(rest=[.ref t]/\hs=#[hashInt k.1]/\s'={s with toks:=s.toks+1})\/(rest=[]/\hs=#[hashInt k.1,tupleKeyHash (Yy prog w) k.2]/\s'={s with toks:=s.toks+1+(k.2.length+1)})) _ ?_ ?_ _ _ (.inl ⟨rfl,rfl,rfl⟩))
 ·rintro x rest b s' (⟨e1,rfl,rfl⟩|⟨e1,rfl,rfl⟩|⟨e1,_,_⟩)
  ·cases e1;exact Qaa (Qhf (Qae (.inr (.inl ⟨rfl,rfl,rfl⟩))))
  ·cases e1;refine Qaa (wpAny_pyHash_tuple (knd:=Yy prog w) (ks:=k.2) (s:={s with toks:=s.toks+1}) (by exact q) C (Qae (.inr (.inr ⟨rfl,rfl,rfl⟩))))
  ·cases e1
 ·rintro b s' (⟨e1,_,_⟩|⟨e1,_,_⟩|⟨_,rfl,rfl⟩)
  ·cases e1
  ·cases e1
  ·refine Qaa (Qgf (Qae ⟨_,_,rfl,?_⟩));have D:s.toks+1+(k.2.length+1)+1=s.toks+(k.2.length+3):=by lia
   rw[D];exact h
theorem _root_.PySem.IsTupleKey.any{ks:Ak}(k:IsTupleKey (Yy prog w) h ks a)(q:Aq)(C:Au):IsTupleKey (Yy q C) h ks a:=by
 obtain⟨o,items,n,e,c,d,it⟩:=k;have D:∀{ks:Ak} {vs:Ag},ItemsAre (Yy prog w) ks vs->ItemsAre (Yy q C) ks vs:=by
  intro ks vs hh
  induction hh with
  |nil=>exact .nil
  |cons h1 _ F=>exact .cons h1 F
 exact⟨o,items,n,e,c,d,D it⟩
def IsPair.eqBool{A:Ar}{E:Ab}{s:As}{x y:Int×Ak}{a b:Aw}{Q:Bool->Shared->Prop}(J:A.units+1<cLine)(p:IsPair prog w s.heap x a)(q:IsPair prog w s.heap y b)
  (h:Q (decide (x=y)) s):A3 prog w A (PySem.eqBool (.ref a) (.ref b)) Q E s:=by
 by_cases F:a=b
 ·subst F;have:=p.inj q;rw[Qan this]at h;exact Qhk (.ref a) prog w E Q h
 ·obtain⟨o,n,t,tk,e,c,d,Z⟩:=p;obtain⟨o',Y,t',D,M,O,d',G⟩:=q;have it:∀j (h1:j<(#[Value.int x.1 tk,.ref t]).size) (h2:j<(#[Value.int y.1 D,.ref t']).size),SeqAt.EqAt A.in1 s (#[Value.int x.1 tk,.ref t])[j] (#[Value.int y.1 D,.ref t'])[j] (if j=0 then x.1 == y.1 else decide (x.2=y.2)):=by
   intro j h1 h2
   match j,h1,h2 with
   |0,_,_=>exact SeqAt.EqAt.int_int x.1 tk y.1 D
   |1,_,_=>exact fun C I E' Q' h'=>wpAny_eqBool_tuple (knd:=Yy C I) (by exact J) (Z.any C I) (G.any C I) h'
  have r:=SeqAt.RcAt.tuples (A:=A) (s:=s) (e:=fun j=>if j=0 then x.1 == y.1 else decide (x.2=y.2)) ⟨o,e,c,n,d⟩ ⟨o',M,O,Y,d'⟩ (by lia) it;have L:((List.range (min (#[Value.int x.1 tk,.ref t]).size (#[Value.int y.1 D,.ref t']).size)).all (fun j=>if j=0 then x.1 == y.1 else decide (x.2=y.2))&&(#[Value.int x.1 tk,.ref t]).size == (#[Value.int y.1 D,.ref t']).size)=decide (x=y):=by
   show((x.1 == y.1)&&(decide (x.2=y.2)&&true)&&true)=decide (x=y)
   by_cases h1:x.1=y.1
   ·grind
   ·grind
  rw[L]at r;exact SeqAt.EqAt.of_refs F r prog w E Q h
theorem Zaj{A:Ar}{E:Ab}{ks:Ak}{Q:Bool->Shared->Prop}(m:Nat)(k:IsTupleKey (Yy prog w) s.heap ks a)(h:Q true s):A3 prog w A (eqIsQuiet (m+1) (.ref a)) Q E s:=by
 obtain⟨o,items,n,e,c,d,it⟩:=k;rw[eqIsQuiet.eq_2];have C:s.TypeIs (.ref a) "tuple" :=⟨o,e,c⟩;refine Qaa (Qd8 C F.slot_tuple_eq.lookup ?_);refine Qaa (Qdh (T:= "tuple") (b:=true) C (by kernel_rfl) ?_);refine Qaa (Qci e d ?_);refine Qaa (Qgq _ (fun rest b s'=>(∀v∈rest,carriedByValue v=true)/\b=(none,())/\s'=s) _ ?_ ?_ _ _ ⟨fun v q=>?_,rfl,rfl⟩)
 ·rintro x rest b s' ⟨q,rfl,rfl⟩;refine Qaa ?_;rw[eqIsQuiet_byValue m (q x Qai)];exact Qae (Qae ⟨fun v G=>q v (Qal _ G),rfl,rfl⟩)
 ·rintro b s' ⟨_,rfl,rfl⟩;exact Qae h
 ·have D:∀{ks:Ak} {vs:Ag},ItemsAre (Yy prog w) ks vs->∀v∈vs,carriedByValue v=true:=by
   intro ks vs hh
   induction hh with
   |nil=>exact fun v q=>nomatch q
   |cons h1 _ I=>
    intro v q;rcases Qao.mp q with rfl|q
    ·exact(Yy prog w).byValue _ _ h1
    ·exact I v q
  exact D it v q
def IsPair.quiet{A:Ar}{E:Ab}{k:Int×Ak}{Q:Bool->Shared->Prop}(p:IsPair prog w s.heap k a)(h:Q true s):A3 prog w A (eqIsQuiet 8 (.ref a)) Q E s:=by
 obtain⟨o,n,t,tk,e,c,d,C⟩:=p;rw[eqIsQuiet.eq_2];have q:s.TypeIs (.ref a) "tuple" :=⟨o,e,c⟩;refine Qaa (Qd8 q F.slot_tuple_eq.lookup ?_);refine Qaa (Qdh (T:= "tuple") (b:=true) q (by kernel_rfl) ?_);refine Qaa (Qci e d ?_);refine Qaa (Qgq _ (fun rest b s'=>(rest=[.int k.1 tk,.ref t]\/rest=[.ref t]\/rest=[])/\b=(none,())/\s'=s) _ ?_ ?_ _ _ ⟨.inl rfl,rfl,rfl⟩)
 ·rintro x rest b s' ⟨D,rfl,rfl⟩;rcases D with e1|e1|e1
  ·cases e1;refine Qaa ?_;exact Qae (Qae ⟨.inr (.inl rfl),rfl,rfl⟩)
  ·cases e1;exact Qaa (Zaj 6 C (Qae ⟨.inr (.inr rfl),rfl,rfl⟩))
  ·cases e1
 ·rintro b s' ⟨_,rfl,rfl⟩;exact Qae h
end
def Zgy(prog:Aq)(w:Au):HeapKind prog w (Int×Ak)where
 is:=IsPair prog w
 hash:=gM prog w
 draws:=fun k=>k.2.length+3
 room:=fun A=>A.units+1<cLine
 inj:=fun p q=>p.inj q
 keeps:=fun p e D s=>p.keeps e D s
 pyHash:=fun C p h=>p.pyHash C h
 eqBool:=fun C p q h=>p.eqBool C q h
 quiet:=fun p h=>p.quiet h
section
variable {prog:Aq}{w:Au}{K:Type}[DecidableEq K]
theorem Zgz{xs:List (K×Aw×Av)}{k:K}{j:Nat}{p:Aw×Av}(q:(xs.map (·.1)).Nodup)(h:xs[j]?=some (k,p)):atKey xs k=some p:=by
 unfold atKey
 induction xs generalizing j with
 |nil=>cases h
 |cons x r D=>
  rw[Qbx,Qcd]at q;rw[Qdp];cases j with
  |zero=>
   cases h;rw[Qan rfl];rfl
  |succ j=>
   have C:k∈r.map (·.1):=Qau.mpr ⟨_,Qar h,rfl⟩;rw[Qap fun z=>q.1 (by rw[z];exact C)];exact D q.2 h
def Zak{xs:List (K×Aw×Av)}{k:K}(h:∀(j:Nat) (p:Aw×Av),xs[j]?≠some (k,p)):atKey xs k=none:=by
 unfold atKey;rw[Option.map_eq_none_iff,List.find?_eq_none];intro x q z;obtain⟨j,C⟩:=Qe8 q;refine h j x.2 ?_;rw[C,<-Qbg z]
def GI(knd:HeapKind prog w K)(d a:Aw)(hd:(d == sysModules)=false)(dflt:Av):
  MeetsIn prog w (Builtin.«dict.setdefault» ⟨[.ref d,.ref a,dflt],[]⟩) fun A R s=>knd.room A.in1/\∃k xs,knd.is s.heap k a/\Heap.DictOfH knd s.heap d xs/\xs.length<=sizeLine /\
   (∀p,atKey xs k=some p->R (.ok (.ret p.2)) {s with toks:=s.toks+knd.draws k}) /\
   (atKey xs k=none->∀h',Heap.DictOfH knd h' d (xs++[(k,a,dflt)])->Heap.SameBut d s.heap h'->R (.ok (.ret dflt)) {s with heap:=h',toks:=s.toks+knd.draws k}):=by
 intro A R s ⟨hr,k,xs,hk,dd,J,h1,h2⟩;obtain⟨o,es,ep,e,ex,C,D,F,G⟩:=id dd;refine Qaa ?_;refine Qaa (wpAny_notOrdered_dict dd.typeIs ?_);refine Qaa (Qcj (a:=()) rfl ?_);refine Qaa (Qcj (a:=(Value.ref d,[Value.ref a,dflt])) rfl ?_);refine Qaa (Qcj (a:=d) rfl (Qae ?_));try dsimp only
 rw[hd,Qay (by decide)];refine Qaa ?_;refine Qb8 (Qaa (knd.pyHash hr hk ?_));refine Qaa (wpAny_dictFind_heap (s:={s with toks:=s.toks+knd.draws k}) hr hk e C D F G (fun I=>?_) (fun j p L=>?_))
 ·refine Qaa (Qdg (Qaa (wpAny_updateDictKeys (s:={s with toks:=s.toks+knd.draws k}) e C (Qae (Qae ?_)) ?_ ?_)))
  ·refine h2 (Zak I) _ ?_ (Qb5 ..);obtain⟨oc,od,odt,osl⟩:=o;obtain⟨x1,x2,x3⟩:=ex;subst C;have Z:Heap.SameBut d s.heap (s.heap.update d (Obj.mapDictKeys fun x=>x.push {hash:=knd.hash k,key:=.ref a,val:=dflt})):=Qb5 ..;refine⟨_,_,_,Qbr _ e rfl,⟨x1,x2,x3⟩,rfl,?_,fun x O=>?_,?_⟩
   ·rw[Qg4,D,Qaz];rfl
   ·rcases Qbo.mp O with z|z
    ·exact knd.keeps (F x z) e rfl Z
    ·rw[Qaw.mp z];exact knd.keeps hk e rfl Z
   ·rw[Qaz,Qe6];refine⟨G,Qcd.mpr ⟨Qba,Qcq⟩,fun y hy z J q=>?_⟩;rw[Qbx,List.map_nil,Qaw]at J;rw[q,J]at hy;obtain⟨x,O,ex⟩:=Qau.mp hy;obtain⟨j,L⟩:=Qe8 O;have M:x.1=k:=ex;exact I j x.2 (by rw[L,<-M])
  ·rw[<-Qbj,D,Qab];exact J
  ·grind
 ·refine Qaa (wpAny_dictEntries (s:={s with toks:=s.toks+knd.draws k}) e C ?_);have Y:es[j]?=some (entryOfKey knd (k,p)):=by
   rw[<-Qdq,D,Qah,L];rfl
  rw[Y];exact Qaa (Qdg (Qae (Qae (h1 p (Zgz G L)))))
end
def Zlo{prog:Aq}{A:Ar}{E:Ab}{d:Aw}{o:Obj}{es:Array DictEntry}{ep:Nat}(G:(d == sysModules)=false)(e:s.heap.get? d=some o)(ex:o.ExactDict)(C:o.data=.dict es ep)(D:es.size<=sizeLine)
  (h:Q (.int (es.size:Int) (s.toks+1)) {s with toks:=s.toks+1+1}):A3 prog w A (call (.builtin "len") [.ref d]) Q E s:=by
 have q:s.TypeIs (.ref d) "dict" :=⟨o,e,ex.1⟩;have hz2:=D;rw[Qhd]at hz2;refine call_len_slot q F.slot_dict_len (n:=(es.size:Int)) (fun I h'=>?_) (by lia) (by lia) h;refine Qbe F.slot_dict_len q F.entry_dict_len ?_ (F.args_dict_len_1 _);refine Qaa ?_;refine Qaa (wpAny_notOrdered_dict q (Qaa (Qcj (a:=(Value.ref d,[])) rfl (Qae ?_))));refine Qaa (Qcj (a:=d) rfl ?_);refine Qaa ?_;refine Qaa (wpAny_dictEntries e C (Qae ?_));refine Qaa ?_;unfold Builtin.Dict.pendingCount;rw[G,Qay (by decide)];refine Qae (Qaa (Qgf (Qae ⟨_,rfl,?_⟩)));exact h'
structure KN(Kk:Type)[DecidableEq Kk]where
 knd:∀(P:Aq) (w:Au),HeapKind P w Kk
 hsh:Kk->Int
 at_:Hp->Kk->Addr->Prop
 hash_eq:∀P w k,(knd P w).hash k=hsh k
 ok:∀(P:Aq) (w:Au) (H:Hp) (h:Heap) (k:Kk) (a:Aw),HOk P w H h->at_ H k a->(knd P w).is h k a
 room:∀(P:Aq) (w:Au) (A:Ar),A.units+2<cLine->(knd P w).room A.in1
 room0:∀(P:Aq) (w:Au) (A:Ar),A.units+2<cLine->(knd P w).room A
 keep:∀(H H':Hp) (k:Kk) (a:Aw),(∀b xs,H b=some (.tup xs)->H' b=some (.tup xs))->at_ H k a->at_ H' k a
section
variable {Kk:Type}[DecidableEq Kk](kn:KN Kk)
def entN(x:Kk×Aw×Av):DictEntry:={hash:=kn.hsh x.1,key:=.ref x.2.1,val:=x.2.2}
def Zlp(d:Aw)(xs:List (Kk×Aw×Av))(h:Heap):Prop:=(d == sysModules)=false/\∃o es ep,h.get? d=some o/\o.ExactDict/\o.data=.dict es ep/\es.toList=xs.map (entN kn)
def G8(H:Hp)(d:Aw)(kvs:List (Kk×V)):Prop:=(kvs.map (·.1)).Nodup/\kvs.length<sizeLine /\
 ((kvs=[]/\H d=some (.dK []))\/∃xs,H d=some (.ext (Zlp kn d xs))/\Paired (fun(p:Kk×V) (q:Kk×Aw×Av)=>p.1=q.1/\kn.at_ H q.1 q.2.1/\RelV p.2 q.2.2) kvs xs)
variable {kn}
def Zjb(xs:List (Kk×Aw×Av)):xs.map (entryOfKey (kn.knd P w))=xs.map (entN kn):=by
 refine Qbm fun x _=>?_;show DictEntry.mk _ _ _=DictEntry.mk _ _ _;rw[kn.hash_eq]
def Zlq{d:Aw}{xs:List (Kk×Aw×Av)}(x:Zlp kn d xs h):Y1 P w H h d (.ext (Zlp kn d xs)):=by
 obtain⟨I,o,es,ep,e,r⟩:=id x;refine⟨x,⟨o,e⟩,fun h1 h2 y k=>?_⟩;obtain⟨D,o',C,q,G,F⟩:=y;exact⟨D,o',C,q,k _ G,F⟩
theorem G8.dict{X:Cx}{pins:Ac}{d:Aw}{kvs:List (Kk×V)}(n:G8 kn H d kvs)(I:Inv X pins c H s):
  ∃xs,Heap.DictOfH (kn.knd X.prog X.w) s.heap d xs/\Paired (fun(p:Kk×V) (q:Kk×Aw×Av)=>p.1=q.1/\kn.at_ H q.1 q.2.1/\RelV p.2 q.2.2) kvs xs/\Mut (H d)/\(d == sysModules)=false:=by
 obtain⟨M,Z,h|h⟩:=n
 ·obtain⟨rfl,e⟩:=h;obtain⟨z,Y,vs,L,dd⟩:=Zk2 I.hok e;cases L;obtain⟨o,es,ep,e1,ex,e2,_,C,_⟩:=dd;have F:es.toList=[]:=by
   generalize es.toList=l at C;cases C;rfl
  exact⟨[],⟨o,es,ep,e1,ex,e2,F,(fun x D=>nomatch D),Qcq⟩,.nil,by rw[e];exact True.intro,Y⟩
 ·obtain⟨xs,e,C⟩:=h;obtain⟨⟨O,o,es,ep,e1,ex,e2,F⟩,_,_⟩:=(show Y1 X.prog X.w H s.heap d (.ext (Zlp kn d xs))from I.hok d _ e);refine⟨xs,⟨o,es,ep,e1,ex,e2,by rw[F,Zjb],fun x D=>?_,?_⟩,C,by rw[e];exact True.intro,O⟩
  ·have G:∀{l:List (Kk×V)} {m:List (Kk×Aw×Av)},Paired (fun(p:Kk×V) (q:Kk×Aw×Av)=>p.1=q.1/\kn.at_ H q.1 q.2.1/\RelV p.2 q.2.2) l m->∀x∈m,kn.at_ H x.1 x.2.1:=by
    intro l m C
    induction C with
    |nil=>exact fun x D=>nomatch D
    |cons h _ J=>
     intro x D;rcases Qao.mp D with rfl|D
     ·exact h.2.1
     ·exact J x D
   exact kn.ok _ _ _ _ _ _ I.hok (G C x D)
  ·have G:∀{l:List (Kk×V)} {m:List (Kk×Aw×Av)},Paired (fun(p:Kk×V) (q:Kk×Aw×Av)=>p.1=q.1/\kn.at_ H q.1 q.2.1/\RelV p.2 q.2.2) l m->m.map (·.1)=l.map (·.1):=by
    intro l m C
    induction C with
    |nil=>rfl
    |cons h _ J=>rw[Qbx,Qbx,J,h.1]
   rw[G C];exact M
theorem WU{P:Kk×V->Kk×Aw×Av->Prop}(I:∀p q,P p q->p.1=q.1):∀{l:List (Kk×V)} {m:List (Kk×Aw×Av)},Paired P l m->∀k,(∀v,Yi l k=some v->∃q,atKey m k=some q/\∃p,P p (k,q)/\p.2=v)/\(Yi l k=none->atKey m k=none)
 |[],[],_,k=>⟨fun v h=>(by cases h),fun _=>rfl⟩
 |p::l,q::m,.cons h t,k=>by
  have J:=WU I t k;have e:=I p q h
  by_cases C:p.1=k
  ·have F:q.1=k:=e.symm.trans C;have a1:atKey (q::m) k=some q.2:=by
    unfold atKey;rw[Qdp,Qan F];rfl
   have G:Yi (p::l) k=some p.2:=Yj C;refine⟨fun v D=>?_,fun D=>?_⟩
   ·grind
   ·rw[G]at D;cases D
  ·have F:¬q.1=k:=fun z=>C (e.trans z)
   have a1:atKey (q::m) k=atKey m k:=by
    unfold atKey;rw[Qdp,Qap F]
   have G:Yi (p::l) k=Yi l k:=Ye C;rw[a1,G];exact J
def Zlr{X:Cx}{d:Aw}{kvs:List (Kk×V)}{A:Ar}{E:Ab}(I:Inv X m c H s)(n:G8 kn H d kvs)(h:∀t s',Inv X m c H s'->Q (.int (kvs.length:Int) t) s'):
  A3 X.prog X.w A (call (.builtin "len") [.ref d]) Q E s:=by
 obtain⟨xs,⟨o,es,ep,e1,ex,e2,q,_,_⟩,D,_,F⟩:=n.dict I;have C:es.size=kvs.length:=by rw[<-Qbj,q,Qab];exact(Qfk D).symm
 refine Zlo F e1 ex e2 (by rw[C];exact Qav n.2.1) ?_;rw[C];exact h _ _ (I.tok _)
theorem ye{X:Cx}{pins:Ac}{d:Aw}{k:Kk}{v:V}{u:Av}{kvs:List (Kk×V)}{xs:List (Kk×Aw×Av)}{h':Heap}{tk:Nat}(I:Inv X pins c H s)(n:G8 kn H d kvs)(hk:kn.at_ H k a)(rv:RelV v u)(C:kvs.length+1<sizeLine)
  (G:Paired (fun(p:Kk×V) (q:Kk×Aw×Av)=>p.1=q.1/\kn.at_ H q.1 q.2.1/\RelV p.2 q.2.2) kvs xs) (D:Mut (H d)) (Z:(d == sysModules)=false) (hv:Yi kvs k=none) (dd':Heap.DictOfH (kn.knd X.prog X.w) h' d (xs++[(k,a,u)])) (O:Heap.SameBut d s.heap h'):
  ∃H',G8 kn H' d (kvs++[(k,v)])/\(∀b o,H b=some o->b≠d->H' b=some o)/\(∃o,H'=upd H d o)/\Inv X pins c H' {s with heap:=h',toks:=tk}:=by
 obtain⟨o,es,ep,e1,ex,e2,J,_,_⟩:=dd';have df:Zlp kn d (xs++[(k,a,u)]) h':=⟨Z,o,es,ep,e1,ex,e2,by rw[J,Zjb]⟩;have L:∀b ys,H b=some (.tup ys)->upd H d (.ext (Zlp kn d (xs++[(k,a,u)]))) b=some (.tup ys):=fun b ys e=>by
  rw[Zk fun z=>by rw[<-z,e]at D;exact D];exact e
 refine⟨_,⟨?_,?_,.inr ⟨_,Za,?_⟩⟩,fun b o e hb=>by rw[Zk hb];exact e,⟨_,rfl⟩,jU I D O ⟨o,e1⟩ (Zlq df)⟩
 ·rw[Qaz,Qe6];refine⟨n.1,Qcd.mpr ⟨Qba,Qcq⟩,fun y M z C q=>?_⟩;rw[Qbx,List.map_nil,Qaw]at C;rw[q,C]at M;obtain⟨x,hx,ex⟩:=Qau.mp M;have F:x.1=k:=ex;have:=qN n.1 x hx;rw[F,hv]at this;cases this
 ·rw[Qak];exact C
 ·have Y:∀{l:List (Kk×V)} {m:List (Kk×Aw×Av)},Paired (fun(p:Kk×V) (q:Kk×Aw×Av)=>p.1=q.1/\kn.at_ H q.1 q.2.1/\RelV p.2 q.2.2) l m->Paired (fun(p:Kk×V) (q:Kk×Aw×Av)=>p.1=q.1/\kn.at_ (upd H d (.ext (Zlp kn d (xs++[(k,a,u)])))) q.1 q.2.1/\RelV p.2 q.2.2) (l++[(k,v)]) (m++[(k,a,u)]):=by
   intro l m G
   induction G with
   |nil=>exact .cons ⟨rfl,kn.keep _ _ _ _ L hk,rv⟩ .nil
   |cons h _ ih=>exact .cons ⟨h.1,kn.keep _ _ _ _ L h.2.1,h.2.2⟩ ih
  exact Y G
def zC{X:Cx}{d:Aw}{k:Kk}{v:V}{u:Av}{kvs:List (Kk×V)}{A:Ar}{E:Ab}(I:Inv X m c H s)(n:G8 kn H d kvs)(hk:kn.at_ H k a)(hu:A.units+2<cLine)(rv:RelV v u)(hz:kvs.length+1<sizeLine)
  (h1:∀x,Yi kvs k=some x->∀Y s',RelV x Y->Inv X m c H s'->Q Y s')
  (h2:Yi kvs k=none->∀H' s',G8 kn H' d (kvs++[(k,v)])->(∀b o,H b=some o->b≠d->H' b=some o)->(∃o,H'=upd H d o)->Inv X m c H' s'->Q u s'):
  A3 X.prog X.w A (call (.builtin "dict.setdefault") [.ref d,.ref a,u]) Q E s:=by
 obtain⟨xs,dd,L,mu,Z⟩:=n.dict I;have O:=WU (fun p q h=>h.1) L k;refine call_meetsIn F.slot_dict_setdefault dd.typeIs F.entry_dict_setdefault (F.args_dict_setdefault_3 _ _ _) (GI (kn.knd X.prog X.w) d a Z u) ⟨kn.room _ _ _ hu,k,xs,kn.ok _ _ _ _ _ _ I.hok hk,dd,?_,?_,?_⟩
 ·rw[<-Qfk L];exact Qav n.2.1
 ·intro p G;cases C:Yi kvs k with
  |none=>rw[O.2 C]at G;cases G
  |some x=>
   obtain⟨q,D,p',J,e⟩:=O.1 x C;rw[G]at D;cases D;exact h1 x C p.2 _ (e ▸ J.2.2) (I.tok _)
 ·intro M h' dd' sb;have C:Yi kvs k=none:=by
   cases C:Yi kvs k with
   |none=>rfl
   |some x=>
    obtain⟨q,D,_⟩:=O.1 x C;rw[M]at D;cases D
  obtain⟨H',n',k',o',I'⟩:=ye I n hk rv hz L mu Z C dd' sb;exact h2 C H' _ n' k' o' I'
end
def vB:V->Option Int
 |.int i=>some i
 |.bl b=>some (b2i b)
 |_=>none
theorem gN{P:Aq}{w:Au}:∀{vs:A2} {q:Ag} {ks:Ak},Vals vs q->vs.map vB=ks.map some->ItemsAre (Yy P w) ks q
 |[],_,[],r,_=>by cases r;exact .nil
 |v::vs,_,k::ks,.cons h t,e=>by
  injection e with e1 e2;refine .cons ?_ (gN t e2);cases v with
  |int i=>
   obtain⟨t,rfl⟩:=h;cases e1;exact Qcu _
  |bl b=>
   cases(show _=Value.bool b from h);cases e1;exact Qcu _
  |_=>cases e1
def gO(H:Hp)(ks:Ak)(a:Aw):Prop:=∃vs,H a=some (.tup vs)/\vs.map vB=ks.map some
def gO.is{ks:Ak}(ok:HOk P w H h)(b:gO H ks a):IsTupleKey (Yy P w) h ks a:=by
 obtain⟨vs,e,C⟩:=b;obtain⟨_,q,r,o,h1,h2,⟨n,D⟩,_⟩:=(show Y1 P w H h a (.tup vs)from ok a _ e);exact⟨o,q.toArray,n,h1,h2,D,by simpa using gN r C⟩
def knT:KN (Ak)where
 knd:=fun P w=>tupleKind (Yy P w)
 hsh:=fun ks=>reduceHash (Builtin.Tuple.tupleHashOf (ks.map hashInt))
 at_:=gO
 hash_eq:=fun P w k=>rfl
 ok:=fun P w H h k a ok b=>b.is ok
 room:=fun P w A q=>by show A.units+1<cLine;lia
 room0:=fun P w A q=>by show A.units<cLine;lia
 keep:=fun H H' k a D ⟨vs,e,C⟩=>⟨vs,D _ _ e,C⟩
def Zdi(H:Hp)(k:Int×Ak)(a:Aw):Prop:=∃t,H a=some (.tup [.int k.1,.ref t])/\gO H k.2 t
def knP:KN (Int×Ak)where
 knd:=Zgy
 hsh:=fun k=>reduceHash (Builtin.Tuple.tupleHashOf [hashInt k.1,reduceHash (Builtin.Tuple.tupleHashOf (k.2.map hashInt))])
 at_:=Zdi
 hash_eq:=fun P w k=>rfl
 ok:=fun P w H h k a ok ⟨t,e,b⟩=>by
  obtain⟨_,G,r,o,h1,h2,⟨n,J⟩,_⟩:=(show Y1 P w H h a (.tup [.int k.1,.ref t])from ok a _ e);cases r with
  |cons L q=>
  cases q with
  |cons q I=>
  cases I;obtain⟨tk,rfl⟩:=L;cases(show _=Value.ref t from q);exact⟨o,n,t,tk,h1,h2,J,b.is ok⟩
 room:=fun P w A D=>by show A.units+1+1<cLine;lia
 room0:=fun P w A D=>by show A.units+1<cLine;lia
 keep:=fun H H' k a C ⟨t,e,vs,e2,F⟩=>⟨t,C _ _ e,vs,C _ _ e2,F⟩
section
def Zom:A2->Hp->VK->Prop:=fun xs H Q=>∃(Kk:Type) (_:DecidableEq Kk) (kn:KN Kk) (d:Aw) (kvs:List (Kk×V)),xs=[V.ref d]/\G8 kn H d kvs/\Q (.int kvs.length) H
def Zdj:Y9 X (.builtin "len") Zom:=by
 intro pins s σ H xs F Q I r h;obtain⟨Kk,_,kn,d,kvs,rfl,n,q⟩:=h;obtain⟨u,rfl,D⟩:=vals1 r;cases D;exact Zlr I n fun t s' C=>⟨.int kvs.length,H,C,⟨t,rfl⟩,q⟩
def Zon:V->List V->Hp->VK->Prop:=fun x vs H Q=>∃(Kk:Type) (_:DecidableEq Kk) (kn:KN Kk) (d a:Aw) (k:Kk) (v:V) (kvs:List (Kk×V)),x=.ref d/\vs=[.ref a,v]/\G8 kn H d kvs/\kn.at_ H k a/\kvs.length+1<sizeLine /\
 (∀y,Yi kvs k=some y->Q y H)/\(Yi kvs k=none->∀H',G8 kn H' d (kvs++[(k,v)])->(∀b o,H b=some o->b≠d->H' b=some o)->(∃o,H'=upd H d o)->Q v H')
def Zls (F:X.A.units+2<cLine):MtM X "dict.setdefault" Zon:=by
 intro pins s σ H x vs v us Q I rx Y h;obtain⟨Kk,_,kn,d,a,k,y,kvs,rfl,rfl,n,Z,D,h1,h2⟩:=h;cases rx;cases Y with
 |cons O q=>
 cases q with
 |cons q G=>
 cases G;cases(show _=Value.ref a from O);exact zC I n Z F q D (fun z D u' s' ru C=>⟨z,H,C,ru,h1 z D⟩) fun L H' s' M o' J C=>⟨y,H',C,q,h2 L H' M o' J⟩
def tyN(x:V)(H:Hp):Prop:=∃(Kk:Type) (_:DecidableEq Kk) (kn:KN Kk) (d:Aw) (kvs:List (Kk×V)),x=.ref d/\G8 kn H d kvs
def tyN_is     {x:V}  (I:Inv X m c H s) (r:RelV x v) (ty:tyN x H):s.TypeIs v "dict" /\ ∀a,v=.ref a->∃ob,s.heap.get? a=some ob/\ob.dict=none:=by
 obtain⟨Kk,_,kn,d,kvs,rfl,n⟩:=ty;cases r;obtain⟨xs,⟨o,es,ep,e,ex,_⟩,_,_,_⟩:=n.dict I;refine⟨⟨o,e,ex.1⟩,fun a q=>?_⟩;cases q;exact⟨o,e,ex.2.1⟩
def tBMN(to:TE)(t:TA):TE:=fun σ H Q=>to σ H fun x H1=>tyN x H1/\t σ H1 fun xs H2=>Zon x xs H2 Q
variable {o e:Ax}{es:An}{to:TE}{t:TA}{name:Str}{apos cpos:Pos}
def Zlt (hu:X.A.units+2<cLine) (ho:QE X o to) (ha:QA X (e::es) t) (C:attributeBase o "setdefault" X.env (eval o X.env)=eval o X.env:=by rfl) (q:(apos.endLine == cpos.line)=true:=by rfl) (J:(e::es).all ZU=true:=by rfl) (hl:(e::es).length<30:=by decide):
  QE X (.Call (.Attribute o "setdefault" apos) (e::es) [] cpos) (tBMN to t):=by
 refine⟨fun pins s σ H Q I h=>?_⟩;have D:=J;rw[Qc3,Qb4]at D;have G:((backTo cpos (starEach (e::es) X.env)).all (fun x=>!x.1)&&(backToKw cpos (keywordEach [] X.env)).all (fun x=>x.1.isSome)&&decide ((e::es).length+([]:List Keyword).length+(if([]:List Keyword).isEmpty then 0 else 1)<30))=true:=by
  rw[all_plain J];exact Qan hl
 refine Qfu C G q rfl (thn (ho.out pins s σ H _ I h) fun v s1 ⟨x,H1,L,O,ty,Z⟩=>?_);obtain⟨h1,h2⟩:=tyN_is L O ty;refine⟨"dict","dict.setdefault",F.plainAttrs_dict,F.slot_dict_setdefault,F.type_dict_setdefault,h1,h2,?_⟩;have M:=ha.out cpos pins s1 σ H1 _ L Z;have hs:starEach (e::es) X.env=(false,eval e X.env)::starEach es X.env:=Zu D.1;rw[hs]at M ⊢;refine Qdy (by grind) (Qe7 ?_);exact thn M fun us s2 ⟨vs,H2,I2,r2,Y⟩=>Zls hu pins s2 σ H2 x vs v us Q I2 O r2 Y
end
def rMaxL(K:Af):A2->Hp->VK->Prop:=fun xs H Q=>∃(p:Aw) (ns:Ak),xs=[.ref p]/\SqL K H p (ns.map V.int)/\ns≠[]/\∀m∈ns,(∀n∈ns,n<=m)->Q (.int m) H
def vz (hc:X.calm=true):Y9 X (.builtin "max") (rMaxL X.K):=by
 intro pins s σ H xs us Q I r h;obtain⟨p,ns,rfl,hq,hne,q⟩:=h;obtain⟨u,rfl,rx⟩:=vals1 r;cases rx;obtain⟨C,r',pl,hz⟩:=I.list hq;have hi:IntsAre C ns:=intsAre_of r';obtain⟨xs,O⟩:=hi.allInts.items;have F:s.heap.IsList p (intItems xs):=O ▸ pl.isList;have e1:ns=xs.toList.map (·.1):=by
  rw[<-nums_intItems,<-O];exact(show numsOf C.toArray.toList=ns from hi.numsOf).symm
 have hsz:0<xs.size:=by
  grind
 refine max_intList (I.ok.hd hc) F hsz fun v h' tk G hk=>?_;have Y:=argBest_gt (numAt xs) (xs.size-1);generalize argBest (fun i j=>decide (numAt xs i>numAt xs j)) (xs.size-1)=b at G Y;have J:b<xs.size:=by lia
 have at_:∀j (D:j<xs.size),numAt xs j=xs[j].1/\(intItems xs)[j]?=some (.int xs[j].1 xs[j].2):=by
  intro j D;exact⟨by simp[numAt,D],by simp[intItems,D]⟩
 obtain⟨n1,n2⟩:=at_ b J;rw[n2]at G;cases G;refine⟨.int xs[b].1,H,I.kept hk,⟨_,rfl⟩,q _ ?_ fun n M=>?_⟩
 ·grind
 ·rw[e1]at M;obtain⟨y,hy,rfl⟩:=Qau.mp M;obtain⟨j,D⟩:=Qe8 hy;have L:j<xs.size:=by
   grind
  have:=Y.2 j (by lia);rw[(at_ j L).1,n1]at this;have Z:xs[j]=y:=by
   grind
  rw[Z]at this;exact this
def rRngV:A2->Hp->VK->Prop:=fun xs H Q=>∃j:Int,xs=[.int j]/\∀p,H p=none->Q (.ref p) (upd H p (.rng 0 j))
def wg:Y9 X (.type "range") rRngV:=by
 intro pins s σ H xs D Q I r h;obtain⟨j,rfl,q⟩:=h;obtain⟨u,rfl,C⟩:=vals1 r;obtain⟨t,rfl⟩:=C;refine call_range_1 ⟨.ref s.heap.objs.size,_,I.laid (fun b u e=>Qad _ e) (Qaj _) ?_,rfl,q _ I.fresh⟩;exact⟨_,_,_,Qam _ rfl⟩
def Zlu:A2->Hp->VK->Prop:=fun xs H Q=>∃(p:Aw) (n:Nat),xs=[.ref p]/\H p=some (.rng 0 (n:Int))/\n<=1000000/\∀l,H l=none->Q (.ref l) (upd H l (.lst ((List.range n).map fun i:Nat=>V.int (i:Int))))
theorem wj (hc:X.calm=true):Y9 X (.type "list") Zlu:=by
 intro pins s σ H xs D Q I r h;obtain⟨p,n,rfl,e,hn,q⟩:=h;obtain⟨u,rfl,ru⟩:=vals1 r;cases ru;obtain⟨t,u,v,M⟩:=(show Y1 X.prog X.w H s.heap p (.rng 0 (n:Int))from I.hok p _ e);have hsz:Builtin.Range.rangeSize 0 (n:Int) 1=(n:Int):=by
  unfold Builtin.Range.rangeSize;split
  ·lia
  ·lia
 have C:∀z:Int,0<=z->z<=1000000->Builtin.Range.rangeFitsLong z=true:=fun z h1 h2=>by
  unfold Builtin.Range.rangeFitsLong;simp only[Qb4,Qg7];lia
 have J:Builtin.Range.small 0 (n:Int) 1=true:=by
  unfold Builtin.Range.small;rw[hsz,C 0 (by decide) (by decide),C n (by lia) (by lia),C 1 (by decide) (by decide),Qa3 (by decide),show(n:Int)+(1-1)=n by lia,C n (by lia) (by lia)];simp
 refine call_list_range (I.ok.hd hc) M J hsz (by lia) fun h' tk acc Y hk F it=>?_;refine⟨.ref s.heap.objs.size,_,I.laid hk (Qaj _) ?_,rfl,q _ I.fresh⟩;have G:acc.toList.length=n:=by exact it.1
 refine⟨by rw[Qab,Qbb,Qhd];lia,acc.toList,Y,?_,by simpa using F⟩;have O:∀(m:Nat) (D:Ag) (k:Nat),D.length=m->(∀j v,D[j]?=some v->∃t,v=Value.int ((k+j:Nat):Int) t)->Vals ((List.range' k m).map fun i:Nat=>V.int (i:Int)) D:=by
  intro m
  induction m with
  |zero=>
   intro D k F _;rw[Qco F];exact .nil
  |succ m Z=>
   intro D k F hh;cases D with
   |nil=>cases F
   |cons u D=>
    refine .cons ?_ (Z D (k+1) (by simpa using F) fun j v L=>?_)
    ·obtain⟨t,e⟩:=hh 0 u rfl;exact⟨t,e⟩
    ·obtain⟨t,e⟩:=hh (j+1) v (by simpa using L);exact⟨t,by grind⟩
 rw[List.range_eq_range'];refine O n acc.toList 0 G fun j v L=>?_;obtain⟨t,e⟩:=it.2 j v (by rw[<-Qdq];exact L);exact⟨t,by grind⟩
end L2
namespace L2
def v3{A:PySem.Around}{k:Nat}(q:WK k A):A.units+2<PySem.cLine:=Qeq (Nat.add_le_add_left (by decide:2<=64) _) q.units
def Zlv(C:Aq)(w:Au)(K:Af)(mg:Ae)(base:Heap)(k:Nat)(sp:Sp)(P:Aw)(lpos:Pos)(qual:Str)(ta tb:TE)(n:Nat)(is:Aj)(te:TE):TE:=fun σ H Q=>ta σ H fun z D=>tb σ D fun x H1=>Yo H1 P lpos qual /\
 ∀(cs:List Aw) (f:Aw) (H2:Hp),(∀c∈cs,H1 c=none)->(∀c∈cs,∃o,H2 c=some (X4 o))->H1 f=none->(∀q,Z8 H2 q->Yo (hide cs q) P lpos qual)->(∀b o,H1 b=some o->b≠P->H2 b=some o)->
  YZ C w K mg base k f H2 (Zoj n te cs (is.map fun i=>(σ[i]?).getD none))->sp [z,x,.ref f] H2 (fun v q=>Q v (hide cs q)) E0
section
variable {X:Cx}{params:Arguments}{body a:Ax}{scope:Scope}{lpos p pos:Pos}{c P g:Aw}{qual x:Str}{k kl:Nat}{gd:Ao}{pg ps ys:Ai}{is:Aj}{sp:Sp}{ta te:TE}{b:Ax}{tb:TE}
def Zdk(F:Y5 X.prog X.w X.K X.mg X.base CX0 k g gd pg sp)(hr:WK k X.A)(hg:Gl X x)(hm:X.mg x=some (.ref g))(hk:PySem.W.keepIn X.K (.ref g)=true)(hb:Binds X.K gd pg [])(hfn:X.fn=fun _=>true)
  (ha:QE X a ta) (hb2:QE X b tb) (hcode:X.env.code=.ref c) (C:PySem.W.CodeHd X.base c P) (B:yc X.mg X.base) (hdef:defaultsOf params X.env=([],[])) (hq:X.env.qual ++ "<lambda>" = qual)
  {S0:Scope} {N0:Ai} (hX:X.env.scope=S0) (hXN:X.N=N0) (LL:Zok S0 scope N0 ps ys is)
  (Z:∀(cl:List (Str×Aw)) (pm cv G:Av) (us:Ag),us.length=ps.length->bindArgs (PySem.W.kla_fn "<lambda>" qual params body scope cl pm cv G) ⟨us,[]⟩=pure (ps.zip us))
  (hbody:∀(f L:Aw) (cl:List (Str×Aw)) (A:Ar) (outer:List Env) (s:As) (H1:Hp),WK kl (A.deeper (PySem.W.envX qual scope s.heap.objs.size f (.ref L) cl))->QE (cxL X.prog X.w X.K X.mg X.base (ps++ys) qual scope f (.ref L) cl A outer s H1) body te)
  (hdb:(x == ("__debug__" : Str))=false:=by decide) (he:starEach [a,b,.Lambda params body scope lpos] X.env=(false,eval a X.env)::starEach [b,.Lambda params body scope lpos] X.env:=by rfl) (he2:starEach [b,.Lambda params body scope lpos] X.env=(false,eval b X.env)::starEach [.Lambda params body scope lpos] X.env:=by rfl)
  (hs2:starEach [.Lambda params body scope lpos] X.env=(false,eval (.Lambda params body scope lpos) X.env)::starEach [] X.env:=by rfl) (hpl:(backTo pos (starEach [b,.Lambda params body scope lpos] X.env)).any (·.1)=false:=by rfl):
  QE X (.Call (.Name x p) [a,b,.Lambda params body scope lpos] [] pos) (Zlv X.prog X.w X.K X.mg X.base (kl+1) sp P lpos qual ta tb ps.length is te):=by
 have S:=LL.sc;have D:∀y∈scope.names,y.2=.free->X.env.scope.names.lookup y.1=some .cell:=fun y hy h=>by rw[hX];exact LL.free y hy h
 have hN:∀q∈ys.zip is,X.N[q.2]?=some q.1:=fun q hq=>by rw[hXN];exact LL.vis q hq
 have M:=LL.len;refine⟨?_⟩;intro pins s σ H Q I hw;refine Qdd (jL I hg hm ?_ hdb);have hlam:=Zdc (X:=X) (lpos:=lpos) (params:=params) (body:=body) (scope:=scope) hcode C B hdef hq D;refine Qgl (h₀:=X.base) I.ok.mod.kin hk ?_ he hpl;rw[he];refine Qcy (thn (ha.out pins s σ H _ I hw) fun u s0 ⟨x00,H0,I0,r0,hw0⟩=>?_);rw[he2];refine Qcy (thn (hb2.out pins s0 σ H0 _ I0 hw0) fun u1 s1 ⟨x0,H1,I1,r1,hT,q1⟩=>?_);rw[hs2];refine Qcy (thn (hlam pins s1 σ H1 (fun v H2=>∃(f L:Aw) (oc:Obj) (G:Av),v=.ref f/\H1 f=none/\H2 f=some (X4 (jt X qual params body scope L G))/\H2 L=some (X4 oc)/\js oc qual/\Yo H2 P lpos qual/\∀b o,H1 b=some o->b≠P->H2 b=some o) I1 ⟨hT,fun f L oc G H2 a1 a2 a3 a4 a5 a6=>⟨f,L,oc,G,rfl,a1,a2,a3,a4,a5,a6⟩⟩) fun u2 s2 ⟨y,H2,O,r2,f,L,oc,G,hy,f1,f2,f3,f4,f5,f6⟩=>?_);subst hy;cases r2;refine Qd6 ⟨O.kIn,?_⟩;have Y:∀y d,(xn X.env.cells scope.names []).lookup y=some d->X.env.cells.lookup y=some d:=
  JR (fun y hy h=>O.ok.has y.1 (.inl (D y hy h))) fun _ _ z=>by cases z
 have J:=qO O;have hcs:=yd O;refine x5 F hr hb hfn O (show Vals [x00,x0,V.ref f] [u,u1,Value.ref f]from .cons r0 (.cons r1 (.cons rfl .nil))) (q1 (cellsOf X.env.cells) f (Zai X s2 H2) (Wa I1) (fun d m=>let⟨o,_,e,_⟩:=hcs d m;⟨o,e⟩) f1 (fun H4 s4=>Zlj O f5 s4) (fun b o e hbP=>J _ _ (f6 b o e hbP)) ?_);exact vx (ys:=ys) S (J _ _ f2) (J _ _ f3) f4 (fun y d h=>YS.mpr ⟨y,Y y d h⟩) (fun d m=>let⟨o,v,e,hd,_⟩:=hcs d m;⟨o,v,e,hd⟩) (fun y z d h1 h2=>O.ok.inj y z d (Y y d h1) (Y z d h2)) (fun y h=>Jr h) (by rw[Qab,M])
  (vy (N0:=N0) O D S.free hN M) (fun us hl=>Z _ _ _ _ us hl) fun A outer s H1 hr=>(hbody f L _ A outer s H1 hr).out
end
def Zoo(K:Af)(i:Nat):TI:=fun σ H R=>∃a,σ[i]?=some (some (.ref a))/\(((∃xs,SqL K H a xs)/\R (Itl K a) H)\/((∃xs,SqT K H a xs)/\R (Itt K a) H))
theorem Zlw{X:Cx}{l:Ax}(q:QE X l (yP i)):QI X o l (Zoo X.K i):=⟨fun pins s σ H R I h=>by
 obtain⟨a,e,h|h⟩:=h
 ·exact(Xr q).out pins s σ H R I ⟨_,e,a,rfl,h.1,h.2⟩
 ·exact(Xs q).out pins s σ H R I ⟨_,e,a,rfl,h.1,h.2⟩⟩
section
variable {κ:Type}[DecidableEq κ]
def Y4(l:List κ)(k:κ):List κ:=if k∈l then l else l++[k]
def Z1(ks:List κ):List κ:=ks.foldl Y4 []
def jv(ks:List κ)(k:κ):Z1 (ks++[k])=Y4 (Z1 ks) k:=by
 unfold Z1;rw[Qc8];rfl
def Wb{l:List κ}(h:l.Nodup)(k:κ):(Y4 l k).Nodup:=by
 unfold Y4;split
 ·exact h
 ·grind
theorem Xu(ks:List κ):(Z1 ks).Nodup:=by
 have:∀(ks l:List κ),l.Nodup->(ks.foldl Y4 l).Nodup:=by
  intro ks
  induction ks with
  |nil=>exact fun l h=>h
  |cons k r q=>exact fun l h=>q _ (Wb h k)
 exact this ks [] Qcq
def X9{l:List κ}{k x:κ}:x∈Y4 l k↔x∈l\/x=k:=by
 unfold Y4;split
 ·grind
 ·rw[Qbo,Qaw]
theorem Yf(ks:List κ)(x:κ):x∈Z1 ks↔x∈ks:=by
 have:∀(ks l:List κ),x∈ks.foldl Y4 l↔x∈l\/x∈ks:=by
  intro ks
  induction ks with
  |nil=>intro l;simp
  |cons k r q=>
   intro l;rw[Qc1,q,X9,Qao,or_assoc]
 rw[show Z1 ks=ks.foldl Y4 []from rfl,this];simp
def qP(l:List κ)(k:κ):(Y4 l k).length<=l.length+1:=by
 unfold Y4;split
 ·lia
 ·grind
theorem gP(ks:List κ):(Z1 ks).length<=ks.length:=by
 have:∀(ks l:List κ),(ks.foldl Y4 l).length<=l.length+ks.length:=by
  intro ks
  induction ks with
  |nil=>exact fun l=>Qaj _
  |cons k r q=>
   intro l;have h1:=q (Y4 l k);have h2:=qP l k;rw[Qc1,Qa9];lia
 have h:=this ks [];rw[Qeu,Qfg]at h;exact h
def yf(l:List κ)(k:κ):∃r,Y4 l k=l++r:=by
 unfold Y4;split
 ·exact⟨[],(Qby _).symm⟩
 ·exact⟨[k],rfl⟩
theorem Jt(ks:List κ):∀l:List κ,∃r,ks.foldl Y4 l=l++r:=by
 induction ks with
 |nil=>exact fun l=>⟨[],(Qby _).symm⟩
 |cons k r q=>
  intro l;obtain⟨a,ha⟩:=yf l k;obtain⟨b,C⟩:=q (Y4 l k);exact⟨a++b,by grind⟩
def jw(ks:List κ)(i:Nat):∃r,Z1 ks=Z1 (ks.take i)++r:=by
 have e:Z1 ks=(ks.drop i).foldl Y4 (Z1 (ks.take i)):=by
  unfold Z1;rw[<-Qc8,Qc9]
 rw[e];exact Jt _ _
def GJ{l r:List κ}{k:κ}(h:k∈l):(l++r).idxOf k=l.idxOf k:=by grind
theorem idx_map{α β:Type}[DecidableEq α][DecidableEq β](f:α->β)(q:∀a b,f a=f b->a=b)(s:α):∀l:List α,(l.map f).idxOf (f s)=l.idxOf s
 |[]=>rfl
 |x::r=>by
  rw[Qbx,Qfr,Qfr,idx_map f q s r]
  by_cases h:x=s
  ·grind
  ·grind
def Xv(l:List κ):List (κ×V):=l.zipIdx.map fun p=>(p.1,V.int (p.2:Int))
def GK(l:List κ):(Xv l).map (·.1)=l:=by
 unfold Xv;rw[Qax];exact List.zipIdx_map_fst 0 l
def WV(l:List κ):(Xv l).length=l.length:=by
 unfold Xv;rw[Qab,List.length_zipIdx]
def GL(l:List κ)(k:κ):Xv (l++[k])=Xv l++[(k,V.int (l.length:Int))]:=by
 unfold Xv;rw[List.zipIdx_append,Qaz];simp
def WW:∀(l:List κ) (k:κ),k∈l->l.Nodup->Yi (Xv l) k=some (V.int (l.idxOf k:Int)):=by
 intro l k C q;have hi:=Qbh C;have D:(k,V.int (l.idxOf k:Int))∈Xv l:=by
  refine Qau.mpr ⟨(k,l.idxOf k),?_,rfl⟩;rw[List.mem_zipIdx_iff_getElem?];simp[hi,Qac]
 have:=qN (kvs:=Xv l) (by rw[GK];exact q) _ D;exact this
def GN(l:List κ)(k:κ)(C:k∉l):Yi (Xv l) k=none:=by
 unfold Yi;rw[Option.map_eq_none_iff,List.find?_eq_none];intro x q z;have:x.1∈(Xv l).map (·.1):=Qb6 q;rw[GK,Qbg z]at this;exact C this
end
end L2
namespace L2
section
variable {κ β:Type}[DecidableEq κ][DecidableEq β]
def Wj(ks:List κ):Aj:=ks.map fun k=>(Z1 ks).idxOf k
def gQ(ks:List κ):(Wj ks).length=ks.length:=Qab ..
def qQ(ks:List κ)(i:Nat):(Wj ks)[i]?=(ks[i]?).map fun k=>(Z1 ks).idxOf k:=Qah ..
def wk{l:List κ}{a b:κ}(ha:a∈l)(h:l.idxOf a=l.idxOf b)(q:b∈l):a=b:=by
 have h1:=List.getElem_idxOf (Qbh ha);have h2:=List.getElem_idxOf (Qbh q);rw[<-h1,<-h2];simp only[h]
def yg{ks:List κ}{j:Nat}{a b:κ}(ha:ks[i]?=some a)(q:ks[j]?=some b):(Wj ks)[i]?=(Wj ks)[j]?↔a=b:=by
 rw[qQ,qQ,ha,q];constructor
 ·intro h;exact wk ((Yf ks a).mpr (Qar ha)) (Option.some.inj h) ((Yf ks b).mpr (Qar q))
 ·intro h;rw[h]
def gR(f:κ->β)(l:List κ)(k:κ)(h:∀a∈l,f a=f k->a=k):Y4 (l.map f) (f k)=(Y4 l k).map f:=by
 unfold Y4
 by_cases q:k∈l
 ·grind
 ·grind
theorem yh(f:κ->β)(ks:List κ)(h:∀a∈ks,∀b∈ks,f a=f b->a=b):Z1 (ks.map f)=(Z1 ks).map f:=by
 have C:∀(ks l:List κ),(∀a,a∈l\/a∈ks->∀b,b∈l\/b∈ks->f a=f b->a=b)->(ks.map f).foldl Y4 (l.map f)=(ks.foldl Y4 l).map f:=by
  intro ks
  induction ks with
  |nil=>exact fun l _=>rfl
  |cons k r D=>
   intro l hh;rw[Qbx,Qc1,Qc1,gR f l k fun a ha e=>hh a (.inl ha) k (.inr Qai) e];refine D _ fun a ha b q=>hh a ?_ b ?_
   ·rcases ha with ha|ha
    ·rcases X9.mp ha with z|z
     ·exact .inl z
     ·exact .inr (z ▸ Qai)
    ·exact .inr (Qal _ ha)
   ·rcases q with ha|ha
    ·rcases X9.mp ha with z|z
     ·exact .inl z
     ·exact .inr (z ▸ Qai)
    ·exact .inr (Qal _ ha)
 exact C ks [] fun a ha b q=>h a (ha.resolve_left Qba) b (q.resolve_left Qba)
theorem Zdl(f:κ->β)(s:κ):∀l:List κ,(∀a∈l,f a=f s->a=s)->(l.map f).idxOf (f s)=l.idxOf s
 |[],_=>rfl
 |x::r,h=>by
  rw[Qbx,Qfr,Qfr,Zdl f s r fun a ha=>h a (Qal _ ha)]
  by_cases e:x=s
  ·grind
  ·grind
def yi(f:κ->β)(ks:List κ)(h:∀a∈ks,∀b∈ks,f a=f b->a=b):Wj (ks.map f)=Wj ks:=by
 unfold Wj;rw[Qax,yh f ks h];refine Qbm fun k q=>?_;exact Zdl f k _ fun a ha e=>h a ((Yf ks a).mp ha) k q e
def Zdm(ks:List κ):∀a∈ks,∀b∈ks,(Z1 ks).idxOf a=(Z1 ks).idxOf b->a=b:=fun a ha b q e=>wk ((Yf ks a).mpr ha) e ((Yf ks b).mpr q)
def x6(ks:List κ):Wj (Wj ks)=Wj ks:=yi (fun k=>(Z1 ks).idxOf k) ks (Zdm ks)
def Zdn(ks:List κ):(Z1 (Wj ks)).length=(Z1 ks).length:=by
 unfold Wj;rw[yh _ ks (Zdm ks),Qab]
theorem Wc:∀{l1 l2:List κ},l1.Nodup->(∀x∈l1,x∈l2)->l1.length<=l2.length
 |[],_,_,_=>Qbt _
 |a::r,l2,h1,hs=>by
  rw[Qcd]at h1;have ha:=hs a Qai;have:=Wc (l1:=r) (l2:=l2.erase a) h1.2 fun x q=>(Qf8 (show x≠a from fun z=>h1.1 (z ▸ q))).mpr (hs x (Qal _ q));rw[Qfh ha]at this;have C:=Qeo ha;rw[Qa9];lia
theorem gS:∀{l1 l2:List κ},l1.Nodup->(∀x∈l1,x∈l2)->l2.length<=l1.length->l2.Nodup
 |[],l2,_,_,F=>by
  grind
 |a::r,l2,h1,hs,F=>by
  rw[Qcd]at h1;have ha:=hs a Qai;have q:∀x∈r,x∈l2.erase a:=fun x C=>(Qf8 (show x≠a from fun z=>h1.1 (z ▸ C))).mpr (hs x (Qal _ C));have G:=Qfh ha;rw[Qa9]at F;have I:=gS h1.2 q (by lia);have D:a∉l2.erase a:=fun z=>by
   have:=Wc (l1:=r) (l2:=(l2.erase a).erase a) h1.2 fun x C=>(Qf8 (show x≠a from fun z=>h1.1 (z ▸ C))).mpr (q x C);rw[Qfh z]at this;have J:=Qeo z;lia
  exact(List.perm_cons_erase ha).nodup_iff.mpr (Qcd.mpr ⟨D,I⟩)
def v8(f:κ->β)(ks:List κ)(h:(Z1 ks).length<=(Z1 (ks.map f)).length):∀a∈ks,∀b∈ks,f a=f b->a=b:=by
 have F:((Z1 ks).map f).Nodup:=gS (Xu (ks.map f)) (fun x C=>by
  obtain⟨k,I,e⟩:=Qau.mp ((Yf _ x).mp C);exact Qau.mpr ⟨k,(Yf ks k).mpr I,e⟩) (by rw[Qab];exact h)
 intro a ha b q e;have D:=Qbh ((Yf ks a).mpr ha);have L:=Qbh ((Yf ks b).mpr q);have G:((Z1 ks).map f)[(Z1 ks).idxOf a]?=some (f a):=by
  grind
 have J:((Z1 ks).map f)[(Z1 ks).idxOf b]?=some (f b):=by
  grind
 have:=(List.getElem?_inj (i:=(Z1 ks).idxOf a) (j:=(Z1 ks).idxOf b) (by rw[Qab];exact D) F).mp (by rw[G,J,e]);exact wk ((Yf ks a).mpr ha) this ((Yf ks b).mpr q)
def Zlx{ks:List κ}{m:Nat}(h:m∈Wj ks):m<(Z1 ks).length:=by
 obtain⟨k,q,rfl⟩:=Qau.mp h;exact Qbh ((Yf ks k).mpr q)
def Zg0{ks:List κ}{m:Nat}(h:m∈Wj ks)(C:∀n∈Wj ks,n<=m):m+1=(Z1 ks).length:=by
 have h1:=Zlx h;have q:(Z1 ks).length-1<(Z1 ks).length:=by lia
 have D:(Z1 ks)[(Z1 ks).length-1]∈ks:=(Yf ks _).mp (Qbs q);have hi:(Z1 ks).idxOf (Z1 ks)[(Z1 ks).length-1]=(Z1 ks).length-1:=List.Nodup.idxOf_getElem (Xu ks) _ q;have:=C _ (Qau.mpr ⟨_,D,rfl⟩);lia
end
def Zal{b1 b2:Bool}{xs ys:A2}{is:Aj}{σ:St}{Q:VK}(q:Nat->List V->Hp->Prop)(Y:q 0 [] H)(J:∀i zs H,q i zs H->zs.length<=sizeLine)(Z:∀i zs H,q i zs H->SqB K b1 H a xs/\SqB K b2 H f ys)
  (hs:∀i x y p zs H (R:A2->Hp->Prop),(∀zs H,q (i+1) zs H->R zs H)->xs[i]?=some x->ys[i]?=some y->q i zs H->H p=none->G (Zlm is σ (some x) (some y)) (upd H p (.tup [x,y])) fun b H2=>if b=true then u (Zlm is σ (some x) (some y)) H2 fun y L=>R (zs++[y]) L else R zs H2)
  (hd:∀zs H,q (xs.zip ys).length zs H->∀p,H p=none->Q (.ref p) (upd H p (.lst zs))):
  Zdg K is G u σ Q (Itz K b1 b2 a f) H:=by
 refine⟨fun i m zs H=>m=(xs.zip ys).length-i/\i<=(xs.zip ys).length/\q i zs H,⟨(xs.zip ys).length,by simp,Qbt _,Y⟩,?_⟩;rintro i m zs H ⟨rfl,hi,p⟩;obtain⟨F,D⟩:=Z i zs H p;have hz:(xs.zip ys).length=min xs.length ys.length:=Qes
 by_cases C:i<(xs.zip ys).length
 ·have l1:i<xs.length:=by lia
  have l2:i<ys.length:=by lia
  refine .inr ⟨⟨xs,ys,xs[i],ys[i],F,D,Qac l1,Qac l2⟩,J i zs H p,fun x H' y=>?_⟩;obtain⟨c,O,rfl,e⟩:=y;rw[e xs ys _ _ F D (Qac l1) (Qac l2)];exact⟨c,_,_,rfl,SqT.of Za,hs i _ _ c zs H (fun zs H=>∃I,I<(xs.zip ys).length-i/\(fun i m zs H=>m=(xs.zip ys).length-i/\i<=(xs.zip ys).length/\q i zs H) (i+1) I zs H) (fun zs H M=>⟨(xs.zip ys).length-(i+1),by lia,rfl,C,M⟩) (Qac l1) (Qac l2) p O⟩
 ·have e:i=(xs.zip ys).length:=by lia
  subst e;exact .inl ⟨⟨xs,ys,F,D,by lia⟩,J _ zs H p,hd zs H p⟩
def EqD(H:Hp):Nat->V->V->Prop
 |0,x,y=>YM x=true/\x=y
 |n+1,x,y=>(YM x=true/\x=y)\/∃a c xs ys,x=.ref a/\y=.ref c/\H a=some (.tup xs)/\H c=some (.tup ys)/\xs.length=ys.length/\∀(j:Nat) (u v:V),xs[j]?=some u->ys[j]?=some v->EqD H n u v
theorem Zjc{X:Cx}{pins:Ac}{σ:St}{H:Hp}{s:As}(I:Inv X pins σ H s):∀(n:Nat) (A:Ar) (x y:V) (v u:Av),RelV x v->RelV y u->EqD H n x y->A.units+n<cLine->SeqAt.EqAt A s v u true
 |0,A,x,y,v,u,J,G,h,hu=>by
  obtain⟨f,rfl⟩:=h;have z:=gy (A:=A) (s:=s) J G f f;rw[gG f]at z;exact z
 |n+1,A,x,y,v,u,J,G,h,hu=>by
  rcases h with⟨f,rfl⟩|⟨a,c,xs,ys,rfl,rfl,ha,hc,hl,he⟩
  ·have z:=gy (A:=A) (s:=s) J G f f;rw[gG f]at z;exact z
  ·cases J;cases G
   by_cases C:a=c
   ·subst C;exact Qhk _
   obtain⟨Y,r,p,_⟩:=I.tuple (SqT.of ha);obtain⟨F,M,p2,_⟩:=I.tuple (SqT.of hc);refine SeqAt.EqAt.of_refs C ?_;have q:=SeqAt.RcAt.tuples (A:=A) (e:=fun _=>true) p p2 (by lia) fun j h1 h2=>?_
   ·rw[all_true,Qas,Qas,<-r.length,<-M.length,hl,Qcu]at q;exact q
   ·have Z:j<xs.length:=by rw[r.length];simpa using h1
    have D:j<ys.length:=by rw[M.length];simpa using h2
    obtain⟨u,e1,q1⟩:=r.get (Qac Z);obtain⟨u2,e2,q2⟩:=M.get (Qac D);have L:Y.toArray[j]=u:=by
     grind
    have O:F.toArray[j]=u2:=by
     grind
    rw[L,O];exact Zjc I n A.in1 _ _ _ _ q1 q2 (he j _ _ (Qac Z) (Qac D)) (by lia)
def vA{k:Nat}{A:Ar}(r:WK k A):A.units+4<cLine:=by have:=r.un;lia
def rEqD:R2:=fun x y H Q=>∃a c xs ys,x=.ref a/\y=.ref c/\H a=some (.tup xs)/\H c=some (.tup ys)/\xs.length=ys.length/\(∀(j:Nat) (u v:V),xs[j]?=some u->ys[j]?=some v->EqD H 3 u v)/\Q (.bl true) H
def Zjd(hu:X.A.units+4<cLine):OpR X (compareOp .Eq) rEqD:=by
 intro pins s σ H x y v u Q I rx ry h;obtain⟨a,c,xs,ys,rfl,rfl,ha,hc,hl,he,q⟩:=h;cases rx;cases ry;obtain⟨L,r,p,_⟩:=I.tuple (SqT.of ha);obtain⟨D,G,p2,_⟩:=I.tuple (SqT.of hc);refine SeqAt.eq_tupleAt (e:=fun _=>true) p p2 (by lia) (fun j h1 h2=>?_) (ZG I q ?_)
 ·have M:j<xs.length:=by rw[r.length];simpa using h1
  have C:j<ys.length:=by rw[G.length];simpa using h2
  obtain⟨u,e1,Y⟩:=r.get (Qac M);obtain⟨Z,e2,O⟩:=G.get (Qac C);have F:L.toArray[j]=u:=by
   grind
  have J:D.toArray[j]=Z:=by
   grind
  rw[F,J];exact Zjc I 3 _ _ _ _ _ Y O (he j _ _ (Qac M) (Qac C)) (by lia)
 ·rw[all_true,Qas,Qas,<-r.length,<-G.length,hl,Qcu];rfl
def Zg1[DecidableEq d]{kn:KN d}{kvs:List (d×V)}{xs:List (d×Aw×Av)}(D:Paired (fun(p:d×V) (q:d×Aw×Av)=>p.1=q.1/\kn.at_ H q.1 q.2.1/\RelV p.2 q.2.2) kvs xs)(k:d):(atKey xs k).isSome=(Yi kvs k).isSome:=by
 have C:=WU (fun p q h=>h.1) D k;cases hv:Yi kvs k with
 |none=>rw[C.2 hv];rfl
 |some x=>
  obtain⟨q,F,_⟩:=C.1 x hv;rw[F];rfl
def rNInN:R2:=fun x y H Q=>∃(Kk:Type) (_:DecidableEq Kk) (kn:KN Kk) (d a:Aw) (k:Kk) (kvs:List (Kk×V)),x=.ref a/\y=.ref d/\G8 kn H d kvs/\kn.at_ H k a/\Q (.bl (!(Yi kvs k).isSome)) H
def Zdo(C:X.A.units+2<cLine):OpR X (compareOp .NotIn) rNInN:=by
 intro pins s σ H x y v u Q I L D h;obtain⟨Kk,_,kn,d,a,k,kvs,rfl,rfl,n,J,q⟩:=h;cases L;cases D;obtain⟨xs,dd,F,M,G⟩:=n.dict I;refine wpAny_notIn_heap (kn.room _ _ _ C) (kn.ok _ _ _ _ _ _ I.hok J) G dd ?_;rw[Zg1 F];exact⟨.bl _,H,I.tok _,rfl,q⟩
def tNGet(td ty:TE):TE:=fun σ H Q=>td σ H fun x H1=>ty σ H1 fun y H2=>∃(Kk:Type) (_:DecidableEq Kk) (kn:KN Kk) (d a:Aw) (k:Kk) (kvs:List (Kk×V)) (v:V),x=.ref d/\y=.ref a/\G8 kn H2 d kvs/\kn.at_ H2 k a/\Yi kvs k=some v/\Q v H2
theorem Zly{i:Ax}{ty:TE}(M:X.A.units+2<cLine)(ho:QE X o I)(hi:QE X i ty)(hs:Zpc i):QE X (.Subscript o i q) (tNGet I ty):=⟨by
 intro pins s σ H Q D h;refine Zc0 PySem.F.slot_dict_getitem.lookup hs (thn (ho.out pins s σ H _ D h) fun u O ⟨x,H1,I1,rx,q1⟩=>thn (hi.out pins O σ H1 _ I1 q1) fun iv s2 ⟨y,H2,J,ry,Kk,_,kn,d,a,k,kvs,v,ex,L,n,hk,hv,q2⟩=>?_);subst ex;subst L;obtain rfl:u=Value.ref d:=rx;obtain rfl:iv=Value.ref a:=ry;obtain⟨xs,dd,Y,mu,hm⟩:=n.dict J;obtain⟨C,Z,p',G,e⟩:=(WU (fun p C h=>h.1) Y k).1 v hv;refine⟨dd.typeIs,wpAny_getItem_heap (kn.room _ _ _ M) (kn.ok _ _ _ _ _ _ J.hok hk) dd Z ⟨v,H2,J.tok _,e ▸ G.2.2,q2⟩⟩⟩
def sNPut(td ty tv:TE):TS:=fun D σ H=>tv σ H fun v H1=>td σ H1 fun x H2=>ty σ H2 fun y q=>∃(Kk:Type) (_:DecidableEq Kk) (kn:KN Kk) (d a:Aw) (k:Kk) (kvs:List (Kk×V)),x=.ref d/\y=.ref a/\G8 kn q d kvs/\kn.at_ q k a/\Yi kvs k=none/\kvs.length+1<sizeLine /\
 ∀H',G8 kn H' d (kvs++[(k,v)])->(∀b o,q b=some o->b≠d->H' b=some o)->(∃o,H'=upd q d o)->D.nx σ H'
theorem Zlz{i:Ax}{ty tv:TE}{pos':Pos}(hu:X.A.units+2<cLine)(ho:QE X o I)(hi:QE X i ty)(F:QE X e tv)(hs:swapsWith e (some (.Subscript o i pos')) q.line X.env=pure false):QS X (.Assign [.Subscript o i pos'] e q) (sNPut I ty tv):=⟨by
 intro pins s σ H D C h;refine wpAny_Assign_Subscript (thn (F.out pins s σ H _ C h) fun r s1 ⟨v,H1,I1,rv,q1⟩=>thn (ho.out pins s1 σ H1 _ I1 q1) fun u s2 ⟨x,H2,I2,rx,q2⟩=>thn (hi.out pins s2 σ H2 _ I2 q2) fun iv s3 ⟨y,H3,G,ry,Kk,_,kn,d,a,k,kvs,ex,Z,n,O,F,hz,q3⟩=>?_) hs;subst ex;subst Z;obtain rfl:u=Value.ref d:=rx;obtain rfl:iv=Value.ref a:=ry;obtain⟨xs,dd,J,mu,hm⟩:=n.dict G;have L:atKey xs k=none:=(WU (fun p M h=>h.1) J k).2 F;refine wpAny_setItem_heap (kn.room _ _ _ hu) (kn.ok _ _ _ _ _ _ G.hok O) dd (fun h' dd' Y=>?_) (by rw[<-Qfk J];lia);rw[storedH_new L]at dd';obtain⟨H',n',k',o',I'⟩:=ye G n O rv hz J mu hm F dd' Y;exact⟨σ,H',I',q3 H' n' k' o'⟩⟩
theorem Yg:∀(names:List (Str×NameKind)) (n:Nat) (acc:List (Str×Aw)),cellsFrom n names acc=cellsFrom n names []++acc
 |[],_,_=>rfl
 |(x,k)::r,n,acc=>by
  unfold cellsFrom;split
  ·rw[Yg r (n+1) ((x,n)::acc),Yg r (n+1) [(x,n)],Qcg];rfl
  ·exact Yg r n acc
theorem GO:∀(names:List (Str×NameKind)) (n:Nat) {x:Str} {c:Aw},(x,c)∈cellsFrom n names []->(x,NameKind.cell)∈names
 |[],_,_,_,h=>nomatch h
 |(y,k)::r,n,x,c,h=>by
  unfold cellsFrom at h;split at h
  ·rename_i q;rw[Yg]at h;rcases Qbo.mp h with h|h
   ·exact Qal _ (GO r (n+1) h)
   ·grind
  ·exact Qal _ (GO r n h)
theorem Ju:∀{l r:List (Str×d)},(l++r).lookup x=match l.lookup x with|some c=>some c|none=>r.lookup x
 |[],r=>rfl
 |(y,c)::l,r=>by
  grind
section
variable {M:Model}{A:Ar}{E:Ab}{s:As}
def Zl0{scope:Scope}{globals:Aw}{q:List (Str×Aw)}{binds:List (Str×Av)}{qual:Str}{func:Option Aw}{code:Av}{builtins:Aw}{Q:Env->Shared->Prop}
  (hk:scope.kind=.function) (hl:∀x∈binds,scope.names.lookup x.1=some .local)
  (hQ:∀h' tk,h'.Ns s.heap.objs.size (fun x=>binds.reverse.lookup x)->(∀b o,s.heap.get? b=some o->h'.get? b=some o)->(∀n c,(n,c)∈cellsFrom (s.heap.objs.size+1) scope.names []->h'.IsCell c none/\s.heap.objs.size<c)->
   ((cellsFrom (s.heap.objs.size+1) scope.names []).Pairwise fun x y=>x.2≠y.2)->Q (newEnv scope s.heap.objs.size globals (cellsFrom (s.heap.objs.size+1) scope.names q) qual func code none builtins) {s with heap:=h',toks:=tk}):
  wpAny M A (newFunctionEnv scope globals q binds qual func code none builtins) Q E s:=by
 simp only[newFunctionEnv,Option.isSome_none,Qck,if_false];refine Qaa (wpAny_alloc ?_);refine Qaa (wpAny_layCells _ (fun name kind cells=>by grind) _ _ _ _ ?_);have ok:=cellsFrom_ok scope.names (s.heap.push {cls:=.type "frame",data:=.dict #[]}) (s.heap.objs.size+1) [] ⟨fun _ _ O=>(nomatch O),List.Pairwise.nil⟩ (by rw[Qb2];exact Qaj _);rw[Qb2]at ok;rw[show({s with heap:=s.heap.push {cls:=.type "frame",data:=.dict #[]}}:As).heap.objs.size=s.heap.objs.size+1 from Qb2 ..];refine Qaa (wpAny_forIn_list _
  (fun rest _ s'=>∃C h',binds=C++rest/\s'={s with heap:=h',toks:=s.toks+C.length}/\h'.Ns s.heap.objs.size (fun x=>C.reverse.lookup x) /\
   Heap.SameBut s.heap.objs.size (pushCells (s.heap.push {cls:=.type "frame",data:=.dict #[]}) scope.names) h') _ ?_ ?_ binds _
  ⟨[],_,rfl,rfl,(Heap.Ns.new s.heap (.type "frame")).keeps (pushCells_keeps _ _),Heap.SameBut.refl ..⟩)
 ·rintro⟨name,v⟩ rest _ s' ⟨C,h',I,rfl,F,D⟩;have Y:Env.kindOf {scope,locals:=s.heap.objs.size,globals,cells:=cellsFrom (s.heap.objs.size+1) scope.names q,qual,func,code,frame:=some s.heap.objs.size,builtins} name=some .local:=hl (name,v) (by rw[I];simp);have hp:((scope.kind == .class)||((scope.kind == .module)&&(s.heap.objs.size != globals)))=false:=by rw[hk];rfl
  simp only[storeName_local Y hp];refine Qaa (wpAny_nsSet F fun L J G=>Qae ⟨C++[(name,v)],L,by simp[I],?_,?_,D.trans G⟩)
  ·simp[Qfs]
  ·rw[lookup_reverse_snoc];exact J
 ·rintro _ s' ⟨C,h',I,rfl,F,D⟩;rw[Qby]at I;subst I;refine Qae (hQ h' _ F (fun b o e=>?_) (fun n c O=>?_) ok.apart)
  ·exact D.extBut b o (Qbf (Qaq e)) (pushCells_keeps _ _ b o (Qad _ e))
  ·obtain⟨q1,Z⟩:=ok.empty n c O;exact⟨q1.sameBut D (Qed Z),Z⟩
end
structure Zl1(scope:Scope)(ps ls ys:Ai):Prop where
 kind:scope.kind=.function
 co:scope.isCoroutine=false
 gen:scope.isGenerator=false
 par:∀p∈ps,scope.names.lookup p=some .local
 free:∀y∈ys,scope.names.lookup y=some .free
 nd:(ps++(ls++ys)).Nodup
 ndn:(scope.names.map (·.1)).Nodup
def cxN(P:Aq)(w:Au)(K:Af)(mg:Ae)(base:Heap)(N:Ai)(qual:Str)(scope:Scope)(f:Aw)(q:Av)(cl:List (Str×Aw))(A:Ar)(outer:List Env)(s:As)(H:Hp):Cx where
 prog:=P
 w:=w
 K:=K
 mg:=mg
 base:=base
 A:=A.deeper (PySem.W.envX qual scope s.heap.objs.size f q (cellsFrom (s.heap.objs.size+1) scope.names cl))
 N:=N
 s₀:=s
 H₀:=H
 env:=PySem.W.envX qual scope s.heap.objs.size f q (cellsFrom (s.heap.objs.size+1) scope.names cl)
 outer:=outer
 stack:=PySem.W.envX qual scope s.heap.objs.size f q (cellsFrom (s.heap.objs.size+1) scope.names cl)::outer
 ex:=[]
 calm:=true
 fn:=fun x=>scope.names.lookup x == some .cell
 pn:=[]
 xe:=fun _ _=>False
def Zje(n m:Nat)(ts:TS)(cs:List Aw)(q:List (Option V)):Sp:=fun vs H Q _=>vs.length=n/\ts {nx:=fun _ H'=>(∀c∈cs,H' c=none)->Q .non (XZ cs H H'),rt:=fun v H'=>(∀c∈cs,H' c=none)->Q v (XZ cs H H')} (vs.map some++(List.replicate m none++q)) (hide cs H)
section
variable {P:Aq}{w:Au}{K:Af}{mg:Ae}{base:Heap}
theorem yj{k:Nat}{name qual:Str}{params:Arguments}{body:List Ay}{scope:Scope}{cl:List (Str×Aw)}{doc pm ctv:Av}{oc:Obj}{ps ls ys:Ai}{cv:List (Option V)}{ts:TS}
  (S:Zl1 scope ps ls ys) (hf:H f=some (X4 (PySem.W.fnMade name qual params body scope cl doc pm Z ctv))) (hc:H Z=some (X4 oc)) (hoc:js oc qual)
  (hcl:∀x c,cl.lookup x=some c->c∈J) (hcs:∀c∈J,∃o v,H c=some (X4 o)/\o.data=.cell v)
  (inj:∀x y c,cl.lookup x=some c->cl.lookup y=some c->x=y) (has:∀x,scope.names.lookup x=some .free->∃c,cl.lookup x=some c)
  (hcv:cv.length=ys.length) (hval:∀(i:Nat) (y:Str) (v:V),ys[i]?=some y->cv[i]?=some (some v)->∃c o u,cl.lookup y=some c/\H c=some (X4 o)/\o.data=.cell (some u)/\RelV v u)
  (hb:∀us:Ag,us.length=ps.length->bindArgs (PySem.W.fnX name qual params body scope cl .none .none doc pm none (.ref Z) ctv) ⟨us,[]⟩=pure (ps.zip us))
  (hbody:∀(A:Ar) (outer:List Env) (s:As) (H1:Hp),WK k (A.deeper (PySem.W.envX qual scope s.heap.objs.size f (.ref Z) (cellsFrom (s.heap.objs.size+1) scope.names cl)))->PSs (cxN P w K mg base (ps++(ls++ys)) qual scope f (.ref Z) cl A outer s H1) body ts):
  YZ P w K mg base (k+1) f H (Zje ps.length ls.length ts J cv):=by
 refine⟨⟨_,_,hf,rfl⟩,?_⟩;intro A outer s H1 us vs Q E fz hr F r ht;obtain⟨hl,ht⟩:=ht;have gf:s.heap.get? f=some (PySem.W.fnMade name qual params body scope cl doc pm Z ctv):=(F.hok f _ (fz _ _ _ hf)).1;have M:∀c∈J,∃o v,H1 c=some (X4 o)/\o.data=.cell v/\s.heap.get? c=some o:=fun c m=>by
  obtain⟨o,v,e,d⟩:=hcs c m;exact⟨o,v,fz _ _ _ e,d,(F.hok c _ (fz _ _ _ e)).1⟩
 have hcs2:∀c∈J,∃o,H1 c=some (X4 o):=fun c m=>let⟨o,_,e,_⟩:=M c m;⟨o,e⟩;obtain⟨vs0,t0,hd0,hv0⟩:=hoc;have lim:s.heap.NoLimit:=F.mod.nolimit.keeps fun b o e=>(F.bs b o e).1;have lus:us.length=ps.length:=by rw[<-r.length];exact hl
 refine codeAny_call_function hr.depth gf rfl S.co S.gen rfl ⟨Z,oc,vs0,t0,rfl,(F.hok Z _ (fz _ _ _ hc)).1,hd0,hv0⟩ ?_;rw[hb us lus];refine Qae (Zl0 S.kind (fun x hx=>S.par _ (Qd7 hx).1) fun h₁ tk hns Y L hap=>⟨lim.keeps Y,codeAny_func ?_⟩);have ndp:ps.Nodup:=(Qe6.mp S.nd).1;have look:∀x c,(cellsFrom (s.heap.objs.size+1) scope.names cl).lookup x=some c->((x,c)∈cellsFrom (s.heap.objs.size+1) scope.names []/\(cellsFrom (s.heap.objs.size+1) scope.names []).lookup x=some c)\/cl.lookup x=some c:=fun x c e=>by
  rw[Yg,Ju]at e;cases q:(cellsFrom (s.heap.objs.size+1) scope.names []).lookup x with
  |none=>rw[q]at e;exact .inr e
  |some d=>rw[q]at e;cases e;exact .inl ⟨Qch q,rfl⟩
 have D:∀x,scope.names.lookup x=some .free->(cellsFrom (s.heap.objs.size+1) scope.names cl).lookup x=cl.lookup x:=fun x hx=>by
  rw[Yg,Ju];cases q:(cellsFrom (s.heap.objs.size+1) scope.names []).lookup x with
  |none=>rfl
  |some d=>
   have m1:=GO scope.names _ (Qch q);have m2:=Qch hx;have:∀{l:List (Str×NameKind)},(l.map (·.1)).Nodup->(x,NameKind.cell)∈l->(x,NameKind.free)∈l->False:=fun{l} nd a b=>by
    induction l with
    |nil=>cases a
    |cons p l ih=>
     rw[Qbx,Qcd]at nd;rcases Qao.mp a with a|a<;>rcases Qao.mp b with b|b
     ·rw[<-a]at b;cases b
     ·exact nd.1 (by rw[<-a];exact Qb6 (f:=(·.1)) b)
     ·exact nd.1 (by rw[<-b];exact Qb6 (f:=(·.1)) a)
     ·exact ih nd.2 a b
   exact(this S.ndn m1 m2).elim
 have oldC:∀x c,cl.lookup x=some c->c<s.heap.objs.size:=fun x c e=>by
  obtain⟨o,v,_,_,g⟩:=M c (hcl x c e);exact Qaq g
 have I:Inv (cxN P w K mg base (ps++(ls++ys)) qual scope f (.ref Z) cl A outer s (hide J H1)) [] (vs.map some++(List.replicate ls.length none++cv)) (hide J H1) {s with heap:=h₁,toks:=tk}:=by
  have noA:∀b:Aw,b∉([]:List Aw):=fun b z=>nomatch z;refine⟨⟨F.mod,S.kind,rfl,rfl,Qaj _,fun x y c h1 h2=>?_,fun y O=>?_,fun y c O h=>?_,fun _=>hr.hd,Qf4 F.frames,.inr ⟨rfl,rfl⟩,fun b z=>absurd z (noA b),fun b o e=>⟨(F.bs b o e).1,?_⟩,F.bsz,fun b _ _=>noA b,fun b z=>absurd z (noA b),F.funs,fun b hb=>?_⟩,
   rfl,F.bare,Un.kept Y,⟨_,hns,fun i y v h1 h2 h3=>?_⟩,fun y c h=>?_,?_,fun y c h=>?_,fun p hp=>absurd (show p∈([]:Ac)from hp) (by simp),(kZ F.hok hcs2).kept Y,?_⟩
  ·rcases look x c h1 with⟨m1,_⟩|l1<;>rcases look y c h2 with⟨m2,_⟩|l2
   ·exact name_of_addr hap m1 m2
   ·exact absurd (oldC y c l2) (Qg9.mpr (Qav (L x c m1).2))
   ·exact absurd (oldC x c l1) (Qg9.mpr (Qav (L y c m2).2))
   ·exact inj x y c l1 l2
  ·have O:scope.names.lookup y=some .cell\/scope.names.lookup y=some .free:=O;rcases O with O|O
   ·obtain⟨c,e⟩:=qK (n:=s.heap.objs.size+1) O;exact⟨c,by show(cellsFrom (s.heap.objs.size+1) scope.names cl).lookup y=_;rw[Yg,Ju,e]⟩
   ·obtain⟨c,e⟩:=has y O;exact⟨c,by show(cellsFrom (s.heap.objs.size+1) scope.names cl).lookup y=_;rw[D y O,e]⟩
  ·have O:scope.names.lookup y=some .cell:=eq_of_beq (show(scope.names.lookup y == some .cell)=true from O);obtain⟨d,e⟩:=qK (n:=s.heap.objs.size+1) O;have h':(cellsFrom (s.heap.objs.size+1) scope.names cl).lookup y=some c:=h;rw[Yg,Ju,e]at h';cases h';exact Qav (L y _ (Qch e)).2
  ·by_cases m:b∈J
   ·exact YG m
   ·exact(Z9 m).trans (F.bs b o e).2
  ·by_cases m:b∈J
   ·exact YG m
   ·exact(Z9 m).trans (F.frf b hb)
  ·by_cases hi:i<vs.length
   ·rw[Qa8 (by simpa using hi),Qah]at h2;have ha:vs[i]?=some v:=by
     cases e:vs[i]? with
     |none=>rw[e]at h2;cases h2
     |some a=>rw[e]at h2;cases h2;rfl
    obtain⟨u,hu,rv⟩:=r.get ha;have G:(ps++(ls++ys))[i]?=some y:=h1;rw[Qa8 (by lia)]at G;exact⟨u,rv,.inl ⟨S.par y (Qar G),jr ndp G hu lus.symm⟩⟩
   ·rw[Qa0 (by simpa using hi),Qab]at h2;have G:(ps++(ls++ys))[i]?=some y:=h1;rw[Qa0 (by lia),<-hl]at G
    by_cases hj:i-vs.length<ls.length
    ·rw[Qa8 (by rw[Qa1];exact hj),List.getElem?_replicate]at h2;split at h2<;>cases h2
    ·rw[Qa0 (by rw[Qa1];lia),Qa1]at h2;rw[Qa0 (by lia)]at G;obtain⟨c,o,u,e1,e2,e3,rv⟩:=hval _ y v G h2;have hfy:=S.free y (Qar G);exact⟨u,rv,.inr ⟨.inr hfy,c,(D y hfy).trans e1,o,Y _ _ (F.hok c _ (fz _ _ _ e2)).1,e3⟩⟩
  ·rcases look y c h with⟨m1,_⟩|l1
   ·exact⟨none,(L y c m1).1⟩
   ·obtain⟨o,v,_,d,g⟩:=M c (hcl y c l1);exact⟨v,o,Y _ _ g,d⟩
  ·show hide J H1 s.heap.objs.size=none
   by_cases m:s.heap.objs.size∈J
   ·exact YG m
   ·rw[Z9 m];exact F.hok.fresh (Qaj _)
  ·rcases look y c h with⟨m1,_⟩|l1
   ·by_cases m:c∈J
    ·exact YG m
    ·rw[Z9 m];exact F.hok.fresh (Qav (L y c m1).2)
   ·exact YG (hcl y c l1)
  ·show(vs.map some++(List.replicate ls.length none++cv)).length=(ps++(ls++ys)).length;rw[Qak,Qak,Qak,Qak,Qab,Qa1,hl,hcv]
 refine Qdi (hbody A outer s (hide J H1) (hr.deeper _) [] _ _ _ _ I ht) (fun fl s' hs=>?_) fun _ _ z=>z.elim;have fin:∀{σ':St} {H':Hp} {v:V} {u:Av},Inv (cxN P w K mg base (ps++(ls++ys)) qual scope f (.ref Z) cl A outer s (hide J H1)) [] σ' H' s'->RelV v u->((∀c∈J,H' c=none)->Q v (XZ J H1 H'))->CE outer P w H1 s Q u s':=fun{σ' H' v u} C rv q=>gK F M C.os C.bare C.base C.hok rv q;cases fl with
 |ret u=>
  obtain⟨v,σ',H',C,rv,q⟩:=hs;exact fin C rv q
 |next=>
  obtain⟨σ',H',C,q⟩:=hs;exact fin (v:=V.non) (u:=Value.none) C rfl q
 |brk=>
  obtain⟨_,_,_,q⟩:=hs;exact False.elim q
 |cont=>
  obtain⟨_,_,_,q⟩:=hs;exact False.elim q
end
def tDef(P:Aw)(lpos:Pos)(qual:Str)(q:Aw->Value->Value->Obj)(i:Nat):TS:=fun D σ H=>Yo H P lpos qual /\
 ∀(f G:Aw) (oc:Obj) (F C:Av) (H2:Hp),H f=none->H2 f=some (X4 (q G F C))->H2 G=some (X4 oc)->js oc qual->Yo H2 P lpos qual->(∀b o,H b=some o->b≠P->H2 b=some o)->D.nx (σ.set i (some (.ref f))) H2
section
variable {X:Cx}{params:Arguments}{body:List Ay}{scope:Scope}{lpos:Pos}{c P:Aw}{name qual:Str}
abbrev jx (X:Cx) (name qual:Str) (params:Arguments) (body:List Ay) (scope:Scope):Aw->Value->Value->Obj:=fun D q C=>PySem.W.fnMade name qual params body scope (xn X.env.cells scope.names []) C ((X.mg "__name__").getD .none) D q
theorem qs_def{S0:Scope}(hN:X.N.Nodup)(hi:X.N[i]?=some name)(hx:Loc X.env.scope name)(L:X.env.code=.ref c)(C:PySem.W.CodeHd X.base c P)(B:yc X.mg X.base)(hd0:params.defaults=[])(hk0:params.kw_defaults=[])(han:annTrees params none X.env=[])(hq:qualnameIn X.env name name=qual)
  (hX:X.env.scope=S0) (hfr0:∀y∈scope.names,y.2=.free->S0.names.lookup y.1=some .cell) (hf:X.fn name=true\/X.env.scope.names.lookup name=some .local:=by first|exact .inl rfl|exact .inr rfl|assumption):
  QS X (.FunctionDef name params body [] none [] scope none name lpos) (tDef P lpos qual (jx X name qual params body scope) i):=by
 have Y:∀y∈scope.names,y.2=.free->X.env.scope.names.lookup y.1=some .cell:=fun y hy h=>by rw[hX];exact hfr0 y hy h
 refine⟨?_⟩;intro pins s σ H D I hw;obtain⟨M,hq2⟩:=hw;refine PySem.W.nestDef_K hd0 hk0 han ?_;rw[hq];have hcl:closureFor scope X.env=pure (xn X.env.cells scope.names []):=Jq fun y hy h=>I.ok.has y.1 (.inl (Y y hy h));have hg:s.heap.Ns mainGlobals X.mg:=I.mod.glob.keeps I.bk;obtain⟨pz,hPs⟩:=M.ex;have J:X.base.get? P=none:=by
  cases e:X.base.get? P with
  |none=>rfl
  |some o=>rw[(I.bs P o e).2]at hPs;cases hPs
 have hgP:mainGlobals≠P:=fun e=>by
  obtain⟨o,es,ep,g,_⟩:=I.mod.glob;rw[e,J]at g;cases g
 have hb:s.heap.BuiltinsAt X.mg P:=by
  obtain⟨bm,ob,b1,b2,b3,b4,b5,b6⟩:=B.ex;refine⟨bm,ob,b1,b2,fun e=>?_,(fun e=>by rw[e,J]at b3;cases b3),I.bk _ _ b3,b4,b5,b6⟩;obtain⟨o,es,ep,g,hd,_⟩:=I.mod.glob;rw[<-e,b3]at g;cases g;rw[b6]at hd;cases hd
 rcases M with M|⟨q,oc,M,hc',O⟩
 ·have hP:s.heap.get? P=some (PySem.W.tabObj #[]):=I.hok P _ M;refine PySem.W.makeFunction_K (mg:=X.mg) (ps:=#[]) hcl I.ok.glob hg L (C.keeps I.bk) hP trivial rfl hgP hb fun q G F h' tk hx' hge Z hrec htb=>?_;obtain⟨c₂,oc,vs,t,e2,O,hd,hv⟩:=hrec;cases e2;have cn:H q=none:=I.hok.fresh hge;have cP:q≠P:=fun e=>by rw[e,M]at cn;cases cn
  have hsz:s.heap.objs.size<=h'.objs.size:=Qbc hge (Qav Z);have I2:=gL (lpos:=lpos) (fo:=jx X name qual params body scope q G F) (tk:=tk) I M hx' hge Z O htb;have fn:H h'.objs.size=none:=I.hok.fresh hsz;have fc:q≠h'.objs.size:=Qbf Z;have fP:P≠h'.objs.size:=Zm M fn;refine Jm I2 hN hi hx (v:=.ref h'.objs.size) rfl (fun s' I3=>⟨_,_,I3,hq2 _ q oc G F _ fn Za ?_ ⟨vs,t,hd,hv⟩ (.inr ⟨q,oc,?_,?_,⟨vs,t,hd,hv⟩⟩) fun b o e hbP=>?_⟩) hf
  ·rw[Zk fc];exact Za
  ·rw[Zk fP,Zk cP.symm];exact Za
  ·rw[Zk fc];exact Za
  ·rw[Zk (Zm e fn),Zk (Zm e cn),Zk hbP];exact e
 ·have hP:s.heap.get? P=some (PySem.W.tabObj #[rawInt lpos.line,rawInt lpos.col,.ref q]):=I.hok P _ M;have hfd:codeAmong lpos (#[rawInt lpos.line,rawInt lpos.col,.ref q]:Ah).toList=some (.ref q):=by
   show(if((lpos.line:Int) == lpos.line&&(lpos.col:Int) == lpos.col)=true then some (Value.ref q)else _)=_;rw[Qcu,Qcu];rfl
  refine PySem.W.makeFunction_hit (mg:=X.mg) hcl I.ok.glob hg L (C.keeps I.bk) hP trivial hfd hb fun G F h' tk hk hsz=>?_;have I2:=I.laid (h':=h'.push (jx X name qual params body scope q G F)) (t':=tk) (a:=h'.objs.size) (o:=X4 (jx X name qual params body scope q G F)) (fun b u e=>Qad _ (hk b u e)) hsz (GG (Qam _ rfl));have fn:H h'.objs.size=none:=I.hok.fresh hsz;have sm:∀b o,H b=some o->upd H h'.objs.size (X4 (jx X name qual params body scope q G F)) b=some o:=fun b o e=>by rw[Zk (Zm e fn)];exact e
  exact Jm I2 hN hi hx (v:=.ref h'.objs.size) rfl (fun s' I3=>⟨_,_,I3,hq2 _ q oc G F _ fn Za (sm _ _ hc') O (.inr ⟨q,oc,sm _ _ M,sm _ _ hc',O⟩) fun b o e _=>sm b o e⟩) hf
end
def tCallN(G:Aq)(w:Au)(K:Af)(mg:Ae)(base:Heap)(k:Nat)(sp:Sp)(qual:Str)(q:Aw->Value->Value->Obj)(ta:TA)(i n m:Nat)(is:Aj)(ts:TS):TE:=fun σ H Q=>ta σ H fun vs H1=>
 ∃(f F:Aw) (oc:Obj) (D C:Av),σ[i]?=some (some (.ref f))/\H1 f=some (X4 (q F D C))/\H1 F=some (X4 oc)/\js oc qual /\
 ∀(cs:List Aw) (H2:Hp),(∀c∈cs,H1 c=none)->(∀c∈cs,∃o,H2 c=some (X4 o))->(∀b o,H1 b=some o->H2 b=some o)->
  YZ G w K mg base k f H2 (Zje n m ts cs (is.map fun i=>(σ[i]?).getD none))->sp vs H2 (fun v I=>Q v (hide cs I)) E0
structure Zop(S0 scope:Scope)(N0 ps ls ys:Ai)(is:Aj):Prop where
 sc:Zl1 scope ps ls ys
 free:∀y∈scope.names,y.2=.free->S0.names.lookup y.1=some .cell
 vis:∀q∈ys.zip is,N0[q.2]?=some q.1
 len:ys.length=is.length
section
variable {X:Cx}{params:Arguments}{body:List Ay}{scope:Scope}{p pos:Pos}{g:Aw}{name qual x:Str}{k kl:Nat}{gd:Ao}{pg ps ls ys:Ai}{is:Aj}{sp:Sp}{ts:TS}{e:Ax}{es:An}{ta:TA}
def Zg2(F:Y5 X.prog X.w X.K X.mg X.base CX0 k g gd pg sp)(hr:WK k X.A)(hg:Gl X x)(hm:X.mg x=some (.ref g))(hk:PySem.W.keepIn X.K (.ref g)=true)(hb:Binds X.K gd pg [])(hfn:X.fn=fun _=>true)
  (ha:QA X (e::es) ta) {S0:Scope} {N0:Ai} (hX:X.env.scope=S0) (hXN:X.N=N0) (Z:Zop S0 scope N0 ps ls ys is)
  (J:∀(cl:List (Str×Aw)) (doc pm cv ctv:Av) (O:Ag),O.length=ps.length->bindArgs (PySem.W.fnX name qual params body scope cl .none .none doc pm none cv ctv) ⟨O,[]⟩=pure (ps.zip O))
  (M:∀(f c':Aw) (cl:List (Str×Aw)) (A:Ar) (outer:List Env) (s:As) (H1:Hp),WK kl (A.deeper (PySem.W.envX qual scope s.heap.objs.size f (.ref c') (cellsFrom (s.heap.objs.size+1) scope.names cl)))->QSs (cxN X.prog X.w X.K X.mg X.base (ps++(ls++ys)) qual scope f (.ref c') cl A outer s H1) body ts)
  (hdb:(x == ("__debug__" : Str))=false:=by decide) (hp:(e::es).all ZU=true:=by rfl):
  QE X (.Call (.Name x p) (e::es) [] pos) (tCallN X.prog X.w X.K X.mg X.base (kl+1) sp qual (jx X name qual params body scope) ta i ps.length ls.length is ts):=by
 rw[Qc3,Qb4]at hp;have S:=Z.sc;have C:∀y∈scope.names,y.2=.free->X.env.scope.names.lookup y.1=some .cell:=fun y hy h=>by rw[hX];exact Z.free y hy h
 have hN:∀q∈ys.zip is,X.N[q.2]?=some q.1:=fun q hq=>by rw[hXN];exact Z.vis q hq
 refine⟨?_⟩;intro pins s σ H Q I hw;refine Qdd (jL I hg hm ?_ hdb);refine Qgl (h₀:=X.base) I.ok.mod.kin hk (thn (ha.out pos pins s σ H _ I hw) fun O s1 ⟨vs,H1,G,r,f,c',oc,ctv,doc,hσ,hf,hc',hoc,q⟩=>⟨G.kIn,?_⟩) (Zu hp.1) (Xa hp.2);have L:∀y d,(xn X.env.cells scope.names []).lookup y=some d->X.env.cells.lookup y=some d:=
  JR (fun y hy h=>G.ok.has y.1 (.inl (C y hy h))) fun _ _ z=>by cases z
 have D:=qO G;have Y:=yd G;refine x5 F hr hb hfn G r (q (cellsOf X.env.cells) (Zai X s1 H1) (Wa G) (fun d m=>let⟨o,_,e,_⟩:=Y d m;⟨o,e⟩) D ?_);exact yj (ls:=ls) (ys:=ys) S (D _ _ hf) (D _ _ hc') hoc (fun y d h=>YS.mpr ⟨y,L y d h⟩) (fun d m=>let⟨o,v,e,hd,_⟩:=Y d m;⟨o,v,e,hd⟩) (fun y z d h1 h2=>G.ok.inj y z d (L y d h1) (L z d h2)) (fun y h=>Jr h) (by rw[Qab,Z.len])
  (vy (N0:=N0) G C S.free hN Z.len) (fun O hl=>J _ _ _ _ _ O hl) fun A outer s H1 hr=>(M f c' _ A outer s H1 hr).out
end
def QE.or(h:QE X e I)(g:QE X e u):QE X e (fun σ H Q=>I σ H Q\/u σ H Q):=⟨fun pins s σ H Q q z=>z.elim (h.out pins s σ H Q q) (g.out pins s σ H Q q)⟩
def QS.or{e:Ay}{t u:TS}(h:QS X e t)(g:QS X e u):QS X e (fun D σ H=>t D σ H\/u D σ H):=⟨fun pins s σ H D I z=>z.elim (h.out pins s σ H D I) (g.out pins s σ H D I)⟩
def Zl2(tk tv:TE):TE:=fun σ H Q=>∀d,H d=none->tk σ (upd H d (.dK [])) fun x H1=>tv σ H1 fun v H2=>∃(Kk:Type) (_:DecidableEq Kk) (kn:KN Kk) (a:Aw) (k:Kk),x=.ref a/\H2 d=some (.dK [])/\kn.at_ H2 k a /\
 ∀H',G8 kn H' d [(k,v)]->(∀b o,H2 b=some o->b≠d->H' b=some o)->(∃o,H'=upd H2 d o)->Q (.ref d) H'
def Zdp{k v:Ax}{tk:TE}(G:X.A.units+2<cLine)(hk:QE X k tk)(hv:QE X v I):QE X (.Dict [some k] [v] p) (Zl2 tk I):=by
 refine⟨fun pins s σ H Q C q=>?_⟩;have O:=C.hok.fresh (Qaj s.heap.objs.size);have I1:=C.laid (a:=s.heap.objs.size) (o:=.dK []) (h':=s.heap.push {cls:=.type "dict",data:=.dict #[]}) (t':=s.toks) (fun _ _ q=>Qad _ q) (Qaj _) (jV s.heap C.big);refine wpAny_Dict_any rfl rfl (fun z=>nomatch z) (by show 1<=15;decide) (thn (pp1 hk hv pins _ σ _ _ I1 (q _ O)) fun ws s2 ⟨x,y,u,r,H2,ew,D,rx,ry,Kk,_,kn,a,kk,ex,e,F,q2⟩=>?_);subst ew ex;cases(show u=Value.ref a from rx);have n:G8 kn H2 s.heap.objs.size []:=⟨Qcq,(show 0<sizeLine by decide),.inl ⟨rfl,e⟩⟩;obtain⟨xs,dd,Y,J,Z⟩:=n.dict D;cases Y;unfold storeAll;rw[List.forIn_cons];refine Qaa (Qaa (wpAny_dictSet_heap (hsz:=Qbt _) (kn.room0 _ _ _ G) (kn.ok _ _ _ _ _ _ D.hok F) dd fun h' dd' hs=>Qae ?_));show wpAny _ _ (forIn ([]:List (Av×Av)) PUnit.unit _) _ _ _;obtain⟨H',n',M,o',L⟩:=ye D n F ry (show 0+1<sizeLine by decide) .nil J Z rfl dd' hs;exact Qae ⟨.ref s.heap.objs.size,H',L,rfl,q2 H' n' M o'⟩
def PI.or{l:Ax}{t u:TI}(h:PI X e l t)(g:PI X e l u):PI X e l (fun σ H R=>t σ H R\/u σ H R):=fun pins s σ H R I z=>z.elim (h pins s σ H R I) (g pins s σ H R I)
def QI.or{tg l:Ax}{t u:TI}(h:QI X tg l t)(g:QI X tg l u):QI X tg l (fun σ H R=>t σ H R\/u σ H R):=⟨PI.or h.out g.out⟩
section
variable {prog:Aq}{w:Au}{A:Ar}{R:Result->Shared->Prop}{I:Aw}{fp wr:List Aw}{n:Nat}{P:Nat->Value->Prop}{St:Nat->Heap->Prop}{d:Av}
theorem Zl3(W:Walks prog w A.in1 I fp wr n P St)(bt:Nat->Nat->Bool)(hcmp:CmpOf prog w A.in1 .Gt P bt)(S:Aw)(hSf:S∉fp):
  ∀(k j:Nat) (s:As) (L:Av) (c:Nat),n-(j+1)=k->j+1<=n->St (j+1) s.heap->P (argBest bt j) L->
  s.heap.get? S=some {cls:=.type "list",dict:=none,data:=.seq #[L,L] c,slots:=#[]}->
  (∀v h' tk,P (argBest bt (n-1)) v->(∀b o,b∉wr->b≠S->s.heap.get? b=some o->h'.get? b=some o)->R (.ok (.ret v)) {s with heap:=h',toks:=tk})->
  codeAny (model prog w) A (.builtin "max.loop" ⟨[.ref I,.none,.ref S],[("default",d)]⟩) R s:=by
 have hSw:S∉wr:=fun h=>hSf (W.sub _ h);have hname:(toString "max" ++ toString ".loop" : String) = "max.loop" :=by decide
 intro k
 induction k with
 |zero=>
  intro j s L c hk hj hst M hS hR;have hin:j+1=n:=by lia
  refine Qdr Qfv ?_;refine Qaa (Qci hS rfl ?_);refine Qaa (Qfz (W.done s _ _ (hin ▸ hst) fun h' tk D=>?_));have J:=D S _ hSw hS;refine Qaa ?_;refine Qfo J rfl (Qaa (Qfc (Qae ?_)));refine hR L _ tk (by rw[<-hin];exact M) fun b o q C e=>(Qb1 _ _ (Qd3 C)).trans (D b o q e)
 |succ k ih=>
  intro j s L c hk hj hst M hS hR;have Z:j+1<n:=by lia
  refine Qdr Qfv ?_;refine Qaa (Qci hS rfl ?_);refine Qaa (Qfz (W.item (j+1) s _ _ Z hst fun v h' tk hP O D=>?_));have J:=D S _ hSw hS;show wpAny _ A.in1 (tryCatch (holding [v,v] (richCompare .Gt v L >>= _)) _ >>= _) _ _ _;refine Qaa (Qfz (Qb8 (Qaa (hcmp (j+1) (argBest bt j) v L _ _ _ hP M ?_))));refine Qaa (Qb8 (Qdj ?_));refine Qaa (Qfc (Qae ?_));cases hb:bt (j+1) (argBest bt j)with
  |true=>
   refine Qaa ?_;refine Qfo J rfl (Qaa (Qfc ?_));refine Qae ⟨Qeh Qep _,ih (j+1) _ v _ (by lia) Z (W.frame _ _ _ O fun b hbf o e=>?_) (by simp only[argBest,hb,if_true];exact hP) (Qbr _ J rfl)
    fun v' Y G hP' F=>?_⟩
   ·exact(Qb1 _ _ (fun h:S=b=>hSf (by rw[h];exact hbf))).trans e
   ·exact hR v' Y G hP' fun b o q C e=>F b o q C ((Qb1 _ _ (Qd3 C)).trans (D b o q e))
  |false=>
   refine Qaa (Qfc ?_);refine Qae ⟨Qeh Qep _,ih (j+1) _ L c (by lia) Z O (by simp only[argBest,hb,Qck,if_false];exact M) J fun v' Y G hP' F=>?_⟩;exact hR v' Y G hP' fun b o q C e=>F b o q C (D b o q e)
def Zg3(W:Walks prog w A.in1 I fp wr n P St)(bt:Nat->Nat->Bool)(M:CmpOf prog w A.in1 .Gt P bt)(S:Aw)(D:S∉fp){c:Nat}(Z:St 0 s.heap)
  (hS:s.heap.get? S=some {cls:=.type "list",dict:=none,data:=.seq #[] c,slots:=#[]})
  (h0:n=0->∀h' tk,(∀b o,b∉wr->b≠S->s.heap.get? b=some o->h'.get? b=some o)->R (.ok (.ret d)) {s with heap:=h',toks:=tk})
  (hR:0<n->∀v h' tk,P (argBest bt (n-1)) v->(∀b o,b∉wr->b≠S->s.heap.get? b=some o->h'.get? b=some o)->R (.ok (.ret v)) {s with heap:=h',toks:=tk}):
  codeAny (model prog w) A (.builtin "max.loop" ⟨[.ref I,.none,.ref S],[("default",d)]⟩) R s:=by
 have hSw:S∉wr:=fun h=>D (W.sub _ h);have hname:(toString "max" ++ toString ".loop" : String) = "max.loop" :=by decide
 refine Qdr Qfv ?_;refine Qaa (Qci hS rfl ?_)
 by_cases hn:0<n
 ·refine Qaa (Qfz (W.item 0 s _ _ hn Z fun v h' tk hP Y C=>?_));have G:=C S _ hSw hS;show wpAny _ A.in1 (updateSeq S (fun _=>#[v,v]) >>= _) _ _ _;refine Qaa ?_;refine Qfo G rfl ?_;refine Qae ⟨Qeh Qep _,Zl3 W bt M S D _ 0 _ v _ rfl hn (W.frame _ _ _ Y fun b hbf o e=>?_) hP (Qbr _ G rfl) fun v' h'' O hP' F=>?_⟩
  ·exact(Qb1 _ _ (fun h:S=b=>D (by rw[h];exact hbf))).trans e
  ·exact hR hn v' h'' O hP' fun b o q J e=>F b o q J ((Qb1 _ _ (Qd3 J)).trans (C b o q e))
 ·have L:n=0:=by lia
  refine Qaa (Qfz (W.done s _ _ (by rw[L];exact Z) fun h' tk C=>?_));refine Qaa (Qdg (Qae ?_));exact h0 L h' tk fun b o q _ e=>C b o q e
end
def Zg4 (a v:Av):argsOk "max" ⟨[a],[(Str.ofString "default",v)]⟩:=by kernel_rfl
section
variable {prog:Aq}{w:Au}{A:Ar}{E:Ab}{s:As}{l:Aw}{xs:Array (Int×Tok)}{d:Av}
def Zdq(hh:A.handled=none)(L:s.heap.IsList l (intItems xs))(Y:xs.size=0->∀h' tk,(∀b o,s.heap.get? b=some o->h'.get? b=some o)->Q d {s with heap:=h',toks:=tk})
  (h:0<xs.size->∀v h' tk,(intItems xs)[argBest (fun i j=>decide (numAt xs i>numAt xs j)) (xs.size-1)]?=some v->(∀b o,s.heap.get? b=some o->h'.get? b=some o)->Q v {s with heap:=h',toks:=tk}):
  A3 prog w A (call (.builtin "max") [.ref l] [(Str.ofString "default",d)]) Q E s:=by
 have I:(toString "max" ++ toString ".loop" : String) = "max.loop" :=by decide
 refine PyProof.Rows.kmk_tree PySem.F.kind_max PySem.F.plain_max PySem.F.entry_max (Zg4 _ _) ?_;refine Qaa (Qcj (show Builtin.Builtins.bindParams "max" ["key","default"] 0 ⟨[],[(Str.ofString "default",d)]⟩=pure [none,some d]from rfl) ?_);refine Qaa (Qae ?_);refine Qaa (iter_intList L fun s₂ e st J q=>?_);subst e;refine Qaa (Qbd ?_);have W:=Walks.list (prog:=prog) (w:=w) (A:=A.in1) hh _ l q (intItems xs);have hsz:(intItems xs).size=xs.size:=by simp[intItems]
 refine Qae ⟨Qeh Qep _,Zg3 W _ (CmpOf.ints_gt (numAt xs) (fun _ _=>intItems_at)) _ (fun O=>Qce _ (J _ O)) (W.frame _ _ _ st fun b _ o e=>Qad _ e) (Qam _ rfl) (fun C h' tk G=>?_) fun C v h' tk M G=>?_⟩
 ·exact Y (by rw[<-hsz];exact C) h' tk (old_kept fun b o D e=>G b o D (Qbf (Qaq e)) (Qad _ e))
 ·exact h (by rw[<-hsz];exact C) v h' tk (by simpa[intItems]using M) (old_kept fun b o D e=>G b o D (Qbf (Qaq e)) (Qad _ e))
end
def tMaxD(K:Af)(ta td:TE):TE:=fun σ H Q=>ta σ H fun x H1=>td σ H1 fun y H2=>∃(p:Aw) (ns:Ak),x=.ref p/\SqL K H2 p (ns.map V.int)/\(ns=[]->Q y H2)/\∀m∈ns,(∀n∈ns,n<=m)->Q (.int m) H2
def Zl4 {a:Ax} {td:TE} {kp:Pos} (hc:X.calm=true) (hg:Gl X "max") (hm:X.mg "max" = none) (ha:QE X a I) (hd:QE X e td) (hp:ZU a=true:=by rfl):
  QE X (.Call (.Name "max" p) [a] [⟨some "default",e,kp⟩] q) (tMaxD X.K I td):=by
 refine⟨fun pins s σ H Q C hw=>?_⟩;refine Qdd (JL C hg hm gD ?_ (by decide));have hs:=Zu (rest:=[]) (env:=X.env) hp;refine callWith_kw ?_ (by rw[hs];rfl) (by rw[hs];rfl);rw[hs];refine Qcy (thn (ha.out pins s σ H _ C hw) fun u s1 ⟨x,H1,I1,r1,q1⟩=>?_);refine Qd6 (kws_cons (thn (hd.out pins s1 σ H1 _ I1 q1) fun u2 s2 ⟨y,H2,G,r2,p,ns,ex,hq,hz,F⟩=>kws_nil ?_));subst ex;cases r1;obtain⟨D,r',pl,hz'⟩:=G.list hq;have hi:IntsAre D ns:=intsAre_of r';obtain⟨xs,hx⟩:=hi.allInts.items;have L:s2.heap.IsList p (intItems xs):=hx ▸ pl.isList;have e1:ns=xs.toList.map (·.1):=by
  rw[<-nums_intItems,<-hx];exact(show numsOf D.toArray.toList=ns from hi.numsOf).symm
 refine Zdq (G.ok.hd hc) L (fun h0 h' tk Z=>⟨y,H2,G.kept Z,r2,hz ?_⟩) fun hsz v h' tk M Z=>?_
 ·grind
 have hb:=argBest_gt (numAt xs) (xs.size-1);generalize argBest (fun i j=>decide (numAt xs i>numAt xs j)) (xs.size-1)=b at M hb;have O:b<xs.size:=by lia
 have at_:∀j (J:j<xs.size),numAt xs j=xs[j].1/\(intItems xs)[j]?=some (.int xs[j].1 xs[j].2):=by
  intro j J;exact⟨by simp[numAt,J],by simp[intItems,J]⟩
 obtain⟨n1,n2⟩:=at_ b O;rw[n2]at M;cases M;refine⟨.int xs[b].1,H2,G.kept Z,⟨_,rfl⟩,F _ ?_ fun n hn=>?_⟩
 ·grind
 ·rw[e1]at hn;obtain⟨y,hy,rfl⟩:=Qau.mp hn;obtain⟨j,J⟩:=Qe8 hy;have Y:j<xs.size:=by
   grind
  have:=hb.2 j (by lia);rw[(at_ j Y).1,n1]at this;have ej:xs[j]=y:=by
   grind
  rw[ej]at this;exact this
def Zoq:V->List V->Hp->VK->Prop:=fun x xs H Q=>∃i:Int,x=.int i/\xs=[]/\Q (.int ((Builtin.Int.intBits i:Nat):Int)) H
def Zl5:MtR X "int.bit_length" Zoq:=by
 intro pins s σ H x xs v D Q I C r h;obtain⟨i,rfl,rfl,q⟩:=h;obtain⟨t,rfl⟩:=C;cases r;exact call_int_bit_length ⟨.int _,H,I.tok _,⟨_,rfl⟩,q⟩
def jy {X:Cx}  {t:TA} {a b:Ax} (F:Gl X "range") (G:X.mg "range" = none) (ha:QA X [a,b] t) (D:ZU a=true:=by rfl) (C:ZU b=true:=by rfl):QI X e (.Call (.Name "range" p) [a,b] [] q) (Zny t):=
 ⟨Zbw F G ha.out (by rw[Zu D,Zu C];rfl) (by rw[Zu C];rfl)⟩
section
variable {X:Cx}{pos:Pos}
end
section
variable {prog:Aq}{w:Au}{A:Ar}{E:Ab}{s:As}
end
open AutoSeq1 (wpAny_loadPart')
section
variable {prog:Aq}{w:Au}{A:Ar}{E:Ab}{s:As}
end
def bt_any:bootBuiltins "any" = some (.builtin "any"):=by decide +kernel
def rAnyL(K:Af):A2->Hp->VK->Prop:=fun xs H Q=>∃(p:Aw) (bs:Am),xs=[.ref p]/\SqL K H p (bs.map V.bl)/\Q (.bl (bs.any id)) H
def Zdr (hc:X.calm=true):Y9 X (.builtin "any") (rAnyL X.K):=by
 intro pins s σ H xs us Q I r h;obtain⟨p,bs,rfl,hq,q⟩:=h;obtain⟨u,rfl,rx⟩:=vals1 r;cases rx;obtain⟨C,Y,pl,hz⟩:=I.list hq;have M:=pl.isList;have J:p<s.heap.objs.size:=by obtain⟨_,e,_⟩:=M;exact Qaq e
 have D:=Y.length;rw[Qab]at D;refine call_any_walk (Qe3 M ?_);refine⟨s.heap.objs.size,[s.heap.objs.size,p],[s.heap.objs.size],C.toArray.size,_,_,fun i=>(bs[i]?).getD false,rfl,Walks.list (A:=X.A.in1) (I.ok.hd hc) _ p (Qbf J) C.toArray,
  ⟨⟨_,Qam _ rfl,rfl,rfl⟩,M.push _⟩,fun i v s' Q' E' Z O=>?_,fun h' tk hk=>?_⟩
 ·have hi:C[i]?=some v:=by simpa using Z
  have G:i<bs.length:=by grind
  obtain⟨w',e1,e2⟩:=Y.get (show(bs.map V.bl)[i]?=some (V.bl bs[i]) by rw[Qah,Qac G];rfl);rw[hi]at e1;cases e1;cases e2;simp only[Qac G,Option.getD_some]at O;exact Qdj O
 ·have e:((List.range C.toArray.size).any fun i=>(bs[i]?).getD false)=bs.any id:=by
   rw[Qas,<-D,Qdo,Qcc,Qcc];constructor
   ·rintro⟨i,hi,z⟩;have F:=Qbu.mp hi;refine⟨_,Qbs F,?_⟩;simpa[Qac F]using z
   ·rintro⟨b,G,z⟩;obtain⟨i,hi,rfl⟩:=List.getElem_of_mem G;exact⟨i,Qbu.mpr hi,by grind⟩
  rw[e];refine⟨.bl (bs.any id),H,I.kept (t':=tk) (fun b o L=>hk b o (fun hm=>?_) (Qad _ L)),rfl,q⟩;rw[Qaw.mp hm]at L;exact absurd (Qaq L) (Qce _)
end L2
namespace L2
section
variable {prog:Aq}{w:Au}{A:Ar}{E:Ab}{s:As}
end
end L2
namespace L2
open PySem.Calls
open AutoSeq1 (wpAny_loadPart')
section
variable {X:Cx}{o e:Ax}{es:An}{to:TE}{t:TA}{name:Str}{apos cpos:Pos}{id:String}{r:V->List V->Hp->VK->Prop}
def tTM(r:V->List V->Hp->VK->Prop)(to:TE)(t:TA):TE:=fun σ H Q=>to σ H fun x H1=>∃a xs,x=.ref a/\H1 a=some (.tup xs)/\t σ H1 fun ys H2=>r x ys H2 Q
def qe_tm (G:Slot "tuple" name id) (J:typeOf (.builtin id)=pure (.type "method_descriptor")) (hm:MtR X id r) (ho:QE X o to) (ha:QA X (e::es) t)
  (C:attributeBase o name X.env (eval o X.env)=eval o X.env:=by rfl) (D:(apos.endLine == cpos.line)=true:=by rfl) (L:(e::es).all ZU=true:=by rfl) (hl:(e::es).length<30:=by decide):
  QE X (.Call (.Attribute o name apos) (e::es) [] cpos) (tTM r to t):=by
 have q:=L;rw[Qc3,Qb4]at q;refine⟨fun pins s σ H Q I h=>?_⟩;refine Qfu C (by rw[all_plain L];exact Qan (show(e::es).length+0+0<30 from hl)) D rfl (thn (ho.out pins s σ H _ I h) fun v s1 ⟨x,H1,O,r1,a,xs,ex,hx,q1⟩=>?_);subst ex;cases r1;obtain⟨_,its,_,ob,M,Z,g3,g4⟩:=O.hok a _ hx;refine⟨"tuple",id,PySem.F.plainAttrs_tuple,G,J,⟨ob,M,Z⟩,fun a' e'=>by cases e';exact⟨ob,M,g4⟩,?_⟩;have Y:=ha.out cpos pins s1 σ H1 _ O q1;have hs:starEach (e::es) X.env=(false,eval e X.env)::starEach es X.env:=Zu q.1;rw[hs]at Y ⊢;refine Qdy (by show(false||(backTo cpos (starEach es X.env)).any (·.1))=false;rw[Xa q.2]<;>rfl) (Qe7 ?_);exact thn Y fun us s2 ⟨vs,H2,I2,r2,q2⟩=>hm pins s2 σ H2 (.ref a) vs (.ref a) us Q I2 rfl r2 q2
def x8{M:Model}{A:Ar}{E:Ab}{β:Type}(f:Nat->β->Sem (ForInStep β))(I:Aj->β->Shared->Prop)(Q:β->Shared->Prop)
  (q:∀x rest b s,I (x::rest) b s->wpAny M A (f x b) (fun r s'=>match r with|.yield b'=>I rest b' s'|.done b'=>Q b' s') E s)
  (fin:∀b s,I [] b s->Q b s) (b:β) (h:I (List.range n) b s):wpAny M A (forIn [:n] b f) Q E s:=by
 rw[Std.Legacy.Range.forIn_eq_forIn_range'];refine wpAny_forIn_list f I Q q fin _ b ?_;rw[show(List.range' ([:n]:Std.Legacy.Range).start ([:n]:Std.Legacy.Range).size ([:n]:Std.Legacy.Range).step)=List.range n by simp[Std.Legacy.Range.size,List.range_eq_range']];exact h
def yk(l:Aw)(items:Ah)(n:Nat)(dd:Option Aw)(Z:Array (Option Av))(x:Av)(e:Av->Bool)(j:Nat)(hj:j<items.size)
  (L:e items[j]=true) (J:∀m (hm:m<items.size),m<j->e items[m]=false):
  Meets (Builtin.«tuple.index» ⟨[.ref l,x],[]⟩)
   (fun A R s=>s.heap.get? l=some {cls:=.type "tuple",dict:=dd,data:=.seq items n,slots:=Z}/\(∀y,y∈items->SeqAt.EqAt A.in1 s y x (e y))/\R (.ok (.ret (.int j s.toks))) {s with toks:=s.toks+1}):=
 .of_wp fun prog w A R s h=>by
  obtain⟨Y,g,d,tk,os⟩:=s;obtain⟨hl,he,h⟩:=h;have ms:∀(i:Nat) y,items[i]?=some y->∃h:i<items.size,y=items[i]:=fun i y O=>by
   obtain⟨h1,h2⟩:=Array.getElem?_eq_some_iff.mp O;exact⟨h1,h2.symm⟩
  wp_walk using wpAny_loadPart' hl,x8 _ (fun rest b s'=>b.1=none/\s'=⟨Y,g,d,tk,os⟩/\∃i,i<=j/\rest=(List.range (min items.size items.size)).drop i) _
  ·rintro y rest b s' ⟨I,rfl,i,hi,F⟩;have C:i<items.size:=by lia
   have M:i<(List.range (min items.size items.size)).length:=by rw[Qbb,Qgo];exact C
   rw[Qc2 M]at F;injection F with G D;have O:y=i:=by simpa using G
   subst O;rw[Qdl C];refine Qaa (he _ (Array.getElem_mem C) prog w _ _ ?_);rcases Qgr y j with q|q
   ·rw[J y C q]
    wp_walk
    exact⟨rfl,rfl,y+1,by lia,D⟩
   ·have e1:y=j:=by lia
    subst e1;rw[L]
    wp_walk
    exact⟨_,rfl,h⟩
  ·rintro⟨b1,b2⟩ s' ⟨I,rfl,i,hi,F⟩;have:=congrArg List.length F;rw[Qbq,Qbb,Qgo]at this;simp only[Qeu]at this;lia
  ·exact⟨rfl,rfl,0,Qbt _,rfl⟩
def Zds:V->List V->Hp->VK->Prop:=fun x vs H Q=>∃(l:Aw) (xs:A2) (y z:V) (j:Nat),x=.ref l/\vs=[y]/\H l=some (.tup xs)/\YM y=true/\xs.all YM=true/\xs[j]?=some z/\eqV z y=true/\(∀i q,i<j->xs[i]?=some q->eqV q y=false)/\Q (.int (j:Int)) H
def Zdt:MtM X "tuple.index" Zds:=by
 intro pins s σ H x vs v us Q I rx rv h;obtain⟨l,xs,y,z,j,rfl,rfl,hH,fy,fx,hj,hit,hno,q⟩:=h;cases rx;obtain⟨u,rfl,ru⟩:=rv.one;obtain⟨_,C,r,⟨oc,od,oda,G⟩,e,hc,⟨n,hd⟩,Z⟩:=I.hok l _ hH;subst hc hd Z;have hl:=r.length;have at_:∀(i:Nat) (hi:i<C.toArray.size),∃M,xs[i]?=some M/\eqU y C.toArray[i]=eqV M y:=fun i hi=>by
  have D:i<xs.length:=by rw[hl];simpa using hi
  obtain⟨w',Y,J⟩:=r.get (i:=i) (x:=xs[i]) (Qac D);have e2:C.toArray[i]=w':=by
   grind
  refine⟨xs[i],Qac D,?_⟩;rw[e2];exact Zcf J (Qca.mp fx _ (Qbs D))
 have L:j<C.toArray.size:=by grind
 refine call_meets PySem.F.slot_tuple_index ⟨_,e,rfl⟩ PySem.F.entry_tuple_index (PySem.F.args_tuple_index_2 _ _) (yk l C.toArray n none G u (eqU y) j L ?_ (fun m hm O=>?_)) ⟨e,fun w hw=>Jo ru fy r fx w (by simpa using hw),⟨.int (j:Int),H,I.tok _,⟨_,rfl⟩,q⟩⟩
 ·grind
 ·grind
end
end L2
namespace L2
theorem Zdu:∀{vs:Ag} {q:Ai},vs.length=q.length->(∀(j:Nat) (v:Av),vs[j]?=some v->∃y t,q[j]?=some y/\v=.str y t)->StrsAre vs q
 |[],[],_,_=>.nil
 |v::vs,y::q,h,k=>by
  obtain⟨D,t,e1,e2⟩:=k 0 v rfl;have e1:y=D:=Option.some.inj e1;subst e1 e2;exact .cons _ t (Zdu (Nat.succ.inj h) fun j v C=>k (j+1) v C)
def vC {X:Cx} (hc:X.calm=true):Y9 X (.builtin "sorted") (fun xs H Q=>∃(a:Aw) (kvs:A0) (S:Ai),xs=[.ref a]/\Rd H a (.dK kvs)/\kvs.map (·.1)=S.map Sum.inr/\S.length<64 /\
  ∀(l:Aw) (ms:Ai),H l=none->ms.Perm S->sortedS ms=true->Q (.ref l) (upd H l (.lst (ms.map V.str)))):=by
 intro pins s σ H xs us Q I r h;obtain⟨a,kvs,S,rfl,hq,hS,hn,q⟩:=h;obtain⟨u,rfl,rx⟩:=vals1 r;cases rx;obtain⟨z,nm,vs,rel,dd⟩:=vk I.hok hq;obtain⟨o,es,ep,ho,hex,Z,hk,hp,hnd⟩:=id dd;have dat:s.heap.DictAt (ZH X.prog X.w) a vs ep:=⟨o,es,ho,hex,Z,hk,hp,hnd⟩;have C:vs.map (·.1)=S.map Sum.inr:=by rw[<-rel.keys];exact hS
 have F:vs.length=S.length:=by have:=congrArg List.length C;rwa [Qab,Qab]at this
 refine Qfb kind_sorted plain_sorted entry_sorted (args_sorted1 _) ?_;refine Qaa (m:=checkCount "sorted" 1 1 _) (Qae ?_);refine Qaa (PySem.W.kdu_collect (A:=X.A.in1) (PySem.W.kdl_dict (knd:=ZH X.prog X.w) (kvs:=vs) (ep:=ep) nm) (I.ok.hd hc) dat (by rw[F];exact Qav (Z2 (by lia))) fun h1 tk acc L G=>?_);have hal:acc.toList.length=S.length:=by rw[Qbj,G.1,F]
 have D:StrsAre acc.toList S:=Zdu hal fun j v hv=>by
  obtain⟨k,x,e1,e2⟩:=G.2 j v (by rw[<-Qdq];exact hv);have e3:(vs.map (·.1))[j]?=some k:=by rw[Qah,e1];rfl
  rw[C,Qah]at e3;obtain⟨y,hy,rfl⟩:=Qa4.mp e3;obtain⟨t,e4⟩:=gH e2;exact⟨y,t,hy,e4⟩
 have O:acc.toList.length<64:=by lia
 generalize hV:acc.toList=Y at O D ⊢;refine Qaa (wpAny_newList ?_ (by have:=Qhd;lia));have I1:Inv X pins σ H {s with heap:=h1,toks:=tk}:=I.kept L;have J:(h1.push (seqObj "list" Y.toArray 0)).get? h1.objs.size=some (seqObj "list" Y.toArray 0):=Qam _ rfl;refine Qaa (Qb8 (Qbe slot_list_sort ⟨_,J,rfl⟩ Qhm (list_sort_treeK strKind_oneLt J D.keysOf (fun v₁ v₂ rest e=>keyKind_strs (by rw[<-e];exact D)) O fun st' a1 a2=>⟨_,rfl,?_⟩) (args_list_sort _)));obtain⟨ss,b1,b2,b3⟩:=sorted_out_str D a1 a2;obtain⟨e,he⟩:=sortedHeap_at (vs:=Y) (out:=(arrOf st').map (·.2)) (n:=0) J;refine Qae ⟨_,rfl,⟨.ref h1.objs.size,_,I1.laid (t':=tk) (o:=.lst (ss.map V.str)) (fun b ob hb=>?_) (Qaj _) ?_,rfl,q _ ss (I1.hok.fresh (Qaj _)) b2 b3⟩⟩
 ·have M:=Qaq hb;rw[sortedHeap_old (Qbf M) (by rw[size_push'];exact Qdw M)];exact Qad _ hb
 ·have hm:ss.length=S.length:=b2.length_eq;exact⟨by rw[Qab];exact Qav (Z2 (by lia)),_,e,WQ b1,by exact he⟩
theorem len7{α:Type}{P:List α->Prop}(h:∀a b c d e f g,P [a,b,c,d,e,f,g]):∀q:List α,q.length=7->P q
 |[_,_,_,_,_,_,_],_=>h _ _ _ _ _ _ _
theorem Zjf{X:Cx}{D:Operator}{C:TIp}(G:X.N.Nodup)(hi:X.N[i]?=some x)(F:Loc X.env.scope x)(J:QE X e u)(ho:PIp X D C)(I:X.fn x=true\/X.env.scope.names.lookup x=some .local:=by first|exact .inl rfl|exact .inr rfl|assumption):QS X (.AugAssign (.Name x q) D e p) (tAug i u C):=⟨ps_aug G hi F J.out ho I⟩
theorem Zdv:∀{vs:Ag} {ns:Ak},vs.length=ns.length->(∀(j:Nat) (v:Av),vs[j]?=some v->∃y t,ns[j]?=some y/\v=.int y t)->IntsAre vs ns
 |[],[],_,_=>.nil
 |v::vs,y::D,h,k=>by
  obtain⟨C,t,e1,e2⟩:=k 0 v rfl;have e1:y=C:=Option.some.inj e1;subst e1 e2;exact .cons _ t (Zdv (Nat.succ.inj h) fun j v q=>k (j+1) v q)
def yl {X:Cx} (hc:X.calm=true):Y9 X (.builtin "sorted") (fun xs H Q=>∃(a:Aw) (kvs:A0) (S:Ak),xs=[.ref a]/\Rd H a (.dK kvs)/\kvs.map (·.1)=S.map Sum.inl/\S.length<64 /\
  ∀(l:Aw) (ms:Ak),H l=none->ms.Perm S->ms.Pairwise (·<=·)->Q (.ref l) (upd H l (.lst (ms.map V.int)))):=by
 intro pins s σ H xs us Q I r h;obtain⟨a,kvs,S,rfl,hq,hS,hn,q⟩:=h;obtain⟨u,rfl,rx⟩:=vals1 r;cases rx;obtain⟨z,nm,vs,rel,dd⟩:=vk I.hok hq;obtain⟨o,es,ep,ho,hex,Z,hk,hp,hnd⟩:=id dd;have dat:s.heap.DictAt (ZH X.prog X.w) a vs ep:=⟨o,es,ho,hex,Z,hk,hp,hnd⟩;have C:vs.map (·.1)=S.map Sum.inl:=by rw[<-rel.keys];exact hS
 have D:vs.length=S.length:=by have:=congrArg List.length C;rwa [Qab,Qab]at this
 refine Qfb kind_sorted plain_sorted entry_sorted (args_sorted1 _) ?_;refine Qaa (m:=checkCount "sorted" 1 1 _) (Qae ?_);refine Qaa (PySem.W.kdu_collect (A:=X.A.in1) (PySem.W.kdl_dict (knd:=ZH X.prog X.w) (kvs:=vs) (ep:=ep) nm) (I.ok.hd hc) dat (by rw[D];exact Qav (Z2 (by lia))) fun h1 tk acc O F=>?_);have hal:acc.toList.length=S.length:=by rw[Qbj,F.1,D]
 have M:IntsAre acc.toList S:=Zdv hal fun j v hv=>by
  obtain⟨k,x,e1,e2⟩:=F.2 j v (by rw[<-Qdq];exact hv);have e3:(vs.map (·.1))[j]?=some k:=by rw[Qah,e1];rfl
  rw[C,Qah]at e3;obtain⟨y,hy,rfl⟩:=Qa4.mp e3;obtain⟨t,e4⟩:=gH e2;exact⟨y,t,hy,e4⟩
 have Y:acc.toList.length<64:=by lia
 generalize hV:acc.toList=ws at Y M ⊢;refine Qaa (wpAny_newList ?_ (by have:=Qhd;lia));have I1:Inv X pins σ H {s with heap:=h1,toks:=tk}:=I.kept O;have G:(h1.push (seqObj "list" ws.toArray 0)).get? h1.objs.size=some (seqObj "list" ws.toArray 0):=Qam _ rfl;refine Qaa (Qb8 (Qbe slot_list_sort ⟨_,G,rfl⟩ Qhm (list_sort_tree G M Y fun out J b1 b2 b3=>⟨_,rfl,?_⟩) (args_list_sort _)));obtain⟨e,he⟩:=sortedHeap_at (vs:=ws) (out:=out) (n:=0) G;refine Qae ⟨_,rfl,⟨.ref h1.objs.size,_,I1.laid (t':=tk) (o:=.lst (J.map V.int)) (fun b ob hb=>?_) (Qaj _) ?_,rfl,q _ J (I1.hok.fresh (Qaj _)) b2 b3⟩⟩
 ·have L:=Qaq hb;rw[sortedHeap_old (Qbf L) (by rw[size_push'];exact Qdw L)];exact Qad _ hb
 ·have hm:J.length=S.length:=b2.length_eq;exact⟨by rw[Qab];exact Qav (Z2 (by lia)),_,e,xi b1,by exact he⟩
end L2
namespace Lw
open PySem L2
def top(i:Nat):Ay:=PySem.Challenge.pw_everywidth_k26_widths_looked_through.main.body.getD i (.Pass ⟨0,0,0,0⟩)
abbrev jz:Ay:=top 1
abbrev x9:Ay:=top 2
abbrev J0:Ay:=top 5
abbrev GP:Ay:=top 9
abbrev WX:Ay:=top 10
abbrev xA:Ay:=top 11
abbrev Gb:Ay:=top 18
abbrev WY:Ay:=top 19
abbrev Gd:Ay:=top 20
abbrev WZ:Ay:=top 21
abbrev Ja:Ay:=top 23
abbrev xB:Ay:=top 29
abbrev j0:Ay:=top 33
abbrev Ge:Ay:=top 35
abbrev Xf:Ay:=top 39
abbrev xC:Ay:=top 40
abbrev ym:Ay:=top 47
abbrev j4:Ay:=top 49
abbrev Gf:Ay:=top 51
abbrev qk:Ay:=top 53
abbrev j5:Ay:=top 54
abbrev xD:Ay:=top 56
abbrev JG:Ay:=top 60
abbrev ql:Ay:=top 61
abbrev qm:Ay:=top 62
abbrev Gg:Ay:=top 64
abbrev GQ:Ay:=top 65
abbrev gT:Ay:=top 66
abbrev Xw:Ay:=top 8
abbrev j6:Ay:=top 22
abbrev vD:Ay:=top 24
abbrev XR:Ay:=top 30
abbrev xE:Ay:=top 32
abbrev Gh:Ay:=top 34
abbrev j7:Ay:=top 50
abbrev xF:Ay:=top 55
abbrev Wy:Ay:=top 57
abbrev J1:Ay:=top 58
abbrev j8:Ay:=top 63
abbrev Ws:Ay:=top 26
abbrev GR:Ay:=top 42
abbrev xG:Ay:=top 59
abbrev vE:Ay:=top 31
abbrev Xx:Ay:=top 4
abbrev xH:Ay:=top 7
abbrev ZX:Ay:=top 38
abbrev Jb:Ay:=top 37
abbrev Wz:Ay:=top 46
abbrev Xk:Ay:=top 48
abbrev vF:Ay:=top 44
abbrev j9:Ay:=top 45
abbrev Zg5:Ay:=top 67
def Yr:Pos:=⟨30,50,30,102⟩
def Ys:Str:=(("least" : Str) ++ ".<locals>.") ++ "<lambda>"
def Zt:Pos:=⟨157,4,161,77⟩
def Zs:Str:=(("machine_telling" : Str) ++ ".<locals>.") ++ "step_of"
abbrev YH:Ay:=(Xo ZX).getD 3 (.Pass ⟨0,0,0,0⟩)
def Zc{p:Aw}{o:HO}(h:H p=none):Z8 H (upd H p o):=fun b u e=>by rw[Zk (Zm e h)];exact e
def qR(w:Nat):(0:Int)<2^w:=by
 have h2:((2:Int)^w)=(((2:Nat)^w:Nat):Int):=by rfl
 have:=Qhn w;rw[h2];lia
def pow_succ'(w:Nat):(2:Int)^(w+1)=2^w*2:=Qee 2 w
def zD(w:Nat)(r:Int):Ak:=(List.range w).map fun i=>r/2^i%2
def wm{u:TS}{r:VK}{b c:A1}{σ:L2.St}(J:A1)(h1:∀N:A1,(∀σ H,J σ H->N σ H)->g {O with nx:=N} σ H)(h2:∀σ H,J σ H->u O σ H):({nx:=ZY g u O,rt:=r,bk:=b,ct:=c}:Ends).nx σ H:=h1 _ h2
def Zg{v:V}{Q:A1}(h:Q (c.set i (some v)) H):WL i v c H Q:=h
theorem ZR{p:Aw}{o:HO}(s:Z8 H C)(q:H p=none):Z8 H (upd C p o):=fun b u e=>by
 rw[Zk (Zm e q)];exact s b u e
def ZA{ns:Ak}(j:Nat)(C:z=(j:Int))(q:j<ns.length):atI (ns.map V.int) z=some (.int (ns.getD j 0)):=by
 subst C;refine YB ?_;rw[Qah,Qac q,Qaf,Qac q];rfl
def Zl6{z:Str}{i:Int}(n:Nat)(C:z.cps.toList.length=n)(D:0<=i)(h1:i<(n:Int)):∃c,c∈z.cps.toList/\atI z.cps.toList i=some c:=by
 obtain⟨j,rfl⟩:∃j:Nat,i=(j:Int):=⟨i.toNat,by lia⟩;have q:j<z.cps.toList.length:=by lia
 exact⟨z.cps.toList[j],Qbs q,YB (Qac q)⟩
def Znj(xs:List d)(lo hi:Option Int):List d:=(xs.drop (HT.sIx xs.length 0 lo)).take (HT.sIx xs.length xs.length hi-HT.sIx xs.length 0 lo)
def XA(f:d->V)(xs:List d)(lo hi:Option Int):Zbd (xs.map f) lo hi=(Znj xs lo hi).map f:=by
 unfold Zbd Znj;rw[Qab,Qdm,Qdv]
def Wd(xs:List d)(k:Nat):(Znj xs none (some (k:Int)))=xs.take k:=by
 unfold Znj;rw[HT.sIx_none,HT.sIx_nat,Qen,Qho,<-List.take_take,Qb7]
def vG(xs:List d)(k:Nat):(Znj xs (some (k:Int)) none)=xs.drop k:=by
 unfold Znj;rw[HT.sIx_none,HT.sIx_nat,Qcz (by rw[Qbq];lia)]
 by_cases h:k<=xs.length
 ·rw[Qex h]
 ·rw[Nat.min_eq_right (by lia),Qel,List.drop_eq_nil_of_le (by lia)]
def fI(g:Int->V):V->V
 |.int x=>g x
 |v=>v
def len_signs(a:Str):a.length=a.cps.toList.length:=by
 unfold Str.length;rw[Qbj]
def Zbf:Str:= "abcdefghijklmnopqrstuvwxyz"
def Low(c:Nat):Prop:=c∈Zbf.cps.toList
instance (c:Nat):Decidable (Low c):=inferInstanceAs (Decidable (c∈_))
def ZJ:Ai:=["not","neg","twice","low","and","or","odd","add","sub","pick","same","under","beneath","sign","nought","both","either","so","never","yes"]
def NmL(y:Str):Prop:=(1<=y.length/\y.length<=8)/\∀c∈y.cps.toList,Low c
instance (y:Str):Decidable (NmL y):=inferInstanceAs (Decidable (_/\_))
structure NmS(y:Str):Prop where
 l:NmL y
 k:y∉ZJ
def Zl7:Zbf.cps.toList.length=26:=by decide +kernel
def Zg6:Zbf.length<=sizeLine:=by decide +kernel
def Zg7:∀y∈ZJ,(1<=y.length/\y.length<=7)/\∀c∈y.cps.toList,Low c:=by decide +kernel
def low_at{i:Int}(q:0<=i)(h1:i<26):∃c,Low c/\atI Zbf.cps.toList i=some c:=by
 obtain⟨c,C,e⟩:=Zl6 (z:=Zbf) (i:=i) 26 Zl7 q h1;exact⟨c,C,e⟩
def Zdw(c:Nat):(⟨#[c]⟩:Str).length=1:=rfl
theorem ZC(y:Str):∀ys:Ai,inV (.str y) (ys.map V.str)=decide (y∈ys)
 |[]=>rfl
 |z::r=>by
  have e:inV (.str y) ((z::r).map V.str)=((z == y)||inV (.str y) (r.map V.str)):=rfl;rw[e,ZC y r]
  by_cases h:z=y
  ·grind
  ·grind
def Zdx(ys:Ai):(ys.map V.str).all YM=true:=by
 rw[List.all_map];exact Qca.mpr fun _ _=>rfl
def GS{c:TT}{σ:L2.St}(C:A1)(μ:L2.St->Hp->Nat)(F:C σ H)
  (hs:∀σ H,C σ H->c σ H fun b H1=>if b=true then∃N:A1,(∀q H',N q H'->∃D,D<μ σ H/\D=μ q H'/\C q H')/\g {O with nx:=N,ct:=N,bk:=O.nx} σ H1 else O.nx σ H1):Zbp c g O σ H:=by
 refine⟨fun m σ H=>m=μ σ H/\C σ H,⟨_,rfl,F⟩,?_⟩;rintro m σ H ⟨rfl,p⟩;exact hs σ H p
def LeafOk(ys:Ai)(v:V):Prop:=(∃y∈ys,v=.str y)\/∃z:Int,v=.int z/\0<=z/\z<1000
def sumT:List (Str×Nat):=[("not",1),("neg",1),("twice",1),("low",1),("and",2),("or",2),("odd",2),("add",2),("sub",2),("pick",3)]
def Gi:Ai:=sumT.map (·.1)
def Yp(y:Str):Nat:=((sumT.find? fun p=>decide (p.1=y)).map (·.2)).getD 0
def partsV:V->Nat
 |.str y=>Yp y
 |_=>0
def Zjg(ys:Ai)(v:V):Prop:=(∃y,v=.str y/\y∈Gi)\/LeafOk ys v
def qS:∀y∈Gi,y∈ZJ:=by decide +kernel
def T1:List (Str×Int):=[("not",1),("neg",1),("twice",1),("low",1),("and",2),("or",2),("odd",2),("add",2),("sub",2),("pick",3)]
def T2:List (Str×Int):=[("same",2),("under",2),("beneath",2),("sign",1),("nought",1)]
def T3:List (Str×Int):=[("both",2),("either",2),("so",2),("never",1),("yes",0)]
def Z5:Ai:=["same","under","beneath","sign","nought","both","either","so","never","yes"]
theorem Zjh(l:List (Str×Int))(y:Str):(Yi (kvsOf l) (.inr y)).isSome=decide (y∈l.map (·.1)):=by
 induction l with
 |nil=>rfl
 |cons p r q=>
  by_cases h:p.1=y
  ·have e:Yi (kvsOf (p::r)) (.inr y)=some (.int p.2):=Yj (p:=((Sum.inr p.1:Key),V.int p.2)) (by rw[h]);rw[e,Qbx,Qan (by rw[h];exact Qai)];rfl
  ·have e:Yi (kvsOf (p::r)) (.inr y)=Yi (kvsOf r) (.inr y):=Ye (p:=((Sum.inr p.1:Key),V.int p.2)) (fun z=>h (Sum.inr.inj z))
   by_cases m:y∈r.map (·.1)
   ·grind
   ·grind
def JH:List (Str×Int)->Key->Int
 |[],_=>0
 |p::r,k=>if(Sum.inr p.1:Key)=k then p.2 else JH r k
theorem kget(l:List (Str×Int))(k:Key):(Yi (kvsOf l) k).getD (.int 0)=.int (JH l k):=by
 induction l with
 |nil=>rfl
 |cons p r q=>
  unfold JH
  by_cases h:(Sum.inr p.1:Key)=k
  ·have e:Yi (kvsOf (p::r)) k=some (.int p.2):=Yj (p:=((Sum.inr p.1:Key),V.int p.2)) h;rw[e,Qa3 h];rfl
  ·have e:Yi (kvsOf (p::r)) k=Yi (kvsOf r) k:=Ye (p:=((Sum.inr p.1:Key),V.int p.2)) h;rw[e,q,Qay h]
theorem getN_int(l:List (Str×Int))(i:Int):JH l (.inl i)=0:=by
 induction l with
 |nil=>rfl
 |cons p r q=>
  unfold JH;rw[Qay (fun z=>nomatch z),q]
theorem xI{l:List (Str×Int)}{y:Str}(h:y∉l.map (·.1)):JH l (.inr y)=0:=by
 induction l with
 |nil=>rfl
 |cons p r q=>
  unfold JH;rw[Qay (fun z=>h (by grind)),q (fun z=>h (Qal _ z))]
def XB(k:Key):Int:=JH T1 k+JH T2 k+JH T3 k
def tw1:T1.map (·.1)=Gi:=by decide +kernel
def wo:∀y,y∈ZJ↔y∈Gi\/y∈Z5:=by
 intro y;have e:ZJ=Gi++Z5:=by decide +kernel
 rw[e,Qbo]
def yn:(∀y∈T1.map (·.1),y∈ZJ)/\(∀y∈T2.map (·.1),y∈ZJ)/\∀y∈T3.map (·.1),y∈ZJ:=by decide +kernel
def keyOf:V->Key
 |.int i=>.inl i
 |.str y=>.inr y
 |_=>.inl 0
def Zl8(x:Str)(c:Nat):(!(Builtin.Str.occurrences x ⟨#[c]⟩ 0 x.length 1).isEmpty)=decide (c∈x.cps.toList):=by
 have h:=PyProof.Rows.in_closes (x:=x) (c:=c) rfl rfl;rw[beq_iff_eq]at h;rw[h]
 by_cases m:c∈x.cps.toList
 ·rw[Qan m,Qan ((PyProof.Rows.countIn_signs c _).mpr m)]
 ·rw[Qap m,Qap (fun z=>m ((PyProof.Rows.countIn_signs c _).mp z))]
def jA(y q:Str):Prop:=y.cps.toList≠[]/\∀c∈y.cps.toList,c∈q.cps.toList
instance (y sg:Str):Decidable (jA y sg):=inferInstanceAs (Decidable (_/\_))
def all_bs(l:Aj)(p:Nat->Bool):(l.map p).all id=decide (∀c∈l,p c=true):=by
 rw[Qdo,Qca,Qer];constructor
 ·intro h c q;exact h _ (Qb6 q)
 ·grind
def xJ {y:Str}:y.cps.toList=[]↔y=("" : Str):=by
 constructor
 ·intro h;obtain⟨a⟩:=y;have:a=#[]:=by
   grind
  subst this;decide +kernel
 ·rintro rfl;decide +kernel
def nmB:V->Bool
 |.str y=>decide (y∉ZJ/\NmL y)
 |_=>false
def Zfu:V->Str
 |.str y=>y
 |_=> ""
def jB(w:V):Prop:=(∃y,w=.str y/\y.length<=1000)\/∃z,w=.int z
theorem vH(ys:Ai):(XY ys).length<=ys.length:=by
 have h:∀(ys S:Ai),(ys.foldl ins S).length<=S.length+ys.length:=by
  intro ys
  induction ys with
  |nil=>intro S;exact Qaj _
  |cons y r q=>
   intro S;have h1:=q (ins S y);have h2:(ins S y).length<=S.length+1:=by
    unfold ins;split
    ·lia
    ·grind
   rw[Qc1,Qa9];lia
 have:=h ys [];rw[Qeu,Qfg]at this;exact this
def Zl9(q:A2):((q.filter nmB).map Zfu).map V.str=q.filter nmB:=by
 rw[Qax];refine(Qbm (g:=id) fun w hw=>?_).trans (Qgh _);have h:=(Qdn.mp hw).2;cases w with
 |str y=>rfl
 |_=>cases h
def Zor(ys:Ai)(w:V):Prop:=Zjg ys w\/∃y,w=.str y/\y∈Z5
def YU:∀y∈Z5,y∈ZJ:=by decide +kernel
def WB(ys:Ai):Bool->V->Prop
 |true,w=>∃y,w=.str y/\y∈Z5
 |false,w=>Zjg ys w
def WB.cw{ys:Ai}{b:Bool}{w:V}(h:WB ys b w):Zor ys w:=by
 cases b with
 |true=>exact .inr h
 |false=>exact .inl h
def Gj(w:V):Nat:=(JH T1 (keyOf w)+JH T2 (keyOf w)).toNat
def yo(w:V):Nat:=(JH T3 (keyOf w)).toNat
def nextK(w:V):Am:=List.replicate (Gj w) false++List.replicate (yo w) true
inductive Zma(ys:Ai):Am->List V->List Bool->Prop
 |nil {ls:Am}:Zma ys ls [] ls
 |cons {ls e:Am} {b:Bool} {w:V} {r:A2}:WB ys b w->Zma ys (ls++nextK w) r e->Zma ys (ls++[b]) (w::r) e
theorem Zma.words{ys:Ai}{a b:Am}{u:A2}(h:Zma ys a u b):∀w∈u,Zor ys w:=by
 induction h with
 |nil=>exact fun _ h=>nomatch h
 |cons hw _ C=>
  intro x q;rcases Qao.mp q with rfl|q
  ·exact hw.cw
  ·exact C x q
theorem wq{l:List (Str×Int)}(h:∀p∈l,0<=p.2/\p.2<=3)(k:Key):0<=JH l k/\JH l k<=3:=by
 induction l with
 |nil=>exact⟨Int.le_refl _,(by decide:(0:Int)<=3)⟩
 |cons p r q=>
  unfold JH;split
  ·exact h p Qai
  ·grind
def Zos(k:Key):0<=JH T1 k/\JH T1 k<=3:=wq (by decide +kernel) k
def Zot(k:Key):0<=JH T2 k/\JH T2 k<=3:=wq (by decide +kernel) k
def Zou(k:Key):0<=JH T3 k/\JH T3 k<=3:=wq (by decide +kernel) k
def npw(w:V):Nat:=(XB (keyOf w)).toNat
def xK(k:Key):0<=XB k/\XB k<=9:=by
 have h1:=Zos k;have h2:=Zot k;have q:=Zou k;unfold XB;lia
def Zg8(w:V):(nextK w).length=npw w:=by
 have h1:=Zos (keyOf w);have h2:=Zot (keyOf w);have q:=Zou (keyOf w);unfold nextK npw Gj yo XB;rw[Qak,Qa1,Qa1];lia
def Zmb(h:i<r.length):(r.drop i).reverse=(r.drop (i+1)).reverse++[r[i]]:=by
 rw[Qc2 h,Qcp]
def Xc(l:A2)(y:V):(l++[y])[(l++[y]).length-1]?=some y:=by grind
def Zji{x:V}(h:r.reverse[i]?=some x):i<r.length/\r[r.length-1-i]?=some x:=by grind
def LsAt(ys:Ai)(q:A2)(ls:Nat->List Bool):Prop:=ls q.length=[]/\∀i x,q[i]?=some x->∃C b,ls i=C++[b]/\WB ys b x/\ls (i+1)=C++nextK x
theorem Zma.at{ys:Ai}{a e:Am}{D:A2}(h:Zma ys a D e)(F:e=[]):∃ls,LsAt ys D ls/\ls 0=a:=by
 induction h with
 | @nil ls=>
  subst F;exact⟨fun _=>[],⟨rfl,fun i x q=>by simp at q⟩,rfl⟩
 | @cons C e b w r hw _ I=>
  obtain⟨ls,⟨h1,h2⟩,G⟩:=I F;refine⟨fun i=>match i with|0=>C++[b]|i+1=>ls i,⟨h1,fun i x q=>?_⟩,rfl⟩;cases i with
  |zero=>
   have:w=x:=by simpa using q
   subst this;exact⟨C,b,rfl,hw,G⟩
  |succ i=>exact h2 i x (by simpa using q)
def iV:V->Int
 |.int a=>a
 |_=>0
def bV:V->Bool
 |.bl b=>b
 |_=>false
def Znk (y:Str) (a:Int):Int:=if y = "not" then Builtin.bitNot a else if y = "neg" then -a else if y = "twice" then a+a else Builtin.bitAnd a (-a)
def Zov (y:Str) (a b:Int):Int:=if y = "and" then Builtin.bitAnd a b else if y = "or" then Builtin.bitOr a b else if y = "odd" then Builtin.bitXor a b else if y = "add" then a+b else a-b
def wwv(ρ:Str->Int):V->List Int->Int
 |.int z,_=>z
 |.str y,[]=>ρ y
 |.str y,[a]=>Znk y a
 |.str y,[a,b]=>Zov y a b
 |.str _,a::b::c::_=>Builtin.bitOr (Builtin.bitAnd a b) (Builtin.bitAnd (Builtin.bitNot a) c)
 |_,_=>0
def sgn(m a:Int):Int:=if a*2>=m then a-m else a
def zE(m:Int)(y:Str)(xs:Ak):Bool:=
 if y = "nought" then decide (xs.getD 0 0=0)else if y = "sign" then decide (sgn m (xs.getD 0 0)<0)else if y = "same" then decide (xs.getD 0 0=xs.getD 1 0)
 else if y = "under" then decide (xs.getD 0 0<xs.getD 1 0)else decide (sgn m (xs.getD 0 0)<sgn m (xs.getD 1 0))
def Zpd(y:Str)(bs:Am):Bool:=
 if y = "yes" then true else if y = "never" then !(bs.getD 0 false)else if y = "both" then bs.getD 0 false&&bs.getD 1 false else if y = "either" then bs.getD 0 false||bs.getD 1 false else bs.getD 1 false || !(bs.getD 0 false)
def cvV(m:Int)(ρ:Str->Int)(w:V)(xs:A2):V:=
 match w with
 |.str y=>if y∈Z5 then(if 0<Gj w then .bl (zE m y (xs.map iV))else .bl (Zpd y (xs.map bV)))else .int (wwv ρ w (xs.map iV)%m)
 |_=>.int (wwv ρ w (xs.map iV)%m)
def We(m:Int)(ρ:Str->Int)(C:A2)(q:A2):A2:=C.foldr (fun w s=>cvV m ρ w (s.take (npw w))::s.drop (npw w)) q
def Xd(m:Int)(ρ:Str->Int)(w:V)(r q:A2):We m ρ (w::r) q=cvV m ρ w ((We m ρ r q).take (npw w))::(We m ρ r q).drop (npw w):=rfl
def clK:Key->Bool
 |.inr y=>decide (y∈Z5)
 |.inl _=>false
def Zow(m n:Nat):(m &&& n)/2=m/2 &&& n/2/\(m &&& n)%2=m%2*(n%2):=by
 refine⟨Nat.and_div_two_pow (n:=1),?_⟩;have h:=Nat.and_mod_two_pow (a:=m) (b:=n) (n:=1);rw[h];rcases Qcw m with e|e<;>rcases Qcw n with f|f<;>rw[e,f]<;>rfl
def n_or(m n:Nat):(m ||| n)/2=m/2 ||| n/2/\(m ||| n)%2=m%2+n%2-m%2*(n%2):=by
 refine⟨Nat.or_div_two_pow (n:=1),?_⟩;have h:=Nat.or_mod_two_pow (a:=m) (b:=n) (n:=1);rw[h];rcases Qcw m with e|e<;>rcases Qcw n with f|f<;>rw[e,f]<;>rfl
def bA_pp(m n:Nat):Builtin.bitAnd m n=((m &&& n:Nat):Int):=by
 rfl
def gU(n:Nat):¬(0:Int)<=-(n:Int)-1:=by lia
def gW(n:Nat):(Builtin.bitNot (-(n:Int)-1)).toNat=n:=by
 unfold Builtin.bitNot;lia
def Zox(m n:Nat):Builtin.bitAnd m (-(n:Int)-1)=(m:Int)-((m &&& n:Nat):Int):=by
 unfold Builtin.bitAnd;rw[Qan (Qde m),Qap (gU n)];rw[gW];rfl
def Zmc(m n:Nat):Builtin.bitAnd (-(m:Int)-1) n=(n:Int)-((n &&& m:Nat):Int):=by
 unfold Builtin.bitAnd;rw[Qan (Qde n),Qap (gU m)];rw[gW];rfl
def Zoy(m n:Nat):Builtin.bitAnd (-(m:Int)-1) (-(n:Int)-1)=-((m ||| n:Nat):Int)-1:=by
 unfold Builtin.bitAnd;rw[Qap (gU n),Qap (gU m)];rw[gW,gW];rfl
def yp(a:Int):(∃m:Nat,a=m)\/∃m:Nat,a=-(m:Int)-1:=by
 by_cases h:0<=a
 ·exact .inl ⟨a.toNat,by lia⟩
 ·exact .inr ⟨(-a-1).toNat,by lia⟩
def Zam(a:Int):a%2=0\/a%2=1:=by lia
def sub2(m A:Int)(h:A%2=0\/m%2=1):(m-A)/2=m/2-A/2/\(m-A)%2=m%2-A%2:=by lia
def cast2(m:Nat):(m:Int)/2=((m/2:Nat):Int)/\(m:Int)%2=((m%2:Nat):Int):=⟨rfl,rfl⟩
def Zfv(x:Int):(-x-1)/2=-(x/2)-1/\(-x-1)%2=1-x%2:=by lia
def Zoz(m n:Nat):(((m &&& n:Nat):Int))/2=((m/2 &&& n/2:Nat):Int)/\(((m &&& n:Nat):Int))%2=(m:Int)%2*((n:Int)%2):=by
 rw[(cast2 _).1,(cast2 _).2,(Zow m n).1,(Zow m n).2,Int.natCast_mul];exact⟨rfl,rfl⟩
def take2(m n:Nat):((m:Int)-((m &&& n:Nat):Int))/2=((m/2:Nat):Int)-((m/2 &&& n/2:Nat):Int)/\((m:Int)-((m &&& n:Nat):Int))%2=(m:Int)%2*(1-(n:Int)%2):=by
 have l:=Zoz m n;have h:((m &&& n:Nat):Int)%2=0\/(m:Int)%2=1:=by
  grind
 have z:=sub2 _ _ h;rw[z.1,z.2,l.1,l.2];refine⟨rfl,?_⟩;rcases Zam (m:Int)with e|e<;>rcases Zam (n:Int)with f|f<;>rw[e,f]<;>rfl
def Znl(a b:Int):Builtin.bitAnd a b/2=Builtin.bitAnd (a/2) (b/2)/\Builtin.bitAnd a b%2=a%2*(b%2):=by
 rcases yp a with⟨m,rfl⟩|⟨m,rfl⟩<;>rcases yp b with⟨n,rfl⟩|⟨n,rfl⟩
 ·exact Zoz m n
 ·rw[(cast2 m).1,(Zfv _).1,(Zfv _).2,(cast2 n).1,Zox,Zox];exact take2 m n
 ·rw[(cast2 n).1,(Zfv _).1,(Zfv _).2,(cast2 m).1,Zmc,Zmc,Qey];exact take2 n m
 ·rw[(Zfv (m:Int)).1,(Zfv (m:Int)).2,(Zfv (n:Int)).1,(Zfv (n:Int)).2,(cast2 m).1,(cast2 n).1,Zoy,Zoy,(Zfv _).1,(Zfv _).2,(cast2 _).1,(cast2 _).2,(n_or m n).1,(n_or m n).2];refine⟨rfl,?_⟩;rw[(cast2 m).2,(cast2 n).2];rcases Qcw m with e|e<;>rcases Qcw n with f|f<;>rw[e,f]<;>rfl
def Zjj(a:Int):Builtin.bitNot a/2=Builtin.bitNot (a/2)/\Builtin.bitNot a%2=1-a%2:=by
 unfold Builtin.bitNot;lia
def or2(a b:Int):Builtin.bitOr a b/2=Builtin.bitOr (a/2) (b/2)/\Builtin.bitOr a b%2=1-(1-a%2)*(1-b%2):=by
 unfold Builtin.bitOr;have h:=Znl (Builtin.bitNot a) (Builtin.bitNot b);rw[(Zjj a).1,(Zjj b).1,(Zjj a).2,(Zjj b).2]at h;rw[(Zjj _).1,(Zjj _).2,h.1,h.2];exact⟨rfl,rfl⟩
def xor2(a b:Int):Builtin.bitXor a b/2=Builtin.bitXor (a/2) (b/2)/\Builtin.bitXor a b%2=(a%2+b%2)%2:=by
 unfold Builtin.bitXor;have h:=Znl a b;have g:=or2 a b;have q:Builtin.bitAnd a b%2=0\/Builtin.bitOr a b%2=1:=by
  rw[h.2,g.2];rcases Zam a with e|e<;>rcases Zam b with f|f<;>rw[e,f]<;>decide
 have z:=sub2 _ _ q;rw[z.1,z.2,h.1,h.2,g.1,g.2];refine⟨rfl,?_⟩;rcases Zam a with e|e<;>rcases Zam b with f|f<;>rw[e,f]<;>rfl
def xM(w:Nat)(n:Int):zD (w+1) n=n%2::zD w (n/2):=by
 unfold zD;rw[List.range_succ_eq_map,Qbx,Qax,Qds,Qb9];congr 1;refine Qbm fun i _=>?_;show n/2^(i+1)%2=n/2/2^i%2;rw[Qee,Qey,Qdf (by decide:(0:Int)<=2)]
theorem Zg9(w:Nat)(n:Int):zD w (n%2^w)=zD w n:=by
 induction w generalizing n with
 |zero=>rfl
 |succ w C=>
  rw[xM,xM,<-C (n/2)];have e1:n%2^(w+1)%2=n%2:=by
   rw[Int.emod_emod_of_dvd];exact⟨2^w,by rw[Qee,Qey]⟩
  have e2:n%2^(w+1)/2=n/2%2^w:=by
   have q:(0:Int)<2^w:=Qez (by decide);have h2:=Qda (n/2) (2^w);have F:=Qbz (n/2) (Qfi q);have D:=Qb0 (n/2) q;have e:n%2^(w+1)=n%2+2*(n/2%2^w):=by
    have:n=n%2+2*(n/2%2^w)+2^(w+1)*(n/2/2^w):=by
     grind
    conv=>lhs;rw[this]
    rw[Qcf];refine Qdb (by lia) ?_;lia
   rw[e];lia
  rw[e1,e2]
def bits_getD(w:Nat)(n:Int)(i:Nat)(h:i<w):(zD w n).getD i 0=n/2^i%2:=by
 unfold zD;rw[Qaf,Qah,Qej h];rfl
theorem vI(w:Nat)(n:Int):(zD w n).foldr (fun b t=>2*t+b) 0=n%2^w:=by
 induction w generalizing n with
 |zero=>rw[Qds,Qgs];rfl
 |succ w C=>
  rw[xM,List.foldr_cons,C];have q:(0:Int)<2^w:=Qez (by decide);have h2:=Qda (n/2) (2^w);have F:=Qbz (n/2) (Qfi q);have D:=Qb0 (n/2) q;have:n=2*(n/2%2^w)+n%2+2^(w+1)*(n/2/2^w):=by
   grind
  conv=>rhs;rw[this]
  rw[Qcf];refine(Qdb (by lia) ?_).symm;lia
theorem Zdy{j:Nat}(h:i<=j):(2:Int)^i<=2^j:=by
 obtain⟨d,rfl⟩:∃d,j=i+d:=⟨j-i,by lia⟩;clear h
 induction d with
 |zero=>exact Int.le_refl _
 |succ d q=>
  lia
def bt(x:Int)(k:Nat):Int:=x/2^k%2
def YI(x:Int)(k:Nat):bt x (k+1)=bt (x/2) k:=by
 unfold bt;rw[Qee,Qey,Qdf (by decide:(0:Int)<=2)]
def YJ(x:Int)(k:Nat):bt x k=0\/bt x k=1:=by
 unfold bt;lia
theorem YR(k:Nat):∀a b:Int,bt (Builtin.bitAnd a b) k=bt a k*bt b k:=by
 induction k with
 |zero=>
  intro a b;unfold bt;rw[Qds,Qb9,Qb9,Qb9,(Znl a b).2]
 |succ k q=>
  intro a b;rw[YI,YI,YI,(Znl a b).1,q]
theorem qz(k:Nat):∀a b:Int,bt (Builtin.bitOr a b) k=1-(1-bt a k)*(1-bt b k):=by
 induction k with
 |zero=>
  intro a b;unfold bt;rw[Qds,Qb9,Qb9,Qb9,(or2 a b).2]
 |succ k q=>
  intro a b;rw[YI,YI,YI,(or2 a b).1,q]
theorem xN(k:Nat):∀a b:Int,bt (Builtin.bitXor a b) k=(bt a k+bt b k)%2:=by
 induction k with
 |zero=>
  intro a b;unfold bt;rw[Qds,Qb9,Qb9,Qb9,(xor2 a b).2]
 |succ k q=>
  intro a b;rw[YI,YI,YI,(xor2 a b).1,q]
theorem Gk(k:Nat):∀a:Int,bt (Builtin.bitNot a) k=1-bt a k:=by
 induction k with
 |zero=>
  intro a;unfold bt;rw[Qds,Qb9,Qb9,(Zjj a).2]
 |succ k q=>
  intro a;rw[YI,YI,(Zjj a).1,q]
def xO(k:Nat):bt 0 k=0:=by
 unfold bt;rw[Int.zero_ediv];rfl
theorem Zdz(k:Nat):bt (-1) k=1:=by
 induction k with
 |zero=>rfl
 |succ k q=>rw[YI];exact q
def xP(x:Int)(w k:Nat)(h:k<w):bt (x%2^w) k=bt x k:=by
 have e:=Zg9 w x;have h1:=bits_getD w (x%2^w) k h;have h2:=bits_getD w x k h;rw[e,h2]at h1;exact h1.symm
def lo(x:Int)(k:Nat):Int:=x%2^k
def zF(x:Int)(k:Nat):0<=lo x k/\lo x k<2^k:=⟨Qbz _ (Qfi (Qez (by decide))),Qb0 _ (Qez (by decide))⟩
def xQ(x:Int)(k:Nat):lo x (k+1)=lo x k+2^k*bt x k:=by
 unfold lo bt;have q:(0:Int)<2^k:=Qez (by decide);have e1:=Qda x (2^k);have D:=Qbz x (Qfi q);have b1:=Qb0 x q;have e3:x=(x%2^k+2^k*(x/2^k%2))+2^(k+1)*(x/2^k/2):=by
  grind
 conv=>lhs;rw[e3]
 rw[Qcf];have C:x/2^k%2=0\/x/2^k%2=1:=by lia
 refine Qdb ?_ ?_
 ·rcases C with h|h<;>rw[h]<;>lia
 ·grind
def Zmd(x:Int)(k:Nat):x=lo x k+2^k*(x/2^k):=(Qda x (2^k)).symm
def bt_sum{x y:Int}{k:Nat}{c:Int}(D:c=0\/c=1)(e:lo z k+2^k*c=lo x k+lo y k)(C:z=x+y):bt z k=(bt x k+bt y k+c)%2:=by
 have q:(0:Int)<2^k:=Qez (by decide);have e1:=Zmd x k;have e2:=Zmd y k;have e3:=Zmd z k;have h:(2:Int)^k*(z/2^k)=2^k*(x/2^k+y/2^k+c):=by
  rw[Int.mul_add,Int.mul_add];lia
 have h2:=Int.eq_of_mul_eq_mul_left (Qfi q) h;unfold bt;rw[h2];lia
def cyA(x y:Int)(k:Nat):Int:=(lo x k+lo y k)/2^k
def Zd0(x y:Int)(k:Nat):lo (x+y) k+2^k*cyA x y k=lo x k+lo y k:=by
 have e:lo (x+y) k=(lo x k+lo y k)%2^k:=by
  unfold lo;rw[<-Int.emod_add_emod,<-Int.add_emod_emod]
 rw[e];exact Qda _ _
def Zd1(x y:Int)(k:Nat):cyA x y k=0\/cyA x y k=1:=by
 have q:(0:Int)<2^k:=Qez (by decide);have a:=zF x k;have b:=zF y k;have D:0<=cyA x y k:=Int.ediv_nonneg (by lia) (Int.le_of_lt q);have C:cyA x y k<2:=Int.ediv_lt_of_lt_mul q (by lia);lia
def Zjk(x y:Int)(k:Nat):bt (x+y) k=(bt x k+bt y k+cyA x y k)%2:=bt_sum (Zd1 x y k) (Zd0 x y k) rfl
def gX(x y:Int):cyA x y 0=0:=by
 unfold cyA lo;rw[Qds,Qgs,Qgs];rfl
def gY(x y:Int)(k:Nat):cyA x y (k+1)=(bt x k+bt y k+cyA x y k)/2:=by
 have q:(0:Int)<2^k:=Qez (by decide);have e1:=xQ x k;have e2:=xQ y k;have e3:=Zd0 x y k;have b:=zF (x+y) k;have e:lo x (k+1)+lo y (k+1)=lo (x+y) k+2^k*(bt x k+bt y k+cyA x y k):=by
  lia
 unfold cyA;rw[e,Qee,<-Qdf (Int.le_of_lt q),Qf2 _ _ (Qfi q),Qb3 b.1 b.2,Qhp];rfl
def brA(x y:Int)(k:Nat):Int:=if lo x k<lo y k then 1 else 0
def gZ(x y:Int)(k:Nat):brA x y k=cyA (x-y) y k:=by
 have e:=Zd0 (x-y) y k;have b:=zF (x-y) k;unfold brA;rcases Zd1 (x-y) y k with h|h<;>rw[h]at e ⊢
 ·rw[Qay (by lia)]
 ·rw[Qa3 (by lia)]
def vJ(x y:Int)(k:Nat):brA x y k=0\/brA x y k=1:=by
 unfold brA;split
 ·exact .inr rfl
 ·exact .inl rfl
def Zd2(x y:Int)(k:Nat):bt (x-y) k=(bt x k+bt y k+brA x y k)%2:=by
 have h:=Zjk (x-y) y k;rw[Int.sub_add_cancel,<-gZ]at h;have a:=YJ (x-y) k;rw[h];lia
def ua(x y:Int):brA x y 0=0:=by
 rw[gZ,gX]
def ub(x y:Int)(k:Nat):brA x y (k+1)=1-(1-(1-bt x k)*bt y k)*(1-brA x y k*(1-(bt x k+bt y k)%2)):=by
 rw[gZ,gY,<-gZ,Zd2];rcases YJ x k with a|a<;>rcases YJ y k with b|b<;>rcases vJ x y k with c|c<;>rw[a,b,c]<;>rfl
def nzA(x:Int)(k:Nat):Int:=brA 0 x k
def Zd3(x:Int)(k:Nat):nzA x k=0\/nzA x k=1:=vJ 0 x k
def Zha(x:Int):nzA x 0=0:=ua 0 x
def Zhb(x:Int)(k:Nat):nzA x (k+1)=1-(1-bt x k)*(1-nzA x k):=by
 unfold nzA;rw[ub,xO];rcases YJ x k with a|a<;>rcases vJ 0 x k with c|c<;>rw[a,c]<;>rfl
def Zjl(x:Int)(k:Nat):bt (-x) k=(bt x k+nzA x k)%2:=by
 have h:=Zd2 0 x k;rw[Int.zero_sub,xO,Qhp]at h;exact h
def bt_low(x:Int)(k:Nat):bt (Builtin.bitAnd x (-x)) k=bt x k*(1-nzA x k):=by
 rw[YR,Zjl];rcases YJ x k with a|a<;>rcases Zd3 x k with c|c<;>rw[a,c]<;>rfl
def tw(x:Int):Nat->Int
 |0=>0
 |k+1=>bt x k
theorem tw_01(x:Int):∀k,tw x k=0\/tw x k=1
 |0=>.inl rfl
 |k+1=>YJ x k
theorem Zhc(x:Int):∀k,bt (x+x) k=tw x k
 |0=>by
  unfold bt;rw[Qds,Qb9];show(x+x)%2=0;lia
 |k+1=>by
  rw[YI,show(x+x)/2=x by lia];rfl
def hld(y:Str)(is:Ak)(k:Nat):Int:=
 if y = "twice" then tw (is.getD 0 0) k else if y = "neg" \/ y = "low" then nzA (is.getD 0 0) k else if y = "add" then cyA (is.getD 0 0) (is.getD 1 0) k else brA (is.getD 0 0) (is.getD 1 0) k
def xR:Ai:=["neg","twice","low","add","sub"]
def once(y:Str)(bs:Ak):Int:=
 if y = "not" then 1-bs.getD 0 0 else if y = "and" then bs.getD 0 0*bs.getD 1 0 else if y = "or" then 1-(1-bs.getD 0 0)*(1-bs.getD 1 0)else if y = "odd" then(bs.getD 0 0+bs.getD 1 0)%2
 else 1-(1-bs.getD 0 0*bs.getD 1 0)*(1-(1-bs.getD 0 0)*bs.getD 2 0)
def ans1(y:Str)(bs:Ak)(h:Int):Int:=
 if y = "twice" then h else if y = "neg" then(bs.getD 0 0+h)%2 else if y = "low" then bs.getD 0 0*(1-h)else(bs.getD 0 0+bs.getD 1 0+h)%2
def Jc(is:Ak)(k i:Nat):(is.map fun x=>bt x k).getD i 0=bt (is.getD i 0) k:=by
 rw[Qaf,Qaf,Qah];cases is[i]? with
 |none=>exact(xO k).symm
 |some x=>rfl
def rem_parts:∀y∈xR,y∈Gi/\Yp y=(if y = "add" \/ y = "sub" then 2 else 1):=by decide +kernel
def jC:∀y∈Gi,y∉xR->(y = "not" /\ Yp y=1)\/(y = "and" /\ Yp y=2)\/(y = "or" /\ Yp y=2)\/(y = "odd" /\ Yp y=2)\/(y = "pick" /\ Yp y=3):=by decide +kernel
def ans_ok(ρ:Str->Int){y:Str}(C:y∈xR){is:Ak}(q:is.length=Yp y)(k:Nat):ans1 y (is.map fun x=>bt x k) (hld y is k)=bt (wwv ρ (.str y) is) k:=by
 unfold xR at C;simp only[Qao,Qba,Qdz]at C;rcases C with rfl|rfl|rfl|rfl|rfl
 ·match is,q with
  |[a],_=>exact(Zjl a k).symm
 ·match is,q with
  |[a],_=>exact(Zhc a k).symm
 ·match is,q with
  |[a],_=>exact(bt_low a k).symm
 ·match is,q with
  |[a,b],_=>exact(Zjk a b k).symm
 ·match is,q with
  |[a,b],_=>exact(Zd2 a b k).symm
def Zme(ρ:Str->Int){y:Str}(D:y∈Gi)(C:y∉xR){is:Ak}(q:is.length=Yp y)(k:Nat):once y (is.map fun x=>bt x k)=bt (wwv ρ (.str y) is) k:=by
 rcases jC y D C with⟨rfl,e⟩|⟨rfl,e⟩|⟨rfl,e⟩|⟨rfl,e⟩|⟨rfl,e⟩<;>skip
 ·match is,q with
  |[a],_=>exact(Gk k a).symm
 ·match is,q with
  |[a,b],_=>exact(YR k a b).symm
 ·match is,q with
  |[a,b],_=>exact(qz k a b).symm
 ·match is,q with
  |[a,b],_=>exact(xN k a b).symm
 ·match is,q with
  |[a,b,c],_=>
   show 1-(1-bt a k*bt b k)*(1-(1-bt a k)*bt c k)=bt (Builtin.bitOr (Builtin.bitAnd a b) (Builtin.bitAnd (Builtin.bitNot a) c)) k;rw[qz,YR,YR,Gk]
def uc:A2->Nat
 |[]=>0
 |w::r=>uc r-npw w+1
def Jd:A2->Prop
 |[]=>True
 |w::r=>npw w<=uc r/\Jd r
def vK(ys:Ai)(B:Nat)(w:V):Prop:=(∃y,w=.str y/\y∈Gi/\y∉ys/\npw w=Yp y)\/(∃y,w=.str y/\y∈ys/\y∉xR/\npw w=0)\/∃z:Int,w=.int z/\0<=z/\z<2^B/\npw w=0
def Zjm{B k:Nat}(C:0<=z)(h:z<2^B)(q:B<=k):bt z k=0:=by
 have D:(2:Int)^B<=2^k:=Zdy q;unfold bt;rw[Qb3 C (by lia)];rfl
def Zo0(a b h:Int):Int:=Builtin.bitOr (Builtin.bitAnd (Builtin.bitNot a) b) (Builtin.bitAnd h (Builtin.bitNot (Builtin.bitXor a b)))
def allR:Ai:=["neg","twice","low","add","sub","same","under","beneath","nought"]
def Zmf:Ai:=["add","sub","same","under","beneath"]
def ktI(y:Str)(is:Ak)(h:Int):Int:=
 if y = "twice" then is.getD 0 0 else if y = "neg" \/ y = "low" \/ y = "nought" then Builtin.bitOr (is.getD 0 0) h else if y = "same" then Builtin.bitOr (Builtin.bitXor (is.getD 0 0) (is.getD 1 0)) h
 else if y = "add" then Builtin.bitOr (Builtin.bitAnd (is.getD 0 0) (is.getD 1 0)) (Builtin.bitAnd h (Builtin.bitOr (is.getD 0 0) (is.getD 1 0)))else Zo0 (is.getD 0 0) (is.getD 1 0) h
def okI(y:Str)(is:Ak)(h n:Int):Int:=
 if y = "add" \/ y = "sub" then Builtin.bitXor (Builtin.bitXor (is.getD 0 0) (is.getD 1 0)) h else if y = "neg" then Builtin.bitXor (is.getD 0 0) h else if y = "twice" then h else if y = "low" then Builtin.bitAnd (is.getD 0 0) (Builtin.bitNot h)
 else if y = "same" \/ y = "nought" then Builtin.bitNot n else if y = "under" then n else Zo0 (is.getD 1 0) (is.getD 0 0) h
def oaI(y:Str)(is:Ak):Int:=
 if y = "yes" then -1 else if y = "sign" then is.getD 0 0 else if y = "not" \/ y = "never" then Builtin.bitNot (is.getD 0 0)else if y = "and" \/ y = "both" then Builtin.bitAnd (is.getD 0 0) (is.getD 1 0)else if y = "or" \/ y = "either" then Builtin.bitOr (is.getD 0 0) (is.getD 1 0)
 else if y = "odd" then Builtin.bitXor (is.getD 0 0) (is.getD 1 0)else if y = "so" then Builtin.bitOr (Builtin.bitNot (is.getD 0 0)) (is.getD 1 0)else Builtin.bitOr (Builtin.bitAnd (is.getD 0 0) (is.getD 1 0)) (Builtin.bitAnd (Builtin.bitNot (is.getD 0 0)) (is.getD 2 0))
def Zd4 (y:Str):Nat:=if y = "yes" then 0 else if y = "sign" \/ y = "not" \/ y = "never" then 1 else if y = "pick" then 3 else 2
def Zd5:∀y∈allR,¬y = "twice" ->¬(y = "neg" \/ y = "low" \/ y = "nought")->y∈Zmf:=by decide +kernel
def Zd6:Ai:=["not","and","or","odd","pick","both","either","so","never","yes","sign"]
def Zan:∀y∈Zd6,¬y = "yes" ->¬y = "sign" ->¬(y = "not" \/ y = "never")->¬(y = "and" \/ y = "both")->¬(y = "or" \/ y = "either")->¬y = "odd" ->¬y = "so" ->3<=Zd4 y:=by decide +kernel
def xS{m:Nat}{is:Ak}(h:is.length=m)(h2:n<=m):n<=is.length:=by rw[h];exact h2
def and_zero(x:Int):Builtin.bitAnd x 0=0:=by
 rcases yp x with⟨m,rfl⟩|⟨m,rfl⟩
 ·rw[show(0:Int)=((0:Nat):Int)from rfl,bA_pp,Nat.and_zero]
 ·rw[show(0:Int)=((0:Nat):Int)from rfl,Zmc,Nat.zero_and];rfl
def and_1(x:Int):Builtin.bitAnd x 1=x%2:=by
 obtain⟨h1,h2⟩:=Znl x 1;rw[show(1:Int)/2=0 from rfl,and_zero]at h1;lia
def XC(ys:Ai)(cols:Str->Int)(pl:Nat)(kp:Ak):A2->List Int×Ak
 |[]=>([],[])
 |w::r=>
  let p:=XC ys cols pl kp r
  match w with
  |.str y=>
   if y∈allR then(okI y (p.1.take (npw w)) (-(kp.getD p.2.length 0)) (ktI y (p.1.take (npw w)) (-(kp.getD p.2.length 0)))::p.1.drop (npw w),p.2++[ktI y (p.1.take (npw w)) (-(kp.getD p.2.length 0))])
   else if y∈ys then(cols y::p.1.drop (npw w),p.2)
   else(oaI y (p.1.take (npw w))::p.1.drop (npw w),p.2)
  |.int z=>(-(bt z pl)::p.1.drop (npw w),p.2)
  |_=>p
def Zd7(kvs:A0)(ys:Ai)(cols:Str->Int):Prop:=(∀y∈ys,Yi kvs (.inr y)=some (.int (cols y)))/\∀y,y∉ys->Yi kvs (.inr y)=none
def yq(ys:Ai)(w:V):Prop:=(∃y,w=.str y/\y∈allR/\y∉ys/\1<=npw w/\(y∈Zmf->2<=npw w))\/(∃y,w=.str y/\y∈Zd6/\y∉allR/\y∉ys/\npw w=Zd4 y)\/(∃y,w=.str y/\y∈ys/\y∉allR/\npw w=0)\/∃z:Int,w=.int z/\0<=z/\npw w=0
theorem yr{ys:Ai}{cols:Str->Int}{pl:Nat}{kp:Ak}:∀C:A2,(∀w∈C,yq ys w)->(XC ys cols pl kp C).1.length=uc C
 |[],_=>rfl
 |w::r,hw=>by
  have F:=yr (ys:=ys) (cols:=cols) (pl:=pl) (kp:=kp) r fun w h=>hw w (Qal _ h);have q:∀x:Int,(x::(XC ys cols pl kp r).1.drop (npw w)).length=uc r-npw w+1:=fun x=>by grind
  rcases hw w Qai with⟨y,rfl,h1,_⟩|⟨y,rfl,h1,h2,D,_⟩|⟨y,rfl,h1,h2,_⟩|⟨z,rfl,_⟩
  ·show(if y∈allR then _ else _:Ak×Ak).1.length=_;rw[Qa3 h1];exact q _
  ·show(if y∈allR then _ else if y∈ys then _ else _:Ak×Ak).1.length=_;rw[Qay h2,Qay D];exact q _
  ·show(if y∈allR then _ else if y∈ys then _ else _:Ak×Ak).1.length=_;rw[Qay h2,Qa3 h1];exact q _
  ·exact q _
def vL(ys:Ai)(cols:Str->Int)(pl:Nat)(kp:Ak)(w:V)(r:A2):(XC ys cols pl kp r).2.length<=(XC ys cols pl kp (w::r)).2.length:=by
 cases w with
 |str y=>
  show _<=(if y∈allR then _ else if y∈ys then _ else _:Ak×Ak).2.length;split
  ·grind
  ·split<;>exact Qaj _
 |_=>exact Qaj _
theorem vM(ys:Ai)(cols:Str->Int)(pl:Nat)(kp:Ak):∀(q:A2) (j:Nat),(XC ys cols pl kp (q.drop j)).2.length<=(XC ys cols pl kp q).2.length
 |[],j=>by rw[List.drop_nil];exact Qaj _
 |w::r,0=>Qaj _
 |w::r,j+1=>Qbc (vM ys cols pl kp r j) (vL ys cols pl kp w r)
theorem xT:∀(q:A2) (j:Nat),Jd q->Jd (q.drop j)
 |[],j,_=>by rw[List.drop_nil];exact trivial
 |w::r,0,h=>h
 |w::r,j+1,h=>xT r j h.2
theorem wt:∀q:A2,uc q<=q.length
 |[]=>Qaj _
 |w::r=>by
  have:=wt r;show uc r-npw w+1<=r.length+1;lia
def wu(z:Int)(ys:Ai):inV (.int z) (ys.map V.str)=false:=by
 cases q:inV (.int z) (ys.map V.str)with
 |false=>rfl
 |true=>
  obtain⟨x,C,e⟩:=Qcc.mp q;obtain⟨y,_,rfl⟩:=Qau.mp C;cases e
theorem ud(ys:Ai)(cols:Str->Int)(pl:Nat)(kp:Ak):∀q:A2,(XC ys cols pl kp q).2.length<=q.length
 |[]=>Qaj _
 |w::r=>by
  have C:=ud ys cols pl kp r;cases w with
  |str y=>
   show(if y∈allR then _ else if y∈ys then _ else _:Ak×Ak).2.length<=r.length+1;split
   ·grind
   ·split<;>exact Nat.le_succ_of_le C
  |_=>exact Nat.le_succ_of_le C
def wx{x:Int}(h:x=0\/x=1)(l:Nat):bt (-x) l=x:=by
 rcases h with rfl|rfl
 ·exact xO l
 ·exact Zdz l
def Zd8:∀y∈Gi,(y∈allR↔y∈xR):=by decide +kernel
theorem yt(w:Nat):∀a b:Int,Builtin.bitAnd a b/2^w=Builtin.bitAnd (a/2^w) (b/2^w):=by
 induction w with
 |zero=>intro a b;rw[Qds,Qb9,Qb9,Qb9]
 |succ w q=>
  intro a b;have d:∀x:Int,x/2^(w+1)=x/2/2^w:=fun x=>by rw[Qee,Qey,Qdf (by decide:(0:Int)<=2)]
  rw[d,d,d,(Znl a b).1,q]
theorem Zjn(w:Nat):∀a b:Int,Builtin.bitOr a b/2^w=Builtin.bitOr (a/2^w) (b/2^w):=by
 induction w with
 |zero=>intro a b;rw[Qds,Qb9,Qb9,Qb9]
 |succ w q=>
  intro a b;have d:∀x:Int,x/2^(w+1)=x/2/2^w:=fun x=>by rw[Qee,Qey,Qdf (by decide:(0:Int)<=2)]
  rw[d,d,d,(or2 a b).1,q]
def vN{w:Nat}{x y:Int}(h:∀k,k<w->bt x k=bt y k):x%2^w=y%2^w:=by
 have e:zD w x=zD w y:=Qbm fun i hi=>h i (Qbu.mp hi);have h1:=vI w x;have h2:=vI w y;rw[e,h2]at h1;exact h1.symm
def Zhd{w:Nat}{a b c:Int}(D:0<=a)(a1:a<2^w)(L:0<=b)(b1:b<2^w)(C:0<=c)(F:c<2^w):Builtin.bitOr (Builtin.bitAnd a b) (Builtin.bitAnd (2^w-1-a) c)=Builtin.bitOr (Builtin.bitAnd a b) (Builtin.bitAnd (Builtin.bitNot a) c)%2^w:=by
 have J:Builtin.bitOr (Builtin.bitAnd a b) (Builtin.bitAnd (2^w-1-a) c)/2^w=0:=by
  rw[Zjn,yt,yt,Qb3 D a1,Qb3 L b1,Qb3 C F,Qb3 (by lia) (by lia)];rfl
 have q:=Qda (Builtin.bitOr (Builtin.bitAnd a b) (Builtin.bitAnd (2^w-1-a) c)) (2^w);rw[J,Int.mul_zero,Int.add_zero]at q;rw[<-q];refine vN fun k I=>?_;have G:bt (2^w-1-a) k=bt (Builtin.bitNot a) k:=by
  have e:2^w-1-a=Builtin.bitNot a%2^w:=by
   have e1:Builtin.bitNot a=(2^w-1-a)+2^w*(-1):=by unfold Builtin.bitNot;lia
   rw[e1,Qcf,Qdb (by lia) (by lia)]
  rw[e,xP _ _ _ I]
 rw[qz,YR,YR,G,qz,YR,YR]
def hor(q:Ak):Int:=q.foldl (fun a b=>a*2+b) 0
def ue(q:Ak)(b:Int):hor (q++[b])=hor q*2+b:=by
 unfold hor;rw[Qc8];rfl
def Zhe{b:Int}(h:E[i]?=some b):hor (E.take (i+1))=hor (E.take i)*2+b:=by
 rw[Qg6,h];exact ue _ b
def sm(b:Nat->Int):Nat->Int
 |0=>0
 |n+1=>sm b n+b n*2^n
theorem uf{b c:Nat->Int}:∀{n:Nat},(∀i,i<n->b i=c i)->sm b n=sm c n
 |0,_=>rfl
 |n+1,h=>by
  show sm b n+b n*2^n=sm c n+c n*2^n;rw[uf (n:=n) fun i hi=>h i (Qdw hi),h n (Qek n)]
theorem ug{b:Nat->Int}(q:∀i,b i=0\/b i=1):∀n,0<=sm b n/\sm b n<2^n
 |0=>⟨Int.le_refl _,(show(0:Int)<2^0 by decide)⟩
 |n+1=>by
  have C:=ug q n;have e:sm b (n+1)=sm b n+b n*2^n:=rfl;rw[e,pow_succ'];rcases q n with z|z<;>rw[z]<;>constructor<;>lia
theorem Zd9{b:Nat->Int}(q:∀i,b i=0\/b i=1)(p:Nat):∀n,p<n->sm b n/2^p%2=b p
 |0,h=>absurd h (Qea _)
 |n+1,h=>by
  have e:sm b (n+1)=sm b n+b n*2^n:=rfl;have F:=qR p;rw[e]
  by_cases C:p<n
  ·obtain⟨k,rfl⟩:∃k,n=p+(k+1):=⟨n-p-1,by lia⟩;have e2:b (p+(k+1))*2^(p+(k+1))=2^p*(2^k*b (p+(k+1))*2):=by
    grind
   rw[e2,Qf2 _ _ (by lia)];have G:=Zd9 q p (p+(k+1)) C;lia
  ·have e3:p=n:=by lia
   subst e3;obtain⟨D,h1⟩:=ug q p;rw[Qey,Qf2 _ _ (by lia),Qb3 D h1];rcases q p with z|z<;>rw[z]<;>rfl
def Zea{ys:Ai}{x:V}(h:(ys.map V.str)[i]?=some x):∃y:Str,x=V.str y/\ys[i]?=some y:=by grind
abbrev WI(l:Nat):V:=.int (l:Int)
def jD(q:Bool)(v:V):Prop:=(q=true/\∃x,v=.bl x)\/(q=false/\∃x,v=.int x)
def JI(H:Hp)(p:Aw)(q:Az):Prop:=∃as:A2,H p=some (.tup as)/\as.length=q.length/\∀(i:Nat) (r:A2),q[i]?=some r->∃a,as[i]?=some (V.ref a)/\H a=some (.tup r)
def JI.same{H H':Hp}{p:Aw}{q:Az}(R:JI H p q)(e:Z8 H H'):JI H' p q:=by
 obtain⟨as,h1,h2,D⟩:=R;refine⟨as,e _ _ h1,h2,fun i r hi=>?_⟩;obtain⟨a,C,F⟩:=D i r hi;exact⟨a,C,e _ _ F⟩
def xU(r:Aj):A2:=r.map WI
structure M4(H:Hp)(m:Aw)(nm:Ai)(b:Nat)(nx:Ad)(ot:Az):Prop where
 ex:∃pn ps po,H m=some (.tup [.ref pn,.int (b:Int),.ref ps,.ref po])/\H pn=some (.tup (nm.map V.str))/\JI H ps (nx.map xU)/\JI H po ot
structure Wf(nm:Ai)(b:Nat)(nx:Ad)(ot:Az)(tr:Bool):Prop where
 n3:nm.length<=3
 b:b<nx.length
 le:nx.length<=1000000
 ol:ot.length=nx.length
 nr:∀r∈nx,r.length=2^nm.length
 nl:∀r∈nx,∀s∈r,s<nx.length
 or:∀r∈ot,r.length=2^nm.length
 ok:∀r∈ot,∀v∈r,jD tr v
 bit:∀r∈ot,∀v∈r,vB v=some 0\/vB v=some 1
def Znm{A B:Hp->Prop}(h:A H):Zkx c H fun b H2=>if b=true then A H2 else B H2:=by
 show if true=true then A H else B H;exact Y2 h
def p8(h:n<=3):2^n<=8:=Qcr (by decide) h
def Zjo{q:List (List d)}(h:i<q.length):q[i]?=some (q.getD i []):=by grind
def yu{p:Aw}(R:JI H p Y)(h:i<Y.length):∃as a,H p=some (HO.tup as)/\atI as (i:Int)=some (V.ref a)/\H a=some (.tup (Y.getD i [])):=by
 obtain⟨as,h1,h2,C⟩:=R;obtain⟨a,q,D⟩:=C i _ (Zjo h);exact⟨as,a,h1,YB q,D⟩
def vO(nx:Ad)(i:Nat):(nx.map xU).getD i []=xU (nx.getD i []):=by
 rw[Qaf,Qaf,Qah];cases nx[i]?<;>rfl
def getD_mem{q:List (List d)}(h:i<q.length):q.getD i []∈q:=by grind
def qT{f:Nat->d}(h:i<n):((List.range n).map f)[i]?=some (f i):=by grind
def Xl(H:Hp)(zs:A2)(q:Az):Prop:=zs.length=q.length/\∀(i:Nat) (r:A2),q[i]?=some r->∃a,zs[i]?=some (V.ref a)/\H a=some (.tup r)
def Xl.same{H H':Hp}{zs:A2}{q:Az}(z:Xl H zs q)(e:Z8 H H'):Xl H' zs q:=by
 refine⟨z.1,fun i r D=>?_⟩;obtain⟨a,C,F⟩:=z.2 i r D;exact⟨a,C,e _ _ F⟩
def Xl.snoc{zs:A2}(z:Xl H zs Y)(h:H a=some (.tup r)):Xl H (zs++[.ref a]) (Y++[r]):=by
 refine⟨by rw[Qak,Qak,z.1];rfl,fun i q C=>?_⟩
 by_cases e:i<Y.length
 ·rw[Qa8 e]at C;rw[Qa8 (by rw[z.1];exact e)];exact z.2 i q C
 ·rw[Qa0 (by lia)]at C;have D:i-Y.length=0:=by
   grind
  rw[D]at C;cases C;refine⟨a,?_,h⟩;rw[Qa0 (by rw[z.1];lia),z.1,D];rfl
def Xl.nil{H:Hp}:Xl H [] []:=⟨rfl,fun i r q=>by cases q⟩
def nk(l:Ak):A0:=Xv (l.map (Sum.inl:Int->Key))
def Zeb{l:Ak}(h:l.Nodup):(l.map (Sum.inl:Int->Key)).Nodup:=by grind
def wy{l:Ak}{s:Int}:(Sum.inl s:Key)∈l.map Sum.inl↔s∈l:=by grind
def Zec{l:Ak}{s:Int}(h:s∈l)(q:l.Nodup):Yi (nk l) (.inl s)=some (.int (l.idxOf s:Int)):=by
 have:=WW (l.map (Sum.inl:Int->Key)) (.inl s) (wy.mpr h) (Zeb q);have e:=idx_map (β:=Key) Sum.inl (fun _ _=>Sum.inl.inj) s l;rw[e]at this;exact this
def Zmg{l:Ak}{s:Int}(h:s∉l):Yi (nk l) (.inl s)=none:=GN _ _ fun z=>h (wy.mp z)
def nk_len(l:Ak):(nk l).length=l.length:=by
 unfold nk;rw[WV,Qab]
def nk_put{l:Ak}{s:Int}(h:s∉l):putK (nk l) (.inl s) (.int (l.length:Int))=nk (l++[s]):=by
 unfold nk;rw[Qaz];show _=Xv (l.map Sum.inl++[Sum.inl s]);rw[GL,Qab];unfold putK;rw[Qay fun z=>?_];rw[Qcc]at z;obtain⟨p,q,e⟩:=z;have:p.1∈(Xv (l.map (Sum.inl:Int->Key))).map (·.1):=Qb6 q;rw[GK,Qbg e]at this;exact h (wy.mp this)
def qU(nx:Ad)(cs:Aj):List (Int×Ak):=List.zipWith (fun(c:Nat) (row:Aj)=>((c:Int),row.map fun s=>(cs.getD s 0:Int))) cs nx
def yw{nx:Ad}(h:S.length=nx.length):(qU nx S).length=S.length:=by
 unfold qU;rw[List.length_zipWith,h,Qgo]
theorem uh{nx:Ad}(h:S.length=nx.length):(qU nx S).map (·.1)=S.map fun c:Nat=>(c:Int):=by
 unfold qU;rw[List.map_zipWith];have:∀(S:Aj) (nx:Ad),S.length=nx.length->List.zipWith (fun(c:Nat) (_:Aj)=>(c:Int)) S nx=S.map fun c:Nat=>(c:Int):=by
  intro S
  induction S with
  |nil=>intro nx _;rfl
  |cons c r q=>
   intro nx h;cases nx with
   |nil=>cases h
   |cons x y=>rw[List.zipWith_cons_cons,Qbx,q y (by simpa using h)]
 exact this S nx h
def Zao{nx:Ad}(h:S.length=nx.length)(q:Wj S=S)(C:(Z1 (qU nx S)).length<=(Z1 S).length):Wj (qU nx S)=S:=by
 have e1:Z1 ((qU nx S).map (·.1))=(Z1 S).map fun c:Nat=>(c:Int):=by
  rw[uh h];exact yh _ _ fun a _ b _ e=>Int.ofNat.inj e
 have hi:=v8 (·.1) (qU nx S) (by rw[e1,Qab];exact C);rw[<-yi (·.1) (qU nx S) hi,uh h,yi (fun c:Nat=>(c:Int)) S fun a _ b _ e=>Int.ofNat.inj e,q]
theorem vP{p:Aw}(R:JI H p Y):∃bs:List Aw,H p=some (.tup (bs.map V.ref))/\bs.length=Y.length/\∀(i:Nat) (r:A2) (b:Aw),Y[i]?=some r->bs[i]?=some b->H b=some (.tup r):=by
 obtain⟨as,h1,h2,J⟩:=R;have I:∀(as:A2) (Y:Az),as.length=Y.length->(∀(i:Nat) (r:A2),Y[i]?=some r->∃a,as[i]?=some (V.ref a)/\H a=some (.tup r))->∃bs:List Aw,as=bs.map V.ref/\∀(i:Nat) (r:A2) (b:Aw),Y[i]?=some r->bs[i]?=some b->H b=some (.tup r):=by
  intro as
  induction as with
  |nil=>
   intro Y C _;exact⟨[],rfl,fun i r b _ q=>by cases q⟩
  |cons v r L=>
   intro Y C hh;cases Y with
   |nil=>cases C
   |cons x y=>
    obtain⟨a,ha,M⟩:=hh 0 x rfl;obtain⟨bs,e,q⟩:=L y (by simpa using C) fun i r hi=>by
     obtain⟨a,F,G⟩:=hh (i+1) r (by simpa using hi);exact⟨a,by simpa using F,G⟩
    refine⟨a::bs,?_,fun i r b O D=>?_⟩
    ·grind
    ·grind
 obtain⟨bs,e,q⟩:=I as Y h2 J;subst e;exact⟨bs,h1,by rw[<-h2,Qab],q⟩
def vQ[DecidableEq d](ks:List d):(ks.map fun k=>((Z1 ks).idxOf k:Int)).map V.int=(Wj ks).map WI:=by
 unfold Wj;rw[Qax,Qax];rfl
def Gm{nx:Ad}{c:Nat}{row:Aj}(q:S[i]?=some c)(C:nx[i]?=some row):(qU nx S)[i]?=some ((c:Int),row.map fun s=>(S.getD s 0:Int)):=by
 unfold qU;rw[List.getElem?_zipWith,q,C]
def Zmh{q:List (Ak)}{nx:Ad}(I:S.length=nx.length)(J:q.length=nx.length)(h:∀(i j:Nat) (a b:Ak),q[i]?=some a->q[j]?=some b->S[i]?=S[j]?->a=b):∀(i j:Nat) (a b:Ak),q[i]?=some a->q[j]?=some b->(Wj (qU nx S))[i]?=(Wj (qU nx S))[j]?->a=b:=by
 intro i j a b ha F e;have hi:i<nx.length:=by grind
 have G:j<nx.length:=by grind
 have D:=Qac (l:=S) (i:=i) (by lia);have C:=Qac (l:=S) (i:=j) (by lia);have:=(yg (Gm D (Qac hi)) (Gm C (Qac G))).mp e;refine h i j a b ha F ?_;rw[D,C];have e2:=congrArg Prod.fst this;exact congrArg some (Int.ofNat.inj e2)
def Zhf(nx:Ad)(l:Aj)(i:Nat):Aj:=(nx.getD (l.getD i 0) []).foldl Y4 l
def JK(nx:Ad)(b:Nat):Nat->List Nat
 |0=>[b]
 |i+1=>Zhf nx (JK nx b i) i
structure jE(nx:Ad)(b:Nat)(l:Aj):Prop where
 e:l=JK nx b l.length
 go:∀i,i<l.length->i<(JK nx b i).length
theorem Zap(r:Aj):∀l:Aj,l.Nodup->(r.foldl Y4 l).Nodup:=by
 induction r with
 |nil=>exact fun l h=>h
 |cons k r q=>exact fun l h=>q _ (Wb h k)
theorem yx(r:Aj){x:Nat}:∀l:Aj,x∈r.foldl Y4 l↔x∈l\/x∈r:=by
 induction r with
 |nil=>intro l;simp
 |cons k r q=>
  intro l;rw[Qc1,q,X9,Qao,or_assoc]
theorem xV(nx:Ad)(b:Nat):∀i,(JK nx b i).Nodup
 |0=>Qcd.mpr ⟨Qba,Qcq⟩
 |i+1=>Zap _ _ (xV nx b i)
theorem Zed{nx:Ad}{b:Nat}(q:b<nx.length)(C:∀row∈nx,∀s∈row,s<nx.length):∀i,∀s∈JK nx b i,s<nx.length
 |0,s,h=>by rw[Qaw.mp h];exact q
 |i+1,s,h=>by
  rcases(yx _ _).mp h with z|z
  ·exact Zed q C i s z
  ·grind
def Zmi{nx:Ad}{b:Nat}(C:b<nx.length)(D:∀row∈nx,∀s∈row,s<nx.length)(i:Nat):(JK nx b i).length<=nx.length:=by
 have:=Wc (l2:=List.range nx.length) (xV nx b i) fun x q=>Qbu.mpr (Zed C D i x q);rw[Qbb]at this;exact this
theorem wz(nx:Ad)(b j:Nat):∀d,∃r,JK nx b (j+d)=JK nx b j++r
 |0=>⟨[],(Qby _).symm⟩
 |d+1=>by
  obtain⟨r,e⟩:=wz nx b j d;obtain⟨q,e2⟩:=Jt (nx.getD ((JK nx b (j+d)).getD (j+d) 0) []) (JK nx b (j+d));refine⟨r++q,?_⟩;show Zhf nx (JK nx b (j+d)) (j+d)=_;unfold Zhf;rw[e2,e,Qcg]
def bfs_at{nx:Ad}{b j:Nat}(C:j<i)(q:j<(JK nx b j).length):(JK nx b i)[j]?=some ((JK nx b j).getD j 0):=by
 obtain⟨r,e⟩:=wz nx b j (i-j);rw[show j+(i-j)=i by lia]at e;rw[e,Qa8 q,Qaf,Qac q];rfl
def map_range{β:Type}(l:List d)(i:Nat)(q:l.length=i)(f:d->β)(g:Nat->β)(h:∀j a,l[j]?=some a->g j=f a):(List.range i).map g=l.map f:=by
 refine Qfx fun j=>?_
 by_cases C:j<i
 ·grind
 ·grind
theorem jF{H':Hp}{zs:A2}(h:∀b xs,H b=some (.tup xs)->H' b=some (.tup xs))(z:Xl H zs Y):Xl H' zs Y:=⟨z.1,fun i r q=>by
 obtain⟨a,h1,h2⟩:=z.2 i r q;exact⟨a,h1,h _ _ h2⟩⟩
inductive SK(κ:Type)[DecidableEq κ]where
 |int (f:κ->Int) (inj:∀a b,f a=f b->a=b)
 |key (kn:KN κ)
def Yu(h:n<=10000000):n<sizeLine:=Qeq h (by decide)
section
variable {κ:Type}[DecidableEq κ]
def SK.at_:SK κ->Hp->κ->V->Prop
 |.int f _,_,k,v=>v=.int (f k)
 |.key kn,H,k,v=>∃a,v=.ref a/\kn.at_ H k a
def SK.dic:SK κ->Hp->Addr->List κ->Prop
 |.int f _,H,d,l=>H d=some (.dK (nk (l.map f)))
 |.key kn,H,d,l=>G8 kn H d (Xv l)
def SK.keep{sk:SK κ}{H H':Hp}{k:κ}{v:V}(h:sk.at_ H k v)(e:∀b xs,H b=some (.tup xs)->H' b=some (.tup xs)):sk.at_ H' k v:=by
 cases sk with
 |int f _=>exact h
 |key kn=>
  obtain⟨a,rfl,ha⟩:=h;exact⟨a,rfl,kn.keep _ _ _ _ e ha⟩
def Zee{kn:KN κ}{d:Aw}{kvs:List (κ×V)}(n:G8 kn H d kvs):∃o,H d=some o/\(∀xs,o≠.tup xs)/\∀xs,o≠.lst xs:=by
 rcases n.2.2 with⟨_,e⟩|⟨ys,e,_⟩
 ·grind
 ·grind
def SK.ne{sk:SK κ}{d:Aw}{l:List κ}(h:sk.dic H d l):∃o,H d=some o/\(∀xs,o≠.tup xs)/\∀xs,o≠.lst xs:=by
 cases sk with
 |int f _=>exact⟨_,h,(fun _ z=>nomatch z),fun _ z=>nomatch z⟩
 |key kn=>exact Zee h
def Zhg{kn:KN κ}{H':Hp}{d:Aw}{kvs:List (κ×V)}(n:G8 kn H d kvs)(C:∀o,H d=some o->H' d=some o)(e:∀b xs,H b=some (.tup xs)->H' b=some (.tup xs)):G8 kn H' d kvs:=by
 obtain⟨D,F,G⟩:=n;refine⟨D,F,?_⟩;rcases G with⟨e1,e2⟩|⟨ys,e1,e2⟩
 ·exact .inl ⟨e1,C _ e2⟩
 ·exact .inr ⟨ys,C _ e1,Paired.mapP e2 fun p q h=>⟨h.1,kn.keep _ _ _ _ e h.2.1,h.2.2⟩⟩
def SK.stay{sk:SK κ}{H':Hp}{d:Aw}{l:List κ}(h:sk.dic H d l)(q:∀o,H d=some o->H' d=some o)(e:∀b xs,H b=some (.tup xs)->H' b=some (.tup xs)):sk.dic H' d l:=by
 cases sk with
 |int f _=>exact q _ h
 |key kn=>exact Zhg h q e
def SK.off{sk:SK κ}{d:Aw}{l:List κ}{xs:A2}{o:HO}(h:sk.dic H d l)(e:H f=some (.lst xs)):sk.dic (upd H f o) d l:=by
 obtain⟨u,D,_,F⟩:=SK.ne h;have C:d≠f:=fun z=>by
  grind
 exact SK.stay h (fun o e=>by rw[Zk C];exact e) fun b ys q=>by rw[Zk (Xn q e fun z=>nomatch z)];exact q
def StA(sk:SK κ)(H:Hp)(l:List κ)(vs:A2):Prop:=vs.length=l.length/\∀(i:Nat) (k:κ),l[i]?=some k->∃v,vs[i]?=some v/\sk.at_ H k v
theorem StA.keep{sk:SK κ}{H H':Hp}{l:List κ}{vs:A2}(h:StA sk H l vs)(e:∀b xs,H b=some (.tup xs)->H' b=some (.tup xs)):StA sk H' l vs:=⟨h.1,fun i k q=>by
 obtain⟨v,h1,h2⟩:=h.2 i k q;exact⟨v,h1,SK.keep h2 e⟩⟩
def StA.snoc{sk:SK κ}{l:List κ}{vs:A2}{k:κ}{v:V}(h:StA sk H l vs)(F:sk.at_ H k v):StA sk H (l++[k]) (vs++[v]):=by
 refine⟨by rw[Qak,Qak,h.1];rfl,fun i q C=>?_⟩
 by_cases e:i<l.length
 ·rw[Qa8 e]at C;rw[Qa8 (by rw[h.1];exact e)];exact h.2 i q C
 ·rw[Qa0 (by lia)]at C;have D:i-l.length=0:=by
   grind
  rw[D]at C;cases C;refine⟨v,?_,F⟩;rw[Qa0 (by rw[h.1];lia),h.1,D];rfl
def StA.one{sk:SK κ}{k:κ}{v:V}(C:sk.at_ H k v):StA sk H [k] [v]:=StA.snoc (l:=[]) (vs:=[]) ⟨rfl,fun i q D=>by cases D⟩ C
def bfS(nx:κ->List κ)(l:List κ)(i:Nat):List κ:=match l[i]? with
 |some s=>(nx s).foldl Y4 l
 |none=>l
def bfN(nx:κ->List κ)(b:κ):Nat->List κ
 |0=>[b]
 |i+1=>bfS nx (bfN nx b i) i
structure BfE(nx:κ->List κ)(b:κ)(l:List κ):Prop where
 e:l=bfN nx b l.length
 go:∀i,i<l.length->i<(bfN nx b i).length
theorem xW(r:List κ):∀l:List κ,l.Nodup->(r.foldl Y4 l).Nodup:=by
 induction r with
 |nil=>exact fun l h=>h
 |cons k r q=>exact fun l h=>q _ (Wb h k)
theorem xX(r:List κ){x:κ}:∀l:List κ,x∈r.foldl Y4 l↔x∈l\/x∈r:=by
 induction r with
 |nil=>intro l;simp
 |cons k r q=>
  intro l;rw[Qc1,q,X9,Qao,or_assoc]
theorem Zef(r:List κ):∀l:List κ,(r.foldl Y4 l).length<=l.length+r.length:=by
 induction r with
 |nil=>exact fun l=>Qaj _
 |cons k r q=>
  intro l;have h1:=q (Y4 l k);have h2:=qP l k;rw[Qc1,Qa9];lia
variable {nx:κ->List κ}{b:κ}
theorem Gn:∀i,(bfN nx b i).Nodup
 |0=>Qcd.mpr ⟨Qba,Qcq⟩
 |i+1=>by
  show(bfS nx (bfN nx b i) i).Nodup;unfold bfS;split
  ·exact xW _ _ (Gn i)
  ·exact Gn i
theorem Zeg{U:List κ}(C:b∈U)(D:∀s∈U,∀x∈nx s,x∈U):∀i,∀s∈bfN nx b i,s∈U
 |0,s,h=>by rw[Qaw.mp h];exact C
 |i+1,s,h=>by
  have h:s∈bfS nx (bfN nx b i) i:=h;unfold bfS at h;split at h
  ·rename_i q F;rcases(xX _ _).mp h with z|z
   ·exact Zeg C D i s z
   ·exact D q (Zeg C D i q (Qar F)) s z
  ·exact Zeg C D i s h
def Zeh{U:List κ}(q:b∈U)(C:∀s∈U,∀x∈nx s,x∈U)(i:Nat):(bfN nx b i).length<=U.length:=Wc (Gn i) (Zeg q C i)
def yy{s:κ}(h:(bfN nx b i)[i]?=some s):bfN nx b (i+1)=(nx s).foldl Y4 (bfN nx b i):=by
 show bfS nx (bfN nx b i) i=_;unfold bfS;rw[h]
theorem ui(j:Nat):∀d,∃r,bfN nx b (j+d)=bfN nx b j++r
 |0=>⟨[],(Qby _).symm⟩
 |d+1=>by
  obtain⟨r,e⟩:=ui j d;show∃r,bfS nx (bfN nx b (j+d)) (j+d)=_;unfold bfS;split
  ·obtain⟨q,e2⟩:=Jt (nx _) (bfN nx b (j+d));exact⟨r++q,by rw[e2,e,Qcg]⟩
  ·exact⟨r,e⟩
def Zo1{j:Nat}{s:κ}(q:j<=i)(hs:(bfN nx b j)[j]?=some s):(bfN nx b i)[j]?=some s:=by
 obtain⟨r,e⟩:=ui (nx:=nx) (b:=b) j (i-j);rw[show j+(i-j)=i by lia]at e;rw[e,Qa8 (Qag.mp hs).1];exact hs
def Zpe(nx:κ->List κ)(b:κ)(j:Nat):Aj:=match (bfN nx b j)[j]? with
 |some s=>(nx s).map fun x=>(bfN nx b (j+1)).idxOf x
 |none=>[]
def zG(nx:κ->List κ)(b:κ)(i:Nat):Az:=(List.range i).map fun j=>xU (Zpe nx b j)
def Zpf(nx:κ->List κ)(ot:κ->List V)(b:κ)(j:Nat):A2:=match (bfN nx b j)[j]? with
 |some s=>ot s
 |none=>[]
def yz(nx:κ->List κ)(ot:κ->List V)(b:κ)(i:Nat):Az:=(List.range i).map (Zpf nx ot b)
def Zaq{s:κ}(h:(bfN nx b i)[i]?=some s):zG nx b (i+1)=zG nx b i++[((nx s).map fun x=>WI ((bfN nx b (i+1)).idxOf x))]:=by
 unfold zG;rw[Qeb,Qaz];show _++[xU (Zpe nx b i)]=_;unfold Zpe xU;rw[h];rw[Qax];rfl
def Zar{ot:κ->List V}{s:κ}(h:(bfN nx b i)[i]?=some s):yz nx ot b (i+1)=yz nx ot b i++[ot s]:=by
 unfold yz;rw[Qeb,Qaz];show _++[Zpf nx ot b i]=_;unfold Zpf;rw[h]
def rnG(nx:κ->List κ)(l:List κ):Ad:=l.map fun s=>(nx s).map fun x=>l.idxOf x
def xY(nx:κ->List κ)(l:List κ):(rnG nx l).length=l.length:=Qab _
def w9{j:Nat}{a:κ}(D:(bfN nx b i).length=i)(C:∀j,j<i->j<(bfN nx b j).length)(ha:(bfN nx b i)[j]?=some a):j<i/\(bfN nx b j)[j]?=some a:=by
 have q:j<i:=by grind
 refine⟨q,?_⟩;have e:=Qac (C j q);rw[Zo1 (Qav q) e]at ha;rw[e];exact ha
def Zei(q:(bfN nx b i).length=i)(D:∀j,j<i->j<(bfN nx b j).length):zG nx b i=(rnG nx (bfN nx b i)).map xU:=by
 unfold zG rnG;rw[Qax];refine map_range _ i q _ _ fun j a ha=>?_;obtain⟨F,e⟩:=w9 q D ha;unfold Zpe;rw[e];congr 1;refine Qbm fun x C=>?_;obtain⟨r,e2⟩:=ui (nx:=nx) (b:=b) (j+1) (i-(j+1));rw[show j+1+(i-(j+1))=i by lia]at e2;rw[e2,GJ];rw[yy e];exact(xX _ _).mpr (.inr C)
def Zej{ot:κ->List V}(q:(bfN nx b i).length=i)(C:∀j,j<i->j<(bfN nx b j).length):yz nx ot b i=(bfN nx b i).map ot:=by
 refine map_range _ i q _ _ fun j a ha=>?_;obtain⟨D,e⟩:=w9 q C ha;unfold Zpf;rw[e]
end
def SqF(H1 H2:Hp)(r:Aw)(q:A2):Prop:=H2 r=some (.tup q)\/(H2 r=some (.lst q)/\H1 r=none)
def Zhh{xs:A2}{is:Aj}{Q:VK}(D:∀R:VK,R (.ref a) H->u c H R)(C:H a=some (.tup xs)\/H a=some (.lst xs))(q:Nat->List V->Hp->Prop)(M:q 0 [] H)(J:∀i zs H,q i zs H->zs.length<=sizeLine)(F:∀i zs H',q i zs H'->∀o,H a=some o->H' a=some o)
  (hs:∀i x zs H (R:A2->Hp->Prop),(∀zs H,q (i+1) zs H->R zs H)->xs[i]?=some x->q i zs H->G (xo is c (some x)) H fun b H2=>if b=true then I (xo is c (some x)) H2 fun y O=>R (zs++[y]) O else R zs H2)
  (L:∀zs H,q xs.length zs H->∀p,H p=none->Q (.ref p) (upd H p (.lst zs))):Zbs K u c H (GA is G I c Q)\/iTup K u c H (GA is G I c Q):=by
 rcases C with C|C
 ·exact .inr (D _ ⟨a,rfl,⟨_,SqT.of C⟩,X7 (K:=K) (a:=a) (xs:=xs) q M J (fun i zs H' h=>SqT.of (F i zs H' h _ C)) hs L⟩)
 ·exact .inl (D _ ⟨a,rfl,⟨_,SqL.of C⟩,Xt (K:=K) (a:=a) (xs:=xs) q M J (fun i zs H' h=>SqL.of (F i zs H' h _ C)) hs L⟩)
def Gp:A2->List Int
 |[]=>[]
 |.int z::r=>((Builtin.Int.intBits z:Nat):Int)::Gp r
 |_::r=>Gp r
theorem vR:∀q:A2,(Gp q).length<=q.length
 |[]=>Qaj _
 |w::r=>by
  have:=vR r;cases w<;>simp only[Gp,Qa9]<;>lia
theorem xZ:∀(a b:A2),Gp (a++b)=Gp a++Gp b
 |[],_=>rfl
 |w::r,b=>by
  have:=xZ r b;cases w<;>simp only[Gp,List.cons_append,this]
theorem za{z:Int}:∀{q:A2},V.int z∈q->((Builtin.Int.intBits z:Nat):Int)∈Gp q
 |w::r,h=>by
  rcases Qao.mp h with rfl|h
  ·exact Qai
  ·have:=za h;cases w<;>skip<;>first|exact this|exact Qal _ this
theorem uj{m:Int}:∀{q:A2},m∈Gp q->∃z:Int,V.int z∈q/\m=((Builtin.Int.intBits z:Nat):Int)
 |w::r,h=>by
  have C:m∈Gp r->∃z:Int,V.int z∈w::r/\m=((Builtin.Int.intBits z:Nat):Int):=fun h=>let⟨z,h1,h2⟩:=uj h;⟨z,Qal _ h1,h2⟩;cases w with
  |int z=>
   rcases Qao.mp h with rfl|h
   ·exact⟨z,Qai,rfl⟩
   ·exact C h
  |_=>exact C h
def Zmj(h:0<=z):z<2^Builtin.Int.intBits z:=by
 unfold Builtin.Int.intBits;split
 ·grind
 ·obtain⟨n,rfl⟩:=Int.eq_ofNat_of_zero_le h;have:=Nat.lt_log2_self (n:=n)
  exact_mod_cast this
theorem bits_le{B:Nat}(h:0<=z)(D:z<2^B):Builtin.Int.intBits z<=B:=by
 unfold Builtin.Int.intBits;split
 ·exact Qbt _
 ·rename_i e;obtain⟨n,rfl⟩:=Int.eq_ofNat_of_zero_le h;have C:n≠0:=fun q=>e (by rw[q];rfl);have h2:n<2^B:=by exact_mod_cast D
  exact(Nat.log2_lt C).mpr h2
theorem Zjp:∀(bs:Ak) (l:Nat),(∀b∈bs,b=0\/b=1)->bt (hor bs.reverse) l=bs.getD l 0
 |[],l,_=>xO l
 |b::r,l,h=>by
  rw[Qcp,ue];have q:=h b Qai;cases l with
  |zero=>
   unfold bt;show _=b;lia
  |succ l=>
   rw[YI,show(hor r.reverse*2+b)/2=hor r.reverse by lia,Zjp r l fun b q=>h b (Qal _ q)];rfl
def Y8(L:Nat)(ys:Ai)(y:Str):Int:=hor ((List.range L).map fun l:Nat=>bt (l:Int) (ys.idxOf y)).reverse
def W0[DecidableEq d]{l:List d}{x:d}(q:l.Nodup)(h:l[i]?=some x):l.idxOf x=i:=by grind
def Zhi{ys:Ai}{l:Nat}{y:Str}(q:ys.Nodup)(h:ys[i]?=some y)(D:l<L):bt (Y8 L ys y) l=bt (l:Int) i:=by
 unfold Y8;rw[W0 q h,Zjp _ _ fun b C=>by
  obtain⟨c,_,rfl⟩:=Qau.mp C;exact YJ _ _]
 rw[Qaf,Qah,Qej D];rfl
def lgB:A2->Nat
 |[]=>0
 |.int z::r=>max (Builtin.Int.intBits z) (lgB r)
 |_::r=>lgB r
theorem Zek{z:Int}:∀{q:A2},V.int z∈q->Builtin.Int.intBits z<=lgB q
 |w::r,h=>by
  rcases Qao.mp h with rfl|h
  ·exact Nat.le_max_left _ _
  ·have:=Zek h;cases w<;>simp only[lgB]<;>lia
theorem Zel:∀q:A2,lgB q=0\/∃z:Int,V.int z∈q/\lgB q=Builtin.Int.intBits z
 |[]=>.inl rfl
 |w::r=>by
  have C:(lgB (w::r)=lgB r)->lgB (w::r)=0\/∃z:Int,V.int z∈w::r/\lgB (w::r)=Builtin.Int.intBits z:=fun e=>by
   rw[e];rcases Zel r with h|⟨z,h1,h2⟩
   ·exact .inl h
   ·grind
  cases w with
  |int z=>
   by_cases h:lgB r<=Builtin.Int.intBits z
   ·exact .inr ⟨z,Qai,Nat.max_eq_left h⟩
   ·exact C (Nat.max_eq_right (by lia))
  |_=>exact C rfl
def Zjq(h1:∀z:Int,V.int z∈r->Builtin.Int.intBits z<=L)(h2:L=0\/∃z:Int,V.int z∈r/\L=Builtin.Int.intBits z):L=lgB r:=by
 refine Qhq ?_ ?_
 ·rcases h2 with h|⟨z,q,h⟩
  ·lia
  ·rw[h];exact Zek q
 ·rcases Zel r with h|⟨z,q,h⟩
  ·lia
  ·rw[h];exact h1 z q
def Y7(q:A2):Nat:=(q.filter fun w=>inV w (allR.map V.str)).length
def Znn(nm:Ai)(cols:Str->Int)(q:A2)(s:Int×Ak):Ak×Ak:=XC nm cols s.1.toNat s.2 q
def nxT(nm:Ai)(cols:Str->Int)(q:A2)(L:Nat)(s:Int×Ak):List (Int×Ak):=(List.range (2^nm.length)).map fun l=>(min (s.1+1) (L:Int),(Znn nm cols q s).2.map fun c=>bt c l)
def otT(nm:Ai)(cols:Str->Int)(q:A2)(o0 o1:V)(s:Int×Ak):A2:=(List.range (2^nm.length)).map fun l=>if bt ((Znn nm cols q s).1.getD 0 0) l=1 then o1 else o0
def Zno(q:Aw)(H H':Hp):Prop:=∀b o,H b=some o->b≠q->H' b=some o
def Zmk(H:Hp)(k:Int×Ak)(a:Aw):Prop:=∃t,H a=some (.tup [.int k.1,.ref t])/\H t=some (.tup (k.2.map V.int))
def Zmk.bits{k:Int×Ak}(h:Zmk H k a):Zdi H k a:=by
 obtain⟨t,h1,h2⟩:=h;refine⟨t,h1,_,h2,?_⟩;rw[Qax];rfl
def knQ:KN (Int×Ak)where
 knd:=knP.knd
 hsh:=knP.hsh
 at_:=Zmk
 hash_eq:=knP.hash_eq
 ok:=fun P w H h k a ok b=>knP.ok P w H h k a ok b.bits
 room:=knP.room
 room0:=knP.room0
 keep:=fun H H' k a q ⟨t,e,e2⟩=>⟨t,q _ _ e,q _ _ e2⟩
def Wt:Nat->List (Ak)
 |0=>[[]]
 |n+1=>(Wt n).map (List.cons 0)++(Wt n).map (List.cons 1)
theorem zb:∀n,(Wt n).length=2^n
 |0=>rfl
 |n+1=>by
  show((Wt n).map (List.cons 0)++(Wt n).map (List.cons 1)).length=_;rw[Qak,Qab,Qab,zb n,Qfj];lia
theorem YK:∀{n:Nat} {ks:Ak},ks∈Wt n↔ks.length=n/\∀x∈ks,x=0\/x=1
 |0,ks=>by
  constructor
  ·intro h;rw[Qaw.mp h];exact⟨rfl,fun x q=>by cases q⟩
  ·rintro⟨h,_⟩;rw[Qco h];exact Qaw.mpr rfl
 |n+1,ks=>by
  show ks∈(Wt n).map (List.cons 0)++(Wt n).map (List.cons 1)↔_;rw[Qbo,Qau,Qau];constructor
  ·rintro(⟨r,C,rfl⟩|⟨r,C,rfl⟩)
   ·obtain⟨h1,h2⟩:=YK.mp C;refine⟨by rw[Qa9,h1],fun x q=>?_⟩;rcases Qao.mp q with rfl|q
    ·exact .inl rfl
    ·exact h2 x q
   ·obtain⟨h1,h2⟩:=YK.mp C;refine⟨by rw[Qa9,h1],fun x q=>?_⟩;rcases Qao.mp q with rfl|q
    ·exact .inr rfl
    ·exact h2 x q
  ·rintro⟨h1,h2⟩;cases ks with
   |nil=>cases h1
   |cons x r=>
    have C:r∈Wt n:=YK.mpr ⟨by simpa using h1,fun y D=>h2 y (Qal _ D)⟩;rcases h2 x Qai with rfl|rfl
    ·exact .inl ⟨r,C,rfl⟩
    ·exact .inr ⟨r,C,rfl⟩
def uni(q:Nat):Nat->List (Int×Ak)
 |0=>[]
 |n+1=>uni q n++(Wt q).map fun ks=>((n:Int),ks)
theorem y1(q:Nat):∀n,(uni q n).length=n*2^q
 |0=>by rw[Qhr];rfl
 |n+1=>by
  show(uni q n++(Wt q).map _).length=_;rw[Qak,Qab,y1 q n,zb,Qgn]
theorem XS{q:Nat}{s:Int×Ak}:∀{n:Nat},s∈uni q n↔∃p:Nat,p<n/\s.1=(p:Int)/\s.2∈Wt q
 |0=>⟨(fun h=>nomatch h),fun⟨p,h,_⟩=>absurd h (Qea _)⟩
 |n+1=>by
  show s∈uni q n++(Wt q).map (fun ks=>((n:Int),ks))↔_;rw[Qbo,XS,Qau];constructor
  ·grind
  ·grind
def vS(w:V)(r:A2):Y7 (w::r)=Y7 r+if inV w (allR.map V.str)=true then 1 else 0:=by
 unfold Y7;rw[Qc5];split<;>rfl
theorem y3{ys:Ai}{cols:Str->Int}{pl:Nat}{kp:Ak}:∀C:A2,(∀w∈C,yq ys w)->(XC ys cols pl kp C).2.length=Y7 C
 |[],_=>rfl
 |w::r,hw=>by
  have q:=y3 (ys:=ys) (cols:=cols) (pl:=pl) (kp:=kp) r fun w h=>hw w (Qal _ h);rw[vS];rcases hw w Qai with⟨y,rfl,h1,_⟩|⟨y,rfl,h1,h2,D,_⟩|⟨y,rfl,h1,h2,_⟩|⟨z,rfl,_⟩
  ·show(if y∈allR then _ else _:Ak×Ak).2.length=_;rw[Qa3 h1,ZC,Qan h1,Qa3 rfl,Qak,q];rfl
  ·show(if y∈allR then _ else if y∈ys then _ else _:Ak×Ak).2.length=_;rw[Qay h2,Qay D,ZC,Qap h2,Qay (by decide)];exact q
  ·show(if y∈allR then _ else if y∈ys then _ else _:Ak×Ak).2.length=_;rw[Qay h2,Qa3 h1,ZC,Qap h2,Qay (by decide)];exact q
  ·exact q
def qV{cols:Str->Int}(hw:∀w∈r,yq N w)(D:i=Y7 r){s:Int×Ak}(hs:s∈uni i (L+1)):∀x∈nxT N cols r L s,x∈uni i (L+1):=by
 intro x q;obtain⟨l,_,rfl⟩:=Qau.mp q;obtain⟨p,h1,h2,F⟩:=XS.mp hs;refine XS.mpr ⟨min (p+1) L,by lia,?_,YK.mpr ⟨?_,fun b C=>?_⟩⟩
 ·grind
 ·rw[Qab,D];exact y3 r hw
 ·obtain⟨c,_,rfl⟩:=Qau.mp C;exact YJ c l
def Zas{H':Hp}(s:Z8 (hide J H) H')(C:∀c∈J,H' c=none):Z8 H (XZ J H H')/\(∀t o,H' t=some o->XZ J H H' t=some o)/\∀t o,H' t=some o->hide J H t=none->H t=none:=by
 have m:∀t o,H' t=some o->t∉J:=fun t o e m=>by rw[C t m]at e;cases e
 refine⟨fun b o e=>?_,fun t o e=>by rw[Yl (m t o e)];exact e,fun t o e h=>by rw[Z9 (m t o e)]at h;exact h⟩
 by_cases q:b∈J
 ·rw[WT q];exact e
 ·rw[Yl q];exact s _ _ (by rw[Z9 q];exact e)
def jG{H':Hp}{p:Aw}(R:JI H p Y)(e:∀b xs,H b=some (.tup xs)->H' b=some (.tup xs)):JI H' p Y:=by
 obtain⟨as,h1,h2,C⟩:=R;refine⟨as,e _ _ h1,h2,fun i r hi=>?_⟩;obtain⟨a,q,D⟩:=C i r hi;exact⟨a,q,e _ _ D⟩
def uk{B:Nat}(q:∀z:Int,V.int z∈r->0<=z/\z<2^B):lgB r<=B:=by
 rcases Zel r with h|⟨z,C,h⟩
 ·lia
 ·rw[h];exact bits_le (q z C).1 (q z C).2
def lgB_lt(h:V.int z∈r)(q:0<=z):z<2^lgB r:=Int.lt_of_lt_of_le (Zmj q) (Zdy (Zek h))
def um:∀y∈allR,y∈ZJ:=by decide +kernel
def uo:∀y∈Gi,y∉allR->y∈Zd6/\npw (.str y)=Zd4 y:=by decide +kernel
def Zml:∀y∈allR,y∈Gi->1<=npw (.str y)/\(y∈Zmf->2<=npw (.str y)):=by decide +kernel
def uq{ys:Ai}{B:Nat}{w:V}(C:∀y∈ys,y∉ZJ)(h:vK ys B w):yq ys w:=by
 rcases h with⟨y,rfl,h1,h2,q⟩|⟨y,rfl,h1,h2,q⟩|⟨z,rfl,D,_,q⟩
 ·by_cases ha:y∈allR
  ·exact .inl ⟨y,rfl,ha,h2,Zml y ha h1⟩
  ·exact .inr (.inl ⟨y,rfl,(uo y h1 ha).1,ha,h2,(uo y h1 ha).2⟩)
 ·exact .inr (.inr (.inl ⟨y,rfl,h1,fun z=>C y h1 (um y z),q⟩))
 ·exact .inr (.inr (.inr ⟨z,rfl,D,q⟩))
def vT(ls:Aj)(ys:Ai)(y:Str):Int:=sm (fun k=>bt ((ls.getD k 0:Nat):Int) (ys.idxOf y)) ls.length
def Zmm{ls:Aj}{ys:Ai}{k l:Nat}{y:Str}(C:ys.Nodup)(h:ys[i]?=some y)(q:ls[k]?=some l):bt (vT ls ys y) k=bt (l:Int) i:=by
 unfold vT;rw[W0 C h];have:=Zd9 (b:=fun k=>bt ((ls.getD k 0:Nat):Int) i) (fun _=>YJ _ _) k ls.length (Qag.mp q).1;rw[Qaf,q]at this;exact this
structure Runs(nx:Ad)(ot:Az)(n:Nat):Prop where
 pos:0<nx.length
 ol:ot.length=nx.length
 nr:∀r∈nx,r.length=2^n
 nl:∀r∈nx,∀s∈r,s<nx.length
 or:∀r∈ot,r.length=2^n
def stN(nx:Ad):Nat->List Nat->Nat
 |s,[]=>s
 |s,c::r=>stN nx ((nx.getD s []).getD c 0) r
def rnO(nx:Ad)(ot:Az):Nat->List Nat->List V
 |_,[]=>[]
 |s,c::r=>(ot.getD s []).getD c .non::rnO nx ot ((nx.getD s []).getD c 0) r
theorem qW(nx:Ad):∀(s:Nat) (ls:Aj) (c:Nat),stN nx s (ls++[c])=(nx.getD (stN nx s ls) []).getD c 0
 |_,[],_=>rfl
 |s,d::r,c=>qW nx ((nx.getD s []).getD d 0) r c
theorem ur(nx:Ad)(ot:Az):∀(s:Nat) (ls:Aj) (c:Nat),rnO nx ot s (ls++[c])=rnO nx ot s ls++[(ot.getD (stN nx s ls) []).getD c .non]
 |_,[],_=>rfl
 |s,d::r,c=>congrArg (List.cons _) (ur nx ot ((nx.getD s []).getD d 0) r c)
theorem wA(nx:Ad)(ot:Az):∀(s:Nat) (ls:Aj),(rnO nx ot s ls).length=ls.length
 |_,[]=>rfl
 |s,d::r=>congrArg Nat.succ (wA nx ot _ r)
def getD_at{α:Type}{l:List α}{d:α}(h:i<l.length):l[i]?=some (l.getD i d):=by grind
section
variable {κ:Type}[DecidableEq κ]{nx:κ->List κ}{b:κ}{l:List κ}
def zc{x:κ}(h:x∈l):l[l.idxOf x]?=some x:=by grind
def BfE.len(B:BfE nx b l):(bfN nx b l.length).length=l.length:=by rw[<-B.e]
def BfE.here(B:BfE nx b l){j:Nat}{s:κ}(h:l[j]?=some s):j<l.length/\(bfN nx b j)[j]?=some s:=w9 B.len B.go (by rw[<-B.e];exact h)
def BfE.sub(B:BfE nx b l){j:Nat}(q:j<=l.length){x:κ}(h:x∈bfN nx b j):x∈l:=by
 obtain⟨r,e⟩:=ui (nx:=nx) (b:=b) j (l.length-j);rw[show j+(l.length-j)=l.length by lia,<-B.e]at e;rw[e];exact Qd4 _ h
def BfE.begin(B:BfE nx b l):l[0]?=some b/\b∈l:=by
 have q:b∈l:=B.sub (Qbt _) (show b∈[b]from Qaw.mpr rfl);have e:=Zo1 (nx:=nx) (b:=b) (i:=l.length) (j:=0) (Qbt _) (s:=b) rfl;rw[<-B.e]at e;exact⟨e,q⟩
def BfE.next(B:BfE nx b l){s x:κ}(h:s∈l)(q:x∈nx s):x∈l:=by
 obtain⟨j,C⟩:=Qcl.mp h;obtain⟨h1,h2⟩:=B.here C;refine B.sub (j:=j+1) h1 ?_;rw[yy h2];exact(xX _ _).mpr (.inr q)
def BfE.nodup(B:BfE nx b l):l.Nodup:=by
 rw[B.e];exact Gn _
def ixG(l:List κ)(x:κ):Nat:=l.idxOf x
def BfE.zero(B:BfE nx b l):ixG l b=0:=W0 B.nodup B.begin.1
def Zjr(h:∀s∈l,∀x∈nx s,x∈l){s:κ}(hs:s∈l):(rnG nx l).getD (ixG l s) []=(nx s).map fun x=>ixG l x:=by
 unfold rnG ixG;rw[Qaf,Qah,zc hs];rfl
def Zmn{ot:κ->List V}{s:κ}(hs:s∈l):(l.map ot).getD (ixG l s) []=ot s:=by
 unfold ixG;rw[Qaf,Qah,zc hs];rfl
end
structure vU(nm:Ai)(ws:A2):Prop where
 n3:nm.length<=3
 nd:nm.Nodup
 kp:∀y∈nm,y∉ZJ
 ln:ws.length<=100
 wd:∀w∈ws,vK nm 10 w
 en:Jd ws
 st:uc ws=1
 rm:Y7 ws<=15
abbrev nxS(nm:Ai)(q:A2):Int×Ak->List (Int×Ak):=nxT nm (Y8 (2^nm.length) nm) q (lgB q)
def vU.wc(S:vU N r):∀w∈r,yq N w:=fun w h=>uq S.kp (S.wd w h)
theorem vU.iz(S:vU N r):∀z:Int,V.int z∈r->0<=z/\z<2^10:=fun z h=>by
 rcases S.wd _ h with⟨y,e,_⟩|⟨y,e,_⟩|⟨C,e,q,h1,_⟩
 ·cases e
 ·cases e
 ·cases e;exact⟨q,h1⟩
def vU.big(S:vU N r):(10+1)*2^Y7 r<=1000000:=by
 have:2^Y7 r<=2^15:=Qcr (by decide) S.rm;lia
def vU.len{l:List (Int×Ak)}(S:vU N r)(B:BfE (nxS N r) (0,List.replicate (Y7 r) 0) l):l.length<=1000000:=by
 have h:=Zeh (nx:=nxS N r) (b:=((0:Int),List.replicate (Y7 r) (0:Int))) (U:=uni (Y7 r) (lgB r+1)) (XS.mpr ⟨0,by lia,rfl,YK.mpr ⟨Qa1,fun x q=>.inl (Qec q)⟩⟩) (fun s hs=>qV S.wc rfl hs) l.length;rw[<-B.e,y1]at h;have h2:lgB r<=10:=uk S.iz;have C:=S.big;exact Qbc h (Qbc (Qe9 _ (by lia)) C)
def Zem(nm:Ai)(cols:Str->Int)(q:A2)(L:Nat)(s:Int×Ak):(nxT nm cols q L s).length=2^nm.length:=by
 unfold nxT;rw[Qab,Qbb]
def Zmo(nm:Ai)(cols:Str->Int)(q:A2)(o0 o1:V)(s:Int×Ak):(otT nm cols q o0 o1 s).length=2^nm.length:=by
 unfold otT;rw[Qab,Qbb]
section
variable {κ:Type}[DecidableEq κ]{nx:κ->List κ}{b:κ}{l:List κ}
def Zmp(B:BfE nx b l)(D:∀s,(nx s).length=n):(∀r∈rnG nx l,r.length=n)/\∀r∈rnG nx l,∀s∈r,s<(rnG nx l).length:=by
 constructor
 ·intro r q;obtain⟨s,_,rfl⟩:=Qau.mp q;rw[Qab,D]
 ·intro r q x C;obtain⟨s,hs,rfl⟩:=Qau.mp q;obtain⟨y,F,rfl⟩:=Qau.mp C;rw[xY];exact Qbh (B.next hs F)
end
def y4{H':Hp}{xs:A2}(h:SqL K H a xs)(s:Z8 H H'):SqL K H' a xs:=by
 rcases h with h|h
 ·rcases h with h|⟨u,h⟩
  ·exact .inl (.inl (s _ _ h))
  ·exact .inl (.inr ⟨u,s _ _ h⟩)
 ·exact .inr h
def Zno.tup{q:Aw}{H H':Hp}(o:Zno q H H'){C:Ah}(D:H q=some (.tbl C)){b:Aw}{xs:A2}(e:H b=some (.tup xs)):H' b=some (.tup xs):=o _ _ e (Xn e D fun z=>nomatch z)
def neA(x y:Int)(k:Nat):Int:=if lo x k=lo y k then 0 else 1
def Zjs(x y:Int)(k:Nat):neA x y k=0\/neA x y k=1:=by
 unfold neA;split
 ·exact .inl rfl
 ·exact .inr rfl
def Zhj(x y:Int):neA x y 0=0:=by
 unfold neA lo;rw[Qds,Qgs,Qgs];rfl
def Zhk(x y:Int)(k:Nat):neA x y (k+1)=1-(1-(bt x k+bt y k)%2)*(1-neA x y k):=by
 have e1:=xQ x k;have e2:=xQ y k;have b1:=zF x k;have b2:=zF y k;unfold neA;rcases YJ x k with a|a<;>rcases YJ y k with b|b<;>rw[a]at e1 ⊢ <;> rw[b]at e2 ⊢ <;> by_cases h:lo x k=lo y k
 all_goals first
  |rw[Qa3 h,Qa3 (by lia)];rfl
  |rw[Qay h,Qay (by lia)];rfl
  |rw[Qa3 h,Qay (by lia)];rfl
def sgA(x:Int)(k:Nat):Int:=lo x k-2^k*bt x k
def bnA(x y:Int)(k:Nat):Int:=if sgA x k<sgA y k then 1 else 0
def bnA_01(x y:Int)(k:Nat):bnA x y k=0\/bnA x y k=1:=by
 unfold bnA;split
 ·exact .inr rfl
 ·exact .inl rfl
def bnA_br(x y:Int)(k:Nat):bnA x y k=1-(1-(1-bt y k)*bt x k)*(1-brA x y k*(1-(bt y k+bt x k)%2)):=by
 have b1:=zF x k;have b2:=zF y k;unfold bnA sgA brA;rcases YJ x k with a|a<;>rcases YJ y k with b|b<;>rw[a,b]<;>by_cases h:lo x k<lo y k
 all_goals first
  |rw[Qa3 h,Qa3 (by lia)];rfl
  |rw[Qay h,Qay (by lia)];rfl
  |rw[Qa3 h,Qay (by lia)];rfl
  |rw[Qay h,Qa3 (by lia)];rfl
def Zat(y:Str)(is:Ak)(k:Nat):Int:=
 if y = "twice" then tw (is.getD 0 0) k else if y = "neg" \/ y = "low" \/ y = "nought" then nzA (is.getD 0 0) k else if y = "same" then neA (is.getD 0 0) (is.getD 1 0) k else if y = "add" then cyA (is.getD 0 0) (is.getD 1 0) k else brA (is.getD 0 0) (is.getD 1 0) k
def Zmq(y:Str)(is:Ak)(k:Nat):Zat y is k=0\/Zat y is k=1:=by
 unfold Zat
 repeat' split
 ·exact tw_01 _ _
 ·exact Zd3 _ _
 ·exact Zjs _ _ _
 ·exact Zd1 _ _ _
 ·exact vJ _ _ _
def Zen(y:Str)(is:Ak):Zat y is 0=0:=by
 unfold Zat
 repeat' split
 ·rfl
 ·exact Zha _
 ·exact Zhj _ _
 ·exact gX _ _
 ·exact ua _ _
def Zfw(y:Str)(bs:Ak)(h:Int):Int:=
 if y = "twice" then bs.getD 0 0 else if y = "neg" \/ y = "low" \/ y = "nought" then 1-(1-bs.getD 0 0)*(1-h)else if y = "same" then 1-(1-(bs.getD 0 0+bs.getD 1 0)%2)*(1-h)else if y = "add" then(bs.getD 0 0+bs.getD 1 0+h)/2 else 1-(1-(1-bs.getD 0 0)*bs.getD 1 0)*(1-h*(1-(bs.getD 0 0+bs.getD 1 0)%2))
def vV(y:Str)(is:Ak)(k:Nat):Zat y is (k+1)=Zfw y (is.map fun x=>bt x k) (Zat y is k):=by
 unfold Zat Zfw;rw[Jc,Jc]
 repeat' split
 ·rfl
 ·exact Zhb _ _
 ·exact Zhk _ _ _
 ·exact gY _ _ _
 ·exact ub _ _ _
def Zo2(y:Str)(bs:Ak)(h:Int):Int:=
 if y = "add" \/ y = "sub" then(bs.getD 0 0+bs.getD 1 0+h)%2 else if y = "neg" then(bs.getD 0 0+h)%2 else if y = "twice" then h else if y = "low" then bs.getD 0 0*(1-h)
 else if y = "same" \/ y = "nought" then 1-Zfw y bs h else if y = "under" then Zfw y bs h else 1-(1-(1-bs.getD 1 0)*bs.getD 0 0)*(1-h*(1-(bs.getD 1 0+bs.getD 0 0)%2))
def vW(y:Str)(bs:Ak):Int:=
 if y = "yes" then 1 else if y = "sign" then bs.getD 0 0 else if y = "not" \/ y = "never" then 1-bs.getD 0 0 else if y = "and" \/ y = "both" then bs.getD 0 0*bs.getD 1 0 else if y = "or" \/ y = "either" then 1-(1-bs.getD 0 0)*(1-bs.getD 1 0)
 else if y = "odd" then(bs.getD 0 0+bs.getD 1 0)%2 else if y = "so" then 1-(1-(1-bs.getD 0 0))*(1-bs.getD 1 0)else 1-(1-bs.getD 0 0*bs.getD 1 0)*(1-(1-bs.getD 0 0)*bs.getD 2 0)
def Zjt(a b h:Int)(l:Nat):bt (Zo0 a b h) l=1-(1-(1-bt a l)*bt b l)*(1-bt h l*(1-(bt a l+bt b l)%2)):=by
 unfold Zo0;rw[qz,YR,YR,Gk,Gk,xN]
def Zju(y:Str)(is:Ak)(h:Int)(l:Nat):bt (ktI y is h) l=Zfw y (is.map fun x=>bt x l) (bt h l):=by
 unfold Zfw ktI;rw[Jc,Jc]
 repeat' split
 ·rfl
 ·exact qz l _ _
 ·rw[qz,xN]
 ·rw[qz,YR,YR,qz];rcases YJ (is.getD 0 0) l with a|a<;>rcases YJ (is.getD 1 0) l with b|b<;>rcases YJ h l with c|c<;>rw[a,b,c]<;>rfl
 ·exact Zjt _ _ _ _
def okR_bt(y:Str)(is:Ak)(h:Int)(l:Nat):bt (okI y is h (ktI y is h)) l=Zo2 y (is.map fun x=>bt x l) (bt h l):=by
 unfold Zo2 okI;rw[<-Zju,Jc,Jc]
 repeat' split
 ·rw[xN,xN];lia
 ·exact xN l _ _
 ·rfl
 ·rw[YR,Gk]
 ·exact Gk l _
 ·rfl
 ·exact Zjt _ _ _ _
def Zjv(y:Str)(is:Ak)(l:Nat):bt (oaI y is) l=vW y (is.map fun x=>bt x l):=by
 unfold vW oaI;rw[Jc,Jc,Jc]
 repeat' split
 ·exact Zdz l
 ·rfl
 ·exact Gk l _
 ·exact YR l _ _
 ·exact qz l _ _
 ·exact xN l _ _
 ·rw[qz,Gk]
 ·rw[qz,YR,YR,Gk]
def clB(y:Str)(is:Ak)(k:Nat):Int:=
 if y = "same" then 1-neA (is.getD 0 0) (is.getD 1 0) (k+1)else if y = "nought" then 1-nzA (is.getD 0 0) (k+1)else if y = "under" then brA (is.getD 0 0) (is.getD 1 0) (k+1)else if y = "beneath" then bnA (is.getD 0 0) (is.getD 1 0) k
 else vW y (is.map fun x=>bt x k)
def once01(y:Str)(is:Ak)(k:Nat):vW y (is.map fun x=>bt x k)=0\/vW y (is.map fun x=>bt x k)=1:=by
 rw[<-Zjv];exact YJ _ _
def uv(y:Str)(is:Ak)(k:Nat):clB y is k=0\/clB y is k=1:=by
 unfold clB
 repeat' split
 ·have:=Zjs (is.getD 0 0) (is.getD 1 0) (k+1);lia
 ·have:=Zd3 (is.getD 0 0) (k+1);lia
 ·exact vJ _ _ _
 ·exact bnA_01 _ _ _
 ·exact once01 _ _ _
def rwR(W:Nat)(ρ:Str->Int)(w:V)(is:Ak):Int:=
 match w with
 |.str y=>if y∈Z5 then sm (clB y is) W else wwv ρ w is%2^W
 |_=>wwv ρ w is%2^W
def J2(W:Nat)(ρ:Str->Int):A2->List Int
 |[]=>[]
 |w::r=>rwR W ρ w ((J2 W ρ r).take (npw w))::(J2 W ρ r).drop (npw w)
theorem uw(W:Nat)(ρ:Str->Int):∀q:A2,(J2 W ρ q).length=uc q
 |[]=>rfl
 |w::r=>by
  show((J2 W ρ r).drop (npw w)).length+1=_;rw[Qbq,uw W ρ r];rfl
def Zau:V->Bool
 |.str y=>decide (y∈allR)
 |_=>false
def qo(W:Nat)(ρ:Str->Int):A2->Nat->List Int
 |[],_=>[]
 |w::r,k=>qo W ρ r k++if Zau w=true then[Zat (Zfu w) ((J2 W ρ r).take (npw w)) k]else[]
def Zeo(ys:Ai)(ν:Str->Int)(pl:Nat)(kp:Ak):A2->List Int×Ak
 |[]=>([],[])
 |w::r=>
  let p:=Zeo ys ν pl kp r
  match w with
  |.str y=>
   if y∈allR then(Zo2 y (p.1.take (npw w)) (kp.getD p.2.length 0)::p.1.drop (npw w),p.2++[Zfw y (p.1.take (npw w)) (kp.getD p.2.length 0)])
   else if y∈ys then(ν y::p.1.drop (npw w),p.2)
   else(vW y (p.1.take (npw w))::p.1.drop (npw w),p.2)
  |.int z=>(bt z pl::p.1.drop (npw w),p.2)
  |_=>p
def vX{ys:Ai}{cols:Str->Int}{pl:Nat}{kp:Ak}(D:∀i:Nat,kp.getD i 0=0\/kp.getD i 0=1)(l:Nat):∀C:A2,
  (XC ys cols pl kp C).1.map (fun x=>bt x l)=(Zeo ys (fun y=>bt (cols y) l) pl kp C).1/\(XC ys cols pl kp C).2.map (fun x=>bt x l)=(Zeo ys (fun y=>bt (cols y) l) pl kp C).2
 |[]=>⟨rfl,rfl⟩
 |w::r=>by
  obtain⟨e1,e2⟩:=vX (ys:=ys) (cols:=cols) (pl:=pl) D l r;have F:(XC ys cols pl kp r).2.length=(Zeo ys (fun y=>bt (cols y) l) pl kp r).2.length:=by rw[<-e2,Qab]
  cases w with
  |str y=>
   show(if y∈allR then _ else if y∈ys then _ else _:Ak×Ak).1.map _=(if y∈allR then _ else if y∈ys then _ else _:Ak×Ak).1/\(if y∈allR then _ else if y∈ys then _ else _:Ak×Ak).2.map _=(if y∈allR then _ else if y∈ys then _ else _:Ak×Ak).2
   by_cases ha:y∈allR
   ·rw[Qa3 ha,Qa3 ha];constructor
    ·show bt _ l::_=_::_;rw[okR_bt,wx (D _),Qdm,Qdv,e1,F]
    ·rw[Qaz,e2];show _++[bt _ l]=_;rw[Zju,wx (D _),Qdm,e1,F]
   ·rw[Qay ha,Qay ha]
    by_cases q:y∈ys
    ·rw[Qa3 q,Qa3 q];refine⟨?_,e2⟩;show bt _ l::List.map _ (List.drop _ _)=_::_;rw[Qdv,e1]
    ·rw[Qay q,Qay q];refine⟨?_,e2⟩;show bt _ l::List.map _ (List.drop _ _)=_::_;rw[Zjv,Qdm,Qdv,e1]
  |int z=>
   refine⟨?_,e2⟩;show bt (-(bt z pl)) l::List.map _ (List.drop _ _)=bt z pl::_;rw[Qdv,e1,wx (YJ z pl)]
  |_=>exact⟨e1,e2⟩
def Gq:∀y∈Gi,y∉Z5:=by decide +kernel
def Zhl{y:Str}(q:y∈xR)(is:Ak)(k:Nat):Zat y is k=hld y is k:=by
 unfold xR at q;simp only[Qao,Qba,Qdz]at q;rcases q with rfl|rfl|rfl|rfl|rfl<;>rfl
def Zhm{y:Str}(q:y∈xR)(bs:Ak)(h:Int):Zo2 y bs h=ans1 y bs h:=by
 unfold xR at q;simp only[Qao,Qba,Qdz]at q;rcases q with rfl|rfl|rfl|rfl|rfl<;>rfl
def Zep{y:Str}(q:y∈Gi)(C:y∉xR)(bs:Ak):vW y bs=once y bs:=by
 rcases jC y q C with⟨rfl,_⟩|⟨rfl,_⟩|⟨rfl,_⟩|⟨rfl,_⟩|⟨rfl,_⟩<;>rfl
def Zeq:∀y∈Z5,y∈allR->y = "same" \/ y = "under" \/ y = "beneath" \/ y = "nought" :=by decide +kernel
def Zav:∀y∈Z5,y∉allR->¬y = "same" /\ ¬y = "under" /\ ¬y = "beneath" /\ ¬y = "nought" :=by decide +kernel
def Zhn{f:Nat->Int}(q:∀i,f i=0\/f i=1){k W:Nat}(h:k<W):bt (sm f W) k=f k:=Zd9 q k W h
def Zho(ρ:Str->Int){y:Str}{W k:Nat}(C:k<W)(ha:y∈allR){is:Ak}(h:y∈Z5\/(y∈Gi/\is.length=Yp y)):Zo2 y (is.map fun x=>bt x k) (Zat y is k)=bt (rwR W ρ (.str y) is) k:=by
 rcases h with D|⟨hs,F⟩
 ·show _=bt (if y∈Z5 then _ else _) k;rw[Qa3 D,Zhn (uv y is) C];have hs:=vV y is k;rcases Zeq y D ha with rfl|rfl|rfl|rfl
  ·show 1-Zfw "same" _ _=1-neA _ _ (k+1);rw[<-hs];rfl
  ·show Zfw "under" _ _=brA _ _ (k+1);rw[<-hs];rfl
  ·show 1-(1-(1-List.getD _ 1 0)*List.getD _ 0 0)*(1-brA _ _ k*(1-(List.getD _ 1 0+List.getD _ 0 0)%2))=bnA _ _ k;rw[Jc,Jc,bnA_br]
  ·show 1-Zfw "nought" _ _=1-nzA _ (k+1);rw[<-hs];rfl
 ·have q:=(Zd8 y hs).mp ha;show _=bt (if y∈Z5 then _ else _) k;rw[Qay (Gq y hs),Zhm q,Zhl q,ans_ok ρ q F,xP _ _ _ C]
def Zer(ρ:Str->Int){y:Str}{W k:Nat}(C:k<W)(ha:y∉allR){is:Ak}(h:y∈Z5\/(y∈Gi/\is.length=Yp y)):vW y (is.map fun x=>bt x k)=bt (rwR W ρ (.str y) is) k:=by
 rcases h with D|⟨hs,I⟩
 ·show _=bt (if y∈Z5 then _ else _) k;obtain⟨h1,h2,G,F⟩:=Zav y D ha;rw[Qa3 D,Zhn (uv y is) C];unfold clB;rw[Qay h1,Qay F,Qay h2,Qay G]
 ·have q:y∉xR:=fun z=>ha ((Zd8 y hs).mpr z)
  show _=bt (if y∈Z5 then _ else _) k;rw[Qay (Gq y hs),Zep hs q,Zme ρ hs q I,xP _ _ _ C]
def Zaw(ys:Ai)(B:Nat)(w:V):Prop:=vK ys B w\/∃y,w=.str y/\y∈Z5/\y∉ys
theorem Zhp(W:Nat)(ρ:Str->Int)(q:A2)(k:Nat):(qo W ρ q k).length=(q.filter Zau).length:=by
 induction q with
 |nil=>rfl
 |cons w r C=>
  show(qo W ρ r k++_).length=_;rw[Qak,C,Qc5];split<;>rfl
theorem Zes{ys:Ai}{B W k pl:Nat}{ρ:Str->Int}(hk:k<W)(O:pl=k\/(B<=pl/\B<=k))(G:∀y∈ys,y∉ZJ)(kp:Ak):∀I:A2,(∀w∈I,Zaw ys B w)->Jd I->(∃r,kp=qo W ρ I k++r)->Zeo ys (fun y=>bt (ρ y) k) pl kp I=((J2 W ρ I).map (fun x=>bt x k),qo W ρ I (k+1))
 |[],_,_,_=>rfl
 |w::r,hw,he,hkp=>by
  obtain⟨r0,Z⟩:=hkp;have ih:=Zes (ρ:=ρ) hk O G kp r (fun w h=>hw w (Qal _ h)) he.2 ⟨_,by rw[Z];show(_++_)++_=_;rw[Qcg]⟩;have L:=uw W ρ r;have htk:((J2 W ρ r).take (npw w)).length=npw w:=by rw[Qa2,L];exact Qex he.1
  have ml:=Zhp W ρ r;have F:∀y,w=.str y->y∉ys->(y∈Z5\/(y∈Gi/\npw w=Yp y))->Zeo ys (fun y=>bt (ρ y) k) pl kp (w::r)=((J2 W ρ (w::r)).map (fun x=>bt x k),qo W ρ (w::r) (k+1)):=by
   rintro y rfl C D;have Y:y∈Z5\/(y∈Gi/\((J2 W ρ r).take (npw (.str y))).length=Yp y):=by rw[htk];exact D
   by_cases ha:y∈allR
   ·have q:Zau (.str y)=true:=Qan ha;have hg:kp.getD (qo W ρ r (k+1)).length 0=Zat y ((J2 W ρ r).take (npw (.str y))) k:=by
     have e:qo W ρ (.str y::r) k=qo W ρ r k++[Zat y ((J2 W ρ r).take (npw (.str y))) k]:=by
      show _++(if Zau (.str y)=true then _ else _)=_;rw[Qa3 q];rfl
     rw[Z,e,ml,<-ml k,Qcg,Qaf,Qa0 (Qaj _),Qe0];rfl
    show(if y∈allR then _ else _)=_;rw[Qa3 ha,ih];rw[hg,<-Qdm,Zho ρ hk ha Y,<-vV];refine Qhv ?_ ?_
    ·show _::_=bt _ k::((J2 W ρ r).drop (npw (.str y))).map _;rw[Qdv]
    ·show _=_++(if Zau (.str y)=true then _ else _);rw[Qa3 q];rfl
   ·have q:¬Zau (.str y)=true:=fun z=>ha (Qbg z)
    show(if y∈allR then _ else if y∈ys then _ else _)=_;rw[Qay ha,Qay C,ih];rw[<-Qdm,Zer ρ hk ha Y];refine Qhv ?_ ?_
    ·show _::_=bt _ k::((J2 W ρ r).drop (npw (.str y))).map _;rw[Qdv]
    ·show _=_++(if Zau (.str y)=true then _ else _);rw[Qay q,Qby]
  rcases hw w Qai with(⟨y,rfl,D,C,J⟩|⟨y,rfl,D,hnr,J⟩|⟨z,rfl,z0,z1,J⟩)|⟨y,rfl,D,C⟩
  ·exact F y rfl C (.inr ⟨D,J⟩)
  ·have M:y∉allR:=fun z=>G y D (um y z)
   have hnc:y∉Z5:=fun z=>G y D (YU y z);have q:¬Zau (.str y)=true:=fun z=>M (Qbg z);show(if y∈allR then _ else if y∈ys then _ else _)=_;rw[Qay M,Qa3 D,ih];refine Qhv ?_ ?_
   ·show _::_=bt (if y∈Z5 then _ else _) k::((J2 W ρ r).drop (npw (.str y))).map _;rw[Qay hnc,xP _ _ _ hk,J,List.take_zero,Qen,Qen];rfl
   ·show _=_++(if Zau (.str y)=true then _ else _);rw[Qay q,Qby]
  ·show(bt z pl::(Zeo ys (fun y=>bt (ρ y) k) pl kp r).1.drop (npw (.int z)),(Zeo ys (fun y=>bt (ρ y) k) pl kp r).2)=_;rw[ih];have ez:bt z pl=bt z k:=by
    rcases O with h|⟨h1,h2⟩
    ·rw[h]
    ·rw[Zjm z0 z1 h1,Zjm z0 z1 h2]
   refine Qhv ?_ ?_
   ·show bt z pl::_=bt (wwv ρ (.int z) ((J2 W ρ r).take (npw (.int z)))%2^W) k::((J2 W ρ r).drop (npw (.int z))).map _;rw[xP _ _ _ hk,J,Qen,Qen,ez];rfl
   ·show _=_++(if Zau (.int z)=true then _ else _);rw[Qay (fun z=>nomatch z),Qby]
  ·exact F y rfl C (.inl D)
theorem jH{ys:Ai}{ν q:Str->Int}{pl:Nat}{kp:Ak}(h:∀y∈ys,ν y=q y):∀C:A2,Zeo ys ν pl kp C=Zeo ys q pl kp C
 |[]=>rfl
 |w::r=>by
  have F:=jH (pl:=pl) (kp:=kp) h r;unfold Zeo;rw[F];cases w with
  |str y=>
   by_cases D:y∈allR
   ·simp only[Qa3 D]
   ·grind
  |_=>rfl
theorem ux{W:Nat}{ρ:Str->Int}{k:Nat}:∀{q:A2},∀x∈qo W ρ q k,x=0\/x=1
 |w::r,x,h=>by
  rcases Qbo.mp h with h|h
  ·exact ux x h
  ·split at h
   ·rw[Qaw.mp h];exact Zmq _ _ _
   ·cases h
def Zmr(W:Nat)(ρ:Str->Int)(q:A2)(k i:Nat):(qo W ρ q k).getD i 0=0\/(qo W ρ q k).getD i 0=1:=by
 rw[Qaf];cases e:(qo W ρ q k)[i]? with
 |none=>exact .inl rfl
 |some x=>exact ux x (Qar e)
theorem vY(W:Nat)(ρ:Str->Int):∀q:A2,qo W ρ q 0=List.replicate (q.filter Zau).length 0
 |[]=>rfl
 |w::r=>by
  show qo W ρ r 0++_=_;rw[vY W ρ r,Qc5];split
  ·rw[Zen,Qa9,Qfa]
  ·rw[Qby]
theorem vZ{ys:Ai}{B:Nat}:∀{q:A2},(∀w∈q,Zaw ys B w)->Y7 q=(q.filter Zau).length
 |[],_=>rfl
 |w::r,h=>by
  rw[vS,vZ (fun v C=>h v (Qal _ C)),Qc5];have e:inV w (allR.map V.str)=Zau w:=by
   rcases h w Qai with(⟨y,rfl,_⟩|⟨y,rfl,_⟩|⟨z,rfl,_⟩)|⟨y,rfl,_⟩
   ·exact ZC _ _
   ·exact ZC _ _
   ·exact wu z _
   ·exact ZC _ _
  rw[e];split<;>rfl
def zd{ls:Aj}{W k c:Nat}(q:N.Nodup)(Y:∀y∈N,y∉ZJ)(hw:∀w∈r,Zaw N 10 w)(Z:Jd r)(L:k<W)(I:ls[k]?=some c)(C:c<2^N.length):
  (Znn N (Y8 (2^N.length) N) r (min (k:Int) (lgB r:Int),qo W (vT ls N) r k)).1.map (fun x=>bt x c)=(J2 W (vT ls N) r).map (fun x=>bt x k)/\(Znn N (Y8 (2^N.length) N) r (min (k:Int) (lgB r:Int),qo W (vT ls N) r k)).2.map (fun x=>bt x c)=qo W (vT ls N) r (k+1):=by
 have F:∀w∈r,Zaw N (lgB r) w:=fun w h=>by
  rcases hw w h with(z|z|⟨z,rfl,G,_,O⟩)|z
  ·exact .inl (.inl z)
  ·exact .inl (.inr (.inl z))
  ·exact .inl (.inr (.inr ⟨z,rfl,G,lgB_lt h G,O⟩))
  ·exact .inr z
 obtain⟨e1,e2⟩:=vX (ys:=N) (cols:=Y8 (2^N.length) N) (pl:=(min (k:Int) (lgB r:Int)).toNat) (Zmr W (vT ls N) r k) c r;have D:∀y∈N,bt (Y8 (2^N.length) N y) c=bt (vT ls N y) k:=fun y M=>by
  obtain⟨i,hi⟩:=Qcl.mp M;rw[Zhi q hi C,Zmm q hi I]
 have e3:=jH (pl:=(min (k:Int) (lgB r:Int)).toNat) (kp:=qo W (vT ls N) r k) D r;have J:=Zes (ρ:=vT ls N) (pl:=(min (k:Int) (lgB r:Int)).toNat) L (by lia:(min (k:Int) (lgB r:Int)).toNat=k\/(lgB r<=(min (k:Int) (lgB r:Int)).toNat/\lgB r<=k)) Y (qo W (vT ls N) r k) r F Z ⟨[],(Qby _).symm⟩;rw[e3,J]at e1 e2;exact⟨e1,e2⟩
theorem Zet{C:A2}{ls:Aj}{W:Nat}{o:Int}{o0 o1:V}{l:List (Int×Ak)}(G:N.Nodup)(Y:∀y∈N,y∉ZJ)(hw:∀w∈C,Zaw N 10 w)(he:Jd C)(hW:W<=ls.length)(O:∀x∈ls,x<2^N.length)(ho:J2 W (vT (ls.take W) N) C=[o])
  (B:BfE (nxT N (Y8 (2^N.length) N) C (lgB C)) (0,List.replicate (Y7 C) 0) l):
  ∀k,k<W->(rnO (rnG (nxT N (Y8 (2^N.length) N) C (lgB C)) l) (l.map (otT N (Y8 (2^N.length) N) C o0 o1)) 0 ls)[k]?=some (if bt o k=1 then o1 else o0):=by
 have cl:∀s∈l,∀x∈nxT N (Y8 (2^N.length) N) C (lgB C) s,x∈l:=fun s hs x hx=>B.next hs hx;generalize hρ:vT (ls.take W) N=ρ at *;have e0:((0:Int),List.replicate (Y7 C) (0:Int))=(min ((0:Nat):Int) (lgB C:Int),qo W ρ C 0):=by
  rw[vY,vZ hw,show min ((0:Nat):Int) (lgB C:Int)=0 by lia]
 have at_:∀k,k<W->∃c,ls[k]?=some c/\(ls.take W)[k]?=some c/\c<2^N.length:=fun k Y=>by
  have h1:ls[k]?=some ls[k]:=Qac (by lia);exact⟨_,h1,by grind,O _ (Qar h1)⟩
 have step:∀k,k<=W->stN (rnG (nxT N (Y8 (2^N.length) N) C (lgB C)) l) 0 (ls.take k)=ixG l (min (k:Int) (lgB C:Int),qo W ρ C k)/\(min (k:Int) (lgB C:Int),qo W ρ C k)∈l:=by
  intro k
  induction k with
  |zero=>
   intro _;rw[<-e0];exact⟨B.zero.symm,B.begin.2⟩
  |succ k L=>
   intro hk1;obtain⟨i1,i2⟩:=L (by lia);obtain⟨c,M,F,D⟩:=at_ k (by lia);obtain⟨_,e2⟩:=zd G Y hw he (show k<W by lia) F D;rw[hρ]at e2;have Z:(nxT N (Y8 (2^N.length) N) C (lgB C) (min (k:Int) (lgB C:Int),qo W ρ C k))[c]?=some (min ((k+1:Nat):Int) (lgB C:Int),qo W ρ C (k+1)):=by
    unfold nxT;rw[qT D,e2];congr 2;lia
   refine⟨?_,B.next i2 (Qar Z)⟩;rw[take_snoc M,qW,i1,Zjr cl i2,Qaf,Qah,Z];rfl
 intro k I;obtain⟨i1,i2⟩:=step k (by lia);obtain⟨c,M,F,D⟩:=at_ k I;obtain⟨e1,_⟩:=zd G Y hw he I F D;rw[hρ]at e1;have J:k<ls.length:=by lia
 have ek:ls=ls.take k++c::ls.drop (k+1):=by
  rw[show c::ls.drop (k+1)=ls.drop k by rw[Qc2 J];congr 1;exact(Qag.mp M).2.symm,Qc9]
 have go:∀(nx:Ad) (ot:Az) (s:Nat) (a:Aj) (c:Nat) (r:Aj),(rnO nx ot s (a++c::r))[a.length]?=some ((ot.getD (stN nx s a) []).getD c .non):=fun nx ot s a c r=>by
  induction a generalizing s with
  |nil=>rfl
  |cons d a L=>exact L _
 have g:=go (rnG (nxT N (Y8 (2^N.length) N) C (lgB C)) l) (l.map (otT N (Y8 (2^N.length) N) C o0 o1)) 0 (ls.take k) c (ls.drop (k+1));rw[<-ek,Qa2,Qex (by lia),i1,Zmn i2]at g;rw[g];congr 1;unfold otT;rw[Qaf,qT D];rw[ho]at e1;generalize (Znn N (Y8 (2^N.length) N) C (min (k:Int) (lgB C:Int),qo W ρ C k)).1=q at e1 ⊢;have hq:q.length=1:=by
  have:=congrArg List.length e1;rw[Qab]at this;exact this
 match q,hq,e1 with
 |[x],_,e1=>
  have e1:bt x c=bt o k:=by
   injection e1
  show(if bt x c=1 then o1 else o0)=_;rw[e1]
inductive TyR(ys:Ai):A2->List Bool->Prop
 |nil:TyR ys [] []
 |sum {w:V} {r:A2} {ks:Am}:vK ys 10 w->TyR ys r (List.replicate (npw w) false++ks)->TyR ys (w::r) (false::ks)
 |clm {y:Str} {r:A2} {ks:Am}:y∈Z5->y∉ys->TyR ys r (List.replicate (Gj (.str y)) false++(List.replicate (yo (.str y)) true++ks))->TyR ys (.str y::r) (true::ks)
def ze:∀y∈Z5,npw (.str y)=Gj (.str y)+yo (.str y):=by decide +kernel
theorem TyR.facts{ys:Ai}{C:A2}{ks:Am}(h:TyR ys C ks):(∀w∈C,Zaw ys 10 w)/\Jd C/\uc C=ks.length:=by
 induction h with
 |nil=>exact⟨(fun _ h=>nomatch h),trivial,rfl⟩
 | @sum w r ks hw _ F=>
  obtain⟨h1,h2,D⟩:=F;rw[Qak,Qa1]at D;refine⟨fun v q=>?_,⟨by lia,h2⟩,?_⟩
  ·rcases Qao.mp q with rfl|q
   ·exact .inl hw
   ·exact h1 v q
  ·show uc r-npw w+1=ks.length+1;lia
 | @clm y r ks G I _ F=>
  obtain⟨h1,h2,D⟩:=F;rw[Qak,Qak,Qa1,Qa1]at D;have e:=ze y G;refine⟨fun v q=>?_,⟨by lia,h2⟩,?_⟩
  ·rcases Qao.mp q with rfl|q
   ·exact .inr ⟨y,rfl,G,I⟩
   ·exact h1 v q
  ·show uc r-npw (.str y)+1=ks.length+1;lia
def RlV(W:Nat):Bool->V->Int->Prop
 |false,v,x=>v=.int x/\0<=x/\x<2^W
 |true,v,x=>v=.bl (decide (bt x (W-1)=1))
inductive RlS(W:Nat):Am->List V->List Int->Prop
 |nil:RlS W [] [] []
 |cons {b:Bool} {bs:Am} {v:V} {vs:A2} {x:Int} {xs:Ak}:RlV W b v x->RlS W bs vs xs->RlS W (b::bs) (v::vs) (x::xs)
theorem RlS.cut{W:Nat}{as:Am}:∀{vs:A2} {xs:Ak},RlS W (as++B) vs xs->RlS W as (vs.take as.length) (xs.take as.length)/\RlS W B (vs.drop as.length) (xs.drop as.length):=by
 induction as with
 |nil=>exact fun h=>⟨.nil,h⟩
 |cons a as D=>
  intro vs xs h;cases h with
  |cons h1 h2=>
   obtain⟨q,C⟩:=D h2;exact⟨.cons h1 q,C⟩
theorem RlS.ints{W:Nat}:∀{vs:A2} {xs:Ak},RlS W (List.replicate n false) vs xs->vs=xs.map V.int/\xs.length=n/\∀x∈xs,0<=x/\x<2^W:=by
 induction n with
 |zero=>
  intro vs xs h;cases h;exact⟨rfl,rfl,(fun _ h=>nomatch h)⟩
 |succ n F=>
  intro vs xs h;cases h with
  |cons h1 h2=>
   obtain⟨e1,e2,e3⟩:=F h2;obtain⟨rfl,D,C⟩:=h1;refine⟨by rw[e1];rfl,by rw[Qa9,e2],fun x q=>?_⟩;rcases Qao.mp q with rfl|q
   ·exact⟨D,C⟩
   ·exact e3 x q
theorem RlS.bls{W:Nat}:∀{vs:A2} {xs:Ak},RlS W (List.replicate n true) vs xs->vs=xs.map (fun x=>V.bl (decide (bt x (W-1)=1)))/\xs.length=n:=by
 induction n with
 |zero=>
  intro vs xs h;cases h;exact⟨rfl,rfl⟩
 |succ n q=>
  intro vs xs h;cases h with
  |cons h1 h2=>
   obtain⟨e1,e2⟩:=q h2;cases h1;exact⟨by rw[e1];rfl,by rw[Qa9,e2]⟩
def Zax{x:Int}{W:Nat}(q:0<=x)(h1:x<2^W):lo x W=x:=Qdb q h1
def Zeu{x:Int}{k:Nat}(q:0<=x)(h1:x<2^(k+1)):sgA x k=sgn (2^(k+1)) x:=by
 have e:=xQ x k;rw[Zax q h1]at e;have b:=zF x k;unfold sgA sgn;rcases YJ x k with a|a<;>skip
 ·lia
 ·lia
def GU:∀y∈Z5,0<Gj (.str y)->yo (.str y)=0/\((y = "same" /\ Gj (.str y)=2)\/(y = "under" /\ Gj (.str y)=2)\/(y = "beneath" /\ Gj (.str y)=2)\/(y = "sign" /\ Gj (.str y)=1)\/(y = "nought" /\ Gj (.str y)=1)):=by decide +kernel
def Zay:∀y∈Z5,¬0<Gj (.str y)->(y = "both" /\ yo (.str y)=2)\/(y = "either" /\ yo (.str y)=2)\/(y = "so" /\ yo (.str y)=2)\/(y = "never" /\ yo (.str y)=1)\/(y = "yes" /\ yo (.str y)=0):=by decide +kernel
def Zhq{W:Nat}(F:1<=W){y:Str}(D:y∈Z5)(hs:0<Gj (.str y)){xs:Ak}(C:xs.length=Gj (.str y))(q:∀x∈xs,0<=x/\x<2^W):zE (2^W) y xs=decide (clB y xs (W-1)=1):=by
 obtain⟨k,rfl⟩:∃k,W=k+1:=⟨W-1,by lia⟩;obtain⟨_,h⟩:=GU y D hs;rcases h with⟨rfl,e⟩|⟨rfl,e⟩|⟨rfl,e⟩|⟨rfl,e⟩|⟨rfl,e⟩<;>skip
 ·match xs,C with
  |[a,b],_=>
   have ha:=q a Qai;have q:=q b (Qal _ Qai);show decide (a=b)=decide (1-neA a b (k+1)=1);refine Qcv.mpr ?_;unfold neA;rw[Zax ha.1 ha.2,Zax q.1 q.2];split<;>lia
 ·match xs,C with
  |[a,b],_=>
   have ha:=q a Qai;have q:=q b (Qal _ Qai);show decide (a<b)=decide (brA a b (k+1)=1);refine Qcv.mpr ?_;unfold brA;rw[Zax ha.1 ha.2,Zax q.1 q.2];split<;>lia
 ·match xs,C with
  |[a,b],_=>
   have ha:=q a Qai;have q:=q b (Qal _ Qai);show decide (sgn (2^(k+1)) a<sgn (2^(k+1)) b)=decide (bnA a b k=1);refine Qcv.mpr ?_;unfold bnA;rw[Zeu ha.1 ha.2,Zeu q.1 q.2];split<;>lia
 ·match xs,C with
  |[a],_=>
   have ha:=q a Qai;show decide (sgn (2^(k+1)) a<0)=decide (bt a k=1);refine Qcv.mpr ?_;rw[<-Zeu ha.1 ha.2];have b:=zF a k;unfold sgA;rcases YJ a k with h|h<;>rw[h]<;>lia
 ·match xs,C with
  |[a],_=>
   have ha:=q a Qai;show decide (a=0)=decide (1-nzA a (k+1)=1);refine Qcv.mpr ?_;unfold nzA brA;rw[Zax ha.1 ha.2,show lo 0 (k+1)=0 from Int.zero_emod _];split<;>lia
def Zhr{k:Nat}{y:Str}(C:y∈Z5)(hs:¬0<Gj (.str y)){xs:Ak}(q:xs.length=yo (.str y)):Zpd y (xs.map fun x=>decide (bt x k=1))=decide (clB y xs k=1):=by
 rcases Zay y C hs with⟨rfl,e⟩|⟨rfl,e⟩|⟨rfl,e⟩|⟨rfl,e⟩|⟨rfl,e⟩<;>skip
 ·match xs,q with
  |[a,b],_=>
   show(decide (bt a k=1)&&decide (bt b k=1))=decide (bt a k*bt b k=1);rcases YJ a k with h|h<;>rcases YJ b k with g|g<;>rw[h,g]<;>rfl
 ·match xs,q with
  |[a,b],_=>
   show(decide (bt a k=1)||decide (bt b k=1))=decide (1-(1-bt a k)*(1-bt b k)=1);rcases YJ a k with h|h<;>rcases YJ b k with g|g<;>rw[h,g]<;>rfl
 ·match xs,q with
  |[a,b],_=>
   show(decide (bt b k=1) || !decide (bt a k=1))=decide (1-(1-(1-bt a k))*(1-bt b k)=1);rcases YJ a k with h|h<;>rcases YJ b k with g|g<;>rw[h,g]<;>rfl
 ·match xs,q with
  |[a],_=>
   show(!decide (bt a k=1))=decide (1-bt a k=1);rcases YJ a k with h|h<;>rw[h]<;>rfl
 ·match xs,q with
  |[],_=>rfl
theorem y6{ys:Ai}{W:Nat}(hW:1<=W)(O:∀y∈ys,y∉ZJ)(ρ:Str->Int){M:A2}{ks:Am}(h:TyR ys M ks):RlS W ks (We (2^W) ρ M []) (J2 W ρ M):=by
 have Y:(0:Int)<2^W:=Qez (by decide)
 induction h with
 |nil=>exact .nil
 | @sum w r ks hw _ G=>
  obtain⟨D,C⟩:=G.cut;rw[Qa1]at D C;obtain⟨e1,e2,_⟩:=D.ints;rw[Xd];have L:∀xs,cvV (2^W) ρ w xs=.int (wwv ρ w (xs.map iV)%2^W)/\∀is,rwR W ρ w is=wwv ρ w is%2^W:=by
   intro xs;have Z:∀y,w=.str y->y∉Z5->cvV (2^W) ρ w xs=.int (wwv ρ w (xs.map iV)%2^W)/\∀is,rwR W ρ w is=wwv ρ w is%2^W:=by
    rintro y rfl hc;exact⟨Qay hc,fun is=>Qay hc⟩
   rcases hw with⟨y,rfl,q,_⟩|⟨y,rfl,q,_⟩|⟨z,rfl,_⟩
   ·exact Z y rfl (Gq y q)
   ·exact Z y rfl fun z=>O y q (YU y z)
   ·exact⟨rfl,fun _=>rfl⟩
  refine .cons ?_ C;have J:((J2 W ρ r).take (npw w) |>.map V.int).map iV=(J2 W ρ r).take (npw w):=by
   rw[Qax];exact Qgb (fun _=>rfl) _
  refine⟨?_,?_⟩
  ·rw[(L _).1,e1,J,(L []).2]
  ·rw[(L []).2];exact⟨Qbz _ (Qfi Y),Qb0 _ Y⟩
 | @clm y r ks q hn _ G=>
  have F:=ze y q;rw[Xd]
  by_cases hs:0<Gj (.str y)
  ·have I:=(GU y q hs).1;rw[I,Qgi,Qhs]at G;obtain⟨D,C⟩:=G.cut;rw[Qa1]at D C;rw[I,Qgt]at F;rw[<-F]at D C;obtain⟨e1,e2,e3⟩:=D.ints;refine .cons ?_ C;have J:((J2 W ρ r).take (npw (.str y)) |>.map V.int).map iV=(J2 W ρ r).take (npw (.str y)):=by
    rw[Qax];exact Qgb (fun _=>rfl) _
   show(if y∈Z5 then _ else _)=V.bl (decide (bt (if y∈Z5 then _ else _) (W-1)=1));rw[Qa3 q,Qa3 q,Qa3 hs,e1,J,Zhq hW q hs (by rw[e2,F]) e3,Zhn (uv _ _) (by lia)]
  ·have I:Gj (.str y)=0:=by lia
   rw[I,Qgi,Qhs]at G;obtain⟨D,C⟩:=G.cut;rw[Qa1]at D C;rw[I,Qfg]at F;rw[<-F]at D C;obtain⟨e1,e2⟩:=D.bls;refine .cons ?_ C;have J:((J2 W ρ r).take (npw (.str y)) |>.map fun x=>V.bl (decide (bt x (W-1)=1))).map bV=((J2 W ρ r).take (npw (.str y))).map fun x=>decide (bt x (W-1)=1):=by
    rw[Qax];rfl
   show(if y∈Z5 then _ else _)=V.bl (decide (bt (if y∈Z5 then _ else _) (W-1)=1));rw[Qa3 q,Qa3 q,Qay hs,e1,J,Zhr q hs (by rw[e2,F]),Zhn (uv _ _) (by lia)]
def jI{ys:Ai}{W:Nat}(C:1<=W)(q:∀y∈ys,y∉ZJ)(ρ:Str->Int)(h:TyR ys r [true]):∃o,J2 W ρ r=[o]/\We (2^W) ρ r []=[.bl (decide (bt o (W-1)=1))]:=by
 have g:=y6 C q ρ h;generalize We (2^W) ρ r []=vs at g;generalize J2 W ρ r=xs at g;cases g with
 |cons h1 h2=>
  cases h2;cases h1;exact⟨_,rfl,rfl⟩
def TyR.tail{ys:Ai}{w:V}{ks:Am}(h:TyR ys (w::r) ks):∃q,TyR ys r q:=by
 cases h with
 |sum _ h=>exact⟨_,h⟩
 |clm _ _ h=>exact⟨_,h⟩
theorem TyR.drop{ys:Ai}:∀{C:A2} {ks:Am},TyR ys C ks->∀j,∃q,TyR ys (C.drop j) q
 |[],ks,h,j=>by
  rw[List.drop_nil];exact⟨_,h⟩
 |w::r,ks,h,0=>⟨_,h⟩
 |w::r,ks,h,j+1=>by
  obtain⟨_,h'⟩:=h.tail;exact TyR.drop h' j
theorem y7(m:Int)(ρ:Str->Int):∀q:A2,(We m ρ q []).length=uc q
 |[]=>rfl
 |w::r=>by
  rw[Xd,Qa9,Qbq,y7 m ρ r];rfl
def Zms{ys:Ai}{w:V}(hw:vK ys 10 w)(C:∀y∈ys,y∉ZJ)(m:Int)(ρ:Str->Int)(is:Ak):cvV m ρ w (is.map V.int)=.int (wwv ρ w is%m):=by
 have D:(is.map V.int).map iV=is:=by
  rw[Qax];exact Qgb (fun _=>rfl) _
 have F:∀y,w=.str y->y∉Z5->cvV m ρ w (is.map V.int)=.int (wwv ρ w is%m):=by
  rintro y rfl G;have:cvV m ρ (.str y) (is.map V.int)=.int (wwv ρ (.str y) ((is.map V.int).map iV)%m):=Qay G;rw[D]at this;exact this
 rcases hw with⟨y,rfl,q,_⟩|⟨y,rfl,q,_⟩|⟨z,rfl,_⟩
 ·exact F y rfl (Gq y q)
 ·exact F y rfl fun z=>C y q (YU y z)
 ·show V.int (wwv ρ (.int z) ((is.map V.int).map iV)%m)=_;rw[D]
def part_of{ys:Ai}{W:Nat}(L:1<=W)(C:∀y∈ys,y∉ZJ)(ρ:Str->Int){x:V}{ks:Am}(h:TyR ys (x::r) ks):
  (∃(is:Ak) (l:A2),vK ys 10 x/\We (2^W) ρ r []=is.map V.int++l/\is.length=npw x/\(∀z∈is,0<=z/\z<2^W)/\cvV (2^W) ρ x ((We (2^W) ρ r []).take (npw x))::(We (2^W) ρ r []).drop (npw x)=.int (wwv ρ x is%2^W)::l) \/
  (∃(y:Str) (is:Ak) (l:A2),x=.str y/\y∈Z5/\y∉ys/\0<Gj (.str y)/\We (2^W) ρ r []=is.map V.int++l/\is.length=Gj (.str y)/\(∀z∈is,0<=z/\z<2^W)/\cvV (2^W) ρ x ((We (2^W) ρ r []).take (npw x))::(We (2^W) ρ r []).drop (npw x)=.bl (zE (2^W) y is)::l) \/
  (∃(y:Str) (bs:Am) (l:A2),x=.str y/\y∈Z5/\y∉ys/\¬0<Gj (.str y)/\We (2^W) ρ r []=bs.map V.bl++l/\bs.length=yo (.str y)/\cvV (2^W) ρ x ((We (2^W) ρ r []).take (npw x))::(We (2^W) ρ r []).drop (npw x)=.bl (Zpd y bs)::l):=by
 cases h with
 | @sum _ _ ks hw h=>
  obtain⟨q,_⟩:=(y6 L C ρ h).cut;rw[Qa1]at q;obtain⟨e1,e2,e3⟩:=q.ints;refine .inl ⟨_,(We (2^W) ρ r []).drop (npw x),hw,?_,e2,e3,?_⟩
  ·rw[<-e1,Qc9]
  ·rw[e1,Zms hw C]
 | @clm y _ ks F J h=>
  have D:=ze y F;have g:=y6 L C ρ h
  by_cases hs:0<Gj (.str y)
  ·have G:=(GU y F hs).1;obtain⟨q,_⟩:=g.cut;rw[Qa1]at q;rw[G,Qgt]at D;rw[<-D]at q;obtain⟨e1,e2,e3⟩:=q.ints;refine .inr (.inl ⟨y,_,(We (2^W) ρ r []).drop (npw (.str y)),rfl,F,J,hs,?_,by rw[e2,D],e3,?_⟩)
   ·rw[<-e1,Qc9]
   ·rw[e1];have I:(((J2 W ρ r).take (npw (.str y))).map V.int).map iV=(J2 W ρ r).take (npw (.str y)):=by
     rw[Qax];exact Qgb (fun _=>rfl) _
    show(if y∈Z5 then _ else _)::_=_;rw[Qa3 F,Qa3 hs,I]
  ·have G:Gj (.str y)=0:=by lia
   rw[G,Qgi,Qhs]at g;obtain⟨q,_⟩:=g.cut;rw[Qa1]at q;rw[G,Qfg]at D;rw[<-D]at q;obtain⟨e1,e2⟩:=q.bls;have M:((J2 W ρ r).take (npw (.str y))).map (fun x=>V.bl (decide (bt x (W-1)=1)))=(((J2 W ρ r).take (npw (.str y))).map fun x=>decide (bt x (W-1)=1)).map V.bl:=by
    rw[Qax];rfl
   rw[M]at e1;refine .inr (.inr ⟨y,((J2 W ρ r).take (npw (.str y))).map (fun x=>decide (bt x (W-1)=1)),(We (2^W) ρ r []).drop (npw (.str y)),rfl,F,J,hs,?_,by rw[Qab,e2,D],?_⟩)
   ·rw[<-e1,Qc9]
   ·rw[e1];have I:∀bs:Am,(bs.map V.bl).map bV=bs:=fun bs=>by
     rw[Qax];exact Qgb (fun _=>rfl) _
    show(if y∈Z5 then _ else _)::_=_;rw[Qa3 F,Qay hs,I]
def Znp{st:Aw}{v:V}{l:A2}(h:H st=some (.lst (v::l).reverse)):H st=some (.lst (l.reverse++[v])):=by rw[h,Qcp]
structure WJ(nm:Ai)(ws:A2):Prop where
 n3:nm.length<=3
 nd:nm.Nodup
 kp:∀y∈nm,y∉ZJ
 ln:ws.length<=100
 ty:TyR nm ws [true]
 rm:Y7 ws<=15
abbrev otC(nm:Ai)(q:A2):Int×Ak->List V:=otT nm (Y8 (2^nm.length) nm) q (.bl false) (.bl true)
structure Zpg(nm:Ai)(ws:A2)(l:List (Int×Ak))(H:Hp)(m:Aw):Prop where
 b:BfE (nxS nm ws) (0,List.replicate (Y7 ws) 0) l
 m:M4 H m nm 0 (rnG (nxS nm ws) l) (l.map (otC nm ws))
def claimC:∀y∈Z5,(y∈allR/\1<=npw (.str y)/\(y∈Zmf->2<=npw (.str y)))\/(y∈Zd6/\y∉allR/\npw (.str y)=Zd4 y):=by decide +kernel
theorem WJ.wc(S:WJ N r):∀w∈r,yq N w:=fun w h=>by
 rcases S.ty.facts.1 w h with h|⟨y,rfl,D,C⟩
 ·exact uq S.kp h
 ·rcases claimC y D with⟨h1,h2,q⟩|⟨h1,h2,q⟩
  ·exact .inl ⟨y,rfl,h1,C,h2,q⟩
  ·exact .inr (.inl ⟨y,rfl,h1,h2,C,q⟩)
theorem WJ.iz(S:WJ N r):∀z:Int,V.int z∈r->0<=z/\z<2^10:=fun z h=>by
 rcases S.ty.facts.1 _ h with(⟨y,e,_⟩|⟨y,e,_⟩|⟨C,e,q,h1,_⟩)|⟨y,e,_⟩
 ·cases e
 ·cases e
 ·cases e;exact⟨q,h1⟩
 ·cases e
def WJ.big(S:WJ N r):(10+1)*2^Y7 r<=1000000:=by
 have:2^Y7 r<=2^15:=Qcr (by decide) S.rm;lia
def WJ.len{l:List (Int×Ak)}(S:WJ N r)(B:BfE (nxS N r) (0,List.replicate (Y7 r) 0) l):l.length<=1000000:=by
 have h:=Zeh (nx:=nxS N r) (b:=((0:Int),List.replicate (Y7 r) (0:Int))) (U:=uni (Y7 r) (lgB r+1)) (XS.mpr ⟨0,by lia,rfl,YK.mpr ⟨Qa1,fun x q=>.inl (Qec q)⟩⟩) (fun s hs=>qV S.wc rfl hs) l.length;rw[<-B.e,y1]at h;have h2:lgB r<=10:=uk S.iz;have C:=S.big;exact Qbc h (Qbc (Qe9 _ (by lia)) C)
def Zpg.wf{D:A2}{l:List (Int×Ak)}{m:Aw}(S:WJ N D)(M:Zpg N D l H m):Wf N 0 (rnG (nxS N D) l) (l.map (otC N D)) true:=by
 obtain⟨F,G⟩:=Zmp M.b (n:=2^N.length) (Zem _ _ _ _);have hpos:0<l.length:=Qeo M.b.begin.2;have ho:∀r∈l.map (otC N D),∀v∈r,v=.bl false\/v=.bl true:=fun r q v C=>by
  obtain⟨s,_,rfl⟩:=Qau.mp q;obtain⟨c,_,rfl⟩:=Qau.mp C;split
  ·exact .inr rfl
  ·exact .inl rfl
 refine⟨S.n3,by rw[xY];exact hpos,by rw[xY];exact S.len M.b,by rw[xY,Qab],F,G,fun r q=>?_,fun r q v C=>?_,fun r q v C=>?_⟩
 ·obtain⟨s,_,rfl⟩:=Qau.mp q;exact Zmo _ _ _ _ _ _
 ·rcases ho r q v C with e|e<;>rw[e]<;>exact .inl ⟨rfl,_,rfl⟩
 ·rcases ho r q v C with e|e<;>rw[e]
  ·exact .inl rfl
  ·exact .inr rfl
def Zev{l:List (Int×Ak)}{m:Aw}{ls:Aj}{W:Nat}(S:WJ N r)(M:Zpg N r l H m)(D:1<=W)(q:W<=ls.length)(C:∀x∈ls,x<2^N.length):
  ∃b:Bool,We (2^W) (vT (ls.take W) N) r []=[.bl b]/\(rnO (rnG (nxS N r) l) (l.map (otC N r)) 0 ls)[W-1]?=some (.bl b):=by
 obtain⟨o,e1,e2⟩:=jI D S.kp (vT (ls.take W) N) S.ty;refine⟨_,e2,?_⟩;have f:=S.ty.facts;have h:=Zet (o0:=.bl false) (o1:=.bl true) S.nd S.kp f.1 f.2.1 q C e1 M.b (W-1) (by lia);rw[h];rcases YJ o (W-1)with z|z<;>rw[z]<;>rfl
def wwv_cg{y:Str}{is:Ak}(h:y∈Gi)(q:is.length=Yp y)(ρ C:Str->Int):wwv ρ (.str y) is=wwv C (.str y) is:=by
 have D:1<=Yp y:=(by decide +kernel:∀y∈Gi,1<=Yp y) y h
 match is,q with
 |[],q=>rw[<-q]at D;cases D
 |[a],_=>rfl
 |[a,b],_=>rfl
 |a::b::c::_,_=>rfl
def abc:Nat->Str
 |0=> "a"
 |1=> "b"
 |_=> "c"
def Zmt:∀i j,i<3->j<3->abc i=abc j->i=j:=by
 intro i j hi q;have h:∀i∈[0,1,2],∀j∈[0,1,2],abc i=abc j->i=j:=by decide +kernel
 exact h i (by grind) j (by grind)
structure VOk(kvs:A0)(n:Nat)(v:Nat->V):Prop where
 yes:∀j,j<n->Yi kvs (.inr (abc j))=some (v j)
 no:∀y,(∀j,j<n->y≠abc j)->Yi kvs (.inr y)=none
def VOk.put{kvs:A0}{v:Nat->V}(h:VOk kvs n v)(C:n<3):VOk (putK kvs (.inr (abc n)) (v n)) (n+1) v:=by
 refine⟨fun j D=>?_,fun y q=>?_⟩
 ·rw[qL]
  by_cases e:j=n
  ·rw[Qa3 (by rw[e]),e]
  ·rw[Qay (fun z=>e (Zmt j n (by lia) C (Sum.inr.inj z)))];exact h.yes j (by lia)
 ·rw[qL,Qay (fun z=>q n (by lia) (Sum.inr.inj z))];exact h.no y fun j D=>q j (by lia)
def Zaz(q:List (Ak))(cs:Aj):Prop:=∀(i j:Nat) (a b:Ak),q[i]?=some a->q[j]?=some b->cs[i]?=cs[j]?->a=b
def Zfx(nx:Ad)(q:List (Ak)):Nat->List Nat
 |0=>Wj q
 |i+1=>Wj (qU nx (Zfx nx q i))
theorem Zhs{nx:Ad}{q:List (Ak)}{j:Nat}(h:Wj (qU nx (Zfx nx q i))=Zfx nx q i)(D:i<=j):Zfx nx q j=Zfx nx q i:=by
 obtain⟨d,rfl⟩:∃d,j=i+d:=⟨j-i,by lia⟩
 induction d with
 |zero=>rfl
 |succ d C=>
  show Wj (qU nx (Zfx nx q (i+d)))=_;rw[C (by lia),h]
def zf:Ak->Nat->List Nat->List Nat
 |[],_,acc=>acc
 |c::r,i,acc=>zf r (i+1) (if c=(acc.length:Int)then acc++[i]else acc)
structure Canon(R:Ad):Prop where
 ord:∀(r p t:Nat) (row:Aj),R[r]?=some row->row[p]?=some t->∀t',t'<t->t'=0\/(∃r' row',r'<r/\R[r']?=some row'/\t'∈row')\/t'∈row.take p
 reach:∀t,0<t->t<R.length->∃r row,r<t/\R[r]?=some row/\t∈row
 lt:∀row∈R,∀s∈row,s<R.length
theorem zg{nx:Ad}{b x:Nat}:∀i,x∈JK nx b i↔x=b\/∃j,j<i/\x∈nx.getD ((JK nx b j).getD j 0) []
 |0=>by
  constructor
  ·exact fun h=>.inl (Qaw.mp h)
  ·rintro(h|⟨j,q,_⟩)
   ·exact Qaw.mpr h
   ·exact absurd q (Qea _)
 |i+1=>by
  show x∈Zhf nx (JK nx b i) i↔_;unfold Zhf;rw[yx,zg i];constructor
  ·grind
  ·grind
def rnR(nx:Ad)(l:Aj):Ad:=l.map fun s=>(nx.getD s []).map fun x=>l.idxOf x
def rnQ(ot:Az)(l:Aj):Az:=l.map fun s=>ot.getD s []
def JJ(nx:Ad)(l:Aj):(rnR nx l).length=l.length:=Qab ..
def jE.nodup{nx:Ad}{b:Nat}{l:Aj}(B:jE nx b l):l.Nodup:=by
 rw[B.e];exact xV nx b _
def jE.at{nx:Ad}{b:Nat}{l:Aj}(B:jE nx b l){j:Nat}(q:j<l.length):l[j]?=some ((JK nx b j).getD j 0):=by
 have:=bfs_at (nx:=nx) (b:=b) (i:=l.length) q (B.go j q);rw[<-B.e]at this;exact this
def jE.next{nx:Ad}{b:Nat}{l:Aj}(B:jE nx b l){s x:Nat}(hi:l[i]?=some s)(C:x∈nx.getD s []):x∈l:=by
 have q:=(Qag.mp hi).1;rw[B.at q]at hi;rw[B.e,zg];refine .inr ⟨i,q,?_⟩;rw[Option.some.inj hi];exact C
def jE.zero{nx:Ad}{b:Nat}{l:Aj}(B:jE nx b l):l[0]?=some b:=by
 have:b∈l:=by rw[B.e,zg];exact .inl rfl
 exact B.at (Qeo this)
def jE.pre{nx:Ad}{b:Nat}{l:Aj}(B:jE nx b l){j:Nat}(q:j<=l.length):∃r,l=JK nx b j++r:=by
 obtain⟨r,e⟩:=wz nx b j (l.length-j);rw[show j+(l.length-j)=l.length by lia,<-B.e]at e;exact⟨r,e⟩
def at_idx{l:Aj}{x:Nat}(h:x∈l):l[l.idxOf x]?=some x:=by grind
def y8{nx:Ad}{b:Nat}{l:Aj}(B:jE nx b l):Canon (rnR nx l):=by
 have Y:=B.nodup;have C:∀{r:Nat} {row:Aj},(rnR nx l)[r]?=some row->∃s,l[r]?=some s/\row=(nx.getD s []).map fun x=>l.idxOf x:=fun{r row} h=>by
  unfold rnR at h;rw[Qah]at h;obtain⟨s,hs,e⟩:=Qa4.mp h;exact⟨s,hs,e.symm⟩
 have inRow:∀{j:Nat} {x:Nat},j<l.length->x∈nx.getD ((JK nx b j).getD j 0) []->∃row,(rnR nx l)[j]?=some row/\l.idxOf x∈row:=fun{j x} hj M=>by
  refine⟨_,?_,Qb6 (f:=fun x=>l.idxOf x) M⟩;unfold rnR;rw[Qah,B.at hj];rfl
 refine⟨fun r p t row Z hp t' ht=>?_,fun t h1 h2=>?_,fun row I s hs=>?_⟩
 ·obtain⟨s,hs,rfl⟩:=C Z;have O:=(Qag.mp hs).1;rw[Qah]at hp;obtain⟨x,M,rfl⟩:=Qa4.mp hp;have es:(JK nx b r).getD r 0=s:=by
   have:=B.at O;rw[hs]at this;exact(Option.some.inj this).symm
  obtain⟨q,eq⟩:=B.pre (j:=r+1) O;have eb:JK nx b (r+1)=((nx.getD s []).drop (p+1)).foldl Y4 (Y4 (((nx.getD s []).take p).foldl Y4 (JK nx b r)) x):=by
   show Zhf nx (JK nx b r) r=_;unfold Zhf;rw[es];have:=Qc9 (p+1) (nx.getD s [])
   conv=>lhs;rw[<-this]
   rw[Qc8,take_snoc M,Qc8];rfl
  obtain⟨q2,e2⟩:=Jt ((nx.getD s []).drop (p+1)) (Y4 (((nx.getD s []).take p).foldl Y4 (JK nx b r)) x);rw[e2]at eb;rw[eb,Qcg]at eq;generalize hL:((nx.getD s []).take p).foldl Y4 (JK nx b r)=L at *;obtain⟨q3,e3⟩:=yf L x;have D:t'<L.length:=by
   have F:x∈Y4 L x:=X9.mpr (.inr rfl);have hlt:=Qbh F;have h3:=qP L x;have h4:l.idxOf x=(Y4 L x).idxOf x:=by rw[eq,GJ F]
   lia
  have hy:l[t']?=some L[t']:=by
   rw[eq,e3,Qcg,Qa8 D,Qac D]
  have J:L[t']∈L:=Qbs D;have G:=W0 Y hy;generalize L[t']=y at *;rw[<-hL]at J;rcases(yx _ _).mp J with h|h
  ·rcases(zg r).mp h with h|⟨j,hj,h⟩
   ·refine .inl ?_;rw[<-G,h];exact W0 Y B.zero
   ·grind
  ·refine .inr (.inr ?_);rw[<-Qdm,<-G];exact Qb6 (f:=fun x=>l.idxOf x) h
 ·rw[JJ]at h2;have hg:=B.go t h2;have ha:=B.at h2;have hm:(JK nx b t).getD t 0∈JK nx b t:=by
   rw[Qaf,Qac hg];exact Qbs hg
  have hi:=W0 Y ha;rcases(zg t).mp hm with h|⟨j,hj,h⟩
  ·rw[h,W0 Y B.zero]at hi;lia
  ·grind
 ·obtain⟨r,Z⟩:=Qcl.mp I;obtain⟨s',hs',rfl⟩:=C Z;obtain⟨x,M,rfl⟩:=Qau.mp hs;rw[JJ];exact Qbh (B.next hs' M)
structure Zew(cs fs:Aj):Prop where
 at_:∀c f:Nat,fs[c]?=some f->cs[f]?=some c/\∀j d:Nat,j<f->cs[j]?=some d->d<c
 lt:∀j d:Nat,cs[j]?=some d->d<fs.length
theorem uy{κ:Type}[DecidableEq κ](ks:List κ)(i d:Nat)(h:(Wj ks)[i]?=some d)(c:Nat)(hc:c<d):∃j,j<i/\(Wj ks)[j]?=some c:=by
 rw[qQ]at h;obtain⟨k,Z,rfl⟩:=Qa4.mp h;obtain⟨r,J⟩:=jw ks (i+1);have e1:Z1 (ks.take (i+1))=Y4 (Z1 (ks.take i)) k:=by rw[take_snoc Z,jv]
 rw[e1]at J;obtain⟨q,eq⟩:=yf (Z1 (ks.take i)) k;have C:k∈Y4 (Z1 (ks.take i)) k:=X9.mpr (.inr rfl);have M:=Qbh C;have h3:=qP (Z1 (ks.take i)) k;have h4:(Z1 ks).idxOf k=(Y4 (Z1 (ks.take i)) k).idxOf k:=by rw[J,GJ C]
 have F:c<(Z1 (ks.take i)).length:=by lia
 have Y:(Z1 ks)[c]?=some (Z1 (ks.take i))[c]:=by
  grind
 have O:(Z1 (ks.take i))[c]∈Z1 (ks.take i):=Qbs F;generalize (Z1 (ks.take i))[c]=y at *;obtain⟨j,D⟩:=Qcl.mp ((Yf _ y).mp O);rw[Qdt]at D;split at D
 ·rename_i I;refine⟨j,I,?_⟩;rw[qQ,D];obtain⟨G,L⟩:=Qag.mp Y;show some ((Z1 ks).idxOf y)=_;rw[<-L,List.Nodup.idxOf_getElem (Xu ks) c G]
 ·cases D
theorem Zmu(L:Wj S=S):∀(q pre acc:Aj),S=pre++q->(∀c f:Nat,acc[c]?=some f->pre[f]?=some c/\∀j d:Nat,j<f->pre[j]?=some d->d<c)->(∀j d:Nat,pre[j]?=some d->d<acc.length)->Zew S (zf (q.map fun c:Nat=>(c:Int)) pre.length acc):=by
 intro q
 induction q with
 |nil=>
  intro pre acc e h1 h2;rw[Qby]at e;subst e;exact⟨h1,h2⟩
 |cons x r M=>
  intro pre acc e h1 h2;have Y:S[pre.length]?=some x:=by
   rw[e,Qa0 (Qaj _),Qe0];rfl
  have hle:x<=acc.length:=by
   rcases Qgr acc.length x with h|h
   ·obtain⟨j,O,J⟩:=uy S pre.length x (by rw[L];exact Y) acc.length h;rw[L,e,Qa8 O]at J;have:=h2 j _ J;lia
   ·exact h
  have I:S=(pre++[x])++r:=by rw[e,Qcg];rfl
  have lft:∀{j d:Nat},pre[j]?=some d->(pre++[x])[j]?=some d:=fun{j d} h=>by
   rw[Qa8 (Qag.mp h).1];exact h
  have C:∀{α:Type} {l:List α} {y z:α} {j:Nat},(l++[y])[j]?=some z->l[j]?=some z\/(j=l.length/\z=y):=fun{α l y z j} h=>by
   grind
  have Z:(pre++[x]).length=pre.length+1:=Qak;show Zew S (zf (r.map fun c:Nat=>(c:Int)) (pre.length+1) (if(x:Int)=(acc.length:Int)then acc++[pre.length]else acc));rw[<-Z]
  by_cases F:x=acc.length
  ·rw[Qa3 (by rw[F])];refine M _ _ I (fun c f G=>?_) fun j d D=>?_
   ·rcases C G with G|⟨rfl,rfl⟩
    ·grind
    ·refine⟨by rw[Qa0 (Qaj _),Qe0,F];rfl,fun j d O D=>?_⟩;rcases C D with D|⟨rfl,rfl⟩
     ·exact h2 j d D
     ·lia
   ·grind
  ·rw[Qay (by lia)];refine M _ _ I (fun c f G=>?_) fun j d D=>?_
   ·grind
   ·grind
def YN(cs:Aj):Aj:=zf (cs.map fun c:Nat=>(c:Int)) 0 []
def qX(q:Wj S=S):Zew S (YN S):=Zmu q S [] [] rfl (fun c f h=>by cases h) fun j d h=>by cases h
theorem ke:∀(cs:Ak) (i:Nat) (acc:Aj),(zf cs i acc).length<=acc.length+cs.length
 |[],_,acc=>Qaj _
 |c::r,i,acc=>by
  have:=ke r (i+1) (if c=(acc.length:Int)then acc++[i]else acc);show(zf r (i+1) (if c=(acc.length:Int)then acc++[i]else acc)).length<=_;have h2:(if c=(acc.length:Int)then acc++[i]else acc).length<=acc.length+1:=by
   grind
  rw[Qa9];lia
def kf(cs:Aj):(YN cs).length<=cs.length:=by
 have:=ke (cs.map fun c:Nat=>(c:Int)) 0 [];unfold YN;simpa using this
def lsR(R:Ad)(cs:Aj):Ad:=(YN cs).map fun s=>(R.getD s []).map fun x=>cs.getD x 0
def lsO(O:Az)(cs:Aj):Az:=(YN cs).map fun s=>O.getD s []
structure Zfy(R:Ad)(cs:Aj):Prop where
 len:cs.length=R.length
 st:Wj (qU R cs)=cs
def Zfy.nn{cs:Aj}(S:Zfy R cs):Wj cs=cs:=by
 have:=x6 (qU R cs);rw[S.st]at this;exact this
def Zfy.row{cs:Aj}(S:Zfy R cs){j c:Nat}(hi:cs[i]?=some c)(q:cs[j]?=some c):(R.getD i []).map (fun x=>cs.getD x 0)=(R.getD j []).map fun x=>cs.getD x 0:=by
 have C:=(Qag.mp hi).1;have D:=(Qag.mp q).1;have G:=Gm hi (Qac (l:=R) (i:=i) (by rw[<-S.len];exact C));have F:=Gm q (Qac (l:=R) (i:=j) (by rw[<-S.len];exact D));have:=congrArg Prod.snd ((yg G F).mp (by rw[S.st,hi,q]));have h2:=congrArg (List.map Int.toNat) this;simp only[Qax]at h2;rw[Qaf,Qaf,Qac (by rw[<-S.len];exact C),Qac (by rw[<-S.len];exact D)];exact h2
def wB{l:Aj}{x:Nat}(h:l[i]?=some x):l.getD i 0=x:=by grind
def at_getD{l:Aj}(h:i<l.length):l[i]?=some (l.getD i 0):=by grind
def Zht{cs:Aj}(C:Canon R)(S:Zfy R cs):Canon (lsR R cs):=by
 have F:=qX S.nn;have ll:(lsR R cs).length=(YN cs).length:=Qab ..;have D:∀{c:Nat} {row:Aj},(lsR R cs)[c]?=some row->∃f,(YN cs)[c]?=some f/\row=(R.getD f []).map fun x=>cs.getD x 0:=fun{c row} h=>by
  unfold lsR at h;rw[Qah]at h;obtain⟨s,hs,e⟩:=Qa4.mp h;exact⟨s,hs,e.symm⟩
 have cls:∀{j:Nat},j<R.length->∃c f,cs[j]?=some c/\(YN cs)[c]?=some f/\(lsR R cs)[c]?=some ((R.getD j []).map fun x=>cs.getD x 0):=fun{j} hj=>by
  obtain⟨c,I⟩:∃c,cs[j]?=some c:=⟨_,Qac (by rw[S.len];exact hj)⟩;obtain⟨f,G⟩:∃f,(YN cs)[c]?=some f:=⟨_,Qac (F.lt j c I)⟩;refine⟨c,f,I,G,?_⟩;unfold lsR;rw[Qah,G];exact congrArg some (S.row (F.at_ c f G).1 I)
 have O:∀{f x:Nat},x∈R.getD f []->x<R.length:=fun{f x} h=>by
  rw[Qaf]at h;cases q:R[f]? with
  |none=>rw[q]at h;cases h
  |some row=>rw[q]at h;exact C.lt row (Qar q) x h
 have Y:∀{x:Nat},x<R.length->cs.getD x 0<(YN cs).length:=fun{x} h=>by
  exact F.lt x _ (at_getD (by rw[S.len];exact h))
 have z0:0<R.length->cs.getD 0 0=0:=fun h=>by
  obtain⟨c,f,I,G,_⟩:=cls h;obtain⟨f0,J⟩:∃f0,(YN cs)[0]?=some f0:=⟨_,Qac (by have:=F.lt 0 c I;lia)⟩;have h0:=F.at_ 0 f0 J
  by_cases e:f0=0
  ·rw[e]at h0;exact wB h0.1
  ·have:=h0.2 0 c (by lia) I;lia
 refine⟨fun c p t row hr hp t' ht=>?_,fun t h1 h2=>?_,fun row Z s hs=>?_⟩
 ·obtain⟨f,G,rfl⟩:=D hr;obtain⟨g1,g2⟩:=F.at_ c f G;have L:f<R.length:=by rw[<-S.len];exact(Qag.mp g1).1
  rw[Qah]at hp;obtain⟨x,hx,rfl⟩:=Qa4.mp hp;have hxR:=O (Qar hx);have htl:cs.getD x 0<(YN cs).length:=Y hxR;obtain⟨M,hf'⟩:∃M,(YN cs)[t']?=some M:=⟨_,Qac (by lia)⟩;obtain⟨k1,k2⟩:=F.at_ t' M hf';have hcx:cs[x]?=some (cs.getD x 0):=at_getD (by rw[S.len];exact hxR);have hfx:M<x:=by
   rcases Nat.lt_trichotomy M x with h|h|h
   ·exact h
   ·lia
   ·have:=k2 x _ h hcx;lia
  have erow:R[f]?=some (R.getD f []):=Zjo L;rcases C.ord f p x _ erow hx M hfx with h|⟨r',row',h3,h4,h5⟩|h
  ·grind
  ·grind
  ·refine .inr (.inr ?_);rw[<-Qdm];exact Qau.mpr ⟨M,h,wB k1⟩
 ·rw[ll]at h2;obtain⟨f,G⟩:∃f,(YN cs)[t]?=some f:=⟨_,Qac h2⟩;obtain⟨g1,g2⟩:=F.at_ t f G;have L:f<R.length:=by rw[<-S.len];exact(Qag.mp g1).1
  have J:0<f:=by
   grind
  obtain⟨r,row,h3,h4,h5⟩:=C.reach f J L;obtain⟨c',f2,q1,q2,q3⟩:=cls (j:=r) (by lia);refine⟨c',_,g2 r c' h3 q1,q3,?_⟩;rw[Qaf,h4];exact Qau.mpr ⟨f,h5,wB g1⟩
 ·obtain⟨c,I⟩:=Qcl.mp Z;obtain⟨f,G,rfl⟩:=D I;obtain⟨x,hx,rfl⟩:=Qau.mp hs;rw[ll];exact Y (O hx)
def JI.tups{H':Hp}{p:Aw}(R:JI H p Y)(e:∀b xs,H b=some (.tup xs)->H' b=some (.tup xs)):JI H' p Y:=by
 obtain⟨as,h1,h2,C⟩:=R;refine⟨as,e _ _ h1,h2,fun i r hi=>?_⟩;obtain⟨a,q,D⟩:=C i r hi;exact⟨a,q,e _ _ D⟩
def M4.tups{H H':Hp}{m:Aw}{nm:Ai}{b:Nat}{nx:Ad}{ot:Az}(M:M4 H m nm b nx ot)(e:∀b xs,H b=some (.tup xs)->H' b=some (.tup xs)):M4 H' m nm b nx ot:=by
 obtain⟨pn,ps,D,h1,h2,C,q⟩:=M.ex;exact⟨⟨pn,ps,D,e _ _ h1,e _ _ h2,C.tups e,q.tups e⟩⟩
def Zmv{o:HO}(C:hide J H a=none)(D:∀c∈J,upd (hide J H) a o c=none):Z8 H (XZ J H (upd (hide J H) a o))/\XZ J H (upd (hide J H) a o) a=some o:=by
 have m:a∉J:=fun m=>by
  have:=D a m;rw[Za]at this;cases this
 refine⟨fun b u e=>?_,by rw[Yl m];exact Za⟩
 by_cases q:b∈J
 ·rw[WT q];exact e
 ·rw[Z9 m]at C;rw[Yl q,Zk (Zm e C),Z9 q];exact e
def Zex(ot:Az):List (Ak):=ot.map fun r=>r.map fun v=>(vB v).getD 0
def Zmw{ot:Az}(h:∀r∈ot,∀v∈r,∃x,vB v=some x):ot.map (fun r=>r.map vB)=(Zex ot).map (fun k=>k.map some):=by
 unfold Zex;rw[Qax];refine Qbm fun r q=>?_;show _=(r.map fun v=>(vB v).getD 0).map some;rw[Qax];refine Qbm fun v C=>?_;obtain⟨x,e⟩:=h r q v C;show vB v=some ((vB v).getD 0);rw[e]
 rfl
def jE.lt{nx:Ad}{b:Nat}{l:Aj}(B:jE nx b l)(q:b<nx.length)(C:∀row∈nx,∀s∈row,s<nx.length){s:Nat}(h:s∈l):s<nx.length:=by
 rw[B.e]at h;exact Zed q C _ s h
def jE.len{nx:Ad}{b:Nat}{l:Aj}(B:jE nx b l)(q:b<nx.length)(C:∀row∈nx,∀s∈row,s<nx.length):l.length<=nx.length:=by
 have:=Zmi q C l.length;rw[<-B.e]at this;exact this
def Zo3{b:Nat}{nx:Ad}{ot:Az}{l:Aj}(W:Wf N b nx ot j)(B:jE nx b l):Wf N 0 (rnR nx l) (rnQ ot l) j:=by
 have D:∀s∈l,s<nx.length:=fun s h=>B.lt W.b W.nl h;have C:∀r∈rnQ ot l,r∈ot:=fun r h=>by
  obtain⟨s,hs,rfl⟩:=Qau.mp h;exact getD_mem (by rw[W.ol];exact D s hs)
 refine⟨W.n3,?_,?_,?_,fun r q=>?_,(y8 B).lt,fun r q=>W.or r (C r q),fun r q=>W.ok r (C r q),fun r q=>W.bit r (C r q)⟩
 ·rw[JJ];exact(Qag.mp B.zero).1
 ·rw[JJ];exact Qbc (B.len W.b W.nl) W.le
 ·rw[JJ];exact Qab ..
 ·obtain⟨s,hs,rfl⟩:=Qau.mp q;rw[Qab];exact W.nr _ (getD_mem (D s hs))
def wf_ls{cs:Aj}(W:Wf N 0 R Y j)(C:Canon R)(S:Zfy R cs):Wf N 0 (lsR R cs) (lsO Y cs) j:=by
 have F:=qX S.nn;have I:∀f∈YN cs,f<R.length:=fun f h=>by
  obtain⟨c,L⟩:=Qcl.mp h;rw[<-S.len];exact(Qag.mp (F.at_ c f L).1).1
 have D:∀r∈lsO Y cs,r∈Y:=fun r h=>by
  obtain⟨s,hs,rfl⟩:=Qau.mp h;exact getD_mem (by rw[W.ol];exact I s hs)
 have G:(lsR R cs).length=(YN cs).length:=Qab ..;refine⟨W.n3,?_,?_,?_,fun r q=>?_,(Zht C S).lt,fun r q=>W.or r (D r q),fun r q=>W.ok r (D r q),fun r q=>W.bit r (D r q)⟩
 ·rw[G];have J:cs[0]?=some (cs.getD 0 0):=at_getD (by rw[S.len];exact W.b);exact Qeq (Qbt _) (F.lt 0 _ J)
 ·rw[G];have:=kf cs;have h2:=W.le;rw[S.len]at this;lia
 ·rw[G];exact Qab ..
 ·obtain⟨s,hs,rfl⟩:=Qau.mp q;rw[Qab];exact W.nr _ (getD_mem (I s hs))
theorem Zmx{b:Nat}{nx:Ad}{ot:Az}(W:Wf N b nx ot j):ot.map (fun r=>r.map vB)=(Zex ot).map (fun k=>k.map some):=Zmw fun r q v C=>by
 rcases W.bit r q v C with h|h
 ·exact⟨_,h⟩
 ·exact⟨_,h⟩
def Zey(cs:Aj)(s:Nat):(cs.map fun c:Nat=>(c:Int)).getD s 0=((cs.getD s 0:Nat):Int):=by grind
structure AlR(nx nx':Ad)(ot ot':Az)(b b':Nat)(A:Nat->Nat->Prop):Prop where
 b:A b b'
 lt:∀s c,A s c->s<nx.length/\c<nx'.length
 fn:∀s c c':Nat,A s c->A s c'->c=c'
 out:∀s c,A s c->ot'.getD c []=ot.getD s []
 next:∀s c p x y:Nat,A s c->(nx.getD s [])[p]?=some x->(nx'.getD c [])[p]?=some y->A x y
def vB_inj{v C:V}(h:jD j v)(h':jD j C)(e:(vB v).getD 0=(vB C).getD 0):v=C:=by
 rcases h with⟨D,x,rfl⟩|⟨D,x,rfl⟩<;>rcases h' with⟨q,y,rfl⟩|⟨q,y,rfl⟩
 ·cases x<;>cases y
  ·rfl
  ·cases e
  ·cases e
  ·rfl
 ·rw[D]at q;cases q
 ·rw[D]at q;cases q
 ·have e:x=y:=e;rw[e]
theorem uz{D:Bool}:∀{r q:A2},(∀v∈r,jD D v)->(∀v∈q,jD D v)->r.map (fun v=>(vB v).getD 0)=q.map (fun v=>(vB v).getD 0)->r=q
 |[],[],_,_,_=>rfl
 |[],_::_,_,_,e=>by cases e
 |_::_,[],_,_,e=>by cases e
 |v::r,F::q,h,h',e=>by
  injection e with e1 e2;rw[vB_inj (h v Qai) (h' F Qai) e1,uz (fun v C=>h v (Qal _ C)) (fun v C=>h' v (Qal _ C)) e2]
def Al(l cs:Aj)(s c:Nat):Prop:=∃i:Nat,l[i]?=some s/\cs[i]?=some c
def al_ok{b:Nat}{nx:Ad}{ot:Az}{tr:Bool}{l cs:Aj}(W:Wf N b nx ot tr)(B:jE nx b l)(S:Zfy (rnR nx l) cs)(hc:Zaz (Zex (rnQ ot l)) cs):AlR nx (lsR (rnR nx l) cs) ot (lsO (rnQ ot l) cs) b 0 (Al l cs):=by
 have F:=qX S.nn;have O:=B.nodup;have q:cs.length=l.length:=by rw[S.len,JJ]
 have D:∀{s c:Nat},Al l cs s c->∃i f,l[i]?=some s/\cs[i]?=some c/\(YN cs)[c]?=some f/\cs[f]?=some c:=fun{s c} h=>by
  obtain⟨i,h1,h2⟩:=h;obtain⟨f,Z⟩:∃f,(YN cs)[c]?=some f:=⟨_,Qac (F.lt i c h2)⟩;exact⟨i,f,h1,h2,Z,(F.at_ c f Z).1⟩
 refine⟨⟨0,B.zero,?_⟩,fun s c h=>?_,fun s c c' h h'=>?_,fun s c h=>?_,fun s c p x y h hx hy=>?_⟩
 ·have h0:cs[0]?=some (cs.getD 0 0):=at_getD (by rw[q];exact(Qag.mp B.zero).1);rw[h0];rcases Qgu (cs.getD 0 0)with h|h
  ·rw[h]
  ·obtain⟨j,hj,_⟩:=uy cs 0 _ (by rw[S.nn];exact h0) 0 h;exact absurd hj (Qea _)
 ·obtain⟨i,f,h1,h2,G,_⟩:=D h;refine⟨B.lt W.b W.nl (Qar h1),?_⟩;show c<((YN cs).map _).length;rw[Qab];exact(Qag.mp G).1
 ·obtain⟨i,h1,h2⟩:=h;obtain⟨i',L,I⟩:=h';have e1:=W0 O h1;have e2:=W0 O L;rw[<-e1]at h2;rw[<-e2,h2]at I;exact Option.some.inj I
 ·obtain⟨i,f,h1,h2,G,J⟩:=D h;have M:f<l.length:=by rw[<-q];exact(Qag.mp J).1
  have g:∀{j s':Nat},l[j]?=some s'->(Zex (rnQ ot l))[j]?=some ((ot.getD s' []).map fun v=>(vB v).getD 0):=fun{j s'} e=>by
   unfold Zex rnQ;rw[Qax,Qah,e];rfl
  obtain⟨s',C⟩:∃s',l[f]?=some s':=⟨_,Qac M⟩;have e:=hc f i _ _ (g C) (g h1) (by rw[J,h2]);have kd:∀{s:Nat},s∈l->∀v∈ot.getD s [],jD tr v:=fun{s} h=>W.ok _ (getD_mem (by rw[W.ol];exact B.lt W.b W.nl h));have e2:=uz (kd (Qar C)) (kd (Qar h1)) e;unfold lsO rnQ;rw[Qaf,Qah,G];show(l.map fun s=>ot.getD s []).getD f []=_;rw[Qaf,Qah,C];exact e2
 ·obtain⟨i,f,h1,h2,G,J⟩:=D h;have er:(lsR (rnR nx l) cs).getD c []=((rnR nx l).getD f []).map fun x=>cs.getD x 0:=by
   unfold lsR;rw[Qaf,Qah,G];rfl
  have ei:(rnR nx l).getD i []=(nx.getD s []).map fun x=>l.idxOf x:=by
   unfold rnR;rw[Qaf,Qah,h1];rfl
  rw[er,S.row J h2,ei,Qax,Qah,hx]at hy;have Y:=B.next h1 (Qar hx);refine⟨l.idxOf x,at_idx Y,?_⟩;rw[<-hy];exact at_getD (by rw[q];exact Qbh Y)
section
variable {B:Nat->Nat->Prop}(fn:∀c d d',B c d->B c d'->d=d')(inj:∀c c' d,B c d->B c' d->c=c')
include fn inj
end
structure Bis(nx nx':Ad)(ot ot':Az)(b b':Nat)(A:Nat->Nat->Prop):Prop where
 b:A b b'
 lt:∀s c,A s c->s<nx.length/\c<nx'.length
 out:∀s c,A s c->ot'.getD c []=ot.getD s []
 next:∀s c p x y:Nat,A s c->(nx.getD s [])[p]?=some x->(nx'.getD c [])[p]?=some y->A x y
def AlR.bis{nx q:Ad}{ot:Az}{b:Nat}{A:Nat->Nat->Prop}(R:AlR nx q ot Y b i A):Bis nx q ot Y b i A:=⟨R.b,R.lt,R.out,R.next⟩
structure Lst(nm:Ai)(b:Nat)(nx:Ad)(ot:Az)(tr:Bool)(l cs:Aj):Prop where
 W:Wf nm b nx ot tr
 B:jE nx b l
 e:cs=Zfx (rnR nx l) (Zex (rnQ ot l)) l.length
 S:Zfy (rnR nx l) cs
 C:Zaz (Zex (rnQ ot l)) cs
def Lst.al{b:Nat}{nx:Ad}{ot:Az}{l cs:Aj}(L:Lst N b nx ot j l cs):AlR nx (lsR (rnR nx l) cs) ot (lsO (rnQ ot l) cs) b 0 (Al l cs):=al_ok L.W L.B L.S L.C
def Lst.W2{b:Nat}{nx:Ad}{ot:Az}{l cs:Aj}(L:Lst N b nx ot j l cs):Wf N 0 (lsR (rnR nx l) cs) (lsO (rnQ ot l) cs) j:=wf_ls (Zo3 L.W L.B) (y8 L.B) L.S
def Wf.row{b:Nat}{nx:Ad}{ot:Az}(W:Wf N b nx ot j){s:Nat}(h:s<nx.length):(nx.getD s []).length=2^N.length:=W.nr _ (getD_mem h)
theorem Zmy{nx:Ad}{b:Nat}{l:Aj}(B:BfE (fun s=>nx.getD s []) b l):jE nx b l:=by
 have e:∀i,i<=l.length->JK nx b i=bfN (fun s=>nx.getD s []) b i:=by
  intro i
  induction i with
  |zero=>exact fun _=>rfl
  |succ i q=>
   intro h;obtain⟨s,hs⟩:∃s,(bfN (fun s=>nx.getD s []) b i)[i]?=some s:=⟨_,Qac (B.go i (by lia))⟩;show Zhf nx (JK nx b i) i=_;rw[q (by lia),yy hs];unfold Zhf;have:(bfN (fun s=>nx.getD s []) b i).getD i 0=s:=by rw[Qaf,hs];rfl
   rw[this]
 exact⟨by rw[e _ (Qaj _)];exact B.e,fun i hi=>by rw[e i (by lia)];exact B.go i hi⟩
theorem Zjw{nx:Ad}{ot:Az}{n:Nat}(R:Runs nx ot n):∀{ls:Aj} {s:Nat},s<nx.length->(∀x∈ls,x<2^n)->stN nx s ls<nx.length
 |[],s,h,_=>h
 |c::ls,s,h,q=>by
  have G:=q c Qai;have F:=R.nr _ (getD_mem h);have D:(nx.getD s []).getD c 0∈nx.getD s []:=Qar (getD_at (by lia));exact Zjw (ls:=ls) R (R.nl _ (getD_mem h) _ D) fun x C=>q x (Qal _ C)
theorem Zez{nx q:Ad}{ot C:Az}{b Y n:Nat}{A:Nat->Nat->Prop}(M:Bis nx q ot C b Y A)(G:∀r∈nx,r.length=2^n)(D:∀r∈q,r.length=2^n):∀{ls:Aj} {s s':Nat},A s s'->(∀x∈ls,x<2^n)->rnO nx ot s ls=rnO q C s' ls
 |[],_,_,_,_=>rfl
 |c::ls,s,s',h,F=>by
  have Z:=F c Qai;obtain⟨J,L⟩:=M.lt s s' h;have l1:=G _ (getD_mem J);have l2:=D _ (getD_mem L);have O:=M.next s s' c _ _ h (getD_at (d:=0) (by lia)) (getD_at (d:=0) (by lia));show _::_=_::_;rw[M.out s s' h,Zez M G D O fun x I=>F x (Qal _ I)]
def Jv(n:Nat)(f:Nat->Nat):Nat:=((List.range n).map f).sum
def Y6(n:Nat)(f:Nat->Nat):Jv (n+1) f=Jv n f+f n:=by
 unfold Jv;rw[Qeb,Qaz,List.sum_append,List.map_singleton,List.sum_singleton]
def YV{f g:Nat->Nat}(h:∀i,i<n->f i=g i):Jv n f=Jv n g:=by
 unfold Jv;rw[Qbm fun i hi=>h i (Qbu.mp hi)]
theorem zh(n:Nat)(f g:Nat->Nat):Jv n (fun i=>f i+g i)=Jv n f+Jv n g:=by
 induction n with
 |zero=>rfl
 |succ n q=>rw[Y6,Y6,Y6,q];lia
theorem Ze0(n:Nat):Jv n (fun _=>0)=0:=by
 induction n with
 |zero=>rfl
 |succ n q=>rw[Y6,q]
theorem kg(n m:Nat)(f:Nat->Nat->Nat):Jv n (fun i=>Jv m (f i))=Jv m fun j=>Jv n fun i=>f i j:=by
 induction n with
 |zero=>exact(Ze0 m).symm
 |succ n q=>
  rw[Y6,q,<-zh];exact YV fun j _=>(Y6 n fun i=>f i j).symm
theorem uA(a b:Nat)(f:Nat->Nat):Jv (a+b) f=Jv a f+Jv b fun i=>f (a+i):=by
 induction b with
 |zero=>rfl
 |succ b q=>rw[<-Qfs,Y6,Y6,q,Qfs]
def SQ(n:Nat):Nat->(Aj->Nat)->Nat
 |0,g=>g []
 |W+1,g=>SQ n W fun ls=>Jv n fun l=>g (ls++[l])
theorem y9{n:Nat}:∀{W:Nat} {g h:Aj->Nat},(∀ls,ls.length=W->(∀x∈ls,x<n)->g ls=h ls)->SQ n W g=SQ n W h
 |0,g,h,e=>e [] rfl (fun _ z=>nomatch z)
 |W+1,g,h,e=>y9 (W:=W) fun ls h1 h2=>YV fun l C=>e (ls++[l]) (by rw[Qak,h1];rfl) fun x q=>by
   grind
def adB(m:Nat):Nat->List Nat->List Nat
 |_,[]=>[]
 |l,v::vs=>(v+l%2*m)::adB m (l/2) vs
theorem Ze1(m:Nat):∀(l:Nat) (vs:Aj),(adB m l vs).length=vs.length
 |_,[]=>rfl
 |l,_::vs=>congrArg Nat.succ (Ze1 m (l/2) vs)
theorem yA(m w:Nat):∀(l:Nat) (vs:Aj),adB m l (vs++[w])=adB m l vs++[w+l/2^vs.length%2*m]
 |l,[]=>by show[w+l%2*m]=[w+l/2^0%2*m];rw[Nat.pow_zero,Nat.div_one]
 |l,v::vs=>by
  show(v+l%2*m)::adB m (l/2) (vs++[w])=(v+l%2*m)::(adB m (l/2) vs++[w+l/2^(vs.length+1)%2*m]);rw[yA m w (l/2) vs,Nat.div_div_eq_div_mul,show 2*2^vs.length=2^(vs.length+1) by rw[Qfj,Qgp]]
theorem Ze2(m:Nat):∀(l c:Nat) (vs:Aj),adB m (l+2^vs.length*c) vs=adB m l vs
 |_,_,[]=>rfl
 |l,c,v::vs=>by
  have e:l+2^(vs.length+1)*c=l+2*(2^vs.length*c):=by grind
  show(v+(l+2^(vs.length+1)*c)%2*m)::adB m ((l+2^(vs.length+1)*c)/2) vs=(v+l%2*m)::adB m (l/2) vs;rw[e,show(l+2*(2^vs.length*c))%2=l%2 by lia,show(l+2*(2^vs.length*c))/2=l/2+2^vs.length*c by lia,Ze2 m (l/2) c vs]
theorem uB(m:Nat):∀(k:Nat) (g:Aj->Nat),SQ m k (fun vs=>Jv (2^k) fun l=>g (adB m l vs))=SQ (m+m) k g
 |0,g=>by show Jv (0+1) (fun l=>g (adB m l []))=g [];rw[Y6];exact Qfg _
 |k+1,g=>by
  have e:SQ m (k+1) (fun vs=>Jv (2^(k+1)) fun l=>g (adB m l vs))=SQ m k fun vs=>Jv (2^k) fun l=>Jv (m+m) fun w=>g (adB m l vs++[w]):=by
   show SQ m k (fun vs=>Jv m fun w=>Jv (2^(k+1)) fun l=>g (adB m l (vs++[w])))=_;refine y9 fun vs q _=>?_;have e1:∀w,(Jv (2^(k+1)) fun l=>g (adB m l (vs++[w])))=(Jv (2^k) fun l=>g (adB m l vs++[w]))+Jv (2^k) fun l=>g (adB m l vs++[m+w]):=fun w=>by
    rw[Qfj,Nat.mul_two,uA];congr 1
    ·refine YV fun l h=>?_
     rw[yA,q,Nat.div_eq_of_lt h,Nat.zero_mod,Qhr,Qgt]
    ·refine YV fun l h=>?_
     have h1:=Ze2 m l 1 vs;rw[Nat.mul_one,q]at h1;rw[yA,q,Qf1 (2^k) l,h1,Nat.add_div_right _ (Qhn k),Nat.div_eq_of_lt h,Qf1 m w];rw[Nat.one_mul]
   rw[YV fun w _=>e1 w,zh,kg,kg m (2^k) fun w l=>g (adB m l vs++[m+w]),<-zh];exact YV fun l _=>(uA m m _).symm
  rw[e];exact uB m k fun vs=>Jv (m+m) fun w=>g (vs++[w])
theorem Zjx:∀(k:Nat) (g:Aj->Nat),SQ 1 k g=g (List.replicate k 0)
 |0,_=>rfl
 |k+1,g=>by
  show SQ 1 k (fun ls=>Jv 1 fun l=>g (ls++[l]))=_;rw[Zjx k,Qfa,Y6];exact Qfg _
def trnA(k:Nat)(ls:Aj):Aj×Nat:=ls.foldl (fun p l=>(adB p.2 l p.1,p.2+p.2)) (List.replicate k 0,1)
def trn(k:Nat)(ls:Aj):Aj:=(trnA k ls).1
theorem Zhu(k:Nat)(ls:Aj):(trnA k ls).2=2^ls.length:=by
 have C:∀(ls:Aj) (p:Aj×Nat),(ls.foldl (fun p l=>(adB p.2 l p.1,p.2+p.2)) p).2=p.2*2^ls.length:=by
  intro ls
  induction ls with
  |nil=>intro p;exact(Nat.mul_one _).symm
  |cons l ls q=>
   intro p;rw[Qc1,q];show(p.2+p.2)*2^ls.length=p.2*2^(ls.length+1);rw[Qfj,<-Nat.mul_two,Nat.mul_assoc,Qgp 2]
 have:=C ls (List.replicate k 0,1);rw[Nat.one_mul]at this;exact this
def uC(k:Nat)(ls:Aj)(l:Nat):trn k (ls++[l])=adB (2^ls.length) l (trn k ls):=by
 unfold trn;rw[<-Zhu k ls];unfold trnA;rw[Qc8];rfl
theorem Zmz(k:Nat)(ls:Aj):(trn k ls).length=k:=by
 have C:∀(ls:Aj) (p:Aj×Nat),(ls.foldl (fun p l=>(adB p.2 l p.1,p.2+p.2)) p).1.length=p.1.length:=by
  intro ls
  induction ls with
  |nil=>intro p;rfl
  |cons l ls q=>
   intro p;rw[Qc1,q];exact Ze1 _ _ _
 have:=C ls (List.replicate k 0,1);rw[Qa1]at this;exact this
theorem Ze3:∀(k W:Nat) (g:Aj->Nat),SQ (2^k) W (fun ls=>g (trn k ls))=SQ (2^W) k g
 |k,0,g=>(Zjx k g).symm
 |k,W+1,g=>by
  have e:SQ (2^k) (W+1) (fun ls=>g (trn k ls))=SQ (2^k) W fun ls=>(fun vs=>Jv (2^k) fun l=>g (adB (2^W) l vs)) (trn k ls):=by
   refine y9 fun ls q _=>YV fun l _=>?_;show g (trn k (ls++[l]))=_;rw[uC,q]
  rw[e,Ze3 k W fun vs=>Jv (2^k) fun l=>g (adB (2^W) l vs),uB,Qfj,Nat.mul_two]
def chs(m:Nat):Nat->List (Aj)
 |0=>[[]]
 |k+1=>(chs m k).flatMap fun vs=>(List.range m).map fun w=>vs++[w]
theorem Ze4(m:Nat):∀(k:Nat) (g:Aj->Nat),((chs m k).map g).sum=SQ m k g
 |0,g=>by exact Qgt _
 |k+1,g=>by
  have q:∀l:Ad,((l.flatMap fun vs=>(List.range m).map fun w=>vs++[w]).map g).sum=(l.map fun vs=>Jv m fun w=>g (vs++[w])).sum:=by
   intro l
   induction l with
   |nil=>rfl
   |cons v l C=>
    rw[Qha,Qaz,List.sum_append,C,Qbx,List.sum_cons];congr 1;rw[Qax];rfl
  exact(q (chs m k)).trans (Ze4 m k _)
theorem Ze5(m k:Nat):(chs m k).length=m^k:=by
 induction k with
 |zero=>rfl
 |succ k q=>
  have C:∀l:Ad,(l.flatMap fun vs=>(List.range m).map fun w=>vs++[w]).length=l.length*m:=by
   intro l
   induction l with
   |nil=>exact(Qhr _).symm
   |cons v l q=>rw[Qha,Qak,q,Qab,Qbb,Qa9,Qgn,Qf1]
  show((chs m k).flatMap fun vs=>(List.range m).map fun w=>vs++[w]).length=_;rw[C,q,Qfj]
theorem Ze6{m k:Nat}{vs:Aj}(h:vs∈chs m k):vs.length=k/\∀x∈vs,x<m:=by
 induction k generalizing vs with
 |zero=>
  have:vs=[]:=Qaw.mp h;subst this;exact⟨rfl,fun _ z=>nomatch z⟩
 |succ k F=>
  obtain⟨G,h1,h2⟩:=List.mem_flatMap.mp h;obtain⟨w,I,rfl⟩:=Qau.mp h2;obtain⟨C,D⟩:=F h1;refine⟨by rw[Qak,C];rfl,fun x q=>?_⟩;rcases Qbo.mp q with z|z
  ·exact D x z
  ·grind
theorem Ze7:∀{n:Nat} {l:Aj},l.Nodup->(∀x∈l,x<n)->l.length<=n
 |0,[],_,_=>Qaj _
 |0,x::_,_,h=>absurd (h x Qai) (Qea _)
 |n+1,l,q,h=>by
  have h1:=Ze7 (n:=n) (l:=l.erase n) (q.erase _) fun x C=>by
   grind
  have h2:=List.length_erase (a:=n) (l:=l);split at h2<;>lia
theorem Zjy(m:Nat):∀(l:Nat) (vs:Aj) (j:Nat),j<vs.length->(adB m l vs).getD j 0=vs.getD j 0+l/2^j%2*m
 |l,v::vs,0,_=>by show v+l%2*m=v+l/2^0%2*m;rw[Nat.pow_zero,Nat.div_one]
 |l,v::vs,j+1,h=>by
  show(adB m (l/2) vs).getD j 0=vs.getD j 0+l/2^(j+1)%2*m;rw[Zjy m (l/2) vs j (Nat.lt_of_succ_lt_succ h),Nat.div_div_eq_div_mul,Qfj,Qgp 2]
theorem trn_at{k j:Nat}(F:j<k)(ls:Aj):(((trn k ls).getD j 0:Nat):Int)=sm (fun i=>bt ((ls.getD i 0:Nat):Int) j) ls.length:=by
 have C:∀q:Aj,(((trn k q.reverse).getD j 0:Nat):Int)=sm (fun i=>bt ((q.reverse.getD i 0:Nat):Int) j) q.reverse.length:=by
  intro q
  induction q with
  |nil=>
   show(((List.replicate k 0).getD j 0:Nat):Int)=0;rw[Qaf,List.getElem?_replicate];split<;>rfl
  |cons r q D=>
   rw[Qcp,uC,Zjy _ _ _ _ (by rw[Zmz];exact F),Int.natCast_add,D,Qak];show _=sm _ q.reverse.length+bt (((q.reverse++[r]).getD q.reverse.length 0:Nat):Int) j*2^q.reverse.length;congr 1
   ·exact uf fun i hi=>by grind
   ·rw[Qaf,Qa0 (Qaj _),Qe0];rfl
 have:=C ls.reverse
 rwa [List.reverse_reverse]at this
def kh(nm:Ai)(vs:Aj)(y:Str):Int:=((vs.getD (nm.idxOf y) 0:Nat):Int)
def Ze8{y:Str}(h:y∈N)(ls:Aj):vT ls N y=kh N (trn N.length ls) y:=(trn_at (Qbh h) ls).symm
def cv_cg{ys:Ai}{m:Int}{ρ q:Str->Int}(e:∀y∈ys,ρ y=q y){w:V}(hw:vK ys 10 w){xs:A2}(F:xs.length=npw w):cvV m ρ w xs=cvV m q w xs:=by
 have key:wwv ρ w (xs.map iV)=wwv q w (xs.map iV):=by
  rcases hw with⟨y,rfl,D,_,C⟩|⟨y,rfl,D,_,C⟩|⟨z,rfl,_,_,_⟩
  ·exact wwv_cg D (by rw[Qab,F,C]) ρ q
  ·rw[C]at F
   match xs,F with
   |[],_=>exact e y D
  ·rfl
 unfold cvV;split
 ·rw[key]
 ·rw[key]
theorem Ze9{ys:Ai}{m:Int}{ρ q:Str->Int}(e:∀y∈ys,ρ y=q y){C:A2}{ks:Am}(h:TyR ys C ks):We m ρ C []=We m q C []:=by
 induction h with
 |nil=>rfl
 | @sum w r ks hw G D=>
  rw[Xd,Xd,D,cv_cg e hw];have:=G.facts.2.2;rw[Qa2,y7,this,Qak,Qa1];lia
 | @clm y r ks F I _ D=>
  rw[Xd,Xd,D];congr 1;unfold cvV;try dsimp only
  rw[Qa3 F,Qa3 F]
def NmC(C:A2)(q:Ai):Prop:=q.Perm (XY ((C.filter nmB).map Zfu))/\PyProof.Rows.sortedS q=true
def Zph(q pl:Aw)(H H':Hp):Prop:=∀b o,H b=some o->b≠q->b≠pl->H' b=some o
def Tells(C:A2)(q:Ai)(nx:Ad)(ot:Az):Prop:=∀(W:Nat) (ls:Aj),1<=W->ls.length=W->(∀x∈ls,x<2^q.length)->∃b:Bool,We (2^W) (vT ls q) C []=[.bl b]/\(rnO nx ot 0 ls)[W-1]?=some (.bl b)
def SmL(f:Aw)(H H':Hp):Prop:=∀b o,b≠f->H b=some o->H' b=some o
def uD{y:Str}(h:y∉ZJ):npw (.str y)=0:=by
 rw[<-Zg8];show(List.replicate (JH T1 (.inr y)+JH T2 (.inr y)).toNat false++List.replicate (JH T3 (.inr y)).toNat true).length=0;rw[xI fun z=>h (yn.1 y z),xI fun z=>h (yn.2.1 y z),xI fun z=>h (yn.2.2 y z)];rfl
def jW:Ai:=["same","under","beneath","sign","nought"]
def lpS(y:Str):Am:=
 if y∈(["both","either","so"]:Ai)then[true,true]else if y = "never" then[true]else if y∈(["same","under","beneath","and","or","odd","add","sub"]:Ai)then[false,false]
 else if y∈(["sign","nought","not","neg","twice","low"]:Ai)then[false]else if y = "pick" then[false,false,false]else[]
def lpW:V->List Bool
 |.str y=>lpS y
 |_=>[]
def Zhv:∀y∈Z5,lpS y=List.replicate (Gj (.str y)) false++List.replicate (yo (.str y)) true:=by decide +kernel
def lp_sum:∀y∈Gi,lpS y=List.replicate (Yp y) false/\npw (.str y)=Yp y:=by decide +kernel
def Zm0:∀y∈ZJ,(lpS y).reverse=lpS y/\(lpS y).length<=3:=by decide +kernel
def Zfa{y:Str}(h:y∉ZJ):lpS y=[]:=by
 have D:∀y∈(["both","either","so"]:Ai),y∈ZJ:=by decide +kernel
 have C:∀y∈(["same","under","beneath","and","or","odd","add","sub"]:Ai),y∈ZJ:=by decide +kernel
 have q:∀y∈(["sign","nought","not","neg","twice","low"]:Ai),y∈ZJ:=by decide +kernel
 unfold lpS;rw[Qay (fun z=>h (D y z)),Qay (fun z=>h (by rw[z];decide +kernel)),Qay (fun z=>h (C y z)),Qay (fun z=>h (q y z)),Qay (fun z=>h (by rw[z];decide +kernel))]
def Zfb(w:V):(lpW w).reverse=lpW w/\(lpW w).length<=3:=by
 cases w with
 |str y=>
  by_cases h:y∈ZJ
  ·exact Zm0 y h
  ·show(lpS y).reverse=lpS y/\(lpS y).length<=3;rw[Zfa h];exact⟨rfl,by decide⟩
 |_=>exact⟨rfl,Qbt _⟩
def Zm1:∀y∈Z5,y∈allR->y∈jW:=by decide +kernel
def Zm2:∀y∈Gi,y∈allR->y∈xR:=by decide +kernel
def Zhw:∀y∈allR,y∈ZJ:=by decide +kernel
theorem TyR.re{ys:Ai}{G:A2}{ks:Am}(h:TyR ys G ks)(D:∀y∈ys,V.str y∈G->y∈N)(J:∀y∈N,y∉ZJ):TyR N G ks:=by
 induction h with
 |nil=>exact .nil
 | @sum w r ks hw _ I=>
  refine .sum ?_ (I fun y q C=>D y q (Qal _ C));rcases hw with⟨y,rfl,h1,_,F⟩|⟨y,rfl,h1,h2,F⟩|h
  ·exact .inl ⟨y,rfl,h1,fun z=>J y z (qS y h1),F⟩
  ·exact .inr (.inl ⟨y,rfl,D y h1 Qai,h2,F⟩)
  ·exact .inr (.inr h)
 | @clm y r ks q _ _ I=>exact .clm q (fun z=>J y z (YU y q)) (I fun y q C=>D y q (Qal _ C))
def Zhx(y:Str)(l:Ai):Int:=if y∈l then 1 else 0
structure Wds(B:Int)(nm:Ai)(ws:A2)(ks:Am)(l0 l1:Int):Prop where
 ty:∀rest,TyR nm rest ks->TyR nm (ws++rest) [true]
 rm:(Y7 ws:Int)+l0+l1<=B
 ln:ws.length+ks.length<=14
def Gr(q:A2)(w:V):Y7 (q++[w])=Y7 q+if inV w (allR.map V.str)=true then 1 else 0:=by
 unfold Y7;rw[Qd2,Qak];congr 1;rw[Qc5];split<;>rfl
def Wds.clm{B:Int}{nm:Ai}{D:A2}{ks:Am}{F l1 q:Int}{y:Str}(W:Wds B nm D (true::ks) F l1)(J:∀y∈nm,y∉ZJ)(C:y∈Z5)(L:((lpS y).length:Int)<=14-D.length-(true::ks).length)(G:q+Zhx y jW=l1):Wds B nm (D++[.str y]) (lpS y++ks) F q:=by
 refine⟨fun rest I=>?_,?_,?_⟩
 ·rw[Qcg];refine W.ty _ (.clm C (fun z=>J y z (YU y C)) ?_);rw[Zhv y C,Qcg]at I;exact I
 ·rw[Gr,ZC];have:=W.rm;unfold Zhx at G
  by_cases h:y∈allR
  ·rw[Qa3 (Zm1 y C h)]at G;lia
  ·grind
 ·grind
def Wds.sum{B:Int}{nm:Ai}{D:A2}{ks:Am}{G l1 q:Int}{w:V}(W:Wds B nm D (false::ks) G l1)(Z:∀y∈nm,y∉ZJ)
  (hw:(∃y,w=.str y/\y∈Gi/\((lpS y).length:Int)<=14-D.length-(false::ks).length/\q+Zhx y xR=G)\/(∃y,w=.str y/\y∈nm/\q=G)\/∃z:Int,w=.int z/\0<=z/\z<1000/\q=G):Wds B nm (D++[w]) (lpW w++ks) q l1:=by
 have hs:=W.rm;have hl:=W.ln;rw[Qa9]at hl;have J:∀{w:V},vK nm 10 w->lpW w=List.replicate (npw w) false->∀rest,TyR nm rest (lpW w++ks)->TyR nm (D++[w]++rest) [true]:=fun hw e rest M=>by
  rw[Qcg];rw[e]at M;exact W.ty _ (.sum hw M)
 have I:∀{w:V},(lpW w).length+D.length+ks.length+1<=14->(D++[w]).length+(lpW w++ks).length<=14:=fun{w} h=>by
  grind
 rcases hw with⟨y,rfl,C,hr,L⟩|⟨y,rfl,C,rfl⟩|⟨z,rfl,z0,z1,rfl⟩
 ·have h2:=lp_sum y C;refine⟨J (.inl ⟨y,rfl,C,fun z=>Z y z (qS y C),h2.2⟩) (by rw[h2.2];exact h2.1),?_,I (by show(lpS y).length+_+_+1<=14;rw[Qa9]at hr;lia)⟩;rw[Gr,ZC];unfold Zhx at L
  by_cases h:y∈allR
  ·rw[Qa3 (Zm2 y C h)]at L;lia
  ·grind
 ·have F:=Z y C;have r0:∀y∈xR,y∈ZJ:=by decide +kernel
  have Y:lpW (.str y)=[]:=Zfa F;refine⟨J (.inr (.inl ⟨y,rfl,C,fun z=>F (r0 y z),uD F⟩)) (by rw[uD F,Y];rfl),?_,I (by rw[Y];show 0+_+_+1<=14;lia)⟩;rw[Gr,ZC,Qay (fun z=>F (Zhw y (Qbg z)))];lia
 ·have O:npw (.int z)=0:=by
   show(List.replicate (JH T1 (.inl z)+JH T2 (.inl z)).toNat false++List.replicate (JH T3 (.inl z)).toNat true).length=0;rfl
  refine⟨J (.inr (.inr ⟨z,rfl,z0,Int.lt_trans z1 (by decide),O⟩)) (by rw[O];rfl),?_,I (by show 0+_+_+1<=14;lia)⟩;rw[Gr,wu];lia
def One1 (W:Nat) (y:Str) (v r:V):Prop:=(y∈(["not","neg","twice","low"]:Ai)/\∃a:Int,v=.int a/\0<=a/\a<2^W/\r=.int (Znk y a%2^W))\/(y∈(["sign","nought"]:Ai)/\∃a:Int,v=.int a/\0<=a/\a<2^W/\r=.bl (zE (2^W) y [a]))\/(y = "never" /\ ∃b:Bool,v=.bl b/\r=.bl (!b))
def Two2 (W:Nat) (y:Str) (v u r:V):Prop:=(y∈(["and","or","odd","add","sub"]:Ai)/\∃a b:Int,v=.int a/\u=.int b/\(0<=a/\a<2^W)/\(0<=b/\b<2^W)/\r=.int (Zov y a b%2^W))\/(y∈(["same","under","beneath"]:Ai)/\∃a b:Int,v=.int a/\u=.int b/\(0<=a/\a<2^W)/\(0<=b/\b<2^W)/\r=.bl (zE (2^W) y [a,b]))\/(y∈(["both","either","so"]:Ai)/\∃a b:Bool,v=.bl a/\u=.bl b/\r=.bl (Zpd y [a,b]))
def kvC(nm:Ai)(vs:Aj):A0:=(nm.zip vs).map fun p=>(.inr p.1,.int (p.2:Int))
def Gs(H:Hp)(p:Aw)(nm:Ai)(L:Ad):Prop:=∃ds:List Aw,H p=some (.lst (ds.map V.ref))/\ds.length=L.length/\∀(i:Nat) (d:Aw) (v:Aj),ds[i]?=some d->L[i]?=some v->H d=some (.dK (kvC nm v))
def ntK:V->Bool
 |.str y=>decide (y∉ZJ)
 |_=>false
def lpW_eq {w:V} (hw:(∃y,w=.str y)\/∃z:Int,w=.int z):lpW w=if inV w ((["both","either","so"]:Ai).map V.str)=true then[true,true]else if decide (w=.str "never")=true then[true]else if inV w ((["same","under","beneath","and","or","odd","add","sub"]:Ai).map V.str)=true then[false,false]
  else if inV w ((["sign","nought","not","neg","twice","low"]:Ai).map V.str)=true then[false]else if decide (w=.str "pick")=true then[false,false,false]else[]:=by
 rcases hw with⟨y,rfl⟩|⟨z,rfl⟩
 ·rw[ZC,ZC,ZC];simp only[Qg7];show lpS y=_;unfold lpS;have e:∀c:Str,(V.str y=V.str c)=(y=c):=fun c=>propext ⟨fun z=>by injection z,fun z=>by rw[z]⟩;simp only[e]
 ·rfl
def zi{l:Ai}{i:Int}(C:0<=i)(h1:i<(l.length:Int)):∃y,y∈l/\atI (l.map V.str) i=some (.str y):=by
 obtain⟨j,rfl⟩:∃j:Nat,i=(j:Int):=⟨i.toNat,by lia⟩;have q:j<l.length:=by lia
 exact⟨l[j],Qbs q,YB (by grind)⟩
def Za0:Ai:=["same","same","under","under","beneath","sign","nought","nought","both","both","either","either","so","never","never","yes"]
def Zhy:∀y∈Za0,y∈Z5:=by decide +kernel
def wC:Ai:=["not","neg","twice","low","and","or","odd","add","sub","add","pick"]
def Zhz:∀y∈wC,y∈Gi/\(y∈(["add","sub","neg","twice","low"]:Ai)↔y∈xR):=by decide +kernel
def SmL.same{f:Aw}{H H' H2:Hp}(h:SmL f H H')(s:Z8 H' H2):SmL f H H2:=fun b o q e=>s _ _ (h b o q e)
def SmL.of{H':Hp}(s:Z8 H H'):SmL f H H':=fun b o _ e=>s _ _ e
def SmL.put{H':Hp}{o:HO}(s:SmL f H H'):SmL f H (upd H' f o):=fun b u q e=>by rw[Zk q];exact s b u q e
def uE{x:Int}{W:Nat}(h:x/2^W=0):x%2^W=x:=by
 have q:=Qda x (2^W);rw[h,Int.mul_zero,Int.add_zero]at q;exact q
def pw_le{j:Nat}(h:i<=j):(2:Int)^i<=2^j:=by
 have h:=Int.ofNat_le.mpr (Qcr (show 0<2 by decide) h);exact h
theorem Zm3(w:Nat):∀a b:Int,Builtin.bitXor a b/2^w=Builtin.bitXor (a/2^w) (b/2^w):=by
 induction w with
 |zero=>intro a b;rw[Qds,Qb9,Qb9,Qb9]
 |succ w q=>
  intro a b;have d:∀x:Int,x/2^(w+1)=x/2/2^w:=fun x=>by rw[Qee,Qey,Qdf (by decide:(0:Int)<=2)]
  rw[d,d,d,(xor2 a b).1,q]
def Zh0{a b:Int}{W:Nat}(q:0<=a)(a1:a<2^W)(C:0<=b)(b1:b<2^W):Builtin.bitAnd a b%2^W=Builtin.bitAnd a b/\Builtin.bitOr a b%2^W=Builtin.bitOr a b/\Builtin.bitXor a b%2^W=Builtin.bitXor a b:=by
 have e1:=Qb3 q a1;have e2:=Qb3 C b1;exact⟨uE (by rw[yt,e1,e2];rfl),uE (by rw[Zjn,e1,e2];rfl),uE (by rw[Zm3,e1,e2];rfl)⟩
def ben_eq {a b:Int} {W:Nat} (G:1<=W) (q:0<=a) (a1:a<2^W) (C:0<=b) (b1:b<2^W):zE (2^W) "beneath" [a,b]=decide ((a+2^W/2)%2^W<(b+2^W/2)%2^W):=by
 show decide (sgn (2^W) a<sgn (2^W) b)=_;obtain⟨V,rfl⟩:∃V,W=V+1:=⟨W-1,by lia⟩;rw[Qee]at *;generalize (2:Int)^V=h at *;have e:∀c:Int,0<=c->c<h*2->(c+h*2/2)%(h*2)=sgn (h*2) c+h:=fun c D F=>by
  unfold sgn;rw[Int.mul_ediv_cancel _ (by decide)];split
  ·rw[show c+h=(c-h*2+h)+h*2*1 by lia,Qcf,Qdb (by lia) (by lia)]
  ·exact Qdb (by lia) (by lia)
 rw[e a q a1,e b C b1];exact Qcv.mpr ⟨fun z=>by lia,fun z=>by lia⟩
def Zm4{a:Int}{W:Nat}(q:0<=a)(h1:a<2^W):Builtin.bitNot a%2^W=2^W-1-a:=by
 have e:Builtin.bitNot a=(2^W-1-a)+2^W*(-1):=by
  show -a-1=_;lia
 rw[e,Qcf,Qdb (by lia) (by lia)]
def Zfc(a:Int)(W:Nat):-a%2^W=(2^W-a)%2^W:=by
 rw[show(2:Int)^W-a=-a+2^W*1 by lia,Qcf]
def Zm5{a:Int}{W:Nat}(C:0<=a)(h1:a<2^W):Builtin.bitAnd a (-a)%2^W=Builtin.bitAnd a (2^W-a):=by
 have D:Builtin.bitAnd a (2^W-a)/2^W=0:=by
  rw[yt,Qb3 C h1]
  by_cases z:a=0
  ·rw[z,Int.sub_zero,Int.ediv_self (by lia)];rfl
  ·rw[Qb3 (by lia) (by lia)];rfl
 rw[<-uE D];refine vN fun k q=>?_;rw[YR,YR,<-xP (-a) W k q,Zfc,xP _ _ _ q]
def sign_eq {a:Int} {W:Nat} (q:0<=a) (h1:a<2^W):zE (2^W) "sign" [a]=decide ((2:Int)^W<=2*a):=by
 show decide (sgn (2^W) a<0)=_;unfold sgn;refine Qcv.mpr ?_;split<;>lia
def Zfd {m:Int} (a:Int):zE m "nought" [a]=decide (V.int a=V.int 0):=by
 show decide (a=0)=_;exact Qcv.mpr ⟨fun z=>by rw[z],fun z=>by injection z⟩
def Zm6{ys:Ai}{W:Nat}(hW:1<=W)(hys:∀y∈ys,y∉ZJ){ρ:Str->Int}(O:∀y∈ys,0<=ρ y/\ρ y<2^W){x:V}{ks:Am}(h:TyR ys (x::r) ks){F L:A2}(h0:We (2^W) ρ r []=F)(h1:cvV (2^W) ρ x (F.take (npw x))::F.drop (npw x)=L):
  (∃z,x=.int z/\L=.int (z%2^W)::F)\/(∃y,x=.str y/\y∈ys/\L=.int (ρ y)::F)\/∃y,x=.str y/\y∉ys/\((y = "yes" /\ L=.bl true::F)\/(y = "pick" /\ ∃(a b c:Int) (l:A2),F=.int a::.int b::.int c::l/\((0<=a/\a<2^W)/\(0<=b/\b<2^W)/\0<=c/\c<2^W)/\L=.int (Builtin.bitOr (Builtin.bitAnd a b) (Builtin.bitAnd (Builtin.bitNot a) c)%2^W)::l)
   \/ (y ≠ "yes" /\ y ≠ "pick" /\ (lpS y).length=1/\∃(v Z:V) (l:A2),F=v::l/\One1 W y v Z/\L=Z::l)\/(y ≠ "yes" /\ y ≠ "pick" /\ (lpS y).length≠1/\∃(v u Z:V) (l:A2),F=v::u::l/\Two2 W y v u Z/\L=Z::l)):=by
 rcases part_of hW hys ρ h with⟨is,l,hw,e1,e2,e3,q⟩|⟨y,is,l,rfl,C,hn,hs,e1,e2,e3,q⟩|⟨y,bs,l,rfl,C,hn,hs,e1,e2,q⟩
 ·rw[h0]at e1 q;rw[h1]at q;rcases hw with⟨y,rfl,C,hny,D⟩|⟨y,rfl,C,hnr,D⟩|⟨z,rfl,z0,z1,D⟩
  ·refine .inr (.inr ⟨y,rfl,hny,?_⟩);have J:y ≠ "yes" :=fun z=>Gq y C (by rw[z];decide +kernel);rw[D]at e2;have Y:(Yp y=1/\y ≠ "pick" /\ y∈(["not","neg","twice","low"]:Ai)/\(lpS y).length=1)\/(Yp y=2/\y ≠ "pick" /\ y∈(["and","or","odd","add","sub"]:Ai)/\(lpS y).length≠1)\/(y = "pick" /\ Yp y=3):=(by decide +kernel:∀y∈Gi,(Yp y=1/\y ≠ "pick" /\ y∈(["not","neg","twice","low"]:Ai)/\(lpS y).length=1)\/(Yp y=2/\y ≠ "pick" /\ y∈(["and","or","odd","add","sub"]:Ai)/\(lpS y).length≠1)\/(y = "pick" /\ Yp y=3)) y C;rcases Y with⟨p1,G,I,k1⟩|⟨p1,G,I,k1⟩|⟨p1,p3⟩
   ·rw[p1]at e2
    match is,e2 with
    |[a],_=>
     have ha:=e3 a Qai;exact .inr (.inr (.inl ⟨J,G,k1,.int a,_,l,e1,.inl ⟨I,a,rfl,ha.1,ha.2,rfl⟩,q⟩))
   ·rw[p1]at e2
    match is,e2 with
    |[a,b],_=>
     have ha:=e3 a Qai;have hb:=e3 b (Qal _ Qai);exact .inr (.inr (.inr ⟨J,G,k1,.int a,.int b,_,l,e1,.inl ⟨I,a,b,rfl,rfl,ha,hb,rfl⟩,q⟩))
   ·rw[p3]at e2
    match is,e2 with
    |[a,b,c],_=>
     have ha:=e3 a Qai;have hb:=e3 b (Qal _ Qai);have hc:=e3 c (Qal _ (Qal _ Qai));exact .inr (.inl ⟨p1,a,b,c,l,e1,⟨ha,hb,hc⟩,q⟩)
  ·rw[D]at e2
   match is,e2 with
   |[],_=>
    refine .inr (.inl ⟨y,rfl,C,?_⟩);rw[q,e1,show wwv ρ (.str y) []%2^W=ρ y from Qdb (O y C).1 (O y C).2];rfl
  ·match is,e2 with
   |[],_=>
    refine .inl ⟨z,rfl,?_⟩;rw[q,e1];rfl
 ·rw[h0]at e1 q;rw[h1]at q;refine .inr (.inr ⟨y,rfl,hn,?_⟩);have Y:(Gj (.str y)=1/\y ≠ "yes" /\ y ≠ "pick" /\ y∈(["sign","nought"]:Ai)/\(lpS y).length=1)\/(Gj (.str y)=2/\y ≠ "yes" /\ y ≠ "pick" /\ y∈(["same","under","beneath"]:Ai)/\(lpS y).length≠1):=(by decide +kernel:∀y∈Z5,0<Gj (.str y)->(Gj (.str y)=1/\y ≠ "yes" /\ y ≠ "pick" /\ y∈(["sign","nought"]:Ai)/\(lpS y).length=1)\/(Gj (.str y)=2/\y ≠ "yes" /\ y ≠ "pick" /\ y∈(["same","under","beneath"]:Ai)/\(lpS y).length≠1)) y C hs;rcases Y with⟨p1,M,G,I,k1⟩|⟨p1,M,G,I,k1⟩
  ·rw[p1]at e2
   match is,e2 with
   |[a],_=>
    have ha:=e3 a Qai;exact .inr (.inr (.inl ⟨M,G,k1,.int a,_,l,e1,.inr (.inl ⟨I,a,rfl,ha.1,ha.2,rfl⟩),q⟩))
  ·rw[p1]at e2
   match is,e2 with
   |[a,b],_=>
    have ha:=e3 a Qai;have hb:=e3 b (Qal _ Qai);exact .inr (.inr (.inr ⟨M,G,k1,.int a,.int b,_,l,e1,.inr (.inl ⟨I,a,b,rfl,rfl,ha,hb,rfl⟩),q⟩))
 ·rw[h0]at e1 q;rw[h1]at q;refine .inr (.inr ⟨y,rfl,hn,?_⟩);have Y:(yo (.str y)=0/\y = "yes")\/(yo (.str y)=1/\y = "never")\/(yo (.str y)=2/\y ≠ "yes" /\ y ≠ "pick" /\ y∈(["both","either","so"]:Ai)/\(lpS y).length≠1):=(by decide +kernel:∀y∈Z5,¬0<Gj (.str y)->(yo (.str y)=0/\y = "yes")\/(yo (.str y)=1/\y = "never")\/(yo (.str y)=2/\y ≠ "yes" /\ y ≠ "pick" /\ y∈(["both","either","so"]:Ai)/\(lpS y).length≠1)) y C hs;rcases Y with⟨p1,rfl⟩|⟨p1,rfl⟩|⟨p1,M,G,I,k1⟩
  ·match bs,e2 with
   |[],_=>
    refine .inl ⟨rfl,?_⟩;rw[q,e1];rfl
  ·match bs,e2 with
   |[b],_=>exact .inr (.inr (.inl ⟨by decide +kernel,by decide +kernel,by decide +kernel,.bl b,_,l,e1,.inr (.inr ⟨rfl,b,rfl,rfl⟩),q⟩))
  ·rw[p1]at e2
   match bs,e2 with
   |[a,b],_=>exact .inr (.inr (.inr ⟨M,G,k1,.bl a,.bl b,_,l,e1,.inr (.inr ⟨I,a,b,rfl,rfl,rfl⟩),q⟩))
def Zm7(nm:Ai)(vs:Aj):(kvC nm vs).length<=nm.length:=by
 unfold kvC;rw[Qab,Qes];exact Nat.min_le_left _ _
def Zm8{y:Str}{vs:Aj}{w:Nat}(C:y∉N)(F:vs.length=N.length):putK (kvC N vs) (.inr y) (.int (w:Int))=kvC (N++[y]) (vs++[w]):=by
 unfold putK;rw[Qay]
 ·unfold kvC;rw[List.zip_append F.symm,Qaz];rfl
 ·intro z;obtain⟨q,h1,h2⟩:=Qcc.mp z;obtain⟨p,D,rfl⟩:=Qau.mp h1;have:=Qbg h2;injection this with this;exact C (by rw[<-this];exact(Qd7 D).1)
theorem Zm9(F:N.Nodup){vs:Aj}(C:vs.length=N.length):Zd7 (kvC N vs) N (kh N vs):=by
 have I:∀{N:Ai} {vs:Aj},vs.length=N.length->∀y,y∉N->Yi (kvC N vs) (.inr y)=none:=by
  intro N vs C y D;have:=X8 (.inr y:Key) (kvC N vs);cases e:Yi (kvC N vs) (.inr y)with
  |none=>rfl
  |some v=>
   rw[e]at this;obtain⟨q,h1,h2⟩:=Qcc.mp this;obtain⟨p,J,rfl⟩:=Qau.mp h1;have:=Qbg h2;injection this with this;exact absurd (by rw[<-this];exact(Qd7 J).1) D
 refine⟨?_,I C⟩
 induction N generalizing vs with
 |nil=>intro y D;cases D
 |cons x N L=>
  match vs,C with
  |v::vs,C=>
   intro y D;show Yi (((.inr x:Key),V.int (v:Int))::kvC N vs) (.inr y)=some (.int (((v::vs).getD ((x::N).idxOf y) 0:Nat):Int))
   by_cases h:x=y
   ·subst h;rw[Yj rfl,List.idxOf_cons_self];rfl
   ·rw[Ye (fun z=>h (Sum.inr.inj z)),show(x::N).idxOf y=N.idxOf y+1 by rw[Qfr,beq_false_of_ne h];rfl];have G:y∈N:=by
     grind
    exact L (Qcd.mp F).2 (Nat.succ.inj C) y G
def Gs.snoc{p:Aw}{v:Aj}(h:Gs H a N R)(keep:∀d q,H d=some (.dK q)->C d=some (.dK q))(D:∀ds:List Aw,H a=some (.lst (ds.map V.ref))->C a=some (.lst (ds.map V.ref++[V.ref p])))(F:C p=some (.dK (kvC N v))):Gs C a N (R++[v]):=by
 obtain⟨ds,h1,h2,J⟩:=h;refine⟨ds++[p],by rw[D ds h1,Qaz];rfl,by grind,fun i d u I G=>?_⟩
 by_cases hi:i<ds.length
 ·grind
 ·grind
def NmI(y:Str)(q:Int):Nat->Str->Prop
 |0,z=>z=y
 |i+1,z=>∃C c,NmI y q i C/\atI Zbf.cps.toList ((q+7*(i:Int))%26)=some c/\z=C++⟨#[c]⟩
def begL:Ai:=["","","","a","xy","so","not","yes","add","nought"]
def Zjz:∀y∈begL,∀j∈List.range 26,∀c∈(atI Zbf.cps.toList (j:Int)).toList,(NmL (y++⟨#[c]⟩)/\y++⟨#[c]⟩∉ZJ)/\∀d∈(atI Zbf.cps.toList (((j+7:Nat):Int)%26)).toList,NmL (y++⟨#[c]⟩++⟨#[d]⟩)/\y++⟨#[c]⟩++⟨#[d]⟩∉ZJ:=by decide +kernel
def nm_all{y z:Str}{q:Int}(F:y∈begL)(I:n=1\/n=2)(h:NmI y q n z):NmS z:=by
 obtain⟨j,M,C⟩:∃j:Nat,q%26=(j:Int)/\j<26:=⟨(q%26).toNat,by lia,by lia⟩;rcases I with rfl|rfl
 ·obtain⟨D,c,rfl,G,rfl⟩:=h;obtain⟨h1,_⟩:=Zjz D F j (Qbu.mpr C) c (by grind);exact⟨h1.1,h1.2⟩
 ·obtain⟨L,d,⟨D,c,rfl,G,rfl⟩,J,rfl⟩:=h;obtain⟨_,h1⟩:=Zjz D F j (Qbu.mpr C) c (by grind);have:=h1 d (by grind);exact⟨this.1,this.2⟩
theorem Zna{kvs:A0}{S:Ai}{v:V}(J:kvs.map (·.1)=S.map Sum.inr)(F:S.Nodup)(y:Str):∃C:Ai,(putK kvs (.inr y) v).map (·.1)=C.map Sum.inr/\C.Nodup/\C.length<=S.length+1/\∀z∈C,z∈S\/z=y:=by
 unfold putK;split
 ·refine⟨S,?_,F,Qet _,fun z h=>.inl h⟩;rw[<-J,Qax];refine Qbm fun D _=>?_;show(if D.1=Sum.inr y then(D.1,v)else D).1=D.1
  split<;>rfl
 ·rename_i h;have I:y∉S:=fun z=>h (Qcc.mpr (by
   have:(Sum.inr y:Key)∈kvs.map (·.1):=by grind
   obtain⟨q,h1,h2⟩:=Qau.mp this;exact⟨q,h1,Qan h2⟩))
  refine⟨S++[y],by grind,Qe6.mpr ⟨F,Qcd.mpr ⟨(fun z=>nomatch z),Qcq⟩,fun a ha b L e=>I (by grind)⟩,by grind,fun z G=>?_⟩;rcases Qbo.mp G with z|z
  ·exact .inl z
  ·exact .inr (Qaw.mp z)
def ty_si{ks:Am}(h:TyR N r ks)(C:∀y∈N,NmS y):(∀w∈r,jB w)/\r.filter ntK=r.filter nmB:=by
 have f:=h.facts.1;have cs:∀w∈r,(∃y,w=.str y/\(y∈ZJ\/y∈N))\/∃z:Int,w=.int z:=fun w hw=>by
  rcases f w hw with(⟨y,e,q,_⟩|⟨y,e,q,_⟩|⟨z,e,_⟩)|⟨y,e,q,_⟩
  ·exact .inl ⟨y,e,.inl (qS y q)⟩
  ·exact .inl ⟨y,e,.inr q⟩
  ·exact .inr ⟨z,e⟩
  ·exact .inl ⟨y,e,.inl (YU y q)⟩
 refine⟨fun w hw=>?_,List.filter_congr fun w hw=>?_⟩
 ·rcases cs w hw with⟨y,rfl,q⟩|⟨z,rfl⟩
  ·refine .inl ⟨y,rfl,?_⟩;rcases q with q|q
   ·have:=(Zg7 y q).1.2;lia
   ·have:=(C y q).l.1.2;lia
  ·exact .inr ⟨z,rfl⟩
 ·rcases cs w hw with⟨y,rfl,q⟩|⟨z,rfl⟩
  ·refine Qcv.mpr ⟨fun h=>⟨h,?_⟩,fun h=>h.1⟩;rcases q with q|q
   ·exact absurd q h
   ·exact(C y q).l
  ·rfl
def clm_ok{nm C:Ai}(h:TyR nm r [true])(I:∀y∈nm,NmS y)(J:nm.length<=3)(L:r.length<=14)(M:Y7 r<=5)(N:NmC r C):WJ C r:=by
 have f:=h.facts.1;have q:∀y,y∈C↔V.str y∈r/\y∉ZJ/\NmL y:=fun y=>by
  rw[N.1.mem_iff,Zda];constructor
  ·intro h;obtain⟨w,hw,rfl⟩:=Qau.mp h;obtain⟨h1,h2⟩:=Qdn.mp hw;cases w with
   |str y=>exact⟨h1,Qbg h2⟩
   |_=>cases h2
  ·intro h;exact Qau.mpr ⟨.str y,Qdn.mpr ⟨h.1,Qan h.2⟩,rfl⟩
 have G:C.Nodup:=N.1.nodup_iff.mpr (kY _);have sub:∀y∈C,y∈nm:=fun y D=>by
  obtain⟨h1,h2,_⟩:=(q y).mp D;rcases f _ h1 with(⟨z,e,F,_⟩|⟨z,e,F,_⟩|⟨z,e,_⟩)|⟨z,e,F,_⟩
  ·cases e;exact absurd (qS y F) h2
  ·cases e;exact F
  ·cases e
  ·cases e;exact absurd (YU y F) h2
 have kp:∀y∈C,y∉ZJ:=fun y D=>((q y).mp D).2.1;exact⟨Qbc (Wc G sub) J,G,kp,by lia,h.re (fun y D hw=>(q y).mpr ⟨hw,(I y D).k,(I y D).l⟩) kp,by lia⟩
def rot(m:Nat)(q:Am):Am:=q.drop m++q.take m
def zH(q:Am)(m:Nat):Prop:=q.length%m=0/\rot m q=q
structure Znb(rs:Am)(L:Nat):Prop where
 one:1<=L
 le:L<=rs.length
 t:zH rs L
 least:∀m,1<=m->m<L->¬zH rs m
def Znc(q:Am):rot q.length q=q:=by
 unfold rot;rw[Qel,Qb7];rfl
def Zfe{m j:Nat}(q:m<=B.length)(C:j<B.length):(rot m B)[j]?=B[(j+m)%B.length]?:=by
 unfold rot
 by_cases h:j<B.length-m
 ·rw[Qa8 (by rw[Qbq];exact h),Qgv,Qc6 (by lia),Qf1]
 ·rw[Qa0 (by rw[Qbq];lia),Qbq,Qdt,Qa3 (by lia)];congr 1;rw[Qgw (by lia),Qc6 (by lia)];lia
theorem zH.at{C:Am}{m:Nat}(h:zH C m)(G:1<=m)(L:m<=C.length):∀i,C[i%C.length]?=C[i%m]?:=by
 have step:∀j,j<C.length->C[(j+m)%C.length]?=C[j]?:=fun j D=>by rw[<-Zfe L D,h.2]
 have pos:0<C.length:=by lia
 obtain⟨q,J⟩:∃q,C.length=m*q:=⟨C.length/m,by have:=Qht C.length m;rw[h.1]at this;lia⟩;have F:∀k j,j<m->j+m*k<C.length->C[j+m*k]?=C[j]?:=by
  intro k
  induction k with
  |zero=>intro j _ _;rw[Nat.mul_zero,Qgt]
  |succ k I=>
   intro j D M;have:=step (j+m*k) (by lia);rw[Qc6 (by lia)]at this;rw[Nat.mul_succ,<-Qfs,this];exact I j D (by lia)
 intro i;have hi:i%C.length<C.length:=Qem _ pos;have e:i%C.length%m=i%m:=by
  rw[J];exact Nat.mod_mul_right_mod i m q
 have d:=Qht (i%C.length) m;have:=F (i%C.length/m) (i%m) (Qem _ G) (by lia);rw[show i%m+m*(i%C.length/m)=i%C.length by lia]at this;exact this
def atR(tl q:Am)(i:Nat):Bool:=if i<tl.length then tl.getD i false else q.getD ((i-tl.length)%q.length) false
structure ZS(T:Nat->Bool)(tl rg:Am):Prop where
 at_:∀i,atR tl rg i=T i
 pos:1<=rg.length
 prim:∀m,1<=m->m<rg.length->¬zH rg m
 last:tl≠[]->tl.getD (tl.length-1) false≠rg.getD (rg.length-1) false
def GV(bs:Am):(bs.map V.bl).all YM=true:=Qca.mpr fun v q=>by obtain⟨y,_,rfl⟩:=Qau.mp q;rfl
theorem wD:∀as bs:Am,jn (as.map V.bl) (bs.map V.bl)=decide (as=bs)
 |[],[]=>rfl
 |[],_::_=>rfl
 |_::_,[]=>rfl
 |a::as,b::bs=>by
  show(eqV (.bl a) (.bl b)&&jn (as.map V.bl) (bs.map V.bl))=_;rw[wD as bs];have e:eqV (.bl a) (.bl b)=decide (a=b):=by cases a<;>cases b<;>rfl
  rw[e,<-Bool.decide_and];exact Qcv.mpr (by simp)
def ixZ(z:Int)(L:Nat):Nat:=(z%(L:Int)).toNat
def Zff(h:1<=L):ixZ z L<L:=by
 unfold ixZ;have:=Qb0 z (show(0:Int)<L by lia);lia
def Zfg(i L:Nat):ixZ (i:Int) L=i%L:=by
 unfold ixZ;rw[<-Qd1,Qbn]
def Znd{j:Nat}(h:1<=L):(ixZ z L+j)%L=ixZ (z+j) L:=by
 have q:=Qbz z (show(L:Int)≠0 by lia);rw[<-Zfg];unfold ixZ;congr 1;rw[Int.natCast_add,Qfd q,Int.emod_add_emod]
def rgB(q:Am)(b L:Nat):Am:=(q.take L).drop b++q.take b
def wF{b:Nat}(C:b<L)(q:L<=B.length):(rgB B b L).length=L:=by
 unfold rgB;rw[Qak,Qbq,Qa2,Qa2];lia
def Zj0{b j:Nat}(q:b<L)(C:L<=B.length)(D:j<L):(rgB B b L)[j]?=B[(b+j)%L]?:=by
 unfold rgB
 by_cases h:j<L-b
 ·rw[Qa8 (by grind),Qgv,Qdt,Qa3 (by lia),Qc6 (by lia)]
 ·rw[Qa0 (by grind),Qbq,Qa2,Qdt,Qa3 (by lia)];congr 1;rw[Qgw (by lia),Qc6 (by lia)];lia
def getD_eq{xs ys:Am}{j:Nat}(h:xs[i]?=ys[j]?):xs.getD i false=ys.getD j false:=by grind
def Zh1{b:Nat}(R:Znb B L)(J:b<L):∀m,1<=m->m<(rgB B b L).length->¬zH (rgB B b L) m:=by
 intro m M F Z;have C:=wF J R.le;have G:=Z.at M (Qav F);rw[C]at F G;have O:=Z.1;rw[C]at O;obtain⟨q,hq⟩:∃q,B.length=L*q:=⟨B.length/L,by have:=Qht B.length L;rw[R.t.1]at this;lia⟩;refine R.least m M F ⟨?_,?_⟩
 ·rw[hq];exact Nat.mod_eq_zero_of_dvd (Nat.dvd_trans (Nat.dvd_of_mod_eq_zero O) (Nat.dvd_mul_right _ _))
 ·have I:m<=B.length:=Qbc (Qav F) R.le;refine Qfx fun j=>?_
  by_cases Y:j<B.length
  ·rw[Zfe I Y,R.t.at R.one R.le];have e1:B[j]?=B[j%L]?:=by rw[<-R.t.at R.one R.le,Qc6 Y]
   rw[e1];have D:∀i,B[i%L]?=(rgB B b L)[(i+(L-b))%L]?:=fun i=>by
    rw[Zj0 J R.le (Qem _ R.one)];congr 1;rw[Nat.add_mod_mod,show b+(i+(L-b))=i+L by lia,Qhb]
   rw[D,D,G,G];congr 1;rw[show j+m+(L-b)=j+(L-b)+m by lia,Qhb]
  ·rw[Qe1 (by unfold rot;rw[Qak,Qbq,Qa2];lia),Qe1 (by lia)]
def Zh2{T:Nat->Bool}{C:Am}{kp:Nat}(R:Znb C L)(I:∀i,atR B C i=T i)(Y:kp<=B.length)(hs:∀i,kp<=i->i<B.length->B.getD i false=C.getD (ixZ ((i:Int)-B.length) L) false)
  (M:1<=kp->B.getD (kp-1) false≠C.getD (ixZ ((kp:Int)-1-B.length) L) false):ZS T (B.take kp) (rgB C (ixZ ((kp:Int)-B.length) L) L):=by
 have G:=Zff (z:=(kp:Int)-B.length) R.one;have q:=wF G R.le;have F:∀j,j<L->(rgB C (ixZ ((kp:Int)-B.length) L) L).getD j false=C.getD (ixZ ((kp:Int)-B.length+j) L) false:=fun j O=>by
  rw[<-Znd R.one];exact getD_eq (Zj0 G R.le O)
 have D:(B.take kp).length=kp:=by rw[Qa2];lia
 refine⟨fun i=>?_,by rw[q];exact R.one,Zh1 R G,fun J=>?_⟩
 ·rw[<-I i];unfold atR;rw[D,q]
  by_cases h:i<kp
  ·rw[Qa3 h,Qa3 (by lia),Qaf,Qaf,Qdt,Qa3 h]
  ·rw[Qay h,F _ (Qem _ R.one)];have e:ixZ ((kp:Int)-B.length+((i-kp)%L:Nat)) L=ixZ ((i:Int)-B.length) L:=by
    unfold ixZ;congr 1;rw[Qd1,Int.add_emod_emod];congr 1;lia
   rw[e]
   by_cases h2:i<B.length
   ·grind
   ·rw[Qay h2];refine getD_eq ?_;rw[R.t.at R.one R.le,show(i:Int)-B.length=((i-B.length:Nat):Int) by lia,Zfg]
 ·have k1:1<=kp:=by
   grind
  rw[D,q,F (L-1) (by lia)];have e:ixZ ((kp:Int)-B.length+((L-1:Nat):Int)) L=ixZ ((kp:Int)-1-B.length) L:=by
   unfold ixZ;congr 1;rw[show(kp:Int)-B.length+((L-1:Nat):Int)=(kp:Int)-1-B.length+(L:Int)*1 by lia,Qcf]
  rw[e,Qaf,Qdt,Qa3 (by lia),<-Qaf];exact M k1
def Few(nx:Ad)(n R:Nat):Prop:=∃g:Aj->Nat,(∀ls:Aj,(∀x∈ls,x<n)->g ls<R)/\∀ls q:Aj,(∀x∈ls,x<n)->(∀x∈q,x<n)->(ls.length=q.length\/(10<=ls.length/\10<=q.length))->g ls=g q->stN nx 0 ls=stN nx 0 q
def Tw(C:A2)(q:Ai)(wb:Bool)(i:Nat):Bool:=(chs (2^(i+1)) q.length).any fun vs=>decide (We (2^(i+1)) (kh q vs) C []=[.bl wb])
def uF(l:Am)(i:Nat)(h:i<l.length):(l.map fun b=>!b).getD i false=!l.getD i false:=by grind
theorem ZS.not{T:Nat->Bool}{G:Am}(S:ZS T B G):ZS (fun i=>!T i) (B.map fun b=>!b) (G.map fun b=>!b):=by
 have D:=S.pos;have nn:∀l:Am,((l.map fun b=>!b).map fun b=>!b)=l:=fun l=>by
  rw[Qax];exact(Qbm fun b _=>by cases b<;>rfl).trans (Qgh _)
 refine⟨fun i=>?_,by rw[Qab];exact D,fun m J F I=>?_,fun C=>?_⟩
 ·rw[<-S.at_ i];unfold atR;rw[Qab,Qab];split
  ·exact uF _ _ (by assumption)
  ·exact uF _ _ (Qem _ D)
 ·rw[Qab]at F;refine S.prim m J F ⟨by have:=I.1;rwa [Qab]at this,?_⟩;have:=congrArg (List.map fun b=>!b) I.2;unfold rot at this ⊢;rw[Qaz,<-Qdv,<-Qdm,nn,nn]at this;rw[nn]at this;exact this
 ·have q:B≠[]:=fun z=>C (by rw[z];rfl)
  have L:0<B.length:=Qgj.mpr q;intro e;exact S.last q (by
   grind)
def Zh3{b:Nat}(C:b<=L)(q:L<=B.length):Zbd (B.map V.bl) (some (b:Int)) (some (L:Int))=((B.take L).drop b).map V.bl:=by
 unfold Zbd;simp only[HT.sIx];rw[Qay (by lia),Qay (by lia),Qab,Qbn,Qbn,Qex (by lia),Qex (by lia),<-Qdv,<-Qdm,List.drop_take]
def put_in{y:Nat}(h:y∈S):putK (S.map fun x:Nat=>((.inl (x:Int):Key),V.bl true)) (.inl (y:Int)) (.bl true)=S.map fun x:Nat=>((.inl (x:Int):Key),V.bl true):=by
 have e:((S.map fun x:Nat=>((.inl (x:Int):Key),V.bl true)).any fun C=>decide (C.1=.inl (y:Int)))=true:=Qcc.mpr ⟨_,Qau.mpr ⟨y,h,rfl⟩,Qan rfl⟩;unfold putK;rw[Qa3 e];refine(Qbm (g:=id) fun C q=>?_).trans (Qgh _);obtain⟨x,_,rfl⟩:=Qau.mp q;split<;>rfl
def Zne{y:Nat}(h:y∉S):putK (S.map fun x:Nat=>((.inl (x:Int):Key),V.bl true)) (.inl (y:Int)) (.bl true)=(S++[y]).map fun x:Nat=>((.inl (x:Int):Key),V.bl true):=by
 unfold putK;rw[Qay,Qaz]
 ·rfl
 ·grind
def Zh4(h:E.Perm (S.map fun x:Nat=>(x:Int))):∃ns:Aj,E=ns.map (fun x:Nat=>(x:Int))/\ns.Perm S:=by
 refine⟨E.map Int.toNat,?_,?_⟩
 ·rw[Qax];refine((Qbm (g:=id) fun z q=>?_).trans (Qgh _)).symm;obtain⟨x,_,rfl⟩:=Qau.mp (h.mem_iff.mp q);rfl
 ·have:=h.map Int.toNat;rw[Qax]at this;exact this.trans (.of_eq ((Qbm (g:=id) fun x _=>rfl).trans (Qgh _)))
def Za1{ns:Aj}(h:(ns.map fun x:Nat=>(x:Int)).Pairwise (·<=·))(q:ns.Nodup):ns.Pairwise (· < ·):=by
 rw[Qe5]at h;exact(h.and q).imp fun⟨a,b⟩=>by lia
def Rch(nx:Ad)(n k s:Nat):Prop:=∃ls:Aj,ls.length=k/\(∀x∈ls,x<n)/\stN nx 0 ls=s
def X3(nx:Ad)(n k:Nat):Aj:=(List.range nx.length).filter fun s=>@decide (Rch nx n k s) (Classical.propDecidable _)
structure Mch(nx:Ad)(n:Nat):Prop where
 row:∀s,s<nx.length->(nx.getD s []).length=n
 st:∀ls:Aj,(∀x∈ls,x<n)->stN nx 0 ls<nx.length
def yB(ls:Aj):ls=[]\/∃(q:Aj) (c:Nat),ls=q++[c]:=by
 rcases List.eq_nil_or_concat ls with h|⟨q,c,h⟩
 ·exact .inl h
 ·grind
theorem uG:∀{a b:Aj},a.Pairwise (· < ·)->b.Pairwise (· < ·)->(∀x,x∈a↔x∈b)->a=b
 |[],[],_,_,_=>rfl
 |[],y::b,_,_,h=>absurd ((h y).mpr Qai) Qba
 |x::a,[],_,_,h=>absurd ((h x).mp Qai) Qba
 |x::a,y::b,ha,D,h=>by
  have q:=List.pairwise_cons.mp ha;have C:=List.pairwise_cons.mp D;have e:x=y:=by
   rcases Qao.mp ((h x).mp Qai)with z|z
   ·exact z
   ·rcases Qao.mp ((h y).mpr Qai)with w|w
    ·exact w.symm
    ·grind
  subst e;refine congrArg (List.cons x) (uG q.2 C.2 fun z=>⟨fun F=>?_,fun F=>?_⟩)
  ·grind
  ·grind
def Yv{nx:Ad}{k s:Nat}(M:Mch nx n):s∈X3 nx n k↔Rch nx n k s:=by
 unfold X3;rw[Qdn,Qbu,@decide_eq_true_iff _ (Classical.propDecidable _)];exact⟨fun h=>h.2,fun h=>⟨by obtain⟨ls,_,q,rfl⟩:=h;exact M.st ls q,h⟩⟩
def Jw(nx:Ad)(n k:Nat):(X3 nx n k).Pairwise (· < ·):=List.pairwise_lt_range.filter _
def Mch.succ{nx:Ad}{n k x:Nat}(M:Mch nx n):Rch nx n (k+1) x↔∃s,Rch nx n k s/\x∈nx.getD s []:=by
 constructor
 ·rintro⟨ls,q,C,rfl⟩;rcases yB ls with rfl|⟨F,c,rfl⟩
  ·cases q
  ·rw[Qak]at q;have G:∀x∈F,x<n:=fun x D=>C x (Qbo.mpr (.inl D));refine⟨_,⟨F,Nat.succ.inj q,G,rfl⟩,?_⟩;rw[qW];exact Qar (getD_at (d:=0) (by rw[M.row _ (M.st F G)];exact C c (Qbo.mpr (.inr (Qaw.mpr rfl)))))
 ·rintro⟨s,⟨ls,rfl,C,rfl⟩,D⟩;obtain⟨c,I⟩:=Qcl.mp D;have q:=(Qag.mp I).1;rw[M.row _ (M.st ls C)]at q;refine⟨ls++[c],Qak,fun y J=>?_,?_⟩
  ·grind
  ·rw[qW,Qaf,I];rfl
theorem Zfh{nx:Ad}(M:Mch nx n):X3 nx n 0=[0]:=uG (Jw nx n 0) (List.pairwise_singleton _ _) fun x=>by
 rw[Yv M,Qaw];constructor
 ·rintro⟨ls,q,_,rfl⟩;rw[Qco q];rfl
 ·rintro rfl;exact⟨[],rfl,(fun _ z=>nomatch z),rfl⟩
theorem ki{nx:Ad}{k:Nat}(M:Mch nx n)(h1:S.Pairwise (· < ·))(h2:∀x,x∈S↔∃s∈X3 nx n k,x∈nx.getD s []):S=X3 nx n (k+1):=uG h1 (Jw nx n _) fun x=>by
 rw[h2,Yv M,M.succ];exact⟨fun⟨s,a,b⟩=>⟨s,(Yv M).mp a,b⟩,fun⟨s,a,b⟩=>⟨s,(Yv M).mpr a,b⟩⟩
theorem uH{nx:Ad}{n j k:Nat}(M:Mch nx n)(e:X3 nx n k=X3 nx n j):∀i,X3 nx n (k+i)=X3 nx n (j+i)
 |0=>e
 |i+1=>ki (k:=j+i) M (Jw nx n _) fun x=>by
  rw[Yv M,show k+(i+1)=(k+i)+1 from rfl,M.succ,<-uH M e i];exact⟨fun⟨s,a,b⟩=>⟨s,(Yv M).mpr a,b⟩,fun⟨s,a,b⟩=>⟨s,(Yv M).mp a,b⟩⟩
theorem Znf{T:Nat->Bool}{j k:Nat}(F:j<k)(C:∀i,T (k+i)=T (j+i))(i:Nat):atR (((List.range k).map T).take j) (((List.range k).map T).drop j) i=T i:=by
 have I:((List.range k).map T).length=k:=by rw[Qab,Qbb]
 have h1:(((List.range k).map T).take j).length=j:=by rw[Qa2];lia
 have h2:(((List.range k).map T).drop j).length=k-j:=by rw[Qbq];lia
 have q:∀m,m<k->((List.range k).map T)[m]?=some (T m):=fun m G=>by grind
 have per:∀m,T (j+m%(k-j))=T (j+m):=by
  intro m
  induction m using Nat.strongRecOn with
  |_ m D=>
   by_cases h:m<k-j
   ·rw[Qc6 h]
   ·rw[Qgw (by lia),D (m-(k-j)) (by lia),<-C];congr 1;lia
 unfold atR;rw[h1,h2]
 by_cases h:i<j
 ·grind
 ·have:=Qem (i-j) (show 0<k-j by lia);rw[Qay h,Qaf,Qgv,q _ (by lia)];show T _=_;rw[per];congr 1;lia
def bN:Am->Nat
 |[]=>0
 |b::l=>(if b=true then 1 else 0)+2*bN l
theorem Zo4:∀l:Am,bN l<2^l.length
 |[]=>Nat.one_pos
 |b::l=>by
  have:=Zo4 l;show(if b=true then 1 else 0)+2*bN l<2^(l.length+1);split<;>lia
theorem Zj1:∀{a b:Am},a.length=b.length->bN a=bN b->a=b
 |[],[],_,_=>rfl
 |[],_::_,h,_=>nomatch h
 |_::_,[],h,_=>nomatch h
 |x::a,y::b,h,e=>by
  have e:(if x=true then 1 else 0)+2*bN a=(if y=true then 1 else 0)+2*bN b:=e;have e2:bN a=bN b:=by split at e<;>split at e<;>lia
  rw[Zj1 (Nat.succ.inj h) e2];rw[e2]at e;congr 1;cases x<;>cases y<;>first|rfl|(simp at e)
def Zj2{l:List d}{f:d->Nat}(h:l.Nodup)(F:∀x∈l,∀y∈l,f x=f y->x=y):(l.map f).Nodup:=Qe5.mpr (h.imp_of_mem fun q D C e=>C (F _ q _ D e))
def Few.turns{nx:Ad}{R k:Nat}(F:Few nx n R)(hR:R<=16)(M:Mch nx n)(hd:∀i j,i<j->j<k->X3 nx n i≠X3 nx n j):k<=65546:=by
 obtain⟨g,Y,he⟩:=F;have ex:∃c:Nat->List Bool,(∀i,(c i).length=R)/\∀i j r,r<R->c i=c j->(∃ls:Aj,ls.length=i/\(∀x∈ls,x<n)/\g ls=r)->∃ls:Aj,ls.length=j/\(∀x∈ls,x<n)/\g ls=r:=by
  refine⟨fun i=>(List.range R).map fun r=>@decide (∃ls:Aj,ls.length=i/\(∀x∈ls,x<n)/\g ls=r) (Classical.propDecidable _),fun i=>by rw[Qab,Qbb],fun i j r Z e h=>?_⟩;have:=congrArg (fun l:Am=>l[r]?) e;simp only[Qah,Qej Z,Qfm,Option.some.injEq]at this;exact(@decide_eq_true_iff _ (Classical.propDecidable _)).mp (this ▸ (@decide_eq_true_iff _ (Classical.propDecidable _)).mpr h)
 obtain⟨c,q,D⟩:=ex;have sub:∀i j,10<=i->10<=j->c i=c j->∀x,x∈X3 nx n i->x∈X3 nx n j:=fun i j hi hj e x C=>by
  obtain⟨ls,h1,h2,rfl⟩:=(Yv M).mp C;obtain⟨J,L,G,g3⟩:=D i j (g ls) (Y ls h2) e ⟨ls,h1,h2,rfl⟩;exact(Yv M).mpr ⟨J,L,G,he J ls G h2 (.inr ⟨by lia,by lia⟩) g3⟩
 have O:((List.range (k-10)).map fun i=>bN (c (10+i))).Nodup:=Zj2 List.nodup_range fun a ha b hb e=>by
  have I:=Zj1 (by rw[q,q]) e;have es:X3 nx n (10+a)=X3 nx n (10+b):=uG (Jw nx n _) (Jw nx n _) fun x=>⟨sub _ _ (by lia) (by lia) I x,sub _ _ (by lia) (by lia) I.symm x⟩;rcases Nat.lt_trichotomy a b with h|h|h
  ·grind
  ·exact h
  ·grind
 have:=Ze7 (n:=2^16) O fun x C=>by
  obtain⟨i,_,rfl⟩:=Qau.mp C;refine Qbk (Zo4 _) ?_;rw[q];exact Qcr (by decide) hR
 rw[Qab,Qbb]at this;lia
def Few.set{nx:Ad}{R k:Nat}(F:Few nx n R)(C:S.Nodup)(h:∀x∈S,Rch nx n k x):S.length<=R:=by
 obtain⟨g,G,J⟩:=F;have ex:∃f:Nat->List Nat,∀x∈S,(f x).length=k/\(∀y∈f x,y<n)/\stN nx 0 (f x)=x:=by
  refine⟨fun x=>@dite _ (Rch nx n k x) (Classical.propDecidable _) (fun h=>Classical.choose h) fun _=>[],fun x q=>?_⟩;have z:=h x q;have e:@dite _ (Rch nx n k x) (Classical.propDecidable _) (fun h=>Classical.choose h) (fun _=>[])=Classical.choose z:=dif_pos z;have sp:=Classical.choose_spec z;rw[<-e]at sp;exact sp
 obtain⟨f,D⟩:=ex;have:=Ze7 (n:=R) (Zj2 (f:=fun x=>g (f x)) C fun x q y I e=>by
  grind) fun x q=>by
  grind
 rwa [Qab]at this
def sT(nm:Ai)(q:A2):Int×Ak->List Nat->Int×Ak
 |s,[]=>s
 |s,c::r=>sT nm q ((nxS nm q s).getD c (0,[])) r
def Zo5{nm:Ai}{q:A2}{l:List (Int×Ak)}(S:WJ nm q)(B:BfE (nxS nm q) (0,List.replicate (Y7 q) 0) l):∀(ls:Aj) (s:Int×Ak),(∀x∈ls,x<2^nm.length)->s∈l->s∈uni (Y7 q) (lgB q+1)->
  stN (rnG (nxS nm q) l) (ixG l s) ls=ixG l (sT nm q s ls)/\sT nm q s ls∈uni (Y7 q) (lgB q+1)/\(sT nm q s ls).1=min (s.1+(ls.length:Int)) (lgB q:Int)
 |[],s,_,_,C=>by
  obtain⟨p,h1,h2,_⟩:=XS.mp C;refine⟨rfl,C,?_⟩;show s.1=min (s.1+((0:Nat):Int)) _;lia
 |c::r,s,I,hs,C=>by
  have G:=I c Qai;have F:c<(nxS nm q s).length:=by rw[Zem];exact G
  have J:(nxS nm q s).getD c (0,[])∈nxS nm q s:=Qar (getD_at F);have e1:((nxS nm q s).getD c (0,[])).1=min (s.1+1) (lgB q:Int):=by
   unfold nxS nxT;rw[Qaf,Qah,Qej G];rfl
  have e2:((rnG (nxS nm q) l).getD (ixG l s) []).getD c 0=ixG l ((nxS nm q s).getD c (0,[])):=by
   rw[Zjr (fun s hs x D=>B.next hs D) hs,Qaf,Qah,getD_at (d:=(0,[])) F];rfl
  obtain⟨a1,a2,L⟩:=Zo5 S B r ((nxS nm q s).getD c (0,[])) (fun x D=>I x (Qal _ D)) (B.next hs J) (qV S.wc rfl C _ J);refine⟨?_,a2,?_⟩
  ·show stN _ (((rnG (nxS nm q) l).getD (ixG l s) []).getD c 0) r=_;rw[e2];exact a1
  ·show(sT nm q _ r).1=min (s.1+((r.length+1:Nat):Int)) _;lia
theorem Zfi{nx q:Ad}{ot D:Az}{b Y n:Nat}{A:Nat->Nat->Prop}(M:Bis nx q ot D b Y A)(G:∀r∈nx,r.length=2^n)(C:∀r∈q,r.length=2^n):∀{ls:Aj} {s s':Nat},A s s'->(∀x∈ls,x<2^n)->A (stN nx s ls) (stN q s' ls)
 |[],_,_,h,_=>h
 |c::ls,s,s',h,F=>by
  have Z:=F c Qai;obtain⟨J,L⟩:=M.lt s s' h;have l1:=G _ (getD_mem J);have l2:=C _ (getD_mem L);have O:=M.next s s' c _ _ h (getD_at (d:=0) (by lia)) (getD_at (d:=0) (by lia));exact Zfi M G C (ls:=ls) O fun x I=>F x (Qal _ I)
def few_of{l:List (Int×Ak)}{ot:Az}{F cs:Aj}(S:WJ N r)(B:BfE (nxS N r) (0,List.replicate (Y7 r) 0) l)(L:Lst N 0 (rnG (nxS N r) l) ot true F cs):Few (lsR (rnR (rnG (nxS N r) l) F) cs) (2^N.length) (2^Y7 r):=by
 have D:((0:Int),List.replicate (Y7 r) (0:Int))∈uni (Y7 r) (lgB r+1):=XS.mpr ⟨0,by lia,rfl,YK.mpr ⟨Qa1,fun x G=>.inl (Qec G)⟩⟩;have ok:=fun(ls:Aj) (h:∀x∈ls,x<2^N.length)=>Zo5 S B ls _ h B.begin.2 D;have C:∀ls:Aj,(∀x∈ls,x<2^N.length)->(sT N r (0,List.replicate (Y7 r) 0) ls).2∈Wt (Y7 r):=fun ls h=>by
  obtain⟨_,_,_,z⟩:=XS.mp (ok ls h).2.1;exact z
 refine⟨fun ls=>ixG (Wt (Y7 r)) (sT N r (0,List.replicate (Y7 r) 0) ls).2,fun ls h=>?_,fun ls q h h' I e=>?_⟩
 ·rw[<-zb];exact(Qag.mp (zc (C ls h))).1
 ·have e2:(sT N r (0,List.replicate (Y7 r) 0) ls).2=(sT N r (0,List.replicate (Y7 r) 0) q).2:=by
   have i1:(Wt (Y7 r))[ixG (Wt (Y7 r)) (sT N r (0,List.replicate (Y7 r) 0) ls).2]?=_:=zc (C ls h);have i2:(Wt (Y7 r))[ixG (Wt (Y7 r)) (sT N r (0,List.replicate (Y7 r) 0) q).2]?=_:=zc (C q h');try dsimp only at e
   rw[e,i2]at i1;exact(Option.some.inj i1).symm
  have e1:(sT N r (0,List.replicate (Y7 r) 0) ls).1=(sT N r (0,List.replicate (Y7 r) 0) q).1:=by
   rw[(ok ls h).2.2,(ok q h').2.2];have:lgB r<=10:=uk S.iz;rcases I with z|⟨M,J⟩
   ·rw[z]
   ·grind
  have es:sT N r (0,List.replicate (Y7 r) 0) ls=sT N r (0,List.replicate (Y7 r) 0) q:=Qhv e1 e2;have st:stN (rnG (nxS N r) l) 0 ls=stN (rnG (nxS N r) l) 0 q:=by
   have a:=(ok ls h).1;have b:=(ok q h').1;rw[B.zero]at a b;rw[a,b,es]
  have a:=Zfi L.al.bis L.W.nr L.W2.nr L.al.b h;have b:=Zfi L.al.bis L.W.nr L.W2.nr L.al.b h';rw[st]at a;exact L.al.fn _ _ _ a b
theorem zj{α:Type}{g:α->Nat}:∀{l:List α},0<(l.map g).sum↔∃x∈l,0<g x
 |[]=>⟨fun z=>absurd z (Qce 0),fun⟨_,z,_⟩=>nomatch z⟩
 |a::l=>by
  rw[Qbx,List.sum_cons];constructor
  ·intro h;rcases Qgu (g a)with z|z
   ·obtain⟨x,h1,h2⟩:=zj.mp (show 0<(l.map g).sum by lia);exact⟨x,Qal _ h1,h2⟩
   ·exact⟨a,Qai,z⟩
  ·rintro⟨x,h1,h2⟩;rcases Qao.mp h1 with rfl|z
   ·lia
   ·have:=zj.mpr ⟨x,z,h2⟩;lia
theorem Zj3{n:Nat}:∀{W:Nat} {g:Aj->Nat},0<SQ n W g↔∃ls:Aj,ls.length=W/\(∀x∈ls,x<n)/\0<g ls
 |0,g=>⟨fun z=>⟨[],rfl,(fun _ z=>nomatch z),z⟩,fun⟨ls,h,_,z⟩=>by rw[Qco h]at z;exact z⟩
 |W+1,g=>by
  show 0<SQ n W (fun ls=>Jv n fun l=>g (ls++[l]))↔_;rw[Zj3];constructor
  ·rintro⟨ls,h1,h2,C⟩;obtain⟨c,G,D⟩:=zj.mp C;refine⟨ls++[c],by rw[Qak,h1];rfl,fun x q=>?_,D⟩;rcases Qbo.mp q with z|z
   ·exact h2 x z
   ·grind
  ·rintro⟨ls,h1,h2,C⟩;rcases yB ls with rfl|⟨F,c,rfl⟩
   ·cases h1
   ·rw[Qak]at h1;exact⟨F,Nat.succ.inj h1,fun x q=>h2 x (Qbo.mpr (.inl q)),zj.mpr ⟨c,Qbu.mpr (h2 c (Qbo.mpr (.inr (Qaw.mpr rfl)))),C⟩⟩
theorem tw_iff{nx:Ad}{ot:Az}{wb:Bool}(S:WJ N r)(J:Tells r N nx ot)(M:Mch nx (2^N.length))(ho:∀s,s<nx.length->(ot.getD s []).length=2^N.length):
  Tw r N wb i=true↔∃s∈X3 nx (2^N.length) i,V.bl wb∈ot.getD s []:=by
 have e0:Tw r N wb i=true↔0<((chs (2^(i+1)) N.length).map fun vs=>if We (2^(i+1)) (kh N vs) r []=[.bl wb]then 1 else 0).sum:=by
  unfold Tw;rw[Qcc,zj];refine exists_congr fun vs=>Qhu fun _=>?_
  split<;>simp_all
 have C:∀(q:Aj) (c:Nat),q.length=i->(rnO nx ot 0 (q++[c]))[i+1-1]?=some ((ot.getD (stN nx 0 q) []).getD c .non):=fun q c h=>by
  rw[ur,Qgx,Qa0 (by rw[wA,h];exact Qaj _),wA,h,Qe0];rfl
 rw[e0,Ze4,<-Ze3,Zj3];constructor
 ·rintro⟨ls,h1,h2,G⟩;obtain⟨b,e1,e2⟩:=J (i+1) ls (by lia) h1 h2;rw[<-Ze9 (fun y F=>Ze8 F ls) S.ty,e1]at G;split at G
  ·rename_i D;cases D;rcases yB ls with rfl|⟨q,c,rfl⟩
   ·cases h1
   ·rw[Qak]at h1;have O:∀x∈q,x<2^N.length:=fun x I=>h2 x (Qbo.mpr (.inl I));rw[C q c (Nat.succ.inj h1)]at e2;refine⟨_,(Yv M).mpr ⟨q,Nat.succ.inj h1,O,rfl⟩,?_⟩;rw[<-Option.some.inj e2];exact Qar (getD_at (by grind))
  ·exact absurd G (Qce 0)
 ·rintro⟨s,hs,Z⟩;obtain⟨q,h1,h2,rfl⟩:=(Yv M).mp hs;obtain⟨c,L⟩:=Qcl.mp Z;have Y:=(Qag.mp L).1;rw[ho _ (M.st q h2)]at Y;have D:∀x∈q++[c],x<2^N.length:=fun x I=>by
   grind
  obtain⟨b,e1,e2⟩:=J (i+1) (q++[c]) (by lia) (by rw[Qak,h1];rfl) D;rw[C q c h1,Qaf,L]at e2;cases e2;refine⟨q++[c],by rw[Qak,h1];rfl,D,?_⟩;rw[<-Ze9 (fun y F=>Ze8 F (q++[c])) S.ty,e1,Qa3 rfl];exact Nat.one_pos
def kyS(S:Aj):List Key:=S.map fun x:Nat=>(.inl (x:Int):Key)
def kyS_kV(S:Aj):(kyS S).map kV=S.map WI:=by
 unfold kyS;rw[Qax];rfl
theorem wG:∀{a b:Aj},kyS a=kyS b->a=b
 |[],[],_=>rfl
 |[],_::_,h=>nomatch h
 |_::_,[],h=>nomatch h
 |x::a,y::b,h=>by
  injection h with h1 h2;rw[Int.ofNat.inj (Sum.inl.inj h1),wG h2]
def plc(nx:Ad)(n k:Nat):List (List Key×V):=(List.range k).map fun i:Nat=>(kyS (X3 nx n i),V.int (i:Int))
def Zng(nx:Ad)(n k:Nat):(plc nx n k).length=k:=by
 unfold plc;rw[Qab,Qbb]
def plc_in{nx:Ad}{k:Nat}(h:(Yi (plc nx n k) (kyS S)).isSome=true):∃j,j<k/\X3 nx n j=S:=by
 rw[<-X8]at h;obtain⟨q,h1,h2⟩:=Qcc.mp h;obtain⟨j,C,rfl⟩:=Qau.mp h1;exact⟨j,Qbu.mp C,wG (Qbg h2)⟩
def plc_no{nx:Ad}{k:Nat}(h:(Yi (plc nx n k) (kyS S)).isSome=false):∀j,j<k->X3 nx n j≠S:=by
 rw[<-X8]at h;intro j q e;have:=List.any_eq_false.mp h _ (Qau.mpr ⟨j,Qbu.mpr q,rfl⟩);exact this (Qan (by rw[e]))
def Znh{nx:Ad}{k:Nat}(h:(Yi (plc nx n k) (kyS (X3 nx n k))).isSome=false):putK (plc nx n k) (kyS (X3 nx n k)) (.int (k:Int))=plc nx n (k+1):=by
 rw[<-X8]at h;unfold putK;rw[h,Qay (fun z=>nomatch z)];unfold plc;rw[Qeb,Qaz];rfl
def Zfj{nx:Ad}{k:Nat}(D:∀i j,i<j->j<k->X3 nx n i≠X3 nx n j){j:Nat}(F:j<k):Yi (plc nx n k) (kyS (X3 nx n j))=some (.int (j:Int)):=by
 refine qN (kvs:=plc nx n k) ?_ (kyS (X3 nx n j),.int (j:Int)) (Qau.mpr ⟨j,Qbu.mpr F,rfl⟩);unfold plc;rw[Qax];refine Qe5.mpr ((List.pairwise_lt_range (n:=k)).imp_of_mem fun ha C q e=>D _ _ q (Qbu.mp C) (wG e))
def any_tw{ot:Az}{wb b:Bool}(C:∀s∈S,∀v∈ot.getD s [],∃b:Bool,v=.bl b)(h:b=true↔∃s∈S,V.bl wb∈ot.getD s []):(S.map fun s=>inV (.bl wb) (ot.getD s [])).any id=b:=by
 rw[Qdo,h,List.any_map,Qcc];refine exists_congr fun s=>Qhu fun hs=>?_;show inV (.bl wb) (ot.getD s [])=true↔_;unfold inV;rw[Qcc]
 constructor
 ·rintro⟨v,q,e⟩;obtain⟨c,rfl⟩:=C s hs v q;have:c=wb:=by cases c<;>cases wb<;>first|rfl|cases e
  rw[<-this];exact q
 ·intro q;exact⟨_,q,by cases wb<;>rfl⟩
def Zfk{s:Nat}(h1:1<=s)(h2:s<B.length)(h:B.length%s=0)(e:B=(List.replicate (B.length/s) (B.take s)).flatten):zH B s:=by
 obtain⟨m,C⟩:∃m,B.length/s=m+1:=⟨B.length/s-1,by have:=Nat.div_pos (Qav h2) h1;lia⟩;rw[C]at e;refine⟨h,?_⟩;have q:B.drop s=(List.replicate m (B.take s)).flatten:=by
  grind
 unfold rot;rw[q];rw[Qfa,List.flatten_append]at e;rw[show[B.take s].flatten=B.take s by rw[List.flatten_cons,List.flatten_nil,Qby]]at e;exact e.symm
def rep_bl(k:Nat)(u:Am):(List.replicate k (u.map V.bl)).flatten=((List.replicate k u).flatten).map V.bl:=by
 rw[List.map_flatten,List.map_replicate]
theorem ZS.per{T:Nat->Bool}{q:Am}(S:ZS T B q):∀i,B.length<=i->T (i+q.length)=T i:=fun i hi=>by
 rw[<-S.at_,<-S.at_];unfold atR;rw[Qay (by lia),Qay (by lia),show i+q.length-B.length=(i-B.length)+q.length by lia,Qhb]
theorem yC{T:Nat->Bool}{N p:Nat}(h:∀i,N<=i->T (i+p)=T i):∀k i,N<=i->T (i+p*k)=T i
 |0,_,_=>rfl
 |k+1,i,hi=>by
  rw[Nat.mul_succ,<-Qfs,h _ (by lia)];exact yC h k i hi
theorem Zni{T:Nat->Bool}{N:Nat}(a b:Nat):(∀i,N<=i->T (i+a)=T i)->(∀i,N<=i->T (i+b)=T i)->∀i,N<=i->T (i+Nat.gcd a b)=T i:=by
 induction a,b using Nat.gcd.induction with
 |H0 n=>
  intro _ h;rw[Nat.gcd_zero_left];exact h
 |H1 m n C q=>
  intro h1 h2;rw[Nat.gcd_rec];refine q (fun i hi=>?_) h1;have e:=yC h1 (n/m) (i+n%m) (by lia);rw[show i+n%m+m*(n/m)=i+n by have:=Nat.mod_add_div n m;lia,h2 i hi]at e;exact e.symm
def ZS.le{T:Nat->Bool}{D C q:Am}(S:ZS T B D)(L:ZS T C q):D.length<=q.length:=by
 have p1:=S.pos;have p2:=L.pos;have O:=Zni (T:=T) (N:=max B.length C.length) D.length q.length (fun i hi=>S.per i (by lia)) fun i hi=>L.per i (by lia);have M:0<Nat.gcd D.length q.length:=Nat.gcd_pos_of_pos_left _ p1;have J:Nat.gcd D.length q.length∣D.length:=Nat.gcd_dvd_left _ _;have Z:=Nat.le_of_dvd p2 (Nat.gcd_dvd_right D.length q.length);have Y:=Nat.le_of_dvd p1 J;generalize Nat.gcd D.length q.length=g at *;rcases Qgr g D.length with h|h
 ·exfalso;have all:∀i,B.length<=i->T (i+g)=T i:=fun i hi=>by
   have e1:=yC S.per (max B.length C.length) i hi;have e2:=yC S.per (max B.length C.length) (i+g) (by lia);have:=Nat.le_mul_of_pos_left (max B.length C.length) p1;rw[<-e1,<-e2,<-O _ (by lia:max B.length C.length<=i+D.length*max B.length C.length)];congr 1;lia
  have I:∀j,D[j%D.length]?=some (T (B.length+j)):=fun j=>by
   have F:=Qem j p1;rw[<-S.at_];unfold atR;rw[Qay (by lia),Nat.add_sub_cancel_left,Qaf,Qac F];rfl
  refine S.prim g M h ⟨Nat.mod_eq_zero_of_dvd J,Qfx fun j=>?_⟩
  by_cases F:j<D.length
  ·have G:=I j;rw[Qc6 F]at G;rw[Zfe Y F,I,G,<-Qfs,all _ (by lia)]
  ·rw[Qe1 (by unfold rot;rw[Qak,Qbq,Qa2];lia),Qe1 (by lia)]
 ·lia
def ZS.tail{T:Nat->Bool}{G q C:Am}(S:ZS T B G)(D:ZS T q C)(I:G.length=C.length):q.length<=B.length:=by
 rcases Qgr B.length q.length with h|h
 ·exfalso;have F:q≠[]:=fun z=>by grind
  have p:=D.pos;refine D.last F ?_;have e:=S.per (q.length-1) (by lia);rw[I,<-D.at_,<-D.at_]at e;unfold atR at e;rw[Qay (by lia),Qa3 (by lia),show q.length-1+C.length-q.length=C.length-1 by lia,Qc6 (by lia)]at e;exact e.symm
 ·exact h
def ZS.one{T:Nat->Bool}{I C q:Am}(S:ZS T B I)(F:ZS T C q):B=C/\I=q:=by
 have G:I.length=q.length:=Qhq (S.le F) (F.le S);have J:B.length=C.length:=Qhq (F.tail S G.symm) (S.tail F G);have D:∀{a b:Am},a.length=b.length->(∀i,i<a.length->a.getD i false=b.getD i false)->a=b:=fun{a b} L h=>Qfx fun i=>by
  grind
 have same:∀i,atR B I i=atR C q i:=fun i=>by rw[S.at_,F.at_]
 refine⟨D J fun i hi=>?_,D G fun i hi=>?_⟩
 ·have:=same i;unfold atR at this
  rwa [Qa3 hi,Qa3 (by lia)]at this
 ·have:=same (B.length+i);unfold atR at this
  rwa [Qay (by lia),Qay (by lia),<-J,Nat.add_sub_cancel_left,<-G,Qc6 hi]at this
def Zo6(h:∀vs∈chs (2^(i+1)) N.length,∃b:Bool,We (2^(i+1)) (kh N vs) r []=[.bl b])(wb:Bool):inV (.bl wb) ((chs (2^(i+1)) N.length).map fun vs=>V.bl (decide (We (2^(i+1)) (kh N vs) r []=[.bl true])))=Tw r N wb i:=by
 unfold inV Tw;rw[List.any_map,Qdo,Qcc,Qcc];refine exists_congr fun vs=>Qhu fun q=>?_;obtain⟨b,e⟩:=h vs q;show eqV (.bl (decide (We (2^(i+1)) (kh N vs) r []=[.bl true]))) (.bl wb)=true↔decide (We (2^(i+1)) (kh N vs) r []=[.bl wb])=true;rw[e];cases b<;>cases wb<;>decide
def Zfl{D F:Aw}{J:Am}(h1:H f=some (.tup (B.map V.bl)))(h2:H Z=some (.tup (J.map V.bl)))(L:H D=some (.tup (B.map V.bl)))(M:H F=some (.tup (J.map V.bl))):
  ∀(j:Nat) (u v:V),[V.ref f,V.ref Z][j]?=some u->[V.ref D,V.ref F][j]?=some v->EqD H 3 u v:=by
 have I:∀{q q':Aw} {bs:Am},H q=some (.tup (bs.map V.bl))->H q'=some (.tup (bs.map V.bl))->EqD H 3 (.ref q) (.ref q'):=fun{q q' bs} a b=>.inr ⟨q,q',_,_,rfl,rfl,a,b,rfl,fun j u v C G=>.inl ⟨by
  rw[Qah]at C;obtain⟨x,_,rfl⟩:=Qa4.mp C;rfl,by rw[C]at G;exact Option.some.inj G⟩⟩
 intro j u v C G
 match j,C,G with
 |0,rfl,rfl=>exact I h1 L
 |1,rfl,rfl=>exact I h2 M
def spF(f:(Nat->Bool)->Nat->Bool)(wb:Bool)(F pl:Aw):Sp:=fun vs H Q _=>∃(t:Aw) (q:A2),vs=[.ref t]/\H t=some (.tup q)/\(∀w∈q,jB w)/\q.length<=60/\(∀C,NmC q C->WJ C q)/\Y7 q<=4/\Yo H F Zt Zs/\Yo H pl Yr Ys/\∀p I G C tl D H',NmC q C->ZS (f (Tw q C wb)) tl D->H' p=some (.tup [.ref I,.ref G])->H' I=some (.tup (tl.map V.bl))->H' G=some (.tup (D.map V.bl))->tl.length<=100000->D.length<=100000->Yo H' F Zt Zs->Yo H' pl Yr Ys->Zph F pl H H'->Q (.ref p) H'
set_option genInjectivity false in
set_option genSizeOfSpec false in
structure Adr where
 om:Aw
 oq:Ao
 mf:Aw
 mh:Ao
 dw:Aw
 dy:Ao
 ou:Aw
 ow:Ao
 iu:Aw
 iw:Ao
 mi:Aw
 mj:Ao
 fg:Aw
 fh:Ao
 cg:Aw
 cj:Ao
 fi:Aw
 fj:Ao
 ck:Aw
 cm:Ao
 ix:Aw
 iy:Ao
 mm:Aw
 mn:Ao
 ox:Aw
 oy:Ao
 fk:Aw
 fq:Ao
 bj:Aw
 bp:Ao
 tj:Aw
 tq:Ao
 aad:Aw
 aae:Ao
 oz:Aw
 pb:Ao
 ft:Aw
 fu:Ao
 ka:Aw
 lb:Ao
 pe:Aw
 ph:Ao
 mq:Aw
 mr:Ao
 mw:Aw
 my:Ao
 lg:Aw
 lh:Ao
 lj:Aw
 lq:Ao
 fw:Aw
 gb:Ao
 pj:Aw
 pk:Ao
 aaf:Aw
 aag:Ao
 cq:Aw
 cu:Ao
 qs:Aw
 rb:Ao
 tu:Aw
 vb:Ao
 dz:Aw
 ee:Ao
 mz:Aw
 nc:Ao
 gi:Aw
 gj:Ao
 rd:Aw
 rf:Ao
 ng:Aw
 nh:Ao
 bq:Aw
 br:Ao
 eh:Aw
 el:Ao
 rh:Aw
 rj:Ao
 ia:Aw
 ib:Ao
 rk:Aw
 rn:Ao
 ni:Aw
 nj:Ao
 vl:Aw
 vr:Ao
 cx:Aw
 cy:Ao
 aah:Aw
 oi:Ao
 bf:Aw
 aw:Ao
 cz:Aw
 da:Ao
 bu:Aw
 bw:Ao
 ic:Aw
 ie:Ao
 wh:Aw
 aaa:Ao
 rp:Aw
 rq:Ao
 aam:Aw
 aan:Ao
 oj:Aw
 ao:Aw
 ax:Aw
 aa:Aw
 aj:Aw
 ag:Aw
 af:Aw
 aar:Tok
 aai:Tok
 aq:Aw
structure Kg(K:Af)(w:Au)(mg:Ae)(x:Str)(a:Aw)(l:List (Str×Int)):Prop where
 m:mg x=some (.ref a)
 d:KD K w a l
structure Kt(K:Af)(mg:Ae)(x:Str)(a:Aw)(l:Ai):Prop where
 m:mg x=some (.ref a)
 d:∀H,SqT K H a (l.map V.str)
structure Df(K:Af)(mg:Ae)(x:Str)(st:Ay)(ps:Ai)(f:Aw)(fd:Ao):Prop where
 F:Fun K x x st f fd
 m:mg x=some (.ref f)
 b:Binds K fd ps []
def Zl {X:Cx}  {st:Ay} {ps:Ai}  {fd:Ao} {k:Nat} {sp:Sp}   {es:An} {t:TA} (d:Df X.K X.mg x st ps f fd) (F:Y5 X.prog X.w X.K X.mg X.base CX0 k f fd ps sp) (I:WK n X.A) (ha:QA X (e::es) t) (J:k<=n:=by decide) (G:Gl X x:=by exact rfl) (C:(x == ("__debug__" : Str))=false:=by decide) (D:(e::es).all ZU=true:=by rfl):QE X (.Call (.Name x p) (e::es) [] q) (Zf3 sp [] E0 t):=jR F (I.mono J) G d.m d.F.kp d.b .nil Zkr ha C D
set_option genInjectivity false in
set_option genSizeOfSpec false in
structure Txt(K:Af)(w:Au)(mg:Ae)(t:Adr):Prop where
 aj:Kg K w mg "SUM_PARTS" t.aj [("not",1),("neg",1),("twice",1),("low",1),("and",2),("or",2),("odd",2),("add",2),("sub",2),("pick",3)]
 ag:Kg K w mg "SUMS_IN_CLAIM" t.ag [("same",2),("under",2),("beneath",2),("sign",1),("nought",1)]
 af:Kg K w mg "CLAIMS_IN_CLAIM" t.af [("both",2),("either",2),("so",2),("never",1),("yes",0)]
 aas:mg "LETTERS" = some (.str "abcdefghijklmnopqrstuvwxyz" t.aar)
 aaj:mg "LONGEST_NAME" = some (.int 8 t.aai)
 aq:Kt K mg "REMEMBERING" t.aq ["neg","twice","low","add","sub","same","under","beneath","nought"]
 rr:Df K mg "words_at" jz ["width"] t.om t.oq
 nq:Df K mg "number_of" x9 ["bits"] t.mf t.mh
 et:Df K mg "state_number" J0 ["state","states","numbers"] t.dw t.dy
 dc:Df K mg "numbered" GP ["marks"] t.ou t.ow
 ba:Df K mg "classes_of" WX ["states","classes"] t.iu t.iw
 nu:Df K mg "firsts_of" xA ["classes"] t.mi t.mj
 ig:Df K mg "is_sum_word" Gb ["text"] t.fg t.fh
 dh:Df K mg "is_claim_word" WY ["text"] t.cg t.cj
 ij:Df K mg "sums_behind" Gd ["word"] t.fi t.fj
 di:Df K mg "claims_behind" WZ ["word"] t.ck t.cm
 lu:Df K mg "is_made_of" Ja ["text","signs"] t.ix t.iy
 bh:Df K mg "remembers" xB ["word"] t.mm t.mn
 dj:Df K mg "borrowed" j0 ["one","other","held"] t.ox t.oy
 ik:Df K mg "out_at_once" Ge ["word","parts"] t.fk t.fq
 bx:Df K mg "longest_number" Xf ["words"] t.bj t.bp
 bb:Df K mg "bits_at" xC ["columns","letter"] t.tj t.tq
 lx:Df K mg "turned" ym ["truths"] t.aad t.aae
 rz:Df K mg "all_next" j4 ["states","steps"] t.oz t.pb
 il:Df K mg "ring_length" Gf ["ring"] t.ft t.fu
 ay:Df K mg "_law_number" qk ["script","k"] t.ka t.lb
 sf:Df K mg "_law_name" j5 ["number"] t.pe t.ph
 av:Df K mg "_law_parts" xD ["word"] t.mq t.mr
 nv:Df K mg "_law_named" JG ["words"] t.mw t.my
 ly:Df K mg "_law_of_one" ql ["word","one","full"] t.lg t.lh
 lz:Df K mg "_law_of_two" qm ["word","one","other","full"] t.lj t.lq
 ip:Df K mg "_law_choices" Gg ["names","full"] t.fw t.gb
 dk:Df K mg "_law_form" GQ ["told"] t.pj t.pk
 ma:Df K mg "_law_at" gT ["told","width"] t.aaf t.aag
 dm:Df K mg "alike_classes" Xw ["steps","out"] t.cq t.cu
 sh:Df K mg "parts_of" j6 ["word"] t.qs t.rb
 aab:Df K mg "is_name" vD ["text"] t.tu t.vb
 eu:Df K mg "name_columns" XR ["names","letters"] t.dz t.ee
 ny:Df K mg "kept_then" xE ["word","parts","held"] t.mz t.nc
 iq:Df K mg "out_by_kept" Gh ["word","parts","held","then"] t.gi t.gj
 si:Df K mg "shortest" j7 ["tail","ring"] t.rd t.rf
 nz:Df K mg "_law_names" xF ["script","start","many"] t.ng t.nh
 bz:Df K mg "_law_claim_word" Wy ["number","room","left"] t.bq t.br
 fe:Df K mg "_law_sum_word" J1 ["number","room","left","names","top"] t.eh t.el
 sj:Df K mg "_law_told" j8 ["words","full","values"] t.rh t.rj
 ir:Df K mg "parts_taken" Ws ["stack","word"] t.ia t.ib
 sr:Df K mg "names_of" GR ["words"] t.rk t.rn
 og:Df K mg "_law_words" xG ["script","start","names","most","left","top","claim"] t.ni t.nj
 bc:Df K mg "stepped" vE ["words","columns","place","kept"] t.vl t.vr
 ai:Df K mg "machine_found" Xx ["names","begin","step_of"] t.cx t.cy
 aak:Df K mg "least" xH ["machine"] t.aah t.oi
 bg:Df K mg "machine_telling" ZX ["words","names","told"] t.bf t.aw
 dn:Df K mg "claim_machine" Jb ["claim","names"] t.cz t.da
 cb:Df K mg "least_of_claim" Wz ["claim"] t.bu t.bw
 az:Df K mg "widths_with" Xk ["claim","wanted"] t.ic t.ie
 ff:Df K mg "for_all" vF ["claim"] t.wh t.aaa
 dt:Df K mg "for_some" j9 ["claim"] t.rp t.rq
 aaw:Df K mg "law" Zg5 ["script"] t.aam t.aan
 aat:t.oi.code=.ref t.oj
 aac:t.aw.code=.ref t.ax
 me:t.ao≠t.aa
 aax:mg "all" = none
 aay:mg "any" = none
 aau:mg "bool" = none
 aav:mg "dict" = none
 oh:mg "enumerate" = none
 du:mg "int" = none
 ak:mg "isinstance" = none
 ae:mg "len" = none
 aal:mg "list" = none
 su:mg "max" = none
 aao:mg "min" = none
 au:mg "range" = none
 sy:mg "reversed" = none
 aap:mg "set" = none
 cf:mg "sorted" = none
 aaq:mg "str" = none
 ah:mg "tuple" = none
 aaz:mg "zip" = none
set_option genInjectivity false in
set_option genSizeOfSpec false in
structure Tbs(mg:Ae)(base:Heap)(t:Adr):Prop where
 oj:PySem.W.CodeHd base t.oj t.ao
 ax:PySem.W.CodeHd base t.ax t.aa
 B:yc mg base
def Wu:Zv ["width","many","bit_number"] ["width"] (Zh jz):={}
def XD:Zv ["bits","number","bit"] ["bits"] (Zh x9):={}
def zk:Zv ["state","states","numbers"] ["state","states","numbers"] (Zh J0):={}
def zm:Zv ["marks","numbers"] ["marks"] (Zh GP):={}
def yD:Zv ["states","classes"] ["states","classes"] (Zh WX):={}
def XE:Zv ["classes","firsts","state","number"] ["classes"] (Zh xA):={}
def zI:Zv ["text"] ["text"] (Zh Gb):={}
def q5:Zv ["text"] ["text"] (Zh WY):={}
def zJ:Zv ["word"] ["word"] (Zh Gd):={}
def q8:Zv ["word"] ["word"] (Zh WZ):={}
def yE:Zv ["text","signs"] ["text","signs"] (Zh Ja):={}
def kj:Zv ["word"] ["word"] (Zh xB):={}
def wH:Zv ["one","other","held"] ["one","other","held"] (Zh j0):={}
def zK:Zv ["word","parts"] ["word","parts"] (Zh Ge):={}
def GW:Zv ["words"] ["words"] (Zh Xf):={}
def Za2:Zv ["columns","letter"] ["columns","letter"] (Zh xC):={}
def Zfm:Zv ["truths"] ["truths"] (Zh ym):={}
def Wv:Zv ["states","steps","reached","state","led_to"] ["states","steps"] (Zh j4):={}
def XT:Zv ["ring","length"] ["ring"] (Zh Gf):={}
def ZT:Zv ["script","k","cells","size","cell","turn","step","seed"] ["script","k"] (Zh qk):={}
def YW:Zv ["number","letters","some","name","k"] ["number"] (Zh j5):={}
def km:Zv ["word"] ["word"] (Zh xD):={}
def Je:Zv ["words","kept"] ["words"] (Zh JG):={}
def yF:Zv ["word","one","full"] ["word","one","full"] (Zh ql):={}
def yG:Zv ["word","one","other","full"] ["word","one","other","full"] (Zh qm):={}
def ZV:Zv ["names","full","found","name","longer","values","word","more"] ["names","full"] (Zh Gg):={}
def Xy:Zv ["told","row","tail","ring","size"] ["told"] (Zh GQ):={}
def zo:Zv ["told","width","tail","ring"] ["told","width"] (Zh gT):={}
def Yq:Zv ["steps","out","classes","many"] ["steps","out"] (Zh Xw):={}
def wI:Zv ["word"] ["word"] (Zh j6):={}
def Za3:Zv ["text"] ["text"] (Zh vD):={}
def YL:Zv ["names","letters","columns","place","name"] ["names","letters"] (Zh XR):={}
def qp:Zv ["word","parts","held","one"] ["word","parts","held"] (Zh xE):={}
def zL:Zv ["word","parts","held","then"] ["word","parts","held","then"] (Zh Gh):={}
def Xz:Zv ["tail","ring","length","kept","begin"] ["tail","ring"] (Zh j7):={}
def Jf:Zv ["script","start","many","found","k"] ["script","start","many"] (Zh xF):={}
def Z7:Zv ["number","room","left","some","word","judged"] ["number","room","left"] (Zh Wy):={}
def Yz:Zv ["number","room","left","names","top","some","word","hard"] ["number","room","left","names","top"] (Zh J1):={}
def YX:Zv ["words","full","values","pile","word","one","other"] ["words","full","values"] (Zh j8):={}
def zM:Zv ["stack","word"] ["stack","word"] (Zh Ws):={}
def wJ:Zv ["words"] ["words"] (Zh GR):={}
def Y0:Zv ["script","start","names","most","left","top","claim","words","parts","room","number","word"] ["script","start","names","most","left","top","claim"] (Zh xG):={}
def Xm:Zv ["words","columns","place","kept","stack","later","word","parts","held"] ["words","columns","place","kept"] (Zh vE):={}
def Yc:Zv ["names","begin","step_of","states","numbers","steps","out","told"] ["names","begin","step_of"] (Zh Xx):={}
def XF:Zv ["machine","found","steps","out","classes","firsts","least_steps","least_out"] ["machine"] (Zh xH):={}
def ZN:Zv ["words","names","told","letters","columns","last_place","step_of","begin"] ["words","names","told"] (Zh ZX):={}
def q9:Zv ["claim","names"] ["claim","names"] (Zh Jb):={}
def GX:Zv ["claim"] ["claim"] (Zh Wz):={}
def ZW:Zv ["claim","wanted","machine","steps","telling","states","places","truths"] ["claim","wanted"] (Zh Xk):={}
def jJ:Zv ["claim","told"] ["claim"] (Zh vF):={}
def wK:Zv ["claim"] ["claim"] (Zh j9):={}
def Jg:Zv ["script","first","names","left","words","alls","somes","width","full","truths"] ["script"] (Zh Zg5):={}
def Jx:Zl1 (Zh YH) ["state"] ["step","place","reached"] ["words","columns","last_place","letters","told"]:=⟨by rfl,by rfl,by rfl,by decide +kernel,by decide +kernel,by decide +kernel,by decide +kernel⟩
section
variable (P:Aq){w:Au}{K:Af}{mg:Ae}(base:Heap){t:Adr}
variable (T:Txt K w mg t)(TB:Tbs mg base t)
include T TB
inductive Gu(vs:A2)(H:Hp)(Q:VK):Prop
 |mk (w:Nat):(vs=[.int w])->(w<=1000)->(Q (.int (2^w)) H)->Gu vs H Q
def wL(K:Af):Sp:=fun vs H Q _=>Gu vs H Q
theorem wM:Y5 P w K mg base CX0 1 t.om t.oq ["width"] (wL K):=by
 refine T.rr.F.ok Wu (fun vs H Q E h=>?_) (fun q A outer s H vs Q E C h=>?_)
 ·obtain⟨_,rfl,_⟩:=h;rfl
 ·obtain⟨w,rfl,hw,k⟩:=h;have D:=ZK C;refine⟨_,@QSs.out _ _ _ (Zb (Zz 1 Wu.nd Zf)
    (Zb (Xb Qbp rfl (XW rfl T.au (Zi (qv 0) Zd)) (Xq 2 Wu.nd)
    (Ze (Zz 1 Wu.nd (Zp Xe (qv 1) Zf))))
    (Ze (Zo (qv 1))))),?_⟩
  refine L2.let3 ?_;intro G I;refine⟨_,rfl,(w:Int),rfl,by lia,by lia,XU (fun i σ H2=>∃v,σ=[some (.int w),some (.int (2^i)),v]/\H2=H) ⟨none,rfl,rfl⟩ ?_ ?_⟩
  ·rintro i σ H2 hi ⟨v,rfl,rfl⟩;refine⟨_,rfl,_,_,rfl,rfl,.inr (.inr ⟨by decide,by decide⟩),some (.int (0+(i:Int))),?_,rfl⟩;rfl
  ·rintro σ H2 ⟨v,rfl,rfl⟩;refine⟨_,rfl,?_⟩;exact k
omit T TB in
theorem Zh5{x:V}(h:(E.map V.int)[i]?=some x):∃b,x=V.int b/\E[i]?=some b:=by grind
inductive J3(K:Af)(vs:A2)(H:Hp)(Q:VK):Prop
 |mk (p:Aw) (ns:Ak):(vs=[.ref p])->(SqT K H p (ns.map V.int))->(Q (.int (hor ns.reverse)) H)->J3 K vs H Q
def ko(K:Af):Sp:=fun vs H Q _=>J3 K vs H Q
theorem kq:Y5 P w K mg base CX0 1 t.mf t.mh ["bits"] (ko K):=by
 refine T.nq.F.ok XD (fun vs H Q E h=>?_) (fun D A outer s H vs Q E I h=>?_)
 ·obtain⟨_,_,rfl,_⟩:=h;rfl
 ·obtain⟨p,ns,rfl,q,k⟩:=h;have J:=ZK I;refine⟨_,@QSs.out _ _ _ (Zb (Zz 1 XD.nd Zf)
    (Zb (Xb Qbp rfl (Zct rfl T.sy (qv 0)) (Xq 2 XD.nd)
    (Ze (Zz 1 XD.nd (Zp YA (Zp Xe (qv 1) Zf) (qv 2)))))
    (Ze (Zo (qv 1))))),?_⟩
  refine L2.let3 ?_;intro L M;refine⟨_,rfl,p,_,rfl,q,Zcu (K:=K) (a:=p) (xs:=ns.map V.int) (fun i σ H2=>∃v,σ=[some (.ref p),some (.int (hor (ns.reverse.take i))),v]/\H2=H) ⟨none,rfl,rfl⟩ (fun i σ H2 _ ⟨_,_,e⟩=>by rw[e];exact q) ?_ ?_⟩
  ·rintro i x σ H2 C ⟨v,rfl,rfl⟩;rw[<-List.map_reverse]at C;obtain⟨b,rfl,G⟩:=Zh5 C;refine⟨_,rfl,_,_,rfl,rfl,.inr (.inr ⟨by decide,by decide⟩),_,rfl,_,_,rfl,rfl,some (.int b),?_,rfl⟩;rw[Zhe G];rfl
  ·rintro σ H2 ⟨v,rfl,rfl⟩;refine⟨_,rfl,?_⟩;rw[Qcz (by grind)];exact k
inductive Wg(vs:A2)(H:Hp)(Q:VK):Prop
 |mk (κ:Type) (dq:DecidableEq κ) (sk:SK κ) (v:V) (st nd:Aw) (k:κ) (l:List κ) (ws:A2):(vs=[v,.ref st,.ref nd])->(H st=some (.lst ws))->(ws.length=l.length)->(sk.dic H nd l)->(sk.at_ H k v)->(l.Nodup)->(l.length<10000000)->(∀H' ws',H' st=some (.lst ws')->((k∈l/\ws'=ws)\/(k∉l/\ws'=ws++[v]))->sk.dic H' nd (Y4 l k)->(∀b o,H b=some o->b≠st->b≠nd->H' b=some o)->(∀b,H b=none->H' b=none)->Q (.int ((Y4 l k).idxOf k:Int)) H')->Wg vs H Q
def zp(K:Af):Sp:=fun vs H Q _=>Wg vs H Q
theorem zq:Y5 P w K mg base CX0 1 t.dw t.dy ["state","states","numbers"] (zp K):=by
 refine T.et.F.ok zk (fun vs H Q E h=>?_) (fun cdv A outer s H vs Q E hr h=>?_)
 ·obtain⟨_,_,_,_,_,_,_,_,_,rfl,_⟩:=h;rfl
 ·obtain⟨κ,_,sk,v,st,D,k0,l,L,rfl,C,hal,n,I,O,hl,k⟩:=h;have hu:=ZK hr;refine⟨_,@QSs.out _ _ _ (Zb (ZE (Zq (OpR.or (Zdo (v3 hr)) (JU hu)) (qv 0) (qv 2) (by with_unfolding_all rfl))
    (Zb (QS.or (Zlz (v3 hr) (qv 2) (qv 0) (Zn Zr (by rfl) T.ae Ya (Zi (qv 1) Zd)) rfl) (GC hu (qv 2) (qv 0) (Zn Zr (by rfl) T.ae Ya (Zi (qv 1) Zd)) rfl))
    (Ze (Yn (YD Qat Qa5 Qa6 ZF (qv 1) (Zi (qv 0) Zd))))) Zw)
    (Ze (Zo (QE.or (Zly (v3 hr) (qv 2) (qv 0) (fun _ _=>rfl)) (xq hu (qv 2) (qv 0) (fun _ _=>rfl)))))),?_⟩
  try dsimp only[L2.cxK,L2.cxK2]
  refine L2.let2 ?_;intro U1;have Z:st≠D:=fun z=>by
   obtain⟨o,e,_,h⟩:=SK.ne n;rw[<-z,C]at e;cases e;exact h _ rfl
  cases sk with
  |int f inj=>
   have n:H D=some (.dK (nk (l.map f))):=n;have I:v=.int (f k0):=I;subst I;have G:f k0∈l.map f↔k0∈l:=⟨fun z=>let⟨a,ha,e⟩:=Qau.mp z;inj _ _ e ▸ ha,fun z=>Qb6 z⟩;have M:(l.map f).Nodup:=by
    unfold List.Nodup;rw[Qe5];exact List.Pairwise.imp (fun hne e=>hne (inj _ _ e)) O
   have ei:=Zdl f k0 (Y4 l k0) fun a _ e=>inj _ _ e;have em:=gR f l k0 fun a _ e=>inj _ _ e;refine⟨_,rfl,_,rfl,.inr ⟨D,Yi (nk (l.map f)) (.inl (f k0)),rfl,.inl ⟨nk (l.map f),.inl (f k0),.inl n,rfl,rfl⟩,_,rfl,?_⟩⟩
   by_cases hs:k0∈l
   ·have e1:Y4 l k0=l:=Qa3 hs;rw[e1]at k ei;rw[Zec (G.mpr hs) M];refine ZD (.inr ⟨_,rfl,_,rfl,D,_,rfl,.inl ⟨nk (l.map f),.inl (f k0),.inl n,rfl,(Zec (G.mpr hs) M).symm⟩,?_⟩);rw[ei];exact k H L C (.inl ⟨hs,rfl⟩) n (fun _ _ e _ _=>e) fun _ e=>e
   ·have e1:Y4 l k0=l++[k0]:=Qay hs;have hs':f k0∉l.map f:=fun z=>hs (G.mp z);rw[e1]at k ei em;rw[Zmg hs'];have Y:((l++[k0]).map f).Nodup:=by
     rw[<-em];exact Wb M _
    refine Y2 (.inr ⟨_,rfl,st,_,rfl,.inl (SqL.of C),_,rfl,_,rfl,D,_,rfl,Zbe.k (k:=.inl (f k0)) n (by rw[nk_len,Qab];exact Yu (by lia)),?_⟩);rw[hal,show(l.length:Int)=((l.map f).length:Int) by rw[Qab],nk_put hs'];have e2:l.map f++[f k0]=(l++[k0]).map f:=by rw[Qaz];rfl
    rw[e2];have q:upd H D (.dK (nk ((l++[k0]).map f))) st=some (.lst L):=by rw[Zk Z];exact C
    refine⟨_,rfl,.inl ⟨rfl,_,SqL.of q⟩,_,rfl,st,_,_,rfl,rfl,q,Yu (by lia),?_⟩;have J:upd (upd H D (.dK (nk ((l++[k0]).map f)))) st (.lst (L++[.int (f k0)])) D=some (.dK (nk ((l++[k0]).map f))):=by rw[Zk Z.symm];exact Za
    refine .inr ⟨_,rfl,_,rfl,D,_,rfl,.inl ⟨_,.inl (f k0),.inl J,rfl,(Zec (Qb6 (by simp)) Y).symm⟩,?_⟩;rw[ei];refine k _ (L++[.int (f k0)]) Za (.inr ⟨hs,rfl⟩) J (fun b o e h1 h2=>?_) fun b e=>?_
    ·rw[Zk h1,Zk h2];exact e
    ·rw[Zk (fun z=>by rw[z,C]at e;cases e),Zk (fun z=>by rw[z,n]at e;cases e)];exact e
  |key kn=>
   have n:G8 kn H D (Xv l):=n;obtain⟨a,rfl,I⟩:=I;refine⟨_,rfl,_,rfl,.inl ⟨κ,_,kn,D,a,k0,_,rfl,rfl,n,I,_,rfl,?_⟩⟩
   by_cases G:k0∈l
   ·have e1:Y4 l k0=l:=Qa3 G;have hv:=WW l k0 G O;rw[e1]at k;rw[hv];exact ZD (.inl ⟨_,rfl,_,rfl,κ,_,kn,D,a,k0,_,_,rfl,rfl,n,I,hv,k H L C (.inl ⟨G,rfl⟩) n (fun _ _ e _ _=>e) fun _ e=>e⟩)
   ·have e1:Y4 l k0=l++[k0]:=Qay G;have hv:=GN l k0 G;have Y:(l++[k0]).Nodup:=e1 ▸ Wb O k0;rw[e1]at k;rw[hv];refine Y2 (.inl ⟨_,rfl,st,_,rfl,.inl (SqL.of C),_,rfl,_,rfl,κ,_,kn,D,a,k0,_,rfl,rfl,n,I,hv,?_,fun H2 n2 o2 hx=>?_⟩)
    ·rw[WV];exact Yu (by lia)
    rw[hal]at n2;rw[<-GL]at n2;have q:=o2 _ _ C Z;refine⟨_,rfl,.inl ⟨rfl,_,SqL.of q⟩,_,rfl,st,_,_,rfl,rfl,q,Yu (by lia),?_⟩;have n3:G8 kn (upd H2 st (.lst (L++[.ref a]))) D (Xv (l++[k0])):=SK.off (sk:=.key kn) n2 q;have hk2:kn.at_ H2 k0 a:=kn.keep _ _ _ _ (fun b xs e=>o2 b _ e fun z=>by
     obtain⟨o,e3,h3,_⟩:=Zee n;rw[z,e3]at e;cases e;exact h3 _ rfl) I
    have hk3:kn.at_ (upd H2 st (.lst (L++[.ref a]))) k0 a:=kn.keep _ _ _ _ (fun b xs e=>by rw[Zk (Xn e q fun z=>nomatch z)];exact e) hk2;refine .inl ⟨_,rfl,_,rfl,κ,_,kn,D,a,k0,_,_,rfl,rfl,n3,hk3,WW _ _ (by simp) Y,k _ (L++[.ref a]) Za (.inr ⟨G,rfl⟩) n3 (fun b o e h1 h2=>?_) fun b e=>?_⟩
    ·rw[Zk h1];exact o2 b o e h2
    ·obtain⟨oo,rfl⟩:=hx;rw[Zk (fun z=>by rw[z,C]at e;cases e),Zk (fun z=>by
      obtain⟨o,e3,_⟩:=Zee n;rw[z,e3]at e;cases e)]
     exact e
inductive Gv(vs:A2)(H:Hp)(Q:VK):Prop
 |mk (Kk:Type) (dq:DecidableEq Kk) (kn:KN Kk) (a:Aw) (as:List Aw) (ks:List Kk):(vs=[.ref a])->((H a=some (.lst (as.map V.ref))\/H a=some (.tup (as.map V.ref))))->(as.length=ks.length)->((∀(i:Nat) (b:Aw) (k:Kk),as[i]?=some b->ks[i]?=some k->kn.at_ H k b))->(ks.length<=1000000)->(∀p H',H p=none->H' p=some (.lst ((ks.map fun k=>((Z1 ks).idxOf k:Int)).map V.int))->Z8 H H'->Q (.ref p) H')->Gv vs H Q
def wN(K:Af):Sp:=fun vs H Q _=>Gv vs H Q
theorem wO:Y5 P w K mg base CX0 1 t.ou t.ow ["marks"] (wN K):=by
 refine T.dc.F.ok zm (fun vs H Q E h=>?_) (fun cdv A outer s H vs Q E hr h=>?_)
 ·obtain⟨_,_,_,_,_,_,rfl,_⟩:=h;rfl
 ·obtain⟨Kk,_,kn,a,as,ks,rfl,ha,hl,O,hz,k⟩:=h;have hu:=ZK hr;refine⟨_,@QSs.out _ _ _ (Zb (Zz 1 zm.nd xr)
    (Ze (Zo (Y3 ({}:ZP (Zh GP) _ ["marks","numbers"] "mark" ["numbers"] [1]) (show QI _ _ _ (Zoo K _)from Zlw (qv 0)) (fun _ _ _ _=>Xh) (fun _ _ _ _=>(Zlt (v3 hr) (qv 1) (Zi (qv 0) (Zi (Zn Zdj (by rfl) T.ae Ya (Zi (qv 1) Zd)) Zd)))))))),?_⟩
  refine L2.let2 ?_;intro U1;refine fun d hd=>?_;have J:=Zc (o:=.dK []) hd;refine Zg ?_;have n0:G8 kn (upd H d (.dK [])) d (Xv (Z1 (ks.take 0))):=⟨Qcq,(show 0<sizeLine by decide),.inl ⟨rfl,Za⟩⟩;have step:∀(i:Nat) (b:Aw) (q:Kk) (H1:Hp) (R:VK),as[i]?=some b->ks[i]?=some q->G8 kn H1 d (Xv (Z1 (ks.take i)))->(∀b o,H b=some o->H1 b=some o)->(∀H2,G8 kn H2 d (Xv (Z1 (ks.take (i+1))))->(∀b o,H b=some o->H2 b=some o)->R (V.int ((Z1 ks).idxOf q:Int)) H2)->tBMN (yP 1) (G9 (yP 0) (G9 (tCB Zom (G9 (yP 1) Zkj)) Zkj)) (xo [1] [some (.ref a),some (.ref d)] (some (.ref b))) H1 R:=by
   intro i b q H1 R C D L o1 hR;have e1:Z1 (ks.take (i+1))=Y4 (Z1 (ks.take i)) q:=by rw[take_snoc D,jv]
   obtain⟨r,er⟩:=jw ks (i+1);have at1:kn.at_ H1 q b:=kn.keep _ _ _ _ (fun b xs e=>o1 b _ e) (O i b q C D);refine⟨_,rfl,⟨Kk,_,kn,d,_,rfl,L⟩,_,rfl,_,rfl,Kk,_,kn,d,_,rfl,L,Kk,_,kn,d,b,q,_,_,rfl,rfl,L,at1,?_,fun y M=>?_,fun hn H' n' o' _=>?_⟩
   ·rw[WV];exact Yu (by have:=gP (ks.take i);rw[Qa2]at this;lia)
   ·by_cases G:q∈Z1 (ks.take i)
    ·rw[WW _ _ G (Xu _)]at M;cases M;have e2:Z1 (ks.take (i+1))=Z1 (ks.take i):=by rw[e1];exact Qa3 G
     have:=hR H1 (by rw[e2];exact L) o1;rw[er,e2,GJ G]at this;exact this
    ·rw[GN _ _ G]at M;cases M
   ·have G:q∉Z1 (ks.take i):=fun z=>by
     rw[WW _ _ z (Xu _)]at hn;cases hn
    have e2:Z1 (ks.take (i+1))=Z1 (ks.take i)++[q]:=by rw[e1];exact Qay G
    have:=hR H' (by rw[e2,GL];rw[WV]at n';exact n') (fun c o e=>o' c o (o1 c o e) (Zm e hd));rw[er,e2,GJ (by simp),List.idxOf_append,Qay G,List.idxOf_cons_self,Qfg]at this;rw[WV];exact this
  have fin:∀(zs:A2) (H1:Hp),zs=(ks.take as.length).map (fun k=>V.int ((Z1 ks).idxOf k:Int))->(∀b o,H b=some o->H1 b=some o)->∀p,H1 p=none->Q (.ref p) (upd H1 p (.lst zs)):=by
   intro zs H1 ez o1 p hp;have s2:Z8 H H1:=o1;refine k p _ (s2.free hp) ?_ (s2.trans (Zc hp));rw[Za,ez,hl,Qb7,Qax];rfl
  have zl:∀i,((ks.take i).map (fun k=>V.int ((Z1 ks).idxOf k:Int))).length<=sizeLine:=fun i=>by
   rw[Qab,Qa2];exact Qav (Yu (by lia))
  have item:∀(i:Nat) (x:V),(as.map V.ref)[i]?=some x->∃b q,x=.ref b/\as[i]?=some b/\ks[i]?=some q:=fun i x I=>by
   rw[Qah]at I;obtain⟨b,C,rfl⟩:=Qa4.mp I;have hi:=(Qag.mp C).1;exact⟨b,ks[i]'(by lia),rfl,C,Qac (by lia)⟩
  rcases ha with ha|ha
  ·refine⟨a,rfl,.inl ⟨⟨_,SqL.of (J _ _ ha)⟩,Xt (K:=K) (a:=a) (xs:=as.map V.ref) (fun i zs H'=>zs=(ks.take i).map (fun k=>V.int ((Z1 ks).idxOf k:Int))/\G8 kn H' d (Xv (Z1 (ks.take i)))/\∀b o,H b=some o->H' b=some o) ⟨rfl,n0,J⟩ (fun i zs H' h=>by rw[h.1];exact zl i) (fun i zs H' h=>SqL.of (h.2.2 _ _ ha)) (fun i x zs H1 R hR I h=>?_) (fun zs H1 h=>?_)⟩⟩
   ·obtain⟨b,q,rfl,C,D⟩:=item i x I;refine step i b q H1 _ C D h.2.1 h.2.2 fun H2 Z Y=>hR _ _ ⟨?_,Z,Y⟩;rw[h.1,take_snoc D,Qaz]
    rfl
   ·rw[Qab]at h;exact fin zs H1 h.1 h.2.2
  ·refine⟨a,rfl,.inr ⟨⟨_,SqT.of (J _ _ ha)⟩,X7 (K:=K) (a:=a) (xs:=as.map V.ref) (fun i zs H'=>zs=(ks.take i).map (fun k=>V.int ((Z1 ks).idxOf k:Int))/\G8 kn H' d (Xv (Z1 (ks.take i)))/\∀b o,H b=some o->H' b=some o) ⟨rfl,n0,J⟩ (fun i zs H' h=>by rw[h.1];exact zl i) (fun i zs H' h=>SqT.of (h.2.2 _ _ ha)) (fun i x zs H1 R hR I h=>?_) (fun zs H1 h=>?_)⟩⟩
   ·obtain⟨b,q,rfl,C,D⟩:=item i x I;refine step i b q H1 _ C D h.2.1 h.2.2 fun H2 Z Y=>hR _ _ ⟨?_,Z,Y⟩;rw[h.1,take_snoc D,Qaz]
    rfl
   ·rw[Qab]at h;exact fin zs H1 h.1 h.2.2
inductive Jh(vs:A2)(H:Hp)(Q:VK):Prop
 |mk (a b:Aw) (ss:Aj) (cs:Ak):(vs=[.ref a,.ref b])->(H a=some (.tup (ss.map fun s:Nat=>V.int (s:Int))))->(H b=some (.lst (cs.map V.int)))->((∀s∈ss,s<cs.length))->(ss.length<=1000000)->(cs.length<=1000000)->(∀p H',H p=none->H' p=some (.tup ((ss.map fun s=>cs.getD s 0).map V.int))->Z8 H H'->Q (.ref p) H')->Jh vs H Q
def yH(K:Af):Sp:=fun vs H Q _=>Jh vs H Q
theorem Gw:Y5 P w K mg base CX0 1 t.iu t.iw ["states","classes"] (yH K):=by
 refine T.ba.F.ok yD (fun vs H Q E h=>?_) (fun M A outer s H vs Q E Y h=>?_)
 ·obtain⟨_,_,_,_,rfl,_⟩:=h;rfl
 ·obtain⟨a,b,J,cs,rfl,ha,O,hs,Z,hc,k⟩:=h;have hu:=ZK Y;refine⟨_,@QSs.out _ _ _ (Ze (Zo (Z4 Z0 (by rfl) T.ah ZQ (Zi (Y3 ({}:ZP (Zh WX) _ ["states","classes"] "state" ["classes"] [1]) (Xs (qv 0)) (fun _ _ _ _=>Xh) (fun _ _ _ _=>(Z3 (show IxR _ (Zpa K)from Zy) (qv 1) (qv 0)))) Zd)))),?_⟩;refine⟨_,rfl,a,rfl,⟨_,SqT.of ha⟩,xp (xs:=J.map fun s:Nat=>V.int (s:Int)) (fI fun z=>V.int (cs.getD z.toNat 0)) (SqT.of ha) (by rw[Qab];exact Qav (Yu (by lia))) (fun v L R hR=>?_) (fun l C=>?_)⟩
  ·obtain⟨s,D,rfl⟩:=Qau.mp L;have q:=hs s D;exact⟨_,rfl,_,rfl,b,_,_,_,rfl,rfl,SqL.of O,YB (by rw[Qah,Qac q];rfl),by
    have e:fI (fun z=>V.int (cs.getD z.toNat 0)) (V.int (s:Int))=V.int cs[s]:=by
     show V.int (cs.getD (s:Int).toNat 0)=_;rw[Qbn,Qaf,Qac q];rfl
    rw[e]at hR;exact hR⟩
  ·refine⟨l,_,rfl,.inl ⟨SqL.of Za,fun p G=>?_⟩⟩;have I:=(Zc (o:=.lst ((J.map fun s:Nat=>V.int (s:Int)).map (fI fun z=>V.int (cs.getD z.toNat 0)))) C);refine k p _ (I.free G) ?_ (I.trans (Zc G));rw[Za,Qax,Qax];rfl
inductive J4(vs:A2)(H:Hp)(Q:VK):Prop
 |mk (a:Aw) (cs:Ak):(vs=[.ref a])->(H a=some (.lst (cs.map V.int)))->(cs.length<=1000000)->(∀p H',H p=none->H' p=some (.lst ((zf cs 0 []).map fun i:Nat=>V.int (i:Int)))->Z8 H H'->Q (.ref p) H')->J4 vs H Q
def kr(K:Af):Sp:=fun vs H Q _=>J4 vs H Q
theorem ku:Y5 P w K mg base CX0 1 t.mi t.mj ["classes"] (kr K):=by
 refine T.nu.F.ok XE (fun vs H Q E h=>?_) (fun cdv A outer s H vs Q E hr h=>?_)
 ·obtain⟨_,_,rfl,_⟩:=h;rfl
 ·obtain⟨a,cs,rfl,ha,hl,k⟩:=h;have hu:=ZK hr;refine⟨_,@QSs.out _ _ _ (Zb (Zz 1 XE.nd (ZM Zd))
    (Zb (Xb Qbp rfl (Zgm rfl T.oh (qv 0)) (jX rfl (Xq 2 XE.nd) (Xq 3 XE.nd))
    (Ze (ZE (Zq Yt (qv 3) (Zn Zr (by rfl) T.ae Ya (Zi (qv 1) Zd)) (Zx _))
    (Ze (Yn (YD Qat Qa5 Qa6 ZF (qv 1) (Zi (qv 2) Zd)))) Zw)))
    (Ze (Zo (qv 1))))),?_⟩
  refine L2.let3 ?_;intro U2 U1;refine⟨by decide,fun p M=>?_⟩;have s1:=Zc (o:=.lst []) M;refine Zg ?_;refine⟨_,rfl,a,_,rfl,SqL.of (s1 _ _ ha),gF (K:=K) (a:=a) (xs:=cs.map V.int) (fun i σ H'=>∃(acc:Aj) (Z u3:Option V),σ=[some (.ref a),some (.ref p),Z,u3]/\H' p=some (.lst (acc.map fun i:Nat=>V.int (i:Int)))/\zf cs 0 []=zf (cs.drop i) i acc/\acc.length<=i/\i<=cs.length/\Z8 H H') ⟨[],none,none,rfl,Za,rfl,Qaj _,Qbt _,s1⟩ (fun i σ H' _ ⟨_,_,_,_,_,_,_,_,s⟩=>SqL.of (s _ _ ha)) ?_ ?_⟩
  ·rintro i x σ H1 q hx hq ⟨acc,Z,u3,rfl,G,J,O,hi,L⟩;rw[Qah]at hx;obtain⟨c,hc,rfl⟩:=Qa4.mp hx;have I:i<cs.length:=(Qag.mp hc).1;have Y:=Zc (o:=.tup [.int i,.int c]) hq;have D:=Y _ _ G;have C:zf cs 0 []=zf (cs.drop (i+1)) (i+1) (if c=(acc.length:Int)then acc++[i]else acc):=by
    rw[J,Qc2 I,(Qag.mp hc).2];rfl
   refine⟨_,rfl,_,rfl,p,_,rfl,.inl (SqL.of D),rfl,_,rfl,?_⟩;rw[Qab]
   by_cases h:c=(acc.length:Int)
   ·rw[Qa3 h]at C;rw[Qan (by rw[h])];refine Y2 ⟨_,rfl,.inl ⟨rfl,_,SqL.of D⟩,_,rfl,p,_,_,rfl,rfl,D,by rw[Qab];exact Yu (by lia),acc++[i],_,_,rfl,?_,C,by grind,I,ZR (L.trans Y) M⟩;rw[Za,Qaz];rfl
   ·rw[Qay h]at C;rw[Qap (fun z=>h (by injection z))];exact ZD ⟨acc,_,_,rfl,D,C,by lia,I,L.trans Y⟩
  ·rintro σ H1 ⟨acc,Z,u3,rfl,G,J,O,hi,L⟩;rw[Qab,Qel]at J;exact⟨_,rfl,k p H1 M (by rw[G,J];rfl) L⟩
inductive W6(vs:A2)(H:Hp)(Q:VK):Prop
 |mk (y:Str):(vs=[.str y])->(Q (.bl (decide (y∈Gi))) H)->W6 vs H Q
def zN(K:Af):Sp:=fun vs H Q _=>W6 vs H Q
theorem zP:Y5 P w K mg base CX0 1 t.fg t.fh ["text"] (zN K):=by
 refine T.ig.F.ok zI (fun vs H Q E h=>?_) (fun C A outer s H vs Q E q h=>?_)
 ·obtain⟨_,rfl,_⟩:=h;rfl
 ·obtain⟨y,rfl,k⟩:=h;have D:=ZK q;refine⟨_,@QSs.out _ _ _ (Ze (Zo (Yk kQ (qv 0) (Wk (v:=.ref t.aj) rfl T.aj.m rfl) (by with_unfolding_all rfl)))),?_⟩;refine⟨_,rfl,t.aj,T1,.inr y,rfl,T.aj.d,rfl,?_⟩;rw[Zjh,tw1];exact k
inductive XG(vs:A2)(H:Hp)(Q:VK):Prop
 |mk (k:Key):(vs=[kV k])->(Q (.bl (clK k)) H)->XG vs H Q
def qA(K:Af):Sp:=fun vs H Q _=>XG vs H Q
omit T TB in
theorem Zfn(l:List (Str×Int))(k:Key):(Yi (kvsOf l) k).isSome=(match k with|.inr y=>decide (y∈l.map (·.1))|.inl _=>false):=by
 cases k with
 |inr y=>exact Zjh l y
 |inl z=>
  induction l with
  |nil=>rfl
  |cons p r q=>
   have e:Yi (kvsOf (p::r)) (.inl z)=Yi (kvsOf r) (.inl z):=Ye (p:=((Sum.inr p.1:Key),V.int p.2)) (fun z=>nomatch z);rw[e,q]
omit T TB in
theorem Zh6(k:Key):clK k=((Yi (kvsOf T2) k).isSome||(Yi (kvsOf T3) k).isSome):=by
 rw[Zfn,Zfn];cases k with
 |inl z=>rfl
 |inr y=>
  show decide (y∈Z5)=(decide (y∈T2.map (·.1))||decide (y∈T3.map (·.1)));have e:Z5=T2.map (·.1)++T3.map (·.1):=by decide +kernel
  rw[e]
  by_cases h1:y∈T2.map (·.1)
  ·grind
  ·grind
theorem qB:Y5 P w K mg base CX0 1 t.cg t.cj ["text"] (qA K):=by
 refine T.dh.F.ok q5 (fun vs H Q E h=>?_) (fun D A outer s H vs Q E C h=>?_)
 ·obtain⟨_,rfl,_⟩:=h;rfl
 ·obtain⟨q,rfl,k⟩:=h;have G:=ZK C;refine⟨_,@QSs.out _ _ _ (Ze (Zo (Zkv (Yk kQ (qv 0) (Wk (v:=.ref t.ag) rfl T.ag.m rfl) (by with_unfolding_all rfl)) (xm (Yk kQ (qv 0) (Wk (v:=.ref t.af) rfl T.af.m rfl) (by with_unfolding_all rfl)))))),?_⟩;rw[Zh6]at k;refine⟨_,rfl,t.ag,T2,q,rfl,T.ag.d,rfl,_,rfl,?_⟩;cases h:(Yi (kvsOf T2) q).isSome with
  |true=>
   rw[h]at k;exact Y2 k
  |false=>
   rw[h]at k;exact ZD ⟨_,rfl,t.af,T3,q,rfl,T.af.d,rfl,k⟩
inductive W7(vs:A2)(H:Hp)(Q:VK):Prop
 |mk (k:Key):(vs=[kV k])->(Q (.int (JH T1 k+JH T2 k)) H)->W7 vs H Q
def zQ(K:Af):Sp:=fun vs H Q _=>W7 vs H Q
theorem zR:Y5 P w K mg base CX0 1 t.fi t.fj ["word"] (zQ K):=by
 refine T.ij.F.ok zJ (fun vs H Q E h=>?_) (fun D A outer s H vs Q E C h=>?_)
 ·obtain⟨_,rfl,_⟩:=h;rfl
 ·obtain⟨q,rfl,k⟩:=h;have G:=ZK C;refine⟨_,@QSs.out _ _ _ (Ze (Zo (Zp YA (kR (Wk (v:=.ref t.aj) rfl T.aj.m rfl) (qv 0) Zf) (kR (Wk (v:=.ref t.ag) rfl T.ag.m rfl) (qv 0) Zf)))),?_⟩;refine⟨t.aj,T1,rfl,T.aj.d,_,rfl,q,rfl,t.ag,T2,rfl,T.ag.d,_,rfl,q,rfl,?_⟩;rw[kget,kget];exact⟨_,_,rfl,rfl,k⟩
inductive XH(vs:A2)(H:Hp)(Q:VK):Prop
 |mk (k:Key):(vs=[kV k])->(Q (.int (JH T3 k)) H)->XH vs H Q
def qC(K:Af):Sp:=fun vs H Q _=>XH vs H Q
theorem qD:Y5 P w K mg base CX0 1 t.ck t.cm ["word"] (qC K):=by
 refine T.di.F.ok q8 (fun vs H Q E h=>?_) (fun D A outer s H vs Q E q h=>?_)
 ·obtain⟨_,rfl,_⟩:=h;rfl
 ·obtain⟨C,rfl,k⟩:=h;have G:=ZK q;refine⟨_,@QSs.out _ _ _ (Ze (Zo (kR (Wk (v:=.ref t.af) rfl T.af.m rfl) (qv 0) Zf))),?_⟩;refine⟨t.af,T3,rfl,T.af.d,_,rfl,C,rfl,?_⟩;rw[kget];exact k
inductive Ji(vs:A2)(H:Hp)(Q:VK):Prop
 |mk (y sg:Str):(vs=[.str y,.str sg])->(y.length<=100000)->(∀H',Z8 H H'->Q (.bl (decide (jA y sg))) H')->Ji vs H Q
def yI(K:Af):Sp:=fun vs H Q _=>Ji vs H Q
theorem yJ:Y5 P w K mg base CX0 1 t.ix t.iy ["text","signs"] (yI K):=by
 refine T.lu.F.ok yE (fun vs H Q E h=>?_) (fun L A outer s H vs Q E M h=>?_)
 ·obtain⟨_,_,rfl,_⟩:=h;rfl
 ·obtain⟨y,q,rfl,J,k⟩:=h;have O:=ZK M;refine⟨_,@QSs.out _ _ _ (Ze (Zo (g7 (Yk Zf2 (qv 0) Zj (Zx _)) (xm (Zn (Zcv rfl) (by rfl) T.aax bt_all (Zi (Y3 ({}:ZP (Zh Ja) _ ["text","signs"] "sign" ["signs"] [1]) (qi_str (qv 0)) (fun _ _ _ _=>Xh) (fun _ _ _ _=>(Yk Zb2 (qv 0) (qv 1) (by with_unfolding_all rfl)))) Zd)))))),?_⟩;refine⟨_,rfl,rfl,_,rfl,?_⟩
  by_cases I:y.cps.toList=[]
  ·have e:=xJ.mp I;subst e;refine ZD ?_;have e2:decide (jA ("" : Str) q)=false:=Qap fun z=>z.1 (xJ.mpr rfl);have:=k H (Z8.refl H);exact this
  have G:¬V.str y=V.str ("" : Str):=fun z=>I (xJ.mpr (by injection z));rw[Qap G];refine Y2 ?_;refine⟨_,rfl,y,rfl,Zgn (fun c=>.bl (decide (c∈q.cps.toList))) (Qbc (show y.length<=100000 from J) (by decide)) (fun c _ R hR=>?_) (fun l C=>?_)⟩
  ·refine⟨_,rfl,_,rfl,_,_,rfl,rfl,?_⟩;rw[Zl8];exact hR
  have e1:(y.cps.toList.map fun c=>V.bl (decide (c∈q.cps.toList)))=(y.cps.toList.map fun c=>decide (c∈q.cps.toList)).map V.bl:=by rw[Qax];rfl
  rw[e1];refine⟨l,_,rfl,SqL.of Za,?_⟩;rw[all_bs];have e2:decide (jA y q)=decide (∀c∈y.cps.toList,decide (c∈q.cps.toList)=true):=by
   rw[Qdo,Qer,Qer];constructor
   ·intro z c D;exact Qan (z.2 c D)
   ·intro z;exact⟨I,fun c D=>Qbg (z c D)⟩
  rw[<-e2];exact k _ (Zc C)
inductive J5(vs:A2)(H:Hp)(Q:VK):Prop
 |mk (x:V):(vs=[x])->(YM x=true)->(Q (.bl (inV x (allR.map V.str))) H)->J5 vs H Q
def kx(K:Af):Sp:=fun vs H Q _=>J5 vs H Q
theorem qr:Y5 P w K mg base CX0 1 t.mm t.mn ["word"] (kx K):=by
 refine T.bh.F.ok kj (fun vs H Q E h=>?_) (fun D A outer s H vs Q E C h=>?_)
 ·obtain⟨_,rfl,_⟩:=h;rfl
 ·obtain⟨x,rfl,q,k⟩:=h;have G:=ZK C;refine⟨_,@QSs.out _ _ _ (Ze (Zo (Yk ZZ (qv 0) (Wk (v:=.ref t.aq) rfl T.aq.m rfl) (by with_unfolding_all rfl)))),?_⟩;exact⟨_,rfl,t.aq,_,rfl,.inr (T.aq.d H),q,Zdx _,k⟩
inductive Gx(vs:A2)(H:Hp)(Q:VK):Prop
 |mk (a b h:Int):(vs=[.int a,.int b,.int h])->(Q (.int (Zo0 a b h)) H)->Gx vs H Q
def wQ(K:Af):Sp:=fun vs H Q _=>Gx vs H Q
theorem zr:Y5 P w K mg base CX0 1 t.ox t.oy ["one","other","held"] (wQ K):=by
 refine T.dj.F.ok wH (fun vs H Q E h=>?_) (fun C A outer s H vs Q E q h=>?_)
 ·obtain⟨_,_,_,rfl,_⟩:=h;rfl
 ·obtain⟨a,b,h,rfl,k⟩:=h;have D:=ZK q;refine⟨_,@QSs.out _ _ _ (Ze (Zo (Zp z7 (Zp Xg (JO xb (qv 0)) (qv 1)) (Zp Xg (qv 2) (JO xb (Zp qZ (qv 0) (qv 1))))))),?_⟩;exact⟨_,rfl,_,rfl,_,rfl,_,_,rfl,rfl,_,rfl,_,rfl,_,rfl,_,_,rfl,rfl,_,rfl,_,_,rfl,rfl,_,_,rfl,rfl,k⟩
inductive W8(vs:A2)(H:Hp)(Q:VK):Prop
 |mk (y:Str) (p:Aw) (is:Ak):(vs=[.str y,.ref p])->(H p=some (.lst (is.map V.int)))->(y∈Zd6)->(is.length=Zd4 y)->(∀H',Z8 H H'->Q (.int (oaI y is)) H')->W8 vs H Q
def zS(K:Af):Sp:=fun vs H Q _=>W8 vs H Q
theorem zT:Y5 P w K mg base CX0 1 t.fk t.fq ["word","parts"] (zS K):=by
 refine T.ik.F.ok zK (fun vs H Q E h=>?_) (fun cdv A outer s H vs Q E hr h=>?_)
 ·obtain⟨_,_,_,rfl,_⟩:=h;rfl
 ·obtain⟨y,p,is,rfl,hp,hy,I,k⟩:=h;have hu:=ZK hr;refine⟨_,@QSs.out _ _ _ (Zb (ZE (Zq Yt (qv 0) Zj (Zx _))
    (Ze (Zo (JO xa Zf))) Zw)
    (Zb (ZE (Zq Yt (qv 0) Zj (Zx _))
    (Ze (Zo (Z3 Zy (qv 1) Zf))) Zw)
    (Zb (ZE (Zq ZZ (qv 0) (Yb (Zi Zj (Zi Zj Zd))) (by with_unfolding_all rfl))
    (Ze (Zo (JO xb (Z3 Zy (qv 1) Zf)))) Zw)
    (Zb (ZE (Zq ZZ (qv 0) (Yb (Zi Zj (Zi Zj Zd))) (by with_unfolding_all rfl))
    (Ze (Zo (Zp Xg (Z3 Zy (qv 1) Zf) (Z3 Zy (qv 1) Zf)))) Zw)
    (Zb (ZE (Zq ZZ (qv 0) (Yb (Zi Zj (Zi Zj Zd))) (by with_unfolding_all rfl))
    (Ze (Zo (Zp z7 (Z3 Zy (qv 1) Zf) (Z3 Zy (qv 1) Zf)))) Zw)
    (Zb (ZE (Zq Yt (qv 0) Zj (Zx _))
    (Ze (Zo (Zp qZ (Z3 Zy (qv 1) Zf) (Z3 Zy (qv 1) Zf)))) Zw)
    (Zb (ZE (Zq Yt (qv 0) Zj (Zx _))
    (Ze (Zo (Zp z7 (JO xb (Z3 Zy (qv 1) Zf)) (Z3 Zy (qv 1) Zf)))) Zw)
    (Ze (Zo (Zp z7 (Zp Xg (Z3 Zy (qv 1) Zf) (Z3 Zy (qv 1) Zf)) (Zp Xg (JO xb (Z3 Zy (qv 1) Zf)) (Z3 Zy (qv 1) Zf)))))))))))),?_⟩
  refine L2.let8 ?_;intro U7 U6 U5 U4 U3 U2 U1;unfold oaI at k;refine⟨_,rfl,rfl,_,rfl,?_⟩
  by_cases h1:y = "yes"
  ·rw[Qan (congrArg V.str h1)];rw[Qa3 h1]at k;refine Y2 ?_;exact⟨_,rfl,k H (Z8.refl _)⟩
  rw[Qap (fun z=>h1 (by injection z))];rw[Qay h1]at k;refine ZD ⟨_,rfl,rfl,_,rfl,?_⟩
  by_cases h2:y = "sign"
  ·rw[Qan (congrArg V.str h2)];rw[Qa3 h2]at k;refine Y2 ?_;exact⟨_,rfl,p,_,0,_,rfl,rfl,SqL.of hp,ZA 0 rfl (xS I (by rw[h2];decide +kernel)),k H (Z8.refl _)⟩
  rw[Qap (fun z=>h2 (by injection z))];rw[Qay h2]at k;refine ZD ⟨_,rfl,by decide,fun q hq=>⟨q,_,rfl,.inr (SqT.of Za),rfl,rfl,_,rfl,?_⟩⟩;show if inV (.str y) ((["not","never"]:Ai).map V.str)=true then _ else _;rw[ZC];have G:=Zc (o:=.tup [.str "not",.str "never"]) hq;have pq:=G _ _ hp;generalize upd H q (.tup [.str "not",.str "never"])=H1 at *
  by_cases h3:y = "not" \/ y = "never"
  ·rw[Qan (by grind)];rw[Qa3 h3]at k;refine Y2 ?_;exact⟨_,rfl,p,_,0,_,rfl,rfl,SqL.of pq,ZA 0 rfl (xS I (by rcases h3 with h|h<;>rw[h]<;>decide +kernel)),_,rfl,k H1 G⟩
  rw[Qap (by grind)];rw[Qay h3]at k;refine ZD ⟨_,rfl,by decide,fun r hr=>⟨r,_,rfl,.inr (SqT.of Za),rfl,rfl,_,rfl,?_⟩⟩;show if inV (.str y) ((["and","both"]:Ai).map V.str)=true then _ else _;rw[ZC];have M:=Zc (o:=.tup [.str "and",.str "both"]) hr;have pr:=M _ _ pq;generalize upd H1 r (.tup [.str "and",.str "both"])=H2 at *
  by_cases Y:y = "and" \/ y = "both"
  ·rw[Qan (by grind)];rw[Qa3 Y]at k;refine Y2 ?_;have l2:2<=is.length:=xS I (by rcases Y with h|h<;>rw[h]<;>decide +kernel);exact⟨_,rfl,p,_,0,_,rfl,rfl,SqL.of pr,ZA 0 rfl (by lia),_,rfl,p,_,1,_,rfl,rfl,SqL.of pr,ZA 1 rfl l2,_,_,rfl,rfl,k H2 (G.trans M)⟩
  rw[Qap (by simp only[Qao,Qba,Qdz];exact Y)];rw[Qay Y]at k;refine ZD ⟨_,rfl,by decide,fun t1 ht1=>⟨t1,_,rfl,.inr (SqT.of Za),rfl,rfl,_,rfl,?_⟩⟩;show if inV (.str y) ((["or","either"]:Ai).map V.str)=true then _ else _;rw[ZC];have D:=Zc (o:=.tup [.str "or",.str "either"]) ht1;have C:=D _ _ pr;generalize upd H2 t1 (.tup [.str "or",.str "either"])=Z at *
  by_cases O:y = "or" \/ y = "either"
  ·rw[Qan (by simp only[Qao,Qba,Qdz];exact O)];rw[Qa3 O]at k;refine Y2 ?_;have l2:2<=is.length:=xS I (by rcases O with h|h<;>rw[h]<;>decide +kernel);exact⟨_,rfl,p,_,0,_,rfl,rfl,SqL.of C,ZA 0 rfl (by lia),_,rfl,p,_,1,_,rfl,rfl,SqL.of C,ZA 1 rfl l2,_,_,rfl,rfl,k Z ((G.trans M).trans D)⟩
  rw[Qap (by simp only[Qao,Qba,Qdz];exact O)];rw[Qay O]at k;refine ZD ⟨_,rfl,rfl,_,rfl,?_⟩
  by_cases J:y = "odd"
  ·rw[Qan (congrArg V.str J)];rw[Qa3 J]at k;refine Y2 ?_;have l2:2<=is.length:=xS I (by rw[J];decide +kernel);exact⟨_,rfl,p,_,0,_,rfl,rfl,SqL.of C,ZA 0 rfl (by lia),_,rfl,p,_,1,_,rfl,rfl,SqL.of C,ZA 1 rfl l2,_,_,rfl,rfl,k Z ((G.trans M).trans D)⟩
  rw[Qap (fun z=>J (by injection z))];rw[Qay J]at k;refine ZD ⟨_,rfl,rfl,_,rfl,?_⟩
  by_cases L:y = "so"
  ·rw[Qan (congrArg V.str L)];rw[Qa3 L]at k;refine Y2 ?_;have l2:2<=is.length:=xS I (by rw[L];decide +kernel);exact⟨_,rfl,p,_,0,_,rfl,rfl,SqL.of C,ZA 0 rfl (by lia),_,rfl,_,rfl,p,_,1,_,rfl,rfl,SqL.of C,ZA 1 rfl l2,_,_,rfl,rfl,k Z ((G.trans M).trans D)⟩
  rw[Qap (fun z=>L (by injection z))];rw[Qay L]at k;have l3:3<=is.length:=xS I (Zan y hy h1 h2 h3 Y O J L);exact ZD ⟨_,rfl,p,_,0,_,rfl,rfl,SqL.of C,ZA 0 rfl (by lia),_,rfl,p,_,1,_,rfl,rfl,SqL.of C,ZA 1 rfl (by lia),_,_,rfl,rfl,_,rfl,p,_,0,_,rfl,rfl,SqL.of C,ZA 0 rfl (by lia),_,rfl,_,rfl,p,_,2,_,rfl,rfl,SqL.of C,ZA 2 rfl l3,_,_,rfl,rfl,_,_,rfl,rfl,k Z ((G.trans M).trans D)⟩
inductive X0(vs:A2)(H:Hp)(Q:VK):Prop
 |mk (tw:Aw) (ws:A2):(vs=[.ref tw])->(H tw=some (.tup ws))->(ws.length<=1000)->((∀w∈ws,(∃y,w=.str y)\/∃z:Int,w=.int z))->(∀(L:Nat) H',(∀z:Int,V.int z∈ws->Builtin.Int.intBits z<=L)->(L=0\/∃z:Int,V.int z∈ws/\L=Builtin.Int.intBits z)->Z8 H H'->Q (.int (L:Int)) H')->X0 vs H Q
def GY(K:Af):Sp:=fun vs H Q _=>X0 vs H Q
theorem GZ:Y5 P w K mg base CX0 1 t.bj t.bp ["words"] (GY K):=by
 refine T.bx.F.ok GW (fun vs H Q E h=>?_) (fun L A outer s H vs Q E M h=>?_)
 ·obtain⟨_,_,rfl,_⟩:=h;rfl
 ·obtain⟨tw,q,rfl,I,Z,hw,k⟩:=h;have Y:=ZK M;refine⟨_,@QSs.out _ _ _ (Ze (Zo (Zl4 rfl rfl T.su (Y3 ({}:ZP (Zh Xf) _ ["words"] "word" [] []) (Xs (qv 0)) (fun _ _ _ _=>(ve (YQ (Zn (show Y9 _ (.builtin "isinstance") (Zn9 K)from X5) (by rfl) T.ak Yd (Zi (qv 0) (Zi (WN (v:=.ty "int") (by rfl) T.du jf rfl) Zd)))))) (fun _ _ _ _=>(show QE _ _ (Zpb K "int" Zoq (yP 0))from(Jy PySem.F.plainAttrs_int PySem.F.slot_int_bit_length PySem.F.type_int_bit_length Zl5 (qv 0))))) Zf))),?_⟩;refine⟨_,rfl,tw,rfl,⟨_,SqT.of I⟩,X7 (K:=K) (a:=tw) (xs:=q) (fun i zs H'=>zs=(Gp (q.take i)).map V.int/\H'=H) ⟨rfl,rfl⟩ (fun i zs H' h=>?_) (fun i zs H' h=>by rw[h.2];exact SqT.of I) (fun i x zs H1 R hR C h=>?_) (fun zs H1 h p J=>?_)⟩
  ·rw[h.1,Qab];have:=vR (q.take i);rw[Qa2]at this;exact Qav (Z2 (by lia))
  ·obtain⟨rfl,rfl⟩:=h;rcases hw x (Qar C)with⟨y,rfl⟩|⟨z,rfl⟩
   ·refine⟨_,rfl,_,_,_,_,rfl,.str y,Xp,_,rfl,ZD (hR _ _ ⟨?_,rfl⟩)⟩;rw[take_snoc C,xZ];exact congrArg (List.map V.int) (Qby _).symm
   ·refine⟨_,rfl,_,_,_,_,rfl,.int z,JE,_,rfl,Y2 ⟨_,rfl,rfl,z,rfl,rfl,hR _ _ ⟨?_,rfl⟩⟩⟩;rw[take_snoc C,xZ,Qaz];rfl
  ·obtain⟨rfl,rfl⟩:=h;have sp:=Zc (o:=.lst ((Gp (q.take q.length)).map V.int)) J;refine⟨p,Gp (q.take q.length),rfl,SqL.of Za,fun e=>?_,fun m G C=>?_⟩
   ·rw[Qb7]at e;refine k 0 _ (fun z D=>?_) (.inl rfl) sp;have:=za D;rw[e]at this;cases this
   ·rw[Qb7]at G C;obtain⟨z,D,rfl⟩:=uj G;exact k _ _ (fun y O=>Int.ofNat_le.mp (C _ (za O))) (.inr ⟨z,D,rfl⟩) sp
inductive qt(vs:A2)(H:Hp)(Q:VK):Prop
 |mk (p:Aw) (cs:Ak) (l:Nat):(vs=[.ref p,.int (l:Int)])->(H p=some (.lst (cs.map V.int)))->(cs.length<=1000)->(l<=100)->(∀t H',H t=none->H' t=some (.tup ((cs.map fun c=>bt c l).map V.int))->Z8 H H'->Q (.ref t) H')->qt vs H Q
def Za4(K:Af):Sp:=fun vs H Q _=>qt vs H Q
theorem Za5:Y5 P w K mg base CX0 1 t.tj t.tq ["columns","letter"] (Za4 K):=by
 refine T.bb.F.ok Za2 (fun vs H Q E h=>?_) (fun L A outer s H vs Q E M h=>?_)
 ·obtain⟨_,_,_,rfl,_⟩:=h;rfl
 ·obtain⟨p,cs,l,rfl,C,Z,I,k⟩:=h;have Y:=ZK M;refine⟨_,@QSs.out _ _ _ (Ze (Zo (Z4 Z0 (by rfl) T.ah ZQ (Zi (Y3 ({}:ZP (Zh xC) _ ["columns","letter"] "column" ["letter"] [1]) (Xr (qv 0)) (fun _ _ _ _=>Xh) (fun _ _ _ _=>(Zp Xg (Zp gw (qv 0) (qv 1)) Zf))) Zd)))),?_⟩;refine⟨_,rfl,p,rfl,⟨_,SqL.of C⟩,comp_map (xs:=cs.map V.int) (fI fun c=>V.int (bt c l)) (SqL.of C) (by rw[Qab];exact Qav (Z2 (by lia))) (fun v J R hR=>?_) (fun q O=>?_)⟩
  ·obtain⟨c,_,rfl⟩:=Qau.mp J;refine⟨_,rfl,_,rfl,_,_,rfl,rfl,Qde l,_,_,rfl,rfl,?_⟩;have e:fI (fun c=>V.int (bt c l)) (V.int c)=V.int (Builtin.bitAnd (c/2^(l:Int).toNat) 1):=by
    rw[and_1,Qbn];rfl
   rw[e]at hR;exact hR
  ·refine⟨q,_,rfl,.inl ⟨SqL.of Za,fun t D=>?_⟩⟩;have G:=Zc (o:=.lst ((cs.map V.int).map (fI fun c=>V.int (bt c l)))) O;refine k t _ (G.free D) ?_ (G.trans (Zc D));rw[Za,Qax,Qax];rfl
inductive zt(vs:A2)(H:Hp)(Q:VK):Prop
 |mk (q:Aw) (bs:Am):(vs=[.ref q])->(H q=some (.tup (bs.map V.bl)))->(bs.length<=100000)->(∀p H',H' p=some (.tup ((bs.map fun b=>!b).map V.bl))->Z8 H H'->Q (.ref p) H')->zt vs H Q
def Zfo(K:Af):Sp:=fun vs H Q _=>zt vs H Q
theorem Zfp:Y5 P w K mg base CX0 1 t.aad t.aae ["truths"] (Zfo K):=by
 refine T.lx.F.ok Zfm (fun vs H Q E h=>?_) (fun J A outer s H vs Q E L h=>?_)
 ·obtain⟨_,_,rfl,_⟩:=h;rfl
 ·obtain⟨q,bs,rfl,C,D,k⟩:=h;have M:=ZK L;refine⟨_,@QSs.out _ _ _ (Ze (Zo (Z4 Z0 (by rfl) T.ah ZQ (Zi (Y3 ({}:ZP (Zh ym) _ ["truths"] "truth" [] []) (Xs (qv 0)) (fun _ _ _ _=>Xh) (fun _ _ _ _=>(Zcn (qv 0)))) Zd)))),?_⟩;refine⟨_,rfl,q,rfl,⟨_,SqT.of C⟩,xp (xs:=bs.map V.bl) (fun v=>match v with|.bl b=>.bl (!b)|v=>v) (SqT.of C) (by rw[Qab];exact Qav (Yu (by lia))) (fun x I R hR=>?_) (fun l D=>?_)⟩
  ·obtain⟨b,_,rfl⟩:=Qau.mp I;exact⟨_,rfl,_,rfl,hR⟩
  ·refine⟨l,_,rfl,.inl ⟨SqL.of Za,fun p G=>k p _ ?_ ((Zc D).trans (Zc G))⟩⟩;rw[Za,Qax,Qax];rfl
inductive Gy(vs:A2)(H:Hp)(Q:VK):Prop
 |mk (pq ps:Aw) (ss:Aj) (nx:Ad):(vs=[.ref pq,.ref ps])->(H pq=some (.tup (ss.map WI)))->(JI H ps (nx.map xU))->((∀s∈ss,s<nx.length))->((∀S:Aj,S.Nodup->(∀x∈S,∃s∈ss,x∈nx.getD s [])->S.length<64))->(∀p (ms:Aj) H',H' p=some (.tup (ms.map WI))->ms.Pairwise (· < ·)->(∀x,x∈ms↔∃s∈ss,x∈nx.getD s [])->Z8 H H'->Q (.ref p) H')->Gy vs H Q
def wR(K:Af):Sp:=fun vs H Q _=>Gy vs H Q
theorem wU:Y5 P w K mg base CX0 1 t.oz t.pb ["states","steps"] (wR K):=by
 refine T.rz.F.ok Wv (fun vs H Q E h=>?_) (fun cdv A outer s H vs Q E hr h=>?_)
 ·obtain⟨_,_,_,_,rfl,_⟩:=h;rfl
 ·obtain⟨pq,ps,ss,nx,rfl,hq,R,hlt,L,k⟩:=h;have hu:=ZK hr;refine⟨_,@QSs.out _ _ _ (Zb (Zz 2 Wv.nd xr)
    (Zb (Xb Qbp rfl (Xs (qv 0)) (Xq 3 Wv.nd)
    (Ze (Xb Qbp rfl (Xs (Z3 ZO (qv 1) (qv 3))) (Xq 4 Wv.nd)
    (Ze (GC hu (qv 2) (qv 4) YC rfl)))))
    (Ze (Zo (Z4 Z0 (by rfl) T.ah ZQ (Zi (Zn (yl rfl) (by rfl) T.cf JN (Zi (qv 2) Zd)) Zd)))))),?_⟩
  refine L2.let3 ?_;intro U2 U1;refine fun d hd=>Zg ?_;have s1:=Zc (o:=.dK []) hd;have hd1:upd H d (.dK []) d=some (.dK ((([]:Aj).map fun x:Nat=>((.inl (x:Int):Key),V.bl true)))):=Za;have hgd:∀{s:Nat},s<nx.length->nx[s]?=some (nx.getD s []):=fun{s} h=>by rw[Qaf,Qac h];rfl
  refine⟨_,rfl,pq,rfl,⟨_,SqT.of (s1 _ _ hq)⟩,jO (K:=K) (a:=pq) (xs:=ss.map WI) (fun i σ H'=>∃(u3 J:Option V) (S:Aj),σ=[some (.ref pq),some (.ref ps),some (.ref d),u3,J]/\H' d=some (.dK (S.map fun x:Nat=>((.inl (x:Int):Key),V.bl true)))/\S.Nodup/\(∀x,x∈S↔∃s∈ss.take i,x∈nx.getD s [])/\Z8 H H') ⟨none,none,[],rfl,hd1,Qcq,fun x=>⟨(fun z=>nomatch z),fun⟨s,z,_⟩=>by cases z⟩,s1⟩ (fun i σ H' _ ⟨_,_,_,_,_,_,_,s⟩=>SqT.of (s _ _ hq)) ?_ ?_⟩
  ·rintro i x σ H2 D ⟨u3,J,S,rfl,O,G,Y,s2⟩;rw[Qah]at D;obtain⟨q,hs0,rfl⟩:=Qa4.mp D;have hsm:=Qar hs0;have hsl:=hlt q hsm;obtain⟨as,g1,g2,g3⟩:=R.same s2;obtain⟨ra,g4,g5⟩:=g3 q (xU (nx.getD q [])) (by rw[Qah,hgd hsl];rfl);refine Zg ⟨_,rfl,_,rfl,ps,_,_,_,rfl,rfl,SqT.of g1,YB g4,ra,rfl,⟨_,SqT.of g5⟩,?_⟩;refine jO (K:=K) (a:=ra) (xs:=xU (nx.getD q [])) (fun j σ H'=>∃(J:Option V) (S:Aj),σ=[some (.ref pq),some (.ref ps),some (.ref d),some (.int (q:Int)),J]/\H' d=some (.dK (S.map fun x:Nat=>((.inl (x:Int):Key),V.bl true)))/\S.Nodup/\(∀x,x∈S↔(∃s∈ss.take i,x∈nx.getD s [])\/x∈(nx.getD q []).take j)/\H' ra=some (.tup (xU (nx.getD q [])))/\Z8 H H') ⟨J,S,rfl,O,G,fun x=>by rw[Y,List.take_zero];simp,g5,s2⟩ (fun i σ H' _ ⟨_,_,_,_,_,_,h,_⟩=>SqT.of h) ?_ ?_
   ·rintro j x σ H3 D ⟨J,I,rfl,h3,C,m3,r3,s3⟩;unfold xU at D;rw[Qah]at D;obtain⟨y,hy,rfl⟩:=Qa4.mp D;have hS:I.length<64:=L I C fun x D=>by
     grind
    refine Zg ⟨_,rfl,_,rfl,d,_,rfl,Zbe.k (k:=.inl (y:Int)) h3 (by rw[Qab];exact Z2 (by lia)),?_⟩;have mem:∀x,(∃s∈ss.take i,x∈nx.getD s [])\/x∈(nx.getD q []).take (j+1)↔x∈I\/x=y:=fun x=>by
     rw[m3,take_snoc hy,Qbo,Qaw,or_assoc]
    have kp:∀{b:Aw} {u:HO} {o:HO},H3 b=some u->(∀kv,u≠.dK kv)->upd H3 d o b=some u:=fun{b u o} e hu=>by rw[Zk (Xn e h3 (hu _))];exact e
    by_cases M:y∈I
    ·refine⟨_,I,rfl,by rw[Za,put_in M],C,fun x=>?_,kp r3 (fun _ z=>nomatch z),ZR s3 hd⟩;rw[mem];exact⟨.inl,fun h=>h.elim id fun e=>by rw[e];exact M⟩
    ·refine⟨_,I++[y],rfl,by rw[Za,Zne M],?_,fun x=>?_,kp r3 (fun _ z=>nomatch z),ZR s3 hd⟩
     ·grind
     ·rw[mem,Qbo,Qaw]
   ·rintro σ H3 ⟨J,I,rfl,h3,C,m3,r3,s3⟩;refine⟨_,_,I,rfl,h3,C,fun x=>?_,s3⟩;have e:(xU (nx.getD q [])).length=(nx.getD q []).length:=Qab ..;rw[m3,e,Qb7,take_snoc hs0];constructor
    ·grind
    ·grind
  ·rintro σ H2 ⟨u3,J,S,rfl,O,G,Y,s2⟩;rw[Qab,Qb7]at Y;have hS:S.length<64:=L S G fun x D=>(Y x).mp D;refine⟨_,rfl,d,_,S.map fun x:Nat=>(x:Int),rfl,.inl O,by rw[Qax,Qax];rfl,by rw[Qab];exact hS,fun l ms hl hp hs=>?_⟩;obtain⟨ns,rfl,Z⟩:=Zh4 hp;refine⟨l,_,rfl,.inl ⟨SqL.of Za,fun p hp2=>k p ns _ ?_ (Za1 hs (Z.nodup_iff.mpr G)) (fun x=>(Z.mem_iff).trans (Y x)) (s2.trans ((Zc hl).trans (Zc hp2)))⟩⟩;rw[Za,Qax]
   rfl
inductive W9(vs:A2)(H:Hp)(Q:VK):Prop
 |mk (p:Aw) (rs:Am):(vs=[.ref p])->(H p=some (.lst (rs.map V.bl)))->(1<=rs.length)->(rs.length<=100000)->(∀(L:Nat) H',Znb rs L->Z8 H H'->Q (.int (L:Int)) H')->W9 vs H Q
def zU(K:Af):Sp:=fun vs H Q _=>W9 vs H Q
theorem zV:Y5 P w K mg base CX0 1 t.ft t.fu ["ring"] (zU K):=by
 refine T.il.F.ok XT (fun vs H Q E h=>?_) (fun cdv A outer s H vs Q E hr h=>?_)
 ·obtain⟨_,_,rfl,_⟩:=h;rfl
 ·obtain⟨p,q,rfl,hp,h1,hbig,k⟩:=h;have hu:=ZK hr;refine⟨_,@QSs.out _ _ _ (Zb (Zz 1 XT.nd Zf)
    (Zb (Jp Qbp (WH (jQ (Zq kJ (Zp ZL (Zn Zr (by rfl) T.ae Ya (Zi (qv 0) Zd)) (qv 1)) Zf (Zx _)) (JP (Zq (jY (Wo hr)) (qv 0) (Zp gz (X6 JD (qv 0) (Wn (qv 1)) JF) (X6 JD (qv 0) JF (Wn (qv 1)))) (Zx _)))))
    (Ze (Zjf (i:=1) XT.nd rfl (Or.inl rfl) Zf ip_add)))
    (Ze (Zo (qv 1))))),?_⟩
  refine L2.let3 ?_;intro U2 U1;refine Zg ?_;refine GS (fun σ H'=>∃L:Nat,σ=[some (.ref p),some (.int (L:Int))]/\1<=L/\L<=q.length/\(∀m,1<=m->m<L->¬zH q m)/\Z8 H H') (fun σ _=>match σ with|[_,some (.int m)]=>(200000-m).toNat|_=>0) ⟨1,rfl,Qaj _,h1,fun m h1 h2=>by lia,Z8.refl H⟩ ?_;rintro σ H1 ⟨L,rfl,hL1,hLn,O,s1⟩;have D:=s1 _ _ hp;have ln:(q.map V.bl).length=q.length:=Qab ..;have J:∀H2,Z8 H H2->¬zH q L->∃N:A1,(∀C H',N C H'->∃m,m<(200000-(L:Int)).toNat/\m=(match C with|[_,some (.int m)]=>(200000-m).toNat|_=>0)/\∃L:Nat,C=[some (.ref p),some (.int (L:Int))]/\1<=L/\L<=q.length/\(∀m,1<=m->m<L->¬zH q m)/\Z8 H H')/\N [some (.ref p),some (.int ((L:Int)+1))] H2:=fun H2 Z hn=>by
   refine⟨fun C H'=>C=[some (.ref p),some (.int ((L:Int)+1))]/\Z8 H H',?_,rfl,Z⟩;rintro C H' ⟨rfl,s'⟩;have hlt:L<q.length:=by
    rcases Qgr L q.length with z|z
    ·exact z
    ·have e:L=q.length:=by lia
     exact absurd ⟨by rw[e,Nat.mod_self],by rw[e];exact Znc q⟩ hn
   refine⟨(200000-((L:Int)+1)).toNat,by lia,rfl,L+1,rfl,by lia,hlt,fun m m1 m2=>?_,s'⟩
   by_cases e:m=L
   ·rw[e];exact hn
   ·exact O m m1 (by lia)
  have M:Zbd (q.map V.bl) (some (L:Int)) none=(q.drop L).map V.bl:=by rw[XA,vG]
  have Y:Zbd (q.map V.bl) none (some (L:Int))=(q.take L).map V.bl:=by rw[XA,Wd]
  refine⟨_,rfl,p,_,rfl,.inl (SqL.of D),_,rfl,_,_,rfl,rfl,(by lia),_,_,rfl,rfl,_,rfl,z6 (fun c=>?_) (fun c=>?_)⟩
  ·refine Y2 ?_;obtain⟨N,I,G⟩:=J H1 s1 fun z=>by
    rw[ln,<-Qd1,z.1]at c;exact absurd c (by decide)
   exact⟨N,I,_,rfl,_,_,rfl,rfl,G⟩
  ·refine⟨_,rfl,_,rfl,_,rfl,_,rfl,p,_,rfl,SqL.of D,fun l1 hl1=>?_⟩;rw[M];have u1:=Zc (o:=.lst ((q.drop L).map V.bl)) hl1;refine⟨_,rfl,_,rfl,_,rfl,p,_,rfl,SqL.of (u1 _ _ D),fun l2 hl2=>?_⟩;rw[Y];have u2:=Zc (o:=.lst ((q.take L).map V.bl)) hl2;refine⟨l1,l2,_,_,rfl,rfl,u2 _ _ Za,Za,?_,fun l3 hl3=>?_⟩
   ·rw[Qab,Qab,Qbq,Qa2];exact Qav (Yu (by lia))
   rw[<-Qaz];have u3:=Zc (o:=.lst ((q.drop L++q.take L).map V.bl)) hl3;have Z:=s1.trans (u1.trans (u2.trans u3));refine⟨p,l3,_,_,rfl,rfl,SqL.of (u3 _ _ (u2 _ _ (u1 _ _ D))),SqL.of Za,GV _,GV _,_,rfl,?_⟩;rw[wD];have c0:q.length%L=0:=by
    grind
   by_cases e:q=q.drop L++q.take L
   ·rw[Qan e];exact ZD ⟨_,rfl,k L _ ⟨hL1,hLn,⟨c0,e.symm⟩,O⟩ Z⟩
   ·rw[Qap e];obtain⟨N,I,G⟩:=J _ Z fun z=>e z.2.symm;exact Y2 ⟨N,I,_,rfl,_,_,rfl,rfl,G⟩
inductive Jj(K:Af)(vs:A2)(H:Hp)(Q:VK):Prop
 |mk (a:Aw) (ns:Ak) (k:Nat):(vs=[.ref a,.int (k:Int)])->(SqL K H a (ns.map V.int))->(ns.length<=63)->(k<=1000)->(∀(r:Int) H',0<=r->r<1000000->Z8 H H'->Q (.int r) H')->Jj K vs H Q
def yK(K:Af):Sp:=fun vs H Q _=>Jj K vs H Q
theorem Ww:Y5 P w K mg base CX0 1 t.ka t.lb ["script","k"] (yK K):=by
 refine T.ay.F.ok ZT (fun vs H Q E h=>?_) (fun cdv A outer s H vs Q E hr h=>?_)
 ·obtain⟨_,_,_,rfl,_⟩:=h;rfl
 ·obtain⟨a,ns,C,rfl,hS,h63,hk,k⟩:=h;have hu:=ZK hr;refine⟨_,@QSs.out _ _ _ (Zb (Zz 2 ZT.nd (Zp gz (Z4 yZ (by rfl) T.aal Zcm (Zi (qv 0) Zd)) (ZM (Zi Zf Zd))))
    (Zb (Zz 3 ZT.nd (Zn (Zb4 rfl) (by rfl) T.su gD (Zi Zf (Zi (Zn Zr (by rfl) T.ae Ya (Zi (qv 0) Zd)) Zd))))
    (Zb (Zz 4 ZT.nd (Z3 Zy (qv 2) (Zp ZL (qv 1) (qv 3))))
    (Zb (Zz 5 ZT.nd (Zp Yh (qv 1) (qv 3)))
    (Zb (ZE (Zq Zn3 (qv 4) (Zp op_pow Zf Zf) (Zx _))
    (Zb (Xb Qbp rfl (XW rfl T.au (Zi (Zn (yS rfl) (by rfl) T.aao Zi3 (Zi (qv 5) (Zi Zf Zd))) Zd)) (Xq 6 ZT.nd)
    (Ze (Zz 4 ZT.nd (Zp Yh (qv 4) Zf))))
    (Ze (Zo (Zp ZL (qv 4) Zf)))) Zw)
    (Zb (Zz 7 ZT.nd (Zp ZL (Zp Xe (Zp YA (Zp YA (Zp YA (Zp ZL (qv 4) Zf) Zf) (Zp Xe Zf (qv 5))) (Zp Xe Zf (qv 1))) Zf) Zf))
    (Zb (Zz 7 ZT.nd (Zp ZL (Zp YA (Zp YA (Zp Xe (qv 7) (qv 7)) (Zp Xe Zf (qv 5))) (Zp Xe Zf (qv 1))) Zf))
    (Ze (Zo (Zp ZL (Zp Yh (Zp ZL (Zp Xe (qv 7) Zf) Zf) Zf) Zf)))))))))),?_⟩
  try dsimp only[L2.cxK,L2.cxK2]
  refine L2.let8 ?_;intro U7 U6 U5 U4 U3 U2 U1;refine⟨_,rfl,a,_,rfl,.inl hS,fun J O=>⟨Znq,fun Z D=>⟨J,Z,_,_,rfl,rfl,Zc D _ _ Za,Za,?_,fun I hc3=>Zg ?_⟩⟩⟩
  ·rw[Qab];exact Qav (Z2 (by show ns.length+1<=1000;lia))
  have Y:=(Zc (o:=.lst (ns.map V.int)) O).trans ((Zc (o:=.lst [V.int 0]) D).trans (Zc (o:=.lst (ns.map V.int++[V.int 0])) hc3));have h3:=Za (H:=upd (upd H J (.lst (ns.map V.int))) Z (.lst [V.int 0])) (a:=I) (o:=.lst (ns.map V.int++[V.int 0]));generalize upd (upd (upd H J (.lst (ns.map V.int))) Z (.lst [V.int 0])) I (.lst (ns.map V.int++[V.int 0]))=H1 at *;have hS1:=y4 hS Y;refine⟨_,rfl,a,_,rfl,.inl hS1,1,_,rfl,Zg ?_⟩;try dsimp only
  obtain⟨sz,hsz,M,sz2⟩:∃sz:Nat,(if((ns.map V.int).length:Int)>1 then((ns.map V.int).length:Int)else 1)=(sz:Int)/\1<=sz/\sz<=ns.length+1:=by
   rw[Qab];split
   ·exact⟨ns.length,rfl,by lia,by lia⟩
   ·exact⟨1,rfl,by lia,by lia⟩
  rw[hsz];obtain⟨c,ec⟩:∃c:Int,atI (ns.map V.int++[V.int 0]) ((C:Int)%(sz:Int))=some (.int c):=by
   have hlt:=Qem C M;rw[<-Qd1,show ns.map V.int++[V.int 0]=(ns++[0]).map V.int by rw[Qaz];rfl];have hl:C%sz<(ns++[0]).length:=by rw[Qak];show _<ns.length+1;lia
   exact⟨(ns++[0])[C%sz],YB (by rw[Qah,Qac hl];rfl)⟩
  refine⟨_,rfl,_,rfl,_,rfl,_,_,rfl,rfl,(by show(0:Int)<sz;lia),I,_,_,_,rfl,rfl,SqL.of h3,ec,Zg ?_⟩;refine⟨_,rfl,_,rfl,_,_,rfl,rfl,.of (by lia) (by lia),Zg ?_⟩;try dsimp only
  obtain⟨q,htn,tn1⟩:∃q:Nat,(C:Int)/(sz:Int)=(q:Int)/\q<=1000:=⟨C/sz,by rw[Int.natCast_ediv],Qbc (Nat.div_le_self _ _) hk⟩;rw[htn];refine⟨_,rfl,_,_,rfl,rfl,⟨by decide,by decide,by decide⟩,_,_,rfl,rfl,_,rfl,z6 (fun _=>?_) (fun _=>?_)⟩
  ·have md:∀z:Int,0<=z%1000000/\z%1000000<1000000:=fun z=>⟨Qbz _ (by decide),Qb0 _ (by decide)⟩
   obtain⟨n,hn,n60⟩:∃n:Nat,(if(60:Int)<(q:Int)then(60:Int)else(q:Int))=(n:Int)/\n<=60:=by
    split
    ·exact⟨60,rfl,by lia⟩
    ·exact⟨q,rfl,by lia⟩
   refine⟨_,rfl,_,_,rfl,(n:Int),(by rw[hn]),by lia,by lia,XU (fun i σ H'=>∃(c:Int) (L:Option V),σ=[some (.ref a),some (.int (C:Int)),some (.ref I),some (.int (sz:Int)),some (.int c),some (.int (q:Int)),L,none]/\H'=H1) ⟨c,none,rfl,rfl⟩ ?_ ?_⟩
   ·rintro i σ H' hi ⟨c,L,rfl,rfl⟩;exact⟨_,rfl,_,_,rfl,rfl,.of (by decide) (by decide),Zg ⟨_,_,rfl,rfl⟩⟩
   ·rintro σ H' ⟨c,L,rfl,rfl⟩;exact⟨_,rfl,_,_,rfl,rfl,(by show(0:Int)<1000000;decide),k _ _ (md _).1 (md _).2 Y⟩
  ·refine⟨_,rfl,_,_,rfl,rfl,(by show(0:Int)<2147483629;decide),_,_,rfl,rfl,_,rfl,_,_,rfl,rfl,.inr (.inl ⟨by decide,by decide⟩),_,_,rfl,rfl,_,rfl,_,_,rfl,rfl,.inr (.inl ⟨by decide,by decide⟩),_,_,rfl,rfl,_,_,rfl,rfl,.inr (.inr ⟨by decide,by decide⟩),_,_,rfl,rfl,(by show(0:Int)<2147483647;decide),Zg ?_⟩;try dsimp only
   generalize hs1:(c%2147483629+977+104729*(q:Int)+15485863*(C:Int))*48271%2147483647=G;have d0:0<=G:=by lia
   have d1:G<2147483647:=by lia
   refine⟨_,rfl,_,rfl,_,_,rfl,rfl,.inr (.inl ⟨by lia,by lia⟩),_,rfl,_,_,rfl,rfl,.inr (.inl ⟨by decide,by decide⟩),_,_,rfl,rfl,_,rfl,_,_,rfl,rfl,.inr (.inl ⟨by decide,by decide⟩),_,_,rfl,rfl,_,_,rfl,rfl,(by show(0:Int)<2147483587;decide),Zg ?_⟩;try dsimp only
   generalize hs2:(G*G+7919*(q:Int)+31*(C:Int))%2147483587=se;have e0:0<=se:=by lia
   have e1:se<2147483587:=by lia
   exact⟨_,rfl,_,_,rfl,rfl,.inr (.inr ⟨by decide,by decide⟩),_,_,rfl,rfl,(by show(0:Int)<2147483563;decide),_,_,rfl,rfl,.of (by decide) (by decide),_,_,rfl,rfl,(by show(0:Int)<1000000;decide),k _ _ (Qbz _ (by decide)) (Qb0 _ (by decide)) Y⟩
inductive Gz(vs:A2)(H:Hp)(Q:VK):Prop
 |mk (r:Int):(vs=[.int r])->(0<=r)->(r<1000000)->(∀y H',NmS y->Z8 H H'->Q (.str y) H')->Gz vs H Q
def wV(K:Af):Sp:=fun vs H Q _=>Gz vs H Q
theorem wW:Y5 P w K mg base CX0 1 t.pe t.ph ["number"] (wV K):=by
 refine T.sf.F.ok YW (fun vs H Q E h=>?_) (fun Z A outer s H vs Q E hr h=>?_)
 ·obtain⟨_,rfl,_⟩:=h;rfl
 ·obtain⟨r,rfl,h0,h1,k⟩:=h;have hu:=ZK hr;refine⟨_,@QSs.out _ _ _ (Zb (Zz 1 YW.nd Zj)
    (Zb (Zz 2 YW.nd (ZM (Zi Zj (Zi Zj (Zi Zj (Zi Zj (Zi Zj (Zi Zj (Zi Zj (Zi Zj (Zi Zj (Zi Zj Zd))))))))))))
    (Zb (Zz 3 YW.nd (Z3 Zy (qv 2) (Zp ZL (qv 0) Zf)))
    (Zb (Xb Qbp rfl (XW rfl T.au (Zi (Zp YA Zf (Zp ZL (Zp Yh (qv 0) Zf) Zf)) Zd)) (Xq 4 YW.nd)
    (Ze (Zz 3 YW.nd (Zp uO (qv 3) (Z3 ix_str (qv 1) (Zp ZL (Zp YA (Zp Yh (qv 0) Zf) (Zp Xe Zf (qv 4))) Zf))))))
    (Ze (Zo (qv 3))))))),?_⟩
  refine L2.let5 ?_;intro U4 U3 U2 U1;refine Zg ?_;refine⟨by decide,fun m Y=>Zg ?_⟩;obtain⟨y,J,L⟩:=zi (l:=["","","","a","xy","so","not","yes","add","nought"]) (i:=r%10) (Qbz _ (by decide)) (Qb0 _ (by decide));refine⟨_,rfl,_,rfl,_,_,rfl,rfl,(by show(0:Int)<10;decide),m,_,_,_,rfl,rfl,SqL.of Za,L,Zg ?_⟩;have M:=Zc (o:=.lst [V.str "",V.str "",V.str "",V.str "a",V.str "xy",V.str "so",V.str "not",V.str "yes",V.str "add",V.str "nought"]) Y;generalize upd H m (.lst [V.str "",V.str "",V.str "",V.str "a",V.str "xy",V.str "so",V.str "not",V.str "yes",V.str "add",V.str "nought"])=H1 at *;obtain⟨n,O,C⟩:∃n:Nat,1+r/10%2=(n:Int)/\(n=1\/n=2):=⟨(1+r/10%2).toNat,by lia,by lia⟩;refine⟨_,rfl,_,_,rfl,rfl,.of (by decide) (by decide),_,_,rfl,rfl,(by show(0:Int)<2;decide),_,_,rfl,rfl,(n:Int),(by rw[<-O]),by lia,by lia,XU (fun i σ H'=>∃(q:Option V) (z:Str),σ=[some (.int r),some (.str Zbf),some (.ref m),some (.str z),q]/\NmI y (r/20) i z/\z.length<=6+i/\H'=H1) ⟨none,y,rfl,rfl,(by decide +kernel:∀y∈begL,y.length<=6) y J,rfl⟩ ?_ ?_⟩
  ·rintro i σ H' hi ⟨q,z,rfl,I,G,rfl⟩;obtain⟨c,hc,D⟩:=low_at (i:=(r/20+7*(0+(i:Int)))%26) (Qbz _ (by decide)) (Qb0 _ (by decide));refine⟨_,rfl,_,rfl,_,rfl,_,_,rfl,rfl,.of (by decide) (by decide),_,rfl,_,_,rfl,rfl,.inr (.inl ⟨by decide,by decide⟩),_,_,rfl,rfl,_,_,rfl,rfl,(by show(0:Int)<26;decide),_,_,c,rfl,rfl,Zg6,D,_,_,rfl,rfl,?_,Zg ⟨_,_,rfl,⟨z,c,I,by rw[Qhp]at D;exact D,rfl⟩,?_,rfl⟩⟩
   ·rw[Zdw];exact Qav (Z2 (by lia))
   ·rw[Str.length_append,Zdw];lia
  ·rintro σ H' ⟨q,z,rfl,I,G,rfl⟩;exact⟨_,rfl,k z _ (nm_all J C I) M⟩
inductive J6(vs:A2)(H:Hp)(Q:VK):Prop
 |mk (w:V):(vs=[w])->(((∃y,w=.str y)\/∃z:Int,w=.int z))->(∀p H',H p=none->H' p=some (.lst ((lpW w).map V.bl))->Z8 H H'->Q (.ref p) H')->J6 vs H Q
def kz(K:Af):Sp:=fun vs H Q _=>J6 vs H Q
theorem XI:Y5 P w K mg base CX0 1 t.mq t.mr ["word"] (kz K):=by
 refine T.av.F.ok km (fun vs H Q E h=>?_) (fun cdv A outer s H vs Q E hr h=>?_)
 ·obtain⟨_,rfl,_⟩:=h;rfl
 ·obtain⟨w,rfl,hw,k⟩:=h;have hu:=ZK hr;refine⟨_,@QSs.out _ _ _ (Zb (ZE (Zq ZZ (qv 0) (Yb (Zi Zj (Zi Zj (Zi Zj Zd)))) (by with_unfolding_all rfl))
    (Ze (Zo (ZM (Zi YC (Zi YC Zd))))) Zw)
    (Zb (ZE (Zq Yt (qv 0) Zj (Zx _))
    (Ze (Zo (ZM (Zi YC Zd)))) Zw)
    (Zb (ZE (Zq ZZ (qv 0) (Yb (Zi Zj (Zi Zj (Zi Zj (Zi Zj (Zi Zj (Zi Zj (Zi Zj (Zi Zj Zd))))))))) (by with_unfolding_all rfl))
    (Ze (Zo (ZM (Zi YC (Zi YC Zd))))) Zw)
    (Zb (ZE (Zq ZZ (qv 0) (Yb (Zi Zj (Zi Zj (Zi Zj (Zi Zj (Zi Zj (Zi Zj Zd))))))) (by with_unfolding_all rfl))
    (Ze (Zo (ZM (Zi YC Zd)))) Zw)
    (Zb (ZE (Zq Yt (qv 0) Zj (Zx _))
    (Ze (Zo (ZM (Zi YC (Zi YC (Zi YC Zd)))))) Zw)
    (Ze (Zo (ZM Zd)))))))),?_⟩
  refine L2.let6 ?_;intro U5 U4 U3 U2 U1;have e:=lpW_eq hw;have I:YM w=true:=by rcases hw with⟨y,rfl⟩|⟨z,rfl⟩<;>rfl
  have L:∀c,scal w (.str c)=true:=fun c=>by rcases hw with⟨y,rfl⟩|⟨z,rfl⟩<;>rfl
  have fin:∀(H1:Hp) (bs:Am),Z8 H H1->lpW w=bs->bs.length<=3->bs.length<=sizeLine/\∀p,H1 p=none->Q (.ref p) (upd H1 p (.lst (bs.map V.bl))):=fun H1 bs q hb h3=>⟨Qav (Z2 (by lia)),fun p J=>k p _ (q.free J) (by rw[Za,hb]) (q.trans (Zc J))⟩;refine⟨_,rfl,by decide,fun M G=>⟨M,_,rfl,.inr (SqT.of Za),I,rfl,_,rfl,z6 (fun c=>?_) (fun c=>?_)⟩⟩
  ·rw[Qa3 (show inV w ((["both","either","so"]:Ai).map V.str)=true from c)]at e;exact let⟨f1,f2⟩:=fin _ _ (Zc (o:=.tup [.str "both",.str "either",.str "so"]) G) e (by decide);⟨f1,f2⟩
  rw[Qay (show¬inV w ((["both","either","so"]:Ai).map V.str)=true from c)]at e;have q:=Zc (o:=.tup [.str "both",.str "either",.str "so"]) G;generalize upd H M (.tup [.str "both",.str "either",.str "so"])=H1 at *;refine⟨_,rfl,L _,_,rfl,z6 (fun c=>?_) (fun c=>?_)⟩
  ·rw[Qa3 c]at e;exact let⟨f1,f2⟩:=fin _ _ q e (by decide);⟨f1,f2⟩
  rw[Qay c]at e;refine⟨_,rfl,by decide,fun O C=>⟨O,_,rfl,.inr (SqT.of Za),I,rfl,_,rfl,z6 (fun c=>?_) (fun c=>?_)⟩⟩
  ·rw[Qa3 (show inV w ((["same","under","beneath","and","or","odd","add","sub"]:Ai).map V.str)=true from c)]at e;exact let⟨f1,f2⟩:=fin _ _ (q.trans (Zc (o:=.tup [.str "same",.str "under",.str "beneath",.str "and",.str "or",.str "odd",.str "add",.str "sub"]) C)) e (by decide);⟨f1,f2⟩
  rw[Qay (show¬inV w ((["same","under","beneath","and","or","odd","add","sub"]:Ai).map V.str)=true from c)]at e;have Z:=q.trans (Zc (o:=.tup [.str "same",.str "under",.str "beneath",.str "and",.str "or",.str "odd",.str "add",.str "sub"]) C);generalize upd H1 O (.tup [.str "same",.str "under",.str "beneath",.str "and",.str "or",.str "odd",.str "add",.str "sub"])=H2 at *;refine⟨_,rfl,by decide,fun q3 D=>⟨q3,_,rfl,.inr (SqT.of Za),I,rfl,_,rfl,z6 (fun c=>?_) (fun c=>?_)⟩⟩
  ·rw[Qa3 (show inV w ((["sign","nought","not","neg","twice","low"]:Ai).map V.str)=true from c)]at e;exact let⟨f1,f2⟩:=fin _ _ (Z.trans (Zc (o:=.tup [.str "sign",.str "nought",.str "not",.str "neg",.str "twice",.str "low"]) D)) e (by decide);⟨f1,f2⟩
  rw[Qay (show¬inV w ((["sign","nought","not","neg","twice","low"]:Ai).map V.str)=true from c)]at e;have Y:=Z.trans (Zc (o:=.tup [.str "sign",.str "nought",.str "not",.str "neg",.str "twice",.str "low"]) D);refine⟨_,rfl,L _,_,rfl,z6 (fun c=>?_) (fun c=>?_)⟩
  ·rw[Qa3 c]at e;exact let⟨f1,f2⟩:=fin _ _ Y e (by decide);⟨f1,f2⟩
  rw[Qay c]at e;exact let⟨f1,f2⟩:=fin _ _ Y e (by decide);⟨f1,f2⟩
inductive J7(vs:A2)(H:Hp)(Q:VK):Prop
 |mk (t:Aw) (ws:A2):(vs=[.ref t])->(H t=some (.tup ws))->((∀w∈ws,jB w))->(ws.length<=60)->(∀p H' (ms:Ai),H' p=some (.lst (ms.map V.str))->Z8 H H'->ms.Perm (XY ((ws.filter ntK).map Zfu))->PyProof.Rows.sortedS ms=true->Q (.ref p) H')->J7 vs H Q
def k4(K:Af):Sp:=fun vs H Q _=>J7 vs H Q
theorem k6:Y5 P w K mg base CX0 1 t.mw t.my ["words"] (k4 K):=by
 refine T.nv.F.ok Je (fun vs H Q E h=>?_) (fun cdv A outer s H vs Q E hr h=>?_)
 ·obtain⟨_,_,rfl,_⟩:=h;rfl
 ·obtain⟨t,C,rfl,ht,hw,hl,k⟩:=h;have hu:=ZK hr;refine⟨_,@QSs.out _ _ _ (Zb (Zz 1 Je.nd (Yb (Zi Zj (Zi Zj (Zi Zj (Zi Zj (Zi Zj (Zi Zj (Zi Zj (Zi Zj (Zi Zj (Zi Zj (Zi Zj (Zi Zj (Zi Zj (Zi Zj Zd))))))))))))))))
    (Zb (Zz 1 Je.nd (Zp Zln (qv 1) (Yb (Zi Zj (Zi Zj (Zi Zj (Zi Zj (Zi Zj (Zi Zj Zd)))))))))
    (Ze (Zo (Zn (JY rfl) (by rfl) T.cf JN (Zi (Z4 (vv rfl) (by rfl) T.aap Zix (Zi (Y3 ({}:ZP (Zh JG) _ ["words","kept"] "word" ["kept"] [1]) (Xs (qv 0)) (fun _ _ _ _=>(ve (WH (JQ (YQ (Zn (show Y9 _ (.builtin "isinstance") (Zn9 K)from X5) (by rfl) T.ak Yd (Zi (qv 0) (Zi (WN (v:=.ty "str") (by rfl) T.aaq Ziw rfl) Zd)))) (Wl (Zq (show OpR _ (compareOp .NotIn) (rIn K true)from qf) (qv 0) (qv 1) (by with_unfolding_all rfl))))))) (fun _ _ _ _=>(qv 0))) Zd)) Zd)))))),?_⟩
  refine L2.let3 ?_;intro U2 U1;refine⟨by decide,fun k1 J=>Zg ?_⟩;refine⟨_,rfl,by decide,fun k2 D=>⟨k1,k2,_,_,rfl,rfl,Zc D _ _ Za,Za,Qav (Z2 (by decide)),fun k3 H1 q s3=>Zg ?_⟩⟩;have O:Z8 H H1:=((Zc J).trans (Zc D)).trans s3;have q:H1 k3=some (.tup (ZJ.map V.str)):=q;have G:=O _ _ ht;refine⟨_,rfl,t,rfl,⟨_,SqT.of G⟩,vw (xs:=C) ntK Z8 Z8.refl (fun _ _ _ a b=>a.trans b) (fun H2 I=>SqT.of (I _ _ G)) (Qav (Z2 (by lia))) (fun x Y H2 I R hR=>?_) (fun x Y H2 R hR=>⟨_,rfl,hR⟩) (fun H2 l I M=>?_)⟩
  ·rcases hw x Y with⟨y,rfl,hy⟩|⟨z,rfl⟩
   ·refine⟨_,rfl,_,_,_,_,rfl,.str y,xk,_,rfl,Y2 ⟨_,rfl,_,rfl,k3,_,rfl,.inr (SqT.of (I _ _ q)),rfl,by decide +kernel,_,rfl,?_⟩⟩;have hR:=hR H2 (Z8.refl H2);rw[ZC];have e:(if true=true then !decide (y∈ZJ)else decide (y∈ZJ))=ntK (.str y):=by
     show(!decide (y∈ZJ))=decide (y∉ZJ)
     by_cases h:y∈ZJ
     ·grind
     ·grind
    rw[e];exact hR
   ·exact⟨_,rfl,_,_,_,_,rfl,.int z,xl,_,rfl,ZD (hR H2 (Z8.refl H2))⟩
  have fl:(C.filter ntK).length<=60:=Qbc (Qe2 _ _) hl;have ol:=vH ((C.filter ntK).map Zfu);rw[Qab]at ol;have es:((C.filter ntK).map Zfu).map V.str=C.filter ntK:=by
   rw[Qax];refine(Qbm (g:=id) fun w hw=>?_).trans (Qgh _);have h:=(Qdn.mp hw).2;cases w with
   |str y=>rfl
   |_=>cases h
  have L:=O.trans (I.trans (Zc (o:=.lst (C.filter ntK)) M));refine⟨l,(C.filter ntK).map Zfu,rfl,SqL.of (by rw[es];exact Za),by rw[Qab];lia,fun a ha=>⟨a,_,rfl,Za,by lia,fun m ms hm Z hs=>?_⟩⟩;exact k m _ ms Za (L.trans ((Zc ha).trans (Zc hm))) Z hs
inductive Jk(vs:A2)(H:Hp)(Q:VK):Prop
 |mk (y:Str) (v r:V) (W:Nat):(vs=[.str y,v,.int (2^W)])->(1<=W)->(W<=64)->(One1 W y v r)->(Q r H)->Jk vs H Q
def yL(K:Af):Sp:=fun vs H Q _=>Jk vs H Q
theorem yM:Y5 P w K mg base CX0 1 t.lg t.lh ["word","one","full"] (yL K):=by
 refine T.ly.F.ok yF (fun vs H Q E h=>?_) (fun J A outer s H vs Q E M h=>?_)
 ·obtain⟨_,_,_,_,rfl,_⟩:=h;rfl
 ·obtain⟨y,v,r,W,rfl,O,L,ho,k⟩:=h;have Z:=ZK M;refine⟨_,@QSs.out _ _ _ (Zb (ZE (Zq Yt (qv 0) Zj (Zx _))
    (Ze (Zo (Zp YO (Zp YO (qv 2) Zf) (qv 1)))) Zw)
    (Zb (ZE (Zq Yt (qv 0) Zj (Zx _))
    (Ze (Zo (Zp ZL (Zp YO (qv 2) (qv 1)) (qv 2)))) Zw)
    (Zb (ZE (Zq Yt (qv 0) Zj (Zx _))
    (Ze (Zo (Zp ZL (Zp Xe Zf (qv 1)) (qv 2)))) Zw)
    (Zb (ZE (Zq Yt (qv 0) Zj (Zx _))
    (Ze (Zo (Zp Xg (qv 1) (Zp YO (qv 2) (qv 1))))) Zw)
    (Zb (ZE (Zq Yt (qv 0) Zj (Zx _))
    (Ze (Zo (Yk Zn3 (Zp Xe Zf (qv 1)) (qv 2) (Zx _)))) Zw)
    (Zb (ZE (Zq Yt (qv 0) Zj (Zx _))
    (Ze (Zo (Yk Yt (qv 1) Zf (Zx _)))) Zw)
    (Ze (Zo (Zcn (qv 1)))))))))),?_⟩
  refine L2.let7 ?_;intro Y U5 U4 U3 U2 U1;have D:=qR W;have I:=pw_le L;rcases ho with⟨G,a,rfl,q,a1,rfl⟩|⟨G,a,rfl,q,a1,rfl⟩|⟨rfl,b,rfl,rfl⟩
  ·have C:y = "not" \/ y = "neg" \/ y = "twice" \/ y = "low" :=by simpa only[Qao,Qba,Qdz]using G
   rcases C with rfl|rfl|rfl|rfl
   ·refine⟨_,rfl,rfl,_,rfl,Y2 ⟨_,rfl,_,_,rfl,rfl,_,rfl,_,_,rfl,rfl,?_⟩⟩;rw[show Znk "not" a%2^W=2^W-1-a from Zm4 q a1]at k;exact k
   ·refine⟨_,rfl,rfl,_,rfl,ZD ⟨_,rfl,rfl,_,rfl,Y2 ⟨_,rfl,_,rfl,_,_,rfl,rfl,_,rfl,_,_,rfl,rfl,D,?_⟩⟩⟩;rw[show Znk "neg" a%2^W=(2^W-a)%2^W from Zfc a W]at k;exact k
   ·refine⟨_,rfl,rfl,_,rfl,ZD ⟨_,rfl,rfl,_,rfl,ZD ⟨_,rfl,rfl,_,rfl,Y2 ⟨_,rfl,_,_,rfl,rfl,.inr (.inr ⟨by lia,by lia⟩),_,rfl,_,_,rfl,rfl,D,?_⟩⟩⟩⟩;rw[show Znk "twice" a%2^W=2*a%2^W by show(a+a)%2^W=_;rw[Int.two_mul]]at k;exact k
   ·refine⟨_,rfl,rfl,_,rfl,ZD ⟨_,rfl,rfl,_,rfl,ZD ⟨_,rfl,rfl,_,rfl,ZD ⟨_,rfl,rfl,_,rfl,Y2 ⟨_,rfl,_,rfl,_,rfl,_,_,rfl,rfl,_,_,rfl,rfl,?_⟩⟩⟩⟩⟩;rw[show Znk "low" a%2^W=Builtin.bitAnd a (2^W-a)from Zm5 q a1]at k;exact k
  ·have C:y = "sign" \/ y = "nought" :=by grind
   rcases C with rfl|rfl
   ·refine⟨_,rfl,rfl,_,rfl,ZD ⟨_,rfl,rfl,_,rfl,ZD ⟨_,rfl,rfl,_,rfl,ZD ⟨_,rfl,rfl,_,rfl,ZD ⟨_,rfl,rfl,_,rfl,Y2 ⟨_,rfl,_,_,rfl,rfl,.inr (.inr ⟨by lia,by lia⟩),_,rfl,_,_,rfl,rfl,?_⟩⟩⟩⟩⟩⟩;rw[sign_eq q a1]at k;exact k
   ·refine⟨_,rfl,rfl,_,rfl,ZD ⟨_,rfl,rfl,_,rfl,ZD ⟨_,rfl,rfl,_,rfl,ZD ⟨_,rfl,rfl,_,rfl,ZD ⟨_,rfl,rfl,_,rfl,ZD ⟨_,rfl,rfl,_,rfl,Y2 ⟨_,rfl,rfl,?_⟩⟩⟩⟩⟩⟩⟩;rw[show zE (2^W) "nought" [a]=decide (V.int a=V.int 0)from Zfd a]at k;exact k
  ·exact⟨_,rfl,rfl,_,rfl,ZD ⟨_,rfl,rfl,_,rfl,ZD ⟨_,rfl,rfl,_,rfl,ZD ⟨_,rfl,rfl,_,rfl,ZD ⟨_,rfl,rfl,_,rfl,ZD ⟨_,rfl,rfl,_,rfl,ZD ⟨_,rfl,_,rfl,k⟩⟩⟩⟩⟩⟩⟩
inductive Jl(vs:A2)(H:Hp)(Q:VK):Prop
 |mk (y:Str) (v u r:V) (W:Nat):(vs=[.str y,v,u,.int (2^W)])->(1<=W)->(W<=64)->(Two2 W y v u r)->(∀H',Z8 H H'->Q r H')->Jl vs H Q
def yN(K:Af):Sp:=fun vs H Q _=>Jl vs H Q
theorem yO:Y5 P w K mg base CX0 1 t.lj t.lq ["word","one","other","full"] (yN K):=by
 refine T.lz.F.ok yG (fun vs H Q E h=>?_) (fun cdv A outer s H vs Q E hr h=>?_)
 ·obtain⟨_,_,_,_,_,rfl,_⟩:=h;rfl
 ·obtain⟨y,v,u,r,W,rfl,O,hW,ho,k⟩:=h;have hu:=ZK hr;refine⟨_,@QSs.out _ _ _ (Zb (ZE (Zq ZZ (qv 0) (Yb (Zi Zj (Zi Zj (Zi Zj Zd)))) (by with_unfolding_all rfl))
    (Ze (Zo (Z3 Zy (ZM (Zi (Zp Xg (qv 1) (qv 2)) (Zi (Zp z7 (qv 1) (qv 2)) (Zi (Zp qZ (qv 1) (qv 2)) Zd)))) (qe_tm PySem.F.slot_tuple_index PySem.F.type_tuple_index Zdt (Yb (Zi Zj (Zi Zj (Zi Zj Zd)))) (Zi (qv 0) Zd))))) Zw)
    (Zb (ZE (Zq Yt (qv 0) Zj (Zx _))
    (Ze (Zo (Zp ZL (Zp YA (qv 1) (qv 2)) (qv 3)))) Zw)
    (Zb (ZE (Zq Yt (qv 0) Zj (Zx _))
    (Ze (Zo (Zp ZL (Zp YO (qv 1) (qv 2)) (qv 3)))) Zw)
    (Zb (ZE (Zq Yt (qv 0) Zj (Zx _))
    (Ze (Zo (Yk Yt (qv 1) (qv 2) (Zx _)))) Zw)
    (Zb (ZE (Zq Yt (qv 0) Zj (Zx _))
    (Ze (Zo (Yk Zb1 (qv 1) (qv 2) (Zx _)))) Zw)
    (Zb (ZE (Zq Yt (qv 0) Zj (Zx _))
    (Ze (Zo (Yk Zb1 (Zp ZL (Zp YA (qv 1) (Zp Yh (qv 3) Zf)) (qv 3)) (Zp ZL (Zp YA (qv 2) (Zp Yh (qv 3) Zf)) (qv 3)) (Zx _)))) Zw)
    (Zb (ZE (Zq Yt (qv 0) Zj (Zx _))
    (Ze (Zo (g7 (qv 1) (xm (qv 2))))) Zw)
    (Zb (ZE (Zq Yt (qv 0) Zj (Zx _))
    (Ze (Zo (Zkv (qv 1) (xm (qv 2))))) Zw)
    (Ze (Zo (Zkv (qv 2) (xm (Zcn (qv 1)))))))))))))),?_⟩
  refine L2.let9 ?_;intro U8 U7 U6 U5 U4 U3 U2 U1;have J:=qR W;refine⟨_,rfl,by decide,fun Z M=>⟨Z,_,rfl,.inr (SqT.of Za),rfl,rfl,_,rfl,?_⟩⟩;rw[show inV (.str y) [V.str "and",V.str "or",V.str "odd"]=decide (y∈(["and","or","odd"]:Ai))from ZC y ["and","or","odd"]];have q:=Zc (o:=.tup [V.str "and",V.str "or",V.str "odd"]) M;generalize upd H Z (.tup [V.str "and",V.str "or",V.str "odd"])=H1 at *;rcases ho with⟨I,a,b,rfl,rfl,⟨L,a1⟩,⟨Y,b1⟩,rfl⟩|⟨I,a,b,rfl,rfl,⟨L,a1⟩,⟨Y,b1⟩,rfl⟩|⟨I,a,b,rfl,rfl,rfl⟩
  ·have D:y = "and" \/ y = "or" \/ y = "odd" \/ y = "add" \/ y = "sub" :=by simpa only[Qao,Qba,Qdz]using I
   obtain⟨m1,m2,m3⟩:=Zh0 L a1 Y b1;have fin:∀(j:Nat) (z:Int) (y:Str),(∃C,[V.str "and",V.str "or",V.str "odd"][j]?=some C/\eqV C (.str y)=true)->(∀i C,i<j->[V.str "and",V.str "or",V.str "odd"][i]?=some C->eqV C (.str y)=false)->[V.int (Builtin.bitAnd a b),V.int (Builtin.bitOr a b),V.int (Builtin.bitXor a b)][j]?=some (.int z)->(∀H',Z8 H H'->Q (.int z) H')->tRet (tOp (Zpa K) (tLst (G9 (tOp (rI0 fun i j=>V.int (Builtin.bitAnd i j)) (yP 1) (yP 2)) (G9 (tOp (rI0 fun i j=>V.int (Builtin.bitOr i j)) (yP 1) (yP 2)) (G9 (tOp (rI0 fun i j=>V.int (Builtin.bitXor i j)) (yP 1) (yP 2)) Zkj)))) (tTM Zds (tTup (G9 (tC (V.str "and")) (G9 (tC (V.str "or")) (G9 (tC (V.str "odd")) Zkj)))) (G9 (yP 0) Zkj))) {nx:=fun _ H'=>Q .non H',rt:=Q} [some (.str y),some (.int a),some (.int b),some (.int (2^W))] H1:=by
    intro j z y ⟨C,h1,h2⟩ h3 D h5;refine⟨_,rfl,_,rfl,_,_,rfl,rfl,_,rfl,_,rfl,_,_,rfl,rfl,_,rfl,_,rfl,_,_,rfl,rfl,zln3,fun l hl=>⟨by decide,fun q2 G=>⟨q2,_,rfl,Za,_,rfl,q2,_,_,C,j,rfl,rfl,Za,rfl,rfl,h1,h2,h3,l,_,_,_,rfl,rfl,SqL.of (Zc G _ _ Za),YB D,h5 _ (q.trans ((Zc hl).trans (Zc G)))⟩⟩⟩
   rcases D with rfl|rfl|rfl|rfl|rfl
   ·rw[show Zov "and" a b%2^W=Builtin.bitAnd a b from m1]at k;exact Y2 (fin 0 _ _ ⟨_,rfl,rfl⟩ (fun i C hi=>by lia) rfl k)
   ·rw[show Zov "or" a b%2^W=Builtin.bitOr a b from m2]at k;exact Y2 (fin 1 _ _ ⟨_,rfl,rfl⟩ (fun i C hi e=>by
     obtain rfl:i=0:=by lia
     cases e;rfl) rfl k)
   ·rw[show Zov "odd" a b%2^W=Builtin.bitXor a b from m3]at k;exact Y2 (fin 2 _ _ ⟨_,rfl,rfl⟩ (fun i C hi e=>by
     rcases(by lia:i=0\/i=1)with rfl|rfl<;>cases e<;>rfl) rfl k)
   ·exact ZD ⟨_,rfl,rfl,_,rfl,Y2 ⟨_,rfl,_,rfl,_,_,rfl,rfl,_,rfl,_,_,rfl,rfl,J,k _ q⟩⟩
   ·exact ZD ⟨_,rfl,rfl,_,rfl,ZD ⟨_,rfl,rfl,_,rfl,Y2 ⟨_,rfl,_,rfl,_,_,rfl,rfl,_,rfl,_,_,rfl,rfl,J,k _ q⟩⟩⟩
  ·have D:y = "same" \/ y = "under" \/ y = "beneath" :=by simpa only[Qao,Qba,Qdz]using I
   rcases D with rfl|rfl|rfl
   ·rw[show zE (2^W) "same" [a,b]=decide (V.int a=V.int b)from Qcv.mpr ⟨fun z=>by rw[show a=b from z],fun z=>by injection z⟩]at k;exact ZD ⟨_,rfl,rfl,_,rfl,ZD ⟨_,rfl,rfl,_,rfl,ZD ⟨_,rfl,rfl,_,rfl,Y2 ⟨_,rfl,_,rfl,rfl,k _ q⟩⟩⟩⟩
   ·exact ZD ⟨_,rfl,rfl,_,rfl,ZD ⟨_,rfl,rfl,_,rfl,ZD ⟨_,rfl,rfl,_,rfl,ZD ⟨_,rfl,rfl,_,rfl,Y2 ⟨_,rfl,_,rfl,_,_,rfl,rfl,k _ q⟩⟩⟩⟩⟩
   ·rw[ben_eq O L a1 Y b1]at k;refine ZD ⟨_,rfl,rfl,_,rfl,ZD ⟨_,rfl,rfl,_,rfl,ZD ⟨_,rfl,rfl,_,rfl,ZD ⟨_,rfl,rfl,_,rfl,ZD ⟨_,rfl,rfl,_,rfl,Y2 ?_⟩⟩⟩⟩⟩;exact⟨_,rfl,_,rfl,_,_,rfl,rfl,.of (by decide) (by decide),_,_,rfl,rfl,_,rfl,_,_,rfl,rfl,J,_,rfl,_,rfl,_,_,rfl,rfl,.of (by decide) (by decide),_,_,rfl,rfl,_,rfl,_,_,rfl,rfl,J,_,_,rfl,rfl,k _ q⟩
  ·have D:y = "both" \/ y = "either" \/ y = "so" :=by simpa only[Qao,Qba,Qdz]using I
   rcases D with rfl|rfl|rfl
   ·refine ZD ⟨_,rfl,rfl,_,rfl,ZD ⟨_,rfl,rfl,_,rfl,ZD ⟨_,rfl,rfl,_,rfl,ZD ⟨_,rfl,rfl,_,rfl,ZD ⟨_,rfl,rfl,_,rfl,ZD ⟨_,rfl,rfl,_,rfl,Y2 ⟨_,rfl,_,rfl,?_⟩⟩⟩⟩⟩⟩⟩;cases a
    ·exact ZD (k _ q)
    ·exact Y2 ⟨_,rfl,k _ q⟩
   ·refine ZD ⟨_,rfl,rfl,_,rfl,ZD ⟨_,rfl,rfl,_,rfl,ZD ⟨_,rfl,rfl,_,rfl,ZD ⟨_,rfl,rfl,_,rfl,ZD ⟨_,rfl,rfl,_,rfl,ZD ⟨_,rfl,rfl,_,rfl,ZD ⟨_,rfl,rfl,_,rfl,Y2 ⟨_,rfl,_,rfl,?_⟩⟩⟩⟩⟩⟩⟩⟩;cases a
    ·exact ZD ⟨_,rfl,k _ q⟩
    ·exact Y2 (k _ q)
   ·refine ZD ⟨_,rfl,rfl,_,rfl,ZD ⟨_,rfl,rfl,_,rfl,ZD ⟨_,rfl,rfl,_,rfl,ZD ⟨_,rfl,rfl,_,rfl,ZD ⟨_,rfl,rfl,_,rfl,ZD ⟨_,rfl,rfl,_,rfl,ZD ⟨_,rfl,rfl,_,rfl,ZD ⟨_,rfl,_,rfl,?_⟩⟩⟩⟩⟩⟩⟩⟩;cases b
    ·exact ZD ⟨_,rfl,_,rfl,k _ q⟩
    ·exact Y2 (k _ q)
inductive WA(vs:A2)(H:Hp)(Q:VK):Prop
 |mk (pn:Aw) (nm:Ai) (m:Nat):(vs=[.ref pn,.int (m:Int)])->(H pn=some (.lst (nm.map V.str)))->(nm.Nodup)->(nm.length<=3)->(m^nm.length<=10000)->(1<=m)->(∀p H',Gs H' p nm (chs m nm.length)->Z8 H H'->Q (.ref p) H')->WA vs H Q
def zW(K:Af):Sp:=fun vs H Q _=>WA vs H Q
theorem zX:Y5 P w K mg base CX0 1 t.fw t.gb ["names","full"] (zW K):=by
 refine T.ip.F.ok ZV (fun vs H Q E h=>?_) (fun cdv A outer s H vs Q E hr h=>?_)
 ·obtain⟨_,_,_,rfl,_⟩:=h;rfl
 ·obtain⟨pn,nm,m,rfl,Y,O,hn3,J,hm1,k⟩:=h;have hu:=ZK hr;refine⟨_,@QSs.out _ _ _ (Zb (Zz 2 ZV.nd (ZM (Zi xr Zd)))
    (Zb (Xb Qbp rfl (Xr (qv 0)) (Xq 3 ZV.nd)
    (Zb (Zz 4 ZV.nd (ZM Zd))
    (Zb (Xb Qbp rfl (Xr (qv 2)) (Xq 5 ZV.nd)
    (Ze (Xb Qbp rfl (XW rfl T.au (Zi (qv 1) Zd)) (Xq 6 ZV.nd)
    (Zb (Zz 7 ZV.nd (Z4 uZ (by rfl) T.aav Zk1 (Zi (qv 5) Zd)))
    (Zb (GC hu (qv 7) (qv 3) (qv 6) rfl)
    (Ze (Yn (YD Qat Qa5 Qa6 ZF (qv 4) (Zi (qv 7) Zd)))))))))
    (Ze (Zz 2 ZV.nd (qv 4))))))
    (Ze (Zo (qv 2))))),?_⟩
  refine L2.let3 ?_;intro U2 U1;refine fun d hd=>⟨Znq,fun fo I=>Zg ?_⟩;have s1:=(Zc (o:=.dK []) hd).trans (Zc (o:=.lst [V.ref d]) I);have D1:Gs (upd (upd H d (.dK [])) fo (.lst [V.ref d])) fo (nm.take 0) (chs m 0):=by
   refine⟨[d],Za,rfl,fun i d' v h1 h2=>?_⟩;cases i with
   |zero=>
    cases h1;cases h2;exact Zc I _ _ Za
   |succ i=>cases h1
  refine⟨_,rfl,pn,rfl,⟨_,SqL.of (s1 _ _ Y)⟩,gv (K:=K) (a:=pn) (xs:=nm.map V.str) (fun i σ H'=>∃(fo:Aw) (u3 u4 G D C:Option V),σ=[some (.ref pn),some (.int (m:Int)),some (.ref fo),u3,u4,G,D,C]/\i<=nm.length/\Gs H' fo (nm.take i) (chs m i)/\Z8 H H') ⟨fo,none,none,none,none,none,rfl,Qbt _,D1,s1⟩ (fun i σ H' _ ⟨_,_,_,_,_,_,_,_,_,s⟩=>SqL.of (s _ _ Y)) ?_ ?_⟩
  ·rintro i x σ H2 hx ⟨fo,u3,u4,G,D,C,rfl,hi0,D2,s2⟩;obtain⟨y,rfl,hy⟩:=Zea hx;have L:i<nm.length:=(Qag.mp hy).1;have hyn:y∉nm.take i:=fun h=>by
    obtain⟨j,hj⟩:=Qcl.mp h;rw[Qdt]at hj;split at hj
    ·rename_i hlt;have e1:=W0 O hj;have e2:=W0 O hy;lia
    ·cases hj
   have etk:nm.take (i+1)=nm.take i++[y]:=take_snoc hy;have ltk:(nm.take i).length=i:=by rw[Qa2];lia
   have hb1:m^i*m<=10000:=by
    exact Qbc (Qcr hm1 L) J
   refine Zg ⟨by decide,fun wi Z=>Zg ?_⟩;have s3:=Zc (o:=.lst []) Z;obtain⟨ds,d1,d2,d3⟩:=D2;have W3:Gs (upd H2 wi (.lst [])) wi (nm.take (i+1)) []:=⟨[],Za,rfl,fun i d v h1 _=>by cases h1⟩;refine⟨_,rfl,fo,rfl,⟨_,SqL.of (s3 _ _ d1)⟩,gv (K:=K) (a:=fo) (xs:=ds.map V.ref) (fun j σ H'=>∃(G D C:Option V),σ=[some (.ref pn),some (.int (m:Int)),some (.ref fo),some (.str y),some (.ref wi),G,D,C]/\j<=ds.length/\Gs H' wi (nm.take (i+1)) (((chs m i).take j).flatMap fun vs=>(List.range m).map fun w=>vs++[w])/\Z8 H2 H') ⟨G,D,C,rfl,Qbt _,W3,s3⟩ (fun j σ H' _ ⟨_,_,_,_,_,_,s⟩=>SqL.of (s _ _ d1)) ?_ ?_⟩
   ·rintro j x σ H4 hx ⟨v5,v6,v7,rfl,hj0,W4,s4⟩;rw[Qah]at hx;obtain⟨dv,hdv,rfl⟩:=Qa4.mp hx;have hjl:j<ds.length:=(Qag.mp hdv).1;have q:j<(chs m i).length:=by rw[<-d2];exact hjl
    have M:=Qac q;have hvl:=(Ze6 (Qbs q)).1;have hkv:=d3 j dv _ hdv M;generalize (chs m i)[j]=vs at *;have efm:((chs m i).take (j+1)).flatMap (fun vs=>(List.range m).map fun w=>vs++[w])=((chs m i).take j).flatMap (fun vs=>(List.range m).map fun w=>vs++[w])++(List.range m).map fun w=>vs++[w]:=by
     rw[take_snoc M,List.flatMap_append];simp
    have fl:∀l:Ad,(l.flatMap fun vs=>(List.range m).map fun w=>vs++[w]).length=l.length*m:=by
     intro l
     induction l with
     |nil=>exact(Qhr _).symm
     |cons v l ih=>rw[Qha,Qak,ih,Qab,Qbb,Qa9,Qgn,Qf1]
    have hb2:j*m+m<=10000:=by
     rw[<-Qgn];rw[Ze5]at q;exact Qbc (Qe9 _ q) hb1
    refine Zg ⟨_,rfl,(m:Int),rfl,by lia,by lia,XU (fun w σ H'=>∃(D C:Option V),σ=[some (.ref pn),some (.int (m:Int)),some (.ref fo),some (.str y),some (.ref wi),some (.ref dv),D,C]/\Gs H' wi (nm.take (i+1)) (((chs m i).take j).flatMap (fun vs=>(List.range m).map fun w=>vs++[w])++(List.range w).map fun w=>vs++[w])/\Z8 H2 H') ⟨v6,v7,rfl,by rw[List.range_zero,List.map_nil,Qby];exact W4,s4⟩ ?_ ?_⟩
    ·rintro w σ H5 hw ⟨v6,v7,rfl,W5,s5⟩;refine Zg ⟨_,rfl,dv,_,rfl,.inl (s5 _ _ hkv),fun p hp=>Zg ?_⟩;refine⟨_,rfl,_,rfl,_,rfl,p,_,rfl,Zbe.k (k:=.inr y) Za (Z2 (by have:=Zm7 (nm.take i) vs;lia)),?_⟩;rw[kH,Qhp,Zm8 hyn (by rw[hvl,ltk]),<-etk];obtain⟨es,e1,e2,e3⟩:=id W5;have hpw:wi≠p:=fun z=>by rw[z,hp]at e1;cases e1
     have sp:=Zc (o:=.dK (kvC (nm.take (i+1)) (vs++[w]))) hp;have e6:=sp _ _ e1;have hel:es.length<10000:=by
      grind
     refine⟨_,rfl,.inl ⟨rfl,_,SqL.of e6⟩,_,rfl,wi,_,_,rfl,rfl,e6,by rw[Qab];exact Yu (by lia),?_⟩;refine⟨_,_,rfl,?_,?_⟩
     ·rw[Qeb,Qaz,<-Qcg];refine W5.snoc (p:=p) (fun d kv e=>?_) (fun es' h=>?_) ?_
      ·rw[Zk (Xn e e1 fun z=>nomatch z)];exact sp _ _ e
      ·rw[Za];rw[e1]at h;injection h with h;injection h with h;rw[h]
      ·rw[Zk hpw.symm,Za]
     ·exact ZR (s5.trans sp) Z
    ·grind
   ·rintro σ H4 ⟨v5,v6,v7,rfl,hj0,W4,s4⟩;rw[Qab,d2,Qb7]at W4;exact⟨_,rfl,Zg ⟨wi,_,_,_,_,_,rfl,L,W4,s2.trans s4⟩⟩
  ·rintro σ H2 ⟨fo,u3,u4,G,D,C,rfl,hi0,D2,s2⟩;rw[Qab,Qb7]at D2;exact⟨_,rfl,k fo H2 D2 s2⟩
inductive G1(vs:A2)(H:Hp)(Q:VK):Prop
 |mk (p q1 q2:Aw) (tl rg:Am) (TT:Nat->Bool):(vs=[.ref p])->(H p=some (.tup [.ref q1,.ref q2]))->(H q1=some (.tup (tl.map V.bl)))->(H q2=some (.tup (rg.map V.bl)))->(tl.length<=100000)->(rg.length<=100000)->(ZS TT tl rg)->(∀H',Z8 H H'->Q (.bl true) H')->G1 vs H Q
def wX(K:Af):Sp:=fun vs H Q _=>G1 vs H Q
theorem wY:Y5 P w K mg base CX0 1 t.pj t.pk ["told"] (wX K):=by
 refine T.dk.F.ok Xy (fun vs H Q E h=>?_) (fun cdv A outer s H vs Q E hr h=>?_)
 ·obtain⟨_,_,_,_,_,_,rfl,_⟩:=h;rfl
 ·obtain⟨p,Y,G,tl,C,TT,rfl,hp,h1,h2,M,D,S,k⟩:=h;have hu:=ZK hr;refine⟨_,@QSs.out _ _ _ (Zb (ZE (WH (jQ (jg (YQ (Zn X5 (by rfl) T.ak Yd (Zi (qv 0) (Zi (WN (v:=.ty "tuple") (by rfl) T.ah ZQ rfl) Zd))))) (JP (Zq Zf2 (Zn Zr (by rfl) T.ae Ya (Zi (qv 0) Zd)) Zf (Zx _)))))
    (Ze (Zo YC)) Zw)
    (Zb (Xb Qbp rfl (Xs (qv 0)) (Xq 1 Xy.nd)
    (Ze (ZE (WH (jQ (jg (YQ (Zn X5 (by rfl) T.ak Yd (Zi (qv 1) (Zi (WN (v:=.ty "tuple") (by rfl) T.ah ZQ rfl) Zd))))) (JP (Zq (jY (Wo hr)) (Y3 ({}:ZP (Zh GQ) _ ["told","row","tail","ring","size"] "truth" [] []) (Xs (qv 1)) (fun _ _ _ _=>(ve (jg (YQ (Zn (show Y9 _ (.builtin "isinstance") (Zn9 K)from X5) (by rfl) T.ak Yd (Zi (qv 0) (Zi (WN (v:=.ty "bool") (by rfl) T.aau Zku rfl) Zd))))))) (fun _ _ _ _=>(qv 0))) (ZM Zd) (Zx _)))))
    (Ze (Zo YC)) Zw)))
    (Zb (g8 (qv 0) (jX rfl (Xq 2 Xy.nd) (Xq 3 Xy.nd)))
    (Zb (ZE (WH (jQ (Zq (Zc6 (Wo hr)) (qv 3) (Yb Zd) (Zx _)) (JP (WH (JQ (Zq (Zlb (Wo hr)) (qv 2) (Yb Zd) (Zx _)) (Wl (Zq Yt (Z3 ZO (qv 2) (JO xa Zf)) (Z3 ZO (qv 3) (JO xa Zf)) (Zx _))))))))
    (Ze (Zo YC)) Zw)
    (Zb (Xb Qbp rfl (jy rfl T.au (Zi Zf (Zi (Zn Zr (by rfl) T.ae Ya (Zi (qv 3) Zd)) Zd))) (Xq 4 Xy.nd)
    (Ze (ZE (WH (JQ (Zq Yt (Zp ZL (Zn Zr (by rfl) T.ae Ya (Zi (qv 3) Zd)) (qv 4)) Zf (Zx _)) (Wl (Zq (Zc6 (Wo hr)) (qv 3) (Zp Zli (X6 (SlR.or sl_tup Zk0) (qv 3) JF (Wn (qv 4))) (Zp Yh (Zn Zr (by rfl) T.ae Ya (Zi (qv 3) Zd)) (qv 4))) (Zx _)))))
    (Ze (Zo YC)) Zw)))
    (Ze (Zo YC))))))),?_⟩
  try dsimp only[L2.cxK,L2.cxK2]
  refine L2.let6 ?_;intro U5 U4 U3 U2 U1;have two:∀x∈[V.ref Y,V.ref G],∃(q:Aw) (bs:Am),x=.ref q/\H q=some (.tup (bs.map V.bl))/\bs.length<=100000:=fun x hx=>by
   rcases Qao.mp hx with rfl|hx
   ·exact⟨Y,tl,rfl,h1,M⟩
   ·rw[Qaw.mp hx];exact⟨G,C,rfl,h2,D⟩
  refine⟨_,rfl,_,_,_,_,rfl,.tup hp,xj,_,rfl,ZD ⟨_,rfl,p,_,rfl,.inr (SqT.of hp),rfl,_,rfl,ZD ?_⟩⟩;refine⟨_,rfl,p,rfl,⟨_,SqT.of hp⟩,jO (K:=K) (a:=p) (xs:=[V.ref Y,V.ref G]) (fun i σ H'=>∃u1:Option V,σ=[some (.ref p),u1,none,none,none]/\Z8 H H') ⟨none,rfl,Z8.refl H⟩ (fun i σ H' _ ⟨_,_,s⟩=>SqT.of (s _ _ hp)) ?_ ?_⟩
  ·rintro i x σ H2 hx ⟨u1,rfl,O⟩;obtain⟨q,bs,rfl,hq,hb⟩:=two x (Qar hx);have L:=O _ _ hq;refine Zg ⟨_,rfl,_,_,_,_,rfl,.tup L,xj,_,rfl,ZD ?_⟩;refine⟨_,rfl,q,rfl,⟨_,SqT.of L⟩,X7 (xs:=bs.map V.bl) (fun i zs H'=>zs=[]/\H'=H2) ⟨rfl,rfl⟩ (fun i zs H' ⟨e,_⟩=>by rw[e];exact Qbt _) (fun i zs H' ⟨_,e⟩=>by rw[e];exact SqT.of L) ?_ ?_⟩
   ·rintro j y zs H' N hN hy ⟨rfl,rfl⟩;rw[Qah]at hy;obtain⟨b,_,rfl⟩:=Qa4.mp hy;exact⟨_,rfl,_,_,_,_,rfl,.bl _,jT,_,rfl,ZD (hN _ _ ⟨rfl,rfl⟩)⟩
   ·rintro zs H' ⟨rfl,e⟩ l hl;rw[e]at hl ⊢;have s3:=Zc (o:=.lst []) hl;refine⟨Zbc,fun l2 D=>⟨l,l2,_,_,rfl,rfl,SqL.of (Zc D _ _ Za),SqL.of Za,rfl,rfl,_,rfl,ZD ⟨_,rfl,O.trans (s3.trans (Zc D))⟩⟩⟩
  rintro σ H2 ⟨u1,rfl,O⟩;refine⟨_,rfl,p,_,rfl,SqT.of (O _ _ hp),rfl,_,_,rfl,Zg ⟨_,_,rfl,Zg ⟨rfl,?_⟩⟩⟩;have fin:∀H3,Z8 H H3->U4 {nx:=fun _ H'=>Q .non H',rt:=Q} [some (.ref p),u1,some (.ref Y),some (.ref G),none] H3:=fun H3 s3=>by
   have Z:(C.map V.bl).length=C.length:=Qab ..;have hpos:=S.pos;refine⟨_,rfl,G,_,rfl,.inr (SqT.of (s3 _ _ h2)),1,_,rfl,⟨by decide,by decide,by rw[Z];lia,by rw[Z];lia⟩,?_⟩;rw[Z];refine ju (fun i σ H'=>∃u4:Option V,σ=[some (.ref p),u1,some (.ref Y),some (.ref G),u4]/\Z8 H H') ⟨none,rfl,s3⟩ ?_ ?_
   ·rintro i σ H4 hi ⟨u4,rfl,I⟩ N bk r' hN;have J:=I _ _ h2;have hi:i+1<C.length:=by lia
    have ew:(1:Int)+(i:Int)=((i+1:Nat):Int):=by lia
    rw[ew];refine Zg ⟨_,rfl,G,_,rfl,.inr (SqT.of J),_,rfl,_,_,rfl,rfl,(by show(0:Int)<((i+1:Nat):Int);lia),rfl,_,rfl,?_⟩;rw[Z]
    by_cases hd:C.length%(i+1)=0
    ·have e0:(C.length:Int)%((i+1:Nat):Int)=0:=by rw[<-Qd1,hd];rfl
     rw[Qan (show V.int ((C.length:Int)%((i+1:Nat):Int))=V.int 0 by rw[e0])];have hk2:2<=C.length/(i+1):=by
      obtain⟨q,hq⟩:=Nat.dvd_of_mod_eq_zero hd;rw[hq,Nat.mul_div_cancel_left _ (by lia)];rcases(by lia:q=0\/q=1\/2<=q)with z|z|z
      ·rw[z,Nat.mul_zero]at hq;lia
      ·rw[z,Nat.mul_one]at hq;lia
      ·exact z
     have hkl:C.length/(i+1)<=C.length:=Nat.div_le_self _ _;refine Y2 ⟨_,rfl,_,rfl,_,rfl,_,rfl,.inl ⟨G,_,rfl,SqT.of J,?_,fun l1 M=>?_⟩⟩
     ·rintro⟨_,z⟩;rw[Z]at z;simp only[HT.sIx]at z;rw[Qay (by lia)]at z;lia
     rw[XA,Wd];have s5:=Zc (o:=.tup ((C.take (i+1)).map V.bl)) M;have ek:((C.map V.bl).length:Int)/((i+1:Nat):Int)=((C.length/(i+1):Nat):Int):=by rw[Z,Int.natCast_ediv]
     refine⟨_,rfl,G,_,rfl,.inr (SqT.of (s5 _ _ J)),_,rfl,_,_,rfl,rfl,.of (by lia) (by lia),l1,_,_,rfl,rfl,SqT.of Za,by rw[ek];lia,by rw[ek];lia,?_,?_,fun l2 D=>?_⟩
     ·intro z;have:=congrArg List.length z;rw[Qab,Qa2]at this;have:min (i+1) C.length=0:=this;lia
     ·rw[ek,Qbn,Qab,Qa2,Qex (by lia)];exact Qav (Yu (by have:=Nat.mul_div_le C.length (i+1);lia))
     rw[ek,Qbn,rep_bl];have s6:=Zc (o:=.tup ((List.replicate (C.length/(i+1)) (C.take (i+1))).flatten.map V.bl)) D;refine⟨G,l2,_,_,rfl,rfl,SqT.of (s6 _ _ (s5 _ _ J)),SqT.of Za,GV _,GV _,_,rfl,?_⟩;show if jn _ _=true then _ else _;rw[wD,Qap fun z=>S.prim (i+1) (by lia) hi (Zfk (by lia) hi hd z)];exact ZD (hN _ _ ⟨_,rfl,I.trans (s5.trans s6)⟩)
    ·rw[Qap (show¬V.int ((C.length:Int)%((i+1:Nat):Int))=V.int 0 from fun z=>hd (by injection z with z;rw[<-Qd1]at z;exact Int.ofNat.inj z))];exact ZD (hN _ _ ⟨_,rfl,I⟩)
   ·rintro σ H4 ⟨u4,rfl,I⟩;exact k H4 I
  refine⟨_,rfl,Zbc,fun e he=>⟨G,e,_,_,rfl,rfl,SqT.of (Zc he _ _ (O _ _ h2)),SqT.of Za,GV C,rfl,_,rfl,?_⟩⟩;have hrg:C≠[]:=fun z=>by have:=S.pos;rw[z]at this;exact absurd this (by decide)
  rw[show jn (C.map V.bl) []=false by cases C with|nil=>exact absurd rfl hrg|cons x r=>rfl];refine ZD ⟨_,rfl,Zbc,fun e2 he2=>⟨Y,e2,_,_,rfl,rfl,SqT.of (Zc he2 _ _ (Zc he _ _ (O _ _ h1))),SqT.of Za,GV tl,rfl,_,rfl,?_⟩⟩;have I:Z8 H _:=O.trans ((Zc (o:=.tup []) he).trans (Zc (o:=.tup []) he2))
  by_cases ht:tl=[]
  ·show if(!jn (tl.map V.bl) [])=true then _ else _
   rw[ht];exact ZD (fin _ I)
  ·show if(!jn (tl.map V.bl) [])=true then _ else _
   rw[show jn (tl.map V.bl) []=false by cases tl with|nil=>exact absurd rfl ht|cons x r=>rfl];have htl:0<tl.length:=Qgj.mpr ht;have hrl:0<C.length:=Qgj.mpr hrg;have lst:∀bs:Am,0<bs.length->atI (bs.map V.bl) (-1)=some (.bl (bs.getD (bs.length-1) false)):=fun bs hb=>by
    unfold atI ixN;rw[Qab,Qay (by decide),Qa3 (by lia)];show(bs.map V.bl)[_]?=_;rw[Qah,show(-1+(bs.length:Int)).toNat=bs.length-1 by lia,Qaf,Qac (by lia)];rfl
   refine Y2 ⟨_,rfl,_,rfl,Y,_,_,_,rfl,rfl,SqT.of (I _ _ h1),lst tl htl,_,rfl,_,rfl,G,_,_,_,rfl,rfl,SqT.of (I _ _ h2),lst C hrl,rfl,_,rfl,?_⟩;rw[Qap fun z=>S.last ht (by injection z)];exact ZD (fin _ I)
inductive zu(vs:A2)(H:Hp)(Q:VK):Prop
 |mk (p q1 q2:Aw) (tl rg:Am) (W:Nat):(vs=[.ref p,.int (W:Int)])->(1<=W)->(H p=some (.tup [.ref q1,.ref q2]))->(H q1=some (.tup (tl.map V.bl)))->(H q2=some (.tup (rg.map V.bl)))->(1<=rg.length)->(Q (.bl (atR tl rg (W-1))) H)->zu vs H Q
def Zfq(K:Af):Sp:=fun vs H Q _=>zu vs H Q
theorem Zfr:Y5 P w K mg base CX0 1 t.aaf t.aag ["told","width"] (Zfq K):=by
 refine T.ma.F.ok zo (fun vs H Q E h=>?_) (fun M A outer s H vs Q E O h=>?_)
 ·obtain⟨_,_,_,_,_,_,rfl,_⟩:=h;rfl
 ·obtain⟨p,C,G,tl,I,W,rfl,Z,J,h1,h2,D,k⟩:=h;have Y:=ZK O;refine⟨_,@QSs.out _ _ _ (Zb (g8 (qv 0) (jX rfl (Xq 2 zo.nd) (Xq 3 zo.nd)))
    (Zb (ZE (Zq Zkf (qv 1) (Zn Zr (by rfl) T.ae Ya (Zi (qv 2) Zd)) (Zx _))
    (Ze (Zo (Z3 ZO (qv 2) (Zp YO (qv 1) Zf)))) Zw)
    (Ze (Zo (Z3 ZO (qv 3) (Zp ZL (Zp YO (Zp YO (qv 1) Zf) (Zn Zr (by rfl) T.ae Ya (Zi (qv 2) Zd))) (Zn Zr (by rfl) T.ae Ya (Zi (qv 3) Zd)))))))),?_⟩
  refine L2.let3 ?_;intro U2 U1;refine⟨_,rfl,p,_,rfl,SqT.of J,rfl,_,_,rfl,Zg ⟨_,_,rfl,Zg ⟨rfl,?_⟩⟩⟩;refine⟨_,rfl,_,rfl,C,_,rfl,.inr (SqT.of h1),_,_,rfl,rfl,_,rfl,z6 (fun c=>?_) (fun c=>?_)⟩
  ·rw[Qab]at c;unfold atR at k;rw[Qa3 (by lia)]at k;refine⟨_,rfl,_,rfl,_,_,rfl,rfl,C,_,_,_,rfl,rfl,SqT.of h1,?_,k⟩;rw[show(W:Int)-1=((W-1:Nat):Int) by lia];refine YB ?_;rw[Qah,Qac (by lia),Qaf,Qac (by lia)];rfl
  ·rw[Qab]at c;unfold atR at k;rw[Qay (by lia)]at k;have L:(I.map V.bl).length=I.length:=Qab ..;refine⟨_,rfl,_,rfl,_,_,rfl,rfl,_,rfl,C,_,rfl,.inr (SqT.of h1),_,_,rfl,rfl,_,rfl,G,_,rfl,.inr (SqT.of h2),_,_,rfl,rfl,(by grind),G,_,_,_,rfl,rfl,SqT.of h2,?_,k⟩;rw[L,Qab,show(W:Int)-1-(tl.length:Int)=((W-1-tl.length:Nat):Int) by lia,<-Qd1];have q:=Qem (W-1-tl.length) D;refine YB ?_;rw[Qah,Qac q,Qaf,Qac q];rfl
inductive XJ(vs:A2)(H:Hp)(Q:VK):Prop
 |mk (ps po:Aw) (nx:Ad) (ot:Az) (kos:List (Ak)):(vs=[.ref ps,.ref po])->(JI H ps (nx.map xU))->(JI H po ot)->(ot.map (fun r=>r.map vB)=kos.map (fun k=>k.map some))->(ot.length=nx.length)->((∀row∈nx,row.length<=8/\∀s∈row,s<nx.length))->(1<=nx.length)->(nx.length<=1000000)->(∀p (cs:Aj) H',H p=none->H' p=some (.lst (cs.map WI))->cs.length=nx.length->Wj (qU nx cs)=cs->Wj cs=cs->Zaz kos cs->cs=Zfx nx kos nx.length->Z8 H H'->Q (.ref p) H')->XJ vs H Q
def qE(K:Af):Sp:=fun vs H Q _=>XJ vs H Q
theorem qF:Y5 P w K mg base CX0 2 t.cq t.cu ["steps","out"] (qE K):=by
 have D:=wO P base T TB;have I:=Gw P base T TB;refine T.dm.F.ok Yq (fun vs H Q E h=>?_) (fun cdv A outer s H vs Q E hr h=>?_)
 ·obtain⟨_,_,_,_,_,rfl,_⟩:=h;rfl
 ·obtain⟨ps,po,nx,ot,J,rfl,Rs,Ro,hk,hlo,hnx,h1,h2,k⟩:=h;have hu:=ZK hr;refine⟨_,@QSs.out _ _ _ (Zb (Zz 2 Yq.nd (Zl T.dc D hr (Zi (qv 1) Zd)))
    (Zb (Zz 3 Yq.nd Zf)
    (Zb (Jp Qbp (Zq kJ (Zp YA (Zn (vz rfl) (by rfl) T.su gD (Zi (qv 2) Zd)) Zf) (qv 3) (Zx _))
    (Zb (Zz 3 Yq.nd (Zp YA (Zn (vz rfl) (by rfl) T.su gD (Zi (qv 2) Zd)) Zf))
    (Ze (Zz 2 Yq.nd (Zl T.dc D hr (Zi (Zgw ({}:ZP (Zh Xw) _ ["steps","out","classes","many"] "mark" ["classes"] [2]) (⟨by rfl,by decide +kernel⟩:Two _ "mark" "row" ["classes"]) (qi_zip (b1:=false) (b2:=true) rfl T.aaz (Zi (qv 2) (Zi (qv 0) Zd))) (fun _ _ _ _=>Xh) (fun _ _ _ _=>(Yb (Zi (qv 0) (Zi (Zl T.ba I hr (Zi (qv 1) (Zi (qv 2) Zd))) Zd))))) Zd))))))
    (Ze (Zo (qv 2)))))),?_⟩
  try dsimp only[L2.cxK,L2.cxK2]
  refine L2.let4 ?_;intro U3 U2 U1;obtain⟨bo,hpo,hbo,hob⟩:=vP Ro;obtain⟨bs,hps,hbs,hsb⟩:=vP Rs;have hkl:J.length=nx.length:=by
   have:=congrArg List.length hk;rw[Qab,Qab]at this;lia
  refine⟨_,rfl,Ak,_,knT,po,bo,J,rfl,.inr hpo,by lia,fun i b kk hb M=>?_,by lia,fun p0 H1 hp0 hp1 s1=>?_⟩
  ·have hi:i<ot.length:=by have:=(Qag.mp hb).1;lia
   refine⟨_,hob i _ b (Qac hi) hb,?_⟩;have e:=congrArg (fun l=>l[i]?) hk;simp only[Qah,Qac hi,M]at e;exact Option.some.inj e
  rw[vQ]at hp1;refine Zg ?_;have cls0:Zaz J (Wj J):=fun i j a b ha hb e=>(yg ha hb).mp e;refine GS (fun σ H2=>∃(p:Aw) (cs:Aj) (C n:Nat),σ=[some (.ref ps),some (.ref po),some (.ref p),some (.int (C:Int))]/\H2 p=some (.lst (cs.map WI))/\H p=none/\cs.length=nx.length/\Wj cs=cs/\Zaz J cs/\cs=Zfx nx J n/\n<=C/\C<=nx.length/\(C=0\/((Z1 cs).length<=C->Wj (qU nx cs)=cs))/\Z8 H H2) (fun σ _=>match σ with|[_,_,_,some (.int m)]=>nx.length-m.toNat|_=>0) ⟨p0,Wj J,0,0,rfl,hp1,hp0,by rw[gQ];exact hkl,x6 J,cls0,rfl,Qaj _,Qbt _,.inl rfl,s1⟩ ?_;rintro σ H2 ⟨p,cs,C,n,rfl,hp2,hpH,G,hnn,hcls,hcn,hnm,hmy,hst,s2⟩;have hne:cs≠[]:=fun z=>by rw[z]at G;have:(0:Nat)=nx.length:=G;lia
  have mx:∀m∈(cs.map fun c:Nat=>(c:Int)),(∀n∈(cs.map fun c:Nat=>(c:Int)),n<=m)->m+1=((Z1 cs).length:Int):=by
   intro m hm hx;obtain⟨c,hc,rfl⟩:=Qau.mp hm;have h3:c∈Wj cs:=by rw[hnn];exact hc
   have:=Zg0 h3 fun n hn=>by
    rw[hnn]at hn;have:=hx _ (Qb6 hn);lia
   lia
  have L:H2 p=some (.lst ((cs.map fun c:Nat=>(c:Int)).map V.int)):=by rw[hp2,Qax];rfl
  have hsl:(Z1 cs).length<=nx.length:=by have:=gP cs;lia
  have hne':(cs.map fun c:Nat=>(c:Int))≠[]:=fun z=>hne (List.map_eq_nil_iff.mp z);refine⟨_,rfl,p,_,rfl,SqL.of L,hne',fun m hm hx=>⟨_,_,rfl,rfl,_,rfl,_,_,rfl,rfl,_,rfl,?_⟩⟩;have em:=mx m hm hx;refine z6 (fun hgt=>?_) (fun hgt=>?_)
  ·have hlt:C<(Z1 cs).length:=by
    have:=Qbg hgt;lia
   refine⟨fun σ' H'=>∃(p':Aw),σ'=[some (.ref ps),some (.ref po),some (.ref p'),some (.int ((Z1 cs).length:Int))]/\H' p'=some (.lst ((Wj (qU nx cs)).map WI))/\H p'=none/\Z8 H H',?_,?_⟩
   ·rintro σ' H' ⟨p',rfl,hp',hpn,s'⟩;refine⟨nx.length-(Z1 cs).length,?_,?_,p',Wj (qU nx cs),(Z1 cs).length,n+1,rfl,hp',hpn,?_,x6 _,Zmh G hkl hcls,by rw[hcn];rfl,by lia,hsl,.inr fun Z=>?_,s'⟩
    ·show nx.length-(Z1 cs).length<nx.length-(C:Int).toNat;rw[Qbn];lia
    ·show _=nx.length-((Z1 cs).length:Int).toNat;rw[Qbn]
    ·rw[gQ,yw G,G]
    ·rw[Zdn]at Z;have:=Zao G hnn Z;rw[this,this]
   ·refine⟨_,rfl,p,_,rfl,SqL.of L,hne',fun m2 hm2 hx2=>⟨_,_,rfl,rfl,?_⟩⟩;have em2:=mx m2 hm2 hx2;try dsimp only
    rw[em2];have hps2:=s2 _ _ hps;refine⟨_,rfl,_,rfl,p,ps,_,_,rfl,SqB.l L,SqB.t hps2,?_⟩;refine Zal (xs:=(cs.map fun c:Nat=>(c:Int)).map V.int) (ys:=bs.map V.ref) (fun i zs H'=>∃ds:List Aw,zs=ds.map V.ref/\ds.length=i/\i<=nx.length/\(∀(j:Nat) (d:Aw) (kk:Int×Ak),ds[j]?=some d->(qU nx cs)[j]?=some kk->Zdi H' kk d)/\Z8 H2 H') ⟨[],rfl,rfl,Qbt _,(fun j d kk hd=>by cases hd),Z8.refl _⟩ ?_ ?_ ?_ ?_
    ·rintro i zs H' ⟨ds,rfl,hd,hi,_⟩;rw[Qab,hd];exact Qav (Yu (by lia))
    ·rintro i zs H' ⟨ds,_,_,_,_,s'⟩;exact⟨SqB.l (s' _ _ L),SqB.t (s' _ _ hps2)⟩
    ·rintro i x y q zs H3 R hR Y hy' ⟨ds,rfl,hdl,hi,hpa,s3⟩ hq;rw[Qah,Qah]at Y;cases hc:cs[i]? with
     |none=>rw[hc]at Y;cases Y
     |some c=>
     rw[hc]at Y;cases Y;rw[Qah]at hy';obtain⟨b,hb,rfl⟩:=Qa4.mp hy';have hil:i<nx.length:=by have:=(Qag.mp hc).1;lia
     have hrow:nx[i]?=some nx[i]:=Qac hil;have hbr:H b=some (.tup (xU nx[i])):=hsb i _ b (by rw[Qah,hrow];rfl) hb;obtain⟨r8,rlt⟩:=hnx nx[i] (Qbs hil);have sq:=Zc (o:=.tup [.int (c:Int),.ref b]) hq;have s4:=(s2.trans s3).trans sq;unfold Zkx;try dsimp only
     rw[Qa3 rfl];refine⟨_,rfl,_,rfl,_,rfl,b,p,nx[i],cs.map fun c:Nat=>(c:Int),rfl,s4 _ _ hbr,(s3.trans sq) _ _ L,fun s hs=>by rw[Qab,G];exact rlt s hs,by lia,by rw[Qab];lia,fun t H5 ht0 ht s5=>⟨kE,fun d hd=>hR _ _ ⟨ds++[d],by rw[Qaz];rfl,by rw[Qak,hdl];rfl,hil,fun j d' kk hj M=>?_,((s3.trans sq).trans s5).trans (Zc hd)⟩⟩⟩;have sd:=Zc (o:=.tup [.int (c:Int),.ref t]) hd;rw[List.getElem?_append]at hj;split at hj
     ·have:=hpa j d' kk hj M;exact knP.keep _ _ _ _ (fun b xs e=>((sq.trans s5).trans sd) _ _ e) this
     ·rename_i hnl;have hji:j=i:=by
       have:=(Qag.mp hj).1;rw[List.length_singleton]at this;lia
      subst hji;rw[hdl,Qe0]at hj;cases hj;rw[Gm hc hrow]at M;cases M;refine⟨t,Za,_,sd _ _ ht,?_⟩;rw[Qax,Qax,Qax];refine Qbm fun s _=>?_;show some ((cs.map fun c:Nat=>(c:Int)).getD s 0)=some ((cs.getD s 0:Nat):Int);rw[Qaf,Qaf,Qah];cases cs[s]?<;>rfl
    ·rintro zs H3 ⟨ds,rfl,hdl,hi,hpa,s3⟩ l hl3;have hzl:(((cs.map fun c:Nat=>(c:Int)).map V.int).zip (bs.map V.ref)).length=nx.length:=by
      rw[Qes,Qab,Qab,Qab,G,hbs,Qab,Qgo]
     rw[hzl]at hdl;have sl:=Zc (o:=.lst (ds.map V.ref)) hl3;refine⟨Int×Ak,_,knP,l,ds,qU nx cs,rfl,.inl Za,by rw[yw G];lia,fun i b kk hb M=>knP.keep _ _ _ _ (fun b xs e=>sl _ _ e) (hpa i b kk hb M),by rw[yw G];lia,fun p' H6 hp6 hq6 s6=>?_⟩;rw[vQ]at hq6;have s26:=(s2.trans s3).trans (sl.trans s6);exact⟨p',rfl,hq6,(s2.trans s3).free (sl.free hp6),s26⟩
  ·have Z:(Z1 cs).length<=C:=by
    have:¬(C:Int)<m+1:=fun z=>hgt (Qan z);lia
   have O:=hst.resolve_left (fun z=>by
    have:(0:Int)<m+1:=by
     obtain⟨c,_,rfl⟩:=Qau.mp hm;lia
    lia) Z
   exact⟨_,rfl,k p cs H2 hpH hp2 G O hnn hcls (by rw[hcn]at O ⊢;exact(Zhs O (by lia)).symm) s2⟩
inductive G2(vs:A2)(H:Hp)(Q:VK):Prop
 |mk (k:Key):(vs=[kV k])->(Q (.int (XB k)) H)->G2 vs H Q
def wZ(K:Af):Sp:=fun vs H Q _=>G2 vs H Q
theorem gc:Y5 P w K mg base CX0 2 t.qs t.rb ["word"] (wZ K):=by
 have C:=zR P base T TB;have q:=qD P base T TB;refine T.sh.F.ok wI (fun vs H Q E h=>?_) (fun I A outer s H vs Q E D h=>?_)
 ·obtain⟨_,rfl,_⟩:=h;rfl
 ·obtain⟨G,rfl,k⟩:=h;have J:=ZK D;refine⟨_,@QSs.out _ _ _ (Ze (Zo (Zp YA (Zl T.ij C D (Zi (qv 0) Zd)) (Zl T.di q D (Zi (qv 0) Zd))))),?_⟩;exact⟨_,rfl,G,rfl,_,rfl,G,rfl,_,_,rfl,rfl,k⟩
inductive qu(vs:A2)(H:Hp)(Q:VK):Prop
 |mk (y:Str):(vs=[.str y])->(y.length<=100000)->(∀H',Z8 H H'->Q (.bl (decide (y∉ZJ/\NmL y))) H')->qu vs H Q
def Za6(K:Af):Sp:=fun vs H Q _=>qu vs H Q
omit T TB in
theorem Zh7{y:Str}:NmL y↔y.length<=8/\jA y Zbf:=by
 constructor
 ·intro h;refine⟨h.1.2,fun z=>?_,h.2⟩;have h1:=h.1.1;rw[len_signs,z]at h1;exact absurd h1 (by decide)
 ·intro h;refine⟨⟨?_,h.1⟩,h.2.2⟩;rw[len_signs];cases e:y.cps.toList with
  |nil=>exact absurd e h.2.1
  |cons a r=>exact Nat.succ_le_succ (Qbt _)
theorem Za7:Y5 P w K mg base CX0 2 t.tu t.vb ["text"] (Za6 K):=by
 have D:=yJ P base T TB;have q:=qB P base T TB;have C:=zP P base T TB;refine T.aab.F.ok Za3 (fun vs H Q E h=>?_) (fun M A outer s H vs Q E G h=>?_)
 ·obtain⟨_,rfl,_⟩:=h;rfl
 ·obtain⟨y,rfl,L,k⟩:=h;have O:=ZK G;refine⟨_,@QSs.out _ _ _ (Zb (ZE (WH (jQ (YQ (Zl T.ig C G (Zi (qv 0) Zd))) (JP (YQ (Zl T.dh q G (Zi (qv 0) Zd))))))
    (Ze (Zo YC)) Zw)
    (Ze (Zo (g7 (Yk Zkf (Zn yY (by rfl) T.ae Ya (Zi (qv 0) Zd)) (Wk (v:=.int 8) rfl T.aaj ⟨_,rfl⟩) (Zx _)) (xm (Zl T.lu D G (Zi (qv 0) (Zi (Wk (v:=.str "abcdefghijklmnopqrstuvwxyz") rfl T.aas ⟨_,rfl⟩) Zd)))))))),?_⟩
  refine L2.let2 ?_;intro Y
  by_cases h1:y∈ZJ
  ·have e:decide (y∉ZJ/\NmL y)=false:=Qap fun z=>z.1 h1
   rw[e]at k;refine⟨_,rfl,y,rfl,_,rfl,?_⟩
   by_cases h2:y∈Gi
   ·rw[Qan h2];exact Y2 (Y2 (k H (Z8.refl H)))
   ·rw[Qap h2];have I:y∈Z5:=((wo y).mp h1).resolve_left h2;refine ZD ⟨_,rfl,.inr y,rfl,_,rfl,?_⟩;rw[show clK (.inr y)=true from Qan I];exact Y2 (k H (Z8.refl H))
  ·have h2:y∉Gi:=fun z=>h1 ((wo y).mpr (.inl z))
   have I:y∉Z5:=fun z=>h1 ((wo y).mpr (.inr z));refine⟨_,rfl,y,rfl,_,rfl,?_⟩;rw[Qap h2];refine ZD ⟨_,rfl,.inr y,rfl,_,rfl,?_⟩;rw[show clK (.inr y)=false from Qap I];refine ZD ?_;refine⟨_,rfl,y,rfl,Qbc L (by decide),_,_,rfl,rfl,_,rfl,?_⟩
   by_cases J:y.length<=8
   ·rw[Qan (show(y.length:Int)<=8 by lia)];refine Y2 ⟨_,rfl,y,Zbf,rfl,L,fun H' s'=>?_⟩;have e:decide (jA y Zbf)=decide (y∉ZJ/\NmL y):=by
     rw[Qdo,Qer,Qer,Zh7];exact⟨fun z=>⟨h1,J,z⟩,fun z=>z.2.2⟩
    rw[e];exact k H' s'
   ·rw[Qap (show¬(y.length:Int)<=8 by lia)];have e:decide (y∉ZJ/\NmL y)=false:=Qap fun z=>J z.2.1.2;rw[e]at k;exact ZD (k H (Z8.refl H))
inductive Wh(vs:A2)(H:Hp)(Q:VK):Prop
 |mk (tn tl:Aw) (ys:Ai) (L:Nat):(vs=[.ref tn,.ref tl])->(H tn=some (.tup (ys.map V.str)))->(ys.Nodup)->(ys.length<=10)->(H tl=some (.lst ((List.range L).map fun i:Nat=>V.int (i:Int))))->(L<=100)->(∀dv kvs H',H dv=none->H' dv=some (.dK kvs)->Zd7 kvs ys (Y8 L ys)->Z8 H H'->Q (.ref dv) H')->Wh vs H Q
def zw(K:Af):Sp:=fun vs H Q _=>Wh vs H Q
theorem zx:Y5 P w K mg base CX0 2 t.dz t.ee ["names","letters"] (zw K):=by
 have C:=kq P base T TB;refine T.eu.F.ok YL (fun vs H Q E h=>?_) (fun cdv A outer s H vs Q E hr h=>?_)
 ·obtain⟨_,_,_,_,rfl,_⟩:=h;rfl
 ·obtain⟨tn,tl,ys,L,rfl,hn,hnd,hn3,hl,hL,k⟩:=h;have hu:=ZK hr;refine⟨_,@QSs.out _ _ _ (Zb (Zz 2 YL.nd xr)
    (Zb (Xb Qbp rfl (Zgl rfl T.oh (qv 0)) (jX rfl (Xq 3 YL.nd) (Xq 4 YL.nd))
    (Ze (GC hu (qv 2) (qv 4) (Zl T.nq C hr (Zi (Z4 Z0 (by rfl) T.ah ZQ (Zi (Y3 ({}:ZP (Zh XR) _ ["names","letters","columns","place","name"] "letter" ["place"] [3]) (Xr (qv 1)) (fun _ _ _ _=>Xh) (fun _ _ _ _=>(Zp Xg (Zp gw (qv 0) (qv 1)) Zf))) Zd)) Zd)) rfl)))
    (Ze (Zo (qv 2))))),?_⟩
  refine L2.let3 ?_;intro U2 U1;refine fun O G=>Zg ?_;have s1:=Zc (o:=.dK []) G;refine⟨_,rfl,tn,_,rfl,SqT.of (s1 _ _ hn),gF (K:=K) (a:=tn) (xs:=ys.map V.str) (fun i σ H2=>∃(kvs:A0) (u3 Z:Option V),σ=[some (.ref tn),some (.ref tl),some (.ref O),u3,Z]/\H2 O=some (.dK kvs)/\Zd7 kvs (ys.take i) (Y8 L ys)/\kvs.length<=i/\i<=ys.length/\Z8 H H2) ⟨[],none,none,rfl,Za,⟨fun y h=>(by cases h),fun y _=>rfl⟩,Qaj _,Qbt _,s1⟩ (fun i σ H2 _ ⟨_,_,_,_,_,_,_,_,s⟩=>SqT.of (s _ _ hn)) ?_ ?_⟩
  ·rintro i x σ H2 p hx hp ⟨kvs,u3,Z,rfl,h2,M,hkl,_,s2⟩;rw[Qah]at hx;obtain⟨y,Y,rfl⟩:=Qa4.mp hx;have hi:=(Qag.mp Y).1;have s3:=s2.trans (Zc (o:=.tup [.int (i:Int),.str y]) hp);have h3:=Zc (o:=.tup [.int (i:Int),.str y]) hp _ _ h2;have J:=s3 _ _ hl;refine⟨_,rfl,tl,rfl,⟨_,SqL.of J⟩,comp_map (xs:=(List.range L).map fun i:Nat=>V.int (i:Int)) (fI fun c=>V.int (bt c i)) (SqL.of J) (by rw[Qab,Qbb];exact Qav (Z2 (by lia))) (fun v hv R hR=>?_) (fun q hq=>?_)⟩
   ·obtain⟨c,_,rfl⟩:=Qau.mp hv;refine⟨_,rfl,_,rfl,_,_,rfl,rfl,Qde i,_,_,rfl,rfl,?_⟩;have e:fI (fun c=>V.int (bt c i)) (V.int (c:Int))=V.int (Builtin.bitAnd ((c:Int)/2^(i:Int).toNat) 1):=by
     rw[and_1,Qbn];rfl
    rw[e]at hR;exact hR
   have ex:((List.range L).map fun i:Nat=>V.int (i:Int)).map (fI fun c=>V.int (bt c i))=((List.range L).map fun l:Nat=>bt (l:Int) i).map V.int:=by
    rw[Qax,Qax];rfl
   rw[ex];have s4:=Zc (o:=.lst (((List.range L).map fun l:Nat=>bt (l:Int) i).map V.int)) hq;refine⟨q,_,rfl,.inl ⟨SqL.of Za,fun t ht=>?_⟩⟩;have s5:=s4.trans (Zc (o:=.tup (((List.range L).map fun l:Nat=>bt (l:Int) i).map V.int)) ht);have h5:=s5 _ _ h3;refine⟨t,(List.range L).map fun l:Nat=>bt (l:Int) i,rfl,SqT.of Za,?_⟩;have hv:hor ((List.range L).map fun l:Nat=>bt (l:Int) i).reverse=Y8 L ys y:=by
    unfold Y8;rw[W0 hnd Y]
   rw[hv];have lp:=Wq kvs (.inr y) (.int (Y8 L ys y));refine⟨_,rfl,_,rfl,O,_,rfl,Zbe.k (k:=.inr y) h5 (Z2 (by lia)),putK kvs (.inr y) (.int (Y8 L ys y)),_,_,rfl,Za,⟨fun z I=>?_,fun z I=>?_⟩,by lia,hi,ZR (s3.trans s5) G⟩
   ·rw[take_snoc Y]at I;rw[qL]
    by_cases D:z=y
    ·rw[Qa3 (by rw[D]),D]
    ·rw[Qay (fun e=>D (Sum.inr.inj e))];rcases Qbo.mp I with h|h
     ·exact M.1 z h
     ·exact absurd (Qaw.mp h) D
   ·rw[take_snoc Y]at I;rw[qL,Qay (fun e=>I (Qbo.mpr (.inr (Qaw.mpr (Sum.inr.inj e)))))];exact M.2 z fun h=>I (Qbo.mpr (.inl h))
  ·rintro σ H2 ⟨kvs,u3,Z,rfl,h2,M,hkl,_,s2⟩;rw[Qab,Qb7]at M;exact⟨_,rfl,k O kvs H2 G h2 M s2⟩
inductive J8(vs:A2)(H:Hp)(Q:VK):Prop
 |mk (y:Str) (p:Aw) (is:Ak) (h:Int):(vs=[.str y,.ref p,.int h])->(H p=some (.lst (is.map V.int)))->(1<=is.length)->(y∈allR)->((y∈Zmf->2<=is.length))->(∀H',Z8 H H'->Q (.int (ktI y is h)) H')->J8 vs H Q
def k7(K:Af):Sp:=fun vs H Q _=>J8 vs H Q
theorem k9:Y5 P w K mg base CX0 2 t.mz t.nc ["word","parts","held"] (k7 K):=by
 have C:=zr P base T TB;refine T.ny.F.ok qp (fun vs H Q E h=>?_) (fun Y A outer s H vs Q E O h=>?_)
 ·obtain⟨_,_,_,_,rfl,_⟩:=h;rfl
 ·obtain⟨y,p,is,h,rfl,L,l1,hy,l2,k⟩:=h;have hu:=ZK O;refine⟨_,@QSs.out _ _ _ (Zb (Zz 3 qp.nd (Z3 Zy (qv 1) Zf))
    (Zb (ZE (Zq Yt (qv 0) Zj (Zx _))
    (Ze (Zo (qv 3))) Zw)
    (Zb (ZE (Zq ZZ (qv 0) (Yb (Zi Zj (Zi Zj (Zi Zj Zd)))) (by with_unfolding_all rfl))
    (Ze (Zo (Zp z7 (qv 3) (qv 2)))) Zw)
    (Zb (ZE (Zq Yt (qv 0) Zj (Zx _))
    (Ze (Zo (Zp z7 (Zp qZ (qv 3) (Z3 Zy (qv 1) Zf)) (qv 2)))) Zw)
    (Zb (ZE (Zq Yt (qv 0) Zj (Zx _))
    (Ze (Zo (Zp z7 (Zp Xg (qv 3) (Z3 Zy (qv 1) Zf)) (Zp Xg (qv 2) (Zp z7 (qv 3) (Z3 Zy (qv 1) Zf)))))) Zw)
    (Ze (Zo (Zl T.dj C O (Zi (qv 3) (Zi (Z3 Zy (qv 1) Zf) (Zi (qv 2) Zd))))))))))),?_⟩
  refine L2.let6 ?_;intro U5 U4 U3 U2 U1;have J:¬y = "twice" ->¬(y = "neg" \/ y = "low" \/ y = "nought")->y∈Zmf:=Zd5 y hy;unfold ktI at k;refine⟨_,rfl,p,_,0,_,rfl,rfl,SqL.of L,ZA 0 rfl l1,Zg ⟨_,rfl,rfl,_,rfl,?_⟩⟩
  by_cases h1:y = "twice"
  ·rw[Qan (congrArg V.str h1)];rw[Qa3 h1]at k;refine Y2 ?_;exact⟨_,rfl,k H (Z8.refl _)⟩
  rw[Qap (fun z=>h1 (by injection z))];rw[Qay h1]at k;refine ZD ⟨_,rfl,by decide,fun q Z=>⟨q,_,rfl,.inr (SqT.of Za),rfl,rfl,_,rfl,?_⟩⟩;show if inV (.str y) ((["neg","low","nought"]:Ai).map V.str)=true then _ else _;rw[ZC];have D:=Zc (o:=.tup [.str "neg",.str "low",.str "nought"]) Z;have pq:=D _ _ L;generalize upd H q (.tup [.str "neg",.str "low",.str "nought"])=H1 at *
  by_cases h2:y = "neg" \/ y = "low" \/ y = "nought"
  ·rw[Qan (by grind)];rw[Qa3 h2]at k;refine Y2 ?_;exact⟨_,rfl,_,rfl,_,_,rfl,rfl,k H1 D⟩
  rw[Qap (by grind)];rw[Qay h2]at k;refine ZD ⟨_,rfl,rfl,_,rfl,?_⟩
  by_cases I:y = "same"
  ·rw[Qan (congrArg V.str I)];rw[Qa3 I]at k;refine Y2 ?_;exact⟨_,rfl,_,rfl,p,_,1,_,rfl,rfl,SqL.of pq,ZA 1 rfl (l2 (by rw[I];decide +kernel)),_,_,rfl,rfl,_,rfl,_,_,rfl,rfl,k H1 D⟩
  rw[Qap (fun z=>I (by injection z))];rw[Qay I]at k;refine ZD ⟨_,rfl,rfl,_,rfl,?_⟩
  by_cases G:y = "add"
  ·rw[Qan (congrArg V.str G)];rw[Qa3 G]at k;refine Y2 ?_;have M:=l2 (by rw[G];decide +kernel);exact⟨_,rfl,_,rfl,p,_,1,_,rfl,rfl,SqL.of pq,ZA 1 rfl M,_,_,rfl,rfl,_,rfl,_,rfl,_,rfl,p,_,1,_,rfl,rfl,SqL.of pq,ZA 1 rfl M,_,_,rfl,rfl,_,_,rfl,rfl,_,_,rfl,rfl,k H1 D⟩
  rw[Qap (fun z=>G (by injection z))];rw[Qay G]at k;exact ZD ⟨_,rfl,_,rfl,p,_,1,_,rfl,rfl,SqL.of pq,ZA 1 rfl (l2 (J h1 h2)),_,rfl,_,_,_,rfl,k H1 D⟩
inductive WC(vs:A2)(H:Hp)(Q:VK):Prop
 |mk (y:Str) (p:Aw) (is:Ak) (h n:Int):(vs=[.str y,.ref p,.int h,.int n])->(H p=some (.lst (is.map V.int)))->(1<=is.length)->(y∈allR)->((y∈Zmf->2<=is.length))->(∀H',Z8 H H'->Q (.int (okI y is h n)) H')->WC vs H Q
def zY(K:Af):Sp:=fun vs H Q _=>WC vs H Q
theorem zZ:Y5 P w K mg base CX0 2 t.gi t.gj ["word","parts","held","then"] (zY K):=by
 have C:=zr P base T TB;refine T.iq.F.ok zL (fun vs H Q E h=>?_) (fun cdv A outer s H vs Q E I h=>?_)
 ·obtain⟨_,_,_,_,_,rfl,_⟩:=h;rfl
 ·obtain⟨y,p,is,h,n,rfl,Z,l1,hy,l2,k⟩:=h;have hu:=ZK I;refine⟨_,@QSs.out _ _ _ (Zb (ZE (Zq ZZ (qv 0) (Yb (Zi Zj (Zi Zj Zd))) (by with_unfolding_all rfl))
    (Ze (Zo (Zp qZ (Zp qZ (Z3 Zy (qv 1) Zf) (Z3 Zy (qv 1) Zf)) (qv 2)))) Zw)
    (Zb (ZE (Zq Yt (qv 0) Zj (Zx _))
    (Ze (Zo (Zp qZ (Z3 Zy (qv 1) Zf) (qv 2)))) Zw)
    (Zb (ZE (Zq Yt (qv 0) Zj (Zx _))
    (Ze (Zo (qv 2))) Zw)
    (Zb (ZE (Zq Yt (qv 0) Zj (Zx _))
    (Ze (Zo (Zp Xg (Z3 Zy (qv 1) Zf) (JO xb (qv 2))))) Zw)
    (Zb (ZE (Zq ZZ (qv 0) (Yb (Zi Zj (Zi Zj Zd))) (by with_unfolding_all rfl))
    (Ze (Zo (JO xb (qv 3)))) Zw)
    (Zb (ZE (Zq Yt (qv 0) Zj (Zx _))
    (Ze (Zo (qv 3))) Zw)
    (Ze (Zo (Zl T.dj C I (Zi (Z3 Zy (qv 1) Zf) (Zi (Z3 Zy (qv 1) Zf) (Zi (qv 2) Zd)))))))))))),?_⟩
  refine L2.let7 ?_;intro U6 U5 U4 U3 U2 U1;unfold okI at k;refine⟨_,rfl,by decide,fun q hq=>⟨q,_,rfl,.inr (SqT.of Za),rfl,rfl,_,rfl,?_⟩⟩;show if inV (.str y) ((["add","sub"]:Ai).map V.str)=true then _ else _;rw[ZC];have D:=Zc (o:=.tup [.str "add",.str "sub"]) hq;have pq:=D _ _ Z;generalize upd H q (.tup [.str "add",.str "sub"])=H1 at *
  by_cases h1:y = "add" \/ y = "sub"
  ·rw[Qan (by grind)];rw[Qa3 h1]at k;refine Y2 ?_;have l3:2<=is.length:=l2 (by rcases h1 with h|h<;>rw[h]<;>decide +kernel);exact⟨_,rfl,p,_,0,_,rfl,rfl,SqL.of pq,ZA 0 rfl l1,_,rfl,p,_,1,_,rfl,rfl,SqL.of pq,ZA 1 rfl l3,_,_,rfl,rfl,_,rfl,_,_,rfl,rfl,k H1 D⟩
  rw[Qap (by grind)];rw[Qay h1]at k;refine ZD ⟨_,rfl,rfl,_,rfl,?_⟩
  by_cases h2:y = "neg"
  ·rw[Qan (congrArg V.str h2)];rw[Qa3 h2]at k;refine Y2 ?_;exact⟨_,rfl,p,_,0,_,rfl,rfl,SqL.of pq,ZA 0 rfl l1,_,rfl,_,_,rfl,rfl,k H1 D⟩
  rw[Qap (fun z=>h2 (by injection z))];rw[Qay h2]at k;refine ZD ⟨_,rfl,rfl,_,rfl,?_⟩
  by_cases G:y = "twice"
  ·rw[Qan (congrArg V.str G)];rw[Qa3 G]at k;refine Y2 ?_;exact⟨_,rfl,k H1 D⟩
  rw[Qap (fun z=>G (by injection z))];rw[Qay G]at k;refine ZD ⟨_,rfl,rfl,_,rfl,?_⟩
  by_cases L:y = "low"
  ·rw[Qan (congrArg V.str L)];rw[Qa3 L]at k;refine Y2 ?_;exact⟨_,rfl,p,_,0,_,rfl,rfl,SqL.of pq,ZA 0 rfl l1,_,rfl,_,rfl,_,_,rfl,rfl,k H1 D⟩
  rw[Qap (fun z=>L (by injection z))];rw[Qay L]at k;refine ZD ⟨_,rfl,by decide,fun r I=>⟨r,_,rfl,.inr (SqT.of Za),rfl,rfl,_,rfl,?_⟩⟩;show if inV (.str y) ((["same","nought"]:Ai).map V.str)=true then _ else _;rw[ZC];have M:=Zc (o:=.tup [.str "same",.str "nought"]) I;have Y:=M _ _ pq;generalize upd H1 r (.tup [.str "same",.str "nought"])=H2 at *
  by_cases O:y = "same" \/ y = "nought"
  ·rw[Qan (by simp only[Qao,Qba,Qdz];exact O)];rw[Qa3 O]at k;refine Y2 ?_;exact⟨_,rfl,_,rfl,k H2 (D.trans M)⟩
  rw[Qap (by simp only[Qao,Qba,Qdz];exact O)];rw[Qay O]at k;refine ZD ⟨_,rfl,rfl,_,rfl,?_⟩
  by_cases J:y = "under"
  ·rw[Qan (congrArg V.str J)];rw[Qa3 J]at k;refine Y2 ?_;exact⟨_,rfl,k H2 (D.trans M)⟩
  rw[Qap (fun z=>J (by injection z))];rw[Qay J]at k;exact ZD ⟨_,rfl,p,_,1,_,rfl,rfl,SqL.of Y,ZA 1 rfl (l2 (Zd5 y hy G (fun z=>by grind))),_,rfl,p,_,0,_,rfl,rfl,SqL.of Y,ZA 0 rfl l1,_,rfl,_,_,_,rfl,k H2 (D.trans M)⟩
inductive G3(vs:A2)(H:Hp)(Q:VK):Prop
 |mk (pt pr:Aw) (tl rg:Am) (T:Nat->Bool):(vs=[.ref pt,.ref pr])->(H pt=some (.lst (tl.map V.bl)))->(H pr=some (.lst (rg.map V.bl)))->(1<=rg.length)->(rg.length<=100000)->(tl.length<=100000)->((∀i,atR tl rg i=T i))->(∀p q1 q2 tl' rg' H',ZS T tl' rg'->H' p=some (.tup [.ref q1,.ref q2])->H' q1=some (.tup (tl'.map V.bl))->H' q2=some (.tup (rg'.map V.bl))->tl'.length<=100000->rg'.length<=100000->Z8 H H'->Q (.ref p) H')->G3 vs H Q
def gg(K:Af):Sp:=fun vs H Q _=>G3 vs H Q
theorem gh:Y5 P w K mg base CX0 2 t.rd t.rf ["tail","ring"] (gg K):=by
 have q:=zV P base T TB;refine T.si.F.ok Xz (fun vs H Q E h=>?_) (fun cdv A outer s H vs Q E hr h=>?_)
 ·obtain⟨_,_,_,_,_,rfl,_⟩:=h;rfl
 ·obtain⟨pt,O,tl,D,TT,rfl,hpt,hpr,h1,hbr,hbt,hT,k⟩:=h;have hu:=ZK hr;refine⟨_,@QSs.out _ _ _ (Zb (Zz 2 Xz.nd (Zl T.il q hr (Zi (qv 1) Zd)))
    (Zb (Zz 3 Xz.nd (Zn Zr (by rfl) T.ae Ya (Zi (qv 0) Zd)))
    (Zb (Jp Qbp (WH (JQ (Zq kJ (qv 3) Zf (Zx _)) (Wl (Zq Yt (Z3 Zy (qv 0) (Zp YO (qv 3) Zf)) (Z3 Zy (qv 1) (Zp ZL (Zp YO (Zp YO (qv 3) Zf) (Zn Zr (by rfl) T.ae Ya (Zi (qv 0) Zd))) (qv 2))) (Zx _)))))
    (Ze (Zjf (i:=3) Xz.nd rfl (Or.inl rfl) Zf ip_sub)))
    (Zb (Zz 4 Xz.nd (Zp ZL (Zp YO (qv 3) (Zn Zr (by rfl) T.ae Ya (Zi (qv 0) Zd))) (qv 2)))
    (Ze (Zo (Yb (Zi (Z4 Z0 (by rfl) T.ah ZQ (Zi (X6 JD (qv 0) JF (Wn (qv 3))) Zd)) (Zi (Z4 Z0 (by rfl) T.ah ZQ (Zi (Zp gz (X6 JD (qv 1) (Wn (qv 4)) (Wn (qv 2))) (X6 JD (qv 1) JF (Wn (qv 4)))) Zd)) Zd))))))))),?_⟩
  try dsimp only[L2.cxK,L2.cxK2]
  refine L2.let5 ?_;intro U4 U3 U2 U1;refine⟨_,rfl,O,D,rfl,hpr,h1,hbr,fun L H1 R s1=>Zg ?_⟩;have hL1:=R.one;have ln:(tl.map V.bl).length=tl.length:=Qab ..;refine⟨_,rfl,pt,_,rfl,.inl (SqL.of (s1 _ _ hpt)),Zg ?_⟩;rw[ln];have C:=s1 _ _ hpt;have I:=s1 _ _ hpr;refine GS (fun σ H'=>∃kp:Nat,σ=[some (.ref pt),some (.ref O),some (.int (L:Int)),some (.int (kp:Int)),none]/\kp<=tl.length/\(∀i,kp<=i->i<tl.length->tl.getD i false=D.getD (ixZ ((i:Int)-tl.length) L) false)/\H'=H1) (fun σ _=>match σ with|[_,_,_,some (.int m),_]=>m.toNat|_=>0) ⟨tl.length,rfl,Qaj _,fun i h1 h2=>by lia,rfl⟩ ?_;rintro σ H2 ⟨kp,rfl,hkp,hs,rfl⟩;have ixE:∀z:Int,atI (D.map V.bl) (z%(L:Int))=some (.bl (D.getD (ixZ z L) false)):=fun z=>by
   have h0:=Qbz z (show(L:Int)≠0 by lia);have h2:=Zff (z:=z) hL1;have M:=R.le;rw[show z%(L:Int)=((ixZ z L:Nat):Int)from(Qfd h0).symm];refine YB ?_;rw[Qah,Qac (by lia),Qaf,Qac (by lia)];rfl
  have J:(1<=kp->tl.getD (kp-1) false≠D.getD (ixZ ((kp:Int)-1-tl.length) L) false)->U3 {nx:=fun _ H'=>Q .non H',rt:=Q} [some (.ref pt),some (.ref O),some (.int (L:Int)),some (.int (kp:Int)),none] H2:=fun he=>by
   have S:=Zh2 R hT hkp hs he;have M:=R.le;have hb:=Zff (z:=(kp:Int)-tl.length) hL1;have eb:((kp:Int)-((tl.map V.bl).length:Int))%(L:Int)=((ixZ ((kp:Int)-tl.length) L:Nat):Int):=by
    rw[ln];exact(Qfd (Qbz _ (by lia))).symm
   refine⟨_,rfl,_,rfl,pt,_,rfl,.inl (SqL.of C),_,_,rfl,rfl,_,rfl,_,_,rfl,rfl,(by show(0:Int)<L;lia),Zg ?_⟩;try dsimp only
   rw[eb];have Y:=wF hb M;unfold rgB at S Y;generalize ixZ ((kp:Int)-tl.length) L=Z at *;refine⟨_,rfl,_,rfl,_,rfl,pt,_,rfl,SqL.of C,fun l1 hl1=>⟨l1,_,rfl,.inl ⟨SqL.of Za,fun q1 hq1=>?_⟩⟩⟩;rw[XA,Wd];rw[XA,Wd]at hq1;have u1:=(Zc (o:=.lst ((tl.take kp).map V.bl)) hl1).trans (Zc (o:=.tup ((tl.take kp).map V.bl)) hq1);have g1:=Za (H:=upd H2 l1 (.lst ((tl.take kp).map V.bl))) (a:=q1) (o:=.tup ((tl.take kp).map V.bl));generalize upd (upd H2 l1 (.lst ((tl.take kp).map V.bl))) q1 (.tup ((tl.take kp).map V.bl))=H3 at *;have G:=u1 _ _ I;refine⟨_,rfl,_,rfl,_,rfl,_,rfl,_,rfl,O,_,rfl,SqL.of G,fun l2 hl2=>?_⟩;rw[Zh3 (by lia) M];have u2:=Zc (o:=.lst (((D.take L).drop Z).map V.bl)) hl2;refine⟨_,rfl,_,rfl,_,rfl,O,_,rfl,SqL.of (u2 _ _ G),fun l3 hl3=>?_⟩;rw[XA,Wd];have u3:=Zc (o:=.lst ((D.take Z).map V.bl)) hl3;refine⟨l2,l3,_,_,rfl,rfl,u3 _ _ Za,Za,?_,fun l4 hl4=>⟨l4,_,rfl,.inl ⟨SqL.of Za,fun q2 hq2=>⟨kE,fun p hp=>?_⟩⟩⟩⟩
   ·rw[Qab,Qab,<-Qak,Y];exact Qav (Yu (by lia))
   rw[<-Qaz]at hq2 hp ⊢;have u4:=Zc (o:=.lst (((D.take L).drop Z++D.take Z).map V.bl)) hl4;have u5:=Zc (o:=.tup (((D.take L).drop Z++D.take Z).map V.bl)) hq2;have u6:=Zc (o:=.tup [V.ref q1,V.ref q2]) hp;have u26:=(u2.trans u3).trans (u4.trans (u5.trans u6));exact k p q1 q2 _ _ _ S Za (u26 _ _ g1) (u6 _ _ Za) (by rw[Qa2];lia) (by rw[Y];lia) (s1.trans (u1.trans u26))
  refine⟨_,rfl,_,_,rfl,rfl,_,rfl,z6 (fun c=>?_) (fun c=>?_)⟩
  ·have c:=Qbg c;obtain⟨kp,rfl⟩:∃k',kp=k'+1:=⟨kp-1,by lia⟩;have e1:((kp+1:Nat):Int)-1=(kp:Int):=by lia
   have at1:atI (tl.map V.bl) (((kp+1:Nat):Int)-1)=some (.bl (tl.getD kp false)):=by
    rw[e1];refine YB ?_;rw[Qah,Qac (by lia),Qaf,Qac (by lia)];rfl
   refine⟨_,rfl,_,rfl,_,_,rfl,rfl,pt,_,_,_,rfl,rfl,SqL.of C,at1,_,rfl,_,rfl,_,_,rfl,rfl,_,rfl,pt,_,rfl,.inl (SqL.of C),_,_,rfl,rfl,_,rfl,_,_,rfl,rfl,(by show(0:Int)<L;lia),O,_,_,_,rfl,rfl,SqL.of I,ixE _,rfl,_,rfl,?_⟩;rw[ln]
   by_cases e:tl.getD kp false=D.getD (ixZ (((kp+1:Nat):Int)-1-(tl.length:Int)) L) false
   ·rw[e,Qan rfl];refine Y2 ⟨fun σ' H'=>σ'=[some (.ref pt),some (.ref O),some (.int (L:Int)),some (.int (((kp+1:Nat):Int)-1)),none]/\H'=H2,?_,_,rfl,_,_,rfl,rfl,rfl,rfl⟩;rintro σ' H' ⟨rfl,rfl⟩;refine⟨kp,by show kp<((kp+1:Nat):Int).toNat;lia,by show kp=(((kp+1:Nat):Int)-1).toNat;lia,kp,by rw[e1],by lia,fun i i1 i2=>?_,rfl⟩
    by_cases z:i=kp
    ·rw[z,e,e1]
    ·exact hs i (by lia) i2
   ·rw[Qap (fun z=>e (by injection z))];exact ZD (J fun _=>e)
  ·have c0:kp=0:=by
    rcases Qgu kp with z|z
    ·exact z
    ·exact absurd (Qan (show(0:Int)<(kp:Int) by lia)) c
   exact ZD (J fun z=>by lia)
inductive J9(K:Af)(vs:A2)(H:Hp)(Q:VK):Prop
 |mk (a:Aw) (ns:Ak) (st many:Nat):(vs=[.ref a,.int (st:Int),.int (many:Int)])->(SqL K H a (ns.map V.int))->(ns.length<=63)->(st<=10)->(many<=3)->(∀p (ms:Ai) H',H' p=some (.lst (ms.map V.str))->ms.Nodup->ms.length<=many->(∀y∈ms,NmS y)->Z8 H H'->Q (.ref p) H')->J9 K vs H Q
def kA(K:Af):Sp:=fun vs H Q _=>J9 K vs H Q
theorem kB:Y5 P w K mg base CX0 2 t.ng t.nh ["script","start","many"] (kA K):=by
 have C:=wW P base T TB;have q:=Ww P base T TB;refine T.nz.F.ok Jf (fun vs H Q E h=>?_) (fun cdv A outer s H vs Q E hr h=>?_)
 ·obtain⟨_,_,_,_,rfl,_⟩:=h;rfl
 ·obtain⟨a,ns,st,D,rfl,hS,Y,hst,hm,k⟩:=h;have hu:=ZK hr;refine⟨_,@QSs.out _ _ _ (Zb (Zz 3 Jf.nd xr)
    (Zb (Xb Qbp rfl (XW rfl T.au (Zi (qv 2) Zd)) (Xq 4 Jf.nd)
    (Ze (GC hu (qv 3) (Zl T.sf C hr (Zi (Zl T.ay q hr (Zi (qv 0) (Zi (Zp YA (qv 1) (qv 4)) Zd))) Zd)) YC rfl)))
    (Ze (Zo (Zn (vC rfl) (by rfl) T.cf JN (Zi (qv 3) Zd)))))),?_⟩
  refine L2.let3 ?_;intro U2 U1;refine fun d hd=>Zg ?_;have s1:=Zc (o:=.dK []) hd;have hd1:upd H d (.dK []) d=some (.dK []):=Za;refine⟨_,rfl,(D:Int),rfl,by lia,by lia,XU (fun i σ H'=>∃(O:Option V) (kvs:A0) (S:Ai),σ=[some (.ref a),some (.int (st:Int)),some (.int (D:Int)),some (.ref d),O]/\H' d=some (.dK kvs)/\kvs.map (·.1)=S.map Sum.inr/\S.Nodup/\S.length<=i/\(∀y∈S,NmS y)/\Z8 H H') ⟨none,[],[],rfl,hd1,rfl,Qcq,Qaj _,(fun _ z=>nomatch z),s1⟩ ?_ ?_⟩
  ·rintro i σ H2 hi ⟨O,kvs,S,rfl,I,L,G,hl,Z,J⟩;refine⟨_,rfl,_,rfl,_,rfl,_,rfl,_,_,rfl,rfl,a,ns,st+i,?_,y4 hS J,Y,by lia,fun r H3 r0 r1 s3=>⟨r,rfl,r0,r1,fun y H4 hy s4=>⟨d,_,rfl,Zbe.k (k:=.inr y) (s4 _ _ (s3 _ _ I)) ?_,?_⟩⟩⟩
   ·grind
   ·have:=congrArg List.length L;rw[Qab,Qab]at this;exact Z2 (by lia)
   ·obtain⟨S',g1,g2,g3,g4⟩:=Zna (v:=.bl true) L G y;refine⟨_,_,S',rfl,Za,g1,g2,by lia,fun z hz=>?_,ZR (J.trans (s3.trans s4)) hd⟩;rcases g4 z hz with h|h
    ·exact Z z h
    ·rw[h];exact hy
  ·rintro σ H2 ⟨O,kvs,S,rfl,I,L,G,hl,Z,J⟩;exact⟨_,rfl,d,kvs,S,rfl,.inl I,L,by lia,fun l ms hl2 M hs=>k l ms _ Za (M.nodup_iff.mpr G) (by rw[M.length_eq];exact hl) (fun y hy=>Z y (M.mem_iff.mp hy)) (J.trans (Zc hl2))⟩
inductive X1(vs:A2)(H:Hp)(Q:VK):Prop
 |mk (r rm:Int) (f:Aw) (l0 l1:Int):(vs=[.int r,.int rm,.ref f])->(0<=r)->(0<=rm)->(H f=some (.lst [.int l0,.int l1]))->(0<=l1)->(∀(y:Str) (l1':Int) H',y∈Z5->((lpS y).length:Int)<=rm->l1'+Zhx y jW=l1->0<=l1'->H' f=some (.lst [.int l0,.int l1'])->SmL f H H'->Q (.str y) H')->X1 vs H Q
def qa(K:Af):Sp:=fun vs H Q _=>X1 vs H Q
theorem qb:Y5 P w K mg base CX0 2 t.bq t.br ["number","room","left"] (qa K):=by
 have q:=XI P base T TB;refine T.bz.F.ok Z7 (fun vs H Q E h=>?_) (fun cdv A outer s H vs Q E hr h=>?_)
 ·obtain⟨_,_,_,_,_,rfl,_⟩:=h;rfl
 ·obtain⟨r,Y,f,l0,l1,rfl,hr0,hrm,hf,hl1,k⟩:=h;have hu:=ZK hr;refine⟨_,@QSs.out _ _ _ (Zb (Zz 3 Z7.nd (ZM (Zi Zj (Zi Zj (Zi Zj (Zi Zj (Zi Zj (Zi Zj (Zi Zj (Zi Zj (Zi Zj (Zi Zj Zd))))))))))))
    (Zb (Zz 3 Z7.nd (Zp gz (qv 3) (ZM (Zi Zj (Zi Zj (Zi Zj (Zi Zj (Zi Zj (Zi Zj Zd)))))))))
    (Zb (Zz 4 Z7.nd (Z3 Zy (qv 3) (Zp ZL (qv 0) Zf)))
    (Zb (Zz 5 Z7.nd (Yk ZZ (qv 4) (Yb (Zi Zj (Zi Zj (Zi Zj (Zi Zj (Zi Zj Zd)))))) (by with_unfolding_all rfl)))
    (Zb (ZE (WH (jQ (Zq kJ (Zn Zr (by rfl) T.ae Ya (Zi (Zl T.av q hr (Zi (qv 4) Zd)) Zd)) (qv 1) (Zx _)) (JP (WH (JQ (YQ (qv 5)) (Wl (Zq Yt (Z3 Zy (qv 2) Zf) Zf (Zx _))))))))
    (Zb (Zz 4 Z7.nd Zj)
    (Zb (Zz 5 Z7.nd YC)
    (Ze (ZE (WH (JQ (Zq kJ (qv 1) Zf (Zx _)) (Wl (Zq kJ (Z3 Zy (qv 2) Zf) Zf (Zx _)))))
    (Zb (Zz 4 Z7.nd (Z3 Zy (ZM (Zi Zj (Zi Zj Zd))) (Zp ZL (Zp Yh (qv 0) Zf) Zf)))
    (Ze (Zz 5 Z7.nd YC))) Zw)))) Zw)
    (Zb (g8 (Zp YO (Z3 Zy (qv 2) Zf) (Z4 xc (by rfl) T.du jf (Zi (qv 5) Zd))) (Ziy (qv 2) Zf set_list))
    (Ze (Zo (qv 4))))))))),?_⟩
  try dsimp only[L2.cxK,L2.cxK2]
  refine L2.let7 ?_;intro U6 U5 U4 U3 U2 U1;refine⟨zln10,fun m1 hm1=>?_⟩;refine⟨_,rfl,zln6,fun m2 O=>⟨m1,m2,_,_,rfl,rfl,Zc O _ _ Za,Za,zln16,fun m hm=>?_⟩⟩;have s1:=((Zc (o:=.lst [.str "same",.str "same",.str "under",.str "under",.str "beneath",.str "sign",.str "nought",.str "nought",.str "both",.str "both"]) hm1).trans (Zc (o:=.lst [.str "either",.str "either",.str "so",.str "never",.str "never",.str "yes"]) O)).trans (Zc (o:=.lst (Za0.map V.str)) hm);obtain⟨y,hy,ey⟩:=zi (l:=Za0) (i:=r%16) (Qbz _ (by decide)) (Qb0 _ (by decide));have I:=Zhy y hy;refine⟨_,rfl,_,rfl,_,_,rfl,rfl,(by show(0:Int)<16;decide),m,_,_,_,rfl,rfl,SqL.of (Za (o:=.lst (Za0.map V.str))),ey,Zg ?_⟩;show ZY _ _ _ _ (upd _ m (.lst (Za0.map V.str)));generalize upd (upd (upd H m1 (.lst [.str "same",.str "same",.str "under",.str "under",.str "beneath",.str "sign",.str "nought",.str "nought",.str "both",.str "both"])) m2 (.lst [.str "either",.str "either",.str "so",.str "never",.str "never",.str "yes"])) m (.lst (Za0.map V.str))=H1 at *;refine⟨_,rfl,zln5,fun q1 hq1=>⟨q1,_,rfl,.inr (SqT.of Za),rfl,rfl,Zg ?_⟩⟩;rw[show inV (.str y) [V.str "same",V.str "under",V.str "beneath",V.str "sign",V.str "nought"]=decide (y∈jW)from ZC y jW];have L:=s1.trans (Zc (o:=.tup [V.str "same",V.str "under",V.str "beneath",V.str "sign",V.str "nought"]) hq1);generalize upd H1 q1 (.tup [V.str "same",V.str "under",V.str "beneath",V.str "sign",V.str "nought"])=H2 at *;refine wm (fun σ H'=>∃(D:Str) (jb:Bool),σ=[some (.int r),some (.int Y),some (.ref f),some (.ref m),some (.str D),some (.bl jb)]/\jb=decide (D∈jW)/\D∈Z5/\((lpS D).length:Int)<=Y/\(D∈jW->1<=l1)/\Z8 H H') (fun N hN=>?_) ?_
  ·refine⟨_,rfl,.str y,rfl,.inl ⟨y,rfl⟩,fun p H3 hp0 hp C=>⟨p,_,rfl,.inl (SqL.of hp),_,rfl,_,_,rfl,rfl,_,rfl,z6 (fun c=>?a) (fun c=>⟨_,rfl,_,rfl,z6 (fun c2=>⟨_,rfl,f,_,1,_,rfl,rfl,SqL.of ((L.trans C) _ _ hf),rfl,rfl,_,rfl,z6 (fun c3=>?b) (fun c3=>?c)⟩) (fun c2=>?d)⟩)⟩⟩
   case c=>
    refine hN _ _ ⟨y,_,rfl,rfl,I,?_,fun _=>?_,L.trans C⟩
    ·have:=fun z=>c (Qan z)
     rw[Qab]at this;exact Int.not_lt.mp this
    ·have:¬l1=0:=fun z=>c3 (Qan (by rw[z]))
     lia
   case d=>
    refine hN _ _ ⟨y,_,rfl,rfl,I,?_,fun z=>absurd (Qan z) c2,L.trans C⟩;have:=fun z=>c (Qan z);rw[Qab]at this;exact Int.not_lt.mp this
   all_goals
    have G:=(L.trans C) _ _ hf;have J:N [some (.int r),some (.int Y),some (.ref f),some (.ref m),some (.str "yes"),some (.bl false)] H3:=hN _ _ ⟨"yes",false,rfl,by decide +kernel,by decide +kernel,by show((0:Nat):Int)<=Y;lia,fun z=>absurd z (by decide +kernel),L.trans C⟩;try refine Y2 ?_
    refine Zg ?_;refine Zg ?_;refine⟨_,rfl,_,_,rfl,rfl,_,rfl,z6 (fun e1=>⟨_,rfl,f,_,1,_,rfl,rfl,SqL.of G,rfl,_,_,rfl,rfl,_,rfl,z6 (fun e2=>?_) (fun e2=>J)⟩) (fun e1=>J)⟩;obtain⟨Z,hy2,ey2⟩:=zi (l:=["sign","nought"]) (i:=r/16%2) (Qbz _ (by decide)) (Qb0 _ (by decide));have f2:Z∈Z5/\(lpS Z).length=1/\Z∈jW:=(by decide +kernel:∀y∈(["sign","nought"]:Ai),y∈Z5/\(lpS y).length=1/\y∈jW) Z hy2;have g1:=Qbg e1;have g2:=Qbg e2;exact⟨kE,fun l hl=>⟨_,rfl,_,_,rfl,rfl,.of (by decide) (by decide),_,_,rfl,rfl,(by show(0:Int)<2;decide),l,_,_,_,rfl,rfl,SqL.of Za,ey2,Zg (Zg (hN _ _ ⟨Z,true,rfl,(Qan f2.2.2).symm,f2.1,by rw[f2.2.1];show(1:Int)<=Y;lia,fun _=>by lia,(L.trans C).trans (Zc hl)⟩))⟩⟩
  ·rintro σ H3 ⟨D,jb,rfl,rfl,I,M,hj,C⟩;have G:=C _ _ hf;refine⟨_,rfl,f,_,1,_,rfl,rfl,SqL.of G,rfl,_,rfl,.inr ⟨_,rfl,_,_,rfl,rfl,_,rfl,f,_,1,1,rfl,rfl,G,rfl,?_⟩⟩;refine⟨_,rfl,k D _ _ I M ?_ ?_ Za (SmL.of C).put⟩
   ·unfold Zhx
    by_cases h:D∈jW
    ·rw[Qa3 h,Qa3 (Qan h)];lia
    ·rw[Qay h,Qay (fun z=>h (Qbg z))];lia
   ·by_cases h:D∈jW
    ·rw[Qa3 (Qan h)];have:=hj h;lia
    ·rw[Qay (fun z=>h (Qbg z))];lia
inductive Wi(vs:A2)(H:Hp)(Q:VK):Prop
 |mk (r rm:Int) (f pn:Aw) (l0 l1 tp:Int) (nm:Ai):(vs=[.int r,.int rm,.ref f,.ref pn,.int tp])->(0<=r)->(0<=rm)->(H f=some (.lst [.int l0,.int l1]))->(0<=l0)->(H pn=some (.lst (nm.map V.str)))->(nm.length<=3)->(1<=tp)->(tp<=1000)->(∀(w:V) (l0':Int) H',((∃y,w=.str y/\y∈Gi/\((lpS y).length:Int)<=rm/\l0'+Zhx y xR=l0)\/(∃y,w=.str y/\y∈nm/\l0'=l0)\/∃z:Int,w=.int z/\0<=z/\z<1000/\l0'=l0)->0<=l0'->H' f=some (.lst [.int l0',.int l1])->SmL f H H'->Q w H')->Wi vs H Q
def zy(K:Af):Sp:=fun vs H Q _=>Wi vs H Q
theorem z5:Y5 P w K mg base CX0 2 t.eh t.el ["number","room","left","names","top"] (zy K):=by
 have C:=XI P base T TB;refine T.fe.F.ok Yz (fun vs H Q E h=>?_) (fun cdv A outer s H vs Q E hr h=>?_)
 ·obtain⟨_,_,_,_,_,_,_,_,rfl,_⟩:=h;rfl
 ·obtain⟨r,rm,f,pn,Y,l1,J,nm,rfl,hr0,hrm,Z,hl0,hn,hn3,ht1,ht2,k⟩:=h;have hu:=ZK hr;refine⟨_,@QSs.out _ _ _ (Zb (Zz 5 Yz.nd (ZM (Zi Zj (Zi Zj (Zi Zj (Zi Zj (Zi Zj (Zi Zj (Zi Zj (Zi Zj (Zi Zj (Zi Zj (Zi Zj Zd)))))))))))))
    (Zb (ZE (Zq Zb1 (Zp ZL (qv 0) Zf) Zf (Zx _))
    (Zb (Zz 6 Yz.nd (Z3 Zy (qv 5) (Zp ZL (qv 0) Zf)))
    (Zb (Zz 7 Yz.nd (Yk ZZ (qv 6) (Yb (Zi Zj (Zi Zj (Zi Zj (Zi Zj (Zi Zj Zd)))))) (by with_unfolding_all rfl)))
    (Ze (ZE (WH (JQ (Zq Zkf (Zn Zr (by rfl) T.ae Ya (Zi (Zl T.av C hr (Zi (qv 6) Zd)) Zd)) (qv 1) (Zx _)) (Wl (WH (jQ (jg (YQ (qv 7))) (JP (Zq kJ (Z3 Zy (qv 2) Zf) Zf (Zx _))))))))
    (Zb (g8 (Zp YO (Z3 Zy (qv 2) Zf) (Z4 xc (by rfl) T.du jf (Zi (qv 7) Zd))) (Ziy (qv 2) Zf set_list))
    (Ze (Zo (qv 6)))) Zw)))) Zw)
    (Zb (Zz 0 Yz.nd (Zp Yh (qv 0) Zf))
    (Zb (ZE (WH (JQ (Zq (jY (Wo hr)) (qv 3) (ZM Zd) (Zx _)) (Wl (Zq Zb1 (Zp ZL (qv 0) Zf) Zf (Zx _)))))
    (Ze (Zo (Z3 Zy (qv 3) (Zp ZL (Zp Yh (qv 0) Zf) (Zn Zr (by rfl) T.ae Ya (Zi (qv 3) Zd)))))) Zw)
    (Ze (Zo (Z3 Zy (ZM (Zi (Zp ZL (Zp Yh (qv 0) Zf) Zf) (Zi (Zp ZL (Zp Yh (qv 0) Zf) (qv 4)) Zd))) (Zp ZL (Zp Yh (qv 0) Zf) Zf)))))))),?_⟩
  try dsimp only[L2.cxK,L2.cxK2]
  refine L2.let5 ?_;intro U4 U3 U2 U1;refine⟨zln11,fun m hm=>Zg ?_⟩;have s1:=Zc (o:=.lst (wC.map V.str)) hm;show ZY _ _ _ _ (upd H m (.lst (wC.map V.str)));have hm1:upd H m (.lst (wC.map V.str)) m=some (.lst (wC.map V.str)):=Za;generalize upd H m (.lst (wC.map V.str))=H1 at *;have hf1:=s1 _ _ Z;refine wm (fun σ H'=>∃u6 u7,σ=[some (.int r),some (.int rm),some (.ref f),some (.ref pn),some (.int J),some (.ref m),u6,u7]/\Z8 H H') (fun N hN=>?_) ?_
  ·refine⟨_,rfl,_,_,rfl,rfl,(by show(0:Int)<16;decide),_,_,rfl,rfl,_,rfl,z6 (fun c=>?_) (fun c=>hN _ _ ⟨_,_,rfl,s1⟩)⟩;have c:=Qbg c;obtain⟨y,hy,ey⟩:=zi (l:=wC) (i:=r%16) (Qbz _ (by decide)) c;obtain⟨hyc,G⟩:=Zhz y hy;refine⟨_,rfl,_,rfl,_,_,rfl,rfl,(by show(0:Int)<16;decide),m,_,_,_,rfl,rfl,SqL.of hm1,ey,Zg ?_⟩;refine⟨_,rfl,zln5,fun q1 hq1=>⟨q1,_,rfl,.inr (SqT.of Za),rfl,rfl,Zg ?_⟩⟩;rw[show inV (.str y) [V.str "add",V.str "sub",V.str "neg",V.str "twice",V.str "low"]=decide (y∈(["add","sub","neg","twice","low"]:Ai))from ZC y ["add","sub","neg","twice","low"]];have I:=s1.trans (Zc (o:=.tup [V.str "add",V.str "sub",V.str "neg",V.str "twice",V.str "low"]) hq1);generalize upd H1 q1 (.tup [V.str "add",V.str "sub",V.str "neg",V.str "twice",V.str "low"])=H2 at *;refine⟨_,rfl,.str y,rfl,.inl ⟨y,rfl⟩,fun p H3 hp0 hp D=>⟨p,_,rfl,.inl (SqL.of hp),_,rfl,_,_,rfl,rfl,_,rfl,z6 (fun c1=>⟨_,rfl,_,rfl,z6 (fun c2=>?a) (fun c2=>?b)⟩) (fun c1=>hN _ _ ⟨_,_,rfl,I.trans D⟩)⟩⟩
   case' a=>
    refine Y2 ?_;have hz:y∈xR->1<=Y:=fun h=>by
     have c2:(!decide (y∈(["add","sub","neg","twice","low"]:Ai)))=true:=c2;rw[Qan (G.mpr h)]at c2;cases c2
   case' b=>
    refine⟨_,rfl,f,_,0,_,rfl,rfl,SqL.of ((I.trans D) _ _ Z),rfl,_,_,rfl,rfl,_,rfl,z6 (fun c3=>?_) (fun c3=>hN _ _ ⟨_,_,rfl,I.trans D⟩)⟩;have hz:y∈xR->1<=Y:=fun _=>by have:=Qbg c3;lia
   all_goals
    have hf3:=(I.trans D) _ _ Z;have hlen:((lpS y).length:Int)<=rm:=by
     have:=Qbg c1;rw[Qab]at this;exact this
    refine⟨_,rfl,f,_,0,_,rfl,rfl,SqL.of hf3,rfl,_,rfl,.inr ⟨_,rfl,_,_,rfl,rfl,_,rfl,f,_,0,0,rfl,rfl,hf3,rfl,_,rfl,k (.str y) _ _ (.inl ⟨y,rfl,hyc,hlen,?_⟩) ?_ Za (SmL.of (I.trans D)).put⟩⟩
    ·show Y-(if decide (y∈(["add","sub","neg","twice","low"]:Ai))=true then 1 else 0)+Zhx y xR=Y;unfold Zhx
     by_cases h:y∈xR
     ·rw[Qa3 h,Qa3 (Qan (G.mpr h))];lia
     ·rw[Qay h,Qay (fun z=>h (G.mp (Qbg z)))];lia
    ·show 0<=Y-(if decide (y∈(["add","sub","neg","twice","low"]:Ai))=true then 1 else 0)
     by_cases h:y∈xR
     ·rw[Qa3 (Qan (G.mpr h))];have:=hz h;lia
     ·rw[Qay (fun z=>h (G.mp (Qbg z)))];lia
  ·rintro σ H2 ⟨u6,u7,rfl,I⟩;have hf2:=I _ _ Z;have hn2:=I _ _ hn;refine⟨_,rfl,_,_,rfl,rfl,.of (by decide) (by decide),Zg ?_⟩;have q0:0<=r/16:=by lia
   try dsimp only
   generalize r/16=q at *;have L:∀H3,Z8 H H3->U4 {nx:=fun _ H'=>Q .non H',rt:=Q} [some (.int q),some (.int rm),some (.ref f),some (.ref pn),some (.int J),some (.ref m),u6,u7] H3:=fun H3 D=>by
    obtain⟨z,ez,z0,z1⟩:∃z:Int,atI [V.int (q/8%3),V.int (q/8%J)] (q/4%2)=some (.int z)/\0<=z/\z<1000:=by
     have t0:0<=q/8%J:=Qbz _ (by lia);have t1:q/8%J<J:=Qb0 _ (by lia);rcases(by lia:q/4%2=0\/q/4%2=1)with e|e<;>rw[e]
     ·exact⟨q/8%3,rfl,by lia,by lia⟩
     ·exact⟨q/8%J,rfl,t0,by lia⟩
    exact⟨_,rfl,_,_,rfl,rfl,.of (by decide) (by decide),_,_,rfl,rfl,(by show(0:Int)<3;decide),_,rfl,_,_,rfl,rfl,.of (by decide) (by decide),_,rfl,_,_,rfl,rfl,(by show(0:Int)<J;lia),kE,fun l hl=>⟨_,rfl,_,_,rfl,rfl,.of (by decide) (by decide),_,_,rfl,rfl,(by show(0:Int)<2;decide),l,_,_,_,rfl,rfl,SqL.of Za,ez,k (.int z) Y _ (.inr (.inr ⟨z,rfl,z0,z1,rfl⟩)) hl0 ((D.trans (Zc hl)) _ _ Z) (SmL.of (D.trans (Zc hl)))⟩⟩
   refine⟨_,rfl,Zbc,fun e he=>⟨pn,e,_,_,rfl,rfl,SqL.of (Zc he _ _ hn2),SqL.of Za,Qca.mpr fun v hv=>(by obtain⟨y,_,rfl⟩:=Qau.mp hv;rfl),rfl,_,rfl,?_⟩⟩;have D:=I.trans (Zc (o:=.lst []) he);cases nm with
   |nil=>exact L _ D
   |cons y0 rest=>
    refine Y2 ⟨_,rfl,_,_,rfl,rfl,(by show(0:Int)<4;decide),_,_,rfl,rfl,_,rfl,z6 (fun c=>?_) (fun c=>L _ D)⟩;have O:(0:Int)<((y0::rest).length:Int):=by rw[Qa9];lia
    obtain⟨y,hy,ey⟩:=zi (l:=y0::rest) (i:=q/4%((y0::rest).length:Int)) (Qbz _ (by lia)) (Qb0 _ O);have M:=D _ _ hn;rw[<-Qab V.str]at ey O;exact⟨_,rfl,_,rfl,_,_,rfl,rfl,.of (by decide) (by decide),_,rfl,pn,_,rfl,.inl (SqL.of M),_,_,rfl,rfl,O,pn,_,_,_,rfl,rfl,SqL.of M,ey,k (.str y) Y _ (.inr (.inl ⟨y,rfl,hy,rfl⟩)) hl0 (D _ _ Z) (SmL.of D)⟩
inductive G4(vs:A2)(H:Hp)(Q:VK):Prop
 |mk (tw dv:Aw) (W:Nat) (ys:Ai) (ws:A2) (kvs:A0) (ρ:Str->Int) (b:Bool):(vs=[.ref tw,.int (2^W),.ref dv])->(1<=W)->(W<=64)->(H tw=some (.tup ws))->(ws.length<=100)->(H dv=some (.dK kvs))->(Zd7 kvs ys ρ)->((∀y∈ys,0<=ρ y/\ρ y<2^W))->((∀y∈ys,y∉ZJ))->(TyR ys ws [true])->(We (2^W) ρ ws []=[.bl b])->(∀H',Z8 H H'->Q (.bl b) H')->G4 vs H Q
def gk(K:Af):Sp:=fun vs H Q _=>G4 vs H Q
theorem gm:Y5 P w K mg base CX0 2 t.rh t.rj ["words","full","values"] (gk K):=by
 have J:=XI P base T TB;have G:=yM P base T TB;have I:=yO P base T TB;refine T.sj.F.ok YX (fun vs H Q E h=>?_) (fun cdv A outer s H vs Q E hr h=>?_)
 ·obtain⟨_,_,_,_,_,_,_,_,rfl,_⟩:=h;rfl
 ·obtain⟨tw,dv,W,ys,C,kvs,ρ,b,rfl,hW1,hW,ht,hl,hd,hc,hρ,hyk,hty,hrun,k⟩:=h;have hu:=ZK hr;refine⟨_,@QSs.out _ _ _ (Zb (Zz 3 YX.nd (ZM Zd))
    (Zb (Xb Qbp rfl (Xs (qe_rev rv_tup (qv 0) (JO xa Zf))) (Xq 4 YX.nd)
    (Ze (ZE (YQ (Zn X5 (by rfl) T.ak Yd (Zi (qv 4) (Zi (WN (v:=.ty "int") (by rfl) T.du jf rfl) Zd))))
    (Ze (Yn (YD Qat Qa5 Qa6 ZF (qv 3) (Zi (Zp ZL (qv 4) (qv 1)) Zd)))) (Ze (ZE (Zq (jm hu) (qv 4) (qv 2) (by with_unfolding_all rfl))
    (Ze (Yn (YD Qat Qa5 Qa6 ZF (qv 3) (Zi (xq hu (qv 2) (qv 4) (fun _ _=>rfl)) Zd)))) (Ze (ZE (Zq Yt (qv 4) Zj (Zx _))
    (Ze (Yn (YD Qat Qa5 Qa6 ZF (qv 3) (Zi YC Zd)))) (Ze (ZE (Zq Yt (qv 4) Zj (Zx _))
    (Zb (Zz 5 YX.nd (Jy Qat Qcm Qcn JM (qv 3)))
    (Zb (Zz 6 YX.nd (Jy Qat Qcm Qcn JM (qv 3)))
    (Ze (Yn (YD Qat Qa5 Qa6 ZF (qv 3) (Zi (Zp z7 (Zp Xg (qv 5) (qv 6)) (Zp Xg (Zp YO (Zp YO (qv 1) Zf) (qv 5)) (Jy Qat Qcm Qcn JM (qv 3)))) Zd)))))) (Ze (ZE (Zq Yt (Zn Zr (by rfl) T.ae Ya (Zi (Zl T.av J hr (Zi (qv 4) Zd)) Zd)) Zf (Zx _))
    (Ze (Yn (YD Qat Qa5 Qa6 ZF (qv 3) (Zi (Zl T.ly G hr (Zi (qv 4) (Zi (Jy Qat Qcm Qcn JM (qv 3)) (Zi (qv 1) Zd)))) Zd)))) (Zb (Zz 5 YX.nd (Jy Qat Qcm Qcn JM (qv 3)))
    (Ze (Yn (YD Qat Qa5 Qa6 ZF (qv 3) (Zi (Zl T.lz I hr (Zi (qv 4) (Zi (qv 5) (Zi (Jy Qat Qcm Qcn JM (qv 3)) (Zi (qv 1) Zd))))) Zd))))))))))))))))
    (Ze (Zo (Z3 Zy (qv 3) Zf))))),?_⟩
  try dsimp only[L2.cxK,L2.cxK2]
  refine L2.let3 ?_;intro U2 U1;have hp:=qR W;refine⟨Zbc,fun st D=>Zg ?_⟩;have s1:=Zc (o:=.lst []) D;refine⟨_,rfl,1,rfl,rfl,tw,_,rfl,SqT.of (s1 _ _ ht),fun Y htr=>⟨_,rfl,⟨_,SqT.of Za⟩,?_⟩⟩;have s2:=s1.trans (Zc (o:=.tup C.reverse) htr);have htr2:upd (upd H st (.lst [])) Y (.tup C.reverse) Y=some (.tup C.reverse):=Za;have hst2:upd (upd H st (.lst [])) Y (.tup C.reverse) st=some (.lst []):=Zc htr _ _ Za;have M:Y≠st:=fun z=>by rw[z,Za]at htr;cases htr
  generalize upd (upd H st (.lst [])) Y (.tup C.reverse)=H0 at *;refine jO (K:=K) (a:=Y) (xs:=C.reverse) (fun i σ H2=>∃u5 u6 u7,σ=[some (.ref tw),some (.int (2^W)),some (.ref dv),some (.ref st),u5,u6,u7]/\i<=C.length/\H2 st=some (.lst (We (2^W) ρ (C.drop (C.length-i)) []).reverse)/\H2 Y=some (.tup C.reverse)/\Z8 H H2) ⟨none,none,none,rfl,Qbt _,?_,htr2,s2⟩ (fun i σ H2 _ ⟨_,_,_,_,_,_,e,_⟩=>SqT.of e) ?_ ?_
  ·rw[Qho,Qel];exact hst2
  ·rintro i x σ H2 hx ⟨u5,u6,u7,rfl,hi0,q,O,s3⟩;obtain⟨hi,hx⟩:=Zji hx;have ed:C.drop (C.length-(i+1))=x::C.drop (C.length-i):=by
    rw[show C.length-(i+1)=C.length-1-i by lia,Qc2 (by lia),show C.length-1-i+1=C.length-i by lia];congr 1;exact(Qag.mp hx).2
   obtain⟨ks,hk⟩:=hty.drop (C.length-(i+1));rw[ed]at hk ⊢;have hle:(C.drop (C.length-i)).length<=100:=by rw[Qbq];lia
   generalize C.drop (C.length-i)=r at *;rw[Xd];have L:(We (2^W) ρ r []).length<=100:=by
    rw[y7];exact Qbc (wt r) hle
   have fin:∀(v:V) (Hx:Hp) (l:A2),l.length<=100->Hx st=some (.lst l.reverse)->Hx Y=some (.tup C.reverse)->Z8 H Hx->l.reverse.length<sizeLine/\upd Hx st (.lst (l.reverse++[v])) st=some (.lst (v::l).reverse)/\upd Hx st (.lst (l.reverse++[v])) Y=some (.tup C.reverse)/\Z8 H (upd Hx st (.lst (l.reverse++[v]))):=fun v Hx l hl' e1 e2 sx=>by
    refine⟨?_,by rw[Za,Qcp],by rw[Zk M];exact e2,ZR sx D⟩;rw[Qc7];exact Z2 (by lia)
   obtain⟨R0,h0⟩:∃R0,We (2^W) ρ r []=R0:=⟨_,rfl⟩;rw[h0]at q L ⊢;generalize h1:cvV (2^W) ρ x (R0.take (npw x))::R0.drop (npw x)=R1;have hd2:=s3 _ _ hd;rcases Zm6 hW1 hyk hρ hk h0 h1 with⟨z,rfl,rfl⟩|⟨y,rfl,hy,rfl⟩|⟨y,rfl,hny,hc4⟩
   ·obtain⟨f1,f2,f3,Z⟩:=fin (.int (z%2^W)) H2 R0 L q O s3;exact⟨_,rfl,_,_,_,_,rfl,.int z,JE,_,rfl,Y2 ⟨_,rfl,.inl ⟨rfl,_,SqL.of q⟩,_,rfl,_,rfl,_,_,rfl,rfl,hp,st,_,_,rfl,rfl,q,f1,_,_,_,rfl,hi,f2,f3,Z⟩⟩
   ·refine⟨_,rfl,_,_,_,_,rfl,.str y,Xp,_,rfl,ZD ⟨_,rfl,_,rfl,dv,Yi kvs (.inr y),rfl,.inl ⟨kvs,.inr y,.inl hd2,rfl,rfl⟩,_,rfl,?_⟩⟩;show if(Yi kvs (.inr y)).isSome=true then _ else _;rw[hc.1 y hy];obtain⟨f1,f2,f3,Z⟩:=fin (.int (ρ y)) H2 R0 L q O s3;exact Y2 ⟨_,rfl,.inl ⟨rfl,_,SqL.of q⟩,_,rfl,_,rfl,dv,_,rfl,.inl ⟨kvs,.inr y,.inl hd2,rfl,(hc.1 y hy).symm⟩,st,_,_,rfl,rfl,q,f1,_,_,_,rfl,hi,f2,f3,Z⟩
   ·refine⟨_,rfl,_,_,_,_,rfl,.str y,Xp,_,rfl,ZD ⟨_,rfl,_,rfl,dv,Yi kvs (.inr y),rfl,.inl ⟨kvs,.inr y,.inl hd2,rfl,rfl⟩,_,rfl,?_⟩⟩;show if(Yi kvs (.inr y)).isSome=true then _ else _;rw[hc.2 y hny];refine ZD ⟨_,rfl,rfl,_,rfl,?_⟩;rcases hc4 with⟨rfl,rfl⟩|⟨rfl,a,b,c,l,rfl,⟨ha,hb,hcc⟩,rfl⟩|⟨n0,n1,k1,v,r',l,rfl,o1,rfl⟩|⟨n0,n1,k1,v,u,r',l,rfl,o1,rfl⟩
    ·obtain⟨f1,f2,f3,Z⟩:=fin (.bl true) H2 R0 L q O s3;exact Y2 ⟨_,rfl,.inl ⟨rfl,_,SqL.of q⟩,st,_,_,rfl,rfl,q,f1,_,_,_,rfl,hi,f2,f3,Z⟩
    ·refine ZD ⟨_,rfl,rfl,_,rfl,Y2 ?_⟩;have hpa:=Znp q;refine⟨_,rfl,.inl ⟨rfl,_,SqL.of hpa⟩,st,_,_,rfl,rfl,hpa,Xc _ _,Zg ?_⟩;rw[Qcx];have s6:=ZR (o:=.lst ((V.int b::V.int c::l).reverse)) s3 D;have h4s:upd H2 st (.lst ((V.int b::V.int c::l).reverse)) st=some (.lst ((V.int b::V.int c::l).reverse)):=Za;have h4t:upd H2 st (.lst ((V.int b::V.int c::l).reverse)) Y=some (.tup C.reverse):=by rw[Zk M];exact O
     show ZY _ _ _ _ (upd H2 st (.lst ((V.int b::V.int c::l).reverse)));generalize upd H2 st (.lst ((V.int b::V.int c::l).reverse))=H4 at *;have hpb:=Znp h4s;refine⟨_,rfl,.inl ⟨rfl,_,SqL.of hpb⟩,st,_,_,rfl,rfl,hpb,Xc _ _,Zg ?_⟩;rw[Qcx];have s7:=ZR (o:=.lst (V.int c::l).reverse) s6 D;have h5s:upd H4 st (.lst (V.int c::l).reverse) st=some (.lst (V.int c::l).reverse):=Za;have h5t:upd H4 st (.lst (V.int c::l).reverse) Y=some (.tup C.reverse):=by rw[Zk M];exact h4t
     generalize upd H4 st (.lst (V.int c::l).reverse)=H5 at *;have hpc:=Znp h5s;have hll:l.length<=100:=by simp only[Qa9]at L;lia
     refine⟨_,rfl,.inl ⟨rfl,_,SqL.of h5s⟩,_,rfl,_,rfl,_,_,rfl,rfl,_,rfl,_,_,rfl,rfl,_,rfl,_,_,rfl,rfl,_,rfl,.inl ⟨rfl,_,SqL.of hpc⟩,st,_,_,rfl,rfl,hpc,Xc _ _,_,_,rfl,rfl,_,_,rfl,rfl,?_⟩;rw[Qcx];try dsimp only
     rw[Zhd ha.1 ha.2 hb.1 hb.2 hcc.1 hcc.2];obtain⟨f1,f2,f3,Z⟩:=fin (.int (Builtin.bitOr (Builtin.bitAnd a b) (Builtin.bitAnd (Builtin.bitNot a) c)%2^W)) (upd H5 st (.lst l.reverse)) l hll Za (by rw[Zk M];exact h5t) (ZR s7 D);exact⟨st,_,_,rfl,rfl,Za,f1,_,_,_,rfl,hi,f2,f3,Z⟩
    ·rw[Qap fun z=>n0 (by injection z)];refine ZD ⟨_,rfl,rfl,_,rfl,?_⟩;rw[Qap fun z=>n1 (by injection z)];refine ZD ⟨_,rfl,.str y,rfl,.inl ⟨y,rfl⟩,fun p H3 hp0 hp3 sp=>⟨p,_,rfl,.inl (SqL.of hp3),rfl,_,rfl,?_⟩⟩;rw[show decide (V.int (((lpW (.str y)).map V.bl).length:Int)=V.int 1)=true from Qan (by rw[Qab];show V.int ((lpS y).length:Int)=_;rw[k1];rfl)];have h3s:=sp _ _ q;have h3t:=sp _ _ O;have s4:=s3.trans sp;have hpop:=Znp h3s;refine Y2 ⟨_,rfl,.inl ⟨rfl,_,SqL.of h3s⟩,_,rfl,_,rfl,.inl ⟨rfl,_,SqL.of hpop⟩,st,_,_,rfl,rfl,hpop,Xc _ _,_,rfl,y,v,r',W,rfl,hW1,hW,o1,?_⟩;rw[Qcx];obtain⟨f1,f2,f3,Z⟩:=fin r' (upd H3 st (.lst l.reverse)) l (by simp only[Qa9]at L;lia) Za (by rw[Zk M];exact h3t) (ZR s4 D);exact⟨st,_,_,rfl,rfl,Za,f1,_,_,_,rfl,hi,f2,f3,Z⟩
    ·rw[Qap fun z=>n0 (by injection z)];refine ZD ⟨_,rfl,rfl,_,rfl,?_⟩;rw[Qap fun z=>n1 (by injection z)];refine ZD ⟨_,rfl,.str y,rfl,.inl ⟨y,rfl⟩,fun p H3 hp0 hp3 sp=>⟨p,_,rfl,.inl (SqL.of hp3),rfl,_,rfl,?_⟩⟩;rw[show decide (V.int (((lpW (.str y)).map V.bl).length:Int)=V.int 1)=false from Qap (fun z=>k1 (by rw[Qab]at z;injection z with z;show(lpW (.str y)).length=1;lia))];have h3s:=sp _ _ q;have h3t:=sp _ _ O;have s4:=s3.trans sp;have hpa:=Znp h3s;refine ZD ⟨_,rfl,.inl ⟨rfl,_,SqL.of hpa⟩,st,_,_,rfl,rfl,hpa,Xc _ _,Zg ?_⟩;rw[Qcx];have s6:=ZR (o:=.lst ((u::l).reverse)) s4 D;have h4s:upd H3 st (.lst ((u::l).reverse)) st=some (.lst ((u::l).reverse)):=Za;have h4t:upd H3 st (.lst ((u::l).reverse)) Y=some (.tup C.reverse):=by rw[Zk M];exact h3t
     generalize upd H3 st (.lst ((u::l).reverse))=H4 at *;have hpb:=Znp h4s;refine⟨_,rfl,.inl ⟨rfl,_,SqL.of h4s⟩,_,rfl,_,rfl,_,rfl,.inl ⟨rfl,_,SqL.of hpb⟩,st,_,_,rfl,rfl,hpb,Xc _ _,_,rfl,y,v,u,r',W,rfl,hW1,hW,o1,fun H6 s7=>?_⟩;rw[Qcx]at s7;have s8:=ZR (o:=.lst l.reverse) s6 D;obtain⟨f1,f2,f3,Z⟩:=fin r' H6 l (by simp only[Qa9]at L;lia) (s7 _ _ Za) (s7 _ _ (by rw[Zk M];exact h4t)) (s8.trans s7);exact⟨st,_,_,rfl,rfl,s7 _ _ Za,f1,_,_,_,rfl,hi,f2,f3,Z⟩
  ·rintro σ H2 ⟨u5,u6,u7,rfl,hi0,q,O,s3⟩;rw[Qc7,Qe0,Qen,hrun]at q;exact⟨_,rfl,st,_,0,_,rfl,rfl,SqL.of q,rfl,k H2 s3⟩
inductive WD(vs:A2)(H:Hp)(Q:VK):Prop
 |mk (s:Aw) (stk:A2) (w:V):(vs=[.ref s,w])->(H s=some (.lst stk.reverse))->(w=kV (keyOf w))->(npw w<=stk.length)->(stk.length<=100)->(∀pl H',H pl=none->H' pl=some (.lst (stk.take (npw w)))->H' s=some (.lst (stk.drop (npw w)).reverse)->(∀b o,H b=some o->b≠s->H' b=some o)->Q (.ref pl) H')->WD vs H Q
def ja(K:Af):Sp:=fun vs H Q _=>WD vs H Q
theorem jc:Y5 P w K mg base CX0 3 t.ia t.ib ["stack","word"] (ja K):=by
 have C:=gc P base T TB;refine T.ir.F.ok zM (fun vs H Q E h=>?_) (fun cdv A outer s H vs Q E hr h=>?_)
 ·obtain⟨_,_,_,rfl,_⟩:=h;rfl
 ·obtain⟨st,D,x,rfl,hs,hx,hn,hl,k⟩:=h;have hu:=ZK hr;refine⟨_,@QSs.out _ _ _ (Ze (Zo (Y3 ({}:ZP (Zh Ws) _ ["stack","word"] "part" ["stack"] [0]) (XW rfl T.au (Zi (Zl T.sh C hr (Zi (qv 1) Zd)) Zd)) (fun _ _ _ _=>Xh) (fun _ _ _ _=>(show QE _ _ (Zpb K "list" rPop (yP 1))from(Jy Qat Qcm Qcn JM (qv 1))))))),?_⟩;refine⟨_,rfl,keyOf x,congrArg (fun z=>[z]) hx,XB (keyOf x),rfl,?_,?_,uU (n:=(XB (keyOf x)).toNat) (fun i zs H2=>i<=npw x/\zs=D.take i/\H2 st=some (.lst (D.drop i).reverse)/\∀b o,H b=some o->b≠st->H2 b=some o) ⟨Qbt _,rfl,hs,fun b o e _=>e⟩ ?_ ?_ ?_⟩
  ·have:=xK (keyOf x);lia
  ·have:=xK (keyOf x);lia
  ·rintro i zs H2 ⟨_,rfl,_,_⟩;rw[Qa2];exact Qav (Z2 (by lia))
  ·rintro i zs H2 R hR hi ⟨O,rfl,h2,Y⟩;have Z:i<npw x:=hi;have L:i<D.length:=by lia
   rw[Zmb L]at h2;refine⟨_,rfl,.inl ⟨rfl,_,SqL.of h2⟩,st,_,D[i],rfl,rfl,h2,Xc _ _,hR _ _ ⟨Z,?_,?_,fun b o e I=>?_⟩⟩
   ·rw[take_snoc (Qac L)]
   ·rw[Za,Qcx]
   ·rw[Zk I];exact Y b o e I
  ·rintro zs H2 ⟨O,rfl,h2,Y⟩ l G;have J:H l=none:=by
    cases q:H l with
    |none=>rfl
    |some o=>
     by_cases I:l=st
     ·rw[I,h2]at G;cases G
     ·grind
   have M:st≠l:=Zm h2 G;refine k l _ J Za ?_ fun b o e I=>?_
   ·rw[Zk M];exact h2
   ·rw[Zk (Zm e J)];exact Y b o e I
inductive G5(vs:A2)(H:Hp)(Q:VK):Prop
 |mk (t:Aw) (ws:A2):(vs=[.ref t])->(H t=some (.tup ws))->((∀w∈ws,jB w))->(ws.length<=60)->(∀p H' (ms:Ai),H p=none->H' p=some (.tup (ms.map V.str))->Z8 H H'->ms.Perm (XY ((ws.filter nmB).map Zfu))->PyProof.Rows.sortedS ms=true->Q (.ref p) H')->G5 vs H Q
def gn(K:Af):Sp:=fun vs H Q _=>G5 vs H Q
theorem gp:Y5 P w K mg base CX0 3 t.rk t.rn ["words"] (gn K):=by
 have q:=Za7 P base T TB;refine T.sr.F.ok wJ (fun vs H Q E h=>?_) (fun cdv A outer s H vs Q E Y h=>?_)
 ·obtain⟨_,_,rfl,_⟩:=h;rfl
 ·obtain⟨t,D,rfl,O,hw,hl,k⟩:=h;have hu:=ZK Y;refine⟨_,@QSs.out _ _ _ (Ze (Zo (Z4 Z0 (by rfl) T.ah ZQ (Zi (Zn (JY rfl) (by rfl) T.cf JN (Zi (Z4 (vv rfl) (by rfl) T.aap Zix (Zi (Y3 ({}:ZP (Zh GR) _ ["words"] "word" [] []) (Xs (qv 0)) (fun _ _ _ _=>(ve (WH (JQ (YQ (Zn (show Y9 _ (.builtin "isinstance") (Zn9 K)from X5) (by rfl) T.ak Yd (Zi (qv 0) (Zi (WN (v:=.ty "str") (by rfl) T.aaq Ziw rfl) Zd)))) (Wl (YQ (Zl T.aab q Y (Zi (qv 0) Zd)))))))) (fun _ _ _ _=>(qv 0))) Zd)) Zd)) Zd)))),?_⟩;refine⟨_,rfl,t,rfl,⟨_,SqT.of O⟩,vw (xs:=D) nmB Z8 Z8.refl (fun _ _ _ a b=>a.trans b) (fun H1 G=>SqT.of (G _ _ O)) (Qav (Z2 (by lia))) (fun x L H1 G R hR=>?_) (fun x L H1 R hR=>⟨_,rfl,hR⟩) (fun H1 l G I=>?_)⟩
  ·rcases hw x L with⟨y,rfl,hy⟩|⟨z,rfl⟩
   ·exact⟨_,rfl,_,_,_,_,rfl,.str y,xk,_,rfl,Y2 ⟨_,rfl,y,rfl,Qbc hy (by decide),fun H2 J=>⟨_,rfl,hR H2 J⟩⟩⟩
   ·exact⟨_,rfl,_,_,_,_,rfl,.int z,xl,_,rfl,ZD (hR H1 (Z8.refl H1))⟩
  have fl:(D.filter nmB).length<=60:=Qbc (Qe2 _ _) hl;have ol:=vH ((D.filter nmB).map Zfu);rw[Qab]at ol;have J:=G.trans (Zc (o:=.lst (D.filter nmB)) I);refine⟨l,(D.filter nmB).map Zfu,rfl,SqL.of (by rw[Zl9];exact Za),by rw[Qab];lia,fun a ha=>⟨a,_,rfl,Za,by lia,fun m M hm hp hs=>⟨m,_,rfl,.inl ⟨SqL.of Za,fun p C=>?_⟩⟩⟩⟩;have Z:Z8 H _:=J.trans ((Zc ha).trans (Zc (o:=.lst (M.map V.str)) hm));exact k p _ M (Z8.free Z C) Za (Z.trans (Zc C)) hp hs
inductive JA(K:Af)(vs:A2)(H:Hp)(Q:VK):Prop
 |mk (a pn f:Aw) (ns:Ak) (st:Nat) (nm:Ai) (tp k0 k1:Int):(vs=[.ref a,.int (st:Int),.ref pn,.int 14,.ref f,.int tp,.bl true])->(((Rd H a (.lst (ns.map V.int))/\a≠f)\/SqL K (fun b=>none) a (ns.map V.int)))->(ns.length<=63)->(st<=10)->(H pn=some (.lst (nm.map V.str)))->(nm.length<=3)->((∀y∈nm,y∉ZJ))->(H f=some (.lst [.int k0,.int k1]))->(0<=k0)->(0<=k1)->(k0+k1<=5)->(pn≠f)->(1<=tp)->(tp<=1000)->(∀p ws H',H' p=some (.tup ws)->ws.length<=14->TyR nm ws [true]->(Y7 ws:Int)<=k0+k1->SmL f H H'->Q (.ref p) H')->JA K vs H Q
def kC(K:Af):Sp:=fun vs H Q _=>JA K vs H Q
theorem kD:Y5 P w K mg base CX0 3 t.ni t.nj ["script","start","names","most","left","top","claim"] (kC K):=by
 have L:=XI P base T TB;have q:=qb P base T TB;have C:=z5 P base T TB;have I:=Ww P base T TB;refine T.og.F.ok Y0 (fun vs H Q E h=>?_) (fun cdv A outer s H vs Q E hr h=>?_)
 ·obtain⟨_,_,_,_,_,_,_,_,_,rfl,_⟩:=h;rfl
 ·obtain⟨a,pn,f,ns,st,nm,tp,k0,k1,rfl,hS,h63,hst,hpn,hn3,hnk,hf,hk0,hk1,hk5,hpf,ht1,ht2,k⟩:=h;have hu:=ZK hr;refine⟨_,@QSs.out _ _ _ (Zb (Zz 7 Y0.nd (ZM Zd))
    (Zb (Zz 8 Y0.nd (ZM (Zi (qv 6) Zd)))
    (Zb (Jp Qbp (Zq (jY (Wo hr)) (qv 8) (ZM Zd) (Zx _))
    (Zb (Zz 9 Y0.nd (Zp YO (Zp YO (qv 3) (Zn Zr (by rfl) T.ae Ya (Zi (qv 7) Zd))) (Zn Zr (by rfl) T.ae Ya (Zi (qv 8) Zd))))
    (Zb (Zz 10 Y0.nd (Zl T.ay I hr (Zi (qv 0) (Zi (Zp YA (qv 1) (Zn Zr (by rfl) T.ae Ya (Zi (qv 7) Zd))) Zd))))
    (Zb (ZE (YQ (Jy Qat Qcm Qcn JM (qv 8)))
    (Ze (Zz 11 Y0.nd (Zl T.bz q hr (Zi (qv 10) (Zi (qv 9) (Zi (qv 4) Zd)))))) (Ze (Zz 11 Y0.nd (Zl T.fe C hr (Zi (qv 10) (Zi (qv 9) (Zi (qv 4) (Zi (qv 2) (Zi (qv 5) Zd)))))))))
    (Zb (Yn (YD Qat Qa5 Qa6 ZF (qv 7) (Zi (qv 11) Zd)))
    (Ze (Yn (YD Qat PySem.F.slot_list_extend PySem.F.type_list_extend Zcg (qv 8) (Zi (Zl T.av L hr (Zi (qv 11) Zd)) Zd)))))))))
    (Ze (Zo (Z4 Z0 (by rfl) T.ah ZQ (Zi (qv 7) Zd))))))),?_⟩
  try dsimp only[L2.cxK,L2.cxK2]
  refine L2.let4 ?_;intro U3 U2 U1;refine⟨Zbc,fun G hwa=>Zg ?_⟩;refine⟨_,rfl,Znq,fun D hpa=>Zg ?_⟩;have s1:=(Zc (o:=.lst []) hwa).trans (Zc (o:=.lst [V.bl true]) hpa);have hwf:G≠f:=fun z=>by rw[z,hf]at hwa;cases hwa
  have hpw:D≠G:=fun z=>by rw[z,Za]at hpa;cases hpa
  have hpa0:H D=none:=by rw[Zk hpw]at hpa;exact hpa
  have Z:D≠f:=fun z=>by rw[z,hf]at hpa0;cases hpa0
  have w1:upd (upd H G (.lst [])) D (.lst [V.bl true]) G=some (.lst []):=by rw[Zk hpw.symm,Za]
  have p1:upd (upd H G (.lst [])) D (.lst [V.bl true]) D=some (.lst [V.bl true]):=Za;generalize upd (upd H G (.lst [])) D (.lst [V.bl true])=H1 at *;have keep:∀{Ha Hb:Hp} {g:Aw} {u o:HO},SmL f H Ha->(g=G\/g=D)->SmL f H (upd Ha g o):=fun{Ha Hb g u o} s hg b v hb e=>by
   have:b≠g:=fun z=>by
    rcases hg with h|h
    ·rw[z,h,hwa]at e;cases e
    ·rw[z,h,hpa0]at e;cases e
   rw[Zk this];exact s b v hb e
  refine GS (fun σ H'=>∃(O:A2) (ks:Am) (l0 l1:Int) (u9 u10 u11:Option V),σ=[some (.ref a),some (.int (st:Int)),some (.ref pn),some (.int 14),some (.ref f),some (.int tp),some (.bl true),some (.ref G),some (.ref D),u9,u10,u11]/\H' G=some (.lst O)/\H' D=some (.lst (ks.reverse.map V.bl))/\H' f=some (.lst [.int l0,.int l1])/\Wds (k0+k1) nm O ks l0 l1/\0<=l0/\0<=l1/\SmL f H H') (fun _ H'=>match H' G with|some (.lst l)=>20-l.length|_=>0) ⟨[],[true],k0,k1,none,none,none,rfl,w1,p1,s1 _ _ hf,⟨fun rest h=>h,by show((0:Nat):Int)+k0+k1<=k0+k1;lia,by decide⟩,hk0,hk1,SmL.of s1⟩ ?_;rintro σ H2 ⟨O,ks,l0,l1,u9,u10,u11,rfl,w2,p2,f2,W2,hl0,hl1,s2⟩;refine⟨_,rfl,Zbc,fun e he=>⟨D,e,_,_,rfl,rfl,SqL.of (Zc he _ _ p2),SqL.of Za,Qca.mpr fun v hv=>(by obtain⟨y,_,rfl⟩:=Qau.mp hv;rfl),rfl,_,rfl,?_⟩⟩;have se:=Zc (o:=.lst []) he;have w3:=se _ _ w2;have p3:=se _ _ p2;have f3:=se _ _ f2;have s3:=s2.same se;generalize upd H2 e (.lst [])=H3 at *;cases ks with
  |nil=>
   have hty:=W2.ty [] .nil;rw[Qby]at hty;have hln:=W2.ln;have hrm:=W2.rm;exact⟨_,rfl,G,_,rfl,.inl ⟨SqL.of w3,fun p hp=>k p O _ Za (by lia) hty (by lia) (s3.same (Zc hp))⟩⟩
  |cons b ks=>
   have hpop:H3 D=some (.lst (ks.reverse.map V.bl++[V.bl b])):=by rw[p3,Qcp,Qaz];rfl
   have hln:=W2.ln;rw[Qa9]at hln;have hpl:((b::ks).reverse.map V.bl).length=ks.length+1:=by rw[Qab,Qc7,Qa9]
   rw[show(!jn ((b::ks).reverse.map V.bl) [])=true by rw[Qcp,Qaz];cases ks.reverse.map V.bl<;>rfl];refine Y2 ⟨fun σ' H'=>∃(Y:A2) (ks:Am) (l0 l1:Int) (u9 u10 u11:Option V),σ'=[some (.ref a),some (.int (st:Int)),some (.ref pn),some (.int 14),some (.ref f),some (.int tp),some (.bl true),some (.ref G),some (.ref D),u9,u10,u11]/\Y.length=O.length+1/\H' G=some (.lst Y)/\H' D=some (.lst (ks.reverse.map V.bl))/\H' f=some (.lst [.int l0,.int l1])/\Wds (k0+k1) nm Y ks l0 l1/\0<=l0/\0<=l1/\SmL f H H',?_,?_⟩
   ·rintro σ' H' ⟨Y,ks',J,M,v9,v10,v11,rfl,hl',h1,h2,h3,h4,h5,h6,h7⟩;refine⟨20-Y.length,?_,?_,Y,ks',J,M,v9,v10,v11,rfl,h1,h2,h3,h4,h5,h6,h7⟩
    ·rw[w2];show 20-Y.length<20-O.length;lia
    ·rw[h1]
   refine⟨_,rfl,_,rfl,G,_,rfl,.inl (SqL.of w3),_,_,rfl,rfl,_,rfl,D,_,rfl,.inl (SqL.of p3),_,_,rfl,rfl,Zg ?_⟩;refine⟨_,rfl,_,rfl,_,rfl,G,_,rfl,.inl (SqL.of w3),_,_,rfl,rfl,a,ns,st+O.length,rfl,?_,h63,by lia,fun r H4 r0 r1 s4=>Zg ?_⟩
   ·rcases hS with⟨z|⟨o,z⟩,haf⟩|(z|⟨_,z⟩)|z
    ·exact .inl (.inl (s3 _ _ haf z))
    ·exact .inl (.inr ⟨o,s3 _ _ haf z⟩)
    ·cases z
    ·cases z
    ·exact .inr z
   have w4:=s4 _ _ w3;have p4:=s4 _ _ hpop;have f4:=s4 _ _ f3;have s34:=s3.same s4;refine wm (fun σ H'=>∃(w:V) (J M:Int) (u9 u10:Option V),σ=[some (.ref a),some (.int (st:Int)),some (.ref pn),some (.int 14),some (.ref f),some (.int tp),some (.bl true),some (.ref G),some (.ref D),u9,u10,some w]/\((∃y,w=.str y)\/∃z:Int,w=.int z)/\H' G=some (.lst O)/\H' D=some (.lst (ks.reverse.map V.bl))/\H' f=some (.lst [.int J,.int M])/\Wds (k0+k1) nm (O++[w]) (lpW w++ks) J M/\0<=J/\0<=M/\SmL f H H') (fun N hN=>?_) ?_
   ·refine⟨_,rfl,.inl ⟨rfl,_,SqL.of p4⟩,D,_,_,rfl,rfl,p4,Xc _ _,b,rfl,?_⟩;rw[Qcx];have w5:upd H4 D (.lst (ks.reverse.map V.bl)) G=some (.lst O):=by rw[Zk hpw.symm];exact w4
    have p5:upd H4 D (.lst (ks.reverse.map V.bl)) D=some (.lst (ks.reverse.map V.bl)):=Za;have f5:upd H4 D (.lst (ks.reverse.map V.bl)) f=some (.lst [.int l0,.int l1]):=by rw[Zk Z.symm];exact f4
    have s5:SmL f H (upd H4 D (.lst (ks.reverse.map V.bl))):=keep (Hb:=H) (u:=.lst []) s34 (.inr rfl);generalize upd H4 D (.lst (ks.reverse.map V.bl))=H5 at *;have erm:(14:Int)-(O.length:Int)-(((b::ks).reverse.map V.bl).length:Int)=14-O.length-((b::ks).length:Int):=by rw[hpl,Qa9]
    cases b with
    |true=>
     refine Y2 ⟨_,rfl,_,rfl,_,rfl,r,_,f,l0,l1,rfl,r0,?_,f5,hl1,fun y M H6 hy hlen hl hl' f6 s6=>Zg (hN _ _ ⟨.str y,l0,M,_,_,rfl,.inl ⟨y,rfl⟩,s6 _ _ hwf w5,s6 _ _ Z p5,f6,W2.clm hnk hy ?_ hl,hl0,hl',fun b o hb e=>s6 _ _ hb (s5 b o hb e)⟩)⟩
     ·rw[hpl];lia
     ·rw[<-erm];exact hlen
    |false=>
     refine ZD ⟨_,rfl,_,rfl,_,rfl,_,rfl,_,rfl,r,_,f,pn,l0,l1,tp,nm,rfl,r0,?_,f5,hl0,s5 _ _ hpf hpn,hn3,ht1,ht2,fun w J H6 hw hl' f6 s6=>Zg (hN _ _ ⟨w,J,l1,_,_,rfl,?_,s6 _ _ hwf w5,s6 _ _ Z p5,f6,W2.sum hnk ?_,hl',hl1,fun b o hb e=>s6 _ _ hb (s5 b o hb e)⟩)⟩
     ·rw[hpl];lia
     ·rcases hw with⟨y,e,_⟩|⟨y,e,_⟩|⟨z,e,_⟩
      ·exact .inl ⟨y,e⟩
      ·exact .inl ⟨y,e⟩
      ·exact .inr ⟨z,e⟩
     ·rw[<-erm];exact hw
   ·rintro σ H5 ⟨w,J,M,v9,v10,rfl,hw,w5,p5,f5,W5,hl0',hl1',s5⟩;refine⟨_,rfl,.inl ⟨rfl,_,SqL.of w5⟩,_,rfl,G,_,_,rfl,rfl,w5,Z2 (by lia),?_⟩;have w6:=Za (H:=H5) (a:=G) (o:=.lst (O++[w]));have p6:=(Zk (H:=H5) (o:=.lst (O++[w])) hpw).trans p5;have f6:=(Zk (H:=H5) (o:=.lst (O++[w])) hwf.symm).trans f5;have s6:SmL f H (upd H5 G (.lst (O++[w]))):=keep (Hb:=H) (u:=.lst []) s5 (.inl rfl);generalize upd H5 G (.lst (O++[w]))=H6 at *;refine⟨_,rfl,.inl ⟨rfl,_,SqL.of p6⟩,_,rfl,w,rfl,hw,fun p H7 hp0 hp s7=>⟨D,p,_,_,rfl,rfl,s7 _ _ p6,hp,?_,?_⟩⟩
    ·have:=(Zfb w).2;rw[Qab,Qab,Qc7];exact Qav (Z2 (by lia))
    ·refine⟨O++[w],lpW w++ks,J,M,_,_,_,rfl,by rw[Qak];rfl,by rw[Zk hpw.symm];exact s7 _ _ w6,?_,by rw[Zk Z.symm];exact s7 _ _ f6,W5,hl0',hl1',keep (Hb:=H) (u:=.lst []) (s6.same s7) (.inr rfl)⟩;rw[Za,List.reverse_append,(Zfb w).1,Qaz]
inductive qw(vs:A2)(H:Hp)(Q:VK):Prop
 |mk (tw dv kt:Aw) (ys:Ai) (ws:A2) (kvs:A0) (cols:Str->Int) (pl:Nat) (kp:Ak) (o:Int) (lt:Ak):(vs=[.ref tw,.ref dv,.int (pl:Int),.ref kt])->(H tw=some (.tup ws))->(ws.length<=100)->(H dv=some (.dK kvs))->(Zd7 kvs ys cols)->(H kt=some (.tup (kp.map V.int)))->((∀w∈ws,yq ys w))->(Jd ws)->(XC ys cols pl kp ws=([o],lt))->(lt.length<=kp.length)->(∀t l H',H t=none->H' t=some (.tup [.int o,.ref l])->H' l=some (.lst (lt.map V.int))->Z8 H H'->Q (.ref t) H')->qw vs H Q
def Za8(K:Af):Sp:=fun vs H Q _=>qw vs H Q
theorem Za9:Y5 P w K mg base CX0 4 t.vl t.vr ["words","columns","place","kept"] (Za8 K):=by
 have L:=qr P base T TB;have I:=zZ P base T TB;have J:=k9 P base T TB;have D:=zT P base T TB;have G:=jc P base T TB;refine T.bc.F.ok Xm (fun vs H Q E h=>?_) (fun cdv A outer s H vs Q E hr h=>?_)
 ·obtain⟨_,_,_,_,_,_,_,_,_,_,_,rfl,_⟩:=h;rfl
 ·obtain⟨tw,dv,kt,ys,C,kvs,cols,pl,kp,o,lt,rfl,ht,hl,hd,hc,hk,hw,he,hst,hkl,k⟩:=h;have hu:=ZK hr;refine⟨_,@QSs.out _ _ _ (Zb (Zz 4 Xm.nd (ZM Zd))
    (Zb (Zz 5 Xm.nd (ZM Zd))
    (Zb (Xb Qbp rfl (Zct rfl T.sy (qv 0)) (Xq 6 Xm.nd)
    (Zb (Zz 7 Xm.nd (Zl T.ir G hr (Zi (qv 4) (Zi (qv 6) Zd))))
    (Ze (ZE (YQ (Zl T.bh L hr (Zi (qv 6) Zd)))
    (Zb (Zz 8 Xm.nd (JO xa (Z3 ZO (qv 3) (Zn Zr (by rfl) T.ae Ya (Zi (qv 5) Zd)))))
    (Zb (Yn (YD Qat Qa5 Qa6 ZF (qv 5) (Zi (Zl T.ny J hr (Zi (qv 6) (Zi (qv 7) (Zi (qv 8) Zd)))) Zd)))
    (Ze (Yn (YD Qat Qa5 Qa6 ZF (qv 4) (Zi (Zl T.iq I hr (Zi (qv 6) (Zi (qv 7) (Zi (qv 8) (Zi (Z3 Zy (qv 5) (JO xa Zf)) Zd))))) Zd)))))) (Ze (ZE (YQ (Zn X5 (by rfl) T.ak Yd (Zi (qv 6) (Zi (WN (v:=.ty "int") (by rfl) T.du jf rfl) Zd))))
    (Ze (Yn (YD Qat Qa5 Qa6 ZF (qv 4) (Zi (JO xa (Zp Xg (Zp gw (qv 6) (qv 2)) Zf)) Zd)))) (Ze (ZE (Zq (jm hu) (qv 6) (qv 1) (by with_unfolding_all rfl))
    (Ze (Yn (YD Qat Qa5 Qa6 ZF (qv 4) (Zi (xq hu (qv 1) (qv 6) (fun _ _=>rfl)) Zd)))) (Ze (Yn (YD Qat Qa5 Qa6 ZF (qv 4) (Zi (Zl T.ik D hr (Zi (qv 6) (Zi (qv 7) Zd))) Zd))))))))))))
    (Ze (Zo (Yb (Zi (Jy Qat Qcm Qcn JM (qv 4)) (Zi (qv 5) Zd)))))))),?_⟩
  try dsimp only[L2.cxK,L2.cxK2]
  refine L2.let4 ?_;intro U3 U2 U1;refine⟨Zbc,fun st M=>Zg ⟨Zbc,fun Y hla0=>Zg ?_⟩⟩;have s1:=Zc (o:=.lst []) M;have s2:=s1.trans (Zc (o:=.lst []) hla0);have hsl:st≠Y:=Zm (Za (H:=H) (a:=st) (o:=.lst [])) hla0;have hlaH:H Y=none:=s1.free hla0;refine⟨_,rfl,tw,_,rfl,SqT.of (s2 _ _ ht),Zcu (K:=K) (a:=tw) (xs:=C) (fun i σ H2=>∃u6 u7 u8,σ=[some (.ref tw),some (.ref dv),some (.int (pl:Int)),some (.ref kt),some (.ref st),some (.ref Y),u6,u7,u8]/\i<=C.length/\H2 st=some (.lst ((XC ys cols pl kp (C.drop (C.length-i))).1.map V.int).reverse)/\H2 Y=some (.lst ((XC ys cols pl kp (C.drop (C.length-i))).2.map V.int))/\Z8 H H2) ⟨none,none,none,rfl,Qbt _,?_,?_,s2⟩ (fun i σ H2 _ ⟨_,_,_,_,_,_,_,s⟩=>SqT.of (s _ _ ht)) ?_ ?_⟩
  ·rw[Qho,Qel,Zk hsl];exact Za
  ·rw[Qho,Qel];exact Za
  ·rintro i x σ H2 hx ⟨u6,u7,u8,rfl,hi0,h2s,h2l,s3⟩;obtain⟨hi,hx⟩:=Zji hx;have ed:C.drop (C.length-(i+1))=x::C.drop (C.length-i):=by
    rw[show C.length-(i+1)=C.length-1-i by lia,Qc2 (by lia),show C.length-1-i+1=C.length-i by lia];congr 1;exact(Qag.mp hx).2
   have hwx:=hw x (Qar hx);have hen:=xT C (C.length-(i+1)) he;have hmo:=vM ys cols pl kp C (C.length-(i+1));rw[hst]at hmo;rw[ed]at hen hmo ⊢;have hln:=yr (ys:=ys) (cols:=cols) (pl:=pl) (kp:=kp) (C.drop (C.length-i)) fun w h=>hw w (List.mem_of_mem_drop h);have hle2:=wt (C.drop (C.length-i));rw[Qbq]at hle2;have hmo2:=vL ys cols pl kp x (C.drop (C.length-i));have hlb:=ud ys cols pl kp (C.drop (C.length-i));rw[Qbq]at hlb;generalize C.drop (C.length-i)=r at *;have hn:=hen.1;have eC:∀z:V,XC ys cols pl kp (z::r)=match z with
    |.str y=>
     if y∈allR then(okI y ((XC ys cols pl kp r).1.take (npw z)) (-(kp.getD (XC ys cols pl kp r).2.length 0)) (ktI y ((XC ys cols pl kp r).1.take (npw z)) (-(kp.getD (XC ys cols pl kp r).2.length 0)))::(XC ys cols pl kp r).1.drop (npw z),(XC ys cols pl kp r).2++[ktI y ((XC ys cols pl kp r).1.take (npw z)) (-(kp.getD (XC ys cols pl kp r).2.length 0))])
     else if y∈ys then(cols y::(XC ys cols pl kp r).1.drop (npw z),(XC ys cols pl kp r).2)
     else(oaI y ((XC ys cols pl kp r).1.take (npw z))::(XC ys cols pl kp r).1.drop (npw z),(XC ys cols pl kp r).2)
    |.int z'=>(-(bt z' pl)::(XC ys cols pl kp r).1.drop (npw z),(XC ys cols pl kp r).2)
    |_=>XC ys cols pl kp r:=fun z=>by cases z<;>rfl
   have eX:=eC x;generalize XC ys cols pl kp r=P at *;obtain⟨q,l2⟩:=P;try dsimp only at *
   have hkx:x=kV (keyOf x)/\YM x=true:=by
    rcases hwx with⟨y,rfl,_⟩|⟨y,rfl,_⟩|⟨y,rfl,_⟩|⟨z,rfl,_⟩<;>exact⟨rfl,rfl⟩
   refine⟨_,rfl,_,rfl,st,q.map V.int,x,rfl,h2s,hkx.1,by rw[Qab];lia,by rw[Qab];lia,fun pp H3 Z hpp O o3=>Zg ?_⟩;rw[<-Qdm]at hpp;rw[<-Qdv]at O;have h3l:=o3 _ _ h2l hsl.symm;have s4:Z8 H H3:=fun b o e=>o3 b o (s3 b o e) (Zm e M);have hln3:(q.take (npw x)).length=npw x:=by rw[Qa2];lia
   have hps:pp≠st:=fun z=>by rw[z,h2s]at Z;cases Z
   have hpl2:pp≠Y:=fun z=>by rw[z,h2l]at Z;cases Z
   refine⟨_,rfl,x,rfl,hkx.2,_,rfl,?_⟩;have sml:((q.drop (npw x)).map V.int).reverse.length<sizeLine:=by
    rw[Qc7,Qab,Qbq];exact Z2 (by lia)
   have fin:∀(v:Int) (Hx:Hp),XC ys cols pl kp (x::r)=(v::q.drop (npw x),l2)->Z8 H3 Hx->upd Hx st (.lst (((q.drop (npw x)).map V.int).reverse++[.int v])) st=some (.lst ((XC ys cols pl kp (x::r)).1.map V.int).reverse)/\upd Hx st (.lst (((q.drop (npw x)).map V.int).reverse++[.int v])) Y=some (.lst ((XC ys cols pl kp (x::r)).2.map V.int))/\Z8 H (upd Hx st (.lst (((q.drop (npw x)).map V.int).reverse++[.int v]))):=fun v Hx e sx=>by
    rw[e];refine⟨by rw[Za,Qbx,Qcp],by rw[Zk hsl.symm];exact sx _ _ h3l,ZR (s4.trans sx) M⟩
   rcases hwx with⟨y,rfl,hy,hny,hn1,hn2⟩|⟨y,rfl,hy,hna,hny,hnp⟩|⟨y,rfl,hy,hna,hnp⟩|⟨z,rfl,hz,hnp⟩
   ·show if inV (.str y) (allR.map V.str)=true then _ else _
    rw[ZC,Qan hy];have eX:XC ys cols pl kp (.str y::r)=(okI y (q.take (npw (.str y))) (-(kp.getD l2.length 0)) (ktI y (q.take (npw (.str y))) (-(kp.getD l2.length 0)))::q.drop (npw (.str y)),l2++[ktI y (q.take (npw (.str y))) (-(kp.getD l2.length 0))]):=by
     rw[eX];exact Qa3 hy
    have hkk:l2.length<kp.length:=by
     rw[eX]at hmo;simp only[Qak,Qa9,Qeu]at hmo;lia
    refine Y2 ⟨_,rfl,_,rfl,Y,_,rfl,.inl (SqL.of h3l),kt,_,_,.int (kp.getD l2.length 0),rfl,rfl,SqT.of (s4 _ _ hk),?_,_,rfl,?_⟩
    ·rw[Qab];exact ZA _ rfl hkk
    try dsimp only
    generalize -(kp.getD l2.length 0)=hh at *;refine Zg ?_;refine⟨_,rfl,.inl ⟨rfl,_,SqL.of h3l⟩,_,rfl,_,rfl,_,rfl,y,pp,q.take (npw (.str y)),hh,rfl,hpp,by lia,hy,(fun h=>by have:=hn2 h;lia),fun H4 s5=>⟨Y,_,_,rfl,rfl,s5 _ _ h3l,?_,?_⟩⟩
    ·rw[Qab];exact Z2 (by lia)
    have h5s:upd H4 Y (.lst (l2.map V.int++[.int (ktI y (q.take (npw (.str y))) hh)])) st=some (.lst ((q.drop (npw (.str y))).map V.int).reverse):=by rw[Zk hsl];exact s5 _ _ O
    have h5p:upd H4 Y (.lst (l2.map V.int++[.int (ktI y (q.take (npw (.str y))) hh)])) pp=some (.lst ((q.take (npw (.str y))).map V.int)):=by rw[Zk hpl2];exact s5 _ _ hpp
    have h5l:upd H4 Y (.lst (l2.map V.int++[.int (ktI y (q.take (npw (.str y))) hh)])) Y=some (.lst (l2.map V.int++[.int (ktI y (q.take (npw (.str y))) hh)])):=Za;have s6:Z8 H (upd H4 Y (.lst (l2.map V.int++[.int (ktI y (q.take (npw (.str y))) hh)]))):=ZR (s4.trans s5) hlaH;generalize upd H4 Y (.lst (l2.map V.int++[.int (ktI y (q.take (npw (.str y))) hh)]))=H5 at *;refine⟨_,rfl,.inl ⟨rfl,_,SqL.of h5s⟩,_,rfl,_,rfl,_,rfl,_,rfl,1,rfl,Y,_,-1,.int (ktI y (q.take (npw (.str y))) hh),rfl,rfl,SqL.of h5l,Zf8 _ _,y,pp,q.take (npw (.str y)),hh,_,rfl,h5p,by lia,hy,(fun h=>by have:=hn2 h;lia),fun H6 s7=>⟨st,_,_,rfl,rfl,s7 _ _ h5s,sml,_,_,_,rfl,hi,?_,?_,ZR (s6.trans s7) M⟩⟩
    ·rw[Za,eX,Qbx,Qcp]
    ·rw[Zk hsl.symm,eX,Qaz];exact s7 _ _ h5l
   ·show if inV (.str y) (allR.map V.str)=true then _ else _
    rw[ZC,Qap hna];have eX:XC ys cols pl kp (.str y::r)=(oaI y (q.take (npw (.str y)))::q.drop (npw (.str y)),l2):=by
     rw[eX];show(if y∈allR then _ else if y∈ys then _ else _)=_;rw[Qay hna,Qay hny]
    refine ZD ⟨_,rfl,_,_,_,_,rfl,.str y,Xp,_,rfl,ZD ⟨_,rfl,_,rfl,dv,Yi kvs (.inr y),rfl,.inl ⟨kvs,.inr y,.inl (s4 _ _ hd),rfl,rfl⟩,_,rfl,?_⟩⟩;show if(Yi kvs (.inr y)).isSome=true then _ else _;rw[hc.2 y hny];refine ZD ⟨_,rfl,.inl ⟨rfl,_,SqL.of O⟩,_,rfl,_,rfl,y,pp,q.take (npw (.str y)),rfl,hpp,hy,by rw[hln3,hnp],fun H4 s5=>?_⟩;obtain⟨f1,f2,f3⟩:=fin _ H4 eX s5;exact⟨st,_,_,rfl,rfl,s5 _ _ O,sml,_,_,_,rfl,hi,f1,f2,f3⟩
   ·show if inV (.str y) (allR.map V.str)=true then _ else _
    rw[ZC,Qap hna];have eX:XC ys cols pl kp (.str y::r)=(cols y::q.drop (npw (.str y)),l2):=by
     rw[eX];show(if y∈allR then _ else if y∈ys then _ else _)=_;rw[Qay hna,Qa3 hy]
    refine ZD ⟨_,rfl,_,_,_,_,rfl,.str y,Xp,_,rfl,ZD ⟨_,rfl,_,rfl,dv,Yi kvs (.inr y),rfl,.inl ⟨kvs,.inr y,.inl (s4 _ _ hd),rfl,rfl⟩,_,rfl,?_⟩⟩;show if(Yi kvs (.inr y)).isSome=true then _ else _;rw[hc.1 y hy];obtain⟨f1,f2,f3⟩:=fin _ H3 eX (Z8.refl _);exact Y2 ⟨_,rfl,.inl ⟨rfl,_,SqL.of O⟩,_,rfl,_,rfl,dv,_,rfl,.inl ⟨kvs,.inr y,.inl (s4 _ _ hd),rfl,(hc.1 y hy).symm⟩,st,_,_,rfl,rfl,O,sml,_,_,_,rfl,hi,f1,f2,f3⟩
   ·show if inV (.int z) (allR.map V.str)=true then _ else _
    rw[wu];refine ZD ⟨_,rfl,_,_,_,_,rfl,.int z,JE,_,rfl,Y2 ⟨_,rfl,.inl ⟨rfl,_,SqL.of O⟩,_,rfl,_,rfl,_,_,rfl,rfl,Qde pl,_,_,rfl,rfl,_,rfl,?_⟩⟩;have ev:-(Builtin.bitAnd (z/2^(pl:Int).toNat) 1)=-(bt z pl):=by
     rw[and_1,Qbn];rfl
    try dsimp only
    rw[ev];obtain⟨f1,f2,f3⟩:=fin _ H3 eX (Z8.refl _);exact⟨st,_,_,rfl,rfl,O,sml,_,_,_,rfl,hi,f1,f2,f3⟩
  ·rintro σ H2 ⟨u6,u7,u8,rfl,hi0,h2s,h2l,s3⟩;rw[Qe0,Qen,hst]at h2s h2l;refine⟨_,rfl,.inl ⟨rfl,_,SqL.of h2s⟩,st,_,.int o,rfl,rfl,h2s,rfl,_,rfl,kE,fun tt htt=>?_⟩;have hlt:upd H2 st (.lst []) Y=some (.lst (lt.map V.int)):=by rw[Zk hsl.symm];exact h2l
   have s5:Z8 H (upd H2 st (.lst [])):=ZR s3 M;exact k tt Y _ (s5.free htt) Za (Zc htt _ _ hlt) (s5.trans (Zc htt))
inductive XM(P:Aq)(w:Au)(K:Af)(mg:Ae)(base:Heap)(vs:A2)(H:Hp)(Q:VK):Prop
 |mk (κ:Type) (dq:DecidableEq κ) (sk:SK κ) (pn f:Aw) (nm:Ai) (b:κ) (bv:V) (nx:κ->List κ) (ot:κ->List V) (U:List κ) (τ:Sp):(vs=[.ref pn,bv,.ref f])->(H pn=some (.tup (nm.map V.str)))->(sk.at_ H b bv)->(b∈U)->((∀s∈U,(nx s).length<=8/\(ot s).length<=8/\∀x∈nx s,x∈U))->(U.length<=1000000)->(nm.length<=3)->(YZ P w K mg base 12 f H τ)->((∀(s:κ) (sv:V) (H1:Hp) (Q':VK),s∈U->sk.at_ H1 s sv->Z8 H H1->(∀t r1 r2 ws H2,H2 t=some (.tup [.ref r1,.ref r2])->SqF H1 H2 r1 ws->StA sk H2 (nx s) ws->SqF H1 H2 r2 (ot s)->Z8 H1 H2->Q' (.ref t) H2)->τ [sv] H1 Q' E0))->(∀p sts m (l:List κ) ws H',BfE nx b l->H' p=some (.tup [.ref sts,.ref m])->H sts=none->H' sts=some (.lst ws)->StA sk H' l ws->M4 H' m nm 0 (rnG nx l) (l.map ot)->Z8 H H'->Q (.ref p) H')->XM P w K mg base vs H Q
def qG(P:Aq)(w:Au)(K:Af)(mg:Ae)(base:Heap):Sp:=fun vs H Q _=>XM P w K mg base vs H Q
theorem WE:Y5 P w K mg base CX0 13 t.cx t.cy ["names","begin","step_of"] (qG P w K mg base):=by
 have J:=zq P base T TB;refine T.ai.F.ok Yc (fun vs H Q E h=>?_) (fun cdv A outer s H vs Q E hr h=>?_)
 ·obtain⟨_,_,_,_,_,_,_,_,_,_,_,_,rfl,_⟩:=h;rfl
 ·obtain⟨κ,_,sk,pn,f,nm,b,bv,nx,ot,U,τ,rfl,hpn,hbv,hb,hU,h2,hn3,hc,hτ,k⟩:=h;have hu:=ZK hr;refine⟨_,@QSs.out _ _ _ (Zb (Zz 3 Yc.nd (ZM (Zi (qv 1) Zd)))
    (Zb (Zz 4 Yc.nd (QE.or (Zdp (v3 hr) (qv 1) Zf) (Zll (Zgt (qv 1) Zf Zlk) rfl rfl (fun z=>nomatch z) (by decide))))
    (Zb (Zz 5 Yc.nd (ZM Zd))
    (Zb (Zz 6 Yc.nd (ZM Zd))
    (Zb (Jp Qbp (Zq Zb1 (Zn Zr (by rfl) T.ae Ya (Zi (qv 5) Zd)) (Zn Zr (by rfl) T.ae Ya (Zi (qv 3) Zd)) (Zx _))
    (Zb (Zz 7 Yc.nd (Zgr (k:=12) 2 (hr.mono (by decide)) (Zi (Z3 Zy (qv 3) (Zn Zr (by rfl) T.ae Ya (Zi (qv 5) Zd))) Zd)))
    (Zb (Yn (YD Qat Qa5 Qa6 ZF (qv 5) (Zi (Z4 Z0 (by rfl) T.ah ZQ (Zi (Y3 ({}:ZP (Zh Xx) _ ["names","begin","step_of","states","numbers","steps","out","told"] "state" ["states","numbers"] [3,4]) (QI.or (Xr (Z3 ZO (qv 7) Zf)) (Xs (Z3 ZO (qv 7) Zf))) (fun _ _ _ _=>Xh) (fun _ _ _ _=>(Zl T.et J hr (Zi (qv 0) (Zi (qv 1) (Zi (qv 2) Zd)))))) Zd)) Zd)))
    (Ze (Yn (YD Qat Qa5 Qa6 ZF (qv 6) (Zi (Z4 Z0 (by rfl) T.ah ZQ (Zi (Z3 ZO (qv 7) Zf) Zd)) Zd)))))))
    (Ze (Zo (Yb (Zi (qv 3) (Zi (Yb (Zi (Z4 Z0 (by rfl) T.ah ZQ (Zi (qv 0) Zd)) (Zi Zf (Zi (Z4 Z0 (by rfl) T.ah ZQ (Zi (qv 5) Zd)) (Zi (Z4 Z0 (by rfl) T.ah ZQ (Zi (qv 6) Zd)) Zd))))) Zd)))))))))),?_⟩
  try dsimp only[L2.cxK,L2.cxK2]
  refine L2.let6 ?_;intro U5 U4 U3 U2 U1;have hr:∀s∈U,∀x∈nx s,x∈U:=fun s h=>(hU s h).2.2;refine⟨_,rfl,Znq,fun st hst=>?_⟩;have s1:=Zc (o:=.lst [bv]) hst;refine Zg ?_;have begun:∀(D:Aw) (H3:Hp),H D=none->H3 st=some (.lst [bv])->sk.dic H3 D [b]->sk.at_ H3 b bv->Z8 H H3->U2 {nx:=fun _ H'=>Q .non H',rt:=Q} [some (.ref pn),some bv,some (.ref f),some (.ref st),some (.ref D),none,none,none] H3:=by
   intro D H3 hndH hst3 hnd3 hbv3 s3;obtain⟨ond,hond,ndT,ndL⟩:=SK.ne hnd3;refine⟨Zbc,fun pp hpp=>Zg ⟨Zbc,fun I hpo=>Zg ?_⟩⟩;have sp:=Zc (o:=.lst []) hpp;have so:=sp.trans (Zc (o:=.lst []) hpo);have hppH:H pp=none:=s3.free hpp;have hpoH:H I=none:=s3.free (sp.free hpo);have pst:pp≠st:=(Zm hst3 hpp).symm;have pnd:pp≠D:=(Zm hond hpp).symm;have ppo:pp≠I:=Zm Za hpo;have ost:I≠st:=(Zm (sp _ _ hst3) hpo).symm;have oNd:I≠D:=(Zm (sp _ _ hond) hpo).symm;have rl:∀{H:Hp} {zs:A2} {i:Nat},Xl H zs (zG nx b i)->zs.length=i:=fun z=>by
    have:=z.1;unfold zG at this;rw[Qab,Qbb]at this;exact this
   have ol:∀{H:Hp} {zs:A2} {i:Nat},Xl H zs (yz nx ot b i)->zs.length=i:=fun z=>by
    have:=z.1;unfold yz at this;rw[Qab,Qbb]at this;exact this
   have L:∀{Ha Hb:Hp},Z8 Ha Hb->∀b xs,Ha b=some (.tup xs)->Hb b=some (.tup xs):=fun s b xs e=>s _ _ e;refine GS (fun σ H2=>∃(i:Nat) (u7:Option V) (zs os ws:A2),σ=[some (.ref pn),some bv,some (.ref f),some (.ref st),some (.ref D),some (.ref pp),some (.ref I),u7]/\H2 st=some (.lst ws)/\StA sk H2 (bfN nx b i) ws/\sk.dic H2 D (bfN nx b i)/\H2 pp=some (.lst zs)/\H2 I=some (.lst os)/\Xl H2 zs (zG nx b i)/\Xl H2 os (yz nx ot b i)/\(∀j,j<i->j<(bfN nx b j).length)/\i<=(bfN nx b i).length/\Z8 H H2) (fun _ H2=>match H2 pp with|some (.lst zs)=>U.length-zs.length|_=>0) ⟨0,none,[],[],[bv],rfl,so _ _ hst3,StA.one (SK.keep hbv3 (L so)),SK.stay hnd3 (fun o e=>so _ _ e) (L so),Zc hpo _ _ Za,Za,Xl.nil,Xl.nil,(fun j hj=>absurd hj (Qea _)),Qbt _,s3.trans so⟩ ?_;rintro σ H4 ⟨i,u7,zs,os,ws,rfl,Z,hA4,hnd4,O,hpo4,Rz,Ro,hgo,hil,s4⟩;have hzl:=rl Rz;have hol:=ol Ro;have hlen:=Zeh hb hr i;have hnod:=Gn (nx:=nx) (b:=b) i;have hinU:=Zeg hb hr i;refine⟨_,rfl,pp,_,rfl,.inl (SqL.of O),_,rfl,st,_,rfl,.inl (SqL.of Z),_,_,rfl,rfl,_,rfl,?_⟩;rw[hzl,hA4.1];refine z6 (fun hlt=>?_) (fun hlt=>?_)
   ·have hlt':i<(bfN nx b i).length:=by
     have:=Qbg hlt;lia
    obtain⟨C,hsi⟩:∃C,(bfN nx b i)[i]?=some C:=⟨_,Qac hlt'⟩;have hsU:C∈U:=hinU _ (Qar hsi);obtain⟨r8,o8,rU⟩:=hU C hsU;obtain⟨sv,hsv,hat⟩:=hA4.2 i C hsi;have eR:=Zaq (nx:=nx) (b:=b) hsi;have eO:=Zar (nx:=nx) (ot:=ot) (b:=b) hsi;have eS:=yy (nx:=nx) (b:=b) hsi;refine⟨fun σ' H'=>∃(u7:Option V) (zs' os' G:A2),σ'=[some (.ref pn),some bv,some (.ref f),some (.ref st),some (.ref D),some (.ref pp),some (.ref I),u7]/\H' st=some (.lst G)/\StA sk H' (bfN nx b (i+1)) G/\sk.dic H' D (bfN nx b (i+1))/\H' pp=some (.lst zs')/\H' I=some (.lst os')/\Xl H' zs' (zG nx b (i+1))/\Xl H' os' (yz nx ot b (i+1))/\Z8 H H',?_,?_⟩
    ·rintro σ' H' ⟨u8,zs',os',G,rfl,g1,gA,g2,g3,g4,g5,g6,s5⟩;have hpre:(bfN nx b i).length<=(bfN nx b (i+1)).length:=by
      obtain⟨r,e⟩:=Jt (nx C) (bfN nx b i);rw[eS,e,Qak];lia
     refine⟨U.length-(i+1),?_,?_,i+1,u8,zs',os',G,rfl,g1,gA,g2,g3,g4,g5,g6,fun j hj=>?_,by lia,s5⟩
     ·rw[O];show U.length-(i+1)<U.length-zs.length;lia
     ·rw[g3];show _=U.length-zs'.length;rw[rl g5]
     ·by_cases hji:j=i
      ·rw[hji];exact hlt'
      ·exact hgo j (by lia)
    ·refine⟨f,τ,rfl,hc.frz s4.frz,_,rfl,_,rfl,pp,_,rfl,.inl (SqL.of O),st,_,_,sv,rfl,rfl,SqL.of Z,by rw[hzl];exact YB hsv,GH.refl _,hτ C sv H4 _ hsU hat s4 fun tt r1 r2 ws0 H5 htt hr1 hA5 hr2 s5=>?_⟩;refine Zg ?_;generalize hl0:bfN nx b i=l0 at *;have hst5:=s5 _ _ Z;have hnd5:sk.dic H5 D l0:=SK.stay hnd4 (fun o e=>s5 _ _ e) (L s5);have hpp5:=s5 _ _ O;have hpo5:=s5 _ _ hpo4;obtain⟨ond4,hond4,nd4T,nd4L⟩:=SK.ne hnd4;have ndn:∀{r:Aw} {ys:A2},SqF H4 H5 r ys->r≠st/\r≠D/\r≠pp/\r≠I:=fun{r ys} z=>by
      have lst:∀{q:Aw} {o:HO},H4 q=some o->(∀xs,o≠.tup xs)->r≠q:=fun{q o} e ht e2=>by
       subst e2;rcases z with z|⟨_,z⟩
       ·rw[s5 _ _ e]at z;exact ht ys (Option.some.inj z)
       ·rw[e]at z;cases z
      exact⟨lst Z (fun _ z=>nomatch z),lst hond4 nd4T,lst O (fun _ z=>nomatch z),lst hpo4 fun _ z=>nomatch z⟩
     obtain⟨rst,rnd,_,_⟩:=ndn hr1;refine⟨_,rfl,.inl ⟨rfl,_,SqL.of hpp5⟩,?_⟩;have hr1':H5 r1=some (.tup ws0)\/H5 r1=some (.lst ws0):=hr1.imp id (fun z=>z.1);have w8:ws0.length<=8:=by rw[hA5.1];exact r8
     refine Zhh (a:=r1) (xs:=ws0) (fun R hR=>⟨_,rfl,tt,_,0,_,rfl,rfl,SqT.of htt,rfl,hR⟩) hr1' (fun j zs H'=>zs=((nx C).take j).map (fun x=>WI ((bfN nx b (i+1)).idxOf x))/\(∃G,H' st=some (.lst G)/\StA sk H' (((nx C).take j).foldl Y4 l0) G)/\sk.dic H' D (((nx C).take j).foldl Y4 l0)/\(∀b o,H5 b=some o->b≠st->b≠D->H' b=some o)/\∀b,H5 b=none->H' b=none) ⟨rfl,⟨ws,hst5,hA4.keep (L s5)⟩,hnd5,(fun _ _ e _ _=>e),fun _ e=>e⟩ ?_ ?_ ?_ ?_
     ·rintro j zs H6 ⟨rfl,_⟩;rw[Qab,Qa2];exact Qav (Z2 (by lia))
     ·rintro j zs H6 ⟨_,_,_,g3,_⟩ o e;exact g3 _ _ e rst rnd
     ·rintro j x zs H6 R hR hx ⟨rfl,⟨G,g1,gA⟩,g2,g3,g4⟩;have hj:j<(nx C).length:=by rw[<-hA5.1];exact(Qag.mp hx).1
      obtain⟨s',hs'⟩:∃s',(nx C)[j]?=some s':=⟨_,Qac hj⟩;have tp6:∀b xs,H5 b=some (.tup xs)->H6 b=some (.tup xs):=fun b xs e=>g3 _ _ e (Xn e hst5 (fun z=>nomatch z)) (fun z=>by rw[z,s5 _ _ hond4]at e;exact nd4T xs (Option.some.inj e));obtain⟨v',hv',hat'⟩:=hA5.2 j s' hs';rw[hx]at hv';cases hv';have hat6:=SK.keep hat' tp6;have e1:((nx C).take (j+1)).foldl Y4 l0=Y4 (((nx C).take j).foldl Y4 l0) s':=by
       rw[take_snoc hs',Qc8];rfl
      have e2:(bfN nx b (i+1)).idxOf s'=(Y4 (((nx C).take j).foldl Y4 l0) s').idxOf s':=by
       have e3:(nx C).foldl Y4 l0=((nx C).drop (j+1)).foldl Y4 (((nx C).take (j+1)).foldl Y4 l0):=by rw[<-Qc8,Qc9]
       obtain⟨r,e4⟩:=Jt ((nx C).drop (j+1)) (((nx C).take (j+1)).foldl Y4 l0);rw[eS,e3,e4,e1,GJ (X9.mpr (.inr rfl))]
      have hnj:(((nx C).take j).foldl Y4 l0).Nodup:=xW _ _ hnod;have hlj:(((nx C).take j).foldl Y4 l0).length<10000000:=by
       have:=Zef ((nx C).take j) l0;rw[Qa2]at this;lia
      have ew:((nx C).take (j+1)).map (fun x=>WI ((bfN nx b (i+1)).idxOf x))=((nx C).take j).map (fun x=>WI ((bfN nx b (i+1)).idxOf x))++[WI ((bfN nx b (i+1)).idxOf s')]:=by
       rw[take_snoc hs',Qaz];rfl
      rw[ew,e1]at hR;rw[e2]at hR;generalize ((nx C).take j).foldl Y4 l0=l' at *;refine Znm ⟨_,rfl,_,rfl,_,rfl,κ,_,sk,x,st,D,s',l',G,rfl,g1,gA.1,g2,hat6,hnj,hlj,fun H7 ws7 q1 q0 q2 q3 q4=>hR _ _ ⟨rfl,⟨ws7,q1,?_⟩,q2,(fun b o e h1 h2=>q3 _ _ (g3 b o e h1 h2) h1 h2),fun b e=>q4 _ (g4 b e)⟩⟩;have tp7:∀b xs,H6 b=some (.tup xs)->H7 b=some (.tup xs):=fun b xs e=>q3 _ _ e (Xn e g1 (fun z=>nomatch z)) fun z=>by
       obtain⟨o,e7,h7,_⟩:=SK.ne g2;rw[z,e7]at e;exact h7 xs (Option.some.inj e)
      rcases q0 with⟨hm,rfl⟩|⟨hm,rfl⟩
      ·rw[show Y4 l' s'=l' from Qa3 hm];exact gA.keep tp7
      ·rw[show Y4 l' s'=l'++[s']from Qay hm];exact(gA.keep tp7).snoc (SK.keep hat6 tp7)
     ·rintro zs1 H6 ⟨rfl,⟨G,g1,gA⟩,g2,g3,g4⟩ l hl;rw[hA5.1,Qb7]at g2 gA ⊢;rw[<-eS]at g2 gA;have tp6:∀{c:Aw} {ys:A2},H5 c=some (.tup ys)->H6 c=some (.tup ys):=fun{c ys} e=>g3 _ _ e (Xn e hst5 (fun z=>nomatch z)) (fun z=>by rw[z,s5 _ _ hond4]at e;exact nd4T ys (Option.some.inj e));have hpp6:=g3 _ _ hpp5 pst pnd;have hpo6:=g3 _ _ hpo5 ost oNd;have htt6:=tp6 htt;have M:H6 r2=some (.tup (ot C))\/H6 r2=some (.lst (ot C)):=by
       obtain⟨z1,z2,_⟩:=ndn hr2;rcases hr2 with z|⟨z,_⟩
       ·exact .inl (g3 _ _ z z1 z2)
       ·exact .inr (g3 _ _ z z1 z2)
      have ndr2:=ndn hr2;refine⟨l,_,rfl,.inl ⟨SqL.of Za,fun q hq=>?_⟩⟩;have sl:=Zc (o:=.lst ((nx C).map fun x=>WI ((bfN nx b (i+1)).idxOf x))) hl;have sq:=sl.trans (Zc (o:=.tup ((nx C).map fun x=>WI ((bfN nx b (i+1)).idxOf x))) hq);have hqp:q≠pp:=(Zm (sl _ _ hpp6) hq).symm;have hqo:q≠I:=(Zm (sl _ _ hpo6) hq).symm;refine⟨pp,_,_,rfl,rfl,sq _ _ hpp6,Yu (by lia),?_⟩;have k8:∀c o,H6 c=some o->c≠pp->upd (upd (upd H6 l (.lst ((nx C).map fun x=>WI ((bfN nx b (i+1)).idxOf x)))) q (.tup ((nx C).map fun x=>WI ((bfN nx b (i+1)).idxOf x)))) pp (.lst (zs++[.ref q])) c=some o:=fun c o e hc=>by
       rw[Zk hc];exact sq _ _ e
      have hq8:upd (upd (upd H6 l (.lst ((nx C).map fun x=>WI ((bfN nx b (i+1)).idxOf x)))) q (.tup ((nx C).map fun x=>WI ((bfN nx b (i+1)).idxOf x)))) pp (.lst (zs++[.ref q])) q=some (.tup ((nx C).map fun x=>WI ((bfN nx b (i+1)).idxOf x))):=by
       rw[Zk hqp];exact Za
      have hp8:=Za (H:=upd (upd H6 l (.lst ((nx C).map fun x=>WI ((bfN nx b (i+1)).idxOf x)))) q (.tup ((nx C).map fun x=>WI ((bfN nx b (i+1)).idxOf x)))) (a:=pp) (o:=.lst (zs++[.ref q]));have d8:sk.dic (upd (upd (upd H6 l (.lst ((nx C).map fun x=>WI ((bfN nx b (i+1)).idxOf x)))) q (.tup ((nx C).map fun x=>WI ((bfN nx b (i+1)).idxOf x)))) pp (.lst (zs++[.ref q]))) D (bfN nx b (i+1)):=SK.off (SK.stay g2 (fun o e=>sq _ _ e) (L sq)) (sq _ _ hpp6);generalize upd (upd (upd H6 l (.lst ((nx C).map fun x=>WI ((bfN nx b (i+1)).idxOf x)))) q (.tup ((nx C).map fun x=>WI ((bfN nx b (i+1)).idxOf x)))) pp (.lst (zs++[.ref q]))=H8 at *;have tp8:∀{c:Aw} {ys:A2},H6 c=some (.tup ys)->H8 c=some (.tup ys):=fun{c ys} e=>k8 _ _ e (Xn e hpp6 (fun z=>nomatch z));have hpo8:=k8 _ _ hpo6 ppo.symm;have last:∀(Y:Aw) (H9:Hp),H9 Y=some (.tup (ot C))->Z8 H8 H9->H9 I=some (.lst os)/\(upd H9 I (.lst (os++[.ref Y])) st=some (.lst G)/\StA sk (upd H9 I (.lst (os++[.ref Y]))) (bfN nx b (i+1)) G/\sk.dic (upd H9 I (.lst (os++[.ref Y]))) D (bfN nx b (i+1))/\upd H9 I (.lst (os++[.ref Y])) pp=some (.lst (zs++[.ref q]))/\upd H9 I (.lst (os++[.ref Y])) I=some (.lst (os++[.ref Y]))/\Xl (upd H9 I (.lst (os++[.ref Y]))) (zs++[.ref q]) (zG nx b (i+1))/\Xl (upd H9 I (.lst (os++[.ref Y]))) (os++[.ref Y]) (yz nx ot b (i+1))/\Z8 H (upd H9 I (.lst (os++[.ref Y])))):=by
       intro Y H9 ha9 s9;have hpo9:=s9 _ _ hpo8;have tp9:∀{c:Aw} {ys:A2},H9 c=some (.tup ys)->upd H9 I (.lst (os++[.ref Y])) c=some (.tup ys):=fun{c ys} e=>by rw[Zk (Xn e hpo9 (fun z=>nomatch z))];exact e
       have tp59:∀b xs,H5 b=some (.tup xs)->upd H9 I (.lst (os++[.ref Y])) b=some (.tup xs):=fun b xs e=>tp9 (s9 _ _ (tp8 (tp6 e)));refine⟨hpo9,?_,gA.keep (fun b xs e=>tp9 (s9 _ _ (tp8 e))),SK.off (SK.stay d8 (fun o e=>s9 _ _ e) (L s9)) hpo9,?_,Za,?_,?_,fun c o' e=>?_⟩
       ·rw[Zk ost.symm];exact s9 _ _ (k8 _ _ g1 pst.symm)
       ·rw[Zk ppo];exact s9 _ _ hp8
       ·rw[eR];exact(jF (fun b xs e=>tp59 b xs (s5 _ _ e)) Rz).snoc (tp9 (s9 _ _ hq8))
       ·rw[eO];exact(jF (fun b xs e=>tp59 b xs (s5 _ _ e)) Ro).snoc (tp9 ha9)
       ·have cp:c≠pp:=Zm e hppH;have co:c≠I:=Zm e hpoH;rw[Zk co];exact s9 _ _ (k8 _ _ (g3 _ _ (s5 _ _ (s4 _ _ e)) (Zm e hst) (Zm e hndH)) cp)
      refine⟨_,rfl,.inl ⟨rfl,_,SqL.of hpo8⟩,_,rfl,tt,_,1,_,rfl,rfl,SqT.of (tp8 htt6),rfl,r2,ot C,rfl,?_⟩;rcases M with M|M
      ·obtain⟨l1,l2⟩:=last r2 H8 (tp8 M) (Z8.refl _);exact .inr ⟨SqT.of (tp8 M),I,_,_,rfl,rfl,l1,Yu (by lia),_,zs++[.ref q],os++[.ref r2],G,rfl,l2⟩
      ·refine .inl ⟨SqL.of (k8 _ _ M ndr2.2.2.1),fun Y ha9=>?_⟩;obtain⟨l1,l2⟩:=last Y (upd H8 Y (.tup (ot C))) Za (Zc ha9);exact⟨I,_,_,rfl,rfl,l1,Yu (by lia),_,zs++[.ref q],os++[.ref Y],G,rfl,l2⟩
   ·have hle:(bfN nx b i).length=i:=by
     have:¬(i:Int)<((bfN nx b i).length:Int):=fun z=>hlt (Qan z);lia
    refine⟨_,rfl,_,rfl,pn,_,rfl,.inr ⟨SqT.of (s4 _ _ hpn),_,rfl,pp,_,rfl,.inl ⟨SqL.of O,fun a1 ha1=>⟨_,rfl,I,_,rfl,.inl ⟨SqL.of (Zc ha1 _ _ hpo4),fun a2 ha2=>⟨zln4,fun m hm=>⟨kE,fun p hp=>?_⟩⟩⟩⟩⟩⟩⟩;have q1:=Zc (o:=.tup zs) ha1;have q2:=Zc (o:=.tup os) ha2;have q3:=Zc (o:=.tup [.ref pn,.int 0,.ref a1,.ref a2]) hm;have q4:=Zc (o:=.tup [.ref st,.ref m]) hp;have qq:=q1.trans (q2.trans (q3.trans q4));refine k p st m (bfN nx b i) ws _ ⟨by rw[hle],fun j hj=>hgo j (by lia)⟩ Za hst (qq _ _ Z) (hA4.keep (L qq)) ⟨⟨pn,a1,a2,q4 _ _ Za,qq _ _ (s4 _ _ hpn),⟨zs,(q2.trans (q3.trans q4)) _ _ Za,?_,fun j r hj=>?_⟩,⟨os,(q3.trans q4) _ _ Za,?_,fun j r hj=>?_⟩⟩⟩ (s4.trans qq)
    ·rw[hzl,Qab,xY,hle]
    ·rw[<-Zei hle hgo]at hj;obtain⟨a,g1,g2⟩:=Rz.2 j r hj;exact⟨a,g1,qq _ _ g2⟩
    ·rw[hol,Qab,hle]
    ·rw[<-Zej hle hgo]at hj;obtain⟨a,g1,g2⟩:=Ro.2 j r hj;exact⟨a,g1,qq _ _ g2⟩
  have fin:∀(D:Aw) (H3:Hp),H D=none->D≠st->(∃o,H3=upd (upd H st (.lst [bv])) D o)->sk.dic H3 D [b]->U2 {nx:=fun _ H'=>Q .non H',rt:=Q} [some (.ref pn),some bv,some (.ref f),some (.ref st),some (.ref D),none,none,none] H3:=by
   intro D H3 hndH hne ho hd3;obtain⟨o,rfl⟩:=ho;have hnd1:upd H st (.lst [bv]) D=none:=by rw[Zk hne];exact hndH
   have s3:=s1.trans (Zc (o:=o) hnd1);exact begun D _ hndH (by rw[Zk hne.symm];exact Za) hd3 (SK.keep hbv fun b xs e=>s3 _ _ e) s3
  cases sk with
  |int f9 inj=>
   have hbv:bv=.int (f9 b):=hbv;subst hbv;refine .inr fun D hnd=>?_;have snd:st≠D:=Zm Za hnd;refine⟨_,rfl,Za,[(.inl (f9 b),.int 0)],rfl,by show 1<=15;decide,Zg ?_⟩;have em:jj [] [((.inl (f9 b):Key),V.int 0)]=nk ([b].map f9):=rfl;rw[em,kH];exact fin D _ (s1.free hnd) snd.symm ⟨_,rfl⟩ Za
  |key kn=>
   obtain⟨a,rfl,ha⟩:=id hbv;refine .inl fun D hnd=>?_;have snd:st≠D:=Zm Za hnd;have sn2:=s1.trans (Zc (o:=.dK []) hnd);refine⟨_,rfl,κ,_,kn,a,b,rfl,Za,kn.keep _ _ _ _ (fun b xs e=>sn2 _ _ e) ha,fun H' n' _ ho=>Zg ?_⟩;obtain⟨o,rfl⟩:=ho;rw[kH]at n' ⊢;exact fin D _ (s1.free hnd) snd.symm ⟨_,rfl⟩ n'
inductive jK(pw:Aw)(vs:A2)(H:Hp)(Q:VK):Prop
 |mk (m:Aw) (nm:Ai) (b:Nat) (nx:Ad) (ot:Az) (tr:Bool):(vs=[.ref m])->(M4 H m nm b nx ot)->(Wf nm b nx ot tr)->(Yo H pw Yr Ys)->(∀f (l cs:Aj) H',jE nx b l->cs=Zfx (rnR nx l) (Zex (rnQ ot l)) l.length->Zfy (rnR nx l) cs->Zaz (Zex (rnQ ot l)) cs->M4 H' f nm 0 (lsR (rnR nx l) cs) (lsO (rnQ ot l) cs)->Yo H' pw Yr Ys->Zno pw H H'->Q (.ref f) H')->jK pw vs H Q
def Zh8(K:Af)(q:Aw):Sp:=fun vs H Q _=>jK q vs H Q
theorem Zh9:Y5 P w K mg base CX0 14 t.aah t.oi ["machine"] (Zh8 K t.ao):=by
 have I:=Gw P base T TB;have J:=ku P base T TB;have G:=qF P base T TB;have D:=WE P base T TB;refine T.aak.F.okC XF (fun vs H Q E h=>?_) (fun A outer s H vs Q E hr h=>?_)
 ·obtain⟨_,_,_,_,_,_,rfl,_⟩:=h;rfl
 ·obtain⟨m,nm,b,nx,ot,tr,rfl,M,W,B,k⟩:=h;have hu:=ZK hr;refine⟨_,@QSs.out _ _ _ (Zb (Zz 1 XF.nd (Z3 ZO (Zdk (kl:=11) D (hr.mono (by decide)) rfl T.ai.m T.ai.F.kp T.ai.b rfl (Z3 ZO (qv 0) Zf) (Z3 ZO (qv 0) Zf) T.aat TB.oj TB.B rfl rfl rfl rfl (⟨⟨by rfl,by rfl,by rfl,by decide +kernel,by decide +kernel,by decide +kernel,by decide +kernel⟩,by decide +kernel,by decide +kernel,by rfl⟩:Zok (Zh xH) _ ["machine","found","steps","out","classes","firsts","least_steps","least_out"] ["state"] ["machine"] [0]) (fun _ _ _ _ us hl=>match us,hl with|[_],_=>rfl) (fun _ _ _ _ _ _ _ hrl=>(Yb (Zi (Z3 (show IxR _ (uS K)from ZO) (Z3 (show IxR _ (uS K)from ZO) (qv 1) Zf) (qv 0)) (Zi (Z3 (show IxR _ (uS K)from ZO) (Z3 (show IxR _ (uS K)from ZO) (qv 1) Zf) (qv 0)) Zd))))) Zf))
    (Zb (Zz 2 XF.nd (Z3 ZO (qv 1) Zf))
    (Zb (Zz 3 XF.nd (Z3 ZO (qv 1) Zf))
    (Zb (Zz 4 XF.nd (Zl T.dm G hr (Zi (qv 2) (Zi (qv 3) Zd))))
    (Zb (Zz 5 XF.nd (Zl T.nu J hr (Zi (qv 4) Zd)))
    (Zb (jS (i:=6) XF.nd rfl rfl ({}:ZP (Zh xH) _ ["machine","found","steps","out","classes","firsts","least_steps","least_out"] "state" ["classes","steps"] [4,2]) (Xr (qv 5)) (fun _ _ _ _=>Xh) (fun _ _ _ _=>(Zl T.ba I hr (Zi (Z3 (show IxR _ (uS K)from ZO) (qv 2) (qv 0)) (Zi (qv 1) Zd)))))
    (Zb (jS (i:=7) XF.nd rfl rfl ({}:ZP (Zh xH) _ ["machine","found","steps","out","classes","firsts","least_steps","least_out"] "state" ["out"] [3]) (Xr (qv 5)) (fun _ _ _ _=>Xh) (fun _ _ _ _=>(Z3 (show IxR _ (uS K)from ZO) (qv 1) (qv 0))))
    (Ze (Zo (Yb (Zi (Z3 ZO (qv 1) Zf) (Zi Zf (Zi (Z4 Z0 (by rfl) T.ah ZQ (Zi (qv 6) Zd)) (Zi (Z4 Z0 (by rfl) T.ah ZQ (Zi (qv 7) Zd)) Zd)))))))))))))),?_⟩
  try dsimp only[L2.cxK,L2.cxK2]
  refine L2.let8 ?_;intro U7 U6 U5 U4 U3 U2 U1;obtain⟨pn,ps,po,hm,hn,R,O⟩:=M.ex;obtain⟨pz,hpz⟩:=B.ex;have tP:∀{b:Aw} {xs:A2},H b=some (.tup xs)->b≠t.ao:=fun e=>Xn e hpz (fun z=>nomatch z);refine⟨_,rfl,m,_,0,_,rfl,rfl,SqT.of hm,rfl,_,rfl,m,_,1,_,rfl,rfl,SqT.of hm,rfl,B,fun cs f H2 hcs hfz hf hT2 o2 hc=>?_⟩;have t2:∀(b:Aw) (xs:A2),H b=some (.tup xs)->H2 b=some (.tup xs):=fun b xs e=>o2 _ _ e (tP e);have hL8:=p8 W.n3;refine⟨Nat,inferInstance,.int (fun s:Nat=>(s:Int)) (fun a b e=>Int.ofNat.inj e),pn,f,nm,b,.int (b:Int),(fun s=>nx.getD s []),(fun s=>ot.getD s []),List.range nx.length,_,rfl,t2 _ _ hn,rfl,Qbu.mpr W.b,(fun s hs=>⟨by rw[W.row (Qbu.mp hs)];exact hL8,by rw[W.or _ (getD_mem (show s<ot.length by rw[W.ol];exact Qbu.mp hs))];exact hL8,fun x hx=>Qbu.mpr (W.nl _ (getD_mem (Qbu.mp hs)) x hx)⟩),by rw[Qbb];exact W.le,W.n3,hc,fun s sv H1 Q' hs hat sH hQ=>⟨rfl,?_⟩,fun p sts fm l wsl H3 B3 hp hsts0 hsts hA M3 s3=>?_⟩
  ·have hs:=Qbu.mp hs;have hat:sv=.int (s:Int):=hat;subst hat;have th:∀(b:Aw) (xs:A2),H b=some (.tup xs)->hide cs H1 b=some (.tup xs):=fun b xs e=>Ga hfz sH (sH _ _ (t2 _ _ e)) (fun o z=>nomatch z);obtain⟨pn',ps',po',hm',_,R',O'⟩:=(M.tups th).ex;obtain⟨as1,a1,g1,g2,g3⟩:=yu R' (i:=s) (by rw[Qab];exact hs);obtain⟨as2,a2,f1,f2,f3⟩:=yu O' (i:=s) (by rw[W.ol];exact hs);rw[vO]at g3;refine⟨_,rfl,m,_,2,_,rfl,rfl,SqT.of hm',rfl,_,rfl,ps',_,_,_,rfl,rfl,SqT.of g1,g2,_,rfl,m,_,3,_,rfl,rfl,SqT.of hm',rfl,_,rfl,po',_,_,_,rfl,rfl,SqT.of f1,f2,kE,fun q hq hcn=>?_⟩;obtain⟨sq,hq2⟩:=Zmv hq hcn;exact hQ q a1 a2 _ _ hq2 (.inl (sq _ _ (of_hide g3).2)) ⟨by unfold xU;rw[Qab],fun i k hk=>⟨WI k,by unfold xU;rw[Qah,hk];rfl,rfl⟩⟩ (.inl (sq _ _ (of_hide f3).2)) sq
  have B3:=Zmy B3;have M3:M4 H3 fm nm 0 (rnR nx l) (rnQ ot l):=M3;have t3:∀(b:Aw) (xs:A2),H3 b=some (.tup xs)->hide cs H3 b=some (.tup xs):=fun b xs e=>Ga hfz s3 e (fun o z=>nomatch z);have T3:=hT2 H3 s3;have off3:Zno t.ao H (hide cs H3):=fun b o e hb=>by
   rw[Z9 (fun m=>by rw[hcs b m]at e;cases e)];exact s3 _ _ (o2 _ _ e hb)
  have M3':M4 (hide cs H3) fm nm 0 (rnR nx l) (rnQ ot l):=M3.tups t3;have hp':=t3 _ _ hp;try dsimp only
  generalize hide cs H3=H4 at *;have W1:=Zo3 W B3;have hl1:=JJ nx l;have hle:=W1.le;have hb1:=W1.b;have C1:=y8 B3;obtain⟨pn4,ps4,po4,hm4,hn4,R4,O4⟩:=M3'.ex;refine⟨p,_,1,_,rfl,rfl,SqT.of hp',rfl,Zg ?_⟩;refine⟨_,rfl,fm,_,2,_,rfl,rfl,SqT.of hm4,rfl,_,rfl,fm,_,3,_,rfl,rfl,SqT.of hm4,rfl,_,rfl,_,rfl,ps4,po4,rnR nx l,rnQ ot l,Zex (rnQ ot l),rfl,R4,O4,Zmx W1,W1.ol,(fun row h=>⟨by rw[W1.nr row h];exact hL8,W1.nl row h⟩),hb1,by lia,fun pc C H5 hpc0 hpc hcl hst hnn hcls hcn s5=>?_⟩;have S:Zfy (rnR nx l) C:=⟨hcl,hst⟩;have F:=qX hnn;have hfl:=kf C;rw[hl1]at hcn hle;have hcl':C.length=l.length:=by rw[hcl,hl1]
  refine⟨_,rfl,pc,C.map fun c:Nat=>(c:Int),rfl,by rw[hpc,Qax];rfl,by rw[Qab];lia,fun pf H6 hpf0 Z s6=>?_⟩;have Z:H6 pf=some (.lst ((YN C).map WI)):=Z;have s56:=s5.trans s6;have fR:∀{i f:Nat},(YN C)[i]?=some f->f<(rnR nx l).length:=fun{i f} h=>by
   rw[<-hcl];exact(Qag.mp (F.at_ _ _ h).1).1
  have fl:(YN C).length<=1000000:=by lia
  refine Zg ⟨_,rfl,pf,rfl,⟨_,SqL.of Z⟩,Xt (K:=K) (a:=pf) (xs:=(YN C).map WI) (fun i zs H'=>Xl H' zs (((lsR (rnR nx l) C).map xU).take i)/\i<=(YN C).length/\Z8 H6 H') ⟨Xl.nil,Qbt _,Z8.refl _⟩ (fun i zs H' h=>?_) (fun i zs H' h=>SqL.of (h.2.2 _ _ Z)) (fun i x zs H7 R7 hR hx h=>?_) (fun zs H7 h p1 hp1=>?_)⟩
  ·rw[h.1.1,Qa2];exact Qav (Yu (by lia))
  ·obtain⟨hZ,hi,s7⟩:=h;rw[Qah]at hx;obtain⟨f1,Y,rfl⟩:=Qa4.mp hx;have hil:=(Qag.mp Y).1;have L:=fR Y;have s47:=s56.trans s7;obtain⟨as1,a1,g1,g2,g3⟩:=yu (R4.same s47) (i:=f1) (by rw[Qab];exact L);rw[vO]at g3;have r8:=W1.nr _ (getD_mem L);refine Znm ⟨_,rfl,_,rfl,ps4,_,_,_,rfl,rfl,SqT.of g1,g2,_,rfl,a1,pc,(rnR nx l).getD f1 [],C.map fun c:Nat=>(c:Int),rfl,g3,?_,(fun s hs=>?_),by lia,by rw[Qab];lia,fun q H8 hq0 hq s8=>hR _ _ ⟨?_,hil,s7.trans s8⟩⟩
   ·rw[(s6.trans s7) _ _ hpc,Qax];rfl
   ·rw[Qab,hcl];exact W1.nl _ (getD_mem L) s hs
   ·have e1:((lsR (rnR nx l) C).map xU)[i]?=some (xU (((rnR nx l).getD f1 []).map fun x=>C.getD x 0)):=by
     unfold lsR;rw[Qah,Qah,Y];rfl
    have e2:(((rnR nx l).getD f1 []).map fun s=>(C.map fun c:Nat=>(c:Int)).getD s 0).map V.int=xU (((rnR nx l).getD f1 []).map fun x=>C.getD x 0):=by
     unfold xU;rw[Qax,Qax];refine Qbm fun s _=>?_;exact congrArg V.int (Zey C s)
    rw[e2]at hq;rw[take_snoc e1];exact(hZ.same s8).snoc hq
  obtain⟨hZ,_,s7⟩:=h;have ll:((YN C).map WI).length=((lsR (rnR nx l) C).map xU).length:=by
   unfold lsR;rw[Qab,Qab,Qab]
  rw[ll,Qb7]at hZ;have u1:=Zc (o:=.lst zs) hp1;have hp1':upd H7 p1 (.lst zs) p1=some (.lst zs):=Za;have hZ1:=hZ.same u1;have s67:=s7.trans u1;try dsimp only
  generalize upd H7 p1 (.lst zs)=H8 at *;have hpf8:=s67 _ _ Z;refine Zg ⟨_,rfl,pf,rfl,⟨_,SqL.of hpf8⟩,Xt (K:=K) (a:=pf) (xs:=(YN C).map WI) (fun i zs H'=>Xl H' zs ((lsO (rnQ ot l) C).take i)/\i<=(YN C).length/\Z8 H8 H') ⟨Xl.nil,Qbt _,Z8.refl _⟩ (fun i zs H' h=>?_) (fun i zs H' h=>SqL.of (h.2.2 _ _ hpf8)) (fun i x zs H9 R9 hR hx h=>?_) (fun zs2 H9 h p2 hp2=>?_)⟩
  ·rw[h.1.1,Qa2];exact Qav (Yu (by lia))
  ·obtain⟨hZ,hi,s9⟩:=h;rw[Qah]at hx;obtain⟨f1,Y,rfl⟩:=Qa4.mp hx;have hil:=(Qag.mp Y).1;have L:=fR Y;obtain⟨as1,a1,g1,g2,g3⟩:=yu (O4.same ((s56.trans s67).trans s9)) (i:=f1) (by rw[W1.ol];exact L);refine Znm ⟨_,rfl,_,rfl,po4,_,_,_,rfl,rfl,SqT.of g1,g2,hR _ _ ⟨?_,hil,s9⟩⟩;have e1:(lsO (rnQ ot l) C)[i]?=some ((rnQ ot l).getD f1 []):=by
    unfold lsO;rw[Qah,Y];rfl
   rw[take_snoc e1];exact hZ.snoc g3
  obtain⟨hO,_,s9⟩:=h;have ll2:((YN C).map WI).length=(lsO (rnQ ot l) C).length:=by
   unfold lsO;rw[Qab,Qab]
  rw[ll2,Qb7]at hO;have u2:=Zc (o:=.lst zs2) hp2;have s4z:=(s56.trans s67).trans (s9.trans u2);have hm9:=s4z _ _ hm4;refine Zg ⟨_,rfl,fm,_,0,_,rfl,rfl,SqT.of hm9,rfl,_,rfl,p1,_,rfl,.inl ⟨SqL.of ((s9.trans u2) _ _ hp1'),fun a1 ha1=>⟨_,rfl,p2,_,rfl,.inl ⟨SqL.of (Zc ha1 _ _ Za),fun a2 ha2=>⟨zln4,fun fr L=>?_⟩⟩⟩⟩⟩;have q1:=Zc (o:=.tup zs) ha1;have q2:=Zc (o:=.tup zs2) ha2;have q3:=Zc (o:=.tup [.ref pn4,.int 0,.ref a1,.ref a2]) L;have q:=(q1.trans q2).trans q3;have s4q:=s4z.trans q;refine k fr l C _ B3 hcn S hcls ⟨⟨pn4,a1,a2,Za,s4q _ _ hn4,⟨zs,(q2.trans q3) _ _ Za,(hZ1.same ((s9.trans u2).trans q)).1,(hZ1.same ((s9.trans u2).trans q)).2⟩,⟨zs2,q3 _ _ Za,(hO.same (u2.trans q)).1,(hO.same (u2.trans q)).2⟩⟩⟩ (T3.same s4q) (fun b o e hb=>s4q _ _ (off3 b o e hb))
inductive Xi(w:Au)(pw:Aw)(vs:A2)(H:Hp)(Q:VK):Prop
 |mk (tw tn tt:Aw) (ws:A2) (nm:Ai) (o0 o1:V) (B kc:Nat):(vs=[.ref tw,.ref tn,.ref tt])->(H tw=some (.tup ws))->(ws.length<=100)->(H tn=some (.tup (nm.map V.str)))->(nm.Nodup)->(nm.length<=3)->(H tt=some (.tup [o0,o1]))->((∀w∈ws,yq nm w))->(Jd ws)->(uc ws=1)->((∀z:Int,V.int z∈ws->0<=z/\z<2^B))->(kc=Y7 ws)->((B+1)*2^kc<=1000000)->(Yo H pw Zt Zs)->(∀m (l:List (Int×Ak)) H',BfE (nxT nm (Y8 (2^nm.length) nm) ws (lgB ws)) (0,List.replicate kc 0) l->M4 H' m nm 0 (rnG (nxT nm (Y8 (2^nm.length) nm) ws (lgB ws)) l) (l.map (otT nm (Y8 (2^nm.length) nm) ws o0 o1))->Yo H' pw Zt Zs->Zno pw H H'->Q (.ref m) H')->Xi w pw vs H Q
def G6(P:Aq)(w:Au)(K:Af)(mg:Ae)(base:Heap)(q:Aw):Sp:=fun vs H Q _=>Xi w q vs H Q
theorem G7:Y5 P w K mg base CX0 14 t.bf t.aw ["words","names","told"] (G6 P w K mg base t.aa):=by
 have G:=WE P base T TB;have G_bits_at:=Za5 P base T TB;have G_stepped:=Za9 P base T TB;have O:=qr P base T TB;have D:=GZ P base T TB;have J:=zx P base T TB;have Z:=wM P base T TB;refine T.bg.F.okC ZN (fun vs H Q E h=>?_) (fun A outer s H vs Q E hr h=>?_)
 ·obtain⟨_,_,_,_,_,_,_,_,_,rfl,_⟩:=h;rfl
 ·obtain⟨tw,tn,tt,C,nm,o0,o1,B,Y,rfl,ht,hl,hn,hnd,hn3,hto,hw,he,hst,hB,hkc,hbig,hT,k⟩:=h;have hu:=ZK hr;refine⟨_,@QSs.out _ _ _ (Zb (Zz 3 ZN.nd (Z4 (wj rfl) (by rfl) T.aal Zcm (Zi (Z4 wg (by rfl) T.au Zgb (Zi (Zl T.rr Z hr (Zi (Zn Zr (by rfl) T.ae Ya (Zi (qv 1) Zd)) Zd)) Zd)) Zd)))
    (Zb (Zz 4 ZN.nd (Zl T.eu J hr (Zi (qv 1) (Zi (qv 3) Zd))))
    (Zb (Zz 5 ZN.nd (Zl T.bx D hr (Zi (qv 0) Zd)))
    (Zb (qs_def (i:=6) (name:= "step_of") (params:=WM YH) (body:=Xo YH) (scope:=Zh YH) (lpos:=Zt) (qual:=Zs) ZN.nd rfl (Or.inl rfl) T.aac TB.ax TB.B rfl rfl rfl rfl (S0:=Zh ZX) rfl (by decide +kernel))
    (Zb (Zz 7 ZN.nd (Yb (Zi Zf (Zi (Z4 Z0 (by rfl) T.ah ZQ (Zi (Y3 ({}:ZP (Zh ZX) _ ["words","names","told","letters","columns","last_place","step_of","begin"] "word" [] []) (Xs (qv 0)) (fun _ _ _ _=>(ve (YQ (Zl T.bh O hr (Zi (qv 0) Zd))))) (fun _ _ _ _=>Zf)) Zd)) Zd))))
    (Ze (Zo (Z3 ZO (Zg2 (kl:=11) (i:=6) (name:= "step_of") (params:=WM YH) (body:=Xo YH) (scope:=Zh YH) (qual:=Zs) G (hr.mono (by decide)) rfl T.ai.m T.ai.F.kp T.ai.b rfl (Zi (qv 1) (Zi (qv 7) (Zi (qv 6) Zd))) rfl rfl (⟨Jx,by decide +kernel,by decide +kernel,by rfl⟩:Zop (Zh ZX) _ ["words","names","told","letters","columns","last_place","step_of","begin"] ["state"] ["step","place","reached"] ["words","columns","last_place","letters","told"] [0,4,5,3,2]) (fun _ _ _ _ _ us hl=>match us,hl with|[_],_=>rfl) (fun _ _ _ _ _ _ _ hrl=>(Zb (Zz 1 Jx.nd (jR G_stepped (hrl.mono (by decide)) rfl T.bc.m T.bc.F.kp T.bc.b .nil Zkr (Zi (qv 4) (Zi (qv 5) (Zi (Z3 (show IxR _ (uS K)from ZO) (qv 0) Zf) (Zi (Z3 (show IxR _ (uS K)from ZO) (qv 0) Zf) Zd))))))
    (Zb (Zz 2 Jx.nd (Zn (yS rfl) (by rfl) T.aao Zi3 (Zi (Zp YA (Z3 (show IxR _ (uS K)from ZO) (qv 0) Zf) Zf) (Zi (qv 6) Zd))))
    (Zb (jS (i:=3) Jx.nd rfl rfl ({}:ZP (Zh YH) _ ["state","step","place","reached","words","columns","last_place","letters","told"] "letter" ["place","step"] [2,1]) (show QI _ _ _ (Zbs K (yP 7))from Xr (qv 7)) (fun _ _ _ _=>Xh) (fun _ _ _ _=>(Yb (Zi (qv 1) (Zi (jR G_bits_at (hrl.mono (by decide)) rfl T.bb.m T.bb.F.kp T.bb.b .nil Zkr (Zi (Z3 (show IxR _ (uS K)from ZO) (qv 2) Zf) (Zi (qv 0) Zd))) Zd)))))
    (Ze (Zo (Yb (Zi (qv 3) (Zi (Y3 ({}:ZP (Zh YH) _ ["state","step","place","reached","words","columns","last_place","letters","told"] "letter" ["told","step"] [8,1]) (show QI _ _ _ (Zbs K (yP 7))from Xr (qv 7)) (fun _ _ _ _=>Xh) (fun _ _ _ _=>(Z3 (show IxR _ (uS K)from ZO) (qv 1) (Zp Xg (Zp gw (Z3 (show IxR _ (uS K)from ZO) (qv 2) Zf) (qv 0)) Zf)))) Zd)))))))))) Zf)))))))),?_⟩
  try dsimp only[L2.cxK,L2.cxK2]
  refine L2.let6 ?_;intro U5 U4 U3 U2 U1;have h8:=p8 hn3;have e2:((2:Int)^nm.length)=((2^nm.length:Nat):Int):=by rw[Int.natCast_pow];rfl
  have hflat:∀w∈C,YM w=true/\((∃y,w=.str y)\/∃z:Int,w=.int z):=fun w h=>by
   rcases hw w h with⟨y,rfl,_⟩|⟨y,rfl,_⟩|⟨y,rfl,_⟩|⟨z,rfl,_⟩
   ·exact⟨rfl,.inl ⟨y,rfl⟩⟩
   ·exact⟨rfl,.inl ⟨y,rfl⟩⟩
   ·exact⟨rfl,.inl ⟨y,rfl⟩⟩
   ·exact⟨rfl,.inr ⟨z,rfl⟩⟩
  refine⟨_,rfl,tn,_,rfl,.inr (SqT.of hn),nm.length,by rw[Qab];rfl,by lia,_,rfl,fun pr hpr=>⟨pr,2^nm.length,rfl,by rw[Za,e2],by lia,fun tl htl=>Zg ?_⟩⟩;have s1:=Zc (o:=.rng 0 ((2:Int)^nm.length)) hpr;have s2:=s1.trans (Zc (o:=.lst ((List.range (2^nm.length)).map fun i:Nat=>V.int (i:Int))) htl);have htl2:=Za (H:=upd H pr (.rng 0 ((2:Int)^nm.length))) (a:=tl) (o:=.lst ((List.range (2^nm.length)).map fun i:Nat=>V.int (i:Int)));have htlH:H tl=none:=s1.free htl;try dsimp only
  generalize upd (upd H pr (.rng 0 ((2:Int)^nm.length))) tl (.lst ((List.range (2^nm.length)).map fun i:Nat=>V.int (i:Int)))=H2 at *;refine⟨_,rfl,_,rfl,tn,tl,nm,2^nm.length,rfl,s2 _ _ hn,hnd,by lia,htl2,by lia,fun dv kvs H3 hdv0 hdv hcol s3=>Zg ?_⟩;have s23:=s2.trans s3;generalize Y8 (2^nm.length) nm=cols at *;refine⟨_,rfl,tw,C,rfl,s23 _ _ ht,by lia,fun w h=>(hflat w h).2,fun L H4 hL1 hL2 s4=>Zg ?_⟩;rw[<-Zjq hL1 hL2]at k;have s24:=s23.trans s4;have hLB:L<=B:=by
   rw[Zjq hL1 hL2];exact uk hB
  have hdv4:=s4 _ _ hdv;have htl4:=(s3.trans s4) _ _ htl2;refine⟨hT.same s24,fun f c' oc ctv doc H5 hf0 hf hc' hoc hT5 o5=>?_⟩;obtain⟨pz,hpz⟩:=(hT.same s24).ex;have o5':∀{b:Aw} {o:HO},H4 b=some o->(∀ps,o≠.tbl ps)->H5 b=some o:=fun{b o} e h=>o5 b o e fun z=>by
   rw[z,hpz]at e;exact h _ (Option.some.inj e).symm
  have t5:∀{b:Aw} {xs:A2},H b=some (.tup xs)->H5 b=some (.tup xs):=fun e=>o5' (s24 _ _ e) (fun _ z=>nomatch z);have hdv5:=o5' hdv4 (fun _ z=>nomatch z);have htl5:=o5' htl4 (fun _ z=>nomatch z);refine⟨_,rfl,tw,rfl,⟨_,SqT.of (t5 ht)⟩,X7 (K:=K) (a:=tw) (xs:=C) (fun i zs H'=>zs=List.replicate (Y7 (C.take i)) (.int 0)/\H'=H5) ⟨rfl,rfl⟩ (fun i zs H' h=>?_) (fun i zs H' h=>by rw[h.2];exact SqT.of (t5 ht)) (fun i x zs H6 R hR hx h=>?_) (fun zs H6 h pl hpl=>?_)⟩
  ·rw[h.1,Qa1];have:Y7 (C.take i)<=(C.take i).length:=Qe2 _ _;rw[Qa2]at this;exact Qav (Z2 (by lia))
  ·obtain⟨rfl,rfl⟩:=h;refine⟨_,rfl,x,rfl,(hflat x (Qar hx)).1,_,rfl,?_⟩;have er:Y7 (C.take (i+1))=Y7 (C.take i)+if inV x (allR.map V.str)=true then 1 else 0:=by
    rw[take_snoc hx];unfold Y7;rw[Qd2,Qak,Qc5];split<;>rfl
   rw[er]at hR;refine z6 (fun hb=>?_) (fun hb=>?_)
   ·rw[Qa3 hb,Qfa]at hR;exact hR _ _ ⟨rfl,rfl⟩
   ·rw[Qay hb]at hR;exact hR _ _ ⟨rfl,rfl⟩
  obtain⟨rfl,rfl⟩:=h;rw[Qb7,<-hkc];refine⟨pl,_,rfl,.inl ⟨SqL.of Za,fun tb htb=>⟨kE,fun tg htg=>Zg ?_⟩⟩⟩;have q1:=Zc (o:=.lst (List.replicate Y (.int 0))) hpl;have q2:=Zc (o:=.tup (List.replicate Y (.int 0))) htb;have q3:=Zc (o:=.tup [.int 0,.ref tb]) htg;have s6:=q1.trans (q2.trans q3);have htb6:=q3 _ _ (Za (H:=upd H6 pl (.lst (List.replicate Y (.int 0)))) (a:=tb) (o:=.tup (List.replicate Y (.int 0))));have htg6:=Za (H:=upd (upd H6 pl (.lst (List.replicate Y (.int 0)))) tb (.tup (List.replicate Y (.int 0)))) (a:=tg) (o:=.tup [.int 0,.ref tb]);try dsimp only
  generalize upd (upd (upd H6 pl (.lst (List.replicate Y (.int 0)))) tb (.tup (List.replicate Y (.int 0)))) tg (.tup [.int 0,.ref tb])=H7 at *;refine⟨_,rfl,_,rfl,_,rfl,f,c',oc,ctv,doc,rfl,s6 _ _ hf,s6 _ _ hc',hoc,fun cs H8 hcs0 hcsF o8 hcall=>?_⟩;have hU:∀s∈uni Y (L+1),(nxT nm cols C L s).length<=8/\(otT nm cols C o0 o1 s).length<=8/\∀x∈nxT nm cols C L s,x∈uni Y (L+1):=fun s hs=>⟨by unfold nxT;rw[Qab,Qbb];exact h8,by unfold otT;rw[Qab,Qbb];exact h8,qV hw hkc hs⟩;have t8:∀{b:Aw} {xs:A2},H b=some (.tup xs)->H8 b=some (.tup xs):=fun e=>o8 _ _ (s6 _ _ (t5 e));have hUl:(uni Y (L+1)).length<=1000000:=by
   rw[y1];exact Qbc (Qe9 _ (by lia)) hbig
  refine⟨Int×Ak,_,.key knQ,tn,f,nm,(0,List.replicate Y 0),.ref tg,nxT nm cols C L,otT nm cols C o0 o1,uni Y (L+1),_,rfl,t8 hn,⟨tg,rfl,tb,o8 _ _ htg6,by rw[o8 _ _ htb6,List.map_replicate]⟩,XS.mpr ⟨0,by lia,rfl,YK.mpr ⟨Qa1,fun x hx=>.inl (Qec hx)⟩⟩,hU,hUl,hn3,hcall,fun s sv H9 Q' hs hat s9 hQ=>⟨rfl,?_⟩,fun p sts m l wsl H9 B9 hp hsts0 hsts hA M9 s9=>?_⟩
  ·obtain⟨a,rfl,tk,ha,htk⟩:=hat;have hk9:∀{b:Aw} {u:HO},H9 b=some u->(∀o,u≠X4 o)->hide cs H9 b=some u:=fun e h=>Ga hcsF s9 e h;have t9:∀{b:Aw} {xs:A2},H9 b=some (.tup xs)->hide cs H9 b=some (.tup xs):=fun e=>hk9 e (fun _ z=>nomatch z);obtain⟨pn,hp1,hp2,hp3⟩:=XS.mp hs;obtain⟨sp,ks⟩:=s;have hp2:sp=(pn:Int):=hp2;subst hp2;obtain⟨hkl,hkb⟩:=YK.mp hp3;have hkl:ks.length=Y:=hkl;have ha':=t9 ha;have htk':=t9 htk;have hln:(XC nm cols pn ks C).1.length=1:=by rw[yr C hw,hst]
   have hrm:(XC nm cols pn ks C).2.length=Y:=by rw[y3 C hw,hkc]
   obtain⟨o,lt,hstp⟩:∃o lt,XC nm cols pn ks C=([o],lt):=by
    generalize XC nm cols pn ks C=q at hln;obtain⟨q1,q2⟩:=q
    match q1,hln with
    |[o],_=>exact⟨o,q2,rfl⟩
   have hltl:lt.length=Y:=by rw[hstp]at hrm;exact hrm
   have hsS:Znn nm cols C ((pn:Int),ks)=([o],lt):=hstp;refine⟨_,rfl,_,rfl,_,rfl,a,_,0,_,rfl,rfl,SqT.of ha',rfl,_,rfl,a,_,1,_,rfl,rfl,SqT.of ha',rfl,tw,dv,tk,nm,C,kvs,cols,pn,ks,o,lt,rfl,t9 (s9 _ _ (t8 ht)),hl,hk9 (s9 _ _ (o8 _ _ (s6 _ _ hdv5))) (fun _ z=>nomatch z),hcol,htk',hw,he,hstp,by rw[hltl];show Y<=ks.length;lia,fun ta la H10 hta0 hta hla s10=>Zg ?_⟩;refine⟨_,rfl,a,_,0,_,rfl,rfl,SqT.of (s10 _ _ ha'),rfl,_,_,rfl,rfl,_,rfl,_,_,rfl,Zg ?_⟩;have em:(if(L:Int)<(pn:Int)+1 then(L:Int)else(pn:Int)+1)=min ((pn:Int)+1) (L:Int):=by split<;>lia
   try dsimp only
   rw[em];have M:H10 tl=some (.lst ((List.range (2^nm.length)).map fun i:Nat=>V.int (i:Int))):=s10 _ _ (hk9 (s9 _ _ (o8 _ _ (s6 _ _ htl5))) (fun _ z=>nomatch z));have hxs:((List.range (2^nm.length)).map fun i:Nat=>V.int (i:Int)).length=2^nm.length:=by rw[Qab,Qbb]
   have hnx:nxT nm cols C L ((pn:Int),ks)=(List.range (2^nm.length)).map fun l=>(min ((pn:Int)+1) (L:Int),lt.map fun c=>bt c l):=by
    unfold nxT;rw[hsS]
   have hot:otT nm cols C o0 o1 ((pn:Int),ks)=(List.range (2^nm.length)).map fun l=>if bt o l=1 then o1 else o0:=by
    unfold otT;rw[hsS];rfl
   refine⟨_,rfl,tl,rfl,⟨_,SqL.of M⟩,Xt (K:=K) (a:=tl) (xs:=(List.range (2^nm.length)).map fun i:Nat=>V.int (i:Int)) (fun i zs H'=>StA (.key knQ) H' ((nxT nm cols C L ((pn:Int),ks)).take i) zs/\i<=2^nm.length/\Z8 H10 H') ⟨⟨rfl,fun i k hk=>by cases hk⟩,Qbt _,Z8.refl _⟩ (fun i zs H' h=>?_) (fun i zs H' h=>SqL.of (h.2.2 _ _ M)) (fun i x zs H11 R hR hx h=>?_) (fun zs H11 h rl hrl=>Zg ?_)⟩
   ·rw[h.1.1,Qa2];exact Qav (Z2 (by lia))
   ·obtain⟨hA,hi,s11⟩:=h;have hil:i<2^nm.length:=by rw[<-hxs];exact(Qag.mp hx).1
    rw[qT hil]at hx;cases hx;refine Znm ⟨_,rfl,_,rfl,ta,_,1,_,rfl,rfl,SqT.of (s11 _ _ hta),rfl,_,rfl,la,lt,i,rfl,s11 _ _ hla,?_,by lia,fun t5 H12 ht50 ht5 s12=>⟨kE,fun q hq=>hR _ _ ⟨?_,hil,s11.trans (s12.trans (Zc hq))⟩⟩⟩
    ·have:Y7 C<=C.length:=Qe2 _ _;lia
    ·have en:(nxT nm cols C L ((pn:Int),ks))[i]?=some (min ((pn:Int)+1) (L:Int),lt.map fun c=>bt c i):=by rw[hnx,qT hil]
     rw[take_snoc en];refine(hA.keep (H':=upd H12 q (.tup [.int (min ((pn:Int)+1) (L:Int)),.ref t5])) fun b xs e=>Zc hq _ _ (s12 _ _ e)).snoc ⟨q,rfl,t5,Za,Zc hq _ _ ht5⟩
   obtain⟨hA,_,s11⟩:=h;rw[hxs,Qcz (by rw[hnx,Qab,Qbb];exact Qaj _)]at hA;have s12:=Zc (o:=.lst zs) hrl;have hrl12:=Za (H:=H11) (a:=rl) (o:=.lst zs);try dsimp only
   generalize upd H11 rl (.lst zs)=H12 at *;have I:=s11.trans s12;have htt12:H12 tt=some (.tup [o0,o1]):=I _ _ (s10 _ _ (t9 (s9 _ _ (t8 hto))));refine⟨_,rfl,_,rfl,tl,rfl,⟨_,SqL.of (I _ _ M)⟩,comp_map (xs:=(List.range (2^nm.length)).map fun i:Nat=>V.int (i:Int)) (fI fun c=>if bt o c.toNat=1 then o1 else o0) (SqL.of (I _ _ M)) (by rw[hxs];exact Qav (Z2 (by lia))) (fun v hv R hR=>?_) (fun q hq=>?_)⟩
   ·obtain⟨l,_,rfl⟩:=Qau.mp hv;refine⟨_,rfl,_,rfl,ta,_,0,_,rfl,rfl,SqT.of (I _ _ hta),rfl,_,rfl,_,_,rfl,rfl,Qde l,_,_,rfl,rfl,tt,_,_,fI (fun c=>if bt o c.toNat=1 then o1 else o0) (V.int (l:Int)),rfl,rfl,SqT.of htt12,?_,hR⟩;rw[and_1,Qbn];show atI [o0,o1] (bt o l)=some (if bt o (l:Int).toNat=1 then o1 else o0);rw[Qbn];rcases YJ o l with e|e<;>rw[e]<;>rfl
   ·refine⟨kE,fun t0 ht0 hcn=>?_⟩;have ef:((List.range (2^nm.length)).map fun i:Nat=>V.int (i:Int)).map (fI fun c=>if bt o c.toNat=1 then o1 else o0)=otT nm cols C o0 o1 ((pn:Int),ks):=by
     rw[hot,Qax];refine Qbm fun l _=>?_;show(if bt o (l:Int).toNat=1 then o1 else o0)=_;rw[Qbn]
    rw[ef]at ht0 hcn ⊢;have s13:=Zc (o:=.lst (otT nm cols C o0 o1 ((pn:Int),ks))) hq;have s14:=s13.trans (Zc (o:=.tup [.ref rl,.ref q]) ht0);have hsame:=s10.trans (I.trans s14);obtain⟨u1,u2,u3⟩:=Zas hsame hcn;have hrl14:=s14 _ _ hrl12;have hq14:=Zc (o:=.tup [.ref rl,.ref q]) ht0 _ _ (Za (H:=H12) (a:=q) (o:=.lst (otT nm cols C o0 o1 ((pn:Int),ks))));exact hQ t0 rl q zs _ (u2 _ _ Za) (.inr ⟨u2 _ _ hrl14,u3 _ _ hrl14 (s10.free (s11.free hrl))⟩) (hA.keep fun b xs e=>u2 _ _ ((s12.trans s14) _ _ e)) (.inr ⟨u2 _ _ hq14,u3 _ _ hq14 (s10.free (I.free hq))⟩) u1
  ·have keep9:Z8 H7 (hide cs H9):=fun b o e=>by
    rw[Z9 fun m=>by rw[hcs0 b m]at e;cases e];exact s9 _ _ (o8 _ _ e)
   have tk9:∀(b:Aw) (xs:A2),H9 b=some (.tup xs)->hide cs H9 b=some (.tup xs):=fun b xs e=>Ga hcsF s9 e (fun _ z=>nomatch z);refine⟨p,_,1,_,rfl,rfl,SqT.of (tk9 _ _ hp),rfl,k m l (hide cs H9) B9 ?_ ((hT5.same s6).same keep9) fun b o e hb=>keep9 _ _ (s6 _ _ (o5 _ _ (s24 _ _ e) hb))⟩;obtain⟨pn,ps,po,h1,h2,h3,h4⟩:=M9.ex;exact⟨⟨pn,ps,po,tk9 _ _ h1,tk9 _ _ h2,jG h3 tk9,jG h4 tk9⟩⟩
inductive XN(w:Au)(pw:Aw)(vs:A2)(H:Hp)(Q:VK):Prop
 |mk (tw tn:Aw) (ws:A2) (nm:Ai) (B kc:Nat):(vs=[.ref tw,.ref tn])->(H tw=some (.tup ws))->(ws.length<=100)->(H tn=some (.tup (nm.map V.str)))->(nm.Nodup)->(nm.length<=3)->((∀w∈ws,yq nm w))->(Jd ws)->(uc ws=1)->((∀z:Int,V.int z∈ws->0<=z/\z<2^B))->(kc=Y7 ws)->((B+1)*2^kc<=1000000)->(Yo H pw Zt Zs)->(∀m (l:List (Int×Ak)) H',BfE (nxT nm (Y8 (2^nm.length) nm) ws (lgB ws)) (0,List.replicate kc 0) l->M4 H' m nm 0 (rnG (nxT nm (Y8 (2^nm.length) nm) ws (lgB ws)) l) (l.map (otT nm (Y8 (2^nm.length) nm) ws (.bl false) (.bl true)))->Yo H' pw Zt Zs->Zno pw H H'->Q (.ref m) H')->XN w pw vs H Q
def qH(P:Aq)(w:Au)(K:Af)(mg:Ae)(base:Heap)(q:Aw):Sp:=fun vs H Q _=>XN w q vs H Q
theorem qI:Y5 P w K mg base CX0 15 t.cz t.da ["claim","names"] (qH P w K mg base t.aa):=by
 have q:=G7 P base T TB;refine T.dn.F.ok q9 (fun vs H Q E h=>?_) (fun cdv A outer s H vs Q E O h=>?_)
 ·obtain⟨_,_,_,_,_,_,rfl,_⟩:=h;rfl
 ·obtain⟨tw,tn,ws,nm,B,kc,rfl,ht,hl,Z,J,I,hw,he,M,hB,L,C,Y,k⟩:=h;have hu:=ZK O;refine⟨_,@QSs.out _ _ _ (Ze (Zo (Zl T.bg q O (Zi (qv 0) (Zi (qv 1) (Zi (Yb (Zi YC (Zi YC Zd))) Zd)))))),?_⟩;refine⟨_,rfl,_,rfl,by decide,fun tt G=>?_⟩;have D:=Zc (o:=.tup [.bl false,.bl true]) G;exact⟨tw,tn,tt,ws,nm,(.bl false),(.bl true),B,kc,rfl,D _ _ ht,hl,D _ _ Z,J,I,Za,hw,he,M,hB,L,C,Y.same D,fun m l H' h1 h2 h3 h4=>k m l H' h1 h2 h3 fun b o e hb=>h4 _ _ (D _ _ e) hb⟩
inductive X2(w:Au)(pw pl:Aw)(vs:A2)(H:Hp)(Q:VK):Prop
 |mk (t:Aw) (ws:A2):(vs=[.ref t])->(H t=some (.tup ws))->((∀w∈ws,jB w))->(ws.length<=60)->((∀ms,NmC ws ms->WJ ms ws))->(Yo H pw Zt Zs)->(Yo H pl Yr Ys)->(∀f ms nx ot H',NmC ws ms->M4 H' f ms 0 nx ot->Wf ms 0 nx ot true->Tells ws ms nx ot->Few nx (2^ms.length) (2^Y7 ws)->Yo H' pw Zt Zs->Yo H' pl Yr Ys->Zph pw pl H H'->Q (.ref f) H')->X2 w pw pl vs H Q
def qc(P:Aq)(w:Au)(K:Af)(mg:Ae)(base:Heap)(q pl:Aw):Sp:=fun vs H Q _=>X2 w q pl vs H Q
theorem qd:Y5 P w K mg base CX0 16 t.bu t.bw ["claim"] (qc P w K mg base t.aa t.ao):=by
 have D:=Zh9 P base T TB;have q:=qI P base T TB;have C:=gp P base T TB;refine T.cb.F.ok GX (fun vs H Q E h=>?_) (fun cdv A outer s H vs Q E Y h=>?_)
 ·obtain⟨_,_,rfl,_⟩:=h;rfl
 ·obtain⟨tw,ws,rfl,ht,hw,hl,hC,TW,TL,k⟩:=h;have hu:=ZK Y;refine⟨_,@QSs.out _ _ _ (Ze (Zo (Zl T.aak D Y (Zi (Zl T.dn q Y (Zi (qv 0) (Zi (Zl T.sr C Y (Zi (qv 0) Zd)) Zd))) Zd)))),?_⟩;have O:=T.me;refine⟨_,rfl,_,rfl,tw,ws,rfl,ht,hw,hl,fun tn H1 G hn0 hn I hp hs=>?_⟩;have S:=hC G ⟨hp,hs⟩;have f:=S.ty.facts;refine⟨tw,tn,ws,G,10,_,rfl,I _ _ ht,S.ln,hn,S.nd,S.n3,S.wc,f.2.1,f.2.2,S.iz,rfl,S.big,TW.same I,fun m l H2 B M TW2 o2=>?_⟩;have MC:Zpg G ws l H2 m:=⟨B,M⟩;have W1:=MC.wf S;obtain⟨pz,hz⟩:=(TW.same I).ex;have J:=(TL.same I).other O ⟨pz,hz⟩ o2;refine⟨m,G,0,_,_,true,rfl,M,W1,J,fun g lf cs H3 hB Z St hcl Mg TL3 o3=>?_⟩;have L:Lst G 0 _ _ true lf cs:=⟨W1,hB,Z,St,hcl⟩;have TW3:=TW2.other O.symm J.ex o3;refine k g G _ _ H3 ⟨hp,hs⟩ Mg L.W2 (fun W ls hW hl hx=>?_) (few_of S B L) TW3 TL3 fun b o e h1 h2=>o3 _ _ (o2 _ _ (I _ _ e) h1) h2;obtain⟨b,e1,e2⟩:=Zev (ls:=ls) (W:=W) S MC hW (by lia) hx;rw[Qcz (by lia)]at e1;exact⟨b,e1,by rw[<-Zez L.al.bis L.W.nr L.W2.nr L.al.b hx];exact e2⟩
inductive WG(w:Au)(pw pl:Aw)(vs:A2)(H:Hp)(Q:VK):Prop
 |mk (t:Aw) (ws:A2) (wb:Bool):(vs=[.ref t,.bl wb])->(H t=some (.tup ws))->((∀w∈ws,jB w))->(ws.length<=60)->((∀ms,NmC ws ms->WJ ms ws))->(Y7 ws<=4)->(Yo H pw Zt Zs)->(Yo H pl Yr Ys)->(∀p q1 q2 ms tl rg H',NmC ws ms->ZS (Tw ws ms wb) tl rg->H' p=some (.tup [.ref q1,.ref q2])->H' q1=some (.tup (tl.map V.bl))->H' q2=some (.tup (rg.map V.bl))->tl.length<=100000->rg.length<=100000->Yo H' pw Zt Zs->Yo H' pl Yr Ys->Zph pw pl H H'->Q (.ref p) H')->WG w pw pl vs H Q
def jd(P:Aq)(w:Au)(K:Af)(mg:Ae)(base:Heap)(q pl:Aw):Sp:=fun vs H Q _=>WG w q pl vs H Q
theorem JB:Y5 P w K mg base CX0 17 t.ic t.ie ["claim","wanted"] (jd P w K mg base t.aa t.ao):=by
 have L:=gh P base T TB;have J:=wU P base T TB;have C:=qd P base T TB;refine T.az.F.ok ZW (fun vs H Q E h=>?_) (fun cdv A outer s H vs Q E hr h=>?_)
 ·obtain⟨_,_,_,rfl,_⟩:=h;rfl
 ·obtain⟨tw,G,wb,rfl,ht,hw,hl,hC,hrm,TW,TL,k⟩:=h;have hu:=ZK hr;refine⟨_,@QSs.out _ _ _ (Zb (Zz 2 ZW.nd (Zl T.cb C hr (Zi (qv 0) Zd)))
    (Zb (Zz 3 ZW.nd (Z3 ZO (qv 2) Zf))
    (Zb (Zz 4 ZW.nd (Y3 ({}:ZP (Zh Xk) _ ["claim","wanted","machine","steps","telling","states","places","truths"] "row" ["wanted"] [1]) (Xs (Z3 ZO (qv 2) Zf)) (fun _ _ _ _=>Xh) (fun _ _ _ _=>(Yk (show OpR _ (compareOp .In) (rIn K false)from ZZ) (qv 1) (qv 0) (by with_unfolding_all rfl)))))
    (Zb (Zz 5 ZW.nd (Yb (Zi (Z3 ZO (qv 2) Zf) Zd)))
    (Zb (Zz 6 ZW.nd Zgx)
    (Zb (Zz 7 ZW.nd (ZM Zd))
    (Zb (Jp Qbp (Zq (JU hu) (qv 5) (qv 6) (by with_unfolding_all rfl))
    (Zb (GC hu (qv 6) (qv 5) (Zn Zr (by rfl) T.ae Ya (Zi (qv 7) Zd)) rfl)
    (Zb (Yn (YD Qat Qa5 Qa6 ZF (qv 7) (Zi (Zn (Zdr rfl) (by rfl) T.aay bt_any (Zi (Y3 ({}:ZP (Zh Xk) _ ["claim","wanted","machine","steps","telling","states","places","truths"] "state" ["telling"] [4]) (Xs (qv 5)) (fun _ _ _ _=>Xh) (fun _ _ _ _=>(Z3 (show IxR _ (Zpa K)from Zy) (qv 1) (qv 0)))) Zd)) Zd)))
    (Ze (Zz 5 ZW.nd (Zl T.rz J hr (Zi (qv 5) (Zi (qv 3) Zd))))))))
    (Ze (Zo (Zl T.si L hr (Zi (X6 JD (qv 7) JF (Wn (xq hu (qv 6) (qv 5) (fun _ _=>rfl)))) (Zi (X6 JD (qv 7) (Wn (xq hu (qv 6) (qv 5) (fun _ _=>rfl))) JF) Zd)))))))))))),?_⟩
  try dsimp only[L2.cxK,L2.cxK2]
  refine L2.let8 ?_;intro U7 U6 U5 U4 U3 U2 U1;refine⟨_,rfl,tw,G,rfl,ht,hw,hl,hC,TW,TL,fun f D nx ot H1 hN M Y hT hF TW1 TL1 o1=>Zg ?_⟩;obtain⟨pn,ps,po,hm,hn,R,O⟩:=M.ex;have Sk:=hC D hN;have Mc:Mch nx (2^D.length):=⟨fun s hs=>Y.nr _ (getD_mem hs),fun ls h=>Zjw ⟨Y.b,Y.ol,Y.nr,Y.nl,Y.or⟩ Y.b h⟩;have ho:∀s,s<nx.length->(ot.getD s []).length=2^D.length:=fun s hs=>Y.or _ (getD_mem (show s<ot.length by rw[Y.ol];exact hs));have hob:∀s,s<ot.length->∀v∈ot.getD s [],∃b:Bool,v=.bl b:=fun s hs v hv=>by
   rcases Y.ok _ (getD_mem hs) v hv with⟨_,b,e⟩|⟨z,_⟩
   ·exact⟨b,e⟩
   ·cases z
  have hF2:∀{k:Nat} {S:Aj},S.Nodup->(∀x∈S,Rch nx (2^D.length) k x)->S.length<=16:=fun{k S} a b=>Qbc (hF.set a b) (show 2^Y7 G<=2^4 from Qcr (by decide) hrm);have hF3:∀{k:Nat},(∀i j,i<j->j<k->X3 nx (2^D.length) i≠X3 nx (2^D.length) j)->k<=65546:=fun{k} h=>hF.turns (show 2^Y7 G<=2^4 from Qcr (by decide) hrm) Mc h;have hti:∀i,Tw G D wb i=true↔_:=fun i=>tw_iff (wb:=wb) (i:=i) Sk hT Mc ho;generalize 2^D.length=n at *;refine⟨_,rfl,f,_,2,_,rfl,rfl,SqT.of hm,rfl,Zg ?_⟩;obtain⟨as,o2,o3,o4⟩:=O;have asl:as.length<=1000000:=by rw[o3,Y.ol];exact Y.le
  refine⟨_,rfl,f,_,3,_,rfl,rfl,SqT.of hm,rfl,po,rfl,⟨_,SqT.of o2⟩,X7 (xs:=as) (fun i zs H'=>zs=(List.range i).map (fun s=>V.bl (inV (.bl wb) (ot.getD s [])))/\i<=as.length/\H'=H1) ⟨rfl,Qbt _,rfl⟩ (fun i zs H' ⟨e,hi,_⟩=>by rw[e,Qab,Qbb];exact Qav (Yu (by lia))) (fun i zs H' ⟨_,_,e⟩=>by rw[e];exact SqT.of o2) ?_ ?_⟩
  ·rintro i x zs H' N hN hx ⟨rfl,hi,rfl⟩;have hil:i<ot.length:=by rw[<-o3];exact(Qag.mp hx).1
   obtain⟨ra,e1,e2⟩:=o4 i ot[i] (Qac hil);rw[hx]at e1;cases e1;have hg:ot.getD i []=ot[i]:=by rw[Qaf,Qac hil];rfl
   refine Znm ⟨_,rfl,_,rfl,ra,_,rfl,.inr (SqT.of e2),rfl,Qca.mpr fun v hv=>?_,hN _ _ ⟨?_,by lia,rfl⟩⟩
   ·obtain⟨b,rfl⟩:=hob i hil v (by rw[hg];exact hv);rfl
   ·rw[Qeb,Qaz];show _=_++[V.bl (inV (.bl wb) (ot.getD i []))];rw[hg];rfl
  rintro zs H' ⟨rfl,_,e⟩ tl htl;rw[e]at htl ⊢;have asn:as.length=nx.length:=by rw[o3,Y.ol]
  rw[asn];have s2:=Zc (o:=.lst ((List.range nx.length).map fun s=>V.bl (inV (.bl wb) (ot.getD s [])))) htl;have tl2:=Za (H:=H1) (a:=tl) (o:=.lst ((List.range nx.length).map fun s=>V.bl (inV (.bl wb) (ot.getD s []))));generalize upd H1 tl (.lst ((List.range nx.length).map fun s=>V.bl (inV (.bl wb) (ot.getD s []))))=H2 at *;refine Zg ⟨_,rfl,f,_,1,_,rfl,rfl,SqT.of (s2 _ _ hm),rfl,Znq,fun st hst=>Zg ?_⟩;have s3:=s2.trans (Zc (o:=.tup [.int ((0:Nat):Int)]) hst);refine fun d hd=>Zg ⟨Zbc,fun I htr=>Zg ?_⟩;have s4:=s3.trans ((Zc (o:=.dT []) hd).trans (Zc (o:=.lst []) htr));have st4:=(Zc (o:=.lst []) htr) _ _ ((Zc (o:=.dT []) hd) _ _ (Za (H:=H2) (a:=st) (o:=.tup [.int ((0:Nat):Int)])));have d4:=(Zc (o:=.lst []) htr) _ _ (Za (H:=upd H2 st (.tup [.int ((0:Nat):Int)])) (a:=d) (o:=.dT []));have tr4:=Za (H:=upd (upd H2 st (.tup [.int ((0:Nat):Int)])) d (.dT [])) (a:=I) (o:=.lst []);have tl4:=((Zc (o:=.tup [.int ((0:Nat):Int)]) hst).trans ((Zc (o:=.dT []) hd).trans (Zc (o:=.lst []) htr))) _ _ tl2;have d1:H1 d=none:=s3.free hd;have tr1:H1 I=none:=(s3.trans (Zc (o:=.dT []) hd)).free htr;have htt:tl≠I:=fun z=>by
   have:=((Zc (o:=.tup [.int ((0:Nat):Int)]) hst).trans (Zc (o:=.dT []) hd)) _ _ tl2;rw[z,htr]at this;cases this
  generalize upd (upd (upd H2 st (.tup [.int ((0:Nat):Int)])) d (.dT [])) I (.lst [])=H4 at *;refine GS (fun σ H'=>∃(k:Nat) (st:Aw),σ=[some (.ref tw),some (.bl wb),some (.ref f),some (.ref ps),some (.ref tl),some (.ref st),some (.ref d),some (.ref I)]/\H' st=some (.tup ((X3 nx n k).map WI))/\H' d=some (.dT (plc nx n k))/\H' I=some (.lst (((List.range k).map (Tw G D wb)).map V.bl))/\H' tl=some (.lst ((List.range nx.length).map fun s=>V.bl (inV (.bl wb) (ot.getD s []))))/\(∀i j,i<j->j<k->X3 nx n i≠X3 nx n j)/\Z8 H1 H') (fun _ H'=>match H' I with|some (.lst l)=>100000-l.length|_=>0) ⟨0,st,rfl,by rw[Zfh Mc];exact st4,d4,tr4,tl4,fun i j h1 h2=>absurd h2 (Qea _),s4⟩ ?_;rintro σ H5 ⟨q,st,rfl,st5,d5,Z,tl5,hd5,s5⟩;have hk:=hF3 hd5;have ln:(((List.range q).map (Tw G D wb)).map V.bl).length=q:=by rw[Qab,Qab,Qbb]
  have slt:∀s∈X3 nx n q,s<nx.length:=fun s hs=>by
   obtain⟨ls,_,hb,rfl⟩:=(Yv Mc).mp hs;exact Mc.st ls hb
  have ky:H5 st=some (.tup ((kyS (X3 nx n q)).map kV)):=by rw[kyS_kV];exact st5
  refine⟨_,rfl,_,rfl,d,_,rfl,uY.t d5 ky,_,rfl,?_⟩
  by_cases hc:(Yi (plc nx n q) (kyS (X3 nx n q))).isSome=true
  ·rw[hc];obtain⟨j,hj,ej⟩:=plc_in hc;have dg:uY H5 d (.ref st) (some (.int (j:Int))):=by
    have:=uY.t d5 ky
    rwa [<-ej,Zfj hd5 hj]at this
   refine ZD ⟨_,rfl,_,rfl,_,rfl,d,_,rfl,dg,_,rfl,I,_,rfl,SqL.of Z,fun l1 hl1=>?_⟩;rw[XA,Wd];have s6:=Zc (o:=.lst ((((List.range q).map (Tw G D wb)).take j).map V.bl)) hl1;have dg6:uY (upd H5 l1 (.lst ((((List.range q).map (Tw G D wb)).take j).map V.bl))) d (.ref st) (some (.int (j:Int))):=by
    have:=uY.t (s6 _ _ d5) (s6 _ _ ky)
    rwa [<-ej,Zfj hd5 hj]at this
   refine⟨_,rfl,_,rfl,_,rfl,d,_,rfl,dg6,_,rfl,I,_,rfl,SqL.of (s6 _ _ Z),fun l2 hl2=>?_⟩;rw[XA,vG];have s7:=Zc (o:=.lst ((((List.range q).map (Tw G D wb)).drop j).map V.bl)) hl2;have lr:((List.range q).map (Tw G D wb)).length=q:=by rw[Qab,Qbb]
   have hp:∀i,Tw G D wb (q+i)=Tw G D wb (j+i):=fun i=>by
    rw[Qdo,hti,hti,uH Mc ej.symm i]
   refine⟨l1,l2,_,_,Tw G D wb,rfl,s7 _ _ Za,Za,by rw[Qbq];lia,by rw[Qbq];lia,by rw[Qa2];lia,Znf hj hp,fun p q1 q2 tl' rg' H8 hS h1 h2 h3 h4 h5 s8=>?_⟩;have s18:=s5.trans (s6.trans (s7.trans s8));exact k p q1 q2 D tl' rg' H8 hN hS h1 h2 h3 h4 h5 (TW1.same s18) (TL1.same s18) fun b o e x y=>s18 _ _ (o1 _ _ e x y)
  ·have hc:(Yi (plc nx n q) (kyS (X3 nx n q))).isSome=false:=Bool.eq_false_iff.mpr hc;rw[hc];have hd6:∀i j,i<j->j<q+1->X3 nx n i≠X3 nx n j:=fun i j h1 h2=>by
    by_cases e:j=q
    ·rw[e];exact plc_no hc i (by lia)
    ·exact hd5 i j h1 (by lia)
   refine Y2 ⟨fun σ' H'=>∃st':Aw,σ'=[some (.ref tw),some (.bl wb),some (.ref f),some (.ref ps),some (.ref tl),some (.ref st'),some (.ref d),some (.ref I)]/\H' st'=some (.tup ((X3 nx n (q+1)).map WI))/\H' d=some (.dT (plc nx n (q+1)))/\H' I=some (.lst (((List.range (q+1)).map (Tw G D wb)).map V.bl))/\H' tl=some (.lst ((List.range nx.length).map fun s=>V.bl (inV (.bl wb) (ot.getD s []))))/\Z8 H1 H',?_,?_⟩
   ·rintro σ' H' ⟨st',rfl,h1,h2,h3,h4,h5⟩;refine⟨100000-(q+1),?_,?_,q+1,st',rfl,h1,h2,h3,h4,hd6,h5⟩
    ·rw[Z];show _<100000-_;rw[ln];lia
    ·rw[h3];show _=100000-_;rw[Qab,Qab,Qbb]
   have pd:=Znh hc;have dtr:I≠d:=Xn Z d5 fun z=>nomatch z;have dst:st≠d:=Xn st5 d5 fun z=>nomatch z;have dtl:tl≠d:=Xn tl5 d5 fun z=>nomatch z;refine⟨_,rfl,I,_,rfl,.inl (SqL.of Z),_,rfl,_,rfl,d,_,rfl,Zbe.t d5 ky (by rw[Zng];exact Yu (by lia)),?_⟩;rw[ln,pd];have st6:upd H5 d (.dT (plc nx n (q+1))) st=_:=(Zk dst).trans st5;have tr6:upd H5 d (.dT (plc nx n (q+1))) I=_:=(Zk dtr).trans Z;have tl6:upd H5 d (.dT (plc nx n (q+1))) tl=_:=(Zk dtl).trans tl5;have d6:upd H5 d (.dT (plc nx n (q+1))) d=_:=Za;have s6:Z8 H1 (upd H5 d (.dT (plc nx n (q+1)))):=ZR s5 d1;generalize upd H5 d (.dT (plc nx n (q+1)))=H6 at *;have sl:(X3 nx n q).length<=16:=hF2 (k:=q) ((Jw nx n q).imp fun h=>Qbf h) fun x hx=>(Yv Mc).mp hx;refine⟨_,rfl,.inl ⟨rfl,_,SqL.of tr6⟩,_,rfl,st,rfl,⟨_,SqT.of st6⟩,xp (xs:=(X3 nx n q).map WI) (fun v=>match v with|.int z=>.bl (inV (.bl wb) (ot.getD z.toNat []))|v=>v) (SqT.of st6) (by rw[Qab];exact Qav (Yu (by lia))) (fun x hx N hN=>?_) (fun l hl=>?_)⟩
   ·obtain⟨s,hs,rfl⟩:=Qau.mp hx;refine⟨_,rfl,_,rfl,tl,_,_,_,rfl,rfl,SqL.of tl6,YB (j:=s) ?_,hN⟩;rw[Qah,Qej (slt s hs)];rfl
   have e7:((X3 nx n q).map WI).map (fun v=>match v with|.int z=>.bl (inV (.bl wb) (ot.getD z.toNat []))|v=>v)=((X3 nx n q).map fun s=>inV (.bl wb) (ot.getD s [])).map V.bl:=by
    rw[Qax,Qax];rfl
   rw[e7];have s7:=Zc (o:=.lst (((X3 nx n q).map fun s=>inV (.bl wb) (ot.getD s [])).map V.bl)) hl;have htr7:I≠l:=fun z=>by rw[z,hl]at tr6;cases tr6
   have ea:=any_tw (S:=X3 nx n q) (fun s hs=>hob s (by rw[Y.ol];exact slt s hs)) (hti q);refine⟨l,_,rfl,SqL.of Za,?_⟩;rw[ea];have tr7:=s7 _ _ tr6;have st7:=s7 _ _ st6;have tl7:=s7 _ _ tl6;have d7:=s7 _ _ d6;have s17:=s6.trans s7;generalize upd H6 l (.lst (((X3 nx n q).map fun s=>inV (.bl wb) (ot.getD s [])).map V.bl))=H7 at *;refine⟨I,_,_,rfl,rfl,tr7,by rw[ln];exact Yu (by lia),?_⟩;rw[show((List.range q).map (Tw G D wb)).map V.bl++[V.bl (Tw G D wb q)]=((List.range (q+1)).map (Tw G D wb)).map V.bl by rw[Qeb,Qaz,Qaz];rfl];have ne8:∀{b:Aw} {u:HO},b≠I->H7 b=some u->upd H7 I (.lst (((List.range (q+1)).map (Tw G D wb)).map V.bl)) b=some u:=fun{b u} h e=>(Zk h).trans e;have st8:=ne8 (Xn st7 tr7 fun z=>nomatch z) st7;have tl8:=ne8 htt tl7;have d8:=ne8 dtr.symm d7;have tr8:=Za (H:=H7) (a:=I) (o:=.lst (((List.range (q+1)).map (Tw G D wb)).map V.bl));have s8:Z8 H1 _:=ZR s17 tr1 (o:=.lst (((List.range (q+1)).map (Tw G D wb)).map V.bl));generalize upd H7 I (.lst (((List.range (q+1)).map (Tw G D wb)).map V.bl))=H8 at *;refine⟨_,rfl,_,rfl,st,ps,X3 nx n q,nx,rfl,st8,R.same s8,slt,fun S h1 h2=>?_,fun p ms' H9 hp hasc hmem s9=>Zg ⟨p,rfl,?_,s9 _ _ d8,s9 _ _ tr8,s9 _ _ tl8,s8.trans s9⟩⟩
   ·have:=hF2 (k:=q+1) h1 fun x hx=>by
     obtain⟨s,a,b⟩:=h2 x hx;exact Mc.succ.mpr ⟨s,(Yv Mc).mp a,b⟩
    lia
   ·rw[<-ki Mc hasc hmem];exact hp
def Zba(P:Aq)(w:Au)(K:Af)(mg:Ae)(base:Heap)(q pl:Aw):Sp:=spF (fun T i=>!T i) false q pl
theorem Zbb:Y5 P w K mg base CX0 18 t.wh t.aaa ["claim"] (Zba P w K mg base t.aa t.ao):=by
 have C:=Zfp P base T TB;have q:=JB P base T TB;refine T.ff.F.ok jJ (fun vs H Q E h=>?_) (fun cdv A outer s H vs Q E G h=>?_)
 ·obtain⟨_,_,rfl,_⟩:=h;rfl
 ·obtain⟨tw,ws,rfl,ht,hw,hl,hC,M,TW,TL,k⟩:=h;have hu:=ZK G;refine⟨_,@QSs.out _ _ _ (Zb (Zz 1 jJ.nd (Zl T.az q G (Zi (qv 0) (Zi YC Zd))))
    (Ze (Zo (Yb (Zi (Zl T.lx C G (Zi (Z3 ZO (qv 1) Zf) Zd)) (Zi (Zl T.lx C G (Zi (Z3 ZO (qv 1) Zf) Zd)) Zd)))))),?_⟩
  refine L2.let2 ?_;intro U1;refine⟨_,rfl,tw,ws,false,rfl,ht,hw,hl,hC,M,TW,TL,fun p q1 q2 ms tl rg H1 N S h1 h2 h3 l1 l2 L J o1=>Zg ?_⟩;refine⟨_,rfl,p,_,0,_,rfl,rfl,SqT.of h1,rfl,q1,tl,rfl,h2,l1,fun p1 H2 g1 Y=>⟨_,rfl,p,_,1,_,rfl,rfl,SqT.of (Y _ _ h1),rfl,q2,rg,rfl,Y _ _ h3,l2,fun p2 H3 g2 Z=>⟨kE,fun p3 O=>?_⟩⟩⟩;have I:=Zc (o:=.tup [V.ref p1,V.ref p2]) O;have D:=Y.trans (Z.trans I);exact k p3 p1 p2 ms _ _ _ N S.not Za (I _ _ (Z _ _ g1)) (I _ _ g2) (by rw[Qab];exact l1) (by rw[Qab];exact l2) (L.same D) (J.same D) fun b o e x y=>D _ _ (o1 _ _ e x y)
def gq(P:Aq)(w:Au)(K:Af)(mg:Ae)(base:Heap)(q pl:Aw):Sp:=spF (fun T=>T) true q pl
theorem gr:Y5 P w K mg base CX0 18 t.rp t.rq ["claim"] (gq P w K mg base t.aa t.ao):=by
 have q:=JB P base T TB;refine T.dt.F.ok wK (fun vs H Q E h=>?_) (fun Y A outer s H vs Q E D h=>?_)
 ·obtain⟨_,_,rfl,_⟩:=h;rfl
 ·obtain⟨tw,ws,rfl,Z,hw,O,L,C,TW,G,k⟩:=h;have hu:=ZK D;refine⟨_,@QSs.out _ _ _ (Ze (Zo (Zl T.az q D (Zi (qv 0) (Zi YC Zd))))),?_⟩;exact⟨_,rfl,tw,ws,true,rfl,Z,hw,O,L,C,TW,G,fun p J I M tl rg H' a b c d e f g h i j=>k p J I M tl rg H' a b c d e f g h i j⟩
inductive uI(K:Af)(pl pw:Aw)(vs:A2)(H:Hp)(Q:VK):Prop
 |mk (a:Aw) (ns:Ak):(vs=[.ref a])->(SqL K H a (ns.map V.int))->(ns.length<=63)->(Yo H pl Yr Ys)->(Yo H pw Zt Zs)->(∀H',Q (.bl true) H')->uI K pl pw vs H Q
def sp_law(K:Af)(pl q:Aw):Sp:=fun vs H Q _=>uI K pl q vs H Q
theorem ok_law:Y5 P w K mg base CX0 19 t.aam t.aan ["script"] (sp_law K t.ao t.aa):=by
 have G:=gr P base T TB;have J:=Zbb P base T TB;have Z:=Zfr P base T TB;have O:=zX P base T TB;have G_law_told:=gm P base T TB;have I:=wY P base T TB;have G_law_named:=k6 P base T TB;have G_law_words:=kD P base T TB;have G_law_names:=kB P base T TB;have Y:=Ww P base T TB;refine T.aaw.F.ok Jg (fun vs H Q E h=>?_) (fun cdv A outer s H vs Q E hr h=>?_)
 ·obtain⟨_,_,rfl,_⟩:=h;rfl
 ·obtain⟨a,ns,rfl,hS,h63,TL,TW,k⟩:=h;have hu:=ZK hr;refine⟨_,@QSs.out _ _ _ (Zb (Zz 1 Jg.nd (Zl T.ay Y hr (Zi (qv 0) (Zi Zf Zd))))
    (Zb (Zz 2 Jg.nd (Zl T.nz G_law_names hr (Zi (qv 0) (Zi Zf (Zi (Zp ZL (qv 1) Zf) Zd)))))
    (Zb (Zz 3 Jg.nd (Z3 Zy (ZM (Zi (ZM (Zi Zf (Zi Zf Zd))) (Zi (ZM (Zi Zf (Zi Zf Zd))) Zd))) (Z4 xc (by rfl) T.du jf (Zi (Yk Yt (Zp ZL (Zp Yh (qv 1) Zf) Zf) Zf (Zx _)) Zd))))
    (Zb (Zz 4 Jg.nd (Zl T.og G_law_words hr (Zi (qv 0) (Zi Zf (Zi (qv 2) (Zi Zf (Zi (qv 3) (Zi (Z3 Zy (ZM (Zi Zf (Zi Zf (Zi Zf Zd)))) (Zp ZL (Zp Yh (qv 1) Zf) Zf)) (Zi YC Zd)))))))))
    (Zb (Zz 2 Jg.nd (Zl T.nv G_law_named hr (Zi (qv 4) Zd)))
    (Zb (Zz 5 Jg.nd (Zl T.ff J hr (Zi (qv 4) Zd)))
    (Zb (Zz 6 Jg.nd (Zl T.dt G hr (Zi (qv 4) Zd)))
    (Zb (ZE (WH (jQ (jg (YQ (Zl T.dk I hr (Zi (qv 5) Zd)))) (JP (jg (YQ (Zl T.dk I hr (Zi (qv 6) Zd)))))))
    (Ze (Zo YC)) Zw)
    (Zb (Xb Qbp rfl (jy rfl T.au (Zi Zf (Zi (Zp YA Zf (Z3 Zy (ZM (Zi Zf (Zi Zf (Zi Zf (Zi Zf Zd))))) (Zn Zr (by rfl) T.ae Ya (Zi (qv 2) Zd)))) Zd))) (Xq 7 Jg.nd)
    (Zb (Zz 8 Jg.nd (Zp op_shl Zf (qv 7)))
    (Zb (jS (i:=9) Jg.nd rfl rfl ({}:ZP (Zh Zg5) _ ["script","first","names","left","words","alls","somes","width","full","truths"] "values" ["words","full"] [4,8]) (Xr (Zl T.ip O hr (Zi (qv 2) (Zi (qv 8) Zd)))) (fun _ _ _ _=>Xh) (fun _ _ _ _=>(Zl T.sj G_law_told hr (Zi (qv 1) (Zi (qv 2) (Zi (qv 0) Zd))))))
    (Ze (ZE (WH (jQ (Zq Zf2 (Zl T.ma Z hr (Zi (qv 5) (Zi (qv 7) Zd))) (Yk qf YC (qv 9) (by with_unfolding_all rfl)) (Zx _)) (JP (Zq Zf2 (Zl T.ma Z hr (Zi (qv 6) (Zi (qv 7) Zd))) (Yk ZZ YC (qv 9) (by with_unfolding_all rfl)) (Zx _)))))
    (Ze (Zo YC)) Zw)))))
    (Ze (Zo (g7 (Yk (Zjd (vA hr)) (Zl T.ff J hr (Zi (qv 4) Zd)) (qv 5) (Zx _)) (xm (Yk (Zjd (vA hr)) (Zl T.dt G hr (Zi (qv 4) Zd)) (qv 6) (Zx _))))))))))))))),?_⟩
  try dsimp only[L2.cxK,L2.cxK2]
  refine L2.let10 ?_;intro U9 U8 U7 U6 U5 U4 U3 U2 U1;refine⟨_,rfl,a,ns,0,rfl,hS,h63,by lia,fun r H1 r0 r1 s1=>Zg ?_⟩;have hS1:=y4 hS s1;refine⟨_,rfl,_,rfl,_,_,rfl,rfl,(by show(0:Int)<4;decide),a,ns,1,(r%4).toNat,by rw[Qfd (Qbz _ (by decide))];rfl,hS1,h63,by lia,by lia,fun pn nm H2 hpn hnd hl hn s2=>Zg ?_⟩;have C:=s1.trans s2;have hn3:nm.length<=3:=by lia
  obtain⟨tp,etp,tp0,tp1⟩:∃tp:Int,atI [V.int 16,V.int 16,V.int 1000] (r/4%3)=some (.int tp)/\1<=tp/\tp<=1000:=by
   rcases(by lia:r/4%3=0\/r/4%3=1\/r/4%3=2)with e|e|e<;>rw[e]
   ·exact⟨16,rfl,by decide,by decide⟩
   ·exact⟨16,rfl,by decide,by decide⟩
   ·exact⟨1000,rfl,by decide,by decide⟩
  refine⟨kE,fun f1 hf1=>⟨kE,fun f2 hf2=>⟨kE,fun lf hlf=>⟨_,rfl,_,_,rfl,rfl,.of (by decide) (by decide),_,_,rfl,rfl,(by show(0:Int)<4;decide),rfl,.inr ⟨_,rfl,?_⟩⟩⟩⟩⟩;have t1:=Zc (o:=.lst [V.int 2,V.int 2]) hf1;have t2:=Zc (o:=.lst [V.int 1,V.int 3]) hf2;have t3:=Zc (o:=.lst [V.ref f1,V.ref f2]) hlf;have g1:=t3 _ _ (t2 _ _ (Za (H:=H2) (a:=f1) (o:=.lst [V.int 2,V.int 2])));have g2:=t3 _ _ (Za (H:=upd H2 f1 (.lst [V.int 2,V.int 2])) (a:=f2) (o:=.lst [V.int 1,V.int 3]));have g3:=Za (H:=upd (upd H2 f1 (.lst [V.int 2,V.int 2])) f2 (.lst [V.int 1,V.int 3])) (a:=lf) (o:=.lst [V.ref f1,V.ref f2]);have s23:=t1.trans (t2.trans t3);have hf2n:=t1.free hf2;generalize upd (upd (upd H2 f1 (.lst [V.int 2,V.int 2])) f2 (.lst [V.int 1,V.int 3])) lf (.lst [V.ref f1,V.ref f2])=H3 at *;obtain⟨f,k0,k1,ef,hf,f3,hk0,hk1,hk⟩:∃(f:Aw) (k0 k1:Int),atI [V.ref f1,V.ref f2] (if decide (V.int (r/12%4)=V.int 0)=true then 1 else 0)=some (.ref f)/\H2 f=none/\H3 f=some (.lst [.int k0,.int k1])/\0<=k0/\0<=k1/\k0+k1=4:=by
   by_cases e:V.int (r/12%4)=V.int 0
   ·rw[Qan e];exact⟨f2,1,3,rfl,hf2n,g2,by decide,by decide,by decide⟩
   ·rw[Qap e];exact⟨f1,2,2,rfl,hf1,g1,by decide,by decide,by decide⟩
  refine⟨lf,_,_,_,rfl,rfl,SqL.of g3,ef,Zg ?_⟩;refine⟨_,rfl,_,rfl,_,rfl,zln3,fun l hl2=>⟨_,rfl,_,_,rfl,rfl,.of (by decide) (by decide),_,_,rfl,rfl,(by show(0:Int)<3;decide),l,_,_,_,rfl,rfl,SqL.of Za,etp,?_⟩⟩;have s4:=Zc (o:=.lst [V.int 16,V.int 16,V.int 1000]) hl2;have f4:=s4 _ _ f3;have s24:=s23.trans s4;generalize upd H3 l (.lst [V.int 16,V.int 16,V.int 1000])=H4 at *;have nef:∀{b:Aw} {o:HO},H2 b=some o->b≠f:=fun e z=>by rw[z,hf]at e;cases e
  refine⟨a,pn,f,ns,4,nm,tp,k0,k1,rfl,?_,h63,by lia,s24 _ _ hpn,hn3,fun y hy=>(hn y hy).k,f4,hk0,hk1,by lia,nef hpn,tp0,tp1,fun wa L H5 hwa hwl hty hrm s5=>Zg ?_⟩
  ·rcases hS with(z|⟨o,z⟩)|z
   ·exact .inl ⟨.inl (s24 _ _ (C _ _ z)),nef (C _ _ z)⟩
   ·exact .inl ⟨.inr ⟨o,s24 _ _ (C _ _ z)⟩,nef (C _ _ z)⟩
   ·exact .inr (.inr z)
  have s05:Z8 H H5:=fun b o e=>s5 _ _ (nef (C _ _ e)) (s24 _ _ (C _ _ e));obtain⟨hsi,hfl⟩:=ty_si hty hn;have hrm4:Y7 L<=4:=by lia
  refine⟨_,rfl,wa,L,rfl,hwa,hsi,by lia,fun pm H6 ms hpm s6 hp hs=>Zg ?_⟩;rw[hfl]at hp;have NC:NmC L ms:=⟨hp,hs⟩;have hC:∀ms,NmC L ms->WJ ms L:=fun ms N=>clm_ok hty hn hn3 hwl (by lia) N;have one:∀ms',NmC L ms'->ms'=ms:=fun ms' N=>jq _ _ N.2 hs (N.1.trans hp.symm);have S:=hC ms NC;have TW6:=TW.same (s05.trans s6);have TL6:=TL.same (s05.trans s6);have hwa6:=s6 _ _ hwa;have hwl2:L.length<=60:=by lia
  have keep:∀{Ha Hb:Hp},Yo Ha t.aa Zt Zs->Yo Ha t.ao Yr Ys->Zph t.aa t.ao Ha Hb->∀{b:Aw} {u:HO},Ha b=some u->(∀z,u≠.tbl z)->Hb b=some u:=fun{Ha Hb} A B o {b u} e hu=>by
   obtain⟨pz1,hz1⟩:=A.ex;obtain⟨pz2,hz2⟩:=B.ex;exact o _ _ e (Xn e hz1 (hu _)) (Xn e hz2 (hu _))
  refine⟨_,rfl,wa,L,rfl,hwa6,hsi,hwl2,hC,hrm4,TW6,TL6,fun pA a1 a2 ms1 tA rA H7 N1 SA hA hA1 hA2 lA1 lA2 TW7 TL7 o7=>Zg ?_⟩;have e1:=one _ N1;subst e1;have hwa7:=keep TW6 TL6 o7 hwa6 (fun _ z=>nomatch z);have hpm7:=keep TW6 TL6 o7 hpm (fun _ z=>nomatch z);refine⟨_,rfl,wa,L,rfl,hwa7,hsi,hwl2,hC,hrm4,TW7,TL7,fun pB b1 b2 q tB rB H8 N2 SB hB hB1 hB2 lB1 lB2 TW8 TL8 o8=>Zg ?_⟩;have e2:=one _ N2;subst e2;have hwa8:=keep TW7 TL7 o8 hwa7 (fun _ z=>nomatch z);have hpm8:=keep TW7 TL7 o8 hpm7 (fun _ z=>nomatch z);have hA8:=keep TW7 TL7 o8 hA (fun _ z=>nomatch z);have hA18:=keep TW7 TL7 o8 hA1 (fun _ z=>nomatch z);have hA28:=keep TW7 TL7 o8 hA2 (fun _ z=>nomatch z);refine⟨_,rfl,pA,a1,a2,tA,rA,_,rfl,hA8,hA18,hA28,lA1,lA2,SA,fun H9 s9=>⟨_,rfl,ZD ⟨_,rfl,pB,b1,b2,tB,rB,_,rfl,s9 _ _ hB,s9 _ _ hB1,s9 _ _ hB2,lB1,lB2,SB,fun H10 s10=>⟨_,rfl,ZD ?_⟩⟩⟩⟩;have s80:=s9.trans s10;obtain⟨Nw,eNw,Nw12,hbig⟩:∃Nw:Nat,atI [V.int 12,V.int 6,V.int 3,V.int 2] ((q.map V.str).length:Int)=some (.int (Nw:Int))/\Nw<=12/\∀W,W<=Nw->(2^W)^q.length<=10000:=by
   rw[Qab];have h3:=S.n3;have hw:∀k∈([0,1,2,3]:Aj),∃Nw:Nat,atI [V.int 12,V.int 6,V.int 3,V.int 2] (k:Int)=some (.int (Nw:Int))/\Nw<=12/\(2^Nw)^k<=10000:=by
    intro k hk;simp only[Qao,Qba,Qdz]at hk;rcases hk with rfl|rfl|rfl|rfl
    ·exact⟨12,rfl,by decide,by decide⟩
    ·exact⟨6,rfl,by decide,by decide⟩
    ·exact⟨3,rfl,by decide,by decide⟩
    ·exact⟨2,rfl,by decide,by decide⟩
   obtain⟨Nw,g1,g2,g3⟩:=hw q.length (by simp only[Qao,Qba,Qdz];lia);exact⟨Nw,g1,g2,fun W hW=>Qbc (Nat.pow_le_pow_left (Qcr (by decide) hW) _) g3⟩
  refine⟨zln4,fun l2 hl3=>⟨_,rfl,pm,_,rfl,.inl (SqL.of (Zc hl3 _ _ (s80 _ _ hpm8))),l2,_,_,_,rfl,rfl,SqL.of Za,eNw,_,_,rfl,rfl,1,_,rfl,⟨by decide,by decide,by lia,by lia⟩,?_⟩⟩;have s81:=s80.trans (Zc (o:=.lst [V.int 12,V.int 6,V.int 3,V.int 2]) hl3);generalize upd H10 l2 (.lst [V.int 12,V.int 6,V.int 3,V.int 2])=H11 at *;refine ju (fun i σ H'=>∃(u7 u8 u9:Option V),σ=[some (.ref a),some (.int r),some (.ref pm),some (.ref f),some (.ref wa),some (.ref pA),some (.ref pB),u7,u8,u9]/\Z8 H8 H') ⟨none,none,none,rfl,s81⟩ ?_ ?_
  ·rintro i σ H12 hi ⟨u7,u8,u9,rfl,C⟩ N bk r' hN;have hi:i<Nw:=by lia
   have ew:(1:Int)+(i:Int)=((i+1:Nat):Int):=by lia
   rw[ew];refine⟨_,rfl,_,_,rfl,rfl,⟨Qde _,by lia,by decide⟩,Zg ?_⟩;try dsimp only
   rw[Int.one_mul,Qbn];have e2:((2^(i+1):Nat):Int)=2^(i+1):=by rw[Int.natCast_pow];rfl
   refine⟨_,rfl,_,rfl,pm,q,2^(i+1),by rw[e2];rfl,C _ _ hpm8,S.nd,S.n3,hbig _ (by lia),Qhn _,fun p H13 D s13=>?_⟩;obtain⟨ds,d1,d2,d3⟩:=D;have told:∀vs∈chs (2^(i+1)) q.length,∃b:Bool,We (2^(i+1)) (kh q vs) L []=[.bl b]:=fun vs _=>by
    obtain⟨o,_,hb⟩:=jI (W:=i+1) (by lia) S.kp (kh q vs) S.ty;exact⟨_,hb⟩
   have cl:(chs (2^(i+1)) q.length).length<=10000:=by rw[Ze5];exact hbig _ (by lia)
   have s83:=C.trans s13;refine⟨p,rfl,⟨_,SqL.of d1⟩,Xt (xs:=ds.map V.ref) (fun j zs H'=>zs=((chs (2^(i+1)) q.length).take j).map (fun vs=>V.bl (decide (We (2^(i+1)) (kh q vs) L []=[.bl true])))/\Z8 H13 H') ⟨rfl,Z8.refl _⟩ (fun j zs H' ⟨e,_⟩=>by rw[e,Qab,Qa2];exact Qav (Yu (by lia))) (fun j zs H' ⟨_,s⟩=>SqL.of (s _ _ d1)) ?_ ?_⟩
   ·rintro j x zs H14 M hM hx ⟨rfl,s14⟩;rw[Qah]at hx;obtain⟨dv,hdv,rfl⟩:=Qa4.mp hx;have hjc:j<(chs (2^(i+1)) q.length).length:=by rw[<-d2];exact(Qag.mp hdv).1
    have hvj:=Qac hjc;obtain⟨hvl,hvb⟩:=Ze6 (Qbs hjc);obtain⟨b,hb⟩:=told _ (Qbs hjc);have hkv:=d3 j dv _ hdv hvj;have etk:=take_snoc hvj;generalize (chs (2^(i+1)) q.length)[j]=vs at *;refine Znm ⟨_,rfl,_,rfl,_,rfl,wa,dv,i+1,q,L,kvC q vs,kh q vs,b,rfl,by lia,by lia,s14 _ _ (s83 _ _ hwa8),by lia,s14 _ _ hkv,Zm9 S.nd hvl,fun y hy=>⟨Qde _,?_⟩,S.kp,S.ty,hb,fun H15 s15=>hM _ _ ⟨?_,s14.trans s15⟩⟩
    ·rw[<-e2];have hix:=Qbh hy;refine Int.ofNat_lt.mpr (hvb _ ?_);rw[Qaf,Qac (by lia)];exact Qbs _
    ·rw[etk,Qaz];congr 1;show[V.bl b]=[V.bl (decide (We (2^(i+1)) (kh q vs) L []=[.bl true]))];rw[hb];cases b<;>rfl
   rintro zs H14 ⟨rfl,s14⟩ l9 hl9;rw[Qab,d2,Qb7];have s95:=Zc (o:=.lst ((chs (2^(i+1)) q.length).map fun vs=>V.bl (decide (We (2^(i+1)) (kh q vs) L []=[.bl true])))) hl9;have s85:=(s83.trans s14).trans s95;have l95:=Za (H:=H14) (a:=l9) (o:=.lst ((chs (2^(i+1)) q.length).map fun vs=>V.bl (decide (We (2^(i+1)) (kh q vs) L []=[.bl true]))));have fl9:((chs (2^(i+1)) q.length).map fun vs=>V.bl (decide (We (2^(i+1)) (kh q vs) L []=[.bl true]))).all YM=true:=Qca.mpr fun v hv=>by
    obtain⟨y,_,rfl⟩:=Qau.mp hv;rfl
   have inF:=Zo6 told false;have inT:=Zo6 told true;generalize ((chs (2^(i+1)) q.length).map fun vs=>V.bl (decide (We (2^(i+1)) (kh q vs) L []=[.bl true])))=zs at *;generalize upd H14 l9 (.lst zs)=H15 at *;refine Zg ⟨_,rfl,_,rfl,pA,a1,a2,tA,rA,i+1,rfl,by lia,s85 _ _ hA8,s85 _ _ hA18,s85 _ _ hA28,SA.pos,?_⟩;rw[Qgx,SA.at_ i];refine⟨_,rfl,l9,_,rfl,.inl (SqL.of l95),rfl,fl9,rfl,_,rfl,?_⟩;show if(!decide (V.bl (!Tw L q false i)=V.bl (!inV (.bl false) zs)))=true then _ else _;rw[Qan (show V.bl (!Tw L q false i)=V.bl (!inV (.bl false) zs) by rw[inF])];refine ZD ⟨_,rfl,_,rfl,pB,b1,b2,tB,rB,i+1,rfl,by lia,s85 _ _ hB,s85 _ _ hB1,s85 _ _ hB2,SB.pos,?_⟩;rw[Qgx,SB.at_ i];refine⟨_,rfl,l9,_,rfl,.inl (SqL.of l95),rfl,fl9,rfl,_,rfl,?_⟩;show if(!decide (V.bl (Tw L q true i)=V.bl (inV (.bl true) zs)))=true then _ else _;rw[Qan (show V.bl (Tw L q true i)=V.bl (inV (.bl true) zs) by rw[inT])];exact ZD (hN _ _ ⟨_,_,_,rfl,s85⟩)
  ·rintro σ H12 ⟨u7,u8,u9,rfl,C⟩;have TWa:=TW8.same C;have TLa:=TL8.same C;refine⟨_,rfl,wa,L,rfl,C _ _ hwa8,hsi,hwl2,hC,hrm4,TWa,TLa,fun pC c1 c2 ms3 tC rC H13 N3 SC hC0 hC1 hC2 lC1 lC2 TWb TLb o13=>?_⟩;have e3:=one _ N3;subst e3;have kb:=@keep _ _ TWa TLa o13;obtain⟨x1,x2⟩:=SA.one SC;subst x1 x2;have nt:∀{xs:A2} (z:Ah),HO.tup xs≠.tbl z:=fun z h=>nomatch h;refine⟨_,rfl,pC,pA,_,_,rfl,rfl,hC0,kb (C _ _ hA8) nt,rfl,Zfl hC1 hC2 (kb (C _ _ hA18) nt) (kb (C _ _ hA28) nt),?_⟩;refine⟨true,rfl,Y2 ⟨_,rfl,wa,L,rfl,kb (C _ _ hwa8) nt,hsi,hwl2,hC,hrm4,TWb,TLb,fun pD d1 d2 ms4 tD rD H14 N4 SD hD0 hD1 hD2 lD1 lD2 TWc TLc o14=>?_⟩⟩;have e4:=one _ N4;subst e4;have kc:=@keep _ _ TWb TLb o14;obtain⟨x3,x4⟩:=SB.one SD;subst x3 x4;exact⟨_,rfl,pD,pB,_,_,rfl,rfl,hD0,kc (kb (C _ _ hB) nt) nt,rfl,Zfl hD1 hD2 (kc (kb (C _ _ hB1) nt) nt) (kc (kb (C _ _ hB2) nt) nt),k _⟩
end
def oF(K:Af)(f:Aw):Obj:=(K.lookup f).getD default
def fx(K:Af)(f:Aw):Ao:=match (oF K f).data with
 |.func g=>g
 |_=>default
abbrev fn0(K:Af)(x:Str)(st:Ay)(f:Aw):Ao:=PySem.W.fnOf x x (WM st) (Xo st) (Zh st) .none (fx K f).kwdefaults (fx K f).doc (fx K f).pyModule (fx K f).annotations (fx K f).code (fx K f).closureTuple
abbrev FiE(K:Af)(x:Str)(st:Ay)(f:Aw):Prop:=(PySem.W.nsIn K mainGlobals x,K.lookup f,PySem.W.codeIn K (fx K f).code x,PySem.W.keepIn K (.ref f))=(some (some (.ref f)),some ⟨(oF K f).cls,(oF K f).dict,.func (fn0 K x st f),(oF K f).slots⟩,true,true)
theorem Zo7{st:Ay}(e:FiE K x st f):fx K f=fn0 K x st f:=
 congrArg (fun o:Option Obj=>match (o.getD default).data with|.func g=>g|_=>default) (congrArg (fun z=>z.2.1) e)
def de{I:Heap}{mg:Ae}{st:Ay}{ps:Ai}(X:K.In I)(G:I.Ns mainGlobals mg)(e:FiE K x st f)
  (h:∀(kV C J:Av) (L:Option Aw) (D ct:Av) (q:Ag),q.length=ps.length->bindArgs (PySem.W.fnOf x x (WM st) (Xo st) (Zh st) .none kV C J L D ct) ⟨q,[]⟩=pure (ps.zip q):=by first|(show∀_ _ _ _ _ _ q,List.length q=1->_;exact fun _ _ _ _ _ _=>L2.len1 fun _=>rfl)|(show∀_ _ _ _ _ _ q,List.length q=2->_;exact fun _ _ _ _ _ _=>L2.len2 fun _ _=>rfl)|(show∀_ _ _ _ _ _ q,List.length q=3->_;exact fun _ _ _ _ _ _=>L2.len3 fun _ _ _=>rfl)|(show∀_ _ _ _ _ _ q,List.length q=4->_;exact fun _ _ _ _ _ _=>L2.len4 fun _ _ _ _=>rfl)|(show∀_ _ _ _ _ _ q,List.length q=5->_;exact fun _ _ _ _ _ _=>L2.len5 fun _ _ _ _ _=>rfl)|(show∀_ _ _ _ _ _ q,List.length q=7->_;exact fun _ _ _ _ _ _=>L2.len7 fun _ _ _ _ _ _ _=>rfl)):Df K mg x st ps f (fx K f):=by
 have F:=fun_mk (st:=st) (congrArg (fun z=>z.2.1) e) (congrArg (fun z=>z.2.2.1) e) (congrArg (fun z=>z.2.2.2) e);exact Eq.mp (congrArg (Df K mg x st ps f) (Zo7 e).symm) ⟨F,PySem.W.mg_of X G (congrArg (·.1) e),F.binds h⟩
def mkE(P:Params):List (Str×Int)->List (Nat×Nat)->List DictEntry
 |x::l,t::r=>⟨PyData.keyHash P x.1,.str x.1 t.1,.int x.2 t.2⟩::mkE P l r
 |_,_=>[]
theorem Zfs(P:Params):∀(l:List (Str×Int)) (r:List (Nat×Nat)),l.length=r.length->KTab P (mkE P l r) l
 |[],[],_=>.nil
 |_::l,_::r,h=>.cons (Zfs P l r (Nat.succ.inj h))
theorem kgo{mg:Ae}{l:List (Str×Int)}(X:K.In h)(G:h.Ns mainGlobals mg)(r:List (Nat×Nat))(n:Nat)
  (e:(PySem.W.nsIn K mainGlobals x,K.lookup a)=(some (some (.ref a)),some ⟨.type "dict",none,.dict (Array.mk (mkE w.params l r)) n,#[]⟩)) (C:l.length=r.length) (q:(l.map (·.1)).Nodup) (hs:(a == sysModules)=false):Kg K w mg x a l:=
 ⟨PySem.W.mg_of X G (congrArg (·.1) e),⟨⟨_,_,congrArg (·.2) e,Zfs _ l r C⟩,q,hs⟩⟩
def sV:Nat->List Str->List Av
 |_,[]=>[]
 |t,x::l=>.str x t::sV (t+1) l
theorem Zft:∀(l:Ai) (t:Nat),Vals (l.map V.str) (sV t l)
 |[],_=>.nil
 |_::l,t=>.cons ⟨_,rfl⟩ (Zft l (t+1))
theorem kto{mg:Ae}{l:Ai}(X:K.In h)(G:h.Ns mainGlobals mg)(t:Nat)
  (e:(PySem.W.nsIn K mainGlobals x,K.lookup a)=(some (some (.ref a)),some ⟨.type "tuple",none,.seq (Array.mk (sV t l)) 0,#[]⟩)) (hs:(sV t l).length<=sizeLine):Kt K mg x a l:=
 ⟨PySem.W.mg_of X G (congrArg (·.1) e),fun _=>.inr ⟨_,_,_,congrArg (·.2) e,rfl,rfl,hs,Zft l t⟩⟩
def KK(w:Au):Af:=L2.noT (Hw.K w.params)
set_option maxHeartbeats 0 in
theorem all_mk {l:W.OpenLaw} {w:Au} {h:Heap} {mg:Ae} {fa:Aw} (X:(KK w).In h) (G:h.Ns mainGlobals mg) (hfa:mg "law" = some (.ref fa)):
  ∃fd:Ao,(∀(s:As) (v:Av),BindsTo s fd ⟨[v],[]⟩ [("script",v)])/\∀base:Heap,(KK w).In base->base.Ns mainGlobals mg->(∀q∈([(44,42),(181,179)]:List (Aw×Aw)),W.CodeHd base q.1 q.2)->yc mg base->Y5 l.prog w (KK w) mg base CX0 19 fa fd ["script"] (sp_law (KK w) 42 179):=by
 cases hfa.symm.trans (W.mg_of X G (show W.nsIn (KK w) mainGlobals "law" = some (some (.ref 348)) by kernel_rfl));have T:Txt (KK w) w mg ⟨21,fx (KK w) 21,28,fx (KK w) 28,40,fx (KK w) 40,55,fx (KK w) 55,60,fx (KK w) 60,67,fx (KK w) 67,77,fx (KK w) 77,84,fx (KK w) 84,91,fx (KK w) 91,98,fx (KK w) 98,110,fx (KK w) 110,130,fx (KK w) 130,156,fx (KK w) 156,170,fx (KK w) 170,187,fx (KK w) 187,192,fx (KK w) 192,223,fx (KK w) 223,235,fx (KK w) 235,249,fx (KK w) 249,256,fx (KK w) 256,263,fx (KK w) 263,277,fx (KK w) 277,303,fx (KK w) 303,310,fx (KK w) 310,317,fx (KK w) 317,331,fx (KK w) 331,336,fx (KK w) 336,343,fx (KK w) 343,50,fx (KK w) 50,105,fx (KK w) 105,117,fx (KK w) 117,135,fx (KK w) 135,149,fx (KK w) 149,163,fx (KK w) 163,242,fx (KK w) 242,270,fx (KK w) 270,284,fx (KK w) 284,291,fx (KK w) 291,324,fx (KK w) 324,122,fx (KK w) 122,197,fx (KK w) 197,298,fx (KK w) 298,142,fx (KK w) 142,33,fx (KK w) 33,45,fx (KK w) 45,182,fx (KK w) 182,177,fx (KK w) 177,218,fx (KK w) 218,228,fx (KK w) 228,204,fx (KK w) 204,211,fx (KK w) 211,348,fx (KK w) 348,44,42,181,179,68,69,70,325,327,123⟩:=by
  constructor
  ·exact kgo X G [(262,263),(264,265),(266,267),(268,269),(270,271),(272,273),(274,275),(276,277),(278,279),(280,281)] 10 (by kernel_rfl) rfl (by decide +kernel) rfl
  ·exact kgo X G [(293,294),(295,296),(297,298),(299,300),(301,302)] 5 (by kernel_rfl) rfl (by decide +kernel) rfl
  ·exact kgo X G [(309,310),(311,312),(313,314),(315,316),(317,318)] 5 (by kernel_rfl) rfl (by decide +kernel) rfl
  ·exact W.mg_of X G (by kernel_rfl)
  ·exact W.mg_of X G (by kernel_rfl)
  ·exact kto X G 387 (by kernel_rfl) (by show _<=_;decide)
  all_goals first|exact de X G (by kernel_rfl)|exact W.mg_none_of X G (by kernel_rfl)|exact Nat.ne_of_beq_eq_false rfl|kernel_rfl
 exact⟨_,fun s v=>Zo7 (show FiE (KK w) "law" Zg5 348 by kernel_rfl) ▸ .of_eq rfl,fun base hKb _ hC hB=>ok_law _ _ T ⟨hC (44,42) (by simp),hC (181,179) (by simp),hB⟩⟩
end Lw
end
open PySem PySem.W PyProof.Rows
set_option maxRecDepth 100000 in
set_option maxHeartbeats 0 in
theorem PySem.Challenge.cw_everywidth_k26_widths_looked_through_holds : PySem.Challenge.rw_everywidth_k26_widths_looked_through.Holds := by
 w_on;refine holds_law Hw.ws fun said=>?_
 refine holds_openX Hw.left (fun s e=>xl_of s (Qf7.mp e).1) XL.keeps
  (by rfl) (by rfl) (by rfl)
  (fun s e=>recFacts_of (Qf7.mp e).2) (by rfl)
  (by first|assumption|decide +kernel) (by decide +kernel) ⟨rfl,rfl,rfl,rfl,rfl,by decide +kernel⟩ ?hw ?_
 (case hw=>w_witness2)
 refine L2.walk_X (fun _=>by kernel_rfl) ?_
 exact L2.walk_ofT (K:=fun P=>L2.noT (Hw.K P)) (n:=63) (k:=19) (x:= "script") (CX:=fun _=>L2.CX0) (sp:=fun w=>Lw.sp_law (Lw.KK w) 42 179) rfl (by decide) rfl ⟨rfl,by decide,by decide⟩ (fun w h Y=>L2.in_noT (by kernel_rfl) Y) (fun w mean mg mb h T X=>List.forall_mem_cons.mpr ⟨PySem.W.tab_of (x:=PySem.Str.ofString "least") (c:=44) (P:=42) T X rfl (by kernel_rfl),List.forall_mem_cons.mpr ⟨PySem.W.tab_of (x:=PySem.Str.ofString "machine_telling") (c:=181) (P:=179) T X rfl (by kernel_rfl),List.forall_mem_nil _⟩⟩) (fun w=>L2.noT_ok _) (fun w mg fa h X G e=>Lw.all_mk X G e) (fun _ _ a ns hl hT hS=>⟨a,ns,rfl,hS,hl,.inl (hT (44,42) (by simp)),.inl (hT (181,179) (by simp)),fun _=>rfl⟩) fun _ _ _ _ _ z=>z
#print axioms PySem.Challenge.cw_everywidth_k26_widths_looked_through_holds
