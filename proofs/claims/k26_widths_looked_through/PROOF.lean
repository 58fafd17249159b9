import PyProof.Rows.All
import Wide.All
import OpenK.AllK
import Wide.FinOn
import Lean
import PyProof.EqAt
import PyProof.EqKinds
import PyProof.TupleCall
import PyProof.NeKinds
import KE.KRevSl
import KE.KRevIter
import PyProof.FactsAll.tuple
import PyProof.Rows.SortWalk
import PyProof.Rows.StrJoin2
import PyProof.StrBlockH
import PyProof.StrWalks
import PyProof.StrCalls2
import PyProof.ConsumeWalk
import KE.KIntText
import PyProof.Rows.SortStr
import PyProof.EnumStmt
import PyProof.WalksMore
import PyProof.ZipIter
import KE.KEqDict
import PyProof.DictWalks
import KE.KLam
import PyProof.Rows.SortShellK
import PyProof.AttrMissHeap
import KE.KDictOf
import PyProof.CollectWalk
import PyProof.ListNew
import KE.KSortTup
import PyProof.Rows.TupDisplay
import OpenK.KOwn
import PyProof.Rows.TopTwo
import PyProof.Rows.CatchOwn
import PyProof.RulesDel
import PyProof.RulesAs
import KE.KIsNot
import PyProof.ExcAttrAll.ValueError
import KE.KIsAll
import PyProof.StrReplace2
import PyProof.ReprStr
import PyProof.FString
import PyProof.StrLawsChain
import PyProof.SetRoads
import PyProof.StrLawsRepr
import PyProof.ReprHeads
import PyProof.ReprLen
import PyProof.FactsAll.bool
import KE.KNest
import PyProof.Rows.RuleM_int
import PyProof.Rows.CallKwBuiltin
import KE.KMinKey
import PyProof.ListRange
import PyProof.TupleOfSeq
import PyProof.TupleOfStr
import KE.KDictLaws
import KE.KPairComp
import KE.KDictSum
import PySem.Challenge.RW_everywidth_k26_widths_looked_through
noncomputable section
set_option Elab.async false
set_option linter.all false
set_option maxRecDepth 100000
set_option maxHeartbeats 0
namespace Hw
open PySem PySem.W
theorem ws:PySem.Challenge.rw_everywidth_k26_widths_looked_through.wellSaid=true:=by kernel_rfl
def p:Program:=PySem.Challenge.rw_everywidth_k26_widths_looked_through.row.toRowW.prog
def B:List Stmt:=behindTheImports p
def nth:List Stmt→Nat→Option Stmt
  |[],_=>none
  |x::_,0=>some x
  |_::r,n+1=>nth r n
def fx:Option Stmt→Arguments×List Stmt×Scope×Str×Nat
  |some (.FunctionDef n a b _ _ _ s _ _ x)=>(a,b,s,n,x.line)
  |_=>default
def fd(i:Nat):=fx (nth B i)
def vs(s:String)(t:Nat):Value:=.str (Str.ofString s) t
def en(P:Params)(s:String)(t:Nat)(v:Value):DictEntry:=⟨PyData.keyHash P (Str.ofString s),.str (Str.ofString s) t,v⟩
def tu (l:List Value):Obj:=⟨.type "tuple",none,.seq (Array.mk l) 0,#[]⟩
def t0:Obj:=tu []
def fi(l:List Value):Obj:=⟨.none,none,.fields (Array.mk l),#[]⟩
def f0:Obj:=fi []
def vk:Nat→List String→List Value
  |_,[]=>[]
  |t,s::r=>vs s t::vk (t+1) r
def vt(t:Nat)(l:List String):Obj:=tu (vk t l)
abbrev Fd:=Arguments×List Stmt×Scope×Str×Nat
def rO(x:Fd):Obj:=⟨.none,none,.func ⟨x.2.2.2.1,x.2.2.2.1,x.1,.stmts x.2.1,x.2.2.1,0,[],.none,.none,.none,.none,none,.none,.none,0⟩,#[]⟩
def fO (x:Fd) (m:Value) (c:Nat):Obj:=⟨.type "function",none,.func ⟨x.2.2.2.1,x.2.2.2.1,x.1,.stmts x.2.1,x.2.2.1,3,[],.none,.none,.none,m,none,.ref c,.none,0⟩,#[]⟩
def fl:String:= "/claim/cut.py"
def r(i:Nat):Obj:=rO (fd i)
def f(i:Nat)(m:Value)(c:Nat):Obj:=fO (fd i) m c
def ci(n:Nat):Value:=.int n 0
def c (i t x v:Nat):Obj:=let y:=(fd i).2.2.2;⟨.type "code",none,.fields #[.str y.1 t,.str y.1 (t+1),vs fl (t+2),ci y.2,ci (fd i).1.args.length,ci 0,ci 0,ci 3,.ref x,.bool true,ci 181,.ref (x+1),.none,if v == 0 then .none else .ref (x+2),if v == 0 then .none else .ref (x+3),.ref (if v == 0 then x+2 else x+4),ci (t+3+v),ci y.2,vs fl (t+4+v)],#[]⟩
def e(P:Params)(i t a:Nat):DictEntry:=let y:=(fd i).2.2.2.1;⟨PyData.keyHash P y,.str y t,.ref a⟩
def bt(P:Params):List DictEntry:=match (boot_o_3 P).data with
  |.dict e _=>e.toList.tail
  |_=>[]
def m0:Value:=vs "everywidth.bits" 187
def m1:Value:=vs "everywidth.machines.found" 207
def m2:Value:=vs "everywidth.machines.least" 224
def m3:Value:=vs "everywidth.vocabulary" 260
def m4:Value:=vs "everywidth.rows" 377
def m5:Value:=vs "everywidth.machines.columns" 385
def m6:Value:=vs "everywidth.machines.made" 462
def m7:Value:=vs "everywidth.sums.texts" 490
def m8:Value:=vs "everywidth.claims.widths" 498
def m9:Value:=vs "law_everywidth_k26_widths_looked_through" 564
def mc (n:String)(t l x k:Nat):Obj:=⟨.type "code",none,.fields #[vs n t,vs n (t+1),vs fl (t+2),ci l,ci 0,ci 0,ci 0,ci 0,.ref x,.bool false,ci 181,.ref (x+1),.none,.none,.none,.none,ci k,ci l,vs fl (k+1)],#[]⟩
def fr (c d:Nat)(v:Value):Obj:=⟨.type "frame",none,.plain,#[some (.ref c),some (.ref 3),some (.ref d),none,some v,none,some (.ref 0)]⟩
def bf (a b:Value):Obj:=⟨.type "builtin_function_or_method",none,.fields #[a,b],#[]⟩
def dc (l:List DictEntry)(n:Nat):Obj:=⟨.type "dict",none,.dict ⟨l⟩ n,#[]⟩
def es (P:Params):List DictEntry:=[e P 1 197 21,e P 2 206 28,e P 4 214 33,e P 5 223 40,e P 7 231 45,e P 8 237 50,e P 9 243 55,e P 10 249 60,e P 11 259 67,en P "SUM_PARTS" 292 (.ref 68),en P "SUMS_IN_CLAIM" 308 (.ref 69),en P "CLAIMS_IN_CLAIM" 324 (.ref 70),en P "LETTERS" 326 (vs "abcdefghijklmnopqrstuvwxyz" 325),en P "LONGEST_NAME" 328 (.int 8 327),e P 18 335 77,e P 19 342 84,e P 20 349 91,e P 21 356 98,e P 22 363 105,e P 23 369 110,e P 24 376 117,e P 26 384 122,en P "REMEMBERING" 396 (.ref 123),e P 29 403 130,e P 30 409 135,e P 31 424 142,e P 32 434 149,e P 33 443 156,e P 34 453 163,e P 35 461 170,e P 37 471 177,e P 38 477 182,e P 39 483 187,e P 40 489 192,e P 42 497 197,e P 44 507 204,e P 45 514 211,e P 46 521 218,e P 47 527 223,e P 48 533 228,e P 49 544 235,e P 50 555 242,e P 51 563 249,e P 53 579 256,e P 54 590 263,e P 55 601 270,e P 56 608 277,e P 57 620 284,e P 58 634 291,e P 59 652 298,e P 60 658 303,e P 61 667 310,e P 62 677 317,e P 63 690 324,e P 64 704 331,e P 65 710 336,e P 66 720 343,e P 67 726 348]
def vl:List (Nat×Nat):=[(2,20),(7,27),(13,32),(23,39),(29,44),(38,49),(45,54),(48,59),(50,66),(62,76),(64,83),(66,90),(68,97),(70,104),(72,109),(74,116),(79,121),(83,129),(85,134),(90,141),(106,148),(117,155),(119,162),(133,169),(150,176),(152,181),(164,186),(166,191),(169,196),(172,203),(175,210),(177,217),(179,222),(181,227),(193,234),(199,241),(206,248),(212,255),(224,262),(231,269),(236,276),(248,283),(261,290),(273,297),(286,302),(290,309),(304,316),(322,323),(341,330),(352,335),(365,342),(370,347)]
def d(i x t:Nat)(l:List String)(m:Value):List Obj:=match l with
  |[]=>[t0,f0,r i,c i t x 0,f i m (x+3)]
  |l=>[t0,f0,vt (t+3) l,t0,r i,c i t x l.length,f i m (x+5)]
def nz:Nat→List Obj→PySem.W.Frag
  |_,[]=>[]
  |n,x::l=>(n,x)::nz (n+1) l
def md (P:Params) (m:String) (t e k:Nat):Obj:=⟨.type "dict",none,.dict (Array.mk (en P "__name__" 165 (vs m t)::bt P++(es P).take e)) k,#[]⟩
def tl:List (Nat×Nat)→List Value
  |[]=>[]
  |x::r=>.int x.1 0::.int 0 0::.ref x.2::tl r
def tb(c:Nat):Obj:=fi (tl (vl.take c))
def ob (P:Params):List Obj:=[boot_o_0 P,boot_o_1 P,boot_o_2 P,md P "law_everywidth_k26_widths_looked_through" 564 58 67,boot_o_4 P,boot_o_5 P,boot_o_6 P,boot_o_7 P,boot_o_8 P,boot_o_9 P,boot_o_10 P,t0,tb 52,mc "<module>" 182 1 11 185,fr 13 3 (vs "__main__" 164)]++(d 1 15 189 ["width","many","bit_number"] m0++(d 2 22 198 ["bits","number","bit"] m0++(d 4 29 209 [] m1++(d 5 34 215 ["state","states","numbers"] m1++(d 7 41 226 [] m2++(d 8 46 232 [] m2++(d 9 51 238 [] m2++(d 10 56 244 [] m2++(d 11 61 250 ["classes","firsts","state","number"] m2++([dc [en P "not" 262 (.int 1 263),en P "neg" 264 (.int 1 265),en P "twice" 266 (.int 1 267),en P "low" 268 (.int 1 269),en P "and" 270 (.int 2 271),en P "or" 272 (.int 2 273),en P "odd" 274 (.int 2 275),en P "add" 276 (.int 2 277),en P "sub" 278 (.int 2 279),en P "pick" 280 (.int 3 281)] 10,dc [en P "same" 293 (.int 2 294),en P "under" 295 (.int 2 296),en P "beneath" 297 (.int 2 298),en P "sign" 299 (.int 1 300),en P "nought" 301 (.int 1 302)] 5,dc [en P "both" 309 (.int 2 310),en P "either" 311 (.int 2 312),en P "so" 313 (.int 2 314),en P "never" 315 (.int 1 316),en P "yes" 317 (.int 0 318)] 5]++(d 18 71 329 ["text"] m3++(d 19 78 336 ["text"] m3++(d 20 85 343 ["word"] m3++(d 21 92 350 ["word"] m3++(d 22 99 357 ["word"] m3++(d 23 106 364 [] m3++(d 24 111 370 ["text"] m3++(d 26 118 379 [] m4++([vt 387 ["neg","twice","low","add","sub","same","under","beneath","nought"]]++(d 29 124 397 ["word"] m5++(d 30 131 404 [] m5++(d 31 136 410 ["words","columns","place","kept","stack","later","word","parts","held"] m5++(d 32 143 425 ["word","parts","held","one"] m5++(d 33 150 435 ["one","other","held"] m5++(d 34 157 444 ["word","parts","held","then"] m5++(d 35 164 454 ["word","parts"] m5++(d 37 171 464 ["claim","names"] m6++(d 38 178 472 [] m6++(d 39 183 478 [] m6++(d 40 188 484 [] m6++(d 42 193 492 [] m7++(d 44 198 500 ["claim","told"] m8++(d 45 205 508 ["claim"] m8++(d 46 212 515 ["claim"] m8++(d 47 219 522 [] m8++(d 48 224 528 [] m8++(d 49 229 534 ["states","steps","reached","state","led_to"] m8++(d 50 236 545 ["tail","ring","length","kept","begin"] m8++(d 51 243 556 ["ring","length"] m8++(d 53 250 566 ["script","k","cells","size","cell","turn","step","seed"] m9++(d 54 257 580 ["number","letters","some","name","k"] m9++(d 55 264 591 ["script","start","many","found","k"] m9++(d 56 271 602 ["word"] m9++(d 57 278 609 ["number","room","left","some","word","judged"] m9++(d 58 285 621 ["number","room","left","names","top","some","word","hard"] m9++(d 59 292 635 ["script","start","names","most","left","top","claim","words","parts","room","number","word"] m9++(d 60 299 653 [] m9++(d 61 304 659 ["word","one","full"] m9++(d 62 311 668 ["word","one","other","full"] m9++(d 63 318 678 ["words","full","values","pile","word","one","other"] m9++(d 64 325 691 ["names","full","found","name","longer","values","word","more"] m9++(d 65 332 705 [] m9++(d 66 337 711 ["told","width","tail","ring"] m9++(d 67 344 721 [] m9))))))))))))))))))))))))))))))))))))))))))))))))))))))
def K(P:Params):PySem.W.Frag:=nz 0 (ob P)
def od:Bool→List Obj→List Obj
  |_,[]=>[]
  |true,x::r=>x::od false r
  |false,_::r=>od true r
def tL:Nat→List Obj→BT
  |0,_=>.nil
  |_,[]=>.nil
  |k+1,x::r=>.node x (tL k (od true r)) (tL k (od false r))
def tn(P:Params)(n:Nat):BT:=tL 12 ((ob P).take n)
abbrev SS(T:BT)(n k:Nat)(o:OsState):SharedT:=⟨T,n,{},Array.mk [],{},k,o⟩
def ev:Env:={scope:=p.main.scope,locals:=mainNs,globals:=mainNs,cells:=[],code:=(.ref 13),frame:=some 14}
def c0:Code:=.body B ev
abbrev an:Option Value:=some (.ref 6)
abbrev z0:Pos:=⟨0,0,0,0⟩
abbrev q0:List Frame:=[topFrame z0]
def sg(a b:Nat):List Stmt:=(B.drop a).take b
def pc(a b:Nat)(x:Pos):Thread:=piecesOf (sg a b) ev c0 x q0
def R(w:World)(o:OsState)(n:Nat)(S:Params→BT)(a k:Nat)(t:Thread)(S':Params→BT)(a' k':Nat)(y:Pos):Prop:=segRunT treeTable p w 11 an 1 n (SS (S w.params) a k o) t=some (.next,SS (S' w.params) a' k' o,c0,y)
variable (w:World)(o:OsState)
def S0(P:Params):BT:=((tn P 15).set 3 fun _=>boot_o_3 P).set 12 fun _=>tb 0
def S1 (P:Params):BT:=((tn P 68).set 3 fun _=>md P "everywidth.vocabulary" 260 9 18).set 12 fun _=>tb 9
def S2 (P:Params):BT:=((tn P 78).set 3 fun _=>md P "everywidth.vocabulary" 260 15 24).set 12 fun _=>tb 10
def S3 (P:Params):BT:=((tn P 157).set 3 fun _=>md P "everywidth.machines.columns" 385 28 37).set 12 fun _=>tb 22
def S4 (P:Params):BT:=((tn P 236).set 3 fun _=>md P "everywidth.claims.widths" 498 41 50).set 12 fun _=>tb 35
def S5 (P:Params):BT:=((tn P 311).set 3 fun _=>md P "law_everywidth_k26_widths_looked_through" 564 52 61).set 12 fun _=>tb 46
def S6(P:Params):BT:=tn P 349
def H1(P:Params):Heap:=⟨Array.mk (ob P),{}⟩
theorem pre:topGo treeTable p w 11 an 12 ⟨boot_heap w.params,Array.mk [],boot_drawn,boot_toks,o⟩ (topStub p)=some ((SS (S0 w.params) 15 187 o).abs,⟨denote treeTable c0,c0,z0,q0⟩):=by
  rw[Fast.te15667345088766844465,Fast.te14364793385576792824,Fast.te11892475500146522536];kernel_rfl
theorem blk:segRunT treeTable p w 11 an 1 1 (SS (S0 w.params) 15 187 o) (blockOf B ev c0 z0 q0)=some (.next,SS (S0 w.params) 15 187 o,c0,z0):=by
  rw[Fast.te10110043849684766642,Fast.te14364793385576792824];kernel_rfl
theorem g1:R w o 292 S0 15 187 (pc 0 13 z0) S1 68 262 ⟨56,0,56,8⟩:=by
  unfold R;rw[Fast.te10110043849684766642,Fast.te14364793385576792824];kernel_rfl
theorem g2f:R (w.withFollow "special-get-raises" false) o 378 S1 68 262 (pc 13 6 ⟨56,0,56,8⟩) S2 78 336 ⟨62,0,63,28⟩:=by
  unfold R;rw[Fast.te10110043849684766642,Fast.te14364793385576792824];kernel_rfl
theorem g2t:R (w.withFollow "special-get-raises" true) o 378 S1 68 262 (pc 13 6 ⟨56,0,56,8⟩) S2 78 336 ⟨62,0,63,28⟩:=by
  unfold R;rw[Fast.te10110043849684766642,Fast.te14364793385576792824];kernel_rfl
theorem g2 (w:World):∀o:OsState,R w o 378 S1 68 262 (pc 13 6 ⟨56,0,56,8⟩) S2 78 336 ⟨62,0,63,28⟩:=byRow2 "special-get-raises" (P:=fun w=>∀o:OsState,R w o 378 S1 68 262 (pc 13 6 ⟨56,0,56,8⟩) S2 78 336 ⟨62,0,63,28⟩) g2f g2t w
theorem g3:R w o 390 S2 78 336 (pc 19 15 ⟨62,0,63,28⟩) S3 157 444 ⟨117,0,118,47⟩:=by
  unfold R;rw[Fast.te10110043849684766642,Fast.te14364793385576792824];kernel_rfl
theorem g4:R w o 397 S3 157 444 (pc 34 16 ⟨117,0,118,47⟩) S4 236 545 ⟨193,0,198,33⟩:=by
  unfold R;rw[Fast.te10110043849684766642,Fast.te14364793385576792824];kernel_rfl
theorem g5:R w o 371 S4 236 545 (pc 50 12 ⟨193,0,198,33⟩) S5 311 668 ⟨290,0,303,18⟩:=by
  unfold R;rw[Fast.te10110043849684766642,Fast.te14364793385576792824];kernel_rfl
theorem g6:R w o 188 S5 311 668 (pc 62 6 ⟨290,0,303,18⟩) S6 349 727 ⟨370,0,385,62⟩:=by
  unfold R;rw[Fast.te10110043849684766642,Fast.te14364793385576792824];kernel_rfl
theorem fn:topRun treeTable p w 11 an 2 (SS (S6 w.params) 349 727 o).abs ⟨doneF .next,c0,⟨370,0,385,62⟩,q0⟩=some ⟨H1 w.params,Array.mk [],{},727,o⟩:=by
  rw[Fast.te14082659384304107361,Fast.te14364793385576792824];kernel_rfl
theorem sp:B=sg 0 13++(sg 13 6++(sg 19 15++(sg 34 16++(sg 50 12++(sg 62 6++[]))))):=by kernel_rfl
theorem bl{w:World}{N:Nat}{s s' r:Shared}{b:List Stmt}{x y:Pos}{n:Nat}(e:B=b)(h:segRun treeTable p w 11 an 1 n s (blockOf B ev c0 x q0)=some (.next,s',c0,y))(k:topRun treeTable p w 11 an N s' (restOf b ev c0 y q0)=some r):topRun treeTable p w 11 an (n+N) s ⟨denote treeTable c0,c0,x,q0⟩=some r:=
  piece_block h (by rw[e];exact k)
theorem rn:topRun treeTable p w 11 an (12+(1+(292+(378+(390+(397+(371+(188+(2))))))))) ⟨boot_heap w.params,Array.mk [],boot_drawn,boot_toks,o⟩ (topStub p)=some ⟨H1 w.params,Array.mk [],{},727,o⟩:=
  go_top (pre w o) (bl sp (segRun_of (blk w o)) (piece_app (segRun_of (g1 w o)) (piece_app (segRun_of (g2 w o)) (piece_app (segRun_of (g3 w o)) (piece_app (segRun_of (g4 w o)) (piece_app (segRun_of (g5 w o)) (piece_app (segRun_of (g6 w o)) (fn w o))))))))
def rg(l:List Stmt):List (Nat×Nat)→List Stmt
  |[]=>[]
  |x::r=>(l.drop x.1).take x.2++rg l r
def vw:Program:={p with main:={p.main with body:=rg p.main.body [(1,2),(4,2),(7,5),(13,12),(26,1),(28,8),(37,4),(42,1),(44,8),(53,15)]}}
def lo:List Str:=[Str.ofString "SUM_PARTS",Str.ofString "SUMS_IN_CLAIM",Str.ofString "CLAIMS_IN_CLAIM"]
def xt(s:Shared):Bool:=xlAt vw [] s&&recOk PySem.Challenge.rw_everywidth_k26_widths_looked_through.row.toRowW.records s
def as:List Addr:=List.range 349
theorem sz:((boot_heap w.params).isNs mainGlobals&&(Array.mk []:Array GenState).size == 0,(boot_heap w.params).objs.size,(boot_heap w.params).nsMap mainGlobals "__annotations__")=(true,11,an):=by
  rw[Fast.te8920871248978507458];kernel_rfl
abbrev sh(w:World)(o:OsState):Shared:=⟨H1 w.params,Array.mk [],{},727,o⟩
theorem l1:(staticsOk (importedModules p.main.body) (boot_heap w.params) (H1 w.params)&&namesBound p (H1 w.params)&&gensDone (sh w o)&&laidKept (boot_heap w.params) (H1 w.params))=true:=by
  rw[Fast.te5923862056798008813];kernel_rfl
theorem l2:openSeen vw lo (importedModules p.main.body) xt true (sh w o)=openGood vw lo:=by
  rw[Fast.te4187177175401517315,Fast.te5923862056798008813];kernel_rfl
theorem l3:X.obsZ as (sh w o)=X.valZ K 349 727 w:=by kernel_rfl
theorem left:LeftO p vw lo xt (X.obsZ as) (X.valZ K 349 727) 4146:=
  LeftO.of_pieces (boot_open (by kernel_rfl) (by kernel_rfl) (fun _=>by kernel_rfl)) sz rn (by kernel_rfl) fun w=>funext fun o=>looks_pair (l1 w o) (looks_pair (l2 w o) (l3 w o))
end Hw
end
set_option Elab.async false
set_option linter.all false
set_option maxRecDepth 100000
noncomputable section
def Qaa:=@PySem.wpAny_bind
def Qab:=@List.length_map
def Qac:=@List.getElem?_eq_getElem
def Qad:=@PySem.Heap.get?_push_of_some
def Qae:=@PySem.wpAny_pure
def Qaf:=@List.getD_eq_getElem?_getD
def Qag:=@List.getElem?_eq_some_iff
def Qah:=@List.getElem?_map
def Qai:=@List.mem_cons_self
def Qaj:=@List.length_append
def Qak:=@Nat.le_refl
def Qal:=@List.mem_cons_of_mem
def Qam:=@PySem.Heap.get?_push_size
def Qan:=@decide_eq_true
def Qao:=@List.mem_cons
def Qap:=@decide_eq_false
def Qaq:=@PySem.Heap.lt_size
def Qar:=@List.mem_singleton
def Qas:=@List.mem_of_getElem?
def Qat:=@List.size_toArray
def Qau:=@PySem.F.plainAttrs_list
def Qav:=@List.mem_map
def Qaw:=@List.map_map
def Qax:=@if_neg
def Qay:=@List.map_append
def Qaz:=@List.getElem?_append_right
def Qa0:=@Nat.le_of_lt
def Qa1:=@List.length_replicate
def Qa2:=@List.length_take
def Qa3:=@if_pos
def Qa4:=@Option.map_eq_some_iff
def Qa5:=@PySem.F.slot_list_append
def Qa6:=@PySem.F.type_list_append
def Qa7:=@Bool.false_ne_true
def Qa8:=@List.not_mem_nil
def Qa9:=@List.getElem?_append_left
def Qba:=@List.length_cons
def Qbb:=@List.length_range
def Qbc:=@Nat.le_trans
def Qbd:=@List.mem_append
def Qbe:=@PySem.wpAny_newObj_type
def Qbf:=@PySem.wpAny_call_entry
def Qbg:=@Nat.ne_of_lt
def Qbh:=@of_decide_eq_true
def Qbi:=@List.idxOf_lt_length_of_mem
def Qbj:=@PyProof.Rows.slot_tuple_getitem
def Qbk:=@Array.length_toList
def Qbl:=@Nat.zero_le
def Qbm:=@Nat.lt_of_lt_of_le
def Qbn:=@List.mem_append_right
def Qbo:=@List.map_congr_left
def Qbp:=@Int.toNat_natCast
def Qbq:=@PySem.PassesOwn.never
def Qbr:=@List.length_drop
def Qbs:=@PySem.Heap.get?_update_self
def Qbt:=@List.mem_range
def Qbu:=@List.getElem_mem
def Qbv:=@PySem.Obj.data_mapFields
def Qbw:=@PySem.wpAny_field
def Qbx:=@List.map_cons
def Qby:=@List.append_nil
def Qbz:=@Int.emod_nonneg
def Qb0:=@Int.emod_lt_of_pos
def Qb1:=@PySem.Heap.get?_update_other
def Qb2:=@PySem.Heap.size_push
def Qb3:=@Int.ediv_eq_zero_of_lt
def Qb4:=@Bool.and_eq_true
def Qb5:=@PySem.Heap.SameBut.update
def Qb6:=@List.mem_map_of_mem
def Qb7:=@List.take_length
def Qb8:=@List.nodup_cons
def Qb9:=@PySem.wpAny_holding
def Qca:=@Int.ediv_one
def Qcb:=@List.all_eq_true
def Qcc:=@PySem.wpAny_setField_rec
def Qcd:=@List.any_eq_true
def Qce:=@Nat.lt_irrefl
def Qcf:=@Int.add_mul_emod_self_left
def Qcg:=@List.append_assoc
def Qch:=@PySem.mem_of_lookup
def Qci:=@PySem.wpAny_seqItems
def Qcj:=@PySem.wpAny_of_eq
def Qck:=@List.nodup_nil
def Qcl:=@Bool.false_eq_true
def Qcm:=@List.mem_iff_getElem?
def Qcn:=@PySem.F.slot_list_pop
def Qco:=@PySem.F.type_list_pop
def Qcp:=@List.eq_nil_of_length_eq_zero
def Qcq:=@List.reverse_cons
def Qcr:=@Nat.pow_le_pow_right
def Qcs:=@PyProof.Rows.callWith_type1
def Qct:=@PySem.Obj.isFreed_of_fields
def Qcu:=@beq_self_eq_true
def Qcv:=@decide_eq_decide
def Qcw:=@Nat.mod_two_eq_zero_or_one
def Qcx:=@List.dropLast_concat
def Qcy:=@PySem.Calls.spliced_cons
def Qcz:=@List.take_of_length_le
def Qc0:=@PySem.W.kia_one
def Qc1:=@List.foldl_cons
def Qc2:=@List.drop_eq_getElem_cons
def Qc3:=@List.all_cons
def Qc4:=@List.lookup_cons
def Qc5:=@List.filter_cons
def Qc6:=@Nat.mod_eq_of_lt
def Qc7:=@List.length_reverse
def Qc8:=@List.foldl_append
def Qc9:=@List.take_append_drop
def Qda:=@Int.emod_add_mul_ediv
def Qdb:=@Int.emod_eq_of_lt
def Qdc:=@PySem.wpAny_setField
def Qdd:=@PySem.wpAny_Call_Name_kw
def Qde:=@Int.natCast_nonneg
def Qdf:=@Int.ediv_ediv_of_nonneg
def Qdg:=@PySem.wpAny_rule
def Qdh:=@PySem.wpAny_isInstance
def Qdi:=@PySem.wpAny_mono
def Qdj:=@PySem.wpAny_truthy_bool
def Qdk:=@PySem.wpAny_attempt
def Qdl:=@Array.getElem?_eq_getElem
def Qdm:=@List.map_take
def Qdn:=@List.mem_filter
def Qdo:=@Bool.eq_iff_iff
def Qdp:=@List.find?_cons
def Qdq:=@Array.getElem?_toList
def Qdr:=@PySem.codeAny_builtin
def Qds:=@Int.pow_zero
def Qdt:=@List.getElem?_take
def Qdu:=@PySem.lookup_relabel_local
def Qdv:=@or_false
def Qdw:=@List.map_drop
def Qdx:=@Nat.lt_succ_of_lt
def Qdy:=@bne_self_eq_false
def Qdz:=@Nat.not_lt_zero
def Qd0:=@PySem.Calls.callWith_builtin
def Qd1:=@PySem.F.slot_tuple_iterator_next
def Qd2:=@Int.natCast_emod
def Qd3:=@List.filter_append
def Qd4:=@decide_eq_true_iff
def Qd5:=@Ne.symm
def Qd6:=@List.mem_append_left
def Qd7:=@PySem.wpAny_passesOwn
def Qd8:=@PySem.Calls.spliced_nil
def Qd9:=@List.of_mem_zip
def Qea:=@PySem.wpAny_specialOf
def Qeb:=@PySem.wpAny_setState_of
def Qec:=@List.nodup_append
def Qed:=@List.range_succ
def Qee:=@List.eq_of_mem_replicate
def Qef:=@Nat.ne_of_gt
def Qeg:=@Int.pow_succ
def Qeh:=@List.filterMap_cons
def Qei:=@beq_eq_false_iff_ne
def Qej:=@PySem.plainId_quiet
def Qek:=@PySem.wpAny_setEntries_of
def Qel:=@List.getElem?_range
def Qem:=@Nat.lt_succ_self
def Qen:=@List.drop_length
def Qeo:=@Nat.mod_lt
def Qep:=@List.drop_zero
def Qeq:=@List.length_pos_of_mem
def Qer:=@PySem.F.plain_max_loop
def Qes:=@Nat.lt_of_le_of_lt
def Qet:=@List.length_zip
def Qeu:=@Nat.le_succ
def Qev:=@List.length_nil
def Qew:=@PySem.F.slot_enumerate_next
def Qex:=@PySem.F.called_set
def Qey:=@Nat.min_eq_left
def Qez:=@Int.mul_comm
def Qe0:=@Int.pow_pos
def Qe1:=@Nat.sub_self
def Qe2:=@List.getElem?_eq_none
def Qe3:=@List.length_filter_le
def Qe4:=@PySem.wpAny_pyIter_list
def Qe5:=@PySem.Obj.cls_mapFields
def Qe6:=@List.pairwise_map
def Qe7:=@PySem.Calls.evalArgs_plain
def Qe8:=@List.getElem?_of_mem
def Qe9:=@Nat.mul_le_mul_right
def Qfa:=@List.replicate_succ'
def Qfb:=@PySem.Calls.call_function_entry
def Qfc:=@PySem.wpAny_letGo
def Qfd:=@Int.toNat_of_nonneg
def Qfe:=@PySem.codeAny_mono
def Qff:=@PySem.F.args_tuple_add_2
def Qfg:=@Nat.zero_add
def Qfh:=@List.length_erase_of_mem
def Qfi:=@Int.ne_of_gt
def Qfj:=@Nat.pow_succ
def Qfk:=@PySem.Paired.length
def Qfl:=@PySem.F.entry_tuple_add
def Qfm:=@Option.map_some
def Qfn:=@PySem.tupleKind_room_in1
def Qfo:=@PySem.wpAny_updateSeq
def Qfp:=@of_decide_eq_false
def Qfq:=@PySem.F.slot_zip_next
def Qfr:=@List.idxOf_cons
def Qfs:=@Nat.add_assoc
def Qft:=@PySem.F.slot_tuple_add
def Qfu:=@PySem.wpAny_Call_method_late
def Qfv:=@PySem.F.entry_max_loop
def Qfw:=@PySem.wpAny_pyIter_slot
def Qfx:=@List.ext_getElem?
def Qfy:=@PySem.isSubtype_stop
def Qfz:=@PySem.wpAny_tryCatch
def Qf0:=@PySem.wpAny_typeOf
def Qf1:=@Nat.add_comm
def Qf2:=@Int.add_mul_ediv_left
def Qf3:=@Nat.le_add_right
def Qf4:=@PySem.Around.frames_deeper
def Qf5:=@PySem.Around.under_plainId
def Qf6:=@PySem.wpAny_updateSeq_pair
def Qf7:=@Bool.and_eq_true_iff
def Qf8:=@List.mem_erase_of_ne
def Qf9:=@List.any_cons
def Qga:=@PySem.F.args_tuple_iterator_next_1
def Qgb:=@List.map_id''
def Qgc:=@PySem.Value.isStrOf_shape
def Qgd:=@PySem.wpAny_execs_nil
def Qge:=@PyProof.Rows.entry_tuple_getitem
def Qgf:=@PySem.wpAny_mkInt
def Qgg:=@PySem.F.entry_tuple_iterator_next
def Qgh:=@List.map_id
def Qgi:=@List.replicate_zero
def Qgj:=@List.length_pos_iff
def Qgk:=@List.mem_filterMap
def Qgl:=@PySem.W.callWith_K
def Qgm:=@PyProof.Rows.args_tuple_getitem
def Qgn:=@Nat.succ_mul
def Qgo:=@Nat.min_self
def Qgp:=@Nat.mul_comm
def Qgq:=@PySem.wpAny_forIn_array'
def Qgr:=@Nat.lt_or_ge
def Qgs:=@Int.emod_one
def Qgt:=@Nat.add_zero
def Qgu:=@Nat.eq_zero_or_pos
def Qgv:=@List.getElem?_drop
def Qgw:=@Nat.mod_eq_sub_mod
def Qgx:=@Nat.add_sub_cancel
def Qgy:=@PyProof.Rows.slicePart_none
def Qgz:=@Bool.and_false
def Qg0:=@PySem.wpAny_newTuple
def Qg1:=@PySem.wpAny_fieldsOf
def Qg2:=@PySem.wpAny_sequenceKey
def Qg3:=@Option.isSome_map
def Qg4:=@Array.toList_push
def Qg5:=@PySem.fits_of_scanBound
def Qg6:=@List.take_add_one
def Qg7:=@decide_eq_true_eq
def Qg8:=@PySem.wpAny_setEpoch_of
def Qg9:=@Nat.not_lt
def Qha:=@List.flatMap_cons
def Qhb:=@Nat.add_mod_right
def Qhc:=@PySem.wpAny_handled
def Qhd:=@PySem.sizeLine_eq
def Qhe:=@PySem.wpAny_onRaise
def Qhf:=@PySem.wpAny_pyHash_int
def Qhg:=@PySem.noFill_tuple_add
def Qhh:=@Nat.le_of_not_lt
def Qhi:=@List.getElem_zip
def Qhj:=@PySem.wpAny_askSetting
def Qhk:=@PySem.SeqAt.EqAt.same
def Qhl:=@Nat.le_of_eq
def Qhm:=@PyProof.Rows.entry_list_sort
def Qhn:=@Nat.two_pow_pos
def Qho:=@Nat.sub_zero
def Qhp:=@Int.zero_add
def Qhq:=@Nat.le_antisymm
def Qhr:=@Nat.zero_mul
def Qhs:=@List.nil_append
def Qht:=@Nat.div_add_mod
def Qhu:=@and_congr_right
def Qhv:=@Prod.ext
def Qhw:=@PySem.seqIndex_of
def Qhx:=@PySem.wpAny_throw
variable {i n L:Nat}
variable {a f U:PySem.Addr}
variable {x:PySem.Str}
variable {e o:PySem.Expr}
variable {N:List PySem.Str}
variable {p m:PySem.Pos}
variable {v:PySem.Value}
variable {S:List Nat}
variable {Q:PySem.Value->PySem.Shared->Prop}
variable {K:PySem.W.Frag}
variable {z:Int}
variable {j:Bool}
variable {s:PySem.Shared}
variable {h:PySem.Heap}
variable {R:List (List Nat)}
variable {d:Type}
variable {P:PySem.Program}
variable {w:PySem.World}
variable {g:List (PySem.Addr×PySem.Obj)}
variable {A:List PySem.Expr}
variable {B:List Bool}
variable {C:Array PySem.Value}
variable {D:List Int}
variable {J:List PySem.Value}
variable {M:List PySem.Addr}
variable {Z:PySem.Obj}
section
open PySem
abbrev Aa:=Option Value->Shared->Prop
abbrev Ab:=Value->Shared->Prop
abbrev Ac:=List (Addr×Obj)
abbrev Ad:=List (List Nat)
abbrev Ae:=Str->Option Value
abbrev Af:=PySem.W.Frag
abbrev Ag:=List Value
abbrev Ah:=Array Value
abbrev Ai:=List Str
abbrev Aj:=List Nat
abbrev Ak:=List Int
abbrev Am:=List Bool
abbrev An:=List Expr
abbrev Ao:=FuncData
abbrev Aq:=Program
abbrev Ar:=Around
abbrev As:=Shared
abbrev Au:=World
abbrev Av:=Value
abbrev Aw:=Addr
abbrev Ax:=Expr
abbrev Ay:=Stmt
abbrev A3{q:Type}(p:Program)(w:World):=@wpAny q (model p w)
end
open PySem PySem.Spec PyProof.Rows
namespace L2
def g9:0<=sizeLine:=by decide
def Zk7:1<=sizeLine:=by decide
def vx:2<=sizeLine:=by decide
def Zmj:3<=sizeLine:=by decide
def zln4:4<=sizeLine:=by decide
def zln5:5<=sizeLine:=by decide
def zln6:6<=sizeLine:=by decide
def zln10:10<=sizeLine:=by decide
def zln11:11<=sizeLine:=by decide
def zln16:16<=sizeLine:=by decide
abbrev Key:=Sum Int Str
def qd:Key->Value->Bool
 |.inl k,v=>Value.isInt k v
 |.inr x,v=>Value.isStrOf x v
def keyH(w:Au):Key->Int
 |.inl k=>hashInt k
 |.inr x=>hashStr w x
theorem Ym:∀{k:Key} {v:Av},qd k v=true->(∃i t,k=Sum.inl i/\v=Value.int i t)\/(∃x t,k=Sum.inr x/\v=Value.str x t)
 |.inl i,v,h=>by
  obtain⟨t,e⟩:=Value.isInt_shape (k:=i) (v:=v) h;exact .inl ⟨i,t,rfl,e⟩
 |.inr x,v,h=>by
  obtain⟨t,e⟩:=Qgc (x:=x) (v:=v) h;exact .inr ⟨x,t,rfl,e⟩
def uO(i:Int)(t:Tok):qd (.inl i) (.int i t)=true:=by simp[qd,Value.isInt]
def uP(x:Str)(t:Tok):qd (.inr x) (.str x t)=true:=by simp[qd,Value.isStrOf]
def key_ll(a b:Int):decide ((Sum.inl a:Key)=Sum.inl b)=(a == b):=by grind
def key_rr(a b:Str):decide ((Sum.inr a:Key)=Sum.inr b)=decide (a=b):=by grind
def key_lr(a:Int)(b:Str):decide ((Sum.inl a:Key)=Sum.inr b)=false:=by grind
def key_rl(a:Str)(b:Int):decide ((Sum.inr a:Key)=Sum.inl b)=false:=by grind
def ZI(prog:Aq)(w:Au):PySem.KeyKind prog w Key where
 is:=qd
 hash:=keyH w
 inj:=fun v a b ha C=>by
  rcases Ym ha with⟨i,t,rfl,rfl⟩|⟨x,t,rfl,rfl⟩
  ·rcases Ym C with⟨j,u,rfl,e⟩|⟨y,u,rfl,e⟩
   ·injection e with e1 _;rw[e1]
   ·exact nomatch e
  ·rcases Ym C with⟨j,u,rfl,e⟩|⟨y,u,rfl,e⟩
   ·exact nomatch e
   ·injection e with e1 _;rw[e1]
 byValue:=fun k v h=>by
  rcases Ym h with⟨i,t,rfl,rfl⟩|⟨x,t,rfl,rfl⟩<;>rfl
 pyHash:=fun q h=>by
  rcases Ym q with⟨i,t,rfl,rfl⟩|⟨x,t,rfl,rfl⟩
  ·exact Qhf h
  ·exact wpAny_pyHash_str h
 eqBool:=fun D q h=>by
  rcases Ym D with⟨i,t,rfl,rfl⟩|⟨x,t,rfl,rfl⟩
  ·rcases Ym q with⟨j,u,rfl,rfl⟩|⟨y,u,rfl,rfl⟩
   ·rw[key_ll]at h;exact wpAny_eqBool_int h
   ·rw[key_lr]at h;exact SeqAt.EqAt.int_str i t y u _ _ _ _ h
  ·rcases Ym q with⟨j,u,rfl,rfl⟩|⟨y,u,rfl,rfl⟩
   ·rw[key_rl]at h;exact SeqAt.EqAt.str_int x t j u _ _ _ _ h
   ·rw[key_rr]at h;exact wpAny_eqBool_str h
 «strs»:=fun k x t v h=>by
  rcases Ym h with⟨i,u,rfl,e⟩|⟨y,u,rfl,e⟩
  ·exact nomatch e
  ·injection e with e1 _;subst e1;cases v<;>rfl
def gB(prog:Aq)(w:Au)(k:Key)(v:Av):(ZI prog w).is k v=qd k v:=rfl
def vz(prog:Aq)(w:Au)(i:Int)(t:Tok):(ZI prog w).is (.inl i) (.int i t)=true:=uO i t
def Jf(prog:Aq)(w:Au)(x:Str)(t:Tok):(ZI prog w).is (.inr x) (.str x t)=true:=uP x t
inductive V where
 |non|bl (b:Bool)|int (i:Int)|str (x:Str)|byt (b:Array UInt8)|flt (b:UInt64)|ref (a:Aw)|ty (n:String)
 deriving DecidableEq
def RelV:V->Value->Prop
 |.non,u=>u=Value.none
 |.bl b,u=>u=Value.bool b
 |.int i,u=>∃t,u=Value.int i t
 |.str x,u=>∃t,u=Value.str x t
 |.byt b,u=>∃t,u=Value.bytes b t
 |.flt b,u=>∃t,u=Value.float b t
 |.ref a,u=>u=Value.ref a
 |.ty n,u=>u=Value.type n
abbrev Vals:List V->List Av->Prop:=Paired RelV
def Vals.length{xs:List V}{q:Ag}(r:Vals xs q):xs.length=q.length:=Qfk r
theorem Vals.get:∀{xs:List V} {q:Ag} {i:Nat} {x:V},Vals xs q->xs[i]?=some x->∃u,q[i]?=some u/\RelV x u
 |_,_,_,_,.nil,e=>by simp at e
 |_,_,0,_,.cons r _,e=>by grind
 |_,_,i+1,x,.cons _ t,e=>by
  obtain⟨u,h1,h2⟩:=Vals.get (i:=i) (x:=x) t (by simpa using e);exact⟨u,by simpa using h1,h2⟩
theorem Vals.set{x:V}{u:Av}(r:RelV x u):∀{xs:List V} {C:Ag} (i:Nat),Vals xs C->Vals (xs.set i x) (C.set i u)
 |_,_,_,.nil=>.nil
 |_,_,0,.cons _ t=>.cons r t
 |_,_,i+1,.cons q t=>.cons q (Vals.set r i t)
theorem Vals.append:∀{xs ys:List V} {C q:Ag},Vals xs C->Vals ys q->Vals (xs++ys) (C++q)
 |_,_,_,_,.nil,s=>s
 |_,_,_,_,.cons r t,s=>.cons r (Vals.append t s)
theorem Vals.take:∀{xs:List V} {q:Ag} (n:Nat),Vals xs q->Vals (xs.take n) (q.take n)
 |_,_,0,_=>.nil
 |_,_,_+1,.nil=>.nil
 |_,_,n+1,.cons r t=>.cons r (Vals.take n t)
theorem Vals.drop:∀{xs:List V} {q:Ag} (n:Nat),Vals xs q->Vals (xs.drop n) (q.drop n)
 |_,_,0,r=>r
 |_,_,_+1,.nil=>.nil
 |_,_,n+1,.cons _ t=>Vals.drop n t
def gC:Option V->Option Av->Prop
 |some v,some u=>RelV v u
 |none,none=>True
 |_,_=>False
def KV:List (d×V)->List (d×Av)->Prop:=Paired fun(p:d×V) (q:d×Av)=>p.1=q.1/\RelV p.2 q.2
def kV:Key->V
 |.inl i=>.int i
 |.inr x=>.str x
inductive HO where
 /-- a list -/
 |lst (xs:List V)
 /-- a tuple (never changes) -/
 |tup (xs:List V)
 /-- a dict whose keys are ints and texts; one whose keys are tuples of ints and texts (the empty one is both) -/
 |dK (kvs:List (Key×V))|dT (kvs:List (List Key×V))
 /-- a set of ints: its members, its size -/
 |set (S:Int->Bool) (n:Nat)
 /-- an instance of the class at C, its dict at dx, its attributes -/
 |ins (C dx:Aw) (fs:List (Str×V))
 /-- the dict of the instance at x -/
 |own (x:Aw)
 /-- the dict of an exception -/
 |xd (fs:List (Str×V))
 /-- a bound method, f of x -/
 |met (f x:Aw)
 /-- a range object lo, lo + 1, .. below hi -/
 |rng (lo hi:Int)
 /-- a thing that is known to the object (the script; a dict while a loop walks it): read, never written while it is so -/
 |frz (o:Obj) (u:HO)
 /-- a code object's table -/
 |tbl (ps:Ah)
 /-- any other thing, by what is true of its one object (a def of one's own: SetO a S n := HO.ext fun h => ..) -/
 |ext (φ:Heap->Prop)
abbrev Hp:=Aw->Option HO
def upd(H:Hp)(a:Aw)(o:HO):Hp:=fun b=>if b=a then some o else H b
def Za{H:Hp}{o:HO}:upd H a o a=some o:=by unfold upd;rw[Qa3 rfl]
def Zk{H:Hp}{b:Aw}{o:HO}(h:b≠a):upd H a o b=H b:=by unfold upd;rw[Qax h]
def v3{H:Hp}{o u:HO}:upd (upd H a o) a u=upd H a u:=by
 funext b;unfold upd;split<;>rfl
def Xm{H:Hp}{b:Aw}{o u:HO}(h:H a=some o)(h':H b=some u)(d:o≠u):a≠b:=by grind
def Zm{H:Hp}{b:Aw}{o:HO}(h:H a=some o)(h':H b=none):a≠b:=by grind
def v8 (h:Heap) (a:Aw) (xs:Ah):Prop:=∃o,h.get? a=some o/\o.cls=.type "tuple" /\ (∃n,o.data=.seq xs n)/\o.dict=none
def v8.tup{h:Heap}{a:Aw}{xs:Ah}(p:v8 h a xs):IsTup h a xs:=let⟨o,e,c,d,_⟩:=p;⟨o,e,c,d⟩
def v8.new (h:Heap) (xs:Ah):v8 (h.push {cls:=.type "tuple",data:=.seq xs}) h.objs.size xs:=⟨_,Qam _ rfl,rfl,⟨_,rfl⟩,rfl⟩
def v8.lt{h:Heap}{a:Aw}{xs:Ah}(p:v8 h a xs):a<h.objs.size:=p.tup.lt
section
variable (P:Aq)(w:Au)
def Y2(H:Hp)(h:Heap)(a:Aw):HO->Prop
 |.lst xs=>xs.length<=sizeLine/\∃(D:Ag) (n:Nat),Vals xs D/\h.get? a=some {cls:=.type "list",data:=.seq D.toArray n}
 |.tup xs=>xs.length<=sizeLine/\∃D:Ag,Vals xs D/\v8 h a D.toArray
 |.dK kvs=>kvs.length<=sizeLine/\(a == sysModules)=false/\∃vs,KV kvs vs/\h.DictOf (ZI P w) a vs
 |.dT kvs=>kvs.length<=sizeLine/\(a == sysModules)=false/\∃xs:List (List Key×Aw×Av),
   Paired (fun(p:List Key×V) (q:List Key×Aw×Av)=>p.1=q.1/\H q.2.1=some (.tup (p.1.map kV))/\RelV p.2 q.2.2) kvs xs /\
   ∃o es ep,h.get? a=some o/\o.ExactDict/\o.data=.dict es ep/\es.toList=xs.map (entryOfKey (tupleKind (ZI P w)))/\(xs.map (·.1)).Nodup
 |.set S n=>h.SetOf (intKind P w) a S n
 |.ins C dx fs=>H dx=some (.own a)/\fs.length<=1000/\dx≠a/\h.get? a=some (PySem.W.instObj C dx) /\
   ∃mA,h.Ns1 dx mA/\(∀f,gC (fs.lookup f) (mA f))/\PySem.Within mA (fs.map (·.1))
 |.own _=>∃o,h.get? a=some o
 |.xd fs=>∃mA,h.Ns1 a mA/\∀f,gC (fs.lookup f) (mA f)
 |.rng lo hi=>∃t u v,h.get? a=some {cls:=.type "range",data:=.fields #[.int lo t,.int hi u,.int 1 v]}
 |.frz o u=>h.get? a=some o/\Y2 H h a u
 |.tbl ps=>h.get? a=some {cls:=.none,data:=.fields ps}
 |.met f x=>h.get? a=some (PySem.W.methodObj (.ref f) (.ref x))
 |.ext φ=>φ h/\(∃o,h.get? a=some o)/\∀h1 h2:Heap,φ h1->(∀o,h1.get? a=some o->h2.get? a=some o)->φ h2
def HOk(H:Hp)(h:Heap):Prop:=∀a o,H a=some o->Y2 P w H h a o
end
section
variable {P:Aq}{w:Au}{H H':Hp}{h h':Heap}{a:Aw}{o:HO}
def Y2.lt(x:Y2 P w H h a o):a<h.objs.size:=by
 cases o with
 |lst xs=>obtain⟨_,_,_,_,e⟩:=x;exact Qaq e
 |tup xs=>obtain⟨_,_,_,p⟩:=x;exact p.lt
 |dK kvs=>obtain⟨_,_,_,_,o,_,_,e,_⟩:=x;exact Qaq e
 |dT kvs=>obtain⟨_,_,_,_,o,_,_,e,_⟩:=x;exact Qaq e
 |set S n=>obtain⟨o,_,_,_,e,_⟩:=x;exact Qaq e
 |ins C dx fs=>obtain⟨_,_,_,e,_⟩:=x;exact Qaq e
 |own y=>obtain⟨_,e⟩:=x;exact Qaq e
 |xd fs=>obtain⟨_,⟨_,_,_,e,_⟩,_⟩:=x;exact Qaq e
 |rng lo hi=>obtain⟨_,_,_,e⟩:=x;exact Qaq e
 |frz ob u=>obtain⟨e,_⟩:=x;exact Qaq e
 |tbl ps=>exact Qaq (show h.get? a=some _ from x)
 |met f y=>exact Qaq (show h.get? a=some _ from x)
 |ext φ=>obtain⟨_,⟨_,e⟩,_⟩:=x;exact Qaq e
theorem Paired.mapP{α β:Type}{F G:α->β->Prop}:∀{C:List α} {q:List β},Paired F C q->(∀a b,F a b->G a b)->Paired G C q
 |_,_,.nil,_=>.nil
 |_,_,.cons r t,f=>.cons (f _ _ r) (Paired.mapP t f)
theorem Y2.stay(x:Y2 P w H h a o)(k:∀b u,(b=a\/H b=some (.own a))->h.get? b=some u->h'.get? b=some u)
  (ho:∀b,H b=some (.own a)->H' b=some (.own a)) (F:∀b xs,H b=some (.tup xs)->H' b=some (.tup xs)):Y2 P w H' h' a o:=by
 induction o with
 |lst xs=>obtain⟨z,D,n,r,e⟩:=x;exact⟨z,D,n,r,k _ _ (.inl rfl) e⟩
 |tup xs=>obtain⟨z,D,r,ob,e,c⟩:=x;exact⟨z,D,r,ob,k _ _ (.inl rfl) e,c⟩
 |dK kvs=>obtain⟨z,y,vs,r,ob,es,ep,e,c⟩:=x;exact⟨z,y,vs,r,ob,es,ep,k _ _ (.inl rfl) e,c⟩
 |dT kvs=>
  obtain⟨z,y,xs,r,ob,es,ep,e,c⟩:=x;exact⟨z,y,xs,Paired.mapP r fun p q z=>⟨z.1,F _ _ z.2.1,z.2.2⟩,ob,es,ep,k _ _ (.inl rfl) e,c⟩
 |set S n=>obtain⟨ob,es,ep,t,e,c⟩:=x;exact⟨ob,es,ep,t,k _ _ (.inl rfl) e,c⟩
 |ins C dx fs=>
  obtain⟨d,z,ne,e,mA,⟨od,es,ep,e2,c⟩,r⟩:=x;exact⟨ho _ d,z,ne,k _ _ (.inl rfl) e,mA,⟨od,es,ep,k _ _ (.inr d) e2,c⟩,r⟩
 |own y=>obtain⟨ob,e⟩:=x;exact⟨ob,k _ _ (.inl rfl) e⟩
 |xd fs=>obtain⟨mA,⟨od,es,ep,e,c⟩,r⟩:=x;exact⟨mA,⟨od,es,ep,k _ _ (.inl rfl) e,c⟩,r⟩
 |rng lo hi=>obtain⟨t,u,v,e⟩:=x;exact⟨t,u,v,k _ _ (.inl rfl) e⟩
 |frz ob u G=>obtain⟨e,q⟩:=x;exact⟨k _ _ (.inl rfl) e,G q⟩
 |tbl ps=>
  have e:h.get? a=some {cls:=.none,data:=.fields ps}:=x;exact k a _ (.inl rfl) e
 |met f y=>
  have e:h.get? a=some (PySem.W.methodObj (.ref f) (.ref y)):=x;exact k a _ (.inl rfl) e
 |ext φ=>obtain⟨p,⟨o,e⟩,st⟩:=x;exact⟨st _ _ p fun o q=>k _ _ (.inl rfl) q,⟨o,k _ _ (.inl rfl) e⟩,st⟩
def HOk.lt(x:HOk P w H h)(e:H a=some o):a<h.objs.size:=(x a o e).lt
def HOk.fresh(x:HOk P w H h)(e:h.objs.size<=a):H a=none:=by
 cases q:H a with
 |none=>rfl
 |some u=>exact absurd (Qbm (x.lt q) e) (Qce _)
theorem HOk.kept(x:HOk P w H h)(k:∀b u,h.get? b=some u->h'.get? b=some u):HOk P w H h':=fun a o e=>
 (x a o e).stay (fun b u _ q=>k b u q) (fun _ q=>q) fun _ _ q=>q
theorem HOk.laid(x:HOk P w H h)(k:∀b u,h.get? b=some u->h'.get? b=some u)(F:h.objs.size<=a)(new:Y2 P w (upd H a o) h' a o):HOk P w (upd H a o) h':=fun b u e=>by
 have C:=x.fresh F
 by_cases D:b=a
 ·subst D;rw[Za]at e;cases e;exact new
 ·rw[Zk D]at e;exact(x b u e).stay (fun c v _ q=>k c v q) (fun c q=>by rw[Zk (Zm q C)];exact q) fun c xs q=>by rw[Zk (Zm q C)];exact q
end
def Rd(H:Hp)(a:Aw)(u:HO):Prop:=H a=some u\/∃o,H a=some (.frz o u)
def Rd.ok{H:Hp}{u:HO}(r:Rd H a u)(x:HOk P w H h):Y2 P w H h a u:=by
 rcases r with r|⟨o,r⟩
 ·exact x a u r
 ·obtain⟨_,q⟩:=x a _ r;exact q
def Mut:Option HO->Prop
 |some (.lst _)=>True
 |some (.dK _)=>True
 |some (.dT _)=>True
 |some (.set _ _)=>True
 |some (.ins _ _ _)=>True
 |some (.ext _)=>True
 |_=>False
section
variable {P:Aq}{w:Au}{H:Hp}{h h':Heap}{x e:Aw}{o':HO}
def HOk.write(ok:HOk P w H h)(G:Mut (H x))(O:e=x\/H e=some (.own x))(k:∀b u,b≠e->h.get? b=some u->h'.get? b=some u)(I:∃u,h'.get? e=some u)
  (new:Y2 P w (upd H x o') h' x o'):HOk P w (upd H x o') h':=fun b u q=>by
 have F:∀c y,H c=some (.own y)->c≠x:=fun c y r z=>by subst z;rw[r]at G;exact G
 have C:∀c xs,H c=some (.tup xs)->c≠x:=fun c xs r z=>by subst z;rw[r]at G;exact G
 by_cases L:b=x
 ·subst L;rw[Za]at q;cases q;exact new
 ·rw[Zk L]at q
  by_cases D:b=e
  ·have q':H b=some (.own x):=by
    grind
   rw[q]at q';cases q';obtain⟨v,M⟩:=I;exact⟨v,by rw[D];exact M⟩
  ·refine(ok b u q).stay (fun c v J r=>k c v ?_ r) (fun c r=>by rw[Zk (F c b r)];exact r) fun c xs r=>by rw[Zk (C c xs r)];exact r
   rcases J with rfl|J
   ·exact D
   ·grind
end
structure Un(fs ex:List Aw)(H H':Hp)(h h':Heap):Prop where
 keep:∀b o,h.get? b=some o->H b=none->b∉fs->b∉ex->h'.get? b=some o
 slot:∀b o,h.get? b=some o->H b=none->b∈fs->b∉ex->∃sl,h'.get? b=some {o with slots:=sl}
 free:∀b o,h.get? b=some o->H b=none->b∉ex->H' b=none
 there:∀b o,h.get? b=some o->b∉ex->∃o',h'.get? b=some o'
 tups:∀b xs,H b=some (.tup xs)->H' b=some (.tup xs)
 frzs:∀b o u,H b=some (.frz o u)->H' b=some (.frz o u)
 tbls:∀b ps,H b=some (.tbl ps)->∃more,H' b=some (.tbl (ps++more))
section
variable {fs fs' ex ex':List Aw}{H H1 H2:Hp}{h h1 h2 h':Heap}{a x e:Aw}{o:HO}
def Un.any(u:Un fs ex H H1 h h1){b:Aw}(q:h.get? b=some Z)(n:H b=none)(D:b∉ex):∃F,h1.get? b=some {Z with slots:=F}:=by
 by_cases C:b∈fs
 ·exact u.slot b Z q n C D
 ·exact⟨Z.slots,u.keep b Z q n C D⟩
theorem Un.kept(k:∀b u,h.get? b=some u->h'.get? b=some u):Un fs ex H H h h':=
 ⟨fun b ob q _ _ _=>k b ob q,fun b ob q _ _ _=>⟨ob.slots,k b ob q⟩,fun _ _ _ n _=>n,fun b ob q _=>⟨ob,k b ob q⟩,fun _ _ q=>q,fun _ _ _ q=>q,fun _ ps q=>⟨#[],by rw[q];simp⟩⟩
def Un.refl:Un fs ex H H h h:=Un.kept fun _ _ q=>q
theorem Un.laid(k:∀b u,h.get? b=some u->h'.get? b=some u)(D:h.objs.size<=a)(C:H a=none):Un fs ex H (upd H a o) h h' where
 keep:=fun b u q _ _ _=>k b u q
 slot:=fun b u q _ _ _=>⟨u.slots,k b u q⟩
 free:=fun b u q n _=>by rw[Zk (Qbg (Qbm (Qaq q) D))];exact n
 there:=fun b u q _=>⟨u,k b u q⟩
 tups:=fun b xs q=>by rw[Zk (Zm q C)];exact q
 frzs:=fun b u xs q=>by rw[Zk (Zm q C)];exact q
 tbls:=fun b ps q=>⟨#[],by rw[Zk (Zm q C),q];simp⟩
def Un.write(D:Mut (H x))(L:e=x\/H e=some (.own x))(k:∀b u,b≠e->h.get? b=some u->h'.get? b=some u)(G:∃u,h'.get? e=some u):Un fs ex H (upd H x o) h h':=by
 have J:∀b,H b=none->b≠x:=fun b n z=>by subst z;rw[n]at D;exact D
 have I:∀b,H b=none->b≠e:=fun b n z=>by
  grind
 have F:∀b u,H b=some u->¬Mut (some u)->b≠x:=fun b u q nm z=>by subst z;rw[q]at D;exact nm D
 refine⟨fun b u q n _ _=>k b u (I b n) q,fun b u q n _ _=>⟨u.slots,k b u (I b n) q⟩,fun b u q n _=>by rw[Zk (J b n)];exact n,fun b u q _=>?_,
  fun b xs q=>by rw[Zk (F b _ q fun z=>z)];exact q,fun b u xs q=>by rw[Zk (F b _ q fun z=>z)];exact q,fun b ps q=>⟨#[],by rw[Zk (F b _ q fun z=>z),q];simp⟩⟩
 by_cases C:b=e
 ·subst C;exact G
 ·exact⟨u,k b u C q⟩
end
def trk(h:Heap)(H:Hp):List Aw:=(List.range h.objs.size).filter fun a=>(H a).isSome
def uQ(h:Heap)(H:Hp):Heap:=PySem.W.hideAll h (trk h H)
def uR(h:Heap)(H:Hp):(uQ h H).objs.size=h.objs.size:=PySem.W.hideAll_size _ _
theorem Zd4{H:Hp}{b:Aw}{o:Obj}(e:h.get? b=some o)(n:H b=none):(uQ h H).get? b=some o:=
 PySem.W.hideAll_get _ e fun C=>by
  have q:(H b).isSome=true:=(Qdn.mp C).2;rw[n]at q;simp at q
def Zhm{H:Hp}{b:Aw}{o:Obj}(e:(uQ h H).get? b=some o):h.get? b=some o/\H b=none:=by
 have C:h.get? b=some o:=PySem.W.of_hideAll (trk h H) e;refine⟨C,?_⟩;cases q:H b with
 |none=>rfl
 |some x=>
  have D:b∈trk h H:=Qdn.mpr ⟨Qbt.mpr (Qaq C),by simp[q]⟩;have z:(uQ h H).get? b=none:=PySem.W.hideAll_none (trk h H) D;rw[z]at e;cases e
structure Mod(K:Af)(mg:Ae)(base:Heap):Prop where
 kin:K.In base
 glob:base.Ns mainGlobals mg
 blt:∃mb,base.Ns builtinsNs mb/\∀x:Str,x ≠ "__name__" ->mb x=bootBuiltins x
 nolimit:base.NoLimit
set_option genInjectivity false in
set_option genSizeOfSpec false in
structure Cx where
 prog:Aq
 w:Au
 K:Af
 mg:Ae
 base:Heap
 A:Ar
 N:Ai
 s₀:As
 H₀:Hp
 env:Env
 outer:List Env
 stack:List Env
 ex:List Aw
 fn:Str->Bool
 calm:Bool
 pn:Ac
 xe:Ab
abbrev A4{q:Type}(X:Cx):=@wpAny q (model X.prog X.w) X.A
def frs(l:List Env):List Aw:=l.filterMap (·.frame)
abbrev Cx.fs(X:Cx):List Aw:=frs X.outer
def Vis(q:Scope)(x:Str):Prop:=q.names.lookup x=some .local\/q.names.lookup x=some .cell\/q.names.lookup x=some .free
def Loc(q:Scope)(x:Str):Prop:=q.names.lookup x=some .local\/q.names.lookup x=some .cell
def Look(env:Env)(h:Heap)(m:Ae)(x:Str)(u:Av):Prop:=
 (env.kindOf x=some .local/\m x=some u)\/((env.kindOf x=some .cell\/env.kindOf x=some .free)/\∃c,env.cells.lookup x=some c/\h.IsCell c (some u))
set_option genInjectivity false in
set_option genSizeOfSpec false in
structure Cx.Ok(X:Cx):Prop where
 mod:Mod X.K X.mg X.base
 kind:X.env.scope.kind=.function
 glob:X.env.globals=mainGlobals
 blt:X.env.builtins=builtinsNs
 above:X.s₀.heap.objs.size<=X.env.locals
 inj:∀x y c,X.env.cells.lookup x=some c->X.env.cells.lookup y=some c->x=y
 has:∀x,(X.env.kindOf x=some .cell\/X.env.kindOf x=some .free)->∃c,X.env.cells.lookup x=some c
 cab:∀x c,X.fn x=true->X.env.cells.lookup x=some c->X.s₀.heap.objs.size<=c
 hd:X.calm=true->X.A.handled=none
 frames:X.A.frames=some X.stack
 stk:X.stack=X.outer\/(X.stack=X.env::X.outer/\X.env.frame=some X.env.locals)
 exf:∀b∈X.ex,b≠X.env.locals/\∀x c,X.env.cells.lookup x=some c->c≠b
 bs:∀b o,X.base.get? b=some o->X.s₀.heap.get? b=some o/\X.H₀ b=none
 bsz:X.base.objs.size<=X.s₀.heap.objs.size
 noex:∀b o,X.base.get? b=some o->b∉X.ex
 exfs:∀b∈X.ex,b∉X.fs
 funs:X.s₀.heap.FunFrames X.base X.outer
 frf:∀b∈X.fs,X.H₀ b=none
structure Inv(X:Cx)(pins:Ac)(σ:List (Option V))(H:Hp)(s:As):Prop where
 ok:X.Ok
 os:s.os=X.s₀.os
 bare:AllBare s.gens
 base:Un X.fs X.ex X.H₀ H X.s₀.heap s.heap
 loc:∃m,s.heap.Ns X.env.locals m/\∀(i:Nat) (x:Str) (v:V),X.N[i]?=some x->σ[i]?=some (some v)->Vis X.env.scope x->∃u,RelV v u/\Look X.env s.heap m x u
 cell:∀x c,X.env.cells.lookup x=some c->∃v,s.heap.IsCell c v
 free:H X.env.locals=none
 freeC:∀x c,X.env.cells.lookup x=some c->H c=none
 pin:∀p∈X.pn++pins,s.heap.get? p.1=some p.2/\H p.1=none/\p.1≠X.env.locals/\p.1∉X.fs/\∀v,p.2.data≠.cell v
 hok:HOk X.prog X.w H s.heap
 len:σ.length=X.N.length
section
variable {X:Cx}{pins:Ac}{σ:List (Option V)}{H H':Hp}{s:As}{h':Heap}
theorem Cx.Ok.nofr(ok:X.Ok){b:Aw}{o:Obj}(e:X.base.get? b=some o):b∉X.fs:=fun q=>by
 have:=(ok.funs.mem q).1;rw[e]at this;cases this
theorem Inv.bs(I:Inv X pins σ H s):∀b o,X.base.get? b=some o->s.heap.get? b=some o/\H b=none:=fun b o e=>
 ⟨I.base.keep b o (I.ok.bs b o e).1 (I.ok.bs b o e).2 (I.ok.nofr e) (I.ok.noex b o e),I.base.free b o (I.ok.bs b o e).1 (I.ok.bs b o e).2 (I.ok.noex b o e)⟩
def Inv.bk(I:Inv X pins σ H s):∀b o,X.base.get? b=some o->s.heap.get? b=some o:=fun b o e=>(I.bs b o e).1
def Inv.mod(I:Inv X pins σ H s):Mod X.K X.mg X.base:=I.ok.mod
def Inv.kIn(I:Inv X pins σ H s):X.K.In s.heap:=I.ok.mod.kin.keeps I.bk
def Inv.lt(I:Inv X pins σ H s):X.env.locals<s.heap.objs.size:=let⟨_,hn,_⟩:=I.loc;hn.lt
def Inv.sz(I:Inv X pins σ H s):X.s₀.heap.objs.size<=s.heap.objs.size:=Qbc I.ok.above (Qa0 I.lt)
theorem Inv.nofs(I:Inv X pins σ H s)(h:s.heap.objs.size<=a):a∉X.fs:=fun q=>by
 obtain⟨_,o,ho,_⟩:=I.ok.funs.mem q;exact absurd (Qbm (Qaq ho) (Qbc I.sz h)) (Qce _)
theorem Inv.cne(I:Inv X pins σ H s):∀x c,X.env.cells.lookup x=some c->c≠X.env.locals:=fun x c e z=>by
 obtain⟨v,o,ho,D⟩:=I.cell x c e;obtain⟨m,⟨o',es,ep,C,q,_⟩,_⟩:=I.loc;rw[z,C]at ho;cases ho;rw[q]at D;cases D
theorem Inv.funs(I:Inv X pins σ H s):s.heap.FunFrames X.base X.outer:=by
 have all:∀(l:List Env),(∀b∈frs l,b∈X.fs)->X.s₀.heap.FunFrames X.base l->s.heap.FunFrames X.base l:=by
  intro l
  induction l with
  |nil=>intro _ _;trivial
  |cons env r Y=>
   intro hs J;obtain⟨F,⟨L,o,D,O,ho,M⟩,G⟩:=J;have C:L∈X.fs:=hs L (by unfold frs;rw[Qeh,D];exact Qai);obtain⟨Z,e⟩:=I.base.slot L o ho (I.ok.frf L C) C fun z=>I.ok.exfs L z C;exact⟨F,⟨L,_,D,O,e,M⟩,Y (fun b q=>hs b (by unfold frs;rw[Qeh,D];exact Qal _ q)) G⟩
 exact all X.outer (fun _ q=>q) I.ok.funs
def Inv.stack(I:Inv X pins σ H s):s.heap.FunFrames X.base X.stack:=by
 rcases I.ok.stk with e|⟨e,C⟩
 ·rw[e];exact I.funs
 ·rw[e];obtain⟨m,q,_⟩:=I.loc;refine .cons (by rw[I.ok.kind];decide) C q ?_ I.funs;exact Heap.get?_none_of_le (Qbc I.ok.bsz I.ok.above)
theorem Inv.stkSub(I:Inv X pins σ H s):∀b∈frs X.stack,b∈X.env.locals::X.fs:=fun b q=>by
 rcases I.ok.stk with e|⟨e,C⟩
 ·grind
 ·rw[e]at q;unfold frs at q;rw[Qeh,C]at q;exact q
theorem Inv.stkFree(I:Inv X pins σ H s):∀b∈frs X.stack,H b=none:=fun b q=>by
 rcases Qao.mp (I.stkSub b q)with e|q
 ·rw[e];exact I.free
 ·obtain⟨_,o,ho,_⟩:=I.ok.funs.mem q;exact I.base.free b o ho (I.ok.frf b q) fun z=>I.ok.exfs b z q
def Inv.step{g':Array GenState}{t':Nat}{d':Drawn}{ch:List Aw}(I:Inv X pins σ H s)
  (D:∀b∈ch,(b∈X.ex\/X.s₀.heap.objs.size<=b)/\b≠X.env.locals/\(∀x c,X.env.cells.lookup x=some c->c≠b)/\∀p∈X.pn++pins,p.1≠b)
  (keep:∀b o,b≠X.env.locals->b∉X.fs->b∉ch->s.heap.get? b=some o->H b=none->h'.get? b=some o)
  (L:∀b o,b≠X.env.locals->b∈X.fs->b∉ch->s.heap.get? b=some o->H b=none->∃sl,h'.get? b=some {o with slots:=sl}) (free:∀b o,b∉ch->s.heap.get? b=some o->H b=none->H' b=none)
  (M:∀b o,b∉ch->s.heap.get? b=some o->∃o',h'.get? b=some o')
  (tups:∀b xs,H b=some (.tup xs)->H' b=some (.tup xs)) (frzs:∀b o u,H b=some (.frz o u)->H' b=some (.frz o u)) (Y:∀b ps,H b=some (.tbl ps)->∃Z,H' b=some (.tbl (ps++Z)))
  (ns:∀m,s.heap.Ns X.env.locals m->h'.Ns X.env.locals m) (hok:HOk X.prog X.w H' h') (hg:AllBare g'):
  Inv X pins σ H' {s with heap:=h',gens:=g',drawn:=d',toks:=t'}:=by
 have neL:∀b o,X.s₀.heap.get? b=some o->b≠X.env.locals:=fun b o e=>Qbg (Qbm (Qaq e) I.ok.above);have J:∀b o,X.s₀.heap.get? b=some o->b∉X.ex->b∉ch:=fun b o e C O=>by
  rcases(D b O).1 with z|z
  ·exact C z
  ·exact absurd (Qbm (Qaq e) z) (Qce _)
 have G:∀x c,X.env.cells.lookup x=some c->∀v,s.heap.IsCell c v->h'.IsCell c v:=fun x c e v ⟨o,ho,hd⟩=>by
  have F:c∉ch:=fun z=>(D c z).2.2.1 x c e rfl
  by_cases hc:c∈X.fs
  ·obtain⟨sl,q⟩:=L c o (I.cne x c e) hc F ho (I.freeC x c e);exact⟨_,q,hd⟩
  ·exact⟨o,keep c o (I.cne x c e) hc F ho (I.freeC x c e),hd⟩
 refine⟨I.ok,I.os,hg,⟨fun b o e n O C=>?_,fun b o e n O C=>?_,fun b o e n C=>?_,fun b o e C=>?_,fun b xs e=>tups b xs (I.base.tups b xs e),fun b o xs e=>frzs b o xs (I.base.frzs b o xs e),fun b ps e=>?_⟩,?_,fun x c e=>?_,?_,fun x c e=>?_,fun p hp=>?_,hok,I.len⟩
 ·exact keep b o (neL b o e) O (J b o e C) (I.base.keep b o e n O C) (I.base.free b o e n C)
 ·obtain⟨sl,e1⟩:=I.base.slot b o e n O C;obtain⟨sl',e2⟩:=L b _ (neL b o e) O (J b o e C) e1 (I.base.free b o e n C);exact⟨sl',e2⟩
 ·obtain⟨o',e1⟩:=I.base.there b o e C;exact free b o' (J b o e C) e1 (I.base.free b o e n C)
 ·obtain⟨o',e1⟩:=I.base.there b o e C;exact M b o' (J b o e C) e1
 ·obtain⟨m1,e1⟩:=I.base.tbls b ps e;obtain⟨m2,e2⟩:=Y b _ e1;exact⟨m1++m2,by rw[e2,Array.append_assoc]⟩
 ·obtain⟨m,hn,hl⟩:=I.loc;refine⟨m,ns m hn,fun i x v e1 e2 e3=>?_⟩;obtain⟨u,r,l⟩:=hl i x v e1 e2 e3;refine⟨u,r,?_⟩;rcases l with l|⟨k,c,e,z⟩
  ·exact .inl l
  ·exact .inr ⟨k,c,e,G x c e _ z⟩
 ·obtain⟨v,z⟩:=I.cell x c e;exact⟨v,G x c e v z⟩
 ·obtain⟨m,⟨o,_,_,ho,_⟩,_⟩:=I.loc;exact free _ o (fun z=>(D _ z).2.1 rfl) ho I.free
 ·obtain⟨v,o,ho,hd⟩:=I.cell x c e;exact free c o (fun z=>(D c z).2.2.1 x c e rfl) ho (I.freeC x c e)
 ·obtain⟨e,n,ne,nf,d⟩:=I.pin p hp;have F:p.1∉ch:=fun z=>(D p.1 z).2.2.2 p hp rfl;exact⟨keep p.1 p.2 ne nf F e n,free p.1 p.2 F e n,ne,nf,d⟩
def Inv.un{t':Nat}(I:Inv X pins σ H s)(u:Un X.fs [] H H' s.heap h')(F:HOk X.prog X.w H' h'):Inv X pins σ H' {s with heap:=h',toks:=t'}:=by
 obtain⟨m,⟨o,es,ep,ho,r⟩,_⟩:=id I.loc;obtain⟨Y,L⟩:=u.any ho I.free (by simp);exact I.step (g':=s.gens) (d':=s.drawn) (ch:=[]) (fun _ z=>nomatch z) (fun b o _ D _ e n=>u.keep b o e n D (by simp)) (fun b o _ D _ e n=>u.slot b o e n D (by simp)) (fun b o _ e n=>u.free b o e n (by simp)) (fun b o _ e=>u.there b o e (by simp)) u.tups u.frzs u.tbls (fun O M=>by
  obtain⟨o',G,C,q,J⟩:=M;rw[ho]at q;cases q;exact⟨_,G,C,L,J⟩) F I.bare
def Inv.call{g':Array GenState}{t':Nat}{d':Drawn}{ch:List Aw}(I:Inv X pins σ H s)(u:Un (frs X.stack) ch H H' s.heap h')(J:HOk X.prog X.w H' h')(M:AllBare g')
  (C:∀b∈ch,(b∈X.ex\/X.s₀.heap.objs.size<=b)/\b≠X.env.locals/\(∀x c,X.env.cells.lookup x=some c->c≠b)/\∀p∈X.pn++pins,p.1≠b):
  Inv X pins σ H' {s with heap:=h',gens:=g',drawn:=d',toks:=t'}:=by
 obtain⟨m,⟨o,es,ep,ho,r⟩,_⟩:=id I.loc;obtain⟨sl,G⟩:=u.any ho I.free fun z=>(C _ z).2.1 rfl;exact I.step (ch:=ch) C (fun b o G Y q e n=>u.keep b o e n (fun z=>(Qao.mp (I.stkSub b z)).elim G Y) q) (fun b o _ _ q e n=>u.any e n q) (fun b o q e n=>u.free b o e n q) (fun b o q e=>u.there b o e q) u.tups u.frzs u.tbls (fun m' Z=>by
  obtain⟨o',L,F,D,O⟩:=Z;rw[ho]at D;cases D;exact⟨_,L,F,G,O⟩) J M
def Inv.turned{t':Nat}{it:Aw}(I:Inv X pins σ H s)(k:∀b o,b≠it->s.heap.get? b=some o->h'.get? b=some o)(F:H it=none)(G:it≠X.env.locals)
  (h1:it∈X.ex\/X.s₀.heap.objs.size<=it) (h2:∀x c,X.env.cells.lookup x=some c->c≠it) (L:∀p∈X.pn++pins,p.1≠it):Inv X pins σ H {s with heap:=h',toks:=t'}:=by
 have D:∀b u,H b=some u->b≠it:=fun b u e z=>by rw[z,F]at e;cases e
 refine I.step (g':=s.gens) (d':=s.drawn) (ch:=[it]) (fun b M=>?_) (fun b o _ _ C e _=>k b o (fun z=>C (by simp[z])) e) (fun b o _ _ C e _=>⟨o.slots,k b o (fun z=>C (by simp[z])) e⟩) (fun _ _ _ _ n=>n)
  (fun b o C e=>⟨o,k b o (fun z=>C (by simp[z])) e⟩) (fun _ _ e=>e) (fun _ _ _ e=>e) (fun b ps e=>⟨#[],by rw[e];simp⟩) (fun m J=>?_) (fun b u e=>?_) I.bare
 ·grind
 ·obtain⟨o,es,ep,ho,r⟩:=J;exact⟨o,es,ep,k _ o (Qd5 G) ho,r⟩
 ·refine(I.hok b u e).stay (fun c v C q=>k c v ?_ q) (fun _ q=>q) fun _ _ q=>q
  rcases C with z|z
  ·rw[z];exact D b u e
  ·exact D c _ z
def Inv.tok(I:Inv X pins σ H s)(t:Nat):Inv X pins σ H {s with toks:=t}:=I.un (h':=s.heap) (t':=t) Un.refl I.hok
def Inv.kept{t':Nat}(I:Inv X pins σ H s)(k:∀b u,s.heap.get? b=some u->h'.get? b=some u):Inv X pins σ H {s with heap:=h',toks:=t'}:=I.un (Un.kept k) (I.hok.kept k)
theorem Inv.laid{a:Aw}{o:HO}{t':Nat}(I:Inv X pins σ H s)(k:∀b u,s.heap.get? b=some u->h'.get? b=some u)(q:s.heap.objs.size<=a)(new:Y2 X.prog X.w (upd H a o) h' a o):
  Inv X pins σ (upd H a o) {s with heap:=h',toks:=t'}:=I.un (Un.laid k q (I.hok.fresh q)) (I.hok.laid k q new)
theorem Inv.write{x e:Aw}{o:HO}{t':Nat}(I:Inv X pins σ H s)(D:Mut (H x))(C:e=x\/H e=some (.own x))(k:∀b u,b≠e->s.heap.get? b=some u->h'.get? b=some u)(q:∃u,h'.get? e=some u)
  (new:Y2 X.prog X.w (upd H x o) h' x o):Inv X pins σ (upd H x o) {s with heap:=h',toks:=t'}:=I.un (Un.write D C k q) (I.hok.write D C k q new)
theorem Inv.pins_of(I:Inv X pins σ H s)(h:∀p∈g,s.heap.get? p.1=some p.2/\H p.1=none/\p.1≠X.env.locals/\p.1∉X.fs/\∀v,p.2.data≠.cell v):Inv X g σ H s:=
 ⟨I.ok,I.os,I.bare,I.base,I.loc,I.cell,I.free,I.freeC,fun p q=>(Qbd.mp q).elim (fun z=>I.pin p (Qd6 _ z)) (h p),I.hok,I.len⟩
def kR(q:N.Nodup){j:Nat}(a:N[i]?=some x)(b:N[j]?=some x):i=j:=by
 obtain⟨h1,e1⟩:=Qag.mp a;obtain⟨h2,e2⟩:=Qag.mp b;exact(List.getElem_inj q).mp (e1.trans e2.symm)
theorem uS{M:Model}{A:Ar}{E:Ab}{v:V}{u:Av}{Q:Unit->Shared->Prop}(I:Inv X pins σ H s)(hN:X.N.Nodup)(hi:X.N[i]?=some x)(F:Loc X.env.scope x)(r:RelV v u)
  (h:∀s',Inv X pins (σ.set i (some v)) H s'->(∃a,Heap.SameBut a s.heap s'.heap/\(a=X.env.locals\/X.env.cells.lookup x=some a))->Q () s') (hf:X.fn x=true\/X.env.scope.names.lookup x=some .local:=by first|exact .inl rfl|exact .inr rfl|assumption):wpAny M A (storeName X.env x u) Q E s:=by
 obtain⟨m,hn,hl⟩:=id I.loc;have hcls:(X.env.scope.kind == .class||(X.env.scope.kind == .module&&X.env.locals != X.env.globals))=false:=by rw[I.ok.kind];rfl
 have L:i<σ.length:=by rw[I.len];exact(Qag.mp hi).1
 have cne:=I.cne;have C:∀{a:Aw} {h':Heap},(∃o,s.heap.get? a=some o/\H a=none)->Heap.SameBut a s.heap h'->HOk X.prog X.w H h':=fun{a h'} ha hs b ob e=>by
  obtain⟨_,_,G⟩:=ha;refine(I.hok b ob e).stay (fun c w' D q=>(hs.2 c ?_).trans q) (fun _ q=>q) fun _ _ q=>q;rintro rfl;rcases D with rfl|D
  ·rw[G]at e;cases e
  ·rw[G]at D;cases D
 rcases F with J|J
 ·refine wpAny_storeName_local J hn (fun h' hn' hs=>?_) hcls;obtain⟨oL,_,_,hoL,_⟩:=id hn;refine h _ ⟨I.ok,I.os,I.bare,⟨fun b o e n Z F=>?_,fun b o e n Z F=>?_,I.base.free,fun b o e F=>?_,I.base.tups,I.base.frzs,I.base.tbls⟩,⟨_,hn',fun j y v' e1 e2 e3=>?_⟩,fun y c e=>?_,I.free,I.freeC,fun p hp=>?_,C ⟨oL,hoL,I.free⟩ hs,by simpa using I.len⟩ ⟨_,hs,.inl rfl⟩
  ·exact(hs.2 b (Qbg (Qbm (Qaq e) I.ok.above))).trans (I.base.keep b o e n Z F)
  ·obtain⟨sl,e1⟩:=I.base.slot b o e n Z F;exact⟨sl,(hs.2 b (Qbg (Qbm (Qaq e) I.ok.above))).trans e1⟩
  ·obtain⟨o',e1⟩:=I.base.there b o e F;exact⟨o',(hs.2 b (Qbg (Qbm (Qaq e) I.ok.above))).trans e1⟩
  ·by_cases O:j=i
   ·subst O;rw[hi]at e1;cases e1;rw[List.getElem?_set_self L]at e2;cases e2;exact⟨u,r,.inl ⟨J,by simp⟩⟩
   ·rw[List.getElem?_set_ne (Qd5 O)]at e2;obtain⟨u',r',q⟩:=hl j y v' e1 e2 e3;refine⟨u',r',?_⟩;rcases q with⟨k,e⟩|⟨k,c,e,z⟩
    ·refine .inl ⟨k,?_⟩;have:y≠x:=fun e=>O (kR hN e1 (e ▸ hi));simp[this,e]
    ·exact .inr ⟨k,c,e,z.sameBut hs (cne y c e)⟩
  ·obtain⟨w',z⟩:=I.cell y c e;exact⟨w',z.sameBut hs (cne y c e)⟩
  ·obtain⟨e,n,ne,nf,d⟩:=I.pin p hp;exact⟨(hs.2 p.1 ne).trans e,n,ne,nf,d⟩
 ·have Y:X.fn x=true:=by
   rcases hf with z|z
   ·exact z
   ·rw[z]at J;cases J
  obtain⟨c,D⟩:=I.ok.has x (.inl J);obtain⟨w',z⟩:=I.cell x c D;refine wpAny_storeName_cell I.ok.kind J D z (fun h' hc' hs=>?_);obtain⟨oc,hoc,hocd⟩:=id z;refine h {s with heap:=h'} ⟨I.ok,I.os,I.bare,⟨fun b o e n Z F=>?_,fun b o e n Z F=>?_,I.base.free,fun b o e F=>?_,I.base.tups,I.base.frzs,I.base.tbls⟩,⟨m,hn.sameBut hs (Qd5 (cne x c D)),fun j y v' e1 e2 e3=>?_⟩,fun y c' e=>?_,I.free,I.freeC,fun p hp=>?_,C ⟨oc,hoc,I.freeC x c D⟩ hs,by simpa using I.len⟩ ⟨c,hs,.inr D⟩
  ·exact(hs.2 b (Qbg (Qbm (Qaq e) (I.ok.cab x c Y D)))).trans (I.base.keep b o e n Z F)
  ·obtain⟨sl,e1⟩:=I.base.slot b o e n Z F;exact⟨sl,(hs.2 b (Qbg (Qbm (Qaq e) (I.ok.cab x c Y D)))).trans e1⟩
  ·obtain⟨o',e1⟩:=I.base.there b o e F;exact⟨o',(hs.2 b (Qbg (Qbm (Qaq e) (I.ok.cab x c Y D)))).trans e1⟩
  ·by_cases O:j=i
   ·subst O;rw[hi]at e1;cases e1;rw[List.getElem?_set_self L]at e2;cases e2;exact⟨u,r,.inr ⟨.inl J,c,D,hc'⟩⟩
   ·rw[List.getElem?_set_ne (Qd5 O)]at e2;obtain⟨u',r',q⟩:=hl j y v' e1 e2 e3;refine⟨u',r',?_⟩;rcases q with q|⟨k,c',e,z'⟩
    ·exact .inl q
    ·refine .inr ⟨k,c',e,z'.sameBut hs ?_⟩;rintro rfl;exact O (kR hN e1 (I.ok.inj _ _ _ e D ▸ hi))
  ·by_cases hcc:c'=c
   ·subst hcc;exact⟨_,hc'⟩
   ·obtain⟨w2,z2⟩:=I.cell y c' e;exact⟨w2,z2.sameBut hs hcc⟩
  ·obtain⟨e,n,ne,nf,d⟩:=I.pin p hp;refine⟨(hs.2 p.1 ?_).trans e,n,ne,nf,d⟩;intro q;rw[q,hoc]at e;have q':oc=p.2:=Option.some.inj e;exact d w' (by rw[<-q'];exact hocd)
theorem WM{M:Model}{A:Ar}{E:Ab}{v:V}{u:Av}{Q:Unit->Shared->Prop}(I:Inv X pins σ H s)(q:X.N.Nodup)(hi:X.N[i]?=some x)(C:Loc X.env.scope x)(r:RelV v u)
  (h:∀s',Inv X pins (σ.set i (some v)) H s'->Q () s') (D:X.fn x=true\/X.env.scope.names.lookup x=some .local:=by first|exact .inl rfl|exact .inr rfl|assumption):wpAny M A (storeName X.env x u) Q E s:=
 uS I q hi C r (fun s' F _=>h s' F) D
def Inv.call'{s':As}{ch:List Aw}(I:Inv X pins σ H s)(ho:s'.os=s.os)(u:Un (frs X.stack) ch H H' s.heap s'.heap)(q:HOk X.prog X.w H' s'.heap)(D:AllBare s'.gens)
  (C:∀b∈ch,(b∈X.ex\/X.s₀.heap.objs.size<=b)/\b≠X.env.locals/\(∀x c,X.env.cells.lookup x=some c->c≠b)/\∀p∈X.pn++pins,p.1≠b):Inv X pins σ H' s':=by
 obtain⟨h',g',d',t',o'⟩:=s';have e:o'=s.os:=ho;subst e;exact I.call (g':=g') (t':=t') (d':=d') u q D C
end
abbrev XK:=Av->Option Aw->Hp->Prop
abbrev St:=List (Option V)
abbrev Az:=List (List V)
abbrev A0:=List (Key×V)
abbrev A1:=St->Hp->Prop
abbrev A2:=List V
abbrev VK:=V->Hp->Prop
abbrev TE:=St->Hp->VK->Prop
abbrev TT:=St->Hp->(Bool->Hp->Prop)->Prop
abbrev TA:=St->Hp->(A2->Hp->Prop)->Prop
structure Ends where
 nx:A1
 rt:VK
 bk:A1:=fun _ _=>False
 ct:A1:=fun _ _=>False
abbrev TS:=Ends->St->Hp->Prop
def EP(X:Cx)(pins:Ac)(σ:St)(Q:VK)(u:Av)(s':As):Prop:=∃v H',Inv X pins σ H' s'/\RelV v u/\Q v H'
def TP(X:Cx)(pins:Ac)(σ:St)(Q:Bool->Hp->Prop)(b:Bool)(s':As):Prop:=∃H',Inv X pins σ H' s'/\Q b H'
def AP(X:Cx)(pins:Ac)(σ:St)(Q:A2->Hp->Prop)(q:Ag)(s':As):Prop:=∃vs H',Inv X pins σ H' s'/\Vals vs q/\Q vs H'
def SP(X:Cx)(pins:Ac)(D:Ends)(f:Flow)(s':As):Prop:=
 match f with
 |.next=>∃q H',Inv X pins q H' s'/\D.nx q H'
 |.brk=>∃q H',Inv X pins q H' s'/\D.bk q H'
 |.cont=>∃q H',Inv X pins q H' s'/\D.ct q H'
 |.ret u=>∃v q H',Inv X pins q H' s'/\RelV v u/\D.rt v H'
def PE(X:Cx)(e:Ax)(t:TE):Prop:=
 ∀(pins:Ac) (s:As) (σ:St) (H:Hp) (Q:VK),Inv X pins σ H s->t σ H Q->A4 X (eval e X.env) (EP X pins σ Q) X.xe s
def PT(X:Cx)(e:Ax)(t:TT):Prop:=
 ∀(pins:Ac) (s:As) (σ:St) (H:Hp) (Q:Bool->Hp->Prop),Inv X pins σ H s->t σ H Q->A4 X (isTrue e X.env (eval e X.env)) (TP X pins σ Q) X.xe s
def PW(X:Cx)(e:Ax)(t:TT):Prop:=
 ∀(q:Sem Av) (pins:Ac) (s:As) (σ:St) (H:Hp) (Q:Bool->Hp->Prop),Inv X pins σ H s->t σ H Q->A4 X (isTrue e X.env q) (TP X pins σ Q) X.xe s
def PW.pt{X:Cx}{t:TT}(h:PW X e t):PT X e t:=h _
def PA(X:Cx)(es:An)(t:TA):Prop:=
 ∀(pos:Pos) (pins:Ac) (s:As) (σ:St) (H:Hp) (Q:A2->Hp->Prop),Inv X pins σ H s->t σ H Q->A4 X (spliced (backTo pos (starEach es X.env))) (AP X pins σ Q) X.xe s
def PS(X:Cx)(st:Ay)(t:TS):Prop:=
 ∀(pins:Ac) (s:As) (σ:St) (H:Hp) (D:Ends),Inv X pins σ H s->t D σ H->A4 X (exec st X.env) (SP X pins D) X.xe s
def PSs(X:Cx)(st:List Ay)(t:TS):Prop:=
 ∀(pins:Ac) (s:As) (σ:St) (H:Hp) (D:Ends),Inv X pins σ H s->t D σ H->A4 X (execs st X.env) (SP X pins D) X.xe s
def thn{t:Sem d}{Q q:d->Shared->Prop}{M:Model}{A:Ar}{E:Ab}(h:wpAny M A t Q E s)(C:∀a s,Q a s->q a s):wpAny M A t q E s:=Qdi h C fun _ _ x=>x
section
variable {X:Cx}
def jX(i:Nat):TE:=fun σ H Q=>∃v,σ[i]?=some (some v)/\Q v H
def tC(v:V):TE:=fun _ H Q=>Q v H
def Zgf    (L:X.N[i]?=some x) (J:Vis X.env.scope x) (F:(x == ("__debug__" : Str))=false:=by decide) (D:(x == ("__classdict__" : Str))=false:=by decide):PE X (.Name x p) (jX i):=by
 intro pins s σ H Q I h;obtain⟨v,e,h⟩:=h;obtain⟨m,M,Y⟩:=I.loc;obtain⟨u,r,l⟩:=Y i x v L e J;have fin:EP X pins σ Q u s:=⟨v,H,I,r,h⟩;rcases l with⟨C,O⟩|⟨C,c,G,q⟩
 ·exact wpAny_Name (wpAny_loadName_local I.ok.kind C M O fin) F
 ·rcases C with C|C
  ·exact wpAny_Name (wpAny_loadName_cell I.ok.kind C G q fin) F
  ·exact wpAny_Name (wpAny_loadName_free I.ok.kind C G q fin D) F
def pe_int{i j pos:_}:PE X (.Constant (.int i) j pos) (tC (.int i)):=fun _ _ _ H _ I h=>wpAny_Constant_int ⟨.int i,H,I.tok _,⟨_,rfl⟩,h⟩
def pe_bl{b j pos:_}:PE X (.Constant (.bool b) j pos) (tC (.bl b)):=fun _ _ _ H _ I h=>Constant_bool ⟨.bl b,H,I,rfl,h⟩
def pe_str{x j pos:_}:PE X (.Constant (.str x) j pos) (tC (.str x)):=fun _ _ _ H _ I h=>Calls.Constant_str ⟨.str x,H,I.tok _,⟨_,rfl⟩,h⟩
def Gl(X:Cx)(x:Str):Prop:=X.env.kindOf x=some .globalImplicit
def zT{E:Ab}{σ:St}{H:Hp}{u:Av}(I:Inv X g σ H s)(q:Gl X x)(C:X.mg x=some u)(h:Q u s)
  (D:(x == ("__debug__" : Str))=false:=by decide):A4 X (eval (.Name x p) X.env) Q E s:=
 Calls.Name_function_global I.ok.kind q (Calls.loadGlobal_global (by rw[I.ok.glob];exact I.mod.glob.keeps I.bk) C h) D
def Jo{E:Ab}{σ:St}{H:Hp}{u:Av}(I:Inv X g σ H s)(C:Gl X x)(F:X.mg x=none)(D:bootBuiltins x=some u)(h:Q u s)
  (q:x ≠ "__name__" :=by decide) (G:(x == ("__debug__" : Str))=false:=by decide):A4 X (eval (.Name x p) X.env) Q E s:=by
 obtain⟨J,h1,h2⟩:=I.mod.blt;exact Calls.Name_function_global I.ok.kind C (Calls.loadGlobal_builtin (by rw[I.ok.glob];exact I.mod.glob.keeps I.bk) F (by rw[I.ok.blt];exact h1.keeps I.bk) ((h2 x q).trans D) h) G
def Zhn  {v:V} {u:Av}  (q:Gl X x) (C:X.mg x=some u) (r:RelV v u) (D:(x == ("__debug__" : Str))=false:=by decide):PE X (.Name x p) (tC v):=
 fun _ _ _ H _ I h=>zT I q C ⟨v,H,I,r,h⟩ D
def Zho  {v:V} {u:Av}  (C:Gl X x) (F:X.mg x=none) (D:bootBuiltins x=some u) (r:RelV v u) (q:x ≠ "__name__" :=by decide) (G:(x == ("__debug__" : Str))=false:=by decide):PE X (.Name x p) (tC v):=
 fun _ _ _ H _ I h=>Jo I C F D ⟨v,H,I,r,h⟩ q G
variable {a b:Ax}{ta tb:TE}{pos:Pos}
def tB(t:TE):TT:=fun σ H Q=>t σ H fun x H1=>∃c,x=.bl c/\Q c H1
def pt_val{t:TE}(h:PE X e t)(D:∀C,isTrue e X.env C=(do let v <-C;standAt e.pos;holding [v] (truthy v)):=by intro _;rfl):PT X e (tB t):=by
 intro pins s σ H Q I hw;refine isTrue_plain (thn (h pins s σ H _ I hw) fun v L ⟨x,H1,F,J,G⟩=>?_) (D _);obtain⟨d,rfl,q⟩:=G;cases J;exact Qdj ⟨H1,F,q⟩
variable {tA tB':TT}{rest:An}
def tAnd(t u:TT):TT:=fun σ H Q=>t σ H fun c H1=>if c=true then u σ H1 Q else Q false H1
def tOr(t u:TT):TT:=fun σ H Q=>t σ H fun c H1=>if c=true then Q true H1 else u σ H1 Q
def tNot(t:TT):TT:=fun σ H Q=>t σ H fun c H1=>Q (!c) H1
def Zhp(ha:PT X a tA):PW X (.BoolOp .And [a] pos) tA:=by
 intro C pins s σ H Q I h;refine isTrue_and (thn (ha pins s σ H Q I h) fun c q e=>?_);cases c with
 |true=>exact isTrue_and_nil e
 |false=>exact e
def pw_or1(ha:PT X a tA):PW X (.BoolOp .Or [a] pos) tA:=by
 intro C pins s σ H Q I h;refine isTrue_or (thn (ha pins s σ H Q I h) fun c q e=>?_);cases c with
 |false=>exact isTrue_or_nil e
 |true=>exact e
def pw_and(ha:PT X a tA)(D:PW X (.BoolOp .And (b::rest) pos) tB'):PW X (.BoolOp .And (a::b::rest) pos) (tAnd tA tB'):=by
 intro G pins s σ H Q I h;refine isTrue_and (thn (ha pins s σ H _ I h) fun c F ⟨H1,q,C⟩=>?_);cases c with
 |true=>exact D G pins F σ H1 Q q C
 |false=>exact⟨H1,q,C⟩
def pw_or(ha:PT X a tA)(D:PW X (.BoolOp .Or (b::rest) pos) tB'):PW X (.BoolOp .Or (a::b::rest) pos) (tOr tA tB'):=by
 intro G pins s σ H Q I h;refine isTrue_or (thn (ha pins s σ H _ I h) fun c F ⟨H1,q,C⟩=>?_);cases c with
 |true=>exact⟨H1,q,C⟩
 |false=>exact D G pins F σ H1 Q q C
def pt_not(ha:PT X a tA):PT X (.UnaryOp .Not a pos) (tNot tA):=by
 intro pins s σ H Q I h;exact isTrue_not (thn (ha pins s σ H (fun c H1=>Q (!c) H1) I h) fun c D ⟨H1,C,q⟩=>⟨H1,C,q⟩)
def Zk8(ta tb:TE):TE:=fun σ H Q=>ta σ H fun x H1=>∃c,x=.bl c/\if c=true then tb σ H1 Q else Q (.bl false) H1
def tOrV(ta tb:TE):TE:=fun σ H Q=>ta σ H fun x H1=>∃c,x=.bl c/\if c=true then Q (.bl true) H1 else tb σ H1 Q
def Zk9(ta:TE):TE:=fun σ H Q=>ta σ H fun x H1=>∃c,x=.bl c/\Q (.bl (!c)) H1
def pe_one{q:_}{t:TE}(h:PE X a t):PE X (.BoolOp q [a] pos) t:=fun pins s σ H Q I hw=>BoolOp_one (h pins s σ H Q I hw)
def pe_and(ha:PE X a ta)(F:PE X (.BoolOp .And (b::rest) pos) tb):PE X (.BoolOp .And (a::b::rest) pos) (Zk8 ta tb):=by
 intro pins s σ H Q I h;refine BoolOp_and (thn (ha pins s σ H _ I h) fun v D ⟨x,H1,C,G,q⟩=>?_);obtain⟨c,rfl,q⟩:=q;cases G;refine Qdj ?_;cases c with
 |true=>exact F pins D σ H1 Q C q
 |false=>exact⟨.bl false,H1,C,rfl,q⟩
def pe_or(ha:PE X a ta)(F:PE X (.BoolOp .Or (b::rest) pos) tb):PE X (.BoolOp .Or (a::b::rest) pos) (tOrV ta tb):=by
 intro pins s σ H Q I h;refine BoolOp_or (thn (ha pins s σ H _ I h) fun v D ⟨x,H1,C,G,q⟩=>?_);obtain⟨c,rfl,q⟩:=q;cases G;refine Qdj ?_;cases c with
 |false=>exact F pins D σ H1 Q C q
 |true=>exact⟨.bl true,H1,C,rfl,q⟩
def pe_not(ha:PE X a ta):PE X (.UnaryOp .Not a pos) (Zk9 ta):=by
 intro pins s σ H Q I h;refine UnaryOp_ (thn (ha pins s σ H _ I h) fun v F ⟨x,H1,C,D,q⟩=>?_);obtain⟨c,rfl,q⟩:=q;cases D;exact not_of (Qdj ⟨.bl (!c),H1,C,rfl,q⟩)
end
def SqL(K:Af)(H:Hp)(a:Aw)(xs:A2):Prop:=
 Rd H a (.lst xs) \/
  ∃(o:Obj) (q:Ah) (n:Nat),K.lookup a=some o/\o.cls=.type "list" /\ o.dict=none/\o.data=.seq q n/\q.size<=sizeLine/\Vals xs q.toList
def SqT(K:Af)(H:Hp)(a:Aw)(xs:A2):Prop:=
 Rd H a (.tup xs) \/
  ∃(o:Obj) (q:Ah) (n:Nat),K.lookup a=some o/\o.cls=.type "tuple" /\ o.data=.seq q n/\q.size<=sizeLine/\Vals xs q.toList
def absV:Av->Option V
 |.none=>some .non
 |.bool b=>some (.bl b)
 |.int i _=>some (.int i)
 |.str x _=>some (.str x)
 |.bytes b _=>some (.byt b)
 |.float b _=>some (.flt b)
 |.ref a=>some (.ref a)
 |.type n=>some (.ty n)
 |_=>none
def RelV.abs{x:V}{u:Av}(r:RelV x u):absV u=some x:=by
 cases x with
 |non=>cases r;rfl
 |bl _=>cases r;rfl
 |int _=>obtain⟨t,rfl⟩:=r;rfl
 |str _=>obtain⟨t,rfl⟩:=r;rfl
 |byt _=>obtain⟨t,rfl⟩:=r;rfl
 |flt _=>obtain⟨t,rfl⟩:=r;rfl
 |ref _=>cases r;rfl
 |ty _=>cases r;rfl
def RelV.inj{x y:V}{u:Av}(r:RelV x u)(q:RelV y u):x=y:=Option.some.inj (r.abs.symm.trans q.abs)
theorem Vals.inj:∀{xs ys:A2} {q:Ag},Vals xs q->Vals ys q->xs=ys
 |_,_,_,.nil,.nil=>rfl
 |_,_,_,.cons r t,.cons C t'=>by rw[r.inj C,Vals.inj t t']
section
variable {X:Cx}{pins:Ac}{σ:St}{H:Hp}{s:As}{a:Aw}{xs ys:A2}
def SqL.of(h:H a=some (.lst xs)):SqL K H a xs:=.inl (.inl h)
def SqT.of(h:H a=some (.tup xs)):SqT K H a xs:=.inl (.inl h)
def Inv.list(I:Inv X pins σ H s)(h:SqL X.K H a xs):∃q:Ag,Vals xs q/\PlainL s.heap a q.toArray/\xs.length<=sizeLine:=by
 rcases h with h|⟨o,q,n,D,C,F,hs,G,r⟩
 ·obtain⟨z,q,n,r,e⟩:=h.ok I.hok;exact⟨q,r,⟨_,n,e,rfl,rfl,rfl⟩,z⟩
 ·refine⟨q.toList,r,⟨o,n,I.kIn a o D,C,F,by simpa using hs⟩,?_⟩;have e:=r.length;simp only[Qbk]at e;lia
def Inv.tuple(I:Inv X pins σ H s)(h:SqT X.K H a xs):∃q:Ag,Vals xs q/\IsTup s.heap a q.toArray/\xs.length<=sizeLine:=by
 rcases h with h|⟨o,q,n,D,C,hs,F,r⟩
 ·obtain⟨z,q,r,p⟩:=h.ok I.hok;exact⟨q,r,p.tup,z⟩
 ·refine⟨q.toList,r,⟨o,I.kIn a o D,C,n,by simpa using hs⟩,?_⟩;have e:=r.length;simp only[Qbk]at e;lia
def Inv.list_inj(I:Inv X pins σ H s)(h:SqL X.K H a xs)(h':SqL X.K H a ys):xs=ys:=by
 obtain⟨q,r,⟨o,n,e,_,_,d⟩,_⟩:=I.list h;obtain⟨its',F,⟨o',G,C,_,_,d'⟩,_⟩:=I.list h';rw[e]at C;cases C;rw[d]at d';injection d' with D _;have:q=its':=by simpa using congrArg Array.toList D
 subst this;exact r.inj F
def Inv.tuple_inj(I:Inv X pins σ H s)(h:SqT X.K H a xs)(h':SqT X.K H a ys):xs=ys:=by
 obtain⟨q,r,⟨o,e,_,n,d⟩,_⟩:=I.tuple h;obtain⟨its',F,⟨o',C,_,G,d'⟩,_⟩:=I.tuple h';rw[e]at C;cases C;rw[d]at d';injection d' with D _;have:q=its':=by simpa using congrArg Array.toList D
 subst this;exact r.inj F
end
abbrev Cx.wish(X:Cx)(E:Ab):Cx:={X with xe:=E}
abbrev Cx.nox(X:Cx):Cx:=X.wish fun _ _=>False
theorem Cx.Ok.wish{X:Cx}(ok:X.Ok)(E:Ab):(X.wish E).Ok:=
 ⟨ok.mod,ok.kind,ok.glob,ok.blt,ok.above,ok.inj,ok.has,ok.cab,ok.hd,ok.frames,ok.stk,ok.exf,ok.bs,ok.bsz,ok.noex,ok.exfs,ok.funs,ok.frf⟩
theorem Cx.Ok.unwish{X:Cx}{E:Ab}(ok:(X.wish E).Ok):X.Ok:=
 ⟨ok.mod,ok.kind,ok.glob,ok.blt,ok.above,ok.inj,ok.has,ok.cab,ok.hd,ok.frames,ok.stk,ok.exf,ok.bs,ok.bsz,ok.noex,ok.exfs,ok.funs,ok.frf⟩
section
variable {X:Cx}{pins:Ac}{σ:St}{H:Hp}{s:As}{E:Ab}
def Inv.wish(I:Inv X pins σ H s)(E:Ab):Inv (X.wish E) pins σ H s:=⟨I.ok.wish E,I.os,I.bare,I.base,I.loc,I.cell,I.free,I.freeC,I.pin,I.hok,I.len⟩
def Inv.unwish(I:Inv (X.wish E) pins σ H s):Inv X pins σ H s:=⟨I.ok.unwish,I.os,I.bare,I.base,I.loc,I.cell,I.free,I.freeC,I.pin,I.hok,I.len⟩
def SP.unwish{D:Ends}{f:Flow}{s':As}(h:SP (X.wish E) pins D f s'):SP X pins D f s':=by
 cases f with
 |next=>obtain⟨C,H',I,q⟩:=h;exact⟨C,H',I.unwish,q⟩
 |brk=>obtain⟨C,H',I,q⟩:=h;exact⟨C,H',I.unwish,q⟩
 |cont=>obtain⟨C,H',I,q⟩:=h;exact⟨C,H',I.unwish,q⟩
 |ret u=>obtain⟨v,C,H',I,r,q⟩:=h;exact⟨v,C,H',I.unwish,r,q⟩
theorem PSs.nox{st:List Ay}{t:TS}(h:PSs X.nox st t):PSs X st t:=fun pins s σ H D I hw=>
 Qdi (h pins s σ H D (I.wish _) hw) (fun _ _ q=>q.unwish) fun _ _ z=>False.elim z
end
section
variable {X:Cx}{st:Ay}{rest:List Ay}{t u:TS}{e:Ax}{te:TE}{pos:Pos}
def Zla:TS:=fun D σ H=>D.nx σ H
def ZZ(t u:TS):TS:=fun D σ H=>t {D with nx:=u D} σ H
def Zhq:PSs X [] Zla:=fun _ _ σ H _ I h=>Qgd ⟨σ,H,I,h⟩
def Zd5(h1:PS X st t)(h2:PSs X rest u):PSs X (st::rest) (ZZ t u):=by
 intro pins s σ H D I h;refine wpAny_execs_cons (thn (h1 pins s σ H {D with nx:=u D} I h) fun f F q=>?_);cases f with
 |next=>
  obtain⟨C,H',G,q⟩:=q;exact h2 pins F C H' D G q
 |ret v=>exact q
 |brk=>exact q
 |cont=>exact q
def Zhr(h1:PS X st t):PSs X [st] t:=by
 intro pins s σ H D I h;refine wpAny_execs_cons (thn (h1 pins s σ H D I h) fun f C q=>?_);cases f with
 |next=>exact Qgd q
 |ret v=>exact q
 |brk=>exact q
 |cont=>exact q
def Inv.quiet{σ:St}{H:Hp}(I:Inv X g σ H s):interactive X.env=false:=by simp[interactive,I.ok.kind]
def Zlb(te:TE):TS:=fun D σ H=>te σ H fun _ H1=>D.nx σ H1
def Zhs(F:PE X e te)(hs:swapsWith e none pos.line X.env=pure false:=by rfl):PS X (.Expr e pos) (Zlb te):=by
 intro pins s σ H D I h;exact wpAny_Expr_any (thn (F pins s σ H _ I h) fun v J ⟨x,H1,q,G,C⟩=>⟨σ,H1,q,C⟩) I.quiet hs
def tRet(te:TE):TS:=fun D σ H=>te σ H D.rt
def ps_ret(F:PE X e te):PS X (.Return (some e) pos) (tRet te):=by
 intro pins s σ H D I h;exact wpAny_Return_some (thn (F pins s σ H _ I h) fun v J ⟨x,H1,q,G,C⟩=>⟨x,σ,H1,q,G,C⟩)
def tIfS(c:TT)(t u:TS):TS:=fun D σ H=>c σ H fun b H1=>if b=true then t D σ H1 else u D σ H1
def ps_if{c:Ax}{a b:List Ay}{tc:TT}(G:PT X c tc)(ha:PSs X a t)(J:PSs X b u):PS X (.If c a b pos) (tIfS tc t u):=by
 intro pins s σ H D I h;refine wpAny_If (thn (G pins s σ H _ I h) fun d q ⟨H1,C,F⟩=>?_);cases d with
 |true=>exact ha pins q σ H1 D C F
 |false=>exact J pins q σ H1 D C F
end
abbrev TG:=V->St->Hp->(A1)->Prop
abbrev TGs:=A2->St->Hp->(A1)->Prop
def PG(X:Cx)(q:Ax)(t:TG):Prop:=
 ∀(pins:Ac) (s:As) (σ:St) (H:Hp) (v:V) (u:Av) (Q:A1),Inv X pins σ H s->RelV v u->t v σ H Q->
  A4 X (assign q X.env u) (fun _ s'=>∃C H',Inv X pins C H' s'/\Q C H') X.xe s
def PGs(X:Cx)(ts:An)(t:TGs):Prop:=
 ∀(pins:Ac) (s:As) (σ:St) (H:Hp) (vs:A2) (C:Ag) (Q:A1),Inv X pins σ H s->Vals vs C->t vs σ H Q->
  A4 X (assignInOrder ((assignEach ts X.env).map (·.2)) C) (fun _ s'=>∃q H',Inv X pins q H' s'/\Q q H') X.xe s
abbrev Zmk:=V->V->V->Hp->(Hp->Prop)->Prop
def PSet(X:Cx)(t:Zmk):Prop:=
 ∀(pins:Ac) (s:As) (σ:St) (H:Hp) (o i v:V) (q C u:Av) (Q:Hp->Prop),Inv X pins σ H s->RelV o q->RelV i C->RelV v u->t o i v H Q->
  A4 X (setItem q C u) (fun _ s'=>∃H',Inv X pins σ H' s'/\Q H') X.xe s
abbrev TIp:=V->V->Hp->VK->Prop
def PIp(X:Cx)(q:Operator)(t:TIp):Prop:=
 ∀(pins:Ac) (s:As) (σ:St) (H:Hp) (x y:V) (v u:Av) (Q:VK),Inv X pins σ H s->RelV x v->RelV y u->t x y H Q->
  A4 X (inplaceOp q v u) (EP X pins σ Q) X.xe s
section
variable {X:Cx}{pos:Pos}
def Wv(i:Nat):TG:=fun v σ H Q=>Q (σ.set i (some v)) H
theorem zU(C:X.N.Nodup)(hi:X.N[i]?=some x)(D:Loc X.env.scope x)(F:X.fn x=true\/X.env.scope.names.lookup x=some .local:=by first|exact .inl rfl|exact .inr rfl|assumption):PG X (.Name x pos) (Wv i):=by
 intro pins s σ H v u Q I r h;exact wpAny_assign_Name (WM I C hi D r (fun s' q=>⟨_,H,q,h⟩) F)
def Zlc:TGs:=fun vs σ H Q=>vs=[]/\Q σ H
def zV(t:TG)(u:TGs):TGs:=fun vs σ H Q=>∃v r,vs=v::r/\t v σ H fun q H'=>u r q H' Q
def uT:PGs X [] Zlc:=by
 intro pins s σ H vs q Q I r h;obtain⟨e,h⟩:=h;subst e;cases r;exact assignInOrder_nil ⟨σ,H,I,h⟩
def GN{t:TG}{u:TGs}(h1:PG X e t)(h2:PGs X A u)
  (hs:(assignEach (e::A) X.env).map (·.2)=assign e X.env::(assignEach A X.env).map (·.2):=by rfl):PGs X (e::A) (zV t u):=by
 intro pins s σ H vs L Q I r h;obtain⟨v,J,e1,h⟩:=h;subst e1;cases r with
 |cons r D=>
  rw[hs];refine assignInOrder_cons (thn (h1 pins s σ H _ _ _ I r h) fun _ C ⟨q,H1,F,G⟩=>?_);exact h2 pins C q H1 _ _ Q F D G
def Zld(K:Af)(n:Nat)(t:TGs):TG:=fun v σ H Q=>∃a xs,v=.ref a/\SqT K H a xs/\xs.length=n/\t xs σ H Q
def Zgg{k:Nat}{t:TGs}(D:X.calm=true)(h:PGs X A t)
  (L:(assignEach A X.env).length=n:=by rfl) (q:(assignEach A X.env).findIdx? (·.1)=none:=by rfl):PG X (.Tuple A k pos) (Zld X.K n t):=by
 intro pins s σ H v u Q I r hw;obtain⟨a,xs,e1,G,J,hw⟩:=hw;subst e1;cases r;obtain⟨M,C,F,Z⟩:=I.tuple G;refine assign_Tuple_tuple (I.ok.hd D) F (by simp[L,<-J,C.length]) q fun h' Y=>?_;have O:Inv X pins σ H {s with heap:=h'}:=I.kept (t':=s.toks) fun b o e=>Y b o (Qbg (Qaq e)) e;exact h pins _ σ H xs _ Q O (by simpa using C) hw
def gSub(to C:TE)(t:Zmk):TG:=fun v σ H Q=>to σ H fun o H1=>C σ H1 fun i H2=>t o i v H2 fun q=>Q σ q
def pg_sub{i:Ax}{to D:TE}{t:Zmk}(ho:PE X o to)(hi:PE X i D)(hs:PSet X t)
  (ha:∀v,assign (.Subscript o i pos) X.env v=(do
   let q <-holding [v] (eval o X.env);let C <-holding [v,q] (eval i X.env)
   standAt pos
   holding [v,q,C] (setItem q C v)
   release [v,q,C] []):=by intro _;rfl):PG X (.Subscript o i pos) (gSub to D t):=by
 intro pins s σ H v u Q I r h;rw[ha];refine Qaa (Qb9 (thn (ho pins s σ H _ I h) fun q Y ⟨x,H1,Z,r1,q1⟩=>?_));refine Qaa (Qb9 (thn (hi pins Y σ H1 _ Z q1) fun C G ⟨y,H2,F,M,O⟩=>?_));refine Qaa (wpAny_standAt (Qaa (Qb9 (thn (hs pins G σ H2 x y v q C u _ F r1 M r O) fun _ s3 ⟨H3,L,J⟩=>?_))));exact wpAny_release ⟨σ,H3,L,J⟩
def Zht(te:TE)(g:TG):TS:=fun D σ H=>te σ H fun x H1=>g x σ H1 D.nx
def ps_asg{te:TE}{g:TG}(F:PE X e te)(C:PG X o g)(hs:swapsWithSole [o] e pos.line X.env=pure false:=by rfl)(hw:swappedStores [o] e X.env=pure none:=by rfl)
  (h1:(assignEach [o] X.env).map (·.2)=[assign o X.env]:=by rfl):PS X (.Assign [o] e pos) (Zht te g):=by
 intro pins s σ H D I h;refine wpAny_Assign_stores (thn (F pins s σ H _ I h) fun v G ⟨x,H1,J,M,L⟩=>?_) hs hw;rw[h1];exact thn (C pins G σ H1 x v _ J M L) fun _ O q=>q
theorem ps_set{te:TE}(F:X.N.Nodup)(hi:X.N[i]?=some x)(J:Loc X.env.scope x)(q:PE X e te)(hs:swapsWith e (some (.Name x p)) pos.line X.env=pure false:=by rfl)(O:X.fn x=true\/X.env.scope.names.lookup x=some .local:=by first|exact .inl rfl|exact .inr rfl|assumption):
  PS X (.Assign [.Name x p] e pos) (Zht te (Wv i)):=by
 intro pins s σ H D I h;refine wpAny_Assign_Name (thn (q pins s σ H _ I h) fun v Y ⟨y,H1,C,L,G⟩=>?_) hs;exact WM C F hi J L (fun Z M=>⟨_,H1,M,G⟩) O
def tAug(i:Nat)(te:TE)(q:TIp):TS:=fun D σ H=>∃x,σ[i]?=some (some x)/\te σ H fun y H1=>q x y H1 fun z H2=>D.nx (σ.set i (some z)) H2
theorem ps_aug{te:TE}{J:Operator}{O:TIp}(hN:X.N.Nodup)(hi:X.N[i]?=some x)(L:Loc X.env.scope x)(he:PE X e te)(ho:PIp X J O)(hf:X.fn x=true\/X.env.scope.names.lookup x=some .local:=by first|exact .inl rfl|exact .inr rfl|assumption):
  PS X (.AugAssign (.Name x p) J e pos) (tAug i te O):=by
 intro pins s σ H D I h;obtain⟨v,e1,h⟩:=h;obtain⟨m,hn,hl⟩:=I.loc;have G:Vis X.env.scope x:=by rcases L with k|k;exact .inl k;exact .inr (.inl k)
 obtain⟨u,r,l⟩:=hl i x v hi e1 G;refine wpAny_AugAssign_Name ?_;have M:A4 X (eval e X.env) (fun w s₂=>A4 X (inplaceOp J u w) (fun r F=>A4 X (storeName X.env x r) (fun _=>SP X pins D .next) X.xe F) X.xe s₂) X.xe s:=by
  refine thn (he pins s σ H _ I h) fun w s1 ⟨y,H1,I1,r1,q1⟩=>?_;refine thn (ho pins s1 σ H1 v y u w _ I1 r r1 q1) fun z s2 ⟨zv,H2,Z,r2,q2⟩=>?_;exact WM Z hN hi L r2 (fun s3 I3=>⟨_,H2,I3,q2⟩) hf
 rcases l with⟨q,hm⟩|⟨q,c,Y,C⟩
 ·exact wpAny_loadName_local I.ok.kind q hn hm M
 ·rcases q with q|q
  ·exact wpAny_loadName_cell I.ok.kind q Y C M
  ·rcases L with k|k
   ·have:X.env.scope.names.lookup x=some .free:=q;rw[k]at this;cases this
   ·have:X.env.scope.names.lookup x=some .free:=q;rw[k]at this;cases this
def ipI(f:Int->Int->Int):TIp:=fun x y H Q=>∃i j,x=.int i/\y=.int j/\Q (.int (f i j)) H
def ip_add:PIp X .Add (ipI fun i j=>i+j):=by
 intro pins s σ H x y v u Q I D C h;obtain⟨i,j,e1,e2,q⟩:=h;subst e1;subst e2;obtain⟨t,rfl⟩:=D;obtain⟨t',rfl⟩:=C;exact iadd_int ⟨.int _,H,I.tok _,⟨_,rfl⟩,q⟩
def ip_sub:PIp X .Sub (ipI fun i j=>i-j):=by
 intro pins s σ H x y v u Q I D C h;obtain⟨i,j,e1,e2,q⟩:=h;subst e1;subst e2;obtain⟨t,rfl⟩:=D;obtain⟨t',rfl⟩:=C;exact isub_int ⟨.int _,H,I.tok _,⟨_,rfl⟩,q⟩
def uU(c:TT)(tb:TS):TS:=fun D σ H=>∃W:Nat->St->Hp->Prop,(∃m,W m σ H)/\∀m σ H,W m σ H->
 c σ H fun b H1=>if b=true then∃N:A1,(∀q H',N q H'->∃C,C<m/\W C q H')/\tb {D with nx:=N,ct:=N,bk:=D.nx} σ H1 else D.nx σ H1
def Zd6{c:Ax}{body:List Ay}{tc:TT}{tb:TS}(hp:PassesOwn (model X.prog X.w) X.A X.env X.xe)(hc:PT X c tc)(hb:PSs X body tb):PS X (.While c body [] pos) (uU tc tb):=by
 intro pins s σ H D I h;obtain⟨W,⟨m0,w0⟩,G⟩:=h;refine wpAny_While (codeAny_whileLoop (fun n s'=>∃F H',Inv X pins F H' s'/\W n F H') ?_ m0 ⟨σ,H,I,w0⟩);rintro n s1 ⟨C,H1,I1,w1⟩;refine Qd7 hp (thn (hc pins s1 C H1 _ I1 (G n C H1 w1)) fun b s2 ⟨H2,I2,M⟩=>?_);cases b with
 |true=>
  obtain⟨N,hN,M⟩:=M;refine Qd7 hp (thn (hb pins s2 C H2 _ I2 M) fun f s3 L=>?_);cases f with
  |next=>
   obtain⟨q,J,Z,O⟩:=L;obtain⟨m',hm,Y⟩:=hN q J O;exact⟨m',hm,q,J,Z,Y⟩
  |cont=>
   obtain⟨q,J,Z,O⟩:=L;obtain⟨m',hm,Y⟩:=hN q J O;exact⟨m',hm,q,J,Z,Y⟩
  |brk=>exact L
  |ret v=>exact L
 |false=>
  exact Qgd ⟨C,H2,I2,M⟩
end
structure It where
 go:Nat->Hp->Prop
 yld:Nat->Hp->V->Hp->Prop
 stop:Nat->Hp->Prop
def vy(X:Cx)(pins:Ac)(H:Hp)(b:Aw):Prop:=
 H b=none/\b≠X.env.locals/\b∉X.fs/\(b∈X.ex\/X.s₀.heap.objs.size<=b)/\(∀x c,X.env.cells.lookup x=some c->c≠b)/\∀p∈X.pn++pins,p.1≠b
def Inv.fpOk{X:Cx}{σ:St}{H H':Hp}{b:Aw}(I:Inv X g σ H s)(C:s.heap.objs.size<=b)(D:H' b=none):vy X g H' b:=by
 refine⟨D,Qef (Qbm I.lt C),I.nofs C,.inr (Qbc I.sz C),fun x c e z=>?_,fun p F z=>?_⟩
 ·obtain⟨v,q⟩:=I.cell x c e;exact absurd (Qbm q.lt (by rw[z];exact C)) (Qce _)
 ·exact absurd (Qbm (Qaq (I.pin p F).1) (by rw[z];exact C)) (Qce _)
structure Turn(P:Aq)(w:Au)(K:Af)(tg:Ax)(J:It)(fp:List Aw)(it:Aw)(tn:Nat->Heap->Prop):Prop where
 mem:it∈fp
 obj:∀i h,tn i h->∀b∈fp,∃o,h.get? b=some o/\∀v,o.data≠.cell v
 keep:∀i h h',tn i h->(∀b∈fp,∀o,h.get? b=some o->h'.get? b=some o)->tn i h'
 item:∀(X:Cx),X.prog=P->X.w=w->X.K=K->X.calm=true->∀(i:Nat) (pins:Ac) (s:As) (σ:St) (H:Hp) (E:Ab),Inv X pins σ H s->(∀b∈fp,vy X pins H b)->tn i s.heap->J.go i H->
  wpAny (model P w) X.A (pyNext (.ref it)) (fun r s1=>∃u,r=some u /\
   wpAny (model P w) X.A (letOwnedTupleGo tg (.ref it) u) (fun _ s2=>∃x H',Inv X pins σ H' s2/\RelV x u/\J.yld i H x H'/\tn (i+1) s2.heap/\∀b∈fp,H' b=none) E s1) E s
 done:∀(X:Cx),X.prog=P->X.w=w->X.K=K->X.calm=true->∀(i:Nat) (pins:Ac) (s:As) (σ:St) (H:Hp) (E:Ab),Inv X pins σ H s->(∀b∈fp,vy X pins H b)->tn i s.heap->J.stop i H->
  wpAny (model P w) X.A (pyNext (.ref it)) (fun r s1=>r=none/\Inv X pins σ H s1) E s
 self:∀(A:Ar) (i:Nat) (s:As) (Q:Ab) (E:Ab),tn i s.heap->Q (.ref it) s->wpAny (model P w) A (pyIter (.ref it)) Q E s
abbrev TI:=St->Hp->(It->Hp->Prop)->Prop
def PIE(X:Cx)(pins:Ac)(σ:St)(tg:Ax)(R:It->Hp->Prop)(q:Av)(C:As):Prop:=
 ∃(it:Aw) (fp:List Aw) (D:Nat->Heap->Prop) (J:It) (H':Hp),q=.ref it/\Inv X pins σ H' C/\Turn X.prog X.w X.K tg J fp it D/\D 0 C.heap/\(∀b∈fp,vy X pins H' b)/\R J H'
def PI(X:Cx)(tg iter:Ax)(wi:TI):Prop:=
 ∀(pins:Ac) (s:As) (σ:St) (H:Hp) (R:It->Hp->Prop),Inv X pins σ H s->wi σ H R->
  A4 X (eval iter X.env) (fun v q=>A4 X (pyIter v) (PIE X pins σ tg R) X.xe q) X.xe s
def gD{M:Model}{A:Ar}{E:Ab}{it:Aw}{u:Av}{o:Obj}{n:String}{vs:Ah}{Q:Unit->Shared->Prop}(ho:s.heap.get? it=some o)(C:o.cls=.type n)(D:o.data=.fields vs)
    (F:["enumerate","zip","dict_itemiterator","dict_reverseitemiterator","odict_iterator","itertools.zip_longest","itertools.pairwise"].contains n=false) (q:Q () s):wpAny M A (letOwnedTupleGo e (.ref it) u) Q E s:=by
  cases e<;>first
    |exact Qae q
    | (cases u <;> first
        |exact Qae q
        | (refine Qaa (wpAny_load ho ?_)
           rw[C,D];show wpAny M A (if(["enumerate","zip","dict_itemiterator","dict_reverseitemiterator","odict_iterator","itertools.zip_longest","itertools.pairwise"].contains n&&vs[0]? == some (rawInt _))=true then _ else _) Q E s;rw[Qax (by grind)];exact Qae q))
def Itl(K:Af)(a:Aw):It:=
 ⟨fun i H=>∃xs x,SqL K H a xs/\xs[i]?=some x,fun i H x H'=>H'=H/\∀xs,SqL K H a xs->xs[i]?=some x,fun i H=>∃xs,SqL K H a xs/\xs.length<=i⟩
def Itt(K:Af)(a:Aw):It:=
 ⟨fun i H=>∃xs x,SqT K H a xs/\xs[i]?=some x,fun i H x H'=>H'=H/\∀xs,SqT K H a xs->xs[i]?=some x,fun i H=>∃xs,SqT K H a xs/\xs.length<=i⟩
def Itr(lo:Int)(n:Nat):It:=⟨fun i _=>i<n,fun i H x H'=>H'=H/\x=.int (lo+i),fun i _=>n<=i⟩
def uV{tg:Ax}(a it:Aw):Turn P w K tg (Itl K a) [it] it (fun i h=>h.IsListIter it a i)where
 mem:=by simp
 obj:=fun i h st b q=>by
  have e:b=it:=by simpa using q
  subst e;obtain⟨o,e,c,d⟩:=st;exact⟨o,e,fun v z=>by rw[d]at z;cases z⟩
 keep:=fun i h h' st k=>st.at fun o e=>k it (by simp) o e
 item:=by
  intro X O hw hK hc i pins s σ H E I D st G;subst O hw hK;obtain⟨xs,x,F,hx⟩:=G;obtain⟨M,Z,p,hz⟩:=I.list F;obtain⟨u,hu,ru⟩:=Z.get hx;obtain⟨f0,L,f2,f3,Y,J⟩:=D it (by simp);refine wpAny_pyNext_list_item st p.isList (x:=u) (by simpa using hu) fun h' C sb=>?_;have I1:Inv X pins σ H {s with heap:=h'}:=I.turned (t':=s.toks) (fun b o q e=>(sb.2 b q).trans e) f0 L f3 Y J;obtain⟨o,e,c,d⟩:=id C;exact⟨u,rfl,gD (s:={s with heap:=h'}) e c d (by decide) ⟨x,H,I1,ru,⟨rfl,fun ys hy=>by rw[I.list_inj hy F];exact hx⟩,C,fun b q=>(D b q).1⟩⟩
 done:=by
  intro X O hw hK hc i pins s σ H E I D st G;subst O hw hK;obtain⟨xs,F,hx⟩:=G;obtain⟨M,Z,p,hz⟩:=I.list F;obtain⟨f0,L,f2,f3,Y,J⟩:=D it (by simp);have hl:=Z.length;exact wpAny_pyNext_list_end (I.ok.hd hc) st p.isList (by simp;lia) fun h' eb=>⟨rfl,I.turned (t':=s.toks) (fun b o q e=>eb b o q e) f0 L f3 Y J⟩
 self:=fun _ _ _ _ _ st h=>wpAny_pyIter_listiter st h
def gE{tg:Ax}(a it:Aw):Turn P w K tg (Itt K a) [it] it (fun i h=>h.IsTupleIter it a i)where
 mem:=by simp
 obj:=fun i h st b C=>by
  have e:b=it:=by simpa using C
  subst e;obtain⟨o,e,c,d⟩:=st;exact⟨o,e,fun v z=>by rw[d]at z;cases z⟩
 keep:=fun i h h' st k=>st.at fun o e=>k it (by simp) o e
 item:=by
  intro X O hw hK hc i pins s σ H E I F st J;subst O hw hK;obtain⟨xs,x,G,hx⟩:=J;obtain⟨q,Z,p,hz⟩:=I.tuple G;obtain⟨u,hu,ru⟩:=Z.get hx;obtain⟨f0,M,f2,f3,Y,L⟩:=F it (by simp);refine wpAny_pyNext_tuple_item st (show s.heap.IsTuple a q.toArray from p) (x:=u) (by simpa using hu) fun h' D sb=>?_;have I1:Inv X pins σ H {s with heap:=h'}:=I.turned (t':=s.toks) (fun b o C e=>(sb.2 b C).trans e) f0 M f3 Y L;obtain⟨o,e,c,d⟩:=id D;exact⟨u,rfl,gD (s:={s with heap:=h'}) e c d (by decide) ⟨x,H,I1,ru,⟨rfl,fun ys hy=>by rw[I.tuple_inj hy G];exact hx⟩,D,fun b C=>(F b C).1⟩⟩
 done:=by
  intro X O hw hK hc i pins s σ H E I F st J;subst O hw hK;obtain⟨xs,G,hx⟩:=J;obtain⟨q,Z,p,hz⟩:=I.tuple G;obtain⟨f0,M,f2,f3,Y,L⟩:=F it (by simp);have hl:=Z.length;exact wpAny_pyNext_tuple_end (I.ok.hd hc) st (show s.heap.IsTuple a q.toArray from p) (by simp;lia) fun h' eb=>⟨rfl,I.turned (t':=s.toks) (fun b o C e=>eb b o C e) f0 M f3 Y L⟩
 self:=fun _ _ _ _ _ st h=>wpAny_pyIter_tupleiter st h
def gF{tg:Ax}(it:Aw)(lo:Int)(n:Nat):Turn P w K tg (Itr lo n) [it] it (fun i h=>IsRangeIter h it (lo+(i:Nat)*1) ((n:Int)-(i:Nat)) 1)where
 mem:=by simp
 obj:=fun i h st b q=>by
  grind
 keep:=fun i h h' st k=>k it (by simp) _ st
 item:=by
  intro X M hw Y G i pins s σ H E I D st F;subst M hw Y;obtain⟨f0,L,f2,Z,O,J⟩:=D it (by simp);have W:=Walks.range (prog:=X.prog) (w:=X.w) (I.ok.hd G) it lo 1 n;refine W.item i s _ _ F st fun v h' tk hv C kk=>?_;obtain⟨t,rfl⟩:=hv;have I1:Inv X pins σ H {s with heap:=h',toks:=tk}:=I.turned (fun b o q e=>kk b o (by simpa using q) e) f0 L Z O J;refine⟨_,rfl,gD (s:={s with heap:=h',toks:=tk}) (n:= "range_iterator") C rfl rfl (by decide) ⟨.int (lo+i),H,I1,⟨t,?_⟩,⟨rfl,rfl⟩,C,fun b q=>(D b q).1⟩⟩;rw[Int.mul_one]
 done:=by
  intro X M hw Y G i pins s σ H E I D st F;subst M hw Y;obtain⟨f0,L,f2,Z,O,J⟩:=D it (by simp);exact wpAny_pyNext_range_end (I.ok.hd G) st (by have:n<=i:=F;lia) fun h' eb=>⟨rfl,I.turned (t':=s.toks) (fun b o q e=>eb b o q e) f0 L Z O J⟩
 self:=fun _ _ _ _ _ st h=>wpAny_pyIter_rangeiter st h
section
variable {X:Cx}{tg:Ax}
def uW(K:Af)(tl:TE):TI:=fun σ H R=>tl σ H fun x H1=>∃a,x=.ref a/\(∃xs,SqL K H1 a xs)/\R (Itl K a) H1
def iTup(K:Af)(tl:TE):TI:=fun σ H R=>tl σ H fun x H1=>∃a,x=.ref a/\(∃xs,SqT K H1 a xs)/\R (Itt K a) H1
def Zhu{l:Ax}{tl:TE}(O:PE X l tl):PI X tg l (uW X.K tl):=by
 intro pins s σ H R I h;refine thn (O pins s σ H _ I h) fun v C ⟨x,H1,D,M,J⟩=>?_;obtain⟨a,e,⟨xs,F⟩,q⟩:=J;subst e;cases M;obtain⟨L,Y,p,Z⟩:=D.list F;refine Qe4 p.isList ?_;refine⟨C.heap.objs.size,[C.heap.objs.size],_,_,H1,rfl,D.kept (t':=C.toks) fun b o e=>Qad _ e,uV a _,⟨_,Qam _ rfl,rfl,rfl⟩,fun b G=>?_,q⟩;have e:b=C.heap.objs.size:=by simpa using G
 subst e;exact D.fpOk (Qak _) (D.hok.fresh (Qak _))
def pi_tup{l:Ax}{tl:TE}(O:PE X l tl):PI X tg l (iTup X.K tl):=by
 intro pins s σ H R I h;refine thn (O pins s σ H _ I h) fun v C ⟨x,H1,D,M,L⟩=>?_;obtain⟨a,e,⟨xs,G⟩,q⟩:=L;subst e;cases M;obtain⟨F,Y,p,Z⟩:=D.tuple G;refine wpAny_pyIter_tuple (show C.heap.IsTuple a F.toArray from p) ?_;refine⟨C.heap.objs.size,[C.heap.objs.size],_,_,H1,rfl,D.kept (t':=C.toks) fun b o e=>Qad _ e,gE a _,⟨_,Qam _ rfl,rfl,rfl⟩,fun b J=>?_,q⟩;have e:b=C.heap.objs.size:=by simpa using J
 subst e;exact D.fpOk (Qak _) (D.hok.fresh (Qak _))
def kS{σ:St}{H:Hp}{R:It->Hp->Prop}{E:Ab}{lo hi:Int}{t u v:Tok}{tk:Nat}(I:Inv X g σ H s)(h1:-(2^62)<=lo)(h2:lo<2^62)(D:-(2^62)<=hi)(G:hi<2^62)
  (q:R (Itr lo (hi-lo).toNat) H):A4 X (pyIter (.ref s.heap.objs.size)) (PIE X g σ tg R) E {s with heap:=s.heap.push {cls:=.type "range",data:=.fields #[.int lo t,.int hi u,.int 1 v]},toks:=tk}:=by
 refine wpAny_pyIter_range (IsRange.new ..) (small_one h1 h2 D G) ?_;have C:Inv X g σ H {s with heap:=s.heap.push {cls:=.type "range",data:=.fields #[.int lo t,.int hi u,.int 1 v]},toks:=tk}:=I.kept fun b o e=>Qad _ e;refine⟨(s.heap.push {cls:=.type "range",data:=.fields #[.int lo t,.int hi u,.int 1 v]}).objs.size,[(s.heap.push {cls:=.type "range",data:=.fields #[.int lo t,.int hi u,.int 1 v]}).objs.size],_,_,H,rfl,
  C.kept (t':=tk) fun b o e=>Qad _ e,gF _ lo (hi-lo).toNat,?_,fun b F=>?_,q⟩
 ·have e1:lo+((0:Nat):Int)*1=lo:=by simp
  have e2:(((hi-lo).toNat:Nat):Int)-((0:Nat):Int)=Builtin.Range.rangeSize lo hi 1:=by rw[rangeSize_one];split<;>lia
  rw[e1,e2];exact Qam _ rfl
 ·have e:b=(s.heap.push {cls:=.type "range",data:=.fields #[.int lo t,.int hi u,.int 1 v]}).objs.size:=by simpa using F
  subst e;exact C.fpOk (Qak _) (C.hok.fresh (Qak _))
def Zhv(ta:TA):TI:=fun σ H R=>ta σ H fun vs H1=>∃j:Int,vs=[.int j]/\-(2^62)<=j/\j<2^62/\R (Itr 0 j.toNat) H1
def Zle(ta:TA):TI:=fun σ H R=>ta σ H fun vs H1=>∃i j:Int,vs=[.int i,.int j]/\(-(2^62)<=i/\i<2^62/\-(2^62)<=j/\j<2^62)/\R (Itr i (j-i).toNat) H1
def uX {a:Ax} {ta:TA}  (D:Gl X "range") (M:X.mg "range" = none) (ha:PA X [a] ta) (hs:starEach [a] X.env=[(false,eval a X.env)]:=by rfl):PI X tg (.Call (.Name "range" p) [a] [] m) (Zhv ta):=by
 intro pins s σ H R I h;refine Call_ (Jo I D M boot_range (Qcs (thn (ha m pins s σ H _ I h) fun Y O ⟨vs,H1,J,L,C⟩=>?_) hs rfl));obtain⟨j,e,C,F,q⟩:=C;subst e;cases L with
 |cons r G=>
  cases G;obtain⟨t,rfl⟩:=r;exact call_range_1 (kS J (by lia) (by lia) C F (by simpa using q))
def uY {a b:Ax} {ta:TA}  (G:Gl X "range") (Z:X.mg "range" = none) (ha:PA X [a,b] ta) (hs:starEach [a,b] X.env=[(false,eval a X.env),(false,eval b X.env)]:=by rfl) (C:starEach [b] X.env=[(false,eval b X.env)]:=by rfl):
  PI X tg (.Call (.Name "range" p) [a,b] [] m) (Zle ta):=by
 intro pins s σ H R I h;refine Call_ (Jo I G Z boot_range (Qcs (thn (ha m pins s σ H _ I h) fun us s1 ⟨vs,H1,M,O,F⟩=>?_) (by rw[hs,C]) (by rw[C];rfl)));obtain⟨i,j,e,⟨F,J,Y,q4⟩,q⟩:=F;subst e;cases O with
 |cons r D=>
  cases D with
  |cons L D=>
   cases D;obtain⟨t,rfl⟩:=r;obtain⟨t',rfl⟩:=L;exact call_range_2 (kS M F J Y q4 q)
def tFor(wi:TI)(g:TG)(tb:TS):TS:=fun D σ H=>wi σ H fun J H1=>∃W:Nat->Nat->St->Hp->Prop,(∃m,W 0 m σ H1)/\∀i m σ H,W i m σ H->
 (J.stop i H/\D.nx σ H)\/(J.go i H/\∃N:A1,(∀q H',N q H'->∃F,F<m/\W (i+1) F q H')/\∀x H',J.yld i H x H'->g x σ H' fun C H2=>tb {D with nx:=N,ct:=N,bk:=D.nx} C H2)
def jY(fp:List Aw)(h:Heap):Ac:=fp.filterMap fun b=>(h.get? b).map fun o=>(b,o)
def WN{b:Aw}{o:Obj}(q:b∈M)(e:h.get? b=some o):(b,o)∈jY M h:=Qgk.mpr ⟨b,q,by rw[e];rfl⟩
def uZ{p:Aw×Obj}(F:p∈jY M h):p.1∈M/\h.get? p.1=some p.2:=by
 obtain⟨b,C,e⟩:=Qgk.mp F;cases q:h.get? b with
 |none=>rw[q]at e;cases e
 |some o=>
  rw[q]at e;have D:(b,o)=p:=Option.some.inj e;subst D;exact⟨C,q⟩
theorem Inv.pinned{σ:St}{H:Hp}(I:Inv X g σ H s)(J:∀b∈M,vy X g H b)(ho:∀b∈M,∃o,s.heap.get? b=some o/\∀v,o.data≠.cell v):Inv X (g++jY M s.heap) σ H s:=
 I.pins_of fun p D=>(Qbd.mp D).elim (fun z=>I.pin p (Qbn _ z)) fun z=>by
  obtain⟨q,e⟩:=uZ z;obtain⟨f0,F,G,_⟩:=J p.1 q;obtain⟨o,C,d⟩:=ho p.1 q;rw[e]at C;cases C;exact⟨e,f0,F,G,d⟩
def Inv.unpinned{pl:Ac}{σ:St}{H:Hp}(I:Inv X (g++pl) σ H s):Inv X g σ H s:=I.pins_of fun p q=>I.pin p (Qbn _ (Qd6 _ q))
def ps_for{iter:Ax}{body:List Ay}{wi:TI}{g:TG}{tb:TS}(hp:PassesOwn (model X.prog X.w) X.A X.env X.xe)(hc:X.calm=true)(hi:PI X tg iter wi)(hg:PG X tg g)(C:PSs X body tb)
  (hs:∀x,foldedSetIterable iter X.env x=pure x:=by intro _;rfl):PS X (.For tg iter body [] p) (tFor wi g tb):=by
 intro pins s σ H D I h;refine wpAny_For (thn (hi pins s σ H _ I h) fun v s1 h1=>thn h1 fun itv s2 h2=>?_) hs;obtain⟨it,fp,tn,J,H2,e,I2,T,st2,f2,W,⟨m0,w0⟩,turn⟩:=h2;subst e;have M:∀{H':Hp},(∀b∈fp,H' b=none)->∀b∈fp,vy X pins H' b:=fun hn b C=>⟨hn b C,(f2 b C).2⟩;refine codeAny_forLoop_any (fun n s'=>∃i O H',Inv X pins O H' s'/\tn i s'.heap/\(∀b∈fp,H' b=none)/\W i n O H') ?_ m0 ⟨0,σ,H2,I2,st2,fun b C=>(f2 b C).1,w0⟩;rintro n s3 ⟨i,F,H3,I3,st3,fr3,w3⟩;rcases turn i n F H3 w3 with⟨stop,qn⟩|⟨go,N,hN,step⟩
 ·refine Qd7 hp (thn (T.done X rfl rfl rfl hc i pins s3 F H3 X.xe I3 (M fr3) st3 stop) fun r s4 ⟨hr,I4⟩=>?_);subst hr;exact Qgd ⟨F,H3,I4,qn⟩
 ·refine Qd7 hp (thn (T.item X rfl rfl rfl hc i pins s3 F H3 X.xe I3 (M fr3) st3 go) fun r s4 ⟨u,hr,h4⟩=>?_);subst hr;refine Qd7 hp (thn h4 fun _ s5 ⟨x,H5,I5,r5,y5,Z,fr5⟩=>?_);have I5':=I5.pinned (M fr5) (T.obj _ _ Z);refine Qd7 hp (thn (hg _ s5 F H5 x u _ I5' r5 (step x H5 y5)) fun _ s6 ⟨σ6,H6,I6,q6⟩=>?_);refine Qd7 hp (thn (C _ s6 σ6 H6 _ I6 q6) fun f s7 Y=>?_);have again:∀{q:St} {L:Hp},Inv X (pins++jY fp s5.heap) q L s7->N q L->∃m,m<n/\∃i O H',Inv X pins O H' s7/\tn i s7.heap/\(∀b∈fp,H' b=none)/\W i m O H':=fun{q L} G n7=>by
   obtain⟨m',hm,w7⟩:=hN q L n7;refine⟨m',hm,i+1,q,L,G.unpinned,T.keep _ _ _ Z fun b C o e=>(G.pin (b,o) (Qbn _ (Qbn _ (WN C e)))).1,fun b C=>?_,w7⟩;obtain⟨o,e,d⟩:=T.obj _ _ Z b C;exact(G.pin (b,o) (Qbn _ (Qbn _ (WN C e)))).2.1
  cases f with
  |next=>obtain⟨q,L,G,n7⟩:=Y;exact again G n7
  |cont=>obtain⟨q,L,G,n7⟩:=Y;exact again G n7
  |brk=>obtain⟨q,L,G,Y⟩:=Y;exact⟨q,L,G.unpinned,Y⟩
  |ret v=>obtain⟨x7,q,L,G,r7,Y⟩:=Y;exact⟨x7,q,L,G.unpinned,r7,Y⟩
end
def kT{xs:A2}{g:TG}{tb:TS}{D:Ends}{σ:St}{H:Hp}(C:Nat->St->Hp->Prop)(O:C 0 σ H)(L:∀i σ H,i<=xs.length->C i σ H->SqL K H a xs)
  (hs:∀i x σ H,xs[i]?=some x->C i σ H->g x σ H fun G H2=>tb {D with nx:=C (i+1),ct:=C (i+1),bk:=D.nx} G H2) (M:∀σ H,C xs.length σ H->D.nx σ H):
  ∃W:Nat->Nat->St->Hp->Prop,(∃m,W 0 m σ H)/\∀i m σ H,W i m σ H->
   ((Itl K a).stop i H/\D.nx σ H)\/((Itl K a).go i H/\∃N:A1,(∀F H',N F H'->∃J,J<m/\W (i+1) J F H')/\∀x H',(Itl K a).yld i H x H'->g x σ H' fun G H2=>tb {D with nx:=N,ct:=N,bk:=D.nx} G H2):=by
 refine⟨fun i m σ H=>m=xs.length-i/\i<=xs.length/\C i σ H,⟨xs.length,by simp,Qbl _,O⟩,?_⟩;rintro i m σ H ⟨rfl,hi,p⟩;have q:=L i σ H hi p
 by_cases I:i<xs.length
 ·refine .inr ⟨⟨xs,xs[i],q,by simp[I]⟩,C (i+1),fun F H' Y=>⟨xs.length-(i+1),by lia,rfl,I,Y⟩,fun x H' y=>?_⟩;obtain⟨e,y⟩:=y;subst e;exact hs i x σ _ (y xs q) p
 ·have e:i=xs.length:=by lia
  subst e;exact .inl ⟨⟨xs,q,Qak _⟩,M σ H p⟩
def zW{xs:A2}{g:TG}{tb:TS}{D:Ends}{σ:St}{H:Hp}(C:Nat->St->Hp->Prop)(O:C 0 σ H)(L:∀i σ H,i<=xs.length->C i σ H->SqT K H a xs)
  (hs:∀i x σ H,xs[i]?=some x->C i σ H->g x σ H fun G H2=>tb {D with nx:=C (i+1),ct:=C (i+1),bk:=D.nx} G H2) (M:∀σ H,C xs.length σ H->D.nx σ H):
  ∃W:Nat->Nat->St->Hp->Prop,(∃m,W 0 m σ H)/\∀i m σ H,W i m σ H->
   ((Itt K a).stop i H/\D.nx σ H)\/((Itt K a).go i H/\∃N:A1,(∀F H',N F H'->∃J,J<m/\W (i+1) J F H')/\∀x H',(Itt K a).yld i H x H'->g x σ H' fun G H2=>tb {D with nx:=N,ct:=N,bk:=D.nx} G H2):=by
 refine⟨fun i m σ H=>m=xs.length-i/\i<=xs.length/\C i σ H,⟨xs.length,by simp,Qbl _,O⟩,?_⟩;rintro i m σ H ⟨rfl,hi,p⟩;have q:=L i σ H hi p
 by_cases I:i<xs.length
 ·refine .inr ⟨⟨xs,xs[i],q,by simp[I]⟩,C (i+1),fun F H' Y=>⟨xs.length-(i+1),by lia,rfl,I,Y⟩,fun x H' y=>?_⟩;obtain⟨e,y⟩:=y;subst e;exact hs i x σ _ (y xs q) p
 ·have e:i=xs.length:=by lia
  subst e;exact .inl ⟨⟨xs,q,Qak _⟩,M σ H p⟩
def XJ{lo:Int}{g:TG}{tb:TS}{D:Ends}{σ:St}{H:Hp}(G:Nat->St->Hp->Prop)(L:G 0 σ H)
  (hs:∀i σ H,i<n->G i σ H->g (.int (lo+i)) σ H fun F H2=>tb {D with nx:=G (i+1),ct:=G (i+1),bk:=D.nx} F H2) (J:∀σ H,G n σ H->D.nx σ H):
  ∃W:Nat->Nat->St->Hp->Prop,(∃m,W 0 m σ H)/\∀i m σ H,W i m σ H->
   ((Itr lo n).stop i H/\D.nx σ H)\/((Itr lo n).go i H/\∃N:A1,(∀C H',N C H'->∃I,I<m/\W (i+1) I C H')/\∀x H',(Itr lo n).yld i H x H'->g x σ H' fun F H2=>tb {D with nx:=N,ct:=N,bk:=D.nx} F H2):=by
 refine⟨fun i m σ H=>m=n-i/\i<=n/\G i σ H,⟨n,by simp,Qbl _,L⟩,?_⟩;rintro i m σ H ⟨rfl,hi,p⟩
 by_cases q:i<n
 ·refine .inr ⟨q,G (i+1),fun C H' M=>⟨n-(i+1),by lia,rfl,q,M⟩,fun x H' y=>?_⟩;obtain⟨e,y⟩:=y;subst e y;exact hs i σ _ q p
 ·have e:i=n:=by lia
  subst e;exact .inl ⟨Qak _,J σ H p⟩
abbrev R2:=V->V->Hp->VK->Prop
def OpR(X:Cx)(f:Av->Value->Sem Av)(r:R2):Prop:=
 ∀(pins:Ac) (s:As) (σ:St) (H:Hp) (x y:V) (v u:Av) (Q:VK),Inv X pins σ H s->RelV x v->RelV y u->r x y H Q->
  A4 X (f v u) (EP X pins σ Q) X.xe s
def UnR(X:Cx)(f:Av->Sem Av)(r:V->Hp->VK->Prop):Prop:=
 ∀(pins:Ac) (s:As) (σ:St) (H:Hp) (x:V) (v:Av) (Q:VK),Inv X pins σ H s->RelV x v->r x H Q->
  A4 X (f v) (EP X pins σ Q) X.xe s
def YA(X:Cx)(f:Av)(r:A2->Hp->VK->Prop):Prop:=
 ∀(pins:Ac) (s:As) (σ:St) (H:Hp) (xs:A2) (q:Ag) (Q:VK),Inv X pins σ H s->Vals xs q->r xs H Q->
  A4 X (call f q) (EP X pins σ Q) X.xe s
def tOp(r:R2)(ta tb:TE):TE:=fun σ H Q=>ta σ H fun x H1=>tb σ H1 fun y H2=>r x y H2 Q
def tUn(r:V->Hp->VK->Prop)(ta:TE):TE:=fun σ H Q=>ta σ H fun x H1=>r x H1 Q
def rI(C:Int->Int->Prop)(g:Int->Int->V):R2:=fun x y H Q=>∃i j,x=.int i/\y=.int j/\C i j/\Q (g i j) H
def rI0(g:Int->Int->V):R2:=fun x y H Q=>∃i j,x=.int i/\y=.int j/\Q (g i j) H
def rU(g:Int->V):V->Hp->VK->Prop:=fun x H Q=>∃i,x=.int i/\Q (g i) H
section
variable {X:Cx}{a b c:Ax}{ta tb tc:TE}{pos:Pos}
def binT(ha:PE X a ta)(M:PE X b tb){σ:St}{H:Hp}{R:V->V->Hp->Prop}(I:Inv X g σ H s)
  (h:ta σ H fun x H1=>tb σ H1 fun y H2=>R x y H2)  {f:Av->Value->Sem Av}
  (Z:∀v u C x y H2,Inv X g σ H2 C->RelV x v->RelV y u->R x y H2->A4 X (f v u) Q X.xe C):
  A4 X (eval a X.env) (fun v q=>A4 X (eval b X.env) (fun u s₂=>A4 X (f v u) Q X.xe s₂) X.xe q) X.xe s:=by
 refine thn (ha g s σ H _ I h) fun v J ⟨x,H1,L,Y,O⟩=>?_;refine thn (M g J σ H1 _ L O) fun u C ⟨y,H2,G,D,F⟩=>?_;exact Z v u C x y H2 G Y D F
def pe_op{C:Operator}{r:R2}(ho:OpR X (binaryOp C) r)(ha:PE X a ta)(J:PE X b tb):PE X (.BinOp a C b pos) (tOp r ta tb):=by
 intro pins s σ H Q I h;exact wpAny_BinOp (binT ha J I h fun v u F x y H2 D L G q=>ho pins F σ H2 x y v u Q D L G q)
def pe_un{q:UnaryOp}{r:V->Hp->VK->Prop}(ho:UnR X (unaryOp q) r)(ha:PE X a ta):PE X (.UnaryOp q a pos) (tUn r ta):=by
 intro pins s σ H Q I h;exact UnaryOp_ (thn (ha pins s σ H _ I h) fun v G ⟨x,H1,C,F,D⟩=>ho pins G σ H1 x v Q C F D)
def opI{f:Av->Value->Sem Av}{C:Int->Int->Prop}{g:Int->Int->Int}
  (rule:∀(i j:Int) (t u:Tok) (s:As) (Q:Ab) (E:Ab),C i j->Q (.int (g i j) s.toks) {s with toks:=s.toks+1}->A4 X (f (.int i t) (.int j u)) Q E s):
  OpR X f (rI C fun i j=>.int (g i j)):=by
 intro pins s σ H x y v u Q I D G h;obtain⟨i,j,rfl,rfl,F,q⟩:=h;obtain⟨t,rfl⟩:=D;obtain⟨t',rfl⟩:=G;exact rule i j t t' s _ _ F ⟨.int (g i j),H,I.tok _,⟨_,rfl⟩,q⟩
def Zlf{f:Av->Value->Sem Av}{g:Int->Int->Int}
  (rule:∀(i j:Int) (t u:Tok) (s:As) (Q:Ab) (E:Ab),Q (.int (g i j) s.toks) {s with toks:=s.toks+1}->A4 X (f (.int i t) (.int j u)) Q E s):
  OpR X f (rI0 fun i j=>.int (g i j)):=by
 intro pins s σ H x y v u Q I C D h;obtain⟨i,j,rfl,rfl,q⟩:=h;obtain⟨t,rfl⟩:=C;obtain⟨t',rfl⟩:=D;exact rule i j t t' s _ _ ⟨.int (g i j),H,I.tok _,⟨_,rfl⟩,q⟩
def Zml{f:Av->Value->Sem Av}{g:Int->Int->Bool}
  (rule:∀(i j:Int) (t u:Tok) (s:As) (Q:Ab) (E:Ab),Q (.bool (g i j)) s->A4 X (f (.int i t) (.int j u)) Q E s):
  OpR X f (rI0 fun i j=>.bl (g i j)):=by
 intro pins s σ H x y v u Q I C D h;obtain⟨i,j,rfl,rfl,q⟩:=h;obtain⟨t,rfl⟩:=C;obtain⟨t',rfl⟩:=D;exact rule i j t t' s _ _ ⟨.bl (g i j),H,I,rfl,q⟩
def CPow(i j:Int):Prop:=0<=j/\j<=1000000/\i.natAbs<2^64
def CMul(i j:Int):Prop:=(-(2^64)<i/\i<2^64)\/(-(2^64)<j/\j<2^64)
def CMul.ok{i j:Int}(h:CMul i j):IntMulOk i j:=by
 rcases h with⟨h1,h2⟩|⟨h1,h2⟩
 ·exact .of_left (intBits_le_64 h1 h2)
 ·exact .of_right (intBits_le_64 h1 h2)
def two_pow_nn(k:Nat):(0:Int)<=2^k:=by grind
def YB:OpR X (binaryOp .Add) (rI0 fun i j=>.int (i+j)):=Zlf fun _ _ _ _ _ _ _ q=>add_int q
def YO:OpR X (binaryOp .Sub) (rI0 fun i j=>.int (i-j)):=Zlf fun _ _ _ _ _ _ _ q=>sub_int q
theorem ZM:OpR X (binaryOp .Mod) (rI (fun _ j=>0<j) fun i j=>.int (i%j)):=opI fun i j _ _ _ _ _ C q=>by
 exact mod_int' (by lia) (by grind)
def op_pow:OpR X (binaryOp .Pow) (rI CPow fun i j=>.int (i^j.toNat)):=opI fun _ _ _ _ _ _ _ C q=>pow_int_small C.1 C.2.1 C.2.2 q
def op_shl:OpR X (binaryOp .LShift) (rI CPow fun i j=>.int (i*2^j.toNat)):=opI fun _ _ _ _ _ _ _ C q=>lshift_int_small C.1 C.2.1 C.2.2 q
theorem kU:OpR X (binaryOp .RShift) (rI (fun _ j=>0<=j) fun i j=>.int (i/2^j.toNat)):=opI fun i j _ _ _ _ _ C q=>
 rshift_int C (by grind)
def Xg:OpR X (binaryOp .BitAnd) (rI0 fun i j=>.int (Builtin.bitAnd i j)):=Zlf fun _ _ _ _ _ _ _ q=>and_int q
def x9:OpR X (binaryOp .BitOr) (rI0 fun i j=>.int (Builtin.bitOr i j)):=Zlf fun _ _ _ _ _ _ _ q=>or_int q
def qe:OpR X (binaryOp .BitXor) (rI0 fun i j=>.int (Builtin.bitXor i j)):=Zlf fun _ _ _ _ _ _ _ q=>xor_int q
def unI{f:Av->Sem Av}{g:Int->Int}
  (rule:∀(i:Int) (t:Tok) (s:As) (Q:Ab) (E:Ab),Q (.int (g i) s.toks) {s with toks:=s.toks+1}->A4 X (f (.int i t)) Q E s):
  UnR X f (rU fun i=>.int (g i)):=by
 intro pins s σ H x v Q I C h;obtain⟨i,rfl,q⟩:=h;obtain⟨t,rfl⟩:=C;exact rule i t s _ _ ⟨.int (g i),H,I.tok _,⟨_,rfl⟩,q⟩
def qf:UnR X (unaryOp .USub) (rU fun i=>.int (-i)):=unI fun _ _ _ _ _ q=>neg_int q
def qg:UnR X (unaryOp .Invert) (rU fun i=>.int (Builtin.bitNot i)):=unI fun _ _ _ _ _ q=>invert_int q
end
def scal:V->V->Bool
 |.non,.non=>true|.non,.int _=>true|.int _,.non=>true|.non,.bl _=>true|.bl _,.non=>true|.non,.str _=>true|.str _,.non=>true
 |.int _,.int _=>true|.bl _,.bl _=>true|.str _,.str _=>true|.byt _,.byt _=>true
 |.int _,.str _=>true|.str _,.int _=>true|.bl _,.str _=>true|.str _,.bl _=>true
 |_,_=>false
def rEq:R2:=fun x y H Q=>scal x y=true/\Q (.bl (decide (x=y))) H
def rNe:R2:=fun x y H Q=>scal x y=true/\Q (.bl (!decide (x=y))) H
def Zaa{i j:Int}:decide (V.int i=V.int j)=(i == j):=by grind
def Zgh{i:Bool}:decide (V.bl i=V.bl j)=(i == j):=by grind
def Zab{i j:Str}:decide (V.str i=V.str j)=(i == j):=by grind
def Zac{i j:Array UInt8}:decide (V.byt i=V.byt j)=(i.toList == j.toList):=by
 rw[Qdo];cases i;cases j;simp
section
variable {X:Cx}{a b c:Ax}{ta tb tc:TE}{pos:Pos}
def ZH{σ:St}{H:Hp}{Q:VK}{k:Bool}(I:Inv X g σ H s)(q:Q (.bl k) H)(e:k=j):EP X g σ Q (.bool j) s:=by
 subst e;exact⟨.bl k,H,I,rfl,q⟩
def Yt:OpR X (compareOp .Eq) rEq:=by
 intro pins s σ H x y v u Q I D C h;obtain⟨hs,q⟩:=h;cases x with
 |non=>
  cases D;cases y with
  |non=>cases C;exact PySem.EqNone.eq_none_none (ZH I q (by simp))
  |bl j=>cases C;exact PySem.EqNone.eq_none_bool (ZH I q (by simp))
  |int j=>obtain⟨t',rfl⟩:=C;exact PySem.EqNone.eq_none_int (ZH I q (by simp))
  |str j=>obtain⟨t',rfl⟩:=C;exact PySem.EqNone.eq_none_str (ZH I q (by simp))
  |_=>exact absurd (show false=true from hs) Qa7
 |bl i=>
  cases D;cases y with
  |non=>cases C;exact PySem.EqNone.eq_bool_none (ZH I q (by simp))
  |bl j=>cases C;exact eq_bool (ZH I q Zgh)
  |str j=>obtain⟨t',rfl⟩:=C;exact PySem.EqMixed.eq_bool_str (ZH I q (by simp))
  |_=>exact absurd (show false=true from hs) Qa7
 |int i=>
  obtain⟨t,rfl⟩:=D;cases y with
  |non=>cases C;exact PySem.EqNone.eq_int_none (ZH I q (by simp))
  |int j=>obtain⟨t',rfl⟩:=C;exact eq_int (ZH I q Zaa)
  |str j=>obtain⟨t',rfl⟩:=C;exact PySem.EqMixed.eq_int_str (ZH I q (by simp))
  |_=>exact absurd (show false=true from hs) Qa7
 |str i=>
  obtain⟨t,rfl⟩:=D;cases y with
  |non=>cases C;exact PySem.EqNone.eq_str_none (ZH I q (by simp))
  |bl j=>cases C;exact PySem.EqMixed.eq_str_bool (ZH I q (by simp))
  |int j=>obtain⟨t',rfl⟩:=C;exact PySem.EqMixed.eq_str_int (ZH I q (by simp))
  |str j=>obtain⟨t',rfl⟩:=C;exact eq_str (ZH I q Zab)
  |_=>exact absurd (show false=true from hs) Qa7
 |byt i=>
  obtain⟨t,rfl⟩:=D;cases y with
  |byt j=>obtain⟨t',rfl⟩:=C;exact PySem.W.eq_bytes (ZH I q Zac)
  |_=>exact absurd (show false=true from hs) Qa7
 |_=>cases y<;>exact absurd (show false=true from hs) Qa7
def Zd7:OpR X (compareOp .NotEq) rNe:=by
 intro pins s σ H x y v u Q I D C h;obtain⟨hs,q⟩:=h;cases x with
 |non=>
  cases D;cases y with
  |non=>cases C;exact PySem.EqNone.ne_none_none (ZH I q (by simp))
  |bl j=>cases C;exact PySem.EqNone.ne_none_bool (ZH I q (by simp))
  |int j=>obtain⟨t',rfl⟩:=C;exact PySem.EqNone.ne_none_int (ZH I q (by simp))
  |str j=>obtain⟨t',rfl⟩:=C;exact PySem.EqNone.ne_none_str (ZH I q (by simp))
  |_=>exact absurd (show false=true from hs) Qa7
 |bl i=>
  cases D;cases y with
  |non=>cases C;exact PySem.EqNone.ne_bool_none (ZH I q (by simp))
  |bl j=>cases C;exact ne_bool (ZH I q (congrArg not Zgh))
  |str j=>obtain⟨t',rfl⟩:=C;exact PySem.EqMixed.ne_bool_str (ZH I q (by simp))
  |_=>exact absurd (show false=true from hs) Qa7
 |int i=>
  obtain⟨t,rfl⟩:=D;cases y with
  |non=>cases C;exact PySem.EqNone.ne_int_none (ZH I q (by simp))
  |int j=>obtain⟨t',rfl⟩:=C;exact ne_int (ZH I q (congrArg not Zaa))
  |str j=>obtain⟨t',rfl⟩:=C;exact PySem.EqMixed.ne_int_str (ZH I q (by simp))
  |_=>exact absurd (show false=true from hs) Qa7
 |str i=>
  obtain⟨t,rfl⟩:=D;cases y with
  |non=>cases C;exact PySem.EqNone.ne_str_none (ZH I q (by simp))
  |bl j=>cases C;exact PySem.EqMixed.ne_str_bool (ZH I q (by simp))
  |int j=>obtain⟨t',rfl⟩:=C;exact PySem.EqMixed.ne_str_int (ZH I q (by simp))
  |str j=>obtain⟨t',rfl⟩:=C;exact ne_str (ZH I q (congrArg not Zab))
  |_=>exact absurd (show false=true from hs) Qa7
 |byt i=>
  obtain⟨t,rfl⟩:=D;cases y with
  |byt j=>obtain⟨t',rfl⟩:=C;exact PySem.W.ne_bytes (ZH I q (congrArg not Zac))
  |_=>exact absurd (show false=true from hs) Qa7
 |_=>cases y<;>exact absurd (show false=true from hs) Qa7
def Zad:OpR X (compareOp .Lt) (rI0 fun i j=>.bl (decide (i<j))):=Zml fun _ _ _ _ _ _ _ q=>lt_int q
def Zhw:OpR X (compareOp .LtE) (rI0 fun i j=>.bl (decide (i<=j))):=Zml fun _ _ _ _ _ _ _ q=>le_int q
def vA:OpR X (compareOp .Gt) (rI0 fun i j=>.bl (decide (j<i))):=Zml fun _ _ _ _ _ _ _ q=>gt_int q
def Zlg:OpR X (compareOp .GtE) (rI0 fun i j=>.bl (decide (j<=i))):=Zml fun _ _ _ _ _ _ _ q=>ge_int q
def Zae:OpR X (compareOp .In) (fun x y H Q=>∃i j,x=.str i/\y=.str j/\Q (.bl (!(Builtin.Str.occurrences j i 0 j.length 1).isEmpty)) H):=by
 intro pins s σ H x y v u Q I C D h;obtain⟨i,j,rfl,rfl,q⟩:=h;obtain⟨t,rfl⟩:=C;obtain⟨t',rfl⟩:=D;exact in_str (ZH I q rfl)
def OpR.or{f:Av->Value->Sem Av}{r D:R2}(h:OpR X f r)(h':OpR X f D):OpR X f (fun x y H Q=>r x y H Q\/D x y H Q):=by
 intro pins s σ H x y v u Q I C F q;rcases q with q|q
 ·exact h pins s σ H x y v u Q I C F q
 ·exact h' pins s σ H x y v u Q I C F q
def Zx(b:Ax){q:CmpOp}(h:q≠.In:=by decide)(h2:q≠.NotIn:=by decide):behindInMarks q b=false:=by
 have e1:(q == CmpOp.In)=false:=by grind
 have e2:(q == CmpOp.NotIn)=false:=by grind
 cases b<;>simp[behindInMarks,e1,e2]
def Zhx{C:CmpOp}{r:R2}(ho:OpR X (compareOp C) r)(ha:PE X a ta)(J:PE X b tb)(L:behindInMarks C b=false):PE X (.Compare a [C] [b] pos) (tOp r ta tb):=by
 intro pins s σ H Q I h;exact wpAny_Compare1 (binT ha J I h fun v u F x y H2 D M G q=>ho pins F σ H2 x y v u Q D M G q) L
def Zlh(t:TE):TT:=fun σ H Q=>t σ H fun x H'=>∃k,x=.bl k/\Q k H'
def Zhy{q:CmpOp}{r:R2}(ho:OpR X (compareOp q) r)(ha:PE X a ta)(Y:PE X b tb)(hm:behindInMarks q b=false):PT X (.Compare a [q] [b] pos) (Zlh (tOp r ta tb)):=by
 intro pins s σ H Q I h;refine wpAny_isTrue_Compare1 (thn (ha pins s σ H _ I h) fun v G ⟨x,H1,L,Z,O⟩=>thn (Y pins G σ H1 _ L O) fun u J ⟨y,H2,I2,C,D⟩=>
  thn (ho pins J σ H2 x y v u _ I2 Z C D) fun c s3 ⟨z,M,I3,F,k,e,q3⟩=>?_) hm
 subst e;cases F;exact Qdj ⟨M,I3,q3⟩
def Gr:(sizeLine:Nat)<2^63:=by decide
def gG:OpR X (binaryOp .Add) (fun x y H Q=>∃i j,x=.str i/\y=.str j/\i.length+j.length<=sizeLine/\Q (.str (i++j)) H):=by
 intro pins s σ H x y v u Q I C F h;obtain⟨i,j,rfl,rfl,D,q⟩:=h;obtain⟨t,rfl⟩:=C;obtain⟨t',rfl⟩:=F;exact add_str (fun t' tk=>⟨.str (i++j),H,I.tok _,⟨_,rfl⟩,q⟩) D
def vals1{x:V}(r:Vals [x] J):∃u,J=[u]/\RelV x u:=by
 cases r with
 |cons C q=>cases q;exact⟨_,rfl,C⟩
def vals2{x y:V}(r:Vals [x,y] J):∃u q,J=[u,q]/\RelV x u/\RelV y q:=by
 cases r with
 |cons F C=>
  cases C with
  |cons D G=>cases G;exact⟨_,_,rfl,F,D⟩
def Zaf (D:X.calm=true):YA X (.builtin "max") (fun xs H Q=>∃i j,xs=[.int i,.int j]/\Q (.int (if j>i then j else i)) H):=by
 intro pins s σ H xs G Q I r h;obtain⟨i,j,rfl,q⟩:=h;obtain⟨u,F,rfl,⟨t,rfl⟩,⟨t',rfl⟩⟩:=vals2 r;refine max_two_ints (I.ok.hd D) fun h' tk k=>⟨_,H,I.kept k,?_,q⟩
 by_cases C:j>i
 ·rw[Qa3 C,Qa3 C];exact⟨_,rfl⟩
 ·rw[Qax C,Qax C];exact⟨_,rfl⟩
def jZ (D:X.calm=true):YA X (.builtin "min") (fun xs H Q=>∃i j,xs=[.int i,.int j]/\Q (.int (if j<i then j else i)) H):=by
 intro pins s σ H xs G Q I r h;obtain⟨i,j,rfl,q⟩:=h;obtain⟨u,F,rfl,⟨t,rfl⟩,⟨t',rfl⟩⟩:=vals2 r;refine min_two_ints (I.ok.hd D) fun h' tk k=>⟨_,H,I.kept k,?_,q⟩
 by_cases C:j<i
 ·rw[Qa3 C,Qa3 C];exact⟨_,rfl⟩
 ·rw[Qax C,Qax C];exact⟨_,rfl⟩
def qh:YA X (.type "int") (fun xs H Q=>(∃i,xs=[.int i]/\Q (.int i) H)\/∃k,xs=[.bl k]/\Q (.int (if k then 1 else 0)) H):=by
 intro pins s σ H xs D Q I r h;rcases h with⟨i,rfl,q⟩|⟨k,rfl,q⟩
 ·obtain⟨u,rfl,t,rfl⟩:=vals1 r;exact call_int_int ⟨.int i,H,I,⟨_,rfl⟩,q⟩
 ·obtain⟨u,rfl,C⟩:=vals1 r;cases C;exact call_int_bool ⟨.int (if k then 1 else 0),H,I.tok _,⟨_,rfl⟩,q⟩
end
structure ObjM(h:Heap)(x dx C:Aw)(mA:Ae):Prop where
 obj:h.get? x=some (PySem.W.instObj C dx)
 ns:h.Ns1 dx mA
 ne:dx≠x
theorem Zag{mA:Ae}(n:h.Ns1 f mA):∃od,h.get? f=some od/\∀name,PySem.W.lookIn name od=some (mA name):=by
 obtain⟨o,es,ep,ho,G,F,_,J⟩:=n;refine⟨o,ho,fun name=>?_⟩;have e:=J name;unfold nsFind findBy at e;rw[<-Array.find?_toList]at e;unfold PySem.W.lookIn;rw[G];dsimp only;split
 ·grind
 ·rename_i q;rw[q]at e;have a:es.toList.any (·.refKey)=false:=by
   rw[List.any_eq_false];intro y I;obtain⟨z,t,C⟩:=F y (Array.mem_toList_iff.mp I);simp[DictEntry.refKey,C]
  have D:¬es.toList.any (·.refKey)=true:=by rw[a];exact Qa7
  rw[Qax D];exact congrArg some e
theorem ObjM.look{x:Aw}{mA:Ae}(I:ObjM h x a f mA):∃od,PySem.W.InstAt h x (PySem.W.instObj f a) f (some od)/\∀name,PySem.W.lookIn name od=some (mA name):=
 let⟨od,ho,hl⟩:=Zag I.ns
 ⟨od,⟨I.obj,rfl,rfl,ho⟩,hl⟩
section
variable {prog:Aq}{w:Au}{A:Ar}{E:Ab}{s:As}{K:Af}{x dx C f:Aw}{mA:Ae}{name:Str}{v:Av}
end
def gC.some_of{v:V}{o:Option Av}(r:gC (some v) o):∃u,o=some u/\RelV v u:=by
 cases o with
 |none=>exact(show False from r).elim
 |some u=>exact⟨u,rfl,r⟩
section
variable {P:Aq}{w:Au}{H H':Hp}{h h':Heap}{a C dx:Aw}{fs fs':List (Str×V)}
def Zhz(D:HOk P w H h)(e:H a=some (.ins C dx fs)):∃mA,ObjM h a dx C mA/\(∀f,gC (fs.lookup f) (mA f))/\PySem.Within mA (fs.map (·.1))/\fs.length<=1000/\H dx=some (.own a):=by
 obtain⟨d,z,ne,ob,mA,n,r,q⟩:=(show Y2 P w H h a (.ins C dx fs)from D a _ e);exact⟨mA,⟨ob,n,ne⟩,r,q,z,d⟩
end
structure Cls(K:Af)(C:Aw):Prop where
 pg:PySem.W.plainGet K C Str.empty=true
 hd:PySem.W.hasDictIn K C=true
 po:PySem.W.plainOver K C=true
 sa:PySem.W.findIn K (.ref C) "__setattr__" = some (some (.builtin "object.__setattr__"))
def Cls.get(c:Cls K a)(f:Str):PySem.W.plainGet K a f=true:=c.pg
section
variable {X:Cx}{pins:Ac}{σ:St}{H:Hp}{s:As}{a C dx:Aw}{fs:List (Str×V)}{f:Str}{v:V}{A:Ar}{E:Ab}
end
section
variable {X:Cx}{o e value:Ax}{f:Str}{pos pos' tpos:Pos}{ta tv:TE}
end
section
variable {X:Cx}{pins:Ac}{σ:St}{H:Hp}{s:As}{A:Ar}{E:Ab}{Q:Ab}{c:Av}{b:Bool}
inductive gH(K:Af)(H:Hp):V->Value->Prop where
 |non:gH K H .non (.type "NoneType")
 |bl (x:Bool):gH K H (.bl x) (.type "bool")
 |int (i:Int):gH K H (.int i) (.type "int")
 |str (x:Str):gH K H (.str x) (.type "str")
 |flt (x:UInt64):gH K H (.flt x) (.type "float")
 |lst {a:Aw} {xs:A2} (e:H a=some (.lst xs)):gH K H (.ref a) (.type "list")
 |frz {a:Aw} {o:Obj} {xs:A2} (e:H a=some (.frz o (.lst xs))):gH K H (.ref a) (.type "list")
 |tup {a:Aw} {xs:A2} (e:H a=some (.tup xs)):gH K H (.ref a) (.type "tuple")
 |dK {a:Aw} {kvs:A0} (e:H a=some (.dK kvs)):gH K H (.ref a) (.type "dict")
 |dT {a:Aw} {kvs:List (List Key×V)} (e:H a=some (.dT kvs)):gH K H (.ref a) (.type "dict")
 |ins {a C dx:Aw} {fs:List (Str×V)} (e:H a=some (.ins C dx fs)) (cl:Cls K C) (ha:PySem.W.findIn K (.ref C) "__class__" = some (some (.builtin "object.__class__")))
   (hn:PySem.W.specialIn K (.builtin "object.__class__") "__get__" = some (some (.builtin "getset_descriptor.__get__"))) (htk:PySem.W.takesIn K (.builtin "object.__class__")=some true)
   (hm:PySem.W.mroIn K C (.type "object")=some true):gH K H (.ref a) (.ref C)
def Zah{x:V}{u:Av}(I:Inv X pins σ H s)(F:RelV x u)(ty:gH X.K H x v)(e:PySem.W.kitOne X.K v c=some b)(h:∀tk,Q (.bool b) {s with toks:=tk}):
  A3 X.prog X.w A (call (.builtin "isinstance") [u,c]) Q E s:=by
 cases ty with
 |non=>cases(show u=Value.none from F);exact Qc0 PySem.W.kitx_none I.kIn True.intro e (fun z=>nomatch z) h
 |bl y=>cases(show u=Value.bool y from F);exact Qc0 PySem.W.kitx_bool I.kIn True.intro e (fun z=>nomatch z) h
 |int i=>obtain⟨v,q⟩:=(show∃v,u=Value.int i v from F);cases q;exact Qc0 PySem.W.kitx_int I.kIn True.intro e (fun z=>nomatch z) h
 |str y=>obtain⟨v,q⟩:=(show∃v,u=Value.str y v from F);cases q;exact Qc0 PySem.W.kitx_str I.kIn True.intro e (fun z=>nomatch z) h
 |flt y=>obtain⟨v,q⟩:=(show∃v,u=Value.float y v from F);cases q;exact Qc0 PySem.W.kitx_float I.kIn True.intro e (fun z=>nomatch z) h
 | @lst a xs D=>
  cases(show u=Value.ref a from F);obtain⟨_,_,n,_,h1⟩:=(show Y2 X.prog X.w H s.heap a (.lst xs)from I.hok a _ D);exact Qc0 PySem.W.kitx_list I.kIn ⟨_,h1,rfl⟩ e (fun z=>nomatch z) h
 | @frz a ob xs D=>
  cases(show u=Value.ref a from F);obtain⟨_,_,_,n,_,h1⟩:=(show Y2 X.prog X.w H s.heap a (.frz ob (.lst xs))from I.hok a _ D);exact Qc0 PySem.W.kitx_list I.kIn ⟨_,h1,rfl⟩ e (fun z=>nomatch z) h
 | @tup a xs D=>
  cases(show u=Value.ref a from F);obtain⟨_,_,_,p⟩:=(show Y2 X.prog X.w H s.heap a (.tup xs)from I.hok a _ D);obtain⟨o,h1,h2,_⟩:=p;exact Qc0 PySem.W.kitx_tuple I.kIn ⟨o,h1,h2⟩ e (fun z=>nomatch z) h
 | @dK a kvs D=>
  cases(show u=Value.ref a from F);obtain⟨_,_,vs,_,p⟩:=(show Y2 X.prog X.w H s.heap a (.dK kvs)from I.hok a _ D);obtain⟨o,es,ep,h1,h2,_⟩:=p;exact Qc0 PySem.W.kitx_dict I.kIn ⟨o,h1,h2.1⟩ e (fun z=>nomatch z) h
 | @dT a kvs D=>
  cases(show u=Value.ref a from F);obtain⟨_,_,xs,_,o,es,ep,h1,h2,_⟩:=(show Y2 X.prog X.w H s.heap a (.dT kvs)from I.hok a _ D);exact Qc0 PySem.W.kitx_dict I.kIn ⟨o,h1,h2.1⟩ e (fun z=>nomatch z) h
 | @ins a C dx fs D cl ha L G M=>
  cases(show u=Value.ref a from F);obtain⟨mA,O,_⟩:=Zhz I.hok D;obtain⟨od,J,_⟩:=O.look;exact Qc0 (PySem.W.kitx_own (cl.get _) cl.hd ha L G M) I.kIn J e (fun z=>nomatch z) h
end
structure Wu(k:Nat)(A:Ar):Prop where
 hd:A.handled=none
 dp:A.depth+3*k+5<recursionLimit
 un:A.units+16*k+200<cLine
def Wu.mono{j k:Nat}{A:Ar}(r:Wu k A)(h:j<=k):Wu j A:=⟨r.hd,by have:=r.dp;lia,by have:=r.un;lia⟩
theorem Wu.deeper{k:Nat}{A:Ar}(r:Wu (k+1) A)(env:Env):Wu k (A.deeper env):=
 ⟨r.hd,by have:=r.dp;show A.depth+1+3*k+5<_;lia,by have:=r.un;show A.units+3+16*k+200<_;lia⟩
def Wu.depth{k:Nat}{A:Ar}(r:Wu k A):A.depth<recursionLimit:=by have:=r.dp;lia
def Wu.units{k:Nat}{A:Ar}(r:Wu k A):A.units+64<cLine:=by have:=r.un;lia
def Wu.units0{k:Nat}{A:Ar}(r:Wu k A):A.units<cLine:=by have:=r.un;lia
def Zh0:TA:=fun _ H Q=>Q [] H
def JN(ta:TE)(q:TA):TA:=fun σ H Q=>ta σ H fun x H1=>q σ H1 fun xs H2=>Q (x::xs) H2
section
variable {X:Cx}{e:Ax}{es:An}{te:TE}{t:TA}{pos:Pos}
def pa_nil:PA X [] Zh0:=fun _ _ _ _ H Q I h=>Qd8 ⟨[],H,I,.nil,h⟩
def Zh1(ha:PE X e te)(F:PA X es t)(hs:starEach (e::es) X.env=(false,eval e X.env)::starEach es X.env:=by rfl):PA X (e::es) (JN te t):=by
 intro pos pins s σ H Q I h;rw[hs];refine Qcy (thn (ha pins s σ H _ I h) fun u D ⟨x,H1,G,L,J⟩=>?_);exact thn (F pos pins D σ H1 _ G J) fun O Y ⟨xs,H2,M,q,C⟩=>⟨x::xs,H2,M,.cons L q,C⟩
def tTup(t:TA):TE:=fun σ H Q=>t σ H fun xs H1=>xs.length<=sizeLine/\∀p,H1 p=none->Q (.ref p) (upd H1 p (.tup xs))
def tLst(t:TA):TE:=fun σ H Q=>t σ H fun xs H1=>xs.length<=sizeLine/\∀p,H1 p=none->Q (.ref p) (upd H1 p (.lst xs))
def pe_tup{F:_}(h:PA X es t):PE X (.Tuple es F pos) (tTup t):=by
 intro pins s σ H Q I J;refine wpAny_Tuple_spliced (thn (h pos pins s σ H _ I J) fun G C ⟨xs,H1,D,r,z,q⟩=>⟨by rw[<-r.length];exact z,?_⟩);have L:H1 C.heap.objs.size=none:=D.hok.fresh (Qak _);refine⟨.ref C.heap.objs.size,upd H1 C.heap.objs.size (.tup xs),D.laid (t':=C.toks) (fun b u e=>Qad _ e) (Qak _) ?_,rfl,q _ L⟩;exact⟨z,G,r,v8.new _ _⟩
def pe_lst(h:PA X es t):PE X (.List es pos) (tLst t):=by
 intro pins s σ H Q I G;refine wpAny_List_spliced (thn (h pos pins s σ H _ I G) fun F C ⟨xs,H1,D,r,z,q⟩=>⟨by rw[<-r.length];exact z,?_⟩);have J:H1 C.heap.objs.size=none:=D.hok.fresh (Qak _);refine⟨.ref C.heap.objs.size,upd H1 C.heap.objs.size (.lst xs),D.laid (t':=C.toks) (fun b u e=>Qad _ e) (Qak _) ?_,rfl,q _ J⟩;exact⟨z,F,0,r,Qam _ rfl⟩
end
abbrev Sp:=A2->Hp->VK->XK->Prop
abbrev CXT:=List Env->Hp->Shared->XK->Value->Shared->Prop
structure Zkz(P:Aq)(w:Au)(K:Af)(mg:Ae)(base:Heap)(A:Ar)(outer:List Env)(s:As)(H:Hp):Prop where
 frames:A.frames=some outer
 mod:Mod K mg base
 bs:∀b o,base.get? b=some o->s.heap.get? b=some o/\H b=none
 bsz:base.objs.size<=s.heap.objs.size
 funs:s.heap.FunFrames base outer
 frf:∀b∈frs outer,H b=none
 hok:HOk P w H s.heap
 bare:AllBare s.gens
def CE(outer:List Env)(P:Aq)(w:Au)(H:Hp)(s:As)(Q:VK)(u:Av)(s':As):Prop:=
 ∃v H',s'.os=s.os/\AllBare s'.gens/\Un (frs outer) [] H H' s.heap s'.heap/\HOk P w H' s'.heap/\RelV v u/\Q v H'
def CR(CX:CXT)(outer:List Env)(P:Aq)(w:Au)(H:Hp)(s:As)(Q:VK)(E:XK)(r:Result)(s':As):Prop:=
 match r with
 |.ok (.ret u)=>CE outer P w H s Q u s'
 |.ok _=>False
 |.error e=>CX outer H s E e s'
structure Y6(P:Aq)(w:Au)(K:Af)(mg:Ae)(base:Heap)(CX:CXT)(k:Nat)(f:Aw)(fd:Ao)(ps:Ai)(sp:Sp):Prop where
 len:∀vs H Q E,sp vs H Q E->vs.length=ps.length
 run:∀(A:Ar) (outer:List Env) (s:As) (H:Hp) (args:Args) (us:Ag) (vs:A2) (Q:VK) (E:XK),Wu k A->Zkz P w K mg base A outer s H->BindsTo s fd args (ps.zip us)->Vals vs us->sp vs H Q E->
  codeAny (model P w) A (.call (.ref f) args) (CR CX outer P w H s Q E) s
section
variable {X:Cx}{pins:Ac}{σ:St}{H:Hp}{s s':As}
theorem Inv.env0(I:Inv X pins σ H s):Zkz X.prog X.w X.K X.mg X.base X.A X.stack s H:=
 ⟨I.ok.frames,I.ok.mod,I.bs,Qbc I.ok.bsz I.sz,I.stack,I.stkFree,I.hok,I.bare⟩
def Inv.after{Q:VK}{u:Av}(I:Inv X pins σ H s)(h:CE X.stack X.prog X.w H s Q u s'):EP X pins σ Q u s':=by
 obtain⟨v,H',os,C,un,F,r,q⟩:=h;obtain⟨hh,g,d,t,D⟩:=s';obtain rfl:D=s.os:=os;exact⟨v,H',I.call (h':=hh) (g':=g) (d':=d) (t':=t) (ch:=[]) un F C (fun b z=>absurd z (by simp)),r,q⟩
end
def Zd8(sp:Sp)(dvs:A2)(E:XK)(t:TA):TE:=fun σ H Q=>t σ H fun vs H1=>sp (vs++dvs) H1 Q E
def Binds(K:Af)(fd:Ao)(ps:Ai)(ds:Ag):Prop:=
 ∀(s:As) (q:Ag),K.In s.heap->(q++ds).length=ps.length->BindsTo s fd ⟨q,[]⟩ (ps.zip (q++ds))
theorem Binds.all{fd:Ao}{ps:Ai}(h:∀q:Ag,q.length=ps.length->bindArgs fd ⟨q,[]⟩=pure (ps.zip q)):Binds K fd ps []:=fun s q _ C=>by
 rw[Qby]at C ⊢;exact .of_eq (h q C)
def Passes(CX:CXT)(X:Cx)(E:XK):Prop:=∀(pins:Ac) (σ:St) (H:Hp) (s:As) (e:Av) (s':As),Inv X pins σ H s->CX X.stack H s E e s'->X.xe e s'
section
variable {X:Cx}{CX:CXT}{k:Nat}{f C:Aw}{fd:Ao}{ps:Ai}{sp:Sp}{dvs:A2}{ds:Ag}{E:XK}{x m:Str}{p pos apos:Pos}{e o:Ax}{es:An}{ta:TE}{t:TA}
def run_fn{σ:St}{H:Hp}{Q:VK}{vs:A2}(F:Y6 X.prog X.w X.K X.mg X.base CX k f fd ps sp)(G:Wu k X.A)(M:Binds X.K fd ps ds)(L:Vals dvs ds)(O:Passes CX X E)
  (I:Inv X g σ H s) (r:Vals vs J) (h:sp (vs++dvs) H Q E):A4 X (call (.ref f) J) (EP X g σ Q) X.xe s:=by
 have C:Vals (vs++dvs) (J++ds):=r.append L;have Y:(J++ds).length=ps.length:=by rw[<-C.length];exact F.len _ _ _ _ h
 refine wpAny_call (Qfe (F.run X.A X.stack s H ⟨J,[]⟩ (J++ds) (vs++dvs) Q E G I.env0 (M s J I.kIn Y) C h) fun r s' q=>?_);cases r with
 |error e=>exact O g σ H s e s' I q
 |ok D=>
  cases D with
  |ret u=>exact I.after q
  |next=>exact False.elim q
  |brk=>exact False.elim q
  |cont=>exact False.elim q
def Zh2(F:Y6 X.prog X.w X.K X.mg X.base CX k f fd ps sp)(O:Wu k X.A)(J:Gl X x)(hm:X.mg x=some (.ref f))(M:PySem.W.keepIn X.K (.ref f)=true)(Z:Binds X.K fd ps ds)(Y:Vals dvs ds)(hx:Passes CX X E)
  (ha:PA X (e::es) t) (C:(x == ("__debug__" : Str))=false:=by decide) (L:starEach (e::es) X.env=(false,eval e X.env)::starEach es X.env:=by rfl) (D:(backTo pos (starEach es X.env)).any (·.1)=false:=by rfl):
  PE X (.Call (.Name x p) (e::es) [] pos) (Zd8 sp dvs E t):=by
 intro pins s σ H Q I h;refine Qdd (zT I J hm ?_ C);refine Qgl (h₀:=X.base) I.ok.mod.kin M (thn (ha pos pins s σ H _ I h) fun us s1 ⟨vs,H1,G,r,q⟩=>⟨G.kIn,?_⟩) L D;exact run_fn F O Z Y hx G r q
end
section
variable {X:Cx}{CX:CXT}{k:Nat}{f C:Aw}{fd:Ao}{ps ks:Ai}{sp:Sp}{E:XK}{x m:Str}{p pos apos kpos:Pos}{e o:Ax}{es:An}{kws:List Keyword}{te ta:TE}{t tk:TA}{nm:Option Str}
variable {g:Ag->List Av->List Av}{gV:A2->List V->List V}
end
structure Zv(N P:Ai)(sc:Scope):Prop where
 kind:sc.kind=.function:=by rfl
 co:sc.isCoroutine=false:=by rfl
 gen:sc.isGenerator=false:=by rfl
 nd:N.Nodup:=by decide +kernel
 pre:N.take P.length=P:=by rfl
 par:∀x∈P,sc.names.lookup x=some .local\/sc.names.lookup x=some .cell:=by decide +kernel
 nofree:∀y∈sc.names,y.2≠.free:=by decide +kernel
theorem ya{kindOf:Str->Option NameKind}{x:Str}:∀{binds:List (Str×Av)} {m:Ae},(∀v,(x,v)∉binds)->bindL kindOf binds m x=m x
 |[],_,_=>rfl
 |(n,v)::r,m,h=>by
  unfold bindL;rw[ya fun w hw=>h w (Qal _ hw)];split
  ·grind
  ·rfl
theorem yb{kindOf:Str->Option NameKind}{x:Str}:∀{binds:List (Str×Av)} {m:Ae},(∀v,(x,v)∉binds)->bindC kindOf binds m x=m x
 |[],_,_=>rfl
 |(n,v)::r,m,h=>by
  unfold bindC;rw[yb fun w hw=>h w (Qal _ hw)];split
  ·rfl
  ·grind
theorem yc{kindOf:Str->Option NameKind}{x:Str}{v:Av}:∀{P:Ai} {vs:Ag} {i:Nat} {m:Ae},P.Nodup->P[i]?=some x->vs[i]?=some v->kindOf x=some .local->
  bindL kindOf (P.zip vs) m x=some v
 |[],_,_,_,_,h,_,_=>by simp at h
 |_::_,[],_,_,_,_,h,_=>by simp at h
 |p::P,w::vs,0,m,C,h1,h2,q=>by
  simp at h1 h2;subst h1;subst h2;show bindL kindOf ((p,w)::P.zip vs) m p=_;unfold bindL;rw[ya fun v D=>(Qb8.mp C).1 (Qd9 D).1,Qa3 q];simp
 |p::P,w::vs,i+1,m,C,h1,h2,q=>by
  unfold bindL;exact yc (i:=i) (Qb8.mp C).2 (by simpa using h1) (by simpa using h2) q
theorem yd{kindOf:Str->Option NameKind}{x:Str}{v:Av}:∀{P:Ai} {vs:Ag} {i:Nat} {m:Ae},P.Nodup->P[i]?=some x->vs[i]?=some v->kindOf x≠some .local->
  bindC kindOf (P.zip vs) m x=some v
 |[],_,_,_,_,h,_,_=>by simp at h
 |_::_,[],_,_,_,_,h,_=>by simp at h
 |p::P,w::vs,0,m,C,h1,h2,q=>by
  simp at h1 h2;subst h1;subst h2;show bindC kindOf ((p,w)::P.zip vs) m p=_;unfold bindC;rw[yb fun v D=>(Qb8.mp C).1 (Qd9 D).1,Qax q];simp
 |p::P,w::vs,i+1,m,C,h1,h2,q=>by
  unfold bindC;exact yd (i:=i) (Qb8.mp C).2 (by simpa using h1) (by simpa using h2) q
def start(N:Ai)(vs:A2):St:=vs.map some++List.replicate (N.length-vs.length) none
def Zd9(CX:CXT)(P:Aq)(w:Au)(K:Af)(mg:Ae)(base:Heap)(N:Ai)(qual:Str)(scope:Scope)(f:Aw)(C:Av)(A:Ar)(outer:List Env)(s:As)(H:Hp)(E:XK):Cx where
 prog:=P
 w:=w
 K:=K
 mg:=mg
 base:=base
 A:=A.deeper (envOfC qual scope s.heap.objs.size f C)
 N:=N
 s₀:=s
 H₀:=H
 env:=envOfC qual scope s.heap.objs.size f C
 outer:=outer
 stack:=envOfC qual scope s.heap.objs.size f C::outer
 ex:=[]
 calm:=true
 fn:=fun _=>true
 pn:=[]
 xe:=fun e s'=>wpAny (model P w) (A.deeper (envOfC qual scope s.heap.objs.size f C)) (leaving (envOfC qual scope s.heap.objs.size f C) e) (fun _ q=>CX outer H s E e q) (fun D q=>CX outer H s E D q) s'
def GO{C:Scope}(h:C.names.lookup x=some .cell):∃c,(cellsFrom n C.names []).lookup x=some c:=by
 have q:=PySem.W.cellsFrom_some C.names n [] (.inl h);exact Option.isSome_iff_exists.mp q
theorem Zai{CX:CXT}{mg:Ae}{base:Heap}{ps:Ai}{qual:Str}{scope:Scope}{L:Av}{A:Ar}{outer:List Env}{O:As}{H:Hp}{E:XK}{vs:A2}
  (S:Zv N ps scope) (hd:A.handled=none) (C:Zkz P w K mg base A outer s H) (hl:vs.length=ps.length) (r:Vals vs J)
  (x:InCallC s s.heap.objs.size (bindL (envOfC qual scope s.heap.objs.size f L).kindOf (ps.zip J) fun _=>none) (cellsFrom (s.heap.objs.size+1) scope.names []) (bindC (envOfC qual scope s.heap.objs.size f L).kindOf (ps.zip J) fun _=>none) O):
  Inv (Zd9 CX P w K mg base N qual scope f L A outer s H E) [] (start N vs) H O:=by
 have hpl:ps.length<=N.length:=by have:=congrArg List.length S.pre;rw[Qa2]at this;lia
 obtain⟨h1,tk,rfl,M⟩:=x.done;have D:∀b:Aw,b∉(Zd9 CX P w K mg base N qual scope f L A outer s H E).ex:=fun b z=>absurd (show b∈([]:List Aw)from z) (by simp);refine⟨⟨C.mod,S.kind,rfl,rfl,Qak _,fun y z c h1 h2=>?_,fun y I=>?_,fun y c _ h=>?_,fun _=>hd,Qf4 C.frames,.inr ⟨rfl,rfl⟩,fun b z=>absurd z (D b),C.bs,C.bsz,fun b _ _=>D b,fun b z=>absurd z (D b),C.funs,C.frf⟩,
  rfl,C.bare,Un.kept M,⟨_,x.toInCall.ns,fun i y v h1 h2 h3=>?_⟩,fun y c h=>⟨_,x.cell y c h⟩,C.hok.fresh (Qak _),fun y c h=>?_,fun p F=>absurd (show p∈([]:Ac)from F) (by simp),C.hok.kept M,?_⟩
 ·exact name_of_addr x.apart (Qch h1) (Qch h2)
 ·rcases I with I|I
  ·exact GO I
  ·exact absurd rfl (S.nofree _ (Qch I))
 ·exact Qa0 (x.above y c (Qch h))
 ·have hi:i<vs.length:=by
   unfold start at h2
   by_cases hi:i<vs.length
   ·exact hi
   ·grind
  have ha:vs[i]?=some v:=by
   unfold start at h2;rw[Qa9 (by simpa using hi),Qah]at h2;cases e:vs[i]? with
   |none=>rw[e]at h2;cases h2
   |some a=>rw[e]at h2;cases h2;rfl
  obtain⟨u,Y,Z⟩:=r.get ha;have F:ps[i]?=some y:=by
   rw[<-S.pre,List.getElem?_take_of_lt (by lia)];exact h1
  have G:ps.Nodup:=by rw[<-S.pre];exact S.nd.sublist (List.take_sublist _ _)
  refine⟨u,Z,?_⟩;rcases S.par y (Qas F)with k|k
  ·exact .inl ⟨k,yc G F Y k⟩
  ·obtain⟨c,e⟩:=GO (n:=s.heap.objs.size+1) k;refine .inr ⟨.inl k,c,e,?_⟩;have q:=x.cell y c e;rw[yd G F Y (by show scope.names.lookup y≠_;rw[k];decide)]at q;exact q
 ·exact C.hok.fresh (Qa0 (x.above y c (Qch h)))
 ·unfold start;show _=N.length;rw[Qaj,Qab,Qa1];lia
def Zli{CX:CXT}{mg:Ae}{k:Nat}{name qual:Str}{params:Arguments}{body:List Ay}{scope:Scope}{dV kV O pm C ct oc:Av}{an od:Option Aw}
  {osl:Array (Option Av)} {ps:Ai} {sp:Sp} (lk:K.lookup f=some ⟨oc,od,.func (PySem.W.fnOf name qual params body scope dV kV O pm an C ct),osl⟩) (Z:PySem.W.codeIn K C qual=true) (S:Zv N ps scope)
  (len:∀vs H Q E,sp vs H Q E->vs.length=ps.length)
  (G:∀(A:Ar) (outer:List Env) (s:As) (H:Hp) (vs:A2) (Q:VK) (E:XK),Wu k (A.deeper (envOfC qual scope s.heap.objs.size f C))->sp vs H Q E->
   ∃t,PSs (Zd9 CX P w K mg h N qual scope f C A outer s H E) body t/\t {nx:=fun _ H'=>Q .non H',rt:=Q} (start N vs) H):
  Y6 P w K mg h CX (k+1) f (PySem.W.fnOf name qual params body scope dV kV O pm an C ct) ps sp:=by
 refine⟨len,fun A outer s H args us vs Q E hr L hb r M=>?_⟩;have hl:=len _ _ _ _ M;have KX:K.In s.heap:=L.mod.kin.keeps fun b o e=>(L.bs b o e).1;have Y:s.heap.NoLimit:=L.mod.nolimit.keeps fun b o e=>(L.bs b o e).1;have F:∀y∈ps.zip us,scope.names.lookup y.1=some .local\/(scope.names.lookup y.1=some .cell/\((cellsFrom (s.heap.objs.size+1) scope.names []).lookup y.1).isSome=true):=fun⟨n,v⟩ hy=>by
  rcases S.par n (Qd9 hy).1 with q|q
  ·exact .inl q
  ·exact .inr ⟨q,PySem.W.cellsFrom_some _ _ _ (.inl q)⟩
 refine codeAny_call_function hr.depth (KX _ _ lk) rfl S.co S.gen rfl (PySem.W.codeRec_of KX Z) (hb _ _ _ _ ?_);refine wpAny_newFunctionEnv_cells S.kind F fun env he s1 x=>?_;subst he;refine⟨Y.keeps x.toInCall.keep,codeAny_func ?_⟩;obtain⟨t,ht,hq⟩:=G A outer s H vs Q E (hr.deeper _) M;have I:Inv (Zd9 CX P w K mg h N qual scope f C A outer s H E) [] (start N vs) H s1:=Zai S hr.hd L hl r x;refine Qdi (ht [] s1 (start N vs) H _ I hq) (fun fl s' hs=>?_) fun e s' hs=>hs;have fin:∀{D:St} {H':Hp} {v:V} {u:Av},Inv (Zd9 CX P w K mg h N qual scope f C A outer s H E) [] D H' s'->RelV v u->Q v H'->CE outer P w H s Q u s':=
  fun{D H' v u} J rv q=>⟨v,H',J.os,J.bare,J.base,J.hok,rv,q⟩
 cases fl with
 |ret u=>
  obtain⟨v,D,H',J,rv,q⟩:=hs;exact fin J rv q
 |next=>
  obtain⟨D,H',J,q⟩:=hs;exact fin (v:=V.non) (u:=Value.none) J rfl q
 |brk=>
  obtain⟨_,_,_,q⟩:=hs;exact False.elim q
 |cont=>
  obtain⟨_,_,_,q⟩:=hs;exact False.elim q
section
variable {X:Cx}{x:Str}{p pos:Pos}{e:Ax}{es:An}{t:TA}{id T:String}{r:A2->Hp->VK->Prop}
def tCB(r:A2->Hp->VK->Prop)(t:TA):TE:=fun σ H Q=>t σ H fun vs H1=>r vs H1 Q
def Zea (F:YA X (.builtin id) r) (D:Gl X x) (hm:X.mg x=none) (G:bootBuiltins x=some (.builtin id)) (ha:PA X (e::es) t) (Y:x ≠ "__name__" :=by decide) (q:(x == ("__debug__" : Str))=false:=by decide)
  (J:starEach (e::es) X.env=(false,eval e X.env)::starEach es X.env:=by rfl) (C:(backTo pos (starEach es X.env)).any (·.1)=false:=by rfl):PE X (.Call (.Name x p) (e::es) [] pos) (tCB r t):=by
 intro pins s σ H Q I h;refine Qdd (Jo I D hm G ?_ Y q);exact PyProof.Rows.callWith_builtin1 (thn (ha pos pins s σ H _ I h) fun M L ⟨vs,H1,O,r1,Z⟩=>F pins L σ H1 vs M Q O r1 Z) J C
def Zaj (F:YA X (.type T) r) (D:Gl X x) (hm:X.mg x=none) (G:bootBuiltins x=some (.type T)) (ha:PA X (e::es) t) (Y:x ≠ "__name__" :=by decide) (q:(x == ("__debug__" : Str))=false:=by decide)
  (J:starEach (e::es) X.env=(false,eval e X.env)::starEach es X.env:=by rfl) (C:(backTo pos (starEach es X.env)).any (·.1)=false:=by rfl):PE X (.Call (.Name x p) (e::es) [] pos) (tCB r t):=by
 intro pins s σ H Q I h;refine Qdd (Jo I D hm G ?_ Y q);exact Qcs (thn (ha pos pins s σ H _ I h) fun M L ⟨vs,H1,O,r1,Z⟩=>F pins L σ H1 vs M Q O r1 Z) J C
end
end L2
variable {X:L2.Cx}
variable {H E:L2.Hp}
variable {b:L2.Cx}
variable {r:List L2.V}
variable {u I:L2.TE}
variable {c:L2.St}
variable {y:L2.V}
variable {q:L2.TS}
variable {G:L2.TT}
variable {O:List (List L2.V)}
variable {Y:L2.Ends}
namespace HT
open PySem PyProof.Rows
section
open PySem.SeqAt
open PySem.AutoSeq1 (wpAny_loadPart')
open PySem.MeetsSeq PySem.MeetsSeq2 PySem.MeetsSeq3
end
section
variable {prog:Aq}{w:Au}{A:Ar}{E:Ab}{s:As}
def cat_tup{b:Aw}{vs:Ag}(Z:IsTup s.heap a vs.toArray)(hb:IsTup s.heap b J.toArray)(I:vs≠[])
  (h1:J=[]->Q (.ref a) s) (h2:J≠[]->Q (.ref s.heap.objs.size) {s with heap:=s.heap.push {cls:=.type "tuple",data:=.seq (vs++J).toArray}})
  (hsz:vs.length+J.length<=sizeLine):A3 prog w A (binaryOp .Add (.ref a) (.ref b)) Q E s:=by
 obtain⟨⟨cls,dd,data,O⟩,ho,Y,n,hd⟩:=id Z;obtain⟨⟨L,C,data2,D⟩,q,F,M,G⟩:=id hb;subst Y hd F G;have e:vs.toArray++J.toArray=(vs++J).toArray:=by simp
 by_cases hw:J=[]
 ·exact concat_meets ⟨_,ho,rfl⟩ ⟨_,q,rfl⟩ Qhg seq_tuple_add Qft Qfl (Qff _ _)
   (tuple_addW1 a b vs.toArray J.toArray n M dd C O D (by simpa using I) (by simp[hw])) ⟨ho,q,h1 hw⟩
 ·refine concat_meets ⟨_,ho,rfl⟩ ⟨_,q,rfl⟩ Qhg seq_tuple_add Qft Qfl (Qff _ _)
   (tuple_addW2 a b vs.toArray J.toArray n M dd C O D (by simpa using I) (by simpa using hw) (by grind)) ⟨ho,q,?_⟩
  rw[e];exact h2 hw
def sIx(n d:Nat):Option Int->Nat
 |none=>d
 |some v=>if v<0 then(v+(n:Int)).toNat else min v.toNat n
def sIx_none(n d:Nat):sIx n d none=d:=rfl
def sIx_nat(n d k:Nat):sIx n d (some (k:Int))=min k n:=by
 show(if(k:Int)<0 then((k:Int)+(n:Int)).toNat else min (k:Int).toNat n)=min k n;rw[Qax (by lia),Qbp]
def sIx_le(n d:Nat)(q:d<=n)(o:Option Int):sIx n d o<=n:=by
 cases o with
 |none=>exact q
 |some v=>
  show(if v<0 then(v+(n:Int)).toNat else min v.toNat n)<=n
  by_cases C:v<0
  ·lia
  ·grind
def Zak(v:Int)(n d:Nat):(if v<0 then max (v+(n:Int)) 0 else min v (n:Int))=((sIx n d (some v):Nat):Int):=by
 show(if v<0 then max (v+(n:Int)) 0 else min v (n:Int))=(((if v<0 then(v+(n:Int)).toNat else min v.toNat n):Nat):Int)
 by_cases q:v<0
 ·lia
 ·lia
def gI(lo hi:Option Int)(n:Nat):Builtin.Slice.sliceAdjust lo hi 1 (n:Int)=(((sIx n 0 lo:Nat):Int),((sIx n n hi:Nat):Int)):=by
 have h1:¬((1:Int)<0):=by lia
 unfold Builtin.Slice.sliceAdjust;refine Qhv ?_ ?_
 ·cases lo with
  |none=>rfl
  |some v=>exact Zak v n 0
 ·cases hi with
  |none=>rfl
  |some v=>exact Zak v n n
def gJ(i j:Nat):Builtin.Slice.slicePlaces (i:Int) (j:Int) 1=j-i:=by
 unfold Builtin.Slice.slicePlaces;split<;>lia
def zg{o:Option Int}{Q:Option Int->Shared->Prop}(p:IsPart v o)(h:Q o s):A3 prog w A (Builtin.Slice.slicePartIndex v) Q E s:=by
 cases p with
 |none=>exact Qgy h
 |int i t=>exact slicePart_int h
def Wk{vu:Av}{lo hi:Option Int}{Q:Int×Int×Nat->Shared->Prop}(hs:s.heap.IsSliceOf a v vu .none)(pl:IsPart v lo)(D:IsPart vu hi)
  (h:Q (((sIx n 0 lo:Nat):Int),1,sIx n n hi-sIx n 0 lo) s):A3 prog w A (Builtin.Slice.sliceApplied (.ref a) (pure (n:Int))) Q E s:=by
 obtain⟨os,q,F,C⟩:=id hs;refine Qaa (Qaa (Qbw q C (x:=v) rfl (Qaa (Qbw q C (x:=vu) rfl (Qaa (Qbw q C (x:=.none) rfl (Qae ?_)))))));refine Qaa (Qgy ?_);refine Qaa (zg pl (Qaa (zg D (Qaa (Qae ?_)))));show wpAny _ _ (match Builtin.Slice.sliceAdjust lo hi 1 (n:Int)with|(lo,hi)=>pure (lo,(1:Int),Builtin.Slice.slicePlaces lo hi 1)) _ _ s;rw[gI lo hi n];show wpAny _ _ (pure (((sIx n 0 lo:Nat):Int),(1:Int),Builtin.Slice.slicePlaces ((sIx n 0 lo:Nat):Int) ((sIx n n hi:Nat):Int) 1)) _ _ s;rw[gJ];exact Qae h
def Zeb(xs:Ah)(i k:Nat):((List.range k).filterMap fun(m:Nat)=>xs[((i:Int)+(m:Int)*1).toNat]?).toArray=((xs.toList.drop i).take k).toArray:=by
 have e:(fun(m:Nat)=>xs[((i:Int)+(m:Int)*1).toNat]?)=fun m=>xs[i+m]?:=by
  grind
 rw[e];have:=pick_run xs i k;rw[List.filterMap_map]at this;have e2:((fun x=>xs[x]?)∘fun x=>i+x)=fun m=>xs[i+m]?:=rfl;rw[e2]at this;rw[this]
def getItem_tuple_cut{items:Ah}{vu:Av}{lo hi:Option Int}(C:IsTup s.heap a items)(hs:s.heap.IsSliceOf f v vu .none)(pl:IsPart v lo)(J:IsPart vu hi)
  (hw:¬(sIx items.size 0 lo=0/\sIx items.size items.size hi=items.size))
  (h:Q (.ref s.heap.objs.size) {s with heap:=s.heap.push {cls:=.type "tuple",data:=.seq ((items.toList.drop (sIx items.size 0 lo)).take (sIx items.size items.size hi-sIx items.size 0 lo)).toArray}})
  (hsz:items.size<=sizeLine):A3 prog w A (getItem (.ref a) (.ref f)) Q E s:=by
 have q:sizeOk (.seq ((items.toList.drop (sIx items.size 0 lo)).take (sIx items.size items.size hi-sIx items.size 0 lo)).toArray):=by
  show((items.toList.drop (sIx items.size 0 lo)).take (sIx items.size items.size hi-sIx items.size 0 lo)).toArray.size<=sizeLine;rw[Qat,Qa2,Qbr,Qbk];lia
 obtain⟨os,F,I,L⟩:=id hs;have G:s.TypeIs (.ref f) "slice" :=⟨os,F,I⟩;unfold getItem;try with_reducible refine Qb9 ?_
 first|refine Qaa (Qae ?_)|skip
 refine Qaa (Qg2 C.typeIs (by decide) ?_);refine Qaa (wpAny_callSpecial?_slot (name:=Str.ofString "__getitem__") C.typeIs Qbj
  (Qbf Qbj C.typeIs Qge ?_ (Qgm _ _)))
 show wpAny _ _ (Builtin.Tuple.tupleItemsOf (.ref a) >>= _) _ _ s;refine Qaa (tupleItemsOf_ C ?_);refine Qaa (Qf0 G ?_);refine Qaa (Wk hs pl J ?_);have D:¬((((sIx items.size 0 lo:Nat):Int) == 0&&(1:Int) == 1&&(sIx items.size items.size hi-sIx items.size 0 lo) == items.size)=true):=by
  grind
 show wpAny _ _ (if(((sIx items.size 0 lo:Nat):Int) == 0&&(1:Int) == 1&&(sIx items.size items.size hi-sIx items.size 0 lo) == items.size)=true then _ else _) _ _ s;rw[Qax D,Zeb]
 first
  |exact Qaa (m:=Builtin.Tuple.tupleExact _) (Qbe (Qae ⟨_,rfl,Qae h⟩) q)
  |exact Qaa (m:=Builtin.Tuple.tupleExact _) (Qbe (Qaa (Qae (Qae ⟨_,rfl,Qae h⟩))) q)
  |exact Qaa (Qaa (m:=Builtin.Tuple.tupleExact _) (Qbe (Qae (Qae ⟨_,rfl,Qae h⟩)) q))
  |exact Qaa (Qaa (m:=Builtin.Tuple.tupleExact _) (Qbe (Qae ⟨_,rfl,Qae h⟩) q))
end
end HT
namespace L2
abbrev TO:=St->Hp->(Option Int->Hp->Prop)->Prop
def PO(X:Cx)(e:Option Ax)(t:TO):Prop:=
 ∀(pins:Ac) (s:As) (σ:St) (H:Hp) (Q:Option Int->Hp->Prop),Inv X pins σ H s->t σ H Q->
  A4 X (evalPart e X.env) (fun u s'=>∃o H',Inv X pins σ H' s'/\IsPart u o/\Q o H') X.xe s
def Zal:TO:=fun _ H Q=>Q none H
def Zlj(t:TE):TO:=fun σ H Q=>t σ H fun x H1=>∃i,x=.int i/\Q (some i) H1
theorem intsAre_of{ns:Ak}:∀{q:Ag},Vals (ns.map V.int) q->IntsAre q ns:=by
 induction ns with
 |nil=>intro q r;cases r;exact .nil
 |cons n ns D=>
  intro q r;cases r with
  |cons F C=>
   obtain⟨t,e⟩:=F;subst e;exact .cons n t (D C)
section
variable {X:Cx}{e:Ax}{te:TE}{lo hi:Option Ax}{tl th:TO}{pos p2:Pos}
def Zh3:PO X none Zal:=by
 intro pins s σ H Q I h;exact Qae ⟨none,H,I,.none,h⟩
def Zh4(h:PE X e te):PO X (some e) (Zlj te):=by
 intro pins s σ H Q I hw;refine thn (h pins s σ H _ I hw) fun u G ⟨x,H1,C,F,D⟩=>?_;obtain⟨i,rfl,q⟩:=D;obtain⟨t,rfl⟩:=F;exact⟨some i,H1,C,.int i t,q⟩
def SlR(X:Cx)(r:V->Option Int->Option Int->Hp->VK->Prop):Prop:=
 ∀(pins:Ac) (s:As) (σ:St) (H:Hp) (x:V) (v C vu:Av) (lo hi:Option Int) (q:Aw) (Q:VK),Inv X pins σ H s->RelV x v->s.heap.IsSliceOf q C vu .none->IsPart C lo->IsPart vu hi->r x lo hi H Q->
  ∃T id,typeLookup (.type T) "__getitem__" = pure (some (.builtin id))/\s.TypeIs v T/\A4 X (getItem v (.ref q)) (EP X pins σ Q) X.xe s
def SlR.or{r D:V->Option Int->Option Int->Hp->VK->Prop}(h:SlR X r)(h':SlR X D):SlR X (fun x lo hi H Q=>r x lo hi H Q\/D x lo hi H Q):=by
 intro pins s σ H x v J vu lo hi G Q I C hs pl F q;rcases q with q|q
 ·exact h pins s σ H x v J vu lo hi G Q I C hs pl F q
 ·exact h' pins s σ H x v J vu lo hi G Q I C hs pl F q
def tSl(r:V->Option Int->Option Int->Hp->VK->Prop)(te:TE)(tl th:TO):TE:=fun σ H Q=>te σ H fun x H1=>tl σ H1 fun l H2=>th σ H2 fun u q=>r x l u q Q
def Zec{r:V->Option Int->Option Int->Hp->VK->Prop}(M:SlR X r)(he:PE X e te)(hl:PO X lo tl)(hu:PO X hi th):PE X (.Subscript e (.Slice lo hi none p2) pos) (tSl r te tl th):=by
 intro pins s σ H Q I h;refine Subscript_ (thn (he pins s σ H _ I h) fun v s1 ⟨x,H1,I1,r1,q1⟩=>?_);refine wpAny_Slice (thn (hl pins s1 σ H1 _ I1 q1) fun D O ⟨l,H2,L,pl,q2⟩=>thn (hu pins O σ H2 _ L q2) fun vu C ⟨u,F,I3,pu,Z⟩=>?_);refine Qae ?_;have I4:Inv X pins σ F {C with heap:=C.heap.push {cls:=.type "slice",data:=.fields #[D,vu,.none]}}:=I3.kept (t':=C.toks) fun b ob q=>Qad _ q;obtain⟨T,id,Y,J,G⟩:=M pins {C with heap:=C.heap.push {cls:=.type "slice",data:=.fields #[D,vu,.none]}} σ F x v D vu l u C.heap.objs.size Q I4 r1 (Heap.IsSliceOf.new ..) pl pu Z;exact tail_any (ops:=[.ref C.heap.objs.size,v]) J Y G (by with_unfolding_all rfl)
def uL(xs:A2)(lo hi:Option Int):A2:=(xs.drop (HT.sIx xs.length 0 lo)).take (HT.sIx xs.length xs.length hi-HT.sIx xs.length 0 lo)
def qi(xs:A2)(lo hi:Option Int):(uL xs lo hi).length<=xs.length:=by
 unfold uL;rw[Qa2,Qbr];lia
def rSlT(K:Af):V->Option Int->Option Int->Hp->VK->Prop:=fun x lo hi H Q=>∃a xs,x=.ref a/\SqT K H a xs /\
 ¬(HT.sIx xs.length 0 lo=0/\HT.sIx xs.length xs.length hi=xs.length)/\∀p,H p=none->Q (.ref p) (upd H p (.tup (uL xs lo hi)))
def sl_tup:SlR X (rSlT X.K):=by
 intro pins s σ H x v Y vu lo hi O Q I M hs pl L h;obtain⟨a,xs,rfl,J,hw,q⟩:=h;cases M;obtain⟨D,r,F,G⟩:=I.tuple J;have C:D.toArray.size=xs.length:=by exact r.length.symm
 refine⟨"tuple",_,Qbj.lookup,F.typeIs,?_⟩;refine HT.getItem_tuple_cut F hs pl L (by rw[C];exact hw) ?_ (by rw[C];exact G);rw[C];refine⟨.ref s.heap.objs.size,_,I.laid (t':=s.toks) (o:=.tup (uL xs lo hi)) (fun b ob q=>Qad _ q) (Qak _) ?_,rfl,q _ (I.hok.fresh (Qak _))⟩;exact⟨Qbc (qi xs lo hi) G,_,(r.drop (HT.sIx xs.length 0 lo)).take (HT.sIx xs.length xs.length hi-HT.sIx xs.length 0 lo),v8.new _ _⟩
def Vals.nil_iff{xs:A2}(r:Vals xs J):J=[]↔xs=[]:=by
 cases r with
 |nil=>simp
 |cons _ _=>simp
end
end L2
namespace L2
def ixN(n:Nat)(i:Int):Option Nat:=if 0<=i then(if i<n then some i.toNat else none)else if -(n:Int)<=i then some (i+n).toNat else none
def atI(xs:List d)(i:Int):Option d:=(ixN xs.length i).bind fun j=>xs[j]?
def Zam{i:Int}{j:Nat}(h:ixN n i=some j):seqIndex? i n=some j/\j<n/\-(n:Int)<=i/\i<n:=by
 unfold ixN at h
 by_cases q:0<=i
 ·rw[Qa3 q]at h
  by_cases h1:i<n
  ·rw[Qa3 h1]at h;have e:i.toNat=j:=Option.some.inj h;exact⟨by rw[Qhw q h1,e],by lia,by lia,h1⟩
  ·rw[Qax h1]at h;cases h
 ·rw[Qax q]at h
  by_cases h1:-(n:Int)<=i
  ·rw[Qa3 h1]at h;have e:(i+n).toNat=j:=Option.some.inj h;exact⟨by rw[seqIndex_neg (by lia) h1,e],by lia,h1,by lia⟩
  ·rw[Qax h1]at h;cases h
def vC{xs:List d}{i:Int}{v:d}(h:atI xs i=some v):∃j,seqIndex? i xs.length=some j/\xs[j]?=some v/\j<xs.length/\-(xs.length:Int)<=i/\i<xs.length:=by
 unfold atI at h;cases e:ixN xs.length i with
 |none=>rw[e]at h;cases h
 |some j=>
  rw[e]at h;obtain⟨h1,h2,q,C⟩:=Zam e;exact⟨j,h1,h,h2,q,C⟩
def YC{xs:List d}{j:Nat}{v:d}(h:xs[j]?=some v):atI xs (j:Int)=some v:=by
 have q:j<xs.length:=(Qag.mp h).1;have e:ixN xs.length (j:Int)=some j:=by
  unfold ixN;rw[Qa3 (by lia),Qa3 (by lia)];simp
 unfold atI;rw[e];exact h
def Zed(xs:List d)(v:d):atI (xs++[v]) (-1)=some v:=by
 have q:(xs++[v]).length=xs.length+1:=by simp
 have e:ixN (xs++[v]).length (-1)=some xs.length:=by
  unfold ixN;rw[q,Qax (by decide),Qa3 (by lia)];congr 1;lia
 unfold atI;rw[e];simp
def Zan(b:Ax):Prop:=∀o i,subscripted b false o i=operate [o,i] (getItem o i)
def IxR(X:Cx)(r:R2):Prop:=
 ∀(value q:Ax) (pins:Ac) (s:As) (σ:St) (H:Hp) (x y:V) (v u:Av) (Q:VK),Inv X pins σ H s->RelV x v->RelV y u->r x y H Q->
  subscripted q false v u=operate [v,u] (getItem v u)->A4 X (subscriptTail value q v u) (EP X pins σ Q) X.xe s
def MtR(X:Cx)(id:String)(r:V->List V->Hp->VK->Prop):Prop:=
 ∀(pins:Ac) (s:As) (σ:St) (H:Hp) (x:V) (xs:A2) (v:Av) (q:Ag) (Q:VK),Inv X pins σ H s->RelV x v->Vals xs q->r x xs H Q->
  A4 X (call (.builtin id) (v::q)) (EP X pins σ Q) X.xe s
section
variable {X:Cx}{a b:Ax}{ta tb:TE}{pos:Pos}
def pe_ix{r:R2}(D:IxR X r)(ha:PE X a ta)(J:PE X b tb)(hs:Zan b):PE X (.Subscript a b pos) (tOp r ta tb):=by
 intro pins s σ H Q I h;exact Subscript_ (binT ha J I h fun v u F x y H2 C L G q=>D a b pins F σ H2 x y v u Q C L G q (hs _ _))
def Zmm(K:Af):R2:=fun x y H Q=>∃p xs i v,x=.ref p/\y=.int i/\SqL K H p xs/\atI xs i=some v/\Q v H
def gK(K:Af):R2:=fun x y H Q=>∃p xs i v,x=.ref p/\y=.int i/\SqT K H p xs/\atI xs i=some v/\Q v H
def rIxS:R2:=fun x y H Q=>∃z i c,x=.str z/\y=.int i/\z.length<=sizeLine/\atI z.cps.toList i=some c/\Q (.str ⟨#[c]⟩) H
def Zy:IxR X (Zmm X.K):=by
 intro value C pins s σ H x y v u Q I Y ry h hs;obtain⟨p,xs,i,z,rfl,rfl,hq,Z,q⟩:=h;cases Y;obtain⟨t,rfl⟩:=ry;obtain⟨D,r,pl,hz⟩:=I.list hq;obtain⟨j,h1,h2,h3,h4,M⟩:=vC Z;obtain⟨w,J,G⟩:=r.get h2;have O:=r.length;have hn:=Gr;have fin:EP X pins σ Q w s:=⟨z,H,I,G,q⟩
 by_cases L:0<=i
 ·have F:i.toNat=j:=by
   rw[Qhw L M]at h1;exact Option.some.inj h1
  exact item_listR pl.isList L (by lia) (by rw[F];simpa using J) fin hs
 ·have F:(i+(D.toArray.size:Int)).toNat=j:=by
   rw[seqIndex_neg (by lia) h4]at h1;rw[Qat,<-O];exact Option.some.inj h1
  exact subscriptTail_builtinR (x:=w) pl.isList.typeIs slot_list_getitem.lookup
   (wpAny_getItem_list_neg (Q:=fun r s'=>r=w/\EP X pins σ Q r s') pl.isList (by lia) (by rw[Qat]<;>lia) (by lia) (by rw[F];simpa using J) ⟨rfl,fin⟩) hs
def ZP:IxR X (gK X.K):=by
 intro value C pins s σ H x y v u Q I L Y h hs;obtain⟨p,xs,i,z,rfl,rfl,O,M,q⟩:=h;cases L;obtain⟨t,rfl⟩:=Y;obtain⟨G,r,pl,hz⟩:=I.tuple O;obtain⟨j,h1,h2,h3,h4,Z⟩:=vC M;obtain⟨w,J,D⟩:=r.get h2;have F:=r.length;have hn:=Gr;have fin:EP X pins σ Q w s:=⟨z,H,I,D,q⟩;exact subscriptTail_builtinR (x:=w) pl.typeIs slot_tuple_getitem.lookup
  (getItem_tuple (j:=j) (Q:=fun r s'=>r=w/\EP X pins σ Q r s') pl (by lia) (by lia) (by rw[Qat,<-F];exact h1) (by simpa using J) ⟨rfl,fin⟩) hs
def ix_str:IxR X rIxS:=by
 intro value C pins s σ H x y v u Q I M J h hs;obtain⟨z,i,c,rfl,rfl,Y,F,q⟩:=h;obtain⟨t,rfl⟩:=M;obtain⟨t',rfl⟩:=J;obtain⟨j,h1,h2,O,L,D⟩:=vC F;have G:z.cps.toList.length=z.length:=by simp[Str.length]
 rw[G]at h1 L D;have Z:=Gr;exact tail_any (typeIs_str s z t) slot_str_getitem.lookup (getItem_str (c:=c) (by
  grind) (by rw[h1];simpa using h2) ⟨.str ⟨#[c]⟩,H,I.tok _,⟨_,rfl⟩,q⟩) hs
def gL (q:Ag) (n j:Nat) (u:Av):Obj.mapSeq (·.setIfInBounds j u) {cls:=.type "list",data:=.seq q.toArray n}={cls:=.type "list",data:=.seq (q.set j u).toArray n}:=by
 simp[Obj.mapSeq]
def Inv.lst{pins:Ac}{σ:St}{H:Hp}{s:As}{p:Aw}{xs:A2}(I:Inv X pins σ H s)(h:H p=some (.lst xs)):
  ∃(q:Ag) (n:Nat),Vals xs q/\s.heap.get? p=some {cls:=.type "list",data:=.seq q.toArray n}/\xs.length<=sizeLine:=by
 obtain⟨z,q,n,r,e⟩:=I.hok p _ h;exact⟨q,n,r,e,z⟩
def Inv.lstUpd{p:Aw}{xs ys:A2}{its':Ag}{f:Obj->Obj}(I:Inv X g c H s)(h:H p=some (.lst xs))
  (ho:s.heap.get? p=some {cls:=.type "list",data:=.seq J.toArray n}) (C:f {cls:=.type "list",data:=.seq J.toArray n}={cls:=.type "list",data:=.seq its'.toArray i}) (r:Vals ys its') (F:ys.length<=sizeLine) (t:Nat):
  Inv X g c (upd H p (.lst ys)) {s with heap:=s.heap.update p f,toks:=t}:=by
 have e:(s.heap.update p f).get? p=some {cls:=.type "list",data:=.seq its'.toArray i}:=by
  rw[Qbs f ho (by rw[C]<;>rfl),C]
 refine I.write (x:=p) (e:=p) (by rw[h];trivial) (.inl rfl) (fun b u D q=>(Qb1 _ _ (Qd5 D)).trans q) ⟨_,e⟩ ?_;exact⟨F,its',i,r,e⟩
def rSetL:V->V->V->Hp->(Hp->Prop)->Prop:=fun o i v H Q=>∃p xs k j,o=.ref p/\i=.int k/\H p=some (.lst xs)/\ixN xs.length k=some j/\Q (upd H p (.lst (xs.set j v)))
def set_list:PSet X rSetL:=by
 intro pins s σ H o i v ov iv u Q I Z ri rv h;obtain⟨p,xs,k,j,rfl,rfl,J,hj,q⟩:=h;cases Z;obtain⟨t,rfl⟩:=ri;obtain⟨C,n,r,ho,Y⟩:=I.lst J;obtain⟨h1,h2,L,O⟩:=Zam hj;have D:=r.length;have hn:=Gr;have G:Inv X pins σ (upd H p (.lst (xs.set j v))) {s with heap:=s.heap.update p (Obj.mapSeq (·.setIfInBounds j u))}:=
  I.lstUpd J ho (gL C n j u) (r.set rv j) (by rw[List.length_set];exact Y) s.toks
 by_cases M:0<=k
 ·have F:k.toNat=j:=by
   rw[Qhw M O]at h1;exact Option.some.inj h1
  exact PySem.W.ki_setAt ho M (by lia) (by rw[Qat,<-D];exact O) (by rw[F];exact⟨_,G,q⟩)
 ·have F:(k+(C.toArray.size:Int)).toNat=j:=by
   rw[seqIndex_neg (by lia) L]at h1;rw[Qat,<-D];exact Option.some.inj h1
  exact PySem.W.ki_setBack ho (by lia) (by rw[Qat,<-D];exact L) (by lia) (by rw[F];exact⟨_,G,q⟩)
def ye(lo hi:Option Int)(n:Nat):(sliceBounds lo hi none n).1=((HT.sIx n 0 lo:Nat):Int)/\(sliceBounds lo hi none n).2.1=((HT.sIx n n hi:Nat):Int)/\(sliceBounds lo hi none n).2.2=1:=by
 refine⟨?_,?_,rfl⟩
 ·cases lo with
  |none=>simp[sliceBounds,HT.sIx]
  |some i=>
   simp only[sliceBounds,HT.sIx,Option.getD_none,show(1:Int)>0 by decide,if_true]
   by_cases h:i<0
   ·skip<;>lia
   ·skip<;>lia
 ·cases hi with
  |none=>simp[sliceBounds,HT.sIx]
  |some i=>
   simp only[sliceBounds,HT.sIx,Option.getD_none,show(1:Int)>0 by decide,if_true]
   by_cases h:i<0
   ·skip<;>lia
   ·skip<;>lia
def zX(q:Ag)(lo hi:Option Int):slicePick q.toArray lo hi none=((q.drop (HT.sIx q.length 0 lo)).take (HT.sIx q.length q.length hi-HT.sIx q.length 0 lo)).toArray:=by
 obtain⟨h1,h2,C⟩:=ye lo hi q.toArray.size;unfold slicePick;rw[h1,h2,C];simp only[sliceRange_one,pick_run,Qat]<;>rfl
def rSlL(K:Af):V->Option Int->Option Int->Hp->VK->Prop:=fun x lo hi H Q=>∃a xs,x=.ref a/\SqL K H a xs/\∀p,H p=none->Q (.ref p) (upd H p (.lst (uL xs lo hi)))
def Jg:SlR X (rSlL X.K):=by
 intro pins s σ H x v Y vu lo hi O Q I M hs pl L h;obtain⟨a,xs,rfl,J,q⟩:=h;cases M;obtain⟨G,r,D,F⟩:=I.list J;have C:=r.length;refine⟨"list",_,slot_list_getitem.lookup,D.isList.typeIs,?_⟩;refine wpAny_getItem_list_slice D.isList hs pl L .none (by simp) ?_ (by rw[Qat]<;>lia);rw[zX,<-C];refine⟨.ref s.heap.objs.size,_,I.laid (t':=s.toks) (o:=.lst (uL xs lo hi)) (fun b ob q=>Qad _ q) (Qak _) ?_,rfl,q _ (I.hok.fresh (Qak _))⟩;exact⟨Qbc (qi xs lo hi) F,_,0,(r.drop (HT.sIx xs.length 0 lo)).take (HT.sIx xs.length xs.length hi-HT.sIx xs.length 0 lo),Qam _ rfl⟩
def YM:V->Bool
 |.non=>true
 |.bl _=>true
 |.int _=>true
 |.str _=>true
 |_=>false
def eqV:V->V->Bool
 |.non,.non=>true
 |.bl a,.bl b=>a == b
 |.bl a,.int b=>(if a then 1 else 0) == b
 |.int a,.bl b=>a == (if b then 1 else 0)
 |.int a,.int b=>a == b
 |.str a,.str b=>a == b
 |_,_=>false
def kW{A:Ar}{x:V}{u:Av}(C:RelV y u)(q:RelV x v)(D:YM y=true)(fx:YM x=true):SeqAt.EqAt A s u v (eqV y x):=by
 cases y with
 |non=>
  cases C;cases x with
  |non=>cases q;exact Qhk _
  |bl b=>cases q;exact SeqAt.EqAt.none_bool b
  |int b=>obtain⟨t,rfl⟩:=q;exact SeqAt.EqAt.none_int b t
  |str b=>obtain⟨t,rfl⟩:=q;exact SeqAt.EqAt.none_str b t
  |_=>exact absurd (show false=true from fx) Qa7
 |bl a=>
  cases C;cases x with
  |non=>cases q;exact SeqAt.EqAt.bool_none a
  |bl b=>cases q;exact SeqAt.EqAt.bool_bool a b
  |int b=>obtain⟨t,rfl⟩:=q;exact SeqAt.EqAt.bool_int a b t
  |str b=>obtain⟨t,rfl⟩:=q;exact SeqAt.EqAt.bool_str a b t
  |_=>exact absurd (show false=true from fx) Qa7
 |int a=>
  obtain⟨t',rfl⟩:=C;cases x with
  |non=>cases q;exact SeqAt.EqAt.int_none a t'
  |bl b=>cases q;exact SeqAt.EqAt.int_bool a t' b
  |int b=>obtain⟨t,rfl⟩:=q;exact SeqAt.EqAt.int_int a t' b t
  |str b=>obtain⟨t,rfl⟩:=q;exact SeqAt.EqAt.int_str a t' b t
  |_=>exact absurd (show false=true from fx) Qa7
 |str a=>
  obtain⟨t',rfl⟩:=C;cases x with
  |non=>cases q;exact SeqAt.EqAt.str_none a t'
  |bl b=>cases q;exact SeqAt.EqAt.str_bool a t' b
  |int b=>obtain⟨t,rfl⟩:=q;exact SeqAt.EqAt.str_int a t' b t
  |str b=>obtain⟨t,rfl⟩:=q;exact SeqAt.EqAt.str_str a t' b t
  |_=>exact absurd (show false=true from fx) Qa7
 |_=>exact absurd (show false=true from D) Qa7
def eqU(x:V)(u:Av):Bool:=match u with
 |.none=>eqV .non x
 |.bool b=>eqV (.bl b) x
 |.int i _=>eqV (.int i) x
 |.str z _=>eqV (.str z) x
 |_=>false
def Zao{x:V}{u:Av}(r:RelV y u)(f:YM y=true):eqU x u=eqV y x:=by
 cases y with
 |non=>cases r;rfl
 |bl b=>cases r;rfl
 |int i=>obtain⟨t,rfl⟩:=r;rfl
 |str z=>obtain⟨t,rfl⟩:=r;rfl
 |_=>exact absurd (show false=true from f) Qa7
theorem qj{x:V}:∀{xs:A2} {q:Ag},Vals xs q->xs.all YM=true->q.any (eqU x)=xs.any fun y=>eqV y x
 |_,_,.nil,_=>rfl
 |y::xs,u::q,.cons r t,f=>by
  rw[Qc3,Qb4]at f;rw[Qf9,Qf9,Zao r f.1,qj t f.2]
theorem WO{A:Ar}{s:As}{x:V}{v:Av}(D:RelV x v)(fx:YM x=true):∀{xs:A2} {C:Ag},Vals xs C->xs.all YM=true->∀u∈C,SeqAt.EqAt A s u v (eqU x u)
 |_,_,.nil,_=>fun u q=>by cases q
 |y::xs,u::C,.cons r t,f=>fun F q=>by
  rw[Qc3,Qb4]at f;rcases Qao.mp q with rfl|q
  ·rw[Zao r f.1];exact kW r D f.1 fx
  ·exact WO D fx t f.2 F q
def inV(x:V)(xs:A2):Bool:=xs.any fun y=>eqV y x
def rIn(K:Af)(neg:Bool):R2:=fun x y H Q=>∃p xs,y=.ref p/\(SqL K H p xs\/SqT K H p xs)/\YM x=true/\xs.all YM=true/\Q (.bl (if neg then !inV x xs else inV x xs)) H
def Ya:OpR X (compareOp .In) (rIn X.K false):=by
 intro pins s σ H x y v u Q I F J h;obtain⟨p,xs,rfl,D,fx,fs,q⟩:=h;cases J;rcases D with D|D
 ·obtain⟨C,r,pl,G⟩:=I.list D;refine SeqAt.in_listAt (eqU x) pl.isList (fun w hw=>WO F fx r fs w (by simpa using hw)) ⟨.bl _,H,I,rfl,?_⟩;rw[show C.toArray.any (eqU x)=C.any (eqU x) by simp,qj r fs];exact q
 ·obtain⟨C,r,pl,G⟩:=I.tuple D;refine SeqAt.in_tupleAt (eqU x) pl (fun w hw=>WO F fx r fs w (by simpa using hw)) ⟨.bl _,H,I,rfl,?_⟩;rw[show C.toArray.any (eqU x)=C.any (eqU x) by simp,qj r fs];exact q
def Gs:OpR X (compareOp .NotIn) (rIn X.K true):=by
 intro pins s σ H x y v u Q I F J h;obtain⟨p,xs,rfl,D,fx,fs,q⟩:=h;cases J;rcases D with D|D
 ·obtain⟨C,r,pl,G⟩:=I.list D;refine SeqAt.notIn_listAt (eqU x) pl.isList (fun w hw=>WO F fx r fs w (by simpa using hw)) ⟨.bl _,H,I,rfl,?_⟩;rw[show C.toArray.any (eqU x)=C.any (eqU x) by simp,qj r fs];exact q
 ·obtain⟨C,r,pl,G⟩:=I.tuple D;refine SeqAt.notIn_tupleAt (eqU x) pl (fun w hw=>WO F fx r fs w (by simpa using hw)) ⟨.bl _,H,I,rfl,?_⟩;rw[show C.toArray.any (eqU x)=C.any (eqU x) by simp,qj r fs];exact q
def Zr:YA X (.builtin "len") (fun xs H Q=>∃p ys,xs=[.ref p]/\(SqL X.K H p ys\/SqT X.K H p ys)/\Q (.int ys.length) H):=by
 intro pins s σ H xs M Q I r h;obtain⟨p,ys,rfl,D,q⟩:=h;obtain⟨u,rfl,L⟩:=vals1 r;cases L;have O:=Gr;rcases D with D|D
 ·obtain⟨G,F,pl,J⟩:=I.list D;have C:=F.length;exact Calls.call_len_list pl.isList (by simp only[Qat]<;>lia) ⟨.int ys.length,H,I.tok _,⟨s.toks+1,by rw[Qat,C]⟩,q⟩
 ·obtain⟨G,F,pl,J⟩:=I.tuple D;have C:=F.length;exact len_tuple pl (by simp only[Qat]<;>lia) ⟨.int ys.length,H,I.tok _,⟨s.toks+1,by rw[Qat,C]⟩,q⟩
def yf:YA X (.builtin "len") (fun xs H Q=>∃z,xs=[.str z]/\z.length<=sizeLine/\Q (.int z.length) H):=by
 intro pins s σ H xs F Q I r h;obtain⟨z,rfl,D,q⟩:=h;obtain⟨u,rfl,t,rfl⟩:=vals1 r;have C:=Gr;exact len_str (by lia) ⟨.int z.length,H,I.tok _,⟨_,rfl⟩,q⟩
def yg:YA X (.type "list") (fun xs H Q=>∃p ys,xs=[.ref p]/\(SqL X.K H p ys\/SqT X.K H p ys)/\∀l,H l=none->Q (.ref l) (upd H l (.lst ys))):=by
 intro pins s σ H xs Z Q I r h;obtain⟨p,ys,rfl,L,q⟩:=h;obtain⟨u,rfl,Y⟩:=vals1 r;cases Y;have fin:∀(C:Ag),Vals ys C->ys.length<=sizeLine->∀(h':Heap) (F:Nat),(∀b o',s.heap.get? b=some o'->h'.get? b=some o')->
   h'.get? s.heap.objs.size=some {cls:=.type "list",dict:=none,data:=.seq C.toArray F,slots:=#[]}->EP X pins σ Q (.ref s.heap.objs.size) {s with heap:=h'}:=fun C D G h' F kp e=>
  ⟨.ref s.heap.objs.size,_,I.laid (t':=s.toks) kp (Qak _) (show Y2 X.prog X.w _ h' _ (.lst ys)from⟨G,C,F,D,e⟩),rfl,q _ (I.hok.fresh (Qak _))⟩
 rcases L with L|L
 ·obtain⟨C,D,pl,G⟩:=I.list L;have J:=D.length;obtain⟨o,ho,M,n,O⟩:=pl.isList;exact call_list_seq p (.inl rfl) ho M O (fun h' F kp e=>fin C D G h' F kp e) (by simp only[Qat]<;>lia)
 ·obtain⟨C,D,pl,G⟩:=I.tuple L;have J:=D.length;obtain⟨o,ho,M,n,O⟩:=pl;exact call_list_seq p (.inr rfl) ho M O (fun h' F kp e=>fin C D G h' F kp e) (by simp only[Qat]<;>lia)
def Z0:YA X (.type "tuple") (fun xs H Q=>∃p ys,xs=[.ref p]/\((SqL X.K H p ys/\∀l,H l=none->Q (.ref l) (upd H l (.tup ys)))\/(SqT X.K H p ys/\Q (.ref p) H))):=by
 intro pins s σ H xs Y Q I r h;obtain⟨p,ys,rfl,h⟩:=h;obtain⟨u,rfl,M⟩:=vals1 r;cases M;rcases h with⟨D,q⟩|⟨D,q⟩
 ·obtain⟨C,F,pl,G⟩:=I.list D;have L:=F.length;refine call_tuple_list pl.isList (fun h' kp=>?_) (by simp only[Qat]<;>lia);have J:Inv X pins σ H {s with heap:=h'}:=I.kept (t':=s.toks) kp;have O:Inv X pins σ (upd H h'.objs.size (.tup ys)) {s with heap:=h'.push {cls:=.type "tuple",data:=.seq C.toArray}}:=
   J.laid (t':=s.toks) (fun b o e=>Qad _ e) (Qak _) (show Y2 X.prog X.w _ _ _ (.tup ys)from⟨G,C,F,v8.new _ _⟩)
  exact⟨.ref h'.objs.size,_,O,rfl,q _ (J.hok.fresh (Qak _))⟩
 ·obtain⟨C,F,pl,G⟩:=I.tuple D;exact call_tuple_same pl ⟨.ref p,H,I,rfl,q⟩
def tyV(K:Af)(T:String)(x:V)(H:Hp):Prop:=match x with
 |.str _=>T = "str"
 |.int _=>T = "int"
 |.ref p=>(T = "list" /\ ∃xs,SqL K H p xs)\/(T = "tuple" /\ ∃o,K.lookup p=some o/\o.cls=.type "tuple" /\ o.dict=none) \/
   (T = "dict" /\ ((∃kvs,H p=some (.dK kvs))\/∃kvs,H p=some (.dT kvs)))\/(T = "set" /\ ∃S n,H p=some (.set S n))
 |_=>False
def Zgi{σ:St}{T:String}{x:V}(I:Inv X g σ H s)(r:RelV x v)(ty:tyV X.K T x H):
  s.TypeIs v T/\∀a,v=.ref a->∃ob,s.heap.get? a=some ob/\ob.dict=none:=by
 cases x with
 |str z=>
  obtain⟨t,rfl⟩:=r;cases(show T = "str" from ty);exact⟨typeIs_str s z t,fun _ e=>nomatch e⟩
 |int i=>
  obtain⟨t,rfl⟩:=r;cases(show T = "int" from ty);exact⟨typeIs_int s i t,fun _ e=>nomatch e⟩
 |ref p=>
  cases r;rcases ty with⟨rfl,xs,F⟩|⟨rfl,o,q,D,C⟩|⟨rfl,q⟩|⟨rfl,S,n,q⟩
  ·obtain⟨G,_,pl,_⟩:=I.list F;refine⟨pl.isList.typeIs,fun a e=>?_⟩;cases e;obtain⟨o,n,e,c,C,_⟩:=pl;exact⟨o,e,C⟩
  ·refine⟨⟨o,I.kIn p o q,D⟩,fun a e=>?_⟩;cases e;exact⟨o,I.kIn _ o q,C⟩
  ·have z:∃o,s.heap.get? p=some o/\o.ExactDict:=by
    rcases q with⟨kvs,q⟩|⟨kvs,q⟩
    ·obtain⟨_,_,_,_,o,_,_,e,ex,_⟩:=I.hok p _ q;exact⟨o,e,ex⟩
    ·obtain⟨_,_,_,_,o,_,_,e,ex,_⟩:=I.hok p _ q;exact⟨o,e,ex⟩
   obtain⟨o,e,ex⟩:=z;refine⟨⟨o,e,ex.1⟩,fun a e2=>?_⟩;cases e2;exact⟨o,e,ex.2.1⟩
  ·obtain⟨o,_,_,_,e,ex,_⟩:=I.hok p _ q;refine⟨⟨o,e,ex.1⟩,fun a e2=>?_⟩;cases e2;exact⟨o,e,ex.2.1⟩
 |_=>exact False.elim ty
def Zmn(K:Af)(T:String)(r:V->List V->Hp->VK->Prop)(to:TE):TE:=fun σ H Q=>to σ H fun x H1=>tyV K T x H1/\r x [] H1 Q
def tBM(K:Af)(T:String)(r:V->List V->Hp->VK->Prop)(to:TE)(t:TA):TE:=fun σ H Q=>to σ H fun x H1=>tyV K T x H1/\t σ H1 fun xs H2=>r x xs H2 Q
variable {o e:Ax}{es:An}{to:TE}{t:TA}{name:Str}{apos cpos:Pos}{T id:String}{r:V->List V->Hp->VK->Prop}
def pe_bm0 (L:PlainAttrs T) (D:Slot T name id) (F:typeOf (.builtin id)=pure (.type "method_descriptor")) (Y:MtR X id r) (ho:PE X o to)
  (C:attributeBase o name X.env (eval o X.env)=eval o X.env:=by rfl) (q:(apos.endLine == cpos.line)=true:=by rfl):PE X (.Call (.Attribute o name apos) [] [] cpos) (Zmn X.K T r to):=by
 intro pins s σ H Q I h;refine wpAny_Call_method0_late C q (thn (ho pins s σ H _ I h) fun v M ⟨x,H1,G,J,ty,O⟩=>?_);obtain⟨h1,h2⟩:=Zgi G J ty;exact⟨T,id,L,D,F,h1,h2,Qd0 rfl (PySem.evalArgs_none (Y pins M σ H1 x [] v [] Q G J .nil O))⟩
def pe_bm (Y:PlainAttrs T) (F:Slot T name id) (J:typeOf (.builtin id)=pure (.type "method_descriptor")) (hm:MtR X id r) (ho:PE X o to) (ha:PA X (e::es) t)
  (C:attributeBase o name X.env (eval o X.env)=eval o X.env:=by rfl)
  (D:((backTo cpos (starEach (e::es) X.env)).all (fun x=>!x.1)&&(backToKw cpos (keywordEach [] X.env)).all (fun x=>x.1.isSome)
   && decide ((e::es).length+([]:List Keyword).length+(if([]:List Keyword).isEmpty then 0 else 1)<30))=true:=by rfl)
  (q:(apos.endLine == cpos.line)=true:=by rfl) (hs:starEach (e::es) X.env=(false,eval e X.env)::starEach es X.env:=by rfl) (G:(backTo cpos (starEach es X.env)).any (·.1)=false:=by rfl):
  PE X (.Call (.Attribute o name apos) (e::es) [] cpos) (tBM X.K T r to t):=by
 intro pins s σ H Q I h;refine Qfu C D q rfl (thn (ho pins s σ H _ I h) fun v s1 ⟨x,H1,L,M,ty,q1⟩=>?_);obtain⟨h1,h2⟩:=Zgi L M ty;refine⟨T,id,Y,F,J,h1,h2,?_⟩;have O:=ha cpos pins s1 σ H1 _ L q1;rw[hs]at O ⊢;refine Qd0 (by grind) (Qe7 ?_);exact thn O fun us s2 ⟨vs,H2,I2,Z,q2⟩=>hm pins s2 σ H2 x vs v us Q I2 M Z q2
end
end L2
namespace L2
def MtM(X:Cx)(id:String)(r:V->List V->Hp->VK->Prop):Prop:=
 ∀(pins:Ac) (s:As) (σ:St) (H:Hp) (x:V) (xs:A2) (v:Av) (q:Ag) (Q:VK),Inv X pins σ H s->RelV x v->Vals xs q->r x xs H Q->
  A4 X (call (.builtin id) (v::q)) (EP X pins σ Q) X.xe s
theorem Vals.one:∀{x:V} {q:Ag},Vals [x] q->∃u,q=[u]/\RelV x u
 |_,_,.cons r .nil=>⟨_,rfl,r⟩
theorem Vals.zero:∀{q:Ag},Vals [] q->q=[]
 |_,.nil=>rfl
theorem Vals.dropLast{xs:A2}{C:Ag}(h:Vals xs C):Vals xs.dropLast C.dropLast:=by
 induction h with
 |nil=>exact .nil
 |cons r t D=>
  cases t with
  |nil=>exact .nil
  |cons q t'=>exact .cons r D
theorem Vals.reverse{xs:A2}{q:Ag}(h:Vals xs q):Vals xs.reverse q.reverse:=by
 induction h with
 |nil=>exact .nil
 |cons r t C=>rw[Qcq,Qcq];exact Vals.append C (.cons r .nil)
theorem Vals.rep{xs:A2}{q:Ag}(h:Vals xs q):∀k:Nat,Vals (List.replicate k xs).flatten (List.replicate k q).flatten
 |0=>.nil
 |k+1=>by
  exact Vals.append h (Vals.rep h k)
def erase_last(l:List d):l.eraseIdx (l.length-1)=l.dropLast:=by grind
def foldl_rep(q:Ag):∀(k:Nat) (acc:Ag),
  List.foldl (fun C x2=>C++x2) acc.toArray (List.replicate k q.toArray)=(acc++(List.replicate k q).flatten).toArray
 |0,acc=>by simp
 |k+1,acc=>by
  have e:acc.toArray++q.toArray=(acc++q).toArray:=by simp
  have e2:(acc++q)++(List.replicate k q).flatten=acc++(List.replicate (k+1) q).flatten:=by
   grind
  rw[<-e2,<-foldl_rep q k (acc++q),<-e,List.replicate_succ,Qc1]
section
variable {X:Cx}{pins:Ac}{σ:St}{H:Hp}{s:As}{l b:Aw}{xs ys zs:A2}
def Inv.lset{its':Ag}{f:Ah->Array Av}{t':Nat}(I:Inv X pins σ H s)(D:H l=some (.lst xs))
  (e:s.heap.get? l=some {cls:=.type "list",data:=.seq J.toArray n}) (M:f J.toArray=its'.toArray) (G:Vals ys its') (F:ys.length<=sizeLine):
  Inv X pins σ (upd H l (.lst ys)) {s with heap:=s.heap.update l (Obj.mapSeq f),toks:=t'}:=by
 have q:=PySem.IsL.update e f;rw[M]at q;refine I.write (x:=l) (e:=l) (by rw[D];exact trivial) (.inl rfl) (fun O u C L=>(Qb1 s.heap (Obj.mapSeq f) (Qd5 C)).trans L) ⟨_,q⟩ ?_;exact⟨F,its',_,G,q⟩
theorem Inv.lnew{t':Nat}(I:Inv X pins σ H s)(D:Vals ys J)(C:ys.length<=sizeLine):
  Inv X pins σ (upd H s.heap.objs.size (.lst ys)) {s with heap:=s.heap.push {cls:=.type "list",data:=.seq J.toArray},toks:=t'}:=
 I.laid (fun _ _ q=>Qad _ q) (Qak _) ⟨C,J,0,D,Qam _ rfl⟩
def Inv.fresh(I:Inv X pins σ H s):H s.heap.objs.size=none:=I.hok.fresh (Qak _)
def Inv.lstM (I:Inv X pins σ H s) (C:H l=some (.lst xs)):xs.length<=sizeLine/\∃(q:Ag) (n:Nat),Vals xs q/\xs.length=q.length/\s.heap.get? l=some {cls:=.type "list",data:=.seq q.toArray n}:=by
 obtain⟨z,q,n,r,e⟩:=I.hok l _ C;exact⟨z,q,n,r,r.length,e⟩
def Zee(h:n<=sizeLine):Builtin.List.listTooLong n=false:=by
 exact Qap (by lia)
end
def Zh5:V->List V->Hp->VK->Prop:=fun x vs H Q=>∃l xs y,x=.ref l/\vs=[y]/\H l=some (.lst xs)/\xs.length<sizeLine/\Q .non (upd H l (.lst (xs++[y])))
def ZF:MtM X "list.append" Zh5:=by
 intro pins s σ H x vs v O Q I L G h;obtain⟨l,xs,y,rfl,rfl,D,M,q⟩:=h;cases L;obtain⟨u,rfl,J⟩:=G.one;obtain⟨z,C,n,r,Y,e⟩:=I.lstM D;refine call_meets F.slot_list_append ⟨_,e,rfl⟩ F.entry_list_append (F.args_list_append_2 _ _) (PySem.list_append l C.toArray n u (by rw[Qat];lia)) ⟨e,?_⟩;refine⟨.non,_,I.lset (its':=C++[u]) D e (by simp) (r.append (.cons J .nil)) ?_,rfl,q⟩;rw[Qaj,List.length_singleton];lia
def Zh6:V->List V->Hp->VK->Prop:=fun x vs H Q=>∃l b xs zs,x=.ref l/\vs=[.ref b]/\H l=some (.lst xs)/\H b=some (.lst zs)/\xs.length+zs.length<=sizeLine/\Q .non (upd H l (.lst (xs++zs)))
def Zap:MtM X "list.extend" Zh6:=by
 intro pins s σ H x vs v us Q I O rv h;obtain⟨l,b,xs,zs,rfl,rfl,J,L,hz,q⟩:=h;cases O;obtain⟨u,rfl,Y⟩:=rv.one;cases Y;obtain⟨z,D,n,r,hl,e⟩:=I.lstM J;obtain⟨z2,C,n2,M,Z,e2⟩:=I.lstM L;have hsz:D.toArray.size+C.toArray.size<=sizeLine:=by grind
 have G:¬(!D.toArray.isEmpty&&Builtin.List.listTooLong (D.toArray.size+C.toArray.size))=true:=by
  rw[Zee hsz,Qgz];exact Qa7
 refine call_meets F.slot_list_extend ⟨_,e,rfl⟩ F.entry_list_extend (F.args_list_extend_2 _ _)
  (AutoSeq1.list_extend_list_list_0 l D.toArray n b C.toArray n2 G (by lia) (by lia)) ⟨e,e2,?_⟩
 refine⟨.non,_,I.lset (its':=D++C) J e (by simp) (r.append M) ?_,rfl,q⟩;rw[Qaj];lia
def rPop:V->List V->Hp->VK->Prop:=fun x vs H Q=>∃l xs y,x=.ref l/\vs=[]/\H l=some (.lst xs)/\xs[xs.length-1]?=some y/\Q y (upd H l (.lst xs.dropLast))
def Jp:MtM X "list.pop" rPop:=by
 intro pins s σ H x vs v Z Q I Y L h;obtain⟨l,xs,y,rfl,rfl,J,M,q⟩:=h;cases Y;have G:=L.zero;subst G;obtain⟨z,C,n,r,hl,e⟩:=I.lstM J;obtain⟨u,hu,O⟩:=r.get M;have D:C.toArray[C.toArray.size-1]?=some u:=by
  grind
 refine call_meets F.slot_list_pop ⟨_,e,rfl⟩ F.entry_list_pop (F.args_list_pop_1 _) (MeetsSeq.list_pop_last l C.toArray n u D (by rw[Qat];lia)) ⟨e,?_⟩;refine⟨y,_,I.lset (its':=C.dropLast) J e ?_ r.dropLast ?_,O,q⟩
 ·grind
 ·rw[List.length_dropLast];lia
def rCat:R2:=fun x y H Q=>∃l b xs zs,x=.ref l/\y=.ref b/\H l=some (.lst xs)/\H b=some (.lst zs)/\xs.length+zs.length<=sizeLine/\∀p,H p=none->Q (.ref p) (upd H p (.lst (xs++zs)))
def kX:OpR X (binaryOp .Add) rCat:=by
 intro pins s σ H x y v u Q I Y L h;obtain⟨l,b,xs,zs,rfl,rfl,M,G,Z,q⟩:=h;cases Y;cases L;obtain⟨z,D,n,r,hl,e⟩:=I.lstM M;obtain⟨z2,C,n2,F,J,e2⟩:=I.lstM G;refine PySem.P.add_list e e2 ?_ (by grind);have O:D.toArray++C.toArray=(D++C).toArray:=by simp
 rw[O];exact⟨.ref _,_,I.lnew (t':=s.toks) (r.append F) (by rw[Qaj];lia),rfl,q _ I.fresh⟩
theorem len_rep(xs:List d)(k:Nat):(List.replicate k xs).flatten.length=k*xs.length:=by
 induction k with
 |zero=>simp
 |succ k q=>rw[List.replicate_succ,List.flatten_cons,Qaj,q,Qgn,Qf1]
section
variable {prog:Aq}{w:Au}{A:Ar}{E:Ab}{s:As}
end
end L2
namespace Att
open PySem PySem.W PySem.Calls PyProof.Rows
theorem qk{P:Params}:∀(ns:Ak) (vs:Ag),WellAll P h vs (ns.map WData.int)->IntsAre vs ns:=by
 intro ns
 induction ns with
 |nil=>
  intro vs w;cases w;exact .nil
 |cons n ns q=>
  intro vs w;cases w with
  |cons a b=>
   cases a;exact .cons _ _ (q _ b)
def Zaq{l:OpenLaw}(hn:l.most=some n){P:Params}{args:List WData}
  (C:l.row.toRowW.claim.pre args=true) (I:WellAll P h J args):
  ∃a vs ns,J=[Value.ref a]/\args=[WData.list (ns.map WData.int)]/\h.get? a=some {cls:=.type "list",data:=.seq vs.toArray}/\IntsAre vs ns/\ns.length<=n:=by
 have L:WShape.hasAll [] args [.list .int]=true:=(pre_splitW C).1;have Y:l.pre.holds [] {args:=args}=true:=(pre_splitW C).2;obtain⟨d,r,rfl,h1,h2⟩:=hasAllW_cons L;obtain rfl:=hasAllW_nil h2;obtain⟨xs,rfl,O⟩:=hasW_list h1;obtain⟨ns,rfl⟩:=items_int O;have F:ns.length<=n:=by
  have G:(WTm.not (.lt (.lit (.int (n:Int))) (.len (.arg 0)))).holds [] {args:=[.list (ns.map .int)]}=true:=by
   have G:=(holds_andW Y).1;rw[hn]at G;exact G
  have M:=condW_of G (w_not (w_lt w_lit (w_len_list (w_arg rfl))));refine Qhh fun q=>?_
  first
   |(exact absurd M (by decide))
   |(simp at M;lia)
 cases I with
 |cons Z w2=>
  cases w2;cases Z with
  |list ho D=>exact⟨_,_,ns,rfl,rfl,ho,qk ns _ D,F⟩
theorem Zar(l:OpenLaw)(args:List WData):l.row.toRowW.claim.post args (.bool true) args=true:=
 postW_of (r:=l.row.toRowW) (X:=(true == true))
  (show WShape.has [] (.bool true) .bool=true by first|rfl|decide|skip)
  (show(WTm.eq .res (.lit (.bool true))).value [] {args:=args,res:=some (.bool true),after:=args}=some (.bool (true == true))from w_eq_bool (w_res rfl) w_lit) rfl
def attach_call{l:OpenLaw}{XP:(Ae)->Heap->Prop}{YP:Au->Heap->Prop}{d:DefRec}
  (hn:l.most=some n) (Z:d.params.defaults=[])
  (call:∀(w:Au) (s₀ q:As) (mg mb:Ae) (J:Aw) (o:Obj) (pm M D:Av) (a:Aw) (vs:Ag) (ns:Ak),
   Ground P N [] XP w s₀ mg mb q.heap->YP w q.heap->
   q.heap.get? J=some o->o.data=.func (docDef d.name d.params d.body d.scope pm M D)->q.heap.CodeRec M d.name->mg d.name=some (.ref J)->
   q.heap.get? a=some {cls:=.type "list",data:=.seq vs.toArray}->IntsAre vs ns->ns.length<=n->q.gens=#[]->
   codeAny (model l.prog w) callerA (.call (.ref J) ⟨[.ref a],[]⟩) (fun r s'=>r=.ok (.ret (.bool true))/\OldK q.heap s'.heap/\s'.os=q.os/\AllBare s'.gens) q):
  WalkO P N XP YP l.row.toRowW d [] (fun f vs=>PySem.call f vs):=by
 intro w s₀ q mg mb G Y J o pm M D dV kV ho hd O hD hmg hg args vals as L hlay hrd hwl hlo;obtain rfl:dV=.none:=Dflts.none hD Z;obtain rfl:kV=.none:=Dflts.noKw hD;obtain⟨a,vs,ns,rfl,rfl,I,C,F⟩:=Zaq hn L hwl;refine enter_call (Qfe (call w s₀ q mg mb J o pm M D a vs ns G Y ho (fd_plain hd) O hmg I C F hg) fun r s' hq=>?_);obtain⟨rfl,h2,h3,h4⟩:=hq;exact⟨.inl ⟨.bool true,.bool true,[],rfl,fun _=>rfl,.bool true,Zar l _,fun _=>⟨List.Pairwise.nil,fun _ hm=>(nomatch hm)⟩⟩,h2,h3,h4⟩
section
variable {prog:Aq}{w:Au}{A:Ar}{E:Ab}{s:As}{K:Frag}
end
end Att
namespace L2
theorem ql:∀{vs:Ag} {ns:Ak},IntsAre vs ns->Vals (ns.map V.int) vs
 |_,_,.nil=>.nil
 |_,_,.cons n t h=>.cons ⟨t,rfl⟩ (ql h)
def Ww(s:Ay):Arguments:=match s with
 |.FunctionDef _ a _ _ _ _ _ _ _ _=>a
 |_=>{posonlyargs:=[],args:=[],vararg:=none,kwonlyargs:=[],kw_defaults:=[],kwarg:=none,defaults:=[]}
def Xn(s:Ay):List Ay:=match s with
 |.FunctionDef _ _ b _ _ _ _ _ _ _=>b
 |_=>[]
def Zh(s:Ay):Scope:=match s with
 |.FunctionDef _ _ _ _ _ _ q _ _ _=>q
 |_=>{kind:=.function,names:=[],isGenerator:=false,isCoroutine:=false}
abbrev CX0:CXT:=fun _ _ _ _ _ _=>False
abbrev E0:XK:=fun _ _ _=>False
def Zh7{X:Cx}:Passes CX0 X E0:=fun _ _ _ _ _ _ _ h=>h.elim
structure Fun(K:Af)(x qual:Str)(st:Ay)(f:Aw)(fd:Ao):Prop where
 ex:∃(oc:Av) (od:Option Aw) (kV doc pm:Av) (an:Option Aw) (cdv ct:Av) (osl:Array (Option Av)),
  fd=PySem.W.fnOf x qual (Ww st) (Xn st) (Zh st) .none kV doc pm an cdv ct/\K.lookup f=some ⟨oc,od,.func fd,osl⟩/\PySem.W.codeIn K cdv qual=true
 kp:PySem.W.keepIn K (.ref f)=true
section
variable {P:Aq}{w:Au}{K:Af}{mg:Ae}{base:Heap}
theorem Fun.ok{qual:Str}{st:Ay}{fd:Ao}{ps:Ai}{k:Nat}{sp:Sp}(F:Fun K x qual st f fd)(S:Zv N ps (Zh st))(len:∀vs H Q E,sp vs H Q E->vs.length=ps.length)
  (D:∀(C:Av) (A:Ar) (outer:List Env) (s:As) (H:Hp) (vs:A2) (Q:VK) (E:XK),Wu k (A.deeper (envOfC qual (Zh st) s.heap.objs.size f C))->sp vs H Q E->
   ∃t,PSs (Zd9 CX0 P w K mg base N qual (Zh st) f C A outer s H E).nox (Xn st) t/\t {nx:=fun _ H'=>Q .non H',rt:=Q} (start N vs) H):Y6 P w K mg base CX0 (k+1) f fd ps sp:=by
 obtain⟨oc,od,kV,J,Y,Z,C,ct,L,rfl,O,G⟩:=F.ex;refine Zli O G S len fun A outer s H vs Q E M I=>?_;obtain⟨t,h,q⟩:=D C A outer s H vs Q E M I;exact⟨t,h.nox,q⟩
def Fun.binds{qual:Str}{st:Ay}{fd:Ao}{ps:Ai}(F:Fun K x qual st f fd)
  (h:∀(kV C D:Av) (I:Option Aw) (q ct:Av) (G:Ag),G.length=ps.length->bindArgs (PySem.W.fnOf x qual (Ww st) (Xn st) (Zh st) .none kV C D I q ct) ⟨G,[]⟩=pure (ps.zip G)):Binds K fd ps []:=by
 obtain⟨oc,od,kV,C,D,I,q,ct,L,rfl,M,J⟩:=F.ex;exact .all (h kV C D I q ct)
theorem fun_mk{qual:Str}{st:Ay}{od G:Option Aw}{D:Array (Option Av)}{kV C F q ct:Av}(l:K.lookup f=some ⟨v,od,.func (PySem.W.fnOf x qual (Ww st) (Xn st) (Zh st) .none kV C F G q ct),D⟩)
  (c:PySem.W.codeIn K q qual=true) (k:PySem.W.keepIn K (.ref f)=true):Fun K x qual st f (PySem.W.fnOf x qual (Ww st) (Xn st) (Zh st) .none kV C F G q ct):=⟨⟨v,od,kV,C,F,G,q,ct,D,rfl,l,c⟩,k⟩
end
def ZL{A:Ar}{k:Nat}(q:Wu k A):A.units+1<cLine:=Qes (Nat.add_le_add_left (by decide:1<=64) _) q.units
def Z2(h:n<=1000):n<sizeLine:=Qes h (by decide)
def pv (i:Nat)   (C:X.N[i]?=some x:=by rfl) (F:Vis X.env.scope x:=by first|exact Or.inl rfl|exact Or.inr (Or.inl rfl)|exact Or.inr (Or.inr rfl)) (D:(x == ("__debug__" : Str))=false:=by decide)
  (q:(x == ("__classdict__" : Str))=false:=by decide):PE X (.Name x p) (jX i):=Zgf C F D q
def ZD{A B:Prop}(h:B):if false=true then A else B:=by grind
def Y3{A B:Prop}(h:A):if true=true then A else B:=by
 exact h
def x8{c A B:Prop}[Decidable c](h1:c->A)(h2:¬c->B):if c then A else B:=by grind
def Z9(H H':Hp):Prop:=∀b o,H b=some o->H' b=some o
def Z9.refl(H:Hp):Z9 H H:=fun _ _ h=>h
def Z9.trans{H2:Hp}(a:Z9 H E)(b:Z9 E H2):Z9 H H2:=fun c o h=>b c o (a c o h)
def Z9.free{H':Hp}(e:Z9 H H'){l:Aw}(h:H' l=Option.none):H l=Option.none:=by
 cases q:H l with
 |none=>rfl
 |some o=>
  rw[e l o q]at h;cases h
def Zh8(i j:Int):Prop:=0<j/\j.natAbs.log2<9000
theorem Yi:OpR X (binaryOp .FloorDiv) (rI Zh8 fun i j=>.int (i/j)):=opI fun i j _ _ _ _ _ C q=>by
 have h1:(0:Int)<j:=C.1;exact floordiv_int (by lia) (by grind) (.inl (PyProof.noPylong_of_log2 C.2))
def Zh8.of{i j:Int}(h1:0<j)(h2:j<2^250):Zh8 i j:=by
 refine⟨h1,?_⟩;have q:j.natAbs<2^250:=by lia
 have C:j.natAbs≠0:=by lia
 have:=(Nat.log2_lt C).mpr q;lia
def Zh9(i j:Int):Prop:=(i.natAbs<2^250/\j.natAbs<2^250)\/CMul i j
def Zh9.ok{i j:Int}(h:Zh9 i j):IntMulOk i j:=by
 rcases h with⟨h1,h2⟩|h
 ·refine IntMulOk.of_bits (Qbc (PyProof.Rows.intBits_le h1) (by decide)) (Qbc (PyProof.Rows.intBits_le h2) (by decide))
 ·exact h.ok
def Xe:OpR X (binaryOp .Mult) (rI Zh9 fun i j=>.int (i*j)):=opI fun _ _ _ _ _ _ _ C q=>mul_int q C.ok
def Zlk(K:Af):A2->Hp->VK->Prop:=fun xs H Q=>∃x T t b,xs=[x,.ty T]/\gH K H x t/\PySem.W.kitOne K t (.type T)=some b/\Q (.bl b) H
def X1:YA X (.builtin "isinstance") (Zlk X.K):=by
 intro pins s σ H xs F Q I r h;obtain⟨x,T,t,b,rfl,ty,e,q⟩:=h;obtain⟨u,D,rfl,C,rt⟩:=vals2 r;cases rt;exact Zah I C ty e fun tk=>⟨.bl b,H,I.tok tk,rfl,q⟩
def ZV:Ax->Bool
 |.Starred _ _=>false
 |_=>true
def Zu{rest:An}{env:Env}(h:ZV e=true):starEach (e::rest) env=(false,eval e env)::starEach rest env:=by
 cases e<;>first
  |rfl
  |cases h
theorem Xa{pos:Pos}{env:Env}:∀{es:An},es.all ZV=true->(backTo pos (starEach es env)).any (·.1)=false
 |[],_=>rfl
 |e::es,h=>by
  rw[Qc3,Qb4]at h;rw[Zu h.1];show(false||(backTo pos (starEach es env)).any (·.1))=false;rw[Xa h.2];rfl
theorem all_plain{pos:Pos}{env:Env}:∀{es:An},es.all ZV=true->(backTo pos (starEach es env)).all (fun x=>!x.1)=true
 |[],_=>rfl
 |e::es,h=>by
  rw[Qc3,Qb4]at h;rw[Zu h.1];show(true&&(backTo pos (starEach es env)).all (fun x=>!x.1))=true;rw[all_plain h.2];rfl
section
variable {X:Cx}{CX:CXT}{k:Nat}{f C:Aw}{fd:Ao}{ps:Ai}{sp:Sp}{dvs:A2}{ds:Ag}{E:XK}{x m:Str}{p pos apos:Pos}{e o:Ax}{es:An}{ta te:TE}{t:TA}{id T:String}{r:A2->Hp->VK->Prop}
def pa_c(ha:PE X e te)(q:PA X es t)(C:ZV e=true:=by rfl):PA X (e::es) (JN te t):=Zh1 ha q (Zu C)
def Zef(F:Y6 X.prog X.w X.K X.mg X.base CX k f fd ps sp)(M:Wu k X.A)(G:Gl X x)(L:X.mg x=some (.ref f))(J:PySem.W.keepIn X.K (.ref f)=true)(D:Binds X.K fd ps ds)(O:Vals dvs ds)(I:Passes CX X E)
  (ha:PA X (e::es) t) (C:(x == ("__debug__" : Str))=false:=by decide) (q:(e::es).all ZV=true:=by rfl):PE X (.Call (.Name x p) (e::es) [] pos) (Zd8 sp dvs E t):=by
 rw[Qc3,Qb4]at q;exact Zh2 F M G L J D O I ha C (Zu q.1) (Xa q.2)
def Zas (G:YA X (.builtin id) r) (F:Gl X x) (J:X.mg x=none) (I:bootBuiltins x=some (.builtin id)) (ha:PA X (e::es) t) (D:x ≠ "__name__" :=by decide) (C:(x == ("__debug__" : Str))=false:=by decide)
  (q:(e::es).all ZV=true:=by rfl):PE X (.Call (.Name x p) (e::es) [] pos) (tCB r t):=by
 rw[Qc3,Qb4]at q;exact Zea G F J I ha D C (Zu q.1) (Xa q.2)
def Zat (G:YA X (.type T) r) (F:Gl X x) (J:X.mg x=none) (I:bootBuiltins x=some (.type T)) (ha:PA X (e::es) t) (D:x ≠ "__name__" :=by decide) (C:(x == ("__debug__" : Str))=false:=by decide)
  (q:(e::es).all ZV=true:=by rfl):PE X (.Call (.Name x p) (e::es) [] pos) (tCB r t):=by
 rw[Qc3,Qb4]at q;exact Zaj G F J I ha D C (Zu q.1) (Xa q.2)
def Zau {tg a:Ax} (C:Gl X "range") (q:X.mg "range" = none) (ha:PA X [a] t) (D:ZV a=true:=by rfl):PI X tg (.Call (.Name "range" p) [a] [] pos) (Zhv t):=
 uX C q ha (by rw[Zu D];rfl)
def pe_bmF {name:Str} {cpos:Pos}  {I:V->List V->Hp->VK->Prop} (L:PlainAttrs T) (F:Slot T name id) (G:typeOf (.builtin id)=pure (.type "method_descriptor")) (M:MtR X id I) (ho:PE X o u) (ha:PA X (e::es) t)
  (C:attributeBase o name X.env (eval o X.env)=eval o X.env:=by rfl) (q:(apos.endLine == cpos.line)=true:=by rfl) (J:(e::es).all ZV=true:=by rfl) (O:(e::es).length<30:=by decide):
  PE X (.Call (.Attribute o name apos) (e::es) [] cpos) (tBM X.K T I u t):=by
 have D:=J;rw[Qc3,Qb4]at D;refine pe_bm L F G M ho ha C ?_ q (Zu D.1) (Xa D.2);rw[all_plain J];exact Qan O
end
def Yb:bootBuiltins "len" = some (.builtin "len"):=by decide +kernel
def Ye:bootBuiltins "isinstance" = some (.builtin "isinstance"):=by decide +kernel
def Jq:bootBuiltins "sorted" = some (.builtin "sorted"):=by decide +kernel
def bt_all:bootBuiltins "all" = some (.builtin "all"):=by decide +kernel
def zh:bootBuiltins "int" = some (.type "int"):=by decide +kernel
def Zia:bootBuiltins "bool" = some (.type "bool"):=by decide +kernel
def Zgj:bootBuiltins "str" = some (.type "str"):=by decide +kernel
def Zav:bootBuiltins "list" = some (.type "list"):=by decide +kernel
def ZR:bootBuiltins "tuple" = some (.type "tuple"):=by decide +kernel
def Zgk:bootBuiltins "set" = some (.type "set"):=by decide +kernel
def vD:bootBuiltins "reversed" = some (.type "reversed"):=by decide +kernel
def Zeg:bootBuiltins "range" = some (.type "range"):=by decide +kernel
def Jh :PySem.W.kitOne K (.type "int") (.type "int")=some true:=by rfl
def qm :PySem.W.kitOne K (.type "tuple") (.type "tuple")=some true:=by rfl
def Xo :PySem.W.kitOne K (.type "str") (.type "int")=some false:=by with_unfolding_all rfl
def qo :PySem.W.kitOne K (.type "str") (.type "str")=some true:=by rfl
def qp :PySem.W.kitOne K (.type "int") (.type "str")=some false:=by with_unfolding_all rfl
structure QE(X:Cx)(e:Ax)(t:TE):Prop where
 out:PE X e t
structure QT(X:Cx)(e:Ax)(t:TT):Prop where
 out:PT X e t
structure QW(X:Cx)(e:Ax)(t:TT):Prop where
 out:PW X e t
structure QA(X:Cx)(e:An)(t:TA):Prop where
 out:PA X e t
structure QSs(X:Cx)(e:List Ay)(t:TS):Prop where
 out:PSs X e t
structure QS(X:Cx)(e:Ay)(t:TS):Prop where
 out:PS X e t
structure QG(X:Cx)(e:Ax)(t:TG):Prop where
 out:PG X e t
structure QI(X:Cx)(tg e:Ax)(t:TI):Prop where
 out:PI X tg e t
structure QO(X:Cx)(e:Option Ax)(t:TO):Prop where
 out:PO X e t
def qv {X:Cx} (i:Nat)   (C:X.N[i]?=some x:=by rfl) (F:Vis X.env.scope x:=by first|exact Or.inl rfl|exact Or.inr (Or.inl rfl)|exact Or.inr (Or.inr rfl)) (D:(x == ("__debug__" : Str))=false:=by decide) (q:(x == ("__classdict__" : Str))=false:=by decide):QE X (.Name x p) (jX i):=⟨pv i C F D q⟩
def Zf{X:Cx}{i j pos:_}:QE X (.Constant (.int i) j pos) (tC (.int i)):=⟨pe_int ⟩
def YD{X:Cx}{b j pos:_}:QE X (.Constant (.bool b) j pos) (tC (.bl b)):=⟨pe_bl ⟩
def Zj{X:Cx}{x j pos:_}:QE X (.Constant (.str x) j pos) (tC (.str x)):=⟨pe_str ⟩
def XY {X:Cx}  {v:V} {u:Av}  (C:Gl X x) (q:X.mg x=some u) (r:RelV v u) (D:(x == ("__debug__" : Str))=false:=by decide):QE X (.Name x p) (tC v):=⟨Zhn C q r D⟩
def Wx {X:Cx}  {v:V} {u:Av}  (C:Gl X x) (F:X.mg x=none) (D:bootBuiltins x=some u) (r:RelV v u) (q:x ≠ "__name__" :=by decide) (G:(x == ("__debug__" : Str))=false:=by decide):QE X (.Name x p) (tC v):=⟨Zho C F D r q G⟩
def Zp{X:Cx}{a:Ax}{b:Ax}{q:Operator}{r:R2}(ho:OpR X (binaryOp q) r)(ha:QE X a u)(C:QE X b I):QE X (.BinOp a q b p) (tOp r u I):=⟨pe_op ho ha.out C.out⟩
def Jr{X:Cx}{a:Ax}{q:UnaryOp}{r:V->Hp->VK->Prop}(ho:UnR X (unaryOp q) r)(ha:QE X a u):QE X (.UnaryOp q a p) (tUn r u):=⟨pe_un ho ha.out⟩
def Yl{X:Cx}{a:Ax}{b:Ax}{q:CmpOp}{r:R2}(ho:OpR X (compareOp q) r)(ha:QE X a u)(C:QE X b I)(D:behindInMarks q b=false):QE X (.Compare a [q] [b] p) (tOp r u I):=⟨Zhx ho ha.out C.out D⟩
def Zq{X:Cx}{a:Ax}{b:Ax}{q:CmpOp}{r:R2}(ho:OpR X (compareOp q) r)(ha:QE X a u)(C:QE X b I)(D:behindInMarks q b=false):QT X (.Compare a [q] [b] p) (Zlh (tOp r u I)):=⟨Zhy ho ha.out C.out D⟩
def YQ{X:Cx}(h:QE X e u)(C:∀q,isTrue e X.env q=(do let v <-q;standAt e.pos;holding [v] (truthy v)):=by intro _;rfl):QT X e (tB u):=⟨pt_val h.out C⟩
def XZ{X:Cx}{a:Ax}(ha:QT X a G):QW X (.BoolOp .And [a] p) G:=⟨Zhp ha.out⟩
def Js{X:Cx}{a:Ax}(ha:QT X a G):QW X (.BoolOp .Or [a] p) G:=⟨pw_or1 ha.out⟩
def Jt{X:Cx}{a:Ax}{b:Ax}{tB':TT}{rest:An}(ha:QT X a G)(q:QW X (.BoolOp .And (b::rest) p) tB'):QW X (.BoolOp .And (a::b::rest) p) (tAnd G tB'):=⟨pw_and ha.out q.out⟩
def zY{X:Cx}{a:Ax}{b:Ax}{tB':TT}{rest:An}(ha:QT X a G)(q:QW X (.BoolOp .Or (b::rest) p) tB'):QW X (.BoolOp .Or (a::b::rest) p) (tOr G tB'):=⟨pw_or ha.out q.out⟩
def zi{X:Cx}{a:Ax}(ha:QT X a G):QT X (.UnaryOp .Not a p) (tNot G):=⟨pt_not ha.out⟩
def qr{X:Cx}{a:Ax}{q:_}(h:QE X a u):QE X (.BoolOp q [a] p) u:=⟨pe_one h.out⟩
def kY{X:Cx}{a:Ax}{b:Ax}{rest:An}(ha:QE X a u)(q:QE X (.BoolOp .And (b::rest) p) I):QE X (.BoolOp .And (a::b::rest) p) (Zk8 u I):=⟨pe_and ha.out q.out⟩
def Zib{X:Cx}{a:Ax}{b:Ax}{rest:An}(ha:QE X a u)(q:QE X (.BoolOp .Or (b::rest) p) I):QE X (.BoolOp .Or (a::b::rest) p) (tOrV u I):=⟨pe_or ha.out q.out⟩
def Zaw{X:Cx}{a:Ax}(ha:QE X a u):QE X (.UnaryOp .Not a p) (Zk9 u):=⟨pe_not ha.out⟩
def Zw{X:Cx}:QSs X [] Zla:=⟨Zhq ⟩
def Zb{X:Cx}{st:Ay}{rest:List Ay}{u:TS}(h1:QS X st q)(h2:QSs X rest u):QSs X (st::rest) (ZZ q u):=⟨Zd5 h1.out h2.out⟩
def Ze{X:Cx}{st:Ay}(h1:QS X st q):QSs X [st] q:=⟨Zhr h1.out⟩
def Yn{X:Cx}(q:QE X e u)(hs:swapsWith e none p.line X.env=pure false:=by rfl):QS X (.Expr e p) (Zlb u):=⟨Zhs q.out hs⟩
def Zo{X:Cx}(q:QE X e u):QS X (.Return (some e) p) (tRet u):=⟨ps_ret q.out⟩
def ZE{X:Cx}{u:TS}{c:Ax}{a b:List Ay}(D:QT X c G)(ha:QSs X a q)(C:QSs X b u):QS X (.If c a b p) (tIfS G q u):=⟨ps_if D.out ha.out C.out⟩
theorem Zic{X:Cx}(q:X.N.Nodup)(hi:X.N[i]?=some x)(C:Loc X.env.scope x)(D:X.fn x=true\/X.env.scope.names.lookup x=some .local:=by first|exact .inl rfl|exact .inr rfl|assumption):QG X (.Name x p) (Wv i):=⟨zU q hi C D⟩
theorem Xp{X:Cx}(i:Nat)(q:X.N.Nodup)(hi:X.N[i]?=some x:=by exact rfl)(C:Loc X.env.scope x:=by first|exact .inl rfl|exact .inr rfl)(D:X.fn x=true\/X.env.scope.names.lookup x=some .local:=by first|exact .inl rfl|exact .inr rfl|assumption):QG X (.Name x p) (Wv i):=Zic q hi C D
def Zgl{X:Cx}{i:Ax}{t:Zmk}(ho:QE X o u)(hi:QE X i I)(hs:PSet X t)(ha:∀v,assign (.Subscript o i p) X.env v=(do
   let q <-holding [v] (eval o X.env);let C <-holding [v,q] (eval i X.env)
   standAt p
   holding [v,q,C] (setItem q C v)
   release [v,q,C] []):=by intro _;rfl):QG X (.Subscript o i p) (gSub u I t):=⟨pg_sub (ho:=ho.out) (hi:=hi.out) (hs:=hs) (ha:=ha)⟩
def kZ{X:Cx}{g:TG}(C:QE X e u)(q:QG X o g)(hs:swapsWithSole [o] e p.line X.env=pure false:=by rfl)(hw:swappedStores [o] e X.env=pure none:=by rfl)(h1:(assignEach [o] X.env).map (·.2)=[assign o X.env]:=by rfl):QS X (.Assign [o] e p) (Zht u g):=⟨ps_asg C.out q.out hs hw h1⟩
theorem qs_set{X:Cx}(q:X.N.Nodup)(hi:X.N[i]?=some x)(C:Loc X.env.scope x)(D:QE X e u)(hs:swapsWith e (some (.Name x m)) p.line X.env=pure false:=by rfl)(F:X.fn x=true\/X.env.scope.names.lookup x=some .local:=by first|exact .inl rfl|exact .inr rfl|assumption):QS X (.Assign [.Name x m] e p) (Zht u (Wv i)):=⟨ps_set q hi C D.out hs F⟩
theorem Zz{X:Cx}(i:Nat)(q:X.N.Nodup)(D:QE X e u)(hi:X.N[i]?=some x:=by exact rfl)(C:Loc X.env.scope x:=by first|exact .inl rfl|exact .inr rfl)(hs:swapsWith e (some (.Name x m)) p.line X.env=pure false:=by rfl)(F:X.fn x=true\/X.env.scope.names.lookup x=some .local:=by first|exact .inl rfl|exact .inr rfl|assumption):QS X (.Assign [.Name x m] e p) (Zht u (Wv i)):=qs_set q hi C D hs F
def WQ{X:Cx}{c:Ax}{body:List Ay}(F:PassesOwn (model X.prog X.w) X.A X.env X.xe)(D:QT X c G)(C:QSs X body q):QS X (.While c body [] p) (uU G q):=⟨Zd6 F D.out C.out⟩
def Xq{X:Cx}{l:Ax}(q:QE X l u):QI X e l (uW X.K u):=⟨Zhu q.out⟩
def Xr{X:Cx}{l:Ax}(q:QE X l u):QI X e l (iTup X.K u):=⟨pi_tup q.out⟩
def Xb{X:Cx}{iter:Ax}{body:List Ay}{wi:TI}{g:TG}(G:PassesOwn (model X.prog X.w) X.A X.env X.xe)(F:X.calm=true)(hi:QI X e iter wi)(D:QG X e g)(C:QSs X body q)(hs:∀x,foldedSetIterable iter X.env x=pure x:=by intro _;rfl):QS X (.For e iter body [] p) (tFor wi g q):=⟨ps_for G F hi.out D.out C.out hs⟩
def Yc{X:Cx}{t:TA}{q:_}(h:QA X A t):QE X (.Tuple A q p) (tTup t):=⟨pe_tup h.out⟩
def ZN{X:Cx}{t:TA}(h:QA X A t):QE X (.List A p) (tLst t):=⟨pe_lst h.out⟩
def Zd{X:Cx}:QA X [] Zh0:=⟨pa_nil ⟩
def Zi{X:Cx}{t:TA}(ha:QE X e u)(q:QA X A t)(C:ZV e=true:=by rfl):QA X (e::A) (JN u t):=⟨pa_c ha.out q.out C⟩
def zZ {X:Cx} {CX:CXT} {k:Nat}  {fd:Ao} {ps:Ai} {sp:Sp}   {E:XK}     {es:An} {t:TA} (F:Y6 X.prog X.w X.K X.mg X.base CX k f fd ps sp) (I:Wu k X.A) (C:Gl X x) (Y:X.mg x=some (.ref f)) (G:PySem.W.keepIn X.K (.ref f)=true) (M:Binds X.K fd ps J) (L:Vals r J) (O:Passes CX X E) (ha:QA X (e::es) t) (q:(x == ("__debug__" : Str))=false:=by decide) (D:(e::es).all ZV=true:=by rfl):QE X (.Call (.Name x p) (e::es) [] m) (Zd8 sp r E t):=⟨Zef F I C Y G M L O ha.out q D⟩
def Zn {X:Cx}      {t:TA} {id:String} {r:A2->Hp->VK->Prop} (F:YA X (.builtin id) r) (D:Gl X x) (J:X.mg x=none) (G:bootBuiltins x=some (.builtin id)) (ha:QA X (e::A) t) (C:x ≠ "__name__" :=by decide) (q:(x == ("__debug__" : Str))=false:=by decide) (I:(e::A).all ZV=true:=by rfl):QE X (.Call (.Name x p) (e::A) [] m) (tCB r t):=⟨Zas F D J G ha.out C q I⟩
def Z4 {X:Cx}      {t:TA} {T:String} {r:A2->Hp->VK->Prop} (F:YA X (.type T) r) (D:Gl X x) (J:X.mg x=none) (G:bootBuiltins x=some (.type T)) (ha:QA X (e::A) t) (C:x ≠ "__name__" :=by decide) (q:(x == ("__debug__" : Str))=false:=by decide) (I:(e::A).all ZV=true:=by rfl):QE X (.Call (.Name x p) (e::A) [] m) (tCB r t):=⟨Zat F D J G ha.out C q I⟩
def XM {X:Cx}   {t:TA} {a:Ax} (C:Gl X "range") (q:X.mg "range" = none) (ha:QA X [a] t) (D:ZV a=true:=by rfl):QI X e (.Call (.Name "range" p) [a] [] m) (Zhv t):=⟨Zau C q ha.out D⟩
def YE {X:Cx}     {t:TA} {id:String} {T:String} {name:Str}   {G:V->List V->Hp->VK->Prop} (I:PlainAttrs T) (D:Slot T name id) (F:typeOf (.builtin id)=pure (.type "method_descriptor")) (L:MtR X id G) (ho:QE X o u) (ha:QA X (e::A) t) (C:attributeBase o name X.env (eval o X.env)=eval o X.env:=by rfl) (q:(p.endLine == m.line)=true:=by rfl) (M:(e::A).all ZV=true:=by rfl) (J:(e::A).length<30:=by decide):QE X (.Call (.Attribute o name p) (e::A) [] m) (tBM X.K T G u t):=⟨pe_bmF I D F L ho.out ha.out C q M J⟩
def WZ {X:Cx}   {name:Str}   {T:String} {id:String} {r:V->List V->Hp->VK->Prop} (G:PlainAttrs T) (D:Slot T name id) (F:typeOf (.builtin id)=pure (.type "method_descriptor")) (I:MtR X id r) (ho:QE X o u) (C:attributeBase o name X.env (eval o X.env)=eval o X.env:=by rfl) (q:(p.endLine == m.line)=true:=by rfl):QE X (.Call (.Attribute o name p) [] [] m) (Zmn X.K T r u):=⟨pe_bm0 G D F I ho.out C q⟩
def Ji{X:Cx}:QO X none Zal:=⟨Zh3 ⟩
def Wa{X:Cx}(h:QE X e u):QO X (some e) (Zlj u):=⟨Zh4 h.out⟩
def X2{X:Cx}{lo:Option Ax}{hi:Option Ax}{tl:TO}{th:TO}{r:V->Option Int->Option Int->Hp->VK->Prop}(C:SlR X r)(q:QE X e u)(F:QO X lo tl)(D:QO X hi th):QE X (.Subscript e (.Slice lo hi none m) p) (tSl r u tl th):=⟨Zec C q.out F.out D.out⟩
def Z3{X:Cx}{a:Ax}{b:Ax}{r:R2}(C:IxR X r)(ha:QE X a u)(q:QE X b I)(hs:Zan b:=by exact fun _ _=>rfl):QE X (.Subscript a b p) (tOp r u I):=⟨pe_ix C ha.out q.out hs⟩
def Wr{X:Cx}(h:QW X e G):QT X e G:=⟨h.out.pt⟩
end L2
set_option maxHeartbeats 4000000
namespace L2
def qt(cells:List (Str×Aw)):List (Str×NameKind)->List (Str×Aw)->List (Str×Aw)
 |[],acc=>acc
 |(n,k)::r,acc=>qt cells r (if(k == NameKind.free)=true then(n,(cells.lookup n).getD 0)::acc else acc)
def zj{env:Env}:∀(names:List (Str×NameKind)) (acc:List (Str×Aw)),(∀y∈names,y.2=.free->∃c,env.cells.lookup y.1=some c)->
  (forIn names acc fun(x:Str×NameKind) (r:List (Str×Aw))=>match x with
   | (name,kind)=>if (kind == NameKind.free)=true then do let a <-cellOf env name;pure (ForInStep.yield ((name,a)::r)) else pure (ForInStep.yield r):Sem (List (Str × Aw)))=pure (qt env.cells names acc)
 |[],acc,_=>rfl
 |(n,k)::r,acc,h=>by
  rw[List.forIn_cons];have F:=fun C=>zj (env:=env) r C fun y I=>h y (Qal _ I)
  by_cases q:(k == NameKind.free)=true
  ·obtain⟨c,G⟩:=h (n,k) Qai (by simpa using q);have D:env.cells.lookup n=some c:=G;have e:cellOf env n=pure c:=by unfold cellOf;rw[D]
   simp only[q,if_true,e];rw[qt,Qa3 q,D];exact F ((n,c)::acc)
  ·rw[qt,Qax q];simp only[q,if_false];exact F acc
def WR{scope:Scope}{env:Env}(h:∀y∈scope.names,y.2=.free->∃c,env.cells.lookup y.1=some c):closureFor scope env=pure (qt env.cells scope.names []):=by
 have e:=zj (env:=env) scope.names [] h;show(do let r <-_;pure r)=_;rw[show(forIn scope.names ([]:List (Str×Aw)) fun(x:Str×NameKind) (r:List (Str×Aw))=>match x with
   | (name,kind)=>if (kind == NameKind.free)=true then do let a <-cellOf env name;pure (ForInStep.yield ((name,a)::r)) else pure (ForInStep.yield r):Sem (List (Str × Aw)))=pure (qt env.cells scope.names []) from e]
 rfl
def Ju{cells:List (Str×Aw)}:∀{names:List (Str×NameKind)} {acc:List (Str×Aw)},(∀y∈names,y.2=.free->∃c,cells.lookup y.1=some c)->(∀x c,acc.lookup x=some c->cells.lookup x=some c)->
  ∀x c,(qt cells names acc).lookup x=some c->cells.lookup x=some c
 |[],acc,_,ha,x,c,h=>ha x c h
 |(n,k)::r,acc,I,ha,x,c,h=>by
  refine Ju (names:=r) (fun y D=>I y (Qal _ D)) (fun y d q=>?_) x c h
  by_cases G:(k == NameKind.free)=true
  ·rw[Qa3 G]at q;obtain⟨e,J⟩:=I (n,k) Qai (by simpa using G);have C:cells.lookup n=some e:=J;rw[C,Qc4]at q;cases D:y == n with
   |true=>
    rw[D]at q;have F:y=n:=by simpa using D
    rw[F,C];exact q
   |false=>
    rw[D]at q;exact ha y d q
  ·grind
theorem yh{cells:List (Str×Aw)}:∀{names:List (Str×NameKind)} {acc:List (Str×Aw)} {x:Str},(∃c,acc.lookup x=some c)->∃c,(qt cells names acc).lookup x=some c
 |[],acc,x,h=>h
 |(n,k)::r,acc,x,h=>by
  rw[qt];refine yh (names:=r) ?_
  by_cases q:(k == NameKind.free)=true
  ·grind
  ·rw[Qax q];exact h
theorem WS{cells:List (Str×Aw)}:∀{names:List (Str×NameKind)} {acc:List (Str×Aw)} {x:Str},names.lookup x=some .free->∃c,(qt cells names acc).lookup x=some c
 |[],acc,x,h=>by cases h
 |(n,k)::r,acc,x,h=>by
  rw[qt];rw[Qc4]at h;cases hx:x == n with
  |true=>
   rw[hx]at h;have q:k=.free:=Option.some.inj h;refine yh (names:=r) ?_;rw[q,Qa3 (show(NameKind.free == NameKind.free)=true by rfl),Qc4,hx];exact⟨_,rfl⟩
  |false=>
   rw[hx]at h;exact WS (names:=r) h
def Gu{scope:Scope}{env:Env}(F:env.scope.kind=.function):∀{names:List (Str×NameKind)} {x:Str},names.lookup x=some .free->env.kindOf x=some .cell->
  (names.map fun(n,k)=>if(k == NameKind.free&&env.scope.kind == .function&&env.kindOf n == some .cell)=true then(n,NameKind.cell)else(n,k)).lookup x=some .cell
 |[],_,h,_=>by cases h
 |(n,k)::r,x,h,D=>by
  rw[Qc4]at h;show List.lookup x ((if(k == NameKind.free&&env.scope.kind == .function&&env.kindOf n == some .cell)=true then(n,NameKind.cell)else(n,k))::_)=_;cases hx:x == n with
  |true=>
   rw[hx]at h;have C:k=.free:=Option.some.inj h;have q:x=n:=by simpa using hx
   rw[C,F,<-q,D];simp[Qc4]
  |false=>
   rw[hx]at h;have I:=Gu (scope:=scope) F (names:=r) h D
   by_cases G:(k == NameKind.free&&env.scope.kind == .function&&env.kindOf n == some .cell)=true
   ·grind
   ·grind
def Jv{env:Env}:∀{names:List (Str×NameKind)} {x:Str},names.lookup x=some .free->env.kindOf x=some .free->
  (names.map fun(n,k)=>if(k == NameKind.free&&env.scope.kind == .function&&env.kindOf n == some .cell)=true then(n,NameKind.cell)else(n,k)).lookup x=some .free
 |[],_,h,_=>by cases h
 |(n,k)::r,x,h,D=>by
  rw[Qc4]at h;show List.lookup x ((if(k == NameKind.free&&env.scope.kind == .function&&env.kindOf n == some .cell)=true then(n,NameKind.cell)else(n,k))::_)=_;cases hx:x == n with
  |true=>
   rw[hx]at h;have q:k=.free:=Option.some.inj h;have C:¬(k == NameKind.free&&env.scope.kind == .function&&env.kindOf n == some .cell)=true:=by
    grind
   rw[Qax C,Qc4,hx,q]
  |false=>
   rw[hx]at h;have F:=Jv (names:=r) h D
   by_cases C:(k == NameKind.free&&env.scope.kind == .function&&env.kindOf n == some .cell)=true
   ·grind
   ·grind
theorem Gv{env:Env}:∀{names:List (Str×NameKind)} {x:Str},(∀y∈names,y.2≠.cell)->
    ((names.map fun(n,k)=>if(k == NameKind.free&&env.scope.kind == .function&&env.kindOf n == some .cell)=true then(n,NameKind.cell)else(n,k)).lookup x=some .cell \/
     (names.map fun(n,k)=>if(k == NameKind.free&&env.scope.kind == .function&&env.kindOf n == some .cell)=true then(n,NameKind.cell)else(n,k)).lookup x=some .free)->names.lookup x=some .free
  |[],_,_,h=>by rcases h with h|h<;>cases h
  |(n,k)::r,x,C,h=>by
    have F:=Gv (env:=env) (names:=r) (x:=x) fun y q=>C y (Qal _ q)
    by_cases D:(k == NameKind.free&&env.scope.kind == .function&&env.kindOf n == some .cell)=true
    · grind
    · grind
def cxC(X:Cx)(N':Ai)(scope:Scope)(C:Aw)(s₂:As)(H₂:Hp)(ex:List Aw):Cx:=
 {X with N:=N',s₀:=s₂,H₀:=H₂,env:=compEnvC scope (qt X.env.cells scope.names []) C X.env,outer:=X.stack,stack:=X.stack,ex:=ex,fn:=fun _=>false,pn:=[],xe:=fun _ _=>False}
def xA(is:Aj)(σ:St)(v:Option V):St:=v::is.map fun i=>(σ[i]?).getD none
def Zll(xs:Ai)(is:Aj)(σ:St):St:=xs.map (fun _=>none)++is.map fun i=>(σ[i]?).getD none
structure ZQ(S scope:Scope)(N:Ai)(x:Str)(ys:Ai)(is:Aj):Prop where
 kind:scope.kind=.function:=by rfl
 cell:∀y∈scope.names,y.2≠.cell:=by decide +kernel
 names:∀y∈scope.names,y.2=.local->scope.names.lookup y.1=some .local:=by decide +kernel
 own:scope.names.lookup x=some .local:=by rfl
 free:∀y∈scope.names,y.2=.free->S.names.lookup y.1=some .cell\/S.names.lookup y.1=some .free:=by decide +kernel
 vis:∀p∈ys.zip is,N[p.2]?=some p.1/\scope.names.lookup p.1=some .free:=by decide +kernel
 len:ys.length=is.length:=by rfl
 nd:(x::ys).Nodup:=by decide +kernel
def PF(X:Cx)(ifs:An)(t:TT):Prop:=
 ∀(pins:Ac) (s:As) (σ:St) (H:Hp) (Q:Bool->Hp->Prop),Inv X pins σ H s->t σ H Q->
  A4 X (forIn ifs true fun c r=>if r=true then do let ok <-isTrue c X.env (eval c X.env);pure (ForInStep.yield ok)else pure (ForInStep.yield r)) (TP X pins σ Q) X.xe s
structure QF(X:Cx)(ifs:An)(t:TT):Prop where
 out:PF X ifs t
def Zgm:TT:=fun _ H Q=>Q true H
def Xh{X:Cx}:QF X [] Zgm:=⟨fun _ _ _ H _ I h=>wpAny_tests_nil ⟨H,I,h⟩⟩
def yi{X:Cx}{c:Ax}(h:QT X c G):QF X [c] G:=⟨fun pins s σ H Q I hw=>wpAny_tests_one (h.out pins s σ H Q I hw)⟩
section
variable {X:Cx}{S scope:Scope}{N:Ai}{x:Str}{ys:Ai}{is:Aj}{pins:Ac}{σ:St}{H₂:Hp}{s₂:As}{fp:List Aw}
theorem ZQ.cellOf'(K:ZQ S scope N x ys is)(q:X.env.scope=S)(ok:X.Ok):∀y∈scope.names,y.2=.free->∃c,X.env.cells.lookup y.1=some c:=fun y C h=>
 ok.has y.1 (by show X.env.scope.names.lookup y.1=_\/X.env.scope.names.lookup y.1=_;rw[q];exact K.free y C h)
theorem ZQ.cl(K:ZQ S scope N x ys is)(q:X.env.scope=S)(ok:X.Ok):∀y c,(qt X.env.cells scope.names []).lookup y=some c->X.env.cells.lookup y=some c:=
 Ju (K.cellOf' q ok) fun _ _ z=>by cases z
theorem we{names:List (Str×NameKind)}{y:Str}{k:NameKind}(h:names.lookup y=some k):(y,k)∈names:=by
 induction names with
 |nil=>cases h
 |cons p r q=>
  obtain⟨n,C⟩:=p;rw[Qc4]at h;cases hx:y == n with
  |true=>
   rw[hx]at h;have e1:y=n:=by simpa using hx
   have e2:C=k:=Option.some.inj h;rw[e1,e2];exact Qai
  |false=>
   rw[hx]at h;exact Qal _ (q h)
theorem Zax{ns:Ai}(K:ZQ S scope N x ys is)(F:X.env.scope=S)(I:Inv X pins σ H₂ s₂)(G:s₂.heap.objs.size<=a)(q:∀b∈fp,vy X pins H₂ b)(D:∀b∈fp,b<s₂.heap.objs.size):(cxC X ns scope a s₂ H₂ fp).Ok where
 mod:=I.ok.mod
 kind:=K.kind
 glob:=I.ok.glob
 blt:=I.ok.blt
 above:=G
 inj:=fun y z c h1 h2=>I.ok.inj y z c (K.cl F I.ok y c h1) (K.cl F I.ok z c h2)
 has:=fun y J=>WS (Gv (env:=X.env) K.cell J)
 cab:=fun y c h=>by cases h
 hd:=I.ok.hd
 frames:=I.ok.frames
 stk:=.inl rfl
 exf:=fun b C=>⟨fun e=>absurd (Qbm (D b C) (Qbc G (Qhl (Eq.symm e)))) (Qce _),fun y c h=>(q b C).2.2.2.2.1 y c (K.cl F I.ok y c h)⟩
 bs:=I.bs
 bsz:=Qbc I.ok.bsz I.sz
 noex:=fun b o e C=>by
  rcases(q b C).2.2.2.1 with z|z
  ·exact I.ok.noex b o e z
  ·exact absurd (Qbm (Qaq e) (Qbc I.ok.bsz z)) (Qce _)
 exfs:=fun b C z=>by
  rcases Qao.mp (I.stkSub b z)with e|e
  ·exact(q b C).2.1 e
  ·exact(q b C).2.2.1 e
 funs:=I.stack
 frf:=I.stkFree
def Zid(xs:Ai)(K:ZQ S scope N x ys is)(J:X.env.scope=S)(hN:X.N=N)(hk:S.kind=.function)(I:Inv X pins σ H₂ s₂){q:Heap}{tk:Nat}(hC:s₂.heap.objs.size<=a)(hD:s₂.heap.objs.size<=f)(Y:f≠a)
  (hfp:∀b∈fp,vy X pins H₂ b) (hlt:∀b∈fp,b<s₂.heap.objs.size) (C:∀b o,s₂.heap.get? b=some o->q.get? b=some o) (hn:q.Ns a fun _=>none) (L:q.get? f=some Z) (hod:∀v,Z.data≠.cell v):
  Inv (cxC X (xs++ys) scope a s₂ H₂ fp) [(f,Z)] (Zll xs is σ) H₂ {s₂ with heap:=q,toks:=tk}:=by
 have ok:=Zax (ns:=xs++ys) K J I hC hfp hlt;refine⟨ok,rfl,I.bare,Un.kept C,⟨_,hn,fun i y v h1 h2 h3=>?_⟩,fun y c h=>?_,I.hok.fresh hC,fun y c h=>I.freeC y c (K.cl J I.ok y c h),fun p hp=>?_,I.hok.kept C,?_⟩
 ·unfold Zll at h2
  by_cases hi:i<xs.length
  ·grind
  ·have D:(xs++ys)[i]?=some y:=h1;rw[Qaz (Qhh hi)]at D;rw[Qaz (by rw[Qab];exact Qhh hi),Qab]at h2;generalize i-xs.length=i at D h2;have F:(is.map fun i=>(σ[i]?).getD none)[i]?=some (some v):=h2;rw[Qah]at F;cases hj:is[i]? with
   |none=>rw[hj]at F;cases F
   |some j=>
    have hσ:σ[j]?=some (some v):=by
     grind
    have hz:(y,j)∈ys.zip is:=by
     obtain⟨a1,e1⟩:=Qag.mp D;obtain⟨a2,e2⟩:=Qag.mp hj;rw[<-e1,<-e2,<-Qhi (h:=by rw[Qet];lia)];exact Qbu _
    obtain⟨v1,O⟩:=K.vis _ hz;have G:X.env.kindOf y=some .cell\/X.env.kindOf y=some .free:=by show X.env.scope.names.lookup y=_\/X.env.scope.names.lookup y=_;rw[J];exact K.free _ (we O) rfl
    obtain⟨m,hm,hl⟩:=I.loc;obtain⟨u,r,l⟩:=hl j y v (by rw[hN];exact v1) hσ (.inr G);refine⟨u,r,.inr ?_⟩;rcases l with⟨l1,_⟩|⟨_,c,l2,l3⟩
    ·rcases G with G|G<;>rw[G]at l1<;>cases l1
    ·obtain⟨c',M⟩:=WS (cells:=X.env.cells) (acc:=[]) O;have e:c'=c:=by have:=K.cl J I.ok y c' M;rw[l2]at this;exact(Option.some.inj this).symm
     subst e;refine⟨G.imp (Gu (scope:=scope) (by rw[J];exact hk) O) (Jv O),c',M,?_⟩;obtain⟨o,ho,hd⟩:=l3;exact⟨o,C _ _ ho,hd⟩
 ·obtain⟨v,o,ho,hd⟩:=I.cell y c (K.cl J I.ok y c h);exact⟨v,o,C _ _ ho,hd⟩
 ·have e:p=(f,Z):=by simpa[cxC]using hp
  subst e;refine⟨L,I.hok.fresh hD,Y,fun z=>?_,hod⟩;obtain⟨_,o,ho,_⟩:=ok.funs.mem z;exact absurd (Qbm (Qaq ho) hD) (Qce _)
 ·show(Zll xs is σ).length=(xs++ys).length;unfold Zll;rw[Qaj,Qab,Qab,Qaj,K.len]
def Zie(I:Inv X pins σ H₂ s₂){N':Ai}{M:St}{H':Hp}{pl:Ac}(G:Inv (cxC X N' scope a s₂ H₂ fp) pl M H' s)(O:s₂.heap.objs.size<=f)(F:H' f=none)
  (C:∀b∈fp,vy X pins H₂ b) {zs:A2}   (Y:zs.length<=sizeLine) (r:Vals zs J) (Z:s.heap.get? f=some {cls:=.type "list",data:=.seq J.toArray n}):
  Inv X pins σ (upd H' f (.lst zs)) s:=by
 have b:Un (frs X.stack) fp H₂ H' s₂.heap s.heap:=G.base;have ne:∀c o,s₂.heap.get? c=some o->c≠f:=fun c o e z=>absurd (Qbm (Qaq e) (Qbc O (Qhl (Eq.symm z)))) (Qce _);have L:H₂ f=none:=I.hok.fresh O;refine I.call' G.os ⟨b.keep,b.slot,fun c o e n hx=>?_,b.there,fun c xs e=>?_,fun c o u e=>?_,fun c ps e=>?_⟩ (fun c u e=>?_) G.bare fun c D=>⟨(C c D).2.2.2.1,(C c D).2.1,(C c D).2.2.2.2.1,(C c D).2.2.2.2.2⟩
 ·rw[Zk (ne c o e)];exact b.free c o e n hx
 ·rw[Zk (Zm e L)];exact b.tups c xs e
 ·rw[Zk (Zm e L)];exact b.frzs c o u e
 ·rw[Zk (Zm e L)];exact b.tbls c ps e
 ·by_cases D:c=f
  ·subst D;rw[Za]at e;cases e;exact⟨Y,J,n,r,Z⟩
  ·rw[Zk D]at e;exact(G.hok c u e).stay (fun _ _ _ q=>q) (fun d q=>by rw[Zk (Zm q F)];exact q) fun d xs q=>by rw[Zk (Zm q F)];exact q
end
section
variable {prog:Aq}{w:Au}{A:Ar}{R:Result->Shared->Prop}{s:As}
def Zay{q iter:Ax}{ifs:An}{scope:Scope}{it acc:Av}{env:Env}(I:Nat->Shared->Prop)
  (turn:∀n s,I n s->A3 prog w A (pyNext it) (fun r C=>match r with
   |none=>R (.ok .next) C
   |some v=>A3 prog w A (letOwnedTupleGo q it v) (fun _ F=>A3 prog w A (assign q env v) (fun _ s₂=>
     A3 prog w A (forIn ifs true fun c r=>if r=true then do let ok <-isTrue c env (eval c env);pure (ForInStep.yield ok)else pure (ForInStep.yield r)) (fun ok D=>
      if ok=true then A3 prog w A (eval o env) (fun x L=>
       A3 prog w A (call (.builtin "list.append") [acc,x]) (fun _ J=>∃m,m<n/\I m J) (fun _ _=>False) L) (fun _ _=>False) D
      else∃m,m<n/\I m D) (fun _ _=>False) s₂) (fun _ _=>False) F) (fun _ _=>False) C) (fun _ _=>False) s)
  (n:Nat) (h:I n s):
  codeAny (model prog w) A (.compLoop (.ListComp o [⟨q,iter,ifs,0⟩] scope p) 0 it acc env) R s:=by
 refine codeAny_loop rfl I (fun n s hI=>?_) n h;refine wpAny_noted ?_;have Y:∀{E:Ab} (e:Av) (s':As),False->E e s':=fun _ _ z=>z.elim;refine Qaa (wpAny_standAt (Qaa (Qdi (turn n s hI) (fun r C G=>?_) Y)));cases r with
 |none=>exact Qae G
 |some v=>
  refine Qaa (Qdi G (fun _ F O=>?_) Y);refine Qaa (Qdi O (fun _ s₂ h₂=>Qaa (Qdi h₂ (fun ok D M=>?_) Y)) Y);cases ok with
  |false=>exact Qae ⟨rfl,M⟩
  |true=>
   exact Qaa (Qaa (Qdi M (fun x L h₄=>Qaa (Qdi h₄ (fun _ J Z=>Qae (Qae ⟨rfl,Z⟩)) Y)) Y))
end
def yj(g:TG)(Sg:St->Prop)(tc:TT)(te:TE)(Q:VK)(J:It)(H1:Hp):Prop:=∃W:Nat->Nat->List V->Hp->Prop,(∃m,W 0 m [] H1)/\∀i m zs H,W i m zs H->
 (J.stop i H/\zs.length<=sizeLine/\∀p,H p=none->Q (.ref p) (upd H p (.lst zs))) \/
 (J.go i H/\zs.length<=sizeLine/\∀x H',J.yld i H x H'->∃q,Sg q/\(∀C,Sg C->g x C H' fun F H2=>F=q/\H2=H')/\tc q H' fun b H2=>if b=true then te q H2 fun y G=>∃D,D<m/\W (i+1) D (zs++[y]) G else∃D,D<m/\W (i+1) D zs H2)
structure Zaz(X:Cx)(S scope:Scope)(N:Ai)(x:Str)(ys:Ai)(is:Aj)(xs:Ai)(tg:Ax)(g:TG)(Sg:St->St->Prop):Prop where
 sc:ZQ S scope N x ys is
 hX:X.env.scope=S
 hN:X.N=N
 hk:S.kind=.function
 hc:X.calm=true
 pg:∀C s₂ H₂ fp,PG (cxC X (xs++ys) scope C s₂ H₂ fp) tg g
 s0:∀σ,Sg σ (Zll xs is σ)
def G5(is:Aj)(tc:TT)(te:TE)(σ:St)(Q:VK)(J:It)(H1:Hp):Prop:=∃W:Nat->Nat->List V->Hp->Prop,(∃m,W 0 m [] H1)/\∀i m zs H,W i m zs H->
 (J.stop i H/\zs.length<=sizeLine/\∀p,H p=none->Q (.ref p) (upd H p (.lst zs))) \/
 (J.go i H/\zs.length<=sizeLine/\∀x H',J.yld i H x H'->tc (xA is σ (some x)) H' fun b H2=>if b=true then te (xA is σ (some x)) H2 fun y C=>∃q,q<m/\W (i+1) q (zs++[y]) C else∃q,q<m/\W (i+1) q zs H2)
def Zlm(wi:TI)(is:Aj)(tc:TT)(te:TE):TE:=fun σ H Q=>wi σ H (G5 is tc te σ Q)
section
variable {X:Cx}{S scope:Scope}{N:Ai}{x:Str}{ys:Ai}{is:Aj}{pins:Ac}{σ:St}{H₂:Hp}{s₂:As}{fp:List Aw}{elt iter:Ax}{px pos:Pos}{ifs:An}{tc:TT}{te:TE}{xs:Ai}{tg:Ax}{g:TG}{Sg:St->St->Prop}{wi:TI}{CW:St->VK->It->Hp->Prop}
def zk{J:It}{it:Aw}{tn:Nat->Heap->Prop}{Q:VK}{RR:Av->Addr->Result->Shared->Prop}{E:Ab}(L:Zaz X S scope N x ys is xs tg g Sg)
  (hf:∀C s₂ H₂ ex,QF (cxC X (xs++ys) scope C s₂ H₂ ex) ifs tc) (he:∀C s₂ H₂ ex,QE (cxC X (xs++ys) scope C s₂ H₂ ex) elt te)
  (I:Inv X pins σ H₂ s₂) (T:Turn X.prog X.w X.K tg J fp it tn) (st:tn 0 s₂.heap) (hfp:∀b∈fp,vy X pins H₂ b)
  (hw:yj g (Sg σ) tc te Q J H₂)
  (fin:∀D C s' H' m',Inv X pins σ H' s'->vy X pins H' C->s'.heap.Ns C m'->Q (.ref D) H'->RR (.ref D) C (.ok .next) s'):
  A4 X (newList []) (fun acc O=>A4 X (newFunctionEnv scope X.env.globals (qt X.env.cells scope.names []) [] X.env.qual none .none (some X.env)) (fun cenv s₄=>
   codeAny (model X.prog X.w) X.A (.compStart (.ListComp elt [⟨tg,iter,ifs,0⟩] scope pos) 0 (.ref it) acc {cenv with scope:=relabel scope X.env}) (RR acc cenv.locals) s₄) E O) E s₂:=by
 obtain⟨W,⟨m0,w0⟩,turn⟩:=hw;have K:=L.sc;refine Qbe (wpAny_newFunctionEnv K.cell (by intro y hy;simp at hy) (fun Z Y M=>?_) K.kind);generalize hH2:s₂.heap.push {cls:=.type "list",dict:=none,data:=.seq ([]:Ag).toArray}=H2 at Y M ⊢;have hCs:H2.objs.size=s₂.heap.objs.size+1:=by rw[<-hH2,Qb2]
 have hDC:s₂.heap.objs.size≠H2.objs.size:=by rw[hCs];exact Qbg (Qem _)
 have hC:s₂.heap.objs.size<=H2.objs.size:=by rw[hCs];exact Qeu _
 have hlt:∀b∈fp,b<s₂.heap.objs.size:=fun b G=>by obtain⟨o,e,_⟩:=T.obj 0 _ st b G;exact Qaq e
 have old:∀b o,s₂.heap.get? b=some o->Z.get? b=some o:=fun b o e=>M.extBut b o (by rw[hCs];exact Qbg (Qdx (Qaq e))) (Qad _ (hH2 ▸ Qad _ e));have hacc:Z.get? s₂.heap.objs.size=some {cls:=.type "list",data:=.seq ([]:Ag).toArray 0}:=M.extBut _ _ hDC (Qad _ (hH2 ▸ Qam _ rfl));have st₁:tn 0 Z:=T.keep _ _ _ st fun b _ o e=>old b o e;have fpC:∀{H':Hp} {pl:Ac},(∀p∈pl,∀b∈fp,p.1≠b)->(∀b∈fp,H' b=none)->∀b∈fp,vy (cxC X (xs++ys) scope H2.objs.size s₂ H₂ fp) pl H' b:=fun{H' pl} hpl hn b G=>by
  have ok:=Zax (ns:=xs++ys) K L.hX I hC hfp hlt;exact⟨hn b G,(ok.exf b G).1,ok.exfs b G,.inl G,(ok.exf b G).2,fun p hp=>hpl p hp b G⟩
 have Dfp:∀(o:Obj),∀p∈[(s₂.heap.objs.size,o)],∀b∈fp,p.1≠b:=fun o p hp b G e=>by
  grind
 have loop:∀O:As,O={s₂ with heap:=Z,toks:=s₂.toks+([]:List (Str×Av)).length}->
   codeAny (model X.prog X.w) X.A (.compLoop (.ListComp elt [⟨tg,iter,ifs,0⟩] scope pos) 0 (.ref it) (.ref s₂.heap.objs.size) (compEnvC scope (qt X.env.cells scope.names []) H2.objs.size X.env))
    (RR (.ref s₂.heap.objs.size) H2.objs.size) O:=by
  rintro O rfl;have I0:=Zid xs K L.hX L.hN L.hk I (tk:=s₂.toks+([]:List (Str×Av)).length) hC (Qak _) hDC hfp hlt old Y hacc (fun v z=>by cases z);refine Zay (fun n s'=>∃(i:Nat) (σ1:St) (zs:A2) (F:Ag) (k:Nat) (H':Hp),Inv (cxC X (xs++ys) scope H2.objs.size s₂ H₂ fp) [(s₂.heap.objs.size,{cls:=.type "list",data:=.seq F.toArray k})] σ1 H' s'/\Sg σ σ1 /\
   Vals zs F/\tn i s'.heap/\(∀b∈fp,H' b=none)/\W i n zs H') ?_ m0 ⟨0,_,[],[],0,H₂,I0,L.s0 σ,.nil,st₁,fun b G=>(hfp b G).1,w0⟩
  rintro n s3 ⟨i,σ1,zs,F,k,H3,I3,sg3,rv,st3,fr3,w3⟩;rcases turn i n zs H3 w3 with⟨stop,hz,q⟩|⟨go,hz,step⟩
  ·refine thn (T.done (cxC X (xs++ys) scope H2.objs.size s₂ H₂ fp) rfl rfl rfl L.hc i _ s3 _ H3 _ I3 (fpC (Dfp _) fr3) st3 stop) fun r s4 ⟨hr,I4⟩=>?_
   subst hr;have hD4:=I4.pin _ (Qbn _ (Qar.mpr rfl));have I5:=Zie I I4 (Qak _) hD4.2.1 hfp hz rv hD4.1;obtain⟨m',hm',_⟩:=I4.loc;refine fin _ _ s4 _ m' I5 ?_ hm' (q _ hD4.2.1);refine I.fpOk hC ?_;rw[Zk (Qd5 hDC)];exact I4.free
  ·refine thn (T.item (cxC X (xs++ys) scope H2.objs.size s₂ H₂ fp) rfl rfl rfl L.hc i _ s3 _ H3 _ I3 (fpC (Dfp _) fr3) st3 go) fun r s4 ⟨u,hr,h4⟩=>?_
   subst hr;refine thn h4 fun _ s5 ⟨xv,H5,I5,r5,y5,st5,fr5⟩=>?_;have I5':=I5.pinned (fpC (Dfp _) fr5) (T.obj _ _ st5);obtain⟨σx,sgx,gx,stp⟩:=step xv H5 y5;refine thn (L.pg _ _ _ _ _ s5 _ H5 xv u (fun σ2 H2=>σ2=σx/\H2=H5) I5' r5 (gx _ sg3)) fun _ s6 ⟨σ6,H6,I6,e6,e6'⟩=>?_;subst e6;subst e6';have back:∀{s7:As} {H7:Hp},Inv (cxC X (xs++ys) scope H2.objs.size s₂ H₂ fp) ([(s₂.heap.objs.size,{cls:=.type "list",data:=.seq F.toArray k})]++jY fp s5.heap) (σ6) H7 s7->
     tn (i+1) s7.heap/\(∀b∈fp,H7 b=none)/\s7.heap.get? s₂.heap.objs.size=some {cls:=.type "list",data:=.seq F.toArray k}/\H7 s₂.heap.objs.size=none:=fun{s7 H7} I7=>by
    refine⟨T.keep _ _ _ st5 fun b G o e=>(I7.pin (b,o) (Qbn _ (Qbn _ (WN G e)))).1,fun b G=>?_,?_,?_⟩
    ·obtain⟨o,e,d⟩:=T.obj _ _ st5 b G;exact(I7.pin (b,o) (Qbn _ (Qbn _ (WN G e)))).2.1
    ·exact(I7.pin (s₂.heap.objs.size,{cls:=.type "list",data:=.seq F.toArray k}) (Qbn _ (Qd6 _ (Qar.mpr rfl)))).1
    ·exact(I7.pin (s₂.heap.objs.size,{cls:=.type "list",data:=.seq F.toArray k}) (Qbn _ (Qd6 _ (Qar.mpr rfl)))).2.1
   refine thn ((hf _ _ _ _).out _ s6 _ H6 _ I6 stp) fun b s7 ⟨H7,I7,q7⟩=>?_;cases b with
   |false=>
    have q7':∃m',m'<n/\W (i+1) m' zs H7:=by simpa using q7
    obtain⟨m',hm',w7⟩:=q7';obtain⟨b1,b2,b3,b4⟩:=back I7;exact⟨m',hm',i+1,_,zs,F,k,H7,I7.unpinned,sgx,rv,b1,b2,w7⟩
   |true=>
    have q7':=q7;refine thn ((he _ _ _ _).out _ s7 _ H7 _ I7 q7') fun yv s8 ⟨y,H8,I8,r8,m',hm',w8⟩=>?_;obtain⟨b1,b2,b3,b4⟩:=back I8;refine append_at b3 (fun h9 sb9 e9=>?_) (by rw[Qat,<-rv.length];exact hz);have ok:=Zax (ns:=xs++ys) K L.hX I hC hfp hlt;have I8':Inv (cxC X (xs++ys) scope H2.objs.size s₂ H₂ fp) [] (σ6) H8 s8:=I8.pins_of fun p hp=>by cases hp
    have I9:Inv (cxC X (xs++ys) scope H2.objs.size s₂ H₂ fp) [] (σ6) H8 {s8 with heap:=h9}:=I8'.turned (t':=s8.toks) (it:=s₂.heap.objs.size) (fun b o G e=>(sb9.2 b G).trans e) b4 hDC (.inr (Qak _))
     (fun y c h z=>by
      obtain⟨v,o,ho,_⟩:=I.cell y c (K.cl L.hX I.ok y c h);have:=Qaq ho;rw[z]at this;exact Qce _ this) (fun p hp=>by cases hp)
    refine⟨m',hm',i+1,_,zs++[y],F++[yv],k+1,H8,?_,sgx,rv.append (.cons r8 .nil),T.keep _ _ _ b1 fun b G o e=>(sb9.2 b fun z=>absurd (hlt b G) (by rw[z];exact Qce _)).trans e,b2,w8⟩;refine I9.pins_of fun p hp=>?_;have e1:p=(s₂.heap.objs.size,{cls:=.type "list",data:=.seq (F++[yv]).toArray (k+1)}):=by simpa using hp
    subst e1;refine⟨by rw[e9,List.push_toArray],b4,hDC,fun z=>?_,fun v z=>by cases z⟩;obtain⟨_,o,ho,_⟩:=ok.funs.mem z;exact absurd (Qaq ho) (Qce _)
 exact codeAny_compStart_list (loop _ rfl) (T.self _ 0 _ _ _ st₁ (loop _ rfl))
end
section
variable {X:Cx}{S scope:Scope}{N:Ai}{x:Str}{ys:Ai}{is:Aj}{elt iter:Ax}{px pos:Pos}{ifs:An}{wi:TI}{tc:TT}{te:TE}{xs:Ai}{tg:Ax}{g:TG}{Sg:St->St->Prop}{CW:St->VK->It->Hp->Prop}
def wg(L:Zaz X S scope N x ys is xs tg g Sg)(Z:∀σ Q J H,CW σ Q J H->yj g (Sg σ) tc te Q J H)(hi:QI X tg iter wi)(hf:∀C s₂ H₂ ex,QF (cxC X (xs++ys) scope C s₂ H₂ ex) ifs tc)(he:∀C s₂ H₂ ex,QE (cxC X (xs++ys) scope C s₂ H₂ ex) elt te)
  (hs:∀v,foldedSetIterable iter X.env v=pure v:=by intro _;rfl):
  QE X (.ListComp elt [⟨tg,iter,ifs,0⟩] scope pos) (fun σ H Q=>wi σ H (CW σ Q)):=by
 refine⟨fun pins s σ H Q I h=>?_⟩;refine wpAny_comprehension_free (use:=none) rfl hs (WR (L.sc.cellOf' L.hX I.ok)) L.sc.kind L.sc.names (thn (hi.out pins s σ H _ I h) fun v s1 h1=>thn h1 fun itv s2 h2=>?_);obtain⟨it,fp,tn,J,H2,rfl,O,T,M,f2,w2⟩:=h2;refine zk (RR:=fun acc C=>compPost (model X.prog X.w) X.A X.xe none (EP X pins σ Q) acc C) L hf he O T M f2 (Z _ _ _ _ w2) ?_;intro D C s' H' m' I' fC G q;obtain⟨f0,f1,f3,f4,Y,f6⟩:=fC;exact⟨m',G,fun h' F=>⟨.ref D,H',I'.turned (t':=s'.toks) (fun b o hb e=>(F.2 b hb).trans e) f0 f1 f4 Y f6,rfl,q⟩⟩
def Zeh{y:Str}{spos:Pos}(hNd:X.N.Nodup)(hy:X.N[i]?=some y)(hl:X.env.scope.names.lookup y=some .local)(L:Zaz X S scope N x ys is xs tg g Sg)(cv:∀σ Q J H,CW σ Q J H->yj g (Sg σ) tc te Q J H)(hi:QI X tg iter wi)
  (hf:∀C s₂ H₂ ex,QF (cxC X (xs++ys) scope C s₂ H₂ ex) ifs tc) (he:∀C s₂ H₂ ex,QE (cxC X (xs++ys) scope C s₂ H₂ ex) elt te)
  (hsw:swapsWith (.ListComp elt [⟨tg,iter,ifs,0⟩] scope pos) (some (.Name y m)) spos.line X.env=pure true:=by rfl)
  (hs:∀v,foldedSetIterable iter X.env v=pure v:=by intro _;rfl):
  QS X (.Assign [.Name y m] (.ListComp elt [⟨tg,iter,ifs,0⟩] scope pos) spos) (Zht (fun σ H Q=>wi σ H (CW σ Q)) (Wv i)):=by
 refine⟨fun pins s σ H D I h=>?_⟩;rw[exec_Assign_Name_used _ _ _ _ hsw];refine Qaa (wpAny_standAt (Qaa ?_));refine Qaa (thn (wpAny_comprehension_free (use:=some (assign (.Name y m) X.env)) (Q:=fun _ s'=>SP X pins D .next s') rfl hs (WR (L.sc.cellOf' L.hX I.ok)) L.sc.kind L.sc.names
  (thn (hi.out pins s σ H _ I h) fun v s1 h1=>thn h1 fun itv s2 h2=>?_)) fun _ s' hq=>Qae (Qae hq))
 obtain⟨it,fp,tn,J,H2,rfl,I2,T,st2,f2,w2⟩:=h2;refine zk (RR:=fun acc C=>compPost (model X.prog X.w) X.A X.xe (some (assign (.Name y m) X.env)) (fun _ s'=>SP X pins D .next s') acc C) (Q:=fun v H=>D.nx (σ.set i (some v)) H) L hf he I2 T st2 f2 (cv _ _ _ _ w2) ?_;intro Dl C s' H' m' I' fC G q;obtain⟨f0,f1,f3,f4,f5,f6⟩:=fC;obtain⟨oC,es,ep,hoC,M,Z⟩:=G;have Ip:Inv X (pins++[(C,oC)]) σ H' s':=I'.pins_of fun p hp=>(Qbd.mp hp).elim (fun z=>I'.pin p (Qbn _ z)) fun z=>by
  grind
 refine wpAny_assign_Name (WM Ip hNd hy (.inl hl) (v:=.ref Dl) rfl (fun s'' F=>?_) (.inr hl));have Y:=(F.pin (C,oC) (Qbn _ (Qbn _ (Qar.mpr rfl)))).1;refine⟨m',⟨oC,es,ep,Y,M,Z⟩,fun h' O=>⟨_,H',F.unpinned.turned (t':=s''.toks) (fun b o hb e=>(O.2 b hb).trans e) f0 f1 f4 f5 f6,q⟩⟩
theorem Zgn(K:ZQ S scope N x ys is)(G:X.env.scope=S)(C:X.N=N)(F:S.kind=.function)(D:X.calm=true):Zaz X S scope N x ys is [x] (.Name x px) (Wv 0) (fun σ q=>∃v,q=xA is σ v):=
 ⟨K,G,C,F,D,fun _ _ _ _=>zU K.nd rfl (.inl (Qdu K.own)) (.inr (Qdu K.own)),fun _=>⟨none,rfl⟩⟩
theorem Zln:∀σ Q J H,G5 is tc te σ Q J H->yj (Wv 0) (fun q=>∃v,q=xA is σ v) tc te Q J H:=fun σ Q J H ⟨W,C,t⟩=>
 ⟨W,C,fun i m zs H w=>(t i m zs H w).imp_right fun z=>⟨z.1,z.2.1,fun x H' y=>⟨xA is σ (some x),⟨_,rfl⟩,fun q ⟨v,e⟩=>e ▸ ⟨rfl,rfl⟩,z.2.2 x H' y⟩⟩⟩
def Y4(K:ZQ S scope N x ys is)(hi:QI X (.Name x px) iter wi)(J:∀C s₂ H₂ ex,QF (cxC X (x::ys) scope C s₂ H₂ ex) ifs tc)(F:∀C s₂ H₂ ex,QE (cxC X (x::ys) scope C s₂ H₂ ex) elt te)
  (D:X.calm=true:=by rfl) (I:X.env.scope=S:=by rfl) (q:X.N=N:=by rfl) (G:S.kind=.function:=by rfl) (hs:∀v,foldedSetIterable iter X.env v=pure v:=by intro _;rfl):
  QE X (.ListComp elt [⟨.Name x px,iter,ifs,0⟩] scope pos) (Zlm wi is tc te):=
 wg (Zgn K I q G D) Zln hi J F hs
def ja{y:Str}(q:X.N.Nodup)(L:X.N[i]?=some y)(J:X.env.scope.names.lookup y=some .local)(K:ZQ S scope N x ys is)(hi:QI X (.Name x px) iter wi)
  (Y:∀C s₂ H₂ ex,QF (cxC X (x::ys) scope C s₂ H₂ ex) ifs tc) (G:∀C s₂ H₂ ex,QE (cxC X (x::ys) scope C s₂ H₂ ex) elt te)
  (D:swapsWith (.ListComp elt [⟨.Name x px,iter,ifs,0⟩] scope pos) (some (.Name y p)) m.line X.env=pure true:=by rfl)
  (F:X.calm=true:=by rfl) (O:X.env.scope=S:=by rfl) (M:X.N=N:=by rfl) (I:S.kind=.function:=by rfl) (hs:∀v,foldedSetIterable iter X.env v=pure v:=by intro _;rfl):
  QS X (.Assign [.Name y p] (.ListComp elt [⟨.Name x px,iter,ifs,0⟩] scope pos) m) (Zht (Zlm wi is tc te) (Wv i)):=
 Zeh q L J (Zgn K O M I F) Zln hi Y G D hs
end
def gM{lo:Int}{is:Aj}{Q:VK}(D:Nat->List V->Hp->Prop)(L:D 0 [] H)(F:∀i zs H,D i zs H->zs.length<=sizeLine)
  (hs:∀i zs H (R:A2->Hp->Prop),(∀zs H,D (i+1) zs H->R zs H)->i<n->D i zs H->G (xA is c (some (.int (lo+i)))) H fun b H2=>if b=true then u (xA is c (some (.int (lo+i)))) H2 fun y M=>R (zs++[y]) M else R zs H2)
  (J:∀zs H,D n zs H->∀p,H p=none->Q (.ref p) (upd H p (.lst zs))):
  G5 is G u c Q (Itr lo n) H:=by
 refine⟨fun i m zs H=>m=n-i/\i<=n/\D i zs H,⟨n,by simp,Qbl _,L⟩,?_⟩;rintro i m zs H ⟨rfl,hi,p⟩
 by_cases C:i<n
 ·refine .inr ⟨C,F i zs H p,fun x H' y=>?_⟩;obtain⟨e,y⟩:=y;subst e y;exact hs i zs _ (fun zs H=>∃I,I<n-i/\I=n-(i+1)/\i+1<=n/\D (i+1) zs H) (fun zs H q=>⟨n-(i+1),by lia,rfl,C,q⟩) C p
 ·have e:i=n:=by lia
  subst e;exact .inl ⟨Qak _,F _ _ _ p,J zs H p⟩
def X3{xs:A2}{is:Aj}{Q:VK}(C:Nat->List V->Hp->Prop)(M:C 0 [] H)(I:∀i zs H,C i zs H->zs.length<=sizeLine)(F:∀i zs H,C i zs H->SqT K H a xs)
  (hs:∀i x zs H (R:A2->Hp->Prop),(∀zs H,C (i+1) zs H->R zs H)->xs[i]?=some x->C i zs H->G (xA is c (some x)) H fun b H2=>if b=true then u (xA is c (some x)) H2 fun y O=>R (zs++[y]) O else R zs H2)
  (L:∀zs H,C xs.length zs H->∀p,H p=none->Q (.ref p) (upd H p (.lst zs))):
  G5 is G u c Q (Itt K a) H:=by
 refine⟨fun i m zs H=>m=xs.length-i/\i<=xs.length/\C i zs H,⟨xs.length,by simp,Qbl _,M⟩,?_⟩;rintro i m zs H ⟨rfl,hi,p⟩
 by_cases D:i<xs.length
 ·refine .inr ⟨⟨xs,xs[i],F i zs H p,Qac D⟩,I i zs H p,fun x H' y=>?_⟩;obtain⟨e,y⟩:=y;subst e;exact hs i x zs _ (fun zs H=>∃J,J<xs.length-i/\J=xs.length-(i+1)/\i+1<=xs.length/\C (i+1) zs H) (fun zs H q=>⟨xs.length-(i+1),by lia,rfl,D,q⟩) (y xs (F i zs _ p)) p
 ·have e:i=xs.length:=by lia
  exact .inl ⟨⟨xs,F i zs H p,by lia⟩,I _ _ _ p,by rw[e]at p;exact L zs H p⟩
end L2
namespace HT
section
variable {prog:Aq}{w:Au}{A:Ar}{E:Ab}{s:As}
def adjust_rev(n:Nat):Builtin.Slice.sliceAdjust none none (-1) (n:Int)=((n:Int)-1,-1):=rfl
def gN(n:Nat):Builtin.Slice.slicePlaces ((n:Int)-1) (-1) (-1)=n:=by
 unfold Builtin.Slice.slicePlaces;have h1:¬((-1:Int)>0):=by lia
 have e:(- -1:Int)=1:=by decide
 split<;>lia
theorem wj{α β:Type}{f g:α->Option β}:∀{l:List α},(∀x∈l,f x=g x)->l.filterMap f=l.filterMap g
 |[],_=>rfl
 |x::r,h=>by
  rw[Qeh,Qeh,h x Qai,wj fun y q=>h y (Qal _ q)]
def Zei(xs:Ah):((List.range xs.size).filterMap fun(m:Nat)=>xs[((xs.size:Int)-1+(m:Int) * -1).toNat]?).toArray=xs.toList.reverse.toArray:=by
 congr 1;have e:((List.range xs.size).filterMap fun(m:Nat)=>xs[((xs.size:Int)-1+(m:Int) * -1).toNat]?)=((List.range xs.size).map fun k=>xs.size-1-k).filterMap (xs[·]?):=by
  rw[List.filterMap_map];refine wj fun m q=>?_;have e:((xs.size:Int)-1+(m:Int) * -1).toNat=xs.size-1-m:=by lia
  rw[e];rfl
 rw[e,PySem.W.krv_range,List.filterMap_reverse,PySem.W.krv_all]
def G6{t:Tok}{Q:Int×Int×Nat->Shared->Prop}(hs:s.heap.IsSliceOf a .none .none (.int (-1) t))(h:Q ((n:Int)-1,-1,n) s):
  A3 prog w A (Builtin.Slice.sliceApplied (.ref a) (pure (n:Int))) Q E s:=by
 obtain⟨os,q,D,C⟩:=id hs;refine Qaa (Qaa (Qbw q C (x:=.none) rfl (Qaa (Qbw q C (x:=.none) rfl (Qaa (Qbw q C (x:=.int (-1) t) rfl (Qae ?_)))))));refine Qaa (slicePart_int ?_);refine Qaa (Qgy (Qaa (Qgy (Qaa (Qae ?_)))));show wpAny _ _ (match Builtin.Slice.sliceAdjust none none (-1) (n:Int)with|(lo,hi)=>pure (lo,(-1:Int),Builtin.Slice.slicePlaces lo hi (-1))) _ _ s;show wpAny _ _ (pure ((n:Int)-1,(-1:Int),Builtin.Slice.slicePlaces ((n:Int)-1) (-1) (-1))) _ _ s;rw[gN];exact Qae h
def getItem_tuple_rev{u:Tok}{items:Ah}(C:IsTup s.heap a items)(hs:s.heap.IsSliceOf f .none .none (.int (-1) u))
  (h:Q (.ref s.heap.objs.size) {s with heap:=s.heap.push {cls:=.type "tuple",data:=.seq items.toList.reverse.toArray}})
  (hsz:items.size<=sizeLine):A3 prog w A (getItem (.ref a) (.ref f)) Q E s:=by
 have q:sizeOk (.seq items.toList.reverse.toArray):=by
  show items.toList.reverse.toArray.size<=sizeLine;rw[Qat,Qc7,Qbk];exact hsz
 obtain⟨os,I,G,J⟩:=id hs;have D:s.TypeIs (.ref f) "slice" :=⟨os,I,G⟩;unfold getItem;try with_reducible refine Qb9 ?_
 first|refine Qaa (Qae ?_)|skip
 refine Qaa (Qg2 C.typeIs (by decide) ?_);refine Qaa (wpAny_callSpecial?_slot (name:=Str.ofString "__getitem__") C.typeIs Qbj
  (Qbf Qbj C.typeIs Qge ?_ (Qgm _ _)))
 show wpAny _ _ (Builtin.Tuple.tupleItemsOf (.ref a) >>= _) _ _ s;refine Qaa (tupleItemsOf_ C ?_);refine Qaa (Qf0 D ?_);refine Qaa (G6 hs ?_);have F:¬((((items.size:Int)-1) == 0&&(-1:Int) == 1&&items.size == items.size)=true):=by
  grind
 show wpAny _ _ (if((((items.size:Int)-1) == 0&&(-1:Int) == 1&&items.size == items.size))=true then _ else _) _ _ s;rw[Qax F,Zei]
 first
  |exact Qaa (m:=Builtin.Tuple.tupleExact _) (Qbe (Qae ⟨_,rfl,Qae h⟩) q)
  |exact Qaa (m:=Builtin.Tuple.tupleExact _) (Qbe (Qaa (Qae (Qae ⟨_,rfl,Qae h⟩))) q)
  |exact Qaa (Qaa (m:=Builtin.Tuple.tupleExact _) (Qbe (Qae (Qae ⟨_,rfl,Qae h⟩)) q))
  |exact Qaa (Qaa (m:=Builtin.Tuple.tupleExact _) (Qbe (Qae ⟨_,rfl,Qae h⟩) q))
end
end HT
namespace L2
section
variable {X:Cx}{e st:Ax}{te ts:TE}{pos p2:Pos}
def RvR(X:Cx)(r:V->Hp->VK->Prop):Prop:=
 ∀(pins:Ac) (s:As) (σ:St) (H:Hp) (x:V) (v:Av) (t:Tok) (q:Aw) (Q:VK),Inv X pins σ H s->RelV x v->s.heap.IsSliceOf q .none .none (.int (-1) t)->r x H Q->
  ∃T id,typeLookup (.type T) "__getitem__" = pure (some (.builtin id))/\s.TypeIs v T/\A4 X (getItem v (.ref q)) (EP X pins σ Q) X.xe s
def tRv(r:V->Hp->VK->Prop)(te ts:TE):TE:=fun σ H Q=>te σ H fun x H1=>ts σ H1 fun y H2=>y=.int (-1)/\r x H2 Q
def qe_rev{r:V->Hp->VK->Prop}(Y:RvR X r)(L:QE X e te)(D:QE X st ts):QE X (.Subscript e (.Slice none none (some st) p2) pos) (tRv r te ts):=by
 refine⟨fun pins s σ H Q I h=>?_⟩;refine Subscript_ (thn (L.out pins s σ H _ I h) fun v O ⟨x,H1,I1,r1,q1⟩=>?_);refine wpAny_Slice ?_;refine Qae ?_;refine Qae ?_;refine thn (D.out pins O σ H1 _ I1 q1) fun vs C ⟨y,F,I3,J,e3,q3⟩=>?_;subst e3;obtain⟨t,rfl⟩:=J;have I4:Inv X pins σ F {C with heap:=C.heap.push {cls:=.type "slice",data:=.fields #[.none,.none,.int (-1) t]}}:=I3.kept (t':=C.toks) fun b ob q=>Qad _ q;obtain⟨T,id,Z,M,G⟩:=Y pins {C with heap:=C.heap.push {cls:=.type "slice",data:=.fields #[.none,.none,.int (-1) t]}} σ F x v t C.heap.objs.size Q I4 r1 (Heap.IsSliceOf.new ..) q3;exact tail_any (ops:=[v,.ref C.heap.objs.size]) M Z G (by with_unfolding_all rfl)
def rRvT(K:Af):V->Hp->VK->Prop:=fun x H Q=>∃a xs,x=.ref a/\SqT K H a xs/\∀p,H p=none->Q (.ref p) (upd H p (.tup xs.reverse))
def rv_tup:RvR X (rRvT X.K):=by
 intro pins s σ H x v t M Q I J hs h;obtain⟨a,xs,rfl,L,q⟩:=h;cases J;obtain⟨D,r,G,F⟩:=I.tuple L;have C:D.toArray.size=xs.length:=by exact r.length.symm
 refine⟨"tuple",_,Qbj.lookup,G.typeIs,?_⟩;refine HT.getItem_tuple_rev G hs ?_ (by rw[C];exact F);refine⟨.ref s.heap.objs.size,_,I.laid (t':=s.toks) (o:=.tup xs.reverse) (fun b ob q=>Qad _ q) (Qak _) ?_,rfl,q _ (I.hok.fresh (Qak _))⟩;exact⟨by rw[Qc7];exact F,_,r.reverse,v8.new _ _⟩
def all_true(n:Nat):((List.range n).all fun _=>true)=true:=by simp
end
def Wb{k:Nat}{A:Ar}(q:Wu k A):A.units<cLine:=q.units0
end L2
namespace RvT
def owner_rev:Manifest.owners.lookup (String.ofList ['d','e','s','r','e','v','e','r'].reverse)=some Manifest.sig_reversed:=by kernel_rfl
theorem slot_next:Slot "reversed" "__next__" "reversed.__next__" :=
 .of (owner:= "reversed") (n:= "__next__") (by kernel_rfl) (by decide +kernel) (by decide +kernel) (by decide +kernel)
  (by first|exact .inl (by decide +kernel)|exact .inr (by decide +kernel)) (by kernel_rfl)
def entry_next:entryFor table "reversed.__next__" = some Builtin.«reversed.__next__»:=entryFor_of_tree (by kernel_rfl)
def args_next (a:Av):argsOk "reversed.__next__" ⟨[a],[]⟩:=by
 kernel_rfl
theorem yk:Slot "reversed" "__iter__" "reversed.__iter__" :=
 .of (owner:= "reversed") (n:= "__iter__") (by kernel_rfl) (by decide +kernel) (by decide +kernel) (by decide +kernel)
  (by first|exact .inl (by decide +kernel)|exact .inr (by decide +kernel)) (by kernel_rfl)
def Za0 (a:Av):argsOk "reversed.__iter__" ⟨[a],[]⟩:=by
 kernel_rfl
theorem gO:entryFor table "reversed.__iter__" = some Builtin.«dict_keyiterator.__iter__» :=
 entryFor_alias (id':= "dict_keyiterator.__iter__") (by kernel_rfl) (by first|rfl|decide +kernel|(unfold String.splitOn;simp +decide [String.splitOnAux])) (by decide +kernel) (by kernel_rfl)
theorem Za1:Slot "reversed" "__init__" "object.__init__" :=
 .of (owner:= "object") (n:= "__init__") (by kernel_rfl) (by decide +kernel) (by decide +kernel) (by decide +kernel)
  (by first|exact .inl (by decide +kernel)|exact .inr (by decide +kernel)) (by kernel_rfl)
theorem called:TypeCalled "reversed" "reversed.__new__" "object.__init__" :=
 ⟨by decide +kernel,F.create_reversed,⟨_,_,F.mro_reversed⟩,F.made_reversed,F.plain_reversed_new,F.sub_reversed_self,Za1⟩
def vE:typeLookup (.type "tuple") "__reversed__" = pure none:=by kernel_rfl
def sub_tuple_dict:isSubtype (.type "tuple") (.type "dict")=pure false:=by kernel_rfl
def revObj (t:Aw) (i:Int):Obj:={cls:=.type "reversed",data:=.fields #[.ref t,rawInt i]}
def IsRev (h:Heap) (a t:Aw) (i:Int):Prop:=∃o,h.get? a=some o/\o.cls=.type "reversed" /\ o.data=.fields #[.ref t,rawInt i]
def IsRev.typeIs   {i:Int} (x:IsRev s.heap a f i):s.TypeIs (.ref a) "reversed" :=let⟨o,ho,hc,_⟩:=x;⟨o,ho,hc⟩
def IsRev.at{h':Heap}{i:Int}(x:IsRev h a f i)(e:∀o,h.get? a=some o->h'.get? a=some o):IsRev h' a f i:=let⟨o,ho,r⟩:=x;⟨o,e _ ho,r⟩
section
variable {prog:Aq}{w:Au}{A:Ar}{E:Ab}{s:As}
theorem Wy(t:Aw)(items:Ah)(C:items.size<2^63):
  Meets (Builtin.«reversed.__new__» ⟨[.type "reversed",.ref t],[]⟩) (fun _ R s=>IsTup s.heap t items/\∀tk,R (.ok (.ret (.ref s.heap.objs.size))) {s with heap:=s.heap.push (revObj t ((items.size:Int)-1)),toks:=tk}):=
 .of_wp fun prog w A R s h=>by
  obtain⟨q,h⟩:=h;refine Qaa (Qcj (newClass_reversed _) ?_);refine Qaa (Qcj (a:=()) (by first|rfl|kernel_rfl) ?_);refine Qaa (Qcj (a:=()) (by first|rfl|kernel_rfl) ?_);refine Qaa (Qea q.typeIs vE ?_);refine Qaa ?_;refine Qaa (Qdh (T:= "tuple") (b:=false) q.typeIs sub_tuple_dict ?_);refine Qaa (Qea q.typeIs Qbj.lookup ?_);refine Qae ?_;refine Qaa (len_tuple q (by lia) ?_);refine Qaa (Qcj (a:=some (items.size:Int)) rfl ?_);refine Qaa (m:=newObj (.type "reversed") (.fields #[.ref t,rawInt ((items.size:Int)-1)])) (Qbe ?_);exact Qae ⟨_,rfl,h _⟩
theorem call_rev{items:Ah}(C:IsTup s.heap a items)(D:items.size<2^63)(h:∀tk,Q (.ref s.heap.objs.size) {s with heap:=s.heap.push (revObj a ((items.size:Int)-1)),toks:=tk}):
  A3 prog w A (call (.type "reversed") [.ref a]) Q E s:=
 callType_new called (by decide) (F.typeCall_reversed_1 _) (F.newCall_reversed_1 _) (fun q=>F.args_object_init_2 q _) F.entry_reversed_new (Wy a items D)
  ⟨C,fun tk=>⟨⟨_,Qam _ rfl,rfl⟩,h tk⟩⟩
def next_item{it:Aw}{items:Ah}{x:Av}{Q:Aa}(q:IsRev s.heap it f (i:Int))(F:IsTup s.heap f items)(hi:(i:Int)<2^63)(D:items[i]?=some x)(J:f≠it)
  (G:∀h' tk,IsRev h' it f ((i:Int)-1)->Heap.SameBut it s.heap h'->Q (some x) {s with heap:=h',toks:=tk}):A3 prog w A (pyNext (.ref it)) Q E s:=by
 obtain⟨o,ho,I,C⟩:=id q;refine Qaa (Qdk (wpAny_callSpecial?_slot (name:=Str.ofString "__next__") q.typeIs slot_next
  (Qbf slot_next q.typeIs entry_next ?_ (args_next _))))
 refine Qaa (Qcj (a:=(Value.ref it,[])) rfl ?_);refine Qaa (Qbw ho C (x:=.ref f) rfl ?_);refine Qaa (Qbw ho C (x:=rawInt (i:Int)) rfl ?_);show wpAny _ _ (if(i:Int)<0 then _ else _) _ _ s;refine Qaa (Qea F.typeIs Qbj.lookup ?_);refine Qaa (Qgf ?_);have hsz:=(Array.getElem?_eq_some_iff.mp D).1;refine Qaa (Qdk (getItem_tuple (s:={s with toks:=s.toks+1}) (j:=i) F (by lia) hi (by rw[Qhw (by lia) (by lia),Qbp]) D ?_));refine Qaa (Qbw (s:={s with toks:=s.toks+1}) ho C (x:=rawInt (i:Int)) rfl ?_);refine Qaa (Qdc (s:={s with toks:=s.toks+1}) ho C (by simp) ?_);refine Qae ⟨x,rfl,Qae (G _ _ ?_ (Qb5 ..))⟩;exact⟨_,Qbs _ ho (Qct (Qbv C _)),(Qe5 ..).trans I,by
  rw[Qbv C];simp⟩
def next_end{it:Aw}{Q:Aa}(hh:A.handled=none)(q:IsRev s.heap it f (-1))
  (G:∀h',(∀b o,b≠it->s.heap.get? b=some o->h'.get? b=some o)->Q none {s with heap:=h'}):A3 prog w A (pyNext (.ref it)) Q E s:=by
 obtain⟨o,ho,I,C⟩:=id q;refine Qaa (Qdk (wpAny_callSpecial?_slot (name:=Str.ofString "__next__") q.typeIs slot_next
  (Qbf slot_next q.typeIs entry_next ?_ (args_next _))))
 refine Qaa (Qcj (a:=(Value.ref it,[])) rfl ?_);refine Qaa (Qbw ho C (x:=.ref f) rfl ?_);refine Qaa (Qbw ho C (x:=rawInt (-1)) rfl ?_);show wpAny _ _ (if(-1:Int)<0 then _ else _) _ _ s;refine Qaa (Qdg ?_);refine Qaa ?_;refine Qaa (Qdc ho C (by simp) ?_);have D:=Qbs (Obj.mapFields (·.setIfInBounds 1 (rawInt (-1)))) ho (Qct (Qbv C _));refine Qdc D (Qbv C _) (by simp) ?_
 first
 |show wpAny _ _ (newExc (.type "StopIteration") [] >>= _) _ _ _
 |(refine Qaa ?_)
 refine Qaa ?_;refine Qaa (Qbe ?_ (by size_fits));refine Qaa (m:=firstArgMember _ _) (Qcj (a:=Value.none) (by first|rfl|(rfl)) ?_);refine Qbe ?_ (by size_fits);refine Qaa (Qhc ?_)
 first|rw[show A.in1.handled=none from hh]|rw[hh]
 refine Qaa (Qae (Qhx ?_));refine Qaa (Qdh (T:= "StopIteration") (b:=true) ⟨_,Qam _ rfl,rfl⟩ Qfy ?_);refine Qae (G _ fun b ob F e=>?_);exact Qad _ (Qad _ ((Qb1 _ _ (Qd5 F)).trans ((Qb1 _ _ (Qd5 F)).trans e)))
def iter_self{it:Aw}{i:Int}(q:IsRev s.heap it a i)(h:Q (.ref it) s):A3 prog w A (pyIter (.ref it)) Q E s:=by
 refine Qfw q.typeIs yk (Qbf yk q.typeIs gO ?_ (Za0 _));exact Qae ⟨_,rfl,"reversed",_,q.typeIs,slot_next.lookup,h⟩
end
end RvT
namespace L2
def Itv(K:Af)(a:Aw)(n:Nat):It:=
 ⟨fun i H=>∃xs x,SqT K H a xs/\xs.length=n/\xs.reverse[i]?=some x,fun i H x H'=>H'=H/\∀xs,SqT K H a xs->xs.reverse[i]?=some x,fun i _=>i=n⟩
def Zej{tg:Ax}(a it:Aw)(n:Nat)(O:a≠it):Turn P w K tg (Itv K a n) [it] it (fun i h=>RvT.IsRev h it a ((n:Int)-1-(i:Int)))where
 mem:=by simp
 obj:=fun i h st b C=>by
  have e:b=it:=by simpa using C
  subst e;obtain⟨o,e,c,d⟩:=st;exact⟨o,e,fun v z=>by rw[d]at z;cases z⟩
 keep:=fun i h h' st k=>st.at fun o e=>k it (by simp) o e
 item:=by
  intro X M hw hK hc i pins s σ H E I D st F;subst M hw hK;obtain⟨xs,x,hq,hn,hx⟩:=F;obtain⟨L,rv,p,hz⟩:=I.tuple hq;have hi:i<xs.length:=by
   grind
  have Z:xs[xs.length-1-i]?=some x:=by grind
  obtain⟨u,hu,ru⟩:=rv.get Z;obtain⟨f0,J,f2,f3,Y,G⟩:=D it (by simp);have e0:(n:Int)-1-(i:Int)=((xs.length-1-i:Nat):Int):=by lia
  have hl:=Gr;rw[e0]at st;refine RvT.next_item (items:=L.toArray) (x:=u) st p (by lia) (by simpa using hu) O fun h' tk q sb=>?_;have I1:Inv X pins σ H {s with heap:=h',toks:=tk}:=I.turned (fun b o C e=>(sb.2 b C).trans e) f0 J f3 Y G;have e1:((xs.length-1-i:Nat):Int)-1=(n:Int)-1-((i+1:Nat):Int):=by lia
  rw[e1]at q;obtain⟨o,e,c,d⟩:=id q;exact⟨u,rfl,gD (s:={s with heap:=h',toks:=tk}) e c d (by decide) ⟨x,H,I1,ru,⟨rfl,fun ys hy=>by rw[I.tuple_inj hy hq];exact hx⟩,q,fun b C=>(D b C).1⟩⟩
 done:=by
  intro X M hw hK hc i pins s σ H E I D st F;subst M hw hK;obtain⟨f0,J,f2,f3,Y,G⟩:=D it (by simp);have hg':i=n:=F;have e0:(n:Int)-1-(i:Int)=-1:=by lia
  rw[e0]at st;exact RvT.next_end (I.ok.hd hc) st fun h' eb=>⟨rfl,I.turned (t':=s.toks) (fun b o C e=>eb b o C e) f0 J f3 Y G⟩
 self:=fun _ _ _ _ _ st h=>RvT.iter_self st h
def iRev(K:Af)(te:TE):TI:=fun σ H R=>te σ H fun x H1=>∃a xs,x=.ref a/\SqT K H1 a xs/\R (Itv K a xs.length) H1
def Za2 {X:Cx} {tg:Ax}   (L:Gl X "reversed") (hm:X.mg "reversed" = none) (he:QE X e I) (hp:ZV e=true:=by rfl):QI X tg (.Call (.Name "reversed" p) [e] [] m) (iRev X.K I):=by
 refine⟨fun pins s σ H R C h=>?_⟩;have hs:starEach [e] X.env=[(false,eval e X.env)]:=by rw[Zu hp];rfl
 refine Call_ (Jo C L hm vD (Qcs ?_ hs rfl));rw[hs];refine Qcy (thn (he.out pins s σ H _ C h) fun u F ⟨x,H1,J,Z,q1⟩=>?_);refine Qd8 ?_;obtain⟨a,xs,rfl,M,q⟩:=q1;cases Z;obtain⟨D,rv,pt,hz⟩:=J.tuple M;have hl:=Gr;have G:=rv.length;refine RvT.call_rev pt (by rw[Qat];lia) fun tk=>?_;have I2:Inv X pins σ H1 {F with heap:=F.heap.push (RvT.revObj a ((D.toArray.size:Int)-1)),toks:=tk}:=J.kept fun b o e=>Qad _ e;have Y:(xs.length:Int)-1-((0:Nat):Int)=(D.toArray.size:Int)-1:=by rw[Qat,<-G];lia
 have st:RvT.IsRev (F.heap.push (RvT.revObj a ((D.toArray.size:Int)-1))) F.heap.objs.size a ((xs.length:Int)-1-((0:Nat):Int)):=by
  rw[Y];exact⟨_,Qam _ rfl,rfl,rfl⟩
 refine RvT.iter_self st ⟨F.heap.objs.size,[F.heap.objs.size],_,_,H1,rfl,I2,Zej a _ xs.length (Qbg pt.lt),st,fun b O=>?_,q⟩;have e:b=F.heap.objs.size:=by simpa using O
 subst e;exact J.fpOk (Qak _) (J.hok.fresh (Qak _)) |> fun f=>f
def Za3{xs:A2}{g:TG}(C:Nat->St->Hp->Prop)(O:C 0 c H)(J:∀i c H,i<=xs.length->C i c H->SqT K H a xs)
  (hs:∀i x c H,xs.reverse[i]?=some x->C i c H->g x c H fun F H2=>q {Y with nx:=C (i+1),ct:=C (i+1),bk:=Y.nx} F H2) (M:∀c H,C xs.length c H->Y.nx c H):
  ∃W:Nat->Nat->St->Hp->Prop,(∃m,W 0 m c H)/\∀i m c H,W i m c H->
   ((Itv K a xs.length).stop i H/\Y.nx c H)\/((Itv K a xs.length).go i H/\∃N:A1,(∀D H',N D H'->∃L,L<m/\W (i+1) L D H')/\∀x H',(Itv K a xs.length).yld i H x H'->g x c H' fun F H2=>q {Y with nx:=N,ct:=N,bk:=Y.nx} F H2):=by
 refine⟨fun i m c H=>m=xs.length-i/\i<=xs.length/\C i c H,⟨xs.length,by simp,Qbl _,O⟩,?_⟩;rintro i m c H ⟨rfl,hi,p⟩
 by_cases G:i<xs.length
 ·have I:i<xs.reverse.length:=by rw[Qc7];exact G
  refine .inr ⟨⟨xs,xs.reverse[i],J i c H hi p,rfl,Qac I⟩,C (i+1),fun D H' Z=>⟨xs.length-(i+1),by lia,rfl,G,Z⟩,fun x H' y=>?_⟩;obtain⟨e,y⟩:=y;subst e;exact hs i x c _ (y xs (J i c _ hi p)) p
 ·have e:i=xs.length:=by lia
  exact .inl ⟨e,by rw[e]at p;exact M c H p⟩
end L2
namespace HT
section
variable {prog:Aq}{w:Au}{A:Ar}{E:Ab}{s:As}
def getItem_tuple_whole{items:Ah}{vu:Av}{lo hi:Option Int}(q:IsTup s.heap a items)(hs:s.heap.IsSliceOf f v vu .none)(pl:IsPart v lo)(I:IsPart vu hi)
  (hw:sIx items.size 0 lo=0/\sIx items.size items.size hi=items.size) (h:Q (.ref a) s):A3 prog w A (getItem (.ref a) (.ref f)) Q E s:=by
 obtain⟨os,G,F,J⟩:=id hs;have D:s.TypeIs (.ref f) "slice" :=⟨os,G,F⟩;unfold getItem;try with_reducible refine Qb9 ?_
 first|refine Qaa (Qae ?_)|skip
 refine Qaa (Qg2 q.typeIs (by decide) ?_);refine Qaa (wpAny_callSpecial?_slot (name:=Str.ofString "__getitem__") q.typeIs Qbj
  (Qbf Qbj q.typeIs Qge ?_ (Qgm _ _)))
 show wpAny _ _ (Builtin.Tuple.tupleItemsOf (.ref a) >>= _) _ _ s;refine Qaa (tupleItemsOf_ q ?_);refine Qaa (Qf0 D ?_);refine Qaa (Wk hs pl I ?_);have C:(((sIx items.size 0 lo:Nat):Int) == 0&&(1:Int) == 1&&(sIx items.size items.size hi-sIx items.size 0 lo) == items.size)=true:=by
  rw[hw.1,hw.2];simp
 show wpAny _ _ (if(((sIx items.size 0 lo:Nat):Int) == 0&&(1:Int) == 1&&(sIx items.size items.size hi-sIx items.size 0 lo) == items.size)=true then _ else _) _ _ s;rw[Qa3 C];refine Qaa (m:=Builtin.Tuple.tupleIsExact (.ref a)) (Qaa (Qf0 q.typeIs (Qae ?_)))
 first
  |exact Qaa (Qdg (Qaa (Qae (Qae ⟨_,rfl,Qae h⟩))))
  |exact Qaa (Qdg (Qae ⟨_,rfl,Qae h⟩))
  |exact Qaa (Qdg (Qaa (Qae ⟨_,rfl,Qae h⟩)))
end
end HT
namespace L2
def rSlW(K:Af):V->Option Int->Option Int->Hp->VK->Prop:=fun x lo hi H Q=>∃a xs,x=.ref a/\SqT K H a xs/\(HT.sIx xs.length 0 lo=0/\HT.sIx xs.length xs.length hi=xs.length)/\Q (.ref a) H
def Zif:SlR X (rSlW X.K):=by
 intro pins s σ H x v Y vu lo hi O Q I L hs pl J h;obtain⟨a,xs,rfl,G,hw,q⟩:=h;cases L;obtain⟨D,r,F,M⟩:=I.tuple G;have C:D.toArray.size=xs.length:=by exact r.length.symm
 refine⟨"tuple",_,Qbj.lookup,F.typeIs,?_⟩;exact HT.getItem_tuple_whole F hs pl J (by rw[C];exact hw) ⟨.ref a,H,I,rfl,q⟩
theorem gP{ys:Ai}:∀{q:Ag},Vals (ys.map V.str) q->StrsAre q ys:=by
 induction ys with
 |nil=>intro q r;cases r;exact .nil
 |cons n ns D=>
  intro q r;cases r with
  |cons F C=>
   obtain⟨t,e⟩:=F;subst e;exact .cons n t (D C)
def Xs{xs:A2}{is:Aj}{Q:VK}(C:Nat->List V->Hp->Prop)(M:C 0 [] H)(I:∀i zs H,C i zs H->zs.length<=sizeLine)(F:∀i zs H,C i zs H->SqL K H a xs)
  (hs:∀i x zs H (R:A2->Hp->Prop),(∀zs H,C (i+1) zs H->R zs H)->xs[i]?=some x->C i zs H->G (xA is c (some x)) H fun b H2=>if b=true then u (xA is c (some x)) H2 fun y O=>R (zs++[y]) O else R zs H2)
  (L:∀zs H,C xs.length zs H->∀p,H p=none->Q (.ref p) (upd H p (.lst zs))):
  G5 is G u c Q (Itl K a) H:=by
 refine⟨fun i m zs H=>m=xs.length-i/\i<=xs.length/\C i zs H,⟨xs.length,by simp,Qbl _,M⟩,?_⟩;rintro i m zs H ⟨rfl,hi,p⟩
 by_cases D:i<xs.length
 ·refine .inr ⟨⟨xs,xs[i],F i zs H p,Qac D⟩,I i zs H p,fun x H' y=>?_⟩;obtain⟨e,y⟩:=y;subst e;exact hs i x zs _ (fun zs H=>∃J,J<xs.length-i/\J=xs.length-(i+1)/\i+1<=xs.length/\C (i+1) zs H) (fun zs H q=>⟨xs.length-(i+1),by lia,rfl,D,q⟩) (y xs (F i zs _ p)) p
 ·have e:i=xs.length:=by lia
  exact .inl ⟨⟨xs,F i zs H p,by lia⟩,I _ _ _ p,by rw[e]at p;exact L zs H p⟩
def Its(x:Str):It:=⟨fun i _=>i<x.cps.size,fun i H v H'=>H'=H/\∃c,x.cps[i]?=some c/\v=.str ⟨#[c]⟩,fun i _=>i=x.cps.size⟩
def Zek    {tg:Ax} (it:Aw) (x:Str) (t:Tok) (T:String) (hT:T = "str_ascii_iterator" \/ T = "str_iterator"):Turn P w K tg (Its x) [it] it (fun i h=>h.IsStrIter it T x t i)where
 mem:=by simp
 obj:=fun i h st b q=>by
  have e:b=it:=by simpa using q
  subst e;obtain⟨o,e,c,d⟩:=st;exact⟨o,e,fun v z=>by rw[d]at z;cases z⟩
 keep:=fun i h h' st k=>let⟨o,ho,r⟩:=st;⟨o,k it (by simp) o ho,r⟩
 item:=by
  intro X hP hw hK G i pins s σ H E I M st Z;subst hP hw hK;obtain⟨f0,L,f2,Y,O,J⟩:=M it (by simp);rcases hT with rfl|rfl
  ·refine(Walks.strAscii (prog:=X.prog) (w:=X.w) (I.ok.hd G) it x t).item i s _ _ Z st fun v h' tk hv C D=>?_
   obtain⟨c,u,F,rfl⟩:=hv;have I1:Inv X pins σ H {s with heap:=h',toks:=tk}:=I.turned (fun b o q e=>D b o (by simpa using q) e) f0 L Y O J;obtain⟨o,e,cc,d⟩:=id C;exact⟨_,rfl,gD (s:={s with heap:=h',toks:=tk}) e cc d (by decide) ⟨.str ⟨#[c]⟩,H,I1,⟨_,rfl⟩,⟨rfl,c,F,rfl⟩,C,fun b q=>(M b q).1⟩⟩
  ·refine(Walks.strWide (prog:=X.prog) (w:=X.w) (I.ok.hd G) it x t).item i s _ _ Z st fun v h' tk hv C D=>?_
   obtain⟨c,u,F,rfl⟩:=hv;have I1:Inv X pins σ H {s with heap:=h',toks:=tk}:=I.turned (fun b o q e=>D b o (by simpa using q) e) f0 L Y O J;obtain⟨o,e,cc,d⟩:=id C;exact⟨_,rfl,gD (s:={s with heap:=h',toks:=tk}) e cc d (by decide) ⟨.str ⟨#[c]⟩,H,I1,⟨_,rfl⟩,⟨rfl,c,F,rfl⟩,C,fun b q=>(M b q).1⟩⟩
 done:=by
  intro X hP hw hK G i pins s σ H E I M st Z;subst hP hw hK;obtain⟨f0,L,f2,Y,O,J⟩:=M it (by simp);have hg':i=x.cps.size:=Z;subst hg';rcases hT with rfl|rfl
  ·exact(Walks.strAscii (prog:=X.prog) (w:=X.w) (I.ok.hd G) it x t).done s _ _ st fun h' tk D=>⟨rfl,I.turned (t':=tk) (fun b o q e=>D b o (by simpa using q) e) f0 L Y O J⟩
  ·exact(Walks.strWide (prog:=X.prog) (w:=X.w) (I.ok.hd G) it x t).done s _ _ st fun h' tk D=>⟨rfl,I.turned (t':=tk) (fun b o q e=>D b o (by simpa using q) e) f0 L Y O J⟩
 self:=fun A i s Q E st h=>by
  rcases hT with rfl|rfl
  ·exact wpAny_pyIter_striter_ascii st h
  ·exact wpAny_pyIter_striter_wide st h
def iStr(te:TE):TI:=fun σ H R=>te σ H fun v H1=>∃x,v=.str x/\R (Its x) H1
def qi_str{X:Cx}{tg l:Ax}(G:QE X l u):QI X tg l (iStr u):=by
 refine⟨fun pins s σ H R I h=>?_⟩;refine thn (G.out pins s σ H _ I h) fun v C ⟨y,H1,D,O,M⟩=>?_;obtain⟨x,rfl,q⟩:=M;obtain⟨t,rfl⟩:=O;have F:∀(o:Obj) (T:String),(T = "str_ascii_iterator" \/ T = "str_iterator")->(C.heap.push o).IsStrIter C.heap.objs.size T x t 0->PIE X pins σ tg R (.ref C.heap.objs.size) {C with heap:=C.heap.push o}:=fun o T J st=>
  ⟨C.heap.objs.size,[C.heap.objs.size],_,_,H1,rfl,D.kept (t':=C.toks) fun b o e=>Qad _ e,Zek _ x t T J,st,fun b L=>by
   have e:b=C.heap.objs.size:=by simpa using L
   subst e;exact D.fpOk (Qak _) (D.hok.fresh (Qak _)),q⟩
 cases ha:x.cps.all (· < 128)
 ·exact wpAny_pyIter_wide ha (F _ "str_iterator" (.inr rfl) ⟨_,Qam _ rfl,rfl,rfl⟩)
 ·exact wpAny_pyIter_ascii ha (F _ "str_ascii_iterator" (.inl rfl) ⟨_,Qam _ rfl,rfl,rfl⟩)
def Za4 (Z:X.calm=true):YA X (.builtin "all") (fun xs H Q=>∃(p:Aw) (bs:Am),xs=[.ref p]/\SqL X.K H p (bs.map V.bl)/\Q (.bl (bs.all id)) H):=by
 intro pins s σ H xs us Q I r h;obtain⟨p,bs,rfl,hq,q⟩:=h;obtain⟨u,rfl,rx⟩:=vals1 r;cases rx;obtain⟨C,Y,pl,hz⟩:=I.list hq;have L:=pl.isList;have M:p<s.heap.objs.size:=by obtain⟨_,e,_⟩:=L;exact Qaq e
 have D:=Y.length;rw[Qab]at D;refine call_all_walk (Qe4 L ?_);refine⟨s.heap.objs.size,[s.heap.objs.size,p],[s.heap.objs.size],C.toArray.size,_,_,fun i=>(bs[i]?).getD true,rfl,Walks.list (A:=X.A.in1) (I.ok.hd Z) _ p (Qbg M) C.toArray,
  ⟨⟨_,Qam _ rfl,rfl,rfl⟩,L.push _⟩,fun i v s' Q' E' hP O=>?_,fun h' tk hk=>?_⟩
 ·have hi:C[i]?=some v:=by simpa using hP
  have G:i<bs.length:=by grind
  obtain⟨w',e1,e2⟩:=Y.get (show(bs.map V.bl)[i]?=some (V.bl bs[i]) by rw[Qah,Qac G];rfl);rw[hi]at e1;cases e1;cases e2;simp only[Qac G,Option.getD_some]at O;exact Qdj O
 ·have e:((List.range C.toArray.size).all fun i=>(bs[i]?).getD true)=bs.all id:=by
   rw[Qat,<-D,Qdo,Qcb,Qcb];constructor
   ·intro z b G;obtain⟨i,hi,rfl⟩:=List.getElem_of_mem G;have:=z i (Qbt.mpr hi);simpa[Qac hi]using this
   ·intro z i hi;have F:=Qbt.mp hi;have:=z _ (Qbu F);simpa[Qac F]using this
  rw[e];refine⟨.bl (bs.all id),H,I.kept (t':=tk) (fun b o J=>hk b o (fun hm=>?_) (Qad _ J)),rfl,q⟩;rw[Qar.mp hm]at J;exact absurd (Qaq J) (Qce _)
theorem Wz:∀{q:Ag} {ys:Ai},StrsAre q ys->Vals (ys.map V.str) q
 |_,_,.nil=>.nil
 |_,_,.cons y t h=>.cons ⟨t,rfl⟩ (Wz h)
def Zig:bootBuiltins "dict" = some (.type "dict"):=by decide +kernel
def wk:bootBuiltins "max" = some (.builtin "max"):=by decide +kernel
def Zgo:bootBuiltins "min" = some (.builtin "min"):=by decide +kernel
def jc :PySem.W.kitOne K (.type "bool") (.type "bool")=some true:=by rfl
def take_snoc{xs:List d}{x:d}(h:xs[i]?=some x):xs.take (i+1)=xs.take i++[x]:=by
 rw[List.take_succ,h];rfl
def vF{xs:A2}{is:Aj}{Q:VK}(p:V->Bool)(f:V->V)(L:SqL K H a xs)(I:xs.length<=sizeLine)
  (D:∀x∈xs,∀R:Bool->Hp->Prop,R (p x) H->G (xA is c (some x)) H R)
  (F:∀x∈xs,p x=true->∀R:VK,R (f x) H->u (xA is c (some x)) H R)
  (J:∀l,H l=none->Q (.ref l) (upd H l (.lst ((xs.filter p).map f)))):G5 is G u c Q (Itl K a) H:=by
 refine Xs (xs:=xs) (fun i zs H'=>zs=((xs.take i).filter p).map f/\H'=H) ⟨rfl,rfl⟩ ?_ ?_ ?_ ?_
 ·grind
 ·grind
 ·rintro i x zs H' R hR q ⟨rfl,rfl⟩;have C:=Qas q;have e:=take_snoc q;refine D x C _ ?_;cases hp:p x with
  |true=>
   refine(Qa3 rfl:(if true=true then _ else _)=_) ▸ F x C hp _ (hR _ _ ⟨?_,rfl⟩);rw[e,Qd3,Qay,Qc5,Qa3 hp];rfl
  |false=>
   refine(Qax Qa7:(if false=true then _ else _)=_) ▸ hR _ _ ⟨?_,rfl⟩;rw[e,Qd3,Qay,Qc5,Qax (by rw[hp];exact Qa7)];simp
 ·grind
def comp_map{xs:A2}{is:Aj}{Q:VK}(f:V->V)(q:SqL K H a xs)(D:xs.length<=sizeLine)
  (F:∀x∈xs,∀R:VK,R (f x) H->u (xA is c (some x)) H R)
  (I:∀l,H l=none->Q (.ref l) (upd H l (.lst (xs.map f)))):G5 is Zgm u c Q (Itl K a) H:=by
 refine vF (fun _=>true) f q D (fun x _ R h=>h) (fun x G _=>F x G) fun l C=>?_;rw[List.filter_eq_self.mpr fun _ _=>rfl];exact I l C
def qu{xs:A2}{is:Aj}{Q:VK}(f:V->V)(G:SqT K H a xs)(D:xs.length<=sizeLine)
  (C:∀x∈xs,∀R:VK,R (f x) H->u (xA is c (some x)) H R)
  (F:∀l,H l=none->Q (.ref l) (upd H l (.lst (xs.map f)))):G5 is Zgm u c Q (Itt K a) H:=by
 refine X3 (xs:=xs) (fun i zs H'=>zs=(xs.take i).map f/\H'=H) ⟨rfl,rfl⟩ ?_ ?_ ?_ ?_
 ·grind
 ·grind
 ·rintro i x zs H' R hR q ⟨rfl,rfl⟩;unfold Zgm;refine C x (Qas q) _ (hR _ _ ⟨?_,rfl⟩);rw[take_snoc q,Qay];rfl
 ·grind
section
variable {κ:Type}[DecidableEq κ]
def Yj(kvs:List (κ×V))(k:κ):Option V:=(kvs.find? fun q=>decide (q.1=k)).map (·.2)
def putK(kvs:List (κ×V))(k:κ)(v:V):List (κ×V):=
 if(kvs.any fun q=>decide (q.1=k))=true then kvs.map (fun q=>if q.1=k then(q.1,v)else q)else kvs++[(k,v)]
def Yk{p:κ×V}{r:List (κ×V)}{k:κ}(e:p.1=k):Yj (p::r) k=some p.2:=by simp[Yj,Qdp,e]
def Yf{p:κ×V}{r:List (κ×V)}{k:κ}(e:¬p.1=k):Yj (p::r) k=Yj r k:=by simp[Yj,Qdp,e]
theorem X4(k:κ):∀kvs:List (κ×V),(kvs.any fun q=>decide (q.1=k))=(Yj kvs k).isSome
 |[]=>rfl
 |p::r=>by
  rw[Qf9]
  by_cases e:p.1=k
  ·simp only[Yk e,Qan e,Bool.true_or,Option.isSome_some]
  ·rw[Yf e,Qap e,Bool.false_or];exact X4 k r
theorem wm(k j:κ)(y:V):∀kvs:List (κ×V),Yj (kvs.map fun q=>if q.1=k then(q.1,y)else q) j=(Yj kvs j).map fun x=>if j=k then y else x
 |[]=>rfl
 |p::r=>by
  have C:=wm k j y r;rw[Qbx]
  by_cases h:p.1=k
  ·rw[Qa3 h]
   by_cases e:p.1=j
   ·rw[Yk (p:=(p.1,y)) e,Yk e,Qfm,Qa3 (e.symm.trans h)]
   ·rw[Yf (p:=(p.1,y)) e,Yf e,C]
  ·rw[Qax h]
   by_cases e:p.1=j
   ·rw[Yk (p:=p) e,Yk e,Qfm,Qax (fun z=>h (e.trans z))]
   ·rw[Yf (p:=p) e,Yf e,C]
theorem yl(k j:κ)(y:V):∀kvs:List (κ×V),Yj kvs k=none->Yj (kvs++[(k,y)]) j=if j=k then some y else Yj kvs j
 |[],_=>by
  by_cases e:k=j
  ·rw[Qa3 e.symm];exact Yk (p:=(k,y)) e
  ·rw[Qax (fun z=>e z.symm)];exact Yf (p:=(k,y)) e
 |p::r,q=>by
  rw[List.cons_append];have C:¬p.1=k:=fun z=>by rw[Yk z]at q;cases q
  rw[Yf C]at q;have D:=yl k j y r q
  by_cases e:p.1=j
  ·rw[Yk e,Yk e,Qax (fun z=>C (e.trans z))]
  ·rw[Yf e,Yf e,D]
def GP(kvs:List (κ×V))(k j:κ)(y:V):Yj (putK kvs k y) j=if j=k then some y else Yj kvs j:=by
 unfold putK
 by_cases a:(kvs.any fun C=>decide (C.1=k))=true
 ·rw[Qa3 a,wm];rw[X4]at a
  by_cases e:j=k
  ·obtain⟨x,D⟩:=Option.isSome_iff_exists.mp a;rw[Qa3 e,e,D,Qfm,Qa3 rfl]
  ·rw[Qax e];cases Yj kvs j with
   |none=>rfl
   |some x=>rw[Qfm,Qax e]
 ·rw[Qax a];refine yl k j y kvs ?_;rw[X4]at a;cases q:Yj kvs k with
  |none=>rfl
  |some x=>rw[q]at a;exact(a rfl).elim
def Wc(kvs:List (κ×V))(k:κ)(v:V):(putK kvs k v).length<=kvs.length+1:=by
 unfold putK;split
 ·rw[Qab];lia
 ·grind
def gC.isSome_eq{o:Option V}{u:Option Av}(r:gC o u):o.isSome=u.isSome:=by
 cases o with
 |none=>cases u with
  |none=>rfl
  |some _=>exact(show False from r).elim
 |some _=>cases u with
  |none=>exact(show False from r).elim
  |some _=>rfl
def gC.getD{o:Option V}{u:Option Av}{d:V}{d':Av}(r:gC o u)(q:RelV d d'):RelV (o.getD d) (u.getD d'):=by
 cases o with
 |none=>cases u with
  |none=>exact q
  |some _=>exact(show False from r).elim
 |some _=>cases u with
  |none=>exact(show False from r).elim
  |some _=>exact r
theorem KV.val{kvs:List (κ×V)}{vs:List (κ×Av)}(r:KV kvs vs)(k:κ):gC (Yj kvs k) (valueAt vs k):=by
 induction r with
 |nil=>exact True.intro
 | @cons p q ps C h t F=>
  obtain⟨h1,h2⟩:=h
  by_cases e:p.1=k
  ·have D:q.1=k:=h1.symm.trans e;have b:valueAt (q::C) k=some q.2:=by simp[valueAt,Qdp,D]
   rw[Yk e,b];exact h2
  ·have D:¬q.1=k:=fun z=>e (h1.trans z)
   have b:valueAt (q::C) k=valueAt C k:=by simp[valueAt,Qdp,D]
   rw[Yf e,b];exact F
theorem KV.any{kvs:List (κ×V)}{vs:List (κ×Av)}(r:KV kvs vs)(k:κ):(kvs.any fun q=>decide (q.1=k))=vs.any fun q=>decide (q.1=k):=by
 induction r with
 |nil=>rfl
 |cons h t C=>rw[Qf9,Qf9,C,h.1]
theorem KV.repl{kvs:List (κ×V)}{vs:List (κ×Av)}(r:KV kvs vs)(k:κ){u:Av}(F:RelV y u):
  KV (kvs.map fun C=>if C.1=k then(C.1,y)else C) (vs.map fun C=>if C.1=k then(C.1,u)else C):=by
 induction r with
 |nil=>exact .nil
 | @cons p q ps G h t D=>
  refine .cons ?_ D;obtain⟨h1,h2⟩:=h
  by_cases e:p.1=k
  ·grind
  ·grind
def KV.put{kvs:List (κ×V)}{vs:List (κ×Av)}(r:KV kvs vs)(k:κ){u:Av}(q:RelV y u):KV (putK kvs k y) (stored vs k u):=by
 unfold putK stored;rw[r.any k]
 by_cases e:(vs.any fun C=>decide (C.1=k))=true
 ·rw[Qa3 e,Qa3 e];exact r.repl k q
 ·rw[Qax e,Qax e];exact Paired.snoc r ⟨rfl,q⟩
theorem KV.keys{kvs:List (κ×V)}{vs:List (κ×Av)}(r:KV kvs vs):kvs.map (·.1)=vs.map (·.1):=by
 induction r with
 |nil=>rfl
 |cons h t q=>rw[Qbx,Qbx,q,h.1]
def KV.length{kvs:List (κ×V)}{vs:List (κ×Av)}(r:KV kvs vs):kvs.length=vs.length:=Qfk r
end
def ym{k:Key}{u:Av}(r:RelV (kV k) u):(ZI P w).is k u=true:=by
 cases k with
 |inl i=>obtain⟨t,e⟩:=(show∃t,u=Value.int i t from r);subst e;exact vz P w i t
 |inr x=>obtain⟨t,e⟩:=(show∃t,u=Value.str x t from r);subst e;exact Jf P w x t
theorem yn{P:Aq}{w:Au}:∀{ks:List Key} {q:Ag},Vals (ks.map kV) q->ItemsAre (ZI P w) ks q
 |[],_,r=>by cases r;exact .nil
 |k::ks,_,r=>by
  cases r with
  |cons h t=>exact .cons (ym h) (yn t)
abbrev KT(H:Hp):List (List Key×V)->List (List Key×Aw×Av)->Prop:=Paired fun p q=>p.1=q.1/\H q.2.1=some (.tup (p.1.map kV))/\RelV p.2 q.2.2
theorem KT.val{kvs:List (List Key×V)}{xs:List (List Key×Aw×Av)}(r:KT H kvs xs)(k:List Key):gC (Yj kvs k) ((atKey xs k).map (·.2)):=by
 induction r with
 |nil=>exact True.intro
 | @cons p q ps C h t F=>
  obtain⟨h1,_,h2⟩:=h
  by_cases e:p.1=k
  ·have D:q.1=k:=h1.symm.trans e;have b:atKey (q::C) k=some q.2:=by simp[atKey,Qdp,D]
   rw[Yk e,b];exact h2
  ·have D:¬q.1=k:=fun z=>e (h1.trans z)
   have b:atKey (q::C) k=atKey C k:=by simp[atKey,Qdp,D]
   rw[Yf e,b];exact F
theorem KT.repl{kvs:List (List Key×V)}{xs:List (List Key×Aw×Av)}(r:KT H kvs xs)(k:List Key){u:Av}(F:RelV y u):
  KT H (kvs.map fun C=>if C.1=k then(C.1,y)else C) (xs.map (putAt k u)):=by
 induction r with
 |nil=>exact .nil
 | @cons p q ps I h t D=>
  refine .cons ?_ D;obtain⟨h1,h2,G⟩:=h;unfold putAt
  by_cases e:p.1=k
  ·grind
  ·grind
def KT.put{kvs:List (List Key×V)}{xs:List (List Key×Aw×Av)}(r:KT H kvs xs)(k:List Key){b:Aw}{u:Av}(D:H b=some (.tup (k.map kV)))(C:RelV y u):
  KT H (putK kvs k y) (storedH xs k b u):=by
 have e:(kvs.any fun F=>decide (F.1=k))=(atKey xs k).isSome:=by
  rw[X4,(r.val k).isSome_eq,Qg3]
 unfold putK storedH;rw[e]
 by_cases q:(atKey xs k).isSome=true
 ·rw[Qa3 q,Qa3 q];exact r.repl k C
 ·rw[Qax q,Qax q];exact Paired.snoc r ⟨rfl,D,C⟩
theorem KT.keeps{H':Hp}{kvs:List (List Key×V)}{xs:List (List Key×Aw×Av)}(r:KT H kvs xs)(q:∀b ys,H b=some (.tup ys)->H' b=some (.tup ys)):KT H' kvs xs:=
 Paired.mapP r fun _ _ z=>⟨z.1,q _ _ z.2.1,z.2.2⟩
section
variable {P:Aq}{w:Au}{H:Hp}{h:Heap}{a:Aw}
def Zlo{u:HO}(ok:HOk P w H h)(e:Rd H a u):Y2 P w H h a u:=e.ok ok
theorem yo{kvs:A0}(ok:HOk P w H h)(e:Rd H a (.dK kvs)):kvs.length<=sizeLine/\(a == sysModules)=false/\∃vs,KV kvs vs/\h.DictOf (ZI P w) a vs:=
 show Y2 P w H h a (.dK kvs)from Zlo ok e
def Zih{kvs:A0}(ok:HOk P w H h)(e:H a=some (.dK kvs)):kvs.length<=sizeLine/\(a == sysModules)=false/\∃vs,KV kvs vs/\h.DictOf (ZI P w) a vs:=yo ok (.inl e)
def yp{ks:List Key}(ok:HOk P w H h)(e:H a=some (.tup (ks.map kV))):(tupleKind (ZI P w)).is h ks a:=by
 obtain⟨_,q,r,o,h1,h2,⟨n,C⟩,_⟩:=(show Y2 P w H h a (.tup (ks.map kV))from ok a _ e);exact⟨o,q.toArray,n,h1,h2,C,by simpa using yn r⟩
theorem Za5{kvs:List (List Key×V)}(ok:HOk P w H h)(e:Rd H a (.dT kvs)):kvs.length<=sizeLine/\(a == sysModules)=false /\
  ∃xs,KT H kvs xs/\h.DictOfH (tupleKind (ZI P w)) a xs:=by
 obtain⟨z,y,xs,r,o,es,ep,h1,h2,F,I,G⟩:=(show Y2 P w H h a (.dT kvs)from Zlo ok e);refine⟨z,y,xs,r,o,es,ep,h1,h2,F,I,fun x C=>?_,G⟩;have all:∀{l:List (List Key×V)} {m:List (List Key×Aw×Av)},KT H l m->∀x∈m,(tupleKind (ZI P w)).is h x.1 x.2.1:=by
  intro l m q
  induction q with
  |nil=>intro x C;exact nomatch C
  | @cons p q ps L D t J=>
   intro x C;rcases Qao.mp C with e|C
   ·subst e;exact yp ok (by rw[<-D.1];exact D.2.1)
   ·exact J x C
 exact all r x C
theorem dt_of{kvs:List (List Key×V)}(ok:HOk P w H h)(e:H a=some (.dT kvs)):kvs.length<=sizeLine/\(a == sysModules)=false /\
  ∃xs,KT H kvs xs/\h.DictOfH (tupleKind (ZI P w)) a xs:=Za5 ok (.inl e)
end
def gQ(H:Hp)(a:Aw)(y:V)(r:Option V):Prop:=
 (∃kvs k,Rd H a (.dK kvs)/\y=kV k/\r=Yj kvs k)\/∃kvs k b,Rd H a (.dT kvs)/\y=.ref b/\H b=some (.tup (k.map kV))/\r=Yj kvs k
def uM(H:Hp)(a:Aw)(y v:V)(H':Hp):Prop:=
 (∃kvs k,H a=some (.dK kvs)/\y=kV k/\kvs.length<sizeLine/\H'=upd H a (.dK (putK kvs k v))) \/
 ∃kvs k b,H a=some (.dT kvs)/\y=.ref b/\H b=some (.tup (k.map kV))/\kvs.length<sizeLine/\H'=upd H a (.dT (putK kvs k v))
def gQ.t{b:Aw}{kvs:List (List Key×V)}{k:List Key}(e:H a=some (.dT kvs))(q:H b=some (.tup (k.map kV))):gQ H a (.ref b) (Yj kvs k):=.inr ⟨kvs,k,b,.inl e,rfl,q,rfl⟩
def uM.k{H:Hp}{a:Aw}{kvs:A0}{k:Key}{v:V}(e:H a=some (.dK kvs))(q:kvs.length<sizeLine):uM H a (kV k) v (upd H a (.dK (putK kvs k v))):=.inl ⟨kvs,k,e,rfl,q,rfl⟩
theorem uM.t{b:Aw}{kvs:List (List Key×V)}{k:List Key}{v:V}(e:H a=some (.dT kvs))(C:H b=some (.tup (k.map kV)))(q:kvs.length<sizeLine):
  uM H a (.ref b) v (upd H a (.dT (putK kvs k v))):=.inr ⟨kvs,k,b,e,rfl,C,q,rfl⟩
section
variable {X:Cx}{pins:Ac}{σ:St}{H:Hp}{s:As}{a:Aw}{y v:V}{u r:Av}{o:Option V}{A:Ar}{E:Ab}
def Inv.big(I:Inv X pins σ H s):sysModules<s.heap.objs.size:=by
 have h:mainGlobals<s.heap.objs.size:=(I.mod.glob.keeps I.bk).lt;exact Nat.lt_trans (by decide) h
def Za6(Y:A.units+1<cLine)(I:Inv X pins σ H s)(g:gQ H a y (some v))(J:RelV y u)(h:∀D s',Inv X pins σ H s'->RelV v D->Q D s'):
  A3 X.prog X.w A (getItem (.ref a) u) Q E s:=by
 rcases g with⟨kvs,k,e,G,l⟩|⟨kvs,k,b,e,G,L,l⟩
 ·subst G;obtain⟨z,O,vs,C,dd⟩:=yo I.hok e;obtain⟨D,hw,q⟩:=gC.some_of (v:=v) (o:=valueAt vs k) (by rw[l];exact C.val k);exact wpAny_getItem_of (ym J) dd.mapOf hw (h D _ (I.tok _) q)
 ·subst G;cases(show u=Value.ref b from J);obtain⟨z,O,xs,C,dd⟩:=Za5 I.hok e;obtain⟨D,hw,q⟩:=gC.some_of (v:=v) (o:=(atKey xs k).map (·.2)) (by rw[l];exact C.val k);obtain⟨p,M,F⟩:=Qa4.mp hw;refine wpAny_getItem_heap (Qfn Y) (yp I.hok L) dd M ?_;rw[F];exact h D _ (I.tok _) q
def d_in(L:A.units+1<cLine)(I:Inv X pins σ H s)(g:gQ H a y o)(G:RelV y u)(h:∀s',Inv X pins σ H s'->Q (.bool o.isSome) s'):
  A3 X.prog X.w A (compareOp .In u (.ref a)) Q E s:=by
 rcases g with⟨kvs,k,e,F,l⟩|⟨kvs,k,b,e,F,J,l⟩
 ·subst F;obtain⟨z,D,vs,C,dd⟩:=yo I.hok e;refine wpAny_in_of (ym G) D dd.mapOf ?_;rw[<-(C.val k).isSome_eq,<-l];exact h _ (I.tok _)
 ·subst F;cases(show u=Value.ref b from G);obtain⟨z,D,xs,C,dd⟩:=Za5 I.hok e;refine wpAny_in_heap (Qfn L) (yp I.hok J) D dd ?_;have q:=(C.val k).isSome_eq;rw[Qg3]at q;rw[<-q,<-l];exact h _ (I.tok _)
def Zii(L:A.units+1<cLine)(I:Inv X pins σ H s)(g:gQ H a y o)(G:RelV y u)(h:∀s',Inv X pins σ H s'->Q (.bool (!o.isSome)) s'):
  A3 X.prog X.w A (compareOp .NotIn u (.ref a)) Q E s:=by
 rcases g with⟨kvs,k,e,F,l⟩|⟨kvs,k,b,e,F,J,l⟩
 ·subst F;obtain⟨z,D,vs,C,dd⟩:=yo I.hok e;refine wpAny_notIn_of (ym G) D dd.mapOf ?_;rw[<-(C.val k).isSome_eq,<-l];exact h _ (I.tok _)
 ·subst F;cases(show u=Value.ref b from G);obtain⟨z,D,xs,C,dd⟩:=Za5 I.hok e;refine wpAny_notIn_heap (Qfn L) (yp I.hok J) D dd ?_;have q:=(C.val k).isSome_eq;rw[Qg3]at q;rw[<-q,<-l];exact h _ (I.tok _)
theorem jd{h':Heap}{t':Nat}{ob:HO}(I:Inv X pins σ H s)(F:Mut (H a))(hs:Heap.SameBut a s.heap h')(D:∃q,h'.get? a=some q)(new:Y2 X.prog X.w (upd H a ob) h' a ob):
  Inv X pins σ (upd H a ob) {s with heap:=h',toks:=t'}:=
 I.write (x:=a) (e:=a) F (.inl rfl) (fun b q C z=>(hs.2 b C).trans z) D new
theorem Za7{H':Hp}{h':Heap}{kvs:A0}{vs:List (Key×Av)}(z:kvs.length<=sizeLine)(C:(a == sysModules)=false)(q:KV kvs vs)(dd:h'.DictOf (ZI P w) a vs):
  Y2 P w H' h' a (.dK kvs):=⟨z,C,vs,q,dd⟩
def Za8{H':Hp}{Q:Unit->Shared->Prop}(hu:A.units+1<cLine)(I:Inv X pins σ H s)(g:uM H a y v H')(ry:RelV y u)(Y:RelV v r)(h:∀s',Inv X pins σ H' s'->Q () s'):
  A3 X.prog X.w A (setItem (.ref a) u r) Q E s:=by
 rcases g with⟨kvs,k,e,L,l,M⟩|⟨kvs,k,b,e,L,O,l,M⟩
 ·subst L M;obtain⟨z,J,vs,C,dd⟩:=Zih I.hok e;have F:vs.length<=sizeLine:=by rw[<-C.length];exact z
  have G:(putK kvs k v).length<=sizeLine:=by have:=Wc kvs k v;lia
  refine wpAny_setItem_pairs (hsz:=F) (ym ry) dd fun h' dd' hs=>h _ ?_;have he:∃q,h'.get? a=some q:=let⟨q,_,_,D,_⟩:=dd';⟨q,D⟩;exact jd I (by rw[e];exact True.intro) hs he (Za7 G J (C.put k Y) dd')
 ·subst L M;cases(show u=Value.ref b from ry);obtain⟨z,J,xs,C,dd⟩:=dt_of I.hok e;have F:xs.length<=sizeLine:=by rw[<-Qfk C];exact z
  have G:(putK kvs k v).length<=sizeLine:=by have:=Wc kvs k v;lia
  refine wpAny_setItem_heap (hsz:=F) (Qfn hu) (yp I.hok O) dd fun h' dd' hs=>h _ ?_;obtain⟨q,es,ep,D,h2,h3,h4,_,h5⟩:=dd';refine jd I (by rw[e];exact True.intro) hs ⟨q,D⟩ ⟨G,J,_,(C.put k O Y).keeps fun c ys Z=>?_,q,es,ep,D,h2,h3,h4,h5⟩;rw[Zk (Xm Z e (fun z=>nomatch z))];exact Z
end
section
variable {X:Cx}{pins:Ac}{σ:St}{H:Hp}{s:As}{a:Aw}{kvs:A0}{k:Key}{u:Av}{A:Ar}{E:Ab}
end
def Zmo(i:Ax):Prop:=∀q C,subscripted i false q C=operate [q,C] (getItem q C)
def Za9{prog:Aq}{A:Ar}{E:Ab}{env:Env}{q:Ax}{T id:String}
  (J:typeLookup (.type T) "__getitem__" = pure (some (.builtin id))) (hs:Zmo q)
  (h:A3 prog w A (eval e env) (fun o F=>A3 prog w A (eval q env) (fun i s₂=>s₂.TypeIs o T/\A3 prog w A (getItem o i) Q E s₂) E F) E s):
  A3 prog w A (eval (.Subscript e q p) env) Q E s:=by
 refine Subscript_ (Qdi h (fun o F G=>Qdi G (fun i s₂ C=>?_) fun _ _ x=>x) fun _ _ x=>x);obtain⟨L,C⟩:=C;refine Qaa ?_;refine Qaa (Qea L J ?_);have fin:A3 prog w A (subscripted q false o i) (fun r D=>A3 prog w A (letTemporaryGo e o r >>= fun _=>pure r) Q E D) E s₂:=by
  rw[hs o i];exact wpAny_operating (Qdi C (fun r D I=>Qaa (wpAny_letTemporaryGo (Qae I))) fun _ _ x=>x)
 first
  |exact Qae (Qaa fin)
  |exact Qaa (Qae (Qaa fin))
  |exact Qaa fin
def vG {X:Cx} {pins:Ac}      {o:Option V} (I:Inv X pins c H s) (g:gQ H a y o):s.TypeIs (.ref a) "dict" :=by
 rcases g with⟨kvs,k,e,_,_⟩|⟨kvs,k,b,e,_,_,_⟩
 ·obtain⟨_,_,vs,_,dd⟩:=yo I.hok e;exact dd.typeIs
 ·obtain⟨_,_,xs,_,dd⟩:=Za5 I.hok e;exact dd.typeIs
def Zlp(td ty:TE):TE:=fun σ H Q=>td σ H fun x H1=>ty σ H1 fun y H2=>∃a v,x=.ref a/\gQ H2 a y (some v)/\Q v H2
def Zlq(td ty tv:TE):TS:=fun D σ H=>tv σ H fun v H1=>td σ H1 fun x H2=>ty σ H2 fun y C=>∃a q,x=.ref a/\uM C a y v q/\D.nx σ q
section
variable {X:Cx}{o i e value:Ax}{pos pos' tpos:Pos}{td ty tv:TE}
def Zij(O:X.A.units+1<cLine)(ho:PE X o td)(hi:PE X i ty)(hs:Zmo i):PE X (.Subscript o i pos) (Zlp td ty):=by
 intro pins s σ H Q I h;refine Za9 PySem.F.slot_dict_getitem.lookup hs (thn (ho pins s σ H _ I h) fun u G ⟨x,H1,J,Y,M⟩=>thn (hi pins G σ H1 _ J M) fun iv s2 ⟨y,H2,C,L,a,v,ex,g,D⟩=>?_);subst ex;obtain rfl:u=Value.ref a:=Y;exact⟨vG C g,Za6 O C g L fun w' s3 Z q=>⟨v,H2,Z,q,D⟩⟩
def Zik(hu:X.A.units+1<cLine)(ho:PE X o td)(hi:PE X i ty)(C:PE X value tv)(hs:swapsWith value (some (.Subscript o i pos')) pos.line X.env=pure false):
  PS X (.Assign [.Subscript o i pos'] value pos) (Zlq td ty tv):=by
 intro pins s σ H D I h;refine wpAny_Assign_Subscript (thn (C pins s σ H _ I h) fun r Z ⟨v,H1,I1,O,q1⟩=>thn (ho pins Z σ H1 _ I1 q1) fun u F ⟨x,H2,q,rx,Y⟩=>thn (hi pins F σ H2 _ q Y) fun iv s3 ⟨y,H3,L,ry,a,J,ex,g,G⟩=>?_) hs;subst ex;obtain rfl:u=Value.ref a:=rx;exact Za8 hu L g ry O fun s4 M=>⟨σ,J,M,G⟩
end
theorem je    (h:Heap) (q:sysModules<h.objs.size):Y2 P w H (h.push {cls:=.type "dict",data:=.dict #[]}) h.objs.size (.dK []):=
 ⟨Qbl _,Qei.mpr (Qd5 (Qbg q)),[],.nil,Heap.DictOf.new h⟩
theorem Zel    (h:Heap) (q:sysModules<h.objs.size):Y2 P w H (h.push {cls:=.type "dict",data:=.dict #[]}) h.objs.size (.dT []):=
 ⟨Qbl _,Qei.mpr (Qd5 (Qbg q)),[],.nil,_,#[],0,Qam _ rfl,⟨rfl,rfl,rfl⟩,rfl,rfl,Qck⟩
def Zgp:TE:=fun _ H Q=>∀p,H p=none->Q (.ref p) (upd H p (.dK []))
def Zgq:TE:=fun _ H Q=>∀p,H p=none->Q (.ref p) (upd H p (.dT []))
section
variable {X:Cx}{pos:Pos}
theorem Zem:PE X (.Dict [] [] pos) Zgp:=fun pins s σ H Q I h=>
 wpAny_Dict_empty ⟨.ref s.heap.objs.size,_,I.laid (a:=s.heap.objs.size) (o:=.dK []) (t':=s.toks) (fun _ _ q=>Qad _ q) (Qak _) (je s.heap I.big),rfl,h _ (I.hok.fresh (Qak _))⟩
theorem Zen:PE X (.Dict [] [] pos) Zgq:=fun pins s σ H Q I h=>
 wpAny_Dict_empty ⟨.ref s.heap.objs.size,_,I.laid (a:=s.heap.objs.size) (o:=.dT []) (t':=s.toks) (fun _ _ q=>Qad _ q) (Qak _) (Zel s.heap I.big),rfl,h _ (I.hok.fresh (Qak _))⟩
end
def Zba:List (TE×TE)->St->Hp->(List (V×V)->Hp->Prop)->Prop
 |[],_,H,Q=>Q [] H
 |(tk,tv)::r,σ,H,Q=>tk σ H fun x H1=>tv σ H1 fun y H2=>Zba r σ H2 fun ps q=>Q ((x,y)::ps) q
abbrev VV:List (V×V)->List (Av×Av)->Prop:=Paired fun p q=>RelV p.1 q.1/\RelV p.2 q.2
def PPs(X:Cx)(pos:Pos)(keys:List (Option Ax))(q:An)(C:List (TE×TE)):Prop:=
 ∀(pins:Ac) (s:As) (σ:St) (H:Hp) (Q:List (V×V)->Hp->Prop),Inv X pins σ H s->Zba C σ H Q->
  A4 X (evalPairs (pairTrees keys q X.env pos)) (fun vs s'=>∃ps H',Inv X pins σ H' s'/\VV ps vs/\Q ps H') X.xe s
def Zil{X:Cx}:PPs X p [] [] []:=fun pins s σ H Q I h=>pairTrees_nil_walk ⟨[],H,I,.nil,h⟩
theorem Zeo{X:Cx}{k v:Ax}{ks:List (Option Ax)}{vs:An}{tk:TE}{q:List (TE×TE)}(G:PE X k tk)(F:PE X v I)(J:PPs X p ks vs q):
  PPs X p (some k::ks) (v::vs) ((tk,I)::q):=fun pins s σ H Q C h=>
 pairTrees_cons_walk (thn (G pins s σ H _ C h) fun u s1 ⟨x,H1,I1,Z,q1⟩=>thn (F pins s1 σ H1 _ I1 q1) fun w2 L ⟨y,H2,I2,ry,Y⟩=>
  thn (J pins L σ H2 _ I2 Y) fun ws s3 ⟨ps,H3,O,D,M⟩=>⟨(x,y)::ps,H3,O,.cons ⟨Z,ry⟩ D,M⟩)
def zm(kvs q:A0):A0:=q.foldl (fun acc C=>putK acc C.1 C.2) kvs
theorem KV.merge:∀{C:A0} {D:List (Key×Av)} {kvs:A0} {vs:List (Key×Av)},KV C D->KV kvs vs->KV (zm kvs C) (merged vs D):=by
 intro C D kvs vs r
 induction r generalizing kvs vs with
 |nil=>intro q;exact q
 | @cons p q ps I h t G=>
  intro F;have e:KV (putK kvs p.1 p.2) (stored vs q.1 q.2):=by
   have:=F.put p.1 h.2;rw[<-h.1];exact this
  exact G e
theorem Jw:∀(q kvs:A0),(zm kvs q).length<=kvs.length+q.length
 |[],kvs=>by show kvs.length<=kvs.length+0;lia
 |p::r,kvs=>by
  have h1:=Jw r (putK kvs p.1 p.2);have h2:=Wc kvs p.1 p.2;show(zm (putK kvs p.1 p.2) r).length<=_;rw[Qba];lia
theorem zo{P:Aq}{w:Au}:∀{kvs:A0} {D:List (Av×Av)},VV (kvs.map fun F=>(kV F.1,F.2)) D->∃C,Carries (ZI P w) D C/\KV kvs C
 |[],_,r=>by cases r;exact⟨[],True.intro,.nil⟩
 |p::kvs,_,r=>by
  cases r with
  | @cons a b as bs h t=>
   obtain⟨C,c,q⟩:=zo (P:=P) (w:=w) t;obtain⟨b1,b2⟩:=b;exact⟨(p.1,b2)::C,⟨ym h.1,rfl,c⟩,.cons ⟨rfl,h.2⟩ q⟩
def Zlr(q:List (TE×TE)):TE:=fun σ H Q=>∀p,H p=none->Zba q σ (upd H p (.dK [])) fun ps H2=>H2 p=some (.dK [])/\∃kvs:A0,ps=kvs.map (fun C=>(kV C.1,C.2))/\kvs.length<=15/\Q (.ref p) (upd H2 p (.dK (zm [] kvs)))
def Zim{X:Cx}{keys:List (Option Ax)}{C:List (TE×TE)}(h:PPs X p keys A C)(D:keys.all (·.isSome)=true)(hl:keys.length=A.length)(h0:keys≠[])
  (G:keys.length<=15):PE X (.Dict keys A p) (Zlr C):=by
 intro pins s σ H Q I q;have hn:=I.hok.fresh (Qak s.heap.objs.size);have I1:=I.laid (a:=s.heap.objs.size) (o:=.dK []) (h':=s.heap.push {cls:=.type "dict",data:=.dict #[]}) (t':=s.toks) (fun _ _ q=>Qad _ q) (Qak _) (je s.heap I.big);refine wpAny_Dict_walk (knd:=ZI X.prog X.w) D hl h0 G (thn (h pins _ σ _ _ I1 (q _ hn)) fun ws s2 ⟨ps,H2,J,F,e,kvs,ep,lk,Y⟩=>?_);subst ep;obtain⟨rs,c,M⟩:=zo (P:=X.prog) (w:=X.w) F;obtain⟨z,hd,O,r0,dd⟩:=Zih J.hok e;cases r0;refine⟨rs,c,dd,fun h' dd' hs=>⟨.ref s.heap.objs.size,_,?_,rfl,Y⟩⟩;have L:(zm [] kvs).length<=sizeLine:=by
  have h1:=Jw kvs [];rw[Qev]at h1;rw[Qhd];lia
 have Z:∃q,h'.get? s.heap.objs.size=some q:=let⟨q,_,_,hq,_⟩:=dd';⟨q,hq⟩;exact jd J (by rw[e];exact True.intro) hs Z (Za7 L hd (M.merge .nil) dd')
structure M2(X:Cx)(o:Ax)(m:Str)(apos:Pos)(e f:Ax)(cpos:Pos):Prop where
 base:attributeBase o m X.env (eval o X.env)=eval o X.env
 few:((backTo cpos (starEach [e,f] X.env)).all (fun x=>!x.1)&&(backToKw cpos (keywordEach [] X.env)).all (fun x=>x.1.isSome)
  && decide (([e,f]:An).length+([]:List Keyword).length+(if([]:List Keyword).isEmpty then 0 else 1)<30))=true
 line:(apos.endLine == cpos.line)=true
 trees:backTo cpos (starEach [e,f] X.env)=[(false,eval e X.env),(false,eval f X.env)]
section
variable {X:Cx}{pins:Ac}{σ:St}{H:Hp}{s:As}{a:Aw}{y d:V}{u r:Av}{o:Option V}{A:Ar}{E:Ab}
end
section
variable {X:Cx}{o e f:Ax}{apos cpos:Pos}{td ty tx:TE}
end
section
variable {X:Cx}{pins:Ac}{σ:St}{H:Hp}{s:As}{a:Aw}{kvs:A0}{A:Ar}{E:Ab}
def Zep  (I:Inv X pins σ H s) (e:Rd H a (.dK kvs)) (h:∀p s',H p=none->Inv X pins σ (upd H p (.dK kvs)) s'->Q (.ref p) s'):A3 X.prog X.w A (call (.type "dict") [.ref a]) Q E s:=by
 obtain⟨z,F,vs,C,dd⟩:=yo I.hok e;refine kt_call_dict F dd (by rw[<-C.length];exact z) fun h' dd' hs=>?_;refine h _ _ (I.hok.fresh (Qak _)) (I.laid (a:=s.heap.objs.size) (o:=.dK kvs) (t':=s.toks) (fun b q D=>?_) (Qak _) (Za7 z (Qei.mpr (Qd5 (Qbg I.big))) C dd'));exact(hs.2 b (Qbg (Qaq D))).trans (Qad _ D)
end
section
variable {X:Cx}{pins:Ac}{σ:St}{H:Hp}{s:As}{a:Aw}{y:V}{u:Av}{A:Ar}{E:Ab}
end
end L2
namespace EnT
section
variable {prog:Aq}{w:Au}{A:Ar}{E:Ab}{s:As}
def next_of{it l:Aw}{items:_}{x:Av}(q:s.heap.IsTupleIter it l i)(L:s.heap.IsTuple l items)(G:items[i]?=some x)
  (J:∀h',h'.IsTupleIter it l (i+1)->Heap.SameBut it s.heap h'->Q x {s with heap:=h'}):A3 prog w A (Builtin.SmallTypes.nextOf (.ref it)) Q E s:=by
 obtain⟨o,ho,I,C⟩:=id q;obtain⟨O,F,_,M,D⟩:=L;refine Qaa (wpAny_callSpecial?_slot (name:=Str.ofString "__next__") q.typeIs Qd1 (Qbf Qd1 q.typeIs Qgg ?_ (Qga _)));show wpAny _ _ (field (.ref it) 0 >>= _) _ _ s;refine Qaa (Qbw ho C (x:=.ref l) rfl ?_);refine Qaa (Qbw ho C (x:=.int i 0) rfl ?_);refine Qaa (Qci F D ?_);simp only[Qbp,G];refine Qaa (Qdc ho C (by simp) (Qae ⟨x,rfl,Qae (J _ ⟨_,Qbs _ ho (Qct (Qbv C _)),(Qe5 ..).trans I,?_⟩ (Qb5 ..))⟩));rw[Qbv C];simp[rawInt]
def next_no{it l:Aw}{items:_}(hh:A.handled=none)(q:s.heap.IsTupleIter it l i)(J:s.heap.IsTuple l items)(G:items[i]?=none)
  (I:∀h' e,Heap.ExtBut it s.heap h'->(∃o,h'.get? e=some o/\o.cls=.type "StopIteration")->E (.ref e) {s with heap:=h'}):A3 prog w A (Builtin.SmallTypes.nextOf (.ref it)) Q E s:=by
 obtain⟨o,ho,L,D⟩:=id q;obtain⟨M,F,_,O,C⟩:=J;refine Qaa (wpAny_callSpecial?_slot (name:=Str.ofString "__next__") q.typeIs Qd1 (Qbf Qd1 q.typeIs Qgg ?_ (Qga _)));show wpAny _ _ (field (.ref it) 0 >>= _) _ _ s;refine Qaa (Qbw ho D (x:=.ref l) rfl ?_);refine Qaa (Qbw ho D (x:=.int i 0) rfl ?_);refine Qaa (Qci F C ?_);simp only[Qbp,G];refine Qaa (Qdg (Qaa (Qdc ho D (by simp) ?_)));refine Qaa ?_;refine Qaa (Qbe ?_ (by size_fits));refine Qaa (m:=firstArgMember _ _) (Qcj (a:=Value.none) (by first|rfl|(rfl)) ?_);refine Qbe ?_ (by size_fits);refine Qaa (Qhc ?_)
 first|rw[show A.in1.handled=none from hh]|rw[hh]
 refine Qaa (Qae (Qhx ?_));exact I _ _ (((Qb5 ..).extBut.push _).push _) ⟨_,Qam _ rfl,rfl⟩
end
end EnT
namespace ZpT
def ZJ:Bool->Heap->Addr->Addr->Nat->Prop
 |true,h,it,l,k=>h.IsTupleIter it l k
 |false,h,it,l,k=>h.IsListIter it l k
def SeqAt:Bool->Heap->Addr->Array Av->Prop
 |true,h,l,xs=>h.IsTuple l xs
 |false,h,l,xs=>h.IsList l xs
def ZJ.mv{b:Bool}{h':Heap}{it l:Aw}{k:Nat}(x:ZJ b h it l k)(f:∀o,h.get? it=some o->h'.get? it=some o):ZJ b h' it l k:=by
 cases b
 ·exact Heap.IsListIter.at x f
 ·exact Heap.IsTupleIter.at x f
def SeqAt.mv{b:Bool}{h':Heap}{l:Aw}{xs:Ah}(x:SeqAt b h l xs)(f:∀o,h.get? l=some o->h'.get? l=some o):SeqAt b h' l xs:=by
 cases b
 ·obtain⟨o,ho,r⟩:=(show h.IsList l xs from x);exact(show h'.IsList l xs from⟨o,f o ho,r⟩)
 ·obtain⟨o,ho,r⟩:=(show h.IsTuple l xs from x);exact(show h'.IsTuple l xs from⟨o,f o ho,r⟩)
def ZJ.ob{b:Bool}{it l:Aw}{k:Nat}(x:ZJ b h it l k):∃o,h.get? it=some o/\∀v,o.data≠.cell v:=by
 cases b
 ·obtain⟨o,ho,C,q⟩:=(show h.IsListIter it l k from x);exact⟨o,ho,fun v z=>by rw[q]at z;cases z⟩
 ·obtain⟨o,ho,C,q⟩:=(show h.IsTupleIter it l k from x);exact⟨o,ho,fun v z=>by rw[q]at z;cases z⟩
def itO (b:Bool) (l:Aw):Obj:={cls:=.type (if b then "tuple_iterator" else "list_iterator"),data:=.fields #[.ref l,.int 0 0]}
section
variable {prog:Aq}{w:Au}{A:Ar}{E:Ab}{s:As}
def W0{b:Bool}{it l:Aw}{k:Nat}{xs:Ah}{x:Av}(q:ZJ b s.heap it l k)(F:SeqAt b s.heap l xs)(C:xs[k]?=some x)
  (D:∀h',ZJ b h' it l (k+1)->Heap.SameBut it s.heap h'->Q x {s with heap:=h'}):A3 prog w A (Builtin.SmallTypes.nextOf (.ref it)) Q E s:=by
 cases b
 ·exact wpAny_nextOf_list_item q F C D
 ·exact EnT.next_of q F C D
def zp{b:Bool}{it l:Aw}{k:Nat}{xs:Ah}(hh:A.handled=none)(q:ZJ b s.heap it l k)(F:SeqAt b s.heap l xs)(C:xs[k]?=none)
  (D:∀h' e,Heap.ExtBut it s.heap h'->(∃o,h'.get? e=some o/\o.cls=.type "StopIteration")->E (.ref e) {s with heap:=h'}):A3 prog w A (Builtin.SmallTypes.nextOf (.ref it)) Q E s:=by
 cases b
 ·exact wpAny_nextOf_list_end hh q F C D
 ·exact EnT.next_no hh q F C D
def XN{b:Bool}{l:Aw}{xs:Ah}(q:SeqAt b s.heap l xs)(h:Q (.ref s.heap.objs.size) {s with heap:=s.heap.push (itO b l)}):A3 prog w A (pyIter (.ref l)) Q E s:=by
 cases b
 ·exact Qe4 q h
 ·exact wpAny_pyIter_tuple q h
def GQ{b:Bool}{it l:Aw}(e:h.get? it=some (itO b l)):ZJ b h it l 0:=by
 cases b
 ·exact(show h.IsListIter it l 0 from⟨_,e,rfl,rfl⟩)
 ·exact(show h.IsTupleIter it l 0 from⟨_,e,rfl,rfl⟩)
end
end ZpT
namespace L2
open ZpT (SeqAt ZJ)
def SqB(K:Af):Bool->Hp->Addr->List V->Prop
 |true,H,a,xs=>SqT K H a xs
 |false,H,a,xs=>SqL K H a xs
def SqB.t{xs:A2}(h:H a=some (.tup xs)):SqB K true H a xs:=(SqT.of h:SqT K H a xs)
def SqB.l{xs:A2}(h:H a=some (.lst xs)):SqB K false H a xs:=(SqL.of h:SqL K H a xs)
def Inv.sqB{X:Cx}{σ:L2.St}{xs:A2}{b:Bool}(I:Inv X g σ H s)(h:SqB X.K b H a xs):∃q:Ag,Vals xs q/\SeqAt b s.heap a q.toArray/\xs.length<=sizeLine:=by
 cases b
 ·obtain⟨q,C,p,D⟩:=I.list (show SqL X.K H a xs from h);obtain⟨o,n,e,F,_,G⟩:=p;exact⟨q,C,(show s.heap.IsList a q.toArray from⟨o,e,F,n,G⟩),D⟩
 ·obtain⟨q,C,p,D⟩:=I.tuple (show SqT X.K H a xs from h);exact⟨q,C,(show s.heap.IsTuple a q.toArray from p),D⟩
def Inv.sqB_inj{X:Cx}{σ:L2.St}{xs ys:A2}{b:Bool}(I:Inv X g σ H s)(h:SqB X.K b H a xs)(h':SqB X.K b H a ys):xs=ys:=by
 cases b
 ·exact I.list_inj h h'
 ·exact I.tuple_inj h h'
end L2
namespace EnT
open AutoSeq1 (wpAny_loadPart')
open ZpT (SeqAt ZJ itO XN W0 zp GQ)
def enO (it:Aw):Obj:={cls:=.type "enumerate",data:=.fields #[.none,.bool false,.ref it,rawInt 0,.none,.none]}
theorem Wy(b:Bool)(l:Aw)(items:Ah):
  Meets (Builtin.«enumerate.__new__» ⟨[.type "enumerate",.ref l],[]⟩) (fun _ R s=>SeqAt b s.heap l items /\
   R (.ok (.ret (.ref (s.heap.push (itO b l)).objs.size))) {s with heap:=(s.heap.push (itO b l)).push (enO s.heap.objs.size)}):=
 .of_wp fun prog w A R s h=>by
  obtain⟨D,g,d,tk,os⟩:=s;obtain⟨F,h⟩:=h;have G:=sub_enumerate;have q:SeqAt b (Shared.heap ⟨D,g,d,tk,os⟩) l items:=F;obtain⟨o,C,J⟩:∃o,D.get? l=some o/\∀v,o.data≠.cell v:=by cases b<;>(obtain⟨o,e,_,_,I⟩:=F;exact⟨o,e,fun v z=>by rw[I]at z;cases z⟩)
  wp_walk using wpAny_loadPart' C
  refine wpAny_stack_any fun st=>Qae ?_
  split
  ·rename_i c _ _ _ _ _;cases(c == Value.type "enumerate")
   ·wp_walk using wpAny_loadPart' C,XN q
    exact⟨_,rfl,h⟩
   ·wp_walk using wpAny_loadPart' C,XN q
    exact⟨_,rfl,h⟩
  ·wp_walk using wpAny_loadPart' C,XN q
   exact⟨_,rfl,h⟩
section
variable {prog:Aq}{w:Au}{A:Ar}{E:Ab}{s:As}
def Zin{b:Bool}{e it l:Aw}{items:Ah}{x old:Av}
  (he:IsEnum s.heap e it i old) (hit:ZJ b s.heap it l i) (hl:SeqAt b s.heap l items) (hx:items[i]?=some x) (Y:e≠it)
  (hQ:∀h',IsEnumOut h' e it ((i:Int)+1) x s.heap.objs.size->ZJ b h' it l (i+1)->
   h'.get? s.heap.objs.size=some {cls:=.type "tuple",data:=.seq #[.int i s.toks,x]}->h'.objs.size=s.heap.objs.size+1->
   (∀b o,b≠e->b≠it->s.heap.get? b=some o->h'.get? b=some o)->Q (.ref s.heap.objs.size) {s with heap:=h',toks:=s.toks+1}):
  A3 prog w A (Builtin.«enumerate.__next__» ⟨[.ref e],[]⟩) (fun fin s'=>∃v,fin=.done (.ret v)/\Q v s') E s:=by
 obtain⟨hp,g,d,tk,os⟩:=s;show wpAny _ _ (field (.ref e) 2 >>= _) _ _ _;refine Qaa (Qbw he rfl (x:=.ref it) rfl ?_);refine Qaa (W0 hit hl hx fun h₁ hit₁ I=>?_);have M:IsEnum h₁ e it i old:=(I.2 e Y).trans he;refine Qaa (Qbw M rfl (x:=rawInt i) rfl ?_);refine Qaa (Qbw M rfl (x:=.none) rfl ?_);refine Qaa (Qgf ?_);refine Qaa (Qcc M (by simp) fun h₂ he₂ J=>?_);refine Qaa (Qcc he₂ (by simp) fun Z he₃ L=>?_);refine Qaa (Qg0 ?_);have D:IsEnum (Z.push {cls:=.type "tuple",data:=.seq #[.int i tk,x]}) e it ((i:Int)+1) old:=Qad _ he₃;generalize hh₄:Z.push {cls:=.type "tuple",data:=.seq #[.int i tk,x]}=G at D;have hsz:Z.objs.size=hp.objs.size:=by rw[L.1,J.1,I.1]
 have hel:e<hp.objs.size:=Qaq he;have ht₄:G.get? hp.objs.size=some {cls:=.type "tuple",data:=.seq #[.int i tk,x]}:=by rw[<-hh₄,<-hsz];exact Qam _ rfl
 have hz₄:G.objs.size=hp.objs.size+1:=by rw[<-hh₄,Qb2,hsz]
 have hk₄:∀b o,b≠e->b≠it->hp.get? b=some o->G.get? b=some o:=fun b o O hbi hb=>by
  rw[<-hh₄];exact Qad _ (L.extBut b o O (J.extBut b o O (I.extBut b o hbi hb)))
 have hit₄:ZJ b G it l (i+1):=by
  rw[<-hh₄];exact hit₁.mv fun o z=>Qad _ (L.extBut _ _ (Qd5 Y) (J.extBut _ _ (Qd5 Y) z))
 show wpAny _ _ (Builtin.SmallTypes.ownedTupleIsFree (.ref e) >>= _) _ _ ⟨G,g,d,tk+1,os⟩;rw[hsz];refine Qaa ?_
 ·refine Qaa (Qbw D rfl (x:=.none) rfl (Qae ?_));refine Qaa (Qdg ?_);refine Qaa (Qbw D rfl (x:=old) rfl ?_);refine Qaa (Qcc D (by simp) fun h₅ he₅ F=>?_);refine Qaa ?_
  ·refine Qaa (Qcc he₅ (by simp) fun h₆ he₆ q=>?_);refine Qcc he₆ (by simp) fun h₇ he₇ C=>?_;refine Qaa (Qfc (Qae ⟨_,rfl,hQ h₇ he₇ ?_ ?_ ?_ ?_⟩))
   ·exact hit₄.mv fun o z=>C.extBut _ _ (Qd5 Y) (q.extBut _ _ (Qd5 Y) (F.extBut _ _ (Qd5 Y) z))
   ·exact C.extBut _ _ (Qef hel) (q.extBut _ _ (Qef hel) (F.extBut _ _ (Qef hel) ht₄))
   ·rw[C.1,q.1,F.1,hz₄]
   ·exact fun b o O hbi hb=>C.extBut b o O (q.extBut b o O (F.extBut b o O (hk₄ b o O hbi hb)))
def next_item{b:Bool}{e it l:Aw}{items:Ah}{x:Av}{Q:Aa}
  (D:IsEnum s.heap e it i v) (q:ZJ b s.heap it l i) (L:SeqAt b s.heap l items) (J:items[i]?=some x) (C:e≠it)
  (I:∀h',IsEnumOut h' e it ((i:Int)+1) x s.heap.objs.size->ZJ b h' it l (i+1)->
   h'.get? s.heap.objs.size=some {cls:=.type "tuple",data:=.seq #[.int i s.toks,x]}->h'.objs.size=s.heap.objs.size+1->
   (∀b o,b≠e->b≠it->s.heap.get? b=some o->h'.get? b=some o)->Q (some (.ref s.heap.objs.size)) {s with heap:=h',toks:=s.toks+1}):
  A3 prog w A (pyNext (.ref e)) Q E s:=by
 have G:s.TypeIs (.ref e) "enumerate" :=⟨_,D,rfl⟩;exact Qaa (Qdk (wpAny_callSpecial?_slot (name:=Str.ofString "__next__") G Qew (Qbf Qew G F.entry_enumerate_next
   (Zin D q L J C fun h' a b c d k=>Qae (I h' a b c d k)) (F.args_enumerate_next_1 _))))
def next_end{b:Bool}{e it l:Aw}{items:Ah}{Q:Aa}(hh:A.handled=none)
  (G:IsEnum s.heap e it i v) (q:ZJ b s.heap it l i) (O:SeqAt b s.heap l items) (M:items[i]?=none)
  (L:∀h',Heap.ExtBut it s.heap h'->Q none {s with heap:=h'}):A3 prog w A (pyNext (.ref e)) Q E s:=by
 have I:s.TypeIs (.ref e) "enumerate" :=⟨_,G,rfl⟩;refine Qaa (Qdk (wpAny_callSpecial?_slot (name:=Str.ofString "__next__") I Qew (Qbf Qew I F.entry_enumerate_next ?_ (F.args_enumerate_next_1 _))));show wpAny _ _ (field (.ref e) 2 >>= _) _ _ _;refine Qaa (Qbw G rfl (x:=.ref it) rfl ?_);refine Qaa (zp hh q O M fun h' x D C=>?_);obtain⟨o,ho,J⟩:=C;refine Qaa (Qdh (T:= "StopIteration") (b:=true) ⟨o,ho,J⟩ Qfy ?_);exact Qae (L _ D)
def call_new{b:Bool}{l:Aw}{items:Ah}(G:SeqAt b s.heap l items)
  (h:∀h',IsEnum h' (s.heap.objs.size+1) s.heap.objs.size 0 .none->ZJ b h' s.heap.objs.size l 0->h'.objs.size=s.heap.objs.size+2->
   (∀b o,s.heap.get? b=some o->h'.get? b=some o)->Q (.ref (s.heap.objs.size+1)) {s with heap:=h'}):A3 prog w A (call (.type "enumerate") [.ref l]) Q E s:=by
 refine callType_new F.called_enumerate (by decide) (F.typeCall_enumerate_1 _) (F.newCall_enumerate_1 _) (fun q=>F.args_object_init_2 q _) F.entry_enumerate_new (Wy b l items) ⟨G,?_⟩;have C:(s.heap.push (itO b l)).objs.size=s.heap.objs.size+1:=Qb2 ..;rw[C];have D:IsEnum ((s.heap.push (itO b l)).push (enO s.heap.objs.size)) (s.heap.objs.size+1) s.heap.objs.size 0 .none:=by
  have:=Qam (s.heap.push (itO b l)) (o:=enO s.heap.objs.size) rfl;rw[C]at this;exact this
 refine⟨⟨_,D,rfl⟩,h _ D (GQ (Qad _ (Qam _ rfl))) (by rw[Qb2,C]) fun b o x=>Qad _ (Qad _ x)⟩
end
end EnT
namespace L2
open ZpT (SeqAt ZJ)
def JO{X:Cx}{σ:St}{h':Heap}{t':Nat}(I:Inv X g σ H s)(D:∀b∈M,vy X g H b)(k:∀b o,b∉M->s.heap.get? b=some o->h'.get? b=some o):Inv X g σ H {s with heap:=h',toks:=t'}:=by
 have F:∀b u,H b=some u->b∉M:=fun b u e z=>by rw[(D b z).1]at e;cases e
 refine I.step (g':=s.gens) (d':=s.drawn) (ch:=M) (fun b G=>⟨(D b G).2.2.2.1,(D b G).2.1,(D b G).2.2.2.2.1,(D b G).2.2.2.2.2⟩) (fun b o _ _ C e _=>k b o C e) (fun b o _ _ C e _=>⟨o.slots,k b o C e⟩) (fun _ _ _ _ n=>n)
  (fun b o C e=>⟨o,k b o C e⟩) (fun _ _ e=>e) (fun _ _ _ e=>e) (fun b ps e=>⟨#[],by rw[e];simp⟩) (fun m J=>?_) (fun b u e=>?_) I.bare
 ·obtain⟨o,es,ep,ho,r⟩:=J;exact⟨o,es,ep,k _ o (fun z=>(D _ z).2.1 rfl) ho,r⟩
 ·refine(I.hok b u e).stay (fun c v C q=>k c v ?_ q) (fun _ q=>q) fun _ _ q=>q
  rcases C with z|z
  ·rw[z];exact F b u e
  ·exact F c _ z
def Ite(K:Af)(b:Bool)(a:Aw)(n:Nat):It:=
 ⟨fun i H=>∃xs x,SqB K b H a xs/\xs.length=n/\xs[i]?=some x,fun i H v H'=>∃p,H p=none/\v=.ref p/\∀xs x,SqB K b H a xs->xs[i]?=some x->H'=upd H p (.tup [.int i,x]),fun i H=>∃xs,SqB K b H a xs/\xs.length=n/\n<=i⟩
def Zbb{ps:Pos}(b:Bool)(a e it:Aw)(n:Nat)(hei:e≠it):Turn P w K (.Tuple A L ps) (Ite K b a n) [e,it] e (fun i h=>(∃C,IsEnum h e it i C)/\ZJ b h it a i)where
 mem:=by simp
 obj:=fun i h st b D=>by
  obtain⟨⟨C,G⟩,q⟩:=st;rcases Qao.mp D with rfl|D
  ·grind
  ·have:b=it:=by simpa using D
   subst this;exact q.ob
 keep:=fun i h h' st k=>by
  obtain⟨⟨C,G⟩,q⟩:=st;exact⟨⟨C,k e (by simp) _ G⟩,q.mv fun o x=>k it (by simp) o x⟩
 item:=by
  intro X hP hw hK hc i pins s σ H E I O st hg;subst hP hw hK;obtain⟨xs,x,hq,hn,hx⟩:=hg;obtain⟨its,rv,p,hz⟩:=I.sqB hq;obtain⟨u,hu,ru⟩:=rv.get hx;obtain⟨⟨C,G⟩,q⟩:=st;obtain⟨f0,f1,f2,f3,f4,f5⟩:=O e (by simp);obtain⟨g0,g1,g2,g3,g4,g5⟩:=O it (by simp);have hilt:it<s.heap.objs.size:=by obtain⟨_,z,_⟩:=q.ob;exact Qaq z
  refine EnT.next_item G q p (x:=u) (by simpa using hu) hei fun h' ho M hT hsz hk=>?_;refine⟨_,rfl,wpAny_letOwnedTupleGo_enum (s:={s with heap:=h',toks:=s.toks+1}) ho fun h2 he2 hs2=>?_⟩;have F:Heap.SameBut e h' h2:=hs2;have I1:Inv X pins σ (upd H s.heap.objs.size (.tup [.int i,x])) {s with heap:=s.heap.push {cls:=.type "tuple",data:=.seq #[.int i s.toks,u]},toks:=s.toks+1}:=
   I.laid (fun b o y=>Qad _ y) (Qak _) ⟨vx,[.int i s.toks,u],.cons ⟨_,rfl⟩ (.cons ru .nil),v8.new _ _⟩
  have Z:∀b∈[e,it],vy X pins (upd H s.heap.objs.size (.tup [.int i,x])) b:=fun b D=>by
   have hlb:b≠s.heap.objs.size:=by
    grind
   obtain⟨a0,ar⟩:=O b D;exact⟨by rw[Zk hlb];exact a0,ar⟩
  have I2:Inv X pins σ (upd H s.heap.objs.size (.tup [.int i,x])) {s with heap:=h2,toks:=s.toks+1}:=by
   refine JO (s:={s with heap:=s.heap.push {cls:=.type "tuple",data:=.seq #[.int i s.toks,u]},toks:=s.toks+1}) I1 Z fun b o D y=>?_;have J:b≠e:=fun z=>D (by simp[z]);have hbi:b≠it:=fun z=>D (by simp[z]);rcases Heap.get?_push_cases y with⟨rfl,rfl⟩|y
   ·exact(F.2 _ J).trans hT
   ·exact(F.2 b J).trans (hk b o J hbi y)
  refine⟨.ref s.heap.objs.size,_,I2,rfl,⟨_,I.hok.fresh (Qak _),rfl,fun ys y hy Y=>?_⟩,⟨⟨u,?_⟩,M.mv fun o y=>(F.2 it hei.symm).trans y⟩,fun b D=>(Z b D).1⟩
  ·rw[I.sqB_inj hy hq,hx]at Y;cases Y;rfl
  ·grind
 done:=by
  intro X hP hw hK hc i pins s σ H E I O st hg;subst hP hw hK;obtain⟨xs,hq,hn,hx⟩:=hg;obtain⟨its,rv,p,hz⟩:=I.sqB hq;obtain⟨⟨C,G⟩,q⟩:=st;obtain⟨g0,g1,g2,g3,g4,g5⟩:=O it (by simp);have hl:=rv.length;exact EnT.next_end (I.ok.hd hc) G q p (by simp;lia) fun h' eb=>⟨rfl,I.turned (t':=s.toks) (fun b o D e=>eb b o D e) g0 g1 g3 g4 g5⟩
 self:=fun _ _ _ _ _ st h=>let⟨⟨_,G⟩,_⟩:=st;wpAny_pyIter_enum G h
def Zio(K:Af)(b:Bool)(te:TE):TI:=fun σ H R=>te σ H fun x H1=>∃a xs,x=.ref a/\SqB K b H1 a xs/\R (Ite K b a xs.length) H1
def yq:bootBuiltins "enumerate" = some (.type "enumerate"):=by decide +kernel
def Zbc {b:Bool} {X:Cx}    {ps:Pos}   (L:Gl X "enumerate") (hm:X.mg "enumerate" = none) (he:QE X e I) (O:ZV e=true:=by rfl):QI X (.Tuple A i ps) (.Call (.Name "enumerate" p) [e] [] m) (Zio X.K b I):=by
 refine⟨fun pins s σ H R q h=>?_⟩;have hs:starEach [e] X.env=[(false,eval e X.env)]:=by rw[Zu O];rfl
 refine Call_ (Jo q L hm yq (Qcs ?_ hs rfl));rw[hs];refine Qcy (thn (he.out pins s σ H _ q h) fun u C ⟨x,H1,D,ru,q1⟩=>?_);refine Qd8 ?_;obtain⟨a,xs,rfl,hq,r⟩:=q1;cases ru;obtain⟨Z,rv,pt,hz⟩:=D.sqB hq;refine EnT.call_new pt fun h' G F hsz Y=>?_;have M:Inv X pins σ H1 {C with heap:=h'}:=D.kept (t':=C.toks) Y;refine wpAny_pyIter_enum G ⟨C.heap.objs.size+1,[C.heap.objs.size+1,C.heap.objs.size],_,_,H1,rfl,M,Zbb b a (C.heap.objs.size+1) C.heap.objs.size xs.length (Nat.succ_ne_self _),⟨⟨_,G⟩,F⟩,fun b J=>?_,r⟩;rcases Qao.mp J with rfl|J
 ·exact D.fpOk (Qeu _) (D.hok.fresh (Qeu _))
 ·have:b=C.heap.objs.size:=by simpa using J
  subst this;exact D.fpOk (Qak _) (D.hok.fresh (Qak _))
def Zeq {X:Cx}    {ps:Pos}   (C:Gl X "enumerate") (q:X.mg "enumerate" = none) (D:QE X e u) (F:ZV e=true:=by rfl):QI X (.Tuple A i ps) (.Call (.Name "enumerate" p) [e] [] m) (Zio X.K true u):=Zbc C q D F
def Zer {X:Cx}    {ps:Pos}   (C:Gl X "enumerate") (q:X.mg "enumerate" = none) (D:QE X e u) (F:ZV e=true:=by rfl):QI X (.Tuple A i ps) (.Call (.Name "enumerate" p) [e] [] m) (Zio X.K false u):=Zbc C q D F
theorem jf{X:Cx}{y:Str}{pos:Pos}{k:Nat}{q t2:TG}(C:X.calm=true)(h1:QG X (.Name x p) q)(h2:QG X (.Name y m) t2):QG X (.Tuple [.Name x p,.Name y m] k pos) (Zld X.K 2 (zV q (zV t2 Zlc))):=
 ⟨Zgg C (GN h1.out (GN h2.out uT))⟩
def wo{b:Bool}{xs:A2}{j k:Nat}(C:Nat->St->Hp->Prop)(h0:C 0 c H)(O:∀i c H,i<=xs.length->C i c H->SqB K b H a xs)
  (hs:∀i x c H p,xs[i]?=some x->H p=none->C i c H->q {Y with nx:=C (i+1),ct:=C (i+1),bk:=Y.nx} ((c.set j (some (.int i))).set k (some x)) (upd H p (.tup [.int i,x]))) (Z:∀c H,C xs.length c H->Y.nx c H):
  ∃W:Nat->Nat->St->Hp->Prop,(∃m,W 0 m c H)/\∀i m c H,W i m c H->
   ((Ite K b a xs.length).stop i H/\Y.nx c H)\/((Ite K b a xs.length).go i H/\∃N:A1,(∀D H',N D H'->∃L,L<m/\W (i+1) L D H')/\∀x H',(Ite K b a xs.length).yld i H x H'->(Zld K 2 (zV (Wv j) (zV (Wv k) Zlc))) x c H' fun I H2=>q {Y with nx:=N,ct:=N,bk:=Y.nx} I H2):=by
 refine⟨fun i m c H=>m=xs.length-i/\i<=xs.length/\C i c H,⟨xs.length,by simp,Qbl _,h0⟩,?_⟩;rintro i m c H ⟨rfl,hi,p⟩;have G:=O i c H hi p
 by_cases F:i<xs.length
 ·have J:=Qac F;refine .inr ⟨⟨xs,xs[i],G,rfl,J⟩,C (i+1),fun D H' p'=>⟨xs.length-(i+1),by lia,rfl,F,p'⟩,fun v H' y=>?_⟩;obtain⟨t,M,rfl,y⟩:=y;have e:=y xs _ G J;subst e;exact⟨t,_,rfl,SqT.of Za,rfl,_,_,rfl,_,_,rfl,rfl,hs i _ c H t J M p⟩
 ·have e:i=xs.length:=by lia
  exact .inl ⟨⟨xs,G,rfl,by lia⟩,by rw[e]at p;exact Z c H p⟩
end L2
namespace L2
def qw{i:Ax}(q:X.A.units+1<cLine)(ho:QE X o u)(hi:QE X i I)(hs:Zmo i):QE X (.Subscript o i p) (Zlp u I):=⟨Zij q ho.out hi.out hs⟩
def qx:QE X (.Dict [] [] p) Zgp:=⟨Zem⟩
theorem JP{i:Ax}{tv:TE}(q:X.A.units+1<cLine)(ho:QE X o u)(hi:QE X i I)(C:QE X e tv)(hs:swapsWith e (some (.Subscript o i m)) p.line X.env=pure false):
  QS X (.Assign [.Subscript o i m] e p) (Zlq u I tv):=⟨Zik q ho.out hi.out C.out hs⟩
def rDIn(neg:Bool):R2:=fun y x H Q=>∃a o,x=.ref a/\gQ H a y o/\Q (.bl (if neg then !o.isSome else o.isSome)) H
def zq(F:X.A.units+1<cLine):OpR X (compareOp .In) (rDIn false):=by
 intro pins s σ H x y v u Q I G D h;obtain⟨a,o,rfl,g,q⟩:=h;cases D;exact d_in F I g G fun s' C=>⟨.bl o.isSome,H,C,rfl,q⟩
def Jx(F:X.A.units+1<cLine):OpR X (compareOp .NotIn) (rDIn true):=by
 intro pins s σ H x y v u Q I G D h;obtain⟨a,o,rfl,g,q⟩:=h;cases D;exact Zii F I g G fun s' C=>⟨.bl (!o.isSome),H,C,rfl,q⟩
def gR:YA X (.type "dict") (fun xs H Q=>∃a kvs,xs=[V.ref a]/\Rd H a (.dK kvs)/\∀p,H p=none->Q (.ref p) (upd H p (.dK kvs))):=by
 intro pins s σ H xs G Q I r h;obtain⟨a,kvs,rfl,e,q⟩:=h;obtain⟨u,rfl,F⟩:=vals1 r;cases F;exact Zep I e fun p s' C D=>⟨.ref p,_,D,rfl,q p C⟩
theorem GR{κ:Type}[DecidableEq κ]:∀{kvs:List (κ×V)},(kvs.map (·.1)).Nodup->∀p∈kvs,Yj kvs p.1=some p.2
 |[],_,_,h=>nomatch h
 |q::r,C,p,h=>by
  rw[Qbx,Qb8]at C;rcases Qao.mp h with rfl|h
  ·exact Yk rfl
  ·have D:¬q.1=p.1:=fun z=>C.1 (by rw[z];exact Qb6 h)
   rw[Yf D];exact GR C.2 p h
def wq{x:V}(h:YM x=true):eqV x x=true:=by
 cases x<;>first
  |exact Qcu _
  |rfl
  |cases h
def wt{k:Key}(h:(ZI P w).is k v=true):RelV (kV k) v:=by
 rw[gB]at h;cases k with
 |inl i=>
  cases v<;>first
   |(have e:=h;unfold qd Value.isInt at e;simp at e;exact⟨_,by rw[e]⟩)
   |(unfold qd Value.isInt at h;simp at h)
 |inr x=>
  cases v<;>first
   |(have e:=h;unfold qd Value.isStrOf at e;simp at e;exact⟨_,by rw[e]⟩)
   |(unfold qd Value.isStrOf at h;simp at h)
inductive KTab(P:Params):List DictEntry->List (Str×Int)->Prop
 |nil:KTab P [] []
 |cons {k:Str} {v:Int} {t u:Tok} {es:List DictEntry} {l:List (Str×Int)}:KTab P es l->KTab P ({hash:=PyData.keyHash P k,key:=.str k t,val:=.int v u}::es) ((k,v)::l)
structure KD(K:Af)(w:Au)(a:Aw)(l:List (Str×Int)):Prop where
 ex:∃es ep,K.lookup a=some {cls:=.type "dict",dict:=none,data:=.dict es ep,slots:=#[]}/\KTab w.params es.toList l
 nd:(l.map (·.1)).Nodup
 ns:(a == sysModules)=false
def kvsOf(l:List (Str×Int)):A0:=l.map fun p=>((Sum.inr p.1:Key),V.int p.2)
theorem KTab.pairs{es:List DictEntry}{l:List (Str×Int)}(h:KTab w.params es l):(∃vs,KV (kvsOf l) vs/\Pairs (ZI P w) es vs)/\∀e∈es,∃k,(ZI P w).is k e.key=true/\e.hash=(ZI P w).hash k:=by
 induction h with
 |nil=>exact⟨⟨[],.nil,.nil⟩,fun _ h=>nomatch h⟩
 | @cons k v t u es l _ D=>
  obtain⟨⟨vs,r,p⟩,q⟩:=D;refine⟨⟨(.inr k,.int v u)::vs,.cons ⟨rfl,⟨u,rfl⟩⟩ r,.cons (Jf P w k t) rfl p⟩,fun e C=>?_⟩;rcases Qao.mp C with rfl|C
  ·exact⟨.inr k,Jf P w k t,rfl⟩
  ·exact q e C
section
variable {X:Cx}{pins:Ac}{σ:St}{H:Hp}{s:As}{a:Aw}{l:List (Str×Int)}{k:Key}{u:Av}{A:Ar}{E:Ab}
def KD.of(I:Inv X pins σ H s)(d:KD X.K X.w a l):∃vs,KV (kvsOf l) vs/\s.heap.DictOf (ZI X.prog X.w) a vs:=by
 obtain⟨es,ep,D,t⟩:=d.ex;obtain⟨⟨vs,r,p⟩,q⟩:=t.pairs (P:=X.prog);refine⟨vs,r,_,es,ep,I.kIn a _ D,⟨rfl,rfl,rfl⟩,rfl,fun e C=>q e (by simpa using C),p,?_⟩;rw[<-r.keys];unfold kvsOf;rw[Qaw];have:=d.nd;rw[List.nodup_iff_pairwise_ne]at *;rw[Qe6]at *;exact this.imp fun h z=>h (Sum.inr.inj z)
def kd_in(I:Inv X pins σ H s)(d:KD X.K X.w a l)(C:RelV (kV k) u)(h:∀s',Inv X pins σ H s'->Q (.bool (Yj (kvsOf l) k).isSome) s'):A3 X.prog X.w A (compareOp .In u (.ref a)) Q E s:=by
 obtain⟨vs,q,dd⟩:=d.of I;refine wpAny_in_of (ym C) d.ns dd.mapOf ?_;rw[<-(q.val k).isSome_eq];exact h _ (I.tok _)
def Ziq{z:V}{r:Av}(I:Inv X pins σ H s)(d:KD X.K X.w a l)(D:RelV (kV k) u)(G:RelV z r)(h:∀C s',Inv X pins σ H s'->RelV ((Yj (kvsOf l) k).getD z) C->Q C s'):
  A3 X.prog X.w A (call (.builtin "dict.get") [.ref a,u,r]) Q E s:=by
 obtain⟨vs,q,dd⟩:=d.of I;exact call_meetsIn PySem.F.slot_dict_get dd.typeIs PySem.F.entry_dict_get (PySem.F.args_dict_get_3 _ _ _) (meets_dict_get_default (ZI X.prog X.w) a (ym D) d.ns r) ⟨_,dd.mapOf,h _ _ (I.tok _) ((q.val k).getD G)⟩
end
def rKIn(K:Af)(w:Au):R2:=fun y x H Q=>∃a l k,x=.ref a/\KD K w a l/\y=kV k/\Q (.bl (Yj (kvsOf l) k).isSome) H
def vH:OpR X (compareOp .In) (rKIn X.K X.w):=by
 intro pins s σ H x y v u Q I C F h;obtain⟨a,l,k,rfl,d,rfl,q⟩:=h;cases F;exact kd_in I d C fun s' D=>⟨.bl _,H,D,rfl,q⟩
def tKGet(K:Af)(w:Au)(td ty tx:TE):TE:=fun σ H Q=>td σ H fun x H1=>∃a l,x=.ref a/\KD K w a l/\ty σ H1 fun y H2=>tx σ H2 fun z q=>∃k,y=kV k/\Q ((Yj (kvsOf l) k).getD z) q
def m2_of{f:Ax}{m:Str}{cpos:Pos}(D:ZV e=true)(F:ZV f=true)(q:attributeBase o m X.env (eval o X.env)=eval o X.env)(C:(p.endLine == cpos.line)=true):M2 X o m p e f cpos where
 base:=q
 few:=by
  rw[all_plain (by grind)];rfl
 line:=C
 trees:=by
  rw[Zu D,Zu F];rfl
def vI {f:Ax} {cpos:Pos} {ty tx:TE} (ho:QE X o I) (he:QE X e ty) (hf:QE X f tx) (h1:ZV e=true:=by rfl) (h2:ZV f=true:=by rfl) (hb:attributeBase o "get" X.env (eval o X.env)=eval o X.env:=by rfl) (M:(p.endLine == cpos.line)=true:=by rfl):
  QE X (.Call (.Attribute o "get" p) [e,f] [] cpos) (tKGet X.K X.w I ty tx):=by
 have m:=m2_of (X:=X) (m:= "get") (o:=o) h1 h2 hb M;refine⟨fun pins s σ H Q C h=>?_⟩;refine wpAny_Call_method m.base m.few m.line PySem.F.plainAttrs_dict PySem.F.slot_dict_get PySem.F.type_dict_get (thn (ho.out pins s σ H _ C h) fun u s1 ⟨x,H1,G,rx,a,l,ex,d,q1⟩=>?_);subst ex;obtain rfl:u=Value.ref a:=rx;obtain⟨vs,rel,dd⟩:=d.of G;refine⟨dd.typeIs,fun b q=>?_,?_⟩
 ·cases q;obtain⟨ob,_,_,g1,g2,_⟩:=dd;exact⟨ob,g1,g2.2.1⟩
 rw[m.trees];refine Qd0 rfl (Qe7 (Qcy (thn (he.out pins s1 σ H1 _ G q1) fun iv O ⟨y,H2,L,ry,q2⟩=>Qcy (thn (hf.out pins O σ H2 _ L q2) fun fv s3 ⟨z,H3,Z,J,k,ey,Y⟩=>Qd8 ?_))));subst ey;exact Ziq Z d ry J fun w' s4 I4 D=>⟨_,H3,I4,D,Y⟩
def Zes{is:Aj}{σ:St}{Q:VK}(f:Nat->V)(L:x.cps.size<=sizeLine)
  (I:∀c∈x.cps.toList,∀R:VK,R (f c) H->u (xA is σ (some (.str ⟨#[c]⟩))) H R)
  (J:∀l,H l=none->Q (.ref l) (upd H l (.lst (x.cps.toList.map f)))):G5 is Zgm u σ Q (Its x) H:=by
 refine⟨fun i m zs H'=>m=x.cps.size-i/\i<=x.cps.size/\zs=(x.cps.toList.take i).map f/\H'=H,⟨x.cps.size,by simp,Qbl _,rfl,rfl⟩,?_⟩;rintro i m zs H' ⟨rfl,hi,rfl,rfl⟩;have F:((x.cps.toList.take i).map f).length<=sizeLine:=by
  grind
 by_cases C:i<x.cps.size
 ·refine .inr ⟨C,F,fun v H2 y=>?_⟩;obtain⟨e,c,G,rfl⟩:=y;subst e;have q:x.cps.toList[i]?=some c:=by rw[Qdq];exact G
  refine I c (Qas q) _ ⟨x.cps.size-(i+1),by lia,rfl,C,?_,rfl⟩;rw[take_snoc q,Qay];rfl
 ·have e:i=x.cps.size:=by lia
  refine .inl ⟨e,F,fun l D=>?_⟩;rw[Qcz (by rw[Qbk];lia)];exact J l D
def zr:A2->List V->Bool
 |[],[]=>true
 |x::xs,y::ys=>eqV x y&&zr xs ys
 |_,_=>false
def eqJ(xs ys:A2)(j:Nat):Bool:=match xs[j]?,ys[j]? with
 |some a,some b=>eqV a b
 |_,_=>true
theorem WT:∀xs ys:A2,((List.range (min xs.length ys.length)).all (eqJ xs ys)&&xs.length == ys.length)=zr xs ys
 |[],[]=>rfl
 |[],y::ys=>by simp[zr]
 |x::xs,[]=>by simp[zr]
 |x::xs,y::ys=>by
  have q:=WT xs ys;have e1:min (x::xs).length (y::ys).length=min xs.length ys.length+1:=by
   simp only[Qba];lia
  have e2:((x::xs).length == (y::ys).length)=(xs.length == ys.length):=by simp
  rw[e1,e2,List.range_succ_eq_map,Qc3,List.all_map,Bool.and_assoc];show(eqV x y&&((List.range (min xs.length ys.length)).all (eqJ xs ys)&&xs.length == ys.length))=(eqV x y&&zr xs ys);rw[q]
def qy{A:Ar}{xs ys:A2}{q:Ag}(r:Vals xs J)(I:Vals ys q)(f:xs.all YM=true)(f2:ys.all YM=true):∀j (h1:j<J.toArray.size) (h2:j<q.toArray.size),SeqAt.EqAt A s J.toArray[j] q.toArray[j] (eqJ xs ys j):=by
 intro j h1 h2;have l1:=r.length;have l2:=I.length;have G:j<xs.length:=by rw[l1];simpa using h1
 have C:j<ys.length:=by rw[l2];simpa using h2
 obtain⟨u,e1,Z⟩:=r.get (Qac G);obtain⟨L,e2,M⟩:=I.get (Qac C);have Y:YM xs[j]=true:=Qcb.mp f _ (Qbu G);have O:YM ys[j]=true:=Qcb.mp f2 _ (Qbu C);have D:J.toArray[j]=u:=by
  grind
 have F:q.toArray[j]=L:=by
  grind
 have e3:eqJ xs ys j=eqV xs[j] ys[j]:=by
  unfold eqJ;rw[Qac G,Qac C]
 rw[D,F,e3];exact kW (A:=A) (s:=s) Z M Y O
def rEqT(K:Af)(neg:Bool):R2:=fun x y H Q=>∃a c xs ys,x=.ref a/\y=.ref c/\SqT K H a xs/\SqT K H c ys/\xs.all YM=true/\ys.all YM=true/\Q (.bl (if neg then !zr xs ys else zr xs ys)) H
def Zbd(M:X.A.units<cLine):OpR X (compareOp .Eq) (rEqT X.K false):=by
 intro pins s σ H x y v u Q I G J h;obtain⟨a,c,xs,ys,rfl,rfl,ha,F,f,O,q⟩:=h;cases G;cases J;obtain⟨L,r,p,_⟩:=I.tuple ha;obtain⟨D,C,p2,_⟩:=I.tuple F;refine SeqAt.eq_tupleAt (e:=eqJ xs ys) p p2 M (qy r C f O) (ZH I q ?_);show zr xs ys=_;rw[Qat,Qat,<-r.length,<-C.length,WT]
def Zir(M:X.A.units<cLine):OpR X (compareOp .NotEq) (rEqT X.K true):=by
 intro pins s σ H x y v u Q I G J h;obtain⟨a,c,xs,ys,rfl,rfl,ha,F,f,O,q⟩:=h;cases G;cases J;obtain⟨L,r,p,_⟩:=I.tuple ha;obtain⟨D,C,p2,_⟩:=I.tuple F;refine SeqAt.RcNeAt.tuples (e:=eqJ xs ys) p p2 M (qy r C f O) X.prog X.w _ _ (ZH I q ?_);show(!zr xs ys)=_;rw[Qat,Qat,<-r.length,<-C.length,WT]
def rEqL(K:Af)(neg:Bool):R2:=fun x y H Q=>∃a c xs ys,x=.ref a/\y=.ref c/\SqL K H a xs/\SqL K H c ys/\xs.all YM=true/\ys.all YM=true/\Q (.bl (if neg then !zr xs ys else zr xs ys)) H
def jg(J:X.A.units<cLine):OpR X (compareOp .NotEq) (rEqL X.K true):=by
 intro pins s σ H x y v u Q I M O h;obtain⟨a,c,xs,ys,rfl,rfl,ha,L,f,Y,q⟩:=h;cases M;cases O;obtain⟨F,r,p,_⟩:=I.list ha;obtain⟨C,G,p2,_⟩:=I.list L;have e:=WT xs ys
 by_cases D:xs.length=ys.length
 ·have hs:F.toArray.size=C.toArray.size:=by rw[Qat,Qat,<-r.length,<-G.length];exact D
  refine SeqAt.RcNeAt.lists (e:=eqJ xs ys) p.isList p2.isList hs J (qy r G f Y) X.prog X.w _ _ (ZH I q ?_);show(!zr xs ys)=_;rw[D,Qgo,Qcu,Bool.and_true]at e;rw[Qat,<-r.length,D,e]
 ·have hs:(F.toArray.size != C.toArray.size)=true:=by
   rw[Qat,Qat,<-r.length,<-G.length];simpa using D
  refine SeqAt.RcNeAt.lists_lengths p.isList p2.isList hs J X.prog X.w _ _ (ZH I q ?_);rw[<-e,Qei.mpr D,Qgz];rfl
def Wd(t:SetTable)(n:Nat):(t.standIn n).led=t.led/\(t.plain=false->(t.standIn n).plain=false):=⟨rfl,fun _=>rfl⟩
def jh(t:SetTable)(n:Nat):(t.orStandIn n).led=t.led/\(t.plain=false->(t.orStandIn n).plain=false):=by
 unfold SetTable.orStandIn;split
 ·exact⟨rfl,id⟩
 ·exact Wd _ _
def gS(t:SetTable)(es:Array (Int×Av))(h:Int)(x:Av):(layNew t es h x).2.1.led=t.led/\(t.plain=false->(layNew t es h x).2.1.plain=false):=by
 unfold layNew;split
 ·exact jh _ _
 ·exact Wd _ _
theorem yr(t:SetTable)(es:Array (Int×Av))(n:Nat):(relayAll t es n).2.1.led=t.led/\(t.plain=false->(relayAll t es n).2.1.plain=false):=by
 unfold relayAll;split
 ·rename_i t' D q;have C:t'.led=t.led/\(t.plain=false->t'.plain=false):=by
   unfold SetTable.relaid SetTable.laid at q;cases hc:SetTable.layClean (SetTable.sizeAbove n-1) (es.map (·.1))with
   |none=>rw[hc]at q;exact nomatch q
   |some F=>
    rw[hc]at q;obtain⟨rfl,_⟩:=q;exact⟨rfl,id⟩
  dsimp only;split
  ·exact C
  ·exact Wd _ _
 ·exact Wd _ _
def tx:Av->Str
 |.str x _=>x
 |_=>⟨#[]⟩
def G7(prog:Aq)(w:Au)(h:Heap)(a:Aw)(led:Bool)(S:Ai):Prop:=
 ∃o es ep t,h.get? a=some o/\o.ExactSet/\o.data=.set es ep t/\ElemsOf (strKind prog w) es.toList/\(es.toList.map fun e=>tx e.2).Perm S/\t.fits es.size=true/\t.led=led/\(es.size=0\/t.plain=false)
section
variable {prog:Aq}{w:Au}{A:Ar}{E:Ab}{s:As}
def Zls{e:Av}{k:Str}(h:(strKind prog w).is k e=true):tx e=k:=by
 obtain⟨t,rfl⟩:=Qgc h;rfl
def wu{l:List (Int×Av)}(h:ElemsOf (strKind prog w) l){e:Int×Av}(C:e∈l):(strKind prog w).is (tx e.2) e.2=true/\∃t,e.2=.str (tx e.2) t:=by
 obtain⟨⟨k,q,_⟩,_⟩:=h e C;rw[Zls q];exact⟨q,Qgc q⟩
def ins(S:Ai)(x:Str):Ai:=if x∈S then S else S++[x]
def Zis{l:List (Int×Av)}(h:ElemsOf (strKind prog w) l):
  (l.findIdx? (fun e=>(strKind prog w).is x e.2)).isSome=true↔x∈l.map (fun e=>tx e.2):=by
 rw[List.findIdx?_isSome,Qcd,Qav];constructor
 ·rintro⟨e,q,C⟩;exact⟨e,q,Zls C⟩
 ·rintro⟨e,q,C⟩;exact⟨e,q,C ▸ (wu h q).1⟩
def qz{o:Obj}{es:Array (Int×Av)}{ep:Nat}{t:SetTable}(ho:h.get? a=some o)(C:o.ExactSet)(I:o.data=.set es ep t)
  {q:Array (Int×Av)} {t':SetTable} {S:Ai} {led:Bool} (D:ElemsOf (strKind prog w) q.toList) (M:(q.toList.map fun e=>tx e.2).Perm S) (L:t'.fits q.size=true) (J:t'.led=led) (F:q.size=0\/t'.plain=false):
  (h.update a (Obj.putSet q t')).get? a=some {o with data:=.set q (ep+1) t'}/\G7 prog w (h.update a (Obj.putSet q t')) a led S:=by
 have G:(h.update a (Obj.putSet q t')).get? a=some {o with data:=.set q (ep+1) t'}:=by
  have:=Qbs (Obj.putSet q t') ho (by rw[putSet_of q t' I];rfl);rw[putSet_of q t' I]at this;exact this
 exact⟨G,_,q,ep+1,t',G,C,rfl,D,M,L,J,F⟩
theorem Zbe{led:Bool}{S:Ai}{tk:Tok}{Q:Bool->Shared->Prop}(hS:G7 prog w s.heap a led S)(hroom:S.length+1<scanBound)
  (h:∀h' b,Heap.SameBut a s.heap h'->G7 prog w h' a led (ins S x)->Q b {s with heap:=h'}):
  A3 prog w A (setAddHashed a (.str x tk) ((strKind prog w).hash x)) Q E s:=by
 obtain⟨o,es,ep,t,ho,hex,hd,I,hp,hf,hl,hpl⟩:=hS;have hn:es.size=S.length:=by rw[<-hp.length_eq,Qab,Qbk]
 have Z:(strKind prog w).is x (.str x tk)=true:=by show Value.isStrOf x (.str x tk)=true;simp[Value.isStrOf]
 refine Qb9 (Qaa (Qeb ho hd hf ?_));dsimp only;rw[byScan_of (knd:=strKind prog w) rfl (by lia) I];refine Qaa ?_;refine Qaa (Qdg ?_);refine Qaa (wpAny_setScan_of Z ho hd hf I ?_);have M:=Zis I (x:=x);cases hr:List.findIdx? (fun e=>(strKind prog w).is x e.2) es.toList with
 |some j=>
  rw[hr]at M;have hx:x∈S:=hp.mem_iff.mp (M.mp rfl);refine Qae (Qae ?_);have:=h s.heap false (Heap.SameBut.refl a s.heap) (by rw[ins,Qa3 hx];exact⟨o,es,ep,t,ho,hex,hd,I,hp,hf,hl,hpl⟩);exact this
 |none=>
  rw[hr]at M;have hx:x∉S:=fun hm=>by simpa using M.mpr (hp.mem_iff.mpr hm)
  have J:=gS t es ((strKind prog w).hash x) (.str x tk);have D:=layNew_perm t es ((strKind prog w).hash x) (.str x tk);have G:=layNew_fits t es ((strKind prog w).hash x) (.str x tk);generalize hL:layNew t es ((strKind prog w).hash x) (.str x tk)=L at J D G ⊢;obtain⟨q,t1,wd,gave⟩:=L;rw[Qg4]at D;have Y:ElemsOf (strKind prog w) q.toList:=(I.push Z rfl).perm D;have hp1:(q.toList.map fun e=>tx e.2).Perm (ins S x):=by
   rw[ins,Qax hx];refine(D.map _).trans ?_;rw[Qay];exact hp.append_right _
  have hz1:q.size=S.length+1:=by
   have:=hp1.length_eq;rw[ins,Qax hx,Qab,Qbk,Qaj]at this;exact this
  have hg:∀(b:Bool) {C:As} {Q':Unit->Shared->Prop},Q' () C->A3 prog w A (match b with|true=>rule "set.scan.the-table-gave-way" |false=>pure ()) Q' E C:=
   fun b C Q' F=>by cases b<;>first|exact Qae F|exact Qdg F
  refine Qaa (hg _ ?_);have key:∀(g:Bool->Sem Unit),(∀(b:Bool) (C:As) (Q':Unit->Shared->Prop),Q' () C->A3 prog w A (g b) Q' E C)->∀t2:SetTable,t2.fits q.size=true->t2.led=led->t2.plain=false->
    A3 prog w A (do
     storeSet a q t2
     if(!wd&&t2.tooFull)=true then do
       g (relayAll t2 q (SetTable.grown q.size)).2.2
       storeSet a (relayAll t2 q (SetTable.grown q.size)).1 (relayAll t2 q (SetTable.grown q.size)).2.1
       pure (some true)
      else pure (some true)) (fun r s'=>r=some true/\∀b,Q b s') E s:=by
   intro g hg t2 hf2 hl2 hp2;refine Qaa (wpAny_storeSet_of ho hd ?_ (Qg5 (by lia)));obtain⟨ho1,hS1⟩:=qz (prog:=prog) (w:=w) ho hex hd Y hp1 hf2 hl2 (.inr hp2);have O:=Qb5 s.heap a (Obj.putSet q t2);split
   ·have F:=relayAll_perm t2 q (SetTable.grown q.size);have hfr:=relayAll_fits t2 q (SetTable.grown q.size);have hlr:=yr t2 q (SetTable.grown q.size);generalize relayAll t2 q (SetTable.grown q.size)=Rl at F hfr hlr ⊢;obtain⟨es2,t3,g2⟩:=Rl;have hz2:es2.size=q.size:=by rw[<-Qbk,F.length_eq,Qbk]
    refine Qaa (hg _ _ _ ?_);refine Qaa (wpAny_storeSet_of ho1 rfl ?_ (Qg5 (by lia)));obtain⟨_,hS2⟩:=qz (prog:=prog) (w:=w) ho1 hex rfl (Y.perm F) ((F.map _).trans hp1) hfr (hlr.1.trans hl2) (.inr (hlr.2 hp2));exact Qae ⟨rfl,fun b=>h _ b (O.trans (Qb5 _ a _)) hS2⟩
   ·exact Qae ⟨rfl,fun b=>h _ b O hS1⟩
  split
  ·rename_i hpt;refine Qaa ?_;rw[hashByValue_scannable 8 rfl];refine Qae ?_;rw[show plainKind (Value.str x tk)=false from rfl];refine Qdi (key _ ?_ {t1 with plain:=false} (SetTable.fits_plain_off G) (J.1.trans hl) rfl) ?_ (fun _ _ e=>e)
   ·intro b C Q' F;cases b<;>first|exact Qae F|exact Qdg F
   ·rintro r s' ⟨rfl,F⟩;exact Qae (F _)
  ·rename_i hpt;refine Qaa (Qae ?_);refine Qdi (key _ ?_ t1 G (J.1.trans hl) (by simpa using hpt)) ?_ (fun _ _ e=>e)
   ·intro b C Q' F;cases b<;>first|exact Qae F|exact Qdg F
   ·rintro r s' ⟨rfl,F⟩;exact Qae (F _)
end
def XO(ys:Ai):Ai:=ys.foldl ins []
def zt(ys:Ai)(y:Str):XO (ys++[y])=ins (XO ys) y:=by simp[XO,Qc8]
def Zit(S:Ai)(x:Str):(ins S x).length<=S.length+1:=by unfold ins;split<;>simp
theorem XE(ys:Ai):∀i,(XO (ys.take i)).length<=i
 |0=>by simp[XO]
 |i+1=>by
  by_cases h:i<ys.length
  ·rw[Qg6,Qac h,Option.toList_some,zt];have:=XE ys i;have:=Zit (XO (ys.take i)) ys[i];lia
  ·rw[Qcz (by lia)];have:=XE ys i;rw[Qcz (by lia)]at this;lia
def JQ{prog:Aq}{h':Heap}{led:Bool}{S:Ai}(q:G7 prog w h a led S)(C:∀o,h.get? a=some o->h'.get? a=some o):G7 prog w h' a led S:=by
 obtain⟨o,es,ep,t,ho,rest⟩:=q;exact⟨o,es,ep,t,C o ho,rest⟩
section
variable {prog:Aq}{w:Au}{A:Ar}{R:Result->Shared->Prop}{I:Aw}{fp wr:List Aw}{G:Array GenState->Array GenState->Prop}{n:Nat}{P:Nat->Value->Prop}{St:Nat->Shared->Prop}
theorem gT(W:WalksS prog w A.in1 I fp wr G n P St)(S:Aw)(hSf:S∉fp){led:Bool}{ys:Ai}(hn:ys.length=n)
  (M:∀i v,P i v->∃y t,ys[i]?=some y/\v=.str y t) (J:n+1<scanBound):
  ∀(k i:Nat) (s:As),n-i=k->i<=n->St i s->G7 prog w s.heap S led (XO (ys.take i))->
   (∀s',Moved (S::wr) G s s'->G7 prog w s'.heap S led (XO ys)->R (.ok (.ret .none)) s')->
   codeAny (model prog w) A (.builtin "set.update.loop" ⟨[.ref S,.ref I],[]⟩) R s:=by
 have hSw:S∉wr:=fun h=>hSf (W.sub _ h);have q:∀b∈wr,b∈S::wr:=fun b J=>Qal _ J;intro k
 induction k with
 |zero=>
  intro i s hk hi D hS hR;have L:i=n:=by lia
  rw[L,<-hn,Qb7]at hS;subst L;refine Qdr F.entry_set_update_loop ?_;refine Qaa (W.done s _ _ D fun s' hm=>?_);exact Qae (hR s' (hm.mono q) (JQ hS fun o ho=>hm.heap S _ hSw ho))
 |succ k ih=>
  intro i s hk hi D hS hR;have hlt:i<n:=by lia
  refine Qdr F.entry_set_update_loop ?_;refine Qaa (W.item i s _ _ hlt D fun v s' hP hst' hm=>?_);obtain⟨y,t,hy,rfl⟩:=M i v hP;have hS':=JQ hS fun o ho=>hm.heap S _ hSw ho;refine Qaa (Qb9 ?_);refine Qb9 ?_;refine Qaa ((PySem.strKind prog w).pyHash (k:=y) (by show Value.isStrOf y (.str y t)=true;simp[Value.isStrOf]) ?_);have C:(XO (ys.take i)).length+1<scanBound:=by have:=XE ys i;lia
  refine Zbe (s:={s' with toks:=s'.toks+1}) hS' C fun h' b hsb O=>?_;rw[<-zt,show ys.take i++[y]=ys.take (i+1) by rw[Qg6,hy,Option.toList_some]]at O;refine Qae ⟨Qej F.plain_set_update_loop _,ih (i+1) _ (by lia) hlt (W.frame _ s' _ _ hst' (Qeu _) fun b J o e=>?_) O fun s'' Y Z=>?_⟩
  ·rw[hsb.2 b (fun h:b=S=>hSf (by rw[<-h];exact J))];exact e
  ·refine hR s'' (Moved.trans W.gtrans ((hm.mono q).then_heap (Qeu _) fun b o J e=>?_) Y) Z;rw[hsb.2 b (fun h:b=S=>J (by rw[h];exact Qai))];exact e
end
section
variable {prog:Aq}{w:Au}{A:Ar}{E:Ab}{s:As}
def yt (w:Au):Bool:=w.params.followText "set-order"
def Yw (w:Au):Obj:={cls:=.type "set",dict:=none,data:=.set #[] 0 (.fresh 0 0 (!yt w))}
def vJ(a:Av){Q₁:Ab}(h:Q₁ (.ref s.heap.objs.size) {s with heap:=s.heap.push (Yw w)}):
  codeAny (model prog w) A (.call (.builtin "set.__new__") ⟨[.type "set",a],[]⟩) (wants Q₁ E) s:=by
 refine codeAny_of_tree ?_;show wpAny _ A.in1 (do checkBuiltinCall "set.__new__" ⟨[.type "set",a],[]⟩;again (.builtin "set.__new__" ⟨[.type "set",a],[]⟩)) _ _ s;refine Qaa (Qcj (F.newCall_set_1 a) (Qae ⟨Qej F.plain_set_new _,Qdr F.entry_set_new ?_⟩));rw[Qf5 F.plain_set_new _];unfold Builtin.«set.__new__» Builtin.Frozenset.newClass;have q:=sub_set_self;obtain⟨C,g,d,tk,os⟩:=s;dsimp only
 wp_walk
 refine Qhj (Qae ?_);dsimp only;simp only[newObj];refine Qaa (wpAny_alloc (Qae ?_));exact Qae h
theorem xB{l:Aw}{items:Ah}{ys:Ai}
  (hh:A.handled=none) (hl:s.heap.IsList l items) (hi:StrsAre items.toList ys) (hb:items.size+1<scanBound)
  (h:∀(h':Heap) (tk:Nat),s.toks<=tk->G7 prog w h' s.heap.objs.size (!yt w) (XO ys)->
   (∀b o,b<s.heap.objs.size->s.heap.get? b=some o->h'.get? b=some o)->Q (.ref s.heap.objs.size) {s with heap:=h',toks:=tk}):
  wpAny (model prog w) A (call (.type "set") [.ref l]) Q E s:=by
 obtain⟨c,tl,hmro⟩:=Qex.mro;have hmade:=Qex.made;have hsub:=Qex.sub;refine wpAny_call (codeAny_of_tree ?_);show wpAny _ _ (callAny (.type "set") _) _ _ _;refine Qae ⟨Code.quiet_builtin _ (by decide +kernel),Qdr F.entry_type_call ?_⟩;rw[Around.under_plain (weight_type_call_type "set" [.ref l] []) rfl];have h1:=Qex.notType;have h2:=Qex.canCreate;have hct:=F.typeCall_set_1 (.ref l)
 repeat (any_goals (first|assumption|wp_step))
 refine Qfe (vJ (.ref l) (E:=E) (Q₁:=fun O D=>O=.ref s.heap.objs.size/\D={s with heap:=s.heap.push (Yw w)}) ⟨rfl,rfl⟩) fun r D hr=>?_;cases r with
 |error e=>exact hr
 |ok fl=>
  cases fl with
  |ret O=>
   obtain⟨rfl,rfl⟩:=hr;have hS:(s.heap.push (Yw w)).get? s.heap.objs.size=some (Yw w):=Qam _ rfl;have hT:Shared.TypeIs {s with heap:=s.heap.push (Yw w)} (.ref s.heap.objs.size) "set" :=⟨_,hS,rfl⟩;have hli:=Qex.init.lookup;have hbi:=Qex.init.bind (.ref s.heap.objs.size)
   repeat (any_goals (first|assumption|wp_step))
   refine Qfe (codeAny_call_builtin (R:=wants (fun r s₂=>r=.none/\∃h' tk,s.toks<=tk/\s₂={s with heap:=h',toks:=tk} /\
     G7 prog w h' s.heap.objs.size (!yt w) (XO ys) /\
     (∀b o,b<s.heap.objs.size->s.heap.get? b=some o->h'.get? b=some o)) E) Qex.init.plain F.entry_set_init (check_set_init_1 hT ?_)) fun r₂ s₂ q=>?_
   ·obtain⟨ol,hol,hcl,nl,hdl⟩:=hl;obtain⟨ocls,J,odata,C⟩:=ol;simp only at hcl hdl;subst hcl;subst hdl;have hol':(s.heap.push (Yw w)).get? l=some {cls:=.type "list",dict:=J,data:=.seq items nl,slots:=C}:=Qad _ hol;have hsls:=F.sub_list_set;have hslf:=F.sub_list_frozenset;have hne:(Value.type "list" == Value.type "dict")=false:=by decide
    have hl1:(s.heap.push (Yw w)).IsList l items:=⟨_,hol',rfl,nl,rfl⟩;unfold Builtin.«set.__init__» noKeywords Builtin.Frozenset.updateFrom;generalize hPI:pyIter=PI
    wp_walk
    subst hPI;refine Qe4 hl1 ?_;refine Qaa (wpAny_runValue ?_);have Y:l<s.heap.objs.size:=Qaq hol;have hh3:A.in1.in1.in1.handled=none:=by simp[hh]
    have Z:l≠(s.heap.push (Yw w)).objs.size:=by
     rw[Qb2];exact Qbg (Qdx Y)
    have hSf:s.heap.objs.size∉[(s.heap.push (Yw w)).objs.size,l]:=by
     rw[Qb2];simp only[Qao,Qar,Qa8,Qdv,not_or];exact⟨Qbg (Qem _),Qef Y⟩
    have M:∀(i:Nat) (v:Av),items[i]?=some v->∃y t,ys[i]?=some y/\v=.str y t:=fun i v hv=>by
     rw[<-Qdq]at hv;obtain⟨y,t,e1,e2⟩:=StrsAre.item hi i v hv;exact⟨y,t,e2,e1⟩
    refine gT ((Walks.list hh3 _ l Z items).toS) s.heap.objs.size
     hSf (led:=!yt w) (ys:=ys) (by rw[<-Qbk];exact hi.length.symm) M hb (items.size-0) 0 _ (by lia) (Qbl _)
     ⟨⟨_,Qam _ rfl,rfl,rfl⟩,(hl1.push _)⟩ ?hS0 ?hR
    case hS0=>
     exact⟨Yw w,#[],0,.fresh 0 0 (!yt w),Qad _ hS,⟨rfl,rfl,rfl⟩,rfl,fun e he=>by simp at he,by simp[XO],rfl,rfl,.inl rfl⟩
    case hR=>
     intro s' hm L;have I:=hm.toks;obtain⟨h',g',d',tk',os'⟩:=s';have eg:g'=s.gens:=hm.gens;have ed:d'=s.drawn:=hm.drawn;have eo:os'=s.os:=hm.os;subst eg;subst ed;subst eo;show wpAny _ _ _ _ _ _;refine Qae ?_;show wpAny _ _ (ret Value.none) _ _ _;refine Qae ⟨rfl,h',tk',I,rfl,L,fun b o hb e=>?_⟩;have hb1:b≠s.heap.objs.size:=Qbg hb;have hb2:b≠(s.heap.push (Yw w)).objs.size:=by
      rw[Qb2];exact Qbg (Qdx hb)
     exact hm.heap b o (by simp only[Qao,Qar,Qa8,Qdv,not_or];exact⟨hb1,hb2⟩) (Qad _ (Qad _ e))
   ·cases r₂ with
    |error e=>exact q
    |ok G=>
     cases G with
     |ret r=>
      obtain⟨rfl,h',tk,I,rfl,L,hk'⟩:=q
      repeat (any_goals (first|assumption|wp_step))
      exact h _ _ I L hk'
     |_=>exact q.elim
  |_=>exact hr.elim
end
theorem Z7:Slot "set_iterator" "__next__" "set_iterator.__next__" :=
 .of (owner:= "set_iterator") (n:= "__next__") (by kernel_rfl) (by decide +kernel) (by decide +kernel) (by decide +kernel)
  (by first|exact .inl (by decide +kernel)|exact .inr (by decide +kernel)) (by kernel_rfl)
def YF:entryFor table "set_iterator.__next__" = some Builtin.«set_iterator.__next__»:=entryFor_of_tree (by kernel_rfl)
def owner_seti:Manifest.owners.lookup (String.ofList ['r','o','t','a','r','e','t','i','_','t','e','s'].reverse)=some Manifest.sig_set_iterator:=by kernel_rfl
def YY (a:Av):argsOk "set_iterator.__next__" ⟨[a],[]⟩:=by
 kernel_rfl
theorem xC:entryFor table "set.__iter__" = some Builtin.«frozenset.__iter__» :=
 entryFor_alias (id':= "frozenset.__iter__") (by kernel_rfl) rfl (by decide +kernel) (by kernel_rfl)
section
variable {prog:Aq}{w:Au}{A:Ar}{E:Ab}{s:As}
def gU{q:Source}{Q:Nat->Shared->Prop}(C:n≠0)(h:∀i d,i<n->Q i {s with drawn:=d}):A3 prog w A (choose q n) Q E s:=by
 intro Γ p D;exact⟨C,h _ _ (Qeo _ (Nat.pos_of_ne_zero C))⟩
theorem YG{α:Type}:∀(xs:List α) (i:Nat) (x:α),xs[i]?=some x->(x::xs.eraseIdx i).Perm xs
 |[],i,x,h=>by simp at h
 |y::ys,0,x,h=>by simp at h;subst h;exact .rfl
 |y::ys,i+1,x,h=>by
  exact(List.Perm.swap y x _).trans ((YG ys i x h).cons y)
theorem Jy{α:Type}:∀(n:Nat) (xs:List α) (s:As) (Q:List α->Shared->Prop),xs.length<=n->(∀ys d,ys.Perm xs->Q ys {s with drawn:=d})->A3 prog w A (drawOrder n xs) Q E s
 |0,xs,s,Q,q,h=>by
  have:xs=[]:=Qcp (by lia);subst this;exact Qae (h [] s.drawn .rfl)
 |n+1,[],s,Q,q,h=>by
  exact Qae (h [] s.drawn .rfl)
 |n+1,y::ys,s,Q,q,h=>by
  refine Qaa (gU (by simp) fun i d hi=>?_);obtain⟨x,C⟩:∃x,(y::ys)[i]?=some x:=⟨_,Qac hi⟩;rw[C];refine Qaa (Jy n ((y::ys).eraseIdx i) _ _ (by grind) fun zs d' D=>?_);exact Qae (h _ d' ((D.cons x).trans (YG _ i x C)))
end
theorem Gw{α:Type}(next:Nat->Nat):∀(q k:Nat) (left:List α) (out:Array α),q=left.length->(pickOrder.go next q k left out).toList.Perm (out.toList++left)
 |0,k,left,out,h=>by
  have:left=[]:=Qcp h.symm;subst this;unfold pickOrder.go;simp
 |q+1,k,left,out,h=>by
  unfold pickOrder.go;have hi:next k%left.length<left.length:=Qeo _ (by lia);rw[Qac hi];refine(Gw next q (k+1) _ _ (by grind)).trans ?_;rw[Qg4,Qcg];exact(YG left _ _ (Qac hi)).append_left _
def XF(next:Nat->Nat)(xs:Array d):(pickOrder next xs).toList.Perm xs.toList:=by
 unfold pickOrder;simpa using Gw next xs.size 0 xs.toList #[] (by simp)
def W6(h:Heap)(a:Aw)(es:Array (Int×Av))(ep:Nat)(t:SetTable):Prop:=∃o,h.get? a=some o/\o.ExactSet/\o.data=.set es ep t/\t.fits es.size=true
def Yx (h:Heap) (I a:Aw) (first:Av) (i n ep:Nat):Prop:=∃o,h.get? I=some o/\o.cls=.type "set_iterator" /\ o.data=.fields #[first,.int i 0,.ref a,.int n 0,.int ep 0]
section
variable {prog:Aq}{w:Au}{A:Ar}{E:Ab}{s:As}
def Yx.typeIs  {first:Av} {ep:Nat} (x:Yx s.heap f a first i n ep):s.TypeIs (.ref f) "set_iterator" :=let⟨o,ho,hc,_⟩:=x;⟨o,ho,hc⟩
def Yx.at{h':Heap}{first:Av}{ep:Nat}(x:Yx h f a first i n ep)(e:∀o,h.get? f=some o->h'.get? f=some o):Yx h' f a first i n ep:=let⟨o,ho,r⟩:=x;⟨o,e _ ho,r⟩
def W6.at{h':Heap}{es:Array (Int×Av)}{ep:Nat}{t:SetTable}(x:W6 h a es ep t)(e:∀o,h.get? a=some o->h'.get? a=some o):W6 h' a es ep t:=let⟨o,ho,r⟩:=x;⟨o,e _ ho,r⟩
def Xi{Q:Bool->Shared->Prop}(h:Q (yt w) s):A3 prog w A setsByText Q E s:=Qaa (Qhj (Qae h))
def Gx{es:Array (Int×Av)}{ep:Nat}{t:SetTable}{given:Nat}{Q:Option (Av×Nat)->Shared->Prop}(q:yt w=true)(hs:W6 s.heap a es ep t)
  (h:Q (((pickOrder (w.params.setOrder a ep) es)[given]?).map fun e=>(e.2,0)) s):A3 prog w A (setNext a 0 given ep) Q E s:=by
 obtain⟨o,ho,F,C,D⟩:=hs;refine Qaa (Qeb ho C D ?_);refine Qaa (Xi ?_);rw[q];simp only[↓reduceIte,Qdy,Qcl];refine Qaa (Qaa (Qeb ho C D ?_));refine Qaa (Xi ?_);rw[q];refine Qaa (Qhj (Qae ?_));exact Qae h
def Jz{es:Array (Int×Av)}{ep:Nat}{t:SetTable}{given:Nat}{Q:Option (Av×Nat)->Shared->Prop}(C:yt w=false)(hs:W6 s.heap a es ep t)(F:t.led=true)(J:es.size<=1)
  (h:Q (match es[SetTable.below t.place i]?,t.place[SetTable.below t.place i]? with|some (_,x),some j=>some (x,j+1)|_,_=>none) s):A3 prog w A (setNext a i given ep) Q E s:=by
 obtain⟨o,ho,D,G,I⟩:=hs;refine Qaa (Qeb ho G I ?_);refine Qaa (Xi ?_);rw[C];have q:decide (es.size>1)=false:=by simp;lia
 show wpAny _ _ (if(!t.plain&&decide (es.size>1))=true then _ else _) _ _ _;rw[q,Qgz];refine Qaa (m:=(if(!t.led && !es.isEmpty)=true then unsupported "set:maker-not-led" else pure ())) ?_;rw[F];exact Qae (Qae h)
def ji{es:Array (Int×Av)}{ep:Nat}{t:SetTable}{e:Int×Av}(hs:W6 s.heap a es ep t)(C:es[i]?=some e)
  (h:Q e.2 s):A3 prog w A (setNextDrawn a i ep) Q E s:=by
 obtain⟨o,ho,q,D,F⟩:=hs;refine Qaa (Qeb ho D F ?_);simp only[Qdy,Qcl,↓reduceIte];rw[C];exact Qae h
def gW{first:Av}{ep:Nat}(x:Yx s.heap f a first i n ep):
  Yx ((s.heap.update f (Obj.mapFields (·.setIfInBounds 0 v))).update f (Obj.mapFields (·.setIfInBounds 1 (.int L 0)))) f a v L n ep:=by
 obtain⟨o,ho,D,C⟩:=x;have h1:=Qbs (Obj.mapFields (·.setIfInBounds 0 v)) ho (Qct (Qbv C _));have q:=Qbv C (·.setIfInBounds 0 v);refine⟨_,Qbs _ h1 (Qct (Qbv q _)),(Qe5 ..).trans ((Qe5 ..).trans D),?_⟩;rw[Qbv q];simp
def yu{es:Array (Int×Av)}{ep:Nat}{t:SetTable}{x:Av}{nx:Nat}{Q:Aa}(q:Yx s.heap f a (.int n 0) i es.size ep)(hs:W6 s.heap a es ep t)
  (M:∀(G:Option (Av×Nat)->Shared->Prop) (O:Ab),G (some (x,nx)) s->A3 prog w A.in1 (setNext a n i ep) G O s)
  (J:∀h',Yx h' f a (.int nx 0) (i+1) es.size ep->Heap.SameBut f s.heap h'->Q (some x) {s with heap:=h'}):A3 prog w A (pyNext (.ref f)) Q E s:=by
 obtain⟨o,ho,Y,C⟩:=id q;obtain⟨os,D,I,F,L⟩:=id hs;refine Qaa (Qdk (wpAny_callSpecial?_slot (name:=Str.ofString "__next__") q.typeIs Z7
  (Qbf Z7 q.typeIs YF ?_ (YY _))))
 refine Qaa (Qae ?_);refine Qaa (Qg1 ho C ?_);refine Qaa (Qek D F L ?_);simp only[Qdy,Qcl,↓reduceIte];refine Qaa (M _ _ ?_);refine Qaa (Qdc ho C (by simp) ?_);have h1:=Qbs (Obj.mapFields (·.setIfInBounds 0 (rawInt (nx:Int)))) ho (Qct (Qbv C _));refine Qaa (Qdc (s:={s with heap:=s.heap.update f (Obj.mapFields (·.setIfInBounds 0 (rawInt (nx:Int))))}) h1 (Qbv C _) (by simp) ?_);exact Qae ⟨_,rfl,Qae (J _ (gW q) ((Qb5 ..).trans (Qb5 ..)))⟩
def wx{es:Array (Int×Av)}{ep:Nat}{t:SetTable}{Q:Aa}(hh:A.handled=none)(q:Yx s.heap f a (.int n 0) i es.size ep)(hs:W6 s.heap a es ep t)
  (M:∀(G:Option (Av×Nat)->Shared->Prop) (O:Ab),G none s->A3 prog w A.in1 (setNext a n i ep) G O s)
  (J:∀h',Heap.ExtBut f s.heap h'->Q none {s with heap:=h'}):A3 prog w A (pyNext (.ref f)) Q E s:=by
 obtain⟨o,ho,Y,F⟩:=id q;obtain⟨os,C,I,D,L⟩:=id hs;refine Qaa (Qdk (wpAny_callSpecial?_slot (name:=Str.ofString "__next__") q.typeIs Z7
  (Qbf Z7 q.typeIs YF ?_ (YY _))))
 refine Qaa (Qae ?_);refine Qaa (Qg1 ho F ?_);refine Qaa (Qek C D L ?_);simp only[Qdy,Qcl,↓reduceIte];refine Qaa (M _ _ ?_);refine Qaa (Qdc ho F (by simp) ?_);refine Qaa ?_;refine Qaa (Qbe ?_ (by size_fits));refine Qaa (m:=firstArgMember _ _) (Qcj (a:=Value.none) (by first|rfl|(rfl)) ?_);refine Qbe ?_ (by size_fits);refine Qaa (Qhc ?_);rw[show A.in1.handled=none from hh];refine Qaa (Qae (Qhx ?_));refine Qaa (Qdh (T:= "StopIteration") (b:=true) ⟨_,Qam _ rfl,rfl⟩ Qfy ?_);exact Qae (J _ (((Qb5 ..).extBut.push _).push _))
def gX{p:Aw}{es:Array (Int×Av)}{ep:Nat}{t:SetTable}{ps:Aj}{pl:Nat}{e:Int×Av}{Q:Aa}(q:Yx s.heap f a (.ref p) i es.size ep)(hs:W6 s.heap a es ep t)
  (O:s.heap.get? p=some Z) (F:Z.data=.seq (ps.map fun(k:Nat)=>rawInt k).toArray n) (hi:ps[i]?=some pl) (M:es[pl]?=some e)
  (L:∀h',Yx h' f a (.ref p) (i+1) es.size ep->Heap.SameBut f s.heap h'->Q (some e.2) {s with heap:=h'}):A3 prog w A (pyNext (.ref f)) Q E s:=by
 obtain⟨o,ho,J,C⟩:=id q;obtain⟨os,D,I,G,Y⟩:=id hs;refine Qaa (Qdk (wpAny_callSpecial?_slot (name:=Str.ofString "__next__") q.typeIs Z7
  (Qbf Z7 q.typeIs YF ?_ (YY _))))
 refine Qaa (Qae ?_);refine Qaa (Qg1 ho C ?_);refine Qaa (Qek D G Y ?_);simp only[Qdy,Qcl,↓reduceIte];refine Qaa (Qci O F ?_);dsimp only;rw[show((ps.map fun(k:Nat)=>rawInt k).toArray)[(i:Int).toNat]?=some (rawInt pl) by simp[hi]];simp only[rawInt,Qbp];refine Qaa (ji hs M ?_);refine Qaa (Qdc ho C (by simp) ?_);refine Qae ⟨_,rfl,Qae (L _ ⟨_,Qbs _ ho (Qct (Qbv C _)),(Qe5 ..).trans J,?_⟩ (Qb5 ..))⟩;rw[Qbv C];simp
def Zbf{p:Aw}{es:Array (Int×Av)}{ep:Nat}{t:SetTable}{ps:Aj}{Q:Aa}(hh:A.handled=none)(q:Yx s.heap f a (.ref p) i es.size ep)(hs:W6 s.heap a es ep t)
  (L:s.heap.get? p=some Z) (F:Z.data=.seq (ps.map fun(k:Nat)=>rawInt k).toArray n) (hi:ps[i]?=none)
  (J:∀h',Heap.ExtBut f s.heap h'->Q none {s with heap:=h'}):A3 prog w A (pyNext (.ref f)) Q E s:=by
 obtain⟨o,ho,O,C⟩:=id q;obtain⟨os,D,I,G,M⟩:=id hs;refine Qaa (Qdk (wpAny_callSpecial?_slot (name:=Str.ofString "__next__") q.typeIs Z7
  (Qbf Z7 q.typeIs YF ?_ (YY _))))
 refine Qaa (Qae ?_);refine Qaa (Qg1 ho C ?_);refine Qaa (Qek D G M ?_);simp only[Qdy,Qcl,↓reduceIte];refine Qaa (Qci L F ?_);dsimp only;rw[show((ps.map fun(k:Nat)=>rawInt k).toArray)[(i:Int).toNat]?=none by simp;simpa using hi];refine Qaa (Qdc ho C (by simp) ?_);have h1:=Qbs (Obj.mapFields (·.setIfInBounds 0 (rawInt 0))) ho (Qct (Qbv C _));refine Qaa (Qdc (s:={s with heap:=s.heap.update f (Obj.mapFields (·.setIfInBounds 0 (rawInt 0)))}) h1 (Qbv C _) (by simp) ?_);refine Qaa ?_;refine Qaa (Qbe ?_ (by size_fits));refine Qaa (m:=firstArgMember _ _) (Qcj (a:=Value.none) (by first|rfl|(rfl)) ?_);refine Qbe ?_ (by size_fits);refine Qaa (Qhc ?_);rw[show A.in1.handled=none from hh];refine Qaa (Qae (Qhx ?_));refine Qaa (Qdh (T:= "StopIteration") (b:=true) ⟨_,Qam _ rfl,rfl⟩ Qfy ?_);exact Qae (J _ ((((Qb5 ..).trans (Qb5 ..)).extBut.push _).push _))
end
theorem Ja:Slot "set_iterator" "__iter__" "set_iterator.__iter__" :=
 .of (owner:= "set_iterator") (n:= "__iter__") (by kernel_rfl) (by decide +kernel) (by decide +kernel) (by decide +kernel)
  (by first|exact .inl (by decide +kernel)|exact .inr (by decide +kernel)) (by kernel_rfl)
theorem q5:entryFor table "set_iterator.__iter__" = some Builtin.«dict_keyiterator.__iter__» :=
 entryFor_alias (id':= "dict_keyiterator.__iter__") (by kernel_rfl) rfl (by decide +kernel) (by kernel_rfl)
def xD (a:Av):argsOk "set_iterator.__iter__" ⟨[a],[]⟩:=by
 kernel_rfl
section
variable {prog:Aq}{w:Au}{A:Ar}{E:Ab}{s:As}
def q8{first:Av}{ep:Nat}(q:Yx s.heap f a first i n ep)(h:Q (.ref f) s):A3 prog w A (pyIter (.ref f)) Q E s:=by
 refine Qfw q.typeIs Ja (Qbf Ja q.typeIs q5 ?_ (xD _));exact Qae ⟨_,rfl,"set_iterator",_,q.typeIs,Z7.lookup,h⟩
def Txs(q:List (Int×Av))(i:Nat)(v:Av):Prop:=∃e,q[i]?=some e/\v=e.2
def gY{es:Array (Int×Av)}{ep:Nat}{t:SetTable}(C:yt w=true)(hh:A.handled=none)(J:a≠f):
  Walks prog w A f [f,a] [f] es.size (Txs (pickOrder (w.params.setOrder a ep) es).toList) (fun i h=>Yx h f a (.int (0:Nat) 0) i es.size ep/\W6 h a es ep t)where
 sub:=fun b C=>by simp at C;simp[C]
 frame:=fun _ _ _ st M=>⟨st.1.at fun o e=>M f (by simp) o e,st.2.at fun o e=>M a (by simp) o e⟩
 item:=fun i s Q E hi st D=>by
  have hsz:(pickOrder (w.params.setOrder a ep) es).size=es.size:=by simpa using (XF (w.params.setOrder a ep) es).length_eq
  obtain⟨e,L⟩:∃e,(pickOrder (w.params.setOrder a ep) es)[i]?=some e:=⟨_,Qdl (by lia)⟩;refine yu st.1 st.2 (x:=e.2) (nx:=0) (fun Y O q=>Gx C st.2 (by rw[L];exact q)) fun h' G F=>?_;exact D e.2 h' s.toks ⟨e,by simpa using L,rfl⟩ ⟨G,st.2.at fun o e=>F.extBut a o J e⟩ fun b o C e=>F.extBut b o (fun h=>C (by simp[h])) e
 done:=fun s Q E st D=>by
  have hsz:(pickOrder (w.params.setOrder a ep) es).size=es.size:=by simpa using (XF (w.params.setOrder a ep) es).length_eq
  exact wx hh st.1 st.2 (fun Y O q=>Gx C st.2 (by grind)) fun h' I=>D h' s.toks fun b o C e=>I b o (fun h=>C (by simp[h])) e
 self:=fun _ _ _ _ st D=>q8 st.1 D
theorem vK{p:Aw}{es:Array (Int×Av)}{ep:Nat}{t:SetTable}{ps:Aj}(F:ps.Perm (List.range es.size))(hh:A.handled=none)(Z:a≠f)(hnp:p≠f):
  Walks prog w A f [f,a,p] [f] es.size (Txs (ps.filterMap (es[·]?))) (fun i h=>Yx h f a (.ref p) i es.size ep/\W6 h a es ep t/\∃D np,h.get? p=some D/\D.data=.seq (ps.map fun(k:Nat)=>rawInt k).toArray np)where
 sub:=fun b M=>by simp at M;simp[M]
 frame:=fun _ _ _ st q=>⟨st.1.at fun o e=>q f (by simp) o e,st.2.1.at fun o e=>q a (by simp) o e,let⟨D,np,h1,h2⟩:=st.2.2;⟨D,np,q p (by simp) D h1,h2⟩⟩
 item:=fun i s Q E hi st L=>by
  obtain⟨D,np,h1,h2⟩:=st.2.2;have G:ps.length=es.size:=by simpa using F.length_eq
  have C:∀k∈ps,k<es.size:=fun k q=>by simpa using F.mem_iff.mp q
  have J:ps[i]?=some (ps[i]'(by lia)):=Qac _;have q:ps[i]'(by lia)<es.size:=C _ (Qbu _);have Y:ps.filterMap (es[·]?)=ps.map (fun k=>es.getD k (0,.none)):=by
   clear J F G q hi h1 h2 st L
   induction ps with
   |nil=>rfl
   |cons k ks ih=>
    have:=C k (by simp);rw[List.filterMap_cons_some (b:=es.getD k (0,.none)) (by simp[Array.getD,this]),ih fun k q=>C k (by simp[q]),Qbx]
  refine gX st.1 st.2.1 h1 h2 J (Qdl q) fun h' O I=>?_;refine L _ h' s.toks ⟨_,?_,rfl⟩ ⟨O,st.2.1.at fun o e=>I.extBut a o Z e,D,np,I.extBut p D hnp h1,h2⟩ fun b o M e=>I.extBut b o (fun h=>M (by simp[h])) e;rw[Y,Qah,J];simp[Array.getD,q]
 done:=fun s Q E st L=>by
  obtain⟨D,np,h1,h2⟩:=st.2.2;have G:ps.length=es.size:=by simpa using F.length_eq
  exact Zbf hh st.1 st.2.1 h1 h2 (by simp;lia) fun h' he'=>L h' s.toks fun b o M e=>he' b o (fun h=>M (by simp[h])) e
 self:=fun _ _ _ _ st L=>q8 st.1 L
def yw(j:Nat):SetTable.below #[j] 0=0/\SetTable.below #[j] (j+1)=1:=by
 constructor<;>simp[SetTable.below,SetTable.below.go]
def vL{es:Array (Int×Av)}{ep:Nat}{t:SetTable}(D:yt w=false)(hl:t.led=true)(hz:es.size<=1)(hh:A.handled=none)(O:a≠f):
  Walks prog w A f [f,a] [f] es.size (Txs es.toList) (fun i h=>∃C:Nat,(i=0->C=0)/\(i=1->∃j,t.place=#[j]/\C=j+1)/\Yx h f a (.int C 0) i es.size ep/\W6 h a es ep t)where
 sub:=fun b D=>by simp at D;simp[D]
 frame:=fun _ _ _ st hk=>by
  obtain⟨C,J,L,h1,h2⟩:=st;exact⟨C,J,L,h1.at fun o e=>hk f (by simp) o e,h2.at fun o e=>hk a (by simp) o e⟩
 item:=fun i s Q E hi st F=>by
  obtain⟨C,J,L,h1,h2⟩:=st;have Z:i=0:=by lia
  subst Z;obtain rfl:=J rfl;have hps:t.place.size=1:=by
   obtain⟨o,ho,hex,hd,hf⟩:=h2;simp only[SetTable.fits,Qb4,beq_iff_eq,Qg7]at hf;lia
  obtain⟨j,M⟩:∃j,t.place=#[j]:=⟨t.place[0],by grind⟩;obtain⟨e,he⟩:∃e,es[0]?=some e:=⟨_,Qdl (by lia)⟩;refine yu h1 h2 (x:=e.2) (nx:=j+1) (fun Q' E' q=>Jz D h2 hl hz (by rw[M,(yw j).1,he];exact q)) fun h' G I=>?_;exact F e.2 h' s.toks ⟨e,by simpa using he,rfl⟩ ⟨j+1,fun z=>absurd z (by lia),fun _=>⟨j,M,rfl⟩,G,h2.at fun o e=>I.extBut a o O e⟩ fun b o D e=>I.extBut b o (fun h=>D (by simp[h])) e
 done:=fun s Q E st F=>by
  obtain⟨C,J,L,h1,h2⟩:=st;refine wx hh h1 h2 (fun Q' E' q=>Jz D h2 hl hz ?_) fun h' Y=>F h' s.toks fun b o D e=>Y b o (fun h=>D (by simp[h])) e
  by_cases h0:es.size=0
  ·grind
  ·obtain⟨j,M,rfl⟩:=L (by lia);rw[M,(yw j).2,Array.getElem?_eq_none (by lia)];exact q
 self:=fun _ _ _ _ st F=>by
  obtain⟨C,J,L,h1,h2⟩:=st;exact q8 h1 F
def vM{es:Array (Int×Av)}{ep:Nat}{t:SetTable}{Q:Bool->Shared->Prop}(hs:W6 s.heap a es ep t)(h:Q (!yt w&&(!t.plain&&decide (es.size>1))) s):A3 prog w A (setDrawn a) Q E s:=by
 obtain⟨o,ho,q,C,D⟩:=hs;refine Qaa (Qeb ho C D ?_);refine Qaa (Xi ?_);exact Qae h
structure SetW(prog:Aq)(w:Au)(h h':Heap)(I a:Aw)(es:Array (Int×Av))(ord:List (Int×Av))(fp:List Aw)(St:Nat->Heap->Prop):Prop where
 old:∀b o,h.get? b=some o->h'.get? b=some o
 new:h.objs.size<=I
 perm:ord.Perm es.toList
 lt:∀b∈fp,b<h'.objs.size
 mem:I∈fp
 st:St 0 h'
 walks:∀A:Ar,A.handled=none->Walks prog w A I fp [I] es.size (Txs ord) St
 apart:∀b∈fp,b=a\/h.objs.size<=b
def Zet{es:Array (Int×Av)}{ep:Nat}{t:SetTable}(hs:W6 s.heap a es ep t)(hl:t.led=!yt w)(hp:es.size=0\/t.plain=false)(hz:es.size<=sizeLine)
  (Y:∀h' d I Z fp St,SetW prog w s.heap h' I a es Z fp St->Q (.ref I) {s with heap:=h',drawn:=d}):A3 prog w A (pyIter (.ref a)) Q E s:=by
 obtain⟨o,ho,hex,O,M⟩:=id hs;have hT:s.TypeIs (.ref a) "set" :=⟨o,ho,hex.1⟩;have J:=Qaq ho;refine Qfw hT F.slot_set_iter (Qbf F.slot_set_iter hT xC ?_ (F.args_set_iter_1 _));unfold Builtin.«frozenset.__iter__» Builtin.Frozenset.slot0 slotArgs;simp only[List.isEmpty_nil,Bool.not_true,Qcl,↓reduceIte,bind_assoc,Qev,Qdy];refine Qaa (Qae ?_);refine Qaa (Qae ?_);refine Qaa (Qaa (Qek ho O M (Qae ?_)));refine Qaa (vM hs ?_);cases hb:yt w with
 |true=>
  refine Qaa (Qae ?_);refine Qaa (Qg8 ho O M ?_);have C:(s.heap.push {cls:=.type "set_iterator",data:=.fields #[rawInt 0,rawInt 0,.ref a,rawInt es.size,rawInt ep]}).get? s.heap.objs.size=some {cls:=.type "set_iterator",data:=.fields #[rawInt 0,rawInt 0,.ref a,rawInt es.size,rawInt ep]}:=Qam _ rfl;refine Qaa (Qbe (Qae ⟨_,rfl,"set_iterator",_,⟨_,C,rfl⟩,Z7.lookup,?_⟩));refine Y _ s.drawn s.heap.objs.size _ _ _ ⟨fun b o e=>Qad _ e,Qak _,XF (w.params.setOrder a ep) es,fun b q=>?_,Qai,⟨⟨_,C,rfl,rfl⟩,hs.at fun o e=>Qad _ e⟩,fun A' hh=>gY hb hh (Qbg J),fun b q=>(Qao.mp q).elim (fun e=>.inr (e ▸ Qak _)) fun q=>.inl (Qar.mp q)⟩;rw[Qb2];rcases Qao.mp q with rfl|q
  ·exact Qem _
  ·grind
 |false=>
  rw[hb]at hl
  by_cases hd1:es.size>1
  ·have hpl:t.plain=false:=hp.resolve_left (by lia);rw[hpl,Qan hd1];refine Qaa (Jy _ _ _ _ (Qhl Qbb) fun ps d G=>?_);have hpn:ps.length=es.size:=by simpa using G.length_eq
   refine Qaa (Qg0 ?_ (by rw[Qab];lia));refine Qaa (Qg8 (Qad _ ho) O M ?_);generalize hH:s.heap.push {cls:=.type "tuple",data:=.seq (ps.map fun(i:Nat)=>rawInt i).toArray}=H;have L:H.objs.size=s.heap.objs.size+1:=by rw[<-hH,Qb2]
   have D:∀b o,s.heap.get? b=some o->H.get? b=some o:=fun b o e=>hH ▸ Qad _ e;have htp:H.get? s.heap.objs.size=some {cls:=.type "tuple",data:=.seq (ps.map fun(i:Nat)=>rawInt i).toArray}:=hH ▸ Qam _ rfl;have C:(H.push {cls:=.type "set_iterator",data:=.fields #[.ref s.heap.objs.size,rawInt 0,.ref a,rawInt es.size,rawInt ep]}).get? H.objs.size=some {cls:=.type "set_iterator",data:=.fields #[.ref s.heap.objs.size,rawInt 0,.ref a,rawInt es.size,rawInt ep]}:=Qam _ rfl;refine Qaa (Qbe (s:={s with heap:=H,drawn:=d}) (Qae ⟨_,rfl,"set_iterator",_,⟨_,C,rfl⟩,Z7.lookup,?_⟩));refine Y _ d H.objs.size _ _ _ ⟨fun b o e=>Qad _ (D b o e),by rw[L];exact Qeu _,?_,fun b q=>?_,Qai,⟨⟨_,C,rfl,rfl⟩,hs.at fun o e=>Qad _ (D a o e),_,_,Qad _ htp,rfl⟩,fun A' hh=>vK (p:=s.heap.objs.size) G hh (fun e=>by grind) (fun e=>by grind),fun b q=>(Qao.mp q).elim (fun e=>.inr (by rw[e,L];exact Qeu _)) fun q=>(Qao.mp q).elim .inl fun q=>.inr (by grind)⟩
   ·exact(G.filterMap _).trans (by rw[filterMap_getElem?_range])
   ·rw[Qb2];rcases Qao.mp q with rfl|q
    ·exact Qem _
    ·grind
  ·have hd2:decide (es.size>1)=false:=by simp;lia
   rw[hd2,Qgz];refine Qaa (Qae ?_);refine Qaa (Qg8 ho O M ?_);have C:(s.heap.push {cls:=.type "set_iterator",data:=.fields #[rawInt 0,rawInt 0,.ref a,rawInt es.size,rawInt ep]}).get? s.heap.objs.size=some {cls:=.type "set_iterator",data:=.fields #[rawInt 0,rawInt 0,.ref a,rawInt es.size,rawInt ep]}:=Qam _ rfl;refine Qaa (Qbe (Qae ⟨_,rfl,"set_iterator",_,⟨_,C,rfl⟩,Z7.lookup,?_⟩));refine Y _ s.drawn s.heap.objs.size _ _ _ ⟨fun b o e=>Qad _ e,Qak _,.rfl,fun b q=>?_,Qai,⟨0,fun _=>rfl,fun z=>absurd z (by lia),⟨_,C,rfl,rfl⟩,hs.at fun o e=>Qad _ e⟩,fun A' hh=>vL hb (by simpa using hl) (by lia) hh (Qbg J),fun b q=>(Qao.mp q).elim (fun e=>.inr (e ▸ Qak _)) fun q=>.inl (Qar.mp q)⟩;rw[Qb2];rcases Qao.mp q with rfl|q
   ·exact Qem _
   ·grind
def vN{es:Array (Int×Av)}{ep:Nat}{t:SetTable}{Q:Ag->Shared->Prop}(hh:A.handled=none)(hs:W6 s.heap a es ep t)(hl:t.led=!yt w)(hp:es.size=0\/t.plain=false)(hz:es.size<=sizeLine)
  (hQ:∀(h':Heap) (d:Drawn) (tk:Nat) (C:List (Int×Av)),(∀b o,s.heap.get? b=some o->h'.get? b=some o)->s.heap.objs.size<=h'.objs.size->C.Perm es.toList->Q (C.map (·.2)) {s with heap:=h',drawn:=d,toks:=tk}):A3 prog w A (collect (.ref a)) Q E s:=by
 obtain⟨o,ho,Z,hd,hf⟩:=id hs;have hlt:=Qaq ho;unfold collect;refine Qaa (wpAny_runValue (Qdr F.entry_proto_collect ?_));rw[Qf5 F.plain_proto_collect _];show wpAny _ A.in1 (newList [] >>= fun l=>again (.builtin "list.__iadd__" ⟨[l,.ref a],[]⟩)) _ _ s;refine Qaa (Qbe ?_);refine Qae ⟨Qej F.plain_list_iadd _,Qdr F.entry_list_iadd ?_⟩;rw[Qf5 F.plain_list_iadd _];generalize hH:s.heap.push {cls:=.type "list",data:=.seq ([]:Ag).toArray}=H;have hHs:H.objs.size=s.heap.objs.size+1:=by rw[<-hH,Qb2]
 have q:∀b o,s.heap.get? b=some o->H.get? b=some o:=fun b o e=>hH ▸ Qad _ e;have hS:H.get? s.heap.objs.size=some {cls:=.type "list",data:=.seq ([]:Ag).toArray}:=hH ▸ Qam _ rfl;have hs1:W6 H a es ep t:=hs.at fun o e=>q a o e;have hT:Shared.TypeIs {s with heap:=H} (.ref a) "set" :=⟨o,q a o ho,Z.1⟩;show wpAny _ A.in1 (Builtin.List.listExtendWith (.ref s.heap.objs.size) (.ref a) (.ref s.heap.objs.size)) _ _ _;unfold Builtin.List.listExtendWith;refine Qaa (Qf0 hT ?_);have h1:Builtin.List.listSameRef (.ref s.heap.objs.size) (.ref a)=false:=by simp[Builtin.List.listSameRef];exact Qef hlt
 have h2:(Value.type "set" == Value.type "list")=false:=by decide
 have h3:(Value.type "set" == Value.type "tuple")=false:=by decide
 simp only[h1,h2,h3,Bool.or_false,Qcl,if_false];refine Qaa (Zet (s:={s with heap:=H}) hs1 hl hp hz fun h1 d I C fp St W=>?_);refine Qaa (Qb9 ?_);unfold Builtin.List.listLengthHint;have M:Shared.TypeIs {s with heap:=h1,drawn:=d} (.ref a) "set" :=⟨o,W.old a o (q a o ho),Z.1⟩;refine Qaa (Qea M F.slot_set_len.lookup ?_)
 wp_delta
 refine Qaa (Qdh (b:=true) M (by rw[isSubtype_type];kernel_rfl) ?_);show wpAny _ A.in1 (typeOf (Value.ref a) >>= _) _ _ _;refine Qaa (Qf0 M ?_);refine Qae ?_;show wpAny _ A.in1 (rule "list.extend.makes-room" >>= fun _=>Builtin.List.listTouch (.ref s.heap.objs.size) >>= fun _=>
  again (.builtin "list.extend.loop" ⟨[.ref s.heap.objs.size,.ref I,.ref s.heap.objs.size],[]⟩)) _ _ _
 refine Qaa (Qdg ?_);have hnf:s.heap.objs.size∉fp:=fun Y=>by
  rcases W.apart _ Y with e|e
  ·exact absurd hlt (e ▸ Qce _)
  ·exact absurd e (by show¬H.objs.size<=_;rw[hHs];exact Nat.not_succ_le_self _)
 have hS1:=W.old _ _ hS;refine Qaa ?_;show wpAny _ A.in1 (updateSeq s.heap.objs.size (·.push .none) >>= fun _=>updateSeq s.heap.objs.size (·.pop)) _ _ _;refine Qaa (Qfo (s:={s with heap:=h1,drawn:=d}) hS1 rfl ?_);have hS2:=Qbs (Obj.mapSeq (·.push Value.none)) hS1 rfl;refine Qfo (s:={s with heap:=h1.update s.heap.objs.size (Obj.mapSeq (·.push Value.none)),drawn:=d}) hS2 rfl ?_;have hS3:=Qbs (Obj.mapSeq (·.pop)) hS2 rfl;have oth:∀b o,b≠s.heap.objs.size->h1.get? b=some o->
   ((h1.update s.heap.objs.size (Obj.mapSeq (·.push Value.none))).update s.heap.objs.size (Obj.mapSeq (·.pop))).get? b=some o:=
  fun b o O e=>(Qb1 _ _ (Qd5 O)).trans ((Qb1 _ _ (Qd5 O)).trans e)
 refine Qae ⟨Qej F.plain_extend_loop _,codeAny_extend_loopS (W.walks A.in1 hh).toS hz _ hnf _ es.size 0 _ _ _ rfl (Qbl _)
  ((W.walks A hh).frame 0 _ _ W.st fun b O o e=>oth b o (fun h=>hnf (h ▸ O)) e) hS3 (ItemsOf.nil _) fun s' J c' Y hS' G=>?_⟩
 show wpAny _ A (load s.heap.objs.size >>= _) _ _ s';refine Qaa (wpAny_load hS' ?_);have L:J.toList=C.map (·.2):=by
  have hol:C.length=es.size:=by simpa using W.perm.length_eq
  apply List.ext_getElem
  ·rw[Qab,Qbk,G.1,hol]
  ·intro i i1 i2;rw[Qbk]at i1;obtain⟨e,he,hv⟩:=G.2 i J[i] (Qdl i1);rw[Array.getElem_toList,hv,List.getElem_map];rw[Qab]at i2;rw[Qac i2]at he;rw[Option.some.inj he]
 have eg:s'.gens=s.gens:=Y.gens;have ed:s'.drawn=d:=Y.drawn;have eo:s'.os=s.os:=Y.os;refine Qae ?_;have:=hQ s'.heap s'.drawn s'.toks C (fun b ob e=>?_) ?_ W.perm
 ·rw[<-L,<-eg,<-eo]at this;exact this
 ·have D:=Qaq e;refine Y.heap b ob (fun O=>?_) (oth b ob (Qbg D) (W.old b ob (q b ob e)));rcases Qao.mp O with h|h
  ·exact absurd D (h ▸ Qce _)
  ·rw[Qar.mp h]at D;have:=W.new;exact absurd D (Qg9.mpr (Qbc (by rw[hHs];exact Qeu _) this))
 ·exact Qa0 (Qaq hS')
theorem J0:∀{l:List (Int×Av)},ElemsOf (PySem.strKind prog w) l->StrsAre (l.map (·.2)) (l.map fun e=>tx e.2)
 |[],_=>.nil
 |e::l,h=>by
  obtain⟨_,t,q⟩:=wu h (Qai);rw[Qbx,Qbx,q];exact .cons _ t (J0 h.tail)
def gZ{led:Bool}{S:Ai}(hh:A.handled=none)(hS:G7 prog w s.heap a (!yt w) S)(h64:S.length<64)
  (h:∀(h':Heap) (d:Drawn) (tk:Nat) (l:Aw) (out:Ah) (G:Ai) (e:Nat),StrsAre out.toList G->G.Perm S->sortedS G=true->(∀b o,s.heap.get? b=some o->h'.get? b=some o)->s.heap.objs.size<=l->
   h'.get? l=some (seqObj "list" out e)->Q (.ref l) {s with heap:=h',drawn:=d,toks:=tk}):
  A3 prog w A (call (.builtin "sorted") [.ref a]) Q E s:=by
 obtain⟨o,es,ep,t,ho,M,hd,Y,hp,hf,hl,hpl⟩:=hS;have hn:es.size=S.length:=by rw[<-hp.length_eq,Qab,Qbk]
 refine Qfb kind_sorted plain_sorted entry_sorted (args_sorted1 _) ?_;refine Qaa (m:=checkCount "sorted" 1 1 _) (Qae ?_);refine Qaa (vN (A:=A.in1) hh ⟨o,ho,M,hd,hf⟩ hl hpl (Qg5 (by unfold scanBound;lia)) fun h1 d tk q J hsz C=>?_);have L:(q.map (·.2)).length<64:=by rw[Qab,C.length_eq,Qbk];lia
 have D:StrsAre (q.map (·.2)) (q.map fun e=>tx e.2):=J0 (Y.perm C);have O:(q.map fun e=>tx e.2).Perm S:=(C.map _).trans hp;generalize hV:q.map (·.2)=vs at L D ⊢;refine Qaa (wpAny_newList ?_);have F:(h1.push (seqObj "list" vs.toArray 0)).get? h1.objs.size=some (seqObj "list" vs.toArray 0):=Qam _ rfl;refine Qaa (Qb9 (Qbf slot_list_sort ⟨_,F,rfl⟩ Qhm (list_sort_treeK strKind_oneLt F D.keysOf (fun v₁ v₂ rest e=>keyKind_strs (by rw[<-e];exact D)) L fun Z a1 a2=>⟨_,rfl,?_⟩) (args_list_sort _)));obtain⟨G,b1,b2,b3⟩:=sorted_out_str D a1 a2;obtain⟨e,he⟩:=sortedHeap_at (vs:=vs) (out:=(arrOf Z).map (·.2)) (n:=0) F;refine Qae ⟨_,rfl,h _ d tk h1.objs.size _ G e b1 (b2.trans O) b3 (fun b ob hb=>?_) hsz he⟩;have I:=Qbm (Qaq hb) hsz;rw[sortedHeap_old (Qbg I) (by rw[size_push'];exact Qdx I)];exact Qad _ (J b ob hb)
end
def TxO(P:Aq)(w:Au)(a:Aw)(S:Ai):HO:=.ext fun h=>G7 P w h a (!yt w) S
theorem Inv.drew(I:Inv X g c H s)(d:Drawn):Inv X g c H {s with drawn:=d}:=
 ⟨I.ok,I.os,I.bare,I.base,I.loc,I.cell,I.free,I.freeC,I.pin,I.hok,I.len⟩
def yx (J:X.calm=true):YA X (.type "set") (fun xs H Q=>∃(p:Aw) (C:Ai),xs=[.ref p]/\SqL X.K H p (C.map V.str)/\C.length<4000 /\
  ∀a:Aw,H a=none->Q (.ref a) (upd H a (TxO X.prog X.w a (XO C)))):=by
 intro pins s σ H xs us Q I r h;obtain⟨p,C,rfl,O,hn,q⟩:=h;obtain⟨u,rfl,Z⟩:=vals1 r;cases Z;obtain⟨M,F,pl,hz⟩:=I.list O;have D:=F.length;rw[Qab]at D;refine xB (I.ok.hd J) pl.isList (by simpa using gP F) (by rw[Qat];unfold scanBound;lia) fun h' tk Y G L=>?_;refine⟨.ref s.heap.objs.size,_,I.laid (t':=tk) (o:=TxO X.prog X.w s.heap.objs.size (XO C)) (fun b o e=>L b o (Qaq e) e) (Qak _) ?_,rfl,q _ (I.hok.fresh (Qak _))⟩;obtain⟨o,es,ep,t,ho,rest⟩:=id G;exact⟨G,⟨o,ho⟩,fun h1 h2 x k=>JQ x k⟩
def J1 (J:X.calm=true):YA X (.builtin "sorted") (fun xs H Q=>∃(a:Aw) (S:Ai),xs=[.ref a]/\H a=some (TxO X.prog X.w a S)/\S.length<64 /\
  ∀(l:Aw) (C:Ai),H l=none->C.Perm S->sortedS C=true->Q (.ref l) (upd H l (.lst (C.map V.str)))):=by
 intro pins s σ H xs us Q I r h;obtain⟨a,S,rfl,Y,Z,q⟩:=h;obtain⟨u,rfl,L⟩:=vals1 r;cases L;have hS:G7 X.prog X.w s.heap a (!yt X.w) S:=(I.hok a _ Y).1;refine gZ (led:=true) (I.ok.hd J) hS Z fun h' d tk l out D e hi F hs O G M=>?_;refine⟨.ref l,_,(I.drew d).laid (t':=tk) (o:=.lst (D.map V.str)) O G ?_,rfl,q _ D (I.hok.fresh G) F hs⟩;have hm:D.length=S.length:=F.length_eq;exact⟨by rw[Qab];exact Qa0 (Z2 (by lia)),out.toList,e,Wz hi,by simpa using M⟩
def Ziu{y:Str}(h:x.cps.toList=y.cps.toList):x=y:=by
 cases x;cases y;simp only[Str.mk.injEq];exact Array.toList_inj.mp h
def Ziv{y:Str}(h1:ltCps x.cps.toList y.cps.toList=false)(h2:ltCps y.cps.toList x.cps.toList=false):x=y:=by
 rw[ltCps_eq]at h1 h2;exact Ziu (List.le_antisymm (Qfp h2) (Qfp h1))
def Zeu{y z:Str}(h1:ltCps y.cps.toList x.cps.toList=false)(h2:ltCps z.cps.toList y.cps.toList=false):ltCps z.cps.toList x.cps.toList=false:=by
 rw[ltCps_eq]at h1 h2 ⊢;refine Qap ?_;have a1:x.cps.toList<=y.cps.toList:=Qfp h1;have a2:y.cps.toList<=z.cps.toList:=Qfp h2;exact(List.le_trans a1 a2:x.cps.toList<=z.cps.toList)
theorem JR:∀(p:Str) (l:Ai),risingS p l=true->∀y∈l,ltCps y.cps.toList p.cps.toList=false
 |p,[],_,y,q=>nomatch q
 |p,x::r,h,y,q=>by
  have h':(!ltCps x.cps.toList p.cps.toList&&risingS x r)=true:=h;rw[Qb4,Bool.not_eq_true']at h';rcases Qao.mp q with rfl|q
  ·exact h'.1
  ·exact Zeu h'.1 (JR x r h'.2 y q)
def q9{p:Str}{l:Ai}(h:sortedS (p::l)=true):sortedS l=true:=by
 cases l with
 |nil=>rfl
 |cons x r=>
  have h':(!ltCps x.cps.toList p.cps.toList&&risingS x r)=true:=h;rw[Qb4]at h';exact h'.2
theorem zu:∀(l m:Ai),sortedS l=true->sortedS m=true->l.Perm m->l=m
 |[],m,_,_,p=>by rw[List.nil_perm.mp p]
 |x::l,m,h1,h2,p=>by
  cases m with
  |nil=>exact absurd (List.perm_nil.mp p) (by simp)
  |cons y m=>
   have q:x=y:=by
    have C:x∈y::m:=p.mem_iff.mp Qai;have D:y∈x::l:=p.mem_iff.mpr Qai;rcases Qao.mp C with e|C
    ·exact e
    ·rcases Qao.mp D with e|D
     ·exact e.symm
     ·exact Ziv (JR y m h2 x C) (JR x l h1 y D)
   subst q;rw[zu l m (q9 h1) (q9 h2) (p.cons_inv)]
def Ziw{S:Ai}{y:Str}:y∈ins S x↔y∈S\/y=x:=by
 unfold ins;split
 ·grind
 ·simp
def Zbg{S:Ai}(h:S.Nodup):(ins S x).Nodup:=by
 unfold ins;split
 ·exact h
 ·grind
theorem jj:∀(ys S:Ai),S.Nodup->(ys.foldl ins S).Nodup/\∀y,y∈ys.foldl ins S↔y∈S\/y∈ys
 |[],S,h=>⟨h,fun y=>by simp⟩
 |x::r,S,h=>by
  obtain⟨a,b⟩:=jj r (ins S x) (Zbg h);refine⟨a,fun y=>(b y).trans ?_⟩;rw[Ziw,Qao,or_assoc]
def vO(ys:Ai):(XO ys).Nodup:=(jj ys [] Qck).1
def Zbh{ys:Ai}{y:Str}:y∈XO ys↔y∈ys:=((jj ys [] Qck).2 y).trans (by simp)
theorem xE:fillsNumberSlot (.type "tuple") "mul" = pure false:=
 PySem.fillsNumberSlot_seq (id:= "tuple.__mul__") (r:=some (.builtin "tuple.__rmul__")) F.slot_tuple_mul.lookup (by decide +kernel) F.slot_tuple_rmul.lookup (by decide +kernel)
def ua:seqRepeat? (.type "tuple")=pure (some (.builtin "tuple.__mul__")):=by
 rfl
section
variable {prog:Aq}{w:Au}{A:Ar}{E:Ab}{s:As}
def Zev {a:Int} {t:Tok} {l:Aw} {o:Obj}   {R:Ab} (ho:s.heap.get? l=some o) (q:o.cls=.type "tuple") (D:o.data=.seq C n) (h:R .notImplemented s):
  wpAny (model prog w) A (Builtin.«int.__rmul__» ⟨[.int a t,.ref l],[]⟩) (fun fin s'=>∃r,fin=.done (.ret r)/\R r s') E s:=by
 obtain⟨cls,dict,data,slots⟩:=o;cases q;cases D;obtain⟨F,g,d,tk,os⟩:=s
 wp_walk
 exact⟨_,rfl,h⟩
def Zix{k:Int}{t:Tok}{l:Aw}{R:Ab}(Y:IsTup s.heap l J.toArray)(h2:2<=k)(h3:k<2^63)(hne:J≠[])(I:J.length*k.toNat<=sizeLine)
  (h:R (.ref s.heap.objs.size) {s with heap:=s.heap.push {cls:=.type "tuple",data:=.seq (List.replicate k.toNat J).flatten.toArray}}):
  A3 prog w A (Builtin.«tuple.__mul__» ⟨[.ref l,.int k t],[]⟩) (fun fin s'=>∃r,fin=.done (.ret r)/\R r s') E s:=by
 obtain⟨o,ho,hc,n,Z⟩:=Y;have L:((J.toArray.size:Nat):Int)*k<=(sizeLine:Int):=by
  grind
 have D:¬((J.toArray.size:Nat):Int)*k>(2^63-1)/8:=by
  have:(sizeLine:Int)<=(2^63-1)/8:=by decide
  lia
 have q:Builtin.Tuple.tupleTooMany (((J.toArray.size:Nat):Int)*k)=false:=by
  unfold Builtin.Tuple.tupleTooMany;simp;lia
 have M:J.toArray.isEmpty=false:=by grind
 have C:List.foldl (fun O x2=>O++x2) #[] (List.replicate k.toNat J.toArray)=(List.replicate k.toNat J).flatten.toArray:=by
  have:=foldl_rep J k.toNat [];exact this
 refine Qaa (Qcj (a:=k) rfl ?_);rw[Qax (by simp;lia)];refine Qaa (Qaa (Qci ho Z (Qae ?_)));have F:(k == 1)=false:=by simp;lia
 have G:decide (k<=0)=false:=by simp;lia
 simp only[M,F,G,Bool.or_false,Qcl,↓reduceIte,D,q,C];refine Qaa (Qbe (Qae ⟨_,rfl,h⟩) (by show(List.replicate k.toNat J).flatten.toArray.size<=sizeLine;rw[Qat,len_rep,Qgp];exact I))
end
def rRepT(K:Af):R2:=fun x y H Q=>∃l k xs,x=.ref l/\y=.int k/\SqT K H l xs/\2<=k/\k<2^63/\xs≠[]/\xs.length*k.toNat<=sizeLine /\
 ∀p,H p=none->Q (.ref p) (upd H p (.tup (List.replicate k.toNat xs).flatten))
def Ziy:OpR X (binaryOp .Mult) (rRepT X.K):=by
 intro pins s σ H x y v u Q I Y M h;obtain⟨l,k,xs,rfl,rfl,Z,h1,h2,D,G,q⟩:=h;cases Y;obtain⟨t,rfl⟩:=M;obtain⟨J,r,p1,_⟩:=I.tuple Z;obtain⟨o,ho,C,n,L⟩:=id p1;have O:=r.length;refine wpAny_binaryOp_repeat_ref (T:= "tuple") (U:= "int") (by decide) ⟨_,ho,C⟩ (fun s'=>typeIs_int s' k t) xE F.fills_int_mul F.slot_int_rmul ua F.slot_int_index.lookup
  (Qbf F.slot_int_rmul (typeIs_int s k t) F.entry_int_rmul (Zev ho C L ⟨rfl,⟨_,ho,C⟩,Qbf F.slot_tuple_mul ⟨_,ho,C⟩ F.entry_tuple_mul (Zix p1 h1 h2 (fun z=>D (r.nil_iff.mp z)) (by rw[<-O];exact G) ?_) (F.args_tuple_mul_2 _ _)⟩) (F.args_int_rmul_2 _ _))
 refine⟨.ref s.heap.objs.size,_,I.laid (t':=s.toks) (o:=.tup (List.replicate k.toNat xs).flatten) (fun b ob q=>Qad _ q) (Qak _) ?_,rfl,q _ (I.hok.fresh (Qak _))⟩;exact⟨by rw[len_rep,Qgp];exact G,_,r.rep k.toNat,v8.new _ _⟩
def yy{xs:A2}{is:Aj}{Q:VK}(p:V->Bool)(S:Hp->Hp->Prop)(M:∀H,S H H)(st:∀H1 H2 F,S H1 H2->S H2 F->S H1 F)(Z:∀H1,S H H1->SqT K H1 a xs)(O:xs.length<=sizeLine)
  (J:∀x∈xs,∀H1,S H H1->∀R:Bool->Hp->Prop,(∀H2,S H1 H2->R (p x) H2)->G (xA is c (some x)) H1 R)
  (L:∀x∈xs,∀H1,∀R:VK,R x H1->u (xA is c (some x)) H1 R)
  (Y:∀H1 l,S H H1->H1 l=none->Q (.ref l) (upd H1 l (.lst (xs.filter p)))):G5 is G u c Q (Itt K a) H:=by
 refine X3 (xs:=xs) (fun i zs H'=>zs=(xs.take i).filter p/\S H H') ⟨rfl,M H⟩ ?_ ?_ ?_ ?_
 ·grind
 ·grind
 ·rintro i x zs H' R hR q ⟨rfl,C⟩;have I:=Qas q;have e:=take_snoc q;refine J x I H' C _ fun H2 D=>?_;cases hp:p x with
  |true=>
   refine(Qa3 rfl:(if true=true then _ else _)=_) ▸ L x I H2 _ (hR _ _ ⟨?_,st _ _ _ C D⟩);rw[e,Qd3,Qc5,Qa3 hp];rfl
  |false=>
   refine(Qax Qa7:(if false=true then _ else _)=_) ▸ hR _ _ ⟨?_,st _ _ _ C D⟩;rw[e,Qd3,Qc5,Qax (by rw[hp];exact Qa7)];simp
 ·grind
abbrev X5(o:Obj):HO:=.frz o (.ext fun _=>True)
def JS{o:Obj}(e:h.get? a=some o):Y2 P w H h a (X5 o):=⟨e,trivial,⟨o,e⟩,fun _ _ _ _=>trivial⟩
def hide(cs:List Aw)(H:Hp):Hp:=fun b=>if b∈cs then none else H b
def XQ(cs:List Aw)(H H':Hp):Hp:=fun b=>if b∈cs then H b else H' b
def Yy{b:Aw}(h:b∈M):hide M H b=none:=Qa3 h
def Z6{b:Aw}(h:b∉M):hide M H b=H b:=Qax h
def Xt{H':Hp}{b:Aw}(h:b∈M):XQ M H H' b=H b:=Qa3 h
def ZG{H':Hp}{b:Aw}(h:b∉M):XQ M H H' b=H' b:=Qax h
def of_hide{b:Aw}{o:HO}(h:hide M H b=some o):b∉M/\H b=some o:=by
 by_cases m:b∈M
 ·rw[Yy m]at h;cases h
 ·rw[Z6 m]at h;exact⟨m,h⟩
def JT(H H1:Hp):Prop:=∀b o u,H b=some (.frz o u)->H1 b=some (.frz o u)
def JT.refl(H:Hp):JT H H:=fun _ _ _ h=>h
def JT.trans{H2:Hp}(a:JT H E)(b:JT E H2):JT H H2:=fun c o u h=>b c o u (a c o u h)
def Z9.frz{H H1:Hp}(a:Z9 H H1):JT H H1:=fun b o u h=>a b _ h
def YZ(P:Aq)(w:Au)(K:Af)(mg:Ae)(base:Heap)(k:Nat)(f:Aw)(H:Hp)(τ:Sp):Prop:=
 (∃o fd,H f=some (X5 o)/\o.data=.func fd) /\
 ∀(A:Ar) (outer:List Env) (s:As) (H1:Hp) (q:Ag) (vs:A2) (Q:VK) (E:XK),JT H H1->Wu k A->Zkz P w K mg base A outer s H1->Vals vs q->τ vs H1 Q E->
  codeAny (model P w) A (.call (.ref f) ⟨q,[]⟩) (CR CX0 outer P w H1 s Q E) s
theorem YZ.frz{P:Aq}{w:Au}{K:Af}{mg:Ae}{base:Heap}{k:Nat}{f:Aw}{H H1:Hp}{τ:Sp}(c:YZ P w K mg base k f H τ)(h:JT H H1):YZ P w K mg base k f H1 τ:=
 ⟨let⟨o,fd,e,d⟩:=c.1;⟨o,fd,h _ _ _ e,d⟩,fun A outer s H2 q vs Q E C=>c.2 A outer s H2 q vs Q E (h.trans C)⟩
section
variable {P:Aq}{w:Au}{H H':Hp}{h h':Heap}{cs:List Aw}
theorem vP(x:HOk P w H h)(C:∀c∈cs,∃o,H c=some (X5 o)):HOk P w (hide cs H) h:=fun a o e=>by
 obtain⟨_,D⟩:=of_hide e;refine(x a o D).stay (fun _ _ _ q=>q) (fun d q=>?_) fun d xs q=>?_
 ·by_cases m:d∈cs
  ·grind
  ·rw[Z6 m];exact q
 ·by_cases m:d∈cs
  ·grind
  ·rw[Z6 m];exact q
theorem yz(x:HOk P w H' h')(D:∀c∈cs,H' c=none)(C:∀c∈cs,∃o,H c=some (X5 o)/\h'.get? c=some o):HOk P w (XQ cs H H') h':=fun a o e=>by
 by_cases m:a∈cs
 ·rw[Xt m]at e;obtain⟨ob,z,g⟩:=C a m;rw[z]at e;cases e;exact JS g
 ·rw[ZG m]at e;refine(x a o e).stay (fun _ _ _ q=>q) (fun d q=>?_) fun d xs q=>?_
  ·by_cases m:d∈cs
   ·rw[D d m]at q;cases q
   ·rw[ZG m];exact q
  ·by_cases m:d∈cs
   ·rw[D d m]at q;cases q
   ·rw[ZG m];exact q
end
structure Zlt(scope:Scope)(ps ys:Ai):Prop where
 kind:scope.kind=.function
 co:scope.isCoroutine=false
 gen:scope.isGenerator=false
 cell:∀y∈scope.names,y.2≠.cell
 par:∀p∈ps,scope.names.lookup p=some .local
 free:∀y∈ys,scope.names.lookup y=some .free
 nd:(ps++ys).Nodup
def cxL(P:Aq)(w:Au)(K:Af)(mg:Ae)(base:Heap)(N:Ai)(qual:Str)(scope:Scope)(f:Aw)(q:Av)(cl:List (Str×Aw))(A:Ar)(outer:List Env)(s:As)(H:Hp):Cx where
 prog:=P
 w:=w
 K:=K
 mg:=mg
 base:=base
 A:=A.deeper (PySem.W.envX qual scope s.heap.objs.size f q cl)
 N:=N
 s₀:=s
 H₀:=H
 env:=PySem.W.envX qual scope s.heap.objs.size f q cl
 outer:=outer
 stack:=PySem.W.envX qual scope s.heap.objs.size f q cl::outer
 ex:=[]
 calm:=true
 fn:=fun _=>false
 pn:=[]
 xe:=fun _ _=>False
def Zlu(n:Nat)(te:TE)(cs:List Aw)(q:List (Option V)):Sp:=fun vs H Q _=>vs.length=n/\te (vs.map some++q) (hide cs H) fun v H'=>(∀c∈cs,H' c=none)->Q v (XQ cs H H')
theorem zw{ps:Ai}(G:ps.Nodup){u:Av}(h1:ps[i]?=some x)(h2:J[i]?=some u)(M:ps.length=J.length):(ps.zip J).reverse.lookup x=some u:=by
 have I:(x,u)∈ps.zip J:=by
  obtain⟨a1,e1⟩:=Qag.mp h1;obtain⟨a2,e2⟩:=Qag.mp h2;rw[<-e1,<-e2,<-Qhi (h:=by rw[Qet];lia)];exact Qbu _
 have D:((ps.zip J).map (·.1)).Nodup:=by
  rw[List.map_fst_zip (by lia)];exact G
 have C:((ps.zip J).reverse.map (·.1)).Nodup:=by
  grind
 have q:(x,u)∈(ps.zip J).reverse:=List.mem_reverse.mpr I;generalize (ps.zip J).reverse=l at C q
 induction l with
 |nil=>cases q
 |cons p r L=>
  obtain⟨n,v⟩:=p;rcases Qao.mp q with e|F
  ·grind
  ·grind
section
variable {P:Aq}{w:Au}{K:Af}{mg:Ae}{base:Heap}
theorem y1{k:Nat}{name qual:Str}{params:Arguments}{body:Ax}{scope:Scope}{cl:List (Str×Aw)}{pm ctv:Av}{ps ys:Ai}{cv:List (Option V)}
  (S:Zlt scope ps ys) (hf:H f=some (X5 (PySem.W.kla_obj name qual params body scope cl pm a ctv))) (hc:H a=some (X5 Z)) (hoc:∃vs t,Z.data=.fields vs/\vs[1]?=some (.str qual t))
  (hcl:∀x c,cl.lookup x=some c->c∈M) (hcs:∀c∈M,∃o v,H c=some (X5 o)/\o.data=.cell v)
  (inj:∀x y c,cl.lookup x=some c->cl.lookup y=some c->x=y) (has:∀x,scope.names.lookup x=some .free->∃c,cl.lookup x=some c)
  (hcv:cv.length=ys.length) (hval:∀(i:Nat) (y:Str) (v:V),ys[i]?=some y->cv[i]?=some (some v)->∃c o u,cl.lookup y=some c/\H c=some (X5 o)/\o.data=.cell (some u)/\RelV v u)
  (hb:∀Y:Ag,Y.length=ps.length->bindArgs (PySem.W.kla_fn name qual params body scope cl pm (.ref a) ctv) ⟨Y,[]⟩=pure (ps.zip Y))
  (hbody:∀(A:Ar) (outer:List Env) (s:As) (H1:Hp),Wu k (A.deeper (PySem.W.envX qual scope s.heap.objs.size f (.ref a) cl))->PE (cxL P w K mg base (ps++ys) qual scope f (.ref a) cl A outer s H1) body I):
  YZ P w K mg base (k+1) f H (Zlu ps.length I M cv):=by
 refine⟨⟨_,_,hf,rfl⟩,?_⟩;intro A outer s H1 Y vs Q E fz hr C r ht;obtain⟨hl,ht⟩:=ht;have gf:s.heap.get? f=some (PySem.W.kla_obj name qual params body scope cl pm a ctv):=(C.hok f _ (fz _ _ _ hf)).1;have F:∀c∈M,∃o v,H1 c=some (X5 o)/\o.data=.cell v/\s.heap.get? c=some o:=fun c m=>by
  obtain⟨o,v,e,d⟩:=hcs c m;exact⟨o,v,fz _ _ _ e,d,(C.hok c _ (fz _ _ _ e)).1⟩
 have G:∀c∈M,∃o,H1 c=some (X5 o):=fun c m=>let⟨o,_,e,_⟩:=F c m;⟨o,e⟩;obtain⟨vs0,t0,hd0,hv0⟩:=hoc;have lim:s.heap.NoLimit:=C.mod.nolimit.keeps fun b o e=>(C.bs b o e).1;have lus:Y.length=ps.length:=by rw[<-r.length];exact hl
 refine PySem.W.kla_callFunE hr.depth gf rfl S.co S.gen rfl ⟨a,Z,vs0,t0,rfl,(C.hok a _ (fz _ _ _ hc)).1,hd0,hv0⟩ ?_;rw[hb Y lus];refine Qae (wpAny_newFunctionEnv S.cell (fun x hx=>S.par _ (Qd9 hx).1) (fun O hns hsb=>⟨lim.fresh _ hsb,?_⟩) S.kind);have L:∀b o,s.heap.get? b=some o->O.get? b=some o:=fun b o e=>hsb.extBut b o (Qbg (Qaq e)) (Qad _ e);have ndp:ps.Nodup:=(Qec.mp S.nd).1;have zq15:Inv (cxL P w K mg base (ps++ys) qual scope f (.ref a) cl A outer s (hide M H1)) [] (vs.map some++cv) (hide M H1) {s with heap:=O,toks:=s.toks+(ps.zip Y).length}:=by
  have noA:∀b:Aw,b∉([]:List Aw):=fun b z=>nomatch z;refine⟨⟨C.mod,S.kind,rfl,rfl,Qak _,inj,fun y hy=>?_,(fun y c h=>by cases h),fun _=>hr.hd,Qf4 C.frames,.inr ⟨rfl,rfl⟩,fun b z=>absurd z (noA b),fun b o e=>⟨(C.bs b o e).1,?_⟩,C.bsz,fun b _ _=>noA b,fun b z=>absurd z (noA b),C.funs,fun b hb=>?_⟩,
   rfl,C.bare,Un.kept L,⟨_,hns,fun i y v h1 h2 h3=>?_⟩,fun y c h=>?_,?_,fun y c h=>Yy (hcl y c h),fun p hp=>absurd (show p∈([]:Ac)from hp) (by simp),(vP C.hok G).kept L,?_⟩
  ·rcases hy with hy|hy
   ·exact absurd rfl (S.cell _ (Qch hy))
   ·exact has y hy
  ·by_cases m:b∈M
   ·exact Yy m
   ·exact(Z6 m).trans (C.bs b o e).2
  ·by_cases m:b∈M
   ·exact Yy m
   ·exact(Z6 m).trans (C.frf b hb)
  ·by_cases hi:i<vs.length
   ·have ha:vs[i]?=some v:=by
     grind
    obtain⟨u,hu,rv⟩:=r.get ha;have D:(ps++ys)[i]?=some y:=h1;rw[Qa9 (by lia)]at D;exact⟨u,rv,.inl ⟨S.par y (Qas D),zw ndp D hu lus.symm⟩⟩
   ·rw[Qaz (by simpa using hi),Qab]at h2;have D:(ps++ys)[i]?=some y:=h1;rw[Qaz (by lia),<-hl]at D;obtain⟨c,o,u,e1,e2,e3,rv⟩:=hval _ y v D h2;refine⟨u,rv,.inr ⟨.inr (S.free y (Qas D)),c,e1,o,L _ _ (C.hok c _ (fz _ _ _ e2)).1,e3⟩⟩
  ·obtain⟨o,v,_,d,g⟩:=F c (hcl y c h);exact⟨v,o,L _ _ g,d⟩
  ·show hide M H1 s.heap.objs.size=none
   by_cases m:s.heap.objs.size∈M
   ·exact Yy m
   ·rw[Z6 m];exact C.hok.fresh (Qak _)
  ·show(vs.map some++cv).length=(ps++ys).length;rw[Qaj,Qaj,Qab,hl,hcv]
 refine PySem.W.kla_codeExpr (Qdi (hbody A outer s (hide M H1) (hr.deeper _) [] _ _ _ _ zq15 ht) (fun u s' hs=>?_) fun _ _ z=>z.elim);obtain⟨v,H',J,rv,q⟩:=hs;have b:Un (frs outer) [] (hide M H1) H' s.heap s'.heap:=J.base;have nfr:∀c∈M,c∉frs outer:=fun c m z=>by
  obtain⟨o,e⟩:=G c m;rw[C.frf c z]at e;cases e
 have Hn:∀c∈M,H' c=none:=fun c m=>by
  obtain⟨o,v,e,d,g⟩:=F c m;exact b.free c o g (Yy m) (fun z=>nomatch z)
 have hh:∀d,H1 d=none->hide M H1 d=none:=fun d n=>by
  by_cases m:d∈M
  ·exact Yy m
  ·rw[Z6 m];exact n
 have nm:∀d o,H1 d=some o->(∀ob,o≠X5 ob)->d∉M:=fun d o e ne m=>by
  obtain⟨ob,z⟩:=G d m;rw[e]at z;exact ne ob (Option.some.inj z)
 refine⟨v,XQ M H1 H',J.os,J.bare,⟨fun d o e n hb hx=>b.keep d o e (hh d n) hb hx,fun d o e n hb hx=>b.slot d o e (hh d n) hb hx,fun d o e n hx=>?_,b.there,fun d xs e=>?_,fun d o u e=>?_,fun d pz e=>?_⟩,yz J.hok Hn fun c m=>?_,rv,q Hn⟩
 ·by_cases m:d∈M
  ·rw[Xt m];exact n
  ·rw[ZG m];exact b.free d o e (hh d n) hx
 ·have m:=nm d _ e (fun ob z=>nomatch z);rw[ZG m];exact b.tups d xs (by rw[Z6 m];exact e)
 ·by_cases m:d∈M
  ·rw[Xt m];exact e
  ·rw[ZG m];exact b.frzs d o u (by rw[Z6 m];exact e)
 ·have m:=nm d _ e (fun ob z=>nomatch z);rw[ZG m];exact b.tbls d pz (by rw[Z6 m];exact e)
 ·obtain⟨o,v,e,d,g⟩:=F c m;exact⟨o,e,b.keep c o g (Yy m) (nfr c m) (fun z=>nomatch z)⟩
end
def zx(oc:Obj)(qual:Str):Prop:=∃vs t,oc.data=.fields vs/\vs[1]?=some (.str qual t)
def Yo(H:Hp)(P:Aw)(pos:Pos)(qual:Str):Prop:=
 H P=some (.tbl #[])\/∃q oc,H P=some (.tbl #[rawInt pos.line,rawInt pos.col,.ref q])/\H q=some (X5 oc)/\zx oc qual
def Yo.ex{P:Aw}{qual:Str}(h:Yo H P p qual):∃ps,H P=some (.tbl ps):=by
 rcases h with h|⟨_,_,h,_⟩<;>exact⟨_,h⟩
structure jk(mg:Ae)(base:Heap):Prop where
 ex:∃bm ob,mg "__builtins__" = some (.ref bm)/\bm≠builtinsNs/\base.get? bm=some ob/\ob.cls=.type "module" /\ ob.dict=some builtinsNs/\ob.data=.plain
def tLam(P:Aw)(lpos:Pos)(qual:Str)(q:Aw->Value->Obj):TE:=fun _ H Q=>Yo H P lpos qual /\
 ∀(f D:Aw) (oc:Obj) (C:Av) (H2:Hp),H f=none->H2 f=some (X5 (q D C))->H2 D=some (X5 oc)->zx oc qual->Yo H2 P lpos qual->(∀b o,H b=some o->b≠P->H2 b=some o)->Q (.ref f) H2
def wy{X:Cx}{P:Aw}{lpos:Pos}{fo:Obj}{h':Heap}{tk:Nat}(I:Inv X g c H s)(D:H P=some (.tbl #[]))(M:Heap.ExtBut P s.heap h')(J:s.heap.objs.size<=f)(hlt:f<h'.objs.size)(Y:h'.get? f=some Z)
  (G:h'.get? P=some (PySem.W.tabObj #[rawInt lpos.line,rawInt lpos.col,.ref f])) (O:fo.isFreed=false:=by rfl):Inv X g c (upd (upd (upd H P (.tbl #[rawInt lpos.line,rawInt lpos.col,.ref f])) f (X5 Z)) h'.objs.size (X5 fo)) {s with heap:=h'.push fo,toks:=tk}:=by
 have F:H f=none:=I.hok.fresh J;have cP:f≠P:=fun e=>by rw[e,D]at F;cases F
 have lo:∀{b:Aw} {o:Obj},s.heap.get? b=some o->b≠f:=fun e z=>absurd (Qaq e) (by rw[z];exact Qg9.mpr J);have I1:Inv X g c (upd (upd H P (.tbl #[rawInt lpos.line,rawInt lpos.col,.ref f])) f (X5 Z)) {s with heap:=h',toks:=tk}:=by
  refine I.un ⟨fun b o e n _ _=>M b o (fun z=>by rw[z,D]at n;cases n) e,fun b o e n _ _=>⟨o.slots,M b o (fun z=>by rw[z,D]at n;cases n) e⟩,fun b o e n _=>?_,fun b o e _=>?_,fun b xs e=>?_,fun b o u e=>?_,fun b pz e=>?_⟩ fun b u e=>?_
  ·rw[Zk (lo e),Zk (fun z=>by rw[z,D]at n;cases n)];exact n
  ·by_cases C:b=P
   ·rw[C];exact⟨_,G⟩
   ·exact⟨o,M b o C e⟩
  ·rw[Zk (Zm e F),Zk (Xm e D (fun z=>nomatch z))];exact e
  ·rw[Zk (Zm e F),Zk (Xm e D (fun z=>nomatch z))];exact e
  ·by_cases C:b=P
   ·subst C;rw[D]at e;cases e;exact⟨#[rawInt lpos.line,rawInt lpos.col,.ref f],by rw[Zk cP.symm,Za];rfl⟩
   ·exact⟨#[],by rw[Zk (Zm e F),Zk C,e];simp⟩
  ·by_cases L:b=f
   ·subst L;rw[Za]at e;cases e;exact JS Y
   ·rw[Zk L]at e
    by_cases C:b=P
    ·subst C;rw[Za]at e;cases e;exact G
    ·rw[Zk C]at e;refine(I.hok b u e).stay (fun d v hd q=>M d v ?_ q) (fun d q=>?_) fun d xs q=>?_
     ·grind
     ·rw[Zk (Zm q F),Zk (Xm q D (fun z=>nomatch z))];exact q
     ·rw[Zk (Zm q F),Zk (Xm q D (fun z=>nomatch z))];exact q
 exact I1.laid (h':=h'.push fo) (t':=tk) (a:=h'.objs.size) (o:=X5 fo) (fun b u e=>Qad _ e) (Qak _) (JS (Qam _ O))
section
variable {X:Cx}{params:Arguments}{body:Ax}{scope:Scope}{lpos:Pos}{c P:Aw}{qual:Str}
abbrev zy (X:Cx) (qual:Str) (params:Arguments) (body:Ax) (scope:Scope):Aw->Value->Obj:=fun C q=>PySem.W.kla_obj "<lambda>" qual params body scope (qt X.env.cells scope.names []) ((X.mg "__name__").getD .none) C q
def Zbi (F:X.env.code=.ref c) (C:PySem.W.CodeHd X.base c P) (B:jk X.mg X.base) (Z:defaultsOf params X.env=([],[])) (hq:X.env.qual ++ "<lambda>" = qual)
  (O:∀y∈scope.names,y.2=.free->X.env.scope.names.lookup y.1=some .cell):
  PE X (.Lambda params body scope lpos) (tLam P lpos qual (zy X qual params body scope)):=by
 intro pins s σ H Q I hw;obtain⟨J,hq2⟩:=hw;refine PySem.W.kla_eval Z ?_;rw[hq];have hcl:closureFor scope X.env=pure (qt X.env.cells scope.names []):=WR fun y hy h=>I.ok.has y.1 (.inl (O y hy h));have hg:s.heap.Ns mainGlobals X.mg:=I.mod.glob.keeps I.bk;obtain⟨pz,hPs⟩:=J.ex;have G:X.base.get? P=none:=by
  cases e:X.base.get? P with
  |none=>rfl
  |some o=>rw[(I.bs P o e).2]at hPs;cases hPs
 have hgP:mainGlobals≠P:=fun e=>by
  obtain⟨o,es,ep,g,_⟩:=I.mod.glob;rw[e,G]at g;cases g
 have hb:s.heap.BuiltinsAt X.mg P:=by
  obtain⟨bm,ob,b1,b2,b3,b4,b5,b6⟩:=B.ex;refine⟨bm,ob,b1,b2,fun e=>?_,(fun e=>by rw[e,G]at b3;cases b3),I.bk _ _ b3,b4,b5,b6⟩;obtain⟨o,es,ep,g,hd,_⟩:=I.mod.glob;rw[<-e,b3]at g;cases g;rw[b6]at hd;cases hd
 rcases J with J|⟨q,oc,J,hc',L⟩
 ·have hP:s.heap.get? P=some (PySem.W.tabObj #[]):=I.hok P _ J;refine PySem.W.kla_makeFunction (mg:=X.mg) (ps:=#[]) hcl I.ok.glob hg F (C.keeps I.bk) hP trivial rfl hgP hb fun q D h' tk hx M Y hrec htb=>?_;obtain⟨c₂,oc,vs,t,e2,L,hd,hv⟩:=hrec;cases e2;have cn:H q=none:=I.hok.fresh M;have cP:q≠P:=fun e=>by rw[e,J]at cn;cases cn
  have hsz:s.heap.objs.size<=h'.objs.size:=Qbc M (Qa0 Y);have I2:=wy (lpos:=lpos) (fo:=zy X qual params body scope q D) (tk:=tk) I J hx M Y L htb;have fn:H h'.objs.size=none:=I.hok.fresh hsz;have fc:q≠h'.objs.size:=Qbg Y;have fP:P≠h'.objs.size:=Zm J fn;refine⟨.ref h'.objs.size,_,I2,rfl,hq2 _ q oc D _ fn Za ?_ ⟨vs,t,hd,hv⟩ (.inr ⟨q,oc,?_,?_,⟨vs,t,hd,hv⟩⟩) fun b o e hbP=>?_⟩
  ·rw[Zk fc];exact Za
  ·rw[Zk fP,Zk cP.symm];exact Za
  ·rw[Zk fc];exact Za
  ·rw[Zk (Zm e fn),Zk (Zm e cn),Zk hbP];exact e
 ·have hP:s.heap.get? P=some (PySem.W.tabObj #[rawInt lpos.line,rawInt lpos.col,.ref q]):=I.hok P _ J;have hf:codeAmong lpos (#[rawInt lpos.line,rawInt lpos.col,.ref q]:Ah).toList=some (.ref q):=by
   show(if((lpos.line:Int) == lpos.line&&(lpos.col:Int) == lpos.col)=true then some (Value.ref q)else _)=_;rw[Qcu,Qcu];rfl
  refine PySem.W.kla_makeFunctionHit (mg:=X.mg) hcl I.ok.glob hg F (C.keeps I.bk) hP trivial hf hb fun D h' tk hk hsz=>?_;have I2:=I.laid (h':=h'.push (zy X qual params body scope q D)) (t':=tk) (a:=h'.objs.size) (o:=X5 (zy X qual params body scope q D)) (fun b u e=>Qad _ (hk b u e)) hsz (JS (Qam _ rfl));have fn:H h'.objs.size=none:=I.hok.fresh hsz;have sm:∀b o,H b=some o->upd H h'.objs.size (X5 (zy X qual params body scope q D)) b=some o:=fun b o e=>by rw[Zk (Zm e fn)];exact e
  exact⟨.ref h'.objs.size,_,I2,rfl,hq2 _ q oc D _ fn Za (sm _ _ hc') L (.inr ⟨q,oc,sm _ _ J,sm _ _ hc',L⟩) fun b o e _=>sm b o e⟩
end
def cellsOf(cells:List (Str×Aw)):List Aw:=(cells.map (·.1)).filterMap fun x=>cells.lookup x
def YS{cells:List (Str×Aw)}{c:Aw}:c∈cellsOf cells↔∃x,cells.lookup x=some c:=by
 unfold cellsOf;rw[Qgk];constructor
 ·grind
 ·rintro⟨x,h⟩;exact⟨x,Qav.mpr ⟨(x,c),Qch h,rfl⟩,h⟩
def ub(X:Cx)(s:As)(H:Hp):Hp:=fun b=>if b∈cellsOf X.env.cells then(s.heap.get? b).map X5 else H b
section
variable {X:Cx}{pins:Ac}{σ:St}{H:Hp}{s:As}
theorem jl(I:Inv X pins σ H s):∀d∈cellsOf X.env.cells,∃o v,ub X s H d=some (X5 o)/\o.data=.cell v/\s.heap.get? d=some o:=fun d m=>by
 obtain⟨y,C⟩:=YS.mp m;obtain⟨v,o,ho,q⟩:=I.cell y d C;exact⟨o,v,by unfold ub;rw[Qa3 m,ho];rfl,q,ho⟩
def J2{d:Aw}(m:d∉cellsOf X.env.cells):ub X s H d=H d:=Qax m
def XR(I:Inv X pins σ H s):∀d∈cellsOf X.env.cells,H d=none:=fun d m=>let⟨y,hy⟩:=YS.mp m;I.freeC y d hy
theorem GS(I:Inv X pins σ H s):∀b o,H b=some o->ub X s H b=some o:=fun b o e=>by
 rw[J2 fun m=>by rw[XR I b m]at e;cases e];exact e
def qA{k:Nat}{g:Aw}{gd:Ao}{sp:Sp}{Q:VK}{vs:A2}(F:Y6 X.prog X.w X.K X.mg X.base CX0 k g gd N sp)(hr:Wu k X.A)(M:Binds X.K gd N [])(hfn:X.fn=fun _=>true)
  (I:Inv X pins σ H s) (rv:Vals vs J) (hsp:sp vs (ub X s H) (fun v H3=>Q v (hide (cellsOf X.env.cells) H3)) E0):A4 X (call (.ref g) J) (EP X pins σ Q) X.xe s:=by
 have Z:=jl I;have hn:=XR I;have D:=GS I;have nloc:∀d∈cellsOf X.env.cells,d≠X.env.locals:=fun d m e=>by
  obtain⟨o,v,_,hd,g⟩:=Z d m;obtain⟨m',⟨o',es,ep,g',hd',_⟩,_⟩:=I.loc;rw[e,g']at g;cases g;rw[hd']at hd;cases hd
 have L:∀d∈cellsOf X.env.cells,X.s₀.heap.objs.size<=d:=fun d m=>by
  obtain⟨y,hy⟩:=YS.mp m;exact I.ok.cab y d (by rw[hfn]) hy
 have nfr:∀d∈cellsOf X.env.cells,d∉frs X.stack:=fun d m z=>by
  rcases Qao.mp (I.stkSub d z)with e|e
  ·exact nloc d m e
  ·obtain⟨_,o,g,_⟩:=I.ok.funs.mem e;exact absurd (Qaq g) (Qg9.mpr (L d m))
 have hok3:HOk X.prog X.w (ub X s H) s.heap:=fun b o e=>by
  by_cases m:b∈cellsOf X.env.cells
  ·obtain⟨ob,v,e',hd,g⟩:=Z b m;rw[e']at e;cases e;exact JS g
  ·rw[J2 m]at e;exact(I.hok b o e).stay (fun _ _ _ q=>q) (fun d q=>D _ _ q) fun d xs q=>D _ _ q
 have e0:Zkz X.prog X.w X.K X.mg X.base X.A X.stack s (ub X s H):=by
  have z:=I.env0;refine⟨z.frames,z.mod,fun b o e=>⟨(z.bs b o e).1,?_⟩,z.bsz,z.funs,fun b M=>?_,hok3,z.bare⟩
  ·rw[J2 fun m=>absurd (Qaq e) (Qg9.mpr (Qbc I.ok.bsz (L b m)))];exact(z.bs b o e).2
  ·rw[J2 fun m=>nfr b m M];exact z.frf b M
 have hlu:(J++[]).length=N.length:=by rw[Qby,<-rv.length];exact F.len _ _ _ _ hsp
 refine wpAny_call (Qfe (F.run X.A X.stack s (ub X s H) ⟨J,[]⟩ J vs _ _ hr e0 (by simpa using M s J I.kIn hlu) rv hsp) fun r s' hq=>?_);cases r with
 |error e=>exact hq.elim
 |ok fl=>
  cases fl with
  |next=>exact False.elim hq
  |brk=>exact False.elim hq
  |cont=>exact False.elim hq
  |ret uu=>
   obtain⟨v,H4,os,bare,un,O,rv4,q4⟩:=hq;have G:∀d∈cellsOf X.env.cells,∃o,H4 d=some (X5 o)/\s.heap.get? d=some o/\s'.heap.get? d=some o:=fun d m=>by
    obtain⟨o,v,e,hd,g⟩:=Z d m;have e4:=un.frzs d o _ e;exact⟨o,e4,g,(O d _ e4).1⟩
   have C:∀d,H d=none->d∉cellsOf X.env.cells->ub X s H d=none:=fun d n m=>by rw[J2 m];exact n
   have nm:∀d o,H d=some o->d∉cellsOf X.env.cells:=fun d o e m=>by rw[hn d m]at e;cases e
   refine⟨v,hide (cellsOf X.env.cells) H4,I.call' os ⟨fun d o e n M Y=>?_,fun d o e n M Y=>?_,fun d o e n Y=>?_,fun d o e Y=>un.there d o e Y,fun d xs e=>?_,fun d o u e=>?_,fun d pz e=>?_⟩ (vP O fun d m=>let⟨o,e,_⟩:=G d m;⟨o,e⟩) bare (fun _ z=>nomatch z),rv4,q4⟩
   ·by_cases m:d∈cellsOf X.env.cells
    ·obtain⟨o',_,g,g'⟩:=G d m;rw[e]at g;cases g;exact g'
    ·exact un.keep d o e (C d n m) M Y
   ·by_cases m:d∈cellsOf X.env.cells
    ·obtain⟨o',_,g,g'⟩:=G d m;rw[e]at g;cases g;exact⟨o.slots,g'⟩
    ·exact un.slot d o e (C d n m) M Y
   ·by_cases m:d∈cellsOf X.env.cells
    ·exact Yy m
    ·rw[Z6 m];exact un.free d o e (C d n m) Y
   ·rw[Z6 (nm d _ e)];exact un.tups d xs (D _ _ e)
   ·rw[Z6 (nm d _ e)];exact un.frzs d o u (D _ _ e)
   ·rw[Z6 (nm d _ e)];exact un.tbls d pz (D _ _ e)
def y3{scope:Scope}{ys:Ai}{is:Aj}{N0:Ai}(I:Inv X pins σ H s)(C:∀y∈scope.names,y.2=.free->X.env.scope.names.lookup y.1=some .cell)(G:∀y∈ys,scope.names.lookup y=some .free)(Y:∀q∈ys.zip is,X.N[q.2]?=some q.1)(J:ys.length=is.length):
  ∀(i:Nat) (y:Str) (v:V),ys[i]?=some y->(is.map fun i=>(σ[i]?).getD none)[i]?=some (some v)->∃c o u,(qt X.env.cells scope.names []).lookup y=some c/\ub X s H c=some (X5 o)/\o.data=.cell (some u)/\RelV v u:=by
 intro i y v h1 h2;have hcl:∀y d,(qt X.env.cells scope.names []).lookup y=some d->X.env.cells.lookup y=some d:=
  Ju (fun y hy h=>I.ok.has y.1 (.inl (C y hy h))) fun _ _ z=>by cases z
 rw[Qah]at h2;cases hj:is[i]? with
 |none=>rw[hj]at h2;cases h2
 |some j=>
  have F:σ[j]?=some (some v):=by
   grind
  have O:(y,j)∈ys.zip is:=by
   obtain⟨a1,e1⟩:=Qag.mp h1;obtain⟨a2,e2⟩:=Qag.mp hj;rw[<-e1,<-e2,<-Qhi (h:=by rw[Qet];lia)];exact Qbu _
  have L:=G y (Qas h1);have M:X.env.kindOf y=some .cell:=C _ (we L) rfl;obtain⟨m,hm',hl⟩:=I.loc;obtain⟨u,r,l⟩:=hl j y v (Y _ O) F (.inr (.inl M));rcases l with⟨l1,_⟩|⟨_,d,l2,l3⟩
  ·rw[M]at l1;cases l1
  ·obtain⟨d',D⟩:=WS (cells:=X.env.cells) (acc:=[]) L;have e:d'=d:=by grind
   subst e;obtain⟨o,ho,hd⟩:=l3;obtain⟨o',v',Z,_,g'⟩:=jl I d' (YS.mpr ⟨y,l2⟩);rw[ho]at g';cases g';exact⟨d',o,u,D,Z,hd,r⟩
def Ziz{P:Aw}{lpos:Pos}{qual:Str}(I:Inv X pins σ H s)(T:Yo H P lpos qual)(C:Z9 (ub X s H) E):Yo (hide (cellsOf X.env.cells) E) P lpos qual:=by
 have out:∀b o,H b=some o->hide (cellsOf X.env.cells) E b=some o:=fun b o e=>by
  rw[Z6 (fun m=>by rw[XR I b m]at e;cases e)];exact C _ _ (GS I _ _ e)
 rcases T with z|⟨D,q,G,F,J⟩
 ·exact .inl (out _ _ z)
 ·exact .inr ⟨D,q,out _ _ G,out _ _ F,J⟩
end
structure Zlv(S0 scope:Scope)(N0 ps ys:Ai)(is:Aj):Prop where
 sc:Zlt scope ps ys
 free:∀y∈scope.names,y.2=.free->S0.names.lookup y.1=some .cell
 vis:∀q∈ys.zip is,N0[q.2]?=some q.1
 len:ys.length=is.length
section
variable {X:Cx}{params:Arguments}{body a:Ax}{scope:Scope}{lpos p pos:Pos}{c P g:Aw}{qual x:Str}{k kl:Nat}{gd:Ao}{pg ps ys:Ai}{is:Aj}{sp:Sp}{ta te:TE}
def J3{b:Aw}{u:HO}(q:∀c∈M,∃o,H c=some (X5 o))(s:Z9 H E)(h:E b=some u)(C:∀o,u≠X5 o):hide M E b=some u:=by
 rw[Z6 fun m=>?_]
 ·exact h
 ·obtain⟨o,e⟩:=q b m;rw[s _ _ e]at h;exact C o (Option.some.inj h).symm
def Yo.other{H':Hp}{P:Aw}{qual:Str}(h:Yo H P m qual)(q:P≠f)(C:∃ps,H f=some (.tbl ps))(s:∀b o,H b=some o->b≠f->H' b=some o):Yo H' P m qual:=by
 rcases h with h|⟨c,oc,h1,h2,D⟩
 ·exact .inl (s _ _ h q)
 ·obtain⟨ps,e⟩:=C;exact .inr ⟨c,oc,s _ _ h1 q,s _ _ h2 (Xm h2 e (fun z=>nomatch z)),D⟩
def Yo.same{H H':Hp}{P:Aw}{pos:Pos}{qual:Str}(h:Yo H P pos qual)(s:Z9 H H'):Yo H' P pos qual:=by
 rcases h with h|⟨c,oc,h1,h2,q⟩
 ·exact .inl (s _ _ h)
 ·exact .inr ⟨c,oc,s _ _ h1,s _ _ h2,q⟩
def tCallV(q:Aq)(w:Au)(K:Af)(mg:Ae)(base:Heap)(k:Nat)(i:Nat)(t:TA):TE:=fun σ H Q=>∃(f:Aw) (τ:Sp),σ[i]?=some (some (.ref f))/\YZ q w K mg base k f H τ /\
 t σ H fun vs H1=>JT H H1/\τ vs H1 Q E0
theorem Zbj{P:Aq}{mg:Ae}{base:Heap}{k:Nat}{τ:Sp}(c:YZ P w K mg base k f H τ)(D:JT H E)(q:HOk P w E h):PySem.W.FnAt f h:=by
 obtain⟨o,fd,e,d⟩:=c.1;have g:=(q f _ (D _ _ _ e)).1;obtain⟨oc,od,F,C⟩:=o;cases d;exact⟨oc,od,fd,C,g⟩
def Zew(i:Nat){es:An}{t:TA}(hr:Wu k X.A)(ha:QA X (e::es) t)(hN:X.N[i]?=some x:=by rfl)(hv:Vis X.env.scope x:=by first|exact Or.inl rfl|exact Or.inr (Or.inl rfl)|exact Or.inr (Or.inr rfl))
  (G:(x == ("__debug__" : Str))=false:=by decide) (F:(x == ("__classdict__" : Str))=false:=by decide) (he:starEach (e::es) X.env=(false,eval e X.env)::starEach es X.env:=by rfl) (L:(backTo pos (starEach es X.env)).any (·.1)=false:=by rfl):
  QE X (.Call (.Name x p) (e::es) [] pos) (tCallV X.prog X.w X.K X.mg X.base k i t):=by
 refine⟨?_⟩;intro pins s σ H Q I hw;obtain⟨f,τ,M,C,ht⟩:=hw;refine Qdd (thn (Zgf hN hv G F pins s σ H (fun v H'=>v=.ref f/\H'=H) I ⟨.ref f,M,rfl,rfl⟩) fun u s1 ⟨v,H',Z,r,O,hH⟩=>?_);subst O;subst hH;cases r;refine PySem.W.callWith_F (Zbj C (JT.refl _) Z.hok) (thn (ha.out pos pins s1 σ H' _ Z ht) fun us s2 ⟨vs,H1,D,rv,Y,J⟩=>⟨Zbj C Y D.hok,?_⟩) he L;refine wpAny_call (Qfe (C.2 X.A X.stack s2 H1 us vs Q E0 Y hr D.env0 rv J) fun r s' q=>?_);cases r with
 |error e=>exact q.elim
 |ok fl=>
  cases fl with
  |ret u=>exact D.after q
  |next=>exact False.elim q
  |brk=>exact False.elim q
  |cont=>exact False.elim q
end
theorem Zbk{mg mb:Ae}{CX:CXT}{k:Nat}{fd:Ao}{sp:Sp}{C:As}{vs:Ag}{ns:Ak}{D:List (Aw×Aw)}
  (KX:K.In C.heap) (hns:C.heap.Ns mainGlobals mg) (hb:C.heap.Ns builtinsNs mb) (hbb:∀x:Str,x ≠ "__name__" ->mb x=bootBuiltins x) (hlim:C.heap.NoLimit) (hg:C.gens=#[])
  (ha:C.heap.get? a=some {cls:=.type "list",data:=.seq vs.toArray}) (hi:IntsAre vs ns) (hl:ns.length<=sizeLine) (hr:Wu k callerA)
  (hT:PySem.W.TabsAt D C.heap) (hKt:PySem.W.noTabs K=true) (hbm:jk mg C.heap)
  (F:∀base:Heap,K.In base->base.Ns mainGlobals mg->(∀q∈D,PySem.W.CodeHd base q.1 q.2)->jk mg base->Y6 P w K mg base CX k f fd [x] sp) (hbind:∀(s:As) (u:Av),BindsTo s fd ⟨[u],[]⟩ [(x,u)])
  (hsp:∀H:Hp,(∀q∈D,H q.2=some (.tbl #[]))->SqL K H a (ns.map V.int)->sp [.ref a] H (fun v _=>v=.bl true) fun _ _ _=>False)
  (hCX:∀H e s',CX [] H C (fun _ _ _=>False) e s'->False):
  codeAny (model P w) callerA (.call (.ref f) ⟨[.ref a],[]⟩) (fun r s'=>r=.ok (.ret (.bool true))/\OldK C.heap s'.heap/\s'.os=C.os/\AllBare s'.gens) C:=by
 have rv:=ql hi;have lenV:=hi.length;have G:∀b,b∈D.map (·.2)->C.heap.get? b=some (PySem.W.tabObj #[]):=fun b m=>by
  obtain⟨q,L,rfl⟩:=Qav.mp m;exact(hT q L).2
 have aT:a∉D.map (·.2):=fun m=>by
  have e:=G a m;rw[ha]at e;cases e
 have Z:∀H:Hp,(∀q∈D,H q.2=some (.tbl #[]))->(∀b,H b=none\/(b=a/\∃o xs,H b=some (.frz o (.lst xs)))\/(b∈D.map (·.2)/\H b=some (.tbl #[])))->SqL K H a (ns.map V.int)->HOk P w H C.heap->(H a≠none->K.lookup a=none)->
   codeAny (model P w) callerA (.call (.ref f) ⟨[.ref a],[]⟩) (fun r s'=>r=.ok (.ret (.bool true))/\OldK C.heap s'.heap/\s'.os=C.os/\AllBare s'.gens) C:=by
  intro H hTb hO hS hok hK;have I:∀{b:Aw} {o:Obj},C.heap.get? b=some o->H b=none->(uQ C.heap H).get? b=some o:=fun e n=>Zd4 e n;have noA:∀{b:Aw} {o:Obj},C.heap.get? b=some o->(∀its n,o.data≠.seq its n)->o.cls≠.none->H b=none:=fun{b o} e d1 d2=>by
   rcases hO b with z|⟨rfl,_⟩|⟨m,_⟩
   ·exact z
   ·rw[ha]at e;cases e;exact absurd rfl (d1 _ _)
   ·rw[G b m]at e;cases e;exact absurd rfl d2
  have O:∀{b:Aw} {m:Ae},C.heap.Ns b m->(uQ C.heap H).Ns b m:=fun{b m} ⟨o,es,ep,e,d,r⟩=>⟨o,es,ep,I e (by
   grind),d,r⟩
  have hKb:K.In (uQ C.heap H):=fun b o e=>I (KX b o e) (by
   rcases hO b with z|⟨rfl,ob,xs,z⟩|⟨m,_⟩
   ·exact z
   ·rw[hK (by rw[z];simp)]at e;cases e
   ·have g:=KX b o e;rw[G b m]at g;cases g;have h2:=Qcb.mp hKt (b,_) (PySem.W.mem_of_lookupK e);exact absurd (show false=true from h2) Qa7)
  have hM:Mod K mg (uQ C.heap H):=⟨hKb,O hns,⟨mb,O hb,hbb⟩,let⟨mc,h1,h2⟩:=hlim;⟨mc,O h1,h2⟩⟩;have hB:jk mg (uQ C.heap H):=by
   obtain⟨bm,ob,b1,b2,b3,b4,b5,b6⟩:=hbm.ex;exact⟨bm,ob,b1,b2,I b3 (noA b3 (fun its n z=>by rw[b6]at z;cases z) (fun z=>by rw[b4]at z;cases z)),b4,b5,b6⟩
  have hC:∀q∈D,PySem.W.CodeHd (uQ C.heap H) q.1 q.2:=fun q L=>by
   obtain⟨o,vs',file,tf,flags,tg,inF,text,tt,e1,r1,r2,r3⟩:=(hT q L).1;exact⟨o,vs',file,tf,flags,tg,inF,text,tt,I e1 (noA e1 (fun its n z=>by rw[r2]at z;cases z) (fun z=>by rw[r1]at z;cases z)),r1,r2,r3⟩
  have e0:Zkz P w K mg (uQ C.heap H) callerA [] C H:=⟨rfl,hM,fun b o e=>Zhm e,Qhl (uR _ _),trivial,fun b hb=>absurd (show b∈([]:List Aw)from hb) (by simp),hok,.of_eq hg⟩;refine Qfe ((F _ hKb (O hns) hC hB).run callerA [] C H ⟨[.ref a],[]⟩ [.ref a] [.ref a] _ _ hr e0 (hbind C (.ref a)) (.cons rfl .nil) (hsp H hTb hS)) fun r s' h=>?_;cases r with
  |error e=>exact(hCX H e s' h).elim
  |ok fl=>
   cases fl with
   |next=>exact False.elim h
   |brk=>exact False.elim h
   |cont=>exact False.elim h
   |ret u=>
    obtain⟨v,H',os,bare,un,Y,r',q⟩:=h;have q':v=.bl true:=q;subst q';obtain rfl:u=Value.bool true:=r';have all:∀b o,C.heap.get? b=some o->s'.heap.get? b=some o\/∃J,b∈D.map (·.2)/\o=PySem.W.tabObj #[]/\s'.heap.get? b=some (PySem.W.tabObj (#[]++J)):=fun b o e=>by
     rcases hO b with z|⟨_,ob,xs,z⟩|⟨m,z⟩
     ·exact .inl (un.keep b o e z (by intro z;exact absurd (show b∈([]:List Aw)from z) (by simp)) (by simp))
     ·have z2:=un.frzs b ob _ z;obtain⟨e1,_⟩:=hok b _ z;obtain⟨e2,_⟩:=Y b _ z2;rw[e]at e1;cases e1;exact .inl e2
     ·obtain⟨J,z2⟩:=un.tbls b _ z;rw[G b m]at e;cases e;exact .inr ⟨J,m,rfl,Y b _ z2⟩
    refine⟨rfl,⟨fun b o e=>?_,fun b o e=>?_⟩,os,bare⟩
    ·rcases all b o e with z|⟨J,m,rfl,z⟩
     ·exact .inl z
     ·obtain⟨q,L,rfl⟩:=Qav.mp m;exact .inr (.inl ⟨((hT q L).1.tab (hT q L).2).isCodeTable,rfl,#[],J,rfl,z⟩)
    ·rcases all b o e with z|⟨J,_,_,z⟩
     ·exact⟨_,z⟩
     ·exact⟨_,z⟩
 have tm:∀q∈D,q.2∈D.map (·.2):=fun q L=>Qb6 L;cases hk:K.lookup a with
 |some o=>
  have e:=KX a o hk;rw[ha]at e;cases e;refine Z (fun b=>if b∈D.map (·.2)then some (.tbl #[])else none) (fun q L=>Qa3 (tm q L)) (fun b=>?_) (.inr ⟨_,vs.toArray,_,hk,rfl,rfl,rfl,by rw[Qat,lenV];exact hl,by simpa using rv⟩) (fun b u z=>?_) (fun z=>absurd (Qax aT) z)
  ·by_cases m:b∈D.map (·.2)
   ·exact .inr (.inr ⟨m,Qa3 m⟩)
   ·exact .inl (Qax m)
  ·by_cases m:b∈D.map (·.2)
   ·have M:=(Qa3 m).symm.trans z;cases M;exact G b m
   ·have M:=(Qax m).symm.trans z;cases M
 |none=>
  refine Z (fun b=>if b∈D.map (·.2)then some (.tbl #[])else if b=a then some (.frz {cls:=.type "list",data:=.seq vs.toArray} (.lst (ns.map V.int)))else none) (fun q L=>Qa3 (tm q L)) (fun b=>?_) (.inl (.inr ⟨{cls:=.type "list",data:=.seq vs.toArray},(Qax aT).trans (Qa3 rfl)⟩)) (fun b u z=>?_) fun _=>hk
  ·grind
  ·by_cases m:b∈D.map (·.2)
   ·have M:=(Qa3 m).symm.trans z;cases M;exact G b m
   ·by_cases hb:b=a
    ·have M:=((Qax m).trans (Qa3 hb)).symm.trans z;cases M;subst hb;exact⟨ha,by rw[Qab];exact hl,vs,_,rv,ha⟩
    ·have M:=((Qax m).trans (Qax hb)).symm.trans z;cases M
def walk_ofT{l:PySem.W.OpenLaw}{k:Nat}{XP:(Ae)->Heap->Prop}{YP:Au->Heap->Prop}{d:DefRec}{K:Params->PySem.W.Frag}{CX:Au->CXT}{sp:Au->Sp}{q:List (Aw×Aw)}
  (hn:l.most=some n) (hn2:n<=sizeLine) (Z:d.params.defaults=[]) (hr:Wu k callerA)
  (hY:∀(w:Au) (h:Heap),YP w h->(K w.params).In h)
  (M:∀(w:Au) (L:ExcName->Option Av) (mg mb:Ae) (h:Heap),Top P (PySem.W.looseW P N) L mg mb h->(K w.params).In h->PySem.W.TabsAt q h) (hKt:∀w:Au,PySem.W.noTabs (K w.params)=true)
  (F:∀(w:Au) (mg:Ae) (O:Aw) (h:Heap),(K w.params).In h->h.Ns mainGlobals mg->mg d.name=some (.ref O)->
   ∃fd:Ao,(∀(s:As) (u:Av),BindsTo s fd ⟨[u],[]⟩ [(x,u)]) /\
    ∀base:Heap,(K w.params).In base->base.Ns mainGlobals mg->(∀P∈q,PySem.W.CodeHd base P.1 P.2)->jk mg base->Y6 l.prog w (K w.params) mg base (CX w) k O fd [x] (sp w))
  (hsp:∀(w:Au) (H:Hp) (a:Aw) (ns:Ak),ns.length<=n->(∀P∈q,H P.2=some (.tbl #[]))->SqL (K w.params) H a (ns.map V.int)->sp w [.ref a] H (fun v _=>v=.bl true) fun _ _ _=>False)
  (hCX:∀(w:Au) (H:Hp) (s:As) (e:Av) (s':As),CX w [] H s (fun _ _ _=>False) e s'->False):
  PySem.W.WalkO P N XP YP l.row.toRowW d [] (fun f vs=>PySem.call f vs):=by
 refine Att.attach_call hn Z fun w s₀ I mg mb O o pm cd doc a vs ns G Y ho hd hcd hmg J D C hg=>?_;have KX:=hY w _ Y;obtain⟨fd,hb,hF⟩:=F w mg O _ KX G.T.g hmg;exact Zbk KX G.T.g G.T.b G.T.builtins G.T.nolimit hg J D (Qbc C hn2) hr (M w _ mg mb _ G.T KX) (hKt w) ⟨G.T.bmain⟩ hF hb (fun H hTb hS=>hsp w H a ns C hTb hS) fun H e s'=>hCX w H I e s'
theorem Fun.okC{mg:Ae}{base:Heap}{qual:Str}{st:Ay}{fd:Ao}{ps:Ai}{k:Nat}{sp:Sp}(F:Fun K x qual st f fd)(S:Zv N ps (Zh st))(len:∀vs H Q E,sp vs H Q E->vs.length=ps.length)
  (C:∀(A:Ar) (outer:List Env) (s:As) (H:Hp) (vs:A2) (Q:VK) (E:XK),Wu k (A.deeper (envOfC qual (Zh st) s.heap.objs.size f fd.code))->sp vs H Q E->
   ∃t,PSs (Zd9 CX0 P w K mg base N qual (Zh st) f fd.code A outer s H E).nox (Xn st) t/\t {nx:=fun _ H'=>Q .non H',rt:=Q} (start N vs) H):Y6 P w K mg base CX0 (k+1) f fd ps sp:=by
 obtain⟨oc,od,kV,O,Y,Z,M,ct,L,rfl,J,D⟩:=F.ex;refine Zli J D S len fun A outer s H vs Q E I G=>?_;obtain⟨t,h,q⟩:=C A outer s H vs Q E I G;exact⟨t,h.nox,q⟩
section
variable {prog:Aq}{w:Au}{A:Ar}{E:Ab}{s:As}
end
section
variable {prog:Aq}{w:Au}{K:Type}[DecidableEq K]{knd:KeyKind prog w K}{A:Ar}{R:Result->Shared->Prop}{d l it:Aw}{items:Ag}
end
def Zex{x:V}(r:Vals [x,y] J):∃a b,J=[a,b]/\RelV x a/\RelV y b:=by
 cases r with
 |cons h1 t=>
  cases t with
  |cons h2 t=>
   cases t;exact⟨_,_,rfl,h1,h2⟩
structure QPs(X:Cx)(pos:Pos)(keys:List (Option Ax))(values:An)(trs:List (TE×TE)):Prop where
 out:PPs X pos keys values trs
def Zi0:QPs X p [] [] []:=⟨Zil⟩
def Zey{k v:Ax}{ks:List (Option Ax)}{vs:An}{tk:TE}{q:List (TE×TE)}(D:QE X k tk)(C:QE X v u)(F:QPs X p ks vs q):QPs X p (some k::ks) (v::vs) ((tk,u)::q):=⟨Zeo D.out C.out F.out⟩
def Zi1{keys:List (Option Ax)}{C:List (TE×TE)}(h:QPs X p keys A C)(q:keys.all (·.isSome)=true)(F:keys.length=A.length)(G:keys≠[])(D:keys.length<=15):QE X (.Dict keys A p) (Zlr C):=⟨Zim h.out q F G D⟩
end L2
namespace ZpT
def zO (f0:Av) (b:Bool) (TI TO:Aw):Obj:={cls:=.type "zip",dict:=none,data:=.fields #[f0,.bool b,.bool false,.ref TI,.ref TO],slots:=#[]}
def F0(f0:Av):Prop:=f0=.none\/∃T:Aw,f0=rawInt T
structure Ap(z TI TO i1 i2:Aw):Prop where
 TIz:TI≠z
 TOz:TO≠z
 i1z:i1≠z
 i2z:i2≠z
 TITO:TI≠TO
 TIi1:TI≠i1
 TIi2:TI≠i2
 TOi1:TO≠i1
 TOi2:TO≠i2
 i12:i1≠i2
section
variable {prog:Aq}{w:Au}{A:Ar}{E:Ab}{s:As}
def alive{Q:Option Obj->Shared->Prop}(h:Q (s.heap.get? a) s):A3 prog w A (loadIfAlive a) Q E s:=fun Γ p _=>h
def Zbl{z:Aw}{f0:Av}{Q:Bool->Shared->Prop}(D:s.heap.get? z=some (zO f0 j a f))(I:F0 f0)
  (h:∀r h' G,h'.get? z=some (zO f0 G a f)->Heap.SameBut z s.heap h'->Q r {s with heap:=h'}):A3 prog w A (Builtin.SmallTypes.ownedTupleIsFree (.ref z)) Q E s:=by
 refine Qaa (Qbw D rfl (x:=f0) rfl ?_);rcases I with rfl|⟨T,rfl⟩
 ·exact Qae (h true s.heap j D ⟨rfl,fun _ _=>rfl⟩)
 ·refine Qaa (alive ?_);cases hT:s.heap.get? (Int.toNat (T:Int))with
  |none=>exact Qae (h true s.heap j D ⟨rfl,fun _ _=>rfl⟩)
  |some o=>
   refine Qaa (Qbw D rfl (x:=.bool j) rfl ?_);cases j
   ·refine Qaa (Qcc D (by simp) fun F q C=>Qae ?_);exact h false F true q C
   ·exact Qae (h false s.heap true D ⟨rfl,fun _ _=>rfl⟩)
end
end ZpT
namespace ZpT
structure Of(z TO i1 i2 l:Aw):Prop where
 z:l≠z
 o:l≠TO
 i:l≠i1
 j:l≠i2
structure St(b1 b2:Bool)(z TI TO i1 i2 l1 l2:Aw)(k1 k2:Nat)(h:Heap):Prop where
 z:∃f0 fb,h.get? z=some (zO f0 fb TI TO)/\F0 f0
 I:IsPair h TI (.ref i1) (.ref i2)
 O:∃a b,IsPair h TO a b
 n1:ZJ b1 h i1 l1 k1
 n2:ZJ b2 h i2 l2 k2
section
variable {prog:Aq}{w:Au}{A:Ar}{E:Ab}{s:As}
def item{b1 b2:Bool}{z i1 i2 l1 l2:Aw}{xs ys:Ah}{x y:Av}(D:Ap z f U i1 i2)(D1:Of z U i1 i2 l1)(D2:Of z U i1 i2 l2)
  (S:St b1 b2 z f U i1 i2 l1 l2 n L s.heap) (q1:SeqAt b1 s.heap l1 xs) (q2:SeqAt b2 s.heap l2 ys) (hx:xs[n]?=some x) (hy:ys[L]?=some y)
  (hQ:∀h',St b1 b2 z f U i1 i2 l1 l2 (n+1) (L+1) h'->IsPair h' s.heap.objs.size x y->
   (∀c o,c≠z->c≠U->c≠i1->c≠i2->s.heap.get? c=some o->h'.get? c=some o)->Q (.ref s.heap.objs.size) {s with heap:=h'}):
  A3 prog w A (Builtin.«zip.__next__» ⟨[.ref z],[]⟩) (fun fin s'=>∃v,fin=.done (.ret v)/\Q v s') E s:=by
 obtain⟨⟨f0,fb,hz,hf⟩,hTI,⟨a,b,hTO⟩,n1,n2⟩:=S;show wpAny _ _ (field (.ref z) 2 >>= _) _ _ _;refine Qaa (Qbw hz rfl (x:=.bool false) rfl ?_);refine Qaa (Qbw hz rfl (x:=.ref f) rfl ?_);refine Qaa (Qci hTI rfl ?_);refine Qaa (Zbl hz hf fun r h0 fb' hz0 Y=>?_);have hz0':h0.get? z=some (zO f0 fb' f U):=hz0;have hTO0:IsPair h0 U a b:=Y.extBut _ _ D.TOz hTO;have n10:ZJ b1 h0 i1 l1 n:=n1.mv fun o e=>Y.extBut _ _ D.i1z e;have n20:ZJ b2 h0 i2 l2 L:=n2.mv fun o e=>Y.extBut _ _ D.i2z e;have q10:SeqAt b1 h0 l1 xs:=q1.mv fun o e=>Y.extBut _ _ D1.z e;have q20:SeqAt b2 h0 l2 ys:=q2.mv fun o e=>Y.extBut _ _ D2.z e;cases r with
 |true=>
  refine Qaa (Qdg ?_);refine Qaa (Qbw hz0 rfl (x:=.ref U) rfl ?_);refine Qaa (Qcc hz0 (by simp) fun h₁ hz₁ G=>?_);refine Qaa ?_;refine Qaa (Qaa (Qhe ?_));refine Qaa (W0 (n10.mv fun o e=>G.extBut _ _ D.i1z e) (q10.mv fun o e=>G.extBut _ _ D1.z e) hx fun h₂ h1₂ q=>Qae ?_);have hTO₂:IsPair h₂ U a b:=q.extBut _ _ D.TOi1 (G.extBut _ _ D.TOz hTO0);refine Qaa (Qci hTO₂ rfl ?_);refine Qaa (Qf6 hTO₂ fun I hTO₃ C=>?_);refine Qaa (Qfc (Qae ?_));refine Qaa (Qaa (Qhe ?_));refine Qaa (W0 (n20.mv fun o e=>C.extBut _ _ D.TOi2.symm (q.extBut _ _ D.i12.symm (G.extBut _ _ D.i2z e)))
   (q20.mv fun o e=>C.extBut _ _ D2.o (q.extBut _ _ D2.i (G.extBut _ _ D2.z e))) hy fun h₄ h2₄ M=>Qae ?_)
  have hTO₄:IsPair h₄ U x b:=M.extBut _ _ D.TOi2 hTO₃;refine Qaa (Qci hTO₄ rfl ?_);refine Qaa (Qf6 hTO₄ fun F J O=>?_);replace J:IsPair F U x y:=J;refine Qaa (Qfc (Qae (Qae ?_)));refine Qaa (Qci J rfl ?_);refine Qaa (Qg0 ?_);have hsz:F.objs.size=s.heap.objs.size:=by rw[O.1,M.1,C.1,q.1,G.1];exact Y.1
  have hz₅:F.get? z=some (zO .ellipsis fb' f U):=O.extBut _ _ D.TOz.symm (M.extBut _ _ D.i2z.symm (C.extBut _ _ D.TOz.symm (q.extBut _ _ D.i1z.symm hz₁)));have hk₅:∀c o,c≠z->c≠U->c≠i1->c≠i2->s.heap.get? c=some o->F.get? c=some o:=fun c o c1 c2 c3 c4 e=>
   O.extBut _ _ c2 (M.extBut _ _ c4 (C.extBut _ _ c2 (q.extBut _ _ c3 (G.extBut _ _ c1 (Y.extBut _ _ c1 e)))))
  have h1₅:ZJ b1 F i1 l1 (n+1):=h1₂.mv fun o e=>O.extBut _ _ D.TOi1.symm (M.extBut _ _ D.i12 (C.extBut _ _ D.TOi1.symm e));have h2₅:ZJ b2 F i2 l2 (L+1):=h2₄.mv fun o e=>O.extBut _ _ D.TOi2.symm e;have hzlt:z<F.objs.size:=Qaq hz₅;refine Qaa ?_;have hz₆:(F.push {cls:=.type "tuple",data:=.seq #[x,y]}).get? z=some (zO .ellipsis fb' f U):=Qad _ hz₅;refine Qaa (Qcc hz₆ (by simp) fun h₇ hz₇ hs₇=>?_);refine Qcc hz₇ (by simp) fun h₈ hz₈ hs₈=>?_;have up:∀c o,c≠z->F.get? c=some o->h₈.get? c=some o:=fun c o c1 e=>hs₈.extBut _ _ c1 (hs₇.extBut _ _ c1 (Qad _ e));have hT₈:IsPair h₈ F.objs.size x y:=hs₈.extBut _ _ (Qef hzlt) (hs₇.extBut _ _ (Qef hzlt) (Qam _ rfl));rw[hsz]at hz₈ hT₈;refine Qae ⟨_,rfl,?_⟩;rw[hsz];exact hQ h₈ ⟨⟨_,_,hz₈,.inr ⟨_,rfl⟩⟩,up _ _ D.TIz (hk₅ _ _ D.TIz D.TITO D.TIi1 D.TIi2 hTI),⟨_,_,up _ _ D.TOz J⟩,h1₅.mv fun o e=>up _ o D.i1z e,h2₅.mv fun o e=>up _ o D.i2z e⟩ hT₈ fun c o c1 c2 c3 c4 e=>up c o c1 (hk₅ c o c1 c2 c3 c4 e)
 |false=>
  refine Qaa ?_;refine Qaa (Qaa (Qb9 ?_));refine Qaa (W0 n10 q10 hx fun h₂ h1₂ q=>Qae (Qae ?_));refine Qaa (Qaa (Qb9 ?_));refine Qaa (W0 (n20.mv fun o e=>q.extBut _ _ D.i12.symm e) (q20.mv fun o e=>q.extBut _ _ D2.i e) hy fun I h2₃ C=>Qae (Qae (Qae ?_)));refine Qaa (Qg0 (hsz:=(show 2<=sizeLine by decide)) (Qae ⟨_,rfl,?_⟩));have hsz:I.objs.size=s.heap.objs.size:=by rw[C.1,q.1];exact Y.1
  have Z:∀c o,c≠z->c≠i1->c≠i2->s.heap.get? c=some o->I.get? c=some o:=fun c o c1 c3 c4 e=>C.extBut _ _ c4 (q.extBut _ _ c3 (Y.extBut _ _ c1 e));have zz:I.get? z=some (zO f0 fb' f U):=C.extBut _ _ D.i2z.symm (q.extBut _ _ D.i1z.symm hz0');have hT:IsPair (I.push {cls:=.type "tuple",data:=.seq #[x,y]}) I.objs.size x y:=Qam _ rfl;rw[hsz]at hT ⊢;have up:∀c o,I.get? c=some o->(I.push {cls:=.type "tuple",data:=.seq #[x,y]}).get? c=some o:=fun c o e=>Qad _ e;exact hQ _ ⟨⟨_,_,up _ _ zz,hf⟩,up _ _ (Z _ _ D.TIz D.TIi1 D.TIi2 hTI),⟨_,_,up _ _ (Z _ _ D.TOz D.TOi1 D.TOi2 hTO)⟩,h1₂.mv fun o e=>up _ _ (C.extBut _ _ D.i12 e),h2₃.mv fun o e=>up _ _ e⟩ hT fun c o c1 c2 c3 c4 e=>up c o (Z c o c1 c3 c4 e)
end
end ZpT
namespace ZpT
section
variable {prog:Aq}{w:Au}{A:Ar}{E:Ab}{s:As}
def fin{b1 b2:Bool}{z i1 i2 l1 l2:Aw}{xs ys:Ah}{Q:Fin->Shared->Prop}(hh:A.handled=none)(D:Ap z f U i1 i2)(D1:Of z U i1 i2 l1)(D2:Of z U i1 i2 l2)
  (S:St b1 b2 z f U i1 i2 l1 l2 n L s.heap) (q1:SeqAt b1 s.heap l1 xs) (q2:SeqAt b2 s.heap l2 ys) (hend:xs[n]?=none\/ys[L]?=none)
  (hE:∀h' e,(∀c o,c≠z->c≠U->c≠i1->c≠i2->s.heap.get? c=some o->h'.get? c=some o)->(∃o,h'.get? e=some o/\o.cls=.type "StopIteration")->E (.ref e) {s with heap:=h'}):
  A3 prog w A (Builtin.«zip.__next__» ⟨[.ref z],[]⟩) Q E s:=by
 obtain⟨⟨f0,fb,hz,hf⟩,hTI,⟨a,b,hTO⟩,n1,n2⟩:=S;show wpAny _ _ (field (.ref z) 2 >>= _) _ _ _;refine Qaa (Qbw hz rfl (x:=.bool false) rfl ?_);refine Qaa (Qbw hz rfl (x:=.ref f) rfl ?_);refine Qaa (Qci hTI rfl ?_);refine Qaa (Zbl hz hf fun r h0 fb' hz0 I=>?_);have hTO0:IsPair h0 U a b:=I.extBut _ _ D.TOz hTO;have n10:ZJ b1 h0 i1 l1 n:=n1.mv fun o e=>I.extBut _ _ D.i1z e;have n20:ZJ b2 h0 i2 l2 L:=n2.mv fun o e=>I.extBut _ _ D.i2z e;have q10:SeqAt b1 h0 l1 xs:=q1.mv fun o e=>I.extBut _ _ D1.z e;have q20:SeqAt b2 h0 l2 ys:=q2.mv fun o e=>I.extBut _ _ D2.z e;cases r with
 |true=>
  refine Qaa (Qdg ?_);refine Qaa (Qbw hz0 rfl (x:=.ref U) rfl ?_);refine Qaa (Qcc hz0 (by simp) fun h₁ hz₁ F=>?_);refine Qaa ?_;refine Qaa (Qaa (Qhe ?_));cases hx:xs[n]? with
  |none=>
   refine Qaa (zp hh (n10.mv fun o e=>F.extBut _ _ D.i1z e) (q10.mv fun o e=>F.extBut _ _ D1.z e) hx fun G e q he=>?_);obtain⟨oe,J,Y⟩:=he;have hz₂:G.get? z=some (zO .ellipsis fb' f U):=q _ _ D.i1z.symm hz₁;have hez:e≠z:=fun x=>by subst x;rw[hz₂]at J;cases J;simp[zO]at Y
   refine Qcc hz₂ (by simp) fun O _ C=>hE O e (fun c o c1 _ c3 _ x=>C.extBut _ _ c1 (q _ _ c3 (F.extBut _ _ c1 (I.extBut _ _ c1 x)))) ⟨oe,C.extBut _ _ hez J,Y⟩
  |some x=>
   have hy:ys[L]?=none:=by grind
   refine Qaa (W0 (n10.mv fun o e=>F.extBut _ _ D.i1z e) (q10.mv fun o e=>F.extBut _ _ D1.z e) hx fun G h1₂ q=>Qae ?_);have M:IsPair G U a b:=q.extBut _ _ D.TOi1 (F.extBut _ _ D.TOz hTO0);refine Qaa (Qci M rfl ?_);refine Qaa (Qf6 M fun O hTO₃ C=>?_);refine Qaa (Qfc (Qae ?_));refine Qaa (Qaa (Qhe ?_));refine Qaa (zp hh (n20.mv fun o e=>C.extBut _ _ D.TOi2.symm (q.extBut _ _ D.i12.symm (F.extBut _ _ D.i2z e)))
    (q20.mv fun o e=>C.extBut _ _ D2.o (q.extBut _ _ D2.i (F.extBut _ _ D2.z e))) hy fun h₄ e Z he=>?_)
   obtain⟨oe,J,Y⟩:=he;have hz₄:h₄.get? z=some (zO .ellipsis fb' f U):=Z _ _ D.i2z.symm (C.extBut _ _ D.TOz.symm (q.extBut _ _ D.i1z.symm hz₁));have hez:e≠z:=fun x=>by subst x;rw[hz₄]at J;cases J;simp[zO]at Y
   refine Qcc hz₄ (by simp) fun h₅ _ hs₅=>hE h₅ e (fun c o c1 c2 c3 c4 x=>hs₅.extBut _ _ c1 (Z _ _ c4 (C.extBut _ _ c2 (q.extBut _ _ c3 (F.extBut _ _ c1 (I.extBut _ _ c1 x)))))) ⟨oe,hs₅.extBut _ _ hez J,Y⟩
 |false=>
  refine Qaa ?_;refine Qaa (Qaa (Qb9 ?_));cases hx:xs[n]? with
  |none=>exact Qaa (zp hh n10 q10 hx fun G e q he=>hE G e (fun c o c1 _ c3 _ x=>q _ _ c3 (I.extBut _ _ c1 x)) he)
  |some x=>
   have hy:ys[L]?=none:=by grind
   refine Qaa (W0 n10 q10 hx fun G h1₂ q=>Qae (Qae ?_));refine Qaa (Qaa (Qb9 ?_));exact Qaa (zp hh (n20.mv fun o e=>q.extBut _ _ D.i12.symm e) (q20.mv fun o e=>q.extBut _ _ D2.i e) hy fun O e C he=>hE O e (fun c o c1 _ c3 c4 x=>C _ _ c4 (q.extBut _ _ c3 (I.extBut _ _ c1 x))) he)
def next_item{b1 b2:Bool}{z i2 l1 l2:Aw}{xs ys:Ah}{x y:Av}{Q:Aa}(D:Ap z a f U i2)(M:Of z f U i2 l1)(J:Of z f U i2 l2)
  (S:St b1 b2 z a f U i2 l1 l2 i n s.heap) (O:SeqAt b1 s.heap l1 xs) (C:SeqAt b2 s.heap l2 ys) (Y:xs[i]?=some x) (L:ys[n]?=some y)
  (G:∀h',St b1 b2 z a f U i2 l1 l2 (i+1) (n+1) h'->IsPair h' s.heap.objs.size x y->
   (∀c o,c≠z->c≠f->c≠U->c≠i2->s.heap.get? c=some o->h'.get? c=some o)->Q (some (.ref s.heap.objs.size)) {s with heap:=h'}):
  A3 prog w A (pyNext (.ref z)) Q E s:=by
 obtain⟨f0,fb,I,hf⟩:=S.z;have q:s.TypeIs (.ref z) "zip" :=⟨_,I,rfl⟩;exact Qaa (Qdk (wpAny_callSpecial?_slot (name:=Str.ofString "__next__") q Qfq
  (Qbf Qfq q F.entry_zip_next (item D M J S O C Y L fun h' a1 a2 Z=>Qae (G h' a1 a2 Z)) (F.args_zip_next_1 _))))
def next_end{b1 b2:Bool}{z i2 l1 l2:Aw}{xs ys:Ah}{Q:Aa}(hh:A.handled=none)(D:Ap z a f U i2)(Z:Of z f U i2 l1)(O:Of z f U i2 l2)
  (S:St b1 b2 z a f U i2 l1 l2 i n s.heap) (q1:SeqAt b1 s.heap l1 xs) (G:SeqAt b2 s.heap l2 ys) (q:xs[i]?=none\/ys[n]?=none)
  (J:∀h',(∀c o,c≠z->c≠f->c≠U->c≠i2->s.heap.get? c=some o->h'.get? c=some o)->Q none {s with heap:=h'}):
  A3 prog w A (pyNext (.ref z)) Q E s:=by
 obtain⟨f0,fb,L,hf⟩:=id S.z;have C:s.TypeIs (.ref z) "zip" :=⟨_,L,rfl⟩;refine Qaa (Qdk (wpAny_callSpecial?_slot (name:=Str.ofString "__next__") C Qfq (Qbf Qfq C F.entry_zip_next ?_ (F.args_zip_next_1 _))));refine fin hh D Z O S q1 G q fun h' e Y M=>?_;obtain⟨o,ho,I⟩:=M;exact Qaa (Qdh (T:= "StopIteration") (b:=true) ⟨o,ho,I⟩ Qfy (Qae (J _ Y)))
def iter_self{z:Aw}{f0:Av}(C:s.heap.get? z=some (zO f0 j a f))(h:Q (.ref z) s):A3 prog w A (pyIter (.ref z)) Q E s:=by
 have q:s.TypeIs (.ref z) "zip" :=⟨_,C,rfl⟩;refine Qfw q F.slot_zip_iter (Qbf F.slot_zip_iter q F.entry_zip_iter ?_ (F.args_zip_iter_1 _));exact Qae ⟨_,rfl,"zip",_,q,Qfq.lookup,h⟩
end
end ZpT
namespace ZpT
def hz1(b1:Bool)(h:Heap)(l1:Aw):Heap:=h.push (itO b1 l1)
def hz2(b1 b2:Bool)(h:Heap)(l1 l2:Aw):Heap:=(hz1 b1 h l1).push (itO b2 l2)
def hz3 (b1 b2:Bool) (h:Heap) (l1 l2:Aw):Heap:=(hz2 b1 b2 h l1 l2).push {cls:=.type "tuple",data:=.seq #[.ref h.objs.size,.ref (hz1 b1 h l1).objs.size]}
def hz4 (b1 b2:Bool) (h:Heap) (l1 l2:Aw):Heap:=(hz3 b1 b2 h l1 l2).push {cls:=.type "tuple",data:=.seq #[.none,.none]}
def hz5(b1 b2:Bool)(h:Heap)(l1 l2:Aw):Heap:=(hz4 b1 b2 h l1 l2).push (zO .none false (hz2 b1 b2 h l1 l2).objs.size (hz3 b1 b2 h l1 l2).objs.size)
theorem Wy(b1 b2:Bool)(l1 l2:Aw)(xs ys:Ah):
  Meets (Builtin.«zip.__new__» ⟨[.type "zip",.ref l1,.ref l2],[]⟩) (fun _ R s=>SeqAt b1 s.heap l1 xs/\SeqAt b2 s.heap l2 ys /\
   R (.ok (.ret (.ref (hz4 b1 b2 s.heap l1 l2).objs.size))) {s with heap:=hz5 b1 b2 s.heap l1 l2}):=
 .of_wp fun prog w A R s h=>by
  obtain⟨G,g,d,tk,os⟩:=s;obtain⟨F,C,h⟩:=h;have I:=sub_zip;have D:SeqAt b1 (Shared.heap ⟨G,g,d,tk,os⟩) l1 xs:=F;have q:SeqAt b2 (Shared.heap ⟨G.push (itO b1 l1),g,d,tk,os⟩) l2 ys:=C.mv fun o e=>Qad _ e
  wp_walk using XN D,XN q
  exact⟨_,rfl,h⟩
section
variable {prog:Aq}{w:Au}{A:Ar}{E:Ab}{s:As}
def call_new{b1 b2:Bool}{l1 l2:Aw}{xs ys:Ah}(L:SeqAt b1 s.heap l1 xs)(C:SeqAt b2 s.heap l2 ys)
  (h:∀h',St b1 b2 (s.heap.objs.size+4) (s.heap.objs.size+2) (s.heap.objs.size+3) s.heap.objs.size (s.heap.objs.size+1) l1 l2 0 0 h'->(∀c o,s.heap.get? c=some o->h'.get? c=some o)->Q (.ref (s.heap.objs.size+4)) {s with heap:=h'}):
  A3 prog w A (call (.type "zip") [.ref l1,.ref l2]) Q E s:=by
 refine callType_new F.called_zip (by decide) (F.typeCall_zip_2 _ _) (F.newCall_zip_2 _ _) (fun D=>F.args_object_init_3 D _ _) F.entry_zip_new (Wy b1 b2 l1 l2 xs ys) ⟨L,C,?_⟩;have J:(hz1 b1 s.heap l1).objs.size=s.heap.objs.size+1:=Qb2 ..;have I:(hz2 b1 b2 s.heap l1 l2).objs.size=s.heap.objs.size+2:=by unfold hz2;rw[Qb2,J]
 have q:(hz3 b1 b2 s.heap l1 l2).objs.size=s.heap.objs.size+3:=by unfold hz3;rw[Qb2,I]
 have Z:(hz4 b1 b2 s.heap l1 l2).objs.size=s.heap.objs.size+4:=by unfold hz4;rw[Qb2,q]
 have G:(hz5 b1 b2 s.heap l1 l2).get? (hz4 b1 b2 s.heap l1 l2).objs.size=some (zO .none false (hz2 b1 b2 s.heap l1 l2).objs.size (hz3 b1 b2 s.heap l1 l2).objs.size):=Qam _ rfl;have Y:(hz5 b1 b2 s.heap l1 l2).get? (hz3 b1 b2 s.heap l1 l2).objs.size=some {cls:=.type "tuple",data:=.seq #[.none,.none]}:=Qad _ (Qam _ rfl);have M:(hz5 b1 b2 s.heap l1 l2).get? (hz2 b1 b2 s.heap l1 l2).objs.size=some {cls:=.type "tuple",data:=.seq #[.ref s.heap.objs.size,.ref (hz1 b1 s.heap l1).objs.size]}:=Qad _ (Qad _ (Qam _ rfl));have O:(hz5 b1 b2 s.heap l1 l2).get? (hz1 b1 s.heap l1).objs.size=some (itO b2 l2):=Qad _ (Qad _ (Qad _ (Qam _ rfl)));have g1:(hz5 b1 b2 s.heap l1 l2).get? s.heap.objs.size=some (itO b1 l1):=Qad _ (Qad _ (Qad _ (Qad _ (Qam _ rfl))));rw[I,q,Z]at G;rw[J,I]at M;rw[q]at Y;rw[J]at O;rw[Z];exact⟨⟨_,G,rfl⟩,h _ ⟨⟨_,_,G,.inl rfl⟩,M,⟨_,_,Y⟩,GQ g1,GQ O⟩ fun c o x=>
  Qad _ (Qad _ (Qad _ (Qad _ (Qad _ x))))⟩
theorem St.other{b1 b2:Bool}{z i1 i2 l1 l2:Aw}{h':Heap}(D:Ap z f U i1 i2)(S:St b1 b2 z f U i1 i2 l1 l2 i n h){f0:Av}(q:h'.get? z=some (zO f0 j f U))(C:F0 f0)(hs:Heap.SameBut z h h'):St b1 b2 z f U i1 i2 l1 l2 i n h':=
 ⟨⟨f0,j,q,C⟩,hs.extBut _ _ D.TIz S.I,(let⟨a,b,e⟩:=S.O;⟨a,b,hs.extBut _ _ D.TOz e⟩),S.n1.mv fun o e=>hs.extBut _ _ D.i1z e,S.n2.mv fun o e=>hs.extBut _ _ D.i2z e⟩
def go_any{b1 b2:Bool}{z i2 l1 l2 T:Aw}{Q:Unit->Shared->Prop}(D:Ap z a f U i2)(S:St b1 b2 z a f U i2 l1 l2 i L s.heap)
  (h:∀h',St b1 b2 z a f U i2 l1 l2 i L h'->Heap.SameBut z s.heap h'->Q () {s with heap:=h'}):A3 prog w A (letOwnedTupleGo e (.ref z) (.ref T)) Q E s:=by
 have F:Q () s:=h s.heap S ⟨rfl,fun _ _=>rfl⟩;obtain⟨f0,I,G,J⟩:=id S.z;have tup:A3 prog w A (do
   let o <-load z
   match o.cls,o.data with
   |.type n,.fields vs=>
    if["enumerate","zip","dict_itemiterator","dict_reverseitemiterator","odict_iterator","itertools.zip_longest","itertools.pairwise"].contains n&&vs[0]? == some (rawInt T)then
     rule "for.unpacks-the-owned-tuple"
     updateField z 0 .none
   |_,_=>pure ()) Q E s:=by
  refine Qaa (wpAny_load G ?_);show wpAny _ _ (if(["enumerate","zip","dict_itemiterator","dict_reverseitemiterator","odict_iterator","itertools.zip_longest","itertools.pairwise"].contains "zip" && (#[f0,.bool I,.bool false,.ref a,.ref f]:Ah)[0]? == some (rawInt T))=true then _ else _) Q E s;split
  ·refine Qaa (Qdg ?_);exact Qcc G (by simp) fun h' C q=>h h' (S.other D (f0:=.none) C (.inl rfl) q) q
  ·exact Qae F
 cases e<;>first
  |exact tup
  |exact Qae F
end
end ZpT
namespace L2
open ZpT (St Ap Of SeqAt ZJ)
def Itz(K:Af)(b1 b2:Bool)(a1 a2:Aw):It:=
  ⟨fun i H=>∃xs ys x y,SqB K b1 H a1 xs/\SqB K b2 H a2 ys/\xs[i]?=some x/\ys[i]?=some y,
   fun i H v H'=>∃p,H p=none/\v=.ref p/\∀xs ys x y,SqB K b1 H a1 xs->SqB K b2 H a2 ys->xs[i]?=some x->ys[i]?=some y->H'=upd H p (.tup [x,y]),
   fun i H=>∃xs ys,SqB K b1 H a1 xs/\SqB K b2 H a2 ys/\(xs.length<=i\/ys.length<=i)⟩
def Zez{tg:Ax}{b1 b2:Bool}{z i2 a1 a2:Aw}(D:Ap z a f U i2)(D1:Of z f U i2 a1)(D2:Of z f U i2 a2):
  Turn P w K tg (Itz K b1 b2 a1 a2) [z,a,f,U,i2] z (fun i h=>ZpT.St b1 b2 z a f U i2 a1 a2 i i h)where
 mem:=by simp
 obj:=fun i h st b C=>by
  obtain⟨⟨f0,fb,L,O⟩,F,⟨x,y,G⟩,n1,n2⟩:=st;simp only[Qao,Qa8,Qdv]at C;rcases C with rfl|rfl|rfl|rfl|rfl
  ·exact⟨_,L,fun v q=>by
    have q':Data.fields _=Data.cell v:=q;cases q'⟩
  ·grind
  ·grind
  ·exact n1.ob
  ·exact n2.ob
 keep:=fun i h h' st k=>by
  obtain⟨⟨f0,fb,L,O⟩,F,⟨x,y,G⟩,n1,n2⟩:=st;exact⟨⟨f0,fb,k z (by simp) _ L,O⟩,k a (by simp) _ F,⟨x,y,k f (by simp) _ G⟩,n1.mv fun o e=>k U (by simp) o e,n2.mv fun o e=>k i2 (by simp) o e⟩
 item:=by
  intro X hP hw hK hc i pins s σ H E I O st hg;subst hP hw hK;obtain⟨xs,ys,x,y,q1,q2,hx,hy⟩:=hg;obtain⟨its1,r1,p1,z1⟩:=I.sqB q1;obtain⟨Y,r2,p2,z2⟩:=I.sqB q2;obtain⟨u1,hu1,ru1⟩:=r1.get hx;obtain⟨u2,hu2,ru2⟩:=r2.get hy;have olt:∀b∈[z,a,f,U,i2],b<s.heap.objs.size:=fun b C=>by
   obtain⟨⟨f0,fb,L,O⟩,F,⟨x,y,G⟩,n1,n2⟩:=st;simp only[Qao,Qa8,Qdv]at C;rcases C with rfl|rfl|rfl|rfl|rfl
   ·exact Qaq L
   ·exact Qaq F
   ·exact Qaq G
   ·obtain⟨o,ho,_⟩:=n1.ob;exact Qaq ho
   ·obtain⟨o,ho,_⟩:=n2.ob;exact Qaq ho
  refine ZpT.next_item D D1 D2 st p1 p2 (x:=u1) (y:=u2) (by simpa using hu1) (by simpa using hu2) fun h' st' hT hk=>?_;refine⟨_,rfl,ZpT.go_any (s:={s with heap:=h'}) D st' fun h2 st2 hs2=>?_⟩;have J:Heap.SameBut z h' h2:=hs2;have I1:Inv X pins σ (upd H s.heap.objs.size (.tup [x,y])) {s with heap:=s.heap.push {cls:=.type "tuple",data:=.seq #[u1,u2]},toks:=s.toks}:=
   I.laid (fun b o y=>Qad _ y) (Qak _) ⟨vx,[u1,u2],.cons ru1 (.cons ru2 .nil),v8.new _ _⟩
  have fp':∀b∈[z,a,f,U,i2],vy X pins (upd H s.heap.objs.size (.tup [x,y])) b:=fun b C=>by
   obtain⟨a0,ar⟩:=O b C;exact⟨by rw[Zk (Qbg (olt b C))];exact a0,ar⟩
  have I2:Inv X pins σ (upd H s.heap.objs.size (.tup [x,y])) {s with heap:=h2,toks:=s.toks}:=by
   refine JO (s:={s with heap:=s.heap.push {cls:=.type "tuple",data:=.seq #[u1,u2]},toks:=s.toks}) I1 fp' fun b o C q=>?_;have M:b≠z:=fun e=>C (by simp[e]);rcases Heap.get?_push_cases q with⟨rfl,rfl⟩|q
   ·exact(J.2 _ M).trans hT
   ·exact(J.2 b M).trans (hk b o M (fun e=>C (by simp[e])) (fun e=>C (by simp[e])) (fun e=>C (by simp[e])) q)
  refine⟨.ref s.heap.objs.size,_,I2,rfl,⟨_,I.hok.fresh (Qak _),rfl,fun xs' ys' x' y' q1' q2' hx' Z=>?_⟩,st2,fun b C=>(fp' b C).1⟩;rw[I.sqB_inj q1' q1,hx]at hx';rw[I.sqB_inj q2' q2,hy]at Z;cases hx';cases Z;rfl
 done:=by
  intro X hP hw hK hc i pins s σ H E I O st hg;subst hP hw hK;obtain⟨xs,ys,q1,q2,hx⟩:=hg;obtain⟨its1,r1,p1,z1⟩:=I.sqB q1;obtain⟨Y,r2,p2,z2⟩:=I.sqB q2;have e1:=r1.length;have e2:=r2.length;refine ZpT.next_end (I.ok.hd hc) D D1 D2 st p1 p2 (by simp;lia) fun h' hk=>⟨rfl,?_⟩;exact JO (t':=s.toks) I O fun b o C q=>hk b o (fun e=>C (by simp[e])) (fun e=>C (by simp[e])) (fun e=>C (by simp[e])) (fun e=>C (by simp[e])) q
 self:=fun _ _ _ _ _ st h=>let⟨_,_,L,_⟩:=st.z;ZpT.iter_self L h
def bt_zip:bootBuiltins "zip" = some (.type "zip"):=by decide +kernel
end L2
namespace L2
open ZpT (Ap Of SeqAt ZJ)
section
variable {X:Cx}{A:Ar}{b1 b2:Bool}{z TI TO i1 i2 a1 a2 S:Aw}{xs ys:A2}{pins:Ac}{σ:St}{R:Result->Shared->Prop}
end
end L2
namespace L2
open ZpT (Ap Of SeqAt ZJ)
def zfp(n:Nat):List Aw:=[n+4,n+2,n+3,n,n+1]
def zap(n:Nat):Ap (n+4) (n+2) (n+3) n (n+1):=by constructor<;>(lia)
def zof{l:Nat}(h:l<n):Of (n+4) (n+3) n (n+1) l:=by constructor<;>(lia)
section
variable {X:Cx}{e1 e2:Ax}{t:TA}{p pos:Pos}{b1 b2:Bool}
def Zgr{b:Bool}{l:Aw}{xs:Ah}(q:SeqAt b h l xs):l<h.objs.size:=by
 cases b
 ·obtain⟨o,ho,_⟩:=(show h.IsList l xs from q);exact Qaq ho
 ·obtain⟨o,ho,_⟩:=(show h.IsTuple l xs from q);exact Qaq ho
def Ze0     {RR:Aw->Addr->List V->List V->Hp->Prop}  (hg:Gl X "zip") (hm:X.mg "zip" = none) (ha:QA X [e1,e2] t) (G:[e1,e2].all ZV=true) (I:Inv X g c H s)
  (h:t c H fun vs H1=>∃a1 a2 xs ys,vs=[.ref a1,.ref a2]/\SqB X.K b1 H1 a1 xs/\SqB X.K b2 H1 a2 ys/\RR a1 a2 xs ys H1)
  (fin:∀a1 a2 xs ys n H1 q,Inv X g c H1 q->SqB X.K b1 H1 a1 xs->SqB X.K b2 H1 a2 ys->RR a1 a2 xs ys H1->a1<n->a2<n->ZpT.St b1 b2 (n+4) (n+2) (n+3) n (n+1) a1 a2 0 0 q.heap->(∀b∈zfp n,vy X g H1 b)->Q (.ref (n+4)) q):
  A4 X (eval (.Call (.Name "zip" p) [e1,e2] [] pos) X.env) Q X.xe s:=by
 rw[Qc3,Qb4]at G;refine Qdd (Jo I hg hm bt_zip ?_);refine Qcs (thn (ha.out pos g s c H _ I h) fun us q ⟨vs,H1,D,r1,F⟩=>?_) (Zu G.1) (Xa G.2);obtain⟨a1,a2,xs,ys,rfl,F,O,r⟩:=F;obtain⟨u1,u2,rfl,L,J⟩:=Zex r1;cases L;cases J;obtain⟨Y,v1,p1,z1⟩:=D.sqB F;obtain⟨M,v2,p2,z2⟩:=D.sqB O;refine ZpT.call_new p1 p2 fun h' st hk=>?_;refine fin a1 a2 xs ys q.heap.objs.size H1 _ (D.kept (t':=q.toks) hk) F O r (Zgr p1) (Zgr p2) st fun b Z=>?_;have C:q.heap.objs.size<=b:=by
  simp only[zfp,Qao,Qa8,Qdv]at Z;rcases Z with rfl|rfl|rfl|rfl|rfl
  ·exact Qf3 _ _
  ·exact Qf3 _ _
  ·exact Qf3 _ _
  ·exact Qak _
  ·exact Qf3 _ _
 exact D.fpOk C (D.hok.fresh C)
def iZip2(K:Af)(b1 b2:Bool)(t:TA):TI:=fun σ H R=>t σ H fun vs H1=>∃a1 a2 xs ys,vs=[.ref a1,.ref a2]/\SqB K b1 H1 a1 xs/\SqB K b2 H1 a2 ys/\R (Itz K b1 b2 a1 a2) H1
def qi_zip  (q:Gl X "zip") (G:X.mg "zip" = none) (ha:QA X [e1,e2] t) (D:[e1,e2].all ZV=true:=by rfl):QI X e (.Call (.Name "zip" p) [e1,e2] [] pos) (iZip2 X.K b1 b2 t):=by
 refine⟨fun pins s σ H R I h=>?_⟩;refine Ze0 (b1:=b1) (b2:=b2) (RR:=fun a1 a2 _ _ H1=>R (Itz X.K b1 b2 a1 a2) H1) q G ha D I h fun a1 a2 xs ys n H1 M F Y L r l1 l2 st J=>?_;obtain⟨f0,O,C,_⟩:=id st.z;exact ZpT.iter_self C ⟨n+4,zfp n,_,_,H1,rfl,F,Zez (zap n) (zof l1) (zof l2),st,J,r⟩
end
end L2
namespace L2
structure Two(scope:Scope)(x x2:Str)(ys:Ai):Prop where
 own:scope.names.lookup x2=some .local
 nd:(x::x2::ys).Nodup
def Zi2(is:Aj)(σ:St)(v w:Option V):St:=v::w::is.map fun i=>(σ[i]?).getD none
def Zbm(K:Af)(is:Aj)(tc:TT)(te:TE)(σ:St)(Q:VK)(J:It)(H1:Hp):Prop:=∃W:Nat->Nat->List V->Hp->Prop,(∃m,W 0 m [] H1)/\∀i m zs H,W i m zs H->
 (J.stop i H/\zs.length<=sizeLine/\∀p,H p=none->Q (.ref p) (upd H p (.lst zs))) \/
 (J.go i H/\zs.length<=sizeLine/\∀x H',J.yld i H x H'->∃a D C,x=.ref a/\SqT K H' a [D,C]/\tc (Zi2 is σ (some D) (some C)) H' fun b H2=>if b=true then te (Zi2 is σ (some D) (some C)) H2 fun y F=>∃q,q<m/\W (i+1) q (zs++[y]) F else∃q,q<m/\W (i+1) q zs H2)
def tComp2(K:Af)(wi:TI)(is:Aj)(tc:TT)(te:TE):TE:=fun σ H Q=>wi σ H (Zbm K is tc te σ Q)
section
variable {X:Cx}{S scope:Scope}{N:Ai}{x x2:Str}{ys:Ai}{is:Aj}{pins:Ac}{σ:St}{H₂:Hp}{s₂:As}{fp:List Aw}{elt iter:Ax}{px px2 pp pos:Pos}{pq:Nat}{ifs:An}{tc:TT}{te:TE}{wi:TI}
theorem compT2(K:ZQ S scope N x ys is)(q:Two scope x x2 ys)(L:X.env.scope=S)(F:X.N=N)(I:S.kind=.function)(D:X.calm=true):Zaz X S scope N x ys is [x,x2] (.Tuple [.Name x px,.Name x2 px2] pq pp) (Zld X.K 2 (zV (Wv 0) (zV (Wv 1) Zlc))) (fun σ C=>∃J G,C=Zi2 is σ J G):=
 ⟨K,L,F,I,D,fun _ _ _ _=>Zgg D (GN (zU q.nd rfl (.inl (Qdu K.own)) (.inr (Qdu K.own))) (GN (zU q.nd rfl (.inl (Qdu q.own)) (.inr (Qdu q.own))) uT)),fun _=>⟨none,none,rfl⟩⟩
theorem conv2:∀σ Q J H,Zbm K is tc te σ Q J H->yj (Zld K 2 (zV (Wv 0) (zV (Wv 1) Zlc))) (fun q=>∃F I,q=Zi2 is σ F I) tc te Q J H:=fun σ Q J H ⟨W,L,t⟩=>
 ⟨W,L,fun i m zs H w=>(t i m zs H w).imp_right fun z=>⟨z.1,z.2.1,fun x H' y=>by
  obtain⟨a,D,C,rfl,G,k⟩:=z.2.2 x H' y;exact⟨Zi2 is σ (some D) (some C),⟨_,_,rfl⟩,fun q ⟨_,_,e⟩=>e ▸ ⟨a,[D,C],rfl,G,rfl,_,_,rfl,_,_,rfl,rfl,rfl,rfl⟩,k⟩⟩⟩
def Ze1(K:ZQ S scope N x ys is)(J:Two scope x x2 ys)(hi:QI X (.Tuple [.Name x px,.Name x2 px2] pq pp) iter wi)(L:∀C s₂ H₂ ex,QF (cxC X (x::x2::ys) scope C s₂ H₂ ex) ifs tc)(F:∀C s₂ H₂ ex,QE (cxC X (x::x2::ys) scope C s₂ H₂ ex) elt te)
  (D:X.calm=true:=by rfl) (I:X.env.scope=S:=by rfl) (q:X.N=N:=by rfl) (G:S.kind=.function:=by rfl) (hs:∀v,foldedSetIterable iter X.env v=pure v:=by intro _;rfl):
  QE X (.ListComp elt [⟨(.Tuple [.Name x px,.Name x2 px2] pq pp),iter,ifs,0⟩] scope pos) (tComp2 X.K wi is tc te):=
 wg (compT2 K J I q G D) conv2 hi L F hs
end
end L2
namespace L2
open PySem.W
section
variable {prog:Aq}{w:Au}{A:Ar}{E:Ab}{s:As}
end
section
variable {prog:Aq}{w:Au}{h:Heap}
end
end L2
namespace L2
section
variable {prog:Aq}{w:Au}{A:Ar}{E:Ab}{s:As}{c it:Aw}{oc:Obj}{es:Array DictEntry}{ep i:Nat}
end
def Ze2:QE X (.Dict [] [] p) Zgq:=⟨Zen⟩
def PP1(X:Cx)(pos:Pos)(k v:Ax)(tk tv:TE):Prop:=∀pins s σ H (R:V->V->Hp->Prop),Inv X pins σ H s->(tk σ H fun x H1=>tv σ H1 fun y H2=>R x y H2)->
 A4 X (evalPairs (pairTrees [some k] [v] X.env pos)) (fun C q=>∃x y u r H2,C=[(u,r)]/\Inv X pins σ H2 q/\RelV x u/\RelV y r/\R x y H2) X.xe s
def pp1{k v:Ax}{tk:TE}(M:QE X k tk)(J:QE X v I):PP1 X p k v tk I:=by
 intro pins s σ H R C q;refine pairTrees_cons_walk (thn (M.out pins s σ H _ C q) fun u L ⟨x,H1,O,F,Z⟩=>thn (J.out pins L σ H1 _ O Z) fun r s2 ⟨y,H2,G,Y,D⟩=>pairTrees_nil_walk ⟨x,y,u,r,H2,rfl,G,F,Y,D⟩)
def HT.cat_tup0{prog:Aq}{A:Ar}{E:Ab}{b:Aw}(O:IsTup s.heap a #[])(Z:IsTup s.heap b J.toArray)(q:Q (.ref b) s):
  A3 prog w A (binaryOp .Add (.ref a) (.ref b)) Q E s:=by
 obtain⟨⟨cls,dd,data,sl⟩,ho,M,n,Y⟩:=id O;obtain⟨⟨L,D,data2,I⟩,C,F,n2,G⟩:=id Z;subst M Y F G;exact concat_meets ⟨_,ho,rfl⟩ ⟨_,C,rfl⟩ Qhg seq_tuple_add Qft Qfl (Qff _ _)
  (tuple_addW0 a b #[] J.toArray n n2 dd D sl I rfl) ⟨ho,C,q⟩
def rCatG:R2:=fun x y H Q=>∃a b xs ys,x=.ref a/\y=.ref b/\H a=some (.tup xs)/\H b=some (.tup ys)/\xs.length+ys.length<=sizeLine/\∀p H',H' p=some (.tup (xs++ys))->Z9 H H'->Q (.ref p) H'
def Zi3:OpR X (binaryOp .Add) rCatG:=by
 intro pins s σ H x y v u Q I Z M h;obtain⟨a,b,xs,ys,rfl,rfl,ha,L,J,q⟩:=h;cases Z;cases M;obtain⟨O,C,p1,_⟩:=I.tuple (SqT.of ha:SqT X.K H a xs);obtain⟨G,D,p2,_⟩:=I.tuple (SqT.of L:SqT X.K H b ys)
 by_cases F:xs=[]
 ·have e:=C.nil_iff.mpr F;subst e F;exact HT.cat_tup0 p1 p2 ⟨.ref b,H,I,rfl,q b H L fun _ _ z=>z⟩
 ·refine HT.cat_tup p1 p2 (fun z=>F (C.nil_iff.mp z)) (fun z=>⟨.ref a,H,I,rfl,q a H ?_ fun _ _ z=>z⟩) (fun z=>?_) (by rw[<-C.length,<-D.length];exact J)
  ·rw[D.nil_iff.mp z,Qby];exact ha
  ·have Y:=I.hok.fresh (Qak s.heap.objs.size);refine⟨.ref s.heap.objs.size,_,I.laid (t':=s.toks) (o:=.tup (xs++ys)) (fun b ob q=>Qad _ q) (Qak _) ?_,rfl,q _ _ Za fun c o z=>by rw[Zk (fun e=>by rw[e,Y]at z;cases z)];exact z⟩;exact⟨by rw[Qaj];exact J,_,C.append D,v8.new _ _⟩
open PySem.W (hideAll of_hideAll hideAll_get hideAll_none funFrames_hide)
section
variable {P:Aq}{w:Au}{X:Cx}{pins:Ac}{σ:St}{H:Hp}{s:As}
end
end L2
namespace L2
open PySem.W (hideAll of_hideAll hideAll_get hideAll_none funFrames_hide)
section
variable {X:Cx}{E:XK}
end
end L2
namespace L2
section
variable {X:Cx}{E:XK}{x:Str}{C:Aw}{np cpos pos:Pos}{e₀:Ax}{rest:An}{t:TA}
end
section
variable {M:Model}{A:Ar}{E:Ab}
variable {nm q nm' q':Str}{C N D N':Aw}{bs bm bs' bm':Ag}{hdct hdct':Bool}{sn sn':Ai}{sub sub':Ag}{ab ab':Bool}{col col':Option Bool}{dd dd':Option Aw}{k0 k1 k2 k3 k5 k0' k1' k2' k3' k5':Option Av}{newId newId':String}
end
section
variable {X:Cx}{pins:Ac}{σ:St}{H H':Hp}{s s':As}
end
section
variable {prog:Aq}{w:Au}{A:Ar}{E:Ab}{s:As}{env:Env}
end
section
variable {X:Cx}{pins:Ac}{σ:St}{H:Hp}{s:As}
variable {k:Nat}{f:Aw}{fd:Ao}{ps:Ai}{sp:Sp}{g x y n:Str}{p np p0 cpos spos hpos pos:Pos}{e₀:Ax}{es:An}{t:TA}{b₀:Ay}{suite:List Ay}{i j:Nat}{Dc:Aw}{ts:TS}
end
end L2
namespace L2
open PySem.Calls
open PySem.W (Frag InstAt findObj plainGet plainGet_of kin_open kin_hooked class_get handed_on mroIn clsIn Looks subIn typeIn looks_typeIn looks_subIn isIn isi_call)
section
variable {prog:Aq}{w:Au}{A:Ar}{E:Ab}{s:As}{K:Frag}{e C D:Aw}{oe:Obj}{od:Option Obj}
end
end L2
namespace L2
open PySem.Calls
open PySem.W Builtin Builtin.ObjectAttr Builtin.Getset_descriptor
section
variable {prog:Aq}{w:Au}{A:Ar}{E:Ab}{s:As}{K:Frag}{e C D:Aw}
end
end L2
namespace L2
open PySem.Calls
open PySem.W Builtin Builtin.ObjectAttr
section
variable {prog:Aq}{w:Au}{A:Ar}{E:Ab}{s:As}{K:Frag}{x C:Aw}{name:Str}{v:Av}
end
section
variable {X:Cx}{pins:Ac}{σ:St}{H:Hp}{s:As}{e C d:Aw}{f:Str}{v:V}{u:Av}{A:Ar}{E:Ab}
end
section
variable {X:Cx}{o value:Ax}{ta tv:TE}{f:Str}{pos pos':Pos}
end
end L2
namespace L2
open PySem.Calls
open PySem.W
section
variable {prog:Aq}{w:Au}{A:Ar}{E:Ab}{hh:Heap}{g:Array GenState}{dr:Drawn}{t:Nat}{os:OsState}{K:Frag}
variable {nm q:Str}{C N fI:Aw}{bs tl:Ag}{hdct:Bool}{sn:Ai}{sub:Ag}{ab:Bool}{col:Option Bool}{dd:Option Aw}{k0 k1 k2 k3 k5:Option Av}
end
end L2
namespace L2
open PySem.Calls
open PySem.W
section
variable {X:Cx}{x:Str}{C f:Aw}{k:Nat}{fd:Ao}{ps:Ai}{sp:Sp}{p pos:Pos}{e₀:Ax}{es:An}{t:TA}
end
end L2
namespace L2
open PySem.Calls
open Builtin Builtin.Str
section
variable {X:Cx}{e b:Ax}{es:An}{te tb:TE}{t:TA}
end
section
variable {X:Cx}{o:Ax}{to:TE}{y z:Str}{j1 j2 j3:Nat}{p1 p2 p3 apos cpos:Pos}
end
end L2
namespace L2
open PySem.Calls
open Builtin Builtin.Str
section
variable {X:Cx}{e:Ax}{ta:TE}{c:Str}{j:Nat}{p1 p2 pos:Pos}
end
end L2
namespace L2
open PySem.Calls
open PySem.W
end L2
namespace L2
open PySem.Calls
open Builtin Builtin.Str
end L2
namespace L2
open PySem.Calls
section
variable {M:Model}{A:Ar}{E:Ab}{s:As}{B:Heap}{env:Env}{outer:List Env}{L e:Aw}{φ:Obj->Prop}{Q:Unit->Shared->Prop}
end
section
variable {prog:Aq}{w:Au}{A:Ar}{E:Ab}{s:As}{env:Env}{x:Sem Av}{Q:Flow->Shared->Prop}{C e1:Aw}{j:Nat}{p pos:Pos}
end
open PySem.W (hideAll of_hideAll hideAll_get hideAll_none funFrames_hide)
section
variable {X:Cx}{E:XK}
end
end L2
namespace L2
open PySem.Calls
section
variable {prog:Aq}{w:Au}{A:Ar}{E:Ab}{s:As}{env:Env}
end
section
variable {X:Cx}{E:XK}
end
section
variable {X:Cx}{E:XK}{k:Nat}{f:Aw}{fd:Ao}{ps:Ai}{sp:Sp}{g y x2:Str}{p np np2 cpos cpos2 spos hpos pos p9 rpos:Pos}{j:Nat}{e₀ a₀:Ax}{es as:An}{t t2:TA}{Dc C2:Aw}
end
section
variable {prog:Aq}{w:Au}{A:Ar}{E:Ab}{s:As}{a:Aw}{oa:Obj}{x:Av}{l:Ag}{na:Nat}{ts:Ai}
end
section
variable {X:Cx}{e:Ax}{ta:TE}{c:Str}{j:Nat}{p1 p2 pos:Pos}
end
open PySem.W
section
variable {X:Cx}{pins:Ac}{σ:St}{H:Hp}{s:As}{e C d:Aw}{f:Str}{v:V}{u:Av}{A:Ar}{E:Ab}{arr:Ah}
end
section
variable {X:Cx}{E:XK}
end
end L2
namespace L2
open PySem.Calls
open PySem.W (hideAll of_hideAll hideAll_get hideAll_none funFrames_hide)
section
variable {X:Cx}{E:XK}
end
section
variable {prog:Aq}{w:Au}{A:Ar}{E:Ab}{s:As}{env:Env}{x:Sem Av}{Q:Flow->Shared->Prop}{C:Aw}
end
section
variable {X:Cx}{E:XK}{x:Str}{C f:Aw}{k:Nat}{fd:Ao}{ps:Ai}{sp:Sp}{np cpos pos:Pos}{e₀:Ax}{es:An}{t:TA}
end
end L2
namespace L2
open PySem.Calls
section
variable {X:Cx}{k:Nat}{f:Aw}{fd:Ao}{ps:Ai}{sp:Sp}{g y n:Str}{p np cpos spos hpos pos:Pos}{e₀:Ax}{es:An}{t:TA}{b₀:Ay}{suite:List Ay}{j:Nat}{Dc:Aw}{ts:TS}
end
end L2
namespace L2
open PySem
def hideG{q:Prop}(h:∀G:Prop,(q->G)->G):q:=h q fun z=>z
theorem len1{P:List d->Prop}(h:∀a,P [a]):∀q:List d,q.length=1->P q
 |[a],_=>h a
theorem len2{P:List d->Prop}(h:∀a b,P [a,b]):∀q:List d,q.length=2->P q
 |[a,b],_=>h a b
theorem len3{P:List d->Prop}(h:∀a b c,P [a,b,c]):∀q:List d,q.length=3->P q
 |[a,b,c],_=>h a b c
theorem len4{α:Type}{P:List α->Prop}(h:∀a b c d,P [a,b,c,d]):∀q:List α,q.length=4->P q
 |[a,b,c,d],_=>h a b c d
theorem len5{α:Type}{P:List α->Prop}(h:∀a b c d e,P [a,b,c,d,e]):∀q:List α,q.length=5->P q
 |[a,b,c,d,e],_=>h a b c d e
theorem z5{lo:Int}{g:TG}(F:Nat->St->Hp->Prop)(J:F 0 c H)
  (hs:∀i c H,i<n->F i c H->∀(N b:A1) (r:VK),(∀c H,F (i+1) c H->N c H)->g (.int (lo+i)) c H fun C H2=>q {nx:=N,rt:=r,bk:=b,ct:=N} C H2) (I:∀c H,F n c H->Y.nx c H):
  ∃W:Nat->Nat->St->Hp->Prop,(∃m,W 0 m c H)/\∀i m c H,W i m c H->
   ((Itr lo n).stop i H/\Y.nx c H)\/((Itr lo n).go i H/\∃N:A1,(∀D H',N D H'->∃G,G<m/\W (i+1) G D H')/\∀x H',(Itr lo n).yld i H x H'->g x c H' fun C H2=>q {Y with nx:=N,ct:=N,bk:=Y.nx} C H2):=
 XJ F J (fun i c H hi p=>hs i c H hi p _ _ _ fun _ _ z=>z) I
theorem walk_X{q:Aq}{J:(Ae)->Heap->Prop}{K:Params->PySem.W.Frag}{as:List Aw}{r:PySem.W.RowW}{d:DefRec}{F:List (Str×Ax)}{run:Av->List Av->Sem Av}
  (e:∀P,as=(K P).map (·.1)) (W:PySem.W.WalkO q N J (PySem.W.InK K) r d F run):PySem.W.WalkX q N J (PySem.W.X.obsZ as) (PySem.W.X.valZ K n i) r d F run:=
 fun w s₀ D mg Z G y a o pm cd I M kV e1 e2 e3 O e5 Y args C as L p l R W' nn=>
  W w s₀ D mg Z G (PySem.W.InK.keeps w _ _ (PySem.W.X.z_facts e y).2.1 L.keeps) a o pm cd I M kV e1 e2 e3 O e5 Y args C as p l R W' nn
def noT(K:Af):Af:=K.filter fun p=>match p.2.cls,p.2.data with
 |.none,.fields _=>false
 |_,_=>true
def noT_ok(K:Af):PySem.W.noTabs (noT K)=true:=by
 unfold PySem.W.noTabs noT;rw[Qcb];intro p q;exact(Qdn.mp q).2
def nodB:Aj->Bool
 |[]=>true
 |a::r=>r.all (fun b=>!(Nat.beq a b))&&nodB r
theorem lookup_mem{a:Aw}{o:Obj}:∀{K:Af},K.lookup a=some o->(a,o)∈K
 |(b,u)::r,h=>by
  rw[Qc4]at h
  by_cases e:(a == b)=true
  ·grind
  ·rw[Bool.eq_false_iff.mpr e]at h;exact Qal _ (lookup_mem h)
theorem mem_lookup{a:Aw}{o:Obj}:∀{K:Af},nodB (K.map (·.1))=true->(a,o)∈K->K.lookup a=some o
 |(b,u)::r,D,h=>by
  rw[Qc4];have q:=Qf7.mp D;rcases Qao.mp h with e|e
  ·cases e;rw[Qcu]
  ·have C:(a == b)=false:=by
    rw[Qei];intro z;have:=Qcb.mp q.1 a (Qb6 e);rw[z,show Nat.beq b b=true from Nat.beq_refl b]at this;cases this
   rw[C];exact mem_lookup q.2 e
theorem in_noT(q:nodB (K.map (·.1))=true)(X:K.In h):(noT K).In h:=fun a o e=>
 X a o (mem_lookup q (Qdn.mp (lookup_mem e)).1)
def ns_tr{m:Aw}{r:Option (Option Av)}(e:PySem.W.nsIn (noT K) m x=PySem.W.nsIn K m x)(h:PySem.W.nsIn K m x=r):PySem.W.nsIn (noT K) m x=r:=e.trans h
def lk_tr{r:Option Obj}(e:(noT K).lookup a=K.lookup a)(h:K.lookup a=r):(noT K).lookup a=r:=e.trans h
def cd_tr{c:Av}(e:PySem.W.codeIn (noT K) c x=PySem.W.codeIn K c x)(h:PySem.W.codeIn K c x=true):PySem.W.codeIn (noT K) c x=true:=e.trans h
def kp_tr{c:Av}(e:PySem.W.keepIn (noT K) c=PySem.W.keepIn K c)(h:PySem.W.keepIn K c=true):PySem.W.keepIn (noT K) c=true:=e.trans h
def cxK{CX:CXT}{mg:Ae}{qual:Str}{scope:Scope}{A:Ar}{outer:List Env}{E:XK}:(Zd9 CX P w K mg h N qual scope f v A outer s H E).nox.K=K:=rfl
def cxK2{CX:CXT}{mg:Ae}{qual:Str}{scope:Scope}{A:Ar}{outer:List Env}{E:XK}:(Zd9 CX P w K mg h N qual scope f v A outer s H E).K=K:=rfl
def let2{C:TS}(h:let D:=C;ZZ q D Y c H):ZZ q C Y c H:=h
def let3{D C:TS}(h:let G:=C;let F:=ZZ D G;ZZ q F Y c H):ZZ q (ZZ D C) Y c H:=h
def let4{F D C:TS}(h:let J:=C;let I:=ZZ D J;let G:=ZZ F I;ZZ q G Y c H):ZZ q (ZZ F (ZZ D C)) Y c H:=h
def let5{D C F G:TS}(h:let M:=G;let L:=ZZ F M;let J:=ZZ C L;let I:=ZZ D J;ZZ q I Y c H):ZZ q (ZZ D (ZZ C (ZZ F G))) Y c H:=h
def let6{D C F G I:TS}(h:let O:=I;let Z:=ZZ G O;let M:=ZZ F Z;let L:=ZZ C M;let J:=ZZ D L;ZZ q J Y c H):ZZ q (ZZ D (ZZ C (ZZ F (ZZ G I)))) Y c H:=h
def let7{D C F G J I:TS}(h:let O:=I;let Z:=ZZ J O;let U4:=ZZ G Z;let U3:=ZZ F U4;let M:=ZZ C U3;let L:=ZZ D M;ZZ q L Y c H):ZZ q (ZZ D (ZZ C (ZZ F (ZZ G (ZZ J I))))) Y c H:=h
def let8{F C G I L J D:TS}(h:let Z:=D;let U6:=ZZ J Z;let U5:=ZZ L U6;let U4:=ZZ I U5;let U3:=ZZ G U4;let O:=ZZ C U3;let M:=ZZ F O;ZZ q M Y c H):ZZ q (ZZ F (ZZ C (ZZ G (ZZ I (ZZ L (ZZ J D)))))) Y c H:=h
def let9{M D C G I J L F:TS}(h:let U8:=F;let U7:=ZZ L U8;let U6:=ZZ J U7;let U5:=ZZ I U6;let U4:=ZZ G U5;let U3:=ZZ C U4;let Z:=ZZ D U3;let O:=ZZ M Z;ZZ q O Y c H):ZZ q (ZZ M (ZZ D (ZZ C (ZZ G (ZZ I (ZZ J (ZZ L F))))))) Y c H:=h
def let10{G D M I O J L F C:TS}(h:let U9:=C;let U8:=ZZ F U9;let U7:=ZZ L U8;let U6:=ZZ J U7;let U5:=ZZ O U6;let U4:=ZZ I U5;let Z:=ZZ M U4;let U2:=ZZ D Z;let U1:=ZZ G U2;ZZ q U1 Y c H):ZZ q (ZZ G (ZZ D (ZZ M (ZZ I (ZZ O (ZZ J (ZZ L (ZZ F C)))))))) Y c H:=h
end L2
namespace ZpT
abbrev Zgs (h:Heap) (T:Aw) (a b c:Av):Prop:=h.get? T=some {cls:=.type "tuple",data:=.seq #[a,b,c]}
structure Ap3(z TI TO i1 i2 i3:Aw):Prop where
 TIz:TI≠z
 TOz:TO≠z
 i1z:i1≠z
 i2z:i2≠z
 i3z:i3≠z
 TITO:TI≠TO
 TIi1:TI≠i1
 TIi2:TI≠i2
 TIi3:TI≠i3
 TOi1:TO≠i1
 TOi2:TO≠i2
 TOi3:TO≠i3
 i12:i1≠i2
 i13:i1≠i3
 i23:i2≠i3
structure Of3(z TO i1 i2 i3 l:Aw):Prop where
 z:l≠z
 o:l≠TO
 i:l≠i1
 j:l≠i2
 m:l≠i3
structure St3(z TI TO i1 i2 i3 l1 l2 l3:Aw)(k:Nat)(h:Heap):Prop where
 z:∃f0 fb,h.get? z=some (zO f0 fb TI TO)/\F0 f0
 I:Zgs h TI (.ref i1) (.ref i2) (.ref i3)
 O:∃a b c,Zgs h TO a b c
 n1:ZJ false h i1 l1 k
 n2:ZJ false h i2 l2 k
 n3:ZJ false h i3 l3 k
section
variable {prog:Aq}{w:Au}{A:Ar}{E:Ab}{s:As}
end
end ZpT
namespace L2
section
variable {X:Cx}{S scope:Scope}{N:Ai}{x x2 x3:Str}{ys:Ai}{is:Aj}{pins:Ac}{σ:St}{H₂:Hp}{s₂:As}{fp:List Aw}{elt iter:Ax}{px px2 px3 pp pos:Pos}{pq:Nat}{ifs:An}{tc:TT}{te:TE}{wi:TI}
end
end L2
namespace ZpT
section
variable {prog:Aq}{w:Au}{A:Ar}{E:Ab}{s:As}
end
end ZpT
namespace L2
open ZpT (St3 Ap3 Of3 SeqAt ZJ)
section
variable {X:Cx}{e1 e2 e3:Ax}{t:TA}{p pos:Pos}
end
end L2
namespace L2
section
variable {prog:Aq}{w:Au}{A:Ar}{s:As}
end
def b2i(b:Bool):Int:=if b=true then 1 else 0
def Zlw(k:Int):Av->Bool
 |.int i _=>i == k
 |.bool b=>b2i b == k
 |_=>false
def YT{k:Int}(h:Zlw k v=true):(∃t,v=.int k t)\/∃b,v=.bool b/\k=b2i b:=by
 cases v with
 |int i t=>exact .inl ⟨t,by rw[show i=k from eq_of_beq h]⟩
 |bool b=>exact .inr ⟨b,rfl,(eq_of_beq h).symm⟩
 |_=>cases h
section
variable {prog:Aq}{w:Au}
def vQ{A:Ar}{E:Ab}{b:Bool}{Q:Int->Shared->Prop}(h:Q (hashInt (b2i b)) {s with toks:=s.toks+1}):A3 prog w A (pyHash (.bool b)) Q E s:=by
 refine PySem.W.pyHash_slot (T:= "bool") (id:= "int.__hash__") (B:=Builtin.«int.__hash__») rfl F.slot_bool_hash F.entry_int_hash (F.args_int_hash_1 _) (by decide +kernel) (.inl rfl) ?_;cases b
 ·exact Qaa (Qcj (a:=(Value.bool false,(0:Int))) rfl (Qaa (Qgf (Qae ⟨0,_,rfl,h⟩))))
 ·exact Qaa (Qcj (a:=(Value.bool true,(1:Int))) rfl (Qaa (Qgf (Qae ⟨1,_,rfl,h⟩))))
end
def dec_eq(a b:Int):decide (a=b)=(a == b):=by grind
def Yz(prog:Aq)(w:Au):KeyKind prog w Int where
 is:=Zlw
 hash:=hashInt
 inj:=fun v a b ha C=>by
  rcases YT ha with⟨t,rfl⟩|⟨x,rfl,rfl⟩
  ·exact(eq_of_beq (show(a == b)=true from C))
  ·exact(eq_of_beq (show(b2i x == b)=true from C))
 byValue:=fun k v h=>by
  rcases YT h with⟨t,rfl⟩|⟨x,rfl,rfl⟩<;>rfl
 pyHash:=fun q h=>by
  rcases YT q with⟨t,rfl⟩|⟨x,rfl,rfl⟩
  ·exact Qhf h
  ·exact vQ h
 eqBool:=fun D q h=>by
  rw[dec_eq]at h;rcases YT D with⟨t,rfl⟩|⟨x,rfl,rfl⟩
  ·rcases YT q with⟨u,rfl⟩|⟨y,rfl,rfl⟩
   ·exact wpAny_eqBool_int h
   ·exact SeqAt.EqAt.int_bool _ t y _ _ _ _ h
  ·rcases YT q with⟨u,rfl⟩|⟨y,rfl,rfl⟩
   ·exact SeqAt.EqAt.bool_int x _ u _ _ _ _ h
   ·refine SeqAt.EqAt.bool_bool x y _ _ _ _ ?_;have e:(b2i x == b2i y)=(x == y):=by cases x<;>cases y<;>rfl
    rw[e]at h;exact h
 «strs»:=fun k x t v h=>by cases h
section
variable {prog:Aq}{w:Au}
def IsPair(prog:Aq)(w:Au)(h:Heap)(k:Int×Ak)(a:Aw):Prop:=
 ∃o n t tk,h.get? a=some o/\o.cls=.type "tuple" /\ o.data=.seq #[.int k.1 tk,.ref t] n/\IsTupleKey (Yz prog w) h k.2 t
def wz(prog:Aq)(w:Au)(k:Int×Ak):Int:=reduceHash (Builtin.Tuple.tupleHashOf [hashInt k.1,tupleKeyHash (Yz prog w) k.2])
def IsPair.inj{h:Heap}{a:Aw}{x y:Int×Ak}(p:IsPair prog w h x a)(q:IsPair prog w h y a):x=y:=by
 obtain⟨o,n,t,tk,e,c,d,k⟩:=p;obtain⟨o',n',t',Y,C,c',d',J⟩:=q;rw[e]at C;cases C;rw[d]at d';injection d' with F Z;have I:=congrArg Array.toList F;injection I with G M;injection G with L _;injection M with D _;injection D with O;subst O;have:=(tupleKind (Yz prog w)).inj k J;exact Qhv L this
def IsPair.keeps{h h':Heap}{k:Int×Ak}{a d:Aw}{o:Obj}{es:Array DictEntry}{ep:Nat}(p:IsPair prog w h k a)(e:h.get? d=some o)(D:o.data=.dict es ep)(s:Heap.SameBut d h h'):IsPair prog w h' k a:=by
 obtain⟨o1,n,t,tk,e1,F,C,k1⟩:=p;have q:a≠d:=fun z=>by
  grind
 exact⟨o1,n,t,tk,(s.2 a q).trans e1,F,C,(tupleKind (Yz prog w)).keeps k1 e D s⟩
def IsPair.pyHash{A:Ar}{E:Ab}{s:As}{k:Int×Ak}{a:Aw}{Q:Int->Shared->Prop}(D:A.units+1<cLine)(p:IsPair prog w s.heap k a)
  (h:Q (wz prog w k) {s with toks:=s.toks+(k.2.length+3)}):A3 prog w A (PySem.pyHash (.ref a)) Q E s:=by
 obtain⟨o,n,t,tk,e,c,d,q⟩:=p;refine PySem.W.pyHash_slot (T:= "tuple") (id:= "tuple.__hash__") (B:=Builtin.«tuple.__hash__») ⟨o,e,c⟩ F.slot_tuple_hash F.entry_tuple_hash (F.args_tuple_hash_1 _) (by decide +kernel) (.inr (by lia)) ?_;refine Qaa (Qcj (a:=(Value.ref a,[])) rfl ?_);refine Qaa (wpAny_tupleItemsOf e d ?_);refine Qaa (Qgq _ (fun rest hs s'=>(rest=[.int k.1 tk,.ref t]/\hs=#[]/\s'=s)\/(rest=[.ref t]/\hs=#[hashInt k.1]/\s'={s with toks:=s.toks+1})\/(rest=[]/\hs=#[hashInt k.1,tupleKeyHash (Yz prog w) k.2]/\s'={s with toks:=s.toks+1+(k.2.length+1)})) _ ?_ ?_ _ _ (.inl ⟨rfl,rfl,rfl⟩))
 ·rintro x rest b s' (⟨e1,rfl,rfl⟩|⟨e1,rfl,rfl⟩|⟨e1,_,_⟩)
  ·cases e1;exact Qaa (Qhf (Qae (.inr (.inl ⟨rfl,rfl,rfl⟩))))
  ·cases e1;refine Qaa (wpAny_pyHash_tuple (knd:=Yz prog w) (ks:=k.2) (s:={s with toks:=s.toks+1}) (by exact D) q (Qae (.inr (.inr ⟨rfl,rfl,rfl⟩))))
  ·cases e1
 ·rintro b s' (⟨e1,_,_⟩|⟨e1,_,_⟩|⟨_,rfl,rfl⟩)
  ·cases e1
  ·cases e1
  ·refine Qaa (Qgf (Qae ⟨_,_,rfl,?_⟩));have C:s.toks+1+(k.2.length+1)+1=s.toks+(k.2.length+3):=by lia
   rw[C];exact h
theorem _root_.PySem.IsTupleKey.any{ks:Ak}(k:IsTupleKey (Yz prog w) h ks a)(q:Aq)(C:Au):IsTupleKey (Yz q C) h ks a:=by
 obtain⟨o,items,n,e,c,d,it⟩:=k;have D:∀{ks:Ak} {vs:Ag},ItemsAre (Yz prog w) ks vs->ItemsAre (Yz q C) ks vs:=by
  intro ks vs hh
  induction hh with
  |nil=>exact .nil
  |cons h1 _ F=>exact .cons h1 F
 exact⟨o,items,n,e,c,d,D it⟩
def IsPair.eqBool{A:Ar}{E:Ab}{s:As}{x y:Int×Ak}{a b:Aw}{Q:Bool->Shared->Prop}(Z:A.units+1<cLine)(p:IsPair prog w s.heap x a)(q:IsPair prog w s.heap y b)
  (h:Q (decide (x=y)) s):A3 prog w A (PySem.eqBool (.ref a) (.ref b)) Q E s:=by
 by_cases F:a=b
 ·subst F;have:=p.inj q;rw[Qan this]at h;exact Qhk (.ref a) prog w E Q h
 ·obtain⟨o,n,t,tk,e,c,d,L⟩:=p;obtain⟨o',J,t',D,O,Y,d',I⟩:=q;have it:∀j (h1:j<(#[Value.int x.1 tk,.ref t]).size) (h2:j<(#[Value.int y.1 D,.ref t']).size),SeqAt.EqAt A.in1 s (#[Value.int x.1 tk,.ref t])[j] (#[Value.int y.1 D,.ref t'])[j] (if j=0 then x.1 == y.1 else decide (x.2=y.2)):=by
   intro j h1 h2
   match j,h1,h2 with
   |0,_,_=>exact SeqAt.EqAt.int_int x.1 tk y.1 D
   |1,_,_=>exact fun C G E' Q' h'=>wpAny_eqBool_tuple (knd:=Yz C G) (by exact Z) (L.any C G) (I.any C G) h'
  have r:=SeqAt.RcAt.tuples (A:=A) (s:=s) (e:=fun j=>if j=0 then x.1 == y.1 else decide (x.2=y.2)) ⟨o,e,c,n,d⟩ ⟨o',O,Y,J,d'⟩ (by lia) it;have M:((List.range (min (#[Value.int x.1 tk,.ref t]).size (#[Value.int y.1 D,.ref t']).size)).all (fun j=>if j=0 then x.1 == y.1 else decide (x.2=y.2))&&(#[Value.int x.1 tk,.ref t]).size == (#[Value.int y.1 D,.ref t']).size)=decide (x=y):=by
   show((x.1 == y.1)&&(decide (x.2=y.2)&&true)&&true)=decide (x=y)
   by_cases h1:x.1=y.1
   ·grind
   ·grind
  rw[M]at r;exact SeqAt.EqAt.of_refs F r prog w E Q h
theorem uc{A:Ar}{E:Ab}{ks:Ak}{Q:Bool->Shared->Prop}(m:Nat)(k:IsTupleKey (Yz prog w) s.heap ks a)(h:Q true s):A3 prog w A (eqIsQuiet (m+1) (.ref a)) Q E s:=by
 obtain⟨o,items,n,e,c,d,it⟩:=k;rw[eqIsQuiet.eq_2];have C:s.TypeIs (.ref a) "tuple" :=⟨o,e,c⟩;refine Qaa (Qea C F.slot_tuple_eq.lookup ?_);refine Qaa (Qdh (T:= "tuple") (b:=true) C (by kernel_rfl) ?_);refine Qaa (Qci e d ?_);refine Qaa (Qgq _ (fun rest b s'=>(∀v∈rest,carriedByValue v=true)/\b=(none,())/\s'=s) _ ?_ ?_ _ _ ⟨fun v q=>?_,rfl,rfl⟩)
 ·rintro x rest b s' ⟨q,rfl,rfl⟩;refine Qaa ?_;rw[eqIsQuiet_byValue m (q x Qai)];exact Qae (Qae ⟨fun v I=>q v (Qal _ I),rfl,rfl⟩)
 ·rintro b s' ⟨_,rfl,rfl⟩;exact Qae h
 ·have D:∀{ks:Ak} {vs:Ag},ItemsAre (Yz prog w) ks vs->∀v∈vs,carriedByValue v=true:=by
   intro ks vs hh
   induction hh with
   |nil=>exact fun v q=>nomatch q
   |cons h1 _ G=>
    intro v q;rcases Qao.mp q with rfl|q
    ·exact(Yz prog w).byValue _ _ h1
    ·exact G v q
  exact D it v q
def IsPair.quiet{A:Ar}{E:Ab}{k:Int×Ak}{Q:Bool->Shared->Prop}(p:IsPair prog w s.heap k a)(h:Q true s):A3 prog w A (eqIsQuiet 8 (.ref a)) Q E s:=by
 obtain⟨o,n,t,tk,e,c,d,C⟩:=p;rw[eqIsQuiet.eq_2];have q:s.TypeIs (.ref a) "tuple" :=⟨o,e,c⟩;refine Qaa (Qea q F.slot_tuple_eq.lookup ?_);refine Qaa (Qdh (T:= "tuple") (b:=true) q (by kernel_rfl) ?_);refine Qaa (Qci e d ?_);refine Qaa (Qgq _ (fun rest b s'=>(rest=[.int k.1 tk,.ref t]\/rest=[.ref t]\/rest=[])/\b=(none,())/\s'=s) _ ?_ ?_ _ _ ⟨.inl rfl,rfl,rfl⟩)
 ·rintro x rest b s' ⟨D,rfl,rfl⟩;rcases D with e1|e1|e1
  ·cases e1;refine Qaa ?_;exact Qae (Qae ⟨.inr (.inl rfl),rfl,rfl⟩)
  ·cases e1;exact Qaa (uc 6 C (Qae ⟨.inr (.inr rfl),rfl,rfl⟩))
  ·cases e1
 ·rintro b s' ⟨_,rfl,rfl⟩;exact Qae h
end
def Ze3(prog:Aq)(w:Au):HeapKind prog w (Int×Ak)where
 is:=IsPair prog w
 hash:=wz prog w
 draws:=fun k=>k.2.length+3
 room:=fun A=>A.units+1<cLine
 inj:=fun p q=>p.inj q
 keeps:=fun p e D s=>p.keeps e D s
 pyHash:=fun C p h=>p.pyHash C h
 eqBool:=fun C p q h=>p.eqBool C q h
 quiet:=fun p h=>p.quiet h
section
variable {prog:Aq}{w:Au}{K:Type}[DecidableEq K]
theorem Ze4{xs:List (K×Aw×Av)}{k:K}{j:Nat}{p:Aw×Av}(q:(xs.map (·.1)).Nodup)(h:xs[j]?=some (k,p)):atKey xs k=some p:=by
 unfold atKey
 induction xs generalizing j with
 |nil=>cases h
 |cons x r C=>
  rw[Qbx,Qb8]at q;rw[Qdp];cases j with
  |zero=>
   cases h;rw[Qan rfl];rfl
  |succ j=>
   have D:k∈r.map (·.1):=Qav.mpr ⟨_,Qas h,rfl⟩;rw[Qap fun z=>q.1 (by rw[z];exact D)];exact C q.2 h
def ud{xs:List (K×Aw×Av)}{k:K}(h:∀(j:Nat) (p:Aw×Av),xs[j]?≠some (k,p)):atKey xs k=none:=by
 unfold atKey;rw[Option.map_eq_none_iff,List.find?_eq_none];intro x q z;obtain⟨j,C⟩:=Qe8 q;refine h j x.2 ?_;rw[C,<-Qbh z]
def JU(knd:HeapKind prog w K)(d a:Aw)(hd:(d == sysModules)=false)(dflt:Av):
  MeetsIn prog w (Builtin.«dict.setdefault» ⟨[.ref d,.ref a,dflt],[]⟩) fun A R s=>knd.room A.in1/\∃k xs,knd.is s.heap k a/\Heap.DictOfH knd s.heap d xs/\xs.length<=sizeLine /\
   (∀p,atKey xs k=some p->R (.ok (.ret p.2)) {s with toks:=s.toks+knd.draws k}) /\
   (atKey xs k=none->∀h',Heap.DictOfH knd h' d (xs++[(k,a,dflt)])->Heap.SameBut d s.heap h'->R (.ok (.ret dflt)) {s with heap:=h',toks:=s.toks+knd.draws k}):=by
 intro A R s ⟨hr,k,xs,hk,dd,J,h1,h2⟩;obtain⟨o,es,ep,e,ex,D,C,F,G⟩:=id dd;refine Qaa ?_;refine Qaa (wpAny_notOrdered_dict dd.typeIs ?_);refine Qaa (Qcj (a:=()) rfl ?_);refine Qaa (Qcj (a:=(Value.ref d,[Value.ref a,dflt])) rfl ?_);refine Qaa (Qcj (a:=d) rfl (Qae ?_));try dsimp only
 rw[hd,Qax (by decide)];refine Qaa ?_;refine Qb9 (Qaa (knd.pyHash hr hk ?_));refine Qaa (wpAny_dictFind_heap (s:={s with toks:=s.toks+knd.draws k}) hr hk e D C F G (fun I=>?_) (fun j p L=>?_))
 ·refine Qaa (Qdg (Qaa (wpAny_updateDictKeys (s:={s with toks:=s.toks+knd.draws k}) e D (Qae (Qae ?_)) ?_ ?_)))
  ·refine h2 (ud I) _ ?_ (Qb5 ..);obtain⟨oc,od,odt,osl⟩:=o;obtain⟨x1,x2,x3⟩:=ex;subst D;have Z:Heap.SameBut d s.heap (s.heap.update d (Obj.mapDictKeys fun x=>x.push {hash:=knd.hash k,key:=.ref a,val:=dflt})):=Qb5 ..;refine⟨_,_,_,Qbs _ e rfl,⟨x1,x2,x3⟩,rfl,?_,fun x Y=>?_,?_⟩
   ·rw[Qg4,C,Qay];rfl
   ·rcases Qbd.mp Y with z|z
    ·exact knd.keeps (F x z) e rfl Z
    ·rw[Qar.mp z];exact knd.keeps hk e rfl Z
   ·rw[Qay,Qec];refine⟨G,Qb8.mpr ⟨Qa8,Qck⟩,fun y hy z J q=>?_⟩;rw[Qbx,List.map_nil,Qar]at J;rw[q,J]at hy;obtain⟨x,Y,ex⟩:=Qav.mp hy;obtain⟨j,L⟩:=Qe8 Y;have O:x.1=k:=ex;exact I j x.2 (by rw[L,<-O])
  ·rw[<-Qbk,C,Qab];exact J
  ·grind
 ·refine Qaa (wpAny_dictEntries (s:={s with toks:=s.toks+knd.draws k}) e D ?_);have M:es[j]?=some (entryOfKey knd (k,p)):=by
   rw[<-Qdq,C,Qah,L];rfl
  rw[M];exact Qaa (Qdg (Qae (Qae (h1 p (Ze4 G L)))))
end
def Zi4{prog:Aq}{A:Ar}{E:Ab}{d:Aw}{o:Obj}{es:Array DictEntry}{ep:Nat}(G:(d == sysModules)=false)(e:s.heap.get? d=some o)(ex:o.ExactDict)(q:o.data=.dict es ep)(D:es.size<=sizeLine)
  (h:Q (.int (es.size:Int) (s.toks+1)) {s with toks:=s.toks+1+1}):A3 prog w A (call (.builtin "len") [.ref d]) Q E s:=by
 have C:s.TypeIs (.ref d) "dict" :=⟨o,e,ex.1⟩;have hz2:=D;rw[Qhd]at hz2;refine call_len_slot C F.slot_dict_len (n:=(es.size:Int)) (fun I h'=>?_) (by lia) (by lia) h;refine Qbf F.slot_dict_len C F.entry_dict_len ?_ (F.args_dict_len_1 _);refine Qaa ?_;refine Qaa (wpAny_notOrdered_dict C (Qaa (Qcj (a:=(Value.ref d,[])) rfl (Qae ?_))));refine Qaa (Qcj (a:=d) rfl ?_);refine Qaa ?_;refine Qaa (wpAny_dictEntries e q (Qae ?_));refine Qaa ?_;unfold Builtin.Dict.pendingCount;rw[G,Qax (by decide)];refine Qae (Qaa (Qgf (Qae ⟨_,rfl,?_⟩)));exact h'
structure KN(Kk:Type)[DecidableEq Kk]where
 knd:∀(P:Aq) (w:Au),HeapKind P w Kk
 hsh:Kk->Int
 at_:Hp->Kk->Addr->Prop
 hash_eq:∀P w k,(knd P w).hash k=hsh k
 ok:∀(P:Aq) (w:Au) (H:Hp) (h:Heap) (k:Kk) (a:Aw),HOk P w H h->at_ H k a->(knd P w).is h k a
 room:∀(P:Aq) (w:Au) (A:Ar),A.units+2<cLine->(knd P w).room A.in1
 room0:∀(P:Aq) (w:Au) (A:Ar),A.units+2<cLine->(knd P w).room A
 keep:∀(H H':Hp) (k:Kk) (a:Aw),(∀b xs,H b=some (.tup xs)->H' b=some (.tup xs))->at_ H k a->at_ H' k a
section
variable {Kk:Type}[DecidableEq Kk](kn:KN Kk)
def entN(x:Kk×Aw×Av):DictEntry:={hash:=kn.hsh x.1,key:=.ref x.2.1,val:=x.2.2}
def Zi5(d:Aw)(xs:List (Kk×Aw×Av))(h:Heap):Prop:=(d == sysModules)=false/\∃o es ep,h.get? d=some o/\o.ExactDict/\o.data=.dict es ep/\es.toList=xs.map (entN kn)
def JM(H:Hp)(d:Aw)(kvs:List (Kk×V)):Prop:=(kvs.map (·.1)).Nodup/\kvs.length<sizeLine /\
 ((kvs=[]/\H d=some (.dK []))\/∃xs,H d=some (.ext (Zi5 kn d xs))/\Paired (fun(p:Kk×V) (q:Kk×Aw×Av)=>p.1=q.1/\kn.at_ H q.1 q.2.1/\RelV p.2 q.2.2) kvs xs)
variable {kn}
def Zgt(xs:List (Kk×Aw×Av)):xs.map (entryOfKey (kn.knd P w))=xs.map (entN kn):=by
 refine Qbo fun x _=>?_;show DictEntry.mk _ _ _=DictEntry.mk _ _ _;rw[kn.hash_eq]
def Zi6{d:Aw}{xs:List (Kk×Aw×Av)}(x:Zi5 kn d xs h):Y2 P w H h d (.ext (Zi5 kn d xs)):=by
 obtain⟨I,o,es,ep,e,r⟩:=id x;refine⟨x,⟨o,e⟩,fun h1 h2 y k=>?_⟩;obtain⟨C,o',D,q,G,F⟩:=y;exact⟨C,o',D,q,k _ G,F⟩
theorem JM.dict{X:Cx}{d:Aw}{kvs:List (Kk×V)}(n:JM kn H d kvs)(I:Inv X g c H s):
  ∃xs,Heap.DictOfH (kn.knd X.prog X.w) s.heap d xs/\Paired (fun(p:Kk×V) (q:Kk×Aw×Av)=>p.1=q.1/\kn.at_ H q.1 q.2.1/\RelV p.2 q.2.2) kvs xs/\Mut (H d)/\(d == sysModules)=false:=by
 obtain⟨O,Z,h|h⟩:=n
 ·obtain⟨rfl,e⟩:=h;obtain⟨z,M,vs,L,dd⟩:=Zih I.hok e;cases L;obtain⟨o,es,ep,e1,ex,e2,_,C,_⟩:=dd;have F:es.toList=[]:=by
   generalize es.toList=l at C;cases C;rfl
  exact⟨[],⟨o,es,ep,e1,ex,e2,F,(fun x D=>nomatch D),Qck⟩,.nil,by rw[e];exact True.intro,M⟩
 ·obtain⟨xs,e,C⟩:=h;obtain⟨⟨Y,o,es,ep,e1,ex,e2,F⟩,_,_⟩:=(show Y2 X.prog X.w H s.heap d (.ext (Zi5 kn d xs))from I.hok d _ e);refine⟨xs,⟨o,es,ep,e1,ex,e2,by rw[F,Zgt],fun x D=>?_,?_⟩,C,by rw[e];exact True.intro,Y⟩
  ·have G:∀{l:List (Kk×V)} {m:List (Kk×Aw×Av)},Paired (fun(p:Kk×V) (q:Kk×Aw×Av)=>p.1=q.1/\kn.at_ H q.1 q.2.1/\RelV p.2 q.2.2) l m->∀x∈m,kn.at_ H x.1 x.2.1:=by
    intro l m C
    induction C with
    |nil=>exact fun x D=>nomatch D
    |cons h _ J=>
     intro x D;rcases Qao.mp D with rfl|D
     ·exact h.2.1
     ·exact J x D
   exact kn.ok _ _ _ _ _ _ I.hok (G C x D)
  ·have G:∀{l:List (Kk×V)} {m:List (Kk×Aw×Av)},Paired (fun(p:Kk×V) (q:Kk×Aw×Av)=>p.1=q.1/\kn.at_ H q.1 q.2.1/\RelV p.2 q.2.2) l m->m.map (·.1)=l.map (·.1):=by
    intro l m C
    induction C with
    |nil=>rfl
    |cons h _ J=>rw[Qbx,Qbx,J,h.1]
   rw[G C];exact O
theorem W7{P:Kk×V->Kk×Aw×Av->Prop}(I:∀p q,P p q->p.1=q.1):∀{l:List (Kk×V)} {m:List (Kk×Aw×Av)},Paired P l m->∀k,(∀v,Yj l k=some v->∃q,atKey m k=some q/\∃p,P p (k,q)/\p.2=v)/\(Yj l k=none->atKey m k=none)
 |[],[],_,k=>⟨fun v h=>(by cases h),fun _=>rfl⟩
 |p::l,q::m,.cons h t,k=>by
  have J:=W7 I t k;have e:=I p q h
  by_cases C:p.1=k
  ·have F:q.1=k:=e.symm.trans C;have a1:atKey (q::m) k=some q.2:=by
    unfold atKey;rw[Qdp,Qan F];rfl
   have G:Yj (p::l) k=some p.2:=Yk C;refine⟨fun v D=>?_,fun D=>?_⟩
   ·grind
   ·rw[G]at D;cases D
  ·have F:¬q.1=k:=fun z=>C (e.trans z)
   have a1:atKey (q::m) k=atKey m k:=by
    unfold atKey;rw[Qdp,Qap F]
   have G:Yj (p::l) k=Yj l k:=Yf C;rw[a1,G];exact J
def Zi7{X:Cx}{d:Aw}{kvs:List (Kk×V)}{A:Ar}{E:Ab}(I:Inv X g c H s)(n:JM kn H d kvs)(h:∀t s',Inv X g c H s'->Q (.int (kvs.length:Int) t) s'):
  A3 X.prog X.w A (call (.builtin "len") [.ref d]) Q E s:=by
 obtain⟨xs,⟨o,es,ep,e1,ex,e2,q,_,_⟩,D,_,F⟩:=n.dict I;have C:es.size=kvs.length:=by rw[<-Qbk,q,Qab];exact(Qfk D).symm
 refine Zi4 F e1 ex e2 (by rw[C];exact Qa0 n.2.1) ?_;rw[C];exact h _ _ (I.tok _)
theorem jm{X:Cx}{d:Aw}{k:Kk}{v:V}{u:Av}{kvs:List (Kk×V)}{xs:List (Kk×Aw×Av)}{h':Heap}{tk:Nat}(I:Inv X g c H s)(n:JM kn H d kvs)(Z:kn.at_ H k a)(rv:RelV v u)(C:kvs.length+1<sizeLine)
  (G:Paired (fun(p:Kk×V) (q:Kk×Aw×Av)=>p.1=q.1/\kn.at_ H q.1 q.2.1/\RelV p.2 q.2.2) kvs xs) (F:Mut (H d)) (hm:(d == sysModules)=false) (Y:Yj kvs k=none) (dd':Heap.DictOfH (kn.knd X.prog X.w) h' d (xs++[(k,a,u)])) (sb:Heap.SameBut d s.heap h'):
  ∃H',JM kn H' d (kvs++[(k,v)])/\(∀b o,H b=some o->b≠d->H' b=some o)/\(∃o,H'=upd H d o)/\Inv X g c H' {s with heap:=h',toks:=tk}:=by
 obtain⟨o,es,ep,e1,ex,e2,D,_,_⟩:=dd';have df:Zi5 kn d (xs++[(k,a,u)]) h':=⟨hm,o,es,ep,e1,ex,e2,by rw[D,Zgt]⟩;have L:∀b ys,H b=some (.tup ys)->upd H d (.ext (Zi5 kn d (xs++[(k,a,u)]))) b=some (.tup ys):=fun b ys e=>by
  rw[Zk fun z=>by rw[<-z,e]at F;exact F];exact e
 refine⟨_,⟨?_,?_,.inr ⟨_,Za,?_⟩⟩,fun b o e hb=>by rw[Zk hb];exact e,⟨_,rfl⟩,jd I F sb ⟨o,e1⟩ (Zi6 df)⟩
 ·rw[Qay,Qec];refine⟨n.1,Qb8.mpr ⟨Qa8,Qck⟩,fun y M z C q=>?_⟩;rw[Qbx,List.map_nil,Qar]at C;rw[q,C]at M;obtain⟨x,hx,ex⟩:=Qav.mp M;have J:x.1=k:=ex;have:=GR n.1 x hx;rw[J,Y]at this;cases this
 ·rw[Qaj];exact C
 ·have O:∀{l:List (Kk×V)} {m:List (Kk×Aw×Av)},Paired (fun(p:Kk×V) (q:Kk×Aw×Av)=>p.1=q.1/\kn.at_ H q.1 q.2.1/\RelV p.2 q.2.2) l m->Paired (fun(p:Kk×V) (q:Kk×Aw×Av)=>p.1=q.1/\kn.at_ (upd H d (.ext (Zi5 kn d (xs++[(k,a,u)])))) q.1 q.2.1/\RelV p.2 q.2.2) (l++[(k,v)]) (m++[(k,a,u)]):=by
   intro l m G
   induction G with
   |nil=>exact .cons ⟨rfl,kn.keep _ _ _ _ L Z,rv⟩ .nil
   |cons h _ ih=>exact .cons ⟨h.1,kn.keep _ _ _ _ L h.2.1,h.2.2⟩ ih
  exact O G
def xF{X:Cx}{d:Aw}{k:Kk}{v:V}{u:Av}{kvs:List (Kk×V)}{A:Ar}{E:Ab}(I:Inv X g c H s)(n:JM kn H d kvs)(Y:kn.at_ H k a)(hu:A.units+2<cLine)(rv:RelV v u)(hz:kvs.length+1<sizeLine)
  (h1:∀x,Yj kvs k=some x->∀Z s',RelV x Z->Inv X g c H s'->Q Z s')
  (h2:Yj kvs k=none->∀H' s',JM kn H' d (kvs++[(k,v)])->(∀b o,H b=some o->b≠d->H' b=some o)->(∃o,H'=upd H d o)->Inv X g c H' s'->Q u s'):
  A3 X.prog X.w A (call (.builtin "dict.setdefault") [.ref d,.ref a,u]) Q E s:=by
 obtain⟨xs,dd,L,mu,hm⟩:=n.dict I;have G:=W7 (fun p q h=>h.1) L k;refine call_meetsIn F.slot_dict_setdefault dd.typeIs F.entry_dict_setdefault (F.args_dict_setdefault_3 _ _ _) (JU (kn.knd X.prog X.w) d a hm u) ⟨kn.room _ _ _ hu,k,xs,kn.ok _ _ _ _ _ _ I.hok Y,dd,?_,?_,?_⟩
 ·rw[<-Qfk L];exact Qa0 n.2.1
 ·intro p J;cases C:Yj kvs k with
  |none=>rw[G.2 C]at J;cases J
  |some x=>
   obtain⟨q,D,p',O,e⟩:=G.1 x C;rw[J]at D;cases D;exact h1 x C p.2 _ (e ▸ O.2.2) (I.tok _)
 ·intro M h' dd' sb;have C:Yj kvs k=none:=by
   cases C:Yj kvs k with
   |none=>rfl
   |some x=>
    obtain⟨q,D,_⟩:=G.1 x C;rw[M]at D;cases D
  obtain⟨H',n',k',o',I'⟩:=jm I n Y rv hz L mu hm C dd' sb;exact h2 C H' _ n' k' o' I'
end
def vB:V->Option Int
 |.int i=>some i
 |.bl b=>some (b2i b)
 |_=>none
theorem w9{P:Aq}{w:Au}:∀{vs:A2} {q:Ag} {ks:Ak},Vals vs q->vs.map vB=ks.map some->ItemsAre (Yz P w) ks q
 |[],_,[],r,_=>by cases r;exact .nil
 |v::vs,_,k::ks,.cons h t,e=>by
  injection e with e1 e2;refine .cons ?_ (w9 t e2);cases v with
  |int i=>
   obtain⟨t,rfl⟩:=h;cases e1;exact Qcu _
  |bl b=>
   cases(show _=Value.bool b from h);cases e1;exact Qcu _
  |_=>cases e1
def wA(H:Hp)(ks:Ak)(a:Aw):Prop:=∃vs,H a=some (.tup vs)/\vs.map vB=ks.map some
def wA.is{ks:Ak}(ok:HOk P w H h)(b:wA H ks a):IsTupleKey (Yz P w) h ks a:=by
 obtain⟨vs,e,D⟩:=b;obtain⟨_,q,r,o,h1,h2,⟨n,C⟩,_⟩:=(show Y2 P w H h a (.tup vs)from ok a _ e);exact⟨o,q.toArray,n,h1,h2,C,by simpa using w9 r D⟩
def knT:KN (Ak)where
 knd:=fun P w=>tupleKind (Yz P w)
 hsh:=fun ks=>reduceHash (Builtin.Tuple.tupleHashOf (ks.map hashInt))
 at_:=wA
 hash_eq:=fun P w k=>rfl
 ok:=fun P w H h k a ok b=>b.is ok
 room:=fun P w A D=>by show A.units+1<cLine;lia
 room0:=fun P w A D=>by show A.units<cLine;lia
 keep:=fun H H' k a C ⟨vs,e,q⟩=>⟨vs,C _ _ e,q⟩
def Zbn(H:Hp)(k:Int×Ak)(a:Aw):Prop:=∃t,H a=some (.tup [.int k.1,.ref t])/\wA H k.2 t
def knP:KN (Int×Ak)where
 knd:=Ze3
 hsh:=fun k=>reduceHash (Builtin.Tuple.tupleHashOf [hashInt k.1,reduceHash (Builtin.Tuple.tupleHashOf (k.2.map hashInt))])
 at_:=Zbn
 hash_eq:=fun P w k=>rfl
 ok:=fun P w H h k a ok ⟨t,e,b⟩=>by
  obtain⟨_,I,r,o,h1,h2,⟨n,D⟩,_⟩:=(show Y2 P w H h a (.tup [.int k.1,.ref t])from ok a _ e);cases r with
  |cons J q=>
  cases q with
  |cons q G=>
  cases G;obtain⟨tk,rfl⟩:=J;cases(show _=Value.ref t from q);exact⟨o,n,t,tk,h1,h2,D,b.is ok⟩
 room:=fun P w A L=>by show A.units+1+1<cLine;lia
 room0:=fun P w A L=>by show A.units+1<cLine;lia
 keep:=fun H H' k a C ⟨t,e,vs,e2,F⟩=>⟨t,C _ _ e,vs,C _ _ e2,F⟩
section
def Zlx:A2->Hp->VK->Prop:=fun xs H Q=>∃(Kk:Type) (_:DecidableEq Kk) (kn:KN Kk) (d:Aw) (kvs:List (Kk×V)),xs=[V.ref d]/\JM kn H d kvs/\Q (.int kvs.length) H
def Zbo:YA X (.builtin "len") Zlx:=by
 intro pins s σ H xs F Q I r h;obtain⟨Kk,_,kn,d,kvs,rfl,n,q⟩:=h;obtain⟨u,rfl,D⟩:=vals1 r;cases D;exact Zi7 I n fun t s' C=>⟨.int kvs.length,H,C,⟨t,rfl⟩,q⟩
def Zly:V->List V->Hp->VK->Prop:=fun x vs H Q=>∃(Kk:Type) (_:DecidableEq Kk) (kn:KN Kk) (d a:Aw) (k:Kk) (v:V) (kvs:List (Kk×V)),x=.ref d/\vs=[.ref a,v]/\JM kn H d kvs/\kn.at_ H k a/\kvs.length+1<sizeLine /\
 (∀y,Yj kvs k=some y->Q y H)/\(Yj kvs k=none->∀H',JM kn H' d (kvs++[(k,v)])->(∀b o,H b=some o->b≠d->H' b=some o)->(∃o,H'=upd H d o)->Q v H')
def Zi8 (hu:X.A.units+2<cLine):MtM X "dict.setdefault" Zly:=by
 intro pins s σ H x vs v us Q I O M h;obtain⟨Kk,_,kn,d,a,k,y,kvs,rfl,rfl,n,J,C,h1,h2⟩:=h;cases O;cases M with
 |cons Z q=>
 cases q with
 |cons q F=>
 cases F;cases(show _=Value.ref a from Z);exact xF I n J hu q C (fun z C u' s' ru D=>⟨z,H,D,ru,h1 z C⟩) fun Y H' s' G o' L D=>⟨y,H',D,q,h2 Y H' G o' L⟩
def tyN(x:V)(H:Hp):Prop:=∃(Kk:Type) (_:DecidableEq Kk) (kn:KN Kk) (d:Aw) (kvs:List (Kk×V)),x=.ref d/\JM kn H d kvs
def tyN_is     {x:V}  (I:Inv X g c H s) (r:RelV x v) (ty:tyN x H):s.TypeIs v "dict" /\ ∀a,v=.ref a->∃ob,s.heap.get? a=some ob/\ob.dict=none:=by
 obtain⟨Kk,_,kn,d,kvs,rfl,n⟩:=ty;cases r;obtain⟨xs,⟨o,es,ep,e,ex,_⟩,_,_,_⟩:=n.dict I;refine⟨⟨o,e,ex.1⟩,fun a q=>?_⟩;cases q;exact⟨o,e,ex.2.1⟩
def tBMN(to:TE)(t:TA):TE:=fun σ H Q=>to σ H fun x H1=>tyN x H1/\t σ H1 fun xs H2=>Zly x xs H2 Q
variable {o e:Ax}{es:An}{to:TE}{t:TA}{name:Str}{apos cpos:Pos}
def Zi9 (hu:X.A.units+2<cLine) (ho:QE X o to) (ha:QA X (e::es) t) (C:attributeBase o "setdefault" X.env (eval o X.env)=eval o X.env:=by rfl) (q:(apos.endLine == cpos.line)=true:=by rfl) (J:(e::es).all ZV=true:=by rfl) (hl:(e::es).length<30:=by decide):
  QE X (.Call (.Attribute o "setdefault" apos) (e::es) [] cpos) (tBMN to t):=by
 refine⟨fun pins s σ H Q I h=>?_⟩;have D:=J;rw[Qc3,Qb4]at D;have G:((backTo cpos (starEach (e::es) X.env)).all (fun x=>!x.1)&&(backToKw cpos (keywordEach [] X.env)).all (fun x=>x.1.isSome)&&decide ((e::es).length+([]:List Keyword).length+(if([]:List Keyword).isEmpty then 0 else 1)<30))=true:=by
  rw[all_plain J];exact Qan hl
 refine Qfu C G q rfl (thn (ho.out pins s σ H _ I h) fun v s1 ⟨x,H1,L,M,ty,q1⟩=>?_);obtain⟨h1,h2⟩:=tyN_is L M ty;refine⟨"dict","dict.setdefault",F.plainAttrs_dict,F.slot_dict_setdefault,F.type_dict_setdefault,h1,h2,?_⟩;have O:=ha.out cpos pins s1 σ H1 _ L q1;have hs:starEach (e::es) X.env=(false,eval e X.env)::starEach es X.env:=Zu D.1;rw[hs]at O ⊢;refine Qd0 (by grind) (Qe7 ?_);exact thn O fun us s2 ⟨vs,H2,I2,Y,Z⟩=>Zi8 hu pins s2 σ H2 x vs v us Q I2 M Y Z
end
def rMaxL(K:Af):A2->Hp->VK->Prop:=fun xs H Q=>∃(p:Aw) (ns:Ak),xs=[.ref p]/\SqL K H p (ns.map V.int)/\ns≠[]/\∀m∈ns,(∀n∈ns,n<=m)->Q (.int m) H
def y4 (Z:X.calm=true):YA X (.builtin "max") (rMaxL X.K):=by
 intro pins s σ H xs us Q I r h;obtain⟨p,ns,rfl,hq,hne,q⟩:=h;obtain⟨u,rfl,rx⟩:=vals1 r;cases rx;obtain⟨C,r',pl,hz⟩:=I.list hq;have hi:IntsAre C ns:=intsAre_of r';obtain⟨xs,Y⟩:=hi.allInts.items;have F:s.heap.IsList p (intItems xs):=Y ▸ pl.isList;have e1:ns=xs.toList.map (·.1):=by
  rw[<-nums_intItems,<-Y];exact(show numsOf C.toArray.toList=ns from hi.numsOf).symm
 have hsz:0<xs.size:=by
  grind
 refine max_intList (I.ok.hd Z) F hsz fun v h' tk G hk=>?_;have O:=argBest_gt (numAt xs) (xs.size-1);generalize argBest (fun i j=>decide (numAt xs i>numAt xs j)) (xs.size-1)=b at G O;have L:b<xs.size:=by lia
 have at_:∀j (D:j<xs.size),numAt xs j=xs[j].1/\(intItems xs)[j]?=some (.int xs[j].1 xs[j].2):=by
  intro j D;exact⟨by simp[numAt,D],by simp[intItems,D]⟩
 obtain⟨n1,n2⟩:=at_ b L;rw[n2]at G;cases G;refine⟨.int xs[b].1,H,I.kept hk,⟨_,rfl⟩,q _ ?_ fun n M=>?_⟩
 ·grind
 ·rw[e1]at M;obtain⟨y,hy,rfl⟩:=Qav.mp M;obtain⟨j,D⟩:=Qe8 hy;have J:j<xs.size:=by
   grind
  have:=O.2 j (by lia);rw[(at_ j J).1,n1]at this;have ej:xs[j]=y:=by
   grind
  rw[ej]at this;exact this
def rRngV:A2->Hp->VK->Prop:=fun xs H Q=>∃j:Int,xs=[.int j]/\∀p,H p=none->Q (.ref p) (upd H p (.rng 0 j))
def vR:YA X (.type "range") rRngV:=by
 intro pins s σ H xs D Q I r h;obtain⟨j,rfl,q⟩:=h;obtain⟨u,rfl,C⟩:=vals1 r;obtain⟨t,rfl⟩:=C;refine call_range_1 ⟨.ref s.heap.objs.size,_,I.laid (fun b u e=>Qad _ e) (Qak _) ?_,rfl,q _ I.fresh⟩;exact⟨_,_,_,Qam _ rfl⟩
def Zja:A2->Hp->VK->Prop:=fun xs H Q=>∃(p:Aw) (n:Nat),xs=[.ref p]/\H p=some (.rng 0 (n:Int))/\n<=1000000/\∀l,H l=none->Q (.ref l) (upd H l (.lst ((List.range n).map fun i:Nat=>V.int (i:Int))))
theorem vS (O:X.calm=true):YA X (.type "list") Zja:=by
 intro pins s σ H xs D Q I r h;obtain⟨p,n,rfl,e,hn,q⟩:=h;obtain⟨u,rfl,ru⟩:=vals1 r;cases ru;obtain⟨t,u,v,Y⟩:=(show Y2 X.prog X.w H s.heap p (.rng 0 (n:Int))from I.hok p _ e);have hsz:Builtin.Range.rangeSize 0 (n:Int) 1=(n:Int):=by
  unfold Builtin.Range.rangeSize;split
  ·lia
  ·lia
 have C:∀z:Int,0<=z->z<=1000000->Builtin.Range.rangeFitsLong z=true:=fun z h1 h2=>by
  unfold Builtin.Range.rangeFitsLong;simp only[Qb4,Qg7];lia
 have J:Builtin.Range.small 0 (n:Int) 1=true:=by
  unfold Builtin.Range.small;rw[hsz,C 0 (by decide) (by decide),C n (by lia) (by lia),C 1 (by decide) (by decide),Qa3 (by decide),show(n:Int)+(1-1)=n by lia,C n (by lia) (by lia)];simp
 refine call_list_range (I.ok.hd O) Y J hsz (by lia) fun h' tk acc c' Z F it=>?_;refine⟨.ref s.heap.objs.size,_,I.laid Z (Qak _) ?_,rfl,q _ I.fresh⟩;have G:acc.toList.length=n:=by exact it.1
 refine⟨by rw[Qab,Qbb,Qhd];lia,acc.toList,c',?_,by simpa using F⟩;have M:∀(m:Nat) (D:Ag) (k:Nat),D.length=m->(∀j v,D[j]?=some v->∃t,v=Value.int ((k+j:Nat):Int) t)->Vals ((List.range' k m).map fun i:Nat=>V.int (i:Int)) D:=by
  intro m
  induction m with
  |zero=>
   intro D k F _;rw[Qcp F];exact .nil
  |succ m ih=>
   intro D k F hh;cases D with
   |nil=>cases F
   |cons u D=>
    refine .cons ?_ (ih D (k+1) (by simpa using F) fun j v L=>?_)
    ·obtain⟨t,e⟩:=hh 0 u rfl;exact⟨t,e⟩
    ·obtain⟨t,e⟩:=hh (j+1) v (by simpa using L);exact⟨t,by grind⟩
 rw[List.range_eq_range'];refine M n acc.toList 0 G fun j v L=>?_;obtain⟨t,e⟩:=it.2 j v (by rw[<-Qdq];exact L);exact⟨t,by grind⟩
end L2
namespace L2
def y6{A:PySem.Around}{k:Nat}(q:Wu k A):A.units+2<PySem.cLine:=Qes (Nat.add_le_add_left (by decide:2<=64) _) q.units
def Zjb(D:Aq)(w:Au)(K:Af)(mg:Ae)(base:Heap)(k:Nat)(sp:Sp)(P:Aw)(lpos:Pos)(qual:Str)(ta tb:TE)(n:Nat)(is:Aj)(te:TE):TE:=fun σ H Q=>ta σ H fun z C=>tb σ C fun x H1=>Yo H1 P lpos qual /\
 ∀(cs:List Aw) (f:Aw) (H2:Hp),(∀c∈cs,H1 c=none)->(∀c∈cs,∃o,H2 c=some (X5 o))->H1 f=none->(∀q,Z9 H2 q->Yo (hide cs q) P lpos qual)->(∀b o,H1 b=some o->b≠P->H2 b=some o)->
  YZ D w K mg base k f H2 (Zlu n te cs (is.map fun i=>(σ[i]?).getD none))->sp [z,x,.ref f] H2 (fun v q=>Q v (hide cs q)) E0
section
variable {X:Cx}{params:Arguments}{body a:Ax}{scope:Scope}{lpos p pos:Pos}{c P g:Aw}{qual x:Str}{k kl:Nat}{gd:Ao}{pg ps ys:Ai}{is:Aj}{sp:Sp}{ta te:TE}{b:Ax}{tb:TE}
def Zbp(F:Y6 X.prog X.w X.K X.mg X.base CX0 k g gd pg sp)(hr:Wu k X.A)(hg:Gl X x)(hm:X.mg x=some (.ref g))(hk:PySem.W.keepIn X.K (.ref g)=true)(hb:Binds X.K gd pg [])(hfn:X.fn=fun _=>true)
  (ha:QE X a ta) (hb2:QE X b tb) (Z:X.env.code=.ref c) (C:PySem.W.CodeHd X.base c P) (B:jk X.mg X.base) (hdef:defaultsOf params X.env=([],[])) (hq:X.env.qual ++ "<lambda>" = qual)
  {S0:Scope} {N0:Ai} (hX:X.env.scope=S0) (hXN:X.N=N0) (LL:Zlv S0 scope N0 ps ys is)
  (hbind:∀(cl:List (Str×Aw)) (pm cv G:Av) (us:Ag),us.length=ps.length->bindArgs (PySem.W.kla_fn "<lambda>" qual params body scope cl pm cv G) ⟨us,[]⟩=pure (ps.zip us))
  (Y:∀(f L:Aw) (cl:List (Str×Aw)) (A:Ar) (outer:List Env) (s:As) (H1:Hp),Wu kl (A.deeper (PySem.W.envX qual scope s.heap.objs.size f (.ref L) cl))->QE (cxL X.prog X.w X.K X.mg X.base (ps++ys) qual scope f (.ref L) cl A outer s H1) body te)
  (hdb:(x == ("__debug__" : Str))=false:=by decide) (he:starEach [a,b,.Lambda params body scope lpos] X.env=(false,eval a X.env)::starEach [b,.Lambda params body scope lpos] X.env:=by rfl) (he2:starEach [b,.Lambda params body scope lpos] X.env=(false,eval b X.env)::starEach [.Lambda params body scope lpos] X.env:=by rfl)
  (hs2:starEach [.Lambda params body scope lpos] X.env=(false,eval (.Lambda params body scope lpos) X.env)::starEach [] X.env:=by rfl) (hpl:(backTo pos (starEach [b,.Lambda params body scope lpos] X.env)).any (·.1)=false:=by rfl):
  QE X (.Call (.Name x p) [a,b,.Lambda params body scope lpos] [] pos) (Zjb X.prog X.w X.K X.mg X.base (kl+1) sp P lpos qual ta tb ps.length is te):=by
 have S:=LL.sc;have D:∀y∈scope.names,y.2=.free->X.env.scope.names.lookup y.1=some .cell:=fun y hy h=>by rw[hX];exact LL.free y hy h
 have hN:∀q∈ys.zip is,X.N[q.2]?=some q.1:=fun q hq=>by rw[hXN];exact LL.vis q hq
 have M:=LL.len;refine⟨?_⟩;intro pins s σ H Q I hw;refine Qdd (zT I hg hm ?_ hdb);have hlam:=Zbi (X:=X) (lpos:=lpos) (params:=params) (body:=body) (scope:=scope) Z C B hdef hq D;refine Qgl (h₀:=X.base) I.ok.mod.kin hk ?_ he hpl;rw[he];refine Qcy (thn (ha.out pins s σ H _ I hw) fun u s0 ⟨x00,H0,I0,r0,hw0⟩=>?_);rw[he2];refine Qcy (thn (hb2.out pins s0 σ H0 _ I0 hw0) fun u1 s1 ⟨x0,H1,I1,r1,hT,q1⟩=>?_);rw[hs2];refine Qcy (thn (hlam pins s1 σ H1 (fun v H2=>∃(f L:Aw) (oc:Obj) (G:Av),v=.ref f/\H1 f=none/\H2 f=some (X5 (zy X qual params body scope L G))/\H2 L=some (X5 oc)/\zx oc qual/\Yo H2 P lpos qual/\∀b o,H1 b=some o->b≠P->H2 b=some o) I1 ⟨hT,fun f L oc G H2 a1 a2 a3 a4 a5 a6=>⟨f,L,oc,G,rfl,a1,a2,a3,a4,a5,a6⟩⟩) fun u2 s2 ⟨y,H2,O,r2,f,L,oc,G,hy,f1,f2,f3,f4,f5,f6⟩=>?_);subst hy;cases r2;refine Qd8 ⟨O.kIn,?_⟩;have hcl:∀y d,(qt X.env.cells scope.names []).lookup y=some d->X.env.cells.lookup y=some d:=
  Ju (fun y hy h=>O.ok.has y.1 (.inl (D y hy h))) fun _ _ z=>by cases z
 have J:=GS O;have hcs:=jl O;refine qA F hr hb hfn O (show Vals [x00,x0,V.ref f] [u,u1,Value.ref f]from .cons r0 (.cons r1 (.cons rfl .nil))) (q1 (cellsOf X.env.cells) f (ub X s2 H2) (XR I1) (fun d m=>let⟨o,_,e,_⟩:=hcs d m;⟨o,e⟩) f1 (fun H4 s4=>Ziz O f5 s4) (fun b o e hbP=>J _ _ (f6 b o e hbP)) ?_);exact y1 (ys:=ys) S (J _ _ f2) (J _ _ f3) f4 (fun y d h=>YS.mpr ⟨y,hcl y d h⟩) (fun d m=>let⟨o,v,e,hd,_⟩:=hcs d m;⟨o,v,e,hd⟩) (fun y z d h1 h2=>O.ok.inj y z d (hcl y d h1) (hcl z d h2)) (fun y h=>WS h) (by rw[Qab,M])
  (y3 (N0:=N0) O D S.free hN M) (fun us hl=>hbind _ _ _ _ us hl) fun A outer s H1 hr=>(Y f L _ A outer s H1 hr).out
end
def Zlz(K:Af)(i:Nat):TI:=fun σ H R=>∃a,σ[i]?=some (some (.ref a))/\(((∃xs,SqL K H a xs)/\R (Itl K a) H)\/((∃xs,SqT K H a xs)/\R (Itt K a) H))
theorem Zjc{X:Cx}{l:Ax}(q:QE X l (jX i)):QI X o l (Zlz X.K i):=⟨fun pins s σ H R I h=>by
 obtain⟨a,e,h|h⟩:=h
 ·exact(Xq q).out pins s σ H R I ⟨_,e,a,rfl,h.1,h.2⟩
 ·exact(Xr q).out pins s σ H R I ⟨_,e,a,rfl,h.1,h.2⟩⟩
section
variable {κ:Type}[DecidableEq κ]
def Y5(l:List κ)(k:κ):List κ:=if k∈l then l else l++[k]
def Z1(ks:List κ):List κ:=ks.foldl Y5 []
def z6(ks:List κ)(k:κ):Z1 (ks++[k])=Y5 (Z1 ks) k:=by
 unfold Z1;rw[Qc8];rfl
def XS{l:List κ}(h:l.Nodup)(k:κ):(Y5 l k).Nodup:=by
 unfold Y5;split
 ·exact h
 ·grind
theorem Xu(ks:List κ):(Z1 ks).Nodup:=by
 have:∀(ks l:List κ),l.Nodup->(ks.foldl Y5 l).Nodup:=by
  intro ks
  induction ks with
  |nil=>exact fun l h=>h
  |cons k r q=>exact fun l h=>q _ (XS h k)
 exact this ks [] Qck
def X6{l:List κ}{k x:κ}:x∈Y5 l k↔x∈l\/x=k:=by
 unfold Y5;split
 ·grind
 ·rw[Qbd,Qar]
theorem Yg(ks:List κ)(x:κ):x∈Z1 ks↔x∈ks:=by
 have:∀(ks l:List κ),x∈ks.foldl Y5 l↔x∈l\/x∈ks:=by
  intro ks
  induction ks with
  |nil=>intro l;simp
  |cons k r q=>
   intro l;rw[Qc1,q,X6,Qao,or_assoc]
 rw[show Z1 ks=ks.foldl Y5 []from rfl,this];simp
def GU(l:List κ)(k:κ):(Y5 l k).length<=l.length+1:=by
 unfold Y5;split
 ·lia
 ·grind
theorem wB(ks:List κ):(Z1 ks).length<=ks.length:=by
 have:∀(ks l:List κ),(ks.foldl Y5 l).length<=l.length+ks.length:=by
  intro ks
  induction ks with
  |nil=>exact fun l=>Qak _
  |cons k r q=>
   intro l;have h1:=q (Y5 l k);have h2:=GU l k;rw[Qc1,Qba];lia
 have h:=this ks [];rw[Qev,Qfg]at h;exact h
def jn(l:List κ)(k:κ):∃r,Y5 l k=l++r:=by
 unfold Y5;split
 ·exact⟨[],(Qby _).symm⟩
 ·exact⟨[k],rfl⟩
theorem WU(ks:List κ):∀l:List κ,∃r,ks.foldl Y5 l=l++r:=by
 induction ks with
 |nil=>exact fun l=>⟨[],(Qby _).symm⟩
 |cons k r q=>
  intro l;obtain⟨a,ha⟩:=jn l k;obtain⟨b,C⟩:=q (Y5 l k);exact⟨a++b,by grind⟩
def z7(ks:List κ)(i:Nat):∃r,Z1 ks=Z1 (ks.take i)++r:=by
 have e:Z1 ks=(ks.drop i).foldl Y5 (Z1 (ks.take i)):=by
  unfold Z1;rw[<-Qc8,Qc9]
 rw[e];exact WU _ _
def JV{l r:List κ}{k:κ}(h:k∈l):(l++r).idxOf k=l.idxOf k:=by grind
theorem idx_map{α β:Type}[DecidableEq α][DecidableEq β](f:α->β)(q:∀a b,f a=f b->a=b)(s:α):∀l:List α,(l.map f).idxOf (f s)=l.idxOf s
 |[]=>rfl
 |x::r=>by
  rw[Qbx,Qfr,Qfr,idx_map f q s r]
  by_cases h:x=s
  ·grind
  ·grind
def Xv(l:List κ):List (κ×V):=l.zipIdx.map fun p=>(p.1,V.int (p.2:Int))
def JW(l:List κ):(Xv l).map (·.1)=l:=by
 unfold Xv;rw[Qaw];exact List.zipIdx_map_fst 0 l
def W8(l:List κ):(Xv l).length=l.length:=by
 unfold Xv;rw[Qab,List.length_zipIdx]
def JX(l:List κ)(k:κ):Xv (l++[k])=Xv l++[(k,V.int (l.length:Int))]:=by
 unfold Xv;rw[List.zipIdx_append,Qay];simp
def W9:∀(l:List κ) (k:κ),k∈l->l.Nodup->Yj (Xv l) k=some (V.int (l.idxOf k:Int)):=by
 intro l k C q;have hi:=Qbi C;have D:(k,V.int (l.idxOf k:Int))∈Xv l:=by
  refine Qav.mpr ⟨(k,l.idxOf k),?_,rfl⟩;rw[List.mem_zipIdx_iff_getElem?];simp[hi,Qac]
 have:=GR (kvs:=Xv l) (by rw[JW];exact q) _ D;exact this
def JY(l:List κ)(k:κ)(q:k∉l):Yj (Xv l) k=none:=by
 unfold Yj;rw[Option.map_eq_none_iff,List.find?_eq_none];intro x C z;have:x.1∈(Xv l).map (·.1):=Qb6 C;rw[JW,Qbh z]at this;exact q this
end
end L2
namespace L2
section
variable {κ β:Type}[DecidableEq κ][DecidableEq β]
def XX(ks:List κ):Aj:=ks.map fun k=>(Z1 ks).idxOf k
def wC(ks:List κ):(XX ks).length=ks.length:=Qab ..
def GV(ks:List κ)(i:Nat):(XX ks)[i]?=(ks[i]?).map fun k=>(Z1 ks).idxOf k:=Qah ..
def vT{l:List κ}{a b:κ}(ha:a∈l)(h:l.idxOf a=l.idxOf b)(q:b∈l):a=b:=by
 have h1:=List.getElem_idxOf (Qbi ha);have h2:=List.getElem_idxOf (Qbi q);rw[<-h1,<-h2];simp only[h]
def jo{ks:List κ}{j:Nat}{a b:κ}(ha:ks[i]?=some a)(q:ks[j]?=some b):(XX ks)[i]?=(XX ks)[j]?↔a=b:=by
 rw[GV,GV,ha,q];constructor
 ·intro h;exact vT ((Yg ks a).mpr (Qas ha)) (Option.some.inj h) ((Yg ks b).mpr (Qas q))
 ·intro h;rw[h]
def wD(f:κ->β)(l:List κ)(k:κ)(h:∀a∈l,f a=f k->a=k):Y5 (l.map f) (f k)=(Y5 l k).map f:=by
 unfold Y5
 by_cases q:k∈l
 ·grind
 ·grind
theorem jq(f:κ->β)(ks:List κ)(h:∀a∈ks,∀b∈ks,f a=f b->a=b):Z1 (ks.map f)=(Z1 ks).map f:=by
 have C:∀(ks l:List κ),(∀a,a∈l\/a∈ks->∀b,b∈l\/b∈ks->f a=f b->a=b)->(ks.map f).foldl Y5 (l.map f)=(ks.foldl Y5 l).map f:=by
  intro ks
  induction ks with
  |nil=>exact fun l _=>rfl
  |cons k r D=>
   intro l hh;rw[Qbx,Qc1,Qc1,wD f l k fun a ha e=>hh a (.inl ha) k (.inr Qai) e];refine D _ fun a ha b q=>hh a ?_ b ?_
   ·rcases ha with ha|ha
    ·rcases X6.mp ha with z|z
     ·exact .inl z
     ·exact .inr (z ▸ Qai)
    ·exact .inr (Qal _ ha)
   ·rcases q with ha|ha
    ·rcases X6.mp ha with z|z
     ·exact .inl z
     ·exact .inr (z ▸ Qai)
    ·exact .inr (Qal _ ha)
 exact C ks [] fun a ha b q=>h a (ha.resolve_left Qa8) b (q.resolve_left Qa8)
theorem Zbq(f:κ->β)(s:κ):∀l:List κ,(∀a∈l,f a=f s->a=s)->(l.map f).idxOf (f s)=l.idxOf s
 |[],_=>rfl
 |x::r,h=>by
  rw[Qbx,Qfr,Qfr,Zbq f s r fun a ha=>h a (Qal _ ha)]
  by_cases e:x=s
  ·grind
  ·grind
def jr(f:κ->β)(ks:List κ)(h:∀a∈ks,∀b∈ks,f a=f b->a=b):XX (ks.map f)=XX ks:=by
 unfold XX;rw[Qaw,jq f ks h];refine Qbo fun k q=>?_;exact Zbq f k _ fun a ha e=>h a ((Yg ks a).mp ha) k q e
def Zbr(ks:List κ):∀a∈ks,∀b∈ks,(Z1 ks).idxOf a=(Z1 ks).idxOf b->a=b:=fun a ha b q e=>vT ((Yg ks a).mpr ha) e ((Yg ks b).mpr q)
def qB(ks:List κ):XX (XX ks)=XX ks:=jr (fun k=>(Z1 ks).idxOf k) ks (Zbr ks)
def Zbs(ks:List κ):(Z1 (XX ks)).length=(Z1 ks).length:=by
 unfold XX;rw[jq _ ks (Zbr ks),Qab]
theorem XT:∀{l1 l2:List κ},l1.Nodup->(∀x∈l1,x∈l2)->l1.length<=l2.length
 |[],_,_,_=>Qbl _
 |a::r,l2,h1,hs=>by
  rw[Qb8]at h1;have ha:=hs a Qai;have:=XT (l1:=r) (l2:=l2.erase a) h1.2 fun x q=>(Qf8 (show x≠a from fun z=>h1.1 (z ▸ q))).mpr (hs x (Qal _ q));rw[Qfh ha]at this;have C:=Qeq ha;rw[Qba];lia
theorem wF:∀{l1 l2:List κ},l1.Nodup->(∀x∈l1,x∈l2)->l2.length<=l1.length->l2.Nodup
 |[],l2,_,_,F=>by
  grind
 |a::r,l2,h1,hs,F=>by
  rw[Qb8]at h1;have ha:=hs a Qai;have q:∀x∈r,x∈l2.erase a:=fun x C=>(Qf8 (show x≠a from fun z=>h1.1 (z ▸ C))).mpr (hs x (Qal _ C));have J:=Qfh ha;rw[Qba]at F;have I:=wF h1.2 q (by lia);have D:a∉l2.erase a:=fun z=>by
   have:=XT (l1:=r) (l2:=(l2.erase a).erase a) h1.2 fun x C=>(Qf8 (show x≠a from fun z=>h1.1 (z ▸ C))).mpr (q x C);rw[Qfh z]at this;have G:=Qeq z;lia
  exact(List.perm_cons_erase ha).nodup_iff.mpr (Qb8.mpr ⟨D,I⟩)
def y7(f:κ->β)(ks:List κ)(h:(Z1 ks).length<=(Z1 (ks.map f)).length):∀a∈ks,∀b∈ks,f a=f b->a=b:=by
 have C:((Z1 ks).map f).Nodup:=wF (Xu (ks.map f)) (fun x D=>by
  obtain⟨k,G,e⟩:=Qav.mp ((Yg _ x).mp D);exact Qav.mpr ⟨k,(Yg ks k).mpr G,e⟩) (by rw[Qab];exact h)
 intro a ha b q e;have I:=Qbi ((Yg ks a).mpr ha);have L:=Qbi ((Yg ks b).mpr q);have J:((Z1 ks).map f)[(Z1 ks).idxOf a]?=some (f a):=by
  grind
 have F:((Z1 ks).map f)[(Z1 ks).idxOf b]?=some (f b):=by
  grind
 have:=(List.getElem?_inj (i:=(Z1 ks).idxOf a) (j:=(Z1 ks).idxOf b) (by rw[Qab];exact I) C).mp (by rw[J,F,e]);exact vT ((Yg ks a).mpr ha) this ((Yg ks b).mpr q)
def Zjd{ks:List κ}{m:Nat}(h:m∈XX ks):m<(Z1 ks).length:=by
 obtain⟨k,q,rfl⟩:=Qav.mp h;exact Qbi ((Yg ks k).mpr q)
def Ze5{ks:List κ}{m:Nat}(h:m∈XX ks)(D:∀n∈XX ks,n<=m):m+1=(Z1 ks).length:=by
 have h1:=Zjd h;have q:(Z1 ks).length-1<(Z1 ks).length:=by lia
 have C:(Z1 ks)[(Z1 ks).length-1]∈ks:=(Yg ks _).mp (Qbu q);have hi:(Z1 ks).idxOf (Z1 ks)[(Z1 ks).length-1]=(Z1 ks).length-1:=List.Nodup.idxOf_getElem (Xu ks) _ q;have:=D _ (Qav.mpr ⟨_,C,rfl⟩);lia
end
def ue{b1 b2:Bool}{xs ys:A2}{is:Aj}{σ:St}{Q:VK}(q:Nat->List V->Hp->Prop)(Z:q 0 [] H)(J:∀i zs H,q i zs H->zs.length<=sizeLine)(L:∀i zs H,q i zs H->SqB K b1 H a xs/\SqB K b2 H f ys)
  (hs:∀i x y p zs H (R:A2->Hp->Prop),(∀zs H,q (i+1) zs H->R zs H)->xs[i]?=some x->ys[i]?=some y->q i zs H->H p=none->G (Zi2 is σ (some x) (some y)) (upd H p (.tup [x,y])) fun b H2=>if b=true then u (Zi2 is σ (some x) (some y)) H2 fun y H3=>R (zs++[y]) H3 else R zs H2)
  (M:∀zs H,q (xs.zip ys).length zs H->∀p,H p=none->Q (.ref p) (upd H p (.lst zs))):
  Zbm K is G u σ Q (Itz K b1 b2 a f) H:=by
 refine⟨fun i m zs H=>m=(xs.zip ys).length-i/\i<=(xs.zip ys).length/\q i zs H,⟨(xs.zip ys).length,by simp,Qbl _,Z⟩,?_⟩;rintro i m zs H ⟨rfl,hi,p⟩;obtain⟨F,C⟩:=L i zs H p;have hz:(xs.zip ys).length=min xs.length ys.length:=Qet
 by_cases D:i<(xs.zip ys).length
 ·have l1:i<xs.length:=by lia
  have l2:i<ys.length:=by lia
  refine .inr ⟨⟨xs,ys,xs[i],ys[i],F,C,Qac l1,Qac l2⟩,J i zs H p,fun x H' y=>?_⟩;obtain⟨c,Y,rfl,e⟩:=y;rw[e xs ys _ _ F C (Qac l1) (Qac l2)];exact⟨c,_,_,rfl,SqT.of Za,hs i _ _ c zs H (fun zs H=>∃I,I<(xs.zip ys).length-i/\(fun i m zs H=>m=(xs.zip ys).length-i/\i<=(xs.zip ys).length/\q i zs H) (i+1) I zs H) (fun zs H O=>⟨(xs.zip ys).length-(i+1),by lia,rfl,D,O⟩) (Qac l1) (Qac l2) p Y⟩
 ·have e:i=(xs.zip ys).length:=by lia
  subst e;exact .inl ⟨⟨xs,ys,F,C,by lia⟩,J _ zs H p,M zs H p⟩
def EqD(H:Hp):Nat->V->V->Prop
 |0,x,y=>YM x=true/\x=y
 |n+1,x,y=>(YM x=true/\x=y)\/∃a c xs ys,x=.ref a/\y=.ref c/\H a=some (.tup xs)/\H c=some (.tup ys)/\xs.length=ys.length/\∀(j:Nat) (u v:V),xs[j]?=some u->ys[j]?=some v->EqD H n u v
theorem Zgu{X:Cx}{pins:Ac}{σ:St}{H:Hp}{s:As}(I:Inv X pins σ H s):∀(n:Nat) (A:Ar) (x y:V) (v u:Av),RelV x v->RelV y u->EqD H n x y->A.units+n<cLine->SeqAt.EqAt A s v u true
 |0,A,x,y,v,u,G,J,h,hu=>by
  obtain⟨f,rfl⟩:=h;have z:=kW (A:=A) (s:=s) G J f f;rw[wq f]at z;exact z
 |n+1,A,x,y,v,u,G,J,h,hu=>by
  rcases h with⟨f,rfl⟩|⟨a,c,xs,ys,rfl,rfl,ha,hc,hl,he⟩
  ·have z:=kW (A:=A) (s:=s) G J f f;rw[wq f]at z;exact z
  ·cases G;cases J
   by_cases F:a=c
   ·subst F;exact Qhk _
   obtain⟨M,r,p,_⟩:=I.tuple (SqT.of ha);obtain⟨C,Y,p2,_⟩:=I.tuple (SqT.of hc);refine SeqAt.EqAt.of_refs F ?_;have q:=SeqAt.RcAt.tuples (A:=A) (e:=fun _=>true) p p2 (by lia) fun j h1 h2=>?_
   ·rw[all_true,Qat,Qat,<-r.length,<-Y.length,hl,Qcu]at q;exact q
   ·have Z:j<xs.length:=by rw[r.length];simpa using h1
    have D:j<ys.length:=by rw[Y.length];simpa using h2
    obtain⟨u,e1,q1⟩:=r.get (Qac Z);obtain⟨u2,e2,q2⟩:=Y.get (Qac D);have L:M.toArray[j]=u:=by
     grind
    have O:C.toArray[j]=u2:=by
     grind
    rw[L,O];exact Zgu I n A.in1 _ _ _ _ q1 q2 (he j _ _ (Qac Z) (Qac D)) (by lia)
def y8{k:Nat}{A:Ar}(r:Wu k A):A.units+4<cLine:=by have:=r.un;lia
def rEqD:R2:=fun x y H Q=>∃a c xs ys,x=.ref a/\y=.ref c/\H a=some (.tup xs)/\H c=some (.tup ys)/\xs.length=ys.length/\(∀(j:Nat) (u v:V),xs[j]?=some u->ys[j]?=some v->EqD H 3 u v)/\Q (.bl true) H
def Zgv(hu:X.A.units+4<cLine):OpR X (compareOp .Eq) rEqD:=by
 intro pins s σ H x y v u Q I rx ry h;obtain⟨a,c,xs,ys,rfl,rfl,ha,O,hl,he,q⟩:=h;cases rx;cases ry;obtain⟨G,r,p,_⟩:=I.tuple (SqT.of ha);obtain⟨C,L,p2,_⟩:=I.tuple (SqT.of O);refine SeqAt.eq_tupleAt (e:=fun _=>true) p p2 (by lia) (fun j h1 h2=>?_) (ZH I q ?_)
 ·have M:j<xs.length:=by rw[r.length];simpa using h1
  have D:j<ys.length:=by rw[L.length];simpa using h2
  obtain⟨u,e1,q1⟩:=r.get (Qac M);obtain⟨Y,e2,Z⟩:=L.get (Qac D);have F:G.toArray[j]=u:=by
   grind
  have J:C.toArray[j]=Y:=by
   grind
  rw[F,J];exact Zgu I 3 _ _ _ _ _ q1 Z (he j _ _ (Qac M) (Qac D)) (by lia)
 ·rw[all_true,Qat,Qat,<-r.length,<-L.length,hl,Qcu];rfl
def Ze6[DecidableEq d]{kn:KN d}{kvs:List (d×V)}{xs:List (d×Aw×Av)}(D:Paired (fun(p:d×V) (q:d×Aw×Av)=>p.1=q.1/\kn.at_ H q.1 q.2.1/\RelV p.2 q.2.2) kvs xs)(k:d):(atKey xs k).isSome=(Yj kvs k).isSome:=by
 have C:=W7 (fun p q h=>h.1) D k;cases hv:Yj kvs k with
 |none=>rw[C.2 hv];rfl
 |some x=>
  obtain⟨q,F,_⟩:=C.1 x hv;rw[F];rfl
def rNInN:R2:=fun x y H Q=>∃(Kk:Type) (_:DecidableEq Kk) (kn:KN Kk) (d a:Aw) (k:Kk) (kvs:List (Kk×V)),x=.ref a/\y=.ref d/\JM kn H d kvs/\kn.at_ H k a/\Q (.bl (!(Yj kvs k).isSome)) H
def Zbt(L:X.A.units+2<cLine):OpR X (compareOp .NotIn) rNInN:=by
 intro pins s σ H x y v u Q I C F h;obtain⟨Kk,_,kn,d,a,k,kvs,rfl,rfl,n,D,q⟩:=h;cases C;cases F;obtain⟨xs,dd,G,M,J⟩:=n.dict I;refine wpAny_notIn_heap (kn.room _ _ _ L) (kn.ok _ _ _ _ _ _ I.hok D) J dd ?_;rw[Ze6 G];exact⟨.bl _,H,I.tok _,rfl,q⟩
def tNGet(td ty:TE):TE:=fun σ H Q=>td σ H fun x H1=>ty σ H1 fun y H2=>∃(Kk:Type) (_:DecidableEq Kk) (kn:KN Kk) (d a:Aw) (k:Kk) (kvs:List (Kk×V)) (v:V),x=.ref d/\y=.ref a/\JM kn H2 d kvs/\kn.at_ H2 k a/\Yj kvs k=some v/\Q v H2
theorem Zje{i:Ax}{ty:TE}(hu:X.A.units+2<cLine)(ho:QE X o I)(hi:QE X i ty)(hs:Zmo i):QE X (.Subscript o i m) (tNGet I ty):=⟨by
 intro pins s σ H Q C h;refine Za9 PySem.F.slot_dict_getitem.lookup hs (thn (ho.out pins s σ H _ C h) fun u s1 ⟨x,H1,I1,Z,q1⟩=>thn (hi.out pins s1 σ H1 _ I1 q1) fun L s2 ⟨y,H2,G,ry,Kk,_,kn,d,a,k,kvs,v,ex,ey,n,M,J,Y⟩=>?_);subst ex;subst ey;obtain rfl:u=Value.ref d:=Z;obtain rfl:L=Value.ref a:=ry;obtain⟨xs,dd,O,mu,hm⟩:=n.dict G;obtain⟨q,hq,p',D,e⟩:=(W7 (fun p q h=>h.1) O k).1 v J;refine⟨dd.typeIs,wpAny_getItem_heap (kn.room _ _ _ hu) (kn.ok _ _ _ _ _ _ G.hok M) dd hq ⟨v,H2,G.tok _,e ▸ D.2.2,Y⟩⟩⟩
def sNPut(td ty tv:TE):TS:=fun D σ H=>tv σ H fun v H1=>td σ H1 fun x H2=>ty σ H2 fun y q=>∃(Kk:Type) (_:DecidableEq Kk) (kn:KN Kk) (d a:Aw) (k:Kk) (kvs:List (Kk×V)),x=.ref d/\y=.ref a/\JM kn q d kvs/\kn.at_ q k a/\Yj kvs k=none/\kvs.length+1<sizeLine /\
 ∀H',JM kn H' d (kvs++[(k,v)])->(∀b o,q b=some o->b≠d->H' b=some o)->(∃o,H'=upd q d o)->D.nx σ H'
theorem Zjf{i:Ax}{ty tv:TE}{pos':Pos}(hu:X.A.units+2<cLine)(ho:QE X o I)(hi:QE X i ty)(F:QE X e tv)(hs:swapsWith e (some (.Subscript o i pos')) m.line X.env=pure false):QS X (.Assign [.Subscript o i pos'] e m) (sNPut I ty tv):=⟨by
 intro pins s σ H D C h;refine wpAny_Assign_Subscript (thn (F.out pins s σ H _ C h) fun r s1 ⟨v,H1,I1,rv,q1⟩=>thn (ho.out pins s1 σ H1 _ I1 q1) fun u s2 ⟨x,H2,Y,rx,q2⟩=>thn (hi.out pins s2 σ H2 _ Y q2) fun iv s3 ⟨y,H3,L,ry,Kk,_,kn,d,a,k,kvs,ex,ey,n,M,F,O,q3⟩=>?_) hs;subst ex;subst ey;obtain rfl:u=Value.ref d:=rx;obtain rfl:iv=Value.ref a:=ry;obtain⟨xs,dd,G,mu,hm⟩:=n.dict L;have J:atKey xs k=none:=(W7 (fun p q h=>h.1) G k).2 F;refine wpAny_setItem_heap (kn.room _ _ _ hu) (kn.ok _ _ _ _ _ _ L.hok M) dd (fun h' dd' sb=>?_) (by rw[<-Qfk G];lia);rw[storedH_new J]at dd';obtain⟨H',Z,k',o',I'⟩:=jm L n M rv O G mu hm F dd' sb;exact⟨σ,H',I',q3 H' Z k' o'⟩⟩
theorem Yh:∀(names:List (Str×NameKind)) (n:Nat) (acc:List (Str×Aw)),cellsFrom n names acc=cellsFrom n names []++acc
 |[],_,_=>rfl
 |(x,k)::r,n,acc=>by
  unfold cellsFrom;split
  ·rw[Yh r (n+1) ((x,n)::acc),Yh r (n+1) [(x,n)],Qcg];rfl
  ·exact Yh r n acc
theorem JZ:∀(names:List (Str×NameKind)) (n:Nat) {x:Str} {c:Aw},(x,c)∈cellsFrom n names []->(x,NameKind.cell)∈names
 |[],_,_,_,h=>nomatch h
 |(y,k)::r,n,x,c,h=>by
  unfold cellsFrom at h;split at h
  ·rename_i q;rw[Yh]at h;rcases Qbd.mp h with h|h
   ·exact Qal _ (JZ r (n+1) h)
   ·grind
  ·exact Qal _ (JZ r n h)
theorem WV:∀{l r:List (Str×d)},(l++r).lookup x=match l.lookup x with|some c=>some c|none=>r.lookup x
 |[],r=>rfl
 |(y,c)::l,r=>by
  grind
section
variable {M:Model}{A:Ar}{E:Ab}{s:As}
def Zjg{scope:Scope}{globals:Aw}{q:List (Str×Aw)}{binds:List (Str×Av)}{qual:Str}{func:Option Aw}{code:Av}{builtins:Aw}{Q:Env->Shared->Prop}
  (hk:scope.kind=.function) (hl:∀x∈binds,scope.names.lookup x.1=some .local)
  (hQ:∀h' tk,h'.Ns s.heap.objs.size (fun x=>binds.reverse.lookup x)->(∀b o,s.heap.get? b=some o->h'.get? b=some o)->(∀n c,(n,c)∈cellsFrom (s.heap.objs.size+1) scope.names []->h'.IsCell c none/\s.heap.objs.size<c)->
   ((cellsFrom (s.heap.objs.size+1) scope.names []).Pairwise fun x y=>x.2≠y.2)->Q (newEnv scope s.heap.objs.size globals (cellsFrom (s.heap.objs.size+1) scope.names q) qual func code none builtins) {s with heap:=h',toks:=tk}):
  wpAny M A (newFunctionEnv scope globals q binds qual func code none builtins) Q E s:=by
 simp only[newFunctionEnv,Option.isSome_none,Qcl,if_false];refine Qaa (wpAny_alloc ?_);refine Qaa (wpAny_layCells _ (fun name kind cells=>by grind) _ _ _ _ ?_);have ok:=cellsFrom_ok scope.names (s.heap.push {cls:=.type "frame",data:=.dict #[]}) (s.heap.objs.size+1) [] ⟨fun _ _ Y=>(nomatch Y),List.Pairwise.nil⟩ (by rw[Qb2];exact Qak _);rw[Qb2]at ok;rw[show({s with heap:=s.heap.push {cls:=.type "frame",data:=.dict #[]}}:As).heap.objs.size=s.heap.objs.size+1 from Qb2 ..];refine Qaa (wpAny_forIn_list _
  (fun rest _ s'=>∃C h',binds=C++rest/\s'={s with heap:=h',toks:=s.toks+C.length}/\h'.Ns s.heap.objs.size (fun x=>C.reverse.lookup x) /\
   Heap.SameBut s.heap.objs.size (pushCells (s.heap.push {cls:=.type "frame",data:=.dict #[]}) scope.names) h') _ ?_ ?_ binds _
  ⟨[],_,rfl,rfl,(Heap.Ns.new s.heap (.type "frame")).keeps (pushCells_keeps _ _),Heap.SameBut.refl ..⟩)
 ·rintro⟨name,v⟩ rest _ s' ⟨C,h',J,rfl,F,D⟩;have O:Env.kindOf {scope,locals:=s.heap.objs.size,globals,cells:=cellsFrom (s.heap.objs.size+1) scope.names q,qual,func,code,frame:=some s.heap.objs.size,builtins} name=some .local:=hl (name,v) (by rw[J];simp);have hp:((scope.kind == .class)||((scope.kind == .module)&&(s.heap.objs.size != globals)))=false:=by rw[hk];rfl
  simp only[storeName_local O hp];refine Qaa (wpAny_nsSet F fun L I G=>Qae ⟨C++[(name,v)],L,by simp[J],?_,?_,D.trans G⟩)
  ·simp[Qfs]
  ·rw[lookup_reverse_snoc];exact I
 ·rintro _ s' ⟨C,h',J,rfl,F,D⟩;rw[Qby]at J;subst J;refine Qae (hQ h' _ F (fun b o e=>?_) (fun n c Y=>?_) ok.apart)
  ·exact D.extBut b o (Qbg (Qaq e)) (pushCells_keeps _ _ b o (Qad _ e))
  ·obtain⟨q1,Z⟩:=ok.empty n c Y;exact⟨q1.sameBut D (Qef Z),Z⟩
end
structure Zjh(scope:Scope)(ps ls ys:Ai):Prop where
 kind:scope.kind=.function
 co:scope.isCoroutine=false
 gen:scope.isGenerator=false
 par:∀p∈ps,scope.names.lookup p=some .local
 free:∀y∈ys,scope.names.lookup y=some .free
 nd:(ps++(ls++ys)).Nodup
 ndn:(scope.names.map (·.1)).Nodup
def cxN(P:Aq)(w:Au)(K:Af)(mg:Ae)(base:Heap)(N:Ai)(qual:Str)(scope:Scope)(f:Aw)(q:Av)(cl:List (Str×Aw))(A:Ar)(outer:List Env)(s:As)(H:Hp):Cx where
 prog:=P
 w:=w
 K:=K
 mg:=mg
 base:=base
 A:=A.deeper (PySem.W.envX qual scope s.heap.objs.size f q (cellsFrom (s.heap.objs.size+1) scope.names cl))
 N:=N
 s₀:=s
 H₀:=H
 env:=PySem.W.envX qual scope s.heap.objs.size f q (cellsFrom (s.heap.objs.size+1) scope.names cl)
 outer:=outer
 stack:=PySem.W.envX qual scope s.heap.objs.size f q (cellsFrom (s.heap.objs.size+1) scope.names cl)::outer
 ex:=[]
 calm:=true
 fn:=fun x=>scope.names.lookup x == some .cell
 pn:=[]
 xe:=fun _ _=>False
def Zgw(n m:Nat)(ts:TS)(cs:List Aw)(q:List (Option V)):Sp:=fun vs H Q _=>vs.length=n/\ts {nx:=fun _ H'=>(∀c∈cs,H' c=none)->Q .non (XQ cs H H'),rt:=fun v H'=>(∀c∈cs,H' c=none)->Q v (XQ cs H H')} (vs.map some++(List.replicate m none++q)) (hide cs H)
section
variable {P:Aq}{w:Au}{K:Af}{mg:Ae}{base:Heap}
theorem js{k:Nat}{name qual:Str}{params:Arguments}{body:List Ay}{scope:Scope}{cl:List (Str×Aw)}{doc pm ctv:Av}{ps ls ys:Ai}{cv:List (Option V)}
  (S:Zjh scope ps ls ys) (hf:H f=some (X5 (PySem.W.fnMade name qual params body scope cl doc pm U ctv))) (hc:H U=some (X5 Z)) (hoc:zx Z qual)
  (hcl:∀x c,cl.lookup x=some c->c∈M) (hcs:∀c∈M,∃o v,H c=some (X5 o)/\o.data=.cell v)
  (inj:∀x y c,cl.lookup x=some c->cl.lookup y=some c->x=y) (has:∀x,scope.names.lookup x=some .free->∃c,cl.lookup x=some c)
  (hcv:cv.length=ys.length) (hval:∀(i:Nat) (y:Str) (v:V),ys[i]?=some y->cv[i]?=some (some v)->∃c o u,cl.lookup y=some c/\H c=some (X5 o)/\o.data=.cell (some u)/\RelV v u)
  (hb:∀us:Ag,us.length=ps.length->bindArgs (PySem.W.fnX name qual params body scope cl .none .none doc pm none (.ref U) ctv) ⟨us,[]⟩=pure (ps.zip us))
  (hbody:∀(A:Ar) (outer:List Env) (s:As) (H1:Hp),Wu k (A.deeper (PySem.W.envX qual scope s.heap.objs.size f (.ref U) (cellsFrom (s.heap.objs.size+1) scope.names cl)))->PSs (cxN P w K mg base (ps++(ls++ys)) qual scope f (.ref U) cl A outer s H1) body q):
  YZ P w K mg base (k+1) f H (Zgw ps.length ls.length q M cv):=by
 refine⟨⟨_,_,hf,rfl⟩,?_⟩;intro A outer s H1 us vs Q E fz hr F r ht;obtain⟨hl,ht⟩:=ht;have gf:s.heap.get? f=some (PySem.W.fnMade name qual params body scope cl doc pm U ctv):=(F.hok f _ (fz _ _ _ hf)).1;have G:∀c∈M,∃o v,H1 c=some (X5 o)/\o.data=.cell v/\s.heap.get? c=some o:=fun c m=>by
  obtain⟨o,v,e,d⟩:=hcs c m;exact⟨o,v,fz _ _ _ e,d,(F.hok c _ (fz _ _ _ e)).1⟩
 have hcs2:∀c∈M,∃o,H1 c=some (X5 o):=fun c m=>let⟨o,_,e,_⟩:=G c m;⟨o,e⟩;obtain⟨vs0,t0,hd0,hv0⟩:=hoc;have lim:s.heap.NoLimit:=F.mod.nolimit.keeps fun b o e=>(F.bs b o e).1;have lus:us.length=ps.length:=by rw[<-r.length];exact hl
 refine codeAny_call_function hr.depth gf rfl S.co S.gen rfl ⟨U,Z,vs0,t0,rfl,(F.hok U _ (fz _ _ _ hc)).1,hd0,hv0⟩ ?_;rw[hb us lus];refine Qae (Zjg S.kind (fun x hx=>S.par _ (Qd9 hx).1) fun h₁ tk hns old O hap=>⟨lim.keeps old,codeAny_func ?_⟩);have ndp:ps.Nodup:=(Qec.mp S.nd).1;have look:∀x c,(cellsFrom (s.heap.objs.size+1) scope.names cl).lookup x=some c->((x,c)∈cellsFrom (s.heap.objs.size+1) scope.names []/\(cellsFrom (s.heap.objs.size+1) scope.names []).lookup x=some c)\/cl.lookup x=some c:=fun x c e=>by
  rw[Yh,WV]at e;cases C:(cellsFrom (s.heap.objs.size+1) scope.names []).lookup x with
  |none=>rw[C]at e;exact .inr e
  |some d=>rw[C]at e;cases e;exact .inl ⟨Qch C,rfl⟩
 have D:∀x,scope.names.lookup x=some .free->(cellsFrom (s.heap.objs.size+1) scope.names cl).lookup x=cl.lookup x:=fun x hx=>by
  rw[Yh,WV];cases C:(cellsFrom (s.heap.objs.size+1) scope.names []).lookup x with
  |none=>rfl
  |some d=>
   have m1:=JZ scope.names _ (Qch C);have m2:=Qch hx;have:∀{l:List (Str×NameKind)},(l.map (·.1)).Nodup->(x,NameKind.cell)∈l->(x,NameKind.free)∈l->False:=fun{l} nd a b=>by
    induction l with
    |nil=>cases a
    |cons p l ih=>
     rw[Qbx,Qb8]at nd;rcases Qao.mp a with a|a<;>rcases Qao.mp b with b|b
     ·rw[<-a]at b;cases b
     ·exact nd.1 (by rw[<-a];exact Qb6 (f:=(·.1)) b)
     ·exact nd.1 (by rw[<-b];exact Qb6 (f:=(·.1)) a)
     ·exact ih nd.2 a b
   exact(this S.ndn m1 m2).elim
 have oldC:∀x c,cl.lookup x=some c->c<s.heap.objs.size:=fun x c e=>by
  obtain⟨o,v,_,_,g⟩:=G c (hcl x c e);exact Qaq g
 have I:Inv (cxN P w K mg base (ps++(ls++ys)) qual scope f (.ref U) cl A outer s (hide M H1)) [] (vs.map some++(List.replicate ls.length none++cv)) (hide M H1) {s with heap:=h₁,toks:=tk}:=by
  have noA:∀b:Aw,b∉([]:List Aw):=fun b z=>nomatch z;refine⟨⟨F.mod,S.kind,rfl,rfl,Qak _,fun x y c h1 h2=>?_,fun y Y=>?_,fun y c Y h=>?_,fun _=>hr.hd,Qf4 F.frames,.inr ⟨rfl,rfl⟩,fun b z=>absurd z (noA b),fun b o e=>⟨(F.bs b o e).1,?_⟩,F.bsz,fun b _ _=>noA b,fun b z=>absurd z (noA b),F.funs,fun b hb=>?_⟩,
   rfl,F.bare,Un.kept old,⟨_,hns,fun i y v h1 h2 h3=>?_⟩,fun y c h=>?_,?_,fun y c h=>?_,fun p hp=>absurd (show p∈([]:Ac)from hp) (by simp),(vP F.hok hcs2).kept old,?_⟩
  ·rcases look x c h1 with⟨m1,_⟩|l1<;>rcases look y c h2 with⟨m2,_⟩|l2
   ·exact name_of_addr hap m1 m2
   ·exact absurd (oldC y c l2) (Qg9.mpr (Qa0 (O x c m1).2))
   ·exact absurd (oldC x c l1) (Qg9.mpr (Qa0 (O y c m2).2))
   ·exact inj x y c l1 l2
  ·have Y:scope.names.lookup y=some .cell\/scope.names.lookup y=some .free:=Y;rcases Y with Y|Y
   ·obtain⟨c,e⟩:=GO (n:=s.heap.objs.size+1) Y;exact⟨c,by show(cellsFrom (s.heap.objs.size+1) scope.names cl).lookup y=_;rw[Yh,WV,e]⟩
   ·obtain⟨c,e⟩:=has y Y;exact⟨c,by show(cellsFrom (s.heap.objs.size+1) scope.names cl).lookup y=_;rw[D y Y,e]⟩
  ·have Y:scope.names.lookup y=some .cell:=eq_of_beq (show(scope.names.lookup y == some .cell)=true from Y);obtain⟨d,e⟩:=GO (n:=s.heap.objs.size+1) Y;have h':(cellsFrom (s.heap.objs.size+1) scope.names cl).lookup y=some c:=h;rw[Yh,WV,e]at h';cases h';exact Qa0 (O y _ (Qch e)).2
  ·by_cases m:b∈M
   ·exact Yy m
   ·exact(Z6 m).trans (F.bs b o e).2
  ·by_cases m:b∈M
   ·exact Yy m
   ·exact(Z6 m).trans (F.frf b hb)
  ·by_cases hi:i<vs.length
   ·rw[Qa9 (by simpa using hi),Qah]at h2;have ha:vs[i]?=some v:=by
     cases e:vs[i]? with
     |none=>rw[e]at h2;cases h2
     |some a=>rw[e]at h2;cases h2;rfl
    obtain⟨u,hu,rv⟩:=r.get ha;have L:(ps++(ls++ys))[i]?=some y:=h1;rw[Qa9 (by lia)]at L;exact⟨u,rv,.inl ⟨S.par y (Qas L),zw ndp L hu lus.symm⟩⟩
   ·rw[Qaz (by simpa using hi),Qab]at h2;have L:(ps++(ls++ys))[i]?=some y:=h1;rw[Qaz (by lia),<-hl]at L
    by_cases hj:i-vs.length<ls.length
    ·rw[Qa9 (by rw[Qa1];exact hj),List.getElem?_replicate]at h2;split at h2<;>cases h2
    ·rw[Qaz (by rw[Qa1];lia),Qa1]at h2;rw[Qaz (by lia)]at L;obtain⟨c,o,u,e1,e2,e3,rv⟩:=hval _ y v L h2;have hfy:=S.free y (Qas L);exact⟨u,rv,.inr ⟨.inr hfy,c,(D y hfy).trans e1,o,old _ _ (F.hok c _ (fz _ _ _ e2)).1,e3⟩⟩
  ·rcases look y c h with⟨m1,_⟩|l1
   ·exact⟨none,(O y c m1).1⟩
   ·obtain⟨o,v,_,d,g⟩:=G c (hcl y c l1);exact⟨v,o,old _ _ g,d⟩
  ·show hide M H1 s.heap.objs.size=none
   by_cases m:s.heap.objs.size∈M
   ·exact Yy m
   ·rw[Z6 m];exact F.hok.fresh (Qak _)
  ·rcases look y c h with⟨m1,_⟩|l1
   ·by_cases m:c∈M
    ·exact Yy m
    ·rw[Z6 m];exact F.hok.fresh (Qa0 (O y c m1).2)
   ·exact Yy (hcl y c l1)
  ·show(vs.map some++(List.replicate ls.length none++cv)).length=(ps++(ls++ys)).length;rw[Qaj,Qaj,Qaj,Qaj,Qab,Qa1,hl,hcv]
 refine Qdi (hbody A outer s (hide M H1) (hr.deeper _) [] _ _ _ _ I ht) (fun fl s' hs=>?_) fun _ _ z=>z.elim;have nfr:∀c∈M,c∉frs outer:=fun c m z=>by
  obtain⟨o,e⟩:=hcs2 c m;rw[F.frf c z]at e;cases e
 have hh:∀d,H1 d=none->hide M H1 d=none:=fun d n=>by
  by_cases m:d∈M
  ·exact Yy m
  ·rw[Z6 m];exact n
 have nm:∀d o,H1 d=some o->(∀ob,o≠X5 ob)->d∉M:=fun d o e ne m=>by
  obtain⟨ob,z⟩:=hcs2 d m;rw[e]at z;exact ne ob (Option.some.inj z)
 have fin:∀{σ':St} {H':Hp} {v:V} {u:Av},Inv (cxN P w K mg base (ps++(ls++ys)) qual scope f (.ref U) cl A outer s (hide M H1)) [] σ' H' s'->RelV v u->((∀c∈M,H' c=none)->Q v (XQ M H1 H'))->CE outer P w H1 s Q u s':=fun{σ' H' v u} J rv C=>by
  have b:Un (frs outer) [] (hide M H1) H' s.heap s'.heap:=J.base;have Hn:∀c∈M,H' c=none:=fun c m=>by
   obtain⟨o,v,e,d,g⟩:=G c m;exact b.free c o g (Yy m) (fun z=>nomatch z)
  refine⟨v,XQ M H1 H',J.os,J.bare,⟨fun d o e n hb hx=>b.keep d o e (hh d n) hb hx,fun d o e n hb hx=>b.slot d o e (hh d n) hb hx,fun d o e n hx=>?_,b.there,fun d xs e=>?_,fun d o u e=>?_,fun d pz e=>?_⟩,yz J.hok Hn fun c m=>?_,rv,C Hn⟩
  ·by_cases m:d∈M
   ·rw[Xt m];exact n
   ·rw[ZG m];exact b.free d o e (hh d n) hx
  ·have m:=nm d _ e (fun ob z=>nomatch z);rw[ZG m];exact b.tups d xs (by rw[Z6 m];exact e)
  ·by_cases m:d∈M
   ·rw[Xt m];exact e
   ·rw[ZG m];exact b.frzs d o u (by rw[Z6 m];exact e)
  ·have m:=nm d _ e (fun ob z=>nomatch z);rw[ZG m];exact b.tbls d pz (by rw[Z6 m];exact e)
  ·obtain⟨o,v,e,d,g⟩:=G c m;exact⟨o,e,b.keep c o g (Yy m) (nfr c m) (fun z=>nomatch z)⟩
 cases fl with
 |ret u=>
  obtain⟨v,σ',H',J,rv,C⟩:=hs;exact fin J rv C
 |next=>
  obtain⟨σ',H',J,C⟩:=hs;exact fin (v:=V.non) (u:=Value.none) J rfl C
 |brk=>
  obtain⟨_,_,_,C⟩:=hs;exact False.elim C
 |cont=>
  obtain⟨_,_,_,C⟩:=hs;exact False.elim C
end
def tDef(P:Aw)(lpos:Pos)(qual:Str)(q:Aw->Value->Value->Obj)(i:Nat):TS:=fun D σ H=>Yo H P lpos qual /\
 ∀(f G:Aw) (oc:Obj) (C F:Av) (H2:Hp),H f=none->H2 f=some (X5 (q G C F))->H2 G=some (X5 oc)->zx oc qual->Yo H2 P lpos qual->(∀b o,H b=some o->b≠P->H2 b=some o)->D.nx (σ.set i (some (.ref f))) H2
section
variable {X:Cx}{params:Arguments}{body:List Ay}{scope:Scope}{lpos:Pos}{c P:Aw}{name qual:Str}
abbrev z8 (X:Cx) (name qual:Str) (params:Arguments) (body:List Ay) (scope:Scope):Aw->Value->Value->Obj:=fun D q C=>PySem.W.fnMade name qual params body scope (qt X.env.cells scope.names []) C ((X.mg "__name__").getD .none) D q
theorem qs_def{S0:Scope}(hN:X.N.Nodup)(hi:X.N[i]?=some name)(hx:Loc X.env.scope name)(J:X.env.code=.ref c)(C:PySem.W.CodeHd X.base c P)(B:jk X.mg X.base)(hd0:params.defaults=[])(hk0:params.kw_defaults=[])(han:annTrees params none X.env=[])(hq:qualnameIn X.env name name=qual)
  (hX:X.env.scope=S0) (hfr0:∀y∈scope.names,y.2=.free->S0.names.lookup y.1=some .cell) (hf:X.fn name=true\/X.env.scope.names.lookup name=some .local:=by first|exact .inl rfl|exact .inr rfl|assumption):
  QS X (.FunctionDef name params body [] none [] scope none name lpos) (tDef P lpos qual (z8 X name qual params body scope) i):=by
 have Z:∀y∈scope.names,y.2=.free->X.env.scope.names.lookup y.1=some .cell:=fun y hy h=>by rw[hX];exact hfr0 y hy h
 refine⟨?_⟩;intro pins s σ H D I hw;obtain⟨M,hq2⟩:=hw;refine PySem.W.nestDef_K hd0 hk0 han ?_;rw[hq];have hcl:closureFor scope X.env=pure (qt X.env.cells scope.names []):=WR fun y hy h=>I.ok.has y.1 (.inl (Z y hy h));have hg:s.heap.Ns mainGlobals X.mg:=I.mod.glob.keeps I.bk;obtain⟨pz,hPs⟩:=M.ex;have L:X.base.get? P=none:=by
  cases e:X.base.get? P with
  |none=>rfl
  |some o=>rw[(I.bs P o e).2]at hPs;cases hPs
 have hgP:mainGlobals≠P:=fun e=>by
  obtain⟨o,es,ep,g,_⟩:=I.mod.glob;rw[e,L]at g;cases g
 have hb:s.heap.BuiltinsAt X.mg P:=by
  obtain⟨bm,ob,b1,b2,b3,b4,b5,b6⟩:=B.ex;refine⟨bm,ob,b1,b2,fun e=>?_,(fun e=>by rw[e,L]at b3;cases b3),I.bk _ _ b3,b4,b5,b6⟩;obtain⟨o,es,ep,g,hd,_⟩:=I.mod.glob;rw[<-e,b3]at g;cases g;rw[b6]at hd;cases hd
 rcases M with M|⟨q,oc,M,hc',O⟩
 ·have hP:s.heap.get? P=some (PySem.W.tabObj #[]):=I.hok P _ M;refine PySem.W.makeFunction_K (mg:=X.mg) (ps:=#[]) hcl I.ok.glob hg J (C.keeps I.bk) hP trivial rfl hgP hb fun q F G h' tk hx' Y hlt hrec htb=>?_;obtain⟨c₂,oc,vs,t,e2,O,hd,hv⟩:=hrec;cases e2;have cn:H q=none:=I.hok.fresh Y;have cP:q≠P:=fun e=>by rw[e,M]at cn;cases cn
  have hsz:s.heap.objs.size<=h'.objs.size:=Qbc Y (Qa0 hlt);have I2:=wy (lpos:=lpos) (fo:=z8 X name qual params body scope q F G) (tk:=tk) I M hx' Y hlt O htb;have fn:H h'.objs.size=none:=I.hok.fresh hsz;have fc:q≠h'.objs.size:=Qbg hlt;have fP:P≠h'.objs.size:=Zm M fn;refine WM I2 hN hi hx (v:=.ref h'.objs.size) rfl (fun s' I3=>⟨_,_,I3,hq2 _ q oc F G _ fn Za ?_ ⟨vs,t,hd,hv⟩ (.inr ⟨q,oc,?_,?_,⟨vs,t,hd,hv⟩⟩) fun b o e hbP=>?_⟩) hf
  ·rw[Zk fc];exact Za
  ·rw[Zk fP,Zk cP.symm];exact Za
  ·rw[Zk fc];exact Za
  ·rw[Zk (Zm e fn),Zk (Zm e cn),Zk hbP];exact e
 ·have hP:s.heap.get? P=some (PySem.W.tabObj #[rawInt lpos.line,rawInt lpos.col,.ref q]):=I.hok P _ M;have hfd:codeAmong lpos (#[rawInt lpos.line,rawInt lpos.col,.ref q]:Ah).toList=some (.ref q):=by
   show(if((lpos.line:Int) == lpos.line&&(lpos.col:Int) == lpos.col)=true then some (Value.ref q)else _)=_;rw[Qcu,Qcu];rfl
  refine PySem.W.makeFunction_hit (mg:=X.mg) hcl I.ok.glob hg J (C.keeps I.bk) hP trivial hfd hb fun F G h' tk hk hsz=>?_;have I2:=I.laid (h':=h'.push (z8 X name qual params body scope q F G)) (t':=tk) (a:=h'.objs.size) (o:=X5 (z8 X name qual params body scope q F G)) (fun b u e=>Qad _ (hk b u e)) hsz (JS (Qam _ rfl));have fn:H h'.objs.size=none:=I.hok.fresh hsz;have sm:∀b o,H b=some o->upd H h'.objs.size (X5 (z8 X name qual params body scope q F G)) b=some o:=fun b o e=>by rw[Zk (Zm e fn)];exact e
  exact WM I2 hN hi hx (v:=.ref h'.objs.size) rfl (fun s' I3=>⟨_,_,I3,hq2 _ q oc F G _ fn Za (sm _ _ hc') O (.inr ⟨q,oc,sm _ _ M,sm _ _ hc',O⟩) fun b o e _=>sm b o e⟩) hf
end
def tCallN(G:Aq)(w:Au)(K:Af)(mg:Ae)(base:Heap)(k:Nat)(sp:Sp)(qual:Str)(q:Aw->Value->Value->Obj)(ta:TA)(i n m:Nat)(is:Aj)(ts:TS):TE:=fun σ H Q=>ta σ H fun vs H1=>
 ∃(f F:Aw) (oc:Obj) (C D:Av),σ[i]?=some (some (.ref f))/\H1 f=some (X5 (q F C D))/\H1 F=some (X5 oc)/\zx oc qual /\
 ∀(cs:List Aw) (H2:Hp),(∀c∈cs,H1 c=none)->(∀c∈cs,∃o,H2 c=some (X5 o))->(∀b o,H1 b=some o->H2 b=some o)->
  YZ G w K mg base k f H2 (Zgw n m ts cs (is.map fun i=>(σ[i]?).getD none))->sp vs H2 (fun v I=>Q v (hide cs I)) E0
structure Zl0(S0 scope:Scope)(N0 ps ls ys:Ai)(is:Aj):Prop where
 sc:Zjh scope ps ls ys
 free:∀y∈scope.names,y.2=.free->S0.names.lookup y.1=some .cell
 vis:∀q∈ys.zip is,N0[q.2]?=some q.1
 len:ys.length=is.length
section
variable {X:Cx}{params:Arguments}{body:List Ay}{scope:Scope}{p pos:Pos}{g:Aw}{name qual x:Str}{k kl:Nat}{gd:Ao}{pg ps ls ys:Ai}{is:Aj}{sp:Sp}{ts:TS}{e:Ax}{es:An}{ta:TA}
def Ze7(F:Y6 X.prog X.w X.K X.mg X.base CX0 k g gd pg sp)(hr:Wu k X.A)(hg:Gl X x)(hm:X.mg x=some (.ref g))(hk:PySem.W.keepIn X.K (.ref g)=true)(hb:Binds X.K gd pg [])(hfn:X.fn=fun _=>true)
  (ha:QA X (e::es) ta) {S0:Scope} {N0:Ai} (hX:X.env.scope=S0) (hXN:X.N=N0) (Y:Zl0 S0 scope N0 ps ls ys is)
  (L:∀(cl:List (Str×Aw)) (doc pm cv Z:Av) (O:Ag),O.length=ps.length->bindArgs (PySem.W.fnX name qual params body scope cl .none .none doc pm none cv Z) ⟨O,[]⟩=pure (ps.zip O))
  (M:∀(f c':Aw) (cl:List (Str×Aw)) (A:Ar) (outer:List Env) (s:As) (H1:Hp),Wu kl (A.deeper (PySem.W.envX qual scope s.heap.objs.size f (.ref c') (cellsFrom (s.heap.objs.size+1) scope.names cl)))->QSs (cxN X.prog X.w X.K X.mg X.base (ps++(ls++ys)) qual scope f (.ref c') cl A outer s H1) body ts)
  (hdb:(x == ("__debug__" : Str))=false:=by decide) (hp:(e::es).all ZV=true:=by rfl):
  QE X (.Call (.Name x p) (e::es) [] pos) (tCallN X.prog X.w X.K X.mg X.base (kl+1) sp qual (z8 X name qual params body scope) ta i ps.length ls.length is ts):=by
 rw[Qc3,Qb4]at hp;have S:=Y.sc;have C:∀y∈scope.names,y.2=.free->X.env.scope.names.lookup y.1=some .cell:=fun y hy h=>by rw[hX];exact Y.free y hy h
 have hN:∀q∈ys.zip is,X.N[q.2]?=some q.1:=fun q hq=>by rw[hXN];exact Y.vis q hq
 refine⟨?_⟩;intro pins s σ H Q I hw;refine Qdd (zT I hg hm ?_ hdb);refine Qgl (h₀:=X.base) I.ok.mod.kin hk (thn (ha.out pos pins s σ H _ I hw) fun O s1 ⟨vs,H1,G,r,f,c',oc,Z,doc,hσ,hf,hc',hoc,q⟩=>⟨G.kIn,?_⟩) (Zu hp.1) (Xa hp.2);have J:∀y d,(qt X.env.cells scope.names []).lookup y=some d->X.env.cells.lookup y=some d:=
  Ju (fun y hy h=>G.ok.has y.1 (.inl (C y hy h))) fun _ _ z=>by cases z
 have D:=GS G;have hcs:=jl G;refine qA F hr hb hfn G r (q (cellsOf X.env.cells) (ub X s1 H1) (XR G) (fun d m=>let⟨o,_,e,_⟩:=hcs d m;⟨o,e⟩) D ?_);exact js (ls:=ls) (ys:=ys) S (D _ _ hf) (D _ _ hc') hoc (fun y d h=>YS.mpr ⟨y,J y d h⟩) (fun d m=>let⟨o,v,e,hd,_⟩:=hcs d m;⟨o,v,e,hd⟩) (fun y z d h1 h2=>G.ok.inj y z d (J y d h1) (J z d h2)) (fun y h=>WS h) (by rw[Qab,Y.len])
  (y3 (N0:=N0) G C S.free hN Y.len) (fun O hl=>L _ _ _ _ _ O hl) fun A outer s H1 hr=>(M f c' _ A outer s H1 hr).out
end
def QE.or(h:QE X e I)(g:QE X e u):QE X e (fun σ H Q=>I σ H Q\/u σ H Q):=⟨fun pins s σ H Q q z=>z.elim (h.out pins s σ H Q q) (g.out pins s σ H Q q)⟩
def QS.or{e:Ay}{u:TS}(h:QS X e q)(g:QS X e u):QS X e (fun D σ H=>q D σ H\/u D σ H):=⟨fun pins s σ H D I z=>z.elim (h.out pins s σ H D I) (g.out pins s σ H D I)⟩
def Zji(tk tv:TE):TE:=fun σ H Q=>∀d,H d=none->tk σ (upd H d (.dK [])) fun x H1=>tv σ H1 fun v H2=>∃(Kk:Type) (_:DecidableEq Kk) (kn:KN Kk) (a:Aw) (k:Kk),x=.ref a/\H2 d=some (.dK [])/\kn.at_ H2 k a /\
 ∀H',JM kn H' d [(k,v)]->(∀b o,H2 b=some o->b≠d->H' b=some o)->(∃o,H'=upd H2 d o)->Q (.ref d) H'
def Zbu{k v:Ax}{tk:TE}(hu:X.A.units+2<cLine)(L:QE X k tk)(G:QE X v I):QE X (.Dict [some k] [v] p) (Zji tk I):=by
 refine⟨fun pins s σ H Q C q=>?_⟩;have hn:=C.hok.fresh (Qak s.heap.objs.size);have I1:=C.laid (a:=s.heap.objs.size) (o:=.dK []) (h':=s.heap.push {cls:=.type "dict",data:=.dict #[]}) (t':=s.toks) (fun _ _ q=>Qad _ q) (Qak _) (je s.heap C.big);refine wpAny_Dict_any rfl rfl (fun z=>nomatch z) (by show 1<=15;decide) (thn (pp1 L G pins _ σ _ _ I1 (q _ hn)) fun ws s2 ⟨x,y,u,r,H2,M,D,rx,ry,Kk,_,kn,a,kk,ex,e,F,q2⟩=>?_);subst M ex;cases(show u=Value.ref a from rx);have n:JM kn H2 s.heap.objs.size []:=⟨Qck,(show 0<sizeLine by decide),.inl ⟨rfl,e⟩⟩;obtain⟨xs,dd,Z,O,hm⟩:=n.dict D;cases Z;unfold storeAll;rw[List.forIn_cons];refine Qaa (Qaa (wpAny_dictSet_heap (hsz:=Qbl _) (kn.room0 _ _ _ hu) (kn.ok _ _ _ _ _ _ D.hok F) dd fun h' dd' hs=>Qae ?_));show wpAny _ _ (forIn ([]:List (Av×Av)) PUnit.unit _) _ _ _;obtain⟨H',J,Y,o',I'⟩:=jm D n F ry (show 0+1<sizeLine by decide) .nil O hm rfl dd' hs;exact Qae ⟨.ref s.heap.objs.size,H',I',rfl,q2 H' J Y o'⟩
def PI.or{l:Ax}{t u:TI}(h:PI X e l t)(g:PI X e l u):PI X e l (fun σ H R=>t σ H R\/u σ H R):=fun pins s σ H R I z=>z.elim (h pins s σ H R I) (g pins s σ H R I)
def QI.or{tg l:Ax}{t u:TI}(h:QI X tg l t)(g:QI X tg l u):QI X tg l (fun σ H R=>t σ H R\/u σ H R):=⟨PI.or h.out g.out⟩
section
variable {prog:Aq}{w:Au}{A:Ar}{R:Result->Shared->Prop}{I:Aw}{fp wr:List Aw}{n:Nat}{P:Nat->Value->Prop}{St:Nat->Heap->Prop}{d:Av}
theorem Zjj(W:Walks prog w A.in1 I fp wr n P St)(bt:Nat->Nat->Bool)(hcmp:CmpOf prog w A.in1 .Gt P bt)(S:Aw)(hSf:S∉fp):
  ∀(k j:Nat) (s:As) (M:Av) (c:Nat),n-(j+1)=k->j+1<=n->St (j+1) s.heap->P (argBest bt j) M->
  s.heap.get? S=some {cls:=.type "list",dict:=none,data:=.seq #[M,M] c,slots:=#[]}->
  (∀v h' tk,P (argBest bt (n-1)) v->(∀b o,b∉wr->b≠S->s.heap.get? b=some o->h'.get? b=some o)->R (.ok (.ret v)) {s with heap:=h',toks:=tk})->
  codeAny (model prog w) A (.builtin "max.loop" ⟨[.ref I,.none,.ref S],[("default",d)]⟩) R s:=by
 have hSw:S∉wr:=fun h=>hSf (W.sub _ h);have hname:(toString "max" ++ toString ".loop" : String) = "max.loop" :=by decide
 intro k
 induction k with
 |zero=>
  intro j s M c hk hj hst L hS hR;have hin:j+1=n:=by lia
  refine Qdr Qfv ?_;refine Qaa (Qci hS rfl ?_);refine Qaa (Qfz (W.done s _ _ (hin ▸ hst) fun h' tk D=>?_));have J:=D S _ hSw hS;refine Qaa ?_;refine Qfo J rfl (Qaa (Qfc (Qae ?_)));refine hR M _ tk (by rw[<-hin];exact L) fun b o q C e=>(Qb1 _ _ (Qd5 C)).trans (D b o q e)
 |succ k ih=>
  intro j s M c hk hj hst L hS hR;have Z:j+1<n:=by lia
  refine Qdr Qfv ?_;refine Qaa (Qci hS rfl ?_);refine Qaa (Qfz (W.item (j+1) s _ _ Z hst fun v h' tk hP O D=>?_));have J:=D S _ hSw hS;show wpAny _ A.in1 (tryCatch (holding [v,v] (richCompare .Gt v M >>= _)) _ >>= _) _ _ _;refine Qaa (Qfz (Qb9 (Qaa (hcmp (j+1) (argBest bt j) v M _ _ _ hP L ?_))));refine Qaa (Qb9 (Qdj ?_));refine Qaa (Qfc (Qae ?_));cases hb:bt (j+1) (argBest bt j)with
  |true=>
   refine Qaa ?_;refine Qfo J rfl (Qaa (Qfc ?_));refine Qae ⟨Qej Qer _,ih (j+1) _ v _ (by lia) Z (W.frame _ _ _ O fun b hbf o e=>?_) (by simp only[argBest,hb,if_true];exact hP) (Qbs _ J rfl)
    fun v' Y G hP' F=>?_⟩
   ·exact(Qb1 _ _ (fun h:S=b=>hSf (by rw[h];exact hbf))).trans e
   ·exact hR v' Y G hP' fun b o q C e=>F b o q C ((Qb1 _ _ (Qd5 C)).trans (D b o q e))
  |false=>
   refine Qaa (Qfc ?_);refine Qae ⟨Qej Qer _,ih (j+1) _ M c (by lia) Z O (by simp only[argBest,hb,Qcl,if_false];exact L) J fun v' Y G hP' F=>?_⟩;exact hR v' Y G hP' fun b o q C e=>F b o q C (D b o q e)
def Ze8(W:Walks prog w A.in1 I fp wr n P St)(bt:Nat->Nat->Bool)(J:CmpOf prog w A.in1 .Gt P bt)(S:Aw)(D:S∉fp){c:Nat}(M:St 0 s.heap)
  (hS:s.heap.get? S=some {cls:=.type "list",dict:=none,data:=.seq #[] c,slots:=#[]})
  (h0:n=0->∀h' tk,(∀b o,b∉wr->b≠S->s.heap.get? b=some o->h'.get? b=some o)->R (.ok (.ret d)) {s with heap:=h',toks:=tk})
  (hR:0<n->∀v h' tk,P (argBest bt (n-1)) v->(∀b o,b∉wr->b≠S->s.heap.get? b=some o->h'.get? b=some o)->R (.ok (.ret v)) {s with heap:=h',toks:=tk}):
  codeAny (model prog w) A (.builtin "max.loop" ⟨[.ref I,.none,.ref S],[("default",d)]⟩) R s:=by
 have hSw:S∉wr:=fun h=>D (W.sub _ h);have hname:(toString "max" ++ toString ".loop" : String) = "max.loop" :=by decide
 refine Qdr Qfv ?_;refine Qaa (Qci hS rfl ?_)
 by_cases hn:0<n
 ·refine Qaa (Qfz (W.item 0 s _ _ hn M fun v h' tk hP Y q=>?_));have Z:=q S _ hSw hS;show wpAny _ A.in1 (updateSeq S (fun _=>#[v,v]) >>= _) _ _ _;refine Qaa ?_;refine Qfo Z rfl ?_;refine Qae ⟨Qej Qer _,Zjj W bt J S D _ 0 _ v _ rfl hn (W.frame _ _ _ Y fun b hbf o e=>?_) hP (Qbs _ Z rfl) fun v' h'' L hP' G=>?_⟩
  ·exact(Qb1 _ _ (fun h:S=b=>D (by rw[h];exact hbf))).trans e
  ·exact hR hn v' h'' L hP' fun b o C F e=>G b o C F ((Qb1 _ _ (Qd5 F)).trans (q b o C e))
 ·have O:n=0:=by lia
  refine Qaa (Qfz (W.done s _ _ (by rw[O];exact M) fun h' tk q=>?_));refine Qaa (Qdg (Qae ?_));exact h0 O h' tk fun b o C _ e=>q b o C e
end
def Ze9 (a v:Av):argsOk "max" ⟨[a],[(Str.ofString "default",v)]⟩:=by kernel_rfl
section
variable {prog:Aq}{w:Au}{A:Ar}{E:Ab}{s:As}{l:Aw}{xs:Array (Int×Tok)}{d:Av}
def Zbv(hh:A.handled=none)(Y:s.heap.IsList l (intItems xs))(L:xs.size=0->∀h' tk,(∀b o,s.heap.get? b=some o->h'.get? b=some o)->Q d {s with heap:=h',toks:=tk})
  (h:0<xs.size->∀v h' tk,(intItems xs)[argBest (fun i j=>decide (numAt xs i>numAt xs j)) (xs.size-1)]?=some v->(∀b o,s.heap.get? b=some o->h'.get? b=some o)->Q v {s with heap:=h',toks:=tk}):
  A3 prog w A (call (.builtin "max") [.ref l] [(Str.ofString "default",d)]) Q E s:=by
 have q:(toString "max" ++ toString ".loop" : String) = "max.loop" :=by decide
 refine PyProof.Rows.kmk_tree PySem.F.kind_max PySem.F.plain_max PySem.F.entry_max (Ze9 _ _) ?_;refine Qaa (Qcj (show Builtin.Builtins.bindParams "max" ["key","default"] 0 ⟨[],[(Str.ofString "default",d)]⟩=pure [none,some d]from rfl) ?_);refine Qaa (Qae ?_);refine Qaa (iter_intList Y fun s₂ e st G D=>?_);subst e;refine Qaa (Qbe ?_);have W:=Walks.list (prog:=prog) (w:=w) (A:=A.in1) hh _ l D (intItems xs);have hsz:(intItems xs).size=xs.size:=by simp[intItems]
 refine Qae ⟨Qej Qer _,Ze8 W _ (CmpOf.ints_gt (numAt xs) (fun _ _=>intItems_at)) _ (fun O=>Qce _ (G _ O)) (W.frame _ _ _ st fun b _ o e=>Qad _ e) (Qam _ rfl) (fun I h' tk C=>?_) fun I v h' tk M C=>?_⟩
 ·exact L (by rw[<-hsz];exact I) h' tk (old_kept fun b o J e=>C b o J (Qbg (Qaq e)) (Qad _ e))
 ·exact h (by rw[<-hsz];exact I) v h' tk (by simpa[intItems]using M) (old_kept fun b o J e=>C b o J (Qbg (Qaq e)) (Qad _ e))
end
def tMaxD(K:Af)(ta td:TE):TE:=fun σ H Q=>ta σ H fun x H1=>td σ H1 fun y H2=>∃(p:Aw) (ns:Ak),x=.ref p/\SqL K H2 p (ns.map V.int)/\(ns=[]->Q y H2)/\∀m∈ns,(∀n∈ns,n<=m)->Q (.int m) H2
def Zjk {a:Ax} {td:TE} {kp:Pos} (hc:X.calm=true) (hg:Gl X "max") (hm:X.mg "max" = none) (ha:QE X a I) (hd:QE X e td) (hp:ZV a=true:=by rfl):
  QE X (.Call (.Name "max" p) [a] [⟨some "default",e,kp⟩] m) (tMaxD X.K I td):=by
 refine⟨fun pins s σ H Q C hw=>?_⟩;refine Qdd (Jo C hg hm wk ?_ (by decide));have hs:=Zu (rest:=[]) (env:=X.env) hp;refine callWith_kw ?_ (by rw[hs];rfl) (by rw[hs];rfl);rw[hs];refine Qcy (thn (ha.out pins s σ H _ C hw) fun u s1 ⟨x,H1,I1,r1,q1⟩=>?_);refine Qd8 (kws_cons (thn (hd.out pins s1 σ H1 _ I1 q1) fun u2 s2 ⟨y,H2,G,r2,p,ns,ex,hq,hz,q⟩=>kws_nil ?_));subst ex;cases r1;obtain⟨D,r',pl,hz'⟩:=G.list hq;have hi:IntsAre D ns:=intsAre_of r';obtain⟨xs,hx⟩:=hi.allInts.items;have J:s2.heap.IsList p (intItems xs):=hx ▸ pl.isList;have e1:ns=xs.toList.map (·.1):=by
  rw[<-nums_intItems,<-hx];exact(show numsOf D.toArray.toList=ns from hi.numsOf).symm
 refine Zbv (G.ok.hd hc) J (fun h0 h' tk M=>⟨y,H2,G.kept M,r2,hz ?_⟩) fun hsz v h' tk L M=>?_
 ·grind
 have hb:=argBest_gt (numAt xs) (xs.size-1);generalize argBest (fun i j=>decide (numAt xs i>numAt xs j)) (xs.size-1)=b at L hb;have Y:b<xs.size:=by lia
 have at_:∀j (F:j<xs.size),numAt xs j=xs[j].1/\(intItems xs)[j]?=some (.int xs[j].1 xs[j].2):=by
  intro j F;exact⟨by simp[numAt,F],by simp[intItems,F]⟩
 obtain⟨n1,n2⟩:=at_ b Y;rw[n2]at L;cases L;refine⟨.int xs[b].1,H2,G.kept M,⟨_,rfl⟩,q _ ?_ fun n Z=>?_⟩
 ·grind
 ·rw[e1]at Z;obtain⟨y,hy,rfl⟩:=Qav.mp Z;obtain⟨j,F⟩:=Qe8 hy;have O:j<xs.size:=by
   grind
  have:=hb.2 j (by lia);rw[(at_ j O).1,n1]at this;have ej:xs[j]=y:=by
   grind
  rw[ej]at this;exact this
def Zl1:V->List V->Hp->VK->Prop:=fun x xs H Q=>∃i:Int,x=.int i/\xs=[]/\Q (.int ((Builtin.Int.intBits i:Nat):Int)) H
def Zjl:MtR X "int.bit_length" Zl1:=by
 intro pins s σ H x xs v D Q I C r h;obtain⟨i,rfl,rfl,q⟩:=h;obtain⟨t,rfl⟩:=C;cases r;exact call_int_bit_length ⟨.int _,H,I.tok _,⟨_,rfl⟩,q⟩
def z9 {X:Cx}  {t:TA} {a b:Ax} (C:Gl X "range") (F:X.mg "range" = none) (ha:QA X [a,b] t) (D:ZV a=true:=by rfl) (q:ZV b=true:=by rfl):QI X e (.Call (.Name "range" p) [a,b] [] m) (Zle t):=
 ⟨uY C F ha.out (by rw[Zu D,Zu q];rfl) (by rw[Zu q];rfl)⟩
section
variable {X:Cx}{pos:Pos}
end
section
variable {prog:Aq}{w:Au}{A:Ar}{E:Ab}{s:As}
end
open AutoSeq1 (wpAny_loadPart')
section
variable {prog:Aq}{w:Au}{A:Ar}{E:Ab}{s:As}
end
def bt_any:bootBuiltins "any" = some (.builtin "any"):=by decide +kernel
def rAnyL(K:Af):A2->Hp->VK->Prop:=fun xs H Q=>∃(p:Aw) (bs:Am),xs=[.ref p]/\SqL K H p (bs.map V.bl)/\Q (.bl (bs.any id)) H
def Zbw (Z:X.calm=true):YA X (.builtin "any") (rAnyL X.K):=by
 intro pins s σ H xs us Q I r h;obtain⟨p,bs,rfl,hq,q⟩:=h;obtain⟨u,rfl,rx⟩:=vals1 r;cases rx;obtain⟨C,Y,pl,hz⟩:=I.list hq;have L:=pl.isList;have M:p<s.heap.objs.size:=by obtain⟨_,e,_⟩:=L;exact Qaq e
 have D:=Y.length;rw[Qab]at D;refine call_any_walk (Qe4 L ?_);refine⟨s.heap.objs.size,[s.heap.objs.size,p],[s.heap.objs.size],C.toArray.size,_,_,fun i=>(bs[i]?).getD false,rfl,Walks.list (A:=X.A.in1) (I.ok.hd Z) _ p (Qbg M) C.toArray,
  ⟨⟨_,Qam _ rfl,rfl,rfl⟩,L.push _⟩,fun i v s' Q' E' hP O=>?_,fun h' tk hk=>?_⟩
 ·have hi:C[i]?=some v:=by simpa using hP
  have G:i<bs.length:=by grind
  obtain⟨w',e1,e2⟩:=Y.get (show(bs.map V.bl)[i]?=some (V.bl bs[i]) by rw[Qah,Qac G];rfl);rw[hi]at e1;cases e1;cases e2;simp only[Qac G,Option.getD_some]at O;exact Qdj O
 ·have e:((List.range C.toArray.size).any fun i=>(bs[i]?).getD false)=bs.any id:=by
   rw[Qat,<-D,Qdo,Qcd,Qcd];constructor
   ·rintro⟨i,hi,z⟩;have F:=Qbt.mp hi;refine⟨_,Qbu F,?_⟩;simpa[Qac F]using z
   ·rintro⟨b,G,z⟩;obtain⟨i,hi,rfl⟩:=List.getElem_of_mem G;exact⟨i,Qbt.mpr hi,by grind⟩
  rw[e];refine⟨.bl (bs.any id),H,I.kept (t':=tk) (fun b o J=>hk b o (fun hm=>?_) (Qad _ J)),rfl,q⟩;rw[Qar.mp hm]at J;exact absurd (Qaq J) (Qce _)
end L2
namespace L2
section
variable {prog:Aq}{w:Au}{A:Ar}{E:Ab}{s:As}
end
end L2
namespace L2
open PySem.Calls
open AutoSeq1 (wpAny_loadPart')
section
variable {X:Cx}{o e:Ax}{es:An}{to:TE}{t:TA}{name:Str}{apos cpos:Pos}{id:String}{r:V->List V->Hp->VK->Prop}
def tTM(r:V->List V->Hp->VK->Prop)(to:TE)(t:TA):TE:=fun σ H Q=>to σ H fun x H1=>∃a xs,x=.ref a/\H1 a=some (.tup xs)/\t σ H1 fun ys H2=>r x ys H2 Q
def qe_tm (G:Slot "tuple" name id) (J:typeOf (.builtin id)=pure (.type "method_descriptor")) (hm:MtR X id r) (ho:QE X o to) (ha:QA X (e::es) t)
  (D:attributeBase o name X.env (eval o X.env)=eval o X.env:=by rfl) (q:(apos.endLine == cpos.line)=true:=by rfl) (L:(e::es).all ZV=true:=by rfl) (Z:(e::es).length<30:=by decide):
  QE X (.Call (.Attribute o name apos) (e::es) [] cpos) (tTM r to t):=by
 have C:=L;rw[Qc3,Qb4]at C;refine⟨fun pins s σ H Q I h=>?_⟩;refine Qfu D (by rw[all_plain L];exact Qan (show(e::es).length+0+0<30 from Z)) q rfl (thn (ho.out pins s σ H _ I h) fun v s1 ⟨x,H1,Y,r1,a,xs,ex,hx,q1⟩=>?_);subst ex;cases r1;obtain⟨_,its,_,ob,O,g2,g3,g4⟩:=Y.hok a _ hx;refine⟨"tuple",id,PySem.F.plainAttrs_tuple,G,J,⟨ob,O,g2⟩,fun a' e'=>by cases e';exact⟨ob,O,g4⟩,?_⟩;have M:=ha.out cpos pins s1 σ H1 _ Y q1;have hs:starEach (e::es) X.env=(false,eval e X.env)::starEach es X.env:=Zu C.1;rw[hs]at M ⊢;refine Qd0 (by show(false||(backTo cpos (starEach es X.env)).any (·.1))=false;rw[Xa C.2]<;>rfl) (Qe7 ?_);exact thn M fun us s2 ⟨vs,H2,I2,r2,q2⟩=>hm pins s2 σ H2 (.ref a) vs (.ref a) us Q I2 rfl r2 q2
def qC{M:Model}{A:Ar}{E:Ab}{β:Type}(f:Nat->β->Sem (ForInStep β))(I:Aj->β->Shared->Prop)(Q:β->Shared->Prop)
  (q:∀x rest b s,I (x::rest) b s->wpAny M A (f x b) (fun r s'=>match r with|.yield b'=>I rest b' s'|.done b'=>Q b' s') E s)
  (fin:∀b s,I [] b s->Q b s) (b:β) (h:I (List.range n) b s):wpAny M A (forIn [:n] b f) Q E s:=by
 rw[Std.Legacy.Range.forIn_eq_forIn_range'];refine wpAny_forIn_list f I Q q fin _ b ?_;rw[show(List.range' ([:n]:Std.Legacy.Range).start ([:n]:Std.Legacy.Range).size ([:n]:Std.Legacy.Range).step)=List.range n by simp[Std.Legacy.Range.size,List.range_eq_range']];exact h
def jt(l:Aw)(items:Ah)(n:Nat)(dd:Option Aw)(sl:Array (Option Av))(x:Av)(e:Av->Bool)(j:Nat)(hj:j<items.size)
  (J:e items[j]=true) (I:∀m (hm:m<items.size),m<j->e items[m]=false):
  Meets (Builtin.«tuple.index» ⟨[.ref l,x],[]⟩)
   (fun A R s=>s.heap.get? l=some {cls:=.type "tuple",dict:=dd,data:=.seq items n,slots:=sl}/\(∀y,y∈items->SeqAt.EqAt A.in1 s y x (e y))/\R (.ok (.ret (.int j s.toks))) {s with toks:=s.toks+1}):=
 .of_wp fun prog w A R s h=>by
  obtain⟨Y,g,d,tk,os⟩:=s;obtain⟨Z,he,h⟩:=h;have ms:∀(i:Nat) y,items[i]?=some y->∃h:i<items.size,y=items[i]:=fun i y O=>by
   obtain⟨h1,h2⟩:=Array.getElem?_eq_some_iff.mp O;exact⟨h1,h2.symm⟩
  wp_walk using wpAny_loadPart' Z,qC _ (fun rest b s'=>b.1=none/\s'=⟨Y,g,d,tk,os⟩/\∃i,i<=j/\rest=(List.range (min items.size items.size)).drop i) _
  ·rintro y rest b s' ⟨L,rfl,i,hi,F⟩;have C:i<items.size:=by lia
   have G:i<(List.range (min items.size items.size)).length:=by rw[Qbb,Qgo];exact C
   rw[Qc2 G]at F;injection F with M D;have O:y=i:=by simpa using M
   subst O;rw[Qdl C];refine Qaa (he _ (Array.getElem_mem C) prog w _ _ ?_);rcases Qgr y j with q|q
   ·rw[I y C q]
    wp_walk
    exact⟨rfl,rfl,y+1,by lia,D⟩
   ·have e1:y=j:=by lia
    subst e1;rw[J]
    wp_walk
    exact⟨_,rfl,h⟩
  ·rintro⟨b1,b2⟩ s' ⟨L,rfl,i,hi,F⟩;have:=congrArg List.length F;rw[Qbr,Qbb,Qgo]at this;simp only[Qev]at this;lia
  ·exact⟨rfl,rfl,0,Qbl _,rfl⟩
def Zbx:V->List V->Hp->VK->Prop:=fun x vs H Q=>∃(l:Aw) (xs:A2) (y z:V) (j:Nat),x=.ref l/\vs=[y]/\H l=some (.tup xs)/\YM y=true/\xs.all YM=true/\xs[j]?=some z/\eqV z y=true/\(∀i q,i<j->xs[i]?=some q->eqV q y=false)/\Q (.int (j:Int)) H
def Zby:MtM X "tuple.index" Zbx:=by
 intro pins s σ H x vs v us Q I rx rv h;obtain⟨l,xs,y,z,j,rfl,rfl,hH,Z,fx,hj,hit,hno,q⟩:=h;cases rx;obtain⟨u,rfl,ru⟩:=rv.one;obtain⟨_,C,r,⟨oc,od,oda,J⟩,e,O,⟨n,hd⟩,hn⟩:=I.hok l _ hH;subst O hd hn;have Y:=r.length;have at_:∀(i:Nat) (hi:i<C.toArray.size),∃M,xs[i]?=some M/\eqU y C.toArray[i]=eqV M y:=fun i hi=>by
  have D:i<xs.length:=by rw[Y];simpa using hi
  obtain⟨w',hw',L⟩:=r.get (i:=i) (x:=xs[i]) (Qac D);have e2:C.toArray[i]=w':=by
   grind
  refine⟨xs[i],Qac D,?_⟩;rw[e2];exact Zao L (Qcb.mp fx _ (Qbu D))
 have G:j<C.toArray.size:=by grind
 refine call_meets PySem.F.slot_tuple_index ⟨_,e,rfl⟩ PySem.F.entry_tuple_index (PySem.F.args_tuple_index_2 _ _) (jt l C.toArray n none J u (eqU y) j G ?_ (fun m hm hlt=>?_)) ⟨e,fun w hw=>WO ru Z r fx w (by simpa using hw),⟨.int (j:Int),H,I.tok _,⟨_,rfl⟩,q⟩⟩
 ·grind
 ·grind
end
end L2
namespace L2
theorem Zbz:∀{vs:Ag} {q:Ai},vs.length=q.length->(∀(j:Nat) (v:Av),vs[j]?=some v->∃y t,q[j]?=some y/\v=.str y t)->StrsAre vs q
 |[],[],_,_=>.nil
 |v::vs,y::q,h,k=>by
  obtain⟨D,t,e1,e2⟩:=k 0 v rfl;have e1:y=D:=Option.some.inj e1;subst e1 e2;exact .cons _ t (Zbz (Nat.succ.inj h) fun j v C=>k (j+1) v C)
def y9 {X:Cx} (hc:X.calm=true):YA X (.builtin "sorted") (fun xs H Q=>∃(a:Aw) (kvs:A0) (S:Ai),xs=[.ref a]/\Rd H a (.dK kvs)/\kvs.map (·.1)=S.map Sum.inr/\S.length<64 /\
  ∀(l:Aw) (ms:Ai),H l=none->ms.Perm S->sortedS ms=true->Q (.ref l) (upd H l (.lst (ms.map V.str)))):=by
 intro pins s σ H xs us Q I r h;obtain⟨a,kvs,S,rfl,hq,hS,hn,q⟩:=h;obtain⟨u,rfl,rx⟩:=vals1 r;cases rx;obtain⟨z,nm,vs,rel,dd⟩:=yo I.hok hq;obtain⟨o,es,ep,ho,hex,hda,hk,hp,hnd⟩:=id dd;have dat:s.heap.DictAt (ZI X.prog X.w) a vs ep:=⟨o,es,ho,hex,hda,hk,hp,hnd⟩;have C:vs.map (·.1)=S.map Sum.inr:=by rw[<-rel.keys];exact hS
 have G:vs.length=S.length:=by have:=congrArg List.length C;rwa [Qab,Qab]at this
 refine Qfb kind_sorted plain_sorted entry_sorted (args_sorted1 _) ?_;refine Qaa (m:=checkCount "sorted" 1 1 _) (Qae ?_);refine Qaa (PySem.W.kdu_collect (A:=X.A.in1) (PySem.W.kdl_dict (knd:=ZI X.prog X.w) (kvs:=vs) (ep:=ep) nm) (I.ok.hd hc) dat (by rw[G];exact Qa0 (Z2 (by lia))) fun h1 tk acc O F=>?_);have Y:acc.toList.length=S.length:=by rw[Qbk,F.1,G]
 have D:StrsAre acc.toList S:=Zbz Y fun j v hv=>by
  obtain⟨k,x,e1,e2⟩:=F.2 j v (by rw[<-Qdq];exact hv);have e3:(vs.map (·.1))[j]?=some k:=by rw[Qah,e1];rfl
  rw[C,Qah]at e3;obtain⟨y,hy,rfl⟩:=Qa4.mp e3;obtain⟨t,e4⟩:=wt e2;exact⟨y,t,hy,e4⟩
 have L:acc.toList.length<64:=by lia
 generalize hV:acc.toList=Z at L D ⊢;refine Qaa (wpAny_newList ?_ (by have:=Qhd;lia));have I1:Inv X pins σ H {s with heap:=h1,toks:=tk}:=I.kept O;have J:(h1.push (seqObj "list" Z.toArray 0)).get? h1.objs.size=some (seqObj "list" Z.toArray 0):=Qam _ rfl;refine Qaa (Qb9 (Qbf slot_list_sort ⟨_,J,rfl⟩ Qhm (list_sort_treeK strKind_oneLt J D.keysOf (fun v₁ v₂ rest e=>keyKind_strs (by rw[<-e];exact D)) L fun st' a1 a2=>⟨_,rfl,?_⟩) (args_list_sort _)));obtain⟨ss,b1,b2,b3⟩:=sorted_out_str D a1 a2;obtain⟨e,he⟩:=sortedHeap_at (vs:=Z) (out:=(arrOf st').map (·.2)) (n:=0) J;refine Qae ⟨_,rfl,⟨.ref h1.objs.size,_,I1.laid (t':=tk) (o:=.lst (ss.map V.str)) (fun b ob hb=>?_) (Qak _) ?_,rfl,q _ ss (I1.hok.fresh (Qak _)) b2 b3⟩⟩
 ·have M:=Qaq hb;rw[sortedHeap_old (Qbg M) (by rw[size_push'];exact Qdx M)];exact Qad _ hb
 ·have hm:ss.length=S.length:=b2.length_eq;exact⟨by rw[Qab];exact Qa0 (Z2 (by lia)),_,e,Wz b1,by exact he⟩
theorem len7{α:Type}{P:List α->Prop}(h:∀a b c d e f g,P [a,b,c,d,e,f,g]):∀q:List α,q.length=7->P q
 |[_,_,_,_,_,_,_],_=>h _ _ _ _ _ _ _
theorem Zgx{X:Cx}{q:Operator}{C:TIp}(D:X.N.Nodup)(hi:X.N[i]?=some x)(F:Loc X.env.scope x)(G:QE X e u)(ho:PIp X q C)(I:X.fn x=true\/X.env.scope.names.lookup x=some .local:=by first|exact .inl rfl|exact .inr rfl|assumption):QS X (.AugAssign (.Name x m) q e p) (tAug i u C):=⟨ps_aug D hi F G.out ho I⟩
theorem Zb0:∀{vs:Ag} {ns:Ak},vs.length=ns.length->(∀(j:Nat) (v:Av),vs[j]?=some v->∃y t,ns[j]?=some y/\v=.int y t)->IntsAre vs ns
 |[],[],_,_=>.nil
 |v::vs,y::D,h,k=>by
  obtain⟨C,t,e1,e2⟩:=k 0 v rfl;have e1:y=C:=Option.some.inj e1;subst e1 e2;exact .cons _ t (Zb0 (Nat.succ.inj h) fun j v q=>k (j+1) v q)
def ju {X:Cx} (hc:X.calm=true):YA X (.builtin "sorted") (fun xs H Q=>∃(a:Aw) (kvs:A0) (S:Ak),xs=[.ref a]/\Rd H a (.dK kvs)/\kvs.map (·.1)=S.map Sum.inl/\S.length<64 /\
  ∀(l:Aw) (ms:Ak),H l=none->ms.Perm S->ms.Pairwise (·<=·)->Q (.ref l) (upd H l (.lst (ms.map V.int)))):=by
 intro pins s σ H xs us Q I r h;obtain⟨a,kvs,S,rfl,hq,hS,hn,q⟩:=h;obtain⟨u,rfl,rx⟩:=vals1 r;cases rx;obtain⟨z,nm,vs,rel,dd⟩:=yo I.hok hq;obtain⟨o,es,ep,ho,Z,hda,hk,hp,hnd⟩:=id dd;have dat:s.heap.DictAt (ZI X.prog X.w) a vs ep:=⟨o,es,ho,Z,hda,hk,hp,hnd⟩;have C:vs.map (·.1)=S.map Sum.inl:=by rw[<-rel.keys];exact hS
 have F:vs.length=S.length:=by have:=congrArg List.length C;rwa [Qab,Qab]at this
 refine Qfb kind_sorted plain_sorted entry_sorted (args_sorted1 _) ?_;refine Qaa (m:=checkCount "sorted" 1 1 _) (Qae ?_);refine Qaa (PySem.W.kdu_collect (A:=X.A.in1) (PySem.W.kdl_dict (knd:=ZI X.prog X.w) (kvs:=vs) (ep:=ep) nm) (I.ok.hd hc) dat (by rw[F];exact Qa0 (Z2 (by lia))) fun h1 tk acc O D=>?_);have hal:acc.toList.length=S.length:=by rw[Qbk,D.1,F]
 have L:IntsAre acc.toList S:=Zb0 hal fun j v hv=>by
  obtain⟨k,x,e1,e2⟩:=D.2 j v (by rw[<-Qdq];exact hv);have e3:(vs.map (·.1))[j]?=some k:=by rw[Qah,e1];rfl
  rw[C,Qah]at e3;obtain⟨y,hy,rfl⟩:=Qa4.mp e3;obtain⟨t,e4⟩:=wt e2;exact⟨y,t,hy,e4⟩
 have Y:acc.toList.length<64:=by lia
 generalize hV:acc.toList=ws at Y L ⊢;refine Qaa (wpAny_newList ?_ (by have:=Qhd;lia));have I1:Inv X pins σ H {s with heap:=h1,toks:=tk}:=I.kept O;have J:(h1.push (seqObj "list" ws.toArray 0)).get? h1.objs.size=some (seqObj "list" ws.toArray 0):=Qam _ rfl;refine Qaa (Qb9 (Qbf slot_list_sort ⟨_,J,rfl⟩ Qhm (list_sort_tree J L Y fun out G b1 b2 b3=>⟨_,rfl,?_⟩) (args_list_sort _)));obtain⟨e,he⟩:=sortedHeap_at (vs:=ws) (out:=out) (n:=0) J;refine Qae ⟨_,rfl,⟨.ref h1.objs.size,_,I1.laid (t':=tk) (o:=.lst (G.map V.int)) (fun b ob hb=>?_) (Qak _) ?_,rfl,q _ G (I1.hok.fresh (Qak _)) b2 b3⟩⟩
 ·have M:=Qaq hb;rw[sortedHeap_old (Qbg M) (by rw[size_push'];exact Qdx M)];exact Qad _ hb
 ·have hm:G.length=S.length:=b2.length_eq;exact⟨by rw[Qab];exact Qa0 (Z2 (by lia)),_,e,ql b1,by exact he⟩
end L2
namespace Lw
open PySem L2
def top(i:Nat):Ay:=PySem.Challenge.pw_everywidth_k26_widths_looked_through.main.body.getD i (.Pass ⟨0,0,0,0⟩)
abbrev zA:Ay:=top 1
abbrev qD:Ay:=top 2
abbrev Jb:Ay:=top 5
abbrev Ga:Ay:=top 9
abbrev WA:Ay:=top 10
abbrev qE:Ay:=top 11
abbrev J4:Ay:=top 18
abbrev WC:Ay:=top 19
abbrev J5:Ay:=top 20
abbrev WD:Ay:=top 21
abbrev WE:Ay:=top 23
abbrev qF:Ay:=top 29
abbrev zB:Ay:=top 33
abbrev J6:Ay:=top 35
abbrev Xf:Ay:=top 39
abbrev qG:Ay:=top 40
abbrev jv:Ay:=top 47
abbrev zC:Ay:=top 49
abbrev J7:Ay:=top 51
abbrev Gy:Ay:=top 53
abbrev zD:Ay:=top 54
abbrev qH:Ay:=top 56
abbrev Jj:Ay:=top 60
abbrev Gz:Ay:=top 61
abbrev G1:Ay:=top 62
abbrev J8:Ay:=top 64
abbrev Gb:Ay:=top 65
abbrev wG:Ay:=top 66
abbrev Xw:Ay:=top 8
abbrev zE:Ay:=top 22
abbrev yA:Ay:=top 24
abbrev XG:Ay:=top 30
abbrev qI:Ay:=top 32
abbrev J9:Ay:=top 34
abbrev zF:Ay:=top 50
abbrev qJ:Ay:=top 55
abbrev Wl:Ay:=top 57
abbrev Jc:Ay:=top 58
abbrev zG:Ay:=top 63
abbrev We:Ay:=top 26
abbrev Gd:Ay:=top 42
abbrev qK:Ay:=top 59
abbrev yB:Ay:=top 31
abbrev Xx:Ay:=top 4
abbrev qL:Ay:=top 7
abbrev ZY:Ay:=top 38
abbrev WG:Ay:=top 37
abbrev Wn:Ay:=top 46
abbrev Xj:Ay:=top 48
abbrev yC:Ay:=top 44
abbrev zH:Ay:=top 45
abbrev Zfa:Ay:=top 67
def Yr:Pos:=⟨30,50,30,102⟩
def Ys:Str:=(("least" : Str) ++ ".<locals>.") ++ "<lambda>"
def Zt:Pos:=⟨157,4,161,77⟩
def Zs:Str:=(("machine_telling" : Str) ++ ".<locals>.") ++ "step_of"
abbrev YH:Ay:=(Xn ZY).getD 3 (.Pass ⟨0,0,0,0⟩)
def Zc{p:Aw}{o:HO}(h:H p=none):Z9 H (upd H p o):=fun b u e=>by rw[Zk (Zm e h)];exact e
def GW(w:Nat):(0:Int)<2^w:=by
 have h2:((2:Int)^w)=(((2:Nat)^w:Nat):Int):=by rfl
 have:=Qhn w;rw[h2];lia
def pow_succ'(w:Nat):(2:Int)^(w+1)=2^w*2:=Qeg 2 w
def xG(w:Nat)(r:Int):Ak:=(List.range w).map fun i=>r/2^i%2
def vU{u:TS}{r:VK}{b c:A1}{σ:L2.St}(J:A1)(h1:∀N:A1,(∀σ H,J σ H->N σ H)->q {Y with nx:=N} σ H)(h2:∀σ H,J σ H->u Y σ H):({nx:=ZZ q u Y,rt:=r,bk:=b,ct:=c}:Ends).nx σ H:=h1 _ h2
def Zg{v:V}{Q:A1}(h:Q (c.set i (some v)) H):Wv i v c H Q:=h
theorem ZS{p:Aw}{o:HO}(s:Z9 H E)(q:H p=none):Z9 H (upd E p o):=fun b u e=>by
 rw[Zk (Zm e q)];exact s b u e
def ZA{ns:Ak}(j:Nat)(C:z=(j:Int))(q:j<ns.length):atI (ns.map V.int) z=some (.int (ns.getD j 0)):=by
 subst C;refine YC ?_;rw[Qah,Qac q,Qaf,Qac q];rfl
def Zjm{z:Str}{i:Int}(n:Nat)(C:z.cps.toList.length=n)(D:0<=i)(h1:i<(n:Int)):∃c,c∈z.cps.toList/\atI z.cps.toList i=some c:=by
 obtain⟨j,rfl⟩:∃j:Nat,i=(j:Int):=⟨i.toNat,by lia⟩;have q:j<z.cps.toList.length:=by lia
 exact⟨z.cps.toList[j],Qbu q,YC (Qac q)⟩
def Zk0(xs:List d)(lo hi:Option Int):List d:=(xs.drop (HT.sIx xs.length 0 lo)).take (HT.sIx xs.length xs.length hi-HT.sIx xs.length 0 lo)
def X7(f:d->V)(xs:List d)(lo hi:Option Int):uL (xs.map f) lo hi=(Zk0 xs lo hi).map f:=by
 unfold uL Zk0;rw[Qab,Qdm,Qdw]
def XU(xs:List d)(k:Nat):(Zk0 xs none (some (k:Int)))=xs.take k:=by
 unfold Zk0;rw[HT.sIx_none,HT.sIx_nat,Qep,Qho,<-List.take_take,Qb7]
def yD(xs:List d)(k:Nat):(Zk0 xs (some (k:Int)) none)=xs.drop k:=by
 unfold Zk0;rw[HT.sIx_none,HT.sIx_nat,Qcz (by rw[Qbr];lia)]
 by_cases h:k<=xs.length
 ·rw[Qey h]
 ·rw[Nat.min_eq_right (by lia),Qen,List.drop_eq_nil_of_le (by lia)]
def fI(g:Int->V):V->V
 |.int x=>g x
 |v=>v
def len_signs(a:Str):a.length=a.cps.toList.length:=by
 unfold Str.length;rw[Qbk]
def uN:Str:= "abcdefghijklmnopqrstuvwxyz"
def Low(c:Nat):Prop:=c∈uN.cps.toList
instance (c:Nat):Decidable (Low c):=inferInstanceAs (Decidable (c∈_))
def ZK:Ai:=["not","neg","twice","low","and","or","odd","add","sub","pick","same","under","beneath","sign","nought","both","either","so","never","yes"]
def NmL(y:Str):Prop:=(1<=y.length/\y.length<=8)/\∀c∈y.cps.toList,Low c
instance (y:Str):Decidable (NmL y):=inferInstanceAs (Decidable (_/\_))
structure NmS(y:Str):Prop where
 l:NmL y
 k:y∉ZK
def Zjn:uN.cps.toList.length=26:=by decide +kernel
def Zfb:uN.length<=sizeLine:=by decide +kernel
def Zfc:∀y∈ZK,(1<=y.length/\y.length<=7)/\∀c∈y.cps.toList,Low c:=by decide +kernel
def low_at{i:Int}(C:0<=i)(h1:i<26):∃c,Low c/\atI uN.cps.toList i=some c:=by
 obtain⟨c,q,e⟩:=Zjm (z:=uN) (i:=i) 26 Zjn C h1;exact⟨c,q,e⟩
def Zb1(c:Nat):(⟨#[c]⟩:Str).length=1:=rfl
theorem ZC(y:Str):∀ys:Ai,inV (.str y) (ys.map V.str)=decide (y∈ys)
 |[]=>rfl
 |z::r=>by
  have e:inV (.str y) ((z::r).map V.str)=((z == y)||inV (.str y) (r.map V.str)):=rfl;rw[e,ZC y r]
  by_cases h:z=y
  ·grind
  ·grind
def Zb2(ys:Ai):(ys.map V.str).all YM=true:=by
 rw[List.all_map];exact Qcb.mpr fun _ _=>rfl
def Ge{c:TT}{σ:L2.St}(D:A1)(μ:L2.St->Hp->Nat)(G:D σ H)
  (hs:∀σ H,D σ H->c σ H fun b H1=>if b=true then∃N:A1,(∀C H',N C H'->∃F,F<μ σ H/\F=μ C H'/\D C H')/\q {Y with nx:=N,ct:=N,bk:=Y.nx} σ H1 else Y.nx σ H1):uU c q Y σ H:=by
 refine⟨fun m σ H=>m=μ σ H/\D σ H,⟨_,rfl,G⟩,?_⟩;rintro m σ H ⟨rfl,p⟩;exact hs σ H p
def LeafOk(ys:Ai)(v:V):Prop:=(∃y∈ys,v=.str y)\/∃z:Int,v=.int z/\0<=z/\z<1000
def sumT:List (Str×Nat):=[("not",1),("neg",1),("twice",1),("low",1),("and",2),("or",2),("odd",2),("add",2),("sub",2),("pick",3)]
def JA:Ai:=sumT.map (·.1)
def Yp(y:Str):Nat:=((sumT.find? fun p=>decide (p.1=y)).map (·.2)).getD 0
def partsV:V->Nat
 |.str y=>Yp y
 |_=>0
def Zgy(ys:Ai)(v:V):Prop:=(∃y,v=.str y/\y∈JA)\/LeafOk ys v
def GX:∀y∈JA,y∈ZK:=by decide +kernel
def T1:List (Str×Int):=[("not",1),("neg",1),("twice",1),("low",1),("and",2),("or",2),("odd",2),("add",2),("sub",2),("pick",3)]
def T2:List (Str×Int):=[("same",2),("under",2),("beneath",2),("sign",1),("nought",1)]
def T3:List (Str×Int):=[("both",2),("either",2),("so",2),("never",1),("yes",0)]
def Z5:Ai:=["same","under","beneath","sign","nought","both","either","so","never","yes"]
theorem Zgz(l:List (Str×Int))(y:Str):(Yj (kvsOf l) (.inr y)).isSome=decide (y∈l.map (·.1)):=by
 induction l with
 |nil=>rfl
 |cons p r q=>
  by_cases h:p.1=y
  ·have e:Yj (kvsOf (p::r)) (.inr y)=some (.int p.2):=Yk (p:=((Sum.inr p.1:Key),V.int p.2)) (by rw[h]);rw[e,Qbx,Qan (by rw[h];exact Qai)];rfl
  ·have e:Yj (kvsOf (p::r)) (.inr y)=Yj (kvsOf r) (.inr y):=Yf (p:=((Sum.inr p.1:Key),V.int p.2)) (fun z=>h (Sum.inr.inj z))
   by_cases m:y∈r.map (·.1)
   ·grind
   ·grind
def Jk:List (Str×Int)->Key->Int
 |[],_=>0
 |p::r,k=>if(Sum.inr p.1:Key)=k then p.2 else Jk r k
theorem kget(l:List (Str×Int))(k:Key):(Yj (kvsOf l) k).getD (.int 0)=.int (Jk l k):=by
 induction l with
 |nil=>rfl
 |cons p r q=>
  unfold Jk
  by_cases h:(Sum.inr p.1:Key)=k
  ·have e:Yj (kvsOf (p::r)) k=some (.int p.2):=Yk (p:=((Sum.inr p.1:Key),V.int p.2)) h;rw[e,Qa3 h];rfl
  ·have e:Yj (kvsOf (p::r)) k=Yj (kvsOf r) k:=Yf (p:=((Sum.inr p.1:Key),V.int p.2)) h;rw[e,q,Qax h]
theorem getN_int(l:List (Str×Int))(i:Int):Jk l (.inl i)=0:=by
 induction l with
 |nil=>rfl
 |cons p r q=>
  unfold Jk;rw[Qax (fun z=>nomatch z),q]
theorem qM{l:List (Str×Int)}{y:Str}(h:y∉l.map (·.1)):Jk l (.inr y)=0:=by
 induction l with
 |nil=>rfl
 |cons p r q=>
  unfold Jk;rw[Qax (fun z=>h (by grind)),q (fun z=>h (Qal _ z))]
def X8(k:Key):Int:=Jk T1 k+Jk T2 k+Jk T3 k
def tw1:T1.map (·.1)=JA:=by decide +kernel
def vV:∀y,y∈ZK↔y∈JA\/y∈Z5:=by
 intro y;have e:ZK=JA++Z5:=by decide +kernel
 rw[e,Qbd]
def jw:(∀y∈T1.map (·.1),y∈ZK)/\(∀y∈T2.map (·.1),y∈ZK)/\∀y∈T3.map (·.1),y∈ZK:=by decide +kernel
def keyOf:V->Key
 |.int i=>.inl i
 |.str y=>.inr y
 |_=>.inl 0
def Zjo(x:Str)(c:Nat):(!(Builtin.Str.occurrences x ⟨#[c]⟩ 0 x.length 1).isEmpty)=decide (c∈x.cps.toList):=by
 have h:=PyProof.Rows.in_closes (x:=x) (c:=c) rfl rfl;rw[beq_iff_eq]at h;rw[h]
 by_cases m:c∈x.cps.toList
 ·rw[Qan m,Qan ((PyProof.Rows.countIn_signs c _).mpr m)]
 ·rw[Qap m,Qap (fun z=>m ((PyProof.Rows.countIn_signs c _).mp z))]
def zI(y q:Str):Prop:=y.cps.toList≠[]/\∀c∈y.cps.toList,c∈q.cps.toList
instance (y sg:Str):Decidable (zI y sg):=inferInstanceAs (Decidable (_/\_))
def all_bs(l:Aj)(p:Nat->Bool):(l.map p).all id=decide (∀c∈l,p c=true):=by
 rw[Qdo,Qcb,Qd4];constructor
 ·intro h c q;exact h _ (Qb6 q)
 ·grind
def qN {y:Str}:y.cps.toList=[]↔y=("" : Str):=by
 constructor
 ·intro h;obtain⟨a⟩:=y;have:a=#[]:=by
   grind
  subst this;decide +kernel
 ·rintro rfl;decide +kernel
def nmB:V->Bool
 |.str y=>decide (y∉ZK/\NmL y)
 |_=>false
def Zdz:V->Str
 |.str y=>y
 |_=> ""
def zJ(w:V):Prop:=(∃y,w=.str y/\y.length<=1000)\/∃z,w=.int z
theorem yE(ys:Ai):(XO ys).length<=ys.length:=by
 have h:∀(ys S:Ai),(ys.foldl ins S).length<=S.length+ys.length:=by
  intro ys
  induction ys with
  |nil=>intro S;exact Qak _
  |cons y r q=>
   intro S;have h1:=q (ins S y);have h2:(ins S y).length<=S.length+1:=by
    unfold ins;split
    ·lia
    ·grind
   rw[Qc1,Qba];lia
 have:=h ys [];rw[Qev,Qfg]at this;exact this
def Zjp(q:A2):((q.filter nmB).map Zdz).map V.str=q.filter nmB:=by
 rw[Qaw];refine(Qbo (g:=id) fun w hw=>?_).trans (Qgh _);have h:=(Qdn.mp hw).2;cases w with
 |str y=>rfl
 |_=>cases h
def Zl2(ys:Ai)(w:V):Prop:=Zgy ys w\/∃y,w=.str y/\y∈Z5
def YU:∀y∈Z5,y∈ZK:=by decide +kernel
def WB(ys:Ai):Bool->V->Prop
 |true,w=>∃y,w=.str y/\y∈Z5
 |false,w=>Zgy ys w
def WB.cw{ys:Ai}{b:Bool}{w:V}(h:WB ys b w):Zl2 ys w:=by
 cases b with
 |true=>exact .inr h
 |false=>exact .inl h
def JB(w:V):Nat:=(Jk T1 (keyOf w)+Jk T2 (keyOf w)).toNat
def jx(w:V):Nat:=(Jk T3 (keyOf w)).toNat
def nextK(w:V):Am:=List.replicate (JB w) false++List.replicate (jx w) true
inductive Zjq(ys:Ai):Am->List V->List Bool->Prop
 |nil {ls:Am}:Zjq ys ls [] ls
 |cons {ls e:Am} {b:Bool} {w:V} {r:A2}:WB ys b w->Zjq ys (ls++nextK w) r e->Zjq ys (ls++[b]) (w::r) e
theorem Zjq.words{ys:Ai}{a b:Am}{u:A2}(h:Zjq ys a u b):∀w∈u,Zl2 ys w:=by
 induction h with
 |nil=>exact fun _ h=>nomatch h
 |cons hw _ C=>
  intro x q;rcases Qao.mp q with rfl|q
  ·exact hw.cw
  ·exact C x q
theorem vW{l:List (Str×Int)}(h:∀p∈l,0<=p.2/\p.2<=3)(k:Key):0<=Jk l k/\Jk l k<=3:=by
 induction l with
 |nil=>exact⟨Int.le_refl _,(by decide:(0:Int)<=3)⟩
 |cons p r q=>
  unfold Jk;split
  ·exact h p Qai
  ·grind
def Zl3(k:Key):0<=Jk T1 k/\Jk T1 k<=3:=vW (by decide +kernel) k
def Zl4(k:Key):0<=Jk T2 k/\Jk T2 k<=3:=vW (by decide +kernel) k
def Zl5(k:Key):0<=Jk T3 k/\Jk T3 k<=3:=vW (by decide +kernel) k
def npw(w:V):Nat:=(X8 (keyOf w)).toNat
def qO(k:Key):0<=X8 k/\X8 k<=9:=by
 have h1:=Zl3 k;have h2:=Zl4 k;have q:=Zl5 k;unfold X8;lia
def Zfd(w:V):(nextK w).length=npw w:=by
 have h1:=Zl3 (keyOf w);have h2:=Zl4 (keyOf w);have q:=Zl5 (keyOf w);unfold nextK npw JB jx X8;rw[Qaj,Qa1,Qa1];lia
def Zjr(h:i<r.length):(r.drop i).reverse=(r.drop (i+1)).reverse++[r[i]]:=by
 rw[Qc2 h,Qcq]
def Xc(l:A2)(y:V):(l++[y])[(l++[y]).length-1]?=some y:=by grind
def Zg0{x:V}(h:r.reverse[i]?=some x):i<r.length/\r[r.length-1-i]?=some x:=by grind
def LsAt(ys:Ai)(C:A2)(ls:Nat->List Bool):Prop:=ls C.length=[]/\∀i x,C[i]?=some x->∃q b,ls i=q++[b]/\WB ys b x/\ls (i+1)=q++nextK x
theorem Zjq.at{ys:Ai}{a e:Am}{F:A2}(h:Zjq ys a F e)(C:e=[]):∃ls,LsAt ys F ls/\ls 0=a:=by
 induction h with
 | @nil ls=>
  subst C;exact⟨fun _=>[],⟨rfl,fun i x q=>by simp at q⟩,rfl⟩
 | @cons D e b w r hw _ I=>
  obtain⟨ls,⟨h1,h2⟩,G⟩:=I C;refine⟨fun i=>match i with|0=>D++[b]|i+1=>ls i,⟨h1,fun i x q=>?_⟩,rfl⟩;cases i with
  |zero=>
   have:w=x:=by simpa using q
   subst this;exact⟨D,b,rfl,hw,G⟩
  |succ i=>exact h2 i x (by simpa using q)
def iV:V->Int
 |.int a=>a
 |_=>0
def bV:V->Bool
 |.bl b=>b
 |_=>false
def Zk1 (y:Str) (a:Int):Int:=if y = "not" then Builtin.bitNot a else if y = "neg" then -a else if y = "twice" then a+a else Builtin.bitAnd a (-a)
def Zl6 (y:Str) (a b:Int):Int:=if y = "and" then Builtin.bitAnd a b else if y = "or" then Builtin.bitOr a b else if y = "odd" then Builtin.bitXor a b else if y = "add" then a+b else a-b
def wwv(ρ:Str->Int):V->List Int->Int
 |.int z,_=>z
 |.str y,[]=>ρ y
 |.str y,[a]=>Zk1 y a
 |.str y,[a,b]=>Zl6 y a b
 |.str _,a::b::c::_=>Builtin.bitOr (Builtin.bitAnd a b) (Builtin.bitAnd (Builtin.bitNot a) c)
 |_,_=>0
def sgn(m a:Int):Int:=if a*2>=m then a-m else a
def xH(m:Int)(y:Str)(xs:Ak):Bool:=
 if y = "nought" then decide (xs.getD 0 0=0)else if y = "sign" then decide (sgn m (xs.getD 0 0)<0)else if y = "same" then decide (xs.getD 0 0=xs.getD 1 0)
 else if y = "under" then decide (xs.getD 0 0<xs.getD 1 0)else decide (sgn m (xs.getD 0 0)<sgn m (xs.getD 1 0))
def Zmp(y:Str)(bs:Am):Bool:=
 if y = "yes" then true else if y = "never" then !(bs.getD 0 false)else if y = "both" then bs.getD 0 false&&bs.getD 1 false else if y = "either" then bs.getD 0 false||bs.getD 1 false else bs.getD 1 false || !(bs.getD 0 false)
def cvV(m:Int)(ρ:Str->Int)(w:V)(xs:A2):V:=
 match w with
 |.str y=>if y∈Z5 then(if 0<JB w then .bl (xH m y (xs.map iV))else .bl (Zmp y (xs.map bV)))else .int (wwv ρ w (xs.map iV)%m)
 |_=>.int (wwv ρ w (xs.map iV)%m)
def XW(m:Int)(ρ:Str->Int)(C:A2)(q:A2):A2:=C.foldr (fun w s=>cvV m ρ w (s.take (npw w))::s.drop (npw w)) q
def Xd(m:Int)(ρ:Str->Int)(w:V)(r q:A2):XW m ρ (w::r) q=cvV m ρ w ((XW m ρ r q).take (npw w))::(XW m ρ r q).drop (npw w):=rfl
def clK:Key->Bool
 |.inr y=>decide (y∈Z5)
 |.inl _=>false
def Zl7(m n:Nat):(m &&& n)/2=m/2 &&& n/2/\(m &&& n)%2=m%2*(n%2):=by
 refine⟨Nat.and_div_two_pow (n:=1),?_⟩;have h:=Nat.and_mod_two_pow (a:=m) (b:=n) (n:=1);rw[h];rcases Qcw m with e|e<;>rcases Qcw n with f|f<;>rw[e,f]<;>rfl
def n_or(m n:Nat):(m ||| n)/2=m/2 ||| n/2/\(m ||| n)%2=m%2+n%2-m%2*(n%2):=by
 refine⟨Nat.or_div_two_pow (n:=1),?_⟩;have h:=Nat.or_mod_two_pow (a:=m) (b:=n) (n:=1);rw[h];rcases Qcw m with e|e<;>rcases Qcw n with f|f<;>rw[e,f]<;>rfl
def bA_pp(m n:Nat):Builtin.bitAnd m n=((m &&& n:Nat):Int):=by
 rfl
def wH(n:Nat):¬(0:Int)<=-(n:Int)-1:=by lia
def wI(n:Nat):(Builtin.bitNot (-(n:Int)-1)).toNat=n:=by
 unfold Builtin.bitNot;lia
def Zl8(m n:Nat):Builtin.bitAnd m (-(n:Int)-1)=(m:Int)-((m &&& n:Nat):Int):=by
 unfold Builtin.bitAnd;rw[Qan (Qde m),Qap (wH n)];rw[wI];rfl
def Zjs(m n:Nat):Builtin.bitAnd (-(m:Int)-1) n=(n:Int)-((n &&& m:Nat):Int):=by
 unfold Builtin.bitAnd;rw[Qan (Qde n),Qap (wH m)];rw[wI];rfl
def Zl9(m n:Nat):Builtin.bitAnd (-(m:Int)-1) (-(n:Int)-1)=-((m ||| n:Nat):Int)-1:=by
 unfold Builtin.bitAnd;rw[Qap (wH n),Qap (wH m)];rw[wI,wI];rfl
def jy(a:Int):(∃m:Nat,a=m)\/∃m:Nat,a=-(m:Int)-1:=by
 by_cases h:0<=a
 ·exact .inl ⟨a.toNat,by lia⟩
 ·exact .inr ⟨(-a-1).toNat,by lia⟩
def uf(a:Int):a%2=0\/a%2=1:=by lia
def sub2(m A:Int)(h:A%2=0\/m%2=1):(m-A)/2=m/2-A/2/\(m-A)%2=m%2-A%2:=by lia
def cast2(m:Nat):(m:Int)/2=((m/2:Nat):Int)/\(m:Int)%2=((m%2:Nat):Int):=⟨rfl,rfl⟩
def Zd0(x:Int):(-x-1)/2=-(x/2)-1/\(-x-1)%2=1-x%2:=by lia
def Zma(m n:Nat):(((m &&& n:Nat):Int))/2=((m/2 &&& n/2:Nat):Int)/\(((m &&& n:Nat):Int))%2=(m:Int)%2*((n:Int)%2):=by
 rw[(cast2 _).1,(cast2 _).2,(Zl7 m n).1,(Zl7 m n).2,Int.natCast_mul];exact⟨rfl,rfl⟩
def take2(m n:Nat):((m:Int)-((m &&& n:Nat):Int))/2=((m/2:Nat):Int)-((m/2 &&& n/2:Nat):Int)/\((m:Int)-((m &&& n:Nat):Int))%2=(m:Int)%2*(1-(n:Int)%2):=by
 have l:=Zma m n;have h:((m &&& n:Nat):Int)%2=0\/(m:Int)%2=1:=by
  grind
 have z:=sub2 _ _ h;rw[z.1,z.2,l.1,l.2];refine⟨rfl,?_⟩;rcases uf (m:Int)with e|e<;>rcases uf (n:Int)with f|f<;>rw[e,f]<;>rfl
def Zk2(a b:Int):Builtin.bitAnd a b/2=Builtin.bitAnd (a/2) (b/2)/\Builtin.bitAnd a b%2=a%2*(b%2):=by
 rcases jy a with⟨m,rfl⟩|⟨m,rfl⟩<;>rcases jy b with⟨n,rfl⟩|⟨n,rfl⟩
 ·exact Zma m n
 ·rw[(cast2 m).1,(Zd0 _).1,(Zd0 _).2,(cast2 n).1,Zl8,Zl8];exact take2 m n
 ·rw[(cast2 n).1,(Zd0 _).1,(Zd0 _).2,(cast2 m).1,Zjs,Zjs,Qez];exact take2 n m
 ·rw[(Zd0 (m:Int)).1,(Zd0 (m:Int)).2,(Zd0 (n:Int)).1,(Zd0 (n:Int)).2,(cast2 m).1,(cast2 n).1,Zl9,Zl9,(Zd0 _).1,(Zd0 _).2,(cast2 _).1,(cast2 _).2,(n_or m n).1,(n_or m n).2];refine⟨rfl,?_⟩;rw[(cast2 m).2,(cast2 n).2];rcases Qcw m with e|e<;>rcases Qcw n with f|f<;>rw[e,f]<;>rfl
def Zg1(a:Int):Builtin.bitNot a/2=Builtin.bitNot (a/2)/\Builtin.bitNot a%2=1-a%2:=by
 unfold Builtin.bitNot;lia
def or2(a b:Int):Builtin.bitOr a b/2=Builtin.bitOr (a/2) (b/2)/\Builtin.bitOr a b%2=1-(1-a%2)*(1-b%2):=by
 unfold Builtin.bitOr;have h:=Zk2 (Builtin.bitNot a) (Builtin.bitNot b);rw[(Zg1 a).1,(Zg1 b).1,(Zg1 a).2,(Zg1 b).2]at h;rw[(Zg1 _).1,(Zg1 _).2,h.1,h.2];exact⟨rfl,rfl⟩
def xor2(a b:Int):Builtin.bitXor a b/2=Builtin.bitXor (a/2) (b/2)/\Builtin.bitXor a b%2=(a%2+b%2)%2:=by
 unfold Builtin.bitXor;have h:=Zk2 a b;have g:=or2 a b;have q:Builtin.bitAnd a b%2=0\/Builtin.bitOr a b%2=1:=by
  rw[h.2,g.2];rcases uf a with e|e<;>rcases uf b with f|f<;>rw[e,f]<;>decide
 have z:=sub2 _ _ q;rw[z.1,z.2,h.1,h.2,g.1,g.2];refine⟨rfl,?_⟩;rcases uf a with e|e<;>rcases uf b with f|f<;>rw[e,f]<;>rfl
def qP(w:Nat)(n:Int):xG (w+1) n=n%2::xG w (n/2):=by
 unfold xG;rw[List.range_succ_eq_map,Qbx,Qaw,Qds,Qca];congr 1;refine Qbo fun i _=>?_;show n/2^(i+1)%2=n/2/2^i%2;rw[Qeg,Qez,Qdf (by decide:(0:Int)<=2)]
theorem Zfe(w:Nat)(n:Int):xG w (n%2^w)=xG w n:=by
 induction w generalizing n with
 |zero=>rfl
 |succ w C=>
  rw[qP,qP,<-C (n/2)];have e1:n%2^(w+1)%2=n%2:=by
   rw[Int.emod_emod_of_dvd];exact⟨2^w,by rw[Qeg,Qez]⟩
  have e2:n%2^(w+1)/2=n/2%2^w:=by
   have q:(0:Int)<2^w:=Qe0 (by decide);have h2:=Qda (n/2) (2^w);have D:=Qbz (n/2) (Qfi q);have F:=Qb0 (n/2) q;have e:n%2^(w+1)=n%2+2*(n/2%2^w):=by
    have:n=n%2+2*(n/2%2^w)+2^(w+1)*(n/2/2^w):=by
     grind
    conv=>lhs;rw[this]
    rw[Qcf];refine Qdb (by lia) ?_;lia
   rw[e];lia
  rw[e1,e2]
def bits_getD(w:Nat)(n:Int)(i:Nat)(h:i<w):(xG w n).getD i 0=n/2^i%2:=by
 unfold xG;rw[Qaf,Qah,Qel h];rfl
theorem yF(w:Nat)(n:Int):(xG w n).foldr (fun b t=>2*t+b) 0=n%2^w:=by
 induction w generalizing n with
 |zero=>rw[Qds,Qgs];rfl
 |succ w C=>
  rw[qP,List.foldr_cons,C];have q:(0:Int)<2^w:=Qe0 (by decide);have h2:=Qda (n/2) (2^w);have D:=Qbz (n/2) (Qfi q);have F:=Qb0 (n/2) q;have:n=2*(n/2%2^w)+n%2+2^(w+1)*(n/2/2^w):=by
   grind
  conv=>rhs;rw[this]
  rw[Qcf];refine(Qdb (by lia) ?_).symm;lia
theorem Zb3{j:Nat}(h:i<=j):(2:Int)^i<=2^j:=by
 obtain⟨d,rfl⟩:∃d,j=i+d:=⟨j-i,by lia⟩;clear h
 induction d with
 |zero=>exact Int.le_refl _
 |succ d q=>
  lia
def bt(x:Int)(k:Nat):Int:=x/2^k%2
def YI(x:Int)(k:Nat):bt x (k+1)=bt (x/2) k:=by
 unfold bt;rw[Qeg,Qez,Qdf (by decide:(0:Int)<=2)]
def YJ(x:Int)(k:Nat):bt x k=0\/bt x k=1:=by
 unfold bt;lia
theorem YR(k:Nat):∀a b:Int,bt (Builtin.bitAnd a b) k=bt a k*bt b k:=by
 induction k with
 |zero=>
  intro a b;unfold bt;rw[Qds,Qca,Qca,Qca,(Zk2 a b).2]
 |succ k q=>
  intro a b;rw[YI,YI,YI,(Zk2 a b).1,q]
theorem G8(k:Nat):∀a b:Int,bt (Builtin.bitOr a b) k=1-(1-bt a k)*(1-bt b k):=by
 induction k with
 |zero=>
  intro a b;unfold bt;rw[Qds,Qca,Qca,Qca,(or2 a b).2]
 |succ k q=>
  intro a b;rw[YI,YI,YI,(or2 a b).1,q]
theorem qQ(k:Nat):∀a b:Int,bt (Builtin.bitXor a b) k=(bt a k+bt b k)%2:=by
 induction k with
 |zero=>
  intro a b;unfold bt;rw[Qds,Qca,Qca,Qca,(xor2 a b).2]
 |succ k q=>
  intro a b;rw[YI,YI,YI,(xor2 a b).1,q]
theorem JC(k:Nat):∀a:Int,bt (Builtin.bitNot a) k=1-bt a k:=by
 induction k with
 |zero=>
  intro a;unfold bt;rw[Qds,Qca,Qca,(Zg1 a).2]
 |succ k q=>
  intro a;rw[YI,YI,(Zg1 a).1,q]
def qR(k:Nat):bt 0 k=0:=by
 unfold bt;rw[Int.zero_ediv];rfl
theorem Zb4(k:Nat):bt (-1) k=1:=by
 induction k with
 |zero=>rfl
 |succ k q=>rw[YI];exact q
def qS(x:Int)(w k:Nat)(h:k<w):bt (x%2^w) k=bt x k:=by
 have e:=Zfe w x;have h1:=bits_getD w (x%2^w) k h;have h2:=bits_getD w x k h;rw[e,h2]at h1;exact h1.symm
def lo(x:Int)(k:Nat):Int:=x%2^k
def xI(x:Int)(k:Nat):0<=lo x k/\lo x k<2^k:=⟨Qbz _ (Qfi (Qe0 (by decide))),Qb0 _ (Qe0 (by decide))⟩
def qT(x:Int)(k:Nat):lo x (k+1)=lo x k+2^k*bt x k:=by
 unfold lo bt;have q:(0:Int)<2^k:=Qe0 (by decide);have e1:=Qda x (2^k);have D:=Qbz x (Qfi q);have b1:=Qb0 x q;have e3:x=(x%2^k+2^k*(x/2^k%2))+2^(k+1)*(x/2^k/2):=by
  grind
 conv=>lhs;rw[e3]
 rw[Qcf];have C:x/2^k%2=0\/x/2^k%2=1:=by lia
 refine Qdb ?_ ?_
 ·rcases C with h|h<;>rw[h]<;>lia
 ·grind
def Zjt(x:Int)(k:Nat):x=lo x k+2^k*(x/2^k):=(Qda x (2^k)).symm
def bt_sum{x y:Int}{k:Nat}{c:Int}(C:c=0\/c=1)(e:lo z k+2^k*c=lo x k+lo y k)(D:z=x+y):bt z k=(bt x k+bt y k+c)%2:=by
 have q:(0:Int)<2^k:=Qe0 (by decide);have e1:=Zjt x k;have e2:=Zjt y k;have e3:=Zjt z k;have h:(2:Int)^k*(z/2^k)=2^k*(x/2^k+y/2^k+c):=by
  rw[Int.mul_add,Int.mul_add];lia
 have h2:=Int.eq_of_mul_eq_mul_left (Qfi q) h;unfold bt;rw[h2];lia
def cyA(x y:Int)(k:Nat):Int:=(lo x k+lo y k)/2^k
def Zb5(x y:Int)(k:Nat):lo (x+y) k+2^k*cyA x y k=lo x k+lo y k:=by
 have e:lo (x+y) k=(lo x k+lo y k)%2^k:=by
  unfold lo;rw[<-Int.emod_add_emod,<-Int.add_emod_emod]
 rw[e];exact Qda _ _
def Zb6(x y:Int)(k:Nat):cyA x y k=0\/cyA x y k=1:=by
 have q:(0:Int)<2^k:=Qe0 (by decide);have a:=xI x k;have b:=xI y k;have D:0<=cyA x y k:=Int.ediv_nonneg (by lia) (Int.le_of_lt q);have C:cyA x y k<2:=Int.ediv_lt_of_lt_mul q (by lia);lia
def Zg2(x y:Int)(k:Nat):bt (x+y) k=(bt x k+bt y k+cyA x y k)%2:=bt_sum (Zb6 x y k) (Zb5 x y k) rfl
def wJ(x y:Int):cyA x y 0=0:=by
 unfold cyA lo;rw[Qds,Qgs,Qgs];rfl
def wK(x y:Int)(k:Nat):cyA x y (k+1)=(bt x k+bt y k+cyA x y k)/2:=by
 have q:(0:Int)<2^k:=Qe0 (by decide);have e1:=qT x k;have e2:=qT y k;have e3:=Zb5 x y k;have b:=xI (x+y) k;have e:lo x (k+1)+lo y (k+1)=lo (x+y) k+2^k*(bt x k+bt y k+cyA x y k):=by
  lia
 unfold cyA;rw[e,Qeg,<-Qdf (Int.le_of_lt q),Qf2 _ _ (Qfi q),Qb3 b.1 b.2,Qhp];rfl
def brA(x y:Int)(k:Nat):Int:=if lo x k<lo y k then 1 else 0
def wL(x y:Int)(k:Nat):brA x y k=cyA (x-y) y k:=by
 have e:=Zb5 (x-y) y k;have b:=xI (x-y) k;unfold brA;rcases Zb6 (x-y) y k with h|h<;>rw[h]at e ⊢
 ·rw[Qax (by lia)]
 ·rw[Qa3 (by lia)]
def yG(x y:Int)(k:Nat):brA x y k=0\/brA x y k=1:=by
 unfold brA;split
 ·exact .inr rfl
 ·exact .inl rfl
def Zb7(x y:Int)(k:Nat):bt (x-y) k=(bt x k+bt y k+brA x y k)%2:=by
 have h:=Zg2 (x-y) y k;rw[Int.sub_add_cancel,<-wL]at h;have a:=YJ (x-y) k;rw[h];lia
def wM(x y:Int):brA x y 0=0:=by
 rw[wL,wJ]
def wN(x y:Int)(k:Nat):brA x y (k+1)=1-(1-(1-bt x k)*bt y k)*(1-brA x y k*(1-(bt x k+bt y k)%2)):=by
 rw[wL,wK,<-wL,Zb7];rcases YJ x k with a|a<;>rcases YJ y k with b|b<;>rcases yG x y k with c|c<;>rw[a,b,c]<;>rfl
def nzA(x:Int)(k:Nat):Int:=brA 0 x k
def Zb8(x:Int)(k:Nat):nzA x k=0\/nzA x k=1:=yG 0 x k
def Zff(x:Int):nzA x 0=0:=wM 0 x
def Zfg(x:Int)(k:Nat):nzA x (k+1)=1-(1-bt x k)*(1-nzA x k):=by
 unfold nzA;rw[wN,qR];rcases YJ x k with a|a<;>rcases yG 0 x k with c|c<;>rw[a,c]<;>rfl
def Zg3(x:Int)(k:Nat):bt (-x) k=(bt x k+nzA x k)%2:=by
 have h:=Zb7 0 x k;rw[Int.zero_sub,qR,Qhp]at h;exact h
def bt_low(x:Int)(k:Nat):bt (Builtin.bitAnd x (-x)) k=bt x k*(1-nzA x k):=by
 rw[YR,Zg3];rcases YJ x k with a|a<;>rcases Zb8 x k with c|c<;>rw[a,c]<;>rfl
def tw(x:Int):Nat->Int
 |0=>0
 |k+1=>bt x k
theorem tw_01(x:Int):∀k,tw x k=0\/tw x k=1
 |0=>.inl rfl
 |k+1=>YJ x k
theorem Zfh(x:Int):∀k,bt (x+x) k=tw x k
 |0=>by
  unfold bt;rw[Qds,Qca];show(x+x)%2=0;lia
 |k+1=>by
  rw[YI,show(x+x)/2=x by lia];rfl
def hld(y:Str)(is:Ak)(k:Nat):Int:=
 if y = "twice" then tw (is.getD 0 0) k else if y = "neg" \/ y = "low" then nzA (is.getD 0 0) k else if y = "add" then cyA (is.getD 0 0) (is.getD 1 0) k else brA (is.getD 0 0) (is.getD 1 0) k
def qU:Ai:=["neg","twice","low","add","sub"]
def once(y:Str)(bs:Ak):Int:=
 if y = "not" then 1-bs.getD 0 0 else if y = "and" then bs.getD 0 0*bs.getD 1 0 else if y = "or" then 1-(1-bs.getD 0 0)*(1-bs.getD 1 0)else if y = "odd" then(bs.getD 0 0+bs.getD 1 0)%2
 else 1-(1-bs.getD 0 0*bs.getD 1 0)*(1-(1-bs.getD 0 0)*bs.getD 2 0)
def ans1(y:Str)(bs:Ak)(h:Int):Int:=
 if y = "twice" then h else if y = "neg" then(bs.getD 0 0+h)%2 else if y = "low" then bs.getD 0 0*(1-h)else(bs.getD 0 0+bs.getD 1 0+h)%2
def WH(is:Ak)(k i:Nat):(is.map fun x=>bt x k).getD i 0=bt (is.getD i 0) k:=by
 rw[Qaf,Qaf,Qah];cases is[i]? with
 |none=>exact(qR k).symm
 |some x=>rfl
def rem_parts:∀y∈qU,y∈JA/\Yp y=(if y = "add" \/ y = "sub" then 2 else 1):=by decide +kernel
def zK:∀y∈JA,y∉qU->(y = "not" /\ Yp y=1)\/(y = "and" /\ Yp y=2)\/(y = "or" /\ Yp y=2)\/(y = "odd" /\ Yp y=2)\/(y = "pick" /\ Yp y=3):=by decide +kernel
def ans_ok(ρ:Str->Int){y:Str}(C:y∈qU){is:Ak}(q:is.length=Yp y)(k:Nat):ans1 y (is.map fun x=>bt x k) (hld y is k)=bt (wwv ρ (.str y) is) k:=by
 unfold qU at C;simp only[Qao,Qa8,Qdv]at C;rcases C with rfl|rfl|rfl|rfl|rfl
 ·match is,q with
  |[a],_=>exact(Zg3 a k).symm
 ·match is,q with
  |[a],_=>exact(Zfh a k).symm
 ·match is,q with
  |[a],_=>exact(bt_low a k).symm
 ·match is,q with
  |[a,b],_=>exact(Zg2 a b k).symm
 ·match is,q with
  |[a,b],_=>exact(Zb7 a b k).symm
def Zju(ρ:Str->Int){y:Str}(D:y∈JA)(C:y∉qU){is:Ak}(q:is.length=Yp y)(k:Nat):once y (is.map fun x=>bt x k)=bt (wwv ρ (.str y) is) k:=by
 rcases zK y D C with⟨rfl,e⟩|⟨rfl,e⟩|⟨rfl,e⟩|⟨rfl,e⟩|⟨rfl,e⟩<;>skip
 ·match is,q with
  |[a],_=>exact(JC k a).symm
 ·match is,q with
  |[a,b],_=>exact(YR k a b).symm
 ·match is,q with
  |[a,b],_=>exact(G8 k a b).symm
 ·match is,q with
  |[a,b],_=>exact(qQ k a b).symm
 ·match is,q with
  |[a,b,c],_=>
   show 1-(1-bt a k*bt b k)*(1-(1-bt a k)*bt c k)=bt (Builtin.bitOr (Builtin.bitAnd a b) (Builtin.bitAnd (Builtin.bitNot a) c)) k;rw[G8,YR,YR,JC]
def wO:A2->Nat
 |[]=>0
 |w::r=>wO r-npw w+1
def WI:A2->Prop
 |[]=>True
 |w::r=>npw w<=wO r/\WI r
def yH(ys:Ai)(B:Nat)(w:V):Prop:=(∃y,w=.str y/\y∈JA/\y∉ys/\npw w=Yp y)\/(∃y,w=.str y/\y∈ys/\y∉qU/\npw w=0)\/∃z:Int,w=.int z/\0<=z/\z<2^B/\npw w=0
def Zg4{B k:Nat}(C:0<=z)(h:z<2^B)(q:B<=k):bt z k=0:=by
 have D:(2:Int)^B<=2^k:=Zb3 q;unfold bt;rw[Qb3 C (by lia)];rfl
def Zmb(a b h:Int):Int:=Builtin.bitOr (Builtin.bitAnd (Builtin.bitNot a) b) (Builtin.bitAnd h (Builtin.bitNot (Builtin.bitXor a b)))
def allR:Ai:=["neg","twice","low","add","sub","same","under","beneath","nought"]
def Zjv:Ai:=["add","sub","same","under","beneath"]
def ktI(y:Str)(is:Ak)(h:Int):Int:=
 if y = "twice" then is.getD 0 0 else if y = "neg" \/ y = "low" \/ y = "nought" then Builtin.bitOr (is.getD 0 0) h else if y = "same" then Builtin.bitOr (Builtin.bitXor (is.getD 0 0) (is.getD 1 0)) h
 else if y = "add" then Builtin.bitOr (Builtin.bitAnd (is.getD 0 0) (is.getD 1 0)) (Builtin.bitAnd h (Builtin.bitOr (is.getD 0 0) (is.getD 1 0)))else Zmb (is.getD 0 0) (is.getD 1 0) h
def okI(y:Str)(is:Ak)(h n:Int):Int:=
 if y = "add" \/ y = "sub" then Builtin.bitXor (Builtin.bitXor (is.getD 0 0) (is.getD 1 0)) h else if y = "neg" then Builtin.bitXor (is.getD 0 0) h else if y = "twice" then h else if y = "low" then Builtin.bitAnd (is.getD 0 0) (Builtin.bitNot h)
 else if y = "same" \/ y = "nought" then Builtin.bitNot n else if y = "under" then n else Zmb (is.getD 1 0) (is.getD 0 0) h
def oaI(y:Str)(is:Ak):Int:=
 if y = "yes" then -1 else if y = "sign" then is.getD 0 0 else if y = "not" \/ y = "never" then Builtin.bitNot (is.getD 0 0)else if y = "and" \/ y = "both" then Builtin.bitAnd (is.getD 0 0) (is.getD 1 0)else if y = "or" \/ y = "either" then Builtin.bitOr (is.getD 0 0) (is.getD 1 0)
 else if y = "odd" then Builtin.bitXor (is.getD 0 0) (is.getD 1 0)else if y = "so" then Builtin.bitOr (Builtin.bitNot (is.getD 0 0)) (is.getD 1 0)else Builtin.bitOr (Builtin.bitAnd (is.getD 0 0) (is.getD 1 0)) (Builtin.bitAnd (Builtin.bitNot (is.getD 0 0)) (is.getD 2 0))
def Zb9 (y:Str):Nat:=if y = "yes" then 0 else if y = "sign" \/ y = "not" \/ y = "never" then 1 else if y = "pick" then 3 else 2
def Zca:∀y∈allR,¬y = "twice" ->¬(y = "neg" \/ y = "low" \/ y = "nought")->y∈Zjv:=by decide +kernel
def Zcb:Ai:=["not","and","or","odd","pick","both","either","so","never","yes","sign"]
def ug:∀y∈Zcb,¬y = "yes" ->¬y = "sign" ->¬(y = "not" \/ y = "never")->¬(y = "and" \/ y = "both")->¬(y = "or" \/ y = "either")->¬y = "odd" ->¬y = "so" ->3<=Zb9 y:=by decide +kernel
def qV{m:Nat}{is:Ak}(h:is.length=m)(h2:n<=m):n<=is.length:=by rw[h];exact h2
def and_zero(x:Int):Builtin.bitAnd x 0=0:=by
 rcases jy x with⟨m,rfl⟩|⟨m,rfl⟩
 ·rw[show(0:Int)=((0:Nat):Int)from rfl,bA_pp,Nat.and_zero]
 ·rw[show(0:Int)=((0:Nat):Int)from rfl,Zjs,Nat.zero_and];rfl
def and_1(x:Int):Builtin.bitAnd x 1=x%2:=by
 obtain⟨h1,h2⟩:=Zk2 x 1;rw[show(1:Int)/2=0 from rfl,and_zero]at h1;lia
def X9(ys:Ai)(cols:Str->Int)(pl:Nat)(kp:Ak):A2->List Int×Ak
 |[]=>([],[])
 |w::r=>
  let p:=X9 ys cols pl kp r
  match w with
  |.str y=>
   if y∈allR then(okI y (p.1.take (npw w)) (-(kp.getD p.2.length 0)) (ktI y (p.1.take (npw w)) (-(kp.getD p.2.length 0)))::p.1.drop (npw w),p.2++[ktI y (p.1.take (npw w)) (-(kp.getD p.2.length 0))])
   else if y∈ys then(cols y::p.1.drop (npw w),p.2)
   else(oaI y (p.1.take (npw w))::p.1.drop (npw w),p.2)
  |.int z=>(-(bt z pl)::p.1.drop (npw w),p.2)
  |_=>p
def Zcc(kvs:A0)(ys:Ai)(cols:Str->Int):Prop:=(∀y∈ys,Yj kvs (.inr y)=some (.int (cols y)))/\∀y,y∉ys->Yj kvs (.inr y)=none
def jz(ys:Ai)(w:V):Prop:=(∃y,w=.str y/\y∈allR/\y∉ys/\1<=npw w/\(y∈Zjv->2<=npw w))\/(∃y,w=.str y/\y∈Zcb/\y∉allR/\y∉ys/\npw w=Zb9 y)\/(∃y,w=.str y/\y∈ys/\y∉allR/\npw w=0)\/∃z:Int,w=.int z/\0<=z/\npw w=0
theorem j0{ys:Ai}{cols:Str->Int}{pl:Nat}{kp:Ak}:∀C:A2,(∀w∈C,jz ys w)->(X9 ys cols pl kp C).1.length=wO C
 |[],_=>rfl
 |w::r,hw=>by
  have F:=j0 (ys:=ys) (cols:=cols) (pl:=pl) (kp:=kp) r fun w h=>hw w (Qal _ h);have q:∀x:Int,(x::(X9 ys cols pl kp r).1.drop (npw w)).length=wO r-npw w+1:=fun x=>by grind
  rcases hw w Qai with⟨y,rfl,h1,_⟩|⟨y,rfl,h1,h2,D,_⟩|⟨y,rfl,h1,h2,_⟩|⟨z,rfl,_⟩
  ·show(if y∈allR then _ else _:Ak×Ak).1.length=_;rw[Qa3 h1];exact q _
  ·show(if y∈allR then _ else if y∈ys then _ else _:Ak×Ak).1.length=_;rw[Qax h2,Qax D];exact q _
  ·show(if y∈allR then _ else if y∈ys then _ else _:Ak×Ak).1.length=_;rw[Qax h2,Qa3 h1];exact q _
  ·exact q _
def yI(ys:Ai)(cols:Str->Int)(pl:Nat)(kp:Ak)(w:V)(r:A2):(X9 ys cols pl kp r).2.length<=(X9 ys cols pl kp (w::r)).2.length:=by
 cases w with
 |str y=>
  show _<=(if y∈allR then _ else if y∈ys then _ else _:Ak×Ak).2.length;split
  ·grind
  ·split<;>exact Qak _
 |_=>exact Qak _
theorem yJ(ys:Ai)(cols:Str->Int)(pl:Nat)(kp:Ak):∀(q:A2) (j:Nat),(X9 ys cols pl kp (q.drop j)).2.length<=(X9 ys cols pl kp q).2.length
 |[],j=>by rw[List.drop_nil];exact Qak _
 |w::r,0=>Qak _
 |w::r,j+1=>Qbc (yJ ys cols pl kp r j) (yI ys cols pl kp w r)
theorem qW:∀(q:A2) (j:Nat),WI q->WI (q.drop j)
 |[],j,_=>by rw[List.drop_nil];exact trivial
 |w::r,0,h=>h
 |w::r,j+1,h=>qW r j h.2
theorem vX:∀q:A2,wO q<=q.length
 |[]=>Qak _
 |w::r=>by
  have:=vX r;show wO r-npw w+1<=r.length+1;lia
def vY(z:Int)(ys:Ai):inV (.int z) (ys.map V.str)=false:=by
 cases q:inV (.int z) (ys.map V.str)with
 |false=>rfl
 |true=>
  obtain⟨x,C,e⟩:=Qcd.mp q;obtain⟨y,_,rfl⟩:=Qav.mp C;cases e
theorem wQ(ys:Ai)(cols:Str->Int)(pl:Nat)(kp:Ak):∀q:A2,(X9 ys cols pl kp q).2.length<=q.length
 |[]=>Qak _
 |w::r=>by
  have C:=wQ ys cols pl kp r;cases w with
  |str y=>
   show(if y∈allR then _ else if y∈ys then _ else _:Ak×Ak).2.length<=r.length+1;split
   ·grind
   ·split<;>exact Nat.le_succ_of_le C
  |_=>exact Nat.le_succ_of_le C
def vZ{x:Int}(h:x=0\/x=1)(l:Nat):bt (-x) l=x:=by
 rcases h with rfl|rfl
 ·exact qR l
 ·exact Zb4 l
def Zcd:∀y∈JA,(y∈allR↔y∈qU):=by decide +kernel
theorem j4(w:Nat):∀a b:Int,Builtin.bitAnd a b/2^w=Builtin.bitAnd (a/2^w) (b/2^w):=by
 induction w with
 |zero=>intro a b;rw[Qds,Qca,Qca,Qca]
 |succ w q=>
  intro a b;have d:∀x:Int,x/2^(w+1)=x/2/2^w:=fun x=>by rw[Qeg,Qez,Qdf (by decide:(0:Int)<=2)]
  rw[d,d,d,(Zk2 a b).1,q]
theorem Zg5(w:Nat):∀a b:Int,Builtin.bitOr a b/2^w=Builtin.bitOr (a/2^w) (b/2^w):=by
 induction w with
 |zero=>intro a b;rw[Qds,Qca,Qca,Qca]
 |succ w q=>
  intro a b;have d:∀x:Int,x/2^(w+1)=x/2/2^w:=fun x=>by rw[Qeg,Qez,Qdf (by decide:(0:Int)<=2)]
  rw[d,d,d,(or2 a b).1,q]
def yK{w:Nat}{x y:Int}(h:∀k,k<w->bt x k=bt y k):x%2^w=y%2^w:=by
 have e:xG w x=xG w y:=Qbo fun i hi=>h i (Qbt.mp hi);have h1:=yF w x;have h2:=yF w y;rw[e,h2]at h1;exact h1.symm
def Zfi{w:Nat}{a b c:Int}(F:0<=a)(a1:a<2^w)(G:0<=b)(b1:b<2^w)(J:0<=c)(L:c<2^w):Builtin.bitOr (Builtin.bitAnd a b) (Builtin.bitAnd (2^w-1-a) c)=Builtin.bitOr (Builtin.bitAnd a b) (Builtin.bitAnd (Builtin.bitNot a) c)%2^w:=by
 have D:Builtin.bitOr (Builtin.bitAnd a b) (Builtin.bitAnd (2^w-1-a) c)/2^w=0:=by
  rw[Zg5,j4,j4,Qb3 F a1,Qb3 G b1,Qb3 J L,Qb3 (by lia) (by lia)];rfl
 have q:=Qda (Builtin.bitOr (Builtin.bitAnd a b) (Builtin.bitAnd (2^w-1-a) c)) (2^w);rw[D,Int.mul_zero,Int.add_zero]at q;rw[<-q];refine yK fun k I=>?_;have C:bt (2^w-1-a) k=bt (Builtin.bitNot a) k:=by
  have e:2^w-1-a=Builtin.bitNot a%2^w:=by
   have e1:Builtin.bitNot a=(2^w-1-a)+2^w*(-1):=by unfold Builtin.bitNot;lia
   rw[e1,Qcf,Qdb (by lia) (by lia)]
  rw[e,qS _ _ _ I]
 rw[G8,YR,YR,C,G8,YR,YR]
def hor(q:Ak):Int:=q.foldl (fun a b=>a*2+b) 0
def wR(q:Ak)(b:Int):hor (q++[b])=hor q*2+b:=by
 unfold hor;rw[Qc8];rfl
def Zfj{b:Int}(h:D[i]?=some b):hor (D.take (i+1))=hor (D.take i)*2+b:=by
 rw[Qg6,h];exact wR _ b
def sm(b:Nat->Int):Nat->Int
 |0=>0
 |n+1=>sm b n+b n*2^n
theorem wU{b c:Nat->Int}:∀{n:Nat},(∀i,i<n->b i=c i)->sm b n=sm c n
 |0,_=>rfl
 |n+1,h=>by
  show sm b n+b n*2^n=sm c n+c n*2^n;rw[wU (n:=n) fun i hi=>h i (Qdx hi),h n (Qem n)]
theorem wV{b:Nat->Int}(q:∀i,b i=0\/b i=1):∀n,0<=sm b n/\sm b n<2^n
 |0=>⟨Int.le_refl _,(show(0:Int)<2^0 by decide)⟩
 |n+1=>by
  have C:=wV q n;have e:sm b (n+1)=sm b n+b n*2^n:=rfl;rw[e,pow_succ'];rcases q n with z|z<;>rw[z]<;>constructor<;>lia
theorem Zce{b:Nat->Int}(q:∀i,b i=0\/b i=1)(p:Nat):∀n,p<n->sm b n/2^p%2=b p
 |0,h=>absurd h (Qdz _)
 |n+1,h=>by
  have e:sm b (n+1)=sm b n+b n*2^n:=rfl;have G:=GW p;rw[e]
  by_cases C:p<n
  ·obtain⟨k,rfl⟩:∃k,n=p+(k+1):=⟨n-p-1,by lia⟩;have e2:b (p+(k+1))*2^(p+(k+1))=2^p*(2^k*b (p+(k+1))*2):=by
    grind
   rw[e2,Qf2 _ _ (by lia)];have F:=Zce q p (p+(k+1)) C;lia
  ·have e3:p=n:=by lia
   subst e3;obtain⟨D,h1⟩:=wV q p;rw[Qez,Qf2 _ _ (by lia),Qb3 D h1];rcases q p with z|z<;>rw[z]<;>rfl
def Zcf{ys:Ai}{x:V}(h:(ys.map V.str)[i]?=some x):∃y:Str,x=V.str y/\ys[i]?=some y:=by grind
abbrev Ws(l:Nat):V:=.int (l:Int)
def zL(q:Bool)(v:V):Prop:=(q=true/\∃x,v=.bl x)\/(q=false/\∃x,v=.int x)
def Jl(H:Hp)(p:Aw)(q:Az):Prop:=∃as:A2,H p=some (.tup as)/\as.length=q.length/\∀(i:Nat) (r:A2),q[i]?=some r->∃a,as[i]?=some (V.ref a)/\H a=some (.tup r)
def Jl.same{H H':Hp}{p:Aw}{q:Az}(R:Jl H p q)(e:Z9 H H'):Jl H' p q:=by
 obtain⟨as,h1,h2,C⟩:=R;refine⟨as,e _ _ h1,h2,fun i r hi=>?_⟩;obtain⟨a,F,D⟩:=C i r hi;exact⟨a,F,e _ _ D⟩
def qX(r:Aj):A2:=r.map Ws
structure M4(H:Hp)(m:Aw)(nm:Ai)(b:Nat)(nx:Ad)(ot:Az):Prop where
 ex:∃pn ps po,H m=some (.tup [.ref pn,.int (b:Int),.ref ps,.ref po])/\H pn=some (.tup (nm.map V.str))/\Jl H ps (nx.map qX)/\Jl H po ot
structure Wf(nm:Ai)(b:Nat)(nx:Ad)(ot:Az)(tr:Bool):Prop where
 n3:nm.length<=3
 b:b<nx.length
 le:nx.length<=1000000
 ol:ot.length=nx.length
 nr:∀r∈nx,r.length=2^nm.length
 nl:∀r∈nx,∀s∈r,s<nx.length
 or:∀r∈ot,r.length=2^nm.length
 ok:∀r∈ot,∀v∈r,zL tr v
 bit:∀r∈ot,∀v∈r,vB v=some 0\/vB v=some 1
def Zk3{A B:Hp->Prop}(h:A H):Zgm c H fun b H2=>if b=true then A H2 else B H2:=by
 show if true=true then A H else B H;exact Y3 h
def p8(h:n<=3):2^n<=8:=Qcr (by decide) h
def Zg6{q:List (List d)}(h:i<q.length):q[i]?=some (q.getD i []):=by grind
def j5{p:Aw}(R:Jl H p O)(h:i<O.length):∃as a,H p=some (HO.tup as)/\atI as (i:Int)=some (V.ref a)/\H a=some (.tup (O.getD i [])):=by
 obtain⟨as,h1,h2,q⟩:=R;obtain⟨a,D,C⟩:=q i _ (Zg6 h);exact⟨as,a,h1,YC D,C⟩
def yL(nx:Ad)(i:Nat):(nx.map qX).getD i []=qX (nx.getD i []):=by
 rw[Qaf,Qaf,Qah];cases nx[i]?<;>rfl
def getD_mem{q:List (List d)}(h:i<q.length):q.getD i []∈q:=by grind
def GY{f:Nat->d}(h:i<n):((List.range n).map f)[i]?=some (f i):=by grind
def Xk(H:Hp)(zs:A2)(q:Az):Prop:=zs.length=q.length/\∀(i:Nat) (r:A2),q[i]?=some r->∃a,zs[i]?=some (V.ref a)/\H a=some (.tup r)
def Xk.same{H H':Hp}{zs:A2}{q:Az}(z:Xk H zs q)(e:Z9 H H'):Xk H' zs q:=by
 refine⟨z.1,fun i r F=>?_⟩;obtain⟨a,D,C⟩:=z.2 i r F;exact⟨a,D,e _ _ C⟩
def Xk.snoc{zs:A2}(z:Xk H zs O)(h:H a=some (.tup r)):Xk H (zs++[.ref a]) (O++[r]):=by
 refine⟨by rw[Qaj,Qaj,z.1];rfl,fun i q C=>?_⟩
 by_cases e:i<O.length
 ·rw[Qa9 e]at C;rw[Qa9 (by rw[z.1];exact e)];exact z.2 i q C
 ·rw[Qaz (by lia)]at C;have D:i-O.length=0:=by
   grind
  rw[D]at C;cases C;refine⟨a,?_,h⟩;rw[Qaz (by rw[z.1];lia),z.1,D];rfl
def Xk.nil{H:Hp}:Xk H [] []:=⟨rfl,fun i r q=>by cases q⟩
def nk(l:Ak):A0:=Xv (l.map (Sum.inl:Int->Key))
def Zcg{l:Ak}(h:l.Nodup):(l.map (Sum.inl:Int->Key)).Nodup:=by grind
def ke{l:Ak}{s:Int}:(Sum.inl s:Key)∈l.map Sum.inl↔s∈l:=by grind
def Zch{l:Ak}{s:Int}(h:s∈l)(q:l.Nodup):Yj (nk l) (.inl s)=some (.int (l.idxOf s:Int)):=by
 have:=W9 (l.map (Sum.inl:Int->Key)) (.inl s) (ke.mpr h) (Zcg q);have e:=idx_map (β:=Key) Sum.inl (fun _ _=>Sum.inl.inj) s l;rw[e]at this;exact this
def Zjw{l:Ak}{s:Int}(h:s∉l):Yj (nk l) (.inl s)=none:=JY _ _ fun z=>h (ke.mp z)
def nk_len(l:Ak):(nk l).length=l.length:=by
 unfold nk;rw[W8,Qab]
def nk_put{l:Ak}{s:Int}(h:s∉l):putK (nk l) (.inl s) (.int (l.length:Int))=nk (l++[s]):=by
 unfold nk;rw[Qay];show _=Xv (l.map Sum.inl++[Sum.inl s]);rw[JX,Qab];unfold putK;rw[Qax fun z=>?_];rw[Qcd]at z;obtain⟨p,q,e⟩:=z;have:p.1∈(Xv (l.map (Sum.inl:Int->Key))).map (·.1):=Qb6 q;rw[JW,Qbh e]at this;exact h (ke.mp this)
def GZ(nx:Ad)(cs:Aj):List (Int×Ak):=List.zipWith (fun(c:Nat) (row:Aj)=>((c:Int),row.map fun s=>(cs.getD s 0:Int))) cs nx
def j6{nx:Ad}(h:S.length=nx.length):(GZ nx S).length=S.length:=by
 unfold GZ;rw[List.length_zipWith,h,Qgo]
theorem wW{nx:Ad}(h:S.length=nx.length):(GZ nx S).map (·.1)=S.map fun c:Nat=>(c:Int):=by
 unfold GZ;rw[List.map_zipWith];have:∀(S:Aj) (nx:Ad),S.length=nx.length->List.zipWith (fun(c:Nat) (_:Aj)=>(c:Int)) S nx=S.map fun c:Nat=>(c:Int):=by
  intro S
  induction S with
  |nil=>intro nx _;rfl
  |cons c r q=>
   intro nx h;cases nx with
   |nil=>cases h
   |cons x y=>rw[List.zipWith_cons_cons,Qbx,q y (by simpa using h)]
 exact this S nx h
def uh{nx:Ad}(h:S.length=nx.length)(q:XX S=S)(C:(Z1 (GZ nx S)).length<=(Z1 S).length):XX (GZ nx S)=S:=by
 have e1:Z1 ((GZ nx S).map (·.1))=(Z1 S).map fun c:Nat=>(c:Int):=by
  rw[wW h];exact jq _ _ fun a _ b _ e=>Int.ofNat.inj e
 have hi:=y7 (·.1) (GZ nx S) (by rw[e1,Qab];exact C);rw[<-jr (·.1) (GZ nx S) hi,wW h,jr (fun c:Nat=>(c:Int)) S fun a _ b _ e=>Int.ofNat.inj e,q]
theorem yM{p:Aw}(R:Jl H p O):∃bs:List Aw,H p=some (.tup (bs.map V.ref))/\bs.length=O.length/\∀(i:Nat) (r:A2) (b:Aw),O[i]?=some r->bs[i]?=some b->H b=some (.tup r):=by
 obtain⟨as,h1,h2,F⟩:=R;have G:∀(as:A2) (O:Az),as.length=O.length->(∀(i:Nat) (r:A2),O[i]?=some r->∃a,as[i]?=some (V.ref a)/\H a=some (.tup r))->∃bs:List Aw,as=bs.map V.ref/\∀(i:Nat) (r:A2) (b:Aw),O[i]?=some r->bs[i]?=some b->H b=some (.tup r):=by
  intro as
  induction as with
  |nil=>
   intro O C _;exact⟨[],rfl,fun i r b _ q=>by cases q⟩
  |cons v r L=>
   intro O C hh;cases O with
   |nil=>cases C
   |cons x y=>
    obtain⟨a,ha,Y⟩:=hh 0 x rfl;obtain⟨bs,e,q⟩:=L y (by simpa using C) fun i r hi=>by
     obtain⟨a,J,I⟩:=hh (i+1) r (by simpa using hi);exact⟨a,by simpa using J,I⟩
    refine⟨a::bs,?_,fun i r b M D=>?_⟩
    ·grind
    ·grind
 obtain⟨bs,e,q⟩:=G as O h2 F;subst e;exact⟨bs,h1,by rw[<-h2,Qab],q⟩
def yN[DecidableEq d](ks:List d):(ks.map fun k=>((Z1 ks).idxOf k:Int)).map V.int=(XX ks).map Ws:=by
 unfold XX;rw[Qaw,Qaw];rfl
def JD{nx:Ad}{c:Nat}{row:Aj}(C:S[i]?=some c)(q:nx[i]?=some row):(GZ nx S)[i]?=some ((c:Int),row.map fun s=>(S.getD s 0:Int)):=by
 unfold GZ;rw[List.getElem?_zipWith,C,q]
def Zjx{q:List (Ak)}{nx:Ad}(J:S.length=nx.length)(I:q.length=nx.length)(h:∀(i j:Nat) (a b:Ak),q[i]?=some a->q[j]?=some b->S[i]?=S[j]?->a=b):∀(i j:Nat) (a b:Ak),q[i]?=some a->q[j]?=some b->(XX (GZ nx S))[i]?=(XX (GZ nx S))[j]?->a=b:=by
 intro i j a b ha F e;have hi:i<nx.length:=by grind
 have G:j<nx.length:=by grind
 have C:=Qac (l:=S) (i:=i) (by lia);have D:=Qac (l:=S) (i:=j) (by lia);have:=(jo (JD C (Qac hi)) (JD D (Qac G))).mp e;refine h i j a b ha F ?_;rw[C,D];have e2:=congrArg Prod.fst this;exact congrArg some (Int.ofNat.inj e2)
def Zfk(nx:Ad)(l:Aj)(i:Nat):Aj:=(nx.getD (l.getD i 0) []).foldl Y5 l
def Jn(nx:Ad)(b:Nat):Nat->List Nat
 |0=>[b]
 |i+1=>Zfk nx (Jn nx b i) i
structure zM(nx:Ad)(b:Nat)(l:Aj):Prop where
 e:l=Jn nx b l.length
 go:∀i,i<l.length->i<(Jn nx b i).length
theorem ui(r:Aj):∀l:Aj,l.Nodup->(r.foldl Y5 l).Nodup:=by
 induction r with
 |nil=>exact fun l h=>h
 |cons k r q=>exact fun l h=>q _ (XS h k)
theorem j7(r:Aj){x:Nat}:∀l:Aj,x∈r.foldl Y5 l↔x∈l\/x∈r:=by
 induction r with
 |nil=>intro l;simp
 |cons k r q=>
  intro l;rw[Qc1,q,X6,Qao,or_assoc]
theorem qY(nx:Ad)(b:Nat):∀i,(Jn nx b i).Nodup
 |0=>Qb8.mpr ⟨Qa8,Qck⟩
 |i+1=>ui _ _ (qY nx b i)
theorem Zci{nx:Ad}{b:Nat}(q:b<nx.length)(C:∀row∈nx,∀s∈row,s<nx.length):∀i,∀s∈Jn nx b i,s<nx.length
 |0,s,h=>by rw[Qar.mp h];exact q
 |i+1,s,h=>by
  rcases(j7 _ _).mp h with z|z
  ·exact Zci q C i s z
  ·grind
def Zjy{nx:Ad}{b:Nat}(q:b<nx.length)(D:∀row∈nx,∀s∈row,s<nx.length)(i:Nat):(Jn nx b i).length<=nx.length:=by
 have:=XT (l2:=List.range nx.length) (qY nx b i) fun x C=>Qbt.mpr (Zci q D i x C);rw[Qbb]at this;exact this
theorem kf(nx:Ad)(b j:Nat):∀d,∃r,Jn nx b (j+d)=Jn nx b j++r
 |0=>⟨[],(Qby _).symm⟩
 |d+1=>by
  obtain⟨r,e⟩:=kf nx b j d;obtain⟨q,e2⟩:=WU (nx.getD ((Jn nx b (j+d)).getD (j+d) 0) []) (Jn nx b (j+d));refine⟨r++q,?_⟩;show Zfk nx (Jn nx b (j+d)) (j+d)=_;unfold Zfk;rw[e2,e,Qcg]
def bfs_at{nx:Ad}{b j:Nat}(C:j<i)(q:j<(Jn nx b j).length):(Jn nx b i)[j]?=some ((Jn nx b j).getD j 0):=by
 obtain⟨r,e⟩:=kf nx b j (i-j);rw[show j+(i-j)=i by lia]at e;rw[e,Qa9 q,Qaf,Qac q];rfl
def map_range{β:Type}(l:List d)(i:Nat)(q:l.length=i)(f:d->β)(g:Nat->β)(h:∀j a,l[j]?=some a->g j=f a):(List.range i).map g=l.map f:=by
 refine Qfx fun j=>?_
 by_cases C:j<i
 ·grind
 ·grind
theorem zN{H':Hp}{zs:A2}(h:∀b xs,H b=some (.tup xs)->H' b=some (.tup xs))(z:Xk H zs O):Xk H' zs O:=⟨z.1,fun i r q=>by
 obtain⟨a,h1,h2⟩:=z.2 i r q;exact⟨a,h1,h _ _ h2⟩⟩
inductive SK(κ:Type)[DecidableEq κ]where
 |int (f:κ->Int) (inj:∀a b,f a=f b->a=b)
 |key (kn:KN κ)
def Yu(h:n<=10000000):n<sizeLine:=Qes h (by decide)
section
variable {κ:Type}[DecidableEq κ]
def SK.at_:SK κ->Hp->κ->V->Prop
 |.int f _,_,k,v=>v=.int (f k)
 |.key kn,H,k,v=>∃a,v=.ref a/\kn.at_ H k a
def SK.dic:SK κ->Hp->Addr->List κ->Prop
 |.int f _,H,d,l=>H d=some (.dK (nk (l.map f)))
 |.key kn,H,d,l=>JM kn H d (Xv l)
def SK.keep{sk:SK κ}{H H':Hp}{k:κ}{v:V}(h:sk.at_ H k v)(e:∀b xs,H b=some (.tup xs)->H' b=some (.tup xs)):sk.at_ H' k v:=by
 cases sk with
 |int f _=>exact h
 |key kn=>
  obtain⟨a,rfl,ha⟩:=h;exact⟨a,rfl,kn.keep _ _ _ _ e ha⟩
def Zcj{kn:KN κ}{d:Aw}{kvs:List (κ×V)}(n:JM kn H d kvs):∃o,H d=some o/\(∀xs,o≠.tup xs)/\∀xs,o≠.lst xs:=by
 rcases n.2.2 with⟨_,e⟩|⟨ys,e,_⟩
 ·grind
 ·grind
def SK.ne{sk:SK κ}{d:Aw}{l:List κ}(h:sk.dic H d l):∃o,H d=some o/\(∀xs,o≠.tup xs)/\∀xs,o≠.lst xs:=by
 cases sk with
 |int f _=>exact⟨_,h,(fun _ z=>nomatch z),fun _ z=>nomatch z⟩
 |key kn=>exact Zcj h
def Zfl{kn:KN κ}{H':Hp}{d:Aw}{kvs:List (κ×V)}(n:JM kn H d kvs)(C:∀o,H d=some o->H' d=some o)(e:∀b xs,H b=some (.tup xs)->H' b=some (.tup xs)):JM kn H' d kvs:=by
 obtain⟨F,G,D⟩:=n;refine⟨F,G,?_⟩;rcases D with⟨e1,e2⟩|⟨ys,e1,e2⟩
 ·exact .inl ⟨e1,C _ e2⟩
 ·exact .inr ⟨ys,C _ e1,Paired.mapP e2 fun p q h=>⟨h.1,kn.keep _ _ _ _ e h.2.1,h.2.2⟩⟩
def SK.stay{sk:SK κ}{H':Hp}{d:Aw}{l:List κ}(h:sk.dic H d l)(q:∀o,H d=some o->H' d=some o)(e:∀b xs,H b=some (.tup xs)->H' b=some (.tup xs)):sk.dic H' d l:=by
 cases sk with
 |int f _=>exact q _ h
 |key kn=>exact Zfl h q e
def SK.off{sk:SK κ}{d:Aw}{l:List κ}{xs:A2}{o:HO}(h:sk.dic H d l)(e:H f=some (.lst xs)):sk.dic (upd H f o) d l:=by
 obtain⟨u,F,_,D⟩:=SK.ne h;have C:d≠f:=fun z=>by
  grind
 exact SK.stay h (fun o e=>by rw[Zk C];exact e) fun b ys q=>by rw[Zk (Xm q e fun z=>nomatch z)];exact q
def StA(sk:SK κ)(H:Hp)(l:List κ)(vs:A2):Prop:=vs.length=l.length/\∀(i:Nat) (k:κ),l[i]?=some k->∃v,vs[i]?=some v/\sk.at_ H k v
theorem StA.keep{sk:SK κ}{H H':Hp}{l:List κ}{vs:A2}(h:StA sk H l vs)(e:∀b xs,H b=some (.tup xs)->H' b=some (.tup xs)):StA sk H' l vs:=⟨h.1,fun i k q=>by
 obtain⟨v,h1,h2⟩:=h.2 i k q;exact⟨v,h1,SK.keep h2 e⟩⟩
def StA.snoc{sk:SK κ}{l:List κ}{vs:A2}{k:κ}{v:V}(h:StA sk H l vs)(F:sk.at_ H k v):StA sk H (l++[k]) (vs++[v]):=by
 refine⟨by rw[Qaj,Qaj,h.1];rfl,fun i q C=>?_⟩
 by_cases e:i<l.length
 ·rw[Qa9 e]at C;rw[Qa9 (by rw[h.1];exact e)];exact h.2 i q C
 ·rw[Qaz (by lia)]at C;have D:i-l.length=0:=by
   grind
  rw[D]at C;cases C;refine⟨v,?_,F⟩;rw[Qaz (by rw[h.1];lia),h.1,D];rfl
def StA.one{sk:SK κ}{k:κ}{v:V}(D:sk.at_ H k v):StA sk H [k] [v]:=StA.snoc (l:=[]) (vs:=[]) ⟨rfl,fun i q C=>by cases C⟩ D
def bfS(nx:κ->List κ)(l:List κ)(i:Nat):List κ:=match l[i]? with
 |some s=>(nx s).foldl Y5 l
 |none=>l
def bfN(nx:κ->List κ)(b:κ):Nat->List κ
 |0=>[b]
 |i+1=>bfS nx (bfN nx b i) i
structure BfE(nx:κ->List κ)(b:κ)(l:List κ):Prop where
 e:l=bfN nx b l.length
 go:∀i,i<l.length->i<(bfN nx b i).length
theorem qZ(r:List κ):∀l:List κ,l.Nodup->(r.foldl Y5 l).Nodup:=by
 induction r with
 |nil=>exact fun l h=>h
 |cons k r q=>exact fun l h=>q _ (XS h k)
theorem xa(r:List κ){x:κ}:∀l:List κ,x∈r.foldl Y5 l↔x∈l\/x∈r:=by
 induction r with
 |nil=>intro l;simp
 |cons k r q=>
  intro l;rw[Qc1,q,X6,Qao,or_assoc]
theorem Zck(r:List κ):∀l:List κ,(r.foldl Y5 l).length<=l.length+r.length:=by
 induction r with
 |nil=>exact fun l=>Qak _
 |cons k r q=>
  intro l;have h1:=q (Y5 l k);have h2:=GU l k;rw[Qc1,Qba];lia
variable {nx:κ->List κ}{b:κ}
theorem JE:∀i,(bfN nx b i).Nodup
 |0=>Qb8.mpr ⟨Qa8,Qck⟩
 |i+1=>by
  show(bfS nx (bfN nx b i) i).Nodup;unfold bfS;split
  ·exact qZ _ _ (JE i)
  ·exact JE i
theorem Zcl{U:List κ}(C:b∈U)(D:∀s∈U,∀x∈nx s,x∈U):∀i,∀s∈bfN nx b i,s∈U
 |0,s,h=>by rw[Qar.mp h];exact C
 |i+1,s,h=>by
  have h:s∈bfS nx (bfN nx b i) i:=h;unfold bfS at h;split at h
  ·rename_i q F;rcases(xa _ _).mp h with z|z
   ·exact Zcl C D i s z
   ·exact D q (Zcl C D i q (Qas F)) s z
  ·exact Zcl C D i s h
def Zcm{U:List κ}(q:b∈U)(C:∀s∈U,∀x∈nx s,x∈U)(i:Nat):(bfN nx b i).length<=U.length:=XT (JE i) (Zcl q C i)
def j8{s:κ}(h:(bfN nx b i)[i]?=some s):bfN nx b (i+1)=(nx s).foldl Y5 (bfN nx b i):=by
 show bfS nx (bfN nx b i) i=_;unfold bfS;rw[h]
theorem wX(j:Nat):∀d,∃r,bfN nx b (j+d)=bfN nx b j++r
 |0=>⟨[],(Qby _).symm⟩
 |d+1=>by
  obtain⟨r,e⟩:=wX j d;show∃r,bfS nx (bfN nx b (j+d)) (j+d)=_;unfold bfS;split
  ·obtain⟨q,e2⟩:=WU (nx _) (bfN nx b (j+d));exact⟨r++q,by rw[e2,e,Qcg]⟩
  ·exact⟨r,e⟩
def Zmc{j:Nat}{s:κ}(q:j<=i)(hs:(bfN nx b j)[j]?=some s):(bfN nx b i)[j]?=some s:=by
 obtain⟨r,e⟩:=wX (nx:=nx) (b:=b) j (i-j);rw[show j+(i-j)=i by lia]at e;rw[e,Qa9 (Qag.mp hs).1];exact hs
def Zmq(nx:κ->List κ)(b:κ)(j:Nat):Aj:=match (bfN nx b j)[j]? with
 |some s=>(nx s).map fun x=>(bfN nx b (j+1)).idxOf x
 |none=>[]
def xJ(nx:κ->List κ)(b:κ)(i:Nat):Az:=(List.range i).map fun j=>qX (Zmq nx b j)
def Zmr(nx:κ->List κ)(ot:κ->List V)(b:κ)(j:Nat):A2:=match (bfN nx b j)[j]? with
 |some s=>ot s
 |none=>[]
def j9(nx:κ->List κ)(ot:κ->List V)(b:κ)(i:Nat):Az:=(List.range i).map (Zmr nx ot b)
def uj{s:κ}(h:(bfN nx b i)[i]?=some s):xJ nx b (i+1)=xJ nx b i++[((nx s).map fun x=>Ws ((bfN nx b (i+1)).idxOf x))]:=by
 unfold xJ;rw[Qed,Qay];show _++[qX (Zmq nx b i)]=_;unfold Zmq qX;rw[h];rw[Qaw];rfl
def uk{ot:κ->List V}{s:κ}(h:(bfN nx b i)[i]?=some s):j9 nx ot b (i+1)=j9 nx ot b i++[ot s]:=by
 unfold j9;rw[Qed,Qay];show _++[Zmr nx ot b i]=_;unfold Zmr;rw[h]
def rnG(nx:κ->List κ)(l:List κ):Ad:=l.map fun s=>(nx s).map fun x=>l.idxOf x
def xb(nx:κ->List κ)(l:List κ):(rnG nx l).length=l.length:=Qab _
def kg{j:Nat}{a:κ}(D:(bfN nx b i).length=i)(C:∀j,j<i->j<(bfN nx b j).length)(ha:(bfN nx b i)[j]?=some a):j<i/\(bfN nx b j)[j]?=some a:=by
 have q:j<i:=by grind
 refine⟨q,?_⟩;have e:=Qac (C j q);rw[Zmc (Qa0 q) e]at ha;rw[e];exact ha
def Zcn(q:(bfN nx b i).length=i)(C:∀j,j<i->j<(bfN nx b j).length):xJ nx b i=(rnG nx (bfN nx b i)).map qX:=by
 unfold xJ rnG;rw[Qaw];refine map_range _ i q _ _ fun j a ha=>?_;obtain⟨F,e⟩:=kg q C ha;unfold Zmq;rw[e];congr 1;refine Qbo fun x D=>?_;obtain⟨r,e2⟩:=wX (nx:=nx) (b:=b) (j+1) (i-(j+1));rw[show j+1+(i-(j+1))=i by lia]at e2;rw[e2,JV];rw[j8 e];exact(xa _ _).mpr (.inr D)
def Zco{ot:κ->List V}(q:(bfN nx b i).length=i)(C:∀j,j<i->j<(bfN nx b j).length):j9 nx ot b i=(bfN nx b i).map ot:=by
 refine map_range _ i q _ _ fun j a ha=>?_;obtain⟨D,e⟩:=kg q C ha;unfold Zmr;rw[e]
end
def SqF(H1 H2:Hp)(r:Aw)(q:A2):Prop:=H2 r=some (.tup q)\/(H2 r=some (.lst q)/\H1 r=none)
def Zfm{xs:A2}{is:Aj}{Q:VK}(D:∀R:VK,R (.ref a) H->u c H R)(C:H a=some (.tup xs)\/H a=some (.lst xs))(q:Nat->List V->Hp->Prop)(M:q 0 [] H)(J:∀i zs H,q i zs H->zs.length<=sizeLine)(F:∀i zs H',q i zs H'->∀o,H a=some o->H' a=some o)
  (hs:∀i x zs H (R:A2->Hp->Prop),(∀zs H,q (i+1) zs H->R zs H)->xs[i]?=some x->q i zs H->G (xA is c (some x)) H fun b H2=>if b=true then I (xA is c (some x)) H2 fun y O=>R (zs++[y]) O else R zs H2)
  (L:∀zs H,q xs.length zs H->∀p,H p=none->Q (.ref p) (upd H p (.lst zs))):uW K u c H (G5 is G I c Q)\/iTup K u c H (G5 is G I c Q):=by
 rcases C with C|C
 ·exact .inr (D _ ⟨a,rfl,⟨_,SqT.of C⟩,X3 (K:=K) (a:=a) (xs:=xs) q M J (fun i zs H' h=>SqT.of (F i zs H' h _ C)) hs L⟩)
 ·exact .inl (D _ ⟨a,rfl,⟨_,SqL.of C⟩,Xs (K:=K) (a:=a) (xs:=xs) q M J (fun i zs H' h=>SqL.of (F i zs H' h _ C)) hs L⟩)
def JF:A2->List Int
 |[]=>[]
 |.int z::r=>((Builtin.Int.intBits z:Nat):Int)::JF r
 |_::r=>JF r
theorem yO:∀q:A2,(JF q).length<=q.length
 |[]=>Qak _
 |w::r=>by
  have:=yO r;cases w<;>simp only[JF,Qba]<;>lia
theorem xc:∀(a b:A2),JF (a++b)=JF a++JF b
 |[],_=>rfl
 |w::r,b=>by
  have:=xc r b;cases w<;>simp only[JF,List.cons_append,this]
theorem xf{z:Int}:∀{q:A2},V.int z∈q->((Builtin.Int.intBits z:Nat):Int)∈JF q
 |w::r,h=>by
  rcases Qao.mp h with rfl|h
  ·exact Qai
  ·have:=xf h;cases w<;>skip<;>first|exact this|exact Qal _ this
theorem wY{m:Int}:∀{C:A2},m∈JF C->∃z:Int,V.int z∈C/\m=((Builtin.Int.intBits z:Nat):Int)
 |w::r,h=>by
  have q:m∈JF r->∃z:Int,V.int z∈w::r/\m=((Builtin.Int.intBits z:Nat):Int):=fun h=>let⟨z,h1,h2⟩:=wY h;⟨z,Qal _ h1,h2⟩;cases w with
  |int z=>
   rcases Qao.mp h with rfl|h
   ·exact⟨z,Qai,rfl⟩
   ·exact q h
  |_=>exact q h
def Zjz(h:0<=z):z<2^Builtin.Int.intBits z:=by
 unfold Builtin.Int.intBits;split
 ·grind
 ·obtain⟨n,rfl⟩:=Int.eq_ofNat_of_zero_le h;have:=Nat.lt_log2_self (n:=n)
  exact_mod_cast this
theorem bits_le{B:Nat}(h:0<=z)(C:z<2^B):Builtin.Int.intBits z<=B:=by
 unfold Builtin.Int.intBits;split
 ·exact Qbl _
 ·rename_i e;obtain⟨n,rfl⟩:=Int.eq_ofNat_of_zero_le h;have D:n≠0:=fun q=>e (by rw[q];rfl);have h2:n<2^B:=by exact_mod_cast C
  exact(Nat.log2_lt D).mpr h2
theorem Zg7:∀(bs:Ak) (l:Nat),(∀b∈bs,b=0\/b=1)->bt (hor bs.reverse) l=bs.getD l 0
 |[],l,_=>qR l
 |b::r,l,h=>by
  rw[Qcq,wR];have q:=h b Qai;cases l with
  |zero=>
   unfold bt;show _=b;lia
  |succ l=>
   rw[YI,show(hor r.reverse*2+b)/2=hor r.reverse by lia,Zg7 r l fun b q=>h b (Qal _ q)];rfl
def Y9(L:Nat)(ys:Ai)(y:Str):Int:=hor ((List.range L).map fun l:Nat=>bt (l:Int) (ys.idxOf y)).reverse
def Wo[DecidableEq d]{l:List d}{x:d}(q:l.Nodup)(h:l[i]?=some x):l.idxOf x=i:=by grind
def Zfn{ys:Ai}{l:Nat}{y:Str}(C:ys.Nodup)(h:ys[i]?=some y)(D:l<L):bt (Y9 L ys y) l=bt (l:Int) i:=by
 unfold Y9;rw[Wo C h,Zg7 _ _ fun b q=>by
  obtain⟨c,_,rfl⟩:=Qav.mp q;exact YJ _ _]
 rw[Qaf,Qah,Qel D];rfl
def lgB:A2->Nat
 |[]=>0
 |.int z::r=>max (Builtin.Int.intBits z) (lgB r)
 |_::r=>lgB r
theorem Zcp{z:Int}:∀{q:A2},V.int z∈q->Builtin.Int.intBits z<=lgB q
 |w::r,h=>by
  rcases Qao.mp h with rfl|h
  ·exact Nat.le_max_left _ _
  ·have:=Zcp h;cases w<;>simp only[lgB]<;>lia
theorem Zcq:∀q:A2,lgB q=0\/∃z:Int,V.int z∈q/\lgB q=Builtin.Int.intBits z
 |[]=>.inl rfl
 |w::r=>by
  have C:(lgB (w::r)=lgB r)->lgB (w::r)=0\/∃z:Int,V.int z∈w::r/\lgB (w::r)=Builtin.Int.intBits z:=fun e=>by
   rw[e];rcases Zcq r with h|⟨z,h1,h2⟩
   ·exact .inl h
   ·grind
  cases w with
  |int z=>
   by_cases h:lgB r<=Builtin.Int.intBits z
   ·exact .inr ⟨z,Qai,Nat.max_eq_left h⟩
   ·exact C (Nat.max_eq_right (by lia))
  |_=>exact C rfl
def Zg8(h1:∀z:Int,V.int z∈r->Builtin.Int.intBits z<=L)(h2:L=0\/∃z:Int,V.int z∈r/\L=Builtin.Int.intBits z):L=lgB r:=by
 refine Qhq ?_ ?_
 ·rcases h2 with h|⟨z,q,h⟩
  ·lia
  ·rw[h];exact Zcp q
 ·rcases Zcq r with h|⟨z,q,h⟩
  ·lia
  ·rw[h];exact h1 z q
def Y8(q:A2):Nat:=(q.filter fun w=>inV w (allR.map V.str)).length
def Zk4(nm:Ai)(cols:Str->Int)(q:A2)(s:Int×Ak):Ak×Ak:=X9 nm cols s.1.toNat s.2 q
def nxT(nm:Ai)(cols:Str->Int)(q:A2)(L:Nat)(s:Int×Ak):List (Int×Ak):=(List.range (2^nm.length)).map fun l=>(min (s.1+1) (L:Int),(Zk4 nm cols q s).2.map fun c=>bt c l)
def otT(nm:Ai)(cols:Str->Int)(q:A2)(o0 o1:V)(s:Int×Ak):A2:=(List.range (2^nm.length)).map fun l=>if bt ((Zk4 nm cols q s).1.getD 0 0) l=1 then o1 else o0
def Zk5(q:Aw)(H H':Hp):Prop:=∀b o,H b=some o->b≠q->H' b=some o
def Zj0(H:Hp)(k:Int×Ak)(a:Aw):Prop:=∃t,H a=some (.tup [.int k.1,.ref t])/\H t=some (.tup (k.2.map V.int))
def Zj0.bits{k:Int×Ak}(h:Zj0 H k a):Zbn H k a:=by
 obtain⟨t,h1,h2⟩:=h;refine⟨t,h1,_,h2,?_⟩;rw[Qaw];rfl
def knQ:KN (Int×Ak)where
 knd:=knP.knd
 hsh:=knP.hsh
 at_:=Zj0
 hash_eq:=knP.hash_eq
 ok:=fun P w H h k a ok b=>knP.ok P w H h k a ok b.bits
 room:=knP.room
 room0:=knP.room0
 keep:=fun H H' k a q ⟨t,e,e2⟩=>⟨t,q _ _ e,q _ _ e2⟩
def Wg:Nat->List (Ak)
 |0=>[[]]
 |n+1=>(Wg n).map (List.cons 0)++(Wg n).map (List.cons 1)
theorem xg:∀n,(Wg n).length=2^n
 |0=>rfl
 |n+1=>by
  show((Wg n).map (List.cons 0)++(Wg n).map (List.cons 1)).length=_;rw[Qaj,Qab,Qab,xg n,Qfj];lia
theorem YK:∀{n:Nat} {ks:Ak},ks∈Wg n↔ks.length=n/\∀x∈ks,x=0\/x=1
 |0,ks=>by
  constructor
  ·intro h;rw[Qar.mp h];exact⟨rfl,fun x q=>by cases q⟩
  ·rintro⟨h,_⟩;rw[Qcp h];exact Qar.mpr rfl
 |n+1,ks=>by
  show ks∈(Wg n).map (List.cons 0)++(Wg n).map (List.cons 1)↔_;rw[Qbd,Qav,Qav];constructor
  ·rintro(⟨r,C,rfl⟩|⟨r,C,rfl⟩)
   ·obtain⟨h1,h2⟩:=YK.mp C;refine⟨by rw[Qba,h1],fun x q=>?_⟩;rcases Qao.mp q with rfl|q
    ·exact .inl rfl
    ·exact h2 x q
   ·obtain⟨h1,h2⟩:=YK.mp C;refine⟨by rw[Qba,h1],fun x q=>?_⟩;rcases Qao.mp q with rfl|q
    ·exact .inr rfl
    ·exact h2 x q
  ·rintro⟨h1,h2⟩;cases ks with
   |nil=>cases h1
   |cons x r=>
    have C:r∈Wg n:=YK.mpr ⟨by simpa using h1,fun y D=>h2 y (Qal _ D)⟩;rcases h2 x Qai with rfl|rfl
    ·exact .inl ⟨r,C,rfl⟩
    ·exact .inr ⟨r,C,rfl⟩
def uni(q:Nat):Nat->List (Int×Ak)
 |0=>[]
 |n+1=>uni q n++(Wg q).map fun ks=>((n:Int),ks)
theorem jA(q:Nat):∀n,(uni q n).length=n*2^q
 |0=>by rw[Qhr];rfl
 |n+1=>by
  show(uni q n++(Wg q).map _).length=_;rw[Qaj,Qab,jA q n,xg,Qgn]
theorem XH{q:Nat}{s:Int×Ak}:∀{n:Nat},s∈uni q n↔∃p:Nat,p<n/\s.1=(p:Int)/\s.2∈Wg q
 |0=>⟨(fun h=>nomatch h),fun⟨p,h,_⟩=>absurd h (Qdz _)⟩
 |n+1=>by
  show s∈uni q n++(Wg q).map (fun ks=>((n:Int),ks))↔_;rw[Qbd,XH,Qav];constructor
  ·grind
  ·grind
def yP(w:V)(r:A2):Y8 (w::r)=Y8 r+if inV w (allR.map V.str)=true then 1 else 0:=by
 unfold Y8;rw[Qc5];split<;>rfl
theorem jB{ys:Ai}{cols:Str->Int}{pl:Nat}{kp:Ak}:∀C:A2,(∀w∈C,jz ys w)->(X9 ys cols pl kp C).2.length=Y8 C
 |[],_=>rfl
 |w::r,hw=>by
  have q:=jB (ys:=ys) (cols:=cols) (pl:=pl) (kp:=kp) r fun w h=>hw w (Qal _ h);rw[yP];rcases hw w Qai with⟨y,rfl,h1,_⟩|⟨y,rfl,h1,h2,D,_⟩|⟨y,rfl,h1,h2,_⟩|⟨z,rfl,_⟩
  ·show(if y∈allR then _ else _:Ak×Ak).2.length=_;rw[Qa3 h1,ZC,Qan h1,Qa3 rfl,Qaj,q];rfl
  ·show(if y∈allR then _ else if y∈ys then _ else _:Ak×Ak).2.length=_;rw[Qax h2,Qax D,ZC,Qap h2,Qax (by decide)];exact q
  ·show(if y∈allR then _ else if y∈ys then _ else _:Ak×Ak).2.length=_;rw[Qax h2,Qa3 h1,ZC,Qap h2,Qax (by decide)];exact q
  ·exact q
def qa{cols:Str->Int}(hw:∀w∈r,jz N w)(q:i=Y8 r){s:Int×Ak}(hs:s∈uni i (L+1)):∀x∈nxT N cols r L s,x∈uni i (L+1):=by
 intro x D;obtain⟨l,_,rfl⟩:=Qav.mp D;obtain⟨p,h1,h2,F⟩:=XH.mp hs;refine XH.mpr ⟨min (p+1) L,by lia,?_,YK.mpr ⟨?_,fun b C=>?_⟩⟩
 ·grind
 ·rw[Qab,q];exact jB r hw
 ·obtain⟨c,_,rfl⟩:=Qav.mp C;exact YJ c l
def um{H':Hp}(s:Z9 (hide M H) H')(C:∀c∈M,H' c=none):Z9 H (XQ M H H')/\(∀t o,H' t=some o->XQ M H H' t=some o)/\∀t o,H' t=some o->hide M H t=none->H t=none:=by
 have m:∀t o,H' t=some o->t∉M:=fun t o e m=>by rw[C t m]at e;cases e
 refine⟨fun b o e=>?_,fun t o e=>by rw[ZG (m t o e)];exact e,fun t o e h=>by rw[Z6 (m t o e)]at h;exact h⟩
 by_cases q:b∈M
 ·rw[Xt q];exact e
 ·rw[ZG q];exact s _ _ (by rw[Z6 q];exact e)
def zP{H':Hp}{p:Aw}(R:Jl H p O)(e:∀b xs,H b=some (.tup xs)->H' b=some (.tup xs)):Jl H' p O:=by
 obtain⟨as,h1,h2,q⟩:=R;refine⟨as,e _ _ h1,h2,fun i r hi=>?_⟩;obtain⟨a,D,C⟩:=q i r hi;exact⟨a,D,e _ _ C⟩
def wZ{B:Nat}(q:∀z:Int,V.int z∈r->0<=z/\z<2^B):lgB r<=B:=by
 rcases Zcq r with h|⟨z,C,h⟩
 ·lia
 ·rw[h];exact bits_le (q z C).1 (q z C).2
def lgB_lt(h:V.int z∈r)(q:0<=z):z<2^lgB r:=Int.lt_of_lt_of_le (Zjz q) (Zb3 (Zcp h))
def gc:∀y∈allR,y∈ZK:=by decide +kernel
def gg:∀y∈JA,y∉allR->y∈Zcb/\npw (.str y)=Zb9 y:=by decide +kernel
def Zj1:∀y∈allR,y∈JA->1<=npw (.str y)/\(y∈Zjv->2<=npw (.str y)):=by decide +kernel
def gh{ys:Ai}{B:Nat}{w:V}(D:∀y∈ys,y∉ZK)(h:yH ys B w):jz ys w:=by
 rcases h with⟨y,rfl,h1,h2,q⟩|⟨y,rfl,h1,h2,q⟩|⟨z,rfl,C,_,q⟩
 ·by_cases ha:y∈allR
  ·exact .inl ⟨y,rfl,ha,h2,Zj1 y ha h1⟩
  ·exact .inr (.inl ⟨y,rfl,(gg y h1 ha).1,ha,h2,(gg y h1 ha).2⟩)
 ·exact .inr (.inr (.inl ⟨y,rfl,h1,fun z=>D y h1 (gc y z),q⟩))
 ·exact .inr (.inr (.inr ⟨z,rfl,C,q⟩))
def yQ(ls:Aj)(ys:Ai)(y:Str):Int:=sm (fun k=>bt ((ls.getD k 0:Nat):Int) (ys.idxOf y)) ls.length
def Zj2{ls:Aj}{ys:Ai}{k l:Nat}{y:Str}(C:ys.Nodup)(h:ys[i]?=some y)(q:ls[k]?=some l):bt (yQ ls ys y) k=bt (l:Int) i:=by
 unfold yQ;rw[Wo C h];have:=Zce (b:=fun k=>bt ((ls.getD k 0:Nat):Int) i) (fun _=>YJ _ _) k ls.length (Qag.mp q).1;rw[Qaf,q]at this;exact this
structure Runs(nx:Ad)(ot:Az)(n:Nat):Prop where
 pos:0<nx.length
 ol:ot.length=nx.length
 nr:∀r∈nx,r.length=2^n
 nl:∀r∈nx,∀s∈r,s<nx.length
 or:∀r∈ot,r.length=2^n
def stN(nx:Ad):Nat->List Nat->Nat
 |s,[]=>s
 |s,c::r=>stN nx ((nx.getD s []).getD c 0) r
def rnO(nx:Ad)(ot:Az):Nat->List Nat->List V
 |_,[]=>[]
 |s,c::r=>(ot.getD s []).getD c .non::rnO nx ot ((nx.getD s []).getD c 0) r
theorem qb(nx:Ad):∀(s:Nat) (ls:Aj) (c:Nat),stN nx s (ls++[c])=(nx.getD (stN nx s ls) []).getD c 0
 |_,[],_=>rfl
 |s,d::r,c=>qb nx ((nx.getD s []).getD d 0) r c
theorem gk(nx:Ad)(ot:Az):∀(s:Nat) (ls:Aj) (c:Nat),rnO nx ot s (ls++[c])=rnO nx ot s ls++[(ot.getD (stN nx s ls) []).getD c .non]
 |_,[],_=>rfl
 |s,d::r,c=>congrArg (List.cons _) (gk nx ot ((nx.getD s []).getD d 0) r c)
theorem kh(nx:Ad)(ot:Az):∀(s:Nat) (ls:Aj),(rnO nx ot s ls).length=ls.length
 |_,[]=>rfl
 |s,d::r=>congrArg Nat.succ (kh nx ot _ r)
def getD_at{α:Type}{l:List α}{d:α}(h:i<l.length):l[i]?=some (l.getD i d):=by grind
section
variable {κ:Type}[DecidableEq κ]{nx:κ->List κ}{b:κ}{l:List κ}
def xh{x:κ}(h:x∈l):l[l.idxOf x]?=some x:=by grind
def BfE.len(B:BfE nx b l):(bfN nx b l.length).length=l.length:=by rw[<-B.e]
def BfE.here(B:BfE nx b l){j:Nat}{s:κ}(h:l[j]?=some s):j<l.length/\(bfN nx b j)[j]?=some s:=kg B.len B.go (by rw[<-B.e];exact h)
def BfE.sub(B:BfE nx b l){j:Nat}(q:j<=l.length){x:κ}(h:x∈bfN nx b j):x∈l:=by
 obtain⟨r,e⟩:=wX (nx:=nx) (b:=b) j (l.length-j);rw[show j+(l.length-j)=l.length by lia,<-B.e]at e;rw[e];exact Qd6 _ h
def BfE.begin(B:BfE nx b l):l[0]?=some b/\b∈l:=by
 have q:b∈l:=B.sub (Qbl _) (show b∈[b]from Qar.mpr rfl);have e:=Zmc (nx:=nx) (b:=b) (i:=l.length) (j:=0) (Qbl _) (s:=b) rfl;rw[<-B.e]at e;exact⟨e,q⟩
def BfE.next(B:BfE nx b l){s x:κ}(h:s∈l)(q:x∈nx s):x∈l:=by
 obtain⟨j,C⟩:=Qcm.mp h;obtain⟨h1,h2⟩:=B.here C;refine B.sub (j:=j+1) h1 ?_;rw[j8 h2];exact(xa _ _).mpr (.inr q)
def BfE.nodup(B:BfE nx b l):l.Nodup:=by
 rw[B.e];exact JE _
def ixG(l:List κ)(x:κ):Nat:=l.idxOf x
def BfE.zero(B:BfE nx b l):ixG l b=0:=Wo B.nodup B.begin.1
def Zg9(h:∀s∈l,∀x∈nx s,x∈l){s:κ}(hs:s∈l):(rnG nx l).getD (ixG l s) []=(nx s).map fun x=>ixG l x:=by
 unfold rnG ixG;rw[Qaf,Qah,xh hs];rfl
def Zj3{ot:κ->List V}{s:κ}(hs:s∈l):(l.map ot).getD (ixG l s) []=ot s:=by
 unfold ixG;rw[Qaf,Qah,xh hs];rfl
end
structure yR(nm:Ai)(ws:A2):Prop where
 n3:nm.length<=3
 nd:nm.Nodup
 kp:∀y∈nm,y∉ZK
 ln:ws.length<=100
 wd:∀w∈ws,yH nm 10 w
 en:WI ws
 st:wO ws=1
 rm:Y8 ws<=15
abbrev nxS(nm:Ai)(q:A2):Int×Ak->List (Int×Ak):=nxT nm (Y9 (2^nm.length) nm) q (lgB q)
def yR.wc(S:yR N r):∀w∈r,jz N w:=fun w h=>gh S.kp (S.wd w h)
theorem yR.iz(S:yR N r):∀z:Int,V.int z∈r->0<=z/\z<2^10:=fun z h=>by
 rcases S.wd _ h with⟨y,e,_⟩|⟨y,e,_⟩|⟨C,e,q,h1,_⟩
 ·cases e
 ·cases e
 ·cases e;exact⟨q,h1⟩
def yR.big(S:yR N r):(10+1)*2^Y8 r<=1000000:=by
 have:2^Y8 r<=2^15:=Qcr (by decide) S.rm;lia
def yR.len{l:List (Int×Ak)}(S:yR N r)(B:BfE (nxS N r) (0,List.replicate (Y8 r) 0) l):l.length<=1000000:=by
 have h:=Zcm (nx:=nxS N r) (b:=((0:Int),List.replicate (Y8 r) (0:Int))) (U:=uni (Y8 r) (lgB r+1)) (XH.mpr ⟨0,by lia,rfl,YK.mpr ⟨Qa1,fun x C=>.inl (Qee C)⟩⟩) (fun s hs=>qa S.wc rfl hs) l.length;rw[<-B.e,jA]at h;have h2:lgB r<=10:=wZ S.iz;have q:=S.big;exact Qbc h (Qbc (Qe9 _ (by lia)) q)
def Zcr(nm:Ai)(cols:Str->Int)(q:A2)(L:Nat)(s:Int×Ak):(nxT nm cols q L s).length=2^nm.length:=by
 unfold nxT;rw[Qab,Qbb]
def Zj4(nm:Ai)(cols:Str->Int)(q:A2)(o0 o1:V)(s:Int×Ak):(otT nm cols q o0 o1 s).length=2^nm.length:=by
 unfold otT;rw[Qab,Qbb]
section
variable {κ:Type}[DecidableEq κ]{nx:κ->List κ}{b:κ}{l:List κ}
def Zj5(B:BfE nx b l)(C:∀s,(nx s).length=n):(∀r∈rnG nx l,r.length=n)/\∀r∈rnG nx l,∀s∈r,s<(rnG nx l).length:=by
 constructor
 ·intro r q;obtain⟨s,_,rfl⟩:=Qav.mp q;rw[Qab,C]
 ·intro r q x D;obtain⟨s,hs,rfl⟩:=Qav.mp q;obtain⟨y,F,rfl⟩:=Qav.mp D;rw[xb];exact Qbi (B.next hs F)
end
def jC{H':Hp}{xs:A2}(h:SqL K H a xs)(s:Z9 H H'):SqL K H' a xs:=by
 rcases h with h|h
 ·rcases h with h|⟨u,h⟩
  ·exact .inl (.inl (s _ _ h))
  ·exact .inl (.inr ⟨u,s _ _ h⟩)
 ·exact .inr h
def Zk5.tup{q:Aw}{H H':Hp}(o:Zk5 q H H'){D:Ah}(C:H q=some (.tbl D)){b:Aw}{xs:A2}(e:H b=some (.tup xs)):H' b=some (.tup xs):=o _ _ e (Xm e C fun z=>nomatch z)
def neA(x y:Int)(k:Nat):Int:=if lo x k=lo y k then 0 else 1
def Zha(x y:Int)(k:Nat):neA x y k=0\/neA x y k=1:=by
 unfold neA;split
 ·exact .inl rfl
 ·exact .inr rfl
def Zfo(x y:Int):neA x y 0=0:=by
 unfold neA lo;rw[Qds,Qgs,Qgs];rfl
def Zfp(x y:Int)(k:Nat):neA x y (k+1)=1-(1-(bt x k+bt y k)%2)*(1-neA x y k):=by
 have e1:=qT x k;have e2:=qT y k;have b1:=xI x k;have b2:=xI y k;unfold neA;rcases YJ x k with a|a<;>rcases YJ y k with b|b<;>rw[a]at e1 ⊢ <;> rw[b]at e2 ⊢ <;> by_cases h:lo x k=lo y k
 all_goals first
  |rw[Qa3 h,Qa3 (by lia)];rfl
  |rw[Qax h,Qax (by lia)];rfl
  |rw[Qa3 h,Qax (by lia)];rfl
def sgA(x:Int)(k:Nat):Int:=lo x k-2^k*bt x k
def bnA(x y:Int)(k:Nat):Int:=if sgA x k<sgA y k then 1 else 0
def bnA_01(x y:Int)(k:Nat):bnA x y k=0\/bnA x y k=1:=by
 unfold bnA;split
 ·exact .inr rfl
 ·exact .inl rfl
def bnA_br(x y:Int)(k:Nat):bnA x y k=1-(1-(1-bt y k)*bt x k)*(1-brA x y k*(1-(bt y k+bt x k)%2)):=by
 have b1:=xI x k;have b2:=xI y k;unfold bnA sgA brA;rcases YJ x k with a|a<;>rcases YJ y k with b|b<;>rw[a,b]<;>by_cases h:lo x k<lo y k
 all_goals first
  |rw[Qa3 h,Qa3 (by lia)];rfl
  |rw[Qax h,Qax (by lia)];rfl
  |rw[Qa3 h,Qax (by lia)];rfl
  |rw[Qax h,Qa3 (by lia)];rfl
def uo(y:Str)(is:Ak)(k:Nat):Int:=
 if y = "twice" then tw (is.getD 0 0) k else if y = "neg" \/ y = "low" \/ y = "nought" then nzA (is.getD 0 0) k else if y = "same" then neA (is.getD 0 0) (is.getD 1 0) k else if y = "add" then cyA (is.getD 0 0) (is.getD 1 0) k else brA (is.getD 0 0) (is.getD 1 0) k
def Zj6(y:Str)(is:Ak)(k:Nat):uo y is k=0\/uo y is k=1:=by
 unfold uo
 repeat' split
 ·exact tw_01 _ _
 ·exact Zb8 _ _
 ·exact Zha _ _ _
 ·exact Zb6 _ _ _
 ·exact yG _ _ _
def Zcs(y:Str)(is:Ak):uo y is 0=0:=by
 unfold uo
 repeat' split
 ·rfl
 ·exact Zff _
 ·exact Zfo _ _
 ·exact wJ _ _
 ·exact wM _ _
def Zd1(y:Str)(bs:Ak)(h:Int):Int:=
 if y = "twice" then bs.getD 0 0 else if y = "neg" \/ y = "low" \/ y = "nought" then 1-(1-bs.getD 0 0)*(1-h)else if y = "same" then 1-(1-(bs.getD 0 0+bs.getD 1 0)%2)*(1-h)else if y = "add" then(bs.getD 0 0+bs.getD 1 0+h)/2 else 1-(1-(1-bs.getD 0 0)*bs.getD 1 0)*(1-h*(1-(bs.getD 0 0+bs.getD 1 0)%2))
def yS(y:Str)(is:Ak)(k:Nat):uo y is (k+1)=Zd1 y (is.map fun x=>bt x k) (uo y is k):=by
 unfold uo Zd1;rw[WH,WH]
 repeat' split
 ·rfl
 ·exact Zfg _ _
 ·exact Zfp _ _ _
 ·exact wK _ _ _
 ·exact wN _ _ _
def Zmd(y:Str)(bs:Ak)(h:Int):Int:=
 if y = "add" \/ y = "sub" then(bs.getD 0 0+bs.getD 1 0+h)%2 else if y = "neg" then(bs.getD 0 0+h)%2 else if y = "twice" then h else if y = "low" then bs.getD 0 0*(1-h)
 else if y = "same" \/ y = "nought" then 1-Zd1 y bs h else if y = "under" then Zd1 y bs h else 1-(1-(1-bs.getD 1 0)*bs.getD 0 0)*(1-h*(1-(bs.getD 1 0+bs.getD 0 0)%2))
def yT(y:Str)(bs:Ak):Int:=
 if y = "yes" then 1 else if y = "sign" then bs.getD 0 0 else if y = "not" \/ y = "never" then 1-bs.getD 0 0 else if y = "and" \/ y = "both" then bs.getD 0 0*bs.getD 1 0 else if y = "or" \/ y = "either" then 1-(1-bs.getD 0 0)*(1-bs.getD 1 0)
 else if y = "odd" then(bs.getD 0 0+bs.getD 1 0)%2 else if y = "so" then 1-(1-(1-bs.getD 0 0))*(1-bs.getD 1 0)else 1-(1-bs.getD 0 0*bs.getD 1 0)*(1-(1-bs.getD 0 0)*bs.getD 2 0)
def Zhb(a b h:Int)(l:Nat):bt (Zmb a b h) l=1-(1-(1-bt a l)*bt b l)*(1-bt h l*(1-(bt a l+bt b l)%2)):=by
 unfold Zmb;rw[G8,YR,YR,JC,JC,qQ]
def Zhc(y:Str)(is:Ak)(h:Int)(l:Nat):bt (ktI y is h) l=Zd1 y (is.map fun x=>bt x l) (bt h l):=by
 unfold Zd1 ktI;rw[WH,WH]
 repeat' split
 ·rfl
 ·exact G8 l _ _
 ·rw[G8,qQ]
 ·rw[G8,YR,YR,G8];rcases YJ (is.getD 0 0) l with a|a<;>rcases YJ (is.getD 1 0) l with b|b<;>rcases YJ h l with c|c<;>rw[a,b,c]<;>rfl
 ·exact Zhb _ _ _ _
def okR_bt(y:Str)(is:Ak)(h:Int)(l:Nat):bt (okI y is h (ktI y is h)) l=Zmd y (is.map fun x=>bt x l) (bt h l):=by
 unfold Zmd okI;rw[<-Zhc,WH,WH]
 repeat' split
 ·rw[qQ,qQ];lia
 ·exact qQ l _ _
 ·rfl
 ·rw[YR,JC]
 ·exact JC l _
 ·rfl
 ·exact Zhb _ _ _ _
def Zhd(y:Str)(is:Ak)(l:Nat):bt (oaI y is) l=yT y (is.map fun x=>bt x l):=by
 unfold yT oaI;rw[WH,WH,WH]
 repeat' split
 ·exact Zb4 l
 ·rfl
 ·exact JC l _
 ·exact YR l _ _
 ·exact G8 l _ _
 ·exact qQ l _ _
 ·rw[G8,JC]
 ·rw[G8,YR,YR,JC]
def clB(y:Str)(is:Ak)(k:Nat):Int:=
 if y = "same" then 1-neA (is.getD 0 0) (is.getD 1 0) (k+1)else if y = "nought" then 1-nzA (is.getD 0 0) (k+1)else if y = "under" then brA (is.getD 0 0) (is.getD 1 0) (k+1)else if y = "beneath" then bnA (is.getD 0 0) (is.getD 1 0) k
 else yT y (is.map fun x=>bt x k)
def once01(y:Str)(is:Ak)(k:Nat):yT y (is.map fun x=>bt x k)=0\/yT y (is.map fun x=>bt x k)=1:=by
 rw[<-Zhd];exact YJ _ _
def gm(y:Str)(is:Ak)(k:Nat):clB y is k=0\/clB y is k=1:=by
 unfold clB
 repeat' split
 ·have:=Zha (is.getD 0 0) (is.getD 1 0) (k+1);lia
 ·have:=Zb8 (is.getD 0 0) (k+1);lia
 ·exact yG _ _ _
 ·exact bnA_01 _ _ _
 ·exact once01 _ _ _
def rwR(W:Nat)(ρ:Str->Int)(w:V)(is:Ak):Int:=
 match w with
 |.str y=>if y∈Z5 then sm (clB y is) W else wwv ρ w is%2^W
 |_=>wwv ρ w is%2^W
def Jd(W:Nat)(ρ:Str->Int):A2->List Int
 |[]=>[]
 |w::r=>rwR W ρ w ((Jd W ρ r).take (npw w))::(Jd W ρ r).drop (npw w)
theorem gn(W:Nat)(ρ:Str->Int):∀q:A2,(Jd W ρ q).length=wO q
 |[]=>rfl
 |w::r=>by
  show((Jd W ρ r).drop (npw w)).length+1=_;rw[Qbr,gn W ρ r];rfl
def uq:V->Bool
 |.str y=>decide (y∈allR)
 |_=>false
def G2(W:Nat)(ρ:Str->Int):A2->Nat->List Int
 |[],_=>[]
 |w::r,k=>G2 W ρ r k++if uq w=true then[uo (Zdz w) ((Jd W ρ r).take (npw w)) k]else[]
def Zct(ys:Ai)(ν:Str->Int)(pl:Nat)(kp:Ak):A2->List Int×Ak
 |[]=>([],[])
 |w::r=>
  let p:=Zct ys ν pl kp r
  match w with
  |.str y=>
   if y∈allR then(Zmd y (p.1.take (npw w)) (kp.getD p.2.length 0)::p.1.drop (npw w),p.2++[Zd1 y (p.1.take (npw w)) (kp.getD p.2.length 0)])
   else if y∈ys then(ν y::p.1.drop (npw w),p.2)
   else(yT y (p.1.take (npw w))::p.1.drop (npw w),p.2)
  |.int z=>(bt z pl::p.1.drop (npw w),p.2)
  |_=>p
def yU{ys:Ai}{cols:Str->Int}{pl:Nat}{kp:Ak}(D:∀i:Nat,kp.getD i 0=0\/kp.getD i 0=1)(l:Nat):∀q:A2,
  (X9 ys cols pl kp q).1.map (fun x=>bt x l)=(Zct ys (fun y=>bt (cols y) l) pl kp q).1/\(X9 ys cols pl kp q).2.map (fun x=>bt x l)=(Zct ys (fun y=>bt (cols y) l) pl kp q).2
 |[]=>⟨rfl,rfl⟩
 |w::r=>by
  obtain⟨e1,e2⟩:=yU (ys:=ys) (cols:=cols) (pl:=pl) D l r;have F:(X9 ys cols pl kp r).2.length=(Zct ys (fun y=>bt (cols y) l) pl kp r).2.length:=by rw[<-e2,Qab]
  cases w with
  |str y=>
   show(if y∈allR then _ else if y∈ys then _ else _:Ak×Ak).1.map _=(if y∈allR then _ else if y∈ys then _ else _:Ak×Ak).1/\(if y∈allR then _ else if y∈ys then _ else _:Ak×Ak).2.map _=(if y∈allR then _ else if y∈ys then _ else _:Ak×Ak).2
   by_cases ha:y∈allR
   ·rw[Qa3 ha,Qa3 ha];constructor
    ·show bt _ l::_=_::_;rw[okR_bt,vZ (D _),Qdm,Qdw,e1,F]
    ·rw[Qay,e2];show _++[bt _ l]=_;rw[Zhc,vZ (D _),Qdm,e1,F]
   ·rw[Qax ha,Qax ha]
    by_cases C:y∈ys
    ·rw[Qa3 C,Qa3 C];refine⟨?_,e2⟩;show bt _ l::List.map _ (List.drop _ _)=_::_;rw[Qdw,e1]
    ·rw[Qax C,Qax C];refine⟨?_,e2⟩;show bt _ l::List.map _ (List.drop _ _)=_::_;rw[Zhd,Qdm,Qdw,e1]
  |int z=>
   refine⟨?_,e2⟩;show bt (-(bt z pl)) l::List.map _ (List.drop _ _)=bt z pl::_;rw[Qdw,e1,vZ (YJ z pl)]
  |_=>exact⟨e1,e2⟩
def JG:∀y∈JA,y∉Z5:=by decide +kernel
def Zfq{y:Str}(q:y∈qU)(is:Ak)(k:Nat):uo y is k=hld y is k:=by
 unfold qU at q;simp only[Qao,Qa8,Qdv]at q;rcases q with rfl|rfl|rfl|rfl|rfl<;>rfl
def Zfr{y:Str}(q:y∈qU)(bs:Ak)(h:Int):Zmd y bs h=ans1 y bs h:=by
 unfold qU at q;simp only[Qao,Qa8,Qdv]at q;rcases q with rfl|rfl|rfl|rfl|rfl<;>rfl
def Zcu{y:Str}(C:y∈JA)(q:y∉qU)(bs:Ak):yT y bs=once y bs:=by
 rcases zK y C q with⟨rfl,_⟩|⟨rfl,_⟩|⟨rfl,_⟩|⟨rfl,_⟩|⟨rfl,_⟩<;>rfl
def Zcv:∀y∈Z5,y∈allR->y = "same" \/ y = "under" \/ y = "beneath" \/ y = "nought" :=by decide +kernel
def ur:∀y∈Z5,y∉allR->¬y = "same" /\ ¬y = "under" /\ ¬y = "beneath" /\ ¬y = "nought" :=by decide +kernel
def Zfs{f:Nat->Int}(q:∀i,f i=0\/f i=1){k W:Nat}(h:k<W):bt (sm f W) k=f k:=Zce q k W h
def Zft(ρ:Str->Int){y:Str}{W k:Nat}(D:k<W)(ha:y∈allR){is:Ak}(h:y∈Z5\/(y∈JA/\is.length=Yp y)):Zmd y (is.map fun x=>bt x k) (uo y is k)=bt (rwR W ρ (.str y) is) k:=by
 rcases h with C|⟨hs,F⟩
 ·show _=bt (if y∈Z5 then _ else _) k;rw[Qa3 C,Zfs (gm y is) D];have hs:=yS y is k;rcases Zcv y C ha with rfl|rfl|rfl|rfl
  ·show 1-Zd1 "same" _ _=1-neA _ _ (k+1);rw[<-hs];rfl
  ·show Zd1 "under" _ _=brA _ _ (k+1);rw[<-hs];rfl
  ·show 1-(1-(1-List.getD _ 1 0)*List.getD _ 0 0)*(1-brA _ _ k*(1-(List.getD _ 1 0+List.getD _ 0 0)%2))=bnA _ _ k;rw[WH,WH,bnA_br]
  ·show 1-Zd1 "nought" _ _=1-nzA _ (k+1);rw[<-hs];rfl
 ·have q:=(Zcd y hs).mp ha;show _=bt (if y∈Z5 then _ else _) k;rw[Qax (JG y hs),Zfr q,Zfq q,ans_ok ρ q F,qS _ _ _ D]
def Zcw(ρ:Str->Int){y:Str}{W k:Nat}(C:k<W)(ha:y∉allR){is:Ak}(h:y∈Z5\/(y∈JA/\is.length=Yp y)):yT y (is.map fun x=>bt x k)=bt (rwR W ρ (.str y) is) k:=by
 rcases h with q|⟨hs,I⟩
 ·show _=bt (if y∈Z5 then _ else _) k;obtain⟨h1,h2,F,G⟩:=ur y q ha;rw[Qa3 q,Zfs (gm y is) C];unfold clB;rw[Qax h1,Qax G,Qax h2,Qax F]
 ·have D:y∉qU:=fun z=>ha ((Zcd y hs).mpr z)
  show _=bt (if y∈Z5 then _ else _) k;rw[Qax (JG y hs),Zcu hs D,Zju ρ hs D I,qS _ _ _ C]
def uv(ys:Ai)(B:Nat)(w:V):Prop:=yH ys B w\/∃y,w=.str y/\y∈Z5/\y∉ys
theorem Zfu(W:Nat)(ρ:Str->Int)(q:A2)(k:Nat):(G2 W ρ q k).length=(q.filter uq).length:=by
 induction q with
 |nil=>rfl
 |cons w r C=>
  show(G2 W ρ r k++_).length=_;rw[Qaj,C,Qc5];split<;>rfl
theorem Zcx{ys:Ai}{B W k pl:Nat}{ρ:Str->Int}(O:k<W)(hpl:pl=k\/(B<=pl/\B<=k))(G:∀y∈ys,y∉ZK)(kp:Ak):∀I:A2,(∀w∈I,uv ys B w)->WI I->(∃r,kp=G2 W ρ I k++r)->Zct ys (fun y=>bt (ρ y) k) pl kp I=((Jd W ρ I).map (fun x=>bt x k),G2 W ρ I (k+1))
 |[],_,_,_=>rfl
 |w::r,hw,he,hkp=>by
  obtain⟨r0,Z⟩:=hkp;have ih:=Zcx (ρ:=ρ) O hpl G kp r (fun w h=>hw w (Qal _ h)) he.2 ⟨_,by rw[Z];show(_++_)++_=_;rw[Qcg]⟩;have Y:=gn W ρ r;have htk:((Jd W ρ r).take (npw w)).length=npw w:=by rw[Qa2,Y];exact Qey he.1
  have ml:=Zfu W ρ r;have F:∀y,w=.str y->y∉ys->(y∈Z5\/(y∈JA/\npw w=Yp y))->Zct ys (fun y=>bt (ρ y) k) pl kp (w::r)=((Jd W ρ (w::r)).map (fun x=>bt x k),G2 W ρ (w::r) (k+1)):=by
   rintro y rfl C D;have J:y∈Z5\/(y∈JA/\((Jd W ρ r).take (npw (.str y))).length=Yp y):=by rw[htk];exact D
   by_cases ha:y∈allR
   ·have q:uq (.str y)=true:=Qan ha;have hg:kp.getD (G2 W ρ r (k+1)).length 0=uo y ((Jd W ρ r).take (npw (.str y))) k:=by
     have e:G2 W ρ (.str y::r) k=G2 W ρ r k++[uo y ((Jd W ρ r).take (npw (.str y))) k]:=by
      show _++(if uq (.str y)=true then _ else _)=_;rw[Qa3 q];rfl
     rw[Z,e,ml,<-ml k,Qcg,Qaf,Qaz (Qak _),Qe1];rfl
    show(if y∈allR then _ else _)=_;rw[Qa3 ha,ih];rw[hg,<-Qdm,Zft ρ O ha J,<-yS];refine Qhv ?_ ?_
    ·show _::_=bt _ k::((Jd W ρ r).drop (npw (.str y))).map _;rw[Qdw]
    ·show _=_++(if uq (.str y)=true then _ else _);rw[Qa3 q];rfl
   ·have q:¬uq (.str y)=true:=fun z=>ha (Qbh z)
    show(if y∈allR then _ else if y∈ys then _ else _)=_;rw[Qax ha,Qax C,ih];rw[<-Qdm,Zcw ρ O ha J];refine Qhv ?_ ?_
    ·show _::_=bt _ k::((Jd W ρ r).drop (npw (.str y))).map _;rw[Qdw]
    ·show _=_++(if uq (.str y)=true then _ else _);rw[Qax q,Qby]
  rcases hw w Qai with(⟨y,rfl,D,C,M⟩|⟨y,rfl,D,hnr,M⟩|⟨z,rfl,z0,z1,M⟩)|⟨y,rfl,D,C⟩
  ·exact F y rfl C (.inr ⟨D,M⟩)
  ·have L:y∉allR:=fun z=>G y D (gc y z)
   have hnc:y∉Z5:=fun z=>G y D (YU y z);have q:¬uq (.str y)=true:=fun z=>L (Qbh z);show(if y∈allR then _ else if y∈ys then _ else _)=_;rw[Qax L,Qa3 D,ih];refine Qhv ?_ ?_
   ·show _::_=bt (if y∈Z5 then _ else _) k::((Jd W ρ r).drop (npw (.str y))).map _;rw[Qax hnc,qS _ _ _ O,M,List.take_zero,Qep,Qep];rfl
   ·show _=_++(if uq (.str y)=true then _ else _);rw[Qax q,Qby]
  ·show(bt z pl::(Zct ys (fun y=>bt (ρ y) k) pl kp r).1.drop (npw (.int z)),(Zct ys (fun y=>bt (ρ y) k) pl kp r).2)=_;rw[ih];have ez:bt z pl=bt z k:=by
    rcases hpl with h|⟨h1,h2⟩
    ·rw[h]
    ·rw[Zg4 z0 z1 h1,Zg4 z0 z1 h2]
   refine Qhv ?_ ?_
   ·show bt z pl::_=bt (wwv ρ (.int z) ((Jd W ρ r).take (npw (.int z)))%2^W) k::((Jd W ρ r).drop (npw (.int z))).map _;rw[qS _ _ _ O,M,Qep,Qep,ez];rfl
   ·show _=_++(if uq (.int z)=true then _ else _);rw[Qax (fun z=>nomatch z),Qby]
  ·exact F y rfl C (.inl D)
theorem zQ{ys:Ai}{ν q:Str->Int}{pl:Nat}{kp:Ak}(h:∀y∈ys,ν y=q y):∀C:A2,Zct ys ν pl kp C=Zct ys q pl kp C
 |[]=>rfl
 |w::r=>by
  have F:=zQ (pl:=pl) (kp:=kp) h r;unfold Zct;rw[F];cases w with
  |str y=>
   by_cases D:y∈allR
   ·simp only[Qa3 D]
   ·grind
  |_=>rfl
theorem gp{W:Nat}{ρ:Str->Int}{k:Nat}:∀{q:A2},∀x∈G2 W ρ q k,x=0\/x=1
 |w::r,x,h=>by
  rcases Qbd.mp h with h|h
  ·exact gp x h
  ·split at h
   ·rw[Qar.mp h];exact Zj6 _ _ _
   ·cases h
def Zj7(W:Nat)(ρ:Str->Int)(q:A2)(k i:Nat):(G2 W ρ q k).getD i 0=0\/(G2 W ρ q k).getD i 0=1:=by
 rw[Qaf];cases e:(G2 W ρ q k)[i]? with
 |none=>exact .inl rfl
 |some x=>exact gp x (Qas e)
theorem yV(W:Nat)(ρ:Str->Int):∀q:A2,G2 W ρ q 0=List.replicate (q.filter uq).length 0
 |[]=>rfl
 |w::r=>by
  show G2 W ρ r 0++_=_;rw[yV W ρ r,Qc5];split
  ·rw[Zcs,Qba,Qfa]
  ·rw[Qby]
theorem yW{ys:Ai}{B:Nat}:∀{q:A2},(∀w∈q,uv ys B w)->Y8 q=(q.filter uq).length
 |[],_=>rfl
 |w::r,h=>by
  rw[yP,yW (fun v C=>h v (Qal _ C)),Qc5];have e:inV w (allR.map V.str)=uq w:=by
   rcases h w Qai with(⟨y,rfl,_⟩|⟨y,rfl,_⟩|⟨z,rfl,_⟩)|⟨y,rfl,_⟩
   ·exact ZC _ _
   ·exact ZC _ _
   ·exact vY z _
   ·exact ZC _ _
  rw[e];split<;>rfl
def xi{ls:Aj}{W k c:Nat}(q:N.Nodup)(O:∀y∈N,y∉ZK)(hw:∀w∈r,uv N 10 w)(M:WI r)(I:k<W)(L:ls[k]?=some c)(C:c<2^N.length):
  (Zk4 N (Y9 (2^N.length) N) r (min (k:Int) (lgB r:Int),G2 W (yQ ls N) r k)).1.map (fun x=>bt x c)=(Jd W (yQ ls N) r).map (fun x=>bt x k)/\(Zk4 N (Y9 (2^N.length) N) r (min (k:Int) (lgB r:Int),G2 W (yQ ls N) r k)).2.map (fun x=>bt x c)=G2 W (yQ ls N) r (k+1):=by
 have F:∀w∈r,uv N (lgB r) w:=fun w h=>by
  rcases hw w h with(z|z|⟨z,rfl,G,_,J⟩)|z
  ·exact .inl (.inl z)
  ·exact .inl (.inr (.inl z))
  ·exact .inl (.inr (.inr ⟨z,rfl,G,lgB_lt h G,J⟩))
  ·exact .inr z
 obtain⟨e1,e2⟩:=yU (ys:=N) (cols:=Y9 (2^N.length) N) (pl:=(min (k:Int) (lgB r:Int)).toNat) (Zj7 W (yQ ls N) r k) c r;have D:∀y∈N,bt (Y9 (2^N.length) N y) c=bt (yQ ls N y) k:=fun y Y=>by
  obtain⟨i,hi⟩:=Qcm.mp Y;rw[Zfn q hi C,Zj2 q hi L]
 have e3:=zQ (pl:=(min (k:Int) (lgB r:Int)).toNat) (kp:=G2 W (yQ ls N) r k) D r;have Z:=Zcx (ρ:=yQ ls N) (pl:=(min (k:Int) (lgB r:Int)).toNat) I (by lia:(min (k:Int) (lgB r:Int)).toNat=k\/(lgB r<=(min (k:Int) (lgB r:Int)).toNat/\lgB r<=k)) O (G2 W (yQ ls N) r k) r F M ⟨[],(Qby _).symm⟩;rw[e3,Z]at e1 e2;exact⟨e1,e2⟩
theorem Zcy{C:A2}{ls:Aj}{W:Nat}{o:Int}{o0 o1:V}{l:List (Int×Ak)}(G:N.Nodup)(M:∀y∈N,y∉ZK)(hw:∀w∈C,uv N 10 w)(Z:WI C)(hW:W<=ls.length)(Y:∀x∈ls,x<2^N.length)(ho:Jd W (yQ (ls.take W) N) C=[o])
  (B:BfE (nxT N (Y9 (2^N.length) N) C (lgB C)) (0,List.replicate (Y8 C) 0) l):
  ∀k,k<W->(rnO (rnG (nxT N (Y9 (2^N.length) N) C (lgB C)) l) (l.map (otT N (Y9 (2^N.length) N) C o0 o1)) 0 ls)[k]?=some (if bt o k=1 then o1 else o0):=by
 have cl:∀s∈l,∀x∈nxT N (Y9 (2^N.length) N) C (lgB C) s,x∈l:=fun s hs x hx=>B.next hs hx;generalize hρ:yQ (ls.take W) N=ρ at *;have e0:((0:Int),List.replicate (Y8 C) (0:Int))=(min ((0:Nat):Int) (lgB C:Int),G2 W ρ C 0):=by
  rw[yV,yW hw,show min ((0:Nat):Int) (lgB C:Int)=0 by lia]
 have at_:∀k,k<W->∃c,ls[k]?=some c/\(ls.take W)[k]?=some c/\c<2^N.length:=fun k M=>by
  have h1:ls[k]?=some ls[k]:=Qac (by lia);exact⟨_,h1,by grind,Y _ (Qas h1)⟩
 have step:∀k,k<=W->stN (rnG (nxT N (Y9 (2^N.length) N) C (lgB C)) l) 0 (ls.take k)=ixG l (min (k:Int) (lgB C:Int),G2 W ρ C k)/\(min (k:Int) (lgB C:Int),G2 W ρ C k)∈l:=by
  intro k
  induction k with
  |zero=>
   intro _;rw[<-e0];exact⟨B.zero.symm,B.begin.2⟩
  |succ k O=>
   intro hk1;obtain⟨i1,i2⟩:=O (by lia);obtain⟨c,L,F,D⟩:=at_ k (by lia);obtain⟨_,e2⟩:=xi G M hw Z (show k<W by lia) F D;rw[hρ]at e2;have en:(nxT N (Y9 (2^N.length) N) C (lgB C) (min (k:Int) (lgB C:Int),G2 W ρ C k))[c]?=some (min ((k+1:Nat):Int) (lgB C:Int),G2 W ρ C (k+1)):=by
    unfold nxT;rw[GY D,e2];congr 2;lia
   refine⟨?_,B.next i2 (Qas en)⟩;rw[take_snoc L,qb,i1,Zg9 cl i2,Qaf,Qah,en];rfl
 intro k J;obtain⟨i1,i2⟩:=step k (by lia);obtain⟨c,L,F,D⟩:=at_ k J;obtain⟨e1,_⟩:=xi G M hw Z J F D;rw[hρ]at e1;have I:k<ls.length:=by lia
 have ek:ls=ls.take k++c::ls.drop (k+1):=by
  rw[show c::ls.drop (k+1)=ls.drop k by rw[Qc2 I];congr 1;exact(Qag.mp L).2.symm,Qc9]
 have go:∀(nx:Ad) (ot:Az) (s:Nat) (a:Aj) (c:Nat) (r:Aj),(rnO nx ot s (a++c::r))[a.length]?=some ((ot.getD (stN nx s a) []).getD c .non):=fun nx ot s a c r=>by
  induction a generalizing s with
  |nil=>rfl
  |cons d a O=>exact O _
 have g:=go (rnG (nxT N (Y9 (2^N.length) N) C (lgB C)) l) (l.map (otT N (Y9 (2^N.length) N) C o0 o1)) 0 (ls.take k) c (ls.drop (k+1));rw[<-ek,Qa2,Qey (by lia),i1,Zj3 i2]at g;rw[g];congr 1;unfold otT;rw[Qaf,GY D];rw[ho]at e1;generalize (Zk4 N (Y9 (2^N.length) N) C (min (k:Int) (lgB C:Int),G2 W ρ C k)).1=q at e1 ⊢;have hq:q.length=1:=by
  have:=congrArg List.length e1;rw[Qab]at this;exact this
 match q,hq,e1 with
 |[x],_,e1=>
  have e1:bt x c=bt o k:=by
   injection e1
  show(if bt x c=1 then o1 else o0)=_;rw[e1]
inductive TyR(ys:Ai):A2->List Bool->Prop
 |nil:TyR ys [] []
 |sum {w:V} {r:A2} {ks:Am}:yH ys 10 w->TyR ys r (List.replicate (npw w) false++ks)->TyR ys (w::r) (false::ks)
 |clm {y:Str} {r:A2} {ks:Am}:y∈Z5->y∉ys->TyR ys r (List.replicate (JB (.str y)) false++(List.replicate (jx (.str y)) true++ks))->TyR ys (.str y::r) (true::ks)
def xj:∀y∈Z5,npw (.str y)=JB (.str y)+jx (.str y):=by decide +kernel
theorem TyR.facts{ys:Ai}{C:A2}{ks:Am}(h:TyR ys C ks):(∀w∈C,uv ys 10 w)/\WI C/\wO C=ks.length:=by
 induction h with
 |nil=>exact⟨(fun _ h=>nomatch h),trivial,rfl⟩
 | @sum w r ks hw _ F=>
  obtain⟨h1,h2,D⟩:=F;rw[Qaj,Qa1]at D;refine⟨fun v q=>?_,⟨by lia,h2⟩,?_⟩
  ·rcases Qao.mp q with rfl|q
   ·exact .inl hw
   ·exact h1 v q
  ·show wO r-npw w+1=ks.length+1;lia
 | @clm y r ks G I _ F=>
  obtain⟨h1,h2,D⟩:=F;rw[Qaj,Qaj,Qa1,Qa1]at D;have e:=xj y G;refine⟨fun v q=>?_,⟨by lia,h2⟩,?_⟩
  ·rcases Qao.mp q with rfl|q
   ·exact .inr ⟨y,rfl,G,I⟩
   ·exact h1 v q
  ·show wO r-npw (.str y)+1=ks.length+1;lia
def RlV(W:Nat):Bool->V->Int->Prop
 |false,v,x=>v=.int x/\0<=x/\x<2^W
 |true,v,x=>v=.bl (decide (bt x (W-1)=1))
inductive RlS(W:Nat):Am->List V->List Int->Prop
 |nil:RlS W [] [] []
 |cons {b:Bool} {bs:Am} {v:V} {vs:A2} {x:Int} {xs:Ak}:RlV W b v x->RlS W bs vs xs->RlS W (b::bs) (v::vs) (x::xs)
theorem RlS.cut{W:Nat}{as:Am}:∀{vs:A2} {xs:Ak},RlS W (as++B) vs xs->RlS W as (vs.take as.length) (xs.take as.length)/\RlS W B (vs.drop as.length) (xs.drop as.length):=by
 induction as with
 |nil=>exact fun h=>⟨.nil,h⟩
 |cons a as C=>
  intro vs xs h;cases h with
  |cons h1 h2=>
   obtain⟨D,q⟩:=C h2;exact⟨.cons h1 D,q⟩
theorem RlS.ints{W:Nat}:∀{vs:A2} {xs:Ak},RlS W (List.replicate n false) vs xs->vs=xs.map V.int/\xs.length=n/\∀x∈xs,0<=x/\x<2^W:=by
 induction n with
 |zero=>
  intro vs xs h;cases h;exact⟨rfl,rfl,(fun _ h=>nomatch h)⟩
 |succ n F=>
  intro vs xs h;cases h with
  |cons h1 h2=>
   obtain⟨e1,e2,e3⟩:=F h2;obtain⟨rfl,C,D⟩:=h1;refine⟨by rw[e1];rfl,by rw[Qba,e2],fun x q=>?_⟩;rcases Qao.mp q with rfl|q
   ·exact⟨C,D⟩
   ·exact e3 x q
theorem RlS.bls{W:Nat}:∀{vs:A2} {xs:Ak},RlS W (List.replicate n true) vs xs->vs=xs.map (fun x=>V.bl (decide (bt x (W-1)=1)))/\xs.length=n:=by
 induction n with
 |zero=>
  intro vs xs h;cases h;exact⟨rfl,rfl⟩
 |succ n q=>
  intro vs xs h;cases h with
  |cons h1 h2=>
   obtain⟨e1,e2⟩:=q h2;cases h1;exact⟨by rw[e1];rfl,by rw[Qba,e2]⟩
def uw{x:Int}{W:Nat}(q:0<=x)(h1:x<2^W):lo x W=x:=Qdb q h1
def Zcz{x:Int}{k:Nat}(q:0<=x)(h1:x<2^(k+1)):sgA x k=sgn (2^(k+1)) x:=by
 have e:=qT x k;rw[uw q h1]at e;have b:=xI x k;unfold sgA sgn;rcases YJ x k with a|a<;>skip
 ·lia
 ·lia
def Gf:∀y∈Z5,0<JB (.str y)->jx (.str y)=0/\((y = "same" /\ JB (.str y)=2)\/(y = "under" /\ JB (.str y)=2)\/(y = "beneath" /\ JB (.str y)=2)\/(y = "sign" /\ JB (.str y)=1)\/(y = "nought" /\ JB (.str y)=1)):=by decide +kernel
def ux:∀y∈Z5,¬0<JB (.str y)->(y = "both" /\ jx (.str y)=2)\/(y = "either" /\ jx (.str y)=2)\/(y = "so" /\ jx (.str y)=2)\/(y = "never" /\ jx (.str y)=1)\/(y = "yes" /\ jx (.str y)=0):=by decide +kernel
def Zfv{W:Nat}(F:1<=W){y:Str}(D:y∈Z5)(hs:0<JB (.str y)){xs:Ak}(C:xs.length=JB (.str y))(q:∀x∈xs,0<=x/\x<2^W):xH (2^W) y xs=decide (clB y xs (W-1)=1):=by
 obtain⟨k,rfl⟩:∃k,W=k+1:=⟨W-1,by lia⟩;obtain⟨_,h⟩:=Gf y D hs;rcases h with⟨rfl,e⟩|⟨rfl,e⟩|⟨rfl,e⟩|⟨rfl,e⟩|⟨rfl,e⟩<;>skip
 ·match xs,C with
  |[a,b],_=>
   have ha:=q a Qai;have q:=q b (Qal _ Qai);show decide (a=b)=decide (1-neA a b (k+1)=1);refine Qcv.mpr ?_;unfold neA;rw[uw ha.1 ha.2,uw q.1 q.2];split<;>lia
 ·match xs,C with
  |[a,b],_=>
   have ha:=q a Qai;have q:=q b (Qal _ Qai);show decide (a<b)=decide (brA a b (k+1)=1);refine Qcv.mpr ?_;unfold brA;rw[uw ha.1 ha.2,uw q.1 q.2];split<;>lia
 ·match xs,C with
  |[a,b],_=>
   have ha:=q a Qai;have q:=q b (Qal _ Qai);show decide (sgn (2^(k+1)) a<sgn (2^(k+1)) b)=decide (bnA a b k=1);refine Qcv.mpr ?_;unfold bnA;rw[Zcz ha.1 ha.2,Zcz q.1 q.2];split<;>lia
 ·match xs,C with
  |[a],_=>
   have ha:=q a Qai;show decide (sgn (2^(k+1)) a<0)=decide (bt a k=1);refine Qcv.mpr ?_;rw[<-Zcz ha.1 ha.2];have b:=xI a k;unfold sgA;rcases YJ a k with h|h<;>rw[h]<;>lia
 ·match xs,C with
  |[a],_=>
   have ha:=q a Qai;show decide (a=0)=decide (1-nzA a (k+1)=1);refine Qcv.mpr ?_;unfold nzA brA;rw[uw ha.1 ha.2,show lo 0 (k+1)=0 from Int.zero_emod _];split<;>lia
def Zfw{k:Nat}{y:Str}(C:y∈Z5)(hs:¬0<JB (.str y)){xs:Ak}(q:xs.length=jx (.str y)):Zmp y (xs.map fun x=>decide (bt x k=1))=decide (clB y xs k=1):=by
 rcases ux y C hs with⟨rfl,e⟩|⟨rfl,e⟩|⟨rfl,e⟩|⟨rfl,e⟩|⟨rfl,e⟩<;>skip
 ·match xs,q with
  |[a,b],_=>
   show(decide (bt a k=1)&&decide (bt b k=1))=decide (bt a k*bt b k=1);rcases YJ a k with h|h<;>rcases YJ b k with g|g<;>rw[h,g]<;>rfl
 ·match xs,q with
  |[a,b],_=>
   show(decide (bt a k=1)||decide (bt b k=1))=decide (1-(1-bt a k)*(1-bt b k)=1);rcases YJ a k with h|h<;>rcases YJ b k with g|g<;>rw[h,g]<;>rfl
 ·match xs,q with
  |[a,b],_=>
   show(decide (bt b k=1) || !decide (bt a k=1))=decide (1-(1-(1-bt a k))*(1-bt b k)=1);rcases YJ a k with h|h<;>rcases YJ b k with g|g<;>rw[h,g]<;>rfl
 ·match xs,q with
  |[a],_=>
   show(!decide (bt a k=1))=decide (1-bt a k=1);rcases YJ a k with h|h<;>rw[h]<;>rfl
 ·match xs,q with
  |[],_=>rfl
theorem jD{ys:Ai}{W:Nat}(hW:1<=W)(O:∀y∈ys,y∉ZK)(ρ:Str->Int){M:A2}{ks:Am}(h:TyR ys M ks):RlS W ks (XW (2^W) ρ M []) (Jd W ρ M):=by
 have Z:(0:Int)<2^W:=Qe0 (by decide)
 induction h with
 |nil=>exact .nil
 | @sum w r ks hw _ F=>
  obtain⟨D,C⟩:=F.cut;rw[Qa1]at D C;obtain⟨e1,e2,_⟩:=D.ints;rw[Xd];have L:∀xs,cvV (2^W) ρ w xs=.int (wwv ρ w (xs.map iV)%2^W)/\∀is,rwR W ρ w is=wwv ρ w is%2^W:=by
   intro xs;have no:∀y,w=.str y->y∉Z5->cvV (2^W) ρ w xs=.int (wwv ρ w (xs.map iV)%2^W)/\∀is,rwR W ρ w is=wwv ρ w is%2^W:=by
    rintro y rfl Y;exact⟨Qax Y,fun is=>Qax Y⟩
   rcases hw with⟨y,rfl,q,_⟩|⟨y,rfl,q,_⟩|⟨z,rfl,_⟩
   ·exact no y rfl (JG y q)
   ·exact no y rfl fun z=>O y q (YU y z)
   ·exact⟨rfl,fun _=>rfl⟩
  refine .cons ?_ C;have J:((Jd W ρ r).take (npw w) |>.map V.int).map iV=(Jd W ρ r).take (npw w):=by
   rw[Qaw];exact Qgb (fun _=>rfl) _
  refine⟨?_,?_⟩
  ·rw[(L _).1,e1,J,(L []).2]
  ·rw[(L []).2];exact⟨Qbz _ (Qfi Z),Qb0 _ Z⟩
 | @clm y r ks q hn _ F=>
  have G:=xj y q;rw[Xd]
  by_cases hs:0<JB (.str y)
  ·have I:=(Gf y q hs).1;rw[I,Qgi,Qhs]at F;obtain⟨D,C⟩:=F.cut;rw[Qa1]at D C;rw[I,Qgt]at G;rw[<-G]at D C;obtain⟨e1,e2,e3⟩:=D.ints;refine .cons ?_ C;have J:((Jd W ρ r).take (npw (.str y)) |>.map V.int).map iV=(Jd W ρ r).take (npw (.str y)):=by
    rw[Qaw];exact Qgb (fun _=>rfl) _
   show(if y∈Z5 then _ else _)=V.bl (decide (bt (if y∈Z5 then _ else _) (W-1)=1));rw[Qa3 q,Qa3 q,Qa3 hs,e1,J,Zfv hW q hs (by rw[e2,G]) e3,Zfs (gm _ _) (by lia)]
  ·have I:JB (.str y)=0:=by lia
   rw[I,Qgi,Qhs]at F;obtain⟨D,C⟩:=F.cut;rw[Qa1]at D C;rw[I,Qfg]at G;rw[<-G]at D C;obtain⟨e1,e2⟩:=D.bls;refine .cons ?_ C;have J:((Jd W ρ r).take (npw (.str y)) |>.map fun x=>V.bl (decide (bt x (W-1)=1))).map bV=((Jd W ρ r).take (npw (.str y))).map fun x=>decide (bt x (W-1)=1):=by
    rw[Qaw];rfl
   show(if y∈Z5 then _ else _)=V.bl (decide (bt (if y∈Z5 then _ else _) (W-1)=1));rw[Qa3 q,Qa3 q,Qax hs,e1,J,Zfw q hs (by rw[e2,G]),Zfs (gm _ _) (by lia)]
def zR{ys:Ai}{W:Nat}(C:1<=W)(q:∀y∈ys,y∉ZK)(ρ:Str->Int)(h:TyR ys r [true]):∃o,Jd W ρ r=[o]/\XW (2^W) ρ r []=[.bl (decide (bt o (W-1)=1))]:=by
 have g:=jD C q ρ h;generalize XW (2^W) ρ r []=vs at g;generalize Jd W ρ r=xs at g;cases g with
 |cons h1 h2=>
  cases h2;cases h1;exact⟨_,rfl,rfl⟩
def TyR.tail{ys:Ai}{w:V}{ks:Am}(h:TyR ys (w::r) ks):∃q,TyR ys r q:=by
 cases h with
 |sum _ h=>exact⟨_,h⟩
 |clm _ _ h=>exact⟨_,h⟩
theorem TyR.drop{ys:Ai}:∀{C:A2} {ks:Am},TyR ys C ks->∀j,∃q,TyR ys (C.drop j) q
 |[],ks,h,j=>by
  rw[List.drop_nil];exact⟨_,h⟩
 |w::r,ks,h,0=>⟨_,h⟩
 |w::r,ks,h,j+1=>by
  obtain⟨_,h'⟩:=h.tail;exact TyR.drop h' j
theorem jE(m:Int)(ρ:Str->Int):∀q:A2,(XW m ρ q []).length=wO q
 |[]=>rfl
 |w::r=>by
  rw[Xd,Qba,Qbr,jE m ρ r];rfl
def Zj8{ys:Ai}{w:V}(hw:yH ys 10 w)(q:∀y∈ys,y∉ZK)(m:Int)(ρ:Str->Int)(is:Ak):cvV m ρ w (is.map V.int)=.int (wwv ρ w is%m):=by
 have D:(is.map V.int).map iV=is:=by
  rw[Qaw];exact Qgb (fun _=>rfl) _
 have F:∀y,w=.str y->y∉Z5->cvV m ρ w (is.map V.int)=.int (wwv ρ w is%m):=by
  rintro y rfl G;have:cvV m ρ (.str y) (is.map V.int)=.int (wwv ρ (.str y) ((is.map V.int).map iV)%m):=Qax G;rw[D]at this;exact this
 rcases hw with⟨y,rfl,C,_⟩|⟨y,rfl,C,_⟩|⟨z,rfl,_⟩
 ·exact F y rfl (JG y C)
 ·exact F y rfl fun z=>q y C (YU y z)
 ·show V.int (wwv ρ (.int z) ((is.map V.int).map iV)%m)=_;rw[D]
def part_of{ys:Ai}{W:Nat}(J:1<=W)(C:∀y∈ys,y∉ZK)(ρ:Str->Int){x:V}{ks:Am}(h:TyR ys (x::r) ks):
  (∃(is:Ak) (l:A2),yH ys 10 x/\XW (2^W) ρ r []=is.map V.int++l/\is.length=npw x/\(∀z∈is,0<=z/\z<2^W)/\cvV (2^W) ρ x ((XW (2^W) ρ r []).take (npw x))::(XW (2^W) ρ r []).drop (npw x)=.int (wwv ρ x is%2^W)::l) \/
  (∃(y:Str) (is:Ak) (l:A2),x=.str y/\y∈Z5/\y∉ys/\0<JB (.str y)/\XW (2^W) ρ r []=is.map V.int++l/\is.length=JB (.str y)/\(∀z∈is,0<=z/\z<2^W)/\cvV (2^W) ρ x ((XW (2^W) ρ r []).take (npw x))::(XW (2^W) ρ r []).drop (npw x)=.bl (xH (2^W) y is)::l) \/
  (∃(y:Str) (bs:Am) (l:A2),x=.str y/\y∈Z5/\y∉ys/\¬0<JB (.str y)/\XW (2^W) ρ r []=bs.map V.bl++l/\bs.length=jx (.str y)/\cvV (2^W) ρ x ((XW (2^W) ρ r []).take (npw x))::(XW (2^W) ρ r []).drop (npw x)=.bl (Zmp y bs)::l):=by
 cases h with
 | @sum _ _ ks hw h=>
  obtain⟨q,_⟩:=(jD J C ρ h).cut;rw[Qa1]at q;obtain⟨e1,e2,e3⟩:=q.ints;refine .inl ⟨_,(XW (2^W) ρ r []).drop (npw x),hw,?_,e2,e3,?_⟩
  ·rw[<-e1,Qc9]
  ·rw[e1,Zj8 hw C]
 | @clm y _ ks F L h=>
  have D:=xj y F;have g:=jD J C ρ h
  by_cases hs:0<JB (.str y)
  ·have G:=(Gf y F hs).1;obtain⟨q,_⟩:=g.cut;rw[Qa1]at q;rw[G,Qgt]at D;rw[<-D]at q;obtain⟨e1,e2,e3⟩:=q.ints;refine .inr (.inl ⟨y,_,(XW (2^W) ρ r []).drop (npw (.str y)),rfl,F,L,hs,?_,by rw[e2,D],e3,?_⟩)
   ·rw[<-e1,Qc9]
   ·rw[e1];have I:(((Jd W ρ r).take (npw (.str y))).map V.int).map iV=(Jd W ρ r).take (npw (.str y)):=by
     rw[Qaw];exact Qgb (fun _=>rfl) _
    show(if y∈Z5 then _ else _)::_=_;rw[Qa3 F,Qa3 hs,I]
  ·have G:JB (.str y)=0:=by lia
   rw[G,Qgi,Qhs]at g;obtain⟨q,_⟩:=g.cut;rw[Qa1]at q;rw[G,Qfg]at D;rw[<-D]at q;obtain⟨e1,e2⟩:=q.bls;have M:((Jd W ρ r).take (npw (.str y))).map (fun x=>V.bl (decide (bt x (W-1)=1)))=(((Jd W ρ r).take (npw (.str y))).map fun x=>decide (bt x (W-1)=1)).map V.bl:=by
    rw[Qaw];rfl
   rw[M]at e1;refine .inr (.inr ⟨y,((Jd W ρ r).take (npw (.str y))).map (fun x=>decide (bt x (W-1)=1)),(XW (2^W) ρ r []).drop (npw (.str y)),rfl,F,L,hs,?_,by rw[Qab,e2,D],?_⟩)
   ·rw[<-e1,Qc9]
   ·rw[e1];have I:∀bs:Am,(bs.map V.bl).map bV=bs:=fun bs=>by
     rw[Qaw];exact Qgb (fun _=>rfl) _
    show(if y∈Z5 then _ else _)::_=_;rw[Qa3 F,Qax hs,I]
def Zk6{st:Aw}{v:V}{l:A2}(h:H st=some (.lst (v::l).reverse)):H st=some (.lst (l.reverse++[v])):=by rw[h,Qcq]
structure Wt(nm:Ai)(ws:A2):Prop where
 n3:nm.length<=3
 nd:nm.Nodup
 kp:∀y∈nm,y∉ZK
 ln:ws.length<=100
 ty:TyR nm ws [true]
 rm:Y8 ws<=15
abbrev otC(nm:Ai)(q:A2):Int×Ak->List V:=otT nm (Y9 (2^nm.length) nm) q (.bl false) (.bl true)
structure Zms(nm:Ai)(ws:A2)(l:List (Int×Ak))(H:Hp)(m:Aw):Prop where
 b:BfE (nxS nm ws) (0,List.replicate (Y8 ws) 0) l
 m:M4 H m nm 0 (rnG (nxS nm ws) l) (l.map (otC nm ws))
def claimC:∀y∈Z5,(y∈allR/\1<=npw (.str y)/\(y∈Zjv->2<=npw (.str y)))\/(y∈Zcb/\y∉allR/\npw (.str y)=Zb9 y):=by decide +kernel
theorem Wt.wc(S:Wt N r):∀w∈r,jz N w:=fun w h=>by
 rcases S.ty.facts.1 w h with h|⟨y,rfl,D,C⟩
 ·exact gh S.kp h
 ·rcases claimC y D with⟨h1,h2,q⟩|⟨h1,h2,q⟩
  ·exact .inl ⟨y,rfl,h1,C,h2,q⟩
  ·exact .inr (.inl ⟨y,rfl,h1,h2,C,q⟩)
theorem Wt.iz(S:Wt N r):∀z:Int,V.int z∈r->0<=z/\z<2^10:=fun z h=>by
 rcases S.ty.facts.1 _ h with(⟨y,e,_⟩|⟨y,e,_⟩|⟨C,e,q,h1,_⟩)|⟨y,e,_⟩
 ·cases e
 ·cases e
 ·cases e;exact⟨q,h1⟩
 ·cases e
def Wt.big(S:Wt N r):(10+1)*2^Y8 r<=1000000:=by
 have:2^Y8 r<=2^15:=Qcr (by decide) S.rm;lia
def Wt.len{l:List (Int×Ak)}(S:Wt N r)(B:BfE (nxS N r) (0,List.replicate (Y8 r) 0) l):l.length<=1000000:=by
 have h:=Zcm (nx:=nxS N r) (b:=((0:Int),List.replicate (Y8 r) (0:Int))) (U:=uni (Y8 r) (lgB r+1)) (XH.mpr ⟨0,by lia,rfl,YK.mpr ⟨Qa1,fun x C=>.inl (Qee C)⟩⟩) (fun s hs=>qa S.wc rfl hs) l.length;rw[<-B.e,jA]at h;have h2:lgB r<=10:=wZ S.iz;have q:=S.big;exact Qbc h (Qbc (Qe9 _ (by lia)) q)
def Zms.wf{C:A2}{l:List (Int×Ak)}{m:Aw}(S:Wt N C)(M:Zms N C l H m):Wf N 0 (rnG (nxS N C) l) (l.map (otC N C)) true:=by
 obtain⟨G,F⟩:=Zj5 M.b (n:=2^N.length) (Zcr _ _ _ _);have hpos:0<l.length:=Qeq M.b.begin.2;have ho:∀r∈l.map (otC N C),∀v∈r,v=.bl false\/v=.bl true:=fun r q v D=>by
  obtain⟨s,_,rfl⟩:=Qav.mp q;obtain⟨c,_,rfl⟩:=Qav.mp D;split
  ·exact .inr rfl
  ·exact .inl rfl
 refine⟨S.n3,by rw[xb];exact hpos,by rw[xb];exact S.len M.b,by rw[xb,Qab],G,F,fun r q=>?_,fun r q v D=>?_,fun r q v D=>?_⟩
 ·obtain⟨s,_,rfl⟩:=Qav.mp q;exact Zj4 _ _ _ _ _ _
 ·rcases ho r q v D with e|e<;>rw[e]<;>exact .inl ⟨rfl,_,rfl⟩
 ·rcases ho r q v D with e|e<;>rw[e]
  ·exact .inl rfl
  ·exact .inr rfl
def Zc0{l:List (Int×Ak)}{m:Aw}{ls:Aj}{W:Nat}(S:Wt N r)(M:Zms N r l H m)(D:1<=W)(q:W<=ls.length)(C:∀x∈ls,x<2^N.length):
  ∃b:Bool,XW (2^W) (yQ (ls.take W) N) r []=[.bl b]/\(rnO (rnG (nxS N r) l) (l.map (otC N r)) 0 ls)[W-1]?=some (.bl b):=by
 obtain⟨o,e1,e2⟩:=zR D S.kp (yQ (ls.take W) N) S.ty;refine⟨_,e2,?_⟩;have f:=S.ty.facts;have h:=Zcy (o0:=.bl false) (o1:=.bl true) S.nd S.kp f.1 f.2.1 q C e1 M.b (W-1) (by lia);rw[h];rcases YJ o (W-1)with z|z<;>rw[z]<;>rfl
def wwv_cg{y:Str}{is:Ak}(h:y∈JA)(q:is.length=Yp y)(ρ C:Str->Int):wwv ρ (.str y) is=wwv C (.str y) is:=by
 have D:1<=Yp y:=(by decide +kernel:∀y∈JA,1<=Yp y) y h
 match is,q with
 |[],q=>rw[<-q]at D;cases D
 |[a],_=>rfl
 |[a,b],_=>rfl
 |a::b::c::_,_=>rfl
def abc:Nat->Str
 |0=> "a"
 |1=> "b"
 |_=> "c"
def Zj9:∀i j,i<3->j<3->abc i=abc j->i=j:=by
 intro i j hi q;have h:∀i∈[0,1,2],∀j∈[0,1,2],abc i=abc j->i=j:=by decide +kernel
 exact h i (by grind) j (by grind)
structure VOk(kvs:A0)(n:Nat)(v:Nat->V):Prop where
 yes:∀j,j<n->Yj kvs (.inr (abc j))=some (v j)
 no:∀y,(∀j,j<n->y≠abc j)->Yj kvs (.inr y)=none
def VOk.put{kvs:A0}{v:Nat->V}(h:VOk kvs n v)(C:n<3):VOk (putK kvs (.inr (abc n)) (v n)) (n+1) v:=by
 refine⟨fun j D=>?_,fun y q=>?_⟩
 ·rw[GP]
  by_cases e:j=n
  ·rw[Qa3 (by rw[e]),e]
  ·rw[Qax (fun z=>e (Zj9 j n (by lia) C (Sum.inr.inj z)))];exact h.yes j (by lia)
 ·rw[GP,Qax (fun z=>q n (by lia) (Sum.inr.inj z))];exact h.no y fun j D=>q j (by lia)
def uy(q:List (Ak))(cs:Aj):Prop:=∀(i j:Nat) (a b:Ak),q[i]?=some a->q[j]?=some b->cs[i]?=cs[j]?->a=b
def Zd2(nx:Ad)(q:List (Ak)):Nat->List Nat
 |0=>XX q
 |i+1=>XX (GZ nx (Zd2 nx q i))
theorem Zfx{nx:Ad}{q:List (Ak)}{j:Nat}(h:XX (GZ nx (Zd2 nx q i))=Zd2 nx q i)(D:i<=j):Zd2 nx q j=Zd2 nx q i:=by
 obtain⟨d,rfl⟩:∃d,j=i+d:=⟨j-i,by lia⟩
 induction d with
 |zero=>rfl
 |succ d C=>
  show XX (GZ nx (Zd2 nx q (i+d)))=_;rw[C (by lia),h]
def xk:Ak->Nat->List Nat->List Nat
 |[],_,acc=>acc
 |c::r,i,acc=>xk r (i+1) (if c=(acc.length:Int)then acc++[i]else acc)
structure Canon(R:Ad):Prop where
 ord:∀(r p t:Nat) (row:Aj),R[r]?=some row->row[p]?=some t->∀t',t'<t->t'=0\/(∃r' row',r'<r/\R[r']?=some row'/\t'∈row')\/t'∈row.take p
 reach:∀t,0<t->t<R.length->∃r row,r<t/\R[r]?=some row/\t∈row
 lt:∀row∈R,∀s∈row,s<R.length
theorem xl{nx:Ad}{b x:Nat}:∀i,x∈Jn nx b i↔x=b\/∃j,j<i/\x∈nx.getD ((Jn nx b j).getD j 0) []
 |0=>by
  constructor
  ·exact fun h=>.inl (Qar.mp h)
  ·rintro(h|⟨j,q,_⟩)
   ·exact Qar.mpr h
   ·exact absurd q (Qdz _)
 |i+1=>by
  show x∈Zfk nx (Jn nx b i) i↔_;unfold Zfk;rw[j7,xl i];constructor
  ·grind
  ·grind
def rnR(nx:Ad)(l:Aj):Ad:=l.map fun s=>(nx.getD s []).map fun x=>l.idxOf x
def rnQ(ot:Az)(l:Aj):Az:=l.map fun s=>ot.getD s []
def Jm(nx:Ad)(l:Aj):(rnR nx l).length=l.length:=Qab ..
def zM.nodup{nx:Ad}{b:Nat}{l:Aj}(B:zM nx b l):l.Nodup:=by
 rw[B.e];exact qY nx b _
def zM.at{nx:Ad}{b:Nat}{l:Aj}(B:zM nx b l){j:Nat}(q:j<l.length):l[j]?=some ((Jn nx b j).getD j 0):=by
 have:=bfs_at (nx:=nx) (b:=b) (i:=l.length) q (B.go j q);rw[<-B.e]at this;exact this
def zM.next{nx:Ad}{b:Nat}{l:Aj}(B:zM nx b l){s x:Nat}(hi:l[i]?=some s)(C:x∈nx.getD s []):x∈l:=by
 have q:=(Qag.mp hi).1;rw[B.at q]at hi;rw[B.e,xl];refine .inr ⟨i,q,?_⟩;rw[Option.some.inj hi];exact C
def zM.zero{nx:Ad}{b:Nat}{l:Aj}(B:zM nx b l):l[0]?=some b:=by
 have:b∈l:=by rw[B.e,xl];exact .inl rfl
 exact B.at (Qeq this)
def zM.pre{nx:Ad}{b:Nat}{l:Aj}(B:zM nx b l){j:Nat}(q:j<=l.length):∃r,l=Jn nx b j++r:=by
 obtain⟨r,e⟩:=kf nx b j (l.length-j);rw[show j+(l.length-j)=l.length by lia,<-B.e]at e;exact⟨r,e⟩
def at_idx{l:Aj}{x:Nat}(h:x∈l):l[l.idxOf x]?=some x:=by grind
def jF{nx:Ad}{b:Nat}{l:Aj}(B:zM nx b l):Canon (rnR nx l):=by
 have Y:=B.nodup;have C:∀{r:Nat} {row:Aj},(rnR nx l)[r]?=some row->∃s,l[r]?=some s/\row=(nx.getD s []).map fun x=>l.idxOf x:=fun{r row} h=>by
  unfold rnR at h;rw[Qah]at h;obtain⟨s,hs,e⟩:=Qa4.mp h;exact⟨s,hs,e.symm⟩
 have inRow:∀{j:Nat} {x:Nat},j<l.length->x∈nx.getD ((Jn nx b j).getD j 0) []->∃row,(rnR nx l)[j]?=some row/\l.idxOf x∈row:=fun{j x} hj I=>by
  refine⟨_,?_,Qb6 (f:=fun x=>l.idxOf x) I⟩;unfold rnR;rw[Qah,B.at hj];rfl
 refine⟨fun r p t row Z hp t' ht=>?_,fun t h1 h2=>?_,fun row F s hs=>?_⟩
 ·obtain⟨s,hs,rfl⟩:=C Z;have O:=(Qag.mp hs).1;rw[Qah]at hp;obtain⟨x,I,rfl⟩:=Qa4.mp hp;have es:(Jn nx b r).getD r 0=s:=by
   have:=B.at O;rw[hs]at this;exact(Option.some.inj this).symm
  obtain⟨q,eq⟩:=B.pre (j:=r+1) O;have eb:Jn nx b (r+1)=((nx.getD s []).drop (p+1)).foldl Y5 (Y5 (((nx.getD s []).take p).foldl Y5 (Jn nx b r)) x):=by
   show Zfk nx (Jn nx b r) r=_;unfold Zfk;rw[es];have:=Qc9 (p+1) (nx.getD s [])
   conv=>lhs;rw[<-this]
   rw[Qc8,take_snoc I,Qc8];rfl
  obtain⟨q2,e2⟩:=WU ((nx.getD s []).drop (p+1)) (Y5 (((nx.getD s []).take p).foldl Y5 (Jn nx b r)) x);rw[e2]at eb;rw[eb,Qcg]at eq;generalize hL:((nx.getD s []).take p).foldl Y5 (Jn nx b r)=L at *;obtain⟨q3,e3⟩:=jn L x;have D:t'<L.length:=by
   have M:x∈Y5 L x:=X6.mpr (.inr rfl);have hlt:=Qbi M;have h3:=GU L x;have h4:l.idxOf x=(Y5 L x).idxOf x:=by rw[eq,JV M]
   lia
  have hy:l[t']?=some L[t']:=by
   rw[eq,e3,Qcg,Qa9 D,Qac D]
  have G:L[t']∈L:=Qbu D;have J:=Wo Y hy;generalize L[t']=y at *;rw[<-hL]at G;rcases(j7 _ _).mp G with h|h
  ·rcases(xl r).mp h with h|⟨j,hj,h⟩
   ·refine .inl ?_;rw[<-J,h];exact Wo Y B.zero
   ·grind
  ·refine .inr (.inr ?_);rw[<-Qdm,<-J];exact Qb6 (f:=fun x=>l.idxOf x) h
 ·rw[Jm]at h2;have hg:=B.go t h2;have ha:=B.at h2;have hm:(Jn nx b t).getD t 0∈Jn nx b t:=by
   rw[Qaf,Qac hg];exact Qbu hg
  have hi:=Wo Y ha;rcases(xl t).mp hm with h|⟨j,hj,h⟩
  ·rw[h,Wo Y B.zero]at hi;lia
  ·grind
 ·obtain⟨r,Z⟩:=Qcm.mp F;obtain⟨s',hs',rfl⟩:=C Z;obtain⟨x,I,rfl⟩:=Qav.mp hs;rw[Jm];exact Qbi (B.next hs' I)
structure Zc1(cs fs:Aj):Prop where
 at_:∀c f:Nat,fs[c]?=some f->cs[f]?=some c/\∀j d:Nat,j<f->cs[j]?=some d->d<c
 lt:∀j d:Nat,cs[j]?=some d->d<fs.length
theorem gq{κ:Type}[DecidableEq κ](ks:List κ)(i d:Nat)(h:(XX ks)[i]?=some d)(c:Nat)(hc:c<d):∃j,j<i/\(XX ks)[j]?=some c:=by
 rw[GV]at h;obtain⟨k,L,rfl⟩:=Qa4.mp h;obtain⟨r,J⟩:=z7 ks (i+1);have e1:Z1 (ks.take (i+1))=Y5 (Z1 (ks.take i)) k:=by rw[take_snoc L,z6]
 rw[e1]at J;obtain⟨q,eq⟩:=jn (Z1 (ks.take i)) k;have C:k∈Y5 (Z1 (ks.take i)) k:=X6.mpr (.inr rfl);have M:=Qbi C;have h3:=GU (Z1 (ks.take i)) k;have h4:(Z1 ks).idxOf k=(Y5 (Z1 (ks.take i)) k).idxOf k:=by rw[J,JV C]
 have F:c<(Z1 (ks.take i)).length:=by lia
 have Y:(Z1 ks)[c]?=some (Z1 (ks.take i))[c]:=by
  grind
 have Z:(Z1 (ks.take i))[c]∈Z1 (ks.take i):=Qbu F;generalize (Z1 (ks.take i))[c]=y at *;obtain⟨j,D⟩:=Qcm.mp ((Yg _ y).mp Z);rw[Qdt]at D;split at D
 ·rename_i G;refine⟨j,G,?_⟩;rw[GV,D];obtain⟨I,O⟩:=Qag.mp Y;show some ((Z1 ks).idxOf y)=_;rw[<-O,List.Nodup.idxOf_getElem (Xu ks) c I]
 ·cases D
theorem Zka(J:XX S=S):∀(q pre acc:Aj),S=pre++q->(∀c f:Nat,acc[c]?=some f->pre[f]?=some c/\∀j d:Nat,j<f->pre[j]?=some d->d<c)->(∀j d:Nat,pre[j]?=some d->d<acc.length)->Zc1 S (xk (q.map fun c:Nat=>(c:Int)) pre.length acc):=by
 intro q
 induction q with
 |nil=>
  intro pre acc e h1 h2;rw[Qby]at e;subst e;exact⟨h1,h2⟩
 |cons x r L=>
  intro pre acc e h1 h2;have hx:S[pre.length]?=some x:=by
   rw[e,Qaz (Qak _),Qe1];rfl
  have Y:x<=acc.length:=by
   rcases Qgr acc.length x with h|h
   ·obtain⟨j,O,I⟩:=gq S pre.length x (by rw[J];exact hx) acc.length h;rw[J,e,Qa9 O]at I;have:=h2 j _ I;lia
   ·exact h
  have M:S=(pre++[x])++r:=by rw[e,Qcg];rfl
  have Z:∀{j d:Nat},pre[j]?=some d->(pre++[x])[j]?=some d:=fun{j d} h=>by
   rw[Qa9 (Qag.mp h).1];exact h
  have D:∀{α:Type} {l:List α} {y z:α} {j:Nat},(l++[y])[j]?=some z->l[j]?=some z\/(j=l.length/\z=y):=fun{α l y z j} h=>by
   grind
  have el:(pre++[x]).length=pre.length+1:=Qaj;show Zc1 S (xk (r.map fun c:Nat=>(c:Int)) (pre.length+1) (if(x:Int)=(acc.length:Int)then acc++[pre.length]else acc));rw[<-el]
  by_cases C:x=acc.length
  ·rw[Qa3 (by rw[C])];refine L _ _ M (fun c f G=>?_) fun j d F=>?_
   ·rcases D G with G|⟨rfl,rfl⟩
    ·grind
    ·refine⟨by rw[Qaz (Qak _),Qe1,C];rfl,fun j d O F=>?_⟩;rcases D F with F|⟨rfl,rfl⟩
     ·exact h2 j d F
     ·lia
   ·grind
  ·rw[Qax (by lia)];refine L _ _ M (fun c f G=>?_) fun j d F=>?_
   ·grind
   ·grind
def YN(cs:Aj):Aj:=xk (cs.map fun c:Nat=>(c:Int)) 0 []
def qc(q:XX S=S):Zc1 S (YN S):=Zka q S [] [] rfl (fun c f h=>by cases h) fun j d h=>by cases h
theorem yX:∀(cs:Ak) (i:Nat) (acc:Aj),(xk cs i acc).length<=acc.length+cs.length
 |[],_,acc=>Qak _
 |c::r,i,acc=>by
  have:=yX r (i+1) (if c=(acc.length:Int)then acc++[i]else acc);show(xk r (i+1) (if c=(acc.length:Int)then acc++[i]else acc)).length<=_;have h2:(if c=(acc.length:Int)then acc++[i]else acc).length<=acc.length+1:=by
   grind
  rw[Qba];lia
def yY(cs:Aj):(YN cs).length<=cs.length:=by
 have:=yX (cs.map fun c:Nat=>(c:Int)) 0 [];unfold YN;simpa using this
def lsR(R:Ad)(cs:Aj):Ad:=(YN cs).map fun s=>(R.getD s []).map fun x=>cs.getD x 0
def lsO(O:Az)(cs:Aj):Az:=(YN cs).map fun s=>O.getD s []
structure Zd3(R:Ad)(cs:Aj):Prop where
 len:cs.length=R.length
 st:XX (GZ R cs)=cs
def Zd3.nn{cs:Aj}(S:Zd3 R cs):XX cs=cs:=by
 have:=qB (GZ R cs);rw[S.st]at this;exact this
def Zd3.row{cs:Aj}(S:Zd3 R cs){j c:Nat}(hi:cs[i]?=some c)(q:cs[j]?=some c):(R.getD i []).map (fun x=>cs.getD x 0)=(R.getD j []).map fun x=>cs.getD x 0:=by
 have D:=(Qag.mp hi).1;have C:=(Qag.mp q).1;have F:=JD hi (Qac (l:=R) (i:=i) (by rw[<-S.len];exact D));have G:=JD q (Qac (l:=R) (i:=j) (by rw[<-S.len];exact C));have:=congrArg Prod.snd ((jo F G).mp (by rw[S.st,hi,q]));have h2:=congrArg (List.map Int.toNat) this;simp only[Qaw]at h2;rw[Qaf,Qaf,Qac (by rw[<-S.len];exact D),Qac (by rw[<-S.len];exact C)];exact h2
def ki{l:Aj}{x:Nat}(h:l[i]?=some x):l.getD i 0=x:=by grind
def at_getD{l:Aj}(h:i<l.length):l[i]?=some (l.getD i 0):=by grind
def Zfy{cs:Aj}(C:Canon R)(S:Zd3 R cs):Canon (lsR R cs):=by
 have F:=qc S.nn;have ll:(lsR R cs).length=(YN cs).length:=Qab ..;have D:∀{c:Nat} {row:Aj},(lsR R cs)[c]?=some row->∃f,(YN cs)[c]?=some f/\row=(R.getD f []).map fun x=>cs.getD x 0:=fun{c row} h=>by
  unfold lsR at h;rw[Qah]at h;obtain⟨s,hs,e⟩:=Qa4.mp h;exact⟨s,hs,e.symm⟩
 have cls:∀{j:Nat},j<R.length->∃c f,cs[j]?=some c/\(YN cs)[c]?=some f/\(lsR R cs)[c]?=some ((R.getD j []).map fun x=>cs.getD x 0):=fun{j} hj=>by
  obtain⟨c,I⟩:∃c,cs[j]?=some c:=⟨_,Qac (by rw[S.len];exact hj)⟩;obtain⟨f,G⟩:∃f,(YN cs)[c]?=some f:=⟨_,Qac (F.lt j c I)⟩;refine⟨c,f,I,G,?_⟩;unfold lsR;rw[Qah,G];exact congrArg some (S.row (F.at_ c f G).1 I)
 have O:∀{f x:Nat},x∈R.getD f []->x<R.length:=fun{f x} h=>by
  rw[Qaf]at h;cases q:R[f]? with
  |none=>rw[q]at h;cases h
  |some row=>rw[q]at h;exact C.lt row (Qas q) x h
 have clt:∀{x:Nat},x<R.length->cs.getD x 0<(YN cs).length:=fun{x} h=>by
  exact F.lt x _ (at_getD (by rw[S.len];exact h))
 have z0:0<R.length->cs.getD 0 0=0:=fun h=>by
  obtain⟨c,f,I,G,_⟩:=cls h;obtain⟨f0,J⟩:∃f0,(YN cs)[0]?=some f0:=⟨_,Qac (by have:=F.lt 0 c I;lia)⟩;have h0:=F.at_ 0 f0 J
  by_cases e:f0=0
  ·rw[e]at h0;exact ki h0.1
  ·have:=h0.2 0 c (by lia) I;lia
 refine⟨fun c p t row hr hp t' ht=>?_,fun t h1 h2=>?_,fun row Y s hs=>?_⟩
 ·obtain⟨f,G,rfl⟩:=D hr;obtain⟨g1,g2⟩:=F.at_ c f G;have M:f<R.length:=by rw[<-S.len];exact(Qag.mp g1).1
  rw[Qah]at hp;obtain⟨x,hx,rfl⟩:=Qa4.mp hp;have Z:=O (Qas hx);have htl:cs.getD x 0<(YN cs).length:=clt Z;obtain⟨L,hf'⟩:∃L,(YN cs)[t']?=some L:=⟨_,Qac (by lia)⟩;obtain⟨k1,k2⟩:=F.at_ t' L hf';have hcx:cs[x]?=some (cs.getD x 0):=at_getD (by rw[S.len];exact Z);have hfx:L<x:=by
   rcases Nat.lt_trichotomy L x with h|h|h
   ·exact h
   ·lia
   ·have:=k2 x _ h hcx;lia
  have erow:R[f]?=some (R.getD f []):=Zg6 M;rcases C.ord f p x _ erow hx L hfx with h|⟨r',row',h3,h4,h5⟩|h
  ·grind
  ·grind
  ·refine .inr (.inr ?_);rw[<-Qdm];exact Qav.mpr ⟨L,h,ki k1⟩
 ·rw[ll]at h2;obtain⟨f,G⟩:∃f,(YN cs)[t]?=some f:=⟨_,Qac h2⟩;obtain⟨g1,g2⟩:=F.at_ t f G;have M:f<R.length:=by rw[<-S.len];exact(Qag.mp g1).1
  have J:0<f:=by
   grind
  obtain⟨r,row,h3,h4,h5⟩:=C.reach f J M;obtain⟨c',f2,q1,q2,q3⟩:=cls (j:=r) (by lia);refine⟨c',_,g2 r c' h3 q1,q3,?_⟩;rw[Qaf,h4];exact Qav.mpr ⟨f,h5,ki g1⟩
 ·obtain⟨c,I⟩:=Qcm.mp Y;obtain⟨f,G,rfl⟩:=D I;obtain⟨x,hx,rfl⟩:=Qav.mp hs;rw[ll];exact clt (O hx)
def Jl.tups{H':Hp}{p:Aw}(R:Jl H p O)(e:∀b xs,H b=some (.tup xs)->H' b=some (.tup xs)):Jl H' p O:=by
 obtain⟨as,h1,h2,q⟩:=R;refine⟨as,e _ _ h1,h2,fun i r hi=>?_⟩;obtain⟨a,D,C⟩:=q i r hi;exact⟨a,D,e _ _ C⟩
def M4.tups{H H':Hp}{m:Aw}{nm:Ai}{b:Nat}{nx:Ad}{ot:Az}(M:M4 H m nm b nx ot)(e:∀b xs,H b=some (.tup xs)->H' b=some (.tup xs)):M4 H' m nm b nx ot:=by
 obtain⟨pn,ps,q,h1,h2,C,D⟩:=M.ex;exact⟨⟨pn,ps,q,e _ _ h1,e _ _ h2,C.tups e,D.tups e⟩⟩
def Zkb{o:HO}(C:hide M H a=none)(D:∀c∈M,upd (hide M H) a o c=none):Z9 H (XQ M H (upd (hide M H) a o))/\XQ M H (upd (hide M H) a o) a=some o:=by
 have m:a∉M:=fun m=>by
  have:=D a m;rw[Za]at this;cases this
 refine⟨fun b u e=>?_,by rw[ZG m];exact Za⟩
 by_cases q:b∈M
 ·rw[Xt q];exact e
 ·rw[Z6 m]at C;rw[ZG q,Zk (Zm e C),Z6 q];exact e
def Zc2(ot:Az):List (Ak):=ot.map fun r=>r.map fun v=>(vB v).getD 0
def Zkc{ot:Az}(h:∀r∈ot,∀v∈r,∃x,vB v=some x):ot.map (fun r=>r.map vB)=(Zc2 ot).map (fun k=>k.map some):=by
 unfold Zc2;rw[Qaw];refine Qbo fun r C=>?_;show _=(r.map fun v=>(vB v).getD 0).map some;rw[Qaw];refine Qbo fun v q=>?_;obtain⟨x,e⟩:=h r C v q;show vB v=some ((vB v).getD 0);rw[e]
 rfl
def zM.lt{nx:Ad}{b:Nat}{l:Aj}(B:zM nx b l)(q:b<nx.length)(C:∀row∈nx,∀s∈row,s<nx.length){s:Nat}(h:s∈l):s<nx.length:=by
 rw[B.e]at h;exact Zci q C _ s h
def zM.len{nx:Ad}{b:Nat}{l:Aj}(B:zM nx b l)(q:b<nx.length)(C:∀row∈nx,∀s∈row,s<nx.length):l.length<=nx.length:=by
 have:=Zjy q C l.length;rw[<-B.e]at this;exact this
def Zme{b:Nat}{nx:Ad}{ot:Az}{l:Aj}(W:Wf N b nx ot j)(B:zM nx b l):Wf N 0 (rnR nx l) (rnQ ot l) j:=by
 have D:∀s∈l,s<nx.length:=fun s h=>B.lt W.b W.nl h;have C:∀r∈rnQ ot l,r∈ot:=fun r h=>by
  obtain⟨s,hs,rfl⟩:=Qav.mp h;exact getD_mem (by rw[W.ol];exact D s hs)
 refine⟨W.n3,?_,?_,?_,fun r q=>?_,(jF B).lt,fun r q=>W.or r (C r q),fun r q=>W.ok r (C r q),fun r q=>W.bit r (C r q)⟩
 ·rw[Jm];exact(Qag.mp B.zero).1
 ·rw[Jm];exact Qbc (B.len W.b W.nl) W.le
 ·rw[Jm];exact Qab ..
 ·obtain⟨s,hs,rfl⟩:=Qav.mp q;rw[Qab];exact W.nr _ (getD_mem (D s hs))
def wf_ls{cs:Aj}(W:Wf N 0 R O j)(C:Canon R)(S:Zd3 R cs):Wf N 0 (lsR R cs) (lsO O cs) j:=by
 have F:=qc S.nn;have I:∀f∈YN cs,f<R.length:=fun f h=>by
  obtain⟨c,J⟩:=Qcm.mp h;rw[<-S.len];exact(Qag.mp (F.at_ c f J).1).1
 have D:∀r∈lsO O cs,r∈O:=fun r h=>by
  obtain⟨s,hs,rfl⟩:=Qav.mp h;exact getD_mem (by rw[W.ol];exact I s hs)
 have G:(lsR R cs).length=(YN cs).length:=Qab ..;refine⟨W.n3,?_,?_,?_,fun r q=>?_,(Zfy C S).lt,fun r q=>W.or r (D r q),fun r q=>W.ok r (D r q),fun r q=>W.bit r (D r q)⟩
 ·rw[G];have L:cs[0]?=some (cs.getD 0 0):=at_getD (by rw[S.len];exact W.b);exact Qes (Qbl _) (F.lt 0 _ L)
 ·rw[G];have:=yY cs;have h2:=W.le;rw[S.len]at this;lia
 ·rw[G];exact Qab ..
 ·obtain⟨s,hs,rfl⟩:=Qav.mp q;rw[Qab];exact W.nr _ (getD_mem (I s hs))
theorem Zkd{b:Nat}{nx:Ad}{ot:Az}(W:Wf N b nx ot j):ot.map (fun r=>r.map vB)=(Zc2 ot).map (fun k=>k.map some):=Zkc fun r C v q=>by
 rcases W.bit r C v q with h|h
 ·exact⟨_,h⟩
 ·exact⟨_,h⟩
def Zc3(cs:Aj)(s:Nat):(cs.map fun c:Nat=>(c:Int)).getD s 0=((cs.getD s 0:Nat):Int):=by grind
structure AlR(nx nx':Ad)(ot ot':Az)(b b':Nat)(A:Nat->Nat->Prop):Prop where
 b:A b b'
 lt:∀s c,A s c->s<nx.length/\c<nx'.length
 fn:∀s c c':Nat,A s c->A s c'->c=c'
 out:∀s c,A s c->ot'.getD c []=ot.getD s []
 next:∀s c p x y:Nat,A s c->(nx.getD s [])[p]?=some x->(nx'.getD c [])[p]?=some y->A x y
def vB_inj{v D:V}(h:zL j v)(h':zL j D)(e:(vB v).getD 0=(vB D).getD 0):v=D:=by
 rcases h with⟨C,x,rfl⟩|⟨C,x,rfl⟩<;>rcases h' with⟨q,y,rfl⟩|⟨q,y,rfl⟩
 ·cases x<;>cases y
  ·rfl
  ·cases e
  ·cases e
  ·rfl
 ·rw[C]at q;cases q
 ·rw[C]at q;cases q
 ·have e:x=y:=e;rw[e]
theorem gr{D:Bool}:∀{r q:A2},(∀v∈r,zL D v)->(∀v∈q,zL D v)->r.map (fun v=>(vB v).getD 0)=q.map (fun v=>(vB v).getD 0)->r=q
 |[],[],_,_,_=>rfl
 |[],_::_,_,_,e=>by cases e
 |_::_,[],_,_,e=>by cases e
 |v::r,F::q,h,h',e=>by
  injection e with e1 e2;rw[vB_inj (h v Qai) (h' F Qai) e1,gr (fun v C=>h v (Qal _ C)) (fun v C=>h' v (Qal _ C)) e2]
def Al(l cs:Aj)(s c:Nat):Prop:=∃i:Nat,l[i]?=some s/\cs[i]?=some c
def al_ok{b:Nat}{nx:Ad}{ot:Az}{Y:Bool}{l cs:Aj}(W:Wf N b nx ot Y)(B:zM nx b l)(S:Zd3 (rnR nx l) cs)(hc:uy (Zc2 (rnQ ot l)) cs):AlR nx (lsR (rnR nx l) cs) ot (lsO (rnQ ot l) cs) b 0 (Al l cs):=by
 have F:=qc S.nn;have hn:=B.nodup;have C:cs.length=l.length:=by rw[S.len,Jm]
 have D:∀{s c:Nat},Al l cs s c->∃i f,l[i]?=some s/\cs[i]?=some c/\(YN cs)[c]?=some f/\cs[f]?=some c:=fun{s c} h=>by
  obtain⟨i,h1,h2⟩:=h;obtain⟨f,Z⟩:∃f,(YN cs)[c]?=some f:=⟨_,Qac (F.lt i c h2)⟩;exact⟨i,f,h1,h2,Z,(F.at_ c f Z).1⟩
 refine⟨⟨0,B.zero,?_⟩,fun s c h=>?_,fun s c c' h h'=>?_,fun s c h=>?_,fun s c p x y h hx hy=>?_⟩
 ·have h0:cs[0]?=some (cs.getD 0 0):=at_getD (by rw[C];exact(Qag.mp B.zero).1);rw[h0];rcases Qgu (cs.getD 0 0)with h|h
  ·rw[h]
  ·obtain⟨j,hj,_⟩:=gq cs 0 _ (by rw[S.nn];exact h0) 0 h;exact absurd hj (Qdz _)
 ·obtain⟨i,f,h1,h2,G,_⟩:=D h;refine⟨B.lt W.b W.nl (Qas h1),?_⟩;show c<((YN cs).map _).length;rw[Qab];exact(Qag.mp G).1
 ·obtain⟨i,h1,h2⟩:=h;obtain⟨i',L,I⟩:=h';have e1:=Wo hn h1;have e2:=Wo hn L;rw[<-e1]at h2;rw[<-e2,h2]at I;exact Option.some.inj I
 ·obtain⟨i,f,h1,h2,G,J⟩:=D h;have M:f<l.length:=by rw[<-C];exact(Qag.mp J).1
  have g:∀{j s':Nat},l[j]?=some s'->(Zc2 (rnQ ot l))[j]?=some ((ot.getD s' []).map fun v=>(vB v).getD 0):=fun{j s'} e=>by
   unfold Zc2 rnQ;rw[Qaw,Qah,e];rfl
  obtain⟨s',q⟩:∃s',l[f]?=some s':=⟨_,Qac M⟩;have e:=hc f i _ _ (g q) (g h1) (by rw[J,h2]);have O:∀{s:Nat},s∈l->∀v∈ot.getD s [],zL Y v:=fun{s} h=>W.ok _ (getD_mem (by rw[W.ol];exact B.lt W.b W.nl h));have e2:=gr (O (Qas q)) (O (Qas h1)) e;unfold lsO rnQ;rw[Qaf,Qah,G];show(l.map fun s=>ot.getD s []).getD f []=_;rw[Qaf,Qah,q];exact e2
 ·obtain⟨i,f,h1,h2,G,J⟩:=D h;have er:(lsR (rnR nx l) cs).getD c []=((rnR nx l).getD f []).map fun x=>cs.getD x 0:=by
   unfold lsR;rw[Qaf,Qah,G];rfl
  have ei:(rnR nx l).getD i []=(nx.getD s []).map fun x=>l.idxOf x:=by
   unfold rnR;rw[Qaf,Qah,h1];rfl
  rw[er,S.row J h2,ei,Qaw,Qah,hx]at hy;have hm:=B.next h1 (Qas hx);refine⟨l.idxOf x,at_idx hm,?_⟩;rw[<-hy];exact at_getD (by rw[C];exact Qbi hm)
section
variable {B:Nat->Nat->Prop}(fn:∀c d d',B c d->B c d'->d=d')(inj:∀c c' d,B c d->B c' d->c=c')
include fn inj
end
structure Bis(nx nx':Ad)(ot ot':Az)(b b':Nat)(A:Nat->Nat->Prop):Prop where
 b:A b b'
 lt:∀s c,A s c->s<nx.length/\c<nx'.length
 out:∀s c,A s c->ot'.getD c []=ot.getD s []
 next:∀s c p x y:Nat,A s c->(nx.getD s [])[p]?=some x->(nx'.getD c [])[p]?=some y->A x y
def AlR.bis{nx q:Ad}{ot:Az}{b:Nat}{A:Nat->Nat->Prop}(R:AlR nx q ot O b i A):Bis nx q ot O b i A:=⟨R.b,R.lt,R.out,R.next⟩
structure Lst(nm:Ai)(b:Nat)(nx:Ad)(ot:Az)(tr:Bool)(l cs:Aj):Prop where
 W:Wf nm b nx ot tr
 B:zM nx b l
 e:cs=Zd2 (rnR nx l) (Zc2 (rnQ ot l)) l.length
 S:Zd3 (rnR nx l) cs
 C:uy (Zc2 (rnQ ot l)) cs
def Lst.al{b:Nat}{nx:Ad}{ot:Az}{l cs:Aj}(L:Lst N b nx ot j l cs):AlR nx (lsR (rnR nx l) cs) ot (lsO (rnQ ot l) cs) b 0 (Al l cs):=al_ok L.W L.B L.S L.C
def Lst.W2{b:Nat}{nx:Ad}{ot:Az}{l cs:Aj}(L:Lst N b nx ot j l cs):Wf N 0 (lsR (rnR nx l) cs) (lsO (rnQ ot l) cs) j:=wf_ls (Zme L.W L.B) (jF L.B) L.S
def Wf.row{b:Nat}{nx:Ad}{ot:Az}(W:Wf N b nx ot j){s:Nat}(h:s<nx.length):(nx.getD s []).length=2^N.length:=W.nr _ (getD_mem h)
theorem Zke{nx:Ad}{b:Nat}{l:Aj}(B:BfE (fun s=>nx.getD s []) b l):zM nx b l:=by
 have e:∀i,i<=l.length->Jn nx b i=bfN (fun s=>nx.getD s []) b i:=by
  intro i
  induction i with
  |zero=>exact fun _=>rfl
  |succ i q=>
   intro h;obtain⟨s,hs⟩:∃s,(bfN (fun s=>nx.getD s []) b i)[i]?=some s:=⟨_,Qac (B.go i (by lia))⟩;show Zfk nx (Jn nx b i) i=_;rw[q (by lia),j8 hs];unfold Zfk;have:(bfN (fun s=>nx.getD s []) b i).getD i 0=s:=by rw[Qaf,hs];rfl
   rw[this]
 exact⟨by rw[e _ (Qak _)];exact B.e,fun i hi=>by rw[e i (by lia)];exact B.go i hi⟩
theorem Zhe{nx:Ad}{ot:Az}{n:Nat}(R:Runs nx ot n):∀{ls:Aj} {s:Nat},s<nx.length->(∀x∈ls,x<2^n)->stN nx s ls<nx.length
 |[],s,h,_=>h
 |c::ls,s,h,q=>by
  have F:=q c Qai;have G:=R.nr _ (getD_mem h);have D:(nx.getD s []).getD c 0∈nx.getD s []:=Qas (getD_at (by lia));exact Zhe (ls:=ls) R (R.nl _ (getD_mem h) _ D) fun x C=>q x (Qal _ C)
theorem Zc4{nx q:Ad}{ot D:Az}{b I n:Nat}{A:Nat->Nat->Prop}(M:Bis nx q ot D b I A)(F:∀r∈nx,r.length=2^n)(C:∀r∈q,r.length=2^n):∀{ls:Aj} {s s':Nat},A s s'->(∀x∈ls,x<2^n)->rnO nx ot s ls=rnO q D s' ls
 |[],_,_,_,_=>rfl
 |c::ls,s,s',h,G=>by
  have Z:=G c Qai;obtain⟨L,J⟩:=M.lt s s' h;have l1:=F _ (getD_mem L);have l2:=C _ (getD_mem J);have O:=M.next s s' c _ _ h (getD_at (d:=0) (by lia)) (getD_at (d:=0) (by lia));show _::_=_::_;rw[M.out s s' h,Zc4 M F C O fun x Y=>G x (Qal _ Y)]
def WW(n:Nat)(f:Nat->Nat):Nat:=((List.range n).map f).sum
def Y7(n:Nat)(f:Nat->Nat):WW (n+1) f=WW n f+f n:=by
 unfold WW;rw[Qed,Qay,List.sum_append,List.map_singleton,List.sum_singleton]
def YV{f g:Nat->Nat}(h:∀i,i<n->f i=g i):WW n f=WW n g:=by
 unfold WW;rw[Qbo fun i hi=>h i (Qbt.mp hi)]
theorem xm(n:Nat)(f g:Nat->Nat):WW n (fun i=>f i+g i)=WW n f+WW n g:=by
 induction n with
 |zero=>rfl
 |succ n q=>rw[Y7,Y7,Y7,q];lia
theorem Zc5(n:Nat):WW n (fun _=>0)=0:=by
 induction n with
 |zero=>rfl
 |succ n q=>rw[Y7,q]
theorem yZ(n m:Nat)(f:Nat->Nat->Nat):WW n (fun i=>WW m (f i))=WW m fun j=>WW n fun i=>f i j:=by
 induction n with
 |zero=>exact(Zc5 m).symm
 |succ n q=>
  rw[Y7,q,<-xm];exact YV fun j _=>(Y7 n fun i=>f i j).symm
theorem gs(a b:Nat)(f:Nat->Nat):WW (a+b) f=WW a f+WW b fun i=>f (a+i):=by
 induction b with
 |zero=>rfl
 |succ b q=>rw[<-Qfs,Y7,Y7,q,Qfs]
def SQ(n:Nat):Nat->(Aj->Nat)->Nat
 |0,g=>g []
 |W+1,g=>SQ n W fun ls=>WW n fun l=>g (ls++[l])
theorem jG{n:Nat}:∀{W:Nat} {g h:Aj->Nat},(∀ls,ls.length=W->(∀x∈ls,x<n)->g ls=h ls)->SQ n W g=SQ n W h
 |0,g,h,e=>e [] rfl (fun _ z=>nomatch z)
 |W+1,g,h,e=>jG (W:=W) fun ls h1 h2=>YV fun l C=>e (ls++[l]) (by rw[Qaj,h1];rfl) fun x q=>by
   grind
def adB(m:Nat):Nat->List Nat->List Nat
 |_,[]=>[]
 |l,v::vs=>(v+l%2*m)::adB m (l/2) vs
theorem Zc6(m:Nat):∀(l:Nat) (vs:Aj),(adB m l vs).length=vs.length
 |_,[]=>rfl
 |l,_::vs=>congrArg Nat.succ (Zc6 m (l/2) vs)
theorem jH(m w:Nat):∀(l:Nat) (vs:Aj),adB m l (vs++[w])=adB m l vs++[w+l/2^vs.length%2*m]
 |l,[]=>by show[w+l%2*m]=[w+l/2^0%2*m];rw[Nat.pow_zero,Nat.div_one]
 |l,v::vs=>by
  show(v+l%2*m)::adB m (l/2) (vs++[w])=(v+l%2*m)::(adB m (l/2) vs++[w+l/2^(vs.length+1)%2*m]);rw[jH m w (l/2) vs,Nat.div_div_eq_div_mul,show 2*2^vs.length=2^(vs.length+1) by rw[Qfj,Qgp]]
theorem Zc7(m:Nat):∀(l c:Nat) (vs:Aj),adB m (l+2^vs.length*c) vs=adB m l vs
 |_,_,[]=>rfl
 |l,c,v::vs=>by
  have e:l+2^(vs.length+1)*c=l+2*(2^vs.length*c):=by grind
  show(v+(l+2^(vs.length+1)*c)%2*m)::adB m ((l+2^(vs.length+1)*c)/2) vs=(v+l%2*m)::adB m (l/2) vs;rw[e,show(l+2*(2^vs.length*c))%2=l%2 by lia,show(l+2*(2^vs.length*c))/2=l/2+2^vs.length*c by lia,Zc7 m (l/2) c vs]
theorem gu(m:Nat):∀(k:Nat) (g:Aj->Nat),SQ m k (fun vs=>WW (2^k) fun l=>g (adB m l vs))=SQ (m+m) k g
 |0,g=>by show WW (0+1) (fun l=>g (adB m l []))=g [];rw[Y7];exact Qfg _
 |k+1,g=>by
  have e:SQ m (k+1) (fun vs=>WW (2^(k+1)) fun l=>g (adB m l vs))=SQ m k fun vs=>WW (2^k) fun l=>WW (m+m) fun w=>g (adB m l vs++[w]):=by
   show SQ m k (fun vs=>WW m fun w=>WW (2^(k+1)) fun l=>g (adB m l (vs++[w])))=_;refine jG fun vs q _=>?_;have e1:∀w,(WW (2^(k+1)) fun l=>g (adB m l (vs++[w])))=(WW (2^k) fun l=>g (adB m l vs++[w]))+WW (2^k) fun l=>g (adB m l vs++[m+w]):=fun w=>by
    rw[Qfj,Nat.mul_two,gs];congr 1
    ·refine YV fun l h=>?_
     rw[jH,q,Nat.div_eq_of_lt h,Nat.zero_mod,Qhr,Qgt]
    ·refine YV fun l h=>?_
     have h1:=Zc7 m l 1 vs;rw[Nat.mul_one,q]at h1;rw[jH,q,Qf1 (2^k) l,h1,Nat.add_div_right _ (Qhn k),Nat.div_eq_of_lt h,Qf1 m w];rw[Nat.one_mul]
   rw[YV fun w _=>e1 w,xm,yZ,yZ m (2^k) fun w l=>g (adB m l vs++[m+w]),<-xm];exact YV fun l _=>(gs m m _).symm
  rw[e];exact gu m k fun vs=>WW (m+m) fun w=>g (vs++[w])
theorem Zhf:∀(k:Nat) (g:Aj->Nat),SQ 1 k g=g (List.replicate k 0)
 |0,_=>rfl
 |k+1,g=>by
  show SQ 1 k (fun ls=>WW 1 fun l=>g (ls++[l]))=_;rw[Zhf k,Qfa,Y7];exact Qfg _
def trnA(k:Nat)(ls:Aj):Aj×Nat:=ls.foldl (fun p l=>(adB p.2 l p.1,p.2+p.2)) (List.replicate k 0,1)
def trn(k:Nat)(ls:Aj):Aj:=(trnA k ls).1
theorem Zfz(k:Nat)(ls:Aj):(trnA k ls).2=2^ls.length:=by
 have q:∀(ls:Aj) (p:Aj×Nat),(ls.foldl (fun p l=>(adB p.2 l p.1,p.2+p.2)) p).2=p.2*2^ls.length:=by
  intro ls
  induction ls with
  |nil=>intro p;exact(Nat.mul_one _).symm
  |cons l ls C=>
   intro p;rw[Qc1,C];show(p.2+p.2)*2^ls.length=p.2*2^(ls.length+1);rw[Qfj,<-Nat.mul_two,Nat.mul_assoc,Qgp 2]
 have:=q ls (List.replicate k 0,1);rw[Nat.one_mul]at this;exact this
def gv(k:Nat)(ls:Aj)(l:Nat):trn k (ls++[l])=adB (2^ls.length) l (trn k ls):=by
 unfold trn;rw[<-Zfz k ls];unfold trnA;rw[Qc8];rfl
theorem Zkf(k:Nat)(ls:Aj):(trn k ls).length=k:=by
 have q:∀(ls:Aj) (p:Aj×Nat),(ls.foldl (fun p l=>(adB p.2 l p.1,p.2+p.2)) p).1.length=p.1.length:=by
  intro ls
  induction ls with
  |nil=>intro p;rfl
  |cons l ls C=>
   intro p;rw[Qc1,C];exact Zc6 _ _ _
 have:=q ls (List.replicate k 0,1);rw[Qa1]at this;exact this
theorem Zc8:∀(k W:Nat) (g:Aj->Nat),SQ (2^k) W (fun ls=>g (trn k ls))=SQ (2^W) k g
 |k,0,g=>(Zhf k g).symm
 |k,W+1,g=>by
  have e:SQ (2^k) (W+1) (fun ls=>g (trn k ls))=SQ (2^k) W fun ls=>(fun vs=>WW (2^k) fun l=>g (adB (2^W) l vs)) (trn k ls):=by
   refine jG fun ls q _=>YV fun l _=>?_;show g (trn k (ls++[l]))=_;rw[gv,q]
  rw[e,Zc8 k W fun vs=>WW (2^k) fun l=>g (adB (2^W) l vs),gu,Qfj,Nat.mul_two]
def chs(m:Nat):Nat->List (Aj)
 |0=>[[]]
 |k+1=>(chs m k).flatMap fun vs=>(List.range m).map fun w=>vs++[w]
theorem Zc9(m:Nat):∀(k:Nat) (g:Aj->Nat),((chs m k).map g).sum=SQ m k g
 |0,g=>by exact Qgt _
 |k+1,g=>by
  have q:∀l:Ad,((l.flatMap fun vs=>(List.range m).map fun w=>vs++[w]).map g).sum=(l.map fun vs=>WW m fun w=>g (vs++[w])).sum:=by
   intro l
   induction l with
   |nil=>rfl
   |cons v l C=>
    rw[Qha,Qay,List.sum_append,C,Qbx,List.sum_cons];congr 1;rw[Qaw];rfl
  exact(q (chs m k)).trans (Zc9 m k _)
theorem Zda(m k:Nat):(chs m k).length=m^k:=by
 induction k with
 |zero=>rfl
 |succ k q=>
  have C:∀l:Ad,(l.flatMap fun vs=>(List.range m).map fun w=>vs++[w]).length=l.length*m:=by
   intro l
   induction l with
   |nil=>exact(Qhr _).symm
   |cons v l q=>rw[Qha,Qaj,q,Qab,Qbb,Qba,Qgn,Qf1]
  show((chs m k).flatMap fun vs=>(List.range m).map fun w=>vs++[w]).length=_;rw[C,q,Qfj]
theorem Zdb{m k:Nat}{vs:Aj}(h:vs∈chs m k):vs.length=k/\∀x∈vs,x<m:=by
 induction k generalizing vs with
 |zero=>
  have:vs=[]:=Qar.mp h;subst this;exact⟨rfl,fun _ z=>nomatch z⟩
 |succ k D=>
  obtain⟨I,h1,h2⟩:=List.mem_flatMap.mp h;obtain⟨w,G,rfl⟩:=Qav.mp h2;obtain⟨F,C⟩:=D h1;refine⟨by rw[Qaj,F];rfl,fun x q=>?_⟩;rcases Qbd.mp q with z|z
  ·exact C x z
  ·grind
theorem Zdc:∀{n:Nat} {l:Aj},l.Nodup->(∀x∈l,x<n)->l.length<=n
 |0,[],_,_=>Qak _
 |0,x::_,_,h=>absurd (h x Qai) (Qdz _)
 |n+1,l,q,h=>by
  have h1:=Zdc (n:=n) (l:=l.erase n) (q.erase _) fun x C=>by
   grind
  have h2:=List.length_erase (a:=n) (l:=l);split at h2<;>lia
theorem Zhg(m:Nat):∀(l:Nat) (vs:Aj) (j:Nat),j<vs.length->(adB m l vs).getD j 0=vs.getD j 0+l/2^j%2*m
 |l,v::vs,0,_=>by show v+l%2*m=v+l/2^0%2*m;rw[Nat.pow_zero,Nat.div_one]
 |l,v::vs,j+1,h=>by
  show(adB m (l/2) vs).getD j 0=vs.getD j 0+l/2^(j+1)%2*m;rw[Zhg m (l/2) vs j (Nat.lt_of_succ_lt_succ h),Nat.div_div_eq_div_mul,Qfj,Qgp 2]
theorem trn_at{k j:Nat}(F:j<k)(ls:Aj):(((trn k ls).getD j 0:Nat):Int)=sm (fun i=>bt ((ls.getD i 0:Nat):Int) j) ls.length:=by
 have C:∀q:Aj,(((trn k q.reverse).getD j 0:Nat):Int)=sm (fun i=>bt ((q.reverse.getD i 0:Nat):Int) j) q.reverse.length:=by
  intro q
  induction q with
  |nil=>
   show(((List.replicate k 0).getD j 0:Nat):Int)=0;rw[Qaf,List.getElem?_replicate];split<;>rfl
  |cons r q D=>
   rw[Qcq,gv,Zhg _ _ _ _ (by rw[Zkf];exact F),Int.natCast_add,D,Qaj];show _=sm _ q.reverse.length+bt (((q.reverse++[r]).getD q.reverse.length 0:Nat):Int) j*2^q.reverse.length;congr 1
   ·exact wU fun i hi=>by grind
   ·rw[Qaf,Qaz (Qak _),Qe1];rfl
 have:=C ls.reverse
 rwa [List.reverse_reverse]at this
def va(nm:Ai)(vs:Aj)(y:Str):Int:=((vs.getD (nm.idxOf y) 0:Nat):Int)
def Zdd{y:Str}(h:y∈N)(ls:Aj):yQ ls N y=va N (trn N.length ls) y:=(trn_at (Qbi h) ls).symm
def cv_cg{ys:Ai}{m:Int}{ρ q:Str->Int}(e:∀y∈ys,ρ y=q y){w:V}(hw:yH ys 10 w){xs:A2}(D:xs.length=npw w):cvV m ρ w xs=cvV m q w xs:=by
 have key:wwv ρ w (xs.map iV)=wwv q w (xs.map iV):=by
  rcases hw with⟨y,rfl,F,_,C⟩|⟨y,rfl,F,_,C⟩|⟨z,rfl,_,_,_⟩
  ·exact wwv_cg F (by rw[Qab,D,C]) ρ q
  ·rw[C]at D
   match xs,D with
   |[],_=>exact e y F
  ·rfl
 unfold cvV;split
 ·rw[key]
 ·rw[key]
theorem Zde{ys:Ai}{m:Int}{ρ q:Str->Int}(e:∀y∈ys,ρ y=q y){C:A2}{ks:Am}(h:TyR ys C ks):XW m ρ C []=XW m q C []:=by
 induction h with
 |nil=>rfl
 | @sum w r ks hw G D=>
  rw[Xd,Xd,D,cv_cg e hw];have:=G.facts.2.2;rw[Qa2,jE,this,Qaj,Qa1];lia
 | @clm y r ks F I _ D=>
  rw[Xd,Xd,D];congr 1;unfold cvV;dsimp only;rw[Qa3 F,Qa3 F]
def NmC(C:A2)(q:Ai):Prop:=q.Perm (XO ((C.filter nmB).map Zdz))/\PyProof.Rows.sortedS q=true
def Zmt(q pl:Aw)(H H':Hp):Prop:=∀b o,H b=some o->b≠q->b≠pl->H' b=some o
def Tells(C:A2)(q:Ai)(nx:Ad)(ot:Az):Prop:=∀(W:Nat) (ls:Aj),1<=W->ls.length=W->(∀x∈ls,x<2^q.length)->∃b:Bool,XW (2^W) (yQ ls q) C []=[.bl b]/\(rnO nx ot 0 ls)[W-1]?=some (.bl b)
def SmL(f:Aw)(H H':Hp):Prop:=∀b o,b≠f->H b=some o->H' b=some o
def gw{y:Str}(h:y∉ZK):npw (.str y)=0:=by
 rw[<-Zfd];show(List.replicate (Jk T1 (.inr y)+Jk T2 (.inr y)).toNat false++List.replicate (Jk T3 (.inr y)).toNat true).length=0;rw[qM fun z=>h (jw.1 y z),qM fun z=>h (jw.2.1 y z),qM fun z=>h (jw.2.2 y z)];rfl
def jW:Ai:=["same","under","beneath","sign","nought"]
def lpS(y:Str):Am:=
 if y∈(["both","either","so"]:Ai)then[true,true]else if y = "never" then[true]else if y∈(["same","under","beneath","and","or","odd","add","sub"]:Ai)then[false,false]
 else if y∈(["sign","nought","not","neg","twice","low"]:Ai)then[false]else if y = "pick" then[false,false,false]else[]
def lpW:V->List Bool
 |.str y=>lpS y
 |_=>[]
def Zf0:∀y∈Z5,lpS y=List.replicate (JB (.str y)) false++List.replicate (jx (.str y)) true:=by decide +kernel
def lp_sum:∀y∈JA,lpS y=List.replicate (Yp y) false/\npw (.str y)=Yp y:=by decide +kernel
def Zkg:∀y∈ZK,(lpS y).reverse=lpS y/\(lpS y).length<=3:=by decide +kernel
def Zdf{y:Str}(h:y∉ZK):lpS y=[]:=by
 have C:∀y∈(["both","either","so"]:Ai),y∈ZK:=by decide +kernel
 have D:∀y∈(["same","under","beneath","and","or","odd","add","sub"]:Ai),y∈ZK:=by decide +kernel
 have q:∀y∈(["sign","nought","not","neg","twice","low"]:Ai),y∈ZK:=by decide +kernel
 unfold lpS;rw[Qax (fun z=>h (C y z)),Qax (fun z=>h (by rw[z];decide +kernel)),Qax (fun z=>h (D y z)),Qax (fun z=>h (q y z)),Qax (fun z=>h (by rw[z];decide +kernel))]
def Zdg(w:V):(lpW w).reverse=lpW w/\(lpW w).length<=3:=by
 cases w with
 |str y=>
  by_cases h:y∈ZK
  ·exact Zkg y h
  ·show(lpS y).reverse=lpS y/\(lpS y).length<=3;rw[Zdf h];exact⟨rfl,by decide⟩
 |_=>exact⟨rfl,Qbl _⟩
def Zkh:∀y∈Z5,y∈allR->y∈jW:=by decide +kernel
def Zki:∀y∈JA,y∈allR->y∈qU:=by decide +kernel
def Zf1:∀y∈allR,y∈ZK:=by decide +kernel
theorem TyR.re{ys:Ai}{F:A2}{ks:Am}(h:TyR ys F ks)(D:∀y∈ys,V.str y∈F->y∈N)(J:∀y∈N,y∉ZK):TyR N F ks:=by
 induction h with
 |nil=>exact .nil
 | @sum w r ks hw _ G=>
  refine .sum ?_ (G fun y q I=>D y q (Qal _ I));rcases hw with⟨y,rfl,h1,_,C⟩|⟨y,rfl,h1,h2,C⟩|h
  ·exact .inl ⟨y,rfl,h1,fun z=>J y z (GX y h1),C⟩
  ·exact .inr (.inl ⟨y,rfl,D y h1 Qai,h2,C⟩)
  ·exact .inr (.inr h)
 | @clm y r ks q _ _ G=>exact .clm q (fun z=>J y z (YU y q)) (G fun y q I=>D y q (Qal _ I))
def Zf2(y:Str)(l:Ai):Int:=if y∈l then 1 else 0
structure Wds(B:Int)(nm:Ai)(ws:A2)(ks:Am)(l0 l1:Int):Prop where
 ty:∀rest,TyR nm rest ks->TyR nm (ws++rest) [true]
 rm:(Y8 ws:Int)+l0+l1<=B
 ln:ws.length+ks.length<=14
def JH(q:A2)(w:V):Y8 (q++[w])=Y8 q+if inV w (allR.map V.str)=true then 1 else 0:=by
 unfold Y8;rw[Qd3,Qaj];congr 1;rw[Qc5];split<;>rfl
def Wds.clm{B:Int}{nm:Ai}{D:A2}{ks:Am}{F l1 q:Int}{y:Str}(W:Wds B nm D (true::ks) F l1)(J:∀y∈nm,y∉ZK)(C:y∈Z5)(L:((lpS y).length:Int)<=14-D.length-(true::ks).length)(I:q+Zf2 y jW=l1):Wds B nm (D++[.str y]) (lpS y++ks) F q:=by
 refine⟨fun rest G=>?_,?_,?_⟩
 ·rw[Qcg];refine W.ty _ (.clm C (fun z=>J y z (YU y C)) ?_);rw[Zf0 y C,Qcg]at G;exact G
 ·rw[JH,ZC];have:=W.rm;unfold Zf2 at I
  by_cases h:y∈allR
  ·rw[Qa3 (Zkh y C h)]at I;lia
  ·grind
 ·grind
def Wds.sum{B:Int}{nm:Ai}{D:A2}{ks:Am}{G l1 q:Int}{w:V}(W:Wds B nm D (false::ks) G l1)(Y:∀y∈nm,y∉ZK)
  (hw:(∃y,w=.str y/\y∈JA/\((lpS y).length:Int)<=14-D.length-(false::ks).length/\q+Zf2 y qU=G)\/(∃y,w=.str y/\y∈nm/\q=G)\/∃z:Int,w=.int z/\0<=z/\z<1000/\q=G):Wds B nm (D++[w]) (lpW w++ks) q l1:=by
 have hs:=W.rm;have hl:=W.ln;rw[Qba]at hl;have I:∀{w:V},yH nm 10 w->lpW w=List.replicate (npw w) false->∀rest,TyR nm rest (lpW w++ks)->TyR nm (D++[w]++rest) [true]:=fun hw e rest L=>by
  rw[Qcg];rw[e]at L;exact W.ty _ (.sum hw L)
 have J:∀{w:V},(lpW w).length+D.length+ks.length+1<=14->(D++[w]).length+(lpW w++ks).length<=14:=fun{w} h=>by
  grind
 rcases hw with⟨y,rfl,C,hr,M⟩|⟨y,rfl,C,rfl⟩|⟨z,rfl,z0,z1,rfl⟩
 ·have h2:=lp_sum y C;refine⟨I (.inl ⟨y,rfl,C,fun z=>Y y z (GX y C),h2.2⟩) (by rw[h2.2];exact h2.1),?_,J (by show(lpS y).length+_+_+1<=14;rw[Qba]at hr;lia)⟩;rw[JH,ZC];unfold Zf2 at M
  by_cases h:y∈allR
  ·rw[Qa3 (Zki y C h)]at M;lia
  ·grind
 ·have F:=Y y C;have r0:∀y∈qU,y∈ZK:=by decide +kernel
  have Z:lpW (.str y)=[]:=Zdf F;refine⟨I (.inr (.inl ⟨y,rfl,C,fun z=>F (r0 y z),gw F⟩)) (by rw[gw F,Z];rfl),?_,J (by rw[Z];show 0+_+_+1<=14;lia)⟩;rw[JH,ZC,Qax (fun z=>F (Zf1 y (Qbh z)))];lia
 ·have O:npw (.int z)=0:=by
   show(List.replicate (Jk T1 (.inl z)+Jk T2 (.inl z)).toNat false++List.replicate (Jk T3 (.inl z)).toNat true).length=0;rfl
  refine⟨I (.inr (.inr ⟨z,rfl,z0,Int.lt_trans z1 (by decide),O⟩)) (by rw[O];rfl),?_,J (by show 0+_+_+1<=14;lia)⟩;rw[JH,vY];lia
def One1 (W:Nat) (y:Str) (v r:V):Prop:=(y∈(["not","neg","twice","low"]:Ai)/\∃a:Int,v=.int a/\0<=a/\a<2^W/\r=.int (Zk1 y a%2^W))\/(y∈(["sign","nought"]:Ai)/\∃a:Int,v=.int a/\0<=a/\a<2^W/\r=.bl (xH (2^W) y [a]))\/(y = "never" /\ ∃b:Bool,v=.bl b/\r=.bl (!b))
def Two2 (W:Nat) (y:Str) (v u r:V):Prop:=(y∈(["and","or","odd","add","sub"]:Ai)/\∃a b:Int,v=.int a/\u=.int b/\(0<=a/\a<2^W)/\(0<=b/\b<2^W)/\r=.int (Zl6 y a b%2^W))\/(y∈(["same","under","beneath"]:Ai)/\∃a b:Int,v=.int a/\u=.int b/\(0<=a/\a<2^W)/\(0<=b/\b<2^W)/\r=.bl (xH (2^W) y [a,b]))\/(y∈(["both","either","so"]:Ai)/\∃a b:Bool,v=.bl a/\u=.bl b/\r=.bl (Zmp y [a,b]))
def kvC(nm:Ai)(vs:Aj):A0:=(nm.zip vs).map fun p=>(.inr p.1,.int (p.2:Int))
def JI(H:Hp)(p:Aw)(nm:Ai)(L:Ad):Prop:=∃ds:List Aw,H p=some (.lst (ds.map V.ref))/\ds.length=L.length/\∀(i:Nat) (d:Aw) (v:Aj),ds[i]?=some d->L[i]?=some v->H d=some (.dK (kvC nm v))
def ntK:V->Bool
 |.str y=>decide (y∉ZK)
 |_=>false
def lpW_eq {w:V} (hw:(∃y,w=.str y)\/∃z:Int,w=.int z):lpW w=if inV w ((["both","either","so"]:Ai).map V.str)=true then[true,true]else if decide (w=.str "never")=true then[true]else if inV w ((["same","under","beneath","and","or","odd","add","sub"]:Ai).map V.str)=true then[false,false]
  else if inV w ((["sign","nought","not","neg","twice","low"]:Ai).map V.str)=true then[false]else if decide (w=.str "pick")=true then[false,false,false]else[]:=by
 rcases hw with⟨y,rfl⟩|⟨z,rfl⟩
 ·rw[ZC,ZC,ZC];simp only[Qg7];show lpS y=_;unfold lpS;have e:∀c:Str,(V.str y=V.str c)=(y=c):=fun c=>propext ⟨fun z=>by injection z,fun z=>by rw[z]⟩;simp only[e]
 ·rfl
def xn{l:Ai}{i:Int}(C:0<=i)(h1:i<(l.length:Int)):∃y,y∈l/\atI (l.map V.str) i=some (.str y):=by
 obtain⟨j,rfl⟩:∃j:Nat,i=(j:Int):=⟨i.toNat,by lia⟩;have q:j<l.length:=by lia
 exact⟨l[j],Qbu q,YC (by grind)⟩
def uz:Ai:=["same","same","under","under","beneath","sign","nought","nought","both","both","either","either","so","never","never","yes"]
def Zf3:∀y∈uz,y∈Z5:=by decide +kernel
def kj:Ai:=["not","neg","twice","low","and","or","odd","add","sub","add","pick"]
def Zf4:∀y∈kj,y∈JA/\(y∈(["add","sub","neg","twice","low"]:Ai)↔y∈qU):=by decide +kernel
def SmL.same{f:Aw}{H H' H2:Hp}(h:SmL f H H')(s:Z9 H' H2):SmL f H H2:=fun b o q e=>s _ _ (h b o q e)
def SmL.of{H':Hp}(s:Z9 H H'):SmL f H H':=fun b o _ e=>s _ _ e
def SmL.put{H':Hp}{o:HO}(s:SmL f H H'):SmL f H (upd H' f o):=fun b u q e=>by rw[Zk q];exact s b u q e
def gy{x:Int}{W:Nat}(h:x/2^W=0):x%2^W=x:=by
 have q:=Qda x (2^W);rw[h,Int.mul_zero,Int.add_zero]at q;exact q
def pw_le{j:Nat}(h:i<=j):(2:Int)^i<=2^j:=by
 have h:=Int.ofNat_le.mpr (Qcr (show 0<2 by decide) h);exact h
theorem Zkj(w:Nat):∀a b:Int,Builtin.bitXor a b/2^w=Builtin.bitXor (a/2^w) (b/2^w):=by
 induction w with
 |zero=>intro a b;rw[Qds,Qca,Qca,Qca]
 |succ w q=>
  intro a b;have d:∀x:Int,x/2^(w+1)=x/2/2^w:=fun x=>by rw[Qeg,Qez,Qdf (by decide:(0:Int)<=2)]
  rw[d,d,d,(xor2 a b).1,q]
def Zf5{a b:Int}{W:Nat}(C:0<=a)(a1:a<2^W)(q:0<=b)(b1:b<2^W):Builtin.bitAnd a b%2^W=Builtin.bitAnd a b/\Builtin.bitOr a b%2^W=Builtin.bitOr a b/\Builtin.bitXor a b%2^W=Builtin.bitXor a b:=by
 have e1:=Qb3 C a1;have e2:=Qb3 q b1;exact⟨gy (by rw[j4,e1,e2];rfl),gy (by rw[Zg5,e1,e2];rfl),gy (by rw[Zkj,e1,e2];rfl)⟩
def ben_eq {a b:Int} {W:Nat} (D:1<=W) (q:0<=a) (a1:a<2^W) (C:0<=b) (b1:b<2^W):xH (2^W) "beneath" [a,b]=decide ((a+2^W/2)%2^W<(b+2^W/2)%2^W):=by
 show decide (sgn (2^W) a<sgn (2^W) b)=_;obtain⟨V,rfl⟩:∃V,W=V+1:=⟨W-1,by lia⟩;rw[Qeg]at *;generalize (2:Int)^V=h at *;have e:∀c:Int,0<=c->c<h*2->(c+h*2/2)%(h*2)=sgn (h*2) c+h:=fun c F G=>by
  unfold sgn;rw[Int.mul_ediv_cancel _ (by decide)];split
  ·rw[show c+h=(c-h*2+h)+h*2*1 by lia,Qcf,Qdb (by lia) (by lia)]
  ·exact Qdb (by lia) (by lia)
 rw[e a q a1,e b C b1];exact Qcv.mpr ⟨fun z=>by lia,fun z=>by lia⟩
def Zkk{a:Int}{W:Nat}(q:0<=a)(h1:a<2^W):Builtin.bitNot a%2^W=2^W-1-a:=by
 have e:Builtin.bitNot a=(2^W-1-a)+2^W*(-1):=by
  show -a-1=_;lia
 rw[e,Qcf,Qdb (by lia) (by lia)]
def Zdh(a:Int)(W:Nat):-a%2^W=(2^W-a)%2^W:=by
 rw[show(2:Int)^W-a=-a+2^W*1 by lia,Qcf]
def Zkl{a:Int}{W:Nat}(C:0<=a)(h1:a<2^W):Builtin.bitAnd a (-a)%2^W=Builtin.bitAnd a (2^W-a):=by
 have D:Builtin.bitAnd a (2^W-a)/2^W=0:=by
  rw[j4,Qb3 C h1]
  by_cases z:a=0
  ·rw[z,Int.sub_zero,Int.ediv_self (by lia)];rfl
  ·rw[Qb3 (by lia) (by lia)];rfl
 rw[<-gy D];refine yK fun k q=>?_;rw[YR,YR,<-qS (-a) W k q,Zdh,qS _ _ _ q]
def sign_eq {a:Int} {W:Nat} (q:0<=a) (h1:a<2^W):xH (2^W) "sign" [a]=decide ((2:Int)^W<=2*a):=by
 show decide (sgn (2^W) a<0)=_;unfold sgn;refine Qcv.mpr ?_;split<;>lia
def Zdi {m:Int} (a:Int):xH m "nought" [a]=decide (V.int a=V.int 0):=by
 show decide (a=0)=_;exact Qcv.mpr ⟨fun z=>by rw[z],fun z=>by injection z⟩
def Zkm{ys:Ai}{W:Nat}(hW:1<=W)(hys:∀y∈ys,y∉ZK){ρ:Str->Int}(O:∀y∈ys,0<=ρ y/\ρ y<2^W){x:V}{ks:Am}(h:TyR ys (x::r) ks){D L:A2}(h0:XW (2^W) ρ r []=D)(h1:cvV (2^W) ρ x (D.take (npw x))::D.drop (npw x)=L):
  (∃z,x=.int z/\L=.int (z%2^W)::D)\/(∃y,x=.str y/\y∈ys/\L=.int (ρ y)::D)\/∃y,x=.str y/\y∉ys/\((y = "yes" /\ L=.bl true::D)\/(y = "pick" /\ ∃(a b c:Int) (l:A2),D=.int a::.int b::.int c::l/\((0<=a/\a<2^W)/\(0<=b/\b<2^W)/\0<=c/\c<2^W)/\L=.int (Builtin.bitOr (Builtin.bitAnd a b) (Builtin.bitAnd (Builtin.bitNot a) c)%2^W)::l)
   \/ (y ≠ "yes" /\ y ≠ "pick" /\ (lpS y).length=1/\∃(v M:V) (l:A2),D=v::l/\One1 W y v M/\L=M::l)\/(y ≠ "yes" /\ y ≠ "pick" /\ (lpS y).length≠1/\∃(v u M:V) (l:A2),D=v::u::l/\Two2 W y v u M/\L=M::l)):=by
 rcases part_of hW hys ρ h with⟨is,l,hw,e1,e2,e3,q⟩|⟨y,is,l,rfl,C,hn,hs,e1,e2,e3,q⟩|⟨y,bs,l,rfl,C,hn,hs,e1,e2,q⟩
 ·rw[h0]at e1 q;rw[h1]at q;rcases hw with⟨y,rfl,C,hny,F⟩|⟨y,rfl,C,hnr,F⟩|⟨z,rfl,z0,z1,F⟩
  ·refine .inr (.inr ⟨y,rfl,hny,?_⟩);have J:y ≠ "yes" :=fun z=>JG y C (by rw[z];decide +kernel);rw[F]at e2;have Y:(Yp y=1/\y ≠ "pick" /\ y∈(["not","neg","twice","low"]:Ai)/\(lpS y).length=1)\/(Yp y=2/\y ≠ "pick" /\ y∈(["and","or","odd","add","sub"]:Ai)/\(lpS y).length≠1)\/(y = "pick" /\ Yp y=3):=(by decide +kernel:∀y∈JA,(Yp y=1/\y ≠ "pick" /\ y∈(["not","neg","twice","low"]:Ai)/\(lpS y).length=1)\/(Yp y=2/\y ≠ "pick" /\ y∈(["and","or","odd","add","sub"]:Ai)/\(lpS y).length≠1)\/(y = "pick" /\ Yp y=3)) y C;rcases Y with⟨p1,I,G,k1⟩|⟨p1,I,G,k1⟩|⟨p1,p3⟩
   ·rw[p1]at e2
    match is,e2 with
    |[a],_=>
     have ha:=e3 a Qai;exact .inr (.inr (.inl ⟨J,I,k1,.int a,_,l,e1,.inl ⟨G,a,rfl,ha.1,ha.2,rfl⟩,q⟩))
   ·rw[p1]at e2
    match is,e2 with
    |[a,b],_=>
     have ha:=e3 a Qai;have hb:=e3 b (Qal _ Qai);exact .inr (.inr (.inr ⟨J,I,k1,.int a,.int b,_,l,e1,.inl ⟨G,a,b,rfl,rfl,ha,hb,rfl⟩,q⟩))
   ·rw[p3]at e2
    match is,e2 with
    |[a,b,c],_=>
     have ha:=e3 a Qai;have hb:=e3 b (Qal _ Qai);have hc:=e3 c (Qal _ (Qal _ Qai));exact .inr (.inl ⟨p1,a,b,c,l,e1,⟨ha,hb,hc⟩,q⟩)
  ·rw[F]at e2
   match is,e2 with
   |[],_=>
    refine .inr (.inl ⟨y,rfl,C,?_⟩);rw[q,e1,show wwv ρ (.str y) []%2^W=ρ y from Qdb (O y C).1 (O y C).2];rfl
  ·match is,e2 with
   |[],_=>
    refine .inl ⟨z,rfl,?_⟩;rw[q,e1];rfl
 ·rw[h0]at e1 q;rw[h1]at q;refine .inr (.inr ⟨y,rfl,hn,?_⟩);have Y:(JB (.str y)=1/\y ≠ "yes" /\ y ≠ "pick" /\ y∈(["sign","nought"]:Ai)/\(lpS y).length=1)\/(JB (.str y)=2/\y ≠ "yes" /\ y ≠ "pick" /\ y∈(["same","under","beneath"]:Ai)/\(lpS y).length≠1):=(by decide +kernel:∀y∈Z5,0<JB (.str y)->(JB (.str y)=1/\y ≠ "yes" /\ y ≠ "pick" /\ y∈(["sign","nought"]:Ai)/\(lpS y).length=1)\/(JB (.str y)=2/\y ≠ "yes" /\ y ≠ "pick" /\ y∈(["same","under","beneath"]:Ai)/\(lpS y).length≠1)) y C hs;rcases Y with⟨p1,Z,I,G,k1⟩|⟨p1,Z,I,G,k1⟩
  ·rw[p1]at e2
   match is,e2 with
   |[a],_=>
    have ha:=e3 a Qai;exact .inr (.inr (.inl ⟨Z,I,k1,.int a,_,l,e1,.inr (.inl ⟨G,a,rfl,ha.1,ha.2,rfl⟩),q⟩))
  ·rw[p1]at e2
   match is,e2 with
   |[a,b],_=>
    have ha:=e3 a Qai;have hb:=e3 b (Qal _ Qai);exact .inr (.inr (.inr ⟨Z,I,k1,.int a,.int b,_,l,e1,.inr (.inl ⟨G,a,b,rfl,rfl,ha,hb,rfl⟩),q⟩))
 ·rw[h0]at e1 q;rw[h1]at q;refine .inr (.inr ⟨y,rfl,hn,?_⟩);have Y:(jx (.str y)=0/\y = "yes")\/(jx (.str y)=1/\y = "never")\/(jx (.str y)=2/\y ≠ "yes" /\ y ≠ "pick" /\ y∈(["both","either","so"]:Ai)/\(lpS y).length≠1):=(by decide +kernel:∀y∈Z5,¬0<JB (.str y)->(jx (.str y)=0/\y = "yes")\/(jx (.str y)=1/\y = "never")\/(jx (.str y)=2/\y ≠ "yes" /\ y ≠ "pick" /\ y∈(["both","either","so"]:Ai)/\(lpS y).length≠1)) y C hs;rcases Y with⟨p1,rfl⟩|⟨p1,rfl⟩|⟨p1,Z,I,G,k1⟩
  ·match bs,e2 with
   |[],_=>
    refine .inl ⟨rfl,?_⟩;rw[q,e1];rfl
  ·match bs,e2 with
   |[b],_=>exact .inr (.inr (.inl ⟨by decide +kernel,by decide +kernel,by decide +kernel,.bl b,_,l,e1,.inr (.inr ⟨rfl,b,rfl,rfl⟩),q⟩))
  ·rw[p1]at e2
   match bs,e2 with
   |[a,b],_=>exact .inr (.inr (.inr ⟨Z,I,k1,.bl a,.bl b,_,l,e1,.inr (.inr ⟨G,a,b,rfl,rfl,rfl⟩),q⟩))
def Zkn(nm:Ai)(vs:Aj):(kvC nm vs).length<=nm.length:=by
 unfold kvC;rw[Qab,Qet];exact Nat.min_le_left _ _
def Zko{y:Str}{vs:Aj}{w:Nat}(F:y∉N)(D:vs.length=N.length):putK (kvC N vs) (.inr y) (.int (w:Int))=kvC (N++[y]) (vs++[w]):=by
 unfold putK;rw[Qax]
 ·unfold kvC;rw[List.zip_append D.symm,Qay];rfl
 ·intro z;obtain⟨q,h1,h2⟩:=Qcd.mp z;obtain⟨p,C,rfl⟩:=Qav.mp h1;have:=Qbh h2;injection this with this;exact F (by rw[<-this];exact(Qd9 C).1)
theorem Zkp(F:N.Nodup){vs:Aj}(C:vs.length=N.length):Zcc (kvC N vs) N (va N vs):=by
 have I:∀{N:Ai} {vs:Aj},vs.length=N.length->∀y,y∉N->Yj (kvC N vs) (.inr y)=none:=by
  intro N vs C y D;have:=X4 (.inr y:Key) (kvC N vs);cases e:Yj (kvC N vs) (.inr y)with
  |none=>rfl
  |some v=>
   rw[e]at this;obtain⟨q,h1,h2⟩:=Qcd.mp this;obtain⟨p,L,rfl⟩:=Qav.mp h1;have:=Qbh h2;injection this with this;exact absurd (by rw[<-this];exact(Qd9 L).1) D
 refine⟨?_,I C⟩
 induction N generalizing vs with
 |nil=>intro y D;cases D
 |cons x N J=>
  match vs,C with
  |v::vs,C=>
   intro y D;show Yj (((.inr x:Key),V.int (v:Int))::kvC N vs) (.inr y)=some (.int (((v::vs).getD ((x::N).idxOf y) 0:Nat):Int))
   by_cases h:x=y
   ·subst h;rw[Yk rfl,List.idxOf_cons_self];rfl
   ·rw[Yf (fun z=>h (Sum.inr.inj z)),show(x::N).idxOf y=N.idxOf y+1 by rw[Qfr,beq_false_of_ne h];rfl];have G:y∈N:=by
     grind
    exact J (Qb8.mp F).2 (Nat.succ.inj C) y G
def JI.snoc{p:Aw}{v:Aj}(h:JI H a N R)(keep:∀d q,H d=some (.dK q)->E d=some (.dK q))(C:∀ds:List Aw,H a=some (.lst (ds.map V.ref))->E a=some (.lst (ds.map V.ref++[V.ref p])))(F:E p=some (.dK (kvC N v))):JI E a N (R++[v]):=by
 obtain⟨ds,h1,h2,D⟩:=h;refine⟨ds++[p],by rw[C ds h1,Qay];rfl,by grind,fun i d u I G=>?_⟩
 by_cases hi:i<ds.length
 ·grind
 ·grind
def NmI(y:Str)(q:Int):Nat->Str->Prop
 |0,z=>z=y
 |i+1,z=>∃C c,NmI y q i C/\atI uN.cps.toList ((q+7*(i:Int))%26)=some c/\z=C++⟨#[c]⟩
def begL:Ai:=["","","","a","xy","so","not","yes","add","nought"]
def Zhh:∀y∈begL,∀j∈List.range 26,∀c∈(atI uN.cps.toList (j:Int)).toList,(NmL (y++⟨#[c]⟩)/\y++⟨#[c]⟩∉ZK)/\∀d∈(atI uN.cps.toList (((j+7:Nat):Int)%26)).toList,NmL (y++⟨#[c]⟩++⟨#[d]⟩)/\y++⟨#[c]⟩++⟨#[d]⟩∉ZK:=by decide +kernel
def nm_all{y z:Str}{q:Int}(F:y∈begL)(I:n=1\/n=2)(h:NmI y q n z):NmS z:=by
 obtain⟨j,M,C⟩:∃j:Nat,q%26=(j:Int)/\j<26:=⟨(q%26).toNat,by lia,by lia⟩;rcases I with rfl|rfl
 ·obtain⟨D,c,rfl,G,rfl⟩:=h;obtain⟨h1,_⟩:=Zhh D F j (Qbt.mpr C) c (by grind);exact⟨h1.1,h1.2⟩
 ·obtain⟨L,d,⟨D,c,rfl,G,rfl⟩,J,rfl⟩:=h;obtain⟨_,h1⟩:=Zhh D F j (Qbt.mpr C) c (by grind);have:=h1 d (by grind);exact⟨this.1,this.2⟩
theorem Zkq{kvs:A0}{S:Ai}{v:V}(I:kvs.map (·.1)=S.map Sum.inr)(F:S.Nodup)(y:Str):∃C:Ai,(putK kvs (.inr y) v).map (·.1)=C.map Sum.inr/\C.Nodup/\C.length<=S.length+1/\∀z∈C,z∈S\/z=y:=by
 unfold putK;split
 ·refine⟨S,?_,F,Qeu _,fun z h=>.inl h⟩;rw[<-I,Qaw];refine Qbo fun D _=>?_;show(if D.1=Sum.inr y then(D.1,v)else D).1=D.1
  split<;>rfl
 ·rename_i h;have J:y∉S:=fun z=>h (Qcd.mpr (by
   have:(Sum.inr y:Key)∈kvs.map (·.1):=by grind
   obtain⟨q,h1,h2⟩:=Qav.mp this;exact⟨q,h1,Qan h2⟩))
  refine⟨S++[y],by grind,Qec.mpr ⟨F,Qb8.mpr ⟨(fun z=>nomatch z),Qck⟩,fun a ha b L e=>J (by grind)⟩,by grind,fun z G=>?_⟩;rcases Qbd.mp G with z|z
  ·exact .inl z
  ·exact .inr (Qar.mp z)
def ty_si{ks:Am}(h:TyR N r ks)(C:∀y∈N,NmS y):(∀w∈r,zJ w)/\r.filter ntK=r.filter nmB:=by
 have f:=h.facts.1;have cs:∀w∈r,(∃y,w=.str y/\(y∈ZK\/y∈N))\/∃z:Int,w=.int z:=fun w hw=>by
  rcases f w hw with(⟨y,e,q,_⟩|⟨y,e,q,_⟩|⟨z,e,_⟩)|⟨y,e,q,_⟩
  ·exact .inl ⟨y,e,.inl (GX y q)⟩
  ·exact .inl ⟨y,e,.inr q⟩
  ·exact .inr ⟨z,e⟩
  ·exact .inl ⟨y,e,.inl (YU y q)⟩
 refine⟨fun w hw=>?_,List.filter_congr fun w hw=>?_⟩
 ·rcases cs w hw with⟨y,rfl,q⟩|⟨z,rfl⟩
  ·refine .inl ⟨y,rfl,?_⟩;rcases q with q|q
   ·have:=(Zfc y q).1.2;lia
   ·have:=(C y q).l.1.2;lia
  ·exact .inr ⟨z,rfl⟩
 ·rcases cs w hw with⟨y,rfl,q⟩|⟨z,rfl⟩
  ·refine Qcv.mpr ⟨fun h=>⟨h,?_⟩,fun h=>h.1⟩;rcases q with q|q
   ·exact absurd q h
   ·exact(C y q).l
  ·rfl
def clm_ok{nm C:Ai}(h:TyR nm r [true])(I:∀y∈nm,NmS y)(J:nm.length<=3)(M:r.length<=14)(L:Y8 r<=5)(N:NmC r C):Wt C r:=by
 have f:=h.facts.1;have q:∀y,y∈C↔V.str y∈r/\y∉ZK/\NmL y:=fun y=>by
  rw[N.1.mem_iff,Zbh];constructor
  ·intro h;obtain⟨w,hw,rfl⟩:=Qav.mp h;obtain⟨h1,h2⟩:=Qdn.mp hw;cases w with
   |str y=>exact⟨h1,Qbh h2⟩
   |_=>cases h2
  ·intro h;exact Qav.mpr ⟨.str y,Qdn.mpr ⟨h.1,Qan h.2⟩,rfl⟩
 have G:C.Nodup:=N.1.nodup_iff.mpr (vO _);have sub:∀y∈C,y∈nm:=fun y D=>by
  obtain⟨h1,h2,_⟩:=(q y).mp D;rcases f _ h1 with(⟨z,e,F,_⟩|⟨z,e,F,_⟩|⟨z,e,_⟩)|⟨z,e,F,_⟩
  ·cases e;exact absurd (GX y F) h2
  ·cases e;exact F
  ·cases e
  ·cases e;exact absurd (YU y F) h2
 have kp:∀y∈C,y∉ZK:=fun y D=>((q y).mp D).2.1;exact⟨Qbc (XT G sub) J,G,kp,by lia,h.re (fun y D hw=>(q y).mpr ⟨hw,(I y D).k,(I y D).l⟩) kp,by lia⟩
def rot(m:Nat)(q:Am):Am:=q.drop m++q.take m
def xK(q:Am)(m:Nat):Prop:=q.length%m=0/\rot m q=q
structure Zkr(rs:Am)(L:Nat):Prop where
 one:1<=L
 le:L<=rs.length
 t:xK rs L
 least:∀m,1<=m->m<L->¬xK rs m
def Zks(q:Am):rot q.length q=q:=by
 unfold rot;rw[Qen,Qb7];rfl
def Zdj{m j:Nat}(q:m<=B.length)(C:j<B.length):(rot m B)[j]?=B[(j+m)%B.length]?:=by
 unfold rot
 by_cases h:j<B.length-m
 ·rw[Qa9 (by rw[Qbr];exact h),Qgv,Qc6 (by lia),Qf1]
 ·rw[Qaz (by rw[Qbr];lia),Qbr,Qdt,Qa3 (by lia)];congr 1;rw[Qgw (by lia),Qc6 (by lia)];lia
theorem xK.at{C:Am}{m:Nat}(h:xK C m)(J:1<=m)(L:m<=C.length):∀i,C[i%C.length]?=C[i%m]?:=by
 have step:∀j,j<C.length->C[(j+m)%C.length]?=C[j]?:=fun j D=>by rw[<-Zdj L D,h.2]
 have pos:0<C.length:=by lia
 obtain⟨q,I⟩:∃q,C.length=m*q:=⟨C.length/m,by have:=Qht C.length m;rw[h.1]at this;lia⟩;have F:∀k j,j<m->j+m*k<C.length->C[j+m*k]?=C[j]?:=by
  intro k
  induction k with
  |zero=>intro j _ _;rw[Nat.mul_zero,Qgt]
  |succ k G=>
   intro j D M;have:=step (j+m*k) (by lia);rw[Qc6 (by lia)]at this;rw[Nat.mul_succ,<-Qfs,this];exact G j D (by lia)
 intro i;have hi:i%C.length<C.length:=Qeo _ pos;have e:i%C.length%m=i%m:=by
  rw[I];exact Nat.mod_mul_right_mod i m q
 have d:=Qht (i%C.length) m;have:=F (i%C.length/m) (i%m) (Qeo _ J) (by lia);rw[show i%m+m*(i%C.length/m)=i%C.length by lia]at this;exact this
def atR(tl q:Am)(i:Nat):Bool:=if i<tl.length then tl.getD i false else q.getD ((i-tl.length)%q.length) false
structure ZT(T:Nat->Bool)(tl rg:Am):Prop where
 at_:∀i,atR tl rg i=T i
 pos:1<=rg.length
 prim:∀m,1<=m->m<rg.length->¬xK rg m
 last:tl≠[]->tl.getD (tl.length-1) false≠rg.getD (rg.length-1) false
def Gg(bs:Am):(bs.map V.bl).all YM=true:=Qcb.mpr fun v q=>by obtain⟨y,_,rfl⟩:=Qav.mp q;rfl
theorem km:∀as bs:Am,zr (as.map V.bl) (bs.map V.bl)=decide (as=bs)
 |[],[]=>rfl
 |[],_::_=>rfl
 |_::_,[]=>rfl
 |a::as,b::bs=>by
  show(eqV (.bl a) (.bl b)&&zr (as.map V.bl) (bs.map V.bl))=_;rw[km as bs];have e:eqV (.bl a) (.bl b)=decide (a=b):=by cases a<;>cases b<;>rfl
  rw[e,<-Bool.decide_and];exact Qcv.mpr (by simp)
def ixZ(z:Int)(L:Nat):Nat:=(z%(L:Int)).toNat
def Zdk(h:1<=L):ixZ z L<L:=by
 unfold ixZ;have:=Qb0 z (show(0:Int)<L by lia);lia
def Zdl(i L:Nat):ixZ (i:Int) L=i%L:=by
 unfold ixZ;rw[<-Qd2,Qbp]
def Zkt{j:Nat}(h:1<=L):(ixZ z L+j)%L=ixZ (z+j) L:=by
 have q:=Qbz z (show(L:Int)≠0 by lia);rw[<-Zdl];unfold ixZ;congr 1;rw[Int.natCast_add,Qfd q,Int.emod_add_emod]
def rgB(q:Am)(b L:Nat):Am:=(q.take L).drop b++q.take b
def ko{b:Nat}(q:b<L)(C:L<=B.length):(rgB B b L).length=L:=by
 unfold rgB;rw[Qaj,Qbr,Qa2,Qa2];lia
def Zhi{b j:Nat}(q:b<L)(C:L<=B.length)(D:j<L):(rgB B b L)[j]?=B[(b+j)%L]?:=by
 unfold rgB
 by_cases h:j<L-b
 ·rw[Qa9 (by grind),Qgv,Qdt,Qa3 (by lia),Qc6 (by lia)]
 ·rw[Qaz (by grind),Qbr,Qa2,Qdt,Qa3 (by lia)];congr 1;rw[Qgw (by lia),Qc6 (by lia)];lia
def getD_eq{xs ys:Am}{j:Nat}(h:xs[i]?=ys[j]?):xs.getD i false=ys.getD j false:=by grind
def Zf6{b:Nat}(R:Zkr B L)(J:b<L):∀m,1<=m->m<(rgB B b L).length->¬xK (rgB B b L) m:=by
 intro m M F O;have D:=ko J R.le;have I:=O.at M (Qa0 F);rw[D]at F I;have Y:=O.1;rw[D]at Y;obtain⟨q,hq⟩:∃q,B.length=L*q:=⟨B.length/L,by have:=Qht B.length L;rw[R.t.1]at this;lia⟩;refine R.least m M F ⟨?_,?_⟩
 ·rw[hq];exact Nat.mod_eq_zero_of_dvd (Nat.dvd_trans (Nat.dvd_of_mod_eq_zero Y) (Nat.dvd_mul_right _ _))
 ·have G:m<=B.length:=Qbc (Qa0 F) R.le;refine Qfx fun j=>?_
  by_cases Z:j<B.length
  ·rw[Zdj G Z,R.t.at R.one R.le];have e1:B[j]?=B[j%L]?:=by rw[<-R.t.at R.one R.le,Qc6 Z]
   rw[e1];have C:∀i,B[i%L]?=(rgB B b L)[(i+(L-b))%L]?:=fun i=>by
    rw[Zhi J R.le (Qeo _ R.one)];congr 1;rw[Nat.add_mod_mod,show b+(i+(L-b))=i+L by lia,Qhb]
   rw[C,C,I,I];congr 1;rw[show j+m+(L-b)=j+(L-b)+m by lia,Qhb]
  ·rw[Qe2 (by unfold rot;rw[Qaj,Qbr,Qa2];lia),Qe2 (by lia)]
def Zf7{T:Nat->Bool}{C:Am}{kp:Nat}(R:Zkr C L)(I:∀i,atR B C i=T i)(Y:kp<=B.length)(hs:∀i,kp<=i->i<B.length->B.getD i false=C.getD (ixZ ((i:Int)-B.length) L) false)
  (O:1<=kp->B.getD (kp-1) false≠C.getD (ixZ ((kp:Int)-1-B.length) L) false):ZT T (B.take kp) (rgB C (ixZ ((kp:Int)-B.length) L) L):=by
 have G:=Zdk (z:=(kp:Int)-B.length) R.one;have q:=ko G R.le;have F:∀j,j<L->(rgB C (ixZ ((kp:Int)-B.length) L) L).getD j false=C.getD (ixZ ((kp:Int)-B.length+j) L) false:=fun j M=>by
  rw[<-Zkt R.one];exact getD_eq (Zhi G R.le M)
 have D:(B.take kp).length=kp:=by rw[Qa2];lia
 refine⟨fun i=>?_,by rw[q];exact R.one,Zf6 R G,fun J=>?_⟩
 ·rw[<-I i];unfold atR;rw[D,q]
  by_cases h:i<kp
  ·rw[Qa3 h,Qa3 (by lia),Qaf,Qaf,Qdt,Qa3 h]
  ·rw[Qax h,F _ (Qeo _ R.one)];have e:ixZ ((kp:Int)-B.length+((i-kp)%L:Nat)) L=ixZ ((i:Int)-B.length) L:=by
    unfold ixZ;congr 1;rw[Qd2,Int.add_emod_emod];congr 1;lia
   rw[e]
   by_cases h2:i<B.length
   ·grind
   ·rw[Qax h2];refine getD_eq ?_;rw[R.t.at R.one R.le,show(i:Int)-B.length=((i-B.length:Nat):Int) by lia,Zdl]
 ·have k1:1<=kp:=by
   grind
  rw[D,q,F (L-1) (by lia)];have e:ixZ ((kp:Int)-B.length+((L-1:Nat):Int)) L=ixZ ((kp:Int)-1-B.length) L:=by
   unfold ixZ;congr 1;rw[show(kp:Int)-B.length+((L-1:Nat):Int)=(kp:Int)-1-B.length+(L:Int)*1 by lia,Qcf]
  rw[e,Qaf,Qdt,Qa3 (by lia),<-Qaf];exact O k1
def Few(nx:Ad)(n R:Nat):Prop:=∃g:Aj->Nat,(∀ls:Aj,(∀x∈ls,x<n)->g ls<R)/\∀ls q:Aj,(∀x∈ls,x<n)->(∀x∈q,x<n)->(ls.length=q.length\/(10<=ls.length/\10<=q.length))->g ls=g q->stN nx 0 ls=stN nx 0 q
def Tw(C:A2)(q:Ai)(wb:Bool)(i:Nat):Bool:=(chs (2^(i+1)) q.length).any fun vs=>decide (XW (2^(i+1)) (va q vs) C []=[.bl wb])
def gz(l:Am)(i:Nat)(h:i<l.length):(l.map fun b=>!b).getD i false=!l.getD i false:=by grind
theorem ZT.not{T:Nat->Bool}{G:Am}(S:ZT T B G):ZT (fun i=>!T i) (B.map fun b=>!b) (G.map fun b=>!b):=by
 have I:=S.pos;have nn:∀l:Am,((l.map fun b=>!b).map fun b=>!b)=l:=fun l=>by
  rw[Qaw];exact(Qbo fun b _=>by cases b<;>rfl).trans (Qgh _)
 refine⟨fun i=>?_,by rw[Qab];exact I,fun m J F D=>?_,fun C=>?_⟩
 ·rw[<-S.at_ i];unfold atR;rw[Qab,Qab];split
  ·exact gz _ _ (by assumption)
  ·exact gz _ _ (Qeo _ I)
 ·rw[Qab]at F;refine S.prim m J F ⟨by have:=D.1;rwa [Qab]at this,?_⟩;have:=congrArg (List.map fun b=>!b) D.2;unfold rot at this ⊢;rw[Qay,<-Qdw,<-Qdm,nn,nn]at this;rw[nn]at this;exact this
 ·have q:B≠[]:=fun z=>C (by rw[z];rfl)
  have L:0<B.length:=Qgj.mpr q;intro e;exact S.last q (by
   grind)
def Zf8{b:Nat}(q:b<=L)(C:L<=B.length):uL (B.map V.bl) (some (b:Int)) (some (L:Int))=((B.take L).drop b).map V.bl:=by
 unfold uL;simp only[HT.sIx];rw[Qax (by lia),Qax (by lia),Qab,Qbp,Qbp,Qey (by lia),Qey (by lia),<-Qdw,<-Qdm,List.drop_take]
def put_in{y:Nat}(h:y∈S):putK (S.map fun x:Nat=>((.inl (x:Int):Key),V.bl true)) (.inl (y:Int)) (.bl true)=S.map fun x:Nat=>((.inl (x:Int):Key),V.bl true):=by
 have e:((S.map fun x:Nat=>((.inl (x:Int):Key),V.bl true)).any fun C=>decide (C.1=.inl (y:Int)))=true:=Qcd.mpr ⟨_,Qav.mpr ⟨y,h,rfl⟩,Qan rfl⟩;unfold putK;rw[Qa3 e];refine(Qbo (g:=id) fun C q=>?_).trans (Qgh _);obtain⟨x,_,rfl⟩:=Qav.mp q;split<;>rfl
def Zku{y:Nat}(h:y∉S):putK (S.map fun x:Nat=>((.inl (x:Int):Key),V.bl true)) (.inl (y:Int)) (.bl true)=(S++[y]).map fun x:Nat=>((.inl (x:Int):Key),V.bl true):=by
 unfold putK;rw[Qax,Qay]
 ·rfl
 ·grind
def Zf9(h:D.Perm (S.map fun x:Nat=>(x:Int))):∃ns:Aj,D=ns.map (fun x:Nat=>(x:Int))/\ns.Perm S:=by
 refine⟨D.map Int.toNat,?_,?_⟩
 ·rw[Qaw];refine((Qbo (g:=id) fun z q=>?_).trans (Qgh _)).symm;obtain⟨x,_,rfl⟩:=Qav.mp (h.mem_iff.mp q);rfl
 ·have:=h.map Int.toNat;rw[Qaw]at this;exact this.trans (.of_eq ((Qbo (g:=id) fun x _=>rfl).trans (Qgh _)))
def uA{ns:Aj}(h:(ns.map fun x:Nat=>(x:Int)).Pairwise (·<=·))(q:ns.Nodup):ns.Pairwise (· < ·):=by
 rw[Qe6]at h;exact(h.and q).imp fun⟨a,b⟩=>by lia
def Rch(nx:Ad)(n k s:Nat):Prop:=∃ls:Aj,ls.length=k/\(∀x∈ls,x<n)/\stN nx 0 ls=s
def X0(nx:Ad)(n k:Nat):Aj:=(List.range nx.length).filter fun s=>@decide (Rch nx n k s) (Classical.propDecidable _)
structure Mch(nx:Ad)(n:Nat):Prop where
 row:∀s,s<nx.length->(nx.getD s []).length=n
 st:∀ls:Aj,(∀x∈ls,x<n)->stN nx 0 ls<nx.length
def jI(ls:Aj):ls=[]\/∃(q:Aj) (c:Nat),ls=q++[c]:=by
 rcases List.eq_nil_or_concat ls with h|⟨q,c,h⟩
 ·exact .inl h
 ·grind
theorem g7:∀{a b:Aj},a.Pairwise (· < ·)->b.Pairwise (· < ·)->(∀x,x∈a↔x∈b)->a=b
 |[],[],_,_,_=>rfl
 |[],y::b,_,_,h=>absurd ((h y).mpr Qai) Qa8
 |x::a,[],_,_,h=>absurd ((h x).mp Qai) Qa8
 |x::a,y::b,ha,F,h=>by
  have q:=List.pairwise_cons.mp ha;have C:=List.pairwise_cons.mp F;have e:x=y:=by
   rcases Qao.mp ((h x).mp Qai)with z|z
   ·exact z
   ·rcases Qao.mp ((h y).mpr Qai)with w|w
    ·exact w.symm
    ·grind
  subst e;refine congrArg (List.cons x) (g7 q.2 C.2 fun z=>⟨fun D=>?_,fun D=>?_⟩)
  ·grind
  ·grind
def Yv{nx:Ad}{k s:Nat}(M:Mch nx n):s∈X0 nx n k↔Rch nx n k s:=by
 unfold X0;rw[Qdn,Qbt,@decide_eq_true_iff _ (Classical.propDecidable _)];exact⟨fun h=>h.2,fun h=>⟨by obtain⟨ls,_,q,rfl⟩:=h;exact M.st ls q,h⟩⟩
def WX(nx:Ad)(n k:Nat):(X0 nx n k).Pairwise (· < ·):=List.pairwise_lt_range.filter _
def Mch.succ{nx:Ad}{n k x:Nat}(M:Mch nx n):Rch nx n (k+1) x↔∃s,Rch nx n k s/\x∈nx.getD s []:=by
 constructor
 ·rintro⟨ls,q,C,rfl⟩;rcases jI ls with rfl|⟨F,c,rfl⟩
  ·cases q
  ·rw[Qaj]at q;have I:∀x∈F,x<n:=fun x D=>C x (Qbd.mpr (.inl D));refine⟨_,⟨F,Nat.succ.inj q,I,rfl⟩,?_⟩;rw[qb];exact Qas (getD_at (d:=0) (by rw[M.row _ (M.st F I)];exact C c (Qbd.mpr (.inr (Qar.mpr rfl)))))
 ·rintro⟨s,⟨ls,rfl,C,rfl⟩,D⟩;obtain⟨c,G⟩:=Qcm.mp D;have q:=(Qag.mp G).1;rw[M.row _ (M.st ls C)]at q;refine⟨ls++[c],Qaj,fun y J=>?_,?_⟩
  ·grind
  ·rw[qb,Qaf,G];rfl
theorem Zdm{nx:Ad}(M:Mch nx n):X0 nx n 0=[0]:=g7 (WX nx n 0) (List.pairwise_singleton _ _) fun x=>by
 rw[Yv M,Qar];constructor
 ·rintro⟨ls,q,_,rfl⟩;rw[Qcp q];rfl
 ·rintro rfl;exact⟨[],rfl,(fun _ z=>nomatch z),rfl⟩
theorem vc{nx:Ad}{k:Nat}(M:Mch nx n)(h1:S.Pairwise (· < ·))(h2:∀x,x∈S↔∃s∈X0 nx n k,x∈nx.getD s []):S=X0 nx n (k+1):=g7 h1 (WX nx n _) fun x=>by
 rw[h2,Yv M,M.succ];exact⟨fun⟨s,a,b⟩=>⟨s,(Yv M).mp a,b⟩,fun⟨s,a,b⟩=>⟨s,(Yv M).mpr a,b⟩⟩
theorem g8{nx:Ad}{n j k:Nat}(M:Mch nx n)(e:X0 nx n k=X0 nx n j):∀i,X0 nx n (k+i)=X0 nx n (j+i)
 |0=>e
 |i+1=>vc (k:=j+i) M (WX nx n _) fun x=>by
  rw[Yv M,show k+(i+1)=(k+i)+1 from rfl,M.succ,<-g8 M e i];exact⟨fun⟨s,a,b⟩=>⟨s,(Yv M).mpr a,b⟩,fun⟨s,a,b⟩=>⟨s,(Yv M).mp a,b⟩⟩
theorem Zkv{T:Nat->Bool}{j k:Nat}(C:j<k)(F:∀i,T (k+i)=T (j+i))(i:Nat):atR (((List.range k).map T).take j) (((List.range k).map T).drop j) i=T i:=by
 have I:((List.range k).map T).length=k:=by rw[Qab,Qbb]
 have h1:(((List.range k).map T).take j).length=j:=by rw[Qa2];lia
 have h2:(((List.range k).map T).drop j).length=k-j:=by rw[Qbr];lia
 have q:∀m,m<k->((List.range k).map T)[m]?=some (T m):=fun m G=>by grind
 have per:∀m,T (j+m%(k-j))=T (j+m):=by
  intro m
  induction m using Nat.strongRecOn with
  |_ m D=>
   by_cases h:m<k-j
   ·rw[Qc6 h]
   ·rw[Qgw (by lia),D (m-(k-j)) (by lia),<-F];congr 1;lia
 unfold atR;rw[h1,h2]
 by_cases h:i<j
 ·grind
 ·have:=Qeo (i-j) (show 0<k-j by lia);rw[Qax h,Qaf,Qgv,q _ (by lia)];show T _=_;rw[per];congr 1;lia
def bN:Am->Nat
 |[]=>0
 |b::l=>(if b=true then 1 else 0)+2*bN l
theorem Zmf:∀l:Am,bN l<2^l.length
 |[]=>Nat.one_pos
 |b::l=>by
  have:=Zmf l;show(if b=true then 1 else 0)+2*bN l<2^(l.length+1);split<;>lia
theorem Zhj:∀{a b:Am},a.length=b.length->bN a=bN b->a=b
 |[],[],_,_=>rfl
 |[],_::_,h,_=>nomatch h
 |_::_,[],h,_=>nomatch h
 |x::a,y::b,h,e=>by
  have e:(if x=true then 1 else 0)+2*bN a=(if y=true then 1 else 0)+2*bN b:=e;have e2:bN a=bN b:=by split at e<;>split at e<;>lia
  rw[Zhj (Nat.succ.inj h) e2];rw[e2]at e;congr 1;cases x<;>cases y<;>first|rfl|(simp at e)
def Zhk{l:List d}{f:d->Nat}(h:l.Nodup)(D:∀x∈l,∀y∈l,f x=f y->x=y):(l.map f).Nodup:=Qe6.mpr (h.imp_of_mem fun C F q e=>q (D _ C _ F e))
def Few.turns{nx:Ad}{R k:Nat}(F:Few nx n R)(hR:R<=16)(M:Mch nx n)(L:∀i j,i<j->j<k->X0 nx n i≠X0 nx n j):k<=65546:=by
 obtain⟨g,Y,he⟩:=F;have ex:∃c:Nat->List Bool,(∀i,(c i).length=R)/\∀i j r,r<R->c i=c j->(∃ls:Aj,ls.length=i/\(∀x∈ls,x<n)/\g ls=r)->∃ls:Aj,ls.length=j/\(∀x∈ls,x<n)/\g ls=r:=by
  refine⟨fun i=>(List.range R).map fun r=>@decide (∃ls:Aj,ls.length=i/\(∀x∈ls,x<n)/\g ls=r) (Classical.propDecidable _),fun i=>by rw[Qab,Qbb],fun i j r Z e h=>?_⟩;have:=congrArg (fun l:Am=>l[r]?) e;simp only[Qah,Qel Z,Qfm,Option.some.injEq]at this;exact(@decide_eq_true_iff _ (Classical.propDecidable _)).mp (this ▸ (@decide_eq_true_iff _ (Classical.propDecidable _)).mpr h)
 obtain⟨c,q,C⟩:=ex;have sub:∀i j,10<=i->10<=j->c i=c j->∀x,x∈X0 nx n i->x∈X0 nx n j:=fun i j hi hj e x D=>by
  obtain⟨ls,h1,h2,rfl⟩:=(Yv M).mp D;obtain⟨I,g1,G,g3⟩:=C i j (g ls) (Y ls h2) e ⟨ls,h1,h2,rfl⟩;exact(Yv M).mpr ⟨I,g1,G,he I ls G h2 (.inr ⟨by lia,by lia⟩) g3⟩
 have nd:((List.range (k-10)).map fun i=>bN (c (10+i))).Nodup:=Zhk List.nodup_range fun a ha b O e=>by
  have ha:=Qbt.mp ha;have O:=Qbt.mp O;have J:=Zhj (by rw[q,q]) e;have es:X0 nx n (10+a)=X0 nx n (10+b):=g7 (WX nx n _) (WX nx n _) fun x=>⟨sub _ _ (by lia) (by lia) J x,sub _ _ (by lia) (by lia) J.symm x⟩;rcases Nat.lt_trichotomy a b with h|h|h
  ·exact absurd es (L _ _ (by lia) (by lia))
  ·exact h
  ·exact absurd es.symm (L _ _ (by lia) (by lia))
 have:=Zdc (n:=2^16) nd fun x D=>by
  obtain⟨i,_,rfl⟩:=Qav.mp D;refine Qbm (Zmf _) ?_;rw[q];exact Qcr (by decide) hR
 rw[Qab,Qbb]at this;lia
def Few.set{nx:Ad}{R k:Nat}(F:Few nx n R)(J:S.Nodup)(h:∀x∈S,Rch nx n k x):S.length<=R:=by
 obtain⟨g,G,I⟩:=F;have ex:∃f:Nat->List Nat,∀x∈S,(f x).length=k/\(∀y∈f x,y<n)/\stN nx 0 (f x)=x:=by
  refine⟨fun x=>@dite _ (Rch nx n k x) (Classical.propDecidable _) (fun h=>Classical.choose h) fun _=>[],fun x q=>?_⟩;have z:=h x q;have e:@dite _ (Rch nx n k x) (Classical.propDecidable _) (fun h=>Classical.choose h) (fun _=>[])=Classical.choose z:=dif_pos z;have sp:=Classical.choose_spec z;rw[<-e]at sp;exact sp
 obtain⟨f,D⟩:=ex;have:=Zdc (n:=R) (Zhk (f:=fun x=>g (f x)) J fun x q y C e=>by
  obtain⟨a1,a2,L⟩:=D x q;obtain⟨b1,b2,M⟩:=D y C;rw[<-L,<-M];exact I _ _ a2 b2 (.inl (by rw[a1,b1])) e) fun x q=>by
  obtain⟨y,C,rfl⟩:=Qav.mp q;exact G _ (D y C).2.1
 rwa [Qab]at this
def sT(nm:Ai)(q:A2):Int×Ak->List Nat->Int×Ak
 |s,[]=>s
 |s,c::r=>sT nm q ((nxS nm q s).getD c (0,[])) r
def Zmg{nm:Ai}{q:A2}{l:List (Int×Ak)}(S:Wt nm q)(B:BfE (nxS nm q) (0,List.replicate (Y8 q) 0) l):∀(ls:Aj) (s:Int×Ak),(∀x∈ls,x<2^nm.length)->s∈l->s∈uni (Y8 q) (lgB q+1)->
  stN (rnG (nxS nm q) l) (ixG l s) ls=ixG l (sT nm q s ls)/\sT nm q s ls∈uni (Y8 q) (lgB q+1)/\(sT nm q s ls).1=min (s.1+(ls.length:Int)) (lgB q:Int)
 |[],s,_,_,C=>by
  obtain⟨p,h1,h2,_⟩:=XH.mp C;refine⟨rfl,C,?_⟩;show s.1=min (s.1+((0:Nat):Int)) _;lia
 |c::r,s,I,hs,C=>by
  have F:=I c Qai;have G:c<(nxS nm q s).length:=by rw[Zcr];exact F
  have J:(nxS nm q s).getD c (0,[])∈nxS nm q s:=Qas (getD_at G);have e1:((nxS nm q s).getD c (0,[])).1=min (s.1+1) (lgB q:Int):=by
   unfold nxS nxT;rw[Qaf,Qah,Qel F];rfl
  have e2:((rnG (nxS nm q) l).getD (ixG l s) []).getD c 0=ixG l ((nxS nm q s).getD c (0,[])):=by
   rw[Zg9 (fun s hs x D=>B.next hs D) hs,Qaf,Qah,getD_at (d:=(0,[])) G];rfl
  obtain⟨a1,a2,L⟩:=Zmg S B r ((nxS nm q s).getD c (0,[])) (fun x D=>I x (Qal _ D)) (B.next hs J) (qa S.wc rfl C _ J);refine⟨?_,a2,?_⟩
  ·show stN _ (((rnG (nxS nm q) l).getD (ixG l s) []).getD c 0) r=_;rw[e2];exact a1
  ·show(sT nm q _ r).1=min (s.1+((r.length+1:Nat):Int)) _;lia
theorem Zdn{nx q:Ad}{ot D:Az}{b I n:Nat}{A:Nat->Nat->Prop}(M:Bis nx q ot D b I A)(F:∀r∈nx,r.length=2^n)(C:∀r∈q,r.length=2^n):∀{ls:Aj} {s s':Nat},A s s'->(∀x∈ls,x<2^n)->A (stN nx s ls) (stN q s' ls)
 |[],_,_,h,_=>h
 |c::ls,s,s',h,G=>by
  have Z:=G c Qai;obtain⟨L,J⟩:=M.lt s s' h;have l1:=F _ (getD_mem L);have l2:=C _ (getD_mem J);have O:=M.next s s' c _ _ h (getD_at (d:=0) (by lia)) (getD_at (d:=0) (by lia));exact Zdn M F C (ls:=ls) O fun x Y=>G x (Qal _ Y)
def few_of{l:List (Int×Ak)}{ot:Az}{F cs:Aj}(S:Wt N r)(B:BfE (nxS N r) (0,List.replicate (Y8 r) 0) l)(L:Lst N 0 (rnG (nxS N r) l) ot true F cs):Few (lsR (rnR (rnG (nxS N r) l) F) cs) (2^N.length) (2^Y8 r):=by
 have D:((0:Int),List.replicate (Y8 r) (0:Int))∈uni (Y8 r) (lgB r+1):=XH.mpr ⟨0,by lia,rfl,YK.mpr ⟨Qa1,fun x G=>.inl (Qee G)⟩⟩;have ok:=fun(ls:Aj) (h:∀x∈ls,x<2^N.length)=>Zmg S B ls _ h B.begin.2 D;have C:∀ls:Aj,(∀x∈ls,x<2^N.length)->(sT N r (0,List.replicate (Y8 r) 0) ls).2∈Wg (Y8 r):=fun ls h=>by
  obtain⟨_,_,_,z⟩:=XH.mp (ok ls h).2.1;exact z
 refine⟨fun ls=>ixG (Wg (Y8 r)) (sT N r (0,List.replicate (Y8 r) 0) ls).2,fun ls h=>?_,fun ls q h h' I e=>?_⟩
 ·rw[<-xg];exact(Qag.mp (xh (C ls h))).1
 ·have e2:(sT N r (0,List.replicate (Y8 r) 0) ls).2=(sT N r (0,List.replicate (Y8 r) 0) q).2:=by
   have i1:(Wg (Y8 r))[ixG (Wg (Y8 r)) (sT N r (0,List.replicate (Y8 r) 0) ls).2]?=_:=xh (C ls h);have i2:(Wg (Y8 r))[ixG (Wg (Y8 r)) (sT N r (0,List.replicate (Y8 r) 0) q).2]?=_:=xh (C q h');dsimp only at e;rw[e,i2]at i1;exact(Option.some.inj i1).symm
  have e1:(sT N r (0,List.replicate (Y8 r) 0) ls).1=(sT N r (0,List.replicate (Y8 r) 0) q).1:=by
   rw[(ok ls h).2.2,(ok q h').2.2];have:lgB r<=10:=wZ S.iz;rcases I with z|⟨M,J⟩
   ·rw[z]
   ·grind
  have es:sT N r (0,List.replicate (Y8 r) 0) ls=sT N r (0,List.replicate (Y8 r) 0) q:=Qhv e1 e2;have st:stN (rnG (nxS N r) l) 0 ls=stN (rnG (nxS N r) l) 0 q:=by
   have a:=(ok ls h).1;have b:=(ok q h').1;rw[B.zero]at a b;rw[a,b,es]
  have a:=Zdn L.al.bis L.W.nr L.W2.nr L.al.b h;have b:=Zdn L.al.bis L.W.nr L.W2.nr L.al.b h';rw[st]at a;exact L.al.fn _ _ _ a b
theorem xo{α:Type}{g:α->Nat}:∀{l:List α},0<(l.map g).sum↔∃x∈l,0<g x
 |[]=>⟨fun z=>absurd z (Qce 0),fun⟨_,z,_⟩=>nomatch z⟩
 |a::l=>by
  rw[Qbx,List.sum_cons];constructor
  ·intro h;rcases Qgu (g a)with z|z
   ·obtain⟨x,h1,h2⟩:=xo.mp (show 0<(l.map g).sum by lia);exact⟨x,Qal _ h1,h2⟩
   ·exact⟨a,Qai,z⟩
  ·rintro⟨x,h1,h2⟩;rcases Qao.mp h1 with rfl|z
   ·lia
   ·have:=xo.mpr ⟨x,z,h2⟩;lia
theorem Zhl{n:Nat}:∀{W:Nat} {g:Aj->Nat},0<SQ n W g↔∃ls:Aj,ls.length=W/\(∀x∈ls,x<n)/\0<g ls
 |0,g=>⟨fun z=>⟨[],rfl,(fun _ z=>nomatch z),z⟩,fun⟨ls,h,_,z⟩=>by rw[Qcp h]at z;exact z⟩
 |W+1,g=>by
  show 0<SQ n W (fun ls=>WW n fun l=>g (ls++[l]))↔_;rw[Zhl];constructor
  ·rintro⟨ls,h1,h2,q⟩;obtain⟨c,G,F⟩:=xo.mp q;refine⟨ls++[c],by rw[Qaj,h1];rfl,fun x C=>?_,F⟩;rcases Qbd.mp C with z|z
   ·exact h2 x z
   ·grind
  ·rintro⟨ls,h1,h2,q⟩;rcases jI ls with rfl|⟨D,c,rfl⟩
   ·cases h1
   ·rw[Qaj]at h1;exact⟨D,Nat.succ.inj h1,fun x C=>h2 x (Qbd.mpr (.inl C)),xo.mpr ⟨c,Qbt.mpr (h2 c (Qbd.mpr (.inr (Qar.mpr rfl)))),q⟩⟩
theorem tw_iff{nx:Ad}{ot:Az}{wb:Bool}(S:Wt N r)(O:Tells r N nx ot)(M:Mch nx (2^N.length))(ho:∀s,s<nx.length->(ot.getD s []).length=2^N.length):
  Tw r N wb i=true↔∃s∈X0 nx (2^N.length) i,V.bl wb∈ot.getD s []:=by
 have e0:Tw r N wb i=true↔0<((chs (2^(i+1)) N.length).map fun vs=>if XW (2^(i+1)) (va N vs) r []=[.bl wb]then 1 else 0).sum:=by
  unfold Tw;rw[Qcd,xo];refine exists_congr fun vs=>Qhu fun _=>?_;rw[Qd4]
  split<;>simp_all
 have C:∀(q:Aj) (c:Nat),q.length=i->(rnO nx ot 0 (q++[c]))[i+1-1]?=some ((ot.getD (stN nx 0 q) []).getD c .non):=fun q c h=>by
  rw[gk,Qgx,Qaz (by rw[kh,h];exact Qak _),kh,h,Qe1];rfl
 rw[e0,Zc9,<-Zc8,Zhl];constructor
 ·rintro⟨ls,h1,h2,F⟩;obtain⟨b,e1,e2⟩:=O (i+1) ls (by lia) h1 h2;rw[<-Zde (fun y G=>Zdd G ls) S.ty,e1]at F;split at F
  ·rename_i D;cases D;rcases jI ls with rfl|⟨q,c,rfl⟩
   ·cases h1
   ·rw[Qaj]at h1;have Y:∀x∈q,x<2^N.length:=fun x I=>h2 x (Qbd.mpr (.inl I));rw[C q c (Nat.succ.inj h1)]at e2;refine⟨_,(Yv M).mpr ⟨q,Nat.succ.inj h1,Y,rfl⟩,?_⟩;rw[<-Option.some.inj e2];exact Qas (getD_at (by rw[ho _ (M.st q Y)];exact h2 c (Qbd.mpr (.inr (Qar.mpr rfl)))))
  ·exact absurd F (Qce 0)
 ·rintro⟨s,hs,Z⟩;obtain⟨q,h1,h2,rfl⟩:=(Yv M).mp hs;obtain⟨c,J⟩:=Qcm.mp Z;have L:=(Qag.mp J).1;rw[ho _ (M.st q h2)]at L;have D:∀x∈q++[c],x<2^N.length:=fun x I=>by
   rcases Qbd.mp I with z|z
   ·exact h2 x z
   ·rw[Qar.mp z];exact L
  obtain⟨b,e1,e2⟩:=O (i+1) (q++[c]) (by lia) (by rw[Qaj,h1];rfl) D;rw[C q c h1,Qaf,J]at e2;cases e2;refine⟨q++[c],by rw[Qaj,h1];rfl,D,?_⟩;rw[<-Zde (fun y G=>Zdd G (q++[c])) S.ty,e1,Qa3 rfl];exact Nat.one_pos
def kyS(S:Aj):List Key:=S.map fun x:Nat=>(.inl (x:Int):Key)
def kyS_kV(S:Aj):(kyS S).map kV=S.map Ws:=by
 unfold kyS;rw[Qaw];rfl
theorem kq:∀{a b:Aj},kyS a=kyS b->a=b
 |[],[],_=>rfl
 |[],_::_,h=>nomatch h
 |_::_,[],h=>nomatch h
 |x::a,y::b,h=>by
  injection h with h1 h2;rw[Int.ofNat.inj (Sum.inl.inj h1),kq h2]
def plc(nx:Ad)(n k:Nat):List (List Key×V):=(List.range k).map fun i:Nat=>(kyS (X0 nx n i),V.int (i:Int))
def Zkw(nx:Ad)(n k:Nat):(plc nx n k).length=k:=by
 unfold plc;rw[Qab,Qbb]
def plc_in{nx:Ad}{k:Nat}(h:(Yj (plc nx n k) (kyS S)).isSome=true):∃j,j<k/\X0 nx n j=S:=by
 rw[<-X4]at h;obtain⟨q,h1,h2⟩:=Qcd.mp h;obtain⟨j,C,rfl⟩:=Qav.mp h1;exact⟨j,Qbt.mp C,kq (Qbh h2)⟩
def plc_no{nx:Ad}{k:Nat}(h:(Yj (plc nx n k) (kyS S)).isSome=false):∀j,j<k->X0 nx n j≠S:=by
 rw[<-X4]at h;intro j q e;have:=List.any_eq_false.mp h _ (Qav.mpr ⟨j,Qbt.mpr q,rfl⟩);exact this (Qan (by rw[e]))
def Zkx{nx:Ad}{k:Nat}(h:(Yj (plc nx n k) (kyS (X0 nx n k))).isSome=false):putK (plc nx n k) (kyS (X0 nx n k)) (.int (k:Int))=plc nx n (k+1):=by
 rw[<-X4]at h;unfold putK;rw[h,Qax (fun z=>nomatch z)];unfold plc;rw[Qed,Qay];rfl
def Zdo{nx:Ad}{k:Nat}(D:∀i j,i<j->j<k->X0 nx n i≠X0 nx n j){j:Nat}(F:j<k):Yj (plc nx n k) (kyS (X0 nx n j))=some (.int (j:Int)):=by
 refine GR (kvs:=plc nx n k) ?_ (kyS (X0 nx n j),.int (j:Int)) (Qav.mpr ⟨j,Qbt.mpr F,rfl⟩);unfold plc;rw[Qaw];refine Qe6.mpr ((List.pairwise_lt_range (n:=k)).imp_of_mem fun ha C q e=>D _ _ q (Qbt.mp C) (kq e))
def any_tw{ot:Az}{wb b:Bool}(C:∀s∈S,∀v∈ot.getD s [],∃b:Bool,v=.bl b)(h:b=true↔∃s∈S,V.bl wb∈ot.getD s []):(S.map fun s=>inV (.bl wb) (ot.getD s [])).any id=b:=by
 rw[Qdo,h,List.any_map,Qcd];refine exists_congr fun s=>Qhu fun hs=>?_;show inV (.bl wb) (ot.getD s [])=true↔_;unfold inV;rw[Qcd]
 constructor
 ·rintro⟨v,q,e⟩;obtain⟨c,rfl⟩:=C s hs v q;have:c=wb:=by cases c<;>cases wb<;>first|rfl|cases e
  rw[<-this];exact q
 ·intro q;exact⟨_,q,by cases wb<;>rfl⟩
def Zdp{s:Nat}(h1:1<=s)(h2:s<B.length)(h:B.length%s=0)(e:B=(List.replicate (B.length/s) (B.take s)).flatten):xK B s:=by
 obtain⟨m,q⟩:∃m,B.length/s=m+1:=⟨B.length/s-1,by have:=Nat.div_pos (Qa0 h2) h1;lia⟩;rw[q]at e;refine⟨h,?_⟩;have C:B.drop s=(List.replicate m (B.take s)).flatten:=by
  grind
 unfold rot;rw[C];rw[Qfa,List.flatten_append]at e;rw[show[B.take s].flatten=B.take s by rw[List.flatten_cons,List.flatten_nil,Qby]]at e;exact e.symm
def rep_bl(k:Nat)(u:Am):(List.replicate k (u.map V.bl)).flatten=((List.replicate k u).flatten).map V.bl:=by
 rw[List.map_flatten,List.map_replicate]
theorem ZT.per{T:Nat->Bool}{q:Am}(S:ZT T B q):∀i,B.length<=i->T (i+q.length)=T i:=fun i hi=>by
 rw[<-S.at_,<-S.at_];unfold atR;rw[Qax (by lia),Qax (by lia),show i+q.length-B.length=(i-B.length)+q.length by lia,Qhb]
theorem jJ{T:Nat->Bool}{N p:Nat}(h:∀i,N<=i->T (i+p)=T i):∀k i,N<=i->T (i+p*k)=T i
 |0,_,_=>rfl
 |k+1,i,hi=>by
  rw[Nat.mul_succ,<-Qfs,h _ (by lia)];exact jJ h k i hi
theorem Zky{T:Nat->Bool}{N:Nat}(a b:Nat):(∀i,N<=i->T (i+a)=T i)->(∀i,N<=i->T (i+b)=T i)->∀i,N<=i->T (i+Nat.gcd a b)=T i:=by
 induction a,b using Nat.gcd.induction with
 |H0 n=>
  intro _ h;rw[Nat.gcd_zero_left];exact h
 |H1 m n C q=>
  intro h1 h2;rw[Nat.gcd_rec];refine q (fun i hi=>?_) h1;have e:=jJ h1 (n/m) (i+n%m) (by lia);rw[show i+n%m+m*(n/m)=i+n by have:=Nat.mod_add_div n m;lia,h2 i hi]at e;exact e.symm
def ZT.le{T:Nat->Bool}{D C q:Am}(S:ZT T B D)(I:ZT T C q):D.length<=q.length:=by
 have p1:=S.pos;have p2:=I.pos;have M:=Zky (T:=T) (N:=max B.length C.length) D.length q.length (fun i hi=>S.per i (by lia)) fun i hi=>I.per i (by lia);have O:0<Nat.gcd D.length q.length:=Nat.gcd_pos_of_pos_left _ p1;have L:Nat.gcd D.length q.length∣D.length:=Nat.gcd_dvd_left _ _;have Z:=Nat.le_of_dvd p2 (Nat.gcd_dvd_right D.length q.length);have Y:=Nat.le_of_dvd p1 L;generalize Nat.gcd D.length q.length=g at *;rcases Qgr g D.length with h|h
 ·exfalso;have all:∀i,B.length<=i->T (i+g)=T i:=fun i hi=>by
   have e1:=jJ S.per (max B.length C.length) i hi;have e2:=jJ S.per (max B.length C.length) (i+g) (by lia);have:=Nat.le_mul_of_pos_left (max B.length C.length) p1;rw[<-e1,<-e2,<-M _ (by lia:max B.length C.length<=i+D.length*max B.length C.length)];congr 1;lia
  have J:∀j,D[j%D.length]?=some (T (B.length+j)):=fun j=>by
   have F:=Qeo j p1;rw[<-S.at_];unfold atR;rw[Qax (by lia),Nat.add_sub_cancel_left,Qaf,Qac F];rfl
  refine S.prim g O h ⟨Nat.mod_eq_zero_of_dvd L,Qfx fun j=>?_⟩
  by_cases F:j<D.length
  ·have G:=J j;rw[Qc6 F]at G;rw[Zdj Y F,J,G,<-Qfs,all _ (by lia)]
  ·rw[Qe2 (by unfold rot;rw[Qaj,Qbr,Qa2];lia),Qe2 (by lia)]
 ·lia
def ZT.tail{T:Nat->Bool}{G q C:Am}(S:ZT T B G)(D:ZT T q C)(I:G.length=C.length):q.length<=B.length:=by
 rcases Qgr B.length q.length with h|h
 ·exfalso;have F:q≠[]:=fun z=>by rw[z]at h;exact absurd h (Qdz _)
  have p:=D.pos;refine D.last F ?_;have e:=S.per (q.length-1) (by lia);rw[I,<-D.at_,<-D.at_]at e;unfold atR at e;rw[Qax (by lia),Qa3 (by lia),show q.length-1+C.length-q.length=C.length-1 by lia,Qc6 (by lia)]at e;exact e.symm
 ·exact h
def ZT.one{T:Nat->Bool}{G C q:Am}(S:ZT T B G)(F:ZT T C q):B=C/\G=q:=by
 have I:G.length=q.length:=Qhq (S.le F) (F.le S);have J:B.length=C.length:=Qhq (F.tail S I.symm) (S.tail F I);have D:∀{a b:Am},a.length=b.length->(∀i,i<a.length->a.getD i false=b.getD i false)->a=b:=fun{a b} L h=>Qfx fun i=>by
  grind
 have same:∀i,atR B G i=atR C q i:=fun i=>by rw[S.at_,F.at_]
 refine⟨D J fun i hi=>?_,D I fun i hi=>?_⟩
 ·have:=same i;unfold atR at this
  rwa [Qa3 hi,Qa3 (by lia)]at this
 ·have:=same (B.length+i);unfold atR at this
  rwa [Qax (by lia),Qax (by lia),<-J,Nat.add_sub_cancel_left,<-I,Qc6 hi]at this
def Zmh(h:∀vs∈chs (2^(i+1)) N.length,∃b:Bool,XW (2^(i+1)) (va N vs) r []=[.bl b])(wb:Bool):inV (.bl wb) ((chs (2^(i+1)) N.length).map fun vs=>V.bl (decide (XW (2^(i+1)) (va N vs) r []=[.bl true])))=Tw r N wb i:=by
 unfold inV Tw;rw[List.any_map,Qdo,Qcd,Qcd];refine exists_congr fun vs=>Qhu fun q=>?_;obtain⟨b,e⟩:=h vs q;show eqV (.bl (decide (XW (2^(i+1)) (va N vs) r []=[.bl true]))) (.bl wb)=true↔decide (XW (2^(i+1)) (va N vs) r []=[.bl wb])=true;rw[e];cases b<;>cases wb<;>decide
def Zdq{D C:Aw}{J:Am}(h1:H f=some (.tup (B.map V.bl)))(h2:H U=some (.tup (J.map V.bl)))(M:H D=some (.tup (B.map V.bl)))(L:H C=some (.tup (J.map V.bl))):
  ∀(j:Nat) (u v:V),[V.ref f,V.ref U][j]?=some u->[V.ref D,V.ref C][j]?=some v->EqD H 3 u v:=by
 have I:∀{q q':Aw} {bs:Am},H q=some (.tup (bs.map V.bl))->H q'=some (.tup (bs.map V.bl))->EqD H 3 (.ref q) (.ref q'):=fun{q q' bs} a b=>.inr ⟨q,q',_,_,rfl,rfl,a,b,rfl,fun j u v F G=>.inl ⟨by
  rw[Qah]at F;obtain⟨x,_,rfl⟩:=Qa4.mp F;rfl,by rw[F]at G;exact Option.some.inj G⟩⟩
 intro j u v F G
 match j,F,G with
 |0,rfl,rfl=>exact I h1 M
 |1,rfl,rfl=>exact I h2 L
def spF(f:(Nat->Bool)->Nat->Bool)(wb:Bool)(F pl:Aw):Sp:=fun vs H Q _=>∃(t:Aw) (q:A2),vs=[.ref t]/\H t=some (.tup q)/\(∀w∈q,zJ w)/\q.length<=60/\(∀C,NmC q C->Wt C q)/\Y8 q<=4/\Yo H F Zt Zs/\Yo H pl Yr Ys/\∀p G I C tl D H',NmC q C->ZT (f (Tw q C wb)) tl D->H' p=some (.tup [.ref G,.ref I])->H' G=some (.tup (tl.map V.bl))->H' I=some (.tup (D.map V.bl))->tl.length<=100000->D.length<=100000->Yo H' F Zt Zs->Yo H' pl Yr Ys->Zmt F pl H H'->Q (.ref p) H'
set_option genInjectivity false in
set_option genSizeOfSpec false in
structure Adr where
 oi:Aw
 oj:Ao
 ma:Aw
 me:Ao
 du:Aw
 dw:Ao
 om:Aw
 oq:Ao
 ir:Aw
 iu:Ao
 mf:Aw
 mh:Ao
 fg:Aw
 fh:Ao
 cg:Aw
 cj:Ao
 fi:Aw
 fj:Ao
 ck:Aw
 cm:Ao
 iw:Aw
 ix:Ao
 mi:Aw
 mj:Ao
 ou:Aw
 ow:Ao
 fk:Aw
 fq:Ao
 bj:Aw
 bp:Ao
 si:Aw
 sj:Ao
 vl:Aw
 vr:Ao
 ox:Aw
 oy:Ao
 ft:Aw
 fu:Ao
 iy:Aw
 ka:Ao
 oz:Aw
 pa:Ao
 mm:Aw
 mn:Ao
 mq:Aw
 mr:Ao
 kd:Aw
 lb:Ao
 lg:Aw
 lh:Ao
 fw:Aw
 fy:Ao
 pb:Aw
 pe:Ao
 wh:Aw
 aaa:Ao
 cq:Aw
 cu:Ao
 ph:Aw
 pj:Ao
 sr:Aw
 su:Ao
 dy:Aw
 dz:Ao
 mw:Aw
 my:Ao
 gb:Aw
 gi:Ao
 pk:Aw
 pw:Ao
 mz:Aw
 nc:Ao
 bq:Aw
 br:Ao
 ee:Aw
 eh:Ao
 qs:Aw
 rb:Ao
 gj:Aw
 ia:Ao
 rd:Aw
 rf:Ao
 ng:Aw
 nh:Ao
 sy:Aw
 ti:Ao
 cx:Aw
 cy:Ao
 aab:Aw
 og:Ao
 bf:Aw
 aw:Ao
 cz:Aw
 da:Ao
 bu:Aw
 bw:Ao
 ib:Aw
 ic:Ao
 tj:Aw
 tq:Ao
 rh:Aw
 rj:Ao
 aag:Aw
 aah:Ao
 oh:Aw
 ao:Aw
 ax:Aw
 aa:Aw
 aj:Aw
 ag:Aw
 af:Aw
 aal:Tok
 aac:Tok
 aq:Aw
structure Kg(K:Af)(w:Au)(mg:Ae)(x:Str)(a:Aw)(l:List (Str×Int)):Prop where
 m:mg x=some (.ref a)
 d:KD K w a l
structure Kt(K:Af)(mg:Ae)(x:Str)(a:Aw)(l:Ai):Prop where
 m:mg x=some (.ref a)
 d:∀H,SqT K H a (l.map V.str)
structure Df(K:Af)(mg:Ae)(x:Str)(st:Ay)(ps:Ai)(f:Aw)(fd:Ao):Prop where
 F:Fun K x x st f fd
 m:mg x=some (.ref f)
 b:Binds K fd ps []
def Zl {X:Cx}  {st:Ay} {ps:Ai}  {fd:Ao} {k:Nat} {sp:Sp} {pos:Pos}  {es:An} {t:TA} (d:Df X.K X.mg x st ps f fd) (F:Y6 X.prog X.w X.K X.mg X.base CX0 k f fd ps sp) (I:Wu n X.A) (ha:QA X (e::es) t) (G:k<=n:=by decide) (C:Gl X x:=by exact rfl) (q:(x == ("__debug__" : Str))=false:=by decide) (D:(e::es).all ZV=true:=by rfl):QE X (.Call (.Name x p) (e::es) [] pos) (Zd8 sp [] E0 t):=zZ F (I.mono G) C d.m d.F.kp d.b .nil Zh7 ha q D
set_option genInjectivity false in
set_option genSizeOfSpec false in
structure Txt(K:Af)(w:Au)(mg:Ae)(t:Adr):Prop where
 aj:Kg K w mg "SUM_PARTS" t.aj [("not",1),("neg",1),("twice",1),("low",1),("and",2),("or",2),("odd",2),("add",2),("sub",2),("pick",3)]
 ag:Kg K w mg "SUMS_IN_CLAIM" t.ag [("same",2),("under",2),("beneath",2),("sign",1),("nought",1)]
 af:Kg K w mg "CLAIMS_IN_CLAIM" t.af [("both",2),("either",2),("so",2),("never",1),("yes",0)]
 aam:mg "LETTERS" = some (.str "abcdefghijklmnopqrstuvwxyz" t.aal)
 aad:mg "LONGEST_NAME" = some (.int 8 t.aac)
 aq:Kt K mg "REMEMBERING" t.aq ["neg","twice","low","add","sub","same","under","beneath","nought"]
 rk:Df K mg "words_at" zA ["width"] t.oi t.oj
 ni:Df K mg "number_of" qD ["bits"] t.ma t.me
 et:Df K mg "state_number" Jb ["state","states","numbers"] t.du t.dw
 dc:Df K mg "numbered" Ga ["marks"] t.om t.oq
 ba:Df K mg "classes_of" WA ["states","classes"] t.ir t.iu
 nj:Df K mg "firsts_of" qE ["classes"] t.mf t.mh
 ie:Df K mg "is_sum_word" J4 ["text"] t.fg t.fh
 dh:Df K mg "is_claim_word" WC ["text"] t.cg t.cj
 ig:Df K mg "sums_behind" J5 ["word"] t.fi t.fj
 di:Df K mg "claims_behind" WD ["word"] t.ck t.cm
 lj:Df K mg "is_made_of" WE ["text","signs"] t.iw t.ix
 bh:Df K mg "remembers" qF ["word"] t.mi t.mj
 dj:Df K mg "borrowed" zB ["one","other","held"] t.ou t.ow
 ij:Df K mg "out_at_once" J6 ["word","parts"] t.fk t.fq
 bx:Df K mg "longest_number" Xf ["words"] t.bj t.bp
 bb:Df K mg "bits_at" qG ["columns","letter"] t.si t.sj
 lq:Df K mg "turned" jv ["truths"] t.vl t.vr
 rn:Df K mg "all_next" zC ["states","steps"] t.ox t.oy
 ik:Df K mg "ring_length" J7 ["ring"] t.ft t.fu
 ay:Df K mg "_law_number" Gy ["script","k"] t.iy t.ka
 ro:Df K mg "_law_name" zD ["number"] t.oz t.pa
 av:Df K mg "_law_parts" qH ["word"] t.mm t.mn
 nq:Df K mg "_law_named" Jj ["words"] t.mq t.mr
 lu:Df K mg "_law_of_one" Gz ["word","one","full"] t.kd t.lb
 lx:Df K mg "_law_of_two" G1 ["word","one","other","full"] t.lg t.lh
 il:Df K mg "_law_choices" J8 ["names","full"] t.fw t.fy
 dk:Df K mg "_law_form" Gb ["told"] t.pb t.pe
 ly:Df K mg "_law_at" wG ["told","width"] t.wh t.aaa
 dm:Df K mg "alike_classes" Xw ["steps","out"] t.cq t.cu
 rp:Df K mg "parts_of" zE ["word"] t.ph t.pj
 tu:Df K mg "is_name" yA ["text"] t.sr t.su
 eu:Df K mg "name_columns" XG ["names","letters"] t.dy t.dz
 nu:Df K mg "kept_then" qI ["word","parts","held"] t.mw t.my
 ip:Df K mg "out_by_kept" J9 ["word","parts","held","then"] t.gb t.gi
 rq:Df K mg "shortest" zF ["tail","ring"] t.pk t.pw
 nv:Df K mg "_law_names" qJ ["script","start","many"] t.mz t.nc
 bz:Df K mg "_law_claim_word" Wl ["number","room","left"] t.bq t.br
 fe:Df K mg "_law_sum_word" Jc ["number","room","left","names","top"] t.ee t.eh
 rr:Df K mg "_law_told" zG ["words","full","values"] t.qs t.rb
 iq:Df K mg "parts_taken" We ["stack","word"] t.gj t.ia
 rz:Df K mg "names_of" Gd ["words"] t.rd t.rf
 ny:Df K mg "_law_words" qK ["script","start","names","most","left","top","claim"] t.ng t.nh
 bc:Df K mg "stepped" yB ["words","columns","place","kept"] t.sy t.ti
 ai:Df K mg "machine_found" Xx ["names","begin","step_of"] t.cx t.cy
 aae:Df K mg "least" qL ["machine"] t.aab t.og
 bg:Df K mg "machine_telling" ZY ["words","names","told"] t.bf t.aw
 dn:Df K mg "claim_machine" WG ["claim","names"] t.cz t.da
 cb:Df K mg "least_of_claim" Wn ["claim"] t.bu t.bw
 az:Df K mg "widths_with" Xj ["claim","wanted"] t.ib t.ic
 ff:Df K mg "for_all" yC ["claim"] t.tj t.tq
 dq:Df K mg "for_some" zH ["claim"] t.rh t.rj
 aaq:Df K mg "law" Zfa ["script"] t.aag t.aah
 aan:t.og.code=.ref t.oh
 vb:t.aw.code=.ref t.ax
 lz:t.ao≠t.aa
 aar:mg "all" = none
 aas:mg "any" = none
 aao:mg "bool" = none
 aap:mg "dict" = none
 nz:mg "enumerate" = none
 dt:mg "int" = none
 ak:mg "isinstance" = none
 ae:mg "len" = none
 aaf:mg "list" = none
 sf:mg "max" = none
 aai:mg "min" = none
 au:mg "range" = none
 sh:mg "reversed" = none
 aaj:mg "set" = none
 cf:mg "sorted" = none
 aak:mg "str" = none
 ah:mg "tuple" = none
 aat:mg "zip" = none
set_option genInjectivity false in
set_option genSizeOfSpec false in
structure Tbs(mg:Ae)(base:Heap)(t:Adr):Prop where
 oh:PySem.W.CodeHd base t.oh t.ao
 ax:PySem.W.CodeHd base t.ax t.aa
 B:jk mg base
def Wh:Zv ["width","many","bit_number"] ["width"] (Zh zA):={}
def XA:Zv ["bits","number","bit"] ["bits"] (Zh qD):={}
def xp:Zv ["state","states","numbers"] ["state","states","numbers"] (Zh Jb):={}
def xq:Zv ["marks","numbers"] ["marks"] (Zh Ga):={}
def jK:Zv ["states","classes"] ["states","classes"] (Zh WA):={}
def XB:Zv ["classes","firsts","state","number"] ["classes"] (Zh qE):={}
def xM:Zv ["text"] ["text"] (Zh J4):={}
def G9:Zv ["text"] ["text"] (Zh WC):={}
def xN:Zv ["word"] ["word"] (Zh J5):={}
def GA:Zv ["word"] ["word"] (Zh WD):={}
def jL:Zv ["text","signs"] ["text","signs"] (Zh WE):={}
def vd:Zv ["word"] ["word"] (Zh qF):={}
def kr:Zv ["one","other","held"] ["one","other","held"] (Zh zB):={}
def xO:Zv ["word","parts"] ["word","parts"] (Zh J6):={}
def Gh:Zv ["words"] ["words"] (Zh Xf):={}
def uB:Zv ["columns","letter"] ["columns","letter"] (Zh qG):={}
def Zdr:Zv ["truths"] ["truths"] (Zh jv):={}
def Wi:Zv ["states","steps","reached","state","led_to"] ["states","steps"] (Zh zC):={}
def XI:Zv ["ring","length"] ["ring"] (Zh J7):={}
def ZU:Zv ["script","k","cells","size","cell","turn","step","seed"] ["script","k"] (Zh Gy):={}
def YW:Zv ["number","letters","some","name","k"] ["number"] (Zh zD):={}
def ve:Zv ["word"] ["word"] (Zh qH):={}
def WJ:Zv ["words","kept"] ["words"] (Zh Jj):={}
def jM:Zv ["word","one","full"] ["word","one","full"] (Zh Gz):={}
def jN:Zv ["word","one","other","full"] ["word","one","other","full"] (Zh G1):={}
def ZW:Zv ["names","full","found","name","longer","values","word","more"] ["names","full"] (Zh J8):={}
def Xy:Zv ["told","row","tail","ring","size"] ["told"] (Zh Gb):={}
def xr:Zv ["told","width","tail","ring"] ["told","width"] (Zh wG):={}
def Yq:Zv ["steps","out","classes","many"] ["steps","out"] (Zh Xw):={}
def ku:Zv ["word"] ["word"] (Zh zE):={}
def uC:Zv ["text"] ["text"] (Zh yA):={}
def YL:Zv ["names","letters","columns","place","name"] ["names","letters"] (Zh XG):={}
def G3:Zv ["word","parts","held","one"] ["word","parts","held"] (Zh qI):={}
def xP:Zv ["word","parts","held","then"] ["word","parts","held","then"] (Zh J9):={}
def Xz:Zv ["tail","ring","length","kept","begin"] ["tail","ring"] (Zh zF):={}
def WK:Zv ["script","start","many","found","k"] ["script","start","many"] (Zh qJ):={}
def Z8:Zv ["number","room","left","some","word","judged"] ["number","room","left"] (Zh Wl):={}
def Y0:Zv ["number","room","left","names","top","some","word","hard"] ["number","room","left","names","top"] (Zh Jc):={}
def YX:Zv ["words","full","values","pile","word","one","other"] ["words","full","values"] (Zh zG):={}
def xQ:Zv ["stack","word"] ["stack","word"] (Zh We):={}
def kx:Zv ["words"] ["words"] (Zh Gd):={}
def Y1:Zv ["script","start","names","most","left","top","claim","words","parts","room","number","word"] ["script","start","names","most","left","top","claim"] (Zh qK):={}
def Xl:Zv ["words","columns","place","kept","stack","later","word","parts","held"] ["words","columns","place","kept"] (Zh yB):={}
def Yd:Zv ["names","begin","step_of","states","numbers","steps","out","told"] ["names","begin","step_of"] (Zh Xx):={}
def XC:Zv ["machine","found","steps","out","classes","firsts","least_steps","least_out"] ["machine"] (Zh qL):={}
def ZO:Zv ["words","names","told","letters","columns","last_place","step_of","begin"] ["words","names","told"] (Zh ZY):={}
def GB:Zv ["claim","names"] ["claim","names"] (Zh WG):={}
def Gi:Zv ["claim"] ["claim"] (Zh Wn):={}
def ZX:Zv ["claim","wanted","machine","steps","telling","states","places","truths"] ["claim","wanted"] (Zh Xj):={}
def zS:Zv ["claim","told"] ["claim"] (Zh yC):={}
def kz:Zv ["claim"] ["claim"] (Zh zH):={}
def WL:Zv ["script","first","names","left","words","alls","somes","width","full","truths"] ["script"] (Zh Zfa):={}
def WY:Zjh (Zh YH) ["state"] ["step","place","reached"] ["words","columns","last_place","letters","told"]:=⟨by rfl,by rfl,by rfl,by decide +kernel,by decide +kernel,by decide +kernel,by decide +kernel⟩
section
variable (P:Aq){w:Au}{K:Af}{mg:Ae}(base:Heap){t:Adr}
variable (T:Txt K w mg t)(TB:Tbs mg base t)
include T TB
def k4(K:Af):Sp:=fun vs H Q _=>∃w:Nat,vs=[.int w]/\w<=1000/\Q (.int (2^w)) H
theorem k6:Y6 P w K mg base CX0 1 t.oi t.oj ["width"] (k4 K):=by
 refine T.rk.F.ok Wh (fun vs H Q E h=>?_) (fun q A outer s H vs Q E C h=>?_)
 ·obtain⟨_,rfl,_⟩:=h;rfl
 ·obtain⟨w,rfl,hw,k⟩:=h;have I:=ZL C;refine⟨_,@QSs.out _ _ _ (Zb (Zz 1 Wh.nd Zf)
    (Zb (Xb Qbq rfl (XM rfl T.au (Zi (qv 0) Zd)) (Xp 2 Wh.nd)
    (Ze (Zz 1 Wh.nd (Zp Xe (qv 1) Zf))))
    (Ze (Zo (qv 1))))),?_⟩
  refine L2.let3 ?_;intro G D;refine⟨_,rfl,(w:Int),rfl,by lia,by lia,XJ (fun i σ H2=>∃v,σ=[some (.int w),some (.int (2^i)),v]/\H2=H) ⟨none,rfl,rfl⟩ ?_ ?_⟩
  ·rintro i σ H2 hi ⟨v,rfl,rfl⟩;refine⟨_,rfl,_,_,rfl,rfl,.inr (.inr ⟨by decide,by decide⟩),some (.int (0+(i:Int))),?_,rfl⟩;rfl
  ·rintro σ H2 ⟨v,rfl,rfl⟩;refine⟨_,rfl,?_⟩;exact k
omit T TB in
theorem Zga{x:V}(h:(D.map V.int)[i]?=some x):∃b,x=V.int b/\D[i]?=some b:=by grind
def vf(K:Af):Sp:=fun vs H Q _=>∃(p:Aw) (ns:Ak),vs=[.ref p]/\SqT K H p (ns.map V.int)/\Q (.int (hor ns.reverse)) H
theorem vg:Y6 P w K mg base CX0 1 t.ma t.me ["bits"] (vf K):=by
 refine T.ni.F.ok XA (fun vs H Q E h=>?_) (fun D A outer s H vs Q E G h=>?_)
 ·obtain⟨_,_,rfl,_⟩:=h;rfl
 ·obtain⟨p,ns,rfl,q,k⟩:=h;have M:=ZL G;refine⟨_,@QSs.out _ _ _ (Zb (Zz 1 XA.nd Zf)
    (Zb (Xb Qbq rfl (Za2 rfl T.sh (qv 0)) (Xp 2 XA.nd)
    (Ze (Zz 1 XA.nd (Zp YB (Zp Xe (qv 1) Zf) (qv 2)))))
    (Ze (Zo (qv 1))))),?_⟩
  refine L2.let3 ?_;intro L J;refine⟨_,rfl,p,_,rfl,q,Za3 (K:=K) (a:=p) (xs:=ns.map V.int) (fun i σ H2=>∃v,σ=[some (.ref p),some (.int (hor (ns.reverse.take i))),v]/\H2=H) ⟨none,rfl,rfl⟩ (fun i σ H2 _ ⟨_,_,e⟩=>by rw[e];exact q) ?_ ?_⟩
  ·rintro i x σ H2 C ⟨v,rfl,rfl⟩;rw[<-List.map_reverse]at C;obtain⟨b,rfl,I⟩:=Zga C;refine⟨_,rfl,_,_,rfl,rfl,.inr (.inr ⟨by decide,by decide⟩),_,rfl,_,_,rfl,rfl,some (.int b),?_,rfl⟩;rw[Zfj I];rfl
  ·rintro σ H2 ⟨v,rfl,rfl⟩;refine⟨_,rfl,?_⟩;rw[Qcz (by grind)];exact k
def xt(K:Af):Sp:=fun vs H Q _=>∃(κ:Type) (F:DecidableEq κ) (sk:SK κ) (v:V) (st C:Aw) (k:κ) (l:List κ) (D:A2),vs=[v,.ref st,.ref C]/\H st=some (.lst D)/\D.length=l.length/\sk.dic H C l/\sk.at_ H k v/\l.Nodup/\l.length<10000000 /\
 ∀H' q,H' st=some (.lst q)->((k∈l/\q=D)\/(k∉l/\q=D++[v]))->sk.dic H' C (Y5 l k)->(∀b o,H b=some o->b≠st->b≠C->H' b=some o)->(∀b,H b=none->H' b=none)->Q (.int ((Y5 l k).idxOf k:Int)) H'
theorem xu:Y6 P w K mg base CX0 1 t.du t.dw ["state","states","numbers"] (xt K):=by
 refine T.et.F.ok xp (fun vs H Q E h=>?_) (fun cdv A outer s H vs Q E hr h=>?_)
 ·obtain⟨_,_,_,_,_,_,_,_,_,rfl,_⟩:=h;rfl
 ·obtain⟨κ,_,sk,v,st,D,k0,l,L,rfl,C,hal,n,I,M,hl,k⟩:=h;have hu:=ZL hr;refine⟨_,@QSs.out _ _ _ (Zb (ZE (Zq (OpR.or (Zbt (y6 hr)) (Jx hu)) (qv 0) (qv 2) (by with_unfolding_all rfl))
    (Zb (QS.or (Zjf (y6 hr) (qv 2) (qv 0) (Zn Zr (by rfl) T.ae Yb (Zi (qv 1) Zd)) rfl) (JP hu (qv 2) (qv 0) (Zn Zr (by rfl) T.ae Yb (Zi (qv 1) Zd)) rfl))
    (Ze (Yn (YE Qau Qa5 Qa6 ZF (qv 1) (Zi (qv 0) Zd))))) Zw)
    (Ze (Zo (QE.or (Zje (y6 hr) (qv 2) (qv 0) (fun _ _=>rfl)) (qw hu (qv 2) (qv 0) (fun _ _=>rfl)))))),?_⟩
  try dsimp only[L2.cxK,L2.cxK2]
  refine L2.let2 ?_;intro U1;have O:st≠D:=fun z=>by
   obtain⟨o,e,_,h⟩:=SK.ne n;rw[<-z,C]at e;cases e;exact h _ rfl
  cases sk with
  |int f inj=>
   have n:H D=some (.dK (nk (l.map f))):=n;have I:v=.int (f k0):=I;subst I;have G:f k0∈l.map f↔k0∈l:=⟨fun z=>let⟨a,ha,e⟩:=Qav.mp z;inj _ _ e ▸ ha,fun z=>Qb6 z⟩;have Y:(l.map f).Nodup:=by
    unfold List.Nodup;rw[Qe6];exact List.Pairwise.imp (fun hne e=>hne (inj _ _ e)) M
   have ei:=Zbq f k0 (Y5 l k0) fun a _ e=>inj _ _ e;have em:=wD f l k0 fun a _ e=>inj _ _ e;refine⟨_,rfl,_,rfl,.inr ⟨D,Yj (nk (l.map f)) (.inl (f k0)),rfl,.inl ⟨nk (l.map f),.inl (f k0),.inl n,rfl,rfl⟩,_,rfl,?_⟩⟩
   by_cases hs:k0∈l
   ·have e1:Y5 l k0=l:=Qa3 hs;rw[e1]at k ei;rw[Zch (G.mpr hs) Y];refine ZD (.inr ⟨_,rfl,_,rfl,D,_,rfl,.inl ⟨nk (l.map f),.inl (f k0),.inl n,rfl,(Zch (G.mpr hs) Y).symm⟩,?_⟩);rw[ei];exact k H L C (.inl ⟨hs,rfl⟩) n (fun _ _ e _ _=>e) fun _ e=>e
   ·have e1:Y5 l k0=l++[k0]:=Qax hs;have hs':f k0∉l.map f:=fun z=>hs (G.mp z);rw[e1]at k ei em;rw[Zjw hs'];have Z:((l++[k0]).map f).Nodup:=by
     rw[<-em];exact XS Y _
    refine Y3 (.inr ⟨_,rfl,st,_,rfl,.inl (SqL.of C),_,rfl,_,rfl,D,_,rfl,uM.k (k:=.inl (f k0)) n (by rw[nk_len,Qab];exact Yu (by lia)),?_⟩);rw[hal,show(l.length:Int)=((l.map f).length:Int) by rw[Qab],nk_put hs'];have e2:l.map f++[f k0]=(l++[k0]).map f:=by rw[Qay];rfl
    rw[e2];have q:upd H D (.dK (nk ((l++[k0]).map f))) st=some (.lst L):=by rw[Zk O];exact C
    refine⟨_,rfl,.inl ⟨rfl,_,SqL.of q⟩,_,rfl,st,_,_,rfl,rfl,q,Yu (by lia),?_⟩;have J:upd (upd H D (.dK (nk ((l++[k0]).map f)))) st (.lst (L++[.int (f k0)])) D=some (.dK (nk ((l++[k0]).map f))):=by rw[Zk O.symm];exact Za
    refine .inr ⟨_,rfl,_,rfl,D,_,rfl,.inl ⟨_,.inl (f k0),.inl J,rfl,(Zch (Qb6 (by simp)) Z).symm⟩,?_⟩;rw[ei];refine k _ (L++[.int (f k0)]) Za (.inr ⟨hs,rfl⟩) J (fun b o e h1 h2=>?_) fun b e=>?_
    ·rw[Zk h1,Zk h2];exact e
    ·rw[Zk (fun z=>by rw[z,C]at e;cases e),Zk (fun z=>by rw[z,n]at e;cases e)];exact e
  |key kn=>
   have n:JM kn H D (Xv l):=n;obtain⟨a,rfl,I⟩:=I;refine⟨_,rfl,_,rfl,.inl ⟨κ,_,kn,D,a,k0,_,rfl,rfl,n,I,_,rfl,?_⟩⟩
   by_cases G:k0∈l
   ·have e1:Y5 l k0=l:=Qa3 G;have hv:=W9 l k0 G M;rw[e1]at k;rw[hv];exact ZD (.inl ⟨_,rfl,_,rfl,κ,_,kn,D,a,k0,_,_,rfl,rfl,n,I,hv,k H L C (.inl ⟨G,rfl⟩) n (fun _ _ e _ _=>e) fun _ e=>e⟩)
   ·have e1:Y5 l k0=l++[k0]:=Qax G;have hv:=JY l k0 G;have Z:(l++[k0]).Nodup:=e1 ▸ XS M k0;rw[e1]at k;rw[hv];refine Y3 (.inl ⟨_,rfl,st,_,rfl,.inl (SqL.of C),_,rfl,_,rfl,κ,_,kn,D,a,k0,_,rfl,rfl,n,I,hv,?_,fun H2 n2 o2 hx=>?_⟩)
    ·rw[W8];exact Yu (by lia)
    rw[hal]at n2;rw[<-JX]at n2;have q:=o2 _ _ C O;refine⟨_,rfl,.inl ⟨rfl,_,SqL.of q⟩,_,rfl,st,_,_,rfl,rfl,q,Yu (by lia),?_⟩;have n3:JM kn (upd H2 st (.lst (L++[.ref a]))) D (Xv (l++[k0])):=SK.off (sk:=.key kn) n2 q;have hk2:kn.at_ H2 k0 a:=kn.keep _ _ _ _ (fun b xs e=>o2 b _ e fun z=>by
     obtain⟨o,e3,h3,_⟩:=Zcj n;rw[z,e3]at e;cases e;exact h3 _ rfl) I
    have hk3:kn.at_ (upd H2 st (.lst (L++[.ref a]))) k0 a:=kn.keep _ _ _ _ (fun b xs e=>by rw[Zk (Xm e q fun z=>nomatch z)];exact e) hk2;refine .inl ⟨_,rfl,_,rfl,κ,_,kn,D,a,k0,_,_,rfl,rfl,n3,hk3,W9 _ _ (by simp) Z,k _ (L++[.ref a]) Za (.inr ⟨G,rfl⟩) n3 (fun b o e h1 h2=>?_) fun b e=>?_⟩
    ·rw[Zk h1];exact o2 b o e h2
    ·obtain⟨oo,rfl⟩:=hx;rw[Zk (fun z=>by rw[z,C]at e;cases e),Zk (fun z=>by
      obtain⟨o,e3,_⟩:=Zcj n;rw[z,e3]at e;cases e)]
     exact e
def k7(K:Af):Sp:=fun vs H Q _=>∃(Kk:Type) (q:DecidableEq Kk) (kn:KN Kk) (a:Aw) (as:List Aw) (ks:List Kk),vs=[.ref a]/\(H a=some (.lst (as.map V.ref))\/H a=some (.tup (as.map V.ref)))/\as.length=ks.length/\(∀(i:Nat) (b:Aw) (k:Kk),as[i]?=some b->ks[i]?=some k->kn.at_ H k b)/\ks.length<=1000000 /\
 ∀p H',H p=none->H' p=some (.lst ((ks.map fun k=>((Z1 ks).idxOf k:Int)).map V.int))->Z9 H H'->Q (.ref p) H'
theorem k9:Y6 P w K mg base CX0 1 t.om t.oq ["marks"] (k7 K):=by
 refine T.dc.F.ok xq (fun vs H Q E h=>?_) (fun cdv A outer s H vs Q E hr h=>?_)
 ·obtain⟨_,_,_,_,_,_,rfl,_⟩:=h;rfl
 ·obtain⟨Kk,_,kn,a,as,ks,rfl,ha,hl,Y,hz,k⟩:=h;have hu:=ZL hr;refine⟨_,@QSs.out _ _ _ (Zb (Zz 1 xq.nd qx)
    (Ze (Zo (Y4 ({}:ZQ (Zh Ga) _ ["marks","numbers"] "mark" ["numbers"] [1]) (show QI _ _ _ (Zlz K _)from Zjc (qv 0)) (fun _ _ _ _=>Xh) (fun _ _ _ _=>(Zi9 (y6 hr) (qv 1) (Zi (qv 0) (Zi (Zn Zbo (by rfl) T.ae Yb (Zi (qv 1) Zd)) Zd)))))))),?_⟩
  refine L2.let2 ?_;intro U1;refine fun d hd=>?_;have J:=Zc (o:=.dK []) hd;refine Zg ?_;have n0:JM kn (upd H d (.dK [])) d (Xv (Z1 (ks.take 0))):=⟨Qck,(show 0<sizeLine by decide),.inl ⟨rfl,Za⟩⟩;have step:∀(i:Nat) (b:Aw) (q:Kk) (H1:Hp) (R:VK),as[i]?=some b->ks[i]?=some q->JM kn H1 d (Xv (Z1 (ks.take i)))->(∀b o,H b=some o->H1 b=some o)->(∀H2,JM kn H2 d (Xv (Z1 (ks.take (i+1))))->(∀b o,H b=some o->H2 b=some o)->R (V.int ((Z1 ks).idxOf q:Int)) H2)->tBMN (jX 1) (JN (jX 0) (JN (tCB Zlx (JN (jX 1) Zh0)) Zh0)) (xA [1] [some (.ref a),some (.ref d)] (some (.ref b))) H1 R:=by
   intro i b q H1 R D C M o1 hR;have e1:Z1 (ks.take (i+1))=Y5 (Z1 (ks.take i)) q:=by rw[take_snoc C,z6]
   obtain⟨r,er⟩:=z7 ks (i+1);have at1:kn.at_ H1 q b:=kn.keep _ _ _ _ (fun b xs e=>o1 b _ e) (Y i b q D C);refine⟨_,rfl,⟨Kk,_,kn,d,_,rfl,M⟩,_,rfl,_,rfl,Kk,_,kn,d,_,rfl,M,Kk,_,kn,d,b,q,_,_,rfl,rfl,M,at1,?_,fun y L=>?_,fun hn H' n' o' _=>?_⟩
   ·rw[W8];exact Yu (by have:=wB (ks.take i);rw[Qa2]at this;lia)
   ·by_cases G:q∈Z1 (ks.take i)
    ·rw[W9 _ _ G (Xu _)]at L;cases L;have e2:Z1 (ks.take (i+1))=Z1 (ks.take i):=by rw[e1];exact Qa3 G
     have:=hR H1 (by rw[e2];exact M) o1;rw[er,e2,JV G]at this;exact this
    ·rw[JY _ _ G]at L;cases L
   ·have G:q∉Z1 (ks.take i):=fun z=>by
     rw[W9 _ _ z (Xu _)]at hn;cases hn
    have e2:Z1 (ks.take (i+1))=Z1 (ks.take i)++[q]:=by rw[e1];exact Qax G
    have:=hR H' (by rw[e2,JX];rw[W8]at n';exact n') (fun c o e=>o' c o (o1 c o e) (Zm e hd));rw[er,e2,JV (by simp),List.idxOf_append,Qax G,List.idxOf_cons_self,Qfg]at this;rw[W8];exact this
  have fin:∀(zs:A2) (H1:Hp),zs=(ks.take as.length).map (fun k=>V.int ((Z1 ks).idxOf k:Int))->(∀b o,H b=some o->H1 b=some o)->∀p,H1 p=none->Q (.ref p) (upd H1 p (.lst zs)):=by
   intro zs H1 ez o1 p hp;have s2:Z9 H H1:=o1;refine k p _ (s2.free hp) ?_ (s2.trans (Zc hp));rw[Za,ez,hl,Qb7,Qaw];rfl
  have zl:∀i,((ks.take i).map (fun k=>V.int ((Z1 ks).idxOf k:Int))).length<=sizeLine:=fun i=>by
   rw[Qab,Qa2];exact Qa0 (Yu (by lia))
  have item:∀(i:Nat) (x:V),(as.map V.ref)[i]?=some x->∃b q,x=.ref b/\as[i]?=some b/\ks[i]?=some q:=fun i x I=>by
   rw[Qah]at I;obtain⟨b,D,rfl⟩:=Qa4.mp I;have hi:=(Qag.mp D).1;exact⟨b,ks[i]'(by lia),rfl,D,Qac (by lia)⟩
  rcases ha with ha|ha
  ·refine⟨a,rfl,.inl ⟨⟨_,SqL.of (J _ _ ha)⟩,Xs (K:=K) (a:=a) (xs:=as.map V.ref) (fun i zs H'=>zs=(ks.take i).map (fun k=>V.int ((Z1 ks).idxOf k:Int))/\JM kn H' d (Xv (Z1 (ks.take i)))/\∀b o,H b=some o->H' b=some o) ⟨rfl,n0,J⟩ (fun i zs H' h=>by rw[h.1];exact zl i) (fun i zs H' h=>SqL.of (h.2.2 _ _ ha)) (fun i x zs H1 R hR I h=>?_) (fun zs H1 h=>?_)⟩⟩
   ·obtain⟨b,q,rfl,D,C⟩:=item i x I;refine step i b q H1 _ D C h.2.1 h.2.2 fun H2 O Z=>hR _ _ ⟨?_,O,Z⟩;rw[h.1,take_snoc C,Qay]
    rfl
   ·rw[Qab]at h;exact fin zs H1 h.1 h.2.2
  ·refine⟨a,rfl,.inr ⟨⟨_,SqT.of (J _ _ ha)⟩,X3 (K:=K) (a:=a) (xs:=as.map V.ref) (fun i zs H'=>zs=(ks.take i).map (fun k=>V.int ((Z1 ks).idxOf k:Int))/\JM kn H' d (Xv (Z1 (ks.take i)))/\∀b o,H b=some o->H' b=some o) ⟨rfl,n0,J⟩ (fun i zs H' h=>by rw[h.1];exact zl i) (fun i zs H' h=>SqT.of (h.2.2 _ _ ha)) (fun i x zs H1 R hR I h=>?_) (fun zs H1 h=>?_)⟩⟩
   ·obtain⟨b,q,rfl,D,C⟩:=item i x I;refine step i b q H1 _ D C h.2.1 h.2.2 fun H2 O Z=>hR _ _ ⟨?_,O,Z⟩;rw[h.1,take_snoc C,Qay]
    rfl
   ·rw[Qab]at h;exact fin zs H1 h.1 h.2.2
def jO(K:Af):Sp:=fun vs H Q _=>∃(a b:Aw) (q:Aj) (cs:Ak),vs=[.ref a,.ref b]/\H a=some (.tup (q.map fun s:Nat=>V.int (s:Int)))/\H b=some (.lst (cs.map V.int))/\(∀s∈q,s<cs.length)/\q.length<=1000000/\cs.length<=1000000 /\
 ∀p H',H p=none->H' p=some (.tup ((q.map fun s=>cs.getD s 0).map V.int))->Z9 H H'->Q (.ref p) H'
theorem JJ:Y6 P w K mg base CX0 1 t.ir t.iu ["states","classes"] (jO K):=by
 refine T.ba.F.ok jK (fun vs H Q E h=>?_) (fun Y A outer s H vs Q E M h=>?_)
 ·obtain⟨_,_,_,_,rfl,_⟩:=h;rfl
 ·obtain⟨a,b,J,cs,rfl,ha,O,hs,hl,Z,k⟩:=h;have hu:=ZL M;refine⟨_,@QSs.out _ _ _ (Ze (Zo (Z4 Z0 (by rfl) T.ah ZR (Zi (Y4 ({}:ZQ (Zh WA) _ ["states","classes"] "state" ["classes"] [1]) (Xr (qv 0)) (fun _ _ _ _=>Xh) (fun _ _ _ _=>(Z3 (show IxR _ (Zmm K)from Zy) (qv 1) (qv 0)))) Zd)))),?_⟩;try dsimp only[L2.cxK,L2.cxK2]
  refine⟨_,rfl,a,rfl,⟨_,SqT.of ha⟩,qu (xs:=J.map fun s:Nat=>V.int (s:Int)) (fI fun z=>V.int (cs.getD z.toNat 0)) (SqT.of ha) (by rw[Qab];exact Qa0 (Yu (by lia))) (fun v L R hR=>?_) (fun l C=>?_)⟩
  ·obtain⟨s,D,rfl⟩:=Qav.mp L;have q:=hs s D;exact⟨_,rfl,_,rfl,b,_,_,_,rfl,rfl,SqL.of O,YC (by rw[Qah,Qac q];rfl),by
    have e:fI (fun z=>V.int (cs.getD z.toNat 0)) (V.int (s:Int))=V.int cs[s]:=by
     show V.int (cs.getD (s:Int).toNat 0)=_;rw[Qbp,Qaf,Qac q];rfl
    rw[e]at hR;exact hR⟩
  ·refine⟨l,_,rfl,.inl ⟨SqL.of Za,fun p G=>?_⟩⟩;have I:=(Zc (o:=.lst ((J.map fun s:Nat=>V.int (s:Int)).map (fI fun z=>V.int (cs.getD z.toNat 0)))) C);refine k p _ (I.free G) ?_ (I.trans (Zc G));rw[Za,Qaw,Qaw];rfl
def vh(K:Af):Sp:=fun vs H Q _=>∃(a:Aw) (cs:Ak),vs=[.ref a]/\H a=some (.lst (cs.map V.int))/\cs.length<=1000000 /\
 ∀p H',H p=none->H' p=some (.lst ((xk cs 0 []).map fun i:Nat=>V.int (i:Int)))->Z9 H H'->Q (.ref p) H'
theorem vi:Y6 P w K mg base CX0 1 t.mf t.mh ["classes"] (vh K):=by
 refine T.nj.F.ok XB (fun vs H Q E h=>?_) (fun cdv A outer s H vs Q E hr h=>?_)
 ·obtain⟨_,_,rfl,_⟩:=h;rfl
 ·obtain⟨a,cs,rfl,ha,hl,k⟩:=h;have hu:=ZL hr;refine⟨_,@QSs.out _ _ _ (Zb (Zz 1 XB.nd (ZN Zd))
    (Zb (Xb Qbq rfl (Zer rfl T.nz (qv 0)) (jf rfl (Xp 2 XB.nd) (Xp 3 XB.nd))
    (Ze (ZE (Zq Yt (qv 3) (Zn Zr (by rfl) T.ae Yb (Zi (qv 1) Zd)) (Zx _))
    (Ze (Yn (YE Qau Qa5 Qa6 ZF (qv 1) (Zi (qv 2) Zd)))) Zw)))
    (Ze (Zo (qv 1))))),?_⟩
  try dsimp only[L2.cxK,L2.cxK2]
  refine L2.let3 ?_;intro U2 U1;refine⟨g9,fun p M=>?_⟩;have s1:=Zc (o:=.lst []) M;refine Zg ?_;refine⟨_,rfl,a,_,rfl,SqL.of (s1 _ _ ha),wo (K:=K) (a:=a) (xs:=cs.map V.int) (fun i σ H'=>∃(acc:Aj) (O Y:Option V),σ=[some (.ref a),some (.ref p),O,Y]/\H' p=some (.lst (acc.map fun i:Nat=>V.int (i:Int)))/\xk cs 0 []=xk (cs.drop i) i acc/\acc.length<=i/\i<=cs.length/\Z9 H H') ⟨[],none,none,rfl,Za,rfl,Qak _,Qbl _,s1⟩ (fun i σ H' _ ⟨_,_,_,_,_,_,_,_,s⟩=>SqL.of (s _ _ ha)) ?_ ?_⟩
  ·rintro i x σ H1 q hx hq ⟨acc,O,Y,rfl,I,L,Z,hi,J⟩;rw[Qah]at hx;obtain⟨c,hc,rfl⟩:=Qa4.mp hx;have G:i<cs.length:=(Qag.mp hc).1;have sq:=Zc (o:=.tup [.int i,.int c]) hq;have C:=sq _ _ I;have D:xk cs 0 []=xk (cs.drop (i+1)) (i+1) (if c=(acc.length:Int)then acc++[i]else acc):=by
    rw[L,Qc2 G,(Qag.mp hc).2];rfl
   refine⟨_,rfl,_,rfl,p,_,rfl,.inl (SqL.of C),rfl,_,rfl,?_⟩;rw[Qab]
   by_cases h:c=(acc.length:Int)
   ·rw[Qa3 h]at D;rw[Qan (by rw[h])];refine Y3 ⟨_,rfl,.inl ⟨rfl,_,SqL.of C⟩,_,rfl,p,_,_,rfl,rfl,C,by rw[Qab];exact Yu (by lia),acc++[i],_,_,rfl,?_,D,by rw[Qaj];show _+1<=_;lia,G,ZS (J.trans sq) M⟩;rw[Za,Qay];rfl
   ·rw[Qax h]at D;rw[Qap (fun z=>h (by injection z))];exact ZD ⟨acc,_,_,rfl,C,D,by lia,G,J.trans sq⟩
  ·rintro σ H1 ⟨acc,O,Y,rfl,I,L,Z,hi,J⟩;rw[Qab,Qen]at L;exact⟨_,rfl,k p H1 M (by rw[I,L];rfl) J⟩
def xR(K:Af):Sp:=fun vs H Q _=>∃(y:Str),vs=[.str y]/\Q (.bl (decide (y∈JA))) H
theorem xS:Y6 P w K mg base CX0 1 t.fg t.fh ["text"] (xR K):=by
 refine T.ie.F.ok xM (fun vs H Q E h=>?_) (fun C A outer s H vs Q E q h=>?_)
 ·obtain⟨_,rfl,_⟩:=h;rfl
 ·obtain⟨y,rfl,k⟩:=h;have D:=ZL q;refine⟨_,@QSs.out _ _ _ (Ze (Zo (Yl vH (qv 0) (XY (v:=.ref t.aj) rfl T.aj.m rfl) (by with_unfolding_all rfl)))),?_⟩;refine⟨_,rfl,t.aj,T1,.inr y,rfl,T.aj.d,rfl,?_⟩;rw[Zgz,tw1];exact k
def GC(K:Af):Sp:=fun vs H Q _=>∃(k:Key),vs=[kV k]/\Q (.bl (clK k)) H
omit T TB in
theorem Zds(l:List (Str×Int))(k:Key):(Yj (kvsOf l) k).isSome=(match k with|.inr y=>decide (y∈l.map (·.1))|.inl _=>false):=by
 cases k with
 |inr y=>exact Zgz l y
 |inl z=>
  induction l with
  |nil=>rfl
  |cons p r q=>
   have e:Yj (kvsOf (p::r)) (.inl z)=Yj (kvsOf r) (.inl z):=Yf (p:=((Sum.inr p.1:Key),V.int p.2)) (fun z=>nomatch z);rw[e,q]
omit T TB in
theorem Zgb(k:Key):clK k=((Yj (kvsOf T2) k).isSome||(Yj (kvsOf T3) k).isSome):=by
 rw[Zds,Zds];cases k with
 |inl z=>rfl
 |inr y=>
  show decide (y∈Z5)=(decide (y∈T2.map (·.1))||decide (y∈T3.map (·.1)));have e:Z5=T2.map (·.1)++T3.map (·.1):=by decide +kernel
  rw[e]
  by_cases h1:y∈T2.map (·.1)
  ·grind
  ·grind
theorem GD:Y6 P w K mg base CX0 1 t.cg t.cj ["text"] (GC K):=by
 refine T.dh.F.ok G9 (fun vs H Q E h=>?_) (fun D A outer s H vs Q E C h=>?_)
 ·obtain⟨_,rfl,_⟩:=h;rfl
 ·obtain⟨q,rfl,k⟩:=h;have G:=ZL C;refine⟨_,@QSs.out _ _ _ (Ze (Zo (Zib (Yl vH (qv 0) (XY (v:=.ref t.ag) rfl T.ag.m rfl) (by with_unfolding_all rfl)) (qr (Yl vH (qv 0) (XY (v:=.ref t.af) rfl T.af.m rfl) (by with_unfolding_all rfl)))))),?_⟩;rw[Zgb]at k;refine⟨_,rfl,t.ag,T2,q,rfl,T.ag.d,rfl,_,rfl,?_⟩;cases h:(Yj (kvsOf T2) q).isSome with
  |true=>
   rw[h]at k;exact Y3 k
  |false=>
   rw[h]at k;exact ZD ⟨_,rfl,t.af,T3,q,rfl,T.af.d,rfl,k⟩
def xT(K:Af):Sp:=fun vs H Q _=>∃(k:Key),vs=[kV k]/\Q (.int (Jk T1 k+Jk T2 k)) H
theorem xU:Y6 P w K mg base CX0 1 t.fi t.fj ["word"] (xT K):=by
 refine T.ig.F.ok xN (fun vs H Q E h=>?_) (fun D A outer s H vs Q E C h=>?_)
 ·obtain⟨_,rfl,_⟩:=h;rfl
 ·obtain⟨q,rfl,k⟩:=h;have G:=ZL C;refine⟨_,@QSs.out _ _ _ (Ze (Zo (Zp YB (vI (XY (v:=.ref t.aj) rfl T.aj.m rfl) (qv 0) Zf) (vI (XY (v:=.ref t.ag) rfl T.ag.m rfl) (qv 0) Zf)))),?_⟩;refine⟨t.aj,T1,rfl,T.aj.d,_,rfl,q,rfl,t.ag,T2,rfl,T.ag.d,_,rfl,q,rfl,?_⟩;rw[kget,kget];exact⟨_,_,rfl,rfl,k⟩
def GF(K:Af):Sp:=fun vs H Q _=>∃(k:Key),vs=[kV k]/\Q (.int (Jk T3 k)) H
theorem GG:Y6 P w K mg base CX0 1 t.ck t.cm ["word"] (GF K):=by
 refine T.di.F.ok GA (fun vs H Q E h=>?_) (fun D A outer s H vs Q E C h=>?_)
 ·obtain⟨_,rfl,_⟩:=h;rfl
 ·obtain⟨q,rfl,k⟩:=h;have G:=ZL C;refine⟨_,@QSs.out _ _ _ (Ze (Zo (vI (XY (v:=.ref t.af) rfl T.af.m rfl) (qv 0) Zf))),?_⟩;try dsimp only[L2.cxK,L2.cxK2]
  refine⟨t.af,T3,rfl,T.af.d,_,rfl,q,rfl,?_⟩;rw[kget];exact k
def jP(K:Af):Sp:=fun vs H Q _=>∃(y q:Str),vs=[.str y,.str q]/\y.length<=100000/\∀H',Z9 H H'->Q (.bl (decide (zI y q))) H'
theorem jQ:Y6 P w K mg base CX0 1 t.iw t.ix ["text","signs"] (jP K):=by
 refine T.lj.F.ok jL (fun vs H Q E h=>?_) (fun M A outer s H vs Q E J h=>?_)
 ·obtain⟨_,_,rfl,_⟩:=h;rfl
 ·obtain⟨y,q,rfl,L,k⟩:=h;have O:=ZL J;refine⟨_,@QSs.out _ _ _ (Ze (Zo (kY (Yl Zd7 (qv 0) Zj (Zx _)) (qr (Zn (Za4 rfl) (by rfl) T.aar bt_all (Zi (Y4 ({}:ZQ (Zh WE) _ ["text","signs"] "sign" ["signs"] [1]) (qi_str (qv 0)) (fun _ _ _ _=>Xh) (fun _ _ _ _=>(Yl Zae (qv 0) (qv 1) (by with_unfolding_all rfl)))) Zd)))))),?_⟩;try dsimp only[L2.cxK,L2.cxK2]
  refine⟨_,rfl,rfl,_,rfl,?_⟩
  by_cases G:y.cps.toList=[]
  ·have e:=qN.mp G;subst e;rw[Qan (rfl:V.str ("" : Str)=V.str ("" : Str))];refine ZD ?_;have e2:decide (zI ("" : Str) q)=false:=Qap fun z=>z.1 (qN.mpr rfl);have:=k H (Z9.refl H);rw[e2]at this;exact this
  have I:¬V.str y=V.str ("" : Str):=fun z=>G (qN.mpr (by injection z));rw[Qap I];refine Y3 ?_;refine⟨_,rfl,y,rfl,Zes (fun c=>.bl (decide (c∈q.cps.toList))) (Qbc (show y.length<=100000 from L) (by decide)) (fun c _ R hR=>?_) (fun l D=>?_)⟩
  ·refine⟨_,rfl,_,rfl,_,_,rfl,rfl,?_⟩;rw[Zjo];exact hR
  have e1:(y.cps.toList.map fun c=>V.bl (decide (c∈q.cps.toList)))=(y.cps.toList.map fun c=>decide (c∈q.cps.toList)).map V.bl:=by rw[Qaw];rfl
  rw[e1];refine⟨l,_,rfl,SqL.of Za,?_⟩;rw[all_bs];have e2:decide (zI y q)=decide (∀c∈y.cps.toList,decide (c∈q.cps.toList)=true):=by
   rw[Qdo,Qd4,Qd4];constructor
   ·intro z c C;exact Qan (z.2 c C)
   ·intro z;exact⟨G,fun c C=>Qbh (z c C)⟩
  rw[<-e2];exact k _ (Zc D)
def vj(K:Af):Sp:=fun vs H Q _=>∃x:V,vs=[x]/\YM x=true/\Q (.bl (inV x (allR.map V.str))) H
theorem G4:Y6 P w K mg base CX0 1 t.mi t.mj ["word"] (vj K):=by
 refine T.bh.F.ok vd (fun vs H Q E h=>?_) (fun D A outer s H vs Q E C h=>?_)
 ·obtain⟨_,rfl,_⟩:=h;rfl
 ·obtain⟨x,rfl,q,k⟩:=h;have G:=ZL C;refine⟨_,@QSs.out _ _ _ (Ze (Zo (Yl Ya (qv 0) (XY (v:=.ref t.aq) rfl T.aq.m rfl) (by with_unfolding_all rfl)))),?_⟩;exact⟨_,rfl,t.aq,_,rfl,.inr (T.aq.d H),q,Zb2 _,k⟩
def kA(K:Af):Sp:=fun vs H Q _=>∃(a b h:Int),vs=[.int a,.int b,.int h]/\Q (.int (Zmb a b h)) H
theorem xw:Y6 P w K mg base CX0 1 t.ou t.ow ["one","other","held"] (kA K):=by
 refine T.dj.F.ok kr (fun vs H Q E h=>?_) (fun C A outer s H vs Q E q h=>?_)
 ·obtain⟨_,_,_,rfl,_⟩:=h;rfl
 ·obtain⟨a,b,h,rfl,k⟩:=h;have D:=ZL q;refine⟨_,@QSs.out _ _ _ (Ze (Zo (Zp x9 (Zp Xg (Jr qg (qv 0)) (qv 1)) (Zp Xg (qv 2) (Jr qg (Zp qe (qv 0) (qv 1))))))),?_⟩;exact⟨_,rfl,_,rfl,_,rfl,_,_,rfl,rfl,_,rfl,_,rfl,_,rfl,_,_,rfl,rfl,_,rfl,_,_,rfl,rfl,_,_,rfl,rfl,k⟩
def xV(K:Af):Sp:=fun vs H Q _=>∃(y:Str) (p:Aw) (is:Ak),vs=[.str y,.ref p]/\H p=some (.lst (is.map V.int))/\y∈Zcb/\is.length=Zb9 y/\∀H',Z9 H H'->Q (.int (oaI y is)) H'
theorem xW:Y6 P w K mg base CX0 1 t.fk t.fq ["word","parts"] (xV K):=by
 refine T.ij.F.ok xO (fun vs H Q E h=>?_) (fun cdv A outer s H vs Q E hr h=>?_)
 ·obtain⟨_,_,_,rfl,_⟩:=h;rfl
 ·obtain⟨y,p,is,rfl,hp,hy,G,k⟩:=h;have hu:=ZL hr;refine⟨_,@QSs.out _ _ _ (Zb (ZE (Zq Yt (qv 0) Zj (Zx _))
    (Ze (Zo (Jr qf Zf))) Zw)
    (Zb (ZE (Zq Yt (qv 0) Zj (Zx _))
    (Ze (Zo (Z3 Zy (qv 1) Zf))) Zw)
    (Zb (ZE (Zq Ya (qv 0) (Yc (Zi Zj (Zi Zj Zd))) (by with_unfolding_all rfl))
    (Ze (Zo (Jr qg (Z3 Zy (qv 1) Zf)))) Zw)
    (Zb (ZE (Zq Ya (qv 0) (Yc (Zi Zj (Zi Zj Zd))) (by with_unfolding_all rfl))
    (Ze (Zo (Zp Xg (Z3 Zy (qv 1) Zf) (Z3 Zy (qv 1) Zf)))) Zw)
    (Zb (ZE (Zq Ya (qv 0) (Yc (Zi Zj (Zi Zj Zd))) (by with_unfolding_all rfl))
    (Ze (Zo (Zp x9 (Z3 Zy (qv 1) Zf) (Z3 Zy (qv 1) Zf)))) Zw)
    (Zb (ZE (Zq Yt (qv 0) Zj (Zx _))
    (Ze (Zo (Zp qe (Z3 Zy (qv 1) Zf) (Z3 Zy (qv 1) Zf)))) Zw)
    (Zb (ZE (Zq Yt (qv 0) Zj (Zx _))
    (Ze (Zo (Zp x9 (Jr qg (Z3 Zy (qv 1) Zf)) (Z3 Zy (qv 1) Zf)))) Zw)
    (Ze (Zo (Zp x9 (Zp Xg (Z3 Zy (qv 1) Zf) (Z3 Zy (qv 1) Zf)) (Zp Xg (Jr qg (Z3 Zy (qv 1) Zf)) (Z3 Zy (qv 1) Zf)))))))))))),?_⟩
  refine L2.let8 ?_;intro U7 U6 U5 U4 U3 U2 U1;unfold oaI at k;refine⟨_,rfl,rfl,_,rfl,?_⟩
  by_cases h1:y = "yes"
  ·rw[Qan (congrArg V.str h1)];rw[Qa3 h1]at k;refine Y3 ?_;exact⟨_,rfl,k H (Z9.refl _)⟩
  rw[Qap (fun z=>h1 (by injection z))];rw[Qax h1]at k;refine ZD ⟨_,rfl,rfl,_,rfl,?_⟩
  by_cases h2:y = "sign"
  ·rw[Qan (congrArg V.str h2)];rw[Qa3 h2]at k;refine Y3 ?_;exact⟨_,rfl,p,_,0,_,rfl,rfl,SqL.of hp,ZA 0 rfl (qV G (by rw[h2];decide +kernel)),k H (Z9.refl _)⟩
  rw[Qap (fun z=>h2 (by injection z))];rw[Qax h2]at k;refine ZD ⟨_,rfl,by decide,fun q hq=>⟨q,_,rfl,.inr (SqT.of Za),rfl,rfl,_,rfl,?_⟩⟩;show if inV (.str y) ((["not","never"]:Ai).map V.str)=true then _ else _;rw[ZC];have I:=Zc (o:=.tup [.str "not",.str "never"]) hq;have pq:=I _ _ hp;generalize upd H q (.tup [.str "not",.str "never"])=H1 at *
  by_cases Z:y = "not" \/ y = "never"
  ·rw[Qan (by grind)];rw[Qa3 Z]at k;refine Y3 ?_;exact⟨_,rfl,p,_,0,_,rfl,rfl,SqL.of pq,ZA 0 rfl (qV G (by rcases Z with h|h<;>rw[h]<;>decide +kernel)),_,rfl,k H1 I⟩
  rw[Qap (by grind)];rw[Qax Z]at k;refine ZD ⟨_,rfl,by decide,fun r hr=>⟨r,_,rfl,.inr (SqT.of Za),rfl,rfl,_,rfl,?_⟩⟩;show if inV (.str y) ((["and","both"]:Ai).map V.str)=true then _ else _;rw[ZC];have M:=Zc (o:=.tup [.str "and",.str "both"]) hr;have pr:=M _ _ pq;generalize upd H1 r (.tup [.str "and",.str "both"])=H2 at *
  by_cases Y:y = "and" \/ y = "both"
  ·rw[Qan (by grind)];rw[Qa3 Y]at k;refine Y3 ?_;have l2:2<=is.length:=qV G (by rcases Y with h|h<;>rw[h]<;>decide +kernel);exact⟨_,rfl,p,_,0,_,rfl,rfl,SqL.of pr,ZA 0 rfl (by lia),_,rfl,p,_,1,_,rfl,rfl,SqL.of pr,ZA 1 rfl l2,_,_,rfl,rfl,k H2 (I.trans M)⟩
  rw[Qap (by simp only[Qao,Qa8,Qdv];exact Y)];rw[Qax Y]at k;refine ZD ⟨_,rfl,by decide,fun t1 ht1=>⟨t1,_,rfl,.inr (SqT.of Za),rfl,rfl,_,rfl,?_⟩⟩;show if inV (.str y) ((["or","either"]:Ai).map V.str)=true then _ else _;rw[ZC];have D:=Zc (o:=.tup [.str "or",.str "either"]) ht1;have C:=D _ _ pr;generalize upd H2 t1 (.tup [.str "or",.str "either"])=H3 at *
  by_cases J:y = "or" \/ y = "either"
  ·rw[Qan (by simp only[Qao,Qa8,Qdv];exact J)];rw[Qa3 J]at k;refine Y3 ?_;have l2:2<=is.length:=qV G (by rcases J with h|h<;>rw[h]<;>decide +kernel);exact⟨_,rfl,p,_,0,_,rfl,rfl,SqL.of C,ZA 0 rfl (by lia),_,rfl,p,_,1,_,rfl,rfl,SqL.of C,ZA 1 rfl l2,_,_,rfl,rfl,k H3 ((I.trans M).trans D)⟩
  rw[Qap (by simp only[Qao,Qa8,Qdv];exact J)];rw[Qax J]at k;refine ZD ⟨_,rfl,rfl,_,rfl,?_⟩
  by_cases O:y = "odd"
  ·rw[Qan (congrArg V.str O)];rw[Qa3 O]at k;refine Y3 ?_;have l2:2<=is.length:=qV G (by rw[O];decide +kernel);exact⟨_,rfl,p,_,0,_,rfl,rfl,SqL.of C,ZA 0 rfl (by lia),_,rfl,p,_,1,_,rfl,rfl,SqL.of C,ZA 1 rfl l2,_,_,rfl,rfl,k H3 ((I.trans M).trans D)⟩
  rw[Qap (fun z=>O (by injection z))];rw[Qax O]at k;refine ZD ⟨_,rfl,rfl,_,rfl,?_⟩
  by_cases L:y = "so"
  ·rw[Qan (congrArg V.str L)];rw[Qa3 L]at k;refine Y3 ?_;have l2:2<=is.length:=qV G (by rw[L];decide +kernel);exact⟨_,rfl,p,_,0,_,rfl,rfl,SqL.of C,ZA 0 rfl (by lia),_,rfl,_,rfl,p,_,1,_,rfl,rfl,SqL.of C,ZA 1 rfl l2,_,_,rfl,rfl,k H3 ((I.trans M).trans D)⟩
  rw[Qap (fun z=>L (by injection z))];rw[Qax L]at k;have l3:3<=is.length:=qV G (ug y hy h1 h2 Z Y J O L);exact ZD ⟨_,rfl,p,_,0,_,rfl,rfl,SqL.of C,ZA 0 rfl (by lia),_,rfl,p,_,1,_,rfl,rfl,SqL.of C,ZA 1 rfl (by lia),_,_,rfl,rfl,_,rfl,p,_,0,_,rfl,rfl,SqL.of C,ZA 0 rfl (by lia),_,rfl,_,rfl,p,_,2,_,rfl,rfl,SqL.of C,ZA 2 rfl l3,_,_,rfl,rfl,_,_,rfl,rfl,k H3 ((I.trans M).trans D)⟩
def Gj(K:Af):Sp:=fun vs H Q _=>∃(tw:Aw) (q:A2),vs=[.ref tw]/\H tw=some (.tup q)/\q.length<=1000/\(∀w∈q,(∃y,w=.str y)\/∃z:Int,w=.int z) /\
 ∀(L:Nat) H',(∀z:Int,V.int z∈q->Builtin.Int.intBits z<=L)->(L=0\/∃z:Int,V.int z∈q/\L=Builtin.Int.intBits z)->Z9 H H'->Q (.int (L:Int)) H'
theorem Gk:Y6 P w K mg base CX0 1 t.bj t.bp ["words"] (Gj K):=by
 refine T.bx.F.ok Gh (fun vs H Q E h=>?_) (fun M A outer s H vs Q E L h=>?_)
 ·obtain⟨_,_,rfl,_⟩:=h;rfl
 ·obtain⟨tw,q,rfl,G,Z,hw,k⟩:=h;have Y:=ZL L;refine⟨_,@QSs.out _ _ _ (Ze (Zo (Zjk rfl rfl T.sf (Y4 ({}:ZQ (Zh Xf) _ ["words"] "word" [] []) (Xr (qv 0)) (fun _ _ _ _=>(yi (YQ (Zn (show YA _ (.builtin "isinstance") (Zlk K)from X1) (by rfl) T.ak Ye (Zi (qv 0) (Zi (Wx (v:=.ty "int") (by rfl) T.dt zh rfl) Zd)))))) (fun _ _ _ _=>(show QE _ _ (Zmn K "int" Zl1 (jX 0))from(WZ PySem.F.plainAttrs_int PySem.F.slot_int_bit_length PySem.F.type_int_bit_length Zjl (qv 0))))) Zf))),?_⟩;refine⟨_,rfl,tw,rfl,⟨_,SqT.of G⟩,X3 (K:=K) (a:=tw) (xs:=q) (fun i zs H'=>zs=(JF (q.take i)).map V.int/\H'=H) ⟨rfl,rfl⟩ (fun i zs H' h=>?_) (fun i zs H' h=>by rw[h.2];exact SqT.of G) (fun i x zs H1 R hR C h=>?_) (fun zs H1 h p J=>?_)⟩
  ·rw[h.1,Qab];have:=yO (q.take i);rw[Qa2]at this;exact Qa0 (Z2 (by lia))
  ·obtain⟨rfl,rfl⟩:=h;rcases hw x (Qas C)with⟨y,rfl⟩|⟨z,rfl⟩
   ·refine⟨_,rfl,_,_,_,_,rfl,.str y,Xo,_,rfl,ZD (hR _ _ ⟨?_,rfl⟩)⟩;rw[take_snoc C,xc];exact congrArg (List.map V.int) (Qby _).symm
   ·refine⟨_,rfl,_,_,_,_,rfl,.int z,Jh,_,rfl,Y3 ⟨_,rfl,rfl,z,rfl,rfl,hR _ _ ⟨?_,rfl⟩⟩⟩;rw[take_snoc C,xc,Qay];rfl
  ·obtain⟨rfl,rfl⟩:=h;have sp:=Zc (o:=.lst ((JF (q.take q.length)).map V.int)) J;refine⟨p,JF (q.take q.length),rfl,SqL.of Za,fun e=>?_,fun m I C=>?_⟩
   ·rw[Qb7]at e;refine k 0 _ (fun z D=>?_) (.inl rfl) sp;have:=xf D;rw[e]at this;cases this
   ·rw[Qb7]at I C;obtain⟨z,D,rfl⟩:=wY I;exact k _ _ (fun y O=>Int.ofNat_le.mp (C _ (xf O))) (.inr ⟨z,D,rfl⟩) sp
def uD(K:Af):Sp:=fun vs H Q _=>∃(p:Aw) (cs:Ak) (l:Nat),vs=[.ref p,.int (l:Int)]/\H p=some (.lst (cs.map V.int))/\cs.length<=1000/\l<=100/\∀t H',H t=none->H' t=some (.tup ((cs.map fun c=>bt c l).map V.int))->Z9 H H'->Q (.ref t) H'
theorem uE:Y6 P w K mg base CX0 1 t.si t.sj ["columns","letter"] (uD K):=by
 refine T.bb.F.ok uB (fun vs H Q E h=>?_) (fun O A outer s H vs Q E J h=>?_)
 ·obtain⟨_,_,_,rfl,_⟩:=h;rfl
 ·obtain⟨p,cs,l,rfl,D,Y,M,k⟩:=h;have Z:=ZL J;refine⟨_,@QSs.out _ _ _ (Ze (Zo (Z4 Z0 (by rfl) T.ah ZR (Zi (Y4 ({}:ZQ (Zh qG) _ ["columns","letter"] "column" ["letter"] [1]) (Xq (qv 0)) (fun _ _ _ _=>Xh) (fun _ _ _ _=>(Zp Xg (Zp kU (qv 0) (qv 1)) Zf))) Zd)))),?_⟩;refine⟨_,rfl,p,rfl,⟨_,SqL.of D⟩,comp_map (xs:=cs.map V.int) (fI fun c=>V.int (bt c l)) (SqL.of D) (by rw[Qab];exact Qa0 (Z2 (by lia))) (fun v I R hR=>?_) (fun q L=>?_)⟩
  ·obtain⟨c,_,rfl⟩:=Qav.mp I;refine⟨_,rfl,_,rfl,_,_,rfl,rfl,Qde l,_,_,rfl,rfl,?_⟩;have e:fI (fun c=>V.int (bt c l)) (V.int c)=V.int (Builtin.bitAnd (c/2^(l:Int).toNat) 1):=by
    rw[and_1,Qbp];rfl
   rw[e]at hR;exact hR
  ·refine⟨q,_,rfl,.inl ⟨SqL.of Za,fun t C=>?_⟩⟩;have G:=Zc (o:=.lst ((cs.map V.int).map (fI fun c=>V.int (bt c l)))) L;refine k t _ (G.free C) ?_ (G.trans (Zc C));rw[Za,Qaw,Qaw];rfl
def Zdt(K:Af):Sp:=fun vs H Q _=>∃(q:Aw) (bs:Am),vs=[.ref q]/\H q=some (.tup (bs.map V.bl))/\bs.length<=100000/\∀p H',H' p=some (.tup ((bs.map fun b=>!b).map V.bl))->Z9 H H'->Q (.ref p) H'
theorem Zdu:Y6 P w K mg base CX0 1 t.vl t.vr ["truths"] (Zdt K):=by
 refine T.lq.F.ok Zdr (fun vs H Q E h=>?_) (fun L A outer s H vs Q E I h=>?_)
 ·obtain⟨_,_,rfl,_⟩:=h;rfl
 ·obtain⟨q,bs,rfl,C,D,k⟩:=h;have M:=ZL I;refine⟨_,@QSs.out _ _ _ (Ze (Zo (Z4 Z0 (by rfl) T.ah ZR (Zi (Y4 ({}:ZQ (Zh jv) _ ["truths"] "truth" [] []) (Xr (qv 0)) (fun _ _ _ _=>Xh) (fun _ _ _ _=>(Zaw (qv 0)))) Zd)))),?_⟩;try dsimp only[L2.cxK,L2.cxK2]
  refine⟨_,rfl,q,rfl,⟨_,SqT.of C⟩,qu (xs:=bs.map V.bl) (fun v=>match v with|.bl b=>.bl (!b)|v=>v) (SqT.of C) (by rw[Qab];exact Qa0 (Yu (by lia))) (fun x J R hR=>?_) (fun l D=>?_)⟩
  ·obtain⟨b,_,rfl⟩:=Qav.mp J;exact⟨_,rfl,_,rfl,hR⟩
  ·refine⟨l,_,rfl,.inl ⟨SqL.of Za,fun p G=>k p _ ?_ ((Zc D).trans (Zc G))⟩⟩;rw[Za,Qaw,Qaw];rfl
def kB(K:Af):Sp:=fun vs H Q _=>∃(pq ps:Aw) (q:Aj) (nx:Ad),vs=[.ref pq,.ref ps]/\H pq=some (.tup (q.map Ws))/\Jl H ps (nx.map qX)/\(∀s∈q,s<nx.length)/\(∀S:Aj,S.Nodup->(∀x∈S,∃s∈q,x∈nx.getD s [])->S.length<64)/\∀p (C:Aj) H',H' p=some (.tup (C.map Ws))->C.Pairwise (· < ·)->(∀x,x∈C↔∃s∈q,x∈nx.getD s [])->Z9 H H'->Q (.ref p) H'
theorem kC:Y6 P w K mg base CX0 1 t.ox t.oy ["states","steps"] (kB K):=by
 refine T.rn.F.ok Wi (fun vs H Q E h=>?_) (fun cdv A outer s H vs Q E hr h=>?_)
 ·obtain⟨_,_,_,_,rfl,_⟩:=h;rfl
 ·obtain⟨pq,ps,ss,nx,rfl,hq,R,hlt,J,k⟩:=h;have hu:=ZL hr;refine⟨_,@QSs.out _ _ _ (Zb (Zz 2 Wi.nd qx)
    (Zb (Xb Qbq rfl (Xr (qv 0)) (Xp 3 Wi.nd)
    (Ze (Xb Qbq rfl (Xr (Z3 ZP (qv 1) (qv 3))) (Xp 4 Wi.nd)
    (Ze (JP hu (qv 2) (qv 4) YD rfl)))))
    (Ze (Zo (Z4 Z0 (by rfl) T.ah ZR (Zi (Zn (ju rfl) (by rfl) T.cf Jq (Zi (qv 2) Zd)) Zd)))))),?_⟩
  try dsimp only[L2.cxK,L2.cxK2]
  refine L2.let3 ?_;intro U2 U1;refine fun d hd=>Zg ?_;have s1:=Zc (o:=.dK []) hd;have hd1:upd H d (.dK []) d=some (.dK ((([]:Aj).map fun x:Nat=>((.inl (x:Int):Key),V.bl true)))):=Za;generalize upd H d (.dK [])=H1 at *;have hgd:∀{s:Nat},s<nx.length->nx[s]?=some (nx.getD s []):=fun{s} h=>by rw[Qaf,Qac h];rfl
  refine⟨_,rfl,pq,rfl,⟨_,SqT.of (s1 _ _ hq)⟩,zW (K:=K) (a:=pq) (xs:=ss.map Ws) (fun i σ H'=>∃(u3 M:Option V) (S:Aj),σ=[some (.ref pq),some (.ref ps),some (.ref d),u3,M]/\H' d=some (.dK (S.map fun x:Nat=>((.inl (x:Int):Key),V.bl true)))/\S.Nodup/\(∀x,x∈S↔∃s∈ss.take i,x∈nx.getD s [])/\Z9 H H') ⟨none,none,[],rfl,hd1,Qck,fun x=>⟨(fun z=>nomatch z),fun⟨s,z,_⟩=>by rw[List.take_zero]at z;cases z⟩,s1⟩ (fun i σ H' _ ⟨_,_,_,_,_,_,_,s⟩=>SqT.of (s _ _ hq)) ?_ ?_⟩
  ·rintro i x σ H2 D ⟨u3,M,S,rfl,O,G,hm,s2⟩;rw[Qah]at D;obtain⟨q,hs0,rfl⟩:=Qa4.mp D;have Y:=Qas hs0;have hsl:=hlt q Y;obtain⟨as,g1,g2,g3⟩:=R.same s2;obtain⟨ra,g4,g5⟩:=g3 q (qX (nx.getD q [])) (by rw[Qah,hgd hsl];rfl);refine Zg ⟨_,rfl,_,rfl,ps,_,_,_,rfl,rfl,SqT.of g1,YC g4,ra,rfl,⟨_,SqT.of g5⟩,?_⟩;have hrn:H ra≠none\/True:=.inr trivial;refine zW (K:=K) (a:=ra) (xs:=qX (nx.getD q [])) (fun j σ H'=>∃(M:Option V) (S:Aj),σ=[some (.ref pq),some (.ref ps),some (.ref d),some (.int (q:Int)),M]/\H' d=some (.dK (S.map fun x:Nat=>((.inl (x:Int):Key),V.bl true)))/\S.Nodup/\(∀x,x∈S↔(∃s∈ss.take i,x∈nx.getD s [])\/x∈(nx.getD q []).take j)/\H' ra=some (.tup (qX (nx.getD q [])))/\Z9 H H') ⟨M,S,rfl,O,G,fun x=>by rw[hm,List.take_zero];simp,g5,s2⟩ (fun i σ H' _ ⟨_,_,_,_,_,_,h,_⟩=>SqT.of h) ?_ ?_
   ·rintro j x σ H3 D ⟨M,L,rfl,h3,C,m3,r3,s3⟩;unfold qX at D;rw[Qah]at D;obtain⟨y,hy,rfl⟩:=Qa4.mp D;have hS:L.length<64:=J L C fun x D=>by
     rcases(m3 x).mp D with⟨s,a1,a2⟩|a1
     ·exact⟨s,List.mem_of_mem_take a1,a2⟩
     ·exact⟨q,Y,List.mem_of_mem_take a1⟩
    refine Zg ⟨_,rfl,_,rfl,d,_,rfl,uM.k (k:=.inl (y:Int)) h3 (by rw[Qab];exact Z2 (by lia)),?_⟩;have mem:∀x,(∃s∈ss.take i,x∈nx.getD s [])\/x∈(nx.getD q []).take (j+1)↔x∈L\/x=y:=fun x=>by
     rw[m3,take_snoc hy,Qbd,Qar,or_assoc]
    have kp:∀{b:Aw} {u:HO} {o:HO},H3 b=some u->(∀kv,u≠.dK kv)->upd H3 d o b=some u:=fun{b u o} e hu=>by rw[Zk (Xm e h3 (hu _))];exact e
    by_cases I:y∈L
    ·refine⟨_,L,rfl,by rw[Za,put_in I],C,fun x=>?_,kp r3 (fun _ z=>nomatch z),ZS s3 hd⟩;rw[mem];exact⟨.inl,fun h=>h.elim id fun e=>by rw[e];exact I⟩
    ·refine⟨_,L++[y],rfl,by rw[Za,Zku I],?_,fun x=>?_,kp r3 (fun _ z=>nomatch z),ZS s3 hd⟩
     ·exact Qec.mpr ⟨C,Qb8.mpr ⟨(fun z=>nomatch z),Qck⟩,fun a ha b hb e=>I (by rw[Qar.mp hb]at e;rw[<-e];exact ha)⟩
     ·rw[mem,Qbd,Qar]
   ·rintro σ H3 ⟨M,L,rfl,h3,C,m3,r3,s3⟩;refine⟨_,_,L,rfl,h3,C,fun x=>?_,s3⟩;have e:(qX (nx.getD q [])).length=(nx.getD q []).length:=Qab ..;rw[m3,e,Qb7,take_snoc hs0];constructor
    ·rintro(⟨s,a,b⟩|a)
     ·exact⟨s,Qbd.mpr (.inl a),b⟩
     ·exact⟨q,Qbd.mpr (.inr (Qar.mpr rfl)),a⟩
    ·rintro⟨s,a,b⟩;rcases Qbd.mp a with z|z
     ·exact .inl ⟨s,z,b⟩
     ·rw[Qar.mp z]at b;exact .inr b
  ·rintro σ H2 ⟨u3,M,S,rfl,O,G,hm,s2⟩;rw[Qab,Qb7]at hm;have hS:S.length<64:=J S G fun x D=>(hm x).mp D;refine⟨_,rfl,d,_,S.map fun x:Nat=>(x:Int),rfl,.inl O,by rw[Qaw,Qaw];rfl,by rw[Qab];exact hS,fun l ms hl hp hs=>?_⟩;obtain⟨ns,rfl,Z⟩:=Zf9 hp;refine⟨l,_,rfl,.inl ⟨SqL.of Za,fun p hp2=>k p ns _ ?_ (uA hs (Z.nodup_iff.mpr G)) (fun x=>(Z.mem_iff).trans (hm x)) (s2.trans ((Zc hl).trans (Zc hp2)))⟩⟩;rw[Za,Qaw]
   rfl
def xX(K:Af):Sp:=fun vs H Q _=>∃(p:Aw) (q:Am),vs=[.ref p]/\H p=some (.lst (q.map V.bl))/\1<=q.length/\q.length<=100000/\∀(L:Nat) H',Zkr q L->Z9 H H'->Q (.int (L:Int)) H'
theorem xY:Y6 P w K mg base CX0 1 t.ft t.fu ["ring"] (xX K):=by
 refine T.ik.F.ok XI (fun vs H Q E h=>?_) (fun cdv A outer s H vs Q E hr h=>?_)
 ·obtain⟨_,_,rfl,_⟩:=h;rfl
 ·obtain⟨p,q,rfl,hp,h1,hbig,k⟩:=h;have hu:=ZL hr;refine⟨_,@QSs.out _ _ _ (Zb (Zz 1 XI.nd Zf)
    (Zb (WQ Qbq (Wr (zY (Zq vA (Zp ZM (Zn Zr (by rfl) T.ae Yb (Zi (qv 0) Zd)) (qv 1)) Zf (Zx _)) (Js (Zq (jg (Wb hr)) (qv 0) (Zp kX (X2 Jg (qv 0) (Wa (qv 1)) Ji) (X2 Jg (qv 0) Ji (Wa (qv 1)))) (Zx _)))))
    (Ze (Zgx (i:=1) XI.nd rfl (Or.inl rfl) Zf ip_add)))
    (Ze (Zo (qv 1))))),?_⟩
  refine L2.let3 ?_;intro U2 U1;refine Zg ?_;refine Ge (fun σ H'=>∃L:Nat,σ=[some (.ref p),some (.int (L:Int))]/\1<=L/\L<=q.length/\(∀m,1<=m->m<L->¬xK q m)/\Z9 H H') (fun σ _=>match σ with|[_,some (.int m)]=>(200000-m).toNat|_=>0) ⟨1,rfl,Qak _,h1,fun m h1 h2=>by lia,Z9.refl H⟩ ?_;rintro σ H1 ⟨L,rfl,hL1,hLn,O,s1⟩;have D:=s1 _ _ hp;have ln:(q.map V.bl).length=q.length:=Qab ..;have Y:∀H2,Z9 H H2->¬xK q L->∃N:A1,(∀C H',N C H'->∃m,m<(200000-(L:Int)).toNat/\m=(match C with|[_,some (.int m)]=>(200000-m).toNat|_=>0)/\∃L:Nat,C=[some (.ref p),some (.int (L:Int))]/\1<=L/\L<=q.length/\(∀m,1<=m->m<L->¬xK q m)/\Z9 H H')/\N [some (.ref p),some (.int ((L:Int)+1))] H2:=fun H2 Z hn=>by
   refine⟨fun C H'=>C=[some (.ref p),some (.int ((L:Int)+1))]/\Z9 H H',?_,rfl,Z⟩;rintro C H' ⟨rfl,s'⟩;have hlt:L<q.length:=by
    rcases Qgr L q.length with z|z
    ·exact z
    ·have e:L=q.length:=by lia
     exact absurd ⟨by rw[e,Nat.mod_self],by rw[e];exact Zks q⟩ hn
   refine⟨(200000-((L:Int)+1)).toNat,by lia,rfl,L+1,rfl,by lia,hlt,fun m m1 m2=>?_,s'⟩
   by_cases e:m=L
   ·rw[e];exact hn
   ·exact O m m1 (by lia)
  have M:uL (q.map V.bl) (some (L:Int)) none=(q.drop L).map V.bl:=by rw[X7,yD]
  have J:uL (q.map V.bl) none (some (L:Int))=(q.take L).map V.bl:=by rw[X7,XU]
  refine⟨_,rfl,p,_,rfl,.inl (SqL.of D),_,rfl,_,_,rfl,rfl,(by lia),_,_,rfl,rfl,_,rfl,x8 (fun c=>?_) (fun c=>?_)⟩
  ·refine Y3 ?_;obtain⟨N,I,G⟩:=Y H1 s1 fun z=>by
    rw[ln,<-Qd2,z.1]at c;exact absurd c (by decide)
   exact⟨N,I,_,rfl,_,_,rfl,rfl,G⟩
  ·refine⟨_,rfl,_,rfl,_,rfl,_,rfl,p,_,rfl,SqL.of D,fun l1 hl1=>?_⟩;rw[M];have u1:=Zc (o:=.lst ((q.drop L).map V.bl)) hl1;refine⟨_,rfl,_,rfl,_,rfl,p,_,rfl,SqL.of (u1 _ _ D),fun l2 hl2=>?_⟩;rw[J];have u2:=Zc (o:=.lst ((q.take L).map V.bl)) hl2;refine⟨l1,l2,_,_,rfl,rfl,u2 _ _ Za,Za,?_,fun l3 hl3=>?_⟩
   ·rw[Qab,Qab,Qbr,Qa2];exact Qa0 (Yu (by lia))
   rw[<-Qay];have u3:=Zc (o:=.lst ((q.drop L++q.take L).map V.bl)) hl3;have Z:=s1.trans (u1.trans (u2.trans u3));refine⟨p,l3,_,_,rfl,rfl,SqL.of (u3 _ _ (u2 _ _ (u1 _ _ D))),SqL.of Za,Gg _,Gg _,_,rfl,?_⟩;rw[km];have c0:q.length%L=0:=by
    grind
   by_cases e:q=q.drop L++q.take L
   ·rw[Qan e];exact ZD ⟨_,rfl,k L _ ⟨hL1,hLn,⟨c0,e.symm⟩,O⟩ Z⟩
   ·rw[Qap e];obtain⟨N,I,G⟩:=Y _ Z fun z=>e z.2.symm;exact Y3 ⟨N,I,_,rfl,_,_,rfl,rfl,G⟩
def jR(K:Af):Sp:=fun vs H Q _=>∃(a:Aw) (ns:Ak) (k:Nat),vs=[.ref a,.int (k:Int)]/\SqL K H a (ns.map V.int)/\ns.length<=63/\k<=1000/\∀(r:Int) H',0<=r->r<1000000->Z9 H H'->Q (.int r) H'
theorem Wj:Y6 P w K mg base CX0 1 t.iy t.ka ["script","k"] (jR K):=by
 refine T.ay.F.ok ZU (fun vs H Q E h=>?_) (fun cdv A outer s H vs Q E hr h=>?_)
 ·obtain⟨_,_,_,rfl,_⟩:=h;rfl
 ·obtain⟨a,ns,q,rfl,hS,h63,hk,k⟩:=h;have hu:=ZL hr;refine⟨_,@QSs.out _ _ _ (Zb (Zz 2 ZU.nd (Zp kX (Z4 yg (by rfl) T.aaf Zav (Zi (qv 0) Zd)) (ZN (Zi Zf Zd))))
    (Zb (Zz 3 ZU.nd (Zn (Zaf rfl) (by rfl) T.sf wk (Zi Zf (Zi (Zn Zr (by rfl) T.ae Yb (Zi (qv 0) Zd)) Zd))))
    (Zb (Zz 4 ZU.nd (Z3 Zy (qv 2) (Zp ZM (qv 1) (qv 3))))
    (Zb (Zz 5 ZU.nd (Zp Yi (qv 1) (qv 3)))
    (Zb (ZE (Zq Zlg (qv 4) (Zp op_pow Zf Zf) (Zx _))
    (Zb (Xb Qbq rfl (XM rfl T.au (Zi (Zn (jZ rfl) (by rfl) T.aai Zgo (Zi (qv 5) (Zi Zf Zd))) Zd)) (Xp 6 ZU.nd)
    (Ze (Zz 4 ZU.nd (Zp Yi (qv 4) Zf))))
    (Ze (Zo (Zp ZM (qv 4) Zf)))) Zw)
    (Zb (Zz 7 ZU.nd (Zp ZM (Zp Xe (Zp YB (Zp YB (Zp YB (Zp ZM (qv 4) Zf) Zf) (Zp Xe Zf (qv 5))) (Zp Xe Zf (qv 1))) Zf) Zf))
    (Zb (Zz 7 ZU.nd (Zp ZM (Zp YB (Zp YB (Zp Xe (qv 7) (qv 7)) (Zp Xe Zf (qv 5))) (Zp Xe Zf (qv 1))) Zf))
    (Ze (Zo (Zp ZM (Zp Yi (Zp ZM (Zp Xe (qv 7) Zf) Zf) Zf) Zf)))))))))),?_⟩
  try dsimp only[L2.cxK,L2.cxK2]
  refine L2.let8 ?_;intro U7 U6 U5 U4 U3 U2 U1;refine⟨_,rfl,a,_,rfl,.inl hS,fun c1 M=>⟨Zk7,fun J D=>⟨c1,J,_,_,rfl,rfl,Zc D _ _ Za,Za,?_,fun G Y=>Zg ?_⟩⟩⟩
  ·rw[Qab];exact Qa0 (Z2 (by show ns.length+1<=1000;lia))
  have s1:=(Zc (o:=.lst (ns.map V.int)) M).trans ((Zc (o:=.lst [V.int 0]) D).trans (Zc (o:=.lst (ns.map V.int++[V.int 0])) Y));have h3:=Za (H:=upd (upd H c1 (.lst (ns.map V.int))) J (.lst [V.int 0])) (a:=G) (o:=.lst (ns.map V.int++[V.int 0]));generalize upd (upd (upd H c1 (.lst (ns.map V.int))) J (.lst [V.int 0])) G (.lst (ns.map V.int++[V.int 0]))=H1 at *;have hS1:=jC hS s1;refine⟨_,rfl,a,_,rfl,.inl hS1,1,_,rfl,Zg ?_⟩;try dsimp only
  obtain⟨sz,hsz,O,sz2⟩:∃sz:Nat,(if((ns.map V.int).length:Int)>1 then((ns.map V.int).length:Int)else 1)=(sz:Int)/\1<=sz/\sz<=ns.length+1:=by
   rw[Qab];split
   ·exact⟨ns.length,rfl,by lia,by lia⟩
   ·exact⟨1,rfl,by lia,by lia⟩
  rw[hsz];obtain⟨c,ec⟩:∃c:Int,atI (ns.map V.int++[V.int 0]) ((q:Int)%(sz:Int))=some (.int c):=by
   have hlt:=Qeo q O;rw[<-Qd2,show ns.map V.int++[V.int 0]=(ns++[0]).map V.int by rw[Qay];rfl];have hl:q%sz<(ns++[0]).length:=by rw[Qaj];show _<ns.length+1;lia
   exact⟨(ns++[0])[q%sz],YC (by rw[Qah,Qac hl];rfl)⟩
  refine⟨_,rfl,_,rfl,_,rfl,_,_,rfl,rfl,(by show(0:Int)<sz;lia),G,_,_,_,rfl,rfl,SqL.of h3,ec,Zg ?_⟩;refine⟨_,rfl,_,rfl,_,_,rfl,rfl,.of (by lia) (by lia),Zg ?_⟩;try dsimp only
  obtain⟨C,Z,tn1⟩:∃C:Nat,(q:Int)/(sz:Int)=(C:Int)/\C<=1000:=⟨q/sz,by rw[Int.natCast_ediv],Qbc (Nat.div_le_self _ _) hk⟩;rw[Z];refine⟨_,rfl,_,_,rfl,rfl,⟨by decide,by decide,by decide⟩,_,_,rfl,rfl,_,rfl,x8 (fun _=>?_) (fun _=>?_)⟩
  ·have md:∀z:Int,0<=z%1000000/\z%1000000<1000000:=fun z=>⟨Qbz _ (by decide),Qb0 _ (by decide)⟩
   obtain⟨n,hn,n60⟩:∃n:Nat,(if(60:Int)<(C:Int)then(60:Int)else(C:Int))=(n:Int)/\n<=60:=by
    split
    ·exact⟨60,rfl,by lia⟩
    ·exact⟨C,rfl,by lia⟩
   refine⟨_,rfl,_,_,rfl,(n:Int),(by rw[hn]),by lia,by lia,XJ (fun i σ H'=>∃(c:Int) (L:Option V),σ=[some (.ref a),some (.int (q:Int)),some (.ref G),some (.int (sz:Int)),some (.int c),some (.int (C:Int)),L,none]/\H'=H1) ⟨c,none,rfl,rfl⟩ ?_ ?_⟩
   ·rintro i σ H' hi ⟨c,L,rfl,rfl⟩;exact⟨_,rfl,_,_,rfl,rfl,.of (by decide) (by decide),Zg ⟨_,_,rfl,rfl⟩⟩
   ·rintro σ H' ⟨c,L,rfl,rfl⟩;exact⟨_,rfl,_,_,rfl,rfl,(by show(0:Int)<1000000;decide),k _ _ (md _).1 (md _).2 s1⟩
  ·refine⟨_,rfl,_,_,rfl,rfl,(by show(0:Int)<2147483629;decide),_,_,rfl,rfl,_,rfl,_,_,rfl,rfl,.inr (.inl ⟨by decide,by decide⟩),_,_,rfl,rfl,_,rfl,_,_,rfl,rfl,.inr (.inl ⟨by decide,by decide⟩),_,_,rfl,rfl,_,_,rfl,rfl,.inr (.inr ⟨by decide,by decide⟩),_,_,rfl,rfl,(by show(0:Int)<2147483647;decide),Zg ?_⟩;try dsimp only
   generalize hs1:(c%2147483629+977+104729*(C:Int)+15485863*(q:Int))*48271%2147483647=I;have d0:0<=I:=by lia
   have d1:I<2147483647:=by lia
   refine⟨_,rfl,_,rfl,_,_,rfl,rfl,.inr (.inl ⟨by lia,by lia⟩),_,rfl,_,_,rfl,rfl,.inr (.inl ⟨by decide,by decide⟩),_,_,rfl,rfl,_,rfl,_,_,rfl,rfl,.inr (.inl ⟨by decide,by decide⟩),_,_,rfl,rfl,_,_,rfl,rfl,(by show(0:Int)<2147483587;decide),Zg ?_⟩;try dsimp only
   generalize hs2:(I*I+7919*(C:Int)+31*(q:Int))%2147483587=se;have e0:0<=se:=by lia
   have e1:se<2147483587:=by lia
   exact⟨_,rfl,_,_,rfl,rfl,.inr (.inr ⟨by decide,by decide⟩),_,_,rfl,rfl,(by show(0:Int)<2147483563;decide),_,_,rfl,rfl,.of (by decide) (by decide),_,_,rfl,rfl,(by show(0:Int)<1000000;decide),k _ _ (Qbz _ (by decide)) (Qb0 _ (by decide)) s1⟩
def kD(K:Af):Sp:=fun vs H Q _=>∃r:Int,vs=[.int r]/\0<=r/\r<1000000/\∀y H',NmS y->Z9 H H'->Q (.str y) H'
theorem kE:Y6 P w K mg base CX0 1 t.oz t.pa ["number"] (kD K):=by
 refine T.ro.F.ok YW (fun vs H Q E h=>?_) (fun cdv A outer s H vs Q E L h=>?_)
 ·obtain⟨_,rfl,_⟩:=h;rfl
 ·obtain⟨r,rfl,h0,h1,k⟩:=h;have hu:=ZL L;refine⟨_,@QSs.out _ _ _ (Zb (Zz 1 YW.nd Zj)
    (Zb (Zz 2 YW.nd (ZN (Zi Zj (Zi Zj (Zi Zj (Zi Zj (Zi Zj (Zi Zj (Zi Zj (Zi Zj (Zi Zj (Zi Zj Zd))))))))))))
    (Zb (Zz 3 YW.nd (Z3 Zy (qv 2) (Zp ZM (qv 0) Zf)))
    (Zb (Xb Qbq rfl (XM rfl T.au (Zi (Zp YB Zf (Zp ZM (Zp Yi (qv 0) Zf) Zf)) Zd)) (Xp 4 YW.nd)
    (Ze (Zz 3 YW.nd (Zp gG (qv 3) (Z3 ix_str (qv 1) (Zp ZM (Zp YB (Zp Yi (qv 0) Zf) (Zp Xe Zf (qv 4))) Zf))))))
    (Ze (Zo (qv 3))))))),?_⟩
  refine L2.let5 ?_;intro U4 U3 U2 U1;refine Zg ?_;refine⟨by decide,fun m Y=>Zg ?_⟩;obtain⟨y,J,Z⟩:=xn (l:=["","","","a","xy","so","not","yes","add","nought"]) (i:=r%10) (Qbz _ (by decide)) (Qb0 _ (by decide));refine⟨_,rfl,_,rfl,_,_,rfl,rfl,(by show(0:Int)<10;decide),m,_,_,_,rfl,rfl,SqL.of Za,Z,Zg ?_⟩;have M:=Zc (o:=.lst [V.str "",V.str "",V.str "",V.str "a",V.str "xy",V.str "so",V.str "not",V.str "yes",V.str "add",V.str "nought"]) Y;generalize upd H m (.lst [V.str "",V.str "",V.str "",V.str "a",V.str "xy",V.str "so",V.str "not",V.str "yes",V.str "add",V.str "nought"])=H1 at *;obtain⟨n,O,D⟩:∃n:Nat,1+r/10%2=(n:Int)/\(n=1\/n=2):=⟨(1+r/10%2).toNat,by lia,by lia⟩;refine⟨_,rfl,_,_,rfl,rfl,.of (by decide) (by decide),_,_,rfl,rfl,(by show(0:Int)<2;decide),_,_,rfl,rfl,(n:Int),(by rw[<-O]),by lia,by lia,XJ (fun i σ H'=>∃(G:Option V) (z:Str),σ=[some (.int r),some (.str uN),some (.ref m),some (.str z),G]/\NmI y (r/20) i z/\z.length<=6+i/\H'=H1) ⟨none,y,rfl,rfl,(by decide +kernel:∀y∈begL,y.length<=6) y J,rfl⟩ ?_ ?_⟩
  ·rintro i σ H' hi ⟨G,z,rfl,q,I,rfl⟩;obtain⟨c,hc,C⟩:=low_at (i:=(r/20+7*(0+(i:Int)))%26) (Qbz _ (by decide)) (Qb0 _ (by decide));refine⟨_,rfl,_,rfl,_,rfl,_,_,rfl,rfl,.of (by decide) (by decide),_,rfl,_,_,rfl,rfl,.inr (.inl ⟨by decide,by decide⟩),_,_,rfl,rfl,_,_,rfl,rfl,(by show(0:Int)<26;decide),_,_,c,rfl,rfl,Zfb,C,_,_,rfl,rfl,?_,Zg ⟨_,_,rfl,⟨z,c,q,by rw[Qhp]at C;exact C,rfl⟩,?_,rfl⟩⟩
   ·rw[Zb1];exact Qa0 (Z2 (by lia))
   ·rw[Str.length_append,Zb1];lia
  ·rintro σ H' ⟨G,z,rfl,q,I,rfl⟩;exact⟨_,rfl,k z _ (nm_all J D q) M⟩
def vk(K:Af):Sp:=fun vs H Q _=>∃w:V,vs=[w]/\((∃y,w=.str y)\/∃z:Int,w=.int z)/\∀p H',H p=none->H' p=some (.lst ((lpW w).map V.bl))->Z9 H H'->Q (.ref p) H'
theorem XD:Y6 P w K mg base CX0 1 t.mm t.mn ["word"] (vk K):=by
 refine T.av.F.ok ve (fun vs H Q E h=>?_) (fun cdv A outer s H vs Q E hr h=>?_)
 ·obtain⟨_,rfl,_⟩:=h;rfl
 ·obtain⟨w,rfl,hw,k⟩:=h;have hu:=ZL hr;refine⟨_,@QSs.out _ _ _ (Zb (ZE (Zq Ya (qv 0) (Yc (Zi Zj (Zi Zj (Zi Zj Zd)))) (by with_unfolding_all rfl))
    (Ze (Zo (ZN (Zi YD (Zi YD Zd))))) Zw)
    (Zb (ZE (Zq Yt (qv 0) Zj (Zx _))
    (Ze (Zo (ZN (Zi YD Zd)))) Zw)
    (Zb (ZE (Zq Ya (qv 0) (Yc (Zi Zj (Zi Zj (Zi Zj (Zi Zj (Zi Zj (Zi Zj (Zi Zj (Zi Zj Zd))))))))) (by with_unfolding_all rfl))
    (Ze (Zo (ZN (Zi YD (Zi YD Zd))))) Zw)
    (Zb (ZE (Zq Ya (qv 0) (Yc (Zi Zj (Zi Zj (Zi Zj (Zi Zj (Zi Zj (Zi Zj Zd))))))) (by with_unfolding_all rfl))
    (Ze (Zo (ZN (Zi YD Zd)))) Zw)
    (Zb (ZE (Zq Yt (qv 0) Zj (Zx _))
    (Ze (Zo (ZN (Zi YD (Zi YD (Zi YD Zd)))))) Zw)
    (Ze (Zo (ZN Zd)))))))),?_⟩
  refine L2.let6 ?_;intro U5 U4 U3 U2 U1;have e:=lpW_eq hw;have I:YM w=true:=by rcases hw with⟨y,rfl⟩|⟨z,rfl⟩<;>rfl
  have J:∀c,scal w (.str c)=true:=fun c=>by rcases hw with⟨y,rfl⟩|⟨z,rfl⟩<;>rfl
  have fin:∀(H1:Hp) (bs:Am),Z9 H H1->lpW w=bs->bs.length<=3->bs.length<=sizeLine/\∀p,H1 p=none->Q (.ref p) (upd H1 p (.lst (bs.map V.bl))):=fun H1 bs q hb h3=>⟨Qa0 (Z2 (by lia)),fun p M=>k p _ (q.free M) (by rw[Za,hb]) (q.trans (Zc M))⟩;refine⟨_,rfl,by decide,fun Z G=>⟨Z,_,rfl,.inr (SqT.of Za),I,rfl,_,rfl,x8 (fun c=>?_) (fun c=>?_)⟩⟩
  ·rw[Qa3 (show inV w ((["both","either","so"]:Ai).map V.str)=true from c)]at e;exact let⟨f1,f2⟩:=fin _ _ (Zc (o:=.tup [.str "both",.str "either",.str "so"]) G) e (by decide);⟨f1,f2⟩
  rw[Qax (show¬inV w ((["both","either","so"]:Ai).map V.str)=true from c)]at e;have q:=Zc (o:=.tup [.str "both",.str "either",.str "so"]) G;generalize upd H Z (.tup [.str "both",.str "either",.str "so"])=H1 at *;refine⟨_,rfl,J _,_,rfl,x8 (fun c=>?_) (fun c=>?_)⟩
  ·rw[Qa3 c]at e;exact let⟨f1,f2⟩:=fin _ _ q e (by decide);⟨f1,f2⟩
  rw[Qax c]at e;refine⟨_,rfl,by decide,fun Y C=>⟨Y,_,rfl,.inr (SqT.of Za),I,rfl,_,rfl,x8 (fun c=>?_) (fun c=>?_)⟩⟩
  ·rw[Qa3 (show inV w ((["same","under","beneath","and","or","odd","add","sub"]:Ai).map V.str)=true from c)]at e;exact let⟨f1,f2⟩:=fin _ _ (q.trans (Zc (o:=.tup [.str "same",.str "under",.str "beneath",.str "and",.str "or",.str "odd",.str "add",.str "sub"]) C)) e (by decide);⟨f1,f2⟩
  rw[Qax (show¬inV w ((["same","under","beneath","and","or","odd","add","sub"]:Ai).map V.str)=true from c)]at e;have O:=q.trans (Zc (o:=.tup [.str "same",.str "under",.str "beneath",.str "and",.str "or",.str "odd",.str "add",.str "sub"]) C);generalize upd H1 Y (.tup [.str "same",.str "under",.str "beneath",.str "and",.str "or",.str "odd",.str "add",.str "sub"])=H2 at *;refine⟨_,rfl,by decide,fun q3 D=>⟨q3,_,rfl,.inr (SqT.of Za),I,rfl,_,rfl,x8 (fun c=>?_) (fun c=>?_)⟩⟩
  ·rw[Qa3 (show inV w ((["sign","nought","not","neg","twice","low"]:Ai).map V.str)=true from c)]at e;exact let⟨f1,f2⟩:=fin _ _ (O.trans (Zc (o:=.tup [.str "sign",.str "nought",.str "not",.str "neg",.str "twice",.str "low"]) D)) e (by decide);⟨f1,f2⟩
  rw[Qax (show¬inV w ((["sign","nought","not","neg","twice","low"]:Ai).map V.str)=true from c)]at e;have L:=O.trans (Zc (o:=.tup [.str "sign",.str "nought",.str "not",.str "neg",.str "twice",.str "low"]) D);refine⟨_,rfl,J _,_,rfl,x8 (fun c=>?_) (fun c=>?_)⟩
  ·rw[Qa3 c]at e;exact let⟨f1,f2⟩:=fin _ _ L e (by decide);⟨f1,f2⟩
  rw[Qax c]at e;exact let⟨f1,f2⟩:=fin _ _ L e (by decide);⟨f1,f2⟩
def vm(K:Af):Sp:=fun vs H Q _=>∃(t:Aw) (q:A2),vs=[.ref t]/\H t=some (.tup q)/\(∀w∈q,zJ w)/\q.length<=60/\∀p H' (C:Ai),H' p=some (.lst (C.map V.str))->Z9 H H'->C.Perm (XO ((q.filter ntK).map Zdz))->PyProof.Rows.sortedS C=true->Q (.ref p) H'
theorem vn:Y6 P w K mg base CX0 1 t.mq t.mr ["words"] (vm K):=by
 refine T.nq.F.ok WJ (fun vs H Q E h=>?_) (fun cdv A outer s H vs Q E hr h=>?_)
 ·obtain⟨_,_,rfl,_⟩:=h;rfl
 ·obtain⟨t,C,rfl,ht,hw,hl,k⟩:=h;have hu:=ZL hr;refine⟨_,@QSs.out _ _ _ (Zb (Zz 1 WJ.nd (Yc (Zi Zj (Zi Zj (Zi Zj (Zi Zj (Zi Zj (Zi Zj (Zi Zj (Zi Zj (Zi Zj (Zi Zj (Zi Zj (Zi Zj (Zi Zj (Zi Zj Zd))))))))))))))))
    (Zb (Zz 1 WJ.nd (Zp Zi3 (qv 1) (Yc (Zi Zj (Zi Zj (Zi Zj (Zi Zj (Zi Zj (Zi Zj Zd)))))))))
    (Ze (Zo (Zn (J1 rfl) (by rfl) T.cf Jq (Zi (Z4 (yx rfl) (by rfl) T.aaj Zgk (Zi (Y4 ({}:ZQ (Zh Jj) _ ["words","kept"] "word" ["kept"] [1]) (Xr (qv 0)) (fun _ _ _ _=>(yi (Wr (Jt (YQ (Zn (show YA _ (.builtin "isinstance") (Zlk K)from X1) (by rfl) T.ak Ye (Zi (qv 0) (Zi (Wx (v:=.ty "str") (by rfl) T.aak Zgj rfl) Zd)))) (XZ (Zq (show OpR _ (compareOp .NotIn) (rIn K true)from Gs) (qv 0) (qv 1) (by with_unfolding_all rfl))))))) (fun _ _ _ _=>(qv 0))) Zd)) Zd)))))),?_⟩
  refine L2.let3 ?_;intro U2 U1;refine⟨by decide,fun k1 M=>Zg ?_⟩;refine⟨_,rfl,by decide,fun k2 G=>⟨k1,k2,_,_,rfl,rfl,Zc G _ _ Za,Za,Qa0 (Z2 (by decide)),fun k3 H1 q Z=>Zg ?_⟩⟩;have O:Z9 H H1:=((Zc M).trans (Zc G)).trans Z;have q:H1 k3=some (.tup (ZK.map V.str)):=q;have I:=O _ _ ht;refine⟨_,rfl,t,rfl,⟨_,SqT.of I⟩,yy (xs:=C) ntK Z9 Z9.refl (fun _ _ _ a b=>a.trans b) (fun H2 D=>SqT.of (D _ _ I)) (Qa0 (Z2 (by lia))) (fun x Y H2 D R hR=>?_) (fun x Y H2 R hR=>⟨_,rfl,hR⟩) (fun H2 l D J=>?_)⟩
  ·rcases hw x Y with⟨y,rfl,hy⟩|⟨z,rfl⟩
   ·refine⟨_,rfl,_,_,_,_,rfl,.str y,qo,_,rfl,Y3 ⟨_,rfl,_,rfl,k3,_,rfl,.inr (SqT.of (D _ _ q)),rfl,by decide +kernel,_,rfl,?_⟩⟩;have hR:=hR H2 (Z9.refl H2);rw[ZC];have e:(if true=true then !decide (y∈ZK)else decide (y∈ZK))=ntK (.str y):=by
     show(!decide (y∈ZK))=decide (y∉ZK)
     by_cases h:y∈ZK
     ·grind
     ·grind
    rw[e];exact hR
   ·exact⟨_,rfl,_,_,_,_,rfl,.int z,qp,_,rfl,ZD (hR H2 (Z9.refl H2))⟩
  have fl:(C.filter ntK).length<=60:=Qbc (Qe3 _ _) hl;have ol:=yE ((C.filter ntK).map Zdz);rw[Qab]at ol;have es:((C.filter ntK).map Zdz).map V.str=C.filter ntK:=by
   rw[Qaw];refine(Qbo (g:=id) fun w hw=>?_).trans (Qgh _);have h:=(Qdn.mp hw).2;cases w with
   |str y=>rfl
   |_=>cases h
  have L:=O.trans (D.trans (Zc (o:=.lst (C.filter ntK)) J));refine⟨l,(C.filter ntK).map Zdz,rfl,SqL.of (by rw[es];exact Za),by rw[Qab];lia,fun a ha=>⟨a,_,rfl,Za,by lia,fun m ms hm hp hs=>?_⟩⟩;exact k m _ ms Za (L.trans ((Zc ha).trans (Zc hm))) hp hs
def jS(K:Af):Sp:=fun vs H Q _=>∃(y:Str) (v r:V) (W:Nat),vs=[.str y,v,.int (2^W)]/\1<=W/\W<=64/\One1 W y v r/\Q r H
theorem jT:Y6 P w K mg base CX0 1 t.kd t.lb ["word","one","full"] (jS K):=by
 refine T.lu.F.ok jM (fun vs H Q E h=>?_) (fun O A outer s H vs Q E J h=>?_)
 ·obtain⟨_,_,_,_,rfl,_⟩:=h;rfl
 ·obtain⟨y,v,r,W,rfl,L,I,ho,k⟩:=h;have hu:=ZL J;refine⟨_,@QSs.out _ _ _ (Zb (ZE (Zq Yt (qv 0) Zj (Zx _))
    (Ze (Zo (Zp YO (Zp YO (qv 2) Zf) (qv 1)))) Zw)
    (Zb (ZE (Zq Yt (qv 0) Zj (Zx _))
    (Ze (Zo (Zp ZM (Zp YO (qv 2) (qv 1)) (qv 2)))) Zw)
    (Zb (ZE (Zq Yt (qv 0) Zj (Zx _))
    (Ze (Zo (Zp ZM (Zp Xe Zf (qv 1)) (qv 2)))) Zw)
    (Zb (ZE (Zq Yt (qv 0) Zj (Zx _))
    (Ze (Zo (Zp Xg (qv 1) (Zp YO (qv 2) (qv 1))))) Zw)
    (Zb (ZE (Zq Yt (qv 0) Zj (Zx _))
    (Ze (Zo (Yl Zlg (Zp Xe Zf (qv 1)) (qv 2) (Zx _)))) Zw)
    (Zb (ZE (Zq Yt (qv 0) Zj (Zx _))
    (Ze (Zo (Yl Yt (qv 1) Zf (Zx _)))) Zw)
    (Ze (Zo (Zaw (qv 1)))))))))),?_⟩
  try dsimp only[L2.cxK,L2.cxK2]
  refine L2.let7 ?_;intro U6 U5 U4 U3 Z Y;have G:=GW W;have M:=pw_le I;rcases ho with⟨C,a,rfl,q,a1,rfl⟩|⟨C,a,rfl,q,a1,rfl⟩|⟨rfl,b,rfl,rfl⟩
  ·have D:y = "not" \/ y = "neg" \/ y = "twice" \/ y = "low" :=by simpa only[Qao,Qa8,Qdv]using C
   rcases D with rfl|rfl|rfl|rfl
   ·refine⟨_,rfl,rfl,_,rfl,Y3 ⟨_,rfl,_,_,rfl,rfl,_,rfl,_,_,rfl,rfl,?_⟩⟩;rw[show Zk1 "not" a%2^W=2^W-1-a from Zkk q a1]at k;exact k
   ·refine⟨_,rfl,rfl,_,rfl,ZD ⟨_,rfl,rfl,_,rfl,Y3 ⟨_,rfl,_,rfl,_,_,rfl,rfl,_,rfl,_,_,rfl,rfl,G,?_⟩⟩⟩;rw[show Zk1 "neg" a%2^W=(2^W-a)%2^W from Zdh a W]at k;exact k
   ·refine⟨_,rfl,rfl,_,rfl,ZD ⟨_,rfl,rfl,_,rfl,ZD ⟨_,rfl,rfl,_,rfl,Y3 ⟨_,rfl,_,_,rfl,rfl,.inr (.inr ⟨by lia,by lia⟩),_,rfl,_,_,rfl,rfl,G,?_⟩⟩⟩⟩;rw[show Zk1 "twice" a%2^W=2*a%2^W by show(a+a)%2^W=_;rw[Int.two_mul]]at k;exact k
   ·refine⟨_,rfl,rfl,_,rfl,ZD ⟨_,rfl,rfl,_,rfl,ZD ⟨_,rfl,rfl,_,rfl,ZD ⟨_,rfl,rfl,_,rfl,Y3 ⟨_,rfl,_,rfl,_,rfl,_,_,rfl,rfl,_,_,rfl,rfl,?_⟩⟩⟩⟩⟩;rw[show Zk1 "low" a%2^W=Builtin.bitAnd a (2^W-a)from Zkl q a1]at k;exact k
  ·have D:y = "sign" \/ y = "nought" :=by simpa only[Qao,Qa8,Qdv]using C
   rcases D with rfl|rfl
   ·refine⟨_,rfl,rfl,_,rfl,ZD ⟨_,rfl,rfl,_,rfl,ZD ⟨_,rfl,rfl,_,rfl,ZD ⟨_,rfl,rfl,_,rfl,ZD ⟨_,rfl,rfl,_,rfl,Y3 ⟨_,rfl,_,_,rfl,rfl,.inr (.inr ⟨by lia,by lia⟩),_,rfl,_,_,rfl,rfl,?_⟩⟩⟩⟩⟩⟩;rw[sign_eq q a1]at k;exact k
   ·refine⟨_,rfl,rfl,_,rfl,ZD ⟨_,rfl,rfl,_,rfl,ZD ⟨_,rfl,rfl,_,rfl,ZD ⟨_,rfl,rfl,_,rfl,ZD ⟨_,rfl,rfl,_,rfl,ZD ⟨_,rfl,rfl,_,rfl,Y3 ⟨_,rfl,rfl,?_⟩⟩⟩⟩⟩⟩⟩;rw[show xH (2^W) "nought" [a]=decide (V.int a=V.int 0)from Zdi a]at k;exact k
  ·exact⟨_,rfl,rfl,_,rfl,ZD ⟨_,rfl,rfl,_,rfl,ZD ⟨_,rfl,rfl,_,rfl,ZD ⟨_,rfl,rfl,_,rfl,ZD ⟨_,rfl,rfl,_,rfl,ZD ⟨_,rfl,rfl,_,rfl,ZD ⟨_,rfl,_,rfl,k⟩⟩⟩⟩⟩⟩⟩
def jU(K:Af):Sp:=fun vs H Q _=>∃(y:Str) (v u r:V) (W:Nat),vs=[.str y,v,u,.int (2^W)]/\1<=W/\W<=64/\Two2 W y v u r/\∀H',Z9 H H'->Q r H'
theorem jV:Y6 P w K mg base CX0 1 t.lg t.lh ["word","one","other","full"] (jU K):=by
 refine T.lx.F.ok jN (fun vs H Q E h=>?_) (fun cdv A outer s H vs Q E hr h=>?_)
 ·obtain⟨_,_,_,_,_,rfl,_⟩:=h;rfl
 ·obtain⟨y,v,u,r,W,rfl,M,hW,ho,k⟩:=h;have hu:=ZL hr;refine⟨_,@QSs.out _ _ _ (Zb (ZE (Zq Ya (qv 0) (Yc (Zi Zj (Zi Zj (Zi Zj Zd)))) (by with_unfolding_all rfl))
    (Ze (Zo (Z3 Zy (ZN (Zi (Zp Xg (qv 1) (qv 2)) (Zi (Zp x9 (qv 1) (qv 2)) (Zi (Zp qe (qv 1) (qv 2)) Zd)))) (qe_tm PySem.F.slot_tuple_index PySem.F.type_tuple_index Zby (Yc (Zi Zj (Zi Zj (Zi Zj Zd)))) (Zi (qv 0) Zd))))) Zw)
    (Zb (ZE (Zq Yt (qv 0) Zj (Zx _))
    (Ze (Zo (Zp ZM (Zp YB (qv 1) (qv 2)) (qv 3)))) Zw)
    (Zb (ZE (Zq Yt (qv 0) Zj (Zx _))
    (Ze (Zo (Zp ZM (Zp YO (qv 1) (qv 2)) (qv 3)))) Zw)
    (Zb (ZE (Zq Yt (qv 0) Zj (Zx _))
    (Ze (Zo (Yl Yt (qv 1) (qv 2) (Zx _)))) Zw)
    (Zb (ZE (Zq Yt (qv 0) Zj (Zx _))
    (Ze (Zo (Yl Zad (qv 1) (qv 2) (Zx _)))) Zw)
    (Zb (ZE (Zq Yt (qv 0) Zj (Zx _))
    (Ze (Zo (Yl Zad (Zp ZM (Zp YB (qv 1) (Zp Yi (qv 3) Zf)) (qv 3)) (Zp ZM (Zp YB (qv 2) (Zp Yi (qv 3) Zf)) (qv 3)) (Zx _)))) Zw)
    (Zb (ZE (Zq Yt (qv 0) Zj (Zx _))
    (Ze (Zo (kY (qv 1) (qr (qv 2))))) Zw)
    (Zb (ZE (Zq Yt (qv 0) Zj (Zx _))
    (Ze (Zo (Zib (qv 1) (qr (qv 2))))) Zw)
    (Ze (Zo (Zib (qv 2) (qr (Zaw (qv 1)))))))))))))),?_⟩
  try dsimp only[L2.cxK,L2.cxK2]
  refine L2.let9 ?_;intro U8 U7 U6 U5 U4 U3 U2 U1;have J:=GW W;have hin:∀(R:VK) (H1:Hp),Z9 H H1->True:=fun _ _ _=>trivial;refine⟨_,rfl,Zmj,fun q1 Y=>⟨q1,_,rfl,.inr (SqT.of Za),rfl,rfl,_,rfl,?_⟩⟩;rw[show inV (.str y) [V.str "and",V.str "or",V.str "odd"]=decide (y∈(["and","or","odd"]:Ai))from ZC y ["and","or","odd"]];have q:=Zc (o:=.tup [V.str "and",V.str "or",V.str "odd"]) Y;generalize upd H q1 (.tup [V.str "and",V.str "or",V.str "odd"])=H1 at *;rcases ho with⟨I,a,b,rfl,rfl,⟨O,a1⟩,⟨L,b1⟩,rfl⟩|⟨I,a,b,rfl,rfl,⟨O,a1⟩,⟨L,b1⟩,rfl⟩|⟨I,a,b,rfl,rfl,rfl⟩
  ·have D:y = "and" \/ y = "or" \/ y = "odd" \/ y = "add" \/ y = "sub" :=by simpa only[Qao,Qa8,Qdv]using I
   obtain⟨m1,m2,m3⟩:=Zf5 O a1 L b1;have fin:∀(j:Nat) (z:Int) (y:Str),(∃C,[V.str "and",V.str "or",V.str "odd"][j]?=some C/\eqV C (.str y)=true)->(∀i C,i<j->[V.str "and",V.str "or",V.str "odd"][i]?=some C->eqV C (.str y)=false)->[V.int (Builtin.bitAnd a b),V.int (Builtin.bitOr a b),V.int (Builtin.bitXor a b)][j]?=some (.int z)->(∀H',Z9 H H'->Q (.int z) H')->tRet (tOp (Zmm K) (tLst (JN (tOp (rI0 fun i j=>V.int (Builtin.bitAnd i j)) (jX 1) (jX 2)) (JN (tOp (rI0 fun i j=>V.int (Builtin.bitOr i j)) (jX 1) (jX 2)) (JN (tOp (rI0 fun i j=>V.int (Builtin.bitXor i j)) (jX 1) (jX 2)) Zh0)))) (tTM Zbx (tTup (JN (tC (V.str "and")) (JN (tC (V.str "or")) (JN (tC (V.str "odd")) Zh0)))) (JN (jX 0) Zh0))) {nx:=fun _ H'=>Q .non H',rt:=Q} [some (.str y),some (.int a),some (.int b),some (.int (2^W))] H1:=by
    intro j z y ⟨C,h1,h2⟩ h3 D h5;refine⟨_,rfl,_,rfl,_,_,rfl,rfl,_,rfl,_,rfl,_,_,rfl,rfl,_,rfl,_,rfl,_,_,rfl,rfl,Zmj,fun l hl=>⟨Zmj,fun Z G=>⟨Z,_,rfl,Za,_,rfl,Z,_,_,C,j,rfl,rfl,Za,rfl,rfl,h1,h2,h3,l,_,_,_,rfl,rfl,SqL.of (Zc G _ _ Za),YC D,h5 _ (q.trans ((Zc hl).trans (Zc G)))⟩⟩⟩
   rcases D with rfl|rfl|rfl|rfl|rfl
   ·rw[show Zl6 "and" a b%2^W=Builtin.bitAnd a b from m1]at k;rw[show decide (("and" : Str)∈(["and","or","odd"]:Ai))=true by decide +kernel];exact Y3 (fin 0 _ _ ⟨_,rfl,rfl⟩ (fun i C hi=>by lia) rfl k)
   ·rw[show Zl6 "or" a b%2^W=Builtin.bitOr a b from m2]at k;rw[show decide (("or" : Str)∈(["and","or","odd"]:Ai))=true by decide +kernel];exact Y3 (fin 1 _ _ ⟨_,rfl,rfl⟩ (fun i C hi e=>by
     obtain rfl:i=0:=by lia
     cases e;rfl) rfl k)
   ·rw[show Zl6 "odd" a b%2^W=Builtin.bitXor a b from m3]at k;rw[show decide (("odd" : Str)∈(["and","or","odd"]:Ai))=true by decide +kernel];exact Y3 (fin 2 _ _ ⟨_,rfl,rfl⟩ (fun i C hi e=>by
     rcases(by lia:i=0\/i=1)with rfl|rfl<;>cases e<;>rfl) rfl k)
   ·rw[show decide (("add" : Str)∈(["and","or","odd"]:Ai))=false by decide +kernel];exact ZD ⟨_,rfl,rfl,_,rfl,Y3 ⟨_,rfl,_,rfl,_,_,rfl,rfl,_,rfl,_,_,rfl,rfl,J,k _ q⟩⟩
   ·rw[show decide (("sub" : Str)∈(["and","or","odd"]:Ai))=false by decide +kernel];exact ZD ⟨_,rfl,rfl,_,rfl,ZD ⟨_,rfl,rfl,_,rfl,Y3 ⟨_,rfl,_,rfl,_,_,rfl,rfl,_,rfl,_,_,rfl,rfl,J,k _ q⟩⟩⟩
  ·have D:y = "same" \/ y = "under" \/ y = "beneath" :=by simpa only[Qao,Qa8,Qdv]using I
   rcases D with rfl|rfl|rfl
   ·rw[show xH (2^W) "same" [a,b]=decide (V.int a=V.int b)from Qcv.mpr ⟨fun z=>by rw[show a=b from z],fun z=>by injection z⟩]at k;rw[show decide (("same" : Str)∈(["and","or","odd"]:Ai))=false by decide +kernel];exact ZD ⟨_,rfl,rfl,_,rfl,ZD ⟨_,rfl,rfl,_,rfl,ZD ⟨_,rfl,rfl,_,rfl,Y3 ⟨_,rfl,_,rfl,rfl,k _ q⟩⟩⟩⟩
   ·rw[show decide (("under" : Str)∈(["and","or","odd"]:Ai))=false by decide +kernel];exact ZD ⟨_,rfl,rfl,_,rfl,ZD ⟨_,rfl,rfl,_,rfl,ZD ⟨_,rfl,rfl,_,rfl,ZD ⟨_,rfl,rfl,_,rfl,Y3 ⟨_,rfl,_,rfl,_,_,rfl,rfl,k _ q⟩⟩⟩⟩⟩
   ·rw[ben_eq M O a1 L b1]at k;rw[show decide (("beneath" : Str)∈(["and","or","odd"]:Ai))=false by decide +kernel];refine ZD ⟨_,rfl,rfl,_,rfl,ZD ⟨_,rfl,rfl,_,rfl,ZD ⟨_,rfl,rfl,_,rfl,ZD ⟨_,rfl,rfl,_,rfl,ZD ⟨_,rfl,rfl,_,rfl,Y3 ?_⟩⟩⟩⟩⟩;exact⟨_,rfl,_,rfl,_,_,rfl,rfl,.of (by decide) (by decide),_,_,rfl,rfl,_,rfl,_,_,rfl,rfl,J,_,rfl,_,rfl,_,_,rfl,rfl,.of (by decide) (by decide),_,_,rfl,rfl,_,rfl,_,_,rfl,rfl,J,_,_,rfl,rfl,k _ q⟩
  ·have D:y = "both" \/ y = "either" \/ y = "so" :=by simpa only[Qao,Qa8,Qdv]using I
   rcases D with rfl|rfl|rfl
   ·rw[show decide (("both" : Str)∈(["and","or","odd"]:Ai))=false by decide +kernel];refine ZD ⟨_,rfl,rfl,_,rfl,ZD ⟨_,rfl,rfl,_,rfl,ZD ⟨_,rfl,rfl,_,rfl,ZD ⟨_,rfl,rfl,_,rfl,ZD ⟨_,rfl,rfl,_,rfl,ZD ⟨_,rfl,rfl,_,rfl,Y3 ⟨_,rfl,_,rfl,?_⟩⟩⟩⟩⟩⟩⟩;cases a
    ·exact ZD (k _ q)
    ·exact Y3 ⟨_,rfl,k _ q⟩
   ·rw[show decide (("either" : Str)∈(["and","or","odd"]:Ai))=false by decide +kernel];refine ZD ⟨_,rfl,rfl,_,rfl,ZD ⟨_,rfl,rfl,_,rfl,ZD ⟨_,rfl,rfl,_,rfl,ZD ⟨_,rfl,rfl,_,rfl,ZD ⟨_,rfl,rfl,_,rfl,ZD ⟨_,rfl,rfl,_,rfl,ZD ⟨_,rfl,rfl,_,rfl,Y3 ⟨_,rfl,_,rfl,?_⟩⟩⟩⟩⟩⟩⟩⟩;cases a
    ·exact ZD ⟨_,rfl,k _ q⟩
    ·exact Y3 (k _ q)
   ·rw[show decide (("so" : Str)∈(["and","or","odd"]:Ai))=false by decide +kernel];refine ZD ⟨_,rfl,rfl,_,rfl,ZD ⟨_,rfl,rfl,_,rfl,ZD ⟨_,rfl,rfl,_,rfl,ZD ⟨_,rfl,rfl,_,rfl,ZD ⟨_,rfl,rfl,_,rfl,ZD ⟨_,rfl,rfl,_,rfl,ZD ⟨_,rfl,rfl,_,rfl,ZD ⟨_,rfl,_,rfl,?_⟩⟩⟩⟩⟩⟩⟩⟩;cases b
    ·exact ZD ⟨_,rfl,_,rfl,k _ q⟩
    ·exact Y3 (k _ q)
def xZ(K:Af):Sp:=fun vs H Q _=>∃(pn:Aw) (nm:Ai) (m:Nat),vs=[.ref pn,.int (m:Int)]/\H pn=some (.lst (nm.map V.str))/\nm.Nodup/\nm.length<=3/\m^nm.length<=10000/\1<=m/\∀p H',JI H' p nm (chs m nm.length)->Z9 H H'->Q (.ref p) H'
theorem za:Y6 P w K mg base CX0 1 t.fw t.fy ["names","full"] (xZ K):=by
 refine T.il.F.ok ZW (fun vs H Q E h=>?_) (fun cdv A outer s H vs Q E hr h=>?_)
 ·obtain⟨_,_,_,rfl,_⟩:=h;rfl
 ·obtain⟨pn,nm,m,rfl,J,M,hn3,O,hm1,k⟩:=h;have hu:=ZL hr;refine⟨_,@QSs.out _ _ _ (Zb (Zz 2 ZW.nd (ZN (Zi qx Zd)))
    (Zb (Xb Qbq rfl (Xq (qv 0)) (Xp 3 ZW.nd)
    (Zb (Zz 4 ZW.nd (ZN Zd))
    (Zb (Xb Qbq rfl (Xq (qv 2)) (Xp 5 ZW.nd)
    (Ze (Xb Qbq rfl (XM rfl T.au (Zi (qv 1) Zd)) (Xp 6 ZW.nd)
    (Zb (Zz 7 ZW.nd (Z4 gR (by rfl) T.aap Zig (Zi (qv 5) Zd)))
    (Zb (JP hu (qv 7) (qv 3) (qv 6) rfl)
    (Ze (Yn (YE Qau Qa5 Qa6 ZF (qv 4) (Zi (qv 7) Zd)))))))))
    (Ze (Zz 2 ZW.nd (qv 4))))))
    (Ze (Zo (qv 2))))),?_⟩
  refine L2.let3 ?_;intro U2 U1;refine fun d hd=>⟨Zk7,fun fo Z=>Zg ?_⟩;have s1:=(Zc (o:=.dK []) hd).trans (Zc (o:=.lst [V.ref d]) Z);have D1:JI (upd (upd H d (.dK [])) fo (.lst [V.ref d])) fo (nm.take 0) (chs m 0):=by
   refine⟨[d],Za,rfl,fun i d' v h1 h2=>?_⟩;cases i with
   |zero=>
    cases h1;cases h2;exact Zc Z _ _ Za
   |succ i=>cases h1
  refine⟨_,rfl,pn,rfl,⟨_,SqL.of (s1 _ _ J)⟩,kT (K:=K) (a:=pn) (xs:=nm.map V.str) (fun i σ H'=>∃(fo:Aw) (u3 u4 G C D:Option V),σ=[some (.ref pn),some (.int (m:Int)),some (.ref fo),u3,u4,G,C,D]/\i<=nm.length/\JI H' fo (nm.take i) (chs m i)/\Z9 H H') ⟨fo,none,none,none,none,none,rfl,Qbl _,D1,s1⟩ (fun i σ H' _ ⟨_,_,_,_,_,_,_,_,_,s⟩=>SqL.of (s _ _ J)) ?_ ?_⟩
  ·rintro i x σ H2 hx ⟨fo,u3,u4,G,C,D,rfl,hi0,D2,s2⟩;obtain⟨y,rfl,hy⟩:=Zcf hx;have I:i<nm.length:=(Qag.mp hy).1;have hyn:y∉nm.take i:=fun h=>by
    obtain⟨j,hj⟩:=Qcm.mp h;rw[Qdt]at hj;split at hj
    ·rename_i hlt;have e1:=Wo M hj;have e2:=Wo M hy;lia
    ·cases hj
   have etk:nm.take (i+1)=nm.take i++[y]:=take_snoc hy;have ltk:(nm.take i).length=i:=by rw[Qa2];lia
   have hb1:m^i*m<=10000:=by
    exact Qbc (Qcr hm1 I) O
   refine Zg ⟨by decide,fun wi Y=>Zg ?_⟩;have s3:=Zc (o:=.lst []) Y;obtain⟨ds,d1,d2,d3⟩:=D2;have W3:JI (upd H2 wi (.lst [])) wi (nm.take (i+1)) []:=⟨[],Za,rfl,fun i d v h1 _=>by cases h1⟩;refine⟨_,rfl,fo,rfl,⟨_,SqL.of (s3 _ _ d1)⟩,kT (K:=K) (a:=fo) (xs:=ds.map V.ref) (fun j σ H'=>∃(G C D:Option V),σ=[some (.ref pn),some (.int (m:Int)),some (.ref fo),some (.str y),some (.ref wi),G,C,D]/\j<=ds.length/\JI H' wi (nm.take (i+1)) (((chs m i).take j).flatMap fun vs=>(List.range m).map fun w=>vs++[w])/\Z9 H2 H') ⟨G,C,D,rfl,Qbl _,W3,s3⟩ (fun j σ H' _ ⟨_,_,_,_,_,_,s⟩=>SqL.of (s _ _ d1)) ?_ ?_⟩
   ·rintro j x σ H4 hx ⟨v5,v6,v7,rfl,hj0,W4,s4⟩;rw[Qah]at hx;obtain⟨dv,L,rfl⟩:=Qa4.mp hx;have hjl:j<ds.length:=(Qag.mp L).1;have q:j<(chs m i).length:=by rw[<-d2];exact hjl
    have hvj:=Qac q;have hvl:=(Zdb (Qbu q)).1;have hkv:=d3 j dv _ L hvj;generalize (chs m i)[j]=vs at *;have efm:((chs m i).take (j+1)).flatMap (fun vs=>(List.range m).map fun w=>vs++[w])=((chs m i).take j).flatMap (fun vs=>(List.range m).map fun w=>vs++[w])++(List.range m).map fun w=>vs++[w]:=by
     rw[take_snoc hvj,List.flatMap_append];simp
    have fl:∀l:Ad,(l.flatMap fun vs=>(List.range m).map fun w=>vs++[w]).length=l.length*m:=by
     intro l
     induction l with
     |nil=>exact(Qhr _).symm
     |cons v l ih=>rw[Qha,Qaj,ih,Qab,Qbb,Qba,Qgn,Qf1]
    have hb2:j*m+m<=10000:=by
     rw[<-Qgn];rw[Zda]at q;exact Qbc (Qe9 _ q) hb1
    refine Zg ⟨_,rfl,(m:Int),rfl,by lia,by lia,XJ (fun w σ H'=>∃(C D:Option V),σ=[some (.ref pn),some (.int (m:Int)),some (.ref fo),some (.str y),some (.ref wi),some (.ref dv),C,D]/\JI H' wi (nm.take (i+1)) (((chs m i).take j).flatMap (fun vs=>(List.range m).map fun w=>vs++[w])++(List.range w).map fun w=>vs++[w])/\Z9 H2 H') ⟨v6,v7,rfl,by rw[List.range_zero,List.map_nil,Qby];exact W4,s4⟩ ?_ ?_⟩
    ·rintro w σ H5 hw ⟨v6,v7,rfl,W5,s5⟩;refine Zg ⟨_,rfl,dv,_,rfl,.inl (s5 _ _ hkv),fun p hp=>Zg ?_⟩;refine⟨_,rfl,_,rfl,_,rfl,p,_,rfl,uM.k (k:=.inr y) Za (Z2 (by have:=Zkn (nm.take i) vs;lia)),?_⟩;rw[v3,Qhp,Zko hyn (by rw[hvl,ltk]),<-etk];obtain⟨es,e1,e2,e3⟩:=id W5;have hpw:wi≠p:=fun z=>by rw[z,hp]at e1;cases e1
     have sp:=Zc (o:=.dK (kvC (nm.take (i+1)) (vs++[w]))) hp;have e6:=sp _ _ e1;have hel:es.length<10000:=by
      grind
     refine⟨_,rfl,.inl ⟨rfl,_,SqL.of e6⟩,_,rfl,wi,_,_,rfl,rfl,e6,by rw[Qab];exact Yu (by lia),?_⟩;refine⟨_,_,rfl,?_,?_⟩
     ·rw[Qed,Qay,<-Qcg];refine W5.snoc (p:=p) (fun d kv e=>?_) (fun es' h=>?_) ?_
      ·rw[Zk (Xm e e1 fun z=>nomatch z)];exact sp _ _ e
      ·rw[Za];rw[e1]at h;injection h with h;injection h with h;rw[h]
      ·rw[Zk hpw.symm,Za]
     ·exact ZS (s5.trans sp) Y
    ·grind
   ·rintro σ H4 ⟨v5,v6,v7,rfl,hj0,W4,s4⟩;rw[Qab,d2,Qb7]at W4;exact⟨_,rfl,Zg ⟨wi,_,_,_,_,_,rfl,I,W4,s2.trans s4⟩⟩
  ·rintro σ H2 ⟨fo,u3,u4,G,C,D,rfl,hi0,D2,s2⟩;rw[Qab,Qb7]at D2;exact⟨_,rfl,k fo H2 D2 s2⟩
def kF(K:Af):Sp:=fun vs H Q _=>∃(p C D:Aw) (tl q:Am) (TT:Nat->Bool),vs=[.ref p]/\H p=some (.tup [.ref C,.ref D])/\H C=some (.tup (tl.map V.bl))/\H D=some (.tup (q.map V.bl))/\tl.length<=100000/\q.length<=100000/\ZT TT tl q/\∀H',Z9 H H'->Q (.bl true) H'
theorem kG:Y6 P w K mg base CX0 1 t.pb t.pe ["told"] (kF K):=by
 refine T.dk.F.ok Xy (fun vs H Q E h=>?_) (fun cdv A outer s H vs Q E hr h=>?_)
 ·obtain⟨_,_,_,_,_,_,rfl,_⟩:=h;rfl
 ·obtain⟨p,Y,G,tl,C,TT,rfl,hp,h1,h2,L,D,S,k⟩:=h;have hu:=ZL hr;refine⟨_,@QSs.out _ _ _ (Zb (ZE (Wr (zY (zi (YQ (Zn X1 (by rfl) T.ak Ye (Zi (qv 0) (Zi (Wx (v:=.ty "tuple") (by rfl) T.ah ZR rfl) Zd))))) (Js (Zq Zd7 (Zn Zr (by rfl) T.ae Yb (Zi (qv 0) Zd)) Zf (Zx _)))))
    (Ze (Zo YD)) Zw)
    (Zb (Xb Qbq rfl (Xr (qv 0)) (Xp 1 Xy.nd)
    (Ze (ZE (Wr (zY (zi (YQ (Zn X1 (by rfl) T.ak Ye (Zi (qv 1) (Zi (Wx (v:=.ty "tuple") (by rfl) T.ah ZR rfl) Zd))))) (Js (Zq (jg (Wb hr)) (Y4 ({}:ZQ (Zh Gb) _ ["told","row","tail","ring","size"] "truth" [] []) (Xr (qv 1)) (fun _ _ _ _=>(yi (zi (YQ (Zn (show YA _ (.builtin "isinstance") (Zlk K)from X1) (by rfl) T.ak Ye (Zi (qv 0) (Zi (Wx (v:=.ty "bool") (by rfl) T.aao Zia rfl) Zd))))))) (fun _ _ _ _=>(qv 0))) (ZN Zd) (Zx _)))))
    (Ze (Zo YD)) Zw)))
    (Zb (kZ (qv 0) (jf rfl (Xp 2 Xy.nd) (Xp 3 Xy.nd)))
    (Zb (ZE (Wr (zY (Zq (Zbd (Wb hr)) (qv 3) (Yc Zd) (Zx _)) (Js (Wr (Jt (Zq (Zir (Wb hr)) (qv 2) (Yc Zd) (Zx _)) (XZ (Zq Yt (Z3 ZP (qv 2) (Jr qf Zf)) (Z3 ZP (qv 3) (Jr qf Zf)) (Zx _))))))))
    (Ze (Zo YD)) Zw)
    (Zb (Xb Qbq rfl (z9 rfl T.au (Zi Zf (Zi (Zn Zr (by rfl) T.ae Yb (Zi (qv 3) Zd)) Zd))) (Xp 4 Xy.nd)
    (Ze (ZE (Wr (Jt (Zq Yt (Zp ZM (Zn Zr (by rfl) T.ae Yb (Zi (qv 3) Zd)) (qv 4)) Zf (Zx _)) (XZ (Zq (Zbd (Wb hr)) (qv 3) (Zp Ziy (X2 (SlR.or sl_tup Zif) (qv 3) Ji (Wa (qv 4))) (Zp Yi (Zn Zr (by rfl) T.ae Yb (Zi (qv 3) Zd)) (qv 4))) (Zx _)))))
    (Ze (Zo YD)) Zw)))
    (Ze (Zo YD))))))),?_⟩
  try dsimp only[L2.cxK,L2.cxK2]
  refine L2.let6 ?_;intro U5 U4 U3 U2 U1;have two:∀x∈[V.ref Y,V.ref G],∃(q:Aw) (bs:Am),x=.ref q/\H q=some (.tup (bs.map V.bl))/\bs.length<=100000:=fun x hx=>by
   rcases Qao.mp hx with rfl|hx
   ·exact⟨Y,tl,rfl,h1,L⟩
   ·rw[Qar.mp hx];exact⟨G,C,rfl,h2,D⟩
  refine⟨_,rfl,_,_,_,_,rfl,.tup hp,qm,_,rfl,ZD ⟨_,rfl,p,_,rfl,.inr (SqT.of hp),rfl,_,rfl,ZD ?_⟩⟩;refine⟨_,rfl,p,rfl,⟨_,SqT.of hp⟩,zW (K:=K) (a:=p) (xs:=[V.ref Y,V.ref G]) (fun i σ H'=>∃u1:Option V,σ=[some (.ref p),u1,none,none,none]/\Z9 H H') ⟨none,rfl,Z9.refl H⟩ (fun i σ H' _ ⟨_,_,s⟩=>SqT.of (s _ _ hp)) ?_ ?_⟩
  ·rintro i x σ H2 hx ⟨u1,rfl,M⟩;obtain⟨q,bs,rfl,hq,hb⟩:=two x (Qas hx);have O:=M _ _ hq;refine Zg ⟨_,rfl,_,_,_,_,rfl,.tup O,qm,_,rfl,ZD ?_⟩;refine⟨_,rfl,q,rfl,⟨_,SqT.of O⟩,X3 (xs:=bs.map V.bl) (fun i zs H'=>zs=[]/\H'=H2) ⟨rfl,rfl⟩ (fun i zs H' ⟨e,_⟩=>by rw[e];exact Qbl _) (fun i zs H' ⟨_,e⟩=>by rw[e];exact SqT.of O) ?_ ?_⟩
   ·rintro j y zs H' N hN hy ⟨rfl,rfl⟩;rw[Qah]at hy;obtain⟨b,_,rfl⟩:=Qa4.mp hy;exact⟨_,rfl,_,_,_,_,rfl,.bl _,jc,_,rfl,ZD (hN _ _ ⟨rfl,rfl⟩)⟩
   ·rintro zs H' ⟨rfl,e⟩ l hl;rw[e]at hl ⊢;have s3:=Zc (o:=.lst []) hl;refine⟨g9,fun l2 D=>⟨l,l2,_,_,rfl,rfl,SqL.of (Zc D _ _ Za),SqL.of Za,rfl,rfl,_,rfl,ZD ⟨_,rfl,M.trans (s3.trans (Zc D))⟩⟩⟩
  rintro σ H2 ⟨u1,rfl,M⟩;refine⟨_,rfl,p,_,rfl,SqT.of (M _ _ hp),rfl,_,_,rfl,Zg ⟨_,_,rfl,Zg ⟨rfl,?_⟩⟩⟩;have fin:∀H3,Z9 H H3->U4 {nx:=fun _ H'=>Q .non H',rt:=Q} [some (.ref p),u1,some (.ref Y),some (.ref G),none] H3:=fun H3 s3=>by
   have Z:(C.map V.bl).length=C.length:=Qab ..;have hpos:=S.pos;refine⟨_,rfl,G,_,rfl,.inr (SqT.of (s3 _ _ h2)),1,_,rfl,⟨by decide,by decide,by rw[Z];lia,by rw[Z];lia⟩,?_⟩;rw[Z];refine z5 (fun i σ H'=>∃u4:Option V,σ=[some (.ref p),u1,some (.ref Y),some (.ref G),u4]/\Z9 H H') ⟨none,rfl,s3⟩ ?_ ?_
   ·rintro i σ H4 hi ⟨u4,rfl,I⟩ N bk r' hN;have J:=I _ _ h2;have hi:i+1<C.length:=by lia
    have ew:(1:Int)+(i:Int)=((i+1:Nat):Int):=by lia
    rw[ew];refine Zg ⟨_,rfl,G,_,rfl,.inr (SqT.of J),_,rfl,_,_,rfl,rfl,(by show(0:Int)<((i+1:Nat):Int);lia),rfl,_,rfl,?_⟩;rw[Z]
    by_cases hd:C.length%(i+1)=0
    ·have e0:(C.length:Int)%((i+1:Nat):Int)=0:=by rw[<-Qd2,hd];rfl
     rw[Qan (show V.int ((C.length:Int)%((i+1:Nat):Int))=V.int 0 by rw[e0])];have hk2:2<=C.length/(i+1):=by
      obtain⟨q,hq⟩:=Nat.dvd_of_mod_eq_zero hd;rw[hq,Nat.mul_div_cancel_left _ (by lia)];rcases(by lia:q=0\/q=1\/2<=q)with z|z|z
      ·rw[z,Nat.mul_zero]at hq;lia
      ·rw[z,Nat.mul_one]at hq;lia
      ·exact z
     have hkl:C.length/(i+1)<=C.length:=Nat.div_le_self _ _;refine Y3 ⟨_,rfl,_,rfl,_,rfl,_,rfl,.inl ⟨G,_,rfl,SqT.of J,?_,fun l1 L=>?_⟩⟩
     ·rintro⟨_,z⟩;rw[Z]at z;simp only[HT.sIx]at z;rw[Qax (by lia)]at z;lia
     rw[X7,XU];have s5:=Zc (o:=.tup ((C.take (i+1)).map V.bl)) L;have ek:((C.map V.bl).length:Int)/((i+1:Nat):Int)=((C.length/(i+1):Nat):Int):=by rw[Z,Int.natCast_ediv]
     refine⟨_,rfl,G,_,rfl,.inr (SqT.of (s5 _ _ J)),_,rfl,_,_,rfl,rfl,.of (by lia) (by lia),l1,_,_,rfl,rfl,SqT.of Za,by rw[ek];lia,by rw[ek];lia,?_,?_,fun l2 D=>?_⟩
     ·intro z;have:=congrArg List.length z;rw[Qab,Qa2]at this;have:min (i+1) C.length=0:=this;lia
     ·rw[ek,Qbp,Qab,Qa2,Qey (by lia)];exact Qa0 (Yu (by have:=Nat.mul_div_le C.length (i+1);lia))
     rw[ek,Qbp,rep_bl];have s6:=Zc (o:=.tup ((List.replicate (C.length/(i+1)) (C.take (i+1))).flatten.map V.bl)) D;refine⟨G,l2,_,_,rfl,rfl,SqT.of (s6 _ _ (s5 _ _ J)),SqT.of Za,Gg _,Gg _,_,rfl,?_⟩;show if zr _ _=true then _ else _;rw[km,Qap fun z=>S.prim (i+1) (by lia) hi (Zdp (by lia) hi hd z)];exact ZD (hN _ _ ⟨_,rfl,I.trans (s5.trans s6)⟩)
    ·rw[Qap (show¬V.int ((C.length:Int)%((i+1:Nat):Int))=V.int 0 from fun z=>hd (by injection z with z;rw[<-Qd2]at z;exact Int.ofNat.inj z))];exact ZD (hN _ _ ⟨_,rfl,I⟩)
   ·rintro σ H4 ⟨u4,rfl,I⟩;exact k H4 I
  refine⟨_,rfl,g9,fun e he=>⟨G,e,_,_,rfl,rfl,SqT.of (Zc he _ _ (M _ _ h2)),SqT.of Za,Gg C,rfl,_,rfl,?_⟩⟩;have hrg:C≠[]:=fun z=>by have:=S.pos;rw[z]at this;exact absurd this (by decide)
  rw[show zr (C.map V.bl) []=false by cases C with|nil=>exact absurd rfl hrg|cons x r=>rfl];refine ZD ⟨_,rfl,g9,fun e2 he2=>⟨Y,e2,_,_,rfl,rfl,SqT.of (Zc he2 _ _ (Zc he _ _ (M _ _ h1))),SqT.of Za,Gg tl,rfl,_,rfl,?_⟩⟩;have I:Z9 H _:=M.trans ((Zc (o:=.tup []) he).trans (Zc (o:=.tup []) he2))
  by_cases ht:tl=[]
  ·show if(!zr (tl.map V.bl) [])=true then _ else _
   rw[ht];exact ZD (fin _ I)
  ·show if(!zr (tl.map V.bl) [])=true then _ else _
   rw[show zr (tl.map V.bl) []=false by cases tl with|nil=>exact absurd rfl ht|cons x r=>rfl];have htl:0<tl.length:=Qgj.mpr ht;have hrl:0<C.length:=Qgj.mpr hrg;have lst:∀bs:Am,0<bs.length->atI (bs.map V.bl) (-1)=some (.bl (bs.getD (bs.length-1) false)):=fun bs hb=>by
    unfold atI ixN;rw[Qab,Qax (by decide),Qa3 (by lia)];show(bs.map V.bl)[_]?=_;rw[Qah,show(-1+(bs.length:Int)).toNat=bs.length-1 by lia,Qaf,Qac (by lia)];rfl
   refine Y3 ⟨_,rfl,_,rfl,Y,_,_,_,rfl,rfl,SqT.of (I _ _ h1),lst tl htl,_,rfl,_,rfl,G,_,_,_,rfl,rfl,SqT.of (I _ _ h2),lst C hrl,rfl,_,rfl,?_⟩;rw[Qap fun z=>S.last ht (by injection z)];exact ZD (fin _ I)
def Zdv(K:Af):Sp:=fun vs H Q _=>∃(p C D:Aw) (tl q:Am) (W:Nat),vs=[.ref p,.int (W:Int)]/\1<=W/\H p=some (.tup [.ref C,.ref D])/\H C=some (.tup (tl.map V.bl))/\H D=some (.tup (q.map V.bl))/\1<=q.length/\Q (.bl (atR tl q (W-1))) H
theorem Zdw:Y6 P w K mg base CX0 1 t.wh t.aaa ["told","width"] (Zdv K):=by
 refine T.ly.F.ok xr (fun vs H Q E h=>?_) (fun O A outer s H vs Q E L h=>?_)
 ·obtain⟨_,_,_,_,_,_,rfl,_⟩:=h;rfl
 ·obtain⟨p,D,G,tl,I,W,rfl,Z,J,h1,h2,C,k⟩:=h;have hu:=ZL L;refine⟨_,@QSs.out _ _ _ (Zb (kZ (qv 0) (jf rfl (Xp 2 xr.nd) (Xp 3 xr.nd)))
    (Zb (ZE (Zq Zhw (qv 1) (Zn Zr (by rfl) T.ae Yb (Zi (qv 2) Zd)) (Zx _))
    (Ze (Zo (Z3 ZP (qv 2) (Zp YO (qv 1) Zf)))) Zw)
    (Ze (Zo (Z3 ZP (qv 3) (Zp ZM (Zp YO (Zp YO (qv 1) Zf) (Zn Zr (by rfl) T.ae Yb (Zi (qv 2) Zd))) (Zn Zr (by rfl) T.ae Yb (Zi (qv 3) Zd)))))))),?_⟩
  refine L2.let3 ?_;intro U2 Y;refine⟨_,rfl,p,_,rfl,SqT.of J,rfl,_,_,rfl,Zg ⟨_,_,rfl,Zg ⟨rfl,?_⟩⟩⟩;refine⟨_,rfl,_,rfl,D,_,rfl,.inr (SqT.of h1),_,_,rfl,rfl,_,rfl,x8 (fun c=>?_) (fun c=>?_)⟩
  ·rw[Qab]at c;unfold atR at k;rw[Qa3 (by lia)]at k;refine⟨_,rfl,_,rfl,_,_,rfl,rfl,D,_,_,_,rfl,rfl,SqT.of h1,?_,k⟩;rw[show(W:Int)-1=((W-1:Nat):Int) by lia];refine YC ?_;rw[Qah,Qac (by lia),Qaf,Qac (by lia)];rfl
  ·rw[Qab]at c;unfold atR at k;rw[Qax (by lia)]at k;have M:(I.map V.bl).length=I.length:=Qab ..;refine⟨_,rfl,_,rfl,_,_,rfl,rfl,_,rfl,D,_,rfl,.inr (SqT.of h1),_,_,rfl,rfl,_,rfl,G,_,rfl,.inr (SqT.of h2),_,_,rfl,rfl,(by grind),G,_,_,_,rfl,rfl,SqT.of h2,?_,k⟩;rw[M,Qab,show(W:Int)-1-(tl.length:Int)=((W-1-tl.length:Nat):Int) by lia,<-Qd2];have q:=Qeo (W-1-tl.length) C;refine YC ?_;rw[Qah,Qac q,Qaf,Qac q];rfl
def GH(K:Af):Sp:=fun vs H Q _=>∃(ps C:Aw) (nx:Ad) (ot:Az) (q:List (Ak)),vs=[.ref ps,.ref C]/\Jl H ps (nx.map qX)/\Jl H C ot/\ot.map (fun r=>r.map vB)=q.map (fun k=>k.map some)/\ot.length=nx.length/\(∀row∈nx,row.length<=8/\∀s∈row,s<nx.length)/\1<=nx.length/\nx.length<=1000000 /\
 ∀p (cs:Aj) H',H p=none->H' p=some (.lst (cs.map Ws))->cs.length=nx.length->XX (GZ nx cs)=cs->XX cs=cs->uy q cs->cs=Zd2 nx q nx.length->Z9 H H'->Q (.ref p) H'
theorem GI:Y6 P w K mg base CX0 2 t.cq t.cu ["steps","out"] (GH K):=by
 have D:=k9 P base T TB;have I:=JJ P base T TB;refine T.dm.F.ok Yq (fun vs H Q E h=>?_) (fun cdv A outer s H vs Q E hr h=>?_)
 ·obtain⟨_,_,_,_,_,rfl,_⟩:=h;rfl
 ·obtain⟨ps,po,nx,ot,L,rfl,Rs,Ro,hk,hlo,hnx,h1,h2,k⟩:=h;have hu:=ZL hr;refine⟨_,@QSs.out _ _ _ (Zb (Zz 2 Yq.nd (Zl T.dc D hr (Zi (qv 1) Zd)))
    (Zb (Zz 3 Yq.nd Zf)
    (Zb (WQ Qbq (Zq vA (Zp YB (Zn (y4 rfl) (by rfl) T.sf wk (Zi (qv 2) Zd)) Zf) (qv 3) (Zx _))
    (Zb (Zz 3 Yq.nd (Zp YB (Zn (y4 rfl) (by rfl) T.sf wk (Zi (qv 2) Zd)) Zf))
    (Ze (Zz 2 Yq.nd (Zl T.dc D hr (Zi (Ze1 ({}:ZQ (Zh Xw) _ ["steps","out","classes","many"] "mark" ["classes"] [2]) (⟨by rfl,by decide +kernel⟩:Two _ "mark" "row" ["classes"]) (qi_zip (b1:=false) (b2:=true) rfl T.aat (Zi (qv 2) (Zi (qv 0) Zd))) (fun _ _ _ _=>Xh) (fun _ _ _ _=>(Yc (Zi (qv 0) (Zi (Zl T.ba I hr (Zi (qv 1) (Zi (qv 2) Zd))) Zd))))) Zd))))))
    (Ze (Zo (qv 2)))))),?_⟩
  try dsimp only[L2.cxK,L2.cxK2]
  refine L2.let4 ?_;intro U3 U2 U1;obtain⟨bo,hpo,hbo,hob⟩:=yM Ro;obtain⟨bs,hps,hbs,hsb⟩:=yM Rs;have hkl:L.length=nx.length:=by
   have:=congrArg List.length hk;rw[Qab,Qab]at this;lia
  refine⟨_,rfl,Ak,_,knT,po,bo,L,rfl,.inr hpo,by lia,fun i b kk hb M=>?_,by lia,fun p0 H1 hp0 hp1 s1=>?_⟩
  ·have hi:i<ot.length:=by have:=(Qag.mp hb).1;lia
   refine⟨_,hob i _ b (Qac hi) hb,?_⟩;have e:=congrArg (fun l=>l[i]?) hk;simp only[Qah,Qac hi,M]at e;exact Option.some.inj e
  rw[yN]at hp1;refine Zg ?_;have cls0:uy L (XX L):=fun i j a b ha hb e=>(jo ha hb).mp e;refine Ge (fun σ H2=>∃(p:Aw) (cs:Aj) (C n:Nat),σ=[some (.ref ps),some (.ref po),some (.ref p),some (.int (C:Int))]/\H2 p=some (.lst (cs.map Ws))/\H p=none/\cs.length=nx.length/\XX cs=cs/\uy L cs/\cs=Zd2 nx L n/\n<=C/\C<=nx.length/\(C=0\/((Z1 cs).length<=C->XX (GZ nx cs)=cs))/\Z9 H H2) (fun σ _=>match σ with|[_,_,_,some (.int m)]=>nx.length-m.toNat|_=>0) ⟨p0,XX L,0,0,rfl,hp1,hp0,by rw[wC];exact hkl,qB L,cls0,rfl,Qak _,Qbl _,.inl rfl,s1⟩ ?_;rintro σ H2 ⟨p,cs,C,n,rfl,hp2,hpH,G,Z,hcls,hcn,hnm,hmy,hst,s2⟩;have hne:cs≠[]:=fun z=>by rw[z]at G;have:(0:Nat)=nx.length:=G;lia
  have mx:∀m∈(cs.map fun c:Nat=>(c:Int)),(∀n∈(cs.map fun c:Nat=>(c:Int)),n<=m)->m+1=((Z1 cs).length:Int):=by
   intro m hm hx;obtain⟨c,hc,rfl⟩:=Qav.mp hm;have h3:c∈XX cs:=by rw[Z];exact hc
   have:=Ze5 h3 fun n hn=>by
    rw[Z]at hn;have:=hx _ (Qb6 hn);lia
   lia
  have J:H2 p=some (.lst ((cs.map fun c:Nat=>(c:Int)).map V.int)):=by rw[hp2,Qaw];rfl
  have hsl:(Z1 cs).length<=nx.length:=by have:=wB cs;lia
  have hne':(cs.map fun c:Nat=>(c:Int))≠[]:=fun z=>hne (List.map_eq_nil_iff.mp z);refine⟨_,rfl,p,_,rfl,SqL.of J,hne',fun m hm hx=>⟨_,_,rfl,rfl,_,rfl,_,_,rfl,rfl,_,rfl,?_⟩⟩;have em:=mx m hm hx;refine x8 (fun hgt=>?_) (fun hgt=>?_)
  ·have hlt:C<(Z1 cs).length:=by
    have:=Qbh hgt;lia
   refine⟨fun σ' H'=>∃(p':Aw),σ'=[some (.ref ps),some (.ref po),some (.ref p'),some (.int ((Z1 cs).length:Int))]/\H' p'=some (.lst ((XX (GZ nx cs)).map Ws))/\H p'=none/\Z9 H H',?_,?_⟩
   ·rintro σ' H' ⟨p',rfl,hp',hpn,s'⟩;refine⟨nx.length-(Z1 cs).length,?_,?_,p',XX (GZ nx cs),(Z1 cs).length,n+1,rfl,hp',hpn,?_,qB _,Zjx G hkl hcls,by rw[hcn];rfl,by lia,hsl,.inr fun hle=>?_,s'⟩
    ·show nx.length-(Z1 cs).length<nx.length-(C:Int).toNat;rw[Qbp];lia
    ·show _=nx.length-((Z1 cs).length:Int).toNat;rw[Qbp]
    ·rw[wC,j6 G,G]
    ·rw[Zbs]at hle;have:=uh G Z hle;rw[this,this]
   ·refine⟨_,rfl,p,_,rfl,SqL.of J,hne',fun m2 hm2 hx2=>⟨_,_,rfl,rfl,?_⟩⟩;have em2:=mx m2 hm2 hx2;try dsimp only
    rw[em2];have hps2:=s2 _ _ hps;refine⟨_,rfl,_,rfl,p,ps,_,_,rfl,SqB.l J,SqB.t hps2,?_⟩;refine ue (xs:=(cs.map fun c:Nat=>(c:Int)).map V.int) (ys:=bs.map V.ref) (fun i zs H'=>∃ds:List Aw,zs=ds.map V.ref/\ds.length=i/\i<=nx.length/\(∀(j:Nat) (d:Aw) (kk:Int×Ak),ds[j]?=some d->(GZ nx cs)[j]?=some kk->Zbn H' kk d)/\Z9 H2 H') ⟨[],rfl,rfl,Qbl _,(fun j d kk hd=>by cases hd),Z9.refl _⟩ ?_ ?_ ?_ ?_
    ·rintro i zs H' ⟨ds,rfl,hd,hi,_⟩;rw[Qab,hd];exact Qa0 (Yu (by lia))
    ·rintro i zs H' ⟨ds,_,_,_,_,s'⟩;exact⟨SqB.l (s' _ _ J),SqB.t (s' _ _ hps2)⟩
    ·rintro i x y q zs H3 R hR Y hy' ⟨ds,rfl,hdl,hi,hpa,s3⟩ hq;rw[Qah,Qah]at Y;cases hc:cs[i]? with
     |none=>rw[hc]at Y;cases Y
     |some c=>
     rw[hc]at Y;cases Y;rw[Qah]at hy';obtain⟨b,hb,rfl⟩:=Qa4.mp hy';have hil:i<nx.length:=by have:=(Qag.mp hc).1;lia
     have hrow:nx[i]?=some nx[i]:=Qac hil;have hbr:H b=some (.tup (qX nx[i])):=hsb i _ b (by rw[Qah,hrow];rfl) hb;obtain⟨r8,rlt⟩:=hnx nx[i] (Qbu hil);have sq:=Zc (o:=.tup [.int (c:Int),.ref b]) hq;have s4:=(s2.trans s3).trans sq;unfold Zgm;try dsimp only
     rw[Qa3 rfl];refine⟨_,rfl,_,rfl,_,rfl,b,p,nx[i],cs.map fun c:Nat=>(c:Int),rfl,s4 _ _ hbr,(s3.trans sq) _ _ J,fun s hs=>by rw[Qab,G];exact rlt s hs,by lia,by rw[Qab];lia,fun t H5 ht0 ht s5=>⟨vx,fun d hd=>hR _ _ ⟨ds++[d],by rw[Qay];rfl,by rw[Qaj,hdl];rfl,hil,fun j d' kk hj M=>?_,((s3.trans sq).trans s5).trans (Zc hd)⟩⟩⟩;have sd:=Zc (o:=.tup [.int (c:Int),.ref t]) hd;rw[List.getElem?_append]at hj;split at hj
     ·have:=hpa j d' kk hj M;exact knP.keep _ _ _ _ (fun b xs e=>((sq.trans s5).trans sd) _ _ e) this
     ·rename_i hnl;have hji:j=i:=by
       have:=(Qag.mp hj).1;rw[List.length_singleton]at this;lia
      subst hji;rw[hdl,Qe1]at hj;cases hj;rw[JD hc hrow]at M;cases M;refine⟨t,Za,_,sd _ _ ht,?_⟩;rw[Qaw,Qaw,Qaw];refine Qbo fun s _=>?_;show some ((cs.map fun c:Nat=>(c:Int)).getD s 0)=some ((cs.getD s 0:Nat):Int);rw[Qaf,Qaf,Qah];cases cs[s]?<;>rfl
    ·rintro zs H3 ⟨ds,rfl,hdl,hi,hpa,s3⟩ l hl3;have hzl:(((cs.map fun c:Nat=>(c:Int)).map V.int).zip (bs.map V.ref)).length=nx.length:=by
      rw[Qet,Qab,Qab,Qab,G,hbs,Qab,Qgo]
     rw[hzl]at hdl;have sl:=Zc (o:=.lst (ds.map V.ref)) hl3;refine⟨Int×Ak,_,knP,l,ds,GZ nx cs,rfl,.inl Za,by rw[j6 G];lia,fun i b kk hb M=>knP.keep _ _ _ _ (fun b xs e=>sl _ _ e) (hpa i b kk hb M),by rw[j6 G];lia,fun p' H6 hp6 hq6 s6=>?_⟩;rw[yN]at hq6;have s26:=(s2.trans s3).trans (sl.trans s6);exact⟨p',rfl,hq6,(s2.trans s3).free (sl.free hp6),s26⟩
  ·have hle:(Z1 cs).length<=C:=by
    have:¬(C:Int)<m+1:=fun z=>hgt (Qan z);lia
   have O:=hst.resolve_left (fun z=>by
    have:(0:Int)<m+1:=by
     obtain⟨c,_,rfl⟩:=Qav.mp hm;lia
    lia) hle
   exact⟨_,rfl,k p cs H2 hpH hp2 G O Z hcls (by rw[hcn]at O ⊢;exact(Zfx O (by lia)).symm) s2⟩
def kH(K:Af):Sp:=fun vs H Q _=>∃(k:Key),vs=[kV k]/\Q (.int (X8 k)) H
theorem kI:Y6 P w K mg base CX0 2 t.ph t.pj ["word"] (kH K):=by
 have C:=xU P base T TB;have q:=GG P base T TB;refine T.rp.F.ok ku (fun vs H Q E h=>?_) (fun I A outer s H vs Q E D h=>?_)
 ·obtain⟨_,rfl,_⟩:=h;rfl
 ·obtain⟨G,rfl,k⟩:=h;have J:=ZL D;refine⟨_,@QSs.out _ _ _ (Ze (Zo (Zp YB (Zl T.ig C D (Zi (qv 0) Zd)) (Zl T.di q D (Zi (qv 0) Zd))))),?_⟩;exact⟨_,rfl,G,rfl,_,rfl,G,rfl,_,_,rfl,rfl,k⟩
def uF(K:Af):Sp:=fun vs H Q _=>∃(y:Str),vs=[.str y]/\y.length<=100000/\∀H',Z9 H H'->Q (.bl (decide (y∉ZK/\NmL y))) H'
omit T TB in
theorem Zgc{y:Str}:NmL y↔y.length<=8/\zI y uN:=by
 constructor
 ·intro h;refine⟨h.1.2,fun z=>?_,h.2⟩;have h1:=h.1.1;rw[len_signs,z]at h1;exact absurd h1 (by decide)
 ·intro h;refine⟨⟨?_,h.1⟩,h.2.2⟩;rw[len_signs];cases e:y.cps.toList with
  |nil=>exact absurd e h.2.1
  |cons a r=>exact Nat.succ_le_succ (Qbl _)
theorem uG:Y6 P w K mg base CX0 2 t.sr t.su ["text"] (uF K):=by
 have D:=jQ P base T TB;have q:=GD P base T TB;have C:=xS P base T TB;refine T.tu.F.ok uC (fun vs H Q E h=>?_) (fun M A outer s H vs Q E G h=>?_)
 ·obtain⟨_,rfl,_⟩:=h;rfl
 ·obtain⟨y,rfl,J,k⟩:=h;have Y:=ZL G;refine⟨_,@QSs.out _ _ _ (Zb (ZE (Wr (zY (YQ (Zl T.ie C G (Zi (qv 0) Zd))) (Js (YQ (Zl T.dh q G (Zi (qv 0) Zd))))))
    (Ze (Zo YD)) Zw)
    (Ze (Zo (kY (Yl Zhw (Zn yf (by rfl) T.ae Yb (Zi (qv 0) Zd)) (XY (v:=.int 8) rfl T.aad ⟨_,rfl⟩) (Zx _)) (qr (Zl T.lj D G (Zi (qv 0) (Zi (XY (v:=.str "abcdefghijklmnopqrstuvwxyz") rfl T.aam ⟨_,rfl⟩) Zd)))))))),?_⟩
  try dsimp only[L2.cxK,L2.cxK2]
  refine L2.let2 ?_;intro O
  by_cases h1:y∈ZK
  ·have e:decide (y∉ZK/\NmL y)=false:=Qap fun z=>z.1 h1
   rw[e]at k;refine⟨_,rfl,y,rfl,_,rfl,?_⟩
   by_cases h2:y∈JA
   ·rw[Qan h2];exact Y3 (Y3 (k H (Z9.refl H)))
   ·rw[Qap h2];have I:y∈Z5:=((vV y).mp h1).resolve_left h2;refine ZD ⟨_,rfl,.inr y,rfl,_,rfl,?_⟩;rw[show clK (.inr y)=true from Qan I];exact Y3 (k H (Z9.refl H))
  ·have h2:y∉JA:=fun z=>h1 ((vV y).mpr (.inl z))
   have I:y∉Z5:=fun z=>h1 ((vV y).mpr (.inr z));refine⟨_,rfl,y,rfl,_,rfl,?_⟩;rw[Qap h2];refine ZD ⟨_,rfl,.inr y,rfl,_,rfl,?_⟩;rw[show clK (.inr y)=false from Qap I];refine ZD ?_;refine⟨_,rfl,y,rfl,Qbc J (by decide),_,_,rfl,rfl,_,rfl,?_⟩
   by_cases L:y.length<=8
   ·rw[Qan (show(y.length:Int)<=8 by lia)];refine Y3 ⟨_,rfl,y,uN,rfl,J,fun H' s'=>?_⟩;have e:decide (zI y uN)=decide (y∉ZK/\NmL y):=by
     rw[Qdo,Qd4,Qd4,Zgc];exact⟨fun z=>⟨h1,L,z⟩,fun z=>z.2.2⟩
    rw[e];exact k H' s'
   ·rw[Qap (show¬(y.length:Int)<=8 by lia)];have e:decide (y∉ZK/\NmL y)=false:=Qap fun z=>L z.2.1.2;rw[e]at k;exact ZD (k H (Z9.refl H))
def xx(K:Af):Sp:=fun vs H Q _=>∃(C tl:Aw) (ys:Ai) (L:Nat),vs=[.ref C,.ref tl]/\H C=some (.tup (ys.map V.str))/\ys.Nodup/\ys.length<=10/\H tl=some (.lst ((List.range L).map fun i:Nat=>V.int (i:Int)))/\L<=100 /\
 ∀q kvs H',H q=none->H' q=some (.dK kvs)->Zcc kvs ys (Y9 L ys)->Z9 H H'->Q (.ref q) H'
theorem xy:Y6 P w K mg base CX0 2 t.dy t.dz ["names","letters"] (xx K):=by
 have C:=vg P base T TB;refine T.eu.F.ok YL (fun vs H Q E h=>?_) (fun cdv A outer s H vs Q E hr h=>?_)
 ·obtain⟨_,_,_,_,rfl,_⟩:=h;rfl
 ·obtain⟨tn,tl,ys,L,rfl,hn,Z,hn3,hl,hL,k⟩:=h;have hu:=ZL hr;refine⟨_,@QSs.out _ _ _ (Zb (Zz 2 YL.nd qx)
    (Zb (Xb Qbq rfl (Zeq rfl T.nz (qv 0)) (jf rfl (Xp 3 YL.nd) (Xp 4 YL.nd))
    (Ze (JP hu (qv 2) (qv 4) (Zl T.ni C hr (Zi (Z4 Z0 (by rfl) T.ah ZR (Zi (Y4 ({}:ZQ (Zh XG) _ ["names","letters","columns","place","name"] "letter" ["place"] [3]) (Xq (qv 1)) (fun _ _ _ _=>Xh) (fun _ _ _ _=>(Zp Xg (Zp kU (qv 0) (qv 1)) Zf))) Zd)) Zd)) rfl)))
    (Ze (Zo (qv 2))))),?_⟩
  try dsimp only[L2.cxK,L2.cxK2]
  refine L2.let3 ?_;intro U2 U1;refine fun O G=>Zg ?_;have s1:=Zc (o:=.dK []) G;refine⟨_,rfl,tn,_,rfl,SqT.of (s1 _ _ hn),wo (K:=K) (a:=tn) (xs:=ys.map V.str) (fun i σ H2=>∃(kvs:A0) (u3 u4:Option V),σ=[some (.ref tn),some (.ref tl),some (.ref O),u3,u4]/\H2 O=some (.dK kvs)/\Zcc kvs (ys.take i) (Y9 L ys)/\kvs.length<=i/\i<=ys.length/\Z9 H H2) ⟨[],none,none,rfl,Za,⟨fun y h=>(by cases h),fun y _=>rfl⟩,Qak _,Qbl _,s1⟩ (fun i σ H2 _ ⟨_,_,_,_,_,_,_,_,s⟩=>SqT.of (s _ _ hn)) ?_ ?_⟩
  ·rintro i x σ H2 p hx hp ⟨kvs,u3,u4,rfl,h2,J,hkl,_,s2⟩;rw[Qah]at hx;obtain⟨y,Y,rfl⟩:=Qa4.mp hx;have hi:=(Qag.mp Y).1;have s3:=s2.trans (Zc (o:=.tup [.int (i:Int),.str y]) hp);have h3:=Zc (o:=.tup [.int (i:Int),.str y]) hp _ _ h2;generalize upd H2 p (.tup [.int (i:Int),.str y])=H3 at *;have M:=s3 _ _ hl;refine⟨_,rfl,tl,rfl,⟨_,SqL.of M⟩,comp_map (xs:=(List.range L).map fun i:Nat=>V.int (i:Int)) (fI fun c=>V.int (bt c i)) (SqL.of M) (by rw[Qab,Qbb];exact Qa0 (Z2 (by lia))) (fun v hv R hR=>?_) (fun q hq=>?_)⟩
   ·obtain⟨c,_,rfl⟩:=Qav.mp hv;refine⟨_,rfl,_,rfl,_,_,rfl,rfl,Qde i,_,_,rfl,rfl,?_⟩;have e:fI (fun c=>V.int (bt c i)) (V.int (c:Int))=V.int (Builtin.bitAnd ((c:Int)/2^(i:Int).toNat) 1):=by
     show V.int (bt (c:Int) i)=_;rw[and_1,Qbp];rfl
    rw[e]at hR;exact hR
   have ex:((List.range L).map fun i:Nat=>V.int (i:Int)).map (fI fun c=>V.int (bt c i))=((List.range L).map fun l:Nat=>bt (l:Int) i).map V.int:=by
    rw[Qaw,Qaw];rfl
   rw[ex];have s4:=Zc (o:=.lst (((List.range L).map fun l:Nat=>bt (l:Int) i).map V.int)) hq;refine⟨q,_,rfl,.inl ⟨SqL.of Za,fun t ht=>?_⟩⟩;have s5:=s4.trans (Zc (o:=.tup (((List.range L).map fun l:Nat=>bt (l:Int) i).map V.int)) ht);have h5:=s5 _ _ h3;refine⟨t,(List.range L).map fun l:Nat=>bt (l:Int) i,rfl,SqT.of Za,?_⟩;generalize upd (upd H3 q (.lst (((List.range L).map fun l:Nat=>bt (l:Int) i).map V.int))) t (.tup (((List.range L).map fun l:Nat=>bt (l:Int) i).map V.int))=H5 at *;have hv:hor ((List.range L).map fun l:Nat=>bt (l:Int) i).reverse=Y9 L ys y:=by
    unfold Y9;rw[Wo Z Y]
   rw[hv];have lp:=Wc kvs (.inr y) (.int (Y9 L ys y));refine⟨_,rfl,_,rfl,O,_,rfl,uM.k (k:=.inr y) h5 (Z2 (by lia)),putK kvs (.inr y) (.int (Y9 L ys y)),_,_,rfl,Za,⟨fun z I=>?_,fun z I=>?_⟩,by lia,hi,ZS (s3.trans s5) G⟩
   ·rw[take_snoc Y]at I;rw[GP]
    by_cases D:z=y
    ·rw[Qa3 (by rw[D]),D]
    ·rw[Qax (fun e=>D (Sum.inr.inj e))];rcases Qbd.mp I with h|h
     ·exact J.1 z h
     ·exact absurd (Qar.mp h) D
   ·rw[take_snoc Y]at I;rw[GP,Qax (fun e=>I (Qbd.mpr (.inr (Qar.mpr (Sum.inr.inj e)))))];exact J.2 z fun h=>I (Qbd.mpr (.inl h))
  ·rintro σ H2 ⟨kvs,u3,u4,rfl,h2,J,hkl,_,s2⟩;rw[Qab,Qb7]at J;exact⟨_,rfl,k O kvs H2 G h2 J s2⟩
def vo(K:Af):Sp:=fun vs H Q _=>∃(y:Str) (p:Aw) (is:Ak) (h:Int),vs=[.str y,.ref p,.int h]/\H p=some (.lst (is.map V.int))/\1<=is.length/\y∈allR/\(y∈Zjv->2<=is.length)/\∀H',Z9 H H'->Q (.int (ktI y is h)) H'
theorem vp:Y6 P w K mg base CX0 2 t.mw t.my ["word","parts","held"] (vo K):=by
 have C:=xw P base T TB;refine T.nu.F.ok G3 (fun vs H Q E h=>?_) (fun cdv A outer s H vs Q E L h=>?_)
 ·obtain⟨_,_,_,_,rfl,_⟩:=h;rfl
 ·obtain⟨y,p,is,h,rfl,O,l1,Z,l2,k⟩:=h;have hu:=ZL L;refine⟨_,@QSs.out _ _ _ (Zb (Zz 3 G3.nd (Z3 Zy (qv 1) Zf))
    (Zb (ZE (Zq Yt (qv 0) Zj (Zx _))
    (Ze (Zo (qv 3))) Zw)
    (Zb (ZE (Zq Ya (qv 0) (Yc (Zi Zj (Zi Zj (Zi Zj Zd)))) (by with_unfolding_all rfl))
    (Ze (Zo (Zp x9 (qv 3) (qv 2)))) Zw)
    (Zb (ZE (Zq Yt (qv 0) Zj (Zx _))
    (Ze (Zo (Zp x9 (Zp qe (qv 3) (Z3 Zy (qv 1) Zf)) (qv 2)))) Zw)
    (Zb (ZE (Zq Yt (qv 0) Zj (Zx _))
    (Ze (Zo (Zp x9 (Zp Xg (qv 3) (Z3 Zy (qv 1) Zf)) (Zp Xg (qv 2) (Zp x9 (qv 3) (Z3 Zy (qv 1) Zf)))))) Zw)
    (Ze (Zo (Zl T.dj C L (Zi (qv 3) (Zi (Z3 Zy (qv 1) Zf) (Zi (qv 2) Zd))))))))))),?_⟩
  refine L2.let6 ?_;intro U5 U4 U3 U2 U1;have J:¬y = "twice" ->¬(y = "neg" \/ y = "low" \/ y = "nought")->y∈Zjv:=Zca y Z;unfold ktI at k;refine⟨_,rfl,p,_,0,_,rfl,rfl,SqL.of O,ZA 0 rfl l1,Zg ⟨_,rfl,rfl,_,rfl,?_⟩⟩
  by_cases h1:y = "twice"
  ·rw[Qan (congrArg V.str h1)];rw[Qa3 h1]at k;refine Y3 ?_;exact⟨_,rfl,k H (Z9.refl _)⟩
  rw[Qap (fun z=>h1 (by injection z))];rw[Qax h1]at k;refine ZD ⟨_,rfl,by decide,fun q Y=>⟨q,_,rfl,.inr (SqT.of Za),rfl,rfl,_,rfl,?_⟩⟩;show if inV (.str y) ((["neg","low","nought"]:Ai).map V.str)=true then _ else _;rw[ZC];have G:=Zc (o:=.tup [.str "neg",.str "low",.str "nought"]) Y;have pq:=G _ _ O;generalize upd H q (.tup [.str "neg",.str "low",.str "nought"])=H1 at *
  by_cases h2:y = "neg" \/ y = "low" \/ y = "nought"
  ·rw[Qan (by grind)];rw[Qa3 h2]at k;refine Y3 ?_;exact⟨_,rfl,_,rfl,_,_,rfl,rfl,k H1 G⟩
  rw[Qap (by grind)];rw[Qax h2]at k;refine ZD ⟨_,rfl,rfl,_,rfl,?_⟩
  by_cases D:y = "same"
  ·rw[Qan (congrArg V.str D)];rw[Qa3 D]at k;refine Y3 ?_;exact⟨_,rfl,_,rfl,p,_,1,_,rfl,rfl,SqL.of pq,ZA 1 rfl (l2 (by rw[D];decide +kernel)),_,_,rfl,rfl,_,rfl,_,_,rfl,rfl,k H1 G⟩
  rw[Qap (fun z=>D (by injection z))];rw[Qax D]at k;refine ZD ⟨_,rfl,rfl,_,rfl,?_⟩
  by_cases I:y = "add"
  ·rw[Qan (congrArg V.str I)];rw[Qa3 I]at k;refine Y3 ?_;have M:=l2 (by rw[I];decide +kernel);exact⟨_,rfl,_,rfl,p,_,1,_,rfl,rfl,SqL.of pq,ZA 1 rfl M,_,_,rfl,rfl,_,rfl,_,rfl,_,rfl,p,_,1,_,rfl,rfl,SqL.of pq,ZA 1 rfl M,_,_,rfl,rfl,_,_,rfl,rfl,_,_,rfl,rfl,k H1 G⟩
  rw[Qap (fun z=>I (by injection z))];rw[Qax I]at k;exact ZD ⟨_,rfl,_,rfl,p,_,1,_,rfl,rfl,SqL.of pq,ZA 1 rfl (l2 (J h1 h2)),_,rfl,_,_,_,rfl,k H1 G⟩
def zb(K:Af):Sp:=fun vs H Q _=>∃(y:Str) (p:Aw) (is:Ak) (h n:Int),vs=[.str y,.ref p,.int h,.int n]/\H p=some (.lst (is.map V.int))/\1<=is.length/\y∈allR/\(y∈Zjv->2<=is.length)/\∀H',Z9 H H'->Q (.int (okI y is h n)) H'
theorem zc:Y6 P w K mg base CX0 2 t.gb t.gi ["word","parts","held","then"] (zb K):=by
 have C:=xw P base T TB;refine T.ip.F.ok xP (fun vs H Q E h=>?_) (fun cdv A outer s H vs Q E J h=>?_)
 ·obtain⟨_,_,_,_,_,rfl,_⟩:=h;rfl
 ·obtain⟨y,p,is,h,n,rfl,hp,l1,hy,l2,k⟩:=h;have hu:=ZL J;refine⟨_,@QSs.out _ _ _ (Zb (ZE (Zq Ya (qv 0) (Yc (Zi Zj (Zi Zj Zd))) (by with_unfolding_all rfl))
    (Ze (Zo (Zp qe (Zp qe (Z3 Zy (qv 1) Zf) (Z3 Zy (qv 1) Zf)) (qv 2)))) Zw)
    (Zb (ZE (Zq Yt (qv 0) Zj (Zx _))
    (Ze (Zo (Zp qe (Z3 Zy (qv 1) Zf) (qv 2)))) Zw)
    (Zb (ZE (Zq Yt (qv 0) Zj (Zx _))
    (Ze (Zo (qv 2))) Zw)
    (Zb (ZE (Zq Yt (qv 0) Zj (Zx _))
    (Ze (Zo (Zp Xg (Z3 Zy (qv 1) Zf) (Jr qg (qv 2))))) Zw)
    (Zb (ZE (Zq Ya (qv 0) (Yc (Zi Zj (Zi Zj Zd))) (by with_unfolding_all rfl))
    (Ze (Zo (Jr qg (qv 3)))) Zw)
    (Zb (ZE (Zq Yt (qv 0) Zj (Zx _))
    (Ze (Zo (qv 3))) Zw)
    (Ze (Zo (Zl T.dj C J (Zi (Z3 Zy (qv 1) Zf) (Zi (Z3 Zy (qv 1) Zf) (Zi (qv 2) Zd)))))))))))),?_⟩
  refine L2.let7 ?_;intro U6 U5 U4 U3 U2 U1;unfold okI at k;refine⟨_,rfl,by decide,fun q hq=>⟨q,_,rfl,.inr (SqT.of Za),rfl,rfl,_,rfl,?_⟩⟩;show if inV (.str y) ((["add","sub"]:Ai).map V.str)=true then _ else _;rw[ZC];have D:=Zc (o:=.tup [.str "add",.str "sub"]) hq;have pq:=D _ _ hp;generalize upd H q (.tup [.str "add",.str "sub"])=H1 at *
  by_cases h1:y = "add" \/ y = "sub"
  ·rw[Qan (by grind)];rw[Qa3 h1]at k;refine Y3 ?_;have Z:2<=is.length:=l2 (by rcases h1 with h|h<;>rw[h]<;>decide +kernel);exact⟨_,rfl,p,_,0,_,rfl,rfl,SqL.of pq,ZA 0 rfl l1,_,rfl,p,_,1,_,rfl,rfl,SqL.of pq,ZA 1 rfl Z,_,_,rfl,rfl,_,rfl,_,_,rfl,rfl,k H1 D⟩
  rw[Qap (by grind)];rw[Qax h1]at k;refine ZD ⟨_,rfl,rfl,_,rfl,?_⟩
  by_cases h2:y = "neg"
  ·rw[Qan (congrArg V.str h2)];rw[Qa3 h2]at k;refine Y3 ?_;exact⟨_,rfl,p,_,0,_,rfl,rfl,SqL.of pq,ZA 0 rfl l1,_,rfl,_,_,rfl,rfl,k H1 D⟩
  rw[Qap (fun z=>h2 (by injection z))];rw[Qax h2]at k;refine ZD ⟨_,rfl,rfl,_,rfl,?_⟩
  by_cases G:y = "twice"
  ·rw[Qan (congrArg V.str G)];rw[Qa3 G]at k;refine Y3 ?_;exact⟨_,rfl,k H1 D⟩
  rw[Qap (fun z=>G (by injection z))];rw[Qax G]at k;refine ZD ⟨_,rfl,rfl,_,rfl,?_⟩
  by_cases O:y = "low"
  ·rw[Qan (congrArg V.str O)];rw[Qa3 O]at k;refine Y3 ?_;exact⟨_,rfl,p,_,0,_,rfl,rfl,SqL.of pq,ZA 0 rfl l1,_,rfl,_,rfl,_,_,rfl,rfl,k H1 D⟩
  rw[Qap (fun z=>O (by injection z))];rw[Qax O]at k;refine ZD ⟨_,rfl,by decide,fun r J=>⟨r,_,rfl,.inr (SqT.of Za),rfl,rfl,_,rfl,?_⟩⟩;show if inV (.str y) ((["same","nought"]:Ai).map V.str)=true then _ else _;rw[ZC];have L:=Zc (o:=.tup [.str "same",.str "nought"]) J;have Y:=L _ _ pq;generalize upd H1 r (.tup [.str "same",.str "nought"])=H2 at *
  by_cases I:y = "same" \/ y = "nought"
  ·rw[Qan (by simp only[Qao,Qa8,Qdv];exact I)];rw[Qa3 I]at k;refine Y3 ?_;exact⟨_,rfl,_,rfl,k H2 (D.trans L)⟩
  rw[Qap (by simp only[Qao,Qa8,Qdv];exact I)];rw[Qax I]at k;refine ZD ⟨_,rfl,rfl,_,rfl,?_⟩
  by_cases M:y = "under"
  ·rw[Qan (congrArg V.str M)];rw[Qa3 M]at k;refine Y3 ?_;exact⟨_,rfl,k H2 (D.trans L)⟩
  rw[Qap (fun z=>M (by injection z))];rw[Qax M]at k;exact ZD ⟨_,rfl,p,_,1,_,rfl,rfl,SqL.of Y,ZA 1 rfl (l2 (Zca y hy G (fun z=>by grind))),_,rfl,p,_,0,_,rfl,rfl,SqL.of Y,ZA 0 rfl l1,_,rfl,_,_,_,rfl,k H2 (D.trans L)⟩
def kJ(K:Af):Sp:=fun vs H Q _=>∃(pt I:Aw) (tl D:Am) (T:Nat->Bool),vs=[.ref pt,.ref I]/\H pt=some (.lst (tl.map V.bl))/\H I=some (.lst (D.map V.bl))/\1<=D.length/\D.length<=100000/\tl.length<=100000/\(∀i,atR tl D i=T i)/\∀p F G C q H',ZT T C q->H' p=some (.tup [.ref F,.ref G])->H' F=some (.tup (C.map V.bl))->H' G=some (.tup (q.map V.bl))->C.length<=100000->q.length<=100000->Z9 H H'->Q (.ref p) H'
theorem kK:Y6 P w K mg base CX0 2 t.pk t.pw ["tail","ring"] (kJ K):=by
 have q:=xY P base T TB;refine T.rq.F.ok Xz (fun vs H Q E h=>?_) (fun cdv A outer s H vs Q E hr h=>?_)
 ·obtain⟨_,_,_,_,_,rfl,_⟩:=h;rfl
 ·obtain⟨pt,M,tl,D,TT,rfl,hpt,hpr,h1,hbr,hbt,hT,k⟩:=h;have hu:=ZL hr;refine⟨_,@QSs.out _ _ _ (Zb (Zz 2 Xz.nd (Zl T.ik q hr (Zi (qv 1) Zd)))
    (Zb (Zz 3 Xz.nd (Zn Zr (by rfl) T.ae Yb (Zi (qv 0) Zd)))
    (Zb (WQ Qbq (Wr (Jt (Zq vA (qv 3) Zf (Zx _)) (XZ (Zq Yt (Z3 Zy (qv 0) (Zp YO (qv 3) Zf)) (Z3 Zy (qv 1) (Zp ZM (Zp YO (Zp YO (qv 3) Zf) (Zn Zr (by rfl) T.ae Yb (Zi (qv 0) Zd))) (qv 2))) (Zx _)))))
    (Ze (Zgx (i:=3) Xz.nd rfl (Or.inl rfl) Zf ip_sub)))
    (Zb (Zz 4 Xz.nd (Zp ZM (Zp YO (qv 3) (Zn Zr (by rfl) T.ae Yb (Zi (qv 0) Zd))) (qv 2)))
    (Ze (Zo (Yc (Zi (Z4 Z0 (by rfl) T.ah ZR (Zi (X2 Jg (qv 0) Ji (Wa (qv 3))) Zd)) (Zi (Z4 Z0 (by rfl) T.ah ZR (Zi (Zp kX (X2 Jg (qv 1) (Wa (qv 4)) (Wa (qv 2))) (X2 Jg (qv 1) Ji (Wa (qv 4)))) Zd)) Zd))))))))),?_⟩
  try dsimp only[L2.cxK,L2.cxK2]
  refine L2.let5 ?_;intro U4 U3 U2 U1;refine⟨_,rfl,M,D,rfl,hpr,h1,hbr,fun L H1 R s1=>Zg ?_⟩;have hL1:=R.one;have ln:(tl.map V.bl).length=tl.length:=Qab ..;refine⟨_,rfl,pt,_,rfl,.inl (SqL.of (s1 _ _ hpt)),Zg ?_⟩;rw[ln];have C:=s1 _ _ hpt;have J:=s1 _ _ hpr;refine Ge (fun σ H'=>∃kp:Nat,σ=[some (.ref pt),some (.ref M),some (.int (L:Int)),some (.int (kp:Int)),none]/\kp<=tl.length/\(∀i,kp<=i->i<tl.length->tl.getD i false=D.getD (ixZ ((i:Int)-tl.length) L) false)/\H'=H1) (fun σ _=>match σ with|[_,_,_,some (.int m),_]=>m.toNat|_=>0) ⟨tl.length,rfl,Qak _,fun i h1 h2=>by lia,rfl⟩ ?_;rintro σ H2 ⟨kp,rfl,hkp,hs,rfl⟩;have ixE:∀z:Int,atI (D.map V.bl) (z%(L:Int))=some (.bl (D.getD (ixZ z L) false)):=fun z=>by
   have h0:=Qbz z (show(L:Int)≠0 by lia);have h2:=Zdk (z:=z) hL1;have Y:=R.le;rw[show z%(L:Int)=((ixZ z L:Nat):Int)from(Qfd h0).symm];refine YC ?_;rw[Qah,Qac (by lia),Qaf,Qac (by lia)];rfl
  have I:(1<=kp->tl.getD (kp-1) false≠D.getD (ixZ ((kp:Int)-1-tl.length) L) false)->U3 {nx:=fun _ H'=>Q .non H',rt:=Q} [some (.ref pt),some (.ref M),some (.int (L:Int)),some (.int (kp:Int)),none] H2:=fun he=>by
   have S:=Zf7 R hT hkp hs he;have Y:=R.le;have hb:=Zdk (z:=(kp:Int)-tl.length) hL1;have eb:((kp:Int)-((tl.map V.bl).length:Int))%(L:Int)=((ixZ ((kp:Int)-tl.length) L:Nat):Int):=by
    rw[ln];exact(Qfd (Qbz _ (by lia))).symm
   refine⟨_,rfl,_,rfl,pt,_,rfl,.inl (SqL.of C),_,_,rfl,rfl,_,rfl,_,_,rfl,rfl,(by show(0:Int)<L;lia),Zg ?_⟩;try dsimp only
   rw[eb];have O:=ko hb Y;unfold rgB at S O;generalize ixZ ((kp:Int)-tl.length) L=Z at *;refine⟨_,rfl,_,rfl,_,rfl,pt,_,rfl,SqL.of C,fun l1 hl1=>⟨l1,_,rfl,.inl ⟨SqL.of Za,fun q1 hq1=>?_⟩⟩⟩;rw[X7,XU];rw[X7,XU]at hq1;have u1:=(Zc (o:=.lst ((tl.take kp).map V.bl)) hl1).trans (Zc (o:=.tup ((tl.take kp).map V.bl)) hq1);have g1:=Za (H:=upd H2 l1 (.lst ((tl.take kp).map V.bl))) (a:=q1) (o:=.tup ((tl.take kp).map V.bl));generalize upd (upd H2 l1 (.lst ((tl.take kp).map V.bl))) q1 (.tup ((tl.take kp).map V.bl))=H3 at *;have G:=u1 _ _ J;refine⟨_,rfl,_,rfl,_,rfl,_,rfl,_,rfl,M,_,rfl,SqL.of G,fun l2 hl2=>?_⟩;rw[Zf8 (by lia) Y];have u2:=Zc (o:=.lst (((D.take L).drop Z).map V.bl)) hl2;refine⟨_,rfl,_,rfl,_,rfl,M,_,rfl,SqL.of (u2 _ _ G),fun l3 hl3=>?_⟩;rw[X7,XU];have u3:=Zc (o:=.lst ((D.take Z).map V.bl)) hl3;refine⟨l2,l3,_,_,rfl,rfl,u3 _ _ Za,Za,?_,fun l4 hl4=>⟨l4,_,rfl,.inl ⟨SqL.of Za,fun q2 hq2=>⟨vx,fun p hp=>?_⟩⟩⟩⟩
   ·rw[Qab,Qab,<-Qaj,O];exact Qa0 (Yu (by lia))
   rw[<-Qay]at hq2 hp ⊢;have u4:=Zc (o:=.lst (((D.take L).drop Z++D.take Z).map V.bl)) hl4;have u5:=Zc (o:=.tup (((D.take L).drop Z++D.take Z).map V.bl)) hq2;have u6:=Zc (o:=.tup [V.ref q1,V.ref q2]) hp;have u26:=(u2.trans u3).trans (u4.trans (u5.trans u6));exact k p q1 q2 _ _ _ S Za (u26 _ _ g1) (u6 _ _ Za) (by rw[Qa2];lia) (by rw[O];lia) (s1.trans (u1.trans u26))
  refine⟨_,rfl,_,_,rfl,rfl,_,rfl,x8 (fun c=>?_) (fun c=>?_)⟩
  ·have c:=Qbh c;obtain⟨kp,rfl⟩:∃k',kp=k'+1:=⟨kp-1,by lia⟩;have e1:((kp+1:Nat):Int)-1=(kp:Int):=by lia
   have at1:atI (tl.map V.bl) (((kp+1:Nat):Int)-1)=some (.bl (tl.getD kp false)):=by
    rw[e1];refine YC ?_;rw[Qah,Qac (by lia),Qaf,Qac (by lia)];rfl
   refine⟨_,rfl,_,rfl,_,_,rfl,rfl,pt,_,_,_,rfl,rfl,SqL.of C,at1,_,rfl,_,rfl,_,_,rfl,rfl,_,rfl,pt,_,rfl,.inl (SqL.of C),_,_,rfl,rfl,_,rfl,_,_,rfl,rfl,(by show(0:Int)<L;lia),M,_,_,_,rfl,rfl,SqL.of J,ixE _,rfl,_,rfl,?_⟩;rw[ln]
   by_cases e:tl.getD kp false=D.getD (ixZ (((kp+1:Nat):Int)-1-(tl.length:Int)) L) false
   ·rw[e,Qan rfl];refine Y3 ⟨fun σ' H'=>σ'=[some (.ref pt),some (.ref M),some (.int (L:Int)),some (.int (((kp+1:Nat):Int)-1)),none]/\H'=H2,?_,_,rfl,_,_,rfl,rfl,rfl,rfl⟩;rintro σ' H' ⟨rfl,rfl⟩;refine⟨kp,by show kp<((kp+1:Nat):Int).toNat;lia,by show kp=(((kp+1:Nat):Int)-1).toNat;lia,kp,by rw[e1],by lia,fun i i1 i2=>?_,rfl⟩
    by_cases z:i=kp
    ·rw[z,e,e1]
    ·exact hs i (by lia) i2
   ·rw[Qap (fun z=>e (by injection z))];exact ZD (I fun _=>e)
  ·have c0:kp=0:=by
    rcases Qgu kp with z|z
    ·exact z
    ·exact absurd (Qan (show(0:Int)<(kp:Int) by lia)) c
   exact ZD (I fun z=>by lia)
def vq(K:Af):Sp:=fun vs H Q _=>∃(a:Aw) (ns:Ak) (st q:Nat),vs=[.ref a,.int (st:Int),.int (q:Int)]/\SqL K H a (ns.map V.int)/\ns.length<=63/\st<=10/\q<=3/\∀p (C:Ai) H',H' p=some (.lst (C.map V.str))->C.Nodup->C.length<=q->(∀y∈C,NmS y)->Z9 H H'->Q (.ref p) H'
theorem vt:Y6 P w K mg base CX0 2 t.mz t.nc ["script","start","many"] (vq K):=by
 have C:=kE P base T TB;have q:=Wj P base T TB;refine T.nv.F.ok WK (fun vs H Q E h=>?_) (fun cdv A outer s H vs Q E Y h=>?_)
 ·obtain⟨_,_,_,_,rfl,_⟩:=h;rfl
 ·obtain⟨a,ns,st,D,rfl,hS,h63,hst,hm,k⟩:=h;have hu:=ZL Y;refine⟨_,@QSs.out _ _ _ (Zb (Zz 3 WK.nd qx)
    (Zb (Xb Qbq rfl (XM rfl T.au (Zi (qv 2) Zd)) (Xp 4 WK.nd)
    (Ze (JP hu (qv 3) (Zl T.ro C Y (Zi (Zl T.ay q Y (Zi (qv 0) (Zi (Zp YB (qv 1) (qv 4)) Zd))) Zd)) YD rfl)))
    (Ze (Zo (Zn (y9 rfl) (by rfl) T.cf Jq (Zi (qv 3) Zd)))))),?_⟩
  refine L2.let3 ?_;intro U2 U1;refine fun d hd=>Zg ?_;have s1:=Zc (o:=.dK []) hd;have M:upd H d (.dK []) d=some (.dK []):=Za;refine⟨_,rfl,(D:Int),rfl,by lia,by lia,XJ (fun i σ H'=>∃(u4:Option V) (kvs:A0) (S:Ai),σ=[some (.ref a),some (.int (st:Int)),some (.int (D:Int)),some (.ref d),u4]/\H' d=some (.dK kvs)/\kvs.map (·.1)=S.map Sum.inr/\S.Nodup/\S.length<=i/\(∀y∈S,NmS y)/\Z9 H H') ⟨none,[],[],rfl,M,rfl,Qck,Qak _,(fun _ z=>nomatch z),s1⟩ ?_ ?_⟩
  ·rintro i σ H2 hi ⟨u4,kvs,S,rfl,I,J,G,hl,hn,L⟩;refine⟨_,rfl,_,rfl,_,rfl,_,rfl,_,_,rfl,rfl,a,ns,st+i,?_,jC hS L,h63,by lia,fun r H3 r0 r1 s3=>⟨r,rfl,r0,r1,fun y H4 hy s4=>⟨d,_,rfl,uM.k (k:=.inr y) (s4 _ _ (s3 _ _ I)) ?_,?_⟩⟩⟩
   ·grind
   ·have:=congrArg List.length J;rw[Qab,Qab]at this;exact Z2 (by lia)
   ·obtain⟨S',g1,g2,g3,g4⟩:=Zkq (v:=.bl true) J G y;refine⟨_,_,S',rfl,Za,g1,g2,by lia,fun z hz=>?_,ZS (L.trans (s3.trans s4)) hd⟩;rcases g4 z hz with h|h
    ·exact hn z h
    ·rw[h];exact hy
  ·rintro σ H2 ⟨u4,kvs,S,rfl,I,J,G,hl,hn,L⟩;exact⟨_,rfl,d,kvs,S,rfl,.inl I,J,by lia,fun l ms Z O hs=>k l ms _ Za (O.nodup_iff.mpr G) (by rw[O.length_eq];exact hl) (fun y hy=>hn y (O.mem_iff.mp hy)) (L.trans (Zc Z))⟩
def Gm(K:Af):Sp:=fun vs H Q _=>∃(r C:Int) (f:Aw) (D l1:Int),vs=[.int r,.int C,.ref f]/\0<=r/\0<=C/\H f=some (.lst [.int D,.int l1])/\0<=l1/\∀(y:Str) (q:Int) H',y∈Z5->((lpS y).length:Int)<=C->q+Zf2 y jW=l1->0<=q->H' f=some (.lst [.int D,.int q])->SmL f H H'->Q (.str y) H'
theorem Gn:Y6 P w K mg base CX0 2 t.bq t.br ["number","room","left"] (Gm K):=by
 have q:=XD P base T TB;refine T.bz.F.ok Z8 (fun vs H Q E h=>?_) (fun cdv A outer s H vs Q E hr h=>?_)
 ·obtain⟨_,_,_,_,_,rfl,_⟩:=h;rfl
 ·obtain⟨r,Y,f,l0,l1,rfl,hr0,hrm,hf,hl1,k⟩:=h;have hu:=ZL hr;refine⟨_,@QSs.out _ _ _ (Zb (Zz 3 Z8.nd (ZN (Zi Zj (Zi Zj (Zi Zj (Zi Zj (Zi Zj (Zi Zj (Zi Zj (Zi Zj (Zi Zj (Zi Zj Zd))))))))))))
    (Zb (Zz 3 Z8.nd (Zp kX (qv 3) (ZN (Zi Zj (Zi Zj (Zi Zj (Zi Zj (Zi Zj (Zi Zj Zd)))))))))
    (Zb (Zz 4 Z8.nd (Z3 Zy (qv 3) (Zp ZM (qv 0) Zf)))
    (Zb (Zz 5 Z8.nd (Yl Ya (qv 4) (Yc (Zi Zj (Zi Zj (Zi Zj (Zi Zj (Zi Zj Zd)))))) (by with_unfolding_all rfl)))
    (Zb (ZE (Wr (zY (Zq vA (Zn Zr (by rfl) T.ae Yb (Zi (Zl T.av q hr (Zi (qv 4) Zd)) Zd)) (qv 1) (Zx _)) (Js (Wr (Jt (YQ (qv 5)) (XZ (Zq Yt (Z3 Zy (qv 2) Zf) Zf (Zx _))))))))
    (Zb (Zz 4 Z8.nd Zj)
    (Zb (Zz 5 Z8.nd YD)
    (Ze (ZE (Wr (Jt (Zq vA (qv 1) Zf (Zx _)) (XZ (Zq vA (Z3 Zy (qv 2) Zf) Zf (Zx _)))))
    (Zb (Zz 4 Z8.nd (Z3 Zy (ZN (Zi Zj (Zi Zj Zd))) (Zp ZM (Zp Yi (qv 0) Zf) Zf)))
    (Ze (Zz 5 Z8.nd YD))) Zw)))) Zw)
    (Zb (kZ (Zp YO (Z3 Zy (qv 2) Zf) (Z4 qh (by rfl) T.dt zh (Zi (qv 5) Zd))) (Zgl (qv 2) Zf set_list))
    (Ze (Zo (qv 4))))))))),?_⟩
  try dsimp only[L2.cxK,L2.cxK2]
  refine L2.let7 ?_;intro U6 U5 U4 U3 U2 U1;refine⟨zln10,fun m1 hm1=>?_⟩;refine⟨_,rfl,zln6,fun m2 M=>⟨m1,m2,_,_,rfl,rfl,Zc M _ _ Za,Za,zln16,fun m hm=>?_⟩⟩;have s1:=((Zc (o:=.lst [.str "same",.str "same",.str "under",.str "under",.str "beneath",.str "sign",.str "nought",.str "nought",.str "both",.str "both"]) hm1).trans (Zc (o:=.lst [.str "either",.str "either",.str "so",.str "never",.str "never",.str "yes"]) M)).trans (Zc (o:=.lst (uz.map V.str)) hm);obtain⟨y,hy,ey⟩:=xn (l:=uz) (i:=r%16) (Qbz _ (by decide)) (Qb0 _ (by decide));have G:=Zf3 y hy;refine⟨_,rfl,_,rfl,_,_,rfl,rfl,(by show(0:Int)<16;decide),m,_,_,_,rfl,rfl,SqL.of (Za (o:=.lst (uz.map V.str))),ey,Zg ?_⟩;show ZZ _ _ _ _ (upd _ m (.lst (uz.map V.str)));generalize upd (upd (upd H m1 (.lst [.str "same",.str "same",.str "under",.str "under",.str "beneath",.str "sign",.str "nought",.str "nought",.str "both",.str "both"])) m2 (.lst [.str "either",.str "either",.str "so",.str "never",.str "never",.str "yes"])) m (.lst (uz.map V.str))=H1 at *;refine⟨_,rfl,zln5,fun q1 hq1=>⟨q1,_,rfl,.inr (SqT.of Za),rfl,rfl,Zg ?_⟩⟩;rw[show inV (.str y) [V.str "same",V.str "under",V.str "beneath",V.str "sign",V.str "nought"]=decide (y∈jW)from ZC y jW];have L:=s1.trans (Zc (o:=.tup [V.str "same",V.str "under",V.str "beneath",V.str "sign",V.str "nought"]) hq1);generalize upd H1 q1 (.tup [V.str "same",V.str "under",V.str "beneath",V.str "sign",V.str "nought"])=H2 at *;refine vU (fun σ H'=>∃(D:Str) (jb:Bool),σ=[some (.int r),some (.int Y),some (.ref f),some (.ref m),some (.str D),some (.bl jb)]/\jb=decide (D∈jW)/\D∈Z5/\((lpS D).length:Int)<=Y/\(D∈jW->1<=l1)/\Z9 H H') (fun N hN=>?_) ?_
  ·refine⟨_,rfl,.str y,rfl,.inl ⟨y,rfl⟩,fun p H3 hp0 hp C=>⟨p,_,rfl,.inl (SqL.of hp),_,rfl,_,_,rfl,rfl,_,rfl,x8 (fun c=>?a) (fun c=>⟨_,rfl,_,rfl,x8 (fun c2=>⟨_,rfl,f,_,1,_,rfl,rfl,SqL.of ((L.trans C) _ _ hf),rfl,rfl,_,rfl,x8 (fun c3=>?b) (fun c3=>?c)⟩) (fun c2=>?d)⟩)⟩⟩
   case c=>
    refine hN _ _ ⟨y,_,rfl,rfl,G,?_,fun _=>?_,L.trans C⟩
    ·have:=fun z=>c (Qan z)
     rw[Qab]at this;exact Int.not_lt.mp this
    ·have:¬l1=0:=fun z=>c3 (Qan (by rw[z]))
     lia
   case d=>
    refine hN _ _ ⟨y,_,rfl,rfl,G,?_,fun z=>absurd (Qan z) c2,L.trans C⟩;have:=fun z=>c (Qan z);rw[Qab]at this;exact Int.not_lt.mp this
   all_goals
    have I:=(L.trans C) _ _ hf;have J:N [some (.int r),some (.int Y),some (.ref f),some (.ref m),some (.str "yes"),some (.bl false)] H3:=hN _ _ ⟨"yes",false,rfl,by decide +kernel,by decide +kernel,by show((0:Nat):Int)<=Y;lia,fun z=>absurd z (by decide +kernel),L.trans C⟩;try refine Y3 ?_
    refine Zg ?_;refine Zg ?_;refine⟨_,rfl,_,_,rfl,rfl,_,rfl,x8 (fun e1=>⟨_,rfl,f,_,1,_,rfl,rfl,SqL.of I,rfl,_,_,rfl,rfl,_,rfl,x8 (fun e2=>?_) (fun e2=>J)⟩) (fun e1=>J)⟩;obtain⟨O,hy2,ey2⟩:=xn (l:=["sign","nought"]) (i:=r/16%2) (Qbz _ (by decide)) (Qb0 _ (by decide));have f2:O∈Z5/\(lpS O).length=1/\O∈jW:=(by decide +kernel:∀y∈(["sign","nought"]:Ai),y∈Z5/\(lpS y).length=1/\y∈jW) O hy2;have g1:=Qbh e1;have g2:=Qbh e2;exact⟨vx,fun l hl=>⟨_,rfl,_,_,rfl,rfl,.of (by decide) (by decide),_,_,rfl,rfl,(by show(0:Int)<2;decide),l,_,_,_,rfl,rfl,SqL.of Za,ey2,Zg (Zg (hN _ _ ⟨O,true,rfl,(Qan f2.2.2).symm,f2.1,by rw[f2.2.1];show(1:Int)<=Y;lia,fun _=>by lia,(L.trans C).trans (Zc hl)⟩))⟩⟩
  ·rintro σ H3 ⟨D,jb,rfl,rfl,G,Z,hj,C⟩;have I:=C _ _ hf;refine⟨_,rfl,f,_,1,_,rfl,rfl,SqL.of I,rfl,_,rfl,.inr ⟨_,rfl,_,_,rfl,rfl,_,rfl,f,_,1,1,rfl,rfl,I,rfl,?_⟩⟩;refine⟨_,rfl,k D _ _ G Z ?_ ?_ Za (SmL.of C).put⟩
   ·unfold Zf2
    by_cases h:D∈jW
    ·rw[Qa3 h,Qa3 (Qan h)];lia
    ·rw[Qax h,Qax (fun z=>h (Qbh z))];lia
   ·by_cases h:D∈jW
    ·rw[Qa3 (Qan h)];have:=hj h;lia
    ·rw[Qax (fun z=>h (Qbh z))];lia
def x5(K:Af):Sp:=fun vs H Q _=>∃(r D:Int) (f pn:Aw) (C l1 F:Int) (nm:Ai),vs=[.int r,.int D,.ref f,.ref pn,.int F]/\0<=r/\0<=D/\H f=some (.lst [.int C,.int l1])/\0<=C/\H pn=some (.lst (nm.map V.str))/\nm.length<=3/\1<=F/\F<=1000/\∀(w:V) (q:Int) H',((∃y,w=.str y/\y∈JA/\((lpS y).length:Int)<=D/\q+Zf2 y qU=C)\/(∃y,w=.str y/\y∈nm/\q=C)\/∃z:Int,w=.int z/\0<=z/\z<1000/\q=C)->0<=q->H' f=some (.lst [.int q,.int l1])->SmL f H H'->Q w H'
theorem x6:Y6 P w K mg base CX0 2 t.ee t.eh ["number","room","left","names","top"] (x5 K):=by
 have C:=XD P base T TB;refine T.fe.F.ok Y0 (fun vs H Q E h=>?_) (fun cdv A outer s H vs Q E hr h=>?_)
 ·obtain⟨_,_,_,_,_,_,_,_,rfl,_⟩:=h;rfl
 ·obtain⟨r,rm,f,pn,O,l1,J,nm,rfl,hr0,hrm,Z,hl0,hn,hn3,ht1,ht2,k⟩:=h;have hu:=ZL hr;refine⟨_,@QSs.out _ _ _ (Zb (Zz 5 Y0.nd (ZN (Zi Zj (Zi Zj (Zi Zj (Zi Zj (Zi Zj (Zi Zj (Zi Zj (Zi Zj (Zi Zj (Zi Zj (Zi Zj Zd)))))))))))))
    (Zb (ZE (Zq Zad (Zp ZM (qv 0) Zf) Zf (Zx _))
    (Zb (Zz 6 Y0.nd (Z3 Zy (qv 5) (Zp ZM (qv 0) Zf)))
    (Zb (Zz 7 Y0.nd (Yl Ya (qv 6) (Yc (Zi Zj (Zi Zj (Zi Zj (Zi Zj (Zi Zj Zd)))))) (by with_unfolding_all rfl)))
    (Ze (ZE (Wr (Jt (Zq Zhw (Zn Zr (by rfl) T.ae Yb (Zi (Zl T.av C hr (Zi (qv 6) Zd)) Zd)) (qv 1) (Zx _)) (XZ (Wr (zY (zi (YQ (qv 7))) (Js (Zq vA (Z3 Zy (qv 2) Zf) Zf (Zx _))))))))
    (Zb (kZ (Zp YO (Z3 Zy (qv 2) Zf) (Z4 qh (by rfl) T.dt zh (Zi (qv 7) Zd))) (Zgl (qv 2) Zf set_list))
    (Ze (Zo (qv 6)))) Zw)))) Zw)
    (Zb (Zz 0 Y0.nd (Zp Yi (qv 0) Zf))
    (Zb (ZE (Wr (Jt (Zq (jg (Wb hr)) (qv 3) (ZN Zd) (Zx _)) (XZ (Zq Zad (Zp ZM (qv 0) Zf) Zf (Zx _)))))
    (Ze (Zo (Z3 Zy (qv 3) (Zp ZM (Zp Yi (qv 0) Zf) (Zn Zr (by rfl) T.ae Yb (Zi (qv 3) Zd)))))) Zw)
    (Ze (Zo (Z3 Zy (ZN (Zi (Zp ZM (Zp Yi (qv 0) Zf) Zf) (Zi (Zp ZM (Zp Yi (qv 0) Zf) (qv 4)) Zd))) (Zp ZM (Zp Yi (qv 0) Zf) Zf)))))))),?_⟩
  try dsimp only[L2.cxK,L2.cxK2]
  refine L2.let5 ?_;intro U4 U3 U2 U1;refine⟨zln11,fun m hm=>Zg ?_⟩;have s1:=Zc (o:=.lst (kj.map V.str)) hm;show ZZ _ _ _ _ (upd H m (.lst (kj.map V.str)));have hm1:upd H m (.lst (kj.map V.str)) m=some (.lst (kj.map V.str)):=Za;generalize upd H m (.lst (kj.map V.str))=H1 at *;have hf1:=s1 _ _ Z;refine vU (fun σ H'=>∃u6 u7,σ=[some (.int r),some (.int rm),some (.ref f),some (.ref pn),some (.int J),some (.ref m),u6,u7]/\Z9 H H') (fun N hN=>?_) ?_
  ·refine⟨_,rfl,_,_,rfl,rfl,(by show(0:Int)<16;decide),_,_,rfl,rfl,_,rfl,x8 (fun c=>?_) (fun c=>hN _ _ ⟨_,_,rfl,s1⟩)⟩;have c:=Qbh c;obtain⟨y,hy,ey⟩:=xn (l:=kj) (i:=r%16) (Qbz _ (by decide)) c;obtain⟨hyc,G⟩:=Zf4 y hy;refine⟨_,rfl,_,rfl,_,_,rfl,rfl,(by show(0:Int)<16;decide),m,_,_,_,rfl,rfl,SqL.of hm1,ey,Zg ?_⟩;refine⟨_,rfl,zln5,fun q1 hq1=>⟨q1,_,rfl,.inr (SqT.of Za),rfl,rfl,Zg ?_⟩⟩;rw[show inV (.str y) [V.str "add",V.str "sub",V.str "neg",V.str "twice",V.str "low"]=decide (y∈(["add","sub","neg","twice","low"]:Ai))from ZC y ["add","sub","neg","twice","low"]];have I:=s1.trans (Zc (o:=.tup [V.str "add",V.str "sub",V.str "neg",V.str "twice",V.str "low"]) hq1);generalize upd H1 q1 (.tup [V.str "add",V.str "sub",V.str "neg",V.str "twice",V.str "low"])=H2 at *;refine⟨_,rfl,.str y,rfl,.inl ⟨y,rfl⟩,fun p H3 hp0 hp D=>⟨p,_,rfl,.inl (SqL.of hp),_,rfl,_,_,rfl,rfl,_,rfl,x8 (fun c1=>⟨_,rfl,_,rfl,x8 (fun c2=>?a) (fun c2=>?b)⟩) (fun c1=>hN _ _ ⟨_,_,rfl,I.trans D⟩)⟩⟩
   case' a=>
    refine Y3 ?_;have hz:y∈qU->1<=O:=fun h=>by
     have c2:(!decide (y∈(["add","sub","neg","twice","low"]:Ai)))=true:=c2;rw[Qan (G.mpr h)]at c2;cases c2
   case' b=>
    refine⟨_,rfl,f,_,0,_,rfl,rfl,SqL.of ((I.trans D) _ _ Z),rfl,_,_,rfl,rfl,_,rfl,x8 (fun c3=>?_) (fun c3=>hN _ _ ⟨_,_,rfl,I.trans D⟩)⟩;have hz:y∈qU->1<=O:=fun _=>by have:=Qbh c3;lia
   all_goals
    have hf3:=(I.trans D) _ _ Z;have hlen:((lpS y).length:Int)<=rm:=by
     have:=Qbh c1;rw[Qab]at this;exact this
    refine⟨_,rfl,f,_,0,_,rfl,rfl,SqL.of hf3,rfl,_,rfl,.inr ⟨_,rfl,_,_,rfl,rfl,_,rfl,f,_,0,0,rfl,rfl,hf3,rfl,_,rfl,k (.str y) _ _ (.inl ⟨y,rfl,hyc,hlen,?_⟩) ?_ Za (SmL.of (I.trans D)).put⟩⟩
    ·show O-(if decide (y∈(["add","sub","neg","twice","low"]:Ai))=true then 1 else 0)+Zf2 y qU=O;unfold Zf2
     by_cases h:y∈qU
     ·rw[Qa3 h,Qa3 (Qan (G.mpr h))];lia
     ·rw[Qax h,Qax (fun z=>h (G.mp (Qbh z)))];lia
    ·show 0<=O-(if decide (y∈(["add","sub","neg","twice","low"]:Ai))=true then 1 else 0)
     by_cases h:y∈qU
     ·rw[Qa3 (Qan (G.mpr h))];have:=hz h;lia
     ·rw[Qax (fun z=>h (G.mp (Qbh z)))];lia
  ·rintro σ H2 ⟨u6,u7,rfl,I⟩;have hf2:=I _ _ Z;have hn2:=I _ _ hn;refine⟨_,rfl,_,_,rfl,rfl,.of (by decide) (by decide),Zg ?_⟩;have q0:0<=r/16:=by lia
   try dsimp only
   generalize r/16=q at *;have L:∀H3,Z9 H H3->U4 {nx:=fun _ H'=>Q .non H',rt:=Q} [some (.int q),some (.int rm),some (.ref f),some (.ref pn),some (.int J),some (.ref m),u6,u7] H3:=fun H3 D=>by
    obtain⟨z,ez,z0,z1⟩:∃z:Int,atI [V.int (q/8%3),V.int (q/8%J)] (q/4%2)=some (.int z)/\0<=z/\z<1000:=by
     have t0:0<=q/8%J:=Qbz _ (by lia);have t1:q/8%J<J:=Qb0 _ (by lia);rcases(by lia:q/4%2=0\/q/4%2=1)with e|e<;>rw[e]
     ·exact⟨q/8%3,rfl,by lia,by lia⟩
     ·exact⟨q/8%J,rfl,t0,by lia⟩
    exact⟨_,rfl,_,_,rfl,rfl,.of (by decide) (by decide),_,_,rfl,rfl,(by show(0:Int)<3;decide),_,rfl,_,_,rfl,rfl,.of (by decide) (by decide),_,rfl,_,_,rfl,rfl,(by show(0:Int)<J;lia),vx,fun l hl=>⟨_,rfl,_,_,rfl,rfl,.of (by decide) (by decide),_,_,rfl,rfl,(by show(0:Int)<2;decide),l,_,_,_,rfl,rfl,SqL.of Za,ez,k (.int z) O _ (.inr (.inr ⟨z,rfl,z0,z1,rfl⟩)) hl0 ((D.trans (Zc hl)) _ _ Z) (SmL.of (D.trans (Zc hl)))⟩⟩
   refine⟨_,rfl,g9,fun e he=>⟨pn,e,_,_,rfl,rfl,SqL.of (Zc he _ _ hn2),SqL.of Za,Qcb.mpr fun v hv=>(by obtain⟨y,_,rfl⟩:=Qav.mp hv;rfl),rfl,_,rfl,?_⟩⟩;have D:=I.trans (Zc (o:=.lst []) he);cases nm with
   |nil=>exact L _ D
   |cons y0 rest=>
    refine Y3 ⟨_,rfl,_,_,rfl,rfl,(by show(0:Int)<4;decide),_,_,rfl,rfl,_,rfl,x8 (fun c=>?_) (fun c=>L _ D)⟩;have Y:(0:Int)<((y0::rest).length:Int):=by rw[Qba];lia
    obtain⟨y,hy,ey⟩:=xn (l:=y0::rest) (i:=q/4%((y0::rest).length:Int)) (Qbz _ (by lia)) (Qb0 _ Y);have M:=D _ _ hn;rw[<-Qab V.str]at ey Y;exact⟨_,rfl,_,rfl,_,_,rfl,rfl,.of (by decide) (by decide),_,rfl,pn,_,rfl,.inl (SqL.of M),_,_,rfl,rfl,Y,pn,_,_,_,rfl,rfl,SqL.of M,ey,k (.str y) O _ (.inr (.inl ⟨y,rfl,hy,rfl⟩)) hl0 (D _ _ Z) (SmL.of D)⟩
def kL(K:Af):Sp:=fun vs H Q _=>∃(tw C:Aw) (W:Nat) (ys:Ai) (q:A2) (kvs:A0) (ρ:Str->Int) (b:Bool),vs=[.ref tw,.int (2^W),.ref C]/\1<=W/\W<=64/\H tw=some (.tup q)/\q.length<=100/\H C=some (.dK kvs)/\Zcc kvs ys ρ/\(∀y∈ys,0<=ρ y/\ρ y<2^W)/\(∀y∈ys,y∉ZK)/\TyR ys q [true]/\XW (2^W) ρ q []=[.bl b]/\∀H',Z9 H H'->Q (.bl b) H'
theorem kM:Y6 P w K mg base CX0 2 t.qs t.rb ["words","full","values"] (kL K):=by
 have J:=XD P base T TB;have G:=jT P base T TB;have I:=jV P base T TB;refine T.rr.F.ok YX (fun vs H Q E h=>?_) (fun cdv A outer s H vs Q E hr h=>?_)
 ·obtain⟨_,_,_,_,_,_,_,_,rfl,_⟩:=h;rfl
 ·obtain⟨tw,dv,W,ys,C,kvs,ρ,b,rfl,hW1,hW,ht,hl,hd,hc,hρ,hyk,hty,hrun,k⟩:=h;have hu:=ZL hr;refine⟨_,@QSs.out _ _ _ (Zb (Zz 3 YX.nd (ZN Zd))
    (Zb (Xb Qbq rfl (Xr (qe_rev rv_tup (qv 0) (Jr qf Zf))) (Xp 4 YX.nd)
    (Ze (ZE (YQ (Zn X1 (by rfl) T.ak Ye (Zi (qv 4) (Zi (Wx (v:=.ty "int") (by rfl) T.dt zh rfl) Zd))))
    (Ze (Yn (YE Qau Qa5 Qa6 ZF (qv 3) (Zi (Zp ZM (qv 4) (qv 1)) Zd)))) (Ze (ZE (Zq (zq hu) (qv 4) (qv 2) (by with_unfolding_all rfl))
    (Ze (Yn (YE Qau Qa5 Qa6 ZF (qv 3) (Zi (qw hu (qv 2) (qv 4) (fun _ _=>rfl)) Zd)))) (Ze (ZE (Zq Yt (qv 4) Zj (Zx _))
    (Ze (Yn (YE Qau Qa5 Qa6 ZF (qv 3) (Zi YD Zd)))) (Ze (ZE (Zq Yt (qv 4) Zj (Zx _))
    (Zb (Zz 5 YX.nd (WZ Qau Qcn Qco Jp (qv 3)))
    (Zb (Zz 6 YX.nd (WZ Qau Qcn Qco Jp (qv 3)))
    (Ze (Yn (YE Qau Qa5 Qa6 ZF (qv 3) (Zi (Zp x9 (Zp Xg (qv 5) (qv 6)) (Zp Xg (Zp YO (Zp YO (qv 1) Zf) (qv 5)) (WZ Qau Qcn Qco Jp (qv 3)))) Zd)))))) (Ze (ZE (Zq Yt (Zn Zr (by rfl) T.ae Yb (Zi (Zl T.av J hr (Zi (qv 4) Zd)) Zd)) Zf (Zx _))
    (Ze (Yn (YE Qau Qa5 Qa6 ZF (qv 3) (Zi (Zl T.lu G hr (Zi (qv 4) (Zi (WZ Qau Qcn Qco Jp (qv 3)) (Zi (qv 1) Zd)))) Zd)))) (Zb (Zz 5 YX.nd (WZ Qau Qcn Qco Jp (qv 3)))
    (Ze (Yn (YE Qau Qa5 Qa6 ZF (qv 3) (Zi (Zl T.lx I hr (Zi (qv 4) (Zi (qv 5) (Zi (WZ Qau Qcn Qco Jp (qv 3)) (Zi (qv 1) Zd))))) Zd))))))))))))))))
    (Ze (Zo (Z3 Zy (qv 3) Zf))))),?_⟩
  try dsimp only[L2.cxK,L2.cxK2]
  refine L2.let3 ?_;intro U2 U1;have hp:=GW W;refine⟨g9,fun st D=>Zg ?_⟩;have s1:=Zc (o:=.lst []) D;refine⟨_,rfl,1,rfl,rfl,tw,_,rfl,SqT.of (s1 _ _ ht),fun Y htr=>⟨_,rfl,⟨_,SqT.of Za⟩,?_⟩⟩;have s2:=s1.trans (Zc (o:=.tup C.reverse) htr);have htr2:upd (upd H st (.lst [])) Y (.tup C.reverse) Y=some (.tup C.reverse):=Za;have hst2:upd (upd H st (.lst [])) Y (.tup C.reverse) st=some (.lst []):=Zc htr _ _ Za;have M:Y≠st:=fun z=>by rw[z,Za]at htr;cases htr
  generalize upd (upd H st (.lst [])) Y (.tup C.reverse)=H0 at *;refine zW (K:=K) (a:=Y) (xs:=C.reverse) (fun i σ H2=>∃u5 u6 u7,σ=[some (.ref tw),some (.int (2^W)),some (.ref dv),some (.ref st),u5,u6,u7]/\i<=C.length/\H2 st=some (.lst (XW (2^W) ρ (C.drop (C.length-i)) []).reverse)/\H2 Y=some (.tup C.reverse)/\Z9 H H2) ⟨none,none,none,rfl,Qbl _,?_,htr2,s2⟩ (fun i σ H2 _ ⟨_,_,_,_,_,_,e,_⟩=>SqT.of e) ?_ ?_
  ·rw[Qho,Qen];exact hst2
  ·rintro i x σ H2 hx ⟨u5,u6,u7,rfl,hi0,q,L,s3⟩;obtain⟨hi,hx⟩:=Zg0 hx;have ed:C.drop (C.length-(i+1))=x::C.drop (C.length-i):=by
    rw[show C.length-(i+1)=C.length-1-i by lia,Qc2 (by lia),show C.length-1-i+1=C.length-i by lia];congr 1;exact(Qag.mp hx).2
   obtain⟨ks,hk⟩:=hty.drop (C.length-(i+1));rw[ed]at hk ⊢;have hle:(C.drop (C.length-i)).length<=100:=by rw[Qbr];lia
   generalize C.drop (C.length-i)=r at *;rw[Xd];have O:(XW (2^W) ρ r []).length<=100:=by
    rw[jE];exact Qbc (vX r) hle
   have fin:∀(v:V) (Hx:Hp) (l:A2),l.length<=100->Hx st=some (.lst l.reverse)->Hx Y=some (.tup C.reverse)->Z9 H Hx->l.reverse.length<sizeLine/\upd Hx st (.lst (l.reverse++[v])) st=some (.lst (v::l).reverse)/\upd Hx st (.lst (l.reverse++[v])) Y=some (.tup C.reverse)/\Z9 H (upd Hx st (.lst (l.reverse++[v]))):=fun v Hx l hl' e1 e2 sx=>by
    refine⟨?_,by rw[Za,Qcq],by rw[Zk M];exact e2,ZS sx D⟩;rw[Qc7];exact Z2 (by lia)
   obtain⟨R0,h0⟩:∃R0,XW (2^W) ρ r []=R0:=⟨_,rfl⟩;rw[h0]at q O ⊢;generalize h1:cvV (2^W) ρ x (R0.take (npw x))::R0.drop (npw x)=R1;have hd2:=s3 _ _ hd;rcases Zkm hW1 hyk hρ hk h0 h1 with⟨z,rfl,rfl⟩|⟨y,rfl,hy,rfl⟩|⟨y,rfl,hny,hc4⟩
   ·obtain⟨f1,f2,f3,f4⟩:=fin (.int (z%2^W)) H2 R0 O q L s3;exact⟨_,rfl,_,_,_,_,rfl,.int z,Jh,_,rfl,Y3 ⟨_,rfl,.inl ⟨rfl,_,SqL.of q⟩,_,rfl,_,rfl,_,_,rfl,rfl,hp,st,_,_,rfl,rfl,q,f1,_,_,_,rfl,hi,f2,f3,f4⟩⟩
   ·refine⟨_,rfl,_,_,_,_,rfl,.str y,Xo,_,rfl,ZD ⟨_,rfl,_,rfl,dv,Yj kvs (.inr y),rfl,.inl ⟨kvs,.inr y,.inl hd2,rfl,rfl⟩,_,rfl,?_⟩⟩;show if(Yj kvs (.inr y)).isSome=true then _ else _;rw[hc.1 y hy];obtain⟨f1,f2,f3,f4⟩:=fin (.int (ρ y)) H2 R0 O q L s3;exact Y3 ⟨_,rfl,.inl ⟨rfl,_,SqL.of q⟩,_,rfl,_,rfl,dv,_,rfl,.inl ⟨kvs,.inr y,.inl hd2,rfl,(hc.1 y hy).symm⟩,st,_,_,rfl,rfl,q,f1,_,_,_,rfl,hi,f2,f3,f4⟩
   ·refine⟨_,rfl,_,_,_,_,rfl,.str y,Xo,_,rfl,ZD ⟨_,rfl,_,rfl,dv,Yj kvs (.inr y),rfl,.inl ⟨kvs,.inr y,.inl hd2,rfl,rfl⟩,_,rfl,?_⟩⟩;show if(Yj kvs (.inr y)).isSome=true then _ else _;rw[hc.2 y hny];refine ZD ⟨_,rfl,rfl,_,rfl,?_⟩;rcases hc4 with⟨rfl,rfl⟩|⟨rfl,a,b,c,l,rfl,⟨ha,hb,hcc⟩,rfl⟩|⟨n0,n1,k1,v,r',l,rfl,o1,rfl⟩|⟨n0,n1,k1,v,u,r',l,rfl,o1,rfl⟩
    ·obtain⟨f1,f2,f3,f4⟩:=fin (.bl true) H2 R0 O q L s3;exact Y3 ⟨_,rfl,.inl ⟨rfl,_,SqL.of q⟩,st,_,_,rfl,rfl,q,f1,_,_,_,rfl,hi,f2,f3,f4⟩
    ·refine ZD ⟨_,rfl,rfl,_,rfl,Y3 ?_⟩;have hpa:=Zk6 q;refine⟨_,rfl,.inl ⟨rfl,_,SqL.of hpa⟩,st,_,_,rfl,rfl,hpa,Xc _ _,Zg ?_⟩;rw[Qcx];have s6:=ZS (o:=.lst ((V.int b::V.int c::l).reverse)) s3 D;have h4s:upd H2 st (.lst ((V.int b::V.int c::l).reverse)) st=some (.lst ((V.int b::V.int c::l).reverse)):=Za;have h4t:upd H2 st (.lst ((V.int b::V.int c::l).reverse)) Y=some (.tup C.reverse):=by rw[Zk M];exact L
     show ZZ _ _ _ _ (upd H2 st (.lst ((V.int b::V.int c::l).reverse)));generalize upd H2 st (.lst ((V.int b::V.int c::l).reverse))=H4 at *;have Z:=Zk6 h4s;refine⟨_,rfl,.inl ⟨rfl,_,SqL.of Z⟩,st,_,_,rfl,rfl,Z,Xc _ _,Zg ?_⟩;rw[Qcx];have s7:=ZS (o:=.lst (V.int c::l).reverse) s6 D;have h5s:upd H4 st (.lst (V.int c::l).reverse) st=some (.lst (V.int c::l).reverse):=Za;have h5t:upd H4 st (.lst (V.int c::l).reverse) Y=some (.tup C.reverse):=by rw[Zk M];exact h4t
     generalize upd H4 st (.lst (V.int c::l).reverse)=H5 at *;have hpc:=Zk6 h5s;have hll:l.length<=100:=by simp only[Qba]at O;lia
     refine⟨_,rfl,.inl ⟨rfl,_,SqL.of h5s⟩,_,rfl,_,rfl,_,_,rfl,rfl,_,rfl,_,_,rfl,rfl,_,rfl,_,_,rfl,rfl,_,rfl,.inl ⟨rfl,_,SqL.of hpc⟩,st,_,_,rfl,rfl,hpc,Xc _ _,_,_,rfl,rfl,_,_,rfl,rfl,?_⟩;rw[Qcx];try dsimp only
     rw[Zfi ha.1 ha.2 hb.1 hb.2 hcc.1 hcc.2];obtain⟨f1,f2,f3,f4⟩:=fin (.int (Builtin.bitOr (Builtin.bitAnd a b) (Builtin.bitAnd (Builtin.bitNot a) c)%2^W)) (upd H5 st (.lst l.reverse)) l hll Za (by rw[Zk M];exact h5t) (ZS s7 D);exact⟨st,_,_,rfl,rfl,Za,f1,_,_,_,rfl,hi,f2,f3,f4⟩
    ·rw[Qap fun z=>n0 (by injection z)];refine ZD ⟨_,rfl,rfl,_,rfl,?_⟩;rw[Qap fun z=>n1 (by injection z)];refine ZD ⟨_,rfl,.str y,rfl,.inl ⟨y,rfl⟩,fun p H3 hp0 hp3 sp=>⟨p,_,rfl,.inl (SqL.of hp3),rfl,_,rfl,?_⟩⟩;rw[show decide (V.int (((lpW (.str y)).map V.bl).length:Int)=V.int 1)=true from Qan (by rw[Qab];show V.int ((lpS y).length:Int)=_;rw[k1];rfl)];have h3s:=sp _ _ q;have h3t:=sp _ _ L;have s4:=s3.trans sp;have hpop:=Zk6 h3s;refine Y3 ⟨_,rfl,.inl ⟨rfl,_,SqL.of h3s⟩,_,rfl,_,rfl,.inl ⟨rfl,_,SqL.of hpop⟩,st,_,_,rfl,rfl,hpop,Xc _ _,_,rfl,y,v,r',W,rfl,hW1,hW,o1,?_⟩;rw[Qcx];obtain⟨f1,f2,f3,f4⟩:=fin r' (upd H3 st (.lst l.reverse)) l (by simp only[Qba]at O;lia) Za (by rw[Zk M];exact h3t) (ZS s4 D);exact⟨st,_,_,rfl,rfl,Za,f1,_,_,_,rfl,hi,f2,f3,f4⟩
    ·rw[Qap fun z=>n0 (by injection z)];refine ZD ⟨_,rfl,rfl,_,rfl,?_⟩;rw[Qap fun z=>n1 (by injection z)];refine ZD ⟨_,rfl,.str y,rfl,.inl ⟨y,rfl⟩,fun p H3 hp0 hp3 sp=>⟨p,_,rfl,.inl (SqL.of hp3),rfl,_,rfl,?_⟩⟩;rw[show decide (V.int (((lpW (.str y)).map V.bl).length:Int)=V.int 1)=false from Qap (fun z=>k1 (by rw[Qab]at z;injection z with z;show(lpW (.str y)).length=1;lia))];have h3s:=sp _ _ q;have h3t:=sp _ _ L;have s4:=s3.trans sp;have hpa:=Zk6 h3s;refine ZD ⟨_,rfl,.inl ⟨rfl,_,SqL.of hpa⟩,st,_,_,rfl,rfl,hpa,Xc _ _,Zg ?_⟩;rw[Qcx];have s6:=ZS (o:=.lst ((u::l).reverse)) s4 D;have h4s:upd H3 st (.lst ((u::l).reverse)) st=some (.lst ((u::l).reverse)):=Za;have h4t:upd H3 st (.lst ((u::l).reverse)) Y=some (.tup C.reverse):=by rw[Zk M];exact h3t
     generalize upd H3 st (.lst ((u::l).reverse))=H4 at *;have Z:=Zk6 h4s;refine⟨_,rfl,.inl ⟨rfl,_,SqL.of h4s⟩,_,rfl,_,rfl,_,rfl,.inl ⟨rfl,_,SqL.of Z⟩,st,_,_,rfl,rfl,Z,Xc _ _,_,rfl,y,v,u,r',W,rfl,hW1,hW,o1,fun H6 s7=>?_⟩;rw[Qcx]at s7;have s8:=ZS (o:=.lst l.reverse) s6 D;obtain⟨f1,f2,f3,f4⟩:=fin r' H6 l (by simp only[Qba]at O;lia) (s7 _ _ Za) (s7 _ _ (by rw[Zk M];exact h4t)) (s8.trans s7);exact⟨st,_,_,rfl,rfl,s7 _ _ Za,f1,_,_,_,rfl,hi,f2,f3,f4⟩
  ·rintro σ H2 ⟨u5,u6,u7,rfl,hi0,q,L,s3⟩;rw[Qc7,Qe1,Qep,hrun]at q;exact⟨_,rfl,st,_,0,_,rfl,rfl,SqL.of q,rfl,k H2 s3⟩
def zd(K:Af):Sp:=fun vs H Q _=>∃(s:Aw) (q:A2) (w:V),vs=[.ref s,w]/\H s=some (.lst q.reverse)/\w=kV (keyOf w)/\npw w<=q.length/\q.length<=100 /\
 ∀pl H',H pl=none->H' pl=some (.lst (q.take (npw w)))->H' s=some (.lst (q.drop (npw w)).reverse)->(∀b o,H b=some o->b≠s->H' b=some o)->Q (.ref pl) H'
theorem ze:Y6 P w K mg base CX0 3 t.gj t.ia ["stack","word"] (zd K):=by
 have C:=kI P base T TB;refine T.iq.F.ok xQ (fun vs H Q E h=>?_) (fun cdv A outer s H vs Q E hr h=>?_)
 ·obtain⟨_,_,_,rfl,_⟩:=h;rfl
 ·obtain⟨st,D,x,rfl,hs,hx,hn,hl,k⟩:=h;have hu:=ZL hr;refine⟨_,@QSs.out _ _ _ (Ze (Zo (Y4 ({}:ZQ (Zh We) _ ["stack","word"] "part" ["stack"] [0]) (XM rfl T.au (Zi (Zl T.rp C hr (Zi (qv 1) Zd)) Zd)) (fun _ _ _ _=>Xh) (fun _ _ _ _=>(show QE _ _ (Zmn K "list" rPop (jX 1))from(WZ Qau Qcn Qco Jp (qv 1))))))),?_⟩;refine⟨_,rfl,keyOf x,congrArg (fun z=>[z]) hx,X8 (keyOf x),rfl,?_,?_,gM (n:=(X8 (keyOf x)).toNat) (fun i zs H2=>i<=npw x/\zs=D.take i/\H2 st=some (.lst (D.drop i).reverse)/\∀b o,H b=some o->b≠st->H2 b=some o) ⟨Qbl _,rfl,hs,fun b o e _=>e⟩ ?_ ?_ ?_⟩
  ·have:=qO (keyOf x);lia
  ·have:=qO (keyOf x);lia
  ·rintro i zs H2 ⟨_,rfl,_,_⟩;rw[Qa2];exact Qa0 (Z2 (by lia))
  ·rintro i zs H2 R hR hi ⟨M,rfl,h2,Y⟩;have O:i<npw x:=hi;have L:i<D.length:=by lia
   rw[Zjr L]at h2;unfold Zgm;refine⟨_,rfl,.inl ⟨rfl,_,SqL.of h2⟩,st,_,D[i],rfl,rfl,h2,Xc _ _,hR _ _ ⟨O,?_,?_,fun b o e I=>?_⟩⟩
   ·rw[take_snoc (Qac L)]
   ·rw[Za,Qcx]
   ·rw[Zk I];exact Y b o e I
  ·rintro zs H2 ⟨M,rfl,h2,Y⟩ l G;have J:H l=none:=by
    cases q:H l with
    |none=>rfl
    |some o=>
     by_cases I:l=st
     ·rw[I,h2]at G;cases G
     ·grind
   have Z:st≠l:=Zm h2 G;refine k l _ J Za ?_ fun b o e I=>?_
   ·rw[Zk Z];exact h2
   ·rw[Zk (Zm e J)];exact Y b o e I
def kN(K:Af):Sp:=fun vs H Q _=>∃(t:Aw) (q:A2),vs=[.ref t]/\H t=some (.tup q)/\(∀w∈q,zJ w)/\q.length<=60/\∀p H' (C:Ai),H p=none->H' p=some (.tup (C.map V.str))->Z9 H H'->C.Perm (XO ((q.filter nmB).map Zdz))->PyProof.Rows.sortedS C=true->Q (.ref p) H'
theorem kO:Y6 P w K mg base CX0 3 t.rd t.rf ["words"] (kN K):=by
 have q:=uG P base T TB;refine T.rz.F.ok kx (fun vs H Q E h=>?_) (fun cdv A outer s H vs Q E O h=>?_)
 ·obtain⟨_,_,rfl,_⟩:=h;rfl
 ·obtain⟨t,C,rfl,M,hw,hl,k⟩:=h;have hu:=ZL O;refine⟨_,@QSs.out _ _ _ (Ze (Zo (Z4 Z0 (by rfl) T.ah ZR (Zi (Zn (J1 rfl) (by rfl) T.cf Jq (Zi (Z4 (yx rfl) (by rfl) T.aaj Zgk (Zi (Y4 ({}:ZQ (Zh Gd) _ ["words"] "word" [] []) (Xr (qv 0)) (fun _ _ _ _=>(yi (Wr (Jt (YQ (Zn (show YA _ (.builtin "isinstance") (Zlk K)from X1) (by rfl) T.ak Ye (Zi (qv 0) (Zi (Wx (v:=.ty "str") (by rfl) T.aak Zgj rfl) Zd)))) (XZ (YQ (Zl T.tu q O (Zi (qv 0) Zd)))))))) (fun _ _ _ _=>(qv 0))) Zd)) Zd)) Zd)))),?_⟩;refine⟨_,rfl,t,rfl,⟨_,SqT.of M⟩,yy (xs:=C) nmB Z9 Z9.refl (fun _ _ _ a b=>a.trans b) (fun H1 G=>SqT.of (G _ _ M)) (Qa0 (Z2 (by lia))) (fun x Z H1 G R hR=>?_) (fun x Z H1 R hR=>⟨_,rfl,hR⟩) (fun H1 l G J=>?_)⟩
  ·rcases hw x Z with⟨y,rfl,hy⟩|⟨z,rfl⟩
   ·exact⟨_,rfl,_,_,_,_,rfl,.str y,qo,_,rfl,Y3 ⟨_,rfl,y,rfl,Qbc hy (by decide),fun H2 I=>⟨_,rfl,hR H2 I⟩⟩⟩
   ·exact⟨_,rfl,_,_,_,_,rfl,.int z,qp,_,rfl,ZD (hR H1 (Z9.refl H1))⟩
  have fl:(C.filter nmB).length<=60:=Qbc (Qe3 _ _) hl;have ol:=yE ((C.filter nmB).map Zdz);rw[Qab]at ol;have I:=G.trans (Zc (o:=.lst (C.filter nmB)) J);refine⟨l,(C.filter nmB).map Zdz,rfl,SqL.of (by rw[Zjp];exact Za),by rw[Qab];lia,fun a ha=>⟨a,_,rfl,Za,by lia,fun m Y hm hp hs=>⟨m,_,rfl,.inl ⟨SqL.of Za,fun p D=>?_⟩⟩⟩⟩;have L:Z9 H _:=I.trans ((Zc ha).trans (Zc (o:=.lst (Y.map V.str)) hm));exact k p _ Y (Z9.free L D) Za (L.trans (Zc D)) hp hs
def vv(K:Af):Sp:=fun vs H Q _=>∃(a pn f:Aw) (ns:Ak) (st:Nat) (nm:Ai) (C k0 k1:Int),vs=[.ref a,.int (st:Int),.ref pn,.int 14,.ref f,.int C,.bl true]/\((Rd H a (.lst (ns.map V.int))/\a≠f)\/SqL K (fun b=>none) a (ns.map V.int))/\ns.length<=63/\st<=10/\H pn=some (.lst (nm.map V.str))/\nm.length<=3/\(∀y∈nm,y∉ZK)/\H f=some (.lst [.int k0,.int k1])/\0<=k0/\0<=k1/\k0+k1<=5/\pn≠f/\1<=C/\C<=1000/\∀p q H',H' p=some (.tup q)->q.length<=14->TyR nm q [true]->(Y8 q:Int)<=k0+k1->SmL f H H'->Q (.ref p) H'
theorem vw:Y6 P w K mg base CX0 3 t.ng t.nh ["script","start","names","most","left","top","claim"] (vv K):=by
 have M:=XD P base T TB;have q:=Gn P base T TB;have C:=x6 P base T TB;have I:=Wj P base T TB;refine T.ny.F.ok Y1 (fun vs H Q E h=>?_) (fun cdv A outer s H vs Q E hr h=>?_)
 ·obtain⟨_,_,_,_,_,_,_,_,_,rfl,_⟩:=h;rfl
 ·obtain⟨a,pn,f,ns,st,nm,tp,k0,k1,rfl,hS,h63,hst,hpn,hn3,hnk,hf,hk0,hk1,hk5,hpf,ht1,ht2,k⟩:=h;have hu:=ZL hr;refine⟨_,@QSs.out _ _ _ (Zb (Zz 7 Y1.nd (ZN Zd))
    (Zb (Zz 8 Y1.nd (ZN (Zi (qv 6) Zd)))
    (Zb (WQ Qbq (Zq (jg (Wb hr)) (qv 8) (ZN Zd) (Zx _))
    (Zb (Zz 9 Y1.nd (Zp YO (Zp YO (qv 3) (Zn Zr (by rfl) T.ae Yb (Zi (qv 7) Zd))) (Zn Zr (by rfl) T.ae Yb (Zi (qv 8) Zd))))
    (Zb (Zz 10 Y1.nd (Zl T.ay I hr (Zi (qv 0) (Zi (Zp YB (qv 1) (Zn Zr (by rfl) T.ae Yb (Zi (qv 7) Zd))) Zd))))
    (Zb (ZE (YQ (WZ Qau Qcn Qco Jp (qv 8)))
    (Ze (Zz 11 Y1.nd (Zl T.bz q hr (Zi (qv 10) (Zi (qv 9) (Zi (qv 4) Zd)))))) (Ze (Zz 11 Y1.nd (Zl T.fe C hr (Zi (qv 10) (Zi (qv 9) (Zi (qv 4) (Zi (qv 2) (Zi (qv 5) Zd)))))))))
    (Zb (Yn (YE Qau Qa5 Qa6 ZF (qv 7) (Zi (qv 11) Zd)))
    (Ze (Yn (YE Qau PySem.F.slot_list_extend PySem.F.type_list_extend Zap (qv 8) (Zi (Zl T.av M hr (Zi (qv 11) Zd)) Zd)))))))))
    (Ze (Zo (Z4 Z0 (by rfl) T.ah ZR (Zi (qv 7) Zd))))))),?_⟩
  try dsimp only[L2.cxK,L2.cxK2]
  refine L2.let4 ?_;intro U3 U2 U1;refine⟨g9,fun G hwa=>Zg ?_⟩;refine⟨_,rfl,Zk7,fun D hpa=>Zg ?_⟩;have s1:=(Zc (o:=.lst []) hwa).trans (Zc (o:=.lst [V.bl true]) hpa);have hwf:G≠f:=fun z=>by rw[z,hf]at hwa;cases hwa
  have hpw:D≠G:=fun z=>by rw[z,Za]at hpa;cases hpa
  have hpa0:H D=none:=by rw[Zk hpw]at hpa;exact hpa
  have Z:D≠f:=fun z=>by rw[z,hf]at hpa0;cases hpa0
  have w1:upd (upd H G (.lst [])) D (.lst [V.bl true]) G=some (.lst []):=by rw[Zk hpw.symm,Za]
  have p1:upd (upd H G (.lst [])) D (.lst [V.bl true]) D=some (.lst [V.bl true]):=Za;generalize upd (upd H G (.lst [])) D (.lst [V.bl true])=H1 at *;have keep:∀{Ha Hb:Hp} {g:Aw} {u o:HO},SmL f H Ha->(g=G\/g=D)->SmL f H (upd Ha g o):=fun{Ha Hb g u o} s hg b v hb e=>by
   have:b≠g:=fun z=>by
    rcases hg with h|h
    ·rw[z,h,hwa]at e;cases e
    ·rw[z,h,hpa0]at e;cases e
   rw[Zk this];exact s b v hb e
  refine Ge (fun σ H'=>∃(O:A2) (ks:Am) (l0 l1:Int) (u9 u10 u11:Option V),σ=[some (.ref a),some (.int (st:Int)),some (.ref pn),some (.int 14),some (.ref f),some (.int tp),some (.bl true),some (.ref G),some (.ref D),u9,u10,u11]/\H' G=some (.lst O)/\H' D=some (.lst (ks.reverse.map V.bl))/\H' f=some (.lst [.int l0,.int l1])/\Wds (k0+k1) nm O ks l0 l1/\0<=l0/\0<=l1/\SmL f H H') (fun _ H'=>match H' G with|some (.lst l)=>20-l.length|_=>0) ⟨[],[true],k0,k1,none,none,none,rfl,w1,p1,s1 _ _ hf,⟨fun rest h=>h,by show((0:Nat):Int)+k0+k1<=k0+k1;lia,by decide⟩,hk0,hk1,SmL.of s1⟩ ?_;rintro σ H2 ⟨O,ks,l0,l1,u9,u10,u11,rfl,w2,p2,f2,W2,hl0,hl1,s2⟩;refine⟨_,rfl,g9,fun e he=>⟨D,e,_,_,rfl,rfl,SqL.of (Zc he _ _ p2),SqL.of Za,Qcb.mpr fun v hv=>(by obtain⟨y,_,rfl⟩:=Qav.mp hv;rfl),rfl,_,rfl,?_⟩⟩;have se:=Zc (o:=.lst []) he;have w3:=se _ _ w2;have p3:=se _ _ p2;have f3:=se _ _ f2;have s3:=s2.same se;generalize upd H2 e (.lst [])=H3 at *;cases ks with
  |nil=>
   have hty:=W2.ty [] .nil;rw[Qby]at hty;have hln:=W2.ln;have hrm:=W2.rm;exact⟨_,rfl,G,_,rfl,.inl ⟨SqL.of w3,fun p hp=>k p O _ Za (by lia) hty (by lia) (s3.same (Zc hp))⟩⟩
  |cons b ks=>
   have hpop:H3 D=some (.lst (ks.reverse.map V.bl++[V.bl b])):=by rw[p3,Qcq,Qay];rfl
   have hln:=W2.ln;rw[Qba]at hln;have hpl:((b::ks).reverse.map V.bl).length=ks.length+1:=by rw[Qab,Qc7,Qba]
   rw[show(!zr ((b::ks).reverse.map V.bl) [])=true by rw[Qcq,Qay];cases ks.reverse.map V.bl<;>rfl];refine Y3 ⟨fun σ' H'=>∃(Y:A2) (ks:Am) (l0 l1:Int) (u9 u10 u11:Option V),σ'=[some (.ref a),some (.int (st:Int)),some (.ref pn),some (.int 14),some (.ref f),some (.int tp),some (.bl true),some (.ref G),some (.ref D),u9,u10,u11]/\Y.length=O.length+1/\H' G=some (.lst Y)/\H' D=some (.lst (ks.reverse.map V.bl))/\H' f=some (.lst [.int l0,.int l1])/\Wds (k0+k1) nm Y ks l0 l1/\0<=l0/\0<=l1/\SmL f H H',?_,?_⟩
   ·rintro σ' H' ⟨Y,ks',J,L,v9,v10,v11,rfl,hl',h1,h2,h3,h4,h5,h6,h7⟩;refine⟨20-Y.length,?_,?_,Y,ks',J,L,v9,v10,v11,rfl,h1,h2,h3,h4,h5,h6,h7⟩
    ·rw[w2];show 20-Y.length<20-O.length;lia
    ·rw[h1]
   refine⟨_,rfl,_,rfl,G,_,rfl,.inl (SqL.of w3),_,_,rfl,rfl,_,rfl,D,_,rfl,.inl (SqL.of p3),_,_,rfl,rfl,Zg ?_⟩;refine⟨_,rfl,_,rfl,_,rfl,G,_,rfl,.inl (SqL.of w3),_,_,rfl,rfl,a,ns,st+O.length,rfl,?_,h63,by lia,fun r H4 r0 r1 s4=>Zg ?_⟩
   ·rcases hS with⟨z|⟨o,z⟩,haf⟩|(z|⟨_,z⟩)|z
    ·exact .inl (.inl (s3 _ _ haf z))
    ·exact .inl (.inr ⟨o,s3 _ _ haf z⟩)
    ·cases z
    ·cases z
    ·exact .inr z
   have w4:=s4 _ _ w3;have p4:=s4 _ _ hpop;have f4:=s4 _ _ f3;have s34:=s3.same s4;refine vU (fun σ H'=>∃(w:V) (J L:Int) (u9 u10:Option V),σ=[some (.ref a),some (.int (st:Int)),some (.ref pn),some (.int 14),some (.ref f),some (.int tp),some (.bl true),some (.ref G),some (.ref D),u9,u10,some w]/\((∃y,w=.str y)\/∃z:Int,w=.int z)/\H' G=some (.lst O)/\H' D=some (.lst (ks.reverse.map V.bl))/\H' f=some (.lst [.int J,.int L])/\Wds (k0+k1) nm (O++[w]) (lpW w++ks) J L/\0<=J/\0<=L/\SmL f H H') (fun N hN=>?_) ?_
   ·refine⟨_,rfl,.inl ⟨rfl,_,SqL.of p4⟩,D,_,_,rfl,rfl,p4,Xc _ _,b,rfl,?_⟩;rw[Qcx];have w5:upd H4 D (.lst (ks.reverse.map V.bl)) G=some (.lst O):=by rw[Zk hpw.symm];exact w4
    have p5:upd H4 D (.lst (ks.reverse.map V.bl)) D=some (.lst (ks.reverse.map V.bl)):=Za;have f5:upd H4 D (.lst (ks.reverse.map V.bl)) f=some (.lst [.int l0,.int l1]):=by rw[Zk Z.symm];exact f4
    have s5:SmL f H (upd H4 D (.lst (ks.reverse.map V.bl))):=keep (Hb:=H) (u:=.lst []) s34 (.inr rfl);generalize upd H4 D (.lst (ks.reverse.map V.bl))=H5 at *;have erm:(14:Int)-(O.length:Int)-(((b::ks).reverse.map V.bl).length:Int)=14-O.length-((b::ks).length:Int):=by rw[hpl,Qba]
    cases b with
    |true=>
     refine Y3 ⟨_,rfl,_,rfl,_,rfl,r,_,f,l0,l1,rfl,r0,?_,f5,hl1,fun y L H6 hy hlen hl hl' f6 s6=>Zg (hN _ _ ⟨.str y,l0,L,_,_,rfl,.inl ⟨y,rfl⟩,s6 _ _ hwf w5,s6 _ _ Z p5,f6,W2.clm hnk hy ?_ hl,hl0,hl',fun b o hb e=>s6 _ _ hb (s5 b o hb e)⟩)⟩
     ·rw[hpl];lia
     ·rw[<-erm];exact hlen
    |false=>
     refine ZD ⟨_,rfl,_,rfl,_,rfl,_,rfl,_,rfl,r,_,f,pn,l0,l1,tp,nm,rfl,r0,?_,f5,hl0,s5 _ _ hpf hpn,hn3,ht1,ht2,fun w J H6 hw hl' f6 s6=>Zg (hN _ _ ⟨w,J,l1,_,_,rfl,?_,s6 _ _ hwf w5,s6 _ _ Z p5,f6,W2.sum hnk ?_,hl',hl1,fun b o hb e=>s6 _ _ hb (s5 b o hb e)⟩)⟩
     ·rw[hpl];lia
     ·rcases hw with⟨y,e,_⟩|⟨y,e,_⟩|⟨z,e,_⟩
      ·exact .inl ⟨y,e⟩
      ·exact .inl ⟨y,e⟩
      ·exact .inr ⟨z,e⟩
     ·rw[<-erm];exact hw
   ·rintro σ H5 ⟨w,J,L,v9,v10,rfl,hw,w5,p5,f5,W5,hl0',hl1',s5⟩;refine⟨_,rfl,.inl ⟨rfl,_,SqL.of w5⟩,_,rfl,G,_,_,rfl,rfl,w5,Z2 (by lia),?_⟩;have w6:=Za (H:=H5) (a:=G) (o:=.lst (O++[w]));have p6:=(Zk (H:=H5) (o:=.lst (O++[w])) hpw).trans p5;have f6:=(Zk (H:=H5) (o:=.lst (O++[w])) hwf.symm).trans f5;have s6:SmL f H (upd H5 G (.lst (O++[w]))):=keep (Hb:=H) (u:=.lst []) s5 (.inl rfl);generalize upd H5 G (.lst (O++[w]))=H6 at *;refine⟨_,rfl,.inl ⟨rfl,_,SqL.of p6⟩,_,rfl,w,rfl,hw,fun p H7 hp0 hp s7=>⟨D,p,_,_,rfl,rfl,s7 _ _ p6,hp,?_,?_⟩⟩
    ·have:=(Zdg w).2;rw[Qab,Qab,Qc7];exact Qa0 (Z2 (by lia))
    ·refine⟨O++[w],lpW w++ks,J,L,_,_,_,rfl,by rw[Qaj];rfl,by rw[Zk hpw.symm];exact s7 _ _ w6,?_,by rw[Zk Z.symm];exact s7 _ _ f6,W5,hl0',hl1',keep (Hb:=H) (u:=.lst []) (s6.same s7) (.inr rfl)⟩;rw[Za,List.reverse_append,(Zdg w).1,Qay]
def uH(K:Af):Sp:=fun vs H Q _=>∃(tw D C:Aw) (ys:Ai) (q:A2) (kvs:A0) (cols:Str->Int) (pl:Nat) (kp:Ak) (o:Int) (lt:Ak),vs=[.ref tw,.ref D,.int (pl:Int),.ref C]/\H tw=some (.tup q)/\q.length<=100/\H D=some (.dK kvs)/\Zcc kvs ys cols/\H C=some (.tup (kp.map V.int))/\(∀w∈q,jz ys w)/\WI q/\X9 ys cols pl kp q=([o],lt)/\lt.length<=kp.length /\
 ∀t l H',H t=none->H' t=some (.tup [.int o,.ref l])->H' l=some (.lst (lt.map V.int))->Z9 H H'->Q (.ref t) H'
theorem uI:Y6 P w K mg base CX0 4 t.sy t.ti ["words","columns","place","kept"] (uH K):=by
 have L:=G4 P base T TB;have G:=zc P base T TB;have J:=vp P base T TB;have I:=xW P base T TB;have D:=ze P base T TB;refine T.bc.F.ok Xl (fun vs H Q E h=>?_) (fun cdv A outer s H vs Q E hr h=>?_)
 ·obtain⟨_,_,_,_,_,_,_,_,_,_,_,rfl,_⟩:=h;rfl
 ·obtain⟨tw,dv,kt,ys,C,kvs,cols,pl,kp,o,lt,rfl,ht,hl,hd,hc,hk,hw,he,hst,hkl,k⟩:=h;have hu:=ZL hr;refine⟨_,@QSs.out _ _ _ (Zb (Zz 4 Xl.nd (ZN Zd))
    (Zb (Zz 5 Xl.nd (ZN Zd))
    (Zb (Xb Qbq rfl (Za2 rfl T.sh (qv 0)) (Xp 6 Xl.nd)
    (Zb (Zz 7 Xl.nd (Zl T.iq D hr (Zi (qv 4) (Zi (qv 6) Zd))))
    (Ze (ZE (YQ (Zl T.bh L hr (Zi (qv 6) Zd)))
    (Zb (Zz 8 Xl.nd (Jr qf (Z3 ZP (qv 3) (Zn Zr (by rfl) T.ae Yb (Zi (qv 5) Zd)))))
    (Zb (Yn (YE Qau Qa5 Qa6 ZF (qv 5) (Zi (Zl T.nu J hr (Zi (qv 6) (Zi (qv 7) (Zi (qv 8) Zd)))) Zd)))
    (Ze (Yn (YE Qau Qa5 Qa6 ZF (qv 4) (Zi (Zl T.ip G hr (Zi (qv 6) (Zi (qv 7) (Zi (qv 8) (Zi (Z3 Zy (qv 5) (Jr qf Zf)) Zd))))) Zd)))))) (Ze (ZE (YQ (Zn X1 (by rfl) T.ak Ye (Zi (qv 6) (Zi (Wx (v:=.ty "int") (by rfl) T.dt zh rfl) Zd))))
    (Ze (Yn (YE Qau Qa5 Qa6 ZF (qv 4) (Zi (Jr qf (Zp Xg (Zp kU (qv 6) (qv 2)) Zf)) Zd)))) (Ze (ZE (Zq (zq hu) (qv 6) (qv 1) (by with_unfolding_all rfl))
    (Ze (Yn (YE Qau Qa5 Qa6 ZF (qv 4) (Zi (qw hu (qv 1) (qv 6) (fun _ _=>rfl)) Zd)))) (Ze (Yn (YE Qau Qa5 Qa6 ZF (qv 4) (Zi (Zl T.ij I hr (Zi (qv 6) (Zi (qv 7) Zd))) Zd))))))))))))
    (Ze (Zo (Yc (Zi (WZ Qau Qcn Qco Jp (qv 4)) (Zi (qv 5) Zd)))))))),?_⟩
  try dsimp only[L2.cxK,L2.cxK2]
  refine L2.let4 ?_;intro U3 U2 U1;refine⟨g9,fun st M=>Zg ⟨g9,fun Y hla0=>Zg ?_⟩⟩;have s1:=Zc (o:=.lst []) M;have s2:=s1.trans (Zc (o:=.lst []) hla0);have hsl:st≠Y:=Zm (Za (H:=H) (a:=st) (o:=.lst [])) hla0;have hlaH:H Y=none:=s1.free hla0;refine⟨_,rfl,tw,_,rfl,SqT.of (s2 _ _ ht),Za3 (K:=K) (a:=tw) (xs:=C) (fun i σ H2=>∃u6 u7 u8,σ=[some (.ref tw),some (.ref dv),some (.int (pl:Int)),some (.ref kt),some (.ref st),some (.ref Y),u6,u7,u8]/\i<=C.length/\H2 st=some (.lst ((X9 ys cols pl kp (C.drop (C.length-i))).1.map V.int).reverse)/\H2 Y=some (.lst ((X9 ys cols pl kp (C.drop (C.length-i))).2.map V.int))/\Z9 H H2) ⟨none,none,none,rfl,Qbl _,?_,?_,s2⟩ (fun i σ H2 _ ⟨_,_,_,_,_,_,_,s⟩=>SqT.of (s _ _ ht)) ?_ ?_⟩
  ·rw[Qho,Qen,Zk hsl];exact Za
  ·rw[Qho,Qen];exact Za
  ·rintro i x σ H2 hx ⟨u6,u7,u8,rfl,hi0,h2s,h2l,s3⟩;obtain⟨hi,hx⟩:=Zg0 hx;have ed:C.drop (C.length-(i+1))=x::C.drop (C.length-i):=by
    rw[show C.length-(i+1)=C.length-1-i by lia,Qc2 (by lia),show C.length-1-i+1=C.length-i by lia];congr 1;exact(Qag.mp hx).2
   have hwx:=hw x (Qas hx);have hen:=qW C (C.length-(i+1)) he;have hmo:=yJ ys cols pl kp C (C.length-(i+1));rw[hst]at hmo;rw[ed]at hen hmo ⊢;have hln:=j0 (ys:=ys) (cols:=cols) (pl:=pl) (kp:=kp) (C.drop (C.length-i)) fun w h=>hw w (List.mem_of_mem_drop h);have hle2:=vX (C.drop (C.length-i));rw[Qbr]at hle2;have hmo2:=yI ys cols pl kp x (C.drop (C.length-i));have hlb:=wQ ys cols pl kp (C.drop (C.length-i));rw[Qbr]at hlb;generalize C.drop (C.length-i)=r at *;have hn:=hen.1;have eC:∀z:V,X9 ys cols pl kp (z::r)=match z with
    |.str y=>
     if y∈allR then(okI y ((X9 ys cols pl kp r).1.take (npw z)) (-(kp.getD (X9 ys cols pl kp r).2.length 0)) (ktI y ((X9 ys cols pl kp r).1.take (npw z)) (-(kp.getD (X9 ys cols pl kp r).2.length 0)))::(X9 ys cols pl kp r).1.drop (npw z),(X9 ys cols pl kp r).2++[ktI y ((X9 ys cols pl kp r).1.take (npw z)) (-(kp.getD (X9 ys cols pl kp r).2.length 0))])
     else if y∈ys then(cols y::(X9 ys cols pl kp r).1.drop (npw z),(X9 ys cols pl kp r).2)
     else(oaI y ((X9 ys cols pl kp r).1.take (npw z))::(X9 ys cols pl kp r).1.drop (npw z),(X9 ys cols pl kp r).2)
    |.int z'=>(-(bt z' pl)::(X9 ys cols pl kp r).1.drop (npw z),(X9 ys cols pl kp r).2)
    |_=>X9 ys cols pl kp r:=fun z=>by cases z<;>rfl
   have eX:=eC x;generalize X9 ys cols pl kp r=P at *;obtain⟨q,l2⟩:=P;try dsimp only at *
   have hkx:x=kV (keyOf x)/\YM x=true:=by
    rcases hwx with⟨y,rfl,_⟩|⟨y,rfl,_⟩|⟨y,rfl,_⟩|⟨z,rfl,_⟩<;>exact⟨rfl,rfl⟩
   refine⟨_,rfl,_,rfl,st,q.map V.int,x,rfl,h2s,hkx.1,by rw[Qab];lia,by rw[Qab];lia,fun pp H3 Z hpp O o3=>Zg ?_⟩;rw[<-Qdm]at hpp;rw[<-Qdw]at O;have h3l:=o3 _ _ h2l hsl.symm;have s4:Z9 H H3:=fun b o e=>o3 b o (s3 b o e) (Zm e M);have hln3:(q.take (npw x)).length=npw x:=by rw[Qa2];lia
   have hps:pp≠st:=fun z=>by rw[z,h2s]at Z;cases Z
   have hpl2:pp≠Y:=fun z=>by rw[z,h2l]at Z;cases Z
   refine⟨_,rfl,x,rfl,hkx.2,_,rfl,?_⟩;have sml:((q.drop (npw x)).map V.int).reverse.length<sizeLine:=by
    rw[Qc7,Qab,Qbr];exact Z2 (by lia)
   have fin:∀(v:Int) (Hx:Hp),X9 ys cols pl kp (x::r)=(v::q.drop (npw x),l2)->Z9 H3 Hx->upd Hx st (.lst (((q.drop (npw x)).map V.int).reverse++[.int v])) st=some (.lst ((X9 ys cols pl kp (x::r)).1.map V.int).reverse)/\upd Hx st (.lst (((q.drop (npw x)).map V.int).reverse++[.int v])) Y=some (.lst ((X9 ys cols pl kp (x::r)).2.map V.int))/\Z9 H (upd Hx st (.lst (((q.drop (npw x)).map V.int).reverse++[.int v]))):=fun v Hx e sx=>by
    rw[e];refine⟨by rw[Za,Qbx,Qcq],by rw[Zk hsl.symm];exact sx _ _ h3l,ZS (s4.trans sx) M⟩
   rcases hwx with⟨y,rfl,hy,hny,hn1,hn2⟩|⟨y,rfl,hy,hna,hny,hnp⟩|⟨y,rfl,hy,hna,hnp⟩|⟨z,rfl,hz,hnp⟩
   ·show if inV (.str y) (allR.map V.str)=true then _ else _
    rw[ZC,Qan hy];have eX:X9 ys cols pl kp (.str y::r)=(okI y (q.take (npw (.str y))) (-(kp.getD l2.length 0)) (ktI y (q.take (npw (.str y))) (-(kp.getD l2.length 0)))::q.drop (npw (.str y)),l2++[ktI y (q.take (npw (.str y))) (-(kp.getD l2.length 0))]):=by
     rw[eX];exact Qa3 hy
    have hkk:l2.length<kp.length:=by
     rw[eX]at hmo;simp only[Qaj,Qba,Qev]at hmo;lia
    refine Y3 ⟨_,rfl,_,rfl,Y,_,rfl,.inl (SqL.of h3l),kt,_,_,.int (kp.getD l2.length 0),rfl,rfl,SqT.of (s4 _ _ hk),?_,_,rfl,?_⟩
    ·rw[Qab];exact ZA _ rfl hkk
    try dsimp only
    generalize -(kp.getD l2.length 0)=hh at *;refine Zg ?_;refine⟨_,rfl,.inl ⟨rfl,_,SqL.of h3l⟩,_,rfl,_,rfl,_,rfl,y,pp,q.take (npw (.str y)),hh,rfl,hpp,by lia,hy,(fun h=>by have:=hn2 h;lia),fun H4 s5=>⟨Y,_,_,rfl,rfl,s5 _ _ h3l,?_,?_⟩⟩
    ·rw[Qab];exact Z2 (by lia)
    have h5s:upd H4 Y (.lst (l2.map V.int++[.int (ktI y (q.take (npw (.str y))) hh)])) st=some (.lst ((q.drop (npw (.str y))).map V.int).reverse):=by rw[Zk hsl];exact s5 _ _ O
    have h5p:upd H4 Y (.lst (l2.map V.int++[.int (ktI y (q.take (npw (.str y))) hh)])) pp=some (.lst ((q.take (npw (.str y))).map V.int)):=by rw[Zk hpl2];exact s5 _ _ hpp
    have h5l:upd H4 Y (.lst (l2.map V.int++[.int (ktI y (q.take (npw (.str y))) hh)])) Y=some (.lst (l2.map V.int++[.int (ktI y (q.take (npw (.str y))) hh)])):=Za;have s6:Z9 H (upd H4 Y (.lst (l2.map V.int++[.int (ktI y (q.take (npw (.str y))) hh)]))):=ZS (s4.trans s5) hlaH;generalize upd H4 Y (.lst (l2.map V.int++[.int (ktI y (q.take (npw (.str y))) hh)]))=H5 at *;refine⟨_,rfl,.inl ⟨rfl,_,SqL.of h5s⟩,_,rfl,_,rfl,_,rfl,_,rfl,1,rfl,Y,_,-1,.int (ktI y (q.take (npw (.str y))) hh),rfl,rfl,SqL.of h5l,Zed _ _,y,pp,q.take (npw (.str y)),hh,_,rfl,h5p,by lia,hy,(fun h=>by have:=hn2 h;lia),fun H6 s7=>⟨st,_,_,rfl,rfl,s7 _ _ h5s,sml,_,_,_,rfl,hi,?_,?_,ZS (s6.trans s7) M⟩⟩
    ·rw[Za,eX,Qbx,Qcq]
    ·rw[Zk hsl.symm,eX,Qay];exact s7 _ _ h5l
   ·show if inV (.str y) (allR.map V.str)=true then _ else _
    rw[ZC,Qap hna];have eX:X9 ys cols pl kp (.str y::r)=(oaI y (q.take (npw (.str y)))::q.drop (npw (.str y)),l2):=by
     rw[eX];show(if y∈allR then _ else if y∈ys then _ else _)=_;rw[Qax hna,Qax hny]
    refine ZD ⟨_,rfl,_,_,_,_,rfl,.str y,Xo,_,rfl,ZD ⟨_,rfl,_,rfl,dv,Yj kvs (.inr y),rfl,.inl ⟨kvs,.inr y,.inl (s4 _ _ hd),rfl,rfl⟩,_,rfl,?_⟩⟩;show if(Yj kvs (.inr y)).isSome=true then _ else _;rw[hc.2 y hny];refine ZD ⟨_,rfl,.inl ⟨rfl,_,SqL.of O⟩,_,rfl,_,rfl,y,pp,q.take (npw (.str y)),rfl,hpp,hy,by rw[hln3,hnp],fun H4 s5=>?_⟩;obtain⟨f1,f2,f3⟩:=fin _ H4 eX s5;exact⟨st,_,_,rfl,rfl,s5 _ _ O,sml,_,_,_,rfl,hi,f1,f2,f3⟩
   ·show if inV (.str y) (allR.map V.str)=true then _ else _
    rw[ZC,Qap hna];have eX:X9 ys cols pl kp (.str y::r)=(cols y::q.drop (npw (.str y)),l2):=by
     rw[eX];show(if y∈allR then _ else if y∈ys then _ else _)=_;rw[Qax hna,Qa3 hy]
    refine ZD ⟨_,rfl,_,_,_,_,rfl,.str y,Xo,_,rfl,ZD ⟨_,rfl,_,rfl,dv,Yj kvs (.inr y),rfl,.inl ⟨kvs,.inr y,.inl (s4 _ _ hd),rfl,rfl⟩,_,rfl,?_⟩⟩;show if(Yj kvs (.inr y)).isSome=true then _ else _;rw[hc.1 y hy];obtain⟨f1,f2,f3⟩:=fin _ H3 eX (Z9.refl _);exact Y3 ⟨_,rfl,.inl ⟨rfl,_,SqL.of O⟩,_,rfl,_,rfl,dv,_,rfl,.inl ⟨kvs,.inr y,.inl (s4 _ _ hd),rfl,(hc.1 y hy).symm⟩,st,_,_,rfl,rfl,O,sml,_,_,_,rfl,hi,f1,f2,f3⟩
   ·show if inV (.int z) (allR.map V.str)=true then _ else _
    rw[vY];refine ZD ⟨_,rfl,_,_,_,_,rfl,.int z,Jh,_,rfl,Y3 ⟨_,rfl,.inl ⟨rfl,_,SqL.of O⟩,_,rfl,_,rfl,_,_,rfl,rfl,Qde pl,_,_,rfl,rfl,_,rfl,?_⟩⟩;have ev:-(Builtin.bitAnd (z/2^(pl:Int).toNat) 1)=-(bt z pl):=by
     rw[and_1,Qbp];rfl
    try dsimp only
    rw[ev];obtain⟨f1,f2,f3⟩:=fin _ H3 eX (Z9.refl _);exact⟨st,_,_,rfl,rfl,O,sml,_,_,_,rfl,hi,f1,f2,f3⟩
  ·rintro σ H2 ⟨u6,u7,u8,rfl,hi0,h2s,h2l,s3⟩;rw[Qe1,Qep,hst]at h2s h2l;refine⟨_,rfl,.inl ⟨rfl,_,SqL.of h2s⟩,st,_,.int o,rfl,rfl,h2s,rfl,_,rfl,vx,fun tt htt=>?_⟩;have hlt:upd H2 st (.lst []) Y=some (.lst (lt.map V.int)):=by rw[Zk hsl.symm];exact h2l
   have s5:Z9 H (upd H2 st (.lst [])):=ZS s3 M;exact k tt Y _ (s5.free htt) Za (Zc htt _ _ hlt) (s5.trans (Zc htt))
def GJ(P:Aq)(w:Au)(K:Af)(mg:Ae)(base:Heap):Sp:=fun vs H Q _=>∃(κ:Type) (L:DecidableEq κ) (sk:SK κ) (pn f:Aw) (nm:Ai) (b:κ) (I:V) (nx:κ->List κ) (ot:κ->List V) (U:List κ) (τ:Sp),vs=[.ref pn,I,.ref f]/\H pn=some (.tup (nm.map V.str))/\sk.at_ H b I/\b∈U/\(∀s∈U,(nx s).length<=8/\(ot s).length<=8/\∀x∈nx s,x∈U)/\U.length<=1000000/\nm.length<=3/\YZ P w K mg base 12 f H τ /\
 (∀(s:κ) (F:V) (H1:Hp) (J:VK),s∈U->sk.at_ H1 s F->Z9 H H1->(∀t G D C H2,H2 t=some (.tup [.ref G,.ref D])->SqF H1 H2 G C->StA sk H2 (nx s) C->SqF H1 H2 D (ot s)->Z9 H1 H2->J (.ref t) H2)->τ [F] H1 J E0) /\
 ∀p q m (l:List κ) C H',BfE nx b l->H' p=some (.tup [.ref q,.ref m])->H q=none->H' q=some (.lst C)->StA sk H' l C->M4 H' m nm 0 (rnG nx l) (l.map ot)->Z9 H H'->Q (.ref p) H'
theorem Wq:Y6 P w K mg base CX0 13 t.cx t.cy ["names","begin","step_of"] (GJ P w K mg base):=by
 have J:=xu P base T TB;refine T.ai.F.ok Yd (fun vs H Q E h=>?_) (fun cdv A outer s H vs Q E hr h=>?_)
 ·obtain⟨_,_,_,_,_,_,_,_,_,_,_,_,rfl,_⟩:=h;rfl
 ·obtain⟨κ,_,sk,pn,f,nm,b,bv,nx,ot,U,τ,rfl,hpn,hbv,hb,hU,h2,hn3,hc,hτ,k⟩:=h;have hu:=ZL hr;refine⟨_,@QSs.out _ _ _ (Zb (Zz 3 Yd.nd (ZN (Zi (qv 1) Zd)))
    (Zb (Zz 4 Yd.nd (QE.or (Zbu (y6 hr) (qv 1) Zf) (Zi1 (Zey (qv 1) Zf Zi0) rfl rfl (fun z=>nomatch z) (by decide))))
    (Zb (Zz 5 Yd.nd (ZN Zd))
    (Zb (Zz 6 Yd.nd (ZN Zd))
    (Zb (WQ Qbq (Zq Zad (Zn Zr (by rfl) T.ae Yb (Zi (qv 5) Zd)) (Zn Zr (by rfl) T.ae Yb (Zi (qv 3) Zd)) (Zx _))
    (Zb (Zz 7 Yd.nd (Zew (k:=12) 2 (hr.mono (by decide)) (Zi (Z3 Zy (qv 3) (Zn Zr (by rfl) T.ae Yb (Zi (qv 5) Zd))) Zd)))
    (Zb (Yn (YE Qau Qa5 Qa6 ZF (qv 5) (Zi (Z4 Z0 (by rfl) T.ah ZR (Zi (Y4 ({}:ZQ (Zh Xx) _ ["names","begin","step_of","states","numbers","steps","out","told"] "state" ["states","numbers"] [3,4]) (QI.or (Xq (Z3 ZP (qv 7) Zf)) (Xr (Z3 ZP (qv 7) Zf))) (fun _ _ _ _=>Xh) (fun _ _ _ _=>(Zl T.et J hr (Zi (qv 0) (Zi (qv 1) (Zi (qv 2) Zd)))))) Zd)) Zd)))
    (Ze (Yn (YE Qau Qa5 Qa6 ZF (qv 6) (Zi (Z4 Z0 (by rfl) T.ah ZR (Zi (Z3 ZP (qv 7) Zf) Zd)) Zd)))))))
    (Ze (Zo (Yc (Zi (qv 3) (Zi (Yc (Zi (Z4 Z0 (by rfl) T.ah ZR (Zi (qv 0) Zd)) (Zi Zf (Zi (Z4 Z0 (by rfl) T.ah ZR (Zi (qv 5) Zd)) (Zi (Z4 Z0 (by rfl) T.ah ZR (Zi (qv 6) Zd)) Zd))))) Zd)))))))))),?_⟩
  try dsimp only[L2.cxK,L2.cxK2]
  refine L2.let6 ?_;intro U5 U4 U3 U2 U1;have hr:∀s∈U,∀x∈nx s,x∈U:=fun s h=>(hU s h).2.2;refine⟨_,rfl,Zk7,fun st hst=>?_⟩;have s1:=Zc (o:=.lst [bv]) hst;refine Zg ?_;have begun:∀(D:Aw) (H3:Hp),H D=none->H3 st=some (.lst [bv])->sk.dic H3 D [b]->sk.at_ H3 b bv->Z9 H H3->U2 {nx:=fun _ H'=>Q .non H',rt:=Q} [some (.ref pn),some bv,some (.ref f),some (.ref st),some (.ref D),none,none,none] H3:=by
   intro D H3 hndH hst3 hnd3 hbv3 s3;obtain⟨ond,hond,ndT,ndL⟩:=SK.ne hnd3;refine⟨g9,fun pp hpp=>Zg ⟨g9,fun I hpo=>Zg ?_⟩⟩;have sp:=Zc (o:=.lst []) hpp;have so:=sp.trans (Zc (o:=.lst []) hpo);have hppH:H pp=none:=s3.free hpp;have hpoH:H I=none:=s3.free (sp.free hpo);have pst:pp≠st:=(Zm hst3 hpp).symm;have pnd:pp≠D:=(Zm hond hpp).symm;have ppo:pp≠I:=Zm Za hpo;have ost:I≠st:=(Zm (sp _ _ hst3) hpo).symm;have oNd:I≠D:=(Zm (sp _ _ hond) hpo).symm;have rl:∀{H:Hp} {zs:A2} {i:Nat},Xk H zs (xJ nx b i)->zs.length=i:=fun z=>by
    have:=z.1;unfold xJ at this;rw[Qab,Qbb]at this;exact this
   have ol:∀{H:Hp} {zs:A2} {i:Nat},Xk H zs (j9 nx ot b i)->zs.length=i:=fun z=>by
    have:=z.1;unfold j9 at this;rw[Qab,Qbb]at this;exact this
   have L:∀{Ha Hb:Hp},Z9 Ha Hb->∀b xs,Ha b=some (.tup xs)->Hb b=some (.tup xs):=fun s b xs e=>s _ _ e;refine Ge (fun σ H2=>∃(i:Nat) (u7:Option V) (zs os ws:A2),σ=[some (.ref pn),some bv,some (.ref f),some (.ref st),some (.ref D),some (.ref pp),some (.ref I),u7]/\H2 st=some (.lst ws)/\StA sk H2 (bfN nx b i) ws/\sk.dic H2 D (bfN nx b i)/\H2 pp=some (.lst zs)/\H2 I=some (.lst os)/\Xk H2 zs (xJ nx b i)/\Xk H2 os (j9 nx ot b i)/\(∀j,j<i->j<(bfN nx b j).length)/\i<=(bfN nx b i).length/\Z9 H H2) (fun _ H2=>match H2 pp with|some (.lst zs)=>U.length-zs.length|_=>0) ⟨0,none,[],[],[bv],rfl,so _ _ hst3,StA.one (SK.keep hbv3 (L so)),SK.stay hnd3 (fun o e=>so _ _ e) (L so),Zc hpo _ _ Za,Za,Xk.nil,Xk.nil,(fun j hj=>absurd hj (Qdz _)),Qbl _,s3.trans so⟩ ?_;rintro σ H4 ⟨i,u7,zs,os,ws,rfl,Z,hA4,hnd4,O,hpo4,Rz,Ro,hgo,hil,s4⟩;have hzl:=rl Rz;have hol:=ol Ro;have hlen:=Zcm hb hr i;have hnod:=JE (nx:=nx) (b:=b) i;have hinU:=Zcl hb hr i;refine⟨_,rfl,pp,_,rfl,.inl (SqL.of O),_,rfl,st,_,rfl,.inl (SqL.of Z),_,_,rfl,rfl,_,rfl,?_⟩;rw[hzl,hA4.1];refine x8 (fun hlt=>?_) (fun hlt=>?_)
   ·have hlt':i<(bfN nx b i).length:=by
     have:=Qbh hlt;lia
    obtain⟨C,hsi⟩:∃C,(bfN nx b i)[i]?=some C:=⟨_,Qac hlt'⟩;have hsU:C∈U:=hinU _ (Qas hsi);obtain⟨r8,o8,rU⟩:=hU C hsU;obtain⟨sv,hsv,hat⟩:=hA4.2 i C hsi;have eR:=uj (nx:=nx) (b:=b) hsi;have eO:=uk (nx:=nx) (ot:=ot) (b:=b) hsi;have eS:=j8 (nx:=nx) (b:=b) hsi;refine⟨fun σ' H'=>∃(u7:Option V) (zs' os' G:A2),σ'=[some (.ref pn),some bv,some (.ref f),some (.ref st),some (.ref D),some (.ref pp),some (.ref I),u7]/\H' st=some (.lst G)/\StA sk H' (bfN nx b (i+1)) G/\sk.dic H' D (bfN nx b (i+1))/\H' pp=some (.lst zs')/\H' I=some (.lst os')/\Xk H' zs' (xJ nx b (i+1))/\Xk H' os' (j9 nx ot b (i+1))/\Z9 H H',?_,?_⟩
    ·rintro σ' H' ⟨u8,zs',os',G,rfl,g1,gA,g2,g3,g4,g5,g6,s5⟩;have hpre:(bfN nx b i).length<=(bfN nx b (i+1)).length:=by
      obtain⟨r,e⟩:=WU (nx C) (bfN nx b i);rw[eS,e,Qaj];lia
     refine⟨U.length-(i+1),?_,?_,i+1,u8,zs',os',G,rfl,g1,gA,g2,g3,g4,g5,g6,fun j hj=>?_,by lia,s5⟩
     ·rw[O];show U.length-(i+1)<U.length-zs.length;lia
     ·rw[g3];show _=U.length-zs'.length;rw[rl g5]
     ·by_cases hji:j=i
      ·rw[hji];exact hlt'
      ·exact hgo j (by lia)
    ·refine⟨f,τ,rfl,hc.frz s4.frz,_,rfl,_,rfl,pp,_,rfl,.inl (SqL.of O),st,_,_,sv,rfl,rfl,SqL.of Z,by rw[hzl];exact YC hsv,JT.refl _,hτ C sv H4 _ hsU hat s4 fun tt r1 r2 ws0 H5 htt hr1 hA5 hr2 s5=>?_⟩;refine Zg ?_;generalize hl0:bfN nx b i=l0 at *;have hst5:=s5 _ _ Z;have hnd5:sk.dic H5 D l0:=SK.stay hnd4 (fun o e=>s5 _ _ e) (L s5);have hpp5:=s5 _ _ O;have hpo5:=s5 _ _ hpo4;obtain⟨ond4,hond4,nd4T,nd4L⟩:=SK.ne hnd4;have ndn:∀{r:Aw} {ys:A2},SqF H4 H5 r ys->r≠st/\r≠D/\r≠pp/\r≠I:=fun{r ys} z=>by
      have lst:∀{q:Aw} {o:HO},H4 q=some o->(∀xs,o≠.tup xs)->r≠q:=fun{q o} e ht e2=>by
       subst e2;rcases z with z|⟨_,z⟩
       ·rw[s5 _ _ e]at z;exact ht ys (Option.some.inj z)
       ·rw[e]at z;cases z
      exact⟨lst Z (fun _ z=>nomatch z),lst hond4 nd4T,lst O (fun _ z=>nomatch z),lst hpo4 fun _ z=>nomatch z⟩
     obtain⟨rst,rnd,_,_⟩:=ndn hr1;refine⟨_,rfl,.inl ⟨rfl,_,SqL.of hpp5⟩,?_⟩;have hr1':H5 r1=some (.tup ws0)\/H5 r1=some (.lst ws0):=hr1.imp id (fun z=>z.1);have w8:ws0.length<=8:=by rw[hA5.1];exact r8
     refine Zfm (a:=r1) (xs:=ws0) (fun R hR=>⟨_,rfl,tt,_,0,_,rfl,rfl,SqT.of htt,rfl,hR⟩) hr1' (fun j zs H'=>zs=((nx C).take j).map (fun x=>Ws ((bfN nx b (i+1)).idxOf x))/\(∃G,H' st=some (.lst G)/\StA sk H' (((nx C).take j).foldl Y5 l0) G)/\sk.dic H' D (((nx C).take j).foldl Y5 l0)/\(∀b o,H5 b=some o->b≠st->b≠D->H' b=some o)/\∀b,H5 b=none->H' b=none) ⟨rfl,⟨ws,hst5,hA4.keep (L s5)⟩,hnd5,(fun _ _ e _ _=>e),fun _ e=>e⟩ ?_ ?_ ?_ ?_
     ·rintro j zs H6 ⟨rfl,_⟩;rw[Qab,Qa2];exact Qa0 (Z2 (by lia))
     ·rintro j zs H6 ⟨_,_,_,g3,_⟩ o e;exact g3 _ _ e rst rnd
     ·rintro j x zs H6 R hR hx ⟨rfl,⟨G,g1,gA⟩,g2,g3,g4⟩;have hj:j<(nx C).length:=by rw[<-hA5.1];exact(Qag.mp hx).1
      obtain⟨s',hs'⟩:∃s',(nx C)[j]?=some s':=⟨_,Qac hj⟩;have tp6:∀b xs,H5 b=some (.tup xs)->H6 b=some (.tup xs):=fun b xs e=>g3 _ _ e (Xm e hst5 (fun z=>nomatch z)) (fun z=>by rw[z,s5 _ _ hond4]at e;exact nd4T xs (Option.some.inj e));obtain⟨v',hv',hat'⟩:=hA5.2 j s' hs';rw[hx]at hv';cases hv';have hat6:=SK.keep hat' tp6;have e1:((nx C).take (j+1)).foldl Y5 l0=Y5 (((nx C).take j).foldl Y5 l0) s':=by
       rw[take_snoc hs',Qc8];rfl
      have e2:(bfN nx b (i+1)).idxOf s'=(Y5 (((nx C).take j).foldl Y5 l0) s').idxOf s':=by
       have e3:(nx C).foldl Y5 l0=((nx C).drop (j+1)).foldl Y5 (((nx C).take (j+1)).foldl Y5 l0):=by rw[<-Qc8,Qc9]
       obtain⟨r,e4⟩:=WU ((nx C).drop (j+1)) (((nx C).take (j+1)).foldl Y5 l0);rw[eS,e3,e4,e1,JV (X6.mpr (.inr rfl))]
      have hnj:(((nx C).take j).foldl Y5 l0).Nodup:=qZ _ _ hnod;have hlj:(((nx C).take j).foldl Y5 l0).length<10000000:=by
       have:=Zck ((nx C).take j) l0;rw[Qa2]at this;lia
      have ew:((nx C).take (j+1)).map (fun x=>Ws ((bfN nx b (i+1)).idxOf x))=((nx C).take j).map (fun x=>Ws ((bfN nx b (i+1)).idxOf x))++[Ws ((bfN nx b (i+1)).idxOf s')]:=by
       rw[take_snoc hs',Qay];rfl
      rw[ew,e1]at hR;rw[e2]at hR;generalize ((nx C).take j).foldl Y5 l0=l' at *;refine Zk3 ⟨_,rfl,_,rfl,_,rfl,κ,_,sk,x,st,D,s',l',G,rfl,g1,gA.1,g2,hat6,hnj,hlj,fun H7 ws7 q1 q0 q2 q3 q4=>hR _ _ ⟨rfl,⟨ws7,q1,?_⟩,q2,(fun b o e h1 h2=>q3 _ _ (g3 b o e h1 h2) h1 h2),fun b e=>q4 _ (g4 b e)⟩⟩;have tp7:∀b xs,H6 b=some (.tup xs)->H7 b=some (.tup xs):=fun b xs e=>q3 _ _ e (Xm e g1 (fun z=>nomatch z)) fun z=>by
       obtain⟨o,e7,h7,_⟩:=SK.ne g2;rw[z,e7]at e;exact h7 xs (Option.some.inj e)
      rcases q0 with⟨hm,rfl⟩|⟨hm,rfl⟩
      ·rw[show Y5 l' s'=l' from Qa3 hm];exact gA.keep tp7
      ·rw[show Y5 l' s'=l'++[s']from Qax hm];exact(gA.keep tp7).snoc (SK.keep hat6 tp7)
     ·rintro zs1 H6 ⟨rfl,⟨G,g1,gA⟩,g2,g3,g4⟩ l hl;rw[hA5.1,Qb7]at g2 gA ⊢;rw[<-eS]at g2 gA;have tp6:∀{c:Aw} {ys:A2},H5 c=some (.tup ys)->H6 c=some (.tup ys):=fun{c ys} e=>g3 _ _ e (Xm e hst5 (fun z=>nomatch z)) (fun z=>by rw[z,s5 _ _ hond4]at e;exact nd4T ys (Option.some.inj e));have hpp6:=g3 _ _ hpp5 pst pnd;have hpo6:=g3 _ _ hpo5 ost oNd;have htt6:=tp6 htt;have M:H6 r2=some (.tup (ot C))\/H6 r2=some (.lst (ot C)):=by
       obtain⟨z1,z2,_⟩:=ndn hr2;rcases hr2 with z|⟨z,_⟩
       ·exact .inl (g3 _ _ z z1 z2)
       ·exact .inr (g3 _ _ z z1 z2)
      have ndr2:=ndn hr2;refine⟨l,_,rfl,.inl ⟨SqL.of Za,fun q hq=>?_⟩⟩;have sl:=Zc (o:=.lst ((nx C).map fun x=>Ws ((bfN nx b (i+1)).idxOf x))) hl;have sq:=sl.trans (Zc (o:=.tup ((nx C).map fun x=>Ws ((bfN nx b (i+1)).idxOf x))) hq);have hqp:q≠pp:=(Zm (sl _ _ hpp6) hq).symm;have hqo:q≠I:=(Zm (sl _ _ hpo6) hq).symm;refine⟨pp,_,_,rfl,rfl,sq _ _ hpp6,Yu (by lia),?_⟩;have k8:∀c o,H6 c=some o->c≠pp->upd (upd (upd H6 l (.lst ((nx C).map fun x=>Ws ((bfN nx b (i+1)).idxOf x)))) q (.tup ((nx C).map fun x=>Ws ((bfN nx b (i+1)).idxOf x)))) pp (.lst (zs++[.ref q])) c=some o:=fun c o e hc=>by
       rw[Zk hc];exact sq _ _ e
      have hq8:upd (upd (upd H6 l (.lst ((nx C).map fun x=>Ws ((bfN nx b (i+1)).idxOf x)))) q (.tup ((nx C).map fun x=>Ws ((bfN nx b (i+1)).idxOf x)))) pp (.lst (zs++[.ref q])) q=some (.tup ((nx C).map fun x=>Ws ((bfN nx b (i+1)).idxOf x))):=by
       rw[Zk hqp];exact Za
      have hp8:=Za (H:=upd (upd H6 l (.lst ((nx C).map fun x=>Ws ((bfN nx b (i+1)).idxOf x)))) q (.tup ((nx C).map fun x=>Ws ((bfN nx b (i+1)).idxOf x)))) (a:=pp) (o:=.lst (zs++[.ref q]));have d8:sk.dic (upd (upd (upd H6 l (.lst ((nx C).map fun x=>Ws ((bfN nx b (i+1)).idxOf x)))) q (.tup ((nx C).map fun x=>Ws ((bfN nx b (i+1)).idxOf x)))) pp (.lst (zs++[.ref q]))) D (bfN nx b (i+1)):=SK.off (SK.stay g2 (fun o e=>sq _ _ e) (L sq)) (sq _ _ hpp6);generalize upd (upd (upd H6 l (.lst ((nx C).map fun x=>Ws ((bfN nx b (i+1)).idxOf x)))) q (.tup ((nx C).map fun x=>Ws ((bfN nx b (i+1)).idxOf x)))) pp (.lst (zs++[.ref q]))=H8 at *;have tp8:∀{c:Aw} {ys:A2},H6 c=some (.tup ys)->H8 c=some (.tup ys):=fun{c ys} e=>k8 _ _ e (Xm e hpp6 (fun z=>nomatch z));have hpo8:=k8 _ _ hpo6 ppo.symm;have last:∀(Y:Aw) (H9:Hp),H9 Y=some (.tup (ot C))->Z9 H8 H9->H9 I=some (.lst os)/\(upd H9 I (.lst (os++[.ref Y])) st=some (.lst G)/\StA sk (upd H9 I (.lst (os++[.ref Y]))) (bfN nx b (i+1)) G/\sk.dic (upd H9 I (.lst (os++[.ref Y]))) D (bfN nx b (i+1))/\upd H9 I (.lst (os++[.ref Y])) pp=some (.lst (zs++[.ref q]))/\upd H9 I (.lst (os++[.ref Y])) I=some (.lst (os++[.ref Y]))/\Xk (upd H9 I (.lst (os++[.ref Y]))) (zs++[.ref q]) (xJ nx b (i+1))/\Xk (upd H9 I (.lst (os++[.ref Y]))) (os++[.ref Y]) (j9 nx ot b (i+1))/\Z9 H (upd H9 I (.lst (os++[.ref Y])))):=by
       intro Y H9 ha9 s9;have hpo9:=s9 _ _ hpo8;have tp9:∀{c:Aw} {ys:A2},H9 c=some (.tup ys)->upd H9 I (.lst (os++[.ref Y])) c=some (.tup ys):=fun{c ys} e=>by rw[Zk (Xm e hpo9 (fun z=>nomatch z))];exact e
       have tp59:∀b xs,H5 b=some (.tup xs)->upd H9 I (.lst (os++[.ref Y])) b=some (.tup xs):=fun b xs e=>tp9 (s9 _ _ (tp8 (tp6 e)));refine⟨hpo9,?_,gA.keep (fun b xs e=>tp9 (s9 _ _ (tp8 e))),SK.off (SK.stay d8 (fun o e=>s9 _ _ e) (L s9)) hpo9,?_,Za,?_,?_,fun c o' e=>?_⟩
       ·rw[Zk ost.symm];exact s9 _ _ (k8 _ _ g1 pst.symm)
       ·rw[Zk ppo];exact s9 _ _ hp8
       ·rw[eR];exact(zN (fun b xs e=>tp59 b xs (s5 _ _ e)) Rz).snoc (tp9 (s9 _ _ hq8))
       ·rw[eO];exact(zN (fun b xs e=>tp59 b xs (s5 _ _ e)) Ro).snoc (tp9 ha9)
       ·have cp:c≠pp:=Zm e hppH;have co:c≠I:=Zm e hpoH;rw[Zk co];exact s9 _ _ (k8 _ _ (g3 _ _ (s5 _ _ (s4 _ _ e)) (Zm e hst) (Zm e hndH)) cp)
      refine⟨_,rfl,.inl ⟨rfl,_,SqL.of hpo8⟩,_,rfl,tt,_,1,_,rfl,rfl,SqT.of (tp8 htt6),rfl,r2,ot C,rfl,?_⟩;rcases M with M|M
      ·obtain⟨l1,l2⟩:=last r2 H8 (tp8 M) (Z9.refl _);exact .inr ⟨SqT.of (tp8 M),I,_,_,rfl,rfl,l1,Yu (by lia),_,zs++[.ref q],os++[.ref r2],G,rfl,l2⟩
      ·refine .inl ⟨SqL.of (k8 _ _ M ndr2.2.2.1),fun Y ha9=>?_⟩;obtain⟨l1,l2⟩:=last Y (upd H8 Y (.tup (ot C))) Za (Zc ha9);exact⟨I,_,_,rfl,rfl,l1,Yu (by lia),_,zs++[.ref q],os++[.ref Y],G,rfl,l2⟩
   ·have hle:(bfN nx b i).length=i:=by
     have:¬(i:Int)<((bfN nx b i).length:Int):=fun z=>hlt (Qan z);lia
    refine⟨_,rfl,_,rfl,pn,_,rfl,.inr ⟨SqT.of (s4 _ _ hpn),_,rfl,pp,_,rfl,.inl ⟨SqL.of O,fun a1 ha1=>⟨_,rfl,I,_,rfl,.inl ⟨SqL.of (Zc ha1 _ _ hpo4),fun a2 ha2=>⟨zln4,fun m hm=>⟨vx,fun p hp=>?_⟩⟩⟩⟩⟩⟩⟩;have q1:=Zc (o:=.tup zs) ha1;have q2:=Zc (o:=.tup os) ha2;have q3:=Zc (o:=.tup [.ref pn,.int 0,.ref a1,.ref a2]) hm;have q4:=Zc (o:=.tup [.ref st,.ref m]) hp;have qq:=q1.trans (q2.trans (q3.trans q4));refine k p st m (bfN nx b i) ws _ ⟨by rw[hle],fun j hj=>hgo j (by lia)⟩ Za hst (qq _ _ Z) (hA4.keep (L qq)) ⟨⟨pn,a1,a2,q4 _ _ Za,qq _ _ (s4 _ _ hpn),⟨zs,(q2.trans (q3.trans q4)) _ _ Za,?_,fun j r hj=>?_⟩,⟨os,(q3.trans q4) _ _ Za,?_,fun j r hj=>?_⟩⟩⟩ (s4.trans qq)
    ·rw[hzl,Qab,xb,hle]
    ·rw[<-Zcn hle hgo]at hj;obtain⟨a,g1,g2⟩:=Rz.2 j r hj;exact⟨a,g1,qq _ _ g2⟩
    ·rw[hol,Qab,hle]
    ·rw[<-Zco hle hgo]at hj;obtain⟨a,g1,g2⟩:=Ro.2 j r hj;exact⟨a,g1,qq _ _ g2⟩
  have fin:∀(D:Aw) (H3:Hp),H D=none->D≠st->(∃o,H3=upd (upd H st (.lst [bv])) D o)->sk.dic H3 D [b]->U2 {nx:=fun _ H'=>Q .non H',rt:=Q} [some (.ref pn),some bv,some (.ref f),some (.ref st),some (.ref D),none,none,none] H3:=by
   intro D H3 hndH hne ho hd3;obtain⟨o,rfl⟩:=ho;have hnd1:upd H st (.lst [bv]) D=none:=by rw[Zk hne];exact hndH
   have s3:=s1.trans (Zc (o:=o) hnd1);exact begun D _ hndH (by rw[Zk hne.symm];exact Za) hd3 (SK.keep hbv fun b xs e=>s3 _ _ e) s3
  cases sk with
  |int f9 inj=>
   have hbv:bv=.int (f9 b):=hbv;subst hbv;refine .inr fun D hnd=>?_;have snd:st≠D:=Zm Za hnd;refine⟨_,rfl,Za,[(.inl (f9 b),.int 0)],rfl,by show 1<=15;decide,Zg ?_⟩;have em:zm [] [((.inl (f9 b):Key),V.int 0)]=nk ([b].map f9):=rfl;rw[em,v3];exact fin D _ (s1.free hnd) snd.symm ⟨_,rfl⟩ Za
  |key kn=>
   obtain⟨a,rfl,ha⟩:=id hbv;refine .inl fun D hnd=>?_;have snd:st≠D:=Zm Za hnd;have sn2:=s1.trans (Zc (o:=.dK []) hnd);refine⟨_,rfl,κ,_,kn,a,b,rfl,Za,kn.keep _ _ _ _ (fun b xs e=>sn2 _ _ e) ha,fun H' n' _ ho=>Zg ?_⟩;obtain⟨o,rfl⟩:=ho;rw[v3]at n' ⊢;exact fin D _ (s1.free hnd) snd.symm ⟨_,rfl⟩ n'
def Zgd(K:Af)(q:Aw):Sp:=fun vs H Q _=>∃(m:Aw) (nm:Ai) (b:Nat) (nx:Ad) (ot:Az) (C:Bool),vs=[.ref m]/\M4 H m nm b nx ot/\Wf nm b nx ot C/\Yo H q Yr Ys /\
 ∀f (l cs:Aj) H',zM nx b l->cs=Zd2 (rnR nx l) (Zc2 (rnQ ot l)) l.length->Zd3 (rnR nx l) cs->uy (Zc2 (rnQ ot l)) cs->M4 H' f nm 0 (lsR (rnR nx l) cs) (lsO (rnQ ot l) cs)->Yo H' q Yr Ys->Zk5 q H H'->Q (.ref f) H'
theorem Zge:Y6 P w K mg base CX0 14 t.aab t.og ["machine"] (Zgd K t.ao):=by
 have I:=JJ P base T TB;have J:=vi P base T TB;have D:=GI P base T TB;have G:=Wq P base T TB;refine T.aae.F.okC XC (fun vs H Q E h=>?_) (fun A outer s H vs Q E hr h=>?_)
 ·obtain⟨_,_,_,_,_,_,rfl,_⟩:=h;rfl
 ·obtain⟨m,nm,b,nx,ot,tr,rfl,M,W,B,k⟩:=h;have hu:=ZL hr;refine⟨_,@QSs.out _ _ _ (Zb (Zz 1 XC.nd (Z3 ZP (Zbp (kl:=11) G (hr.mono (by decide)) rfl T.ai.m T.ai.F.kp T.ai.b rfl (Z3 ZP (qv 0) Zf) (Z3 ZP (qv 0) Zf) T.aan TB.oh TB.B rfl rfl rfl rfl (⟨⟨by rfl,by rfl,by rfl,by decide +kernel,by decide +kernel,by decide +kernel,by decide +kernel⟩,by decide +kernel,by decide +kernel,by rfl⟩:Zlv (Zh qL) _ ["machine","found","steps","out","classes","firsts","least_steps","least_out"] ["state"] ["machine"] [0]) (fun _ _ _ _ us hl=>match us,hl with|[_],_=>rfl) (fun _ _ _ _ _ _ _ hrl=>(Yc (Zi (Z3 (show IxR _ (gK K)from ZP) (Z3 (show IxR _ (gK K)from ZP) (qv 1) Zf) (qv 0)) (Zi (Z3 (show IxR _ (gK K)from ZP) (Z3 (show IxR _ (gK K)from ZP) (qv 1) Zf) (qv 0)) Zd))))) Zf))
    (Zb (Zz 2 XC.nd (Z3 ZP (qv 1) Zf))
    (Zb (Zz 3 XC.nd (Z3 ZP (qv 1) Zf))
    (Zb (Zz 4 XC.nd (Zl T.dm D hr (Zi (qv 2) (Zi (qv 3) Zd))))
    (Zb (Zz 5 XC.nd (Zl T.nj J hr (Zi (qv 4) Zd)))
    (Zb (ja (i:=6) XC.nd rfl rfl ({}:ZQ (Zh qL) _ ["machine","found","steps","out","classes","firsts","least_steps","least_out"] "state" ["classes","steps"] [4,2]) (Xq (qv 5)) (fun _ _ _ _=>Xh) (fun _ _ _ _=>(Zl T.ba I hr (Zi (Z3 (show IxR _ (gK K)from ZP) (qv 2) (qv 0)) (Zi (qv 1) Zd)))))
    (Zb (ja (i:=7) XC.nd rfl rfl ({}:ZQ (Zh qL) _ ["machine","found","steps","out","classes","firsts","least_steps","least_out"] "state" ["out"] [3]) (Xq (qv 5)) (fun _ _ _ _=>Xh) (fun _ _ _ _=>(Z3 (show IxR _ (gK K)from ZP) (qv 1) (qv 0))))
    (Ze (Zo (Yc (Zi (Z3 ZP (qv 1) Zf) (Zi Zf (Zi (Z4 Z0 (by rfl) T.ah ZR (Zi (qv 6) Zd)) (Zi (Z4 Z0 (by rfl) T.ah ZR (Zi (qv 7) Zd)) Zd)))))))))))))),?_⟩
  try dsimp only[L2.cxK,L2.cxK2]
  refine L2.let8 ?_;intro U7 U6 U5 U4 U3 U2 U1;obtain⟨pn,ps,po,hm,hn,R,O⟩:=M.ex;obtain⟨pz,hpz⟩:=B.ex;have tP:∀{b:Aw} {xs:A2},H b=some (.tup xs)->b≠t.ao:=fun e=>Xm e hpz (fun z=>nomatch z);refine⟨_,rfl,m,_,0,_,rfl,rfl,SqT.of hm,rfl,_,rfl,m,_,1,_,rfl,rfl,SqT.of hm,rfl,B,fun cs f H2 hcs hfz hf hT2 o2 hc=>?_⟩;have t2:∀(b:Aw) (xs:A2),H b=some (.tup xs)->H2 b=some (.tup xs):=fun b xs e=>o2 _ _ e (tP e);have hL8:=p8 W.n3;refine⟨Nat,inferInstance,.int (fun s:Nat=>(s:Int)) (fun a b e=>Int.ofNat.inj e),pn,f,nm,b,.int (b:Int),(fun s=>nx.getD s []),(fun s=>ot.getD s []),List.range nx.length,_,rfl,t2 _ _ hn,rfl,Qbt.mpr W.b,(fun s hs=>⟨by rw[W.row (Qbt.mp hs)];exact hL8,by rw[W.or _ (getD_mem (show s<ot.length by rw[W.ol];exact Qbt.mp hs))];exact hL8,fun x hx=>Qbt.mpr (W.nl _ (getD_mem (Qbt.mp hs)) x hx)⟩),by rw[Qbb];exact W.le,W.n3,hc,fun s sv H1 Q' hs hat sH hQ=>⟨rfl,?_⟩,fun p sts fm l wsl H3 B3 hp hsts0 hsts hA M3 s3=>?_⟩
  ·have hs:=Qbt.mp hs;have hat:sv=.int (s:Int):=hat;subst hat;have th:∀(b:Aw) (xs:A2),H b=some (.tup xs)->hide cs H1 b=some (.tup xs):=fun b xs e=>J3 hfz sH (sH _ _ (t2 _ _ e)) (fun o z=>nomatch z);obtain⟨pn',ps',po',hm',_,R',O'⟩:=(M.tups th).ex;obtain⟨as1,a1,g1,g2,g3⟩:=j5 R' (i:=s) (by rw[Qab];exact hs);obtain⟨as2,a2,f1,f2,f3⟩:=j5 O' (i:=s) (by rw[W.ol];exact hs);rw[yL]at g3;refine⟨_,rfl,m,_,2,_,rfl,rfl,SqT.of hm',rfl,_,rfl,ps',_,_,_,rfl,rfl,SqT.of g1,g2,_,rfl,m,_,3,_,rfl,rfl,SqT.of hm',rfl,_,rfl,po',_,_,_,rfl,rfl,SqT.of f1,f2,vx,fun q hq hcn=>?_⟩;obtain⟨sq,hq2⟩:=Zkb hq hcn;exact hQ q a1 a2 _ _ hq2 (.inl (sq _ _ (of_hide g3).2)) ⟨by unfold qX;rw[Qab],fun i k hk=>⟨Ws k,by unfold qX;rw[Qah,hk];rfl,rfl⟩⟩ (.inl (sq _ _ (of_hide f3).2)) sq
  have B3:=Zke B3;have M3:M4 H3 fm nm 0 (rnR nx l) (rnQ ot l):=M3;have t3:∀(b:Aw) (xs:A2),H3 b=some (.tup xs)->hide cs H3 b=some (.tup xs):=fun b xs e=>J3 hfz s3 e (fun o z=>nomatch z);have T3:=hT2 H3 s3;have off3:Zk5 t.ao H (hide cs H3):=fun b o e hb=>by
   rw[Z6 (fun m=>by rw[hcs b m]at e;cases e)];exact s3 _ _ (o2 _ _ e hb)
  have M3':M4 (hide cs H3) fm nm 0 (rnR nx l) (rnQ ot l):=M3.tups t3;have hp':=t3 _ _ hp;try dsimp only
  generalize hide cs H3=H4 at *;have W1:=Zme W B3;have hl1:=Jm nx l;have hle:=W1.le;have hb1:=W1.b;have C1:=jF B3;obtain⟨pn4,ps4,po4,hm4,hn4,R4,O4⟩:=M3'.ex;refine⟨p,_,1,_,rfl,rfl,SqT.of hp',rfl,Zg ?_⟩;refine⟨_,rfl,fm,_,2,_,rfl,rfl,SqT.of hm4,rfl,_,rfl,fm,_,3,_,rfl,rfl,SqT.of hm4,rfl,_,rfl,_,rfl,ps4,po4,rnR nx l,rnQ ot l,Zc2 (rnQ ot l),rfl,R4,O4,Zkd W1,W1.ol,(fun row h=>⟨by rw[W1.nr row h];exact hL8,W1.nl row h⟩),hb1,by lia,fun pc C H5 hpc0 hpc hcl hst hnn hcls hcn s5=>?_⟩;have S:Zd3 (rnR nx l) C:=⟨hcl,hst⟩;have F:=qc hnn;have hfl:=yY C;rw[hl1]at hcn hle;have hcl':C.length=l.length:=by rw[hcl,hl1]
  refine⟨_,rfl,pc,C.map fun c:Nat=>(c:Int),rfl,by rw[hpc,Qaw];rfl,by rw[Qab];lia,fun pf H6 hpf0 Z s6=>?_⟩;have Z:H6 pf=some (.lst ((YN C).map Ws)):=Z;have s56:=s5.trans s6;have fR:∀{i f:Nat},(YN C)[i]?=some f->f<(rnR nx l).length:=fun{i f} h=>by
   rw[<-hcl];exact(Qag.mp (F.at_ _ _ h).1).1
  have fl:(YN C).length<=1000000:=by lia
  refine Zg ⟨_,rfl,pf,rfl,⟨_,SqL.of Z⟩,Xs (K:=K) (a:=pf) (xs:=(YN C).map Ws) (fun i zs H'=>Xk H' zs (((lsR (rnR nx l) C).map qX).take i)/\i<=(YN C).length/\Z9 H6 H') ⟨Xk.nil,Qbl _,Z9.refl _⟩ (fun i zs H' h=>?_) (fun i zs H' h=>SqL.of (h.2.2 _ _ Z)) (fun i x zs H7 R7 hR hx h=>?_) (fun zs H7 h p1 hp1=>?_)⟩
  ·rw[h.1.1,Qa2];exact Qa0 (Yu (by lia))
  ·obtain⟨hZ,hi,s7⟩:=h;rw[Qah]at hx;obtain⟨f1,Y,rfl⟩:=Qa4.mp hx;have hil:=(Qag.mp Y).1;have L:=fR Y;have s47:=s56.trans s7;obtain⟨as1,a1,g1,g2,g3⟩:=j5 (R4.same s47) (i:=f1) (by rw[Qab];exact L);rw[yL]at g3;have r8:=W1.nr _ (getD_mem L);refine Zk3 ⟨_,rfl,_,rfl,ps4,_,_,_,rfl,rfl,SqT.of g1,g2,_,rfl,a1,pc,(rnR nx l).getD f1 [],C.map fun c:Nat=>(c:Int),rfl,g3,?_,(fun s hs=>?_),by lia,by rw[Qab];lia,fun q H8 hq0 hq s8=>hR _ _ ⟨?_,hil,s7.trans s8⟩⟩
   ·rw[(s6.trans s7) _ _ hpc,Qaw];rfl
   ·rw[Qab,hcl];exact W1.nl _ (getD_mem L) s hs
   ·have e1:((lsR (rnR nx l) C).map qX)[i]?=some (qX (((rnR nx l).getD f1 []).map fun x=>C.getD x 0)):=by
     unfold lsR;rw[Qah,Qah,Y];rfl
    have e2:(((rnR nx l).getD f1 []).map fun s=>(C.map fun c:Nat=>(c:Int)).getD s 0).map V.int=qX (((rnR nx l).getD f1 []).map fun x=>C.getD x 0):=by
     unfold qX;rw[Qaw,Qaw];refine Qbo fun s _=>?_;exact congrArg V.int (Zc3 C s)
    rw[e2]at hq;rw[take_snoc e1];exact(hZ.same s8).snoc hq
  obtain⟨hZ,_,s7⟩:=h;have ll:((YN C).map Ws).length=((lsR (rnR nx l) C).map qX).length:=by
   unfold lsR;rw[Qab,Qab,Qab]
  rw[ll,Qb7]at hZ;have u1:=Zc (o:=.lst zs) hp1;have hp1':upd H7 p1 (.lst zs) p1=some (.lst zs):=Za;have hZ1:=hZ.same u1;have s67:=s7.trans u1;try dsimp only
  generalize upd H7 p1 (.lst zs)=H8 at *;have hpf8:=s67 _ _ Z;refine Zg ⟨_,rfl,pf,rfl,⟨_,SqL.of hpf8⟩,Xs (K:=K) (a:=pf) (xs:=(YN C).map Ws) (fun i zs H'=>Xk H' zs ((lsO (rnQ ot l) C).take i)/\i<=(YN C).length/\Z9 H8 H') ⟨Xk.nil,Qbl _,Z9.refl _⟩ (fun i zs H' h=>?_) (fun i zs H' h=>SqL.of (h.2.2 _ _ hpf8)) (fun i x zs H9 R9 hR hx h=>?_) (fun zs2 H9 h p2 hp2=>?_)⟩
  ·rw[h.1.1,Qa2];exact Qa0 (Yu (by lia))
  ·obtain⟨hZ,hi,s9⟩:=h;rw[Qah]at hx;obtain⟨f1,Y,rfl⟩:=Qa4.mp hx;have hil:=(Qag.mp Y).1;have L:=fR Y;obtain⟨as1,a1,g1,g2,g3⟩:=j5 (O4.same ((s56.trans s67).trans s9)) (i:=f1) (by rw[W1.ol];exact L);refine Zk3 ⟨_,rfl,_,rfl,po4,_,_,_,rfl,rfl,SqT.of g1,g2,hR _ _ ⟨?_,hil,s9⟩⟩;have e1:(lsO (rnQ ot l) C)[i]?=some ((rnQ ot l).getD f1 []):=by
    unfold lsO;rw[Qah,Y];rfl
   rw[take_snoc e1];exact hZ.snoc g3
  obtain⟨hO,_,s9⟩:=h;have ll2:((YN C).map Ws).length=(lsO (rnQ ot l) C).length:=by
   unfold lsO;rw[Qab,Qab]
  rw[ll2,Qb7]at hO;have u2:=Zc (o:=.lst zs2) hp2;have s4z:=(s56.trans s67).trans (s9.trans u2);have hm9:=s4z _ _ hm4;refine Zg ⟨_,rfl,fm,_,0,_,rfl,rfl,SqT.of hm9,rfl,_,rfl,p1,_,rfl,.inl ⟨SqL.of ((s9.trans u2) _ _ hp1'),fun a1 ha1=>⟨_,rfl,p2,_,rfl,.inl ⟨SqL.of (Zc ha1 _ _ Za),fun a2 ha2=>⟨zln4,fun fr L=>?_⟩⟩⟩⟩⟩;have q1:=Zc (o:=.tup zs) ha1;have q2:=Zc (o:=.tup zs2) ha2;have q3:=Zc (o:=.tup [.ref pn4,.int 0,.ref a1,.ref a2]) L;have q:=(q1.trans q2).trans q3;have s4q:=s4z.trans q;refine k fr l C _ B3 hcn S hcls ⟨⟨pn4,a1,a2,Za,s4q _ _ hn4,⟨zs,(q2.trans q3) _ _ Za,(hZ1.same ((s9.trans u2).trans q)).1,(hZ1.same ((s9.trans u2).trans q)).2⟩,⟨zs2,q3 _ _ Za,(hO.same (u2.trans q)).1,(hO.same (u2.trans q)).2⟩⟩⟩ (T3.same s4q) (fun b o e hb=>s4q _ _ (off3 b o e hb))
def JK(P:Aq)(w:Au)(K:Af)(mg:Ae)(base:Heap)(C:Aw):Sp:=fun vs H Q _=>∃(tw G F:Aw) (q:A2) (nm:Ai) (o0 o1:V) (B D:Nat),vs=[.ref tw,.ref G,.ref F]/\H tw=some (.tup q)/\q.length<=100/\H G=some (.tup (nm.map V.str))/\nm.Nodup/\nm.length<=3/\H F=some (.tup [o0,o1])/\(∀w∈q,jz nm w)/\WI q/\wO q=1/\(∀z:Int,V.int z∈q->0<=z/\z<2^B)/\D=Y8 q/\(B+1)*2^D<=1000000/\Yo H C Zt Zs /\
 ∀m (l:List (Int×Ak)) H',BfE (nxT nm (Y9 (2^nm.length) nm) q (lgB q)) (0,List.replicate D 0) l->M4 H' m nm 0 (rnG (nxT nm (Y9 (2^nm.length) nm) q (lgB q)) l) (l.map (otT nm (Y9 (2^nm.length) nm) q o0 o1))->Yo H' C Zt Zs->Zk5 C H H'->Q (.ref m) H'
theorem JL:Y6 P w K mg base CX0 14 t.bf t.aw ["words","names","told"] (JK P w K mg base t.aa):=by
 have I:=Wq P base T TB;have G_bits_at:=uE P base T TB;have G_stepped:=uI P base T TB;have O:=G4 P base T TB;have D:=Gk P base T TB;have J:=xy P base T TB;have Y:=k6 P base T TB;refine T.bg.F.okC ZO (fun vs H Q E h=>?_) (fun A outer s H vs Q E hr h=>?_)
 ·obtain⟨_,_,_,_,_,_,_,_,_,rfl,_⟩:=h;rfl
 ·obtain⟨tw,tn,tt,C,nm,o0,o1,B,Z,rfl,ht,hl,hn,hnd,hn3,hto,hw,he,hst,hB,hkc,hbig,hT,k⟩:=h;have hu:=ZL hr;refine⟨_,@QSs.out _ _ _ (Zb (Zz 3 ZO.nd (Z4 (vS rfl) (by rfl) T.aaf Zav (Zi (Z4 vR (by rfl) T.au Zeg (Zi (Zl T.rk Y hr (Zi (Zn Zr (by rfl) T.ae Yb (Zi (qv 1) Zd)) Zd)) Zd)) Zd)))
    (Zb (Zz 4 ZO.nd (Zl T.eu J hr (Zi (qv 1) (Zi (qv 3) Zd))))
    (Zb (Zz 5 ZO.nd (Zl T.bx D hr (Zi (qv 0) Zd)))
    (Zb (qs_def (i:=6) (name:= "step_of") (params:=Ww YH) (body:=Xn YH) (scope:=Zh YH) (lpos:=Zt) (qual:=Zs) ZO.nd rfl (Or.inl rfl) T.vb TB.ax TB.B rfl rfl rfl rfl (S0:=Zh ZY) rfl (by decide +kernel))
    (Zb (Zz 7 ZO.nd (Yc (Zi Zf (Zi (Z4 Z0 (by rfl) T.ah ZR (Zi (Y4 ({}:ZQ (Zh ZY) _ ["words","names","told","letters","columns","last_place","step_of","begin"] "word" [] []) (Xr (qv 0)) (fun _ _ _ _=>(yi (YQ (Zl T.bh O hr (Zi (qv 0) Zd))))) (fun _ _ _ _=>Zf)) Zd)) Zd))))
    (Ze (Zo (Z3 ZP (Ze7 (kl:=11) (i:=6) (name:= "step_of") (params:=Ww YH) (body:=Xn YH) (scope:=Zh YH) (qual:=Zs) I (hr.mono (by decide)) rfl T.ai.m T.ai.F.kp T.ai.b rfl (Zi (qv 1) (Zi (qv 7) (Zi (qv 6) Zd))) rfl rfl (⟨WY,by decide +kernel,by decide +kernel,by rfl⟩:Zl0 (Zh ZY) _ ["words","names","told","letters","columns","last_place","step_of","begin"] ["state"] ["step","place","reached"] ["words","columns","last_place","letters","told"] [0,4,5,3,2]) (fun _ _ _ _ _ us hl=>match us,hl with|[_],_=>rfl) (fun _ _ _ _ _ _ _ hrl=>(Zb (Zz 1 WY.nd (zZ G_stepped (hrl.mono (by decide)) rfl T.bc.m T.bc.F.kp T.bc.b .nil Zh7 (Zi (qv 4) (Zi (qv 5) (Zi (Z3 (show IxR _ (gK K)from ZP) (qv 0) Zf) (Zi (Z3 (show IxR _ (gK K)from ZP) (qv 0) Zf) Zd))))))
    (Zb (Zz 2 WY.nd (Zn (jZ rfl) (by rfl) T.aai Zgo (Zi (Zp YB (Z3 (show IxR _ (gK K)from ZP) (qv 0) Zf) Zf) (Zi (qv 6) Zd))))
    (Zb (ja (i:=3) WY.nd rfl rfl ({}:ZQ (Zh YH) _ ["state","step","place","reached","words","columns","last_place","letters","told"] "letter" ["place","step"] [2,1]) (show QI _ _ _ (uW K (jX 7))from Xq (qv 7)) (fun _ _ _ _=>Xh) (fun _ _ _ _=>(Yc (Zi (qv 1) (Zi (zZ G_bits_at (hrl.mono (by decide)) rfl T.bb.m T.bb.F.kp T.bb.b .nil Zh7 (Zi (Z3 (show IxR _ (gK K)from ZP) (qv 2) Zf) (Zi (qv 0) Zd))) Zd)))))
    (Ze (Zo (Yc (Zi (qv 3) (Zi (Y4 ({}:ZQ (Zh YH) _ ["state","step","place","reached","words","columns","last_place","letters","told"] "letter" ["told","step"] [8,1]) (show QI _ _ _ (uW K (jX 7))from Xq (qv 7)) (fun _ _ _ _=>Xh) (fun _ _ _ _=>(Z3 (show IxR _ (gK K)from ZP) (qv 1) (Zp Xg (Zp kU (Z3 (show IxR _ (gK K)from ZP) (qv 2) Zf) (qv 0)) Zf)))) Zd)))))))))) Zf)))))))),?_⟩
  try dsimp only[L2.cxK,L2.cxK2]
  refine L2.let6 ?_;intro U5 U4 U3 U2 U1;have h8:=p8 hn3;have e2:((2:Int)^nm.length)=((2^nm.length:Nat):Int):=by rw[Int.natCast_pow];rfl
  have hflat:∀w∈C,YM w=true/\((∃y,w=.str y)\/∃z:Int,w=.int z):=fun w h=>by
   rcases hw w h with⟨y,rfl,_⟩|⟨y,rfl,_⟩|⟨y,rfl,_⟩|⟨z,rfl,_⟩
   ·exact⟨rfl,.inl ⟨y,rfl⟩⟩
   ·exact⟨rfl,.inl ⟨y,rfl⟩⟩
   ·exact⟨rfl,.inl ⟨y,rfl⟩⟩
   ·exact⟨rfl,.inr ⟨z,rfl⟩⟩
  refine⟨_,rfl,tn,_,rfl,.inr (SqT.of hn),nm.length,by rw[Qab];rfl,by lia,_,rfl,fun pr hpr=>⟨pr,2^nm.length,rfl,by rw[Za,e2],by lia,fun tl htl=>Zg ?_⟩⟩;have s1:=Zc (o:=.rng 0 ((2:Int)^nm.length)) hpr;have s2:=s1.trans (Zc (o:=.lst ((List.range (2^nm.length)).map fun i:Nat=>V.int (i:Int))) htl);have htl2:=Za (H:=upd H pr (.rng 0 ((2:Int)^nm.length))) (a:=tl) (o:=.lst ((List.range (2^nm.length)).map fun i:Nat=>V.int (i:Int)));have htlH:H tl=none:=s1.free htl;try dsimp only
  generalize upd (upd H pr (.rng 0 ((2:Int)^nm.length))) tl (.lst ((List.range (2^nm.length)).map fun i:Nat=>V.int (i:Int)))=H2 at *;refine⟨_,rfl,_,rfl,tn,tl,nm,2^nm.length,rfl,s2 _ _ hn,hnd,by lia,htl2,by lia,fun dv kvs H3 hdv0 hdv hcol s3=>Zg ?_⟩;have s23:=s2.trans s3;generalize Y9 (2^nm.length) nm=cols at *;refine⟨_,rfl,tw,C,rfl,s23 _ _ ht,by lia,fun w h=>(hflat w h).2,fun L H4 hL1 hL2 s4=>Zg ?_⟩;rw[<-Zg8 hL1 hL2]at k;have s24:=s23.trans s4;have hLB:L<=B:=by
   rw[Zg8 hL1 hL2];exact wZ hB
  have hdv4:=s4 _ _ hdv;have htl4:=(s3.trans s4) _ _ htl2;refine⟨hT.same s24,fun f c' oc ctv doc H5 hf0 hf hc' hoc hT5 o5=>?_⟩;obtain⟨pz,hpz⟩:=(hT.same s24).ex;have o5':∀{b:Aw} {o:HO},H4 b=some o->(∀ps,o≠.tbl ps)->H5 b=some o:=fun{b o} e h=>o5 b o e fun z=>by
   rw[z,hpz]at e;exact h _ (Option.some.inj e).symm
  have t5:∀{b:Aw} {xs:A2},H b=some (.tup xs)->H5 b=some (.tup xs):=fun e=>o5' (s24 _ _ e) (fun _ z=>nomatch z);have hdv5:=o5' hdv4 (fun _ z=>nomatch z);have htl5:=o5' htl4 (fun _ z=>nomatch z);refine⟨_,rfl,tw,rfl,⟨_,SqT.of (t5 ht)⟩,X3 (K:=K) (a:=tw) (xs:=C) (fun i zs H'=>zs=List.replicate (Y8 (C.take i)) (.int 0)/\H'=H5) ⟨rfl,rfl⟩ (fun i zs H' h=>?_) (fun i zs H' h=>by rw[h.2];exact SqT.of (t5 ht)) (fun i x zs H6 R hR hx h=>?_) (fun zs H6 h pl hpl=>?_)⟩
  ·rw[h.1,Qa1];have:Y8 (C.take i)<=(C.take i).length:=Qe3 _ _;rw[Qa2]at this;exact Qa0 (Z2 (by lia))
  ·obtain⟨rfl,rfl⟩:=h;refine⟨_,rfl,x,rfl,(hflat x (Qas hx)).1,_,rfl,?_⟩;have er:Y8 (C.take (i+1))=Y8 (C.take i)+if inV x (allR.map V.str)=true then 1 else 0:=by
    rw[take_snoc hx];unfold Y8;rw[Qd3,Qaj,Qc5];split<;>rfl
   rw[er]at hR;refine x8 (fun hb=>?_) (fun hb=>?_)
   ·rw[Qa3 hb,Qfa]at hR;exact hR _ _ ⟨rfl,rfl⟩
   ·rw[Qax hb]at hR;exact hR _ _ ⟨rfl,rfl⟩
  obtain⟨rfl,rfl⟩:=h;rw[Qb7,<-hkc];refine⟨pl,_,rfl,.inl ⟨SqL.of Za,fun tb htb=>⟨vx,fun tg htg=>Zg ?_⟩⟩⟩;have q1:=Zc (o:=.lst (List.replicate Z (.int 0))) hpl;have q2:=Zc (o:=.tup (List.replicate Z (.int 0))) htb;have q3:=Zc (o:=.tup [.int 0,.ref tb]) htg;have s6:=q1.trans (q2.trans q3);have htb6:=q3 _ _ (Za (H:=upd H6 pl (.lst (List.replicate Z (.int 0)))) (a:=tb) (o:=.tup (List.replicate Z (.int 0))));have htg6:=Za (H:=upd (upd H6 pl (.lst (List.replicate Z (.int 0)))) tb (.tup (List.replicate Z (.int 0)))) (a:=tg) (o:=.tup [.int 0,.ref tb]);try dsimp only
  generalize upd (upd (upd H6 pl (.lst (List.replicate Z (.int 0)))) tb (.tup (List.replicate Z (.int 0)))) tg (.tup [.int 0,.ref tb])=H7 at *;refine⟨_,rfl,_,rfl,_,rfl,f,c',oc,ctv,doc,rfl,s6 _ _ hf,s6 _ _ hc',hoc,fun cs H8 hcs0 hcsF o8 hcall=>?_⟩;have hU:∀s∈uni Z (L+1),(nxT nm cols C L s).length<=8/\(otT nm cols C o0 o1 s).length<=8/\∀x∈nxT nm cols C L s,x∈uni Z (L+1):=fun s hs=>⟨by unfold nxT;rw[Qab,Qbb];exact h8,by unfold otT;rw[Qab,Qbb];exact h8,qa hw hkc hs⟩;have t8:∀{b:Aw} {xs:A2},H b=some (.tup xs)->H8 b=some (.tup xs):=fun e=>o8 _ _ (s6 _ _ (t5 e));have hUl:(uni Z (L+1)).length<=1000000:=by
   rw[jA];exact Qbc (Qe9 _ (by lia)) hbig
  refine⟨Int×Ak,_,.key knQ,tn,f,nm,(0,List.replicate Z 0),.ref tg,nxT nm cols C L,otT nm cols C o0 o1,uni Z (L+1),_,rfl,t8 hn,⟨tg,rfl,tb,o8 _ _ htg6,by rw[o8 _ _ htb6,List.map_replicate]⟩,XH.mpr ⟨0,by lia,rfl,YK.mpr ⟨Qa1,fun x hx=>.inl (Qee hx)⟩⟩,hU,hUl,hn3,hcall,fun s sv H9 Q' hs hat s9 hQ=>⟨rfl,?_⟩,fun p sts m l wsl H9 B9 hp hsts0 hsts hA M9 s9=>?_⟩
  ·obtain⟨a,rfl,tk,ha,htk⟩:=hat;have hk9:∀{b:Aw} {u:HO},H9 b=some u->(∀o,u≠X5 o)->hide cs H9 b=some u:=fun e h=>J3 hcsF s9 e h;have t9:∀{b:Aw} {xs:A2},H9 b=some (.tup xs)->hide cs H9 b=some (.tup xs):=fun e=>hk9 e (fun _ z=>nomatch z);obtain⟨pn,hp1,hp2,hp3⟩:=XH.mp hs;obtain⟨sp,ks⟩:=s;have hp2:sp=(pn:Int):=hp2;subst hp2;obtain⟨hkl,hkb⟩:=YK.mp hp3;have hkl:ks.length=Z:=hkl;have ha':=t9 ha;have htk':=t9 htk;have hln:(X9 nm cols pn ks C).1.length=1:=by rw[j0 C hw,hst]
   have hrm:(X9 nm cols pn ks C).2.length=Z:=by rw[jB C hw,hkc]
   obtain⟨o,lt,hstp⟩:∃o lt,X9 nm cols pn ks C=([o],lt):=by
    generalize X9 nm cols pn ks C=q at hln;obtain⟨q1,q2⟩:=q
    match q1,hln with
    |[o],_=>exact⟨o,q2,rfl⟩
   have hltl:lt.length=Z:=by rw[hstp]at hrm;exact hrm
   have hsS:Zk4 nm cols C ((pn:Int),ks)=([o],lt):=hstp;refine⟨_,rfl,_,rfl,_,rfl,a,_,0,_,rfl,rfl,SqT.of ha',rfl,_,rfl,a,_,1,_,rfl,rfl,SqT.of ha',rfl,tw,dv,tk,nm,C,kvs,cols,pn,ks,o,lt,rfl,t9 (s9 _ _ (t8 ht)),hl,hk9 (s9 _ _ (o8 _ _ (s6 _ _ hdv5))) (fun _ z=>nomatch z),hcol,htk',hw,he,hstp,by rw[hltl];show Z<=ks.length;lia,fun ta la H10 hta0 hta hla s10=>Zg ?_⟩;refine⟨_,rfl,a,_,0,_,rfl,rfl,SqT.of (s10 _ _ ha'),rfl,_,_,rfl,rfl,_,rfl,_,_,rfl,Zg ?_⟩;have em:(if(L:Int)<(pn:Int)+1 then(L:Int)else(pn:Int)+1)=min ((pn:Int)+1) (L:Int):=by split<;>lia
   try dsimp only
   rw[em];have M:H10 tl=some (.lst ((List.range (2^nm.length)).map fun i:Nat=>V.int (i:Int))):=s10 _ _ (hk9 (s9 _ _ (o8 _ _ (s6 _ _ htl5))) (fun _ z=>nomatch z));have hxs:((List.range (2^nm.length)).map fun i:Nat=>V.int (i:Int)).length=2^nm.length:=by rw[Qab,Qbb]
   have hnx:nxT nm cols C L ((pn:Int),ks)=(List.range (2^nm.length)).map fun l=>(min ((pn:Int)+1) (L:Int),lt.map fun c=>bt c l):=by
    unfold nxT;rw[hsS]
   have hot:otT nm cols C o0 o1 ((pn:Int),ks)=(List.range (2^nm.length)).map fun l=>if bt o l=1 then o1 else o0:=by
    unfold otT;rw[hsS];rfl
   refine⟨_,rfl,tl,rfl,⟨_,SqL.of M⟩,Xs (K:=K) (a:=tl) (xs:=(List.range (2^nm.length)).map fun i:Nat=>V.int (i:Int)) (fun i zs H'=>StA (.key knQ) H' ((nxT nm cols C L ((pn:Int),ks)).take i) zs/\i<=2^nm.length/\Z9 H10 H') ⟨⟨rfl,fun i k hk=>by cases hk⟩,Qbl _,Z9.refl _⟩ (fun i zs H' h=>?_) (fun i zs H' h=>SqL.of (h.2.2 _ _ M)) (fun i x zs H11 R hR hx h=>?_) (fun zs H11 h rl hrl=>Zg ?_)⟩
   ·rw[h.1.1,Qa2];exact Qa0 (Z2 (by lia))
   ·obtain⟨hA,hi,s11⟩:=h;have hil:i<2^nm.length:=by rw[<-hxs];exact(Qag.mp hx).1
    rw[GY hil]at hx;cases hx;refine Zk3 ⟨_,rfl,_,rfl,ta,_,1,_,rfl,rfl,SqT.of (s11 _ _ hta),rfl,_,rfl,la,lt,i,rfl,s11 _ _ hla,?_,by lia,fun t5 H12 ht50 ht5 s12=>⟨vx,fun q hq=>hR _ _ ⟨?_,hil,s11.trans (s12.trans (Zc hq))⟩⟩⟩
    ·have:Y8 C<=C.length:=Qe3 _ _;lia
    ·have en:(nxT nm cols C L ((pn:Int),ks))[i]?=some (min ((pn:Int)+1) (L:Int),lt.map fun c=>bt c i):=by rw[hnx,GY hil]
     rw[take_snoc en];refine(hA.keep (H':=upd H12 q (.tup [.int (min ((pn:Int)+1) (L:Int)),.ref t5])) fun b xs e=>Zc hq _ _ (s12 _ _ e)).snoc ⟨q,rfl,t5,Za,Zc hq _ _ ht5⟩
   obtain⟨hA,_,s11⟩:=h;rw[hxs,Qcz (by rw[hnx,Qab,Qbb];exact Qak _)]at hA;have s12:=Zc (o:=.lst zs) hrl;have hrl12:=Za (H:=H11) (a:=rl) (o:=.lst zs);try dsimp only
   generalize upd H11 rl (.lst zs)=H12 at *;have G:=s11.trans s12;have htt12:H12 tt=some (.tup [o0,o1]):=G _ _ (s10 _ _ (t9 (s9 _ _ (t8 hto))));refine⟨_,rfl,_,rfl,tl,rfl,⟨_,SqL.of (G _ _ M)⟩,comp_map (xs:=(List.range (2^nm.length)).map fun i:Nat=>V.int (i:Int)) (fI fun c=>if bt o c.toNat=1 then o1 else o0) (SqL.of (G _ _ M)) (by rw[hxs];exact Qa0 (Z2 (by lia))) (fun v hv R hR=>?_) (fun q hq=>?_)⟩
   ·obtain⟨l,_,rfl⟩:=Qav.mp hv;refine⟨_,rfl,_,rfl,ta,_,0,_,rfl,rfl,SqT.of (G _ _ hta),rfl,_,rfl,_,_,rfl,rfl,Qde l,_,_,rfl,rfl,tt,_,_,fI (fun c=>if bt o c.toNat=1 then o1 else o0) (V.int (l:Int)),rfl,rfl,SqT.of htt12,?_,hR⟩;rw[and_1,Qbp];show atI [o0,o1] (bt o l)=some (if bt o (l:Int).toNat=1 then o1 else o0);rw[Qbp];rcases YJ o l with e|e<;>rw[e]<;>rfl
   ·refine⟨vx,fun t0 ht0 hcn=>?_⟩;have ef:((List.range (2^nm.length)).map fun i:Nat=>V.int (i:Int)).map (fI fun c=>if bt o c.toNat=1 then o1 else o0)=otT nm cols C o0 o1 ((pn:Int),ks):=by
     rw[hot,Qaw];refine Qbo fun l _=>?_;show(if bt o (l:Int).toNat=1 then o1 else o0)=_;rw[Qbp]
    rw[ef]at ht0 hcn ⊢;have s13:=Zc (o:=.lst (otT nm cols C o0 o1 ((pn:Int),ks))) hq;have s14:=s13.trans (Zc (o:=.tup [.ref rl,.ref q]) ht0);have hsame:=s10.trans (G.trans s14);obtain⟨u1,u2,u3⟩:=um hsame hcn;have hrl14:=s14 _ _ hrl12;have hq14:=Zc (o:=.tup [.ref rl,.ref q]) ht0 _ _ (Za (H:=H12) (a:=q) (o:=.lst (otT nm cols C o0 o1 ((pn:Int),ks))));exact hQ t0 rl q zs _ (u2 _ _ Za) (.inr ⟨u2 _ _ hrl14,u3 _ _ hrl14 (s10.free (s11.free hrl))⟩) (hA.keep fun b xs e=>u2 _ _ ((s12.trans s14) _ _ e)) (.inr ⟨u2 _ _ hq14,u3 _ _ hq14 (s10.free (G.free hq))⟩) u1
  ·have keep9:Z9 H7 (hide cs H9):=fun b o e=>by
    rw[Z6 fun m=>by rw[hcs0 b m]at e;cases e];exact s9 _ _ (o8 _ _ e)
   have tk9:∀(b:Aw) (xs:A2),H9 b=some (.tup xs)->hide cs H9 b=some (.tup xs):=fun b xs e=>J3 hcsF s9 e (fun _ z=>nomatch z);refine⟨p,_,1,_,rfl,rfl,SqT.of (tk9 _ _ hp),rfl,k m l (hide cs H9) B9 ?_ ((hT5.same s6).same keep9) fun b o e hb=>keep9 _ _ (s6 _ _ (o5 _ _ (s24 _ _ e) hb))⟩;obtain⟨pn,ps,po,h1,h2,h3,h4⟩:=M9.ex;exact⟨⟨pn,ps,po,tk9 _ _ h1,tk9 _ _ h2,zP h3 tk9,zP h4 tk9⟩⟩
def GK(P:Aq)(w:Au)(K:Af)(mg:Ae)(base:Heap)(C:Aw):Sp:=fun vs H Q _=>∃(tw F:Aw) (q:A2) (nm:Ai) (B D:Nat),vs=[.ref tw,.ref F]/\H tw=some (.tup q)/\q.length<=100/\H F=some (.tup (nm.map V.str))/\nm.Nodup/\nm.length<=3/\(∀w∈q,jz nm w)/\WI q/\wO q=1/\(∀z:Int,V.int z∈q->0<=z/\z<2^B)/\D=Y8 q/\(B+1)*2^D<=1000000/\Yo H C Zt Zs /\
 ∀m (l:List (Int×Ak)) H',BfE (nxT nm (Y9 (2^nm.length) nm) q (lgB q)) (0,List.replicate D 0) l->M4 H' m nm 0 (rnG (nxT nm (Y9 (2^nm.length) nm) q (lgB q)) l) (l.map (otT nm (Y9 (2^nm.length) nm) q (.bl false) (.bl true)))->Yo H' C Zt Zs->Zk5 C H H'->Q (.ref m) H'
theorem GL:Y6 P w K mg base CX0 15 t.cz t.da ["claim","names"] (GK P w K mg base t.aa):=by
 have q:=JL P base T TB;refine T.dn.F.ok GB (fun vs H Q E h=>?_) (fun cdv A outer s H vs Q E O h=>?_)
 ·obtain⟨_,_,_,_,_,_,rfl,_⟩:=h;rfl
 ·obtain⟨tw,tn,ws,nm,B,kc,rfl,Y,hl,hn,G,I,hw,he,J,Z,L,C,hT,k⟩:=h;have hu:=ZL O;refine⟨_,@QSs.out _ _ _ (Ze (Zo (Zl T.bg q O (Zi (qv 0) (Zi (qv 1) (Zi (Yc (Zi YD (Zi YD Zd))) Zd)))))),?_⟩;refine⟨_,rfl,_,rfl,by decide,fun tt M=>?_⟩;have D:=Zc (o:=.tup [.bl false,.bl true]) M;exact⟨tw,tn,tt,ws,nm,(.bl false),(.bl true),B,kc,rfl,D _ _ Y,hl,D _ _ hn,G,I,Za,hw,he,J,Z,L,C,hT.same D,fun m l H' h1 h2 h3 h4=>k m l H' h1 h2 h3 fun b o e hb=>h4 _ _ (D _ _ e) hb⟩
def Gp(P:Aq)(w:Au)(K:Af)(mg:Ae)(base:Heap)(D pl:Aw):Sp:=fun vs H Q _=>∃(t:Aw) (q:A2),vs=[.ref t]/\H t=some (.tup q)/\(∀w∈q,zJ w)/\q.length<=60/\(∀C,NmC q C->Wt C q)/\Yo H D Zt Zs/\Yo H pl Yr Ys/\∀f C nx ot H',NmC q C->M4 H' f C 0 nx ot->Wf C 0 nx ot true->Tells q C nx ot->Few nx (2^C.length) (2^Y8 q)->Yo H' D Zt Zs->Yo H' pl Yr Ys->Zmt D pl H H'->Q (.ref f) H'
theorem Gq:Y6 P w K mg base CX0 16 t.bu t.bw ["claim"] (Gp P w K mg base t.aa t.ao):=by
 have D:=Zge P base T TB;have q:=GL P base T TB;have C:=kO P base T TB;refine T.cb.F.ok Gi (fun vs H Q E h=>?_) (fun cdv A outer s H vs Q E Y h=>?_)
 ·obtain⟨_,_,rfl,_⟩:=h;rfl
 ·obtain⟨tw,ws,rfl,ht,hw,hl,hC,TW,TL,k⟩:=h;have hu:=ZL Y;refine⟨_,@QSs.out _ _ _ (Ze (Zo (Zl T.aae D Y (Zi (Zl T.dn q Y (Zi (qv 0) (Zi (Zl T.rz C Y (Zi (qv 0) Zd)) Zd))) Zd)))),?_⟩;have I:=T.lz;refine⟨_,rfl,_,rfl,tw,ws,rfl,ht,hw,hl,fun tn H1 G hn0 hn O hp hs=>?_⟩;have S:=hC G ⟨hp,hs⟩;have f:=S.ty.facts;refine⟨tw,tn,ws,G,10,_,rfl,O _ _ ht,S.ln,hn,S.nd,S.n3,S.wc,f.2.1,f.2.2,S.iz,rfl,S.big,TW.same O,fun m l H2 B M TW2 o2=>?_⟩;have MC:Zms G ws l H2 m:=⟨B,M⟩;have W1:=MC.wf S;obtain⟨pz,hz⟩:=(TW.same O).ex;have J:=(TL.same O).other I ⟨pz,hz⟩ o2;refine⟨m,G,0,_,_,true,rfl,M,W1,J,fun g lf cs H3 hB hcs St hcl Mg TL3 o3=>?_⟩;have L:Lst G 0 _ _ true lf cs:=⟨W1,hB,hcs,St,hcl⟩;have Z:=TW2.other I.symm J.ex o3;refine k g G _ _ H3 ⟨hp,hs⟩ Mg L.W2 (fun W ls hW hl hx=>?_) (few_of S B L) Z TL3 fun b o e h1 h2=>o3 _ _ (o2 _ _ (O _ _ e) h1) h2;obtain⟨b,e1,e2⟩:=Zc0 (ls:=ls) (W:=W) S MC hW (by lia) hx;rw[Qcz (by lia)]at e1;exact⟨b,e1,by rw[<-Zc4 L.al.bis L.W.nr L.W2.nr L.al.b hx];exact e2⟩
def zf(P:Aq)(w:Au)(K:Af)(mg:Ae)(base:Heap)(F pl:Aw):Sp:=fun vs H Q _=>∃(t:Aw) (q:A2) (wb:Bool),vs=[.ref t,.bl wb]/\H t=some (.tup q)/\(∀w∈q,zJ w)/\q.length<=60/\(∀C,NmC q C->Wt C q)/\Y8 q<=4/\Yo H F Zt Zs/\Yo H pl Yr Ys/\∀p I G C tl D H',NmC q C->ZT (Tw q C wb) tl D->H' p=some (.tup [.ref I,.ref G])->H' I=some (.tup (tl.map V.bl))->H' G=some (.tup (D.map V.bl))->tl.length<=100000->D.length<=100000->Yo H' F Zt Zs->Yo H' pl Yr Ys->Zmt F pl H H'->Q (.ref p) H'
theorem Je:Y6 P w K mg base CX0 17 t.ib t.ic ["claim","wanted"] (zf P w K mg base t.aa t.ao):=by
 have J:=kK P base T TB;have L:=kC P base T TB;have C:=Gq P base T TB;refine T.az.F.ok ZX (fun vs H Q E h=>?_) (fun cdv A outer s H vs Q E hr h=>?_)
 ·obtain⟨_,_,_,rfl,_⟩:=h;rfl
 ·obtain⟨tw,G,wb,rfl,ht,hw,hl,hC,hrm,TW,TL,k⟩:=h;have hu:=ZL hr;refine⟨_,@QSs.out _ _ _ (Zb (Zz 2 ZX.nd (Zl T.cb C hr (Zi (qv 0) Zd)))
    (Zb (Zz 3 ZX.nd (Z3 ZP (qv 2) Zf))
    (Zb (Zz 4 ZX.nd (Y4 ({}:ZQ (Zh Xj) _ ["claim","wanted","machine","steps","telling","states","places","truths"] "row" ["wanted"] [1]) (Xr (Z3 ZP (qv 2) Zf)) (fun _ _ _ _=>Xh) (fun _ _ _ _=>(Yl (show OpR _ (compareOp .In) (rIn K false)from Ya) (qv 1) (qv 0) (by with_unfolding_all rfl)))))
    (Zb (Zz 5 ZX.nd (Yc (Zi (Z3 ZP (qv 2) Zf) Zd)))
    (Zb (Zz 6 ZX.nd Ze2)
    (Zb (Zz 7 ZX.nd (ZN Zd))
    (Zb (WQ Qbq (Zq (Jx hu) (qv 5) (qv 6) (by with_unfolding_all rfl))
    (Zb (JP hu (qv 6) (qv 5) (Zn Zr (by rfl) T.ae Yb (Zi (qv 7) Zd)) rfl)
    (Zb (Yn (YE Qau Qa5 Qa6 ZF (qv 7) (Zi (Zn (Zbw rfl) (by rfl) T.aas bt_any (Zi (Y4 ({}:ZQ (Zh Xj) _ ["claim","wanted","machine","steps","telling","states","places","truths"] "state" ["telling"] [4]) (Xr (qv 5)) (fun _ _ _ _=>Xh) (fun _ _ _ _=>(Z3 (show IxR _ (Zmm K)from Zy) (qv 1) (qv 0)))) Zd)) Zd)))
    (Ze (Zz 5 ZX.nd (Zl T.rn L hr (Zi (qv 5) (Zi (qv 3) Zd))))))))
    (Ze (Zo (Zl T.rq J hr (Zi (X2 Jg (qv 7) Ji (Wa (qw hu (qv 6) (qv 5) (fun _ _=>rfl)))) (Zi (X2 Jg (qv 7) (Wa (qw hu (qv 6) (qv 5) (fun _ _=>rfl))) Ji) Zd)))))))))))),?_⟩
  try dsimp only[L2.cxK,L2.cxK2]
  refine L2.let8 ?_;intro U7 U6 U5 U4 U3 U2 U1;refine⟨_,rfl,tw,G,rfl,ht,hw,hl,hC,TW,TL,fun f D nx ot H1 hN M Y hT hF TW1 TL1 o1=>Zg ?_⟩;obtain⟨pn,ps,po,hm,hn,R,O⟩:=M.ex;have Sk:=hC D hN;have Mc:Mch nx (2^D.length):=⟨fun s hs=>Y.nr _ (getD_mem hs),fun ls h=>Zhe ⟨Y.b,Y.ol,Y.nr,Y.nl,Y.or⟩ Y.b h⟩;have ho:∀s,s<nx.length->(ot.getD s []).length=2^D.length:=fun s hs=>Y.or _ (getD_mem (show s<ot.length by rw[Y.ol];exact hs));have hob:∀s,s<ot.length->∀v∈ot.getD s [],∃b:Bool,v=.bl b:=fun s hs v hv=>by
   rcases Y.ok _ (getD_mem hs) v hv with⟨_,b,e⟩|⟨z,_⟩
   ·exact⟨b,e⟩
   ·cases z
  have hF2:∀{k:Nat} {S:Aj},S.Nodup->(∀x∈S,Rch nx (2^D.length) k x)->S.length<=16:=fun{k S} a b=>Qbc (hF.set a b) (show 2^Y8 G<=2^4 from Qcr (by decide) hrm);have hF3:∀{k:Nat},(∀i j,i<j->j<k->X0 nx (2^D.length) i≠X0 nx (2^D.length) j)->k<=65546:=fun{k} h=>hF.turns (show 2^Y8 G<=2^4 from Qcr (by decide) hrm) Mc h;have hti:∀i,Tw G D wb i=true↔_:=fun i=>tw_iff (wb:=wb) (i:=i) Sk hT Mc ho;generalize 2^D.length=n at *;refine⟨_,rfl,f,_,2,_,rfl,rfl,SqT.of hm,rfl,Zg ?_⟩;obtain⟨as,o2,o3,o4⟩:=O;have asl:as.length<=1000000:=by rw[o3,Y.ol];exact Y.le
  refine⟨_,rfl,f,_,3,_,rfl,rfl,SqT.of hm,rfl,po,rfl,⟨_,SqT.of o2⟩,X3 (xs:=as) (fun i zs H'=>zs=(List.range i).map (fun s=>V.bl (inV (.bl wb) (ot.getD s [])))/\i<=as.length/\H'=H1) ⟨rfl,Qbl _,rfl⟩ (fun i zs H' ⟨e,hi,_⟩=>by rw[e,Qab,Qbb];exact Qa0 (Yu (by lia))) (fun i zs H' ⟨_,_,e⟩=>by rw[e];exact SqT.of o2) ?_ ?_⟩
  ·rintro i x zs H' N hN hx ⟨rfl,hi,rfl⟩;have hil:i<ot.length:=by rw[<-o3];exact(Qag.mp hx).1
   obtain⟨ra,e1,e2⟩:=o4 i ot[i] (Qac hil);rw[hx]at e1;cases e1;have hg:ot.getD i []=ot[i]:=by rw[Qaf,Qac hil];rfl
   refine Zk3 ⟨_,rfl,_,rfl,ra,_,rfl,.inr (SqT.of e2),rfl,Qcb.mpr fun v hv=>?_,hN _ _ ⟨?_,by lia,rfl⟩⟩
   ·obtain⟨b,rfl⟩:=hob i hil v (by rw[hg];exact hv);rfl
   ·rw[Qed,Qay];show _=_++[V.bl (inV (.bl wb) (ot.getD i []))];rw[hg];rfl
  rintro zs H' ⟨rfl,_,e⟩ tl htl;rw[e]at htl ⊢;have asn:as.length=nx.length:=by rw[o3,Y.ol]
  rw[asn];have s2:=Zc (o:=.lst ((List.range nx.length).map fun s=>V.bl (inV (.bl wb) (ot.getD s [])))) htl;have tl2:=Za (H:=H1) (a:=tl) (o:=.lst ((List.range nx.length).map fun s=>V.bl (inV (.bl wb) (ot.getD s []))));generalize upd H1 tl (.lst ((List.range nx.length).map fun s=>V.bl (inV (.bl wb) (ot.getD s []))))=H2 at *;refine Zg ⟨_,rfl,f,_,1,_,rfl,rfl,SqT.of (s2 _ _ hm),rfl,Zk7,fun st hst=>Zg ?_⟩;have s3:=s2.trans (Zc (o:=.tup [.int ((0:Nat):Int)]) hst);refine fun d hd=>Zg ⟨g9,fun I htr=>Zg ?_⟩;have s4:=s3.trans ((Zc (o:=.dT []) hd).trans (Zc (o:=.lst []) htr));have st4:=(Zc (o:=.lst []) htr) _ _ ((Zc (o:=.dT []) hd) _ _ (Za (H:=H2) (a:=st) (o:=.tup [.int ((0:Nat):Int)])));have d4:=(Zc (o:=.lst []) htr) _ _ (Za (H:=upd H2 st (.tup [.int ((0:Nat):Int)])) (a:=d) (o:=.dT []));have tr4:=Za (H:=upd (upd H2 st (.tup [.int ((0:Nat):Int)])) d (.dT [])) (a:=I) (o:=.lst []);have tl4:=((Zc (o:=.tup [.int ((0:Nat):Int)]) hst).trans ((Zc (o:=.dT []) hd).trans (Zc (o:=.lst []) htr))) _ _ tl2;have d1:H1 d=none:=s3.free hd;have tr1:H1 I=none:=(s3.trans (Zc (o:=.dT []) hd)).free htr;have htt:tl≠I:=fun z=>by
   have:=((Zc (o:=.tup [.int ((0:Nat):Int)]) hst).trans (Zc (o:=.dT []) hd)) _ _ tl2;rw[z,htr]at this;cases this
  generalize upd (upd (upd H2 st (.tup [.int ((0:Nat):Int)])) d (.dT [])) I (.lst [])=H4 at *;refine Ge (fun σ H'=>∃(k:Nat) (st:Aw),σ=[some (.ref tw),some (.bl wb),some (.ref f),some (.ref ps),some (.ref tl),some (.ref st),some (.ref d),some (.ref I)]/\H' st=some (.tup ((X0 nx n k).map Ws))/\H' d=some (.dT (plc nx n k))/\H' I=some (.lst (((List.range k).map (Tw G D wb)).map V.bl))/\H' tl=some (.lst ((List.range nx.length).map fun s=>V.bl (inV (.bl wb) (ot.getD s []))))/\(∀i j,i<j->j<k->X0 nx n i≠X0 nx n j)/\Z9 H1 H') (fun _ H'=>match H' I with|some (.lst l)=>100000-l.length|_=>0) ⟨0,st,rfl,by rw[Zdm Mc];exact st4,d4,tr4,tl4,fun i j h1 h2=>absurd h2 (Qdz _),s4⟩ ?_;rintro σ H5 ⟨q,st,rfl,st5,d5,Z,tl5,hd5,s5⟩;have hk:=hF3 hd5;have ln:(((List.range q).map (Tw G D wb)).map V.bl).length=q:=by rw[Qab,Qab,Qbb]
  have slt:∀s∈X0 nx n q,s<nx.length:=fun s hs=>by
   obtain⟨ls,_,hb,rfl⟩:=(Yv Mc).mp hs;exact Mc.st ls hb
  have ky:H5 st=some (.tup ((kyS (X0 nx n q)).map kV)):=by rw[kyS_kV];exact st5
  refine⟨_,rfl,_,rfl,d,_,rfl,gQ.t d5 ky,_,rfl,?_⟩
  by_cases hc:(Yj (plc nx n q) (kyS (X0 nx n q))).isSome=true
  ·rw[hc];obtain⟨j,hj,ej⟩:=plc_in hc;have dg:gQ H5 d (.ref st) (some (.int (j:Int))):=by
    have:=gQ.t d5 ky
    rwa [<-ej,Zdo hd5 hj]at this
   refine ZD ⟨_,rfl,_,rfl,_,rfl,d,_,rfl,dg,_,rfl,I,_,rfl,SqL.of Z,fun l1 hl1=>?_⟩;rw[X7,XU];have s6:=Zc (o:=.lst ((((List.range q).map (Tw G D wb)).take j).map V.bl)) hl1;have dg6:gQ (upd H5 l1 (.lst ((((List.range q).map (Tw G D wb)).take j).map V.bl))) d (.ref st) (some (.int (j:Int))):=by
    have:=gQ.t (s6 _ _ d5) (s6 _ _ ky)
    rwa [<-ej,Zdo hd5 hj]at this
   refine⟨_,rfl,_,rfl,_,rfl,d,_,rfl,dg6,_,rfl,I,_,rfl,SqL.of (s6 _ _ Z),fun l2 hl2=>?_⟩;rw[X7,yD];have s7:=Zc (o:=.lst ((((List.range q).map (Tw G D wb)).drop j).map V.bl)) hl2;have lr:((List.range q).map (Tw G D wb)).length=q:=by rw[Qab,Qbb]
   have hp:∀i,Tw G D wb (q+i)=Tw G D wb (j+i):=fun i=>by
    rw[Qdo,hti,hti,g8 Mc ej.symm i]
   refine⟨l1,l2,_,_,Tw G D wb,rfl,s7 _ _ Za,Za,by rw[Qbr];lia,by rw[Qbr];lia,by rw[Qa2];lia,Zkv hj hp,fun p q1 q2 tl' rg' H8 hS h1 h2 h3 h4 h5 s8=>?_⟩;have s18:=s5.trans (s6.trans (s7.trans s8));exact k p q1 q2 D tl' rg' H8 hN hS h1 h2 h3 h4 h5 (TW1.same s18) (TL1.same s18) fun b o e x y=>s18 _ _ (o1 _ _ e x y)
  ·have hc:(Yj (plc nx n q) (kyS (X0 nx n q))).isSome=false:=Bool.eq_false_iff.mpr hc;rw[hc];have hd6:∀i j,i<j->j<q+1->X0 nx n i≠X0 nx n j:=fun i j h1 h2=>by
    by_cases e:j=q
    ·rw[e];exact plc_no hc i (by lia)
    ·exact hd5 i j h1 (by lia)
   refine Y3 ⟨fun σ' H'=>∃st':Aw,σ'=[some (.ref tw),some (.bl wb),some (.ref f),some (.ref ps),some (.ref tl),some (.ref st'),some (.ref d),some (.ref I)]/\H' st'=some (.tup ((X0 nx n (q+1)).map Ws))/\H' d=some (.dT (plc nx n (q+1)))/\H' I=some (.lst (((List.range (q+1)).map (Tw G D wb)).map V.bl))/\H' tl=some (.lst ((List.range nx.length).map fun s=>V.bl (inV (.bl wb) (ot.getD s []))))/\Z9 H1 H',?_,?_⟩
   ·rintro σ' H' ⟨st',rfl,h1,h2,h3,h4,h5⟩;refine⟨100000-(q+1),?_,?_,q+1,st',rfl,h1,h2,h3,h4,hd6,h5⟩
    ·rw[Z];show _<100000-_;rw[ln];lia
    ·rw[h3];show _=100000-_;rw[Qab,Qab,Qbb]
   have pd:=Zkx hc;have dtr:I≠d:=Xm Z d5 fun z=>nomatch z;have dst:st≠d:=Xm st5 d5 fun z=>nomatch z;have dtl:tl≠d:=Xm tl5 d5 fun z=>nomatch z;refine⟨_,rfl,I,_,rfl,.inl (SqL.of Z),_,rfl,_,rfl,d,_,rfl,uM.t d5 ky (by rw[Zkw];exact Yu (by lia)),?_⟩;rw[ln,pd];have st6:upd H5 d (.dT (plc nx n (q+1))) st=_:=(Zk dst).trans st5;have tr6:upd H5 d (.dT (plc nx n (q+1))) I=_:=(Zk dtr).trans Z;have tl6:upd H5 d (.dT (plc nx n (q+1))) tl=_:=(Zk dtl).trans tl5;have d6:upd H5 d (.dT (plc nx n (q+1))) d=_:=Za;have s6:Z9 H1 (upd H5 d (.dT (plc nx n (q+1)))):=ZS s5 d1;generalize upd H5 d (.dT (plc nx n (q+1)))=H6 at *;have sl:(X0 nx n q).length<=16:=hF2 (k:=q) ((WX nx n q).imp fun h=>Qbg h) fun x hx=>(Yv Mc).mp hx;refine⟨_,rfl,.inl ⟨rfl,_,SqL.of tr6⟩,_,rfl,st,rfl,⟨_,SqT.of st6⟩,qu (xs:=(X0 nx n q).map Ws) (fun v=>match v with|.int z=>.bl (inV (.bl wb) (ot.getD z.toNat []))|v=>v) (SqT.of st6) (by rw[Qab];exact Qa0 (Yu (by lia))) (fun x hx N hN=>?_) (fun l hl=>?_)⟩
   ·obtain⟨s,hs,rfl⟩:=Qav.mp hx;refine⟨_,rfl,_,rfl,tl,_,_,_,rfl,rfl,SqL.of tl6,YC (j:=s) ?_,hN⟩;rw[Qah,Qel (slt s hs)];rfl
   have e7:((X0 nx n q).map Ws).map (fun v=>match v with|.int z=>.bl (inV (.bl wb) (ot.getD z.toNat []))|v=>v)=((X0 nx n q).map fun s=>inV (.bl wb) (ot.getD s [])).map V.bl:=by
    rw[Qaw,Qaw];rfl
   rw[e7];have s7:=Zc (o:=.lst (((X0 nx n q).map fun s=>inV (.bl wb) (ot.getD s [])).map V.bl)) hl;have htr7:I≠l:=fun z=>by rw[z,hl]at tr6;cases tr6
   have ea:=any_tw (S:=X0 nx n q) (fun s hs=>hob s (by rw[Y.ol];exact slt s hs)) (hti q);refine⟨l,_,rfl,SqL.of Za,?_⟩;rw[ea];have tr7:=s7 _ _ tr6;have st7:=s7 _ _ st6;have tl7:=s7 _ _ tl6;have d7:=s7 _ _ d6;have s17:=s6.trans s7;generalize upd H6 l (.lst (((X0 nx n q).map fun s=>inV (.bl wb) (ot.getD s [])).map V.bl))=H7 at *;refine⟨I,_,_,rfl,rfl,tr7,by rw[ln];exact Yu (by lia),?_⟩;rw[show((List.range q).map (Tw G D wb)).map V.bl++[V.bl (Tw G D wb q)]=((List.range (q+1)).map (Tw G D wb)).map V.bl by rw[Qed,Qay,Qay];rfl];have ne8:∀{b:Aw} {u:HO},b≠I->H7 b=some u->upd H7 I (.lst (((List.range (q+1)).map (Tw G D wb)).map V.bl)) b=some u:=fun{b u} h e=>(Zk h).trans e;have st8:=ne8 (Xm st7 tr7 fun z=>nomatch z) st7;have tl8:=ne8 htt tl7;have d8:=ne8 dtr.symm d7;have tr8:=Za (H:=H7) (a:=I) (o:=.lst (((List.range (q+1)).map (Tw G D wb)).map V.bl));have s8:Z9 H1 _:=ZS s17 tr1 (o:=.lst (((List.range (q+1)).map (Tw G D wb)).map V.bl));generalize upd H7 I (.lst (((List.range (q+1)).map (Tw G D wb)).map V.bl))=H8 at *;refine⟨_,rfl,_,rfl,st,ps,X0 nx n q,nx,rfl,st8,R.same s8,slt,fun S h1 h2=>?_,fun p ms' H9 hp hasc hmem s9=>Zg ⟨p,rfl,?_,s9 _ _ d8,s9 _ _ tr8,s9 _ _ tl8,s8.trans s9⟩⟩
   ·have:=hF2 (k:=q+1) h1 fun x hx=>by
     obtain⟨s,a,b⟩:=h2 x hx;exact Mc.succ.mpr ⟨s,(Yv Mc).mp a,b⟩
    lia
   ·rw[<-vc Mc hasc hmem];exact hp
def uJ(P:Aq)(w:Au)(K:Af)(mg:Ae)(base:Heap)(q pl:Aw):Sp:=spF (fun T i=>!T i) false q pl
theorem uK:Y6 P w K mg base CX0 18 t.tj t.tq ["claim"] (uJ P w K mg base t.aa t.ao):=by
 have C:=Zdu P base T TB;have q:=Je P base T TB;refine T.ff.F.ok zS (fun vs H Q E h=>?_) (fun cdv A outer s H vs Q E G h=>?_)
 ·obtain⟨_,_,rfl,_⟩:=h;rfl
 ·obtain⟨tw,ws,rfl,ht,hw,hl,hC,O,TW,TL,k⟩:=h;have hu:=ZL G;refine⟨_,@QSs.out _ _ _ (Zb (Zz 1 zS.nd (Zl T.az q G (Zi (qv 0) (Zi YD Zd))))
    (Ze (Zo (Yc (Zi (Zl T.lq C G (Zi (Z3 ZP (qv 1) Zf) Zd)) (Zi (Zl T.lq C G (Zi (Z3 ZP (qv 1) Zf) Zd)) Zd)))))),?_⟩
  refine L2.let2 ?_;intro U1;refine⟨_,rfl,tw,ws,false,rfl,ht,hw,hl,hC,O,TW,TL,fun p q1 q2 ms tl rg H1 N S h1 h2 h3 l1 l2 I L o1=>Zg ?_⟩;refine⟨_,rfl,p,_,0,_,rfl,rfl,SqT.of h1,rfl,q1,tl,rfl,h2,l1,fun p1 H2 g1 J=>⟨_,rfl,p,_,1,_,rfl,rfl,SqT.of (J _ _ h1),rfl,q2,rg,rfl,J _ _ h3,l2,fun p2 H3 g2 Z=>⟨vx,fun p3 M=>?_⟩⟩⟩;have Y:=Zc (o:=.tup [V.ref p1,V.ref p2]) M;have D:=J.trans (Z.trans Y);exact k p3 p1 p2 ms _ _ _ N S.not Za (Y _ _ (Z _ _ g1)) (Y _ _ g2) (by rw[Qab];exact l1) (by rw[Qab];exact l2) (I.same D) (L.same D) fun b o e x y=>D _ _ (o1 _ _ e x y)
def kP(P:Aq)(w:Au)(K:Af)(mg:Ae)(base:Heap)(q pl:Aw):Sp:=spF (fun T=>T) true q pl
theorem kQ:Y6 P w K mg base CX0 18 t.rh t.rj ["claim"] (kP P w K mg base t.aa t.ao):=by
 have q:=Je P base T TB;refine T.dq.F.ok kz (fun vs H Q E h=>?_) (fun L A outer s H vs Q E D h=>?_)
 ·obtain⟨_,_,rfl,_⟩:=h;rfl
 ·obtain⟨tw,ws,rfl,G,hw,J,Y,C,I,O,k⟩:=h;have hu:=ZL D;refine⟨_,@QSs.out _ _ _ (Ze (Zo (Zl T.az q D (Zi (qv 0) (Zi YD Zd))))),?_⟩;try dsimp only[L2.cxK,L2.cxK2]
  exact⟨_,rfl,tw,ws,true,rfl,G,hw,J,Y,C,I,O,fun p q1 M ms tl Z H' a b c d e f g h i j=>k p q1 M ms tl Z H' a b c d e f g h i j⟩
def sp_law(K:Af)(pl q:Aw):Sp:=fun vs H Q _=>∃(a:Aw) (ns:Ak),vs=[.ref a]/\SqL K H a (ns.map V.int)/\ns.length<=63/\Yo H pl Yr Ys/\Yo H q Zt Zs/\∀H',Q (.bl true) H'
theorem ok_law:Y6 P w K mg base CX0 19 t.aag t.aah ["script"] (sp_law K t.ao t.aa):=by
 have I:=kQ P base T TB;have O:=uK P base T TB;have Z:=Zdw P base T TB;have J:=za P base T TB;have G_law_told:=kM P base T TB;have G:=kG P base T TB;have G_law_named:=vn P base T TB;have G_law_words:=vw P base T TB;have G_law_names:=vt P base T TB;have Y:=Wj P base T TB;refine T.aaq.F.ok WL (fun vs H Q E h=>?_) (fun cdv A outer s H vs Q E hr h=>?_)
 ·obtain⟨_,_,rfl,_⟩:=h;rfl
 ·obtain⟨a,ns,rfl,hS,h63,TL,TW,k⟩:=h;have hu:=ZL hr;refine⟨_,@QSs.out _ _ _ (Zb (Zz 1 WL.nd (Zl T.ay Y hr (Zi (qv 0) (Zi Zf Zd))))
    (Zb (Zz 2 WL.nd (Zl T.nv G_law_names hr (Zi (qv 0) (Zi Zf (Zi (Zp ZM (qv 1) Zf) Zd)))))
    (Zb (Zz 3 WL.nd (Z3 Zy (ZN (Zi (ZN (Zi Zf (Zi Zf Zd))) (Zi (ZN (Zi Zf (Zi Zf Zd))) Zd))) (Z4 qh (by rfl) T.dt zh (Zi (Yl Yt (Zp ZM (Zp Yi (qv 1) Zf) Zf) Zf (Zx _)) Zd))))
    (Zb (Zz 4 WL.nd (Zl T.ny G_law_words hr (Zi (qv 0) (Zi Zf (Zi (qv 2) (Zi Zf (Zi (qv 3) (Zi (Z3 Zy (ZN (Zi Zf (Zi Zf (Zi Zf Zd)))) (Zp ZM (Zp Yi (qv 1) Zf) Zf)) (Zi YD Zd)))))))))
    (Zb (Zz 2 WL.nd (Zl T.nq G_law_named hr (Zi (qv 4) Zd)))
    (Zb (Zz 5 WL.nd (Zl T.ff O hr (Zi (qv 4) Zd)))
    (Zb (Zz 6 WL.nd (Zl T.dq I hr (Zi (qv 4) Zd)))
    (Zb (ZE (Wr (zY (zi (YQ (Zl T.dk G hr (Zi (qv 5) Zd)))) (Js (zi (YQ (Zl T.dk G hr (Zi (qv 6) Zd)))))))
    (Ze (Zo YD)) Zw)
    (Zb (Xb Qbq rfl (z9 rfl T.au (Zi Zf (Zi (Zp YB Zf (Z3 Zy (ZN (Zi Zf (Zi Zf (Zi Zf (Zi Zf Zd))))) (Zn Zr (by rfl) T.ae Yb (Zi (qv 2) Zd)))) Zd))) (Xp 7 WL.nd)
    (Zb (Zz 8 WL.nd (Zp op_shl Zf (qv 7)))
    (Zb (ja (i:=9) WL.nd rfl rfl ({}:ZQ (Zh Zfa) _ ["script","first","names","left","words","alls","somes","width","full","truths"] "values" ["words","full"] [4,8]) (Xq (Zl T.il J hr (Zi (qv 2) (Zi (qv 8) Zd)))) (fun _ _ _ _=>Xh) (fun _ _ _ _=>(Zl T.rr G_law_told hr (Zi (qv 1) (Zi (qv 2) (Zi (qv 0) Zd))))))
    (Ze (ZE (Wr (zY (Zq Zd7 (Zl T.ly Z hr (Zi (qv 5) (Zi (qv 7) Zd))) (Yl Gs YD (qv 9) (by with_unfolding_all rfl)) (Zx _)) (Js (Zq Zd7 (Zl T.ly Z hr (Zi (qv 6) (Zi (qv 7) Zd))) (Yl Ya YD (qv 9) (by with_unfolding_all rfl)) (Zx _)))))
    (Ze (Zo YD)) Zw)))))
    (Ze (Zo (kY (Yl (Zgv (y8 hr)) (Zl T.ff O hr (Zi (qv 4) Zd)) (qv 5) (Zx _)) (qr (Yl (Zgv (y8 hr)) (Zl T.dq I hr (Zi (qv 4) Zd)) (qv 6) (Zx _))))))))))))))),?_⟩
  try dsimp only[L2.cxK,L2.cxK2]
  refine L2.let10 ?_;intro U9 U8 U7 U6 U5 U4 U3 U2 U1;refine⟨_,rfl,a,ns,0,rfl,hS,h63,by lia,fun r H1 r0 r1 s1=>Zg ?_⟩;have hS1:=jC hS s1;refine⟨_,rfl,_,rfl,_,_,rfl,rfl,(by show(0:Int)<4;decide),a,ns,1,(r%4).toNat,by rw[Qfd (Qbz _ (by decide))];rfl,hS1,h63,by lia,by lia,fun pn nm H2 hpn hnd hl hn s2=>Zg ?_⟩;have C:=s1.trans s2;have hn3:nm.length<=3:=by lia
  obtain⟨tp,etp,tp0,tp1⟩:∃tp:Int,atI [V.int 16,V.int 16,V.int 1000] (r/4%3)=some (.int tp)/\1<=tp/\tp<=1000:=by
   rcases(by lia:r/4%3=0\/r/4%3=1\/r/4%3=2)with e|e|e<;>rw[e]
   ·exact⟨16,rfl,by decide,by decide⟩
   ·exact⟨16,rfl,by decide,by decide⟩
   ·exact⟨1000,rfl,by decide,by decide⟩
  refine⟨vx,fun f1 hf1=>⟨vx,fun f2 hf2=>⟨vx,fun lf hlf=>⟨_,rfl,_,_,rfl,rfl,.of (by decide) (by decide),_,_,rfl,rfl,(by show(0:Int)<4;decide),rfl,.inr ⟨_,rfl,?_⟩⟩⟩⟩⟩;have t1:=Zc (o:=.lst [V.int 2,V.int 2]) hf1;have t2:=Zc (o:=.lst [V.int 1,V.int 3]) hf2;have t3:=Zc (o:=.lst [V.ref f1,V.ref f2]) hlf;have g1:=t3 _ _ (t2 _ _ (Za (H:=H2) (a:=f1) (o:=.lst [V.int 2,V.int 2])));have g2:=t3 _ _ (Za (H:=upd H2 f1 (.lst [V.int 2,V.int 2])) (a:=f2) (o:=.lst [V.int 1,V.int 3]));have g3:=Za (H:=upd (upd H2 f1 (.lst [V.int 2,V.int 2])) f2 (.lst [V.int 1,V.int 3])) (a:=lf) (o:=.lst [V.ref f1,V.ref f2]);have s23:=t1.trans (t2.trans t3);have hf2n:=t1.free hf2;generalize upd (upd (upd H2 f1 (.lst [V.int 2,V.int 2])) f2 (.lst [V.int 1,V.int 3])) lf (.lst [V.ref f1,V.ref f2])=H3 at *;obtain⟨f,k0,k1,ef,hf,f3,hk0,hk1,hk⟩:∃(f:Aw) (k0 k1:Int),atI [V.ref f1,V.ref f2] (if decide (V.int (r/12%4)=V.int 0)=true then 1 else 0)=some (.ref f)/\H2 f=none/\H3 f=some (.lst [.int k0,.int k1])/\0<=k0/\0<=k1/\k0+k1=4:=by
   by_cases e:V.int (r/12%4)=V.int 0
   ·rw[Qan e];exact⟨f2,1,3,rfl,hf2n,g2,by decide,by decide,by decide⟩
   ·rw[Qap e];exact⟨f1,2,2,rfl,hf1,g1,by decide,by decide,by decide⟩
  refine⟨lf,_,_,_,rfl,rfl,SqL.of g3,ef,Zg ?_⟩;refine⟨_,rfl,_,rfl,_,rfl,Zmj,fun l hl2=>⟨_,rfl,_,_,rfl,rfl,.of (by decide) (by decide),_,_,rfl,rfl,(by show(0:Int)<3;decide),l,_,_,_,rfl,rfl,SqL.of Za,etp,?_⟩⟩;have s4:=Zc (o:=.lst [V.int 16,V.int 16,V.int 1000]) hl2;have f4:=s4 _ _ f3;have s24:=s23.trans s4;generalize upd H3 l (.lst [V.int 16,V.int 16,V.int 1000])=H4 at *;have nef:∀{b:Aw} {o:HO},H2 b=some o->b≠f:=fun e z=>by rw[z,hf]at e;cases e
  refine⟨a,pn,f,ns,4,nm,tp,k0,k1,rfl,?_,h63,by lia,s24 _ _ hpn,hn3,fun y hy=>(hn y hy).k,f4,hk0,hk1,by lia,nef hpn,tp0,tp1,fun wa L H5 hwa hwl hty hrm s5=>Zg ?_⟩
  ·rcases hS with(z|⟨o,z⟩)|z
   ·exact .inl ⟨.inl (s24 _ _ (C _ _ z)),nef (C _ _ z)⟩
   ·exact .inl ⟨.inr ⟨o,s24 _ _ (C _ _ z)⟩,nef (C _ _ z)⟩
   ·exact .inr (.inr z)
  have s05:Z9 H H5:=fun b o e=>s5 _ _ (nef (C _ _ e)) (s24 _ _ (C _ _ e));obtain⟨hsi,hfl⟩:=ty_si hty hn;have hrm4:Y8 L<=4:=by lia
  refine⟨_,rfl,wa,L,rfl,hwa,hsi,by lia,fun pm H6 ms hpm s6 hp hs=>Zg ?_⟩;rw[hfl]at hp;have NC:NmC L ms:=⟨hp,hs⟩;have hC:∀ms,NmC L ms->Wt ms L:=fun ms N=>clm_ok hty hn hn3 hwl (by lia) N;have one:∀ms',NmC L ms'->ms'=ms:=fun ms' N=>zu _ _ N.2 hs (N.1.trans hp.symm);have S:=hC ms NC;have TW6:=TW.same (s05.trans s6);have TL6:=TL.same (s05.trans s6);have hwa6:=s6 _ _ hwa;have hwl2:L.length<=60:=by lia
  have keep:∀{Ha Hb:Hp},Yo Ha t.aa Zt Zs->Yo Ha t.ao Yr Ys->Zmt t.aa t.ao Ha Hb->∀{b:Aw} {u:HO},Ha b=some u->(∀z,u≠.tbl z)->Hb b=some u:=fun{Ha Hb} A B o {b u} e hu=>by
   obtain⟨pz1,hz1⟩:=A.ex;obtain⟨pz2,hz2⟩:=B.ex;exact o _ _ e (Xm e hz1 (hu _)) (Xm e hz2 (hu _))
  refine⟨_,rfl,wa,L,rfl,hwa6,hsi,hwl2,hC,hrm4,TW6,TL6,fun pA a1 a2 ms1 tA rA H7 N1 SA hA hA1 hA2 lA1 lA2 TW7 TL7 o7=>Zg ?_⟩;have e1:=one _ N1;subst e1;have hwa7:=keep TW6 TL6 o7 hwa6 (fun _ z=>nomatch z);have hpm7:=keep TW6 TL6 o7 hpm (fun _ z=>nomatch z);refine⟨_,rfl,wa,L,rfl,hwa7,hsi,hwl2,hC,hrm4,TW7,TL7,fun pB b1 b2 q tB rB H8 N2 SB hB hB1 hB2 lB1 lB2 TW8 TL8 o8=>Zg ?_⟩;have e2:=one _ N2;subst e2;have hwa8:=keep TW7 TL7 o8 hwa7 (fun _ z=>nomatch z);have hpm8:=keep TW7 TL7 o8 hpm7 (fun _ z=>nomatch z);have hA8:=keep TW7 TL7 o8 hA (fun _ z=>nomatch z);have hA18:=keep TW7 TL7 o8 hA1 (fun _ z=>nomatch z);have hA28:=keep TW7 TL7 o8 hA2 (fun _ z=>nomatch z);refine⟨_,rfl,pA,a1,a2,tA,rA,_,rfl,hA8,hA18,hA28,lA1,lA2,SA,fun H9 s9=>⟨_,rfl,ZD ⟨_,rfl,pB,b1,b2,tB,rB,_,rfl,s9 _ _ hB,s9 _ _ hB1,s9 _ _ hB2,lB1,lB2,SB,fun H10 s10=>⟨_,rfl,ZD ?_⟩⟩⟩⟩;have s80:=s9.trans s10;obtain⟨Nw,eNw,Nw12,hbig⟩:∃Nw:Nat,atI [V.int 12,V.int 6,V.int 3,V.int 2] ((q.map V.str).length:Int)=some (.int (Nw:Int))/\Nw<=12/\∀W,W<=Nw->(2^W)^q.length<=10000:=by
   rw[Qab];have h3:=S.n3;have hw:∀k∈([0,1,2,3]:Aj),∃Nw:Nat,atI [V.int 12,V.int 6,V.int 3,V.int 2] (k:Int)=some (.int (Nw:Int))/\Nw<=12/\(2^Nw)^k<=10000:=by
    intro k hk;simp only[Qao,Qa8,Qdv]at hk;rcases hk with rfl|rfl|rfl|rfl
    ·exact⟨12,rfl,by decide,by decide⟩
    ·exact⟨6,rfl,by decide,by decide⟩
    ·exact⟨3,rfl,by decide,by decide⟩
    ·exact⟨2,rfl,by decide,by decide⟩
   obtain⟨Nw,g1,g2,g3⟩:=hw q.length (by simp only[Qao,Qa8,Qdv];lia);exact⟨Nw,g1,g2,fun W hW=>Qbc (Nat.pow_le_pow_left (Qcr (by decide) hW) _) g3⟩
  refine⟨zln4,fun l2 hl3=>⟨_,rfl,pm,_,rfl,.inl (SqL.of (Zc hl3 _ _ (s80 _ _ hpm8))),l2,_,_,_,rfl,rfl,SqL.of Za,eNw,_,_,rfl,rfl,1,_,rfl,⟨by decide,by decide,by lia,by lia⟩,?_⟩⟩;have s81:=s80.trans (Zc (o:=.lst [V.int 12,V.int 6,V.int 3,V.int 2]) hl3);generalize upd H10 l2 (.lst [V.int 12,V.int 6,V.int 3,V.int 2])=H11 at *;refine z5 (fun i σ H'=>∃(u7 u8 u9:Option V),σ=[some (.ref a),some (.int r),some (.ref pm),some (.ref f),some (.ref wa),some (.ref pA),some (.ref pB),u7,u8,u9]/\Z9 H8 H') ⟨none,none,none,rfl,s81⟩ ?_ ?_
  ·rintro i σ H12 hi ⟨u7,u8,u9,rfl,C⟩ N bk r' hN;have hi:i<Nw:=by lia
   have ew:(1:Int)+(i:Int)=((i+1:Nat):Int):=by lia
   rw[ew];refine⟨_,rfl,_,_,rfl,rfl,⟨Qde _,by lia,by decide⟩,Zg ?_⟩;try dsimp only
   rw[Int.one_mul,Qbp];have e2:((2^(i+1):Nat):Int)=2^(i+1):=by rw[Int.natCast_pow];rfl
   refine⟨_,rfl,_,rfl,pm,q,2^(i+1),by rw[e2];rfl,C _ _ hpm8,S.nd,S.n3,hbig _ (by lia),Qhn _,fun p H13 D s13=>?_⟩;obtain⟨ds,d1,d2,d3⟩:=D;have told:∀vs∈chs (2^(i+1)) q.length,∃b:Bool,XW (2^(i+1)) (va q vs) L []=[.bl b]:=fun vs _=>by
    obtain⟨o,_,hb⟩:=zR (W:=i+1) (by lia) S.kp (va q vs) S.ty;exact⟨_,hb⟩
   have cl:(chs (2^(i+1)) q.length).length<=10000:=by rw[Zda];exact hbig _ (by lia)
   have s83:=C.trans s13;refine⟨p,rfl,⟨_,SqL.of d1⟩,Xs (xs:=ds.map V.ref) (fun j zs H'=>zs=((chs (2^(i+1)) q.length).take j).map (fun vs=>V.bl (decide (XW (2^(i+1)) (va q vs) L []=[.bl true])))/\Z9 H13 H') ⟨rfl,Z9.refl _⟩ (fun j zs H' ⟨e,_⟩=>by rw[e,Qab,Qa2];exact Qa0 (Yu (by lia))) (fun j zs H' ⟨_,s⟩=>SqL.of (s _ _ d1)) ?_ ?_⟩
   ·rintro j x zs H14 M hM hx ⟨rfl,s14⟩;rw[Qah]at hx;obtain⟨dv,hdv,rfl⟩:=Qa4.mp hx;have hjc:j<(chs (2^(i+1)) q.length).length:=by rw[<-d2];exact(Qag.mp hdv).1
    have hvj:=Qac hjc;obtain⟨hvl,hvb⟩:=Zdb (Qbu hjc);obtain⟨b,hb⟩:=told _ (Qbu hjc);have hkv:=d3 j dv _ hdv hvj;have etk:=take_snoc hvj;generalize (chs (2^(i+1)) q.length)[j]=vs at *;refine Zk3 ⟨_,rfl,_,rfl,_,rfl,wa,dv,i+1,q,L,kvC q vs,va q vs,b,rfl,by lia,by lia,s14 _ _ (s83 _ _ hwa8),by lia,s14 _ _ hkv,Zkp S.nd hvl,fun y hy=>⟨Qde _,?_⟩,S.kp,S.ty,hb,fun H15 s15=>hM _ _ ⟨?_,s14.trans s15⟩⟩
    ·rw[<-e2];have hix:=Qbi hy;refine Int.ofNat_lt.mpr (hvb _ ?_);rw[Qaf,Qac (by lia)];exact Qbu _
    ·rw[etk,Qay];congr 1;show[V.bl b]=[V.bl (decide (XW (2^(i+1)) (va q vs) L []=[.bl true]))];rw[hb];cases b<;>rfl
   rintro zs H14 ⟨rfl,s14⟩ l9 hl9;rw[Qab,d2,Qb7];have s95:=Zc (o:=.lst ((chs (2^(i+1)) q.length).map fun vs=>V.bl (decide (XW (2^(i+1)) (va q vs) L []=[.bl true])))) hl9;have s85:=(s83.trans s14).trans s95;have l95:=Za (H:=H14) (a:=l9) (o:=.lst ((chs (2^(i+1)) q.length).map fun vs=>V.bl (decide (XW (2^(i+1)) (va q vs) L []=[.bl true]))));have fl9:((chs (2^(i+1)) q.length).map fun vs=>V.bl (decide (XW (2^(i+1)) (va q vs) L []=[.bl true]))).all YM=true:=Qcb.mpr fun v hv=>by
    obtain⟨y,_,rfl⟩:=Qav.mp hv;rfl
   have inF:=Zmh told false;have inT:=Zmh told true;generalize ((chs (2^(i+1)) q.length).map fun vs=>V.bl (decide (XW (2^(i+1)) (va q vs) L []=[.bl true])))=zs at *;generalize upd H14 l9 (.lst zs)=H15 at *;refine Zg ⟨_,rfl,_,rfl,pA,a1,a2,tA,rA,i+1,rfl,by lia,s85 _ _ hA8,s85 _ _ hA18,s85 _ _ hA28,SA.pos,?_⟩;rw[Qgx,SA.at_ i];refine⟨_,rfl,l9,_,rfl,.inl (SqL.of l95),rfl,fl9,rfl,_,rfl,?_⟩;show if(!decide (V.bl (!Tw L q false i)=V.bl (!inV (.bl false) zs)))=true then _ else _;rw[Qan (show V.bl (!Tw L q false i)=V.bl (!inV (.bl false) zs) by rw[inF])];refine ZD ⟨_,rfl,_,rfl,pB,b1,b2,tB,rB,i+1,rfl,by lia,s85 _ _ hB,s85 _ _ hB1,s85 _ _ hB2,SB.pos,?_⟩;rw[Qgx,SB.at_ i];refine⟨_,rfl,l9,_,rfl,.inl (SqL.of l95),rfl,fl9,rfl,_,rfl,?_⟩;show if(!decide (V.bl (Tw L q true i)=V.bl (inV (.bl true) zs)))=true then _ else _;rw[Qan (show V.bl (Tw L q true i)=V.bl (inV (.bl true) zs) by rw[inT])];exact ZD (hN _ _ ⟨_,_,_,rfl,s85⟩)
  ·rintro σ H12 ⟨u7,u8,u9,rfl,C⟩;have TWa:=TW8.same C;have TLa:=TL8.same C;refine⟨_,rfl,wa,L,rfl,C _ _ hwa8,hsi,hwl2,hC,hrm4,TWa,TLa,fun pC c1 c2 ms3 tC rC H13 N3 SC hC0 hC1 hC2 lC1 lC2 TWb TLb o13=>?_⟩;have e3:=one _ N3;subst e3;have kb:=@keep _ _ TWa TLa o13;obtain⟨x1,x2⟩:=SA.one SC;subst x1 x2;have nt:∀{xs:A2} (z:Ah),HO.tup xs≠.tbl z:=fun z h=>nomatch h;refine⟨_,rfl,pC,pA,_,_,rfl,rfl,hC0,kb (C _ _ hA8) nt,rfl,Zdq hC1 hC2 (kb (C _ _ hA18) nt) (kb (C _ _ hA28) nt),?_⟩;refine⟨true,rfl,Y3 ⟨_,rfl,wa,L,rfl,kb (C _ _ hwa8) nt,hsi,hwl2,hC,hrm4,TWb,TLb,fun pD d1 d2 ms4 tD rD H14 N4 SD hD0 hD1 hD2 lD1 lD2 TWc TLc o14=>?_⟩⟩;have e4:=one _ N4;subst e4;have kc:=@keep _ _ TWb TLb o14;obtain⟨x3,x4⟩:=SB.one SD;subst x3 x4;exact⟨_,rfl,pD,pB,_,_,rfl,rfl,hD0,kc (kb (C _ _ hB) nt) nt,rfl,Zdq hD1 hD2 (kc (kb (C _ _ hB1) nt) nt) (kc (kb (C _ _ hB2) nt) nt),k _⟩
end
def oF(K:Af)(f:Aw):Obj:=(K.lookup f).getD default
def fx(K:Af)(f:Aw):Ao:=match (oF K f).data with
 |.func g=>g
 |_=>default
abbrev fn0(K:Af)(x:Str)(st:Ay)(f:Aw):Ao:=PySem.W.fnOf x x (Ww st) (Xn st) (Zh st) .none (fx K f).kwdefaults (fx K f).doc (fx K f).pyModule (fx K f).annotations (fx K f).code (fx K f).closureTuple
abbrev FiE(K:Af)(x:Str)(st:Ay)(f:Aw):Prop:=(PySem.W.nsIn K mainGlobals x,K.lookup f,PySem.W.codeIn K (fx K f).code x,PySem.W.keepIn K (.ref f))=(some (some (.ref f)),some ⟨(oF K f).cls,(oF K f).dict,.func (fn0 K x st f),(oF K f).slots⟩,true,true)
theorem Zmi{st:Ay}(e:FiE K x st f):fx K f=fn0 K x st f:=
 congrArg (fun o:Option Obj=>match (o.getD default).data with|.func g=>g|_=>default) (congrArg (fun z=>z.2.1) e)
def de{I:Heap}{mg:Ae}{st:Ay}{ps:Ai}(X:K.In I)(G:I.Ns mainGlobals mg)(e:FiE K x st f)
  (h:∀(kV C J:Av) (L:Option Aw) (D ct:Av) (q:Ag),q.length=ps.length->bindArgs (PySem.W.fnOf x x (Ww st) (Xn st) (Zh st) .none kV C J L D ct) ⟨q,[]⟩=pure (ps.zip q):=by first|(show∀_ _ _ _ _ _ q,List.length q=1->_;exact fun _ _ _ _ _ _=>L2.len1 fun _=>rfl)|(show∀_ _ _ _ _ _ q,List.length q=2->_;exact fun _ _ _ _ _ _=>L2.len2 fun _ _=>rfl)|(show∀_ _ _ _ _ _ q,List.length q=3->_;exact fun _ _ _ _ _ _=>L2.len3 fun _ _ _=>rfl)|(show∀_ _ _ _ _ _ q,List.length q=4->_;exact fun _ _ _ _ _ _=>L2.len4 fun _ _ _ _=>rfl)|(show∀_ _ _ _ _ _ q,List.length q=5->_;exact fun _ _ _ _ _ _=>L2.len5 fun _ _ _ _ _=>rfl)|(show∀_ _ _ _ _ _ q,List.length q=7->_;exact fun _ _ _ _ _ _=>L2.len7 fun _ _ _ _ _ _ _=>rfl)):Df K mg x st ps f (fx K f):=by
 have F:=fun_mk (st:=st) (congrArg (fun z=>z.2.1) e) (congrArg (fun z=>z.2.2.1) e) (congrArg (fun z=>z.2.2.2) e);exact Eq.mp (congrArg (Df K mg x st ps f) (Zmi e).symm) ⟨F,PySem.W.mg_of X G (congrArg (·.1) e),F.binds h⟩
def mkE(P:Params):List (Str×Int)->List (Nat×Nat)->List DictEntry
 |x::l,t::r=>⟨PyData.keyHash P x.1,.str x.1 t.1,.int x.2 t.2⟩::mkE P l r
 |_,_=>[]
theorem Zdx(P:Params):∀(l:List (Str×Int)) (r:List (Nat×Nat)),l.length=r.length->KTab P (mkE P l r) l
 |[],[],_=>.nil
 |_::l,_::r,h=>.cons (Zdx P l r (Nat.succ.inj h))
theorem kgo{mg:Ae}{l:List (Str×Int)}(X:K.In h)(G:h.Ns mainGlobals mg)(r:List (Nat×Nat))(n:Nat)
  (e:(PySem.W.nsIn K mainGlobals x,K.lookup a)=(some (some (.ref a)),some ⟨.type "dict",none,.dict (Array.mk (mkE w.params l r)) n,#[]⟩)) (C:l.length=r.length) (q:(l.map (·.1)).Nodup) (hs:(a == sysModules)=false):Kg K w mg x a l:=
 ⟨PySem.W.mg_of X G (congrArg (·.1) e),⟨⟨_,_,congrArg (·.2) e,Zdx _ l r C⟩,q,hs⟩⟩
def sV:Nat->List Str->List Av
 |_,[]=>[]
 |t,x::l=>.str x t::sV (t+1) l
theorem Zdy:∀(l:Ai) (t:Nat),Vals (l.map V.str) (sV t l)
 |[],_=>.nil
 |_::l,t=>.cons ⟨_,rfl⟩ (Zdy l (t+1))
theorem kto{mg:Ae}{l:Ai}(X:K.In h)(G:h.Ns mainGlobals mg)(t:Nat)
  (e:(PySem.W.nsIn K mainGlobals x,K.lookup a)=(some (some (.ref a)),some ⟨.type "tuple",none,.seq (Array.mk (sV t l)) 0,#[]⟩)) (hs:(sV t l).length<=sizeLine):Kt K mg x a l:=
 ⟨PySem.W.mg_of X G (congrArg (·.1) e),fun _=>.inr ⟨_,_,_,congrArg (·.2) e,rfl,rfl,hs,Zdy l t⟩⟩
def KK(w:Au):Af:=L2.noT (Hw.K w.params)
set_option maxHeartbeats 0 in
theorem all_mk {l:W.OpenLaw} {w:Au} {h:Heap} {mg:Ae} {fa:Aw} (X:(KK w).In h) (G:h.Ns mainGlobals mg) (hfa:mg "law" = some (.ref fa)):
  ∃fd:Ao,(∀(s:As) (v:Av),BindsTo s fd ⟨[v],[]⟩ [("script",v)])/\∀base:Heap,(KK w).In base->base.Ns mainGlobals mg->(∀q∈([(44,42),(181,179)]:List (Aw×Aw)),W.CodeHd base q.1 q.2)->jk mg base->Y6 l.prog w (KK w) mg base CX0 19 fa fd ["script"] (sp_law (KK w) 42 179):=by
 cases hfa.symm.trans (W.mg_of X G (show W.nsIn (KK w) mainGlobals "law" = some (some (.ref 348)) by kernel_rfl));have T:Txt (KK w) w mg ⟨21,fx (KK w) 21,28,fx (KK w) 28,40,fx (KK w) 40,55,fx (KK w) 55,60,fx (KK w) 60,67,fx (KK w) 67,77,fx (KK w) 77,84,fx (KK w) 84,91,fx (KK w) 91,98,fx (KK w) 98,110,fx (KK w) 110,130,fx (KK w) 130,156,fx (KK w) 156,170,fx (KK w) 170,187,fx (KK w) 187,192,fx (KK w) 192,223,fx (KK w) 223,235,fx (KK w) 235,249,fx (KK w) 249,256,fx (KK w) 256,263,fx (KK w) 263,277,fx (KK w) 277,303,fx (KK w) 303,310,fx (KK w) 310,317,fx (KK w) 317,331,fx (KK w) 331,336,fx (KK w) 336,343,fx (KK w) 343,50,fx (KK w) 50,105,fx (KK w) 105,117,fx (KK w) 117,135,fx (KK w) 135,149,fx (KK w) 149,163,fx (KK w) 163,242,fx (KK w) 242,270,fx (KK w) 270,284,fx (KK w) 284,291,fx (KK w) 291,324,fx (KK w) 324,122,fx (KK w) 122,197,fx (KK w) 197,298,fx (KK w) 298,142,fx (KK w) 142,33,fx (KK w) 33,45,fx (KK w) 45,182,fx (KK w) 182,177,fx (KK w) 177,218,fx (KK w) 218,228,fx (KK w) 228,204,fx (KK w) 204,211,fx (KK w) 211,348,fx (KK w) 348,44,42,181,179,68,69,70,325,327,123⟩:=by
  constructor
  ·exact kgo X G [(262,263),(264,265),(266,267),(268,269),(270,271),(272,273),(274,275),(276,277),(278,279),(280,281)] 10 (by kernel_rfl) rfl (by decide +kernel) rfl
  ·exact kgo X G [(293,294),(295,296),(297,298),(299,300),(301,302)] 5 (by kernel_rfl) rfl (by decide +kernel) rfl
  ·exact kgo X G [(309,310),(311,312),(313,314),(315,316),(317,318)] 5 (by kernel_rfl) rfl (by decide +kernel) rfl
  ·exact W.mg_of X G (by kernel_rfl)
  ·exact W.mg_of X G (by kernel_rfl)
  ·exact kto X G 387 (by kernel_rfl) (by show _<=_;decide)
  all_goals first|exact de X G (by kernel_rfl)|exact W.mg_none_of X G (by kernel_rfl)|exact Nat.ne_of_beq_eq_false rfl|kernel_rfl
 exact⟨_,fun s v=>Zmi (show FiE (KK w) "law" Zfa 348 by kernel_rfl) ▸ .of_eq rfl,fun base hKb _ hC hB=>ok_law _ _ T ⟨hC (44,42) (by simp),hC (181,179) (by simp),hB⟩⟩
end Lw
end
open PySem PySem.W PyProof.Rows
set_option maxRecDepth 100000 in
set_option maxHeartbeats 0 in
theorem PySem.Challenge.cw_everywidth_k26_widths_looked_through_holds : PySem.Challenge.rw_everywidth_k26_widths_looked_through.Holds := by
 w_on;refine holds_law Hw.ws fun said=>?_
 refine holds_openX Hw.left (fun s e=>xl_of s (Qf7.mp e).1) XL.keeps
  (by rfl) (by rfl) (by rfl)
  (fun s e=>recFacts_of (Qf7.mp e).2) (by rfl)
  (by first|assumption|decide +kernel) (by decide +kernel) ⟨rfl,rfl,rfl,rfl,rfl,by decide +kernel⟩ ?hw ?_
 (case hw=>w_witness2)
 refine L2.walk_X (fun _=>by kernel_rfl) ?_
 exact L2.walk_ofT (K:=fun P=>L2.noT (Hw.K P)) (n:=63) (k:=19) (x:= "script") (CX:=fun _=>L2.CX0) (sp:=fun w=>Lw.sp_law (Lw.KK w) 42 179) rfl (by decide) rfl ⟨rfl,by decide,by decide⟩ (fun w h Y=>L2.in_noT (by kernel_rfl) Y) (fun w mean mg mb h T X=>List.forall_mem_cons.mpr ⟨PySem.W.tab_of (x:=PySem.Str.ofString "least") (c:=44) (P:=42) T X rfl (by kernel_rfl),List.forall_mem_cons.mpr ⟨PySem.W.tab_of (x:=PySem.Str.ofString "machine_telling") (c:=181) (P:=179) T X rfl (by kernel_rfl),List.forall_mem_nil _⟩⟩) (fun w=>L2.noT_ok _) (fun w mg fa h X G e=>Lw.all_mk X G e) (fun _ _ a ns hl hT hS=>⟨a,ns,rfl,hS,hl,.inl (hT (44,42) (by simp)),.inl (hT (181,179) (by simp)),fun _=>rfl⟩) fun _ _ _ _ _ z=>z
#print axioms PySem.Challenge.cw_everywidth_k26_widths_looked_through_holds
