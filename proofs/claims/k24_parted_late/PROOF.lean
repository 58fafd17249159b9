import PyProof.Rows.All
import Wide.All
import OpenK.AllK
import Wide.FinOn
import Lean
import PyProof.EqAt
import PyProof.EqKinds
import PyProof.TupleCall
import PyProof.NeKinds
import KE.KRevSl
import KE.KRevIter
import PyProof.FactsAll.tuple
import PyProof.Rows.SortWalk
import PyProof.Rows.StrJoin2
import PyProof.StrBlockH
import PyProof.StrWalks
import PyProof.StrCalls2
import PyProof.ConsumeWalk
import KE.KIntText
import PyProof.Rows.SortStr
import PyProof.EnumStmt
import PyProof.WalksMore
import KE.KEqDict
import PyProof.DictWalks
import KE.KLam
import PyProof.Rows.SortShellK
import PyProof.AttrMissHeap
import KE.KDictOf
import PyProof.ZipIter
import PyProof.CollectWalk
import PyProof.ListNew
import KE.KSortTup
import PyProof.Rows.TupDisplay
import OpenK.KOwn
import PyProof.Rows.TopTwo
import PyProof.Rows.CatchOwn
import PyProof.RulesDel
import PyProof.RulesAs
import KE.KIsNot
import PyProof.ExcAttrAll.ValueError
import KE.KIsAll
import PyProof.StrReplace2
import PyProof.ReprStr
import PyProof.FString
import PyProof.StrLawsChain
import PyProof.SetRoads
import PyProof.StrLawsRepr
import PyProof.ReprHeads
import PyProof.ReprLen
import PyProof.FactsAll.bool
import KE.KNest
import PyProof.Rows.RuleM_int
import PyProof.Rows.CallKwBuiltin
import KE.KMinKey
import PyProof.ListRange
import PyProof.TupleOfSeq
import PyProof.TupleOfStr
import KE.KDictLaws
import PySem.Challenge.RW_everywidth_k24_parted_late
noncomputable section
set_option Elab.async false
set_option linter.all false
set_option maxRecDepth 100000
set_option maxHeartbeats 0
namespace Hw
open PySem PySem.W
theorem ws:PySem.Challenge.rw_everywidth_k24_parted_late.wellSaid=true:=by kernel_rfl
def p:Program:=PySem.Challenge.rw_everywidth_k24_parted_late.row.toRowW.prog
def B:List Stmt:=behindTheImports p
def nth:List Stmt→Nat→Option Stmt
  | [],_=>none
  | x::_,0=>some x
  | _::r,n + 1=>nth r n
def fx:Option Stmt→Arguments × List Stmt × Scope × Str × Nat
  | some (.FunctionDef n a b _ _ _ s _ _ x)=>(a,b,s,n,x.line)
  | _=>default
def fd(i:Nat):=fx (nth B i)
def vs(s:String)(t:Nat):Value:=.str (Str.ofString s) t
def en(P:Params)(s:String)(t:Nat)(v:Value):DictEntry:=⟨PyData.keyHash P (Str.ofString s),.str (Str.ofString s) t,v⟩
def tu (l:List Value):Obj:=⟨.type "tuple",none,.seq (Array.mk l) 0,#[]⟩
def t0:Obj:=tu []
def fi(l:List Value):Obj:=⟨.none,none,.fields (Array.mk l),#[]⟩
def f0:Obj:=fi []
def vk:Nat→List String→List Value
  | _,[]=>[]
  | t,s::r=>vs s t::vk (t + 1) r
def vt(t:Nat)(l:List String):Obj:=tu (vk t l)
abbrev Fd:=Arguments × List Stmt × Scope × Str × Nat
def rO(x:Fd):Obj:=⟨.none,none,.func ⟨x.2.2.2.1,x.2.2.2.1,x.1,.stmts x.2.1,x.2.2.1,0,[],.none,.none,.none,.none,none,.none,.none,0⟩,#[]⟩
def fO (x:Fd) (m:Value) (c:Nat):Obj:=⟨.type "function",none,.func ⟨x.2.2.2.1,x.2.2.2.1,x.1,.stmts x.2.1,x.2.2.1,3,[],.none,.none,.none,m,none,.ref c,.none,0⟩,#[]⟩
def fl:String := "/claim/cut.py"
def cO (n:String) (t l a d x m:Nat) (b:Bool) (z k:Nat):Obj:=⟨.type "code",none,.fields #[vs n t,vs n (t + 1),vs fl (t + 2),.int l 0,.int a 0,.int 0 0,.int 0 0,.int d 0,.ref x,.bool true,.int m 0,.ref (x + 1),.none,if b then .ref (x + 2) else .none,if b then .ref (x + 3) else .none,.ref z,.int k 0,.int l 0,vs fl (k + 1)],#[]⟩
def r(i:Nat):Obj:=rO (fd i)
def f(i:Nat)(m:Value)(c:Nat):Obj:=fO (fd i) m c
def ci(n:Nat):Value:=.int n 0
def c (i t x v:Nat):Obj:=let y:=(fd i).2.2.2;⟨.type "code",none,.fields #[.str y.1 t,.str y.1 (t + 1),vs fl (t + 2),ci y.2,ci (fd i).1.args.length,ci 0,ci 0,ci 3,.ref x,.bool true,ci 181,.ref (x + 1),.none,if v == 0 then .none else .ref (x + 2),if v == 0 then .none else .ref (x + 3),.ref (if v == 0 then x + 2 else x + 4),ci (t + 3 + v),ci y.2,vs fl (t + 4 + v)],#[]⟩
def e(P:Params)(i t a:Nat):DictEntry:=let y:=(fd i).2.2.2.1;⟨PyData.keyHash P y,.str y t,.ref a⟩
def bt(P:Params):List DictEntry:=match (boot_o_3 P).data with
  | .dict e _=>e.toList.tail
  | _=>[]
def m0:Value:=vs "everywidth.bits" 187
def m1:Value:=vs "everywidth.machines.runs" 243
def m2:Value:=vs "everywidth.machines.firsts" 264
def m3:Value:=vs "everywidth.machines.found" 325
def m4:Value:=vs "everywidth.vocabulary" 342
def m5:Value:=vs "everywidth.rows" 459
def m6:Value:=vs "everywidth.machines.columns" 467
def m7:Value:=vs "everywidth.machines.made" 544
def m8:Value:=vs "everywidth.sums.texts" 572
def m9:Value:=vs "everywidth.machines.alike" 580
def m10:Value:=vs "law_everywidth_k24_parted_late" 630
def mc (n:String)(t l x k:Nat):Obj:=⟨.type "code",none,.fields #[vs n t,vs n (t+1),vs fl (t+2),ci l,ci 0,ci 0,ci 0,ci 0,.ref x,.bool false,ci 181,.ref (x+1),.none,.none,.none,.none,ci k,ci l,vs fl (k+1)],#[]⟩
def fr (c d:Nat)(v:Value):Obj:=⟨.type "frame",none,.plain,#[some (.ref c),some (.ref 3),some (.ref d),none,some v,none,some (.ref 0)]⟩
def bf (a b:Value):Obj:=⟨.type "builtin_function_or_method",none,.fields #[a,b],#[]⟩
def dc (l:List DictEntry)(n:Nat):Obj:=⟨.type "dict",none,.dict ⟨l⟩ n,#[]⟩
def es (P:Params):List DictEntry:=[e P 1 197 21,e P 2 206 28,en P "WidthError" 226 (.ref 38),en P "NoWords" 242 (.ref 51),e P 7 257 60,e P 8 263 65,e P 10 271 70,e P 11 287 77,e P 12 301 84,e P 13 307 89,e P 14 313 94,e P 15 324 101,e P 17 332 106,e P 18 341 113,en P "SUM_PARTS" 374 (.ref 114),en P "SUMS_IN_CLAIM" 390 (.ref 115),en P "CLAIMS_IN_CLAIM" 406 (.ref 116),en P "LETTERS" 408 (vs "abcdefghijklmnopqrstuvwxyz" 407),en P "LONGEST_NAME" 410 (.int 8 409),e P 25 417 123,e P 26 424 130,e P 27 431 137,e P 28 438 144,e P 29 445 151,e P 30 451 156,e P 31 458 163,e P 33 466 168,en P "REMEMBERING" 478 (.ref 169),e P 36 485 176,e P 37 491 181,e P 38 506 188,e P 39 516 195,e P 40 525 202,e P 41 535 209,e P 42 543 216,e P 44 553 223,e P 45 559 228,e P 46 565 233,e P 47 571 238,e P 49 579 243,e P 51 590 250,e P 52 603 257,e P 53 612 264,e P 54 618 269,e P 55 629 276,e P 57 638 283,e P 58 646 290,e P 59 660 297,e P 60 666 302,e P 61 675 309,e P 62 686 316,e P 63 696 323,e P 64 706 330,e P 65 728 337]
def vl:List (Nat × Nat):=[(2,20),(7,27),(13,34),(15,47),(18,59),(27,64),(33,69),(43,76),(57,83),(67,88),(69,93),(75,100),(80,105),(90,112),(101,122),(103,129),(105,136),(107,143),(109,150),(111,155),(113,162),(118,167),(122,175),(124,180),(129,187),(145,194),(156,201),(158,208),(172,215),(189,222),(191,227),(203,232),(205,237),(208,242),(211,249),(214,256),(221,263),(223,268),(225,275),(234,282),(236,289),(240,296),(256,301),(267,308),(273,315),(280,322),(286,329),(295,336)]
def d(i x t:Nat)(l:List String)(m:Value):List Obj:=match l with
  | []=>[t0,f0,r i,c i t x 0,f i m (x+3)]
  | l=>[t0,f0,vt (t+3) l,t0,r i,c i t x l.length,f i m (x+5)]
def nz:Nat→List Obj→PySem.W.Frag
  | _,[]=>[]
  | n,x::l=>(n,x)::nz (n+1) l
def ir(n:Nat):List (Nat × Nat)→Bool
  | []=>false
  | x::l=>(Nat.ble x.1 n && Nat.blt n x.2) || ir n l
def rs:List (Nat × Nat):=[(0,30),(36,40),(42,43),(49,52),(54,338)]
def md (P:Params) (m:String) (t e k:Nat):Obj:=⟨.type "dict",none,.dict (Array.mk (en P "__name__" 165 (vs m t)::bt P++(es P).take e)) k,#[]⟩
def tl:List (Nat × Nat)→List Value
  | []=>[]
  | x::r=>.int x.1 0::.int 0 0::.ref x.2::tl r
def tb(c:Nat):Obj:=fi (tl (vl.take c))
def ob (P:Params):List Obj:=[boot_o_0 P,boot_o_1 P,boot_o_2 P,md P "law_everywidth_k24_parted_late" 630 54 63,boot_o_4 P,boot_o_5 P,boot_o_6 P,boot_o_7 P,boot_o_8 P,boot_o_9 P,boot_o_10 P,t0,tb 48,mc "<module>" 182 1 11 185,fr 13 3 (vs "__main__" 164)]++(d 1 15 189 ["width","many","bit_number"] m0++(d 2 22 198 ["bits","number","bit"] m0++([tu [(.type "ValueError")],bf (.builtin "type.__prepare__") (.type "type"),dc [en P "__module__" 216 (vs "everywidth.errors" 207),en P "__qualname__" 218 (vs "WidthError" 217),en P "__firstlineno__" 220 (.int 13 219),en P "__static_attributes__" 221 (.ref 36)] 4,t0,f0,mc "WidthError" 211 13 32 214,fr 34 31 (vs "everywidth.errors" 207),t0,dc [en P "__module__" 216 (vs "everywidth.errors" 207),en P "__firstlineno__" 220 (.int 13 219),en P "__static_attributes__" 221 (.ref 36),en P "__weakref__" 223 (.ref 39),en P "__doc__" 224 .none] 3,⟨(.type "type"),none,.cls ⟨Str.ofString "WidthError",[(.type "ValueError")],[(.ref 38),(.type "ValueError"),(.type "Exception"),(.type "BaseException"),(.type "object")],37,Str.ofString "WidthError",true,[],[(.ref 51)],false,none,false⟩,#[some (.ref 29),none,some (vs "WidthError" 209),some (vs "WidthError" 217),some (.builtin "ValueError.__new__"),some (.bool true)]⟩,⟨(.type "getset_descriptor"),none,.fields #[(vs "__weakref__" 222),(.ref 38),(.builtin "ExceptionGroup.__weakref__"),.none],#[]⟩,⟨(.type "super"),none,.fields #[(.ref 38),(.ref 38),(.ref 38)],#[]⟩,bf (.builtin "object.__init_subclass__") (.ref 38),tu [(.ref 38)],bf (.builtin "type.__prepare__") (.type "type"),dc [en P "__module__" 234 (vs "everywidth.errors" 207),en P "__qualname__" 236 (vs "NoWords" 235),en P "__firstlineno__" 238 (.int 15 237),en P "__static_attributes__" 239 (.ref 49)] 4,t0,f0,mc "NoWords" 229 15 45 232,fr 47 44 (vs "everywidth.errors" 207),t0,dc [en P "__module__" 234 (vs "everywidth.errors" 207),en P "__firstlineno__" 238 (.int 15 237),en P "__static_attributes__" 239 (.ref 49),en P "__doc__" 240 .none] 2,⟨(.type "type"),none,.cls ⟨Str.ofString "NoWords",[(.ref 38)],[(.ref 51),(.ref 38),(.type "ValueError"),(.type "Exception"),(.type "BaseException"),(.type "object")],50,Str.ofString "NoWords",true,[],[],false,none,false⟩,#[some (.ref 42),none,some (vs "NoWords" 227),some (vs "NoWords" 235),some (.builtin "ValueError.__new__"),some (.bool true)]⟩,⟨(.type "super"),none,.fields #[(.ref 51),(.ref 51),(.ref 51)],#[]⟩,bf (.builtin "object.__init_subclass__") (.ref 51)]++(d 7 54 245 ["machine","letters","state","steps","out","row","letter"] m1++(d 8 61 258 [] m1++(d 10 66 266 [] m2++(d 11 71 272 ["machine","letters","number","wanted","layers","left","well","place","chosen","going"] m2++(d 12 78 288 ["machine","letters","steps","layers","some","layer","state","letter"] m2++(d 13 85 302 [] m2++(d 14 90 308 [] m2++(d 15 95 314 ["machine","state","letter","well","wanted"] m2++(d 17 102 327 [] m3++(d 18 107 333 ["state","states","numbers"] m3++([dc [en P "not" 344 (.int 1 345),en P "neg" 346 (.int 1 347),en P "twice" 348 (.int 1 349),en P "low" 350 (.int 1 351),en P "and" 352 (.int 2 353),en P "or" 354 (.int 2 355),en P "odd" 356 (.int 2 357),en P "add" 358 (.int 2 359),en P "sub" 360 (.int 2 361),en P "pick" 362 (.int 3 363)] 10,dc [en P "same" 375 (.int 2 376),en P "under" 377 (.int 2 378),en P "beneath" 379 (.int 2 380),en P "sign" 381 (.int 1 382),en P "nought" 383 (.int 1 384)] 5,dc [en P "both" 391 (.int 2 392),en P "either" 393 (.int 2 394),en P "so" 395 (.int 2 396),en P "never" 397 (.int 1 398),en P "yes" 399 (.int 0 400)] 5]++(d 25 117 411 ["text"] m4++(d 26 124 418 ["text"] m4++(d 27 131 425 ["word"] m4++(d 28 138 432 ["word"] m4++(d 29 145 439 ["word"] m4++(d 30 152 446 [] m4++(d 31 157 452 ["text"] m4++(d 33 164 461 [] m5++([vt 469 ["neg","twice","low","add","sub","same","under","beneath","nought"]]++(d 36 170 479 ["word"] m6++(d 37 177 486 [] m6++(d 38 182 492 ["words","columns","place","kept","stack","later","word","parts","held"] m6++(d 39 189 507 ["word","parts","held","one"] m6++(d 40 196 517 ["one","other","held"] m6++(d 41 203 526 ["word","parts","held","then"] m6++(d 42 210 536 ["word","parts"] m6++(d 44 217 546 ["words","names"] m7++(d 45 224 554 [] m7++(d 46 229 560 [] m7++(d 47 234 566 [] m7++(d 49 239 574 [] m8++(d 51 244 582 ["one","other","names"] m9++([t0,f0,vt 594 ["one","other","begins","found","width"],vt 599 ["one","other"],r 52,cO "machines_compared" 591 214 2 3 251 181 true 255 601,f 52 m9 256]++(d 53 258 604 ["one","other","pair"] m9++(d 54 265 613 [] m9++(d 55 270 619 ["machine","widths","state","row","led_to"] m9++(d 57 277 632 ["found"] m10++(d 58 284 639 ["script","k"] m10++(d 59 291 647 ["cell","many","most","found","rest","k","one","two"] m10++(d 60 298 661 [] m10++(d 61 303 667 ["cell","bit","one"] m10++(d 62 310 676 ["word","name","one","other","above"] m10++(d 63 317 687 ["cell","words","more","name"] m10++(d 64 324 697 ["found","width","words","name"] m10++(d 65 331 707 ["script","shape","all_names","turn","name","more","one","other","width","words","extra","kind","pair","far","first","second"] m10)))))))))))))))))))))))))))))))))))))))))))))))))
def K(P:Params):PySem.W.Frag:=(nz 0 (ob P)).filter fun p=>ir p.1 rs
def od:Bool→List Obj→List Obj
  | _,[]=>[]
  | true,x::r=>x::od false r
  | false,_::r=>od true r
def tL:Nat→List Obj→BT
  | 0,_=>.nil
  | _,[]=>.nil
  | k + 1,x::r=>.node x (tL k (od true r)) (tL k (od false r))
def tn(P:Params)(n:Nat):BT:=tL 12 ((ob P).take n)
abbrev SS(T:BT)(n k:Nat)(o:OsState):SharedT:=⟨T,n,{},Array.mk [],{},k,o⟩
def ev:Env:={ scope:=p.main.scope,locals:=mainNs,globals:=mainNs,cells:=[],code:=(.ref 13),frame:=some 14 }
def c0:Code:=.body B ev
abbrev an:Option Value:=some (.ref 6)
abbrev z0:Pos:=⟨0,0,0,0⟩
abbrev q0:List Frame:=[topFrame z0]
def sg(a b:Nat):List Stmt:=(B.drop a).take b
def pc(a b:Nat)(x:Pos):Thread:=piecesOf (sg a b) ev c0 x q0
def R(w:World)(o:OsState)(n:Nat)(S:Params→BT)(a k:Nat)(t:Thread)(S':Params→BT)(a' k':Nat)(y:Pos):Prop:=segRunT treeTable p w 11 an 1 n (SS (S w.params) a k o) t=some (.next,SS (S' w.params) a' k' o,c0,y)
variable (w:World)(o:OsState)
def S0(P:Params):BT:=((tn P 15).set 3 fun _=>boot_o_3 P).set 12 fun _=>tb 0
def S1 (P:Params):BT:=(((tn P 42).set 3 fun _=>md P "everywidth.errors" 207 3 12).set 12 fun _=>tb 3).set 38 fun _=>⟨(.type "type"),none,.cls ⟨Str.ofString "WidthError",[(.type "ValueError")],[(.ref 38),(.type "ValueError"),(.type "Exception"),(.type "BaseException"),(.type "object")],37,Str.ofString "WidthError",true,[],[],false,none,false⟩,#[some (.ref 29),none,some (vs "WidthError" 209),some (vs "WidthError" 217),some (.builtin "ValueError.__new__"),some (.bool true)]⟩
def S2 (P:Params):BT:=((tn P 85).set 3 fun _=>md P "everywidth.machines.firsts" 264 9 18).set 12 fun _=>tb 9
def S3 (P:Params):BT:=((tn P 115).set 3 fun _=>md P "everywidth.vocabulary" 342 15 24).set 12 fun _=>tb 14
def S4 (P:Params):BT:=((tn P 164).set 3 fun _=>md P "everywidth.rows" 459 26 35).set 12 fun _=>tb 21
def S5 (P:Params):BT:=((tn P 239).set 3 fun _=>md P "everywidth.sums.texts" 572 39 48).set 12 fun _=>tb 33
def S6 (P:Params):BT:=((tn P 317).set 3 fun _=>md P "law_everywidth_k24_parted_late" 630 51 60).set 12 fun _=>tb 45
def S7(P:Params):BT:=tn P 338
def H1(P:Params):Heap:=⟨Array.mk (ob P),{}⟩
theorem pre:topGo treeTable p w 11 an 12 ⟨boot_heap w.params,Array.mk [],boot_drawn,boot_toks,o⟩ (topStub p)=some ((SS (S0 w.params) 15 187 o).abs,⟨denote treeTable c0,c0,z0,q0⟩):=by
  rw [Fast.te15667345088766844465,Fast.te14364793385576792824,Fast.te11892475500146522536];kernel_rfl
theorem blk:segRunT treeTable p w 11 an 1 1 (SS (S0 w.params) 15 187 o) (blockOf B ev c0 z0 q0)=some (.next,SS (S0 w.params) 15 187 o,c0,z0):=by
  rw [Fast.te10110043849684766642,Fast.te14364793385576792824];kernel_rfl
theorem g1:R w o 267 S0 15 187 (pc 0 5 z0) S1 42 227 ⟨13,0,14,8⟩:=by
  unfold R;rw [Fast.te10110043849684766642,Fast.te14364793385576792824];kernel_rfl
theorem g2:R w o 393 S1 42 227 (pc 5 8 ⟨13,0,14,8⟩) S2 85 302 ⟨57,0,66,17⟩:=by
  unfold R;rw [Fast.te10110043849684766642,Fast.te14364793385576792824];kernel_rfl
theorem g3f:R (w.withFollow "special-get-raises" false) o 321 S2 85 302 (pc 13 8 ⟨57,0,66,17⟩) S3 115 375 ⟨96,0,96,9⟩:=by
  unfold R;rw [Fast.te10110043849684766642,Fast.te14364793385576792824];kernel_rfl
theorem g3t:R (w.withFollow "special-get-raises" true) o 321 S2 85 302 (pc 13 8 ⟨57,0,66,17⟩) S3 115 375 ⟨96,0,96,9⟩:=by
  unfold R;rw [Fast.te10110043849684766642,Fast.te14364793385576792824];kernel_rfl
theorem g3 (w:World):∀o:OsState,R w o 321 S2 85 302 (pc 13 8 ⟨57,0,66,17⟩) S3 115 375 ⟨96,0,96,9⟩:=byRow2 "special-get-raises" (P:=fun w=>∀o:OsState,R w o 321 S2 85 302 (pc 13 8 ⟨57,0,66,17⟩) S3 115 375 ⟨96,0,96,9⟩) g3f g3t w
theorem g4f:R (w.withFollow "special-get-raises" false) o 398 S3 115 375 (pc 21 12 ⟨96,0,96,9⟩) S4 164 461 ⟨117,0,117,8⟩:=by
  unfold R;rw [Fast.te10110043849684766642,Fast.te14364793385576792824];kernel_rfl
theorem g4t:R (w.withFollow "special-get-raises" true) o 398 S3 115 375 (pc 21 12 ⟨96,0,96,9⟩) S4 164 461 ⟨117,0,117,8⟩:=by
  unfold R;rw [Fast.te10110043849684766642,Fast.te14364793385576792824];kernel_rfl
theorem g4 (w:World):∀o:OsState,R w o 398 S3 115 375 (pc 21 12 ⟨96,0,96,9⟩) S4 164 461 ⟨117,0,117,8⟩:=byRow2 "special-get-raises" (P:=fun w=>∀o:OsState,R w o 398 S3 115 375 (pc 21 12 ⟨96,0,96,9⟩) S4 164 461 ⟨117,0,117,8⟩) g4f g4t w
theorem g5:R w o 398 S4 164 461 (pc 33 16 ⟨117,0,117,8⟩) S5 239 574 ⟨207,0,207,8⟩:=by
  unfold R;rw [Fast.te10110043849684766642,Fast.te14364793385576792824];kernel_rfl
theorem g6:R w o 386 S5 239 574 (pc 49 14 ⟨207,0,207,8⟩) S6 317 687 ⟨273,0,279,53⟩:=by
  unfold R;rw [Fast.te10110043849684766642,Fast.te14364793385576792824];kernel_rfl
theorem g7:R w o 109 S6 317 687 (pc 63 3 ⟨273,0,279,53⟩) S7 338 729 ⟨295,0,325,64⟩:=by
  unfold R;rw [Fast.te10110043849684766642,Fast.te14364793385576792824];kernel_rfl
theorem fn:topRun treeTable p w 11 an 2 (SS (S7 w.params) 338 729 o).abs ⟨doneF .next,c0,⟨295,0,325,64⟩,q0⟩=some ⟨H1 w.params,Array.mk [],{},729,o⟩:=by
  rw [Fast.te14082659384304107361,Fast.te14364793385576792824];kernel_rfl
theorem sp:B=sg 0 5++(sg 5 8++(sg 13 8++(sg 21 12++(sg 33 16++(sg 49 14++(sg 63 3++[])))))):=by kernel_rfl
theorem bl{w:World}{N:Nat}{s s' r:Shared}{b:List Stmt}{x y:Pos}{n:Nat}(e:B=b)(h:segRun treeTable p w 11 an 1 n s (blockOf B ev c0 x q0)=some (.next,s',c0,y))(k:topRun treeTable p w 11 an N s' (restOf b ev c0 y q0)=some r):topRun treeTable p w 11 an (n + N) s ⟨denote treeTable c0,c0,x,q0⟩=some r :=
  piece_block h (by rw [e];exact k)
theorem rn:topRun treeTable p w 11 an (12 + (1 + (267 + (393 + (321 + (398 + (398 + (386 + (109 + (2)))))))))) ⟨boot_heap w.params,Array.mk [],boot_drawn,boot_toks,o⟩ (topStub p)=some ⟨H1 w.params,Array.mk [],{},729,o⟩ :=
  go_top (pre w o) (bl sp (segRun_of (blk w o)) (piece_app (segRun_of (g1 w o)) (piece_app (segRun_of (g2 w o)) (piece_app (segRun_of (g3 w o)) (piece_app (segRun_of (g4 w o)) (piece_app (segRun_of (g5 w o)) (piece_app (segRun_of (g6 w o)) (piece_app (segRun_of (g7 w o)) (fn w o)))))))))
def rg(l:List Stmt):List (Nat × Nat)→List Stmt
  | []=>[]
  | x::r=>(l.drop x.1).take x.2++rg l r
def vw:Program:={ p with main:={ p.main with body:=rg p.main.body [(1,2),(4,2),(7,2),(10,6),(17,2),(20,12),(33,1),(35,8),(44,4),(49,1),(51,5),(57,9)] } }
def lo:List Str:=[Str.ofString "SUM_PARTS",Str.ofString "SUMS_IN_CLAIM",Str.ofString "CLAIMS_IN_CLAIM"]
def xt(s:Shared):Bool:=xlAt vw [] s && recOk PySem.Challenge.rw_everywidth_k24_parted_late.row.toRowW.records s
def as:List Addr:=rs.flatMap fun x=>List.range' x.1 (x.2 - x.1)
theorem sz:((boot_heap w.params).isNs mainGlobals && (Array.mk []:Array GenState).size == 0,(boot_heap w.params).objs.size,(boot_heap w.params).nsMap mainGlobals "__annotations__")=(true,11,an):=by
  rw [Fast.te8920871248978507458];kernel_rfl
abbrev sh(w:World)(o:OsState):Shared:=⟨H1 w.params,Array.mk [],{},729,o⟩
theorem l1:(staticsOk (importedModules p.main.body) (boot_heap w.params) (H1 w.params) && namesBound p (H1 w.params) && gensDone (sh w o) && laidKept (boot_heap w.params) (H1 w.params))=true:=by
  rw [Fast.te5923862056798008813];kernel_rfl
theorem l2:openSeen vw lo (importedModules p.main.body) xt true (sh w o)=openGood vw lo:=by
  rw [Fast.te4187177175401517315,Fast.te5923862056798008813];kernel_rfl
theorem l3:X.obsZ as (sh w o)=X.valZ K 338 729 w:=by kernel_rfl
theorem left:LeftO p vw lo xt (X.obsZ as) (X.valZ K 338 729) 4656 :=
  LeftO.of_pieces (boot_open (by kernel_rfl) (by kernel_rfl) (fun _=>by kernel_rfl)) sz rn (by kernel_rfl) fun w=>funext fun o=>looks_pair (l1 w o) (looks_pair (l2 w o) (l3 w o))
end Hw
end
set_option Elab.async false
set_option linter.all false
set_option maxRecDepth 100000
noncomputable section
def Qaa:=@PySem.wpAny_bind
def Qab:=@PySem.Heap.get?_push_of_some
def Qac:=@List.length_map
def Qad:=@PySem.wpAny_pure
def Qae:=@List.length_append
def Qaf:=@List.getElem?_eq_getElem
def Qag:=@Nat.le_refl
def Qah:=@List.getElem?_eq_some_iff
def Qai:=@List.mem_of_getElem?
def Qaj:=@List.getElem?_map
def Qak:=@PySem.Heap.get?_push_size
def Qal:=@List.mem_singleton
def Qam:=@List.mem_cons_of_mem
def Qan:=@List.mem_cons
def Qao:=@decide_eq_true
def Qap:=@PySem.Heap.lt_size
def Qaq:=@List.mem_cons_self
def Qar:=@List.getD_eq_getElem?_getD
def Qas:=@Bool.and_eq_true_iff
def Qat:=@Int.toNat_natCast
def Qau:=@decide_eq_false
def Qav:=@Nat.le_of_lt
def Qaw:=@if_neg
def Qax:=@List.length_replicate
def Qay:=@List.length_range
def Qaz:=@of_decide_eq_true
def Qa0:=@List.length_take
def Qa1:=@if_pos
def Qa2:=@List.mem_map
def Qa3:=@List.mem_append_right
def Qa4:=@List.mem_append
def Qa5:=@Bool.false_ne_true
def Qa6:=@List.map_append
def Qa7:=@List.getElem?_append_right
def Qa8:=@Nat.le_trans
def Qa9:=@PySem.wpAny_newObj_type
def Qba:=@Nat.zero_le
def Qbb:=@List.size_toArray
def Qbc:=@PySem.wpAny_call_entry
def Qbd:=@List.not_mem_nil
def Qbe:=@Nat.ne_of_lt
def Qbf:=@PySem.F.plainAttrs_list
def Qbg:=@List.getElem?_append_left
def Qbh:=@PySem.Heap.get?_update_self
def Qbi:=@List.take_length
def Qbj:=@Nat.lt_of_lt_of_le
def Qbk:=@PySem.F.slot_list_append
def Qbl:=@PySem.F.type_list_append
def Qbm:=@PySem.PassesOwn.never
def Qbn:=@PySem.Obj.data_mapFields
def Qbo:=@Bool.false_eq_true
def Qbp:=@Int.emod_lt_of_pos
def Qbq:=@List.append_nil
def Qbr:=@PySem.Heap.get?_update_other
def Qbs:=@Array.length_toList
def Qbt:=@PyProof.Rows.slot_tuple_getitem
def Qbu:=@List.map_cons
def Qbv:=@PySem.Heap.size_push
def Qbw:=@PySem.wpAny_seqItems
def Qbx:=@PySem.wpAny_field
def Qby:=@List.eq_nil_of_length_eq_zero
def Qbz:=@Nat.lt_irrefl
def Qb0:=@PySem.wpAny_setField_rec
def Qb1:=@Int.emod_nonneg
def Qb2:=@Option.map_eq_some_iff
def Qb3:=@List.take_of_length_le
def Qb4:=@List.map_map
def Qb5:=@PySem.mem_of_lookup
def Qb6:=@PySem.Heap.SameBut.update
def Qb7:=@List.mem_append_left
def Qb8:=@Bool.and_eq_true
def Qb9:=@PyProof.Rows.callWith_type1
def Qca:=@List.append_assoc
def Qcb:=@decide_eq_true_iff
def Qcc:=@List.mem_map_of_mem
def Qcd:=@List.length_zip
def Qce:=@List.length_cons
def Qcf:=@PySem.codeAny_builtin
def Qcg:=@PySem.Calls.spliced_cons
def Qch:=@Int.natCast_nonneg
def Qci:=@List.nodup_cons
def Qcj:=@PySem.wpAny_of_eq
def Qck:=@PySem.Obj.isFreed_of_fields
def Qcl:=@List.map_congr_left
def Qcm:=@List.mem_range
def Qcn:=@List.length_drop
def Qco:=@Nat.lt_succ_self
def Qcp:=@PySem.wpAny_holding
def Qcq:=@Nat.lt_succ_of_lt
def Qcr:=@Int.emod_eq_of_lt
def Qcs:=@Nat.mod_two_eq_zero_or_one
def Qct:=@List.getElem?_of_mem
def Qcu:=@List.mem_of_mem_take
def Qcv:=@PySem.wpAny_Call_Name_kw
def Qcw:=@PySem.W.kia_one
def Qcx:=@List.drop_eq_getElem_cons
def Qcy:=@List.lookup_cons
def Qcz:=@List.filter_cons
def Qc0:=@List.getElem?_range
def Qc1:=@PySem.wpAny_rule
def Qc2:=@List.foldl_append
def Qc3:=@Nat.lt_or_ge
def Qc4:=@List.take_append_drop
def Qc5:=@PySem.wpAny_setField
def Qc6:=@PySem.wpAny_mono
def Qc7:=@PySem.Around.under_plainId
def Qc8:=@Nat.pow_le_pow_right
def Qc9:=@List.getElem_mem
def Qda:=@PySem.wpAny_isInstance
def Qdb:=@Int.ediv_one
def Qdc:=@PySem.F.plain_max_loop
def Qdd:=@PySem.wpAny_truthy_bool
def Qde:=@PySem.wpAny_attempt
def Qdf:=@PySem.plainId_quiet
def Qdg:=@List.nodup_nil
def Qdh:=@List.getElem?_zip_eq_some
def Qdi:=@List.mem_filter
def Qdj:=@PySem.wpAny_specialOf
def Qdk:=@PySem.wpAny_updateSeq
def Qdl:=@List.length_filter_le
def Qdm:=@List.filter_append
def Qdn:=@Nat.le_succ
def Qdo:=@List.all_eq_true
def Qdp:=@List.all_cons
def Qdq:=@or_false
def Qdr:=@Int.pow_succ
def Qds:=@PySem.Calls.spliced_nil
def Qdt:=@List.reverse_cons
def Qdu:=@bne_self_eq_false
def Qdv:=@List.nodup_append
def Qdw:=@List.ext_getElem?
def Qdx:=@List.foldl_cons
def Qdy:=@List.range_succ
def Qdz:=@List.find?_cons
def Qd0:=@Nat.not_lt_zero
def Qd1:=@PySem.F.slot_tuple_iterator_next
def Qd2:=@beq_self_eq_true
def Qd3:=@Int.pow_zero
def Qd4:=@Int.emod_add_mul_ediv
def Qd5:=@Ne.symm
def Qd6:=@Array.getElem?_eq_getElem
def Qd7:=@PySem.wpAny_passesOwn
def Qd8:=@Bool.eq_iff_iff
def Qd9:=@PySem.wpAny_setState_of
def Qea:=@List.eq_of_mem_replicate
def Qeb:=@Nat.ne_of_gt
def Qec:=@PySem.codeAny_mono
def Qed:=@PySem.wpAny_getItem_str_slice
def Qee:=@PySem.wpAny_setEntries_of
def Qef:=@PySem.F.plain_extend_loop
def Qeg:=@List.map_drop
def Qeh:=@List.any_eq_true
def Qei:=@List.drop_zero
def Qej:=@Int.ediv_eq_zero_of_lt
def Qek:=@PySem.wpAny_pyIter_tuple
def Qel:=@PySem.wpAny_typeOf
def Qem:=@List.forIn_cons
def Qen:=@PySem.wpAny_letGo
def Qeo:=@PySem.F.slot_enumerate_next
def Qep:=@Array.getElem?_toList
def Qeq:=@PySem.F.called_set
def Qer:=@PySem.F.slot_int_rmul
def Qes:=@List.idxOf_lt_length_of_mem
def Qet:=@List.mem_iff_getElem?
def Qeu:=@PySem.wpAny_pyIter_list
def Qev:=@PySem.Obj.cls_mapFields
def Qew:=@List.map_take
def Qex:=@Int.add_mul_emod_self_left
def Qey:=@Int.emod_eq_emod_iff_emod_sub_eq_zero
def Qez:=@PySem.wpAny_binaryOp_repeat_ref
def Qe0:=@List.drop_length
def Qe1:=@List.length_reverse
def Qe2:=@Int.pow_pos
def Qe3:=@PySem.F.args_tuple_add_2
def Qe4:=@Nat.not_lt
def Qe5:=@Int.mul_comm
def Qe6:=@Int.emod_one
def Qe7:=@Int.zero_add
def Qe8:=@List.of_mem_zip
def Qe9:=@PySem.F.entry_tuple_add
def Qfa:=@Nat.lt_of_le_of_lt
def Qfb:=@PySem.tupleKind_room_in1
def Qfc:=@List.length_nil
def Qfd:=@PySem.F.slot_zip_next
def Qfe:=@Nat.min_eq_left
def Qff:=@Int.ediv_ediv_of_nonneg
def Qfg:=@PySem.F.slot_tuple_add
def Qfh:=@PySem.Calls.callWith_builtin
def Qfi:=@List.length_pos_of_mem
def Qfj:=@PySem.F.entry_max_loop
def Qfk:=@PySem.wpAny_pyIter_slot
def Qfl:=@PySem.isSubtype_stop
def Qfm:=@PySem.wpAny_tryCatch
def Qfn:=@PySem.builtinLookup_eq_fast
def Qfo:=@PySem.Txt.slice_le
def Qfp:=@Int.ne_of_gt
def Qfq:=@Int.add_mul_ediv_left
def Qfr:=@Nat.sub_self
def Qfs:=@List.getElem_zip
def Qft:=@List.cons_append
def Qfu:=@PySem.F.slot_tuple_mul
def Qfv:=@Nat.le_add_right
def Qfw:=@PySem.Around.frames_deeper
def Qfx:=@PySem.F.args_object_init_2
def Qfy:=@PySem.Heap.get?_push_cases
def Qfz:=@PySem.wpAny_updateSeq_pair
def Qf0:=@Nat.mul_le_mul_right
def Qf1:=@List.replicate_succ'
def Qf2:=@List.mem_of_mem_drop
def Qf3:=@PySem.Paired.length
def Qf4:=@if_false
def Qf5:=@List.any_cons
def Qf6:=@PySem.F.args_tuple_iterator_next_1
def Qf7:=@List.dropLast_concat_getLast
def Qf8:=@PySem.typeIs_int
def Qf9:=@PySem.Value.isStrOf_shape
def Qga:=@List.filterMap_cons
def Qgb:=@PySem.wpAny_execs_nil
def Qgc:=@List.replicate_succ
def Qgd:=@PySem.post_val_or_str
def Qge:=@List.getElem_of_mem
def Qgf:=@Option.map_some
def Qgg:=@PySem.F.entry_tuple_iterator_next
def Qgh:=@List.idxOf_cons
def Qgi:=@Bool.or_eq_true_iff
def Qgj:=@Int.natCast_pow
def Qgk:=@PyProof.Rows.assignInOrder_cons
def Qgl:=@List.mem_filterMap
def Qgm:=@PySem.W.callWith_K
def Qgn:=@PySem.F.args_tuple_mul_2
def Qgo:=@PySem.wpAny_forIn_array'
def Qgp:=@Int.lt_of_lt_of_le
def Qgq:=@List.getElem?_take
def Qgr:=@PySem.isSubtype_type
def Qgs:=@PySem.wpAny_newTuple
def Qgt:=@PySem.wpAny_fieldsOf
def Qgu:=@List.forIn_nil
def Qgv:=@List.take_sublist
def Qgw:=@Option.isSome_map
def Qgx:=@PySem.fits_of_scanBound
def Qgy:=@List.take_add_one
def Qgz:=@beq_iff_eq
def Qg0:=@decide_eq_true_eq
def Qg1:=@PySem.wpAny_setEpoch_of
def Qg2:=@PySem.F.plain_list_iadd
def Qg3:=@PySem.F.entry_tuple_mul
def Qg4:=@PySem.F.args_int_rmul_2
def Qg5:=@PySem.wpAny_mkInt
def Qg6:=@PySem.wpAny_handled
def Qg7:=@PySem.sizeLine_eq
def Qg8:=@Bool.or_false
def Qg9:=@PySem.wpAny_onRaise
def Qha:=@Int.emod_emod
def Qhb:=@PySem.wpAny_pyHash_int
def Qhc:=@PySem.noFill_tuple_add
def Qhd:=@PySem.wpAny_askSetting
def Qhe:=@PySem.F.slot_int_index
def Qhf:=@PySem.F.entry_int_rmul
def Qhg:=@if_true
def Qhh:=@Nat.le_of_eq
def Qhi:=@PySem.typeLookup_type
def Qhj:=@PySem.callType_new
def Qhk:=@PySem.F.fills_int_mul
def Qhl:=@Nat.two_pow_pos
def Qhm:=@Nat.sub_zero
def Qhn:=@Int.zero_mul
def Qho:=@Int.add_emod
def Qhp:=@Int.sub_emod
def Qhq:=@PySem.wpAny_call
def Qhr:=@PySem.wpAny_throw
def Qhs:=@Int.mul_add
def Qht:=@Prod.ext
variable {i n L:Nat}
variable {a l Z:PySem.Addr}
variable {x:PySem.Str}
variable {e o:PySem.Expr}
variable {N:List PySem.Str}
variable {p A:PySem.Pos}
variable {c:PySem.Value}
variable {y G:Int}
variable {K:PySem.W.Frag}
variable {S:List Nat}
variable {Q:PySem.Value->PySem.Shared->Prop}
variable {h:PySem.Heap}
variable {j:Bool}
variable {s:PySem.Shared}
variable {m:Type}
variable {P:PySem.Program}
variable {q:PySem.World}
variable {z:List (PySem.Addr × PySem.Obj)}
variable {B:List PySem.Expr}
variable {C:List Int}
variable {D:Array PySem.Value}
variable {J:List PySem.Value}
variable {M:List PySem.Addr}
variable {U:PySem.Obj}
section
open PySem
abbrev Aa:=Option Value->Shared->Prop
abbrev Ab:=Value->Shared->Prop
abbrev Ac:=List (Addr × Obj)
abbrev Ad:=List (List Nat)
abbrev Ae:=Str->Option Value
abbrev Af:=PySem.W.Frag
abbrev Ag:=List Value
abbrev Ah:=Array Value
abbrev Ai:=List Str
abbrev Aj:=List Nat
abbrev Ak:=List Int
abbrev Al:=List Expr
abbrev Am:=FuncData
abbrev An:=Program
abbrev Ao:=Around
abbrev Aq:=Shared
abbrev Ar:=World
abbrev As:=Value
abbrev Au:=Addr
abbrev Av:=Expr
abbrev Aw:=Stmt
abbrev A1{q:Type}(p:Program)(w:World):=@wpAny q (model p w)
end
open PySem PySem.Spec PyProof.Rows
namespace L2
def Zgi:0<=sizeLine:=by decide
def Zdc:1<=sizeLine:=by decide
def zi:2<=sizeLine:=by decide
def Zjc:3<=sizeLine:=by decide
def zln4:4<=sizeLine:=by decide
def zln12:12<=sizeLine:=by decide
def zln16:16<=sizeLine:=by decide
abbrev Key:=Sum Int Str
def qb:Key->Value->Bool
 | .inl k,v=>Value.isInt k v
 | .inr x,v=>Value.isStrOf x v
def keyH(w:Ar):Key->Int
 | .inl k=>hashInt k
 | .inr x=>hashStr w x
theorem Yk:∀{k:Key} {v:As},qb k v=true->(∃i t,k=Sum.inl i/\v=Value.int i t)\/(∃x t,k=Sum.inr x/\v=Value.str x t)
 | .inl i,v,h=>by
  obtain ⟨t,e⟩:=Value.isInt_shape (k:=i) (v:=v) h;exact .inl ⟨i,t,rfl,e⟩
 | .inr x,v,h=>by
  obtain ⟨t,e⟩:=Qf9 (x:=x) (v:=v) h;exact .inr ⟨x,t,rfl,e⟩
def gY(i:Int)(t:Tok):qb (.inl i) (.int i t)=true:=by simp [qb,Value.isInt]
def gZ(x:Str)(t:Tok):qb (.inr x) (.str x t)=true:=by simp [qb,Value.isStrOf]
def key_ll(a b:Int):decide ((Sum.inl a:Key)=Sum.inl b)=(a == b):=by grind
def key_rr(a b:Str):decide ((Sum.inr a:Key)=Sum.inr b)=decide (a=b):=by grind
def key_lr(a:Int)(b:Str):decide ((Sum.inl a:Key)=Sum.inr b)=false:=by grind
def key_rl(a:Str)(b:Int):decide ((Sum.inr a:Key)=Sum.inl b)=false:=by grind
def ZC(prog:An)(w:Ar):PySem.KeyKind prog w Key where
 is:=qb
 hash:=keyH w
 inj:=fun v a b ha hb=>by
  rcases Yk ha with ⟨i,t,rfl,rfl⟩ | ⟨x,t,rfl,rfl⟩
  ·rcases Yk hb with ⟨j,u,rfl,e⟩ | ⟨y,u,rfl,e⟩
   ·injection e with e1 _;rw [e1]
   ·exact nomatch e
  ·rcases Yk hb with ⟨j,u,rfl,e⟩ | ⟨y,u,rfl,e⟩
   ·exact nomatch e
   ·injection e with e1 _;rw [e1]
 byValue:=fun k v h=>by
  rcases Yk h with ⟨i,t,rfl,rfl⟩ | ⟨x,t,rfl,rfl⟩ <;> rfl
 pyHash:=fun hv h=>by
  rcases Yk hv with ⟨i,t,rfl,rfl⟩ | ⟨x,t,rfl,rfl⟩
  ·exact Qhb h
  ·exact wpAny_pyHash_str h
 eqBool:=fun hu hv h=>by
  rcases Yk hu with ⟨i,t,rfl,rfl⟩ | ⟨x,t,rfl,rfl⟩
  ·rcases Yk hv with ⟨j,u,rfl,rfl⟩ | ⟨y,u,rfl,rfl⟩
   ·rw [key_ll] at h;exact wpAny_eqBool_int h
   ·rw [key_lr] at h;exact SeqAt.EqAt.int_str i t y u _ _ _ _ h
  ·rcases Yk hv with ⟨j,u,rfl,rfl⟩ | ⟨y,u,rfl,rfl⟩
   ·rw [key_rl] at h;exact SeqAt.EqAt.str_int x t j u _ _ _ _ h
   ·rw [key_rr] at h;exact wpAny_eqBool_str h
 «strs»:=fun k x t v h=>by
  rcases Yk h with ⟨i,u,rfl,e⟩ | ⟨y,u,rfl,e⟩
  ·exact nomatch e
  ·injection e with e1 _
   subst e1;cases v <;> rfl
def wQ(prog:An)(w:Ar)(k:Key)(v:As):(ZC prog w).is k v=qb k v:=rfl
def yM(prog:An)(w:Ar)(i:Int)(t:Tok):(ZC prog w).is (.inl i) (.int i t)=true:=gY i t
def WT(prog:An)(w:Ar)(x:Str)(t:Tok):(ZC prog w).is (.inr x) (.str x t)=true:=gZ x t
inductive V where
 | non | bl (b:Bool) | int (i:Int) | str (x:Str) | byt (b:Array UInt8) | flt (b:UInt64) | ref (a:Au) | ty (n:String)
 deriving DecidableEq
def RelV:V->Value->Prop
 | .non,u=>u=Value.none
 | .bl b,u=>u=Value.bool b
 | .int i,u=>∃t,u=Value.int i t
 | .str x,u=>∃t,u=Value.str x t
 | .byt b,u=>∃t,u=Value.bytes b t
 | .flt b,u=>∃t,u=Value.float b t
 | .ref a,u=>u=Value.ref a
 | .ty n,u=>u=Value.type n
abbrev Vals:List V->List As->Prop:=Paired RelV
def Vals.length{xs:List V}{q:Ag}(r:Vals xs q):xs.length=q.length:=Qf3 r
theorem Vals.get:∀{xs:List V} {q:Ag} {i:Nat} {x:V},Vals xs q->xs[i]?=some x->∃u,q[i]?=some u/\RelV x u
 | _,_,_,_,.nil,e=>by simp at e
 | _,_,0,_,.cons r _,e=>by grind
 | _,_,i + 1,x,.cons _ t,e=>by
  obtain ⟨u,h1,h2⟩:=Vals.get (i:=i) (x:=x) t (by simpa using e);exact ⟨u,by simpa using h1,h2⟩
theorem Vals.append:∀{xs ys:List V} {q C:Ag},Vals xs q->Vals ys C->Vals (xs++ys) (q++C)
 | _,_,_,_,.nil,s=>s
 | _,_,_,_,.cons r t,s=>.cons r (Vals.append t s)
theorem Vals.take:∀{xs:List V} {q:Ag} (n:Nat),Vals xs q->Vals (xs.take n) (q.take n)
 | _,_,0,_=>.nil
 | _,_,_ + 1,.nil=>.nil
 | _,_,n + 1,.cons r t=>.cons r (Vals.take n t)
theorem Vals.drop:∀{xs:List V} {q:Ag} (n:Nat),Vals xs q->Vals (xs.drop n) (q.drop n)
 | _,_,0,r=>r
 | _,_,_ + 1,.nil=>.nil
 | _,_,n + 1,.cons _ t=>Vals.drop n t
def jy:Option V->Option As->Prop
 | some v,some u=>RelV v u
 | none,none=>True
 | _,_=>False
def KV:List (m × V)->List (m × As)->Prop:=Paired fun (p:m × V) (q:m × As)=>p.1=q.1/\RelV p.2 q.2
def kV:Key->V
 | .inl i=>.int i
 | .inr x=>.str x
inductive HO where
 /-- a list -/
 | lst (xs:List V)
 /-- a tuple (never changes) -/
 | tup (xs:List V)
 /-- a dict whose keys are ints and texts; one whose keys are tuples of ints and texts (the empty one is both) -/
 | dK (kvs:List (Key × V)) | dT (kvs:List (List Key × V))
 /-- a set of ints: its members, its size -/
 | set (S:Int->Bool) (n:Nat)
 /-- an instance of the class at C, its dict at dx, its attributes -/
 | ins (C dx:Au) (fs:List (Str × V))
 /-- the dict of the instance at x -/
 | own (x:Au)
 /-- the dict of an exception -/
 | xd (fs:List (Str × V))
 /-- a bound method, f of x -/
 | met (f x:Au)
 /-- a range object lo, lo + 1, .. below hi -/
 | rng (lo hi:Int)
 /-- a thing that is known to the object (the script; a dict while a loop walks it): read, never written while it is so -/
 | frz (o:Obj) (u:HO)
 /-- a code object's table -/
 | tbl (ps:Ah)
 /-- any other thing, by what is true of its one object (a def of one's own: SetO a S n := HO.ext fun h => ..) -/
 | ext (φ:Heap->Prop)
abbrev Hp:=Au->Option HO
def upd(H:Hp)(a:Au)(o:HO):Hp:=fun b=>if b=a then some o else H b
def Za{H:Hp}{o:HO}:upd H a o a=some o:=by unfold upd;rw [Qa1 rfl]
def Zh{H:Hp}{b:Au}{o:HO}(h:b≠a):upd H a o b=H b:=by unfold upd;rw [Qaw h]
def WU{H:Hp}{o u:HO}:upd (upd H a o) a u=upd H a u:=by
 funext b;unfold upd;split <;> rfl
def Xa{H:Hp}{b:Au}{o u:HO}(h:H a=some o)(h':H b=some u)(d:o≠u):a≠b:=by grind
def Zj{H:Hp}{b:Au}{o:HO}(h:H a=some o)(h':H b=none):a≠b:=by grind
def jz (h:Heap) (a:Au) (xs:Ah):Prop:=∃o,h.get? a=some o/\o.cls=.type "tuple" /\ (∃n,o.data=.seq xs n)/\o.dict=none
def jz.tup{h:Heap}{a:Au}{xs:Ah}(p:jz h a xs):IsTup h a xs:=let ⟨o,e,c,d,_⟩:=p;⟨o,e,c,d⟩
def jz.new (h:Heap) (xs:Ah):jz (h.push { cls:=.type "tuple",data:=.seq xs }) h.objs.size xs:=⟨_,Qak _ rfl,rfl,⟨_,rfl⟩,rfl⟩
def jz.lt{h:Heap}{a:Au}{xs:Ah}(p:jz h a xs):a < h.objs.size:=p.tup.lt
section
variable (P:An)(w:Ar)
def Yl(H:Hp)(h:Heap)(a:Au):HO->Prop
 | .lst xs=>xs.length<=sizeLine/\∃(D:Ag) (n:Nat),Vals xs D/\h.get? a=some { cls:=.type "list",data:=.seq D.toArray n }
 | .tup xs=>xs.length<=sizeLine/\∃D:Ag,Vals xs D/\jz h a D.toArray
 | .dK kvs=>kvs.length<=sizeLine/\(a == sysModules)=false/\∃vs,KV kvs vs/\h.DictOf (ZC P w) a vs
 | .dT kvs=>kvs.length<=sizeLine/\(a == sysModules)=false/\∃xs:List (List Key × Au × As),
   Paired (fun (p:List Key × V) (q:List Key × Au × As)=>p.1=q.1/\H q.2.1=some (.tup (p.1.map kV))/\RelV p.2 q.2.2) kvs xs /\
   ∃o es ep,h.get? a=some o/\o.ExactDict/\o.data=.dict es ep/\es.toList=xs.map (entryOfKey (tupleKind (ZC P w)))/\(xs.map (·.1)).Nodup
 | .set S n=>h.SetOf (intKind P w) a S n
 | .ins C dx fs=>H dx=some (.own a)/\fs.length<=1000/\dx≠a/\h.get? a=some (PySem.W.instObj C dx) /\
   ∃mA,h.Ns1 dx mA/\(∀f,jy (fs.lookup f) (mA f))/\PySem.Within mA (fs.map (·.1))
 | .own _=>∃o,h.get? a=some o
 | .xd fs=>∃mA,h.Ns1 a mA/\∀f,jy (fs.lookup f) (mA f)
 | .rng lo hi=>∃t u v,h.get? a=some { cls:=.type "range",data:=.fields #[.int lo t,.int hi u,.int 1 v] }
 | .frz o u=>h.get? a=some o/\Yl H h a u
 | .tbl ps=>h.get? a=some { cls:=.none,data:=.fields ps }
 | .met f x=>h.get? a=some (PySem.W.methodObj (.ref f) (.ref x))
 | .ext φ=>φ h/\(∃o,h.get? a=some o)/\∀h1 h2:Heap,φ h1->(∀o,h1.get? a=some o->h2.get? a=some o)->φ h2
def HOk(H:Hp)(h:Heap):Prop:=∀a o,H a=some o->Yl P w H h a o
end
section
variable {P:An}{w:Ar}{H H':Hp}{h h':Heap}{a:Au}{o:HO}
def Yl.lt(x:Yl P w H h a o):a < h.objs.size:=by
 cases o with
 | lst xs=>obtain ⟨_,_,_,_,e⟩:=x;exact Qap e
 | tup xs=>obtain ⟨_,_,_,p⟩:=x;exact p.lt
 | dK kvs=>obtain ⟨_,_,_,_,o,_,_,e,_⟩:=x;exact Qap e
 | dT kvs=>obtain ⟨_,_,_,_,o,_,_,e,_⟩:=x;exact Qap e
 | set S n=>obtain ⟨o,_,_,_,e,_⟩:=x;exact Qap e
 | ins C dx fs=>obtain ⟨_,_,_,e,_⟩:=x;exact Qap e
 | own y=>obtain ⟨_,e⟩:=x;exact Qap e
 | xd fs=>obtain ⟨_,⟨_,_,_,e,_⟩,_⟩:=x;exact Qap e
 | rng lo hi=>obtain ⟨_,_,_,e⟩:=x;exact Qap e
 | frz ob u=>obtain ⟨e,_⟩:=x;exact Qap e
 | tbl ps=>exact Qap (show h.get? a=some _ from x)
 | met f y=>exact Qap (show h.get? a=some _ from x)
 | ext φ=>obtain ⟨_,⟨_,e⟩,_⟩:=x;exact Qap e
theorem Paired.mapP{α β:Type}{F G:α->β->Prop}:∀{C:List α} {q:List β},Paired F C q->(∀a b,F a b->G a b)->Paired G C q
 | _,_,.nil,_=>.nil
 | _,_,.cons r t,f=>.cons (f _ _ r) (Paired.mapP t f)
theorem Yl.stay(x:Yl P w H h a o)(k:∀b u,(b=a\/H b=some (.own a))->h.get? b=some u->h'.get? b=some u)
  (ho:∀b,H b=some (.own a)->H' b=some (.own a)) (G:∀b xs,H b=some (.tup xs)->H' b=some (.tup xs)):Yl P w H' h' a o:=by
 induction o with
 | lst xs=>obtain ⟨z,D,n,r,e⟩:=x;exact ⟨z,D,n,r,k _ _ (.inl rfl) e⟩
 | tup xs=>obtain ⟨z,D,r,ob,e,c⟩:=x;exact ⟨z,D,r,ob,k _ _ (.inl rfl) e,c⟩
 | dK kvs=>obtain ⟨z,y,vs,r,ob,es,ep,e,c⟩:=x;exact ⟨z,y,vs,r,ob,es,ep,k _ _ (.inl rfl) e,c⟩
 | dT kvs =>
  obtain ⟨z,y,xs,r,ob,es,ep,e,c⟩:=x;exact ⟨z,y,xs,Paired.mapP r fun p q z=>⟨z.1,G _ _ z.2.1,z.2.2⟩,ob,es,ep,k _ _ (.inl rfl) e,c⟩
 | set S n=>obtain ⟨ob,es,ep,t,e,c⟩:=x;exact ⟨ob,es,ep,t,k _ _ (.inl rfl) e,c⟩
 | ins C dx fs =>
  obtain ⟨d,z,ne,e,mA,⟨od,es,ep,e2,c⟩,r⟩:=x;exact ⟨ho _ d,z,ne,k _ _ (.inl rfl) e,mA,⟨od,es,ep,k _ _ (.inr d) e2,c⟩,r⟩
 | own y=>obtain ⟨ob,e⟩:=x;exact ⟨ob,k _ _ (.inl rfl) e⟩
 | xd fs=>obtain ⟨mA,⟨od,es,ep,e,c⟩,r⟩:=x;exact ⟨mA,⟨od,es,ep,k _ _ (.inl rfl) e,c⟩,r⟩
 | rng lo hi=>obtain ⟨t,u,v,e⟩:=x;exact ⟨t,u,v,k _ _ (.inl rfl) e⟩
 | frz ob u I=>obtain ⟨e,q⟩:=x;exact ⟨k _ _ (.inl rfl) e,I q⟩
 | tbl ps =>
  have e:h.get? a=some { cls:=.none,data:=.fields ps }:=x;exact k a _ (.inl rfl) e
 | met f y =>
  have e:h.get? a=some (PySem.W.methodObj (.ref f) (.ref y)):=x;exact k a _ (.inl rfl) e
 | ext φ=>obtain ⟨p,⟨o,e⟩,st⟩:=x;exact ⟨st _ _ p fun o q=>k _ _ (.inl rfl) q,⟨o,k _ _ (.inl rfl) e⟩,st⟩
def HOk.lt(x:HOk P w H h)(e:H a=some o):a < h.objs.size:=(x a o e).lt
def HOk.fresh(x:HOk P w H h)(e:h.objs.size<=a):H a=none:=by
 cases q:H a with
 | none=>rfl
 | some u=>exact absurd (Qbj (x.lt q) e) (Qbz _)
theorem HOk.kept(x:HOk P w H h)(k:∀b u,h.get? b=some u->h'.get? b=some u):HOk P w H h':=fun a o e =>
 (x a o e).stay (fun b u _ q=>k b u q) (fun _ q=>q) fun _ _ q=>q
theorem HOk.laid(x:HOk P w H h)(k:∀b u,h.get? b=some u->h'.get? b=some u)(hp:h.objs.size<=a)(new:Yl P w (upd H a o) h' a o):HOk P w (upd H a o) h':=fun b u e=>by
 have hn:=x.fresh hp
 by_cases hb:b=a
 ·subst hb;rw [Za] at e;cases e;exact new
 ·rw [Zh hb] at e
  exact (x b u e).stay (fun c v _ q=>k c v q) (fun c q=>by rw [Zh (Zj q hn)];exact q) fun c xs q=>by rw [Zh (Zj q hn)];exact q
end
def Rd(H:Hp)(a:Au)(u:HO):Prop:=H a=some u\/∃o,H a=some (.frz o u)
def Rd.ok{w:Ar}{H:Hp}{u:HO}(r:Rd H a u)(x:HOk P w H h):Yl P w H h a u:=by
 rcases r with r | ⟨o,r⟩
 ·exact x a u r
 ·obtain ⟨_,q⟩:=x a _ r
  exact q
def Mut:Option HO->Prop
 | some (.lst _)=>True
 | some (.dK _)=>True
 | some (.dT _)=>True
 | some (.set _ _)=>True
 | some (.ins _ _ _)=>True
 | some (.ext _)=>True
 | _=>False
section
variable {P:An}{w:Ar}{H:Hp}{h h':Heap}{x e:Au}{o':HO}
def HOk.write(ok:HOk P w H h)(I:Mut (H x))(he:e=x\/H e=some (.own x))(k:∀b u,b≠e->h.get? b=some u->h'.get? b=some u)(J:∃u,h'.get? e=some u)
  (new:Yl P w (upd H x o') h' x o'):HOk P w (upd H x o') h':=fun b u q=>by
 have D:∀c y,H c=some (.own y)->c≠x:=fun c y r z=>by subst z;rw [r] at I;exact I
 have G:∀c xs,H c=some (.tup xs)->c≠x:=fun c xs r z=>by subst z;rw [r] at I;exact I
 by_cases hb:b=x
 ·subst hb;rw [Za] at q;cases q;exact new
 ·rw [Zh hb] at q
  by_cases C:b=e
  ·have q':H b=some (.own x):=by
    grind
   rw [q] at q';cases q';obtain ⟨v,hv⟩:=J;exact ⟨v,by rw [C];exact hv⟩
  ·refine (ok b u q).stay (fun c v hc r=>k c v ?_ r) (fun c r=>by rw [Zh (D c b r)];exact r) fun c xs r=>by rw [Zh (G c xs r)];exact r
   rcases hc with rfl | hc
   ·exact C
   ·grind
end
structure Un(fs ex:List Au)(H H':Hp)(h h':Heap):Prop where
 keep:∀b o,h.get? b=some o->H b=none->b∉fs->b∉ex->h'.get? b=some o
 slot:∀b o,h.get? b=some o->H b=none->b∈fs->b∉ex->∃sl,h'.get? b=some { o with slots:=sl }
 free:∀b o,h.get? b=some o->H b=none->b∉ex->H' b=none
 there:∀b o,h.get? b=some o->b∉ex->∃o',h'.get? b=some o'
 tups:∀b xs,H b=some (.tup xs)->H' b=some (.tup xs)
 frzs:∀b o u,H b=some (.frz o u)->H' b=some (.frz o u)
 tbls:∀b ps,H b=some (.tbl ps)->∃more,H' b=some (.tbl (ps++more))
section
variable {fs fs' ex ex':List Au}{H H1 H2:Hp}{h h1 h2 h':Heap}{a x e:Au}{o:HO}
def Un.any(u:Un fs ex H H1 h h1){b:Au}(q:h.get? b=some U)(n:H b=none)(hx:b∉ex):∃C,h1.get? b=some { U with slots:=C }:=by
 by_cases hb:b∈fs
 ·exact u.slot b U q n hb hx
 ·exact ⟨U.slots,u.keep b U q n hb hx⟩
theorem Un.kept(k:∀b u,h.get? b=some u->h'.get? b=some u):Un fs ex H H h h' :=
 ⟨fun b ob q _ _ _=>k b ob q,fun b ob q _ _ _=>⟨ob.slots,k b ob q⟩,fun _ _ _ n _=>n,fun b ob q _=>⟨ob,k b ob q⟩,fun _ _ q=>q,fun _ _ _ q=>q,fun _ ps q=>⟨#[],by rw [q];simp⟩⟩
def Un.refl:Un fs ex H H h h:=Un.kept fun _ _ q=>q
theorem Un.laid(k:∀b u,h.get? b=some u->h'.get? b=some u)(hp:h.objs.size<=a)(hn:H a=none):Un fs ex H (upd H a o) h h' where
 keep:=fun b u q _ _ _=>k b u q
 slot:=fun b u q _ _ _=>⟨u.slots,k b u q⟩
 free:=fun b u q n _=>by rw [Zh (Qbe (Qbj (Qap q) hp))];exact n
 there:=fun b u q _=>⟨u,k b u q⟩
 tups:=fun b xs q=>by rw [Zh (Zj q hn)];exact q
 frzs:=fun b u xs q=>by rw [Zh (Zj q hn)];exact q
 tbls:=fun b ps q=>⟨#[],by rw [Zh (Zj q hn),q];simp⟩
def Un.write(D:Mut (H x))(he:e=x\/H e=some (.own x))(k:∀b u,b≠e->h.get? b=some u->h'.get? b=some u)(G:∃u,h'.get? e=some u):Un fs ex H (upd H x o) h h':=by
 have hx:∀b,H b=none->b≠x:=fun b n z=>by subst z;rw [n] at D;exact D
 have hb:∀b,H b=none->b≠e:=fun b n z=>by
  grind
 have hm:∀b u,H b=some u->¬Mut (some u)->b≠x:=fun b u q nm z=>by subst z;rw [q] at D;exact nm D
 refine ⟨fun b u q n _ _=>k b u (hb b n) q,fun b u q n _ _=>⟨u.slots,k b u (hb b n) q⟩,fun b u q n _=>by rw [Zh (hx b n)];exact n,fun b u q _=>?_,
  fun b xs q=>by rw [Zh (hm b _ q fun z=>z)];exact q,fun b u xs q=>by rw [Zh (hm b _ q fun z=>z)];exact q,fun b ps q=>⟨#[],by rw [Zh (hm b _ q fun z=>z),q];simp⟩⟩
 by_cases C:b=e
 ·subst C;exact G
 ·exact ⟨u,k b u C q⟩
end
def trk(h:Heap)(H:Hp):List Au:=(List.range h.objs.size).filter fun a=>(H a).isSome
def ua(h:Heap)(H:Hp):Heap:=PySem.W.hideAll h (trk h H)
def ub(h:Heap)(H:Hp):(ua h H).objs.size=h.objs.size:=PySem.W.hideAll_size _ _
theorem Zdd{H:Hp}{b:Au}{o:Obj}(e:h.get? b=some o)(n:H b=none):(ua h H).get? b=some o :=
 PySem.W.hideAll_get _ e fun hm=>by
  have q:(H b).isSome=true:=(Qdi.mp hm).2;rw [n] at q;simp at q
def Zgj{H:Hp}{b:Au}{o:Obj}(e:(ua h H).get? b=some o):h.get? b=some o/\H b=none:=by
 have C:h.get? b=some o:=PySem.W.of_hideAll (trk h H) e;refine ⟨C,?_⟩;cases q:H b with
 | none=>rfl
 | some x =>
  have hm:b∈trk h H:=Qdi.mpr ⟨Qcm.mpr (Qap C),by simp [q]⟩;have z:(ua h H).get? b=none:=PySem.W.hideAll_none (trk h H) hm;rw [z] at e;cases e
structure Mod(K:Af)(mg:Ae)(base:Heap):Prop where
 kin:K.In base
 glob:base.Ns mainGlobals mg
 blt:∃mb,base.Ns builtinsNs mb/\∀x:Str,x ≠ "__name__" -> mb x=bootBuiltins x
 nolimit:base.NoLimit
set_option genInjectivity false in
set_option genSizeOfSpec false in
structure Cx where
 prog:An
 w:Ar
 K:Af
 mg:Ae
 base:Heap
 A:Ao
 N:Ai
 s₀:Aq
 H₀:Hp
 env:Env
 outer:List Env
 stack:List Env
 ex:List Au
 fn:Str->Bool
 calm:Bool
 pn:Ac
 xe:Ab
abbrev A2{q:Type}(X:Cx):=@wpAny q (model X.prog X.w) X.A
def frs(l:List Env):List Au:=l.filterMap (·.frame)
abbrev Cx.fs(X:Cx):List Au:=frs X.outer
def Vis(q:Scope)(x:Str):Prop:=q.names.lookup x=some .local\/q.names.lookup x=some .cell\/q.names.lookup x=some .free
def Loc(q:Scope)(x:Str):Prop:=q.names.lookup x=some .local\/q.names.lookup x=some .cell
def Look(env:Env)(h:Heap)(m:Ae)(x:Str)(u:As):Prop :=
 (env.kindOf x=some .local/\m x=some u)\/((env.kindOf x=some .cell\/env.kindOf x=some .free)/\∃c,env.cells.lookup x=some c/\h.IsCell c (some u))
set_option genInjectivity false in
set_option genSizeOfSpec false in
structure Cx.Ok(X:Cx):Prop where
 mod:Mod X.K X.mg X.base
 kind:X.env.scope.kind=.function
 glob:X.env.globals=mainGlobals
 blt:X.env.builtins=builtinsNs
 above:X.s₀.heap.objs.size<=X.env.locals
 inj:∀x y c,X.env.cells.lookup x=some c->X.env.cells.lookup y=some c->x=y
 has:∀x,(X.env.kindOf x=some .cell\/X.env.kindOf x=some .free)->∃c,X.env.cells.lookup x=some c
 cab:∀x c,X.fn x=true->X.env.cells.lookup x=some c->X.s₀.heap.objs.size<=c
 hd:X.calm=true->X.A.handled=none
 frames:X.A.frames=some X.stack
 stk:X.stack=X.outer\/(X.stack=X.env::X.outer/\X.env.frame=some X.env.locals)
 exf:∀b∈X.ex,b≠X.env.locals/\∀x c,X.env.cells.lookup x=some c->c≠b
 bs:∀b o,X.base.get? b=some o->X.s₀.heap.get? b=some o/\X.H₀ b=none
 bsz:X.base.objs.size<=X.s₀.heap.objs.size
 noex:∀b o,X.base.get? b=some o->b∉X.ex
 exfs:∀b∈X.ex,b∉X.fs
 funs:X.s₀.heap.FunFrames X.base X.outer
 frf:∀b∈X.fs,X.H₀ b=none
structure Inv(X:Cx)(pins:Ac)(σ:List (Option V))(H:Hp)(s:Aq):Prop where
 ok:X.Ok
 os:s.os=X.s₀.os
 bare:AllBare s.gens
 base:Un X.fs X.ex X.H₀ H X.s₀.heap s.heap
 loc:∃m,s.heap.Ns X.env.locals m/\∀(i:Nat) (x:Str) (v:V),X.N[i]?=some x->σ[i]?=some (some v)->Vis X.env.scope x->∃u,RelV v u/\Look X.env s.heap m x u
 cell:∀x c,X.env.cells.lookup x=some c->∃v,s.heap.IsCell c v
 free:H X.env.locals=none
 freeC:∀x c,X.env.cells.lookup x=some c->H c=none
 pin:∀p∈X.pn++pins,s.heap.get? p.1=some p.2/\H p.1=none/\p.1≠X.env.locals/\p.1∉X.fs/\∀v,p.2.data≠.cell v
 hok:HOk X.prog X.w H s.heap
 len:σ.length=X.N.length
section
variable {X:Cx}{pins:Ac}{σ:List (Option V)}{H H':Hp}{s:Aq}{h':Heap}
theorem Cx.Ok.nofr(ok:X.Ok){b:Au}{o:Obj}(e:X.base.get? b=some o):b∉X.fs:=fun hb=>by
 have:=(ok.funs.mem hb).1;rw [e] at this;cases this
theorem Inv.bs(I:Inv X pins σ H s):∀b o,X.base.get? b=some o->s.heap.get? b=some o/\H b=none:=fun b o e =>
 ⟨I.base.keep b o (I.ok.bs b o e).1 (I.ok.bs b o e).2 (I.ok.nofr e) (I.ok.noex b o e),I.base.free b o (I.ok.bs b o e).1 (I.ok.bs b o e).2 (I.ok.noex b o e)⟩
def Inv.bk(I:Inv X pins σ H s):∀b o,X.base.get? b=some o->s.heap.get? b=some o:=fun b o e=>(I.bs b o e).1
def Inv.mod(I:Inv X pins σ H s):Mod X.K X.mg X.base:=I.ok.mod
def Inv.kIn(I:Inv X pins σ H s):X.K.In s.heap:=I.ok.mod.kin.keeps I.bk
def Inv.lt(I:Inv X pins σ H s):X.env.locals < s.heap.objs.size:=let ⟨_,hn,_⟩:=I.loc;hn.lt
def Inv.sz(I:Inv X pins σ H s):X.s₀.heap.objs.size<=s.heap.objs.size:=Qa8 I.ok.above (Qav I.lt)
theorem Inv.nofs(I:Inv X pins σ H s)(h:s.heap.objs.size<=a):a∉X.fs:=fun hb=>by
 obtain ⟨_,o,ho,_⟩:=I.ok.funs.mem hb;exact absurd (Qbj (Qap ho) (Qa8 I.sz h)) (Qbz _)
theorem Inv.cne(I:Inv X pins σ H s):∀x c,X.env.cells.lookup x=some c->c≠X.env.locals:=fun x c e z=>by
 obtain ⟨v,o,ho,hd⟩:=I.cell x c e;obtain ⟨m,⟨o',es,ep,q,C,_⟩,_⟩:=I.loc;rw [z,q] at ho;cases ho;rw [C] at hd;cases hd
theorem Inv.funs(I:Inv X pins σ H s):s.heap.FunFrames X.base X.outer:=by
 have all:∀(l:List Env),(∀b∈frs l,b∈X.fs)->X.s₀.heap.FunFrames X.base l->s.heap.FunFrames X.base l:=by
  intro l
  induction l with
  | nil=>intro _ _;trivial
  | cons env r C =>
   intro hs hl;obtain ⟨hk,⟨L,o,hf,hn,ho,hd⟩,hr⟩:=hl;have q:L∈X.fs:=hs L (by unfold frs;rw [Qga,hf];exact Qaq);obtain ⟨D,e⟩:=I.base.slot L o ho (I.ok.frf L q) q fun z=>I.ok.exfs L z q;exact ⟨hk,⟨L,_,hf,hn,e,hd⟩,C (fun b hb=>hs b (by unfold frs;rw [Qga,hf];exact Qam _ hb)) hr⟩
 exact all X.outer (fun _ hb=>hb) I.ok.funs
def Inv.stack(I:Inv X pins σ H s):s.heap.FunFrames X.base X.stack:=by
 rcases I.ok.stk with e | ⟨e,hf⟩
 ·rw [e];exact I.funs
 ·rw [e]
  obtain ⟨m,hn,_⟩:=I.loc;refine .cons (by rw [I.ok.kind];decide) hf hn ?_ I.funs;exact Heap.get?_none_of_le (Qa8 I.ok.bsz I.ok.above)
theorem Inv.stkSub(I:Inv X pins σ H s):∀b∈frs X.stack,b∈X.env.locals::X.fs:=fun b hb=>by
 rcases I.ok.stk with e | ⟨e,hf⟩
 ·grind
 ·rw [e] at hb
  unfold frs at hb;rw [Qga,hf] at hb;exact hb
theorem Inv.stkFree(I:Inv X pins σ H s):∀b∈frs X.stack,H b=none:=fun b hb=>by
 rcases Qan.mp (I.stkSub b hb) with e | hb
 ·rw [e];exact I.free
 ·obtain ⟨_,o,ho,_⟩:=I.ok.funs.mem hb
  exact I.base.free b o ho (I.ok.frf b hb) fun z=>I.ok.exfs b z hb
def Inv.step{g':Array GenState}{t':Nat}{d':Drawn}{ch:List Au}(I:Inv X pins σ H s)
  (G:∀b∈ch,(b∈X.ex\/X.s₀.heap.objs.size<=b)/\b≠X.env.locals/\(∀x c,X.env.cells.lookup x=some c->c≠b)/\∀p∈X.pn++pins,p.1≠b)
  (keep:∀b o,b≠X.env.locals->b∉X.fs->b∉ch->s.heap.get? b=some o->H b=none->h'.get? b=some o)
  (slot:∀b o,b≠X.env.locals->b∈X.fs->b∉ch->s.heap.get? b=some o->H b=none->∃sl,h'.get? b=some { o with slots:=sl }) (free:∀b o,b∉ch->s.heap.get? b=some o->H b=none->H' b=none)
  (O:∀b o,b∉ch->s.heap.get? b=some o->∃o',h'.get? b=some o')
  (tups:∀b xs,H b=some (.tup xs)->H' b=some (.tup xs)) (frzs:∀b o u,H b=some (.frz o u)->H' b=some (.frz o u)) (Z:∀b ps,H b=some (.tbl ps)->∃more,H' b=some (.tbl (ps++more)))
  (ns:∀m,s.heap.Ns X.env.locals m->h'.Ns X.env.locals m) (hok:HOk X.prog X.w H' h') (hg:AllBare g') :
  Inv X pins σ H' { s with heap:=h',gens:=g',drawn:=d',toks:=t' }:=by
 have Y:∀b o,X.s₀.heap.get? b=some o->b≠X.env.locals:=fun b o e=>Qbe (Qbj (Qap e) I.ok.above);have J:∀b o,X.s₀.heap.get? b=some o->b∉X.ex->b∉ch:=fun b o e hx hb=>by
  rcases (G b hb).1 with z | z
  ·exact hx z
  ·exact absurd (Qbj (Qap e) z) (Qbz _)
 have D:∀x c,X.env.cells.lookup x=some c->∀v,s.heap.IsCell c v->h'.IsCell c v:=fun x c e v ⟨o,ho,hd⟩=>by
  have C:c∉ch:=fun z=>(G c z).2.2.1 x c e rfl
  by_cases hc:c∈X.fs
  ·obtain ⟨sl,q⟩:=slot c o (I.cne x c e) hc C ho (I.freeC x c e)
   exact ⟨_,q,hd⟩
  ·exact ⟨o,keep c o (I.cne x c e) hc C ho (I.freeC x c e),hd⟩
 refine ⟨I.ok,I.os,hg,⟨fun b o e n hb hx=>?_,fun b o e n hb hx=>?_,fun b o e n hx=>?_,fun b o e hx=>?_,fun b xs e=>tups b xs (I.base.tups b xs e),fun b o xs e=>frzs b o xs (I.base.frzs b o xs e),fun b ps e=>?_⟩,?_,fun x c e=>?_,?_,fun x c e=>?_,fun p hp=>?_,hok,I.len⟩
 ·exact keep b o (Y b o e) hb (J b o e hx) (I.base.keep b o e n hb hx) (I.base.free b o e n hx)
 ·obtain ⟨sl,e1⟩:=I.base.slot b o e n hb hx
  obtain ⟨sl',e2⟩:=slot b _ (Y b o e) hb (J b o e hx) e1 (I.base.free b o e n hx);exact ⟨sl',e2⟩
 ·obtain ⟨o',e1⟩:=I.base.there b o e hx
  exact free b o' (J b o e hx) e1 (I.base.free b o e n hx)
 ·obtain ⟨o',e1⟩:=I.base.there b o e hx
  exact O b o' (J b o e hx) e1
 ·obtain ⟨m1,e1⟩:=I.base.tbls b ps e
  obtain ⟨m2,e2⟩:=Z b _ e1;exact ⟨m1++m2,by rw [e2,Array.append_assoc]⟩
 ·obtain ⟨m,hn,hl⟩:=I.loc
  refine ⟨m,ns m hn,fun i x v e1 e2 e3=>?_⟩;obtain ⟨u,r,l⟩:=hl i x v e1 e2 e3;refine ⟨u,r,?_⟩;rcases l with l | ⟨k,c,e,z⟩
  ·exact .inl l
  ·exact .inr ⟨k,c,e,D x c e _ z⟩
 ·obtain ⟨v,z⟩:=I.cell x c e
  exact ⟨v,D x c e v z⟩
 ·obtain ⟨m,⟨o,_,_,ho,_⟩,_⟩:=I.loc
  exact free _ o (fun z=>(G _ z).2.1 rfl) ho I.free
 ·obtain ⟨v,o,ho,hd⟩:=I.cell x c e
  exact free c o (fun z=>(G c z).2.2.1 x c e rfl) ho (I.freeC x c e)
 ·obtain ⟨e,n,ne,nf,d⟩:=I.pin p hp
  have C:p.1∉ch:=fun z=>(G p.1 z).2.2.2 p hp rfl;exact ⟨keep p.1 p.2 ne nf C e n,free p.1 p.2 C e n,ne,nf,d⟩
def Inv.un{t':Nat}(I:Inv X pins σ H s)(u:Un X.fs [] H H' s.heap h')(G:HOk X.prog X.w H' h'):Inv X pins σ H' { s with heap:=h',toks:=t' }:=by
 obtain ⟨m,⟨o,es,ep,ho,r⟩,_⟩:=id I.loc;obtain ⟨Z,J⟩:=u.any ho I.free (by simp);exact I.step (g':=s.gens) (d':=s.drawn) (ch:=[]) (fun _ z=>nomatch z) (fun b o _ hb _ e n=>u.keep b o e n hb (by simp)) (fun b o _ hb _ e n=>u.slot b o e n hb (by simp)) (fun b o _ e n=>u.free b o e n (by simp)) (fun b o _ e=>u.there b o e (by simp)) u.tups u.frzs u.tbls (fun Y hm=>by
  obtain ⟨o',D,C,q,O⟩:=hm;rw [ho] at q;cases q;exact ⟨_,D,C,J,O⟩) G I.bare
def Inv.call{g':Array GenState}{t':Nat}{d':Drawn}{ch:List Au}(I:Inv X pins σ H s)(u:Un (frs X.stack) ch H H' s.heap h')(O:HOk X.prog X.w H' h')(hg:AllBare g')
  (C:∀b∈ch,(b∈X.ex\/X.s₀.heap.objs.size<=b)/\b≠X.env.locals/\(∀x c,X.env.cells.lookup x=some c->c≠b)/\∀p∈X.pn++pins,p.1≠b) :
  Inv X pins σ H' { s with heap:=h',gens:=g',drawn:=d',toks:=t' }:=by
 obtain ⟨m,⟨o,es,ep,ho,r⟩,_⟩:=id I.loc;obtain ⟨sl,G⟩:=u.any ho I.free fun z=>(C _ z).2.1 rfl;exact I.step (ch:=ch) C (fun b o G hb hc e n=>u.keep b o e n (fun z=>(Qan.mp (I.stkSub b z)).elim G hb) hc) (fun b o _ _ hc e n=>u.any e n hc) (fun b o hc e n=>u.free b o e n hc) (fun b o hc e=>u.there b o e hc) u.tups u.frzs u.tbls (fun Z hm=>by
  obtain ⟨o',J,D,q,Y⟩:=hm;rw [ho] at q;cases q;exact ⟨_,J,D,G,Y⟩) O hg
def Inv.turned{t':Nat}{it:Au}(I:Inv X pins σ H s)(k:∀b o,b≠it->s.heap.get? b=some o->h'.get? b=some o)(hn:H it=none)(D:it≠X.env.locals)
  (h1:it∈X.ex\/X.s₀.heap.objs.size<=it) (h2:∀x c,X.env.cells.lookup x=some c->c≠it) (G:∀p∈X.pn++pins,p.1≠it):Inv X pins σ H { s with heap:=h',toks:=t' }:=by
 have C:∀b u,H b=some u->b≠it:=fun b u e z=>by rw [z,hn] at e;cases e
 refine I.step (g':=s.gens) (d':=s.drawn) (ch:=[it]) (fun b hb=>?_) (fun b o _ _ hc e _=>k b o (fun z=>hc (by simp [z])) e) (fun b o _ _ hc e _=>⟨o.slots,k b o (fun z=>hc (by simp [z])) e⟩) (fun _ _ _ _ n=>n)
  (fun b o hc e=>⟨o,k b o (fun z=>hc (by simp [z])) e⟩) (fun _ _ e=>e) (fun _ _ _ e=>e) (fun b ps e=>⟨#[],by rw [e];simp⟩) (fun m hm=>?_) (fun b u e=>?_) I.bare
 ·grind
 ·obtain ⟨o,es,ep,ho,r⟩:=hm
  exact ⟨o,es,ep,k _ o (Qd5 D) ho,r⟩
 ·refine (I.hok b u e).stay (fun c v hc q=>k c v ?_ q) (fun _ q=>q) fun _ _ q=>q
  rcases hc with z | z
  ·rw [z];exact C b u e
  ·exact C c _ z
def Inv.tok(I:Inv X pins σ H s)(t:Nat):Inv X pins σ H { s with toks:=t }:=I.un (h':=s.heap) (t':=t) Un.refl I.hok
def Inv.kept{t':Nat}(I:Inv X pins σ H s)(k:∀b u,s.heap.get? b=some u->h'.get? b=some u):Inv X pins σ H { s with heap:=h',toks:=t' }:=I.un (Un.kept k) (I.hok.kept k)
theorem Inv.laid{a:Au}{o:HO}{t':Nat}(I:Inv X pins σ H s)(k:∀b u,s.heap.get? b=some u->h'.get? b=some u)(hp:s.heap.objs.size<=a)(new:Yl X.prog X.w (upd H a o) h' a o) :
  Inv X pins σ (upd H a o) { s with heap:=h',toks:=t' }:=I.un (Un.laid k hp (I.hok.fresh hp)) (I.hok.laid k hp new)
theorem Inv.write{x e:Au}{o:HO}{t':Nat}(I:Inv X pins σ H s)(C:Mut (H x))(he:e=x\/H e=some (.own x))(k:∀b u,b≠e->s.heap.get? b=some u->h'.get? b=some u)(q:∃u,h'.get? e=some u)
  (new:Yl X.prog X.w (upd H x o) h' x o):Inv X pins σ (upd H x o) { s with heap:=h',toks:=t' }:=I.un (Un.write C he k q) (I.hok.write C he k q new)
theorem Inv.pins_of{q:Ac}(I:Inv X pins σ H s)(h:∀p∈q,s.heap.get? p.1=some p.2/\H p.1=none/\p.1≠X.env.locals/\p.1∉X.fs/\∀v,p.2.data≠.cell v):Inv X q σ H s :=
 ⟨I.ok,I.os,I.bare,I.base,I.loc,I.cell,I.free,I.freeC,fun p hp=>(Qa4.mp hp).elim (fun z=>I.pin p (Qb7 _ z)) (h p),I.hok,I.len⟩
def kx(hN:N.Nodup){j:Nat}(a:N[i]?=some x)(b:N[j]?=some x):i=j:=by
 obtain ⟨h1,e1⟩:=Qah.mp a;obtain ⟨h2,e2⟩:=Qah.mp b;exact (List.getElem_inj hN).mp (e1.trans e2.symm)
theorem uc{M:Model}{A:Ao}{E:Ab}{v:V}{u:As}{Q:Unit->Shared->Prop}(I:Inv X pins σ H s)(hN:X.N.Nodup)(hi:X.N[i]?=some x)(hx:Loc X.env.scope x)(r:RelV v u)
  (h:∀s',Inv X pins (σ.set i (some v)) H s'->(∃a,Heap.SameBut a s.heap s'.heap/\(a=X.env.locals\/X.env.cells.lookup x=some a))->Q () s') (hf:X.fn x=true\/X.env.scope.names.lookup x=some .local:=by first | exact .inl rfl | exact .inr rfl | assumption):wpAny M A (storeName X.env x u) Q E s:=by
 obtain ⟨m,hn,hl⟩:=id I.loc;have hcls:(X.env.scope.kind == .class || (X.env.scope.kind == .module && X.env.locals != X.env.globals))=false:=by rw [I.ok.kind];rfl
 have G:i < σ.length:=by rw [I.len];exact (Qah.mp hi).1
 have cne:=I.cne;have C:∀{a:Au} {h':Heap},(∃o,s.heap.get? a=some o/\H a=none)->Heap.SameBut a s.heap h'->HOk X.prog X.w H h':=fun {a h'} ha hs b ob e=>by
  obtain ⟨_,_,D⟩:=ha;refine (I.hok b ob e).stay (fun c w' hc q=>(hs.2 c ?_).trans q) (fun _ q=>q) fun _ _ q=>q;rintro rfl;rcases hc with rfl | hc
  ·rw [D] at e;cases e
  ·rw [D] at hc;cases hc
 rcases hx with hk | hk
 ·refine wpAny_storeName_local hk hn (fun h' hn' hs=>?_) hcls
  obtain ⟨oL,_,_,hoL,_⟩:=id hn;refine h _ ⟨I.ok,I.os,I.bare,⟨fun b o e n hb hx=>?_,fun b o e n hb hx=>?_,I.base.free,fun b o e hx=>?_,I.base.tups,I.base.frzs,I.base.tbls⟩,⟨_,hn',fun j y v' e1 e2 e3=>?_⟩,fun y c e=>?_,I.free,I.freeC,fun p hp=>?_,C ⟨oL,hoL,I.free⟩ hs,by simpa using I.len⟩ ⟨_,hs,.inl rfl⟩
  ·exact (hs.2 b (Qbe (Qbj (Qap e) I.ok.above))).trans (I.base.keep b o e n hb hx)
  ·obtain ⟨sl,e1⟩:=I.base.slot b o e n hb hx
   exact ⟨sl,(hs.2 b (Qbe (Qbj (Qap e) I.ok.above))).trans e1⟩
  ·obtain ⟨o',e1⟩:=I.base.there b o e hx
   exact ⟨o',(hs.2 b (Qbe (Qbj (Qap e) I.ok.above))).trans e1⟩
  ·by_cases O:j=i
   ·subst O
    rw [hi] at e1;cases e1;rw [List.getElem?_set_self G] at e2;cases e2;exact ⟨u,r,.inl ⟨hk,by simp⟩⟩
   ·rw [List.getElem?_set_ne (Qd5 O)] at e2
    obtain ⟨u',r',q⟩:=hl j y v' e1 e2 e3;refine ⟨u',r',?_⟩;rcases q with ⟨k,e⟩ | ⟨k,c,e,z⟩
    ·refine .inl ⟨k,?_⟩
     have:y≠x:=fun e=>O (kx hN e1 (e ▸ hi));simp [this,e]
    ·exact .inr ⟨k,c,e,z.sameBut hs (cne y c e)⟩
  ·obtain ⟨w',z⟩:=I.cell y c e
   exact ⟨w',z.sameBut hs (cne y c e)⟩
  ·obtain ⟨e,n,ne,nf,d⟩:=I.pin p hp
   exact ⟨(hs.2 p.1 ne).trans e,n,ne,nf,d⟩
 ·have J:X.fn x=true:=by
   rcases hf with z | z
   ·exact z
   ·rw [z] at hk;cases hk
  obtain ⟨c,hc⟩:=I.ok.has x (.inl hk);obtain ⟨w',z⟩:=I.cell x c hc;refine wpAny_storeName_cell I.ok.kind hk hc z (fun h' Z hs=>?_);obtain ⟨oc,Y,hocd⟩:=id z;refine h { s with heap:=h' } ⟨I.ok,I.os,I.bare,⟨fun b o e n hb hx=>?_,fun b o e n hb hx=>?_,I.base.free,fun b o e hx=>?_,I.base.tups,I.base.frzs,I.base.tbls⟩,⟨m,hn.sameBut hs (Qd5 (cne x c hc)),fun j y v' e1 e2 e3=>?_⟩,fun y c' e=>?_,I.free,I.freeC,fun p hp=>?_,C ⟨oc,Y,I.freeC x c hc⟩ hs,by simpa using I.len⟩ ⟨c,hs,.inr hc⟩
  ·exact (hs.2 b (Qbe (Qbj (Qap e) (I.ok.cab x c J hc)))).trans (I.base.keep b o e n hb hx)
  ·obtain ⟨sl,e1⟩:=I.base.slot b o e n hb hx
   exact ⟨sl,(hs.2 b (Qbe (Qbj (Qap e) (I.ok.cab x c J hc)))).trans e1⟩
  ·obtain ⟨o',e1⟩:=I.base.there b o e hx
   exact ⟨o',(hs.2 b (Qbe (Qbj (Qap e) (I.ok.cab x c J hc)))).trans e1⟩
  ·by_cases O:j=i
   ·subst O
    rw [hi] at e1;cases e1;rw [List.getElem?_set_self G] at e2;cases e2;exact ⟨u,r,.inr ⟨.inl hk,c,hc,Z⟩⟩
   ·rw [List.getElem?_set_ne (Qd5 O)] at e2
    obtain ⟨u',r',q⟩:=hl j y v' e1 e2 e3;refine ⟨u',r',?_⟩;rcases q with q | ⟨k,c',e,z'⟩
    ·exact .inl q
    ·refine .inr ⟨k,c',e,z'.sameBut hs ?_⟩
     rintro rfl;exact O (kx hN e1 (I.ok.inj _ _ _ e hc ▸ hi))
  ·by_cases hcc:c'=c
   ·subst hcc;exact ⟨_,Z⟩
   ·obtain ⟨w2,z2⟩:=I.cell y c' e
    exact ⟨w2,z2.sameBut hs hcc⟩
  ·obtain ⟨e,n,ne,nf,d⟩:=I.pin p hp
   refine ⟨(hs.2 p.1 ?_).trans e,n,ne,nf,d⟩;intro q;rw [q,Y] at e;have q':oc=p.2:=Option.some.inj e;exact d w' (by rw [<-q'];exact hocd)
theorem XC{M:Model}{A:Ao}{E:Ab}{v:V}{u:As}{Q:Unit->Shared->Prop}(I:Inv X pins σ H s)(hN:X.N.Nodup)(hi:X.N[i]?=some x)(hx:Loc X.env.scope x)(r:RelV v u)
  (h:∀s',Inv X pins (σ.set i (some v)) H s'->Q () s') (hf:X.fn x=true\/X.env.scope.names.lookup x=some .local:=by first | exact .inl rfl | exact .inr rfl | assumption):wpAny M A (storeName X.env x u) Q E s :=
 uc I hN hi hx r (fun s' q _=>h s' q) hf
def Inv.call'{s':Aq}{ch:List Au}(I:Inv X pins σ H s)(ho:s'.os=s.os)(u:Un (frs X.stack) ch H H' s.heap s'.heap)(q:HOk X.prog X.w H' s'.heap)(hg:AllBare s'.gens)
  (C:∀b∈ch,(b∈X.ex\/X.s₀.heap.objs.size<=b)/\b≠X.env.locals/\(∀x c,X.env.cells.lookup x=some c->c≠b)/\∀p∈X.pn++pins,p.1≠b):Inv X pins σ H' s':=by
 obtain ⟨h',g',d',t',o'⟩:=s';have e:o'=s.os:=ho;subst e;exact I.call (g':=g') (t':=t') (d':=d') u q hg C
end
abbrev XK:=As->Option Au->Hp->Prop
abbrev St:=List (Option V)
abbrev Ax:=List (List V)
abbrev Ay:=List (Key × V)
abbrev Az:=St->Hp->Prop
abbrev A0:=List V
abbrev VK:=V->Hp->Prop
abbrev TE:=St->Hp->VK->Prop
abbrev TT:=St->Hp->(Bool->Hp->Prop)->Prop
abbrev TA:=St->Hp->(A0->Hp->Prop)->Prop
structure Ends where
 nx:Az
 rt:VK
 bk:Az:=fun _ _=>False
 ct:Az:=fun _ _=>False
abbrev TS:=Ends->St->Hp->Prop
def EP(X:Cx)(pins:Ac)(σ:St)(Q:VK)(u:As)(s':Aq):Prop:=∃v H',Inv X pins σ H' s'/\RelV v u/\Q v H'
def TP(X:Cx)(pins:Ac)(σ:St)(Q:Bool->Hp->Prop)(b:Bool)(s':Aq):Prop:=∃H',Inv X pins σ H' s'/\Q b H'
def AP(X:Cx)(pins:Ac)(σ:St)(Q:A0->Hp->Prop)(q:Ag)(s':Aq):Prop:=∃vs H',Inv X pins σ H' s'/\Vals vs q/\Q vs H'
def SP(X:Cx)(pins:Ac)(D:Ends)(f:Flow)(s':Aq):Prop :=
 match f with
 | .next=>∃q H',Inv X pins q H' s'/\D.nx q H'
 | .brk=>∃q H',Inv X pins q H' s'/\D.bk q H'
 | .cont=>∃q H',Inv X pins q H' s'/\D.ct q H'
 | .ret u=>∃v q H',Inv X pins q H' s'/\RelV v u/\D.rt v H'
def PE(X:Cx)(e:Av)(t:TE):Prop :=
 ∀(pins:Ac) (s:Aq) (σ:St) (H:Hp) (Q:VK),Inv X pins σ H s->t σ H Q->A2 X (eval e X.env) (EP X pins σ Q) X.xe s
def PT(X:Cx)(e:Av)(t:TT):Prop :=
 ∀(pins:Ac) (s:Aq) (σ:St) (H:Hp) (Q:Bool->Hp->Prop),Inv X pins σ H s->t σ H Q->A2 X (isTrue e X.env (eval e X.env)) (TP X pins σ Q) X.xe s
def PW(X:Cx)(e:Av)(t:TT):Prop :=
 ∀(q:Sem As) (pins:Ac) (s:Aq) (σ:St) (H:Hp) (Q:Bool->Hp->Prop),Inv X pins σ H s->t σ H Q->A2 X (isTrue e X.env q) (TP X pins σ Q) X.xe s
def PW.pt{X:Cx}{t:TT}(h:PW X e t):PT X e t:=h _
def PA(X:Cx)(es:Al)(t:TA):Prop :=
 ∀(pos:Pos) (pins:Ac) (s:Aq) (σ:St) (H:Hp) (Q:A0->Hp->Prop),Inv X pins σ H s->t σ H Q->A2 X (spliced (backTo pos (starEach es X.env))) (AP X pins σ Q) X.xe s
def PS(X:Cx)(st:Aw)(t:TS):Prop :=
 ∀(pins:Ac) (s:Aq) (σ:St) (H:Hp) (D:Ends),Inv X pins σ H s->t D σ H->A2 X (exec st X.env) (SP X pins D) X.xe s
def PSs(X:Cx)(st:List Aw)(t:TS):Prop :=
 ∀(pins:Ac) (s:Aq) (σ:St) (H:Hp) (D:Ends),Inv X pins σ H s->t D σ H->A2 X (execs st X.env) (SP X pins D) X.xe s
def thn{t:Sem m}{Q q:m->Shared->Prop}{M:Model}{A:Ao}{E:Ab}(h:wpAny M A t Q E s)(C:∀a s,Q a s->q a s):wpAny M A t q E s:=Qc6 h C fun _ _ x=>x
section
variable {X:Cx}
def ud(i:Nat):TE:=fun σ H Q=>∃v,σ[i]?=some (some v)/\Q v H
def tC(v:V):TE:=fun _ H Q=>Q v H
def Zfd    (hN:X.N[i]?=some x) (hv:Vis X.env.scope x) (hd:(x == ("__debug__" : Str))=false:=by decide) (hcd:(x == ("__classdict__" : Str))=false:=by decide):PE X (.Name x p) (ud i):=by
 intro pins s σ H Q I h;obtain ⟨v,e,h⟩:=h;obtain ⟨m,hn,hl⟩:=I.loc;obtain ⟨u,r,l⟩:=hl i x v hN e hv;have fin:EP X pins σ Q u s:=⟨v,H,I,r,h⟩;rcases l with ⟨hk,hm⟩ | ⟨hk,c,hc,q⟩
 ·exact wpAny_Name (wpAny_loadName_local I.ok.kind hk hn hm fin) hd
 ·rcases hk with hk | hk
  ·exact wpAny_Name (wpAny_loadName_cell I.ok.kind hk hc q fin) hd
  ·exact wpAny_Name (wpAny_loadName_free I.ok.kind hk hc q fin hcd) hd
def pe_int{i j pos:_}:PE X (.Constant (.int i) j pos) (tC (.int i)):=fun _ _ _ H _ I h=>wpAny_Constant_int ⟨.int i,H,I.tok _,⟨_,rfl⟩,h⟩
def pe_bl{b j pos:_}:PE X (.Constant (.bool b) j pos) (tC (.bl b)):=fun _ _ _ H _ I h=>Constant_bool ⟨.bl b,H,I,rfl,h⟩
def pe_non{j pos:_}:PE X (.Constant .none j pos) (tC .non):=fun _ _ _ H _ I h=>Constant_none ⟨.non,H,I,rfl,h⟩
def pe_str{x j pos:_}:PE X (.Constant (.str x) j pos) (tC (.str x)):=fun _ _ _ H _ I h=>Calls.Constant_str ⟨.str x,H,I.tok _,⟨_,rfl⟩,h⟩
def Gl(X:Cx)(x:Str):Prop:=X.env.kindOf x=some .globalImplicit
def zj{E:Ab}{σ:St}{H:Hp}{u:As}(I:Inv X z σ H s)(hg:Gl X x)(hm:X.mg x=some u)(h:Q u s)
  (hd:(x == ("__debug__" : Str))=false:=by decide):A2 X (eval (.Name x p) X.env) Q E s :=
 Calls.Name_function_global I.ok.kind hg (Calls.loadGlobal_global (by rw [I.ok.glob];exact I.mod.glob.keeps I.bk) hm h) hd
def WN{E:Ab}{σ:St}{H:Hp}{u:As}(I:Inv X z σ H s)(hg:Gl X x)(hm:X.mg x=none)(hv:bootBuiltins x=some u)(h:Q u s)
  (hn:x ≠ "__name__" := by decide) (hd:(x == ("__debug__" : Str))=false:=by decide):A2 X (eval (.Name x p) X.env) Q E s:=by
 obtain ⟨q,h1,h2⟩:=I.mod.blt;exact Calls.Name_function_global I.ok.kind hg (Calls.loadGlobal_builtin (by rw [I.ok.glob];exact I.mod.glob.keeps I.bk) hm (by rw [I.ok.blt];exact h1.keeps I.bk) ((h2 x hn).trans hv) h) hd
def Zgk  {v:V} {u:As}  (hg:Gl X x) (hm:X.mg x=some u) (r:RelV v u) (hd:(x == ("__debug__" : Str))=false:=by decide):PE X (.Name x p) (tC v) :=
 fun _ _ _ H _ I h=>zj I hg hm ⟨v,H,I,r,h⟩ hd
def Zgl  {v:V} {u:As}  (hg:Gl X x) (hm:X.mg x=none) (hv:bootBuiltins x=some u) (r:RelV v u) (hn:x ≠ "__name__" := by decide) (hd:(x == ("__debug__" : Str))=false:=by decide):PE X (.Name x p) (tC v) :=
 fun _ _ _ H _ I h=>WN I hg hm hv ⟨v,H,I,r,h⟩ hn hd
variable {a b:Av}{ta tb:TE}{pos:Pos}
def tB(t:TE):TT:=fun σ H Q=>t σ H fun x H1=>∃c,x=.bl c/\Q c H1
def pt_val{t:TE}(h:PE X e t)(he:∀C,isTrue e X.env C=(do let v <-C;standAt e.pos;holding [v] (truthy v)):=by intro _;rfl):PT X e (tB t):=by
 intro pins s σ H Q I hw;refine isTrue_plain (thn (h pins s σ H _ I hw) fun v O ⟨x,H1,J,D,G⟩=>?_) (he _);obtain ⟨d,rfl,q⟩:=G;cases D;exact Qdd ⟨H1,J,q⟩
variable {tA tB':TT}{rest:Al}
def tAnd(t u:TT):TT:=fun σ H Q=>t σ H fun c H1=>if c=true then u σ H1 Q else Q false H1
def tOr(t u:TT):TT:=fun σ H Q=>t σ H fun c H1=>if c=true then Q true H1 else u σ H1 Q
def tNot(t:TT):TT:=fun σ H Q=>t σ H fun c H1=>Q (!c) H1
def Zgm(ha:PT X a tA):PW X (.BoolOp .And [a] pos) tA:=by
 intro q pins s σ H Q I h;refine isTrue_and (thn (ha pins s σ H Q I h) fun c C e=>?_);cases c with
 | true=>exact isTrue_and_nil e
 | false=>exact e
def pw_or1(ha:PT X a tA):PW X (.BoolOp .Or [a] pos) tA:=by
 intro q pins s σ H Q I h;refine isTrue_or (thn (ha pins s σ H Q I h) fun c C e=>?_);cases c with
 | false=>exact isTrue_or_nil e
 | true=>exact e
def pw_and(ha:PT X a tA)(hb:PW X (.BoolOp .And (b::rest) pos) tB'):PW X (.BoolOp .And (a::b::rest) pos) (tAnd tA tB'):=by
 intro D pins s σ H Q I h;refine isTrue_and (thn (ha pins s σ H _ I h) fun c G ⟨H1,C,q⟩=>?_);cases c with
 | true=>exact hb D pins G σ H1 Q C q
 | false=>exact ⟨H1,C,q⟩
def pw_or(ha:PT X a tA)(hb:PW X (.BoolOp .Or (b::rest) pos) tB'):PW X (.BoolOp .Or (a::b::rest) pos) (tOr tA tB'):=by
 intro D pins s σ H Q I h;refine isTrue_or (thn (ha pins s σ H _ I h) fun c G ⟨H1,C,q⟩=>?_);cases c with
 | true=>exact ⟨H1,C,q⟩
 | false=>exact hb D pins G σ H1 Q C q
def pt_not(ha:PT X a tA):PT X (.UnaryOp .Not a pos) (tNot tA):=by
 intro pins s σ H Q I h;exact isTrue_not (thn (ha pins s σ H (fun c H1=>Q (!c) H1) I h) fun c D ⟨H1,C,q⟩=>⟨H1,C,q⟩)
def Zjg(ta tb:TE):TE:=fun σ H Q=>ta σ H fun x H1=>∃c,x=.bl c/\if c=true then tb σ H1 Q else Q (.bl false) H1
def tOrV(ta tb:TE):TE:=fun σ H Q=>ta σ H fun x H1=>∃c,x=.bl c/\if c=true then Q (.bl true) H1 else tb σ H1 Q
def Zjh(ta:TE):TE:=fun σ H Q=>ta σ H fun x H1=>∃c,x=.bl c/\Q (.bl (!c)) H1
def pe_one{q:_}{t:TE}(h:PE X a t):PE X (.BoolOp q [a] pos) t:=fun pins s σ H Q I hw=>BoolOp_one (h pins s σ H Q I hw)
def pe_and(ha:PE X a ta)(hb:PE X (.BoolOp .And (b::rest) pos) tb):PE X (.BoolOp .And (a::b::rest) pos) (Zjg ta tb):=by
 intro pins s σ H Q I h;refine BoolOp_and (thn (ha pins s σ H _ I h) fun v D ⟨x,H1,C,G,q⟩=>?_);obtain ⟨c,rfl,q⟩:=q;cases G;refine Qdd ?_;cases c with
 | true=>exact hb pins D σ H1 Q C q
 | false=>exact ⟨.bl false,H1,C,rfl,q⟩
def pe_or(ha:PE X a ta)(hb:PE X (.BoolOp .Or (b::rest) pos) tb):PE X (.BoolOp .Or (a::b::rest) pos) (tOrV ta tb):=by
 intro pins s σ H Q I h;refine BoolOp_or (thn (ha pins s σ H _ I h) fun v D ⟨x,H1,C,G,q⟩=>?_);obtain ⟨c,rfl,q⟩:=q;cases G;refine Qdd ?_;cases c with
 | false=>exact hb pins D σ H1 Q C q
 | true=>exact ⟨.bl true,H1,C,rfl,q⟩
def pe_not(ha:PE X a ta):PE X (.UnaryOp .Not a pos) (Zjh ta):=by
 intro pins s σ H Q I h;refine UnaryOp_ (thn (ha pins s σ H _ I h) fun v G ⟨x,H1,D,C,q⟩=>?_);obtain ⟨c,rfl,q⟩:=q;cases C;exact not_of (Qdd ⟨.bl (!c),H1,D,rfl,q⟩)
end
def SqL(K:Af)(H:Hp)(a:Au)(xs:A0):Prop :=
 Rd H a (.lst xs) \/
  ∃(o:Obj) (q:Ah) (n:Nat),K.lookup a=some o/\o.cls=.type "list" /\ o.dict=none/\o.data=.seq q n/\q.size<=sizeLine/\Vals xs q.toList
def SqT(K:Af)(H:Hp)(a:Au)(xs:A0):Prop :=
 Rd H a (.tup xs) \/
  ∃(o:Obj) (q:Ah) (n:Nat),K.lookup a=some o/\o.cls=.type "tuple" /\ o.data=.seq q n/\q.size<=sizeLine/\Vals xs q.toList
def absV:As->Option V
 | .none=>some .non
 | .bool b=>some (.bl b)
 | .int i _=>some (.int i)
 | .str x _=>some (.str x)
 | .bytes b _=>some (.byt b)
 | .float b _=>some (.flt b)
 | .ref a=>some (.ref a)
 | .type n=>some (.ty n)
 | _=>none
def RelV.abs{x:V}{u:As}(r:RelV x u):absV u=some x:=by
 cases x with
 | non=>cases r;rfl
 | bl _=>cases r;rfl
 | int _=>obtain ⟨t,rfl⟩:=r;rfl
 | str _=>obtain ⟨t,rfl⟩:=r;rfl
 | byt _=>obtain ⟨t,rfl⟩:=r;rfl
 | flt _=>obtain ⟨t,rfl⟩:=r;rfl
 | ref _=>cases r;rfl
 | ty _=>cases r;rfl
def RelV.inj{x y:V}{u:As}(r:RelV x u)(q:RelV y u):x=y:=Option.some.inj (r.abs.symm.trans q.abs)
theorem Vals.inj:∀{xs ys:A0} {q:Ag},Vals xs q->Vals ys q->xs=ys
 | _,_,_,.nil,.nil=>rfl
 | _,_,_,.cons r t,.cons C t'=>by rw [r.inj C,Vals.inj t t']
section
variable {X:Cx}{pins:Ac}{σ:St}{H:Hp}{s:Aq}{a:Au}{xs ys:A0}
def SqL.of(h:H a=some (.lst xs)):SqL K H a xs:=.inl (.inl h)
def SqT.of(h:H a=some (.tup xs)):SqT K H a xs:=.inl (.inl h)
def Inv.list(I:Inv X pins σ H s)(h:SqL X.K H a xs):∃q:Ag,Vals xs q/\PlainL s.heap a q.toArray/\xs.length<=sizeLine:=by
 rcases h with h | ⟨o,q,n,hk,hc,hd,hs,hz,r⟩
 ·obtain ⟨z,q,n,r,e⟩:=h.ok I.hok
  exact ⟨q,r,⟨_,n,e,rfl,rfl,rfl⟩,z⟩
 ·refine ⟨q.toList,r,⟨o,n,I.kIn a o hk,hc,hd,by simpa using hs⟩,?_⟩
  have e:=r.length;simp only [Qbs] at e;lia
def Inv.tuple(I:Inv X pins σ H s)(h:SqT X.K H a xs):∃q:Ag,Vals xs q/\IsTup s.heap a q.toArray/\xs.length<=sizeLine:=by
 rcases h with h | ⟨o,q,n,hk,hc,hs,hz,r⟩
 ·obtain ⟨z,q,r,p⟩:=h.ok I.hok
  exact ⟨q,r,p.tup,z⟩
 ·refine ⟨q.toList,r,⟨o,I.kIn a o hk,hc,n,by simpa using hs⟩,?_⟩
  have e:=r.length;simp only [Qbs] at e;lia
def Inv.list_inj(I:Inv X pins σ H s)(h:SqL X.K H a xs)(h':SqL X.K H a ys):xs=ys:=by
 obtain ⟨q,r,⟨o,n,e,_,_,d⟩,_⟩:=I.list h;obtain ⟨its',G,⟨o',J,C,_,_,d'⟩,_⟩:=I.list h';rw [e] at C;cases C;rw [d] at d';injection d' with D _;have:q=its':=by simpa using congrArg Array.toList D
 subst this;exact r.inj G
def Inv.tuple_inj(I:Inv X pins σ H s)(h:SqT X.K H a xs)(h':SqT X.K H a ys):xs=ys:=by
 obtain ⟨q,r,⟨o,e,_,n,d⟩,_⟩:=I.tuple h;obtain ⟨its',G,⟨o',C,_,J,d'⟩,_⟩:=I.tuple h';rw [e] at C;cases C;rw [d] at d';injection d' with D _;have:q=its':=by simpa using congrArg Array.toList D
 subst this;exact r.inj G
end
abbrev Cx.wish(X:Cx)(E:Ab):Cx:={ X with xe:=E }
abbrev Cx.nox(X:Cx):Cx:=X.wish fun _ _=>False
theorem Cx.Ok.wish{X:Cx}(ok:X.Ok)(E:Ab):(X.wish E).Ok :=
 ⟨ok.mod,ok.kind,ok.glob,ok.blt,ok.above,ok.inj,ok.has,ok.cab,ok.hd,ok.frames,ok.stk,ok.exf,ok.bs,ok.bsz,ok.noex,ok.exfs,ok.funs,ok.frf⟩
theorem Cx.Ok.unwish{X:Cx}{E:Ab}(ok:(X.wish E).Ok):X.Ok :=
 ⟨ok.mod,ok.kind,ok.glob,ok.blt,ok.above,ok.inj,ok.has,ok.cab,ok.hd,ok.frames,ok.stk,ok.exf,ok.bs,ok.bsz,ok.noex,ok.exfs,ok.funs,ok.frf⟩
section
variable {X:Cx}{pins:Ac}{σ:St}{H:Hp}{s:Aq}{E:Ab}
def Inv.wish(I:Inv X pins σ H s)(E:Ab):Inv (X.wish E) pins σ H s:=⟨I.ok.wish E,I.os,I.bare,I.base,I.loc,I.cell,I.free,I.freeC,I.pin,I.hok,I.len⟩
def Inv.unwish(I:Inv (X.wish E) pins σ H s):Inv X pins σ H s:=⟨I.ok.unwish,I.os,I.bare,I.base,I.loc,I.cell,I.free,I.freeC,I.pin,I.hok,I.len⟩
def SP.unwish{D:Ends}{f:Flow}{s':Aq}(h:SP (X.wish E) pins D f s'):SP X pins D f s':=by
 cases f with
 | next=>obtain ⟨C,H',I,q⟩:=h;exact ⟨C,H',I.unwish,q⟩
 | brk=>obtain ⟨C,H',I,q⟩:=h;exact ⟨C,H',I.unwish,q⟩
 | cont=>obtain ⟨C,H',I,q⟩:=h;exact ⟨C,H',I.unwish,q⟩
 | ret u=>obtain ⟨v,C,H',I,r,q⟩:=h;exact ⟨v,C,H',I.unwish,r,q⟩
theorem PSs.nox{st:List Aw}{t:TS}(h:PSs X.nox st t):PSs X st t:=fun pins s σ H D I hw =>
 Qc6 (h pins s σ H D (I.wish _) hw) (fun _ _ q=>q.unwish) fun _ _ z=>False.elim z
end
section
variable {X:Cx}{st:Aw}{rest:List Aw}{t u:TS}{e:Av}{te:TE}{pos:Pos}
def Zji:TS:=fun D σ H=>D.nx σ H
def Y9(t u:TS):TS:=fun D σ H=>t { D with nx:=u D } σ H
def Zgn:PSs X [] Zji:=fun _ _ σ H _ I h=>Qgb ⟨σ,H,I,h⟩
def Zde(h1:PS X st t)(h2:PSs X rest u):PSs X (st::rest) (Y9 t u):=by
 intro pins s σ H D I h;refine wpAny_execs_cons (thn (h1 pins s σ H { D with nx:=u D } I h) fun f J q=>?_);cases f with
 | next =>
  obtain ⟨C,H',G,q⟩:=q;exact h2 pins J C H' D G q
 | ret v=>exact q
 | brk=>exact q
 | cont=>exact q
def Zgo(h1:PS X st t):PSs X [st] t:=by
 intro pins s σ H D I h;refine wpAny_execs_cons (thn (h1 pins s σ H D I h) fun f C q=>?_);cases f with
 | next=>exact Qgb q
 | ret v=>exact q
 | brk=>exact q
 | cont=>exact q
def Inv.quiet{σ:St}{H:Hp}(I:Inv X z σ H s):interactive X.env=false:=by simp [interactive,I.ok.kind]
def Zjj(te:TE):TS:=fun D σ H=>te σ H fun _ H1=>D.nx σ H1
def Zgp(he:PE X e te)(hs:swapsWith e none pos.line X.env=pure false:=by rfl):PS X (.Expr e pos) (Zjj te):=by
 intro pins s σ H D I h;exact wpAny_Expr_any (thn (he pins s σ H _ I h) fun v J ⟨x,H1,C,G,q⟩=>⟨σ,H1,C,q⟩) I.quiet hs
def tRet(te:TE):TS:=fun D σ H=>te σ H D.rt
def ps_ret(he:PE X e te):PS X (.Return (some e) pos) (tRet te):=by
 intro pins s σ H D I h;exact wpAny_Return_some (thn (he pins s σ H _ I h) fun v J ⟨x,H1,G,q,C⟩=>⟨x,σ,H1,G,q,C⟩)
def tIfS(c:TT)(t u:TS):TS:=fun D σ H=>c σ H fun b H1=>if b=true then t D σ H1 else u D σ H1
def ps_if{c:Av}{a b:List Aw}{tc:TT}(hc:PT X c tc)(ha:PSs X a t)(hb:PSs X b u):PS X (.If c a b pos) (tIfS tc t u):=by
 intro pins s σ H D I h;refine wpAny_If (thn (hc pins s σ H _ I h) fun d G ⟨H1,C,q⟩=>?_);cases d with
 | true=>exact ha pins G σ H1 D C q
 | false=>exact hb pins G σ H1 D C q
def Zfe:TS:=fun _ _ _=>False
def Zdf:PS X st Zfe:=fun _ _ _ _ _ _ h=>h.elim
end
abbrev TG:=V->St->Hp->(Az)->Prop
abbrev TGs:=A0->St->Hp->(Az)->Prop
def PG(X:Cx)(q:Av)(t:TG):Prop :=
 ∀(pins:Ac) (s:Aq) (σ:St) (H:Hp) (v:V) (u:As) (Q:Az),Inv X pins σ H s->RelV v u->t v σ H Q ->
  A2 X (assign q X.env u) (fun _ s'=>∃C H',Inv X pins C H' s'/\Q C H') X.xe s
def PGs(X:Cx)(ts:Al)(t:TGs):Prop :=
 ∀(pins:Ac) (s:Aq) (σ:St) (H:Hp) (vs:A0) (C:Ag) (Q:Az),Inv X pins σ H s->Vals vs C->t vs σ H Q ->
  A2 X (assignInOrder ((assignEach ts X.env).map (·.2)) C) (fun _ s'=>∃q H',Inv X pins q H' s'/\Q q H') X.xe s
section
variable {X:Cx}{pos:Pos}
def zk(i:Nat):TG:=fun v σ H Q=>Q (σ.set i (some v)) H
theorem ue(hN:X.N.Nodup)(hi:X.N[i]?=some x)(hx:Loc X.env.scope x)(hf:X.fn x=true\/X.env.scope.names.lookup x=some .local:=by first | exact .inl rfl | exact .inr rfl | assumption):PG X (.Name x pos) (zk i):=by
 intro pins s σ H v u Q I r h;exact wpAny_assign_Name (XC I hN hi hx r (fun s' q=>⟨_,H,q,h⟩) hf)
def gNil:TGs:=fun vs σ H Q=>vs=[]/\Q σ H
def uf(t:TG)(u:TGs):TGs:=fun vs σ H Q=>∃v r,vs=v::r/\t v σ H fun q H'=>u r q H' Q
def Zgq:PGs X [] gNil:=by
 intro pins s σ H vs q Q I r h;obtain ⟨e,h⟩:=h;subst e;cases r;exact assignInOrder_nil ⟨σ,H,I,h⟩
def ky{t:TG}{u:TGs}(h1:PG X e t)(h2:PGs X B u)
  (hs:(assignEach (e::B) X.env).map (·.2)=assign e X.env::(assignEach B X.env).map (·.2):=by rfl):PGs X (e::B) (uf t u):=by
 intro pins s σ H vs Y Q I r h;obtain ⟨v,O,e1,h⟩:=h;subst e1;cases r with
 | cons r C =>
  rw [hs];refine Qgk (thn (h1 pins s σ H _ _ _ I r h) fun _ J ⟨q,H1,G,D⟩=>?_);exact h2 pins J q H1 _ _ Q G C D
def gTup(K:Af)(n:Nat)(t:TGs):TG:=fun v σ H Q=>∃a xs,v=.ref a/\SqT K H a xs/\xs.length=n/\t xs σ H Q
def pg_tup{k:Nat}{t:TGs}(hc:X.calm=true)(h:PGs X B t)
  (hn:(assignEach B X.env).length=n:=by rfl) (q:(assignEach B X.env).findIdx? (·.1)=none:=by rfl):PG X (.Tuple B k pos) (gTup X.K n t):=by
 intro pins s σ H v u Q I r hw;obtain ⟨a,xs,e1,J,hl,hw⟩:=hw;subst e1;cases r;obtain ⟨D,C,G,hz⟩:=I.tuple J;refine assign_Tuple_tuple (I.ok.hd hc) G (by simp [hn,<-hl,C.length]) q fun h' hx=>?_;have O:Inv X pins σ H { s with heap:=h' }:=I.kept (t':=s.toks) fun b o e=>hx b o (Qbe (Qap e)) e;exact h pins _ σ H xs _ Q O (by simpa using C) hw
def Zjk(te:TE)(g:TG):TS:=fun D σ H=>te σ H fun x H1=>g x σ H1 D.nx
def ps_asg{tg:Av}{te:TE}{g:TG}(he:PE X e te)(hg:PG X tg g)(hs:swapsWithSole [tg] e pos.line X.env=pure false:=by rfl)(hw:swappedStores [tg] e X.env=pure none:=by rfl)
  (h1:(assignEach [tg] X.env).map (·.2)=[assign tg X.env]:=by rfl):PS X (.Assign [tg] e pos) (Zjk te g):=by
 intro pins s σ H D I h;refine wpAny_Assign_stores (thn (he pins s σ H _ I h) fun v O ⟨x,H1,J,C,G⟩=>?_) hs hw;rw [h1];exact thn (hg pins O σ H1 x v _ J C G) fun _ Y q=>q
theorem ps_set{te:TE}(hN:X.N.Nodup)(hi:X.N[i]?=some x)(hx:Loc X.env.scope x)(he:PE X e te)(hs:swapsWith e (some (.Name x p)) pos.line X.env=pure false:=by rfl)(hf:X.fn x=true\/X.env.scope.names.lookup x=some .local:=by first | exact .inl rfl | exact .inr rfl | assumption) :
  PS X (.Assign [.Name x p] e pos) (Zjk te (zk i)):=by
 intro pins s σ H D I h;refine wpAny_Assign_Name (thn (he pins s σ H _ I h) fun v Y ⟨y,H1,J,C,G⟩=>?_) hs;exact XC J hN hi hx C (fun O q=>⟨_,H1,q,G⟩) hf
def tPar(i j:Nat)(ta:TA):TS:=fun D σ H=>ta σ H fun vs H1=>∃v w,vs=[v,w]/\D.nx ((σ.set i (some v)).set j (some w)) H1
def ps_par{j:Nat}{y:Str}{a b:Av}{ta:TA}{py pt:Pos}{kt k2 C:_}(hc:X.calm=true)(hN:X.N.Nodup)(hi:X.N[i]?=some x)(hj:X.N[j]?=some y)(Y:i≠j)
  (hx:X.env.scope.names.lookup x=some .local) (hy:X.env.scope.names.lookup y=some .local) (ha:PA X [a,b] ta)
  (hw:swappedStores [.Tuple [.Name x A,.Name y py] kt pt] (.Tuple [a,b] k2 C) X.env=pure (some [x,y]))
  (hs:swapsWithSole [.Tuple [.Name x A,.Name y py] kt pt] (.Tuple [a,b] k2 C) pos.line X.env=pure false:=by rfl) :
  PS X (.Assign [.Tuple [.Name x A,.Name y py] kt pt] (.Tuple [a,b] k2 C) pos) (tPar i j ta):=by
 intro pins s σ H D I h;refine Qaa (wpAny_standAt ?_);rw [hs];refine Qaa (Qad ?_);refine Qaa (Tuple_ (thn (ha _ pins s σ H _ I h) fun us O ⟨vs,H1,I1,r1,q1⟩=>?_));obtain ⟨v,w,e1,q1⟩:=q1;subst e1;obtain ⟨J,G,rfl,rv,Z⟩:∃J G,us=[J,G]/\RelV v J/\RelV w G:=by
  cases r1 with
  | cons p q =>
   cases q with
   | cons p' q' =>
    cases q';exact ⟨_,_,rfl,p,p'⟩
 refine Qa9 ?_ (zi);have I2:Inv X pins σ H1 { O with heap:=O.heap.push { cls:=.type "tuple",data:=.seq [J,G].toArray } }:=I1.kept (t':=O.toks) fun b o e=>Qab _ e;rw [hw];refine Qaa (Qad ?_);refine Qaa (Qc1 (Qaa (unpackItems_tuple (items:=#[J,G]) (I.ok.hd hc) (IsTup.new O.heap _) fun h' hx'=>?_)));have I3:=I2.kept (h':=h') (t':=O.toks) fun b o e=>hx' b o (Qbe (Qap e)) e;refine Qaa (Qgk (wpAny_bindName (XC I3 hN hj (.inl hy) Z (fun s2 I4=>?_) (.inr hy))));refine Qgk (wpAny_bindName (XC I4 hN hi (.inl hx) rv (fun s3 I5=>assignInOrder_nil (Qad ?_)) (.inr hx)));rw [List.set_comm _ _ (Qd5 Y)] at I5;exact ⟨_,H1,I5,q1⟩
def ug(c:TT)(tb:TS):TS:=fun D σ H=>∃W:Nat->St->Hp->Prop,(∃m,W m σ H)/\∀m σ H,W m σ H ->
 c σ H fun b H1=>if b=true then ∃N:Az,(∀q H',N q H'->∃C,C < m/\W C q H')/\tb { D with nx:=N,ct:=N,bk:=D.nx } σ H1 else D.nx σ H1
def Zdg{c:Av}{body:List Aw}{tc:TT}{tb:TS}(hp:PassesOwn (model X.prog X.w) X.A X.env X.xe)(hc:PT X c tc)(hb:PSs X body tb):PS X (.While c body [] pos) (ug tc tb):=by
 intro pins s σ H D I h;obtain ⟨W,⟨m0,w0⟩,O⟩:=h;refine wpAny_While (codeAny_whileLoop (fun n s'=>∃J H',Inv X pins J H' s'/\W n J H') ?_ m0 ⟨σ,H,I,w0⟩);rintro n s1 ⟨C,H1,I1,w1⟩;refine Qd7 hp (thn (hc pins s1 C H1 _ I1 (O n C H1 w1)) fun b s2 ⟨H2,I2,Z⟩=>?_);cases b with
 | true =>
  obtain ⟨N,hN,Z⟩:=Z;refine Qd7 hp (thn (hb pins s2 C H2 _ I2 Z) fun f s3 Y=>?_);cases f with
  | next =>
   obtain ⟨q,G,I3,n3⟩:=Y;obtain ⟨m',hm,w3⟩:=hN q G n3;exact ⟨m',hm,q,G,I3,w3⟩
  | cont =>
   obtain ⟨q,G,I3,n3⟩:=Y;obtain ⟨m',hm,w3⟩:=hN q G n3;exact ⟨m',hm,q,G,I3,w3⟩
  | brk=>exact Y
  | ret v=>exact Y
 | false =>
  exact Qgb ⟨C,H2,I2,Z⟩
end
structure It where
 go:Nat->Hp->Prop
 yld:Nat->Hp->V->Hp->Prop
 stop:Nat->Hp->Prop
def G9(X:Cx)(pins:Ac)(H:Hp)(b:Au):Prop :=
 H b=none/\b≠X.env.locals/\b∉X.fs/\(b∈X.ex\/X.s₀.heap.objs.size<=b)/\(∀x c,X.env.cells.lookup x=some c->c≠b)/\∀p∈X.pn++pins,p.1≠b
def Inv.fpOk{X:Cx}{pins:Ac}{σ:St}{H H':Hp}{b:Au}(I:Inv X pins σ H s)(hb:s.heap.objs.size<=b)(hn:H' b=none):G9 X pins H' b:=by
 refine ⟨hn,Qeb (Qbj I.lt hb),I.nofs hb,.inr (Qa8 I.sz hb),fun x c e z=>?_,fun p hp z=>?_⟩
 ·obtain ⟨v,q⟩:=I.cell x c e
  exact absurd (Qbj q.lt (by rw [z];exact hb)) (Qbz _)
 ·exact absurd (Qbj (Qap (I.pin p hp).1) (by rw [z];exact hb)) (Qbz _)
structure Turn(P:An)(w:Ar)(K:Af)(tg:Av)(J:It)(fp:List Au)(it:Au)(tn:Nat->Heap->Prop):Prop where
 mem:it∈fp
 obj:∀i h,tn i h->∀b∈fp,∃o,h.get? b=some o/\∀v,o.data≠.cell v
 keep:∀i h h',tn i h->(∀b∈fp,∀o,h.get? b=some o->h'.get? b=some o)->tn i h'
 item:∀(X:Cx),X.prog=P->X.w=w->X.K=K->X.calm=true->∀(i:Nat) (pins:Ac) (s:Aq) (σ:St) (H:Hp) (E:Ab),Inv X pins σ H s->(∀b∈fp,G9 X pins H b)->tn i s.heap->J.go i H ->
  wpAny (model P w) X.A (pyNext (.ref it)) (fun r s1=>∃u,r=some u /\
   wpAny (model P w) X.A (letOwnedTupleGo tg (.ref it) u) (fun _ s2=>∃x H',Inv X pins σ H' s2/\RelV x u/\J.yld i H x H'/\tn (i + 1) s2.heap/\∀b∈fp,H' b=none) E s1) E s
 done:∀(X:Cx),X.prog=P->X.w=w->X.K=K->X.calm=true->∀(i:Nat) (pins:Ac) (s:Aq) (σ:St) (H:Hp) (E:Ab),Inv X pins σ H s->(∀b∈fp,G9 X pins H b)->tn i s.heap->J.stop i H ->
  wpAny (model P w) X.A (pyNext (.ref it)) (fun r s1=>r=none/\Inv X pins σ H s1) E s
 self:∀(A:Ao) (i:Nat) (s:Aq) (Q:Ab) (E:Ab),tn i s.heap->Q (.ref it) s->wpAny (model P w) A (pyIter (.ref it)) Q E s
abbrev TI:=St->Hp->(It->Hp->Prop)->Prop
def PIE(X:Cx)(pins:Ac)(σ:St)(tg:Av)(R:It->Hp->Prop)(q:As)(D:Aq):Prop :=
 ∃(it:Au) (fp:List Au) (C:Nat->Heap->Prop) (J:It) (H':Hp),q=.ref it/\Inv X pins σ H' D/\Turn X.prog X.w X.K tg J fp it C/\C 0 D.heap/\(∀b∈fp,G9 X pins H' b)/\R J H'
def PI(X:Cx)(tg iter:Av)(wi:TI):Prop :=
 ∀(pins:Ac) (s:Aq) (σ:St) (H:Hp) (R:It->Hp->Prop),Inv X pins σ H s->wi σ H R ->
  A2 X (eval iter X.env) (fun v q=>A2 X (pyIter v) (PIE X pins σ tg R) X.xe q) X.xe s
def j4{M:Model}{A:Ao}{E:Ab}{tg:Av}{it:Au}{u:As}{o:Obj}{n:String}{vs:Ah}{Q:Unit->Shared->Prop}(ho:s.heap.get? it=some o)(hc:o.cls=.type n)(hd:o.data=.fields vs)
    (hn:["enumerate","zip","dict_itemiterator","dict_reverseitemiterator","odict_iterator","itertools.zip_longest","itertools.pairwise"].contains n=false) (q:Q () s):wpAny M A (letOwnedTupleGo tg (.ref it) u) Q E s:=by
  cases tg <;> first
    | exact Qad q
    | (cases u <;> first
        | exact Qad q
        | (refine Qaa (wpAny_load ho ?_)
           rw [hc,hd];show wpAny M A (if (["enumerate","zip","dict_itemiterator","dict_reverseitemiterator","odict_iterator","itertools.zip_longest","itertools.pairwise"].contains n && vs[0]? == some (rawInt _))=true then _ else _) Q E s;rw [Qaw (by grind)];exact Qad q))
def Itl(K:Af)(a:Au):It :=
 ⟨fun i H=>∃xs x,SqL K H a xs/\xs[i]?=some x,fun i H x H'=>H'=H/\∀xs,SqL K H a xs->xs[i]?=some x,fun i H=>∃xs,SqL K H a xs/\xs.length<=i⟩
def Itt(K:Af)(a:Au):It :=
 ⟨fun i H=>∃xs x,SqT K H a xs/\xs[i]?=some x,fun i H x H'=>H'=H/\∀xs,SqT K H a xs->xs[i]?=some x,fun i H=>∃xs,SqT K H a xs/\xs.length<=i⟩
def Itr(lo:Int)(n:Nat):It:=⟨fun i _=>i < n,fun i H x H'=>H'=H/\x=.int (lo + i),fun i _=>n<=i⟩
def uh{w:Ar}{tg:Av}(a it:Au):Turn P w K tg (Itl K a) [it] it (fun i h=>h.IsListIter it a i) where
 mem:=by simp
 obj:=fun i h st b hb=>by
  have e:b=it:=by simpa using hb
  subst e;obtain ⟨o,e,c,d⟩:=st;exact ⟨o,e,fun v z=>by rw [d] at z;cases z⟩
 keep:=fun i h h' st k=>st.at fun o e=>k it (by simp) o e
 item:=by
  intro X hP hw hK hc i pins s σ H E I hf st hg;subst hP hw hK;obtain ⟨xs,x,C,hx⟩:=hg;obtain ⟨J,D,p,hz⟩:=I.list C;obtain ⟨u,hu,ru⟩:=D.get hx;obtain ⟨f0,G,f2,Z,Y,O⟩:=hf it (by simp);refine wpAny_pyNext_list_item st p.isList (x:=u) (by simpa using hu) fun h' q sb=>?_;have I1:Inv X pins σ H { s with heap:=h' }:=I.turned (t':=s.toks) (fun b o hb e=>(sb.2 b hb).trans e) f0 G Z Y O;obtain ⟨o,e,c,d⟩:=id q;exact ⟨u,rfl,j4 (s:={ s with heap:=h' }) e c d (by decide) ⟨x,H,I1,ru,⟨rfl,fun ys hy=>by rw [I.list_inj hy C];exact hx⟩,q,fun b hb=>(hf b hb).1⟩⟩
 done:=by
  intro X hP hw hK hc i pins s σ H E I hf st hg;subst hP hw hK;obtain ⟨xs,C,hx⟩:=hg;obtain ⟨J,D,p,hz⟩:=I.list C;obtain ⟨f0,G,f2,Z,Y,O⟩:=hf it (by simp);have hl:=D.length;exact wpAny_pyNext_list_end (I.ok.hd hc) st p.isList (by simp;lia) fun h' eb=>⟨rfl,I.turned (t':=s.toks) (fun b o hb e=>eb b o hb e) f0 G Z Y O⟩
 self:=fun _ _ _ _ _ st h=>wpAny_pyIter_listiter st h
def wR{w:Ar}{tg:Av}(a it:Au):Turn P w K tg (Itt K a) [it] it (fun i h=>h.IsTupleIter it a i) where
 mem:=by simp
 obj:=fun i h st b hb=>by
  have e:b=it:=by simpa using hb
  subst e;obtain ⟨o,e,c,d⟩:=st;exact ⟨o,e,fun v z=>by rw [d] at z;cases z⟩
 keep:=fun i h h' st k=>st.at fun o e=>k it (by simp) o e
 item:=by
  intro X hP hw hK hc i pins s σ H E I hf st hg;subst hP hw hK;obtain ⟨xs,x,D,hx⟩:=hg;obtain ⟨q,G,p,hz⟩:=I.tuple D;obtain ⟨u,hu,ru⟩:=G.get hx;obtain ⟨f0,J,f2,Z,Y,O⟩:=hf it (by simp);refine wpAny_pyNext_tuple_item st (show s.heap.IsTuple a q.toArray from p) (x:=u) (by simpa using hu) fun h' C sb=>?_;have I1:Inv X pins σ H { s with heap:=h' }:=I.turned (t':=s.toks) (fun b o hb e=>(sb.2 b hb).trans e) f0 J Z Y O;obtain ⟨o,e,c,d⟩:=id C;exact ⟨u,rfl,j4 (s:={ s with heap:=h' }) e c d (by decide) ⟨x,H,I1,ru,⟨rfl,fun ys hy=>by rw [I.tuple_inj hy D];exact hx⟩,C,fun b hb=>(hf b hb).1⟩⟩
 done:=by
  intro X hP hw hK hc i pins s σ H E I hf st hg;subst hP hw hK;obtain ⟨xs,D,hx⟩:=hg;obtain ⟨q,G,p,hz⟩:=I.tuple D;obtain ⟨f0,J,f2,Z,Y,O⟩:=hf it (by simp);have hl:=G.length;exact wpAny_pyNext_tuple_end (I.ok.hd hc) st (show s.heap.IsTuple a q.toArray from p) (by simp;lia) fun h' eb=>⟨rfl,I.turned (t':=s.toks) (fun b o hb e=>eb b o hb e) f0 J Z Y O⟩
 self:=fun _ _ _ _ _ st h=>wpAny_pyIter_tupleiter st h
def wU{w:Ar}{tg:Av}(it:Au)(lo:Int)(n:Nat):Turn P w K tg (Itr lo n) [it] it (fun i h=>IsRangeIter h it (lo + (i:Nat) * 1) ((n:Int) - (i:Nat)) 1) where
 mem:=by simp
 obj:=fun i h st b hb=>by
  grind
 keep:=fun i h h' st k=>k it (by simp) _ st
 item:=by
  intro X Y hw O hc i pins s σ H E I hf st hg;subst Y hw O;obtain ⟨f0,C,f2,J,G,D⟩:=hf it (by simp);have W:=Walks.range (prog:=X.prog) (w:=X.w) (I.ok.hd hc) it lo 1 n;refine W.item i s _ _ hg st fun v h' tk hv q kk=>?_;obtain ⟨t,rfl⟩:=hv;have I1:Inv X pins σ H { s with heap:=h',toks:=tk }:=I.turned (fun b o hb e=>kk b o (by simpa using hb) e) f0 C J G D;refine ⟨_,rfl,j4 (s:={ s with heap:=h',toks:=tk }) (n := "range_iterator") q rfl rfl (by decide) ⟨.int (lo + i),H,I1,⟨t,?_⟩,⟨rfl,rfl⟩,q,fun b hb=>(hf b hb).1⟩⟩;rw [Int.mul_one]
 done:=by
  intro X Y hw O hc i pins s σ H E I hf st hg;subst Y hw O;obtain ⟨f0,C,f2,J,G,D⟩:=hf it (by simp);exact wpAny_pyNext_range_end (I.ok.hd hc) st (by have:n<=i:=hg;lia) fun h' Z=>⟨rfl,I.turned (t':=s.toks) (fun b o hb e=>Z b o hb e) f0 C J G D⟩
 self:=fun _ _ _ _ _ st h=>wpAny_pyIter_rangeiter st h
section
variable {X:Cx}{tg:Av}
def uk(K:Af)(tl:TE):TI:=fun σ H R=>tl σ H fun x H1=>∃a,x=.ref a/\(∃xs,SqL K H1 a xs)/\R (Itl K a) H1
def iTup(K:Af)(tl:TE):TI:=fun σ H R=>tl σ H fun x H1=>∃a,x=.ref a/\(∃xs,SqT K H1 a xs)/\R (Itt K a) H1
def Zgr{l:Av}{tl:TE}(hl:PE X l tl):PI X tg l (uk X.K tl):=by
 intro pins s σ H R I h;refine thn (hl pins s σ H _ I h) fun v D ⟨x,H1,C,J,O⟩=>?_;obtain ⟨a,e,⟨xs,Y⟩,q⟩:=O;subst e;cases J;obtain ⟨G,Z,p,hz⟩:=C.list Y;refine Qeu p.isList ?_;refine ⟨D.heap.objs.size,[D.heap.objs.size],_,_,H1,rfl,C.kept (t':=D.toks) fun b o e=>Qab _ e,uh a _,⟨_,Qak _ rfl,rfl,rfl⟩,fun b hb=>?_,q⟩;have e:b=D.heap.objs.size:=by simpa using hb
 subst e;exact C.fpOk (Qag _) (C.hok.fresh (Qag _))
def pi_tup{l:Av}{tl:TE}(hl:PE X l tl):PI X tg l (iTup X.K tl):=by
 intro pins s σ H R I h;refine thn (hl pins s σ H _ I h) fun v C ⟨x,H1,D,J,O⟩=>?_;obtain ⟨a,e,⟨xs,Y⟩,q⟩:=O;subst e;cases J;obtain ⟨G,Z,p,hz⟩:=D.tuple Y;refine Qek (show C.heap.IsTuple a G.toArray from p) ?_;refine ⟨C.heap.objs.size,[C.heap.objs.size],_,_,H1,rfl,D.kept (t':=C.toks) fun b o e=>Qab _ e,wR a _,⟨_,Qak _ rfl,rfl,rfl⟩,fun b hb=>?_,q⟩;have e:b=C.heap.objs.size:=by simpa using hb
 subst e;exact D.fpOk (Qag _) (D.hok.fresh (Qag _))
def Zdh{σ:St}{H:Hp}{R:It->Hp->Prop}{E:Ab}{lo hi:Int}{t u v:Tok}{tk:Nat}(I:Inv X z σ H s)(h1:-(2 ^ 62)<=lo)(h2:lo < 2 ^ 62)(D:-(2 ^ 62)<=hi)(G:hi < 2 ^ 62)
  (q:R (Itr lo (hi - lo).toNat) H):A2 X (pyIter (.ref s.heap.objs.size)) (PIE X z σ tg R) E { s with heap:=s.heap.push { cls:=.type "range",data:=.fields #[.int lo t,.int hi u,.int 1 v] },toks:=tk }:=by
 refine wpAny_pyIter_range (IsRange.new ..) (small_one h1 h2 D G) ?_;have C:Inv X z σ H { s with heap:=s.heap.push { cls:=.type "range",data:=.fields #[.int lo t,.int hi u,.int 1 v] },toks:=tk }:=I.kept fun b o e=>Qab _ e;refine ⟨(s.heap.push { cls:=.type "range",data:=.fields #[.int lo t,.int hi u,.int 1 v] }).objs.size,[(s.heap.push { cls:=.type "range",data:=.fields #[.int lo t,.int hi u,.int 1 v] }).objs.size],_,_,H,rfl,
  C.kept (t':=tk) fun b o e=>Qab _ e,wU _ lo (hi - lo).toNat,?_,fun b hb=>?_,q⟩
 ·have e1:lo + ((0:Nat):Int) * 1=lo:=by simp
  have e2:(((hi - lo).toNat:Nat):Int) - ((0:Nat):Int)=Builtin.Range.rangeSize lo hi 1:=by rw [rangeSize_one];split <;> lia
  rw [e1,e2];exact Qak _ rfl
 ·have e:b=(s.heap.push { cls:=.type "range",data:=.fields #[.int lo t,.int hi u,.int 1 v] }).objs.size:=by simpa using hb
  subst e;exact C.fpOk (Qag _) (C.hok.fresh (Qag _))
def Zgs(ta:TA):TI:=fun σ H R=>ta σ H fun vs H1=>∃j:Int,vs=[.int j]/\-(2 ^ 62)<=j/\j < 2 ^ 62/\R (Itr 0 j.toNat) H1
def um {a:Av} {ta:TA}  (hg:Gl X "range") (hm:X.mg "range" = none) (ha:PA X [a] ta) (hs:starEach [a] X.env=[(false,eval a X.env)]:=by rfl):PI X tg (.Call (.Name "range" p) [a] [] A) (Zgs ta):=by
 intro pins s σ H R I h;refine Call_ (WN I hg hm boot_range (Qb9 (thn (ha A pins s σ H _ I h) fun Y Z ⟨vs,H1,O,J,C⟩=>?_) hs rfl));obtain ⟨j,e,C,D,q⟩:=C;subst e;cases J with
 | cons r G =>
  cases G;obtain ⟨t,rfl⟩:=r;exact call_range_1 (Zdh O (by lia) (by lia) C D (by simpa using q))
def tFor(wi:TI)(g:TG)(tb:TS):TS:=fun D σ H=>wi σ H fun J H1=>∃W:Nat->Nat->St->Hp->Prop,(∃m,W 0 m σ H1)/\∀i m σ H,W i m σ H ->
 (J.stop i H/\D.nx σ H)\/(J.go i H/\∃N:Az,(∀q H',N q H'->∃G,G < m/\W (i + 1) G q H')/\∀x H',J.yld i H x H'->g x σ H' fun C H2=>tb { D with nx:=N,ct:=N,bk:=D.nx } C H2)
def j5(fp:List Au)(h:Heap):Ac:=fp.filterMap fun b=>(h.get? b).map fun o=>(b,o)
def W8{fp:List Au}{b:Au}{o:Obj}(hb:b∈fp)(e:h.get? b=some o):(b,o)∈j5 fp h:=Qgl.mpr ⟨b,hb,by rw [e];rfl⟩
def uo{fp:List Au}{p:Au × Obj}(hp:p∈j5 fp h):p.1∈fp/\h.get? p.1=some p.2:=by
 obtain ⟨b,hb,e⟩:=Qgl.mp hp;cases q:h.get? b with
 | none=>rw [q] at e;cases e
 | some o =>
  rw [q] at e;have C:(b,o)=p:=Option.some.inj e;subst C;exact ⟨hb,q⟩
theorem Inv.pinned{pins:Ac}{σ:St}{H:Hp}{fp:List Au}(I:Inv X pins σ H s)(hf:∀b∈fp,G9 X pins H b)(ho:∀b∈fp,∃o,s.heap.get? b=some o/\∀v,o.data≠.cell v):Inv X (pins++j5 fp s.heap) σ H s :=
 I.pins_of fun p hp=>(Qa4.mp hp).elim (fun z=>I.pin p (Qa3 _ z)) fun z=>by
  obtain ⟨hb,e⟩:=uo z;obtain ⟨f0,C,D,_⟩:=hf p.1 hb;obtain ⟨o,q,d⟩:=ho p.1 hb;rw [e] at q;cases q;exact ⟨e,f0,C,D,d⟩
def Inv.unpinned{pl:Ac}{σ:St}{H:Hp}(I:Inv X (z++pl) σ H s):Inv X z σ H s:=I.pins_of fun p hp=>I.pin p (Qa3 _ (Qb7 _ hp))
def ps_for{iter:Av}{body:List Aw}{wi:TI}{g:TG}{tb:TS}(hp:PassesOwn (model X.prog X.w) X.A X.env X.xe)(hc:X.calm=true)(hi:PI X tg iter wi)(hg:PG X tg g)(hb:PSs X body tb)
  (hs:∀x,foldedSetIterable iter X.env x=pure x:=by intro _;rfl):PS X (.For tg iter body [] p) (tFor wi g tb):=by
 intro pins s σ H D I h;refine wpAny_For (thn (hi pins s σ H _ I h) fun v s1 h1=>thn h1 fun itv s2 h2=>?_) hs;obtain ⟨it,fp,tn,J,H2,e,I2,T,st2,f2,W,⟨m0,w0⟩,turn⟩:=h2;subst e;have O:∀{H':Hp},(∀b∈fp,H' b=none)->∀b∈fp,G9 X pins H' b:=fun hn b hb=>⟨hn b hb,(f2 b hb).2⟩;refine codeAny_forLoop_any (fun n s'=>∃i Y H',Inv X pins Y H' s'/\tn i s'.heap/\(∀b∈fp,H' b=none)/\W i n Y H') ?_ m0 ⟨0,σ,H2,I2,st2,fun b hb=>(f2 b hb).1,w0⟩;rintro n s3 ⟨i,G,H3,I3,st3,fr3,w3⟩;rcases turn i n G H3 w3 with ⟨stop,qn⟩ | ⟨go,N,hN,step⟩
 ·refine Qd7 hp (thn (T.done X rfl rfl rfl hc i pins s3 G H3 X.xe I3 (O fr3) st3 stop) fun r s4 ⟨hr,I4⟩=>?_)
  subst hr;exact Qgb ⟨G,H3,I4,qn⟩
 ·refine Qd7 hp (thn (T.item X rfl rfl rfl hc i pins s3 G H3 X.xe I3 (O fr3) st3 go) fun r s4 ⟨u,hr,h4⟩=>?_)
  subst hr;refine Qd7 hp (thn h4 fun _ s5 ⟨x,H5,I5,r5,y5,st5,fr5⟩=>?_);have I5':=I5.pinned (O fr5) (T.obj _ _ st5);refine Qd7 hp (thn (hg _ s5 G H5 x u _ I5' r5 (step x H5 y5)) fun _ s6 ⟨σ6,H6,I6,q6⟩=>?_);refine Qd7 hp (thn (hb _ s6 σ6 H6 _ I6 q6) fun f s7 q7=>?_);have again:∀{q:St} {C:Hp},Inv X (pins++j5 fp s5.heap) q C s7->N q C->∃m,m < n/\∃i Y H',Inv X pins Y H' s7/\tn i s7.heap/\(∀b∈fp,H' b=none)/\W i m Y H':=fun {q C} Z n7=>by
   obtain ⟨m',hm,w7⟩:=hN q C n7;refine ⟨m',hm,i + 1,q,C,Z.unpinned,T.keep _ _ _ st5 fun b hb o e=>(Z.pin (b,o) (Qa3 _ (Qa3 _ (W8 hb e)))).1,fun b hb=>?_,w7⟩;obtain ⟨o,e,d⟩:=T.obj _ _ st5 b hb;exact (Z.pin (b,o) (Qa3 _ (Qa3 _ (W8 hb e)))).2.1
  cases f with
  | next=>obtain ⟨q,C,Z,n7⟩:=q7;exact again Z n7
  | cont=>obtain ⟨q,C,Z,n7⟩:=q7;exact again Z n7
  | brk=>obtain ⟨q,C,Z,q7⟩:=q7;exact ⟨q,C,Z.unpinned,q7⟩
  | ret v=>obtain ⟨x7,q,C,Z,r7,q7⟩:=q7;exact ⟨x7,q,C,Z.unpinned,r7,q7⟩
end
def Zdi{xs:A0}{g:TG}{tb:TS}{D:Ends}{σ:St}{H:Hp}(C:Nat->St->Hp->Prop)(Z:C 0 σ H)(hl:∀i σ H,i<=xs.length->C i σ H->SqL K H a xs)
  (hs:∀i x σ H,xs[i]?=some x->C i σ H->g x σ H fun G H2=>tb { D with nx:=C (i + 1),ct:=C (i + 1),bk:=D.nx } G H2) (hd:∀σ H,C xs.length σ H->D.nx σ H) :
  ∃W:Nat->Nat->St->Hp->Prop,(∃m,W 0 m σ H)/\∀i m σ H,W i m σ H ->
   ((Itl K a).stop i H/\D.nx σ H)\/((Itl K a).go i H/\∃N:Az,(∀I H',N I H'->∃O,O < m/\W (i + 1) O I H')/\∀x H',(Itl K a).yld i H x H'->g x σ H' fun G H2=>tb { D with nx:=N,ct:=N,bk:=D.nx } G H2):=by
 refine ⟨fun i m σ H=>m=xs.length - i/\i<=xs.length/\C i σ H,⟨xs.length,by simp,Qba _,Z⟩,?_⟩;rintro i m σ H ⟨rfl,hi,p⟩;have q:=hl i σ H hi p
 by_cases J:i < xs.length
 ·refine .inr ⟨⟨xs,xs[i],q,by simp [J]⟩,C (i + 1),fun I H' Y=>⟨xs.length - (i + 1),by lia,rfl,J,Y⟩,fun x H' y=>?_⟩
  obtain ⟨e,y⟩:=y;subst e;exact hs i x σ _ (y xs q) p
 ·have e:i=xs.length:=by lia
  subst e;exact .inl ⟨⟨xs,q,Qag _⟩,hd σ H p⟩
def qc{xs:A0}{g:TG}{tb:TS}{D:Ends}{σ:St}{H:Hp}(C:Nat->St->Hp->Prop)(Z:C 0 σ H)(hl:∀i σ H,i<=xs.length->C i σ H->SqT K H a xs)
  (hs:∀i x σ H,xs[i]?=some x->C i σ H->g x σ H fun G H2=>tb { D with nx:=C (i + 1),ct:=C (i + 1),bk:=D.nx } G H2) (hd:∀σ H,C xs.length σ H->D.nx σ H) :
  ∃W:Nat->Nat->St->Hp->Prop,(∃m,W 0 m σ H)/\∀i m σ H,W i m σ H ->
   ((Itt K a).stop i H/\D.nx σ H)\/((Itt K a).go i H/\∃N:Az,(∀I H',N I H'->∃O,O < m/\W (i + 1) O I H')/\∀x H',(Itt K a).yld i H x H'->g x σ H' fun G H2=>tb { D with nx:=N,ct:=N,bk:=D.nx } G H2):=by
 refine ⟨fun i m σ H=>m=xs.length - i/\i<=xs.length/\C i σ H,⟨xs.length,by simp,Qba _,Z⟩,?_⟩;rintro i m σ H ⟨rfl,hi,p⟩;have q:=hl i σ H hi p
 by_cases J:i < xs.length
 ·refine .inr ⟨⟨xs,xs[i],q,by simp [J]⟩,C (i + 1),fun I H' Y=>⟨xs.length - (i + 1),by lia,rfl,J,Y⟩,fun x H' y=>?_⟩
  obtain ⟨e,y⟩:=y;subst e;exact hs i x σ _ (y xs q) p
 ·have e:i=xs.length:=by lia
  subst e;exact .inl ⟨⟨xs,q,Qag _⟩,hd σ H p⟩
def Jm{lo:Int}{g:TG}{tb:TS}{D:Ends}{σ:St}{H:Hp}(q:Nat->St->Hp->Prop)(Y:q 0 σ H)
  (hs:∀i σ H,i < n->q i σ H->g (.int (lo + i)) σ H fun C H2=>tb { D with nx:=q (i + 1),ct:=q (i + 1),bk:=D.nx } C H2) (hd:∀σ H,q n σ H->D.nx σ H) :
  ∃W:Nat->Nat->St->Hp->Prop,(∃m,W 0 m σ H)/\∀i m σ H,W i m σ H ->
   ((Itr lo n).stop i H/\D.nx σ H)\/((Itr lo n).go i H/\∃N:Az,(∀G H',N G H'->∃J,J < m/\W (i + 1) J G H')/\∀x H',(Itr lo n).yld i H x H'->g x σ H' fun C H2=>tb { D with nx:=N,ct:=N,bk:=D.nx } C H2):=by
 refine ⟨fun i m σ H=>m=n - i/\i<=n/\q i σ H,⟨n,by simp,Qba _,Y⟩,?_⟩;rintro i m σ H ⟨rfl,hi,p⟩
 by_cases I:i < n
 ·refine .inr ⟨I,q (i + 1),fun G H' O=>⟨n - (i + 1),by lia,rfl,I,O⟩,fun x H' y=>?_⟩
  obtain ⟨e,y⟩:=y;subst e y;exact hs i σ _ I p
 ·have e:i=n:=by lia
  subst e;exact .inl ⟨Qag _,hd σ H p⟩
abbrev R2:=V->V->Hp->VK->Prop
def OpR(X:Cx)(f:As->Value->Sem As)(r:R2):Prop :=
 ∀(pins:Ac) (s:Aq) (σ:St) (H:Hp) (x y:V) (v u:As) (Q:VK),Inv X pins σ H s->RelV x v->RelV y u->r x y H Q ->
  A2 X (f v u) (EP X pins σ Q) X.xe s
def UnR(X:Cx)(f:As->Sem As)(r:V->Hp->VK->Prop):Prop :=
 ∀(pins:Ac) (s:Aq) (σ:St) (H:Hp) (x:V) (v:As) (Q:VK),Inv X pins σ H s->RelV x v->r x H Q ->
  A2 X (f v) (EP X pins σ Q) X.xe s
def Xb(X:Cx)(f:As)(r:A0->Hp->VK->Prop):Prop :=
 ∀(pins:Ac) (s:Aq) (σ:St) (H:Hp) (xs:A0) (q:Ag) (Q:VK),Inv X pins σ H s->Vals xs q->r xs H Q ->
  A2 X (call f q) (EP X pins σ Q) X.xe s
def tOp(r:R2)(ta tb:TE):TE:=fun σ H Q=>ta σ H fun x H1=>tb σ H1 fun y H2=>r x y H2 Q
def tUn(r:V->Hp->VK->Prop)(ta:TE):TE:=fun σ H Q=>ta σ H fun x H1=>r x H1 Q
def rI(C:Int->Int->Prop)(g:Int->Int->V):R2:=fun x y H Q=>∃i j,x=.int i/\y=.int j/\C i j/\Q (g i j) H
def rI0(g:Int->Int->V):R2:=fun x y H Q=>∃i j,x=.int i/\y=.int j/\Q (g i j) H
def rU(g:Int->V):V->Hp->VK->Prop:=fun x H Q=>∃i,x=.int i/\Q (g i) H
section
variable {X:Cx}{a b c:Av}{ta tb tc:TE}{pos:Pos}
def binT(ha:PE X a ta)(hb:PE X b tb){σ:St}{H:Hp}{R:V->V->Hp->Prop}(I:Inv X z σ H s)
  (h:ta σ H fun x H1=>tb σ H1 fun y H2=>R x y H2)  {f:As->Value->Sem As}
  (hf:∀v u C x y H2,Inv X z σ H2 C->RelV x v->RelV y u->R x y H2->A2 X (f v u) Q X.xe C) :
  A2 X (eval a X.env) (fun v q=>A2 X (eval b X.env) (fun u s₂=>A2 X (f v u) Q X.xe s₂) X.xe q) X.xe s:=by
 refine thn (ha z s σ H _ I h) fun v s1 ⟨x,H1,Z,O,Y⟩=>?_;refine thn (hb z s1 σ H1 _ Z Y) fun u C ⟨y,H2,J,D,G⟩=>?_;exact hf v u C x y H2 J O D G
def pe_op{C:Operator}{r:R2}(ho:OpR X (binaryOp C) r)(ha:PE X a ta)(hb:PE X b tb):PE X (.BinOp a C b pos) (tOp r ta tb):=by
 intro pins s σ H Q I h;exact wpAny_BinOp (binT ha hb I h fun v u D x y H2 G J O q=>ho pins D σ H2 x y v u Q G J O q)
def pe_un{q:UnaryOp}{r:V->Hp->VK->Prop}(ho:UnR X (unaryOp q) r)(ha:PE X a ta):PE X (.UnaryOp q a pos) (tUn r ta):=by
 intro pins s σ H Q I h;exact UnaryOp_ (thn (ha pins s σ H _ I h) fun v J ⟨x,H1,G,C,D⟩=>ho pins J σ H1 x v Q G C D)
def opI{f:As->Value->Sem As}{C:Int->Int->Prop}{g:Int->Int->Int}
  (rule:∀(i j:Int) (t u:Tok) (s:Aq) (Q:Ab) (E:Ab),C i j->Q (.int (g i j) s.toks) { s with toks:=s.toks + 1 }->A2 X (f (.int i t) (.int j u)) Q E s) :
  OpR X f (rI C fun i j=>.int (g i j)):=by
 intro pins s σ H x y v u Q I D G h;obtain ⟨i,j,rfl,rfl,hc,q⟩:=h;obtain ⟨t,rfl⟩:=D;obtain ⟨t',rfl⟩:=G;exact rule i j t t' s _ _ hc ⟨.int (g i j),H,I.tok _,⟨_,rfl⟩,q⟩
def Zjl{f:As->Value->Sem As}{g:Int->Int->Int}
  (rule:∀(i j:Int) (t u:Tok) (s:Aq) (Q:Ab) (E:Ab),Q (.int (g i j) s.toks) { s with toks:=s.toks + 1 }->A2 X (f (.int i t) (.int j u)) Q E s) :
  OpR X f (rI0 fun i j=>.int (g i j)):=by
 intro pins s σ H x y v u Q I C D h;obtain ⟨i,j,rfl,rfl,q⟩:=h;obtain ⟨t,rfl⟩:=C;obtain ⟨t',rfl⟩:=D;exact rule i j t t' s _ _ ⟨.int (g i j),H,I.tok _,⟨_,rfl⟩,q⟩
def Zkn{f:As->Value->Sem As}{g:Int->Int->Bool}
  (rule:∀(i j:Int) (t u:Tok) (s:Aq) (Q:Ab) (E:Ab),Q (.bool (g i j)) s->A2 X (f (.int i t) (.int j u)) Q E s) :
  OpR X f (rI0 fun i j=>.bl (g i j)):=by
 intro pins s σ H x y v u Q I C D h;obtain ⟨i,j,rfl,rfl,q⟩:=h;obtain ⟨t,rfl⟩:=C;obtain ⟨t',rfl⟩:=D;exact rule i j t t' s _ _ ⟨.bl (g i j),H,I,rfl,q⟩
def CPow(i j:Int):Prop:=0<=j/\j<=1000000/\i.natAbs < 2 ^ 64
def CMul(i j:Int):Prop:=(-(2 ^ 64) < i/\i < 2 ^ 64)\/(-(2 ^ 64) < j/\j < 2 ^ 64)
def CMul.ok{i j:Int}(h:CMul i j):IntMulOk i j:=by
 rcases h with ⟨h1,h2⟩ | ⟨h1,h2⟩
 ·exact .of_left (intBits_le_64 h1 h2)
 ·exact .of_right (intBits_le_64 h1 h2)
def two_pow_nn(k:Nat):(0:Int)<=2 ^ k:=by grind
def Yy:OpR X (binaryOp .Add) (rI0 fun i j=>.int (i + j)):=Zjl fun _ _ _ _ _ _ _ q=>add_int q
def j6:OpR X (binaryOp .Sub) (rI0 fun i j=>.int (i - j)):=Zjl fun _ _ _ _ _ _ _ q=>sub_int q
theorem ZU:OpR X (binaryOp .Mod) (rI (fun _ j=>0 < j) fun i j=>.int (i % j)):=opI fun i j _ _ _ _ _ hc q=>by
 exact mod_int' (by lia) (by grind)
def Zff:OpR X (binaryOp .Pow) (rI CPow fun i j=>.int (i ^ j.toNat)):=opI fun _ _ _ _ _ _ _ hc q=>pow_int_small hc.1 hc.2.1 hc.2.2 q
def kz:OpR X (binaryOp .LShift) (rI CPow fun i j=>.int (i * 2 ^ j.toNat)):=opI fun _ _ _ _ _ _ _ hc q=>lshift_int_small hc.1 hc.2.1 hc.2.2 q
theorem xH:OpR X (binaryOp .RShift) (rI (fun _ j=>0<=j) fun i j=>.int (i / 2 ^ j.toNat)):=opI fun i j _ _ _ _ _ hc q =>
 rshift_int hc (by grind)
def Xw:OpR X (binaryOp .BitAnd) (rI0 fun i j=>.int (Builtin.bitAnd i j)):=Zjl fun _ _ _ _ _ _ _ q=>and_int q
def j7:OpR X (binaryOp .BitOr) (rI0 fun i j=>.int (Builtin.bitOr i j)):=Zjl fun _ _ _ _ _ _ _ q=>or_int q
def qd:OpR X (binaryOp .BitXor) (rI0 fun i j=>.int (Builtin.bitXor i j)):=Zjl fun _ _ _ _ _ _ _ q=>xor_int q
def unI{f:As->Sem As}{g:Int->Int}
  (rule:∀(i:Int) (t:Tok) (s:Aq) (Q:Ab) (E:Ab),Q (.int (g i) s.toks) { s with toks:=s.toks + 1 }->A2 X (f (.int i t)) Q E s) :
  UnR X f (rU fun i=>.int (g i)):=by
 intro pins s σ H x v Q I C h;obtain ⟨i,rfl,q⟩:=h;obtain ⟨t,rfl⟩:=C;exact rule i t s _ _ ⟨.int (g i),H,I.tok _,⟨_,rfl⟩,q⟩
def Jn:UnR X (unaryOp .USub) (rU fun i=>.int (-i)):=unI fun _ _ _ _ _ q=>neg_int q
def qe:UnR X (unaryOp .Invert) (rU fun i=>.int (Builtin.bitNot i)):=unI fun _ _ _ _ _ q=>invert_int q
end
def scal:V->V->Bool
 | .non,.non=>true | .non,.int _=>true | .int _,.non=>true | .non,.bl _=>true | .bl _,.non=>true | .non,.str _=>true | .str _,.non=>true
 | .int _,.int _=>true | .bl _,.bl _=>true | .str _,.str _=>true | .byt _,.byt _=>true
 | .int _,.str _=>true | .str _,.int _=>true | .bl _,.str _=>true | .str _,.bl _=>true
 | _,_=>false
def rEq:R2:=fun x y H Q=>scal x y=true/\Q (.bl (decide (x=y))) H
def rNe:R2:=fun x y H Q=>scal x y=true/\Q (.bl (!decide (x=y))) H
def uq{i j:Int}:decide (V.int i=V.int j)=(i == j):=by grind
def Zfg{i:Bool}:decide (V.bl i=V.bl j)=(i == j):=by grind
def ur{i j:Str}:decide (V.str i=V.str j)=(i == j):=by grind
def uv{i j:Array UInt8}:decide (V.byt i=V.byt j)=(i.toList == j.toList):=by
 rw [Qd8];cases i;cases j;simp
section
variable {X:Cx}{a b c:Av}{ta tb tc:TE}{pos:Pos}
def ZO{σ:St}{H:Hp}{Q:VK}{k:Bool}(I:Inv X z σ H s)(q:Q (.bl k) H)(e:k=j):EP X z σ Q (.bool j) s:=by
 subst e;exact ⟨.bl k,H,I,rfl,q⟩
def Xv:OpR X (compareOp .Eq) rEq:=by
 intro pins s σ H x y v u Q I D C h;obtain ⟨hs,q⟩:=h;cases x with
 | non =>
  cases D;cases y with
  | non=>cases C;exact PySem.EqNone.eq_none_none (ZO I q (by simp))
  | bl j=>cases C;exact PySem.EqNone.eq_none_bool (ZO I q (by simp))
  | int j=>obtain ⟨t',rfl⟩:=C;exact PySem.EqNone.eq_none_int (ZO I q (by simp))
  | str j=>obtain ⟨t',rfl⟩:=C;exact PySem.EqNone.eq_none_str (ZO I q (by simp))
  | _=>exact absurd (show false=true from hs) Qa5
 | bl i =>
  cases D;cases y with
  | non=>cases C;exact PySem.EqNone.eq_bool_none (ZO I q (by simp))
  | bl j=>cases C;exact eq_bool (ZO I q Zfg)
  | str j=>obtain ⟨t',rfl⟩:=C;exact PySem.EqMixed.eq_bool_str (ZO I q (by simp))
  | _=>exact absurd (show false=true from hs) Qa5
 | int i =>
  obtain ⟨t,rfl⟩:=D;cases y with
  | non=>cases C;exact PySem.EqNone.eq_int_none (ZO I q (by simp))
  | int j=>obtain ⟨t',rfl⟩:=C;exact eq_int (ZO I q uq)
  | str j=>obtain ⟨t',rfl⟩:=C;exact PySem.EqMixed.eq_int_str (ZO I q (by simp))
  | _=>exact absurd (show false=true from hs) Qa5
 | str i =>
  obtain ⟨t,rfl⟩:=D;cases y with
  | non=>cases C;exact PySem.EqNone.eq_str_none (ZO I q (by simp))
  | bl j=>cases C;exact PySem.EqMixed.eq_str_bool (ZO I q (by simp))
  | int j=>obtain ⟨t',rfl⟩:=C;exact PySem.EqMixed.eq_str_int (ZO I q (by simp))
  | str j=>obtain ⟨t',rfl⟩:=C;exact eq_str (ZO I q ur)
  | _=>exact absurd (show false=true from hs) Qa5
 | byt i =>
  obtain ⟨t,rfl⟩:=D;cases y with
  | byt j=>obtain ⟨t',rfl⟩:=C;exact PySem.W.eq_bytes (ZO I q uv)
  | _=>exact absurd (show false=true from hs) Qa5
 | _=>cases y <;> exact absurd (show false=true from hs) Qa5
def j8:OpR X (compareOp .NotEq) rNe:=by
 intro pins s σ H x y v u Q I D C h;obtain ⟨hs,q⟩:=h;cases x with
 | non =>
  cases D;cases y with
  | non=>cases C;exact PySem.EqNone.ne_none_none (ZO I q (by simp))
  | bl j=>cases C;exact PySem.EqNone.ne_none_bool (ZO I q (by simp))
  | int j=>obtain ⟨t',rfl⟩:=C;exact PySem.EqNone.ne_none_int (ZO I q (by simp))
  | str j=>obtain ⟨t',rfl⟩:=C;exact PySem.EqNone.ne_none_str (ZO I q (by simp))
  | _=>exact absurd (show false=true from hs) Qa5
 | bl i =>
  cases D;cases y with
  | non=>cases C;exact PySem.EqNone.ne_bool_none (ZO I q (by simp))
  | bl j=>cases C;exact ne_bool (ZO I q (congrArg not Zfg))
  | str j=>obtain ⟨t',rfl⟩:=C;exact PySem.EqMixed.ne_bool_str (ZO I q (by simp))
  | _=>exact absurd (show false=true from hs) Qa5
 | int i =>
  obtain ⟨t,rfl⟩:=D;cases y with
  | non=>cases C;exact PySem.EqNone.ne_int_none (ZO I q (by simp))
  | int j=>obtain ⟨t',rfl⟩:=C;exact ne_int (ZO I q (congrArg not uq))
  | str j=>obtain ⟨t',rfl⟩:=C;exact PySem.EqMixed.ne_int_str (ZO I q (by simp))
  | _=>exact absurd (show false=true from hs) Qa5
 | str i =>
  obtain ⟨t,rfl⟩:=D;cases y with
  | non=>cases C;exact PySem.EqNone.ne_str_none (ZO I q (by simp))
  | bl j=>cases C;exact PySem.EqMixed.ne_str_bool (ZO I q (by simp))
  | int j=>obtain ⟨t',rfl⟩:=C;exact PySem.EqMixed.ne_str_int (ZO I q (by simp))
  | str j=>obtain ⟨t',rfl⟩:=C;exact ne_str (ZO I q (congrArg not ur))
  | _=>exact absurd (show false=true from hs) Qa5
 | byt i =>
  obtain ⟨t,rfl⟩:=D;cases y with
  | byt j=>obtain ⟨t',rfl⟩:=C;exact PySem.W.ne_bytes (ZO I q (congrArg not uv))
  | _=>exact absurd (show false=true from hs) Qa5
 | _=>cases y <;> exact absurd (show false=true from hs) Qa5
def Zdj:OpR X (compareOp .Lt) (rI0 fun i j=>.bl (decide (i < j))):=Zkn fun _ _ _ _ _ _ _ q=>lt_int q
def op_le:OpR X (compareOp .LtE) (rI0 fun i j=>.bl (decide (i<=j))):=Zkn fun _ _ _ _ _ _ _ q=>le_int q
def op_gt:OpR X (compareOp .Gt) (rI0 fun i j=>.bl (decide (j < i))):=Zkn fun _ _ _ _ _ _ _ q=>gt_int q
def op_ge:OpR X (compareOp .GtE) (rI0 fun i j=>.bl (decide (j<=i))):=Zkn fun _ _ _ _ _ _ _ q=>ge_int q
def uw:OpR X (compareOp .In) (fun x y H Q=>∃i j,x=.str i/\y=.str j/\Q (.bl (!(Builtin.Str.occurrences j i 0 j.length 1).isEmpty)) H):=by
 intro pins s σ H x y v u Q I C D h;obtain ⟨i,j,rfl,rfl,q⟩:=h;obtain ⟨t,rfl⟩:=C;obtain ⟨t',rfl⟩:=D;exact in_str (ZO I q rfl)
def Zfh:OpR X (compareOp .Is) (fun x y H Q=>y=.non/\Q (.bl (decide (x=.non))) H):=by
 intro pins s σ H x y v u Q I C D h;obtain ⟨rfl,q⟩:=h;cases D;refine is_none_gen (ZO I q ?_);cases x <;> first
  | (cases C;rfl)
  | (obtain ⟨t,rfl⟩:=C;rfl)
def OpR.or{f:As->Value->Sem As}{r C:R2}(h:OpR X f r)(h':OpR X f C):OpR X f (fun x y H Q=>r x y H Q\/C x y H Q):=by
 intro pins s σ H x y v u Q I D G q;rcases q with q | q
 ·exact h pins s σ H x y v u Q I D G q
 ·exact h' pins s σ H x y v u Q I D G q
def ZF(b:Av){q:CmpOp}(h:q≠.In:=by decide)(h2:q≠.NotIn:=by decide):behindInMarks q b=false:=by
 have e1:(q == CmpOp.In)=false:=by grind
 have e2:(q == CmpOp.NotIn)=false:=by grind
 cases b <;> simp [behindInMarks,e1,e2]
def Zgt{C:CmpOp}{r:R2}(ho:OpR X (compareOp C) r)(ha:PE X a ta)(hb:PE X b tb)(hm:behindInMarks C b=false):PE X (.Compare a [C] [b] pos) (tOp r ta tb):=by
 intro pins s σ H Q I h;exact wpAny_Compare1 (binT ha hb I h fun v u D x y H2 G J O q=>ho pins D σ H2 x y v u Q G J O q) hm
def Zjm(t:TE):TT:=fun σ H Q=>t σ H fun x H'=>∃k,x=.bl k/\Q k H'
def Zgu{q:CmpOp}{r:R2}(ho:OpR X (compareOp q) r)(ha:PE X a ta)(hb:PE X b tb)(hm:behindInMarks q b=false):PT X (.Compare a [q] [b] pos) (Zjm (tOp r ta tb)):=by
 intro pins s σ H Q I h;refine wpAny_isTrue_Compare1 (thn (ha pins s σ H _ I h) fun v s1 ⟨x,H1,I1,r1,q1⟩=>thn (hb pins s1 σ H1 _ I1 q1) fun u Y ⟨y,H2,I2,D,O⟩ =>
  thn (ho pins Y σ H2 x y v u _ I2 r1 D O) fun c s3 ⟨z,C,Z,J,k,e,G⟩=>?_) hm
 subst e;cases J;exact Qdd ⟨C,Z,G⟩
def qf:(sizeLine:Nat) < 2 ^ 63:=by decide
def JR:OpR X (binaryOp .Add) (fun x y H Q=>∃i j,x=.str i/\y=.str j/\i.length + j.length<=sizeLine/\Q (.str (i++j)) H):=by
 intro pins s σ H x y v u Q I C D h;obtain ⟨i,j,rfl,rfl,hz,q⟩:=h;obtain ⟨t,rfl⟩:=C;obtain ⟨t',rfl⟩:=D;exact add_str (fun t' tk=>⟨.str (i++j),H,I.tok _,⟨_,rfl⟩,q⟩) hz
def vals1{x:V}(r:Vals [x] J):∃u,J=[u]/\RelV x u:=by
 cases r with
 | cons q C=>cases C;exact ⟨_,rfl,q⟩
def vals2{x y:V}(r:Vals [x,y] J):∃u q,J=[u,q]/\RelV x u/\RelV y q:=by
 cases r with
 | cons C D =>
  cases D with
  | cons G I=>cases I;exact ⟨_,_,rfl,C,G⟩
def zl:Xb X (.builtin "abs") (fun xs H Q=>∃i,xs=[.int i]/\Q (.int (if i < 0 then -i else i)) H):=by
 intro pins s σ H xs C Q I r h;obtain ⟨i,rfl,q⟩:=h;obtain ⟨u,rfl,t,rfl⟩:=vals1 r;exact call_abs_int fun u tk=>⟨.int (if i < 0 then -i else i),H,I.tok _,⟨_,rfl⟩,q⟩
def ux (hc:X.calm=true):Xb X (.builtin "min") (fun xs H Q=>∃i j,xs=[.int i,.int j]/\Q (.int (if j < i then j else i)) H):=by
 intro pins s σ H xs D Q I r h;obtain ⟨i,j,rfl,q⟩:=h;obtain ⟨u,G,rfl,⟨t,rfl⟩,⟨t',rfl⟩⟩:=vals2 r;refine min_two_ints (I.ok.hd hc) fun h' tk k=>⟨_,H,I.kept k,?_,q⟩
 by_cases C:j < i
 ·rw [Qa1 C,Qa1 C];exact ⟨_,rfl⟩
 ·rw [Qaw C,Qaw C];exact ⟨_,rfl⟩
def uy:Xb X (.type "int") (fun xs H Q=>(∃i,xs=[.int i]/\Q (.int i) H)\/∃k,xs=[.bl k]/\Q (.int (if k then 1 else 0)) H):=by
 intro pins s σ H xs D Q I r h;rcases h with ⟨i,rfl,q⟩ | ⟨k,rfl,q⟩
 ·obtain ⟨u,rfl,t,rfl⟩:=vals1 r
  exact call_int_int ⟨.int i,H,I,⟨_,rfl⟩,q⟩
 ·obtain ⟨u,rfl,C⟩:=vals1 r
  cases C;exact call_int_bool ⟨.int (if k then 1 else 0),H,I.tok _,⟨_,rfl⟩,q⟩
end
structure ObjM(h:Heap)(x dx C:Au)(mA:Ae):Prop where
 obj:h.get? x=some (PySem.W.instObj C dx)
 ns:h.Ns1 dx mA
 ne:dx≠x
theorem uz{mA:Ae}(n:h.Ns1 l mA):∃od,h.get? l=some od/\∀name,PySem.W.lookIn name od=some (mA name):=by
 obtain ⟨o,es,ep,ho,hd,hk,_,hm⟩:=n;refine ⟨o,ho,fun name=>?_⟩;have e:=hm name;unfold nsFind findBy at e;rw [<-Array.find?_toList] at e;unfold PySem.W.lookIn;rw [hd];dsimp only
 split
 ·grind
 ·rename_i q
  rw [q] at e;have a:es.toList.any (·.refKey)=false:=by
   rw [List.any_eq_false];intro y D;obtain ⟨z,t,C⟩:=hk y (Array.mem_toList_iff.mp D);simp [DictEntry.refKey,C]
  have G:¬es.toList.any (·.refKey)=true:=by rw [a];exact Qa5
  rw [Qaw G];exact congrArg some e
theorem ObjM.look{x:Au}{mA:Ae}(I:ObjM h x a l mA):∃od,PySem.W.InstAt h x (PySem.W.instObj l a) l (some od)/\∀name,PySem.W.lookIn name od=some (mA name) :=
 let ⟨od,ho,hl⟩:=uz I.ns
 ⟨od,⟨I.obj,rfl,rfl,ho⟩,hl⟩
section
variable {prog:An}{w:Ar}{A:Ao}{E:Ab}{s:Aq}{K:Af}{x dx C f:Au}{mA:Ae}{name:Str}{v:As}
end
def jy.some_of{v:V}{o:Option As}(r:jy (some v) o):∃u,o=some u/\RelV v u:=by
 cases o with
 | none=>exact (show False from r).elim
 | some u=>exact ⟨u,rfl,r⟩
def jy.none_of{o:Option As}(r:jy none o):o=none:=by
 cases o with
 | none=>rfl
 | some u=>exact (show False from r).elim
section
variable {P:An}{w:Ar}{H H':Hp}{h h':Heap}{a C dx:Au}{fs fs':List (Str × V)}
def Zgv(D:HOk P w H h)(e:H a=some (.ins C dx fs)):∃mA,ObjM h a dx C mA/\(∀f,jy (fs.lookup f) (mA f))/\PySem.Within mA (fs.map (·.1))/\fs.length<=1000/\H dx=some (.own a):=by
 obtain ⟨d,z,ne,ob,mA,n,r,q⟩:=(show Yl P w H h a (.ins C dx fs) from D a _ e);exact ⟨mA,⟨ob,n,ne⟩,r,q,z,d⟩
end
structure Cls(K:Af)(C:Au):Prop where
 pg:PySem.W.plainGet K C Str.empty=true
 hd:PySem.W.hasDictIn K C=true
 po:PySem.W.plainOver K C=true
 sa:PySem.W.findIn K (.ref C) "__setattr__" = some (some (.builtin "object.__setattr__"))
def Cls.get(c:Cls K a)(f:Str):PySem.W.plainGet K a f=true:=c.pg
section
variable {X:Cx}{pins:Ac}{σ:St}{H:Hp}{s:Aq}{a C dx:Au}{fs:List (Str × V)}{f:Str}{v:V}{A:Ao}{E:Ab}
end
section
variable {X:Cx}{o e value:Av}{f:Str}{pos pos' tpos:Pos}{ta tv:TE}
end
section
variable {X:Cx}{pins:Ac}{σ:St}{H:Hp}{s:Aq}{A:Ao}{E:Ab}{Q:Ab}{c:As}{b:Bool}
inductive wV(K:Af)(H:Hp):V->Value->Prop where
 | non:wV K H .non (.type "NoneType")
 | bl (x:Bool):wV K H (.bl x) (.type "bool")
 | int (i:Int):wV K H (.int i) (.type "int")
 | str (x:Str):wV K H (.str x) (.type "str")
 | flt (x:UInt64):wV K H (.flt x) (.type "float")
 | lst {a:Au} {xs:A0} (e:H a=some (.lst xs)):wV K H (.ref a) (.type "list")
 | frz {a:Au} {o:Obj} {xs:A0} (e:H a=some (.frz o (.lst xs))):wV K H (.ref a) (.type "list")
 | tup {a:Au} {xs:A0} (e:H a=some (.tup xs)):wV K H (.ref a) (.type "tuple")
 | dK {a:Au} {kvs:Ay} (e:H a=some (.dK kvs)):wV K H (.ref a) (.type "dict")
 | dT {a:Au} {kvs:List (List Key × V)} (e:H a=some (.dT kvs)):wV K H (.ref a) (.type "dict")
 | ins {a C dx:Au} {fs:List (Str × V)} (e:H a=some (.ins C dx fs)) (cl:Cls K C) (ha:PySem.W.findIn K (.ref C) "__class__" = some (some (.builtin "object.__class__")))
   (hn:PySem.W.specialIn K (.builtin "object.__class__") "__get__" = some (some (.builtin "getset_descriptor.__get__"))) (htk:PySem.W.takesIn K (.builtin "object.__class__")=some true)
   (hm:PySem.W.mroIn K C (.type "object")=some true):wV K H (.ref a) (.ref C)
def uA{x:V}{u t:As}(I:Inv X pins σ H s)(G:RelV x u)(ty:wV X.K H x t)(e:PySem.W.kitOne X.K t c=some b)(h:∀tk,Q (.bool b) { s with toks:=tk }) :
  A1 X.prog X.w A (call (.builtin "isinstance") [u,c]) Q E s:=by
 cases ty with
 | non=>cases (show u=Value.none from G);exact Qcw PySem.W.kitx_none I.kIn True.intro e (fun z=>nomatch z) h
 | bl y=>cases (show u=Value.bool y from G);exact Qcw PySem.W.kitx_bool I.kIn True.intro e (fun z=>nomatch z) h
 | int i=>obtain ⟨t,q⟩:=(show ∃t,u=Value.int i t from G);cases q;exact Qcw PySem.W.kitx_int I.kIn True.intro e (fun z=>nomatch z) h
 | str y=>obtain ⟨t,q⟩:=(show ∃t,u=Value.str y t from G);cases q;exact Qcw PySem.W.kitx_str I.kIn True.intro e (fun z=>nomatch z) h
 | flt y=>obtain ⟨t,q⟩:=(show ∃t,u=Value.float y t from G);cases q;exact Qcw PySem.W.kitx_float I.kIn True.intro e (fun z=>nomatch z) h
 | @lst a xs D =>
  cases (show u=Value.ref a from G);obtain ⟨_,_,n,_,h1⟩:=(show Yl X.prog X.w H s.heap a (.lst xs) from I.hok a _ D);exact Qcw PySem.W.kitx_list I.kIn ⟨_,h1,rfl⟩ e (fun z=>nomatch z) h
 | @frz a ob xs D =>
  cases (show u=Value.ref a from G);obtain ⟨_,_,_,n,_,h1⟩:=(show Yl X.prog X.w H s.heap a (.frz ob (.lst xs)) from I.hok a _ D);exact Qcw PySem.W.kitx_list I.kIn ⟨_,h1,rfl⟩ e (fun z=>nomatch z) h
 | @tup a xs D =>
  cases (show u=Value.ref a from G);obtain ⟨_,_,_,p⟩:=(show Yl X.prog X.w H s.heap a (.tup xs) from I.hok a _ D);obtain ⟨o,h1,h2,_⟩:=p;exact Qcw PySem.W.kitx_tuple I.kIn ⟨o,h1,h2⟩ e (fun z=>nomatch z) h
 | @dK a kvs D =>
  cases (show u=Value.ref a from G);obtain ⟨_,_,vs,_,p⟩:=(show Yl X.prog X.w H s.heap a (.dK kvs) from I.hok a _ D);obtain ⟨o,es,ep,h1,h2,_⟩:=p;exact Qcw PySem.W.kitx_dict I.kIn ⟨o,h1,h2.1⟩ e (fun z=>nomatch z) h
 | @dT a kvs D =>
  cases (show u=Value.ref a from G);obtain ⟨_,_,xs,_,o,es,ep,h1,h2,_⟩:=(show Yl X.prog X.w H s.heap a (.dT kvs) from I.hok a _ D);exact Qcw PySem.W.kitx_dict I.kIn ⟨o,h1,h2.1⟩ e (fun z=>nomatch z) h
 | @ins a C dx fs D cl ha hn Y hm =>
  cases (show u=Value.ref a from G);obtain ⟨mA,O,_⟩:=Zgv I.hok D;obtain ⟨od,J,_⟩:=O.look;exact Qcw (PySem.W.kitx_own (cl.get _) cl.hd ha hn Y hm) I.kIn J e (fun z=>nomatch z) h
end
structure WV(k:Nat)(A:Ao):Prop where
 hd:A.handled=none
 dp:A.depth + 3 * k + 5 < recursionLimit
 un:A.units + 16 * k + 200 < cLine
def WV.mono{j k:Nat}{A:Ao}(r:WV k A)(h:j<=k):WV j A:=⟨r.hd,by have:=r.dp;lia,by have:=r.un;lia⟩
theorem WV.deeper{k:Nat}{A:Ao}(r:WV (k + 1) A)(env:Env):WV k (A.deeper env) :=
 ⟨r.hd,by have:=r.dp;show A.depth + 1 + 3 * k + 5 < _;lia,by have:=r.un;show A.units + 3 + 16 * k + 200 < _;lia⟩
def WV.depth{k:Nat}{A:Ao}(r:WV k A):A.depth < recursionLimit:=by have:=r.dp;lia
def WV.units{k:Nat}{A:Ao}(r:WV k A):A.units + 64 < cLine:=by have:=r.un;lia
def Zko:TA:=fun _ H Q=>Q [] H
def j9(ta:TE)(q:TA):TA:=fun σ H Q=>ta σ H fun x H1=>q σ H1 fun xs H2=>Q (x::xs) H2
section
variable {X:Cx}{e:Av}{es:Al}{te:TE}{t:TA}{pos:Pos}
def pa_nil:PA X [] Zko:=fun _ _ _ _ H Q I h=>Qds ⟨[],H,I,.nil,h⟩
def Zgw(ha:PE X e te)(hr:PA X es t)(hs:starEach (e::es) X.env=(false,eval e X.env)::starEach es X.env:=by rfl):PA X (e::es) (j9 te t):=by
 intro pos pins s σ H Q I h;rw [hs];refine Qcg (thn (ha pins s σ H _ I h) fun u Y ⟨x,H1,O,G,J⟩=>?_);exact thn (hr pos pins Y σ H1 _ O J) fun us Z ⟨xs,H2,D,q,C⟩=>⟨x::xs,H2,D,.cons G q,C⟩
def tTup(t:TA):TE:=fun σ H Q=>t σ H fun xs H1=>xs.length<=sizeLine/\∀p,H1 p=none->Q (.ref p) (upd H1 p (.tup xs))
def tLst(t:TA):TE:=fun σ H Q=>t σ H fun xs H1=>xs.length<=sizeLine/\∀p,H1 p=none->Q (.ref p) (upd H1 p (.lst xs))
def pe_tup{G:_}(h:PA X es t):PE X (.Tuple es G pos) (tTup t):=by
 intro pins s σ H Q I J;refine wpAny_Tuple_spliced (thn (h pos pins s σ H _ I J) fun O C ⟨xs,H1,D,r,z,q⟩=>⟨by rw [<-r.length];exact z,?_⟩);have hf:H1 C.heap.objs.size=none:=D.hok.fresh (Qag _);refine ⟨.ref C.heap.objs.size,upd H1 C.heap.objs.size (.tup xs),D.laid (t':=C.toks) (fun b u e=>Qab _ e) (Qag _) ?_,rfl,q _ hf⟩;exact ⟨z,O,r,jz.new _ _⟩
def pe_lst(h:PA X es t):PE X (.List es pos) (tLst t):=by
 intro pins s σ H Q I G;refine wpAny_List_spliced (thn (h pos pins s σ H _ I G) fun J C ⟨xs,H1,D,r,z,q⟩=>⟨by rw [<-r.length];exact z,?_⟩);have hf:H1 C.heap.objs.size=none:=D.hok.fresh (Qag _);refine ⟨.ref C.heap.objs.size,upd H1 C.heap.objs.size (.lst xs),D.laid (t':=C.toks) (fun b u e=>Qab _ e) (Qag _) ?_,rfl,q _ hf⟩;exact ⟨z,J,0,r,Qak _ rfl⟩
end
abbrev Sp:=A0->Hp->VK->XK->Prop
abbrev CXT:=List Env->Hp->Shared->XK->Value->Shared->Prop
structure Zgx(P:An)(w:Ar)(K:Af)(mg:Ae)(base:Heap)(A:Ao)(outer:List Env)(s:Aq)(H:Hp):Prop where
 frames:A.frames=some outer
 mod:Mod K mg base
 bs:∀b o,base.get? b=some o->s.heap.get? b=some o/\H b=none
 bsz:base.objs.size<=s.heap.objs.size
 funs:s.heap.FunFrames base outer
 frf:∀b∈frs outer,H b=none
 hok:HOk P w H s.heap
 bare:AllBare s.gens
def CE(outer:List Env)(P:An)(w:Ar)(H:Hp)(s:Aq)(Q:VK)(u:As)(s':Aq):Prop :=
 ∃v H',s'.os=s.os/\AllBare s'.gens/\Un (frs outer) [] H H' s.heap s'.heap/\HOk P w H' s'.heap/\RelV v u/\Q v H'
def CR(CX:CXT)(outer:List Env)(P:An)(w:Ar)(H:Hp)(s:Aq)(Q:VK)(E:XK)(r:Result)(s':Aq):Prop :=
 match r with
 | .ok (.ret u)=>CE outer P w H s Q u s'
 | .ok _=>False
 | .error e=>CX outer H s E e s'
structure YA(P:An)(w:Ar)(K:Af)(mg:Ae)(base:Heap)(CX:CXT)(k:Nat)(f:Au)(fd:Am)(ps:Ai)(sp:Sp):Prop where
 len:∀vs H Q E,sp vs H Q E->vs.length=ps.length
 run:∀(A:Ao) (outer:List Env) (s:Aq) (H:Hp) (args:Args) (us:Ag) (vs:A0) (Q:VK) (E:XK),WV k A->Zgx P w K mg base A outer s H->BindsTo s fd args (ps.zip us)->Vals vs us->sp vs H Q E ->
  codeAny (model P w) A (.call (.ref f) args) (CR CX outer P w H s Q E) s
section
variable {X:Cx}{pins:Ac}{σ:St}{H:Hp}{s s':Aq}
theorem Inv.env0(I:Inv X pins σ H s):Zgx X.prog X.w X.K X.mg X.base X.A X.stack s H :=
 ⟨I.ok.frames,I.ok.mod,I.bs,Qa8 I.ok.bsz I.sz,I.stack,I.stkFree,I.hok,I.bare⟩
def Inv.after{Q:VK}{u:As}(I:Inv X pins σ H s)(h:CE X.stack X.prog X.w H s Q u s'):EP X pins σ Q u s':=by
 obtain ⟨v,H',os,C,un,D,r,q⟩:=h;obtain ⟨hh,g,d,t,G⟩:=s';obtain rfl:G=s.os:=os;exact ⟨v,H',I.call (h':=hh) (g':=g) (d':=d) (t':=t) (ch:=[]) un D C (fun b z=>absurd z (by simp)),r,q⟩
end
def uB(sp:Sp)(dvs:A0)(E:XK)(t:TA):TE:=fun σ H Q=>t σ H fun vs H1=>sp (vs++dvs) H1 Q E
def Binds(K:Af)(fd:Am)(ps:Ai)(ds:Ag):Prop :=
 ∀(s:Aq) (q:Ag),K.In s.heap->(q++ds).length=ps.length->BindsTo s fd ⟨q,[]⟩ (ps.zip (q++ds))
theorem Binds.all{fd:Am}{ps:Ai}(h:∀q:Ag,q.length=ps.length->bindArgs fd ⟨q,[]⟩=pure (ps.zip q)):Binds K fd ps []:=fun s q _ hl=>by
 rw [Qbq] at hl ⊢;exact .of_eq (h q hl)
def Passes(CX:CXT)(X:Cx)(E:XK):Prop:=∀(pins:Ac) (σ:St) (H:Hp) (s:Aq) (e:As) (s':Aq),Inv X pins σ H s->CX X.stack H s E e s'->X.xe e s'
section
variable {X:Cx}{CX:CXT}{k:Nat}{f C:Au}{fd:Am}{ps:Ai}{sp:Sp}{dvs:A0}{ds:Ag}{E:XK}{x m:Str}{p pos apos:Pos}{e o:Av}{es:Al}{ta:TE}{t:TA}
def run_fn{σ:St}{H:Hp}{Q:VK}{vs:A0}(F:YA X.prog X.w X.K X.mg X.base CX k f fd ps sp)(hr:WV k X.A)(hb:Binds X.K fd ps ds)(hd:Vals dvs ds)(hx:Passes CX X E)
  (I:Inv X z σ H s) (r:Vals vs J) (h:sp (vs++dvs) H Q E):A2 X (call (.ref f) J) (EP X z σ Q) X.xe s:=by
 have C:Vals (vs++dvs) (J++ds):=r.append hd;have hl:(J++ds).length=ps.length:=by rw [<-C.length];exact F.len _ _ _ _ h
 refine Qhq (Qec (F.run X.A X.stack s H ⟨J,[]⟩ (J++ds) (vs++dvs) Q E hr I.env0 (hb s J I.kIn hl) C h) fun r s' q=>?_);cases r with
 | error e=>exact hx z σ H s e s' I q
 | ok D =>
  cases D with
  | ret u=>exact I.after q
  | next=>exact False.elim q
  | brk=>exact False.elim q
  | cont=>exact False.elim q
def Zgy(F:YA X.prog X.w X.K X.mg X.base CX k f fd ps sp)(hr:WV k X.A)(hg:Gl X x)(hm:X.mg x=some (.ref f))(hk:PySem.W.keepIn X.K (.ref f)=true)(hb:Binds X.K fd ps ds)(hd:Vals dvs ds)(hx:Passes CX X E)
  (ha:PA X (e::es) t) (hdb:(x == ("__debug__" : Str))=false:=by decide) (he:starEach (e::es) X.env=(false,eval e X.env)::starEach es X.env:=by rfl) (C:(backTo pos (starEach es X.env)).any (·.1)=false:=by rfl) :
  PE X (.Call (.Name x p) (e::es) [] pos) (uB sp dvs E t):=by
 intro pins s σ H Q I h;refine Qcv (zj I hg hm ?_ hdb);refine Qgm (h₀:=X.base) I.ok.mod.kin hk (thn (ha pos pins s σ H _ I h) fun G J ⟨vs,H1,D,r,q⟩=>⟨D.kIn,?_⟩) he C;exact run_fn F hr hb hd hx D r q
end
section
variable {X:Cx}{CX:CXT}{k:Nat}{f C:Au}{fd:Am}{ps ks:Ai}{sp:Sp}{E:XK}{x m:Str}{p pos apos kpos:Pos}{e o:Av}{es:Al}{kws:List Keyword}{te ta:TE}{t tk:TA}{nm:Option Str}
variable {g:Ag->List As->List As}{gV:A0->List V->List V}
end
structure Zs(N P:Ai)(sc:Scope):Prop where
 kind:sc.kind=.function:=by rfl
 co:sc.isCoroutine=false:=by rfl
 gen:sc.isGenerator=false:=by rfl
 nd:N.Nodup:=by decide +kernel
 pre:N.take P.length=P:=by rfl
 par:∀x∈P,sc.names.lookup x=some .local\/sc.names.lookup x=some .cell:=by decide +kernel
 nofree:∀y∈sc.names,y.2≠.free:=by decide +kernel
theorem jA{kindOf:Str->Option NameKind}{x:Str}:∀{binds:List (Str × As)} {m:Ae},(∀v,(x,v)∉binds)->bindL kindOf binds m x=m x
 | [],_,_=>rfl
 | (n,v)::r,m,h=>by
  unfold bindL;rw [jA fun w hw=>h w (Qam _ hw)]
  split
  ·grind
  ·rfl
theorem jB{kindOf:Str->Option NameKind}{x:Str}:∀{binds:List (Str × As)} {m:Ae},(∀v,(x,v)∉binds)->bindC kindOf binds m x=m x
 | [],_,_=>rfl
 | (n,v)::r,m,h=>by
  unfold bindC;rw [jB fun w hw=>h w (Qam _ hw)]
  split
  ·rfl
  ·grind
theorem jC{kindOf:Str->Option NameKind}{x:Str}{v:As}:∀{P:Ai} {vs:Ag} {i:Nat} {m:Ae},P.Nodup->P[i]?=some x->vs[i]?=some v->kindOf x=some .local ->
  bindL kindOf (P.zip vs) m x=some v
 | [],_,_,_,_,h,_,_=>by simp at h
 | _::_,[],_,_,_,_,h,_=>by simp at h
 | p::P,w::vs,0,m,q,h1,h2,hk=>by
  simp at h1 h2;subst h1;subst h2;show bindL kindOf ((p,w)::P.zip vs) m p=_;unfold bindL;rw [jA fun v hv=>(Qci.mp q).1 (Qe8 hv).1,Qa1 hk];simp
 | p::P,w::vs,i + 1,m,q,h1,h2,hk=>by
  unfold bindL;exact jC (i:=i) (Qci.mp q).2 (by simpa using h1) (by simpa using h2) hk
theorem jD{kindOf:Str->Option NameKind}{x:Str}{v:As}:∀{P:Ai} {vs:Ag} {i:Nat} {m:Ae},P.Nodup->P[i]?=some x->vs[i]?=some v->kindOf x≠some .local ->
  bindC kindOf (P.zip vs) m x=some v
 | [],_,_,_,_,h,_,_=>by simp at h
 | _::_,[],_,_,_,_,h,_=>by simp at h
 | p::P,w::vs,0,m,q,h1,h2,hk=>by
  simp at h1 h2;subst h1;subst h2;show bindC kindOf ((p,w)::P.zip vs) m p=_;unfold bindC;rw [jB fun v hv=>(Qci.mp q).1 (Qe8 hv).1,Qaw hk];simp
 | p::P,w::vs,i + 1,m,q,h1,h2,hk=>by
  unfold bindC;exact jD (i:=i) (Qci.mp q).2 (by simpa using h1) (by simpa using h2) hk
def start(N:Ai)(vs:A0):St:=vs.map some++List.replicate (N.length - vs.length) none
def Zdk(CX:CXT)(P:An)(w:Ar)(K:Af)(mg:Ae)(base:Heap)(N:Ai)(qual:Str)(scope:Scope)(f:Au)(C:As)(A:Ao)(outer:List Env)(s:Aq)(H:Hp)(E:XK):Cx where
 prog:=P
 w:=w
 K:=K
 mg:=mg
 base:=base
 A:=A.deeper (envOfC qual scope s.heap.objs.size f C)
 N:=N
 s₀:=s
 H₀:=H
 env:=envOfC qual scope s.heap.objs.size f C
 outer:=outer
 stack:=envOfC qual scope s.heap.objs.size f C::outer
 ex:=[]
 calm:=true
 fn:=fun _=>true
 pn:=[]
 xe:=fun e s'=>wpAny (model P w) (A.deeper (envOfC qual scope s.heap.objs.size f C)) (leaving (envOfC qual scope s.heap.objs.size f C) e) (fun _ q=>CX outer H s E e q) (fun D q=>CX outer H s E D q) s'
def GQ{C:Scope}(h:C.names.lookup x=some .cell):∃c,(cellsFrom n C.names []).lookup x=some c:=by
 have q:=PySem.W.cellsFrom_some C.names n [] (.inl h);exact Option.isSome_iff_exists.mp q
theorem uC{CX:CXT}{w:Ar}{mg:Ae}{base:Heap}{ps:Ai}{qual:Str}{scope:Scope}{f:Au}{O:As}{A:Ao}{outer:List Env}{Y:Aq}{H:Hp}{E:XK}{vs:A0}
  (S:Zs N ps scope) (hd:A.handled=none) (C:Zgx P w K mg base A outer s H) (hl:vs.length=ps.length) (r:Vals vs J)
  (x:InCallC s s.heap.objs.size (bindL (envOfC qual scope s.heap.objs.size f O).kindOf (ps.zip J) fun _=>none) (cellsFrom (s.heap.objs.size + 1) scope.names []) (bindC (envOfC qual scope s.heap.objs.size f O).kindOf (ps.zip J) fun _=>none) Y) :
  Inv (Zdk CX P w K mg base N qual scope f O A outer s H E) [] (start N vs) H Y:=by
 have Z:ps.length<=N.length:=by have:=congrArg List.length S.pre;rw [Qa0] at this;lia
 obtain ⟨h1,tk,rfl,hk⟩:=x.done;have D:∀b:Au,b∉(Zdk CX P w K mg base N qual scope f O A outer s H E).ex:=fun b z=>absurd (show b∈([]:List Au) from z) (by simp);refine ⟨⟨C.mod,S.kind,rfl,rfl,Qag _,fun y z c h1 h2=>?_,fun y G=>?_,fun y c _ h=>?_,fun _=>hd,Qfw C.frames,.inr ⟨rfl,rfl⟩,fun b z=>absurd z (D b),C.bs,C.bsz,fun b _ _=>D b,fun b z=>absurd z (D b),C.funs,C.frf⟩,
  rfl,C.bare,Un.kept hk,⟨_,x.toInCall.ns,fun i y v h1 h2 h3=>?_⟩,fun y c h=>⟨_,x.cell y c h⟩,C.hok.fresh (Qag _),fun y c h=>?_,fun p hp=>absurd (show p∈([]:Ac) from hp) (by simp),C.hok.kept hk,?_⟩
 ·exact name_of_addr x.apart (Qb5 h1) (Qb5 h2)
 ·rcases G with G | G
  ·exact GQ G
  ·exact absurd rfl (S.nofree _ (Qb5 G))
 ·exact Qav (x.above y c (Qb5 h))
 ·have hi:i < vs.length:=by
   unfold start at h2
   by_cases hi:i < vs.length
   ·exact hi
   ·grind
  have ha:vs[i]?=some v:=by
   unfold start at h2;rw [Qbg (by simpa using hi),Qaj] at h2;cases e:vs[i]? with
   | none=>rw [e] at h2;cases h2
   | some a=>rw [e] at h2;cases h2;rfl
  obtain ⟨u,hu,rv⟩:=r.get ha;have hp:ps[i]?=some y:=by
   rw [<-S.pre,List.getElem?_take_of_lt (by lia)];exact h1
  have I:ps.Nodup:=by rw [<-S.pre];exact S.nd.sublist (Qgv _ _)
  refine ⟨u,rv,?_⟩;rcases S.par y (Qai hp) with k | k
  ·exact .inl ⟨k,jC I hp hu k⟩
  ·obtain ⟨c,e⟩:=GQ (n:=s.heap.objs.size + 1) k
   refine .inr ⟨.inl k,c,e,?_⟩;have q:=x.cell y c e;rw [jD I hp hu (by show scope.names.lookup y≠_;rw [k];decide)] at q;exact q
 ·exact C.hok.fresh (Qav (x.above y c (Qb5 h)))
 ·unfold start
  show _=N.length;rw [Qae,Qac,Qax];lia
def Zjn{CX:CXT}{w:Ar}{mg:Ae}{k:Nat}{f:Au}{name qual:Str}{params:Arguments}{body:List Aw}{scope:Scope}{kV doc pm C ct oc:As}{an od:Option Au}
  {osl:Array (Option As)} {ps:Ai} {sp:Sp} (lk:K.lookup f=some ⟨oc,od,.func (PySem.W.fnOf name qual params body scope c kV doc pm an C ct),osl⟩) (hcd:PySem.W.codeIn K C qual=true) (S:Zs N ps scope)
  (len:∀vs H Q E,sp vs H Q E->vs.length=ps.length)
  (O:∀(A:Ao) (outer:List Env) (s:Aq) (H:Hp) (vs:A0) (Q:VK) (E:XK),WV k (A.deeper (envOfC qual scope s.heap.objs.size f C))->sp vs H Q E ->
   ∃t,PSs (Zdk CX P w K mg h N qual scope f C A outer s H E) body t/\t { nx:=fun _ H'=>Q .non H',rt:=Q } (start N vs) H) :
  YA P w K mg h CX (k + 1) f (PySem.W.fnOf name qual params body scope c kV doc pm an C ct) ps sp:=by
 refine ⟨len,fun A outer s H args us vs Q E hr Y hb r Z=>?_⟩;have hl:=len _ _ _ _ Z;have KX:K.In s.heap:=Y.mod.kin.keeps fun b o e=>(Y.bs b o e).1;have lim:s.heap.NoLimit:=Y.mod.nolimit.keeps fun b o e=>(Y.bs b o e).1;have G:∀y∈ps.zip us,scope.names.lookup y.1=some .local\/(scope.names.lookup y.1=some .cell/\((cellsFrom (s.heap.objs.size + 1) scope.names []).lookup y.1).isSome=true):=fun ⟨n,v⟩ hy=>by
  rcases S.par n (Qe8 hy).1 with q | q
  ·exact .inl q
  ·exact .inr ⟨q,PySem.W.cellsFrom_some _ _ _ (.inl q)⟩
 refine codeAny_call_function hr.depth (KX _ _ lk) rfl S.co S.gen rfl (PySem.W.codeRec_of KX hcd) (hb _ _ _ _ ?_);refine wpAny_newFunctionEnv_cells S.kind G fun env he s1 x=>?_;subst he;refine ⟨lim.keeps x.toInCall.keep,codeAny_func ?_⟩;obtain ⟨t,ht,hq⟩:=O A outer s H vs Q E (hr.deeper _) Z;have I:Inv (Zdk CX P w K mg h N qual scope f C A outer s H E) [] (start N vs) H s1:=uC S hr.hd Y hl r x;refine Qc6 (ht [] s1 (start N vs) H _ I hq) (fun fl s' hs=>?_) fun e s' hs=>hs;have fin:∀{D:St} {H':Hp} {v:V} {u:As},Inv (Zdk CX P w K mg h N qual scope f C A outer s H E) [] D H' s'->RelV v u->Q v H'->CE outer P w H s Q u s' :=
  fun {D H' v u} J rv q=>⟨v,H',J.os,J.bare,J.base,J.hok,rv,q⟩
 cases fl with
 | ret u =>
  obtain ⟨v,D,H',J,rv,q⟩:=hs;exact fin J rv q
 | next =>
  obtain ⟨D,H',J,q⟩:=hs;exact fin (v:=V.non) (u:=Value.none) J rfl q
 | brk =>
  obtain ⟨_,_,_,q⟩:=hs;exact False.elim q
 | cont =>
  obtain ⟨_,_,_,q⟩:=hs;exact False.elim q
section
variable {X:Cx}{x:Str}{p pos:Pos}{e:Av}{es:Al}{t:TA}{id T:String}{r:A0->Hp->VK->Prop}
def tCB(r:A0->Hp->VK->Prop)(t:TA):TE:=fun σ H Q=>t σ H fun vs H1=>r vs H1 Q
def Zdl (hc:Xb X (.builtin id) r) (hg:Gl X x) (hm:X.mg x=none) (hv:bootBuiltins x=some (.builtin id)) (ha:PA X (e::es) t) (hn:x ≠ "__name__" := by decide) (hdb:(x == ("__debug__" : Str))=false:=by decide)
  (he:starEach (e::es) X.env=(false,eval e X.env)::starEach es X.env:=by rfl) (q:(backTo pos (starEach es X.env)).any (·.1)=false:=by rfl):PE X (.Call (.Name x p) (e::es) [] pos) (tCB r t):=by
 intro pins s σ H Q I h;refine Qcv (WN I hg hm hv ?_ hn hdb);exact PyProof.Rows.callWith_builtin1 (thn (ha pos pins s σ H _ I h) fun G O ⟨vs,H1,J,C,D⟩=>hc pins O σ H1 vs G Q J C D) he q
def uD (hc:Xb X (.type T) r) (hg:Gl X x) (hm:X.mg x=none) (hv:bootBuiltins x=some (.type T)) (ha:PA X (e::es) t) (hn:x ≠ "__name__" := by decide) (hdb:(x == ("__debug__" : Str))=false:=by decide)
  (he:starEach (e::es) X.env=(false,eval e X.env)::starEach es X.env:=by rfl) (q:(backTo pos (starEach es X.env)).any (·.1)=false:=by rfl):PE X (.Call (.Name x p) (e::es) [] pos) (tCB r t):=by
 intro pins s σ H Q I h;refine Qcv (WN I hg hm hv ?_ hn hdb);exact Qb9 (thn (ha pos pins s σ H _ I h) fun G O ⟨vs,H1,J,C,D⟩=>hc pins O σ H1 vs G Q J C D) he q
end
end L2
variable {X:L2.Cx}
variable {H g:L2.Hp}
variable {b:L2.Cx}
variable {v:List L2.V}
variable {d O:L2.TE}
variable {f:L2.St}
variable {w:L2.V}
variable {r:L2.TS}
variable {E:L2.TT}
variable {I:L2.VK}
variable {R:L2.HO}
variable {Y:L2.Ends}
namespace HT
open PySem PyProof.Rows
section
open PySem.SeqAt
open PySem.AutoSeq1 (wpAny_loadPart')
open PySem.MeetsSeq PySem.MeetsSeq2 PySem.MeetsSeq3
end
section
variable {prog:An}{w:Ar}{A:Ao}{E:Ab}{s:Aq}
def cat_tup{t b:Au}{vs:Ag}(ht:IsTup s.heap t vs.toArray)(hb:IsTup s.heap b J.toArray)(hv:vs≠[])
  (h1:J=[]->Q (.ref t) s) (h2:J≠[]->Q (.ref s.heap.objs.size) { s with heap:=s.heap.push { cls:=.type "tuple",data:=.seq (vs++J).toArray } })
  (hsz:vs.length + J.length<=sizeLine):A1 prog w A (binaryOp .Add (.ref t) (.ref b)) Q E s:=by
 obtain ⟨⟨cls,dd,data,Z⟩,ho,hc,n,hd⟩:=id ht;obtain ⟨⟨O,D,data2,C⟩,q,I,Y,G⟩:=id hb;subst hc hd I G;have e:vs.toArray++J.toArray=(vs++J).toArray:=by simp
 by_cases hw:J=[]
 ·exact concat_meets ⟨_,ho,rfl⟩ ⟨_,q,rfl⟩ Qhc seq_tuple_add Qfg Qe9 (Qe3 _ _)
   (tuple_addW1 t b vs.toArray J.toArray n Y dd D Z C (by simpa using hv) (by simp [hw])) ⟨ho,q,h1 hw⟩
 ·refine concat_meets ⟨_,ho,rfl⟩ ⟨_,q,rfl⟩ Qhc seq_tuple_add Qfg Qe9 (Qe3 _ _)
   (tuple_addW2 t b vs.toArray J.toArray n Y dd D Z C (by simpa using hv) (by simpa using hw) (by grind)) ⟨ho,q,?_⟩
  rw [e];exact h2 hw
def sIx(n d:Nat):Option Int->Nat
 | none=>d
 | some v=>if v < 0 then (v + (n:Int)).toNat else min v.toNat n
def sIx_none(n d:Nat):sIx n d none=d:=rfl
def sIx_nat(n d k:Nat):sIx n d (some (k:Int))=min k n:=by
 show (if (k:Int) < 0 then ((k:Int) + (n:Int)).toNat else min (k:Int).toNat n)=min k n;rw [Qaw (by lia),Qat]
def sIx_le(n d:Nat)(hd:d<=n)(o:Option Int):sIx n d o<=n:=by
 cases o with
 | none=>exact hd
 | some v =>
  show (if v < 0 then (v + (n:Int)).toNat else min v.toNat n)<=n
  by_cases hv:v < 0
  ·rw [Qa1 hv];lia
  ·grind
def uE(v:Int)(n d:Nat):(if v < 0 then max (v + (n:Int)) 0 else min v (n:Int))=((sIx n d (some v):Nat):Int):=by
 show (if v < 0 then max (v + (n:Int)) 0 else min v (n:Int))=(((if v < 0 then (v + (n:Int)).toNat else min v.toNat n):Nat):Int)
 by_cases hv:v < 0
 ·simp only [Qa1 hv];lia
 ·simp only [Qaw hv];lia
def wW(lo hi:Option Int)(n:Nat):Builtin.Slice.sliceAdjust lo hi 1 (n:Int)=(((sIx n 0 lo:Nat):Int),((sIx n n hi:Nat):Int)):=by
 have h1:¬((1:Int) < 0):=by lia
 unfold Builtin.Slice.sliceAdjust;refine Qht ?_ ?_
 ·cases lo with
  | none=>rfl
  | some v=>exact uE v n 0
 ·cases hi with
  | none=>rfl
  | some v=>exact uE v n n
def wX(i j:Nat):Builtin.Slice.slicePlaces (i:Int) (j:Int) 1=j - i:=by
 unfold Builtin.Slice.slicePlaces
 split <;> lia
def xI{v:As}{o:Option Int}{Q:Option Int->Shared->Prop}(p:IsPart v o)(h:Q o s):A1 prog w A (Builtin.Slice.slicePartIndex v) Q E s:=by
 cases p with
 | none=>exact slicePart_none h
 | int i t=>exact slicePart_int h
def We{vu:As}{lo hi:Option Int}{Q:Int × Int × Nat->Shared->Prop}(hs:s.heap.IsSliceOf a c vu .none)(pl:IsPart c lo)(D:IsPart vu hi)
  (h:Q (((sIx n 0 lo:Nat):Int),1,sIx n n hi - sIx n 0 lo) s):A1 prog w A (Builtin.Slice.sliceApplied (.ref a) (pure (n:Int))) Q E s:=by
 obtain ⟨os,q,G,C⟩:=id hs;refine Qaa (Qaa (Qbx q C (x:=c) rfl (Qaa (Qbx q C (x:=vu) rfl (Qaa (Qbx q C (x:=.none) rfl (Qad ?_)))))));refine Qaa (slicePart_none ?_);refine Qaa (xI pl (Qaa (xI D (Qaa (Qad ?_)))));show wpAny _ _ (match Builtin.Slice.sliceAdjust lo hi 1 (n:Int) with | (lo,hi)=>pure (lo,(1:Int),Builtin.Slice.slicePlaces lo hi 1)) _ _ s;rw [wW lo hi n];show wpAny _ _ (pure (((sIx n 0 lo:Nat):Int),(1:Int),Builtin.Slice.slicePlaces ((sIx n 0 lo:Nat):Int) ((sIx n n hi:Nat):Int) 1)) _ _ s;rw [wX];exact Qad h
def Zdm(xs:Ah)(i k:Nat):((List.range k).filterMap fun (m:Nat)=>xs[((i:Int) + (m:Int) * 1).toNat]?).toArray=((xs.toList.drop i).take k).toArray:=by
 have e:(fun (m:Nat)=>xs[((i:Int) + (m:Int) * 1).toNat]?)=fun m=>xs[i + m]?:=by
  grind
 rw [e];have:=pick_run xs i k;rw [List.filterMap_map] at this;have e2:((fun x=>xs[x]?) ∘ fun x=>i + x)=fun m=>xs[i + m]?:=rfl;rw [e2] at this;rw [this]
def getItem_tuple_cut{t:Au}{items:Ah}{vu:As}{lo hi:Option Int}(C:IsTup s.heap t items)(hs:s.heap.IsSliceOf a c vu .none)(pl:IsPart c lo)(Y:IsPart vu hi)
  (hw:¬(sIx items.size 0 lo=0/\sIx items.size items.size hi=items.size))
  (h:Q (.ref s.heap.objs.size) { s with heap:=s.heap.push { cls:=.type "tuple",data:=.seq ((items.toList.drop (sIx items.size 0 lo)).take (sIx items.size items.size hi - sIx items.size 0 lo)).toArray } })
  (hsz:items.size<=sizeLine):A1 prog w A (getItem (.ref t) (.ref a)) Q E s:=by
 have q:sizeOk (.seq ((items.toList.drop (sIx items.size 0 lo)).take (sIx items.size items.size hi - sIx items.size 0 lo)).toArray):=by
  show ((items.toList.drop (sIx items.size 0 lo)).take (sIx items.size items.size hi - sIx items.size 0 lo)).toArray.size<=sizeLine;rw [Qbb,Qa0,Qcn,Qbs];lia
 obtain ⟨os,I,G,O⟩:=id hs;have D:s.TypeIs (.ref a) "slice" := ⟨os,I,G⟩;unfold getItem
 try with_reducible refine Qcp ?_
 first | refine Qaa (Qad ?_) | skip
 refine Qaa (wpAny_sequenceKey C.typeIs (by decide) ?_);refine Qaa (wpAny_callSpecial?_slot (name:=Str.ofString "__getitem__") C.typeIs Qbt
  (Qbc Qbt C.typeIs entry_tuple_getitem ?_ (args_tuple_getitem _ _)))
 show wpAny _ _ (Builtin.Tuple.tupleItemsOf (.ref t) >>= _) _ _ s;refine Qaa (tupleItemsOf_ C ?_);refine Qaa (Qel D ?_);refine Qaa (We hs pl Y ?_);have J:¬((((sIx items.size 0 lo:Nat):Int) == 0 && (1:Int) == 1 && (sIx items.size items.size hi - sIx items.size 0 lo) == items.size)=true):=by
  grind
 show wpAny _ _ (if (((sIx items.size 0 lo:Nat):Int) == 0 && (1:Int) == 1 && (sIx items.size items.size hi - sIx items.size 0 lo) == items.size)=true then _ else _) _ _ s;rw [Qaw J,Zdm]
 first
  | exact Qaa (m:=Builtin.Tuple.tupleExact _) (Qa9 (Qad ⟨_,rfl,Qad h⟩) q)
  | exact Qaa (m:=Builtin.Tuple.tupleExact _) (Qa9 (Qaa (Qad (Qad ⟨_,rfl,Qad h⟩))) q)
  | exact Qaa (Qaa (m:=Builtin.Tuple.tupleExact _) (Qa9 (Qad (Qad ⟨_,rfl,Qad h⟩)) q))
  | exact Qaa (Qaa (m:=Builtin.Tuple.tupleExact _) (Qa9 (Qad ⟨_,rfl,Qad h⟩) q))
end
end HT
namespace L2
abbrev TO:=St->Hp->(Option Int->Hp->Prop)->Prop
def PO(X:Cx)(e:Option Av)(t:TO):Prop :=
 ∀(pins:Ac) (s:Aq) (σ:St) (H:Hp) (Q:Option Int->Hp->Prop),Inv X pins σ H s->t σ H Q ->
  A2 X (evalPart e X.env) (fun u s'=>∃o H',Inv X pins σ H' s'/\IsPart u o/\Q o H') X.xe s
def uF:TO:=fun _ H Q=>Q none H
def Zjo(t:TE):TO:=fun σ H Q=>t σ H fun x H1=>∃i,x=.int i/\Q (some i) H1
theorem intsAre_of:∀{q:Ag},Vals (C.map V.int) q->IntsAre q C:=by
 induction C with
 | nil=>intro q r;cases r;exact .nil
 | cons n C I =>
  intro q r;cases r with
  | cons D G =>
   obtain ⟨t,e⟩:=D;subst e;exact .cons n t (I G)
section
variable {X:Cx}{e:Av}{te:TE}{lo hi:Option Av}{tl th:TO}{pos p2:Pos}
def Zgz:PO X none uF:=by
 intro pins s σ H Q I h;exact Qad ⟨none,H,I,.none,h⟩
def Zg0(h:PE X e te):PO X (some e) (Zjo te):=by
 intro pins s σ H Q I hw;refine thn (h pins s σ H _ I hw) fun u J ⟨x,H1,G,C,D⟩=>?_;obtain ⟨i,rfl,q⟩:=D;obtain ⟨t,rfl⟩:=C;exact ⟨some i,H1,G,.int i t,q⟩
def SlR(X:Cx)(r:V->Option Int->Option Int->Hp->VK->Prop):Prop :=
 ∀(pins:Ac) (s:Aq) (σ:St) (H:Hp) (x:V) (v q vu:As) (lo hi:Option Int) (C:Au) (Q:VK),Inv X pins σ H s->RelV x v->s.heap.IsSliceOf C q vu .none->IsPart q lo->IsPart vu hi->r x lo hi H Q ->
  ∃T id,typeLookup (.type T) "__getitem__" = pure (some (.builtin id))/\s.TypeIs v T/\A2 X (getItem v (.ref C)) (EP X pins σ Q) X.xe s
def SlR.or{r D:V->Option Int->Option Int->Hp->VK->Prop}(h:SlR X r)(h':SlR X D):SlR X (fun x lo hi H Q=>r x lo hi H Q\/D x lo hi H Q):=by
 intro pins s σ H x v C vu lo hi O Q I J hs pl G q;rcases q with q | q
 ·exact h pins s σ H x v C vu lo hi O Q I J hs pl G q
 ·exact h' pins s σ H x v C vu lo hi O Q I J hs pl G q
def tSl(r:V->Option Int->Option Int->Hp->VK->Prop)(te:TE)(tl th:TO):TE:=fun σ H Q=>te σ H fun x H1=>tl σ H1 fun l H2=>th σ H2 fun u q=>r x l u q Q
def Zdn{r:V->Option Int->Option Int->Hp->VK->Prop}(hr:SlR X r)(he:PE X e te)(hl:PO X lo tl)(hu:PO X hi th):PE X (.Subscript e (.Slice lo hi none p2) pos) (tSl r te tl th):=by
 intro pins s σ H Q I h;refine Subscript_ (thn (he pins s σ H _ I h) fun v s1 ⟨x,H1,I1,r1,q1⟩=>?_);refine wpAny_Slice (thn (hl pins s1 σ H1 _ I1 q1) fun D Y ⟨l,H2,I2,pl,q2⟩=>thn (hu pins Y σ H2 _ I2 q2) fun vu C ⟨u,G,Z,pu,O⟩=>?_);refine Qad ?_;have J:Inv X pins σ G { C with heap:=C.heap.push { cls:=.type "slice",data:=.fields #[D,vu,.none] } }:=Z.kept (t':=C.toks) fun b ob q=>Qab _ q;obtain ⟨T,id,hT,ht,hg⟩:=hr pins { C with heap:=C.heap.push { cls:=.type "slice",data:=.fields #[D,vu,.none] } } σ G x v D vu l u C.heap.objs.size Q J r1 (Heap.IsSliceOf.new ..) pl pu O;exact tail_any (ops:=[.ref C.heap.objs.size,v]) ht hT hg (by with_unfolding_all rfl)
def xf(xs:A0)(lo hi:Option Int):A0:=(xs.drop (HT.sIx xs.length 0 lo)).take (HT.sIx xs.length xs.length hi - HT.sIx xs.length 0 lo)
def XD(xs:A0)(lo hi:Option Int):(xf xs lo hi).length<=xs.length:=by
 unfold xf;rw [Qa0,Qcn];lia
def rSlT(K:Af):V->Option Int->Option Int->Hp->VK->Prop:=fun x lo hi H Q=>∃a xs,x=.ref a/\SqT K H a xs /\
 ¬(HT.sIx xs.length 0 lo=0/\HT.sIx xs.length xs.length hi=xs.length)/\∀p,H p=none->Q (.ref p) (upd H p (.tup (xf xs lo hi)))
def uG:SlR X (rSlT X.K):=by
 intro pins s σ H x v Y vu lo hi Z Q I O hs pl J h;obtain ⟨a,xs,rfl,hx,hw,q⟩:=h;cases O;obtain ⟨D,r,G,hz⟩:=I.tuple hx;have C:D.toArray.size=xs.length:=by exact r.length.symm
 refine ⟨"tuple",_,Qbt.lookup,G.typeIs,?_⟩;refine HT.getItem_tuple_cut G hs pl J (by rw [C];exact hw) ?_ (by rw [C];exact hz);rw [C];refine ⟨.ref s.heap.objs.size,_,I.laid (t':=s.toks) (o:=.tup (xf xs lo hi)) (fun b ob q=>Qab _ q) (Qag _) ?_,rfl,q _ (I.hok.fresh (Qag _))⟩;exact ⟨Qa8 (XD xs lo hi) hz,_,(r.drop (HT.sIx xs.length 0 lo)).take (HT.sIx xs.length xs.length hi - HT.sIx xs.length 0 lo),jz.new _ _⟩
def Vals.nil_iff{xs:A0}(r:Vals xs J):J=[]↔xs=[]:=by
 cases r with
 | nil=>simp
 | cons _ _=>simp
end
end L2
namespace L2
def ixN(n:Nat)(i:Int):Option Nat:=if 0<=i then (if i < n then some i.toNat else none) else if -(n:Int)<=i then some (i + n).toNat else none
def atI(xs:List m)(i:Int):Option m:=(ixN xs.length i).bind fun j=>xs[j]?
def Zg1{i:Int}{j:Nat}(h:ixN n i=some j):seqIndex? i n=some j/\j < n/\-(n:Int)<=i/\i < n:=by
 unfold ixN at h
 by_cases q:0<=i
 ·rw [Qa1 q] at h
  by_cases h1:i < n
  ·rw [Qa1 h1] at h
   have e:i.toNat=j:=Option.some.inj h;exact ⟨by rw [seqIndex_of q h1,e],by lia,by lia,h1⟩
  ·rw [Qaw h1] at h;cases h
 ·rw [Qaw q] at h
  by_cases h1:-(n:Int)<=i
  ·rw [Qa1 h1] at h
   have e:(i + n).toNat=j:=Option.some.inj h;exact ⟨by rw [seqIndex_neg (by lia) h1,e],by lia,h1,by lia⟩
  ·rw [Qaw h1] at h;cases h
def yN{xs:List m}{i:Int}{v:m}(h:atI xs i=some v):∃j,seqIndex? i xs.length=some j/\xs[j]?=some v/\j < xs.length/\-(xs.length:Int)<=i/\i < xs.length:=by
 unfold atI at h;cases e:ixN xs.length i with
 | none=>rw [e] at h;cases h
 | some j =>
  rw [e] at h;obtain ⟨h1,h2,C,q⟩:=Zg1 e;exact ⟨j,h1,h,h2,C,q⟩
def Yh{xs:List m}{j:Nat}{v:m}(h:xs[j]?=some v):atI xs (j:Int)=some v:=by
 have q:j < xs.length:=(Qah.mp h).1;have e:ixN xs.length (j:Int)=some j:=by
  unfold ixN;rw [Qa1 (by lia),Qa1 (by lia)];simp
 unfold atI;rw [e];exact h
def zm(xs:List m)(v:m):atI (xs++[v]) (-1)=some v:=by
 have hl:(xs++[v]).length=xs.length + 1:=by simp
 have e:ixN (xs++[v]).length (-1)=some xs.length:=by
  unfold ixN;rw [hl,Qaw (by decide),Qa1 (by lia)];congr 1;lia
 unfold atI;rw [e];simp
def uH(b:Av):Prop:=∀o i,subscripted b false o i=operate [o,i] (getItem o i)
def IxR(X:Cx)(r:R2):Prop :=
 ∀(value q:Av) (pins:Ac) (s:Aq) (σ:St) (H:Hp) (x y:V) (v u:As) (Q:VK),Inv X pins σ H s->RelV x v->RelV y u->r x y H Q ->
  subscripted q false v u=operate [v,u] (getItem v u)->A2 X (subscriptTail value q v u) (EP X pins σ Q) X.xe s
def MtR(X:Cx)(id:String)(r:V->List V->Hp->VK->Prop):Prop :=
 ∀(pins:Ac) (s:Aq) (σ:St) (H:Hp) (x:V) (xs:A0) (v:As) (q:Ag) (Q:VK),Inv X pins σ H s->RelV x v->Vals xs q->r x xs H Q ->
  A2 X (call (.builtin id) (v::q)) (EP X pins σ Q) X.xe s
section
variable {X:Cx}{a b:Av}{ta tb:TE}{pos:Pos}
def pe_ix{r:R2}(hr:IxR X r)(ha:PE X a ta)(hb:PE X b tb)(hs:uH b):PE X (.Subscript a b pos) (tOp r ta tb):=by
 intro pins s σ H Q I h;exact Subscript_ (binT ha hb I h fun v u C x y H2 D G J q=>hr a b pins C σ H2 x y v u Q D G J q (hs _ _))
def Zjp(K:Af):R2:=fun x y H Q=>∃p xs i v,x=.ref p/\y=.int i/\SqL K H p xs/\atI xs i=some v/\Q v H
def Zc7(K:Af):R2:=fun x y H Q=>∃p xs i v,x=.ref p/\y=.int i/\SqT K H p xs/\atI xs i=some v/\Q v H
def rIxS:R2:=fun x y H Q=>∃z i c,x=.str z/\y=.int i/\z.length<=sizeLine/\atI z.cps.toList i=some c/\Q (.str ⟨#[c]⟩) H
def Zy:IxR X (Zjp X.K):=by
 intro value C pins s σ H x y v u Q I rx ry h hs;obtain ⟨p,xs,i,z,rfl,rfl,hq,he,q⟩:=h;cases rx;obtain ⟨t,rfl⟩:=ry;obtain ⟨G,r,pl,hz⟩:=I.list hq;obtain ⟨j,h1,h2,h3,h4,Z⟩:=yN he;obtain ⟨w,O,D⟩:=r.get h2;have hl:=r.length;have hn:=qf;have fin:EP X pins σ Q w s:=⟨z,H,I,D,q⟩
 by_cases Y:0<=i
 ·have J:i.toNat=j:=by
   rw [seqIndex_of Y Z] at h1;exact Option.some.inj h1
  exact item_listR pl.isList Y (by lia) (by rw [J];simpa using O) fin hs
 ·have J:(i + (G.toArray.size:Int)).toNat=j:=by
   rw [seqIndex_neg (by lia) h4] at h1;rw [Qbb,<-hl];exact Option.some.inj h1
  exact subscriptTail_builtinR (x:=w) pl.isList.typeIs slot_list_getitem.lookup
   (wpAny_getItem_list_neg (Q:=fun r s'=>r=w/\EP X pins σ Q r s') pl.isList (by lia) (by rw [Qbb] <;> lia) (by lia) (by rw [J];simpa using O) ⟨rfl,fin⟩) hs
def Zu:IxR X (Zc7 X.K):=by
 intro value C pins s σ H x y v u Q I Z O h hs;obtain ⟨p,xs,i,z,rfl,rfl,J,he,q⟩:=h;cases Z;obtain ⟨t,rfl⟩:=O;obtain ⟨Y,r,pl,hz⟩:=I.tuple J;obtain ⟨j,h1,h2,h3,h4,h5⟩:=yN he;obtain ⟨w,G,D⟩:=r.get h2;have hl:=r.length;have hn:=qf;have fin:EP X pins σ Q w s:=⟨z,H,I,D,q⟩;exact subscriptTail_builtinR (x:=w) pl.typeIs slot_tuple_getitem.lookup
  (getItem_tuple (j:=j) (Q:=fun r s'=>r=w/\EP X pins σ Q r s') pl (by lia) (by lia) (by rw [Qbb,<-hl];exact h1) (by simpa using G) ⟨rfl,fin⟩) hs
def uI:IxR X rIxS:=by
 intro value C pins s σ H x y v u Q I J O h hs;obtain ⟨z,i,c,rfl,rfl,hz,he,q⟩:=h;obtain ⟨t,rfl⟩:=J;obtain ⟨t',rfl⟩:=O;obtain ⟨j,h1,h2,Y,G,D⟩:=yN he;have hl:z.cps.toList.length=z.length:=by simp [Str.length]
 rw [hl] at h1 G D;have hn:=qf;exact tail_any (typeIs_str s z t) slot_str_getitem.lookup (getItem_str (c:=c) (by
  grind) (by rw [h1];simpa using h2) ⟨.str ⟨#[c]⟩,H,I.tok _,⟨_,rfl⟩,q⟩) hs
def jE(lo hi:Option Int)(n:Nat):(sliceBounds lo hi none n).1=((HT.sIx n 0 lo:Nat):Int)/\(sliceBounds lo hi none n).2.1=((HT.sIx n n hi:Nat):Int)/\(sliceBounds lo hi none n).2.2=1:=by
 refine ⟨?_,?_,rfl⟩
 ·cases lo with
  | none=>simp [sliceBounds,HT.sIx]
  | some i =>
   simp only [sliceBounds,HT.sIx,Option.getD_none,show (1:Int) > 0 by decide,Qhg]
   by_cases h:i < 0
   ·simp only [h,Qhg] <;> lia
   ·simp only [h,Qf4] <;> lia
 ·cases hi with
  | none=>simp [sliceBounds,HT.sIx]
  | some i =>
   simp only [sliceBounds,HT.sIx,Option.getD_none,show (1:Int) > 0 by decide,Qhg]
   by_cases h:i < 0
   ·simp only [h,Qhg] <;> lia
   ·simp only [h,Qf4] <;> lia
def zo(q:Ag)(lo hi:Option Int):slicePick q.toArray lo hi none=((q.drop (HT.sIx q.length 0 lo)).take (HT.sIx q.length q.length hi - HT.sIx q.length 0 lo)).toArray:=by
 obtain ⟨h1,h2,C⟩:=jE lo hi q.toArray.size;unfold slicePick;rw [h1,h2,C];simp only [sliceRange_one,pick_run,Qbb] <;> rfl
def rSlL(K:Af):V->Option Int->Option Int->Hp->VK->Prop:=fun x lo hi H Q=>∃a xs,x=.ref a/\SqL K H a xs/\∀p,H p=none->Q (.ref p) (upd H p (.lst (xf xs lo hi)))
def zp:SlR X (rSlL X.K):=by
 intro pins s σ H x v Y vu lo hi Z Q I O hs pl J h;obtain ⟨a,xs,rfl,hx,q⟩:=h;cases O;obtain ⟨G,r,D,hz⟩:=I.list hx;have C:=r.length;refine ⟨"list",_,slot_list_getitem.lookup,D.isList.typeIs,?_⟩;refine wpAny_getItem_list_slice D.isList hs pl J .none (by simp) ?_ (by rw [Qbb] <;> lia);rw [zo,<-C];refine ⟨.ref s.heap.objs.size,_,I.laid (t':=s.toks) (o:=.lst (xf xs lo hi)) (fun b ob q=>Qab _ q) (Qag _) ?_,rfl,q _ (I.hok.fresh (Qag _))⟩;exact ⟨Qa8 (XD xs lo hi) hz,_,0,(r.drop (HT.sIx xs.length 0 lo)).take (HT.sIx xs.length xs.length hi - HT.sIx xs.length 0 lo),Qak _ rfl⟩
def GA:V->Bool
 | .non=>true
 | .bl _=>true
 | .int _=>true
 | .str _=>true
 | _=>false
def eqV:V->V->Bool
 | .non,.non=>true
 | .bl a,.bl b=>a == b
 | .bl a,.int b=>(if a then 1 else 0) == b
 | .int a,.bl b=>a == (if b then 1 else 0)
 | .int a,.int b=>a == b
 | .str a,.str b=>a == b
 | _,_=>false
def eqAt_V{A:Ao}{y x:V}{u v:As}(C:RelV y u)(q:RelV x v)(D:GA y=true)(fx:GA x=true):SeqAt.EqAt A s u v (eqV y x):=by
 cases y with
 | non =>
  cases C;cases x with
  | non=>cases q;exact SeqAt.EqAt.same _
  | bl b=>cases q;exact SeqAt.EqAt.none_bool b
  | int b=>obtain ⟨t,rfl⟩:=q;exact SeqAt.EqAt.none_int b t
  | str b=>obtain ⟨t,rfl⟩:=q;exact SeqAt.EqAt.none_str b t
  | _=>exact absurd (show false=true from fx) Qa5
 | bl a =>
  cases C;cases x with
  | non=>cases q;exact SeqAt.EqAt.bool_none a
  | bl b=>cases q;exact SeqAt.EqAt.bool_bool a b
  | int b=>obtain ⟨t,rfl⟩:=q;exact SeqAt.EqAt.bool_int a b t
  | str b=>obtain ⟨t,rfl⟩:=q;exact SeqAt.EqAt.bool_str a b t
  | _=>exact absurd (show false=true from fx) Qa5
 | int a =>
  obtain ⟨t',rfl⟩:=C;cases x with
  | non=>cases q;exact SeqAt.EqAt.int_none a t'
  | bl b=>cases q;exact SeqAt.EqAt.int_bool a t' b
  | int b=>obtain ⟨t,rfl⟩:=q;exact SeqAt.EqAt.int_int a t' b t
  | str b=>obtain ⟨t,rfl⟩:=q;exact SeqAt.EqAt.int_str a t' b t
  | _=>exact absurd (show false=true from fx) Qa5
 | str a =>
  obtain ⟨t',rfl⟩:=C;cases x with
  | non=>cases q;exact SeqAt.EqAt.str_none a t'
  | bl b=>cases q;exact SeqAt.EqAt.str_bool a t' b
  | int b=>obtain ⟨t,rfl⟩:=q;exact SeqAt.EqAt.str_int a t' b t
  | str b=>obtain ⟨t,rfl⟩:=q;exact SeqAt.EqAt.str_str a t' b t
  | _=>exact absurd (show false=true from fx) Qa5
 | _=>exact absurd (show false=true from D) Qa5
def eqU(x:V)(u:As):Bool:=match u with
 | .none=>eqV .non x
 | .bool b=>eqV (.bl b) x
 | .int i _=>eqV (.int i) x
 | .str z _=>eqV (.str z) x
 | _=>false
def Zfi{x y:V}{u:As}(r:RelV y u)(f:GA y=true):eqU x u=eqV y x:=by
 cases y with
 | non=>cases r;rfl
 | bl b=>cases r;rfl
 | int i=>obtain ⟨t,rfl⟩:=r;rfl
 | str z=>obtain ⟨t,rfl⟩:=r;rfl
 | _=>exact absurd (show false=true from f) Qa5
theorem yO{x:V}:∀{xs:A0} {q:Ag},Vals xs q->xs.all GA=true->q.any (eqU x)=xs.any fun y=>eqV y x
 | _,_,.nil,_=>rfl
 | y::xs,u::q,.cons r t,f=>by
  rw [Qdp,Qb8] at f;rw [Qf5,Qf5,Zfi r f.1,yO t f.2]
theorem zq{A:Ao}{s:Aq}{x:V}{v:As}(C:RelV x v)(fx:GA x=true):∀{xs:A0} {q:Ag},Vals xs q->xs.all GA=true->∀u∈q,SeqAt.EqAt A s u v (eqU x u)
 | _,_,.nil,_=>fun u hu=>by cases hu
 | y::xs,u::q,.cons r t,f=>fun D hu=>by
  rw [Qdp,Qb8] at f;rcases Qan.mp hu with rfl | hu
  ·rw [Zfi r f.1];exact eqAt_V r C f.1 fx
  ·exact zq C fx t f.2 D hu
def inV(x:V)(xs:A0):Bool:=xs.any fun y=>eqV y x
def rIn(K:Af)(neg:Bool):R2:=fun x y H Q=>∃p xs,y=.ref p/\(SqL K H p xs\/SqT K H p xs)/\GA x=true/\xs.all GA=true/\Q (.bl (if neg then !inV x xs else inV x xs)) H
def YS:OpR X (compareOp .In) (rIn X.K false):=by
 intro pins s σ H x y v u Q I G J h;obtain ⟨p,xs,rfl,D,fx,fs,q⟩:=h;cases J;rcases D with D | D
 ·obtain ⟨C,r,pl,hz⟩:=I.list D
  refine SeqAt.in_listAt (eqU x) pl.isList (fun w hw=>zq G fx r fs w (by simpa using hw)) ⟨.bl _,H,I,rfl,?_⟩;rw [show C.toArray.any (eqU x)=C.any (eqU x) by simp,yO r fs];exact q
 ·obtain ⟨C,r,pl,hz⟩:=I.tuple D
  refine SeqAt.in_tupleAt (eqU x) pl (fun w hw=>zq G fx r fs w (by simpa using hw)) ⟨.bl _,H,I,rfl,?_⟩;rw [show C.toArray.any (eqU x)=C.any (eqU x) by simp,yO r fs];exact q
def ZE:Xb X (.builtin "len") (fun xs H Q=>∃p ys,xs=[.ref p]/\(SqL X.K H p ys\/SqT X.K H p ys)/\Q (.int ys.length) H):=by
 intro pins s σ H xs Y Q I r h;obtain ⟨p,ys,rfl,D,q⟩:=h;obtain ⟨u,rfl,O⟩:=vals1 r;cases O;have hn:=qf;rcases D with D | D
 ·obtain ⟨G,J,pl,hz⟩:=I.list D
  have C:=J.length;exact Calls.call_len_list pl.isList (by simp only [Qbb] <;> lia) ⟨.int ys.length,H,I.tok _,⟨s.toks + 1,by rw [Qbb,C]⟩,q⟩
 ·obtain ⟨G,J,pl,hz⟩:=I.tuple D
  have C:=J.length;exact len_tuple pl (by simp only [Qbb] <;> lia) ⟨.int ys.length,H,I.tok _,⟨s.toks + 1,by rw [Qbb,C]⟩,q⟩
def Gs:Xb X (.builtin "len") (fun xs H Q=>∃z,xs=[.str z]/\z.length<=sizeLine/\Q (.int z.length) H):=by
 intro pins s σ H xs C Q I r h;obtain ⟨z,rfl,hz,q⟩:=h;obtain ⟨u,rfl,t,rfl⟩:=vals1 r;have hn:=qf;exact len_str (by lia) ⟨.int z.length,H,I.tok _,⟨_,rfl⟩,q⟩
def Z5:Xb X (.type "tuple") (fun xs H Q=>∃p ys,xs=[.ref p]/\((SqL X.K H p ys/\∀l,H l=none->Q (.ref l) (upd H l (.tup ys)))\/(SqT X.K H p ys/\Q (.ref p) H))):=by
 intro pins s σ H xs us Q I r h;obtain ⟨p,ys,rfl,h⟩:=h;obtain ⟨u,rfl,Z⟩:=vals1 r;cases Z;rcases h with ⟨G,q⟩ | ⟨G,q⟩
 ·obtain ⟨C,D,pl,hz⟩:=I.list G
  have J:=D.length;refine call_tuple_list pl.isList (fun h' kp=>?_) (by simp only [Qbb] <;> lia);have O:Inv X pins σ H { s with heap:=h' }:=I.kept (t':=s.toks) kp;have Y:Inv X pins σ (upd H h'.objs.size (.tup ys)) { s with heap:=h'.push { cls:=.type "tuple",data:=.seq C.toArray } } :=
   O.laid (t':=s.toks) (fun b o e=>Qab _ e) (Qag _) (show Yl X.prog X.w _ _ _ (.tup ys) from ⟨hz,C,D,jz.new _ _⟩)
  exact ⟨.ref h'.objs.size,_,Y,rfl,q _ (O.hok.fresh (Qag _))⟩
 ·obtain ⟨C,D,pl,hz⟩:=I.tuple G
  exact call_tuple_same pl ⟨.ref p,H,I,rfl,q⟩
def tyV(K:Af)(T:String)(x:V)(H:Hp):Prop:=match x with
 | .str _=>T = "str"
 | .int _=>T = "int"
 | .ref p=>(T = "list" /\ ∃xs,SqL K H p xs)\/(T = "tuple" /\ ∃o,K.lookup p=some o/\o.cls=.type "tuple" /\ o.dict=none) \/
   (T = "dict" /\ ((∃kvs,H p=some (.dK kvs))\/∃kvs,H p=some (.dT kvs)))\/(T = "set" /\ ∃S n,H p=some (.set S n))
 | _=>False
def Zfj{pins:Ac}{T:String}{x:V}{v:As}(I:Inv X pins f H s)(r:RelV x v)(ty:tyV X.K T x H) :
  s.TypeIs v T/\∀a,v=.ref a->∃ob,s.heap.get? a=some ob/\ob.dict=none:=by
 cases x with
 | str z =>
  obtain ⟨t,rfl⟩:=r;cases (show T = "str" from ty);exact ⟨typeIs_str s z t,fun _ e=>nomatch e⟩
 | int i =>
  obtain ⟨t,rfl⟩:=r;cases (show T = "int" from ty);exact ⟨Qf8 s i t,fun _ e=>nomatch e⟩
 | ref p =>
  cases r;rcases ty with ⟨rfl,xs,C⟩ | ⟨rfl,o,hk,hc,hd⟩ | ⟨rfl,hk⟩ | ⟨rfl,S,n,hk⟩
  ·obtain ⟨q,_,pl,_⟩:=I.list C
   refine ⟨pl.isList.typeIs,fun a e=>?_⟩;cases e;obtain ⟨o,n,e,c,hd,_⟩:=pl;exact ⟨o,e,hd⟩
  ·refine ⟨⟨o,I.kIn p o hk,hc⟩,fun a e=>?_⟩
   cases e;exact ⟨o,I.kIn _ o hk,hd⟩
  ·have z:∃o,s.heap.get? p=some o/\o.ExactDict:=by
    rcases hk with ⟨kvs,hk⟩ | ⟨kvs,hk⟩
    ·obtain ⟨_,_,_,_,o,_,_,e,ex,_⟩:=I.hok p _ hk
     exact ⟨o,e,ex⟩
    ·obtain ⟨_,_,_,_,o,_,_,e,ex,_⟩:=I.hok p _ hk
     exact ⟨o,e,ex⟩
   obtain ⟨o,e,ex⟩:=z;refine ⟨⟨o,e,ex.1⟩,fun a e2=>?_⟩;cases e2;exact ⟨o,e,ex.2.1⟩
  ·obtain ⟨o,_,_,_,e,ex,_⟩:=I.hok p _ hk
   refine ⟨⟨o,e,ex.1⟩,fun a e2=>?_⟩;cases e2;exact ⟨o,e,ex.2.1⟩
 | _=>exact False.elim ty
def Zkp(K:Af)(T:String)(r:V->List V->Hp->VK->Prop)(to:TE):TE:=fun σ H Q=>to σ H fun x H1=>tyV K T x H1/\r x [] H1 Q
def tBM(K:Af)(T:String)(r:V->List V->Hp->VK->Prop)(to:TE)(t:TA):TE:=fun σ H Q=>to σ H fun x H1=>tyV K T x H1/\t σ H1 fun xs H2=>r x xs H2 Q
variable {o e:Av}{es:Al}{to:TE}{t:TA}{name:Str}{apos cpos:Pos}{T id:String}{r:V->List V->Hp->VK->Prop}
def pe_bm0 (pa:PlainAttrs T) (slot:Slot T name id) (hty:typeOf (.builtin id)=pure (.type "method_descriptor")) (hm:MtR X id r) (ho:PE X o to)
  (hbase:attributeBase o name X.env (eval o X.env)=eval o X.env:=by rfl) (hline:(apos.endLine == cpos.line)=true:=by rfl):PE X (.Call (.Attribute o name apos) [] [] cpos) (Zkp X.K T r to):=by
 intro pins s σ H Q I h;refine wpAny_Call_method0_late hbase hline (thn (ho pins s σ H _ I h) fun v G ⟨x,H1,C,q,ty,D⟩=>?_);obtain ⟨h1,h2⟩:=Zfj C q ty;exact ⟨T,id,pa,slot,hty,h1,h2,Qfh rfl (PySem.evalArgs_none (hm pins G σ H1 x [] v [] Q C q .nil D))⟩
def pe_bm (pa:PlainAttrs T) (slot:Slot T name id) (hty:typeOf (.builtin id)=pure (.type "method_descriptor")) (hm:MtR X id r) (ho:PE X o to) (ha:PA X (e::es) t)
  (hbase:attributeBase o name X.env (eval o X.env)=eval o X.env:=by rfl)
  (q:((backTo cpos (starEach (e::es) X.env)).all (fun x=>!x.1) && (backToKw cpos (keywordEach [] X.env)).all (fun x=>x.1.isSome)
   && decide ((e::es).length + ([]:List Keyword).length + (if ([]:List Keyword).isEmpty then 0 else 1) < 30))=true:=by rfl)
  (hline:(apos.endLine == cpos.line)=true:=by rfl) (hs:starEach (e::es) X.env=(false,eval e X.env)::starEach es X.env:=by rfl) (C:(backTo cpos (starEach es X.env)).any (·.1)=false:=by rfl) :
  PE X (.Call (.Attribute o name apos) (e::es) [] cpos) (tBM X.K T r to t):=by
 intro pins s σ H Q I h;refine wpAny_Call_method_late hbase q hline rfl (thn (ho pins s σ H _ I h) fun v s1 ⟨x,H1,J,G,ty,q1⟩=>?_);obtain ⟨h1,h2⟩:=Zfj J G ty;refine ⟨T,id,pa,slot,hty,h1,h2,?_⟩;have D:=ha cpos pins s1 σ H1 _ J q1;rw [hs] at D ⊢;refine Qfh (by grind) (Calls.evalArgs_plain ?_);exact thn D fun us Z ⟨vs,H2,I2,O,Y⟩=>hm pins Z σ H2 x vs v us Q I2 G O Y
end
end L2
namespace L2
def MtM(X:Cx)(id:String)(r:V->List V->Hp->VK->Prop):Prop :=
 ∀(pins:Ac) (s:Aq) (σ:St) (H:Hp) (x:V) (xs:A0) (v:As) (q:Ag) (Q:VK),Inv X pins σ H s->RelV x v->Vals xs q->r x xs H Q ->
  A2 X (call (.builtin id) (v::q)) (EP X pins σ Q) X.xe s
theorem Vals.one:∀{x:V} {q:Ag},Vals [x] q->∃u,q=[u]/\RelV x u
 | _,_,.cons r .nil=>⟨_,rfl,r⟩
theorem Vals.zero:∀{q:Ag},Vals [] q->q=[]
 | _,.nil=>rfl
theorem Vals.dropLast{xs:A0}{C:Ag}(h:Vals xs C):Vals xs.dropLast C.dropLast:=by
 induction h with
 | nil=>exact .nil
 | cons r t D =>
  cases t with
  | nil=>exact .nil
  | cons q t'=>exact .cons r D
theorem Vals.reverse{xs:A0}{q:Ag}(h:Vals xs q):Vals xs.reverse q.reverse:=by
 induction h with
 | nil=>exact .nil
 | cons r t C=>rw [Qdt,Qdt];exact Vals.append C (.cons r .nil)
theorem Vals.rep{xs:A0}{q:Ag}(h:Vals xs q):∀k:Nat,Vals (List.replicate k xs).flatten (List.replicate k q).flatten
 | 0=>.nil
 | k + 1=>by
  exact Vals.append h (Vals.rep h k)
def erase_last(l:List m):l.eraseIdx (l.length - 1)=l.dropLast:=by grind
def foldl_rep(q:Ag):∀(k:Nat) (acc:Ag),
  List.foldl (fun C x2=>C++x2) acc.toArray (List.replicate k q.toArray)=(acc++(List.replicate k q).flatten).toArray
 | 0,acc=>by simp
 | k + 1,acc=>by
  have e:acc.toArray++q.toArray=(acc++q).toArray:=by simp
  have e2:(acc++q)++(List.replicate k q).flatten=acc++(List.replicate (k + 1) q).flatten:=by
   grind
  rw [<-e2,<-foldl_rep q k (acc++q),<-e,Qgc,Qdx]
section
variable {X:Cx}{pins:Ac}{σ:St}{H:Hp}{s:Aq}{l b:Au}{xs ys zs:A0}
def Inv.lset{its':Ag}{f:Ah->Array As}{t':Nat}(I:Inv X pins σ H s)(C:H l=some (.lst xs))
  (e:s.heap.get? l=some { cls:=.type "list",data:=.seq J.toArray n }) (hf:f J.toArray=its'.toArray) (hv:Vals ys its') (hz:ys.length<=sizeLine) :
  Inv X pins σ (upd H l (.lst ys)) { s with heap:=s.heap.update l (Obj.mapSeq f),toks:=t' }:=by
 have q:=PySem.IsL.update e f;rw [hf] at q;refine I.write (x:=l) (e:=l) (by rw [C];exact trivial) (.inl rfl) (fun D u hb hu=>(Qbr s.heap (Obj.mapSeq f) (Qd5 hb)).trans hu) ⟨_,q⟩ ?_;exact ⟨hz,its',_,hv,q⟩
theorem Inv.lnew{t':Nat}(I:Inv X pins σ H s)(hv:Vals ys J)(hz:ys.length<=sizeLine) :
  Inv X pins σ (upd H s.heap.objs.size (.lst ys)) { s with heap:=s.heap.push { cls:=.type "list",data:=.seq J.toArray },toks:=t' } :=
 I.laid (fun _ _ q=>Qab _ q) (Qag _) ⟨hz,J,0,hv,Qak _ rfl⟩
def Inv.fresh(I:Inv X pins σ H s):H s.heap.objs.size=none:=I.hok.fresh (Qag _)
def Inv.lstM (I:Inv X pins σ H s) (C:H l=some (.lst xs)):xs.length<=sizeLine/\∃(q:Ag) (n:Nat),Vals xs q/\xs.length=q.length/\s.heap.get? l=some { cls:=.type "list",data:=.seq q.toArray n }:=by
 obtain ⟨z,q,n,r,e⟩:=I.hok l _ C;exact ⟨z,q,n,r,r.length,e⟩
end
def Zg2:V->List V->Hp->VK->Prop:=fun x vs H Q=>∃l xs y,x=.ref l/\vs=[y]/\H l=some (.lst xs)/\xs.length < sizeLine/\Q .non (upd H l (.lst (xs++[y])))
def Yi:MtM X "list.append" Zg2:=by
 intro pins s σ H x vs v Y Q I J O h;obtain ⟨l,xs,y,rfl,rfl,D,hz,q⟩:=h;cases J;obtain ⟨u,rfl,G⟩:=O.one;obtain ⟨z,C,n,r,hl,e⟩:=I.lstM D;refine call_meets F.slot_list_append ⟨_,e,rfl⟩ F.entry_list_append (F.args_list_append_2 _ _) (PySem.list_append l C.toArray n u (by rw [Qbb];lia)) ⟨e,?_⟩;refine ⟨.non,_,I.lset (its':=C++[u]) D e (by simp) (r.append (.cons G .nil)) ?_,rfl,q⟩;rw [Qae,List.length_singleton];lia
def rPop:V->List V->Hp->VK->Prop:=fun x vs H Q=>∃l xs y,x=.ref l/\vs=[]/\H l=some (.lst xs)/\xs[xs.length - 1]?=some y/\Q y (upd H l (.lst xs.dropLast))
def Zfk:MtM X "list.pop" rPop:=by
 intro pins s σ H x vs v us Q I Z rv h;obtain ⟨l,xs,y,rfl,rfl,J,O,q⟩:=h;cases Z;have D:=rv.zero;subst D;obtain ⟨z,C,n,r,hl,e⟩:=I.lstM J;obtain ⟨u,hu,Y⟩:=r.get O;have G:C.toArray[C.toArray.size - 1]?=some u:=by
  grind
 refine call_meets F.slot_list_pop ⟨_,e,rfl⟩ F.entry_list_pop (F.args_list_pop_1 _) (MeetsSeq.list_pop_last l C.toArray n u G (by rw [Qbb];lia)) ⟨e,?_⟩;refine ⟨y,_,I.lset (its':=C.dropLast) J e ?_ r.dropLast ?_,Y,q⟩
 ·grind
 ·rw [List.length_dropLast]
  lia
def Zdo:V->List V->Hp->VK->Prop:=fun x vs H Q=>∃l xs,x=.ref l/\vs=[]/\H l=some (.lst xs)/\Q .non (upd H l (.lst xs.reverse))
def wY:MtM X "list.reverse" Zdo:=by
 intro pins s σ H x vs v Y Q I J O h;obtain ⟨l,xs,rfl,rfl,G,q⟩:=h;cases J;have D:=O.zero;subst D;obtain ⟨z,C,n,r,hl,e⟩:=I.lstM G;refine call_meets F.slot_list_reverse ⟨_,e,rfl⟩ F.entry_list_reverse (F.args_list_reverse_1 _) (AutoSeq1.list_reverse_list_0 l C.toArray n (by rw [Qbb];lia)) ⟨e,?_⟩;refine ⟨.non,_,I.lset (its':=C.reverse) G e (by simp) r.reverse ?_,rfl,q⟩;rw [Qe1];lia
def rCat:R2:=fun x y H Q=>∃l b xs zs,x=.ref l/\y=.ref b/\H l=some (.lst xs)/\H b=some (.lst zs)/\xs.length + zs.length<=sizeLine/\∀p,H p=none->Q (.ref p) (upd H p (.lst (xs++zs)))
def Zfl:OpR X (binaryOp .Add) rCat:=by
 intro pins s σ H x y v u Q I rx ry h;obtain ⟨l,b,xs,zs,rfl,rfl,Y,O,hz,q⟩:=h;cases rx;cases ry;obtain ⟨z,D,n,r,hl,e⟩:=I.lstM Y;obtain ⟨z2,C,n2,J,G,e2⟩:=I.lstM O;refine PySem.P.add_list e e2 ?_ (by grind);have Z:D.toArray++C.toArray=(D++C).toArray:=by simp
 rw [Z];exact ⟨.ref _,_,I.lnew (t':=s.toks) (r.append J) (by rw [Qae];lia),rfl,q _ I.fresh⟩
theorem len_rep(xs:List m)(k:Nat):(List.replicate k xs).flatten.length=k * xs.length:=by
 induction k with
 | zero=>simp
 | succ k q=>rw [Qgc,List.flatten_cons,Qae,q,Nat.succ_mul,Nat.add_comm]
section
variable {prog:An}{w:Ar}{A:Ao}{E:Ab}{s:Aq}
end
end L2
namespace Att
open PySem PySem.W PySem.Calls PyProof.Rows
theorem qg{P:Params}:∀(q:Ak) (vs:Ag),WellAll P h vs (q.map WData.int)->IntsAre vs q:=by
 intro q
 induction q with
 | nil =>
  intro vs w;cases w;exact .nil
 | cons n q C =>
  intro vs w;cases w with
  | cons a b =>
   cases a;exact .cons _ _ (C _ b)
def uJ{l:OpenLaw}(hn:l.most=some n){P:Params}{args:List WData}
  (C:l.row.toRowW.claim.pre args=true) (Z:WellAll P h J args) :
  ∃a vs D,J=[Value.ref a]/\args=[WData.list (D.map WData.int)]/\h.get? a=some { cls:=.type "list",data:=.seq vs.toArray }/\IntsAre vs D/\D.length<=n:=by
 have Y:WShape.hasAll [] args [.list .int]=true:=(pre_splitW C).1;have hc:l.pre.holds [] { args:=args }=true:=(pre_splitW C).2;obtain ⟨d,r,rfl,h1,h2⟩:=hasAllW_cons Y;obtain rfl:=hasAllW_nil h2;obtain ⟨xs,rfl,h3⟩:=hasW_list h1;obtain ⟨D,rfl⟩:=items_int h3;have I:D.length<=n:=by
  have O:(WTm.not (.lt (.lit (.int (n:Int))) (.len (.arg 0)))).holds [] { args:=[.list (D.map .int)] }=true:=by
   have O:=(holds_andW hc).1;rw [hn] at O;exact O
  have h5:=condW_of O (w_not (w_lt w_lit (w_len_list (w_arg rfl))));refine Nat.le_of_not_lt fun q=>?_
  first
   | (exact absurd h5 (by decide))
   | (simp at h5;lia)
 cases Z with
 | cons w1 w2 =>
  cases w2;cases w1 with
  | list ho G=>exact ⟨_,_,D,rfl,rfl,ho,qg D _ G,I⟩
theorem uK(l:OpenLaw)(args:List WData):l.row.toRowW.claim.post args (.bool true) args=true :=
 postW_of (r:=l.row.toRowW) (X:=(true == true))
  (show WShape.has [] (.bool true) .bool=true by first | rfl | decide | skip)
  (show (WTm.eq .res (.lit (.bool true))).value [] { args:=args,res:=some (.bool true),after:=args }=some (.bool (true == true)) from w_eq_bool (w_res rfl) w_lit) rfl
def attach_call{l:OpenLaw}{XP:(Ae)->Heap->Prop}{YP:Ar->Heap->Prop}{d:DefRec}
  (hn:l.most=some n) (hdf:d.params.defaults=[])
  (call:∀(w:Ar) (s₀ q:Aq) (mg mb:Ae) (I:Au) (o:Obj) (pm cd D:As) (a:Au) (vs:Ag) (ns:Ak),
   Ground P N [] XP w s₀ mg mb q.heap->YP w q.heap ->
   q.heap.get? I=some o->o.data=.func (docDef d.name d.params d.body d.scope pm cd D)->q.heap.CodeRec cd d.name->mg d.name=some (.ref I) ->
   q.heap.get? a=some { cls:=.type "list",data:=.seq vs.toArray }->IntsAre vs ns->ns.length<=n->q.gens=#[] ->
   codeAny (model l.prog w) callerA (.call (.ref I) ⟨[.ref a],[]⟩) (fun r s'=>r=.ok (.ret (.bool true))/\OldK q.heap s'.heap/\s'.os=q.os/\AllBare s'.gens) q) :
  WalkO P N XP YP l.row.toRowW d [] (fun f vs=>PySem.call f vs):=by
 intro w s₀ q mg mb G Y I o pm cd D dV kV ho hd hcd hD hmg hg args vals as J hlay hrd hwl hlo;obtain rfl:dV=.none:=Dflts.none hD hdf;obtain rfl:kV=.none:=Dflts.noKw hD;obtain ⟨a,vs,ns,rfl,rfl,O,C,Z⟩:=uJ hn J hwl;refine enter_call (Qec (call w s₀ q mg mb I o pm cd D a vs ns G Y ho (fd_plain hd) hcd hmg O C Z hg) fun r s' hq=>?_);obtain ⟨rfl,h2,h3,h4⟩:=hq;exact ⟨.inl ⟨.bool true,.bool true,[],rfl,fun _=>rfl,.bool true,uK l _,fun _=>⟨List.Pairwise.nil,fun _ hm=>(nomatch hm)⟩⟩,h2,h3,h4⟩
section
variable {prog:An}{w:Ar}{A:Ao}{E:Ab}{s:Aq}{K:Frag}
end
end Att
namespace L2
theorem jF:∀{vs:Ag} {q:Ak},IntsAre vs q->Vals (q.map V.int) vs
 | _,_,.nil=>.nil
 | _,_,.cons n t h=>.cons ⟨t,rfl⟩ (jF h)
def Wn(s:Aw):Arguments:=match s with
 | .FunctionDef _ a _ _ _ _ _ _ _ _=>a
 | _=>{ posonlyargs:=[],args:=[],vararg:=none,kwonlyargs:=[],kw_defaults:=[],kwarg:=none,defaults:=[] }
def Xi(s:Aw):List Aw:=match s with
 | .FunctionDef _ _ b _ _ _ _ _ _ _=>b
 | _=>[]
def Zg(s:Aw):Scope:=match s with
 | .FunctionDef _ _ _ _ _ _ q _ _ _=>q
 | _=>{ kind:=.function,names:=[],isGenerator:=false,isCoroutine:=false }
abbrev CX0:CXT:=fun _ _ _ _ _ _=>False
abbrev E0:XK:=fun _ _ _=>False
def ZG{X:Cx}:Passes CX0 X E0:=fun _ _ _ _ _ _ _ h=>h.elim
structure Fun(K:Af)(x qual:Str)(st:Aw)(f:Au)(fd:Am):Prop where
 ex:∃(oc:As) (od:Option Au) (kV doc pm:As) (an:Option Au) (cdv ct:As) (osl:Array (Option As)),
  fd=PySem.W.fnOf x qual (Wn st) (Xi st) (Zg st) .none kV doc pm an cdv ct/\K.lookup f=some ⟨oc,od,.func fd,osl⟩/\PySem.W.codeIn K cdv qual=true
 kp:PySem.W.keepIn K (.ref f)=true
section
variable {P:An}{w:Ar}{K:Af}{mg:Ae}{base:Heap}
theorem Fun.ok{qual:Str}{st:Aw}{f:Au}{fd:Am}{ps:Ai}{k:Nat}{sp:Sp}(F:Fun K x qual st f fd)(S:Zs N ps (Zg st))(len:∀vs H Q E,sp vs H Q E->vs.length=ps.length)
  (D:∀(C:As) (A:Ao) (outer:List Env) (s:Aq) (H:Hp) (vs:A0) (Q:VK) (E:XK),WV k (A.deeper (envOfC qual (Zg st) s.heap.objs.size f C))->sp vs H Q E ->
   ∃t,PSs (Zdk CX0 P w K mg base N qual (Zg st) f C A outer s H E).nox (Xi st) t/\t { nx:=fun _ H'=>Q .non H',rt:=Q } (start N vs) H):YA P w K mg base CX0 (k + 1) f fd ps sp:=by
 obtain ⟨oc,od,kV,O,Y,Z,C,ct,J,rfl,I,hcd⟩:=F.ex;refine Zjn I hcd S len fun A outer s H vs Q E hr G=>?_;obtain ⟨t,h,q⟩:=D C A outer s H vs Q E hr G;exact ⟨t,h.nox,q⟩
def Fun.binds{qual:Str}{st:Aw}{f:Au}{fd:Am}{ps:Ai}(F:Fun K x qual st f fd)
  (h:∀(kV C D:As) (I:Option Au) (q ct:As) (G:Ag),G.length=ps.length->bindArgs (PySem.W.fnOf x qual (Wn st) (Xi st) (Zg st) .none kV C D I q ct) ⟨G,[]⟩=pure (ps.zip G)):Binds K fd ps []:=by
 obtain ⟨oc,od,kV,C,D,I,q,ct,J,rfl,O,hcd⟩:=F.ex;exact .all (h kV C D I q ct)
theorem fun_mk{qual:Str}{st:Aw}{f:Au}{oc:As}{od I:Option Au}{D:Array (Option As)}{kV C G q ct:As}(l:K.lookup f=some ⟨oc,od,.func (PySem.W.fnOf x qual (Wn st) (Xi st) (Zg st) .none kV C G I q ct),D⟩)
  (c:PySem.W.codeIn K q qual=true) (k:PySem.W.keepIn K (.ref f)=true):Fun K x qual st f (PySem.W.fnOf x qual (Wn st) (Xi st) (Zg st) .none kV C G I q ct):=⟨⟨oc,od,kV,C,G,I,q,ct,D,rfl,l,c⟩,k⟩
end
def ZT{A:Ao}{k:Nat}(hr:WV k A):A.units + 1 < cLine:=Qfa (Nat.add_le_add_left (by decide:1<=64) _) hr.units
def Zo(h:n<=1000):n < sizeLine:=Qfa h (by decide)
def pv (i:Nat)   (hN:X.N[i]?=some x:=by rfl) (hv:Vis X.env.scope x:=by first | exact Or.inl rfl | exact Or.inr (Or.inl rfl) | exact Or.inr (Or.inr rfl)) (hd:(x == ("__debug__" : Str))=false:=by decide)
  (hcd:(x == ("__classdict__" : Str))=false:=by decide):PE X (.Name x p) (ud i):=Zfd hN hv hd hcd
def YZ{A B:Prop}(h:B):if false=true then A else B:=by grind
def Wk{A B:Prop}(h:A):if true=true then A else B:=by
 exact h
def k4{c A B:Prop}[Decidable c](h1:c->A)(h2:¬c->B):if c then A else B:=by grind
def ZA(H H':Hp):Prop:=∀b o,H b=some o->H' b=some o
def ZA.refl(H:Hp):ZA H H:=fun _ _ h=>h
def ZA.trans{H2:Hp}(a:ZA H g)(b:ZA g H2):ZA H H2:=fun c o h=>b c o (a c o h)
def ZA.free{H':Hp}(e:ZA H H')(h:H' l=Option.none):H l=Option.none:=by
 cases q:H l with
 | none=>rfl
 | some o =>
  rw [e l o q] at h;cases h
def ZA.seq{H':Hp}{xs:A0}(e:ZA H H')(h:SqL K H a xs):SqL K H' a xs:=by
 rcases h with (h | ⟨o,h⟩) | h
 ·exact .inl (.inl (e _ _ h))
 ·exact .inl (.inr ⟨o,e _ _ h⟩)
 ·exact .inr h
def Zg3(i j:Int):Prop:=0 < j/\j.natAbs.log2 < 9000
theorem Yq:OpR X (binaryOp .FloorDiv) (rI Zg3 fun i j=>.int (i / j)):=opI fun i j _ _ _ _ _ hc q=>by
 have h1:(0:Int) < j:=hc.1;exact floordiv_int (by lia) (by rw [Int.fdiv_eq_ediv_of_nonneg i (by lia)];exact q) (.inl (PyProof.noPylong_of_log2 hc.2))
def Zg3.of{i j:Int}(h1:0 < j)(h2:j < 2 ^ 250):Zg3 i j:=by
 refine ⟨h1,?_⟩;have C:j.natAbs < 2 ^ 250:=by lia
 have q:j.natAbs≠0:=by lia
 have:=(Nat.log2_lt q).mpr C;lia
def Zg4(i j:Int):Prop:=(i.natAbs < 2 ^ 250/\j.natAbs < 2 ^ 250)\/CMul i j
def Zg4.ok{i j:Int}(h:Zg4 i j):IntMulOk i j:=by
 rcases h with ⟨h1,h2⟩ | h
 ·refine IntMulOk.of_bits (Qa8 (PyProof.Rows.intBits_le h1) (by decide)) (Qa8 (PyProof.Rows.intBits_le h2) (by decide))
 ·exact h.ok
def XE:OpR X (binaryOp .Mult) (rI Zg4 fun i j=>.int (i * j)):=opI fun _ _ _ _ _ _ _ hc q=>mul_int q hc.ok
def rIsi(K:Af):A0->Hp->VK->Prop:=fun xs H Q=>∃x T t b,xs=[x,.ty T]/\wV K H x t/\PySem.W.kitOne K t (.type T)=some b/\Q (.bl b) H
def XF:Xb X (.builtin "isinstance") (rIsi X.K):=by
 intro pins s σ H xs D Q I r h;obtain ⟨x,T,t,b,rfl,ty,e,q⟩:=h;obtain ⟨u,G,rfl,C,rt⟩:=vals2 r;cases rt;exact uA I C ty e fun tk=>⟨.bl b,H,I.tok tk,rfl,q⟩
def ZW:Av->Bool
 | .Starred _ _=>false
 | _=>true
def Zr{rest:Al}{env:Env}(h:ZW e=true):starEach (e::rest) env=(false,eval e env)::starEach rest env:=by
 cases e <;> first
  | rfl
  | cases h
theorem Xj{pos:Pos}{env:Env}:∀{es:Al},es.all ZW=true->(backTo pos (starEach es env)).any (·.1)=false
 | [],_=>rfl
 | e::es,h=>by
  rw [Qdp,Qb8] at h;rw [Zr h.1];show (false || (backTo pos (starEach es env)).any (·.1))=false;rw [Xj h.2]
  rfl
theorem all_plain{pos:Pos}{env:Env}:∀{es:Al},es.all ZW=true->(backTo pos (starEach es env)).all (fun x=>!x.1)=true
 | [],_=>rfl
 | e::es,h=>by
  rw [Qdp,Qb8] at h;rw [Zr h.1];show (true && (backTo pos (starEach es env)).all (fun x=>!x.1))=true;rw [all_plain h.2]
  rfl
section
variable {X:Cx}{CX:CXT}{k:Nat}{f C:Au}{fd:Am}{ps:Ai}{sp:Sp}{dvs:A0}{ds:Ag}{E:XK}{x m:Str}{p pos apos:Pos}{e o:Av}{es:Al}{ta te:TE}{t:TA}{id T:String}{r:A0->Hp->VK->Prop}
def pa_c(ha:PE X e te)(hr:PA X es t)(hp:ZW e=true:=by rfl):PA X (e::es) (j9 te t):=Zgw ha hr (Zr hp)
def Zdp(F:YA X.prog X.w X.K X.mg X.base CX k f fd ps sp)(hr:WV k X.A)(hg:Gl X x)(hm:X.mg x=some (.ref f))(hk:PySem.W.keepIn X.K (.ref f)=true)(hb:Binds X.K fd ps ds)(hd:Vals dvs ds)(hx:Passes CX X E)
  (ha:PA X (e::es) t) (hdb:(x == ("__debug__" : Str))=false:=by decide) (hp:(e::es).all ZW=true:=by rfl):PE X (.Call (.Name x p) (e::es) [] pos) (uB sp dvs E t):=by
 rw [Qdp,Qb8] at hp;exact Zgy F hr hg hm hk hb hd hx ha hdb (Zr hp.1) (Xj hp.2)
def uL (hc:Xb X (.builtin id) r) (hg:Gl X x) (hm:X.mg x=none) (hv:bootBuiltins x=some (.builtin id)) (ha:PA X (e::es) t) (hn:x ≠ "__name__" := by decide) (hdb:(x == ("__debug__" : Str))=false:=by decide)
  (hp:(e::es).all ZW=true:=by rfl):PE X (.Call (.Name x p) (e::es) [] pos) (tCB r t):=by
 rw [Qdp,Qb8] at hp;exact Zdl hc hg hm hv ha hn hdb (Zr hp.1) (Xj hp.2)
def uM (hc:Xb X (.type T) r) (hg:Gl X x) (hm:X.mg x=none) (hv:bootBuiltins x=some (.type T)) (ha:PA X (e::es) t) (hn:x ≠ "__name__" := by decide) (hdb:(x == ("__debug__" : Str))=false:=by decide)
  (hp:(e::es).all ZW=true:=by rfl):PE X (.Call (.Name x p) (e::es) [] pos) (tCB r t):=by
 rw [Qdp,Qb8] at hp;exact uD hc hg hm hv ha hn hdb (Zr hp.1) (Xj hp.2)
def uN {tg a:Av} (hg:Gl X "range") (hm:X.mg "range" = none) (ha:PA X [a] t) (hp:ZW a=true:=by rfl):PI X tg (.Call (.Name "range" p) [a] [] pos) (Zgs t) :=
 um hg hm ha (by rw [Zr hp];rfl)
def pe_bmF {name:Str}   {rm:V->List V->Hp->VK->Prop} (pa:PlainAttrs T) (slot:Slot T name id) (hty:typeOf (.builtin id)=pure (.type "method_descriptor")) (hm:MtR X id rm) (ho:PE X o d) (ha:PA X (e::es) t)
  (hbase:attributeBase o name X.env (eval o X.env)=eval o X.env:=by rfl) (hline:(apos.endLine == A.line)=true:=by rfl) (hp:(e::es).all ZW=true:=by rfl) (hl:(e::es).length < 30:=by decide) :
  PE X (.Call (.Attribute o name apos) (e::es) [] A) (tBM X.K T rm d t):=by
 have q:=hp;rw [Qdp,Qb8] at q;refine pe_bm pa slot hty hm ho ha hbase ?_ hline (Zr q.1) (Xj q.2);rw [all_plain hp];exact Qao hl
end
def YT:bootBuiltins "len" = some (.builtin "len"):=by decide +kernel
def Ym:bootBuiltins "isinstance" = some (.builtin "isinstance"):=by decide +kernel
def jG:bootBuiltins "sorted" = some (.builtin "sorted"):=by decide +kernel
def bt_all:bootBuiltins "all" = some (.builtin "all"):=by decide +kernel
def k9:bootBuiltins "int" = some (.type "int"):=by decide +kernel
def Zg5:bootBuiltins "bool" = some (.type "bool"):=by decide +kernel
def bt_str:bootBuiltins "str" = some (.type "str"):=by decide +kernel
def uO:bootBuiltins "list" = some (.type "list"):=by decide +kernel
def ZX:bootBuiltins "tuple" = some (.type "tuple"):=by decide +kernel
def bt_set:bootBuiltins "set" = some (.type "set"):=by decide +kernel
def yP:bootBuiltins "reversed" = some (.type "reversed"):=by decide +kernel
def kA:bootBuiltins "range" = some (.type "range"):=by decide +kernel
def WW :PySem.W.kitOne K (.type "int") (.type "int")=some true:=by rfl
def jH :PySem.W.kitOne K (.type "int") (.type "bool")=some false:=by with_unfolding_all rfl
def yQ :PySem.W.kitOne K (.type "tuple") (.type "tuple")=some true:=by rfl
def WX :PySem.W.kitOne K (.type "str") (.type "int")=some false:=by with_unfolding_all rfl
def yR :PySem.W.kitOne K (.type "str") (.type "str")=some true:=by rfl
def yS :PySem.W.kitOne K (.type "int") (.type "str")=some false:=by with_unfolding_all rfl
structure QE(X:Cx)(e:Av)(t:TE):Prop where
 out:PE X e t
structure QT(X:Cx)(e:Av)(t:TT):Prop where
 out:PT X e t
structure QW(X:Cx)(e:Av)(t:TT):Prop where
 out:PW X e t
structure QA(X:Cx)(e:Al)(t:TA):Prop where
 out:PA X e t
structure QSs(X:Cx)(e:List Aw)(t:TS):Prop where
 out:PSs X e t
structure QS(X:Cx)(e:Aw)(t:TS):Prop where
 out:PS X e t
structure QG(X:Cx)(e:Av)(t:TG):Prop where
 out:PG X e t
structure QI(X:Cx)(tg e:Av)(t:TI):Prop where
 out:PI X tg e t
structure QO(X:Cx)(e:Option Av)(t:TO):Prop where
 out:PO X e t
def qv {X:Cx} (i:Nat)   (hN:X.N[i]?=some x:=by rfl) (hv:Vis X.env.scope x:=by first | exact Or.inl rfl | exact Or.inr (Or.inl rfl) | exact Or.inr (Or.inr rfl)) (hd:(x == ("__debug__" : Str))=false:=by decide) (hcd:(x == ("__classdict__" : Str))=false:=by decide):QE X (.Name x p) (ud i):=⟨pv (i:=i) (hN:=hN) (hv:=hv) (hd:=hd) (hcd:=hcd)⟩
def Zd{X:Cx}{i j pos:_}:QE X (.Constant (.int i) j pos) (tC (.int i)):=⟨pe_int ⟩
def xg{X:Cx}{b j pos:_}:QE X (.Constant (.bool b) j pos) (tC (.bl b)):=⟨pe_bl ⟩
def kB{X:Cx}{j pos:_}:QE X (.Constant .none j pos) (tC .non):=⟨pe_non ⟩
def Zx{X:Cx}{x j pos:_}:QE X (.Constant (.str x) j pos) (tC (.str x)):=⟨pe_str ⟩
def XG {X:Cx}  {v:V} {u:As}  (hg:Gl X x) (hm:X.mg x=some u) (r:RelV v u) (hd:(x == ("__debug__" : Str))=false:=by decide):QE X (.Name x p) (tC v):=⟨Zgk (hg:=hg) (hm:=hm) (r:=r) (hd:=hd)⟩
def WY {X:Cx}  {v:V} {u:As}  (hg:Gl X x) (hm:X.mg x=none) (hv:bootBuiltins x=some u) (r:RelV v u) (hn:x ≠ "__name__" := by decide) (hd:(x == ("__debug__" : Str))=false:=by decide):QE X (.Name x p) (tC v):=⟨Zgl (hg:=hg) (hm:=hm) (hv:=hv) (r:=r) (hn:=hn) (hd:=hd)⟩
def Zm{X:Cx}{a:Av}{b:Av}{q:Operator}{r:R2}(ho:OpR X (binaryOp q) r)(ha:QE X a d)(hb:QE X b O):QE X (.BinOp a q b p) (tOp r d O):=⟨pe_op (ho:=ho) (ha:=ha.out) (hb:=hb.out)⟩
def WI{X:Cx}{a:Av}{q:UnaryOp}{r:V->Hp->VK->Prop}(ho:UnR X (unaryOp q) r)(ha:QE X a d):QE X (.UnaryOp q a p) (tUn r d):=⟨pe_un (ho:=ho) (ha:=ha.out)⟩
def Xk{X:Cx}{a:Av}{b:Av}{q:CmpOp}{r:R2}(ho:OpR X (compareOp q) r)(ha:QE X a d)(hb:QE X b O)(hm:behindInMarks q b=false):QE X (.Compare a [q] [b] p) (tOp r d O):=⟨Zgt (ho:=ho) (ha:=ha.out) (hb:=hb.out) (hm:=hm)⟩
def Zz{X:Cx}{a:Av}{b:Av}{q:CmpOp}{r:R2}(ho:OpR X (compareOp q) r)(ha:QE X a d)(hb:QE X b O)(hm:behindInMarks q b=false):QT X (.Compare a [q] [b] p) (Zjm (tOp r d O)):=⟨Zgu (ho:=ho) (ha:=ha.out) (hb:=hb.out) (hm:=hm)⟩
def X6{X:Cx}{t:TE}(h:QE X e t)(he:∀q,isTrue e X.env q=(do let v <-q;standAt e.pos;holding [v] (truthy v)):=by intro _;rfl):QT X e (tB t):=⟨pt_val (h:=h.out) (he:=he)⟩
def Zg6{X:Cx}{a:Av}(ha:QT X a E):QW X (.BoolOp .And [a] p) E:=⟨Zgm (ha:=ha.out)⟩
def kC{X:Cx}{a:Av}(ha:QT X a E):QW X (.BoolOp .Or [a] p) E:=⟨pw_or1 (ha:=ha.out)⟩
def qw_and{X:Cx}{a:Av}{b:Av}{tB':TT}{rest:Al}(ha:QT X a E)(hb:QW X (.BoolOp .And (b::rest) p) tB'):QW X (.BoolOp .And (a::b::rest) p) (tAnd E tB'):=⟨pw_and (ha:=ha.out) (hb:=hb.out)⟩
def jI{X:Cx}{a:Av}{b:Av}{tB':TT}{rest:Al}(ha:QT X a E)(hb:QW X (.BoolOp .Or (b::rest) p) tB'):QW X (.BoolOp .Or (a::b::rest) p) (tOr E tB'):=⟨pw_or (ha:=ha.out) (hb:=hb.out)⟩
def kD{X:Cx}{a:Av}(ha:QT X a E):QT X (.UnaryOp .Not a p) (tNot E):=⟨pt_not (ha:=ha.out)⟩
def kE{X:Cx}{a:Av}{q:_}{t:TE}(h:QE X a t):QE X (.BoolOp q [a] p) t:=⟨pe_one (h:=h.out)⟩
def uP{X:Cx}{a:Av}{b:Av}{rest:Al}(ha:QE X a d)(hb:QE X (.BoolOp .And (b::rest) p) O):QE X (.BoolOp .And (a::b::rest) p) (Zjg d O):=⟨pe_and (ha:=ha.out) (hb:=hb.out)⟩
def qe_or{X:Cx}{a:Av}{b:Av}{rest:Al}(ha:QE X a d)(hb:QE X (.BoolOp .Or (b::rest) p) O):QE X (.BoolOp .Or (a::b::rest) p) (tOrV d O):=⟨pe_or (ha:=ha.out) (hb:=hb.out)⟩
def qe_not{X:Cx}{a:Av}(ha:QE X a d):QE X (.UnaryOp .Not a p) (Zjh d):=⟨pe_not (ha:=ha.out)⟩
def Z6{X:Cx}:QSs X [] Zji:=⟨Zgn ⟩
def Zb{X:Cx}{st:Aw}{rest:List Aw}{t:TS}{u:TS}(h1:QS X st t)(h2:QSs X rest u):QSs X (st::rest) (Y9 t u):=⟨Zde (h1:=h1.out) (h2:=h2.out)⟩
def Zf{X:Cx}{st:Aw}{t:TS}(h1:QS X st t):QSs X [st] t:=⟨Zgo (h1:=h1.out)⟩
def Y3{X:Cx}(he:QE X e d)(hs:swapsWith e none p.line X.env=pure false:=by rfl):QS X (.Expr e p) (Zjj d):=⟨Zgp (he:=he.out) (hs:=hs)⟩
def Zp{X:Cx}(he:QE X e d):QS X (.Return (some e) p) (tRet d):=⟨ps_ret (he:=he.out)⟩
def Ye{X:Cx}{t:TS}{u:TS}{c:Av}{a b:List Aw}(hc:QT X c E)(ha:QSs X a t)(hb:QSs X b u):QS X (.If c a b p) (tIfS E t u):=⟨ps_if (hc:=hc.out) (ha:=ha.out) (hb:=hb.out)⟩
theorem ZM{X:Cx}(hN:X.N.Nodup)(hi:X.N[i]?=some x)(hx:Loc X.env.scope x)(hf:X.fn x=true\/X.env.scope.names.lookup x=some .local:=by first | exact .inl rfl | exact .inr rfl | assumption):QG X (.Name x p) (zk i):=⟨ue (hN:=hN) (hi:=hi) (hx:=hx) (hf:=hf)⟩
def qs_asg{X:Cx}{tg:Av}{g:TG}(he:QE X e d)(hg:QG X tg g)(hs:swapsWithSole [tg] e p.line X.env=pure false:=by rfl)(hw:swappedStores [tg] e X.env=pure none:=by rfl)(h1:(assignEach [tg] X.env).map (·.2)=[assign tg X.env]:=by rfl):QS X (.Assign [tg] e p) (Zjk d g):=⟨ps_asg (he:=he.out) (hg:=hg.out) (hs:=hs) (hw:=hw) (h1:=h1)⟩
theorem Zn{X:Cx}(hN:X.N.Nodup)(hi:X.N[i]?=some x)(hx:Loc X.env.scope x)(he:QE X e d)(hs:swapsWith e (some (.Name x A)) p.line X.env=pure false:=by rfl)(hf:X.fn x=true\/X.env.scope.names.lookup x=some .local:=by first | exact .inl rfl | exact .inr rfl | assumption):QS X (.Assign [.Name x A] e p) (Zjk d (zk i)):=⟨ps_set (hN:=hN) (hi:=hi) (hx:=hx) (he:=he.out) (hs:=hs) (hf:=hf)⟩
def kF{X:Cx}{c:Av}{body:List Aw}(hp:PassesOwn (model X.prog X.w) X.A X.env X.xe)(hc:QT X c E)(hb:QSs X body r):QS X (.While c body [] p) (ug E r):=⟨Zdg (hp:=hp) (hc:=hc.out) (hb:=hb.out)⟩
def WZ{X:Cx}{tg:Av}{l:Av}(hl:QE X l d):QI X tg l (uk X.K d):=⟨Zgr (hl:=hl.out)⟩
def Wf{X:Cx}{tg:Av}{l:Av}(hl:QE X l d):QI X tg l (iTup X.K d):=⟨pi_tup (hl:=hl.out)⟩
def YB{X:Cx}{tg:Av}{iter:Av}{body:List Aw}{wi:TI}{g:TG}(hp:PassesOwn (model X.prog X.w) X.A X.env X.xe)(hc:X.calm=true)(hi:QI X tg iter wi)(hg:QG X tg g)(hb:QSs X body r)(hs:∀x,foldedSetIterable iter X.env x=pure x:=by intro _;rfl):QS X (.For tg iter body [] p) (tFor wi g r):=⟨ps_for (hp:=hp) (hc:=hc) (hi:=hi.out) (hg:=hg.out) (hb:=hb.out) (hs:=hs)⟩
def ZI{X:Cx}{t:TA}{q:_}(h:QA X B t):QE X (.Tuple B q p) (tTup t):=⟨pe_tup (h:=h.out)⟩
def X7{X:Cx}{t:TA}(h:QA X B t):QE X (.List B p) (tLst t):=⟨pe_lst (h:=h.out)⟩
def Ze{X:Cx}:QA X [] Zko:=⟨pa_nil ⟩
def Zk{X:Cx}{t:TA}(ha:QE X e d)(hr:QA X B t)(hp:ZW e=true:=by rfl):QA X (e::B) (j9 d t):=⟨pa_c (ha:=ha.out) (hr:=hr.out) (hp:=hp)⟩
def Zl {X:Cx} {CX:CXT} {k:Nat} {f:Au} {fd:Am} {ps:Ai} {sp:Sp}   {E:XK}   {pos:Pos}   {t:TA} (F:YA X.prog X.w X.K X.mg X.base CX k f fd ps sp) (hr:WV k X.A) (hg:Gl X x) (hm:X.mg x=some (.ref f)) (hk:PySem.W.keepIn X.K (.ref f)=true) (hb:Binds X.K fd ps J) (hd:Vals v J) (hx:Passes CX X E) (ha:QA X (e::B) t) (hdb:(x == ("__debug__" : Str))=false:=by decide) (hp:(e::B).all ZW=true:=by rfl):QE X (.Call (.Name x p) (e::B) [] pos) (uB sp v E t):=⟨Zdp (F:=F) (hr:=hr) (hg:=hg) (hm:=hm) (hk:=hk) (hb:=hb) (hd:=hd) (hx:=hx) (ha:=ha.out) (hdb:=hdb) (hp:=hp)⟩
def Zv {X:Cx}      {t:TA} {id:String} {r:A0->Hp->VK->Prop} (hc:Xb X (.builtin id) r) (hg:Gl X x) (hm:X.mg x=none) (hv:bootBuiltins x=some (.builtin id)) (ha:QA X (e::B) t) (hn:x ≠ "__name__" := by decide) (hdb:(x == ("__debug__" : Str))=false:=by decide) (hp:(e::B).all ZW=true:=by rfl):QE X (.Call (.Name x p) (e::B) [] A) (tCB r t):=⟨uL (hc:=hc) (hg:=hg) (hm:=hm) (hv:=hv) (ha:=ha.out) (hn:=hn) (hdb:=hdb) (hp:=hp)⟩
def Z8 {X:Cx}      {t:TA} {T:String} {r:A0->Hp->VK->Prop} (hc:Xb X (.type T) r) (hg:Gl X x) (hm:X.mg x=none) (hv:bootBuiltins x=some (.type T)) (ha:QA X (e::B) t) (hn:x ≠ "__name__" := by decide) (hdb:(x == ("__debug__" : Str))=false:=by decide) (hp:(e::B).all ZW=true:=by rfl):QE X (.Call (.Name x p) (e::B) [] A) (tCB r t):=⟨uM (hc:=hc) (hg:=hg) (hm:=hm) (hv:=hv) (ha:=ha.out) (hn:=hn) (hdb:=hdb) (hp:=hp)⟩
def YU {X:Cx}   {t:TA} {tg a:Av} (hg:Gl X "range") (hm:X.mg "range" = none) (ha:QA X [a] t) (hp:ZW a=true:=by rfl):QI X tg (.Call (.Name "range" p) [a] [] A) (Zgs t):=⟨uN (hg:=hg) (hm:=hm) (ha:=ha.out) (hp:=hp)⟩
def Xl {X:Cx}     {t:TA} {id:String} {T:String} {name:Str}   {rm:V->List V->Hp->VK->Prop} (pa:PlainAttrs T) (slot:Slot T name id) (hty:typeOf (.builtin id)=pure (.type "method_descriptor")) (hm:MtR X id rm) (ho:QE X o d) (ha:QA X (e::B) t) (hbase:attributeBase o name X.env (eval o X.env)=eval o X.env:=by rfl) (hline:(p.endLine == A.line)=true:=by rfl) (hp:(e::B).all ZW=true:=by rfl) (hl:(e::B).length < 30:=by decide):QE X (.Call (.Attribute o name p) (e::B) [] A) (tBM X.K T rm d t):=⟨pe_bmF (pa:=pa) (slot:=slot) (hty:=hty) (hm:=hm) (ho:=ho.out) (ha:=ha.out) (hbase:=hbase) (hline:=hline) (hp:=hp) (hl:=hl)⟩
def kG {X:Cx}   {name:Str}   {T:String} {id:String} {r:V->List V->Hp->VK->Prop} (pa:PlainAttrs T) (slot:Slot T name id) (hty:typeOf (.builtin id)=pure (.type "method_descriptor")) (hm:MtR X id r) (ho:QE X o d) (hbase:attributeBase o name X.env (eval o X.env)=eval o X.env:=by rfl) (hline:(p.endLine == A.line)=true:=by rfl):QE X (.Call (.Attribute o name p) [] [] A) (Zkp X.K T r d):=⟨pe_bm0 (pa:=pa) (slot:=slot) (hty:=hty) (hm:=hm) (ho:=ho.out) (hbase:=hbase) (hline:=hline)⟩
def XH{X:Cx}:QO X none uF:=⟨Zgz ⟩
def XI{X:Cx}(h:QE X e d):QO X (some e) (Zjo d):=⟨Zg0 (h:=h.out)⟩
def Xc{X:Cx}{lo:Option Av}{hi:Option Av}{tl:TO}{th:TO}{r:V->Option Int->Option Int->Hp->VK->Prop}(hr:SlR X r)(he:QE X e d)(hl:QO X lo tl)(hu:QO X hi th):QE X (.Subscript e (.Slice lo hi none A) p) (tSl r d tl th):=⟨Zdn (hr:=hr) (he:=he.out) (hl:=hl.out) (hu:=hu.out)⟩
def Zq{X:Cx}{a:Av}{b:Av}{r:R2}(hr:IxR X r)(ha:QE X a d)(hb:QE X b O)(hs:uH b:=by exact fun _ _=>rfl):QE X (.Subscript a b p) (tOp r d O):=⟨pe_ix (hr:=hr) (ha:=ha.out) (hb:=hb.out) (hs:=hs)⟩
def Zdq{X:Cx}{st:Aw}:QS X st Zfe:=⟨Zdf ⟩
def uQ{X:Cx}{t:TT}(h:QW X e t):QT X e t:=⟨h.out.pt⟩
end L2
set_option maxHeartbeats 4000000
namespace L2
def qh(cells:List (Str × Au)):List (Str × NameKind)->List (Str × Au)->List (Str × Au)
 | [],acc=>acc
 | (n,k)::r,acc=>qh cells r (if (k == NameKind.free)=true then (n,(cells.lookup n).getD 0)::acc else acc)
def xJ{env:Env}:∀(names:List (Str × NameKind)) (acc:List (Str × Au)),(∀y∈names,y.2=.free->∃c,env.cells.lookup y.1=some c) ->
  (forIn names acc fun (x:Str × NameKind) (r:List (Str × Au))=>match x with
   | (name,kind)=>if (kind == NameKind.free)=true then do let a <-cellOf env name;pure (ForInStep.yield ((name,a)::r)) else pure (ForInStep.yield r):Sem (List (Str × Au)))=pure (qh env.cells names acc)
 | [],acc,_=>rfl
 | (n,k)::r,acc,h=>by
  rw [Qem];have D:=fun C=>xJ (env:=env) r C fun y G=>h y (Qam _ G)
  by_cases hk:(k == NameKind.free)=true
  ·obtain ⟨c,hc⟩:=h (n,k) Qaq (by simpa using hk)
   have q:env.cells.lookup n=some c:=hc;have e:cellOf env n=pure c:=by unfold cellOf;rw [q]
   simp only [hk,Qhg,e];rw [qh,Qa1 hk,q];exact D ((n,c)::acc)
  ·rw [qh,Qaw hk]
   simp only [hk,Qf4];exact D acc
def W9{scope:Scope}{env:Env}(h:∀y∈scope.names,y.2=.free->∃c,env.cells.lookup y.1=some c):closureFor scope env=pure (qh env.cells scope.names []):=by
 have e:=xJ (env:=env) scope.names [] h;show (do let r <-_;pure r)=_;rw [show (forIn scope.names ([]:List (Str × Au)) fun (x:Str × NameKind) (r:List (Str × Au))=>match x with
   | (name,kind)=>if (kind == NameKind.free)=true then do let a <-cellOf env name;pure (ForInStep.yield ((name,a)::r)) else pure (ForInStep.yield r):Sem (List (Str × Au)))=pure (qh env.cells scope.names []) from e]
 rfl
def Jo{cells:List (Str × Au)}:∀{names:List (Str × NameKind)} {acc:List (Str × Au)},(∀y∈names,y.2=.free->∃c,cells.lookup y.1=some c)->(∀x c,acc.lookup x=some c->cells.lookup x=some c) ->
  ∀x c,(qh cells names acc).lookup x=some c->cells.lookup x=some c
 | [],acc,_,ha,x,c,h=>ha x c h
 | (n,k)::r,acc,hf,ha,x,c,h=>by
  refine Jo (names:=r) (fun y q=>hf y (Qam _ q)) (fun y d hd=>?_) x c h
  by_cases hk:(k == NameKind.free)=true
  ·rw [Qa1 hk] at hd
   obtain ⟨e,he⟩:=hf (n,k) Qaq (by simpa using hk);have C:cells.lookup n=some e:=he;rw [C,Qcy] at hd;cases q:y == n with
   | true =>
    rw [q] at hd;have D:y=n:=by simpa using q
    rw [D,C];exact hd
   | false =>
    rw [q] at hd;exact ha y d hd
  ·grind
theorem jJ{cells:List (Str × Au)}:∀{names:List (Str × NameKind)} {acc:List (Str × Au)} {x:Str},(∃c,acc.lookup x=some c)->∃c,(qh cells names acc).lookup x=some c
 | [],acc,x,h=>h
 | (n,k)::r,acc,x,h=>by
  rw [qh];refine jJ (names:=r) ?_
  by_cases hk:(k == NameKind.free)=true
  ·grind
  ·rw [Qaw hk];exact h
theorem XJ{cells:List (Str × Au)}:∀{names:List (Str × NameKind)} {acc:List (Str × Au)} {x:Str},names.lookup x=some .free->∃c,(qh cells names acc).lookup x=some c
 | [],acc,x,h=>by cases h
 | (n,k)::r,acc,x,h=>by
  rw [qh];rw [Qcy] at h;cases hx:x == n with
  | true =>
   rw [hx] at h;have hk:k=.free:=Option.some.inj h;refine jJ (names:=r) ?_;rw [hk,Qa1 (show (NameKind.free == NameKind.free)=true by rfl),Qcy,hx];exact ⟨_,rfl⟩
  | false =>
   rw [hx] at h;exact XJ (names:=r) h
def Gu{scope:Scope}{env:Env}(hk:env.scope.kind=.function):∀{names:List (Str × NameKind)} {x:Str},names.lookup x=some .free->env.kindOf x=some .cell ->
  (names.map fun (n,k)=>if (k == NameKind.free && env.scope.kind == .function && env.kindOf n == some .cell)=true then (n,NameKind.cell) else (n,k)).lookup x=some .cell
 | [],_,h,_=>by cases h
 | (n,k)::r,x,h,hc=>by
  rw [Qcy] at h;show List.lookup x ((if (k == NameKind.free && env.scope.kind == .function && env.kindOf n == some .cell)=true then (n,NameKind.cell) else (n,k))::_)=_;cases hx:x == n with
  | true =>
   rw [hx] at h;have C:k=.free:=Option.some.inj h;have q:x=n:=by simpa using hx
   rw [C,hk,<-q,hc];simp [Qcy]
  | false =>
   rw [hx] at h;have G:=Gu (scope:=scope) hk (names:=r) h hc
   by_cases D:(k == NameKind.free && env.scope.kind == .function && env.kindOf n == some .cell)=true
   ·grind
   ·grind
def Jp{env:Env}:∀{names:List (Str × NameKind)} {x:Str},names.lookup x=some .free->env.kindOf x=some .free ->
  (names.map fun (n,k)=>if (k == NameKind.free && env.scope.kind == .function && env.kindOf n == some .cell)=true then (n,NameKind.cell) else (n,k)).lookup x=some .free
 | [],_,h,_=>by cases h
 | (n,k)::r,x,h,hc=>by
  rw [Qcy] at h;show List.lookup x ((if (k == NameKind.free && env.scope.kind == .function && env.kindOf n == some .cell)=true then (n,NameKind.cell) else (n,k))::_)=_;cases hx:x == n with
  | true =>
   rw [hx] at h;have q:k=.free:=Option.some.inj h;have C:¬(k == NameKind.free && env.scope.kind == .function && env.kindOf n == some .cell)=true:=by
    grind
   rw [Qaw C,Qcy,hx,q]
  | false =>
   rw [hx] at h;have D:=Jp (names:=r) h hc
   by_cases C:(k == NameKind.free && env.scope.kind == .function && env.kindOf n == some .cell)=true
   ·grind
   ·grind
theorem Gv{env:Env}:∀{names:List (Str × NameKind)} {x:Str},(∀y∈names,y.2≠.cell) ->
    ((names.map fun (n,k)=>if (k == NameKind.free && env.scope.kind == .function && env.kindOf n == some .cell)=true then (n,NameKind.cell) else (n,k)).lookup x=some .cell \/
     (names.map fun (n,k)=>if (k == NameKind.free && env.scope.kind == .function && env.kindOf n == some .cell)=true then (n,NameKind.cell) else (n,k)).lookup x=some .free)->names.lookup x=some .free
  | [],_,_,h=>by rcases h with h | h <;> cases h
  | (n,k)::r,x,hn,h=>by
    have D:=Gv (env:=env) (names:=r) (x:=x) fun y q=>hn y (Qam _ q)
    by_cases C:(k == NameKind.free && env.scope.kind == .function && env.kindOf n == some .cell)=true
    · grind
    · grind
def cxC(X:Cx)(N':Ai)(scope:Scope)(C:Au)(s₂:Aq)(H₂:Hp)(ex:List Au):Cx :=
 { X with N:=N',s₀:=s₂,H₀:=H₂,env:=compEnvC scope (qh X.env.cells scope.names []) C X.env,outer:=X.stack,stack:=X.stack,ex:=ex,fn:=fun _=>false,pn:=[],xe:=fun _ _=>False }
def Ja(is:Aj)(σ:St)(v:Option V):St:=v::is.map fun i=>(σ[i]?).getD none
structure Yj(S scope:Scope)(N:Ai)(x:Str)(ys:Ai)(is:Aj):Prop where
 kind:scope.kind=.function:=by rfl
 cell:∀y∈scope.names,y.2≠.cell:=by decide +kernel
 names:∀y∈scope.names,y.2=.local->scope.names.lookup y.1=some .local:=by decide +kernel
 own:scope.names.lookup x=some .local:=by rfl
 free:∀y∈scope.names,y.2=.free->S.names.lookup y.1=some .cell\/S.names.lookup y.1=some .free:=by decide +kernel
 vis:∀p∈ys.zip is,N[p.2]?=some p.1/\scope.names.lookup p.1=some .free:=by decide +kernel
 len:ys.length=is.length:=by rfl
 nd:(x::ys).Nodup:=by decide +kernel
def PF(X:Cx)(ifs:Al)(t:TT):Prop :=
 ∀(pins:Ac) (s:Aq) (σ:St) (H:Hp) (Q:Bool->Hp->Prop),Inv X pins σ H s->t σ H Q ->
  A2 X (forIn ifs true fun c r=>if r=true then do let ok <-isTrue c X.env (eval c X.env);pure (ForInStep.yield ok) else pure (ForInStep.yield r)) (TP X pins σ Q) X.xe s
structure QF(X:Cx)(ifs:Al)(t:TT):Prop where
 out:PF X ifs t
def uR:TT:=fun _ H Q=>Q true H
def Xx{X:Cx}:QF X [] uR:=⟨fun _ _ _ H _ I h=>wpAny_tests_nil ⟨H,I,h⟩⟩
def kH{X:Cx}{c:Av}{t:TT}(h:QT X c t):QF X [c] t:=⟨fun pins s σ H Q I hw=>wpAny_tests_one (h.out pins s σ H Q I hw)⟩
section
variable {X:Cx}{S scope:Scope}{N:Ai}{x:Str}{ys:Ai}{is:Aj}{pins:Ac}{σ:St}{H₂:Hp}{s₂:Aq}{fp:List Au}
theorem Yj.cellOf'(K:Yj S scope N x ys is)(C:X.env.scope=S)(ok:X.Ok):∀y∈scope.names,y.2=.free->∃c,X.env.cells.lookup y.1=some c:=fun y q h =>
 ok.has y.1 (by show X.env.scope.names.lookup y.1=_\/X.env.scope.names.lookup y.1=_;rw [C];exact K.free y q h)
theorem Yj.cl(K:Yj S scope N x ys is)(q:X.env.scope=S)(ok:X.Ok):∀y c,(qh X.env.cells scope.names []).lookup y=some c->X.env.cells.lookup y=some c :=
 Jo (K.cellOf' q ok) fun _ _ z=>by cases z
theorem zr{names:List (Str × NameKind)}{y:Str}{k:NameKind}(h:names.lookup y=some k):(y,k)∈names:=by
 induction names with
 | nil=>cases h
 | cons p r C =>
  obtain ⟨n,q⟩:=p;rw [Qcy] at h;cases hx:y == n with
  | true =>
   rw [hx] at h;have e1:y=n:=by simpa using hx
   have e2:q=k:=Option.some.inj h;rw [e1,e2];exact Qaq
  | false =>
   rw [hx] at h;exact Qam _ (C h)
theorem uS(K:Yj S scope N x ys is)(C:X.env.scope=S)(I:Inv X pins σ H₂ s₂)(G:s₂.heap.objs.size<=a)(q:∀b∈fp,G9 X pins H₂ b)(D:∀b∈fp,b < s₂.heap.objs.size):(cxC X (x::ys) scope a s₂ H₂ fp).Ok where
 mod:=I.ok.mod
 kind:=K.kind
 glob:=I.ok.glob
 blt:=I.ok.blt
 above:=G
 inj:=fun y z c h1 h2=>I.ok.inj y z c (K.cl C I.ok y c h1) (K.cl C I.ok z c h2)
 has:=fun y J=>XJ (Gv (env:=X.env) K.cell J)
 cab:=fun y c h=>by cases h
 hd:=I.ok.hd
 frames:=I.ok.frames
 stk:=.inl rfl
 exf:=fun b hb=>⟨fun e=>absurd (Qbj (D b hb) (Qa8 G (Qhh (Eq.symm e)))) (Qbz _),fun y c h=>(q b hb).2.2.2.2.1 y c (K.cl C I.ok y c h)⟩
 bs:=I.bs
 bsz:=Qa8 I.ok.bsz I.sz
 noex:=fun b o e hb=>by
  rcases (q b hb).2.2.2.1 with z | z
  ·exact I.ok.noex b o e z
  ·exact absurd (Qbj (Qap e) (Qa8 I.ok.bsz z)) (Qbz _)
 exfs:=fun b hb z=>by
  rcases Qan.mp (I.stkSub b z) with e | e
  ·exact (q b hb).2.1 e
  ·exact (q b hb).2.2.1 e
 funs:=I.stack
 frf:=I.stkFree
def Zg7(K:Yj S scope N x ys is)(G:X.env.scope=S)(hN:X.N=N)(hk:S.kind=.function)(I:Inv X pins σ H₂ s₂){q:Heap}{tk:Nat}(hC:s₂.heap.objs.size<=a)(hD:s₂.heap.objs.size<=Z)(hDC:Z≠a)
  (hfp:∀b∈fp,G9 X pins H₂ b) (hlt:∀b∈fp,b < s₂.heap.objs.size) (D:∀b o,s₂.heap.get? b=some o->q.get? b=some o) (hn:q.Ns a fun _=>none) (O:q.get? Z=some U) (hod:∀v,U.data≠.cell v) :
  Inv (cxC X (x::ys) scope a s₂ H₂ fp) [(Z,U)] (Ja is σ none) H₂ { s₂ with heap:=q,toks:=tk }:=by
 have ok:=uS K G I hC hfp hlt;refine ⟨ok,rfl,I.bare,Un.kept D,⟨_,hn,fun i y v h1 h2 h3=>?_⟩,fun y c h=>?_,I.hok.fresh hC,fun y c h=>I.freeC y c (K.cl G I.ok y c h),fun p hp=>?_,I.hok.kept D,?_⟩
 ·cases i with
  | zero =>
   have C:some (none:Option V)=some (some v):=h2;cases C
  | succ i =>
   have h1':ys[i]?=some y:=h1;have C:(is.map fun i=>(σ[i]?).getD none)[i]?=some (some v):=h2;rw [Qaj] at C;cases hj:is[i]? with
   | none=>rw [hj] at C;cases C
   | some j =>
    have hσ:σ[j]?=some (some v):=by
     grind
    have hz:(y,j)∈ys.zip is:=by
     obtain ⟨a1,e1⟩:=Qah.mp h1';obtain ⟨a2,e2⟩:=Qah.mp hj;rw [<-e1,<-e2,<-Qfs (h:=by rw [Qcd];lia)];exact Qc9 _
    obtain ⟨v1,Y⟩:=K.vis _ hz;have kc:X.env.kindOf y=some .cell\/X.env.kindOf y=some .free:=by show X.env.scope.names.lookup y=_\/X.env.scope.names.lookup y=_;rw [G];exact K.free _ (zr Y) rfl
    obtain ⟨m,hm,hl⟩:=I.loc;obtain ⟨u,r,l⟩:=hl j y v (by rw [hN];exact v1) hσ (.inr kc);refine ⟨u,r,.inr ?_⟩;rcases l with ⟨l1,_⟩ | ⟨_,c,l2,l3⟩
    ·grind
    ·obtain ⟨c',J⟩:=XJ (cells:=X.env.cells) (acc:=[]) Y
     have e:c'=c:=by have:=K.cl G I.ok y c' J;rw [l2] at this;exact (Option.some.inj this).symm
     subst e;refine ⟨kc.imp (Gu (scope:=scope) (by rw [G];exact hk) Y) (Jp Y),c',J,?_⟩;obtain ⟨o,ho,hd⟩:=l3;exact ⟨o,D _ _ ho,hd⟩
 ·obtain ⟨v,o,ho,hd⟩:=I.cell y c (K.cl G I.ok y c h)
  exact ⟨v,o,D _ _ ho,hd⟩
 ·have e:p=(Z,U):=by simpa [cxC] using hp
  subst e;refine ⟨O,I.hok.fresh hD,hDC,fun z=>?_,hod⟩;obtain ⟨_,o,ho,_⟩:=ok.funs.mem z;exact absurd (Qbj (Qap ho) hD) (Qbz _)
 ·show (Ja is σ none).length=(x::ys).length
  unfold Ja;rw [Qce,Qac,Qce,K.len]
def Zg8(I:Inv X pins σ H₂ s₂){N':Ai}{H':Hp}{pl:Ac}(G:Inv (cxC X N' scope a s₂ H₂ fp) pl f H' s)(Y:s₂.heap.objs.size<=l)(D:H' l=none)
  (C:∀b∈fp,G9 X pins H₂ b)    (hz:v.length<=sizeLine) (r:Vals v J) (hd:s.heap.get? l=some { cls:=.type "list",data:=.seq J.toArray n }) :
  Inv X pins σ (upd H' l (.lst v)) s:=by
 have b:Un (frs X.stack) fp H₂ H' s₂.heap s.heap:=G.base;have ne:∀c o,s₂.heap.get? c=some o->c≠l:=fun c o e z=>absurd (Qbj (Qap e) (Qa8 Y (Qhh (Eq.symm z)))) (Qbz _);have O:H₂ l=none:=I.hok.fresh Y;refine I.call' G.os ⟨b.keep,b.slot,fun c o e n hx=>?_,b.there,fun c xs e=>?_,fun c o u e=>?_,fun c ps e=>?_⟩ (fun c u e=>?_) G.bare fun c hc=>⟨(C c hc).2.2.2.1,(C c hc).2.1,(C c hc).2.2.2.2.1,(C c hc).2.2.2.2.2⟩
 ·rw [Zh (ne c o e)];exact b.free c o e n hx
 ·rw [Zh (Zj e O)];exact b.tups c xs e
 ·rw [Zh (Zj e O)];exact b.frzs c o u e
 ·rw [Zh (Zj e O)];exact b.tbls c ps e
 ·by_cases hc:c=l
  ·subst hc
   rw [Za] at e;cases e;exact ⟨hz,J,n,r,hd⟩
  ·rw [Zh hc] at e
   exact (G.hok c u e).stay (fun _ _ _ q=>q) (fun d q=>by rw [Zh (Zj q D)];exact q) fun d xs q=>by rw [Zh (Zj q D)];exact q
end
section
variable {prog:An}{w:Ar}{A:Ao}{R:Result->Shared->Prop}{s:Aq}
def uT{q iter:Av}{scope:Scope}{it acc:As}{env:Env}(I:Nat->Shared->Prop)
  (turn:∀n s,I n s->A1 prog w A (pyNext it) (fun r D=>match r with
   | none=>R (.ok .next) D
   | some v=>A1 prog w A (letOwnedTupleGo q it v) (fun _ G=>A1 prog w A (assign q env v) (fun _ s₂ =>
     A1 prog w A (forIn B true fun c r=>if r=true then do let ok <-isTrue c env (eval c env);pure (ForInStep.yield ok) else pure (ForInStep.yield r)) (fun ok C =>
      if ok=true then A1 prog w A (eval o env) (fun x J =>
       A1 prog w A (call (.builtin "list.append") [acc,x]) (fun _ Z=>∃m,m < n/\I m Z) (fun _ _=>False) J) (fun _ _=>False) C
      else ∃m,m < n/\I m C) (fun _ _=>False) s₂) (fun _ _=>False) G) (fun _ _=>False) D) (fun _ _=>False) s)
  (n:Nat) (h:I n s) :
  codeAny (model prog w) A (.compLoop (.ListComp o [⟨q,iter,B,0⟩] scope p) 0 it acc env) R s:=by
 refine codeAny_loop rfl I (fun n s hI=>?_) n h;refine wpAny_noted ?_;have nf:∀{E:Ab} (e:As) (s':Aq),False->E e s':=fun _ _ z=>z.elim;refine Qaa (wpAny_standAt (Qaa (Qc6 (turn n s hI) (fun r D O=>?_) nf)));cases r with
 | none=>exact Qad O
 | some v =>
  refine Qaa (Qc6 O (fun _ G h₁'=>?_) nf);refine Qaa (Qc6 h₁' (fun _ s₂ h₂=>Qaa (Qc6 h₂ (fun ok C Y=>?_) nf)) nf);cases ok with
  | false=>exact Qad ⟨rfl,Y⟩
  | true =>
   exact Qaa (Qaa (Qc6 Y (fun x J h₄=>Qaa (Qc6 h₄ (fun _ Z h₅=>Qad (Qad ⟨rfl,h₅⟩)) nf)) nf))
end
def Jq(is:Aj)(tc:TT)(te:TE)(σ:St)(Q:VK)(J:It)(H1:Hp):Prop:=∃W:Nat->Nat->List V->Hp->Prop,(∃m,W 0 m [] H1)/\∀i m zs H,W i m zs H ->
 (J.stop i H/\zs.length<=sizeLine/\∀p,H p=none->Q (.ref p) (upd H p (.lst zs))) \/
 (J.go i H/\zs.length<=sizeLine/\∀x H',J.yld i H x H'->tc (Ja is σ (some x)) H' fun b H2=>if b=true then te (Ja is σ (some x)) H2 fun y C=>∃q,q < m/\W (i + 1) q (zs++[y]) C else ∃q,q < m/\W (i + 1) q zs H2)
def Zjq(wi:TI)(is:Aj)(tc:TT)(te:TE):TE:=fun σ H Q=>wi σ H (Jq is tc te σ Q)
section
variable {X:Cx}{S scope:Scope}{N:Ai}{x:Str}{ys:Ai}{is:Aj}{pins:Ac}{σ:St}{H₂:Hp}{s₂:Aq}{fp:List Au}{elt iter:Av}{px pos:Pos}{ifs:Al}{tc:TT}{te:TE}
def xK{J:It}{it:Au}{tn:Nat->Heap->Prop}{Q:VK}{RR:As->Addr->Result->Shared->Prop}{E:Ab}(K:Yj S scope N x ys is)(hX:X.env.scope=S)(hN:X.N=N)(hk:S.kind=.function)(hc:X.calm=true)
  (hf:∀C s₂ H₂ ex,QF (cxC X (x::ys) scope C s₂ H₂ ex) ifs tc) (he:∀C s₂ H₂ ex,QE (cxC X (x::ys) scope C s₂ H₂ ex) elt te)
  (I:Inv X pins σ H₂ s₂) (T:Turn X.prog X.w X.K (.Name x px) J fp it tn) (st:tn 0 s₂.heap) (hfp:∀b∈fp,G9 X pins H₂ b)
  {W:Nat->Nat->List V->Hp->Prop}  (w0:W 0 L [] H₂)
  (turn:∀i m zs H,W i m zs H->(J.stop i H/\zs.length<=sizeLine/\∀p,H p=none->Q (.ref p) (upd H p (.lst zs))) \/
   (J.go i H/\zs.length<=sizeLine/\∀x H',J.yld i H x H'->tc (Ja is σ (some x)) H' fun b H2=>if b=true then te (Ja is σ (some x)) H2 fun y H3=>∃Z,Z < m/\W (i + 1) Z (zs++[y]) H3 else ∃Z,Z < m/\W (i + 1) Z zs H2))
  (fin:∀D C s' H' Z,Inv X pins σ H' s'->G9 X pins H' C->s'.heap.Ns C Z->Q (.ref D) H'->RR (.ref D) C (.ok .next) s') :
  A2 X (newList []) (fun acc Y=>A2 X (newFunctionEnv scope X.env.globals (qh X.env.cells scope.names []) [] X.env.qual none .none (some X.env)) (fun cenv s₄ =>
   codeAny (model X.prog X.w) X.A (.compStart (.ListComp elt [⟨.Name x px,iter,ifs,0⟩] scope pos) 0 (.ref it) acc { cenv with scope:=relabel scope X.env }) (RR acc cenv.locals) s₄) E Y) E s₂:=by
 refine Qa9 (wpAny_newFunctionEnv K.cell (by intro y hy;simp at hy) (fun h₁ hns₁ O=>?_) K.kind);generalize hH2:s₂.heap.push { cls:=.type "list",dict:=none,data:=.seq ([]:Ag).toArray }=H2 at hns₁ O ⊢;have hCs:H2.objs.size=s₂.heap.objs.size + 1:=by rw [<-hH2,Qbv]
 have hDC:s₂.heap.objs.size≠H2.objs.size:=by rw [hCs];exact Qbe (Qco _)
 have hC:s₂.heap.objs.size<=H2.objs.size:=by rw [hCs];exact Qdn _
 have hlt:∀b∈fp,b < s₂.heap.objs.size:=fun b hb=>by obtain ⟨o,e,_⟩:=T.obj 0 _ st b hb;exact Qap e
 have old:∀b o,s₂.heap.get? b=some o->h₁.get? b=some o:=fun b o e=>O.extBut b o (by rw [hCs];exact Qbe (Qcq (Qap e))) (Qab _ (hH2 ▸ Qab _ e));have hacc:h₁.get? s₂.heap.objs.size=some { cls:=.type "list",data:=.seq ([]:Ag).toArray 0 }:=O.extBut _ _ hDC (Qab _ (hH2 ▸ Qak _ rfl));have st₁:tn 0 h₁:=T.keep _ _ _ st fun b _ o e=>old b o e;have fpC:∀{H':Hp} {pl:Ac},(∀p∈pl,∀b∈fp,p.1≠b)->(∀b∈fp,H' b=none)->∀b∈fp,G9 (cxC X (x::ys) scope H2.objs.size s₂ H₂ fp) pl H' b:=fun {H' pl} hpl hn b hb=>by
  have ok:=uS K hX I hC hfp hlt;exact ⟨hn b hb,(ok.exf b hb).1,ok.exfs b hb,.inl hb,(ok.exf b hb).2,fun p hp=>hpl p hp b hb⟩
 have Dfp:∀(o:Obj),∀p∈[(s₂.heap.objs.size,o)],∀b∈fp,p.1≠b:=fun o p hp b hb e=>by
  grind
 have loop:∀Y:Aq,Y={ s₂ with heap:=h₁,toks:=s₂.toks + ([]:List (Str × As)).length } ->
   codeAny (model X.prog X.w) X.A (.compLoop (.ListComp elt [⟨.Name x px,iter,ifs,0⟩] scope pos) 0 (.ref it) (.ref s₂.heap.objs.size) (compEnvC scope (qh X.env.cells scope.names []) H2.objs.size X.env))
    (RR (.ref s₂.heap.objs.size) H2.objs.size) Y:=by
  rintro Y rfl;have I0:=Zg7 K hX hN hk I (tk:=s₂.toks + ([]:List (Str × As)).length) hC (Qag _) hDC hfp hlt old hns₁ hacc (fun v z=>by cases z);refine uT (fun n s'=>∃(i:Nat) (v0:Option V) (zs:A0) (G:Ag) (k:Nat) (H':Hp),Inv (cxC X (x::ys) scope H2.objs.size s₂ H₂ fp) [(s₂.heap.objs.size,{ cls:=.type "list",data:=.seq G.toArray k })] (Ja is σ v0) H' s' /\
   Vals zs G/\tn i s'.heap/\(∀b∈fp,H' b=none)/\W i n zs H') ?_ L ⟨0,none,[],[],0,H₂,I0,.nil,st₁,fun b hb=>(hfp b hb).1,w0⟩
  rintro n s3 ⟨i,v0,zs,G,k,H3,I3,rv,st3,fr3,w3⟩;rcases turn i n zs H3 w3 with ⟨stop,hz,q⟩ | ⟨go,hz,step⟩
  ·refine thn (T.done (cxC X (x::ys) scope H2.objs.size s₂ H₂ fp) rfl rfl rfl hc i _ s3 _ H3 _ I3 (fpC (Dfp _) fr3) st3 stop) fun r s4 ⟨hr,I4⟩=>?_
   subst hr;have hD4:=I4.pin _ (Qa3 _ (Qal.mpr rfl));have I5:=Zg8 I I4 (Qag _) hD4.2.1 hfp hz rv hD4.1;obtain ⟨Z,hm',_⟩:=I4.loc;refine fin _ _ s4 _ Z I5 ?_ hm' (q _ hD4.2.1);refine I.fpOk hC ?_;rw [Zh (Qd5 hDC)];exact I4.free
  ·refine thn (T.item (cxC X (x::ys) scope H2.objs.size s₂ H₂ fp) rfl rfl rfl hc i _ s3 _ H3 _ I3 (fpC (Dfp _) fr3) st3 go) fun r s4 ⟨u,hr,h4⟩=>?_
   subst hr;refine thn h4 fun _ s5 ⟨xv,H5,I5,r5,y5,st5,fr5⟩=>?_;have I5':=I5.pinned (fpC (Dfp _) fr5) (T.obj _ _ st5);have pg:PG (cxC X (x::ys) scope H2.objs.size s₂ H₂ fp) (.Name x px) (zk 0):=ue K.nd rfl (.inl (lookup_relabel_local K.own)) (.inr (lookup_relabel_local K.own));refine thn (pg _ s5 _ H5 xv u (fun σ2 H2=>σ2=Ja is σ (some xv)/\H2=H5) I5' r5 ⟨rfl,rfl⟩) fun _ s6 ⟨σ6,H6,I6,e6,e6'⟩=>?_;subst e6;subst e6';have back:∀{s7:Aq} {H7:Hp},Inv (cxC X (x::ys) scope H2.objs.size s₂ H₂ fp) ([(s₂.heap.objs.size,{ cls:=.type "list",data:=.seq G.toArray k })]++j5 fp s5.heap) (Ja is σ (some xv)) H7 s7 ->
     tn (i + 1) s7.heap/\(∀b∈fp,H7 b=none)/\s7.heap.get? s₂.heap.objs.size=some { cls:=.type "list",data:=.seq G.toArray k }/\H7 s₂.heap.objs.size=none:=fun {s7 H7} I7=>by
    refine ⟨T.keep _ _ _ st5 fun b hb o e=>(I7.pin (b,o) (Qa3 _ (Qa3 _ (W8 hb e)))).1,fun b hb=>?_,?_,?_⟩
    ·obtain ⟨o,e,d⟩:=T.obj _ _ st5 b hb
     exact (I7.pin (b,o) (Qa3 _ (Qa3 _ (W8 hb e)))).2.1
    ·exact (I7.pin (s₂.heap.objs.size,{ cls:=.type "list",data:=.seq G.toArray k }) (Qa3 _ (Qb7 _ (Qal.mpr rfl)))).1
    ·exact (I7.pin (s₂.heap.objs.size,{ cls:=.type "list",data:=.seq G.toArray k }) (Qa3 _ (Qb7 _ (Qal.mpr rfl)))).2.1
   refine thn ((hf _ _ _ _).out _ s6 _ H6 _ I6 (step xv H6 y5)) fun b s7 ⟨H7,I7,q7⟩=>?_;cases b with
   | false =>
    have q7':∃Z,Z < n/\W (i + 1) Z zs H7:=by simpa using q7
    obtain ⟨Z,hm',w7⟩:=q7';obtain ⟨b1,b2,b3,b4⟩:=back I7;exact ⟨Z,hm',i + 1,some xv,zs,G,k,H7,I7.unpinned,rv,b1,b2,w7⟩
   | true =>
    have q7':=q7;refine thn ((he _ _ _ _).out _ s7 _ H7 _ I7 q7') fun yv s8 ⟨y,H8,I8,r8,Z,hm',w8⟩=>?_;obtain ⟨b1,b2,b3,b4⟩:=back I8;refine append_at b3 (fun h9 sb9 e9=>?_) (by rw [Qbb,<-rv.length];exact hz);have ok:=uS K hX I hC hfp hlt;have I8':Inv (cxC X (x::ys) scope H2.objs.size s₂ H₂ fp) [] (Ja is σ (some xv)) H8 s8:=I8.pins_of fun p hp=>by cases hp
    have I9:Inv (cxC X (x::ys) scope H2.objs.size s₂ H₂ fp) [] (Ja is σ (some xv)) H8 { s8 with heap:=h9 }:=I8'.turned (t':=s8.toks) (it:=s₂.heap.objs.size) (fun b o hb e=>(sb9.2 b hb).trans e) b4 hDC (.inr (Qag _))
     (fun y c h z=>by
      obtain ⟨v,o,ho,_⟩:=I.cell y c (K.cl hX I.ok y c h);have:=Qap ho;rw [z] at this;exact Qbz _ this) (fun p hp=>by cases hp)
    refine ⟨Z,hm',i + 1,some xv,zs++[y],G++[yv],k + 1,H8,?_,rv.append (.cons r8 .nil),T.keep _ _ _ b1 fun b hb o e=>(sb9.2 b fun z=>absurd (hlt b hb) (by rw [z];exact Qbz _)).trans e,b2,w8⟩;refine I9.pins_of fun p hp=>?_;have e1:p=(s₂.heap.objs.size,{ cls:=.type "list",data:=.seq (G++[yv]).toArray (k + 1) }):=by simpa using hp
    subst e1;refine ⟨by rw [e9,List.push_toArray],b4,hDC,fun z=>?_,fun v z=>by cases z⟩;obtain ⟨_,o,ho,_⟩:=ok.funs.mem z;exact absurd (Qap ho) (Qbz _)
 exact codeAny_compStart_list (loop _ rfl) (T.self _ 0 _ _ _ st₁ (loop _ rfl))
end
section
variable {X:Cx}{S scope:Scope}{N:Ai}{x:Str}{ys:Ai}{is:Aj}{elt iter:Av}{px pos:Pos}{ifs:Al}{wi:TI}{tc:TT}{te:TE}
def Y4(K:Yj S scope N x ys is)(hi:QI X (.Name x px) iter wi)(hf:∀C s₂ H₂ ex,QF (cxC X (x::ys) scope C s₂ H₂ ex) ifs tc)(he:∀C s₂ H₂ ex,QE (cxC X (x::ys) scope C s₂ H₂ ex) elt te)
  (hc:X.calm=true:=by rfl) (hX:X.env.scope=S:=by rfl) (hN:X.N=N:=by rfl) (hk:S.kind=.function:=by rfl) (hs:∀v,foldedSetIterable iter X.env v=pure v:=by intro _;rfl) :
  QE X (.ListComp elt [⟨.Name x px,iter,ifs,0⟩] scope pos) (Zjq wi is tc te):=by
 refine ⟨fun pins s σ H Q I h=>?_⟩;refine wpAny_comprehension_free (use:=none) rfl hs (W9 (K.cellOf' hX I.ok)) K.kind K.names (thn (hi.out pins s σ H _ I h) fun v s1 h1=>thn h1 fun itv s2 h2=>?_);obtain ⟨it,fp,tn,J,H2,rfl,I2,T,Y,f2,W,⟨m0,w0⟩,G⟩:=h2;refine xK (RR:=fun acc C=>compPost (model X.prog X.w) X.A X.xe none (EP X pins σ Q) acc C) K hX hN hk hc hf he I2 T Y f2 w0 G ?_;intro D C s' H' m' I' fC Z q;obtain ⟨f0,f1,f3,f4,f5,f6⟩:=fC;exact ⟨m',Z,fun h' O=>⟨.ref D,H',I'.turned (t':=s'.toks) (fun b o hb e=>(O.2 b hb).trans e) f0 f1 f4 f5 f6,rfl,q⟩⟩
def yT{y:Str}{Y spos:Pos}(hNd:X.N.Nodup)(hy:X.N[i]?=some y)(hl:X.env.scope.names.lookup y=some .local)(K:Yj S scope N x ys is)(hi:QI X (.Name x px) iter wi)
  (hf:∀C s₂ H₂ ex,QF (cxC X (x::ys) scope C s₂ H₂ ex) ifs tc) (he:∀C s₂ H₂ ex,QE (cxC X (x::ys) scope C s₂ H₂ ex) elt te)
  (Z:swapsWith (.ListComp elt [⟨.Name x px,iter,ifs,0⟩] scope pos) (some (.Name y Y)) spos.line X.env=pure true:=by rfl)
  (hc:X.calm=true:=by rfl) (hX:X.env.scope=S:=by rfl) (hN:X.N=N:=by rfl) (hk:S.kind=.function:=by rfl) (hs:∀v,foldedSetIterable iter X.env v=pure v:=by intro _;rfl) :
  QS X (.Assign [.Name y Y] (.ListComp elt [⟨.Name x px,iter,ifs,0⟩] scope pos) spos) (Zjk (Zjq wi is tc te) (zk i)):=by
 refine ⟨fun pins s σ H D I h=>?_⟩;rw [exec_Assign_Name_used _ _ _ _ Z];refine Qaa (wpAny_standAt (Qaa ?_));refine Qaa (thn (wpAny_comprehension_free (use:=some (assign (.Name y Y) X.env)) (Q:=fun _ s'=>SP X pins D .next s') rfl hs (W9 (K.cellOf' hX I.ok)) K.kind K.names
  (thn (hi.out pins s σ H _ I h) fun v s1 h1=>thn h1 fun itv s2 h2=>?_)) fun _ s' hq=>Qad (Qad hq))
 obtain ⟨it,fp,tn,J,H2,rfl,I2,T,st2,f2,W,⟨m0,w0⟩,O⟩:=h2;refine xK (RR:=fun acc C=>compPost (model X.prog X.w) X.A X.xe (some (assign (.Name y Y) X.env)) (fun _ s'=>SP X pins D .next s') acc C) (Q:=fun v H=>D.nx (σ.set i (some v)) H) K hX hN hk hc hf he I2 T st2 f2 w0 O ?_;intro Dl C s' H' m' I' fC hm' q;obtain ⟨f0,f1,f3,f4,f5,f6⟩:=fC;obtain ⟨oC,es,ep,hoC,hdC,hrC⟩:=hm';have Ip:Inv X (pins++[(C,oC)]) σ H' s':=I'.pins_of fun p hp=>(Qa4.mp hp).elim (fun z=>I'.pin p (Qa3 _ z)) fun z=>by
  grind
 refine wpAny_assign_Name (XC Ip hNd hy (.inl hl) (v:=.ref Dl) rfl (fun s'' G=>?_) (.inr hl));have hC2:=(G.pin (C,oC) (Qa3 _ (Qa3 _ (Qal.mpr rfl)))).1;refine ⟨m',⟨oC,es,ep,hC2,hdC,hrC⟩,fun h' hs'=>⟨_,H',G.unpinned.turned (t':=s''.toks) (fun b o hb e=>(hs'.2 b hb).trans e) f0 f1 f4 f5 f6,q⟩⟩
end
def JS{lo:Int}{is:Aj}{Q:VK}(C:Nat->List V->Hp->Prop)(J:C 0 [] H)(hl:∀i zs H,C i zs H->zs.length<=sizeLine)
  (hs:∀i zs H (R:A0->Hp->Prop),(∀zs H,C (i + 1) zs H->R zs H)->i < n->C i zs H->E (Ja is f (some (.int (lo + i)))) H fun b H2=>if b=true then d (Ja is f (some (.int (lo + i)))) H2 fun y I=>R (zs++[y]) I else R zs H2)
  (hd:∀zs H,C n zs H->∀p,H p=none->Q (.ref p) (upd H p (.lst zs))) :
  Jq is E d f Q (Itr lo n) H:=by
 refine ⟨fun i m zs H=>m=n - i/\i<=n/\C i zs H,⟨n,by simp,Qba _,J⟩,?_⟩;rintro i m zs H ⟨rfl,hi,p⟩
 by_cases D:i < n
 ·refine .inr ⟨D,hl i zs H p,fun x H' y=>?_⟩
  obtain ⟨e,y⟩:=y;subst e y;exact hs i zs _ (fun zs H=>∃G,G < n - i/\G=n - (i + 1)/\i + 1<=n/\C (i + 1) zs H) (fun zs H q=>⟨n - (i + 1),by lia,rfl,D,q⟩) D p
 ·have e:i=n:=by lia
  subst e;exact .inl ⟨Qag _,hl _ _ _ p,hd zs H p⟩
def Jr{xs:A0}{is:Aj}{Q:VK}(C:Nat->List V->Hp->Prop)(O:C 0 [] H)(hl:∀i zs H,C i zs H->zs.length<=sizeLine)(G:∀i zs H,C i zs H->SqT K H a xs)
  (hs:∀i x zs H (R:A0->Hp->Prop),(∀zs H,C (i + 1) zs H->R zs H)->xs[i]?=some x->C i zs H->E (Ja is f (some x)) H fun b H2=>if b=true then d (Ja is f (some x)) H2 fun y J=>R (zs++[y]) J else R zs H2)
  (hd:∀zs H,C xs.length zs H->∀p,H p=none->Q (.ref p) (upd H p (.lst zs))) :
  Jq is E d f Q (Itt K a) H:=by
 refine ⟨fun i m zs H=>m=xs.length - i/\i<=xs.length/\C i zs H,⟨xs.length,by simp,Qba _,O⟩,?_⟩;rintro i m zs H ⟨rfl,hi,p⟩
 by_cases D:i < xs.length
 ·refine .inr ⟨⟨xs,xs[i],G i zs H p,Qaf D⟩,hl i zs H p,fun x H' y=>?_⟩
  obtain ⟨e,y⟩:=y;subst e;exact hs i x zs _ (fun zs H=>∃I,I < xs.length - i/\I=xs.length - (i + 1)/\i + 1<=xs.length/\C (i + 1) zs H) (fun zs H q=>⟨xs.length - (i + 1),by lia,rfl,D,q⟩) (y xs (G i zs _ p)) p
 ·have e:i=xs.length:=by lia
  exact .inl ⟨⟨xs,G i zs H p,by lia⟩,hl _ _ _ p,by rw [e] at p;exact hd zs H p⟩
end L2
namespace HT
section
variable {prog:An}{w:Ar}{A:Ao}{E:Ab}{s:Aq}
end
end HT
namespace L2
section
variable {X:Cx}{e st:Av}{te ts:TE}{pos p2:Pos}
end
end L2
namespace RvT
def owner_rev:Manifest.owners.lookup (String.ofList ['d','e','s','r','e','v','e','r'].reverse)=some Manifest.sig_reversed:=by kernel_rfl
theorem slot_next:Slot "reversed" "__next__" "reversed.__next__" :=
 .of (owner := "reversed") (n := "__next__") (by kernel_rfl) (by decide +kernel) (by decide +kernel) (by decide +kernel)
  (by first | exact .inl (by decide +kernel) | exact .inr (by decide +kernel)) (by kernel_rfl)
def entry_next:entryFor table "reversed.__next__" = some Builtin.«reversed.__next__»:=entryFor_of_tree (by kernel_rfl)
def args_next (a:As):argsOk "reversed.__next__" ⟨[a],[]⟩:=by
 kernel_rfl
theorem jK:Slot "reversed" "__iter__" "reversed.__iter__" :=
 .of (owner := "reversed") (n := "__iter__") (by rw [Qhi,Qfn];kernel_rfl) (by decide +kernel) (by decide +kernel) (by decide +kernel)
  (by first | exact .inl (by decide +kernel) | exact .inr (by decide +kernel)) (by rw [Qgr];kernel_rfl)
def uU (a:As):argsOk "reversed.__iter__" ⟨[a],[]⟩:=by
 kernel_rfl
theorem wZ:entryFor table "reversed.__iter__" = some Builtin.«dict_keyiterator.__iter__» :=
 entryFor_alias (id' := "dict_keyiterator.__iter__") (by kernel_rfl) (by first | rfl | decide +kernel | (unfold String.splitOn;simp +decide [String.splitOnAux])) (by decide +kernel) (by kernel_rfl)
theorem uV:Slot "reversed" "__init__" "object.__init__" :=
 .of (owner := "object") (n := "__init__") (by kernel_rfl) (by decide +kernel) (by decide +kernel) (by decide +kernel)
  (by first | exact .inl (by decide +kernel) | exact .inr (by decide +kernel)) (by kernel_rfl)
theorem called:TypeCalled "reversed" "reversed.__new__" "object.__init__" :=
 ⟨by decide +kernel,F.create_reversed,⟨_,_,F.mro_reversed⟩,F.made_reversed,F.plain_reversed_new,F.sub_reversed_self,uV⟩
def yU:typeLookup (.type "tuple") "__reversed__" = pure none:=by kernel_rfl
def sub_tuple_dict:isSubtype (.type "tuple") (.type "dict")=pure false:=by kernel_rfl
def revObj (t:Au) (i:Int):Obj:={ cls:=.type "reversed",data:=.fields #[.ref t,rawInt i] }
def IsRev (h:Heap) (a t:Au) (i:Int):Prop:=∃o,h.get? a=some o/\o.cls=.type "reversed" /\ o.data=.fields #[.ref t,rawInt i]
def IsRev.typeIs  {t:Au} {i:Int} (x:IsRev s.heap a t i):s.TypeIs (.ref a) "reversed" := let ⟨o,ho,hc,_⟩:=x;⟨o,ho,hc⟩
def IsRev.at{h':Heap}{t:Au}{i:Int}(x:IsRev h a t i)(e:∀o,h.get? a=some o->h'.get? a=some o):IsRev h' a t i:=let ⟨o,ho,r⟩:=x;⟨o,e _ ho,r⟩
section
variable {prog:An}{w:Ar}{A:Ao}{E:Ab}{s:Aq}
theorem Wo(t:Au)(items:Ah)(hz:items.size < 2 ^ 63) :
  Meets (Builtin.«reversed.__new__» ⟨[.type "reversed",.ref t],[]⟩) (fun _ R s=>IsTup s.heap t items/\∀tk,R (.ok (.ret (.ref s.heap.objs.size))) { s with heap:=s.heap.push (revObj t ((items.size:Int) - 1)),toks:=tk }) :=
 .of_wp fun prog w A R s h=>by
  obtain ⟨q,h⟩:=h;refine Qaa (Qcj (newClass_reversed _) ?_);refine Qaa (Qcj (a:=()) (by first | rfl | kernel_rfl) ?_);refine Qaa (Qcj (a:=()) (by first | rfl | kernel_rfl) ?_);refine Qaa (Qdj q.typeIs yU ?_);refine Qaa ?_;refine Qaa (Qda (T := "tuple") (b:=false) q.typeIs sub_tuple_dict ?_);refine Qaa (Qdj q.typeIs Qbt.lookup ?_);refine Qad ?_;refine Qaa (len_tuple q (by lia) ?_);refine Qaa (Qcj (a:=some (items.size:Int)) rfl ?_);refine Qaa (m:=newObj (.type "reversed") (.fields #[.ref t,rawInt ((items.size:Int) - 1)])) (Qa9 ?_);exact Qad ⟨_,rfl,h _⟩
theorem call_rev{t:Au}{items:Ah}(C:IsTup s.heap t items)(hz:items.size < 2 ^ 63)(h:∀tk,Q (.ref s.heap.objs.size) { s with heap:=s.heap.push (revObj t ((items.size:Int) - 1)),toks:=tk }) :
  A1 prog w A (call (.type "reversed") [.ref t]) Q E s :=
 Qhj called (by decide) (F.typeCall_reversed_1 _) (F.newCall_reversed_1 _) (fun q=>Qfx q _) F.entry_reversed_new (Wo t items hz)
  ⟨C,fun tk=>⟨⟨_,Qak _ rfl,rfl⟩,h tk⟩⟩
def next_item{it t:Au}{items:Ah}{x:As}{Q:Aa}(q:IsRev s.heap it t (i:Int))(C:IsTup s.heap t items)(hi:(i:Int) < 2 ^ 63)(hx:items[i]?=some x)(D:t≠it)
  (G:∀h' tk,IsRev h' it t ((i:Int) - 1)->Heap.SameBut it s.heap h'->Q (some x) { s with heap:=h',toks:=tk }):A1 prog w A (pyNext (.ref it)) Q E s:=by
 obtain ⟨o,ho,hc,hd⟩:=id q;refine Qaa (Qde (wpAny_callSpecial?_slot (name:=Str.ofString "__next__") q.typeIs slot_next
  (Qbc slot_next q.typeIs entry_next ?_ (args_next _))))
 refine Qaa (Qcj (a:=(Value.ref it,[])) rfl ?_);refine Qaa (Qbx ho hd (x:=.ref t) rfl ?_);refine Qaa (Qbx ho hd (x:=rawInt (i:Int)) rfl ?_);show wpAny _ _ (if (i:Int) < 0 then _ else _) _ _ s;refine Qaa (Qdj C.typeIs Qbt.lookup ?_);refine Qaa (Qg5 ?_);have hsz:=(Array.getElem?_eq_some_iff.mp hx).1;refine Qaa (Qde (getItem_tuple (s:={ s with toks:=s.toks + 1 }) (j:=i) C (by lia) hi (by rw [seqIndex_of (by lia) (by lia),Qat]) hx ?_));refine Qaa (Qbx (s:={ s with toks:=s.toks + 1 }) ho hd (x:=rawInt (i:Int)) rfl ?_);refine Qaa (Qc5 (s:={ s with toks:=s.toks + 1 }) ho hd (by simp) ?_);refine Qad ⟨x,rfl,Qad (G _ _ ?_ (Qb6 ..))⟩;exact ⟨_,Qbh _ ho (Qck (Qbn hd _)),(Qev ..).trans hc,by
  rw [Qbn hd];simp⟩
def next_end{it t:Au}{Q:Aa}(hh:A.handled=none)(q:IsRev s.heap it t (-1))
  (D:∀h',(∀b o,b≠it->s.heap.get? b=some o->h'.get? b=some o)->Q none { s with heap:=h' }):A1 prog w A (pyNext (.ref it)) Q E s:=by
 obtain ⟨o,ho,hc,hd⟩:=id q;unfold pyNext;refine Qaa (Qde (wpAny_callSpecial?_slot (name:=Str.ofString "__next__") q.typeIs slot_next
  (Qbc slot_next q.typeIs entry_next ?_ (args_next _))))
 unfold Builtin.«reversed.__next__»;refine Qaa (Qcj (a:=(Value.ref it,[])) rfl ?_)
 try dsimp only
 refine Qaa (Qbx ho hd (x:=.ref t) rfl ?_);refine Qaa (Qbx ho hd (x:=rawInt (-1)) rfl ?_);show wpAny _ _ (if (-1:Int) < 0 then _ else _) _ _ s;rw [Qa1 (by decide)];refine Qaa (Qc1 ?_);refine Qaa ?_;show wpAny _ _ (setField (.ref it) 1 (rawInt (-1)) >>= _) _ _ _;refine Qaa (Qc5 ho hd (by simp) ?_);have C:=Qbh (Obj.mapFields (·.setIfInBounds 1 (rawInt (-1)))) ho (Qck (Qbn hd _));refine Qc5 C (Qbn hd _) (by simp) ?_
 first
 | show wpAny _ _ (newExc (.type "StopIteration") [] >>= _) _ _ _
 | (refine Qaa ?_;show wpAny _ _ (newExc (.type "StopIteration") [] >>= _) _ _ _)
 refine Qaa ?_;simp only [newExc,newTuple];refine Qaa (Qa9 ?_ (by size_fits));refine Qaa (m:=firstArgMember _ _) (Qcj (a:=Value.none) (by first | rfl | (simp only [firstArgMember];rfl)) ?_);refine Qa9 ?_ (by size_fits);simp only [raiseNew];refine Qaa (Qg6 ?_)
 first | rw [show A.in1.handled=none from hh] | rw [hh]
 refine Qaa (Qad (Qhr ?_));refine Qaa (Qda (T := "StopIteration") (b:=true) ⟨_,Qak _ rfl,rfl⟩ Qfl ?_);refine Qad (D _ fun b ob hb e=>?_);exact Qab _ (Qab _ ((Qbr _ _ (Qd5 hb)).trans ((Qbr _ _ (Qd5 hb)).trans e)))
def iter_self{it t:Au}{i:Int}(q:IsRev s.heap it t i)(h:Q (.ref it) s):A1 prog w A (pyIter (.ref it)) Q E s:=by
 refine Qfk q.typeIs jK (Qbc jK q.typeIs wZ ?_ (uU _));exact Qad ⟨_,rfl,"reversed",_,q.typeIs,slot_next.lookup,h⟩
end
end RvT
namespace L2
def Itv(K:Af)(a:Au)(n:Nat):It :=
 ⟨fun i H=>∃xs x,SqT K H a xs/\xs.length=n/\xs.reverse[i]?=some x,fun i H x H'=>H'=H/\∀xs,SqT K H a xs->xs.reverse[i]?=some x,fun i _=>i=n⟩
def Zdr{w:Ar}{tg:Av}(a it:Au)(n:Nat)(D:a≠it):Turn P w K tg (Itv K a n) [it] it (fun i h=>RvT.IsRev h it a ((n:Int) - 1 - (i:Int))) where
 mem:=by simp
 obj:=fun i h st b hb=>by
  have e:b=it:=by simpa using hb
  subst e;obtain ⟨o,e,c,d⟩:=st;exact ⟨o,e,fun v z=>by rw [d] at z;cases z⟩
 keep:=fun i h h' st k=>st.at fun o e=>k it (by simp) o e
 item:=by
  intro X hP hw hK hc i pins s σ H E I hf st hg;subst hP hw hK;obtain ⟨xs,x,hq,hn,hx⟩:=hg;obtain ⟨J,rv,p,hz⟩:=I.tuple hq;have hi:i < xs.length:=by
   grind
  have Y:xs[xs.length - 1 - i]?=some x:=by grind
  obtain ⟨u,hu,ru⟩:=rv.get Y;obtain ⟨f0,G,f2,f3,Z,O⟩:=hf it (by simp);have C:(n:Int) - 1 - (i:Int)=((xs.length - 1 - i:Nat):Int):=by lia
  have hl:=qf;rw [C] at st;refine RvT.next_item (items:=J.toArray) (x:=u) st p (by lia) (by simpa using hu) D fun h' tk q sb=>?_;have I1:Inv X pins σ H { s with heap:=h',toks:=tk }:=I.turned (fun b o hb e=>(sb.2 b hb).trans e) f0 G f3 Z O;have e1:((xs.length - 1 - i:Nat):Int) - 1=(n:Int) - 1 - ((i + 1:Nat):Int):=by lia
  rw [e1] at q;obtain ⟨o,e,c,d⟩:=id q;exact ⟨u,rfl,j4 (s:={ s with heap:=h',toks:=tk }) e c d (by decide) ⟨x,H,I1,ru,⟨rfl,fun ys hy=>by rw [I.tuple_inj hy hq];exact hx⟩,q,fun b hb=>(hf b hb).1⟩⟩
 done:=by
  intro X hP hw hK hc i pins s σ H E I hf st hg;subst hP hw hK;obtain ⟨f0,G,f2,f3,Z,O⟩:=hf it (by simp);have hg':i=n:=hg;have C:(n:Int) - 1 - (i:Int)=-1:=by lia
  rw [C] at st;exact RvT.next_end (I.ok.hd hc) st fun h' eb=>⟨rfl,I.turned (t':=s.toks) (fun b o hb e=>eb b o hb e) f0 G f3 Z O⟩
 self:=fun _ _ _ _ _ st h=>RvT.iter_self st h
def iRev(K:Af)(te:TE):TI:=fun σ H R=>te σ H fun x H1=>∃a xs,x=.ref a/\SqT K H1 a xs/\R (Itv K a xs.length) H1
def uW {X:Cx} {tg:Av}   (hg:Gl X "reversed") (hm:X.mg "reversed" = none) (he:QE X e d) (hp:ZW e=true:=by rfl):QI X tg (.Call (.Name "reversed" p) [e] [] A) (iRev X.K d):=by
 refine ⟨fun pins s σ H R I h=>?_⟩;have hs:starEach [e] X.env=[(false,eval e X.env)]:=by rw [Zr hp];rfl
 refine Call_ (WN I hg hm yP (Qb9 ?_ hs rfl));rw [hs];refine Qcg (thn (he.out pins s σ H _ I h) fun u C ⟨x,H1,J,O,q1⟩=>?_);refine Qds ?_;obtain ⟨a,xs,rfl,hq,q⟩:=q1;cases O;obtain ⟨D,Y,pt,hz⟩:=J.tuple hq;have hl:=qf;have G:=Y.length;refine RvT.call_rev pt (by rw [Qbb];lia) fun tk=>?_;have I2:Inv X pins σ H1 { C with heap:=C.heap.push (RvT.revObj a ((D.toArray.size:Int) - 1)),toks:=tk }:=J.kept fun b o e=>Qab _ e;have Z:(xs.length:Int) - 1 - ((0:Nat):Int)=(D.toArray.size:Int) - 1:=by rw [Qbb,<-G];lia
 have st:RvT.IsRev (C.heap.push (RvT.revObj a ((D.toArray.size:Int) - 1))) C.heap.objs.size a ((xs.length:Int) - 1 - ((0:Nat):Int)):=by
  rw [Z];exact ⟨_,Qak _ rfl,rfl,rfl⟩
 refine RvT.iter_self st ⟨C.heap.objs.size,[C.heap.objs.size],_,_,H1,rfl,I2,Zdr a _ xs.length (Qbe pt.lt),st,fun b hb=>?_,q⟩;have e:b=C.heap.objs.size:=by simpa using hb
 subst e;exact J.fpOk (Qag _) (J.hok.fresh (Qag _)) |> fun f=>f
def uX{xs:A0}{g:TG}(q:Nat->St->Hp->Prop)(Z:q 0 f H)(hl:∀i f H,i<=xs.length->q i f H->SqT K H a xs)
  (hs:∀i x f H,xs.reverse[i]?=some x->q i f H->g x f H fun C H2=>r { Y with nx:=q (i + 1),ct:=q (i + 1),bk:=Y.nx } C H2) (hd:∀f H,q xs.length f H->Y.nx f H) :
  ∃W:Nat->Nat->St->Hp->Prop,(∃m,W 0 m f H)/\∀i m f H,W i m f H ->
   ((Itv K a xs.length).stop i H/\Y.nx f H)\/((Itv K a xs.length).go i H/\∃N:Az,(∀D H',N D H'->∃J,J < m/\W (i + 1) J D H')/\∀x H',(Itv K a xs.length).yld i H x H'->g x f H' fun C H2=>r { Y with nx:=N,ct:=N,bk:=Y.nx } C H2):=by
 refine ⟨fun i m f H=>m=xs.length - i/\i<=xs.length/\q i f H,⟨xs.length,by simp,Qba _,Z⟩,?_⟩;rintro i m f H ⟨rfl,hi,p⟩
 by_cases I:i < xs.length
 ·have G:i < xs.reverse.length:=by rw [Qe1];exact I
  refine .inr ⟨⟨xs,xs.reverse[i],hl i f H hi p,rfl,Qaf G⟩,q (i + 1),fun D H' O=>⟨xs.length - (i + 1),by lia,rfl,I,O⟩,fun x H' y=>?_⟩;obtain ⟨e,y⟩:=y;subst e;exact hs i x f _ (y xs (hl i f _ hi p)) p
 ·have e:i=xs.length:=by lia
  exact .inl ⟨e,by rw [e] at p;exact hd f H p⟩
end L2
namespace HT
section
variable {prog:An}{w:Ar}{A:Ao}{E:Ab}{s:Aq}
def getItem_tuple_whole{t:Au}{items:Ah}{vu:As}{lo hi:Option Int}(q:IsTup s.heap t items)(hs:s.heap.IsSliceOf a c vu .none)(pl:IsPart c lo)(J:IsPart vu hi)
  (hw:sIx items.size 0 lo=0/\sIx items.size items.size hi=items.size) (h:Q (.ref t) s):A1 prog w A (getItem (.ref t) (.ref a)) Q E s:=by
 obtain ⟨os,G,I,O⟩:=id hs;have D:s.TypeIs (.ref a) "slice" := ⟨os,G,I⟩;unfold getItem
 try with_reducible refine Qcp ?_
 first | refine Qaa (Qad ?_) | skip
 refine Qaa (wpAny_sequenceKey q.typeIs (by decide) ?_);refine Qaa (wpAny_callSpecial?_slot (name:=Str.ofString "__getitem__") q.typeIs Qbt
  (Qbc Qbt q.typeIs entry_tuple_getitem ?_ (args_tuple_getitem _ _)))
 show wpAny _ _ (Builtin.Tuple.tupleItemsOf (.ref t) >>= _) _ _ s;refine Qaa (tupleItemsOf_ q ?_);refine Qaa (Qel D ?_);refine Qaa (We hs pl J ?_);have C:(((sIx items.size 0 lo:Nat):Int) == 0 && (1:Int) == 1 && (sIx items.size items.size hi - sIx items.size 0 lo) == items.size)=true:=by
  rw [hw.1,hw.2];simp
 show wpAny _ _ (if (((sIx items.size 0 lo:Nat):Int) == 0 && (1:Int) == 1 && (sIx items.size items.size hi - sIx items.size 0 lo) == items.size)=true then _ else _) _ _ s;rw [Qa1 C];refine Qaa (m:=Builtin.Tuple.tupleIsExact (.ref t)) (Qaa (Qel q.typeIs (Qad ?_)))
 first
  | exact Qaa (Qc1 (Qaa (Qad (Qad ⟨_,rfl,Qad h⟩))))
  | exact Qaa (Qc1 (Qad ⟨_,rfl,Qad h⟩))
  | exact Qaa (Qc1 (Qaa (Qad ⟨_,rfl,Qad h⟩)))
end
end HT
namespace L2
def rSlW(K:Af):V->Option Int->Option Int->Hp->VK->Prop:=fun x lo hi H Q=>∃a xs,x=.ref a/\SqT K H a xs/\(HT.sIx xs.length 0 lo=0/\HT.sIx xs.length xs.length hi=xs.length)/\Q (.ref a) H
def yV:SlR X (rSlW X.K):=by
 intro pins s σ H x v Y vu lo hi Z Q I O hs pl J h;obtain ⟨a,xs,rfl,hx,hw,q⟩:=h;cases O;obtain ⟨D,r,G,hz⟩:=I.tuple hx;have C:D.toArray.size=xs.length:=by exact r.length.symm
 refine ⟨"tuple",_,Qbt.lookup,G.typeIs,?_⟩;exact HT.getItem_tuple_whole G hs pl J (by rw [C];exact hw) ⟨.ref a,H,I,rfl,q⟩
def Zfm:SlR X (fun x lo hi H Q=>∃z,x=.str z/\z.length<=sizeLine/\Q (.str (Txt.slice z lo hi)) H):=by
 intro pins s σ H x v O vu lo hi Y Q I J hs pl D h;obtain ⟨z,rfl,hz,q⟩:=h;obtain ⟨t,rfl⟩:=J;refine ⟨"str",_,F.slot_str_getitem.lookup,typeIs_str _ _ _,?_⟩;have fin:∀t' k,EP X pins σ Q (.str (Txt.slice z lo hi) t') { s with toks:=k }:=fun t' k=>⟨.str _,H,I.tok _,⟨_,rfl⟩,q⟩;cases pl with
 | none =>
  cases D with
  | none=>exact Qed (l:=none) (u:=none) (st:=none) hs rfl (Qgd ⟨Qa8 (Qfo z _ _) hz,fin⟩)
  | int j C=>exact Qed (l:=none) (u:=some (j,C)) (st:=none) hs rfl (Qgd ⟨Qa8 (Qfo z _ _) hz,fin⟩)
 | int i G =>
  cases D with
  | none=>exact Qed (l:=some (i,G)) (u:=none) (st:=none) hs rfl (Qgd ⟨Qa8 (Qfo z _ _) hz,fin⟩)
  | int j C=>exact Qed (l:=some (i,G)) (u:=some (j,C)) (st:=none) hs rfl (Qgd ⟨Qa8 (Qfo z _ _) hz,fin⟩)
theorem JT{ys:Ai}:∀{q:Ag},Vals (ys.map V.str) q->StrsAre q ys:=by
 induction ys with
 | nil=>intro q r;cases r;exact .nil
 | cons n I G =>
  intro q r;cases r with
  | cons C D =>
   obtain ⟨t,e⟩:=C;subst e;exact .cons n t (G D)
def Zg9:MtR X "str.join" (fun x vs H Q=>∃(z:Str) (p:Au) (ys:Ai),x=.str z/\vs=[.ref p]/\SqL X.K H p (ys.map V.str)/\(ys.map (·.length)).sum + ys.length * z.length<=16777216/\Q (.str (Txt.join z ys)) H):=by
 intro pins s σ H x vs v us Q I Y Z h;obtain ⟨z,p,ys,rfl,rfl,O,C,q⟩:=h;obtain ⟨t,rfl⟩:=Y;obtain ⟨u,rfl,J⟩:=vals1 Z;cases J;obtain ⟨D,G,pl,hz⟩:=I.list O;exact join_list pl.isList (JT G) C fun t' k=>⟨.str _,H,I.tok _,⟨_,rfl⟩,q⟩
def qi{xs:A0}{is:Aj}{Q:VK}(C:Nat->List V->Hp->Prop)(O:C 0 [] H)(hl:∀i zs H,C i zs H->zs.length<=sizeLine)(G:∀i zs H,C i zs H->SqL K H a xs)
  (hs:∀i x zs H (R:A0->Hp->Prop),(∀zs H,C (i + 1) zs H->R zs H)->xs[i]?=some x->C i zs H->E (Ja is f (some x)) H fun b H2=>if b=true then d (Ja is f (some x)) H2 fun y J=>R (zs++[y]) J else R zs H2)
  (hd:∀zs H,C xs.length zs H->∀p,H p=none->Q (.ref p) (upd H p (.lst zs))) :
  Jq is E d f Q (Itl K a) H:=by
 refine ⟨fun i m zs H=>m=xs.length - i/\i<=xs.length/\C i zs H,⟨xs.length,by simp,Qba _,O⟩,?_⟩;rintro i m zs H ⟨rfl,hi,p⟩
 by_cases D:i < xs.length
 ·refine .inr ⟨⟨xs,xs[i],G i zs H p,Qaf D⟩,hl i zs H p,fun x H' y=>?_⟩
  obtain ⟨e,y⟩:=y;subst e;exact hs i x zs _ (fun zs H=>∃I,I < xs.length - i/\I=xs.length - (i + 1)/\i + 1<=xs.length/\C (i + 1) zs H) (fun zs H q=>⟨xs.length - (i + 1),by lia,rfl,D,q⟩) (y xs (G i zs _ p)) p
 ·have e:i=xs.length:=by lia
  exact .inl ⟨⟨xs,G i zs H p,by lia⟩,hl _ _ _ p,by rw [e] at p;exact hd zs H p⟩
def Its(x:Str):It:=⟨fun i _=>i < x.cps.size,fun i H v H'=>H'=H/\∃c,x.cps[i]?=some c/\v=.str ⟨#[c]⟩,fun i _=>i=x.cps.size⟩
def Zds  {w:Ar}  {tg:Av} (it:Au) (x:Str) (t:Tok) (T:String) (hT:T = "str_ascii_iterator" \/ T = "str_iterator"):Turn P w K tg (Its x) [it] it (fun i h=>h.IsStrIter it T x t i) where
 mem:=by simp
 obj:=fun i h st b hb=>by
  have e:b=it:=by simpa using hb
  subst e;obtain ⟨o,e,c,d⟩:=st;exact ⟨o,e,fun v z=>by rw [d] at z;cases z⟩
 keep:=fun i h h' st k=>let ⟨o,ho,r⟩:=st;⟨o,k it (by simp) o ho,r⟩
 item:=by
  intro X hP hw hK hc i pins s σ H E I hf st hg;subst hP hw hK;obtain ⟨f0,D,f2,O,J,G⟩:=hf it (by simp);rcases hT with rfl | rfl
  ·refine (Walks.strAscii (prog:=X.prog) (w:=X.w) (I.ok.hd hc) it x t).item i s _ _ hg st fun v h' tk hv q kk=>?_
   obtain ⟨c,u,C,rfl⟩:=hv;have Y:Inv X pins σ H { s with heap:=h',toks:=tk }:=I.turned (fun b o hb e=>kk b o (by simpa using hb) e) f0 D O J G;obtain ⟨o,e,cc,d⟩:=id q;exact ⟨_,rfl,j4 (s:={ s with heap:=h',toks:=tk }) e cc d (by decide) ⟨.str ⟨#[c]⟩,H,Y,⟨_,rfl⟩,⟨rfl,c,C,rfl⟩,q,fun b hb=>(hf b hb).1⟩⟩
  ·refine (Walks.strWide (prog:=X.prog) (w:=X.w) (I.ok.hd hc) it x t).item i s _ _ hg st fun v h' tk hv q kk=>?_
   obtain ⟨c,u,C,rfl⟩:=hv;have Y:Inv X pins σ H { s with heap:=h',toks:=tk }:=I.turned (fun b o hb e=>kk b o (by simpa using hb) e) f0 D O J G;obtain ⟨o,e,cc,d⟩:=id q;exact ⟨_,rfl,j4 (s:={ s with heap:=h',toks:=tk }) e cc d (by decide) ⟨.str ⟨#[c]⟩,H,Y,⟨_,rfl⟩,⟨rfl,c,C,rfl⟩,q,fun b hb=>(hf b hb).1⟩⟩
 done:=by
  intro X hP hw hK hc i pins s σ H E I hf st hg;subst hP hw hK;obtain ⟨f0,D,f2,O,J,G⟩:=hf it (by simp);have Z:i=x.cps.size:=hg;subst Z;rcases hT with rfl | rfl
  ·exact (Walks.strAscii (prog:=X.prog) (w:=X.w) (I.ok.hd hc) it x t).done s _ _ st fun h' tk kk=>⟨rfl,I.turned (t':=tk) (fun b o hb e=>kk b o (by simpa using hb) e) f0 D O J G⟩
  ·exact (Walks.strWide (prog:=X.prog) (w:=X.w) (I.ok.hd hc) it x t).done s _ _ st fun h' tk kk=>⟨rfl,I.turned (t':=tk) (fun b o hb e=>kk b o (by simpa using hb) e) f0 D O J G⟩
 self:=fun A i s Q E st h=>by
  rcases hT with rfl | rfl
  ·exact wpAny_pyIter_striter_ascii st h
  ·exact wpAny_pyIter_striter_wide st h
def iStr(te:TE):TI:=fun σ H R=>te σ H fun v H1=>∃x,v=.str x/\R (Its x) H1
def qi_str{X:Cx}{tg l:Av}(hl:QE X l d):QI X tg l (iStr d):=by
 refine ⟨fun pins s σ H R I h=>?_⟩;refine thn (hl.out pins s σ H _ I h) fun v C ⟨y,H1,D,J,O⟩=>?_;obtain ⟨x,rfl,q⟩:=O;obtain ⟨t,rfl⟩:=J;have G:∀(o:Obj) (T:String),(T = "str_ascii_iterator" \/ T = "str_iterator")->(C.heap.push o).IsStrIter C.heap.objs.size T x t 0->PIE X pins σ tg R (.ref C.heap.objs.size) { C with heap:=C.heap.push o }:=fun o T Y st =>
  ⟨C.heap.objs.size,[C.heap.objs.size],_,_,H1,rfl,D.kept (t':=C.toks) fun b o e=>Qab _ e,Zds _ x t T Y,st,fun b hb=>by
   have e:b=C.heap.objs.size:=by simpa using hb
   subst e;exact D.fpOk (Qag _) (D.hok.fresh (Qag _)),q⟩
 cases ha:x.cps.all (· < 128)
 ·exact wpAny_pyIter_wide ha (G _ "str_iterator" (.inr rfl) ⟨_,Qak _ rfl,rfl,rfl⟩)
 ·exact wpAny_pyIter_ascii ha (G _ "str_ascii_iterator" (.inl rfl) ⟨_,Qak _ rfl,rfl,rfl⟩)
def uY (hc:X.calm=true):Xb X (.builtin "all") (fun xs H Q=>∃(p:Au) (bs:List Bool),xs=[.ref p]/\SqL X.K H p (bs.map V.bl)/\Q (.bl (bs.all id)) H):=by
 intro pins s σ H xs us Q I r h;obtain ⟨p,bs,rfl,hq,q⟩:=h;obtain ⟨u,rfl,rx⟩:=vals1 r;cases rx;obtain ⟨C,Y,pl,hz⟩:=I.list hq;have hl:=pl.isList;have O:p < s.heap.objs.size:=by obtain ⟨_,e,_⟩:=hl;exact Qap e
 have D:=Y.length;rw [Qac] at D;refine call_all_walk (Qeu hl ?_);refine ⟨s.heap.objs.size,[s.heap.objs.size,p],[s.heap.objs.size],C.toArray.size,_,_,fun i=>(bs[i]?).getD true,rfl,Walks.list (A:=X.A.in1) (I.ok.hd hc) _ p (Qbe O) C.toArray,
  ⟨⟨_,Qak _ rfl,rfl,rfl⟩,hl.push _⟩,fun i v s' Q' E' hP Z=>?_,fun h' tk hk=>?_⟩
 ·have hi:C[i]?=some v:=by simpa using hP
  have hb:i < bs.length:=by grind
  obtain ⟨w',e1,e2⟩:=Y.get (show (bs.map V.bl)[i]?=some (V.bl bs[i]) by rw [Qaj,Qaf hb];rfl);rw [hi] at e1;cases e1;cases e2;simp only [Qaf hb,Option.getD_some] at Z;exact Qdd Z
 ·have e:((List.range C.toArray.size).all fun i=>(bs[i]?).getD true)=bs.all id:=by
   rw [Qbb,<-D,Qd8,Qdo,Qdo]
   constructor
   ·intro z b hb
    obtain ⟨i,hi,rfl⟩:=Qge hb;have:=z i (Qcm.mpr hi);simpa [Qaf hi] using this
   ·intro z i hi
    have G:=Qcm.mp hi;have:=z _ (Qc9 G);simpa [Qaf G] using this
  rw [e];refine ⟨.bl (bs.all id),H,I.kept (t':=tk) (fun b o J=>hk b o (fun hm=>?_) (Qab _ J)),rfl,q⟩;rw [Qal.mp hm] at J;exact absurd (Qap J) (Qbz _)
theorem Wq:∀{q:Ag} {ys:Ai},StrsAre q ys->Vals (ys.map V.str) q
 | _,_,.nil=>.nil
 | _,_,.cons y t h=>.cons ⟨t,rfl⟩ (Wq h)
def jL:Xb X (.builtin "sorted") (fun xs H Q=>∃(p:Au) (C:Ai),xs=[.ref p]/\SqL X.K H p (C.map V.str)/\C.length < 64 /\
  ∀(l:Au) (ms:Ai),H l=none->ms.Perm C->sortedS ms=true->Q (.ref l) (upd H l (.lst (ms.map V.str)))):=by
 intro pins s σ H xs Z Q I r h;obtain ⟨p,C,rfl,O,hn,q⟩:=h;obtain ⟨u,rfl,Y⟩:=vals1 r;cases Y;obtain ⟨G,J,pl,hz⟩:=I.list O;have D:=J.length;rw [Qac] at D;refine sorted_strs pl.isList (JT J) (by lia) fun out ms hi hp hs=>?_;obtain ⟨e,he⟩:=sortedAll_at s.heap G out;refine ⟨.ref (s.heap.objs.size + 1),_,I.laid (t':=s.toks) (o:=.lst (ms.map V.str)) (fun b o e=>sortedAll_old e) (Qdn _) ?_,rfl,q _ ms (I.hok.fresh (Qdn _)) hp hs⟩;have hm:ms.length=C.length:=hp.length_eq;exact ⟨by grind,out.toList,e,Wq hi,by simpa using he⟩
def uZ:bootBuiltins "abs" = some (.builtin "abs"):=by decide +kernel
def Zha:bootBuiltins "dict" = some (.type "dict"):=by decide +kernel
def bt_max:bootBuiltins "max" = some (.builtin "max"):=by decide +kernel
def bt_min:bootBuiltins "min" = some (.builtin "min"):=by decide +kernel
def Zdt{t u:TS}(J:Az)(h1:∀N:Az,(∀f H,J f H->N f H)->t { Y with nx:=N } f H)(h2:∀f H,J f H->u Y f H):Y9 t u Y f H:=h1 _ h2
def take_snoc{xs:List m}{x:m}(h:xs[i]?=some x):xs.take (i + 1)=xs.take i++[x]:=by
 rw [List.take_succ,h]
 rfl
def yW{xs:A0}{is:Aj}{σ:St}{Q:VK}(p:V->Bool)(f:V->V)(hx:SqL K H a xs)(hz:xs.length<=sizeLine)
  (hc:∀x∈xs,∀R:Bool->Hp->Prop,R (p x) H->E (Ja is σ (some x)) H R)
  (he:∀x∈xs,p x=true->∀R:VK,R (f x) H->d (Ja is σ (some x)) H R)
  (hd:∀l,H l=none->Q (.ref l) (upd H l (.lst ((xs.filter p).map f)))):Jq is E d σ Q (Itl K a) H:=by
 refine qi (xs:=xs) (fun i zs H'=>zs=((xs.take i).filter p).map f/\H'=H) ⟨rfl,rfl⟩ ?_ ?_ ?_ ?_
 ·grind
 ·grind
 ·rintro i x zs H' R hR q ⟨rfl,rfl⟩
  have hm:=Qai q;have e:=take_snoc q;refine hc x hm _ ?_;cases hp:p x with
  | true =>
   refine (Qa1 rfl:(if true=true then _ else _)=_) ▸ he x hm hp _ (hR _ _ ⟨?_,rfl⟩);rw [e,Qdm,Qa6,Qcz,Qa1 hp]
   rfl
  | false =>
   refine (Qaw Qa5:(if false=true then _ else _)=_) ▸ hR _ _ ⟨?_,rfl⟩;rw [e,Qdm,Qa6,Qcz,Qaw (by rw [hp];exact Qa5)];simp
 ·grind
def comp_map{xs:A0}{is:Aj}{σ:St}{Q:VK}(f:V->V)(hx:SqL K H a xs)(hz:xs.length<=sizeLine)
  (he:∀x∈xs,∀R:VK,R (f x) H->d (Ja is σ (some x)) H R)
  (hd:∀l,H l=none->Q (.ref l) (upd H l (.lst (xs.map f)))):Jq is uR d σ Q (Itl K a) H:=by
 refine yW (fun _=>true) f hx hz (fun x _ R h=>h) (fun x hm _=>he x hm) fun l hl=>?_;rw [List.filter_eq_self.mpr fun _ _=>rfl];exact hd l hl
def Zaa{lo:Int}{is:Aj}{σ:St}{Q:VK}(f:Nat->V)(hz:n<=sizeLine)
  (he:∀i,i < n->∀R:VK,R (f i) H->d (Ja is σ (some (.int (lo + i)))) H R)
  (hd:∀l,H l=none->Q (.ref l) (upd H l (.lst ((List.range n).map f)))):Jq is uR d σ Q (Itr lo n) H:=by
 refine JS (fun i zs H'=>i<=n/\zs=(List.range i).map f/\H'=H) ⟨Qba _,rfl,rfl⟩ ?_ ?_ ?_
 ·grind
 ·rintro i zs H' R hR hi ⟨_,rfl,rfl⟩
  unfold uR;refine he i hi _ (hR _ _ ⟨hi,?_,rfl⟩);rw [Qdy,Qa6]
  rfl
 ·grind
def jM{xs:A0}{is:Aj}{σ:St}{Q:VK}(f:V->V)(hx:SqT K H a xs)(hz:xs.length<=sizeLine)
  (he:∀x∈xs,∀R:VK,R (f x) H->d (Ja is σ (some x)) H R)
  (hd:∀l,H l=none->Q (.ref l) (upd H l (.lst (xs.map f)))):Jq is uR d σ Q (Itt K a) H:=by
 refine Jr (xs:=xs) (fun i zs H'=>zs=(xs.take i).map f/\H'=H) ⟨rfl,rfl⟩ ?_ ?_ ?_ ?_
 ·grind
 ·grind
 ·rintro i x zs H' R hR q ⟨rfl,rfl⟩
  unfold uR;refine he x (Qai q) _ (hR _ _ ⟨?_,rfl⟩);rw [take_snoc q,Qa6]
  rfl
 ·grind
section
variable {κ:Type}[DecidableEq κ]
def Yf(kvs:List (κ × V))(k:κ):Option V:=(kvs.find? fun q=>decide (q.1=k)).map (·.2)
def putK(kvs:List (κ × V))(k:κ)(v:V):List (κ × V) :=
 if (kvs.any fun q=>decide (q.1=k))=true then kvs.map (fun q=>if q.1=k then (q.1,v) else q) else kvs++[(k,v)]
def ZY{p:κ × V}{r:List (κ × V)}{k:κ}(e:p.1=k):Yf (p::r) k=some p.2:=by simp [Yf,Qdz,e]
def ZS{p:κ × V}{r:List (κ × V)}{k:κ}(e:¬p.1=k):Yf (p::r) k=Yf r k:=by simp [Yf,Qdz,e]
theorem Xy(k:κ):∀kvs:List (κ × V),(kvs.any fun q=>decide (q.1=k))=(Yf kvs k).isSome
 | []=>rfl
 | p::r=>by
  rw [Qf5]
  by_cases e:p.1=k
  ·simp only [ZY e,Qao e,Bool.true_or,Option.isSome_some]
  ·rw [ZS e,Qau e,Bool.false_or];exact Xy k r
theorem kI(k j:κ)(y:V):∀kvs:List (κ × V),Yf (kvs.map fun q=>if q.1=k then (q.1,y) else q) j=(Yf kvs j).map fun x=>if j=k then y else x
 | []=>rfl
 | p::r=>by
  have C:=kI k j y r;rw [Qbu]
  by_cases h:p.1=k
  ·rw [Qa1 h]
   by_cases e:p.1=j
   ·rw [ZY (p:=(p.1,y)) e,ZY e,Qgf,Qa1 (e.symm.trans h)]
   ·rw [ZS (p:=(p.1,y)) e,ZS e,C]
  ·rw [Qaw h]
   by_cases e:p.1=j
   ·rw [ZY (p:=p) e,ZY e,Qgf,Qaw (fun z=>h (e.trans z))]
   ·rw [ZS (p:=p) e,ZS e,C]
theorem Wr(k j:κ)(y:V):∀kvs:List (κ × V),Yf kvs k=none->Yf (kvs++[(k,y)]) j=if j=k then some y else Yf kvs j
 | [],_=>by
  by_cases e:k=j
  ·rw [Qa1 e.symm];exact ZY (p:=(k,y)) e
  ·rw [Qaw (fun z=>e z.symm)];exact ZS (p:=(k,y)) e
 | p::r,hn=>by
  rw [Qft];have hk:¬p.1=k:=fun z=>by rw [ZY z] at hn;cases hn
  rw [ZS hk] at hn;have q:=Wr k j y r hn
  by_cases e:p.1=j
  ·rw [ZY e,ZY e,Qaw (fun z=>hk (e.trans z))]
  ·rw [ZS e,ZS e,q]
def zt(kvs:List (κ × V))(k j:κ)(y:V):Yf (putK kvs k y) j=if j=k then some y else Yf kvs j:=by
 unfold putK
 by_cases a:(kvs.any fun C=>decide (C.1=k))=true
 ·rw [Qa1 a,kI]
  rw [Xy] at a
  by_cases e:j=k
  ·obtain ⟨x,hx⟩:=Option.isSome_iff_exists.mp a
   rw [Qa1 e,e,hx,Qgf,Qa1 rfl]
  ·rw [Qaw e]
   cases Yf kvs j with
   | none=>rfl
   | some x=>rw [Qgf,Qaw e]
 ·rw [Qaw a]
  refine Wr k j y kvs ?_;rw [Xy] at a;cases q:Yf kvs k with
  | none=>rfl
  | some x=>rw [q] at a;exact (a rfl).elim
def Xm(kvs:List (κ × V))(k:κ)(v:V):(putK kvs k v).length<=kvs.length + 1:=by
 unfold putK
 split
 ·rw [Qac];lia
 ·grind
def zu{kvs:List (κ × V)}{k:κ}(v:V)(h:Yf kvs k=none):putK kvs k v=kvs++[(k,v)]:=by
 unfold putK;rw [Xy,h];exact Qaw (by decide)
def jy.isSome_eq{o:Option V}{u:Option As}(r:jy o u):o.isSome=u.isSome:=by
 cases o with
 | none=>cases u with
  | none=>rfl
  | some _=>exact (show False from r).elim
 | some _=>cases u with
  | none=>exact (show False from r).elim
  | some _=>rfl
def jy.getD{o:Option V}{u:Option As}{d:V}{d':As}(r:jy o u)(rd:RelV d d'):RelV (o.getD d) (u.getD d'):=by
 cases o with
 | none=>cases u with
  | none=>exact rd
  | some _=>exact (show False from r).elim
 | some _=>cases u with
  | none=>exact (show False from r).elim
  | some _=>exact r
theorem KV.val{kvs:List (κ × V)}{vs:List (κ × As)}(r:KV kvs vs)(k:κ):jy (Yf kvs k) (valueAt vs k):=by
 induction r with
 | nil=>exact True.intro
 | @cons p q ps D h t G =>
  obtain ⟨h1,h2⟩:=h
  by_cases e:p.1=k
  ·have C:q.1=k:=h1.symm.trans e
   have b:valueAt (q::D) k=some q.2:=by simp [valueAt,Qdz,C]
   rw [ZY e,b];exact h2
  ·have C:¬q.1=k:=fun z=>e (h1.trans z)
   have b:valueAt (q::D) k=valueAt D k:=by simp [valueAt,Qdz,C]
   rw [ZS e,b];exact G
theorem KV.any{kvs:List (κ × V)}{vs:List (κ × As)}(r:KV kvs vs)(k:κ):(kvs.any fun q=>decide (q.1=k))=vs.any fun q=>decide (q.1=k):=by
 induction r with
 | nil=>rfl
 | cons h t C=>rw [Qf5,Qf5,C,h.1]
theorem KV.repl{kvs:List (κ × V)}{vs:List (κ × As)}(r:KV kvs vs)(k:κ){y:V}{u:As}(I:RelV y u) :
  KV (kvs.map fun C=>if C.1=k then (C.1,y) else C) (vs.map fun C=>if C.1=k then (C.1,u) else C):=by
 induction r with
 | nil=>exact .nil
 | @cons p q ps G h t D =>
  refine .cons ?_ D;obtain ⟨h1,h2⟩:=h
  by_cases e:p.1=k
  ·grind
  ·grind
def KV.put{kvs:List (κ × V)}{vs:List (κ × As)}(r:KV kvs vs)(k:κ){y:V}{u:As}(q:RelV y u):KV (putK kvs k y) (stored vs k u):=by
 unfold putK stored;rw [r.any k]
 by_cases e:(vs.any fun C=>decide (C.1=k))=true
 ·rw [Qa1 e,Qa1 e];exact r.repl k q
 ·rw [Qaw e,Qaw e];exact Paired.snoc r ⟨rfl,q⟩
theorem KV.keys{kvs:List (κ × V)}{vs:List (κ × As)}(r:KV kvs vs):kvs.map (·.1)=vs.map (·.1):=by
 induction r with
 | nil=>rfl
 | cons h t q=>rw [Qbu,Qbu,q,h.1]
def KV.length{kvs:List (κ × V)}{vs:List (κ × As)}(r:KV kvs vs):kvs.length=vs.length:=Qf3 r
end
def zv{w:Ar}{k:Key}{u:As}(r:RelV (kV k) u):(ZC P w).is k u=true:=by
 cases k with
 | inl i=>obtain ⟨t,e⟩:=(show ∃t,u=Value.int i t from r);subst e;exact yM P w i t
 | inr x=>obtain ⟨t,e⟩:=(show ∃t,u=Value.str x t from r);subst e;exact WT P w x t
theorem jN{P:An}{w:Ar}:∀{ks:List Key} {q:Ag},Vals (ks.map kV) q->ItemsAre (ZC P w) ks q
 | [],_,r=>by cases r;exact .nil
 | k::ks,_,r=>by
  cases r with
  | cons h t=>exact .cons (zv h) (jN t)
abbrev KT(H:Hp):List (List Key × V)->List (List Key × Au × As)->Prop:=Paired fun p q=>p.1=q.1/\H q.2.1=some (.tup (p.1.map kV))/\RelV p.2 q.2.2
theorem KT.val{kvs:List (List Key × V)}{xs:List (List Key × Au × As)}(r:KT H kvs xs)(k:List Key):jy (Yf kvs k) ((atKey xs k).map (·.2)):=by
 induction r with
 | nil=>exact True.intro
 | @cons p q ps D h t G =>
  obtain ⟨h1,_,h2⟩:=h
  by_cases e:p.1=k
  ·have C:q.1=k:=h1.symm.trans e
   have b:atKey (q::D) k=some q.2:=by simp [atKey,Qdz,C]
   rw [ZY e,b];exact h2
  ·have C:¬q.1=k:=fun z=>e (h1.trans z)
   have b:atKey (q::D) k=atKey D k:=by simp [atKey,Qdz,C]
   rw [ZS e,b];exact G
theorem KT.repl{kvs:List (List Key × V)}{xs:List (List Key × Au × As)}(r:KT H kvs xs)(k:List Key){y:V}{u:As}(J:RelV y u) :
  KT H (kvs.map fun C=>if C.1=k then (C.1,y) else C) (xs.map (putAt k u)):=by
 induction r with
 | nil=>exact .nil
 | @cons p q ps I h t D =>
  refine .cons ?_ D;obtain ⟨h1,h2,G⟩:=h;unfold putAt
  by_cases e:p.1=k
  ·grind
  ·grind
def KT.put{kvs:List (List Key × V)}{xs:List (List Key × Au × As)}(r:KT H kvs xs)(k:List Key){b:Au}{y:V}{u:As}(hb:H b=some (.tup (k.map kV)))(C:RelV y u) :
  KT H (putK kvs k y) (storedH xs k b u):=by
 have e:(kvs.any fun D=>decide (D.1=k))=(atKey xs k).isSome:=by
  rw [Xy,(r.val k).isSome_eq,Qgw]
 unfold putK storedH;rw [e]
 by_cases q:(atKey xs k).isSome=true
 ·rw [Qa1 q,Qa1 q];exact r.repl k C
 ·rw [Qaw q,Qaw q];exact Paired.snoc r ⟨rfl,hb,C⟩
theorem KT.keeps{H':Hp}{kvs:List (List Key × V)}{xs:List (List Key × Au × As)}(r:KT H kvs xs)(q:∀b ys,H b=some (.tup ys)->H' b=some (.tup ys)):KT H' kvs xs :=
 Paired.mapP r fun _ _ z=>⟨z.1,q _ _ z.2.1,z.2.2⟩
section
variable {P:An}{w:Ar}{H:Hp}{h:Heap}{a:Au}
def Zjr{u:HO}(ok:HOk P w H h)(e:Rd H a u):Yl P w H h a u:=e.ok ok
theorem jO{kvs:Ay}(ok:HOk P w H h)(e:Rd H a (.dK kvs)):kvs.length<=sizeLine/\(a == sysModules)=false/\∃vs,KV kvs vs/\h.DictOf (ZC P w) a vs :=
 show Yl P w H h a (.dK kvs) from Zjr ok e
def Zdu{kvs:Ay}(ok:HOk P w H h)(e:H a=some (.dK kvs)):kvs.length<=sizeLine/\(a == sysModules)=false/\∃vs,KV kvs vs/\h.DictOf (ZC P w) a vs:=jO ok (.inl e)
def jP{ks:List Key}(ok:HOk P w H h)(e:H a=some (.tup (ks.map kV))):(tupleKind (ZC P w)).is h ks a:=by
 obtain ⟨_,q,r,o,h1,h2,⟨n,C⟩,_⟩:=(show Yl P w H h a (.tup (ks.map kV)) from ok a _ e);exact ⟨o,q.toArray,n,h1,h2,C,by simpa using jN r⟩
theorem Zab{kvs:List (List Key × V)}(ok:HOk P w H h)(e:Rd H a (.dT kvs)):kvs.length<=sizeLine/\(a == sysModules)=false /\
  ∃xs,KT H kvs xs/\h.DictOfH (tupleKind (ZC P w)) a xs:=by
 obtain ⟨z,y,xs,r,o,es,ep,h1,h2,G,I,D⟩:=(show Yl P w H h a (.dT kvs) from Zjr ok e);refine ⟨z,y,xs,r,o,es,ep,h1,h2,G,I,fun x hx=>?_,D⟩;have all:∀{l:List (List Key × V)} {m:List (List Key × Au × As)},KT H l m->∀x∈m,(tupleKind (ZC P w)).is h x.1 x.2.1:=by
  intro l m q
  induction q with
  | nil=>intro x hx;exact nomatch hx
  | @cons p q ps O C t J =>
   intro x hx;rcases Qan.mp hx with e | hx
   ·subst e
    exact jP ok (by rw [<-C.1];exact C.2.1)
   ·exact J x hx
 exact all r x hx
theorem dt_of{kvs:List (List Key × V)}(ok:HOk P w H h)(e:H a=some (.dT kvs)):kvs.length<=sizeLine/\(a == sysModules)=false /\
  ∃xs,KT H kvs xs/\h.DictOfH (tupleKind (ZC P w)) a xs:=Zab ok (.inl e)
end
def Zjd(H:Hp)(a:Au)(y:V)(r:Option V):Prop :=
 (∃kvs k,Rd H a (.dK kvs)/\y=kV k/\r=Yf kvs k)\/∃kvs k b,Rd H a (.dT kvs)/\y=.ref b/\H b=some (.tup (k.map kV))/\r=Yf kvs k
def gb(H:Hp)(a:Au)(y v:V)(H':Hp):Prop :=
 (∃kvs k,H a=some (.dK kvs)/\y=kV k/\kvs.length < sizeLine/\H'=upd H a (.dK (putK kvs k v))) \/
 ∃kvs k b,H a=some (.dT kvs)/\y=.ref b/\H b=some (.tup (k.map kV))/\kvs.length < sizeLine/\H'=upd H a (.dT (putK kvs k v))
def gb.k{H:Hp}{a:Au}{kvs:Ay}{k:Key}{v:V}(e:H a=some (.dK kvs))(hl:kvs.length < sizeLine):gb H a (kV k) v (upd H a (.dK (putK kvs k v))):=.inl ⟨kvs,k,e,rfl,hl,rfl⟩
section
variable {X:Cx}{pins:Ac}{σ:St}{H:Hp}{s:Aq}{a:Au}{y v:V}{u r:As}{o:Option V}{A:Ao}{E:Ab}
def Inv.big(I:Inv X pins σ H s):sysModules < s.heap.objs.size:=by
 have h:mainGlobals < s.heap.objs.size:=(I.mod.glob.keeps I.bk).lt;exact Nat.lt_trans (by decide) h
def Zac(hu:A.units + 1 < cLine)(I:Inv X pins σ H s)(g:Zjd H a y (some v))(O:RelV y u)(h:∀D s',Inv X pins σ H s'->RelV v D->Q D s') :
  A1 X.prog X.w A (getItem (.ref a) u) Q E s:=by
 rcases g with ⟨kvs,k,e,G,l⟩ | ⟨kvs,k,b,e,G,Y,l⟩
 ·subst G
  obtain ⟨z,hd,vs,C,dd⟩:=jO I.hok e;obtain ⟨D,hw,q⟩:=jy.some_of (v:=v) (o:=valueAt vs k) (by rw [l];exact C.val k);exact wpAny_getItem_of (zv O) dd.mapOf hw (h D _ (I.tok _) q)
 ·subst G
  cases (show u=Value.ref b from O);obtain ⟨z,hd,xs,C,dd⟩:=Zab I.hok e;obtain ⟨D,hw,q⟩:=jy.some_of (v:=v) (o:=(atKey xs k).map (·.2)) (by rw [l];exact C.val k);obtain ⟨p,hp,J⟩:=Qb2.mp hw;refine wpAny_getItem_heap (Qfb hu) (jP I.hok Y) dd hp ?_;rw [J];exact h D _ (I.tok _) q
def d_in(hu:A.units + 1 < cLine)(I:Inv X pins σ H s)(g:Zjd H a y o)(G:RelV y u)(h:∀s',Inv X pins σ H s'->Q (.bool o.isSome) s') :
  A1 X.prog X.w A (compareOp .In u (.ref a)) Q E s:=by
 rcases g with ⟨kvs,k,e,D,l⟩ | ⟨kvs,k,b,e,D,J,l⟩
 ·subst D
  obtain ⟨z,hd,vs,C,dd⟩:=jO I.hok e;refine wpAny_in_of (zv G) hd dd.mapOf ?_;rw [<-(C.val k).isSome_eq,<-l];exact h _ (I.tok _)
 ·subst D
  cases (show u=Value.ref b from G);obtain ⟨z,hd,xs,C,dd⟩:=Zab I.hok e;refine wpAny_in_heap (Qfb hu) (jP I.hok J) hd dd ?_;have q:=(C.val k).isSome_eq;rw [Qgw] at q;rw [<-q,<-l];exact h _ (I.tok _)
def Zhb(hu:A.units + 1 < cLine)(I:Inv X pins σ H s)(g:Zjd H a y o)(G:RelV y u)(h:∀s',Inv X pins σ H s'->Q (.bool (!o.isSome)) s') :
  A1 X.prog X.w A (compareOp .NotIn u (.ref a)) Q E s:=by
 rcases g with ⟨kvs,k,e,D,l⟩ | ⟨kvs,k,b,e,D,J,l⟩
 ·subst D
  obtain ⟨z,hd,vs,C,dd⟩:=jO I.hok e;refine wpAny_notIn_of (zv G) hd dd.mapOf ?_;rw [<-(C.val k).isSome_eq,<-l];exact h _ (I.tok _)
 ·subst D
  cases (show u=Value.ref b from G);obtain ⟨z,hd,xs,C,dd⟩:=Zab I.hok e;refine wpAny_notIn_heap (Qfb hu) (jP I.hok J) hd dd ?_;have q:=(C.val k).isSome_eq;rw [Qgw] at q;rw [<-q,<-l];exact h _ (I.tok _)
theorem qj{h':Heap}{t':Nat}(I:Inv X pins σ H s)(C:Mut (H a))(hs:Heap.SameBut a s.heap h')(he:∃q,h'.get? a=some q)(new:Yl X.prog X.w (upd H a R) h' a R) :
  Inv X pins σ (upd H a R) { s with heap:=h',toks:=t' } :=
 I.write (x:=a) (e:=a) C (.inl rfl) (fun b q hb z=>(hs.2 b hb).trans z) he new
theorem Zad{w:Ar}{H':Hp}{h':Heap}{kvs:Ay}{vs:List (Key × As)}(z:kvs.length<=sizeLine)(hd:(a == sysModules)=false)(q:KV kvs vs)(dd:h'.DictOf (ZC P w) a vs) :
  Yl P w H' h' a (.dK kvs):=⟨z,hd,vs,q,dd⟩
def Zae{H':Hp}{Q:Unit->Shared->Prop}(hu:A.units + 1 < cLine)(I:Inv X pins σ H s)(g:gb H a y v H')(Y:RelV y u)(Z:RelV v r)(h:∀s',Inv X pins σ H' s'->Q () s') :
  A1 X.prog X.w A (setItem (.ref a) u r) Q E s:=by
 rcases g with ⟨kvs,k,e,J,l,G⟩ | ⟨kvs,k,b,e,J,O,l,G⟩
 ·subst J G
  obtain ⟨z,hd,vs,C,dd⟩:=Zdu I.hok e;have hz:vs.length<=sizeLine:=by rw [<-C.length];exact z
  have hl:(putK kvs k v).length<=sizeLine:=by have:=Xm kvs k v;lia
  refine wpAny_setItem_pairs (hsz:=hz) (zv Y) dd fun h' dd' hs=>h _ ?_;have he:∃q,h'.get? a=some q:=let ⟨q,_,_,D,_⟩:=dd';⟨q,D⟩;exact qj I (by rw [e];exact True.intro) hs he (Zad hl hd (C.put k Z) dd')
 ·subst J G
  cases (show u=Value.ref b from Y);obtain ⟨z,hd,xs,C,dd⟩:=dt_of I.hok e;have hz:xs.length<=sizeLine:=by rw [<-Qf3 C];exact z
  have hl:(putK kvs k v).length<=sizeLine:=by have:=Xm kvs k v;lia
  refine wpAny_setItem_heap (hsz:=hz) (Qfb hu) (jP I.hok O) dd fun h' dd' hs=>h _ ?_;obtain ⟨q,es,ep,D,h2,h3,h4,_,h5⟩:=dd';refine qj I (by rw [e];exact True.intro) hs ⟨q,D⟩ ⟨hl,hd,_,(C.put k O Z).keeps fun c ys ec=>?_,q,es,ep,D,h2,h3,h4,h5⟩;rw [Zh (Xa ec e (fun z=>nomatch z))];exact ec
end
section
variable {X:Cx}{pins:Ac}{σ:St}{H:Hp}{s:Aq}{a:Au}{kvs:Ay}{k:Key}{u:As}{A:Ao}{E:Ab}
def d_len  (I:Inv X pins σ H s) (e:Rd H a (.dK kvs)) (h:∀t s',Inv X pins σ H s'->Q (.int kvs.length t) s'):A1 X.prog X.w A (call (.builtin "len") [.ref a]) Q E s:=by
 obtain ⟨z,hd,vs,q,dd⟩:=jO I.hok e;refine call_len_dict hd dd (by rw [<-q.length];rw [Qg7] at z;lia) ?_;rw [<-q.length];exact h _ _ (I.tok _)
end
def Zkq(i:Av):Prop:=∀q C,subscripted i false q C=operate [q,C] (getItem q C)
def Zaf{prog:An}{w:Ar}{A:Ao}{E:Ab}{env:Env}{q:Av}{T id:String}
  (hl:typeLookup (.type T) "__getitem__" = pure (some (.builtin id))) (hs:Zkq q)
  (h:A1 prog w A (eval e env) (fun o G=>A1 prog w A (eval q env) (fun i s₂=>s₂.TypeIs o T/\A1 prog w A (getItem o i) Q E s₂) E G) E s) :
  A1 prog w A (eval (.Subscript e q p) env) Q E s:=by
 refine Subscript_ (Qc6 h (fun o G I=>Qc6 I (fun i s₂ C=>?_) fun _ _ x=>x) fun _ _ x=>x);obtain ⟨O,C⟩:=C;refine Qaa ?_;refine Qaa (Qdj O hl ?_);have fin:A1 prog w A (subscripted q false o i) (fun r D=>A1 prog w A (letTemporaryGo e o r >>= fun _=>pure r) Q E D) E s₂:=by
  rw [hs o i];exact wpAny_operating (Qc6 C (fun r D J=>Qaa (wpAny_letTemporaryGo (Qad J))) fun _ _ x=>x)
 first
  | exact Qad (Qaa fin)
  | exact Qaa (Qad (Qaa fin))
  | exact Qaa fin
def yX {X:Cx}      {y:V} {o:Option V} (I:Inv X z f H s) (g:Zjd H a y o):s.TypeIs (.ref a) "dict" := by
 rcases g with ⟨kvs,k,e,_,_⟩ | ⟨kvs,k,b,e,_,_,_⟩
 ·obtain ⟨_,_,vs,_,dd⟩:=jO I.hok e
  exact dd.typeIs
 ·obtain ⟨_,_,xs,_,dd⟩:=Zab I.hok e
  exact dd.typeIs
def Zjs(td ty:TE):TE:=fun σ H Q=>td σ H fun x H1=>ty σ H1 fun y H2=>∃a v,x=.ref a/\Zjd H2 a y (some v)/\Q v H2
def Zjt(td ty tv:TE):TS:=fun D σ H=>tv σ H fun v H1=>td σ H1 fun x H2=>ty σ H2 fun y C=>∃a q,x=.ref a/\gb C a y v q/\D.nx σ q
section
variable {X:Cx}{o i e value:Av}{pos pos' tpos:Pos}{td ty tv:TE}
def Zhc(hu:X.A.units + 1 < cLine)(ho:PE X o td)(hi:PE X i ty)(hs:Zkq i):PE X (.Subscript o i pos) (Zjs td ty):=by
 intro pins s σ H Q I h;refine Zaf PySem.F.slot_dict_getitem.lookup hs (thn (ho pins s σ H _ I h) fun u s1 ⟨x,H1,Y,O,J⟩=>thn (hi pins s1 σ H1 _ Y J) fun iv s2 ⟨y,H2,C,Z,a,v,ex,g,D⟩=>?_);subst ex;obtain rfl:u=Value.ref a:=O;exact ⟨yX C g,Zac hu C g Z fun w' s3 G q=>⟨v,H2,G,q,D⟩⟩
def Zhd(hu:X.A.units + 1 < cLine)(ho:PE X o td)(hi:PE X i ty)(hv:PE X value tv)(hs:swapsWith value (some (.Subscript o i pos')) pos.line X.env=pure false) :
  PS X (.Assign [.Subscript o i pos'] value pos) (Zjt td ty tv):=by
 intro pins s σ H D I h;refine wpAny_Assign_Subscript (thn (hv pins s σ H _ I h) fun r s1 ⟨v,H1,Y,rv,O⟩=>thn (ho pins s1 σ H1 _ Y O) fun u G ⟨x,H2,I2,rx,q2⟩=>thn (hi pins G σ H2 _ I2 q2) fun iv s3 ⟨y,H3,J,Z,a,H4,ex,g,C⟩=>?_) hs;subst ex;obtain rfl:u=Value.ref a:=rx;exact Zae hu J g Z rv fun s4 q=>⟨σ,H4,q,C⟩
end
theorem zw  {w:Ar}  (h:Heap) (hb:sysModules < h.objs.size):Yl P w H (h.push { cls:=.type "dict",data:=.dict #[] }) h.objs.size (.dK []) :=
 ⟨Qba _,beq_eq_false_iff_ne.mpr (Qd5 (Qbe hb)),[],.nil,Heap.DictOf.new h⟩
def Zfn:TE:=fun _ H Q=>∀p,H p=none->Q (.ref p) (upd H p (.dK []))
section
variable {X:Cx}{pos:Pos}
theorem Zdv:PE X (.Dict [] [] pos) Zfn:=fun pins s σ H Q I h =>
 wpAny_Dict_empty ⟨.ref s.heap.objs.size,_,I.laid (a:=s.heap.objs.size) (o:=.dK []) (t':=s.toks) (fun _ _ q=>Qab _ q) (Qag _) (zw s.heap I.big),rfl,h _ (I.hok.fresh (Qag _))⟩
end
def Zag:List (TE × TE)->St->Hp->(List (V × V)->Hp->Prop)->Prop
 | [],_,H,Q=>Q [] H
 | (tk,tv)::r,σ,H,Q=>tk σ H fun x H1=>tv σ H1 fun y H2=>Zag r σ H2 fun ps q=>Q ((x,y)::ps) q
abbrev VV:List (V × V)->List (As × As)->Prop:=Paired fun p q=>RelV p.1 q.1/\RelV p.2 q.2
def PPs(X:Cx)(pos:Pos)(keys:List (Option Av))(q:Al)(C:List (TE × TE)):Prop :=
 ∀(pins:Ac) (s:Aq) (σ:St) (H:Hp) (Q:List (V × V)->Hp->Prop),Inv X pins σ H s->Zag C σ H Q ->
  A2 X (evalPairs (pairTrees keys q X.env pos)) (fun vs s'=>∃ps H',Inv X pins σ H' s'/\VV ps vs/\Q ps H') X.xe s
def Zhe{X:Cx}:PPs X p [] [] []:=fun pins s σ H Q I h=>pairTrees_nil_walk ⟨[],H,I,.nil,h⟩
theorem Zdw{X:Cx}{k v:Av}{ks:List (Option Av)}{vs:Al}{tk:TE}{q:List (TE × TE)}(hk:PE X k tk)(hv:PE X v d)(hr:PPs X p ks vs q) :
  PPs X p (some k::ks) (v::vs) ((tk,d)::q):=fun pins s σ H Q I h =>
 pairTrees_cons_walk (thn (hk pins s σ H _ I h) fun u s1 ⟨x,H1,Z,rx,Y⟩=>thn (hv pins s1 σ H1 _ Z Y) fun w2 J ⟨y,H2,I2,ry,q2⟩ =>
  thn (hr pins J σ H2 _ I2 q2) fun ws s3 ⟨ps,D,O,C,G⟩=>⟨(x,y)::ps,D,O,.cons ⟨rx,ry⟩ C,G⟩)
def X8(kvs more:Ay):Ay:=more.foldl (fun acc q=>putK acc q.1 q.2) kvs
theorem KV.merge:∀{more:Ay} {rs:List (Key × As)} {kvs:Ay} {vs:List (Key × As)},KV more rs->KV kvs vs->KV (X8 kvs more) (merged vs rs):=by
 intro more rs kvs vs r
 induction r generalizing kvs vs with
 | nil=>intro q;exact q
 | @cons p q ps G h t D =>
  intro C;have e:KV (putK kvs p.1 p.2) (stored vs q.1 q.2):=by
   have:=C.put p.1 h.2;rw [<-h.1];exact this
  exact D e
theorem Js:∀(more kvs:Ay),(X8 kvs more).length<=kvs.length + more.length
 | [],kvs=>by show kvs.length<=kvs.length + 0;lia
 | p::r,kvs=>by
  have h1:=Js r (putK kvs p.1 p.2);have h2:=Xm kvs p.1 p.2;show (X8 (putK kvs p.1 p.2) r).length<=_;rw [Qce];lia
theorem xM{P:An}{w:Ar}:∀{kvs:Ay} {C:List (As × As)},VV (kvs.map fun D=>(kV D.1,D.2)) C->∃rs,Carries (ZC P w) C rs/\KV kvs rs
 | [],_,r=>by cases r;exact ⟨[],True.intro,.nil⟩
 | p::kvs,_,r=>by
  cases r with
  | @cons a b as bs h t =>
   obtain ⟨rs,c,q⟩:=xM (P:=P) (w:=w) t;obtain ⟨b1,b2⟩:=b;exact ⟨(p.1,b2)::rs,⟨zv h.1,rfl,c⟩,.cons ⟨rfl,h.2⟩ q⟩
def Zju(q:List (TE × TE)):TE:=fun σ H Q=>∀p,H p=none->Zag q σ (upd H p (.dK [])) fun ps H2=>H2 p=some (.dK [])/\∃kvs:Ay,ps=kvs.map (fun C=>(kV C.1,C.2))/\kvs.length<=15/\Q (.ref p) (upd H2 p (.dK (X8 [] kvs)))
def Zhf{X:Cx}{keys:List (Option Av)}{C:List (TE × TE)}(h:PPs X p keys B C)(D:keys.all (·.isSome)=true)(hl:keys.length=B.length)(h0:keys≠[])
  (J:keys.length<=15):PE X (.Dict keys B p) (Zju C):=by
 intro pins s σ H Q I q;have hn:=I.hok.fresh (Qag s.heap.objs.size);have Z:=I.laid (a:=s.heap.objs.size) (o:=.dK []) (h':=s.heap.push { cls:=.type "dict",data:=.dict #[] }) (t':=s.toks) (fun _ _ q=>Qab _ q) (Qag _) (zw s.heap I.big);refine wpAny_Dict_walk (knd:=ZC X.prog X.w) D hl h0 J (thn (h pins _ σ _ _ Z (q _ hn)) fun ws s2 ⟨ps,H2,O,G,e,kvs,ep,lk,q2⟩=>?_);subst ep;obtain ⟨rs,c,Y⟩:=xM (P:=X.prog) (w:=X.w) G;obtain ⟨z,hd,vs0,r0,dd⟩:=Zdu O.hok e;cases r0;refine ⟨rs,c,dd,fun h' dd' hs=>⟨.ref s.heap.objs.size,_,?_,rfl,q2⟩⟩;have hz:(X8 [] kvs).length<=sizeLine:=by
  have h1:=Js kvs [];rw [Qfc] at h1;rw [Qg7];lia
 have he:∃q,h'.get? s.heap.objs.size=some q:=let ⟨q,_,_,hq,_⟩:=dd';⟨q,hq⟩;exact qj O (by rw [e];exact True.intro) hs he (Zad hz hd (Y.merge .nil) dd')
structure M2(X:Cx)(o:Av)(m:Str)(apos:Pos)(e f:Av)(cpos:Pos):Prop where
 base:attributeBase o m X.env (eval o X.env)=eval o X.env
 few:((backTo cpos (starEach [e,f] X.env)).all (fun x=>!x.1) && (backToKw cpos (keywordEach [] X.env)).all (fun x=>x.1.isSome)
  && decide (([e,f]:Al).length + ([]:List Keyword).length + (if ([]:List Keyword).isEmpty then 0 else 1) < 30))=true
 line:(apos.endLine == cpos.line)=true
 trees:backTo cpos (starEach [e,f] X.env)=[(false,eval e X.env),(false,eval f X.env)]
section
variable {X:Cx}{pins:Ac}{σ:St}{H:Hp}{s:Aq}{a:Au}{y d:V}{u r:As}{o:Option V}{A:Ao}{E:Ab}
end
section
variable {X:Cx}{o e f:Av}{apos cpos:Pos}{td ty tx:TE}
end
section
variable {X:Cx}{pins:Ac}{σ:St}{H:Hp}{s:Aq}{a:Au}{kvs:Ay}{A:Ao}{E:Ab}
end
section
variable {X:Cx}{pins:Ac}{σ:St}{H:Hp}{s:Aq}{a:Au}{y:V}{u:As}{A:Ao}{E:Ab}
end
end L2
namespace EnT
open AutoSeq1 (wpAny_loadPart')
def tIt (l:Au):Obj:={ cls:=.type "tuple_iterator",data:=.fields #[.ref l,.int 0 0] }
def enO (it:Au):Obj:={ cls:=.type "enumerate",data:=.fields #[.none,.bool false,.ref it,rawInt 0,.none,.none] }
theorem Wo(l:Au)(items:Ah) :
  Meets (Builtin.«enumerate.__new__» ⟨[.type "enumerate",.ref l],[]⟩) (fun _ R s=>s.heap.IsTuple l items /\
   R (.ok (.ret (.ref (s.heap.push (tIt l)).objs.size))) { s with heap:=(s.heap.push (tIt l)).push (enO s.heap.objs.size) }) :=
 .of_wp fun prog w A R s h=>by
  obtain ⟨hp,g,d,tk,os⟩:=s;obtain ⟨q,h⟩:=h;have C:=sub_enumerate;obtain ⟨⟨oc,od,D,G⟩,hl,hc,n,hd⟩:=id q;simp only at hc hd;subst hc hd
  wp_walk using wpAny_loadPart' hl
  refine wpAny_stack_any fun st=>Qad ?_
  split
  ·rename_i c _ _ _ _ _
   cases (c == Value.type "enumerate")
   ·wp_walk using wpAny_loadPart' hl,Qek q
    exact ⟨_,rfl,h⟩
   ·wp_walk using wpAny_loadPart' hl,Qek q
    exact ⟨_,rfl,h⟩
  ·wp_walk using wpAny_loadPart' hl,Qek q
   exact ⟨_,rfl,h⟩
section
variable {prog:An}{w:Ar}{A:Ao}{E:Ab}{s:Aq}
def next_of{it:Au}{items:_}{x:As}(q:s.heap.IsTupleIter it l i)(hl:s.heap.IsTuple l items)(hx:items[i]?=some x)
  (G:∀h',h'.IsTupleIter it l (i + 1)->Heap.SameBut it s.heap h'->Q x { s with heap:=h' }):A1 prog w A (Builtin.SmallTypes.nextOf (.ref it)) Q E s:=by
 obtain ⟨o,ho,hc,hd⟩:=id q;obtain ⟨J,D,_,I,C⟩:=hl;refine Qaa (wpAny_callSpecial?_slot (name:=Str.ofString "__next__") q.typeIs Qd1 (Qbc Qd1 q.typeIs Qgg ?_ (Qf6 _)));show wpAny _ _ (field (.ref it) 0 >>= _) _ _ s;refine Qaa (Qbx ho hd (x:=.ref l) rfl ?_);refine Qaa (Qbx ho hd (x:=.int i 0) rfl ?_);refine Qaa (Qbw D C ?_);simp only [Qat,hx];refine Qaa (Qc5 ho hd (by simp) (Qad ⟨x,rfl,Qad (G _ ⟨_,Qbh _ ho (Qck (Qbn hd _)),(Qev ..).trans hc,?_⟩ (Qb6 ..))⟩));rw [Qbn hd];simp [rawInt]
def next_no{it:Au}{items:_}(hh:A.handled=none)(q:s.heap.IsTupleIter it l i)(hl:s.heap.IsTuple l items)(hx:items[i]?=none)
  (G:∀h' e,Heap.ExtBut it s.heap h'->(∃o,h'.get? e=some o/\o.cls=.type "StopIteration")->E (.ref e) { s with heap:=h' }):A1 prog w A (Builtin.SmallTypes.nextOf (.ref it)) Q E s:=by
 obtain ⟨o,ho,hc,hd⟩:=id q;obtain ⟨J,D,_,I,C⟩:=hl;refine Qaa (wpAny_callSpecial?_slot (name:=Str.ofString "__next__") q.typeIs Qd1 (Qbc Qd1 q.typeIs Qgg ?_ (Qf6 _)));show wpAny _ _ (field (.ref it) 0 >>= _) _ _ s;refine Qaa (Qbx ho hd (x:=.ref l) rfl ?_);refine Qaa (Qbx ho hd (x:=.int i 0) rfl ?_);refine Qaa (Qbw D C ?_);simp only [Qat,hx];refine Qaa (Qc1 (Qaa (Qc5 ho hd (by simp) ?_)));refine Qaa ?_;refine Qaa (Qa9 ?_ (by size_fits));refine Qaa (m:=firstArgMember _ _) (Qcj (a:=Value.none) (by first | rfl | (rfl)) ?_);refine Qa9 ?_ (by size_fits);refine Qaa (Qg6 ?_)
 first | rw [show A.in1.handled=none from hh] | rw [hh]
 refine Qaa (Qad (Qhr ?_));exact G _ _ (((Qb6 ..).extBut.push _).push _) ⟨_,Qak _ rfl,rfl⟩
def Zhg{e it:Au}{items:Ah}{x:As}
  (he:IsEnum s.heap e it i c) (hit:s.heap.IsTupleIter it l i) (hl:s.heap.IsTuple l items) (hx:items[i]?=some x) (hne:e≠it)
  (hQ:∀h',IsEnumOut h' e it ((i:Int) + 1) x s.heap.objs.size->h'.IsTupleIter it l (i + 1) ->
   h'.get? s.heap.objs.size=some { cls:=.type "tuple",data:=.seq #[.int i s.toks,x] }->h'.objs.size=s.heap.objs.size + 1 ->
   (∀b o,b≠e->b≠it->s.heap.get? b=some o->h'.get? b=some o)->Q (.ref s.heap.objs.size) { s with heap:=h',toks:=s.toks + 1 }) :
  A1 prog w A (Builtin.«enumerate.__next__» ⟨[.ref e],[]⟩) (fun fin s'=>∃v,fin=.done (.ret v)/\Q v s') E s:=by
 obtain ⟨hp,g,d,tk,os⟩:=s;show wpAny _ _ (field (.ref e) 2 >>= _) _ _ _;refine Qaa (Qbx he rfl (x:=.ref it) rfl ?_);refine Qaa (next_of hit hl hx fun h₁ hit₁ hs₁=>?_);have J:IsEnum h₁ e it i c:=(hs₁.2 e hne).trans he;refine Qaa (Qbx J rfl (x:=rawInt i) rfl ?_);refine Qaa (Qbx J rfl (x:=.none) rfl ?_);refine Qaa (Qg5 ?_);refine Qaa (Qb0 J (by simp) fun h₂ he₂ Z=>?_);refine Qaa (Qb0 he₂ (by simp) fun h₃ he₃ O=>?_);refine Qaa (Qgs ?_);have D:IsEnum (h₃.push { cls:=.type "tuple",data:=.seq #[.int i tk,x] }) e it ((i:Int) + 1) c:=Qab _ he₃;generalize hh₄:h₃.push { cls:=.type "tuple",data:=.seq #[.int i tk,x] }=I at D;have hsz:h₃.objs.size=hp.objs.size:=by rw [O.1,Z.1,hs₁.1]
 have hel:e < hp.objs.size:=Qap he;have ht₄:I.get? hp.objs.size=some { cls:=.type "tuple",data:=.seq #[.int i tk,x] }:=by rw [<-hh₄,<-hsz];exact Qak _ rfl
 have hz₄:I.objs.size=hp.objs.size + 1:=by rw [<-hh₄,Qbv,hsz]
 have hk₄:∀b o,b≠e->b≠it->hp.get? b=some o->I.get? b=some o:=fun b o Y hbi hb=>by
  rw [<-hh₄];exact Qab _ (O.extBut b o Y (Z.extBut b o Y (hs₁.extBut b o hbi hb)))
 have hit₄:I.IsTupleIter it l (i + 1):=by
  rw [<-hh₄];obtain ⟨o,ho,r⟩:=(hit₁.extBut Z.extBut (Qd5 hne)).extBut O.extBut (Qd5 hne);exact ⟨o,Qab _ ho,r⟩
 show wpAny _ _ (Builtin.SmallTypes.ownedTupleIsFree (.ref e) >>= _) _ _ ⟨I,g,d,tk + 1,os⟩;rw [hsz];refine Qaa ?_
 ·refine Qaa (Qbx D rfl (x:=.none) rfl (Qad ?_))
  refine Qaa (Qc1 ?_);refine Qaa (Qbx D rfl (x:=c) rfl ?_);refine Qaa (Qb0 D (by simp) fun h₅ he₅ G=>?_);refine Qaa ?_
  ·refine Qaa (Qb0 he₅ (by simp) fun h₆ he₆ C=>?_)
   refine Qb0 he₆ (by simp) fun h₇ he₇ q=>?_;refine Qaa (Qen (Qad ⟨_,rfl,hQ h₇ he₇ ?_ ?_ ?_ ?_⟩))
   ·exact ((hit₄.extBut G.extBut (Qd5 hne)).extBut C.extBut (Qd5 hne)).extBut q.extBut (Qd5 hne)
   ·exact q.extBut _ _ (Qeb hel) (C.extBut _ _ (Qeb hel) (G.extBut _ _ (Qeb hel) ht₄))
   ·rw [q.1,C.1,G.1,hz₄]
   ·exact fun b o Y hbi hb=>q.extBut b o Y (C.extBut b o Y (G.extBut b o Y (hk₄ b o Y hbi hb)))
def next_item{e it:Au}{items:Ah}{x D:As}{Q:Aa}
  (he:IsEnum s.heap e it i D) (q:s.heap.IsTupleIter it l i) (hl:s.heap.IsTuple l items) (hx:items[i]?=some x) (C:e≠it)
  (I:∀h',IsEnumOut h' e it ((i:Int) + 1) x s.heap.objs.size->h'.IsTupleIter it l (i + 1) ->
   h'.get? s.heap.objs.size=some { cls:=.type "tuple",data:=.seq #[.int i s.toks,x] }->h'.objs.size=s.heap.objs.size + 1 ->
   (∀b o,b≠e->b≠it->s.heap.get? b=some o->h'.get? b=some o)->Q (some (.ref s.heap.objs.size)) { s with heap:=h',toks:=s.toks + 1 }) :
  A1 prog w A (pyNext (.ref e)) Q E s:=by
 have G:s.TypeIs (.ref e) "enumerate" := ⟨_,he,rfl⟩;exact Qaa (Qde (wpAny_callSpecial?_slot (name:=Str.ofString "__next__") G Qeo (Qbc Qeo G F.entry_enumerate_next
   (Zhg he q hl hx C fun h' a b c d k=>Qad (I h' a b c d k)) (F.args_enumerate_next_1 _))))
def next_end{e it:Au}{items:Ah}{Q:Aa}(hh:A.handled=none)
  (he:IsEnum s.heap e it i c) (C:s.heap.IsTupleIter it l i) (hl:s.heap.IsTuple l items) (hx:items[i]?=none)
  (I:∀h',Heap.ExtBut it s.heap h'->Q none { s with heap:=h' }):A1 prog w A (pyNext (.ref e)) Q E s:=by
 have G:s.TypeIs (.ref e) "enumerate" := ⟨_,he,rfl⟩;refine Qaa (Qde (wpAny_callSpecial?_slot (name:=Str.ofString "__next__") G Qeo (Qbc Qeo G F.entry_enumerate_next ?_ (F.args_enumerate_next_1 _))));show wpAny _ _ (field (.ref e) 2 >>= _) _ _ _;refine Qaa (Qbx he rfl (x:=.ref it) rfl ?_);refine Qaa (next_no hh C hl hx fun h' x D q=>?_);obtain ⟨o,ho,hc⟩:=q;refine Qaa (Qda (T := "StopIteration") (b:=true) ⟨o,ho,hc⟩ Qfl ?_);exact Qad (I _ D)
def call_new{items:Ah}(hl:s.heap.IsTuple l items)
  (h:∀h',IsEnum h' (s.heap.objs.size + 1) s.heap.objs.size 0 .none->h'.IsTupleIter s.heap.objs.size l 0->h'.objs.size=s.heap.objs.size + 2 ->
   (∀b o,s.heap.get? b=some o->h'.get? b=some o)->Q (.ref (s.heap.objs.size + 1)) { s with heap:=h' }):A1 prog w A (call (.type "enumerate") [.ref l]) Q E s:=by
 refine Qhj F.called_enumerate (by decide) (F.typeCall_enumerate_1 _) (F.newCall_enumerate_1 _) (fun q=>Qfx q _) F.entry_enumerate_new (Wo l items) ⟨hl,?_⟩;have hz:(s.heap.push (tIt l)).objs.size=s.heap.objs.size + 1:=Qbv ..;rw [hz];have he:IsEnum ((s.heap.push (tIt l)).push (enO s.heap.objs.size)) (s.heap.objs.size + 1) s.heap.objs.size 0 .none:=by
  have:=Qak (s.heap.push (tIt l)) (o:=enO s.heap.objs.size) rfl;rw [hz] at this;exact this
 refine ⟨⟨_,he,rfl⟩,h _ he ⟨_,Qab _ (Qak _ rfl),rfl,rfl⟩ (by rw [Qbv,hz]) fun b o x=>Qab _ (Qab _ x)⟩
end
end EnT
namespace L2
def YM{X:Cx}{pins:Ac}{h':Heap}{t':Nat}{fp:List Au}(I:Inv X pins f H s)(hf:∀b∈fp,G9 X pins H b)(k:∀b o,b∉fp->s.heap.get? b=some o->h'.get? b=some o):Inv X pins f H { s with heap:=h',toks:=t' }:=by
 have C:∀b u,H b=some u->b∉fp:=fun b u e z=>by rw [(hf b z).1] at e;cases e
 refine I.step (g':=s.gens) (d':=s.drawn) (ch:=fp) (fun b hb=>⟨(hf b hb).2.2.2.1,(hf b hb).2.1,(hf b hb).2.2.2.2.1,(hf b hb).2.2.2.2.2⟩) (fun b o _ _ hc e _=>k b o hc e) (fun b o _ _ hc e _=>⟨o.slots,k b o hc e⟩) (fun _ _ _ _ n=>n)
  (fun b o hc e=>⟨o,k b o hc e⟩) (fun _ _ e=>e) (fun _ _ _ e=>e) (fun b ps e=>⟨#[],by rw [e];simp⟩) (fun m hm=>?_) (fun b u e=>?_) I.bare
 ·obtain ⟨o,es,ep,ho,r⟩:=hm
  exact ⟨o,es,ep,k _ o (fun z=>(hf _ z).2.1 rfl) ho,r⟩
 ·refine (I.hok b u e).stay (fun c v hc q=>k c v ?_ q) (fun _ q=>q) fun _ _ q=>q
  rcases hc with z | z
  ·rw [z]
   exact C b u e
  ·exact C c _ z
def Ite(K:Af)(a:Au)(n:Nat):It :=
 ⟨fun i H=>∃xs x,SqT K H a xs/\xs.length=n/\xs[i]?=some x,fun i H v H'=>∃p,H p=none/\v=.ref p/\∀xs x,SqT K H a xs->xs[i]?=some x->H'=upd H p (.tup [.int i,x]),fun i H=>∃xs,SqT K H a xs/\xs.length=n/\n<=i⟩
def Zah{w:Ar}{ps:Pos}(a e it:Au)(n:Nat)(O:e≠it):Turn P w K (.Tuple B L ps) (Ite K a n) [e,it] e (fun i h=>(∃C,IsEnum h e it i C)/\h.IsTupleIter it a i) where
 mem:=by simp
 obj:=fun i h st b hb=>by
  obtain ⟨⟨C,he⟩,o,ho,hc,hd⟩:=st;rcases Qan.mp hb with rfl | hb
  ·grind
  ·grind
 keep:=fun i h h' st k=>by
  obtain ⟨⟨C,he⟩,q⟩:=st;exact ⟨⟨C,k e (by simp) _ he⟩,q.at fun o x=>k it (by simp) o x⟩
 item:=by
  intro X hP hw hK hc i pins s σ H E I hf st hg;subst hP hw hK;obtain ⟨xs,x,hq,hn,hx⟩:=hg;obtain ⟨J,rv,p,hz⟩:=I.tuple hq;obtain ⟨u,hu,ru⟩:=rv.get hx;obtain ⟨⟨C,he⟩,q⟩:=st;obtain ⟨f0,f1,f2,f3,f4,f5⟩:=hf e (by simp);obtain ⟨g0,g1,g2,g3,g4,g5⟩:=hf it (by simp);have hilt:it < s.heap.objs.size:=by obtain ⟨_,z,_⟩:=q;exact Qap z
  refine EnT.next_item he q (show s.heap.IsTuple a J.toArray from p) (x:=u) (by simpa using hu) O fun h' ho hit' hT hsz hk=>?_;refine ⟨_,rfl,wpAny_letOwnedTupleGo_enum (s:={ s with heap:=h',toks:=s.toks + 1 }) ho fun h2 he2 hs2=>?_⟩;have D:Heap.SameBut e h' h2:=hs2;have I1:Inv X pins σ (upd H s.heap.objs.size (.tup [.int i,x])) { s with heap:=s.heap.push { cls:=.type "tuple",data:=.seq #[.int i s.toks,u] },toks:=s.toks + 1 } :=
   I.laid (fun b o y=>Qab _ y) (Qag _) ⟨zi,[.int i s.toks,u],.cons ⟨_,rfl⟩ (.cons ru .nil),jz.new _ _⟩
  have Y:∀b∈[e,it],G9 X pins (upd H s.heap.objs.size (.tup [.int i,x])) b:=fun b hb=>by
   have hlb:b≠s.heap.objs.size:=by
    grind
   obtain ⟨a0,ar⟩:=hf b hb;exact ⟨by rw [Zh hlb];exact a0,ar⟩
  have I2:Inv X pins σ (upd H s.heap.objs.size (.tup [.int i,x])) { s with heap:=h2,toks:=s.toks + 1 }:=by
   refine YM (s:={ s with heap:=s.heap.push { cls:=.type "tuple",data:=.seq #[.int i s.toks,u] },toks:=s.toks + 1 }) I1 Y fun b o hb y=>?_;have G:b≠e:=fun z=>hb (by simp [z]);have hbi:b≠it:=fun z=>hb (by simp [z]);rcases Qfy y with ⟨rfl,rfl⟩ | y
   ·exact (D.2 _ G).trans hT
   ·exact (D.2 b G).trans (hk b o G hbi y)
  refine ⟨.ref s.heap.objs.size,_,I2,rfl,⟨_,I.hok.fresh (Qag _),rfl,fun ys y hy Z=>?_⟩,⟨⟨u,?_⟩,hit'.at fun o y=>(D.2 it O.symm).trans y⟩,fun b hb=>(Y b hb).1⟩
  ·rw [I.tuple_inj hy hq,hx] at Z
   cases Z
   rfl
  ·grind
 done:=by
  intro X hP hw hK hc i pins s σ H E I hf st hg;subst hP hw hK;obtain ⟨xs,hq,hn,hx⟩:=hg;obtain ⟨J,rv,p,hz⟩:=I.tuple hq;obtain ⟨⟨C,he⟩,q⟩:=st;obtain ⟨g0,g1,g2,g3,g4,g5⟩:=hf it (by simp);have hl:=rv.length;exact EnT.next_end (I.ok.hd hc) he q (show s.heap.IsTuple a J.toArray from p) (by simp;lia) fun h' eb=>⟨rfl,I.turned (t':=s.toks) (fun b o hb e=>eb b o hb e) g0 g1 g3 g4 g5⟩
 self:=fun _ _ _ _ _ st h=>let ⟨⟨_,he⟩,_⟩:=st;wpAny_pyIter_enum he h
def iEnum(K:Af)(te:TE):TI:=fun σ H R=>te σ H fun x H1=>∃a xs,x=.ref a/\SqT K H1 a xs/\R (Ite K a xs.length) H1
def jQ:bootBuiltins "enumerate" = some (.type "enumerate"):=by decide +kernel
def zx {X:Cx}    {ps:Pos}   (hg:Gl X "enumerate") (hm:X.mg "enumerate" = none) (he:QE X e d) (hp:ZW e=true:=by rfl):QI X (.Tuple B i ps) (.Call (.Name "enumerate" p) [e] [] A) (iEnum X.K d):=by
 refine ⟨fun pins s σ H R I h=>?_⟩;have hs:starEach [e] X.env=[(false,eval e X.env)]:=by rw [Zr hp];rfl
 refine Call_ (WN I hg hm jQ (Qb9 ?_ hs rfl));rw [hs];refine Qcg (thn (he.out pins s σ H _ I h) fun u q ⟨x,H1,C,O,Y⟩=>?_);refine Qds ?_;obtain ⟨a,xs,rfl,Z,r⟩:=Y;cases O;obtain ⟨J,rv,pt,hz⟩:=C.tuple Z;refine EnT.call_new (show q.heap.IsTuple a J.toArray from pt) fun h' D G hsz hk=>?_;have I2:Inv X pins σ H1 { q with heap:=h' }:=C.kept (t':=q.toks) hk;refine wpAny_pyIter_enum D ⟨q.heap.objs.size + 1,[q.heap.objs.size + 1,q.heap.objs.size],_,_,H1,rfl,I2,Zah a (q.heap.objs.size + 1) q.heap.objs.size xs.length (Nat.succ_ne_self _),⟨⟨_,D⟩,G⟩,fun b hb=>?_,r⟩;rcases Qan.mp hb with rfl | hb
 ·exact C.fpOk (Qdn _) (C.hok.fresh (Qdn _))
 ·have:b=q.heap.objs.size:=by simpa using hb
  subst this;exact C.fpOk (Qag _) (C.hok.fresh (Qag _))
theorem zy{X:Cx}{y:Str}{pos:Pos}{k:Nat}{q t2:TG}(hc:X.calm=true)(h1:QG X (.Name x p) q)(h2:QG X (.Name y A) t2):QG X (.Tuple [.Name x p,.Name y A] k pos) (gTup X.K 2 (uf q (uf t2 gNil))) :=
 ⟨pg_tup hc (ky h1.out (ky h2.out Zgq))⟩
def z5{xs:A0}{j k:Nat}(q:Nat->St->Hp->Prop)(h0:q 0 f H)(hl:∀i f H,i<=xs.length->q i f H->SqT K H a xs)
  (hs:∀i x f H p,xs[i]?=some x->H p=none->q i f H->r { Y with nx:=q (i + 1),ct:=q (i + 1),bk:=Y.nx } ((f.set j (some (.int i))).set k (some x)) (upd H p (.tup [.int i,x]))) (hd:∀f H,q xs.length f H->Y.nx f H) :
  ∃W:Nat->Nat->St->Hp->Prop,(∃m,W 0 m f H)/\∀i m f H,W i m f H ->
   ((Ite K a xs.length).stop i H/\Y.nx f H)\/((Ite K a xs.length).go i H/\∃N:Az,(∀C H',N C H'->∃J,J < m/\W (i + 1) J C H')/\∀x H',(Ite K a xs.length).yld i H x H'->(gTup K 2 (uf (zk j) (uf (zk k) gNil))) x f H' fun G H2=>r { Y with nx:=N,ct:=N,bk:=Y.nx } G H2):=by
 refine ⟨fun i m f H=>m=xs.length - i/\i<=xs.length/\q i f H,⟨xs.length,by simp,Qba _,h0⟩,?_⟩;rintro i m f H ⟨rfl,hi,p⟩;have I:=hl i f H hi p
 by_cases D:i < xs.length
 ·have hx:=Qaf D
  refine .inr ⟨⟨xs,xs[i],I,rfl,hx⟩,q (i + 1),fun C H' O=>⟨xs.length - (i + 1),by lia,rfl,D,O⟩,fun v H' y=>?_⟩;obtain ⟨t,Z,rfl,y⟩:=y;have e:=y xs _ I hx;subst e;exact ⟨t,_,rfl,SqT.of Za,rfl,_,_,rfl,_,_,rfl,rfl,hs i _ f H t hx Z p⟩
 ·have e:i=xs.length:=by lia
  exact .inl ⟨⟨xs,I,rfl,by lia⟩,by rw [e] at p;exact hd f H p⟩
def Jb{i:Av}(hu:X.A.units + 1 < cLine)(ho:QE X o d)(hi:QE X i O)(hs:Zkq i):QE X (.Subscript o i p) (Zjs d O):=⟨Zhc hu ho.out hi.out hs⟩
def qk:QE X (.Dict [] [] p) Zfn:=⟨Zdv⟩
theorem XM{i:Av}{tv:TE}{pos':Pos}(hu:X.A.units + 1 < cLine)(ho:QE X o d)(hi:QE X i O)(hv:QE X e tv)(hs:swapsWith e (some (.Subscript o i pos')) p.line X.env=pure false) :
  QS X (.Assign [.Subscript o i pos'] e p) (Zjt d O tv):=⟨Zhd hu ho.out hi.out hv.out hs⟩
def rDIn(neg:Bool):R2:=fun y x H Q=>∃a o,x=.ref a/\Zjd H a y o/\Q (.bl (if neg then !o.isSome else o.isSome)) H
def xN(hu:X.A.units + 1 < cLine):OpR X (compareOp .In) (rDIn false):=by
 intro pins s σ H x y v u Q I C D h;obtain ⟨a,o,rfl,g,q⟩:=h;cases D;exact d_in hu I g C fun s' G=>⟨.bl o.isSome,H,G,rfl,q⟩
def Jt(hu:X.A.units + 1 < cLine):OpR X (compareOp .NotIn) (rDIn true):=by
 intro pins s σ H x y v u Q I C D h;obtain ⟨a,o,rfl,g,q⟩:=h;cases D;exact Zhb hu I g C fun s' G=>⟨.bl (!o.isSome),H,G,rfl,q⟩
def ql:Xb X (.builtin "len") (fun xs H Q=>∃a kvs,xs=[V.ref a]/\Rd H a (.dK kvs)/\Q (.int kvs.length) H):=by
 intro pins s σ H xs G Q I r h;obtain ⟨a,kvs,rfl,e,q⟩:=h;obtain ⟨u,rfl,C⟩:=vals1 r;cases C;exact d_len I e fun t s' D=>⟨.int kvs.length,H,D,⟨t,rfl⟩,q⟩
theorem z6{κ:Type}[DecidableEq κ]:∀{kvs:List (κ × V)},(kvs.map (·.1)).Nodup->∀p∈kvs,Yf kvs p.1=some p.2
 | [],_,_,h=>nomatch h
 | q::r,C,p,h=>by
  rw [Qbu,Qci] at C;rcases Qan.mp h with rfl | h
  ·exact ZY rfl
  ·have D:¬q.1=p.1:=fun z=>C.1 (by rw [z];exact Qcc h)
   rw [ZS D];exact z6 C.2 p h
theorem Inv.freeze{pins:Ac}{kvs:Ay}{o:Obj}(I:Inv X pins f H s)(e:Rd H a (.dK kvs))(ho:s.heap.get? a=some o):Inv X pins f (upd H a (.frz o (.dK kvs))) s:=by
 rcases e with e | ⟨o',e⟩
 ·have ne:∀b u,H b=some u->u≠.dK kvs->b≠a:=fun b u hb hu z=>by
   grind
  refine I.step (h':=s.heap) (g':=s.gens) (d':=s.drawn) (t':=s.toks) (ch:=[]) (fun _ z=>nomatch z) (fun b o _ _ _ q _=>q) (fun b o _ _ _ q _=>⟨o.slots,q⟩) (fun b o _ _ n=>?_) (fun b o _ q=>⟨o,q⟩)
   (fun b xs q=>by rw [Zh (ne b _ q (fun z=>nomatch z))];exact q) (fun b o u q=>by rw [Zh (ne b _ q (fun z=>nomatch z))];exact q) (fun b ps q=>⟨#[],by rw [Zh (ne b _ q (fun z=>nomatch z)),q];simp⟩) (fun m hm=>hm) (fun b u q=>?_) I.bare
  ·rw [Zh (fun z=>by rw [z,e] at n;cases n)]
   exact n
  ·have st:∀u,Yl X.prog X.w H s.heap b u->Yl X.prog X.w (upd H a (.frz o (.dK kvs))) s.heap b u:=fun u x =>
    x.stay (fun _ _ _ q=>q) (fun c q=>by rw [Zh (ne c _ q (fun z=>nomatch z))];exact q) fun c xs q=>by rw [Zh (ne c _ q (fun z=>nomatch z))];exact q
   by_cases hb:b=a
   ·subst hb
    rw [Za] at q;cases q;exact ⟨ho,st _ (I.hok b _ e)⟩
   ·rw [Zh hb] at q
    exact st u (I.hok b u q)
 ·have z:=I.hok a _ e
  obtain ⟨C,_⟩:=z;have:o=o':=Option.some.inj (ho.symm.trans C);subst this;have D:upd H a (.frz o (.dK kvs))=H:=by
   funext b
   unfold upd
   split
   ·rename_i hb
    rw [hb,e]
   ·rfl
  rw [D];exact I
def Itd(a:Au)(o:Obj)(kvs:Ay):It:=⟨fun i H=>i < kvs.length/\H a=some (.frz o (.dK kvs)),fun i H v H'=>H'=H/\∃p,kvs[i]?=some p/\v=kV p.1,fun i H=>i=kvs.length/\H a=some (.frz o (.dK kvs))⟩
def Zdx{w:Ar}{k:Key}{v:As}(h:(ZC P w).is k v=true):RelV (kV k) v:=by
 rw [wQ] at h;cases k with
 | inl i =>
  cases v <;> first
   | (have e:=h;unfold qb Value.isInt at e;simp at e;exact ⟨_,by rw [e]⟩)
   | (unfold qb Value.isInt at h;simp at h)
 | inr x =>
  cases v <;> first
   | (have e:=h;unfold qb Value.isStrOf at e;simp at e;exact ⟨_,by rw [e]⟩)
   | (unfold qb Value.isStrOf at h;simp at h)
def jR{w:Ar}{tg:Av}(a it:Au)(o:Obj)(kvs:Ay)(ep:Nat)(Z:∃es,o.data=.dict es ep)(hne:a≠it):Turn P w K tg (Itd a o kvs) [it] it (fun i h=>h.IsKeyIter it a i kvs.length ep) where
 mem:=by simp
 obj:=fun i h st b hb=>by
  have e:b=it:=by simpa using hb
  subst e;obtain ⟨o,e,c,d⟩:=st;exact ⟨o,e,fun v z=>by rw [d] at z;cases z⟩
 keep:=fun i h h' st k=>st.at fun o e=>k it (by simp) o e
 item:=by
  intro X hP hw hK hc i pins s σ H E I hf st hg;subst hP hw hK;obtain ⟨hi,hH⟩:=hg;obtain ⟨f0,f1,f2,f3,f4,f5⟩:=hf it (by simp);obtain ⟨ho,z,nm,vs,D,dd⟩:=(show Yl X.prog X.w H s.heap a (.frz o (.dK kvs)) from I.hok a _ hH);obtain ⟨o',es,ep',J,G,C,hk,hp,hn⟩:=id dd;have eo:o'=o:=Option.some.inj (J.symm.trans ho);subst eo;obtain ⟨es2,q⟩:=Z;rw [C] at q;cases q;have Y:s.heap.DictAt (ZC X.prog X.w) a vs ep:=⟨o',es,ho,G,C,hk,hp,hn⟩;have hl:=D.length;rw [hl] at st;refine (Walks.dictKeys (knd:=ZC X.prog X.w) (prog:=X.prog) (w:=X.w) (I.ok.hd hc) it a hne vs ep).item i s _ _ (by lia) ⟨st,Y⟩ fun v h' tk hv st' kk=>?_;obtain ⟨k,x,hkx,hkey⟩:=hv;have I1:Inv X pins σ H { s with heap:=h',toks:=tk }:=I.turned (fun b o hb e=>kk b o (by simpa using hb) e) f0 f1 f3 f4 f5;obtain ⟨O,_⟩:=st';obtain ⟨oi,e,cc,d⟩:=id O;have hik:(kvs.map (·.1))[i]?=some k:=by
   rw [D.keys,Qaj,hkx]
   rfl
  rw [Qaj] at hik;obtain ⟨p,hp1,hp2⟩:=Qb2.mp hik;rw [<-hl] at O;exact ⟨_,rfl,j4 (s:={ s with heap:=h',toks:=tk }) e cc d (by decide) ⟨kV k,H,I1,Zdx hkey,⟨rfl,p,hp1,by rw [hp2]⟩,O,fun b hb=>(hf b hb).1⟩⟩
 done:=by
  intro X hP hw hK hc i pins s σ H E I hf st hg;subst hP hw hK;obtain ⟨hi,hH⟩:=hg;obtain ⟨f0,f1,f2,f3,f4,f5⟩:=hf it (by simp);obtain ⟨ho,z,nm,vs,D,dd⟩:=(show Yl X.prog X.w H s.heap a (.frz o (.dK kvs)) from I.hok a _ hH);obtain ⟨o',es,ep',J,G,C,hk,hp,hn⟩:=id dd;have eo:o'=o:=Option.some.inj (J.symm.trans ho);subst eo;obtain ⟨es2,q⟩:=Z;rw [C] at q;cases q;have Y:s.heap.DictAt (ZC X.prog X.w) a vs ep:=⟨o',es,ho,G,C,hk,hp,hn⟩;have hl:=D.length;rw [hi,hl] at st;exact (Walks.dictKeys (knd:=ZC X.prog X.w) (prog:=X.prog) (w:=X.w) (I.ok.hd hc) it a hne vs ep).done s _ _ ⟨st,Y⟩ fun h' tk kk=>⟨rfl,I.turned (t':=tk) (fun b o hb e=>kk b o (by simpa using hb) e) f0 f1 f3 f4 f5⟩
 self:=fun A i s Q E st h=>wpAny_pyIter_keyiter st h
def iDict(te:TE):TI:=fun σ H R=>te σ H fun x H1=>∃a kvs,x=.ref a/\Rd H1 a (.dK kvs)/\∀o,R (Itd a o kvs) (upd H1 a (.frz o (.dK kvs)))
def Zhh{tg:Av}(he:QE X e d):QI X tg e (iDict d):=by
 refine ⟨fun pins s σ H R I h=>?_⟩;refine thn (he.out pins s σ H _ I h) fun v C ⟨y,H1,I1,r1,q1⟩=>?_;obtain ⟨a,kvs,rfl,e,q⟩:=q1;cases r1;obtain ⟨z,nm,vs,G,dd⟩:=jO I1.hok e;obtain ⟨o,es,ep,ho,J,D,hk,hp,hn⟩:=id dd;have O:=I1.freeze e ho;have Z:a < C.heap.objs.size:=Qap ho;have Y:C.heap.DictAt (ZC X.prog X.w) a vs ep:=⟨o,es,ho,J,D,hk,hp,hn⟩;refine wpAny_pyIter_dict nm Y ?_;have st:(C.heap.push { cls:=.type "dict_keyiterator",data:=.fields #[.ref a,.int 0 0,.int vs.length 0,.int ep 0] }).IsKeyIter C.heap.objs.size a 0 kvs.length ep:=by
  rw [G.length];exact ⟨_,Qak _ rfl,rfl,rfl⟩
 refine ⟨C.heap.objs.size,[C.heap.objs.size],_,_,_,rfl,O.kept (t':=C.toks) fun b o e=>Qab _ e,jR a _ o kvs ep ⟨es,D⟩ (Qbe Z),st,fun b hb=>?_,q o⟩;have e:b=C.heap.objs.size:=by simpa using hb
 subst e;exact O.fpOk (Qag _) (O.hok.fresh (Qag _))
def z8{o:Obj}{kvs:Ay}{g:TG}(C:Nat->St->Hp->Prop)(h0:C 0 f H)(hl:∀i f H,i<=kvs.length->C i f H->H a=some (.frz o (.dK kvs)))
  (hs:∀i p f H,kvs[i]?=some p->C i f H->g (kV p.1) f H fun D H2=>r { Y with nx:=C (i + 1),ct:=C (i + 1),bk:=Y.nx } D H2) (hd:∀f H,C kvs.length f H->Y.nx f H) :
  ∃W:Nat->Nat->St->Hp->Prop,(∃m,W 0 m f H)/\∀i m f H,W i m f H ->
   ((Itd a o kvs).stop i H/\Y.nx f H)\/((Itd a o kvs).go i H/\∃N:Az,(∀G H',N G H'->∃Z,Z < m/\W (i + 1) Z G H')/\∀x H',(Itd a o kvs).yld i H x H'->g x f H' fun D H2=>r { Y with nx:=N,ct:=N,bk:=Y.nx } D H2):=by
 refine ⟨fun i m f H=>m=kvs.length - i/\i<=kvs.length/\C i f H,⟨kvs.length,by simp,Qba _,h0⟩,?_⟩;rintro i m f H ⟨rfl,hi,p⟩;have hq:=hl i f H hi p
 by_cases I:i < kvs.length
 ·refine .inr ⟨⟨I,hq⟩,C (i + 1),fun G H' p'=>⟨kvs.length - (i + 1),by lia,rfl,I,p'⟩,fun v H' y=>?_⟩
  obtain ⟨e,q,O,J⟩:=y;subst e J;exact hs i q f _ O p
 ·have e:i=kvs.length:=by lia
  exact .inl ⟨⟨e,hq⟩,by rw [e] at p;exact hd f H p⟩
inductive KTab(P:Params):List DictEntry->List (Str × Int)->Prop
 | nil:KTab P [] []
 | cons {k:Str} {v:Int} {t u:Tok} {es:List DictEntry} {l:List (Str × Int)}:KTab P es l->KTab P ({ hash:=PyData.keyHash P k,key:=.str k t,val:=.int v u }::es) ((k,v)::l)
structure KD(K:Af)(w:Ar)(a:Au)(l:List (Str × Int)):Prop where
 ex:∃es ep,K.lookup a=some { cls:=.type "dict",dict:=none,data:=.dict es ep,slots:=#[] }/\KTab w.params es.toList l
 nd:(l.map (·.1)).Nodup
 ns:(a == sysModules)=false
def kvsOf(l:List (Str × Int)):Ay:=l.map fun p=>((Sum.inr p.1:Key),V.int p.2)
theorem KTab.pairs{w:Ar}{es:List DictEntry}{l:List (Str × Int)}(h:KTab w.params es l):(∃vs,KV (kvsOf l) vs/\Pairs (ZC P w) es vs)/\∀e∈es,∃k,(ZC P w).is k e.key=true/\e.hash=(ZC P w).hash k:=by
 induction h with
 | nil=>exact ⟨⟨[],.nil,.nil⟩,fun _ h=>nomatch h⟩
 | @cons k v t u es l _ C =>
  obtain ⟨⟨vs,r,p⟩,q⟩:=C;refine ⟨⟨(.inr k,.int v u)::vs,.cons ⟨rfl,⟨u,rfl⟩⟩ r,.cons (WT P w k t) rfl p⟩,fun e he=>?_⟩;rcases Qan.mp he with rfl | he
  ·exact ⟨.inr k,WT P w k t,rfl⟩
  ·exact q e he
section
variable {X:Cx}{pins:Ac}{σ:St}{H:Hp}{s:Aq}{a:Au}{l:List (Str × Int)}{k:Key}{u:As}{A:Ao}{E:Ab}
def KD.of(I:Inv X pins σ H s)(d:KD X.K X.w a l):∃vs,KV (kvsOf l) vs/\s.heap.DictOf (ZC X.prog X.w) a vs:=by
 obtain ⟨es,ep,hk,t⟩:=d.ex;obtain ⟨⟨vs,r,p⟩,q⟩:=t.pairs (P:=X.prog);refine ⟨vs,r,_,es,ep,I.kIn a _ hk,⟨rfl,rfl,rfl⟩,rfl,fun e he=>q e (by simpa using he),p,?_⟩;rw [<-r.keys];unfold kvsOf;rw [Qb4];have:=d.nd;rw [List.nodup_iff_pairwise_ne] at *;rw [List.pairwise_map] at *;exact this.imp fun h z=>h (Sum.inr.inj z)
def kd_in(I:Inv X pins σ H s)(d:KD X.K X.w a l)(C:RelV (kV k) u)(h:∀s',Inv X pins σ H s'->Q (.bool (Yf (kvsOf l) k).isSome) s'):A1 X.prog X.w A (compareOp .In u (.ref a)) Q E s:=by
 obtain ⟨vs,q,dd⟩:=d.of I;refine wpAny_in_of (zv C) d.ns dd.mapOf ?_;rw [<-(q.val k).isSome_eq];exact h _ (I.tok _)
def Zhi{z:V}{r:As}(I:Inv X pins σ H s)(d:KD X.K X.w a l)(G:RelV (kV k) u)(D:RelV z r)(h:∀C s',Inv X pins σ H s'->RelV ((Yf (kvsOf l) k).getD z) C->Q C s') :
  A1 X.prog X.w A (call (.builtin "dict.get") [.ref a,u,r]) Q E s:=by
 obtain ⟨vs,q,dd⟩:=d.of I;exact call_meetsIn PySem.F.slot_dict_get dd.typeIs PySem.F.entry_dict_get (PySem.F.args_dict_get_3 _ _ _) (meets_dict_get_default (ZC X.prog X.w) a (zv G) d.ns r) ⟨_,dd.mapOf,h _ _ (I.tok _) ((q.val k).getD D)⟩
end
def rKIn(K:Af)(w:Ar):R2:=fun y x H Q=>∃a l k,x=.ref a/\KD K w a l/\y=kV k/\Q (.bl (Yf (kvsOf l) k).isSome) H
def yY:OpR X (compareOp .In) (rKIn X.K X.w):=by
 intro pins s σ H x y v u Q I C D h;obtain ⟨a,l,k,rfl,d,rfl,q⟩:=h;cases D;exact kd_in I d C fun s' G=>⟨.bl _,H,G,rfl,q⟩
def tKGet(K:Af)(w:Ar)(td ty tx:TE):TE:=fun σ H Q=>td σ H fun x H1=>∃a l,x=.ref a/\KD K w a l/\ty σ H1 fun y H2=>tx σ H2 fun z q=>∃k,y=kV k/\Q ((Yf (kvsOf l) k).getD z) q
def m2_of{f:Av}{m:Str}(he:ZW e=true)(hf:ZW f=true)(hb:attributeBase o m X.env (eval o X.env)=eval o X.env)(hl:(p.endLine == A.line)=true):M2 X o m p e f A where
 base:=hb
 few:=by
  rw [all_plain (by grind)]
  rfl
 line:=hl
 trees:=by
  rw [Zr he,Zr hf]
  rfl
def yZ {f:Av}  {ty tx:TE} (ho:QE X o O) (he:QE X e ty) (hf:QE X f tx) (h1:ZW e=true:=by rfl) (h2:ZW f=true:=by rfl) (hb:attributeBase o "get" X.env (eval o X.env)=eval o X.env:=by rfl) (hl:(p.endLine == A.line)=true:=by rfl) :
  QE X (.Call (.Attribute o "get" p) [e,f] [] A) (tKGet X.K X.w O ty tx):=by
 have m:=m2_of (X:=X) (m := "get") (o:=o) h1 h2 hb hl;refine ⟨fun pins s σ H Q I h=>?_⟩;refine wpAny_Call_method m.base m.few m.line PySem.F.plainAttrs_dict PySem.F.slot_dict_get PySem.F.type_dict_get (thn (ho.out pins s σ H _ I h) fun u s1 ⟨x,H1,D,rx,a,l,ex,d,q1⟩=>?_);subst ex;obtain rfl:u=Value.ref a:=rx;obtain ⟨vs,rel,dd⟩:=d.of D;refine ⟨dd.typeIs,fun b q=>?_,?_⟩
 ·cases q
  obtain ⟨ob,_,_,g1,J,_⟩:=dd;exact ⟨ob,g1,J.2.1⟩
 rw [m.trees];refine Qfh rfl (Calls.evalArgs_plain (Qcg (thn (he.out pins s1 σ H1 _ D q1) fun iv s2 ⟨y,H2,I2,ry,q2⟩=>Qcg (thn (hf.out pins s2 σ H2 _ I2 q2) fun fv s3 ⟨z,G,I3,rz,k,ey,Z⟩=>Qds ?_))));subst ey;exact Zhi I3 d ry rz fun w' s4 Y C=>⟨_,G,Y,C,Z⟩
def Zdy{is:Aj}{σ:St}{Q:VK}(f:Nat->V)(hz:x.cps.size<=sizeLine)
  (he:∀c∈x.cps.toList,∀R:VK,R (f c) H->d (Ja is σ (some (.str ⟨#[c]⟩))) H R)
  (hd:∀l,H l=none->Q (.ref l) (upd H l (.lst (x.cps.toList.map f)))):Jq is uR d σ Q (Its x) H:=by
 refine ⟨fun i m zs H'=>m=x.cps.size - i/\i<=x.cps.size/\zs=(x.cps.toList.take i).map f/\H'=H,⟨x.cps.size,by simp,Qba _,rfl,rfl⟩,?_⟩;rintro i m zs H' ⟨rfl,hi,rfl,rfl⟩;have hl:((x.cps.toList.take i).map f).length<=sizeLine:=by
  grind
 by_cases C:i < x.cps.size
 ·refine .inr ⟨C,hl,fun v H2 y=>?_⟩
  obtain ⟨e,c,hc,rfl⟩:=y;subst e;have q:x.cps.toList[i]?=some c:=by rw [Qep];exact hc
  refine he c (Qai q) _ ⟨x.cps.size - (i + 1),by lia,rfl,C,?_,rfl⟩;rw [take_snoc q,Qa6]
  rfl
 ·have e:i=x.cps.size:=by lia
  refine .inl ⟨e,hl,fun l D=>?_⟩;rw [Qb3 (by rw [Qbs];lia)];exact hd l D
def XN(t:SetTable)(n:Nat):(t.standIn n).led=t.led/\(t.plain=false->(t.standIn n).plain=false):=⟨rfl,fun _=>rfl⟩
def z9(t:SetTable)(n:Nat):(t.orStandIn n).led=t.led/\(t.plain=false->(t.orStandIn n).plain=false):=by
 unfold SetTable.orStandIn;split
 ·exact ⟨rfl,id⟩
 ·exact XN _ _
def gc(t:SetTable)(es:Array (Int × As))(h:Int)(x:As):(layNew t es h x).2.1.led=t.led/\(t.plain=false->(layNew t es h x).2.1.plain=false):=by
 unfold layNew;split
 ·exact z9 _ _
 ·exact XN _ _
theorem jS(t:SetTable)(es:Array (Int × As))(n:Nat):(relayAll t es n).2.1.led=t.led/\(t.plain=false->(relayAll t es n).2.1.plain=false):=by
 unfold relayAll;split
 ·rename_i t' D q
  have C:t'.led=t.led/\(t.plain=false->t'.plain=false):=by
   unfold SetTable.relaid SetTable.laid at q;cases hc:SetTable.layClean (SetTable.sizeAbove n - 1) (es.map (·.1)) with
   | none=>rw [hc] at q;exact nomatch q
   | some G =>
    rw [hc] at q;obtain ⟨rfl,_⟩:=q;exact ⟨rfl,id⟩
  dsimp only
  split
  ·exact C
  ·exact XN _ _
 ·exact XN _ _
def tx:As->Str
 | .str x _=>x
 | _=>⟨#[]⟩
def GB(prog:An)(w:Ar)(h:Heap)(a:Au)(led:Bool)(S:Ai):Prop :=
 ∃o es ep t,h.get? a=some o/\o.ExactSet/\o.data=.set es ep t/\ElemsOf (strKind prog w) es.toList/\(es.toList.map fun e=>tx e.2).Perm S/\t.fits es.size=true/\t.led=led/\(es.size=0\/t.plain=false)
section
variable {prog:An}{w:Ar}{A:Ao}{E:Ab}{s:Aq}
def Zjv{e:As}{k:Str}(h:(strKind prog w).is k e=true):tx e=k:=by
 obtain ⟨t,rfl⟩:=Qf9 h;rfl
def kJ{l:List (Int × As)}(h:ElemsOf (strKind prog w) l){e:Int × As}(he:e∈l):(strKind prog w).is (tx e.2) e.2=true/\∃t,e.2=.str (tx e.2) t:=by
 obtain ⟨⟨k,hk,_⟩,_⟩:=h e he;rw [Zjv hk];exact ⟨hk,Qf9 hk⟩
def ins(S:Ai)(x:Str):Ai:=if x∈S then S else S++[x]
def Zhj{l:List (Int × As)}(h:ElemsOf (strKind prog w) l) :
  (l.findIdx? (fun e=>(strKind prog w).is x e.2)).isSome=true↔x∈l.map (fun e=>tx e.2):=by
 rw [List.findIdx?_isSome,Qeh,Qa2]
 constructor
 ·rintro ⟨e,he,hx⟩;exact ⟨e,he,Zjv hx⟩
 ·rintro ⟨e,he,hx⟩;exact ⟨e,he,hx ▸ (kJ h he).1⟩
def qm{o:Obj}{es:Array (Int × As)}{t:SetTable}(ho:h.get? a=some o)(D:o.ExactSet)(hd:o.data=.set es i t)
  {q:Array (Int × As)} {t':SetTable} {S:Ai} {led:Bool} (C:ElemsOf (strKind prog w) q.toList) (hp:(q.toList.map fun e=>tx e.2).Perm S) (hf:t'.fits q.size=true) (hl:t'.led=led) (G:q.size=0\/t'.plain=false) :
  (h.update a (Obj.putSet q t')).get? a=some { o with data:=.set q (i + 1) t' }/\GB prog w (h.update a (Obj.putSet q t')) a led S:=by
 have hg:(h.update a (Obj.putSet q t')).get? a=some { o with data:=.set q (i + 1) t' }:=by
  have:=Qbh (Obj.putSet q t') ho (by rw [putSet_of q t' hd];rfl);rw [putSet_of q t' hd] at this;exact this
 exact ⟨hg,_,q,i + 1,t',hg,D,rfl,C,hp,hf,hl,G⟩
theorem Zai{led:Bool}{S:Ai}{tk:Tok}{Q:Bool->Shared->Prop}(hS:GB prog w s.heap a led S)(hroom:S.length + 1 < scanBound)
  (h:∀h' b,Heap.SameBut a s.heap h'->GB prog w h' a led (ins S x)->Q b { s with heap:=h' }) :
  A1 prog w A (setAddHashed a (.str x tk) ((strKind prog w).hash x)) Q E s:=by
 obtain ⟨o,es,ep,t,ho,hex,hd,J,hp,hf,hl,hpl⟩:=hS;have hn:es.size=S.length:=by rw [<-hp.length_eq,Qac,Qbs]
 have hkey:(strKind prog w).is x (.str x tk)=true:=by show Value.isStrOf x (.str x tk)=true;simp [Value.isStrOf]
 refine Qcp (Qaa (Qd9 ho hd hf ?_));dsimp only;rw [byScan_of (knd:=strKind prog w) rfl (by lia) J];refine Qaa ?_;refine Qaa (Qc1 ?_);refine Qaa (wpAny_setScan_of hkey ho hd hf J ?_);have Z:=Zhj J (x:=x);cases hr:List.findIdx? (fun e=>(strKind prog w).is x e.2) es.toList with
 | some j =>
  rw [hr] at Z;have hx:x∈S:=hp.mem_iff.mp (Z.mp rfl);refine Qad (Qad ?_);have:=h s.heap false (Heap.SameBut.refl a s.heap) (by rw [ins,Qa1 hx];exact ⟨o,es,ep,t,ho,hex,hd,J,hp,hf,hl,hpl⟩);exact this
 | none =>
  rw [hr] at Z;have hx:x∉S:=fun hm=>by simpa using Z.mpr (hp.mem_iff.mpr hm)
  have O:=gc t es ((strKind prog w).hash x) (.str x tk);have D:=layNew_perm t es ((strKind prog w).hash x) (.str x tk);have I:=layNew_fits t es ((strKind prog w).hash x) (.str x tk);generalize hL:layNew t es ((strKind prog w).hash x) (.str x tk)=L at O D I ⊢;obtain ⟨q,t1,wd,gave⟩:=L;rw [Array.toList_push] at D;have hel1:ElemsOf (strKind prog w) q.toList:=(J.push hkey rfl).perm D;have hp1:(q.toList.map fun e=>tx e.2).Perm (ins S x):=by
   rw [ins,Qaw hx];refine (D.map _).trans ?_;rw [Qa6];exact hp.append_right _
  have hz1:q.size=S.length + 1:=by
   have:=hp1.length_eq;rw [ins,Qaw hx,Qac,Qbs,Qae] at this;exact this
  have hg:∀(b:Bool) {C:Aq} {Q':Unit->Shared->Prop},Q' () C->A1 prog w A (match b with | true=>rule "set.scan.the-table-gave-way" | false=>pure ()) Q' E C :=
   fun b C Q' G=>by cases b <;> first | exact Qad G | exact Qc1 G
  refine Qaa (hg _ ?_);have key:∀(g:Bool->Sem Unit),(∀(b:Bool) (C:Aq) (Q':Unit->Shared->Prop),Q' () C->A1 prog w A (g b) Q' E C)->∀t2:SetTable,t2.fits q.size=true->t2.led=led->t2.plain=false ->
    A1 prog w A (do
     storeSet a q t2
     if (!wd && t2.tooFull)=true then do
       g (relayAll t2 q (SetTable.grown q.size)).2.2
       storeSet a (relayAll t2 q (SetTable.grown q.size)).1 (relayAll t2 q (SetTable.grown q.size)).2.1
       pure (some true)
      else pure (some true)) (fun r s'=>r=some true/\∀b,Q b s') E s:=by
   intro g hg t2 hf2 hl2 hp2;refine Qaa (wpAny_storeSet_of ho hd ?_ (Qgx (by lia)));obtain ⟨ho1,hS1⟩:=qm (prog:=prog) (w:=w) ho hex hd hel1 hp1 hf2 hl2 (.inr hp2);have hsb1:=Qb6 s.heap a (Obj.putSet q t2)
   split
   ·have G:=relayAll_perm t2 q (SetTable.grown q.size)
    have hfr:=relayAll_fits t2 q (SetTable.grown q.size);have Y:=jS t2 q (SetTable.grown q.size);generalize relayAll t2 q (SetTable.grown q.size)=Rl at G hfr Y ⊢;obtain ⟨es2,t3,g2⟩:=Rl;dsimp only at G hfr Y ⊢;have hz2:es2.size=q.size:=by rw [<-Qbs,G.length_eq,Qbs]
    refine Qaa (hg _ _ _ ?_);refine Qaa (wpAny_storeSet_of ho1 rfl ?_ (Qgx (by lia)));obtain ⟨_,hS2⟩:=qm (prog:=prog) (w:=w) ho1 hex rfl (hel1.perm G) ((G.map _).trans hp1) hfr (Y.1.trans hl2) (.inr (Y.2 hp2));exact Qad ⟨rfl,fun b=>h _ b (hsb1.trans (Qb6 _ a _)) hS2⟩
   ·exact Qad ⟨rfl,fun b=>h _ b hsb1 hS1⟩
  split
  ·rename_i hpt
   refine Qaa ?_;rw [hashByValue_scannable 8 rfl];refine Qad ?_;rw [show plainKind (Value.str x tk)=false from rfl];refine Qc6 (key _ ?_ { t1 with plain:=false } (SetTable.fits_plain_off I) (O.1.trans hl) rfl) ?_ (fun _ _ e=>e)
   ·intro b C Q' G;cases b <;> first | exact Qad G | exact Qc1 G
   ·rintro r s' ⟨rfl,G⟩
    exact Qad (G _)
  ·rename_i hpt
   refine Qaa (Qad ?_);refine Qc6 (key _ ?_ t1 I (O.1.trans hl) (by simpa using hpt)) ?_ (fun _ _ e=>e)
   ·intro b C Q' G;cases b <;> first | exact Qad G | exact Qc1 G
   ·rintro r s' ⟨rfl,G⟩
    exact Qad (G _)
end
def XO(ys:Ai):Ai:=ys.foldl ins []
def xO(ys:Ai)(y:Str):XO (ys++[y])=ins (XO ys) y:=by simp [XO,Qc2]
def Zhk(S:Ai)(x:Str):(ins S x).length<=S.length + 1:=by unfold ins;split <;> simp
theorem X2(ys:Ai):∀i,(XO (ys.take i)).length<=i
 | 0=>by simp [XO]
 | i + 1=>by
  by_cases h:i < ys.length
  ·rw [Qgy,Qaf h,Option.toList_some,xO]
   have:=X2 ys i;have:=Zhk (XO (ys.take i)) ys[i];lia
  ·rw [Qb3 (by lia)]
   have:=X2 ys i;rw [Qb3 (by lia)] at this;lia
def JU{prog:An}{w:Ar}{h':Heap}{led:Bool}{S:Ai}(q:GB prog w h a led S)(hk:∀o,h.get? a=some o->h'.get? a=some o):GB prog w h' a led S:=by
 obtain ⟨o,es,ep,t,ho,rest⟩:=q;exact ⟨o,es,ep,t,hk o ho,rest⟩
section
variable {prog:An}{w:Ar}{A:Ao}{R:Result->Shared->Prop}{I:Au}{fp wr:List Au}{G:Array GenState->Array GenState->Prop}{n:Nat}{P:Nat->Value->Prop}{St:Nat->Shared->Prop}
theorem gg(W:WalksS prog w A.in1 I fp wr G n P St)(S:Au)(hSf:S∉fp){led:Bool}{ys:Ai}(hn:ys.length=n)
  (O:∀i v,P i v->∃y t,ys[i]?=some y/\v=.str y t) (hb:n + 1 < scanBound) :
  ∀(k i:Nat) (s:Aq),n - i=k->i<=n->St i s->GB prog w s.heap S led (XO (ys.take i)) ->
   (∀s',Moved (S::wr) G s s'->GB prog w s'.heap S led (XO ys)->R (.ok (.ret .none)) s') ->
   codeAny (model prog w) A (.builtin "set.update.loop" ⟨[.ref S,.ref I],[]⟩) R s:=by
 have hSw:S∉wr:=fun h=>hSf (W.sub _ h);have q:∀b∈wr,b∈S::wr:=fun b hb=>Qam _ hb;intro k
 induction k with
 | zero =>
  intro i s hk hi C hS hR;have hin:i=n:=by lia
  rw [hin,<-hn,Qbi] at hS;subst hin;refine Qcf F.entry_set_update_loop ?_;refine Qaa (W.done s _ _ C fun s' hm=>?_);exact Qad (hR s' (hm.mono q) (JU hS fun o ho=>hm.heap S _ hSw ho))
 | succ k ih =>
  intro i s hk hi C hS hR;have hlt:i < n:=by lia
  refine Qcf F.entry_set_update_loop ?_;refine Qaa (W.item i s _ _ hlt C fun v s' hP hst' hm=>?_);obtain ⟨y,t,hy,rfl⟩:=O i v hP;have hS':=JU hS fun o ho=>hm.heap S _ hSw ho;refine Qaa (Qcp ?_);refine Qcp ?_;refine Qaa ((PySem.strKind prog w).pyHash (k:=y) (by show Value.isStrOf y (.str y t)=true;simp [Value.isStrOf]) ?_);have D:(XO (ys.take i)).length + 1 < scanBound:=by have:=X2 ys i;lia
  refine Zai (s:={ s' with toks:=s'.toks + 1 }) hS' D fun h' b hsb Z=>?_;rw [<-xO,show ys.take i++[y]=ys.take (i + 1) by rw [Qgy,hy,Option.toList_some]] at Z;refine Qad ⟨Qdf F.plain_set_update_loop _,ih (i + 1) _ (by lia) hlt (W.frame _ s' _ _ hst' (Qdn _) fun b hb o e=>?_) Z fun s'' J Y=>?_⟩
  ·rw [hsb.2 b (fun h:b=S=>hSf (by rw [<-h];exact hb))];exact e
  ·refine hR s'' (Moved.trans W.gtrans ((hm.mono q).then_heap (Qdn _) fun b o hb e=>?_) J) Y
   rw [hsb.2 b (fun h:b=S=>hb (by rw [h];exact Qaq))];exact e
end
section
variable {prog:An}{w:Ar}{A:Ao}{E:Ab}{s:Aq}
def jT (w:Ar):Bool:=w.params.followText "set-order"
def Yu (w:Ar):Obj:={ cls:=.type "set",dict:=none,data:=.set #[] 0 (.fresh 0 0 (!jT w)) }
def vc(a:As){Q₁:Ab}(h:Q₁ (.ref s.heap.objs.size) { s with heap:=s.heap.push (Yu w) }) :
  codeAny (model prog w) A (.call (.builtin "set.__new__") ⟨[.type "set",a],[]⟩) (wants Q₁ E) s:=by
 refine codeAny_of_tree ?_;show wpAny _ A.in1 (do checkBuiltinCall "set.__new__" ⟨[.type "set",a],[]⟩;again (.builtin "set.__new__" ⟨[.type "set",a],[]⟩)) _ _ s;refine Qaa (Qcj (F.newCall_set_1 a) (Qad ⟨Qdf F.plain_set_new _,Qcf F.entry_set_new ?_⟩));rw [Qc7 F.plain_set_new _];unfold Builtin.«set.__new__» Builtin.Frozenset.newClass;have q:=sub_set_self;obtain ⟨hp,g,d,tk,os⟩:=s;dsimp only
 wp_walk
 refine Qhd (Qad ?_);dsimp only;simp only [newObj];refine Qaa (wpAny_alloc (Qad ?_));exact Qad h
theorem xh{items:Ah}{ys:Ai}
  (hh:A.handled=none) (hl:s.heap.IsList l items) (hi:StrsAre items.toList ys) (hb:items.size + 1 < scanBound)
  (h:∀(h':Heap) (tk:Nat),s.toks<=tk->GB prog w h' s.heap.objs.size (!jT w) (XO ys) ->
   (∀b o,b < s.heap.objs.size->s.heap.get? b=some o->h'.get? b=some o)->Q (.ref s.heap.objs.size) { s with heap:=h',toks:=tk }) :
  wpAny (model prog w) A (call (.type "set") [.ref l]) Q E s:=by
 obtain ⟨c,tl,hmro⟩:=Qeq.mro;have hmade:=Qeq.made;have hsub:=Qeq.sub;refine Qhq (codeAny_of_tree ?_);show wpAny _ _ (callAny (.type "set") _) _ _ _;refine Qad ⟨Code.quiet_builtin _ (by decide +kernel),Qcf F.entry_type_call ?_⟩;rw [Around.under_plain (weight_type_call_type "set" [.ref l] []) rfl];have h1:=Qeq.notType;have h2:=Qeq.canCreate;have hct:=F.typeCall_set_1 (.ref l)
 repeat (any_goals (first | assumption | wp_step))
 refine Qec (vc (.ref l) (E:=E) (Q₁:=fun obj D=>obj=.ref s.heap.objs.size/\D={ s with heap:=s.heap.push (Yu w) }) ⟨rfl,rfl⟩) fun r D hr=>?_;cases r with
 | error e=>exact hr
 | ok fl =>
  cases fl with
  | ret obj =>
   obtain ⟨rfl,rfl⟩:=hr;have hS:(s.heap.push (Yu w)).get? s.heap.objs.size=some (Yu w):=Qak _ rfl;have hT:Shared.TypeIs { s with heap:=s.heap.push (Yu w) } (.ref s.heap.objs.size) "set" := ⟨_,hS,rfl⟩;have hli:=Qeq.init.lookup;have hbi:=Qeq.init.bind (.ref s.heap.objs.size)
   repeat (any_goals (first | assumption | wp_step))
   refine Qec (codeAny_call_builtin (R:=wants (fun r s₂=>r=.none/\∃h' tk,s.toks<=tk/\s₂={ s with heap:=h',toks:=tk } /\
     GB prog w h' s.heap.objs.size (!jT w) (XO ys) /\
     (∀b o,b < s.heap.objs.size->s.heap.get? b=some o->h'.get? b=some o)) E) Qeq.init.plain F.entry_set_init (check_set_init_1 hT ?_)) fun r₂ s₂ q=>?_
   ·obtain ⟨ol,hol,hcl,nl,hdl⟩:=hl
    obtain ⟨ocls,I,odata,C⟩:=ol;simp only at hcl hdl;subst hcl;subst hdl;have hol':(s.heap.push (Yu w)).get? l=some { cls:=.type "list",dict:=I,data:=.seq items nl,slots:=C }:=Qab _ hol;have hsls:=F.sub_list_set;have hslf:=F.sub_list_frozenset;have hne:(Value.type "list" == Value.type "dict")=false:=by decide
    have hl1:(s.heap.push (Yu w)).IsList l items:=⟨_,hol',rfl,nl,rfl⟩;unfold Builtin.«set.__init__» noKeywords Builtin.Frozenset.updateFrom;generalize hPI:pyIter=PI
    wp_walk
    subst hPI;refine Qeu hl1 ?_;refine Qaa (wpAny_runValue ?_);have Z:l < s.heap.objs.size:=Qap hol;have hh3:A.in1.in1.in1.handled=none:=by simp [hh]
    have Y:l≠(s.heap.push (Yu w)).objs.size:=by
     rw [Qbv];exact Qbe (Qcq Z)
    have hSf:s.heap.objs.size∉[(s.heap.push (Yu w)).objs.size,l]:=by
     rw [Qbv];simp only [Qan,Qal,Qbd,Qdq,not_or];exact ⟨Qbe (Qco _),Qeb Z⟩
    have hval:∀(i:Nat) (v:As),items[i]?=some v->∃y t,ys[i]?=some y/\v=.str y t:=fun i v hv=>by
     rw [<-Qep] at hv;obtain ⟨y,t,e1,e2⟩:=StrsAre.item hi i v hv;exact ⟨y,t,e2,e1⟩
    refine gg ((Walks.list hh3 _ l Y items).toS) s.heap.objs.size
     hSf (led:=!jT w) (ys:=ys) (by rw [<-Qbs];exact hi.length.symm) hval hb (items.size - 0) 0 _ (by lia) (Qba _)
     ⟨⟨_,Qak _ rfl,rfl,rfl⟩,(hl1.push _)⟩ ?hS0 ?hR
    case hS0 =>
     exact ⟨Yu w,#[],0,.fresh 0 0 (!jT w),Qab _ hS,⟨rfl,rfl,rfl⟩,rfl,fun e he=>by simp at he,by simp [XO],rfl,rfl,.inl rfl⟩
    case hR =>
     intro s' hm G;have J:=hm.toks;obtain ⟨h',g',d',tk',os'⟩:=s';have eg:g'=s.gens:=hm.gens;have ed:d'=s.drawn:=hm.drawn;have eo:os'=s.os:=hm.os;subst eg;subst ed;subst eo;show wpAny _ _ _ _ _ _;refine Qad ?_;show wpAny _ _ (ret Value.none) _ _ _;refine Qad ⟨rfl,h',tk',J,rfl,G,fun b o hb e=>?_⟩;have hb1:b≠s.heap.objs.size:=Qbe hb;have hb2:b≠(s.heap.push (Yu w)).objs.size:=by
      rw [Qbv];exact Qbe (Qcq hb)
     exact hm.heap b o (by simp only [Qan,Qal,Qbd,Qdq,not_or];exact ⟨hb1,hb2⟩) (Qab _ (Qab _ e))
   ·cases r₂ with
    | error e=>exact q
    | ok O =>
     cases O with
     | ret r =>
      obtain ⟨rfl,h',tk,J,rfl,G,hk'⟩:=q
      repeat (any_goals (first | assumption | wp_step))
      exact h _ _ J G hk'
     | _=>exact q.elim
  | _=>exact hr.elim
end
theorem Z7:Slot "set_iterator" "__next__" "set_iterator.__next__" :=
 .of (owner := "set_iterator") (n := "__next__") (by rw [Qhi,Qfn];kernel_rfl) (by decide +kernel) (by decide +kernel) (by decide +kernel)
  (by first | exact .inl (by decide +kernel) | exact .inr (by decide +kernel)) (by rw [Qgr];kernel_rfl)
def YC:entryFor table "set_iterator.__next__" = some Builtin.«set_iterator.__next__»:=entryFor_of_tree (by kernel_rfl)
def owner_seti:Manifest.owners.lookup (String.ofList ['r','o','t','a','r','e','t','i','_','t','e','s'].reverse)=some Manifest.sig_set_iterator:=by kernel_rfl
def YR (a:As):argsOk "set_iterator.__next__" ⟨[a],[]⟩:=by
 kernel_rfl
theorem xi:entryFor table "set.__iter__" = some Builtin.«frozenset.__iter__» :=
 entryFor_alias (id' := "frozenset.__iter__") (by kernel_rfl) rfl (by decide +kernel) (by kernel_rfl)
section
variable {prog:An}{w:Ar}{A:Ao}{E:Ab}{s:Aq}
def gh{q:Source}{Q:Nat->Shared->Prop}(hn:n≠0)(h:∀i d,i < n->Q i { s with drawn:=d }):A1 prog w A (choose q n) Q E s:=by
 intro Γ p C;exact ⟨hn,h _ _ (Nat.mod_lt _ (Nat.pos_of_ne_zero hn))⟩
theorem YD{α:Type}:∀(xs:List α) (i:Nat) (x:α),xs[i]?=some x->(x::xs.eraseIdx i).Perm xs
 | [],i,x,h=>by simp at h
 | y::ys,0,x,h=>by simp at h;subst h;exact .rfl
 | y::ys,i + 1,x,h=>by
  exact (List.Perm.swap y x _).trans ((YD ys i x h).cons y)
theorem Ju{α:Type}:∀(n:Nat) (xs:List α) (s:Aq) (Q:List α->Shared->Prop),xs.length<=n->(∀ys d,ys.Perm xs->Q ys { s with drawn:=d })->A1 prog w A (drawOrder n xs) Q E s
 | 0,xs,s,Q,hn,h=>by
  have:xs=[]:=Qby (by lia);subst this;exact Qad (h [] s.drawn .rfl)
 | n + 1,[],s,Q,hn,h=>by
  exact Qad (h [] s.drawn .rfl)
 | n + 1,y::ys,s,Q,hn,h=>by
  refine Qaa (gh (by simp) fun i d hi=>?_);obtain ⟨x,hx⟩:∃x,(y::ys)[i]?=some x:=⟨_,Qaf hi⟩;rw [hx];refine Qaa (Ju n ((y::ys).eraseIdx i) _ _ (by grind) fun zs d' hz=>?_);exact Qad (h _ d' ((hz.cons x).trans (YD _ i x hx)))
end
theorem Gw{α:Type}(next:Nat->Nat):∀(q k:Nat) (left:List α) (out:Array α),q=left.length->(pickOrder.go next q k left out).toList.Perm (out.toList++left)
 | 0,k,left,out,h=>by
  have:left=[]:=Qby h.symm;subst this;unfold pickOrder.go;simp
 | q + 1,k,left,out,h=>by
  unfold pickOrder.go;have hi:next k % left.length < left.length:=Nat.mod_lt _ (by lia);rw [Qaf hi];refine (Gw next q (k + 1) _ _ (by grind)).trans ?_;rw [Array.toList_push,Qca];exact (YD left _ _ (Qaf hi)).append_left _
def X3(next:Nat->Nat)(xs:Array m):(pickOrder next xs).toList.Perm xs.toList:=by
 unfold pickOrder;simpa using Gw next xs.size 0 xs.toList #[] (by simp)
def Ws(h:Heap)(a:Au)(es:Array (Int × As))(ep:Nat)(t:SetTable):Prop:=∃o,h.get? a=some o/\o.ExactSet/\o.data=.set es ep t/\t.fits es.size=true
def Yv (h:Heap) (I a:Au) (first:As) (i n ep:Nat):Prop:=∃o,h.get? I=some o/\o.cls=.type "set_iterator" /\ o.data=.fields #[first,.int i 0,.ref a,.int n 0,.int ep 0]
section
variable {prog:An}{w:Ar}{A:Ao}{E:Ab}{s:Aq}
def Yv.typeIs  {first:As}  (x:Yv s.heap l a first i n L):s.TypeIs (.ref l) "set_iterator" := let ⟨o,ho,hc,_⟩:=x;⟨o,ho,hc⟩
def Yv.at{h':Heap}{first:As}(x:Yv h l a first i n L)(e:∀o,h.get? l=some o->h'.get? l=some o):Yv h' l a first i n L:=let ⟨o,ho,r⟩:=x;⟨o,e _ ho,r⟩
def Ws.at{h':Heap}{es:Array (Int × As)}{t:SetTable}(x:Ws h a es i t)(e:∀o,h.get? a=some o->h'.get? a=some o):Ws h' a es i t:=let ⟨o,ho,r⟩:=x;⟨o,e _ ho,r⟩
def Xd{Q:Bool->Shared->Prop}(h:Q (jT w) s):A1 prog w A setsByText Q E s:=Qaa (Qhd (Qad h))
def Gx{es:Array (Int × As)}{t:SetTable}{given:Nat}{Q:Option (As × Nat)->Shared->Prop}(hb:jT w=true)(hs:Ws s.heap a es i t)
  (h:Q (((pickOrder (w.params.setOrder a i) es)[given]?).map fun e=>(e.2,0)) s):A1 prog w A (setNext a 0 given i) Q E s:=by
 obtain ⟨o,ho,q,hd,hf⟩:=hs;refine Qaa (Qd9 ho hd hf ?_);refine Qaa (Xd ?_);rw [hb];simp only [↓reduceIte,Qdu,Qbo];refine Qaa (Qaa (Qd9 ho hd hf ?_));refine Qaa (Xd ?_);rw [hb];refine Qaa (Qhd (Qad ?_));exact Qad h
def Jv{es:Array (Int × As)}{t:SetTable}{slot given:Nat}{Q:Option (As × Nat)->Shared->Prop}(hb:jT w=false)(hs:Ws s.heap a es i t)(hl:t.led=true)(hz:es.size<=1)
  (h:Q (match es[SetTable.below t.place slot]?,t.place[SetTable.below t.place slot]? with | some (_,x),some j=>some (x,j + 1) | _,_=>none) s):A1 prog w A (setNext a slot given i) Q E s:=by
 obtain ⟨o,ho,C,hd,hf⟩:=hs;refine Qaa (Qd9 ho hd hf ?_);refine Qaa (Xd ?_);rw [hb];have q:decide (es.size > 1)=false:=by simp;lia
 show wpAny _ _ (if (!t.plain && decide (es.size > 1))=true then _ else _) _ _ _;rw [q,Bool.and_false];refine Qaa (m:=(if (!t.led && !es.isEmpty)=true then unsupported "set:maker-not-led" else pure ())) ?_;rw [hl];exact Qad (Qad h)
def zA{es:Array (Int × As)}{t:SetTable}{e:Int × As}(hs:Ws s.heap a es i t)(he:es[n]?=some e)
  (h:Q e.2 s):A1 prog w A (setNextDrawn a n i) Q E s:=by
 obtain ⟨o,ho,q,hd,hf⟩:=hs;refine Qaa (Qd9 ho hd hf ?_);simp only [Qdu,Qbo,↓reduceIte];rw [he];exact Qad h
def gj{first:As}(x:Yv s.heap l a first i n L){C:Nat} :
  Yv ((s.heap.update l (Obj.mapFields (·.setIfInBounds 0 c))).update l (Obj.mapFields (·.setIfInBounds 1 (.int C 0)))) l a c C n L:=by
 obtain ⟨o,ho,hc,hd⟩:=x;have h1:=Qbh (Obj.mapFields (·.setIfInBounds 0 c)) ho (Qck (Qbn hd _));have q:=Qbn hd (·.setIfInBounds 0 c);refine ⟨_,Qbh _ h1 (Qck (Qbn q _)),(Qev ..).trans ((Qev ..).trans hc),?_⟩;rw [Qbn q];simp
def jU{es:Array (Int × As)}{t:SetTable}{slot:Nat}{x:As}{nx:Nat}{Q:Aa}(q:Yv s.heap l a (.int slot 0) i es.size n)(hs:Ws s.heap a es n t)
  (hN:∀(G:Option (As × Nat)->Shared->Prop) (J:Ab),G (some (x,nx)) s->A1 prog w A.in1 (setNext a slot i n) G J s)
  (O:∀h',Yv h' l a (.int nx 0) (i + 1) es.size n->Heap.SameBut l s.heap h'->Q (some x) { s with heap:=h' }):A1 prog w A (pyNext (.ref l)) Q E s:=by
 obtain ⟨o,ho,hc,hd⟩:=id q;obtain ⟨os,C,I,D,hf⟩:=id hs;refine Qaa (Qde (wpAny_callSpecial?_slot (name:=Str.ofString "__next__") q.typeIs Z7
  (Qbc Z7 q.typeIs YC ?_ (YR _))))
 refine Qaa (Qad ?_);refine Qaa (Qgt ho hd ?_);refine Qaa (Qee C D hf ?_);simp only [Qdu,Qbo,↓reduceIte];refine Qaa (hN _ _ ?_);refine Qaa (Qc5 ho hd (by simp) ?_);have h1:=Qbh (Obj.mapFields (·.setIfInBounds 0 (rawInt (nx:Int)))) ho (Qck (Qbn hd _));refine Qaa (Qc5 (s:={ s with heap:=s.heap.update l (Obj.mapFields (·.setIfInBounds 0 (rawInt (nx:Int)))) }) h1 (Qbn hd _) (by simp) ?_);exact Qad ⟨_,rfl,Qad (O _ (gj q) ((Qb6 ..).trans (Qb6 ..)))⟩
def kK{es:Array (Int × As)}{t:SetTable}{slot:Nat}{Q:Aa}(hh:A.handled=none)(q:Yv s.heap l a (.int slot 0) i es.size n)(hs:Ws s.heap a es n t)
  (hN:∀(G:Option (As × Nat)->Shared->Prop) (J:Ab),G none s->A1 prog w A.in1 (setNext a slot i n) G J s)
  (O:∀h',Heap.ExtBut l s.heap h'->Q none { s with heap:=h' }):A1 prog w A (pyNext (.ref l)) Q E s:=by
 obtain ⟨o,ho,hc,hd⟩:=id q;obtain ⟨os,C,I,D,hf⟩:=id hs;refine Qaa (Qde (wpAny_callSpecial?_slot (name:=Str.ofString "__next__") q.typeIs Z7
  (Qbc Z7 q.typeIs YC ?_ (YR _))))
 refine Qaa (Qad ?_);refine Qaa (Qgt ho hd ?_);refine Qaa (Qee C D hf ?_);simp only [Qdu,Qbo,↓reduceIte];refine Qaa (hN _ _ ?_);refine Qaa (Qc5 ho hd (by simp) ?_);refine Qaa ?_;refine Qaa (Qa9 ?_ (by size_fits));refine Qaa (m:=firstArgMember _ _) (Qcj (a:=Value.none) (by first | rfl | (rfl)) ?_);refine Qa9 ?_ (by size_fits);refine Qaa (Qg6 ?_);rw [show A.in1.handled=none from hh];refine Qaa (Qad (Qhr ?_));refine Qaa (Qda (T := "StopIteration") (b:=true) ⟨_,Qak _ rfl,rfl⟩ Qfl ?_);exact Qad (O _ (((Qb6 ..).extBut.push _).push _))
def gm{p:Au}{es:Array (Int × As)}{t:SetTable}{ps:Aj}{pl:Nat}{e:Int × As}{Q:Aa}(q:Yv s.heap l a (.ref p) i es.size n)(hs:Ws s.heap a es n t)
  (hp:s.heap.get? p=some U) (G:U.data=.seq (ps.map fun (k:Nat)=>rawInt k).toArray L) (hi:ps[i]?=some pl) (he:es[pl]?=some e)
  (J:∀h',Yv h' l a (.ref p) (i + 1) es.size n->Heap.SameBut l s.heap h'->Q (some e.2) { s with heap:=h' }):A1 prog w A (pyNext (.ref l)) Q E s:=by
 obtain ⟨o,ho,hc,hd⟩:=id q;obtain ⟨os,C,I,D,hf⟩:=id hs;refine Qaa (Qde (wpAny_callSpecial?_slot (name:=Str.ofString "__next__") q.typeIs Z7
  (Qbc Z7 q.typeIs YC ?_ (YR _))))
 refine Qaa (Qad ?_);refine Qaa (Qgt ho hd ?_);refine Qaa (Qee C D hf ?_);simp only [Qdu,Qbo,↓reduceIte];refine Qaa (Qbw hp G ?_);dsimp only;rw [show ((ps.map fun (k:Nat)=>rawInt k).toArray)[(i:Int).toNat]?=some (rawInt pl) by simp [hi]];simp only [rawInt,Qat];refine Qaa (zA hs he ?_);refine Qaa (Qc5 ho hd (by simp) ?_);refine Qad ⟨_,rfl,Qad (J _ ⟨_,Qbh _ ho (Qck (Qbn hd _)),(Qev ..).trans hc,?_⟩ (Qb6 ..))⟩;rw [Qbn hd];simp
def Zaj{p:Au}{es:Array (Int × As)}{t:SetTable}{ps:Aj}{Q:Aa}(hh:A.handled=none)(q:Yv s.heap l a (.ref p) i es.size n)(hs:Ws s.heap a es n t)
  (hp:s.heap.get? p=some U) (G:U.data=.seq (ps.map fun (k:Nat)=>rawInt k).toArray L) (hi:ps[i]?=none)
  (J:∀h',Heap.ExtBut l s.heap h'->Q none { s with heap:=h' }):A1 prog w A (pyNext (.ref l)) Q E s:=by
 obtain ⟨o,ho,hc,hd⟩:=id q;obtain ⟨os,C,I,D,hf⟩:=id hs;refine Qaa (Qde (wpAny_callSpecial?_slot (name:=Str.ofString "__next__") q.typeIs Z7
  (Qbc Z7 q.typeIs YC ?_ (YR _))))
 refine Qaa (Qad ?_);refine Qaa (Qgt ho hd ?_);refine Qaa (Qee C D hf ?_);simp only [Qdu,Qbo,↓reduceIte];refine Qaa (Qbw hp G ?_);dsimp only;rw [show ((ps.map fun (k:Nat)=>rawInt k).toArray)[(i:Int).toNat]?=none by simp;simpa using hi];refine Qaa (Qc5 ho hd (by simp) ?_);have h1:=Qbh (Obj.mapFields (·.setIfInBounds 0 (rawInt 0))) ho (Qck (Qbn hd _));refine Qaa (Qc5 (s:={ s with heap:=s.heap.update l (Obj.mapFields (·.setIfInBounds 0 (rawInt 0))) }) h1 (Qbn hd _) (by simp) ?_);refine Qaa ?_;refine Qaa (Qa9 ?_ (by size_fits));refine Qaa (m:=firstArgMember _ _) (Qcj (a:=Value.none) (by first | rfl | (rfl)) ?_);refine Qa9 ?_ (by size_fits);refine Qaa (Qg6 ?_);rw [show A.in1.handled=none from hh];refine Qaa (Qad (Qhr ?_));refine Qaa (Qda (T := "StopIteration") (b:=true) ⟨_,Qak _ rfl,rfl⟩ Qfl ?_);exact Qad (J _ ((((Qb6 ..).trans (Qb6 ..)).extBut.push _).push _))
end
theorem WO:Slot "set_iterator" "__iter__" "set_iterator.__iter__" :=
 .of (owner := "set_iterator") (n := "__iter__") (by rw [Qhi,Qfn];kernel_rfl) (by decide +kernel) (by decide +kernel) (by decide +kernel)
  (by first | exact .inl (by decide +kernel) | exact .inr (by decide +kernel)) (by rw [Qgr];kernel_rfl)
theorem qo:entryFor table "set_iterator.__iter__" = some Builtin.«dict_keyiterator.__iter__» :=
 entryFor_alias (id' := "dict_keyiterator.__iter__") (by kernel_rfl) rfl (by decide +kernel) (by kernel_rfl)
def xj (a:As):argsOk "set_iterator.__iter__" ⟨[a],[]⟩:=by
 kernel_rfl
section
variable {prog:An}{w:Ar}{A:Ao}{E:Ab}{s:Aq}
def qp{first:As}(q:Yv s.heap l a first i n L)(h:Q (.ref l) s):A1 prog w A (pyIter (.ref l)) Q E s:=by
 refine Qfk q.typeIs WO (Qbc WO q.typeIs qo ?_ (xj _));exact Qad ⟨_,rfl,"set_iterator",_,q.typeIs,Z7.lookup,h⟩
def Txs(q:List (Int × As))(i:Nat)(v:As):Prop:=∃e,q[i]?=some e/\v=e.2
def gn{es:Array (Int × As)}{t:SetTable}(hb:jT w=true)(hh:A.handled=none)(I:a≠l) :
  Walks prog w A l [l,a] [l] es.size (Txs (pickOrder (w.params.setOrder a n) es).toList) (fun i h=>Yv h l a (.int (0:Nat) 0) i es.size n/\Ws h a es n t) where
 sub:=fun b hb=>by simp at hb;simp [hb]
 frame:=fun _ _ _ st hk=>⟨st.1.at fun o e=>hk l (by simp) o e,st.2.at fun o e=>hk a (by simp) o e⟩
 item:=fun i s Q E hi st D=>by
  have hsz:(pickOrder (w.params.setOrder a n) es).size=es.size:=by simpa using (X3 (w.params.setOrder a n) es).length_eq
  obtain ⟨e,he⟩:∃e,(pickOrder (w.params.setOrder a n) es)[i]?=some e:=⟨_,Qd6 (by lia)⟩;refine jU st.1 st.2 (x:=e.2) (nx:=0) (fun Y O q=>Gx hb st.2 (by rw [he];exact q)) fun h' G C=>?_;exact D e.2 h' s.toks ⟨e,by simpa using he,rfl⟩ ⟨G,st.2.at fun o e=>C.extBut a o I e⟩ fun b o hb e=>C.extBut b o (fun h=>hb (by simp [h])) e
 done:=fun s Q E st D=>by
  have hsz:(pickOrder (w.params.setOrder a n) es).size=es.size:=by simpa using (X3 (w.params.setOrder a n) es).length_eq
  exact kK hh st.1 st.2 (fun Y O q=>Gx hb st.2 (by grind)) fun h' J=>D h' s.toks fun b o hb e=>J b o (fun h=>hb (by simp [h])) e
 self:=fun _ _ _ _ st D=>qp st.1 D
theorem vd{p:Au}{es:Array (Int × As)}{t:SetTable}{ps:Aj}(C:ps.Perm (List.range es.size))(hh:A.handled=none)(hne:a≠l)(hnp:p≠l) :
  Walks prog w A l [l,a,p] [l] es.size (Txs (ps.filterMap (es[·]?))) (fun i h=>Yv h l a (.ref p) i es.size n/\Ws h a es n t/\∃D np,h.get? p=some D/\D.data=.seq (ps.map fun (k:Nat)=>rawInt k).toArray np) where
 sub:=fun b hb=>by simp at hb;simp [hb]
 frame:=fun _ _ _ st hk=>⟨st.1.at fun o e=>hk l (by simp) o e,st.2.1.at fun o e=>hk a (by simp) o e,let ⟨D,np,h1,h2⟩:=st.2.2;⟨D,np,hk p (by simp) D h1,h2⟩⟩
 item:=fun i s Q E hi st O=>by
  obtain ⟨D,np,h1,h2⟩:=st.2.2;have G:ps.length=es.size:=by simpa using C.length_eq
  have q:∀k∈ps,k < es.size:=fun k hk=>by simpa using C.mem_iff.mp hk
  have J:ps[i]?=some (ps[i]'(by lia)):=Qaf _;have hk:ps[i]'(by lia) < es.size:=q _ (Qc9 _);have Z:ps.filterMap (es[·]?)=ps.map (fun k=>es.getD k (0,.none)):=by
   clear J C G hk hi h1 h2 st O
   induction ps with
   | nil=>rfl
   | cons k ks ih =>
    have:=q k (by simp);rw [List.filterMap_cons_some (b:=es.getD k (0,.none)) (by simp [Array.getD,this]),ih fun k hk=>q k (by simp [hk]),Qbu]
  refine gm st.1 st.2.1 h1 h2 J (Qd6 hk) fun h' Y I=>?_;refine O _ h' s.toks ⟨_,?_,rfl⟩ ⟨Y,st.2.1.at fun o e=>I.extBut a o hne e,D,np,I.extBut p D hnp h1,h2⟩ fun b o hb e=>I.extBut b o (fun h=>hb (by simp [h])) e;rw [Z,Qaj,J];simp [Array.getD,hk]
 done:=fun s Q E st O=>by
  obtain ⟨D,np,h1,h2⟩:=st.2.2;have G:ps.length=es.size:=by simpa using C.length_eq
  exact Zaj hh st.1 st.2.1 h1 h2 (by simp;lia) fun h' he'=>O h' s.toks fun b o hb e=>he' b o (fun h=>hb (by simp [h])) e
 self:=fun _ _ _ _ st O=>qp st.1 O
def jV(j:Nat):SetTable.below #[j] 0=0/\SetTable.below #[j] (j + 1)=1:=by
 constructor <;> simp [SetTable.below,SetTable.below.go]
def ve{es:Array (Int × As)}{t:SetTable}(hb:jT w=false)(hl:t.led=true)(hz:es.size<=1)(hh:A.handled=none)(Y:a≠l) :
  Walks prog w A l [l,a] [l] es.size (Txs es.toList) (fun i h=>∃slot:Nat,(i=0->slot=0)/\(i=1->∃j,t.place=#[j]/\slot=j + 1)/\Yv h l a (.int slot 0) i es.size n/\Ws h a es n t) where
 sub:=fun b hb=>by simp at hb;simp [hb]
 frame:=fun _ _ _ st hk=>by
  obtain ⟨slot,G,D,h1,h2⟩:=st;exact ⟨slot,G,D,h1.at fun o e=>hk l (by simp) o e,h2.at fun o e=>hk a (by simp) o e⟩
 item:=fun i s Q E hi st I=>by
  obtain ⟨slot,G,D,h1,h2⟩:=st;have hi0:i=0:=by lia
  subst hi0;obtain rfl:=G rfl;have hps:t.place.size=1:=by
   obtain ⟨o,ho,hex,hd,hf⟩:=h2;simp only [SetTable.fits,Qb8,Qgz,Qg0] at hf;lia
  obtain ⟨j,O⟩:∃j,t.place=#[j]:=⟨t.place[0],by grind⟩;obtain ⟨e,he⟩:∃e,es[0]?=some e:=⟨_,Qd6 (by lia)⟩;refine jU h1 h2 (x:=e.2) (nx:=j + 1) (fun Q' E' q=>Jv hb h2 hl hz (by rw [O,(jV j).1,he];exact q)) fun h' J C=>?_;exact I e.2 h' s.toks ⟨e,by simpa using he,rfl⟩ ⟨j + 1,fun z=>absurd z (by lia),fun _=>⟨j,O,rfl⟩,J,h2.at fun o e=>C.extBut a o Y e⟩ fun b o hb e=>C.extBut b o (fun h=>hb (by simp [h])) e
 done:=fun s Q E st I=>by
  obtain ⟨slot,G,D,h1,h2⟩:=st;refine kK hh h1 h2 (fun Q' E' q=>Jv hb h2 hl hz ?_) fun h' Z=>I h' s.toks fun b o hb e=>Z b o (fun h=>hb (by simp [h])) e
  by_cases h0:es.size=0
  ·grind
  ·obtain ⟨j,O,rfl⟩:=D (by lia)
   rw [O,(jV j).2,Array.getElem?_eq_none (by lia)];exact q
 self:=fun _ _ _ _ st I=>by
  obtain ⟨slot,G,D,h1,h2⟩:=st;exact qp h1 I
def vf{es:Array (Int × As)}{t:SetTable}{Q:Bool->Shared->Prop}(hs:Ws s.heap a es i t)(h:Q (!jT w && (!t.plain && decide (es.size > 1))) s):A1 prog w A (setDrawn a) Q E s:=by
 obtain ⟨o,ho,q,hd,hf⟩:=hs;refine Qaa (Qd9 ho hd hf ?_);refine Qaa (Xd ?_);exact Qad h
structure SetW(prog:An)(w:Ar)(h h':Heap)(I a:Au)(es:Array (Int × As))(ord:List (Int × As))(fp:List Au)(St:Nat->Heap->Prop):Prop where
 old:∀b o,h.get? b=some o->h'.get? b=some o
 new:h.objs.size<=I
 perm:ord.Perm es.toList
 lt:∀b∈fp,b < h'.objs.size
 mem:I∈fp
 st:St 0 h'
 walks:∀A:Ao,A.handled=none->Walks prog w A I fp [I] es.size (Txs ord) St
 apart:∀b∈fp,b=a\/h.objs.size<=b
def Zdz{es:Array (Int × As)}{t:SetTable}(hs:Ws s.heap a es n t)(hl:t.led=!jT w)(hp:es.size=0\/t.plain=false)(hz:es.size<=sizeLine)
  (Y:∀h' d I ord fp St,SetW prog w s.heap h' I a es ord fp St->Q (.ref I) { s with heap:=h',drawn:=d }):A1 prog w A (pyIter (.ref a)) Q E s:=by
 obtain ⟨o,ho,hex,hd,hf⟩:=id hs;have hT:s.TypeIs (.ref a) "set" := ⟨o,ho,hex.1⟩;have q:=Qap ho;refine Qfk hT F.slot_set_iter (Qbc F.slot_set_iter hT xi ?_ (F.args_set_iter_1 _));unfold Builtin.«frozenset.__iter__» Builtin.Frozenset.slot0 slotArgs;simp only [List.isEmpty_nil,Bool.not_true,Qbo,↓reduceIte,bind_assoc,Qfc,Qdu];refine Qaa (Qad ?_);refine Qaa (Qad ?_);refine Qaa (Qaa (Qee ho hd hf (Qad ?_)));refine Qaa (vf hs ?_);cases hb:jT w with
 | true =>
  refine Qaa (Qad ?_);refine Qaa (Qg1 ho hd hf ?_);have hg:(s.heap.push { cls:=.type "set_iterator",data:=.fields #[rawInt 0,rawInt 0,.ref a,rawInt es.size,rawInt n] }).get? s.heap.objs.size=some { cls:=.type "set_iterator",data:=.fields #[rawInt 0,rawInt 0,.ref a,rawInt es.size,rawInt n] }:=Qak _ rfl;refine Qaa (Qa9 (Qad ⟨_,rfl,"set_iterator",_,⟨_,hg,rfl⟩,Z7.lookup,?_⟩));refine Y _ s.drawn s.heap.objs.size _ _ _ ⟨fun b o e=>Qab _ e,Qag _,X3 (w.params.setOrder a n) es,fun b hm=>?_,Qaq,⟨⟨_,hg,rfl,rfl⟩,hs.at fun o e=>Qab _ e⟩,fun A' hh=>gn hb hh (Qbe q),fun b hm=>(Qan.mp hm).elim (fun e=>.inr (e ▸ Qag _)) fun hm=>.inl (Qal.mp hm)⟩;rw [Qbv];rcases Qan.mp hm with rfl | hm
  ·exact Qco _
  ·rw [Qal.mp hm];exact Qcq q
 | false =>
  rw [hb] at hl
  by_cases Z:es.size > 1
  ·have J:t.plain=false:=hp.resolve_left (by lia)
   rw [J,Qao Z];refine Qaa (Ju _ _ _ _ (Qhh Qay) fun ps d G=>?_);have hpn:ps.length=es.size:=by simpa using G.length_eq
   refine Qaa (Qgs ?_ (by rw [Qac];lia));refine Qaa (Qg1 (Qab _ ho) hd hf ?_);generalize hH:s.heap.push { cls:=.type "tuple",data:=.seq (ps.map fun (i:Nat)=>rawInt i).toArray }=H;have C:H.objs.size=s.heap.objs.size + 1:=by rw [<-hH,Qbv]
   have D:∀b o,s.heap.get? b=some o->H.get? b=some o:=fun b o e=>hH ▸ Qab _ e;have htp:H.get? s.heap.objs.size=some { cls:=.type "tuple",data:=.seq (ps.map fun (i:Nat)=>rawInt i).toArray }:=hH ▸ Qak _ rfl;have hg:(H.push { cls:=.type "set_iterator",data:=.fields #[.ref s.heap.objs.size,rawInt 0,.ref a,rawInt es.size,rawInt n] }).get? H.objs.size=some { cls:=.type "set_iterator",data:=.fields #[.ref s.heap.objs.size,rawInt 0,.ref a,rawInt es.size,rawInt n] }:=Qak _ rfl;refine Qaa (Qa9 (s:={ s with heap:=H,drawn:=d }) (Qad ⟨_,rfl,"set_iterator",_,⟨_,hg,rfl⟩,Z7.lookup,?_⟩));refine Y _ d H.objs.size _ _ _ ⟨fun b o e=>Qab _ (D b o e),by rw [C];exact Qdn _,?_,fun b hm=>?_,Qaq,⟨⟨_,hg,rfl,rfl⟩,hs.at fun o e=>Qab _ (D a o e),_,_,Qab _ htp,rfl⟩,fun A' hh=>vd (p:=s.heap.objs.size) G hh (fun e=>by rw [e,C] at q;exact absurd q (Qe4.mpr (Qdn _))) (fun e=>by rw [C] at e;exact absurd e (Qbe (Qco _))),fun b hm=>(Qan.mp hm).elim (fun e=>.inr (by rw [e,C];exact Qdn _)) fun hm=>(Qan.mp hm).elim .inl fun hm=>.inr (by rw [Qal.mp hm];exact Qag _)⟩
   ·exact (G.filterMap _).trans (by rw [filterMap_getElem?_range])
   ·rw [Qbv]
    rcases Qan.mp hm with rfl | hm
    ·exact Qco _
    ·rcases Qan.mp hm with rfl | hm
     ·exact Qcq (C ▸ Qcq q)
     ·rw [Qal.mp hm,C];exact Qcq (Qco _)
  ·have O:decide (es.size > 1)=false:=by simp;lia
   rw [O,Bool.and_false];refine Qaa (Qad ?_);refine Qaa (Qg1 ho hd hf ?_);have hg:(s.heap.push { cls:=.type "set_iterator",data:=.fields #[rawInt 0,rawInt 0,.ref a,rawInt es.size,rawInt n] }).get? s.heap.objs.size=some { cls:=.type "set_iterator",data:=.fields #[rawInt 0,rawInt 0,.ref a,rawInt es.size,rawInt n] }:=Qak _ rfl;refine Qaa (Qa9 (Qad ⟨_,rfl,"set_iterator",_,⟨_,hg,rfl⟩,Z7.lookup,?_⟩));refine Y _ s.drawn s.heap.objs.size _ _ _ ⟨fun b o e=>Qab _ e,Qag _,.rfl,fun b hm=>?_,Qaq,⟨0,fun _=>rfl,fun z=>absurd z (by lia),⟨_,hg,rfl,rfl⟩,hs.at fun o e=>Qab _ e⟩,fun A' hh=>ve hb (by simpa using hl) (by lia) hh (Qbe q),fun b hm=>(Qan.mp hm).elim (fun e=>.inr (e ▸ Qag _)) fun hm=>.inl (Qal.mp hm)⟩;rw [Qbv];rcases Qan.mp hm with rfl | hm
   ·exact Qco _
   ·rw [Qal.mp hm];exact Qcq q
def vg{es:Array (Int × As)}{t:SetTable}{Q:Ag->Shared->Prop}(hh:A.handled=none)(hs:Ws s.heap a es n t)(hl:t.led=!jT w)(hp:es.size=0\/t.plain=false)(hz:es.size<=sizeLine)
  (hQ:∀(h':Heap) (d:Drawn) (tk:Nat) (C:List (Int × As)),(∀b o,s.heap.get? b=some o->h'.get? b=some o)->s.heap.objs.size<=h'.objs.size->C.Perm es.toList->Q (C.map (·.2)) { s with heap:=h',drawn:=d,toks:=tk }):A1 prog w A (collect (.ref a)) Q E s:=by
 obtain ⟨o,ho,hex,hd,hf⟩:=id hs;have hlt:=Qap ho;unfold collect;refine Qaa (wpAny_runValue (Qcf F.entry_proto_collect ?_));rw [Qc7 F.plain_proto_collect _];show wpAny _ A.in1 (newList [] >>= fun l=>again (.builtin "list.__iadd__" ⟨[l,.ref a],[]⟩)) _ _ s;refine Qaa (Qa9 ?_);refine Qad ⟨Qdf Qg2 _,Qcf F.entry_list_iadd ?_⟩;rw [Qc7 Qg2 _];generalize hH:s.heap.push { cls:=.type "list",data:=.seq ([]:Ag).toArray }=H;have hHs:H.objs.size=s.heap.objs.size + 1:=by rw [<-hH,Qbv]
 have q:∀b o,s.heap.get? b=some o->H.get? b=some o:=fun b o e=>hH ▸ Qab _ e;have hS:H.get? s.heap.objs.size=some { cls:=.type "list",data:=.seq ([]:Ag).toArray }:=hH ▸ Qak _ rfl;have hs1:Ws H a es n t:=hs.at fun o e=>q a o e;have hT:Shared.TypeIs { s with heap:=H } (.ref a) "set" := ⟨o,q a o ho,hex.1⟩;show wpAny _ A.in1 (Builtin.List.listExtendWith (.ref s.heap.objs.size) (.ref a) (.ref s.heap.objs.size)) _ _ _;unfold Builtin.List.listExtendWith;refine Qaa (Qel hT ?_);have h1:Builtin.List.listSameRef (.ref s.heap.objs.size) (.ref a)=false:=by simp [Builtin.List.listSameRef];exact Qeb hlt
 have h2:(Value.type "set" == Value.type "list")=false:=by decide
 have h3:(Value.type "set" == Value.type "tuple")=false:=by decide
 simp only [h1,h2,h3,Qg8,Qbo,Qf4];refine Qaa (Zdz (s:={ s with heap:=H }) hs1 hl hp hz fun h1 d I C fp St W=>?_);refine Qaa (Qcp ?_);unfold Builtin.List.listLengthHint;have O:Shared.TypeIs { s with heap:=h1,drawn:=d } (.ref a) "set" := ⟨o,W.old a o (q a o ho),hex.1⟩;refine Qaa (Qdj O F.slot_set_len.lookup ?_)
 wp_delta
 refine Qaa (Qda (b:=true) O (by rw [Qgr];kernel_rfl) ?_);show wpAny _ A.in1 (typeOf (Value.ref a) >>= _) _ _ _;refine Qaa (Qel O ?_);refine Qad ?_;show wpAny _ A.in1 (rule "list.extend.makes-room" >>= fun _=>Builtin.List.listTouch (.ref s.heap.objs.size) >>= fun _ =>
  again (.builtin "list.extend.loop" ⟨[.ref s.heap.objs.size,.ref I,.ref s.heap.objs.size],[]⟩)) _ _ _
 refine Qaa (Qc1 ?_);have hnf:s.heap.objs.size∉fp:=fun hm=>by
  rcases W.apart _ hm with e | e
  ·exact absurd hlt (e ▸ Qbz _)
  ·exact absurd e (by show ¬H.objs.size<=_;rw [hHs];exact Nat.not_succ_le_self _)
 have hS1:=W.old _ _ hS;refine Qaa ?_;show wpAny _ A.in1 (updateSeq s.heap.objs.size (·.push .none) >>= fun _=>updateSeq s.heap.objs.size (·.pop)) _ _ _;refine Qaa (Qdk (s:={ s with heap:=h1,drawn:=d }) hS1 rfl ?_);have hS2:=Qbh (Obj.mapSeq (·.push Value.none)) hS1 rfl;refine Qdk (s:={ s with heap:=h1.update s.heap.objs.size (Obj.mapSeq (·.push Value.none)),drawn:=d }) hS2 rfl ?_;have hS3:=Qbh (Obj.mapSeq (·.pop)) hS2 rfl;have oth:∀b o,b≠s.heap.objs.size->h1.get? b=some o ->
   ((h1.update s.heap.objs.size (Obj.mapSeq (·.push Value.none))).update s.heap.objs.size (Obj.mapSeq (·.pop))).get? b=some o :=
  fun b o hb e=>(Qbr _ _ (Qd5 hb)).trans ((Qbr _ _ (Qd5 hb)).trans e)
 refine Qad ⟨Qdf Qef _,codeAny_extend_loopS (W.walks A.in1 hh).toS hz _ hnf _ es.size 0 _ _ _ rfl (Qba _)
  ((W.walks A hh).frame 0 _ _ W.st fun b hb o e=>oth b o (fun h=>hnf (h ▸ hb)) e) hS3 (ItemsOf.nil _) fun s' G c' hm Z J=>?_⟩
 show wpAny _ A (load s.heap.objs.size >>= _) _ _ s';refine Qaa (wpAny_load Z ?_);have Y:G.toList=C.map (·.2):=by
  have hol:C.length=es.size:=by simpa using W.perm.length_eq
  apply List.ext_getElem
  ·rw [Qac,Qbs,J.1,hol]
  ·intro i i1 i2
   rw [Qbs] at i1;obtain ⟨e,he,hv⟩:=J.2 i G[i] (Qd6 i1);rw [Array.getElem_toList,hv,List.getElem_map];rw [Qac] at i2;rw [Qaf i2] at he;rw [Option.some.inj he]
 have eg:s'.gens=s.gens:=hm.gens;have ed:s'.drawn=d:=hm.drawn;have eo:s'.os=s.os:=hm.os;refine Qad ?_;have:=hQ s'.heap s'.drawn s'.toks C (fun b ob e=>?_) ?_ W.perm
 ·rw [<-Y,<-eg,<-eo] at this;exact this
 ·have D:=Qap e
  refine hm.heap b ob (fun hb=>?_) (oth b ob (Qbe D) (W.old b ob (q b ob e)));rcases Qan.mp hb with h | h
  ·exact absurd D (h ▸ Qbz _)
  ·rw [Qal.mp h] at D
   have:=W.new;exact absurd D (Qe4.mpr (Qa8 (by rw [hHs];exact Qdn _) this))
 ·exact Qav (Qap Z)
theorem Jw:∀{l:List (Int × As)},ElemsOf (PySem.strKind prog w) l->StrsAre (l.map (·.2)) (l.map fun e=>tx e.2)
 | [],_=>.nil
 | e::l,h=>by
  obtain ⟨_,t,q⟩:=kJ h (Qaq);rw [Qbu,Qbu,q];exact .cons _ t (Jw h.tail)
def gp{led:Bool}{S:Ai}(hh:A.handled=none)(hS:GB prog w s.heap a (!jT w) S)(h64:S.length < 64)
  (h:∀(h':Heap) (d:Drawn) (tk:Nat) (l:Au) (out:Ah) (J:Ai) (e:Nat),StrsAre out.toList J->J.Perm S->sortedS J=true->(∀b o,s.heap.get? b=some o->h'.get? b=some o)->s.heap.objs.size<=l ->
   h'.get? l=some (seqObj "list" out e)->Q (.ref l) { s with heap:=h',drawn:=d,toks:=tk }) :
  A1 prog w A (call (.builtin "sorted") [.ref a]) Q E s:=by
 obtain ⟨o,es,ep,t,ho,hex,hd,Z,hp,hf,hl,hpl⟩:=hS;have hn:es.size=S.length:=by rw [<-hp.length_eq,Qac,Qbs]
 refine Calls.call_function_entry kind_sorted plain_sorted entry_sorted (args_sorted1 _) ?_;refine Qaa (m:=checkCount "sorted" 1 1 _) (Qad ?_);refine Qaa (vg (A:=A.in1) hh ⟨o,ho,hex,hd,hf⟩ hl hpl (Qgx (by unfold scanBound;lia)) fun h1 d tk C O hsz q=>?_);have I:(C.map (·.2)).length < 64:=by rw [Qac,q.length_eq,Qbs];lia
 have D:StrsAre (C.map (·.2)) (C.map fun e=>tx e.2):=Jw (Z.perm q);have hpS:(C.map fun e=>tx e.2).Perm S:=(q.map _).trans hp;generalize hV:C.map (·.2)=vs at I D ⊢;refine Qaa (wpAny_newList ?_);have G:(h1.push (seqObj "list" vs.toArray 0)).get? h1.objs.size=some (seqObj "list" vs.toArray 0):=Qak _ rfl;refine Qaa (Qcp (Qbc slot_list_sort ⟨_,G,rfl⟩ entry_list_sort (list_sort_treeK strKind_oneLt G D.keysOf (fun v₁ v₂ rest e=>keyKind_strs (by rw [<-e];exact D)) I fun st' a1 a2=>⟨_,rfl,?_⟩) (args_list_sort _)));obtain ⟨J,b1,b2,b3⟩:=sorted_out_str D a1 a2;obtain ⟨e,he⟩:=sortedHeap_at (vs:=vs) (out:=(arrOf st').map (·.2)) (n:=0) G;refine Qad ⟨_,rfl,h _ d tk h1.objs.size _ J e b1 (b2.trans hpS) b3 (fun b ob hb=>?_) hsz he⟩;have Y:=Qbj (Qap hb) hsz;rw [sortedHeap_old (Qbe Y) (by rw [size_push'];exact Qcq Y)];exact Qab _ (O b ob hb)
end
def TxO(P:An)(w:Ar)(a:Au)(S:Ai):HO:=.ext fun h=>GB P w h a (!jT w) S
theorem Inv.drew(I:Inv X z f H s)(d:Drawn):Inv X z f H { s with drawn:=d } :=
 ⟨I.ok,I.os,I.bare,I.base,I.loc,I.cell,I.free,I.freeC,I.pin,I.hok,I.len⟩
def Zak (hc:X.calm=true):Xb X (.type "set") (fun xs H Q=>∃(p:Au) (C:Ai),xs=[.ref p]/\SqL X.K H p (C.map V.str)/\C.length < 4000 /\
  ∀a:Au,H a=none->Q (.ref a) (upd H a (TxO X.prog X.w a (XO C)))):=by
 intro pins s σ H xs us Q I r h;obtain ⟨p,C,rfl,O,hn,q⟩:=h;obtain ⟨u,rfl,rx⟩:=vals1 r;cases rx;obtain ⟨Y,G,pl,hz⟩:=I.list O;have D:=G.length;rw [Qac] at D;refine xh (I.ok.hd hc) pl.isList (by simpa using JT G) (by rw [Qbb];unfold scanBound;lia) fun h' tk Z J hk=>?_;refine ⟨.ref s.heap.objs.size,_,I.laid (t':=tk) (o:=TxO X.prog X.w s.heap.objs.size (XO C)) (fun b o e=>hk b o (Qap e) e) (Qag _) ?_,rfl,q _ (I.hok.fresh (Qag _))⟩;obtain ⟨o,es,ep,t,ho,rest⟩:=id J;exact ⟨J,⟨o,ho⟩,fun h1 h2 x k=>JU x k⟩
def zB (hc:X.calm=true):Xb X (.builtin "sorted") (fun xs H Q=>∃(a:Au) (S:Ai),xs=[.ref a]/\H a=some (TxO X.prog X.w a S)/\S.length < 64 /\
  ∀(l:Au) (ms:Ai),H l=none->ms.Perm S->sortedS ms=true->Q (.ref l) (upd H l (.lst (ms.map V.str)))):=by
 intro pins s σ H xs O Q I r h;obtain ⟨a,S,rfl,D,hn,q⟩:=h;obtain ⟨u,rfl,J⟩:=vals1 r;cases J;have G:GB X.prog X.w s.heap a (!jT X.w) S:=(I.hok a _ D).1;refine gp (led:=true) (I.ok.hd hc) G hn fun h' d tk l out C e hi hp hs hk hl he=>?_;refine ⟨.ref l,_,(I.drew d).laid (t':=tk) (o:=.lst (C.map V.str)) hk hl ?_,rfl,q _ C (I.hok.fresh hl) hp hs⟩;have hm:C.length=S.length:=hp.length_eq;exact ⟨by rw [Qac];exact Qav (Zo (by lia)),out.toList,e,Wq hi,by simpa using he⟩
def Zhl{S:Ai}{y:Str}:y∈ins S x↔y∈S\/y=x:=by
 unfold ins;split
 ·grind
 ·simp
def Zal{S:Ai}(h:S.Nodup):(ins S x).Nodup:=by
 unfold ins;split
 ·exact h
 ·grind
theorem zC:∀(ys S:Ai),S.Nodup->(ys.foldl ins S).Nodup/\∀y,y∈ys.foldl ins S↔y∈S\/y∈ys
 | [],S,h=>⟨h,fun y=>by simp⟩
 | x::r,S,h=>by
  obtain ⟨a,b⟩:=zC r (ins S x) (Zal h);refine ⟨a,fun y=>(b y).trans ?_⟩;rw [Zhl,Qan,or_assoc]
def vh(ys:Ai):(XO ys).Nodup:=(zC ys [] Qdg).1
theorem X4:fillsNumberSlot (.type "tuple") "mul" = pure false :=
 PySem.fillsNumberSlot_seq (id := "tuple.__mul__") (r:=some (.builtin "tuple.__rmul__")) Qfu.lookup (by decide +kernel) F.slot_tuple_rmul.lookup (by decide +kernel)
def JV:seqRepeat? (.type "tuple")=pure (some (.builtin "tuple.__mul__")):=by
 rfl
section
variable {prog:An}{w:Ar}{A:Ao}{E:Ab}{s:Aq}
def zD {a:Int} {t:Tok}  {o:Obj}   {R:Ab} (ho:s.heap.get? l=some o) (hc:o.cls=.type "tuple") (hd:o.data=.seq D n) (h:R .notImplemented s) :
  wpAny (model prog w) A (Builtin.«int.__rmul__» ⟨[.int a t,.ref l],[]⟩) (fun fin s'=>∃r,fin=.done (.ret r)/\R r s') E s:=by
 obtain ⟨cls,dict,data,slots⟩:=o;cases hc;cases hd;obtain ⟨hp,g,d,tk,os⟩:=s
 wp_walk
 exact ⟨_,rfl,h⟩
def Zhm{k:Int}{t:Tok}{R:Ab}(hp:IsTup s.heap l J.toArray)(h2:2<=k)(h3:k < 2 ^ 63)(Y:J≠[])(hz:J.length * k.toNat<=sizeLine)
  (h:R (.ref s.heap.objs.size) { s with heap:=s.heap.push { cls:=.type "tuple",data:=.seq (List.replicate k.toNat J).flatten.toArray } }) :
  A1 prog w A (Builtin.«tuple.__mul__» ⟨[.ref l,.int k t],[]⟩) (fun fin s'=>∃r,fin=.done (.ret r)/\R r s') E s:=by
 obtain ⟨o,ho,hc,n,hd⟩:=hp;have O:((J.toArray.size:Nat):Int) * k<=(sizeLine:Int):=by
  grind
 have C:¬((J.toArray.size:Nat):Int) * k > (2 ^ 63 - 1) / 8:=by
  have:(sizeLine:Int)<=(2 ^ 63 - 1) / 8:=by decide
  lia
 have q:Builtin.Tuple.tupleTooMany (((J.toArray.size:Nat):Int) * k)=false:=by
  unfold Builtin.Tuple.tupleTooMany;simp;lia
 have he:J.toArray.isEmpty=false:=by grind
 have D:List.foldl (fun Z x2=>Z++x2) #[] (List.replicate k.toNat J.toArray)=(List.replicate k.toNat J).flatten.toArray:=by
  have:=foldl_rep J k.toNat [];exact this
 refine Qaa (Qcj (a:=k) rfl ?_);rw [Qaw (by simp;lia)];refine Qaa (Qaa (Qbw ho hd (Qad ?_)));have G:(k == 1)=false:=by simp;lia
 have I:decide (k<=0)=false:=by simp;lia
 simp only [he,G,I,Qg8,Qbo,↓reduceIte,C,q,D];refine Qaa (Qa9 (Qad ⟨_,rfl,h⟩) (by show (List.replicate k.toNat J).flatten.toArray.size<=sizeLine;rw [Qbb,len_rep,Nat.mul_comm];exact hz))
end
def rRepT(K:Af):R2:=fun x y H Q=>∃l k xs,x=.ref l/\y=.int k/\SqT K H l xs/\2<=k/\k < 2 ^ 63/\xs≠[]/\xs.length * k.toNat<=sizeLine /\
 ∀p,H p=none->Q (.ref p) (upd H p (.tup (List.replicate k.toNat xs).flatten))
def Zhn:OpR X (binaryOp .Mult) (rRepT X.K):=by
 intro pins s σ H x y v u Q I O D h;obtain ⟨l,k,xs,rfl,rfl,G,h1,h2,C,hz,q⟩:=h;cases O;obtain ⟨t,rfl⟩:=D;obtain ⟨J,r,p1,_⟩:=I.tuple G;obtain ⟨o,ho,hc,n,hd⟩:=id p1;have hl:=r.length;refine Qez (T := "tuple") (U := "int") (by decide) ⟨_,ho,hc⟩ (fun s'=>Qf8 s' k t) X4 Qhk Qer JV Qhe.lookup
  (Qbc Qer (Qf8 s k t) Qhf (zD ho hc hd ⟨rfl,⟨_,ho,hc⟩,Qbc Qfu ⟨_,ho,hc⟩ Qg3 (Zhm p1 h1 h2 (fun z=>C (r.nil_iff.mp z)) (by rw [<-hl];exact hz) ?_) (Qgn _ _)⟩) (Qg4 _ _))
 refine ⟨.ref s.heap.objs.size,_,I.laid (t':=s.toks) (o:=.tup (List.replicate k.toNat xs).flatten) (fun b ob q=>Qab _ q) (Qag _) ?_,rfl,q _ (I.hok.fresh (Qag _))⟩;exact ⟨by rw [len_rep,Nat.mul_comm];exact hz,_,r.rep k.toNat,jz.new _ _⟩
def jW{xs:A0}{is:Aj}{Q:VK}(p:V->Bool)(S:Hp->Hp->Prop)(I:∀H,S H H)(st:∀H1 H2 D,S H1 H2->S H2 D->S H1 D)(hx:∀H1,S H H1->SqT K H1 a xs)(hz:xs.length<=sizeLine)
  (hc:∀x∈xs,∀H1,S H H1->∀R:Bool->Hp->Prop,(∀H2,S H1 H2->R (p x) H2)->E (Ja is f (some x)) H1 R)
  (he:∀x∈xs,∀H1,∀R:VK,R x H1->d (Ja is f (some x)) H1 R)
  (hd:∀H1 l,S H H1->H1 l=none->Q (.ref l) (upd H1 l (.lst (xs.filter p)))):Jq is E d f Q (Itt K a) H:=by
 refine Jr (xs:=xs) (fun i zs H'=>zs=(xs.take i).filter p/\S H H') ⟨rfl,I H⟩ ?_ ?_ ?_ ?_
 ·grind
 ·grind
 ·rintro i x zs H' R hR q ⟨rfl,C⟩
  have hm:=Qai q;have e:=take_snoc q;refine hc x hm H' C _ fun H2 G=>?_;cases hp:p x with
  | true =>
   refine (Qa1 rfl:(if true=true then _ else _)=_) ▸ he x hm H2 _ (hR _ _ ⟨?_,st _ _ _ C G⟩);rw [e,Qdm,Qcz,Qa1 hp]
   rfl
  | false =>
   refine (Qaw Qa5:(if false=true then _ else _)=_) ▸ hR _ _ ⟨?_,st _ _ _ C G⟩;rw [e,Qdm,Qcz,Qaw (by rw [hp];exact Qa5)];simp
 ·grind
abbrev Xn(o:Obj):HO:=.frz o (.ext fun _=>True)
def Jc{w:Ar}{o:Obj}(e:h.get? a=some o):Yl P w H h a (Xn o):=⟨e,trivial,⟨o,e⟩,fun _ _ _ _=>trivial⟩
def hide(cs:List Au)(H:Hp):Hp:=fun b=>if b∈cs then none else H b
def X9(cs:List Au)(H H':Hp):Hp:=fun b=>if b∈cs then H b else H' b
def Yp{b:Au}(h:b∈M):hide M H b=none:=Qa1 h
def Z1{b:Au}(h:b∉M):hide M H b=H b:=Qaw h
def Xo{H':Hp}{b:Au}(h:b∈M):X9 M H H' b=H b:=Qa1 h
def ZH{H':Hp}{b:Au}(h:b∉M):X9 M H H' b=H' b:=Qaw h
def of_hide{b:Au}{o:HO}(h:hide M H b=some o):b∉M/\H b=some o:=by
 by_cases m:b∈M
 ·rw [Yp m] at h;cases h
 ·rw [Z1 m] at h;exact ⟨m,h⟩
def JW(H H1:Hp):Prop:=∀b o u,H b=some (.frz o u)->H1 b=some (.frz o u)
def JW.refl(H:Hp):JW H H:=fun _ _ _ h=>h
def JW.trans{H2:Hp}(a:JW H g)(b:JW g H2):JW H H2:=fun c o u h=>b c o u (a c o u h)
def ZA.frz{H H1:Hp}(a:ZA H H1):JW H H1:=fun b o u h=>a b _ h
def YE(P:An)(w:Ar)(K:Af)(mg:Ae)(base:Heap)(k:Nat)(f:Au)(H:Hp)(τ:Sp):Prop :=
 (∃o fd,H f=some (Xn o)/\o.data=.func fd) /\
 ∀(A:Ao) (outer:List Env) (s:Aq) (H1:Hp) (q:Ag) (vs:A0) (Q:VK) (E:XK),JW H H1->WV k A->Zgx P w K mg base A outer s H1->Vals vs q->τ vs H1 Q E ->
  codeAny (model P w) A (.call (.ref f) ⟨q,[]⟩) (CR CX0 outer P w H1 s Q E) s
theorem YE.frz{P:An}{w:Ar}{K:Af}{mg:Ae}{base:Heap}{k:Nat}{f:Au}{H H1:Hp}{τ:Sp}(c:YE P w K mg base k f H τ)(h:JW H H1):YE P w K mg base k f H1 τ :=
 ⟨let ⟨o,fd,e,d⟩:=c.1;⟨o,fd,h _ _ _ e,d⟩,fun A outer s H2 C vs Q E q=>c.2 A outer s H2 C vs Q E (h.trans q)⟩
section
variable {P:An}{w:Ar}{H H':Hp}{h h':Heap}{cs:List Au}
theorem zE(x:HOk P w H h)(D:∀c∈cs,∃o,H c=some (Xn o)):HOk P w (hide cs H) h:=fun a o e=>by
 obtain ⟨_,C⟩:=of_hide e;refine (x a o C).stay (fun _ _ _ q=>q) (fun d q=>?_) fun d xs q=>?_
 ·by_cases m:d∈cs
  ·grind
  ·rw [Z1 m];exact q
 ·by_cases m:d∈cs
  ·grind
  ·rw [Z1 m];exact q
theorem jX(x:HOk P w H' h')(hn:∀c∈cs,H' c=none)(C:∀c∈cs,∃o,H c=some (Xn o)/\h'.get? c=some o):HOk P w (X9 cs H H') h':=fun a o e=>by
 by_cases m:a∈cs
 ·rw [Xo m] at e
  obtain ⟨ob,z,g⟩:=C a m;rw [z] at e;cases e;exact Jc g
 ·rw [ZH m] at e
  refine (x a o e).stay (fun _ _ _ q=>q) (fun d q=>?_) fun d xs q=>?_
  ·by_cases m:d∈cs
   ·rw [hn d m] at q;cases q
   ·rw [ZH m];exact q
  ·by_cases m:d∈cs
   ·rw [hn d m] at q;cases q
   ·rw [ZH m];exact q
end
structure Zjw(scope:Scope)(ps ys:Ai):Prop where
 kind:scope.kind=.function
 co:scope.isCoroutine=false
 gen:scope.isGenerator=false
 cell:∀y∈scope.names,y.2≠.cell
 par:∀p∈ps,scope.names.lookup p=some .local
 free:∀y∈ys,scope.names.lookup y=some .free
 nd:(ps++ys).Nodup
def cxL(P:An)(w:Ar)(K:Af)(mg:Ae)(base:Heap)(N:Ai)(qual:Str)(scope:Scope)(f:Au)(q:As)(cl:List (Str × Au))(A:Ao)(outer:List Env)(s:Aq)(H:Hp):Cx where
 prog:=P
 w:=w
 K:=K
 mg:=mg
 base:=base
 A:=A.deeper (PySem.W.envX qual scope s.heap.objs.size f q cl)
 N:=N
 s₀:=s
 H₀:=H
 env:=PySem.W.envX qual scope s.heap.objs.size f q cl
 outer:=outer
 stack:=PySem.W.envX qual scope s.heap.objs.size f q cl::outer
 ex:=[]
 calm:=true
 fn:=fun _=>false
 pn:=[]
 xe:=fun _ _=>False
def Zho(n:Nat)(te:TE)(cs:List Au)(q:List (Option V)):Sp:=fun vs H Q _=>vs.length=n/\te (vs.map some++q) (hide cs H) fun v H'=>(∀c∈cs,H' c=none)->Q v (X9 cs H H')
theorem xP{ps:Ai}(C:ps.Nodup){u:As}(h1:ps[i]?=some x)(h2:J[i]?=some u)(hl:ps.length=J.length):(ps.zip J).reverse.lookup x=some u:=by
 have hm:(x,u)∈ps.zip J:=by
  obtain ⟨a1,e1⟩:=Qah.mp h1;obtain ⟨a2,e2⟩:=Qah.mp h2;rw [<-e1,<-e2,<-Qfs (h:=by rw [Qcd];lia)];exact Qc9 _
 have G:((ps.zip J).map (·.1)).Nodup:=by
  rw [List.map_fst_zip (by lia)];exact C
 have q:((ps.zip J).reverse.map (·.1)).Nodup:=by
  grind
 have hr:(x,u)∈(ps.zip J).reverse:=List.mem_reverse.mpr hm;generalize (ps.zip J).reverse=l at q hr
 induction l with
 | nil=>cases hr
 | cons p r I =>
  obtain ⟨n,v⟩:=p;rcases Qan.mp hr with e | D
  ·grind
  ·grind
section
variable {P:An}{w:Ar}{K:Af}{mg:Ae}{base:Heap}
theorem jY{k:Nat}{f:Au}{name qual:Str}{params:Arguments}{body:Av}{scope:Scope}{cl:List (Str × Au)}{pm ctv:As}{ps ys:Ai}{cv:List (Option V)}
  (S:Zjw scope ps ys) (hf:H f=some (Xn (PySem.W.kla_obj name qual params body scope cl pm a ctv))) (hc:H a=some (Xn U)) (hoc:∃vs t,U.data=.fields vs/\vs[1]?=some (.str qual t))
  (hcl:∀x c,cl.lookup x=some c->c∈M) (hcs:∀c∈M,∃o v,H c=some (Xn o)/\o.data=.cell v)
  (inj:∀x y c,cl.lookup x=some c->cl.lookup y=some c->x=y) (has:∀x,scope.names.lookup x=some .free->∃c,cl.lookup x=some c)
  (hcv:cv.length=ys.length) (hval:∀(i:Nat) (y:Str) (v:V),ys[i]?=some y->cv[i]?=some (some v)->∃c o u,cl.lookup y=some c/\H c=some (Xn o)/\o.data=.cell (some u)/\RelV v u)
  (hb:∀us:Ag,us.length=ps.length->bindArgs (PySem.W.kla_fn name qual params body scope cl pm (.ref a) ctv) ⟨us,[]⟩=pure (ps.zip us))
  (hbody:∀(A:Ao) (outer:List Env) (s:Aq) (H1:Hp),WV k (A.deeper (PySem.W.envX qual scope s.heap.objs.size f (.ref a) cl))->PE (cxL P w K mg base (ps++ys) qual scope f (.ref a) cl A outer s H1) body O) :
  YE P w K mg base (k + 1) f H (Zho ps.length O M cv):=by
 refine ⟨⟨_,_,hf,rfl⟩,?_⟩;intro A outer s H1 us vs Q E fz hr C r ht;obtain ⟨hl,ht⟩:=ht;have gf:s.heap.get? f=some (PySem.W.kla_obj name qual params body scope cl pm a ctv):=(C.hok f _ (fz _ _ _ hf)).1;have G:∀c∈M,∃o v,H1 c=some (Xn o)/\o.data=.cell v/\s.heap.get? c=some o:=fun c m=>by
  obtain ⟨o,v,e,d⟩:=hcs c m;exact ⟨o,v,fz _ _ _ e,d,(C.hok c _ (fz _ _ _ e)).1⟩
 have Y:∀c∈M,∃o,H1 c=some (Xn o):=fun c m=>let ⟨o,_,e,_⟩:=G c m;⟨o,e⟩;obtain ⟨vs0,t0,hd0,hv0⟩:=hoc;have lim:s.heap.NoLimit:=C.mod.nolimit.keeps fun b o e=>(C.bs b o e).1;have lus:us.length=ps.length:=by rw [<-r.length];exact hl
 refine PySem.W.kla_callFunE hr.depth gf rfl S.co S.gen rfl ⟨a,U,vs0,t0,rfl,(C.hok a _ (fz _ _ _ hc)).1,hd0,hv0⟩ ?_;rw [hb us lus];refine Qad (wpAny_newFunctionEnv S.cell (fun x hx=>S.par _ (Qe8 hx).1) (fun h₁ hns hsb=>⟨lim.fresh _ hsb,?_⟩) S.kind);have Z:∀b o,s.heap.get? b=some o->h₁.get? b=some o:=fun b o e=>hsb.extBut b o (Qbe (Qap e)) (Qab _ e);have ndp:ps.Nodup:=(Qdv.mp S.nd).1;have I:Inv (cxL P w K mg base (ps++ys) qual scope f (.ref a) cl A outer s (hide M H1)) [] (vs.map some++cv) (hide M H1) { s with heap:=h₁,toks:=s.toks + (ps.zip us).length }:=by
  have noA:∀b:Au,b∉([]:List Au):=fun b z=>nomatch z;refine ⟨⟨C.mod,S.kind,rfl,rfl,Qag _,inj,fun y hy=>?_,(fun y c h=>by cases h),fun _=>hr.hd,Qfw C.frames,.inr ⟨rfl,rfl⟩,fun b z=>absurd z (noA b),fun b o e=>⟨(C.bs b o e).1,?_⟩,C.bsz,fun b _ _=>noA b,fun b z=>absurd z (noA b),C.funs,fun b hb=>?_⟩,
   rfl,C.bare,Un.kept Z,⟨_,hns,fun i y v h1 h2 h3=>?_⟩,fun y c h=>?_,?_,fun y c h=>Yp (hcl y c h),fun p hp=>absurd (show p∈([]:Ac) from hp) (by simp),(zE C.hok Y).kept Z,?_⟩
  ·rcases hy with hy | hy
   ·exact absurd rfl (S.cell _ (Qb5 hy))
   ·exact has y hy
  ·by_cases m:b∈M
   ·exact Yp m
   ·exact (Z1 m).trans (C.bs b o e).2
  ·by_cases m:b∈M
   ·exact Yp m
   ·exact (Z1 m).trans (C.frf b hb)
  ·by_cases hi:i < vs.length
   ·have ha:vs[i]?=some v:=by
     grind
    obtain ⟨u,hu,rv⟩:=r.get ha;have D:(ps++ys)[i]?=some y:=h1;rw [Qbg (by lia)] at D;exact ⟨u,rv,.inl ⟨S.par y (Qai D),xP ndp D hu lus.symm⟩⟩
   ·rw [Qa7 (by simpa using hi),Qac] at h2
    have D:(ps++ys)[i]?=some y:=h1;rw [Qa7 (by lia),<-hl] at D;obtain ⟨c,o,u,e1,e2,e3,rv⟩:=hval _ y v D h2;refine ⟨u,rv,.inr ⟨.inr (S.free y (Qai D)),c,e1,o,Z _ _ (C.hok c _ (fz _ _ _ e2)).1,e3⟩⟩
  ·obtain ⟨o,v,_,d,g⟩:=G c (hcl y c h)
   exact ⟨v,o,Z _ _ g,d⟩
  ·show hide M H1 s.heap.objs.size=none
   by_cases m:s.heap.objs.size∈M
   ·exact Yp m
   ·rw [Z1 m];exact C.hok.fresh (Qag _)
  ·show (vs.map some++cv).length=(ps++ys).length
   rw [Qae,Qae,Qac,hl,hcv]
 refine PySem.W.kla_codeExpr (Qc6 (hbody A outer s (hide M H1) (hr.deeper _) [] _ _ _ _ I ht) (fun u s' hs=>?_) fun _ _ z=>z.elim);obtain ⟨v,H',J,rv,q⟩:=hs;have b:Un (frs outer) [] (hide M H1) H' s.heap s'.heap:=J.base;have nfr:∀c∈M,c∉frs outer:=fun c m z=>by
  obtain ⟨o,e⟩:=Y c m;rw [C.frf c z] at e;cases e
 have Hn:∀c∈M,H' c=none:=fun c m=>by
  obtain ⟨o,v,e,d,g⟩:=G c m;exact b.free c o g (Yp m) (fun z=>nomatch z)
 have hh:∀d,H1 d=none->hide M H1 d=none:=fun d n=>by
  by_cases m:d∈M
  ·exact Yp m
  ·rw [Z1 m];exact n
 have nm:∀d o,H1 d=some o->(∀ob,o≠Xn ob)->d∉M:=fun d o e ne m=>by
  obtain ⟨ob,z⟩:=Y d m;rw [e] at z;exact ne ob (Option.some.inj z)
 refine ⟨v,X9 M H1 H',J.os,J.bare,⟨fun d o e n hb hx=>b.keep d o e (hh d n) hb hx,fun d o e n hb hx=>b.slot d o e (hh d n) hb hx,fun d o e n hx=>?_,b.there,fun d xs e=>?_,fun d o u e=>?_,fun d pz e=>?_⟩,jX J.hok Hn fun c m=>?_,rv,q Hn⟩
 ·by_cases m:d∈M
  ·rw [Xo m];exact n
  ·rw [ZH m];exact b.free d o e (hh d n) hx
 ·have m:=nm d _ e (fun ob z=>nomatch z)
  rw [ZH m];exact b.tups d xs (by rw [Z1 m];exact e)
 ·by_cases m:d∈M
  ·rw [Xo m];exact e
  ·rw [ZH m];exact b.frzs d o u (by rw [Z1 m];exact e)
 ·have m:=nm d _ e (fun ob z=>nomatch z)
  rw [ZH m];exact b.tbls d pz (by rw [Z1 m];exact e)
 ·obtain ⟨o,v,e,d,g⟩:=G c m
  exact ⟨o,e,b.keep c o g (Yp m) (nfr c m) (fun z=>nomatch z)⟩
end
def xQ(oc:Obj)(qual:Str):Prop:=∃vs t,oc.data=.fields vs/\vs[1]?=some (.str qual t)
def Yn(H:Hp)(P:Au)(pos:Pos)(qual:Str):Prop :=
 H P=some (.tbl #[])\/∃q oc,H P=some (.tbl #[rawInt pos.line,rawInt pos.col,.ref q])/\H q=some (Xn oc)/\xQ oc qual
def Yn.ex{P:Au}{qual:Str}(h:Yn H P p qual):∃ps,H P=some (.tbl ps):=by
 rcases h with h | ⟨_,_,h,_⟩ <;> exact ⟨_,h⟩
structure zF(mg:Ae)(base:Heap):Prop where
 ex:∃bm ob,mg "__builtins__" = some (.ref bm)/\bm≠builtinsNs/\base.get? bm=some ob/\ob.cls=.type "module" /\ ob.dict=some builtinsNs/\ob.data=.plain
def tLam(P:Au)(lpos:Pos)(qual:Str)(C:Au->Value->Obj):TE:=fun _ H Q=>Yn H P lpos qual /\
 ∀(f D:Au) (oc:Obj) (q:As) (H2:Hp),H f=none->H2 f=some (Xn (C D q))->H2 D=some (Xn oc)->xQ oc qual->Yn H2 P lpos qual->(∀b o,H b=some o->b≠P->H2 b=some o)->Q (.ref f) H2
def kL{X:Cx}{pins:Ac}{P:Au}{lpos:Pos}{fo:Obj}{h':Heap}{tk:Nat}(I:Inv X pins f H s)(D:H P=some (.tbl #[]))(hx:Heap.ExtBut P s.heap h')(O:s.heap.objs.size<=l)(hlt:l < h'.objs.size)(hoc:h'.get? l=some U)
  (J:h'.get? P=some (PySem.W.tabObj #[rawInt lpos.line,rawInt lpos.col,.ref l])) (Z:fo.isFreed=false:=by rfl):Inv X pins f (upd (upd (upd H P (.tbl #[rawInt lpos.line,rawInt lpos.col,.ref l])) l (Xn U)) h'.objs.size (Xn fo)) { s with heap:=h'.push fo,toks:=tk }:=by
 have G:H l=none:=I.hok.fresh O;have cP:l≠P:=fun e=>by rw [e,D] at G;cases G
 have lo:∀{b:Au} {o:Obj},s.heap.get? b=some o->b≠l:=fun e z=>absurd (Qap e) (by rw [z];exact Qe4.mpr O);have I1:Inv X pins f (upd (upd H P (.tbl #[rawInt lpos.line,rawInt lpos.col,.ref l])) l (Xn U)) { s with heap:=h',toks:=tk }:=by
  refine I.un ⟨fun b o e n _ _=>hx b o (fun z=>by rw [z,D] at n;cases n) e,fun b o e n _ _=>⟨o.slots,hx b o (fun z=>by rw [z,D] at n;cases n) e⟩,fun b o e n _=>?_,fun b o e _=>?_,fun b xs e=>?_,fun b o u e=>?_,fun b pz e=>?_⟩ fun b u e=>?_
  ·rw [Zh (lo e),Zh (fun z=>by rw [z,D] at n;cases n)];exact n
  ·by_cases C:b=P
   ·rw [C];exact ⟨_,J⟩
   ·exact ⟨o,hx b o C e⟩
  ·rw [Zh (Zj e G),Zh (Xa e D (fun z=>nomatch z))];exact e
  ·rw [Zh (Zj e G),Zh (Xa e D (fun z=>nomatch z))];exact e
  ·by_cases C:b=P
   ·subst C
    rw [D] at e;cases e;exact ⟨#[rawInt lpos.line,rawInt lpos.col,.ref l],by rw [Zh cP.symm,Za];rfl⟩
   ·exact ⟨#[],by rw [Zh (Zj e G),Zh C,e];simp⟩
  ·by_cases Y:b=l
   ·subst Y
    rw [Za] at e;cases e;exact Jc hoc
   ·rw [Zh Y] at e
    by_cases C:b=P
    ·subst C
     rw [Za] at e;cases e;exact J
    ·rw [Zh C] at e
     refine (I.hok b u e).stay (fun d v hd q=>hx d v ?_ q) (fun d q=>?_) fun d xs q=>?_
     ·grind
     ·rw [Zh (Zj q G),Zh (Xa q D (fun z=>nomatch z))];exact q
     ·rw [Zh (Zj q G),Zh (Xa q D (fun z=>nomatch z))];exact q
 exact I1.laid (h':=h'.push fo) (t':=tk) (a:=h'.objs.size) (o:=Xn fo) (fun b u e=>Qab _ e) (Qag _) (Jc (Qak _ Z))
section
variable {X:Cx}{params:Arguments}{body:Av}{scope:Scope}{lpos:Pos}{c P:Au}{qual:Str}
abbrev xR (X:Cx) (qual:Str) (params:Arguments) (body:Av) (scope:Scope):Au->Value->Obj:=fun C q=>PySem.W.kla_obj "<lambda>" qual params body scope (qh X.env.cells scope.names []) ((X.mg "__name__").getD .none) C q
def Zam (J:X.env.code=.ref c) (C:PySem.W.CodeHd X.base c P) (B:zF X.mg X.base) (hdef:defaultsOf params X.env=([],[])) (hq:X.env.qual ++ "<lambda>" = qual)
  (hfree:∀y∈scope.names,y.2=.free->X.env.scope.names.lookup y.1=some .cell) :
  PE X (.Lambda params body scope lpos) (tLam P lpos qual (xR X qual params body scope)):=by
 intro pins s σ H Q I hw;obtain ⟨O,hq2⟩:=hw;refine PySem.W.kla_eval hdef ?_;rw [hq];have hcl:closureFor scope X.env=pure (qh X.env.cells scope.names []):=W9 fun y hy h=>I.ok.has y.1 (.inl (hfree y hy h));have hg:s.heap.Ns mainGlobals X.mg:=I.mod.glob.keeps I.bk;obtain ⟨pz,hPs⟩:=O.ex;have G:X.base.get? P=none:=by
  cases e:X.base.get? P with
  | none=>rfl
  | some o=>rw [(I.bs P o e).2] at hPs;cases hPs
 have hgP:mainGlobals≠P:=fun e=>by
  obtain ⟨o,es,ep,g,_⟩:=I.mod.glob;rw [e,G] at g;cases g
 have hb:s.heap.BuiltinsAt X.mg P:=by
  obtain ⟨bm,ob,b1,b2,b3,b4,b5,b6⟩:=B.ex;refine ⟨bm,ob,b1,b2,fun e=>?_,(fun e=>by rw [e,G] at b3;cases b3),I.bk _ _ b3,b4,b5,b6⟩;obtain ⟨o,es,ep,g,hd,_⟩:=I.mod.glob;rw [<-e,b3] at g;cases g;rw [b6] at hd;cases hd
 rcases O with O | ⟨q,oc,O,hc',Y⟩
 ·have hP:s.heap.get? P=some (PySem.W.tabObj #[]):=I.hok P _ O
  refine PySem.W.kla_makeFunction (mg:=X.mg) (ps:=#[]) hcl I.ok.glob hg J (C.keeps I.bk) hP trivial rfl hgP hb fun q D h' tk hx Z hlt hrec htb=>?_;obtain ⟨c₂,oc,vs,t,e2,Y,hd,hv⟩:=hrec;cases e2;have cn:H q=none:=I.hok.fresh Z;have cP:q≠P:=fun e=>by rw [e,O] at cn;cases cn
  have hsz:s.heap.objs.size<=h'.objs.size:=Qa8 Z (Qav hlt);have I2:=kL (lpos:=lpos) (fo:=xR X qual params body scope q D) (tk:=tk) I O hx Z hlt Y htb;have fn:H h'.objs.size=none:=I.hok.fresh hsz;have fc:q≠h'.objs.size:=Qbe hlt;have fP:P≠h'.objs.size:=Zj O fn;refine ⟨.ref h'.objs.size,_,I2,rfl,hq2 _ q oc D _ fn Za ?_ ⟨vs,t,hd,hv⟩ (.inr ⟨q,oc,?_,?_,⟨vs,t,hd,hv⟩⟩) fun b o e hbP=>?_⟩
  ·rw [Zh fc];exact Za
  ·rw [Zh fP,Zh cP.symm];exact Za
  ·rw [Zh fc];exact Za
  ·rw [Zh (Zj e fn),Zh (Zj e cn),Zh hbP];exact e
 ·have hP:s.heap.get? P=some (PySem.W.tabObj #[rawInt lpos.line,rawInt lpos.col,.ref q]):=I.hok P _ O
  have hf:codeAmong lpos (#[rawInt lpos.line,rawInt lpos.col,.ref q]:Ah).toList=some (.ref q):=by
   show (if ((lpos.line:Int) == lpos.line && (lpos.col:Int) == lpos.col)=true then some (Value.ref q) else _)=_;rw [Qd2,Qd2]
   rfl
  refine PySem.W.kla_makeFunctionHit (mg:=X.mg) hcl I.ok.glob hg J (C.keeps I.bk) hP trivial hf hb fun D h' tk hk hsz=>?_;have I2:=I.laid (h':=h'.push (xR X qual params body scope q D)) (t':=tk) (a:=h'.objs.size) (o:=Xn (xR X qual params body scope q D)) (fun b u e=>Qab _ (hk b u e)) hsz (Jc (Qak _ rfl));have fn:H h'.objs.size=none:=I.hok.fresh hsz;have sm:∀b o,H b=some o->upd H h'.objs.size (Xn (xR X qual params body scope q D)) b=some o:=fun b o e=>by rw [Zh (Zj e fn)];exact e
  exact ⟨.ref h'.objs.size,_,I2,rfl,hq2 _ q oc D _ fn Za (sm _ _ hc') Y (.inr ⟨q,oc,sm _ _ O,sm _ _ hc',Y⟩) fun b o e _=>sm b o e⟩
end
def cellsOf(cells:List (Str × Au)):List Au:=(cells.map (·.1)).filterMap fun x=>cells.lookup x
def ZQ{cells:List (Str × Au)}{c:Au}:c∈cellsOf cells↔∃x,cells.lookup x=some c:=by
 unfold cellsOf;rw [Qgl]
 constructor
 ·grind
 ·rintro ⟨x,h⟩
  exact ⟨x,Qa2.mpr ⟨(x,c),Qb5 h,rfl⟩,h⟩
structure Zjx(S0 scope:Scope)(N0 ps ys:Ai)(is:Aj):Prop where
 sc:Zjw scope ps ys
 free:∀y∈scope.names,y.2=.free->S0.names.lookup y.1=some .cell
 vis:∀q∈ys.zip is,N0[q.2]?=some q.1
 len:ys.length=is.length
section
variable {X:Cx}{params:Arguments}{body a:Av}{scope:Scope}{lpos p pos:Pos}{c P g:Au}{qual x:Str}{k kl:Nat}{gd:Am}{pg ps ys:Ai}{is:Aj}{sp:Sp}{ta te:TE}
def Wt{H1:Hp}{b:Au}{u:HO}(q:∀c∈M,∃o,H c=some (Xn o))(s:ZA H H1)(h:H1 b=some u)(hu:∀o,u≠Xn o):hide M H1 b=some u:=by
 rw [Z1 fun m=>?_]
 ·exact h
 ·obtain ⟨o,e⟩:=q b m
  rw [s _ _ e] at h;exact hu o (Option.some.inj h).symm
def Yn.other{H':Hp}{P:Au}{qual:Str}(h:Yn H P A qual)(q:P≠l)(C:∃ps,H l=some (.tbl ps))(s:∀b o,H b=some o->b≠l->H' b=some o):Yn H' P A qual:=by
 rcases h with h | ⟨c,oc,h1,h2,D⟩
 ·exact .inl (s _ _ h q)
 ·obtain ⟨ps,e⟩:=C
  exact .inr ⟨c,oc,s _ _ h1 q,s _ _ h2 (Xa h2 e (fun z=>nomatch z)),D⟩
def Yn.same{H':Hp}{P:Au}{qual:Str}(h:Yn H P A qual)(s:ZA H H'):Yn H' P A qual:=by
 rcases h with h | ⟨c,oc,h1,h2,q⟩
 ·exact .inl (s _ _ h)
 ·exact .inr ⟨c,oc,s _ _ h1,s _ _ h2,q⟩
def tCallV(q:An)(w:Ar)(K:Af)(mg:Ae)(base:Heap)(k:Nat)(i:Nat)(t:TA):TE:=fun σ H Q=>∃(f:Au) (τ:Sp),σ[i]?=some (some (.ref f))/\YE q w K mg base k f H τ /\
 t σ H fun vs H1=>JW H H1/\τ vs H1 Q E0
theorem Zan{P:An}{w:Ar}{mg:Ae}{base:Heap}{k:Nat}{f:Au}{H1:Hp}{τ:Sp}(c:YE P w K mg base k f H τ)(C:JW H H1)(q:HOk P w H1 h):PySem.W.FnAt f h:=by
 obtain ⟨o,fd,e,d⟩:=c.1;have g:=(q f _ (C _ _ _ e)).1;obtain ⟨oc,od,G,D⟩:=o;cases d;exact ⟨oc,od,fd,D,g⟩
def Zd0(i:Nat){t:TA}(hr:WV k X.A)(ha:QA X (e::B) t)(hN:X.N[i]?=some x:=by rfl)(hv:Vis X.env.scope x:=by first | exact Or.inl rfl | exact Or.inr (Or.inl rfl) | exact Or.inr (Or.inr rfl))
  (hdb:(x == ("__debug__" : Str))=false:=by decide) (hcd:(x == ("__classdict__" : Str))=false:=by decide) (he:starEach (e::B) X.env=(false,eval e X.env)::starEach B X.env:=by rfl) (D:(backTo pos (starEach B X.env)).any (·.1)=false:=by rfl) :
  QE X (.Call (.Name x p) (e::B) [] pos) (tCallV X.prog X.w X.K X.mg X.base k i t):=by
 refine ⟨?_⟩;intro pins s σ H Q I hw;obtain ⟨f,τ,G,hc,ht⟩:=hw;refine Qcv (thn (Zfd hN hv hdb hcd pins s σ H (fun v H'=>v=.ref f/\H'=H) I ⟨.ref f,G,rfl,rfl⟩) fun u s1 ⟨v,H',Y,r,C,hH⟩=>?_);subst C;subst hH;cases r;refine PySem.W.callWith_F (Zan hc (JW.refl _) Y.hok) (thn (ha.out pos pins s1 σ H' _ Y ht) fun us s2 ⟨vs,H1,O,rv,Z,J⟩=>⟨Zan hc Z O.hok,?_⟩) he D;refine Qhq (Qec (hc.2 X.A X.stack s2 H1 us vs Q E0 Z hr O.env0 rv J) fun r s' q=>?_);cases r with
 | error e=>exact q.elim
 | ok fl =>
  cases fl with
  | ret u=>exact O.after q
  | next=>exact False.elim q
  | brk=>exact False.elim q
  | cont=>exact False.elim q
end
theorem Zao{w:Ar}{mg mb:Ae}{CX:CXT}{k:Nat}{fd:Am}{sp:Sp}{D:Aq}{vs:Ag}{G:List (Au × Au)}
  (KX:K.In D.heap) (hns:D.heap.Ns mainGlobals mg) (hb:D.heap.Ns builtinsNs mb) (hbb:∀x:Str,x ≠ "__name__" -> mb x=bootBuiltins x) (hlim:D.heap.NoLimit) (hg:D.gens=#[])
  (ha:D.heap.get? a=some { cls:=.type "list",data:=.seq vs.toArray }) (hi:IntsAre vs C) (hl:C.length<=sizeLine) (hr:WV k callerA)
  (hT:PySem.W.TabsAt G D.heap) (hKt:PySem.W.noTabs K=true) (hbm:zF mg D.heap)
  (F:∀base:Heap,K.In base->base.Ns mainGlobals mg->(∀q∈G,PySem.W.CodeHd base q.1 q.2)->zF mg base->YA P w K mg base CX k l fd [x] sp) (hbind:∀(s:Aq) (u:As),BindsTo s fd ⟨[u],[]⟩ [(x,u)])
  (hsp:∀H:Hp,(∀q∈G,H q.2=some (.tbl #[]))->SqL K H a (C.map V.int)->sp [.ref a] H (fun v _=>v=.bl true) fun _ _ _=>False)
  (hCX:∀H e s',CX [] H D (fun _ _ _=>False) e s'->False) :
  codeAny (model P w) callerA (.call (.ref l) ⟨[.ref a],[]⟩) (fun r s'=>r=.ok (.ret (.bool true))/\OldK D.heap s'.heap/\s'.os=D.os/\AllBare s'.gens) D:=by
 have rv:=jF hi;have lenV:=hi.length;have I:∀b,b∈G.map (·.2)->D.heap.get? b=some (PySem.W.tabObj #[]):=fun b m=>by
  obtain ⟨q,O,rfl⟩:=Qa2.mp m;exact (hT q O).2
 have aT:a∉G.map (·.2):=fun m=>by
  have e:=I a m;rw [ha] at e;cases e
 have core:∀H:Hp,(∀q∈G,H q.2=some (.tbl #[]))->(∀b,H b=none\/(b=a/\∃o xs,H b=some (.frz o (.lst xs)))\/(b∈G.map (·.2)/\H b=some (.tbl #[])))->SqL K H a (C.map V.int)->HOk P w H D.heap->(H a≠none->K.lookup a=none) ->
   codeAny (model P w) callerA (.call (.ref l) ⟨[.ref a],[]⟩) (fun r s'=>r=.ok (.ret (.bool true))/\OldK D.heap s'.heap/\s'.os=D.os/\AllBare s'.gens) D:=by
  intro H hTb hO hS hok hK;have J:∀{b:Au} {o:Obj},D.heap.get? b=some o->H b=none->(ua D.heap H).get? b=some o:=fun e n=>Zdd e n;have noA:∀{b:Au} {o:Obj},D.heap.get? b=some o->(∀its n,o.data≠.seq its n)->o.cls≠.none->H b=none:=fun {b o} e d1 d2=>by
   rcases hO b with z | ⟨rfl,_⟩ | ⟨m,_⟩
   ·exact z
   ·rw [ha] at e;cases e
    exact absurd rfl (d1 _ _)
   ·rw [I b m] at e;cases e
    exact absurd rfl d2
  have Z:∀{b:Au} {m:Ae},D.heap.Ns b m->(ua D.heap H).Ns b m:=fun {b m} ⟨o,es,ep,e,d,r⟩=>⟨o,es,ep,J e (by
   grind),d,r⟩
  have hKb:K.In (ua D.heap H):=fun b o e=>J (KX b o e) (by
   rcases hO b with z | ⟨rfl,ob,xs,z⟩ | ⟨m,_⟩
   ·exact z
   ·rw [hK (by rw [z];simp)] at e;cases e
   ·have g:=KX b o e
    rw [I b m] at g;cases g;have h2:=Qdo.mp hKt (b,_) (PySem.W.mem_of_lookupK e);exact absurd (show false=true from h2) Qa5)
  have hM:Mod K mg (ua D.heap H):=⟨hKb,Z hns,⟨mb,Z hb,hbb⟩,let ⟨mc,h1,h2⟩:=hlim;⟨mc,Z h1,h2⟩⟩;have hB:zF mg (ua D.heap H):=by
   obtain ⟨bm,ob,b1,b2,b3,b4,b5,b6⟩:=hbm.ex;exact ⟨bm,ob,b1,b2,J b3 (noA b3 (fun its n z=>by rw [b6] at z;cases z) (fun z=>by rw [b4] at z;cases z)),b4,b5,b6⟩
  have hC:∀q∈G,PySem.W.CodeHd (ua D.heap H) q.1 q.2:=fun q O=>by
   obtain ⟨o,vs',file,tf,flags,tg,inF,text,tt,e1,r1,r2,r3⟩:=(hT q O).1;exact ⟨o,vs',file,tf,flags,tg,inF,text,tt,J e1 (noA e1 (fun its n z=>by rw [r2] at z;cases z) (fun z=>by rw [r1] at z;cases z)),r1,r2,r3⟩
  have e0:Zgx P w K mg (ua D.heap H) callerA [] D H:=⟨rfl,hM,fun b o e=>Zgj e,Qhh (ub _ _),trivial,fun b hb=>absurd (show b∈([]:List Au) from hb) (by simp),hok,.of_eq hg⟩;refine Qec ((F _ hKb (Z hns) hC hB).run callerA [] D H ⟨[.ref a],[]⟩ [.ref a] [.ref a] _ _ hr e0 (hbind D (.ref a)) (.cons rfl .nil) (hsp H hTb hS)) fun r s' h=>?_;cases r with
  | error e=>exact (hCX H e s' h).elim
  | ok fl =>
   cases fl with
   | next=>exact False.elim h
   | brk=>exact False.elim h
   | cont=>exact False.elim h
   | ret u =>
    obtain ⟨v,H',os,bare,un,hok',r',q⟩:=h;have q':v=.bl true:=q;subst q';obtain rfl:u=Value.bool true:=r';have all:∀b o,D.heap.get? b=some o->s'.heap.get? b=some o\/∃more,b∈G.map (·.2)/\o=PySem.W.tabObj #[]/\s'.heap.get? b=some (PySem.W.tabObj (#[]++more)):=fun b o e=>by
     rcases hO b with z | ⟨_,ob,xs,z⟩ | ⟨m,z⟩
     ·exact .inl (un.keep b o e z (by intro z;exact absurd (show b∈([]:List Au) from z) (by simp)) (by simp))
     ·have z2:=un.frzs b ob _ z
      obtain ⟨e1,_⟩:=hok b _ z;obtain ⟨e2,_⟩:=hok' b _ z2;rw [e] at e1;cases e1;exact .inl e2
     ·obtain ⟨more,z2⟩:=un.tbls b _ z
      rw [I b m] at e;cases e;exact .inr ⟨more,m,rfl,hok' b _ z2⟩
    refine ⟨rfl,⟨fun b o e=>?_,fun b o e=>?_⟩,os,bare⟩
    ·rcases all b o e with z | ⟨more,m,rfl,z⟩
     ·exact .inl z
     ·obtain ⟨q,O,rfl⟩:=Qa2.mp m
      exact .inr (.inl ⟨((hT q O).1.tab (hT q O).2).isCodeTable,rfl,#[],more,rfl,z⟩)
    ·rcases all b o e with z | ⟨more,_,_,z⟩
     ·exact ⟨_,z⟩
     ·exact ⟨_,z⟩
 have tm:∀q∈G,q.2∈G.map (·.2):=fun q O=>Qcc O;cases hk:K.lookup a with
 | some o =>
  have e:=KX a o hk;rw [ha] at e;cases e;refine core (fun b=>if b∈G.map (·.2) then some (.tbl #[]) else none) (fun q O=>Qa1 (tm q O)) (fun b=>?_) (.inr ⟨_,vs.toArray,_,hk,rfl,rfl,rfl,by rw [Qbb,lenV];exact hl,by simpa using rv⟩) (fun b u z=>?_) (fun z=>absurd (Qaw aT) z)
  ·by_cases m:b∈G.map (·.2)
   ·exact .inr (.inr ⟨m,Qa1 m⟩)
   ·exact .inl (Qaw m)
  ·by_cases m:b∈G.map (·.2)
   ·have Y:=(Qa1 m).symm.trans z
    cases Y;exact I b m
   ·have Y:=(Qaw m).symm.trans z
    cases Y
 | none =>
  refine core (fun b=>if b∈G.map (·.2) then some (.tbl #[]) else if b=a then some (.frz { cls:=.type "list",data:=.seq vs.toArray } (.lst (C.map V.int))) else none) (fun q O=>Qa1 (tm q O)) (fun b=>?_) (.inl (.inr ⟨{ cls:=.type "list",data:=.seq vs.toArray },(Qaw aT).trans (Qa1 rfl)⟩)) (fun b u z=>?_) fun _=>hk
  ·grind
  ·by_cases m:b∈G.map (·.2)
   ·have Y:=(Qa1 m).symm.trans z
    cases Y;exact I b m
   ·by_cases hb:b=a
    ·have Y:=((Qaw m).trans (Qa1 hb)).symm.trans z
     cases Y;subst hb;exact ⟨ha,by rw [Qac];exact hl,vs,_,rv,ha⟩
    ·have Y:=((Qaw m).trans (Qaw hb)).symm.trans z
     cases Y
def walk_ofT{l:PySem.W.OpenLaw}{k:Nat}{XP:(Ae)->Heap->Prop}{YP:Ar->Heap->Prop}{d:DefRec}{K:Params->PySem.W.Frag}{CX:Ar->CXT}{sp:Ar->Sp}{q:List (Au × Au)}
  (hn:l.most=some n) (hn2:n<=sizeLine) (hdf:d.params.defaults=[]) (hr:WV k callerA)
  (hY:∀(w:Ar) (h:Heap),YP w h->(K w.params).In h)
  (I:∀(w:Ar) (O:ExcName->Option As) (mg mb:Ae) (h:Heap),Top P (PySem.W.looseW P N) O mg mb h->(K w.params).In h->PySem.W.TabsAt q h) (hKt:∀w:Ar,PySem.W.noTabs (K w.params)=true)
  (F:∀(w:Ar) (mg:Ae) (fa:Au) (h:Heap),(K w.params).In h->h.Ns mainGlobals mg->mg d.name=some (.ref fa) ->
   ∃fd:Am,(∀(s:Aq) (u:As),BindsTo s fd ⟨[u],[]⟩ [(x,u)]) /\
    ∀base:Heap,(K w.params).In base->base.Ns mainGlobals mg->(∀P∈q,PySem.W.CodeHd base P.1 P.2)->zF mg base->YA l.prog w (K w.params) mg base (CX w) k fa fd [x] (sp w))
  (hsp:∀(w:Ar) (H:Hp) (a:Au) (ns:Ak),ns.length<=n->(∀P∈q,H P.2=some (.tbl #[]))->SqL (K w.params) H a (ns.map V.int)->sp w [.ref a] H (fun v _=>v=.bl true) fun _ _ _=>False)
  (hCX:∀(w:Ar) (H:Hp) (s:Aq) (e:As) (s':Aq),CX w [] H s (fun _ _ _=>False) e s'->False) :
  PySem.W.WalkO P N XP YP l.row.toRowW d [] (fun f vs=>PySem.call f vs):=by
 refine Att.attach_call hn hdf fun w s₀ J mg mb fa o pm cd doc a vs ns G Y ho hd hcd hmg Z D C hg=>?_;have KX:=hY w _ Y;obtain ⟨fd,hb,hF⟩:=F w mg fa _ KX G.T.g hmg;exact Zao KX G.T.g G.T.b G.T.builtins G.T.nolimit hg Z D (Qa8 C hn2) hr (I w _ mg mb _ G.T KX) (hKt w) ⟨G.T.bmain⟩ hF hb (fun H hTb hS=>hsp w H a ns C hTb hS) fun H e s'=>hCX w H J e s'
theorem Fun.okC{w:Ar}{mg:Ae}{base:Heap}{qual:Str}{st:Aw}{f:Au}{fd:Am}{ps:Ai}{k:Nat}{sp:Sp}(F:Fun K x qual st f fd)(S:Zs N ps (Zg st))(len:∀vs H Q E,sp vs H Q E->vs.length=ps.length)
  (C:∀(A:Ao) (outer:List Env) (s:Aq) (H:Hp) (vs:A0) (Q:VK) (E:XK),WV k (A.deeper (envOfC qual (Zg st) s.heap.objs.size f fd.code))->sp vs H Q E ->
   ∃t,PSs (Zdk CX0 P w K mg base N qual (Zg st) f fd.code A outer s H E).nox (Xi st) t/\t { nx:=fun _ H'=>Q .non H',rt:=Q } (start N vs) H):YA P w K mg base CX0 (k + 1) f fd ps sp:=by
 obtain ⟨oc,od,kV,O,Y,Z,J,ct,I,rfl,G,hcd⟩:=F.ex;refine Zjn G hcd S len fun A outer s H vs Q E hr D=>?_;obtain ⟨t,h,q⟩:=C A outer s H vs Q E hr D;exact ⟨t,h.nox,q⟩
section
variable {prog:An}{w:Ar}{A:Ao}{E:Ab}{s:Aq}
end
section
variable {prog:An}{w:Ar}{K:Type}[DecidableEq K]{knd:KeyKind prog w K}{A:Ao}{R:Result->Shared->Prop}{d l it:Au}{items:Ag}
end
def Zd1{x y:V}(r:Vals [x,y] J):∃a b,J=[a,b]/\RelV x a/\RelV y b:=by
 cases r with
 | cons h1 t =>
  cases t with
  | cons h2 t =>
   cases t;exact ⟨_,_,rfl,h1,h2⟩
structure QPs(X:Cx)(pos:Pos)(keys:List (Option Av))(values:Al)(trs:List (TE × TE)):Prop where
 out:PPs X pos keys values trs
def vk:QPs X p [] [] []:=⟨Zhe⟩
def zG{k v:Av}{ks:List (Option Av)}{vs:Al}{tk:TE}{q:List (TE × TE)}(hk:QE X k tk)(hv:QE X v d)(hr:QPs X p ks vs q):QPs X p (some k::ks) (v::vs) ((tk,d)::q):=⟨Zdw hk.out hv.out hr.out⟩
def vm{keys:List (Option Av)}{C:List (TE × TE)}(h:QPs X p keys B C)(q:keys.all (·.isSome)=true)(hl:keys.length=B.length)(G:keys≠[])(D:keys.length<=15):QE X (.Dict keys B p) (Zju C):=⟨Zhf h.out q hl G D⟩
end L2
namespace ZpT
def Yr:Bool->Heap->Addr->Addr->Nat->Prop
 | true,h,it,l,k=>h.IsTupleIter it l k
 | false,h,it,l,k=>h.IsListIter it l k
def SeqAt:Bool->Heap->Addr->Array As->Prop
 | true,h,l,xs=>h.IsTuple l xs
 | false,h,l,xs=>h.IsList l xs
def Yr.mv{b:Bool}{h':Heap}{it:Au}{k:Nat}(x:Yr b h it l k)(f:∀o,h.get? it=some o->h'.get? it=some o):Yr b h' it l k:=by
 cases b
 ·exact Heap.IsListIter.at x f
 ·exact Heap.IsTupleIter.at x f
def SeqAt.mv{b:Bool}{h':Heap}{xs:Ah}(x:SeqAt b h l xs)(f:∀o,h.get? l=some o->h'.get? l=some o):SeqAt b h' l xs:=by
 cases b
 ·obtain ⟨o,ho,r⟩:=(show h.IsList l xs from x)
  exact (show h'.IsList l xs from ⟨o,f o ho,r⟩)
 ·obtain ⟨o,ho,r⟩:=(show h.IsTuple l xs from x)
  exact (show h'.IsTuple l xs from ⟨o,f o ho,r⟩)
def Yr.ob{b:Bool}{it:Au}{k:Nat}(x:Yr b h it l k):∃o,h.get? it=some o/\∀v,o.data≠.cell v:=by
 cases b
 ·obtain ⟨o,ho,hc,hd⟩:=(show h.IsListIter it l k from x)
  exact ⟨o,ho,fun v z=>by rw [hd] at z;cases z⟩
 ·obtain ⟨o,ho,hc,hd⟩:=(show h.IsTupleIter it l k from x)
  exact ⟨o,ho,fun v z=>by rw [hd] at z;cases z⟩
def zO (f0:As) (b:Bool) (TI TO:Au):Obj:={ cls:=.type "zip",dict:=none,data:=.fields #[f0,.bool b,.bool false,.ref TI,.ref TO],slots:=#[] }
def F0(f0:As):Prop:=f0=.none\/∃T:Au,f0=rawInt T
structure Ap(z TI TO i1 i2:Au):Prop where
 TIz:TI≠z
 TOz:TO≠z
 i1z:i1≠z
 i2z:i2≠z
 TITO:TI≠TO
 TIi1:TI≠i1
 TIi2:TI≠i2
 TOi1:TO≠i1
 TOi2:TO≠i2
 i12:i1≠i2
section
variable {prog:An}{w:Ar}{A:Ao}{E:Ab}{s:Aq}
def JX{b:Bool}{it:Au}{k:Nat}{xs:Ah}{x:As}(q:Yr b s.heap it l k)(hl:SeqAt b s.heap l xs)(hx:xs[k]?=some x)
  (C:∀h',Yr b h' it l (k + 1)->Heap.SameBut it s.heap h'->Q x { s with heap:=h' }):A1 prog w A (Builtin.SmallTypes.nextOf (.ref it)) Q E s:=by
 cases b
 ·exact wpAny_nextOf_list_item q hl hx C
 ·exact EnT.next_of q hl hx C
def kM{b:Bool}{it:Au}{k:Nat}{xs:Ah}(hh:A.handled=none)(q:Yr b s.heap it l k)(hl:SeqAt b s.heap l xs)(hx:xs[k]?=none)
  (C:∀h' e,Heap.ExtBut it s.heap h'->(∃o,h'.get? e=some o/\o.cls=.type "StopIteration")->E (.ref e) { s with heap:=h' }):A1 prog w A (Builtin.SmallTypes.nextOf (.ref it)) Q E s:=by
 cases b
 ·exact wpAny_nextOf_list_end hh q hl hx C
 ·exact EnT.next_no hh q hl hx C
def alive{Q:Option Obj->Shared->Prop}(h:Q (s.heap.get? a) s):A1 prog w A (loadIfAlive a) Q E s:=fun Γ p _=>h
def Zap{z:Au}{f0:As}{Q:Bool->Shared->Prop}(hz:s.heap.get? z=some (zO f0 j a l))(hf:F0 f0)
  (h:∀r h' G,h'.get? z=some (zO f0 G a l)->Heap.SameBut z s.heap h'->Q r { s with heap:=h' }):A1 prog w A (Builtin.SmallTypes.ownedTupleIsFree (.ref z)) Q E s:=by
 refine Qaa (Qbx hz rfl (x:=f0) rfl ?_);rcases hf with rfl | ⟨T,rfl⟩
 ·exact Qad (h true s.heap j hz ⟨rfl,fun _ _=>rfl⟩)
 ·refine Qaa (alive ?_)
  cases hT:s.heap.get? (Int.toNat (T:Int)) with
  | none=>exact Qad (h true s.heap j hz ⟨rfl,fun _ _=>rfl⟩)
  | some o =>
   refine Qaa (Qbx hz rfl (x:=.bool j) rfl ?_);cases j
   ·refine Qaa (Qb0 hz (by simp) fun D q C=>Qad ?_)
    exact h false D true q C
   ·exact Qad (h false s.heap true hz ⟨rfl,fun _ _=>rfl⟩)
end
end ZpT
namespace ZpT
structure Of(z TO i1 i2 l:Au):Prop where
 z:l≠z
 o:l≠TO
 i:l≠i1
 j:l≠i2
structure St(b1 b2:Bool)(z TI TO i1 i2 l1 l2:Au)(k1 k2:Nat)(h:Heap):Prop where
 z:∃f0 fb,h.get? z=some (zO f0 fb TI TO)/\F0 f0
 I:IsPair h TI (.ref i1) (.ref i2)
 O:∃a b,IsPair h TO a b
 n1:Yr b1 h i1 l1 k1
 n2:Yr b2 h i2 l2 k2
section
variable {prog:An}{w:Ar}{A:Ao}{E:Ab}{s:Aq}
def item{b1 b2:Bool}{z i1 i2 l1 l2:Au}{xs ys:Ah}{x y:As}(D:Ap z l Z i1 i2)(D1:Of z Z i1 i2 l1)(D2:Of z Z i1 i2 l2)
  (S:St b1 b2 z l Z i1 i2 l1 l2 n L s.heap) (q1:SeqAt b1 s.heap l1 xs) (q2:SeqAt b2 s.heap l2 ys) (hx:xs[n]?=some x) (hy:ys[L]?=some y)
  (hQ:∀h',St b1 b2 z l Z i1 i2 l1 l2 (n + 1) (L + 1) h'->IsPair h' s.heap.objs.size x y ->
   (∀c o,c≠z->c≠Z->c≠i1->c≠i2->s.heap.get? c=some o->h'.get? c=some o)->Q (.ref s.heap.objs.size) { s with heap:=h' }) :
  A1 prog w A (Builtin.«zip.__next__» ⟨[.ref z],[]⟩) (fun fin s'=>∃v,fin=.done (.ret v)/\Q v s') E s:=by
 obtain ⟨⟨f0,fb,hz,hf⟩,hTI,⟨a,b,hTO⟩,n1,n2⟩:=S;show wpAny _ _ (field (.ref z) 2 >>= _) _ _ _;refine Qaa (Qbx hz rfl (x:=.bool false) rfl ?_);show wpAny _ _ (field (.ref z) 3 >>= _) _ _ _;refine Qaa (Qbx hz rfl (x:=.ref l) rfl ?_);refine Qaa (Qbw hTI rfl ?_);show wpAny _ _ (Builtin.SmallTypes.ownedTupleIsFree (.ref z) >>= _) _ _ _;refine Qaa (Zap hz hf fun r h0 fb' hz0 hs0=>?_);have hz0':h0.get? z=some (zO f0 fb' l Z):=hz0;have hTO0:IsPair h0 Z a b:=hs0.extBut _ _ D.TOz hTO;have hTI0:IsPair h0 l (.ref i1) (.ref i2):=hs0.extBut _ _ D.TIz hTI;have n10:Yr b1 h0 i1 l1 n:=n1.mv fun o e=>hs0.extBut _ _ D.i1z e;have n20:Yr b2 h0 i2 l2 L:=n2.mv fun o e=>hs0.extBut _ _ D.i2z e;have q10:SeqAt b1 h0 l1 xs:=q1.mv fun o e=>hs0.extBut _ _ D1.z e;have q20:SeqAt b2 h0 l2 ys:=q2.mv fun o e=>hs0.extBut _ _ D2.z e;cases r with
 | true =>
  simp only [Qhg];refine Qaa (Qc1 ?_);refine Qaa (Qbx hz0 rfl (x:=.ref Z) rfl ?_);refine Qaa (Qb0 hz0 (by simp) fun h₁ hz₁ J=>?_)
  replace hz₁:h₁.get? z=some (zO .ellipsis fb' l Z):=hz₁
  refine Qaa ?_;simp only [List.zipIdx_cons,List.zipIdx_nil,Qem,Qgu];refine Qaa (Qaa (Qg9 ?_));show wpAny _ _ (Builtin.SmallTypes.nextOf (.ref i1) >>= _) _ _ _;refine Qaa (JX (n10.mv fun o e=>J.extBut _ _ D.i1z e) (q10.mv fun o e=>J.extBut _ _ D1.z e) hx fun h₂ h1₂ q=>Qad ?_);have hTO₂:IsPair h₂ Z a b:=q.extBut _ _ D.TOi1 (J.extBut _ _ D.TOz hTO0);refine Qaa (Qbw hTO₂ rfl ?_);refine Qaa (Qfz hTO₂ fun I hTO₃ C=>?_)
  replace hTO₃:IsPair I Z x b:=hTO₃
  refine Qaa (Qen (Qad ?_));refine Qaa (Qaa (Qg9 ?_));show wpAny _ _ (Builtin.SmallTypes.nextOf (.ref i2) >>= _) _ _ _;refine Qaa (JX (n20.mv fun o e=>C.extBut _ _ D.TOi2.symm (q.extBut _ _ D.i12.symm (J.extBut _ _ D.i2z e)))
   (q20.mv fun o e=>C.extBut _ _ D2.o (q.extBut _ _ D2.i (J.extBut _ _ D2.z e))) hy fun h₄ h2₄ hs₄=>Qad ?_)
  have hTO₄:IsPair h₄ Z x b:=hs₄.extBut _ _ D.TOi2 hTO₃;refine Qaa (Qbw hTO₄ rfl ?_);refine Qaa (Qfz hTO₄ fun G O Y=>?_)
  replace O:IsPair G Z x y:=O
  refine Qaa (Qen (Qad (Qad ?_)));refine Qaa (Qbw O rfl ?_);refine Qaa (Qgs ?_);have hsz:G.objs.size=s.heap.objs.size:=by rw [Y.1,hs₄.1,C.1,q.1,J.1];exact hs0.1
  have hz₅:G.get? z=some (zO .ellipsis fb' l Z):=Y.extBut _ _ D.TOz.symm (hs₄.extBut _ _ D.i2z.symm (C.extBut _ _ D.TOz.symm (q.extBut _ _ D.i1z.symm hz₁)));have hk₅:∀c o,c≠z->c≠Z->c≠i1->c≠i2->s.heap.get? c=some o->G.get? c=some o:=fun c o c1 c2 c3 c4 e =>
   Y.extBut _ _ c2 (hs₄.extBut _ _ c4 (C.extBut _ _ c2 (q.extBut _ _ c3 (J.extBut _ _ c1 (hs0.extBut _ _ c1 e)))))
  have h1₅:Yr b1 G i1 l1 (n + 1):=h1₂.mv fun o e=>Y.extBut _ _ D.TOi1.symm (hs₄.extBut _ _ D.i12 (C.extBut _ _ D.TOi1.symm e));have h2₅:Yr b2 G i2 l2 (L + 1):=h2₄.mv fun o e=>Y.extBut _ _ D.TOi2.symm e;have hzlt:z < G.objs.size:=Qap hz₅;show wpAny _ _ (Builtin.SmallTypes.ownedTupleHandOut (.ref z) (.ref G.objs.size) >>= _) _ _ _;refine Qaa ?_;unfold Builtin.SmallTypes.ownedTupleHandOut;have hz₆:(G.push { cls:=.type "tuple",data:=.seq #[x,y] }).get? z=some (zO .ellipsis fb' l Z):=Qab _ hz₅;refine Qaa (Qb0 hz₆ (by simp) fun h₇ hz₇ hs₇=>?_)
  replace hz₇:h₇.get? z=some (zO (rawInt G.objs.size) fb' l Z):=hz₇
  refine Qb0 hz₇ (by simp) fun h₈ hz₈ hs₈=>?_
  replace hz₈:h₈.get? z=some (zO (rawInt G.objs.size) false l Z):=hz₈
  have up:∀c o,c≠z->G.get? c=some o->h₈.get? c=some o:=fun c o c1 e=>hs₈.extBut _ _ c1 (hs₇.extBut _ _ c1 (Qab _ e));have hT₈:IsPair h₈ G.objs.size x y:=hs₈.extBut _ _ (Qeb hzlt) (hs₇.extBut _ _ (Qeb hzlt) (Qak _ rfl));rw [hsz] at hz₈ hT₈;refine Qad ⟨_,rfl,?_⟩;show Q (.ref G.objs.size) _;rw [hsz];exact hQ h₈ ⟨⟨_,_,hz₈,.inr ⟨_,rfl⟩⟩,up _ _ D.TIz (hk₅ _ _ D.TIz D.TITO D.TIi1 D.TIi2 hTI),⟨_,_,up _ _ D.TOz O⟩,h1₅.mv fun o e=>up _ o D.i1z e,h2₅.mv fun o e=>up _ o D.i2z e⟩ hT₈ fun c o c1 c2 c3 c4 e=>up c o c1 (hk₅ c o c1 c2 c3 c4 e)
 | false =>
  simp only [Qbo,Qf4];refine Qaa ?_;simp only [<-Array.forIn_toList,Qem,Qgu];refine Qaa (Qaa (Qcp ?_));show wpAny _ _ (Builtin.SmallTypes.nextOf (.ref i1) >>= _) _ _ _;refine Qaa (JX n10 q10 hx fun h₂ h1₂ q=>Qad (Qad ?_));refine Qaa (Qaa (Qcp ?_));show wpAny _ _ (Builtin.SmallTypes.nextOf (.ref i2) >>= _) _ _ _;refine Qaa (JX (n20.mv fun o e=>q.extBut _ _ D.i12.symm e) (q20.mv fun o e=>q.extBut _ _ D2.i e) hy fun I h2₃ C=>Qad (Qad (Qad ?_)));refine Qaa (Qgs (hsz:=(show 2<=sizeLine by decide)) (Qad ⟨_,rfl,?_⟩));have hsz:I.objs.size=s.heap.objs.size:=by rw [C.1,q.1];exact hs0.1
  have hk₃:∀c o,c≠z->c≠i1->c≠i2->s.heap.get? c=some o->I.get? c=some o:=fun c o c1 c3 c4 e=>C.extBut _ _ c4 (q.extBut _ _ c3 (hs0.extBut _ _ c1 e));have zz:I.get? z=some (zO f0 fb' l Z):=C.extBut _ _ D.i2z.symm (q.extBut _ _ D.i1z.symm hz0');have hT:IsPair (I.push { cls:=.type "tuple",data:=.seq #[x,y] }) I.objs.size x y:=Qak _ rfl;show Q (.ref I.objs.size) { s with heap:=I.push { cls:=.type "tuple",data:=.seq #[x,y] } };rw [hsz] at hT ⊢;have up:∀c o,I.get? c=some o->(I.push { cls:=.type "tuple",data:=.seq #[x,y] }).get? c=some o:=fun c o e=>Qab _ e;exact hQ _ ⟨⟨_,_,up _ _ zz,hf⟩,up _ _ (hk₃ _ _ D.TIz D.TIi1 D.TIi2 hTI),⟨_,_,up _ _ (hk₃ _ _ D.TOz D.TOi1 D.TOi2 hTO)⟩,h1₂.mv fun o e=>up _ _ (C.extBut _ _ D.i12 e),h2₃.mv fun o e=>up _ _ e⟩ hT fun c o c1 c2 c3 c4 e=>up c o (hk₃ c o c1 c3 c4 e)
end
end ZpT
namespace ZpT
section
variable {prog:An}{w:Ar}{A:Ao}{E:Ab}{s:Aq}
def fin{b1 b2:Bool}{z i1 i2 l1 l2:Au}{xs ys:Ah}{Q:Fin->Shared->Prop}(hh:A.handled=none)(D:Ap z l Z i1 i2)(D1:Of z Z i1 i2 l1)(D2:Of z Z i1 i2 l2)
  (S:St b1 b2 z l Z i1 i2 l1 l2 n L s.heap) (q1:SeqAt b1 s.heap l1 xs) (q2:SeqAt b2 s.heap l2 ys) (hend:xs[n]?=none\/ys[L]?=none)
  (hE:∀h' e,(∀c o,c≠z->c≠Z->c≠i1->c≠i2->s.heap.get? c=some o->h'.get? c=some o)->(∃o,h'.get? e=some o/\o.cls=.type "StopIteration")->E (.ref e) { s with heap:=h' }) :
  A1 prog w A (Builtin.«zip.__next__» ⟨[.ref z],[]⟩) Q E s:=by
 obtain ⟨⟨f0,fb,hz,hf⟩,hTI,⟨a,b,hTO⟩,n1,n2⟩:=S;show wpAny _ _ (field (.ref z) 2 >>= _) _ _ _;refine Qaa (Qbx hz rfl (x:=.bool false) rfl ?_);show wpAny _ _ (field (.ref z) 3 >>= _) _ _ _;refine Qaa (Qbx hz rfl (x:=.ref l) rfl ?_);refine Qaa (Qbw hTI rfl ?_);show wpAny _ _ (Builtin.SmallTypes.ownedTupleIsFree (.ref z) >>= _) _ _ _;refine Qaa (Zap hz hf fun r h0 fb' hz0 I=>?_);have hz0':h0.get? z=some (zO f0 fb' l Z):=hz0;have hTO0:IsPair h0 Z a b:=I.extBut _ _ D.TOz hTO;have hTI0:IsPair h0 l (.ref i1) (.ref i2):=I.extBut _ _ D.TIz hTI;have n10:Yr b1 h0 i1 l1 n:=n1.mv fun o e=>I.extBut _ _ D.i1z e;have n20:Yr b2 h0 i2 l2 L:=n2.mv fun o e=>I.extBut _ _ D.i2z e;have q10:SeqAt b1 h0 l1 xs:=q1.mv fun o e=>I.extBut _ _ D1.z e;have q20:SeqAt b2 h0 l2 ys:=q2.mv fun o e=>I.extBut _ _ D2.z e;cases r with
 | true =>
  simp only [Qhg];refine Qaa (Qc1 ?_);refine Qaa (Qbx hz0 rfl (x:=.ref Z) rfl ?_);refine Qaa (Qb0 hz0 (by simp) fun h₁ O G=>?_)
  replace O:h₁.get? z=some (zO .ellipsis fb' l Z):=O
  refine Qaa ?_;simp only [List.zipIdx_cons,List.zipIdx_nil,Qem,Qgu];refine Qaa (Qaa (Qg9 ?_));show wpAny _ _ (Builtin.SmallTypes.nextOf (.ref i1) >>= _) _ _ _;cases hx:xs[n]? with
  | none =>
   refine Qaa (kM hh (n10.mv fun o e=>G.extBut _ _ D.i1z e) (q10.mv fun o e=>G.extBut _ _ D1.z e) hx fun J e q he=>?_);obtain ⟨oe,Y,hce⟩:=he;have hz₂:J.get? z=some (zO .ellipsis fb' l Z):=q _ _ D.i1z.symm O;have hez:e≠z:=fun x=>by subst x;rw [hz₂] at Y;cases Y;simp [zO] at hce
   refine Qb0 hz₂ (by simp) fun h₃ _ C=>hE h₃ e (fun c o c1 _ c3 _ x=>C.extBut _ _ c1 (q _ _ c3 (G.extBut _ _ c1 (I.extBut _ _ c1 x)))) ⟨oe,C.extBut _ _ hez Y,hce⟩
  | some x =>
   have hy:ys[L]?=none:=by rcases hend with h | h;rw [hx] at h;cases h;exact h
   refine Qaa (JX (n10.mv fun o e=>G.extBut _ _ D.i1z e) (q10.mv fun o e=>G.extBut _ _ D1.z e) hx fun J h1₂ q=>Qad ?_);have hTO₂:IsPair J Z a b:=q.extBut _ _ D.TOi1 (G.extBut _ _ D.TOz hTO0);refine Qaa (Qbw hTO₂ rfl ?_);refine Qaa (Qfz hTO₂ fun h₃ hTO₃ C=>?_);refine Qaa (Qen (Qad ?_));refine Qaa (Qaa (Qg9 ?_));show wpAny _ _ (Builtin.SmallTypes.nextOf (.ref i2) >>= _) _ _ _;refine Qaa (kM hh (n20.mv fun o e=>C.extBut _ _ D.TOi2.symm (q.extBut _ _ D.i12.symm (G.extBut _ _ D.i2z e)))
    (q20.mv fun o e=>C.extBut _ _ D2.o (q.extBut _ _ D2.i (G.extBut _ _ D2.z e))) hy fun h₄ e hs₄ he=>?_)
   obtain ⟨oe,Y,hce⟩:=he;have hz₄:h₄.get? z=some (zO .ellipsis fb' l Z):=hs₄ _ _ D.i2z.symm (C.extBut _ _ D.TOz.symm (q.extBut _ _ D.i1z.symm O));have hez:e≠z:=fun x=>by subst x;rw [hz₄] at Y;cases Y;simp [zO] at hce
   refine Qb0 hz₄ (by simp) fun h₅ _ hs₅=>hE h₅ e (fun c o c1 c2 c3 c4 x=>hs₅.extBut _ _ c1 (hs₄ _ _ c4 (C.extBut _ _ c2 (q.extBut _ _ c3 (G.extBut _ _ c1 (I.extBut _ _ c1 x)))))) ⟨oe,hs₅.extBut _ _ hez Y,hce⟩
 | false =>
  simp only [Qbo,Qf4];refine Qaa ?_;simp only [<-Array.forIn_toList,Qem,Qgu];refine Qaa (Qaa (Qcp ?_));show wpAny _ _ (Builtin.SmallTypes.nextOf (.ref i1) >>= _) _ _ _;cases hx:xs[n]? with
  | none=>exact Qaa (kM hh n10 q10 hx fun J e q he=>hE J e (fun c o c1 _ c3 _ x=>q _ _ c3 (I.extBut _ _ c1 x)) he)
  | some x =>
   have hy:ys[L]?=none:=by rcases hend with h | h;rw [hx] at h;cases h;exact h
   refine Qaa (JX n10 q10 hx fun J h1₂ q=>Qad (Qad ?_));refine Qaa (Qaa (Qcp ?_));show wpAny _ _ (Builtin.SmallTypes.nextOf (.ref i2) >>= _) _ _ _;exact Qaa (kM hh (n20.mv fun o e=>q.extBut _ _ D.i12.symm e) (q20.mv fun o e=>q.extBut _ _ D2.i e) hy fun h₃ e C he=>hE h₃ e (fun c o c1 _ c3 c4 x=>C _ _ c4 (q.extBut _ _ c3 (I.extBut _ _ c1 x))) he)
def next_item{b1 b2:Bool}{z i2 l1 l2:Au}{xs ys:Ah}{x y:As}{Q:Aa}(D:Ap z a l Z i2)(G:Of z l Z i2 l1)(O:Of z l Z i2 l2)
  (S:St b1 b2 z a l Z i2 l1 l2 i n s.heap) (Y:SeqAt b1 s.heap l1 xs) (I:SeqAt b2 s.heap l2 ys) (hx:xs[i]?=some x) (C:ys[n]?=some y)
  (J:∀h',St b1 b2 z a l Z i2 l1 l2 (i + 1) (n + 1) h'->IsPair h' s.heap.objs.size x y ->
   (∀c o,c≠z->c≠l->c≠Z->c≠i2->s.heap.get? c=some o->h'.get? c=some o)->Q (some (.ref s.heap.objs.size)) { s with heap:=h' }) :
  A1 prog w A (pyNext (.ref z)) Q E s:=by
 obtain ⟨f0,fb,hz,hf⟩:=S.z;have q:s.TypeIs (.ref z) "zip" := ⟨_,hz,rfl⟩;exact Qaa (Qde (wpAny_callSpecial?_slot (name:=Str.ofString "__next__") q Qfd
  (Qbc Qfd q F.entry_zip_next (item D G O S Y I hx C fun h' a1 a2 a3=>Qad (J h' a1 a2 a3)) (F.args_zip_next_1 _))))
def next_end{b1 b2:Bool}{z i2 l1 l2:Au}{xs ys:Ah}{Q:Aa}(hh:A.handled=none)(D:Ap z a l Z i2)(Y:Of z l Z i2 l1)(J:Of z l Z i2 l2)
  (S:St b1 b2 z a l Z i2 l1 l2 i n s.heap) (O:SeqAt b1 s.heap l1 xs) (G:SeqAt b2 s.heap l2 ys) (q:xs[i]?=none\/ys[n]?=none)
  (I:∀h',(∀c o,c≠z->c≠l->c≠Z->c≠i2->s.heap.get? c=some o->h'.get? c=some o)->Q none { s with heap:=h' }) :
  A1 prog w A (pyNext (.ref z)) Q E s:=by
 obtain ⟨f0,fb,hz,hf⟩:=id S.z;have C:s.TypeIs (.ref z) "zip" := ⟨_,hz,rfl⟩;refine Qaa (Qde (wpAny_callSpecial?_slot (name:=Str.ofString "__next__") C Qfd (Qbc Qfd C F.entry_zip_next ?_ (F.args_zip_next_1 _))));refine fin hh D Y J S O G q fun h' e hk he=>?_;obtain ⟨o,ho,hc⟩:=he;exact Qaa (Qda (T := "StopIteration") (b:=true) ⟨o,ho,hc⟩ Qfl (Qad (I _ hk)))
def iter_self{z:Au}{f0:As}(hz:s.heap.get? z=some (zO f0 j a l))(h:Q (.ref z) s):A1 prog w A (pyIter (.ref z)) Q E s:=by
 have q:s.TypeIs (.ref z) "zip" := ⟨_,hz,rfl⟩;refine Qfk q F.slot_zip_iter (Qbc F.slot_zip_iter q F.entry_zip_iter ?_ (F.args_zip_iter_1 _));exact Qad ⟨_,rfl,"zip",_,q,Qfd.lookup,h⟩
end
end ZpT
namespace ZpT
def itO (b:Bool) (l:Au):Obj:={ cls:=.type (if b then "tuple_iterator" else "list_iterator"),data:=.fields #[.ref l,.int 0 0] }
def hz1(b1:Bool)(h:Heap)(l1:Au):Heap:=h.push (itO b1 l1)
def hz2(b1 b2:Bool)(h:Heap)(l1 l2:Au):Heap:=(hz1 b1 h l1).push (itO b2 l2)
def hz3 (b1 b2:Bool) (h:Heap) (l1 l2:Au):Heap:=(hz2 b1 b2 h l1 l2).push { cls:=.type "tuple",data:=.seq #[.ref h.objs.size,.ref (hz1 b1 h l1).objs.size] }
def hz4 (b1 b2:Bool) (h:Heap) (l1 l2:Au):Heap:=(hz3 b1 b2 h l1 l2).push { cls:=.type "tuple",data:=.seq #[.none,.none] }
def hz5(b1 b2:Bool)(h:Heap)(l1 l2:Au):Heap:=(hz4 b1 b2 h l1 l2).push (zO .none false (hz2 b1 b2 h l1 l2).objs.size (hz3 b1 b2 h l1 l2).objs.size)
section
variable {prog:An}{w:Ar}{A:Ao}{E:Ab}{s:Aq}
def jZ{b:Bool}{xs:Ah}(hl:SeqAt b s.heap l xs)(h:Q (.ref s.heap.objs.size) { s with heap:=s.heap.push (itO b l) }):A1 prog w A (pyIter (.ref l)) Q E s:=by
 cases b
 ·exact Qeu hl h
 ·exact Qek hl h
end
theorem Wo(b1 b2:Bool)(l1 l2:Au)(xs ys:Ah) :
  Meets (Builtin.«zip.__new__» ⟨[.type "zip",.ref l1,.ref l2],[]⟩) (fun _ R s=>SeqAt b1 s.heap l1 xs/\SeqAt b2 s.heap l2 ys /\
   R (.ok (.ret (.ref (hz4 b1 b2 s.heap l1 l2).objs.size))) { s with heap:=hz5 b1 b2 s.heap l1 l2 }) :=
 .of_wp fun prog w A R s h=>by
  obtain ⟨hp,g,d,tk,os⟩:=s;obtain ⟨G,q,h⟩:=h;have I:=sub_zip;have D:SeqAt b1 (Shared.heap ⟨hp,g,d,tk,os⟩) l1 xs:=G;have C:SeqAt b2 (Shared.heap ⟨hp.push (itO b1 l1),g,d,tk,os⟩) l2 ys:=q.mv fun o e=>Qab _ e
  wp_walk using jZ D,jZ C
  exact ⟨_,rfl,h⟩
section
variable {prog:An}{w:Ar}{A:Ao}{E:Ab}{s:Aq}
def kO{b:Bool}{it:Au}(e:h.get? it=some (itO b l)):Yr b h it l 0:=by
 cases b
 ·exact (show h.IsListIter it l 0 from ⟨_,e,rfl,rfl⟩)
 ·exact (show h.IsTupleIter it l 0 from ⟨_,e,rfl,rfl⟩)
def call_new{b1 b2:Bool}{l1 l2:Au}{xs ys:Ah}(O:SeqAt b1 s.heap l1 xs)(G:SeqAt b2 s.heap l2 ys)
  (h:∀h',St b1 b2 (s.heap.objs.size + 4) (s.heap.objs.size + 2) (s.heap.objs.size + 3) s.heap.objs.size (s.heap.objs.size + 1) l1 l2 0 0 h'->(∀c o,s.heap.get? c=some o->h'.get? c=some o)->Q (.ref (s.heap.objs.size + 4)) { s with heap:=h' }) :
  A1 prog w A (call (.type "zip") [.ref l1,.ref l2]) Q E s:=by
 refine Qhj F.called_zip (by decide) (F.typeCall_zip_2 _ _) (F.newCall_zip_2 _ _) (fun J=>F.args_object_init_3 J _ _) F.entry_zip_new (Wo b1 b2 l1 l2 xs ys) ⟨O,G,?_⟩;have D:(hz1 b1 s.heap l1).objs.size=s.heap.objs.size + 1:=Qbv ..;have I:(hz2 b1 b2 s.heap l1 l2).objs.size=s.heap.objs.size + 2:=by unfold hz2;rw [Qbv,D]
 have q:(hz3 b1 b2 s.heap l1 l2).objs.size=s.heap.objs.size + 3:=by unfold hz3;rw [Qbv,I]
 have z4:(hz4 b1 b2 s.heap l1 l2).objs.size=s.heap.objs.size + 4:=by unfold hz4;rw [Qbv,q]
 have C:(hz5 b1 b2 s.heap l1 l2).get? (hz4 b1 b2 s.heap l1 l2).objs.size=some (zO .none false (hz2 b1 b2 s.heap l1 l2).objs.size (hz3 b1 b2 s.heap l1 l2).objs.size):=Qak _ rfl;have g4:(hz5 b1 b2 s.heap l1 l2).get? (hz3 b1 b2 s.heap l1 l2).objs.size=some { cls:=.type "tuple",data:=.seq #[.none,.none] }:=Qab _ (Qak _ rfl);have Y:(hz5 b1 b2 s.heap l1 l2).get? (hz2 b1 b2 s.heap l1 l2).objs.size=some { cls:=.type "tuple",data:=.seq #[.ref s.heap.objs.size,.ref (hz1 b1 s.heap l1).objs.size] }:=Qab _ (Qab _ (Qak _ rfl));have Z:(hz5 b1 b2 s.heap l1 l2).get? (hz1 b1 s.heap l1).objs.size=some (itO b2 l2):=Qab _ (Qab _ (Qab _ (Qak _ rfl)));have g1:(hz5 b1 b2 s.heap l1 l2).get? s.heap.objs.size=some (itO b1 l1):=Qab _ (Qab _ (Qab _ (Qab _ (Qak _ rfl))));rw [I,q,z4] at C;rw [D,I] at Y;rw [q] at g4;rw [D] at Z;rw [z4];exact ⟨⟨_,C,rfl⟩,h _ ⟨⟨_,_,C,.inl rfl⟩,Y,⟨_,_,g4⟩,kO g1,kO Z⟩ fun c o x =>
  Qab _ (Qab _ (Qab _ (Qab _ (Qab _ x))))⟩
theorem St.other{b1 b2:Bool}{z i1 i2 l1 l2:Au}{h':Heap}(D:Ap z l Z i1 i2)(S:St b1 b2 z l Z i1 i2 l1 l2 i n h){f0:As}(hz:h'.get? z=some (zO f0 j l Z))(hf:F0 f0)(hs:Heap.SameBut z h h'):St b1 b2 z l Z i1 i2 l1 l2 i n h' :=
 ⟨⟨f0,j,hz,hf⟩,hs.extBut _ _ D.TIz S.I,(let ⟨a,b,e⟩:=S.O;⟨a,b,hs.extBut _ _ D.TOz e⟩),S.n1.mv fun o e=>hs.extBut _ _ D.i1z e,S.n2.mv fun o e=>hs.extBut _ _ D.i2z e⟩
def go_any{b1 b2:Bool}{z i2 l1 l2 T:Au}{tg:Av}{Q:Unit->Shared->Prop}(D:Ap z a l Z i2)(S:St b1 b2 z a l Z i2 l1 l2 i L s.heap)
  (h:∀h',St b1 b2 z a l Z i2 l1 l2 i L h'->Heap.SameBut z s.heap h'->Q () { s with heap:=h' }):A1 prog w A (letOwnedTupleGo tg (.ref z) (.ref T)) Q E s:=by
 have G:Q () s:=h s.heap S ⟨rfl,fun _ _=>rfl⟩;obtain ⟨f0,I,hz,hf⟩:=id S.z;have tup:A1 prog w A (do
   let o <-load z
   match o.cls,o.data with
   | .type n,.fields vs =>
    if ["enumerate","zip","dict_itemiterator","dict_reverseitemiterator","odict_iterator","itertools.zip_longest","itertools.pairwise"].contains n && vs[0]? == some (rawInt T) then
     rule "for.unpacks-the-owned-tuple"
     updateField z 0 .none
   | _,_=>pure ()) Q E s:=by
  refine Qaa (wpAny_load hz ?_);show wpAny _ _ (if (["enumerate","zip","dict_itemiterator","dict_reverseitemiterator","odict_iterator","itertools.zip_longest","itertools.pairwise"].contains "zip" && (#[f0,.bool I,.bool false,.ref a,.ref l]:Ah)[0]? == some (rawInt T))=true then _ else _) Q E s
  split
  ·refine Qaa (Qc1 ?_)
   exact Qb0 hz (by simp) fun h' C q=>h h' (S.other D (f0:=.none) C (.inl rfl) q) q
  ·exact Qad G
 cases tg <;> first
  | exact tup
  | exact Qad G
end
end ZpT
namespace L2
open ZpT (St Ap Of SeqAt Yr)
def SqB(K:Af):Bool->Hp->Addr->List V->Prop
 | true,H,a,xs=>SqT K H a xs
 | false,H,a,xs=>SqL K H a xs
def SqB.t{xs:A0}(h:H a=some (.tup xs)):SqB K true H a xs:=(SqT.of h:SqT K H a xs)
def Inv.sqB{X:Cx}{σ:L2.St}{xs:A0}{b:Bool}(I:Inv X z σ H s)(h:SqB X.K b H a xs):∃q:Ag,Vals xs q/\SeqAt b s.heap a q.toArray/\xs.length<=sizeLine:=by
 cases b
 ·obtain ⟨q,C,p,hz⟩:=I.list (show SqL X.K H a xs from h)
  obtain ⟨o,n,e,hc,_,hd⟩:=p;exact ⟨q,C,(show s.heap.IsList a q.toArray from ⟨o,e,hc,n,hd⟩),hz⟩
 ·obtain ⟨q,C,p,hz⟩:=I.tuple (show SqT X.K H a xs from h)
  exact ⟨q,C,(show s.heap.IsTuple a q.toArray from p),hz⟩
def Inv.sqB_inj{X:Cx}{σ:L2.St}{xs ys:A0}{b:Bool}(I:Inv X z σ H s)(h:SqB X.K b H a xs)(h':SqB X.K b H a ys):xs=ys:=by
 cases b
 ·exact I.list_inj h h'
 ·exact I.tuple_inj h h'
def Itz(K:Af)(b1 b2:Bool)(a1 a2:Au):It :=
  ⟨fun i H=>∃xs ys x y,SqB K b1 H a1 xs/\SqB K b2 H a2 ys/\xs[i]?=some x/\ys[i]?=some y,
   fun i H v H'=>∃p,H p=none/\v=.ref p/\∀xs ys x y,SqB K b1 H a1 xs->SqB K b2 H a2 ys->xs[i]?=some x->ys[i]?=some y->H'=upd H p (.tup [x,y]),
   fun i H=>∃xs ys,SqB K b1 H a1 xs/\SqB K b2 H a2 ys/\(xs.length<=i\/ys.length<=i)⟩
def Jx{w:Ar}{tg:Av}{b1 b2:Bool}{z i2 a1 a2:Au}(D:Ap z a l Z i2)(D1:Of z l Z i2 a1)(D2:Of z l Z i2 a2) :
  Turn P w K tg (Itz K b1 b2 a1 a2) [z,a,l,Z,i2] z (fun i h=>ZpT.St b1 b2 z a l Z i2 a1 a2 i i h) where
 mem:=by simp
 obj:=fun i h st b hb=>by
  obtain ⟨⟨f0,fb,hz,hf⟩,G,⟨x,y,C⟩,n1,Y⟩:=st;simp only [Qan,Qbd,Qdq] at hb;rcases hb with rfl | rfl | rfl | rfl | rfl
  ·exact ⟨_,hz,fun v q=>by
    have q':Data.fields _=Data.cell v:=q;cases q'⟩
  ·grind
  ·grind
  ·exact n1.ob
  ·exact Y.ob
 keep:=fun i h h' st k=>by
  obtain ⟨⟨f0,fb,hz,hf⟩,G,⟨x,y,C⟩,n1,Y⟩:=st;exact ⟨⟨f0,fb,k z (by simp) _ hz,hf⟩,k a (by simp) _ G,⟨x,y,k l (by simp) _ C⟩,n1.mv fun o e=>k Z (by simp) o e,Y.mv fun o e=>k i2 (by simp) o e⟩
 item:=by
  intro X hP hw hK hc i pins s σ H E I hf st hg;subst hP hw hK;obtain ⟨xs,ys,x,y,q1,q2,hx,hy⟩:=hg;obtain ⟨its1,r1,p1,z1⟩:=I.sqB q1;obtain ⟨its2,r2,p2,z2⟩:=I.sqB q2;obtain ⟨u1,hu1,ru1⟩:=r1.get hx;obtain ⟨u2,hu2,ru2⟩:=r2.get hy;have olt:∀b∈[z,a,l,Z,i2],b < s.heap.objs.size:=fun b hb=>by
   obtain ⟨⟨f0,fb,hz,hf⟩,G,⟨x,y,C⟩,n1,Y⟩:=st;simp only [Qan,Qbd,Qdq] at hb;rcases hb with rfl | rfl | rfl | rfl | rfl
   ·exact Qap hz
   ·exact Qap G
   ·exact Qap C
   ·obtain ⟨o,ho,_⟩:=n1.ob
    exact Qap ho
   ·obtain ⟨o,ho,_⟩:=Y.ob
    exact Qap ho
  refine ZpT.next_item D D1 D2 st p1 p2 (x:=u1) (y:=u2) (by simpa using hu1) (by simpa using hu2) fun h' st' hT hk=>?_;refine ⟨_,rfl,ZpT.go_any (s:={ s with heap:=h' }) D st' fun h2 st2 hs2=>?_⟩;have J:Heap.SameBut z h' h2:=hs2;have I1:Inv X pins σ (upd H s.heap.objs.size (.tup [x,y])) { s with heap:=s.heap.push { cls:=.type "tuple",data:=.seq #[u1,u2] },toks:=s.toks } :=
   I.laid (fun b o y=>Qab _ y) (Qag _) ⟨zi,[u1,u2],.cons ru1 (.cons ru2 .nil),jz.new _ _⟩
  have fp':∀b∈[z,a,l,Z,i2],G9 X pins (upd H s.heap.objs.size (.tup [x,y])) b:=fun b hb=>by
   obtain ⟨a0,ar⟩:=hf b hb;exact ⟨by rw [Zh (Qbe (olt b hb))];exact a0,ar⟩
  have I2:Inv X pins σ (upd H s.heap.objs.size (.tup [x,y])) { s with heap:=h2,toks:=s.toks }:=by
   refine YM (s:={ s with heap:=s.heap.push { cls:=.type "tuple",data:=.seq #[u1,u2] },toks:=s.toks }) I1 fp' fun b o hb q=>?_;have O:b≠z:=fun e=>hb (by simp [e]);rcases Qfy q with ⟨rfl,rfl⟩ | q
   ·exact (J.2 _ O).trans hT
   ·exact (J.2 b O).trans (hk b o O (fun e=>hb (by simp [e])) (fun e=>hb (by simp [e])) (fun e=>hb (by simp [e])) q)
  refine ⟨.ref s.heap.objs.size,_,I2,rfl,⟨_,I.hok.fresh (Qag _),rfl,fun xs' ys' x' y' q1' q2' hx' hy'=>?_⟩,st2,fun b hb=>(fp' b hb).1⟩;rw [I.sqB_inj q1' q1,hx] at hx';rw [I.sqB_inj q2' q2,hy] at hy';cases hx';cases hy'
  rfl
 done:=by
  intro X hP hw hK hc i pins s σ H E I hf st hg;subst hP hw hK;obtain ⟨xs,ys,q1,q2,hx⟩:=hg;obtain ⟨its1,r1,p1,z1⟩:=I.sqB q1;obtain ⟨its2,r2,p2,z2⟩:=I.sqB q2;have e1:=r1.length;have e2:=r2.length;refine ZpT.next_end (I.ok.hd hc) D D1 D2 st p1 p2 (by simp;lia) fun h' hk=>⟨rfl,?_⟩;exact YM (t':=s.toks) I hf fun b o hb q=>hk b o (fun e=>hb (by simp [e])) (fun e=>hb (by simp [e])) (fun e=>hb (by simp [e])) (fun e=>hb (by simp [e])) q
 self:=fun _ _ _ _ _ st h=>let ⟨_,_,hz,_⟩:=st.z;ZpT.iter_self hz h
def bt_zip:bootBuiltins "zip" = some (.type "zip"):=by decide +kernel
end L2
namespace L2
open ZpT (Ap Of SeqAt Yr)
def gq:typeLookup (.type "zip") "__len__" = pure none:=by kernel_rfl
def vn:typeLookup (.type "zip") "__length_hint__" = pure none:=by kernel_rfl
def ZA.sqB{H':Hp}{xs:A0}{b:Bool}(e:ZA H H')(h:SqB K b H a xs):SqB K b H' a xs:=by
 cases b
 ·exact (ZA.seq e (show SqL K H a xs from h):SqL K H' a xs)
 ·rcases (show SqT K H a xs from h) with h | h
  ·refine (show SqT K H' a xs from .inl ?_)
   rcases h with h | ⟨o,h⟩
   ·exact .inl (e _ _ h)
   ·exact .inr ⟨o,e _ _ h⟩
  ·exact (show SqT K H' a xs from .inr h)
def Inv.adopt{X:Cx}{pins:Ac}{σ:St}{o:HO}(I:Inv X pins σ H s)(f:G9 X pins H a)(ob:Yl X.prog X.w (upd H a o) s.heap a o):Inv X pins σ (upd H a o) s:=by
 have ne:∀{b u},H b=some u->b≠a:=fun e z=>by rw [z,f.1] at e;cases e
 refine I.step (g':=s.gens) (t':=s.toks) (d':=s.drawn) (h':=s.heap) (ch:=[a]) (fun b hb=>?_) (fun b o _ _ _ e _=>e) (fun b o _ _ _ e _=>⟨o.slots,e⟩) (fun b u hb _ hn=>?_) (fun b o _ e=>⟨o,e⟩) (fun b xs e=>?_) (fun b o u e=>?_) (fun b ps e=>⟨#[],?_⟩) (fun m hm=>hm) (fun b u e=>?_) I.bare
 ·have:b=a:=by simpa using hb
  subst this;exact ⟨f.2.2.2.1,f.2.1,f.2.2.2.2.1,f.2.2.2.2.2⟩
 ·rw [Zh (fun z=>hb (by simp [z]))]
  exact hn
 ·rw [Zh (ne e)]
  exact e
 ·rw [Zh (ne e)]
  exact e
 ·rw [Zh (ne e),e]
  simp
 ·by_cases hb:b=a
  ·subst hb
   rw [Za] at e;cases e;exact ob
  ·rw [Zh hb] at e
   exact (I.hok b u e).stay (fun c v _ q=>q) (fun c q=>by rw [Zh (ne q)];exact q) fun c xs q=>by rw [Zh (ne q)];exact q
def Xp(H:Hp)(ps:List (V × V))(rs:A0):Prop:=Paired (fun (p:V × V) (r:V)=>∃a,r=.ref a/\H a=some (.tup [p.1,p.2])) ps rs
def Xp.same{H':Hp}{ps:List (V × V)}(h:Xp H ps v)(s:ZA H H'):Xp H' ps v:=Paired.mapP h fun _ _ ⟨a,e,q⟩=>⟨a,e,s _ _ q⟩
theorem Xp.snoc{ps:List (V × V)}(h:Xp H ps v){x y:V}(e:H a=some (.tup [x,y])):Xp H (ps++[(x,y)]) (v++[.ref a]):=by
 induction h with
 | nil=>exact .cons ⟨a,rfl,e⟩ .nil
 | cons r _ q=>exact .cons r q
def Xp.len{ps:List (V × V)}(h:Xp H ps v):ps.length=v.length:=Qf3 h
section
variable {X:Cx}{A:Ao}{b1 b2:Bool}{z TI TO i1 i2 a1 a2 S:Au}{xs ys:A0}{pins:Ac}{σ:St}{R:Result->Shared->Prop}
theorem Zd2(hh:A.handled=none)(D:Ap z TI TO i1 i2)(D1:Of z TO i1 i2 a1)(D2:Of z TO i1 i2 a2)(C:S∉[z,TI,TO,i1,i2]):∀(m i:Nat) (s:Aq) (H:Hp) (zs:A0) (G:Ag) (c:Nat),min xs.length ys.length - i=m->i<=min xs.length ys.length ->
  Inv X pins σ H s->(∀b∈[z,TI,TO,i1,i2],G9 X pins H b)->G9 X pins H S->ZpT.St b1 b2 z TI TO i1 i2 a1 a2 i i s.heap->SqB X.K b1 H a1 xs->SqB X.K b2 H a2 ys ->
  s.heap.get? S=some { cls:=.type "list",dict:=none,data:=.seq G.toArray c,slots:=#[] }->Vals zs G->Xp H ((xs.zip ys).take i) zs ->
  (∀s' H' J its' c',Inv X pins σ H' s'->G9 X pins H' S->ZA H H'->s'.heap.get? S=some { cls:=.type "list",dict:=none,data:=.seq its'.toArray c',slots:=#[] }->Vals J its'->Xp H' (xs.zip ys) J->R (.ok (.ret .none)) s') ->
  codeAny (model X.prog X.w) A (.builtin "list.extend.loop" ⟨[.ref S,.ref z,.none],[]⟩) R s:=by
 intro m
 induction m with
 | zero =>
  intro i s H zs G c hm hi I hf fS st q1 q2 hS rv tw hR;obtain ⟨its1,r1,p1,z1⟩:=I.sqB q1;obtain ⟨Z,r2,p2,z2⟩:=I.sqB q2;have e1:=r1.length;have e2:=r2.length;refine Qcf F.entry_extend_loop ?_;rw [Qc7 Qef _];show wpAny _ A.in1 (pyNext (.ref z) >>= _) _ _ s;refine Qaa (ZpT.next_end hh D D1 D2 st p1 p2 (by simp;lia) fun h' hk=>?_);have I':=YM (t':=s.toks) I hf fun b o hb q=>hk b o (fun e=>hb (by simp [e])) (fun e=>hb (by simp [e])) (fun e=>hb (by simp [e])) (fun e=>hb (by simp [e])) q;refine Qad (hR _ H zs G c I' fS (ZA.refl H) (hk S _ (fun e=>C (by simp [e])) (fun e=>C (by simp [e])) (fun e=>C (by simp [e])) (fun e=>C (by simp [e])) hS) rv ?_);rw [Qb3 (by rw [Qcd];lia)] at tw;exact tw
 | succ m ih =>
  intro i s H zs G c hm hi I hf fS st q1 q2 hS rv tw hR;obtain ⟨its1,r1,p1,z1⟩:=I.sqB q1;obtain ⟨Z,r2,p2,z2⟩:=I.sqB q2;have hx:=Qaf (show i < xs.length by lia);have hy:=Qaf (show i < ys.length by lia);obtain ⟨u1,hu1,ru1⟩:=r1.get hx;obtain ⟨u2,hu2,ru2⟩:=r2.get hy;have olt:∀b∈[z,TI,TO,i1,i2],b < s.heap.objs.size:=fun b hb=>by
   obtain ⟨o,ho,_⟩:=(Jx (P:=X.prog) (w:=X.w) (K:=X.K) (tg:=.Name "x" ⟨0,0,0,0⟩) (b1:=b1) (b2:=b2) D D1 D2).obj _ _ st b hb;exact Qap ho
  have Slt:S < s.heap.objs.size:=Qap hS;refine Qcf F.entry_extend_loop ?_;rw [Qc7 Qef _];show wpAny _ A.in1 (pyNext (.ref z) >>= _) _ _ s;refine Qaa (ZpT.next_item D D1 D2 st p1 p2 (x:=u1) (y:=u2) (by simpa using hu1) (by simpa using hu2) fun h' st' hT hk=>?_);have I1:Inv X pins σ (upd H s.heap.objs.size (.tup [xs[i],ys[i]])) { s with heap:=s.heap.push { cls:=.type "tuple",data:=.seq #[u1,u2] },toks:=s.toks } :=
   I.laid (fun b o y=>Qab _ y) (Qag _) ⟨zi,[u1,u2],.cons ru1 (.cons ru2 .nil),jz.new _ _⟩
  have fpn:∀{b},b < s.heap.objs.size->G9 X pins H b->G9 X pins (upd H s.heap.objs.size (.tup [xs[i],ys[i]])) b:=fun hb ⟨a0,ar⟩=>⟨by rw [Zh (Qbe hb)];exact a0,ar⟩;have Y:∀b∈[z,TI,TO,i1,i2],G9 X pins (upd H s.heap.objs.size (.tup [xs[i],ys[i]])) b:=fun b hb=>fpn (olt b hb) (hf b hb);have hnew:H s.heap.objs.size=none:=I.hok.fresh (Qag _);have sH:ZA H (upd H s.heap.objs.size (.tup [xs[i],ys[i]])):=fun b o e=>by rw [Zh (Zj e hnew)];exact e
  have I2:Inv X pins σ (upd H s.heap.objs.size (.tup [xs[i],ys[i]])) { s with heap:=h',toks:=s.toks }:=by
   refine YM (s:={ s with heap:=s.heap.push { cls:=.type "tuple",data:=.seq #[u1,u2] },toks:=s.toks }) I1 Y fun b o hb q=>?_;rcases Qfy q with ⟨rfl,rfl⟩ | q
   ·exact hT
   ·exact hk b o (fun e=>hb (by simp [e])) (fun e=>hb (by simp [e])) (fun e=>hb (by simp [e])) (fun e=>hb (by simp [e])) q
  have hS':=hk S _ (fun e=>C (by simp [e])) (fun e=>C (by simp [e])) (fun e=>C (by simp [e])) (fun e=>C (by simp [e])) hS;have lz:G.length=i:=by
   have e1:=tw.len;have e2:=rv.length;rw [Qa0,Qcd] at e1;lia
  show wpAny _ A.in1 (updateSeq S (·.push (.ref s.heap.objs.size)) >>= _) _ _ _;refine Qaa (Qdk hS' rfl (Qad ⟨Qdf Qef _,?_⟩) (by rw [Qbb];lia) (by show (G.toArray.push _).size<=sizeLine + 1;rw [Array.size_push,Qbb];lia));have O:∀b o,b≠S->h'.get? b=some o->(h'.update S (Obj.mapSeq (·.push (Value.ref s.heap.objs.size)))).get? b=some o:=fun b o hb e=>(Qbr _ _ (Qd5 hb)).trans e;have hS2:=Qbh (Obj.mapSeq (·.push (Value.ref s.heap.objs.size))) hS' rfl;have fS':=fpn Slt fS;have I3:Inv X pins σ (upd H s.heap.objs.size (.tup [xs[i],ys[i]])) { s with heap:=h'.update S (Obj.mapSeq (·.push (Value.ref s.heap.objs.size))),toks:=s.toks } :=
   YM (s:={ s with heap:=h',toks:=s.toks }) (fp:=[S]) I2 (fun b hb=>by have:b=S:=(by simpa using hb);subst this;exact fS') fun b o hb q=>O b o (fun e=>hb (by simp [e])) q
  have st3:=(Jx (P:=X.prog) (w:=X.w) (K:=X.K) (tg:=.Name "x" ⟨0,0,0,0⟩) (b1:=b1) (b2:=b2) D D1 D2).keep (i + 1) h' (h'.update S (Obj.mapSeq (·.push (Value.ref s.heap.objs.size)))) st' fun b hb o e=>O b o (fun z=>C (by rw [<-z];exact hb)) e;refine ih (i + 1) _ (upd H s.heap.objs.size (.tup [xs[i],ys[i]])) (zs++[.ref s.heap.objs.size]) (G++[.ref s.heap.objs.size]) _ (by lia) (by lia) I3 Y fS' st3 (sH.sqB q1) (sH.sqB q2) (by rw [<-List.push_toArray];exact hS2) (rv.append (.cons (show RelV (.ref s.heap.objs.size) (.ref s.heap.objs.size) from rfl) .nil)) ?_ fun s' H' J its' c' J1 J2 J3 J4 J5 J6=>hR s' H' J its' c' J1 J2 (sH.trans J3) J4 J5 J6;have hzi:(xs.zip ys)[i]?=some (xs[i],ys[i]):=by rw [Qdh];exact ⟨hx,hy⟩
  rw [take_snoc hzi];exact (tw.same sH).snoc Za
end
end L2
namespace L2
open ZpT (Ap Of SeqAt Yr)
def zfp(n:Nat):List Au:=[n + 4,n + 2,n + 3,n,n + 1]
def zap(n:Nat):Ap (n + 4) (n + 2) (n + 3) n (n + 1):=by constructor <;> (show @Ne Nat _ _;lia)
def zof{l:Nat}(h:l < n):Of (n + 4) (n + 3) n (n + 1) l:=by constructor <;> (show @Ne Nat _ _;lia)
section
variable {X:Cx}{e1 e2:Av}{t:TA}{p pos:Pos}{b1 b2:Bool}
def Zfo{b:Bool}{xs:Ah}(q:SeqAt b h l xs):l < h.objs.size:=by
 cases b
 ·obtain ⟨o,ho,_⟩:=(show h.IsList l xs from q)
  exact Qap ho
 ·obtain ⟨o,ho,_⟩:=(show h.IsTuple l xs from q)
  exact Qap ho
def kQ     {RR:Au->Addr->List V->List V->Hp->Prop}  (hg:Gl X "zip") (hm:X.mg "zip" = none) (ha:QA X [e1,e2] t) (hp:[e1,e2].all ZW=true) (I:Inv X z f H s)
  (h:t f H fun vs H1=>∃a1 a2 xs ys,vs=[.ref a1,.ref a2]/\SqB X.K b1 H1 a1 xs/\SqB X.K b2 H1 a2 ys/\RR a1 a2 xs ys H1)
  (fin:∀a1 a2 xs ys n H1 q,Inv X z f H1 q->SqB X.K b1 H1 a1 xs->SqB X.K b2 H1 a2 ys->RR a1 a2 xs ys H1->a1 < n->a2 < n->ZpT.St b1 b2 (n + 4) (n + 2) (n + 3) n (n + 1) a1 a2 0 0 q.heap->(∀b∈zfp n,G9 X z H1 b)->Q (.ref (n + 4)) q) :
  A2 X (eval (.Call (.Name "zip" p) [e1,e2] [] pos) X.env) Q X.xe s:=by
 rw [Qdp,Qb8] at hp;refine Qcv (WN I hg hm bt_zip ?_);refine Qb9 (thn (ha.out pos z s f H _ I h) fun us q ⟨vs,H1,D,r1,G⟩=>?_) (Zr hp.1) (Xj hp.2);obtain ⟨a1,a2,xs,ys,rfl,G,q2,r⟩:=G;obtain ⟨u1,u2,rfl,O,J⟩:=Zd1 r1;cases O;cases J;obtain ⟨Y,v1,p1,z1⟩:=D.sqB G;obtain ⟨Z,v2,p2,z2⟩:=D.sqB q2;refine ZpT.call_new p1 p2 fun h' st hk=>?_;refine fin a1 a2 xs ys q.heap.objs.size H1 _ (D.kept (t':=q.toks) hk) G q2 r (Zfo p1) (Zfo p2) st fun b hb=>?_;have C:q.heap.objs.size<=b:=by
  simp only [zfp,Qan,Qbd,Qdq] at hb;rcases hb with rfl | rfl | rfl | rfl | rfl
  ·exact Qfv _ _
  ·exact Qfv _ _
  ·exact Qfv _ _
  ·exact Qag _
  ·exact Qfv _ _
 exact D.fpOk C (D.hok.fresh C)
def iZip2(K:Af)(b1 b2:Bool)(t:TA):TI:=fun σ H R=>t σ H fun vs H1=>∃a1 a2 xs ys,vs=[.ref a1,.ref a2]/\SqB K b1 H1 a1 xs/\SqB K b2 H1 a2 ys/\R (Itz K b1 b2 a1 a2) H1
def qi_zip {tg:Av} (hg:Gl X "zip") (hm:X.mg "zip" = none) (ha:QA X [e1,e2] t) (hp:[e1,e2].all ZW=true:=by rfl):QI X tg (.Call (.Name "zip" p) [e1,e2] [] pos) (iZip2 X.K b1 b2 t):=by
 refine ⟨fun pins s σ H R I h=>?_⟩;refine kQ (b1:=b1) (b2:=b2) (RR:=fun a1 a2 _ _ H1=>R (Itz X.K b1 b2 a1 a2) H1) hg hm ha hp I h fun a1 a2 xs ys n H1 J q D C r l1 l2 st hf=>?_;obtain ⟨f0,G,hz,_⟩:=id st.z;exact ZpT.iter_self hz ⟨n + 4,zfp n,_,_,H1,rfl,q,Jx (zap n) (zof l1) (zof l2),st,hf,r⟩
def tLz(K:Af)(b1 b2:Bool)(t:TA):TE:=fun σ H Q=>t σ H fun vs H1=>∃a1 a2 xs ys,vs=[.ref a1,.ref a2]/\SqB K b1 H1 a1 xs/\SqB K b2 H1 a2 ys/\∀l zs H',H1 l=none->ZA H1 H'->Xp H' (xs.zip ys) zs->H' l=some (.lst zs)->Q (.ref l) H'
def gr {p2 pos2:Pos} (hg:Gl X "zip") (hm:X.mg "zip" = none) (hgl:Gl X "list") (hml:X.mg "list" = none) (hc:X.calm=true) (ha:QA X [e1,e2] t) (hp:[e1,e2].all ZW=true:=by rfl) :
  QE X (.Call (.Name "list" p2) [.Call (.Name "zip" p) [e1,e2] [] pos] [] pos2) (tLz X.K b1 b2 t):=by
 refine ⟨fun pins s σ H Q I h=>?_⟩;have hs:starEach [.Call (.Name "zip" p) [e1,e2] [] pos] X.env=[(false,eval (.Call (.Name "zip" p) [e1,e2] [] pos) X.env)]:=by rw [Zr rfl];rfl
 refine Qcv (WN I hgl hml uO ?_);refine Qb9 ?_ hs rfl;rw [hs];show wpAny _ _ (spliced ((false,eval (.Call (.Name "zip" p) [e1,e2] [] pos) X.env)::[])) _ _ s;refine Qcg (kQ (b1:=b1) (b2:=b2) (RR:=fun a1 a2 xs ys H1=>∀l zs H',H1 l=none->ZA H1 H'->Xp H' (xs.zip ys) zs->H' l=some (.lst zs)->Q (.ref l) H') hg hm ha hp I h fun a1 a2 xs ys n H1 C I1 q1 q2 k l1 l2 st hf=>?_);refine Qds ?_;have hh:X.A.handled=none:=I1.ok.hd hc;have J:H1 C.heap.objs.size=none:=I1.hok.fresh (Qag _);have Y:C.heap.objs.size∉zfp n:=fun hb=>by
  obtain ⟨o,ho,_⟩:=(Jx (P:=X.prog) (w:=X.w) (K:=X.K) (tg:=.Name "x" ⟨0,0,0,0⟩) (b1:=b1) (b2:=b2) (zap n) (zof l1) (zof l2)).obj _ _ st _ hb;exact Qbz _ (Qap ho)
 refine callType_codes (Q₁:=fun obj G=>obj=.ref C.heap.objs.size/\G={ C with heap:=C.heap.push { cls:=.type "list",data:=.seq #[] } }) F.called_list (F.typeCall_list_1 _) F.entry_list_init (code_list_new _ ⟨rfl,rfl⟩) fun obj G h₁=>?_;obtain ⟨rfl,rfl⟩:=h₁;have hS:(C.heap.push { cls:=.type "list",data:=.seq #[] }).get? C.heap.objs.size=some { cls:=.type "list",data:=.seq #[] }:=Qak _ rfl;refine ⟨⟨_,hS,rfl⟩,F.args_list_init_2 _ _,?_⟩;have fS:G9 X pins H1 C.heap.objs.size:=I1.fpOk (Qag _) J;have I2:Inv X pins σ H1 { C with heap:=C.heap.push { cls:=.type "list",data:=.seq #[] },toks:=C.toks }:=I1.kept (t':=C.toks) fun b o e=>Qab _ e;have T0:=Jx (P:=X.prog) (w:=X.w) (K:=X.K) (tg:=.Name "x" ⟨0,0,0,0⟩) (b1:=b1) (b2:=b2) (zap n) (zof l1) (zof l2);have st2:=T0.keep 0 C.heap (C.heap.push { cls:=.type "list",data:=.seq #[] }) st fun b _ o e=>Qab _ e;show wpAny _ _ (do let old <-Builtin.List.listItems (.ref C.heap.objs.size);Builtin.List.listUpdate (.ref C.heap.objs.size) (fun _=>#[]);letGo old.toList.reverse;Builtin.List.listExtendWith (.ref C.heap.objs.size) (.ref (n + 4)) .none) _ _ _;generalize hSe:C.heap.objs.size=S at *;generalize C.heap.push { cls:=.type "list",data:=.seq #[] }=h2 at *;refine Qaa ?_;unfold Builtin.List.listItems;refine Qaa (Qbw (s:={ C with heap:=h2 }) hS rfl (Qad ?_));show wpAny _ _ (updateSeq S (fun _=>#[]) >>= fun _=>letGo (#[]:Ah).toList.reverse >>= fun _=>Builtin.List.listExtendWith (.ref S) (.ref (n + 4)) .none) _ _ _;refine Qaa (Qdk (s:={ C with heap:=h2 }) hS rfl ?_);have Z:∀{s':Aq} {H':Hp} {f:Ah->Array As},Inv X pins σ H' s'->G9 X pins H' S->ZpT.St b1 b2 (n + 4) (n + 2) (n + 3) n (n + 1) a1 a2 0 0 s'.heap->Inv X pins σ H' { s' with heap:=s'.heap.update S (Obj.mapSeq f),toks:=s'.toks }/\ZpT.St b1 b2 (n + 4) (n + 2) (n + 3) n (n + 1) a1 a2 0 0 (s'.heap.update S (Obj.mapSeq f)):=fun {s' H' f} I' f' st'=>by
  have oth:∀b o,b≠S->s'.heap.get? b=some o->(s'.heap.update S (Obj.mapSeq f)).get? b=some o:=fun b o hb e=>(Qbr _ _ (Qd5 hb)).trans e;refine ⟨YM (t':=s'.toks) (fp:=[S]) I' (fun b hb=>?_) fun b o hb q=>oth b o (fun e=>hb (by simp [e])) q,T0.keep 0 _ _ st' fun b hb o e=>oth b o (fun z=>Y (by rw [<-z];exact hb)) e⟩;have:b=S:=by simpa using hb
  subst this;exact f'
 obtain ⟨I3,st3⟩:=Z (f:=fun _=>#[]) I2 fS st2;have hS3:=Qbh (Obj.mapSeq (fun _=>(#[]:Ah))) hS rfl;refine Qaa (Qen ?_);obtain ⟨f0,fb,hz3,_⟩:=id st3.z;have O:Shared.TypeIs { C with heap:=h2.update S (Obj.mapSeq (fun _=>(#[]:Ah))) } (.ref (n + 4)) "zip" := ⟨_,hz3,rfl⟩;have hSI:S≠n + 4:=fun e=>Y (by rw [e];simp [zfp]);unfold Builtin.List.listExtendWith;refine Qaa (Qel O ?_);have g1:Builtin.List.listSameRef (.ref S) (.ref (n + 4))=false:=by simp [Builtin.List.listSameRef,hSI]
 have g2:(Value.type "zip" == Value.type "list")=false:=by decide
 have g3:(Value.type "zip" == Value.type "tuple")=false:=by decide
 simp only [g1,g2,g3,Qg8,Qbo,Qf4];refine Qaa (ZpT.iter_self hz3 ?_);refine Qaa (Qcp ?_);unfold Builtin.List.listLengthHint;refine Qaa (Qdj O gq ?_);show wpAny _ _ (specialOf (Value.ref (n + 4)) (Str.ofString "__length_hint__") >>= _) _ _ _;refine Qaa (Qdj O vn ?_);refine Qad ?_;show wpAny _ _ (rule "list.extend.makes-room" >>= fun _=>Builtin.List.listTouch (.ref S) >>= fun _=>again (.builtin "list.extend.loop" ⟨[.ref S,.ref (n + 4),.none],[]⟩)) _ _ _;refine Qaa (Qc1 ?_);refine Qaa ?_;show wpAny _ _ (updateSeq S (·.push .none) >>= fun _=>updateSeq S (·.pop)) _ _ _;refine Qaa (Qdk hS3 rfl ?_);obtain ⟨I4,st4⟩:=Z (f:=(·.push Value.none)) I3 fS st3;have hS4:=Qbh (Obj.mapSeq (·.push Value.none)) hS3 rfl;refine Qdk (hz:=by seq_fits) hS4 rfl ?_;obtain ⟨I5,st5⟩:=Z (f:=(·.pop)) I4 fS st4;have hS5:=Qbh (Obj.mapSeq (·.pop)) hS4 rfl;refine Qad ⟨Qdf Qef _,Zd2 (A:=X.A.in1) (xs:=xs) (ys:=ys) hh (zap n) (zof l1) (zof l2) Y _ 0 _ H1 [] [] _ rfl (Qba _) I5 hf fS st5 q1 q2 hS5 .nil .nil fun s' H' D its' c' J1 J2 J3 J4 J5 J6=>?_⟩;have hz:D.length<=sizeLine:=by
  obtain ⟨_,_,_,hb⟩:=I1.sqB q1;rw [<-J6.len,Qcd];lia
 have sS:ZA H' (upd H' S (.lst D)):=fun b o e=>by rw [Zh (Zj e J2.1)];exact e
 refine ⟨rfl,.ref S,_,J1.adopt (o:=.lst D) J2 ⟨hz,its',c',J5,J4⟩,rfl,k S D _ J (J3.trans sS) (J6.same sS) Za⟩
end
end L2
namespace L2
section
variable {X:Cx}{S scope:Scope}{N:Ai}{x x2:Str}{ys:Ai}{is:Aj}{pins:Ac}{σ:St}{H₂:Hp}{s₂:Aq}{fp:List Au}{elt iter:Av}{px px2 pp pos:Pos}{pq:Nat}{ifs:Al}{tc:TT}{te:TE}{wi:TI}
end
end L2
namespace L2
open PySem.W
section
variable {prog:An}{w:Ar}{A:Ao}{E:Ab}{s:Aq}
end
section
variable {prog:An}{w:Ar}{h:Heap}
end
end L2
namespace L2
section
variable {prog:An}{w:Ar}{A:Ao}{E:Ab}{s:Aq}{c it:Au}{oc:Obj}{es:Array DictEntry}{ep i:Nat}
end
def PP1(X:Cx)(pos:Pos)(k v:Av)(tk tv:TE):Prop:=∀pins s σ H (R:V->V->Hp->Prop),Inv X pins σ H s->(tk σ H fun x H1=>tv σ H1 fun y H2=>R x y H2) ->
 A2 X (evalPairs (pairTrees [some k] [v] X.env pos)) (fun q C=>∃x y u r H2,q=[(u,r)]/\Inv X pins σ H2 C/\RelV x u/\RelV y r/\R x y H2) X.xe s
def pp1{k v:Av}{tk:TE}(hk:QE X k tk)(hv:QE X v d):PP1 X p k v tk d:=by
 intro pins s σ H R I q;refine pairTrees_cons_walk (thn (hk.out pins s σ H _ I q) fun u Z ⟨x,H1,O,J,G⟩=>thn (hv.out pins Z σ H1 _ O G) fun r s2 ⟨y,H2,D,Y,C⟩=>pairTrees_nil_walk ⟨x,y,u,r,H2,rfl,D,J,Y,C⟩)
def Zd3{b1 b2:Bool}{xs ys:A0}{is:Aj}{Q:VK}(q:Nat->List V->Hp->Prop)(Z:q 0 [] H)(hl:∀i zs H,q i zs H->zs.length<=sizeLine)(Y:∀i zs H,q i zs H->SqB K b1 H a xs/\SqB K b2 H l ys)
  (hs:∀i x y p zs H (R:A0->Hp->Prop),(∀zs H,q (i + 1) zs H->R zs H)->xs[i]?=some x->ys[i]?=some y->q i zs H->H p=none->E (Ja is f (some (.ref p))) (upd H p (.tup [x,y])) fun b H2=>if b=true then d (Ja is f (some (.ref p))) H2 fun y J=>R (zs++[y]) J else R zs H2)
  (hd:∀zs H,q (xs.zip ys).length zs H->∀p,H p=none->Q (.ref p) (upd H p (.lst zs))) :
  Jq is E d f Q (Itz K b1 b2 a l) H:=by
 refine ⟨fun i m zs H=>m=(xs.zip ys).length - i/\i<=(xs.zip ys).length/\q i zs H,⟨(xs.zip ys).length,by simp,Qba _,Z⟩,?_⟩;rintro i m zs H ⟨rfl,hi,p⟩;obtain ⟨D,C⟩:=Y i zs H p;have hz:(xs.zip ys).length=min xs.length ys.length:=Qcd
 by_cases G:i < (xs.zip ys).length
 ·have l1:i < xs.length:=by lia
  have l2:i < ys.length:=by lia
  refine .inr ⟨⟨xs,ys,xs[i],ys[i],D,C,Qaf l1,Qaf l2⟩,hl i zs H p,fun x H' y=>?_⟩;obtain ⟨c,hc,rfl,e⟩:=y;rw [e xs ys _ _ D C (Qaf l1) (Qaf l2)];exact hs i _ _ c zs H (fun zs H=>∃I,I < (xs.zip ys).length - i/\(fun i m zs H=>m=(xs.zip ys).length - i/\i<=(xs.zip ys).length/\q i zs H) (i + 1) I zs H) (fun zs H O=>⟨(xs.zip ys).length - (i + 1),by lia,rfl,G,O⟩) (Qaf l1) (Qaf l2) p hc
 ·have e:i=(xs.zip ys).length:=by lia
  subst e;exact .inl ⟨⟨xs,ys,D,C,by lia⟩,hl _ zs H p,hd zs H p⟩
def HT.cat_tup0{prog:An}{w:Ar}{A:Ao}{E:Ab}{t b:Au}(Z:IsTup s.heap t #[])(hb:IsTup s.heap b J.toArray)(q:Q (.ref b) s) :
  A1 prog w A (binaryOp .Add (.ref t) (.ref b)) Q E s:=by
 obtain ⟨⟨cls,dd,data,sl⟩,ho,hc,n,hd⟩:=id Z;obtain ⟨⟨Y,I,data2,D⟩,C,O,n2,G⟩:=id hb;subst hc hd O G;exact concat_meets ⟨_,ho,rfl⟩ ⟨_,C,rfl⟩ Qhc seq_tuple_add Qfg Qe9 (Qe3 _ _)
  (tuple_addW0 t b #[] J.toArray n n2 dd I sl D rfl) ⟨ho,C,q⟩
def rCatG:R2:=fun x y H Q=>∃a b xs ys,x=.ref a/\y=.ref b/\H a=some (.tup xs)/\H b=some (.tup ys)/\xs.length + ys.length<=sizeLine/\∀p H',H' p=some (.tup (xs++ys))->ZA H H'->Q (.ref p) H'
def Jd:OpR X (binaryOp .Add) rCatG:=by
 intro pins s σ H x y v u Q I O Y h;obtain ⟨a,b,xs,ys,rfl,rfl,ha,hb,hz,q⟩:=h;cases O;cases Y;obtain ⟨J,C,p1,_⟩:=I.tuple (SqT.of ha:SqT X.K H a xs);obtain ⟨G,D,p2,_⟩:=I.tuple (SqT.of hb:SqT X.K H b ys)
 by_cases hx:xs=[]
 ·have e:=C.nil_iff.mpr hx
  subst e hx;exact HT.cat_tup0 p1 p2 ⟨.ref b,H,I,rfl,q b H hb fun _ _ z=>z⟩
 ·refine HT.cat_tup p1 p2 (fun z=>hx (C.nil_iff.mp z)) (fun z=>⟨.ref a,H,I,rfl,q a H ?_ fun _ _ z=>z⟩) (fun z=>?_) (by rw [<-C.length,<-D.length];exact hz)
  ·rw [D.nil_iff.mp z,Qbq]
   exact ha
  ·have hn:=I.hok.fresh (Qag s.heap.objs.size)
   refine ⟨.ref s.heap.objs.size,_,I.laid (t':=s.toks) (o:=.tup (xs++ys)) (fun b ob q=>Qab _ q) (Qag _) ?_,rfl,q _ _ Za fun c o z=>by rw [Zh (fun e=>by rw [e,hn] at z;cases z)];exact z⟩;exact ⟨by rw [Qae];exact hz,_,C.append D,jz.new _ _⟩
open PySem.W (hideAll of_hideAll hideAll_get hideAll_none funFrames_hide)
section
variable {P:An}{w:Ar}{X:Cx}{pins:Ac}{σ:St}{H:Hp}{s:Aq}
end
end L2
namespace L2
open PySem.W (hideAll of_hideAll hideAll_get hideAll_none funFrames_hide)
section
variable {X:Cx}{E:XK}
end
end L2
namespace L2
abbrev bmVE:Ag:=[.type "ValueError",.type "Exception",.type "BaseException",.type "object"]
section
variable {X:Cx}{E:XK}{x:Str}{C:Au}{np cpos pos:Pos}{e₀:Av}{rest:Al}{t:TA}
end
section
variable {M:Model}{A:Ao}{E:Ab}
variable {nm q nm' q':Str}{C N D N':Au}{bs bm bs' bm':Ag}{hdct hdct':Bool}{sn sn':Ai}{sub sub':Ag}{ab ab':Bool}{col col':Option Bool}{dd dd':Option Au}{k0 k1 k2 k3 k5 k0' k1' k2' k3' k5':Option As}{newId newId':String}
end
section
variable {X:Cx}{pins:Ac}{σ:St}{H H':Hp}{s s':Aq}
end
section
variable {prog:An}{w:Ar}{A:Ao}{E:Ab}{s:Aq}{env:Env}
end
section
variable {X:Cx}{pins:Ac}{σ:St}{H:Hp}{s:Aq}
variable {k:Nat}{f:Au}{fd:Am}{ps:Ai}{sp:Sp}{g x y n:Str}{p np p0 cpos spos hpos pos:Pos}{e₀:Av}{es:Al}{t:TA}{b₀:Aw}{suite:List Aw}{i j:Nat}{Dc:Au}{ts:TS}
end
end L2
namespace L2
open PySem.Calls
open PySem.W (Frag InstAt findObj plainGet plainGet_of kin_open kin_hooked class_get handed_on mroIn clsIn Looks subIn typeIn looks_typeIn looks_subIn isIn isi_call)
section
variable {prog:An}{w:Ar}{A:Ao}{E:Ab}{s:Aq}{K:Frag}{e C D:Au}{oe:Obj}{od:Option Obj}
end
end L2
namespace L2
open PySem.Calls
open PySem.W Builtin Builtin.ObjectAttr Builtin.Getset_descriptor
section
variable {prog:An}{w:Ar}{A:Ao}{E:Ab}{s:Aq}{K:Frag}{e C D:Au}
end
end L2
namespace L2
open PySem.Calls
open PySem.W Builtin Builtin.ObjectAttr
def onlyVE:Ag->Bool
 | [.type a,.type b,.type c,.type d]=>a == "ValueError" && (b == "Exception" && (c == "BaseException" && d == "object"))
 | .ref _::r=>onlyVE r
 | _=>false
section
variable {prog:An}{w:Ar}{A:Ao}{E:Ab}{s:Aq}{K:Frag}{x C:Au}{name:Str}{v:As}
end
section
variable {X:Cx}{pins:Ac}{σ:St}{H:Hp}{s:Aq}{e C d:Au}{f:Str}{v:V}{u:As}{A:Ao}{E:Ab}
end
section
variable {X:Cx}{o value:Av}{ta tv:TE}{f:Str}{pos pos':Pos}
end
end L2
namespace L2
open PySem.Calls
open PySem.W
def excMk(K:Frag)(C:Au):Bool:=match K.lookup C with
 | some ⟨.type "type",_,.cls q,sm⟩=>(match q.mro,sm.toList with
  | .ref D::tl,[_,_,_,_,some (.builtin n),_]=>D == C && (n == "ValueError.__new__" && (!q.hasDel && tailIn K bmVE tl))
  | _,_=>false)
 | _=>false
section
variable {prog:An}{w:Ar}{A:Ao}{E:Ab}{hh:Heap}{g:Array GenState}{dr:Drawn}{t:Nat}{os:OsState}{K:Frag}
variable {nm q:Str}{C N fI:Au}{bs tl:Ag}{hdct:Bool}{sn:Ai}{sub:Ag}{ab:Bool}{col:Option Bool}{dd:Option Au}{k0 k1 k2 k3 k5:Option As}
end
end L2
namespace L2
open PySem.Calls
open PySem.W
section
variable {X:Cx}{x:Str}{C f:Au}{k:Nat}{fd:Am}{ps:Ai}{sp:Sp}{p pos:Pos}{e₀:Av}{es:Al}{t:TA}
end
end L2
namespace L2
open PySem.Calls
open Builtin Builtin.Str
section
variable {X:Cx}{e b:Av}{es:Al}{te tb:TE}{t:TA}
end
section
variable {X:Cx}{o:Av}{to:TE}{y z:Str}{j1 j2 j3:Nat}{p1 p2 p3 apos cpos:Pos}
end
end L2
namespace L2
open PySem.Calls
open Builtin Builtin.Str
section
variable {X:Cx}{e:Av}{ta:TE}{c:Str}{j:Nat}{p1 p2 pos:Pos}
end
end L2
namespace L2
open PySem.Calls
open PySem.W
end L2
namespace L2
open PySem.Calls
open Builtin Builtin.Str
end L2
namespace L2
open PySem.Calls
section
variable {M:Model}{A:Ao}{E:Ab}{s:Aq}{B:Heap}{env:Env}{outer:List Env}{L e:Au}{φ:Obj->Prop}{Q:Unit->Shared->Prop}
end
section
variable {prog:An}{w:Ar}{A:Ao}{E:Ab}{s:Aq}{env:Env}{x:Sem As}{Q:Flow->Shared->Prop}{C e1:Au}{j:Nat}{p pos:Pos}
end
open PySem.W (hideAll of_hideAll hideAll_get hideAll_none funFrames_hide)
section
variable {X:Cx}{E:XK}
end
end L2
namespace L2
open PySem.Calls
section
variable {prog:An}{w:Ar}{A:Ao}{E:Ab}{s:Aq}{env:Env}
end
section
variable {X:Cx}{E:XK}
end
section
variable {X:Cx}{E:XK}{k:Nat}{f:Au}{fd:Am}{ps:Ai}{sp:Sp}{g y x2:Str}{p np np2 cpos cpos2 spos hpos pos p9 rpos:Pos}{j:Nat}{e₀ a₀:Av}{es as:Al}{t t2:TA}{Dc C2:Au}
end
section
variable {prog:An}{w:Ar}{A:Ao}{E:Ab}{s:Aq}{a:Au}{oa:Obj}{x:As}{l:Ag}{na:Nat}{ts:Ai}
end
section
variable {X:Cx}{e:Av}{ta:TE}{c:Str}{j:Nat}{p1 p2 pos:Pos}
end
open PySem.W
section
variable {X:Cx}{pins:Ac}{σ:St}{H:Hp}{s:Aq}{e C d:Au}{f:Str}{v:V}{u:As}{A:Ao}{E:Ab}{arr:Ah}
end
section
variable {X:Cx}{E:XK}
end
end L2
namespace L2
open PySem.Calls
open PySem.W (hideAll of_hideAll hideAll_get hideAll_none funFrames_hide)
section
variable {X:Cx}{E:XK}
end
section
variable {prog:An}{w:Ar}{A:Ao}{E:Ab}{s:Aq}{env:Env}{x:Sem As}{Q:Flow->Shared->Prop}{C:Au}
end
section
variable {X:Cx}{E:XK}{x:Str}{C f:Au}{k:Nat}{fd:Am}{ps:Ai}{sp:Sp}{np cpos pos:Pos}{e₀:Av}{es:Al}{t:TA}
end
end L2
namespace L2
open PySem.Calls
section
variable {X:Cx}{k:Nat}{f:Au}{fd:Am}{ps:Ai}{sp:Sp}{g y n:Str}{p np cpos spos hpos pos:Pos}{e₀:Av}{es:Al}{t:TA}{b₀:Aw}{suite:List Aw}{j:Nat}{Dc:Au}{ts:TS}
end
end L2
namespace L2
open PySem
def hideG{q:Prop}(h:∀G:Prop,(q->G)->G):q:=h q fun z=>z
theorem len1{P:List m->Prop}(h:∀a,P [a]):∀q:List m,q.length=1->P q
 | [a],_=>h a
theorem len2{P:List m->Prop}(h:∀a b,P [a,b]):∀q:List m,q.length=2->P q
 | [a,b],_=>h a b
theorem len3{P:List m->Prop}(h:∀a b c,P [a,b,c]):∀q:List m,q.length=3->P q
 | [a,b,c],_=>h a b c
theorem len4{P:List m->Prop}(h:∀a b c d,P [a,b,c,d]):∀q:List m,q.length=4->P q
 | [a,b,c,d],_=>h a b c d
theorem len5{P:List m->Prop}(h:∀a b c d e,P [a,b,c,d,e]):∀q:List m,q.length=5->P q
 | [a,b,c,d,e],_=>h a b c d e
theorem walk_X{q:An}{O:(Ae)->Heap->Prop}{K:Params->PySem.W.Frag}{as:List Au}{t:Nat}{r:PySem.W.RowW}{d:DefRec}{D:List (Str × Av)}{run:As->List As->Sem As}
  (e:∀P,as=(K P).map (·.1)) (W:PySem.W.WalkO q N O (PySem.W.InK K) r d D run):PySem.W.WalkX q N O (PySem.W.X.obsZ as) (PySem.W.X.valZ K n t) r d D run :=
 fun w s₀ I mg mb G y a o pm cd J Z kV e1 e2 e3 e4 e5 e6 args C as L p l R W' Y =>
  W w s₀ I mg mb G (PySem.W.InK.keeps w _ _ (PySem.W.X.z_facts e y).2.1 L.keeps) a o pm cd J Z kV e1 e2 e3 e4 e5 e6 args C as p l R W' Y
def noT(K:Af):Af:=K.filter fun p=>match p.2.cls,p.2.data with
 | .none,.fields _=>false
 | _,_=>true
def noT_ok(K:Af):PySem.W.noTabs (noT K)=true:=by
 unfold PySem.W.noTabs noT;rw [Qdo];intro p hp;exact (Qdi.mp hp).2
def nodB:Aj->Bool
 | []=>true
 | a::r=>r.all (fun b=>!(Nat.beq a b)) && nodB r
theorem lookup_mem{a:Au}{o:Obj}:∀{K:Af},K.lookup a=some o->(a,o)∈K
 | (b,u)::r,h=>by
  rw [Qcy] at h
  by_cases e:(a == b)=true
  ·grind
  ·rw [Bool.eq_false_iff.mpr e] at h
   exact Qam _ (lookup_mem h)
theorem mem_lookup{a:Au}{o:Obj}:∀{K:Af},nodB (K.map (·.1))=true->(a,o)∈K->K.lookup a=some o
 | (b,u)::r,hn,h=>by
  rw [Qcy];have q:=Qas.mp hn;rcases Qan.mp h with e | e
  ·cases e
   rw [Qd2]
  ·have hb:(a == b)=false:=by
    rw [beq_eq_false_iff_ne];intro z;have:=Qdo.mp q.1 a (Qcc e);rw [z,show Nat.beq b b=true from Nat.beq_refl b] at this;cases this
   rw [hb];exact mem_lookup q.2 e
theorem in_noT(hn:nodB (K.map (·.1))=true)(X:K.In h):(noT K).In h:=fun a o e =>
 X a o (mem_lookup hn (Qdi.mp (lookup_mem e)).1)
def ns_tr{m:Au}{r:Option (Option As)}(e:PySem.W.nsIn (noT K) m x=PySem.W.nsIn K m x)(h:PySem.W.nsIn K m x=r):PySem.W.nsIn (noT K) m x=r:=e.trans h
def lk_tr{r:Option Obj}(e:(noT K).lookup a=K.lookup a)(h:K.lookup a=r):(noT K).lookup a=r:=e.trans h
def cd_tr(e:PySem.W.codeIn (noT K) c x=PySem.W.codeIn K c x)(h:PySem.W.codeIn K c x=true):PySem.W.codeIn (noT K) c x=true:=e.trans h
def kp_tr(e:PySem.W.keepIn (noT K) c=PySem.W.keepIn K c)(h:PySem.W.keepIn K c=true):PySem.W.keepIn (noT K) c=true:=e.trans h
def cxK{CX:CXT}{w:Ar}{mg:Ae}{qual:Str}{scope:Scope}{f:Au}{A:Ao}{outer:List Env}{E:XK}:(Zdk CX P w K mg h N qual scope f c A outer s H E).nox.K=K:=rfl
def cxK2{CX:CXT}{w:Ar}{mg:Ae}{qual:Str}{scope:Scope}{f:Au}{A:Ao}{outer:List Env}{E:XK}:(Zdk CX P w K mg h N qual scope f c A outer s H E).K=K:=rfl
def let2{q:TS}(h:let C:=q;Y9 r C Y f H):Y9 r q Y f H:=h
def let3{C q:TS}(h:let D:=q;let G:=Y9 C D;Y9 r G Y f H):Y9 r (Y9 C q) Y f H:=h
def let4{D q C:TS}(h:let G:=C;let I:=Y9 q G;let J:=Y9 D I;Y9 r J Y f H):Y9 r (Y9 D (Y9 q C)) Y f H:=h
def let5{D q C G:TS}(h:let J:=G;let O:=Y9 C J;let I:=Y9 q O;let Z:=Y9 D I;Y9 r Z Y f H):Y9 r (Y9 D (Y9 q (Y9 C G))) Y f H:=h
def let6{D q C G I:TS}(h:let U5:=I;let O:=Y9 G U5;let Z:=Y9 C O;let J:=Y9 q Z;let U1:=Y9 D J;Y9 r U1 Y f H):Y9 r (Y9 D (Y9 q (Y9 C (Y9 G I)))) Y f H:=h
def let7{G q D I J C:TS}(h:let U6:=C;let U5:=Y9 J U6;let Z:=Y9 I U5;let U3:=Y9 D Z;let O:=Y9 q U3;let U1:=Y9 G O;Y9 r U1 Y f H):Y9 r (Y9 G (Y9 q (Y9 D (Y9 I (Y9 J C))))) Y f H:=h
def let8{G q D I J C O:TS}(h:let U7:=O;let U6:=Y9 C U7;let U5:=Y9 J U6;let U4:=Y9 I U5;let U3:=Y9 D U4;let Z:=Y9 q U3;let U1:=Y9 G Z;Y9 r U1 Y f H):Y9 r (Y9 G (Y9 q (Y9 D (Y9 I (Y9 J (Y9 C O)))))) Y f H:=h
end L2
namespace ZpT
abbrev Zfp (h:Heap) (T:Au) (a b c:As):Prop:=h.get? T=some { cls:=.type "tuple",data:=.seq #[a,b,c] }
structure Ap3(z TI TO i1 i2 i3:Au):Prop where
 TIz:TI≠z
 TOz:TO≠z
 i1z:i1≠z
 i2z:i2≠z
 i3z:i3≠z
 TITO:TI≠TO
 TIi1:TI≠i1
 TIi2:TI≠i2
 TIi3:TI≠i3
 TOi1:TO≠i1
 TOi2:TO≠i2
 TOi3:TO≠i3
 i12:i1≠i2
 i13:i1≠i3
 i23:i2≠i3
structure Of3(z TO i1 i2 i3 l:Au):Prop where
 z:l≠z
 o:l≠TO
 i:l≠i1
 j:l≠i2
 m:l≠i3
structure St3(z TI TO i1 i2 i3 l1 l2 l3:Au)(k:Nat)(h:Heap):Prop where
 z:∃f0 fb,h.get? z=some (zO f0 fb TI TO)/\F0 f0
 I:Zfp h TI (.ref i1) (.ref i2) (.ref i3)
 O:∃a b c,Zfp h TO a b c
 n1:Yr false h i1 l1 k
 n2:Yr false h i2 l2 k
 n3:Yr false h i3 l3 k
section
variable {prog:An}{w:Ar}{A:Ao}{E:Ab}{s:Aq}
end
end ZpT
namespace L2
section
variable {X:Cx}{S scope:Scope}{N:Ai}{x x2 x3:Str}{ys:Ai}{is:Aj}{pins:Ac}{σ:St}{H₂:Hp}{s₂:Aq}{fp:List Au}{elt iter:Av}{px px2 px3 pp pos:Pos}{pq:Nat}{ifs:Al}{tc:TT}{te:TE}{wi:TI}
end
end L2
namespace ZpT
section
variable {prog:An}{w:Ar}{A:Ao}{E:Ab}{s:Aq}
end
end ZpT
namespace L2
open ZpT (St3 Ap3 Of3 SeqAt Yr)
section
variable {X:Cx}{e1 e2 e3:Av}{t:TA}{p pos:Pos}
end
end L2
namespace L2
section
variable {prog:An}{w:Ar}{A:Ao}{s:Aq}
end
def b2i(b:Bool):Int:=if b=true then 1 else 0
def Zjy(k:Int):As->Bool
 | .int i _=>i == k
 | .bool b=>b2i b == k
 | _=>false
def YN{k:Int}{v:As}(h:Zjy k v=true):(∃t,v=.int k t)\/∃b,v=.bool b/\k=b2i b:=by
 cases v with
 | int i t=>exact .inl ⟨t,by rw [show i=k from eq_of_beq h]⟩
 | bool b=>exact .inr ⟨b,rfl,(eq_of_beq h).symm⟩
 | _=>cases h
section
variable {prog:An}{w:Ar}
def vo{A:Ao}{E:Ab}{b:Bool}{Q:Int->Shared->Prop}(h:Q (hashInt (b2i b)) { s with toks:=s.toks + 1 }):A1 prog w A (pyHash (.bool b)) Q E s:=by
 refine PySem.W.pyHash_slot (T := "bool") (id := "int.__hash__") (B:=Builtin.«int.__hash__») rfl F.slot_bool_hash F.entry_int_hash (F.args_int_hash_1 _) (by decide +kernel) (.inl rfl) ?_;cases b
 ·exact Qaa (Qcj (a:=(Value.bool false,(0:Int))) rfl (Qaa (Qg5 (Qad ⟨0,_,rfl,h⟩))))
 ·exact Qaa (Qcj (a:=(Value.bool true,(1:Int))) rfl (Qaa (Qg5 (Qad ⟨1,_,rfl,h⟩))))
end
def dec_eq(a b:Int):decide (a=b)=(a == b):=by grind
def Yw(prog:An)(w:Ar):KeyKind prog w Int where
 is:=Zjy
 hash:=hashInt
 inj:=fun v a b ha hb=>by
  rcases YN ha with ⟨t,rfl⟩ | ⟨x,rfl,rfl⟩
  ·exact (eq_of_beq (show (a == b)=true from hb))
  ·exact (eq_of_beq (show (b2i x == b)=true from hb))
 byValue:=fun k v h=>by
  rcases YN h with ⟨t,rfl⟩ | ⟨x,rfl,rfl⟩ <;> rfl
 pyHash:=fun hv h=>by
  rcases YN hv with ⟨t,rfl⟩ | ⟨x,rfl,rfl⟩
  ·exact Qhb h
  ·exact vo h
 eqBool:=fun hu hv h=>by
  rw [dec_eq] at h;rcases YN hu with ⟨t,rfl⟩ | ⟨x,rfl,rfl⟩
  ·rcases YN hv with ⟨u,rfl⟩ | ⟨y,rfl,rfl⟩
   ·exact wpAny_eqBool_int h
   ·exact SeqAt.EqAt.int_bool _ t y _ _ _ _ h
  ·rcases YN hv with ⟨u,rfl⟩ | ⟨y,rfl,rfl⟩
   ·exact SeqAt.EqAt.bool_int x _ u _ _ _ _ h
   ·refine SeqAt.EqAt.bool_bool x y _ _ _ _ ?_
    have e:(b2i x == b2i y)=(x == y):=by cases x <;> cases y <;> rfl
    rw [e] at h;exact h
 «strs»:=fun k x t v h=>by cases h
section
variable {prog:An}{w:Ar}
def IsPair(prog:An)(w:Ar)(h:Heap)(k:Int × Ak)(a:Au):Prop :=
 ∃o n t tk,h.get? a=some o/\o.cls=.type "tuple" /\ o.data=.seq #[.int k.1 tk,.ref t] n/\IsTupleKey (Yw prog w) h k.2 t
def kR(prog:An)(w:Ar)(k:Int × Ak):Int:=reduceHash (Builtin.Tuple.tupleHashOf [hashInt k.1,tupleKeyHash (Yw prog w) k.2])
def IsPair.inj{h:Heap}{a:Au}{x y:Int × Ak}(p:IsPair prog w h x a)(q:IsPair prog w h y a):x=y:=by
 obtain ⟨o,n,t,tk,e,c,d,k⟩:=p;obtain ⟨o',n',t',J,C,c',d',I⟩:=q;rw [e] at C;cases C;rw [d] at d';injection d' with O d2;have d3:=congrArg Array.toList O;injection d3 with D Z;injection D with d6 _;injection Z with Y _;injection Y with G;subst G;have:=(tupleKind (Yw prog w)).inj k I;exact Qht d6 this
def IsPair.keeps{h h':Heap}{k:Int × Ak}{a d:Au}{o:Obj}{es:Array DictEntry}{ep:Nat}(p:IsPair prog w h k a)(e:h.get? d=some o)(hd:o.data=.dict es ep)(s:Heap.SameBut d h h'):IsPair prog w h' k a:=by
 obtain ⟨D,n,t,tk,e1,G,C,k1⟩:=p;have q:a≠d:=fun z=>by
  grind
 exact ⟨D,n,t,tk,(s.2 a q).trans e1,G,C,(tupleKind (Yw prog w)).keeps k1 e hd s⟩
def IsPair.pyHash{A:Ao}{E:Ab}{s:Aq}{k:Int × Ak}{a:Au}{Q:Int->Shared->Prop}(hu:A.units + 1 < cLine)(p:IsPair prog w s.heap k a)
  (h:Q (kR prog w k) { s with toks:=s.toks + (k.2.length + 3) }):A1 prog w A (PySem.pyHash (.ref a)) Q E s:=by
 obtain ⟨o,n,t,tk,e,c,d,C⟩:=p;refine PySem.W.pyHash_slot (T := "tuple") (id := "tuple.__hash__") (B:=Builtin.«tuple.__hash__») ⟨o,e,c⟩ F.slot_tuple_hash F.entry_tuple_hash (F.args_tuple_hash_1 _) (by decide +kernel) (.inr (by lia)) ?_;refine Qaa (Qcj (a:=(Value.ref a,[])) rfl ?_);refine Qaa (wpAny_tupleItemsOf e d ?_);refine Qaa (Qgo _ (fun rest hs s'=>(rest=[.int k.1 tk,.ref t]/\hs=#[]/\s'=s)\/(rest=[.ref t]/\hs=#[hashInt k.1]/\s'={ s with toks:=s.toks + 1 })\/(rest=[]/\hs=#[hashInt k.1,tupleKeyHash (Yw prog w) k.2]/\s'={ s with toks:=s.toks + 1 + (k.2.length + 1) })) _ ?_ ?_ _ _ (.inl ⟨rfl,rfl,rfl⟩))
 ·rintro x rest b s' (⟨e1,rfl,rfl⟩ | ⟨e1,rfl,rfl⟩ | ⟨e1,_,_⟩)
  ·cases e1
   exact Qaa (Qhb (Qad (.inr (.inl ⟨rfl,rfl,rfl⟩))))
  ·cases e1
   refine Qaa (wpAny_pyHash_tuple (knd:=Yw prog w) (ks:=k.2) (s:={ s with toks:=s.toks + 1 }) (by exact hu) C (Qad (.inr (.inr ⟨rfl,rfl,rfl⟩))))
  ·cases e1
 ·rintro b s' (⟨e1,_,_⟩ | ⟨e1,_,_⟩ | ⟨_,rfl,rfl⟩)
  ·cases e1
  ·cases e1
  ·refine Qaa (Qg5 (Qad ⟨_,_,rfl,?_⟩))
   have q:s.toks + 1 + (k.2.length + 1) + 1=s.toks + (k.2.length + 3):=by lia
   rw [q];exact h
theorem _root_.PySem.IsTupleKey.any{ks:Ak}(k:IsTupleKey (Yw prog w) h ks a)(q:An)(C:Ar):IsTupleKey (Yw q C) h ks a:=by
 obtain ⟨o,items,n,e,c,d,it⟩:=k;have D:∀{ks:Ak} {vs:Ag},ItemsAre (Yw prog w) ks vs->ItemsAre (Yw q C) ks vs:=by
  intro ks vs hh
  induction hh with
  | nil=>exact .nil
  | cons h1 _ G=>exact .cons h1 G
 exact ⟨o,items,n,e,c,d,D it⟩
def IsPair.eqBool{A:Ao}{E:Ab}{s:Aq}{x y:Int × Ak}{a b:Au}{Q:Bool->Shared->Prop}(hu:A.units + 1 < cLine)(p:IsPair prog w s.heap x a)(q:IsPair prog w s.heap y b)
  (h:Q (decide (x=y)) s):A1 prog w A (PySem.eqBool (.ref a) (.ref b)) Q E s:=by
 by_cases G:a=b
 ·subst G
  have:=p.inj q;rw [Qao this] at h;exact SeqAt.EqAt.same (.ref a) prog w E Q h
 ·obtain ⟨o,n,t,tk,e,c,d,Z⟩:=p
  obtain ⟨o',O,t',D,Y,c',d',I⟩:=q;have it:∀j (h1:j < (#[Value.int x.1 tk,.ref t]).size) (h2:j < (#[Value.int y.1 D,.ref t']).size),SeqAt.EqAt A.in1 s (#[Value.int x.1 tk,.ref t])[j] (#[Value.int y.1 D,.ref t'])[j] (if j=0 then x.1 == y.1 else decide (x.2=y.2)):=by
   intro j h1 h2
   match j,h1,h2 with
   | 0,_,_=>exact SeqAt.EqAt.int_int x.1 tk y.1 D
   | 1,_,_=>exact fun C J E' Q' h'=>wpAny_eqBool_tuple (knd:=Yw C J) (by exact hu) (Z.any C J) (I.any C J) h'
  have r:=SeqAt.RcAt.tuples (A:=A) (s:=s) (e:=fun j=>if j=0 then x.1 == y.1 else decide (x.2=y.2)) ⟨o,e,c,n,d⟩ ⟨o',Y,c',O,d'⟩ (by lia) it;have ee:((List.range (min (#[Value.int x.1 tk,.ref t]).size (#[Value.int y.1 D,.ref t']).size)).all (fun j=>if j=0 then x.1 == y.1 else decide (x.2=y.2)) && (#[Value.int x.1 tk,.ref t]).size == (#[Value.int y.1 D,.ref t']).size)=decide (x=y):=by
   show ((x.1 == y.1) && (decide (x.2=y.2) && true) && true)=decide (x=y)
   by_cases h1:x.1=y.1
   ·grind
   ·grind
  rw [ee] at r;exact SeqAt.EqAt.of_refs G r prog w E Q h
theorem gu{A:Ao}{E:Ab}{ks:Ak}{Q:Bool->Shared->Prop}(m:Nat)(k:IsTupleKey (Yw prog w) s.heap ks a)(h:Q true s):A1 prog w A (eqIsQuiet (m + 1) (.ref a)) Q E s:=by
 obtain ⟨o,items,n,e,c,d,it⟩:=k;rw [eqIsQuiet.eq_2];have q:s.TypeIs (.ref a) "tuple" := ⟨o,e,c⟩;refine Qaa (Qdj q F.slot_tuple_eq.lookup ?_);refine Qaa (Qda (T := "tuple") (b:=true) q (by kernel_rfl) ?_);refine Qaa (Qbw e d ?_);refine Qaa (Qgo _ (fun rest b s'=>(∀v∈rest,carriedByValue v=true)/\b=(none,())/\s'=s) _ ?_ ?_ _ _ ⟨fun v hv=>?_,rfl,rfl⟩)
 ·rintro x rest b s' ⟨hv,rfl,rfl⟩
  refine Qaa ?_;rw [eqIsQuiet_byValue m (hv x Qaq)];exact Qad (Qad ⟨fun v hm=>hv v (Qam _ hm),rfl,rfl⟩)
 ·rintro b s' ⟨_,rfl,rfl⟩
  exact Qad h
 ·have C:∀{ks:Ak} {vs:Ag},ItemsAre (Yw prog w) ks vs->∀v∈vs,carriedByValue v=true:=by
   intro ks vs hh
   induction hh with
   | nil=>exact fun v hv=>nomatch hv
   | cons h1 _ D =>
    intro v hv;rcases Qan.mp hv with rfl | hv
    ·exact (Yw prog w).byValue _ _ h1
    ·exact D v hv
  exact C it v hv
def IsPair.quiet{A:Ao}{E:Ab}{k:Int × Ak}{Q:Bool->Shared->Prop}(p:IsPair prog w s.heap k a)(h:Q true s):A1 prog w A (eqIsQuiet 8 (.ref a)) Q E s:=by
 obtain ⟨o,n,t,tk,e,c,d,C⟩:=p;rw [eqIsQuiet.eq_2];have q:s.TypeIs (.ref a) "tuple" := ⟨o,e,c⟩;refine Qaa (Qdj q F.slot_tuple_eq.lookup ?_);refine Qaa (Qda (T := "tuple") (b:=true) q (by kernel_rfl) ?_);refine Qaa (Qbw e d ?_);refine Qaa (Qgo _ (fun rest b s'=>(rest=[.int k.1 tk,.ref t]\/rest=[.ref t]\/rest=[])/\b=(none,())/\s'=s) _ ?_ ?_ _ _ ⟨.inl rfl,rfl,rfl⟩)
 ·rintro x rest b s' ⟨hr,rfl,rfl⟩
  rcases hr with e1 | e1 | e1
  ·cases e1
   refine Qaa ?_;exact Qad (Qad ⟨.inr (.inl rfl),rfl,rfl⟩)
  ·cases e1
   exact Qaa (gu 6 C (Qad ⟨.inr (.inr rfl),rfl,rfl⟩))
  ·cases e1
 ·rintro b s' ⟨_,rfl,rfl⟩
  exact Qad h
end
def Zd4(prog:An)(w:Ar):HeapKind prog w (Int × Ak) where
 is:=IsPair prog w
 hash:=kR prog w
 draws:=fun k=>k.2.length + 3
 room:=fun A=>A.units + 1 < cLine
 inj:=fun p q=>p.inj q
 keeps:=fun p e hd s=>p.keeps e hd s
 pyHash:=fun hu p h=>p.pyHash hu h
 eqBool:=fun hu p q h=>p.eqBool hu q h
 quiet:=fun p h=>p.quiet h
section
variable {prog:An}{w:Ar}{K:Type}[DecidableEq K]
end
structure KN(Kk:Type)[DecidableEq Kk] where
 knd:∀(P:An) (w:Ar),HeapKind P w Kk
 hsh:Kk->Int
 at_:Hp->Kk->Addr->Prop
 hash_eq:∀P w k,(knd P w).hash k=hsh k
 ok:∀(P:An) (w:Ar) (H:Hp) (h:Heap) (k:Kk) (a:Au),HOk P w H h->at_ H k a->(knd P w).is h k a
 room:∀(P:An) (w:Ar) (A:Ao),A.units + 2 < cLine->(knd P w).room A.in1
 room0:∀(P:An) (w:Ar) (A:Ao),A.units + 2 < cLine->(knd P w).room A
 keep:∀(H H':Hp) (k:Kk) (a:Au),(∀b xs,H b=some (.tup xs)->H' b=some (.tup xs))->at_ H k a->at_ H' k a
section
variable {Kk:Type}[DecidableEq Kk](kn:KN Kk)
def entN(x:Kk × Au × As):DictEntry:={ hash:=kn.hsh x.1,key:=.ref x.2.1,val:=x.2.2 }
def Zhp(d:Au)(xs:List (Kk × Au × As))(h:Heap):Prop:=(d == sysModules)=false/\∃o es ep,h.get? d=some o/\o.ExactDict/\o.data=.dict es ep/\es.toList=xs.map (entN kn)
def yK(H:Hp)(d:Au)(kvs:List (Kk × V)):Prop:=(kvs.map (·.1)).Nodup/\kvs.length < sizeLine /\
 ((kvs=[]/\H d=some (.dK []))\/∃xs,H d=some (.ext (Zhp kn d xs))/\Paired (fun (p:Kk × V) (q:Kk × Au × As)=>p.1=q.1/\kn.at_ H q.1 q.2.1/\RelV p.2 q.2.2) kvs xs)
variable {kn}
def Zfq{w:Ar}(xs:List (Kk × Au × As)):xs.map (entryOfKey (kn.knd P w))=xs.map (entN kn):=by
 refine Qcl fun x _=>?_;show DictEntry.mk _ _ _=DictEntry.mk _ _ _;rw [kn.hash_eq]
def Zhq{w:Ar}{d:Au}{xs:List (Kk × Au × As)}(x:Zhp kn d xs h):Yl P w H h d (.ext (Zhp kn d xs)):=by
 obtain ⟨hm,o,es,ep,e,r⟩:=id x;refine ⟨x,⟨o,e⟩,fun h1 h2 y k=>?_⟩;obtain ⟨D,o',C,q,G,I⟩:=y;exact ⟨D,o',C,q,k _ G,I⟩
theorem yK.dict{X:Cx}{pins:Ac}{d:Au}{kvs:List (Kk × V)}(n:yK kn H d kvs)(I:Inv X pins f H s) :
  ∃xs,Heap.DictOfH (kn.knd X.prog X.w) s.heap d xs/\Paired (fun (p:Kk × V) (q:Kk × Au × As)=>p.1=q.1/\kn.at_ H q.1 q.2.1/\RelV p.2 q.2.2) kvs xs/\Mut (H d)/\(d == sysModules)=false:=by
 obtain ⟨hn,hl,h | h⟩:=n
 ·obtain ⟨rfl,e⟩:=h
  obtain ⟨z,hd,vs,G,dd⟩:=Zdu I.hok e;cases G;obtain ⟨o,es,ep,e1,ex,e2,_,C,_⟩:=dd;have D:es.toList=[]:=by
   generalize es.toList=l at C;cases C
   rfl
  exact ⟨[],⟨o,es,ep,e1,ex,e2,D,(fun x hx=>nomatch hx),Qdg⟩,.nil,by rw [e];exact True.intro,hd⟩
 ·obtain ⟨xs,e,C⟩:=h
  obtain ⟨⟨hm,o,es,ep,e1,ex,e2,D⟩,_,_⟩:=(show Yl X.prog X.w H s.heap d (.ext (Zhp kn d xs)) from I.hok d _ e);refine ⟨xs,⟨o,es,ep,e1,ex,e2,by rw [D,Zfq],fun x hx=>?_,?_⟩,C,by rw [e];exact True.intro,hm⟩
  ·have J:∀{l:List (Kk × V)} {m:List (Kk × Au × As)},Paired (fun (p:Kk × V) (q:Kk × Au × As)=>p.1=q.1/\kn.at_ H q.1 q.2.1/\RelV p.2 q.2.2) l m->∀x∈m,kn.at_ H x.1 x.2.1:=by
    intro l m C
    induction C with
    | nil=>exact fun x hx=>nomatch hx
    | cons h _ O =>
     intro x hx;rcases Qan.mp hx with rfl | hx
     ·exact h.2.1
     ·exact O x hx
   exact kn.ok _ _ _ _ _ _ I.hok (J C x hx)
  ·have J:∀{l:List (Kk × V)} {m:List (Kk × Au × As)},Paired (fun (p:Kk × V) (q:Kk × Au × As)=>p.1=q.1/\kn.at_ H q.1 q.2.1/\RelV p.2 q.2.2) l m->m.map (·.1)=l.map (·.1):=by
    intro l m C
    induction C with
    | nil=>rfl
    | cons h _ O=>rw [Qbu,Qbu,O,h.1]
   rw [J C];exact hn
theorem Jy{P:Kk × V->Kk × Au × As->Prop}(G:∀p q,P p q->p.1=q.1):∀{l:List (Kk × V)} {m:List (Kk × Au × As)},Paired P l m->∀k,(∀v,Yf l k=some v->∃q,atKey m k=some q/\∃p,P p (k,q)/\p.2=v)/\(Yf l k=none->atKey m k=none)
 | [],[],_,k=>⟨fun v h=>(by cases h),fun _=>rfl⟩
 | p::l,q::m,.cons h t,k=>by
  have I:=Jy G t k;have e:=G p q h
  by_cases hk:p.1=k
  ·have C:q.1=k:=e.symm.trans hk
   have a1:atKey (q::m) k=some q.2:=by
    unfold atKey;rw [Qdz,Qao C]
    rfl
   have D:Yf (p::l) k=some p.2:=ZY hk;refine ⟨fun v hv=>?_,fun hv=>?_⟩
   ·grind
   ·rw [D] at hv
    cases hv
  ·have C:¬q.1=k:=fun z=>hk (e.trans z)
   have a1:atKey (q::m) k=atKey m k:=by
    unfold atKey;rw [Qdz,Qau C]
   have D:Yf (p::l) k=Yf l k:=ZS hk;rw [a1,D];exact I
theorem kT{X:Cx}{pins:Ac}{d:Au}{k:Kk}{v:V}{u:As}{kvs:List (Kk × V)}{xs:List (Kk × Au × As)}{h':Heap}{tk:Nat}(I:Inv X pins f H s)(n:yK kn H d kvs)(hk:kn.at_ H k a)(rv:RelV v u)(hz:kvs.length + 1 < sizeLine)
  (C:Paired (fun (p:Kk × V) (q:Kk × Au × As)=>p.1=q.1/\kn.at_ H q.1 q.2.1/\RelV p.2 q.2.2) kvs xs) (D:Mut (H d)) (hm:(d == sysModules)=false) (hv:Yf kvs k=none) (dd':Heap.DictOfH (kn.knd X.prog X.w) h' d (xs++[(k,a,u)])) (sb:Heap.SameBut d s.heap h') :
  ∃H',yK kn H' d (kvs++[(k,v)])/\(∀b o,H b=some o->b≠d->H' b=some o)/\(∃o,H'=upd H d o)/\Inv X pins f H' { s with heap:=h',toks:=tk }:=by
 obtain ⟨o,es,ep,e1,ex,e2,J,_,_⟩:=dd';have Z:Zhp kn d (xs++[(k,a,u)]) h':=⟨hm,o,es,ep,e1,ex,e2,by rw [J,Zfq]⟩;have Y:∀b ys,H b=some (.tup ys)->upd H d (.ext (Zhp kn d (xs++[(k,a,u)]))) b=some (.tup ys):=fun b ys e=>by
  rw [Zh fun z=>by rw [<-z,e] at D;exact D];exact e
 refine ⟨_,⟨?_,?_,.inr ⟨_,Za,?_⟩⟩,fun b o e hb=>by rw [Zh hb];exact e,⟨_,rfl⟩,qj I D sb ⟨o,e1⟩ (Zhq Z)⟩
 ·rw [Qa6,Qdv]
  refine ⟨n.1,Qci.mpr ⟨Qbd,Qdg⟩,fun y O z hz q=>?_⟩;rw [Qbu,List.map_nil,Qal] at hz;rw [q,hz] at O;obtain ⟨x,hx,ex⟩:=Qa2.mp O;have G:x.1=k:=ex;have:=z6 n.1 x hx;rw [G,hv] at this;cases this
 ·rw [Qae]
  exact hz
 ·have go:∀{l:List (Kk × V)} {m:List (Kk × Au × As)},Paired (fun (p:Kk × V) (q:Kk × Au × As)=>p.1=q.1/\kn.at_ H q.1 q.2.1/\RelV p.2 q.2.2) l m->Paired (fun (p:Kk × V) (q:Kk × Au × As)=>p.1=q.1/\kn.at_ (upd H d (.ext (Zhp kn d (xs++[(k,a,u)])))) q.1 q.2.1/\RelV p.2 q.2.2) (l++[(k,v)]) (m++[(k,a,u)]):=by
   intro l m C
   induction C with
   | nil=>exact .cons ⟨rfl,kn.keep _ _ _ _ Y hk,rv⟩ .nil
   | cons h _ ih=>exact .cons ⟨h.1,kn.keep _ _ _ _ Y h.2.1,h.2.2⟩ ih
  exact go C
end
def vB:V->Option Int
 | .int i=>some i
 | .bl b=>some (b2i b)
 | _=>none
theorem kU{P:An}{w:Ar}:∀{vs:A0} {q:Ag} {ks:Ak},Vals vs q->vs.map vB=ks.map some->ItemsAre (Yw P w) ks q
 | [],_,[],r,_=>by cases r;exact .nil
 | v::vs,_,k::ks,.cons h t,e=>by
  injection e with e1 e2;refine .cons ?_ (kU t e2);cases v with
  | int i =>
   obtain ⟨t,rfl⟩:=h;cases e1;exact Qd2 _
  | bl b =>
   cases (show _=Value.bool b from h);cases e1;exact Qd2 _
  | _=>cases e1
def kW(H:Hp)(ks:Ak)(a:Au):Prop:=∃vs,H a=some (.tup vs)/\vs.map vB=ks.map some
def kW.is{w:Ar}{ks:Ak}(ok:HOk P w H h)(b:kW H ks a):IsTupleKey (Yw P w) h ks a:=by
 obtain ⟨vs,e,hv⟩:=b;obtain ⟨_,q,r,o,h1,h2,⟨n,C⟩,_⟩:=(show Yl P w H h a (.tup vs) from ok a _ e);exact ⟨o,q.toArray,n,h1,h2,C,by simpa using kU r hv⟩
def knT:KN (Ak) where
 knd:=fun P w=>tupleKind (Yw P w)
 hsh:=fun ks=>reduceHash (Builtin.Tuple.tupleHashOf (ks.map hashInt))
 at_:=kW
 hash_eq:=fun P w k=>rfl
 ok:=fun P w H h k a ok b=>b.is ok
 room:=fun P w A hu=>by show A.units + 1 < cLine;lia
 room0:=fun P w A hu=>by show A.units < cLine;lia
 keep:=fun H H' k a hk ⟨vs,e,hv⟩=>⟨vs,hk _ _ e,hv⟩
def Zfr(H:Hp)(k:Int × Ak)(a:Au):Prop:=∃t,H a=some (.tup [.int k.1,.ref t])/\kW H k.2 t
def knP:KN (Int × Ak) where
 knd:=Zd4
 hsh:=fun k=>reduceHash (Builtin.Tuple.tupleHashOf [hashInt k.1,reduceHash (Builtin.Tuple.tupleHashOf (k.2.map hashInt))])
 at_:=Zfr
 hash_eq:=fun P w k=>rfl
 ok:=fun P w H h k a ok ⟨t,e,b⟩=>by
  obtain ⟨_,C,r,o,h1,h2,⟨n,G⟩,_⟩:=(show Yl P w H h a (.tup [.int k.1,.ref t]) from ok a _ e);cases r with
  | cons I q =>
  cases q with
  | cons q D =>
  cases D;obtain ⟨tk,rfl⟩:=I;cases (show _=Value.ref t from q);exact ⟨o,n,t,tk,h1,h2,G,b.is ok⟩
 room:=fun P w A hu=>by show A.units + 1 + 1 < cLine;lia
 room0:=fun P w A hu=>by show A.units + 1 < cLine;lia
 keep:=fun H H' k a hk ⟨t,e,vs,e2,hv⟩=>⟨t,hk _ _ e,vs,hk _ _ e2,hv⟩
section
variable {o e:Av}{es:Al}{to:TE}{t:TA}{name:Str}{apos cpos:Pos}
end
def rRngV:A0->Hp->VK->Prop:=fun xs H Q=>∃j:Int,xs=[.int j]/\∀p,H p=none->Q (.ref p) (upd H p (.rng 0 j))
def qr:Xb X (.type "range") rRngV:=by
 intro pins s σ H xs D Q I r h;obtain ⟨j,rfl,q⟩:=h;obtain ⟨u,rfl,C⟩:=vals1 r;obtain ⟨t,rfl⟩:=C;refine call_range_1 ⟨.ref s.heap.objs.size,_,I.laid (fun b u e=>Qab _ e) (Qag _) ?_,rfl,q _ I.fresh⟩;exact ⟨_,_,_,Qak _ rfl⟩
def Zhr:A0->Hp->VK->Prop:=fun xs H Q=>∃(p:Au) (n:Nat),xs=[.ref p]/\H p=some (.rng 0 (n:Int))/\n<=1000000/\∀l,H l=none->Q (.ref l) (upd H l (.lst ((List.range n).map fun i:Nat=>V.int (i:Int))))
theorem vp (hc:X.calm=true):Xb X (.type "list") Zhr:=by
 intro pins s σ H xs D Q I r h;obtain ⟨p,n,rfl,e,hn,q⟩:=h;obtain ⟨u,rfl,Y⟩:=vals1 r;cases Y;obtain ⟨t,u,v,hp⟩:=(show Yl X.prog X.w H s.heap p (.rng 0 (n:Int)) from I.hok p _ e);have hsz:Builtin.Range.rangeSize 0 (n:Int) 1=(n:Int):=by
  unfold Builtin.Range.rangeSize
  split
  ·lia
  ·lia
 have C:∀z:Int,0<=z->z<=1000000->Builtin.Range.rangeFitsLong z=true:=fun z h1 h2=>by
  unfold Builtin.Range.rangeFitsLong;simp only [Qb8,Qg0];lia
 have J:Builtin.Range.small 0 (n:Int) 1=true:=by
  unfold Builtin.Range.small;rw [hsz,C 0 (by decide) (by decide),C n (by lia) (by lia),C 1 (by decide) (by decide),Qa1 (by decide),show (n:Int) + (1 - 1)=n by lia,C n (by lia) (by lia)];simp
 refine call_list_range (I.ok.hd hc) hp J hsz (by lia) fun h' tk acc c' hk hl it=>?_;refine ⟨.ref s.heap.objs.size,_,I.laid hk (Qag _) ?_,rfl,q _ I.fresh⟩;have G:acc.toList.length=n:=by exact it.1
 refine ⟨by rw [Qac,Qay,Qg7];lia,acc.toList,c',?_,by simpa using hl⟩;have Z:∀(m:Nat) (D:Ag) (k:Nat),D.length=m->(∀j v,D[j]?=some v->∃t,v=Value.int ((k + j:Nat):Int) t)->Vals ((List.range' k m).map fun i:Nat=>V.int (i:Int)) D:=by
  intro m
  induction m with
  | zero =>
   intro D k hl _;rw [Qby hl];exact .nil
  | succ m ih =>
   intro D k hl hh;cases D with
   | nil=>cases hl
   | cons u D =>
    refine .cons ?_ (ih D (k + 1) (by simpa using hl) fun j v O=>?_)
    ·obtain ⟨t,e⟩:=hh 0 u rfl
     exact ⟨t,e⟩
    ·obtain ⟨t,e⟩:=hh (j + 1) v (by simpa using O)
     exact ⟨t,by grind⟩
 rw [List.range_eq_range'];refine Z n acc.toList 0 G fun j v O=>?_;obtain ⟨t,e⟩:=it.2 j v (by rw [<-Qep];exact O);exact ⟨t,by grind⟩
end L2
namespace L2
def kX{A:PySem.Around}{k:Nat}(hr:WV k A):A.units + 2 < PySem.cLine:=Qfa (Nat.add_le_add_left (by decide:2<=64) _) hr.units
def Zhs(D:An)(w:Ar)(K:Af)(mg:Ae)(base:Heap)(k:Nat)(sp:Sp)(P:Au)(lpos:Pos)(qual:Str)(ta tb:TE)(n:Nat)(is:Aj)(te:TE):TE:=fun σ H Q=>ta σ H fun z C=>tb σ C fun x H1=>Yn H1 P lpos qual /\
 ∀(cs:List Au) (f:Au) (H2:Hp),(∀c∈cs,H1 c=none)->(∀c∈cs,∃o,H2 c=some (Xn o))->H1 f=none->(∀q,ZA H2 q->Yn (hide cs q) P lpos qual)->(∀b o,H1 b=some o->b≠P->H2 b=some o) ->
  YE D w K mg base k f H2 (Zho n te cs (is.map fun i=>(σ[i]?).getD none))->sp [z,x,.ref f] H2 (fun v q=>Q v (hide cs q)) E0
section
variable {X:Cx}{params:Arguments}{body a:Av}{scope:Scope}{lpos p pos:Pos}{c P g:Au}{qual x:Str}{k kl:Nat}{gd:Am}{pg ps ys:Ai}{is:Aj}{sp:Sp}{ta te:TE}{b:Av}{tb:TE}
def Zaq(F:YA X.prog X.w X.K X.mg X.base CX0 k g gd pg sp)(hr:WV k X.A)(hg:Gl X x)(hm:X.mg x=some (.ref g))(hk:PySem.W.keepIn X.K (.ref g)=true)(hb:Binds X.K gd pg [])(hfn:X.fn=fun _=>true)
  (ha:QE X a ta) (hb2:QE X b tb) (hcode:X.env.code=.ref c) (C:PySem.W.CodeHd X.base c P) (B:zF X.mg X.base) (hdef:defaultsOf params X.env=([],[])) (hq:X.env.qual ++ "<lambda>" = qual)
  {S0:Scope} {N0:Ai} (hX:X.env.scope=S0) (hXN:X.N=N0) (LL:Zjx S0 scope N0 ps ys is)
  (hbind:∀(cl:List (Str × Au)) (pm cv ctv:As) (us:Ag),us.length=ps.length->bindArgs (PySem.W.kla_fn "<lambda>" qual params body scope cl pm cv ctv) ⟨us,[]⟩=pure (ps.zip us))
  (hbody:∀(f c':Au) (cl:List (Str × Au)) (A:Ao) (outer:List Env) (s:Aq) (H1:Hp),WV kl (A.deeper (PySem.W.envX qual scope s.heap.objs.size f (.ref c') cl))->QE (cxL X.prog X.w X.K X.mg X.base (ps++ys) qual scope f (.ref c') cl A outer s H1) body te)
  (hdb:(x == ("__debug__" : Str))=false:=by decide) (he:starEach [a,b,.Lambda params body scope lpos] X.env=(false,eval a X.env)::starEach [b,.Lambda params body scope lpos] X.env:=by rfl) (he2:starEach [b,.Lambda params body scope lpos] X.env=(false,eval b X.env)::starEach [.Lambda params body scope lpos] X.env:=by rfl)
  (hs2:starEach [.Lambda params body scope lpos] X.env=(false,eval (.Lambda params body scope lpos) X.env)::starEach [] X.env:=by rfl) (hpl:(backTo pos (starEach [b,.Lambda params body scope lpos] X.env)).any (·.1)=false:=by rfl) :
  QE X (.Call (.Name x p) [a,b,.Lambda params body scope lpos] [] pos) (Zhs X.prog X.w X.K X.mg X.base (kl + 1) sp P lpos qual ta tb ps.length is te):=by
 have S:=LL.sc;have Y:∀y∈scope.names,y.2=.free->X.env.scope.names.lookup y.1=some .cell:=fun y hy h=>by rw [hX];exact LL.free y hy h
 have hN:∀q∈ys.zip is,X.N[q.2]?=some q.1:=fun q hq=>by rw [hXN];exact LL.vis q hq
 have hlen:=LL.len;refine ⟨?_⟩;intro pins s σ H Q I hw;refine Qcv (zj I hg hm ?_ hdb);have hlam:=Zam (X:=X) (lpos:=lpos) (params:=params) (body:=body) (scope:=scope) hcode C B hdef hq Y;refine Qgm (h₀:=X.base) I.ok.mod.kin hk ?_ he hpl;rw [he];refine Qcg (thn (ha.out pins s σ H _ I hw) fun u s0 ⟨x00,H0,I0,r0,hw0⟩=>?_);rw [he2];refine Qcg (thn (hb2.out pins s0 σ H0 _ I0 hw0) fun u1 s1 ⟨x0,H1,I1,r1,hT,q1⟩=>?_);rw [hs2];refine Qcg (thn (hlam pins s1 σ H1 (fun v H2=>∃(f c':Au) (oc:Obj) (ctv:As),v=.ref f/\H1 f=none/\H2 f=some (Xn (xR X qual params body scope c' ctv))/\H2 c'=some (Xn oc)/\xQ oc qual/\Yn H2 P lpos qual/\∀b o,H1 b=some o->b≠P->H2 b=some o) I1 ⟨hT,fun f c' oc ctv H2 a1 a2 a3 a4 a5 a6=>⟨f,c',oc,ctv,rfl,a1,a2,a3,a4,a5,a6⟩⟩) fun u2 s2 ⟨y,H2,I2,r2,f,c',oc,ctv,hy,f1,f2,f3,f4,f5,f6⟩=>?_);subst hy;cases r2;refine Qds ⟨I2.kIn,?_⟩;have hcell:∀d∈cellsOf X.env.cells,∃o v,s2.heap.get? d=some o/\o.data=.cell v:=fun d m=>by
  obtain ⟨y,hy⟩:=ZQ.mp m;obtain ⟨v,o,ho,hd⟩:=I2.cell y d hy;exact ⟨o,v,ho,hd⟩
 have Z:∀d∈cellsOf X.env.cells,H2 d=none:=fun d m=>by
  obtain ⟨y,hy⟩:=ZQ.mp m;exact I2.freeC y d hy
 have hn1:∀d∈cellsOf X.env.cells,H1 d=none:=fun d m=>by
  obtain ⟨y,hy⟩:=ZQ.mp m;exact I1.freeC y d hy
 let H3:Hp:=fun b=>if b∈cellsOf X.env.cells then (s2.heap.get? b).map Xn else H2 b;have O:∀d∈cellsOf X.env.cells,∃o v,H3 d=some (Xn o)/\o.data=.cell v/\s2.heap.get? d=some o:=fun d m=>by
  obtain ⟨o,v,e,hd⟩:=hcell d m;exact ⟨o,v,by show (if d∈cellsOf X.env.cells then _ else _)=_;rw [Qa1 m,e];rfl,hd,e⟩
 have G:∀d,d∉cellsOf X.env.cells->H3 d=H2 d:=fun d m=>Qaw m;have D:∀b o,H2 b=some o->H3 b=some o:=fun b o e=>by
  rw [G b (fun m=>by rw [Z b m] at e;cases e)];exact e
 have nloc:∀d∈cellsOf X.env.cells,d≠X.env.locals:=fun d m e=>by
  obtain ⟨o,v,g,hd⟩:=hcell d m;obtain ⟨m',⟨o',es,ep,g',hd',_⟩,_⟩:=I2.loc;rw [e,g'] at g;cases g;rw [hd'] at hd;cases hd
 have above:∀d∈cellsOf X.env.cells,X.s₀.heap.objs.size<=d:=fun d m=>by
  obtain ⟨y,hy⟩:=ZQ.mp m;exact I2.ok.cab y d (by rw [hfn]) hy
 have nfr:∀d∈cellsOf X.env.cells,d∉frs X.stack:=fun d m z=>by
  rcases Qan.mp (I2.stkSub d z) with e | e
  ·exact nloc d m e
  ·obtain ⟨_,o,g,_⟩:=I2.ok.funs.mem e
   exact absurd (Qap g) (Qe4.mpr (above d m))
 have hok3:HOk X.prog X.w H3 s2.heap:=fun b o e=>by
  by_cases m:b∈cellsOf X.env.cells
  ·obtain ⟨ob,v,e',hd,g⟩:=O b m
   rw [e'] at e;cases e;exact Jc g
  ·rw [G b m] at e
   exact (I2.hok b o e).stay (fun _ _ _ q=>q) (fun d q=>D _ _ q) fun d xs q=>D _ _ q
 have e0:Zgx X.prog X.w X.K X.mg X.base X.A X.stack s2 H3:=by
  have z:=I2.env0;refine ⟨z.frames,z.mod,fun b o e=>⟨(z.bs b o e).1,?_⟩,z.bsz,z.funs,fun b hb=>?_,hok3,z.bare⟩
  ·rw [G b fun m=>?_]
   ·exact (z.bs b o e).2
   ·exact absurd (Qap e) (Qe4.mpr (Qa8 I2.ok.bsz (above b m)))
  ·rw [G b fun m=>nfr b m hb]
   exact z.frf b hb
 have hcl:∀y d,(qh X.env.cells scope.names []).lookup y=some d->X.env.cells.lookup y=some d :=
  Jo (fun y hy h=>I2.ok.has y.1 (.inl (Y y hy h))) fun _ _ z=>by cases z
 have hcall:YE X.prog X.w X.K X.mg X.base (kl + 1) f H3 (Zho ps.length te (cellsOf X.env.cells) (is.map fun i=>(σ[i]?).getD none)):=by
  refine jY (ys:=ys) S (D _ _ f2) (D _ _ f3) f4 (fun y d h=>ZQ.mpr ⟨y,hcl y d h⟩) (fun d m=>let ⟨o,v,e,hd,_⟩:=O d m;⟨o,v,e,hd⟩) (fun y z d h1 h2=>I2.ok.inj y z d (hcl y d h1) (hcl z d h2)) (fun y h=>XJ h) (by rw [Qac,hlen]) (fun i y v h1 h2=>?_) (fun us hl=>hbind _ _ _ _ us hl) fun A outer s H1 hr=>(hbody f c' _ A outer s H1 hr).out;rw [Qaj] at h2;cases hj:is[i]? with
  | none=>rw [hj] at h2;cases h2
  | some j =>
   rw [hj] at h2;have h2'':(σ[j]?).getD none=some v:=Option.some.inj h2;have hσ:σ[j]?=some (some v):=by
    cases q:σ[j]? with
    | none=>rw [q] at h2'';cases h2''
    | some z=>rw [q] at h2'';exact congrArg some h2''
   have hz:(y,j)∈ys.zip is:=by
    obtain ⟨a1,e1⟩:=Qah.mp h1;obtain ⟨a2,e2⟩:=Qah.mp hj;rw [<-e1,<-e2,<-Qfs (h:=by rw [Qcd];lia)];exact Qc9 _
   have hfr:=S.free y (Qai h1);have kc:X.env.kindOf y=some .cell:=Y _ (zr hfr) rfl;obtain ⟨m,hm',hl⟩:=I2.loc;obtain ⟨u,r,l⟩:=hl j y v (hN _ hz) hσ (.inr (.inl kc));rcases l with ⟨l1,_⟩ | ⟨_,d,l2,l3⟩
   ·rw [kc] at l1;cases l1
   ·obtain ⟨d',hd'⟩:=XJ (cells:=X.env.cells) (acc:=[]) hfr
    have e:d'=d:=by have:=hcl y d' hd';rw [l2] at this;exact (Option.some.inj this).symm
    subst e;obtain ⟨o,ho,hd⟩:=l3;obtain ⟨o',v',e',_,g'⟩:=O d' (ZQ.mpr ⟨y,l2⟩);rw [ho] at g';cases g';exact ⟨d',o,u,hd',e',hd,r⟩
 have hsp:=q1 (cellsOf X.env.cells) f H3 hn1 (fun d m=>let ⟨o,_,e,_⟩:=O d m;⟨o,e⟩) f1 ?_ (fun b o e hbP=>D _ _ (f6 b o e hbP)) hcall
 ·have hl:=F.len _ _ _ _ hsp
  have rv:Vals [x00,x0,V.ref f] [u,u1,Value.ref f]:=.cons r0 (.cons r1 (.cons rfl .nil));have hlu:([u,u1,Value.ref f]++[]).length=pg.length:=hl;refine Qhq (Qec (F.run X.A X.stack s2 H3 ⟨[u,u1,.ref f],[]⟩ [u,u1,.ref f] [x00,x0,.ref f] _ _ hr e0 (by simpa using hb s2 [u,u1,.ref f] I2.kIn hlu) rv hsp) fun r s' hq=>?_);cases r with
  | error e=>exact hq.elim
  | ok fl =>
   cases fl with
   | next=>exact False.elim hq
   | brk=>exact False.elim hq
   | cont=>exact False.elim hq
   | ret uu =>
    obtain ⟨v,H4,os,bare,un,hok4,rv4,q4⟩:=hq;have h4in:∀d∈cellsOf X.env.cells,∃o,H4 d=some (Xn o)/\s2.heap.get? d=some o/\s'.heap.get? d=some o:=fun d m=>by
     obtain ⟨o,v,e,hd,g⟩:=O d m;have e4:=un.frzs d o _ e;exact ⟨o,e4,g,(hok4 d _ e4).1⟩
    have J:∀d,H2 d=none->d∉cellsOf X.env.cells->H3 d=none:=fun d n m=>by rw [G d m];exact n
    have nm:∀d o,H2 d=some o->d∉cellsOf X.env.cells:=fun d o e m=>by rw [Z d m] at e;cases e
    refine ⟨v,hide (cellsOf X.env.cells) H4,I2.call' os ⟨fun d o e n hb hx=>?_,fun d o e n hb hx=>?_,fun d o e n hx=>?_,fun d o e hx=>un.there d o e hx,fun d xs e=>?_,fun d o u e=>?_,fun d pz e=>?_⟩ (zE hok4 fun d m=>let ⟨o,e,_⟩:=h4in d m;⟨o,e⟩) bare (fun _ z=>nomatch z),rv4,q4⟩
    ·by_cases m:d∈cellsOf X.env.cells
     ·obtain ⟨o',_,g,g'⟩:=h4in d m
      rw [e] at g;cases g;exact g'
     ·exact un.keep d o e (J d n m) hb hx
    ·by_cases m:d∈cellsOf X.env.cells
     ·obtain ⟨o',_,g,g'⟩:=h4in d m
      rw [e] at g;cases g;exact ⟨o.slots,g'⟩
     ·exact un.slot d o e (J d n m) hb hx
    ·by_cases m:d∈cellsOf X.env.cells
     ·exact Yp m
     ·rw [Z1 m];exact un.free d o e (J d n m) hx
    ·rw [Z1 (nm d _ e)];exact un.tups d xs (D _ _ e)
    ·rw [Z1 (nm d _ e)];exact un.frzs d o u (D _ _ e)
    ·rw [Z1 (nm d _ e)];exact un.tbls d pz (D _ _ e)
 ·intro H4 s4
  have out:∀b o,H2 b=some o->hide (cellsOf X.env.cells) H4 b=some o:=fun b o e=>by
   rw [Z1 (fun m=>by rw [Z b m] at e;cases e)];exact s4 _ _ (D _ _ e)
  rcases f5 with z | ⟨c2,oc2,z1,z2,z3⟩
  ·exact .inl (out _ _ z)
  ·exact .inr ⟨c2,oc2,out _ _ z1,out _ _ z2,z3⟩
end
section
variable {κ:Type}[DecidableEq κ]
def Yt(l:List κ)(k:κ):List κ:=if k∈l then l else l++[k]
def WA{l:List κ}(h:l.Nodup)(k:κ):(Yt l k).Nodup:=by
 unfold Yt
 split
 ·exact h
 ·grind
def GR{l:List κ}{k x:κ}:x∈Yt l k↔x∈l\/x=k:=by
 unfold Yt
 split
 ·grind
 ·rw [Qa4,Qal]
def Zd5(l:List κ)(k:κ):(Yt l k).length<=l.length + 1:=by
 unfold Yt
 split
 ·lia
 ·grind
def Zd6(l:List κ)(k:κ):∃r,Yt l k=l++r:=by
 unfold Yt
 split
 ·exact ⟨[],(Qbq _).symm⟩
 ·exact ⟨[k],rfl⟩
theorem Jz(ks:List κ):∀l:List κ,∃r,ks.foldl Yt l=l++r:=by
 induction ks with
 | nil=>exact fun l=>⟨[],(Qbq _).symm⟩
 | cons k r q =>
  intro l;obtain ⟨a,ha⟩:=Zd6 l k;obtain ⟨b,hb⟩:=q (Yt l k);exact ⟨a++b,by grind⟩
def Zar{l r:List κ}{k:κ}(h:k∈l):(l++r).idxOf k=l.idxOf k:=by grind
theorem idx_map{α β:Type}[DecidableEq α][DecidableEq β](f:α->β)(hf:∀a b,f a=f b->a=b)(s:α):∀l:List α,(l.map f).idxOf (f s)=l.idxOf s
 | []=>rfl
 | x::r=>by
  rw [Qbu,Qgh,Qgh,idx_map f hf s r]
  by_cases h:x=s
  ·grind
  ·grind
def Wl(l:List κ):List (κ × V):=l.zipIdx.map fun p=>(p.1,V.int (p.2:Int))
def JY(l:List κ):(Wl l).map (·.1)=l:=by
 unfold Wl;rw [Qb4];exact List.zipIdx_map_fst 0 l
def ya(l:List κ):(Wl l).length=l.length:=by
 unfold Wl;rw [Qac,List.length_zipIdx]
def xS(l:List κ)(k:κ):Wl (l++[k])=Wl l++[(k,V.int (l.length:Int))]:=by
 unfold Wl;rw [List.zipIdx_append,Qa6];simp
def qt:∀(l:List κ) (k:κ),k∈l->l.Nodup->Yf (Wl l) k=some (V.int (l.idxOf k:Int)):=by
 intro l k hk hn;have hi:=Qes hk;have hm:(k,V.int (l.idxOf k:Int))∈Wl l:=by
  refine Qa2.mpr ⟨(k,l.idxOf k),?_,rfl⟩;rw [List.mem_zipIdx_iff_getElem?];simp [hi,Qaf]
 have:=z6 (kvs:=Wl l) (by rw [JY];exact hn) _ hm;exact this
def xT(l:List κ)(k:κ)(hk:k∉l):Yf (Wl l) k=none:=by
 unfold Yf;rw [Option.map_eq_none_iff,List.find?_eq_none];intro x hx z;have:x.1∈(Wl l).map (·.1):=Qcc hx;rw [JY,Qaz z] at this;exact hk this
end
end L2
namespace EnL
open AutoSeq1 (wpAny_loadPart')
section
variable {prog:An}{w:Ar}{A:Ao}{E:Ab}{s:Aq}
end
end EnL
namespace L2
section
variable {κ β:Type}[DecidableEq κ][DecidableEq β]
def kY(f:κ->β)(l:List κ)(k:κ)(h:∀a∈l,f a=f k->a=k):Yt (l.map f) (f k)=(Yt l k).map f:=by
 unfold Yt
 by_cases hk:k∈l
 ·grind
 ·grind
theorem Zfs(f:κ->β)(s:κ):∀l:List κ,(∀a∈l,f a=f s->a=s)->(l.map f).idxOf (f s)=l.idxOf s
 | [],_=>rfl
 | x::r,h=>by
  rw [Qbu,Qgh,Qgh,Zfs f s r fun a ha=>h a (Qam _ ha)]
  by_cases e:x=s
  ·grind
  ·grind
theorem Xg:∀{l1 l2:List κ},l1.Nodup->(∀x∈l1,x∈l2)->l1.length<=l2.length
 | [],_,_,_=>Qba _
 | a::r,l2,h1,hs=>by
  rw [Qci] at h1;have ha:=hs a Qaq;have:=Xg (l1:=r) (l2:=l2.erase a) h1.2 fun x hx=>(List.mem_erase_of_ne (show x≠a from fun z=>h1.1 (z ▸ hx))).mpr (hs x (Qam _ hx));rw [List.length_erase_of_mem ha] at this;have hp:=Qfi ha;rw [Qce];lia
end
def Zd7[DecidableEq m]{kn:KN m}{kvs:List (m × V)}{xs:List (m × Au × As)}(D:Paired (fun (p:m × V) (q:m × Au × As)=>p.1=q.1/\kn.at_ H q.1 q.2.1/\RelV p.2 q.2.2) kvs xs)(k:m):(atKey xs k).isSome=(Yf kvs k).isSome:=by
 have pa:=Jy (fun p q h=>h.1) D k;cases hv:Yf kvs k with
 | none=>rw [pa.2 hv];rfl
 | some x =>
  obtain ⟨q,C,_⟩:=pa.1 x hv;rw [C]
  rfl
def rNInN:R2:=fun x y H Q=>∃(Kk:Type) (_:DecidableEq Kk) (kn:KN Kk) (d a:Au) (k:Kk) (kvs:List (Kk × V)),x=.ref a/\y=.ref d/\yK kn H d kvs/\kn.at_ H k a/\Q (.bl (!(Yf kvs k).isSome)) H
def Zas(hu:X.A.units + 2 < cLine):OpR X (compareOp .NotIn) rNInN:=by
 intro pins s σ H x y v u Q I D G h;obtain ⟨Kk,_,kn,d,a,k,kvs,rfl,rfl,n,hk,q⟩:=h;cases D;cases G;obtain ⟨xs,dd,C,J,hm⟩:=n.dict I;refine wpAny_notIn_heap (kn.room _ _ _ hu) (kn.ok _ _ _ _ _ _ I.hok hk) hm dd ?_;rw [Zd7 C];exact ⟨.bl _,H,I.tok _,rfl,q⟩
def tNGet(td ty:TE):TE:=fun σ H Q=>td σ H fun x H1=>ty σ H1 fun y H2=>∃(Kk:Type) (_:DecidableEq Kk) (kn:KN Kk) (d a:Au) (k:Kk) (kvs:List (Kk × V)) (v:V),x=.ref d/\y=.ref a/\yK kn H2 d kvs/\kn.at_ H2 k a/\Yf kvs k=some v/\Q v H2
theorem Zht{i:Av}{ty:TE}{pos:Pos}(hu:X.A.units + 2 < cLine)(ho:QE X o O)(hi:QE X i ty)(hs:Zkq i):QE X (.Subscript o i pos) (tNGet O ty):=⟨by
 intro pins s σ H Q I h;refine Zaf PySem.F.slot_dict_getitem.lookup hs (thn (ho.out pins s σ H _ I h) fun u s1 ⟨x,H1,Z,rx,J⟩=>thn (hi.out pins s1 σ H1 _ Z J) fun iv s2 ⟨y,H2,D,ry,Kk,_,kn,d,a,k,kvs,v,ex,ey,n,hk,hv,q2⟩=>?_);subst ex;subst ey;obtain rfl:u=Value.ref d:=rx;obtain rfl:iv=Value.ref a:=ry;obtain ⟨xs,dd,G,mu,hm⟩:=n.dict D;obtain ⟨q,Y,p',C,e⟩:=(Jy (fun p q h=>h.1) G k).1 v hv;refine ⟨dd.typeIs,wpAny_getItem_heap (kn.room _ _ _ hu) (kn.ok _ _ _ _ _ _ D.hok hk) dd Y ⟨v,H2,D.tok _,e ▸ C.2.2,q2⟩⟩⟩
def sNPut(td ty tv:TE):TS:=fun D σ H=>tv σ H fun v H1=>td σ H1 fun x H2=>ty σ H2 fun y q=>∃(Kk:Type) (_:DecidableEq Kk) (kn:KN Kk) (d a:Au) (k:Kk) (kvs:List (Kk × V)),x=.ref d/\y=.ref a/\yK kn q d kvs/\kn.at_ q k a/\Yf kvs k=none/\kvs.length + 1 < sizeLine /\
 ∀H',yK kn H' d (kvs++[(k,v)])->(∀b o,q b=some o->b≠d->H' b=some o)->(∃o,H'=upd q d o)->D.nx σ H'
theorem Zhu{i:Av}{ty tv:TE}{pos pos':Pos}(hu:X.A.units + 2 < cLine)(ho:QE X o O)(hi:QE X i ty)(hv:QE X e tv)(hs:swapsWith e (some (.Subscript o i pos')) pos.line X.env=pure false):QS X (.Assign [.Subscript o i pos'] e pos) (sNPut O ty tv):=⟨by
 intro pins s σ H D I h;refine wpAny_Assign_Subscript (thn (hv.out pins s σ H _ I h) fun r s1 ⟨v,H1,I1,rv,q1⟩=>thn (ho.out pins s1 σ H1 _ I1 q1) fun u Z ⟨x,H2,I2,rx,q2⟩=>thn (hi.out pins Z σ H2 _ I2 q2) fun iv s3 ⟨y,H3,G,ry,Kk,_,kn,d,a,k,kvs,ex,ey,n,hk,hv,hz,Y⟩=>?_) hs;subst ex;subst ey;obtain rfl:u=Value.ref d:=rx;obtain rfl:iv=Value.ref a:=ry;obtain ⟨xs,dd,C,mu,hm⟩:=n.dict G;have J:atKey xs k=none:=(Jy (fun p q h=>h.1) C k).2 hv;refine wpAny_setItem_heap (kn.room _ _ _ hu) (kn.ok _ _ _ _ _ _ G.hok hk) dd (fun h' dd' sb=>?_) (by rw [<-Qf3 C];lia);rw [storedH_new J] at dd';obtain ⟨H',n',k',o',I'⟩:=kT G n hk rv hz C mu hm hv dd' sb;exact ⟨σ,H',I',Y H' n' k' o'⟩⟩
theorem ZZ:∀(names:List (Str × NameKind)) (n:Nat) (acc:List (Str × Au)),cellsFrom n names acc=cellsFrom n names []++acc
 | [],_,_=>rfl
 | (x,k)::r,n,acc=>by
  unfold cellsFrom
  split
  ·rw [ZZ r (n + 1) ((x,n)::acc),ZZ r (n + 1) [(x,n)],Qca]
   rfl
  ·exact ZZ r n acc
theorem JZ:∀(names:List (Str × NameKind)) (n:Nat) {x:Str} {c:Au},(x,c)∈cellsFrom n names []->(x,NameKind.cell)∈names
 | [],_,_,_,h=>nomatch h
 | (y,k)::r,n,x,c,h=>by
  unfold cellsFrom at h
  split at h
  ·rename_i hk
   rw [ZZ] at h;rcases Qa4.mp h with h | h
   ·exact Qam _ (JZ r (n + 1) h)
   ·grind
  ·exact Qam _ (JZ r n h)
theorem WC:∀{l r:List (Str × m)},(l++r).lookup x=match l.lookup x with | some c=>some c | none=>r.lookup x
 | [],r=>rfl
 | (y,c)::l,r=>by
  grind
section
variable {M:Model}{A:Ao}{E:Ab}{s:Aq}
def Zhv{scope:Scope}{globals:Au}{q:List (Str × Au)}{binds:List (Str × As)}{qual:Str}{func:Option Au}{code:As}{builtins:Au}{Q:Env->Shared->Prop}
  (hk:scope.kind=.function) (hl:∀x∈binds,scope.names.lookup x.1=some .local)
  (hQ:∀h' tk,h'.Ns s.heap.objs.size (fun x=>binds.reverse.lookup x)->(∀b o,s.heap.get? b=some o->h'.get? b=some o)->(∀n c,(n,c)∈cellsFrom (s.heap.objs.size + 1) scope.names []->h'.IsCell c none/\s.heap.objs.size < c) ->
   ((cellsFrom (s.heap.objs.size + 1) scope.names []).Pairwise fun x y=>x.2≠y.2)->Q (newEnv scope s.heap.objs.size globals (cellsFrom (s.heap.objs.size + 1) scope.names q) qual func code none builtins) { s with heap:=h',toks:=tk }) :
  wpAny M A (newFunctionEnv scope globals q binds qual func code none builtins) Q E s:=by
 simp only [newFunctionEnv,Option.isSome_none,Qbo,Qf4];refine Qaa (wpAny_alloc ?_);refine Qaa (wpAny_layCells _ (fun name kind cells=>by grind) _ _ _ _ ?_);have ok:=cellsFrom_ok scope.names (s.heap.push { cls:=.type "frame",data:=.dict #[] }) (s.heap.objs.size + 1) [] ⟨fun _ _ hm=>(nomatch hm),List.Pairwise.nil⟩ (by rw [Qbv];exact Qag _);rw [Qbv] at ok;rw [show ({ s with heap:=s.heap.push { cls:=.type "frame",data:=.dict #[] } }:Aq).heap.objs.size=s.heap.objs.size + 1 from Qbv ..];refine Qaa (wpAny_forIn_list _
  (fun rest _ s'=>∃C h',binds=C++rest/\s'={ s with heap:=h',toks:=s.toks + C.length }/\h'.Ns s.heap.objs.size (fun x=>C.reverse.lookup x) /\
   Heap.SameBut s.heap.objs.size (pushCells (s.heap.push { cls:=.type "frame",data:=.dict #[] }) scope.names) h') _ ?_ ?_ binds _
  ⟨[],_,rfl,rfl,(Heap.Ns.new s.heap (.type "frame")).keeps (pushCells_keeps _ _),Heap.SameBut.refl ..⟩)
 ·rintro ⟨name,v⟩ rest _ s' ⟨C,h',hb,rfl,G,D⟩
  have O:Env.kindOf { scope,locals:=s.heap.objs.size,globals,cells:=cellsFrom (s.heap.objs.size + 1) scope.names q,qual,func,code,frame:=some s.heap.objs.size,builtins } name=some .local:=hl (name,v) (by rw [hb];simp);have hp:((scope.kind == .class) || ((scope.kind == .module) && (s.heap.objs.size != globals)))=false:=by rw [hk];rfl
  simp only [storeName_local O hp];refine Qaa (wpAny_nsSet G fun Y J I=>Qad ⟨C++[(name,v)],Y,by simp [hb],?_,?_,D.trans I⟩)
  ·simp [Nat.add_assoc]
  ·rw [lookup_reverse_snoc];exact J
 ·rintro _ s' ⟨C,h',hb,rfl,G,D⟩
  rw [Qbq] at hb;subst hb;refine Qad (hQ h' _ G (fun b o e=>?_) (fun n c hm=>?_) ok.apart)
  ·exact D.extBut b o (Qbe (Qap e)) (pushCells_keeps _ _ b o (Qab _ e))
  ·obtain ⟨q1,Z⟩:=ok.empty n c hm
   exact ⟨q1.sameBut D (Qeb Z),Z⟩
end
structure Zhw(scope:Scope)(ps ls ys:Ai):Prop where
 kind:scope.kind=.function
 co:scope.isCoroutine=false
 gen:scope.isGenerator=false
 par:∀p∈ps,scope.names.lookup p=some .local
 free:∀y∈ys,scope.names.lookup y=some .free
 nd:(ps++(ls++ys)).Nodup
 ndn:(scope.names.map (·.1)).Nodup
def cxN(P:An)(w:Ar)(K:Af)(mg:Ae)(base:Heap)(N:Ai)(qual:Str)(scope:Scope)(f:Au)(q:As)(cl:List (Str × Au))(A:Ao)(outer:List Env)(s:Aq)(H:Hp):Cx where
 prog:=P
 w:=w
 K:=K
 mg:=mg
 base:=base
 A:=A.deeper (PySem.W.envX qual scope s.heap.objs.size f q (cellsFrom (s.heap.objs.size + 1) scope.names cl))
 N:=N
 s₀:=s
 H₀:=H
 env:=PySem.W.envX qual scope s.heap.objs.size f q (cellsFrom (s.heap.objs.size + 1) scope.names cl)
 outer:=outer
 stack:=PySem.W.envX qual scope s.heap.objs.size f q (cellsFrom (s.heap.objs.size + 1) scope.names cl)::outer
 ex:=[]
 calm:=true
 fn:=fun x=>scope.names.lookup x == some .cell
 pn:=[]
 xe:=fun _ _=>False
def Zft(n m:Nat)(ts:TS)(cs:List Au)(q:List (Option V)):Sp:=fun vs H Q _=>vs.length=n/\ts { nx:=fun _ H'=>(∀c∈cs,H' c=none)->Q .non (X9 cs H H'),rt:=fun v H'=>(∀c∈cs,H' c=none)->Q v (X9 cs H H') } (vs.map some++(List.replicate m none++q)) (hide cs H)
section
variable {P:An}{w:Ar}{K:Af}{mg:Ae}{base:Heap}
theorem zH{k:Nat}{f:Au}{name qual:Str}{params:Arguments}{body:List Aw}{scope:Scope}{cl:List (Str × Au)}{doc pm ctv:As}{ps ls ys:Ai}{cv:List (Option V)}{ts:TS}
  (S:Zhw scope ps ls ys) (hf:H f=some (Xn (PySem.W.fnMade name qual params body scope cl doc pm Z ctv))) (hc:H Z=some (Xn U)) (hoc:xQ U qual)
  (hcl:∀x c,cl.lookup x=some c->c∈M) (hcs:∀c∈M,∃o v,H c=some (Xn o)/\o.data=.cell v)
  (inj:∀x y c,cl.lookup x=some c->cl.lookup y=some c->x=y) (has:∀x,scope.names.lookup x=some .free->∃c,cl.lookup x=some c)
  (hcv:cv.length=ys.length) (hval:∀(i:Nat) (y:Str) (v:V),ys[i]?=some y->cv[i]?=some (some v)->∃c o u,cl.lookup y=some c/\H c=some (Xn o)/\o.data=.cell (some u)/\RelV v u)
  (hb:∀us:Ag,us.length=ps.length->bindArgs (PySem.W.fnX name qual params body scope cl .none .none doc pm none (.ref Z) ctv) ⟨us,[]⟩=pure (ps.zip us))
  (hbody:∀(A:Ao) (outer:List Env) (s:Aq) (H1:Hp),WV k (A.deeper (PySem.W.envX qual scope s.heap.objs.size f (.ref Z) (cellsFrom (s.heap.objs.size + 1) scope.names cl)))->PSs (cxN P w K mg base (ps++(ls++ys)) qual scope f (.ref Z) cl A outer s H1) body ts) :
  YE P w K mg base (k + 1) f H (Zft ps.length ls.length ts M cv):=by
 refine ⟨⟨_,_,hf,rfl⟩,?_⟩;intro A outer s H1 us vs Q E fz hr D r ht;obtain ⟨hl,ht⟩:=ht;have gf:s.heap.get? f=some (PySem.W.fnMade name qual params body scope cl doc pm Z ctv):=(D.hok f _ (fz _ _ _ hf)).1;have O:∀c∈M,∃o v,H1 c=some (Xn o)/\o.data=.cell v/\s.heap.get? c=some o:=fun c m=>by
  obtain ⟨o,v,e,d⟩:=hcs c m;exact ⟨o,v,fz _ _ _ e,d,(D.hok c _ (fz _ _ _ e)).1⟩
 have hcs2:∀c∈M,∃o,H1 c=some (Xn o):=fun c m=>let ⟨o,_,e,_⟩:=O c m;⟨o,e⟩;obtain ⟨vs0,t0,hd0,hv0⟩:=hoc;have lim:s.heap.NoLimit:=D.mod.nolimit.keeps fun b o e=>(D.bs b o e).1;have lus:us.length=ps.length:=by rw [<-r.length];exact hl
 refine codeAny_call_function hr.depth gf rfl S.co S.gen rfl ⟨Z,U,vs0,t0,rfl,(D.hok Z _ (fz _ _ _ hc)).1,hd0,hv0⟩ ?_;rw [hb us lus];refine Qad (Zhv S.kind (fun x hx=>S.par _ (Qe8 hx).1) fun h₁ tk hns old G hap=>⟨lim.keeps old,codeAny_func ?_⟩);have ndp:ps.Nodup:=(Qdv.mp S.nd).1;have look:∀x c,(cellsFrom (s.heap.objs.size + 1) scope.names cl).lookup x=some c->((x,c)∈cellsFrom (s.heap.objs.size + 1) scope.names []/\(cellsFrom (s.heap.objs.size + 1) scope.names []).lookup x=some c)\/cl.lookup x=some c:=fun x c e=>by
  rw [ZZ,WC] at e;cases q:(cellsFrom (s.heap.objs.size + 1) scope.names []).lookup x with
  | none=>rw [q] at e;exact .inr e
  | some d=>rw [q] at e;cases e;exact .inl ⟨Qb5 q,rfl⟩
 have C:∀x,scope.names.lookup x=some .free->(cellsFrom (s.heap.objs.size + 1) scope.names cl).lookup x=cl.lookup x:=fun x hx=>by
  rw [ZZ,WC];cases q:(cellsFrom (s.heap.objs.size + 1) scope.names []).lookup x with
  | none=>rfl
  | some d =>
   have m1:=JZ scope.names _ (Qb5 q);have m2:=Qb5 hx;have:∀{l:List (Str × NameKind)},(l.map (·.1)).Nodup->(x,NameKind.cell)∈l->(x,NameKind.free)∈l->False:=fun {l} nd a b=>by
    induction l with
    | nil=>cases a
    | cons p l ih =>
     rw [Qbu,Qci] at nd;rcases Qan.mp a with a | a <;> rcases Qan.mp b with b | b
     ·rw [<-a] at b;cases b
     ·exact nd.1 (by rw [<-a];exact Qcc (f:=(·.1)) b)
     ·exact nd.1 (by rw [<-b];exact Qcc (f:=(·.1)) a)
     ·exact ih nd.2 a b
   exact (this S.ndn m1 m2).elim
 have oldC:∀x c,cl.lookup x=some c->c < s.heap.objs.size:=fun x c e=>by
  obtain ⟨o,v,_,_,g⟩:=O c (hcl x c e);exact Qap g
 have I:Inv (cxN P w K mg base (ps++(ls++ys)) qual scope f (.ref Z) cl A outer s (hide M H1)) [] (vs.map some++(List.replicate ls.length none++cv)) (hide M H1) { s with heap:=h₁,toks:=tk }:=by
  have noA:∀b:Au,b∉([]:List Au):=fun b z=>nomatch z;refine ⟨⟨D.mod,S.kind,rfl,rfl,Qag _,fun x y c h1 h2=>?_,fun y hy=>?_,fun y c hy h=>?_,fun _=>hr.hd,Qfw D.frames,.inr ⟨rfl,rfl⟩,fun b z=>absurd z (noA b),fun b o e=>⟨(D.bs b o e).1,?_⟩,D.bsz,fun b _ _=>noA b,fun b z=>absurd z (noA b),D.funs,fun b hb=>?_⟩,
   rfl,D.bare,Un.kept old,⟨_,hns,fun i y v h1 h2 h3=>?_⟩,fun y c h=>?_,?_,fun y c h=>?_,fun p hp=>absurd (show p∈([]:Ac) from hp) (by simp),(zE D.hok hcs2).kept old,?_⟩
  ·rcases look x c h1 with ⟨m1,_⟩ | l1 <;> rcases look y c h2 with ⟨m2,_⟩ | l2
   ·exact name_of_addr hap m1 m2
   ·exact absurd (oldC y c l2) (Qe4.mpr (Qav (G x c m1).2))
   ·exact absurd (oldC x c l1) (Qe4.mpr (Qav (G y c m2).2))
   ·exact inj x y c l1 l2
  ·have hy:scope.names.lookup y=some .cell\/scope.names.lookup y=some .free:=hy
   rcases hy with hy | hy
   ·obtain ⟨c,e⟩:=GQ (n:=s.heap.objs.size + 1) hy
    exact ⟨c,by show (cellsFrom (s.heap.objs.size + 1) scope.names cl).lookup y=_;rw [ZZ,WC,e]⟩
   ·obtain ⟨c,e⟩:=has y hy
    exact ⟨c,by show (cellsFrom (s.heap.objs.size + 1) scope.names cl).lookup y=_;rw [C y hy,e]⟩
  ·have hy:scope.names.lookup y=some .cell:=eq_of_beq (show (scope.names.lookup y == some .cell)=true from hy)
   obtain ⟨d,e⟩:=GQ (n:=s.heap.objs.size + 1) hy;have h':(cellsFrom (s.heap.objs.size + 1) scope.names cl).lookup y=some c:=h;rw [ZZ,WC,e] at h';cases h';exact Qav (G y _ (Qb5 e)).2
  ·by_cases m:b∈M
   ·exact Yp m
   ·exact (Z1 m).trans (D.bs b o e).2
  ·by_cases m:b∈M
   ·exact Yp m
   ·exact (Z1 m).trans (D.frf b hb)
  ·by_cases hi:i < vs.length
   ·rw [Qbg (by simpa using hi),Qaj] at h2
    have ha:vs[i]?=some v:=by
     cases e:vs[i]? with
     | none=>rw [e] at h2;cases h2
     | some a=>rw [e] at h2;cases h2;rfl
    obtain ⟨u,hu,rv⟩:=r.get ha;have Y:(ps++(ls++ys))[i]?=some y:=h1;rw [Qbg (by lia)] at Y;exact ⟨u,rv,.inl ⟨S.par y (Qai Y),xP ndp Y hu lus.symm⟩⟩
   ·rw [Qa7 (by simpa using hi),Qac] at h2
    have Y:(ps++(ls++ys))[i]?=some y:=h1;rw [Qa7 (by lia),<-hl] at Y
    by_cases hj:i - vs.length < ls.length
    ·rw [Qbg (by rw [Qax];exact hj),List.getElem?_replicate] at h2
     split at h2 <;> cases h2
    ·rw [Qa7 (by rw [Qax];lia),Qax] at h2
     rw [Qa7 (by lia)] at Y;obtain ⟨c,o,u,e1,e2,e3,rv⟩:=hval _ y v Y h2;have hfy:=S.free y (Qai Y);exact ⟨u,rv,.inr ⟨.inr hfy,c,(C y hfy).trans e1,o,old _ _ (D.hok c _ (fz _ _ _ e2)).1,e3⟩⟩
  ·rcases look y c h with ⟨m1,_⟩ | l1
   ·exact ⟨none,(G y c m1).1⟩
   ·obtain ⟨o,v,_,d,g⟩:=O c (hcl y c l1)
    exact ⟨v,o,old _ _ g,d⟩
  ·show hide M H1 s.heap.objs.size=none
   by_cases m:s.heap.objs.size∈M
   ·exact Yp m
   ·rw [Z1 m];exact D.hok.fresh (Qag _)
  ·rcases look y c h with ⟨m1,_⟩ | l1
   ·by_cases m:c∈M
    ·exact Yp m
    ·rw [Z1 m];exact D.hok.fresh (Qav (G y c m1).2)
   ·exact Yp (hcl y c l1)
  ·show (vs.map some++(List.replicate ls.length none++cv)).length=(ps++(ls++ys)).length
   rw [Qae,Qae,Qae,Qae,Qac,Qax,hl,hcv]
 refine Qc6 (hbody A outer s (hide M H1) (hr.deeper _) [] _ _ _ _ I ht) (fun fl s' hs=>?_) fun _ _ z=>z.elim;have nfr:∀c∈M,c∉frs outer:=fun c m z=>by
  obtain ⟨o,e⟩:=hcs2 c m;rw [D.frf c z] at e;cases e
 have hh:∀d,H1 d=none->hide M H1 d=none:=fun d n=>by
  by_cases m:d∈M
  ·exact Yp m
  ·rw [Z1 m];exact n
 have nm:∀d o,H1 d=some o->(∀ob,o≠Xn ob)->d∉M:=fun d o e ne m=>by
  obtain ⟨ob,z⟩:=hcs2 d m;rw [e] at z;exact ne ob (Option.some.inj z)
 have fin:∀{σ':St} {H':Hp} {v:V} {u:As},Inv (cxN P w K mg base (ps++(ls++ys)) qual scope f (.ref Z) cl A outer s (hide M H1)) [] σ' H' s'->RelV v u->((∀c∈M,H' c=none)->Q v (X9 M H1 H'))->CE outer P w H1 s Q u s':=fun {σ' H' v u} J rv q=>by
  have b:Un (frs outer) [] (hide M H1) H' s.heap s'.heap:=J.base;have Hn:∀c∈M,H' c=none:=fun c m=>by
   obtain ⟨o,v,e,d,g⟩:=O c m;exact b.free c o g (Yp m) (fun z=>nomatch z)
  refine ⟨v,X9 M H1 H',J.os,J.bare,⟨fun d o e n hb hx=>b.keep d o e (hh d n) hb hx,fun d o e n hb hx=>b.slot d o e (hh d n) hb hx,fun d o e n hx=>?_,b.there,fun d xs e=>?_,fun d o u e=>?_,fun d pz e=>?_⟩,jX J.hok Hn fun c m=>?_,rv,q Hn⟩
  ·by_cases m:d∈M
   ·rw [Xo m];exact n
   ·rw [ZH m];exact b.free d o e (hh d n) hx
  ·have m:=nm d _ e (fun ob z=>nomatch z)
   rw [ZH m];exact b.tups d xs (by rw [Z1 m];exact e)
  ·by_cases m:d∈M
   ·rw [Xo m];exact e
   ·rw [ZH m];exact b.frzs d o u (by rw [Z1 m];exact e)
  ·have m:=nm d _ e (fun ob z=>nomatch z)
   rw [ZH m];exact b.tbls d pz (by rw [Z1 m];exact e)
  ·obtain ⟨o,v,e,d,g⟩:=O c m
   exact ⟨o,e,b.keep c o g (Yp m) (nfr c m) (fun z=>nomatch z)⟩
 cases fl with
 | ret u =>
  obtain ⟨v,σ',H',J,rv,q⟩:=hs;exact fin J rv q
 | next =>
  obtain ⟨σ',H',J,q⟩:=hs;exact fin (v:=V.non) (u:=Value.none) J rfl q
 | brk =>
  obtain ⟨_,_,_,q⟩:=hs;exact False.elim q
 | cont =>
  obtain ⟨_,_,_,q⟩:=hs;exact False.elim q
end
def tDef(P:Au)(lpos:Pos)(qual:Str)(C:Au->Value->Value->Obj)(i:Nat):TS:=fun D σ H=>Yn H P lpos qual /\
 ∀(f I:Au) (oc:Obj) (G q:As) (H2:Hp),H f=none->H2 f=some (Xn (C I G q))->H2 I=some (Xn oc)->xQ oc qual->Yn H2 P lpos qual->(∀b o,H b=some o->b≠P->H2 b=some o)->D.nx (σ.set i (some (.ref f))) H2
section
variable {X:Cx}{params:Arguments}{body:List Aw}{scope:Scope}{lpos:Pos}{c P:Au}{name qual:Str}
abbrev xU (X:Cx) (name qual:Str) (params:Arguments) (body:List Aw) (scope:Scope):Au->Value->Value->Obj:=fun D q C=>PySem.W.fnMade name qual params body scope (qh X.env.cells scope.names []) C ((X.mg "__name__").getD .none) D q
theorem qs_def{S0:Scope}(hN:X.N.Nodup)(hi:X.N[i]?=some name)(hx:Loc X.env.scope name)(Y:X.env.code=.ref c)(C:PySem.W.CodeHd X.base c P)(B:zF X.mg X.base)(hd0:params.defaults=[])(hk0:params.kw_defaults=[])(han:annTrees params none X.env=[])(hq:qualnameIn X.env name name=qual)
  (hX:X.env.scope=S0) (hfr0:∀y∈scope.names,y.2=.free->S0.names.lookup y.1=some .cell) (hf:X.fn name=true\/X.env.scope.names.lookup name=some .local:=by first | exact .inl rfl | exact .inr rfl | assumption) :
  QS X (.FunctionDef name params body [] none [] scope none name lpos) (tDef P lpos qual (xU X name qual params body scope) i):=by
 have hfree:∀y∈scope.names,y.2=.free->X.env.scope.names.lookup y.1=some .cell:=fun y hy h=>by rw [hX];exact hfr0 y hy h
 refine ⟨?_⟩;intro pins s σ H D I hw;obtain ⟨Z,hq2⟩:=hw;refine PySem.W.nestDef_K hd0 hk0 han ?_;rw [hq];have hcl:closureFor scope X.env=pure (qh X.env.cells scope.names []):=W9 fun y hy h=>I.ok.has y.1 (.inl (hfree y hy h));have hg:s.heap.Ns mainGlobals X.mg:=I.mod.glob.keeps I.bk;obtain ⟨pz,hPs⟩:=Z.ex;have O:X.base.get? P=none:=by
  cases e:X.base.get? P with
  | none=>rfl
  | some o=>rw [(I.bs P o e).2] at hPs;cases hPs
 have hgP:mainGlobals≠P:=fun e=>by
  obtain ⟨o,es,ep,g,_⟩:=I.mod.glob;rw [e,O] at g;cases g
 have hb:s.heap.BuiltinsAt X.mg P:=by
  obtain ⟨bm,ob,b1,b2,b3,b4,b5,b6⟩:=B.ex;refine ⟨bm,ob,b1,b2,fun e=>?_,(fun e=>by rw [e,O] at b3;cases b3),I.bk _ _ b3,b4,b5,b6⟩;obtain ⟨o,es,ep,g,hd,_⟩:=I.mod.glob;rw [<-e,b3] at g;cases g;rw [b6] at hd;cases hd
 rcases Z with Z | ⟨q,oc,Z,hc',hoc⟩
 ·have hP:s.heap.get? P=some (PySem.W.tabObj #[]):=I.hok P _ Z
  refine PySem.W.makeFunction_K (mg:=X.mg) (ps:=#[]) hcl I.ok.glob hg Y (C.keeps I.bk) hP trivial rfl hgP hb fun q G J h' tk hx' hge hlt hrec htb=>?_;obtain ⟨c₂,oc,vs,t,e2,hoc,hd,hv⟩:=hrec;cases e2;have cn:H q=none:=I.hok.fresh hge;have cP:q≠P:=fun e=>by rw [e,Z] at cn;cases cn
  have hsz:s.heap.objs.size<=h'.objs.size:=Qa8 hge (Qav hlt);have I2:=kL (lpos:=lpos) (fo:=xU X name qual params body scope q G J) (tk:=tk) I Z hx' hge hlt hoc htb;have fn:H h'.objs.size=none:=I.hok.fresh hsz;have fc:q≠h'.objs.size:=Qbe hlt;have fP:P≠h'.objs.size:=Zj Z fn;refine XC I2 hN hi hx (v:=.ref h'.objs.size) rfl (fun s' I3=>⟨_,_,I3,hq2 _ q oc G J _ fn Za ?_ ⟨vs,t,hd,hv⟩ (.inr ⟨q,oc,?_,?_,⟨vs,t,hd,hv⟩⟩) fun b o e hbP=>?_⟩) hf
  ·rw [Zh fc];exact Za
  ·rw [Zh fP,Zh cP.symm];exact Za
  ·rw [Zh fc];exact Za
  ·rw [Zh (Zj e fn),Zh (Zj e cn),Zh hbP];exact e
 ·have hP:s.heap.get? P=some (PySem.W.tabObj #[rawInt lpos.line,rawInt lpos.col,.ref q]):=I.hok P _ Z
  have hfd:codeAmong lpos (#[rawInt lpos.line,rawInt lpos.col,.ref q]:Ah).toList=some (.ref q):=by
   show (if ((lpos.line:Int) == lpos.line && (lpos.col:Int) == lpos.col)=true then some (Value.ref q) else _)=_;rw [Qd2,Qd2]
   rfl
  refine PySem.W.makeFunction_hit (mg:=X.mg) hcl I.ok.glob hg Y (C.keeps I.bk) hP trivial hfd hb fun G J h' tk hk hsz=>?_;have I2:=I.laid (h':=h'.push (xU X name qual params body scope q G J)) (t':=tk) (a:=h'.objs.size) (o:=Xn (xU X name qual params body scope q G J)) (fun b u e=>Qab _ (hk b u e)) hsz (Jc (Qak _ rfl));have fn:H h'.objs.size=none:=I.hok.fresh hsz;have sm:∀b o,H b=some o->upd H h'.objs.size (Xn (xU X name qual params body scope q G J)) b=some o:=fun b o e=>by rw [Zh (Zj e fn)];exact e
  exact XC I2 hN hi hx (v:=.ref h'.objs.size) rfl (fun s' I3=>⟨_,_,I3,hq2 _ q oc G J _ fn Za (sm _ _ hc') hoc (.inr ⟨q,oc,sm _ _ Z,sm _ _ hc',hoc⟩) fun b o e _=>sm b o e⟩) hf
end
def Zat(X:Cx)(s:Aq)(H:Hp):Hp:=fun b=>if b∈cellsOf X.env.cells then (s.heap.get? b).map Xn else H b
section
variable {X:Cx}{pins:Ac}{σ:St}{H:Hp}{s:Aq}
theorem vq(I:Inv X pins σ H s):∀d∈cellsOf X.env.cells,∃o v,Zat X s H d=some (Xn o)/\o.data=.cell v/\s.heap.get? d=some o:=fun d m=>by
 obtain ⟨y,q⟩:=ZQ.mp m;obtain ⟨v,o,ho,hd⟩:=I.cell y d q;exact ⟨o,v,by unfold Zat;rw [Qa1 m,ho];rfl,hd,ho⟩
def J0{d:Au}(m:d∉cellsOf X.env.cells):Zat X s H d=H d:=Qaw m
def Ga(I:Inv X pins σ H s):∀d∈cellsOf X.env.cells,H d=none:=fun d m=>let ⟨y,hy⟩:=ZQ.mp m;I.freeC y d hy
theorem kZ(I:Inv X pins σ H s):∀b o,H b=some o->Zat X s H b=some o:=fun b o e=>by
 rw [J0 fun m=>by rw [Ga I b m] at e;cases e];exact e
def vt{k:Nat}{g:Au}{gd:Am}{sp:Sp}{Q:VK}{vs:A0}(F:YA X.prog X.w X.K X.mg X.base CX0 k g gd N sp)(hr:WV k X.A)(hb:Binds X.K gd N [])(hfn:X.fn=fun _=>true)
  (I:Inv X pins σ H s) (rv:Vals vs J) (hsp:sp vs (Zat X s H) (fun v H3=>Q v (hide (cellsOf X.env.cells) H3)) E0):A2 X (call (.ref g) J) (EP X pins σ Q) X.xe s:=by
 have Z:=vq I;have hn:=Ga I;have D:=kZ I;have nloc:∀d∈cellsOf X.env.cells,d≠X.env.locals:=fun d m e=>by
  obtain ⟨o,v,_,hd,g⟩:=Z d m;obtain ⟨m',⟨o',es,ep,g',hd',_⟩,_⟩:=I.loc;rw [e,g'] at g;cases g;rw [hd'] at hd;cases hd
 have O:∀d∈cellsOf X.env.cells,X.s₀.heap.objs.size<=d:=fun d m=>by
  obtain ⟨y,hy⟩:=ZQ.mp m;exact I.ok.cab y d (by rw [hfn]) hy
 have nfr:∀d∈cellsOf X.env.cells,d∉frs X.stack:=fun d m z=>by
  rcases Qan.mp (I.stkSub d z) with e | e
  ·exact nloc d m e
  ·obtain ⟨_,o,g,_⟩:=I.ok.funs.mem e
   exact absurd (Qap g) (Qe4.mpr (O d m))
 have hok3:HOk X.prog X.w (Zat X s H) s.heap:=fun b o e=>by
  by_cases m:b∈cellsOf X.env.cells
  ·obtain ⟨ob,v,e',hd,g⟩:=Z b m
   rw [e'] at e;cases e;exact Jc g
  ·rw [J0 m] at e
   exact (I.hok b o e).stay (fun _ _ _ q=>q) (fun d q=>D _ _ q) fun d xs q=>D _ _ q
 have e0:Zgx X.prog X.w X.K X.mg X.base X.A X.stack s (Zat X s H):=by
  have z:=I.env0;refine ⟨z.frames,z.mod,fun b o e=>⟨(z.bs b o e).1,?_⟩,z.bsz,z.funs,fun b hb=>?_,hok3,z.bare⟩
  ·rw [J0 fun m=>absurd (Qap e) (Qe4.mpr (Qa8 I.ok.bsz (O b m)))]
   exact (z.bs b o e).2
  ·rw [J0 fun m=>nfr b m hb]
   exact z.frf b hb
 have hlu:(J++[]).length=N.length:=by rw [Qbq,<-rv.length];exact F.len _ _ _ _ hsp
 refine Qhq (Qec (F.run X.A X.stack s (Zat X s H) ⟨J,[]⟩ J vs _ _ hr e0 (by simpa using hb s J I.kIn hlu) rv hsp) fun r s' hq=>?_);cases r with
 | error e=>exact hq.elim
 | ok fl =>
  cases fl with
  | next=>exact False.elim hq
  | brk=>exact False.elim hq
  | cont=>exact False.elim hq
  | ret uu =>
   obtain ⟨v,H4,os,bare,un,Y,rv4,q4⟩:=hq;have G:∀d∈cellsOf X.env.cells,∃o,H4 d=some (Xn o)/\s.heap.get? d=some o/\s'.heap.get? d=some o:=fun d m=>by
    obtain ⟨o,v,e,hd,g⟩:=Z d m;have e4:=un.frzs d o _ e;exact ⟨o,e4,g,(Y d _ e4).1⟩
   have C:∀d,H d=none->d∉cellsOf X.env.cells->Zat X s H d=none:=fun d n m=>by rw [J0 m];exact n
   have nm:∀d o,H d=some o->d∉cellsOf X.env.cells:=fun d o e m=>by rw [hn d m] at e;cases e
   refine ⟨v,hide (cellsOf X.env.cells) H4,I.call' os ⟨fun d o e n hb hx=>?_,fun d o e n hb hx=>?_,fun d o e n hx=>?_,fun d o e hx=>un.there d o e hx,fun d xs e=>?_,fun d o u e=>?_,fun d pz e=>?_⟩ (zE Y fun d m=>let ⟨o,e,_⟩:=G d m;⟨o,e⟩) bare (fun _ z=>nomatch z),rv4,q4⟩
   ·by_cases m:d∈cellsOf X.env.cells
    ·obtain ⟨o',_,g,g'⟩:=G d m
     rw [e] at g;cases g;exact g'
    ·exact un.keep d o e (C d n m) hb hx
   ·by_cases m:d∈cellsOf X.env.cells
    ·obtain ⟨o',_,g,g'⟩:=G d m
     rw [e] at g;cases g;exact ⟨o.slots,g'⟩
    ·exact un.slot d o e (C d n m) hb hx
   ·by_cases m:d∈cellsOf X.env.cells
    ·exact Yp m
    ·rw [Z1 m];exact un.free d o e (C d n m) hx
   ·rw [Z1 (nm d _ e)];exact un.tups d xs (D _ _ e)
   ·rw [Z1 (nm d _ e)];exact un.frzs d o u (D _ _ e)
   ·rw [Z1 (nm d _ e)];exact un.tbls d pz (D _ _ e)
def Zau{scope:Scope}{ys:Ai}{is:Aj}{N0:Ai}(I:Inv X pins σ H s)(C:∀y∈scope.names,y.2=.free->X.env.scope.names.lookup y.1=some .cell)(G:∀y∈ys,scope.names.lookup y=some .free)(hN:∀q∈ys.zip is,X.N[q.2]?=some q.1)(Y:ys.length=is.length) :
  ∀(i:Nat) (y:Str) (v:V),ys[i]?=some y->(is.map fun i=>(σ[i]?).getD none)[i]?=some (some v)->∃c o u,(qh X.env.cells scope.names []).lookup y=some c/\Zat X s H c=some (Xn o)/\o.data=.cell (some u)/\RelV v u:=by
 intro i y v h1 h2;have hcl:∀y d,(qh X.env.cells scope.names []).lookup y=some d->X.env.cells.lookup y=some d :=
  Jo (fun y Z h=>I.ok.has y.1 (.inl (C y Z h))) fun _ _ z=>by cases z
 rw [Qaj] at h2;cases hj:is[i]? with
 | none=>rw [hj] at h2;cases h2
 | some j =>
  have D:σ[j]?=some (some v):=by
   grind
  have hz:(y,j)∈ys.zip is:=by
   obtain ⟨a1,e1⟩:=Qah.mp h1;obtain ⟨a2,e2⟩:=Qah.mp hj;rw [<-e1,<-e2,<-Qfs (h:=by rw [Qcd];lia)];exact Qc9 _
  have hf:=G y (Qai h1);have O:X.env.kindOf y=some .cell:=C _ (zr hf) rfl;obtain ⟨m,hm',hl⟩:=I.loc;obtain ⟨u,r,l⟩:=hl j y v (hN _ hz) D (.inr (.inl O));rcases l with ⟨l1,_⟩ | ⟨_,d,l2,l3⟩
  ·rw [O] at l1;cases l1
  ·obtain ⟨d',J⟩:=XJ (cells:=X.env.cells) (acc:=[]) hf
   have e:d'=d:=by grind
   subst e;obtain ⟨o,ho,hd⟩:=l3;obtain ⟨o',v',e',_,g'⟩:=vq I d' (ZQ.mpr ⟨y,l2⟩);rw [ho] at g';cases g';exact ⟨d',o,u,J,e',hd,r⟩
end
def tCallN(J:An)(w:Ar)(K:Af)(mg:Ae)(base:Heap)(k:Nat)(sp:Sp)(qual:Str)(D:Au->Value->Value->Obj)(ta:TA)(i n m:Nat)(is:Aj)(ts:TS):TE:=fun σ H Q=>ta σ H fun vs H1 =>
 ∃(f G:Au) (oc:Obj) (C q:As),σ[i]?=some (some (.ref f))/\H1 f=some (Xn (D G C q))/\H1 G=some (Xn oc)/\xQ oc qual /\
 ∀(cs:List Au) (H2:Hp),(∀c∈cs,H1 c=none)->(∀c∈cs,∃o,H2 c=some (Xn o))->(∀b o,H1 b=some o->H2 b=some o) ->
  YE J w K mg base k f H2 (Zft n m ts cs (is.map fun i=>(σ[i]?).getD none))->sp vs H2 (fun v I=>Q v (hide cs I)) E0
structure Zjz(S0 scope:Scope)(N0 ps ls ys:Ai)(is:Aj):Prop where
 sc:Zhw scope ps ls ys
 free:∀y∈scope.names,y.2=.free->S0.names.lookup y.1=some .cell
 vis:∀q∈ys.zip is,N0[q.2]?=some q.1
 len:ys.length=is.length
section
variable {X:Cx}{params:Arguments}{body:List Aw}{scope:Scope}{p pos:Pos}{g:Au}{name qual x:Str}{k kl:Nat}{gd:Am}{pg ps ls ys:Ai}{is:Aj}{sp:Sp}{ts:TS}{e:Av}{es:Al}{ta:TA}
def Zd8(F:YA X.prog X.w X.K X.mg X.base CX0 k g gd pg sp)(hr:WV k X.A)(hg:Gl X x)(hm:X.mg x=some (.ref g))(hk:PySem.W.keepIn X.K (.ref g)=true)(hb:Binds X.K gd pg [])(hfn:X.fn=fun _=>true)
  (ha:QA X (e::es) ta) {S0:Scope} {N0:Ai} (hX:X.env.scope=S0) (hXN:X.N=N0) (LL:Zjz S0 scope N0 ps ls ys is)
  (J:∀(cl:List (Str × Au)) (doc pm cv ctv:As) (Z:Ag),Z.length=ps.length->bindArgs (PySem.W.fnX name qual params body scope cl .none .none doc pm none cv ctv) ⟨Z,[]⟩=pure (ps.zip Z))
  (Y:∀(f c':Au) (cl:List (Str × Au)) (A:Ao) (outer:List Env) (s:Aq) (H1:Hp),WV kl (A.deeper (PySem.W.envX qual scope s.heap.objs.size f (.ref c') (cellsFrom (s.heap.objs.size + 1) scope.names cl)))->QSs (cxN X.prog X.w X.K X.mg X.base (ps++(ls++ys)) qual scope f (.ref c') cl A outer s H1) body ts)
  (hdb:(x == ("__debug__" : Str))=false:=by decide) (hp:(e::es).all ZW=true:=by rfl) :
  QE X (.Call (.Name x p) (e::es) [] pos) (tCallN X.prog X.w X.K X.mg X.base (kl + 1) sp qual (xU X name qual params body scope) ta i ps.length ls.length is ts):=by
 rw [Qdp,Qb8] at hp;have S:=LL.sc;have C:∀y∈scope.names,y.2=.free->X.env.scope.names.lookup y.1=some .cell:=fun y hy h=>by rw [hX];exact LL.free y hy h
 have hN:∀q∈ys.zip is,X.N[q.2]?=some q.1:=fun q hq=>by rw [hXN];exact LL.vis q hq
 refine ⟨?_⟩;intro pins s σ H Q I hw;refine Qcv (zj I hg hm ?_ hdb);refine Qgm (h₀:=X.base) I.ok.mod.kin hk (thn (ha.out pos pins s σ H _ I hw) fun Z s1 ⟨vs,H1,G,r,f,c',oc,ctv,doc,hσ,hf,hc',hoc,q⟩=>⟨G.kIn,?_⟩) (Zr hp.1) (Xj hp.2);have O:∀y d,(qh X.env.cells scope.names []).lookup y=some d->X.env.cells.lookup y=some d :=
  Jo (fun y hy h=>G.ok.has y.1 (.inl (C y hy h))) fun _ _ z=>by cases z
 have D:=kZ G;have hcs:=vq G;refine vt F hr hb hfn G r (q (cellsOf X.env.cells) (Zat X s1 H1) (Ga G) (fun d m=>let ⟨o,_,e,_⟩:=hcs d m;⟨o,e⟩) D ?_);exact zH (ls:=ls) (ys:=ys) S (D _ _ hf) (D _ _ hc') hoc (fun y d h=>ZQ.mpr ⟨y,O y d h⟩) (fun d m=>let ⟨o,v,e,hd,_⟩:=hcs d m;⟨o,v,e,hd⟩) (fun y z d h1 h2=>G.ok.inj y z d (O y d h1) (O z d h2)) (fun y h=>XJ h) (by rw [Qac,LL.len])
  (Zau (N0:=N0) G C S.free hN LL.len) (fun Z hl=>J _ _ _ _ _ Z hl) fun A outer s H1 hr=>(Y f c' _ A outer s H1 hr).out
end
def QE.or{t u:TE}(h:QE X e t)(g:QE X e u):QE X e (fun σ H Q=>t σ H Q\/u σ H Q):=⟨fun pins s σ H Q I z=>z.elim (h.out pins s σ H Q I) (g.out pins s σ H Q I)⟩
def QS.or{e:Aw}{t u:TS}(h:QS X e t)(g:QS X e u):QS X e (fun D σ H=>t D σ H\/u D σ H):=⟨fun pins s σ H D I z=>z.elim (h.out pins s σ H D I) (g.out pins s σ H D I)⟩
def Zhx(tk tv:TE):TE:=fun σ H Q=>∀d,H d=none->tk σ (upd H d (.dK [])) fun x H1=>tv σ H1 fun v H2=>∃(Kk:Type) (_:DecidableEq Kk) (kn:KN Kk) (a:Au) (k:Kk),x=.ref a/\H2 d=some (.dK [])/\kn.at_ H2 k a /\
 ∀H',yK kn H' d [(k,v)]->(∀b o,H2 b=some o->b≠d->H' b=some o)->(∃o,H'=upd H2 d o)->Q (.ref d) H'
def Zav{k v:Av}{tk:TE}(hu:X.A.units + 2 < cLine)(hk:QE X k tk)(hv:QE X v d):QE X (.Dict [some k] [v] p) (Zhx tk d):=by
 refine ⟨fun pins s σ H Q I q=>?_⟩;have hn:=I.hok.fresh (Qag s.heap.objs.size);have Z:=I.laid (a:=s.heap.objs.size) (o:=.dK []) (h':=s.heap.push { cls:=.type "dict",data:=.dict #[] }) (t':=s.toks) (fun _ _ q=>Qab _ q) (Qag _) (zw s.heap I.big);refine wpAny_Dict_any rfl rfl (fun z=>nomatch z) (by show 1<=15;decide) (thn (pp1 hk hv pins _ σ _ _ Z (q _ hn)) fun ws s2 ⟨x,y,u,r,H2,G,C,rx,ry,Kk,_,kn,a,kk,ex,e,D,q2⟩=>?_);subst G ex;cases (show u=Value.ref a from rx);have n:yK kn H2 s.heap.objs.size []:=⟨Qdg,(show 0 < sizeLine by decide),.inl ⟨rfl,e⟩⟩;obtain ⟨xs,dd,J,O,hm⟩:=n.dict C;cases J;unfold storeAll;rw [Qem];refine Qaa (Qaa (wpAny_dictSet_heap (hsz:=Qba _) (kn.room0 _ _ _ hu) (kn.ok _ _ _ _ _ _ C.hok D) dd fun h' dd' hs=>Qad ?_));show wpAny _ _ (forIn ([]:List (As × As)) PUnit.unit _) _ _ _;obtain ⟨H',Y,k',o',I'⟩:=kT C n D ry (show 0 + 1 < sizeLine by decide) .nil O hm rfl dd' hs;exact Qad ⟨.ref s.heap.objs.size,H',I',rfl,q2 H' Y k' o'⟩
def PI.or{tg l:Av}{t u:TI}(h:PI X tg l t)(g:PI X tg l u):PI X tg l (fun σ H R=>t σ H R\/u σ H R):=fun pins s σ H R I z=>z.elim (h pins s σ H R I) (g pins s σ H R I)
def QI.or{tg l:Av}{t u:TI}(h:QI X tg l t)(g:QI X tg l u):QI X tg l (fun σ H R=>t σ H R\/u σ H R):=⟨PI.or h.out g.out⟩
section
variable {prog:An}{w:Ar}{A:Ao}{R:Result->Shared->Prop}{I:Au}{fp wr:List Au}{n:Nat}{P:Nat->Value->Prop}{St:Nat->Heap->Prop}{d:As}
theorem Zhy(W:Walks prog w A.in1 I fp wr n P St)(bt:Nat->Nat->Bool)(hcmp:CmpOf prog w A.in1 .Gt P bt)(S:Au)(hSf:S∉fp) :
  ∀(k j:Nat) (s:Aq) (Z:As) (c:Nat),n - (j + 1)=k->j + 1<=n->St (j + 1) s.heap->P (argBest bt j) Z ->
  s.heap.get? S=some { cls:=.type "list",dict:=none,data:=.seq #[Z,Z] c,slots:=#[] } ->
  (∀v h' tk,P (argBest bt (n - 1)) v->(∀b o,b∉wr->b≠S->s.heap.get? b=some o->h'.get? b=some o)->R (.ok (.ret v)) { s with heap:=h',toks:=tk }) ->
  codeAny (model prog w) A (.builtin "max.loop" ⟨[.ref I,.none,.ref S],[("default",d)]⟩) R s:=by
 have hSw:S∉wr:=fun h=>hSf (W.sub _ h);have J:(toString "max" ++ toString ".loop" : String) = "max.loop" := by decide
 intro k
 induction k with
 | zero =>
  intro j s Z c hk hj hst hPb hS hR;have hin:j + 1=n:=by lia
  refine Qcf Qfj ?_;rw [Qc7 Qdc _];show wpAny _ A.in1 (seqItems? (.ref S) >>= _) _ _ s;refine Qaa (Qbw hS rfl ?_);show wpAny _ A.in1 (tryCatch (pyNext (.ref I)) _ >>= _) _ _ s;refine Qaa (Qfm (W.done s _ _ (hin ▸ hst) fun h' tk C=>?_));have G:=C S _ hSw hS;show wpAny _ A.in1 (updateSeq S (fun _=>#[]) >>= _) _ _ _;refine Qaa ?_;refine Qdk G rfl (Qaa (Qen (Qad ?_)));refine hR Z _ tk (by rw [<-hin];exact hPb) fun b o q D e=>(Qbr _ _ (Qd5 D)).trans (C b o q e)
 | succ k ih =>
  intro j s Z c hk hj hst hPb hS hR;have hlt:j + 1 < n:=by lia
  refine Qcf Qfj ?_;rw [Qc7 Qdc _];show wpAny _ A.in1 (seqItems? (.ref S) >>= _) _ _ s;refine Qaa (Qbw hS rfl ?_);show wpAny _ A.in1 (tryCatch (pyNext (.ref I)) _ >>= _) _ _ s;refine Qaa (Qfm (W.item (j + 1) s _ _ hlt hst fun v h' tk hP hst' C=>?_));have G:=C S _ hSw hS;show wpAny _ A.in1 (tryCatch (holding [v,v] (richCompare .Gt v Z >>= _)) _ >>= _) _ _ _;refine Qaa (Qfm (Qcp (Qaa (hcmp (j + 1) (argBest bt j) v Z _ _ _ hP hPb ?_))));refine Qaa (Qcp (Qdd ?_));refine Qaa (Qen (Qad ?_));cases hb:bt (j + 1) (argBest bt j) with
  | true =>
   simp only [Qhg];refine Qaa ?_;refine Qdk G rfl (Qaa (Qen ?_));rw [J];refine Qad ⟨Qdf Qdc _,ih (j + 1) _ v _ (by lia) hlt (W.frame _ _ _ hst' fun b hbf o e=>?_) (by simp only [argBest,hb,Qhg];exact hP) (Qbh _ G rfl)
    fun v' h'' O hP' Y=>?_⟩
   ·exact (Qbr _ _ (fun h:S=b=>hSf (by rw [h];exact hbf))).trans e
   ·exact hR v' h'' O hP' fun b o q D e=>Y b o q D ((Qbr _ _ (Qd5 D)).trans (C b o q e))
  | false =>
   simp only [Qbo,Qf4];refine Qaa (Qen ?_);rw [J];refine Qad ⟨Qdf Qdc _,ih (j + 1) _ Z c (by lia) hlt hst' (by simp only [argBest,hb,Qbo,Qf4];exact hPb) G fun v' h'' O hP' Y=>?_⟩;exact hR v' h'' O hP' fun b o q D e=>Y b o q D (C b o q e)
def Zd9(W:Walks prog w A.in1 I fp wr n P St)(bt:Nat->Nat->Bool)(Z:CmpOf prog w A.in1 .Gt P bt)(S:Au)(D:S∉fp){c:Nat}(hst:St 0 s.heap)
  (hS:s.heap.get? S=some { cls:=.type "list",dict:=none,data:=.seq #[] c,slots:=#[] })
  (h0:n=0->∀h' tk,(∀b o,b∉wr->b≠S->s.heap.get? b=some o->h'.get? b=some o)->R (.ok (.ret d)) { s with heap:=h',toks:=tk })
  (hR:0 < n->∀v h' tk,P (argBest bt (n - 1)) v->(∀b o,b∉wr->b≠S->s.heap.get? b=some o->h'.get? b=some o)->R (.ok (.ret v)) { s with heap:=h',toks:=tk }) :
  codeAny (model prog w) A (.builtin "max.loop" ⟨[.ref I,.none,.ref S],[("default",d)]⟩) R s:=by
 have hSw:S∉wr:=fun h=>D (W.sub _ h);have hname:(toString "max" ++ toString ".loop" : String) = "max.loop" := by decide
 refine Qcf Qfj ?_;refine Qaa (Qbw hS rfl ?_)
 by_cases hn:0 < n
 ·refine Qaa (Qfm (W.item 0 s _ _ hn hst fun v h' tk hP hst' C=>?_))
  have J:=C S _ hSw hS;show wpAny _ A.in1 (updateSeq S (fun _=>#[v,v]) >>= _) _ _ _;refine Qaa ?_;refine Qdk J rfl ?_;refine Qad ⟨Qdf Qdc _,Zhy W bt Z S D _ 0 _ v _ rfl hn (W.frame _ _ _ hst' fun b hbf o e=>?_) hP (Qbh _ J rfl) fun v' h'' Y hP' hk''=>?_⟩
  ·exact (Qbr _ _ (fun h:S=b=>D (by rw [h];exact hbf))).trans e
  ·exact hR hn v' h'' Y hP' fun b o q G e=>hk'' b o q G ((Qbr _ _ (Qd5 G)).trans (C b o q e))
 ·have O:n=0:=by lia
  refine Qaa (Qfm (W.done s _ _ (by rw [O];exact hst) fun h' tk C=>?_));refine Qaa (Qc1 (Qad ?_));exact h0 O h' tk fun b o q _ e=>C b o q e
end
def Zea (a v:As):argsOk "max" ⟨[a],[(Str.ofString "default",v)]⟩:=by kernel_rfl
section
variable {prog:An}{w:Ar}{A:Ao}{E:Ab}{s:Aq}{l:Au}{xs:Array (Int × Tok)}{d:As}
def Zaw(hh:A.handled=none)(hl:s.heap.IsList l (intItems xs))(G:xs.size=0->∀h' tk,(∀b o,s.heap.get? b=some o->h'.get? b=some o)->Q d { s with heap:=h',toks:=tk })
  (h:0 < xs.size->∀v h' tk,(intItems xs)[argBest (fun i j=>decide (numAt xs i > numAt xs j)) (xs.size - 1)]?=some v->(∀b o,s.heap.get? b=some o->h'.get? b=some o)->Q v { s with heap:=h',toks:=tk }) :
  A1 prog w A (call (.builtin "max") [.ref l] [(Str.ofString "default",d)]) Q E s:=by
 have C:(toString "max" ++ toString ".loop" : String) = "max.loop" := by decide
 refine PyProof.Rows.kmk_tree PySem.F.kind_max PySem.F.plain_max PySem.F.entry_max (Zea _ _) ?_;refine Qaa (Qcj (show Builtin.Builtins.bindParams "max" ["key","default"] 0 ⟨[],[(Str.ofString "default",d)]⟩=pure [none,some d] from rfl) ?_);refine Qaa (Qad ?_);refine Qaa (iter_intList hl fun s₂ e st D q=>?_);subst e;refine Qaa (Qa9 ?_);have W:=Walks.list (prog:=prog) (w:=w) (A:=A.in1) hh _ l q (intItems xs);have hsz:(intItems xs).size=xs.size:=by simp [intItems]
 refine Qad ⟨Qdf Qdc _,Zd9 W _ (CmpOf.ints_gt (numAt xs) (fun _ _=>intItems_at)) _ (fun hm=>Qbz _ (D _ hm)) (W.frame _ _ _ st fun b _ o e=>Qab _ e) (Qak _ rfl) (fun hn h' tk hk=>?_) fun hn v h' tk I hk=>?_⟩
 ·exact G (by rw [<-hsz];exact hn) h' tk (old_kept fun b o hb e=>hk b o hb (Qbe (Qap e)) (Qab _ e))
 ·exact h (by rw [<-hsz];exact hn) v h' tk (by simpa [intItems] using I) (old_kept fun b o hb e=>hk b o hb (Qbe (Qap e)) (Qab _ e))
end
def tMaxD(K:Af)(ta td:TE):TE:=fun σ H Q=>ta σ H fun x H1=>td σ H1 fun y H2=>∃(p:Au) (q:Ak),x=.ref p/\SqL K H2 p (q.map V.int)/\(q=[]->Q y H2)/\∀m∈q,(∀n∈q,n<=m)->Q (.int m) H2
def Zhz {a:Av}  {kp:Pos} (hc:X.calm=true) (hg:Gl X "max") (hm:X.mg "max" = none) (ha:QE X a d) (hd:QE X e O) (hp:ZW a=true:=by rfl) :
  QE X (.Call (.Name "max" p) [a] [⟨some "default",e,kp⟩] A) (tMaxD X.K d O):=by
 refine ⟨fun pins s σ H Q I hw=>?_⟩;refine Qcv (WN I hg hm bt_max ?_ (by decide));have hs:=Zr (rest:=[]) (env:=X.env) hp;refine callWith_kw ?_ (by rw [hs];rfl) (by rw [hs];rfl);rw [hs];refine Qcg (thn (ha.out pins s σ H _ I hw) fun u s1 ⟨x,H1,I1,r1,q1⟩=>?_);refine Qds (kws_cons (thn (hd.out pins s1 σ H1 _ I1 q1) fun u2 s2 ⟨y,H2,D,r2,p,J,ex,hq,hz,q⟩=>kws_nil ?_));subst ex;cases r1;obtain ⟨C,r',pl,hz'⟩:=D.list hq;have hi:IntsAre C J:=intsAre_of r';obtain ⟨xs,hx⟩:=hi.allInts.items;have hl':s2.heap.IsList p (intItems xs):=hx ▸ pl.isList;have e1:J=xs.toList.map (·.1):=by
  rw [<-nums_intItems,<-hx];exact (show numsOf C.toArray.toList=J from hi.numsOf).symm
 refine Zaw (D.ok.hd hc) hl' (fun h0 h' tk hk=>⟨y,H2,D.kept hk,r2,hz ?_⟩) fun hsz v h' tk hv hk=>?_
 ·grind
 have hb:=argBest_gt (numAt xs) (xs.size - 1);generalize argBest (fun i j=>decide (numAt xs i > numAt xs j)) (xs.size - 1)=b at hv hb;have Y:b < xs.size:=by lia
 have at_:∀j (G:j < xs.size),numAt xs j=xs[j].1/\(intItems xs)[j]?=some (.int xs[j].1 xs[j].2):=by
  intro j G;exact ⟨by simp [numAt,G],by simp [intItems,G]⟩
 obtain ⟨n1,n2⟩:=at_ b Y;rw [n2] at hv;cases hv;refine ⟨.int xs[b].1,H2,D.kept hk,⟨_,rfl⟩,q _ ?_ fun n hn=>?_⟩
 ·grind
 ·rw [e1] at hn
  obtain ⟨y,hy,rfl⟩:=Qa2.mp hn;obtain ⟨j,G⟩:=Qct hy;have Z:j < xs.size:=by
   grind
  have:=hb.2 j (by lia);rw [(at_ j Z).1,n1] at this;have ej:xs[j]=y:=by
   grind
  rw [ej] at this;exact this
def Zj0:V->List V->Hp->VK->Prop:=fun x xs H Q=>∃i:Int,x=.int i/\xs=[]/\Q (.int ((Builtin.Int.intBits i:Nat):Int)) H
def Zh0:MtR X "int.bit_length" Zj0:=by
 intro pins s σ H x xs v D Q I C r h;obtain ⟨i,rfl,rfl,q⟩:=h;obtain ⟨t,rfl⟩:=C;cases r;exact call_int_bit_length ⟨.int _,H,I.tok _,⟨_,rfl⟩,q⟩
section
variable {X:Cx}{pos:Pos}
def qs_par{j:Nat}{y:Str}{a b:Av}{ta:TA}{pt:Pos}{D k2 q:_}(hc:X.calm=true)(hN:X.N.Nodup)(hi:X.N[i]?=some x)(I:X.N[j]?=some y)(C:i≠j)
  (hx:X.env.scope.names.lookup x=some .local) (G:X.env.scope.names.lookup y=some .local) (ha:QA X [a,b] ta)
  (hw:swappedStores [.Tuple [.Name x p,.Name y A] D pt] (.Tuple [a,b] k2 q) X.env=pure (some [x,y]))
  (hs:swapsWithSole [.Tuple [.Name x p,.Name y A] D pt] (.Tuple [a,b] k2 q) pos.line X.env=pure false:=by rfl) :
  QS X (.Assign [.Tuple [.Name x p,.Name y A] D pt] (.Tuple [a,b] k2 q) pos) (tPar i j ta):=⟨ps_par hc hN hi I C hx G ha.out hw hs⟩
end
section
variable {prog:An}{w:Ar}{A:Ao}{E:Ab}{s:Aq}
def zI{Q:Ag->Shared->Prop}{r:Au}{a b c:Int}{t u v:Tok}(hh:A.handled=none)(hr:IsRange s.heap r a b c t u v)(q:Builtin.Range.small a b c=true)
  (hn:Builtin.Range.rangeSize a b c=n) (G:n<=2 ^ 24)
  (hQ:∀h' tk acc,(∀b o',s.heap.get? b=some o'->h'.get? b=some o')->ItemsOf (fun i v=>∃t,v=.int (a + i * c) t) acc n->Q acc.toList { s with heap:=h',toks:=tk }) :
  A1 prog w A (collect (.ref r)) Q E s:=by
 refine Qaa (wpAny_runValue (Qcf F.entry_proto_collect ?_));refine Qaa (Qa9 ?_);refine Qad ⟨Qdf Qg2 _,Qcf F.entry_list_iadd ?_⟩;have O:(s.heap.push { cls:=.type "list",data:=.seq ([]:Ag).toArray }).get? s.heap.objs.size=some { cls:=.type "list",data:=.seq #[] 0 }:=Qak _ rfl;have fin:∀(h':Heap) (tk:Nat) (acc:Ah) (C:Nat),(∀b o,s.heap.get? b=some o->h'.get? b=some o)->h'.get? s.heap.objs.size=some { cls:=.type "list",dict:=none,data:=.seq acc C,slots:=#[] }->ItemsOf (fun i v=>∃t,v=.int (a + i * c) t) acc n ->
   A1 prog w A (match Value.ref s.heap.objs.size with
   | Value.ref a=>do
    match (<-load a).data with
     | Data.seq xs _=>pure xs.toList
     | _=>unsupported "internal:collect"
   | _=>unsupported "internal:collect") Q E { s with heap:=h',toks:=tk }:=by
  intro h' tk acc C hk D it;refine Qaa (wpAny_load D ?_);exact Qad (hQ h' tk acc hk it)
 refine Qc6 (wpAny_extend_range (A:=A) (R:=fun r s'=>r=.ok (.ret (.ref s.heap.objs.size))/\∃h' tk acc C,s'={ s with heap:=h',toks:=tk }/\(∀b o,s.heap.get? b=some o->h'.get? b=some o)/\h'.get? s.heap.objs.size=some { cls:=.type "list",dict:=none,data:=.seq acc C,slots:=#[] }/\ItemsOf (fun i v=>∃t,v=.int (a + i * c) t) acc n)
  (s:={ s with heap:=s.heap.push { cls:=.type "list",data:=.seq ([]:Ag).toArray } }) hh (Qab _ hr) q hn G _ _ 0 O fun h' tk acc C hk D it=>⟨rfl,h',tk,acc,C,rfl,fun b o e=>hk b o (Qbe (Qap e)) (Qab _ e),D,it⟩) (fun fi s' h=>?_) (fun e s' h=>?_)
 ·cases fi with
  | done f =>
   obtain ⟨e,h',tk,acc,C,rfl,Z,I,J⟩:=h;cases e;exact fin h' tk acc C Z I J
  | again C=>exact ⟨h.1,Qec h.2 fun r Y hr=>by grind⟩
 ·exact absurd h.1 (by simp)
end
open AutoSeq1 (wpAny_loadPart')
def Gb(r:Au)(a b c:Int)(t u v:Tok)(n:Nat)(q:Builtin.Range.small a b c=true)(hn:Builtin.Range.rangeSize a b c=n)(C:n<=2 ^ 24) :
  Meets (Builtin.«tuple.__new__» ⟨[.type "tuple",.ref r],[]⟩)
   (fun A R s=>A.handled=none/\IsRange s.heap r a b c t u v/\∀(h':Heap) tk acc,(∀b o',s.heap.get? b=some o'->h'.get? b=some o')->ItemsOf (fun i v=>∃t,v=.int (a + i * c) t) acc n->R (.ok (.ret (.ref h'.objs.size))) { s with heap:=h'.push { cls:=.type "tuple",data:=.seq acc },toks:=tk }) :=
 .of_wp fun prog w A R s h=>by
  obtain ⟨hp,g,d,tk,os⟩:=s;obtain ⟨hh,I,h⟩:=h;have O:=sub_tuple_self;have G:=init_tuple_lookup;have Y:=madeHere_tuple;have J:A.in1.handled=none:=hh;have Z:Shared.TypeIs ⟨hp,g,d,tk,os⟩ (.ref r) "range" := ⟨_,I,rfl⟩;have D:hp.get? r=some { cls:=.type "range",data:=.fields #[.int a t,.int b u,.int c v] }:=I
  wp_walk using wpAny_loadPart' D,Qel Z,zI J I q hn C
  intro h' tk acc hk it;show wpAny _ _ (Builtin.Tuple.tupleExact acc.toList.toArray >>= fun v=>ret v) _ _ _;unfold Builtin.Tuple.tupleExact;refine Qaa (Qa9 ?_ (by show acc.toList.toArray.size<=sizeLine;simp only [Array.toArray_toList];rw [it.1,Qg7];lia));refine Qad ⟨_,rfl,?_⟩;have e:acc.toList.toArray=acc:=by simp
  rw [e];exact h h' tk acc hk it
section
variable {prog:An}{w:Ar}{A:Ao}{E:Ab}{s:Aq}
theorem GC{r:Au}{a b c:Int}{t u v:Tok}(hh:A.handled=none)(hr:IsRange s.heap r a b c t u v)(q:Builtin.Range.small a b c=true)
  (hn:Builtin.Range.rangeSize a b c=n) (C:n<=2 ^ 24)
  (h:∀(h':Heap) tk acc,(∀b o',s.heap.get? b=some o'->h'.get? b=some o')->ItemsOf (fun i v=>∃t,v=.int (a + i * c) t) acc n->Q (.ref h'.objs.size) { s with heap:=h'.push { cls:=.type "tuple",data:=.seq acc },toks:=tk }) :
  A1 prog w A (call (.type "tuple") [.ref r]) Q E s :=
 Qhj F.called_tuple (by decide) (F.typeCall_tuple_1 _) (F.newCall_tuple_1 _) (fun D=>Qfx D _) F.entry_tuple_new
  (Gb r a b c t u v n q hn C) ⟨hh,hr,fun h' tk acc hk it=>⟨⟨_,Qak _ rfl,rfl⟩,h h' tk acc hk it⟩⟩
end
def vv(hn:n<=1000000):Builtin.Range.rangeSize 0 (n:Int) 1=(n:Int)/\Builtin.Range.small 0 (n:Int) 1=true:=by
 have hsz:Builtin.Range.rangeSize 0 (n:Int) 1=(n:Int):=by
  rw [rangeSize_one]
  split <;> lia
 exact ⟨hsz,small_one (by decide) (by decide) (by lia) (by lia)⟩
theorem Zax:∀(m:Nat) (q:Ag) (k:Nat),q.length=m->(∀j v,q[j]?=some v->∃t,v=Value.int ((k + j:Nat):Int) t)->Vals ((List.range' k m).map fun i:Nat=>V.int (i:Int)) q:=by
 intro m
 induction m with
 | zero =>
  intro q k hl _;rw [Qby hl];exact .nil
 | succ m D =>
  intro q k hl hh;cases q with
  | nil=>cases hl
  | cons u q =>
   refine .cons ?_ (D q (k + 1) (by simpa using hl) fun j v C=>?_)
   ·obtain ⟨t,e⟩:=hh 0 u rfl
    exact ⟨t,e⟩
   ·obtain ⟨t,e⟩:=hh (j + 1) v (by simpa using C)
    exact ⟨t,by grind⟩
def bt_any:bootBuiltins "any" = some (.builtin "any"):=by decide +kernel
def rTupRg:A0->Hp->VK->Prop:=fun xs H Q=>∃(p:Au) (n:Nat),xs=[.ref p]/\H p=some (.rng 0 (n:Int))/\n<=1000000/\∀l,H l=none->Q (.ref l) (upd H l (.tup ((List.range n).map fun i:Nat=>V.int (i:Int))))
def yb (hc:X.calm=true):Xb X (.type "tuple") rTupRg:=by
 intro pins s σ H xs Y Q I r h;obtain ⟨p,n,rfl,e,hn,q⟩:=h;obtain ⟨u,rfl,J⟩:=vals1 r;cases J;obtain ⟨t,u,v,hp⟩:=(show Yl X.prog X.w H s.heap p (.rng 0 (n:Int)) from I.hok p _ e);obtain ⟨hsz,D⟩:=vv hn;refine GC (I.ok.hd hc) hp D hsz (by lia) fun h' tk acc hk it=>?_;have G:Inv X pins σ H { s with heap:=h',toks:=tk }:=I.kept hk;have C:acc.toList.length=n:=by exact it.1
 refine ⟨.ref h'.objs.size,_,G.laid (t':=tk) (fun b o e=>Qab _ e) (Qag _) (show Yl X.prog X.w _ _ _ (.tup _) from ⟨by rw [Qac,Qay,Qg7];lia,acc.toList,?_,by simpa using jz.new h' acc⟩),rfl,q _ (G.hok.fresh (Qag _))⟩;rw [List.range_eq_range'];refine Zax n acc.toList 0 C fun j v O=>?_;obtain ⟨t,e⟩:=it.2 j v (by rw [<-Qep];exact O);exact ⟨t,by grind⟩
def rAnyL(K:Af):A0->Hp->VK->Prop:=fun xs H Q=>∃(p:Au) (bs:List Bool),xs=[.ref p]/\SqL K H p (bs.map V.bl)/\Q (.bl (bs.any id)) H
def Zay (hc:X.calm=true):Xb X (.builtin "any") (rAnyL X.K):=by
 intro pins s σ H xs us Q I r h;obtain ⟨p,bs,rfl,hq,q⟩:=h;obtain ⟨u,rfl,rx⟩:=vals1 r;cases rx;obtain ⟨C,Y,pl,hz⟩:=I.list hq;have hl:=pl.isList;have O:p < s.heap.objs.size:=by obtain ⟨_,e,_⟩:=hl;exact Qap e
 have D:=Y.length;rw [Qac] at D;refine call_any_walk (Qeu hl ?_);refine ⟨s.heap.objs.size,[s.heap.objs.size,p],[s.heap.objs.size],C.toArray.size,_,_,fun i=>(bs[i]?).getD false,rfl,Walks.list (A:=X.A.in1) (I.ok.hd hc) _ p (Qbe O) C.toArray,
  ⟨⟨_,Qak _ rfl,rfl,rfl⟩,hl.push _⟩,fun i v s' Q' E' hP Z=>?_,fun h' tk hk=>?_⟩
 ·have hi:C[i]?=some v:=by simpa using hP
  have hb:i < bs.length:=by grind
  obtain ⟨w',e1,e2⟩:=Y.get (show (bs.map V.bl)[i]?=some (V.bl bs[i]) by rw [Qaj,Qaf hb];rfl);rw [hi] at e1;cases e1;cases e2;simp only [Qaf hb,Option.getD_some] at Z;exact Qdd Z
 ·have e:((List.range C.toArray.size).any fun i=>(bs[i]?).getD false)=bs.any id:=by
   rw [Qbb,<-D,Qd8,Qeh,Qeh]
   constructor
   ·rintro ⟨i,hi,z⟩
    have G:=Qcm.mp hi;refine ⟨_,Qc9 G,?_⟩;simpa [Qaf G] using z
   ·rintro ⟨b,hb,z⟩
    obtain ⟨i,hi,rfl⟩:=Qge hb;exact ⟨i,Qcm.mpr hi,by grind⟩
  rw [e];refine ⟨.bl (bs.any id),H,I.kept (t':=tk) (fun b o J=>hk b o (fun hm=>?_) (Qab _ J)),rfl,q⟩;rw [Qal.mp hm] at J;exact absurd (Qap J) (Qbz _)
def rSetD:V->List V->Hp->VK->Prop:=fun x vs H Q=>∃(d:Au) (k:Key) (v:V) (kvs:Ay),x=.ref d/\vs=[kV k,v]/\H d=some (.dK kvs)/\kvs.length < sizeLine /\
 (∀y,Yf kvs k=some y->Q y H)/\(Yf kvs k=none->Q v (upd H d (.dK (putK kvs k v))))
def Zh1:MtM X "dict.setdefault" rSetD:=by
 intro pins s σ H x vs v us Q I rx Z h;obtain ⟨d,k,y,kvs,rfl,rfl,e,hz,h1,h2⟩:=h;cases rx;cases Z with
 | cons O J =>
 cases J with
 | cons J r3 =>
 cases r3;obtain ⟨z,hd,vs,C,dd⟩:=Zdu I.hok e;refine call_meetsIn F.slot_dict_setdefault dd.typeIs F.entry_dict_setdefault (F.args_dict_setdefault_3 _ _ _) (kt_meets_setdefault (ZC X.prog X.w) d (zv O) hd _) ⟨vs,dd,by rw [<-C.length];exact z,fun v' hv=>?_,fun hv h' dd' hs=>?_⟩
 ·cases hy:Yf kvs k with
  | none =>
   have:=jy.none_of (by rw [<-hy];exact C.val k);rw [hv] at this;cases this
  | some G =>
   obtain ⟨Y,hw,D⟩:=jy.some_of (v:=G) (o:=valueAt vs k) (by rw [<-hy];exact C.val k);rw [hv] at hw;cases hw;exact ⟨G,H,I.tok _,D,h1 G hy⟩
 ·have hn:Yf kvs k=none:=by
   cases hy:Yf kvs k with
   | none=>rfl
   | some G =>
    obtain ⟨Y,hw,D⟩:=jy.some_of (v:=G) (o:=valueAt vs k) (by rw [<-hy];exact C.val k);rw [hv] at hw;cases hw
  have he:∃q,h'.get? d=some q:=let ⟨q,_,_,hq,_⟩:=dd';⟨q,hq⟩;have hl:(putK kvs k y).length<=sizeLine:=by have:=Xm kvs k y;lia
  exact ⟨y,_,qj I (by rw [e];exact True.intro) hs he (Zad hl hd (C.put k J) dd'),J,h2 hn⟩
def Itn(n:Nat):It:=⟨fun i _=>i < n,fun i H v H'=>H'=H/\v=.int ((n:Int) - 1 - i),fun i _=>n<=i⟩
def Zaz{w:Ar}{tg:Av}(it:Au)(n:Nat):Turn P w K tg (Itn n) [it] it (fun i h=>IsRangeIter h it ((n:Int) - 1 + (i:Nat) * (-1)) ((n:Int) - (i:Nat)) (-1)) where
 mem:=by simp
 obj:=fun i h st b hb=>by
  grind
 keep:=fun i h h' st k=>k it (by simp) _ st
 item:=by
  intro X Y hw O hc i pins s σ H E I hf st hg;subst Y hw O;obtain ⟨f0,C,f2,J,G,D⟩:=hf it (by simp);have W:=Walks.range (prog:=X.prog) (w:=X.w) (I.ok.hd hc) it ((n:Int) - 1) (-1) n;refine W.item i s _ _ hg st fun v h' tk hv q kk=>?_;obtain ⟨t,rfl⟩:=hv;have I1:Inv X pins σ H { s with heap:=h',toks:=tk }:=I.turned (fun b o hb e=>kk b o (by simpa using hb) e) f0 C J G D;refine ⟨_,rfl,j4 (s:={ s with heap:=h',toks:=tk }) (n := "range_iterator") q rfl rfl (by decide) ⟨.int ((n:Int) - 1 - i),H,I1,⟨t,?_⟩,⟨rfl,rfl⟩,q,fun b hb=>(hf b hb).1⟩⟩;rw [show (n:Int) - 1 + (i:Int) * (-1)=(n:Int) - 1 - i by lia]
 done:=by
  intro X Y hw O hc i pins s σ H E I hf st hg;subst Y hw O;obtain ⟨f0,C,f2,J,G,D⟩:=hf it (by simp);exact wpAny_pyNext_range_end (I.ok.hd hc) st (by have:n<=i:=hg;lia) fun h' Z=>⟨rfl,I.turned (t':=s.toks) (fun b o hb e=>Z b o hb e) f0 C J G D⟩
 self:=fun _ _ _ _ _ st h=>wpAny_pyIter_rangeiter st h
def yc(n:Nat):Builtin.Range.rangeSize ((n:Int) - 1) (-1) (-1)=(n:Int):=by
 unfold Builtin.Range.rangeSize;rw [Qaw (by decide)]
 split
 ·grind
 ·lia
def small_down(h:n<=1000000):Builtin.Range.small ((n:Int) - 1) (-1) (-1)=true:=by
 have q:∀z:Int,-10<=z->z<=1000010->Builtin.Range.rangeFitsLong z=true:=fun z h1 h2=>by
  unfold Builtin.Range.rangeFitsLong;simp only [Qb8,Qg0];lia
 unfold Builtin.Range.small;rw [yc];simp [q ((n:Int) - 1) (by lia) (by lia),q (n:Int) (by lia) (by lia),q (-1) (by lia) (by lia),q (-1 + (-1 + 1)) (by lia) (by lia),q (-1 - 1) (by lia) (by lia),q (-2) (by lia) (by lia),q (-1 + 1) (by lia) (by lia),q 0 (by lia) (by lia)]
def iDown(ta:TA):TI:=fun σ H R=>ta σ H fun vs H1=>∃n:Nat,vs=[.int ((n:Int) - 1),.int (-1),.int (-1)]/\n<=1000000/\R (Itn n) H1
def Zh2  {t:TA} {tg a b c:Av} (hg:Gl X "range") (hm:X.mg "range" = none) (ha:QA X [a,b,c] t) (hp:ZW a=true:=by rfl) (Y:ZW b=true:=by rfl) (O:ZW c=true:=by rfl):QI X tg (.Call (.Name "range" p) [a,b,c] [] A) (iDown t):=by
 refine ⟨fun pins s σ H R I h=>?_⟩;refine Call_ (WN I hg hm boot_range (Qb9 (thn (ha.out A pins s σ H _ I h) fun us G ⟨vs,H1,I1,r1,q1⟩=>?_) (Zr hp) (by rw [Zr Y,Zr O];rfl)));obtain ⟨n,e,hn,q⟩:=q1;subst e;cases r1 with
 | cons r D =>
 cases D with
 | cons r' D =>
 cases D with
 | cons r'' D =>
 cases D;obtain ⟨t,rfl⟩:=r;obtain ⟨t',rfl⟩:=r';obtain ⟨C,rfl⟩:=r'';refine call_range_3 (by decide) ?_ (Or.inl (PyProof.noPylong_small (by decide)));refine wpAny_pyIter_range (IsRange.new ..) (small_down hn) ?_;have J:Inv X pins σ H1 { G with heap:=G.heap.push { cls:=.type "range",data:=.fields #[.int ((n:Int) - 1) t,.int (-1) t',.int (-1) C] },toks:=G.toks }:=I1.kept fun b o e=>Qab _ e;generalize G.heap.push { cls:=.type "range",data:=.fields #[.int ((n:Int) - 1) t,.int (-1) t',.int (-1) C] }=Z at J ⊢;refine ⟨Z.objs.size,[Z.objs.size],_,_,H1,rfl,J.kept (t':=G.toks) fun b o e=>Qab _ e,Zaz _ n,?_,fun b hb=>?_,q⟩
 ·rw [yc,show (n:Int) - 1 + ((0:Nat):Int) * (-1)=(n:Int) - 1 by lia,show (n:Int) - ((0:Nat):Int)=n by lia]
  exact Qak _ rfl
 ·have e:b=Z.objs.size:=by simpa using hb
  subst e;exact J.fpOk (Qag _) (J.hok.fresh (Qag _))
def Zeb{g:TG}(C:Nat->St->Hp->Prop)(J:C 0 f H)
  (hs:∀i f H,i < n->C i f H->g (.int ((n:Int) - 1 - i)) f H fun D H2=>r { Y with nx:=C (i + 1),ct:=C (i + 1),bk:=Y.nx } D H2) (hd:∀f H,C n f H->Y.nx f H) :
  ∃W:Nat->Nat->St->Hp->Prop,(∃m,W 0 m f H)/\∀i m f H,W i m f H ->
   ((Itn n).stop i H/\Y.nx f H)\/((Itn n).go i H/\∃N:Az,(∀G H',N G H'->∃I,I < m/\W (i + 1) I G H')/\∀x H',(Itn n).yld i H x H'->g x f H' fun D H2=>r { Y with nx:=N,ct:=N,bk:=Y.nx } D H2):=by
 refine ⟨fun i m f H=>m=n - i/\i<=n/\C i f H,⟨n,by simp,Qba _,J⟩,fun i m f H ⟨e,hi,p⟩=>?_⟩;rcases Qc3 i n with h | h
 ·refine .inr ⟨h,fun f H=>C (i + 1) f H,fun G H' q=>⟨n - (i + 1),by lia,rfl,h,q⟩,?_⟩
  rintro x H' ⟨rfl,rfl⟩;exact hs i f _ h p
 ·have:i=n:=by lia
  subst this;exact .inl ⟨Qag _,hd _ _ p⟩
def iDictF(te:TE):TI:=fun σ H R=>te σ H fun x H1=>∃a kvs,x=.ref a/\Rd H1 a (.dK kvs)/\∀o,(∀u,H1 a=some (.frz u (.dK kvs))->u=o)->R (Itd a o kvs) (upd H1 a (.frz o (.dK kvs)))
def wa{X:Cx}{tg:Av}(he:QE X e d):QI X tg e (iDictF d):=by
 refine ⟨fun pins s σ H R I h=>?_⟩;refine thn (he.out pins s σ H _ I h) fun v C ⟨y,H1,J,r1,q1⟩=>?_;obtain ⟨a,kvs,rfl,e,q⟩:=q1;cases r1;obtain ⟨z,nm,vs,G,dd⟩:=jO J.hok e;obtain ⟨o,es,ep,ho,O,D,hk,hp,hn⟩:=id dd;have Y:=J.freeze e ho;have hlt:a < C.heap.objs.size:=Qap ho;have Z:C.heap.DictAt (ZC X.prog X.w) a vs ep:=⟨o,es,ho,O,D,hk,hp,hn⟩;refine wpAny_pyIter_dict nm Z ?_;have st:(C.heap.push { cls:=.type "dict_keyiterator",data:=.fields #[.ref a,.int 0 0,.int vs.length 0,.int ep 0] }).IsKeyIter C.heap.objs.size a 0 kvs.length ep:=by
  rw [G.length];exact ⟨_,Qak _ rfl,rfl,rfl⟩
 refine ⟨C.heap.objs.size,[C.heap.objs.size],_,_,_,rfl,Y.kept (t':=C.toks) fun b o e=>Qab _ e,jR a _ o kvs ep ⟨es,D⟩ (Qbe hlt),st,fun b hb=>?_,q o fun u hu=>?_⟩
 ·have e:b=C.heap.objs.size:=by simpa using hb
  subst e;exact Y.fpOk (Qag _) (Y.hok.fresh (Qag _))
 ·have z:=J.hok a _ hu
  obtain ⟨z1,_⟩:=z;exact Option.some.inj (z1.symm.trans ho)
end L2
namespace L2
section
variable {prog:An}{w:Ar}{A:Ao}{E:Ab}{s:Aq}
def Zec{t:Tok}{R:Ab}(hp:IsTup s.heap l J.toArray)(h:R (.ref l) s) :
  A1 prog w A (Builtin.«tuple.__mul__» ⟨[.ref l,.int 1 t],[]⟩) (fun fin s'=>∃r,fin=.done (.ret r)/\R r s') E s:=by
 obtain ⟨o,ho,hc,n,hd⟩:=hp;refine Qaa (Qcj (a:=(1:Int)) rfl ?_);refine Qaa (Qaa (Qbw ho hd (Qad ?_)));have q:(J.toArray.isEmpty || ((1:Int) == 1))=true:=by grind
 simp only [q,↓reduceIte];refine Qaa ?_;refine Qaa (Qel (T := "tuple") ⟨o,ho,hc⟩ (Qad ?_));exact Qaa (Qc1 (Qad ⟨_,rfl,h⟩))
def Zed{t:Tok}{R:Ab}(hp:IsTup s.heap l J.toArray)(D:J≠[])
  (h:R (.ref s.heap.objs.size) { s with heap:=s.heap.push { cls:=.type "tuple",data:=.seq #[] } }) :
  A1 prog w A (Builtin.«tuple.__mul__» ⟨[.ref l,.int 0 t],[]⟩) (fun fin s'=>∃r,fin=.done (.ret r)/\R r s') E s:=by
 obtain ⟨o,ho,hc,n,hd⟩:=hp;have he:J.toArray.isEmpty=false:=by grind
 refine Qaa (Qcj (a:=(0:Int)) rfl ?_);refine Qaa (Qaa (Qbw ho hd (Qad ?_)));have q:((0:Int) == 1)=false:=rfl;have C:decide ((0:Int)<=0)=true:=rfl;simp only [he,q,C,Qg8,Qbo,↓reduceIte];exact Qaa (Qa9 (Qad ⟨_,rfl,h⟩) (Zgi))
end
def rRepG(K:Af):R2:=fun x y H Q=>∃(l:Au) (k:Nat) (xs:A0),x=.ref l/\y=.int (k:Int)/\H l=some (.tup xs)/\k < 1000/\xs≠[]/\xs.length * k<=sizeLine/\∀p H',H' p=some (.tup (List.replicate k xs).flatten)->(∀b o,H b=some o->H' b=some o)->Q (.ref p) H'
def vw:OpR X (binaryOp .Mult) (rRepG X.K):=by
 intro pins s σ H x y v u Q I J G h;obtain ⟨l,k,xs,rfl,rfl,D,hk,C,hz,q⟩:=h
 by_cases h2:2<=k
 ·refine Zhn pins s σ H _ _ v u Q I J G ⟨l,(k:Int),xs,rfl,rfl,SqT.of D,by lia,by lia,C,by exact hz,fun p hp=>q p _ (by exact Za) fun b o e=>by rw [Zh (Zj e hp)];exact e⟩
 ·cases J
  obtain ⟨t,rfl⟩:=G;obtain ⟨O,r,p1,_⟩:=I.tuple (SqT.of D);obtain ⟨o,ho,hc,n,hd⟩:=id p1
  match k,h2 with
  | 0,_ =>
   refine Qez (T := "tuple") (U := "int") (by decide) ⟨_,ho,hc⟩ (fun s'=>Qf8 s' 0 t) X4 Qhk Qer JV Qhe.lookup
    (Qbc Qer (Qf8 s 0 t) Qhf (zD ho hc hd ⟨rfl,⟨_,ho,hc⟩,Qbc Qfu ⟨_,ho,hc⟩ Qg3 (Zed p1 (fun z=>C (r.nil_iff.mp z)) ?_) (Qgn _ _)⟩) (Qg4 _ _))
   refine ⟨.ref s.heap.objs.size,_,I.laid (t':=s.toks) (o:=.tup []) (fun b ob q=>Qab _ q) (Qag _) ?_,rfl,q _ _ Za fun b o e=>by rw [Zh (Zj e (I.hok.fresh (Qag _)))];exact e⟩;exact ⟨Qba _,[],.nil,jz.new _ _⟩
  | 1,_ =>
   refine Qez (T := "tuple") (U := "int") (by decide) ⟨_,ho,hc⟩ (fun s'=>Qf8 s' 1 t) X4 Qhk Qer JV Qhe.lookup
    (Qbc Qer (Qf8 s 1 t) Qhf (zD ho hc hd ⟨rfl,⟨_,ho,hc⟩,Qbc Qfu ⟨_,ho,hc⟩ Qg3 (Zec p1 ?_) (Qgn _ _)⟩) (Qg4 _ _))
   exact ⟨.ref l,H,I,rfl,q l H (by rw [D];simp) fun _ _ e=>e⟩
  | k + 2,h2=>exact absurd (by lia) h2
end L2
namespace Lw
open PySem L2
def top(i:Nat):Aw:=PySem.Challenge.pw_everywidth_k24_parted_late.main.body.getD i (.Pass ⟨0,0,0,0⟩)
abbrev xV:Aw:=top 1
abbrev qu:Aw:=top 2
abbrev Zj1:Aw:=top 7
abbrev Wu:Aw:=top 12
abbrev YF:Aw:=top 13
abbrev qw:Aw:=top 15
abbrev WQ:Aw:=top 18
abbrev J7:Aw:=top 25
abbrev Wv:Aw:=top 26
abbrev J8:Aw:=top 27
abbrev Ww:Aw:=top 28
abbrev Wx:Aw:=top 30
abbrev qx:Aw:=top 36
abbrev xW:Aw:=top 40
abbrev J9:Aw:=top 42
abbrev YY:Aw:=top 46
abbrev qy:Aw:=top 47
abbrev Gy:Aw:=top 53
abbrev Gd:Aw:=top 54
abbrev YK:Aw:=top 55
abbrev qz:Aw:=top 57
abbrev JA:Aw:=top 58
abbrev JB:Aw:=top 59
abbrev XA:Aw:=top 61
abbrev yd:Aw:=top 62
abbrev Gz:Aw:=top 63
abbrev Ge:Aw:=top 8
abbrev Y5:Aw:=top 14
abbrev xX:Aw:=top 29
abbrev ye:Aw:=top 31
abbrev X5:Aw:=top 37
abbrev q8:Aw:=top 39
abbrev JC:Aw:=top 41
abbrev XQ:Aw:=top 60
abbrev Wy:Aw:=top 64
abbrev XB:Aw:=top 11
abbrev XR:Aw:=top 33
abbrev Gf:Aw:=top 49
abbrev Xe:Aw:=top 10
abbrev yf:Aw:=top 38
abbrev Xq:Aw:=top 17
abbrev ZP:Aw:=top 45
abbrev Y6:Aw:=top 52
abbrev G1:Aw:=top 44
abbrev xY:Aw:=top 51
abbrev Zh3:Aw:=top 65
def Zw:Pos:=⟨196,4,200,77⟩
def Zt:Str:=(("machine_telling" : Str) ++ ".<locals>.") ++ "step_of"
abbrev YG:Aw:=(Xi ZP).getD 3 (.Pass ⟨0,0,0,0⟩)
def Z2:Pos:=⟨216,42,216,113⟩
def Z3:Str:=(("machines_compared" : Str) ++ ".<locals>.") ++ "<lambda>"
def Zc{p:Au}{o:HO}(h:H p=none):ZA H (upd H p o):=fun b u e=>by rw [Zh (Zj e h)];exact e
def Xf(w:Nat):(0:Int) < 2 ^ w:=by
 have h2:((2:Int) ^ w)=(((2:Nat) ^ w:Nat):Int):=by rfl
 have:=Qhl w;rw [h2];lia
def pow_succ'(w:Nat):(2:Int) ^ (w + 1)=2 ^ w * 2:=Qdr 2 w
def vx(w:Nat)(r:Int):Ak:=(List.range w).map fun i=>r / 2 ^ i % 2
def vy{t u:TS}{r:VK}{b c:Az}(J:Az)(h1:∀N:Az,(∀f H,J f H->N f H)->t { Y with nx:=N } f H)(h2:∀f H,J f H->u Y f H):({ nx:=Y9 t u Y,rt:=r,bk:=b,ct:=c }:Ends).nx f H:=h1 _ h2
def Zi{v:V}{Q:Az}(h:Q (f.set i (some v)) H):zk i v f H Q:=h
def wb{P:m->Prop}{l:List m}{y:m}(h:∀x∈l,P x)(q:P y):∀x∈l++[y],P x:=by grind
theorem Ys{p:Au}{o:HO}(s:ZA H g)(hp:H p=none):ZA H (upd g p o):=fun b u e=>by
 rw [Zh (Zj e hp)];exact s b u e
def Z0{z:Int}(j:Nat)(hz:z=(j:Int))(q:j < C.length):atI (C.map V.int) z=some (.int (C.getD j 0)):=by
 subst hz;refine Yh ?_;rw [Qaj,Qaf q,Qar,Qaf q]
 rfl
def Zh4{m:Int}(h:∀x∈C,0<=x/\x < m)(j:Nat)(q:j < C.length):0<=C.getD j 0/\C.getD j 0 < m:=by
 rw [Qar,Qaf q];exact h _ (Qc9 q)
def vz{z:Str}{i:Int}(n:Nat)(hn:z.cps.toList.length=n)(C:0<=i)(h1:i < (n:Int)):∃c,c∈z.cps.toList/\atI z.cps.toList i=some c:=by
 obtain ⟨j,rfl⟩:∃j:Nat,i=(j:Int):=⟨i.toNat,by lia⟩;have q:j < z.cps.toList.length:=by lia
 exact ⟨z.cps.toList[j],Qc9 q,Yh (Qaf q)⟩
theorem v5{P:Str->Prop}:∀{vs:A0},(∀v∈vs,∃y,v=.str y/\P y)->∃ys:Ai,vs=ys.map V.str/\∀y∈ys,P y
 | [],_=>⟨[],rfl,fun _ h=>nomatch h⟩
 | v::r,h=>by
  obtain ⟨y,rfl,C⟩:=h v Qaq;obtain ⟨ys,rfl,q⟩:=v5 (vs:=r) fun v hv=>h v (Qam _ hv);refine ⟨y::ys,rfl,fun z hz=>?_⟩;rcases Qan.mp hz with rfl | hz
  ·exact C
  ·exact q z hz
def Zje(xs:List m)(lo hi:Option Int):List m:=(xs.drop (HT.sIx xs.length 0 lo)).take (HT.sIx xs.length xs.length hi - HT.sIx xs.length 0 lo)
def WD(f:m->V)(xs:List m)(lo hi:Option Int):xf (xs.map f) lo hi=(Zje xs lo hi).map f:=by
 unfold xf Zje;rw [Qac,Qew,Qeg]
def JD(xs:List m)(k:Nat):(Zje xs none (some (k:Int)))=xs.take k:=by
 unfold Zje;rw [HT.sIx_none,HT.sIx_nat,Qei,Qhm,<-List.take_take,Qbi]
def yg(xs:List m)(k:Nat):(Zje xs (some (k:Int)) none)=xs.drop k:=by
 unfold Zje;rw [HT.sIx_none,HT.sIx_nat,Qb3 (by rw [Qcn];lia)]
 by_cases h:k<=xs.length
 ·rw [Qfe h]
 ·rw [Nat.min_eq_right (by lia),Qe0,List.drop_eq_nil_of_le (by lia)]
def qA{p:Au}{xs:A0}{lo hi:Option Int}{Q:VK}(h:H p=some (.tup xs))(k:∀q H',H' q=some (.tup (xf xs lo hi))->ZA H H'->Q (.ref q) H') :
  rSlT K (.ref p) lo hi H Q\/rSlW K (.ref p) lo hi H Q:=by
 by_cases w:HT.sIx xs.length 0 lo=0/\HT.sIx xs.length xs.length hi=xs.length
 ·refine .inr ⟨p,xs,rfl,SqT.of h,w,k p H ?_ (ZA.refl H)⟩
  rw [h];unfold xf;rw [w.1,w.2,Qei,Qhm,Qbi]
 ·exact .inl ⟨p,xs,rfl,SqT.of h,w,fun q C=>k q _ Za (Zc C)⟩
def yh{lo:Int}{is:Aj}{Q:VK}(P:Nat->V->Prop)(hz:n<=sizeLine)
  (he:∀i,i < n->∀R:VK,(∀v,P i v->R v H)->d (Ja is f (some (.int (lo + i)))) H R)
  (hd:∀vs:A0,vs.length=n->(∀i v,vs[i]?=some v->P i v)->∀l,H l=none->Q (.ref l) (upd H l (.lst vs))):Jq is uR d f Q (Itr lo n) H:=by
 refine JS (fun i zs H'=>i<=n/\zs.length=i/\(∀j v,zs[j]?=some v->P j v)/\H'=H) ⟨Qba _,rfl,fun j v h=>by simp at h,rfl⟩ ?_ ?_ ?_
 ·grind
 ·rintro i zs H' R hR hi ⟨_,hl,hp,rfl⟩
  unfold uR;refine he i hi _ fun v hv=>hR _ _ ⟨hi,by rw [Qae,hl];rfl,fun j u hu=>?_,rfl⟩
  by_cases q:j < zs.length
  ·grind
  ·grind
 ·grind
def mem_at{vs:A0}{P:V->Prop}(h:∀(i:Nat) (v:V),vs[i]?=some v->P v):∀v∈vs,P v:=by
 intro v hv;obtain ⟨i,hi,rfl⟩:=Qge hv;exact h i _ (Qaf hi)
def fI(g:Int->V):V->V
 | .int x=>g x
 | v=>v
def map_fI(g:Int->V)(q:Ak):(q.map V.int).map (fI g)=q.map g:=by
 rw [Qb4]
 rfl
def Ya(a b:Str):(a++b).cps.toList=a.cps.toList++b.cps.toList:=by
 rw [PySem.Str.cps_append,Array.toList_append]
def len_signs(a:Str):a.length=a.cps.toList.length:=by
 unfold Str.length;rw [Qbs]
def Zee{j:Nat}(h:j<=x.length):(Txt.slice x none (some (j:Int))).cps.toList=x.cps.toList.take j:=by
 have e:=Qgz.mp (PyProof.Rows.slice_closes_to (x:=x) (j:=(j:Int)) ⟨by lia,by rw [<-len_signs];lia⟩);rw [e];simp
def gv(h:i<=x.length):(Txt.slice x (some (i:Int)) none).cps.toList=x.cps.toList.drop i:=by
 rw [PyProof.Rows.slice_from_eq (b:=(x.length:Int)) (by lia) (by lia) rfl];simp only [Qat];rw [Qb3 (by rw [Qcn,<-len_signs];lia)]
theorem gx(q:Str)(hs:q.cps=#[]):∀ys:Ai,(Txt.join q ys).cps.toList=(ys.map (·.cps.toList)).flatten:=by
 intro ys;show (Builtin.Str.glued q ys).cps.toList=_;rw [StrLaws.glued_eq_join]
 induction ys with
 | nil=>rfl
 | cons x r C =>
  cases r with
  | nil =>
   show x.cps.toList=_;simp
  | cons y r =>
   show (x++q++Str.join q (y::r)).cps.toList=_;rw [Ya,Ya,C,hs];simp
theorem Za0{ys:Ai}{P:Nat->Prop}(h:∀y∈ys,∃c,y=⟨#[c]⟩/\P c):(ys.map (·.cps.toList)).flatten.length=ys.length/\(∀c∈(ys.map (·.cps.toList)).flatten,P c)/\(ys.map (·.length)).sum=ys.length:=by
 induction ys with
 | nil=>exact ⟨rfl,fun c h=>absurd h (Qbd),rfl⟩
 | cons y r q =>
  obtain ⟨c,rfl,hc⟩:=h _ Qaq;obtain ⟨h1,h2,C⟩:=q fun z hz=>h z (Qam _ hz);refine ⟨?_,?_,?_⟩
  ·grind
  ·grind
  ·rw [Qbu,List.sum_cons,C]
   show 1 + r.length=r.length + 1;lia
def Zkr:Str := "abcdefghijklmnopqrstuvwxyz"
def Low(c:Nat):Prop:=c∈Zkr.cps.toList
instance (c:Nat):Decidable (Low c):=inferInstanceAs (Decidable (c∈_))
def Yb:Ai:=["not","neg","twice","low","and","or","odd","add","sub","pick","same","under","beneath","sign","nought","both","either","so","never","yes"]
def NmL(y:Str):Prop:=(1<=y.length/\y.length<=8)/\∀c∈y.cps.toList,Low c
instance (y:Str):Decidable (NmL y):=inferInstanceAs (Decidable (_/\_))
structure NmS(y:Str):Prop where
 l:NmL y
 k:y∉Yb
theorem ZN(y:Str):∀ys:Ai,inV (.str y) (ys.map V.str)=decide (y∈ys)
 | []=>rfl
 | z::r=>by
  have e:inV (.str y) ((z::r).map V.str)=((z == y) || inV (.str y) (r.map V.str)):=rfl;rw [e,ZN y r]
  by_cases h:z=y
  ·grind
  ·grind
def Za1(ys:Ai):(ys.map V.str).all GA=true:=by
 rw [List.all_map];exact Qdo.mpr fun _ _=>rfl
def Za2{c:TT}(C:Az)(μ:L2.St->Hp->Nat)(G:C f H)
  (hs:∀f H,C f H->c f H fun b H1=>if b=true then ∃N:Az,(∀q H',N q H'->∃D,D < μ f H/\D=μ q H'/\C q H')/\r { Y with nx:=N,ct:=N,bk:=Y.nx } f H1 else Y.nx f H1):ug c r Y f H:=by
 refine ⟨fun m f H=>m=μ f H/\C f H,⟨_,rfl,G⟩,?_⟩;rintro m f H ⟨rfl,p⟩;exact hs f H p
def LeafOk(ys:Ai)(v:V):Prop:=(∃y∈ys,v=.str y)\/∃z:Int,v=.int z/\0<=z/\z < 1000
def sumT:List (Str × Nat):=[("not",1),("neg",1),("twice",1),("low",1),("and",2),("or",2),("odd",2),("add",2),("sub",2),("pick",3)]
def Wm:Ai:=sumT.map (·.1)
def Yo(y:Str):Nat:=((sumT.find? fun p=>decide (p.1=y)).map (·.2)).getD 0
def partsV:V->Nat
 | .str y=>Yo y
 | _=>0
def Zfu(ys:Ai)(v:V):Prop:=(∃y,v=.str y/\y∈Wm)\/LeafOk ys v
def sum_kept:∀y∈Wm,y∈Yb:=by decide +kernel
def T1:List (Str × Int):=[("not",1),("neg",1),("twice",1),("low",1),("and",2),("or",2),("odd",2),("add",2),("sub",2),("pick",3)]
def T2:List (Str × Int):=[("same",2),("under",2),("beneath",2),("sign",1),("nought",1)]
def T3:List (Str × Int):=[("both",2),("either",2),("so",2),("never",1),("yes",0)]
def ZR:Ai:=["same","under","beneath","sign","nought","both","either","so","never","yes"]
theorem Zfv(l:List (Str × Int))(y:Str):(Yf (kvsOf l) (.inr y)).isSome=decide (y∈l.map (·.1)):=by
 induction l with
 | nil=>rfl
 | cons p r q =>
  by_cases h:p.1=y
  ·have e:Yf (kvsOf (p::r)) (.inr y)=some (.int p.2):=ZY (p:=((Sum.inr p.1:Key),V.int p.2)) (by rw [h])
   rw [e,Qbu,Qao (by rw [h];exact Qaq)]
   rfl
  ·have e:Yf (kvsOf (p::r)) (.inr y)=Yf (kvsOf r) (.inr y):=ZS (p:=((Sum.inr p.1:Key),V.int p.2)) (fun z=>h (Sum.inr.inj z))
   by_cases m:y∈r.map (·.1)
   ·grind
   ·grind
def Jl:List (Str × Int)->Key->Int
 | [],_=>0
 | p::r,k=>if (Sum.inr p.1:Key)=k then p.2 else Jl r k
theorem kget(l:List (Str × Int))(k:Key):(Yf (kvsOf l) k).getD (.int 0)=.int (Jl l k):=by
 induction l with
 | nil=>rfl
 | cons p r q =>
  unfold Jl
  by_cases h:(Sum.inr p.1:Key)=k
  ·have e:Yf (kvsOf (p::r)) k=some (.int p.2):=ZY (p:=((Sum.inr p.1:Key),V.int p.2)) h
   rw [e,Qa1 h]
   rfl
  ·have e:Yf (kvsOf (p::r)) k=Yf (kvsOf r) k:=ZS (p:=((Sum.inr p.1:Key),V.int p.2)) h
   rw [e,q,Qaw h]
theorem qB{l:List (Str × Int)}{y:Str}(h:y∉l.map (·.1)):Jl l (.inr y)=0:=by
 induction l with
 | nil=>rfl
 | cons p r q =>
  unfold Jl;rw [Qaw (fun z=>h (by grind)),q (fun z=>h (Qam _ z))]
def XS(k:Key):Int:=Jl T1 k + Jl T2 k + Jl T3 k
def tw1:T1.map (·.1)=Wm:=by decide +kernel
def v7:∀y,y∈Yb↔y∈Wm\/y∈ZR:=by
 intro y;have e:Yb=Wm++ZR:=by decide +kernel
 rw [e,Qa4]
def keyOf:V->Key
 | .int i=>.inl i
 | .str y=>.inr y
 | _=>.inl 0
def Zh5(x:Str)(c:Nat):(!(Builtin.Str.occurrences x ⟨#[c]⟩ 0 x.length 1).isEmpty)=decide (c∈x.cps.toList):=by
 have h:=PyProof.Rows.in_closes (x:=x) (c:=c) rfl rfl;rw [Qgz] at h;rw [h]
 by_cases m:c∈x.cps.toList
 ·rw [Qao m,Qao ((PyProof.Rows.countIn_signs c _).mpr m)]
 ·rw [Qau m,Qau (fun z=>m ((PyProof.Rows.countIn_signs c _).mp z))]
def xZ(y q:Str):Prop:=y.cps.toList≠[]/\∀c∈y.cps.toList,c∈q.cps.toList
instance (y sg:Str):Decidable (xZ y sg):=inferInstanceAs (Decidable (_/\_))
def all_bs(l:Aj)(p:Nat->Bool):(l.map p).all id=decide (∀c∈l,p c=true):=by
 rw [Qd8,Qdo,Qcb]
 constructor
 ·intro h c hc
  exact h _ (Qcc hc)
 ·grind
def qC {y:Str}:y.cps.toList=[]↔y=("" : Str):=by
 constructor
 ·intro h
  obtain ⟨a⟩:=y;have:a=#[]:=by
   grind
  subst this
  decide +kernel
 ·rintro rfl
  decide +kernel
def nmB:V->Bool
 | .str y=>decide (y∉Yb/\NmL y)
 | _=>false
def Zh6:V->Str
 | .str y=>y
 | _ => ""
def G2(w:V):Prop:=(∃y,w=.str y/\y.length<=1000)\/∃z,w=.int z
theorem Za3(ys:Ai):(XO ys).length<=ys.length:=by
 have h:∀(ys S:Ai),(ys.foldl ins S).length<=S.length + ys.length:=by
  intro ys
  induction ys with
  | nil=>intro S;exact Qag _
  | cons y r q =>
   intro S;have h1:=q (ins S y);have h2:(ins S y).length<=S.length + 1:=by
    unfold ins;split
    ·lia
    ·grind
   rw [Qdx,Qce];lia
 have:=h ys [];rw [Qfc,Nat.zero_add] at this;exact this
def Zh7(q:A0):((q.filter nmB).map Zh6).map V.str=q.filter nmB:=by
 rw [Qb4];refine (Qcl (g:=id) fun w hw=>?_).trans (List.map_id _);have h:=(Qdi.mp hw).2;cases w with
 | str y=>rfl
 | _=>cases h
def Zj2(ys:Ai)(w:V):Prop:=Zfu ys w\/∃y,w=.str y/\y∈ZR
def gy:∀y∈ZR,y∈Yb:=by decide +kernel
def WB(ys:Ai):Bool->V->Prop
 | true,w=>∃y,w=.str y/\y∈ZR
 | false,w=>Zfu ys w
def WB.cw{ys:Ai}{b:Bool}(h:WB ys b w):Zj2 ys w:=by
 cases b with
 | true=>exact .inr h
 | false=>exact .inl h
def nSum(w:V):Nat:=(Jl T1 (keyOf w) + Jl T2 (keyOf w)).toNat
def nClm(w:V):Nat:=(Jl T3 (keyOf w)).toNat
def nextK(w:V):List Bool:=List.replicate (nSum w) false++List.replicate (nClm w) true
inductive Zh8(ys:Ai):List Bool->List V->List Bool->Prop
 | nil {ls:List Bool}:Zh8 ys ls [] ls
 | cons {ls e:List Bool} {b:Bool} {w:V} {r:A0}:WB ys b w->Zh8 ys (ls++nextK w) r e->Zh8 ys (ls++[b]) (w::r) e
theorem Zh8.words{ys:Ai}{a b:List Bool}{u:A0}(h:Zh8 ys a u b):∀w∈u,Zj2 ys w:=by
 induction h with
 | nil=>exact fun _ h=>nomatch h
 | cons hw _ q =>
  intro x hx;rcases Qan.mp hx with rfl | hx
  ·exact hw.cw
  ·exact q x hx
theorem v8{l:List (Str × Int)}(h:∀p∈l,0<=p.2/\p.2<=3)(k:Key):0<=Jl l k/\Jl l k<=3:=by
 induction l with
 | nil=>exact ⟨Int.le_refl _,(by decide:(0:Int)<=3)⟩
 | cons p r q =>
  unfold Jl
  split
  ·exact h p Qaq
  ·grind
def T1_bd(k:Key):0<=Jl T1 k/\Jl T1 k<=3:=v8 (by decide +kernel) k
def T2_bd(k:Key):0<=Jl T2 k/\Jl T2 k<=3:=v8 (by decide +kernel) k
def T3_bd(k:Key):0<=Jl T3 k/\Jl T3 k<=3:=v8 (by decide +kernel) k
def npw(w:V):Nat:=(XS (keyOf w)).toNat
def qD(k:Key):0<=XS k/\XS k<=9:=by
 have h1:=T1_bd k;have h2:=T2_bd k;have q:=T3_bd k;unfold XS;lia
theorem Zh9(h:i < v.length):(v.drop i).reverse=(v.drop (i + 1)).reverse++[v[i]]:=by simp_all
def Za4(l:A0)(y:V):(l++[y])[(l++[y]).length - 1]?=some y:=by grind
def rev_at{x:V}(h:v.reverse[i]?=some x):i < v.length/\v[v.length - 1 - i]?=some x:=by grind
def LsAt(ys:Ai)(C:A0)(ls:Nat->List Bool):Prop:=ls C.length=[]/\∀i x,C[i]?=some x->∃q b,ls i=q++[b]/\WB ys b x/\ls (i + 1)=q++nextK x
theorem Zh8.at{ys:Ai}{a e:List Bool}{C:A0}(h:Zh8 ys a C e)(he:e=[]):∃ls,LsAt ys C ls/\ls 0=a:=by
 induction h with
 | @nil ls =>
  subst he;exact ⟨fun _=>[],⟨rfl,fun i x hx=>by simp at hx⟩,rfl⟩
 | @cons q e b w r hw _ G =>
  obtain ⟨ls,⟨h1,h2⟩,D⟩:=G he;refine ⟨fun i=>match i with | 0=>q++[b] | i + 1=>ls i,⟨h1,fun i x hx=>?_⟩,rfl⟩;cases i with
  | zero =>
   have:w=x:=by simpa using hx
   subst this;exact ⟨q,b,rfl,hw,D⟩
  | succ i=>exact h2 i x (by simpa using hx)
def Zj3 (y:Str) (a:Int):Int:=if y = "not" then Builtin.bitNot a else if y = "neg" then -a else if y = "twice" then a + a else Builtin.bitAnd a (-a)
def Zj4 (y:Str) (a b:Int):Int:=if y = "and" then Builtin.bitAnd a b else if y = "or" then Builtin.bitOr a b else if y = "odd" then Builtin.bitXor a b else if y = "add" then a + b else a - b
def wwv(ρ:Str->Int):V->List Int->Int
 | .int z,_=>z
 | .str y,[]=>ρ y
 | .str y,[a]=>Zj3 y a
 | .str y,[a,b]=>Zj4 y a b
 | .str _,a::b::c::_=>Builtin.bitOr (Builtin.bitAnd a b) (Builtin.bitAnd (Builtin.bitNot a) c)
 | _,_=>0
def clK:Key->Bool
 | .inr y=>decide (y∈ZR)
 | .inl _=>false
def Zj5(m n:Nat):(m &&& n) / 2=m / 2 &&& n / 2/\(m &&& n) % 2=m % 2 * (n % 2):=by
 refine ⟨Nat.and_div_two_pow (n:=1),?_⟩;have h:=Nat.and_mod_two_pow (a:=m) (b:=n) (n:=1);rw [h];rcases Qcs m with e | e <;> rcases Qcs n with f | f <;> rw [e,f] <;> rfl
def n_or(m n:Nat):(m ||| n) / 2=m / 2 ||| n / 2/\(m ||| n) % 2=m % 2 + n % 2 - m % 2 * (n % 2):=by
 refine ⟨Nat.or_div_two_pow (n:=1),?_⟩;have h:=Nat.or_mod_two_pow (a:=m) (b:=n) (n:=1);rw [h];rcases Qcs m with e | e <;> rcases Qcs n with f | f <;> rw [e,f] <;> rfl
def bA_pp(m n:Nat):Builtin.bitAnd m n=((m &&& n:Nat):Int):=by
 rfl
def we(n:Nat):¬(0:Int)<=-(n:Int) - 1:=by lia
def wg(n:Nat):(Builtin.bitNot (-(n:Int) - 1)).toNat=n:=by
 unfold Builtin.bitNot;lia
def Zj6(m n:Nat):Builtin.bitAnd m (-(n:Int) - 1)=(m:Int) - ((m &&& n:Nat):Int):=by
 unfold Builtin.bitAnd;rw [Qao (Qch m),Qau (we n)];rw [wg]
 rfl
def Zia(m n:Nat):Builtin.bitAnd (-(m:Int) - 1) n=(n:Int) - ((n &&& m:Nat):Int):=by
 unfold Builtin.bitAnd;rw [Qao (Qch n),Qau (we m)];rw [wg]
 rfl
def Zj7(m n:Nat):Builtin.bitAnd (-(m:Int) - 1) (-(n:Int) - 1)=-((m ||| n:Nat):Int) - 1:=by
 unfold Builtin.bitAnd;rw [Qau (we n),Qau (we m)];rw [wg,wg]
 rfl
def zJ(a:Int):(∃m:Nat,a=m)\/∃m:Nat,a=-(m:Int) - 1:=by
 by_cases h:0<=a
 ·exact .inl ⟨a.toNat,by lia⟩
 ·exact .inr ⟨(-a - 1).toNat,by lia⟩
def g7(a:Int):a % 2=0\/a % 2=1:=by lia
def sub2(m A:Int)(h:A % 2=0\/m % 2=1):(m - A) / 2=m / 2 - A / 2/\(m - A) % 2=m % 2 - A % 2:=by lia
def cast2(m:Nat):(m:Int) / 2=((m / 2:Nat):Int)/\(m:Int) % 2=((m % 2:Nat):Int):=⟨rfl,rfl⟩
def Zc8(x:Int):(-x - 1) / 2=-(x / 2) - 1/\(-x - 1) % 2=1 - x % 2:=by lia
def Zj8(m n:Nat):(((m &&& n:Nat):Int)) / 2=((m / 2 &&& n / 2:Nat):Int)/\(((m &&& n:Nat):Int)) % 2=(m:Int) % 2 * ((n:Int) % 2):=by
 rw [(cast2 _).1,(cast2 _).2,(Zj5 m n).1,(Zj5 m n).2,Int.natCast_mul];exact ⟨rfl,rfl⟩
def take2(m n:Nat):((m:Int) - ((m &&& n:Nat):Int)) / 2=((m / 2:Nat):Int) - ((m / 2 &&& n / 2:Nat):Int)/\((m:Int) - ((m &&& n:Nat):Int)) % 2=(m:Int) % 2 * (1 - (n:Int) % 2):=by
 have l:=Zj8 m n;have h:((m &&& n:Nat):Int) % 2=0\/(m:Int) % 2=1:=by
  grind
 have z:=sub2 _ _ h;rw [z.1,z.2,l.1,l.2];refine ⟨rfl,?_⟩;rcases g7 (m:Int) with e | e <;> rcases g7 (n:Int) with f | f <;> rw [e,f] <;> rfl
def Zj9(a b:Int):Builtin.bitAnd a b / 2=Builtin.bitAnd (a / 2) (b / 2)/\Builtin.bitAnd a b % 2=a % 2 * (b % 2):=by
 rcases zJ a with ⟨m,rfl⟩ | ⟨m,rfl⟩ <;> rcases zJ b with ⟨n,rfl⟩ | ⟨n,rfl⟩
 ·exact Zj8 m n
 ·rw [(cast2 m).1,(Zc8 _).1,(Zc8 _).2,(cast2 n).1,Zj6,Zj6]
  exact take2 m n
 ·rw [(cast2 n).1,(Zc8 _).1,(Zc8 _).2,(cast2 m).1,Zia,Zia,Qe5]
  exact take2 n m
 ·rw [(Zc8 (m:Int)).1,(Zc8 (m:Int)).2,(Zc8 (n:Int)).1,(Zc8 (n:Int)).2,(cast2 m).1,(cast2 n).1,Zj7,Zj7,(Zc8 _).1,(Zc8 _).2,(cast2 _).1,(cast2 _).2,(n_or m n).1,(n_or m n).2]
  refine ⟨rfl,?_⟩;rw [(cast2 m).2,(cast2 n).2];rcases Qcs m with e | e <;> rcases Qcs n with f | f <;> rw [e,f] <;> rfl
def Zfw(a:Int):Builtin.bitNot a / 2=Builtin.bitNot (a / 2)/\Builtin.bitNot a % 2=1 - a % 2:=by
 unfold Builtin.bitNot;lia
def or2(a b:Int):Builtin.bitOr a b / 2=Builtin.bitOr (a / 2) (b / 2)/\Builtin.bitOr a b % 2=1 - (1 - a % 2) * (1 - b % 2):=by
 unfold Builtin.bitOr;have h:=Zj9 (Builtin.bitNot a) (Builtin.bitNot b);rw [(Zfw a).1,(Zfw b).1,(Zfw a).2,(Zfw b).2] at h;rw [(Zfw _).1,(Zfw _).2,h.1,h.2];exact ⟨rfl,rfl⟩
def xor2(a b:Int):Builtin.bitXor a b / 2=Builtin.bitXor (a / 2) (b / 2)/\Builtin.bitXor a b % 2=(a % 2 + b % 2) % 2:=by
 unfold Builtin.bitXor;have h:=Zj9 a b;have g:=or2 a b;have q:Builtin.bitAnd a b % 2=0\/Builtin.bitOr a b % 2=1:=by
  rw [h.2,g.2];rcases g7 a with e | e <;> rcases g7 b with f | f <;> rw [e,f] <;> decide
 have z:=sub2 _ _ q;rw [z.1,z.2,h.1,h.2,g.1,g.2];refine ⟨rfl,?_⟩;rcases g7 a with e | e <;> rcases g7 b with f | f <;> rw [e,f] <;> rfl
def yi(w:Nat)(n:Int):vx (w + 1) n=n % 2::vx w (n / 2):=by
 unfold vx;rw [List.range_succ_eq_map,Qbu,Qb4,Qd3,Qdb];congr 1;refine Qcl fun i _=>?_;show n / 2 ^ (i + 1) % 2=n / 2 / 2 ^ i % 2;rw [Qdr,Qe5,Qff (by decide:(0:Int)<=2)]
theorem Zef(w:Nat)(n:Int):vx w (n % 2 ^ w)=vx w n:=by
 induction w generalizing n with
 | zero=>rfl
 | succ w q =>
  rw [yi,yi,<-q (n / 2)];have e1:n % 2 ^ (w + 1) % 2=n % 2:=by
   rw [Int.emod_emod_of_dvd];exact ⟨2 ^ w,by rw [Qdr,Qe5]⟩
  have e2:n % 2 ^ (w + 1) / 2=n / 2 % 2 ^ w:=by
   have hp:(0:Int) < 2 ^ w:=Qe2 (by decide);have h1:=Qd4 n 2;have h2:=Qd4 (n / 2) (2 ^ w);have C:=Qb1 (n / 2) (Qfp hp);have D:=Qbp (n / 2) hp;have e:n % 2 ^ (w + 1)=n % 2 + 2 * (n / 2 % 2 ^ w):=by
    have:n=n % 2 + 2 * (n / 2 % 2 ^ w) + 2 ^ (w + 1) * (n / 2 / 2 ^ w):=by
     rw [Qdr];have:(2:Int) ^ w * 2 * (n / 2 / 2 ^ w)=2 * (2 ^ w * (n / 2 / 2 ^ w)):=by
      rw [Qe5 ((2:Int) ^ w) 2,Int.mul_assoc]
     lia
    conv=>lhs;rw [this]
    rw [Qex];refine Qcr (by lia) ?_;rw [Qdr];lia
   rw [e];lia
  rw [e1,e2]
def bits_getD(w:Nat)(n:Int)(i:Nat)(h:i < w):(vx w n).getD i 0=n / 2 ^ i % 2:=by
 unfold vx;rw [Qar,Qaj,Qc0 h]
 rfl
theorem Za5{j:Nat}(h:i<=j):(2:Int) ^ i<=2 ^ j:=by
 obtain ⟨d,rfl⟩:∃d,j=i + d:=⟨j - i,by lia⟩;clear h
 induction d with
 | zero=>exact Int.le_refl _
 | succ d q =>
  have:=Qe2 (n:=2) (m:=i + d) (by decide);rw [show i + (d + 1)=i + d + 1 from rfl,Qdr];lia
def bt(x:Int)(k:Nat):Int:=x / 2 ^ k % 2
def Y7(x:Int)(k:Nat):bt x (k + 1)=bt (x / 2) k:=by
 unfold bt;rw [Qdr,Qe5,Qff (by decide:(0:Int)<=2)]
def Y8(x:Int)(k:Nat):bt x k=0\/bt x k=1:=by
 unfold bt;lia
theorem Xr(k:Nat):∀a b:Int,bt (Builtin.bitAnd a b) k=bt a k * bt b k:=by
 induction k with
 | zero =>
  intro a b;unfold bt;rw [Qd3,Qdb,Qdb,Qdb,(Zj9 a b).2]
 | succ k q =>
  intro a b;rw [Y7,Y7,Y7,(Zj9 a b).1,q]
theorem Gg(k:Nat):∀a b:Int,bt (Builtin.bitOr a b) k=1 - (1 - bt a k) * (1 - bt b k):=by
 induction k with
 | zero =>
  intro a b;unfold bt;rw [Qd3,Qdb,Qdb,Qdb,(or2 a b).2]
 | succ k q =>
  intro a b;rw [Y7,Y7,Y7,(or2 a b).1,q]
theorem Wg(k:Nat):∀a b:Int,bt (Builtin.bitXor a b) k=(bt a k + bt b k) % 2:=by
 induction k with
 | zero =>
  intro a b;unfold bt;rw [Qd3,Qdb,Qdb,Qdb,(xor2 a b).2]
 | succ k q =>
  intro a b;rw [Y7,Y7,Y7,(xor2 a b).1,q]
theorem WR(k:Nat):∀a:Int,bt (Builtin.bitNot a) k=1 - bt a k:=by
 induction k with
 | zero =>
  intro a;unfold bt;rw [Qd3,Qdb,Qdb,(Zfw a).2]
 | succ k q =>
  intro a;rw [Y7,Y7,(Zfw a).1,q]
def YO(k:Nat):bt 0 k=0:=by
 unfold bt;rw [Int.zero_ediv]
 rfl
theorem Za6(k:Nat):bt (-1) k=1:=by
 induction k with
 | zero=>rfl
 | succ k q=>rw [Y7];exact q
def yj(x:Int)(w k:Nat)(h:k < w):bt (x % 2 ^ w) k=bt x k:=by
 have e:=Zef w x;have h1:=bits_getD w (x % 2 ^ w) k h;have h2:=bits_getD w x k h;rw [e,h2] at h1;exact h1.symm
def lo(x:Int)(k:Nat):Int:=x % 2 ^ k
def yk(x:Int)(k:Nat):0<=lo x k/\lo x k < 2 ^ k:=⟨Qb1 _ (Qfp (Qe2 (by decide))),Qbp _ (Qe2 (by decide))⟩
def zK(x:Int)(k:Nat):lo x (k + 1)=lo x k + 2 ^ k * bt x k:=by
 unfold lo bt;have hp:(0:Int) < 2 ^ k:=Qe2 (by decide);have e1:=Qd4 x (2 ^ k);have q:=Qb1 x (Qfp hp);have b1:=Qbp x hp;have e3:x=(x % 2 ^ k + 2 ^ k * (x / 2 ^ k % 2)) + 2 ^ (k + 1) * (x / 2 ^ k / 2):=by
  grind
 conv=>lhs;rw [e3]
 rw [Qex];have hb:x / 2 ^ k % 2=0\/x / 2 ^ k % 2=1:=by lia
 refine Qcr ?_ ?_
 ·grind
 ·grind
def Zib(x:Int)(k:Nat):x=lo x k + 2 ^ k * (x / 2 ^ k):=(Qd4 x (2 ^ k)).symm
def bt_sum{x z:Int}{k:Nat}{c:Int}(hc:c=0\/c=1)(e:lo z k + 2 ^ k * c=lo x k + lo y k)(hz:z=x + y):bt z k=(bt x k + bt y k + c) % 2:=by
 have hp:(0:Int) < 2 ^ k:=Qe2 (by decide);have e1:=Zib x k;have e2:=Zib y k;have e3:=Zib z k;have h:(2:Int) ^ k * (z / 2 ^ k)=2 ^ k * (x / 2 ^ k + y / 2 ^ k + c):=by
  rw [Qhs,Qhs];lia
 have h2:=Int.eq_of_mul_eq_mul_left (Qfp hp) h;unfold bt;rw [h2];lia
def cyA(x y:Int)(k:Nat):Int:=(lo x k + lo y k) / 2 ^ k
def Za7(x y:Int)(k:Nat):lo (x + y) k + 2 ^ k * cyA x y k=lo x k + lo y k:=by
 have e:lo (x + y) k=(lo x k + lo y k) % 2 ^ k:=by
  unfold lo;rw [<-Int.emod_add_emod,<-Int.add_emod_emod]
 rw [e];exact Qd4 _ _
def Za8(x y:Int)(k:Nat):cyA x y k=0\/cyA x y k=1:=by
 have hp:(0:Int) < 2 ^ k:=Qe2 (by decide);have a:=yk x k;have b:=yk y k;have q:0<=cyA x y k:=Int.ediv_nonneg (by lia) (Int.le_of_lt hp);have C:cyA x y k < 2:=Int.ediv_lt_of_lt_mul hp (by lia);lia
def Zfx(x y:Int)(k:Nat):bt (x + y) k=(bt x k + bt y k + cyA x y k) % 2:=bt_sum (Za8 x y k) (Za7 x y k) rfl
def wj(x y:Int):cyA x y 0=0:=by
 unfold cyA lo;rw [Qd3,Qe6,Qe6]
 rfl
def wm(x y:Int)(k:Nat):cyA x y (k + 1)=(bt x k + bt y k + cyA x y k) / 2:=by
 have hp:(0:Int) < 2 ^ k:=Qe2 (by decide);have e1:=zK x k;have e2:=zK y k;have e3:=Za7 x y k;have b:=yk (x + y) k;have e:lo x (k + 1) + lo y (k + 1)=lo (x + y) k + 2 ^ k * (bt x k + bt y k + cyA x y k):=by
  rw [Qhs,Qhs];lia
 unfold cyA;rw [e,Qdr,<-Qff (Int.le_of_lt hp),Qfq _ _ (Qfp hp),Qej b.1 b.2,Qe7]
 rfl
def brA(x y:Int)(k:Nat):Int:=if lo x k < lo y k then 1 else 0
def wo(x y:Int)(k:Nat):brA x y k=cyA (x - y) y k:=by
 have e:=Za7 (x - y) y k;rw [Int.sub_add_cancel] at e;have b:=yk (x - y) k;unfold brA;rcases Za8 (x - y) y k with h | h <;> rw [h] at e ⊢
 ·rw [Qaw (by lia)]
 ·rw [Qa1 (by lia)]
def yl(x y:Int)(k:Nat):brA x y k=0\/brA x y k=1:=by
 unfold brA
 split
 ·exact .inr rfl
 ·exact .inl rfl
def Za9(x y:Int)(k:Nat):bt (x - y) k=(bt x k + bt y k + brA x y k) % 2:=by
 have h:=Zfx (x - y) y k;rw [Int.sub_add_cancel,<-wo] at h;have a:=Y8 (x - y) k;rw [h];lia
def wq(x y:Int):brA x y 0=0:=by
 rw [wo,wj]
def wt(x y:Int)(k:Nat):brA x y (k + 1)=1 - (1 - (1 - bt x k) * bt y k) * (1 - brA x y k * (1 - (bt x k + bt y k) % 2)):=by
 rw [wo,wm,<-wo,Za9];rcases Y8 x k with a | a <;> rcases Y8 y k with b | b <;> rcases yl x y k with c | c <;> rw [a,b,c] <;> rfl
def nzA(x:Int)(k:Nat):Int:=brA 0 x k
def Zba(x:Int)(k:Nat):nzA x k=0\/nzA x k=1:=yl 0 x k
def Zeg(x:Int):nzA x 0=0:=wq 0 x
def Zeh(x:Int)(k:Nat):nzA x (k + 1)=1 - (1 - bt x k) * (1 - nzA x k):=by
 unfold nzA;rw [wt,YO];rcases Y8 x k with a | a <;> rcases yl 0 x k with c | c <;> rw [a,c] <;> rfl
def Zfy(x:Int)(k:Nat):bt (-x) k=(bt x k + nzA x k) % 2:=by
 have h:=Za9 0 x k;rw [Int.zero_sub,YO,Qe7] at h;exact h
def bt_low(x:Int)(k:Nat):bt (Builtin.bitAnd x (-x)) k=bt x k * (1 - nzA x k):=by
 rw [Xr,Zfy];rcases Y8 x k with a | a <;> rcases Zba x k with c | c <;> rw [a,c] <;> rfl
def tw(x:Int):Nat->Int
 | 0=>0
 | k + 1=>bt x k
theorem tw_01(x:Int):∀k,tw x k=0\/tw x k=1
 | 0=>.inl rfl
 | k + 1=>Y8 x k
theorem Zei(x:Int):∀k,bt (x + x) k=tw x k
 | 0=>by
  unfold bt;rw [Qd3,Qdb];show (x + x) % 2=0;lia
 | k + 1=>by
  rw [Y7,show (x + x) / 2=x by lia]
  rfl
def hld(y:Str)(is:Ak)(k:Nat):Int :=
 if y = "twice" then tw (is.getD 0 0) k else if y = "neg" \/ y = "low" then nzA (is.getD 0 0) k else if y = "add" then cyA (is.getD 0 0) (is.getD 1 0) k else brA (is.getD 0 0) (is.getD 1 0) k
def v9:Ai:=["neg","twice","low","add","sub"]
def once(y:Str)(bs:Ak):Int :=
 if y = "not" then 1 - bs.getD 0 0 else if y = "and" then bs.getD 0 0 * bs.getD 1 0 else if y = "or" then 1 - (1 - bs.getD 0 0) * (1 - bs.getD 1 0) else if y = "odd" then (bs.getD 0 0 + bs.getD 1 0) % 2
 else 1 - (1 - bs.getD 0 0 * bs.getD 1 0) * (1 - (1 - bs.getD 0 0) * bs.getD 2 0)
def ans1(y:Str)(bs:Ak)(h:Int):Int :=
 if y = "twice" then h else if y = "neg" then (bs.getD 0 0 + h) % 2 else if y = "low" then bs.getD 0 0 * (1 - h) else (bs.getD 0 0 + bs.getD 1 0 + h) % 2
def Wz(is:Ak)(k i:Nat):(is.map fun x=>bt x k).getD i 0=bt (is.getD i 0) k:=by
 rw [Qar,Qar,Qaj];cases is[i]? with
 | none=>exact (YO k).symm
 | some x=>rfl
def rem_parts:∀y∈v9,y∈Wm/\Yo y=(if y = "add" \/ y = "sub" then 2 else 1):=by decide +kernel
def za:∀y∈Wm,y∉v9->(y = "not" /\ Yo y=1)\/(y = "and" /\ Yo y=2)\/(y = "or" /\ Yo y=2)\/(y = "odd" /\ Yo y=2)\/(y = "pick" /\ Yo y=3):=by decide +kernel
def ans_ok(ρ:Str->Int){y:Str}(q:y∈v9){is:Ak}(hl:is.length=Yo y)(k:Nat):ans1 y (is.map fun x=>bt x k) (hld y is k)=bt (wwv ρ (.str y) is) k:=by
 unfold v9 at q;simp only [Qan,Qbd,Qdq] at q;rcases q with rfl | rfl | rfl | rfl | rfl
 ·match is,hl with
  | [a],_=>exact (Zfy a k).symm
 ·match is,hl with
  | [a],_=>exact (Zei a k).symm
 ·match is,hl with
  | [a],_=>exact (bt_low a k).symm
 ·match is,hl with
  | [a,b],_=>exact (Zfx a b k).symm
 ·match is,hl with
  | [a,b],_=>exact (Za9 a b k).symm
def Zic(ρ:Str->Int){y:Str}(q:y∈Wm)(hr:y∉v9){is:Ak}(hl:is.length=Yo y)(k:Nat):once y (is.map fun x=>bt x k)=bt (wwv ρ (.str y) is) k:=by
 rcases za y q hr with ⟨rfl,e⟩ | ⟨rfl,e⟩ | ⟨rfl,e⟩ | ⟨rfl,e⟩ | ⟨rfl,e⟩ <;> skip
 ·match is,hl with
  | [a],_=>exact (WR k a).symm
 ·match is,hl with
  | [a,b],_=>exact (Xr k a b).symm
 ·match is,hl with
  | [a,b],_=>exact (Gg k a b).symm
 ·match is,hl with
  | [a,b],_=>exact (Wg k a b).symm
 ·match is,hl with
  | [a,b,c],_ =>
   show 1 - (1 - bt a k * bt b k) * (1 - (1 - bt a k) * bt c k)=bt (Builtin.bitOr (Builtin.bitAnd a b) (Builtin.bitAnd (Builtin.bitNot a) c)) k;rw [Gg,Xr,Xr,WR]
def zL:A0->Nat
 | []=>0
 | w::r=>zL r - npw w + 1
def Xz:A0->Prop
 | []=>True
 | w::r=>npw w<=zL r/\Xz r
def vA(ys:Ai)(B:Nat)(w:V):Prop:=(∃y,w=.str y/\y∈Wm/\y∉ys/\npw w=Yo y)\/(∃y,w=.str y/\y∈ys/\y∉v9/\npw w=0)\/∃z:Int,w=.int z/\0<=z/\z < 2 ^ B/\npw w=0
def Zfz{z:Int}{B k:Nat}(q:0<=z)(h:z < 2 ^ B)(hk:B<=k):bt z k=0:=by
 have hp:(2:Int) ^ B<=2 ^ k:=Za5 hk;unfold bt;rw [Qej q (by lia)]
 rfl
def Zka(a b h:Int):Int:=Builtin.bitOr (Builtin.bitAnd (Builtin.bitNot a) b) (Builtin.bitAnd h (Builtin.bitNot (Builtin.bitXor a b)))
def allR:Ai:=["neg","twice","low","add","sub","same","under","beneath","nought"]
def Zid:Ai:=["add","sub","same","under","beneath"]
def ktI(y:Str)(is:Ak)(h:Int):Int :=
 if y = "twice" then is.getD 0 0 else if y = "neg" \/ y = "low" \/ y = "nought" then Builtin.bitOr (is.getD 0 0) h else if y = "same" then Builtin.bitOr (Builtin.bitXor (is.getD 0 0) (is.getD 1 0)) h
 else if y = "add" then Builtin.bitOr (Builtin.bitAnd (is.getD 0 0) (is.getD 1 0)) (Builtin.bitAnd h (Builtin.bitOr (is.getD 0 0) (is.getD 1 0))) else Zka (is.getD 0 0) (is.getD 1 0) h
def okI(y:Str)(is:Ak)(h n:Int):Int :=
 if y = "add" \/ y = "sub" then Builtin.bitXor (Builtin.bitXor (is.getD 0 0) (is.getD 1 0)) h else if y = "neg" then Builtin.bitXor (is.getD 0 0) h else if y = "twice" then h else if y = "low" then Builtin.bitAnd (is.getD 0 0) (Builtin.bitNot h)
 else if y = "same" \/ y = "nought" then Builtin.bitNot n else if y = "under" then n else Zka (is.getD 1 0) (is.getD 0 0) h
def oaI(y:Str)(is:Ak):Int :=
 if y = "yes" then -1 else if y = "sign" then is.getD 0 0 else if y = "not" \/ y = "never" then Builtin.bitNot (is.getD 0 0) else if y = "and" \/ y = "both" then Builtin.bitAnd (is.getD 0 0) (is.getD 1 0) else if y = "or" \/ y = "either" then Builtin.bitOr (is.getD 0 0) (is.getD 1 0)
 else if y = "odd" then Builtin.bitXor (is.getD 0 0) (is.getD 1 0) else if y = "so" then Builtin.bitOr (Builtin.bitNot (is.getD 0 0)) (is.getD 1 0) else Builtin.bitOr (Builtin.bitAnd (is.getD 0 0) (is.getD 1 0)) (Builtin.bitAnd (Builtin.bitNot (is.getD 0 0)) (is.getD 2 0))
def Zbb (y:Str):Nat:=if y = "yes" then 0 else if y = "sign" \/ y = "not" \/ y = "never" then 1 else if y = "pick" then 3 else 2
def Zbc:∀y∈allR,¬y = "twice" -> ¬(y = "neg" \/ y = "low" \/ y = "nought")->y∈Zid:=by decide +kernel
def Zbd:Ai:=["not","and","or","odd","pick","both","either","so","never","yes","sign"]
def g8:∀y∈Zbd,¬y = "yes" -> ¬y = "sign" -> ¬(y = "not" \/ y = "never")->¬(y = "and" \/ y = "both")->¬(y = "or" \/ y = "either")->¬y = "odd" -> ¬y = "so" -> 3<=Zbb y:=by decide +kernel
def qE{m:Nat}{is:Ak}(h:is.length=m)(h2:n<=m):n<=is.length:=by rw [h];exact h2
def and_zero(x:Int):Builtin.bitAnd x 0=0:=by
 rcases zJ x with ⟨m,rfl⟩ | ⟨m,rfl⟩
 ·rw [show (0:Int)=((0:Nat):Int) from rfl,bA_pp,Nat.and_zero]
 ·rw [show (0:Int)=((0:Nat):Int) from rfl,Zia,Nat.zero_and]
  rfl
def and_1(x:Int):Builtin.bitAnd x 1=x % 2:=by
 obtain ⟨h1,h2⟩:=Zj9 x 1;rw [show (1:Int) / 2=0 from rfl,and_zero] at h1;lia
def X0(ys:Ai)(cols:Str->Int)(pl:Nat)(kp:Ak):A0->List Int × Ak
 | []=>([],[])
 | w::r =>
  let p:=X0 ys cols pl kp r
  match w with
  | .str y =>
   if y∈allR then (okI y (p.1.take (npw w)) (-(kp.getD p.2.length 0)) (ktI y (p.1.take (npw w)) (-(kp.getD p.2.length 0)))::p.1.drop (npw w),p.2++[ktI y (p.1.take (npw w)) (-(kp.getD p.2.length 0))])
   else if y∈ys then (cols y::p.1.drop (npw w),p.2)
   else (oaI y (p.1.take (npw w))::p.1.drop (npw w),p.2)
  | .int z=>(-(bt z pl)::p.1.drop (npw w),p.2)
  | _=>p
def Zie(kvs:Ay)(ys:Ai)(cols:Str->Int):Prop:=(∀y∈ys,Yf kvs (.inr y)=some (.int (cols y)))/\∀y,y∉ys->Yf kvs (.inr y)=none
def zM(ys:Ai)(w:V):Prop:=(∃y,w=.str y/\y∈allR/\y∉ys/\1<=npw w/\(y∈Zid->2<=npw w))\/(∃y,w=.str y/\y∈Zbd/\y∉allR/\y∉ys/\npw w=Zbb y)\/(∃y,w=.str y/\y∈ys/\y∉allR/\npw w=0)\/∃z:Int,w=.int z/\0<=z/\npw w=0
theorem zN{ys:Ai}{cols:Str->Int}{pl:Nat}{kp:Ak}:∀C:A0,(∀w∈C,zM ys w)->(X0 ys cols pl kp C).1.length=zL C
 | [],_=>rfl
 | w::r,hw=>by
  have G:=zN (ys:=ys) (cols:=cols) (pl:=pl) (kp:=kp) r fun w h=>hw w (Qam _ h);have q:∀x:Int,(x::(X0 ys cols pl kp r).1.drop (npw w)).length=zL r - npw w + 1:=fun x=>by grind
  rcases hw w Qaq with ⟨y,rfl,h1,_⟩ | ⟨y,rfl,h1,h2,D,_⟩ | ⟨y,rfl,h1,h2,_⟩ | ⟨z,rfl,_⟩
  ·show (if y∈allR then _ else _:Ak × Ak).1.length=_
   rw [Qa1 h1];exact q _
  ·show (if y∈allR then _ else if y∈ys then _ else _:Ak × Ak).1.length=_
   rw [Qaw h2,Qaw D];exact q _
  ·show (if y∈allR then _ else if y∈ys then _ else _:Ak × Ak).1.length=_
   rw [Qaw h2,Qa1 h1];exact q _
  ·exact q _
def ym(ys:Ai)(cols:Str->Int)(pl:Nat)(kp:Ak)(w:V)(r:A0):(X0 ys cols pl kp r).2.length<=(X0 ys cols pl kp (w::r)).2.length:=by
 cases w with
 | str y =>
  show _<=(if y∈allR then _ else if y∈ys then _ else _:Ak × Ak).2.length
  split
  ·grind
  ·split <;> exact Qag _
 | _=>exact Qag _
theorem yn(ys:Ai)(cols:Str->Int)(pl:Nat)(kp:Ak):∀(q:A0) (j:Nat),(X0 ys cols pl kp (q.drop j)).2.length<=(X0 ys cols pl kp q).2.length
 | [],j=>by rw [List.drop_nil];exact Qag _
 | w::r,0=>Qag _
 | w::r,j + 1=>Qa8 (yn ys cols pl kp r j) (ym ys cols pl kp w r)
theorem qF:∀(q:A0) (j:Nat),Xz q->Xz (q.drop j)
 | [],j,_=>by rw [List.drop_nil];exact trivial
 | w::r,0,h=>h
 | w::r,j + 1,h=>qF r j h.2
theorem Zbe:∀q:A0,zL q<=q.length
 | []=>Qag _
 | w::r=>by
  have:=Zbe r;show zL r - npw w + 1<=r.length + 1;lia
def Zbf(z:Int)(ys:Ai):inV (.int z) (ys.map V.str)=false:=by
 cases q:inV (.int z) (ys.map V.str) with
 | false=>rfl
 | true =>
  obtain ⟨x,hx,e⟩:=Qeh.mp q;obtain ⟨y,_,rfl⟩:=Qa2.mp hx;cases e
theorem wu(ys:Ai)(cols:Str->Int)(pl:Nat)(kp:Ak):∀q:A0,(X0 ys cols pl kp q).2.length<=q.length
 | []=>Qag _
 | w::r=>by
  have C:=wu ys cols pl kp r;cases w with
  | str y =>
   show (if y∈allR then _ else if y∈ys then _ else _:Ak × Ak).2.length<=r.length + 1
   split
   ·grind
   ·split <;> exact Nat.le_succ_of_le C
  | _=>exact Nat.le_succ_of_le C
def vC{x:Int}(h:x=0\/x=1)(l:Nat):bt (-x) l=x:=by
 rcases h with rfl | rfl
 ·exact YO l
 ·exact Za6 l
def vD:∀y∈Wm,(y∈allR↔y∈v9):=by decide +kernel
def hor(ms:Ak):Int:=ms.foldl (fun a b=>a * 2 + b) 0
def zP(ms:Ak)(b:Int):hor (ms++[b])=hor ms * 2 + b:=by
 unfold hor;rw [Qc2]
 rfl
def Zej{ms:Ak}{b:Int}(h:ms[i]?=some b):hor (ms.take (i + 1))=hor (ms.take i) * 2 + b:=by
 rw [Qgy,h];exact zP _ b
def sm(b:Nat->Int):Nat->Int
 | 0=>0
 | n + 1=>sm b n + b n * 2 ^ n
theorem GS{b c:Nat->Int}:∀{n:Nat},(∀i,i < n->b i=c i)->sm b n=sm c n
 | 0,_=>rfl
 | n + 1,h=>by
  show sm b n + b n * 2 ^ n=sm c n + c n * 2 ^ n;rw [GS (n:=n) fun i hi=>h i (Qcq hi),h n (Qco n)]
theorem GU{b:Nat->Int}(hb:∀i,b i=0\/b i=1):∀n,0<=sm b n/\sm b n < 2 ^ n
 | 0=>⟨Int.le_refl _,(show (0:Int) < 2 ^ 0 by decide)⟩
 | n + 1=>by
  have q:=GU hb n;have e:sm b (n + 1)=sm b n + b n * 2 ^ n:=rfl;rw [e,pow_succ'];rcases hb n with z | z <;> rw [z] <;> constructor <;> lia
theorem Zbg{b:Nat->Int}(hb:∀i,b i=0\/b i=1)(p:Nat):∀n,p < n->sm b n / 2 ^ p % 2=b p
 | 0,h=>absurd h (Qd0 _)
 | n + 1,h=>by
  have e:sm b (n + 1)=sm b n + b n * 2 ^ n:=rfl;have hp:=Xf p;rw [e]
  by_cases q:p < n
  ·obtain ⟨k,rfl⟩:∃k,n=p + (k + 1):=⟨n - p - 1,by lia⟩
   have e2:b (p + (k + 1)) * 2 ^ (p + (k + 1))=2 ^ p * (2 ^ k * b (p + (k + 1)) * 2):=by
    grind
   rw [e2,Qfq _ _ (by lia)];have D:=Zbg hb p (p + (k + 1)) q;lia
  ·have e3:p=n:=by lia
   subst e3;obtain ⟨C,h1⟩:=GU hb p;rw [Qe5,Qfq _ _ (by lia),Qej C h1];rcases hb p with z | z <;> rw [z] <;> rfl
theorem Zek(l:Ak):∀a:Int,l.foldl (fun a b=>a * 2 + b) a=a * 2 ^ l.length + hor l:=by
 induction l with
 | nil=>intro a;show a=a * 2 ^ 0 + 0;lia
 | cons b l q =>
  intro a;show l.foldl (fun a b=>a * 2 + b) (a * 2 + b)=a * 2 ^ (l.length + 1) + l.foldl (fun a b=>a * 2 + b) (0 * 2 + b);rw [q,q (0 * 2 + b),pow_succ',Qhn,Qe7,Int.add_mul];have:a * 2 * 2 ^ l.length=a * (2 ^ l.length * 2):=by rw [Int.mul_assoc,Qe5 2]
  lia
theorem Zf0(b:Nat->Int):∀n,hor ((List.range n).map b).reverse=sm b n
 | 0=>rfl
 | n + 1=>by
  rw [Qdy,Qa6,List.reverse_append];show ((List.range n).map b).reverse.foldl (fun a b=>a * 2 + b) (0 * 2 + b n)=sm b n + b n * 2 ^ n;rw [Zek,Zf0 b n,Qe1,Qac,Qay,Qhn,Qe7];lia
def Zel(r:Int)(w:Nat):r / 2 ^ w % 2 * 2 ^ w + r % 2 ^ w=r % 2 ^ (w + 1):=by
 rw [pow_succ'];have hp:=Xf w;generalize (2:Int) ^ w=p at *;have C:0<=r % p:=Qb1 _ (by lia);have h1:r % p < p:=Qbp _ hp;have e1:r=p * (r / p) + r % p:=(Int.mul_ediv_add_emod r p).symm;generalize r / p=q at *;generalize r % p=t at *;have e2:q=2 * (q / 2) + q % 2:=by lia
 have h2:0<=q % 2:=by lia
 have D:q % 2<=1:=by lia
 generalize q / 2=u at *;generalize q % 2=b at *;subst e2;have hb:b=0\/b=1:=by lia
 have e3:r=b * p + t + p * 2 * u:=by
  grind
 rw [e3,Qex];rcases hb with rfl | rfl
 ·rw [Qcr (by lia) (by lia)]
 ·rw [Qcr (by lia) (by lia)]
theorem Zbh(r:Int):∀w,sm (fun k=>r / 2 ^ k % 2) w=r % 2 ^ w
 | 0=>by
  rw [Qd3,Qe6]
  rfl
 | w + 1=>by
  show sm (fun k=>r / 2 ^ k % 2) w + r / 2 ^ w % 2 * 2 ^ w=_;rw [Zbh r w];have:=Zel r w;lia
def Zif{x:Int}(h:0<=x):Builtin.bitAnd x 1=x % 2:=by
 rw [PyProof.Rows.bitAnd_pp h (by decide)];show ((x.toNat &&& 1:Nat):Int)=x % 2;rw [Nat.and_one_is_mod];lia
def div_nn{r:Int}(h:0<=r)(k:Nat):0<=r / 2 ^ k:=Int.ediv_nonneg h (Int.le_of_lt (Xf k))
open Classical in
def keysOf(ys:Ai):List Key:=ys.foldl (fun ks y=>if (Sum.inr y:Key)∈ks then ks else ks++[Sum.inr y]) []
open Classical in
theorem Je(ys:Ai)(y:Str):keysOf (ys++[y])=if (Sum.inr y:Key)∈keysOf ys then keysOf ys else keysOf ys++[Sum.inr y]:=by
 unfold keysOf;rw [Qc2]
 rfl
theorem snoc_ind{P:List m->Prop}(C:P [])(hs:∀l a,P l->P (l++[a])):∀l,P l:=by
 intro l;rw [<-List.reverse_reverse l]
 induction l.reverse with
 | nil=>exact C
 | cons a r q =>
  rw [Qdt];exact hs _ _ q
def Zig{kvs:Ay}{k:Key}:(kvs.any fun q=>decide (q.1=k))=true↔k∈kvs.map (·.1):=by grind
def Zem{kvs:Ay}{ys:Ai}(h:kvs.map (·.1)=keysOf ys)(y:Str)(v:V):(putK kvs (.inr y) v).map (·.1)=keysOf (ys++[y]):=by
 rw [Je,<-h];unfold putK
 by_cases hm:(Sum.inr y:Key)∈kvs.map (·.1)
 ·rw [Qa1 (Zig.mpr hm),Qa1 hm,Qb4]
  apply Qcl;intro p _;show (if p.1=Sum.inr y then (p.1,v) else p).1=p.1
  split <;> rfl
 ·grind
structure Tab(kvs:Ay)(ys:Ai)(f:Str->Int):Prop where
 keys:kvs.map (·.1)=keysOf ys
 val:∀y∈ys,Yf kvs (.inr y)=some (.int (f y))
 all:∀p∈kvs,∃y∈ys,p=(.inr y,.int (f y))
def Zih{kvs:Ay}{k:Key}{v:V}{P:Key × V->Prop}(h:∀p∈kvs,p.1≠k->P p)(hn:P (k,v)):∀p∈putK kvs k v,P p:=by
 intro p hp;unfold putK at hp
 split at hp
 ·grind
 ·grind
def Tab.put{kvs:Ay}{ys:Ai}{f:Str->Int}(T:Tab kvs ys f)(y:Str)(z:Int):Tab (putK kvs (.inr y) (.int z)) (ys++[y]) (fun x=>if x=y then z else f x):=by
 refine ⟨Zem T.keys y _,fun x hx=>?_,Zih (fun p hp q=>?_) ⟨y,Qa3 _ (Qal.mpr rfl),by rw [Qa1 rfl]⟩⟩
 ·rw [zt]
  by_cases e:x=y
  ·rw [Qa1 (by rw [e]),Qa1 e]
  ·have e2:¬(Sum.inr x:Key)=Sum.inr y:=fun z=>e (Sum.inr.inj z)
   rw [Qaw e2,Qaw e];rcases Qa4.mp hx with h | h
   ·exact T.val x h
   ·exact absurd (Qal.mp h) e
 ·obtain ⟨x,hx,rfl⟩:=T.all p hp
  have e:¬x=y:=fun z=>q (by rw [z]);exact ⟨x,Qb7 _ hx,by rw [Qaw e]⟩
theorem Tab.same{kvs:Ay}{ys:Ai}{f g:Str->Int}(T:Tab kvs ys f)(h:∀y∈ys,f y=g y):Tab kvs ys g :=
 ⟨T.keys,fun y q=>by rw [<-h y q];exact T.val y q,fun p hp=>let ⟨y,q,e⟩:=T.all p hp;⟨y,q,by rw [<-h y q];exact e⟩⟩
def Tab.nil{f:Str->Int}:Tab [] [] f:=⟨rfl,(fun _ h=>nomatch h),(fun _ h=>nomatch h)⟩
def g9:∀(ys:Ai),(keysOf ys).length<=ys.length:=by
 refine snoc_ind (Qag _) fun ys y q=>?_
 ·rw [Je,Qae]
  split
  ·lia
  ·grind
def Tab.few{a:Ay}{ys:Ai}{f:Str->Int}(T:Tab a ys f):a.length<=ys.length:=by
 have h1:(a.map (·.1)).length=(keysOf ys).length:=by rw [T.keys]
 rw [Qac] at h1;have:=g9 ys;lia
def qG{ys:Ai}{x:V}(h:(ys.map V.str)[i]?=some x):∃y:Str,x=V.str y/\ys[i]?=some y:=by grind
def zQ :PySem.W.kitOne K (.type "dict") (.type "dict")=some true:=by rfl
structure Zf1(H:Hp)(p:Au)(S L:Nat)(f:Nat->Nat->V):Prop where
 ex:∃as:A0,H p=some (.tup as)/\∀s,s < S->∃(a:Au) (xs:A0),as[s]?=some (.ref a)/\H a=some (.tup xs)/\∀l,l < L->xs[l]?=some (f s l)
structure Zf2(H:Hp)(m:Au)(S L:Nat)(nv:V)(b:Nat)(nx:Nat->Nat->Nat)(ot:Nat->Nat->V):Prop where
 ex:∃ps po,H m=some (.tup [nv,.int (b:Int),.ref ps,.ref po])/\Zf1 H ps S L (fun s l=>.int (nx s l:Int))/\Zf1 H po S L ot
 b:b < S
 nx:∀s l,s < S->l < L->nx s l < S
abbrev YL(l:Nat):V:=.int (l:Int)
def wk(nx:Nat->Nat->Nat)(ot:Nat->Nat->V):Nat->List Nat->List V
 | _,[]=>[]
 | s,l::r=>ot s l::wk nx ot (nx s l) r
def Zc9(nx:Nat->Nat->Nat):Nat->List Nat->Nat
 | s,[]=>s
 | s,l::r=>Zc9 nx (nx s l) r
theorem Zbi{nx:Nat->Nat->Nat}{ot:Nat->Nat->V}:∀(xs ys:Aj) (s:Nat),wk nx ot s (xs++ys)=wk nx ot s xs++wk nx ot (Zc9 nx s xs) ys
 | [],_,_=>rfl
 | l::r,ys,s=>by
  show ot s l::wk nx ot (nx s l) (r++ys)=ot s l::(wk nx ot (nx s l) r++wk nx ot (Zc9 nx (nx s l) r) ys);rw [Zbi r ys]
theorem wx{nx:Nat->Nat->Nat}:∀(xs ys:Aj) (s:Nat),Zc9 nx s (xs++ys)=Zc9 nx (Zc9 nx s xs) ys
 | [],_,_=>rfl
 | l::r,ys,s=>wx r ys (nx s l)
theorem Zbj{nx:Nat->Nat->Nat}{S L:Nat}(hn:∀s l,s < S->l < L->nx s l < S):∀(xs:Aj) (s:Nat),s < S->(∀l∈xs,l < L)->Zc9 nx s xs < S
 | [],_,h,_=>h
 | l::r,s,h,hl=>Zbj hn r (nx s l) (hn s l h (hl l Qaq)) fun x hx=>hl x (Qam _ hx)
theorem Zf3{nx:Nat->Nat->Nat}{ot:Nat->Nat->V}:∀(xs:Aj) (s:Nat),(wk nx ot s xs).length=xs.length
 | [],_=>rfl
 | l::r,s=>by
  show (wk nx ot (nx s l) r).length + 1=r.length + 1;rw [Zf3 r]
def Zbk{ls:Aj}{x:V}(h:(ls.map YL)[i]?=some x):∃l:Nat,x=V.int (l:Int)/\ls[i]?=some l:=by grind
def Xs(q:Bool)(v:V):Prop:=(q=true/\∃x,v=.bl x)\/(q=false/\∃x,v=.int x)
def qH(H:Hp)(p:Au)(rs:Ax):Prop:=∃as:A0,H p=some (.tup as)/\as.length=rs.length/\∀(i:Nat) (r:A0),rs[i]?=some r->∃a,as[i]?=some (V.ref a)/\H a=some (.tup r)
def qH.same{H':Hp}{p:Au}{rs:Ax}(R:qH H p rs)(e:ZA H H'):qH H' p rs:=by
 obtain ⟨as,h1,h2,D⟩:=R;refine ⟨as,e _ _ h1,h2,fun i r hi=>?_⟩;obtain ⟨a,C,q⟩:=D i r hi;exact ⟨a,C,e _ _ q⟩
def zR(r:Aj):A0:=r.map YL
structure M4(H:Hp)(m:Au)(nm:Ai)(b:Nat)(nx:Ad)(ot:Ax):Prop where
 ex:∃pn ps po,H m=some (.tup [.ref pn,.int (b:Int),.ref ps,.ref po])/\H pn=some (.tup (nm.map V.str))/\qH H ps (nx.map zR)/\qH H po ot
def M4.same{H H':Hp}{m:Au}{nm:Ai}{b:Nat}{nx:Ad}{ot:Ax}(M:M4 H m nm b nx ot)(e:ZA H H'):M4 H' m nm b nx ot:=by
 obtain ⟨pn,ps,C,h1,h2,D,q⟩:=M.ex;exact ⟨⟨pn,ps,C,e _ _ h1,e _ _ h2,D.same e,q.same e⟩⟩
def yesT{A B:Hp->Prop}(h:A H):uR f H fun b H2=>if b=true then A H2 else B H2:=by
 show if true=true then A H else B H;exact Wk h
def zip_at{β:Type}{xs:List m}{ys:List β}{x:m}{y:β}(hx:xs[i]?=some x)(q:ys[i]?=some y):(xs.zip ys)[i]?=some (x,y):=by grind
def p8(h:n<=3):2 ^ n<=8:=Qc8 (by decide) h
def Prs(H:Hp)(ps:List (Int × Int))(zs:A0):Prop:=zs.length=ps.length/\∀(i:Nat) (p:Int × Int),ps[i]?=some p->∃a,zs[i]?=some (V.ref a)/\H a=some (.tup [.int p.1,.int p.2])
def gX(C D:Aj):List (Int × Int):=(C.zip D).map fun q=>((q.1:Int),(q.2:Int))
def Zen(q C:Aj):(gX q C).length=((zR q).zip (zR C)).length:=by
 unfold gX zR;rw [Qac,Qcd,Qcd,Qac,Qac]
theorem vE{C:Aj}(h:Xp H ((zR S).zip (zR C)) v):Prs H (gX S C) v:=by
 have key:∀{ps:List (V × V)} {v:A0},Xp H ps v->∀(i:Nat) (p:V × V),ps[i]?=some p->∃a,v[i]?=some (V.ref a)/\H a=some (.tup [p.1,p.2]):=by
  intro ps v t
  induction t with
  | nil=>intro i p hp;simp at hp
  | @cons a b as bs e t J =>
   intro i p hp;cases i with
   | zero =>
    simp only [List.getElem?_cons_zero,Option.some.injEq] at hp ⊢;subst hp;exact e
   | succ j =>
    exact J j p hp
 refine ⟨by rw [Zen,Xp.len h],fun i p hp=>?_⟩;unfold gX at hp;rw [Qaj] at hp;obtain ⟨q,I,rfl⟩:=Qb2.mp hp;refine key h i (YL q.1,YL q.2) ?_;obtain ⟨G,D⟩:=Qdh.mp I;unfold zR;exact Qdh.mpr ⟨by rw [Qaj,G];rfl,by rw [Qaj,D];rfl⟩
def wy{rs:List (List m)}(h:i < rs.length):rs[i]?=some (rs.getD i []):=by grind
def W2{p:Au}{rs:Ax}(R:qH H p rs)(h:i < rs.length):∃as a,H p=some (HO.tup as)/\atI as (i:Int)=some (V.ref a)/\H a=some (.tup (rs.getD i [])):=by
 obtain ⟨as,h1,h2,D⟩:=R;obtain ⟨a,C,q⟩:=D i _ (wy h);exact ⟨as,a,h1,Yh C,q⟩
def JE(nx:Ad)(i:Nat):(nx.map zR).getD i []=zR (nx.getD i []):=by
 rw [Qar,Qar,Qaj];cases nx[i]? <;> rfl
def getD_mem{rs:List (List m)}(h:i < rs.length):rs.getD i []∈rs:=by grind
def GV{f:Nat->m}(h:i < n):((List.range n).map f)[i]?=some (f i):=by grind
def W3(H:Hp)(zs:A0)(rs:Ax):Prop:=zs.length=rs.length/\∀(i:Nat) (r:A0),rs[i]?=some r->∃a,zs[i]?=some (V.ref a)/\H a=some (.tup r)
def W3.snoc{rs:Ax}{r:A0}(z:W3 H v rs)(h:H a=some (.tup r)):W3 H (v++[.ref a]) (rs++[r]):=by
 refine ⟨by rw [Qae,Qae,z.1];rfl,fun i q C=>?_⟩
 by_cases e:i < rs.length
 ·rw [Qbg e] at C
  rw [Qbg (by rw [z.1];exact e)];exact z.2 i q C
 ·rw [Qa7 (by lia)] at C
  have D:i - rs.length=0:=by
   grind
  rw [D] at C;cases C;refine ⟨a,?_,h⟩;rw [Qa7 (by rw [z.1];lia),z.1,D]
  rfl
def W3.nil{H:Hp}:W3 H [] []:=⟨rfl,fun i r hr=>by cases hr⟩
def nk(l:Ak):Ay:=Wl (l.map (Sum.inl:Int->Key))
def Zbl{l:Ak}(h:l.Nodup):(l.map (Sum.inl:Int->Key)).Nodup:=by grind
def vF{l:Ak}{s:Int}:(Sum.inl s:Key)∈l.map Sum.inl↔s∈l:=by grind
def Zbm{l:Ak}{s:Int}(h:s∈l)(hn:l.Nodup):Yf (nk l) (.inl s)=some (.int (l.idxOf s:Int)):=by
 have:=qt (l.map (Sum.inl:Int->Key)) (.inl s) (vF.mpr h) (Zbl hn);have e:=idx_map (β:=Key) Sum.inl (fun _ _=>Sum.inl.inj) s l;rw [e] at this;exact this
def Zii{l:Ak}{s:Int}(h:s∉l):Yf (nk l) (.inl s)=none:=xT _ _ fun z=>h (vF.mp z)
def nk_len(l:Ak):(nk l).length=l.length:=by
 unfold nk;rw [ya,Qac]
def nk_put{l:Ak}{s:Int}(h:s∉l):putK (nk l) (.inl s) (.int (l.length:Int))=nk (l++[s]):=by
 unfold nk;rw [Qa6];show _=Wl (l.map Sum.inl++[Sum.inl s]);rw [xS,Qac];unfold putK;rw [Qaw fun z=>?_];rw [Qeh] at z;obtain ⟨p,hp,e⟩:=z;have:p.1∈(Wl (l.map (Sum.inl:Int->Key))).map (·.1):=Qcc hp;rw [JY,Qaz e] at this;exact h (vF.mp this)
def Zkb(nx:Ad)(l:Aj)(i:Nat):Aj:=(nx.getD (l.getD i 0) []).foldl Yt l
def Zkc(nx:Ad)(b:Nat):Nat->List Nat
 | 0=>[b]
 | i + 1=>Zkb nx (Zkc nx b i) i
theorem zb(r:Aj):∀l:Aj,l.Nodup->(r.foldl Yt l).Nodup:=by
 induction r with
 | nil=>exact fun l h=>h
 | cons k r q=>exact fun l h=>q _ (WA h k)
theorem GW(r:Aj){x:Nat}:∀l:Aj,x∈r.foldl Yt l↔x∈l\/x∈r:=by
 induction r with
 | nil=>intro l;simp
 | cons k r q =>
  intro l;rw [Qdx,q,GR,Qan,or_assoc]
def map_range{β:Type}(l:List m)(i:Nat)(hl:l.length=i)(f:m->β)(g:Nat->β)(h:∀j a,l[j]?=some a->g j=f a):(List.range i).map g=l.map f:=by
 refine Qdw fun j=>?_
 by_cases q:j < i
 ·grind
 ·grind
theorem zc{H':Hp}{rs:Ax}(h:∀b xs,H b=some (.tup xs)->H' b=some (.tup xs))(z:W3 H v rs):W3 H' v rs:=⟨z.1,fun i r hr=>by
 obtain ⟨a,h1,h2⟩:=z.2 i r hr;exact ⟨a,h1,h _ _ h2⟩⟩
inductive SK(κ:Type)[DecidableEq κ] where
 | int (f:κ->Int) (inj:∀a b,f a=f b->a=b)
 | key (kn:KN κ)
def YV(h:n<=10000000):n < sizeLine:=Qfa h (by decide)
section
variable {κ:Type}[DecidableEq κ]
def SK.at_:SK κ->Hp->κ->V->Prop
 | .int f _,_,k,v=>v=.int (f k)
 | .key kn,H,k,v=>∃a,v=.ref a/\kn.at_ H k a
def SK.dic:SK κ->Hp->Addr->List κ->Prop
 | .int f _,H,d,l=>H d=some (.dK (nk (l.map f)))
 | .key kn,H,d,l=>yK kn H d (Wl l)
def SK.keep{sk:SK κ}{H H':Hp}{k:κ}{v:V}(h:sk.at_ H k v)(e:∀b xs,H b=some (.tup xs)->H' b=some (.tup xs)):sk.at_ H' k v:=by
 cases sk with
 | int f _=>exact h
 | key kn =>
  obtain ⟨a,rfl,ha⟩:=h;exact ⟨a,rfl,kn.keep _ _ _ _ e ha⟩
def Zbn{kn:KN κ}{d:Au}{kvs:List (κ × V)}(n:yK kn H d kvs):∃o,H d=some o/\(∀xs,o≠.tup xs)/\∀xs,o≠.lst xs:=by
 rcases n.2.2 with ⟨_,e⟩ | ⟨ys,e,_⟩
 ·grind
 ·grind
def SK.ne{sk:SK κ}{d:Au}{l:List κ}(h:sk.dic H d l):∃o,H d=some o/\(∀xs,o≠.tup xs)/\∀xs,o≠.lst xs:=by
 cases sk with
 | int f _=>exact ⟨_,h,(fun _ z=>nomatch z),fun _ z=>nomatch z⟩
 | key kn=>exact Zbn h
def Zeo{kn:KN κ}{H':Hp}{d:Au}{kvs:List (κ × V)}(n:yK kn H d kvs)(hd:∀o,H d=some o->H' d=some o)(e:∀b xs,H b=some (.tup xs)->H' b=some (.tup xs)):yK kn H' d kvs:=by
 obtain ⟨G,D,C⟩:=n;refine ⟨G,D,?_⟩;rcases C with ⟨e1,e2⟩ | ⟨ys,e1,e2⟩
 ·exact .inl ⟨e1,hd _ e2⟩
 ·exact .inr ⟨ys,hd _ e1,Paired.mapP e2 fun p q h=>⟨h.1,kn.keep _ _ _ _ e h.2.1,h.2.2⟩⟩
def SK.stay{sk:SK κ}{H':Hp}{d:Au}{l:List κ}(h:sk.dic H d l)(hd:∀o,H d=some o->H' d=some o)(e:∀b xs,H b=some (.tup xs)->H' b=some (.tup xs)):sk.dic H' d l:=by
 cases sk with
 | int f _=>exact hd _ h
 | key kn=>exact Zeo h hd e
def SK.off{sk:SK κ}{d f:Au}{l:List κ}{xs:A0}{o:HO}(h:sk.dic H d l)(e:H f=some (.lst xs)):sk.dic (upd H f o) d l:=by
 obtain ⟨u,hu,_,hl⟩:=SK.ne h;have C:d≠f:=fun z=>by
  grind
 exact SK.stay h (fun o e=>by rw [Zh C];exact e) fun b ys q=>by rw [Zh (Xa q e fun z=>nomatch z)];exact q
def StA(sk:SK κ)(H:Hp)(l:List κ)(vs:A0):Prop:=vs.length=l.length/\∀(i:Nat) (k:κ),l[i]?=some k->∃v,vs[i]?=some v/\sk.at_ H k v
theorem StA.keep{sk:SK κ}{H H':Hp}{l:List κ}{vs:A0}(h:StA sk H l vs)(e:∀b xs,H b=some (.tup xs)->H' b=some (.tup xs)):StA sk H' l vs:=⟨h.1,fun i k hk=>by
 obtain ⟨v,h1,h2⟩:=h.2 i k hk;exact ⟨v,h1,SK.keep h2 e⟩⟩
def StA.snoc{sk:SK κ}{l:List κ}{vs:A0}{k:κ}{v:V}(h:StA sk H l vs)(hv:sk.at_ H k v):StA sk H (l++[k]) (vs++[v]):=by
 refine ⟨by rw [Qae,Qae,h.1];rfl,fun i q C=>?_⟩
 by_cases e:i < l.length
 ·rw [Qbg e] at C
  rw [Qbg (by rw [h.1];exact e)];exact h.2 i q C
 ·rw [Qa7 (by lia)] at C
  have D:i - l.length=0:=by
   grind
  rw [D] at C;cases C;refine ⟨v,?_,hv⟩;rw [Qa7 (by rw [h.1];lia),h.1,D]
  rfl
def StA.one{sk:SK κ}{k:κ}{v:V}(hv:sk.at_ H k v):StA sk H [k] [v]:=StA.snoc (l:=[]) (vs:=[]) ⟨rfl,fun i q C=>by cases C⟩ hv
def bfS(nx:κ->List κ)(l:List κ)(i:Nat):List κ:=match l[i]? with
 | some s=>(nx s).foldl Yt l
 | none=>l
def bfN(nx:κ->List κ)(b:κ):Nat->List κ
 | 0=>[b]
 | i + 1=>bfS nx (bfN nx b i) i
structure BfE(nx:κ->List κ)(b:κ)(l:List κ):Prop where
 e:l=bfN nx b l.length
 go:∀i,i < l.length->i < (bfN nx b i).length
theorem qI(r:List κ):∀l:List κ,l.Nodup->(r.foldl Yt l).Nodup:=by
 induction r with
 | nil=>exact fun l h=>h
 | cons k r q=>exact fun l h=>q _ (WA h k)
theorem qJ(r:List κ){x:κ}:∀l:List κ,x∈r.foldl Yt l↔x∈l\/x∈r:=by
 induction r with
 | nil=>intro l;simp
 | cons k r q =>
  intro l;rw [Qdx,q,GR,Qan,or_assoc]
theorem Zbo(r:List κ):∀l:List κ,(r.foldl Yt l).length<=l.length + r.length:=by
 induction r with
 | nil=>exact fun l=>Qag _
 | cons k r q =>
  intro l;have h1:=q (Yt l k);have h2:=Zd5 l k;rw [Qdx,Qce];lia
variable {nx:κ->List κ}{b:κ}
theorem JF:∀i,(bfN nx b i).Nodup
 | 0=>Qci.mpr ⟨Qbd,Qdg⟩
 | i + 1=>by
  show (bfS nx (bfN nx b i) i).Nodup;unfold bfS
  split
  ·exact qI _ _ (JF i)
  ·exact JF i
theorem gB{U:List κ}(hb:b∈U)(hr:∀s∈U,∀x∈nx s,x∈U):∀i,∀s∈bfN nx b i,s∈U
 | 0,s,h=>by rw [Qal.mp h];exact hb
 | i + 1,s,h=>by
  have h:s∈bfS nx (bfN nx b i) i:=h;unfold bfS at h
  split at h
  ·rename_i q C
   rcases (qJ _ _).mp h with z | z
   ·exact gB hb hr i s z
   ·exact hr q (gB hb hr i q (Qai C)) s z
  ·exact gB hb hr i s h
def w6{U:List κ}(hb:b∈U)(hr:∀s∈U,∀x∈nx s,x∈U)(i:Nat):(bfN nx b i).length<=U.length:=Xg (JF i) (gB hb hr i)
def zS{s:κ}(h:(bfN nx b i)[i]?=some s):bfN nx b (i + 1)=(nx s).foldl Yt (bfN nx b i):=by
 show bfS nx (bfN nx b i) i=_;unfold bfS;rw [h]
theorem zd(j:Nat):∀d,∃r,bfN nx b (j + d)=bfN nx b j++r
 | 0=>⟨[],(Qbq _).symm⟩
 | d + 1=>by
  obtain ⟨r,e⟩:=zd j d;show ∃r,bfS nx (bfN nx b (j + d)) (j + d)=_;unfold bfS
  split
  ·obtain ⟨q,e2⟩:=Jz (nx _) (bfN nx b (j + d))
   exact ⟨r++q,by rw [e2,e,Qca]⟩
  ·exact ⟨r,e⟩
def Zkd{j:Nat}{s:κ}(q:j<=i)(hs:(bfN nx b j)[j]?=some s):(bfN nx b i)[j]?=some s:=by
 obtain ⟨r,e⟩:=zd (nx:=nx) (b:=b) j (i - j);rw [show j + (i - j)=i by lia] at e;rw [e,Qbg (Qah.mp hs).1];exact hs
def Zks(nx:κ->List κ)(b:κ)(j:Nat):Aj:=match (bfN nx b j)[j]? with
 | some s=>(nx s).map fun x=>(bfN nx b (j + 1)).idxOf x
 | none=>[]
def xk(nx:κ->List κ)(b:κ)(i:Nat):Ax:=(List.range i).map fun j=>zR (Zks nx b j)
def Zkt(nx:κ->List κ)(ot:κ->List V)(b:κ)(j:Nat):A0:=match (bfN nx b j)[j]? with
 | some s=>ot s
 | none=>[]
def zT(nx:κ->List κ)(ot:κ->List V)(b:κ)(i:Nat):Ax:=(List.range i).map (Zkt nx ot b)
def gC{s:κ}(h:(bfN nx b i)[i]?=some s):xk nx b (i + 1)=xk nx b i++[((nx s).map fun x=>YL ((bfN nx b (i + 1)).idxOf x))]:=by
 unfold xk;rw [Qdy,Qa6];show _++[zR (Zks nx b i)]=_;unfold Zks zR;rw [h];rw [Qb4]
 rfl
def gD{ot:κ->List V}{s:κ}(h:(bfN nx b i)[i]?=some s):zT nx ot b (i + 1)=zT nx ot b i++[ot s]:=by
 unfold zT;rw [Qdy,Qa6];show _++[Zkt nx ot b i]=_;unfold Zkt;rw [h]
def rnG(nx:κ->List κ)(l:List κ):Ad:=l.map fun s=>(nx s).map fun x=>l.idxOf x
def Xt(nx:κ->List κ)(l:List κ):(rnG nx l).length=l.length:=Qac _
def vG{j:Nat}{a:κ}(hl:(bfN nx b i).length=i)(hg:∀j,j < i->j < (bfN nx b j).length)(ha:(bfN nx b i)[j]?=some a):j < i/\(bfN nx b j)[j]?=some a:=by
 have q:j < i:=by grind
 refine ⟨q,?_⟩;have e:=Qaf (hg j q);rw [Zkd (Qav q) e] at ha;rw [e];exact ha
def Zbp(hl:(bfN nx b i).length=i)(hg:∀j,j < i->j < (bfN nx b j).length):xk nx b i=(rnG nx (bfN nx b i)).map zR:=by
 unfold xk rnG;rw [Qb4];refine map_range _ i hl _ _ fun j a ha=>?_;obtain ⟨q,e⟩:=vG hl hg ha;unfold Zks;rw [e];congr 1;refine Qcl fun x hx=>?_;obtain ⟨r,e2⟩:=zd (nx:=nx) (b:=b) (j + 1) (i - (j + 1));rw [show j + 1 + (i - (j + 1))=i by lia] at e2;rw [e2,Zar];rw [zS e];exact (qJ _ _).mpr (.inr hx)
def Zbq{ot:κ->List V}(hl:(bfN nx b i).length=i)(hg:∀j,j < i->j < (bfN nx b j).length):zT nx ot b i=(bfN nx b i).map ot:=by
 refine map_range _ i hl _ _ fun j a ha=>?_;obtain ⟨q,e⟩:=vG hl hg ha;unfold Zkt;rw [e]
end
def SqF(H1 H2:Hp)(r:Au)(q:A0):Prop:=H2 r=some (.tup q)\/(H2 r=some (.lst q)/\H1 r=none)
def Zep{xs:A0}{is:Aj}{Q:VK}(C:∀R:VK,R (.ref a) H->d f H R)(hx:H a=some (.tup xs)\/H a=some (.lst xs))(q:Nat->List V->Hp->Prop)(G:q 0 [] H)(hl:∀i zs H,q i zs H->zs.length<=sizeLine)(D:∀i zs H',q i zs H'->∀o,H a=some o->H' a=some o)
  (hs:∀i x zs H (R:A0->Hp->Prop),(∀zs H,q (i + 1) zs H->R zs H)->xs[i]?=some x->q i zs H->E (Ja is f (some x)) H fun b H2=>if b=true then O (Ja is f (some x)) H2 fun y I=>R (zs++[y]) I else R zs H2)
  (hd:∀zs H,q xs.length zs H->∀p,H p=none->Q (.ref p) (upd H p (.lst zs))):uk K d f H (Jq is E O f Q)\/iTup K d f H (Jq is E O f Q):=by
 rcases hx with hx | hx
 ·exact .inr (C _ ⟨a,rfl,⟨_,SqT.of hx⟩,Jr (K:=K) (a:=a) (xs:=xs) q G hl (fun i zs H' h=>SqT.of (D i zs H' h _ hx)) hs hd⟩)
 ·exact .inl (C _ ⟨a,rfl,⟨_,SqL.of hx⟩,qi (K:=K) (a:=a) (xs:=xs) q G hl (fun i zs H' h=>SqL.of (D i zs H' h _ hx)) hs hd⟩)
def JG:A0->List Int
 | []=>[]
 | .int z::r=>((Builtin.Int.intBits z:Nat):Int)::JG r
 | _::r=>JG r
theorem yo:∀q:A0,(JG q).length<=q.length
 | []=>Qag _
 | w::r=>by
  have:=yo r;cases w <;> simp only [JG,Qce] <;> lia
theorem qK:∀(a b:A0),JG (a++b)=JG a++JG b
 | [],_=>rfl
 | w::r,b=>by
  have:=qK r b;cases w <;> simp only [JG,Qft,this]
theorem qL{z:Int}:∀{q:A0},V.int z∈q->((Builtin.Int.intBits z:Nat):Int)∈JG q
 | w::r,h=>by
  rcases Qan.mp h with rfl | h
  ·exact Qaq
  ·have:=qL h
   cases w <;> skip <;> first | exact this | exact Qam _ this
theorem w9{m:Int}:∀{q:A0},m∈JG q->∃z:Int,V.int z∈q/\m=((Builtin.Int.intBits z:Nat):Int)
 | w::r,h=>by
  have C:m∈JG r->∃z:Int,V.int z∈w::r/\m=((Builtin.Int.intBits z:Nat):Int):=fun h=>let ⟨z,h1,h2⟩:=w9 h;⟨z,Qam _ h1,h2⟩;cases w with
  | int z =>
   rcases Qan.mp h with rfl | h
   ·exact ⟨z,Qaq,rfl⟩
   ·exact C h
  | _=>exact C h
def Zij{z:Int}(h:0<=z):z < 2 ^ Builtin.Int.intBits z:=by
 unfold Builtin.Int.intBits
 split
 ·grind
 ·obtain ⟨n,rfl⟩:=Int.eq_ofNat_of_zero_le h
  have:=Nat.lt_log2_self (n:=n)
  exact_mod_cast this
theorem bits_le{z:Int}{B:Nat}(h:0<=z)(hz:z < 2 ^ B):Builtin.Int.intBits z<=B:=by
 unfold Builtin.Int.intBits
 split
 ·exact Qba _
 ·rename_i e
  obtain ⟨n,rfl⟩:=Int.eq_ofNat_of_zero_le h;have hn:n≠0:=fun q=>e (by rw [q];rfl);have h2:n < 2 ^ B:=by exact_mod_cast hz
  exact (Nat.log2_lt hn).mpr h2
theorem Zf4:∀(bs:Ak) (l:Nat),(∀b∈bs,b=0\/b=1)->bt (hor bs.reverse) l=bs.getD l 0
 | [],l,_=>YO l
 | b::r,l,h=>by
  rw [Qdt,zP];have hb:=h b Qaq;cases l with
  | zero =>
   unfold bt;show _=b;lia
  | succ l =>
   rw [Y7,show (hor r.reverse * 2 + b) / 2=hor r.reverse by lia,Zf4 r l fun b hb=>h b (Qam _ hb)]
   rfl
def Y0(L:Nat)(ys:Ai)(y:Str):Int:=hor ((List.range L).map fun l:Nat=>bt (l:Int) (ys.idxOf y)).reverse
def W4[DecidableEq m]{l:List m}{x:m}(hn:l.Nodup)(h:l[i]?=some x):l.idxOf x=i:=by grind
def Zeq{ys:Ai}{l:Nat}{y:Str}(hn:ys.Nodup)(h:ys[i]?=some y)(hl:l < L):bt (Y0 L ys y) l=bt (l:Int) i:=by
 unfold Y0;rw [W4 hn h,Zf4 _ _ fun b hb=>by
  obtain ⟨c,_,rfl⟩:=Qa2.mp hb;exact Y8 _ _]
 rw [Qar,Qaj,Qc0 hl]
 rfl
def lgB:A0->Nat
 | []=>0
 | .int z::r=>max (Builtin.Int.intBits z) (lgB r)
 | _::r=>lgB r
theorem Zbr{z:Int}:∀{q:A0},V.int z∈q->Builtin.Int.intBits z<=lgB q
 | w::r,h=>by
  rcases Qan.mp h with rfl | h
  ·exact Nat.le_max_left _ _
  ·have:=Zbr h
   cases w <;> simp only [lgB] <;> lia
theorem Zbs:∀q:A0,lgB q=0\/∃z:Int,V.int z∈q/\lgB q=Builtin.Int.intBits z
 | []=>.inl rfl
 | w::r=>by
  have C:(lgB (w::r)=lgB r)->lgB (w::r)=0\/∃z:Int,V.int z∈w::r/\lgB (w::r)=Builtin.Int.intBits z:=fun e=>by
   rw [e];rcases Zbs r with h | ⟨z,h1,h2⟩
   ·exact .inl h
   ·grind
  cases w with
  | int z =>
   by_cases h:lgB r<=Builtin.Int.intBits z
   ·exact .inr ⟨z,Qaq,Nat.max_eq_left h⟩
   ·exact C (Nat.max_eq_right (by lia))
  | _=>exact C rfl
def Zf5(h1:∀z:Int,V.int z∈v->Builtin.Int.intBits z<=L)(h2:L=0\/∃z:Int,V.int z∈v/\L=Builtin.Int.intBits z):L=lgB v:=by
 refine Nat.le_antisymm ?_ ?_
 ·rcases h2 with h | ⟨z,hz,h⟩
  ·lia
  ·rw [h]
   exact Zbr hz
 ·rcases Zbs v with h | ⟨z,hz,h⟩
  ·lia
  ·rw [h]
   exact h1 z hz
def Yx(q:A0):Nat:=(q.filter fun w=>inV w (allR.map V.str)).length
def Zjf(nm:Ai)(cols:Str->Int)(q:A0)(s:Int × Ak):Ak × Ak:=X0 nm cols s.1.toNat s.2 q
def nxT(nm:Ai)(cols:Str->Int)(q:A0)(L:Nat)(s:Int × Ak):List (Int × Ak):=(List.range (2 ^ nm.length)).map fun l=>(min (s.1 + 1) (L:Int),(Zjf nm cols q s).2.map fun c=>bt c l)
def otT(nm:Ai)(cols:Str->Int)(C:A0)(q D:V)(s:Int × Ak):A0:=(List.range (2 ^ nm.length)).map fun l=>if bt ((Zjf nm cols C s).1.getD 0 0) l=1 then D else q
def Zku(q:Au)(H H':Hp):Prop:=∀b o,H b=some o->b≠q->H' b=some o
def Zik(H:Hp)(k:Int × Ak)(a:Au):Prop:=∃t,H a=some (.tup [.int k.1,.ref t])/\H t=some (.tup (k.2.map V.int))
def Zik.bits{k:Int × Ak}(h:Zik H k a):Zfr H k a:=by
 obtain ⟨t,h1,h2⟩:=h;refine ⟨t,h1,_,h2,?_⟩;rw [Qb4]
 rfl
def knQ:KN (Int × Ak) where
 knd:=knP.knd
 hsh:=knP.hsh
 at_:=Zik
 hash_eq:=knP.hash_eq
 ok:=fun P w H h k a ok b=>knP.ok P w H h k a ok b.bits
 room:=knP.room
 room0:=knP.room0
 keep:=fun H H' k a hk ⟨t,e,e2⟩=>⟨t,hk _ _ e,hk _ _ e2⟩
def Gh:Nat->List (Ak)
 | 0=>[[]]
 | n + 1=>(Gh n).map (List.cons 0)++(Gh n).map (List.cons 1)
theorem yp:∀n,(Gh n).length=2 ^ n
 | 0=>rfl
 | n + 1=>by
  show ((Gh n).map (List.cons 0)++(Gh n).map (List.cons 1)).length=_;rw [Qae,Qac,Qac,yp n,Nat.pow_succ];lia
theorem YW:∀{n:Nat} {ks:Ak},ks∈Gh n↔ks.length=n/\∀x∈ks,x=0\/x=1
 | 0,ks=>by
  constructor
  ·intro h
   rw [Qal.mp h];exact ⟨rfl,fun x hx=>by cases hx⟩
  ·rintro ⟨h,_⟩
   rw [Qby h];exact Qal.mpr rfl
 | n + 1,ks=>by
  show ks∈(Gh n).map (List.cons 0)++(Gh n).map (List.cons 1)↔_;rw [Qa4,Qa2,Qa2]
  constructor
  ·rintro (⟨r,hr,rfl⟩ | ⟨r,hr,rfl⟩)
   ·obtain ⟨h1,h2⟩:=YW.mp hr
    refine ⟨by rw [Qce,h1],fun x hx=>?_⟩;rcases Qan.mp hx with rfl | hx
    ·exact .inl rfl
    ·exact h2 x hx
   ·obtain ⟨h1,h2⟩:=YW.mp hr
    refine ⟨by rw [Qce,h1],fun x hx=>?_⟩;rcases Qan.mp hx with rfl | hx
    ·exact .inr rfl
    ·exact h2 x hx
  ·rintro ⟨h1,h2⟩
   cases ks with
   | nil=>cases h1
   | cons x r =>
    have hr:r∈Gh n:=YW.mpr ⟨by simpa using h1,fun y q=>h2 y (Qam _ q)⟩;rcases h2 x Qaq with rfl | rfl
    ·exact .inl ⟨r,hr,rfl⟩
    ·exact .inr ⟨r,hr,rfl⟩
def uni(q:Nat):Nat->List (Int × Ak)
 | 0=>[]
 | n + 1=>uni q n++(Gh q).map fun ks=>((n:Int),ks)
theorem zU(q:Nat):∀n,(uni q n).length=n * 2 ^ q
 | 0=>by rw [Nat.zero_mul];rfl
 | n + 1=>by
  show (uni q n++(Gh q).map _).length=_;rw [Qae,Qac,zU q n,yp,Nat.succ_mul]
theorem Jf{q:Nat}{s:Int × Ak}:∀{n:Nat},s∈uni q n↔∃p:Nat,p < n/\s.1=(p:Int)/\s.2∈Gh q
 | 0=>⟨(fun h=>nomatch h),fun ⟨p,h,_⟩=>absurd h (Qd0 _)⟩
 | n + 1=>by
  show s∈uni q n++(Gh q).map (fun ks=>((n:Int),ks))↔_;rw [Qa4,Jf,Qa2]
  constructor
  ·grind
  ·grind
def W5(w:V)(r:A0):Yx (w::r)=Yx r + if inV w (allR.map V.str)=true then 1 else 0:=by
 unfold Yx;rw [Qcz]
 split <;> rfl
theorem zV{ys:Ai}{cols:Str->Int}{pl:Nat}{kp:Ak}:∀C:A0,(∀w∈C,zM ys w)->(X0 ys cols pl kp C).2.length=Yx C
 | [],_=>rfl
 | w::r,hw=>by
  have q:=zV (ys:=ys) (cols:=cols) (pl:=pl) (kp:=kp) r fun w h=>hw w (Qam _ h);rw [W5];rcases hw w Qaq with ⟨y,rfl,h1,_⟩ | ⟨y,rfl,h1,h2,D,_⟩ | ⟨y,rfl,h1,h2,_⟩ | ⟨z,rfl,_⟩
  ·show (if y∈allR then _ else _:Ak × Ak).2.length=_
   rw [Qa1 h1,ZN,Qao h1,Qa1 rfl,Qae,q]
   rfl
  ·show (if y∈allR then _ else if y∈ys then _ else _:Ak × Ak).2.length=_
   rw [Qaw h2,Qaw D,ZN,Qau h2,Qaw (by decide)];exact q
  ·show (if y∈allR then _ else if y∈ys then _ else _:Ak × Ak).2.length=_
   rw [Qaw h2,Qa1 h1,ZN,Qau h2,Qaw (by decide)];exact q
  ·exact q
def zW{cols:Str->Int}(hw:∀w∈v,zM N w)(hk:i=Yx v){s:Int × Ak}(hs:s∈uni i (L + 1)):∀x∈nxT N cols v L s,x∈uni i (L + 1):=by
 intro x hx;obtain ⟨l,_,rfl⟩:=Qa2.mp hx;obtain ⟨p,h1,h2,q⟩:=Jf.mp hs;refine Jf.mpr ⟨min (p + 1) L,by lia,?_,YW.mpr ⟨?_,fun b hb=>?_⟩⟩
 ·grind
 ·rw [Qac,hk]
  exact zV v hw
 ·obtain ⟨c,_,rfl⟩:=Qa2.mp hb
  exact Y8 c l
def gE{H':Hp}(s:ZA (hide M H) H')(hn:∀c∈M,H' c=none):ZA H (X9 M H H')/\(∀t o,H' t=some o->X9 M H H' t=some o)/\∀t o,H' t=some o->hide M H t=none->H t=none:=by
 have m:∀t o,H' t=some o->t∉M:=fun t o e m=>by rw [hn t m] at e;cases e
 refine ⟨fun b o e=>?_,fun t o e=>by rw [ZH (m t o e)];exact e,fun t o e h=>by rw [Z1 (m t o e)] at h;exact h⟩
 by_cases q:b∈M
 ·rw [Xo q]
  exact e
 ·rw [ZH q]
  exact s _ _ (by rw [Z1 q];exact e)
def ze{H':Hp}{p:Au}{rs:Ax}(R:qH H p rs)(e:∀b xs,H b=some (.tup xs)->H' b=some (.tup xs)):qH H' p rs:=by
 obtain ⟨as,h1,h2,q⟩:=R;refine ⟨as,e _ _ h1,h2,fun i r hi=>?_⟩;obtain ⟨a,D,C⟩:=q i r hi;exact ⟨a,D,e _ _ C⟩
def Zbt{B:Nat}(q:∀z:Int,V.int z∈v->0<=z/\z < 2 ^ B):lgB v<=B:=by
 rcases Zbs v with h | ⟨z,hz,h⟩
 ·lia
 ·rw [h]
  exact bits_le (q z hz).1 (q z hz).2
def lgB_lt{z:Int}(h:V.int z∈v)(q:0<=z):z < 2 ^ lgB v:=Qgp (Zij q) (Za5 (Zbr h))
def wA{y:Str}(h:y∉Yb):npw (.str y)=0:=by
 have k:∀p∈T1++T2++T3,p.1∈Yb:=by decide +kernel
 show (Jl T1 (.inr y) + Jl T2 (.inr y) + Jl T3 (.inr y)).toNat=0;have n:∀l:List (Str × Int),(∀p∈l,p∈T1++T2++T3)->y∉l.map (·.1):=fun l hl z=>by
  grind
 rw [qB (n T1 fun p hp=>by simp [hp]),qB (n T2 fun p hp=>by simp [hp]),qB (n T3 fun p hp=>by simp [hp])]
 rfl
theorem Zil(z:Int):npw (.int z)=0:=by
 have k:∀l:List (Str × Int),Jl l (.inl z)=0:=fun l=>by
  induction l with
  | nil=>rfl
  | cons p r q =>
   exact q
 show (Jl T1 (.inl z) + Jl T2 (.inl z) + Jl T3 (.inl z)).toNat=0
 rfl
def Zbu:∀y∈Wm,npw (.str y)=Yo y/\y∈Yb:=by decide +kernel
def Zer:∀y∈v9,y∈Yb:=by decide +kernel
def wB:∀y∈allR,y∈Yb:=by decide +kernel
def zX{ys:Ai}{y:Str}(q:∀y∈ys,y∉Yb)(h:y∈Wm):vA ys 10 (.str y)/\npw (.str y)=Yo y/\inV (.str y) (allR.map V.str)=decide (y∈v9):=by
 obtain ⟨h1,h2⟩:=Zbu y h;refine ⟨.inl ⟨y,rfl,h,fun z=>q y z h2,h1⟩,h1,?_⟩;rw [ZN,Qd8,Qcb,Qcb];exact vD y h
def WE(a b:A0):Yx (a++b)=Yx a + Yx b:=by
 unfold Yx;rw [Qdm,Qae]
def wC:∀y∈Wm,y∉allR->y∈Zbd/\npw (.str y)=Zbb y:=by decide +kernel
def Zim:∀y∈allR,y∈Wm->1<=npw (.str y)/\(y∈Zid->2<=npw (.str y)):=by decide +kernel
def wD{ys:Ai}{B:Nat}(C:∀y∈ys,y∉Yb)(h:vA ys B w):zM ys w:=by
 rcases h with ⟨y,rfl,h1,h2,q⟩ | ⟨y,rfl,h1,h2,q⟩ | ⟨z,rfl,D,_,q⟩
 ·by_cases ha:y∈allR
  ·exact .inl ⟨y,rfl,ha,h2,Zim y ha h1⟩
  ·exact .inr (.inl ⟨y,rfl,(wC y h1 ha).1,ha,h2,(wC y h1 ha).2⟩)
 ·exact .inr (.inr (.inl ⟨y,rfl,h1,fun z=>C y h1 (wB y z),q⟩))
 ·exact .inr (.inr (.inr ⟨z,rfl,D,q⟩))
def Zbv{xs:A0}(hn:n<=xs.length)(h1:1<=n):xf xs none (some (-(n:Int)))=xs.take (xs.length - n):=by
 unfold xf;simp only [HT.sIx];rw [Qa1 (by lia),show (-(n:Int) + (xs.length:Int)).toNat=xs.length - n by lia];simp
def XT(ls:Aj)(ys:Ai)(y:Str):Int:=sm (fun k=>bt ((ls.getD k 0:Nat):Int) (ys.idxOf y)) ls.length
def Zbw(ls:Aj)(ys:Ai)(y:Str):0<=XT ls ys y/\XT ls ys y < 2 ^ ls.length:=GU (fun _=>Y8 _ _) _
def Zin{ls:Aj}{ys:Ai}{k l:Nat}{y:Str}(hn:ys.Nodup)(h:ys[i]?=some y)(hk:ls[k]?=some l):bt (XT ls ys y) k=bt (l:Int) i:=by
 unfold XT;rw [W4 hn h];have:=Zbg (b:=fun k=>bt ((ls.getD k 0:Nat):Int) i) (fun _=>Y8 _ _) k ls.length (Qah.mp hk).1;rw [Qar,hk] at this;exact this
structure Runs(nx:Ad)(ot:Ax)(n:Nat):Prop where
 pos:0 < nx.length
 ol:ot.length=nx.length
 nr:∀r∈nx,r.length=2 ^ n
 nl:∀r∈nx,∀s∈r,s < nx.length
 or:∀r∈ot,r.length=2 ^ n
def stN(nx:Ad):Nat->List Nat->Nat
 | s,[]=>s
 | s,c::r=>stN nx ((nx.getD s []).getD c 0) r
def rnO(nx:Ad)(ot:Ax):Nat->List Nat->List V
 | _,[]=>[]
 | s,c::r=>(ot.getD s []).getD c .non::rnO nx ot ((nx.getD s []).getD c 0) r
theorem XU(nx:Ad):∀(s:Nat) (ls:Aj) (c:Nat),stN nx s (ls++[c])=(nx.getD (stN nx s ls) []).getD c 0
 | _,[],_=>rfl
 | s,d::r,c=>XU nx ((nx.getD s []).getD d 0) r c
theorem wF(nx:Ad)(ot:Ax):∀(s:Nat) (ls:Aj) (c:Nat),rnO nx ot s (ls++[c])=rnO nx ot s ls++[(ot.getD (stN nx s ls) []).getD c .non]
 | _,[],_=>rfl
 | s,d::r,c=>congrArg (List.cons _) (wF nx ot ((nx.getD s []).getD d 0) r c)
theorem zY(nx:Ad)(ot:Ax):∀(s:Nat) (ls:Aj),(rnO nx ot s ls).length=ls.length
 | _,[]=>rfl
 | s,d::r=>congrArg Nat.succ (zY nx ot _ r)
def getD_at{l:List m}{d:m}(h:i < l.length):l[i]?=some (l.getD i d):=by grind
section
variable {κ:Type}[DecidableEq κ]{nx:κ->List κ}{b:κ}{l:List κ}
def qM{x:κ}(h:x∈l):l[l.idxOf x]?=some x:=by grind
def BfE.len(B:BfE nx b l):(bfN nx b l.length).length=l.length:=by rw [<-B.e]
def BfE.here(B:BfE nx b l){j:Nat}{s:κ}(h:l[j]?=some s):j < l.length/\(bfN nx b j)[j]?=some s:=vG B.len B.go (by rw [<-B.e];exact h)
def BfE.sub(B:BfE nx b l){j:Nat}(q:j<=l.length){x:κ}(h:x∈bfN nx b j):x∈l:=by
 obtain ⟨r,e⟩:=zd (nx:=nx) (b:=b) j (l.length - j);rw [show j + (l.length - j)=l.length by lia,<-B.e] at e;rw [e];exact Qb7 _ h
def BfE.begin(B:BfE nx b l):l[0]?=some b/\b∈l:=by
 have hb:b∈l:=B.sub (Qba _) (show b∈[b] from Qal.mpr rfl);have e:=Zkd (nx:=nx) (b:=b) (i:=l.length) (j:=0) (Qba _) (s:=b) rfl;rw [<-B.e] at e;exact ⟨e,hb⟩
def BfE.next(B:BfE nx b l){s x:κ}(h:s∈l)(hx:x∈nx s):x∈l:=by
 obtain ⟨j,q⟩:=Qet.mp h;obtain ⟨h1,h2⟩:=B.here q;refine B.sub (j:=j + 1) h1 ?_;rw [zS h2];exact (qJ _ _).mpr (.inr hx)
def BfE.nodup(B:BfE nx b l):l.Nodup:=by
 rw [B.e];exact JF _
def ixG(l:List κ)(x:κ):Nat:=l.idxOf x
def BfE.zero(B:BfE nx b l):ixG l b=0:=W4 B.nodup B.begin.1
def Zbx(h:∀s∈l,∀x∈nx s,x∈l){s:κ}(hs:s∈l):(rnG nx l).getD (ixG l s) []=(nx s).map fun x=>ixG l x:=by
 unfold rnG ixG;rw [Qar,Qaj,qM hs]
 rfl
def Zio{ot:κ->List V}{s:κ}(hs:s∈l):(l.map ot).getD (ixG l s) []=ot s:=by
 unfold ixG;rw [Qar,Qaj,qM hs]
 rfl
end
structure yq(nm:Ai)(ws:A0):Prop where
 n3:nm.length<=3
 nd:nm.Nodup
 kp:∀y∈nm,y∉Yb
 ln:ws.length<=100
 wd:∀w∈ws,vA nm 10 w
 en:Xz ws
 st:zL ws=1
 rm:Yx ws<=15
abbrev nxS(nm:Ai)(q:A0):Int × Ak->List (Int × Ak):=nxT nm (Y0 (2 ^ nm.length) nm) q (lgB q)
abbrev otS(nm:Ai)(q:A0):Int × Ak->List V:=otT nm (Y0 (2 ^ nm.length) nm) q (.int 0) (.int 1)
def yq.wc(S:yq N v):∀w∈v,zM N w:=fun w h=>wD S.kp (S.wd w h)
theorem yq.iz(S:yq N v):∀z:Int,V.int z∈v->0<=z/\z < 2 ^ 10:=fun z h=>by
 rcases S.wd _ h with ⟨y,e,_⟩ | ⟨y,e,_⟩ | ⟨C,e,q,h1,_⟩
 ·cases e
 ·cases e
 ·cases e
  exact ⟨q,h1⟩
def yq.big(S:yq N v):(10 + 1) * 2 ^ Yx v<=1000000:=by
 have:2 ^ Yx v<=2 ^ 15:=Qc8 (by decide) S.rm;lia
def yq.len{l:List (Int × Ak)}(S:yq N v)(B:BfE (nxS N v) (0,List.replicate (Yx v) 0) l):l.length<=1000000:=by
 have h:=w6 (nx:=nxS N v) (b:=((0:Int),List.replicate (Yx v) (0:Int))) (U:=uni (Yx v) (lgB v + 1)) (Jf.mpr ⟨0,by lia,rfl,YW.mpr ⟨Qax,fun x hx=>.inl (Qea hx)⟩⟩) (fun s hs=>zW S.wc rfl hs) l.length;rw [<-B.e,zU] at h;have h2:lgB v<=10:=Zbt S.iz;have q:=S.big;exact Qa8 h (Qa8 (Qf0 _ (by lia)) q)
def Ziq(nm:Ai)(cols:Str->Int)(q:A0)(L:Nat)(s:Int × Ak):(nxT nm cols q L s).length=2 ^ nm.length:=by
 unfold nxT;rw [Qac,Qay]
def Zir(nm:Ai)(cols:Str->Int)(C:A0)(q D:V)(s:Int × Ak):(otT nm cols C q D s).length=2 ^ nm.length:=by
 unfold otT;rw [Qac,Qay]
section
variable {κ:Type}[DecidableEq κ]{nx:κ->List κ}{b:κ}{l:List κ}
def Zis(B:BfE nx b l)(hn:∀s,(nx s).length=n):(∀r∈rnG nx l,r.length=n)/\∀r∈rnG nx l,∀s∈r,s < (rnG nx l).length:=by
 constructor
 ·intro r hr
  obtain ⟨s,_,rfl⟩:=Qa2.mp hr;rw [Qac,hn]
 ·intro r hr x hx
  obtain ⟨s,hs,rfl⟩:=Qa2.mp hr;obtain ⟨y,q,rfl⟩:=Qa2.mp hx;rw [Xt];exact Qes (B.next hs q)
theorem Zf6(B:BfE nx b l):∀i,i<=l.length->Zkc (rnG nx l) 0 i=(bfN nx b i).map (ixG l)
 | 0,_=>by
  show [0]=[ixG l b];rw [B.zero]
 | i + 1,h=>by
  have q:=Zf6 B i (by lia);obtain ⟨s,hs⟩:∃s,(bfN nx b i)[i]?=some s:=⟨_,Qaf (B.go i (by lia))⟩;have C:s∈l:=B.sub (by lia) (Qai hs);show Zkb (rnG nx l) (Zkc (rnG nx l) 0 i) i=_;rw [q];unfold Zkb;have e1:((bfN nx b i).map (ixG l)).getD i 0=ixG l s:=by grind
  rw [e1,Zbx (fun s hs x hx=>B.next hs hx) C,zS hs];have inj:∀x∈l,∀y∈l,ixG l x=ixG l y->x=y:=fun x hx y D e=>by
   have h1:=qM hx;have h2:=qM D;have e:l.idxOf x=l.idxOf y:=e;rw [e,h2] at h1;exact (Option.some.inj h1).symm
  have G:∀(r a:List κ),(∀x∈r,x∈l)->(∀x∈a,x∈l)->(r.map (ixG l)).foldl Yt (a.map (ixG l))=(r.foldl Yt a).map (ixG l):=by
   intro r
   induction r with
   | nil=>exact fun a _ _=>rfl
   | cons k r q =>
    intro a hr ha;have hk:=hr k Qaq;rw [Qbu,Qdx,Qdx,kY (ixG l) a k fun x hx e=>inj x (ha x hx) k hk e];exact q _ (fun x hx=>hr x (Qam _ hx)) fun x hx=>by
     rcases GR.mp hx with z | z
     ·exact ha x z
     ·rw [z];exact hk
  exact G _ _ (fun x hx=>B.next C hx) fun x hx=>B.sub (by lia) hx
end
def Zes{H':Hp}{xs:A0}(h:SqL K H a xs)(s:ZA H H'):SqL K H' a xs:=by
 rcases h with h | h
 ·rcases h with h | ⟨u,h⟩
  ·exact .inl (.inl (s _ _ h))
  ·exact .inl (.inr ⟨u,s _ _ h⟩)
 ·exact .inr h
def Zku.tup{q:Au}{H H':Hp}(o:Zku q H H'){C:Ah}(hz:H q=some (.tbl C)){b:Au}{xs:A0}(e:H b=some (.tup xs)):H' b=some (.tup xs):=o _ _ e (Xa e hz fun z=>nomatch z)
def neA(x y:Int)(k:Nat):Int:=if lo x k=lo y k then 0 else 1
def Zf7(x y:Int)(k:Nat):neA x y k=0\/neA x y k=1:=by
 unfold neA
 split
 ·exact .inl rfl
 ·exact .inr rfl
def Zet(x y:Int):neA x y 0=0:=by
 unfold neA lo;rw [Qd3,Qe6,Qe6]
 rfl
def Zeu(x y:Int)(k:Nat):neA x y (k + 1)=1 - (1 - (bt x k + bt y k) % 2) * (1 - neA x y k):=by
 have e1:=zK x k;have e2:=zK y k;have b1:=yk x k;have b2:=yk y k;unfold neA;rcases Y8 x k with a | a <;> rcases Y8 y k with b | b <;> rw [a] at e1 ⊢ <;> rw [b] at e2 ⊢ <;> by_cases h:lo x k=lo y k
 all_goals first
  | rw [Qa1 h,Qa1 (by lia)];rfl
  | rw [Qaw h,Qaw (by lia)];rfl
  | rw [Qa1 h,Qaw (by lia)];rfl
def sgA(x:Int)(k:Nat):Int:=lo x k - 2 ^ k * bt x k
def bnA(x y:Int)(k:Nat):Int:=if sgA x k < sgA y k then 1 else 0
def bnA_01(x y:Int)(k:Nat):bnA x y k=0\/bnA x y k=1:=by
 unfold bnA
 split
 ·exact .inr rfl
 ·exact .inl rfl
def bnA_br(x y:Int)(k:Nat):bnA x y k=1 - (1 - (1 - bt y k) * bt x k) * (1 - brA x y k * (1 - (bt y k + bt x k) % 2)):=by
 have b1:=yk x k;have b2:=yk y k;unfold bnA sgA brA;rcases Y8 x k with a | a <;> rcases Y8 y k with b | b <;> rw [a,b] <;> by_cases h:lo x k < lo y k
 all_goals first
  | rw [Qa1 h,Qa1 (by lia)];rfl
  | rw [Qaw h,Qaw (by lia)];rfl
  | rw [Qa1 h,Qaw (by lia)];rfl
  | rw [Qaw h,Qa1 (by lia)];rfl
def gF(y:Str)(is:Ak)(k:Nat):Int :=
 if y = "twice" then tw (is.getD 0 0) k else if y = "neg" \/ y = "low" \/ y = "nought" then nzA (is.getD 0 0) k else if y = "same" then neA (is.getD 0 0) (is.getD 1 0) k else if y = "add" then cyA (is.getD 0 0) (is.getD 1 0) k else brA (is.getD 0 0) (is.getD 1 0) k
def Zit(y:Str)(is:Ak)(k:Nat):gF y is k=0\/gF y is k=1:=by
 unfold gF
 repeat' split
 ·exact tw_01 _ _
 ·exact Zba _ _
 ·exact Zf7 _ _ _
 ·exact Za8 _ _ _
 ·exact yl _ _ _
def Zby(y:Str)(is:Ak):gF y is 0=0:=by
 unfold gF
 repeat' split
 ·rfl
 ·exact Zeg _
 ·exact Zet _ _
 ·exact wj _ _
 ·exact wq _ _
def Zda(y:Str)(bs:Ak)(h:Int):Int :=
 if y = "twice" then bs.getD 0 0 else if y = "neg" \/ y = "low" \/ y = "nought" then 1 - (1 - bs.getD 0 0) * (1 - h) else if y = "same" then 1 - (1 - (bs.getD 0 0 + bs.getD 1 0) % 2) * (1 - h) else if y = "add" then (bs.getD 0 0 + bs.getD 1 0 + h) / 2 else 1 - (1 - (1 - bs.getD 0 0) * bs.getD 1 0) * (1 - h * (1 - (bs.getD 0 0 + bs.getD 1 0) % 2))
def yr(y:Str)(is:Ak)(k:Nat):gF y is (k + 1)=Zda y (is.map fun x=>bt x k) (gF y is k):=by
 unfold gF Zda;rw [Wz,Wz]
 repeat' split
 ·rfl
 ·exact Zeh _ _
 ·exact Zeu _ _ _
 ·exact wm _ _ _
 ·exact wt _ _ _
def Zke(y:Str)(bs:Ak)(h:Int):Int :=
 if y = "add" \/ y = "sub" then (bs.getD 0 0 + bs.getD 1 0 + h) % 2 else if y = "neg" then (bs.getD 0 0 + h) % 2 else if y = "twice" then h else if y = "low" then bs.getD 0 0 * (1 - h)
 else if y = "same" \/ y = "nought" then 1 - Zda y bs h else if y = "under" then Zda y bs h else 1 - (1 - (1 - bs.getD 1 0) * bs.getD 0 0) * (1 - h * (1 - (bs.getD 1 0 + bs.getD 0 0) % 2))
def yt(y:Str)(bs:Ak):Int :=
 if y = "yes" then 1 else if y = "sign" then bs.getD 0 0 else if y = "not" \/ y = "never" then 1 - bs.getD 0 0 else if y = "and" \/ y = "both" then bs.getD 0 0 * bs.getD 1 0 else if y = "or" \/ y = "either" then 1 - (1 - bs.getD 0 0) * (1 - bs.getD 1 0)
 else if y = "odd" then (bs.getD 0 0 + bs.getD 1 0) % 2 else if y = "so" then 1 - (1 - (1 - bs.getD 0 0)) * (1 - bs.getD 1 0) else 1 - (1 - bs.getD 0 0 * bs.getD 1 0) * (1 - (1 - bs.getD 0 0) * bs.getD 2 0)
def Zf8(a b h:Int)(l:Nat):bt (Zka a b h) l=1 - (1 - (1 - bt a l) * bt b l) * (1 - bt h l * (1 - (bt a l + bt b l) % 2)):=by
 unfold Zka;rw [Gg,Xr,Xr,WR,WR,Wg]
def Zf9(y:Str)(is:Ak)(h:Int)(l:Nat):bt (ktI y is h) l=Zda y (is.map fun x=>bt x l) (bt h l):=by
 unfold Zda ktI;rw [Wz,Wz]
 repeat' split
 ·rfl
 ·exact Gg l _ _
 ·rw [Gg,Wg]
 ·rw [Gg,Xr,Xr,Gg]
  rcases Y8 (is.getD 0 0) l with a | a <;> rcases Y8 (is.getD 1 0) l with b | b <;> rcases Y8 h l with c | c <;> rw [a,b,c] <;> rfl
 ·exact Zf8 _ _ _ _
def okR_bt(y:Str)(is:Ak)(h:Int)(l:Nat):bt (okI y is h (ktI y is h)) l=Zke y (is.map fun x=>bt x l) (bt h l):=by
 unfold Zke okI;rw [<-Zf9,Wz,Wz]
 repeat' split
 ·rw [Wg,Wg]
  lia
 ·exact Wg l _ _
 ·rfl
 ·rw [Xr,WR]
 ·exact WR l _
 ·rfl
 ·exact Zf8 _ _ _ _
def Zga(y:Str)(is:Ak)(l:Nat):bt (oaI y is) l=yt y (is.map fun x=>bt x l):=by
 unfold yt oaI;rw [Wz,Wz,Wz]
 repeat' split
 ·exact Za6 l
 ·rfl
 ·exact WR l _
 ·exact Xr l _ _
 ·exact Gg l _ _
 ·exact Wg l _ _
 ·rw [Gg,WR]
 ·rw [Gg,Xr,Xr,WR]
def clB(y:Str)(is:Ak)(k:Nat):Int :=
 if y = "same" then 1 - neA (is.getD 0 0) (is.getD 1 0) (k + 1) else if y = "nought" then 1 - nzA (is.getD 0 0) (k + 1) else if y = "under" then brA (is.getD 0 0) (is.getD 1 0) (k + 1) else if y = "beneath" then bnA (is.getD 0 0) (is.getD 1 0) k
 else yt y (is.map fun x=>bt x k)
def once01(y:Str)(is:Ak)(k:Nat):yt y (is.map fun x=>bt x k)=0\/yt y (is.map fun x=>bt x k)=1:=by
 rw [<-Zga];exact Y8 _ _
def Zbz(y:Str)(is:Ak)(k:Nat):clB y is k=0\/clB y is k=1:=by
 unfold clB
 repeat' split
 ·have:=Zf7 (is.getD 0 0) (is.getD 1 0) (k + 1)
  lia
 ·have:=Zba (is.getD 0 0) (k + 1)
  lia
 ·exact yl _ _ _
 ·exact bnA_01 _ _ _
 ·exact once01 _ _ _
def rwR(W:Nat)(ρ:Str->Int)(w:V)(is:Ak):Int :=
 match w with
 | .str y=>if y∈ZR then sm (clB y is) W else wwv ρ w is % 2 ^ W
 | _=>wwv ρ w is % 2 ^ W
def YX(W:Nat)(ρ:Str->Int):A0->List Int
 | []=>[]
 | w::r=>rwR W ρ w ((YX W ρ r).take (npw w))::(YX W ρ r).drop (npw w)
theorem GX(W:Nat)(ρ:Str->Int):∀q:A0,(YX W ρ q).length=zL q
 | []=>rfl
 | w::r=>by
  show ((YX W ρ r).drop (npw w)).length + 1=_;rw [Qcn,GX W ρ r]
  rfl
def gG:V->Bool
 | .str y=>decide (y∈allR)
 | _=>false
def G3(W:Nat)(ρ:Str->Int):A0->Nat->List Int
 | [],_=>[]
 | w::r,k=>G3 W ρ r k++if gG w=true then [gF (Zh6 w) ((YX W ρ r).take (npw w)) k] else []
def Zb0(ys:Ai)(ν:Str->Int)(pl:Nat)(kp:Ak):A0->List Int × Ak
 | []=>([],[])
 | w::r =>
  let p:=Zb0 ys ν pl kp r
  match w with
  | .str y =>
   if y∈allR then (Zke y (p.1.take (npw w)) (kp.getD p.2.length 0)::p.1.drop (npw w),p.2++[Zda y (p.1.take (npw w)) (kp.getD p.2.length 0)])
   else if y∈ys then (ν y::p.1.drop (npw w),p.2)
   else (yt y (p.1.take (npw w))::p.1.drop (npw w),p.2)
  | .int z=>(bt z pl::p.1.drop (npw w),p.2)
  | _=>p
def yu{ys:Ai}{cols:Str->Int}{pl:Nat}{kp:Ak}(hk:∀i:Nat,kp.getD i 0=0\/kp.getD i 0=1)(l:Nat):∀C:A0,
  (X0 ys cols pl kp C).1.map (fun x=>bt x l)=(Zb0 ys (fun y=>bt (cols y) l) pl kp C).1/\(X0 ys cols pl kp C).2.map (fun x=>bt x l)=(Zb0 ys (fun y=>bt (cols y) l) pl kp C).2
 | []=>⟨rfl,rfl⟩
 | w::r=>by
  obtain ⟨e1,e2⟩:=yu (ys:=ys) (cols:=cols) (pl:=pl) hk l r;have D:(X0 ys cols pl kp r).2.length=(Zb0 ys (fun y=>bt (cols y) l) pl kp r).2.length:=by rw [<-e2,Qac]
  cases w with
  | str y =>
   show (if y∈allR then _ else if y∈ys then _ else _:Ak × Ak).1.map _=(if y∈allR then _ else if y∈ys then _ else _:Ak × Ak).1/\(if y∈allR then _ else if y∈ys then _ else _:Ak × Ak).2.map _=(if y∈allR then _ else if y∈ys then _ else _:Ak × Ak).2
   by_cases ha:y∈allR
   ·rw [Qa1 ha,Qa1 ha]
    constructor
    ·show bt _ l::_=_::_
     rw [okR_bt,vC (hk _),Qew,Qeg,e1,D]
    ·rw [Qa6,e2]
     show _++[bt _ l]=_;rw [Zf9,vC (hk _),Qew,e1,D]
   ·rw [Qaw ha,Qaw ha]
    by_cases q:y∈ys
    ·rw [Qa1 q,Qa1 q]
     refine ⟨?_,e2⟩;show bt _ l::List.map _ (List.drop _ _)=_::_;rw [Qeg,e1]
    ·rw [Qaw q,Qaw q]
     refine ⟨?_,e2⟩;show bt _ l::List.map _ (List.drop _ _)=_::_;rw [Zga,Qew,Qeg,e1]
  | int z =>
   refine ⟨?_,e2⟩;show bt (-(bt z pl)) l::List.map _ (List.drop _ _)=bt z pl::_;rw [Qeg,e1,vC (Y8 z pl)]
  | _=>exact ⟨e1,e2⟩
def zZ:∀y∈Wm,y∉ZR:=by decide +kernel
def Zev{y:Str}(q:y∈v9)(is:Ak)(k:Nat):gF y is k=hld y is k:=by
 unfold v9 at q;simp only [Qan,Qbd,Qdq] at q;rcases q with rfl | rfl | rfl | rfl | rfl <;> rfl
def Zew{y:Str}(q:y∈v9)(bs:Ak)(h:Int):Zke y bs h=ans1 y bs h:=by
 unfold v9 at q;simp only [Qan,Qbd,Qdq] at q;rcases q with rfl | rfl | rfl | rfl | rfl <;> rfl
def Zb1{y:Str}(q:y∈Wm)(hr:y∉v9)(bs:Ak):yt y bs=once y bs:=by
 rcases za y q hr with ⟨rfl,_⟩ | ⟨rfl,_⟩ | ⟨rfl,_⟩ | ⟨rfl,_⟩ | ⟨rfl,_⟩ <;> rfl
def Zb2:∀y∈ZR,y∈allR->y = "same" \/ y = "under" \/ y = "beneath" \/ y = "nought" := by decide +kernel
def gH:∀y∈ZR,y∉allR->¬y = "same" /\ ¬y = "under" /\ ¬y = "beneath" /\ ¬y = "nought" := by decide +kernel
def Zkf{f:Nat->Int}(hf:∀i,f i=0\/f i=1){k W:Nat}(h:k < W):bt (sm f W) k=f k:=Zbg hf k W h
def Zex(ρ:Str->Int){y:Str}{W k:Nat}(hk:k < W)(ha:y∈allR){is:Ak}(h:y∈ZR\/(y∈Wm/\is.length=Yo y)):Zke y (is.map fun x=>bt x k) (gF y is k)=bt (rwR W ρ (.str y) is) k:=by
 rcases h with hc | ⟨hs,hl⟩
 ·show _=bt (if y∈ZR then _ else _) k
  rw [Qa1 hc,Zkf (Zbz y is) hk];have hs:=yr y is k;rcases Zb2 y hc ha with rfl | rfl | rfl | rfl
  ·show 1 - Zda "same" _ _=1 - neA _ _ (k + 1)
   rw [<-hs]
   rfl
  ·show Zda "under" _ _=brA _ _ (k + 1)
   rw [<-hs]
   rfl
  ·show 1 - (1 - (1 - List.getD _ 1 0) * List.getD _ 0 0) * (1 - brA _ _ k * (1 - (List.getD _ 1 0 + List.getD _ 0 0) % 2))=bnA _ _ k
   rw [Wz,Wz,bnA_br]
  ·show 1 - Zda "nought" _ _=1 - nzA _ (k + 1)
   rw [<-hs]
   rfl
 ·have hr:=(vD y hs).mp ha
  show _=bt (if y∈ZR then _ else _) k;rw [Qaw (zZ y hs),Zew hr,Zev hr,ans_ok ρ hr hl,yj _ _ _ hk]
def Zb3(ρ:Str->Int){y:Str}{W k:Nat}(hk:k < W)(ha:y∉allR){is:Ak}(h:y∈ZR\/(y∈Wm/\is.length=Yo y)):yt y (is.map fun x=>bt x k)=bt (rwR W ρ (.str y) is) k:=by
 rcases h with hc | ⟨hs,hl⟩
 ·show _=bt (if y∈ZR then _ else _) k
  obtain ⟨h1,h2,C,q⟩:=gH y hc ha;rw [Qa1 hc,Zkf (Zbz y is) hk];unfold clB;rw [Qaw h1,Qaw q,Qaw h2,Qaw C]
 ·have hr:y∉v9:=fun z=>ha ((vD y hs).mpr z)
  show _=bt (if y∈ZR then _ else _) k;rw [Qaw (zZ y hs),Zb1 hs hr,Zic ρ hs hr hl,yj _ _ _ hk]
def gI(ys:Ai)(B:Nat)(w:V):Prop:=vA ys B w\/∃y,w=.str y/\y∈ZR/\y∉ys
theorem Zey(W:Nat)(ρ:Str->Int)(q:A0)(k:Nat):(G3 W ρ q k).length=(q.filter gG).length:=by
 induction q with
 | nil=>rfl
 | cons w r C =>
  show (G3 W ρ r k++_).length=_;rw [Qae,C,Qcz]
  split <;> rfl
theorem Zb4{ys:Ai}{B W k pl:Nat}{ρ:Str->Int}(hk:k < W)(O:pl=k\/(B<=pl/\B<=k))(I:∀y∈ys,y∉Yb)(kp:Ak):∀J:A0,(∀w∈J,gI ys B w)->Xz J->(∃r,kp=G3 W ρ J k++r)->Zb0 ys (fun y=>bt (ρ y) k) pl kp J=((YX W ρ J).map (fun x=>bt x k),G3 W ρ J (k + 1))
 | [],_,_,_=>rfl
 | w::r,hw,he,hkp=>by
  obtain ⟨r0,hr0⟩:=hkp;have ih:=Zb4 (ρ:=ρ) hk O I kp r (fun w h=>hw w (Qam _ h)) he.2 ⟨_,by rw [hr0];show (_++_)++_=_;rw [Qca]⟩;have Z:=GX W ρ r;have htk:((YX W ρ r).take (npw w)).length=npw w:=by rw [Qa0,Z];exact Qfe he.1
  have ml:=Zey W ρ r;have G:∀y,w=.str y->y∉ys->(y∈ZR\/(y∈Wm/\npw w=Yo y))->Zb0 ys (fun y=>bt (ρ y) k) pl kp (w::r)=((YX W ρ (w::r)).map (fun x=>bt x k),G3 W ρ (w::r) (k + 1)):=by
   rintro y rfl C D;have Y:y∈ZR\/(y∈Wm/\((YX W ρ r).take (npw (.str y))).length=Yo y):=by rw [htk];exact D
   by_cases ha:y∈allR
   ·have q:gG (.str y)=true:=Qao ha
    have hg:kp.getD (G3 W ρ r (k + 1)).length 0=gF y ((YX W ρ r).take (npw (.str y))) k:=by
     have e:G3 W ρ (.str y::r) k=G3 W ρ r k++[gF y ((YX W ρ r).take (npw (.str y))) k]:=by
      show _++(if gG (.str y)=true then _ else _)=_;rw [Qa1 q]
      rfl
     rw [hr0,e,ml,<-ml k,Qca,Qar,Qa7 (Qag _),Qfr]
     rfl
    show (if y∈allR then _ else _)=_;rw [Qa1 ha,ih];rw [hg,<-Qew,Zex ρ hk ha Y,<-yr];refine Qht ?_ ?_
    ·show _::_=bt _ k::((YX W ρ r).drop (npw (.str y))).map _
     rw [Qeg]
    ·show _=_++(if gG (.str y)=true then _ else _)
     rw [Qa1 q]
     rfl
   ·have q:¬gG (.str y)=true:=fun z=>ha (Qaz z)
    show (if y∈allR then _ else if y∈ys then _ else _)=_;rw [Qaw ha,Qaw C,ih];rw [<-Qew,Zb3 ρ hk ha Y];refine Qht ?_ ?_
    ·show _::_=bt _ k::((YX W ρ r).drop (npw (.str y))).map _
     rw [Qeg]
    ·show _=_++(if gG (.str y)=true then _ else _)
     rw [Qaw q,Qbq]
  rcases hw w Qaq with (⟨y,rfl,D,C,hp⟩ | ⟨y,rfl,D,hnr,hp⟩ | ⟨z,rfl,z0,z1,hp⟩) | ⟨y,rfl,D,C⟩
  ·exact G y rfl C (.inr ⟨D,hp⟩)
  ·have hna:y∉allR:=fun z=>I y D (wB y z)
   have hnc:y∉ZR:=fun z=>I y D (gy y z);have q:¬gG (.str y)=true:=fun z=>hna (Qaz z);show (if y∈allR then _ else if y∈ys then _ else _)=_;rw [Qaw hna,Qa1 D,ih];refine Qht ?_ ?_
   ·show _::_=bt (if y∈ZR then _ else _) k::((YX W ρ r).drop (npw (.str y))).map _
    rw [Qaw hnc,yj _ _ _ hk,hp,List.take_zero,Qei,Qei]
    rfl
   ·show _=_++(if gG (.str y)=true then _ else _)
    rw [Qaw q,Qbq]
  ·show (bt z pl::(Zb0 ys (fun y=>bt (ρ y) k) pl kp r).1.drop (npw (.int z)),(Zb0 ys (fun y=>bt (ρ y) k) pl kp r).2)=_
   rw [ih];have ez:bt z pl=bt z k:=by
    rcases O with h | ⟨h1,h2⟩
    ·rw [h]
    ·rw [Zfz z0 z1 h1,Zfz z0 z1 h2]
   refine Qht ?_ ?_
   ·show bt z pl::_=bt (wwv ρ (.int z) ((YX W ρ r).take (npw (.int z))) % 2 ^ W) k::((YX W ρ r).drop (npw (.int z))).map _
    rw [yj _ _ _ hk,hp,Qei,Qei,ez]
    rfl
   ·show _=_++(if gG (.int z)=true then _ else _)
    rw [Qaw (fun z=>nomatch z),Qbq]
  ·exact G y rfl C (.inl D)
theorem zf{ys:Ai}{ν q:Str->Int}{pl:Nat}{kp:Ak}(h:∀y∈ys,ν y=q y):∀C:A0,Zb0 ys ν pl kp C=Zb0 ys q pl kp C
 | []=>rfl
 | w::r=>by
  have D:=zf (pl:=pl) (kp:=kp) h r;unfold Zb0;rw [D];cases w with
  | str y =>
   by_cases hr:y∈allR
   ·simp only [Qa1 hr]
   ·grind
  | _=>rfl
theorem wG{W:Nat}{ρ:Str->Int}{k:Nat}:∀{q:A0},∀x∈G3 W ρ q k,x=0\/x=1
 | w::r,x,h=>by
  rcases Qa4.mp h with h | h
  ·exact wG x h
  ·split at h
   ·rw [Qal.mp h]
    exact Zit _ _ _
   ·cases h
def Ziu(W:Nat)(ρ:Str->Int)(q:A0)(k i:Nat):(G3 W ρ q k).getD i 0=0\/(G3 W ρ q k).getD i 0=1:=by
 rw [Qar];cases e:(G3 W ρ q k)[i]? with
 | none=>exact .inl rfl
 | some x=>exact wG x (Qai e)
theorem yw(W:Nat)(ρ:Str->Int):∀q:A0,G3 W ρ q 0=List.replicate (q.filter gG).length 0
 | []=>rfl
 | w::r=>by
  show G3 W ρ r 0++_=_;rw [yw W ρ r,Qcz]
  split
  ·rw [Zby,Qce,Qf1]
  ·rw [Qbq]
theorem yx{ys:Ai}{B:Nat}:∀{q:A0},(∀w∈q,gI ys B w)->Yx q=(q.filter gG).length
 | [],_=>rfl
 | w::r,h=>by
  rw [W5,yx (fun v hv=>h v (Qam _ hv)),Qcz];have e:inV w (allR.map V.str)=gG w:=by
   rcases h w Qaq with (⟨y,rfl,_⟩ | ⟨y,rfl,_⟩ | ⟨z,rfl,_⟩) | ⟨y,rfl,_⟩
   ·exact ZN _ _
   ·exact ZN _ _
   ·exact Zbf z _
   ·exact ZN _ _
  rw [e]
  split <;> rfl
def qN{ls:Aj}{W k c:Nat}(q:N.Nodup)(hk:∀y∈N,y∉Yb)(hw:∀w∈v,gI N 10 w)(he:Xz v)(Z:k < W)(hc:ls[k]?=some c)(G:c < 2 ^ N.length) :
  (Zjf N (Y0 (2 ^ N.length) N) v (min (k:Int) (lgB v:Int),G3 W (XT ls N) v k)).1.map (fun x=>bt x c)=(YX W (XT ls N) v).map (fun x=>bt x k)/\(Zjf N (Y0 (2 ^ N.length) N) v (min (k:Int) (lgB v:Int),G3 W (XT ls N) v k)).2.map (fun x=>bt x c)=G3 W (XT ls N) v (k + 1):=by
 have C:∀w∈v,gI N (lgB v) w:=fun w h=>by
  rcases hw w h with (z | z | ⟨z,rfl,I,_,Y⟩) | z
  ·exact .inl (.inl z)
  ·exact .inl (.inr (.inl z))
  ·exact .inl (.inr (.inr ⟨z,rfl,I,lgB_lt h I,Y⟩))
  ·exact .inr z
 obtain ⟨e1,e2⟩:=yu (ys:=N) (cols:=Y0 (2 ^ N.length) N) (pl:=(min (k:Int) (lgB v:Int)).toNat) (Ziu W (XT ls N) v k) c v;have D:∀y∈N,bt (Y0 (2 ^ N.length) N y) c=bt (XT ls N y) k:=fun y J=>by
  obtain ⟨i,hi⟩:=Qet.mp J;rw [Zeq q hi G,Zin q hi hc]
 have e3:=zf (pl:=(min (k:Int) (lgB v:Int)).toNat) (kp:=G3 W (XT ls N) v k) D v;have O:=Zb4 (ρ:=XT ls N) (pl:=(min (k:Int) (lgB v:Int)).toNat) Z (by lia:(min (k:Int) (lgB v:Int)).toNat=k\/(lgB v<=(min (k:Int) (lgB v:Int)).toNat/\lgB v<=k)) hk (G3 W (XT ls N) v k) v C he ⟨[],(Qbq _).symm⟩;rw [e3,O] at e1 e2;exact ⟨e1,e2⟩
theorem Zb5{ls:Aj}{W:Nat}{o:Int}{O Y:V}{l:List (Int × Ak)}(J:N.Nodup)(hk:∀y∈N,y∉Yb)(hw:∀w∈v,gI N 10 w)(he:Xz v)(hW:W<=ls.length)(hls:∀x∈ls,x < 2 ^ N.length)(ho:YX W (XT (ls.take W) N) v=[o])
  (B:BfE (nxT N (Y0 (2 ^ N.length) N) v (lgB v)) (0,List.replicate (Yx v) 0) l) :
  ∀k,k < W->(rnO (rnG (nxT N (Y0 (2 ^ N.length) N) v (lgB v)) l) (l.map (otT N (Y0 (2 ^ N.length) N) v O Y)) 0 ls)[k]?=some (if bt o k=1 then Y else O):=by
 have cl:∀s∈l,∀x∈nxT N (Y0 (2 ^ N.length) N) v (lgB v) s,x∈l:=fun s hs x hx=>B.next hs hx;generalize hρ:XT (ls.take W) N=ρ at *;have e0:((0:Int),List.replicate (Yx v) (0:Int))=(min ((0:Nat):Int) (lgB v:Int),G3 W ρ v 0):=by
  rw [yw,yx hw,show min ((0:Nat):Int) (lgB v:Int)=0 by lia]
 have at_:∀k,k < W->∃c,ls[k]?=some c/\(ls.take W)[k]?=some c/\c < 2 ^ N.length:=fun k hk=>by
  have h1:ls[k]?=some ls[k]:=Qaf (by lia);exact ⟨_,h1,by grind,hls _ (Qai h1)⟩
 have step:∀k,k<=W->stN (rnG (nxT N (Y0 (2 ^ N.length) N) v (lgB v)) l) 0 (ls.take k)=ixG l (min (k:Int) (lgB v:Int),G3 W ρ v k)/\(min (k:Int) (lgB v:Int),G3 W ρ v k)∈l:=by
  intro k
  induction k with
  | zero =>
   intro _;rw [<-e0];exact ⟨B.zero.symm,B.begin.2⟩
  | succ k Z =>
   intro hk1;obtain ⟨i1,i2⟩:=Z (by lia);obtain ⟨c,hc,D,C⟩:=at_ k (by lia);obtain ⟨_,e2⟩:=qN J hk hw he (show k < W by lia) D C;rw [hρ] at e2;have en:(nxT N (Y0 (2 ^ N.length) N) v (lgB v) (min (k:Int) (lgB v:Int),G3 W ρ v k))[c]?=some (min ((k + 1:Nat):Int) (lgB v:Int),G3 W ρ v (k + 1)):=by
    unfold nxT;rw [GV C,e2];congr 2;lia
   refine ⟨?_,B.next i2 (Qai en)⟩;rw [take_snoc hc,XU,i1,Zbx cl i2,Qar,Qaj,en]
   rfl
 intro k I;obtain ⟨i1,i2⟩:=step k (by lia);obtain ⟨c,hc,D,C⟩:=at_ k I;obtain ⟨e1,_⟩:=qN J hk hw he I D C;rw [hρ] at e1;have G:k < ls.length:=by lia
 have ek:ls=ls.take k++c::ls.drop (k + 1):=by
  rw [show c::ls.drop (k + 1)=ls.drop k by rw [Qcx G];congr 1;exact (Qah.mp hc).2.symm,Qc4]
 have go:∀(nx:Ad) (ot:Ax) (s:Nat) (a:Aj) (c:Nat) (r:Aj),(rnO nx ot s (a++c::r))[a.length]?=some ((ot.getD (stN nx s a) []).getD c .non):=fun nx ot s a c r=>by
  induction a generalizing s with
  | nil=>rfl
  | cons d a Z=>exact Z _
 have g:=go (rnG (nxT N (Y0 (2 ^ N.length) N) v (lgB v)) l) (l.map (otT N (Y0 (2 ^ N.length) N) v O Y)) 0 (ls.take k) c (ls.drop (k + 1));rw [<-ek,Qa0,Qfe (by lia),i1,Zio i2] at g;rw [g];congr 1;unfold otT;rw [Qar,GV C];rw [ho] at e1;generalize (Zjf N (Y0 (2 ^ N.length) N) v (min (k:Int) (lgB v:Int),G3 W ρ v k)).1=q at e1 ⊢;have hq:q.length=1:=by
  have:=congrArg List.length e1;rw [Qac] at this;exact this
 match q,hq,e1 with
 | [x],_,e1 =>
  have e1:bt x c=bt o k:=by
   injection e1
  show (if bt x c=1 then Y else O)=_;rw [e1]
inductive TyR(ys:Ai):A0->List Bool->Prop
 | nil:TyR ys [] []
 | sum {w:V} {r:A0} {ks:List Bool}:vA ys 10 w->TyR ys r (List.replicate (npw w) false++ks)->TyR ys (w::r) (false::ks)
 | clm {y:Str} {r:A0} {ks:List Bool}:y∈ZR->y∉ys->TyR ys r (List.replicate (nSum (.str y)) false++(List.replicate (nClm (.str y)) true++ks))->TyR ys (.str y::r) (true::ks)
def Zb6:∀y∈ZR,npw (.str y)=nSum (.str y) + nClm (.str y):=by decide +kernel
theorem TyR.facts{ys:Ai}{q:A0}{ks:List Bool}(h:TyR ys q ks):(∀w∈q,gI ys 10 w)/\Xz q/\zL q=ks.length:=by
 induction h with
 | nil=>exact ⟨(fun _ h=>nomatch h),trivial,rfl⟩
 | @sum w r ks hw _ D =>
  obtain ⟨h1,h2,C⟩:=D;rw [Qae,Qax] at C;refine ⟨fun v hv=>?_,⟨by lia,h2⟩,?_⟩
  ·rcases Qan.mp hv with rfl | hv
   ·exact .inl hw
   ·exact h1 v hv
  ·show zL r - npw w + 1=ks.length + 1
   lia
 | @clm y r ks G hn _ D =>
  obtain ⟨h1,h2,C⟩:=D;rw [Qae,Qae,Qax,Qax] at C;have e:=Zb6 y G;refine ⟨fun v hv=>?_,⟨by lia,h2⟩,?_⟩
  ·rcases Qan.mp hv with rfl | hv
   ·exact .inr ⟨y,rfl,G,hn⟩
   ·exact h1 v hv
  ·show zL r - npw (.str y) + 1=ks.length + 1
   lia
def Seg(ys:Ai)(b:Bool)(q:A0):Prop:=∀(r:A0) (ks:List Bool),TyR ys r ks->TyR ys (q++r) (b::ks)
theorem Zb7{ys:Ai}:∀{C:A0},(∀w∈C,vA ys 10 w)->Xz C->∀(r:A0) (ks:List Bool),TyR ys r ks->TyR ys (C++r) (List.replicate (zL C) false++ks)
 | [],_,_,r,ks,h=>h
 | w::q,hw,he,r,ks,h=>by
  have D:=Zb7 (fun v hv=>hw v (Qam _ hv)) he.2 r ks h;show TyR ys (w::(q++r)) (List.replicate (zL q - npw w + 1) false++ks);refine .sum (hw w Qaq) ?_;show TyR ys (q++r) (List.replicate (npw w) false++(List.replicate (zL q - npw w) false++ks));rw [<-Qca,List.replicate_append_replicate,show npw w + (zL q - npw w)=zL q by have:=he.1;lia];exact D
theorem Seg.sum{ys:Ai}{q:A0}(hw:∀w∈q,vA ys 10 w)(he:Xz q)(hs:zL q=1):Seg ys false q:=fun r ks h=>by
 have:=Zb7 hw he r ks h;rw [hs] at this;exact this
def Seg.ty{ys:Ai}{b:Bool}(h:Seg ys b v):TyR ys v [b]:=by
 have:=h [] [] .nil;rw [Qbq] at this;exact this
def vH(w:V)(r:A0):Yx (w::r)<=Yx r + 1:=by
 rw [W5]
 split <;> lia
def Ziv{y:Str}(h:y∉allR)(r:A0):Yx (.str y::r)=Yx r:=by
 rw [W5,ZN,Qaw fun z=>h (Qaz z),Nat.add_zero]
def claimC:∀y∈ZR,(y∈allR/\1<=npw (.str y)/\(y∈Zid->2<=npw (.str y)))\/(y∈Zbd/\y∉allR/\npw (.str y)=Zbb y):=by decide +kernel
theorem GY(W:Nat)(ρ:Str->Int):∀{u:A0},Xz u->∀r,YX W ρ (u++r)=YX W ρ u++YX W ρ r
 | [],_,r=>rfl
 | w::u,h,r=>by
  have q:=GY W ρ h.2 r;have hl:npw w<=(YX W ρ u).length:=by rw [GX];exact h.1
  show rwR W ρ w ((YX W ρ (u++r)).take (npw w))::(YX W ρ (u++r)).drop (npw w)=(rwR W ρ w ((YX W ρ u).take (npw w))::(YX W ρ u).drop (npw w))++YX W ρ r;rw [q,List.take_append_of_le_length hl,List.drop_append_of_le_length hl,Qft]
def rwR_bd(W:Nat)(ρ:Str->Int)(w:V)(is:Ak):0<=rwR W ρ w is/\rwR W ρ w is < 2 ^ W:=by
 have hp:=Xf W;have hm:∀z:Int,0<=z % 2 ^ W/\z % 2 ^ W < 2 ^ W:=fun z=>⟨Qb1 _ (by lia),Qbp _ hp⟩;unfold rwR
 split
 ·split
  ·exact GU (Zbz _ _) W
  ·exact hm _
 ·exact hm _
theorem Jg{W:Nat}{ρ:Str->Int}{o:Int}:∀{q:A0},YX W ρ q=[o]->0<=o/\o < 2 ^ W
 | [],h=>nomatch h
 | w::r,h=>by
  have e:rwR W ρ w ((YX W ρ r).take (npw w))=o:=(List.cons.inj h).1;rw [<-e];exact rwR_bd _ _ _ _
structure POk(nm:Ai)(b:Bool)(ws:A0):Prop where
 n3:nm.length<=3
 nd:nm.Nodup
 kp:∀y∈nm,y∉Yb
 ln:ws.length<=100
 sg:Seg nm b ws
 rm:Yx ws<=15
theorem POk.wc{b:Bool}(S:POk N b v):∀w∈v,zM N w:=fun w h=>by
 rcases S.sg.ty.facts.1 w h with h | ⟨y,rfl,C,hn⟩
 ·exact wD S.kp h
 ·rcases claimC y C with ⟨h1,h2,q⟩ | ⟨h1,h2,q⟩
  ·exact .inl ⟨y,rfl,h1,hn,h2,q⟩
  ·exact .inr (.inl ⟨y,rfl,h1,h2,hn,q⟩)
theorem POk.iz{b:Bool}(S:POk N b v):∀z:Int,V.int z∈v->0<=z/\z < 2 ^ 10:=fun z h=>by
 rcases S.sg.ty.facts.1 _ h with (⟨y,e,_⟩ | ⟨y,e,_⟩ | ⟨C,e,q,h1,_⟩) | ⟨y,e,_⟩
 ·cases e
 ·cases e
 ·cases e
  exact ⟨q,h1⟩
 ·cases e
def POk.big{b:Bool}(S:POk N b v):(10 + 1) * 2 ^ Yx v<=1000000:=by
 have:2 ^ Yx v<=2 ^ 15:=Qc8 (by decide) S.rm;lia
def POk.runs{b:Bool}{l:List (Int × Ak)}(S:POk N b v)(B:BfE (nxS N v) (0,List.replicate (Yx v) 0) l)(q G:V):Runs (rnG (nxS N v) l) (l.map (otT N (Y0 (2 ^ N.length) N) v q G)) N.length:=by
 obtain ⟨C,D⟩:=Zis B (n:=2 ^ N.length) (Ziq _ _ _ _);have hpos:0 < l.length:=Qfi B.begin.2;refine ⟨by rw [Xt];exact hpos,by rw [Xt,Qac],C,D,fun r hr=>?_⟩;obtain ⟨s,_,rfl⟩:=Qa2.mp hr;exact Zir _ _ _ _ _ _
structure Zb8(nm:Ai)(ws:A0)(ls:Aj)(o0 o1:V)(row:A0):Prop where
 len:row.length=ls.length
 bit:∀W,1<=W->W<=ls.length->∃o,YX W (XT (ls.take W) nm) ws=[o]/\∀k,k < W->row[k]?=some (if bt o k=1 then o1 else o0)
def POk.row{b:Bool}{l:List (Int × Ak)}{ls:Aj}(S:POk N b v)(B:BfE (nxS N v) (0,List.replicate (Yx v) 0) l)(C:∀x∈ls,x < 2 ^ N.length)(D G:V):Zb8 N v ls D G (rnO (rnG (nxS N v) l) (l.map (otT N (Y0 (2 ^ N.length) N) v D G)) 0 ls):=by
 refine ⟨zY _ _ _ _,fun W h1 h2=>?_⟩;have f:=S.sg.ty.facts;obtain ⟨o,ho⟩:∃o,YX W (XT (ls.take W) N) v=[o]:=by
  have h:=GX W (XT (ls.take W) N) v;rw [f.2.2] at h;generalize YX W (XT (ls.take W) N) v=q at h
  match q,h with
  | [o],_=>exact ⟨o,rfl⟩
 exact ⟨o,ho,Zb5 S.nd S.kp f.1 f.2.1 h2 C ho B⟩
def Zez(o:Int)(W:Nat):sm (fun k=>bt o k) W=o % 2 ^ W:=Zbh o W
def Zb8.num{ls:Aj}{row:A0}(R:Zb8 N v ls (.int 0) (.int 1) row){W:Nat}(h1:1<=W)(h2:W<=ls.length):∃(o:Int) (is:Ak),YX W (XT (ls.take W) N) v=[o]/\0<=o/\o < 2 ^ W/\row.take W=is.map V.int/\is.length=W/\(∀x∈is,x=0\/x=1)/\sm (fun k=>is.getD k 0) is.length=o:=by
 obtain ⟨o,ho,hb⟩:=R.bit W h1 h2;have q:=Jg ho;refine ⟨o,(List.range W).map fun k=>bt o k,ho,q.1,q.2,?_,by rw [Qac,Qay],fun x hx=>?_,?_⟩
 ·refine Qdw fun k=>?_
  rw [Qgq,Qaj,Qaj]
  by_cases hk:k < W
  ·rw [Qa1 hk,hb k hk,Qc0 hk]
   show some _=some (V.int (bt o k));rcases Y8 o k with e | e <;> rw [e] <;> rfl
  ·grind
 ·obtain ⟨k,_,rfl⟩:=Qa2.mp hx
  exact Y8 o k
 ·rw [Qac,Qay]
  have e:sm (fun k=>((List.range W).map fun k=>bt o k).getD k 0) W=sm (fun k=>bt o k) W:=GS fun i hi=>by
   grind
  rw [e,Zez,Qcr q.1 q.2]
def Yn.put{p P:Au}{kvs:Ay}{qual:Str}(h:Yn H P A qual)(e:H p=some (.dK kvs)):Yn (upd H p R) P A qual:=by
 rcases h with h | ⟨q,oc,h1,h2,C⟩
 ·refine .inl ?_
  rw [Zh (Xa h e fun z=>nomatch z)];exact h
 ·refine .inr ⟨q,oc,?_,?_,C⟩
  ·rw [Zh (Xa h1 e fun z=>nomatch z)]
   exact h1
  ·rw [Zh (Xa h2 e fun z=>nomatch z)]
   exact h2
def abc:Nat->Str
 | 0 => "a"
 | 1 => "b"
 | _ => "c"
def abc_inj:∀i j,i < 3->j < 3->abc i=abc j->i=j:=by
 intro i j hi q;have h:∀i∈[0,1,2],∀j∈[0,1,2],abc i=abc j->i=j:=by decide +kernel
 exact h i (by grind) j (by grind)
def nvR(nm:Ai)(ls:Aj)(q:A0):Int:=if ls.length=0 then 0 else (YX ls.length (XT ls nm) q).getD 0 0
def Zb8.all{ls:Aj}{row:A0}(R:Zb8 N v ls (.int 0) (.int 1) row):∃is:Ak,row=is.map V.int/\is.length=ls.length/\(∀x∈is,x=0\/x=1)/\sm (fun k=>is.getD k 0) is.length=nvR N ls v:=by
 unfold nvR
 by_cases q:ls.length=0
 ·rw [Qa1 q]
  have:row=[]:=Qby (by rw [R.len,q]);rw [this];exact ⟨[],rfl,q.symm,(fun _ h=>nomatch h),rfl⟩
 ·rw [Qaw q]
  obtain ⟨o,is,h1,h2,J,C,D,G,I⟩:=R.num (W:=ls.length) (by lia) (Qag _);rw [Qb3 (by rw [R.len];exact Qag _)] at C;rw [Qbi] at h1;rw [h1];exact ⟨is,C,D,G,I⟩
def qH.tups{H':Hp}{p:Au}{rs:Ax}(R:qH H p rs)(e:∀b xs,H b=some (.tup xs)->H' b=some (.tup xs)):qH H' p rs:=by
 obtain ⟨as,h1,h2,q⟩:=R;refine ⟨as,e _ _ h1,h2,fun i r hi=>?_⟩;obtain ⟨a,D,C⟩:=q i r hi;exact ⟨a,D,e _ _ C⟩
def M4.tups{H H':Hp}{m:Au}{nm:Ai}{b:Nat}{nx:Ad}{ot:Ax}(M:M4 H m nm b nx ot)(e:∀b xs,H b=some (.tup xs)->H' b=some (.tup xs)):M4 H' m nm b nx ot:=by
 obtain ⟨pn,ps,C,h1,h2,D,q⟩:=M.ex;exact ⟨⟨pn,ps,C,e _ _ h1,e _ _ h2,D.tups e,q.tups e⟩⟩
def qO{x y:V}(hx:Xs j x)(C:Xs j y):scal x y=true:=by
 rcases hx with ⟨e,a,rfl⟩ | ⟨e,a,rfl⟩ <;> rcases C with ⟨q,b,rfl⟩ | ⟨q,b,rfl⟩
 ·rfl
 ·rw [e] at q;cases q
 ·rw [e] at q;cases q
 ·rfl
section
variable {B:Nat->Nat->Prop}(fn:∀c d d',B c d->B c d'->d=d')(inj:∀c c' d,B c d->B c' d->c=c')
include fn inj
end
inductive Tr where
 | p | q | r
 | num (z:Int)
 | one (y:Str) (t:Tr)
 | two (y:Str) (t u:Tr)
 | thr (y:Str) (t u v:Tr)
def Tr.flat(P Q R:A0):Tr->List V
 | .p=>P
 | .q=>Q
 | .r=>R
 | .num z=>[.int z]
 | .one y t=>.str y::t.flat P Q R
 | .two y t u=>.str y::(t.flat P Q R++u.flat P Q R)
 | .thr y t u v=>.str y::(t.flat P Q R++(u.flat P Q R++v.flat P Q R))
def Tr.ev(m a b c:Int):Tr->Int
 | .p=>a
 | .q=>b
 | .r=>c
 | .num z=>z % m
 | .one y t=>Zj3 y (t.ev m a b c) % m
 | .two y t u=>Zj4 y (t.ev m a b c) (u.ev m a b c) % m
 | .thr _ t u v=>Builtin.bitOr (Builtin.bitAnd (t.ev m a b c) (u.ev m a b c)) (Builtin.bitAnd (Builtin.bitNot (t.ev m a b c)) (v.ev m a b c)) % m
def Tr.ok:Tr->Bool
 | .p=>true
 | .q=>true
 | .r=>true
 | .num z=>decide (0<=z/\z < 1000)
 | .one y t=>decide (y∈Wm/\Yo y=1) && t.ok
 | .two y t u=>decide (y∈Wm/\Yo y=2) && (t.ok && u.ok)
 | .thr y t u v=>decide (y∈Wm/\Yo y=3) && (t.ok && (u.ok && v.ok))
def Tr.sz:Tr->Nat
 | .p=>7
 | .q=>7
 | .r=>7
 | .num _=>1
 | .one _ t=>t.sz + 1
 | .two _ t u=>t.sz + u.sz + 1
 | .thr _ t u v=>t.sz + u.sz + v.sz + 1
def Tr.rs:Tr->Nat
 | .p=>1
 | .q=>1
 | .r=>1
 | .num _=>0
 | .one _ t=>t.rs + 1
 | .two _ t u=>t.rs + u.rs + 1
 | .thr _ t u v=>t.rs + u.rs + v.rs + 1
structure Prt(nm:Ai)(P:A0):Prop where
 g:Seg nm false P
 l:P.length<=7
 m:Yx P<=1
theorem Zb9{z:Int}(q:0<=z)(h1:z < 1000):Seg N false [.int z]:=Seg.sum (fun w hw=>by
 rw [Qal.mp hw];exact .inr (.inr ⟨z,rfl,q,Qgp h1 (by decide),Zil z⟩)) ⟨Qba _,trivial⟩ (by
 show 0 - npw (.int z) + 1=1;lia)
theorem Seg.w1{nm:Ai}{y:Str}{u:A0}(hk:∀y∈nm,y∉Yb)(q:y∈Wm)(hn:Yo y=1)(h:Seg nm false u):Seg nm false (.str y::u):=fun r ks hr=>by
 obtain ⟨w1,w2,_⟩:=zX hk q;refine .sum w1 ?_;rw [w2,hn];exact h r ks hr
theorem Seg.w2{nm:Ai}{y:Str}{u v:A0}(hk:∀y∈nm,y∉Yb)(q:y∈Wm)(hn:Yo y=2)(h:Seg nm false u)(g:Seg nm false v):Seg nm false (.str y::(u++v)):=fun r ks hr=>by
 obtain ⟨w1,w2,_⟩:=zX hk q;refine .sum w1 ?_;rw [w2,hn];show TyR nm ((u++v)++r) _;rw [Qca];exact h _ _ (g r ks hr)
theorem Seg.w3{y:Str}{u w:A0}(hk:∀y∈N,y∉Yb)(q:y∈Wm)(hn:Yo y=3)(h:Seg N false u)(g:Seg N false v)(f:Seg N false w):Seg N false (.str y::(u++(v++w))):=fun r ks hr=>by
 obtain ⟨w1,w2,_⟩:=zX hk q;refine .sum w1 ?_;rw [w2,hn];show TyR N ((u++(v++w))++r) _;rw [Qca,Qca];exact h _ _ (g _ _ (f r ks hr))
theorem Tr.seg{nm:Ai}{P Q R:A0}(hk:∀y∈nm,y∉Yb)(D:Prt nm P)(C:Prt nm Q)(hR:Prt nm R):∀{t:Tr},t.ok=true->Seg nm false (t.flat P Q R)/\(t.flat P Q R).length<=t.sz/\Yx (t.flat P Q R)<=t.rs
 | .p,_=>⟨D.g,D.l,D.m⟩
 | .q,_=>⟨C.g,C.l,C.m⟩
 | .r,_=>⟨hR.g,hR.l,hR.m⟩
 | .num z,h=>by
  have h:=Qaz h;refine ⟨Zb9 h.1 h.2,Qag _,?_⟩;show Yx [.int z]<=0;exact Qag _
 | .one y t,h=>by
  have h:=Qas.mp h;have h1:=Qaz h.1;obtain ⟨G,O,J⟩:=Tr.seg hk D C hR h.2;have:=vH (.str y) (t.flat P Q R);exact ⟨G.w1 hk h1.1 h1.2,by show _ + 1<=_ + 1;lia,by show Yx (_::_)<=_ + 1;lia⟩
 | .two y t u,h=>by
  have h:=Qas.mp h;have h1:=Qaz h.1;have h2:=Qas.mp h.2;obtain ⟨G,O,J⟩:=Tr.seg hk D C hR h2.1;obtain ⟨I,f2,Z⟩:=Tr.seg hk D C hR h2.2;have:=vH (.str y) (t.flat P Q R++u.flat P Q R);rw [WE] at this;refine ⟨G.w2 hk h1.1 h1.2 I,?_,by show Yx (_::_)<=_ + _ + 1;lia⟩;show (t.flat P Q R++u.flat P Q R).length + 1<=t.sz + u.sz + 1;rw [Qae];lia
 | .thr y t u v,h=>by
  have h:=Qas.mp h;have h1:=Qaz h.1;have h2:=Qas.mp h.2;have Y:=Qas.mp h2.2;obtain ⟨G,O,J⟩:=Tr.seg hk D C hR h2.1;obtain ⟨I,f2,Z⟩:=Tr.seg hk D C hR Y.1;obtain ⟨e1,e2,e3⟩:=Tr.seg hk D C hR Y.2;have:=vH (.str y) (t.flat P Q R++(u.flat P Q R++v.flat P Q R));rw [WE,WE] at this;refine ⟨G.w3 hk h1.1 h1.2 I e1,?_,by show Yx (_::_)<=_ + _ + _ + 1;lia⟩;show (t.flat P Q R++(u.flat P Q R++v.flat P Q R)).length + 1<=t.sz + u.sz + v.sz + 1;rw [Qae,Qae];lia
def ja{W:Nat}{ρ:Str->Int}{y:Str}{u:A0}{is:Ak}(q:y∈Wm)(hn:Yo y=is.length)(h:YX W ρ u=is):YX W ρ (.str y::u)=[wwv ρ (.str y) is % 2 ^ W]:=by
 have C:npw (.str y)=Yo y:=(Zbu y q).1;show rwR W ρ (.str y) ((YX W ρ u).take (npw (.str y)))::(YX W ρ u).drop (npw (.str y))=_;rw [h,C,hn,Qbi,Qe0];show [if y∈ZR then _ else _]=_;rw [Qaw (zZ y q)]
theorem Tr.run{nm:Ai}{P Q R:A0}{W:Nat}{ρ:Str->Int}{a b c:Int}(hk:∀y∈nm,y∉Yb)(D:Prt nm P)(C:Prt nm Q)(hR:Prt nm R)(ha:YX W ρ P=[a])(hb:YX W ρ Q=[b])(hc:YX W ρ R=[c]):∀{t:Tr},t.ok=true->YX W ρ (t.flat P Q R)=[t.ev (2 ^ W) a b c]
 | .p,_=>ha
 | .q,_=>hb
 | .r,_=>hc
 | .num z,_=>by
  show wwv ρ (.int z) _ % 2 ^ W::List.drop _ []=[z % 2 ^ W]
  rfl
 | .one y t,h=>by
  have h:=Qas.mp h;have h1:=Qaz h.1;exact ja (is:=[_]) h1.1 h1.2 (Tr.run hk D C hR ha hb hc h.2)
 | .two y t u,h=>by
  have h:=Qas.mp h;have h1:=Qaz h.1;have h2:=Qas.mp h.2;refine ja (is:=[_,_]) h1.1 h1.2 ?_;rw [GY W ρ (Tr.seg hk D C hR h2.1).1.ty.facts.2.1,Tr.run hk D C hR ha hb hc h2.1,Tr.run hk D C hR ha hb hc h2.2]
  rfl
 | .thr y t u v,h=>by
  have h:=Qas.mp h;have h1:=Qaz h.1;have h2:=Qas.mp h.2;have G:=Qas.mp h2.2;refine ja (is:=[_,_,_]) h1.1 h1.2 ?_;rw [GY W ρ (Tr.seg hk D C hR h2.1).1.ty.facts.2.1,GY W ρ (Tr.seg hk D C hR G.1).1.ty.facts.2.1,Tr.run hk D C hR ha hb hc h2.1,Tr.run hk D C hR ha hb hc G.1,Tr.run hk D C hR ha hb hc G.2]
  rfl
def qP{x:Int}{W:Nat}(h:∀k,k < W->bt x k=bt y k):x % 2 ^ W=y % 2 ^ W:=by
 rw [<-Zez,<-Zez];exact GS h
def mdA(x y m:Int):(x + y % m) % m=(x + y) % m:=by rw [Qho,Qha,<-Qho]
def mdB(x y m:Int):(x % m + y) % m=(x + y) % m:=by rw [Qho,Qha,<-Qho]
def mdC(x y m:Int):(x - y % m) % m=(x - y) % m:=by rw [Qhp,Qha,<-Qhp]
def mdD(x y m:Int):(x % m - y) % m=(x - y) % m:=by rw [Qhp,Qha,<-Qhp]
def mdE(x m:Int):(-(x % m)) % m=(-x) % m:=by
 have:=mdC 0 x m;rw [Int.zero_sub,Int.zero_sub] at this;exact this
def mdN(x m:Int):Builtin.bitNot (x % m) % m=Builtin.bitNot x % m:=by
 show (-(x % m) - 1) % m=(-x - 1) % m;rw [<-mdD,mdE,mdD]
theorem Zgb{nx:Ad}{ot:Ax}{n:Nat}(R:Runs nx ot n):∀{ls:Aj} {s:Nat},s < nx.length->(∀x∈ls,x < 2 ^ n)->stN nx s ls < nx.length
 | [],s,h,_=>h
 | c::ls,s,h,hl=>by
  have hc:=hl c Qaq;have q:=R.nr _ (getD_mem h);have hm:(nx.getD s []).getD c 0∈nx.getD s []:=Qai (getD_at (by lia));exact Zgb (ls:=ls) R (R.nl _ (getD_mem h) _ hm) fun x hx=>hl x (Qam _ hx)
def wH{b:Bool}{l:List (Int × Ak)}(S:POk N b v)(B:BfE (nxS N v) (0,List.replicate (Yx v) 0) l)(q C:V){ls:Aj}{c:Nat}(D:∀x∈ls++[c],x < 2 ^ N.length) :
  ((l.map (otT N (Y0 (2 ^ N.length) N) v q C)).getD (stN (rnG (nxS N v) l) 0 ls) []).getD c .non=if bt ((YX (ls.length + 1) (XT (ls++[c]) N) v).getD 0 0) ls.length=1 then C else q:=by
 have R:=S.row B D q C;obtain ⟨o,ho,hb⟩:=R.bit (ls.length + 1) (by lia) (by grind);have h:=hb ls.length (by lia);rw [wF,Qa7 (by rw [zY];exact Qag _),zY,Qfr] at h;have h:=Option.some.inj h;rw [Qb3 (by grind)] at ho;rw [h,ho]
 rfl
section
variable {nx:Nat->Nat->Nat}{ok:Nat->Nat->Bool}{k:Nat}
def Yz(nx:Nat->Nat->Nat)(ok:Nat->Nat->Bool):Nat->List Nat->Bool
 | _,[]=>false
 | s,l::[]=>ok s l
 | s,l::m::r=>Yz nx ok (nx s l) (m::r)
def Xu{s l:Nat}{r:Aj}(h:r≠[]):Yz nx ok s (l::r)=Yz nx ok (nx s l) r:=by
 cases r with
 | nil=>exact absurd rfl h
 | cons m r=>rfl
def RIn:Aj->List (Aj)->Prop
 | [],[]=>True
 | l::r,L::Ls=>l∈L/\RIn r Ls
 | _,_=>False
theorem RIn.len:∀{r:Aj} {Ls:Ad},RIn r Ls->r.length=Ls.length
 | [],[],_=>rfl
 | _::_,_::_,h=>congrArg (· + 1) h.2.len
 | [],_::_,h=>h.elim
 | _::_,[],h=>h.elim
def RIn.uncons{r:Aj}{L:Aj}{Ls:Ad}(h:RIn r (L::Ls)):∃l q,r=l::q/\l∈L/\RIn q Ls:=by
 cases r with
 | nil=>exact h.elim
 | cons l q=>exact ⟨l,q,rfl,h.1,h.2⟩
def Gi(k l:Nat):Nat:=l / 2 ^ k % 2
def jb(k l:Nat):Gi k l < 2:=Nat.mod_lt _ (by decide)
def chs(k b:Nat)(L:Aj):Aj:=L.filter fun l=>decide (Gi k l=b)
def W6{b l:Nat}{L:Aj}:l∈chs k b L↔l∈L/\Gi k l=b:=by
 unfold chs;rw [Qdi,Qcb]
def valN(k:Nat):Aj->Nat
 | []=>0
 | l::r=>Gi k l + 2 * valN k r
def Zca:Aj->Nat
 | []=>0
 | b::r=>b + 2 * Zca r
def gw(nx:Nat->Nat->Nat)(ok:Nat->Nat->Bool)(W:Option (Aj))(s l:Nat):Bool:=match W with
 | none=>ok s l
 | some W=>decide (nx s l∈W)
def goB(nx:Nat->Nat->Nat)(ok:Nat->Nat->Bool)(W:Option (Aj))(S L:Aj):Aj:=S.filter fun s=>L.any fun l=>gw nx ok W s l
def jc{W:Option (Aj)}{L:Aj}{s:Nat}:s∈goB nx ok W S L↔s∈S/\∃l∈L,gw nx ok W s l=true:=by
 unfold goB;rw [Qdi,Qeh]
def cho(k:Nat):Aj->List (Aj)->List (Aj)
 | b::bs,L::Ls=>chs k b L::cho k bs Ls
 | _,_=>[]
def yy(nx:Nat->Nat->Nat)(ok:Nat->Nat->Bool)(k:Nat)(W:Option (Aj))(S L:Aj):Nat:=if goB nx ok W S (chs k 0 L)=[] then 1 else 0
def lwb(nx:Nat->Nat->Nat)(ok:Nat->Nat->Bool)(k:Nat):Ad->List (Aj)->List Nat × Option (Aj)
 | S::q,L::Ls=>(yy nx ok k (lwb nx ok k q Ls).2 S L::(lwb nx ok k q Ls).1,some (goB nx ok (lwb nx ok k q Ls).2 S (chs k (yy nx ok k (lwb nx ok k q Ls).2 S L) L)))
 | _,_=>([],none)
def yL(nx:Nat->Nat->Nat)(S L:Aj):Aj:=(S.flatMap fun s=>L.map (nx s)).foldl Yt []
def lys(nx:Nat->Nat->Nat):Aj->List (Aj)->List (Aj)
 | _,[]=>[]
 | S,L::Ls=>S::lys nx (yL nx S L) Ls
def JH{L:Aj}{x:Nat}:x∈yL nx S L↔∃s∈S,∃l∈L,nx s l=x:=by
 unfold yL;rw [GW,List.mem_flatMap]
 constructor
 ·grind
 ·grind
def Zcb(W:Option (Aj))(S L:Aj):yy nx ok k W S L<=1:=by
 unfold yy
 split <;> decide
theorem Zcc:∀{bs:Aj} {Ls:Ad} {r:Aj},bs.length=Ls.length->(RIn r (cho k bs Ls)↔RIn r Ls/\valN k r=Zca bs/\∀b∈bs,b < 2)\/¬∀b∈bs,b < 2
 | [],[],r,_=>.inl ⟨fun h=>⟨h,by cases r with | nil=>exact ⟨rfl,fun _ z=>nomatch z⟩ | cons _ _=>exact h.elim⟩,fun h=>h.1⟩
 | b::bs,L::Ls,r,h=>by
  by_cases hb:∀x∈b::bs,x < 2
  ·refine .inl ⟨fun q=>?_,fun ⟨O,G,_⟩=>?_⟩
   ·obtain ⟨l,C,rfl,h1,h2⟩:=q.uncons
    obtain ⟨J,Y⟩:=W6.mp h1;rcases Zcc (r:=C) (show bs.length=Ls.length by simpa using h) with z | z
    ·obtain ⟨I,D,Z⟩:=z.mp h2
     exact ⟨⟨J,I⟩,by show Gi k l + 2 * valN k C=b + 2 * Zca bs;rw [Y,D],hb⟩
    ·grind
   ·obtain ⟨l,C,rfl,h1,h2⟩:=O.uncons
    have e:Gi k l + 2 * valN k C=b + 2 * Zca bs:=G;have:=jb k l;have:=hb b Qaq;rcases Zcc (r:=C) (show bs.length=Ls.length by simpa using h) with z | z
    ·exact ⟨W6.mpr ⟨h1,by lia⟩,z.mpr ⟨h2,by lia,fun x hx=>hb x (Qam _ hx)⟩⟩
    ·grind
  ·exact .inr hb
 | [],_::_,_,h=>nomatch h
 | _::_,[],_,h=>nomatch h
theorem vI:∀(Ls:Ad) (S:Aj),(lwb nx ok k (lys nx S Ls) Ls).1.length=Ls.length/\∀b∈(lwb nx ok k (lys nx S Ls) Ls).1,b < 2
 | [],_=>⟨rfl,fun _ h=>nomatch h⟩
 | L::Ls,S=>by
  obtain ⟨h1,h2⟩:=vI Ls (yL nx S L);refine ⟨congrArg (· + 1) h1,fun b hb=>?_⟩;rcases Qan.mp hb with rfl | hb
  ·exact Nat.lt_succ_of_le (Zcb _ _ _)
  ·exact h2 b hb
def vJ{Ls:Ad}{r:Aj}:RIn r (cho k (lwb nx ok k (lys nx S Ls) Ls).1 Ls)↔RIn r Ls/\valN k r=Zca (lwb nx ok k (lys nx S Ls) Ls).1:=by
 obtain ⟨h1,h2⟩:=vI (nx:=nx) (ok:=ok) (k:=k) Ls S;rcases Zcc (k:=k) (r:=r) h1 with z | z
 ·grind
 ·exact absurd h2 z
structure LwOk(nx:Nat->Nat->Nat)(ok:Nat->Nat->Bool)(k:Nat)(Ls:Ad)(S:Aj)(W:Aj):Prop where
 w:(lwb nx ok k (lys nx S Ls) Ls).2=some W
 a:∀s,s∈W↔s∈S/\∃r,RIn r (cho k (lwb nx ok k (lys nx S Ls) Ls).1 Ls)/\Yz nx ok s r=true
 b:∀s∈S,∀r,RIn r Ls->Yz nx ok s r=true->Zca (lwb nx ok k (lys nx S Ls) Ls).1<=valN k r
 c:(∃s∈S,∃r,RIn r Ls/\Yz nx ok s r=true)->W≠[]
theorem Zkg:∀(Ls:Ad) (S:Aj),Ls≠[]->∃W,LwOk nx ok k Ls S W
 | [],_,h=>absurd rfl h
 | L::Ls,S,_=>by
  have key:(∀s∈S,∀l∈L,(gw nx ok (lwb nx ok k (lys nx (yL nx S L) Ls) Ls).2 s l=true↔∃C,RIn C (cho k (lwb nx ok k (lys nx (yL nx S L) Ls) Ls).1 Ls)/\Yz nx ok s (l::C)=true)) /\
    (∀s∈S,∀l∈L,∀C,RIn C Ls->Yz nx ok s (l::C)=true->Zca (lwb nx ok k (lys nx (yL nx S L) Ls) Ls).1<=valN k C) /\
    ((∃s∈S,∃l∈L,∃C,RIn C Ls/\Yz nx ok s (l::C)=true)->∃s∈S,∃l∈L,gw nx ok (lwb nx ok k (lys nx (yL nx S L) Ls) Ls).2 s l=true):=by
   cases Ls with
   | nil =>
    refine ⟨fun s hs l hl=>⟨fun h=>⟨[],trivial,h⟩,fun ⟨C,h1,h2⟩=>?_⟩,fun s hs l hl C _ _=>Qba _,fun ⟨s,hs,l,hl,C,h1,h2⟩=>⟨s,hs,l,hl,?_⟩⟩
    ·cases C with
     | nil=>exact h2
     | cons _ _=>exact h1.elim
    ·cases C with
     | nil=>exact h2
     | cons _ _=>exact h1.elim
   | cons L' D =>
    obtain ⟨W,I⟩:=Zkg (L'::D) (yL nx S L) (by simp);have ne:∀{C:Aj} {M:Aj} {Ms:Ad},RIn C (M::Ms)->C≠[]:=fun {C M Ms} h z=>by rw [z] at h;exact h
    have Z:∀{C:Aj},RIn C (cho k (lwb nx ok k (lys nx (yL nx S L) (L'::D)) (L'::D)).1 (L'::D))->C≠[]:=fun {C} h=>ne (vJ.mp h).1;refine ⟨fun s hs l hl=>?_,fun s hs l hl C h1 h2=>?_,fun ⟨s,hs,l,hl,C,h1,h2⟩=>?_⟩
    ·rw [I.w]
     show decide (nx s l∈W)=true↔_;rw [Qcb,I.a]
     constructor
     ·rintro ⟨_,C,h1,h2⟩
      exact ⟨C,h1,by rw [Xu (Z h1)];exact h2⟩
     ·rintro ⟨C,h1,h2⟩
      rw [Xu (Z h1)] at h2;exact ⟨JH.mpr ⟨s,hs,l,hl,rfl⟩,C,h1,h2⟩
    ·rw [Xu (ne h1)] at h2
     exact I.b _ (JH.mpr ⟨s,hs,l,hl,rfl⟩) C h1 h2
    ·rw [Xu (ne h1)] at h2
     have hW:=I.c ⟨_,JH.mpr ⟨s,hs,l,hl,rfl⟩,C,h1,h2⟩;obtain ⟨x,hx⟩:=List.exists_mem_of_ne_nil _ hW;obtain ⟨s0,G,J,O,e⟩:=JH.mp ((I.a x).mp hx).1;refine ⟨s0,G,J,O,?_⟩;rw [I.w];show decide (nx s0 J∈W)=true;rw [e];exact Qao hx
  obtain ⟨k1,k2,k3⟩:=key;have cl:=fun C=>vJ (nx:=nx) (ok:=ok) (k:=k) (Ls:=Ls) (S:=yL nx S L) (r:=C);generalize hT:lwb nx ok k (lys nx (yL nx S L) Ls) Ls=T at k1 k2 k3 cl;have e:lwb nx ok k (lys nx S (L::Ls)) (L::Ls)=(yy nx ok k T.2 S L::T.1,some (goB nx ok T.2 S (chs k (yy nx ok k T.2 S L) L))):=by rw [<-hT];rfl
  refine ⟨goB nx ok T.2 S (chs k (yy nx ok k T.2 S L) L),?_,?_,?_,?_⟩
  ·rw [e]
  ·intro s
   rw [e,jc]
   constructor
   ·rintro ⟨hs,l,hl,h⟩
    obtain ⟨C,h1,h2⟩:=(k1 s hs l (W6.mp hl).1).mp h;exact ⟨hs,l::C,⟨hl,h1⟩,h2⟩
   ·rintro ⟨hs,r,h1,h2⟩
    obtain ⟨l,C,rfl,hl,Y⟩:=RIn.uncons h1;exact ⟨hs,l,hl,(k1 s hs l (W6.mp hl).1).mpr ⟨C,Y,h2⟩⟩
  ·intro s hs r h1 h2
   obtain ⟨l,C,rfl,hl,Y⟩:=RIn.uncons h1;rw [e];show yy nx ok k T.2 S L + 2 * Zca T.1<=Gi k l + 2 * valN k C;have q1:=k2 s hs l hl C Y h2;have q2:=Zcb (nx:=nx) (ok:=ok) (k:=k) T.2 S L;rcases Qc3 (Zca T.1) (valN k C) with q | q
   ·lia
   ·have q3:valN k C=Zca T.1:=by lia
    have q4:=(k1 s hs l hl).mpr ⟨C,(cl C).mpr ⟨Y,q3⟩,h2⟩;have q5:yy nx ok k T.2 S L<=Gi k l:=by
     unfold yy
     split
     ·rename_i hz
      have:Gi k l≠0:=fun z=>by
       have:s∈goB nx ok T.2 S (chs k 0 L):=jc.mpr ⟨hs,l,W6.mpr ⟨hl,z⟩,q4⟩;rw [hz] at this;cases this
      lia
     ·exact Qba _
    lia
  ·rintro ⟨s,hs,r,h1,h2⟩ hz
   obtain ⟨l,C,rfl,hl,Y⟩:=RIn.uncons h1;obtain ⟨s0,G,J,O,h4⟩:=k3 ⟨s,hs,l,hl,C,Y,h2⟩;have no:∀b,Gi k J=b->goB nx ok T.2 S (chs k b L)≠[]:=fun b hb z=>by
    have:s0∈goB nx ok T.2 S (chs k b L):=jc.mpr ⟨G,J,W6.mpr ⟨O,hb⟩,h4⟩;rw [z] at this;cases this
   have h01:=jb k J;unfold yy at hz
   split at hz
   ·rename_i h0
    exact no 1 (by have:Gi k J≠0:=fun z=>no 0 z h0;lia) hz
   ·rename_i h0
    exact h0 hz
end
def itL(nx:Nat->Nat->Nat)(ok:Nat->Nat->Bool)(b:Nat)(Ls:Ad):Nat->List (Aj)
 | 0=>Ls
 | k + 1=>cho k (lwb nx ok k (lys nx [b] (itL nx ok b Ls k)) (itL nx ok b Ls k)).1 (itL nx ok b Ls k)
section
variable {nx:Nat->Nat->Nat}{ok:Nat->Nat->Bool}{b:Nat}{Ls:Ad}
def itB(nx:Nat->Nat->Nat)(ok:Nat->Nat->Bool)(b:Nat)(Ls:Ad)(k:Nat):Nat:=Zca (lwb nx ok k (lys nx [b] (itL nx ok b Ls k)) (itL nx ok b Ls k)).1
def Zcd{k:Nat}{r:Aj}:RIn r (itL nx ok b Ls (k + 1))↔RIn r (itL nx ok b Ls k)/\valN k r=itB nx ok b Ls k:=vJ
theorem JI{r:Aj}:∀{k:Nat},RIn r (itL nx ok b Ls k)->RIn r Ls/\∀j,j < k->valN j r=itB nx ok b Ls j
 | 0,h=>⟨h,fun j q=>absurd q (Qd0 _)⟩
 | k + 1,h=>by
  obtain ⟨h1,h2⟩:=Zcd.mp h;obtain ⟨D,C⟩:=JI h1;refine ⟨D,fun j q=>?_⟩
  by_cases e:j=k
  ·rw [e];exact h2
  ·exact C j (by lia)
theorem Zce(C:Ls≠[])(h:∃r,RIn r Ls/\Yz nx ok b r=true):∀k,itL nx ok b Ls k≠[]/\(∃r,RIn r (itL nx ok b Ls k)/\Yz nx ok b r=true) /\
  ∀r,RIn r Ls->Yz nx ok b r=true->RIn r (itL nx ok b Ls k)\/∃j,j < k/\(∀i,i < j->valN i r=itB nx ok b Ls i)/\itB nx ok b Ls j < valN j r
 | 0=>⟨C,h,fun r h1 _=>.inl h1⟩
 | k + 1=>by
  obtain ⟨O,⟨r0,g1,Z⟩,Y⟩:=Zce C h k;obtain ⟨W,I⟩:=Zkg (nx:=nx) (ok:=ok) (k:=k) (itL nx ok b Ls k) [b] O;have hW:=I.c ⟨b,Qal.mpr rfl,r0,g1,Z⟩;obtain ⟨x,hx⟩:=List.exists_mem_of_ne_nil _ hW;obtain ⟨hb,J,h1,h2⟩:=(I.a x).mp hx;rw [Qal.mp hb] at h2;refine ⟨fun z=>?_,⟨J,h1,h2⟩,fun r q1 G=>?_⟩
  ·have h1:RIn J (itL nx ok b Ls (k + 1)):=h1
   have l1:=h1.len;have l2:=(Zcd.mp h1).1.len;rw [z] at l1;cases hz:itL nx ok b Ls k with
   | nil=>exact O hz
   | cons _ _=>rw [hz,l1] at l2;cases l2
  ·rcases Y r q1 G with q | ⟨j,hj,q3,q4⟩
   ·have le:=I.b b (Qal.mpr rfl) r q G
    rcases Qc3 (itB nx ok b Ls k) (valN k r) with D | D
    ·exact .inr ⟨k,Qco k,(JI q).2,D⟩
    ·have le:itB nx ok b Ls k<=valN k r:=le
     exact .inl (Zcd.mpr ⟨q,by lia⟩)
   ·grind
end
theorem Ze0:∀{l m:Nat},l < 2 ^ n->m < 2 ^ n->(∀k,k < n->Gi k l=Gi k m)->l=m:=by
 induction n with
 | zero=>intro l m h1 h2 _;lia
 | succ n C =>
  intro l m h1 h2 h;have q:=h 0 (Nat.succ_pos _);unfold Gi at q;have:=C (l:=l / 2) (m:=m / 2) (by lia) (by lia) fun k hk=>by
   have:=h (k + 1) (by lia);unfold Gi at this ⊢;rw [Nat.pow_succ',<-Nat.div_div_eq_div_mul,<-Nat.div_div_eq_div_mul] at this;exact this
  lia
theorem Zcf{n:Nat}:∀{r t:Aj},r.length=t.length->(∀l∈r,l < 2 ^ n)->(∀l∈t,l < 2 ^ n)->(∀k,k < n->valN k r=valN k t)->r=t
 | [],[],_,_,_,_=>rfl
 | l::r,m::t,h,h1,h2,q=>by
  have hb:∀k,k < n->Gi k l=Gi k m/\valN k r=valN k t:=fun k hk=>by
   have e:Gi k l + 2 * valN k r=Gi k m + 2 * valN k t:=q k hk;have:=jb k l;have:=jb k m;lia
  rw [Ze0 (h1 l Qaq) (h2 m Qaq) fun k hk=>(hb k hk).1,Zcf (by simpa using h) (fun x hx=>h1 x (Qam _ hx)) (fun x hx=>h2 x (Qam _ hx)) fun k hk=>(hb k hk).2]
 | [],_::_,h,_,_,_=>nomatch h
 | _::_,[],h,_,_,_=>nomatch h
structure GZ(nx:Nat->Nat->Nat)(ok:Nat->Nat->Bool)(b n w:Nat)(r:Aj):Prop where
 len:r.length=w
 lt:∀l∈r,l < 2 ^ n
 last:Yz nx ok b r=true
 fst:∀t:Aj,t.length=w->(∀l∈t,l < 2 ^ n)->Yz nx ok b t=true->t=r\/∃j,j < n/\(∀i,i < j->valN i t=valN i r)/\valN j r < valN j t
theorem Gj{n:Nat}:∀{w:Nat} {r:Aj},RIn r (List.replicate w (List.range n))↔r.length=w/\∀l∈r,l < n
 | 0,[]=>⟨fun _=>⟨rfl,fun _ h=>nomatch h⟩,fun _=>trivial⟩
 | 0,_::_=>⟨fun h=>h.elim,fun h=>nomatch h.1⟩
 | w + 1,[]=>⟨fun h=>h.elim,fun h=>nomatch h.1⟩
 | w + 1,l::r=>by
  show l∈List.range n/\RIn r _↔_;rw [Gj,Qcm]
  constructor
  ·grind
  ·rintro ⟨h1,h2⟩
   exact ⟨h2 l Qaq,by simpa using h1,fun x hx=>h2 x (Qam _ hx)⟩
theorem yz:∀{r:Aj} {Ls:Ad},RIn r Ls->RIn (Ls.map fun L=>L.headD 0) Ls
 | [],[],_=>trivial
 | l::r,L::Ls,h=>by
  refine ⟨?_,yz h.2⟩;cases L with
  | nil=>exact nomatch h.1
  | cons x L=>exact Qaq
 | [],_::_,h=>h.elim
 | _::_,[],h=>h.elim
def Zcg{nx:Nat->Nat->Nat}{ok:Nat->Nat->Bool}{b w:Nat}(hw:0 < w)(h:∃r,r.length=w/\(∀l∈r,l < 2 ^ n)/\Yz nx ok b r=true) :
  GZ nx ok b n w ((itL nx ok b (List.replicate w (List.range (2 ^ n))) n).map fun L=>L.headD 0):=by
 have C:List.replicate w (List.range (2 ^ n))≠[]:=fun z=>by
  have:=congrArg List.length z;rw [Qax] at this;have:w=0:=this;lia
 obtain ⟨r,h1,h2,Y⟩:=h;obtain ⟨_,⟨Z,I,g2⟩,J⟩:=Zce (nx:=nx) (ok:=ok) (b:=b) C ⟨r,Gj.mpr ⟨h1,h2⟩,Y⟩ n;have hh:=yz I;obtain ⟨a1,a2⟩:=JI I;obtain ⟨b1,b2⟩:=JI hh;have q:=Gj.mp a1;have D:=Gj.mp b1;have e:Z=(itL nx ok b (List.replicate w (List.range (2 ^ n))) n).map fun L=>L.headD 0:=Zcf (n:=n) (by rw [q.1,D.1]) q.2 D.2 fun k hk=>by rw [a2 k hk,b2 k hk]
 rw [<-e];refine ⟨q.1,q.2,g2,fun t G t2 t3=>?_⟩;rcases J t (Gj.mpr ⟨G,t2⟩) t3 with z | ⟨j,hj,z1,z2⟩
 ·obtain ⟨d1,O⟩:=JI z
  exact .inl (Zcf (n:=n) (by rw [G,q.1]) t2 q.2 fun k hk=>by rw [O k hk,a2 k hk])
 ·grind
structure RgO(R:Ad)(kk:Nat->Nat):Prop where
 e:∀i,i<=R.length->Zkc R 0 i=List.range (kk i)
 go:∀i,i < R.length->i < kk i
 le:∀i,i<=R.length->kk i<=R.length
 z:kk 0=1
def RgO.step{R:Ad}{kk:Nat->Nat}(G:RgO R kk)(hi:i < R.length):(R.getD i []).foldl Yt (List.range (kk i))=List.range (kk (i + 1)):=by
 have h:=G.e (i + 1) hi;have h2:Zkb R (Zkc R 0 i) i=List.range (kk (i + 1)):=h;rw [G.e i (Qav hi)] at h2;unfold Zkb at h2;rw [show (List.range (kk i)).getD i 0=i by rw [Qar,Qc0 (G.go i hi)];rfl] at h2;exact h2
def RgO.part{R:Ad}{kk:Nat->Nat}(G:RgO R kk)(hi:i < R.length)(j:Nat):∃k,((R.getD i []).take j).foldl Yt (List.range (kk i))=List.range k/\kk i<=k/\k<=kk (i + 1):=by
 have h:=G.step hi;have e:(R.getD i []).foldl Yt (List.range (kk i))=((R.getD i []).drop j).foldl Yt (((R.getD i []).take j).foldl Yt (List.range (kk i))):=by rw [<-Qc2,Qc4]
 obtain ⟨r,e2⟩:=Jz ((R.getD i []).drop j) (((R.getD i []).take j).foldl Yt (List.range (kk i)));obtain ⟨D,e3⟩:=Jz ((R.getD i []).take j) (List.range (kk i));rw [e,e2] at h;have q:=congrArg List.length e3;have C:=congrArg List.length h;rw [Qae,Qay] at q;rw [Qae,Qay] at C;refine ⟨(((R.getD i []).take j).foldl Yt (List.range (kk i))).length,?_,by lia,by lia⟩;have:=congrArg (List.take (((R.getD i []).take j).foldl Yt (List.range (kk i))).length) h;rw [List.take_left,List.take_range,Qfe (by lia)] at this;exact this
def RgO.more{R:Ad}{kk:Nat->Nat}(G:RgO R kk)(hi:i < R.length){j k t:Nat}(q:(R.getD i [])[j]?=some t)(hk:((R.getD i []).take j).foldl Yt (List.range (kk i))=List.range k) :
  (t < k/\((R.getD i []).take (j + 1)).foldl Yt (List.range (kk i))=List.range k)\/(t=k/\((R.getD i []).take (j + 1)).foldl Yt (List.range (kk i))=List.range (k + 1)):=by
 have e:((R.getD i []).take (j + 1)).foldl Yt (List.range (kk i))=Yt (List.range k) t:=by rw [take_snoc q,Qc2,hk];rfl
 rcases Qc3 t k with h | h
 ·exact .inl ⟨h,by rw [e];exact Qa1 (Qcm.mpr h)⟩
 ·have e1:Yt (List.range k) t=List.range k++[t]:=Qaw fun z=>absurd (Qcm.mp z) (by lia)
  obtain ⟨C,e2,_,_⟩:=G.part hi (j + 1);rw [e,e1] at e2;have hl:=congrArg List.length e2;rw [Qae,Qay,Qay] at hl;have hl:k + 1=C:=hl;subst hl;rw [Qdy] at e2;have:=(List.append_inj e2 rfl).2;injection this with this;exact .inr ⟨this,by rw [e,e1,this,Qdy]⟩
def dwN(kk:Nat->Nat):Nat->List Nat
 | 0=>[1]
 | i + 1=>dwN kk i++List.replicate (kk (i + 1) - kk i) ((dwN kk i).getD i 0 + 1)
section
variable {R:Ad}{kk:Nat->Nat}
theorem Gk(G:RgO R kk):∀i,i<=R.length->(dwN kk i).length=kk i
 | 0,_=>G.z.symm
 | i + 1,h=>by
  have q:=Gk G i (by lia);obtain ⟨k,_,h1,h2⟩:=G.part (show i < R.length from h) 0;show (dwN kk i++_).length=_;rw [Qae,Qax,q];lia
def XW{t:Nat}(h:t < (dwN kk i).length):(dwN kk (i + 1)).getD t 0=(dwN kk i).getD t 0:=by
 show (dwN kk i++_).getD t 0=_;rw [Qar,Qbg h,Qar]
def jd{t:Nat}(h:(dwN kk i).length<=t)(h2:t < (dwN kk (i + 1)).length):(dwN kk (i + 1)).getD t 0=(dwN kk i).getD i 0 + 1:=by
 have h2:t < (dwN kk i++List.replicate (kk (i + 1) - kk i) ((dwN kk i).getD i 0 + 1)).length:=h2;rw [Qae,Qax] at h2;show (dwN kk i++_).getD t 0=_;rw [Qar,Qa7 h,List.getElem?_replicate,Qa1 (by lia)]
 rfl
theorem wI{i:Nat}:∀(d:Nat) {t:Nat},t < (dwN kk i).length->(dwN kk (i + d)).getD t 0=(dwN kk i).getD t 0/\t < (dwN kk (i + d)).length
 | 0,t,h=>⟨rfl,h⟩
 | d + 1,t,h=>by
  obtain ⟨h1,h2⟩:=wI d h;refine ⟨by rw [<-h1];exact XW h2,?_⟩;show t < (dwN kk (i + d)++_).length;rw [Qae];lia
structure DwOk(R:Ad)(kk:Nat->Nat)(L i:Nat):Prop where
 mono:∀t t',t<=t'->t' < (dwN kk i).length->(dwN kk i).getD t 0<=(dwN kk i).getD t' 0
 top:∀j,j < i->∀t,t < (dwN kk i).length->(j + 1=i->(dwN kk i).getD t 0<=(dwN kk i).getD j 0 + 1)
 way:∀t,t < (dwN kk i).length->∃ls:Aj,ls.length + 1=(dwN kk i).getD t 0/\(∀x∈ls,x < L)/\stN R 0 ls=t
 edge:∀j,j < i->∀t∈R.getD j [],t < (dwN kk i).length/\(dwN kk i).getD t 0<=(dwN kk i).getD j 0 + 1
theorem Zkh(G:RgO R kk){L:Nat}(hr:∀r∈R,r.length=L):∀i,i<=R.length->DwOk R kk L i
 | 0,_=>by
  have one:∀t,t < (dwN kk 0).length->t=0:=fun t h=>Nat.lt_one_iff.mp h;refine ⟨fun t t' h h'=>?_,fun j Y=>absurd Y (Qd0 _),fun t h=>⟨[],?_,(fun _ z=>nomatch z),?_⟩,fun j Y=>absurd Y (Qd0 _)⟩
  ·rw [one t (by lia),one t' h']
   exact Qag _
  ·rw [one t h];rfl
  ·rw [one t h];rfl
 | i + 1,h=>by
  have I:=Zkh G hr i (by lia);have hl:=Gk G i (by lia);have Z:=Gk G (i + 1) h;have hi:i < R.length:=h;have J:i < (dwN kk i).length:=by rw [hl];exact G.go i hi
  have all:∀t,t < (dwN kk i).length->(dwN kk i).getD t 0<=(dwN kk i).getD i 0 + 1:=fun t C=>by
   cases i with
   | zero =>
    have h1:t < 1:=C;have:t=0:=by lia
    rw [this];exact Qdn _
   | succ j =>
    have h1:=I.top j (Qco j) t C rfl;have h2:=I.mono j (j + 1) (Qdn _) J;lia
  have vi:(dwN kk (i + 1)).getD i 0=(dwN kk i).getD i 0:=XW J;have bd:∀t,t < (dwN kk (i + 1)).length->(dwN kk (i + 1)).getD t 0<=(dwN kk i).getD i 0 + 1:=fun t C=>by
   rcases Qc3 t (dwN kk i).length with q | q
   ·rw [XW q]
    exact all t q
   ·rw [jd q C]
    exact Qag _
  refine ⟨fun t t' htt ht'=>?_,fun j Y t C e=>?_,fun t C=>?_,fun j Y t C=>?_⟩
  ·rcases Qc3 t' (dwN kk i).length with q | q
   ·rw [XW q,XW (by lia)]
    exact I.mono t t' htt q
   ·rw [jd q ht']
    exact bd t (by lia)
  ·have:j=i:=by lia
   rw [this,vi];exact bd t C
  ·rcases Qc3 t (dwN kk i).length with q | q
   ·rw [XW q]
    exact I.way t q
   ·rw [jd q C]
    obtain ⟨ls,h1,h2,h3⟩:=I.way i J;have D:t∈(R.getD i []).foldl Yt (List.range (kk i)):=by rw [G.step hi];exact Qcm.mpr (by lia)
    rcases (GW _ _).mp D with z | z
    ·exact absurd (Qcm.mp z) (by lia)
    ·obtain ⟨c,hc⟩:=Qct z
     refine ⟨ls++[c],by rw [Qae,<-h1];rfl,fun x hx=>?_,?_⟩
     ·grind
     ·rw [XU,h3,Qar (l:=R.getD i []),hc]
      rfl
  ·by_cases e:j=i
   ·rw [e] at C ⊢
    have D:t∈(R.getD i []).foldl Yt (List.range (kk i)):=(GW _ _).mpr (.inr C);rw [G.step hi] at D;have O:t < (dwN kk (i + 1)).length:=by rw [Z];exact Qcm.mp D
    exact ⟨O,by rw [vi];exact bd t O⟩
   ·obtain ⟨h1,h2⟩:=I.edge j (by lia) t C
    have h3:(dwN kk (i + 1)).getD j 0=(dwN kk i).getD j 0:=XW (by lia);rw [XW h1,h3];refine ⟨?_,h2⟩;show t < (dwN kk i++_).length;rw [Qae];lia
theorem vK(G:RgO R kk)(hr:∀r∈R,r.length=L){ok:Nat->Nat->Bool}{c:Nat}(hi:i < R.length)(hc:c < L)(ht:ok i c=true)(hno:∀j,j < i->∀c,c < L->ok j c=false) :
  1<=(dwN kk i).getD i 0/\(∃ls:Aj,ls.length + 1=(dwN kk i).getD i 0/\(∀x∈ls,x < L)/\ok (stN R 0 ls) c=true)/\∀(ls:Aj) (d:Nat),(∀x∈ls,x < L)->d < L->ok (stN R 0 ls) d=true->(dwN kk i).getD i 0<=ls.length + 1:=by
 have D:=Zkh G hr i (Qav hi);have hl:=Gk G i (Qav hi);have I:i < (dwN kk i).length:=by rw [hl];exact G.go i hi
 obtain ⟨ls,h1,h2,h3⟩:=D.way i I;refine ⟨by lia,⟨ls,h1,h2,by rw [h3];exact ht⟩,fun ls d hls hd Z=>?_⟩;have Y:i<=stN R 0 ls:=by
  grind
 have key:∀n,n<=ls.length->(∃m,m<=n/\i<=stN R 0 (ls.take m)/\(dwN kk i).getD i 0<=m + 1)\/(stN R 0 (ls.take n) < i/\(dwN kk i).getD (stN R 0 (ls.take n)) 0<=n + 1):=by
  intro n
  induction n with
  | zero =>
   intro _;rcases Nat.eq_zero_or_pos i with q | q
   ·refine .inl ⟨0,Qag _,by lia,?_⟩
    rw [q];exact Qag _
   ·refine .inr ⟨q,?_⟩
    have h:=wI (kk:=kk) (i:=0) i (t:=0) Nat.one_pos;rw [Nat.zero_add] at h;show (dwN kk i).getD 0 0<=1;rw [h.1];exact Qag _
  | succ n ih =>
   intro hn;rcases ih (by lia) with ⟨m,hm,J,O⟩ | ⟨J,O⟩
   ·exact .inl ⟨m,by lia,J,O⟩
   ·have hx:ls[n]?=some (ls.getD n 0):=getD_at (by lia)
    have e:stN R 0 (ls.take (n + 1))=(R.getD (stN R 0 (ls.take n)) []).getD (ls.getD n 0) 0:=by rw [take_snoc hx,XU]
    have C:stN R 0 (ls.take (n + 1))∈R.getD (stN R 0 (ls.take n)) []:=by
     grind
    obtain ⟨g1,g2⟩:=D.edge _ J _ C;rcases Qc3 (stN R 0 (ls.take (n + 1))) i with q | q
    ·exact .inr ⟨q,by lia⟩
    ·exact .inl ⟨n + 1,Qag _,q,by have:=D.mono i _ q g1;lia⟩
 rcases key ls.length (Qag _) with ⟨m,hm,_,q⟩ | ⟨q,_⟩
 ·lia
 ·rw [Qbi] at q
  lia
end
def dwK(vs:Aj):Ay:=(List.range vs.length).map fun t:Nat=>((Sum.inl (t:Int):Key),V.int ((vs.getD t 0:Nat):Int))
def Ziw(vs:Aj):(dwK vs).length=vs.length:=by unfold dwK;rw [Qac,Qay]
def Ze1(vs:Aj)(x:Nat):dwK (vs++[x])=dwK vs++[(Sum.inl (vs.length:Int),V.int (x:Int))]:=by
 unfold dwK;rw [Qae,show [x].length=1 from rfl,Qdy,Qa6];refine congr (congrArg _ (Qcl fun t q=>?_)) ?_
 ·grind
 ·grind
theorem je(f:Nat->V)(t:Nat):∀n,Yf ((List.range n).map fun t:Nat=>((Sum.inl (t:Int):Key),f t)) (.inl (t:Int))=if t < n then some (f t) else none
 | 0=>rfl
 | n + 1=>by
  have C:=je f t n;have q:=je f n n;rw [Qaw (Qbz _)] at q;rw [Qdy,Qa6];show Yf (_++[((Sum.inl (n:Int):Key),f n)]) _=_;rw [Wr _ _ _ _ q,C]
  by_cases e:t=n
  ·grind
  ·grind
def qQ(vs:Aj)(t:Nat):Yf (dwK vs) (.inl (t:Int))=if t < vs.length then some (.int ((vs.getD t 0:Nat):Int)) else none:=je (fun t=>V.int ((vs.getD t 0:Nat):Int)) t vs.length
def Zix(vs:Aj)(x:Nat):putK (dwK vs) (.inl (vs.length:Int)) (.int (x:Int))=dwK (vs++[x]):=by
 rw [zu _ (by rw [qQ,Qaw (Qbz _)]),Ze1]
def rgO_of[DecidableEq m]{nx:m->List m}{b:m}{l:List m}(B:BfE nx b l):RgO (rnG nx l) fun i=>(bfN nx b i).length:=by
 have D:=Xt nx l;refine ⟨fun i hi=>?_,fun i hi=>B.go i (by rw [<-D];exact hi),fun i hi=>?_,rfl⟩
 ·rw [D] at hi
  rw [Zf6 B i hi];have C:∃r,l=bfN nx b i++r:=by
   obtain ⟨r,e⟩:=zd (nx:=nx) (b:=b) i (l.length - i);rw [show i + (l.length - i)=l.length by lia,<-B.e] at e;exact ⟨r,e⟩
  obtain ⟨r,e⟩:=C;refine Qdw fun j=>?_
  by_cases q:j < (bfN nx b i).length
  ·rw [Qaj,Qaf q,Qc0 q]
   refine congrArg some (W4 B.nodup ?_);rw [e,Qbg q,Qaf q]
  ·grind
 ·obtain ⟨r,e⟩:=zd (nx:=nx) (b:=b) i (l.length - i)
  rw [show i + (l.length - i)=l.length by lia,<-B.e] at e;have:=congrArg List.length e;rw [Qae] at this;lia
def mN(R:Ad)(s c:Nat):Nat:=(R.getD s []).getD c 0
def mB(O:Ax)(v:V)(s c:Nat):Bool:=decide ((O.getD s []).getD c .non=v)
theorem YQ(R:Ad)(ok:Nat->Nat->Bool):∀(ls:Aj) (s c:Nat),Yz (mN R) ok s (ls++[c])=ok (stN R s ls) c
 | [],_,_=>rfl
 | l::ls,s,c=>by
  rw [Qft,Xu (by simp)];exact YQ R ok ls _ c
theorem Zki{R:Ad}{kk:Nat->Nat}(G:RgO R kk):∀i,i<=R.length->∀t,(dwN kk i).getD t 0<=t + 1
 | 0,_,0=>Qag _
 | 0,_,t + 1=>Qba _
 | i + 1,h,t=>by
  have D:=Zki G i (by lia);rcases Qc3 t (dwN kk i).length with q | q
  ·rw [XW q]
   exact D t
  ·rcases Qc3 t (dwN kk (i + 1)).length with C | C
   ·rw [jd q C]
    have:=D i;have:=G.go i h;rw [Gk G i (by lia)] at q;lia
   ·grind
theorem Zch:∀bs:List Bool,inV (.bl true) (bs.map V.bl)=decide (true∈bs)
 | []=>rfl
 | b::bs=>by
  show (eqV (.bl b) (.bl true) || inV (.bl true) (bs.map V.bl))=_;rw [Zch bs];cases b
  ·simp [eqV]
  ·simp [eqV]
def ixG_lt[DecidableEq m]{l:List m}{x:m}(h:x∈l):ixG l x < l.length:=Qes h
def Zgc[DecidableEq m]{l:List m}{x:m}(h:x∈l):l[ixG l x]?=some x:=qM h
def pN(nx1 nx2:Ad)(k:Ak):List (Ak):=(gX (nx1.getD (k.getD 0 0).toNat []) (nx2.getD (k.getD 1 0).toNat [])).map fun p=>[p.1,p.2]
def pO(ot1 ot2:Ax)(k:Ak):A0:=(((ot1.getD (k.getD 0 0).toNat []).zip (ot2.getD (k.getD 1 0).toNat [])).map fun q=>!decide (q.1=q.2)).map V.bl
def pK(i j:Nat):Ak:=[(i:Int),(j:Int)]
def pU(C q:Nat):List (Ak):=(List.range C).flatMap fun i=>(List.range q).map fun j=>pK i j
def JJ{k:Ak}:k∈pU n L↔∃i j,i < n/\j < L/\k=pK i j:=by
 unfold pU
 constructor
 ·grind
 ·grind
def pU_len(q C:Nat):(pU q C).length=q * C:=by
 unfold pU;rw [List.length_flatMap];have:((List.range q).map fun i=>((List.range C).map fun j=>pK i j).length)=List.replicate q C:=by
  refine Qdw fun i=>?_
  by_cases h:i < q
  ·grind
  ·grind
 rw [this,List.sum_replicate_nat]
section
variable {nx1 nx2:Ad}{ot1 ot2:Ax}{n:Nat}
def Zci(q:Runs nx1 ot1 n)(R2:Runs nx2 ot2 n){j:Nat}(hi:i < nx1.length)(C:j < nx2.length):(pN nx1 nx2 (pK i j)).length=2 ^ n:=by
 have h1:=q.nr _ (getD_mem hi);have h2:=R2.nr _ (getD_mem C);show (List.map _ (gX (nx1.getD ((i:Int)).toNat []) (nx2.getD ((j:Int)).toNat []))).length=_;rw [Qat,Qat];unfold gX;rw [Qac,Qac,Qcd,h1,h2,Nat.min_self]
def Zkj(C:Runs nx1 ot1 n)(R2:Runs nx2 ot2 n){j c:Nat}(hi:i < nx1.length)(D:j < nx2.length)(hc:c < 2 ^ n):(pN nx1 nx2 (pK i j))[c]?=some (pK ((nx1.getD i []).getD c 0) ((nx2.getD j []).getD c 0)):=by
 have h1:=C.nr _ (getD_mem hi);have h2:=R2.nr _ (getD_mem D);show (List.map _ (gX (nx1.getD ((i:Int)).toNat []) (nx2.getD ((j:Int)).toNat [])))[c]?=_;rw [Qat,Qat];unfold gX;have q:((nx1.getD i []).zip (nx2.getD j []))[c]?=some ((nx1.getD i []).getD c 0,(nx2.getD j []).getD c 0):=Qdh.mpr ⟨getD_at (by lia),getD_at (by lia)⟩;rw [Qaj,Qaj,q]
 rfl
def Ziy(q:Runs nx1 ot1 n)(R2:Runs nx2 ot2 n){k:Ak}(hk:k∈pU nx1.length nx2.length):∀x∈pN nx1 nx2 k,x∈pU nx1.length nx2.length:=by
 obtain ⟨i,j,hi,C,rfl⟩:=JJ.mp hk;intro x hx;obtain ⟨c,hc⟩:=Qct hx;have hl:c < 2 ^ n:=by
  have:=(Qah.mp hc).1;rw [Zci q R2 hi C] at this;exact this
 rw [Zkj q R2 hi C hl] at hc;have h1:=q.nr _ (getD_mem hi);have h2:=R2.nr _ (getD_mem C);exact JJ.mpr ⟨_,_,q.nl _ (getD_mem hi) _ (Qai (getD_at (d:=0) (by lia))),R2.nl _ (getD_mem C) _ (Qai (getD_at (d:=0) (by lia))),(Option.some.inj hc).symm⟩
def pO_at(C:Runs nx1 ot1 n)(R2:Runs nx2 ot2 n){j c:Nat}(hi:i < nx1.length)(D:j < nx2.length)(hc:c < 2 ^ n):(pO ot1 ot2 (pK i j))[c]?=some (V.bl (!decide ((ot1.getD i []).getD c .non=(ot2.getD j []).getD c .non))):=by
 have h1:=C.or _ (getD_mem (show i < ot1.length by rw [C.ol];exact hi));have h2:=R2.or _ (getD_mem (show j < ot2.length by rw [R2.ol];exact D));show (List.map _ (List.map _ ((ot1.getD ((i:Int)).toNat []).zip (ot2.getD ((j:Int)).toNat []))))[c]?=_;rw [Qat,Qat];have q:((ot1.getD i []).zip (ot2.getD j []))[c]?=some ((ot1.getD i []).getD c .non,(ot2.getD j []).getD c .non):=Qdh.mpr ⟨getD_at (by lia),getD_at (by lia)⟩;rw [Qaj,Qaj,q]
 rfl
def Zgd(q:Runs nx1 ot1 n)(R2:Runs nx2 ot2 n){j:Nat}(hi:i < nx1.length)(C:j < nx2.length):(pO ot1 ot2 (pK i j)).length=2 ^ n:=by
 have h1:=q.or _ (getD_mem (show i < ot1.length by rw [q.ol];exact hi));have h2:=R2.or _ (getD_mem (show j < ot2.length by rw [R2.ol];exact C));show (List.map _ (List.map _ ((ot1.getD ((i:Int)).toNat []).zip (ot2.getD ((j:Int)).toNat [])))).length=_;rw [Qat,Qat,Qac,Qac,Qcd,h1,h2,Nat.min_self]
theorem prd_in{b1 b2:Nat}(D:Runs nx1 ot1 n)(R2:Runs nx2 ot2 n)(C:b1 < nx1.length)(q:b2 < nx2.length){l:List (Ak)}(B:BfE (pN nx1 nx2) (pK b1 b2) l):∀k∈l,k∈pU nx1.length nx2.length:=fun k hk=>by
 rw [B.e] at hk;exact gB (JJ.mpr ⟨b1,b2,C,q,rfl⟩) (fun s hs x hx=>Ziy D R2 hs x hx) _ k hk
theorem prd_st{b1 b2:Nat}(I:Runs nx1 ot1 n)(R2:Runs nx2 ot2 n)(O:b1 < nx1.length)(C:b2 < nx2.length){l:List (Ak)}(B:BfE (pN nx1 nx2) (pK b1 b2) l):∀{ls:Aj},(∀x∈ls,x < 2 ^ n)->pK (stN nx1 b1 ls) (stN nx2 b2 ls)∈l/\stN (rnG (pN nx1 nx2) l) 0 ls=ixG l (pK (stN nx1 b1 ls) (stN nx2 b2 ls))/\stN nx1 b1 ls < nx1.length/\stN nx2 b2 ls < nx2.length:=by
 intro ls;generalize hn:ls.length=m
 induction m generalizing ls with
 | zero =>
  intro _;rw [Qby hn];exact ⟨B.begin.2,B.zero.symm,O,C⟩
 | succ m ih =>
  intro h;obtain ⟨D,c,rfl⟩:∃D c,ls=D++[c]:=⟨ls.dropLast,ls.getLast (fun z=>by rw [z] at hn;cases hn),(Qf7 _).symm⟩;have G:D.length=m:=by grind
  obtain ⟨Y,Z,q,J⟩:=ih G fun x hx=>h x (Qb7 _ hx);have hc:=h c (Qa3 _ (Qal.mpr rfl));have e:=Zkj I R2 q J hc;have nx:=B.next Y (Qai e);have h1:=I.nr _ (getD_mem q);have h2:=R2.nr _ (getD_mem J);rw [XU,XU,XU,Z];refine ⟨nx,?_,I.nl _ (getD_mem q) _ (Qai (getD_at (d:=0) (by lia))),R2.nl _ (getD_mem J) _ (Qai (getD_at (d:=0) (by lia)))⟩;rw [Zbx (fun s hs x hx=>B.next hs hx) Y,Qar,Qaj,e]
  rfl
def Ziz{b1 b2:Nat}(D:Runs nx1 ot1 n)(R2:Runs nx2 ot2 n)(C:b1 < nx1.length)(q:b2 < nx2.length){l:List (Ak)}(B:BfE (pN nx1 nx2) (pK b1 b2) l){ls:Aj}{c:Nat}(h:∀x∈ls++[c],x < 2 ^ n) :
  Yz (mN (rnG (pN nx1 nx2) l)) (mB (l.map (pO ot1 ot2)) (.bl true)) 0 (ls++[c])=decide ((ot1.getD (stN nx1 b1 ls) []).getD c .non≠(ot2.getD (stN nx2 b2 ls) []).getD c .non):=by
 rw [YQ];obtain ⟨J,I,G,O⟩:=prd_st D R2 C q B (ls:=ls) fun x hx=>h x (Qb7 _ hx);have hc:=h c (Qa3 _ (Qal.mpr rfl));unfold mB;rw [I,Qar (l:=l.map (pO ot1 ot2)),Qaj,Zgc J];show decide ((pO ot1 ot2 (pK (stN nx1 b1 ls) (stN nx2 b2 ls))).getD c .non=.bl true)=_;rw [Qar,pO_at D R2 G O hc];generalize (ot1.getD (stN nx1 b1 ls) []).getD c .non=x;generalize (ot2.getD (stN nx2 b2 ls) []).getD c .non=y
 by_cases z:x=y
 ·grind
 ·grind
def Ze2{b1 b2:Nat}(D:Runs nx1 ot1 n)(R2:Runs nx2 ot2 n)(I:b1 < nx1.length)(C:b2 < nx2.length){l:List (Ak)}(B:BfE (pN nx1 nx2) (pK b1 b2) l):Runs (rnG (pN nx1 nx2) l) (l.map (pO ot1 ot2)) n:=by
 have q:=prd_in D R2 I C B;have hpos:0 < l.length:=Qfi B.begin.2;refine ⟨by rw [Xt];exact hpos,by rw [Xt,Qac],fun r hr=>?_,fun r hr x hx=>?_,fun r hr=>?_⟩
 ·obtain ⟨k,hk,rfl⟩:=Qa2.mp hr
  obtain ⟨i,j,hi,G,rfl⟩:=JJ.mp (q k hk);rw [Qac,Zci D R2 hi G]
 ·obtain ⟨k,hk,rfl⟩:=Qa2.mp hr
  obtain ⟨y,J,rfl⟩:=Qa2.mp hx;rw [Xt];exact ixG_lt (B.next hk J)
 ·obtain ⟨k,hk,rfl⟩:=Qa2.mp hr
  obtain ⟨i,j,hi,G,rfl⟩:=JJ.mp (q k hk);exact Zgd D R2 hi G
end
def twK(l:Aj):Ay:=l.map fun s:Nat=>((Sum.inl (s:Int):Key),V.bl true)
theorem jf(s:Nat):∀l:Aj,(Yf (twK l) (.inl (s:Int))).isSome=decide (s∈l)
 | []=>rfl
 | x::l=>by
  show (Yf ((Sum.inl (x:Int),V.bl true)::twK l) _).isSome=_
  by_cases e:x=s
  ·subst e
   rw [ZY rfl];exact (Qao Qaq).symm
  ·rw [ZS (fun z=>e (by grind)),jf s l]
   exact decide_eq_decide.mpr ⟨fun h=>Qam _ h,fun h=>(Qan.mp h).elim (fun z=>absurd z.symm e) id⟩
def Zcj(l:Aj)(s:Nat):putK (twK l) (.inl (s:Int)) (.bl true)=twK (Yt l s):=by
 by_cases h:s∈l
 ·have e:Yt l s=l:=Qa1 h
  rw [e];unfold putK;have hs:(Yf (twK l) (.inl (s:Int))).isSome=true:=by rw [jf];exact Qao h
  rw [Qa1 (by rw [Xy];exact hs)];refine Qdw fun i=>?_;unfold twK;rw [Qaj,Qaj];cases l[i]? with
  | none=>rfl
  | some x =>
   show some (if (Sum.inl (x:Int):Key)=.inl (s:Int) then ((Sum.inl (x:Int):Key),V.bl true) else (Sum.inl (x:Int),V.bl true))=_
   split <;> rfl
 ·have e:Yt l s=l++[s]:=Qaw h
  rw [e,zu _ (by
   have:=jf s l;rw [Qau h] at this;cases q:Yf (twK l) (.inl (s:Int)) with
   | none=>rfl
   | some y=>rw [q] at this;cases this)]
  unfold twK;rw [Qa6]
  rfl
def qR(l:Aj):(twK l).length=l.length:=Qac _
def zg(H:Hp)(q:V)(W:Option (Aj)):Prop:=(W=none/\q=.non)\/∃d l,W=some l/\q=.ref d/\Rd H d (.dK (twK l))
def SmF(H H':Hp):Prop:=∀b o,H b=some o->H' b=some o\/∃kvs u,o=.dK kvs/\H' b=some (.frz u (.dK kvs))
def SmF.of{H':Hp}(s:ZA H H'):SmF H H':=fun b o e=>.inl (s b o e)
def SmF.at{H':Hp}(s:SmF H H'){b:Au}{o:HO}(e:H b=some o)(h:∀kvs,o≠.dK kvs):H' b=some o:=by
 rcases s b o e with z | ⟨kvs,u,z,_⟩
 ·exact z
 ·exact absurd z (h kvs)
def SmF.tup{H H':Hp}(s:SmF H H'){b:Au}{xs:A0}(e:H b=some (.tup xs)):H' b=some (.tup xs):=s.at e fun _ z=>nomatch z
def SmF.lst{H H':Hp}(s:SmF H H'){b:Au}{xs:A0}(e:H b=some (.lst xs)):H' b=some (.lst xs):=s.at e fun _ z=>nomatch z
theorem SmF.trans{H2:Hp}(s:SmF H g)(t:SmF g H2):SmF H H2:=fun b o e=>by
 rcases s b o e with z | ⟨kvs,u,rfl,z⟩
 ·exact t b o z
 ·exact .inr ⟨kvs,u,rfl,t.at z fun _ q=>nomatch q⟩
def SmF.rd{H':Hp}(s:SmF H H'){d:Au}{kvs:Ay}(h:Rd H d (.dK kvs)):Rd H' d (.dK kvs):=by
 rcases h with h | ⟨u,h⟩
 ·rcases s d _ h with z | ⟨C,u,z,e⟩
  ·exact .inl z
  ·cases z
   exact .inr ⟨u,e⟩
 ·exact .inr ⟨u,s.at h fun _ q=>nomatch q⟩
def SmF.well{H':Hp}(s:SmF H H'){W:Option (Aj)}(h:zg H w W):zg H' w W:=by
 rcases h with h | ⟨d,l,h1,h2,q⟩
 ·exact .inl h
 ·exact .inr ⟨d,l,h1,h2,s.rd q⟩
def SmF.free{H':Hp}(s:SmF H H'){p:Au}(h:H' p=none):H p=none:=by
 cases e:H p with
 | none=>rfl
 | some o =>
  rcases s p o e with z | ⟨_,_,_,z⟩
  ·rw [h] at z;cases z
  ·rw [h] at z;cases z
theorem SmF.frz{H:Hp}{a:Au}{kvs:Ay}{u:Obj}(h:Rd H a (.dK kvs))(hu:∀o,H a=some (.frz o (.dK kvs))->o=u):SmF H (upd H a (.frz u (.dK kvs))):=fun b o e=>by
 by_cases q:b=a
 ·subst q
  rcases h with h | ⟨C,h⟩
  ·rw [h] at e
   cases e;exact .inr ⟨kvs,u,rfl,Za⟩
  ·rw [h] at e
   cases e;rw [hu C h];exact .inl Za
 ·exact .inl (by rw [Zh q];exact e)
theorem SmF.put{H':Hp}(s:SmF H H'){p:Au}(hp:H p=none){o:HO}:SmF H (upd H' p o):=fun b u e=>by
 rcases s b u e with z | ⟨kvs,w,q,z⟩
 ·exact .inl (by rw [Zh (Zj e hp)];exact z)
 ·exact .inr ⟨kvs,w,q,by rw [Zh (Zj e hp)];exact z⟩
def M4.smf{H':Hp}{m:Au}{b:Nat}{nx:Ad}{ot:Ax}(M:M4 H m N b nx ot)(s:SmF H H'):M4 H' m N b nx ot:=M.tups fun b xs e=>s.tup e
def vL{r:Aj}{c:Nat}(h:c < r.length):(zR r)[c]?=some (YL (r.getD c 0)):=by
 unfold zR;rw [Qaj,getD_at (d:=0) h]
 rfl
def y0(H:Hp)(p:Au)(Ls:Ad):Prop:=∃as:A0,H p=some (.lst as)/\as.length=Ls.length/\∀(i:Nat) (L:Aj),Ls[i]?=some L->∃a,as[i]?=some (V.ref a)/\H a=some (.tup (L.map YL))
def y0.smf{H':Hp}{p:Au}{Ls:Ad}(h:y0 H p Ls)(s:SmF H H'):y0 H' p Ls:=by
 obtain ⟨as,h1,h2,D⟩:=h;refine ⟨as,s.lst h1,h2,fun i L hi=>?_⟩;obtain ⟨a,C,q⟩:=D i L hi;exact ⟨a,C,s.tup q⟩
def Zdb(H:Hp)(p:Au)(q:Ad):Prop:=∃as:A0,H p=some (.lst as)/\as.length=q.length/\∀(i:Nat) (S:Aj),q[i]?=some S->∃a,as[i]?=some (V.ref a)/\Rd H a (.dK (twK S))
def Zdb.smf{H':Hp}{p:Au}{q:Ad}(h:Zdb H p q)(s:SmF H H'):Zdb H' p q:=by
 obtain ⟨as,h1,h2,G⟩:=h;refine ⟨as,s.lst h1,h2,fun i L hi=>?_⟩;obtain ⟨a,D,C⟩:=G i L hi;exact ⟨a,D,s.rd C⟩
def Zkk(q b:Nat):V->Bool
 | .int z=>decide (Gi q z.toNat=b)
 | _=>false
theorem qS(q b:Nat):∀L:Aj,(L.map YL).filter (Zkk q b)=(chs q b L).map YL
 | []=>rfl
 | l::L=>by
  have C:=qS q b L;have e:Zkk q b (YL l)=decide (Gi q l=b):=by
   show decide (Gi q (l:Int).toNat=b)=_;rw [Qat]
  unfold chs at C ⊢
  by_cases h:Gi q l=b
  ·grind
  ·grind
def bit_of(l q b:Nat):decide (V.int (Builtin.bitAnd ((l:Int) / 2 ^ ((q:Int)).toNat) 1)=V.int (b:Int))=Zkk q b (YL l):=by
 show _=decide (Gi q (l:Int).toNat=b);rw [and_1,Qat,Qat];have e:(l:Int) / 2 ^ q % 2=((Gi q l:Nat):Int):=by
  rfl
 rw [e];exact decide_eq_decide.mpr ⟨fun z=>by grind,fun z=>by rw [z]⟩
def Ze3{nx:Nat->Nat->Nat}{ok:Nat->Nat->Bool}{W:Option (Aj)}{L:Aj}{s:Nat}(hs:S[i]?=some s):goB nx ok W (S.take (i + 1)) L=goB nx ok W (S.take i) L++if L.any (gw nx ok W s)=true then [s] else []:=by
 unfold goB;rw [take_snoc hs,Qdm,Qcz]
 rfl
def Zi0{nx:Nat->Nat->Nat}{ok:Nat->Nat->Bool}{W:Option (Aj)}{L:Aj}{s:Nat}(hn:S.Nodup)(hs:S[i]?=some s):s∉goB nx ok W (S.take i) L:=fun h=>by
 have h:=(jc.mp h).1;have hl:=(Qah.mp hs).1;have:(S.take i++S.drop i).Nodup:=by rw [Qc4];exact hn
 refine (Qdv.mp this).2.2 s h s ?_ rfl;rw [Qcx hl,(Qah.mp hs).2];exact Qaq
def Zi1{nx:Nat->Nat->Nat}{ok:Nat->Nat->Bool}{W:Option (Aj)}{L:Aj}:(goB nx ok W S L).length<=S.length:=Qdl _ _
theorem vM{nx:Nat->Nat->Nat}:∀(Ls:Ad) (S:Aj),(lys nx S Ls).length=Ls.length
 | [],_=>rfl
 | L::Ls,S=>congrArg (· + 1) (vM Ls (yL nx S L))
theorem wJ{nx:Nat->Nat->Nat}:∀{Ls:Ad} {S q L:Aj} {i:Nat},(lys nx S Ls)[i]?=some q->Ls[i]?=some L->i + 1 < Ls.length->(lys nx S Ls)[i + 1]?=some (yL nx q L)
 | [],_,_,_,_,h,_,_=>nomatch h
 | [_],_,_,_,i,_,_,hl=>absurd hl (by show ¬i + 1 < 1;lia)
 | L0::C::Ls,S,q,L,0,h,h2,_=>by
  cases h;cases h2
  rfl
 | L0::C::Ls,S,q,L,i + 1,h,h2,hl=>wJ (Ls:=C::Ls) (S:=yL nx S L0) (i:=i) h h2 (by grind)
def gJ{nx:Nat->Nat->Nat}(S L:Aj):(yL nx S L).Nodup:=zb _ _ Qdg
theorem Zck{nx:Nat->Nat->Nat}{N M:Nat}(hn:∀s l,s < N->l < M->nx s l < N):∀{Ls:Ad} {S:Aj},S.Nodup->(∀s∈S,s < N)->(∀L∈Ls,∀l∈L,l < M)->∀q∈lys nx S Ls,q.Nodup/\∀s∈q,s < N
 | [],_,_,_,_,_,h=>nomatch h
 | L::Ls,S,h1,h2,G,q,h=>by
  rcases Qan.mp h with rfl | h
  ·exact ⟨h1,h2⟩
  ·refine Zck hn (gJ S L) (fun s hs=>?_) (fun L I=>G L (Qam _ I)) q h
   obtain ⟨J,C,O,D,rfl⟩:=JH.mp hs;exact hn _ _ (h2 J C) (G L Qaq O D)
def Zcl{N:Nat}(h1:S.Nodup)(h2:∀s∈S,s < N):S.length<=N:=by
 have:=Xg (l2:=List.range N) h1 fun s hs=>Qcm.mpr (h2 s hs);rw [Qay] at this;exact this
def Runs.mN{nx:Ad}{ot:Ax}{n:Nat}(R:Runs nx ot n){s l:Nat}(hs:s < nx.length)(hl:l < 2 ^ n):mN nx s l < nx.length:=by
 have l1:=R.nr _ (getD_mem hs);exact R.nl _ (getD_mem hs) _ (Qai (getD_at (d:=0) (by lia)))
theorem Zi2{N:Nat}{l:Aj}(h:∀s∈l,s < N):(l.foldl Yt []).length<=N:=Zcl (zb _ _ Qdg) fun s hs=>by
 rcases (GW _ _).mp hs with z | z
 ·cases z
 ·exact h s z
def Zcm{f:Nat->List Nat}{j s:Nat}(hs:S[j]?=some s):(S.take (j + 1)).flatMap f=(S.take j).flatMap f++f s:=by
 rw [take_snoc hs,List.flatMap_append];congr 1;simp
def Zdb.more{H':Hp}{p e:Au}{q:Ad}(h1:H p=some (.lst v))(h2:v.length=q.length)(G:∀(i:Nat) (S:Aj),q[i]?=some S->∃a,v[i]?=some (V.ref a)/\Rd H a (.dK (twK S)))(he:H e=some (.dK (twK S))):Zdb (upd H p (.lst (v++[.ref e]))) p (q++[S]):=by
 have C:∀{a:Au} {kvs:Ay},Rd H a (.dK kvs)->Rd (upd H p (.lst (v++[.ref e]))) a (.dK kvs):=fun {a kvs} r=>by
  have ne:a≠p:=fun z=>by
   subst z;rcases r with r | ⟨_,r⟩ <;> rw [h1] at r <;> cases r
  rcases r with r | ⟨u,r⟩
  ·exact .inl (by rw [Zh ne];exact r)
  ·exact .inr ⟨u,by rw [Zh ne];exact r⟩
 refine ⟨_,Za,by grind,fun i I hi=>?_⟩
 by_cases hl:i < q.length
 ·grind
 ·rw [Qa7 (by lia)] at hi
  have D:i - q.length=0:=by
   grind
  rw [D] at hi;cases hi;exact ⟨e,by grind,C (.inl he)⟩
def G4(H:Hp)(q:A0)(D:Ad):Prop:=q.length=D.length/\∀(i:Nat) (C:Aj),D[i]?=some C->∃a,q[i]?=some (V.ref a)/\H a=some (.tup (C.map YL))
theorem G4.smf{H':Hp}{q:Ad}(h:G4 H v q)(s:∀b xs,H b=some (.tup xs)->H' b=some (.tup xs)):G4 H' v q:=⟨h.1,fun i C hi=>by
 obtain ⟨a,G,D⟩:=h.2 i C hi;exact ⟨a,G,s _ _ D⟩⟩
theorem G4.cons{H:Hp}{q:A0}{D:Ad}{C:Aj}{a:Au}(h:G4 H q D)(ha:H a=some (.tup (C.map YL))):G4 H (.ref a::q) (C::D):=⟨congrArg (· + 1) h.1,fun i G hi=>by
 match i,hi with
 | 0,hi=>cases hi;exact ⟨a,rfl,ha⟩
 | i + 1,hi=>exact h.2 i G hi⟩
def lwT(nx:Nat->Nat->Nat)(ok:Nat->Nat->Bool)(k:Nat)(S:Aj)(Ls:Ad)(j:Nat):Aj × Option (Aj):=lwb nx ok k ((lys nx S Ls).drop j) (Ls.drop j)
def Zcn{nx:Nat->Nat->Nat}{ok:Nat->Nat->Bool}{k:Nat}{Ls:Ad}:lwT nx ok k S Ls Ls.length=([],none):=by
 unfold lwT;rw [Qe0];cases (lys nx S Ls).drop Ls.length <;> rfl
def Ze4{nx:Nat->Nat->Nat}{ok:Nat->Nat->Bool}{k:Nat}{q L:Aj}{Ls:Ad}{j:Nat}(h1:(lys nx S Ls)[j]?=some q)(h2:Ls[j]?=some L):lwT nx ok k S Ls j=(yy nx ok k (lwT nx ok k S Ls (j + 1)).2 q L::(lwT nx ok k S Ls (j + 1)).1,some (goB nx ok (lwT nx ok k S Ls (j + 1)).2 q (chs k (yy nx ok k (lwT nx ok k S Ls (j + 1)).2 q L) L))):=by
 unfold lwT;have e1:(lys nx S Ls).drop j=q::(lys nx S Ls).drop (j + 1):=by rw [Qcx (Qah.mp h1).1,(Qah.mp h1).2]
 have e2:Ls.drop j=L::Ls.drop (j + 1):=by rw [Qcx (Qah.mp h2).1,(Qah.mp h2).2]
 rw [e1,e2]
 rfl
def Gm{l:List m}{j:Nat}{x:m}(h:l[j]?=some x):l.drop j=x::l.drop (j + 1):=by rw [Qcx (Qah.mp h).1,(Qah.mp h).2]
theorem Zco{k:Nat}:∀{bs:Aj} {Ls:Ad},∀C∈cho k bs Ls,∃L∈Ls,C.length<=L.length/\∀l∈C,l∈L
 | [],_,_,h=>by cases h
 | _::_,[],_,h=>by cases h
 | b::bs,L::Ls,C,h=>by
  rcases Qan.mp h with rfl | h
  ·exact ⟨L,Qaq,Qdl _ _,fun l hl=>(W6.mp hl).1⟩
  ·obtain ⟨q,h1,h2⟩:=Zco C h
   exact ⟨q,Qam _ h1,h2⟩
theorem Zcp{k:Nat}:∀{bs:Aj} {Ls:Ad},bs.length=Ls.length->(cho k bs Ls).length=Ls.length
 | [],[],_=>rfl
 | _::bs,_::Ls,h=>congrArg (· + 1) (Zcp (bs:=bs) (Ls:=Ls) (by simpa using h))
 | [],_::_,h=>nomatch h
 | _::_,[],h=>nomatch h
theorem y3{nx:Nat->Nat->Nat}{ok:Nat->Nat->Bool}{b:Nat}{Ls:Ad}:∀k,(itL nx ok b Ls k).length=Ls.length/\∀C∈itL nx ok b Ls k,∃L∈Ls,C.length<=L.length/\∀l∈C,l∈L
 | 0=>⟨rfl,fun C h=>⟨C,h,Qag _,fun _ z=>z⟩⟩
 | k + 1=>by
  obtain ⟨h1,h2⟩:=y3 (nx:=nx) (ok:=ok) (b:=b) (Ls:=Ls) k;refine ⟨(Zcp (vI _ _).1).trans h1,fun C G=>?_⟩;obtain ⟨L,J,I,q⟩:=Zco C G;obtain ⟨D,Y,Z,O⟩:=h2 L J;exact ⟨D,Y,Qa8 I Z,fun l hl=>O l (q l hl)⟩
def hdV(H:Hp):V->V
 | .ref a=>match H a with
  | some (.tup (x::_))=>x
  | _=>.non
 | _=>.non
def Zge{L:Aj}(h:H a=some (.tup (L.map YL)))(q:L≠[]):hdV H (.ref a)=YL (L.headD 0)/\atI (L.map YL) 0=some (YL (L.headD 0)):=by
 cases L with
 | nil=>exact absurd rfl q
 | cons x L =>
  refine ⟨?_,Yh (j:=0) rfl⟩;have e:hdV H (.ref a)=(match H a with
   | some (.tup (x::_))=>x
   | _=>.non):=rfl
  rw [e,h]
  rfl
theorem wK{nx:Ad}:∀(ls:Aj) (s:Nat),Zc9 (mN nx) s ls=stN nx s ls
 | [],_=>rfl
 | l::ls,s=>wK ls _
def Zi3{m:Au}{b:Nat}{nx:Ad}{ot:Ax}(M:M4 H m N b nx ot)(R:Runs nx ot n)(hb:b < nx.length):∃nv,Zf2 H m nx.length (2 ^ n) nv b (mN nx) fun s c=>(ot.getD s []).getD c .non:=by
 obtain ⟨pn,ps,D,h1,_,⟨as,G,O,C⟩,⟨bs,J,Y,I⟩⟩:=M.ex;refine ⟨_,⟨ps,D,h1,⟨as,G,fun s hs=>?_⟩,⟨bs,J,fun s hs=>?_⟩⟩,hb,fun s l hs hl=>R.mN hs hl⟩
 ·have l1:=R.nr _ (getD_mem hs)
  obtain ⟨a,e1,e2⟩:=C s (zR (nx.getD s [])) (by rw [Qaj,wy hs];rfl);exact ⟨a,_,e1,e2,fun l hl=>vL (by lia)⟩
 ·have q:s < ot.length:=by rw [R.ol];exact hs
  have l1:=R.or _ (getD_mem q);obtain ⟨a,e1,e2⟩:=I s (ot.getD s []) (wy q);exact ⟨a,_,e1,e2,fun l hl=>getD_at (by lia)⟩
theorem vN(i:Nat):∀r:Aj,hor (((r.map fun l:Nat=>(l:Int)).map fun c=>c / 2 ^ i % 2).reverse)=(valN i r:Int)
 | []=>rfl
 | l::r=>by
  rw [Qbu,Qbu,Qdt,zP,vN i r];show (valN i r:Int) * 2 + (l:Int) / 2 ^ i % 2=((Gi i l + 2 * valN i r:Nat):Int);have e:(l:Int) / 2 ^ i % 2=((Gi i l:Nat):Int):=by
   rfl
  rw [e];lia
def rep_at{w:Nat}{x y:m}(h:(List.replicate w x)[i]?=some y):i < w/\y=x:=by grind
def jg{r:Aj}(h:r≠[]):∃q c,r=q++[c]:=⟨r.dropLast,r.getLast h,(Qf7 h).symm⟩
def Zgf(q:Au)(H H':Hp):Prop:=∀b o,H b=some o->b≠q->H' b=some o\/∃kvs u,o=.dK kvs/\H' b=some (.frz u (.dK kvs))
def Zgf.of{H2:Hp}(o:∀b u,H b=some u->b≠a->g b=some u)(s:SmF g H2):Zgf a H H2:=fun b u e hb=>s b u (o b u e hb)
def kn2:KN (Ak):={ knT with
 at_:=fun H ks a=>H a=some (.tup (ks.map V.int))
 ok:=fun P w H h k a ok e=>knT.ok P w H h k a ok ⟨_,e,by rw [Qb4];rfl⟩
 keep:=fun H H' k a hk e=>hk _ _ e }
def Zi4{H':Hp}(s:ZA (hide M H) H')(hn:∀c∈M,H' c=none):ZA H (X9 M H H')/\(∀b o,H' b=some o->X9 M H H' b=some o)/\∀b o,H' b=some o->hide M H b=none->H b=none:=by
 refine ⟨fun b u e=>?_,fun b o e=>?_,fun b o e h=>?_⟩
 ·by_cases q:b∈M
  ·rw [Xo q]
   exact e
  ·rw [ZH q]
   exact s _ _ (by rw [Z1 q];exact e)
 ·have q:b∉M:=fun m=>by rw [hn b m] at e;cases e
  rw [ZH q];exact e
 ·have q:b∉M:=fun m=>by rw [hn b m] at e;cases e
  rw [Z1 q] at h;exact h
def Yn.smf{H':Hp}{P:Au}{qual:Str}(h:Yn H P p qual)(s:SmF H H'):Yn H' P p qual:=by
 rcases h with h | ⟨q,oc,h1,h2,C⟩
 ·exact .inl (s.at h fun _ z=>nomatch z)
 ·exact .inr ⟨q,oc,s.at h1 (fun _ z=>nomatch z),s.at h2 (fun _ z=>nomatch z),C⟩
def Zi5{H':Hp}{ps:List (Int × Int)}(h:Prs H ps v)(e:∀b xs,H b=some (.tup xs)->H' b=some (.tup xs)):StA (.key kn2) H' (ps.map fun p=>[p.1,p.2]) v:=by
 refine ⟨by rw [h.1,Qac],fun i k hk=>?_⟩;rw [Qaj] at hk;obtain ⟨p,hp,rfl⟩:=Qb2.mp hk;obtain ⟨a,C,q⟩:=h.2 i p hp;exact ⟨.ref a,C,a,rfl,e _ _ q⟩
def W7(u v:A0)(ms:Ai):Prop:=ms.Perm (XO (((u++v).filter nmB).map Zh6))/\PyProof.Rows.sortedS ms=true
def Dff(ms:Ai)(u v:A0)(ls:Aj):Prop:=bt ((YX ls.length (XT ls ms) u).getD 0 0) (ls.length - 1)≠bt ((YX ls.length (XT ls ms) v).getD 0 0) (ls.length - 1)
structure vO(ms:Ai)(u v:A0)(w:Nat)(r:Aj):Prop where
 w1:1<=w
 len:r.length=w
 lt:∀l∈r,l < 2 ^ ms.length
 df:Dff ms u v r
 fst:∀t:Aj,t.length=w->(∀l∈t,l < 2 ^ ms.length)->Dff ms u v t->t=r\/∃j,j < ms.length/\(∀i,i < j->valN i t=valN i r)/\valN j r < valN j t
 least:∀ls:Aj,ls≠[]->(∀x∈ls,x < 2 ^ ms.length)->Dff ms u v ls->w<=ls.length
def OffG(q C:Au)(H H':Hp):Prop:=∀b o,H b=some o->b≠q->b≠C->H' b=some o\/∃kvs u,o=.dK kvs/\H' b=some (.frz u (.dK kvs))
def POk.len2{b:Bool}{l:List (Int × Ak)}(S:POk N b v)(B:BfE (nxS N v) (0,List.replicate (Yx v) 0) l):l.length<=11 * 2 ^ Yx v:=by
 have h:=w6 (nx:=nxS N v) (b:=((0:Int),List.replicate (Yx v) (0:Int))) (U:=uni (Yx v) (lgB v + 1)) (Jf.mpr ⟨0,by lia,rfl,YW.mpr ⟨Qax,fun x hx=>.inl (Qea hx)⟩⟩) (fun s hs=>zW S.wc rfl hs) l.length;rw [<-B.e,zU] at h;have h2:lgB v<=10:=Zbt S.iz;exact Qa8 h (Qf0 _ (by lia))
def jh{ms:Ai}{u:A0}{l1 l2:List (Int × Ak)}{l:List (Ak)}(C:POk ms false u)(D:POk ms false v)(I:BfE (nxS ms u) (0,List.replicate (Yx u) 0) l1)(J:BfE (nxS ms v) (0,List.replicate (Yx v) 0) l2)(B:BfE (pN (rnG (nxS ms u) l1) (rnG (nxS ms v) l2)) (pK 0 0) l){ls:Aj}{c:Nat}(h:∀x∈ls++[c],x < 2 ^ ms.length) :
  Yz (mN (rnG (pN (rnG (nxS ms u) l1) (rnG (nxS ms v) l2)) l)) (mB (l.map (pO (l1.map (otS ms u)) (l2.map (otS ms v)))) (.bl true)) 0 (ls++[c])=true↔Dff ms u v (ls++[c]):=by
 have G:=C.runs I (.int 0) (.int 1);have R2:=D.runs J (.int 0) (.int 1);rw [Ziz G R2 G.pos R2.pos B h,Qcb];have e1:=wH C I (.int 0) (.int 1) h;have e2:=wH D J (.int 0) (.int 1) h;rw [e1,e2];unfold Dff;rw [Qae];show _↔bt ((YX (ls.length + 1) (XT (ls++[c]) ms) u).getD 0 0) ls.length≠bt ((YX (ls.length + 1) (XT (ls++[c]) ms) v).getD 0 0) ls.length;rcases Y8 ((YX (ls.length + 1) (XT (ls++[c]) ms) u).getD 0 0) ls.length with p | p <;> rcases Y8 ((YX (ls.length + 1) (XT (ls++[c]) ms) v).getD 0 0) ls.length with q | q <;> rw [p,q] <;> simp
def gK{ms:Ai}{u:A0}{l1 l2:List (Int × Ak)}{l:List (Ak)}{w:Nat}{r:Aj}(G:POk ms false u)(C:POk ms false v)(I:BfE (nxS ms u) (0,List.replicate (Yx u) 0) l1)(J:BfE (nxS ms v) (0,List.replicate (Yx v) 0) l2)(B:BfE (pN (rnG (nxS ms u) l1) (rnG (nxS ms v) l2)) (pK 0 0) l)(hw:1<=w)
  (F:GZ (mN (rnG (pN (rnG (nxS ms u) l1) (rnG (nxS ms v) l2)) l)) (mB (l.map (pO (l1.map (otS ms u)) (l2.map (otS ms v)))) (.bl true)) 0 ms.length w r)
  (hm:∀(ls:Aj) (c:Nat),(∀x∈ls++[c],x < 2 ^ ms.length)->Yz (mN (rnG (pN (rnG (nxS ms u) l1) (rnG (nxS ms v) l2)) l)) (mB (l.map (pO (l1.map (otS ms u)) (l2.map (otS ms v)))) (.bl true)) 0 (ls++[c])=true->w<=ls.length + 1):vO ms u v w r:=by
 have ne:∀{t:Aj},t.length=w->∃q c,t=q++[c]:=fun {t} h=>jg fun z=>by rw [z] at h;have:0=w:=h;lia
 refine ⟨hw,F.len,F.lt,?_,fun t h1 h2 D=>?_,fun ls h1 h2 D=>?_⟩
 ·obtain ⟨q,c,e⟩:=ne F.len
  have hl:=F.last;have O:=F.lt;rw [e] at hl O ⊢;exact (jh G C I J B O).mp hl
 ·obtain ⟨q,c,rfl⟩:=ne h1
  exact F.fst _ h1 h2 ((jh G C I J B h2).mpr D)
 ·obtain ⟨q,c,rfl⟩:=jg h1
  rw [Qae];exact hm q c h2 ((jh G C I J B h2).mpr D)
def Tr.nv(a b c:Int):Tr->Int
 | .p=>a
 | .q=>b
 | .r=>c
 | .num z=>z
 | .one y t=>Zj3 y (t.nv a b c)
 | .two y t u=>Zj4 y (t.nv a b c) (u.nv a b c)
 | .thr _ _ _ _=>0
def Tr.pl:Tr->Bool
 | .p=>true
 | .q=>true
 | .r=>true
 | .num _=>true
 | .one y t=>decide (y = "not" \/ y = "twice") && t.pl
 | .two y t u=>decide (y∈(["and","or","odd","add","sub"]:Ai)) && (t.pl && u.pl)
 | .thr _ _ _ _=>false
def xl(x:Int)(W:Nat){k:Nat}(h:k < W):bt (x % 2 ^ W) k=bt x k:=yj x W k h
theorem Tr.ev_nv{W:Nat}{a b c:Int}(ha:0<=a/\a < 2 ^ W)(hb:0<=b/\b < 2 ^ W)(hc:0<=c/\c < 2 ^ W):∀{t:Tr},t.pl=true->t.ev (2 ^ W) a b c=t.nv a b c % 2 ^ W
 | .p,_=>(Qcr ha.1 ha.2).symm
 | .q,_=>(Qcr hb.1 hb.2).symm
 | .r,_=>(Qcr hc.1 hc.2).symm
 | .num _,_=>rfl
 | .one y t,h=>by
  obtain ⟨h1,h2⟩:=Qas.mp h;have D:=Tr.ev_nv ha hb hc h2;show Zj3 y (t.ev (2 ^ W) a b c) % 2 ^ W=Zj3 y (t.nv a b c) % 2 ^ W;rw [D];generalize t.nv a b c=x;rcases Qaz h1 with rfl | rfl
  ·exact mdN x _
  ·show (x % 2 ^ W + x % 2 ^ W) % 2 ^ W=(x + x) % 2 ^ W
   rw [mdA,mdB]
 | .two y t u,h=>by
  obtain ⟨h1,h2⟩:=Qas.mp h;obtain ⟨h2,C⟩:=Qas.mp h2;have i1:=Tr.ev_nv ha hb hc h2;have i2:=Tr.ev_nv ha hb hc C;show Zj4 y (t.ev (2 ^ W) a b c) (u.ev (2 ^ W) a b c) % 2 ^ W=Zj4 y (t.nv a b c) (u.nv a b c) % 2 ^ W;rw [i1,i2];generalize t.nv a b c=x;generalize u.nv a b c=z;have h1:=Qaz h1;simp only [Qan,Qbd,Qdq] at h1;rcases h1 with rfl | rfl | rfl | rfl | rfl
  ·exact qP fun k hk=>by show bt (Builtin.bitAnd _ _) k=bt (Builtin.bitAnd _ _) k;rw [Xr,Xr,xl _ _ hk,xl _ _ hk]
  ·exact qP fun k hk=>by show bt (Builtin.bitOr _ _) k=bt (Builtin.bitOr _ _) k;rw [Gg,Gg,xl _ _ hk,xl _ _ hk]
  ·exact qP fun k hk=>by show bt (Builtin.bitXor _ _) k=bt (Builtin.bitXor _ _) k;rw [Wg,Wg,xl _ _ hk,xl _ _ hk]
  ·show (x % 2 ^ W + z % 2 ^ W) % 2 ^ W=(x + z) % 2 ^ W
   rw [mdA,mdB]
  ·show (x % 2 ^ W - z % 2 ^ W) % 2 ^ W=(x - z) % 2 ^ W
   rw [mdC,mdD]
 | .thr _ _ _ _,h=>nomatch h
structure ZL(t u:Tr)(k:Nat)(g:Int):Prop where
 pl:t.pl=true/\u.pl=true
 ok:t.ok=true/\u.ok=true
 lo:∀a b c j,j < k->bt (t.nv a b c) j=bt (u.nv a b c) j
 hi:∀b c,bt (t.nv g b c) k≠bt (u.nv g b c) k
 mn:∀a b c,0<=a->a < g->bt (t.nv a b c) k=bt (u.nv a b c) k
def ZL.symm{t u:Tr}{k:Nat}{g:Int}(P:ZL t u k g):ZL u t k g:=⟨⟨P.pl.2,P.pl.1⟩,⟨P.ok.2,P.ok.1⟩,fun a b c j h=>(P.lo a b c j h).symm,fun b c=>(P.hi b c).symm,fun a b c q h1=>(P.mn a b c q h1).symm⟩
def ZL.nt {t u:Tr} {k:Nat} {g:Int} (P:ZL t u k g):ZL (.one "not" t) (.one "not" u) k g:=by
 have e:∀(t:Tr) a b c j,bt ((Tr.one "not" t).nv a b c) j=1 - bt (t.nv a b c) j:=fun t a b c j=>WR j _;refine ⟨⟨by show (_ && t.pl)=true;rw [P.pl.1];decide +kernel,by show (_ && u.pl)=true;rw [P.pl.2];decide +kernel⟩,⟨by show (_ && t.ok)=true;rw [P.ok.1];decide +kernel,by show (_ && u.ok)=true;rw [P.ok.2];decide +kernel⟩,fun a b c j h=>?_,fun b c=>?_,fun a b c q h1=>?_⟩
 ·rw [e,e,P.lo a b c j h]
 ·rw [e,e]
  have:=P.hi b c;lia
 ·rw [e,e,P.mn a b c q h1]
def ZL.odd {t u x:Tr} {k:Nat} {g:Int} (P:ZL t u k g) (hx:x=.q\/x=.r):ZL (.two "odd" x t) (.two "odd" x u) k g:=by
 have e:∀(t:Tr) a b c j,bt ((Tr.two "odd" x t).nv a b c) j=(bt (x.nv a b c) j + bt (t.nv a b c) j) % 2:=fun t a b c j=>Wg j _ _;have C:x.pl=true/\x.ok=true:=by rcases hx with rfl | rfl <;> exact ⟨rfl,rfl⟩
 refine ⟨⟨by show (_ && (x.pl && t.pl))=true;rw [P.pl.1,C.1];decide +kernel,by show (_ && (x.pl && u.pl))=true;rw [P.pl.2,C.1];decide +kernel⟩,⟨by show (_ && (x.ok && t.ok))=true;rw [P.ok.1,C.2];decide +kernel,by show (_ && (x.ok && u.ok))=true;rw [P.ok.2,C.2];decide +kernel⟩,fun a b c j h=>?_,fun b c=>?_,fun a b c D h1=>?_⟩
 ·rw [e,e,P.lo a b c j h]
 ·rw [e,e]
  have:=P.hi b c;rcases Y8 (t.nv g b c) k with p | p <;> rcases Y8 (u.nv g b c) k with q | q <;> rcases Y8 (x.nv g b c) k with o | o <;> rw [p,q] at this <;> rw [p,q,o] <;> simp at this ⊢
 ·rw [e,e,P.mn a b c D h1]
def bt_tw(x:Int)(j:Nat):bt (x + x) (j + 1)=bt x j:=by
 rw [Y7];congr 1;lia
def bt_tw0(x:Int):bt (x + x) 0=0:=by
 unfold bt;lia
def ZL.tw {t u:Tr} {k:Nat} {g:Int} (P:ZL t u k g):ZL (.one "twice" t) (.one "twice" u) (k + 1) g:=by
 have e:∀(t:Tr) a b c j,bt ((Tr.one "twice" t).nv a b c) (j + 1)=bt (t.nv a b c) j:=fun t a b c j=>bt_tw _ j;have q:∀(t:Tr) a b c,bt ((Tr.one "twice" t).nv a b c) 0=0:=fun t a b c=>bt_tw0 _;refine ⟨⟨by show (_ && t.pl)=true;rw [P.pl.1];decide +kernel,by show (_ && u.pl)=true;rw [P.pl.2];decide +kernel⟩,⟨by show (_ && t.ok)=true;rw [P.ok.1];decide +kernel,by show (_ && u.ok)=true;rw [P.ok.2];decide +kernel⟩,fun a b c j h=>?_,fun b c=>?_,fun a b c C h1=>?_⟩
 ·cases j with
  | zero=>rw [q,q]
  | succ j=>rw [e,e,P.lo a b c j (by lia)]
 ·rw [e,e]
  exact P.hi b c
 ·rw [e,e,P.mn a b c C h1]
def twn:Nat->Tr->Tr
 | 0,t=>t
 | n + 1,t=>.one "twice" (twn n t)
theorem ZL.twn{t u:Tr}{k:Nat}{g:Int}(P:ZL t u k g):∀n,ZL (twn n t) (twn n u) (k + n) g
 | 0=>P
 | n + 1=>(P.twn n).tw
structure Zcq(x y:Int)(k:Nat):Prop where
 r:(0<=x/\x < 1000)/\(0<=y/\y < 1000)
 e:x % 2 ^ k=y % 2 ^ k
 n:x % 2 ^ (k + 1)≠y % 2 ^ (k + 1)
def vP{x:Int}{k:Nat}(e:x % 2 ^ k=y % 2 ^ k){j:Nat}(h:j < k):bt x j=bt y j:=by rw [<-xl x k h,e,xl y k h]
theorem Zcr{x:Int}{k:Nat}(e:x % 2 ^ k=y % 2 ^ k)(n:x % 2 ^ (k + 1)≠y % 2 ^ (k + 1)):bt x k≠bt y k:=fun z=>n (qP fun j q=>by
 by_cases h:j=k
 ·rw [h];exact z
 ·exact vP e (by lia))
def Zcs(m:Int){x q:Int}(h:G - q=x - y):G % m=q % m↔x % m=y % m:=by
 rw [Qey,Qey,h]
def Zi6(m:Int){x q:Int}(h:G - q=y - x):G % m=q % m↔x % m=y % m:=by
 rw [Zcs m h];exact eq_comm
theorem Zcq.sum{x y:Int}{k:Nat}(L:Zcq x y k){t u:Tr}(q:t.pl=true/\u.pl=true)(ho:t.ok=true/\u.ok=true)(h:∀a b c m,t.nv a b c % m=u.nv a b c % m↔x % m=y % m):ZL t u k 0 :=
 ⟨q,ho,fun a b c j C=>vP ((h a b c _).mpr L.e) C,fun b c=>Zcr ((h 0 b c _).mpr L.e) fun z=>L.n ((h 0 b c _).mp z),fun a b c D h1=>absurd h1 (by lia)⟩
def Zcq.okn{x:Int}{k:Nat}(L:Zcq x y k):(Tr.num x).ok=true/\(Tr.num y).ok=true:=⟨Qao L.r.1,Qao L.r.2⟩
def wL {s:Str} (h:s∈(["and","or","odd","add","sub"]:Ai)) {t u:Tr} (q:t.pl=true/\t.ok=true) (hu:u.pl=true/\u.ok=true):(Tr.two s t u).pl=true/\(Tr.two s t u).ok=true:=by
 refine ⟨Qas.mpr ⟨Qao h,Qas.mpr ⟨q.1,hu.1⟩⟩,Qas.mpr ⟨Qao ?_,Qas.mpr ⟨q.2,hu.2⟩⟩⟩;exact (by decide +kernel:∀s∈(["and","or","odd","add","sub"]:Ai),s∈Wm/\Yo s=2) s h
def Zcq.k0{x:Int}{k:Nat}(L:Zcq x y k):ZL (.num x) (.num y) k 0:=L.sum ⟨rfl,rfl⟩ L.okn fun a b c m=>Iff.rfl
def Zcq.k1 {x:Int} {k:Nat} (L:Zcq x y k):ZL (.two "sub" (.num x) .p) (.two "sub" (.num y) .p) k 0:=by
 have C:=wL (s := "sub") (by decide) (t:=.num x) (u:=.p) ⟨rfl,L.okn.1⟩ ⟨rfl,rfl⟩;have q:=wL (s := "sub") (by decide) (t:=.num y) (u:=.p) ⟨rfl,L.okn.2⟩ ⟨rfl,rfl⟩;exact L.sum ⟨C.1,q.1⟩ ⟨C.2,q.2⟩ fun a b c m=>Zcs m (by show (x - a) - (y - a)=x - y;lia)
def Zcq.kp {x:Int} {k:Nat} (L:Zcq x y k) (s:Str) (hs:s∈(["and","or","odd","add","sub"]:Ai)):∃g,(g=if s = "and" then (2:Int) ^ k else 0)/\ZL (.two s .p (.num x)) (.two s .p (.num y)) k g:=by
 have C:=wL hs (t:=.p) (u:=.num x) ⟨rfl,rfl⟩ ⟨rfl,L.okn.1⟩;have q:=wL hs (t:=.p) (u:=.num y) ⟨rfl,rfl⟩ ⟨rfl,L.okn.2⟩;have lo:=fun j (h:j < k)=>vP L.e h;have hi:=Zcr L.e L.n;simp only [Qan,Qbd,Qdq] at hs;rcases hs with rfl | rfl | rfl | rfl | rfl
 ·have e:∀(z a b c:Int) j,bt ((Tr.two "and" .p (.num z)).nv a b c) j=bt a j * bt z j:=fun z a b c j=>Xr j _ _
  have b2:bt ((2:Int) ^ k) k=1:=by
   unfold bt;rw [Int.ediv_self (Qfp (Xf k))]
   rfl
  refine ⟨2 ^ k,rfl,⟨C.1,q.1⟩,⟨C.2,q.2⟩,fun a b c j h=>?_,fun b c=>?_,fun a b c D h1=>?_⟩
  ·rw [e,e,lo j h]
  ·grind
  ·rw [e,e]
   have:bt a k=0:=by
    unfold bt;rw [Qej D h1]
    rfl
   rw [this,Qhn,Qhn]
 ·have e:∀(z a b c:Int) j,bt ((Tr.two "or" .p (.num z)).nv a b c) j=1 - (1 - bt a j) * (1 - bt z j):=fun z a b c j=>Gg j _ _
  refine ⟨0,rfl,⟨C.1,q.1⟩,⟨C.2,q.2⟩,fun a b c j h=>?_,fun b c=>?_,fun a b c D h1=>absurd h1 (by lia)⟩
  ·rw [e,e,lo j h]
  ·rw [e,e,YO]
   intro z;apply hi;lia
 ·have e:∀(z a b c:Int) j,bt ((Tr.two "odd" .p (.num z)).nv a b c) j=(bt a j + bt z j) % 2:=fun z a b c j=>Wg j _ _
  refine ⟨0,rfl,⟨C.1,q.1⟩,⟨C.2,q.2⟩,fun a b c j h=>?_,fun b c=>?_,fun a b c D h1=>absurd h1 (by lia)⟩
  ·rw [e,e,lo j h]
  ·rw [e,e,YO]
   intro z;apply hi;have:=Y8 x k;have:=Y8 y k;lia
 ·exact ⟨0,rfl,L.sum ⟨C.1,q.1⟩ ⟨C.2,q.2⟩ fun a b c m=>Zcs m (by show (a + x) - (a + y)=x - y;lia)⟩
 ·exact ⟨0,rfl,L.sum ⟨C.1,q.1⟩ ⟨C.2,q.2⟩ fun a b c m=>Zi6 m (by show (a - x) - (a - y)=y - x;lia)⟩
theorem pair7(n:Nat):ZL (twn n .p) (.num 0) n 1:=by
 have base:ZL .p (.num 0) 0 1:=⟨⟨rfl,rfl⟩,⟨rfl,rfl⟩,fun _ _ _ _ h=>absurd h (Qd0 _),fun b c=>by show bt 1 0≠bt 0 0;decide,fun a b c q h1=>by
  have:a=0:=by lia
  rw [this];rfl⟩
 have P:=base.twn n;rw [Nat.zero_add] at P;have z:∀n a b c,(twn n (.num 0)).nv a b c=0:=by
  intro n a b c
  induction n with
  | zero=>rfl
  | succ n C =>
   show (twn n (.num 0)).nv a b c + (twn n (.num 0)).nv a b c=0;rw [C];rfl
 refine ⟨⟨P.pl.1,rfl⟩,⟨P.ok.1,rfl⟩,fun a b c j h=>?_,fun b c=>?_,fun a b c q h1=>?_⟩
 ·rw [P.lo a b c j h,z];rfl
 ·have:=P.hi b c
  rw [z] at this;exact this
 ·rw [P.mn a b c q h1,z];rfl
def ptV:Option Str->List V
 | some y=>[.str y]
 | none=>[.int 0]
def Jh{ms:Ai}{o:Option Str}(hk:∀y∈ms,y∉Yb)(h:∀y,o=some y->y∈ms):Prt ms (ptV o)/\Yx (ptV o)=0:=by
 cases o with
 | none=>exact ⟨⟨Zb9 (by decide) (by decide),by decide,by decide⟩,rfl⟩
 | some y =>
  have C:=h y rfl;have q:=hk y C;have D:=wA q;have G:Yx (ptV (some y))=0:=Ziv (fun z=>q ((by decide +kernel:∀y∈allR,y∈Yb) y z)) [];refine ⟨⟨Seg.sum (fun w hw=>?_) ⟨by rw [D];exact Qba _,trivial⟩ (by show 0 - npw (.str y) + 1=1;lia),by show 1<=7;decide,by rw [G];decide⟩,G⟩;rw [Qal.mp hw];exact .inr (.inl ⟨y,rfl,C,fun z=>q (Zer y z),D⟩)
def vaO(ms:Ai)(ls:Aj):Option Str->Int
 | some y=>XT ls ms y
 | none=>0
def vQ{ms:Ai}{o:Option Str}{ls:Aj}(hk:∀y∈ms,y∉Yb)(h:∀y,o=some y->y∈ms):YX ls.length (XT ls ms) (ptV o)=[vaO ms ls o]:=by
 cases o with
 | none =>
  show [(0:Int) % 2 ^ ls.length]=[0];rw [Int.zero_emod]
 | some y =>
  have q:=hk y (h y rfl);have e:YX ls.length (XT ls ms) [.str y]=[rwR ls.length (XT ls ms) (.str y) (([]:Ak).take (npw (.str y)))]++([]:Ak).drop (npw (.str y)):=rfl;show YX ls.length (XT ls ms) [.str y]=_;rw [e,wA q];show [if y∈ZR then _ else XT ls ms y % 2 ^ ls.length]=[XT ls ms y];rw [Qaw (fun z=>q ((by decide +kernel:∀y∈ZR,y∈Yb) y z)),Qcr (Zbw ls ms y).1 (Zbw ls ms y).2]
def Zgg{ms:Ai}{D q C:Option Str}{t u:Tr}(hk:∀y∈ms,y∉Yb)(J:∀y,D=some y->y∈ms)(I:∀y,q=some y->y∈ms)(hR:∀y,C=some y->y∈ms)(pl:t.pl=true/\u.pl=true)(ok:t.ok=true/\u.ok=true){ls:Aj}(hl:ls≠[]) :
  Dff ms (t.flat (ptV D) (ptV q) (ptV C)) (u.flat (ptV D) (ptV q) (ptV C)) ls↔bt (t.nv (vaO ms ls D) (vaO ms ls q) (vaO ms ls C)) (ls.length - 1)≠bt (u.nv (vaO ms ls D) (vaO ms ls q) (vaO ms ls C)) (ls.length - 1):=by
 have a:=vQ (ls:=ls) hk J;have b:=vQ (ls:=ls) hk I;have c:=vQ (ls:=ls) hk hR;have e:=fun (t:Tr) (O:t.ok=true)=>Tr.run hk (Jh hk J).1 (Jh hk I).1 (Jh hk hR).1 a b c (t:=t) O;have G:ls.length - 1 < ls.length:=by
  cases ls with
  | nil=>exact absurd rfl hl
  | cons _ _=>exact Qco _
 unfold Dff;rw [e t ok.1,e u ok.2,Tr.ev_nv (Jg a) (Jg b) (Jg c) pl.1,Tr.ev_nv (Jg a) (Jg b) (Jg c) pl.2];show bt (_ % _) _≠bt (_ % _) _↔_;rw [xl _ _ G,xl _ _ G]
def Zct(i:Nat)(r:Aj):(valN i r:Int)=sm (fun k=>bt ((r.getD k 0:Nat):Int) i) r.length:=by
 rw [<-vN,<-Zf0];congr 2;refine Qdw fun k=>?_;rw [Qaj,Qaj,Qaj]
 by_cases h:k < r.length
 ·rw [Qc0 h,getD_at (d:=0) h]
  rfl
 ·grind
def vR{ms:Ai}{ls:Aj}{y:Str}(hn:ms.Nodup)(h:ms[i]?=some y):XT ls ms y=(valN i ls:Int):=by
 unfold XT;rw [W4 hn h,Zct]
def y4(i:Nat)(g:Int)(W:Nat):Aj:=(List.range W).map fun k=>if bt g k=1 then 2 ^ i else 0
def bt_pow(i j:Nat)(hi:i < 3)(q:j < 3):bt ((2 ^ i:Nat):Int) j=if j=i then 1 else 0:=by
 have h:∀i∈[0,1,2],∀j∈[0,1,2],bt ((2 ^ i:Nat):Int) j=if j=i then 1 else 0:=by decide
 exact h i (by grind) j (by grind)
def wM{j W:Nat}{g:Int}(hi:i < 3)(D:j < 3)(G:0<=g)(C:g < 2 ^ W):(valN j (y4 i g W):Int)=if j=i then g else 0:=by
 have len:(y4 i g W).length=W:=by unfold y4;rw [Qac,Qay]
 have e:∀k,k < W->bt (((y4 i g W).getD k 0:Nat):Int) j=bt (if j=i then g else 0) k:=fun k hk=>by
  unfold y4;rw [Qar,Qaj,Qc0 hk];show bt (((if bt g k=1 then 2 ^ i else 0:Nat)):Int) j=_
  by_cases hb:bt g k=1
  ·rw [Qa1 hb,bt_pow i j hi D]
   by_cases q:j=i
   ·rw [Qa1 q,Qa1 q,hb]
   ·rw [Qaw q,Qaw q,YO]
  ·rw [Qaw hb]
   show bt 0 j=_;rw [YO]
   by_cases q:j=i
   ·rw [Qa1 q]
    rcases Y8 g k with z | z
    ·exact z.symm
    ·exact absurd z hb
   ·rw [Qaw q,YO]
 rw [Zct,len,GS e];rw [Zez]
 split
 ·exact Qcr G C
 ·exact Int.zero_emod _
theorem gL{ms:Ai}{q I J:Option Str}{t u:Tr}{k w:Nat}{g:Int}{r:Aj}(hn3:ms.length<=3)(G:ms.Nodup)(hk:∀y∈ms,y∉Yb)(hP:∀y,q=some y->y∈ms)(hQ:∀y,I=some y->y∈ms)(hR:∀y,J=some y->y∈ms)(A:ZL t u k g)(g0:0<=g)(g1:g < 2 ^ (k + 1))(hg:q=none->g=0)
  (F:vO ms (t.flat (ptV q) (ptV I) (ptV J)) (u.flat (ptV q) (ptV I) (ptV J)) w r):w=k + 1/\∀i y,ms[i]?=some y->(valN i r:Int)=if q=some y then g else 0:=by
 have df:=fun {ls:Aj} (hl:ls≠[])=>Zgg hk hP hQ hR A.pl A.ok hl;obtain ⟨D,C⟩:∃D,D < 3/\∀y,q=some y->ms[D]?=some y:=by
  cases q with
  | none=>exact ⟨0,by decide,fun _ z=>nomatch z⟩
  | some y =>
   obtain ⟨i,hi⟩:=Qct (hP y rfl);exact ⟨i,by have:=(Qah.mp hi).1;lia,fun z e=>by cases e;exact hi⟩
 have len:(y4 D g (k + 1)).length=k + 1:=by unfold y4;rw [Qac,Qay]
 have vT:=fun j (hj:j < 3)=>wM (W:=k + 1) C.1 hj g0 g1;have neT:y4 D g (k + 1)≠[]:=fun z=>by rw [z] at len;cases len
 have O:∀l∈y4 D g (k + 1),l < 2 ^ ms.length:=fun l hl=>by
  obtain ⟨j,_,rfl⟩:=Qa2.mp hl
  split
  ·rename_i hb
   cases q with
   | none =>
    rw [hg rfl,YO] at hb;cases hb
   | some y=>exact Nat.pow_lt_pow_right (by decide) (Qah.mp (C.2 y rfl)).1
  ·exact Qhl _
 have aT:vaO ms (y4 D g (k + 1)) q=g:=by
  cases q with
  | none=>exact (hg rfl).symm
  | some y =>
   show XT _ ms y=g;rw [vR G (C.2 y rfl),vT D C.1,Qa1 rfl]
 have dT:Dff ms (t.flat (ptV q) (ptV I) (ptV J)) (u.flat (ptV q) (ptV I) (ptV J)) (y4 D g (k + 1)):=(df neT).mpr (by
  rw [aT,len];exact A.hi _ _)
 have neR:r≠[]:=fun z=>by
  have h0:=F.len;rw [z] at h0;have h0:0=w:=h0;have:=F.w1;lia
 have Y:=(df neR).mp F.df;have h1:w<=k + 1:=by have:=F.least _ neT O dT;rw [len] at this;exact this
 have h2:k + 1<=w:=by
  rcases Qc3 (w - 1) k with z | z
  ·rw [F.len] at Y
   exact absurd (A.lo _ _ _ _ z) Y
  ·have:=F.w1
   lia
 have hw:w=k + 1:=by lia
 refine ⟨hw,?_⟩;have fin:y4 D g (k + 1)=r:=by
  rcases F.fst _ (by rw [len,hw]) O dT with z | ⟨j,hj,_,z⟩
  ·exact z
  ·exfalso
   have vj:=vT j (by lia)
   by_cases e:j=D
   ·cases q with
    | none =>
     have:=hg rfl;lia
    | some y =>
     have va:vaO ms r (some y)=(valN D r:Int):=vR G (C.2 y rfl);rw [F.len,hw] at Y;refine Y (A.mn _ _ _ (by rw [va];exact Qch _) ?_);rw [e] at z vj;rw [va];lia
   ·lia
 intro i y Z;have hi:=(Qah.mp Z).1;rw [<-fin,vT i (by lia)]
 by_cases e:q=some y
 ·rw [Qa1 e]
  have:=C.2 y e;have e1:=W4 G Z;have e2:=W4 G this;rw [Qa1 (by rw [<-e1,<-e2])]
 ·rw [Qaw e]
  by_cases e2:i=D
  ·cases q with
   | none=>rw [Qa1 e2];exact hg rfl
   | some z =>
    have:=C.2 z rfl;rw [<-e2,Z] at this;exact absurd this.symm e
  ·rw [Qaw e2]
def Tr.u(k:Nat):Tr->Bool
 | .p=>k == 0
 | .q=>k == 1
 | .r=>k == 2
 | .num _=>false
 | .one _ t=>t.u k
 | .two _ t u=>t.u k || u.u k
 | .thr _ t u v=>t.u k || u.u k || v.u k
theorem Tr.mem{P Q R:A0}{y:Str}(C:y∉Yb):∀{t:Tr},t.ok=true->V.str y∈t.flat P Q R->V.str y∈P\/V.str y∈Q\/V.str y∈R
 | .p,_,h=>.inl h
 | .q,_,h=>.inr (.inl h)
 | .r,_,h=>.inr (.inr h)
 | .num z,_,h=>by cases Qal.mp h
 | .one s t,o,h=>by
  obtain ⟨I,D⟩:=Qas.mp o;rcases Qan.mp h with e | h
  ·injection e with e
   exact absurd ((by decide +kernel:∀y∈Wm,y∈Yb) s (Qaz I).1) (by rw [<-e];exact C)
  ·exact Tr.mem C D h
 | .two s t u,o,h=>by
  obtain ⟨I,D⟩:=Qas.mp o;obtain ⟨D,G⟩:=Qas.mp D;rcases Qan.mp h with e | h
  ·injection e with e
   exact absurd ((by decide +kernel:∀y∈Wm,y∈Yb) s (Qaz I).1) (by rw [<-e];exact C)
  ·rcases Qa4.mp h with h | h
   ·exact Tr.mem C D h
   ·exact Tr.mem C G h
 | .thr s t u v,o,h=>by
  obtain ⟨I,D⟩:=Qas.mp o;obtain ⟨D,G⟩:=Qas.mp D;obtain ⟨G,J⟩:=Qas.mp G;rcases Qan.mp h with e | h
  ·injection e with e
   exact absurd ((by decide +kernel:∀y∈Wm,y∈Yb) s (Qaz I).1) (by rw [<-e];exact C)
  ·rcases Qa4.mp h with h | h
   ·exact Tr.mem C D h
   ·rcases Qa4.mp h with h | h
    ·exact Tr.mem C G h
    ·exact Tr.mem C J h
theorem Tr.use{P Q R:A0}{k:Nat}{x:V}:∀{t:Tr},t.u k=true->x∈(if k=0 then P else if k=1 then Q else R)->x∈t.flat P Q R
 | .p,h,hx=>by rw [show k=0 from Qgz.mp h] at hx;exact hx
 | .q,h,hx=>by rw [show k=1 from Qgz.mp h] at hx;exact hx
 | .r,h,hx=>by rw [show k=2 from Qgz.mp h] at hx;exact hx
 | .num _,h,_=>nomatch h
 | .one _ t,h,hx=>Qam _ (Tr.use (t:=t) h hx)
 | .two _ t u,h,hx=>by
  refine Qam _ (Qa4.mpr ?_);rcases Qgi.mp h with h | h
  ·exact .inl (Tr.use h hx)
  ·exact .inr (Tr.use h hx)
 | .thr _ t u v,h,hx=>by
  refine Qam _ (Qa4.mpr ?_);rcases Qgi.mp h with h | h
  ·rcases Qgi.mp h with h | h
   ·exact .inl (Tr.use h hx)
   ·exact .inr (Qa4.mpr (.inl (Tr.use h hx)))
  ·exact .inr (Qa4.mpr (.inr (Tr.use h hx)))
def XX{o:Option Str}{y:Str}:V.str y∈ptV o↔o=some y:=by
 cases o with
 | none=>exact ⟨(fun h=>by cases Qal.mp h),fun h=>nomatch h⟩
 | some z=>exact ⟨(fun h=>by injection Qal.mp h with h;rw [h]),fun h=>by injection h with h;rw [h];exact Qal.mpr rfl⟩
def y6{D q C:Option Str}{t u:Tr}{ms:Ai}(ok:t.ok=true/\u.ok=true)(hn:∀y,D=some y\/q=some y\/C=some y->NmS y)(I:D≠none->t.u 0=true\/u.u 0=true)(h1:q≠none->t.u 1=true\/u.u 1=true)(h2:C≠none->t.u 2=true\/u.u 2=true)
  (N:W7 (t.flat (ptV D) (ptV q) (ptV C)) (u.flat (ptV D) (ptV q) (ptV C)) ms):ms.Nodup/\∀y,y∈ms↔D=some y\/q=some y\/C=some y:=by
 refine ⟨N.1.nodup_iff.mpr (vh _),fun y=>?_⟩;rw [N.1.mem_iff];have e:=(zC ((((t.flat (ptV D) (ptV q) (ptV C))++(u.flat (ptV D) (ptV q) (ptV C))).filter nmB).map Zh6) [] Qdg).2 y;rw [show y∈XO _↔_ from e]
 constructor
 ·rintro (h | h)
  ·cases h
  ·obtain ⟨x,hx,rfl⟩:=Qa2.mp h
   obtain ⟨hx,hb⟩:=Qdi.mp hx;cases x with
   | str y =>
    have G:=Qaz hb;have:=(Qa4.mp hx).elim (fun z=>Tr.mem G.1 ok.1 z) fun z=>Tr.mem G.1 ok.2 z;rcases this with z | z | z
    ·exact .inl (XX.mp z)
    ·exact .inr (.inl (XX.mp z))
    ·exact .inr (.inr (XX.mp z))
   | _=>cases hb
 ·intro h
  have nm:=hn y h;refine .inr (Qa2.mpr ⟨.str y,Qdi.mpr ⟨?_,Qao ⟨nm.k,nm.l⟩⟩,rfl⟩);rw [Qa4];rcases h with h | h | h
  ·rcases I (by rw [h];exact fun z=>nomatch z) with z | z
   ·exact .inl (Tr.use z (XX.mpr h))
   ·exact .inr (Tr.use z (XX.mpr h))
  ·rcases h1 (by rw [h];exact fun z=>nomatch z) with z | z
   ·exact .inl (Tr.use z (XX.mpr h))
   ·exact .inr (Tr.use z (XX.mpr h))
  ·rcases h2 (by rw [h];exact fun z=>nomatch z) with z | z
   ·exact .inl (Tr.use z (XX.mpr h))
   ·exact .inr (Tr.use z (XX.mpr h))
def Zcu{D C G:Option Str}{ms ks:Ai}(h1:ms.Nodup)(h2:∀y,y∈ms↔D=some y\/C=some y\/G=some y)(k1:ks.Nodup)(k2:∀y,y∈ks↔D=some y\/C=some y\/G=some y):ms.length=ks.length:=by
 have a:=Xg h1 fun y q=>(k2 y).mpr ((h2 y).mp q);have b:=Xg k1 fun y q=>(h2 y).mpr ((k2 y).mp q);lia
def Tr.rm:Tr->Nat
 | .one y t=>t.rm + if y∈allR then 1 else 0
 | .two y t u=>t.rm + u.rm + if y∈allR then 1 else 0
 | .thr y t u v=>t.rm + u.rm + v.rm + if y∈allR then 1 else 0
 | _=>0
def ji(y:Str)(r:A0):Yx (.str y::r)=Yx r + if y∈allR then 1 else 0:=by
 rw [W5,ZN]
 by_cases h:y∈allR
 ·grind
 ·grind
theorem Tr.rm_eq{P Q R:A0}(C:Yx P=0)(D:Yx Q=0)(hR:Yx R=0):∀t:Tr,Yx (t.flat P Q R)=t.rm
 | .p=>C
 | .q=>D
 | .r=>hR
 | .num _=>rfl
 | .one y t=>by
  show Yx (.str y::t.flat P Q R)=_;rw [ji,Tr.rm_eq C D hR t]
  rfl
 | .two y t u=>by
  show Yx (.str y::(t.flat P Q R++u.flat P Q R))=_;rw [ji,WE,Tr.rm_eq C D hR t,Tr.rm_eq C D hR u]
  rfl
 | .thr y t u v=>by
  show Yx (.str y::(t.flat P Q R++(u.flat P Q R++v.flat P Q R)))=_;rw [ji,WE,WE,Tr.rm_eq C D hR t,Tr.rm_eq C D hR u,Tr.rm_eq C D hR v,<-Nat.add_assoc]
  rfl
def wrO(es:Ai)(t:Tr):Tr:=match es with
 | []=>t
 | [_]=>.two "odd" .q t
 | _=>.two "odd" .r (.two "odd" .q t)
def wrN (c:Bool) (t:Tr):Tr:=if c then .one "not" t else t
def ZL.wr{t u:Tr}{k:Nat}{g:Int}(P:ZL t u k g)(c:Bool)(es:Ai):ZL (wrN c (wrO es t)) (wrN c (wrO es u)) k g:=by
 have Q:ZL (wrO es t) (wrO es u) k g:=by
  unfold wrO
  split
  ·exact P
  ·exact P.odd (.inl rfl)
  ·exact (P.odd (.inl rfl)).odd (.inr rfl)
 cases c
 ·exact Q
 ·exact Q.nt
def wO(c:Bool)(es:Ai)(t:Tr):(wrN c (wrO es t)).rm=t.rm/\(wrN c (wrO es t)).sz<=t.sz + 17/\(wrN c (wrO es t)).rs<=t.rs + 5/\(wrN c (wrO es t)).u 0=t.u 0/\(1<=es.length->(wrN c (wrO es t)).u 1=true)/\(2<=es.length->(wrN c (wrO es t)).u 2=true):=by
 have q:(if ("not" : Str)∈allR then 1 else 0)=0:=by decide
 have C:(if ("odd" : Str)∈allR then 1 else 0)=0:=by decide
 match es with
 | []=>cases c <;> simp [wrN,wrO,Tr.rm,Tr.sz,Tr.rs,Tr.u,q] <;> lia
 | [_]=>cases c <;> simp [wrN,wrO,Tr.rm,Tr.sz,Tr.rs,Tr.u,q,C] <;> lia
 | _::_::_=>cases c <;> simp [wrN,wrO,Tr.rm,Tr.sz,Tr.rs,Tr.u,q,C] <;> lia
theorem JK:∀(n:Nat) (t:Tr),(twn n t).rm=t.rm + n/\(twn n t).sz=t.sz + n/\(twn n t).rs=t.rs + n/\∀k,(twn n t).u k=t.u k
 | 0,t=>⟨rfl,rfl,rfl,fun _=>rfl⟩
 | n + 1,t=>by
  obtain ⟨h1,h2,C,q⟩:=JK n t;have nt:(if ("twice" : Str)∈allR then 1 else 0)=1:=by decide
  refine ⟨?_,?_,?_,fun k=>q k⟩
  ·show (twn n t).rm + (if ("twice" : Str)∈allR then 1 else 0)=_
   lia
  ·show (twn n t).sz + 1=_
   rw [h2];lia
  ·show (twn n t).rs + 1=_
   rw [C];lia
theorem qa (P Q R:A0):∀(n:Nat) (t:Tr),(twn n t).flat P Q R=List.replicate n (V.str "twice")++t.flat P Q R
 | 0,t=>rfl
 | n + 1,t=>by
  show V.str "twice" :: (twn n t).flat P Q R=_;rw [qa P Q R n t]
  rfl
theorem Zgh:∀(n:Nat) {a b:Int},0<=a->a < 2 ^ n->0<=b->b < 2 ^ n->0<=Builtin.bitXor a b/\Builtin.bitXor a b < 2 ^ n
 | 0,a,b,h1,h2,C,q=>by
  rw [show a=0 by lia,show b=0 by lia]
  decide
 | n + 1,a,b,h1,h2,C,q=>by
  have e:=xor2 a b;have p:(2:Int) ^ (n + 1)=2 ^ n * 2:=Qdr ..;have D:=Zgh n (a:=a / 2) (b:=b / 2) (by lia) (by lia) (by lia) (by lia);lia
theorem xor_ne{a b:Int}(hb:b % 2 ^ 9≠0):Builtin.bitXor a b≠a:=fun z=>hb (by
 have:b % 2 ^ 9=0 % 2 ^ 9:=qP fun k hk=>by
  have h:=Wg k a b;rw [z] at h;rw [YO];have:=Y8 b k;lia
 rw [this];rfl)
def Ze5{o x b:Int}(J:0<=o)(h1:o < 512)(G:0<=b)(D:b < 9):(0<=Builtin.bitXor o ((1 + 2 * x) * 2 ^ b.toNat % 512)/\Builtin.bitXor o ((1 + 2 * x) * 2 ^ b.toNat % 512) < 1000)/\Builtin.bitXor o ((1 + 2 * x) * 2 ^ b.toNat % 512)≠o:=by
 have q:0<=(1 + 2 * x) * 2 ^ b.toNat % 512:=Qb1 _ (by decide);have C:(1 + 2 * x) * 2 ^ b.toNat % 512 < 512:=Qbp _ (by decide);have O:(1 + 2 * x) * 2 ^ b.toNat % 512≠0:=by
  obtain ⟨n,rfl⟩:∃n:Nat,b=(n:Int):=⟨b.toNat,by lia⟩;rw [Qat]
  match n,D with
  | 0,_=>lia
  | 1,_=>lia
  | 2,_=>lia
  | 3,_=>lia
  | 4,_=>lia
  | 5,_=>lia
  | 6,_=>lia
  | 7,_=>lia
  | 8,_=>lia
  | n + 9,h=>exact absurd h (by lia)
 generalize (1 + 2 * x) * 2 ^ b.toNat % 512=y at *;have I:=Zgh 9 J (show o < 2 ^ 9 from h1) q (show y < 2 ^ 9 from C);refine ⟨⟨I.1,by lia⟩,xor_ne ?_⟩;lia
def WS (q:Nat):Str:=["add","sub","odd","or","and"].getD (q - 2) "and"
def YJ (q:Nat) (x:Int):Tr:=if q=0 then .num x else if q=1 then .two "sub" (.num x) .p else .two (WS q) .p (.num x)
def Zcv{P Q R:A0}{t:Tr}(q:N.length<=3)(C:N.Nodup)(hk:∀y∈N,y∉Yb)(G:Prt N P)(I:Prt N Q)(hR:Prt N R)(D:t.ok=true)(hs:t.sz<=100)(hr:t.rs<=15):POk N false (t.flat P Q R):=by
 obtain ⟨g,l,m⟩:=Tr.seg hk G I hR D;exact ⟨q,C,hk,by lia,g,by lia⟩
def Zcw  (h:N.length<=2) (c:Int) (t:Tr) (P:A0):(if c % 2=1 then [V.str "not"] else [])++N.foldl (fun q e=>V.str "odd" :: V.str e::q) (t.flat P (ptV N[0]?) (ptV N[1]?))=(wrN (decide (c % 2=1)) (wrO N t)).flat P (ptV N[0]?) (ptV N[1]?):=by
 have e:N.foldl (fun q e=>V.str "odd" :: V.str e::q) (t.flat P (ptV N[0]?) (ptV N[1]?))=(wrO N t).flat P (ptV N[0]?) (ptV N[1]?):=by
  match N,h with
  | [],_=>rfl
  | [_],_=>rfl
  | [_,_],_=>rfl
  | _::_::_::_,h=>exact absurd h (by show ¬_ + 1 + 1 + 1<=2;lia)
 rw [e]
 by_cases hc:c % 2=1
 ·rw [Qa1 hc,Qao hc]
  rfl
 ·rw [Qaw hc,Qau hc]
  rfl
theorem G5 (n:Nat):(List.replicate n [V.str "twice"]).flatten=List.replicate n (V.str "twice"):=by
 induction n with
 | zero=>rfl
 | succ n q=>rw [Qgc,List.flatten_cons,q];rfl
def kvE(es:Ai):Ay:=es.map fun y=>((Sum.inr y:Key),V.int 0)
theorem Gn(y:Str):∀es:Ai,Yf (kvE es) (.inr y)=if y∈es then some (.int 0) else none
 | []=>rfl
 | e::es=>by
  show Yf ((Sum.inr e,V.int 0)::kvE es) _=_
  by_cases h:e=y
  ·subst h
   rw [ZY rfl,Qa1 Qaq]
  ·rw [ZS (fun z=>h (by injection z)),Gn y es]
   by_cases m:y∈es
   ·grind
   ·grind
def vS{y:Str}(h:y∉N)(v:V):putK (kvE N) (.inr y) v=kvE N++[(.inr y,v)]:=zu _ (by rw [Gn,Qaw h])
def Zcx{kvs:Ay}{k:Key}{v:V}(h:Yf kvs k=none):putK (kvs++[(k,v)]) k w=kvs++[(k,w)]:=by
 have hs:(Yf (kvs++[(k,v)]) k).isSome=true:=by rw [Wr _ _ _ _ h,Qa1 rfl];rfl
 unfold putK;rw [Qa1 (by rw [Xy];exact hs),Qa6];have hn:∀p∈kvs,¬p.1=k:=fun p hp e=>by
  have:=Xy k kvs;rw [h] at this;have h2:=List.any_eq_false.mp this p hp;exact h2 (Qao e)
 rw [show kvs.map (fun q=>if q.1=k then (q.1,w) else q)=kvs from by
  conv=>rhs;rw [<-List.map_id kvs]
  exact Qcl fun p hp=>Qaw (hn p hp)]
 simp
def kvO(es:Ai)(q:Option Str)(g:Int):Ay:=kvE es++match q with
 | some y=>[(.inr y,.int g)]
 | none=>[]
def vU(es:Ai)(q:Option Str)(g:Int):(kvO es q g).length=(es++q.toList).length:=by
 unfold kvO kvE;cases q <;> simp
def Zi7{C:Option Str}{g:Int}(D:∀y,C=some y->y∉N):∀q∈kvO N C g,∃(y:Str) (z:Int),q=(.inr y,.int z)/\(z=if C=some y then g else 0)/\(y∈N\/C=some y)/\Yf (kvO N C g) (.inr y)=some (.int z):=by
 intro q I;have val:∀y,Yf (kvO N C g) (.inr y)=if C=some y then some (.int g) else if y∈N then some (.int 0) else none:=fun y=>by
  unfold kvO;cases C with
  | none =>
   rw [Qbq,Gn];exact (Qaw (fun z=>nomatch z)).symm
  | some x =>
   rw [Wr _ _ _ _ (by rw [Gn,Qaw (D x rfl)]),Gn]
   by_cases e:y=x
   ·grind
   ·grind
 rcases Qa4.mp I with h | h
 ·obtain ⟨y,G,rfl⟩:=Qa2.mp h
  have hn:C≠some y:=fun z=>D y z G;exact ⟨y,0,rfl,by rw [Qaw hn],.inl G,by rw [val,Qaw hn,Qa1 G]⟩
 ·grind
def jj(h:N.length<=2)(y:Str):y∈N↔N[0]?=some y\/N[1]?=some y:=by
 match N,h with
 | [],_=>simp
 | [a],_=>simp [eq_comm]
 | [a,b],_=>simp [eq_comm]
 | _::_::_::_,h=>exact absurd h (by show ¬_ + 1 + 1 + 1<=2;lia)
def Tr.ln:Tr->Nat
 | .one _ t=>t.ln + 1
 | .two _ t u=>t.ln + u.ln + 1
 | .thr _ t u v=>t.ln + u.ln + v.ln + 1
 | _=>1
def XY(o:Option Str):(ptV o).length=1:=by cases o <;> rfl
theorem Tr.ln_eq{P Q R:A0}(C:P.length=1)(D:Q.length=1)(hR:R.length=1):∀t:Tr,(t.flat P Q R).length=t.ln
 | .p=>C
 | .q=>D
 | .r=>hR
 | .num _=>rfl
 | .one y t=>by show (t.flat P Q R).length + 1=_;rw [Tr.ln_eq C D hR t];rfl
 | .two y t u=>by show (t.flat P Q R++u.flat P Q R).length + 1=_;rw [Qae,Tr.ln_eq C D hR t,Tr.ln_eq C D hR u];rfl
 | .thr y t u v=>by show (t.flat P Q R++(u.flat P Q R++v.flat P Q R)).length + 1=_;rw [Qae,Qae,Tr.ln_eq C D hR t,Tr.ln_eq C D hR u,Tr.ln_eq C D hR v,<-Nat.add_assoc];rfl
def Zkl(c:Bool)(es:Ai)(t:Tr):(wrN c (wrO es t)).ln<=t.ln + 5:=by
 match es with
 | []=>cases c <;> simp [wrN,wrO,Tr.ln] <;> lia
 | [_]=>cases c <;> simp [wrN,wrO,Tr.ln] <;> lia
 | _::_::_=>cases c <;> simp [wrN,wrO,Tr.ln] <;> lia
theorem Zcy:∀(n:Nat) (t:Tr),(twn n t).ln=t.ln + n
 | 0,_=>rfl
 | n + 1,t=>by show (twn n t).ln + 1=_;rw [Zcy n t];lia
structure Rdy(tA tB:Tr)(k:Nat)(g:Int)(oP:Option Str)(nmv:Str)(kd far:Nat):Prop where
 ok:ZL tA tB k g
 g0:0<=g
 g1:g < 2 ^ (k + 1)
 op:oP=none\/oP=some nmv
 gz:oP=none->g=0
 us:oP≠none->tA.u 0=true
 rm:tA.rm + far<=5/\tB.rm + far<=5
 sz:tA.sz<=15/\tB.sz<=15
 rs:tA.rs<=6/\tB.rs<=6
 f4:far<=4
 ln:tA.ln + far<=8/\tB.ln + far<=8
def Rdy.far{tA tB:Tr}{k:Nat}{g:Int}{C:Option Str}{D:Str}{kd far:Nat}(R:Rdy tA tB k g C D kd far)(c:Bool){es:Ai}(h2:es.length<=2)(hd:es.Nodup)(hne:D∉es)(Y:∀y∈es,NmS y)(hn:NmS D) :
  let t:=wrN c (wrO es (twn far tA));let u:=wrN c (wrO es (twn far tB))
  ZL t u (k + far) g/\(∀ms,W7 (t.flat (ptV C) (ptV es[0]?) (ptV es[1]?)) (u.flat (ptV C) (ptV es[0]?) (ptV es[1]?)) ms\/W7 (u.flat (ptV C) (ptV es[0]?) (ptV es[1]?)) (t.flat (ptV C) (ptV es[0]?) (ptV es[1]?)) ms->(ms.Nodup/\∀y,y∈ms↔C=some y\/es[0]?=some y\/es[1]?=some y)/\POk ms false (t.flat (ptV C) (ptV es[0]?) (ptV es[1]?))/\POk ms false (u.flat (ptV C) (ptV es[0]?) (ptV es[1]?)))/\11 * 2 ^ Yx (t.flat (ptV C) (ptV es[0]?) (ptV es[1]?)) * (11 * 2 ^ Yx (u.flat (ptV C) (ptV es[0]?) (ptV es[1]?)))<=1000000:=by
 intro t u;have A:ZL t u (k + far) g:=(R.ok.twn far).wr c es;obtain ⟨a1,a2,a3,a4,a5,a6⟩:=wO c es (twn far tA);obtain ⟨b1,b2,b3,b4,b5,b6⟩:=wO c es (twn far tB);obtain ⟨c1,c2,c3,c4⟩:=JK far tA;obtain ⟨d1,d2,d3,d4⟩:=JK far tB;have r1:=R.rm;have r2:=R.sz;have r3:=R.rs;have r4:=R.f4;have q:∀y,C=some y\/es[0]?=some y\/es[1]?=some y->NmS y:=fun y h=>by
  rcases h with h | h
  ·rcases R.op with z | z
   ·rw [z] at h;cases h
   ·rw [z] at h;cases h;exact hn
  ·exact Y y ((jj h2 y).mpr h)
 have I:C≠none->t.u 0=true:=fun h=>by rw [a4,c4];exact R.us h
 have G:es[0]?≠none->t.u 1=true:=fun h=>a5 (by
  grind)
 have J:es[1]?≠none->t.u 2=true:=fun h=>a6 (by
  grind)
 refine ⟨A,fun ms N=>?_,?_⟩
 ·have F:ms.Nodup/\∀y,y∈ms↔C=some y\/es[0]?=some y\/es[1]?=some y:=by
   rcases N with N | N
   ·exact y6 A.ok q (fun h=>.inl (I h)) (fun h=>.inl (G h)) (fun h=>.inl (J h)) N
   ·exact y6 ⟨A.ok.2,A.ok.1⟩ q (fun h=>.inr (I h)) (fun h=>.inr (G h)) (fun h=>.inr (J h)) N
  obtain ⟨O,mem⟩:=F;have hk:∀y∈ms,y∉Yb:=fun y Z=>(q y ((mem y).mp Z)).k;have n3:ms.length<=3:=by
   have:=Xg (l2:=C.toList++es) O fun y Z=>by
    grind
   rw [Qae] at this;have l1:C.toList.length<=1:=by cases C <;> simp
   lia
  have P1:=(Jh (o:=C) hk fun y h=>(mem y).mpr (.inl h)).1;have P2:=(Jh (o:=es[0]?) hk fun y h=>(mem y).mpr (.inr (.inl h))).1;have P3:=(Jh (o:=es[1]?) hk fun y h=>(mem y).mpr (.inr (.inr h))).1;exact ⟨⟨O,mem⟩,Zcv n3 O hk P1 P2 P3 A.ok.1 (by show (wrN c (wrO es (twn far tA))).sz<=100;lia) (by show (wrN c (wrO es (twn far tA))).rs<=15;lia),Zcv n3 O hk P1 P2 P3 A.ok.2 (by show (wrN c (wrO es (twn far tB))).sz<=100;lia) (by show (wrN c (wrO es (twn far tB))).rs<=15;lia)⟩
 ·have z:∀o:Option Str,(∀y,o=some y->NmS y)->Yx (ptV o)=0:=fun o h=>by
   cases o with
   | none=>rfl
   | some y=>exact (Jh (ms:=[y]) (o:=some y) (fun x hx=>by rw [Qal.mp hx];exact (h y rfl).k) fun x hx=>by cases hx;exact Qal.mpr rfl).2
  have z0:=z C fun y h=>q y (.inl h);have z1:=z es[0]? fun y h=>q y (.inr (.inl h));have z2:=z es[1]? fun y h=>q y (.inr (.inr h));rw [Tr.rm_eq z0 z1 z2,Tr.rm_eq z0 z1 z2];have e1:2 ^ t.rm<=2 ^ 5:=Qc8 (by decide) (by show (wrN c (wrO es (twn far tA))).rm<=5;lia);have e2:2 ^ u.rm<=2 ^ 5:=Qc8 (by decide) (by show (wrN c (wrO es (twn far tB))).rm<=5;lia);exact Qa8 (Nat.mul_le_mul (Nat.mul_le_mul_left 11 e1) (Nat.mul_le_mul_left 11 e2)) (by decide)
theorem Tr.si{P Q R:A0}(hP:∀x∈P,G2 x)(Z:∀x∈Q,G2 x)(hR:∀x∈R,G2 x):∀{t:Tr},t.ok=true->∀x∈t.flat P Q R,G2 x:=by
 have G:∀s∈Wm,G2 (.str s):=fun s hs=>.inl ⟨s,rfl,(by decide +kernel:∀s∈Wm,s.length<=1000) s hs⟩;intro t
 induction t with
 | p=>exact fun _=>hP
 | q=>exact fun _=>Z
 | r=>exact fun _=>hR
 | num z=>intro _ x hx;rw [Qal.mp hx];exact .inr ⟨z,rfl⟩
 | one y t ih =>
  intro o x hx;obtain ⟨D,C⟩:=Qas.mp o;rcases Qan.mp hx with rfl | hx
  ·exact G y (Qaz D).1
  ·exact ih C x hx
 | two y t u O I =>
  intro o x hx;obtain ⟨D,C⟩:=Qas.mp o;obtain ⟨C,J⟩:=Qas.mp C;rcases Qan.mp hx with rfl | hx
  ·exact G y (Qaz D).1
  ·grind
 | thr y t u v O I Y =>
  intro o x hx;obtain ⟨D,C⟩:=Qas.mp o;obtain ⟨C,J⟩:=Qas.mp C;obtain ⟨J,o4⟩:=Qas.mp J;rcases Qan.mp hx with rfl | hx
  ·exact G y (Qaz D).1
  ·grind
def Zcz{o:Option Str}(h:∀y,o=some y->NmS y):∀x∈ptV o,G2 x:=by
 cases o with
 | none=>intro x hx;rw [Qal.mp hx];exact .inr ⟨0,rfl⟩
 | some y=>intro x hx;rw [Qal.mp hx];exact .inl ⟨y,rfl,Qa8 (h y rfl).l.1.2 (by decide)⟩
def Zc0:∀ys:Ai,ys.Nodup->keysOf ys=ys.map (Sum.inr:Str->Key):=by
 refine snoc_ind (fun _=>rfl) fun ys y q h=>?_;obtain ⟨h1,_,C⟩:=Qdv.mp h;rw [Je,q h1,Qaw,Qa6]
 ·rfl
 ·grind
def Tab.len_nd{a:Ay}{ys:Ai}{f:Str->Int}(T:Tab a ys f)(h:ys.Nodup):a.length=ys.length:=by
 have:=congrArg List.length T.keys;rw [Zc0 ys h,Qac,Qac] at this;exact this
def WG(q:Nat)(x:Int)(P Q R D C:A0):(YJ q x).flat P Q R=(YJ q x).flat P D C:=by
 unfold YJ
 split
 ·rfl
 ·split <;> rfl
theorem Ze6{ms:Ai}{C G I:Option Str}{t u:Tr}{k:Nat}{g:Int}(Z:ms.length<=3)(J:ms.Nodup)(hk:∀y∈ms,y∉Yb)(O:∀y,C=some y->y∈ms)(hQ:∀y,G=some y->y∈ms)(hR:∀y,I=some y->y∈ms)(A:ZL t u k g)(g0:0<=g)(g1:g < 2 ^ (k + 1))(hg:C=none->g=0) :
  ∃T:Aj,T≠[]/\(∀l∈T,l < 2 ^ ms.length)/\Dff ms (t.flat (ptV C) (ptV G) (ptV I)) (u.flat (ptV C) (ptV G) (ptV I)) T:=by
 obtain ⟨D,q⟩:∃D,D < 3/\∀y,C=some y->ms[D]?=some y:=by
  cases C with
  | none=>exact ⟨0,by decide,fun _ z=>nomatch z⟩
  | some y =>
   obtain ⟨i,hi⟩:=Qct (O y rfl);exact ⟨i,by grind,fun z e=>by cases e;exact hi⟩
 have len:(y4 D g (k + 1)).length=k + 1:=by unfold y4;rw [Qac,Qay]
 have neT:y4 D g (k + 1)≠[]:=fun z=>by rw [z] at len;cases len
 have Y:vaO ms (y4 D g (k + 1)) C=g:=by
  cases C with
  | none=>exact (hg rfl).symm
  | some y =>
   show XT _ ms y=g;rw [vR J (q.2 y rfl),wM (W:=k + 1) q.1 q.1 g0 g1,Qa1 rfl]
 refine ⟨y4 D g (k + 1),neT,fun l hl=>?_,(Zgg hk O hQ hR A.pl A.ok neT).mpr (by rw [Y,len];exact A.hi _ _)⟩;obtain ⟨j,_,rfl⟩:=Qa2.mp hl
 split
 ·rename_i hb
  cases C with
  | none =>
   rw [hg rfl,YO] at hb;cases hb
  | some y=>exact Nat.pow_lt_pow_right (by decide) (Qah.mp (q.2 y rfl)).1
 ·exact Qhl _
set_option genInjectivity false in
set_option genSizeOfSpec false in
structure Adr where
 ov:Au
 ow:Am
 ni:Au
 nj:Am
 tq:Au
 tu:Am
 ij:Au
 ik:Am
 ff:Au
 fg:Am
 nq:Au
 nu:Am
 ka:Au
 kb:Am
 lg:Au
 lh:Am
 il:Au
 ip:Am
 lj:Au
 ll:Am
 iq:Au
 ir:Am
 mr:Au
 mw:Am
 ny:Au
 nz:Am
 ox:Au
 oy:Am
 lq:Au
 lr:Am
 ie:Au
 ig:Am
 rj:Au
 rk:Am
 mx:Au
 my:Am
 oz:Au
 pb:Am
 dk:Au
 dm:Am
 og:Au
 oh:Am
 lu:Au
 lx:Am
 ma:Au
 md:Am
 fu:Au
 fw:Am
 rn:Au
 ro:Am
 mz:Au
 nc:Am
 pd:Au
 pe:Am
 et:Au
 eu:Am
 pf:Au
 ph:Am
 rp:Au
 rq:Am
 kv:Au
 lb:Am
 oj:Au
 om:Am
 me:Au
 mf:Am
 oq:Au
 ou:Am
 iu:Au
 iw:Am
 fy:Au
 ia:Am
 mh:Au
 mi:Am
 pj:Au
 pk:Am
 mj:Au
 mq:Am
 rr:Au
 sf:Am
 ix:Au
 iy:Am
 ib:Au
 dg:Am
 fe:Au
 cg:Am
 ng:Au
 nh:Am
 qs:Au
 ra:Am
 ui:Au
 uj:Am
 dh:Au
 ae:Au
 cj:Au
 aa:Au
 aq:Au
 ag:Au
 af:Au
 vl:Tok
 sy:Tok
 bu:Au
structure Kg(K:Af)(w:Ar)(mg:Ae)(x:Str)(a:Au)(l:List (Str × Int)):Prop where
 m:mg x=some (.ref a)
 d:KD K w a l
structure Kt(K:Af)(mg:Ae)(x:Str)(a:Au)(l:Ai):Prop where
 m:mg x=some (.ref a)
 d:∀H,SqT K H a (l.map V.str)
structure Df(K:Af)(mg:Ae)(x:Str)(st:Aw)(ps:Ai)(f:Au)(fd:Am):Prop where
 F:Fun K x x st f fd
 m:mg x=some (.ref f)
 b:Binds K fd ps []
set_option genInjectivity false in
set_option genSizeOfSpec false in
structure Txt(K:Af)(w:Ar)(mg:Ae)(t:Adr):Prop where
 aq:Kg K w mg "SUM_PARTS" t.aq [("not",1),("neg",1),("twice",1),("low",1),("and",2),("or",2),("odd",2),("add",2),("sub",2),("pick",3)]
 ag:Kg K w mg "SUMS_IN_CLAIM" t.ag [("same",2),("under",2),("beneath",2),("sign",1),("nought",1)]
 af:Kg K w mg "CLAIMS_IN_CLAIM" t.af [("both",2),("either",2),("so",2),("never",1),("yes",0)]
 vr:mg "LETTERS" = some (.str "abcdefghijklmnopqrstuvwxyz" t.vl)
 ti:mg "LONGEST_NAME" = some (.int 8 t.sy)
 bu:Kt K mg "REMEMBERING" t.bu ["neg","twice","low","add","sub","same","under","beneath","nought"]
 bj:Df K mg "words_at" xV ["width"] t.ov t.ow
 az:Df K mg "number_of" qu ["bits"] t.ni t.nj
 rb:Df K mg "run" Zj1 ["machine","letters"] t.tq t.tu
 bx:Df K mg "layers_led_to" Wu ["machine","letters"] t.ij t.ik
 aj:Df K mg "letters_with_bit" YF ["letters","number","bit"] t.ff t.fg
 dn:Df K mg "goes_well" qw ["machine","state","letter","well","wanted"] t.nq t.nu
 ck:Df K mg "state_number" WQ ["state","states","numbers"] t.ka t.kb
 cq:Df K mg "is_sum_word" J7 ["text"] t.lg t.lh
 bz:Df K mg "is_claim_word" Wv ["text"] t.il t.ip
 cu:Df K mg "sums_behind" J8 ["word"] t.lj t.ll
 cb:Df K mg "claims_behind" Ww ["word"] t.iq t.ir
 di:Df K mg "is_made_of" Wx ["text","signs"] t.mr t.mw
 bb:Df K mg "remembers" qx ["word"] t.ny t.nz
 bo:Df K mg "borrowed" xW ["one","other","held"] t.ox t.oy
 cx:Df K mg "out_at_once" J9 ["word","parts"] t.lq t.lr
 bw:Df K mg "longest_number" YY ["words"] t.ie t.ig
 fh:Df K mg "bits_at" qy ["columns","letter"] t.rj t.rk
 dj:Df K mg "next_pairs" Gy ["one","other","pair"] t.mx t.my
 du:Df K mg "partings" Gd ["one","other","pair"] t.oz t.pb
 au:Df K mg "least_width_of_truth" YK ["machine"] t.dk t.dm
 bc:Df K mg "_law_whole" qz ["found"] t.og t.oh
 ai:Df K mg "_law_cell_at" JA ["script","k"] t.lu t.lx
 cy:Df K mg "_law_numbers" JB ["cell","many","most"] t.ma t.md
 bp:Df K mg "_law_two_numbers" XA ["cell"] t.fu t.fw
 fj:Df K mg "_law_two" yd ["word","name","one","other"] t.rn t.ro
 aw:Df K mg "_law_within" Gz ["cell","words","more"] t.mz t.nc
 dw:Df K mg "words_of" Ge ["names","letters"] t.pd t.pe
 ah:Df K mg "states_going_well" Y5 ["machine","states","letters","well","wanted"] t.et t.eu
 dy:Df K mg "parts_of" xX ["word"] t.pf t.ph
 fk:Df K mg "is_name" ye ["text"] t.rp t.rq
 cm:Df K mg "name_columns" X5 ["names","letters"] t.kv t.lb
 dq:Df K mg "kept_then" q8 ["word","parts","held"] t.oj t.om
 cz:Df K mg "out_by_kept" JC ["word","parts","held","then"] t.me t.mf
 dt:Df K mg "_law_names" XQ ["cell","many"] t.oq t.ou
 cf:Df K mg "_law_is_parted" Wy ["found","width","words"] t.iu t.iw
 bq:Df K mg "with_least_word" XB ["machine","letters","number","wanted"] t.fy t.ia
 da:Df K mg "parts_taken" XR ["stack","word"] t.mh t.mi
 dz:Df K mg "names_of" Gf ["words"] t.pj t.pk
 dc:Df K mg "first_words" Xe ["machine","width","wanted"] t.mj t.mq
 fq:Df K mg "stepped" yf ["words","columns","place","kept"] t.rr t.sf
 ao:Df K mg "machine_found" Xq ["names","begin","step_of"] t.ix t.iy
 br:Df K mg "machine_telling" ZP ["words","names","told"] t.ib t.dg
 bh:Df K mg "machines_compared" Y6 ["one","other"] t.fe t.cg
 ax:Df K mg "machine_of" G1 ["words","names"] t.ng t.nh
 eh:Df K mg "compared" xY ["one","other"] t.qs t.ra
 aaa:Df K mg "law" Zh3 ["script"] t.ui t.uj
 sj:t.dg.code=.ref t.dh
 ri:t.cg.code=.ref t.cj
 ft:t.ae≠t.aa
 su:mg "abs" = none
 aab:mg "all" = none
 aac:mg "any" = none
 wh:mg "bool" = none
 xo:mg "dict" = none
 ic:mg "enumerate" = none
 rf:mg "int" = none
 ay:mg "isinstance" = none
 av:mg "len" = none
 tj:mg "list" = none
 aad:mg "max" = none
 aae:mg "min" = none
 bf:mg "range" = none
 rh:mg "reversed" = none
 aaf:mg "set" = none
 sr:mg "sorted" = none
 aag:mg "str" = none
 ak:mg "tuple" = none
 vb:mg "zip" = none
set_option genInjectivity false in
set_option genSizeOfSpec false in
structure Tbs(mg:Ae)(base:Heap)(t:Adr):Prop where
 dh:PySem.W.CodeHd base t.dh t.ae
 cj:PySem.W.CodeHd base t.cj t.aa
 B:zF mg base
def XZ:Zs ["width","many","bit_number"] ["width"] (Zg xV):={}
def X1:Zs ["bits","number","bit"] ["bits"] (Zg qu):={}
def qT:Zs ["machine","letters","state","steps","out","row","letter"] ["machine","letters"] (Zg Zj1):={}
def ZK:Zs ["machine","letters","steps","layers","some","layer","state","letter"] ["machine","letters"] (Zg Wu):={}
def Ji:Zs ["letters","number","bit"] ["letters","number","bit"] (Zg YF):={}
def y7:Zs ["machine","state","letter","well","wanted"] ["machine","state","letter","well","wanted"] (Zg qw):={}
def qU:Zs ["state","states","numbers"] ["state","states","numbers"] (Zg WQ):={}
def xm:Zs ["text"] ["text"] (Zg J7):={}
def GD:Zs ["text"] ["text"] (Zg Wv):={}
def xn:Zs ["word"] ["word"] (Zg J8):={}
def GF:Zs ["word"] ["word"] (Zg Ww):={}
def jk:Zs ["text","signs"] ["text","signs"] (Zg Wx):={}
def y8:Zs ["word"] ["word"] (Zg qx):={}
def vV:Zs ["one","other","held"] ["one","other","held"] (Zg xW):={}
def xp:Zs ["word","parts"] ["word","parts"] (Zg J9):={}
def Gp:Zs ["words"] ["words"] (Zg YY):={}
def gM:Zs ["columns","letter"] ["columns","letter"] (Zg qy):={}
def jm:Zs ["one","other","pair"] ["one","other","pair"] (Zg Gy):={}
def vW:Zs ["one","other","pair"] ["one","other","pair"] (Zg Gd):={}
def ZD:Zs ["machine","widths","state","row","led_to"] ["machine"] (Zg YK):={}
def y9:Zs ["found"] ["found"] (Zg qz):={}
def xq:Zs ["script","k"] ["script","k"] (Zg JA):={}
def Z9:Zs ["cell","many","most","found","rest","k","one","two"] ["cell","many","most"] (Zg JB):={}
def YH:Zs ["cell","bit","one"] ["cell"] (Zg XA):={}
def zh:Zs ["word","name","one","other","above"] ["word","name","one","other"] (Zg yd):={}
def Wa:Zs ["cell","words","more","name"] ["cell","words","more"] (Zg Gz):={}
def Wb:Zs ["names","letters","words","place","name"] ["names","letters"] (Zg Ge):={}
def Y1:Zs ["machine","states","letters","well","wanted","going","state"] ["machine","states","letters","well","wanted"] (Zg Y5):={}
def vX:Zs ["word"] ["word"] (Zg xX):={}
def gN:Zs ["text"] ["text"] (Zg ye):={}
def YI:Zs ["names","letters","columns","place","name"] ["names","letters"] (Zg X5):={}
def G6:Zs ["word","parts","held","one"] ["word","parts","held"] (Zg q8):={}
def xr:Zs ["word","parts","held","then"] ["word","parts","held","then"] (Zg JC):={}
def Yc:Zs ["cell","many","xs","menu","some","base","at","turn"] ["cell","many"] (Zg XQ):={}
def Wh:Zs ["found","width","words","name"] ["found","width","words"] (Zg Wy):={}
def Z4:Zs ["machine","letters","number","wanted","layers","left","well","place","chosen","going"] ["machine","letters","number","wanted"] (Zg XB):={}
def xt:Zs ["stack","word"] ["stack","word"] (Zg XR):={}
def vY:Zs ["words"] ["words"] (Zg Gf):={}
def Yd:Zs ["machine","width","wanted","names","all_letters","letters","number","row"] ["machine","width","wanted"] (Zg Xe):={}
def Xh:Zs ["words","columns","place","kept","stack","later","word","parts","held"] ["words","columns","place","kept"] (Zg yf):={}
def ZV:Zs ["names","begin","step_of","states","numbers","steps","out","told"] ["names","begin","step_of"] (Zg Xq):={}
def ZJ:Zs ["words","names","told","letters","columns","last_place","step_of","begin"] ["words","names","told"] (Zg ZP):={}
def Yg:Zs ["one","other","begins","found","width"] ["one","other"] (Zg Y6):={}
def jn:Zs ["words","names"] ["words","names"] (Zg G1):={}
def qV:Zs ["one","other","names"] ["one","other"] (Zg xY):={}
def Y2:Zs ["script","shape","all_names","turn","name","more","one","other","width","words","extra","kind","pair","far","first","second"] ["script"] (Zg Zh3):={}
def WH:Zhw (Zg YG) ["state"] ["step","place","reached"] ["words","columns","last_place","letters","told"]:=⟨by rfl,by rfl,by rfl,by decide +kernel,by decide +kernel,by decide +kernel,by decide +kernel⟩
section
variable (P:An){w:Ar}{K:Af}{mg:Ae}(base:Heap){t:Adr}
variable (T:Txt K w mg t)(TB:Tbs mg base t)
include T TB
def vZ(K:Af):Sp:=fun vs H Q _=>∃w:Nat,vs=[.int w]/\w<=1000/\Q (.int (2 ^ w)) H
theorem qW:YA P w K mg base CX0 1 t.ov t.ow ["width"] (vZ K):=by
 refine T.bj.F.ok XZ (fun vs H Q E h=>?_) (fun q A outer s H vs Q E hr h=>?_)
 ·obtain ⟨_,rfl,_⟩:=h
  rfl
 ·obtain ⟨w,rfl,hw,k⟩:=h
  have hu:=ZT hr;refine ⟨_,@QSs.out _ _ _ (Zb (Zn (i:=1) XZ.nd rfl (Or.inl rfl) Zd)
    (Zb (YB Qbm rfl (YU rfl T.bf (Zk (qv 0) Ze)) (ZM (i:=2) XZ.nd rfl (Or.inl rfl))
    (Zf (Zn (i:=1) XZ.nd rfl (Or.inl rfl) (Zm XE (qv 1) Zd))))
    (Zf (Zp (qv 1))))),?_⟩
  refine L2.let3 ?_;intro C D;refine ⟨_,rfl,(w:Int),rfl,by lia,by lia,Jm (fun i σ H2=>∃v,σ=[some (.int w),some (.int (2 ^ i)),v]/\H2=H) ⟨none,rfl,rfl⟩ ?_ ?_⟩
  ·rintro i σ H2 hi ⟨v,rfl,rfl⟩
   refine ⟨_,rfl,_,_,rfl,rfl,.inr (.inr ⟨by decide,by decide⟩),some (.int (0 + (i:Int))),?_,rfl⟩
   rfl
  ·rintro σ H2 ⟨v,rfl,rfl⟩
   refine ⟨_,rfl,?_⟩;exact k
omit T TB in
theorem Ze7{ms:Ak}{x:V}(h:(ms.map V.int)[i]?=some x):∃b,x=V.int b/\ms[i]?=some b:=by grind
def yA(K:Af):Sp:=fun vs H Q _=>∃(p:Au) (q:Ak),vs=[.ref p]/\SqT K H p (q.map V.int)/\Q (.int (hor q.reverse)) H
theorem G7:YA P w K mg base CX0 1 t.ni t.nj ["bits"] (yA K):=by
 refine T.az.F.ok X1 (fun vs H Q E h=>?_) (fun C A outer s H vs Q E hr h=>?_)
 ·obtain ⟨_,_,rfl,_⟩:=h
  rfl
 ·obtain ⟨p,q,rfl,hp,k⟩:=h
  have hu:=ZT hr;refine ⟨_,@QSs.out _ _ _ (Zb (Zn (i:=1) X1.nd rfl (Or.inl rfl) Zd)
    (Zb (YB Qbm rfl (uW rfl T.rh (qv 0)) (ZM (i:=2) X1.nd rfl (Or.inl rfl))
    (Zf (Zn (i:=1) X1.nd rfl (Or.inl rfl) (Zm Yy (Zm XE (qv 1) Zd) (qv 2)))))
    (Zf (Zp (qv 1))))),?_⟩
  refine L2.let3 ?_;intro D G;refine ⟨_,rfl,p,_,rfl,hp,uX (K:=K) (a:=p) (xs:=q.map V.int) (fun i σ H2=>∃v,σ=[some (.ref p),some (.int (hor (q.reverse.take i))),v]/\H2=H) ⟨none,rfl,rfl⟩ (fun i σ H2 _ ⟨_,_,e⟩=>by rw [e];exact hp) ?_ ?_⟩
  ·rintro i x σ H2 hx ⟨v,rfl,rfl⟩
   rw [<-List.map_reverse] at hx;obtain ⟨b,rfl,hb⟩:=Ze7 hx;refine ⟨_,rfl,_,_,rfl,rfl,.inr (.inr ⟨by decide,by decide⟩),_,rfl,_,_,rfl,rfl,some (.int b),?_,rfl⟩;rw [Zej hb]
   rfl
  ·rintro σ H2 ⟨v,rfl,rfl⟩
   refine ⟨_,rfl,?_⟩;rw [Qb3 (by grind)];exact k
def sp_run(K:Af):Sp:=fun vs H Q _=>∃(m p:Au) (S L b:Nat) (nv:V) (nx:Nat->Nat->Nat) (ot:Nat->Nat->V) (ls:Aj),vs=[.ref m,.ref p]/\Zf2 H m S L nv b nx ot/\H p=some (.tup (ls.map YL))/\(∀l∈ls,l < L)/\ls.length<=1000000/\∀q H',H q=none->H' q=some (.tup (wk nx ot b ls))->ZA H H'->Q (.ref q) H'
theorem ok_run:YA P w K mg base CX0 1 t.tq t.tu ["machine","letters"] (sp_run K):=by
 refine T.rb.F.ok qT (fun vs H Q E h=>?_) (fun cdv A outer s H vs Q E hr h=>?_)
 ·obtain ⟨_,_,_,_,_,_,_,_,_,rfl,_⟩:=h
  rfl
 ·obtain ⟨m,p,S,L,b,nv,nx,ot,ls,rfl,M,hp,J,Y,k⟩:=h
  have hu:=ZT hr;refine ⟨_,@QSs.out _ _ _ (Zb (Zn (i:=2) qT.nd rfl (Or.inl rfl) (Zq Zu (qv 0) Zd))
    (Zb (Zn (i:=3) qT.nd rfl (Or.inl rfl) (Zq Zu (qv 0) Zd))
    (Zb (Zn (i:=4) qT.nd rfl (Or.inl rfl) (Zq Zu (qv 0) Zd))
    (Zb (Zn (i:=5) qT.nd rfl (Or.inl rfl) (X7 Ze))
    (Zb (YB Qbm rfl (Wf (qv 1)) (ZM (i:=6) qT.nd rfl (Or.inl rfl))
    (Zb (Y3 (Xl Qbf Qbk Qbl Yi (qv 5) (Zk (Zq Zu (Zq Zu (qv 4) (qv 2)) (qv 6)) Ze)))
    (Zf (Zn (i:=2) qT.nd rfl (Or.inl rfl) (Zq Zu (Zq Zu (qv 3) (qv 2)) (qv 6))))))
    (Zf (Zp (Z8 Z5 (by rfl) T.ak ZX (Zk (qv 5) Ze))))))))),?_⟩
  refine L2.let6 ?_;intro U5 U4 U3 U2 U1;obtain ⟨ps,G,hm,RS,Z⟩:=M.ex;refine ⟨_,rfl,m,_,1,_,rfl,rfl,SqT.of hm,rfl,_,rfl,m,_,2,_,rfl,rfl,SqT.of hm,rfl,_,rfl,m,_,3,_,rfl,rfl,SqT.of hm,rfl,?_⟩;refine ⟨by decide,fun r hr=>?_⟩;refine ⟨_,rfl,p,rfl,⟨_,SqT.of (Zc hr _ _ hp)⟩,?_⟩;refine qc (K:=K) (a:=p) (xs:=ls.map YL) (fun i σ H2=>∃u,σ=[some (.ref m),some (.ref p),some (.int (Zc9 nx b (ls.take i):Nat)),some (.ref ps),some (.ref G),some (.ref r),u]/\H2 r=some (.lst (wk nx ot b (ls.take i)))/\ZA H H2) ⟨none,rfl,Za,Zc hr⟩ (fun i σ H2 _ ⟨u,_,_,C⟩=>SqT.of (C _ _ hp)) ?_ ?_
  ·rintro i x σ H2 hx ⟨u,rfl,h2,C⟩
   obtain ⟨l,rfl,hl⟩:=Zbk hx;have O:=J l (Qai hl);have st:=Zbj M.nx (ls.take i) b M.b fun x hx=>J x (Qcu hx);obtain ⟨as,ho,go⟩:=Z.ex;obtain ⟨a,xs,o1,o2,o3⟩:=go _ st;obtain ⟨bs,hs,gs⟩:=RS.ex;obtain ⟨c,ys,t1,t2,t3⟩:=gs _ st;have D:=Ys (p:=r) (o:=.lst (wk nx ot b (ls.take i)++[ot (Zc9 nx b (ls.take i)) l])) C hr;refine ⟨_,rfl,.inl ⟨rfl,_,SqL.of h2⟩,_,rfl,_,rfl,G,_,_,_,rfl,rfl,SqT.of (C _ _ ho),Yh o1,_,rfl,a,_,_,_,rfl,rfl,SqT.of (C _ _ o2),Yh (o3 l O),r,_,_,rfl,rfl,h2,?_,?_⟩
   ·rw [Zf3,Qa0]
    exact YV (by lia)
   refine ⟨_,rfl,_,rfl,ps,_,_,_,rfl,rfl,SqT.of (D _ _ hs),Yh t1,_,rfl,c,_,_,_,rfl,rfl,SqT.of (D _ _ t2),Yh (t3 l O),some (.int l),?_,?_,D⟩
   ·rw [take_snoc hl,wx]
    rfl
   ·rw [Za,take_snoc hl,Zbi]
    rfl
  ·rintro σ H2 ⟨u,rfl,h2,C⟩
   rw [Qac,Qbi] at h2;exact ⟨_,rfl,r,_,rfl,.inl ⟨SqL.of h2,fun q I=>k q _ (C.free I) Za (C.trans (Zc I))⟩⟩
def GG(K:Af):Sp:=fun vs H Q _=>∃(m a:Au) (nm:Ai) (b:Nat) (nx:Ad) (ot:Ax) (n:Nat) (Ls:Ad),vs=[.ref m,.ref a]/\M4 H m nm b nx ot/\Runs nx ot n/\b < nx.length/\nx.length<=1000000/\y0 H a Ls/\Ls≠[]/\(∀L∈Ls,L.length<=1000/\∀l∈L,l < 2 ^ n)/\Ls.length<=1000000 /\
 ∀p H',H p=none->Zdb H' p (lys (mN nx) [b] Ls)->SmF H H'->Q (.ref p) H'
theorem GH:YA P w K mg base CX0 1 t.ij t.ik ["machine","letters"] (GG K):=by
 refine T.bx.F.ok ZK (fun vs H Q E h=>?_) (fun cdv A outer s H vs Q E hr h=>?_)
 ·obtain ⟨_,_,_,_,_,_,_,_,rfl,_⟩:=h
  rfl
 ·obtain ⟨m,a,nm,b,nx,ot,n,Ls,rfl,M,R,hb,hN,hA,hne,hL,hw,k⟩:=h
  have hu:=ZT hr;refine ⟨_,@QSs.out _ _ _ (Zb (Zn (i:=2) ZK.nd rfl (Or.inl rfl) (Zq Zu (qv 0) Zd))
    (Zb (Zn (i:=3) ZK.nd rfl (Or.inl rfl) (X7 (Zk (vm (zG (Zq Zu (qv 0) Zd) xg vk) rfl rfl (fun z=>nomatch z) (by decide)) Ze)))
    (Zb (YB Qbm rfl (WZ (Xc zp (qv 1) XH (XI (WI Jn Zd)))) (ZM (i:=4) ZK.nd rfl (Or.inl rfl))
    (Zb (Zn (i:=5) ZK.nd rfl (Or.inl rfl) qk)
    (Zb (YB Qbm rfl (wa (Zq Zy (qv 3) (WI Jn Zd))) (ZM (i:=6) ZK.nd rfl (Or.inl rfl))
    (Zf (YB Qbm rfl (Wf (qv 4)) (ZM (i:=7) ZK.nd rfl (Or.inl rfl))
    (Zf (XM hu (qv 5) (Zq Zu (Zq Zu (qv 2) (qv 6)) (qv 7)) xg rfl)))))
    (Zf (Y3 (Xl Qbf Qbk Qbl Yi (qv 3) (Zk (qv 5) Ze)))))))
    (Zf (Zp (qv 3)))))),?_⟩
  try dsimp only [L2.cxK,L2.cxK2]
  refine L2.let4 ?_;intro U3 U2 U1;obtain ⟨pn,ps,po,h1,_,Rs,Ro⟩:=M.ex;obtain ⟨as,ha,hal,hat⟩:=hA;have lyl:=vM (nx:=mN nx) Ls [b];have lyok:=Zck (nx:=mN nx) (N:=nx.length) (M:=2 ^ n) (fun s l hs hl=>R.mN hs hl) (Ls:=Ls) (S:=[b]) (Qci.mpr ⟨Qbd,Qdg⟩) (fun s hs=>by rw [Qal.mp hs];exact hb) (fun L h=>(hL L h).2);have ly1:1<=Ls.length/\(lys (mN nx) [b] Ls).take 1=[[b]]:=by
   cases Ls with
   | nil=>exact absurd rfl hne
   | cons _ _=>exact ⟨Nat.succ_le_succ (Qba _),rfl⟩
  refine ⟨_,rfl,m,_,2,_,rfl,rfl,SqT.of h1,rfl,Zi ?_⟩;refine fun d hd=>?_;have sd:=Zc (o:=.dK []) hd;refine ⟨_,rfl,m,_,1,_,rfl,rfl,SqT.of (sd _ _ h1),rfl,Za,[(.inl (b:Int),.bl true)],rfl,by show 1<=15;decide,Zdc,fun p hp=>Zi ?_⟩;rw [WU] at hp ⊢;have sd2:=Zc (o:=.dK (X8 [] [((.inl (b:Int):Key),V.bl true)])) hd;have s2:=sd2.trans (Zc (o:=.lst [.ref d]) hp);have hpH:=sd2.free hp;have hd2:=Zc (o:=.lst [.ref d]) hp _ _ (Za (H:=H) (a:=d) (o:=.dK (X8 [] [((.inl (b:Int):Key),V.bl true)])));have ly0:Zdb (upd (upd H d (.dK (X8 [] [((.inl (b:Int):Key),V.bl true)]))) p (.lst [.ref d])) p ((lys (mN nx) [b] Ls).take 1):=by
   rw [ly1.2];refine ⟨_,Za,rfl,fun i S hi=>?_⟩
   match i,hi with
   | 0,hi =>
    cases hi;exact ⟨d,rfl,.inl hd2⟩
  generalize upd (upd H d (.dK (X8 [] [((.inl (b:Int):Key),V.bl true)]))) p (.lst [.ref d])=H2 at *;have D:xf as none (some (-1))=as.take (as.length - 1):=Zbv (xs:=as) (n:=1) (by lia) (by decide);refine ⟨_,rfl,_,rfl,_,rfl,a,as,rfl,SqL.of (s2 _ _ ha),fun q hq=>⟨q,rfl,⟨_,SqL.of Za⟩,Zdi (K:=K) (a:=q) (xs:=xf as none (some (-1))) (fun i σ H'=>∃(u4 u5 J C:Option V),σ=[some (.ref m),some (.ref a),some (.ref ps),some (.ref p),u4,u5,J,C]/\i + 1<=Ls.length/\Zdb H' p ((lys (mN nx) [b] Ls).take (i + 1))/\H' q=some (.lst (xf as none (some (-1))))/\SmF H H') ⟨none,none,none,none,rfl,ly1.1,ly0.smf (SmF.of (Zc hq)),Za,(SmF.of s2).trans (SmF.of (Zc hq))⟩ (fun i σ H' _ ⟨_,_,_,_,_,_,_,h,_⟩=>SqL.of h) ?_ ?_⟩⟩
  ·rintro i x σ H1 hx ⟨u4,u5,J,C,rfl,hi,⟨zs,hz1,hz2,hz3⟩,hq1,s3⟩
   rw [D,Qgq] at hx;have hi2:i + 1 < Ls.length:=by
    rcases Qc3 i (as.length - 1) with z | z
    ·lia
    ·rw [Qaw (by lia)] at hx;cases hx
   rw [Qa1 (by lia)] at hx;obtain ⟨L,Y⟩:∃L,Ls[i]?=some L:=⟨_,Qaf (by lia)⟩;obtain ⟨x0,hx0,htl⟩:=hat i L Y;rw [hx] at hx0;cases hx0;obtain ⟨hL1,O⟩:=hL L (Qai Y);obtain ⟨S,Z⟩:∃S,(lys (mN nx) [b] Ls)[i]?=some S:=⟨_,Qaf (by lia)⟩;obtain ⟨hS1,hS2⟩:=lyok S (Qai Z);have hnext:=wJ Z Y hi2;rw [Qa0] at hz2;have hzl:zs.length=i + 1:=by lia
   obtain ⟨dl,hdl,rdl⟩:=hz3 i S (by rw [Qgq,Qa1 (by lia)];exact Z);have ezs:zs=zs.take i++[.ref dl]:=by
    rw [<-take_snoc hdl,<-hzl,Qbi]
   have hlast:atI zs (-1)=some (.ref dl):=by rw [ezs];exact zm _ _
   refine Zi fun e he=>Zi ?_;have se:=SmF.of (Zc (o:=.dK []) he);have rd2:=se.rd rdl;refine ⟨_,rfl,_,rfl,p,_,-1,_,rfl,rfl,SqL.of (se.lst hz1),hlast,dl,_,rfl,rd2,fun o ho=>z8 (kvs:=twK S) (fun j σ H'=>∃(J C:Option V),σ=[some (.ref m),some (.ref a),some (.ref ps),some (.ref p),some (.ref x0),some (.ref e),J,C]/\H' dl=some (.frz o (.dK (twK S)))/\H' e=some (.dK (twK (((S.take j).flatMap fun s=>L.map (mN nx s)).foldl Yt [])))/\SmF H1 H') ⟨_,_,rfl,Za,?_,se.trans (SmF.frz rd2 ho)⟩ (fun i σ H' _ ⟨_,_,_,h,_⟩=>h) ?_ ?_⟩
   ·have hed:e≠dl:=fun z=>by
     subst z;rcases rdl with z | ⟨_,z⟩ <;> rw [he] at z <;> cases z
    rw [Zh hed,Za]
    rfl
   ·rintro j pr σ H3 hpr ⟨J,C,rfl,g1,g2,s4⟩
    unfold twK at hpr;rw [Qaj] at hpr;obtain ⟨s,hs,rfl⟩:=Qb2.mp hpr;have hsS:=Qai hs;have hsN:=hS2 s hsS;have s34:=s3.trans s4;have G:=s34.tup htl;obtain ⟨pn3,ps3,po3,m1,_,Rs3,_⟩:=(M.smf s34).ex;rw [s34.tup h1] at m1;cases m1;obtain ⟨as1,a1,r1,r2,r3⟩:=W2 Rs3 (i:=s) (by rw [Qac];exact hsN);rw [JE] at r3;have l1:=R.nr _ (getD_mem hsN);have hde:dl≠e:=fun z=>by rw [z,g2] at g1;cases g1
    refine Zi ⟨_,rfl,x0,rfl,⟨_,SqT.of G⟩,qc (K:=K) (a:=x0) (xs:=L.map YL) (fun c σ H'=>∃(C:Option V),σ=[some (.ref m),some (.ref a),some (.ref ps),some (.ref p),some (.ref x0),some (.ref e),some (.int (s:Int)),C]/\H' dl=some (.frz o (.dK (twK S)))/\H' e=some (.dK (twK ((((S.take j).flatMap fun s=>L.map (mN nx s))++(L.take c).map (mN nx s)).foldl Yt [])))/\SmF H1 H'/\∀b xs,H3 b=some (.tup xs)->H' b=some (.tup xs)) ⟨_,rfl,g1,by rw [List.take_zero,List.map_nil,Qbq];exact g2,s4,fun _ _ z=>z⟩ (fun c σ H' _ ⟨_,_,_,_,_,z⟩=>SqT.of (z _ _ G)) ?_ ?_⟩
    ·rintro c y σ H4 hy ⟨C,rfl,f1,f2,s5,tp⟩
     rw [Qaj] at hy;obtain ⟨l,hl,rfl⟩:=Qb2.mp hy;have hlL:=O l (Qai hl);have hsz:((((S.take j).flatMap fun s=>L.map (mN nx s))++(L.take c).map (mN nx s)).foldl Yt []).length<=nx.length:=Zi2 fun x hx=>by
      rcases Qa4.mp hx with z | z
      ·obtain ⟨s',hs',z⟩:=List.mem_flatMap.mp z
       obtain ⟨l',I,rfl⟩:=Qa2.mp z;exact R.mN (hS2 s' (Qcu hs')) (O l' I)
      ·obtain ⟨l',I,rfl⟩:=Qa2.mp z
       exact R.mN hsN (O l' (Qcu I))
     refine Zi ⟨_,rfl,_,rfl,_,rfl,ps,_,_,_,rfl,rfl,SqT.of (tp _ _ r1),r2,_,rfl,a1,_,_,_,rfl,rfl,SqT.of (tp _ _ r3),Yh (vL (show l < (nx.getD s []).length by lia)),e,_,rfl,gb.k (k:=.inl (((nx.getD s []).getD l 0:Nat):Int)) f2 (by rw [qR];exact YV (by lia)),_,rfl,by rw [Zh hde];exact f1,?_,s5.put he,fun b xs z=>?_⟩
     ·rw [Za,Zcj,take_snoc hl,Qa6,<-Qca,Qc2 (l':=List.map _ [l])]
      rfl
     ·rw [Zh (Xa z (show H3 e=_ from g2) fun q=>nomatch q)]
      exact tp b xs z
    ·rintro σ H4 ⟨C,rfl,f1,f2,s5,_⟩
     rw [Qac,Qbi] at f2;exact ⟨_,_,rfl,f1,by rw [Zcm hs];exact f2,s5⟩
   ·rintro σ H3 ⟨J,C,rfl,g1,g2,s4⟩
    rw [qR,Qbi] at g2;have hz4:=s4.lst hz1;have hq4:=s4.lst hq1;have hpq:q≠p:=fun z=>by
     subst z;have:=s2.trans (Zc (o:=.lst (xf as none (some (-1)))) hq);obtain ⟨w0,hw0,_⟩:=ly0;rw [hq] at hw0;cases hw0
    refine ⟨_,rfl,.inl ⟨rfl,_,SqL.of hz4⟩,_,rfl,p,_,_,rfl,rfl,hz4,by rw [hzl];exact YV (by lia),_,_,_,_,rfl,hi2,?_,by rw [Zh hpq];exact hq4,(s3.trans s4).put hpH⟩;rw [take_snoc hnext];exact Zdb.more (H':=H3) hz4 (by rw [Qa0];lia) (fun j S' hj=>by
     obtain ⟨a9,y1,y2⟩:=hz3 j S' hj;exact ⟨a9,y1,s4.rd y2⟩) g2
  ·rintro σ H1 ⟨u4,u5,J,C,rfl,hi,ly,hq1,s3⟩
   rw [D,Qa0] at ly hi;refine ⟨_,rfl,k p H1 hpH ?_ s3⟩;rw [show min (as.length - 1) as.length + 1=(lys (mN nx) [b] Ls).length by lia,Qbi] at ly;exact ly
def Jj(K:Af):Sp:=fun vs H Q _=>∃(a:Au) (L:Aj) (q b:Nat),vs=[.ref a,.int (q:Int),.int (b:Int)]/\H a=some (.tup (L.map YL))/\L.length<=1000/\q<=3/\∀p H',H p=none->H' p=some (.tup ((chs q b L).map YL))->ZA H H'->Q (.ref p) H'
theorem Jk:YA P w K mg base CX0 1 t.ff t.fg ["letters","number","bit"] (Jj K):=by
 refine T.aj.F.ok Ji (fun vs H Q E h=>?_) (fun I A outer s H vs Q E hr h=>?_)
 ·obtain ⟨_,_,_,_,rfl,_⟩:=h
  rfl
 ·obtain ⟨a,L,D,b,rfl,ha,hl,J,k⟩:=h
  have hu:=ZT hr;refine ⟨_,@QSs.out _ _ _ (Zf (Zp (Z8 Z5 (by rfl) T.ak ZX (Zk (Y4 ({}:Yj (Zg YF) _ ["letters","number","bit"] "letter" ["bit","number"] [2,1]) (Wf (qv 0)) (fun _ _ _ _=>(kH (Zz Xv (Zm Xw (Zm xH (qv 0) (qv 2)) Zd) (qv 1) (ZF _)))) (fun _ _ _ _=>(qv 0))) Ze)))),?_⟩;refine ⟨_,rfl,a,rfl,⟨_,SqT.of ha⟩,jW (xs:=L.map YL) (Zkk D b) ZA ZA.refl (fun _ _ _ x y=>x.trans y) (fun H1 q=>SqT.of (q _ _ ha)) (by rw [Qac];exact Qav (Zo hl)) (fun x hx H1 q R hR=>?_) (fun x hx H1 R hR=>⟨_,rfl,hR⟩) (fun H1 l q C=>?_)⟩
  ·obtain ⟨y,_,rfl⟩:=Qa2.mp hx
   refine ⟨_,rfl,_,rfl,_,_,rfl,rfl,Qch _,_,_,rfl,rfl,_,rfl,rfl,_,rfl,?_⟩;rw [bit_of];exact hR H1 (ZA.refl H1)
  have G:=q.trans (Zc (o:=.lst ((L.map YL).filter (Zkk D b))) C);refine ⟨l,_,rfl,.inl ⟨SqL.of Za,fun p hp=>?_⟩⟩;exact k p _ (G.free hp) (by rw [Za,qS]) (G.trans (Zc hp))
def yB(K:Af):Sp:=fun vs H Q _=>∃(m:Au) (nm:Ai) (b:Nat) (nx:Ad) (ot:Ax) (n s c:Nat) (W:Option (Aj)) (C v:V) (q:Bool),vs=[.ref m,.int (s:Int),.int (c:Int),C,v]/\M4 H m nm b nx ot/\Runs nx ot n/\s < nx.length/\c < 2 ^ n/\zg H C W/\Xs q v/\(∀r∈ot,∀x∈r,Xs q x)/\Q (.bl (gw (mN nx) (mB ot v) W s c)) H
theorem yC:YA P w K mg base CX0 1 t.nq t.nu ["machine","state","letter","well","wanted"] (yB K):=by
 refine T.dn.F.ok y7 (fun vs H Q E h=>?_) (fun Z A outer s H vs Q E hr h=>?_)
 ·obtain ⟨_,_,_,_,_,_,_,_,_,_,_,_,rfl,_⟩:=h
  rfl
 ·obtain ⟨m,nm,b,nx,ot,n,s,c,W,wv,v,tr,rfl,M,R,hs,hc,hw,hv,hk,k⟩:=h
  have hu:=ZT hr;refine ⟨_,@QSs.out _ _ _ (Zb (Ye (Zz Zfh (qv 3) kB (by with_unfolding_all rfl))
    (Zf (Zp (Xk Xv (Zq Zu (Zq Zu (Zq Zu (qv 0) Zd) (qv 1)) (qv 2)) (qv 4) (ZF _)))) Z6)
    (Zf (Zp (Xk (xN hu) (Zq Zu (Zq Zu (Zq Zu (qv 0) Zd) (qv 1)) (qv 2)) (qv 3) (by with_unfolding_all rfl))))),?_⟩
  refine L2.let2 ?_;intro U1;obtain ⟨pn,ps,G,h1,_,O,Ro⟩:=M.ex;have q:s < ot.length:=by rw [R.ol];exact hs
  have l1:=R.nr _ (getD_mem hs);have l2:=R.or _ (getD_mem q);obtain ⟨J,a1,g1,D,C⟩:=W2 O (i:=s) (by rw [Qac];exact hs);obtain ⟨I,a2,Y,f2,f3⟩:=W2 Ro q;rw [JE] at C;refine ⟨_,rfl,rfl,_,rfl,?_⟩;rcases hw with ⟨rfl,rfl⟩ | ⟨d,l,rfl,rfl,hd⟩
  ·have e:=getD_at (d:=V.non) (show c < (ot.getD s []).length by lia)
   exact Wk ⟨_,rfl,m,_,3,_,rfl,rfl,SqT.of h1,rfl,_,rfl,G,_,_,_,rfl,rfl,SqT.of Y,f2,_,rfl,a2,_,_,_,rfl,rfl,SqT.of f3,Yh e,_,rfl,qO (hk _ (getD_mem q) _ (Qai e)) hv,k⟩
  ·refine YZ ⟨_,rfl,m,_,2,_,rfl,rfl,SqT.of h1,rfl,_,rfl,ps,_,_,_,rfl,rfl,SqT.of g1,D,_,rfl,a1,_,_,_,rfl,rfl,SqT.of C,Yh (vL (show c < (nx.getD s []).length by lia)),_,rfl,d,_,rfl,.inl ⟨_,.inl _,hd,rfl,rfl⟩,?_⟩
   rw [jf];exact k
def qX(K:Af):Sp:=fun vs H Q _=>∃(κ:Type) (G:DecidableEq κ) (sk:SK κ) (v:V) (st C:Au) (k:κ) (l:List κ) (D:A0),vs=[v,.ref st,.ref C]/\H st=some (.lst D)/\D.length=l.length/\sk.dic H C l/\sk.at_ H k v/\l.Nodup/\l.length < 10000000 /\
 ∀H' q,H' st=some (.lst q)->((k∈l/\q=D)\/(k∉l/\q=D++[v]))->sk.dic H' C (Yt l k)->(∀b o,H b=some o->b≠st->b≠C->H' b=some o)->(∀b,H b=none->H' b=none)->Q (.int ((Yt l k).idxOf k:Int)) H'
theorem qY:YA P w K mg base CX0 1 t.ka t.kb ["state","states","numbers"] (qX K):=by
 refine T.ck.F.ok qU (fun vs H Q E h=>?_) (fun cdv A outer s H vs Q E hr h=>?_)
 ·obtain ⟨_,_,_,_,_,_,_,_,_,rfl,_⟩:=h
  rfl
 ·obtain ⟨κ,_,sk,v,st,D,k0,l,I,rfl,C,hal,n,hk,Z,hl,k⟩:=h
  have hu:=ZT hr;refine ⟨_,@QSs.out _ _ _ (Zb (Ye (Zz (OpR.or (Zas (kX hr)) (Jt hu)) (qv 0) (qv 2) (by with_unfolding_all rfl))
    (Zb (QS.or (Zhu (kX hr) (qv 2) (qv 0) (Zv ZE (by rfl) T.av YT (Zk (qv 1) Ze)) rfl) (XM hu (qv 2) (qv 0) (Zv ZE (by rfl) T.av YT (Zk (qv 1) Ze)) rfl))
    (Zf (Y3 (Xl Qbf Qbk Qbl Yi (qv 1) (Zk (qv 0) Ze))))) Z6)
    (Zf (Zp (QE.or (Zht (kX hr) (qv 2) (qv 0) (fun _ _=>rfl)) (Jb hu (qv 2) (qv 0) (fun _ _=>rfl)))))),?_⟩
  try dsimp only [L2.cxK,L2.cxK2]
  refine L2.let2 ?_;intro U1;have J:st≠D:=fun z=>by
   obtain ⟨o,e,_,h⟩:=SK.ne n;rw [<-z,C] at e;cases e;exact h _ rfl
  cases sk with
  | int f inj =>
   have n:H D=some (.dK (nk (l.map f))):=n;have hk:v=.int (f k0):=hk;subst hk;have hm:f k0∈l.map f↔k0∈l:=⟨fun z=>let ⟨a,ha,e⟩:=Qa2.mp z;inj _ _ e ▸ ha,fun z=>Qcc z⟩;have Y:(l.map f).Nodup:=by
    unfold List.Nodup;rw [List.pairwise_map];exact List.Pairwise.imp (fun hne e=>hne (inj _ _ e)) Z
   have ei:=Zfs f k0 (Yt l k0) fun a _ e=>inj _ _ e;have em:=kY f l k0 fun a _ e=>inj _ _ e;refine ⟨_,rfl,_,rfl,.inr ⟨D,Yf (nk (l.map f)) (.inl (f k0)),rfl,.inl ⟨nk (l.map f),.inl (f k0),.inl n,rfl,rfl⟩,_,rfl,?_⟩⟩
   by_cases hs:k0∈l
   ·have e1:Yt l k0=l:=Qa1 hs
    rw [e1] at k ei;rw [Zbm (hm.mpr hs) Y];refine YZ (.inr ⟨_,rfl,_,rfl,D,_,rfl,.inl ⟨nk (l.map f),.inl (f k0),.inl n,rfl,(Zbm (hm.mpr hs) Y).symm⟩,?_⟩);rw [ei];exact k H I C (.inl ⟨hs,rfl⟩) n (fun _ _ e _ _=>e) fun _ e=>e
   ·have e1:Yt l k0=l++[k0]:=Qaw hs
    have hs':f k0∉l.map f:=fun z=>hs (hm.mp z);rw [e1] at k ei em;rw [Zii hs'];have O:((l++[k0]).map f).Nodup:=by
     rw [<-em];exact WA Y _
    refine Wk (.inr ⟨_,rfl,st,_,rfl,.inl (SqL.of C),_,rfl,_,rfl,D,_,rfl,gb.k (k:=.inl (f k0)) n (by rw [nk_len,Qac];exact YV (by lia)),?_⟩);rw [hal,show (l.length:Int)=((l.map f).length:Int) by rw [Qac],nk_put hs'];have e2:l.map f++[f k0]=(l++[k0]).map f:=by rw [Qa6];rfl
    rw [e2];have q:upd H D (.dK (nk ((l++[k0]).map f))) st=some (.lst I):=by rw [Zh J];exact C
    refine ⟨_,rfl,.inl ⟨rfl,_,SqL.of q⟩,_,rfl,st,_,_,rfl,rfl,q,YV (by lia),?_⟩;have G:upd (upd H D (.dK (nk ((l++[k0]).map f)))) st (.lst (I++[.int (f k0)])) D=some (.dK (nk ((l++[k0]).map f))):=by rw [Zh J.symm];exact Za
    refine .inr ⟨_,rfl,_,rfl,D,_,rfl,.inl ⟨_,.inl (f k0),.inl G,rfl,(Zbm (Qcc (by simp)) O).symm⟩,?_⟩;rw [ei];refine k _ (I++[.int (f k0)]) Za (.inr ⟨hs,rfl⟩) G (fun b o e h1 h2=>?_) fun b e=>?_
    ·rw [Zh h1,Zh h2]
     exact e
    ·rw [Zh (fun z=>by rw [z,C] at e;cases e),Zh (fun z=>by rw [z,n] at e;cases e)]
     exact e
  | key kn =>
   have n:yK kn H D (Wl l):=n;obtain ⟨a,rfl,hk⟩:=hk;refine ⟨_,rfl,_,rfl,.inl ⟨κ,_,kn,D,a,k0,_,rfl,rfl,n,hk,_,rfl,?_⟩⟩
   by_cases hm:k0∈l
   ·have e1:Yt l k0=l:=Qa1 hm
    have hv:=qt l k0 hm Z;rw [e1] at k;rw [hv];exact YZ (.inl ⟨_,rfl,_,rfl,κ,_,kn,D,a,k0,_,_,rfl,rfl,n,hk,hv,k H I C (.inl ⟨hm,rfl⟩) n (fun _ _ e _ _=>e) fun _ e=>e⟩)
   ·have e1:Yt l k0=l++[k0]:=Qaw hm
    have hv:=xT l k0 hm;have O:(l++[k0]).Nodup:=e1 ▸ WA Z k0;rw [e1] at k;rw [hv];refine Wk (.inl ⟨_,rfl,st,_,rfl,.inl (SqL.of C),_,rfl,_,rfl,κ,_,kn,D,a,k0,_,rfl,rfl,n,hk,hv,?_,fun H2 n2 o2 hx=>?_⟩)
    ·rw [ya]
     exact YV (by lia)
    rw [hal] at n2;rw [<-xS] at n2;have q:=o2 _ _ C J;refine ⟨_,rfl,.inl ⟨rfl,_,SqL.of q⟩,_,rfl,st,_,_,rfl,rfl,q,YV (by lia),?_⟩;have n3:yK kn (upd H2 st (.lst (I++[.ref a]))) D (Wl (l++[k0])):=SK.off (sk:=.key kn) n2 q;have hk2:kn.at_ H2 k0 a:=kn.keep _ _ _ _ (fun b xs e=>o2 b _ e fun z=>by
     obtain ⟨o,e3,h3,_⟩:=Zbn n;rw [z,e3] at e;cases e;exact h3 _ rfl) hk
    have hk3:kn.at_ (upd H2 st (.lst (I++[.ref a]))) k0 a:=kn.keep _ _ _ _ (fun b xs e=>by rw [Zh (Xa e q fun z=>nomatch z)];exact e) hk2;refine .inl ⟨_,rfl,_,rfl,κ,_,kn,D,a,k0,_,_,rfl,rfl,n3,hk3,qt _ _ (by simp) O,k _ (I++[.ref a]) Za (.inr ⟨hm,rfl⟩) n3 (fun b o e h1 h2=>?_) fun b e=>?_⟩
    ·rw [Zh h1]
     exact o2 b o e h2
    ·obtain ⟨oo,rfl⟩:=hx
     rw [Zh (fun z=>by rw [z,C] at e;cases e),Zh (fun z=>by
      obtain ⟨o,e3,_⟩:=Zbn n;rw [z,e3] at e;cases e)]
     exact e
def xu(K:Af):Sp:=fun vs H Q _=>∃(y:Str),vs=[.str y]/\Q (.bl (decide (y∈Wm))) H
theorem xw:YA P w K mg base CX0 1 t.lg t.lh ["text"] (xu K):=by
 refine T.cq.F.ok xm (fun vs H Q E h=>?_) (fun q A outer s H vs Q E hr h=>?_)
 ·obtain ⟨_,rfl,_⟩:=h
  rfl
 ·obtain ⟨y,rfl,k⟩:=h
  have hu:=ZT hr;refine ⟨_,@QSs.out _ _ _ (Zf (Zp (Xk yY (qv 0) (XG (v:=.ref t.aq) rfl T.aq.m rfl) (by with_unfolding_all rfl)))),?_⟩;refine ⟨_,rfl,t.aq,T1,.inr y,rfl,T.aq.d,rfl,?_⟩;rw [Zfv,tw1];exact k
def GI(K:Af):Sp:=fun vs H Q _=>∃(k:Key),vs=[kV k]/\Q (.bl (clK k)) H
omit T TB in
theorem Zc1(l:List (Str × Int))(k:Key):(Yf (kvsOf l) k).isSome=(match k with | .inr y=>decide (y∈l.map (·.1)) | .inl _=>false):=by
 cases k with
 | inr y=>exact Zfv l y
 | inl z =>
  induction l with
  | nil=>rfl
  | cons p r q =>
   have e:Yf (kvsOf (p::r)) (.inl z)=Yf (kvsOf r) (.inl z):=ZS (p:=((Sum.inr p.1:Key),V.int p.2)) (fun z=>nomatch z);rw [e,q]
omit T TB in
theorem Ze8(k:Key):clK k=((Yf (kvsOf T2) k).isSome || (Yf (kvsOf T3) k).isSome):=by
 rw [Zc1,Zc1];cases k with
 | inl z=>rfl
 | inr y =>
  show decide (y∈ZR)=(decide (y∈T2.map (·.1)) || decide (y∈T3.map (·.1)));have e:ZR=T2.map (·.1)++T3.map (·.1):=by decide +kernel
  rw [e]
  by_cases h1:y∈T2.map (·.1)
  ·grind
  ·grind
theorem GJ:YA P w K mg base CX0 1 t.il t.ip ["text"] (GI K):=by
 refine T.bz.F.ok GD (fun vs H Q E h=>?_) (fun q A outer s H vs Q E hr h=>?_)
 ·obtain ⟨_,rfl,_⟩:=h
  rfl
 ·obtain ⟨kk,rfl,k⟩:=h
  have hu:=ZT hr;refine ⟨_,@QSs.out _ _ _ (Zf (Zp (qe_or (Xk yY (qv 0) (XG (v:=.ref t.ag) rfl T.ag.m rfl) (by with_unfolding_all rfl)) (kE (Xk yY (qv 0) (XG (v:=.ref t.af) rfl T.af.m rfl) (by with_unfolding_all rfl)))))),?_⟩;rw [Ze8] at k;refine ⟨_,rfl,t.ag,T2,kk,rfl,T.ag.d,rfl,_,rfl,?_⟩;cases h:(Yf (kvsOf T2) kk).isSome with
  | true =>
   rw [h] at k;exact Wk k
  | false =>
   rw [h] at k;exact YZ ⟨_,rfl,t.af,T3,kk,rfl,T.af.d,rfl,k⟩
def xx(K:Af):Sp:=fun vs H Q _=>∃(k:Key),vs=[kV k]/\Q (.int (Jl T1 k + Jl T2 k)) H
theorem xy:YA P w K mg base CX0 1 t.lj t.ll ["word"] (xx K):=by
 refine T.cu.F.ok xn (fun vs H Q E h=>?_) (fun q A outer s H vs Q E hr h=>?_)
 ·obtain ⟨_,rfl,_⟩:=h
  rfl
 ·obtain ⟨kk,rfl,k⟩:=h
  have hu:=ZT hr;refine ⟨_,@QSs.out _ _ _ (Zf (Zp (Zm Yy (yZ (XG (v:=.ref t.aq) rfl T.aq.m rfl) (qv 0) Zd) (yZ (XG (v:=.ref t.ag) rfl T.ag.m rfl) (qv 0) Zd)))),?_⟩;refine ⟨t.aq,T1,rfl,T.aq.d,_,rfl,kk,rfl,t.ag,T2,rfl,T.ag.d,_,rfl,kk,rfl,?_⟩;rw [kget,kget];exact ⟨_,_,rfl,rfl,k⟩
def GK(K:Af):Sp:=fun vs H Q _=>∃(k:Key),vs=[kV k]/\Q (.int (Jl T3 k)) H
theorem GL:YA P w K mg base CX0 1 t.iq t.ir ["word"] (GK K):=by
 refine T.cb.F.ok GF (fun vs H Q E h=>?_) (fun q A outer s H vs Q E hr h=>?_)
 ·obtain ⟨_,rfl,_⟩:=h
  rfl
 ·obtain ⟨kk,rfl,k⟩:=h
  have hu:=ZT hr;refine ⟨_,@QSs.out _ _ _ (Zf (Zp (yZ (XG (v:=.ref t.af) rfl T.af.m rfl) (qv 0) Zd))),?_⟩;refine ⟨t.af,T3,rfl,T.af.d,_,rfl,kk,rfl,?_⟩;rw [kget];exact k
def jo(K:Af):Sp:=fun vs H Q _=>∃(y q:Str),vs=[.str y,.str q]/\y.length<=100000/\∀H',ZA H H'->Q (.bl (decide (xZ y q))) H'
theorem jq:YA P w K mg base CX0 1 t.mr t.mw ["text","signs"] (jo K):=by
 refine T.di.F.ok jk (fun vs H Q E h=>?_) (fun I A outer s H vs Q E hr h=>?_)
 ·obtain ⟨_,_,rfl,_⟩:=h
  rfl
 ·obtain ⟨y,q,rfl,hl,k⟩:=h
  have hu:=ZT hr;refine ⟨_,@QSs.out _ _ _ (Zf (Zp (uP (Xk j8 (qv 0) Zx (ZF _)) (kE (Zv (uY rfl) (by rfl) T.aab bt_all (Zk (Y4 ({}:Yj (Zg Wx) _ ["text","signs"] "sign" ["signs"] [1]) (qi_str (qv 0)) (fun _ _ _ _=>Xx) (fun _ _ _ _=>(Xk uw (qv 0) (qv 1) (by with_unfolding_all rfl)))) Ze)))))),?_⟩;refine ⟨_,rfl,rfl,_,rfl,?_⟩
  by_cases D:y.cps.toList=[]
  ·have e:=qC.mp D
   subst e;refine YZ ?_;have e2:decide (xZ ("" : Str) q)=false:=Qau fun z=>z.1 (qC.mpr rfl);have:=k H (ZA.refl H);exact this
  have G:¬V.str y=V.str ("" : Str):=fun z=>D (qC.mpr (by injection z));rw [Qau G];refine Wk ?_;refine ⟨_,rfl,y,rfl,Zdy (fun c=>.bl (decide (c∈q.cps.toList))) (Qa8 (show y.length<=100000 from hl) (by decide)) (fun c _ R hR=>?_) (fun l C=>?_)⟩
  ·refine ⟨_,rfl,_,rfl,_,_,rfl,rfl,?_⟩
   rw [Zh5];exact hR
  have e1:(y.cps.toList.map fun c=>V.bl (decide (c∈q.cps.toList)))=(y.cps.toList.map fun c=>decide (c∈q.cps.toList)).map V.bl:=by rw [Qb4];rfl
  rw [e1];refine ⟨l,_,rfl,SqL.of Za,?_⟩;rw [all_bs];have e2:decide (xZ y q)=decide (∀c∈y.cps.toList,decide (c∈q.cps.toList)=true):=by
   rw [Qd8,Qcb,Qcb]
   constructor
   ·intro z c hc
    exact Qao (z.2 c hc)
   ·intro z
    exact ⟨D,fun c hc=>Qaz (z c hc)⟩
  rw [<-e2];exact k _ (Zc C)
def yD(K:Af):Sp:=fun vs H Q _=>∃x:V,vs=[x]/\GA x=true/\Q (.bl (inV x (allR.map V.str))) H
theorem G8:YA P w K mg base CX0 1 t.ny t.nz ["word"] (yD K):=by
 refine T.bb.F.ok y8 (fun vs H Q E h=>?_) (fun q A outer s H vs Q E hr h=>?_)
 ·obtain ⟨_,rfl,_⟩:=h
  rfl
 ·obtain ⟨x,rfl,hx,k⟩:=h
  have hu:=ZT hr;refine ⟨_,@QSs.out _ _ _ (Zf (Zp (Xk YS (qv 0) (XG (v:=.ref t.bu) rfl T.bu.m rfl) (by with_unfolding_all rfl)))),?_⟩;exact ⟨_,rfl,t.bu,_,rfl,.inr (T.bu.d H),hx,Za1 _,k⟩
def ke(K:Af):Sp:=fun vs H Q _=>∃(a b h:Int),vs=[.int a,.int b,.int h]/\Q (.int (Zka a b h)) H
theorem qZ:YA P w K mg base CX0 1 t.ox t.oy ["one","other","held"] (ke K):=by
 refine T.bo.F.ok vV (fun vs H Q E h=>?_) (fun q A outer s H vs Q E hr h=>?_)
 ·obtain ⟨_,_,_,rfl,_⟩:=h
  rfl
 ·obtain ⟨a,b,h,rfl,k⟩:=h
  have hu:=ZT hr;refine ⟨_,@QSs.out _ _ _ (Zf (Zp (Zm j7 (Zm Xw (WI qe (qv 0)) (qv 1)) (Zm Xw (qv 2) (WI qe (Zm qd (qv 0) (qv 1))))))),?_⟩;exact ⟨_,rfl,_,rfl,_,rfl,_,_,rfl,rfl,_,rfl,_,rfl,_,rfl,_,_,rfl,rfl,_,rfl,_,_,rfl,rfl,_,_,rfl,rfl,k⟩
def x4(K:Af):Sp:=fun vs H Q _=>∃(y:Str) (p:Au) (is:Ak),vs=[.str y,.ref p]/\H p=some (.lst (is.map V.int))/\y∈Zbd/\is.length=Zbb y/\∀H',ZA H H'->Q (.int (oaI y is)) H'
theorem x5:YA P w K mg base CX0 1 t.lq t.lr ["word","parts"] (x4 K):=by
 refine T.cx.F.ok xp (fun vs H Q E h=>?_) (fun cdv A outer s H vs Q E hr h=>?_)
 ·obtain ⟨_,_,_,rfl,_⟩:=h
  rfl
 ·obtain ⟨y,p,is,rfl,hp,hy,hl,k⟩:=h
  have hu:=ZT hr;refine ⟨_,@QSs.out _ _ _ (Zb (Ye (Zz Xv (qv 0) Zx (ZF _))
    (Zf (Zp (WI Jn Zd))) Z6)
    (Zb (Ye (Zz Xv (qv 0) Zx (ZF _))
    (Zf (Zp (Zq Zy (qv 1) Zd))) Z6)
    (Zb (Ye (Zz YS (qv 0) (ZI (Zk Zx (Zk Zx Ze))) (by with_unfolding_all rfl))
    (Zf (Zp (WI qe (Zq Zy (qv 1) Zd)))) Z6)
    (Zb (Ye (Zz YS (qv 0) (ZI (Zk Zx (Zk Zx Ze))) (by with_unfolding_all rfl))
    (Zf (Zp (Zm Xw (Zq Zy (qv 1) Zd) (Zq Zy (qv 1) Zd)))) Z6)
    (Zb (Ye (Zz YS (qv 0) (ZI (Zk Zx (Zk Zx Ze))) (by with_unfolding_all rfl))
    (Zf (Zp (Zm j7 (Zq Zy (qv 1) Zd) (Zq Zy (qv 1) Zd)))) Z6)
    (Zb (Ye (Zz Xv (qv 0) Zx (ZF _))
    (Zf (Zp (Zm qd (Zq Zy (qv 1) Zd) (Zq Zy (qv 1) Zd)))) Z6)
    (Zb (Ye (Zz Xv (qv 0) Zx (ZF _))
    (Zf (Zp (Zm j7 (WI qe (Zq Zy (qv 1) Zd)) (Zq Zy (qv 1) Zd)))) Z6)
    (Zf (Zp (Zm j7 (Zm Xw (Zq Zy (qv 1) Zd) (Zq Zy (qv 1) Zd)) (Zm Xw (WI qe (Zq Zy (qv 1) Zd)) (Zq Zy (qv 1) Zd)))))))))))),?_⟩
  refine L2.let8 ?_;intro U7 U6 U5 U4 U3 U2 U1;unfold oaI at k;refine ⟨_,rfl,rfl,_,rfl,?_⟩
  by_cases h1:y = "yes"
  ·rw [Qao (congrArg V.str h1)]
   rw [Qa1 h1] at k;refine Wk ?_;exact ⟨_,rfl,k H (ZA.refl _)⟩
  rw [Qau (fun z=>h1 (by injection z))];rw [Qaw h1] at k;refine YZ ⟨_,rfl,rfl,_,rfl,?_⟩
  by_cases h2:y = "sign"
  ·rw [Qao (congrArg V.str h2)]
   rw [Qa1 h2] at k;refine Wk ?_;exact ⟨_,rfl,p,_,0,_,rfl,rfl,SqL.of hp,Z0 0 rfl (qE hl (by rw [h2];decide +kernel)),k H (ZA.refl _)⟩
  rw [Qau (fun z=>h2 (by injection z))];rw [Qaw h2] at k;refine YZ ⟨_,rfl,by decide,fun q hq=>⟨q,_,rfl,.inr (SqT.of Za),rfl,rfl,_,rfl,?_⟩⟩;show if inV (.str y) ((["not","never"]:Ai).map V.str)=true then _ else _;rw [ZN];have G:=Zc (o:=.tup [.str "not",.str "never"]) hq;have pq:=G _ _ hp;generalize upd H q (.tup [.str "not",.str "never"])=H1 at *
  by_cases O:y = "not" \/ y = "never"
  ·rw [Qao (by simp only [Qan,Qbd,Qdq];exact O)]
   rw [Qa1 O] at k;refine Wk ?_;exact ⟨_,rfl,p,_,0,_,rfl,rfl,SqL.of pq,Z0 0 rfl (qE hl (by rcases O with h | h <;> rw [h] <;> decide +kernel)),_,rfl,k H1 G⟩
  rw [Qau (by simp only [Qan,Qbd,Qdq];exact O)];rw [Qaw O] at k;refine YZ ⟨_,rfl,by decide,fun r hr=>⟨r,_,rfl,.inr (SqT.of Za),rfl,rfl,_,rfl,?_⟩⟩;show if inV (.str y) ((["and","both"]:Ai).map V.str)=true then _ else _;rw [ZN];have Y:=Zc (o:=.tup [.str "and",.str "both"]) hr;have pr:=Y _ _ pq;generalize upd H1 r (.tup [.str "and",.str "both"])=H2 at *
  by_cases Z:y = "and" \/ y = "both"
  ·rw [Qao (by simp only [Qan,Qbd,Qdq];exact Z)]
   rw [Qa1 Z] at k;refine Wk ?_;have l2:2<=is.length:=qE hl (by rcases Z with h | h <;> rw [h] <;> decide +kernel);exact ⟨_,rfl,p,_,0,_,rfl,rfl,SqL.of pr,Z0 0 rfl (by lia),_,rfl,p,_,1,_,rfl,rfl,SqL.of pr,Z0 1 rfl l2,_,_,rfl,rfl,k H2 (G.trans Y)⟩
  rw [Qau (by simp only [Qan,Qbd,Qdq];exact Z)];rw [Qaw Z] at k;refine YZ ⟨_,rfl,by decide,fun t1 ht1=>⟨t1,_,rfl,.inr (SqT.of Za),rfl,rfl,_,rfl,?_⟩⟩;show if inV (.str y) ((["or","either"]:Ai).map V.str)=true then _ else _;rw [ZN];have D:=Zc (o:=.tup [.str "or",.str "either"]) ht1;have C:=D _ _ pr;generalize upd H2 t1 (.tup [.str "or",.str "either"])=H3 at *
  by_cases I:y = "or" \/ y = "either"
  ·rw [Qao (by simp only [Qan,Qbd,Qdq];exact I)]
   rw [Qa1 I] at k;refine Wk ?_;have l2:2<=is.length:=qE hl (by rcases I with h | h <;> rw [h] <;> decide +kernel);exact ⟨_,rfl,p,_,0,_,rfl,rfl,SqL.of C,Z0 0 rfl (by lia),_,rfl,p,_,1,_,rfl,rfl,SqL.of C,Z0 1 rfl l2,_,_,rfl,rfl,k H3 ((G.trans Y).trans D)⟩
  rw [Qau (by simp only [Qan,Qbd,Qdq];exact I)];rw [Qaw I] at k;refine YZ ⟨_,rfl,rfl,_,rfl,?_⟩
  by_cases h6:y = "odd"
  ·rw [Qao (congrArg V.str h6)]
   rw [Qa1 h6] at k;refine Wk ?_;have l2:2<=is.length:=qE hl (by rw [h6];decide +kernel);exact ⟨_,rfl,p,_,0,_,rfl,rfl,SqL.of C,Z0 0 rfl (by lia),_,rfl,p,_,1,_,rfl,rfl,SqL.of C,Z0 1 rfl l2,_,_,rfl,rfl,k H3 ((G.trans Y).trans D)⟩
  rw [Qau (fun z=>h6 (by injection z))];rw [Qaw h6] at k;refine YZ ⟨_,rfl,rfl,_,rfl,?_⟩
  by_cases J:y = "so"
  ·rw [Qao (congrArg V.str J)]
   rw [Qa1 J] at k;refine Wk ?_;have l2:2<=is.length:=qE hl (by rw [J];decide +kernel);exact ⟨_,rfl,p,_,0,_,rfl,rfl,SqL.of C,Z0 0 rfl (by lia),_,rfl,_,rfl,p,_,1,_,rfl,rfl,SqL.of C,Z0 1 rfl l2,_,_,rfl,rfl,k H3 ((G.trans Y).trans D)⟩
  rw [Qau (fun z=>J (by injection z))];rw [Qaw J] at k;have l3:3<=is.length:=qE hl (g8 y hy h1 h2 O Z I h6 J);exact YZ ⟨_,rfl,p,_,0,_,rfl,rfl,SqL.of C,Z0 0 rfl (by lia),_,rfl,p,_,1,_,rfl,rfl,SqL.of C,Z0 1 rfl (by lia),_,_,rfl,rfl,_,rfl,p,_,0,_,rfl,rfl,SqL.of C,Z0 0 rfl (by lia),_,rfl,_,rfl,p,_,2,_,rfl,rfl,SqL.of C,Z0 2 rfl l3,_,_,rfl,rfl,_,_,rfl,rfl,k H3 ((G.trans Y).trans D)⟩
def Gq(K:Af):Sp:=fun vs H Q _=>∃(tw:Au) (q:A0),vs=[.ref tw]/\H tw=some (.tup q)/\q.length<=1000/\(∀w∈q,(∃y,w=.str y)\/∃z:Int,w=.int z) /\
 ∀(L:Nat) H',(∀z:Int,V.int z∈q->Builtin.Int.intBits z<=L)->(L=0\/∃z:Int,V.int z∈q/\L=Builtin.Int.intBits z)->ZA H H'->Q (.int (L:Int)) H'
theorem Gr:YA P w K mg base CX0 1 t.ie t.ig ["words"] (Gq K):=by
 refine T.bw.F.ok Gp (fun vs H Q E h=>?_) (fun G A outer s H vs Q E hr h=>?_)
 ·obtain ⟨_,_,rfl,_⟩:=h
  rfl
 ·obtain ⟨tw,q,rfl,C,hl,hw,k⟩:=h
  have hu:=ZT hr;refine ⟨_,@QSs.out _ _ _ (Zf (Zp (Zhz rfl rfl T.aad (Y4 ({}:Yj (Zg YY) _ ["words"] "word" [] []) (Wf (qv 0)) (fun _ _ _ _=>(kH (X6 (Zv (show Xb _ (.builtin "isinstance") (rIsi K) from XF) (by rfl) T.ay Ym (Zk (qv 0) (Zk (WY (v:=.ty "int") (by rfl) T.rf k9 rfl) Ze)))))) (fun _ _ _ _=>(show QE _ _ (Zkp K "int" Zj0 (ud 0)) from (kG PySem.F.plainAttrs_int PySem.F.slot_int_bit_length PySem.F.type_int_bit_length Zh0 (qv 0))))) Zd))),?_⟩;refine ⟨_,rfl,tw,rfl,⟨_,SqT.of C⟩,Jr (K:=K) (a:=tw) (xs:=q) (fun i zs H'=>zs=(JG (q.take i)).map V.int/\H'=H) ⟨rfl,rfl⟩ (fun i zs H' h=>?_) (fun i zs H' h=>by rw [h.2];exact SqT.of C) (fun i x zs H1 R hR hx h=>?_) (fun zs H1 h p hp=>?_)⟩
  ·rw [h.1,Qac]
   have:=yo (q.take i);rw [Qa0] at this;exact Qav (Zo (by lia))
  ·obtain ⟨rfl,rfl⟩:=h
   rcases hw x (Qai hx) with ⟨y,rfl⟩ | ⟨z,rfl⟩
   ·refine ⟨_,rfl,_,_,_,_,rfl,.str y,WX,_,rfl,YZ (hR _ _ ⟨?_,rfl⟩)⟩
    rw [take_snoc hx,qK];exact congrArg (List.map V.int) (Qbq _).symm
   ·refine ⟨_,rfl,_,_,_,_,rfl,.int z,WW,_,rfl,Wk ⟨_,rfl,rfl,z,rfl,rfl,hR _ _ ⟨?_,rfl⟩⟩⟩
    rw [take_snoc hx,qK,Qa6]
    rfl
  ·obtain ⟨rfl,rfl⟩:=h
   have sp:=Zc (o:=.lst ((JG (q.take q.length)).map V.int)) hp;refine ⟨p,JG (q.take q.length),rfl,SqL.of Za,fun e=>?_,fun m hm hx=>?_⟩
   ·rw [Qbi] at e
    refine k 0 _ (fun z hz=>?_) (.inl rfl) sp;have:=qL hz;rw [e] at this;cases this
   ·rw [Qbi] at hm hx
    obtain ⟨z,hz,rfl⟩:=w9 hm;exact k _ _ (fun y D=>Int.ofNat_le.mp (hx _ (qL D))) (.inr ⟨z,hz,rfl⟩) sp
def gO(K:Af):Sp:=fun vs H Q _=>∃(p:Au) (cs:Ak) (l:Nat),vs=[.ref p,.int (l:Int)]/\H p=some (.lst (cs.map V.int))/\cs.length<=1000/\l<=100/\∀t H',H t=none->H' t=some (.tup ((cs.map fun c=>bt c l).map V.int))->ZA H H'->Q (.ref t) H'
theorem gP:YA P w K mg base CX0 1 t.rj t.rk ["columns","letter"] (gO K):=by
 refine T.fh.F.ok gM (fun vs H Q E h=>?_) (fun I A outer s H vs Q E hr h=>?_)
 ·obtain ⟨_,_,_,rfl,_⟩:=h
  rfl
 ·obtain ⟨p,cs,l,rfl,hp,hl,G,k⟩:=h
  have hu:=ZT hr;refine ⟨_,@QSs.out _ _ _ (Zf (Zp (Z8 Z5 (by rfl) T.ak ZX (Zk (Y4 ({}:Yj (Zg qy) _ ["columns","letter"] "column" ["letter"] [1]) (WZ (qv 0)) (fun _ _ _ _=>Xx) (fun _ _ _ _=>(Zm Xw (Zm xH (qv 0) (qv 1)) Zd))) Ze)))),?_⟩;refine ⟨_,rfl,p,rfl,⟨_,SqL.of hp⟩,comp_map (xs:=cs.map V.int) (fI fun c=>V.int (bt c l)) (SqL.of hp) (by rw [Qac];exact Qav (Zo (by lia))) (fun v hv R hR=>?_) (fun q J=>?_)⟩
  ·obtain ⟨c,_,rfl⟩:=Qa2.mp hv
   refine ⟨_,rfl,_,rfl,_,_,rfl,rfl,Qch l,_,_,rfl,rfl,?_⟩;have e:fI (fun c=>V.int (bt c l)) (V.int c)=V.int (Builtin.bitAnd (c / 2 ^ (l:Int).toNat) 1):=by
    rw [and_1,Qat]
    rfl
   rw [e] at hR;exact hR
  ·refine ⟨q,_,rfl,.inl ⟨SqL.of Za,fun t D=>?_⟩⟩
   have C:=Zc (o:=.lst ((cs.map V.int).map (fI fun c=>V.int (bt c l)))) J;refine k t _ (C.free D) ?_ (C.trans (Zc D));rw [Za,Qb4,Qb4]
   rfl
def jr(K:Af):Sp:=fun vs H Q _=>∃(G D c:Au) (q C:Ai) (b1 b2:Nat) (nx1 nx2:Ad) (ot1 ot2:Ax) (i j:Nat),vs=[.ref G,.ref D,.ref c]/\M4 H G q b1 nx1 ot1/\M4 H D C b2 nx2 ot2/\H c=some (.tup [.int (i:Int),.int (j:Int)])/\i < nx1.length/\j < nx2.length /\
 ∀l zs H',H l=none->ZA H H'->H' l=some (.lst zs)->Prs H' (gX (nx1.getD i []) (nx2.getD j [])) zs->Q (.ref l) H'
theorem jt:YA P w K mg base CX0 1 t.mx t.my ["one","other","pair"] (jr K):=by
 refine T.dj.F.ok jm (fun vs H Q E h=>?_) (fun cdv A outer s H vs Q E hr h=>?_)
 ·obtain ⟨_,_,_,_,_,_,_,_,_,_,_,_,_,rfl,_⟩:=h
  rfl
 ·obtain ⟨O,J,c,nm1,nm2,b1,b2,nx1,nx2,ot1,ot2,i,j,rfl,M1,M2,hc,hi,hj,k⟩:=h
  have hu:=ZT hr;refine ⟨_,@QSs.out _ _ _ (Zf (Zp (gr (b1:=true) (b2:=true) rfl T.vb rfl T.tj rfl (Zk (Zq Zu (Zq Zu (qv 0) Zd) (Zq Zu (qv 2) Zd)) (Zk (Zq Zu (Zq Zu (qv 1) Zd) (Zq Zu (qv 2) Zd)) Ze))))),?_⟩;obtain ⟨pn1,C,po1,h1,_,R1,_⟩:=M1.ex;obtain ⟨pn2,q,Y,h2,_,R2,_⟩:=M2.ex;obtain ⟨as1,a1,g1,I,D⟩:=W2 R1 (i:=i) (by rw [Qac];exact hi);obtain ⟨Z,a2,f1,f2,G⟩:=W2 R2 (i:=j) (by rw [Qac];exact hj);rw [JE] at D G;exact ⟨_,rfl,O,_,2,_,rfl,rfl,SqT.of h1,rfl,_,rfl,c,_,0,_,rfl,rfl,SqT.of hc,rfl,C,_,_,_,rfl,rfl,SqT.of g1,I,_,rfl,J,_,2,_,rfl,rfl,SqT.of h2,rfl,_,rfl,c,_,1,_,rfl,rfl,SqT.of hc,rfl,q,_,_,_,rfl,rfl,SqT.of f1,f2,a1,a2,_,_,rfl,SqB.t D,SqB.t G,fun l zs H' hl s t hz=>k l zs H' hl s hz (vE t)⟩
def kg(K:Af):Sp:=fun vs H Q _=>∃(I G c:Au) (C D:Ai) (b1 b2:Nat) (nx1 nx2:Ad) (ot1 ot2:Ax) (i j:Nat) (J:Bool),vs=[.ref I,.ref G,.ref c]/\M4 H I C b1 nx1 ot1/\M4 H G D b2 nx2 ot2/\H c=some (.tup [.int (i:Int),.int (j:Int)])/\i < ot1.length/\j < ot2.length /\
 (ot1.getD i []).length=(ot2.getD j []).length/\(ot1.getD i []).length<=1000/\(∀v∈ot1.getD i [],Xs J v)/\(∀v∈ot2.getD j [],Xs J v) /\
 ∀l H',H l=none->ZA H H'->H' l=some (.lst ((((ot1.getD i []).zip (ot2.getD j [])).map fun q=>!decide (q.1=q.2)).map V.bl))->Q (.ref l) H'
theorem kh:YA P w K mg base CX0 1 t.oz t.pb ["one","other","pair"] (kg K):=by
 refine T.du.F.ok vW (fun vs H Q E h=>?_) (fun cdv A outer s H vs Q E hr h=>?_)
 ·obtain ⟨_,_,_,_,_,_,_,_,_,_,_,_,_,_,rfl,_⟩:=h
  rfl
 ·obtain ⟨m1,m2,c,nm1,nm2,b1,b2,nx1,nx2,ot1,ot2,i,j,tr,rfl,M1,M2,hc,hi,hj,Z,hle,k1,k2,k⟩:=h
  have hu:=ZT hr;refine ⟨_,@QSs.out _ _ _ (Zf (Zp (Y4 ({}:Yj (Zg Gd) _ ["one","other","pair"] "bits" [] []) (qi_zip (b1:=true) (b2:=true) rfl T.vb (Zk (Zq Zu (Zq Zu (qv 0) Zd) (Zq Zu (qv 2) Zd)) (Zk (Zq Zu (Zq Zu (qv 1) Zd) (Zq Zu (qv 2) Zd)) Ze))) (fun _ _ _ _=>Xx) (fun _ _ _ _=>(Xk j8 (Zq (show IxR _ (Zc7 K) from Zu) (qv 0) Zd) (Zq (show IxR _ (Zc7 K) from Zu) (qv 0) Zd) (ZF _)))))),?_⟩;obtain ⟨pn1,ps1,I,h1,_,_,R1⟩:=M1.ex;obtain ⟨pn2,ps2,C,h2,_,_,R2⟩:=M2.ex;obtain ⟨as1,a1,g1,g2,O⟩:=W2 R1 hi;obtain ⟨as2,a2,f1,f2,Y⟩:=W2 R2 hj;generalize ot1.getD i []=G at *;generalize ot2.getD j []=D at *;refine ⟨_,rfl,m1,_,3,_,rfl,rfl,SqT.of h1,rfl,_,rfl,c,_,0,_,rfl,rfl,SqT.of hc,rfl,I,_,_,_,rfl,rfl,SqT.of g1,g2,_,rfl,m2,_,3,_,rfl,rfl,SqT.of h2,rfl,_,rfl,c,_,1,_,rfl,rfl,SqT.of hc,rfl,C,_,_,_,rfl,rfl,SqT.of f1,f2,a1,a2,_,_,rfl,SqB.t O,SqB.t Y,?_⟩;refine Zd3 (xs:=G) (ys:=D) (fun n zs H'=>n<=(G.zip D).length/\zs=(((G.zip D).take n).map fun q=>!decide (q.1=q.2)).map V.bl/\ZA H H') ⟨Qba _,rfl,ZA.refl H⟩ (fun n zs H' ⟨hn,hz,_⟩=>?_) (fun n zs H' ⟨_,_,s⟩=>⟨SqB.t (s _ _ O),SqB.t (s _ _ Y)⟩) (fun n x y p zs H' R hR hx J ⟨hn,hz,s⟩ hp=>?_) (fun zs H' ⟨_,hz,s⟩ p hp=>?_)
  ·rw [hz,Qac,Qac,Qa0,Qcd]
   exact Qav (Zo (by lia))
  ·refine yesT ⟨_,rfl,p,_,0,_,rfl,rfl,SqT.of Za,rfl,_,rfl,p,_,1,_,rfl,rfl,SqT.of Za,rfl,qO (k1 _ (Qai hx)) (k2 _ (Qai J)),hR _ _ ⟨?_,?_,s.trans (Zc hp)⟩⟩
   ·grind
   ·rw [hz,take_snoc (zip_at hx J),Qa6,Qa6]
    rfl
  ·rw [Qbi] at hz
   subst hz;exact k p _ (s.free hp) (s.trans (Zc hp)) Za
def Wc(K:Af):Sp:=fun vs H Q _=>∃(m:Au) (nm:Ai) (nx:Ad) (ot:Ax) (n:Nat) (kk:Nat->Nat),vs=[.ref m]/\M4 H m nm 0 nx ot/\Runs nx ot n/\RgO nx kk/\nx.length<=1000000/\(∀r∈ot,∀x∈r,∃t,x=.bl t) /\
 ((∀(ls:Aj) (c:Nat),(∀x∈ls++[c],x < 2 ^ n)->mB ot (.bl true) (stN nx 0 ls) c=false)->∀H',ZA H H'->Q .non H') /\
 (∀(w:Nat) H',1<=w->w<=nx.length->(∃(ls:Aj) (c:Nat),ls.length + 1=w/\(∀x∈ls++[c],x < 2 ^ n)/\mB ot (.bl true) (stN nx 0 ls) c=true)->(∀(ls:Aj) (c:Nat),(∀x∈ls++[c],x < 2 ^ n)->mB ot (.bl true) (stN nx 0 ls) c=true->w<=ls.length + 1)->ZA H H'->Q (.int (w:Int)) H')
theorem Wd:YA P w K mg base CX0 1 t.dk t.dm ["machine"] (Wc K):=by
 refine T.au.F.ok ZD (fun vs H Q E h=>?_) (fun cdv A outer s H vs Q E hr h=>?_)
 ·obtain ⟨_,_,_,_,_,_,rfl,_⟩:=h
  rfl
 ·obtain ⟨m,nm,nx,ot,n,kk,rfl,M,R,G,hN,hbl,kN,kS⟩:=h
  have hu:=ZT hr;refine ⟨_,@QSs.out _ _ _ (Zb (Zn (i:=1) ZD.nd rfl (Or.inl rfl) (vm (zG (Zq Zu (qv 0) Zd) Zd vk) rfl rfl (fun z=>nomatch z) (by decide)))
    (Zb (YB Qbm rfl (zx rfl T.ic (Zq Zu (qv 0) Zd)) (zy rfl (ZM (i:=2) ZD.nd rfl (Or.inl rfl)) (ZM (i:=3) ZD.nd rfl (Or.inl rfl)))
    (Zb (Ye (Zz YS xg (qv 3) (by with_unfolding_all rfl))
    (Zf (Zp (Jb hu (qv 1) (qv 2) (fun _ _=>rfl)))) Z6)
    (Zf (YB Qbm rfl (Wf (Zq Zu (Zq Zu (qv 0) Zd) (qv 2))) (ZM (i:=4) ZD.nd rfl (Or.inl rfl))
    (Zf (Y3 (Xl PySem.F.plainAttrs_dict PySem.F.slot_dict_setdefault PySem.F.type_dict_setdefault Zh1 (qv 1) (Zk (qv 4) (Zk (Zm Yy (Jb hu (qv 1) (qv 2) (fun _ _=>rfl)) Zd) Ze)))))))))
    (Zf (Zp kB)))),?_⟩
  try dsimp only [L2.cxK,L2.cxK2]
  refine L2.let3 ?_;intro U2 U1;obtain ⟨pn,ps,po,h1,hpn,Rs,Ro⟩:=M.ex;refine fun d hd=>?_;have sd:=Zc (o:=.dK []) hd;refine ⟨_,rfl,m,_,1,_,rfl,rfl,SqT.of (sd _ _ h1),rfl,Za,[(.inl (0:Int),.int 1)],rfl,by show 1<=15;decide,Zi ?_⟩;rw [WU];have s1:=Zc (o:=.dK (X8 [] [((.inl (0:Int):Key),V.int 1)])) hd;have hd1:upd H d (.dK (X8 [] [((.inl (0:Int):Key),V.int 1)])) d=some (.dK (dwK (dwN kk 0))):=Za;generalize upd H d (.dK (X8 [] [((.inl (0:Int):Key),V.int 1)]))=H1 at *;obtain ⟨as,ha,hal,hat⟩:=Ro;have hol:=R.ol;have okr:∀i c,i < nx.length->c < 2 ^ n->(mB ot (.bl true) i c=true↔(ot.getD i [])[c]?=some (.bl true)):=fun i c hi hc=>by
   have l1:=R.or _ (getD_mem (show i < ot.length by lia));rw [getD_at (d:=V.non) (show c < (ot.getD i []).length by lia)];unfold mB;rw [Qcb];exact ⟨fun z=>by rw [z],fun z=>Option.some.inj z⟩
  refine ⟨_,rfl,m,_,3,_,rfl,rfl,SqT.of (s1 _ _ h1),rfl,po,as,rfl,SqT.of (s1 _ _ ha),z5 (K:=K) (a:=po) (xs:=as) (j:=2) (k:=3) (fun i σ H'=>∃(u2 u3 J:Option V),σ=[some (.ref m),some (.ref d),u2,u3,J]/\i<=nx.length/\H' d=some (.dK (dwK (dwN kk i)))/\(∀j,j < i->∀c,c < 2 ^ n->mB ot (.bl true) j c=false)/\ZA H H') ⟨none,none,none,rfl,Qba _,hd1,(fun j hj=>absurd hj (Qd0 _)),s1⟩ (fun i σ H' _ ⟨_,_,_,_,_,_,_,s2⟩=>SqT.of (s2 _ _ ha)) ?_ ?_⟩
  ·rintro i x σ H2 t hx ht ⟨u2,u3,J,rfl,hi,O,D,s2⟩
   have q:i < nx.length:=by have:=(Qah.mp hx).1;lia
   obtain ⟨x0,hx0,hrow⟩:=hat i (ot.getD i []) (wy (by lia));rw [hx] at hx0;cases hx0;have st:=Zc (o:=.tup [.int (i:Int),.ref x0]) ht;have s3:=s2.trans st;have hd3:=st _ _ O;have htd:t≠d:=(Zj O ht).symm;generalize upd H2 t (.tup [.int (i:Int),.ref x0])=H3 at *;have lor:=R.or _ (getD_mem (show i < ot.length by lia));obtain ⟨bs,I⟩:∃bs:List Bool,ot.getD i []=bs.map V.bl:=by
    have go:∀l:A0,(∀x∈l,∃t,x=.bl t)->∃bs:List Bool,l=bs.map V.bl:=by
     intro l
     induction l with
     | nil=>exact fun _=>⟨[],rfl⟩
     | cons x l ih =>
      intro h;obtain ⟨b,rfl⟩:=h x Qaq;obtain ⟨bs,rfl⟩:=ih fun y C=>h y (Qam _ C);exact ⟨b::bs,rfl⟩
    exact go _ (hbl _ (getD_mem (by lia)))
   have lD:=Gk G i (Qav q);have gi:=G.go i q;have vi:Yf (dwK (dwN kk i)) (.inl (i:Int))=some (.int (((dwN kk i).getD i 0:Nat):Int)):=by rw [qQ,Qa1 (by lia)]
   refine ⟨_,rfl,x0,ot.getD i [],rfl,.inr (SqT.of (s3 _ _ hrow)),rfl,by rw [I];exact Qdo.mpr (fun x hx=>by obtain ⟨b,_,rfl⟩:=Qa2.mp hx;rfl),_,rfl,?_⟩;show if inV (.bl true) (ot.getD i [])=true then _ else _;rw [I,Zch];refine k4 (fun hb=>?_) (fun hb=>?_)
   ·obtain ⟨c,hc⟩:=Qct (Qaz hb)
    have hc2:(ot.getD i [])[c]?=some (.bl true):=by rw [I,Qaj,hc];rfl
    have Z:c < 2 ^ n:=by have:=(Qah.mp hc2).1;lia
    obtain ⟨w1,⟨ls,w2,w3,w4⟩,w5⟩:=vK G R.nr (ok:=mB ot (.bl true)) q Z ((okr i c q Z).mpr hc2) D;refine ⟨_,rfl,_,rfl,d,_,rfl,.inl ⟨_,.inl (i:Int),.inl hd3,rfl,vi.symm⟩,kS _ H3 w1 (by have:=Zki G i (Qav q) i;lia) ⟨ls,c,w2,fun y C=>?_,w4⟩ (fun ls' c' h1 h2=>w5 ls' c' (fun y C=>h1 y (Qb7 _ C)) (h1 c' (Qa3 _ (Qal.mpr rfl))) h2) s3⟩;rcases Qa4.mp C with z | z
    ·exact w3 y z
    ·rw [Qal.mp z];exact Z
   ·have hnr:∀c,c < 2 ^ n->mB ot (.bl true) i c=false:=fun c hc=>by
     cases hm:mB ot (.bl true) i c with
     | false=>rfl
     | true =>
      have h2:=(okr i c q hc).mp hm;rw [I,Qaj] at h2;obtain ⟨b',h3,h4⟩:=Qb2.mp h2;cases h4;exact absurd (Qao (Qai h3)) hb
    obtain ⟨as1,a1,r1,r2,r3⟩:=W2 Rs (i:=i) (by rw [Qac];exact q);rw [JE] at r3;have lnr:=R.nr _ (getD_mem q);refine ⟨_,rfl,m,_,2,_,rfl,rfl,SqT.of (s3 _ _ h1),rfl,_,rfl,ps,_,_,_,rfl,rfl,SqT.of (s3 _ _ r1),r2,a1,rfl,⟨_,SqT.of (s3 _ _ r3)⟩,qc (K:=K) (a:=a1) (xs:=zR (nx.getD i [])) (fun j σ H'=>∃(J:Option V) (k:Nat),σ=[some (.ref m),some (.ref d),some (.int (i:Int)),some (.ref x0),J]/\((nx.getD i []).take j).foldl Yt (List.range (kk i))=List.range k/\kk i<=k/\k<=nx.length/\H' d=some (.dK (dwK (dwN kk i++List.replicate (k - kk i) ((dwN kk i).getD i 0 + 1))))/\ZA H H') ⟨_,kk i,rfl,rfl,Qag _,G.le i (Qav q),by rw [Qfr,List.replicate_zero,Qbq];exact hd3,s3⟩ (fun j σ H' _ ⟨_,_,_,_,_,_,_,s⟩=>SqT.of (s _ _ r3)) ?_ ?_⟩
    ·rintro j y σ H4 C ⟨J,k,rfl,f1,f2,f3,Y,s4⟩
     unfold zR at C;rw [Qaj] at C;obtain ⟨tt,htt,rfl⟩:=Qb2.mp C;generalize hws:dwN kk i++List.replicate (k - kk i) ((dwN kk i).getD i 0 + 1)=ws at *;have wl:ws.length=k:=by rw [<-hws,Qae,Qax,lD];lia
     have wi:ws.getD i 0=(dwN kk i).getD i 0:=by rw [<-hws,Qar,Qbg (by lia),Qar]
     have vi4:Yf (dwK ws) (.inl (i:Int))=some (.int (((dwN kk i).getD i 0:Nat):Int)):=by rw [qQ,Qa1 (by lia),wi]
     refine Zi ⟨_,rfl,.inr (.inr (.inl ⟨rfl,.inl ⟨_,Y⟩⟩)),_,rfl,_,rfl,_,rfl,d,_,rfl,.inl ⟨_,.inl (i:Int),.inl Y,rfl,vi4.symm⟩,_,_,rfl,rfl,d,.inl (tt:Int),_,_,rfl,rfl,Y,by rw [Ziw,wl];exact YV (by lia),?_,?_⟩
     ·intro y C
      rw [qQ] at C;rcases G.more q htt f1 with ⟨q1,q2⟩ | ⟨q1,q2⟩
      ·exact ⟨_,k,rfl,q2,f2,f3,by rw [hws];exact Y,s4⟩
      ·rw [Qaw (by lia)] at C
       cases C
     ·intro C
      rw [qQ] at C;rcases G.more q htt f1 with ⟨q1,q2⟩ | ⟨q1,q2⟩
      ·rw [Qa1 (by lia)] at C
       cases C
      ·obtain ⟨k',e1,e2,e3⟩:=G.part q (j + 1)
       have ek:k'=k + 1:=by
        rw [q2] at e1;have:=congrArg List.length e1;rw [Qay,Qay] at this;exact this.symm
       have:=G.le (i + 1) q;refine ⟨_,k + 1,rfl,q2,by lia,by lia,?_,Ys s4 hd⟩;rw [Za,q1,<-wl];show some (HO.dK (putK (dwK ws) (.inl (ws.length:Int)) (.int (((dwN kk i).getD i 0:Int) + 1))))=_;rw [show (((dwN kk i).getD i 0:Nat):Int) + 1=(((dwN kk i).getD i 0 + 1:Nat):Int) from rfl,Zix,wl,<-hws,Qca,show k + 1 - kk i=(k - kk i) + 1 by lia,Qf1]
    ·rintro σ H4 ⟨J,k,rfl,f1,f2,f3,Y,s4⟩
     rw [show (zR (nx.getD i [])).length=(nx.getD i []).length from Qac _,Qbi,G.step q] at f1;have ek:kk (i + 1)=k:=by
      have:=congrArg List.length f1;rw [Qay,Qay] at this;exact this
     refine ⟨_,_,_,rfl,q,by rw [<-ek] at Y;exact Y,fun j hj c hc=>?_,s4⟩
     by_cases e:j=i
     ·rw [e];exact hnr c hc
     ·exact D j (by lia) c hc
  ·rintro σ H2 ⟨u2,u3,J,rfl,hi,O,D,s2⟩
   rw [hal,hol] at D;refine kN (fun ls c h=>?_) H2 s2;exact D _ (Zgb R R.pos fun x hx=>h x (Qb7 _ hx)) c (h c (Qa3 _ (Qal.mpr rfl)))
def yE(K:Af):Sp:=fun vs H Q _=>∃(a:Int),vs=[.int a]/\Q (.bl true) H
theorem yF:YA P w K mg base CX0 1 t.og t.oh ["found"] (yE K):=by
 refine T.bc.F.ok y9 (fun vs H Q E h=>?_) (fun q A outer s H vs Q E hr h=>?_)
 ·obtain ⟨_,rfl,_⟩:=h
  rfl
 ·obtain ⟨a,rfl,k⟩:=h
  have hu:=ZT hr;refine ⟨_,@QSs.out _ _ _ (Zf (Zp (uP (Zv XF (by rfl) T.ay Ym (Zk (qv 0) (Zk (WY (v:=.ty "int") (by rfl) T.rf k9 rfl) Ze))) (kE (qe_not (Zv XF (by rfl) T.ay Ym (Zk (qv 0) (Zk (WY (v:=.ty "bool") (by rfl) T.wh Zg5 rfl) Ze)))))))),?_⟩;exact ⟨_,rfl,_,_,_,_,rfl,.int a,WW,true,rfl,Wk ⟨_,rfl,_,_,_,_,rfl,.int a,jH,false,rfl,k⟩⟩
def x6(K:Af):Sp:=fun vs H Q _=>∃(a:Au) (q:Ak) (j:Nat),vs=[.ref a,.int (j:Int)]/\SqL K H a (q.map V.int)/\∀v:Int,Q (.int v) H
theorem x8:YA P w K mg base CX0 1 t.lu t.lx ["script","k"] (x6 K):=by
 refine T.ai.F.ok xq (fun vs H Q E h=>?_) (fun C A outer s H vs Q E hr h=>?_)
 ·obtain ⟨_,_,_,rfl,_⟩:=h
  rfl
 ·obtain ⟨a,D,j,rfl,q,k⟩:=h
  have hu:=ZT hr;refine ⟨_,@QSs.out _ _ _ (Zb (Ye (Zz Zdj (qv 1) (Zv ZE (by rfl) T.av YT (Zk (qv 0) Ze)) (ZF _))
    (Zf (Zp (Zq Zy (qv 0) (qv 1)))) Z6)
    (Zf (Zp Zd))),?_⟩
  refine L2.let2 ?_;intro I;refine ⟨_,rfl,_,rfl,a,_,rfl,.inl q,_,_,rfl,rfl,_,rfl,k4 (fun h=>?_) (fun h=>?_)⟩
  ·have G:j < D.length:=by
    grind
   exact ⟨_,rfl,_,rfl,a,_,_,_,rfl,rfl,q,Yh (by rw [Qaj,Qaf G];rfl),k _⟩
  ·exact k 0
def x9(K:Af):Sp:=fun vs H Q _=>∃(D:Int) (C q:Nat),vs=[.int D,.int (C:Int),.int (q:Int)]/\C<=1000/\1<=q/\q<=1000003/\∀p (G:Ak) H',H p=none->H' p=some (.lst (G.map V.int))->G.length=C->(∀x∈G,0<=x/\x < (q:Int))->ZA H H'->Q (.ref p) H'
theorem xA:YA P w K mg base CX0 1 t.ma t.md ["cell","many","most"] (x9 K):=by
 refine T.cy.F.ok Z9 (fun vs H Q E h=>?_) (fun cdv A outer s H vs Q E hr h=>?_)
 ·obtain ⟨_,_,_,rfl,_⟩:=h
  rfl
 ·obtain ⟨O,C,q,rfl,hmany,hm1,hm2,k⟩:=h
  have hu:=ZT hr;refine ⟨_,@QSs.out _ _ _ (Zb (Zn (i:=3) Z9.nd rfl (Or.inl rfl) (X7 Ze))
    (Zb (Zn (i:=4) Z9.nd rfl (Or.inl rfl) (Zv zl (by rfl) T.su uZ (Zk (qv 0) Ze)))
    (Zb (Ye (Zz op_ge (qv 4) (Zm Zff Zd Zd) (ZF _))
    (Zb (Zn (i:=4) Z9.nd rfl (Or.inl rfl) (Zm j6 (qv 4) (Zm Zff Zd Zd)))
    (Zb (YB Qbm rfl (YU rfl T.bf (Zk (qv 1) Ze)) (ZM (i:=5) Z9.nd rfl (Or.inl rfl))
    (Zb (Y3 (Xl Qbf Qbk Qbl Yi (qv 3) (Zk (Zm ZU (qv 4) (qv 2)) Ze)))
    (Zf (Zn (i:=4) Z9.nd rfl (Or.inl rfl) (Zm Yq (qv 4) (qv 2))))))
    (Zf (Zp (qv 3))))) Z6)
    (Zb (Zn (i:=6) Z9.nd rfl (Or.inl rfl) (Zm ZU (Zm Yy (Zm XE (qv 0) Zd) Zd) Zd))
    (Zb (Zn (i:=7) Z9.nd rfl (Or.inl rfl) (Zm ZU (Zm Yy (Zm XE (qv 0) Zd) Zd) Zd))
    (Zb (YB Qbm rfl (YU rfl T.bf (Zk (qv 1) Ze)) (ZM (i:=5) Z9.nd rfl (Or.inl rfl))
    (Zb (Zn (i:=6) Z9.nd rfl (Or.inl rfl) (Zm ZU (Zm Yy (Zm Yy (Zm XE (qv 6) Zd) (qv 7)) (qv 5)) Zd))
    (Zb (Zn (i:=7) Z9.nd rfl (Or.inl rfl) (Zm ZU (Zm Yy (Zm XE (qv 7) (qv 7)) (qv 6)) Zd))
    (Zf (Y3 (Xl Qbf Qbk Qbl Yi (qv 3) (Zk (Zm ZU (Zm Yq (Zm Yy (qv 6) (qv 7)) Zd) (qv 2)) Ze)))))))
    (Zf (Zp (qv 3))))))))),?_⟩
  try dsimp only [L2.cxK,L2.cxK2]
  refine L2.let7 ?_;intro U6 U5 U4 U3 U2 U1;refine ⟨Zgi,fun p hp=>?_⟩;refine ⟨_,rfl,_,rfl,?_⟩;refine ⟨_,rfl,_,_,rfl,rfl,⟨by decide,by decide,by decide⟩,_,_,rfl,rfl,_,rfl,k4 (fun _=>?_) (fun _=>?_)⟩
  ·refine ⟨_,rfl,_,_,rfl,rfl,⟨by decide,by decide,by decide⟩,_,_,rfl,rfl,?_⟩
   refine ⟨_,rfl,(C:Int),rfl,by lia,by lia,Jm (fun i σ H2=>∃(r:Int) (u:Option V) (I:Ak),σ=[some (.int O),some (.int C),some (.int q),some (.ref p),some (.int r),u,none,none]/\H2 p=some (.lst (I.map V.int))/\I.length=i/\(∀x∈I,0<=x/\x < (q:Int))/\ZA H H2/\i<=C) ⟨_,none,[],rfl,Za,rfl,(fun _ h=>nomatch h),Zc hp,Qba _⟩ ?_ ?_⟩
   ·rintro i σ H2 hi ⟨r,u,I,rfl,h2,hl,hb,Y,Z⟩
    rw [Qat] at hi;refine ⟨_,rfl,.inl ⟨rfl,_,SqL.of h2⟩,_,rfl,_,rfl,_,_,rfl,rfl,(by show (0:Int) < q;lia),p,_,_,rfl,rfl,h2,?_,?_⟩
    ·rw [Qac,hl]
     exact Zo (by lia)
    ·refine ⟨_,rfl,_,rfl,_,_,rfl,rfl,.of (by lia) (by lia),_,_,I++[r % q],rfl,?_,?_,?_,?_,hi⟩
     ·rw [Za,Qa6]
      rfl
     ·rw [Qae,hl]
      rfl
     ·exact wb hb ⟨Qb1 _ (by lia),Qbp _ (by lia)⟩
     ·exact Ys Y hp
   ·rintro σ H2 ⟨r,u,I,rfl,h2,hl,hb,Y,Z⟩
    rw [Qat] at hl;exact ⟨_,rfl,k p I H2 hp h2 hl hb Y⟩
  ·refine ⟨_,rfl,_,_,rfl,rfl,.inr (.inr ⟨by decide,by decide⟩),_,_,rfl,rfl,_,_,rfl,rfl,(by show (0:Int) < 2147483629;decide),?_⟩
   refine ⟨_,rfl,_,_,rfl,rfl,.inr (.inr ⟨by decide,by decide⟩),_,_,rfl,rfl,_,_,rfl,rfl,(by show (0:Int) < 1000000007;decide),?_⟩;refine ⟨_,rfl,(C:Int),rfl,by lia,by lia,Jm (fun i σ H2=>∃(r one G:Int) (u:Option V) (I:Ak),σ=[some (.int O),some (.int C),some (.int q),some (.ref p),some (.int r),u,some (.int one),some (.int G)]/\0<=one/\one < 2147483629/\0<=G/\G < 1000000007/\H2 p=some (.lst (I.map V.int))/\I.length=i/\(∀x∈I,0<=x/\x < (q:Int))/\ZA H H2/\i<=C) ⟨_,_,_,none,[],rfl,Qb1 _ (by decide),Qbp _ (by decide),Qb1 _ (by decide),Qbp _ (by decide),Za,rfl,(fun _ h=>nomatch h),Zc hp,Qba _⟩ ?_ ?_⟩
   ·rintro i σ H2 hi ⟨r,one,G,u,I,rfl,o0,o1,t0,t1,h2,hl,hb,Y,Z⟩
    rw [Qat] at hi;refine ⟨_,rfl,_,_,rfl,rfl,.inr (.inr ⟨by decide,by decide⟩),_,rfl,_,_,rfl,rfl,_,rfl,_,_,rfl,rfl,_,_,rfl,rfl,(by show (0:Int) < 2147483629;decide),?_⟩;dsimp only;generalize h1e:(one * 69069 + G + (0 + (i:Int))) % 2147483629=D;have p0:0<=D:=by lia
    have p1:D < 2147483629:=by lia
    refine ⟨_,rfl,_,rfl,_,_,rfl,rfl,.inr (.inl ⟨by lia,by lia⟩),_,rfl,_,_,rfl,rfl,_,_,rfl,rfl,(by show (0:Int) < 1000000007;decide),?_⟩;dsimp only;generalize h2e:(G * G + D) % 1000000007=J;have q0:0<=J:=by lia
    have q1:J < 1000000007:=by lia
    refine ⟨_,rfl,.inl ⟨rfl,_,SqL.of h2⟩,_,rfl,_,rfl,_,_,rfl,rfl,_,_,rfl,rfl,.of (by decide) (by decide),_,rfl,_,_,rfl,rfl,(by show (0:Int) < q;lia),p,_,_,rfl,rfl,h2,?_,?_⟩
    ·rw [Qac,hl]
     exact Zo (by lia)
    ·refine ⟨_,D,J,_,I++[(D + J) / 16 % q],rfl,p0,p1,q0,q1,?_,?_,?_,?_,hi⟩
     ·rw [Za,Qa6]
      rfl
     ·rw [Qae,hl]
      rfl
     ·exact wb hb ⟨Qb1 _ (by lia),Qbp _ (by lia)⟩
     ·exact Ys Y hp
   ·rintro σ H2 ⟨r,one,G,u,I,rfl,o0,o1,t0,t1,h2,hl,hb,Y,Z⟩
    rw [Qat] at hl;exact ⟨_,rfl,k p I H2 hp h2 hl hb Y⟩
def JL(K:Af):Sp:=fun vs H Q _=>∃q:Int,vs=[.int q]/\0<=q/\∀p (x y:Int) H',(0<=x/\x < 1000)->(0<=y/\y < 1000)->x≠y->H' p=some (.tup [.int x,.int y])->ZA H H'->Q (.ref p) H'
theorem JM:YA P w K mg base CX0 1 t.fu t.fw ["cell"] (JL K):=by
 refine T.bp.F.ok YH (fun vs H Q E h=>?_) (fun G A outer s H vs Q E hr h=>?_)
 ·obtain ⟨_,rfl,_⟩:=h
  rfl
 ·obtain ⟨q,rfl,Z,k⟩:=h
  have hu:=ZT hr;refine ⟨_,@QSs.out _ _ _ (Zb (Zn (i:=1) YH.nd rfl (Or.inl rfl) (Zm ZU (qv 0) Zd))
    (Zb (Ye (Zz Xv (qv 1) Zd (ZF _))
    (Zf (Zp (ZI (Zk (Zm ZU (Zm Yq (qv 0) Zd) Zd) (Zk (Zm Yy Zd (Zm ZU (Zm Yq (qv 0) Zd) Zd)) Ze))))) Z6)
    (Zb (Zn (i:=2) YH.nd rfl (Or.inl rfl) (Zm ZU (Zm Yq (qv 0) Zd) Zd))
    (Zf (Zp (ZI (Zk (qv 2) (Zk (Zm qd (qv 2) (Zm ZU (Zm kz (Zm Yy Zd (Zm XE Zd (Zm ZU (Zm Yq (qv 0) Zd) Zd))) (qv 1)) Zd)) Ze)))))))),?_⟩
  refine L2.let4 ?_;intro Y O U1;have D:0<=q % 10/\q % 10 < 10:=⟨by lia,by lia⟩;refine ⟨_,rfl,_,_,rfl,rfl,(by show (0:Int) < 10;decide),Zi ?_⟩;refine ⟨_,rfl,rfl,_,rfl,k4 (fun hb=>?_) (fun hb=>?_)⟩
  ·refine ⟨_,rfl,_,_,rfl,rfl,.of (by decide) (by decide),_,_,rfl,rfl,(by show (0:Int) < 488;decide),_,rfl,_,_,rfl,rfl,.of (by decide) (by decide),_,_,rfl,rfl,(by show (0:Int) < 488;decide),_,_,rfl,rfl,zi,fun p hp=>k p _ _ _ ⟨?_,?_⟩ ⟨?_,?_⟩ ?_ Za (Zc hp)⟩ <;> lia
  ·have C:q % 10 < 9:=by
    grind
   refine ⟨_,rfl,_,_,rfl,rfl,.of (by decide) (by decide),_,_,rfl,rfl,(by show (0:Int) < 512;decide),Zi ?_⟩;refine ⟨_,rfl,_,rfl,_,rfl,_,_,rfl,rfl,.of (by decide) (by decide),_,_,rfl,rfl,(by show (0:Int) < 512;decide),_,_,rfl,rfl,.inr (.inl ⟨by lia,by lia⟩),_,_,rfl,rfl,_,rfl,_,_,rfl,rfl,⟨D.1,by lia,by lia⟩,_,_,rfl,rfl,(by show (0:Int) < 512;decide),_,_,rfl,rfl,zi,fun p hp=>?_⟩;obtain ⟨J,I⟩:=Ze5 (o:=q / 10 % 512) (x:=q / 5120 % 512) (by lia) (by lia) D.1 C;exact k p _ _ _ ⟨by lia,by lia⟩ J I.symm Za (Zc hp)
def gQ(K:Af):Sp:=fun vs H Q _=>∃(q:Nat) (y:Str) (x z:Int),vs=[.int (q:Int),.str y,.int x,.int z]/\q < 7/\∀p u v H',H' p=some (.tup [.ref u,.ref v])->H' u=some (.tup ((YJ q x).flat [.str y] [.int 0] [.int 0]))->H' v=some (.tup ((YJ q z).flat [.str y] [.int 0] [.int 0]))->ZA H H'->Q (.ref p) H'
theorem gR:YA P w K mg base CX0 1 t.rn t.ro ["word","name","one","other"] (gQ K):=by
 refine T.fj.F.ok zh (fun vs H Q E h=>?_) (fun Z A outer s H vs Q E hr h=>?_)
 ·obtain ⟨_,_,_,_,rfl,_⟩:=h
  rfl
 ·obtain ⟨q,y,x,z,rfl,hkd,k⟩:=h
  have hu:=ZT hr;refine ⟨_,@QSs.out _ _ _ (Zb (Ye (Zz Xv (qv 0) Zd (ZF _))
    (Zf (Zp (ZI (Zk (ZI (Zk (qv 2) Ze)) (Zk (ZI (Zk (qv 3) Ze)) Ze))))) Z6)
    (Zb (Ye (Zz Xv (qv 0) Zd (ZF _))
    (Zf (Zp (ZI (Zk (ZI (Zk Zx (Zk (qv 2) (Zk (qv 1) Ze)))) (Zk (ZI (Zk Zx (Zk (qv 3) (Zk (qv 1) Ze)))) Ze))))) Z6)
    (Zb (Zn (i:=4) zh.nd rfl (Or.inl rfl) (Zq Zy (X7 (Zk Zx (Zk Zx (Zk Zx (Zk Zx (Zk Zx Ze)))))) (Zm j6 (qv 0) Zd)))
    (Zf (Zp (ZI (Zk (ZI (Zk (qv 4) (Zk (qv 1) (Zk (qv 2) Ze)))) (Zk (ZI (Zk (qv 4) (Zk (qv 1) (Zk (qv 3) Ze)))) Ze)))))))),?_⟩
  refine L2.let4 ?_;intro U3 U2 U1;have C:∀(D x2:A0) (H1:Hp) (J:ZA H H1),D=(YJ q x).flat [.str y] [.int 0] [.int 0]->x2=(YJ q z).flat [.str y] [.int 0] [.int 0]->∀a,H1 a=none->∀b,upd H1 a (.tup D) b=none->∀p,upd (upd H1 a (.tup D)) b (.tup x2) p=none->Q (.ref p) (upd (upd (upd H1 a (.tup D)) b (.tup x2)) p (.tup [.ref a,.ref b])):=by
   intro D x2 H1 J e1 e2 a ha b hb p hp;subst e1 e2;have O:=Zc (o:=.tup ((YJ q x).flat [.str y] [.int 0] [.int 0])) ha;have I:=Zc (o:=.tup ((YJ q z).flat [.str y] [.int 0] [.int 0])) hb;have G:=Zc (o:=.tup [.ref a,.ref b]) hp;exact k p a b _ Za (G _ _ (I _ _ Za)) (G _ _ Za) (J.trans (O.trans (I.trans G)))
  refine ⟨_,rfl,rfl,_,rfl,k4 (fun hb=>?_) (fun hb=>?_)⟩
  ·have e:q=0:=by
    grind
   subst e;exact ⟨_,rfl,Zdc,fun a ha=>⟨_,rfl,Zdc,fun b hb=>⟨zi,fun p hp=>C [.int x] [.int z] H (ZA.refl H) rfl rfl a ha b hb p hp⟩⟩⟩
  have h0:q≠0:=fun z=>hb (Qao (by rw [z];rfl));refine ⟨_,rfl,rfl,_,rfl,k4 (fun hb=>?_) (fun hb=>?_)⟩
  ·have e:q=1:=by
    grind
   subst e;exact ⟨_,rfl,_,rfl,Zjc,fun a ha=>⟨_,rfl,_,rfl,Zjc,fun b hb=>⟨zi,fun p hp=>C [.str "sub",.int x,.str y] [.str "sub",.int z,.str y] H (ZA.refl H) rfl rfl a ha b hb p hp⟩⟩⟩
  have h1:q≠1:=fun z=>hb (Qao (by rw [z];rfl));have Y:atI [V.str "add",V.str "sub",V.str "odd",V.str "or",V.str "and"] ((q:Int) - 2)=some (V.str (WS q)):=by
   rw [show (q:Int) - 2=((q - 2:Nat):Int) by lia];refine Yh ?_;unfold WS;obtain ⟨j,hj⟩:∃j,q - 2=j:=⟨_,rfl⟩;rw [hj]
   match j,(show j < 5 by lia) with
   | 0,_=>rfl
   | 1,_=>rfl
   | 2,_=>rfl
   | 3,_=>rfl
   | 4,_=>rfl
  refine ⟨by decide,fun l hl=>⟨_,rfl,_,_,rfl,rfl,l,_,_,_,rfl,rfl,SqL.of Za,Y,Zi ?_⟩⟩;have ep:∀x:Int,(YJ q x).flat [.str y] [.int 0] [.int 0]=[.str (WS q),.str y,.int x]:=fun x=>by
   unfold YJ;rw [Qaw h0,Qaw h1]
   rfl
  exact ⟨_,rfl,_,rfl,_,rfl,Zjc,fun a ha=>⟨_,rfl,_,rfl,_,rfl,Zjc,fun b hb=>⟨zi,fun p hp=>C _ _ _ (Zc hl) (ep x).symm (ep z).symm a ha b hb p hp⟩⟩⟩
def ju (K:Af):Sp:=fun vs H Q _=>∃(q:Int) (tw D:Au) (C:A0) (es:Ai),vs=[.int q,.ref tw,.ref D]/\H tw=some (.tup C)/\H D=some (.tup (es.map V.str))/\es.length<=2/\C.length<=50/\∀p H',H' p=some (.tup ((if q % 2=1 then [V.str "not"] else [])++es.foldl (fun C e=>V.str "odd" :: V.str e::C) C))->ZA H H'->Q (.ref p) H'
theorem jv:YA P w K mg base CX0 1 t.mz t.nc ["cell","words","more"] (ju K):=by
 refine T.aw.F.ok Wa (fun vs H Q E h=>?_) (fun cdv A outer s H vs Q E hr h=>?_)
 ·obtain ⟨_,_,_,_,_,rfl,_⟩:=h
  rfl
 ·obtain ⟨G,tw,Y,C,es,rfl,htw,J,he2,hwl,k⟩:=h
  have hu:=ZT hr;refine ⟨_,@QSs.out _ _ _ (Zb (YB Qbm rfl (Wf (qv 2)) (ZM (i:=3) Wa.nd rfl (Or.inl rfl))
    (Zf (Zn (i:=1) Wa.nd rfl (Or.inl rfl) (Zm Jd (ZI (Zk Zx (Zk (qv 3) Ze))) (qv 1)))))
    (Zb (Ye (Zz Xv (Zm ZU (qv 0) Zd) Zd (ZF _))
    (Zf (Zp (Zm Jd (ZI (Zk Zx Ze)) (qv 1)))) Z6)
    (Zf (Zp (qv 1))))),?_⟩
  refine L2.let3 ?_;intro U2 U1;have fl:∀i,((es.take i).foldl (fun C e=>V.str "odd" :: V.str e::C) C).length=C.length + 2 * (es.take i).length:=fun i=>by
   have go:∀(l:Ai) (C:A0),(l.foldl (fun C e=>V.str "odd" :: V.str e::C) C).length=C.length + 2 * l.length:=by
    intro l
    induction l with
    | nil=>intro C;rfl
    | cons e l ih =>
     intro C;rw [Qdx,ih];show C.length + 1 + 1 + 2 * l.length=C.length + 2 * (l.length + 1);lia
   exact go _ _
  refine ⟨_,rfl,Y,rfl,⟨_,SqT.of J⟩,qc (K:=K) (a:=Y) (xs:=es.map V.str) (fun i σ H'=>∃(D:Au) (u3:Option V),σ=[some (.int G),some (.ref D),some (.ref Y),u3]/\H' D=some (.tup ((es.take i).foldl (fun C e=>V.str "odd" :: V.str e::C) C))/\ZA H H') ⟨tw,none,rfl,htw,ZA.refl H⟩ (fun i σ H' _ ⟨_,_,_,_,s⟩=>SqT.of (s _ _ J)) ?_ ?_⟩
  ·rintro i x σ H1 hx ⟨D,u3,rfl,h1,O⟩
   obtain ⟨e,rfl,he⟩:=qG hx;have hl:=fl i;rw [Qa0] at hl;refine Zi ⟨_,rfl,zi,fun q I=>⟨_,rfl,q,D,_,_,rfl,rfl,Za,Zc I _ _ h1,Qav (Zo (by rw [hl];show 2 + _<=1000;lia)),fun p H2 hp Z=>Zi ⟨p,_,rfl,?_,O.trans ((Zc I).trans Z)⟩⟩⟩;rw [hp,take_snoc he,Qc2]
   rfl
  ·rintro σ H1 ⟨D,u3,rfl,h1,O⟩
   have hl:=fl es.length;rw [Qac] at h1;rw [Qbi] at h1 hl;refine ⟨_,rfl,_,_,rfl,rfl,(by show (0:Int) < 2;decide),rfl,_,rfl,k4 (fun hb=>?_) (fun hb=>?_)⟩
   ·have e:G % 2=1:=by
     grind
    rw [Qa1 e] at k;exact ⟨by decide,fun q I=>⟨_,rfl,q,D,_,_,rfl,rfl,Za,Zc I _ _ h1,Qav (Zo (by rw [hl];show 1 + _<=1000;lia)),fun p H2 hp Z=>k p H2 hp (O.trans ((Zc I).trans Z))⟩⟩
   ·rw [Qaw (fun e=>hb (Qao (show V.int (G % 2)=V.int 1 by rw [e])))] at k
    exact ⟨_,rfl,k D H1 h1 O⟩
def ki(K:Af):Sp:=fun vs H Q _=>∃(nm p:Au) (ys:Ai) (cs:Ak) (g:Str->Int),vs=[.ref nm,.ref p]/\H nm=some (.tup (ys.map V.str))/\H p=some (.tup (cs.map V.int))/\ys.length<=3/\cs.length<=1000000/\(∀c∈cs,0<=c) /\
 (∀(i:Nat) (y:Str),ys[i]?=some y->hor ((cs.map fun c=>c / 2 ^ i % 2).reverse)=g y)/\∀d kvs H',H d=none->H' d=some (.dK kvs)->Tab kvs ys g->ZA H H'->Q (.ref d) H'
theorem kj:YA P w K mg base CX0 2 t.pd t.pe ["names","letters"] (ki K):=by
 have q:=G7 P base T TB;refine T.dw.F.ok Wb (fun vs H Q E h=>?_) (fun cdv A outer s H vs Q E hr h=>?_)
 ·obtain ⟨_,_,_,_,_,rfl,_⟩:=h
  rfl
 ·obtain ⟨nm,p,ys,cs,g,rfl,hn,hp,hy3,hcl,G,hg,k⟩:=h
  have hu:=ZT hr;refine ⟨_,@QSs.out _ _ _ (Zb (Zn (i:=2) Wb.nd rfl (Or.inl rfl) qk)
    (Zb (YB Qbm rfl (zx rfl T.ic (qv 0)) (zy rfl (ZM (i:=3) Wb.nd rfl (Or.inr rfl)) (ZM (i:=4) Wb.nd rfl (Or.inl rfl)))
    (Zf (XM hu (qv 2) (qv 4) (Zl q (hr.mono (by decide)) rfl T.az.m T.az.F.kp T.az.b .nil ZG (Zk (Z8 Z5 (by rfl) T.ak ZX (Zk (Y4 ({}:Yj (Zg Ge) _ ["names","letters","words","place","name"] "letter" ["place"] [3]) (Wf (qv 1)) (fun _ _ _ _=>Xx) (fun _ _ _ _=>(Zm Xw (Zm xH (qv 0) (qv 1)) Zd))) Ze)) Ze)) rfl)))
    (Zf (Zp (qv 2))))),?_⟩
  refine L2.let3 ?_;intro U2 U1;intro d hd;have Y:=Zc (o:=.dK []) hd;refine ⟨_,rfl,nm,_,rfl,SqT.of (Y _ _ hn),?_⟩;refine z5 (K:=K) (a:=nm) (xs:=ys.map V.str) (j:=3) (k:=4) (fun i σ H2=>∃u v kvs,σ=[some (.ref nm),some (.ref p),some (.ref d),u,v]/\H2 d=some (.dK kvs)/\Tab kvs (ys.take i) g/\ZA H H2) ⟨none,none,[],rfl,Za,.nil,Y⟩ (fun i σ H2 _ ⟨_,_,_,_,_,_,C⟩=>SqT.of (C _ _ hn)) ?_ ?_
  ·rintro i x σ H2 t hx ht ⟨u,v,kvs,rfl,h2,T,C⟩
   obtain ⟨y,rfl,I⟩:=qG hx;have Z:=Zc (o:=.tup [.int (i:Int),.str y]) ht;have J:=C.trans Z;refine ⟨_,rfl,p,rfl,⟨_,SqT.of (J _ _ hp)⟩,jM (fI fun c=>V.int (Builtin.bitAnd (c / 2 ^ ((i:Nat):Int).toNat) 1)) (SqT.of (J _ _ hp)) (by rw [Qac];exact Qav (YV (by lia))) (fun w hw R hR=>?_) (fun l hl=>?_)⟩
   ·obtain ⟨c,_,rfl⟩:=Qa2.mp hw
    exact ⟨_,rfl,_,rfl,_,_,rfl,rfl,Qch i,_,_,rfl,rfl,hR⟩
   have e1:(cs.map V.int).map (fI fun c=>V.int (Builtin.bitAnd (c / 2 ^ ((i:Nat):Int).toNat) 1))=(cs.map fun c=>c / 2 ^ i % 2).map V.int:=by
    rw [map_fI,Qb4];apply Qcl;intro c hc;show V.int _=V.int _;rw [Qat,Zif (div_nn (G c hc) i)]
   rw [e1];have v2:=Zc (o:=.lst ((cs.map fun c=>c / 2 ^ i % 2).map V.int)) hl;refine ⟨l,_,rfl,.inl ⟨SqL.of Za,fun t2 D=>⟨t2,_,rfl,SqT.of Za,?_⟩⟩⟩;have v3:=Zc (o:=.tup ((cs.map fun c=>c / 2 ^ i % 2).map V.int)) D;have O:=Z.trans (v2.trans v3);have few:=T.few;rw [Qa0] at few;refine ⟨_,rfl,_,rfl,d,_,rfl,gb.k (k:=.inr y) (O _ _ h2) (YV (by lia)),_,_,_,rfl,Za,?_,Ys (C.trans O) hd⟩;rw [take_snoc I];refine (T.put y _).same fun z hz=>?_
   by_cases e:z=y
   ·rw [Qa1 e,e,<-hg i y I]
   ·rw [Qaw e]
  ·rintro σ H2 ⟨u,v,kvs,rfl,h2,T,C⟩
   rw [Qac,Qbi] at T;exact ⟨_,rfl,k d kvs H2 hd h2 T C⟩
def WJ(K:Af):Sp:=fun vs H Q _=>∃(m a lt:Au) (nm:Ai) (b:Nat) (nx:Ad) (ot:Ax) (n:Nat) (S L:Aj) (W:Option (Aj)) (C v:V) (q:Bool),vs=[.ref m,.ref a,.ref lt,C,v]/\M4 H m nm b nx ot/\Runs nx ot n/\Rd H a (.dK (twK S))/\S.Nodup/\(∀s∈S,s < nx.length)/\S.length<=1000000/\H lt=some (.tup (L.map YL))/\(∀l∈L,l < 2 ^ n)/\L.length<=1000/\zg H C W/\Xs q v/\(∀r∈ot,∀x∈r,Xs q x) /\
 ∀p H',H p=none->H' p=some (.dK (twK (goB (mN nx) (mB ot v) W S L)))->SmF H H'->Q (.ref p) H'
theorem WK:YA P w K mg base CX0 2 t.et t.eu ["machine","states","letters","well","wanted"] (WJ K):=by
 have C:=yC P base T TB;refine T.ah.F.ok Y1 (fun vs H Q E h=>?_) (fun cdv A outer s H vs Q E hr h=>?_)
 ·obtain ⟨_,_,_,_,_,_,_,_,_,_,_,_,_,_,rfl,_⟩:=h
  rfl
 ·obtain ⟨m,a,lt,nm,b,nx,ot,n,S,L,W,wv,v,tr,rfl,M,R,ha,hnd,hS,hSl,hlt,hL,hLl,hw,hv,hk,k⟩:=h
  have hu:=ZT hr;refine ⟨_,@QSs.out _ _ _ (Zb (Zn (i:=5) Y1.nd rfl (Or.inl rfl) qk)
    (Zb (YB Qbm rfl (wa (qv 1)) (ZM (i:=6) Y1.nd rfl (Or.inr rfl))
    (Zf (Ye (X6 (Zv (Zay rfl) (by rfl) T.aac bt_any (Zk (Y4 ({}:Yj (Zg Y5) _ ["machine","states","letters","well","wanted","going","state"] "letter" ["machine","state","well","wanted"] [0,6,3,4]) (Wf (qv 2)) (fun _ _ _ _=>Xx) (fun _ _ _ _=>(Zl C (hr.mono (by decide)) rfl T.dn.m T.dn.F.kp T.dn.b .nil ZG (Zk (qv 1) (Zk (qv 2) (Zk (qv 0) (Zk (qv 3) (Zk (qv 4) Ze)))))))) Ze)))
    (Zf (XM hu (qv 5) (qv 6) xg rfl)) Z6)))
    (Zf (Zp (qv 5))))),?_⟩
  try dsimp only [L2.cxK,L2.cxK2]
  refine L2.let3 ?_;intro U2 U1;refine fun p hp=>?_;have s1:=SmF.of (Zc (o:=.dK []) hp);refine Zi ?_;have J:=s1.rd ha;refine ⟨_,rfl,a,_,rfl,J,fun o ho=>z8 (kvs:=twK S) (fun i σ H'=>∃(u6:Option V),σ=[some (.ref m),some (.ref a),some (.ref lt),some wv,some v,some (.ref p),u6]/\H' a=some (.frz o (.dK (twK S)))/\H' p=some (.dK (twK (goB (mN nx) (mB ot v) W (S.take i) L)))/\SmF H H') ⟨none,rfl,Za,?_,s1.trans (SmF.frz J ho)⟩ (fun i σ H' _ ⟨_,_,h,_⟩=>h) ?_ ?_⟩
  ·have G:p≠a:=fun z=>by
    subst z;rcases ha with z | ⟨_,z⟩ <;> rw [hp] at z <;> cases z
   rw [Zh G,Za]
   rfl
  ·rintro i q σ H1 hq ⟨u6,rfl,h1,h2,I⟩
   unfold twK at hq;rw [Qaj] at hq;obtain ⟨s,hs,rfl⟩:=Qb2.mp hq;have Z:=Qai hs;have D:=I.tup hlt;refine Zi ⟨_,rfl,lt,rfl,⟨_,SqT.of D⟩,jM (xs:=L.map YL) (fI fun z=>V.bl (gw (mN nx) (mB ot v) W s z.toNat)) (SqT.of D) (by rw [Qac];exact Qav (Zo hLl)) (fun x hx R' hR=>?_) (fun l hl=>?_)⟩
   ·obtain ⟨y,hy,rfl⟩:=Qa2.mp hx
    have e:fI (fun z=>V.bl (gw (mN nx) (mB ot v) W s z.toNat)) (YL y)=V.bl (gw (mN nx) (mB ot v) W s y):=by
     show V.bl (gw (mN nx) (mB ot v) W s (y:Int).toNat)=_;rw [Qat]
    rw [e] at hR;exact ⟨_,rfl,_,rfl,_,rfl,_,rfl,_,rfl,m,nm,b,nx,ot,n,s,y,W,wv,v,tr,rfl,M.smf I,R,hS s Z,hL y hy,I.well hw,hv,hk,hR⟩
   ·refine ⟨l,L.map (gw (mN nx) (mB ot v) W s),rfl,SqL.of (by rw [Za,Qb4,Qb4];congr 2),_,rfl,?_⟩
    have sl:=Zc (o:=.lst (List.map (fI fun z=>V.bl (gw (mN nx) (mB ot v) W s z.toNat)) (List.map YL L))) hl;have s3:=I.trans (SmF.of sl);have O:=sl _ _ h1;have Y:=sl _ _ h2;generalize upd H1 l (.lst (List.map (fI fun z=>V.bl (gw (mN nx) (mB ot v) W s z.toNat)) (List.map YL L)))=H2 at *;have ea:(L.map (gw (mN nx) (mB ot v) W s)).any id=L.any (gw (mN nx) (mB ot v) W s):=by rw [List.any_map];rfl
    have es:=Ze3 (nx:=mN nx) (ok:=mB ot v) (W:=W) (L:=L) hs;rw [ea];have G:a≠p:=fun z=>by rw [z,h2] at h1;cases h1
    refine k4 (fun hb=>?_) (fun hb=>?_)
    ·rw [Qa1 hb] at es
     refine ⟨_,rfl,_,rfl,p,_,rfl,gb.k (k:=.inl (s:Int)) Y (by rw [qR];have h3:=Zi1 (nx:=mN nx) (ok:=mB ot v) (W:=W) (S:=S.take i) (L:=L);rw [Qa0] at h3;exact YV (by lia)),_,rfl,by rw [Zh G];exact O,?_,s3.put hp⟩;rw [Za,Zcj,es];exact congrArg (fun z=>some (HO.dK (twK z))) (Qaw (Zi0 hnd hs))
    ·rw [Qaw hb,Qbq] at es
     exact ⟨_,rfl,O,by rw [es];exact Y,s3⟩
  ·rintro σ H1 ⟨u6,rfl,h1,h2,I⟩
   rw [qR,Qbi] at h2;exact ⟨_,rfl,k p H1 hp h2 I⟩
def km(K:Af):Sp:=fun vs H Q _=>∃(k:Key),vs=[kV k]/\Q (.int (XS k)) H
theorem ko:YA P w K mg base CX0 2 t.pf t.ph ["word"] (km K):=by
 have C:=xy P base T TB;have q:=GL P base T TB;refine T.dy.F.ok vX (fun vs H Q E h=>?_) (fun D A outer s H vs Q E hr h=>?_)
 ·obtain ⟨_,rfl,_⟩:=h
  rfl
 ·obtain ⟨kk,rfl,k⟩:=h
  have hu:=ZT hr;refine ⟨_,@QSs.out _ _ _ (Zf (Zp (Zm Yy (Zl C (hr.mono (by decide)) rfl T.cu.m T.cu.F.kp T.cu.b .nil ZG (Zk (qv 0) Ze)) (Zl q (hr.mono (by decide)) rfl T.cb.m T.cb.F.kp T.cb.b .nil ZG (Zk (qv 0) Ze))))),?_⟩;exact ⟨_,rfl,kk,rfl,_,rfl,kk,rfl,_,_,rfl,rfl,k⟩
def gS(K:Af):Sp:=fun vs H Q _=>∃(y:Str),vs=[.str y]/\y.length<=100000/\∀H',ZA H H'->Q (.bl (decide (y∉Yb/\NmL y))) H'
omit T TB in
theorem Ze9{y:Str}:NmL y↔y.length<=8/\xZ y Zkr:=by
 constructor
 ·intro h
  refine ⟨h.1.2,fun z=>?_,h.2⟩;have h1:=h.1.1;rw [len_signs,z] at h1;exact absurd h1 (by decide)
 ·intro h
  refine ⟨⟨?_,h.1⟩,h.2.2⟩;rw [len_signs];cases e:y.cps.toList with
  | nil=>exact absurd e h.2.1
  | cons a r=>exact Nat.succ_le_succ (Qba _)
theorem gT:YA P w K mg base CX0 2 t.rp t.rq ["text"] (gS K):=by
 have D:=jq P base T TB;have q:=GJ P base T TB;have C:=xw P base T TB;refine T.fk.F.ok gN (fun vs H Q E h=>?_) (fun J A outer s H vs Q E hr h=>?_)
 ·obtain ⟨_,rfl,_⟩:=h
  rfl
 ·obtain ⟨y,rfl,hl,k⟩:=h
  have hu:=ZT hr;refine ⟨_,@QSs.out _ _ _ (Zb (Ye (uQ (jI (X6 (Zl C (hr.mono (by decide)) rfl T.cq.m T.cq.F.kp T.cq.b .nil ZG (Zk (qv 0) Ze))) (kC (X6 (Zl q (hr.mono (by decide)) rfl T.bz.m T.bz.F.kp T.bz.b .nil ZG (Zk (qv 0) Ze))))))
    (Zf (Zp xg)) Z6)
    (Zf (Zp (uP (Xk op_le (Zv Gs (by rfl) T.av YT (Zk (qv 0) Ze)) (XG (v:=.int 8) rfl T.ti ⟨_,rfl⟩) (ZF _)) (kE (Zl D (hr.mono (by decide)) rfl T.di.m T.di.F.kp T.di.b .nil ZG (Zk (qv 0) (Zk (XG (v:=.str "abcdefghijklmnopqrstuvwxyz") rfl T.vr ⟨_,rfl⟩) Ze)))))))),?_⟩
  refine L2.let2 ?_;intro O
  by_cases h1:y∈Yb
  ·have e:decide (y∉Yb/\NmL y)=false:=Qau fun z=>z.1 h1
   rw [e] at k;refine ⟨_,rfl,y,rfl,_,rfl,?_⟩
   by_cases h2:y∈Wm
   ·rw [Qao h2]
    exact Wk (Wk (k H (ZA.refl H)))
   ·rw [Qau h2]
    have G:y∈ZR:=((v7 y).mp h1).resolve_left h2;refine YZ ⟨_,rfl,.inr y,rfl,_,rfl,?_⟩;rw [show clK (.inr y)=true from Qao G];exact Wk (k H (ZA.refl H))
  ·have h2:y∉Wm:=fun z=>h1 ((v7 y).mpr (.inl z))
   have G:y∉ZR:=fun z=>h1 ((v7 y).mpr (.inr z));refine ⟨_,rfl,y,rfl,_,rfl,?_⟩;rw [Qau h2];refine YZ ⟨_,rfl,.inr y,rfl,_,rfl,?_⟩;rw [show clK (.inr y)=false from Qau G];refine YZ ?_;refine ⟨_,rfl,y,rfl,Qa8 hl (by decide),_,_,rfl,rfl,_,rfl,?_⟩
   by_cases I:y.length<=8
   ·rw [Qao (show (y.length:Int)<=8 by lia)]
    refine Wk ⟨_,rfl,y,Zkr,rfl,hl,fun H' s'=>?_⟩;have e:decide (xZ y Zkr)=decide (y∉Yb/\NmL y):=by
     rw [Qd8,Qcb,Qcb,Ze9];exact ⟨fun z=>⟨h1,I,z⟩,fun z=>z.2.2⟩
    rw [e];exact k H' s'
   ·rw [Qau (show ¬(y.length:Int)<=8 by lia)]
    have e:decide (y∉Yb/\NmL y)=false:=Qau fun z=>I z.2.1.2;rw [e] at k;exact YZ (k H (ZA.refl H))
def xa(K:Af):Sp:=fun vs H Q _=>∃(C tl:Au) (ys:Ai) (L:Nat),vs=[.ref C,.ref tl]/\H C=some (.tup (ys.map V.str))/\ys.Nodup/\ys.length<=10/\H tl=some (.lst ((List.range L).map fun i:Nat=>V.int (i:Int)))/\L<=100 /\
 ∀q kvs H',H q=none->H' q=some (.dK kvs)->Zie kvs ys (Y0 L ys)->ZA H H'->Q (.ref q) H'
theorem xb:YA P w K mg base CX0 2 t.kv t.lb ["names","letters"] (xa K):=by
 have C:=G7 P base T TB;refine T.cm.F.ok YI (fun vs H Q E h=>?_) (fun cdv A outer s H vs Q E hr h=>?_)
 ·obtain ⟨_,_,_,_,rfl,_⟩:=h
  rfl
 ·obtain ⟨tn,tl,ys,L,rfl,hn,hnd,hn3,hl,hL,k⟩:=h
  have hu:=ZT hr;refine ⟨_,@QSs.out _ _ _ (Zb (Zn (i:=2) YI.nd rfl (Or.inl rfl) qk)
    (Zb (YB Qbm rfl (zx rfl T.ic (qv 0)) (zy rfl (ZM (i:=3) YI.nd rfl (Or.inr rfl)) (ZM (i:=4) YI.nd rfl (Or.inl rfl)))
    (Zf (XM hu (qv 2) (qv 4) (Zl C (hr.mono (by decide)) rfl T.az.m T.az.F.kp T.az.b .nil ZG (Zk (Z8 Z5 (by rfl) T.ak ZX (Zk (Y4 ({}:Yj (Zg X5) _ ["names","letters","columns","place","name"] "letter" ["place"] [3]) (WZ (qv 1)) (fun _ _ _ _=>Xx) (fun _ _ _ _=>(Zm Xw (Zm xH (qv 0) (qv 1)) Zd))) Ze)) Ze)) rfl)))
    (Zf (Zp (qv 2))))),?_⟩
  refine L2.let3 ?_;intro U2 U1;refine fun O G=>Zi ?_;have s1:=Zc (o:=.dK []) G;refine ⟨_,rfl,tn,_,rfl,SqT.of (s1 _ _ hn),z5 (K:=K) (a:=tn) (xs:=ys.map V.str) (fun i σ H2=>∃(kvs:Ay) (u3 Y:Option V),σ=[some (.ref tn),some (.ref tl),some (.ref O),u3,Y]/\H2 O=some (.dK kvs)/\Zie kvs (ys.take i) (Y0 L ys)/\kvs.length<=i/\i<=ys.length/\ZA H H2) ⟨[],none,none,rfl,Za,⟨fun y h=>(by cases h),fun y _=>rfl⟩,Qag _,Qba _,s1⟩ (fun i σ H2 _ ⟨_,_,_,_,_,_,_,_,s⟩=>SqT.of (s _ _ hn)) ?_ ?_⟩
  ·rintro i x σ H2 p hx hp ⟨kvs,u3,Y,rfl,h2,hc,hkl,_,Z⟩
   rw [Qaj] at hx;obtain ⟨y,J,rfl⟩:=Qb2.mp hx;have hi:=(Qah.mp J).1;have s3:=Z.trans (Zc (o:=.tup [.int (i:Int),.str y]) hp);have h3:=Zc (o:=.tup [.int (i:Int),.str y]) hp _ _ h2;have I:=s3 _ _ hl;refine ⟨_,rfl,tl,rfl,⟨_,SqL.of I⟩,comp_map (xs:=(List.range L).map fun i:Nat=>V.int (i:Int)) (fI fun c=>V.int (bt c i)) (SqL.of I) (by rw [Qac,Qay];exact Qav (Zo (by lia))) (fun v hv R hR=>?_) (fun q hq=>?_)⟩
   ·obtain ⟨c,_,rfl⟩:=Qa2.mp hv
    refine ⟨_,rfl,_,rfl,_,_,rfl,rfl,Qch i,_,_,rfl,rfl,?_⟩;have e:fI (fun c=>V.int (bt c i)) (V.int (c:Int))=V.int (Builtin.bitAnd ((c:Int) / 2 ^ (i:Int).toNat) 1):=by
     rw [and_1,Qat]
     rfl
    rw [e] at hR;exact hR
   have ex:((List.range L).map fun i:Nat=>V.int (i:Int)).map (fI fun c=>V.int (bt c i))=((List.range L).map fun l:Nat=>bt (l:Int) i).map V.int:=by
    rw [Qb4,Qb4]
    rfl
   rw [ex];have s4:=Zc (o:=.lst (((List.range L).map fun l:Nat=>bt (l:Int) i).map V.int)) hq;refine ⟨q,_,rfl,.inl ⟨SqL.of Za,fun t ht=>?_⟩⟩;have s5:=s4.trans (Zc (o:=.tup (((List.range L).map fun l:Nat=>bt (l:Int) i).map V.int)) ht);have h5:=s5 _ _ h3;refine ⟨t,(List.range L).map fun l:Nat=>bt (l:Int) i,rfl,SqT.of Za,?_⟩;have hv:hor ((List.range L).map fun l:Nat=>bt (l:Int) i).reverse=Y0 L ys y:=by
    unfold Y0;rw [W4 hnd J]
   rw [hv];have lp:=Xm kvs (.inr y) (.int (Y0 L ys y));refine ⟨_,rfl,_,rfl,O,_,rfl,gb.k (k:=.inr y) h5 (Zo (by lia)),putK kvs (.inr y) (.int (Y0 L ys y)),_,_,rfl,Za,⟨fun z hz=>?_,fun z hz=>?_⟩,by lia,hi,Ys (s3.trans s5) G⟩
   ·rw [take_snoc J] at hz
    rw [zt]
    by_cases D:z=y
    ·rw [Qa1 (by rw [D]),D]
    ·rw [Qaw (fun e=>D (Sum.inr.inj e))]
     rcases Qa4.mp hz with h | h
     ·exact hc.1 z h
     ·exact absurd (Qal.mp h) D
   ·rw [take_snoc J] at hz
    rw [zt,Qaw (fun e=>hz (Qa4.mpr (.inr (Qal.mpr (Sum.inr.inj e)))))];exact hc.2 z fun h=>hz (Qa4.mpr (.inl h))
  ·rintro σ H2 ⟨kvs,u3,Y,rfl,h2,hc,hkl,_,Z⟩
   rw [Qac,Qbi] at hc;exact ⟨_,rfl,k O kvs H2 G h2 hc Z⟩
def yG(K:Af):Sp:=fun vs H Q _=>∃(y:Str) (p:Au) (is:Ak) (h:Int),vs=[.str y,.ref p,.int h]/\H p=some (.lst (is.map V.int))/\1<=is.length/\y∈allR/\(y∈Zid->2<=is.length)/\∀H',ZA H H'->Q (.int (ktI y is h)) H'
theorem yH:YA P w K mg base CX0 2 t.oj t.om ["word","parts","held"] (yG K):=by
 have C:=qZ P base T TB;refine T.dq.F.ok G6 (fun vs H Q E h=>?_) (fun Z A outer s H vs Q E hr h=>?_)
 ·obtain ⟨_,_,_,_,rfl,_⟩:=h
  rfl
 ·obtain ⟨y,p,is,h,rfl,hp,l1,Y,l2,k⟩:=h
  have hu:=ZT hr;refine ⟨_,@QSs.out _ _ _ (Zb (Zn (i:=3) G6.nd rfl (Or.inl rfl) (Zq Zy (qv 1) Zd))
    (Zb (Ye (Zz Xv (qv 0) Zx (ZF _))
    (Zf (Zp (qv 3))) Z6)
    (Zb (Ye (Zz YS (qv 0) (ZI (Zk Zx (Zk Zx (Zk Zx Ze)))) (by with_unfolding_all rfl))
    (Zf (Zp (Zm j7 (qv 3) (qv 2)))) Z6)
    (Zb (Ye (Zz Xv (qv 0) Zx (ZF _))
    (Zf (Zp (Zm j7 (Zm qd (qv 3) (Zq Zy (qv 1) Zd)) (qv 2)))) Z6)
    (Zb (Ye (Zz Xv (qv 0) Zx (ZF _))
    (Zf (Zp (Zm j7 (Zm Xw (qv 3) (Zq Zy (qv 1) Zd)) (Zm Xw (qv 2) (Zm j7 (qv 3) (Zq Zy (qv 1) Zd)))))) Z6)
    (Zf (Zp (Zl C (hr.mono (by decide)) rfl T.bo.m T.bo.F.kp T.bo.b .nil ZG (Zk (qv 3) (Zk (Zq Zy (qv 1) Zd) (Zk (qv 2) Ze))))))))))),?_⟩
  refine L2.let6 ?_;intro U5 U4 U3 U2 U1;have J:¬y = "twice" -> ¬(y = "neg" \/ y = "low" \/ y = "nought")->y∈Zid:=Zbc y Y;unfold ktI at k;refine ⟨_,rfl,p,_,0,_,rfl,rfl,SqL.of hp,Z0 0 rfl l1,Zi ⟨_,rfl,rfl,_,rfl,?_⟩⟩
  by_cases h1:y = "twice"
  ·rw [Qao (congrArg V.str h1)]
   rw [Qa1 h1] at k;refine Wk ?_;exact ⟨_,rfl,k H (ZA.refl _)⟩
  rw [Qau (fun z=>h1 (by injection z))];rw [Qaw h1] at k;refine YZ ⟨_,rfl,by decide,fun q hq=>⟨q,_,rfl,.inr (SqT.of Za),rfl,rfl,_,rfl,?_⟩⟩;show if inV (.str y) ((["neg","low","nought"]:Ai).map V.str)=true then _ else _;rw [ZN];have D:=Zc (o:=.tup [.str "neg",.str "low",.str "nought"]) hq;have pq:=D _ _ hp;generalize upd H q (.tup [.str "neg",.str "low",.str "nought"])=H1 at *
  by_cases h2:y = "neg" \/ y = "low" \/ y = "nought"
  ·rw [Qao (by grind)]
   rw [Qa1 h2] at k;refine Wk ?_;exact ⟨_,rfl,_,rfl,_,_,rfl,rfl,k H1 D⟩
  rw [Qau (by grind)];rw [Qaw h2] at k;refine YZ ⟨_,rfl,rfl,_,rfl,?_⟩
  by_cases G:y = "same"
  ·rw [Qao (congrArg V.str G)]
   rw [Qa1 G] at k;refine Wk ?_;exact ⟨_,rfl,_,rfl,p,_,1,_,rfl,rfl,SqL.of pq,Z0 1 rfl (l2 (by rw [G];decide +kernel)),_,_,rfl,rfl,_,rfl,_,_,rfl,rfl,k H1 D⟩
  rw [Qau (fun z=>G (by injection z))];rw [Qaw G] at k;refine YZ ⟨_,rfl,rfl,_,rfl,?_⟩
  by_cases I:y = "add"
  ·rw [Qao (congrArg V.str I)]
   rw [Qa1 I] at k;refine Wk ?_;have O:=l2 (by rw [I];decide +kernel);exact ⟨_,rfl,_,rfl,p,_,1,_,rfl,rfl,SqL.of pq,Z0 1 rfl O,_,_,rfl,rfl,_,rfl,_,rfl,_,rfl,p,_,1,_,rfl,rfl,SqL.of pq,Z0 1 rfl O,_,_,rfl,rfl,_,_,rfl,rfl,_,_,rfl,rfl,k H1 D⟩
  rw [Qau (fun z=>I (by injection z))];rw [Qaw I] at k;exact YZ ⟨_,rfl,_,rfl,p,_,1,_,rfl,rfl,SqL.of pq,Z0 1 rfl (l2 (J h1 h2)),_,rfl,_,_,_,rfl,k H1 D⟩
def xB(K:Af):Sp:=fun vs H Q _=>∃(y:Str) (p:Au) (is:Ak) (h n:Int),vs=[.str y,.ref p,.int h,.int n]/\H p=some (.lst (is.map V.int))/\1<=is.length/\y∈allR/\(y∈Zid->2<=is.length)/\∀H',ZA H H'->Q (.int (okI y is h n)) H'
theorem xC:YA P w K mg base CX0 2 t.me t.mf ["word","parts","held","then"] (xB K):=by
 have C:=qZ P base T TB;refine T.cz.F.ok xr (fun vs H Q E h=>?_) (fun cdv A outer s H vs Q E hr h=>?_)
 ·obtain ⟨_,_,_,_,_,rfl,_⟩:=h
  rfl
 ·obtain ⟨y,p,is,h,n,rfl,hp,l1,hy,l2,k⟩:=h
  have hu:=ZT hr;refine ⟨_,@QSs.out _ _ _ (Zb (Ye (Zz YS (qv 0) (ZI (Zk Zx (Zk Zx Ze))) (by with_unfolding_all rfl))
    (Zf (Zp (Zm qd (Zm qd (Zq Zy (qv 1) Zd) (Zq Zy (qv 1) Zd)) (qv 2)))) Z6)
    (Zb (Ye (Zz Xv (qv 0) Zx (ZF _))
    (Zf (Zp (Zm qd (Zq Zy (qv 1) Zd) (qv 2)))) Z6)
    (Zb (Ye (Zz Xv (qv 0) Zx (ZF _))
    (Zf (Zp (qv 2))) Z6)
    (Zb (Ye (Zz Xv (qv 0) Zx (ZF _))
    (Zf (Zp (Zm Xw (Zq Zy (qv 1) Zd) (WI qe (qv 2))))) Z6)
    (Zb (Ye (Zz YS (qv 0) (ZI (Zk Zx (Zk Zx Ze))) (by with_unfolding_all rfl))
    (Zf (Zp (WI qe (qv 3)))) Z6)
    (Zb (Ye (Zz Xv (qv 0) Zx (ZF _))
    (Zf (Zp (qv 3))) Z6)
    (Zf (Zp (Zl C (hr.mono (by decide)) rfl T.bo.m T.bo.F.kp T.bo.b .nil ZG (Zk (Zq Zy (qv 1) Zd) (Zk (Zq Zy (qv 1) Zd) (Zk (qv 2) Ze)))))))))))),?_⟩
  refine L2.let7 ?_;intro U6 U5 U4 U3 U2 U1;unfold okI at k;refine ⟨_,rfl,by decide,fun q hq=>⟨q,_,rfl,.inr (SqT.of Za),rfl,rfl,_,rfl,?_⟩⟩;show if inV (.str y) ((["add","sub"]:Ai).map V.str)=true then _ else _;rw [ZN];have D:=Zc (o:=.tup [.str "add",.str "sub"]) hq;have pq:=D _ _ hp;generalize upd H q (.tup [.str "add",.str "sub"])=H1 at *
  by_cases h1:y = "add" \/ y = "sub"
  ·rw [Qao (by grind)]
   rw [Qa1 h1] at k;refine Wk ?_;have l3:2<=is.length:=l2 (by rcases h1 with h | h <;> rw [h] <;> decide +kernel);exact ⟨_,rfl,p,_,0,_,rfl,rfl,SqL.of pq,Z0 0 rfl l1,_,rfl,p,_,1,_,rfl,rfl,SqL.of pq,Z0 1 rfl l3,_,_,rfl,rfl,_,rfl,_,_,rfl,rfl,k H1 D⟩
  rw [Qau (by grind)];rw [Qaw h1] at k;refine YZ ⟨_,rfl,rfl,_,rfl,?_⟩
  by_cases h2:y = "neg"
  ·rw [Qao (congrArg V.str h2)]
   rw [Qa1 h2] at k;refine Wk ?_;exact ⟨_,rfl,p,_,0,_,rfl,rfl,SqL.of pq,Z0 0 rfl l1,_,rfl,_,_,rfl,rfl,k H1 D⟩
  rw [Qau (fun z=>h2 (by injection z))];rw [Qaw h2] at k;refine YZ ⟨_,rfl,rfl,_,rfl,?_⟩
  by_cases G:y = "twice"
  ·rw [Qao (congrArg V.str G)]
   rw [Qa1 G] at k;refine Wk ?_;exact ⟨_,rfl,k H1 D⟩
  rw [Qau (fun z=>G (by injection z))];rw [Qaw G] at k;refine YZ ⟨_,rfl,rfl,_,rfl,?_⟩
  by_cases O:y = "low"
  ·rw [Qao (congrArg V.str O)]
   rw [Qa1 O] at k;refine Wk ?_;exact ⟨_,rfl,p,_,0,_,rfl,rfl,SqL.of pq,Z0 0 rfl l1,_,rfl,_,rfl,_,_,rfl,rfl,k H1 D⟩
  rw [Qau (fun z=>O (by injection z))];rw [Qaw O] at k;refine YZ ⟨_,rfl,by decide,fun r hr=>⟨r,_,rfl,.inr (SqT.of Za),rfl,rfl,_,rfl,?_⟩⟩;show if inV (.str y) ((["same","nought"]:Ai).map V.str)=true then _ else _;rw [ZN];have J:=Zc (o:=.tup [.str "same",.str "nought"]) hr;have Z:=J _ _ pq;generalize upd H1 r (.tup [.str "same",.str "nought"])=H2 at *
  by_cases I:y = "same" \/ y = "nought"
  ·rw [Qao (by simp only [Qan,Qbd,Qdq];exact I)]
   rw [Qa1 I] at k;refine Wk ?_;exact ⟨_,rfl,_,rfl,k H2 (D.trans J)⟩
  rw [Qau (by simp only [Qan,Qbd,Qdq];exact I)];rw [Qaw I] at k;refine YZ ⟨_,rfl,rfl,_,rfl,?_⟩
  by_cases Y:y = "under"
  ·rw [Qao (congrArg V.str Y)]
   rw [Qa1 Y] at k;refine Wk ?_;exact ⟨_,rfl,k H2 (D.trans J)⟩
  rw [Qau (fun z=>Y (by injection z))];rw [Qaw Y] at k;exact YZ ⟨_,rfl,p,_,1,_,rfl,rfl,SqL.of Z,Z0 1 rfl (l2 (Zbc y hy G (fun z=>by grind))),_,rfl,p,_,0,_,rfl,rfl,SqL.of Z,Z0 0 rfl l1,_,rfl,_,_,_,rfl,k H2 (D.trans J)⟩
def GN:Ai:=["x","y","ab","aba","nots","adda","lowly","z","orb","xx","samer","pickaxes","yesx","subx","a","ba"]
def vow:Aj:=[97,101,105,111,117]
def cns:Aj:=("bcdfghjkmpqrtvxz" : Str).cps.toList
omit T TB in
theorem Zi8:∀y∈GN,y∉Yb:=by decide +kernel
omit T TB in
theorem Zc2:GN.Nodup:=by decide +kernel
omit T TB in
theorem Zc3:∀c∈cns,c∉vow/\c∉("lnsw" : Str).cps.toList:=by decide +kernel
omit T TB in
theorem Zi9:∀c∈("lnsw" : Str).cps.toList,c∉vow:=by decide +kernel
omit T TB in
theorem Zfa:∀y∈Yb,∃c∈y.cps.toList,c∈vow:=by decide +kernel
omit T TB in
theorem no_vow{y:Str}(h:∀c∈y.cps.toList,c∉vow):y∉Yb:=fun z=>let ⟨c,h1,h2⟩:=Zfa y z;h c h1 h2
omit T TB in
theorem Zfb:∀y∈GN,NmL y:=by decide +kernel
omit T TB in
theorem Zc4:∀c∈cns,Low c:=by decide +kernel
omit T TB in
theorem Zfc:∀c∈("lnsw" : Str).cps.toList,Low c:=by decide +kernel
omit T TB in
theorem Zja{y:Str}(h1:1<=y.cps.toList.length)(h2:y.cps.toList.length<=8)(q:∀c∈y.cps.toList,Low c/\c∉vow):NmS y:=⟨⟨⟨by exact h1,by exact h2⟩,fun c hc=>(q c hc).1⟩,no_vow fun c hc=>(q c hc).2⟩
def yI(K:Af):Sp:=fun vs H Q _=>∃(C:Int) (q:Nat),vs=[.int C,.int (q:Int)]/\q<=3/\∀p (ys:Ai) H',H p=none->H' p=some (.tup (ys.map V.str))->ys.length=q->ys.Nodup->(∀y∈ys,NmS y)->ZA H H'->Q (.ref p) H'
omit T TB in
theorem Zjb{ys:Ai}{x s:Int}(Y:0<=x)(s1:1<=s)(J:s<=5)(hl:ys.length=3)(h:∀(i:Nat) (y:Str),ys[i]?=some y->GN[((x + (i:Int) * s) % 16).toNat]?=some y):ys.Nodup:=by
 match ys,hl with
 | [a,b,c],_ =>
  have ha:=h 0 a rfl;have hb:=h 1 b rfl;have hc:=h 2 c rfl;have ne:∀{i j:Int} {u v:Str},0<=i->i < 16->0<=j->j < 16->i≠j->GN[i.toNat]?=some u->GN[j.toNat]?=some v->u≠v:=fun {i j u v} Z i1 O j1 D hu hv e=>by
   subst e;have e1:=W4 Zc2 hu;have e2:=W4 Zc2 hv;lia
  have q:∀z:Int,0<=z % 16/\z % 16 < 16:=fun z=>⟨Qb1 _ (by decide),Qbp _ (by decide)⟩;have G:=ne (q _).1 (q _).2 (q _).1 (q _).2 (by lia) ha hb;have I:=ne (q _).1 (q _).2 (q _).1 (q _).2 (by lia) ha hc;have C:=ne (q _).1 (q _).2 (q _).1 (q _).2 (by lia) hb hc;simp [G,I,C]
theorem yJ:YA P w K mg base CX0 2 t.oq t.ou ["cell","many"] (yI K):=by
 have D:=xA P base T TB;refine T.dt.F.ok Yc (fun vs H Q E h=>?_) (fun cdv A outer s H vs Q E hr h=>?_)
 ·obtain ⟨_,_,rfl,_⟩:=h
  rfl
 ·obtain ⟨cell,many,rfl,hmany,k⟩:=h
  have hu:=ZT hr;refine ⟨_,@QSs.out _ _ _ (Zb (Zn (i:=2) Yc.nd rfl (Or.inr rfl) (Zl D (hr.mono (by decide)) rfl T.cy.m T.cy.F.kp T.cy.b .nil ZG (Zk (qv 0) (Zk Zd (Zk Zd Ze)))))
    (Zb (Zn (i:=3) Yc.nd rfl (Or.inr rfl) (X7 (Zk Zx (Zk Zx (Zk Zx (Zk Zx (Zk Zx (Zk Zx (Zk Zx (Zk Zx (Zk Zx (Zk Zx (Zk Zx (Zk Zx Ze))))))))))))))
    (Zb (Zn (i:=3) Yc.nd rfl (Or.inr rfl) (Zm Zfl (qv 3) (X7 (Zk Zx (Zk Zx (Zk Zx (Zk Zx Ze)))))))
    (Zb (yT (i:=4) Yc.nd rfl rfl ({}:Yj (Zg XQ) _ ["cell","many","xs","menu","some","base","at","turn"] "k" ["menu","xs"] [3,2]) (YU rfl T.bf (Zk Zd Ze)) (fun _ _ _ _=>Xx) (fun _ _ _ _=>(Zq (show IxR _ (Zjp K) from Zy) (qv 1) (Zm ZU (Zm Yy (Zq (show IxR _ (Zjp K) from Zy) (qv 2) Zd) (Zm XE (qv 0) (Zm Yy Zd (Zm ZU (Zq (show IxR _ (Zjp K) from Zy) (qv 2) Zd) Zd)))) Zd))))
    (Zb (Ye (Zz Xv (Zm ZU (Zq Zy (qv 2) Zd) Zd) Zd (ZF _))
    (Zb (Zn (i:=5) Yc.nd rfl (Or.inl rfl) (Xl PySem.F.plainAttrs_str PySem.F.slot_str_join PySem.F.type_str_join Zg9 Zx (Zk (Y4 ({}:Yj (Zg XQ) _ ["cell","many","xs","menu","some","base","at","turn"] "k" ["xs"] [2]) (YU rfl T.bf (Zk (Zm Yy Zd (Zm ZU (Zq Zy (qv 2) Zd) Zd)) Ze)) (fun _ _ _ _=>Xx) (fun _ _ _ _=>(Zq uI Zx (Zm ZU (Zq (show IxR _ (Zjp K) from Zy) (qv 1) (Zm Yy Zd (qv 0))) Zd)))) Ze)))
    (Zb (Zn (i:=6) Yc.nd rfl (Or.inl rfl) (Zm ZU (Zq Zy (qv 2) Zd) (Zv Gs (by rfl) T.av YT (Zk (qv 5) Ze))))
    (Zf (Zn (i:=4) Yc.nd rfl (Or.inl rfl) (X7 (Zk (qv 5) (Zk (Zm JR (qv 5) (Zq uI Zx (Zm ZU (Zq Zy (qv 2) Zd) Zd))) (Zk (Zm JR (Zm JR (Xc Zfm (qv 5) XH (XI (qv 6))) (Zq uI Zx (Zm ZU (Zq Zy (qv 2) Zd) Zd))) (Xc Zfm (qv 5) (XI (Zm Yy (qv 6) Zd)) XH)) Ze)))))))) Z6)
    (Zb (Zn (i:=7) Yc.nd rfl (Or.inl rfl) (Zm ZU (Zm Yq (Zq Zy (qv 2) Zd) Zd) Zd))
    (Zf (Zp (Z8 Z5 (by rfl) T.ak ZX (Zk (Zv jL (by rfl) T.sr jG (Zk (Xc zp (Zm Zfl (Xc zp (qv 4) (XI (qv 7)) XH) (Xc zp (qv 4) XH (XI (qv 7)))) XH (XI (qv 1))) Ze)) Ze)))))))))),?_⟩
  try dsimp only [L2.cxK,L2.cxK2]
  refine L2.let7 ?_;intro U6 U5 U4 U3 U2 U1;refine ⟨_,rfl,cell,12,400,rfl,by decide,by decide,by decide,fun p C H1 hp h1 hl hb s1=>?_⟩;have hx:∀j,j < 12->0<=C.getD j 0/\C.getD j 0 < 400:=fun j hj=>Zh4 hb j (by lia);refine ⟨zln12,fun m1 hm1=>?_⟩;refine ⟨_,rfl,zln4,fun m2 hm2=>⟨m1,m2,_,_,rfl,rfl,Zc hm2 _ _ Za,Za,zln16,fun m hm=>?_⟩⟩;have s4:=((Zc (o:=.lst [.str "x",.str "y",.str "ab",.str "aba",.str "nots",.str "adda",.str "lowly",.str "z",.str "orb",.str "xx",.str "samer",.str "pickaxes"]) hm1).trans (Zc (o:=.lst [.str "yesx",.str "subx",.str "a",.str "ba"]) hm2)).trans (Zc (o:=.lst (GN.map V.str)) hm);refine ⟨3,rfl,by decide,by decide,yh (n:=3) (fun i v=>∃y,v=.str y/\GN[((C.getD 1 0 + (i:Int) * (1 + C.getD 2 0 % 5)) % 16).toNat]?=some y) (by decide) (fun i hi R hR=>?_) (fun vs J hvP q hq=>?_)⟩
  ·have e0:0<=(C.getD 1 0 + (0 + (i:Int)) * (1 + C.getD 2 0 % 5)) % 16:=Qb1 _ (by decide)
   have e1:(C.getD 1 0 + (0 + (i:Int)) * (1 + C.getD 2 0 % 5)) % 16 < 16:=Qbp _ (by decide);rw [Qe7] at e0 e1;obtain ⟨y,G⟩:∃y,GN[((C.getD 1 0 + (i:Int) * (1 + C.getD 2 0 % 5)) % 16).toNat]?=some y:=⟨_,Qaf (by show _ < 16;lia)⟩;have ey:atI (GN.map V.str) ((C.getD 1 0 + (0 + (i:Int)) * (1 + C.getD 2 0 % 5)) % 16)=some (.str y):=by
    rw [Qe7];obtain ⟨j,hj⟩:∃j:Nat,(C.getD 1 0 + (i:Int) * (1 + C.getD 2 0 % 5)) % 16=(j:Int):=⟨_,(Int.toNat_of_nonneg e0).symm⟩;rw [hj,Qat] at G;rw [hj];exact Yh (by rw [Qaj,G];rfl)
   exact ⟨_,rfl,_,rfl,p,_,_,_,rfl,rfl,SqL.of (s4 _ _ h1),Z0 1 rfl (by lia),_,rfl,_,rfl,p,_,_,_,rfl,rfl,SqL.of (s4 _ _ h1),Z0 2 rfl (by lia),_,_,rfl,rfl,(by show (0:Int) < 5;decide),_,_,rfl,rfl,_,_,rfl,rfl,.inr (.inl ⟨by lia,by lia⟩),_,_,rfl,rfl,_,_,rfl,rfl,(by show (0:Int) < 16;decide),m,GN.map V.str,_,_,rfl,rfl,SqL.of Za,ey,hR _ ⟨y,rfl,G⟩⟩
  obtain ⟨ys,rfl,_⟩:=v5 (P:=fun _=>True) (fun v hv=>by
   obtain ⟨i,hi⟩:=Qet.mp hv;obtain ⟨y,e,_⟩:=hvP i v hi;exact ⟨y,e,trivial⟩)
  rw [Qac] at J;have hyi:∀(i:Nat) (y:Str),ys[i]?=some y->GN[((C.getD 1 0 + (i:Int) * (1 + C.getD 2 0 % 5)) % 16).toNat]?=some y:=fun i y G=>by
   obtain ⟨z,e,h⟩:=hvP i (.str y) (by rw [Qaj,G];rfl);injection e with e;rw [e];exact h
  have O:∀y∈ys,NmS y:=fun y G=>by
   obtain ⟨i,hi⟩:=Qet.mp G;exact ⟨Zfb y (Qai (hyi i y hi)),Zi8 y (Qai (hyi i y hi))⟩
  have b2:=hx 2 (by decide);have hyd:ys.Nodup:=Zjb (x:=C.getD 1 0) (s:=1 + C.getD 2 0 % 5) (hx 1 (by decide)).1 (by lia) (by lia) J hyi;have s5:=s4.trans (Zc (o:=.lst (ys.map V.str)) hq);refine Zi ?_;refine vy (fun σ H'=>∃(q:Au) (ys:Ai) (b a:Option V),σ=[some (.int cell),some (.int many),some (.ref p),some (.ref m),some (.ref q),b,a,none]/\H' q=some (.lst (ys.map V.str))/\ys.length=3/\ys.Nodup/\(∀y∈ys,NmS y)/\ZA H1 H') (fun N hN=>?_) ?_
  ·refine ⟨_,rfl,p,_,_,_,rfl,rfl,SqL.of (s5 _ _ h1),Z0 0 rfl (by lia),_,_,rfl,rfl,(by show (0:Int) < 2;decide),rfl,_,rfl,k4 (fun _=>?_) (fun _=>?_)⟩
   ·have b1:=hx 1 (by decide)
    refine ⟨rfl,_,rfl,p,_,_,_,rfl,rfl,SqL.of (s5 _ _ h1),Z0 1 rfl (by lia),_,_,rfl,rfl,(by show (0:Int) < 7;decide),_,_,rfl,rfl,_,rfl,?_,?_,yh (n:=(1 + C.getD 1 0 % 7).toNat) (fun _ v=>∃y,v=.str y/\∃c,y=⟨#[c]⟩/\c∈cns) ?_ (fun i hi R hR=>?_) (fun vs J hvP l hl2=>?_)⟩
    ·lia
    ·lia
    ·exact Qav (Zo (by lia))
    ·obtain ⟨c,hc,ec⟩:=vz (z:=("bcdfghjkmpqrtvxz" : Str)) (i:=C.getD (3 + i) 0 % 16) 16 (by decide +kernel) (Qb1 _ (by decide)) (Qbp _ (by decide))
     exact ⟨_,rfl,_,rfl,_,_,rfl,rfl,p,_,_,_,rfl,rfl,SqL.of (s5 _ _ h1),Z0 (3 + i) (by lia) (by lia),_,_,rfl,rfl,(by show (0:Int) < 16;decide),_,_,c,rfl,rfl,by decide +kernel,ec,hR _ ⟨_,rfl,c,rfl,hc⟩⟩
    obtain ⟨zs,rfl,hzs⟩:=v5 (P:=fun y=>∃c,y=⟨#[c]⟩/\c∈cns) (mem_at hvP);rw [Qac] at J;obtain ⟨f1,f2,f3⟩:=Za0 hzs;have s6:=s5.trans (Zc (o:=.lst (zs.map V.str)) hl2);refine ⟨_,l,zs,rfl,rfl,SqL.of Za,?_,?_⟩
    ·rw [f3]
     show zs.length + zs.length * 0<=_;lia
    have js:=gx ("" : Str) (by decide +kernel) zs;rw [<-js] at f1 f2;generalize Txt.join ("" : Str) zs=B at *;have hB:B.length=zs.length:=by rw [len_signs];exact f1
    refine ⟨_,rfl,p,_,_,_,rfl,rfl,SqL.of (s6 _ _ h1),Z0 2 rfl (by lia),_,rfl,B,rfl,Qav (Zo (by lia)),_,_,rfl,rfl,(by show (0:Int) < B.length;lia),?_⟩;dsimp only;have a0:0<=C.getD 2 0 % (B.length:Int):=Qb1 _ (by lia);have a1:C.getD 2 0 % (B.length:Int) < B.length:=Qbp _ (by lia);generalize C.getD 2 0 % (B.length:Int)=a at *;obtain ⟨j,rfl⟩:∃j:Nat,a=(j:Int):=⟨a.toNat,by lia⟩;obtain ⟨c1,hc1,ec1⟩:=vz (z:=("bcdfghjkmpqrtvxz" : Str)) (i:=C.getD 10 0 % 16) 16 (by decide +kernel) (Qb1 _ (by decide)) (Qbp _ (by decide));obtain ⟨I,hc2,ec2⟩:=vz (z:=("lnsw" : Str)) (i:=C.getD 11 0 % 4) 4 (by decide +kernel) (Qb1 _ (by decide)) (Qbp _ (by decide));have Y:(Txt.slice B none (some (j:Int))).cps.toList=B.cps.toList.take j:=Zee (by lia);have hs2:(Txt.slice B (some ((j:Int) + 1)) none).cps.toList=B.cps.toList.drop (j + 1):=gv (i:=j + 1) (by lia);have l1:=Qfo B none (some (j:Int));have l2:=Qfo B (some ((j:Int) + 1)) none;have one:∀c:Nat,(⟨#[c]⟩:Str).length=1:=fun _=>rfl;refine ⟨_,rfl,_,rfl,_,rfl,p,_,_,_,rfl,rfl,SqL.of (s6 _ _ h1),Z0 10 rfl (by lia),_,_,rfl,rfl,(by show (0:Int) < 16;decide),_,_,c1,rfl,rfl,by decide +kernel,ec1,_,_,rfl,rfl,?_,?_⟩
    ·rw [one]
     exact Qav (Zo (by lia))
    refine ⟨_,rfl,_,rfl,_,rfl,_,rfl,Qav (Zo (by lia)),_,rfl,p,_,_,_,rfl,rfl,SqL.of (s6 _ _ h1),Z0 11 rfl (by lia),_,_,rfl,rfl,(by show (0:Int) < 4;decide),_,_,I,rfl,rfl,by decide +kernel,ec2,_,_,rfl,rfl,?_,?_⟩
    ·rw [one]
     exact Qav (Zo (by lia))
    refine ⟨_,rfl,_,rfl,_,_,rfl,rfl,_,rfl,_,rfl,Qav (Zo (by lia)),_,_,rfl,rfl,?_,Zjc,fun g hg=>?_⟩
    ·rw [Str.length_append,one]
     exact Qav (Zo (by lia))
    refine hN _ _ ⟨g,[B,B++⟨#[c1]⟩,Txt.slice B none (some (j:Int))++⟨#[I]⟩++Txt.slice B (some ((j:Int) + 1)) none],_,_,rfl,Za,rfl,?_,?_,s6.trans (Zc hg)⟩
    ·have e1:(B++⟨#[c1]⟩:Str).cps.toList=B.cps.toList++[c1]:=Ya _ _
     have e2:(Txt.slice B none (some (j:Int))++⟨#[I]⟩++Txt.slice B (some ((j:Int) + 1)) none).cps.toList=B.cps.toList.take j++[I]++B.cps.toList.drop (j + 1):=by rw [Ya,Ya,Y,hs2]
     have lB:=len_signs B;have jl:j < B.cps.toList.length:=by lia
     have Z:(B.cps.toList.take j++[I]++B.cps.toList.drop (j + 1))[j]?=some I:=by
      rw [Qca,Qa7 (by rw [Qa0];lia),Qa0,Qfe (by lia),Qfr]
      rfl
     have nc2:∀c,B.cps.toList[j]?=some c->c≠I:=fun c hc e=>(Zc3 c (f2 c (Qai hc))).2 (by rw [e];exact hc2);have d12:B≠B++⟨#[c1]⟩:=fun e=>by
      have:=congrArg (fun s:Str=>s.cps.toList.length) e;simp only [e1,Qae,Qce,Qfc] at this;lia
     have d13:B≠Txt.slice B none (some (j:Int))++⟨#[I]⟩++Txt.slice B (some ((j:Int) + 1)) none:=fun e=>by
      have e3:=congrArg (fun s:Str=>s.cps.toList) e;simp only [e2] at e3;rw [<-e3] at Z;exact nc2 _ Z rfl
     have d23:B++⟨#[c1]⟩≠Txt.slice B none (some (j:Int))++⟨#[I]⟩++Txt.slice B (some ((j:Int) + 1)) none:=fun e=>by
      have e3:=congrArg (fun s:Str=>s.cps.toList) e;simp only [e1,e2] at e3;rw [<-e3,Qbg jl] at Z;exact nc2 _ Z rfl
     simp [d12,d13,d23]
    ·intro y G
     simp only [Qan,Qbd,Qdq] at G;have lB:=len_signs B;have cn:∀c∈B.cps.toList,Low c/\c∉vow:=fun c hc=>⟨Zc4 c (f2 c hc),(Zc3 c (f2 c hc)).1⟩;rcases G with rfl | rfl | rfl
     ·exact Zja (by lia) (by lia) cn
     ·refine Zja (by rw [Ya,Qae];lia) (by rw [Ya,Qae];show _ + 1<=8;lia) fun c hc=>?_
      rw [Ya] at hc;rcases Qa4.mp hc with h | h
      ·exact cn c h
      ·rw [Qal.mp h]
       exact ⟨Zc4 c1 hc1,(Zc3 c1 hc1).1⟩
     ·have el:(B.cps.toList.take j++[I]++B.cps.toList.drop (j + 1)).length=B.cps.toList.length:=by
       rw [Qae,Qae,Qa0,Qcn];show min j _ + 1 + _=_;lia
      refine Zja (by rw [Ya,Ya,Y,hs2,el];lia) (by rw [Ya,Ya,Y,hs2,el];lia) fun c hc=>?_;rw [Ya,Ya,Y,hs2] at hc;rcases Qa4.mp hc with h | h
      ·rcases Qa4.mp h with h | h
       ·exact cn c (Qcu h)
       ·rw [Qal.mp h]
        exact ⟨Zfc I hc2,Zi9 I hc2⟩
      ·exact cn c (Qf2 h)
   ·exact hN _ _ ⟨q,ys,none,none,rfl,Za,J,hyd,O,s5⟩
  rintro σ H' ⟨q,ys,b,a,rfl,hq,hl3,hyd,O,s6⟩;refine ⟨_,rfl,p,_,_,_,rfl,rfl,SqL.of (s6 _ _ h1),Z0 0 rfl (by lia),_,_,rfl,rfl,.of (by decide) (by decide),_,_,rfl,rfl,(by show (0:Int) < 3;decide),?_⟩;dsimp only;have t0:0<=C.getD 0 0 / 2 % 3:=by lia
  generalize C.getD 0 0 / 2 % 3=t at *;obtain ⟨t,rfl⟩:∃j:Nat,t=(j:Int):=⟨t.toNat,by lia⟩;refine ⟨_,rfl,_,rfl,_,rfl,q,_,rfl,SqL.of hq,fun l1 hl1=>?_⟩;rw [WD,yg];have u1:=Zc (o:=.lst ((ys.drop t).map V.str)) hl1;refine ⟨_,rfl,_,rfl,_,rfl,q,_,rfl,SqL.of (u1 _ _ hq),fun l2 hl2=>?_⟩;rw [WD,JD];have u2:=Zc (o:=.lst ((ys.take t).map V.str)) hl2;refine ⟨l1,l2,_,_,rfl,rfl,u2 _ _ Za,Za,?_,fun l3 hl3'=>?_⟩
  ·rw [Qac,Qac,Qcn,Qa0]
   exact Qav (Zo (by lia))
  rw [<-Qa6];have u3:=Zc (o:=.lst ((ys.drop t++ys.take t).map V.str)) hl3';refine ⟨_,rfl,_,rfl,l3,_,rfl,SqL.of Za,fun l4 hl4=>?_⟩;rw [WD,JD];have u4:=Zc (o:=.lst (((ys.drop t++ys.take t).take many).map V.str)) hl4;refine ⟨l4,_,rfl,SqL.of Za,?_,fun l5 ms hl5 hpm hsr=>⟨l5,_,rfl,.inl ⟨SqL.of Za,fun l6 hl6=>?_⟩⟩⟩
  ·rw [Qa0]
   lia
  have u5:=Zc (o:=.lst (ms.map V.str)) hl5;have u:=s1.trans (s6.trans (((u1.trans u2).trans (u3.trans u4)).trans u5));refine k l6 ms _ (u.free hl6) Za ?_ ?_ ?_ (u.trans (Zc hl6))
  ·rw [hpm.length_eq,Qa0,Qae,Qcn,Qa0]
   lia
  ·refine hpm.nodup_iff.mpr (List.Nodup.sublist (Qgv _ _) ?_)
   exact (List.perm_append_comm.nodup_iff).mpr (by rw [Qc4];exact hyd)
  ·intro y G
   have:=Qcu (hpm.mem_iff.mp G);rcases Qa4.mp this with z | z
   ·exact O y (Qf2 z)
   ·exact O y (Qcu z)
def Wi (K:Af):Sp:=fun vs H Q _=>∃(f d D:Au) (w:Int) (G C:Ay),vs=[.ref f,.int w,.ref D]/\H f=some (.tup [.str "parted",.int w,.ref d])/\H d=some (.dK G)/\d≠D/\Rd H D (.dK C)/\G.length=C.length/\C.length<=10/\(∀q∈C,∃(y:Str) (z:Int),q=(.inr y,.int z)/\Yf G (.inr y)=some (.int z)/\Yf C (.inr y)=some (.int z))/\∀H',Q (.bl true) H'
theorem GO:YA P w K mg base CX0 2 t.iu t.iw ["found","width","words"] (Wi K):=by
 have C:=yF P base T TB;refine T.cf.F.ok Wh (fun vs H Q E h=>?_) (fun cdv A outer s H vs Q E hr h=>?_)
 ·obtain ⟨_,_,_,_,_,_,rfl,_⟩:=h
  rfl
 ·obtain ⟨f,d,D,w,kf,O,rfl,hf,hd,Y,I,hl,hl10,hq,k⟩:=h
  have hu:=ZT hr;refine ⟨_,@QSs.out _ _ _ (Zb (Ye (uQ (jI (kD (X6 (Zv XF (by rfl) T.ay Ym (Zk (qv 0) (Zk (WY (v:=.ty "tuple") (by rfl) T.ak ZX rfl) Ze))))) (jI (Zz j8 (Zv ZE (by rfl) T.av YT (Zk (qv 0) Ze)) Zd (ZF _)) (jI (Zz j8 (Zq Zu (qv 0) Zd) Zx (ZF _)) (kC (kD (X6 (Zl C (hr.mono (by decide)) rfl T.bc.m T.bc.F.kp T.bc.b .nil ZG (Zk (Zq Zu (qv 0) Zd) Ze)))))))))
    (Zf (Zp xg)) Z6)
    (Zb (Ye (uQ (jI (Zz j8 (Zq Zu (qv 0) Zd) (qv 1) (ZF _)) (jI (kD (X6 (Zv XF (by rfl) T.ay Ym (Zk (Zq Zu (qv 0) Zd) (Zk (WY (v:=.ty "dict") (by rfl) T.xo Zha rfl) Ze))))) (kC (Zz j8 (Zv ql (by rfl) T.av YT (Zk (Zq Zu (qv 0) Zd) Ze)) (Zv ql (by rfl) T.av YT (Zk (qv 2) Ze)) (ZF _))))))
    (Zf (Zp xg)) Z6)
    (Zb (YB Qbm rfl (Zhh (qv 2)) (ZM (i:=3) Wh.nd rfl (Or.inl rfl))
    (Zf (Ye (uQ (jI (Zz (Jt hu) (qv 3) (Zq Zu (qv 0) Zd) (by with_unfolding_all rfl)) (jI (kD (X6 (Zl C (hr.mono (by decide)) rfl T.bc.m T.bc.F.kp T.bc.b .nil ZG (Zk (Jb hu (Zq Zu (qv 0) Zd) (qv 3) (fun _ _=>rfl)) Ze)))) (kC (Zz j8 (Jb hu (Zq Zu (qv 0) Zd) (qv 3) (fun _ _=>rfl)) (Jb hu (qv 2) (qv 3) (fun _ _=>rfl)) (ZF _))))))
    (Zf (Zp xg)) Z6)))
    (Zf (Zp xg))))),?_⟩
  refine L2.let4 ?_;intro U3 U2 U1;refine ⟨_,rfl,_,_,_,_,rfl,.tup hf,yQ,_,rfl,YZ ⟨_,rfl,f,_,rfl,.inr (SqT.of hf),rfl,_,rfl,YZ ⟨_,rfl,f,_,0,_,rfl,rfl,SqT.of hf,rfl,rfl,_,rfl,?_⟩⟩⟩;refine YZ ⟨_,rfl,f,_,1,_,rfl,rfl,SqT.of hf,rfl,w,rfl,_,rfl,YZ ?_⟩;refine ⟨_,rfl,f,_,1,_,rfl,rfl,SqT.of hf,rfl,_,rfl,rfl,_,rfl,?_⟩;rw [show (!decide (V.int w=V.int w))=false by rw [Qao rfl];rfl];refine YZ ⟨_,rfl,f,_,2,_,rfl,rfl,SqT.of hf,rfl,_,_,_,_,rfl,.dK hd,zQ,_,rfl,YZ ⟨_,rfl,f,_,2,_,rfl,rfl,SqT.of hf,rfl,d,_,rfl,.inl hd,_,rfl,D,_,rfl,I,rfl,_,rfl,?_⟩⟩;rw [show (!decide (V.int (kf.length:Int)=V.int (O.length:Int)))=false by rw [hl,Qao rfl];rfl];refine YZ ⟨_,rfl,D,_,rfl,I,fun o=>z8 (kvs:=O) (fun i σ H'=>∃(u3:Option V),σ=[some (.ref f),some (.int w),some (.ref D),u3]/\H'=upd H D (.frz o (.dK O))) ⟨none,rfl,rfl⟩ (fun i σ H' _ ⟨_,_,h⟩=>by rw [h];exact Za) ?_ ?_⟩
  ·rintro i q σ H1 hqi ⟨u3,rfl,rfl⟩
   obtain ⟨y,z,rfl,g1,g2⟩:=hq q (Qai hqi);have Z:f≠D:=fun e=>by rw [e] at hf;rcases I with z | ⟨_,z⟩ <;> rw [hf] at z <;> cases z
   have J:upd H D (.frz o (.dK O)) f=some (.tup [.str "parted",.int w,.ref d]):=by rw [Zh Z];exact hf
   have G:upd H D (.frz o (.dK O)) d=some (.dK kf):=by rw [Zh Y];exact hd
   have hw1:Rd (upd H D (.frz o (.dK O))) D (.dK O):=.inr ⟨o,Za⟩;refine Zi ⟨_,rfl,_,rfl,f,_,2,_,rfl,rfl,SqT.of J,rfl,d,_,rfl,.inl ⟨_,.inr y,.inl G,rfl,g1.symm⟩,_,rfl,YZ ?_⟩;refine ⟨_,rfl,f,_,2,_,rfl,rfl,SqT.of J,rfl,_,rfl,d,_,rfl,.inl ⟨_,.inr y,.inl G,rfl,g1.symm⟩,z,rfl,_,rfl,YZ ?_⟩;refine ⟨_,rfl,f,_,2,_,rfl,rfl,SqT.of J,rfl,_,rfl,d,_,rfl,.inl ⟨_,.inr y,.inl G,rfl,g1.symm⟩,_,rfl,_,rfl,D,_,rfl,.inl ⟨_,.inr y,hw1,rfl,g2.symm⟩,rfl,_,rfl,?_⟩;rw [show (!decide (V.int z=V.int z))=false by rw [Qao rfl];rfl];exact YZ ⟨_,rfl,rfl⟩
  ·rintro σ H1 ⟨u3,rfl,rfl⟩
   exact k _
def JN(K:Af):Sp:=fun vs H Q _=>∃(m a:Au) (nm:Ai) (b:Nat) (nx:Ad) (ot:Ax) (n:Nat) (Ls:Ad) (q:Nat) (v:V) (C:Bool),vs=[.ref m,.ref a,.int (q:Int),v]/\M4 H m nm b nx ot/\Runs nx ot n/\b < nx.length/\nx.length<=1000000/\y0 H a Ls/\Ls≠[]/\(∀L∈Ls,L.length<=1000/\∀l∈L,l < 2 ^ n)/\Ls.length<=1000000/\q<=3/\Xs C v/\(∀r∈ot,∀x∈r,Xs C x) /\
 ∀p H',H p=none->y0 H' p (cho q (lwb (mN nx) (mB ot v) q (lys (mN nx) [b] Ls) Ls).1 Ls)->SmF H H'->Q (.ref p) H'
theorem JO:YA P w K mg base CX0 3 t.fy t.ia ["machine","letters","number","wanted"] (JN K):=by
 have D:=WK P base T TB;have G:=Jk P base T TB;have J:=GH P base T TB;refine T.bq.F.ok Z4 (fun vs H Q E h=>?_) (fun cdv A outer s H vs Q E hr h=>?_)
 ·obtain ⟨_,_,_,_,_,_,_,_,_,_,_,rfl,_⟩:=h
  rfl
 ·obtain ⟨m,a,nm,b,nx,ot,n,Ls,I,v,tr,rfl,M,R,hb,hN,hA,hne,hL,hw,hkb,hv,hk,k⟩:=h
  have hu:=ZT hr;refine ⟨_,@QSs.out _ _ _ (Zb (Zn (i:=4) Z4.nd rfl (Or.inl rfl) (Zl J (hr.mono (by decide)) rfl T.bx.m T.bx.F.kp T.bx.b .nil ZG (Zk (qv 0) (Zk (qv 1) Ze))))
    (Zb (Zn (i:=5) Z4.nd rfl (Or.inl rfl) (X7 Ze))
    (Zb (Zn (i:=6) Z4.nd rfl (Or.inl rfl) kB)
    (Zb (YB Qbm rfl (Zh2 rfl T.bf (Zk (Zm j6 (Zv ZE (by rfl) T.av YT (Zk (qv 1) Ze)) Zd) (Zk (WI Jn Zd) (Zk (WI Jn Zd) Ze)))) (ZM (i:=7) Z4.nd rfl (Or.inl rfl))
    (Zb (Zn (i:=8) Z4.nd rfl (Or.inl rfl) (Zl G (hr.mono (by decide)) rfl T.aj.m T.aj.F.kp T.aj.b .nil ZG (Zk (Zq Zy (qv 1) (qv 7)) (Zk (qv 2) (Zk Zd Ze)))))
    (Zb (Zn (i:=9) Z4.nd rfl (Or.inl rfl) (Zl D (hr.mono (by decide)) rfl T.ah.m T.ah.F.kp T.ah.b .nil ZG (Zk (qv 0) (Zk (Zq Zy (qv 4) (qv 7)) (Zk (qv 8) (Zk (qv 6) (Zk (qv 3) Ze)))))))
    (Zb (Ye (Zz Xv (Zv ql (by rfl) T.av YT (Zk (qv 9) Ze)) Zd (ZF _))
    (Zb (Zn (i:=8) Z4.nd rfl (Or.inl rfl) (Zl G (hr.mono (by decide)) rfl T.aj.m T.aj.F.kp T.aj.b .nil ZG (Zk (Zq Zy (qv 1) (qv 7)) (Zk (qv 2) (Zk Zd Ze)))))
    (Zf (Zn (i:=9) Z4.nd rfl (Or.inl rfl) (Zl D (hr.mono (by decide)) rfl T.ah.m T.ah.F.kp T.ah.b .nil ZG (Zk (qv 0) (Zk (Zq Zy (qv 4) (qv 7)) (Zk (qv 8) (Zk (qv 6) (Zk (qv 3) Ze))))))))) Z6)
    (Zb (Y3 (Xl Qbf Qbk Qbl Yi (qv 5) (Zk (qv 8) Ze)))
    (Zf (Zn (i:=6) Z4.nd rfl (Or.inl rfl) (qv 9))))))))
    (Zb (Y3 (kG Qbf PySem.F.slot_list_reverse PySem.F.type_list_reverse wY (qv 5)))
    (Zf (Zp (qv 5)))))))),?_⟩
  try dsimp only [L2.cxK,L2.cxK2]
  refine L2.let6 ?_;intro U5 U4 U3 U2 U1;have lyl:=vM (nx:=mN nx) Ls [b];have lyok:=Zck (nx:=mN nx) (N:=nx.length) (M:=2 ^ n) (fun s l hs hl=>R.mN hs hl) (Ls:=Ls) (S:=[b]) (Qci.mpr ⟨Qbd,Qdg⟩) (fun s hs=>by rw [Qal.mp hs];exact hb) (fun L h=>(hL L h).2);refine ⟨_,rfl,_,rfl,m,a,nm,b,nx,ot,n,Ls,rfl,M,R,hb,hN,hA,hne,hL,hw,fun ly H1 hly Ly s1=>Zi ⟨Zgi,fun O hlf=>Zi (Zi ?_)⟩⟩;have s2:=s1.trans (SmF.of (Zc (o:=.lst []) hlf));have Z:=s1.free hlf;obtain ⟨as,ha,hal,hat⟩:=hA.smf s2;have Ly2:=Ly.smf (SmF.of (Zc (o:=.lst []) hlf));have W0:zg (upd H1 O (.lst [])) .non (lwT (mN nx) (mB ot v) I [b] Ls Ls.length).2:=by rw [Zcn];exact .inl ⟨rfl,rfl⟩
  have T0:G4 (upd H1 O (.lst [])) ([]:A0).reverse (cho I (lwT (mN nx) (mB ot v) I [b] Ls Ls.length).1 (Ls.drop Ls.length)):=by rw [Zcn];exact ⟨rfl,fun i C h=>nomatch h⟩
  have hlf2:upd H1 O (.lst []) O=some (.lst []):=Za;have M2:=M.smf s2;generalize upd H1 O (.lst [])=H2 at *;refine ⟨_,rfl,a,as,rfl,.inl (SqL.of ha),_,_,rfl,rfl,_,rfl,_,rfl,as.length,rfl,by lia,Zeb (fun i σ H'=>∃(zs:A0) (wv:V) (u7 u8 u9:Option V),σ=[some (.ref m),some (.ref a),some (.int (I:Int)),some v,some (.ref ly),some (.ref O),some wv,u7,u8,u9]/\i<=Ls.length/\H' O=some (.lst zs)/\zs.length=i/\G4 H' zs.reverse (cho I (lwT (mN nx) (mB ot v) I [b] Ls (Ls.length - i)).1 (Ls.drop (Ls.length - i)))/\zg H' wv (lwT (mN nx) (mB ot v) I [b] Ls (Ls.length - i)).2/\SmF H H'/\Zdb H' ly (lys (mN nx) [b] Ls)/\(∀b xs,H2 b=some (.tup xs)->H' b=some (.tup xs))/\H' a=some (.lst as)) ⟨[],.non,none,none,none,rfl,Qba _,hlf2,rfl,T0,W0,s2,Ly2,fun _ _ z=>z,ha⟩ ?_ ?_⟩
  ·rintro i σ H3 hi ⟨zs,wv,u7,u8,u9,rfl,hil,z1,z2,z3,z4,s3,Ly3,tp3,ha3⟩
   rw [hal] at hi;obtain ⟨j,hj⟩:∃j,Ls.length - i=j + 1:=⟨Ls.length - i - 1,by lia⟩;rw [hj] at z3 z4;have ep:(as.length:Int) - 1 - i=(j:Int):=by lia
   rw [ep];obtain ⟨L,hLj⟩:∃L,Ls[j]?=some L:=⟨_,Qaf (by lia)⟩;obtain ⟨S,hSj⟩:∃S,(lys (mN nx) [b] Ls)[j]?=some S:=⟨_,Qaf (by lia)⟩;obtain ⟨hL1,hL2⟩:=hL L (Qai hLj);obtain ⟨hS1,hS2⟩:=lyok S (Qai hSj);obtain ⟨x0,hx0,htl⟩:=hat j L hLj;have htl3:=tp3 _ _ htl;have hst:=Ze4 (nx:=mN nx) (ok:=mB ot v) (k:=I) hSj hLj;have hSl:S.length<=1000000:=Qa8 (Zcl hS1 hS2) hN;have chl:∀w,(∀l∈chs I w L,l < 2 ^ n)/\(chs I w L).length<=1000:=fun w=>⟨fun l hl=>hL2 l (W6.mp hl).1,Qa8 (Qdl _ _) hL1⟩;refine Zi ⟨_,rfl,_,rfl,a,_,_,_,rfl,rfl,SqL.of ha3,Yh hx0,_,rfl,x0,L,I,0,rfl,htl3,hL1,hkb,fun c0 H4 hc0 hc04 s4=>Zi ?_⟩;have s4':=SmF.of s4;have s34:=s3.trans s4';obtain ⟨ys,hy1,hy2,hy3⟩:=Ly3.smf s4';obtain ⟨dl,hdl,rdl⟩:=hy3 j S hSj;refine ⟨_,rfl,_,rfl,_,rfl,ly,_,_,_,rfl,rfl,SqL.of hy1,Yh hdl,_,rfl,_,rfl,_,rfl,m,dl,c0,nm,b,nx,ot,n,S,chs I 0 L,_,wv,v,tr,rfl,M.smf s34,R,rdl,hS1,hS2,hSl,hc04,(chl 0).1,(chl 0).2,s4'.well z4,hv,hk,fun g0 H5 hg0 hg5 s5=>Zi ?_⟩;have s45:=s4'.trans s5;have hc5:=s5.tup hc04;refine vy (fun σ H'=>∃c g,σ=[some (.ref m),some (.ref a),some (.int (I:Int)),some v,some (.ref ly),some (.ref O),some wv,some (.int (j:Int)),some (.ref c),some (.ref g)]/\H' c=some (.tup ((chs I (yy (mN nx) (mB ot v) I (lwT (mN nx) (mB ot v) I [b] Ls (j + 1)).2 S L) L).map YL))/\H' g=some (.dK (twK (goB (mN nx) (mB ot v) (lwT (mN nx) (mB ot v) I [b] Ls (j + 1)).2 S (chs I (yy (mN nx) (mB ot v) I (lwT (mN nx) (mB ot v) I [b] Ls (j + 1)).2 S L) L))))/\SmF H3 H') (fun N hN=>?_) ?_
   ·refine ⟨_,rfl,g0,_,rfl,.inl hg5,rfl,_,rfl,?_⟩
    rw [qR]
    by_cases hz:goB (mN nx) (mB ot v) (lwT (mN nx) (mB ot v) I [b] Ls (j + 1)).2 S (chs I 0 L)=[]
    ·have ew:yy (mN nx) (mB ot v) I (lwT (mN nx) (mB ot v) I [b] Ls (j + 1)).2 S L=1:=Qa1 hz
     rw [ew] at hN;rw [hz,Qao (by rfl)];obtain ⟨ys2,hz1,hz2,hz3⟩:=(Ly3.smf s4').smf s5;obtain ⟨dl2,hdl2,rdl2⟩:=hz3 j S hSj;refine Wk ⟨_,rfl,_,rfl,a,_,_,_,rfl,rfl,SqL.of (s45.lst ha3),Yh hx0,_,rfl,x0,L,I,1,rfl,s45.tup htl3,hL1,hkb,fun c1 H6 hc1 hc16 s6=>Zi ?_⟩;have s6':=SmF.of s6;refine ⟨_,rfl,_,rfl,_,rfl,ly,_,_,_,rfl,rfl,SqL.of (s6'.lst hz1),Yh hdl2,_,rfl,_,rfl,_,rfl,m,dl2,c1,nm,b,nx,ot,n,S,chs I 1 L,_,wv,v,tr,rfl,M.smf ((s34.trans s5).trans s6'),R,s6'.rd rdl2,hS1,hS2,hSl,hc16,(chl 1).1,(chl 1).2,(s45.trans s6').well z4,hv,hk,fun g1 H7 hg1 hg7 s7=>Zi (hN _ _ ⟨c1,g1,rfl,s7.tup hc16,hg7,(s45.trans s6').trans s7⟩)⟩
    ·have ew:yy (mN nx) (mB ot v) I (lwT (mN nx) (mB ot v) I [b] Ls (j + 1)).2 S L=0:=Qaw hz
     rw [ew] at hN;rw [Qau fun q=>hz (Qby (by injection q with q;lia))];exact YZ (hN _ _ ⟨c0,g0,rfl,hc5,hg5,s45⟩)
   ·rintro σ H7 ⟨c,g,rfl,q1,q2,s7⟩
    have z7:=s7.lst z1;have tp7:∀b xs,H3 b=some (.tup xs)->H7 b=some (.tup xs):=fun b xs z=>s7.tup z;have tpu:∀b xs,H7 b=some (.tup xs)->upd H7 O (.lst (zs++[.ref c])) b=some (.tup xs):=fun b xs z=>by rw [Zh (Xa z z7 fun q=>nomatch q)];exact z
    have s37:=s3.trans s7;have hglf:g≠O:=fun z=>by rw [z,z7] at q2;cases q2
    have hlyl:ly≠O:=fun z=>by
     obtain ⟨w0,Y,hw1,_⟩:=Ly2;rw [z,hlf2] at Y;cases Y;have:(0:Nat)=(lys (mN nx) [b] Ls).length:=hw1;cases Ls with
     | nil=>exact hne rfl
     | cons _ _=>rw [lyl] at this;cases this
    have half:a≠O:=fun z=>by
     obtain ⟨w0,Y,_⟩:=hA;rw [z,Z] at Y;cases Y
    refine ⟨_,rfl,.inl ⟨rfl,_,SqL.of z7⟩,_,rfl,O,_,_,rfl,rfl,z7,YV (by lia),_,rfl,Zi ⟨zs++[.ref c],.ref g,_,_,_,rfl,hi,Za,by rw [Qae,z2];rfl,?_,?_,s37.put Z,?_,fun b xs z=>tpu _ _ (tp7 _ _ (tp3 _ _ z)),by rw [Zh half];exact s7.lst ha3⟩⟩
    ·rw [show Ls.length - (i + 1)=j by lia,hst,Gm hLj,List.reverse_append]
     exact ((z3.smf tp7).smf tpu).cons (tpu _ _ q1)
    ·rw [show Ls.length - (i + 1)=j by lia,hst]
     exact .inr ⟨g,_,rfl,rfl,.inl (by rw [Zh hglf];exact q2)⟩
    ·obtain ⟨w0,Y,hw1,hw2⟩:=Ly3.smf s7
     refine ⟨w0,by rw [Zh hlyl];exact Y,hw1,fun t S' ht=>?_⟩;obtain ⟨a9,y1,y2⟩:=hw2 t S' ht;have ne9:a9≠O:=fun z=>by
      subst z;rcases y2 with y2 | ⟨_,y2⟩ <;> rw [z7] at y2 <;> cases y2
     refine ⟨a9,y1,?_⟩;rcases y2 with y2 | ⟨u,y2⟩
     ·exact .inl (by rw [Zh ne9];exact y2)
     ·exact .inr ⟨u,by rw [Zh ne9];exact y2⟩
  ·rintro σ H3 ⟨zs,wv,u7,u8,u9,rfl,hil,z1,z2,z3,z4,s3,Ly3,tp3,ha3⟩
   rw [hal,Qfr] at z3;refine ⟨_,rfl,.inl ⟨rfl,_,SqL.of z1⟩,O,_,rfl,rfl,z1,_,rfl,k O _ Z ⟨_,Za,z3.1,fun t C ht=>?_⟩ (s3.put Z)⟩;obtain ⟨a9,y1,y2⟩:=z3.2 t C ht;exact ⟨a9,y1,by rw [Zh (Xa y2 z1 fun q=>nomatch q)];exact y2⟩
def xD(K:Af):Sp:=fun vs H Q _=>∃(s:Au) (q:A0) (w:V),vs=[.ref s,w]/\H s=some (.lst q.reverse)/\w=kV (keyOf w)/\npw w<=q.length/\q.length<=100 /\
 ∀pl H',H pl=none->H' pl=some (.lst (q.take (npw w)))->H' s=some (.lst (q.drop (npw w)).reverse)->(∀b o,H b=some o->b≠s->H' b=some o)->Q (.ref pl) H'
theorem xE:YA P w K mg base CX0 3 t.mh t.mi ["stack","word"] (xD K):=by
 have C:=ko P base T TB;refine T.da.F.ok xt (fun vs H Q E h=>?_) (fun cdv A outer s H vs Q E hr h=>?_)
 ·obtain ⟨_,_,_,rfl,_⟩:=h
  rfl
 ·obtain ⟨st,D,x,rfl,hs,hx,hn,hl,k⟩:=h
  have hu:=ZT hr;refine ⟨_,@QSs.out _ _ _ (Zf (Zp (Y4 ({}:Yj (Zg XR) _ ["stack","word"] "part" ["stack"] [0]) (YU rfl T.bf (Zk (Zl C (hr.mono (by decide)) rfl T.dy.m T.dy.F.kp T.dy.b .nil ZG (Zk (qv 1) Ze)) Ze)) (fun _ _ _ _=>Xx) (fun _ _ _ _=>(show QE _ _ (Zkp K "list" rPop (ud 1)) from (kG Qbf PySem.F.slot_list_pop PySem.F.type_list_pop Zfk (qv 1))))))),?_⟩;refine ⟨_,rfl,keyOf x,congrArg (fun z=>[z]) hx,XS (keyOf x),rfl,?_,?_,JS (n:=(XS (keyOf x)).toNat) (fun i zs H2=>i<=npw x/\zs=D.take i/\H2 st=some (.lst (D.drop i).reverse)/\∀b o,H b=some o->b≠st->H2 b=some o) ⟨Qba _,rfl,hs,fun b o e _=>e⟩ ?_ ?_ ?_⟩
  ·have:=qD (keyOf x)
   lia
  ·have:=qD (keyOf x)
   lia
  ·rintro i zs H2 ⟨_,rfl,_,_⟩
   rw [Qa0];exact Qav (Zo (by lia))
  ·rintro i zs H2 R hR hi ⟨O,rfl,h2,Y⟩
   have Z:i < npw x:=hi;have I:i < D.length:=by lia
   rw [Zh9 I] at h2;unfold uR;refine ⟨_,rfl,.inl ⟨rfl,_,SqL.of h2⟩,st,_,D[i],rfl,rfl,h2,Za4 _ _,hR _ _ ⟨Z,?_,?_,fun b o e hb=>?_⟩⟩
   ·rw [take_snoc (Qaf I)]
   ·rw [Za,List.dropLast_concat]
   ·rw [Zh hb]
    exact Y b o e hb
  ·rintro zs H2 ⟨O,rfl,h2,Y⟩ l G
   have J:H l=none:=by
    cases q:H l with
    | none=>rfl
    | some o =>
     by_cases hb:l=st
     ·rw [hb,h2] at G
      cases G
     ·grind
   have hls:st≠l:=Zj h2 G;refine k l _ J Za ?_ fun b o e hb=>?_
   ·rw [Zh hls]
    exact h2
   ·rw [Zh (Zj e J)]
    exact Y b o e hb
def kq(K:Af):Sp:=fun vs H Q _=>∃(t:Au) (q:A0),vs=[.ref t]/\H t=some (.tup q)/\(∀w∈q,G2 w)/\q.length<=60/\∀p H' (ms:Ai),H p=none->H' p=some (.tup (ms.map V.str))->ZA H H'->ms.Perm (XO ((q.filter nmB).map Zh6))->PyProof.Rows.sortedS ms=true->Q (.ref p) H'
theorem kr:YA P w K mg base CX0 3 t.pj t.pk ["words"] (kq K):=by
 have q:=gT P base T TB;refine T.dz.F.ok vY (fun vs H Q E h=>?_) (fun cdv A outer s H vs Q E hr h=>?_)
 ·obtain ⟨_,_,rfl,_⟩:=h
  rfl
 ·obtain ⟨t,D,rfl,O,hw,hl,k⟩:=h
  have hu:=ZT hr;refine ⟨_,@QSs.out _ _ _ (Zf (Zp (Z8 Z5 (by rfl) T.ak ZX (Zk (Zv (zB rfl) (by rfl) T.sr jG (Zk (Z8 (Zak rfl) (by rfl) T.aaf bt_set (Zk (Y4 ({}:Yj (Zg Gf) _ ["words"] "word" [] []) (Wf (qv 0)) (fun _ _ _ _=>(kH (uQ (qw_and (X6 (Zv (show Xb _ (.builtin "isinstance") (rIsi K) from XF) (by rfl) T.ay Ym (Zk (qv 0) (Zk (WY (v:=.ty "str") (by rfl) T.aag bt_str rfl) Ze)))) (Zg6 (X6 (Zl q (hr.mono (by decide)) rfl T.fk.m T.fk.F.kp T.fk.b .nil ZG (Zk (qv 0) Ze)))))))) (fun _ _ _ _=>(qv 0))) Ze)) Ze)) Ze)))),?_⟩;refine ⟨_,rfl,t,rfl,⟨_,SqT.of O⟩,jW (xs:=D) nmB ZA ZA.refl (fun _ _ _ a b=>a.trans b) (fun H1 G=>SqT.of (G _ _ O)) (Qav (Zo (by lia))) (fun x hx H1 G R hR=>?_) (fun x hx H1 R hR=>⟨_,rfl,hR⟩) (fun H1 l G J=>?_)⟩
  ·rcases hw x hx with ⟨y,rfl,Z⟩ | ⟨z,rfl⟩
   ·exact ⟨_,rfl,_,_,_,_,rfl,.str y,yR,_,rfl,Wk ⟨_,rfl,y,rfl,Qa8 Z (by decide),fun H2 I=>⟨_,rfl,hR H2 I⟩⟩⟩
   ·exact ⟨_,rfl,_,_,_,_,rfl,.int z,yS,_,rfl,YZ (hR H1 (ZA.refl H1))⟩
  have fl:(D.filter nmB).length<=60:=Qa8 (Qdl _ _) hl;have ol:=Za3 ((D.filter nmB).map Zh6);rw [Qac] at ol;have I:=G.trans (Zc (o:=.lst (D.filter nmB)) J);refine ⟨l,(D.filter nmB).map Zh6,rfl,SqL.of (by rw [Zh7];exact Za),by rw [Qac];lia,fun a ha=>⟨a,_,rfl,Za,by lia,fun m ms hm hp hs=>⟨m,_,rfl,.inl ⟨SqL.of Za,fun p C=>?_⟩⟩⟩⟩;have Y:ZA H _:=I.trans ((Zc ha).trans (Zc (o:=.lst (ms.map V.str)) hm));exact k p _ ms (ZA.free Y C) Za (Y.trans (Zc C)) hp hs
def xF(K:Af):Sp:=fun vs H Q _=>∃(m:Au) (nm:Ai) (b:Nat) (nx:Ad) (ot:Ax) (w:Nat) (v:V) (q:Bool),vs=[.ref m,.int (w:Int),v]/\M4 H m nm b nx ot/\Runs nx ot nm.length/\b < nx.length/\nx.length<=1000000/\nm.length<=3/\nm.Nodup/\1<=w/\w<=1000000/\Xs q v/\(∀r∈ot,∀x∈r,Xs q x)/\(∃r,r.length=w/\(∀l∈r,l < 2 ^ nm.length)/\Yz (mN nx) (mB ot v) b r=true) /\
 ∀r d kvs H',GZ (mN nx) (mB ot v) b nm.length w r->H d=none->H' d=some (.dK kvs)->Tab kvs nm (fun y=>(valN (ixG nm y) r:Int))->SmF H H'->Q (.ref d) H'
theorem xG:YA P w K mg base CX0 4 t.mj t.mq ["machine","width","wanted"] (xF K):=by
 have D:=kj P base T TB;have G_run:=ok_run P base T TB;have C:=JO P base T TB;have G:=qW P base T TB;refine T.dc.F.ok Yd (fun vs H Q E h=>?_) (fun cdv A outer s H vs Q E hr h=>?_)
 ·obtain ⟨_,_,_,_,_,_,_,_,rfl,_⟩:=h
  rfl
 ·obtain ⟨m,nm,b,nx,ot,w,v,tr,rfl,M,R,hb,hN,hn3,hnd,hw1,hw2,hv,hk,hex,k⟩:=h
  have hu:=ZT hr;refine ⟨_,@QSs.out _ _ _ (Zb (Zn (i:=3) Yd.nd rfl (Or.inl rfl) (Zq Zu (qv 0) Zd))
    (Zb (Zn (i:=4) Yd.nd rfl (Or.inr rfl) (Z8 (yb rfl) (by rfl) T.ak ZX (Zk (Z8 qr (by rfl) T.bf kA (Zk (Zl G (hr.mono (by decide)) rfl T.bj.m T.bj.F.kp T.bj.b .nil ZG (Zk (Zv ZE (by rfl) T.av YT (Zk (qv 3) Ze)) Ze)) Ze)) Ze)))
    (Zb (yT (i:=5) Yd.nd rfl rfl ({}:Yj (Zg Xe) _ ["machine","width","wanted","names","all_letters","letters","number","row"] "place" ["all_letters"] [4]) (YU rfl T.bf (Zk (qv 1) Ze)) (fun _ _ _ _=>Xx) (fun _ _ _ _=>(qv 1)))
    (Zb (YB Qbm rfl (YU rfl T.bf (Zk (Zv ZE (by rfl) T.av YT (Zk (qv 3) Ze)) Ze)) (ZM (i:=6) Yd.nd rfl (Or.inl rfl))
    (Zf (Zn (i:=5) Yd.nd rfl (Or.inl rfl) (Zl C (hr.mono (by decide)) rfl T.bq.m T.bq.F.kp T.bq.b .nil ZG (Zk (qv 0) (Zk (qv 5) (Zk (qv 6) (Zk (qv 2) Ze))))))))
    (Zb (Zn (i:=7) Yd.nd rfl (Or.inl rfl) (Z8 Z5 (by rfl) T.ak ZX (Zk (Y4 ({}:Yj (Zg Xe) _ ["machine","width","wanted","names","all_letters","letters","number","row"] "left" [] []) (WZ (qv 5)) (fun _ _ _ _=>Xx) (fun _ _ _ _=>(Zq (show IxR _ (Zc7 K) from Zu) (qv 0) Zd))) Ze)))
    (Zb (Ye (Zz j8 (Zq Zu (Zl G_run (hr.mono (by decide)) rfl T.rb.m T.rb.F.kp T.rb.b .nil ZG (Zk (qv 0) (Zk (qv 7) Ze))) (WI Jn Zd)) (qv 2) (ZF _))
    (Zf Zdq) Z6)
    (Zf (Zp (Zl D (hr.mono (by decide)) rfl T.dw.m T.dw.F.kp T.dw.b .nil ZG (Zk (qv 3) (Zk (qv 7) Ze))))))))))),?_⟩
  try dsimp only [L2.cxK,L2.cxK2]
  refine L2.let7 ?_;intro U6 U5 U4 U3 U2 U1;obtain ⟨pn,ps,po,h1,hpn,Rs,Ro⟩:=M.ex;refine ⟨_,rfl,m,_,0,_,rfl,rfl,SqT.of h1,rfl,Zi ?_⟩;have Y:(nm.map V.str).length=nm.length:=Qac _;have p8:2 ^ nm.length<=8:=Qc8 (by decide) hn3 (n:=2);refine ⟨_,rfl,pn,_,rfl,.inr (SqT.of hpn),nm.length,congrArg (fun z:Nat=>[V.int (z:Int)]) Y,by lia,_,rfl,fun rg hrg=>⟨rg,2 ^ nm.length,rfl,by rw [Za,Qgj];rfl,by lia,fun al hal=>Zi ?_⟩⟩;have s1:=(Zc (o:=.rng 0 (2 ^ nm.length)) hrg).trans (Zc (o:=.tup ((List.range (2 ^ nm.length)).map fun i:Nat=>V.int (i:Int))) hal);have hal1:upd (upd H rg (.rng 0 (2 ^ nm.length))) al (.tup ((List.range (2 ^ nm.length)).map fun i:Nat=>V.int (i:Int))) al=some (.tup ((List.range (2 ^ nm.length)).map YL)):=Za;generalize upd (upd H rg (.rng 0 (2 ^ nm.length))) al (.tup ((List.range (2 ^ nm.length)).map fun i:Nat=>V.int (i:Int)))=H1 at *;refine ⟨_,rfl,(w:Int),rfl,by lia,by lia,Zaa (n:=(w:Int).toNat) (fun _=>.ref al) (by rw [Qat];exact Qav (YV (by lia))) (fun i _ R' hR=>⟨_,rfl,hR⟩) (fun Z hlt0=>Zi ?_)⟩;rw [Qat];have s2:=s1.trans (Zc (o:=.lst ((List.range w).map fun _=>V.ref al)) hlt0);have Lt0:y0 (upd H1 Z (.lst ((List.range w).map fun _=>V.ref al))) Z (List.replicate w (List.range (2 ^ nm.length))):=by
   refine ⟨_,Za,by rw [Qac,Qay,Qax],fun i L hi=>?_⟩;obtain ⟨h3,rfl⟩:=rep_at hi;exact ⟨al,by rw [Qaj,Qc0 h3];rfl,Zc hlt0 _ _ hal1⟩
  generalize upd H1 Z (.lst ((List.range w).map fun _=>V.ref al))=H2 at *;have hne:List.replicate w (List.range (2 ^ nm.length))≠[]:=fun z=>by
   have:=congrArg List.length z;rw [Qax] at this;have:w=0:=this;lia
  obtain ⟨r1,q1,q2,q3⟩:=hex;have fr:=Zcg (nx:=mN nx) (ok:=mB ot v) (b:=b) (n:=nm.length) (w:=w) (by lia) ⟨r1,q1,q2,q3⟩;have itok:=fun k=>Zce (nx:=mN nx) (ok:=mB ot v) (b:=b) hne ⟨r1,Gj.mpr ⟨q1,q2⟩,q3⟩ k;have itf:=fun k=>y3 (nx:=mN nx) (ok:=mB ot v) (b:=b) (Ls:=List.replicate w (List.range (2 ^ nm.length))) k;have itl:∀k,∀L∈itL (mN nx) (mB ot v) b (List.replicate w (List.range (2 ^ nm.length))) k,L.length<=1000/\∀l∈L,l < 2 ^ nm.length:=fun k L O=>by
   obtain ⟨L0,f1,f2,f3⟩:=(itf k).2 L O;rw [Qea f1] at f2 f3;rw [Qay] at f2;exact ⟨by lia,fun l hl=>Qcm.mp (f3 l hl)⟩
  refine ⟨_,rfl,pn,_,rfl,.inr (SqT.of (s2 _ _ hpn)),_,rfl,by lia,by rw [Y];lia,Jm (lo:=0) (fun i σ H'=>∃(lt:Au) (u6:Option V),σ=[some (.ref m),some (.int (w:Int)),some v,some (.ref pn),some (.ref al),some (.ref lt),u6,none]/\i<=nm.length/\y0 H' lt (itL (mN nx) (mB ot v) b (List.replicate w (List.range (2 ^ nm.length))) i)/\SmF H H') ⟨Z,none,rfl,Qba _,Lt0,SmF.of s2⟩ ?_ ?_⟩
  ·rintro i σ H3 hi ⟨lt,u6,rfl,hil,Lt,s3⟩
   rw [Qat,Y] at hi;rw [Qe7];refine Zi ⟨_,rfl,_,rfl,_,rfl,_,rfl,m,lt,nm,b,nx,ot,nm.length,_,i,v,tr,rfl,M.smf s3,R,hb,hN,Lt,(itok i).1,itl i,by rw [(itf i).1,Qax];exact hw2,by lia,hv,hk,fun p H4 hp Lt4 s4=>Zi ⟨p,_,rfl,hi,Lt4,s3.trans s4⟩⟩
  rintro σ H3 ⟨lt,u6,rfl,hil,⟨as,ha,hal2,hat⟩,s3⟩;rw [Qat,Y] at hal2 hat;have itn:∀L∈itL (mN nx) (mB ot v) b (List.replicate w (List.range (2 ^ nm.length))) nm.length,L≠[]:=by
   obtain ⟨_,⟨r2,g1,_⟩,_⟩:=itok nm.length;intro L O z;obtain ⟨t,ht⟩:=Qct O;have go:∀{r:Aj} {Ls:Ad},RIn r Ls->∀(t:Nat),Ls[t]?≠some []:=by
    intro r Ls
    induction Ls generalizing r with
    | nil=>intro _ t h;cases h
    | cons L0 Ls ih =>
     intro h t ht;obtain ⟨l,r',rfl,h1,h2⟩:=h.uncons;cases t with
     | zero=>cases ht;cases h1
     | succ t=>exact ih h2 t ht
   exact go g1 t (by rw [ht,z])
  have hdl:as.map (hdV H3)=((itL (mN nx) (mB ot v) b (List.replicate w (List.range (2 ^ nm.length))) nm.length).map fun L=>L.headD 0).map YL:=by
   refine Qdw fun t=>?_;rw [Qaj,Qaj,Qaj];cases O:(itL (mN nx) (mB ot v) b (List.replicate w (List.range (2 ^ nm.length))) nm.length)[t]? with
   | none=>rw [List.getElem?_eq_none (by have:=List.getElem?_eq_none_iff.mp O;lia)];rfl
   | some L =>
    obtain ⟨x,e1,e2⟩:=hat t L O;rw [e1];exact congrArg some (Zge e2 (itn L (Qai O))).1
  have hasl:as.length=w:=by rw [hal2,(itf _).1,Qax]
  refine ⟨_,rfl,lt,rfl,⟨_,SqL.of ha⟩,comp_map (xs:=as) (hdV H3) (SqL.of ha) (by rw [hasl];exact Qav (YV (by lia))) (fun x hx R' hR=>?_) (fun l hl=>⟨l,_,rfl,.inl ⟨SqL.of Za,fun J hrw=>Zi ?_⟩⟩)⟩
  ·obtain ⟨t,ht⟩:=Qct hx
   have htl:t < as.length:=(Qah.mp ht).1;obtain ⟨L,O⟩:∃L,(itL (mN nx) (mB ot v) b (List.replicate w (List.range (2 ^ nm.length))) nm.length)[t]?=some L:=⟨_,Qaf (by lia)⟩;obtain ⟨y,e1,e2⟩:=hat t L O;rw [ht] at e1;cases e1;obtain ⟨e3,e4⟩:=Zge e2 (itn L (Qai O));rw [e3] at hR;exact ⟨_,rfl,y,_,0,_,rfl,rfl,SqT.of e2,e4,hR⟩
  rw [hdl] at hrw ⊢;generalize hrr:(itL (mN nx) (mB ot v) b (List.replicate w (List.range (2 ^ nm.length))) nm.length).map (fun L=>L.headD 0)=r at *;have s4:=(Zc (o:=.lst (r.map YL)) hl).trans (Zc (o:=.tup (r.map YL)) hrw);have hr4:upd (upd H3 l (.lst (r.map YL))) J (.tup (r.map YL)) J=some (.tup (r.map YL)):=Za;generalize upd (upd H3 l (.lst (r.map YL))) J (.tup (r.map YL))=H4 at *;have s34:=s3.trans (SmF.of s4);obtain ⟨nv,MA⟩:=Zi3 (M.smf s34) R hb;obtain ⟨r0,c,er⟩:=jg (r:=r) (fun z=>by have:=fr.len;rw [z] at this;have:0=w:=this;lia);refine ⟨_,rfl,_,rfl,m,J,_,_,b,nv,_,_,r,rfl,MA,hr4,fr.lt,by rw [fr.len];exact hw2,fun q H5 hq hq5 s5=>⟨_,rfl,q,_,-1,_,rfl,rfl,SqT.of hq5,by rw [er,Zbi];exact zm _ _,_,rfl,?_⟩⟩;have I:=fr.last;rw [er,YQ] at I;have ev:=Qaz I;have e9:(fun s c=>(ot.getD s []).getD c V.non) (stN nx b r0) c=v:=ev;rw [wK,e9];refine ⟨qO hv hv,_,rfl,?_⟩;rw [show (!decide (v=v))=false by rw [Qao rfl];rfl];refine YZ ?_;have hr5:=s5 _ _ hr4;have s35:=s34.trans (SmF.of s5);refine ⟨_,rfl,_,rfl,pn,J,nm,r.map (fun l:Nat=>(l:Int)),fun y=>(valN (ixG nm y) r:Int),rfl,s35.tup hpn,by rw [hr5,Qb4];rfl,hn3,by rw [Qac,fr.len];exact hw2,fun c hc=>?_,fun i y hy=>?_,fun d kvs H6 hd hd6 T s6=>?_⟩
  ·obtain ⟨l,_,rfl⟩:=Qa2.mp hc
   exact Qch _
  ·rw [vN]
   show _=(valN (ixG nm y) r:Int);rw [show ixG nm y=i from W4 hnd hy]
  ·exact k r d kvs H6 fr (s35.free hd) hd6 T (s35.trans (SmF.of s6))
def gU(K:Af):Sp:=fun vs H Q _=>∃(tw C D:Au) (ys:Ai) (q:A0) (kvs:Ay) (cols:Str->Int) (pl:Nat) (kp:Ak) (o:Int) (lt:Ak),vs=[.ref tw,.ref C,.int (pl:Int),.ref D]/\H tw=some (.tup q)/\q.length<=100/\H C=some (.dK kvs)/\Zie kvs ys cols/\H D=some (.tup (kp.map V.int))/\(∀w∈q,zM ys w)/\Xz q/\X0 ys cols pl kp q=([o],lt)/\lt.length<=kp.length /\
 ∀t l H',H t=none->H' t=some (.tup [.int o,.ref l])->H' l=some (.lst (lt.map V.int))->ZA H H'->Q (.ref t) H'
theorem gW:YA P w K mg base CX0 4 t.rr t.sf ["words","columns","place","kept"] (gU K):=by
 have J:=G8 P base T TB;have I:=xC P base T TB;have O:=yH P base T TB;have D:=x5 P base T TB;have G:=xE P base T TB;refine T.fq.F.ok Xh (fun vs H Q E h=>?_) (fun cdv A outer s H vs Q E hr h=>?_)
 ·obtain ⟨_,_,_,_,_,_,_,_,_,_,_,rfl,_⟩:=h
  rfl
 ·obtain ⟨tw,dv,kt,ys,C,kvs,cols,pl,kp,o,lt,rfl,ht,hl,hd,hc,hk,hw,he,hst,hkl,k⟩:=h
  have hu:=ZT hr;refine ⟨_,@QSs.out _ _ _ (Zb (Zn (i:=4) Xh.nd rfl (Or.inl rfl) (X7 Ze))
    (Zb (Zn (i:=5) Xh.nd rfl (Or.inl rfl) (X7 Ze))
    (Zb (YB Qbm rfl (uW rfl T.rh (qv 0)) (ZM (i:=6) Xh.nd rfl (Or.inl rfl))
    (Zb (Zn (i:=7) Xh.nd rfl (Or.inl rfl) (Zl G (hr.mono (by decide)) rfl T.da.m T.da.F.kp T.da.b .nil ZG (Zk (qv 4) (Zk (qv 6) Ze))))
    (Zf (Ye (X6 (Zl J (hr.mono (by decide)) rfl T.bb.m T.bb.F.kp T.bb.b .nil ZG (Zk (qv 6) Ze)))
    (Zb (Zn (i:=8) Xh.nd rfl (Or.inl rfl) (WI Jn (Zq Zu (qv 3) (Zv ZE (by rfl) T.av YT (Zk (qv 5) Ze)))))
    (Zb (Y3 (Xl Qbf Qbk Qbl Yi (qv 5) (Zk (Zl O (hr.mono (by decide)) rfl T.dq.m T.dq.F.kp T.dq.b .nil ZG (Zk (qv 6) (Zk (qv 7) (Zk (qv 8) Ze)))) Ze)))
    (Zf (Y3 (Xl Qbf Qbk Qbl Yi (qv 4) (Zk (Zl I (hr.mono (by decide)) rfl T.cz.m T.cz.F.kp T.cz.b .nil ZG (Zk (qv 6) (Zk (qv 7) (Zk (qv 8) (Zk (Zq Zy (qv 5) (WI Jn Zd)) Ze))))) Ze)))))) (Zf (Ye (X6 (Zv XF (by rfl) T.ay Ym (Zk (qv 6) (Zk (WY (v:=.ty "int") (by rfl) T.rf k9 rfl) Ze))))
    (Zf (Y3 (Xl Qbf Qbk Qbl Yi (qv 4) (Zk (WI Jn (Zm Xw (Zm xH (qv 6) (qv 2)) Zd)) Ze)))) (Zf (Ye (Zz (xN hu) (qv 6) (qv 1) (by with_unfolding_all rfl))
    (Zf (Y3 (Xl Qbf Qbk Qbl Yi (qv 4) (Zk (Jb hu (qv 1) (qv 6) (fun _ _=>rfl)) Ze)))) (Zf (Y3 (Xl Qbf Qbk Qbl Yi (qv 4) (Zk (Zl D (hr.mono (by decide)) rfl T.cx.m T.cx.F.kp T.cx.b .nil ZG (Zk (qv 6) (Zk (qv 7) Ze))) Ze))))))))))))
    (Zf (Zp (ZI (Zk (kG Qbf PySem.F.slot_list_pop PySem.F.type_list_pop Zfk (qv 4)) (Zk (qv 5) Ze)))))))),?_⟩
  try dsimp only [L2.cxK,L2.cxK2]
  refine L2.let4 ?_;intro U3 U2 U1;refine ⟨Zgi,fun st Y=>Zi ⟨Zgi,fun Z hla0=>Zi ?_⟩⟩;have s1:=Zc (o:=.lst []) Y;have s2:=s1.trans (Zc (o:=.lst []) hla0);have hsl:st≠Z:=Zj (Za (H:=H) (a:=st) (o:=.lst [])) hla0;have hlaH:H Z=none:=s1.free hla0;refine ⟨_,rfl,tw,_,rfl,SqT.of (s2 _ _ ht),uX (K:=K) (a:=tw) (xs:=C) (fun i σ H2=>∃u6 u7 u8,σ=[some (.ref tw),some (.ref dv),some (.int (pl:Int)),some (.ref kt),some (.ref st),some (.ref Z),u6,u7,u8]/\i<=C.length/\H2 st=some (.lst ((X0 ys cols pl kp (C.drop (C.length - i))).1.map V.int).reverse)/\H2 Z=some (.lst ((X0 ys cols pl kp (C.drop (C.length - i))).2.map V.int))/\ZA H H2) ⟨none,none,none,rfl,Qba _,?_,?_,s2⟩ (fun i σ H2 _ ⟨_,_,_,_,_,_,_,s⟩=>SqT.of (s _ _ ht)) ?_ ?_⟩
  ·rw [Qhm,Qe0,Zh hsl]
   exact Za
  ·rw [Qhm,Qe0]
   exact Za
  ·rintro i x σ H2 hx ⟨u6,u7,u8,rfl,hi0,h2s,h2l,s3⟩
   obtain ⟨hi,hx⟩:=rev_at hx;have ed:C.drop (C.length - (i + 1))=x::C.drop (C.length - i):=by
    rw [show C.length - (i + 1)=C.length - 1 - i by lia,Qcx (by lia),show C.length - 1 - i + 1=C.length - i by lia];congr 1;exact (Qah.mp hx).2
   have hwx:=hw x (Qai hx);have hen:=qF C (C.length - (i + 1)) he;have hmo:=yn ys cols pl kp C (C.length - (i + 1));rw [hst] at hmo;rw [ed] at hen hmo ⊢;have hln:=zN (ys:=ys) (cols:=cols) (pl:=pl) (kp:=kp) (C.drop (C.length - i)) fun w h=>hw w (Qf2 h);have hle2:=Zbe (C.drop (C.length - i));rw [Qcn] at hle2;have hmo2:=ym ys cols pl kp x (C.drop (C.length - i));have hlb:=wu ys cols pl kp (C.drop (C.length - i));rw [Qcn] at hlb;generalize C.drop (C.length - i)=r at *;have hn:=hen.1;have eC:∀z:V,X0 ys cols pl kp (z::r)=match z with
    | .str y =>
     if y∈allR then (okI y ((X0 ys cols pl kp r).1.take (npw z)) (-(kp.getD (X0 ys cols pl kp r).2.length 0)) (ktI y ((X0 ys cols pl kp r).1.take (npw z)) (-(kp.getD (X0 ys cols pl kp r).2.length 0)))::(X0 ys cols pl kp r).1.drop (npw z),(X0 ys cols pl kp r).2++[ktI y ((X0 ys cols pl kp r).1.take (npw z)) (-(kp.getD (X0 ys cols pl kp r).2.length 0))])
     else if y∈ys then (cols y::(X0 ys cols pl kp r).1.drop (npw z),(X0 ys cols pl kp r).2)
     else (oaI y ((X0 ys cols pl kp r).1.take (npw z))::(X0 ys cols pl kp r).1.drop (npw z),(X0 ys cols pl kp r).2)
    | .int z'=>(-(bt z' pl)::(X0 ys cols pl kp r).1.drop (npw z),(X0 ys cols pl kp r).2)
    | _=>X0 ys cols pl kp r:=fun z=>by cases z <;> rfl
   have eX:=eC x;generalize X0 ys cols pl kp r=P at *;obtain ⟨q,l2⟩:=P
   try dsimp only at *
   have hkx:x=kV (keyOf x)/\GA x=true:=by
    rcases hwx with ⟨y,rfl,_⟩ | ⟨y,rfl,_⟩ | ⟨y,rfl,_⟩ | ⟨z,rfl,_⟩ <;> exact ⟨rfl,rfl⟩
   refine ⟨_,rfl,_,rfl,st,q.map V.int,x,rfl,h2s,hkx.1,by rw [Qac];lia,by rw [Qac];lia,fun pp H3 hpp0 hpp h3s o3=>Zi ?_⟩;rw [<-Qew] at hpp;rw [<-Qeg] at h3s;have h3l:=o3 _ _ h2l hsl.symm;have s4:ZA H H3:=fun b o e=>o3 b o (s3 b o e) (Zj e Y);have hln3:(q.take (npw x)).length=npw x:=by rw [Qa0];lia
   have hps:pp≠st:=fun z=>by rw [z,h2s] at hpp0;cases hpp0
   have hpl2:pp≠Z:=fun z=>by rw [z,h2l] at hpp0;cases hpp0
   refine ⟨_,rfl,x,rfl,hkx.2,_,rfl,?_⟩;have sml:((q.drop (npw x)).map V.int).reverse.length < sizeLine:=by
    rw [Qe1,Qac,Qcn];exact Zo (by lia)
   have fin:∀(v:Int) (Hx:Hp),X0 ys cols pl kp (x::r)=(v::q.drop (npw x),l2)->ZA H3 Hx->upd Hx st (.lst (((q.drop (npw x)).map V.int).reverse++[.int v])) st=some (.lst ((X0 ys cols pl kp (x::r)).1.map V.int).reverse)/\upd Hx st (.lst (((q.drop (npw x)).map V.int).reverse++[.int v])) Z=some (.lst ((X0 ys cols pl kp (x::r)).2.map V.int))/\ZA H (upd Hx st (.lst (((q.drop (npw x)).map V.int).reverse++[.int v]))):=fun v Hx e sx=>by
    rw [e];refine ⟨by rw [Za,Qbu,Qdt],by rw [Zh hsl.symm];exact sx _ _ h3l,Ys (s4.trans sx) Y⟩
   rcases hwx with ⟨y,rfl,hy,hny,hn1,hn2⟩ | ⟨y,rfl,hy,hna,hny,hnp⟩ | ⟨y,rfl,hy,hna,hnp⟩ | ⟨z,rfl,hz,hnp⟩
   ·show if inV (.str y) (allR.map V.str)=true then _ else _
    rw [ZN,Qao hy];have eX:X0 ys cols pl kp (.str y::r)=(okI y (q.take (npw (.str y))) (-(kp.getD l2.length 0)) (ktI y (q.take (npw (.str y))) (-(kp.getD l2.length 0)))::q.drop (npw (.str y)),l2++[ktI y (q.take (npw (.str y))) (-(kp.getD l2.length 0))]):=by
     rw [eX];exact Qa1 hy
    have hkk:l2.length < kp.length:=by
     rw [eX] at hmo;simp only [Qae,Qce,Qfc] at hmo;lia
    refine Wk ⟨_,rfl,_,rfl,Z,_,rfl,.inl (SqL.of h3l),kt,_,_,.int (kp.getD l2.length 0),rfl,rfl,SqT.of (s4 _ _ hk),?_,_,rfl,?_⟩
    ·rw [Qac]
     exact Z0 _ rfl hkk
    try dsimp only
    generalize -(kp.getD l2.length 0)=hh at *;refine Zi ?_;refine ⟨_,rfl,.inl ⟨rfl,_,SqL.of h3l⟩,_,rfl,_,rfl,_,rfl,y,pp,q.take (npw (.str y)),hh,rfl,hpp,by lia,hy,(fun h=>by have:=hn2 h;lia),fun H4 s5=>⟨Z,_,_,rfl,rfl,s5 _ _ h3l,?_,?_⟩⟩
    ·rw [Qac]
     exact Zo (by lia)
    have h5s:upd H4 Z (.lst (l2.map V.int++[.int (ktI y (q.take (npw (.str y))) hh)])) st=some (.lst ((q.drop (npw (.str y))).map V.int).reverse):=by rw [Zh hsl];exact s5 _ _ h3s
    have h5p:upd H4 Z (.lst (l2.map V.int++[.int (ktI y (q.take (npw (.str y))) hh)])) pp=some (.lst ((q.take (npw (.str y))).map V.int)):=by rw [Zh hpl2];exact s5 _ _ hpp
    have h5l:upd H4 Z (.lst (l2.map V.int++[.int (ktI y (q.take (npw (.str y))) hh)])) Z=some (.lst (l2.map V.int++[.int (ktI y (q.take (npw (.str y))) hh)])):=Za;have s6:ZA H (upd H4 Z (.lst (l2.map V.int++[.int (ktI y (q.take (npw (.str y))) hh)]))):=Ys (s4.trans s5) hlaH;generalize upd H4 Z (.lst (l2.map V.int++[.int (ktI y (q.take (npw (.str y))) hh)]))=H5 at *;refine ⟨_,rfl,.inl ⟨rfl,_,SqL.of h5s⟩,_,rfl,_,rfl,_,rfl,_,rfl,1,rfl,Z,_,-1,.int (ktI y (q.take (npw (.str y))) hh),rfl,rfl,SqL.of h5l,zm _ _,y,pp,q.take (npw (.str y)),hh,_,rfl,h5p,by lia,hy,(fun h=>by have:=hn2 h;lia),fun H6 s7=>⟨st,_,_,rfl,rfl,s7 _ _ h5s,sml,_,_,_,rfl,hi,?_,?_,Ys (s6.trans s7) Y⟩⟩
    ·rw [Za,eX,Qbu,Qdt]
    ·rw [Zh hsl.symm,eX,Qa6]
     exact s7 _ _ h5l
   ·show if inV (.str y) (allR.map V.str)=true then _ else _
    rw [ZN,Qau hna];have eX:X0 ys cols pl kp (.str y::r)=(oaI y (q.take (npw (.str y)))::q.drop (npw (.str y)),l2):=by
     rw [eX];show (if y∈allR then _ else if y∈ys then _ else _)=_;rw [Qaw hna,Qaw hny]
    refine YZ ⟨_,rfl,_,_,_,_,rfl,.str y,WX,_,rfl,YZ ⟨_,rfl,_,rfl,dv,Yf kvs (.inr y),rfl,.inl ⟨kvs,.inr y,.inl (s4 _ _ hd),rfl,rfl⟩,_,rfl,?_⟩⟩;show if (Yf kvs (.inr y)).isSome=true then _ else _;rw [hc.2 y hny];refine YZ ⟨_,rfl,.inl ⟨rfl,_,SqL.of h3s⟩,_,rfl,_,rfl,y,pp,q.take (npw (.str y)),rfl,hpp,hy,by rw [hln3,hnp],fun H4 s5=>?_⟩;obtain ⟨f1,f2,f3⟩:=fin _ H4 eX s5;exact ⟨st,_,_,rfl,rfl,s5 _ _ h3s,sml,_,_,_,rfl,hi,f1,f2,f3⟩
   ·show if inV (.str y) (allR.map V.str)=true then _ else _
    rw [ZN,Qau hna];have eX:X0 ys cols pl kp (.str y::r)=(cols y::q.drop (npw (.str y)),l2):=by
     rw [eX];show (if y∈allR then _ else if y∈ys then _ else _)=_;rw [Qaw hna,Qa1 hy]
    refine YZ ⟨_,rfl,_,_,_,_,rfl,.str y,WX,_,rfl,YZ ⟨_,rfl,_,rfl,dv,Yf kvs (.inr y),rfl,.inl ⟨kvs,.inr y,.inl (s4 _ _ hd),rfl,rfl⟩,_,rfl,?_⟩⟩;show if (Yf kvs (.inr y)).isSome=true then _ else _;rw [hc.1 y hy];obtain ⟨f1,f2,f3⟩:=fin _ H3 eX (ZA.refl _);exact Wk ⟨_,rfl,.inl ⟨rfl,_,SqL.of h3s⟩,_,rfl,_,rfl,dv,_,rfl,.inl ⟨kvs,.inr y,.inl (s4 _ _ hd),rfl,(hc.1 y hy).symm⟩,st,_,_,rfl,rfl,h3s,sml,_,_,_,rfl,hi,f1,f2,f3⟩
   ·show if inV (.int z) (allR.map V.str)=true then _ else _
    rw [Zbf];refine YZ ⟨_,rfl,_,_,_,_,rfl,.int z,WW,_,rfl,Wk ⟨_,rfl,.inl ⟨rfl,_,SqL.of h3s⟩,_,rfl,_,rfl,_,_,rfl,rfl,Qch pl,_,_,rfl,rfl,_,rfl,?_⟩⟩;have ev:-(Builtin.bitAnd (z / 2 ^ (pl:Int).toNat) 1)=-(bt z pl):=by
     rw [and_1,Qat]
     rfl
    try dsimp only
    rw [ev];obtain ⟨f1,f2,f3⟩:=fin _ H3 eX (ZA.refl _);exact ⟨st,_,_,rfl,rfl,h3s,sml,_,_,_,rfl,hi,f1,f2,f3⟩
  ·rintro σ H2 ⟨u6,u7,u8,rfl,hi0,h2s,h2l,s3⟩
   rw [Qfr,Qei,hst] at h2s h2l;refine ⟨_,rfl,.inl ⟨rfl,_,SqL.of h2s⟩,st,_,.int o,rfl,rfl,h2s,rfl,_,rfl,zi,fun tt htt=>?_⟩;have hlt:upd H2 st (.lst []) Z=some (.lst (lt.map V.int)):=by rw [Zh hsl.symm];exact h2l
   have s5:ZA H (upd H2 st (.lst [])):=Ys s3 Y;exact k tt Z _ (s5.free htt) Za (Zc htt _ _ hlt) (s5.trans (Zc htt))
def GP(P:An)(w:Ar)(K:Af)(mg:Ae)(base:Heap):Sp:=fun vs H Q _=>∃(κ:Type) (Y:DecidableEq κ) (sk:SK κ) (pn f:Au) (nm:Ai) (b:κ) (O:V) (nx:κ->List κ) (ot:κ->List V) (U:List κ) (τ:Sp),vs=[.ref pn,O,.ref f]/\H pn=some (.tup (nm.map V.str))/\sk.at_ H b O/\b∈U/\(∀s∈U,(nx s).length<=8/\(ot s).length<=8/\∀x∈nx s,x∈U)/\U.length<=1000000/\nm.length<=3/\YE P w K mg base 12 f H τ /\
 (∀(s:κ) (I:V) (H1:Hp) (J:VK),s∈U->sk.at_ H1 s I->ZA H H1->(∀t G D C H2,H2 t=some (.tup [.ref G,.ref D])->SqF H1 H2 G C->StA sk H2 (nx s) C->SqF H1 H2 D (ot s)->ZA H1 H2->J (.ref t) H2)->τ [I] H1 J E0) /\
 ∀p q m (l:List κ) C H',BfE nx b l->H' p=some (.tup [.ref q,.ref m])->H q=none->H' q=some (.lst C)->StA sk H' l C->M4 H' m nm 0 (rnG nx l) (l.map ot)->ZA H H'->Q (.ref p) H'
theorem Wj:YA P w K mg base CX0 13 t.ix t.iy ["names","begin","step_of"] (GP P w K mg base):=by
 have I:=qY P base T TB;refine T.ao.F.ok ZV (fun vs H Q E h=>?_) (fun cdv A outer s H vs Q E hr h=>?_)
 ·obtain ⟨_,_,_,_,_,_,_,_,_,_,_,_,rfl,_⟩:=h
  rfl
 ·obtain ⟨κ,_,sk,pn,f,nm,b,bv,nx,ot,U,τ,rfl,hpn,hbv,hb,hU,h2,hn3,hc,hτ,k⟩:=h
  have hu:=ZT hr;refine ⟨_,@QSs.out _ _ _ (Zb (Zn (i:=3) ZV.nd rfl (Or.inr rfl) (X7 (Zk (qv 1) Ze)))
    (Zb (Zn (i:=4) ZV.nd rfl (Or.inr rfl) (QE.or (Zav (kX hr) (qv 1) Zd) (vm (zG (qv 1) Zd vk) rfl rfl (fun z=>nomatch z) (by decide))))
    (Zb (Zn (i:=5) ZV.nd rfl (Or.inl rfl) (X7 Ze))
    (Zb (Zn (i:=6) ZV.nd rfl (Or.inl rfl) (X7 Ze))
    (Zb (kF Qbm (Zz Zdj (Zv ZE (by rfl) T.av YT (Zk (qv 5) Ze)) (Zv ZE (by rfl) T.av YT (Zk (qv 3) Ze)) (ZF _))
    (Zb (Zn (i:=7) ZV.nd rfl (Or.inl rfl) (Zd0 (k:=12) 2 (hr.mono (by decide)) (Zk (Zq Zy (qv 3) (Zv ZE (by rfl) T.av YT (Zk (qv 5) Ze))) Ze)))
    (Zb (Y3 (Xl Qbf Qbk Qbl Yi (qv 5) (Zk (Z8 Z5 (by rfl) T.ak ZX (Zk (Y4 ({}:Yj (Zg Xq) _ ["names","begin","step_of","states","numbers","steps","out","told"] "state" ["states","numbers"] [3,4]) (QI.or (WZ (Zq Zu (qv 7) Zd)) (Wf (Zq Zu (qv 7) Zd))) (fun _ _ _ _=>Xx) (fun _ _ _ _=>(Zl I (hr.mono (by decide)) rfl T.ck.m T.ck.F.kp T.ck.b .nil ZG (Zk (qv 0) (Zk (qv 1) (Zk (qv 2) Ze)))))) Ze)) Ze)))
    (Zf (Y3 (Xl Qbf Qbk Qbl Yi (qv 6) (Zk (Z8 Z5 (by rfl) T.ak ZX (Zk (Zq Zu (qv 7) Zd) Ze)) Ze)))))))
    (Zf (Zp (ZI (Zk (qv 3) (Zk (ZI (Zk (Z8 Z5 (by rfl) T.ak ZX (Zk (qv 0) Ze)) (Zk Zd (Zk (Z8 Z5 (by rfl) T.ak ZX (Zk (qv 5) Ze)) (Zk (Z8 Z5 (by rfl) T.ak ZX (Zk (qv 6) Ze)) Ze))))) Ze)))))))))),?_⟩
  try dsimp only [L2.cxK,L2.cxK2]
  refine L2.let6 ?_;intro U5 U4 U3 U2 U1;have hr:∀s∈U,∀x∈nx s,x∈U:=fun s h=>(hU s h).2.2;refine ⟨_,rfl,Zdc,fun st hst=>?_⟩;have s1:=Zc (o:=.lst [bv]) hst;refine Zi ?_;have begun:∀(C:Au) (H3:Hp),H C=none->H3 st=some (.lst [bv])->sk.dic H3 C [b]->sk.at_ H3 b bv->ZA H H3->U2 { nx:=fun _ H'=>Q .non H',rt:=Q } [some (.ref pn),some bv,some (.ref f),some (.ref st),some (.ref C),none,none,none] H3:=by
   intro C H3 hndH hst3 hnd3 hbv3 s3;obtain ⟨ond,hond,ndT,ndL⟩:=SK.ne hnd3;refine ⟨Zgi,fun pp hpp=>Zi ⟨Zgi,fun G hpo=>Zi ?_⟩⟩;have sp:=Zc (o:=.lst []) hpp;have so:=sp.trans (Zc (o:=.lst []) hpo);have hppH:H pp=none:=s3.free hpp;have hpoH:H G=none:=s3.free (sp.free hpo);have pst:pp≠st:=(Zj hst3 hpp).symm;have pnd:pp≠C:=(Zj hond hpp).symm;have ppo:pp≠G:=Zj Za hpo;have ost:G≠st:=(Zj (sp _ _ hst3) hpo).symm;have oNd:G≠C:=(Zj (sp _ _ hond) hpo).symm;have rl:∀{H:Hp} {zs:A0} {i:Nat},W3 H zs (xk nx b i)->zs.length=i:=fun z=>by
    have:=z.1;unfold xk at this;rw [Qac,Qay] at this;exact this
   have ol:∀{H:Hp} {zs:A0} {i:Nat},W3 H zs (zT nx ot b i)->zs.length=i:=fun z=>by
    have:=z.1;unfold zT at this;rw [Qac,Qay] at this;exact this
   have J:∀{Ha Hb:Hp},ZA Ha Hb->∀b xs,Ha b=some (.tup xs)->Hb b=some (.tup xs):=fun s b xs e=>s _ _ e;refine Za2 (fun σ H2=>∃(i:Nat) (u7:Option V) (zs os ws:A0),σ=[some (.ref pn),some bv,some (.ref f),some (.ref st),some (.ref C),some (.ref pp),some (.ref G),u7]/\H2 st=some (.lst ws)/\StA sk H2 (bfN nx b i) ws/\sk.dic H2 C (bfN nx b i)/\H2 pp=some (.lst zs)/\H2 G=some (.lst os)/\W3 H2 zs (xk nx b i)/\W3 H2 os (zT nx ot b i)/\(∀j,j < i->j < (bfN nx b j).length)/\i<=(bfN nx b i).length/\ZA H H2) (fun _ H2=>match H2 pp with | some (.lst zs)=>U.length - zs.length | _=>0) ⟨0,none,[],[],[bv],rfl,so _ _ hst3,StA.one (SK.keep hbv3 (J so)),SK.stay hnd3 (fun o e=>so _ _ e) (J so),Zc hpo _ _ Za,Za,W3.nil,W3.nil,(fun j hj=>absurd hj (Qd0 _)),Qba _,s3.trans so⟩ ?_;rintro σ H4 ⟨i,u7,zs,os,ws,rfl,hst4,hA4,hnd4,Y,hpo4,Rz,Ro,hgo,hil,s4⟩;have hzl:=rl Rz;have hol:=ol Ro;have hlen:=w6 hb hr i;have hnod:=JF (nx:=nx) (b:=b) i;have hinU:=gB hb hr i;refine ⟨_,rfl,pp,_,rfl,.inl (SqL.of Y),_,rfl,st,_,rfl,.inl (SqL.of hst4),_,_,rfl,rfl,_,rfl,?_⟩;rw [hzl,hA4.1];refine k4 (fun hlt=>?_) (fun hlt=>?_)
   ·have hlt':i < (bfN nx b i).length:=by
     have:=Qaz hlt;lia
    obtain ⟨si,hsi⟩:∃si,(bfN nx b i)[i]?=some si:=⟨_,Qaf hlt'⟩;have hsU:si∈U:=hinU _ (Qai hsi);obtain ⟨r8,o8,rU⟩:=hU si hsU;obtain ⟨sv,hsv,hat⟩:=hA4.2 i si hsi;have eR:=gC (nx:=nx) (b:=b) hsi;have eO:=gD (nx:=nx) (ot:=ot) (b:=b) hsi;have eS:=zS (nx:=nx) (b:=b) hsi;refine ⟨fun σ' H'=>∃(u7:Option V) (zs' os' D:A0),σ'=[some (.ref pn),some bv,some (.ref f),some (.ref st),some (.ref C),some (.ref pp),some (.ref G),u7]/\H' st=some (.lst D)/\StA sk H' (bfN nx b (i + 1)) D/\sk.dic H' C (bfN nx b (i + 1))/\H' pp=some (.lst zs')/\H' G=some (.lst os')/\W3 H' zs' (xk nx b (i + 1))/\W3 H' os' (zT nx ot b (i + 1))/\ZA H H',?_,?_⟩
    ·rintro σ' H' ⟨u8,zs',os',D,rfl,g1,gA,g2,g3,g4,g5,g6,s5⟩
     have hpre:(bfN nx b i).length<=(bfN nx b (i + 1)).length:=by
      obtain ⟨r,e⟩:=Jz (nx si) (bfN nx b i);rw [eS,e,Qae];lia
     refine ⟨U.length - (i + 1),?_,?_,i + 1,u8,zs',os',D,rfl,g1,gA,g2,g3,g4,g5,g6,fun j hj=>?_,by lia,s5⟩
     ·rw [Y]
      show U.length - (i + 1) < U.length - zs.length;lia
     ·rw [g3]
      show _=U.length - zs'.length;rw [rl g5]
     ·by_cases hji:j=i
      ·rw [hji]
       exact hlt'
      ·exact hgo j (by lia)
    ·refine ⟨f,τ,rfl,hc.frz s4.frz,_,rfl,_,rfl,pp,_,rfl,.inl (SqL.of Y),st,_,_,sv,rfl,rfl,SqL.of hst4,by rw [hzl];exact Yh hsv,JW.refl _,hτ si sv H4 _ hsU hat s4 fun tt r1 r2 ws0 H5 htt hr1 hA5 hr2 s5=>?_⟩
     refine Zi ?_;generalize hl0:bfN nx b i=l0 at *;have hst5:=s5 _ _ hst4;have hnd5:sk.dic H5 C l0:=SK.stay hnd4 (fun o e=>s5 _ _ e) (J s5);have hpp5:=s5 _ _ Y;have hpo5:=s5 _ _ hpo4;obtain ⟨ond4,hond4,nd4T,nd4L⟩:=SK.ne hnd4;have ndn:∀{r:Au} {ys:A0},SqF H4 H5 r ys->r≠st/\r≠C/\r≠pp/\r≠G:=fun {r ys} z=>by
      have lst:∀{q:Au} {o:HO},H4 q=some o->(∀xs,o≠.tup xs)->r≠q:=fun {q o} e ht e2=>by
       subst e2;rcases z with z | ⟨_,z⟩
       ·rw [s5 _ _ e] at z
        exact ht ys (Option.some.inj z)
       ·rw [e] at z;cases z
      exact ⟨lst hst4 (fun _ z=>nomatch z),lst hond4 nd4T,lst Y (fun _ z=>nomatch z),lst hpo4 fun _ z=>nomatch z⟩
     obtain ⟨rst,rnd,_,_⟩:=ndn hr1;refine ⟨_,rfl,.inl ⟨rfl,_,SqL.of hpp5⟩,?_⟩;have hr1':H5 r1=some (.tup ws0)\/H5 r1=some (.lst ws0):=hr1.imp id (fun z=>z.1);have w8:ws0.length<=8:=by rw [hA5.1];exact r8
     refine Zep (a:=r1) (xs:=ws0) (fun R hR=>⟨_,rfl,tt,_,0,_,rfl,rfl,SqT.of htt,rfl,hR⟩) hr1' (fun j zs H'=>zs=((nx si).take j).map (fun x=>YL ((bfN nx b (i + 1)).idxOf x))/\(∃D,H' st=some (.lst D)/\StA sk H' (((nx si).take j).foldl Yt l0) D)/\sk.dic H' C (((nx si).take j).foldl Yt l0)/\(∀b o,H5 b=some o->b≠st->b≠C->H' b=some o)/\∀b,H5 b=none->H' b=none) ⟨rfl,⟨ws,hst5,hA4.keep (J s5)⟩,hnd5,(fun _ _ e _ _=>e),fun _ e=>e⟩ ?_ ?_ ?_ ?_
     ·rintro j zs H6 ⟨rfl,_⟩
      rw [Qac,Qa0];exact Qav (Zo (by lia))
     ·rintro j zs H6 ⟨_,_,_,g3,_⟩ o e
      exact g3 _ _ e rst rnd
     ·rintro j x zs H6 R hR hx ⟨rfl,⟨D,g1,gA⟩,g2,g3,g4⟩
      have hj:j < (nx si).length:=by rw [<-hA5.1];exact (Qah.mp hx).1
      obtain ⟨s',hs'⟩:∃s',(nx si)[j]?=some s':=⟨_,Qaf hj⟩;have tp6:∀b xs,H5 b=some (.tup xs)->H6 b=some (.tup xs):=fun b xs e=>g3 _ _ e (Xa e hst5 (fun z=>nomatch z)) (fun z=>by rw [z,s5 _ _ hond4] at e;exact nd4T xs (Option.some.inj e));obtain ⟨v',hv',hat'⟩:=hA5.2 j s' hs';rw [hx] at hv';cases hv';have hat6:=SK.keep hat' tp6;have e1:((nx si).take (j + 1)).foldl Yt l0=Yt (((nx si).take j).foldl Yt l0) s':=by
       rw [take_snoc hs',Qc2]
       rfl
      have e2:(bfN nx b (i + 1)).idxOf s'=(Yt (((nx si).take j).foldl Yt l0) s').idxOf s':=by
       have e3:(nx si).foldl Yt l0=((nx si).drop (j + 1)).foldl Yt (((nx si).take (j + 1)).foldl Yt l0):=by rw [<-Qc2,Qc4]
       obtain ⟨r,e4⟩:=Jz ((nx si).drop (j + 1)) (((nx si).take (j + 1)).foldl Yt l0);rw [eS,e3,e4,e1,Zar (GR.mpr (.inr rfl))]
      have hnj:(((nx si).take j).foldl Yt l0).Nodup:=qI _ _ hnod;have hlj:(((nx si).take j).foldl Yt l0).length < 10000000:=by
       have:=Zbo ((nx si).take j) l0;rw [Qa0] at this;lia
      have ew:((nx si).take (j + 1)).map (fun x=>YL ((bfN nx b (i + 1)).idxOf x))=((nx si).take j).map (fun x=>YL ((bfN nx b (i + 1)).idxOf x))++[YL ((bfN nx b (i + 1)).idxOf s')]:=by
       rw [take_snoc hs',Qa6]
       rfl
      rw [ew,e1] at hR;rw [e2] at hR;generalize ((nx si).take j).foldl Yt l0=l' at *;refine yesT ⟨_,rfl,_,rfl,_,rfl,κ,_,sk,x,st,C,s',l',D,rfl,g1,gA.1,g2,hat6,hnj,hlj,fun H7 ws7 q1 q0 q2 q3 q4=>hR _ _ ⟨rfl,⟨ws7,q1,?_⟩,q2,(fun b o e h1 h2=>q3 _ _ (g3 b o e h1 h2) h1 h2),fun b e=>q4 _ (g4 b e)⟩⟩;have tp7:∀b xs,H6 b=some (.tup xs)->H7 b=some (.tup xs):=fun b xs e=>q3 _ _ e (Xa e g1 (fun z=>nomatch z)) fun z=>by
       obtain ⟨o,e7,h7,_⟩:=SK.ne g2;rw [z,e7] at e;exact h7 xs (Option.some.inj e)
      rcases q0 with ⟨hm,rfl⟩ | ⟨hm,rfl⟩
      ·rw [show Yt l' s'=l' from Qa1 hm]
       exact gA.keep tp7
      ·rw [show Yt l' s'=l'++[s'] from Qaw hm]
       exact (gA.keep tp7).snoc (SK.keep hat6 tp7)
     ·rintro zs1 H6 ⟨rfl,⟨D,g1,gA⟩,g2,g3,g4⟩ l hl
      rw [hA5.1,Qbi] at g2 gA ⊢;rw [<-eS] at g2 gA;have tp6:∀{c:Au} {ys:A0},H5 c=some (.tup ys)->H6 c=some (.tup ys):=fun {c ys} e=>g3 _ _ e (Xa e hst5 (fun z=>nomatch z)) (fun z=>by rw [z,s5 _ _ hond4] at e;exact nd4T ys (Option.some.inj e));have hpp6:=g3 _ _ hpp5 pst pnd;have hpo6:=g3 _ _ hpo5 ost oNd;have htt6:=tp6 htt;have O:H6 r2=some (.tup (ot si))\/H6 r2=some (.lst (ot si)):=by
       obtain ⟨z1,z2,_⟩:=ndn hr2;rcases hr2 with z | ⟨z,_⟩
       ·exact .inl (g3 _ _ z z1 z2)
       ·exact .inr (g3 _ _ z z1 z2)
      have ndr2:=ndn hr2;refine ⟨l,_,rfl,.inl ⟨SqL.of Za,fun q hq=>?_⟩⟩;have sl:=Zc (o:=.lst ((nx si).map fun x=>YL ((bfN nx b (i + 1)).idxOf x))) hl;have sq:=sl.trans (Zc (o:=.tup ((nx si).map fun x=>YL ((bfN nx b (i + 1)).idxOf x))) hq);have hqp:q≠pp:=(Zj (sl _ _ hpp6) hq).symm;have hqo:q≠G:=(Zj (sl _ _ hpo6) hq).symm;refine ⟨pp,_,_,rfl,rfl,sq _ _ hpp6,YV (by lia),?_⟩;have k8:∀c o,H6 c=some o->c≠pp->upd (upd (upd H6 l (.lst ((nx si).map fun x=>YL ((bfN nx b (i + 1)).idxOf x)))) q (.tup ((nx si).map fun x=>YL ((bfN nx b (i + 1)).idxOf x)))) pp (.lst (zs++[.ref q])) c=some o:=fun c o e hc=>by
       rw [Zh hc];exact sq _ _ e
      have hq8:upd (upd (upd H6 l (.lst ((nx si).map fun x=>YL ((bfN nx b (i + 1)).idxOf x)))) q (.tup ((nx si).map fun x=>YL ((bfN nx b (i + 1)).idxOf x)))) pp (.lst (zs++[.ref q])) q=some (.tup ((nx si).map fun x=>YL ((bfN nx b (i + 1)).idxOf x))):=by
       rw [Zh hqp];exact Za
      have hp8:=Za (H:=upd (upd H6 l (.lst ((nx si).map fun x=>YL ((bfN nx b (i + 1)).idxOf x)))) q (.tup ((nx si).map fun x=>YL ((bfN nx b (i + 1)).idxOf x)))) (a:=pp) (o:=.lst (zs++[.ref q]));have d8:sk.dic (upd (upd (upd H6 l (.lst ((nx si).map fun x=>YL ((bfN nx b (i + 1)).idxOf x)))) q (.tup ((nx si).map fun x=>YL ((bfN nx b (i + 1)).idxOf x)))) pp (.lst (zs++[.ref q]))) C (bfN nx b (i + 1)):=SK.off (SK.stay g2 (fun o e=>sq _ _ e) (J sq)) (sq _ _ hpp6);generalize upd (upd (upd H6 l (.lst ((nx si).map fun x=>YL ((bfN nx b (i + 1)).idxOf x)))) q (.tup ((nx si).map fun x=>YL ((bfN nx b (i + 1)).idxOf x)))) pp (.lst (zs++[.ref q]))=H8 at *;have tp8:∀{c:Au} {ys:A0},H6 c=some (.tup ys)->H8 c=some (.tup ys):=fun {c ys} e=>k8 _ _ e (Xa e hpp6 (fun z=>nomatch z));have hpo8:=k8 _ _ hpo6 ppo.symm;have last:∀(Z:Au) (H9:Hp),H9 Z=some (.tup (ot si))->ZA H8 H9->H9 G=some (.lst os)/\(upd H9 G (.lst (os++[.ref Z])) st=some (.lst D)/\StA sk (upd H9 G (.lst (os++[.ref Z]))) (bfN nx b (i + 1)) D/\sk.dic (upd H9 G (.lst (os++[.ref Z]))) C (bfN nx b (i + 1))/\upd H9 G (.lst (os++[.ref Z])) pp=some (.lst (zs++[.ref q]))/\upd H9 G (.lst (os++[.ref Z])) G=some (.lst (os++[.ref Z]))/\W3 (upd H9 G (.lst (os++[.ref Z]))) (zs++[.ref q]) (xk nx b (i + 1))/\W3 (upd H9 G (.lst (os++[.ref Z]))) (os++[.ref Z]) (zT nx ot b (i + 1))/\ZA H (upd H9 G (.lst (os++[.ref Z])))):=by
       intro Z H9 ha9 s9;have hpo9:=s9 _ _ hpo8;have tp9:∀{c:Au} {ys:A0},H9 c=some (.tup ys)->upd H9 G (.lst (os++[.ref Z])) c=some (.tup ys):=fun {c ys} e=>by rw [Zh (Xa e hpo9 (fun z=>nomatch z))];exact e
       have tp59:∀b xs,H5 b=some (.tup xs)->upd H9 G (.lst (os++[.ref Z])) b=some (.tup xs):=fun b xs e=>tp9 (s9 _ _ (tp8 (tp6 e)));refine ⟨hpo9,?_,gA.keep (fun b xs e=>tp9 (s9 _ _ (tp8 e))),SK.off (SK.stay d8 (fun o e=>s9 _ _ e) (J s9)) hpo9,?_,Za,?_,?_,fun c o' e=>?_⟩
       ·rw [Zh ost.symm]
        exact s9 _ _ (k8 _ _ g1 pst.symm)
       ·rw [Zh ppo]
        exact s9 _ _ hp8
       ·rw [eR]
        exact (zc (fun b xs e=>tp59 b xs (s5 _ _ e)) Rz).snoc (tp9 (s9 _ _ hq8))
       ·rw [eO]
        exact (zc (fun b xs e=>tp59 b xs (s5 _ _ e)) Ro).snoc (tp9 ha9)
       ·have cp:c≠pp:=Zj e hppH
        have co:c≠G:=Zj e hpoH;rw [Zh co];exact s9 _ _ (k8 _ _ (g3 _ _ (s5 _ _ (s4 _ _ e)) (Zj e hst) (Zj e hndH)) cp)
      refine ⟨_,rfl,.inl ⟨rfl,_,SqL.of hpo8⟩,_,rfl,tt,_,1,_,rfl,rfl,SqT.of (tp8 htt6),rfl,r2,ot si,rfl,?_⟩;rcases O with O | O
      ·obtain ⟨l1,l2⟩:=last r2 H8 (tp8 O) (ZA.refl _)
       exact .inr ⟨SqT.of (tp8 O),G,_,_,rfl,rfl,l1,YV (by lia),_,zs++[.ref q],os++[.ref r2],D,rfl,l2⟩
      ·refine .inl ⟨SqL.of (k8 _ _ O ndr2.2.2.1),fun Z ha9=>?_⟩
       obtain ⟨l1,l2⟩:=last Z (upd H8 Z (.tup (ot si))) Za (Zc ha9);exact ⟨G,_,_,rfl,rfl,l1,YV (by lia),_,zs++[.ref q],os++[.ref Z],D,rfl,l2⟩
   ·have hle:(bfN nx b i).length=i:=by
     have:¬(i:Int) < ((bfN nx b i).length:Int):=fun z=>hlt (Qao z);lia
    refine ⟨_,rfl,_,rfl,pn,_,rfl,.inr ⟨SqT.of (s4 _ _ hpn),_,rfl,pp,_,rfl,.inl ⟨SqL.of Y,fun a1 ha1=>⟨_,rfl,G,_,rfl,.inl ⟨SqL.of (Zc ha1 _ _ hpo4),fun a2 ha2=>⟨zln4,fun m hm=>⟨zi,fun p hp=>?_⟩⟩⟩⟩⟩⟩⟩;have q1:=Zc (o:=.tup zs) ha1;have q2:=Zc (o:=.tup os) ha2;have q3:=Zc (o:=.tup [.ref pn,.int 0,.ref a1,.ref a2]) hm;have q4:=Zc (o:=.tup [.ref st,.ref m]) hp;have qq:=q1.trans (q2.trans (q3.trans q4));refine k p st m (bfN nx b i) ws _ ⟨by rw [hle],fun j hj=>hgo j (by lia)⟩ Za hst (qq _ _ hst4) (hA4.keep (J qq)) ⟨⟨pn,a1,a2,q4 _ _ Za,qq _ _ (s4 _ _ hpn),⟨zs,(q2.trans (q3.trans q4)) _ _ Za,?_,fun j r hj=>?_⟩,⟨os,(q3.trans q4) _ _ Za,?_,fun j r hj=>?_⟩⟩⟩ (s4.trans qq)
    ·rw [hzl,Qac,Xt,hle]
    ·rw [<-Zbp hle hgo] at hj
     obtain ⟨a,g1,g2⟩:=Rz.2 j r hj;exact ⟨a,g1,qq _ _ g2⟩
    ·rw [hol,Qac,hle]
    ·rw [<-Zbq hle hgo] at hj
     obtain ⟨a,g1,g2⟩:=Ro.2 j r hj;exact ⟨a,g1,qq _ _ g2⟩
  have fin:∀(C:Au) (H3:Hp),H C=none->C≠st->(∃o,H3=upd (upd H st (.lst [bv])) C o)->sk.dic H3 C [b]->U2 { nx:=fun _ H'=>Q .non H',rt:=Q } [some (.ref pn),some bv,some (.ref f),some (.ref st),some (.ref C),none,none,none] H3:=by
   intro C H3 hndH hne ho hd3;obtain ⟨o,rfl⟩:=ho;have hnd1:upd H st (.lst [bv]) C=none:=by rw [Zh hne];exact hndH
   have s3:=s1.trans (Zc (o:=o) hnd1);exact begun C _ hndH (by rw [Zh hne.symm];exact Za) hd3 (SK.keep hbv fun b xs e=>s3 _ _ e) s3
  cases sk with
  | int f9 inj =>
   have hbv:bv=.int (f9 b):=hbv;subst hbv;refine .inr fun C hnd=>?_;have snd:st≠C:=Zj Za hnd;refine ⟨_,rfl,Za,[(.inl (f9 b),.int 0)],rfl,by show 1<=15;decide,Zi ?_⟩;have em:X8 [] [((.inl (f9 b):Key),V.int 0)]=nk ([b].map f9):=rfl;rw [em,WU];exact fin C _ (s1.free hnd) snd.symm ⟨_,rfl⟩ Za
  | key kn =>
   obtain ⟨a,rfl,ha⟩:=id hbv;refine .inl fun C hnd=>?_;have snd:st≠C:=Zj Za hnd;have sn2:=s1.trans (Zc (o:=.dK []) hnd);refine ⟨_,rfl,κ,_,kn,a,b,rfl,Za,kn.keep _ _ _ _ (fun b xs e=>sn2 _ _ e) ha,fun H' n' _ ho=>Zi ?_⟩;obtain ⟨o,rfl⟩:=ho;rw [WU] at n' ⊢;exact fin C _ (s1.free hnd) snd.symm ⟨_,rfl⟩ n'
def JP(P:An)(w:Ar)(K:Af)(mg:Ae)(base:Heap)(C:Au):Sp:=fun vs H Q _=>∃(tw O I:Au) (q:A0) (nm:Ai) (G J:V) (B D:Nat),vs=[.ref tw,.ref O,.ref I]/\H tw=some (.tup q)/\q.length<=100/\H O=some (.tup (nm.map V.str))/\nm.Nodup/\nm.length<=3/\H I=some (.tup [G,J])/\(∀w∈q,zM nm w)/\Xz q/\zL q=1/\(∀z:Int,V.int z∈q->0<=z/\z < 2 ^ B)/\D=Yx q/\(B + 1) * 2 ^ D<=1000000/\Yn H C Zw Zt /\
 ∀m (l:List (Int × Ak)) H',BfE (nxT nm (Y0 (2 ^ nm.length) nm) q (lgB q)) (0,List.replicate D 0) l->M4 H' m nm 0 (rnG (nxT nm (Y0 (2 ^ nm.length) nm) q (lgB q)) l) (l.map (otT nm (Y0 (2 ^ nm.length) nm) q G J))->Yn H' C Zw Zt->Zku C H H'->Q (.ref m) H'
theorem JQ:YA P w K mg base CX0 14 t.ib t.dg ["words","names","told"] (JP P w K mg base t.ae):=by
 have G:=Wj P base T TB;have G_bits_at:=gP P base T TB;have G_stepped:=gW P base T TB;have O:=G8 P base T TB;have D:=Gr P base T TB;have J:=xb P base T TB;have G_words_at:=qW P base T TB;refine T.br.F.okC ZJ (fun vs H Q E h=>?_) (fun A outer s H vs Q E hr h=>?_)
 ·obtain ⟨_,_,_,_,_,_,_,_,_,rfl,_⟩:=h
  rfl
 ·obtain ⟨tw,tn,tt,C,nm,o0,o1,B,Z,rfl,ht,hl,hn,hnd,hn3,hto,hw,he,hst,hB,hkc,hbig,hT,k⟩:=h
  have hu:=ZT hr;refine ⟨_,@QSs.out _ _ _ (Zb (Zn (i:=3) ZJ.nd rfl (Or.inr rfl) (Z8 (vp rfl) (by rfl) T.tj uO (Zk (Z8 qr (by rfl) T.bf kA (Zk (Zl G_words_at (hr.mono (by decide)) rfl T.bj.m T.bj.F.kp T.bj.b .nil ZG (Zk (Zv ZE (by rfl) T.av YT (Zk (qv 1) Ze)) Ze)) Ze)) Ze)))
    (Zb (Zn (i:=4) ZJ.nd rfl (Or.inr rfl) (Zl J (hr.mono (by decide)) rfl T.cm.m T.cm.F.kp T.cm.b .nil ZG (Zk (qv 1) (Zk (qv 3) Ze))))
    (Zb (Zn (i:=5) ZJ.nd rfl (Or.inr rfl) (Zl D (hr.mono (by decide)) rfl T.bw.m T.bw.F.kp T.bw.b .nil ZG (Zk (qv 0) Ze)))
    (Zb (qs_def (i:=6) (name := "step_of") (params:=Wn YG) (body:=Xi YG) (scope:=Zg YG) (lpos:=Zw) (qual:=Zt) ZJ.nd rfl (Or.inl rfl) T.sj TB.dh TB.B rfl rfl rfl rfl (S0:=Zg ZP) rfl (by decide +kernel))
    (Zb (Zn (i:=7) ZJ.nd rfl (Or.inl rfl) (ZI (Zk Zd (Zk (Z8 Z5 (by rfl) T.ak ZX (Zk (Y4 ({}:Yj (Zg ZP) _ ["words","names","told","letters","columns","last_place","step_of","begin"] "word" [] []) (Wf (qv 0)) (fun _ _ _ _=>(kH (X6 (Zl O (hr.mono (by decide)) rfl T.bb.m T.bb.F.kp T.bb.b .nil ZG (Zk (qv 0) Ze))))) (fun _ _ _ _=>Zd)) Ze)) Ze))))
    (Zf (Zp (Zq Zu (Zd8 (kl:=11) (i:=6) (name := "step_of") (params:=Wn YG) (body:=Xi YG) (scope:=Zg YG) (qual:=Zt) G (hr.mono (by decide)) rfl T.ao.m T.ao.F.kp T.ao.b rfl (Zk (qv 1) (Zk (qv 7) (Zk (qv 6) Ze))) rfl rfl (⟨WH,by decide +kernel,by decide +kernel,by rfl⟩:Zjz (Zg ZP) _ ["words","names","told","letters","columns","last_place","step_of","begin"] ["state"] ["step","place","reached"] ["words","columns","last_place","letters","told"] [0,4,5,3,2]) (fun _ _ _ _ _ us hl=>match us,hl with | [_],_=>rfl) (fun _ _ _ _ _ _ _ hrl=>(Zb (Zn (i:=1) WH.nd rfl (Or.inr rfl) (Zl G_stepped (hrl.mono (by decide)) rfl T.fq.m T.fq.F.kp T.fq.b .nil ZG (Zk (qv 4) (Zk (qv 5) (Zk (Zq (show IxR _ (Zc7 K) from Zu) (qv 0) Zd) (Zk (Zq (show IxR _ (Zc7 K) from Zu) (qv 0) Zd) Ze))))))
    (Zb (Zn (i:=2) WH.nd rfl (Or.inr rfl) (Zv (ux rfl) (by rfl) T.aae bt_min (Zk (Zm Yy (Zq (show IxR _ (Zc7 K) from Zu) (qv 0) Zd) Zd) (Zk (qv 6) Ze))))
    (Zb (yT (i:=3) WH.nd rfl rfl ({}:Yj (Zg YG) _ ["state","step","place","reached","words","columns","last_place","letters","told"] "letter" ["place","step"] [2,1]) (show QI _ _ _ (uk K (ud 7)) from WZ (qv 7)) (fun _ _ _ _=>Xx) (fun _ _ _ _=>(ZI (Zk (qv 1) (Zk (Zl G_bits_at (hrl.mono (by decide)) rfl T.fh.m T.fh.F.kp T.fh.b .nil ZG (Zk (Zq (show IxR _ (Zc7 K) from Zu) (qv 2) Zd) (Zk (qv 0) Ze))) Ze)))))
    (Zf (Zp (ZI (Zk (qv 3) (Zk (Y4 ({}:Yj (Zg YG) _ ["state","step","place","reached","words","columns","last_place","letters","told"] "letter" ["told","step"] [8,1]) (show QI _ _ _ (uk K (ud 7)) from WZ (qv 7)) (fun _ _ _ _=>Xx) (fun _ _ _ _=>(Zq (show IxR _ (Zc7 K) from Zu) (qv 1) (Zm Xw (Zm xH (Zq (show IxR _ (Zc7 K) from Zu) (qv 2) Zd) (qv 0)) Zd)))) Ze)))))))))) Zd)))))))),?_⟩
  try dsimp only [L2.cxK,L2.cxK2]
  refine L2.let6 ?_;intro U5 U4 U3 U2 U1;have h8:=p8 hn3;have e2:((2:Int) ^ nm.length)=((2 ^ nm.length:Nat):Int):=by rw [Qgj];rfl
  have hflat:∀w∈C,GA w=true/\((∃y,w=.str y)\/∃z:Int,w=.int z):=fun w h=>by
   rcases hw w h with ⟨y,rfl,_⟩ | ⟨y,rfl,_⟩ | ⟨y,rfl,_⟩ | ⟨z,rfl,_⟩
   ·exact ⟨rfl,.inl ⟨y,rfl⟩⟩
   ·exact ⟨rfl,.inl ⟨y,rfl⟩⟩
   ·exact ⟨rfl,.inl ⟨y,rfl⟩⟩
   ·exact ⟨rfl,.inr ⟨z,rfl⟩⟩
  refine ⟨_,rfl,tn,_,rfl,.inr (SqT.of hn),nm.length,by rw [Qac];rfl,by lia,_,rfl,fun pr hpr=>⟨pr,2 ^ nm.length,rfl,by rw [Za,e2],by lia,fun tl htl=>Zi ?_⟩⟩;have s1:=Zc (o:=.rng 0 ((2:Int) ^ nm.length)) hpr;have s2:=s1.trans (Zc (o:=.lst ((List.range (2 ^ nm.length)).map fun i:Nat=>V.int (i:Int))) htl);have htl2:=Za (H:=upd H pr (.rng 0 ((2:Int) ^ nm.length))) (a:=tl) (o:=.lst ((List.range (2 ^ nm.length)).map fun i:Nat=>V.int (i:Int)));have htlH:H tl=none:=s1.free htl
  try dsimp only
  generalize upd (upd H pr (.rng 0 ((2:Int) ^ nm.length))) tl (.lst ((List.range (2 ^ nm.length)).map fun i:Nat=>V.int (i:Int)))=H2 at *;refine ⟨_,rfl,_,rfl,tn,tl,nm,2 ^ nm.length,rfl,s2 _ _ hn,hnd,by lia,htl2,by lia,fun dv kvs H3 hdv0 hdv hcol s3=>Zi ?_⟩;have s23:=s2.trans s3;generalize Y0 (2 ^ nm.length) nm=cols at *;refine ⟨_,rfl,tw,C,rfl,s23 _ _ ht,by lia,fun w h=>(hflat w h).2,fun L H4 hL1 hL2 s4=>Zi ?_⟩;rw [<-Zf5 hL1 hL2] at k;have s24:=s23.trans s4;have hLB:L<=B:=by
   rw [Zf5 hL1 hL2];exact Zbt hB
  have hdv4:=s4 _ _ hdv;have htl4:=(s3.trans s4) _ _ htl2;refine ⟨hT.same s24,fun f c' oc ctv doc H5 hf0 hf hc' hoc hT5 o5=>?_⟩;obtain ⟨pz,hpz⟩:=(hT.same s24).ex;have o5':∀{b:Au} {o:HO},H4 b=some o->(∀ps,o≠.tbl ps)->H5 b=some o:=fun {b o} e h=>o5 b o e fun z=>by
   rw [z,hpz] at e;exact h _ (Option.some.inj e).symm
  have t5:∀{b:Au} {xs:A0},H b=some (.tup xs)->H5 b=some (.tup xs):=fun e=>o5' (s24 _ _ e) (fun _ z=>nomatch z);have hdv5:=o5' hdv4 (fun _ z=>nomatch z);have htl5:=o5' htl4 (fun _ z=>nomatch z);refine ⟨_,rfl,tw,rfl,⟨_,SqT.of (t5 ht)⟩,Jr (K:=K) (a:=tw) (xs:=C) (fun i zs H'=>zs=List.replicate (Yx (C.take i)) (.int 0)/\H'=H5) ⟨rfl,rfl⟩ (fun i zs H' h=>?_) (fun i zs H' h=>by rw [h.2];exact SqT.of (t5 ht)) (fun i x zs H6 R hR hx h=>?_) (fun zs H6 h pl hpl=>?_)⟩
  ·rw [h.1,Qax]
   have:Yx (C.take i)<=(C.take i).length:=Qdl _ _;rw [Qa0] at this;exact Qav (Zo (by lia))
  ·obtain ⟨rfl,rfl⟩:=h
   refine ⟨_,rfl,x,rfl,(hflat x (Qai hx)).1,_,rfl,?_⟩;have er:Yx (C.take (i + 1))=Yx (C.take i) + if inV x (allR.map V.str)=true then 1 else 0:=by
    rw [take_snoc hx];unfold Yx;rw [Qdm,Qae,Qcz]
    split <;> rfl
   rw [er] at hR;refine k4 (fun hb=>?_) (fun hb=>?_)
   ·rw [Qa1 hb,Qf1] at hR
    exact hR _ _ ⟨rfl,rfl⟩
   ·rw [Qaw hb] at hR
    exact hR _ _ ⟨rfl,rfl⟩
  obtain ⟨rfl,rfl⟩:=h;rw [Qbi,<-hkc];refine ⟨pl,_,rfl,.inl ⟨SqL.of Za,fun tb htb=>⟨zi,fun tg htg=>Zi ?_⟩⟩⟩;have q1:=Zc (o:=.lst (List.replicate Z (.int 0))) hpl;have q2:=Zc (o:=.tup (List.replicate Z (.int 0))) htb;have q3:=Zc (o:=.tup [.int 0,.ref tb]) htg;have s6:=q1.trans (q2.trans q3);have htb6:=q3 _ _ (Za (H:=upd H6 pl (.lst (List.replicate Z (.int 0)))) (a:=tb) (o:=.tup (List.replicate Z (.int 0))));have htg6:=Za (H:=upd (upd H6 pl (.lst (List.replicate Z (.int 0)))) tb (.tup (List.replicate Z (.int 0)))) (a:=tg) (o:=.tup [.int 0,.ref tb])
  try dsimp only
  generalize upd (upd (upd H6 pl (.lst (List.replicate Z (.int 0)))) tb (.tup (List.replicate Z (.int 0)))) tg (.tup [.int 0,.ref tb])=H7 at *;refine ⟨_,rfl,_,rfl,_,rfl,f,c',oc,ctv,doc,rfl,s6 _ _ hf,s6 _ _ hc',hoc,fun cs H8 hcs0 hcsF o8 hcall=>?_⟩;have hU:∀s∈uni Z (L + 1),(nxT nm cols C L s).length<=8/\(otT nm cols C o0 o1 s).length<=8/\∀x∈nxT nm cols C L s,x∈uni Z (L + 1):=fun s hs=>⟨by unfold nxT;rw [Qac,Qay];exact h8,by unfold otT;rw [Qac,Qay];exact h8,zW hw hkc hs⟩;have t8:∀{b:Au} {xs:A0},H b=some (.tup xs)->H8 b=some (.tup xs):=fun e=>o8 _ _ (s6 _ _ (t5 e));have hUl:(uni Z (L + 1)).length<=1000000:=by
   rw [zU];exact Qa8 (Qf0 _ (by lia)) hbig
  refine ⟨Int × Ak,_,.key knQ,tn,f,nm,(0,List.replicate Z 0),.ref tg,nxT nm cols C L,otT nm cols C o0 o1,uni Z (L + 1),_,rfl,t8 hn,⟨tg,rfl,tb,o8 _ _ htg6,by rw [o8 _ _ htb6,List.map_replicate]⟩,Jf.mpr ⟨0,by lia,rfl,YW.mpr ⟨Qax,fun x hx=>.inl (Qea hx)⟩⟩,hU,hUl,hn3,hcall,fun s sv H9 Q' hs hat s9 hQ=>⟨rfl,?_⟩,fun p sts m l wsl H9 B9 hp hsts0 hsts hA M9 s9=>?_⟩
  ·obtain ⟨a,rfl,tk,ha,htk⟩:=hat
   have hk9:∀{b:Au} {u:HO},H9 b=some u->(∀o,u≠Xn o)->hide cs H9 b=some u:=fun e h=>Wt hcsF s9 e h;have t9:∀{b:Au} {xs:A0},H9 b=some (.tup xs)->hide cs H9 b=some (.tup xs):=fun e=>hk9 e (fun _ z=>nomatch z);obtain ⟨pn,hp1,hp2,hp3⟩:=Jf.mp hs;obtain ⟨sp,ks⟩:=s;have hp2:sp=(pn:Int):=hp2;subst hp2;obtain ⟨hkl,hkb⟩:=YW.mp hp3;have hkl:ks.length=Z:=hkl;have ha':=t9 ha;have htk':=t9 htk;have hln:(X0 nm cols pn ks C).1.length=1:=by rw [zN C hw,hst]
   have hrm:(X0 nm cols pn ks C).2.length=Z:=by rw [zV C hw,hkc]
   obtain ⟨o,lt,hstp⟩:∃o lt,X0 nm cols pn ks C=([o],lt):=by
    generalize X0 nm cols pn ks C=q at hln;obtain ⟨q1,q2⟩:=q
    match q1,hln with
    | [o],_=>exact ⟨o,q2,rfl⟩
   have hltl:lt.length=Z:=by rw [hstp] at hrm;exact hrm
   have hsS:Zjf nm cols C ((pn:Int),ks)=([o],lt):=hstp;refine ⟨_,rfl,_,rfl,_,rfl,a,_,0,_,rfl,rfl,SqT.of ha',rfl,_,rfl,a,_,1,_,rfl,rfl,SqT.of ha',rfl,tw,dv,tk,nm,C,kvs,cols,pn,ks,o,lt,rfl,t9 (s9 _ _ (t8 ht)),hl,hk9 (s9 _ _ (o8 _ _ (s6 _ _ hdv5))) (fun _ z=>nomatch z),hcol,htk',hw,he,hstp,by rw [hltl];show Z<=ks.length;lia,fun ta la H10 hta0 hta hla s10=>Zi ?_⟩;refine ⟨_,rfl,a,_,0,_,rfl,rfl,SqT.of (s10 _ _ ha'),rfl,_,_,rfl,rfl,_,rfl,_,_,rfl,Zi ?_⟩;have em:(if (L:Int) < (pn:Int) + 1 then (L:Int) else (pn:Int) + 1)=min ((pn:Int) + 1) (L:Int):=by split <;> lia
   try dsimp only
   rw [em];have Y:H10 tl=some (.lst ((List.range (2 ^ nm.length)).map fun i:Nat=>V.int (i:Int))):=s10 _ _ (hk9 (s9 _ _ (o8 _ _ (s6 _ _ htl5))) (fun _ z=>nomatch z));have hxs:((List.range (2 ^ nm.length)).map fun i:Nat=>V.int (i:Int)).length=2 ^ nm.length:=by rw [Qac,Qay]
   have hnx:nxT nm cols C L ((pn:Int),ks)=(List.range (2 ^ nm.length)).map fun l=>(min ((pn:Int) + 1) (L:Int),lt.map fun c=>bt c l):=by
    unfold nxT;rw [hsS]
   have hot:otT nm cols C o0 o1 ((pn:Int),ks)=(List.range (2 ^ nm.length)).map fun l=>if bt o l=1 then o1 else o0:=by
    unfold otT;rw [hsS]
    rfl
   refine ⟨_,rfl,tl,rfl,⟨_,SqL.of Y⟩,qi (K:=K) (a:=tl) (xs:=(List.range (2 ^ nm.length)).map fun i:Nat=>V.int (i:Int)) (fun i zs H'=>StA (.key knQ) H' ((nxT nm cols C L ((pn:Int),ks)).take i) zs/\i<=2 ^ nm.length/\ZA H10 H') ⟨⟨rfl,fun i k hk=>by cases hk⟩,Qba _,ZA.refl _⟩ (fun i zs H' h=>?_) (fun i zs H' h=>SqL.of (h.2.2 _ _ Y)) (fun i x zs H11 R hR hx h=>?_) (fun zs H11 h rl hrl=>Zi ?_)⟩
   ·rw [h.1.1,Qa0]
    exact Qav (Zo (by lia))
   ·obtain ⟨hA,hi,s11⟩:=h
    have hil:i < 2 ^ nm.length:=by rw [<-hxs];exact (Qah.mp hx).1
    rw [GV hil] at hx;cases hx;refine yesT ⟨_,rfl,_,rfl,ta,_,1,_,rfl,rfl,SqT.of (s11 _ _ hta),rfl,_,rfl,la,lt,i,rfl,s11 _ _ hla,?_,by lia,fun t5 H12 ht50 ht5 s12=>⟨zi,fun q hq=>hR _ _ ⟨?_,hil,s11.trans (s12.trans (Zc hq))⟩⟩⟩
    ·have:Yx C<=C.length:=Qdl _ _
     lia
    ·have en:(nxT nm cols C L ((pn:Int),ks))[i]?=some (min ((pn:Int) + 1) (L:Int),lt.map fun c=>bt c i):=by rw [hnx,GV hil]
     rw [take_snoc en];refine (hA.keep (H':=upd H12 q (.tup [.int (min ((pn:Int) + 1) (L:Int)),.ref t5])) fun b xs e=>Zc hq _ _ (s12 _ _ e)).snoc ⟨q,rfl,t5,Za,Zc hq _ _ ht5⟩
   obtain ⟨hA,_,s11⟩:=h;rw [hxs,Qb3 (by rw [hnx,Qac,Qay];exact Qag _)] at hA;have s12:=Zc (o:=.lst zs) hrl;have hrl12:=Za (H:=H11) (a:=rl) (o:=.lst zs)
   try dsimp only
   generalize upd H11 rl (.lst zs)=H12 at *;have I:=s11.trans s12;have htt12:H12 tt=some (.tup [o0,o1]):=I _ _ (s10 _ _ (t9 (s9 _ _ (t8 hto))));refine ⟨_,rfl,_,rfl,tl,rfl,⟨_,SqL.of (I _ _ Y)⟩,comp_map (xs:=(List.range (2 ^ nm.length)).map fun i:Nat=>V.int (i:Int)) (fI fun c=>if bt o c.toNat=1 then o1 else o0) (SqL.of (I _ _ Y)) (by rw [hxs];exact Qav (Zo (by lia))) (fun v hv R hR=>?_) (fun q hq=>?_)⟩
   ·obtain ⟨l,_,rfl⟩:=Qa2.mp hv
    refine ⟨_,rfl,_,rfl,ta,_,0,_,rfl,rfl,SqT.of (I _ _ hta),rfl,_,rfl,_,_,rfl,rfl,Qch l,_,_,rfl,rfl,tt,_,_,fI (fun c=>if bt o c.toNat=1 then o1 else o0) (V.int (l:Int)),rfl,rfl,SqT.of htt12,?_,hR⟩;rw [and_1,Qat];show atI [o0,o1] (bt o l)=some (if bt o (l:Int).toNat=1 then o1 else o0);rw [Qat];rcases Y8 o l with e | e <;> rw [e] <;> rfl
   ·refine ⟨zi,fun t0 ht0 hcn=>?_⟩
    have ef:((List.range (2 ^ nm.length)).map fun i:Nat=>V.int (i:Int)).map (fI fun c=>if bt o c.toNat=1 then o1 else o0)=otT nm cols C o0 o1 ((pn:Int),ks):=by
     rw [hot,Qb4];refine Qcl fun l _=>?_;show (if bt o (l:Int).toNat=1 then o1 else o0)=_;rw [Qat]
    rw [ef] at ht0 hcn ⊢;have s13:=Zc (o:=.lst (otT nm cols C o0 o1 ((pn:Int),ks))) hq;have s14:=s13.trans (Zc (o:=.tup [.ref rl,.ref q]) ht0);have hsame:=s10.trans (I.trans s14);obtain ⟨u1,u2,u3⟩:=gE hsame hcn;have hrl14:=s14 _ _ hrl12;have hq14:=Zc (o:=.tup [.ref rl,.ref q]) ht0 _ _ (Za (H:=H12) (a:=q) (o:=.lst (otT nm cols C o0 o1 ((pn:Int),ks))));exact hQ t0 rl q zs _ (u2 _ _ Za) (.inr ⟨u2 _ _ hrl14,u3 _ _ hrl14 (s10.free (s11.free hrl))⟩) (hA.keep fun b xs e=>u2 _ _ ((s12.trans s14) _ _ e)) (.inr ⟨u2 _ _ hq14,u3 _ _ hq14 (s10.free (I.free hq))⟩) u1
  ·have keep9:ZA H7 (hide cs H9):=fun b o e=>by
    rw [Z1 fun m=>by rw [hcs0 b m] at e;cases e];exact s9 _ _ (o8 _ _ e)
   have tk9:∀(b:Au) (xs:A0),H9 b=some (.tup xs)->hide cs H9 b=some (.tup xs):=fun b xs e=>Wt hcsF s9 e (fun _ z=>nomatch z);refine ⟨p,_,1,_,rfl,rfl,SqT.of (tk9 _ _ hp),rfl,k m l (hide cs H9) B9 ?_ ((hT5.same s6).same keep9) fun b o e hb=>keep9 _ _ (s6 _ _ (o5 _ _ (s24 _ _ e) hb))⟩;obtain ⟨pn,ps,po,h1,h2,h3,h4⟩:=M9.ex;exact ⟨⟨pn,ps,po,tk9 _ _ h1,tk9 _ _ h2,ze h3 tk9,ze h4 tk9⟩⟩
def WL(K:Af)(C:Au):Sp:=fun vs H Q _=>∃(G D:Au) (nm:Ai) (b1 b2:Nat) (nx1 nx2:Ad) (ot1 ot2:Ax) (J:Bool),vs=[.ref G,.ref D]/\M4 H G nm b1 nx1 ot1/\M4 H D nm b2 nx2 ot2/\Runs nx1 ot1 nm.length/\Runs nx2 ot2 nm.length/\b1 < nx1.length/\b2 < nx2.length/\nx1.length * nx2.length<=1000000/\nm.length<=3/\nm.Nodup/\(∀r∈ot1,∀x∈r,Xs J x)/\(∀r∈ot2,∀x∈r,Xs J x)/\Yn H C Z2 Z3 /\
 (∀p q l I H',BfE (pN nx1 nx2) (pK b1 b2) l->(∀(ls:Aj) (c:Nat),(∀x∈ls++[c],x < 2 ^ nm.length)->Yz (mN (rnG (pN nx1 nx2) l)) (mB (l.map (pO ot1 ot2)) (.bl true)) 0 (ls++[c])=false)->H' p=some (.tup [.str "same",.ref q])->H' q=some (.tup I)->StA (.key kn2) H' l I->Yn H' C Z2 Z3->Zgf C H H'->Q (.ref p) H') /\
 (∀p d w r kvs l H',BfE (pN nx1 nx2) (pK b1 b2) l->GZ (mN (rnG (pN nx1 nx2) l)) (mB (l.map (pO ot1 ot2)) (.bl true)) 0 nm.length w r->1<=w->(∀(ls:Aj) (c:Nat),(∀x∈ls++[c],x < 2 ^ nm.length)->Yz (mN (rnG (pN nx1 nx2) l)) (mB (l.map (pO ot1 ot2)) (.bl true)) 0 (ls++[c])=true->w<=ls.length + 1)->H' p=some (.tup [.str "parted",.int (w:Int),.ref d])->H d=none->H' d=some (.dK kvs)->Tab kvs nm (fun y=>(valN (ixG nm y) r:Int))->Yn H' C Z2 Z3->Zgf C H H'->Q (.ref p) H')
theorem WM:YA P w K mg base CX0 14 t.fe t.cg ["one","other"] (WL K t.aa):=by
 have G:=xG P base T TB;have C:=Wd P base T TB;have D:=Wj P base T TB;have J:=kh P base T TB;have I:=jt P base T TB;refine T.bh.F.okC Yg (fun vs H Q E h=>?_) (fun A outer s H vs Q E hr h=>?_)
 ·obtain ⟨_,_,_,_,_,_,_,_,_,_,rfl,_⟩:=h
  rfl
 ·obtain ⟨m1,m2,nm,b1,b2,nx1,nx2,ot1,ot2,tr,rfl,M1,M2,R1,R2,hb1,hb2,hN,hn3,hnd,k1,k2,B,kS,kP⟩:=h
  have hu:=ZT hr;refine ⟨_,@QSs.out _ _ _ (Zb (Zn (i:=2) Yg.nd rfl (Or.inl rfl) (ZI (Zk (Zq Zu (qv 0) Zd) (Zk (Zq Zu (qv 1) Zd) Ze))))
    (Zb (Zn (i:=3) Yg.nd rfl (Or.inl rfl) (Zaq (kl:=11) D (hr.mono (by decide)) rfl T.ao.m T.ao.F.kp T.ao.b rfl (Zq Zu (qv 0) Zd) (qv 2) T.ri TB.cj TB.B rfl rfl rfl rfl (⟨⟨by rfl,by rfl,by rfl,by decide +kernel,by decide +kernel,by decide +kernel,by decide +kernel⟩,by decide +kernel,by decide +kernel,by rfl⟩:Zjx (Zg Y6) _ ["one","other","begins","found","width"] ["pair"] ["one","other"] [0,1]) (fun _ _ _ _ us hl=>match us,hl with | [_],_=>rfl) (fun _ _ _ _ _ _ _ Z=>(ZI (Zk (Zl I (Z.mono (by decide)) rfl T.dj.m T.dj.F.kp T.dj.b .nil ZG (Zk (qv 1) (Zk (qv 2) (Zk (qv 0) Ze)))) (Zk (Zl J (Z.mono (by decide)) rfl T.du.m T.du.F.kp T.du.b .nil ZG (Zk (qv 1) (Zk (qv 2) (Zk (qv 0) Ze)))) Ze))))))
    (Zb (Zn (i:=4) Yg.nd rfl (Or.inl rfl) (Zl C (hr.mono (by decide)) rfl T.au.m T.au.F.kp T.au.b .nil ZG (Zk (Zq Zu (qv 3) Zd) Ze)))
    (Zb (Ye (Zz Zfh (qv 4) kB (by with_unfolding_all rfl))
    (Zf (Zp (ZI (Zk Zx (Zk (Z8 Z5 (by rfl) T.ak ZX (Zk (Zq Zu (qv 3) Zd) Ze)) Ze))))) Z6)
    (Zf (Zp (ZI (Zk Zx (Zk (qv 4) (Zk (Zl G (hr.mono (by decide)) rfl T.dc.m T.dc.F.kp T.dc.b .nil ZG (Zk (Zq Zu (qv 3) Zd) (Zk (qv 4) (Zk xg Ze)))) Ze)))))))))),?_⟩
  try dsimp only [L2.cxK,L2.cxK2]
  refine L2.let5 ?_;intro U4 U3 U2 U1;obtain ⟨pn1,ps1,po1,h1,hpn1,_,_⟩:=M1.ex;obtain ⟨pn2,ps2,po2,h2,hpn2,_,_⟩:=M2.ex;obtain ⟨pz,hpz⟩:=B.ex;have tP:∀{b:Au} {xs:A0},H b=some (.tup xs)->b≠t.aa:=fun e=>Xa e hpz (fun z=>nomatch z);refine ⟨_,rfl,m1,_,1,_,rfl,rfl,SqT.of h1,rfl,_,rfl,m2,_,1,_,rfl,rfl,SqT.of h2,rfl,zi,fun bg hbg=>Zi ?_⟩;have sb:=Zc (o:=.tup [.int (b1:Int),.int (b2:Int)]) hbg;have hbg1:upd H bg (.tup [.int (b1:Int),.int (b2:Int)]) bg=some (.tup [.int (b1:Int),.int (b2:Int)]):=Za;have B1:=B.same sb;have tP1:∀{b:Au} {xs:A0},upd H bg (.tup [.int (b1:Int),.int (b2:Int)]) b=some (.tup xs)->b≠t.aa:=fun e=>Xa e (sb _ _ hpz) (fun z=>nomatch z);generalize upd H bg (.tup [.int (b1:Int),.int (b2:Int)])=H1 at *;refine ⟨_,rfl,m1,_,0,_,rfl,rfl,SqT.of (sb _ _ h1),rfl,_,rfl,B1,fun cs f H2 hcs hfz hf hT2 o2 hc=>?_⟩;have t2:∀(b:Au) (xs:A0),H1 b=some (.tup xs)->H2 b=some (.tup xs):=fun b xs e=>o2 _ _ e (tP1 e);have p8:=p8 hn3;have U0:=pU_len nx1.length nx2.length;refine ⟨Ak,inferInstance,.key kn2,pn1,f,nm,pK b1 b2,.ref bg,pN nx1 nx2,pO ot1 ot2,pU nx1.length nx2.length,_,rfl,t2 _ _ (sb _ _ hpn1),⟨bg,rfl,t2 _ _ hbg1⟩,JJ.mpr ⟨b1,b2,hb1,hb2,rfl⟩,(fun s hs=>?_),by rw [U0];exact hN,hn3,hc,fun s sv O Q' hs hat sH hQ=>⟨rfl,?_⟩,fun p sts fm l wsl O B3 hp hsts0 hsts hA M3 s3=>?_⟩
  ·obtain ⟨i,j,hi,hj,rfl⟩:=JJ.mp hs
   exact ⟨by rw [Zci R1 R2 hi hj];exact p8,by rw [Zgd R1 R2 hi hj];exact p8,fun x hx=>Ziy R1 R2 hs x hx⟩
  ·obtain ⟨i,j,hi,hj,rfl⟩:=JJ.mp hs
   obtain ⟨c,rfl,hc3⟩:=id hat;have th:∀(b:Au) (xs:A0),O b=some (.tup xs)->hide cs O b=some (.tup xs):=fun b xs e=>Wt hfz sH e (fun o z=>nomatch z);have th1:∀(b:Au) (xs:A0),H b=some (.tup xs)->hide cs O b=some (.tup xs):=fun b xs e=>th _ _ (sH _ _ (t2 _ _ (sb _ _ e)));have hi2:i < ot1.length:=by rw [R1.ol];exact hi
   have hj2:j < ot2.length:=by rw [R2.ol];exact hj
   have l1:=R1.or _ (getD_mem hi2);have l2:=R2.or _ (getD_mem hj2);refine ⟨_,rfl,_,rfl,_,rfl,m1,m2,c,nm,nm,b1,b2,nx1,nx2,ot1,ot2,i,j,rfl,M1.tups th1,M2.tups th1,th _ _ hc3,hi,hj,fun l zs H4 hl s4 hl4 pr=>?_⟩;refine ⟨_,rfl,_,rfl,_,rfl,m1,m2,c,nm,nm,b1,b2,nx1,nx2,ot1,ot2,i,j,tr,rfl,(M1.tups th1).same s4,(M2.tups th1).same s4,s4 _ _ (th _ _ hc3),hi2,hj2,by rw [l1,l2],by rw [l1];lia,k1 _ (getD_mem hi2),k2 _ (getD_mem hj2),fun l' H5 hl' Y hl5=>⟨zi,fun q hq hcn=>?_⟩⟩;have s6:=(s4.trans Y).trans (Zc (o:=.tup [.ref l,.ref l']) hq);have s56:=Y.trans (Zc (o:=.tup [.ref l,.ref l']) hq);obtain ⟨g1,g2,g3⟩:=Zi4 s6 hcn;have hl6:=s56 _ _ hl4;have hl56:=Zc (o:=.tup [.ref l,.ref l']) hq _ _ hl5;refine hQ q l l' zs _ (g2 _ _ Za) (.inr ⟨g2 _ _ hl6,g3 _ _ hl6 hl⟩) ?_ (.inr ⟨g2 _ _ ?_,g3 _ _ hl56 (s4.free hl')⟩) g1
   ·show StA (.key kn2) _ (pN nx1 nx2 (pK i j)) zs
    have e:pN nx1 nx2 (pK i j)=(gX (nx1.getD i []) (nx2.getD j [])).map fun p=>[p.1,p.2]:=by
     show (gX (nx1.getD (i:Int).toNat []) (nx2.getD (j:Int).toNat [])).map _=_;rw [Qat,Qat]
    rw [e];exact Zi5 pr fun b xs e=>g2 _ _ (s56 _ _ e)
   ·have e:pO ot1 ot2 (pK i j)=(((ot1.getD i []).zip (ot2.getD j [])).map fun q=>!decide (q.1=q.2)).map V.bl:=by
     show (((ot1.getD (i:Int).toNat []).zip (ot2.getD (j:Int).toNat [])).map _).map _=_;rw [Qat,Qat]
    rw [e];exact hl56
  have t3:∀(b:Au) (xs:A0),O b=some (.tup xs)->hide cs O b=some (.tup xs):=fun b xs e=>Wt hfz s3 e (fun o z=>nomatch z);have T3:Yn (hide cs O) t.aa Z2 Z3:=hT2 O s3;have off3:∀b o,H b=some o->b≠t.aa->hide cs O b=some o:=fun b o e hb=>by
   have e1:=sb _ _ e;rw [Z1 (fun m=>by rw [hcs b m] at e1;cases e1)];exact s3 _ _ (o2 _ _ e1 hb)
  have M3':M4 (hide cs O) fm nm 0 (rnG (pN nx1 nx2) l) (l.map (pO ot1 ot2)):=M3.tups t3;have hA':StA (.key kn2) (hide cs O) l wsl:=hA.keep t3;have hp':=t3 _ _ hp;have hsts':hide cs O sts=some (.lst wsl):=Wt hfz s3 hsts (fun o z=>nomatch z)
  try dsimp only
  generalize hide cs O=H4 at *;have R:=Ze2 R1 R2 hb1 hb2 B3;have hll:l.length<=1000000:=by
   have h:=w6 (nx:=pN nx1 nx2) (b:=pK b1 b2) (U:=pU nx1.length nx2.length) (JJ.mpr ⟨b1,b2,hb1,hb2,rfl⟩) (fun s hs=>Ziy R1 R2 hs) l.length;rw [<-B3.e,U0] at h;lia
  have Z:(rnG (pN nx1 nx2) l).length<=1000000:=by rw [Xt];exact hll
  have hbl:∀r∈l.map (pO ot1 ot2),∀x∈r,∃t,x=V.bl t:=fun r hr x hx=>by
   obtain ⟨s,_,rfl⟩:=Qa2.mp hr;obtain ⟨q,_,rfl⟩:=Qa2.mp hx;exact ⟨_,rfl⟩
  refine Zi ⟨_,rfl,p,_,1,_,rfl,rfl,SqT.of hp',rfl,fm,nm,_,_,nm.length,_,rfl,M3',R,rgO_of B3,Z,hbl,fun hno H5 Y=>?_,fun w H5 hw1 hw2 hex hmin Y=>?_⟩
  ·refine Zi ⟨_,rfl,rfl,_,rfl,?_⟩
   rw [Qao rfl];refine Wk ⟨_,rfl,p,_,0,_,rfl,rfl,SqT.of (Y _ _ hp'),rfl,sts,wsl,rfl,.inl ⟨SqL.of (Y _ _ hsts'),fun q hq=>⟨zi,fun pr hpr=>?_⟩⟩⟩;have sq:=Zc (o:=.tup wsl) hq;have s6:=(Y.trans sq).trans (Zc (o:=.tup [.str "same",.ref q]) hpr);refine kS pr q l wsl _ B3 (fun ls c h=>by rw [YQ];exact hno ls c h) Za (Zc hpr _ _ Za) (hA'.keep fun b xs e=>s6 _ _ e) (T3.same s6) (Zgf.of off3 (SmF.of s6))
  ·refine Zi ⟨_,rfl,rfl,_,rfl,?_⟩
   rw [Qau (fun z=>nomatch z)];obtain ⟨ls,c,e1,e2,e3⟩:=hex;refine YZ ⟨_,rfl,_,rfl,p,_,1,_,rfl,rfl,SqT.of (Y _ _ hp'),rfl,_,rfl,fm,nm,0,_,_,w,.bl true,true,rfl,M3'.same Y,R,R.pos,Z,hn3,hnd,hw1,by lia,.inl ⟨rfl,_,rfl⟩,(fun r hr x hx=>by obtain ⟨t,rfl⟩:=hbl r hr x hx;exact .inl ⟨rfl,_,rfl⟩),⟨ls++[c],by rw [Qae];exact e1,e2,by rw [YQ];exact e3⟩,fun r d kvs H6 fr hd hd6 Tb s6=>⟨Zjc,fun pr hpr=>?_⟩⟩;have s7:=Zc (o:=.tup [.str "parted",.int (w:Int),.ref d]) hpr;have s47:=((SmF.of Y).trans s6).trans (SmF.of s7);have hdH:H d=none:=by
    cases e:H d with
    | none=>rfl
    | some o =>
     have hdt:d≠t.aa:=fun z=>by
      have:=T3.same Y;obtain ⟨pz5,hz5⟩:=this.ex;rw [z,hz5] at hd;cases hd
     have:=Y _ _ (off3 d o e hdt);rw [hd] at this;cases this
   exact kP pr d w r kvs l _ B3 fr hw1 (fun ls c h h2=>hmin ls c h (by rw [YQ] at h2;exact h2)) Za hdH (s7 _ _ hd6) Tb (Yn.smf T3 s47) (Zgf.of off3 s47)
def jw(P:An)(w:Ar)(K:Af)(mg:Ae)(base:Heap)(C:Au):Sp:=fun vs H Q _=>∃(tw G:Au) (q:A0) (nm:Ai) (B D:Nat),vs=[.ref tw,.ref G]/\H tw=some (.tup q)/\q.length<=100/\H G=some (.tup (nm.map V.str))/\nm.Nodup/\nm.length<=3/\(∀w∈q,zM nm w)/\Xz q/\zL q=1/\(∀z:Int,V.int z∈q->0<=z/\z < 2 ^ B)/\D=Yx q/\(B + 1) * 2 ^ D<=1000000/\Yn H C Zw Zt /\
 ∀m (l:List (Int × Ak)) H',BfE (nxT nm (Y0 (2 ^ nm.length) nm) q (lgB q)) (0,List.replicate D 0) l->M4 H' m nm 0 (rnG (nxT nm (Y0 (2 ^ nm.length) nm) q (lgB q)) l) (l.map (otT nm (Y0 (2 ^ nm.length) nm) q (.int 0) (.int 1)))->Yn H' C Zw Zt->Zku C H H'->Q (.ref m) H'
theorem jx:YA P w K mg base CX0 15 t.ng t.nh ["words","names"] (jw P w K mg base t.ae):=by
 have q:=JQ P base T TB;refine T.ax.F.ok jn (fun vs H Q E h=>?_) (fun cdv A outer s H vs Q E hr h=>?_)
 ·obtain ⟨_,_,_,_,_,_,rfl,_⟩:=h
  rfl
 ·obtain ⟨tw,tn,ws,nm,B,kc,rfl,ht,hl,hn,Y,G,hw,he,I,hB,J,C,hT,k⟩:=h
  have hu:=ZT hr;refine ⟨_,@QSs.out _ _ _ (Zf (Zp (Zl q (hr.mono (by decide)) rfl T.br.m T.br.F.kp T.br.b .nil ZG (Zk (qv 0) (Zk (qv 1) (Zk (ZI (Zk Zd (Zk Zd Ze))) Ze)))))),?_⟩;refine ⟨_,rfl,_,rfl,by decide,fun Z O=>?_⟩;have D:=Zc (o:=.tup [.int 0,.int 1]) O;exact ⟨tw,tn,Z,ws,nm,.int 0,.int 1,B,kc,rfl,D _ _ ht,hl,D _ _ hn,Y,G,Za,hw,he,I,hB,J,C,hT.same D,fun m l H' h1 h2 h3 h4=>k m l H' h1 h2 h3 fun b o e hb=>h4 _ _ (D _ _ e) hb⟩
def xc(P:An)(w:Ar)(K:Af)(mg:Ae)(base:Heap)(D C:Au):Sp:=fun vs H Q _=>∃(I t2:Au) (u v:A0),vs=[.ref I,.ref t2]/\H I=some (.tup u)/\H t2=some (.tup v)/\(∀x∈u++v,G2 x)/\(u++v).length<=60/\(∀ms:Ai,W7 u v ms->POk ms false u/\POk ms false v)/\11 * 2 ^ Yx u * (11 * 2 ^ Yx v)<=1000000/\Yn H D Zw Zt/\Yn H C Z2 Z3 /\
 (∀p q ms l1 l2 l G H',W7 u v ms->BfE (nxS ms u) (0,List.replicate (Yx u) 0) l1->BfE (nxS ms v) (0,List.replicate (Yx v) 0) l2->BfE (pN (rnG (nxS ms u) l1) (rnG (nxS ms v) l2)) (pK 0 0) l->(∀ls:Aj,ls≠[]->(∀x∈ls,x < 2 ^ ms.length)->¬Dff ms u v ls)->H' p=some (.tup [.str "same",.ref q])->H' q=some (.tup G)->StA (.key kn2) H' l G->Yn H' D Zw Zt->Yn H' C Z2 Z3->OffG D C H H'->Q (.ref p) H') /\
 (∀p d w r kvs ms H',W7 u v ms->vO ms u v w r->H' p=some (.tup [.str "parted",.int (w:Int),.ref d])->H d=none->H' d=some (.dK kvs)->Tab kvs ms (fun y=>(valN (ixG ms y) r:Int))->Yn H' D Zw Zt->Yn H' C Z2 Z3->OffG D C H H'->Q (.ref p) H')
theorem ku:YA P w K mg base CX0 16 t.qs t.ra ["one","other"] (xc P w K mg base t.ae t.aa):=by
 have C:=WM P base T TB;have D:=jx P base T TB;have G:=kr P base T TB;refine T.eh.F.ok qV (fun vs H Q E h=>?_) (fun cdv A outer s H vs Q E hr h=>?_)
 ·obtain ⟨_,_,_,_,rfl,_⟩:=h
  rfl
 ·obtain ⟨t1,t2,u,v,rfl,h1,h2,hSI,h60,hPK,hbig,TW,TC,kS,kP⟩:=h
  have hu:=ZT hr;refine ⟨_,@QSs.out _ _ _ (Zb (Zn (i:=2) qV.nd rfl (Or.inl rfl) (Zl G (hr.mono (by decide)) rfl T.dz.m T.dz.F.kp T.dz.b .nil ZG (Zk (Zm Jd (qv 0) (qv 1)) Ze)))
    (Zf (Zp (Zl C (hr.mono (by decide)) rfl T.bh.m T.bh.F.kp T.bh.b .nil ZG (Zk (Zl D (hr.mono (by decide)) rfl T.ax.m T.ax.F.kp T.ax.b .nil ZG (Zk (qv 0) (Zk (qv 2) Ze))) (Zk (Zl D (hr.mono (by decide)) rfl T.ax.m T.ax.F.kp T.ax.b .nil ZG (Zk (qv 1) (Zk (qv 2) Ze))) Ze)))))),?_⟩
  refine L2.let2 ?_;intro U1;have hne:t.aa≠t.ae:=T.ft.symm;refine ⟨_,rfl,_,rfl,t1,t2,u,v,rfl,rfl,h1,h2,Qav (Zo (by rw [Qae] at h60;lia)),fun c H1 hc1 s1=>?_⟩;refine ⟨c,u++v,rfl,hc1,hSI,h60,fun tn H2 ms htn0 htn s2 hpm hsr=>Zi ?_⟩;have N:W7 u v ms:=⟨hpm,hsr⟩;obtain ⟨J,Y⟩:=hPK ms N;have f1:=J.sg.ty.facts;have f2:=Y.sg.ty.facts;have I:=s1.trans s2;refine ⟨_,rfl,_,rfl,t1,tn,u,ms,10,_,rfl,I _ _ h1,J.ln,htn,J.nd,J.n3,J.wc,f1.2.1,f1.2.2,J.iz,rfl,J.big,TW.same I,fun m1 l1 H3 B1 M1 TW3 o3=>?_⟩;have TC2:=TC.same I;have TW2:=TW.same I;obtain ⟨pz2,hz2⟩:=TW2.ex;have TC3:=TC2.other hne ⟨pz2,hz2⟩ o3;refine ⟨_,rfl,_,rfl,t2,tn,v,ms,10,_,rfl,o3.tup hz2 (I _ _ h2),Y.ln,o3.tup hz2 htn,Y.nd,Y.n3,Y.wc,f2.2.1,f2.2.2,Y.iz,rfl,Y.big,TW3,fun m2 l2 H4 B2 M2 TW4 o4=>?_⟩;obtain ⟨pz3,hz3⟩:=TW3.ex;have TC4:=TC3.other hne ⟨pz3,hz3⟩ o4;have R1:=J.runs B1 (.int 0) (.int 1);have R2:=Y.runs B2 (.int 0) (.int 1);have hk:∀{ws:A0} {l:List (Int × Ak)},∀r∈l.map (otS ms ws),∀x∈r,Xs false x:=fun {ws l} r hr x hx=>by
   obtain ⟨s,_,rfl⟩:=Qa2.mp hr;obtain ⟨c,_,rfl⟩:=Qa2.mp hx
   split
   ·exact .inr ⟨rfl,_,rfl⟩
   ·exact .inr ⟨rfl,_,rfl⟩
  have hnn:(rnG (nxS ms u) l1).length * (rnG (nxS ms v) l2).length<=1000000:=by
   rw [Xt,Xt];exact Qa8 (Nat.mul_le_mul (J.len2 B1) (Y.len2 B2)) hbig
  have off:∀{O:Hp},Zgf t.aa H4 O->OffG t.ae t.aa H O:=fun {O} o5 b o e hb1 hb2=>o5 b o (o4 _ _ (o3 _ _ (I _ _ e) hb1) hb1) hb2;have tw5:∀{O:Hp},Zgf t.aa H4 O->Yn O t.ae Zw Zt:=fun {O} o5=>by
   obtain ⟨pz4,hz4⟩:=TC4.ex;have at5:∀{b:Au} {o:HO},H4 b=some o->b≠t.aa->(∀kvs,o≠.dK kvs)->O b=some o:=fun {b o} e hb hn=>by
    rcases o5 b o e hb with z | ⟨kvs,_,z,_⟩
    ·exact z
    ·exact absurd z (hn kvs)
   rcases TW4 with h | ⟨c',oc,g1,Z,g3⟩
   ·exact .inl (at5 h hne.symm fun _ z=>nomatch z)
   ·exact .inr ⟨c',oc,at5 g1 hne.symm (fun _ z=>nomatch z),at5 Z (fun z=>by rw [z,hz4] at Z;cases Z) (fun _ z=>nomatch z),g3⟩
  obtain ⟨pz3,hz3⟩:=TW3.ex;refine ⟨m1,m2,ms,0,0,_,_,_,_,false,rfl,M1.tups (fun b xs e=>o4.tup hz3 e),M2,R1,R2,R1.pos,R2.pos,hnn,J.n3,J.nd,hk,hk,TC4,fun p q l ws O B hno g1 Z g3 g4 g5=>?_,fun p d w r kvs l O B F hw hm g1 Z g3 g4 g5 g6=>?_⟩
  ·refine kS p q ms l1 l2 l ws O N B1 B2 B (fun ls hl hls hd=>?_) g1 Z g3 (tw5 g5) g4 (off g5)
   obtain ⟨t0,c,rfl⟩:=jg hl;have:=(jh J Y B1 B2 B hls).mpr hd;rw [hno t0 c hls] at this;cases this
  ·have hdH:H d=none:=by
    cases e:H d with
    | none=>rfl
    | some o =>
     have n1:d≠t.ae:=fun z=>by
      obtain ⟨pz4,hz4⟩:=TW4.ex;rw [z,hz4] at Z;cases Z
     have:=o4 _ _ (o3 _ _ (I _ _ e) n1) n1;rw [Z] at this;cases this
   exact kP p d w r kvs ms O N (gK J Y B1 B2 B hw F hm) g1 hdH g3 g4 (tw5 g6) g5 (off g6)
def sp_law(K:Af)(D C:Au):Sp:=fun vs H Q _=>∃(a:Au) (q:Ak),vs=[.ref a]/\SqL K H a (q.map V.int)/\q.length<=63/\Yn H D Zw Zt/\Yn H C Z2 Z3/\∀H',Q (.bl true) H'
theorem ok_law:YA P w K mg base CX0 17 t.ui t.uj ["script"] (sp_law K t.ae t.aa):=by
 have G_law_is_parted:=GO P base T TB;have G_compared:=ku P base T TB;have G_law_within:=jv P base T TB;have G_law_two:=gR P base T TB;have G_law_two_numbers:=JM P base T TB;have G:=x8 P base T TB;have G_law_names:=yJ P base T TB;refine T.aaa.F.ok Y2 (fun vs H Q E h=>?_) (fun cdv A outer s H vs Q E hr h=>?_)
 ·obtain ⟨_,_,rfl,_⟩:=h
  rfl
 ·obtain ⟨a,ns,rfl,hS,h63,TW,TC,k⟩:=h
  have hu:=ZT hr;refine ⟨_,@QSs.out _ _ _ (Zb (Zn (i:=1) Y2.nd rfl (Or.inl rfl) (Zv zl (by rfl) T.su uZ (Zk (Zl G (hr.mono (by decide)) rfl T.ai.m T.ai.F.kp T.ai.b .nil ZG (Zk (qv 0) (Zk Zd Ze))) Ze)))
    (Zb (Zn (i:=2) Y2.nd rfl (Or.inl rfl) (Zl G_law_names (hr.mono (by decide)) rfl T.dt.m T.dt.F.kp T.dt.b .nil ZG (Zk (Zl G (hr.mono (by decide)) rfl T.ai.m T.ai.F.kp T.ai.b .nil ZG (Zk (qv 0) (Zk Zd Ze))) (Zk Zd Ze))))
    (Zb (Zn (i:=3) Y2.nd rfl (Or.inl rfl) (Zm ZU (qv 1) Zd))
    (Zb (Zn (i:=4) Y2.nd rfl (Or.inl rfl) (Zq Zu (qv 2) (qv 3)))
    (Zb (Zn (i:=5) Y2.nd rfl (Or.inl rfl) (Xc (SlR.or uG yV) (Zm Jd (Xc (SlR.or uG yV) (qv 2) XH (XI (qv 3))) (Xc (SlR.or uG yV) (qv 2) (XI (Zm Yy (qv 3) Zd)) XH)) XH (XI (Zm ZU (Zm Yq (qv 1) Zd) Zd))))
    (Zb (qs_asg (Zl G_law_two_numbers (hr.mono (by decide)) rfl T.bp.m T.bp.F.kp T.bp.b .nil ZG (Zk (Zv zl (by rfl) T.su uZ (Zk (Zl G (hr.mono (by decide)) rfl T.ai.m T.ai.F.kp T.ai.b .nil ZG (Zk (qv 0) (Zk Zd Ze))) Ze)) Ze)) (zy rfl (ZM (i:=6) Y2.nd rfl (Or.inl rfl)) (ZM (i:=7) Y2.nd rfl (Or.inl rfl))))
    (Zb (Zn (i:=8) Y2.nd rfl (Or.inl rfl) Zd)
    (Zb (kF Qbm (Zz Xv (Zm ZU (qv 6) (Zm kz Zd (qv 8))) (Zm ZU (qv 7) (Zm kz Zd (qv 8))) (ZF _))
    (Zf (Zn (i:=8) Y2.nd rfl (Or.inl rfl) (Zm Yy (qv 8) Zd))))
    (Zb (Zn (i:=9) Y2.nd rfl (Or.inl rfl) qk)
    (Zb (YB Qbm rfl (Wf (qv 5)) (ZM (i:=10) Y2.nd rfl (Or.inl rfl))
    (Zf (XM hu (qv 9) (qv 10) Zd rfl)))
    (Zb (Zn (i:=11) Y2.nd rfl (Or.inl rfl) (Zm ZU (Zm Yq (qv 1) Zd) Zd))
    (Zb (Ye (Zz Zdj (qv 11) Zd (ZF _))
    (Zb (Zn (i:=12) Y2.nd rfl (Or.inl rfl) (Zl G_law_two (hr.mono (by decide)) rfl T.fj.m T.fj.F.kp T.fj.b .nil ZG (Zk (qv 11) (Zk (qv 4) (Zk (qv 6) (Zk (qv 7) Ze))))))
    (Zb (Ye (Zz op_gt (qv 11) Zd (ZF _))
    (Zf (XM hu (qv 9) (qv 4) Zd rfl)) Z6)
    (Zf (Ye (Zz Xv (qv 11) Zd (ZF _))
    (Zf (XM hu (qv 9) (qv 4) (Zm kz Zd (Zm j6 (qv 8) Zd)) rfl)) Z6)))) (Zb (Zn (i:=8) Y2.nd rfl (Or.inl rfl) (Zm Yy Zd (Zm ZU (Zm Yq (qv 1) Zd) Zd)))
    (Zb (Zn (i:=12) Y2.nd rfl (Or.inl rfl) (ZI (Zk (Zm Jd (Zm vw (ZI (Zk Zx Ze)) (Zm j6 (qv 8) Zd)) (ZI (Zk (qv 4) Ze))) (Zk (ZI (Zk Zd Ze)) Ze))))
    (Zf (XM hu (qv 9) (qv 4) Zd rfl)))))
    (Zb (Zn (i:=13) Y2.nd rfl (Or.inl rfl) (Zm XE (Zm ZU (Zm Yq (qv 1) Zd) Zd) (Z8 uy (by rfl) T.rf k9 (Zk (Xk Zdj (qv 11) Zd (ZF _)) Ze))))
    (Zb (Zn (i:=8) Y2.nd rfl (Or.inl rfl) (Zm Yy (qv 8) (qv 13)))
    (Zb (Zn (i:=14) Y2.nd rfl (Or.inl rfl) (Zl G_law_within (hr.mono (by decide)) rfl T.aw.m T.aw.F.kp T.aw.b .nil ZG (Zk (Zm Yq (qv 1) Zd) (Zk (Zm Jd (Zm vw (ZI (Zk Zx Ze)) (qv 13)) (Zq Zu (qv 12) Zd)) (Zk (qv 5) Ze)))))
    (Zb (Zn (i:=15) Y2.nd rfl (Or.inl rfl) (Zl G_law_within (hr.mono (by decide)) rfl T.aw.m T.aw.F.kp T.aw.b .nil ZG (Zk (Zm Yq (qv 1) Zd) (Zk (Zm Jd (Zm vw (ZI (Zk Zx Ze)) (qv 13)) (Zq Zu (qv 12) Zd)) (Zk (qv 5) Ze)))))
    (Zb (Ye (Zz Xv (Zm ZU (Zm Yq (qv 1) Zd) Zd) Zd (ZF _))
    (Zf (qs_par (i:=14) (j:=15) rfl Y2.nd rfl rfl (by decide) rfl rfl (Zk (qv 15) (Zk (qv 14) Ze)) rfl)) Z6)
    (Zf (Zp (Zl G_law_is_parted (hr.mono (by decide)) rfl T.cf.m T.cf.F.kp T.cf.b .nil ZG (Zk (Zl G_compared (hr.mono (by decide)) rfl T.eh.m T.eh.F.kp T.eh.b .nil ZG (Zk (qv 14) (Zk (qv 15) Ze))) (Zk (qv 8) (Zk (qv 9) Ze))))))))))))))))))))))),?_⟩
  try dsimp only [L2.cxK,L2.cxK2]
  refine ⟨_,rfl,a,ns,0,rfl,hS,fun c0=>⟨_,rfl,Zi ?_⟩⟩;have hsh:0<=(if c0 < 0 then -c0 else c0):=by split <;> lia
  generalize (if c0 < 0 then -c0 else c0)=sh at *;refine ⟨_,rfl,a,ns,1,rfl,hS,fun c1=>⟨c1,3,rfl,by decide,fun tn D H1 htn0 htn h3 hnd hnm s1=>Zi ?_⟩⟩;refine ⟨_,rfl,_,_,rfl,rfl,(by show (0:Int) < 3;decide),Zi ?_⟩
  try dsimp only
  obtain ⟨Z,htu,htu3⟩:∃Z:Nat,sh % 3=(Z:Int)/\Z < 3:=⟨(sh % 3).toNat,by lia,by lia⟩;rw [htu];obtain ⟨C,hnv⟩:∃C,D[Z]?=some C:=⟨_,Qaf (by lia)⟩;have hnm1:NmS C:=hnm C (Qai hnv);refine ⟨_,rfl,_,rfl,tn,_,_,_,rfl,rfl,SqT.of htn,Yh (show (D.map V.str)[Z]?=some (.str C) by rw [Qaj,hnv];rfl),Zi ?_⟩;refine ⟨_,rfl,_,rfl,_,rfl,qA htn fun q1 H2 hq1 s2=>⟨_,rfl,_,rfl,_,_,rfl,rfl,_,rfl,qA (s2 _ _ htn) fun q2 H3 hq2 s3=>⟨q1,q2,_,_,rfl,rfl,s3 _ _ hq1,hq2,?_,fun q3 H4 hq3 s4=>⟨_,rfl,_,_,rfl,rfl,.of (by decide) (by decide),_,_,rfl,rfl,(by show (0:Int) < 3;decide),_,rfl,qA hq3 fun q4 H5 hq4 s5=>Zi ?_⟩⟩⟩⟩
  ·have l1:=XD (D.map V.str) none (some (Z:Int))
   have l2:=XD (D.map V.str) (some ((Z:Int) + 1)) none;rw [Qac] at l1 l2;exact Qav (Zo (by show (xf (D.map V.str) none (some (Z:Int))).length + (xf (D.map V.str) (some ((Z:Int) + 1)) none).length<=1000;lia))
  obtain ⟨mm,hmm,hmm3⟩:∃mm:Nat,sh / 3 % 3=(mm:Int)/\mm < 3:=⟨(sh / 3 % 3).toNat,by lia,by lia⟩;have hq4:H5 q4=some (.tup (((D.take Z++D.drop (Z + 1)).take mm).map V.str)):=by
   rw [hq4];show some (HO.tup (xf (xf (D.map V.str) none (some (Z:Int))++xf (D.map V.str) (some ((Z:Int) + 1)) none) none (some (sh / 3 % 3))))=_;rw [hmm,WD,JD,show (Z:Int) + 1=((Z + 1:Nat):Int) from rfl,WD,yg,<-Qa6,WD,JD]
  have perm:D.Perm (C::(D.take Z++D.drop (Z + 1))):=by
   have e:D=D.take Z++C::D.drop (Z + 1):=by rw [<-Gm hnv,Qc4]
   exact (List.Perm.of_eq e).trans List.perm_middle
  have nd2:=Qci.mp (perm.nodup_iff.mp hnd);have hes:((D.take Z++D.drop (Z + 1)).take mm).length<=2/\((D.take Z++D.drop (Z + 1)).take mm).Nodup/\C∉(D.take Z++D.drop (Z + 1)).take mm/\∀y∈(D.take Z++D.drop (Z + 1)).take mm,NmS y :=
   ⟨by rw [Qa0];lia,nd2.2.sublist (Qgv _ _),fun z=>nd2.1 (Qcu z),fun y hy=>hnm y (perm.mem_iff.mpr (Qam _ (Qcu hy)))⟩
  generalize (D.take Z++D.drop (Z + 1)).take mm=es at *;obtain ⟨es2,esd,esn,esm⟩:=hes;have s15:=s1.trans ((s2.trans (s3.trans s4)).trans s5);have hS5:=Zes hS s15;refine ⟨_,rfl,a,ns,2,rfl,hS5,fun c2=>⟨_,rfl,_,rfl,(by split <;> lia),fun tp x y H6 hx hy hxy htp s6=>⟨tp,_,rfl,SqT.of htp,rfl,_,_,rfl,Zi ⟨_,_,rfl,Zi ⟨rfl,Zi ?_⟩⟩⟩⟩⟩;have hq6:=s6 _ _ hq4;have p1:∀J:Nat,(1:Int) * 2 ^ ((J:Int) + 1).toNat=2 ^ (J + 1):=fun J=>by rw [Int.one_mul,show ((J:Int) + 1).toNat=J + 1 by lia]
  refine Za2 (fun σ H'=>∃J:Nat,σ=[some (.ref a),some (.int sh),some (.ref tn),some (.int (Z:Int)),some (.str C),some (.ref q4),some (.int x),some (.int y),some (.int ((J:Int) + 1)),none,none,none,none,none,none,none]/\J<=9/\x % 2 ^ J=y % 2 ^ J/\H'=H6) (fun σ _=>match σ with | [_,_,_,_,_,_,_,_,some (.int m),_,_,_,_,_,_,_]=>(20 - m).toNat | _=>0) ⟨0,rfl,by decide,by rw [Qd3,Qe6,Qe6],rfl⟩ ?_;rintro σ H7 ⟨J,rfl,hw9,hxw,rfl⟩;have cp:CPow 1 ((J:Int) + 1):=⟨by lia,by lia,by decide⟩;have pp:(0:Int) < 1 * 2 ^ ((J:Int) + 1).toNat:=by rw [p1];exact Xf _
  refine ⟨_,rfl,_,rfl,_,_,rfl,rfl,cp,_,_,rfl,rfl,pp,_,rfl,_,rfl,_,_,rfl,rfl,cp,_,_,rfl,rfl,pp,rfl,_,rfl,?_⟩;refine k4 (fun hb=>?_) (fun hb=>?_)
  ·have e1:x % 2 ^ (J + 1)=y % 2 ^ (J + 1):=by
    have:=Qaz hb;injection this with this;rw [p1] at this;exact this
   have hw8:J + 1<=9:=by
    rcases Qc3 (J + 1) 10 with z | z
    ·lia
    ·exfalso
     have hw:J=9:=by lia
     rw [hw] at e1;have:x % 1024=y % 1024:=e1;lia
   refine ⟨fun σ' H'=>σ'=[some (.ref a),some (.int sh),some (.ref tn),some (.int (Z:Int)),some (.str C),some (.ref q4),some (.int x),some (.int y),some (.int ((J:Int) + 1 + 1)),none,none,none,none,none,none,none]/\H'=H7,?_,⟨_,rfl,_,_,rfl,rfl,Zi ⟨rfl,rfl⟩⟩⟩;rintro σ' H' ⟨rfl,rfl⟩;exact ⟨(20 - ((J:Int) + 1 + 1)).toNat,by show (20 - ((J:Int) + 1 + 1)).toNat < (20 - ((J:Int) + 1)).toNat;lia,rfl,J + 1,rfl,hw8,e1,rfl⟩
  have L:Zcq x y J:=⟨⟨hx,hy⟩,hxw,fun z=>hb (Qao (show V.int (x % (1 * 2 ^ ((J:Int) + 1).toNat))=V.int (y % (1 * 2 ^ ((J:Int) + 1).toNat)) by rw [p1,z]))⟩;refine fun wd hwd=>Zi ?_;have sw:=Zc (o:=.dK []) hwd;refine ⟨_,rfl,q4,rfl,⟨_,SqT.of (sw _ _ hq6)⟩,qc (K:=K) (a:=q4) (xs:=es.map V.str) (fun i σ H'=>∃(u10:Option V),σ=[some (.ref a),some (.int sh),some (.ref tn),some (.int (Z:Int)),some (.str C),some (.ref q4),some (.int x),some (.int y),some (.int ((J:Int) + 1)),some (.ref wd),u10,none,none,none,none,none]/\H' wd=some (.dK (kvE (es.take i)))/\ZA H7 H') ⟨none,rfl,Za,sw⟩ (fun i σ H' _ ⟨_,_,_,s⟩=>SqT.of (s _ _ hq6)) ?_ ?_⟩
  ·rintro i e0 σ H8 he0 ⟨u10,rfl,h8,s8⟩
   obtain ⟨e,rfl,he⟩:=qG he0;have hel:e∉es.take i:=fun h=>by
    have hl:=(Qah.mp he).1;have:(es.take i++es.drop i).Nodup:=by rw [Qc4];exact esd
    refine (Qdv.mp this).2.2 e h e ?_ rfl;rw [Gm he];exact Qaq
   refine Zi ⟨_,rfl,_,rfl,wd,_,rfl,gb.k (k:=.inr e) h8 (by unfold kvE;rw [Qac,Qa0];exact Zo (by lia)),_,rfl,?_,Ys s8 hwd⟩;rw [Za,vS hel,take_snoc he];unfold kvE;rw [Qa6]
   rfl
  rintro σ H8 ⟨u10,rfl,h8,s8⟩;rw [Qac,Qbi] at h8;refine ⟨_,rfl,_,_,rfl,rfl,.of (by decide) (by decide),_,_,rfl,rfl,(by show (0:Int) < 8;decide),Zi ?_⟩
  try dsimp only
  obtain ⟨I,hkd,hkd8⟩:∃I:Nat,sh / 9 % 8=(I:Int)/\I < 8:=⟨(sh / 9 % 8).toNat,by lia,by lia⟩;rw [hkd];refine Zdt (fun σ H'=>∃(k:Nat) (g:Int) (tA tB:Tr) (O:Option Str) (pr u v:Au),σ=[some (.ref a),some (.int sh),some (.ref tn),some (.int (Z:Int)),some (.str C),some (.ref q4),some (.int x),some (.int y),some (.int ((k:Int) + 1)),some (.ref wd),u10,some (.int (I:Int)),some (.ref pr),none,none,none]/\H' pr=some (.tup [.ref u,.ref v])/\(∀Q R,H' u=some (.tup (tA.flat (ptV O) Q R)))/\(∀Q R,H' v=some (.tup (tB.flat (ptV O) Q R)))/\(∀far:Nat,far<=4->(I=7->far=0)->Rdy tA tB k g O C I far)/\H' wd=some (.dK (kvO es O g))/\ZA H7 H') (fun N hN=>?_) ?_
  ·refine ⟨_,rfl,_,_,rfl,rfl,_,rfl,k4 (fun hb=>?_) (fun hb=>?_)⟩
   ·have hkd7:I < 7:=by
     have:=Qaz hb;lia
    refine ⟨_,rfl,_,rfl,_,rfl,_,rfl,I,C,x,y,rfl,hkd7,fun pr u v H9 hpr hu hv s9=>Zi ?_⟩;have h9:=s9 _ _ h8;have s89:=s8.trans s9;have szz:(kvE es).length < sizeLine:=by unfold kvE;rw [Qac];exact Zo (by lia)
    by_cases k0:I=0
    ·subst k0
     refine ⟨_,rfl,_,_,rfl,rfl,_,rfl,YZ ⟨_,rfl,rfl,_,rfl,?_⟩⟩;rw [Qau (by intro z;injection z with z;cases z)];refine YZ (hN _ _ ⟨J,0,.num x,.num y,none,pr,u,v,rfl,hpr,fun _ _=>hu,fun _ _=>hv,fun far hf _=>⟨L.k0,by decide,Xf _,.inl rfl,fun _=>rfl,fun z=>absurd rfl z,⟨by show 0 + far<=5;lia,by show 0 + far<=5;lia⟩,⟨by show 1<=15;decide,by show 1<=15;decide⟩,⟨by show 0<=6;decide,by show 0<=6;decide⟩,hf,⟨by show 1 + far<=8;lia,by show 1 + far<=8;lia⟩⟩,?_,s89⟩);unfold kvO;rw [Qbq];exact h9
    ·have rdy:∀g,ZL (YJ I x) (YJ I y) J g->(g=0\/g=2 ^ J)->∀far:Nat,far<=4->(I=7->far=0)->Rdy (YJ I x) (YJ I y) J g (some C) C I far:=fun g P hg far hf _=>by
      have e:∀z:Int,(YJ I z).u 0=true/\(YJ I z).rm<=1/\(YJ I z).sz=9/\(YJ I z).rs=2/\(YJ I z).ln=3:=fun z=>by
       unfold YJ;rw [Qaw k0]
       split
       ·exact ⟨rfl,by show 0 + 0 + (if ("sub" : Str)∈allR then 1 else 0)<=1;split <;> decide,rfl,rfl,rfl⟩
       ·exact ⟨rfl,by show 0 + 0 + (if WS I∈allR then 1 else 0)<=1;split <;> decide,rfl,rfl,rfl⟩
      have ex:=e x;have ey:=e y;have pw:=Xf J;have ps:(2:Int) ^ (J + 1)=2 ^ J * 2:=Qdr ..;exact ⟨P,by rcases hg with z | z <;> lia,by rcases hg with z | z <;> lia,.inr rfl,(fun z=>nomatch z),(fun _=>ex.1),⟨by lia,by lia⟩,⟨by lia,by lia⟩,⟨by lia,by lia⟩,hf,⟨by lia,by lia⟩⟩
     have put1:putK (kvE es) (.inr C) (.int 0)=kvO es (some C) 0:=vS esn _;refine ⟨_,rfl,_,_,rfl,rfl,_,rfl,?_⟩;rw [Qao (show (0:Int) < (I:Int) by lia)];refine Wk ⟨_,rfl,_,rfl,wd,_,rfl,gb.k (k:=.inr C) h9 szz,?_⟩;have hw10:upd H9 wd (.dK (putK (kvE es) (.inr C) (.int 0))) wd=some (.dK (kvO es (some C) 0)):=by rw [Za,put1]
     have s10:ZA H7 (upd H9 wd (.dK (putK (kvE es) (.inr C) (.int 0)))):=Ys s89 hwd;have nw:∀{b:Au} {xs:A0} {o:HO},H9 b=some (.tup xs)->upd H9 wd o b=some (.tup xs):=fun {b xs o} z=>by rw [Zh (Xa z h9 fun q=>nomatch q)];exact z
     refine ⟨_,rfl,rfl,_,rfl,?_⟩
     by_cases k6:I=6
     ·subst k6
      rw [Qao (by rfl)];refine Wk ⟨_,rfl,_,_,rfl,rfl,_,_,rfl,rfl,⟨by lia,by lia,by decide⟩,_,rfl,_,rfl,wd,_,rfl,gb.k (k:=.inr C) hw10 (by rw [vU];exact Zo (by rw [Qae];show _ + 1<=1000;lia)),?_⟩;have eg:(1:Int) * 2 ^ (((J:Int) + 1) - 1).toNat=2 ^ J:=by rw [Int.one_mul,show ((J:Int) + 1 - 1).toNat=J by lia]
      obtain ⟨g,hg,P⟩:=L.kp "and" (by decide);have hg:g=2 ^ J:=hg;subst hg;refine hN _ _ ⟨J,2 ^ J,YJ 6 x,YJ 6 y,some C,pr,u,v,rfl,?_,fun Q R=>?_,fun Q R=>?_,rdy _ P (.inr rfl),?_,Ys s10 hwd⟩
      ·rw [WU];exact nw hpr
      ·rw [WU,WG 6 x _ Q R [.int 0] [.int 0]];exact nw hu
      ·rw [WU,WG 6 y _ Q R [.int 0] [.int 0]];exact nw hv
      ·rw [Za]
       show some (HO.dK (putK (kvE es++[(.inr C,.int 0)]) (.inr C) (.int (1 * 2 ^ ((J:Int) + 1 - 1).toNat))))=_;rw [eg,Zcx (by rw [Gn,Qaw esn])]
       rfl
     ·rw [Qau (fun z=>k6 (by injection z with z;lia))]
      have P:ZL (YJ I x) (YJ I y) J 0:=by
       by_cases k1:I=1
       ·subst k1
        exact L.k1
       ·have hs:WS I∈(["and","or","odd","add","sub"]:Ai)/\WS I ≠ "and" := (by decide +kernel:∀I∈[2,3,4,5],WS I∈(["and","or","odd","add","sub"]:Ai)/\WS I ≠ "and") I (by simp only [Qan,Qbd,Qdq];lia)
        obtain ⟨g,hg,P⟩:=L.kp (WS I) hs.1;rw [Qaw hs.2] at hg;subst hg;unfold YJ;rw [Qaw k0,Qaw k1,Qaw k0,Qaw k1];exact P
      refine YZ (hN _ _ ⟨J,0,YJ I x,YJ I y,some C,pr,u,v,rfl,nw hpr,fun Q R=>?_,fun Q R=>?_,rdy _ P (.inl rfl),hw10,s10⟩)
      ·rw [WG I x _ Q R [.int 0] [.int 0]];exact nw hu
      ·rw [WG I y _ Q R [.int 0] [.int 0]];exact nw hv
   ·have k7:I=7:=by
     rcases Qc3 I 7 with z | z
     ·exact absurd (Qao (show (I:Int) < 7 by lia)) hb
     ·lia
    refine ⟨_,rfl,_,_,rfl,rfl,.of (by decide) (by decide),_,_,rfl,rfl,(by show (0:Int) < 5;decide),_,_,rfl,rfl,Zi ?_⟩
    try dsimp only
    obtain ⟨n,hn,hn1,hn5⟩:∃n:Nat,2 + sh / 72 % 5=(n:Int) + 1/\1<=n/\n<=5:=⟨(1 + sh / 72 % 5).toNat,by lia,by lia,by lia⟩;rw [hn];refine ⟨Zdc,fun t1 ht1=>⟨_,rfl,_,_,rfl,rfl,t1,n,_,rfl,by show V.int ((n:Int) + 1 - 1)=_;rw [show (n:Int) + 1 - 1=n by lia],Za,by lia,(fun z=>nomatch z),Qav (Zo (by show 1 * n<=1000;lia)),fun t2 H9 ht2 s9=>⟨_,rfl,Zdc,fun t3 ht3=>⟨t2,t3,_,_,rfl,rfl,Zc ht3 _ _ ht2,Za,?_,fun t4 H10 ht4 s10=>⟨Zdc,fun t5 ht5=>⟨zi,fun pr hpr=>Zi ?_⟩⟩⟩⟩⟩⟩
    ·rw [G5,Qax]
     exact Qav (Zo (by show n + 1<=1000;lia))
    have q1:=Zc (o:=.tup [V.str "twice"]) ht1;have q3:=Zc (o:=.tup [V.str C]) ht3;have q5:=Zc (o:=.tup [V.int 0]) ht5;have q6:=Zc (o:=.tup [V.ref t4,V.ref t5]) hpr;have q9:ZA (upd H8 t1 (.tup [V.str "twice"])) H9:=s9;have s11:=((q1.trans q9).trans (q3.trans s10)).trans (q5.trans q6);have h11:=s11 _ _ h8;have ht4':=q6 _ _ (q5 _ _ ht4);have ht5':=q6 _ _ (Za (H:=H10) (a:=t5) (o:=.tup [V.int 0]));have hpr':=Za (H:=upd H10 t5 (.tup [V.int 0])) (a:=pr) (o:=.tup [V.ref t4,V.ref t5]);have s78:=s8.trans s11;generalize upd (upd H10 t5 (.tup [V.int 0])) pr (.tup [V.ref t4,V.ref t5])=H11 at *;refine ⟨_,rfl,_,rfl,wd,_,rfl,gb.k (k:=.inr C) h11 (by unfold kvE;rw [Qac];exact Zo (by lia)),?_⟩;have nw:∀{b:Au} {xs:A0} {o:HO},H11 b=some (.tup xs)->upd H11 wd o b=some (.tup xs):=fun {b xs o} z=>by rw [Zh (Xa z h11 fun q=>nomatch q)];exact z
    obtain ⟨f1,f2,f3,f4⟩:=JK n .p;have f5:=Zcy n .p;refine hN _ _ ⟨n,1,twn n .p,.num 0,some C,pr,t4,t5,rfl,nw hpr',fun Q R=>?_,fun Q R=>nw ht5',fun far hf h7=>⟨pair7 n,by decide,?_,.inr rfl,(fun z=>nomatch z),(fun _=>by rw [f4];rfl),⟨?_,?_⟩,⟨?_,?_⟩,⟨?_,?_⟩,hf,⟨?_,?_⟩⟩,by rw [Za,vS esn];rfl,Ys s78 hwd⟩
    ·rw [qa,<-G5]
     exact nw ht4'
    ·have:=Xf n
     rw [show (2:Int) ^ (n + 1)=2 ^ n * 2 from Qdr ..];lia
    ·rw [f1,h7 k7];show 0 + n + 0<=5;lia
    ·rw [h7 k7];show 0 + 0<=5;lia
    ·rw [f2];show 7 + n<=15;lia
    ·show 1<=15;decide
    ·rw [f3];show 1 + n<=6;lia
    ·show 0<=6;decide
    ·rw [f5,h7 k7];show 1 + n + 0<=8;lia
    ·rw [h7 k7];show 1 + 0<=8;lia
  rintro σ H9 ⟨kk,g,tA,tB,O,pr,u,v,rfl,hpr,hu,hv,hR,hwd9,s9⟩;have fin:∀(tt uu:Tr) (K0:Nat) (f1 f2:Au) (wz:Int) (HA:Hp) (Y:List (Option V)),ZL tt uu K0 g->0<=g->g < 2 ^ (K0 + 1)->(O=none->g=0)->(O=none\/O=some C)->wz=(K0:Int) + 1->(∀ms,W7 (tt.flat (ptV O) (ptV es[0]?) (ptV es[1]?)) (uu.flat (ptV O) (ptV es[0]?) (ptV es[1]?)) ms->(ms.Nodup/\∀y,y∈ms↔O=some y\/es[0]?=some y\/es[1]?=some y)/\POk ms false (tt.flat (ptV O) (ptV es[0]?) (ptV es[1]?))/\POk ms false (uu.flat (ptV O) (ptV es[0]?) (ptV es[1]?)))->11 * 2 ^ Yx (tt.flat (ptV O) (ptV es[0]?) (ptV es[1]?)) * (11 * 2 ^ Yx (uu.flat (ptV O) (ptV es[0]?) (ptV es[1]?)))<=1000000->tt.ln + uu.ln<=60->HA f1=some (.tup (tt.flat (ptV O) (ptV es[0]?) (ptV es[1]?)))->HA f2=some (.tup (uu.flat (ptV O) (ptV es[0]?) (ptV es[1]?)))->HA wd=some (.dK (kvO es O g))->ZA H HA ->
    tRet (uB (Wi K) [] E0 (j9 (uB (xc P w K mg base t.ae t.aa) [] E0 (j9 (ud 14) (j9 (ud 15) Zko))) (j9 (ud 8) (j9 (ud 9) Zko)))) { nx:=fun x H'=>Q V.non H',rt:=Q } [some (.ref a),some (.int sh),some (.ref tn),some (.int (Z:Int)),some (.str C),some (.ref q4),some (.int x),some (.int y),some (.int wz),some (.ref wd),u10,some (.int (I:Int)),some (.ref pr),Y.getD 0 none,some (.ref f1),some (.ref f2)] HA:=by
   intro tt uu K0 f1 f2 wz HA Y A g0 g1 gz op ew hN hbig hln hf1 hf2 hwA sA;have hall:∀y,O=some y\/es[0]?=some y\/es[1]?=some y->NmS y:=fun y h=>by
    rcases h with h | h
    ·rcases op with z | z
     ·rw [z] at h;cases h
     ·rw [z] at h;cases h;exact hnm1
    ·exact esm y ((jj es2 y).mpr h)
   have si:=fun (t:Tr) (ht:t.ok=true)=>Tr.si (t:=t) (Zcz (o:=O) fun y h=>hall y (.inl h)) (Zcz (o:=es[0]?) fun y h=>hall y (.inr (.inl h))) (Zcz (o:=es[1]?) fun y h=>hall y (.inr (.inr h))) ht;have ln:=fun (t:Tr)=>Tr.ln_eq (XY O) (XY es[0]?) (XY es[1]?) t;have TWA:=TW.same sA;have TCA:=TC.same sA;refine ⟨_,rfl,_,rfl,f1,f2,_,_,rfl,hf1,hf2,fun z hz=>(Qa4.mp hz).elim (si tt A.ok.1 z) (si uu A.ok.2 z),by rw [Qae,ln,ln];exact hln,fun ms N=>(hN ms N).2,hbig,TWA,TCA,?_,?_⟩
   ·intro p q ms l1 l2 l ws HB N _ _ _ hno
    obtain ⟨⟨nd,mem⟩,P1,_⟩:=hN ms N;obtain ⟨T,t1,t2,t3⟩:=Ze6 P1.n3 nd P1.kp (fun y h=>(mem y).mpr (.inl h)) (fun y h=>(mem y).mpr (.inr (.inl h))) (fun y h=>(mem y).mpr (.inr (.inr h))) A g0 g1 gz;exact absurd t3 (hno T t1 t2)
   ·intro p d w' r kvs ms HB N F e1 e2 e3 e4 e5 e6 e7
    obtain ⟨⟨nd,mem⟩,P1,_⟩:=hN ms N;obtain ⟨hw',vals⟩:=gL P1.n3 nd P1.kp (fun y h=>(mem y).mpr (.inl h)) (fun y h=>(mem y).mpr (.inr (.inl h))) (fun y h=>(mem y).mpr (.inr (.inr h))) A g0 g1 gz F;have hwp:wd≠t.ae:=fun z=>by obtain ⟨pz,hz⟩:=TWA.ex;rw [z,hz] at hwA;cases hwA
    have hwc:wd≠t.aa:=fun z=>by obtain ⟨pz,hz⟩:=TCA.ex;rw [z,hz] at hwA;cases hwA
    have rdw:Rd HB wd (.dK (kvO es O g)):=by
     rcases e7 wd _ hwA hwp hwc with z | ⟨kvs',o,z,z2⟩
     ·exact .inl z
     ·cases z
      exact .inr ⟨o,z2⟩
    have hdw:d≠wd:=fun z=>by rw [z,hwA] at e2;cases e2
    have onn:∀y,O=some y->y∉es:=fun y h=>by
     rcases op with z | z
     ·rw [z] at h;cases h
     ·rw [z] at h;cases h;exact esn
    have ksd:(es++O.toList).Nodup:=Qdv.mpr ⟨esd,by cases O <;> simp,fun y hy z hz e=>by
     cases O with
     | none=>cases hz
     | some q =>
      have:z=q:=Qal.mp hz;subst e;exact onn y (by rw [this]) hy⟩
    have ksm:∀y,y∈es++O.toList↔O=some y\/es[0]?=some y\/es[1]?=some y:=fun y=>by
     rw [Qa4,jj es2 y];have:y∈O.toList↔O=some y:=by cases O <;> simp [eq_comm]
     rw [this];exact or_comm
    have hlen:kvs.length=(kvO es O g).length:=by rw [e4.len_nd nd,vU];exact Zcu nd mem ksd ksm
    refine ⟨_,rfl,_,rfl,p,d,wd,wz,kvs,_,rfl,by rw [e1,ew,hw'];rfl,e3,hdw,rdw,hlen,?_,fun q hq=>?_,k⟩
    ·rw [vU,Qae]
     have:O.toList.length<=1:=by cases O <;> simp
     lia
    ·obtain ⟨y,z,rfl,z1,z2,z3⟩:=Zi7 onn q hq
     refine ⟨y,z,rfl,?_,z3⟩;have hy:y∈ms:=(mem y).mpr (by
      rcases z2 with h | h
      ·exact .inr ((jj es2 y).mp h)
      ·exact .inl h)
     rw [e4.val y hy,vals _ y (Zgc hy),z1]
  have hfa:∃fa:Nat,sh / 1440 % 5 * (if decide ((I:Int) < 7)=true then 1 else 0)=(fa:Int)/\fa<=4/\(I=7->fa=0):=by
   by_cases h7:(I:Int) < 7
   ·rw [Qa1 (Qao h7)]
    exact ⟨(sh / 1440 % 5).toNat,by lia,by lia,fun z=>by lia⟩
   ·rw [Qaw (fun z=>h7 (Qaz z))]
    exact ⟨0,by lia,by lia,fun _=>rfl⟩
  obtain ⟨fa,efa,fa4,fa7⟩:=hfa;have R:=hR fa fa4 fa7;refine ⟨_,rfl,_,_,rfl,rfl,.of (by decide) (by decide),_,_,rfl,rfl,(by show (0:Int) < 5;decide),_,rfl,_,_,rfl,rfl,.inr ⟨_,rfl,_,_,rfl,rfl,.inr (.inl ⟨by lia,by lia⟩),Zi ?_⟩⟩
  try dsimp only
  rw [efa];refine ⟨_,rfl,_,rfl,_,_,rfl,rfl,Zi ?_⟩;have hq9:=s9 _ _ hq6;have l1:(tA.flat (ptV O) (ptV es[0]?) (ptV es[1]?)).length<=8:=by rw [Tr.ln_eq (XY O) (XY es[0]?) (XY es[1]?)];have:=R.ln;lia
  have l2:(tB.flat (ptV O) (ptV es[0]?) (ptV es[1]?)).length<=8:=by rw [Tr.ln_eq (XY O) (XY es[0]?) (XY es[1]?)];have:=R.ln;lia
  refine ⟨_,rfl,_,_,rfl,rfl,.of (by decide) (by decide),Zdc,fun t1 ht1=>⟨_,rfl,t1,fa,_,rfl,rfl,Za,by lia,(fun z=>nomatch z),Qav (Zo (by show 1 * fa<=1000;lia)),fun t2 HA ht2 sA=>⟨_,rfl,pr,_,0,_,rfl,rfl,SqT.of (sA _ _ (Zc ht1 _ _ hpr)),rfl,t2,u,_,_,rfl,rfl,ht2,sA _ _ (Zc ht1 _ _ (hu (ptV es[0]?) (ptV es[1]?))),?_,fun t3 HB ht3 sB=>⟨_,rfl,_,t3,q4,_,es,rfl,ht3,sB _ _ (sA _ _ (Zc ht1 _ _ hq9)),es2,?_,fun f1 HC hf1 sC=>Zi ?_⟩⟩⟩⟩
  ·rw [G5,Qax]
   exact Qav (Zo (by lia))
  ·rw [G5,Qae,Qax]
   lia
  rw [G5,<-qa,Zcw es2] at hf1;have s9C:ZA H9 HC:=((Zc ht1).trans sA).trans (sB.trans sC);refine ⟨_,rfl,_,_,rfl,rfl,.of (by decide) (by decide),Zdc,fun t4 ht4=>⟨_,rfl,t4,fa,_,rfl,rfl,Za,by lia,(fun z=>nomatch z),Qav (Zo (by show 1 * fa<=1000;lia)),fun t5 HD ht5 sD=>⟨_,rfl,pr,_,1,_,rfl,rfl,SqT.of (sD _ _ (Zc ht4 _ _ (s9C _ _ hpr))),rfl,t5,v,_,_,rfl,rfl,ht5,sD _ _ (Zc ht4 _ _ (s9C _ _ (hv (ptV es[0]?) (ptV es[1]?)))),?_,fun t6 HE ht6 sE=>⟨_,rfl,_,t6,q4,_,es,rfl,ht6,sE _ _ (sD _ _ (Zc ht4 _ _ (s9C _ _ hq9))),es2,?_,fun f2 HF hf2 sF=>Zi ?_⟩⟩⟩⟩
  ·rw [G5,Qax]
   exact Qav (Zo (by lia))
  ·rw [G5,Qae,Qax]
   lia
  rw [G5,<-qa,Zcw es2] at hf2;have sCF:ZA HC HF:=((Zc ht4).trans sD).trans (sE.trans sF);have hf1:=sCF _ _ hf1;have s9F:=s9C.trans sCF;have hwF:=s9F _ _ hwd9;have sHF:ZA H HF:=((s15.trans s6).trans s9).trans s9F;obtain ⟨A,hNm,hbig⟩:=R.far (decide (sh / 360 % 2=1)) es2 esd esn esm hnm1;have lw1:=Zkl (decide (sh / 360 % 2=1)) es (twn fa tA);have lw2:=Zkl (decide (sh / 360 % 2=1)) es (twn fa tB);rw [Zcy] at lw1 lw2;have hln:=R.ln;have gk:g < 2 ^ (kk + fa + 1):=by
   have h:=Int.ofNat_le.mpr (Qc8 (show 0 < 2 by decide) (show kk + 1<=kk + fa + 1 by lia));rw [Qgj,Qgj] at h;exact Qgp R.g1 h
  have ez:((kk:Int) + 1) + (fa:Int)=((kk + fa:Nat):Int) + 1:=by lia
  refine vy (fun σ H'=>H'=HF/\(σ=[some (.ref a),some (.int sh),some (.ref tn),some (.int (Z:Int)),some (.str C),some (.ref q4),some (.int x),some (.int y),some (.int (((kk:Int) + 1) + (fa:Int))),some (.ref wd),u10,some (.int (I:Int)),some (.ref pr),some (.int (fa:Int)),some (.ref f1),some (.ref f2)]\/σ=[some (.ref a),some (.int sh),some (.ref tn),some (.int (Z:Int)),some (.str C),some (.ref q4),some (.int x),some (.int y),some (.int (((kk:Int) + 1) + (fa:Int))),some (.ref wd),u10,some (.int (I:Int)),some (.ref pr),some (.int (fa:Int)),some (.ref f2),some (.ref f1)])) (fun N hN=>?_) ?_
  ·refine ⟨_,rfl,_,_,rfl,rfl,.of (by decide) (by decide),_,_,rfl,rfl,(by show (0:Int) < 2;decide),rfl,_,rfl,k4 (fun hb=>?_) (fun hb=>?_)⟩
   ·exact ⟨_,rfl,_,rfl,_,_,rfl,hN _ _ ⟨rfl,.inr rfl⟩⟩
   ·exact hN _ _ ⟨rfl,.inl rfl⟩
  ·rintro σ H' ⟨rfl,rfl | rfl⟩
   ·exact fin _ _ (kk + fa) f1 f2 _ H' [some (.int (fa:Int))] A R.g0 gk R.gz R.op ez (fun ms N=>hNm ms (.inl N)) hbig (by lia) hf1 hf2 hwF sHF
   ·exact fin _ _ (kk + fa) f2 f1 _ H' [some (.int (fa:Int))] A.symm R.g0 gk R.gz R.op ez (fun ms N=>let ⟨h1,h2,h3⟩:=hNm ms (.inr N);⟨h1,h3,h2⟩) (by rw [Nat.mul_comm];exact hbig) (by lia) hf2 hf1 hwF sHF
end
def oF(K:Af)(f:Au):Obj:=(K.lookup f).getD default
def fx(K:Af)(f:Au):Am:=match (oF K f).data with
 | .func g=>g
 | _=>default
abbrev fn0(K:Af)(x:Str)(st:Aw)(f:Au):Am:=PySem.W.fnOf x x (Wn st) (Xi st) (Zg st) .none (fx K f).kwdefaults (fx K f).doc (fx K f).pyModule (fx K f).annotations (fx K f).code (fx K f).closureTuple
abbrev FiE(K:Af)(x:Str)(st:Aw)(f:Au):Prop:=(PySem.W.nsIn K mainGlobals x,K.lookup f,PySem.W.codeIn K (fx K f).code x,PySem.W.keepIn K (.ref f))=(some (some (.ref f)),some ⟨(oF K f).cls,(oF K f).dict,.func (fn0 K x st f),(oF K f).slots⟩,true,true)
theorem Zkm{st:Aw}{f:Au}(e:FiE K x st f):fx K f=fn0 K x st f :=
 congrArg (fun o:Option Obj=>match (o.getD default).data with | .func g=>g | _=>default) (congrArg (fun z=>z.2.1) e)
def de{hp:Heap}{mg:Ae}{st:Aw}{f:Au}{ps:Ai}(X:K.In hp)(G:hp.Ns mainGlobals mg)(e:FiE K x st f)
  (h:∀(kV D I:As) (J:Option Au) (C ct:As) (q:Ag),q.length=ps.length->bindArgs (PySem.W.fnOf x x (Wn st) (Xi st) (Zg st) .none kV D I J C ct) ⟨q,[]⟩=pure (ps.zip q):=by first | (show ∀_ _ _ _ _ _ q,List.length q=1->_;exact fun _ _ _ _ _ _=>L2.len1 fun _=>rfl) | (show ∀_ _ _ _ _ _ q,List.length q=2->_;exact fun _ _ _ _ _ _=>L2.len2 fun _ _=>rfl) | (show ∀_ _ _ _ _ _ q,List.length q=3->_;exact fun _ _ _ _ _ _=>L2.len3 fun _ _ _=>rfl) | (show ∀_ _ _ _ _ _ q,List.length q=4->_;exact fun _ _ _ _ _ _=>L2.len4 fun _ _ _ _=>rfl) | (show ∀_ _ _ _ _ _ q,List.length q=5->_;exact fun _ _ _ _ _ _=>L2.len5 fun _ _ _ _ _=>rfl)):Df K mg x st ps f (fx K f):=by
 have F:=fun_mk (st:=st) (congrArg (fun z=>z.2.1) e) (congrArg (fun z=>z.2.2.1) e) (congrArg (fun z=>z.2.2.2) e);exact Eq.mp (congrArg (Df K mg x st ps f) (Zkm e).symm) ⟨F,PySem.W.mg_of X G (congrArg (·.1) e),F.binds h⟩
def mkE(P:Params):List (Str × Int)->List (Nat × Nat)->List DictEntry
 | x::l,t::r=>⟨PyData.keyHash P x.1,.str x.1 t.1,.int x.2 t.2⟩::mkE P l r
 | _,_=>[]
theorem Zc5(P:Params):∀(l:List (Str × Int)) (r:List (Nat × Nat)),l.length=r.length->KTab P (mkE P l r) l
 | [],[],_=>.nil
 | _::l,_::r,h=>.cons (Zc5 P l r (Nat.succ.inj h))
theorem kgo{w:Ar}{hp:Heap}{mg:Ae}{l:List (Str × Int)}(X:K.In hp)(G:hp.Ns mainGlobals mg)(r:List (Nat × Nat))(n:Nat)
  (e:(PySem.W.nsIn K mainGlobals x,K.lookup a)=(some (some (.ref a)),some ⟨.type "dict",none,.dict (Array.mk (mkE w.params l r)) n,#[]⟩)) (hl:l.length=r.length) (hn:(l.map (·.1)).Nodup) (hs:(a == sysModules)=false):Kg K w mg x a l :=
 ⟨PySem.W.mg_of X G (congrArg (·.1) e),⟨⟨_,_,congrArg (·.2) e,Zc5 _ l r hl⟩,hn,hs⟩⟩
def sV:Nat->List Str->List As
 | _,[]=>[]
 | t,x::l=>.str x t::sV (t + 1) l
theorem Zc6:∀(l:Ai) (t:Nat),Vals (l.map V.str) (sV t l)
 | [],_=>.nil
 | _::l,t=>.cons ⟨_,rfl⟩ (Zc6 l (t + 1))
theorem kto{hp:Heap}{mg:Ae}{l:Ai}(X:K.In hp)(G:hp.Ns mainGlobals mg)(t:Nat)
  (e:(PySem.W.nsIn K mainGlobals x,K.lookup a)=(some (some (.ref a)),some ⟨.type "tuple",none,.seq (Array.mk (sV t l)) 0,#[]⟩)) (hs:(sV t l).length<=sizeLine):Kt K mg x a l :=
 ⟨PySem.W.mg_of X G (congrArg (·.1) e),fun _=>.inr ⟨_,_,_,congrArg (·.2) e,rfl,rfl,hs,Zc6 l t⟩⟩
def KK(w:Ar):Af:=L2.noT (Hw.K w.params)
set_option maxHeartbeats 0 in
theorem all_mk {l:W.OpenLaw} {w:Ar} {h:Heap} {mg:Ae} {fa:Au} (X:(KK w).In h) (G:h.Ns mainGlobals mg) (hfa:mg "law" = some (.ref fa)) :
  ∃fd:Am,(∀(s:Aq) (v:As),BindsTo s fd ⟨[v],[]⟩ [("script",v)])/\∀base:Heap,(KK w).In base->base.Ns mainGlobals mg->(∀q∈([(227,225),(256,252)]:List (Au × Au)),W.CodeHd base q.1 q.2)->zF mg base->YA l.prog w (KK w) mg base CX0 17 fa fd ["script"] (sp_law (KK w) 225 252):=by
 cases hfa.symm.trans (W.mg_of X G (show W.nsIn (KK w) mainGlobals "law" = some (some (.ref 337)) by kernel_rfl));have T:Txt (KK w) w mg ⟨21,fx (KK w) 21,28,fx (KK w) 28,60,fx (KK w) 60,84,fx (KK w) 84,89,fx (KK w) 89,101,fx (KK w) 101,113,fx (KK w) 113,123,fx (KK w) 123,130,fx (KK w) 130,137,fx (KK w) 137,144,fx (KK w) 144,156,fx (KK w) 156,176,fx (KK w) 176,202,fx (KK w) 202,216,fx (KK w) 216,233,fx (KK w) 233,238,fx (KK w) 238,264,fx (KK w) 264,269,fx (KK w) 269,276,fx (KK w) 276,283,fx (KK w) 283,290,fx (KK w) 290,297,fx (KK w) 297,309,fx (KK w) 309,316,fx (KK w) 316,323,fx (KK w) 323,65,fx (KK w) 65,94,fx (KK w) 94,151,fx (KK w) 151,163,fx (KK w) 163,181,fx (KK w) 181,195,fx (KK w) 195,209,fx (KK w) 209,302,fx (KK w) 302,330,fx (KK w) 330,77,fx (KK w) 77,168,fx (KK w) 168,243,fx (KK w) 243,70,fx (KK w) 70,188,fx (KK w) 188,106,fx (KK w) 106,228,fx (KK w) 228,257,fx (KK w) 257,223,fx (KK w) 223,250,fx (KK w) 250,337,fx (KK w) 337,227,225,256,252,114,115,116,407,409,169⟩:=by
  constructor
  ·exact kgo X G [(344,345),(346,347),(348,349),(350,351),(352,353),(354,355),(356,357),(358,359),(360,361),(362,363)] 10 (by kernel_rfl) rfl (by decide +kernel) rfl
  ·exact kgo X G [(375,376),(377,378),(379,380),(381,382),(383,384)] 5 (by kernel_rfl) rfl (by decide +kernel) rfl
  ·exact kgo X G [(391,392),(393,394),(395,396),(397,398),(399,400)] 5 (by kernel_rfl) rfl (by decide +kernel) rfl
  ·exact W.mg_of X G (by kernel_rfl)
  ·exact W.mg_of X G (by kernel_rfl)
  ·exact kto X G 469 (by kernel_rfl) (by show _<=_;decide)
  all_goals first | exact de X G (by kernel_rfl) | exact W.mg_none_of X G (by kernel_rfl) | exact Nat.ne_of_beq_eq_false rfl | kernel_rfl
 exact ⟨_,fun s v=>Zkm (show FiE (KK w) "law" Zh3 337 by kernel_rfl) ▸ .of_eq rfl,fun base hKb _ hC hB=>ok_law _ _ T ⟨hC (227,225) (by simp),hC (256,252) (by simp),hB⟩⟩
end Lw
end
open PySem PySem.W PyProof.Rows
set_option maxRecDepth 100000 in
set_option maxHeartbeats 0 in
theorem PySem.Challenge.cw_everywidth_k24_parted_late_holds : PySem.Challenge.rw_everywidth_k24_parted_late.Holds := by
 w_on;refine holds_law Hw.ws fun said=>?_
 refine holds_openX Hw.left (fun s e=>xl_of s (Qas.mp e).1) XL.keeps
  (by rfl) (by rfl) (by rfl)
  (fun s e=>recFacts_of (Qas.mp e).2) (by rfl)
  (by first | assumption | decide +kernel) (by decide +kernel) ⟨rfl,rfl,rfl,rfl,rfl,by decide +kernel⟩ ?hw ?_
 (case hw=>w_witness2)
 refine L2.walk_X (fun _=>by kernel_rfl) ?_
 exact L2.walk_ofT (K:=fun P=>L2.noT (Hw.K P)) (n:=63) (k:=17) (x := "script") (CX:=fun _=>L2.CX0) (sp:=fun w=>Lw.sp_law (Lw.KK w) 225 252) rfl (by decide) rfl ⟨rfl,by decide,by decide⟩ (fun w h Y=>L2.in_noT (by kernel_rfl) Y) (fun w mean mg mb h T X=>List.forall_mem_cons.mpr ⟨PySem.W.tab_of (x:=PySem.Str.ofString "machine_telling") (c:=227) (P:=225) T X rfl (by kernel_rfl),List.forall_mem_cons.mpr ⟨PySem.W.tab_of (x:=PySem.Str.ofString "machines_compared") (c:=256) (P:=252) T X rfl (by kernel_rfl),List.forall_mem_nil _⟩⟩) (fun w=>L2.noT_ok _) (fun w mg fa h X G e=>Lw.all_mk X G e) (fun _ _ a ns hl hT hS=>⟨a,ns,rfl,hS,hl,.inl (hT (227,225) (by simp)),.inl (hT (256,252) (by simp)),fun _=>rfl⟩) fun _ _ _ _ _ z=>z
#print axioms PySem.Challenge.cw_everywidth_k24_parted_late_holds
