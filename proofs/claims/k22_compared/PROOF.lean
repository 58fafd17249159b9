import PyProof.Rows.All
import Wide.All
import OpenK.AllK
import Wide.FinOn
import Lean
import PyProof.EqAt
import PyProof.EqKinds
import PyProof.TupleCall
import PyProof.NeKinds
import KE.KRevSl
import KE.KRevIter
import PyProof.FactsAll.tuple
import PyProof.Rows.SortWalk
import PyProof.Rows.StrJoin2
import PyProof.StrBlockH
import PyProof.StrWalks
import PyProof.StrCalls2
import PyProof.ConsumeWalk
import KE.KIntText
import PyProof.Rows.SortStr
import PyProof.EnumStmt
import PyProof.WalksMore
import PyProof.ZipIter
import KE.KEqDict
import PyProof.DictWalks
import KE.KLam
import PyProof.Rows.SortShellK
import PyProof.AttrMissHeap
import KE.KDictOf
import PyProof.CollectWalk
import PyProof.ListNew
import KE.KSortTup
import PyProof.Rows.TupDisplay
import OpenK.KOwn
import PyProof.Rows.TopTwo
import PyProof.Rows.CatchOwn
import PyProof.RulesDel
import PyProof.RulesAs
import KE.KIsNot
import PyProof.ExcAttrAll.ValueError
import KE.KIsAll
import PyProof.StrReplace2
import PyProof.ReprStr
import PyProof.FString
import PyProof.StrLawsChain
import PyProof.SetRoads
import PyProof.StrLawsRepr
import PyProof.ReprHeads
import PyProof.ReprLen
import PyProof.FactsAll.bool
import KE.KNest
import PyProof.Rows.RuleM_int
import PyProof.Rows.CallKwBuiltin
import KE.KMinKey
import PyProof.ListRange
import PyProof.TupleOfSeq
import PyProof.TupleOfStr
import KE.KDictLaws
import PySem.Challenge.RW_everywidth_k22_compared
noncomputable section
set_option Elab.async false
set_option linter.all false
set_option maxRecDepth 100000
set_option maxHeartbeats 0
namespace Hw
open PySem PySem.W
theorem ws:PySem.Challenge.rw_everywidth_k22_compared.wellSaid=true:=by kernel_rfl
def p:Program:=PySem.Challenge.rw_everywidth_k22_compared.row.toRowW.prog
def B:List Stmt:=behindTheImports p
def nth:List Stmt→Nat→Option Stmt
  |[],_=>none
  |x::_,0=>some x
  |_::r,n+1=>nth r n
def fx:Option Stmt→Arguments×List Stmt×Scope×Str×Nat
  |some (.FunctionDef n a b _ _ _ s _ _ x)=>(a,b,s,n,x.line)
  |_=>default
def fd(i:Nat):=fx (nth B i)
def vs(s:String)(t:Nat):Value:=.str (Str.ofString s) t
def en(P:Params)(s:String)(t:Nat)(v:Value):DictEntry:=⟨PyData.keyHash P (Str.ofString s),.str (Str.ofString s) t,v⟩
def tu (l:List Value):Obj:=⟨.type "tuple",none,.seq (Array.mk l) 0,#[]⟩
def t0:Obj:=tu []
def fi(l:List Value):Obj:=⟨.none,none,.fields (Array.mk l),#[]⟩
def f0:Obj:=fi []
def vk:Nat→List String→List Value
  |_,[]=>[]
  |t,s::r=>vs s t::vk (t+1) r
def vt(t:Nat)(l:List String):Obj:=tu (vk t l)
abbrev Fd:=Arguments×List Stmt×Scope×Str×Nat
def rO(x:Fd):Obj:=⟨.none,none,.func ⟨x.2.2.2.1,x.2.2.2.1,x.1,.stmts x.2.1,x.2.2.1,0,[],.none,.none,.none,.none,none,.none,.none,0⟩,#[]⟩
def fO (x:Fd) (m:Value) (c:Nat):Obj:=⟨.type "function",none,.func ⟨x.2.2.2.1,x.2.2.2.1,x.1,.stmts x.2.1,x.2.2.1,3,[],.none,.none,.none,m,none,.ref c,.none,0⟩,#[]⟩
def fl:String:= "/claim/cut.py"
def cO (n:String) (t l a d x m:Nat) (b:Bool) (z k:Nat):Obj:=⟨.type "code",none,.fields #[vs n t,vs n (t+1),vs fl (t+2),.int l 0,.int a 0,.int 0 0,.int 0 0,.int d 0,.ref x,.bool true,.int m 0,.ref (x+1),.none,if b then .ref (x+2)else .none,if b then .ref (x+3)else .none,.ref z,.int k 0,.int l 0,vs fl (k+1)],#[]⟩
def r(i:Nat):Obj:=rO (fd i)
def f(i:Nat)(m:Value)(c:Nat):Obj:=fO (fd i) m c
def ci(n:Nat):Value:=.int n 0
def c (i t x v:Nat):Obj:=let y:=(fd i).2.2.2;⟨.type "code",none,.fields #[.str y.1 t,.str y.1 (t+1),vs fl (t+2),ci y.2,ci (fd i).1.args.length,ci 0,ci 0,ci 3,.ref x,.bool true,ci 181,.ref (x+1),.none,if v == 0 then .none else .ref (x+2),if v == 0 then .none else .ref (x+3),.ref (if v == 0 then x+2 else x+4),ci (t+3+v),ci y.2,vs fl (t+4+v)],#[]⟩
def e(P:Params)(i t a:Nat):DictEntry:=let y:=(fd i).2.2.2.1;⟨PyData.keyHash P y,.str y t,.ref a⟩
def bt(P:Params):List DictEntry:=match (boot_o_3 P).data with
  |.dict e _=>e.toList.tail
  |_=>[]
def m0:Value:=vs "everywidth.bits" 187
def m1:Value:=vs "everywidth.machines.runs" 243
def m2:Value:=vs "everywidth.machines.firsts" 264
def m3:Value:=vs "everywidth.machines.found" 325
def m4:Value:=vs "everywidth.vocabulary" 342
def m5:Value:=vs "everywidth.rows" 459
def m6:Value:=vs "everywidth.machines.columns" 467
def m7:Value:=vs "everywidth.machines.made" 544
def m8:Value:=vs "everywidth.sums.texts" 572
def m9:Value:=vs "everywidth.machines.alike" 580
def m10:Value:=vs "law_everywidth_k22_compared" 630
def mc (n:String)(t l x k:Nat):Obj:=⟨.type "code",none,.fields #[vs n t,vs n (t+1),vs fl (t+2),ci l,ci 0,ci 0,ci 0,ci 0,.ref x,.bool false,ci 181,.ref (x+1),.none,.none,.none,.none,ci k,ci l,vs fl (k+1)],#[]⟩
def fr (c d:Nat)(v:Value):Obj:=⟨.type "frame",none,.plain,#[some (.ref c),some (.ref 3),some (.ref d),none,some v,none,some (.ref 0)]⟩
def bf (a b:Value):Obj:=⟨.type "builtin_function_or_method",none,.fields #[a,b],#[]⟩
def dc (l:List DictEntry)(n:Nat):Obj:=⟨.type "dict",none,.dict ⟨l⟩ n,#[]⟩
def es (P:Params):List DictEntry:=[e P 1 197 21,e P 2 206 28,en P "WidthError" 226 (.ref 38),en P "NoWords" 242 (.ref 51),e P 7 257 60,e P 8 263 65,e P 10 271 70,e P 11 287 77,e P 12 301 84,e P 13 307 89,e P 14 313 94,e P 15 324 101,e P 17 332 106,e P 18 341 113,en P "SUM_PARTS" 374 (.ref 114),en P "SUMS_IN_CLAIM" 390 (.ref 115),en P "CLAIMS_IN_CLAIM" 406 (.ref 116),en P "LETTERS" 408 (vs "abcdefghijklmnopqrstuvwxyz" 407),en P "LONGEST_NAME" 410 (.int 8 409),e P 25 417 123,e P 26 424 130,e P 27 431 137,e P 28 438 144,e P 29 445 151,e P 30 451 156,e P 31 458 163,e P 33 466 168,en P "REMEMBERING" 478 (.ref 169),e P 36 485 176,e P 37 491 181,e P 38 506 188,e P 39 516 195,e P 40 525 202,e P 41 535 209,e P 42 543 216,e P 44 553 223,e P 45 559 228,e P 46 565 233,e P 47 571 238,e P 49 579 243,e P 51 590 250,e P 52 603 257,e P 53 612 264,e P 54 618 269,e P 55 629 276,e P 57 638 283,e P 58 646 290,e P 59 660 297,e P 60 666 302,e P 61 674 309,e P 62 684 316,e P 63 690 321,e P 64 706 328,e P 65 714 335,e P 66 723 342,e P 67 737 349,e P 68 751 356,e P 69 759 363,e P 70 768 370,e P 71 774 375,e P 72 787 382,e P 73 797 389,e P 74 808 396,e P 75 818 403,e P 76 837 410]
def vl:List (Nat×Nat):=[(2,20),(7,27),(13,34),(15,47),(18,59),(27,64),(33,69),(43,76),(57,83),(67,88),(69,93),(75,100),(80,105),(90,112),(101,122),(103,129),(105,136),(107,143),(109,150),(111,155),(113,162),(118,167),(122,175),(124,180),(129,187),(145,194),(156,201),(158,208),(172,215),(189,222),(191,227),(203,232),(205,237),(208,242),(211,249),(214,256),(221,263),(223,268),(225,275),(234,282),(236,289),(240,296),(256,301),(267,308),(273,315),(282,320),(284,327),(305,334),(313,341),(323,348),(341,355),(358,362),(365,369),(380,374),(382,381),(392,388),(397,395),(400,402),(408,409)]
def d(i x t:Nat)(l:List String)(m:Value):List Obj:=match l with
  |[]=>[t0,f0,r i,c i t x 0,f i m (x+3)]
  |l=>[t0,f0,vt (t+3) l,t0,r i,c i t x l.length,f i m (x+5)]
def nz:Nat→List Obj→PySem.W.Frag
  |_,[]=>[]
  |n,x::l=>(n,x)::nz (n+1) l
def ir(n:Nat):List (Nat×Nat)→Bool
  |[]=>false
  |x::l=>(Nat.ble x.1 n&&Nat.blt n x.2)||ir n l
def rs:List (Nat×Nat):=[(0,30),(36,40),(42,43),(49,52),(54,411)]
def md (P:Params) (m:String) (t e k:Nat):Obj:=⟨.type "dict",none,.dict (Array.mk (en P "__name__" 165 (vs m t)::bt P++(es P).take e)) k,#[]⟩
def tl:List (Nat×Nat)→List Value
  |[]=>[]
  |x::r=>.int x.1 0::.int 0 0::.ref x.2::tl r
def tb(c:Nat):Obj:=fi (tl (vl.take c))
def ob (P:Params):List Obj:=[boot_o_0 P,boot_o_1 P,boot_o_2 P,md P "law_everywidth_k22_compared" 630 65 74,boot_o_4 P,boot_o_5 P,boot_o_6 P,boot_o_7 P,boot_o_8 P,boot_o_9 P,boot_o_10 P,t0,tb 59,mc "<module>" 182 1 11 185,fr 13 3 (vs "__main__" 164)]++(d 1 15 189 ["width","many","bit_number"] m0++(d 2 22 198 ["bits","number","bit"] m0++([tu [(.type "ValueError")],bf (.builtin "type.__prepare__") (.type "type"),dc [en P "__module__" 216 (vs "everywidth.errors" 207),en P "__qualname__" 218 (vs "WidthError" 217),en P "__firstlineno__" 220 (.int 13 219),en P "__static_attributes__" 221 (.ref 36)] 4,t0,f0,mc "WidthError" 211 13 32 214,fr 34 31 (vs "everywidth.errors" 207),t0,dc [en P "__module__" 216 (vs "everywidth.errors" 207),en P "__firstlineno__" 220 (.int 13 219),en P "__static_attributes__" 221 (.ref 36),en P "__weakref__" 223 (.ref 39),en P "__doc__" 224 .none] 3,⟨(.type "type"),none,.cls ⟨Str.ofString "WidthError",[(.type "ValueError")],[(.ref 38),(.type "ValueError"),(.type "Exception"),(.type "BaseException"),(.type "object")],37,Str.ofString "WidthError",true,[],[(.ref 51)],false,none,false⟩,#[some (.ref 29),none,some (vs "WidthError" 209),some (vs "WidthError" 217),some (.builtin "ValueError.__new__"),some (.bool true)]⟩,⟨(.type "getset_descriptor"),none,.fields #[(vs "__weakref__" 222),(.ref 38),(.builtin "ExceptionGroup.__weakref__"),.none],#[]⟩,⟨(.type "super"),none,.fields #[(.ref 38),(.ref 38),(.ref 38)],#[]⟩,bf (.builtin "object.__init_subclass__") (.ref 38),tu [(.ref 38)],bf (.builtin "type.__prepare__") (.type "type"),dc [en P "__module__" 234 (vs "everywidth.errors" 207),en P "__qualname__" 236 (vs "NoWords" 235),en P "__firstlineno__" 238 (.int 15 237),en P "__static_attributes__" 239 (.ref 49)] 4,t0,f0,mc "NoWords" 229 15 45 232,fr 47 44 (vs "everywidth.errors" 207),t0,dc [en P "__module__" 234 (vs "everywidth.errors" 207),en P "__firstlineno__" 238 (.int 15 237),en P "__static_attributes__" 239 (.ref 49),en P "__doc__" 240 .none] 2,⟨(.type "type"),none,.cls ⟨Str.ofString "NoWords",[(.ref 38)],[(.ref 51),(.ref 38),(.type "ValueError"),(.type "Exception"),(.type "BaseException"),(.type "object")],50,Str.ofString "NoWords",true,[],[],false,none,false⟩,#[some (.ref 42),none,some (vs "NoWords" 227),some (vs "NoWords" 235),some (.builtin "ValueError.__new__"),some (.bool true)]⟩,⟨(.type "super"),none,.fields #[(.ref 51),(.ref 51),(.ref 51)],#[]⟩,bf (.builtin "object.__init_subclass__") (.ref 51)]++(d 7 54 245 ["machine","letters","state","steps","out","row","letter"] m1++(d 8 61 258 [] m1++(d 10 66 266 [] m2++(d 11 71 272 ["machine","letters","number","wanted","layers","left","well","place","chosen","going"] m2++(d 12 78 288 ["machine","letters","steps","layers","some","layer","state","letter"] m2++(d 13 85 302 [] m2++(d 14 90 308 [] m2++(d 15 95 314 ["machine","state","letter","well","wanted"] m2++(d 17 102 327 [] m3++(d 18 107 333 ["state","states","numbers"] m3++([dc [en P "not" 344 (.int 1 345),en P "neg" 346 (.int 1 347),en P "twice" 348 (.int 1 349),en P "low" 350 (.int 1 351),en P "and" 352 (.int 2 353),en P "or" 354 (.int 2 355),en P "odd" 356 (.int 2 357),en P "add" 358 (.int 2 359),en P "sub" 360 (.int 2 361),en P "pick" 362 (.int 3 363)] 10,dc [en P "same" 375 (.int 2 376),en P "under" 377 (.int 2 378),en P "beneath" 379 (.int 2 380),en P "sign" 381 (.int 1 382),en P "nought" 383 (.int 1 384)] 5,dc [en P "both" 391 (.int 2 392),en P "either" 393 (.int 2 394),en P "so" 395 (.int 2 396),en P "never" 397 (.int 1 398),en P "yes" 399 (.int 0 400)] 5]++(d 25 117 411 ["text"] m4++(d 26 124 418 ["text"] m4++(d 27 131 425 ["word"] m4++(d 28 138 432 ["word"] m4++(d 29 145 439 ["word"] m4++(d 30 152 446 [] m4++(d 31 157 452 ["text"] m4++(d 33 164 461 [] m5++([vt 469 ["neg","twice","low","add","sub","same","under","beneath","nought"]]++(d 36 170 479 ["word"] m6++(d 37 177 486 [] m6++(d 38 182 492 ["words","columns","place","kept","stack","later","word","parts","held"] m6++(d 39 189 507 ["word","parts","held","one"] m6++(d 40 196 517 ["one","other","held"] m6++(d 41 203 526 ["word","parts","held","then"] m6++(d 42 210 536 ["word","parts"] m6++(d 44 217 546 ["words","names"] m7++(d 45 224 554 [] m7++(d 46 229 560 [] m7++(d 47 234 566 [] m7++(d 49 239 574 [] m8++(d 51 244 582 ["one","other","names"] m9++([t0,f0,vt 594 ["one","other","begins","found","width"],vt 599 ["one","other"],r 52,cO "machines_compared" 591 214 2 3 251 181 true 255 601,f 52 m9 256]++(d 53 258 604 ["one","other","pair"] m9++(d 54 265 613 [] m9++(d 55 270 619 ["machine","widths","state","row","led_to"] m9++(d 57 277 632 ["found"] m10++(d 58 284 639 ["script","k"] m10++(d 59 291 647 ["cell","many","most","found","rest","k","one","two"] m10++(d 60 298 661 [] m10++(d 61 303 667 ["number","names"] m10++(d 62 310 675 ["number","left","words","word"] m10++(d 63 317 685 [] m10++(d 64 322 691 ["numbers","names","most","some","left","number","word","wants","built","part"] m10++(d 65 329 707 ["word","one"] m10++(d 66 336 715 ["word","one","other"] m10++(d 67 343 724 ["words","width","values","size","told","word","one","other"] m10++(d 68 350 738 ["one","other","paper","there","pair","left","right","behind"] m10++(d 69 357 752 ["found","pair"] m10++(d 70 364 760 ["found","names","name"] m10++(d 71 371 769 [] m10++(d 72 376 775 ["words","names","cell","at","word","new","some"] m10++(d 73 383 788 ["values","width","shorter","name"] m10++(d 74 390 798 ["one","other","width","values","shorter"] m10++(d 75 397 809 ["found","one","other","names"] m10++(d 76 404 819 ["script","all_names","many","one","other","names","kept","found","k","width","values","i","back"] m10))))))))))))))))))))))))))))))))))))))))))))))))))))))))))))
def K(P:Params):PySem.W.Frag:=(nz 0 (ob P)).filter fun p=>ir p.1 rs
def od:Bool→List Obj→List Obj
  |_,[]=>[]
  |true,x::r=>x::od false r
  |false,_::r=>od true r
def tL:Nat→List Obj→BT
  |0,_=>.nil
  |_,[]=>.nil
  |k+1,x::r=>.node x (tL k (od true r)) (tL k (od false r))
def tn(P:Params)(n:Nat):BT:=tL 12 ((ob P).take n)
abbrev SS(T:BT)(n k:Nat)(o:OsState):SharedT:=⟨T,n,{},Array.mk [],{},k,o⟩
def ev:Env:={scope:=p.main.scope,locals:=mainNs,globals:=mainNs,cells:=[],code:=(.ref 13),frame:=some 14}
def c0:Code:=.body B ev
abbrev an:Option Value:=some (.ref 6)
abbrev z0:Pos:=⟨0,0,0,0⟩
abbrev q0:List Frame:=[topFrame z0]
def sg(a b:Nat):List Stmt:=(B.drop a).take b
def pc(a b:Nat)(x:Pos):Thread:=piecesOf (sg a b) ev c0 x q0
def R(w:World)(o:OsState)(n:Nat)(S:Params→BT)(a k:Nat)(t:Thread)(S':Params→BT)(a' k':Nat)(y:Pos):Prop:=segRunT treeTable p w 11 an 1 n (SS (S w.params) a k o) t=some (.next,SS (S' w.params) a' k' o,c0,y)
variable (w:World)(o:OsState)
def S0(P:Params):BT:=((tn P 15).set 3 fun _=>boot_o_3 P).set 12 fun _=>tb 0
def S1 (P:Params):BT:=(((tn P 42).set 3 fun _=>md P "everywidth.errors" 207 3 12).set 12 fun _=>tb 3).set 38 fun _=>⟨(.type "type"),none,.cls ⟨Str.ofString "WidthError",[(.type "ValueError")],[(.ref 38),(.type "ValueError"),(.type "Exception"),(.type "BaseException"),(.type "object")],37,Str.ofString "WidthError",true,[],[],false,none,false⟩,#[some (.ref 29),none,some (vs "WidthError" 209),some (vs "WidthError" 217),some (.builtin "ValueError.__new__"),some (.bool true)]⟩
def S2 (P:Params):BT:=((tn P 85).set 3 fun _=>md P "everywidth.machines.firsts" 264 9 18).set 12 fun _=>tb 9
def S3 (P:Params):BT:=((tn P 115).set 3 fun _=>md P "everywidth.vocabulary" 342 15 24).set 12 fun _=>tb 14
def S4 (P:Params):BT:=((tn P 164).set 3 fun _=>md P "everywidth.rows" 459 26 35).set 12 fun _=>tb 21
def S5 (P:Params):BT:=((tn P 239).set 3 fun _=>md P "everywidth.sums.texts" 572 39 48).set 12 fun _=>tb 33
def S6 (P:Params):BT:=((tn P 317).set 3 fun _=>md P "law_everywidth_k22_compared" 630 51 60).set 12 fun _=>tb 45
def S7 (P:Params):BT:=((tn P 397).set 3 fun _=>md P "law_everywidth_k22_compared" 630 63 72).set 12 fun _=>tb 57
def S8(P:Params):BT:=tn P 411
def H1(P:Params):Heap:=⟨Array.mk (ob P),{}⟩
theorem pre:topGo treeTable p w 11 an 12 ⟨boot_heap w.params,Array.mk [],boot_drawn,boot_toks,o⟩ (topStub p)=some ((SS (S0 w.params) 15 187 o).abs,⟨denote treeTable c0,c0,z0,q0⟩):=by
  rw[Fast.te15667345088766844465,Fast.te14364793385576792824,Fast.te11892475500146522536];kernel_rfl
theorem blk:segRunT treeTable p w 11 an 1 1 (SS (S0 w.params) 15 187 o) (blockOf B ev c0 z0 q0)=some (.next,SS (S0 w.params) 15 187 o,c0,z0):=by
  rw[Fast.te10110043849684766642,Fast.te14364793385576792824];kernel_rfl
theorem g1:R w o 267 S0 15 187 (pc 0 5 z0) S1 42 227 ⟨13,0,14,8⟩:=by
  unfold R;rw[Fast.te10110043849684766642,Fast.te14364793385576792824];kernel_rfl
theorem g2:R w o 393 S1 42 227 (pc 5 8 ⟨13,0,14,8⟩) S2 85 302 ⟨57,0,66,17⟩:=by
  unfold R;rw[Fast.te10110043849684766642,Fast.te14364793385576792824];kernel_rfl
theorem g3f:R (w.withFollow "special-get-raises" false) o 321 S2 85 302 (pc 13 8 ⟨57,0,66,17⟩) S3 115 375 ⟨96,0,96,9⟩:=by
  unfold R;rw[Fast.te10110043849684766642,Fast.te14364793385576792824];kernel_rfl
theorem g3t:R (w.withFollow "special-get-raises" true) o 321 S2 85 302 (pc 13 8 ⟨57,0,66,17⟩) S3 115 375 ⟨96,0,96,9⟩:=by
  unfold R;rw[Fast.te10110043849684766642,Fast.te14364793385576792824];kernel_rfl
theorem g3 (w:World):∀o:OsState,R w o 321 S2 85 302 (pc 13 8 ⟨57,0,66,17⟩) S3 115 375 ⟨96,0,96,9⟩:=byRow2 "special-get-raises" (P:=fun w=>∀o:OsState,R w o 321 S2 85 302 (pc 13 8 ⟨57,0,66,17⟩) S3 115 375 ⟨96,0,96,9⟩) g3f g3t w
theorem g4f:R (w.withFollow "special-get-raises" false) o 398 S3 115 375 (pc 21 12 ⟨96,0,96,9⟩) S4 164 461 ⟨117,0,117,8⟩:=by
  unfold R;rw[Fast.te10110043849684766642,Fast.te14364793385576792824];kernel_rfl
theorem g4t:R (w.withFollow "special-get-raises" true) o 398 S3 115 375 (pc 21 12 ⟨96,0,96,9⟩) S4 164 461 ⟨117,0,117,8⟩:=by
  unfold R;rw[Fast.te10110043849684766642,Fast.te14364793385576792824];kernel_rfl
theorem g4 (w:World):∀o:OsState,R w o 398 S3 115 375 (pc 21 12 ⟨96,0,96,9⟩) S4 164 461 ⟨117,0,117,8⟩:=byRow2 "special-get-raises" (P:=fun w=>∀o:OsState,R w o 398 S3 115 375 (pc 21 12 ⟨96,0,96,9⟩) S4 164 461 ⟨117,0,117,8⟩) g4f g4t w
theorem g5:R w o 398 S4 164 461 (pc 33 16 ⟨117,0,117,8⟩) S5 239 574 ⟨207,0,207,8⟩:=by
  unfold R;rw[Fast.te10110043849684766642,Fast.te14364793385576792824];kernel_rfl
theorem g6:R w o 384 S5 239 574 (pc 49 14 ⟨207,0,207,8⟩) S6 317 685 ⟨273,0,281,15⟩:=by
  unfold R;rw[Fast.te10110043849684766642,Fast.te14364793385576792824];kernel_rfl
theorem g7:R w o 385 S6 317 685 (pc 63 12 ⟨273,0,281,15⟩) S7 397 809 ⟨397,0,399,79⟩:=by
  unfold R;rw[Fast.te10110043849684766642,Fast.te14364793385576792824];kernel_rfl
theorem g8:R w o 74 S7 397 809 (pc 75 2 ⟨397,0,399,79⟩) S8 411 838 ⟨408,0,431,82⟩:=by
  unfold R;rw[Fast.te10110043849684766642,Fast.te14364793385576792824];kernel_rfl
theorem fn:topRun treeTable p w 11 an 2 (SS (S8 w.params) 411 838 o).abs ⟨doneF .next,c0,⟨408,0,431,82⟩,q0⟩=some ⟨H1 w.params,Array.mk [],{},838,o⟩:=by
  rw[Fast.te14082659384304107361,Fast.te14364793385576792824];kernel_rfl
theorem sp:B=sg 0 5++(sg 5 8++(sg 13 8++(sg 21 12++(sg 33 16++(sg 49 14++(sg 63 12++(sg 75 2++[]))))))):=by kernel_rfl
theorem bl{w:World}{N:Nat}{s s' r:Shared}{b:List Stmt}{x y:Pos}{n:Nat}(e:B=b)(h:segRun treeTable p w 11 an 1 n s (blockOf B ev c0 x q0)=some (.next,s',c0,y))(k:topRun treeTable p w 11 an N s' (restOf b ev c0 y q0)=some r):topRun treeTable p w 11 an (n+N) s ⟨denote treeTable c0,c0,x,q0⟩=some r:=
  piece_block h (by rw[e];exact k)
theorem rn:topRun treeTable p w 11 an (12+(1+(267+(393+(321+(398+(398+(384+(385+(74+(2))))))))))) ⟨boot_heap w.params,Array.mk [],boot_drawn,boot_toks,o⟩ (topStub p)=some ⟨H1 w.params,Array.mk [],{},838,o⟩:=
  go_top (pre w o) (bl sp (segRun_of (blk w o)) (piece_app (segRun_of (g1 w o)) (piece_app (segRun_of (g2 w o)) (piece_app (segRun_of (g3 w o)) (piece_app (segRun_of (g4 w o)) (piece_app (segRun_of (g5 w o)) (piece_app (segRun_of (g6 w o)) (piece_app (segRun_of (g7 w o)) (piece_app (segRun_of (g8 w o)) (fn w o))))))))))
def rg(l:List Stmt):List (Nat×Nat)→List Stmt
  |[]=>[]
  |x::r=>(l.drop x.1).take x.2++rg l r
def vw:Program:={p with main:={p.main with body:=rg p.main.body [(1,2),(4,2),(7,2),(10,6),(17,2),(20,12),(33,1),(35,8),(44,4),(49,1),(51,5),(57,20)]}}
def lo:List Str:=[Str.ofString "SUM_PARTS",Str.ofString "SUMS_IN_CLAIM",Str.ofString "CLAIMS_IN_CLAIM"]
def xt(s:Shared):Bool:=xlAt vw [] s&&recOk PySem.Challenge.rw_everywidth_k22_compared.row.toRowW.records s
def as:List Addr:=rs.flatMap fun x=>List.range' x.1 (x.2-x.1)
theorem sz:((boot_heap w.params).isNs mainGlobals&&(Array.mk []:Array GenState).size == 0,(boot_heap w.params).objs.size,(boot_heap w.params).nsMap mainGlobals "__annotations__")=(true,11,an):=by
  rw[Fast.te8920871248978507458];kernel_rfl
abbrev sh(w:World)(o:OsState):Shared:=⟨H1 w.params,Array.mk [],{},838,o⟩
theorem l1:(staticsOk (importedModules p.main.body) (boot_heap w.params) (H1 w.params)&&namesBound p (H1 w.params)&&gensDone (sh w o)&&laidKept (boot_heap w.params) (H1 w.params))=true:=by
  rw[Fast.te5923862056798008813];kernel_rfl
theorem l2:openSeen vw lo (importedModules p.main.body) xt true (sh w o)=openGood vw lo:=by
  rw[Fast.te4187177175401517315,Fast.te5923862056798008813];kernel_rfl
theorem l3:X.obsZ as (sh w o)=X.valZ K 411 838 w:=by kernel_rfl
theorem left:LeftO p vw lo xt (X.obsZ as) (X.valZ K 411 838) 5350:=
  LeftO.of_pieces (boot_open (by kernel_rfl) (by kernel_rfl) (fun _=>by kernel_rfl)) sz rn (by kernel_rfl) fun w=>funext fun o=>looks_pair (l1 w o) (looks_pair (l2 w o) (l3 w o))
end Hw
end
set_option Elab.async false
set_option linter.all false
set_option maxRecDepth 100000
noncomputable section
def Qaa:=@PySem.wpAny_bind
def Qab:=@PySem.Heap.get?_push_of_some
def Qac:=@List.getElem?_eq_getElem
def Qad:=@List.length_map
def Qae:=@PySem.wpAny_pure
def Qaf:=@List.length_append
def Qag:=@List.mem_of_getElem?
def Qah:=@Nat.le_refl
def Qai:=@List.getElem?_eq_some_iff
def Qaj:=@decide_eq_false
def Qak:=@List.mem_cons_of_mem
def Qal:=@decide_eq_true
def Qam:=@List.getElem?_map
def Qan:=@List.mem_cons_self
def Qao:=@PySem.Heap.get?_push_size
def Qap:=@List.getD_eq_getElem?_getD
def Qaq:=@List.mem_cons
def Qar:=@PySem.Heap.lt_size
def Qas:=@List.length_take
def Qat:=@List.mem_singleton
def Qau:=@Nat.le_of_lt
def Qav:=@Int.toNat_natCast
def Qaw:=@PySem.F.plainAttrs_list
def Qax:=@List.size_toArray
def Qay:=@List.mem_map
def Qaz:=@List.mem_append_right
def Qa0:=@PySem.F.slot_list_append
def Qa1:=@PySem.F.type_list_append
def Qa2:=@List.getElem?_append_right
def Qa3:=@Int.emod_lt_of_pos
def Qa4:=@if_neg
def Qa5:=@List.length_range
def Qa6:=@Bool.false_ne_true
def Qa7:=@PySem.PassesOwn.never
def Qa8:=@Nat.le_trans
def Qa9:=@PySem.wpAny_newObj_type
def Qba:=@if_pos
def Qbb:=@List.mem_append
def Qbc:=@List.getElem?_append_left
def Qbd:=@List.map_append
def Qbe:=@Int.emod_nonneg
def Qbf:=@List.take_length
def Qbg:=@PyProof.Rows.slot_tuple_getitem
def Qbh:=@of_decide_eq_true
def Qbi:=@Nat.ne_of_lt
def Qbj:=@List.length_replicate
def Qbk:=@PySem.Heap.get?_update_self
def Qbl:=@Nat.lt_of_lt_of_le
def Qbm:=@List.append_nil
def Qbn:=@PySem.wpAny_call_entry
def Qbo:=@List.not_mem_nil
def Qbp:=@Nat.zero_le
def Qbq:=@Option.map_eq_some_iff
def Qbr:=@Array.length_toList
def Qbs:=@PySem.Obj.data_mapFields
def Qbt:=@List.length_drop
def Qbu:=@List.length_cons
def Qbv:=@PySem.wpAny_field
def Qbw:=@PySem.Heap.get?_update_other
def Qbx:=@List.map_cons
def Qby:=@List.drop_eq_getElem_cons
def Qbz:=@List.take_append_drop
def Qb0:=@decide_eq_true_iff
def Qb1:=@PySem.Heap.size_push
def Qb2:=@List.mem_filter
def Qb3:=@List.mem_append_left
def Qb4:=@Nat.lt_irrefl
def Qb5:=@Bool.and_eq_true
def Qb6:=@PySem.wpAny_setField_rec
def Qb7:=@List.map_map
def Qb8:=@List.all_eq_true
def Qb9:=@List.eq_nil_of_length_eq_zero
def Qca:=@Int.natCast_nonneg
def Qcb:=@PySem.mem_of_lookup
def Qcc:=@PySem.Heap.SameBut.update
def Qcd:=@PySem.wpAny_seqItems
def Qce:=@List.take_of_length_le
def Qcf:=@Int.ediv_one
def Qcg:=@List.getElem?_of_mem
def Qch:=@List.mem_of_mem_take
def Qci:=@PyProof.Rows.callWith_type1
def Qcj:=@List.length_zip
def Qck:=@Bool.false_eq_true
def Qcl:=@PySem.wpAny_holding
def Qcm:=@List.mem_map_of_mem
def Qcn:=@List.map_congr_left
def Qco:=@PySem.codeAny_builtin
def Qcp:=@List.mem_range
def Qcq:=@List.getElem?_zip_eq_some
def Qcr:=@Int.emod_eq_of_lt
def Qcs:=@PySem.Calls.spliced_cons
def Qct:=@PySem.Obj.isFreed_of_fields
def Qcu:=@List.flatten_append
def Qcv:=@List.getElem_mem
def Qcw:=@List.filter_cons
def Qcx:=@List.reverse_cons
def Qcy:=@List.append_assoc
def Qcz:=@Nat.mod_two_eq_zero_or_one
def Qc0:=@PySem.wpAny_Call_Name_kw
def Qc1:=@Int.ediv_eq_zero_of_lt
def Qc2:=@Bool.eq_iff_iff
def Qc3:=@PySem.W.kia_one
def Qc4:=@List.nodup_cons
def Qc5:=@List.lookup_cons
def Qc6:=@List.length_reverse
def Qc7:=@PySem.wpAny_truthy_bool
def Qc8:=@List.foldl_append
def Qc9:=@List.length_filter_le
def Qda:=@PySem.wpAny_setField
def Qdb:=@List.nodup_nil
def Qdc:=@PySem.wpAny_of_eq
def Qdd:=@List.filter_append
def Qde:=@PySem.wpAny_mono
def Qdf:=@Nat.pow_le_pow_right
def Qdg:=@List.mem_of_mem_drop
def Qdh:=@PySem.wpAny_isInstance
def Qdi:=@beq_self_eq_true
def Qdj:=@Int.add_mul_emod_self_left
def Qdk:=@PySem.wpAny_rule
def Qdl:=@List.getElem?_range
def Qdm:=@List.all_cons
def Qdn:=@PySem.wpAny_attempt
def Qdo:=@PySem.plainId_quiet
def Qdp:=@List.drop_zero
def Qdq:=@PySem.wpAny_specialOf
def Qdr:=@PySem.wpAny_updateSeq
def Qds:=@Int.emod_add_mul_ediv
def Qdt:=@PySem.F.slot_list_pop
def Qdu:=@PySem.F.type_list_pop
def Qdv:=@Nat.lt_succ_self
def Qdw:=@Int.ediv_ediv_of_nonneg
def Qdx:=@Int.pow_zero
def Qdy:=@PySem.Calls.spliced_nil
def Qdz:=@bne_self_eq_false
def Qd0:=@Nat.le_succ
def Qd1:=@List.range_succ
def Qd2:=@List.find?_cons
def Qd3:=@List.length_pos_of_mem
def Qd4:=@PySem.F.slot_tuple_iterator_next
def Qd5:=@List.any_eq_true
def Qd6:=@Int.ne_of_gt
def Qd7:=@Nat.lt_or_ge
def Qd8:=@Ne.symm
def Qd9:=@Array.getElem?_eq_getElem
def Qea:=@PySem.Around.under_plainId
def Qeb:=@List.dropLast_concat
def Qec:=@PySem.wpAny_passesOwn
def Qed:=@List.length_nil
def Qee:=@PySem.wpAny_setState_of
def Qef:=@Nat.min_eq_left
def Qeg:=@Nat.not_lt_zero
def Qeh:=@List.ext_getElem?
def Qei:=@List.eq_of_mem_replicate
def Qej:=@Nat.ne_of_gt
def Qek:=@List.filterMap_cons
def Qel:=@PySem.wpAny_getItem_str_slice
def Qem:=@or_false
def Qen:=@PySem.wpAny_setEntries_of
def Qeo:=@PySem.F.plain_extend_loop
def Qep:=@Int.toNat_of_nonneg
def Qeq:=@PySem.F.plain_max_loop
def Qer:=@PySem.codeAny_mono
def Qes:=@PySem.wpAny_typeOf
def Qet:=@PySem.SeqAt.EqAt.same
def Qeu:=@Option.map_some
def Qev:=@PySem.wpAny_letGo
def Qew:=@PySem.F.slot_enumerate_next
def Qex:=@Array.getElem?_toList
def Qey:=@PySem.F.called_set
def Qez:=@List.idxOf_lt_length_of_mem
def Qe0:=@List.foldl_cons
def Qe1:=@Int.zero_add
def Qe2:=@List.mem_iff_getElem?
def Qe3:=@PySem.wpAny_pyIter_list
def Qe4:=@Nat.lt_succ_of_lt
def Qe5:=@PySem.Obj.cls_mapFields
def Qe6:=@List.nodup_append
def Qe7:=@List.map_take
def Qe8:=@List.flatten_cons
def Qe9:=@Decidable.not_not
def Qfa:=@List.drop_length
def Qfb:=@Int.pow_pos
def Qfc:=@PySem.F.args_tuple_add_2
def Qfd:=@Int.pow_succ
def Qfe:=@Int.mul_comm
def Qff:=@Nat.sub_self
def Qfg:=@List.of_mem_zip
def Qfh:=@PySem.F.entry_tuple_add
def Qfi:=@Nat.lt_of_le_of_lt
def Qfj:=@PySem.tupleKind_room_in1
def Qfk:=@of_decide_eq_false
def Qfl:=@PySem.F.slot_zip_next
def Qfm:=@List.map_drop
def Qfn:=@PySem.F.slot_tuple_add
def Qfo:=@PySem.Calls.callWith_builtin
def Qfp:=@PySem.F.entry_max_loop
def Qfq:=@PySem.wpAny_pyIter_slot
def Qfr:=@decide_eq_true_eq
def Qfs:=@PySem.isSubtype_stop
def Qft:=@PySem.wpAny_tryCatch
def Qfu:=@PySem.Txt.slice_le
def Qfv:=@Int.add_mul_ediv_left
def Qfw:=@List.cons_append
def Qfx:=@Nat.le_add_right
def Qfy:=@List.flatten_nil
def Qfz:=@PySem.Around.frames_deeper
def Qf0:=@PySem.F.args_object_init_2
def Qf1:=@PySem.Heap.get?_push_cases
def Qf2:=@PySem.wpAny_updateSeq_pair
def Qf3:=@Bool.and_eq_true_iff
def Qf4:=@List.replicate_succ'
def Qf5:=@Nat.mul_le_mul_right
def Qf6:=@PySem.Paired.length
def Qf7:=@List.any_cons
def Qf8:=@PySem.F.args_tuple_iterator_next_1
def Qf9:=@List.dropLast_concat_getLast
def Qga:=@PySem.Value.isStrOf_shape
def Qgb:=@PySem.wpAny_execs_nil
def Qgc:=@PyProof.Rows.entry_tuple_getitem
def Qgd:=@PySem.post_val_or_str
def Qge:=@List.getElem_of_mem
def Qgf:=@beq_eq_false_iff_ne
def Qgg:=@PySem.F.entry_tuple_iterator_next
def Qgh:=@List.idxOf_cons
def Qgi:=@List.filter_sublist
def Qgj:=@List.mem_filterMap
def Qgk:=@PySem.W.callWith_K
def Qgl:=@PyProof.Rows.args_tuple_getitem
def Qgm:=@Nat.le_of_eq
def Qgn:=@PySem.wpAny_forIn_array'
def Qgo:=@Nat.sub_zero
def Qgp:=@List.getElem?_take
def Qgq:=@PyProof.Rows.slicePart_none
def Qgr:=@PySem.wpAny_newTuple
def Qgs:=@PySem.wpAny_fieldsOf
def Qgt:=@PySem.wpAny_sequenceKey
def Qgu:=@Option.isSome_map
def Qgv:=@PySem.fits_of_scanBound
def Qgw:=@List.take_add_one
def Qgx:=@PySem.wpAny_setEpoch_of
def Qgy:=@PySem.F.plain_list_iadd
def Qgz:=@Nat.not_lt
def Qg0:=@PySem.wpAny_mkInt
def Qg1:=@PySem.wpAny_handled
def Qg2:=@PySem.sizeLine_eq
def Qg3:=@PySem.wpAny_onRaise
def Qg4:=@PySem.wpAny_pyHash_int
def Qg5:=@PySem.noFill_tuple_add
def Qg6:=@Nat.le_of_not_lt
def Qg7:=@List.getElem_zip
def Qg8:=@PySem.wpAny_askSetting
def Qg9:=@decide_eq_decide
def Qha:=@PySem.callType_new
def Qhb:=@List.all_map
def Qhc:=@Int.emod_one
def Qhd:=@PySem.wpAny_throw
def Qhe:=@Prod.ext
variable {i n M:Nat}
variable {a f L:PySem.Addr}
variable {x:PySem.Str}
variable {N:List PySem.Str}
variable {e o:PySem.Expr}
variable {p q:PySem.Pos}
variable {v:PySem.Value}
variable {K:PySem.W.Frag}
variable {S:List Nat}
variable {Q:PySem.Value->PySem.Shared->Prop}
variable {j:PySem.Heap}
variable {s:PySem.Shared}
variable {z:Int}
variable {l:Bool}
variable {m:Type}
variable {P:PySem.Program}
variable {w:PySem.World}
variable {r:List (PySem.Addr×PySem.Obj)}
variable {B:List PySem.Expr}
variable {D:Array PySem.Value}
variable {I:List Int}
variable {J:List PySem.Addr}
variable {R:List PySem.Value}
variable {Z:PySem.Obj}
section
open PySem
abbrev Aa:=Option Value->Shared->Prop
abbrev Ab:=Value->Shared->Prop
abbrev Ac:=List (Addr×Obj)
abbrev Ad:=List (List Nat)
abbrev Ae:=Str->Option Value
abbrev Af:=PySem.W.Frag
abbrev Ag:=List Value
abbrev Ah:=Array Value
abbrev Ai:=List Str
abbrev Aj:=List Nat
abbrev Ak:=List Int
abbrev Al:=List Expr
abbrev Am:=FuncData
abbrev An:=Program
abbrev Ao:=Around
abbrev Aq:=Shared
abbrev Ar:=World
abbrev As:=Value
abbrev Au:=Addr
abbrev Av:=Expr
abbrev Aw:=Stmt
abbrev A1{q:Type}(p:Program)(w:World):=@wpAny q (model p w)
end
open PySem PySem.Spec PyProof.Rows
namespace L2
def Zks:0<=sizeLine:=by decide
def Zcm:1<=sizeLine:=by decide
def uy:2<=sizeLine:=by decide
def Zo9:3<=sizeLine:=by decide
def Zpa:4<=sizeLine:=by decide
def zln12:12<=sizeLine:=by decide
def zln16:16<=sizeLine:=by decide
abbrev Key:=Sum Int Str
def xN:Key->Value->Bool
 |.inl k,v=>Value.isInt k v
 |.inr x,v=>Value.isStrOf x v
def keyH(w:Ar):Key->Int
 |.inl k=>hashInt k
 |.inr x=>hashStr w x
theorem Yr:∀{k:Key} {v:As},xN k v=true->(∃i t,k=Sum.inl i/\v=Value.int i t)\/(∃x t,k=Sum.inr x/\v=Value.str x t)
 |.inl i,v,h=>by
  obtain⟨t,e⟩:=Value.isInt_shape (k:=i) (v:=v) h;exact .inl ⟨i,t,rfl,e⟩
 |.inr x,v,h=>by
  obtain⟨t,e⟩:=Qga (x:=x) (v:=v) h;exact .inr ⟨x,t,rfl,e⟩
def Zcn(i:Int)(t:Tok):xN (.inl i) (.int i t)=true:=by simp[xN,Value.isInt]
def Zco(x:Str)(t:Tok):xN (.inr x) (.str x t)=true:=by simp[xN,Value.isStrOf]
def key_ll(a b:Int):decide ((Sum.inl a:Key)=Sum.inl b)=(a == b):=by grind
def key_rr(a b:Str):decide ((Sum.inr a:Key)=Sum.inr b)=decide (a=b):=by grind
def key_lr(a:Int)(b:Str):decide ((Sum.inl a:Key)=Sum.inr b)=false:=by grind
def key_rl(a:Str)(b:Int):decide ((Sum.inr a:Key)=Sum.inl b)=false:=by grind
def ZJ(prog:An)(w:Ar):PySem.KeyKind prog w Key where
 is:=xN
 hash:=keyH w
 inj:=fun v a b F C=>by
  rcases Yr F with⟨i,t,rfl,rfl⟩|⟨x,t,rfl,rfl⟩
  ·rcases Yr C with⟨j,u,rfl,e⟩|⟨y,u,rfl,e⟩
   ·injection e with e1 _;rw[e1]
   ·exact nomatch e
  ·rcases Yr C with⟨j,u,rfl,e⟩|⟨y,u,rfl,e⟩
   ·exact nomatch e
   ·injection e with e1 _;rw[e1]
 byValue:=fun k v h=>by
  rcases Yr h with⟨i,t,rfl,rfl⟩|⟨x,t,rfl,rfl⟩<;>rfl
 pyHash:=fun q h=>by
  rcases Yr q with⟨i,t,rfl,rfl⟩|⟨x,t,rfl,rfl⟩
  ·exact Qg4 h
  ·exact wpAny_pyHash_str h
 eqBool:=fun D q h=>by
  rcases Yr D with⟨i,t,rfl,rfl⟩|⟨x,t,rfl,rfl⟩
  ·rcases Yr q with⟨j,u,rfl,rfl⟩|⟨y,u,rfl,rfl⟩
   ·rw[key_ll]at h;exact wpAny_eqBool_int h
   ·rw[key_lr]at h;exact SeqAt.EqAt.int_str i t y u _ _ _ _ h
  ·rcases Yr q with⟨j,u,rfl,rfl⟩|⟨y,u,rfl,rfl⟩
   ·rw[key_rl]at h;exact SeqAt.EqAt.str_int x t j u _ _ _ _ h
   ·rw[key_rr]at h;exact wpAny_eqBool_str h
 «strs»:=fun k x t v h=>by
  rcases Yr h with⟨i,u,rfl,e⟩|⟨y,u,rfl,e⟩
  ·exact nomatch e
  ·injection e with e1 _;subst e1;cases v<;>rfl
def Za4(prog:An)(w:Ar)(k:Key)(v:As):(ZJ prog w).is k v=xN k v:=rfl
def wK(prog:An)(w:Ar)(i:Int)(t:Tok):(ZJ prog w).is (.inl i) (.int i t)=true:=Zcn i t
def JV(prog:An)(w:Ar)(x:Str)(t:Tok):(ZJ prog w).is (.inr x) (.str x t)=true:=Zco x t
inductive V where
 |non|bl (b:Bool)|int (i:Int)|str (x:Str)|byt (b:Array UInt8)|flt (b:UInt64)|ref (a:Au)|ty (n:String)
 deriving DecidableEq
def RelV:V->Value->Prop
 |.non,u=>u=Value.none
 |.bl b,u=>u=Value.bool b
 |.int i,u=>∃t,u=Value.int i t
 |.str x,u=>∃t,u=Value.str x t
 |.byt b,u=>∃t,u=Value.bytes b t
 |.flt b,u=>∃t,u=Value.float b t
 |.ref a,u=>u=Value.ref a
 |.ty n,u=>u=Value.type n
abbrev Vals:List V->List As->Prop:=Paired RelV
def Vals.length{xs:List V}{q:Ag}(r:Vals xs q):xs.length=q.length:=Qf6 r
theorem Vals.get:∀{xs:List V} {q:Ag} {i:Nat} {x:V},Vals xs q->xs[i]?=some x->∃u,q[i]?=some u/\RelV x u
 |_,_,_,_,.nil,e=>by simp at e
 |_,_,0,_,.cons r _,e=>by grind
 |_,_,i+1,x,.cons _ t,e=>by
  obtain⟨u,h1,h2⟩:=Vals.get (i:=i) (x:=x) t (by simpa using e);exact⟨u,by simpa using h1,h2⟩
theorem Vals.append:∀{xs ys:List V} {q ws:Ag},Vals xs q->Vals ys ws->Vals (xs++ys) (q++ws)
 |_,_,_,_,.nil,s=>s
 |_,_,_,_,.cons r t,s=>.cons r (Vals.append t s)
theorem Vals.take:∀{xs:List V} {q:Ag} (n:Nat),Vals xs q->Vals (xs.take n) (q.take n)
 |_,_,0,_=>.nil
 |_,_,_+1,.nil=>.nil
 |_,_,n+1,.cons r t=>.cons r (Vals.take n t)
theorem Vals.drop:∀{xs:List V} {q:Ag} (n:Nat),Vals xs q->Vals (xs.drop n) (q.drop n)
 |_,_,0,r=>r
 |_,_,_+1,.nil=>.nil
 |_,_,n+1,.cons _ t=>Vals.drop n t
def yt:Option V->Option As->Prop
 |some v,some u=>RelV v u
 |none,none=>True
 |_,_=>False
def KV:List (m×V)->List (m×As)->Prop:=Paired fun(p:m×V) (q:m×As)=>p.1=q.1/\RelV p.2 q.2
def kV:Key->V
 |.inl i=>.int i
 |.inr x=>.str x
inductive HO where
 /-- a list -/
 |lst (xs:List V)
 /-- a tuple (never changes) -/
 |tup (xs:List V)
 /-- a dict whose keys are ints and texts; one whose keys are tuples of ints and texts (the empty one is both) -/
 |dK (kvs:List (Key×V))|dT (kvs:List (List Key×V))
 /-- a set of ints: its members, its size -/
 |set (S:Int->Bool) (n:Nat)
 /-- an instance of the class at C, its dict at dx, its attributes -/
 |ins (C dx:Au) (fs:List (Str×V))
 /-- the dict of the instance at x -/
 |own (x:Au)
 /-- the dict of an exception -/
 |xd (fs:List (Str×V))
 /-- a bound method, f of x -/
 |met (f x:Au)
 /-- a range object lo, lo + 1, .. below hi -/
 |rng (lo hi:Int)
 /-- a thing that is known to the object (the script; a dict while a loop walks it): read, never written while it is so -/
 |frz (o:Obj) (u:HO)
 /-- a code object's table -/
 |tbl (ps:Ah)
 /-- any other thing, by what is true of its one object (a def of one's own: SetO a S n := HO.ext fun h => ..) -/
 |ext (φ:Heap->Prop)
abbrev Hp:=Au->Option HO
def upd(H:Hp)(a:Au)(o:HO):Hp:=fun b=>if b=a then some o else H b
def Za{H:Hp}{o:HO}:upd H a o a=some o:=by unfold upd;rw[Qba rfl]
def Zk{H:Hp}{b:Au}{o:HO}(h:b≠a):upd H a o b=H b:=by unfold upd;rw[Qa4 h]
def yu{H:Hp}{o u:HO}:upd (upd H a o) a u=upd H a u:=by
 funext b;unfold upd;split<;>rfl
def X9{H:Hp}{b:Au}{o u:HO}(h:H a=some o)(h':H b=some u)(d:o≠u):a≠b:=by grind
def Zm{H:Hp}{b:Au}{o:HO}(h:H a=some o)(h':H b=none):a≠b:=by grind
def wG (h:Heap) (a:Au) (xs:Ah):Prop:=∃o,h.get? a=some o/\o.cls=.type "tuple" /\ (∃n,o.data=.seq xs n)/\o.dict=none
def wG.tup{h:Heap}{a:Au}{xs:Ah}(p:wG h a xs):IsTup h a xs:=let⟨o,e,c,d,_⟩:=p;⟨o,e,c,d⟩
def wG.new (h:Heap) (xs:Ah):wG (h.push {cls:=.type "tuple",data:=.seq xs}) h.objs.size xs:=⟨_,Qao _ rfl,rfl,⟨_,rfl⟩,rfl⟩
def wG.lt{h:Heap}{a:Au}{xs:Ah}(p:wG h a xs):a<h.objs.size:=p.tup.lt
section
variable (P:An)(w:Ar)
def Yo(H:Hp)(h:Heap)(a:Au):HO->Prop
 |.lst xs=>xs.length<=sizeLine/\∃(D:Ag) (n:Nat),Vals xs D/\h.get? a=some {cls:=.type "list",data:=.seq D.toArray n}
 |.tup xs=>xs.length<=sizeLine/\∃D:Ag,Vals xs D/\wG h a D.toArray
 |.dK kvs=>kvs.length<=sizeLine/\(a == sysModules)=false/\∃vs,KV kvs vs/\h.DictOf (ZJ P w) a vs
 |.dT kvs=>kvs.length<=sizeLine/\(a == sysModules)=false/\∃xs:List (List Key×Au×As),
   Paired (fun(p:List Key×V) (q:List Key×Au×As)=>p.1=q.1/\H q.2.1=some (.tup (p.1.map kV))/\RelV p.2 q.2.2) kvs xs /\
   ∃o es ep,h.get? a=some o/\o.ExactDict/\o.data=.dict es ep/\es.toList=xs.map (entryOfKey (tupleKind (ZJ P w)))/\(xs.map (·.1)).Nodup
 |.set S n=>h.SetOf (intKind P w) a S n
 |.ins C dx fs=>H dx=some (.own a)/\fs.length<=1000/\dx≠a/\h.get? a=some (PySem.W.instObj C dx) /\
   ∃mA,h.Ns1 dx mA/\(∀f,yt (fs.lookup f) (mA f))/\PySem.Within mA (fs.map (·.1))
 |.own _=>∃o,h.get? a=some o
 |.xd fs=>∃mA,h.Ns1 a mA/\∀f,yt (fs.lookup f) (mA f)
 |.rng lo hi=>∃t u v,h.get? a=some {cls:=.type "range",data:=.fields #[.int lo t,.int hi u,.int 1 v]}
 |.frz o u=>h.get? a=some o/\Yo H h a u
 |.tbl ps=>h.get? a=some {cls:=.none,data:=.fields ps}
 |.met f x=>h.get? a=some (PySem.W.methodObj (.ref f) (.ref x))
 |.ext φ=>φ h/\(∃o,h.get? a=some o)/\∀h1 h2:Heap,φ h1->(∀o,h1.get? a=some o->h2.get? a=some o)->φ h2
def HOk(H:Hp)(h:Heap):Prop:=∀a o,H a=some o->Yo P w H h a o
end
section
variable {P:An}{w:Ar}{H H':Hp}{h h':Heap}{a:Au}{o:HO}
def Yo.lt(x:Yo P w H h a o):a<h.objs.size:=by
 cases o with
 |lst xs=>obtain⟨_,_,_,_,e⟩:=x;exact Qar e
 |tup xs=>obtain⟨_,_,_,p⟩:=x;exact p.lt
 |dK kvs=>obtain⟨_,_,_,_,o,_,_,e,_⟩:=x;exact Qar e
 |dT kvs=>obtain⟨_,_,_,_,o,_,_,e,_⟩:=x;exact Qar e
 |set S n=>obtain⟨o,_,_,_,e,_⟩:=x;exact Qar e
 |ins C dx fs=>obtain⟨_,_,_,e,_⟩:=x;exact Qar e
 |own y=>obtain⟨_,e⟩:=x;exact Qar e
 |xd fs=>obtain⟨_,⟨_,_,_,e,_⟩,_⟩:=x;exact Qar e
 |rng lo hi=>obtain⟨_,_,_,e⟩:=x;exact Qar e
 |frz ob u=>obtain⟨e,_⟩:=x;exact Qar e
 |tbl ps=>exact Qar (show h.get? a=some _ from x)
 |met f y=>exact Qar (show h.get? a=some _ from x)
 |ext φ=>obtain⟨_,⟨_,e⟩,_⟩:=x;exact Qar e
theorem Paired.mapP{α β:Type}{F G:α->β->Prop}:∀{C:List α} {q:List β},Paired F C q->(∀a b,F a b->G a b)->Paired G C q
 |_,_,.nil,_=>.nil
 |_,_,.cons r t,f=>.cons (f _ _ r) (Paired.mapP t f)
theorem Yo.stay(x:Yo P w H h a o)(k:∀b u,(b=a\/H b=some (.own a))->h.get? b=some u->h'.get? b=some u)
  (I:∀b,H b=some (.own a)->H' b=some (.own a)) (F:∀b xs,H b=some (.tup xs)->H' b=some (.tup xs)):Yo P w H' h' a o:=by
 induction o with
 |lst xs=>obtain⟨z,D,n,r,e⟩:=x;exact⟨z,D,n,r,k _ _ (.inl rfl) e⟩
 |tup xs=>obtain⟨z,D,r,ob,e,c⟩:=x;exact⟨z,D,r,ob,k _ _ (.inl rfl) e,c⟩
 |dK kvs=>obtain⟨z,y,vs,r,ob,es,ep,e,c⟩:=x;exact⟨z,y,vs,r,ob,es,ep,k _ _ (.inl rfl) e,c⟩
 |dT kvs=>
  obtain⟨z,y,xs,r,ob,es,ep,e,c⟩:=x;exact⟨z,y,xs,Paired.mapP r fun p q z=>⟨z.1,F _ _ z.2.1,z.2.2⟩,ob,es,ep,k _ _ (.inl rfl) e,c⟩
 |set S n=>obtain⟨ob,es,ep,t,e,c⟩:=x;exact⟨ob,es,ep,t,k _ _ (.inl rfl) e,c⟩
 |ins C dx fs=>
  obtain⟨d,z,ne,e,mA,⟨od,es,ep,e2,c⟩,r⟩:=x;exact⟨I _ d,z,ne,k _ _ (.inl rfl) e,mA,⟨od,es,ep,k _ _ (.inr d) e2,c⟩,r⟩
 |own y=>obtain⟨ob,e⟩:=x;exact⟨ob,k _ _ (.inl rfl) e⟩
 |xd fs=>obtain⟨mA,⟨od,es,ep,e,c⟩,r⟩:=x;exact⟨mA,⟨od,es,ep,k _ _ (.inl rfl) e,c⟩,r⟩
 |rng lo hi=>obtain⟨t,u,v,e⟩:=x;exact⟨t,u,v,k _ _ (.inl rfl) e⟩
 |frz ob u G=>obtain⟨e,q⟩:=x;exact⟨k _ _ (.inl rfl) e,G q⟩
 |tbl ps=>
  have e:h.get? a=some {cls:=.none,data:=.fields ps}:=x;exact k a _ (.inl rfl) e
 |met f y=>
  have e:h.get? a=some (PySem.W.methodObj (.ref f) (.ref y)):=x;exact k a _ (.inl rfl) e
 |ext φ=>obtain⟨p,⟨o,e⟩,st⟩:=x;exact⟨st _ _ p fun o q=>k _ _ (.inl rfl) q,⟨o,k _ _ (.inl rfl) e⟩,st⟩
def HOk.lt(x:HOk P w H h)(e:H a=some o):a<h.objs.size:=(x a o e).lt
def HOk.fresh(x:HOk P w H h)(e:h.objs.size<=a):H a=none:=by
 cases q:H a with
 |none=>rfl
 |some u=>exact absurd (Qbl (x.lt q) e) (Qb4 _)
theorem HOk.kept(x:HOk P w H h)(k:∀b u,h.get? b=some u->h'.get? b=some u):HOk P w H h':=fun a o e=>
 (x a o e).stay (fun b u _ q=>k b u q) (fun _ q=>q) fun _ _ q=>q
theorem HOk.laid(x:HOk P w H h)(k:∀b u,h.get? b=some u->h'.get? b=some u)(F:h.objs.size<=a)(new:Yo P w (upd H a o) h' a o):HOk P w (upd H a o) h':=fun b u e=>by
 have C:=x.fresh F
 by_cases D:b=a
 ·subst D;rw[Za]at e;cases e;exact new
 ·rw[Zk D]at e;exact(x b u e).stay (fun c v _ q=>k c v q) (fun c q=>by rw[Zk (Zm q C)];exact q) fun c xs q=>by rw[Zk (Zm q C)];exact q
end
def Rd(H:Hp)(a:Au)(u:HO):Prop:=H a=some u\/∃o,H a=some (.frz o u)
def Rd.ok{H:Hp}{h:Heap}{u:HO}(r:Rd H a u)(x:HOk P w H h):Yo P w H h a u:=by
 rcases r with r|⟨o,r⟩
 ·exact x a u r
 ·obtain⟨_,q⟩:=x a _ r;exact q
def Mut:Option HO->Prop
 |some (.lst _)=>True
 |some (.dK _)=>True
 |some (.dT _)=>True
 |some (.set _ _)=>True
 |some (.ins _ _ _)=>True
 |some (.ext _)=>True
 |_=>False
section
variable {P:An}{w:Ar}{H:Hp}{h h':Heap}{x e:Au}{o':HO}
def HOk.write(ok:HOk P w H h)(G:Mut (H x))(Z:e=x\/H e=some (.own x))(k:∀b u,b≠e->h.get? b=some u->h'.get? b=some u)(I:∃u,h'.get? e=some u)
  (new:Yo P w (upd H x o') h' x o'):HOk P w (upd H x o') h':=fun b u q=>by
 have F:∀c y,H c=some (.own y)->c≠x:=fun c y r z=>by subst z;rw[r]at G;exact G
 have C:∀c xs,H c=some (.tup xs)->c≠x:=fun c xs r z=>by subst z;rw[r]at G;exact G
 by_cases O:b=x
 ·subst O;rw[Za]at q;cases q;exact new
 ·rw[Zk O]at q
  by_cases D:b=e
  ·have q':H b=some (.own x):=by
    grind
   rw[q]at q';cases q';obtain⟨v,Y⟩:=I;exact⟨v,by rw[D];exact Y⟩
  ·refine(ok b u q).stay (fun c v J r=>k c v ?_ r) (fun c r=>by rw[Zk (F c b r)];exact r) fun c xs r=>by rw[Zk (C c xs r)];exact r
   rcases J with rfl|J
   ·exact D
   ·grind
end
structure Un(fs ex:List Au)(H H':Hp)(h h':Heap):Prop where
 keep:∀b o,h.get? b=some o->H b=none->b∉fs->b∉ex->h'.get? b=some o
 slot:∀b o,h.get? b=some o->H b=none->b∈fs->b∉ex->∃sl,h'.get? b=some {o with slots:=sl}
 free:∀b o,h.get? b=some o->H b=none->b∉ex->H' b=none
 there:∀b o,h.get? b=some o->b∉ex->∃o',h'.get? b=some o'
 tups:∀b xs,H b=some (.tup xs)->H' b=some (.tup xs)
 frzs:∀b o u,H b=some (.frz o u)->H' b=some (.frz o u)
 tbls:∀b ps,H b=some (.tbl ps)->∃more,H' b=some (.tbl (ps++more))
section
variable {fs fs' ex ex':List Au}{H H1 H2:Hp}{h h1 h2 h':Heap}{a x e:Au}{o:HO}
def Un.any(u:Un fs ex H H1 h h1){b:Au}(q:h.get? b=some Z)(n:H b=none)(C:b∉ex):∃F,h1.get? b=some {Z with slots:=F}:=by
 by_cases D:b∈fs
 ·exact u.slot b Z q n D C
 ·exact⟨Z.slots,u.keep b Z q n D C⟩
theorem Un.kept(k:∀b u,h.get? b=some u->h'.get? b=some u):Un fs ex H H h h':=
 ⟨fun b ob q _ _ _=>k b ob q,fun b ob q _ _ _=>⟨ob.slots,k b ob q⟩,fun _ _ _ n _=>n,fun b ob q _=>⟨ob,k b ob q⟩,fun _ _ q=>q,fun _ _ _ q=>q,fun _ ps q=>⟨#[],by rw[q];simp⟩⟩
def Un.refl:Un fs ex H H h h:=Un.kept fun _ _ q=>q
theorem Un.laid(k:∀b u,h.get? b=some u->h'.get? b=some u)(D:h.objs.size<=a)(C:H a=none):Un fs ex H (upd H a o) h h' where
 keep:=fun b u q _ _ _=>k b u q
 slot:=fun b u q _ _ _=>⟨u.slots,k b u q⟩
 free:=fun b u q n _=>by rw[Zk (Qbi (Qbl (Qar q) D))];exact n
 there:=fun b u q _=>⟨u,k b u q⟩
 tups:=fun b xs q=>by rw[Zk (Zm q C)];exact q
 frzs:=fun b u xs q=>by rw[Zk (Zm q C)];exact q
 tbls:=fun b ps q=>⟨#[],by rw[Zk (Zm q C),q];simp⟩
def Un.write(D:Mut (H x))(O:e=x\/H e=some (.own x))(k:∀b u,b≠e->h.get? b=some u->h'.get? b=some u)(G:∃u,h'.get? e=some u):Un fs ex H (upd H x o) h h':=by
 have J:∀b,H b=none->b≠x:=fun b n z=>by subst z;rw[n]at D;exact D
 have I:∀b,H b=none->b≠e:=fun b n z=>by
  grind
 have F:∀b u,H b=some u->¬Mut (some u)->b≠x:=fun b u q nm z=>by subst z;rw[q]at D;exact nm D
 refine⟨fun b u q n _ _=>k b u (I b n) q,fun b u q n _ _=>⟨u.slots,k b u (I b n) q⟩,fun b u q n _=>by rw[Zk (J b n)];exact n,fun b u q _=>?_,
  fun b xs q=>by rw[Zk (F b _ q fun z=>z)];exact q,fun b u xs q=>by rw[Zk (F b _ q fun z=>z)];exact q,fun b ps q=>⟨#[],by rw[Zk (F b _ q fun z=>z),q];simp⟩⟩
 by_cases C:b=e
 ·subst C;exact G
 ·exact⟨u,k b u C q⟩
end
def trk(h:Heap)(H:Hp):List Au:=(List.range h.objs.size).filter fun a=>(H a).isSome
def Zcp(h:Heap)(H:Hp):Heap:=PySem.W.hideAll h (trk h H)
def Zcq(h:Heap)(H:Hp):(Zcp h H).objs.size=h.objs.size:=PySem.W.hideAll_size _ _
theorem Zgt{h:Heap}{H:Hp}{b:Au}{o:Obj}(e:h.get? b=some o)(n:H b=none):(Zcp h H).get? b=some o:=
 PySem.W.hideAll_get _ e fun C=>by
  have q:(H b).isSome=true:=(Qb2.mp C).2;rw[n]at q;simp at q
def Zkt{h:Heap}{H:Hp}{b:Au}{o:Obj}(e:(Zcp h H).get? b=some o):h.get? b=some o/\H b=none:=by
 have C:h.get? b=some o:=PySem.W.of_hideAll (trk h H) e;refine⟨C,?_⟩;cases q:H b with
 |none=>rfl
 |some x=>
  have D:b∈trk h H:=Qb2.mpr ⟨Qcp.mpr (Qar C),by simp[q]⟩;have z:(Zcp h H).get? b=none:=PySem.W.hideAll_none (trk h H) D;rw[z]at e;cases e
structure Mod(K:Af)(mg:Ae)(base:Heap):Prop where
 kin:K.In base
 glob:base.Ns mainGlobals mg
 blt:∃mb,base.Ns builtinsNs mb/\∀x:Str,x ≠ "__name__" ->mb x=bootBuiltins x
 nolimit:base.NoLimit
set_option genInjectivity false in
set_option genSizeOfSpec false in
structure Cx where
 prog:An
 w:Ar
 K:Af
 mg:Ae
 base:Heap
 A:Ao
 N:Ai
 s₀:Aq
 H₀:Hp
 env:Env
 outer:List Env
 stack:List Env
 ex:List Au
 fn:Str->Bool
 calm:Bool
 pn:Ac
 xe:Ab
abbrev A2{q:Type}(X:Cx):=@wpAny q (model X.prog X.w) X.A
def frs(l:List Env):List Au:=l.filterMap (·.frame)
abbrev Cx.fs(X:Cx):List Au:=frs X.outer
def Vis(q:Scope)(x:Str):Prop:=q.names.lookup x=some .local\/q.names.lookup x=some .cell\/q.names.lookup x=some .free
def Loc(q:Scope)(x:Str):Prop:=q.names.lookup x=some .local\/q.names.lookup x=some .cell
def Look(env:Env)(h:Heap)(m:Ae)(x:Str)(u:As):Prop:=
 (env.kindOf x=some .local/\m x=some u)\/((env.kindOf x=some .cell\/env.kindOf x=some .free)/\∃c,env.cells.lookup x=some c/\h.IsCell c (some u))
set_option genInjectivity false in
set_option genSizeOfSpec false in
structure Cx.Ok(X:Cx):Prop where
 mod:Mod X.K X.mg X.base
 kind:X.env.scope.kind=.function
 glob:X.env.globals=mainGlobals
 blt:X.env.builtins=builtinsNs
 above:X.s₀.heap.objs.size<=X.env.locals
 inj:∀x y c,X.env.cells.lookup x=some c->X.env.cells.lookup y=some c->x=y
 has:∀x,(X.env.kindOf x=some .cell\/X.env.kindOf x=some .free)->∃c,X.env.cells.lookup x=some c
 cab:∀x c,X.fn x=true->X.env.cells.lookup x=some c->X.s₀.heap.objs.size<=c
 hd:X.calm=true->X.A.handled=none
 frames:X.A.frames=some X.stack
 stk:X.stack=X.outer\/(X.stack=X.env::X.outer/\X.env.frame=some X.env.locals)
 exf:∀b∈X.ex,b≠X.env.locals/\∀x c,X.env.cells.lookup x=some c->c≠b
 bs:∀b o,X.base.get? b=some o->X.s₀.heap.get? b=some o/\X.H₀ b=none
 bsz:X.base.objs.size<=X.s₀.heap.objs.size
 noex:∀b o,X.base.get? b=some o->b∉X.ex
 exfs:∀b∈X.ex,b∉X.fs
 funs:X.s₀.heap.FunFrames X.base X.outer
 frf:∀b∈X.fs,X.H₀ b=none
structure Inv(X:Cx)(pins:Ac)(σ:List (Option V))(H:Hp)(s:Aq):Prop where
 ok:X.Ok
 os:s.os=X.s₀.os
 bare:AllBare s.gens
 base:Un X.fs X.ex X.H₀ H X.s₀.heap s.heap
 loc:∃m,s.heap.Ns X.env.locals m/\∀(i:Nat) (x:Str) (v:V),X.N[i]?=some x->σ[i]?=some (some v)->Vis X.env.scope x->∃u,RelV v u/\Look X.env s.heap m x u
 cell:∀x c,X.env.cells.lookup x=some c->∃v,s.heap.IsCell c v
 free:H X.env.locals=none
 freeC:∀x c,X.env.cells.lookup x=some c->H c=none
 pin:∀p∈X.pn++pins,s.heap.get? p.1=some p.2/\H p.1=none/\p.1≠X.env.locals/\p.1∉X.fs/\∀v,p.2.data≠.cell v
 hok:HOk X.prog X.w H s.heap
 len:σ.length=X.N.length
section
variable {X:Cx}{pins:Ac}{σ:List (Option V)}{H H':Hp}{s:Aq}{h':Heap}
theorem Cx.Ok.nofr(ok:X.Ok){b:Au}{o:Obj}(e:X.base.get? b=some o):b∉X.fs:=fun q=>by
 have:=(ok.funs.mem q).1;rw[e]at this;cases this
theorem Inv.bs(I:Inv X pins σ H s):∀b o,X.base.get? b=some o->s.heap.get? b=some o/\H b=none:=fun b o e=>
 ⟨I.base.keep b o (I.ok.bs b o e).1 (I.ok.bs b o e).2 (I.ok.nofr e) (I.ok.noex b o e),I.base.free b o (I.ok.bs b o e).1 (I.ok.bs b o e).2 (I.ok.noex b o e)⟩
def Inv.bk(I:Inv X pins σ H s):∀b o,X.base.get? b=some o->s.heap.get? b=some o:=fun b o e=>(I.bs b o e).1
def Inv.mod(I:Inv X pins σ H s):Mod X.K X.mg X.base:=I.ok.mod
def Inv.kIn(I:Inv X pins σ H s):X.K.In s.heap:=I.ok.mod.kin.keeps I.bk
def Inv.lt(I:Inv X pins σ H s):X.env.locals<s.heap.objs.size:=let⟨_,hn,_⟩:=I.loc;hn.lt
def Inv.sz(I:Inv X pins σ H s):X.s₀.heap.objs.size<=s.heap.objs.size:=Qa8 I.ok.above (Qau I.lt)
theorem Inv.nofs(I:Inv X pins σ H s)(h:s.heap.objs.size<=a):a∉X.fs:=fun C=>by
 obtain⟨_,o,q,_⟩:=I.ok.funs.mem C;exact absurd (Qbl (Qar q) (Qa8 I.sz h)) (Qb4 _)
theorem Inv.cne(I:Inv X pins σ H s):∀x c,X.env.cells.lookup x=some c->c≠X.env.locals:=fun x c e z=>by
 obtain⟨v,o,F,D⟩:=I.cell x c e;obtain⟨m,⟨o',es,ep,q,C,_⟩,_⟩:=I.loc;rw[z,q]at F;cases F;rw[C]at D;cases D
theorem Inv.funs(I:Inv X pins σ H s):s.heap.FunFrames X.base X.outer:=by
 have all:∀(l:List Env),(∀b∈frs l,b∈X.fs)->X.s₀.heap.FunFrames X.base l->s.heap.FunFrames X.base l:=by
  intro l
  induction l with
  |nil=>intro _ _;trivial
  |cons env r J=>
   intro F hl;obtain⟨hk,⟨L,o,C,Z,Y,G⟩,O⟩:=hl;have q:L∈X.fs:=F L (by unfold frs;rw[Qek,C];exact Qan);obtain⟨sl,e⟩:=I.base.slot L o Y (I.ok.frf L q) q fun z=>I.ok.exfs L z q;exact⟨hk,⟨L,_,C,Z,e,G⟩,J (fun b D=>F b (by unfold frs;rw[Qek,C];exact Qak _ D)) O⟩
 exact all X.outer (fun _ D=>D) I.ok.funs
def Inv.stack(I:Inv X pins σ H s):s.heap.FunFrames X.base X.stack:=by
 rcases I.ok.stk with e|⟨e,C⟩
 ·rw[e];exact I.funs
 ·rw[e];obtain⟨m,q,_⟩:=I.loc;refine .cons (by rw[I.ok.kind];decide) C q ?_ I.funs;exact Heap.get?_none_of_le (Qa8 I.ok.bsz I.ok.above)
theorem Inv.stkSub(I:Inv X pins σ H s):∀b∈frs X.stack,b∈X.env.locals::X.fs:=fun b q=>by
 rcases I.ok.stk with e|⟨e,C⟩
 ·grind
 ·rw[e]at q;unfold frs at q;rw[Qek,C]at q;exact q
theorem Inv.stkFree(I:Inv X pins σ H s):∀b∈frs X.stack,H b=none:=fun b q=>by
 rcases Qaq.mp (I.stkSub b q)with e|q
 ·rw[e];exact I.free
 ·obtain⟨_,o,C,_⟩:=I.ok.funs.mem q;exact I.base.free b o C (I.ok.frf b q) fun z=>I.ok.exfs b z q
def Inv.step{g':Array GenState}{t':Nat}{d':Drawn}{ch:List Au}(I:Inv X pins σ H s)
  (F:∀b∈ch,(b∈X.ex\/X.s₀.heap.objs.size<=b)/\b≠X.env.locals/\(∀x c,X.env.cells.lookup x=some c->c≠b)/\∀p∈X.pn++pins,p.1≠b)
  (keep:∀b o,b≠X.env.locals->b∉X.fs->b∉ch->s.heap.get? b=some o->H b=none->h'.get? b=some o)
  (O:∀b o,b≠X.env.locals->b∈X.fs->b∉ch->s.heap.get? b=some o->H b=none->∃sl,h'.get? b=some {o with slots:=sl}) (free:∀b o,b∉ch->s.heap.get? b=some o->H b=none->H' b=none)
  (Y:∀b o,b∉ch->s.heap.get? b=some o->∃o',h'.get? b=some o')
  (tups:∀b xs,H b=some (.tup xs)->H' b=some (.tup xs)) (frzs:∀b o u,H b=some (.frz o u)->H' b=some (.frz o u)) (tbls:∀b ps,H b=some (.tbl ps)->∃more,H' b=some (.tbl (ps++more)))
  (ns:∀m,s.heap.Ns X.env.locals m->h'.Ns X.env.locals m) (hok:HOk X.prog X.w H' h') (hg:AllBare g'):
  Inv X pins σ H' {s with heap:=h',gens:=g',drawn:=d',toks:=t'}:=by
 have neL:∀b o,X.s₀.heap.get? b=some o->b≠X.env.locals:=fun b o e=>Qbi (Qbl (Qar e) I.ok.above);have J:∀b o,X.s₀.heap.get? b=some o->b∉X.ex->b∉ch:=fun b o e C Z=>by
  rcases(F b Z).1 with z|z
  ·exact C z
  ·exact absurd (Qbl (Qar e) z) (Qb4 _)
 have D:∀x c,X.env.cells.lookup x=some c->∀v,s.heap.IsCell c v->h'.IsCell c v:=fun x c e v ⟨o,ho,hd⟩=>by
  have G:c∉ch:=fun z=>(F c z).2.2.1 x c e rfl
  by_cases hc:c∈X.fs
  ·obtain⟨sl,q⟩:=O c o (I.cne x c e) hc G ho (I.freeC x c e);exact⟨_,q,hd⟩
  ·exact⟨o,keep c o (I.cne x c e) hc G ho (I.freeC x c e),hd⟩
 refine⟨I.ok,I.os,hg,⟨fun b o e n Z C=>?_,fun b o e n Z C=>?_,fun b o e n C=>?_,fun b o e C=>?_,fun b xs e=>tups b xs (I.base.tups b xs e),fun b o xs e=>frzs b o xs (I.base.frzs b o xs e),fun b ps e=>?_⟩,?_,fun x c e=>?_,?_,fun x c e=>?_,fun p hp=>?_,hok,I.len⟩
 ·exact keep b o (neL b o e) Z (J b o e C) (I.base.keep b o e n Z C) (I.base.free b o e n C)
 ·obtain⟨sl,e1⟩:=I.base.slot b o e n Z C;obtain⟨sl',e2⟩:=O b _ (neL b o e) Z (J b o e C) e1 (I.base.free b o e n C);exact⟨sl',e2⟩
 ·obtain⟨o',e1⟩:=I.base.there b o e C;exact free b o' (J b o e C) e1 (I.base.free b o e n C)
 ·obtain⟨o',e1⟩:=I.base.there b o e C;exact Y b o' (J b o e C) e1
 ·obtain⟨m1,e1⟩:=I.base.tbls b ps e;obtain⟨m2,e2⟩:=tbls b _ e1;exact⟨m1++m2,by rw[e2,Array.append_assoc]⟩
 ·obtain⟨m,hn,hl⟩:=I.loc;refine⟨m,ns m hn,fun i x v e1 e2 e3=>?_⟩;obtain⟨u,r,l⟩:=hl i x v e1 e2 e3;refine⟨u,r,?_⟩;rcases l with l|⟨k,c,e,z⟩
  ·exact .inl l
  ·exact .inr ⟨k,c,e,D x c e _ z⟩
 ·obtain⟨v,z⟩:=I.cell x c e;exact⟨v,D x c e v z⟩
 ·obtain⟨m,⟨o,_,_,ho,_⟩,_⟩:=I.loc;exact free _ o (fun z=>(F _ z).2.1 rfl) ho I.free
 ·obtain⟨v,o,ho,hd⟩:=I.cell x c e;exact free c o (fun z=>(F c z).2.2.1 x c e rfl) ho (I.freeC x c e)
 ·obtain⟨e,n,ne,nf,d⟩:=I.pin p hp;have G:p.1∉ch:=fun z=>(F p.1 z).2.2.2 p hp rfl;exact⟨keep p.1 p.2 ne nf G e n,free p.1 p.2 G e n,ne,nf,d⟩
def Inv.un{t':Nat}(I:Inv X pins σ H s)(u:Un X.fs [] H H' s.heap h')(D:HOk X.prog X.w H' h'):Inv X pins σ H' {s with heap:=h',toks:=t'}:=by
 obtain⟨m,⟨o,es,ep,J,r⟩,_⟩:=id I.loc;obtain⟨sl,O⟩:=u.any J I.free (by simp);exact I.step (g':=s.gens) (d':=s.drawn) (ch:=[]) (fun _ z=>nomatch z) (fun b o _ G _ e n=>u.keep b o e n G (by simp)) (fun b o _ G _ e n=>u.slot b o e n G (by simp)) (fun b o _ e n=>u.free b o e n (by simp)) (fun b o _ e=>u.there b o e (by simp)) u.tups u.frzs u.tbls (fun m' Z=>by
  obtain⟨o',F,C,q,Y⟩:=Z;rw[J]at q;cases q;exact⟨_,F,C,O,Y⟩) D I.bare
def Inv.call{g':Array GenState}{t':Nat}{d':Drawn}{ch:List Au}(I:Inv X pins σ H s)(u:Un (frs X.stack) ch H H' s.heap h')(J:HOk X.prog X.w H' h')(hg:AllBare g')
  (C:∀b∈ch,(b∈X.ex\/X.s₀.heap.objs.size<=b)/\b≠X.env.locals/\(∀x c,X.env.cells.lookup x=some c->c≠b)/\∀p∈X.pn++pins,p.1≠b):
  Inv X pins σ H' {s with heap:=h',gens:=g',drawn:=d',toks:=t'}:=by
 obtain⟨m,⟨o,es,ep,Y,r⟩,_⟩:=id I.loc;obtain⟨sl,F⟩:=u.any Y I.free fun z=>(C _ z).2.1 rfl;exact I.step (ch:=ch) C (fun b o F hb q e n=>u.keep b o e n (fun z=>(Qaq.mp (I.stkSub b z)).elim F hb) q) (fun b o _ _ q e n=>u.any e n q) (fun b o q e n=>u.free b o e n q) (fun b o q e=>u.there b o e q) u.tups u.frzs u.tbls (fun m' hm=>by
  obtain⟨o',O,G,D,Z⟩:=hm;rw[Y]at D;cases D;exact⟨_,O,G,F,Z⟩) J hg
def Inv.turned{t':Nat}{it:Au}(I:Inv X pins σ H s)(k:∀b o,b≠it->s.heap.get? b=some o->h'.get? b=some o)(O:H it=none)(F:it≠X.env.locals)
  (h1:it∈X.ex\/X.s₀.heap.objs.size<=it) (h2:∀x c,X.env.cells.lookup x=some c->c≠it) (Y:∀p∈X.pn++pins,p.1≠it):Inv X pins σ H {s with heap:=h',toks:=t'}:=by
 have D:∀b u,H b=some u->b≠it:=fun b u e z=>by rw[z,O]at e;cases e
 refine I.step (g':=s.gens) (d':=s.drawn) (ch:=[it]) (fun b Z=>?_) (fun b o _ _ C e _=>k b o (fun z=>C (by simp[z])) e) (fun b o _ _ C e _=>⟨o.slots,k b o (fun z=>C (by simp[z])) e⟩) (fun _ _ _ _ n=>n)
  (fun b o C e=>⟨o,k b o (fun z=>C (by simp[z])) e⟩) (fun _ _ e=>e) (fun _ _ _ e=>e) (fun b ps e=>⟨#[],by rw[e];simp⟩) (fun m J=>?_) (fun b u e=>?_) I.bare
 ·grind
 ·obtain⟨o,es,ep,G,r⟩:=J;exact⟨o,es,ep,k _ o (Qd8 F) G,r⟩
 ·refine(I.hok b u e).stay (fun c v C q=>k c v ?_ q) (fun _ q=>q) fun _ _ q=>q
  rcases C with z|z
  ·rw[z];exact D b u e
  ·exact D c _ z
def Inv.tok(I:Inv X pins σ H s)(t:Nat):Inv X pins σ H {s with toks:=t}:=I.un (h':=s.heap) (t':=t) Un.refl I.hok
def Inv.kept{t':Nat}(I:Inv X pins σ H s)(k:∀b u,s.heap.get? b=some u->h'.get? b=some u):Inv X pins σ H {s with heap:=h',toks:=t'}:=I.un (Un.kept k) (I.hok.kept k)
theorem Inv.laid{a:Au}{o:HO}{t':Nat}(I:Inv X pins σ H s)(k:∀b u,s.heap.get? b=some u->h'.get? b=some u)(q:s.heap.objs.size<=a)(new:Yo X.prog X.w (upd H a o) h' a o):
  Inv X pins σ (upd H a o) {s with heap:=h',toks:=t'}:=I.un (Un.laid k q (I.hok.fresh q)) (I.hok.laid k q new)
theorem Inv.write{x e:Au}{o:HO}{t':Nat}(I:Inv X pins σ H s)(C:Mut (H x))(D:e=x\/H e=some (.own x))(k:∀b u,b≠e->s.heap.get? b=some u->h'.get? b=some u)(q:∃u,h'.get? e=some u)
  (new:Yo X.prog X.w (upd H x o) h' x o):Inv X pins σ (upd H x o) {s with heap:=h',toks:=t'}:=I.un (Un.write C D k q) (I.hok.write C D k q new)
theorem Inv.pins_of(I:Inv X pins σ H s)(h:∀p∈r,s.heap.get? p.1=some p.2/\H p.1=none/\p.1≠X.env.locals/\p.1∉X.fs/\∀v,p.2.data≠.cell v):Inv X r σ H s:=
 ⟨I.ok,I.os,I.bare,I.base,I.loc,I.cell,I.free,I.freeC,fun p q=>(Qbb.mp q).elim (fun z=>I.pin p (Qb3 _ z)) (h p),I.hok,I.len⟩
def uz(q:N.Nodup){j:Nat}(a:N[i]?=some x)(b:N[j]?=some x):i=j:=by
 obtain⟨h1,e1⟩:=Qai.mp a;obtain⟨h2,e2⟩:=Qai.mp b;exact(List.getElem_inj q).mp (e1.trans e2.symm)
theorem Zcr{M:Model}{A:Ao}{E:Ab}{v:V}{u:As}{Q:Unit->Shared->Prop}(I:Inv X pins σ H s)(hN:X.N.Nodup)(hi:X.N[i]?=some x)(G:Loc X.env.scope x)(r:RelV v u)
  (h:∀s',Inv X pins (σ.set i (some v)) H s'->(∃a,Heap.SameBut a s.heap s'.heap/\(a=X.env.locals\/X.env.cells.lookup x=some a))->Q () s') (hf:X.fn x=true\/X.env.scope.names.lookup x=some .local:=by first|exact .inl rfl|exact .inr rfl|assumption):wpAny M A (storeName X.env x u) Q E s:=by
 obtain⟨m,hn,hl⟩:=id I.loc;have hcls:(X.env.scope.kind == .class||(X.env.scope.kind == .module&&X.env.locals != X.env.globals))=false:=by rw[I.ok.kind];rfl
 have O:i<σ.length:=by rw[I.len];exact(Qai.mp hi).1
 have cne:=I.cne;have D:∀{a:Au} {h':Heap},(∃o,s.heap.get? a=some o/\H a=none)->Heap.SameBut a s.heap h'->HOk X.prog X.w H h':=fun{a h'} ha C b ob e=>by
  obtain⟨_,_,J⟩:=ha;refine(I.hok b ob e).stay (fun c w' F q=>(C.2 c ?_).trans q) (fun _ q=>q) fun _ _ q=>q;rintro rfl;rcases F with rfl|F
  ·rw[J]at e;cases e
  ·rw[J]at F;cases F
 rcases G with Y|Y
 ·refine wpAny_storeName_local Y hn (fun h' hn' C=>?_) hcls;obtain⟨oL,_,_,hoL,_⟩:=id hn;refine h _ ⟨I.ok,I.os,I.bare,⟨fun b o e n hb G=>?_,fun b o e n hb G=>?_,I.base.free,fun b o e G=>?_,I.base.tups,I.base.frzs,I.base.tbls⟩,⟨_,hn',fun j y v' e1 e2 e3=>?_⟩,fun y c e=>?_,I.free,I.freeC,fun p hp=>?_,D ⟨oL,hoL,I.free⟩ C,by simpa using I.len⟩ ⟨_,C,.inl rfl⟩
  ·exact(C.2 b (Qbi (Qbl (Qar e) I.ok.above))).trans (I.base.keep b o e n hb G)
  ·obtain⟨sl,e1⟩:=I.base.slot b o e n hb G;exact⟨sl,(C.2 b (Qbi (Qbl (Qar e) I.ok.above))).trans e1⟩
  ·obtain⟨o',e1⟩:=I.base.there b o e G;exact⟨o',(C.2 b (Qbi (Qbl (Qar e) I.ok.above))).trans e1⟩
  ·by_cases hj:j=i
   ·subst hj;rw[hi]at e1;cases e1;rw[List.getElem?_set_self O]at e2;cases e2;exact⟨u,r,.inl ⟨Y,by simp⟩⟩
   ·rw[List.getElem?_set_ne (Qd8 hj)]at e2;obtain⟨u',r',q⟩:=hl j y v' e1 e2 e3;refine⟨u',r',?_⟩;rcases q with⟨k,e⟩|⟨k,c,e,z⟩
    ·refine .inl ⟨k,?_⟩;have:y≠x:=fun e=>hj (uz hN e1 (e ▸ hi));simp[this,e]
    ·exact .inr ⟨k,c,e,z.sameBut C (cne y c e)⟩
  ·obtain⟨w',z⟩:=I.cell y c e;exact⟨w',z.sameBut C (cne y c e)⟩
  ·obtain⟨e,n,ne,nf,d⟩:=I.pin p hp;exact⟨(C.2 p.1 ne).trans e,n,ne,nf,d⟩
 ·have Z:X.fn x=true:=by
   rcases hf with z|z
   ·exact z
   ·rw[z]at Y;cases Y
  obtain⟨c,F⟩:=I.ok.has x (.inl Y);obtain⟨w',z⟩:=I.cell x c F;refine wpAny_storeName_cell I.ok.kind Y F z (fun h' hc' C=>?_);obtain⟨oc,hoc,hocd⟩:=id z;refine h {s with heap:=h'} ⟨I.ok,I.os,I.bare,⟨fun b o e n hb G=>?_,fun b o e n hb G=>?_,I.base.free,fun b o e G=>?_,I.base.tups,I.base.frzs,I.base.tbls⟩,⟨m,hn.sameBut C (Qd8 (cne x c F)),fun j y v' e1 e2 e3=>?_⟩,fun y c' e=>?_,I.free,I.freeC,fun p hp=>?_,D ⟨oc,hoc,I.freeC x c F⟩ C,by simpa using I.len⟩ ⟨c,C,.inr F⟩
  ·exact(C.2 b (Qbi (Qbl (Qar e) (I.ok.cab x c Z F)))).trans (I.base.keep b o e n hb G)
  ·obtain⟨sl,e1⟩:=I.base.slot b o e n hb G;exact⟨sl,(C.2 b (Qbi (Qbl (Qar e) (I.ok.cab x c Z F)))).trans e1⟩
  ·obtain⟨o',e1⟩:=I.base.there b o e G;exact⟨o',(C.2 b (Qbi (Qbl (Qar e) (I.ok.cab x c Z F)))).trans e1⟩
  ·by_cases hj:j=i
   ·subst hj;rw[hi]at e1;cases e1;rw[List.getElem?_set_self O]at e2;cases e2;exact⟨u,r,.inr ⟨.inl Y,c,F,hc'⟩⟩
   ·rw[List.getElem?_set_ne (Qd8 hj)]at e2;obtain⟨u',r',q⟩:=hl j y v' e1 e2 e3;refine⟨u',r',?_⟩;rcases q with q|⟨k,c',e,z'⟩
    ·exact .inl q
    ·refine .inr ⟨k,c',e,z'.sameBut C ?_⟩;rintro rfl;exact hj (uz hN e1 (I.ok.inj _ _ _ e F ▸ hi))
  ·by_cases hcc:c'=c
   ·subst hcc;exact⟨_,hc'⟩
   ·obtain⟨w2,z2⟩:=I.cell y c' e;exact⟨w2,z2.sameBut C hcc⟩
  ·obtain⟨e,n,ne,nf,d⟩:=I.pin p hp;refine⟨(C.2 p.1 ?_).trans e,n,ne,nf,d⟩;intro q;rw[q,hoc]at e;have q':oc=p.2:=Option.some.inj e;exact d w' (by rw[<-q'];exact hocd)
theorem Gj{M:Model}{A:Ao}{E:Ab}{v:V}{u:As}{Q:Unit->Shared->Prop}(I:Inv X pins σ H s)(C:X.N.Nodup)(hi:X.N[i]?=some x)(q:Loc X.env.scope x)(r:RelV v u)
  (h:∀s',Inv X pins (σ.set i (some v)) H s'->Q () s') (F:X.fn x=true\/X.env.scope.names.lookup x=some .local:=by first|exact .inl rfl|exact .inr rfl|assumption):wpAny M A (storeName X.env x u) Q E s:=
 Zcr I C hi q r (fun s' D _=>h s' D) F
def Inv.call'{s':Aq}{ch:List Au}(I:Inv X pins σ H s)(F:s'.os=s.os)(u:Un (frs X.stack) ch H H' s.heap s'.heap)(q:HOk X.prog X.w H' s'.heap)(D:AllBare s'.gens)
  (C:∀b∈ch,(b∈X.ex\/X.s₀.heap.objs.size<=b)/\b≠X.env.locals/\(∀x c,X.env.cells.lookup x=some c->c≠b)/\∀p∈X.pn++pins,p.1≠b):Inv X pins σ H' s':=by
 obtain⟨h',g',d',t',o'⟩:=s';have e:o'=s.os:=F;subst e;exact I.call (g':=g') (t':=t') (d':=d') u q D C
end
abbrev XK:=As->Option Au->Hp->Prop
abbrev St:=List (Option V)
abbrev Ax:=List (List V)
abbrev Ay:=List (Key×V)
abbrev Az:=St->Hp->Prop
abbrev A0:=List V
abbrev VK:=V->Hp->Prop
abbrev TE:=St->Hp->VK->Prop
abbrev TT:=St->Hp->(Bool->Hp->Prop)->Prop
abbrev TA:=St->Hp->(A0->Hp->Prop)->Prop
structure Ends where
 nx:Az
 rt:VK
 bk:Az:=fun _ _=>False
 ct:Az:=fun _ _=>False
abbrev TS:=Ends->St->Hp->Prop
inductive EP_i(X:Cx)(pins:Ac)(σ:St)(Q:VK)(u:As)(s':Aq):Prop
 |mk (v H':_):(Inv X pins σ H' s')->(RelV v u)->(Q v H')->EP_i X pins σ Q u s'
def EP(X:Cx)(pins:Ac)(σ:St)(Q:VK)(u:As)(s':Aq):Prop:=EP_i X pins σ Q u s'
inductive TP_i(X:Cx)(pins:Ac)(σ:St)(Q:Bool->Hp->Prop)(b:Bool)(s':Aq):Prop
 |mk (H':_):(Inv X pins σ H' s')->(Q b H')->TP_i X pins σ Q b s'
def TP(X:Cx)(pins:Ac)(σ:St)(Q:Bool->Hp->Prop)(b:Bool)(s':Aq):Prop:=TP_i X pins σ Q b s'
inductive AP_i(X:Cx)(pins:Ac)(σ:St)(Q:A0->Hp->Prop)(us:Ag)(s':Aq):Prop
 |mk (vs H':_):(Inv X pins σ H' s')->(Vals vs us)->(Q vs H')->AP_i X pins σ Q us s'
def AP(X:Cx)(pins:Ac)(σ:St)(Q:A0->Hp->Prop)(q:Ag)(s':Aq):Prop:=AP_i X pins σ Q q s'
def SP(X:Cx)(pins:Ac)(D:Ends)(f:Flow)(s':Aq):Prop:=
 match f with
 |.next=>∃q H',Inv X pins q H' s'/\D.nx q H'
 |.brk=>∃q H',Inv X pins q H' s'/\D.bk q H'
 |.cont=>∃q H',Inv X pins q H' s'/\D.ct q H'
 |.ret u=>∃v q H',Inv X pins q H' s'/\RelV v u/\D.rt v H'
def PE(X:Cx)(e:Av)(t:TE):Prop:=
 ∀(pins:Ac) (s:Aq) (σ:St) (H:Hp) (Q:VK),Inv X pins σ H s->t σ H Q->A2 X (eval e X.env) (EP X pins σ Q) X.xe s
def PT(X:Cx)(e:Av)(t:TT):Prop:=
 ∀(pins:Ac) (s:Aq) (σ:St) (H:Hp) (Q:Bool->Hp->Prop),Inv X pins σ H s->t σ H Q->A2 X (isTrue e X.env (eval e X.env)) (TP X pins σ Q) X.xe s
def PW(X:Cx)(e:Av)(t:TT):Prop:=
 ∀(q:Sem As) (pins:Ac) (s:Aq) (σ:St) (H:Hp) (Q:Bool->Hp->Prop),Inv X pins σ H s->t σ H Q->A2 X (isTrue e X.env q) (TP X pins σ Q) X.xe s
def PW.pt{X:Cx}{t:TT}(h:PW X e t):PT X e t:=h _
def PA(X:Cx)(es:Al)(t:TA):Prop:=
 ∀(pos:Pos) (pins:Ac) (s:Aq) (σ:St) (H:Hp) (Q:A0->Hp->Prop),Inv X pins σ H s->t σ H Q->A2 X (spliced (backTo pos (starEach es X.env))) (AP X pins σ Q) X.xe s
def PS(X:Cx)(st:Aw)(t:TS):Prop:=
 ∀(pins:Ac) (s:Aq) (σ:St) (H:Hp) (D:Ends),Inv X pins σ H s->t D σ H->A2 X (exec st X.env) (SP X pins D) X.xe s
def PSs(X:Cx)(st:List Aw)(t:TS):Prop:=
 ∀(pins:Ac) (s:Aq) (σ:St) (H:Hp) (D:Ends),Inv X pins σ H s->t D σ H->A2 X (execs st X.env) (SP X pins D) X.xe s
def thn{t:Sem m}{Q q:m->Shared->Prop}{M:Model}{A:Ao}{E:Ab}(h:wpAny M A t Q E s)(C:∀a s,Q a s->q a s):wpAny M A t q E s:=Qde h C fun _ _ x=>x
section
variable {X:Cx}
inductive Ziy(i:Nat)(σ:St)(H:Hp)(Q:VK):Prop
 |mk (v:_):(σ[i]?=some (some v))->(Q v H)->Ziy i σ H Q
def Zgl(i:Nat):TE:=fun σ H Q=>Ziy i σ H Q
def tC(v:V):TE:=fun _ H Q=>Q v H
def Ziz    (O:X.N[i]?=some x) (J:Vis X.env.scope x) (D:(x == ("__debug__" : Str))=false:=by decide) (F:(x == ("__classdict__" : Str))=false:=by decide):PE X (.Name x p) (Zgl i):=by
 intro pins s σ H Q I h;obtain⟨v,e,h⟩:=h;obtain⟨m,Z,hl⟩:=I.loc;obtain⟨u,r,l⟩:=hl i x v O e J;have fin:EP X pins σ Q u s:=⟨v,H,I,r,h⟩;rcases l with⟨C,Y⟩|⟨C,c,G,q⟩
 ·exact wpAny_Name (wpAny_loadName_local I.ok.kind C Z Y fin) D
 ·rcases C with C|C
  ·exact wpAny_Name (wpAny_loadName_cell I.ok.kind C G q fin) D
  ·exact wpAny_Name (wpAny_loadName_free I.ok.kind C G q fin F) D
def pe_int{i j pos:_}:PE X (.Constant (.int i) j pos) (tC (.int i)):=fun _ _ _ H _ I h=>wpAny_Constant_int ⟨.int i,H,I.tok _,⟨_,rfl⟩,h⟩
def pe_bl{b j pos:_}:PE X (.Constant (.bool b) j pos) (tC (.bl b)):=fun _ _ _ H _ I h=>Constant_bool ⟨.bl b,H,I,rfl,h⟩
def pe_non{j pos:_}:PE X (.Constant .none j pos) (tC .non):=fun _ _ _ H _ I h=>Constant_none ⟨.non,H,I,rfl,h⟩
def pe_str{x j pos:_}:PE X (.Constant (.str x) j pos) (tC (.str x)):=fun _ _ _ H _ I h=>Calls.Constant_str ⟨.str x,H,I.tok _,⟨_,rfl⟩,h⟩
def Gl(X:Cx)(x:Str):Prop:=X.env.kindOf x=some .globalImplicit
def yw{E:Ab}{σ:St}{H:Hp}{u:As}(I:Inv X r σ H s)(q:Gl X x)(D:X.mg x=some u)(h:Q u s)
  (C:(x == ("__debug__" : Str))=false:=by decide):A2 X (eval (.Name x p) X.env) Q E s:=
 Calls.Name_function_global I.ok.kind q (Calls.loadGlobal_global (by rw[I.ok.glob];exact I.mod.glob.keeps I.bk) D h) C
def JF{E:Ab}{σ:St}{H:Hp}{u:As}(I:Inv X r σ H s)(q:Gl X x)(F:X.mg x=none)(D:bootBuiltins x=some u)(h:Q u s)
  (G:x ≠ "__name__" :=by decide) (C:(x == ("__debug__" : Str))=false:=by decide):A2 X (eval (.Name x p) X.env) Q E s:=by
 obtain⟨J,h1,h2⟩:=I.mod.blt;exact Calls.Name_function_global I.ok.kind q (Calls.loadGlobal_builtin (by rw[I.ok.glob];exact I.mod.glob.keeps I.bk) F (by rw[I.ok.blt];exact h1.keeps I.bk) ((h2 x G).trans D) h) C
def Zku  {v:V} {u:As}  (q:Gl X x) (D:X.mg x=some u) (r:RelV v u) (C:(x == ("__debug__" : Str))=false:=by decide):PE X (.Name x p) (tC v):=
 fun _ _ _ H _ I h=>yw I q D ⟨v,H,I,r,h⟩ C
def Zkv  {v:V} {u:As}  (q:Gl X x) (D:X.mg x=none) (F:bootBuiltins x=some u) (r:RelV v u) (G:x ≠ "__name__" :=by decide) (C:(x == ("__debug__" : Str))=false:=by decide):PE X (.Name x p) (tC v):=
 fun _ _ _ H _ I h=>JF I q D F ⟨v,H,I,r,h⟩ G C
variable {a b:Av}{ta tb:TE}{pos:Pos}
inductive tB_i(Q:Bool->Hp->Prop)(x:V)(H1:Hp):Prop
 |mk (c:_):(x=.bl c)->(Q c H1)->tB_i Q x H1
def tB(t:TE):TT:=fun σ H Q=>t σ H fun x H1=>tB_i Q x H1
def pt_val{t:TE}(h:PE X e t)(G:∀C,isTrue e X.env C=(do let v <-C;standAt e.pos;holding [v] (truthy v)):=by intro _;rfl):PT X e (tB t):=by
 intro pins s σ H Q I hw;refine isTrue_plain (thn (h pins s σ H _ I hw) fun v O ⟨x,H1,F,D,J⟩=>?_) (G _);obtain⟨d,rfl,q⟩:=J;cases D;exact Qc7 ⟨H1,F,q⟩
variable {tA tB':TT}{rest:Al}
def tAnd(t u:TT):TT:=fun σ H Q=>t σ H fun c H1=>if c=true then u σ H1 Q else Q false H1
def tOr(t u:TT):TT:=fun σ H Q=>t σ H fun c H1=>if c=true then Q true H1 else u σ H1 Q
def tNot(t:TT):TT:=fun σ H Q=>t σ H fun c H1=>Q (!c) H1
def Zkw(q:PT X a tA):PW X (.BoolOp .And [a] pos) tA:=by
 intro C pins s σ H Q I h;refine isTrue_and (thn (q pins s σ H Q I h) fun c D e=>?_);cases c with
 |true=>exact isTrue_and_nil e
 |false=>exact e
def pw_or1(q:PT X a tA):PW X (.BoolOp .Or [a] pos) tA:=by
 intro C pins s σ H Q I h;refine isTrue_or (thn (q pins s σ H Q I h) fun c D e=>?_);cases c with
 |false=>exact isTrue_or_nil e
 |true=>exact e
def pw_and(F:PT X a tA)(J:PW X (.BoolOp .And (b::rest) pos) tB'):PW X (.BoolOp .And (a::b::rest) pos) (tAnd tA tB'):=by
 intro D pins s σ H Q I h;refine isTrue_and (thn (F pins s σ H _ I h) fun c G ⟨H1,q,C⟩=>?_);cases c with
 |true=>exact J D pins G σ H1 Q q C
 |false=>exact⟨H1,q,C⟩
def pw_or(F:PT X a tA)(J:PW X (.BoolOp .Or (b::rest) pos) tB'):PW X (.BoolOp .Or (a::b::rest) pos) (tOr tA tB'):=by
 intro D pins s σ H Q I h;refine isTrue_or (thn (F pins s σ H _ I h) fun c G ⟨H1,q,C⟩=>?_);cases c with
 |true=>exact⟨H1,q,C⟩
 |false=>exact J D pins G σ H1 Q q C
def pt_not(D:PT X a tA):PT X (.UnaryOp .Not a pos) (tNot tA):=by
 intro pins s σ H Q I h;exact isTrue_not (thn (D pins s σ H (fun c H1=>Q (!c) H1) I h) fun c F ⟨H1,C,q⟩=>⟨H1,C,q⟩)
inductive Zcs(tb:TE)(σ:St)(Q:VK)(x:V)(H1:Hp):Prop
 |mk (c:_):(x=.bl c)->(if c=true then tb σ H1 Q else Q (.bl false) H1)->Zcs tb σ Q x H1
def Znu(ta tb:TE):TE:=fun σ H Q=>ta σ H fun x H1=>Zcs tb σ Q x H1
inductive Zi0(tb:TE)(σ:St)(Q:VK)(x:V)(H1:Hp):Prop
 |mk (c:_):(x=.bl c)->(if c=true then Q (.bl true) H1 else tb σ H1 Q)->Zi0 tb σ Q x H1
def tOrV(ta tb:TE):TE:=fun σ H Q=>ta σ H fun x H1=>Zi0 tb σ Q x H1
inductive Zct(Q:VK)(x:V)(H1:Hp):Prop
 |mk (c:_):(x=.bl c)->(Q (.bl (!c)) H1)->Zct Q x H1
def Znv(ta:TE):TE:=fun σ H Q=>ta σ H fun x H1=>Zct Q x H1
def pe_one{op:_}{t:TE}(h:PE X a t):PE X (.BoolOp op [a] pos) t:=fun pins s σ H Q I hw=>BoolOp_one (h pins s σ H Q I hw)
def pe_and(G:PE X a ta)(J:PE X (.BoolOp .And (b::rest) pos) tb):PE X (.BoolOp .And (a::b::rest) pos) (Znu ta tb):=by
 intro pins s σ H Q I h;refine BoolOp_and (thn (G pins s σ H _ I h) fun v F ⟨x,H1,C,D,q⟩=>?_);obtain⟨c,rfl,q⟩:=q;cases D;refine Qc7 ?_;cases c with
 |true=>exact J pins F σ H1 Q C q
 |false=>exact⟨.bl false,H1,C,rfl,q⟩
def pe_or(G:PE X a ta)(J:PE X (.BoolOp .Or (b::rest) pos) tb):PE X (.BoolOp .Or (a::b::rest) pos) (tOrV ta tb):=by
 intro pins s σ H Q I h;refine BoolOp_or (thn (G pins s σ H _ I h) fun v F ⟨x,H1,C,D,q⟩=>?_);obtain⟨c,rfl,q⟩:=q;cases D;refine Qc7 ?_;cases c with
 |false=>exact J pins F σ H1 Q C q
 |true=>exact⟨.bl true,H1,C,rfl,q⟩
def pe_not(F:PE X a ta):PE X (.UnaryOp .Not a pos) (Znv ta):=by
 intro pins s σ H Q I h;refine UnaryOp_ (thn (F pins s σ H _ I h) fun v G ⟨x,H1,C,D,q⟩=>?_);obtain⟨c,rfl,q⟩:=q;cases D;exact not_of (Qc7 ⟨.bl (!c),H1,C,rfl,q⟩)
end
def SqL(K:Af)(H:Hp)(a:Au)(xs:A0):Prop:=
 Rd H a (.lst xs) \/
  ∃(o:Obj) (q:Ah) (n:Nat),K.lookup a=some o/\o.cls=.type "list" /\ o.dict=none/\o.data=.seq q n/\q.size<=sizeLine/\Vals xs q.toList
def SqT(K:Af)(H:Hp)(a:Au)(xs:A0):Prop:=
 Rd H a (.tup xs) \/
  ∃(o:Obj) (q:Ah) (n:Nat),K.lookup a=some o/\o.cls=.type "tuple" /\ o.data=.seq q n/\q.size<=sizeLine/\Vals xs q.toList
def absV:As->Option V
 |.none=>some .non
 |.bool b=>some (.bl b)
 |.int i _=>some (.int i)
 |.str x _=>some (.str x)
 |.bytes b _=>some (.byt b)
 |.float b _=>some (.flt b)
 |.ref a=>some (.ref a)
 |.type n=>some (.ty n)
 |_=>none
def RelV.abs{x:V}{u:As}(r:RelV x u):absV u=some x:=by
 cases x with
 |non=>cases r;rfl
 |bl _=>cases r;rfl
 |int _=>obtain⟨t,rfl⟩:=r;rfl
 |str _=>obtain⟨t,rfl⟩:=r;rfl
 |byt _=>obtain⟨t,rfl⟩:=r;rfl
 |flt _=>obtain⟨t,rfl⟩:=r;rfl
 |ref _=>cases r;rfl
 |ty _=>cases r;rfl
def RelV.inj{x y:V}{u:As}(r:RelV x u)(q:RelV y u):x=y:=Option.some.inj (r.abs.symm.trans q.abs)
theorem Vals.inj:∀{xs ys:A0} {q:Ag},Vals xs q->Vals ys q->xs=ys
 |_,_,_,.nil,.nil=>rfl
 |_,_,_,.cons r t,.cons C t'=>by rw[r.inj C,Vals.inj t t']
section
variable {X:Cx}{pins:Ac}{σ:St}{H:Hp}{s:Aq}{a:Au}{xs ys:A0}
def SqL.of(h:H a=some (.lst xs)):SqL K H a xs:=.inl (.inl h)
def SqT.of(h:H a=some (.tup xs)):SqT K H a xs:=.inl (.inl h)
def Inv.list(I:Inv X pins σ H s)(h:SqL X.K H a xs):∃q:Ag,Vals xs q/\PlainL s.heap a q.toArray/\xs.length<=sizeLine:=by
 rcases h with h|⟨o,q,n,F,C,D,G,hz,r⟩
 ·obtain⟨z,q,n,r,e⟩:=h.ok I.hok;exact⟨q,r,⟨_,n,e,rfl,rfl,rfl⟩,z⟩
 ·refine⟨q.toList,r,⟨o,n,I.kIn a o F,C,D,by simpa using G⟩,?_⟩;have e:=r.length;simp only[Qbr]at e;lia
def Inv.tuple(I:Inv X pins σ H s)(h:SqT X.K H a xs):∃q:Ag,Vals xs q/\IsTup s.heap a q.toArray/\xs.length<=sizeLine:=by
 rcases h with h|⟨o,q,n,D,C,F,hz,r⟩
 ·obtain⟨z,q,r,p⟩:=h.ok I.hok;exact⟨q,r,p.tup,z⟩
 ·refine⟨q.toList,r,⟨o,I.kIn a o D,C,n,by simpa using F⟩,?_⟩;have e:=r.length;simp only[Qbr]at e;lia
def Inv.list_inj(I:Inv X pins σ H s)(h:SqL X.K H a xs)(h':SqL X.K H a ys):xs=ys:=by
 obtain⟨q,r,⟨o,n,e,_,_,d⟩,_⟩:=I.list h;obtain⟨its',F,⟨o',G,C,_,_,d'⟩,_⟩:=I.list h';rw[e]at C;cases C;rw[d]at d';injection d' with D _;have:q=its':=by simpa using congrArg Array.toList D
 subst this;exact r.inj F
def Inv.tuple_inj(I:Inv X pins σ H s)(h:SqT X.K H a xs)(h':SqT X.K H a ys):xs=ys:=by
 obtain⟨q,r,⟨o,e,_,n,d⟩,_⟩:=I.tuple h;obtain⟨its',F,⟨o',C,_,G,d'⟩,_⟩:=I.tuple h';rw[e]at C;cases C;rw[d]at d';injection d' with D _;have:q=its':=by simpa using congrArg Array.toList D
 subst this;exact r.inj F
end
abbrev Cx.wish(X:Cx)(E:Ab):Cx:={X with xe:=E}
abbrev Cx.nox(X:Cx):Cx:=X.wish fun _ _=>False
theorem Cx.Ok.wish{X:Cx}(ok:X.Ok)(E:Ab):(X.wish E).Ok:=
 ⟨ok.mod,ok.kind,ok.glob,ok.blt,ok.above,ok.inj,ok.has,ok.cab,ok.hd,ok.frames,ok.stk,ok.exf,ok.bs,ok.bsz,ok.noex,ok.exfs,ok.funs,ok.frf⟩
theorem Cx.Ok.unwish{X:Cx}{E:Ab}(ok:(X.wish E).Ok):X.Ok:=
 ⟨ok.mod,ok.kind,ok.glob,ok.blt,ok.above,ok.inj,ok.has,ok.cab,ok.hd,ok.frames,ok.stk,ok.exf,ok.bs,ok.bsz,ok.noex,ok.exfs,ok.funs,ok.frf⟩
section
variable {X:Cx}{pins:Ac}{σ:St}{H:Hp}{s:Aq}{E:Ab}
def Inv.wish(I:Inv X pins σ H s)(E:Ab):Inv (X.wish E) pins σ H s:=⟨I.ok.wish E,I.os,I.bare,I.base,I.loc,I.cell,I.free,I.freeC,I.pin,I.hok,I.len⟩
def Inv.unwish(I:Inv (X.wish E) pins σ H s):Inv X pins σ H s:=⟨I.ok.unwish,I.os,I.bare,I.base,I.loc,I.cell,I.free,I.freeC,I.pin,I.hok,I.len⟩
def SP.unwish{D:Ends}{f:Flow}{s':Aq}(h:SP (X.wish E) pins D f s'):SP X pins D f s':=by
 cases f with
 |next=>obtain⟨C,H',I,q⟩:=h;exact⟨C,H',I.unwish,q⟩
 |brk=>obtain⟨C,H',I,q⟩:=h;exact⟨C,H',I.unwish,q⟩
 |cont=>obtain⟨C,H',I,q⟩:=h;exact⟨C,H',I.unwish,q⟩
 |ret u=>obtain⟨v,C,H',I,r,q⟩:=h;exact⟨v,C,H',I.unwish,r,q⟩
theorem PSs.nox{st:List Aw}{t:TS}(h:PSs X.nox st t):PSs X st t:=fun pins s σ H D I hw=>
 Qde (h pins s σ H D (I.wish _) hw) (fun _ _ q=>q.unwish) fun _ _ z=>False.elim z
end
section
variable {X:Cx}{st:Aw}{rest:List Aw}{t u:TS}{e:Av}{te:TE}{pos:Pos}
def Znw:TS:=fun D σ H=>D.nx σ H
def Yl(t u:TS):TS:=fun D σ H=>t {D with nx:=u D} σ H
def Zkx:PSs X [] Znw:=fun _ _ σ H _ I h=>Qgb ⟨σ,H,I,h⟩
def Zgu(h1:PS X st t)(h2:PSs X rest u):PSs X (st::rest) (Yl t u):=by
 intro pins s σ H D I h;refine wpAny_execs_cons (thn (h1 pins s σ H {D with nx:=u D} I h) fun f G q=>?_);cases f with
 |next=>
  obtain⟨C,H',F,q⟩:=q;exact h2 pins G C H' D F q
 |ret v=>exact q
 |brk=>exact q
 |cont=>exact q
def Zky(h1:PS X st t):PSs X [st] t:=by
 intro pins s σ H D I h;refine wpAny_execs_cons (thn (h1 pins s σ H D I h) fun f C q=>?_);cases f with
 |next=>exact Qgb q
 |ret v=>exact q
 |brk=>exact q
 |cont=>exact q
def Inv.quiet{σ:St}{H:Hp}(I:Inv X r σ H s):interactive X.env=false:=by simp[interactive,I.ok.kind]
def Zkz(te:TE):TS:=fun D σ H=>te σ H fun _ H1=>D.nx σ H1
def Zk0(C:PE X e te)(G:swapsWith e none pos.line X.env=pure false:=by rfl):PS X (.Expr e pos) (Zkz te):=by
 intro pins s σ H D I h;exact wpAny_Expr_any (thn (C pins s σ H _ I h) fun v O ⟨x,H1,q,J,F⟩=>⟨σ,H1,q,F⟩) I.quiet G
def tRet(te:TE):TS:=fun D σ H=>te σ H D.rt
def ps_ret(C:PE X e te):PS X (.Return (some e) pos) (tRet te):=by
 intro pins s σ H D I h;exact wpAny_Return_some (thn (C pins s σ H _ I h) fun v J ⟨x,H1,q,F,G⟩=>⟨x,σ,H1,q,F,G⟩)
def tIfS(c:TT)(t u:TS):TS:=fun D σ H=>c σ H fun b H1=>if b=true then t D σ H1 else u D σ H1
def ps_if{c:Av}{a b:List Aw}{tc:TT}(G:PT X c tc)(J:PSs X a t)(O:PSs X b u):PS X (.If c a b pos) (tIfS tc t u):=by
 intro pins s σ H D I h;refine wpAny_If (thn (G pins s σ H _ I h) fun d q ⟨H1,C,F⟩=>?_);cases d with
 |true=>exact J pins q σ H1 D C F
 |false=>exact O pins q σ H1 D C F
def Zi1:TS:=fun _ _ _=>False
def Zgv:PS X st Zi1:=fun _ _ _ _ _ _ h=>h.elim
end
abbrev TG:=V->St->Hp->(Az)->Prop
abbrev TGs:=A0->St->Hp->(Az)->Prop
def PG(X:Cx)(q:Av)(t:TG):Prop:=
 ∀(pins:Ac) (s:Aq) (σ:St) (H:Hp) (v:V) (u:As) (Q:Az),Inv X pins σ H s->RelV v u->t v σ H Q->
  A2 X (assign q X.env u) (fun _ s'=>∃C H',Inv X pins C H' s'/\Q C H') X.xe s
def PGs(X:Cx)(ts:Al)(t:TGs):Prop:=
 ∀(pins:Ac) (s:Aq) (σ:St) (H:Hp) (vs:A0) (C:Ag) (Q:Az),Inv X pins σ H s->Vals vs C->t vs σ H Q->
  A2 X (assignInOrder ((assignEach ts X.env).map (·.2)) C) (fun _ s'=>∃q H',Inv X pins q H' s'/\Q q H') X.xe s
section
variable {X:Cx}{pos:Pos}
def qc(i:Nat):TG:=fun v σ H Q=>Q (σ.set i (some v)) H
theorem Zcu(D:X.N.Nodup)(hi:X.N[i]?=some x)(C:Loc X.env.scope x)(q:X.fn x=true\/X.env.scope.names.lookup x=some .local:=by first|exact .inl rfl|exact .inr rfl|assumption):PG X (.Name x pos) (qc i):=by
 intro pins s σ H v u Q I r h;exact wpAny_assign_Name (Gj I D hi C r (fun s' F=>⟨_,H,F,h⟩) q)
inductive Zi2(vs:A0)(σ:St)(H:Hp)(Q:Az):Prop
 |mk  : (vs=[])->(Q σ H)->Zi2 vs σ H Q
def gNil  : TGs:=fun vs σ H Q=>Zi2 vs σ H Q
inductive Zcv(t:TG)(u:TGs)(vs:A0)(σ:St)(H:Hp)(Q:Az):Prop
 |mk (v r:_):(vs=v::r)->(t v σ H fun σ' H'=>u r σ' H' Q)->Zcv t u vs σ H Q
def Zcw(t:TG)(u:TGs):TGs:=fun vs σ H Q=>Zcv t u vs σ H Q
def Zk1:PGs X [] gNil:=by
 intro pins s σ H vs q Q I r h;obtain⟨e,h⟩:=h;subst e;cases r;exact assignInOrder_nil ⟨σ,H,I,h⟩
def uA{t:TG}{u:TGs}(h1:PG X e t)(h2:PGs X B u)
  (J:(assignEach (e::B) X.env).map (·.2)=assign e X.env::(assignEach B X.env).map (·.2):=by rfl):PGs X (e::B) (Zcw t u):=by
 intro pins s σ H vs O Q I r h;obtain⟨v,Y,e1,h⟩:=h;subst e1;cases r with
 |cons r G=>
  rw[J];refine assignInOrder_cons (thn (h1 pins s σ H _ _ _ I r h) fun _ C ⟨q,H1,D,F⟩=>?_);exact h2 pins C q H1 _ _ Q D G F
inductive Zi3(K:Af)(n:Nat)(t:TGs)(v:V)(σ:St)(H:Hp)(Q:Az):Prop
 |mk (a xs:_):(v=.ref a)->(SqT K H a xs)->(xs.length=n)->(t xs σ H Q)->Zi3 K n t v σ H Q
def gTup(K:Af)(n:Nat)(t:TGs):TG:=fun v σ H Q=>Zi3 K n t v σ H Q
def pg_tup{k:Nat}{t:TGs}(J:X.calm=true)(h:PGs X B t)
  (Z:(assignEach B X.env).length=n:=by rfl) (q:(assignEach B X.env).findIdx? (·.1)=none:=by rfl):PG X (.Tuple B k pos) (gTup X.K n t):=by
 intro pins s σ H v u Q I r hw;obtain⟨a,xs,e1,Y,hl,hw⟩:=hw;subst e1;cases r;obtain⟨O,C,D,hz⟩:=I.tuple Y;refine assign_Tuple_tuple (I.ok.hd J) D (by simp[Z,<-hl,C.length]) q fun h' G=>?_;have F:Inv X pins σ H {s with heap:=h'}:=I.kept (t':=s.toks) fun b o e=>G b o (Qbi (Qar e)) e;exact h pins _ σ H xs _ Q F (by simpa using C) hw
def Znx(te:TE)(g:TG):TS:=fun D σ H=>te σ H fun x H1=>g x σ H1 D.nx
theorem ps_set{te:TE}(O:X.N.Nodup)(hi:X.N[i]?=some x)(Y:Loc X.env.scope x)(J:PE X e te)(hs:swapsWith e (some (.Name x p)) pos.line X.env=pure false:=by rfl)(F:X.fn x=true\/X.env.scope.names.lookup x=some .local:=by first|exact .inl rfl|exact .inr rfl|assumption):
  PS X (.Assign [.Name x p] e pos) (Znx te (qc i)):=by
 intro pins s σ H D I h;refine wpAny_Assign_Name (thn (J pins s σ H _ I h) fun v s1 ⟨y,H1,G,q,Z⟩=>?_) hs;exact Gj G O hi Y q (fun s2 C=>⟨_,H1,C,Z⟩) F
def Zcx(c:TT)(tb:TS):TS:=fun D σ H=>∃W:Nat->St->Hp->Prop,(∃m,W m σ H)/\∀m σ H,W m σ H->
 c σ H fun b H1=>if b=true then∃N:Az,(∀q H',N q H'->∃C,C<m/\W C q H')/\tb {D with nx:=N,ct:=N,bk:=D.nx} σ H1 else D.nx σ H1
def Zgw{c:Av}{body:List Aw}{tc:TT}{tb:TS}(hp:PassesOwn (model X.prog X.w) X.A X.env X.xe)(hc:PT X c tc)(hb:PSs X body tb):PS X (.While c body [] pos) (Zcx tc tb):=by
 intro pins s σ H D I h;obtain⟨W,⟨m0,w0⟩,J⟩:=h;refine wpAny_While (codeAny_whileLoop (fun n s'=>∃F H',Inv X pins F H' s'/\W n F H') ?_ m0 ⟨σ,H,I,w0⟩);rintro n s1 ⟨C,H1,I1,w1⟩;refine Qec hp (thn (hc pins s1 C H1 _ I1 (J n C H1 w1)) fun b s2 ⟨H2,I2,O⟩=>?_);cases b with
 |true=>
  obtain⟨N,hN,O⟩:=O;refine Qec hp (thn (hb pins s2 C H2 _ I2 O) fun f s3 Y=>?_);cases f with
  |next=>
   obtain⟨q,G,I3,n3⟩:=Y;obtain⟨m',hm,Z⟩:=hN q G n3;exact⟨m',hm,q,G,I3,Z⟩
  |cont=>
   obtain⟨q,G,I3,n3⟩:=Y;obtain⟨m',hm,Z⟩:=hN q G n3;exact⟨m',hm,q,G,I3,Z⟩
  |brk=>exact Y
  |ret v=>exact Y
 |false=>
  exact Qgb ⟨C,H2,I2,O⟩
end
structure It where
 go:Nat->Hp->Prop
 yld:Nat->Hp->V->Hp->Prop
 stop:Nat->Hp->Prop
def xl(X:Cx)(pins:Ac)(H:Hp)(b:Au):Prop:=
 H b=none/\b≠X.env.locals/\b∉X.fs/\(b∈X.ex\/X.s₀.heap.objs.size<=b)/\(∀x c,X.env.cells.lookup x=some c->c≠b)/\∀p∈X.pn++pins,p.1≠b
def Inv.fpOk{X:Cx}{σ:St}{H H':Hp}{b:Au}(I:Inv X r σ H s)(C:s.heap.objs.size<=b)(F:H' b=none):xl X r H' b:=by
 refine⟨F,Qej (Qbl I.lt C),I.nofs C,.inr (Qa8 I.sz C),fun x c e z=>?_,fun p D z=>?_⟩
 ·obtain⟨v,q⟩:=I.cell x c e;exact absurd (Qbl q.lt (by rw[z];exact C)) (Qb4 _)
 ·exact absurd (Qbl (Qar (I.pin p D).1) (by rw[z];exact C)) (Qb4 _)
structure Turn(P:An)(w:Ar)(K:Af)(tg:Av)(J:It)(fp:List Au)(it:Au)(tn:Nat->Heap->Prop):Prop where
 mem:it∈fp
 obj:∀i h,tn i h->∀b∈fp,∃o,h.get? b=some o/\∀v,o.data≠.cell v
 keep:∀i h h',tn i h->(∀b∈fp,∀o,h.get? b=some o->h'.get? b=some o)->tn i h'
 item:∀(X:Cx),X.prog=P->X.w=w->X.K=K->X.calm=true->∀(i:Nat) (pins:Ac) (s:Aq) (σ:St) (H:Hp) (E:Ab),Inv X pins σ H s->(∀b∈fp,xl X pins H b)->tn i s.heap->J.go i H->
  wpAny (model P w) X.A (pyNext (.ref it)) (fun r s1=>∃u,r=some u /\
   wpAny (model P w) X.A (letOwnedTupleGo tg (.ref it) u) (fun _ s2=>∃x H',Inv X pins σ H' s2/\RelV x u/\J.yld i H x H'/\tn (i+1) s2.heap/\∀b∈fp,H' b=none) E s1) E s
 done:∀(X:Cx),X.prog=P->X.w=w->X.K=K->X.calm=true->∀(i:Nat) (pins:Ac) (s:Aq) (σ:St) (H:Hp) (E:Ab),Inv X pins σ H s->(∀b∈fp,xl X pins H b)->tn i s.heap->J.stop i H->
  wpAny (model P w) X.A (pyNext (.ref it)) (fun r s1=>r=none/\Inv X pins σ H s1) E s
 self:∀(A:Ao) (i:Nat) (s:Aq) (Q:Ab) (E:Ab),tn i s.heap->Q (.ref it) s->wpAny (model P w) A (pyIter (.ref it)) Q E s
abbrev TI:=St->Hp->(It->Hp->Prop)->Prop
def PIE(X:Cx)(pins:Ac)(σ:St)(tg:Av)(R:It->Hp->Prop)(q:As)(C:Aq):Prop:=
 ∃(it:Au) (fp:List Au) (D:Nat->Heap->Prop) (J:It) (H':Hp),q=.ref it/\Inv X pins σ H' C/\Turn X.prog X.w X.K tg J fp it D/\D 0 C.heap/\(∀b∈fp,xl X pins H' b)/\R J H'
def PI(X:Cx)(tg iter:Av)(wi:TI):Prop:=
 ∀(pins:Ac) (s:Aq) (σ:St) (H:Hp) (R:It->Hp->Prop),Inv X pins σ H s->wi σ H R->
  A2 X (eval iter X.env) (fun v q=>A2 X (pyIter v) (PIE X pins σ tg R) X.xe q) X.xe s
def v9{M:Model}{A:Ao}{E:Ab}{tg:Av}{it:Au}{u:As}{o:Obj}{n:String}{vs:Ah}{Q:Unit->Shared->Prop}(F:s.heap.get? it=some o)(C:o.cls=.type n)(D:o.data=.fields vs)
    (G:["enumerate","zip","dict_itemiterator","dict_reverseitemiterator","odict_iterator","itertools.zip_longest","itertools.pairwise"].contains n=false) (q:Q () s):wpAny M A (letOwnedTupleGo tg (.ref it) u) Q E s:=by
  cases tg<;>first
    |exact Qae q
    | (cases u <;> first
        |exact Qae q
        | (refine Qaa (wpAny_load F ?_)
           rw[C,D];show wpAny M A (if(["enumerate","zip","dict_itemiterator","dict_reverseitemiterator","odict_iterator","itertools.zip_longest","itertools.pairwise"].contains n&&vs[0]? == some (rawInt _))=true then _ else _) Q E s;rw[Qa4 (by grind)];exact Qae q))
def Itl(K:Af)(a:Au):It:=
 ⟨fun i H=>∃xs x,SqL K H a xs/\xs[i]?=some x,fun i H x H'=>H'=H/\∀xs,SqL K H a xs->xs[i]?=some x,fun i H=>∃xs,SqL K H a xs/\xs.length<=i⟩
def Itt(K:Af)(a:Au):It:=
 ⟨fun i H=>∃xs x,SqT K H a xs/\xs[i]?=some x,fun i H x H'=>H'=H/\∀xs,SqT K H a xs->xs[i]?=some x,fun i H=>∃xs,SqT K H a xs/\xs.length<=i⟩
def Itr(lo:Int)(n:Nat):It:=⟨fun i _=>i<n,fun i H x H'=>H'=H/\x=.int (lo+i),fun i _=>n<=i⟩
def Zcy{tg:Av}(a it:Au):Turn P w K tg (Itl K a) [it] it (fun i h=>h.IsListIter it a i)where
 mem:=by simp
 obj:=fun i h st b q=>by
  have e:b=it:=by simpa using q
  subst e;obtain⟨o,e,c,d⟩:=st;exact⟨o,e,fun v z=>by rw[d]at z;cases z⟩
 keep:=fun i h h' st k=>st.at fun o e=>k it (by simp) o e
 item:=by
  intro X G hw Z hc i pins s σ H E I F st hg;subst G hw Z;obtain⟨xs,x,D,hx⟩:=hg;obtain⟨its,J,p,hz⟩:=I.list D;obtain⟨u,hu,ru⟩:=J.get hx;obtain⟨f0,f1,f2,Y,O,f5⟩:=F it (by simp);refine wpAny_pyNext_list_item st p.isList (x:=u) (by simpa using hu) fun h' C sb=>?_;have I1:Inv X pins σ H {s with heap:=h'}:=I.turned (t':=s.toks) (fun b o q e=>(sb.2 b q).trans e) f0 f1 Y O f5;obtain⟨o,e,c,d⟩:=id C;exact⟨u,rfl,v9 (s:={s with heap:=h'}) e c d (by decide) ⟨x,H,I1,ru,⟨rfl,fun ys hy=>by rw[I.list_inj hy D];exact hx⟩,C,fun b q=>(F b q).1⟩⟩
 done:=by
  intro X G hw Z hc i pins s σ H E I F st hg;subst G hw Z;obtain⟨xs,D,hx⟩:=hg;obtain⟨its,J,p,hz⟩:=I.list D;obtain⟨f0,f1,f2,Y,O,f5⟩:=F it (by simp);have hl:=J.length;exact wpAny_pyNext_list_end (I.ok.hd hc) st p.isList (by simp;lia) fun h' eb=>⟨rfl,I.turned (t':=s.toks) (fun b o q e=>eb b o q e) f0 f1 Y O f5⟩
 self:=fun _ _ _ _ _ st h=>wpAny_pyIter_listiter st h
def Za5{tg:Av}(a it:Au):Turn P w K tg (Itt K a) [it] it (fun i h=>h.IsTupleIter it a i)where
 mem:=by simp
 obj:=fun i h st b C=>by
  have e:b=it:=by simpa using C
  subst e;obtain⟨o,e,c,d⟩:=st;exact⟨o,e,fun v z=>by rw[d]at z;cases z⟩
 keep:=fun i h h' st k=>st.at fun o e=>k it (by simp) o e
 item:=by
  intro X J hw hK hc i pins s σ H E I G st hg;subst J hw hK;obtain⟨xs,x,F,hx⟩:=hg;obtain⟨q,O,p,hz⟩:=I.tuple F;obtain⟨u,hu,ru⟩:=O.get hx;obtain⟨f0,f1,f2,Z,Y,f5⟩:=G it (by simp);refine wpAny_pyNext_tuple_item st (show s.heap.IsTuple a q.toArray from p) (x:=u) (by simpa using hu) fun h' D sb=>?_;have I1:Inv X pins σ H {s with heap:=h'}:=I.turned (t':=s.toks) (fun b o C e=>(sb.2 b C).trans e) f0 f1 Z Y f5;obtain⟨o,e,c,d⟩:=id D;exact⟨u,rfl,v9 (s:={s with heap:=h'}) e c d (by decide) ⟨x,H,I1,ru,⟨rfl,fun ys hy=>by rw[I.tuple_inj hy F];exact hx⟩,D,fun b C=>(G b C).1⟩⟩
 done:=by
  intro X J hw hK hc i pins s σ H E I G st hg;subst J hw hK;obtain⟨xs,F,hx⟩:=hg;obtain⟨q,O,p,hz⟩:=I.tuple F;obtain⟨f0,f1,f2,Z,Y,f5⟩:=G it (by simp);have hl:=O.length;exact wpAny_pyNext_tuple_end (I.ok.hd hc) st (show s.heap.IsTuple a q.toArray from p) (by simp;lia) fun h' eb=>⟨rfl,I.turned (t':=s.toks) (fun b o C e=>eb b o C e) f0 f1 Z Y f5⟩
 self:=fun _ _ _ _ _ st h=>wpAny_pyIter_tupleiter st h
def Za6{tg:Av}(it:Au)(lo:Int)(n:Nat):Turn P w K tg (Itr lo n) [it] it (fun i h=>IsRangeIter h it (lo+(i:Nat)*1) ((n:Int)-(i:Nat)) 1)where
 mem:=by simp
 obj:=fun i h st b q=>by
  grind
 keep:=fun i h h' st k=>k it (by simp) _ st
 item:=by
  intro X F hw Y G i pins s σ H E I D st Z;subst F hw Y;obtain⟨f0,f1,f2,O,J,f5⟩:=D it (by simp);have W:=Walks.range (prog:=X.prog) (w:=X.w) (I.ok.hd G) it lo 1 n;refine W.item i s _ _ Z st fun v h' tk hv C kk=>?_;obtain⟨t,rfl⟩:=hv;have I1:Inv X pins σ H {s with heap:=h',toks:=tk}:=I.turned (fun b o q e=>kk b o (by simpa using q) e) f0 f1 O J f5;refine⟨_,rfl,v9 (s:={s with heap:=h',toks:=tk}) (n:= "range_iterator") C rfl rfl (by decide) ⟨.int (lo+i),H,I1,⟨t,?_⟩,⟨rfl,rfl⟩,C,fun b q=>(D b q).1⟩⟩;rw[Int.mul_one]
 done:=by
  intro X F hw Y G i pins s σ H E I D st Z;subst F hw Y;obtain⟨f0,f1,f2,O,J,f5⟩:=D it (by simp);exact wpAny_pyNext_range_end (I.ok.hd G) st (by have:n<=i:=Z;lia) fun h' eb=>⟨rfl,I.turned (t':=s.toks) (fun b o q e=>eb b o q e) f0 f1 O J f5⟩
 self:=fun _ _ _ _ _ st h=>wpAny_pyIter_rangeiter st h
section
variable {X:Cx}{tg:Av}
inductive Zcz(K:Af)(R:It->Hp->Prop)(x:V)(H1:Hp):Prop
 |mk (a:_):(x=.ref a)->((∃xs,SqL K H1 a xs))->(R (Itl K a) H1)->Zcz K R x H1
def Zc0(K:Af)(tl:TE):TI:=fun σ H R=>tl σ H fun x H1=>Zcz K R x H1
inductive Zi4(K:Af)(R:It->Hp->Prop)(x:V)(H1:Hp):Prop
 |mk (a:_):(x=.ref a)->((∃xs,SqT K H1 a xs))->(R (Itt K a) H1)->Zi4 K R x H1
def iTup(K:Af)(tl:TE):TI:=fun σ H R=>tl σ H fun x H1=>Zi4 K R x H1
def Zk2{l:Av}{tl:TE}(Y:PE X l tl):PI X tg l (Zc0 X.K tl):=by
 intro pins s σ H R I h;refine thn (Y pins s σ H _ I h) fun v C ⟨x,H1,D,F,J⟩=>?_;obtain⟨a,e,⟨xs,O⟩,q⟩:=J;subst e;cases F;obtain⟨G,rv,p,hz⟩:=D.list O;refine Qe3 p.isList ?_;refine⟨C.heap.objs.size,[C.heap.objs.size],_,_,H1,rfl,D.kept (t':=C.toks) fun b o e=>Qab _ e,Zcy a _,⟨_,Qao _ rfl,rfl,rfl⟩,fun b Z=>?_,q⟩;have e:b=C.heap.objs.size:=by simpa using Z
 subst e;exact D.fpOk (Qah _) (D.hok.fresh (Qah _))
def pi_tup{l:Av}{tl:TE}(Y:PE X l tl):PI X tg l (iTup X.K tl):=by
 intro pins s σ H R I h;refine thn (Y pins s σ H _ I h) fun v C ⟨x,H1,D,G,J⟩=>?_;obtain⟨a,e,⟨xs,O⟩,q⟩:=J;subst e;cases G;obtain⟨F,rv,p,hz⟩:=D.tuple O;refine wpAny_pyIter_tuple (show C.heap.IsTuple a F.toArray from p) ?_;refine⟨C.heap.objs.size,[C.heap.objs.size],_,_,H1,rfl,D.kept (t':=C.toks) fun b o e=>Qab _ e,Za5 a _,⟨_,Qao _ rfl,rfl,rfl⟩,fun b Z=>?_,q⟩;have e:b=C.heap.objs.size:=by simpa using Z
 subst e;exact D.fpOk (Qah _) (D.hok.fresh (Qah _))
def Zgx{σ:St}{H:Hp}{R:It->Hp->Prop}{E:Ab}{lo:Int}{t u v:Tok}{tk:Nat}(I:Inv X r σ H s)(h1:-(2^62)<=lo)(h2:lo<2^62)(D:-(2^62)<=z)(F:z<2^62)
  (q:R (Itr lo (z-lo).toNat) H):A2 X (pyIter (.ref s.heap.objs.size)) (PIE X r σ tg R) E {s with heap:=s.heap.push {cls:=.type "range",data:=.fields #[.int lo t,.int z u,.int 1 v]},toks:=tk}:=by
 refine wpAny_pyIter_range (IsRange.new ..) (small_one h1 h2 D F) ?_;have C:Inv X r σ H {s with heap:=s.heap.push {cls:=.type "range",data:=.fields #[.int lo t,.int z u,.int 1 v]},toks:=tk}:=I.kept fun b o e=>Qab _ e;refine⟨(s.heap.push {cls:=.type "range",data:=.fields #[.int lo t,.int z u,.int 1 v]}).objs.size,[(s.heap.push {cls:=.type "range",data:=.fields #[.int lo t,.int z u,.int 1 v]}).objs.size],_,_,H,rfl,
  C.kept (t':=tk) fun b o e=>Qab _ e,Za6 _ lo (z-lo).toNat,?_,fun b G=>?_,q⟩
 ·have e1:lo+((0:Nat):Int)*1=lo:=by simp
  have e2:(((z-lo).toNat:Nat):Int)-((0:Nat):Int)=Builtin.Range.rangeSize lo z 1:=by rw[rangeSize_one];split<;>lia
  rw[e1,e2];exact Qao _ rfl
 ·have e:b=(s.heap.push {cls:=.type "range",data:=.fields #[.int lo t,.int z u,.int 1 v]}).objs.size:=by simpa using G
  subst e;exact C.fpOk (Qah _) (C.hok.fresh (Qah _))
inductive Zc1(R:It->Hp->Prop)(vs:A0)(H1:Hp):Prop
 |mk (j:Int):(vs=[.int j])->(-(2^62)<=j)->(j<2^62)->(R (Itr 0 j.toNat) H1)->Zc1 R vs H1
def Zk3(ta:TA):TI:=fun σ H R=>ta σ H fun vs H1=>Zc1 R vs H1
def Zc2 {a:Av} {ta:TA}  (O:Gl X "range") (hm:X.mg "range" = none) (Y:PA X [a] ta) (hs:starEach [a] X.env=[(false,eval a X.env)]:=by rfl):PI X tg (.Call (.Name "range" p) [a] [] q) (Zk3 ta):=by
 intro pins s σ H R I h;refine Call_ (JF I O hm boot_range (Qci (thn (Y q pins s σ H _ I h) fun us s1 ⟨vs,H1,J,G,D⟩=>?_) hs rfl));obtain⟨j,e,D,F,C⟩:=D;subst e;cases G with
 |cons r Z=>
  cases Z;obtain⟨t,rfl⟩:=r;exact call_range_1 (Zgx J (by lia) (by lia) D F (by simpa using C))
abbrev Zgm(J:It)(g:TG)(tb:TS)(D:Ends)(σ:St)(H:Hp):Prop:=∃W:Nat->Nat->St->Hp->Prop,(∃m,W 0 m σ H)/\∀i m σ H,W i m σ H->
 (J.stop i H/\D.nx σ H)\/(J.go i H/\∃N:Az,(∀q H',N q H'->∃F,F<m/\W (i+1) F q H')/\∀x H',J.yld i H x H'->g x σ H' fun C H2=>tb {D with nx:=N,ct:=N,bk:=D.nx} C H2)
def tFor(wi:TI)(g:TG)(tb:TS):TS:=fun D σ H=>wi σ H fun J H1=>Zgm J g tb D σ H1
def qH{J:It}{g:TG}{tb:TS}{D:Ends}{σ:St}{H:Hp}(n:Nat)(C:Nat->St->Hp->Prop)(I:C 0 σ H)
  (G:∀i σ H,i<n->C i σ H->J.go i H/\∀x H',J.yld i H x H'->g x σ H' fun F H2=>tb {D with nx:=C (i+1),ct:=C (i+1),bk:=D.nx} F H2)
  (Z:∀σ H,C n σ H->J.stop n H/\D.nx σ H):Zgm J g tb D σ H:=by
 refine⟨fun i m σ H=>m=n-i/\i<=n/\C i σ H,⟨n,by simp,Qbp _,I⟩,?_⟩;rintro i m σ H ⟨rfl,hi,p⟩
 by_cases q:i<n
 ·exact .inr ⟨(G i σ H q p).1,C (i+1),fun O H' Y=>⟨n-(i+1),by lia,rfl,q,Y⟩,(G i σ H q p).2⟩
 ·grind
def vA(fp:List Au)(h:Heap):Ac:=fp.filterMap fun b=>(h.get? b).map fun o=>(b,o)
def Js{fp:List Au}{h:Heap}{b:Au}{o:Obj}(q:b∈fp)(e:h.get? b=some o):(b,o)∈vA fp h:=Qgj.mpr ⟨b,q,by rw[e];rfl⟩
def Zc3{fp:List Au}{h:Heap}{p:Au×Obj}(C:p∈vA fp h):p.1∈fp/\h.get? p.1=some p.2:=by
 obtain⟨b,F,e⟩:=Qgj.mp C;cases q:h.get? b with
 |none=>rw[q]at e;cases e
 |some o=>
  rw[q]at e;have D:(b,o)=p:=Option.some.inj e;subst D;exact⟨F,q⟩
theorem Inv.pinned{σ:St}{H:Hp}{fp:List Au}(I:Inv X r σ H s)(F:∀b∈fp,xl X r H b)(J:∀b∈fp,∃o,s.heap.get? b=some o/\∀v,o.data≠.cell v):Inv X (r++vA fp s.heap) σ H s:=
 I.pins_of fun p D=>(Qbb.mp D).elim (fun z=>I.pin p (Qaz _ z)) fun z=>by
  obtain⟨C,e⟩:=Zc3 z;obtain⟨f0,G,O,_⟩:=F p.1 C;obtain⟨o,q,d⟩:=J p.1 C;rw[e]at q;cases q;exact⟨e,f0,G,O,d⟩
def Inv.unpinned{pl:Ac}{σ:St}{H:Hp}(I:Inv X (r++pl) σ H s):Inv X r σ H s:=I.pins_of fun p q=>I.pin p (Qaz _ (Qb3 _ q))
def ps_for{iter:Av}{body:List Aw}{wi:TI}{g:TG}{tb:TS}(hp:PassesOwn (model X.prog X.w) X.A X.env X.xe)(hc:X.calm=true)(hi:PI X tg iter wi)(hg:PG X tg g)(Z:PSs X body tb)
  (hs:∀x,foldedSetIterable iter X.env x=pure x:=by intro _;rfl):PS X (.For tg iter body [] p) (tFor wi g tb):=by
 intro pins s σ H D I h;refine wpAny_For (thn (hi pins s σ H _ I h) fun v s1 h1=>thn h1 fun itv s2 h2=>?_) hs;obtain⟨it,fp,tn,J,H2,e,I2,T,st2,f2,W,⟨m0,w0⟩,turn⟩:=h2;subst e;have G:∀{H':Hp},(∀b∈fp,H' b=none)->∀b∈fp,xl X pins H' b:=fun hn b Z=>⟨hn b Z,(f2 b Z).2⟩;refine codeAny_forLoop_any (fun n s'=>∃i Y H',Inv X pins Y H' s'/\tn i s'.heap/\(∀b∈fp,H' b=none)/\W i n Y H') ?_ m0 ⟨0,σ,H2,I2,st2,fun b Z=>(f2 b Z).1,w0⟩;rintro n s3 ⟨i,F,H3,I3,st3,fr3,w3⟩;rcases turn i n F H3 w3 with⟨stop,qn⟩|⟨go,N,hN,step⟩
 ·refine Qec hp (thn (T.done X rfl rfl rfl hc i pins s3 F H3 X.xe I3 (G fr3) st3 stop) fun r s4 ⟨hr,I4⟩=>?_);subst hr;exact Qgb ⟨F,H3,I4,qn⟩
 ·refine Qec hp (thn (T.item X rfl rfl rfl hc i pins s3 F H3 X.xe I3 (G fr3) st3 go) fun r s4 ⟨u,hr,h4⟩=>?_);subst hr;refine Qec hp (thn h4 fun _ s5 ⟨x,H5,I5,r5,y5,st5,fr5⟩=>?_);have I5':=I5.pinned (G fr5) (T.obj _ _ st5);refine Qec hp (thn (hg _ s5 F H5 x u _ I5' r5 (step x H5 y5)) fun _ s6 ⟨σ6,H6,I6,q6⟩=>?_);refine Qec hp (thn (Z _ s6 σ6 H6 _ I6 q6) fun f s7 q7=>?_);have again:∀{q:St} {C:Hp},Inv X (pins++vA fp s5.heap) q C s7->N q C->∃m,m<n/\∃i Y H',Inv X pins Y H' s7/\tn i s7.heap/\(∀b∈fp,H' b=none)/\W i m Y H':=fun{q C} O n7=>by
   obtain⟨m',hm,w7⟩:=hN q C n7;refine⟨m',hm,i+1,q,C,O.unpinned,T.keep _ _ _ st5 fun b Z o e=>(O.pin (b,o) (Qaz _ (Qaz _ (Js Z e)))).1,fun b Z=>?_,w7⟩;obtain⟨o,e,d⟩:=T.obj _ _ st5 b Z;exact(O.pin (b,o) (Qaz _ (Qaz _ (Js Z e)))).2.1
  cases f with
  |next=>obtain⟨q,C,O,n7⟩:=q7;exact again O n7
  |cont=>obtain⟨q,C,O,n7⟩:=q7;exact again O n7
  |brk=>obtain⟨q,C,O,q7⟩:=q7;exact⟨q,C,O.unpinned,q7⟩
  |ret v=>obtain⟨x7,q,C,O,r7,q7⟩:=q7;exact⟨x7,q,C,O.unpinned,r7,q7⟩
end
theorem x9{xs:A0}{g:TG}{tb:TS}{D:Ends}{σ:St}{H:Hp}(q:Nat->St->Hp->Prop)(I:q 0 σ H)(F:∀i σ H,i<=xs.length->q i σ H->SqL K H a xs)
  (J:∀i x σ H,xs[i]?=some x->q i σ H->g x σ H fun C H2=>tb {D with nx:=q (i+1),ct:=q (i+1),bk:=D.nx} C H2) (G:∀σ H,q xs.length σ H->D.nx σ H):
  Zgm (Itl K a) g tb D σ H:=
 qH xs.length q I (fun i σ H hi p=>⟨⟨xs,xs[i],F i σ H (Qau hi) p,Qac hi⟩,fun x H' ⟨e,y⟩=>e ▸ J i x σ H (y xs (F i σ H (Qau hi) p)) p⟩) fun σ H p=>⟨⟨xs,F _ σ H (Qah _) p,Qah _⟩,G σ H p⟩
theorem WX{xs:A0}{g:TG}{tb:TS}{D:Ends}{σ:St}{H:Hp}(q:Nat->St->Hp->Prop)(I:q 0 σ H)(F:∀i σ H,i<=xs.length->q i σ H->SqT K H a xs)
  (J:∀i x σ H,xs[i]?=some x->q i σ H->g x σ H fun C H2=>tb {D with nx:=q (i+1),ct:=q (i+1),bk:=D.nx} C H2) (G:∀σ H,q xs.length σ H->D.nx σ H):
  Zgm (Itt K a) g tb D σ H:=
 qH xs.length q I (fun i σ H hi p=>⟨⟨xs,xs[i],F i σ H (Qau hi) p,Qac hi⟩,fun x H' ⟨e,y⟩=>e ▸ J i x σ H (y xs (F i σ H (Qau hi) p)) p⟩) fun σ H p=>⟨⟨xs,F _ σ H (Qah _) p,Qah _⟩,G σ H p⟩
theorem Wb{lo:Int}{g:TG}{tb:TS}{D:Ends}{σ:St}{H:Hp}(q:Nat->St->Hp->Prop)(G:q 0 σ H)
  (I:∀i σ H,i<n->q i σ H->g (.int (lo+i)) σ H fun C H2=>tb {D with nx:=q (i+1),ct:=q (i+1),bk:=D.nx} C H2) (F:∀σ H,q n σ H->D.nx σ H):
  Zgm (Itr lo n) g tb D σ H:=
 qH n q G (fun i σ H hi p=>⟨hi,fun x H' ⟨e,y⟩=>by subst e y;exact I i σ _ hi p⟩) fun σ H p=>⟨Qah _,F σ H p⟩
abbrev R2:=V->V->Hp->VK->Prop
def OpR(X:Cx)(f:As->Value->Sem As)(r:R2):Prop:=
 ∀(pins:Ac) (s:Aq) (σ:St) (H:Hp) (x y:V) (v u:As) (Q:VK),Inv X pins σ H s->RelV x v->RelV y u->r x y H Q->
  A2 X (f v u) (EP X pins σ Q) X.xe s
def UnR(X:Cx)(f:As->Sem As)(r:V->Hp->VK->Prop):Prop:=
 ∀(pins:Ac) (s:Aq) (σ:St) (H:Hp) (x:V) (v:As) (Q:VK),Inv X pins σ H s->RelV x v->r x H Q->
  A2 X (f v) (EP X pins σ Q) X.xe s
def X3(X:Cx)(f:As)(r:A0->Hp->VK->Prop):Prop:=
 ∀(pins:Ac) (s:Aq) (σ:St) (H:Hp) (xs:A0) (q:Ag) (Q:VK),Inv X pins σ H s->Vals xs q->r xs H Q->
  A2 X (call f q) (EP X pins σ Q) X.xe s
def tOp(r:R2)(ta tb:TE):TE:=fun σ H Q=>ta σ H fun x H1=>tb σ H1 fun y H2=>r x y H2 Q
def tUn(r:V->Hp->VK->Prop)(ta:TE):TE:=fun σ H Q=>ta σ H fun x H1=>r x H1 Q
inductive rI_i(C:Int->Int->Prop)(g:Int->Int->V)(x:V)(y:V)(H:Hp)(Q:VK):Prop
 |mk (i j:_):(x=.int i)->(y=.int j)->(C i j)->(Q (g i j) H)->rI_i C g x y H Q
def rI(C:Int->Int->Prop)(g:Int->Int->V):R2:=fun x y H Q=>rI_i C g x y H Q
inductive Zny(g:Int->Int->V)(x:V)(y:V)(H:Hp)(Q:VK):Prop
 |mk (i j:_):(x=.int i)->(y=.int j)->(Q (g i j) H)->Zny g x y H Q
def rI0(g:Int->Int->V):R2:=fun x y H Q=>Zny g x y H Q
inductive rU_i(g:Int->V)(x:V)(H:Hp)(Q:VK):Prop
 |mk (i:_):(x=.int i)->(Q (g i) H)->rU_i g x H Q
def rU(g:Int->V):V->Hp->VK->Prop:=fun x H Q=>rU_i g x H Q
section
variable {X:Cx}{a b c:Av}{ta tb tc:TE}{pos:Pos}
def binT(ha:PE X a ta)(hb:PE X b tb){σ:St}{H:Hp}{R:V->V->Hp->Prop}(I:Inv X r σ H s)
  (h:ta σ H fun x H1=>tb σ H1 fun y H2=>R x y H2)  {f:As->Value->Sem As}
  (O:∀v u C x y H2,Inv X r σ H2 C->RelV x v->RelV y u->R x y H2->A2 X (f v u) Q X.xe C):
  A2 X (eval a X.env) (fun v q=>A2 X (eval b X.env) (fun u s₂=>A2 X (f v u) Q X.xe s₂) X.xe q) X.xe s:=by
 refine thn (ha r s σ H _ I h) fun v J ⟨x,H1,Z,F,q1⟩=>?_;refine thn (hb r J σ H1 _ Z q1) fun u C ⟨y,H2,G,Y,D⟩=>?_;exact O v u C x y H2 G F Y D
def pe_op{op:Operator}{r:R2}(J:OpR X (binaryOp op) r)(G:PE X a ta)(Y:PE X b tb):PE X (.BinOp a op b pos) (tOp r ta tb):=by
 intro pins s σ H Q I h;exact wpAny_BinOp (binT G Y I h fun v u D x y H2 C O F q=>J pins D σ H2 x y v u Q C O F q)
def pe_un{op:UnaryOp}{r:V->Hp->VK->Prop}(G:UnR X (unaryOp op) r)(D:PE X a ta):PE X (.UnaryOp op a pos) (tUn r ta):=by
 intro pins s σ H Q I h;exact UnaryOp_ (thn (D pins s σ H _ I h) fun v J ⟨x,H1,q,C,F⟩=>G pins J σ H1 x v Q q C F)
def opI{f:As->Value->Sem As}{C:Int->Int->Prop}{g:Int->Int->Int}
  (rule:∀(i j:Int) (t u:Tok) (s:Aq) (Q:Ab) (E:Ab),C i j->Q (.int (g i j) s.toks) {s with toks:=s.toks+1}->A2 X (f (.int i t) (.int j u)) Q E s):
  OpR X f (rI C fun i j=>.int (g i j)):=by
 intro pins s σ H x y v u Q I G F h;obtain⟨i,j,rfl,rfl,D,q⟩:=h;obtain⟨t,rfl⟩:=G;obtain⟨t',rfl⟩:=F;exact rule i j t t' s _ _ D ⟨.int (g i j),H,I.tok _,⟨_,rfl⟩,q⟩
def Znz{f:As->Value->Sem As}{g:Int->Int->Int}
  (rule:∀(i j:Int) (t u:Tok) (s:Aq) (Q:Ab) (E:Ab),Q (.int (g i j) s.toks) {s with toks:=s.toks+1}->A2 X (f (.int i t) (.int j u)) Q E s):
  OpR X f (rI0 fun i j=>.int (g i j)):=by
 intro pins s σ H x y v u Q I D C h;obtain⟨i,j,rfl,rfl,q⟩:=h;obtain⟨t,rfl⟩:=D;obtain⟨t',rfl⟩:=C;exact rule i j t t' s _ _ ⟨.int (g i j),H,I.tok _,⟨_,rfl⟩,q⟩
def Zpb{f:As->Value->Sem As}{g:Int->Int->Bool}
  (rule:∀(i j:Int) (t u:Tok) (s:Aq) (Q:Ab) (E:Ab),Q (.bool (g i j)) s->A2 X (f (.int i t) (.int j u)) Q E s):
  OpR X f (rI0 fun i j=>.bl (g i j)):=by
 intro pins s σ H x y v u Q I D C h;obtain⟨i,j,rfl,rfl,q⟩:=h;obtain⟨t,rfl⟩:=D;obtain⟨t',rfl⟩:=C;exact rule i j t t' s _ _ ⟨.bl (g i j),H,I,rfl,q⟩
def CPow(i j:Int):Prop:=0<=j/\j<=1000000/\i.natAbs<2^64
def CMul(i j:Int):Prop:=(-(2^64)<i/\i<2^64)\/(-(2^64)<j/\j<2^64)
def CMul.ok{i j:Int}(h:CMul i j):IntMulOk i j:=by
 rcases h with⟨h1,h2⟩|⟨h1,h2⟩
 ·exact .of_left (intBits_le_64 h1 h2)
 ·exact .of_right (intBits_le_64 h1 h2)
def two_pow_nn(k:Nat):(0:Int)<=2^k:=by grind
def Yz:OpR X (binaryOp .Add) (rI0 fun i j=>.int (i+j)):=Znz fun _ _ _ _ _ _ _ q=>add_int q
def JG:OpR X (binaryOp .Sub) (rI0 fun i j=>.int (i-j)):=Znz fun _ _ _ _ _ _ _ q=>sub_int q
theorem ZN:OpR X (binaryOp .Mod) (rI (fun _ j=>0<j) fun i j=>.int (i%j)):=opI fun i j _ _ _ _ _ C q=>by
 exact mod_int' (by lia) (by grind)
def Zi5:OpR X (binaryOp .Pow) (rI CPow fun i j=>.int (i^j.toNat)):=opI fun _ _ _ _ _ _ _ C q=>pow_int_small C.1 C.2.1 C.2.2 q
def Zc4:OpR X (binaryOp .LShift) (rI CPow fun i j=>.int (i*2^j.toNat)):=opI fun _ _ _ _ _ _ _ C q=>lshift_int_small C.1 C.2.1 C.2.2 q
theorem jI:OpR X (binaryOp .RShift) (rI (fun _ j=>0<=j) fun i j=>.int (i/2^j.toNat)):=opI fun i j _ _ _ _ _ C q=>
 rshift_int C (by grind)
def Xc:OpR X (binaryOp .BitAnd) (rI0 fun i j=>.int (Builtin.bitAnd i j)):=Znz fun _ _ _ _ _ _ _ q=>and_int q
def jf:OpR X (binaryOp .BitOr) (rI0 fun i j=>.int (Builtin.bitOr i j)):=Znz fun _ _ _ _ _ _ _ q=>or_int q
def xO:OpR X (binaryOp .BitXor) (rI0 fun i j=>.int (Builtin.bitXor i j)):=Znz fun _ _ _ _ _ _ _ q=>xor_int q
def unI{f:As->Sem As}{g:Int->Int}
  (rule:∀(i:Int) (t:Tok) (s:Aq) (Q:Ab) (E:Ab),Q (.int (g i) s.toks) {s with toks:=s.toks+1}->A2 X (f (.int i t)) Q E s):
  UnR X f (rU fun i=>.int (g i)):=by
 intro pins s σ H x v Q I C h;obtain⟨i,rfl,q⟩:=h;obtain⟨t,rfl⟩:=C;exact rule i t s _ _ ⟨.int (g i),H,I.tok _,⟨_,rfl⟩,q⟩
def Xz:UnR X (unaryOp .USub) (rU fun i=>.int (-i)):=unI fun _ _ _ _ _ q=>neg_int q
def xP:UnR X (unaryOp .Invert) (rU fun i=>.int (Builtin.bitNot i)):=unI fun _ _ _ _ _ q=>invert_int q
end
def scal:V->V->Bool
 |.non,.non=>true|.non,.int _=>true|.int _,.non=>true|.non,.bl _=>true|.bl _,.non=>true|.non,.str _=>true|.str _,.non=>true
 |.int _,.int _=>true|.bl _,.bl _=>true|.str _,.str _=>true|.byt _,.byt _=>true
 |.int _,.str _=>true|.str _,.int _=>true|.bl _,.str _=>true|.str _,.bl _=>true
 |_,_=>false
inductive Zn0(x:V)(y:V)(H:Hp)(Q:VK):Prop
 |mk  : (scal x y=true)->(Q (.bl (decide (x=y))) H)->Zn0 x y H Q
def rEq  : R2:=fun x y H Q=>Zn0 x y H Q
inductive Zn1(x:V)(y:V)(H:Hp)(Q:VK):Prop
 |mk  : (scal x y=true)->(Q (.bl (!decide (x=y))) H)->Zn1 x y H Q
def rNe  : R2:=fun x y H Q=>Zn1 x y H Q
def Zc5{i j:Int}:decide (V.int i=V.int j)=(i == j):=by grind
def Zi6{i j:Bool}:decide (V.bl i=V.bl j)=(i == j):=by grind
def Zc6{i j:Str}:decide (V.str i=V.str j)=(i == j):=by grind
def Zc7{i j:Array UInt8}:decide (V.byt i=V.byt j)=(i.toList == j.toList):=by
 rw[Qc2];cases i;cases j;simp
section
variable {X:Cx}{a b c:Av}{ta tb tc:TE}{pos:Pos}
def ZO{σ:St}{H:Hp}{Q:VK}{k:Bool}(I:Inv X r σ H s)(q:Q (.bl k) H)(e:k=l):EP X r σ Q (.bool l) s:=by
 subst e;exact⟨.bl k,H,I,rfl,q⟩
def Ys:OpR X (compareOp .Eq) rEq:=by
 intro pins s σ H x y v u Q I F C h;obtain⟨D,q⟩:=h;cases x with
 |non=>
  cases F;cases y with
  |non=>cases C;exact PySem.EqNone.eq_none_none (ZO I q (by simp))
  |bl j=>cases C;exact PySem.EqNone.eq_none_bool (ZO I q (by simp))
  |int j=>obtain⟨t',rfl⟩:=C;exact PySem.EqNone.eq_none_int (ZO I q (by simp))
  |str j=>obtain⟨t',rfl⟩:=C;exact PySem.EqNone.eq_none_str (ZO I q (by simp))
  |_=>exact absurd (show false=true from D) Qa6
 |bl i=>
  cases F;cases y with
  |non=>cases C;exact PySem.EqNone.eq_bool_none (ZO I q (by simp))
  |bl j=>cases C;exact eq_bool (ZO I q Zi6)
  |str j=>obtain⟨t',rfl⟩:=C;exact PySem.EqMixed.eq_bool_str (ZO I q (by simp))
  |_=>exact absurd (show false=true from D) Qa6
 |int i=>
  obtain⟨t,rfl⟩:=F;cases y with
  |non=>cases C;exact PySem.EqNone.eq_int_none (ZO I q (by simp))
  |int j=>obtain⟨t',rfl⟩:=C;exact eq_int (ZO I q Zc5)
  |str j=>obtain⟨t',rfl⟩:=C;exact PySem.EqMixed.eq_int_str (ZO I q (by simp))
  |_=>exact absurd (show false=true from D) Qa6
 |str i=>
  obtain⟨t,rfl⟩:=F;cases y with
  |non=>cases C;exact PySem.EqNone.eq_str_none (ZO I q (by simp))
  |bl j=>cases C;exact PySem.EqMixed.eq_str_bool (ZO I q (by simp))
  |int j=>obtain⟨t',rfl⟩:=C;exact PySem.EqMixed.eq_str_int (ZO I q (by simp))
  |str j=>obtain⟨t',rfl⟩:=C;exact eq_str (ZO I q Zc6)
  |_=>exact absurd (show false=true from D) Qa6
 |byt i=>
  obtain⟨t,rfl⟩:=F;cases y with
  |byt j=>obtain⟨t',rfl⟩:=C;exact PySem.W.eq_bytes (ZO I q Zc7)
  |_=>exact absurd (show false=true from D) Qa6
 |_=>cases y<;>exact absurd (show false=true from D) Qa6
def vC:OpR X (compareOp .NotEq) rNe:=by
 intro pins s σ H x y v u Q I F C h;obtain⟨D,q⟩:=h;cases x with
 |non=>
  cases F;cases y with
  |non=>cases C;exact PySem.EqNone.ne_none_none (ZO I q (by simp))
  |bl j=>cases C;exact PySem.EqNone.ne_none_bool (ZO I q (by simp))
  |int j=>obtain⟨t',rfl⟩:=C;exact PySem.EqNone.ne_none_int (ZO I q (by simp))
  |str j=>obtain⟨t',rfl⟩:=C;exact PySem.EqNone.ne_none_str (ZO I q (by simp))
  |_=>exact absurd (show false=true from D) Qa6
 |bl i=>
  cases F;cases y with
  |non=>cases C;exact PySem.EqNone.ne_bool_none (ZO I q (by simp))
  |bl j=>cases C;exact ne_bool (ZO I q (congrArg not Zi6))
  |str j=>obtain⟨t',rfl⟩:=C;exact PySem.EqMixed.ne_bool_str (ZO I q (by simp))
  |_=>exact absurd (show false=true from D) Qa6
 |int i=>
  obtain⟨t,rfl⟩:=F;cases y with
  |non=>cases C;exact PySem.EqNone.ne_int_none (ZO I q (by simp))
  |int j=>obtain⟨t',rfl⟩:=C;exact ne_int (ZO I q (congrArg not Zc5))
  |str j=>obtain⟨t',rfl⟩:=C;exact PySem.EqMixed.ne_int_str (ZO I q (by simp))
  |_=>exact absurd (show false=true from D) Qa6
 |str i=>
  obtain⟨t,rfl⟩:=F;cases y with
  |non=>cases C;exact PySem.EqNone.ne_str_none (ZO I q (by simp))
  |bl j=>cases C;exact PySem.EqMixed.ne_str_bool (ZO I q (by simp))
  |int j=>obtain⟨t',rfl⟩:=C;exact PySem.EqMixed.ne_str_int (ZO I q (by simp))
  |str j=>obtain⟨t',rfl⟩:=C;exact ne_str (ZO I q (congrArg not Zc6))
  |_=>exact absurd (show false=true from D) Qa6
 |byt i=>
  obtain⟨t,rfl⟩:=F;cases y with
  |byt j=>obtain⟨t',rfl⟩:=C;exact PySem.W.ne_bytes (ZO I q (congrArg not Zc7))
  |_=>exact absurd (show false=true from D) Qa6
 |_=>cases y<;>exact absurd (show false=true from D) Qa6
def yx:OpR X (compareOp .Lt) (rI0 fun i j=>.bl (decide (i<j))):=Zpb fun _ _ _ _ _ _ _ q=>lt_int q
def op_le:OpR X (compareOp .LtE) (rI0 fun i j=>.bl (decide (i<=j))):=Zpb fun _ _ _ _ _ _ _ q=>le_int q
def Zn2:OpR X (compareOp .Gt) (rI0 fun i j=>.bl (decide (j<i))):=Zpb fun _ _ _ _ _ _ _ q=>gt_int q
def Zgy:OpR X (compareOp .GtE) (rI0 fun i j=>.bl (decide (j<=i))):=Zpb fun _ _ _ _ _ _ _ q=>ge_int q
def Zc8:OpR X (compareOp .In) (fun x y H Q=>∃i j,x=.str i/\y=.str j/\Q (.bl (!(Builtin.Str.occurrences j i 0 j.length 1).isEmpty)) H):=by
 intro pins s σ H x y v u Q I D C h;obtain⟨i,j,rfl,rfl,q⟩:=h;obtain⟨t,rfl⟩:=D;obtain⟨t',rfl⟩:=C;exact in_str (ZO I q rfl)
def Zi7:OpR X (compareOp .Is) (fun x y H Q=>y=.non/\Q (.bl (decide (x=.non))) H):=by
 intro pins s σ H x y v u Q I C D h;obtain⟨rfl,q⟩:=h;cases D;refine is_none_gen (ZO I q ?_);cases x<;>first
  |(cases C;rfl)
  |(obtain⟨t,rfl⟩:=C;rfl)
def OpR.or{f:As->Value->Sem As}{r C:R2}(h:OpR X f r)(h':OpR X f C):OpR X f (fun x y H Q=>r x y H Q\/C x y H Q):=by
 intro pins s σ H x y v u Q I F D q;rcases q with q|q
 ·exact h pins s σ H x y v u Q I F D q
 ·exact h' pins s σ H x y v u Q I F D q
def Z3(b:Av){op:CmpOp}(h:op≠.In:=by decide)(h2:op≠.NotIn:=by decide):behindInMarks op b=false:=by
 have e1:(op == CmpOp.In)=false:=by grind
 have e2:(op == CmpOp.NotIn)=false:=by grind
 cases b<;>simp[behindInMarks,e1,e2]
def Zk4{op:CmpOp}{r:R2}(J:OpR X (compareOp op) r)(G:PE X a ta)(Z:PE X b tb)(Y:behindInMarks op b=false):PE X (.Compare a [op] [b] pos) (tOp r ta tb):=by
 intro pins s σ H Q I h;exact wpAny_Compare1 (binT G Z I h fun v u D x y H2 C O F q=>J pins D σ H2 x y v u Q C O F q) Y
inductive Zc9(Q:Bool->Hp->Prop)(x:V)(H':Hp):Prop
 |mk (k:_):(x=.bl k)->(Q k H')->Zc9 Q x H'
def Zn3(t:TE):TT:=fun σ H Q=>t σ H fun x H'=>Zc9 Q x H'
def Zk5{op:CmpOp}{r:R2}(ho:OpR X (compareOp op) r)(ha:PE X a ta)(hb:PE X b tb)(hm:behindInMarks op b=false):PT X (.Compare a [op] [b] pos) (Zn3 (tOp r ta tb)):=by
 intro pins s σ H Q I h;refine wpAny_isTrue_Compare1 (thn (ha pins s σ H _ I h) fun v J ⟨x,H1,Y,C,q1⟩=>thn (hb pins J σ H1 _ Y q1) fun u Z ⟨y,H2,F,O,q⟩=>
  thn (ho pins Z σ H2 x y v u _ F C O q) fun c s3 ⟨z,H3,D,G,k,e,q3⟩=>?_) hm
 subst e;cases G;exact Qc7 ⟨H3,D,q3⟩
def xQ:(sizeLine:Nat)<2^63:=by decide
def qd:OpR X (binaryOp .Add) (fun x y H Q=>∃i j,x=.str i/\y=.str j/\i.length+j.length<=sizeLine/\Q (.str (i++j)) H):=by
 intro pins s σ H x y v u Q I D C h;obtain⟨i,j,rfl,rfl,hz,q⟩:=h;obtain⟨t,rfl⟩:=D;obtain⟨t',rfl⟩:=C;exact add_str (fun t' tk=>⟨.str (i++j),H,I.tok _,⟨_,rfl⟩,q⟩) hz
def vals1{x:V}(r:Vals [x] R):∃u,R=[u]/\RelV x u:=by
 cases r with
 |cons q C=>cases C;exact⟨_,rfl,q⟩
def vals2{x y:V}(r:Vals [x,y] R):∃u q,R=[u,q]/\RelV x u/\RelV y q:=by
 cases r with
 |cons C G=>
  cases G with
  |cons D F=>cases F;exact⟨_,_,rfl,C,D⟩
def uB:X3 X (.builtin "abs") (fun xs H Q=>∃i,xs=[.int i]/\Q (.int (if i<0 then -i else i)) H):=by
 intro pins s σ H xs C Q I r h;obtain⟨i,rfl,q⟩:=h;obtain⟨u,rfl,t,rfl⟩:=vals1 r;exact call_abs_int fun u tk=>⟨.int (if i<0 then -i else i),H,I.tok _,⟨_,rfl⟩,q⟩
def Zda (D:X.calm=true):X3 X (.builtin "min") (fun xs H Q=>∃i j,xs=[.int i,.int j]/\Q (.int (if j<i then j else i)) H):=by
 intro pins s σ H xs G Q I r h;obtain⟨i,j,rfl,q⟩:=h;obtain⟨u,F,rfl,⟨t,rfl⟩,⟨t',rfl⟩⟩:=vals2 r;refine min_two_ints (I.ok.hd D) fun h' tk k=>⟨_,H,I.kept k,?_,q⟩
 by_cases C:j<i
 ·rw[Qba C,Qba C];exact⟨_,rfl⟩
 ·rw[Qa4 C,Qa4 C];exact⟨_,rfl⟩
end
structure ObjM(h:Heap)(x dx C:Au)(mA:Ae):Prop where
 obj:h.get? x=some (PySem.W.instObj C dx)
 ns:h.Ns1 dx mA
 ne:dx≠x
theorem Zdb{h:Heap}{mA:Ae}(n:h.Ns1 f mA):∃od,h.get? f=some od/\∀name,PySem.W.lookIn name od=some (mA name):=by
 obtain⟨o,es,ep,I,D,O,_,J⟩:=n;refine⟨o,I,fun name=>?_⟩;have e:=J name;unfold nsFind findBy at e;rw[<-Array.find?_toList]at e;unfold PySem.W.lookIn;rw[D];dsimp only;split
 ·grind
 ·rename_i q;rw[q]at e;have a:es.toList.any (·.refKey)=false:=by
   rw[List.any_eq_false];intro y G;obtain⟨z,t,C⟩:=O y (Array.mem_toList_iff.mp G);simp[DictEntry.refKey,C]
  have F:¬es.toList.any (·.refKey)=true:=by rw[a];exact Qa6
  rw[Qa4 F];exact congrArg some e
theorem ObjM.look{h:Heap}{x:Au}{mA:Ae}(I:ObjM h x a f mA):∃od,PySem.W.InstAt h x (PySem.W.instObj f a) f (some od)/\∀name,PySem.W.lookIn name od=some (mA name):=
 let⟨od,ho,hl⟩:=Zdb I.ns
 ⟨od,⟨I.obj,rfl,rfl,ho⟩,hl⟩
def yt.some_of{v:V}{o:Option As}(r:yt (some v) o):∃u,o=some u/\RelV v u:=by
 cases o with
 |none=>exact(show False from r).elim
 |some u=>exact⟨u,rfl,r⟩
def yt.none_of{o:Option As}(r:yt none o):o=none:=by
 cases o with
 |none=>rfl
 |some u=>exact(show False from r).elim
section
variable {P:An}{w:Ar}{H H':Hp}{h h':Heap}{a C dx:Au}{fs fs':List (Str×V)}
def Zk6(D:HOk P w H h)(e:H a=some (.ins C dx fs)):∃mA,ObjM h a dx C mA/\(∀f,yt (fs.lookup f) (mA f))/\PySem.Within mA (fs.map (·.1))/\fs.length<=1000/\H dx=some (.own a):=by
 obtain⟨d,z,ne,ob,mA,n,r,q⟩:=(show Yo P w H h a (.ins C dx fs)from D a _ e);exact⟨mA,⟨ob,n,ne⟩,r,q,z,d⟩
end
structure Cls(K:Af)(C:Au):Prop where
 pg:PySem.W.plainGet K C Str.empty=true
 hd:PySem.W.hasDictIn K C=true
 po:PySem.W.plainOver K C=true
 sa:PySem.W.findIn K (.ref C) "__setattr__" = some (some (.builtin "object.__setattr__"))
def Cls.get(c:Cls K a)(f:Str):PySem.W.plainGet K a f=true:=c.pg
section
variable {X:Cx}{pins:Ac}{σ:St}{H:Hp}{s:Aq}{A:Ao}{E:Ab}{Q:Ab}{c:As}{b:Bool}
inductive Za7(K:Af)(H:Hp):V->Value->Prop where
 |non:Za7 K H .non (.type "NoneType")
 |bl (x:Bool):Za7 K H (.bl x) (.type "bool")
 |int (i:Int):Za7 K H (.int i) (.type "int")
 |str (x:Str):Za7 K H (.str x) (.type "str")
 |flt (x:UInt64):Za7 K H (.flt x) (.type "float")
 |lst {a:Au} {xs:A0} (e:H a=some (.lst xs)):Za7 K H (.ref a) (.type "list")
 |frz {a:Au} {o:Obj} {xs:A0} (e:H a=some (.frz o (.lst xs))):Za7 K H (.ref a) (.type "list")
 |tup {a:Au} {xs:A0} (e:H a=some (.tup xs)):Za7 K H (.ref a) (.type "tuple")
 |dK {a:Au} {kvs:Ay} (e:H a=some (.dK kvs)):Za7 K H (.ref a) (.type "dict")
 |dT {a:Au} {kvs:List (List Key×V)} (e:H a=some (.dT kvs)):Za7 K H (.ref a) (.type "dict")
 |ins {a C dx:Au} {fs:List (Str×V)} (e:H a=some (.ins C dx fs)) (cl:Cls K C) (ha:PySem.W.findIn K (.ref C) "__class__" = some (some (.builtin "object.__class__")))
   (hn:PySem.W.specialIn K (.builtin "object.__class__") "__get__" = some (some (.builtin "getset_descriptor.__get__"))) (htk:PySem.W.takesIn K (.builtin "object.__class__")=some true)
   (hm:PySem.W.mroIn K C (.type "object")=some true):Za7 K H (.ref a) (.ref C)
def Zdc{x:V}{u t:As}(I:Inv X pins σ H s)(F:RelV x u)(ty:Za7 X.K H x t)(e:PySem.W.kitOne X.K t c=some b)(h:∀tk,Q (.bool b) {s with toks:=tk}):
  A1 X.prog X.w A (call (.builtin "isinstance") [u,c]) Q E s:=by
 cases ty with
 |non=>cases(show u=Value.none from F);exact Qc3 PySem.W.kitx_none I.kIn True.intro e (fun z=>nomatch z) h
 |bl y=>cases(show u=Value.bool y from F);exact Qc3 PySem.W.kitx_bool I.kIn True.intro e (fun z=>nomatch z) h
 |int i=>obtain⟨t,q⟩:=(show∃t,u=Value.int i t from F);cases q;exact Qc3 PySem.W.kitx_int I.kIn True.intro e (fun z=>nomatch z) h
 |str y=>obtain⟨t,q⟩:=(show∃t,u=Value.str y t from F);cases q;exact Qc3 PySem.W.kitx_str I.kIn True.intro e (fun z=>nomatch z) h
 |flt y=>obtain⟨t,q⟩:=(show∃t,u=Value.float y t from F);cases q;exact Qc3 PySem.W.kitx_float I.kIn True.intro e (fun z=>nomatch z) h
 | @lst a xs D=>
  cases(show u=Value.ref a from F);obtain⟨_,_,n,_,h1⟩:=(show Yo X.prog X.w H s.heap a (.lst xs)from I.hok a _ D);exact Qc3 PySem.W.kitx_list I.kIn ⟨_,h1,rfl⟩ e (fun z=>nomatch z) h
 | @frz a ob xs D=>
  cases(show u=Value.ref a from F);obtain⟨_,_,_,n,_,h1⟩:=(show Yo X.prog X.w H s.heap a (.frz ob (.lst xs))from I.hok a _ D);exact Qc3 PySem.W.kitx_list I.kIn ⟨_,h1,rfl⟩ e (fun z=>nomatch z) h
 | @tup a xs D=>
  cases(show u=Value.ref a from F);obtain⟨_,_,_,p⟩:=(show Yo X.prog X.w H s.heap a (.tup xs)from I.hok a _ D);obtain⟨o,h1,h2,_⟩:=p;exact Qc3 PySem.W.kitx_tuple I.kIn ⟨o,h1,h2⟩ e (fun z=>nomatch z) h
 | @dK a kvs D=>
  cases(show u=Value.ref a from F);obtain⟨_,_,vs,_,p⟩:=(show Yo X.prog X.w H s.heap a (.dK kvs)from I.hok a _ D);obtain⟨o,es,ep,h1,h2,_⟩:=p;exact Qc3 PySem.W.kitx_dict I.kIn ⟨o,h1,h2.1⟩ e (fun z=>nomatch z) h
 | @dT a kvs D=>
  cases(show u=Value.ref a from F);obtain⟨_,_,xs,_,o,es,ep,h1,h2,_⟩:=(show Yo X.prog X.w H s.heap a (.dT kvs)from I.hok a _ D);exact Qc3 PySem.W.kitx_dict I.kIn ⟨o,h1,h2.1⟩ e (fun z=>nomatch z) h
 | @ins a C dx fs D cl Y hn G Z=>
  cases(show u=Value.ref a from F);obtain⟨mA,O,_⟩:=Zk6 I.hok D;obtain⟨od,J,_⟩:=O.look;exact Qc3 (PySem.W.kitx_own (cl.get _) cl.hd Y hn G Z) I.kIn J e (fun z=>nomatch z) h
end
structure WT(k:Nat)(A:Ao):Prop where
 hd:A.handled=none
 dp:A.depth+3*k+5<recursionLimit
 un:A.units+16*k+200<cLine
def WT.mono{j k:Nat}{A:Ao}(r:WT k A)(h:j<=k):WT j A:=⟨r.hd,by have:=r.dp;lia,by have:=r.un;lia⟩
theorem WT.deeper{k:Nat}{A:Ao}(r:WT (k+1) A)(env:Env):WT k (A.deeper env):=
 ⟨r.hd,by have:=r.dp;show A.depth+1+3*k+5<_;lia,by have:=r.un;show A.units+3+16*k+200<_;lia⟩
def WT.depth{k:Nat}{A:Ao}(r:WT k A):A.depth<recursionLimit:=by have:=r.dp;lia
def WT.units{k:Nat}{A:Ao}(r:WT k A):A.units+64<cLine:=by have:=r.un;lia
def WT.units0{k:Nat}{A:Ao}(r:WT k A):A.units<cLine:=by have:=r.un;lia
def Zk7:TA:=fun _ H Q=>Q [] H
def Za8(ta:TE)(q:TA):TA:=fun σ H Q=>ta σ H fun x H1=>q σ H1 fun xs H2=>Q (x::xs) H2
section
variable {X:Cx}{e:Av}{es:Al}{te:TE}{t:TA}{pos:Pos}
def pa_nil:PA X [] Zk7:=fun _ _ _ _ H Q I h=>Qdy ⟨[],H,I,.nil,h⟩
def Zk8(Y:PE X e te)(O:PA X es t)(hs:starEach (e::es) X.env=(false,eval e X.env)::starEach es X.env:=by rfl):PA X (e::es) (Za8 te t):=by
 intro pos pins s σ H Q I h;rw[hs];refine Qcs (thn (Y pins s σ H _ I h) fun u F ⟨x,H1,J,C,Z⟩=>?_);exact thn (O pos pins F σ H1 _ J Z) fun us s2 ⟨xs,H2,D,G,q⟩=>⟨x::xs,H2,D,.cons C G,q⟩
inductive Zi8(Q:VK)(xs:A0)(H1:Hp):Prop
 |mk  : (xs.length<=sizeLine)->(∀p,H1 p=none->Q (.ref p) (upd H1 p (.tup xs)))->Zi8 Q xs H1
def tTup(t:TA):TE:=fun σ H Q=>t σ H fun xs H1=>Zi8 Q xs H1
inductive Zi9(Q:VK)(xs:A0)(H1:Hp):Prop
 |mk  : (xs.length<=sizeLine)->(∀p,H1 p=none->Q (.ref p) (upd H1 p (.lst xs)))->Zi9 Q xs H1
def tLst(t:TA):TE:=fun σ H Q=>t σ H fun xs H1=>Zi9 Q xs H1
def pe_tup{O:_}(h:PA X es t):PE X (.Tuple es O pos) (tTup t):=by
 intro pins s σ H Q I J;refine wpAny_Tuple_spliced (thn (h pos pins s σ H _ I J) fun G C ⟨xs,H1,D,r,z,q⟩=>⟨by rw[<-r.length];exact z,?_⟩);have F:H1 C.heap.objs.size=none:=D.hok.fresh (Qah _);refine⟨.ref C.heap.objs.size,upd H1 C.heap.objs.size (.tup xs),D.laid (t':=C.toks) (fun b u e=>Qab _ e) (Qah _) ?_,rfl,q _ F⟩;exact⟨z,G,r,wG.new _ _⟩
def pe_lst(h:PA X es t):PE X (.List es pos) (tLst t):=by
 intro pins s σ H Q I J;refine wpAny_List_spliced (thn (h pos pins s σ H _ I J) fun G C ⟨xs,H1,D,r,z,q⟩=>⟨by rw[<-r.length];exact z,?_⟩);have F:H1 C.heap.objs.size=none:=D.hok.fresh (Qah _);refine⟨.ref C.heap.objs.size,upd H1 C.heap.objs.size (.lst xs),D.laid (t':=C.toks) (fun b u e=>Qab _ e) (Qah _) ?_,rfl,q _ F⟩;exact⟨z,G,0,r,Qao _ rfl⟩
end
abbrev Sp:=A0->Hp->VK->XK->Prop
abbrev CXT:=List Env->Hp->Shared->XK->Value->Shared->Prop
structure Zk9(P:An)(w:Ar)(K:Af)(mg:Ae)(base:Heap)(A:Ao)(outer:List Env)(s:Aq)(H:Hp):Prop where
 frames:A.frames=some outer
 mod:Mod K mg base
 bs:∀b o,base.get? b=some o->s.heap.get? b=some o/\H b=none
 bsz:base.objs.size<=s.heap.objs.size
 funs:s.heap.FunFrames base outer
 frf:∀b∈frs outer,H b=none
 hok:HOk P w H s.heap
 bare:AllBare s.gens
def CE(outer:List Env)(P:An)(w:Ar)(H:Hp)(s:Aq)(Q:VK)(u:As)(s':Aq):Prop:=
 ∃v H',s'.os=s.os/\AllBare s'.gens/\Un (frs outer) [] H H' s.heap s'.heap/\HOk P w H' s'.heap/\RelV v u/\Q v H'
def CR(CX:CXT)(outer:List Env)(P:An)(w:Ar)(H:Hp)(s:Aq)(Q:VK)(E:XK)(r:Result)(s':Aq):Prop:=
 match r with
 |.ok (.ret u)=>CE outer P w H s Q u s'
 |.ok _=>False
 |.error e=>CX outer H s E e s'
structure Yx(P:An)(w:Ar)(K:Af)(mg:Ae)(base:Heap)(CX:CXT)(k:Nat)(f:Au)(fd:Am)(ps:Ai)(sp:Sp):Prop where
 len:∀vs H Q E,sp vs H Q E->vs.length=ps.length
 run:∀(A:Ao) (outer:List Env) (s:Aq) (H:Hp) (args:Args) (us:Ag) (vs:A0) (Q:VK) (E:XK),WT k A->Zk9 P w K mg base A outer s H->BindsTo s fd args (ps.zip us)->Vals vs us->sp vs H Q E->
  codeAny (model P w) A (.call (.ref f) args) (CR CX outer P w H s Q E) s
section
variable {X:Cx}{pins:Ac}{σ:St}{H:Hp}{s s':Aq}
theorem Inv.env0(I:Inv X pins σ H s):Zk9 X.prog X.w X.K X.mg X.base X.A X.stack s H:=
 ⟨I.ok.frames,I.ok.mod,I.bs,Qa8 I.ok.bsz I.sz,I.stack,I.stkFree,I.hok,I.bare⟩
def Inv.after{Q:VK}{u:As}(I:Inv X pins σ H s)(h:CE X.stack X.prog X.w H s Q u s'):EP X pins σ Q u s':=by
 obtain⟨v,H',os,C,un,F,r,q⟩:=h;obtain⟨hh,g,d,t,D⟩:=s';obtain rfl:D=s.os:=os;exact⟨v,H',I.call (h':=hh) (g':=g) (d':=d) (t':=t) (ch:=[]) un F C (fun b z=>absurd z (by simp)),r,q⟩
end
def Zdd(sp:Sp)(dvs:A0)(E:XK)(t:TA):TE:=fun σ H Q=>t σ H fun vs H1=>sp (vs++dvs) H1 Q E
def Binds(K:Af)(fd:Am)(ps:Ai)(ds:Ag):Prop:=
 ∀(s:Aq) (q:Ag),K.In s.heap->(q++ds).length=ps.length->BindsTo s fd ⟨q,[]⟩ (ps.zip (q++ds))
theorem Binds.all{fd:Am}{ps:Ai}(h:∀q:Ag,q.length=ps.length->bindArgs fd ⟨q,[]⟩=pure (ps.zip q)):Binds K fd ps []:=fun s q _ C=>by
 rw[Qbm]at C ⊢;exact .of_eq (h q C)
def Passes(CX:CXT)(X:Cx)(E:XK):Prop:=∀(pins:Ac) (σ:St) (H:Hp) (s:Aq) (e:As) (s':Aq),Inv X pins σ H s->CX X.stack H s E e s'->X.xe e s'
section
variable {X:Cx}{CX:CXT}{k:Nat}{f C:Au}{fd:Am}{ps:Ai}{sp:Sp}{dvs:A0}{ds:Ag}{E:XK}{x m:Str}{p pos apos:Pos}{e o:Av}{es:Al}{ta:TE}{t:TA}
def run_fn{pins:Ac}{σ:St}{H:Hp}{Q:VK}{vs:A0}(F:Yx X.prog X.w X.K X.mg X.base CX k f fd ps sp)(O:WT k X.A)(Z:Binds X.K fd ps ds)(D:Vals dvs ds)(J:Passes CX X E)
  (I:Inv X pins σ H s) (r:Vals vs R) (h:sp (vs++dvs) H Q E):A2 X (call (.ref f) R) (EP X pins σ Q) X.xe s:=by
 have C:Vals (vs++dvs) (R++ds):=r.append D;have Y:(R++ds).length=ps.length:=by rw[<-C.length];exact F.len _ _ _ _ h
 refine wpAny_call (Qer (F.run X.A X.stack s H ⟨R,[]⟩ (R++ds) (vs++dvs) Q E O I.env0 (Z s R I.kIn Y) C h) fun r s' q=>?_);cases r with
 |error e=>exact J pins σ H s e s' I q
 |ok G=>
  cases G with
  |ret u=>exact I.after q
  |next=>exact False.elim q
  |brk=>exact False.elim q
  |cont=>exact False.elim q
def Zla(F:Yx X.prog X.w X.K X.mg X.base CX k f fd ps sp)(hr:WT k X.A)(O:Gl X x)(hm:X.mg x=some (.ref f))(hk:PySem.W.keepIn X.K (.ref f)=true)(hb:Binds X.K fd ps ds)(J:Vals dvs ds)(Y:Passes CX X E)
  (ha:PA X (e::es) t) (C:(x == ("__debug__" : Str))=false:=by decide) (Z:starEach (e::es) X.env=(false,eval e X.env)::starEach es X.env:=by rfl) (D:(backTo pos (starEach es X.env)).any (·.1)=false:=by rfl):
  PE X (.Call (.Name x p) (e::es) [] pos) (Zdd sp dvs E t):=by
 intro pins s σ H Q I h;refine Qc0 (yw I O hm ?_ C);refine Qgk (h₀:=X.base) I.ok.mod.kin hk (thn (ha pos pins s σ H _ I h) fun us s1 ⟨vs,H1,G,r,q⟩=>⟨G.kIn,?_⟩) Z D;exact run_fn F hr hb J Y G r q
end
structure Zx(N P:Ai)(sc:Scope):Prop where
 kind:sc.kind=.function:=by rfl
 co:sc.isCoroutine=false:=by rfl
 gen:sc.isGenerator=false:=by rfl
 nd:N.Nodup:=by decide +kernel
 pre:N.take P.length=P:=by rfl
 par:∀x∈P,sc.names.lookup x=some .local\/sc.names.lookup x=some .cell:=by decide +kernel
 nofree:∀y∈sc.names,y.2≠.free:=by decide +kernel
theorem vD{kindOf:Str->Option NameKind}{x:Str}:∀{binds:List (Str×As)} {m:Ae},(∀v,(x,v)∉binds)->bindL kindOf binds m x=m x
 |[],_,_=>rfl
 |(n,v)::r,m,h=>by
  unfold bindL;rw[vD fun w hw=>h w (Qak _ hw)];split
  ·grind
  ·rfl
theorem vE{kindOf:Str->Option NameKind}{x:Str}:∀{binds:List (Str×As)} {m:Ae},(∀v,(x,v)∉binds)->bindC kindOf binds m x=m x
 |[],_,_=>rfl
 |(n,v)::r,m,h=>by
  unfold bindC;rw[vE fun w hw=>h w (Qak _ hw)];split
  ·rfl
  ·grind
theorem vF{kindOf:Str->Option NameKind}{x:Str}{v:As}:∀{P:Ai} {vs:Ag} {i:Nat} {m:Ae},P.Nodup->P[i]?=some x->vs[i]?=some v->kindOf x=some .local->
  bindL kindOf (P.zip vs) m x=some v
 |[],_,_,_,_,h,_,_=>by simp at h
 |_::_,[],_,_,_,_,h,_=>by simp at h
 |p::P,w::vs,0,m,nd,h1,h2,q=>by
  simp at h1 h2;subst h1;subst h2;show bindL kindOf ((p,w)::P.zip vs) m p=_;unfold bindL;rw[vD fun v C=>(Qc4.mp nd).1 (Qfg C).1,Qba q];simp
 |p::P,w::vs,i+1,m,nd,h1,h2,q=>by
  unfold bindL;exact vF (i:=i) (Qc4.mp nd).2 (by simpa using h1) (by simpa using h2) q
theorem vG{kindOf:Str->Option NameKind}{x:Str}{v:As}:∀{P:Ai} {vs:Ag} {i:Nat} {m:Ae},P.Nodup->P[i]?=some x->vs[i]?=some v->kindOf x≠some .local->
  bindC kindOf (P.zip vs) m x=some v
 |[],_,_,_,_,h,_,_=>by simp at h
 |_::_,[],_,_,_,_,h,_=>by simp at h
 |p::P,w::vs,0,m,nd,h1,h2,q=>by
  simp at h1 h2;subst h1;subst h2;show bindC kindOf ((p,w)::P.zip vs) m p=_;unfold bindC;rw[vE fun v C=>(Qc4.mp nd).1 (Qfg C).1,Qa4 q];simp
 |p::P,w::vs,i+1,m,nd,h1,h2,q=>by
  unfold bindC;exact vG (i:=i) (Qc4.mp nd).2 (by simpa using h1) (by simpa using h2) q
def start(N:Ai)(vs:A0):St:=vs.map some++List.replicate (N.length-vs.length) none
def Zgn(CX:CXT)(P:An)(w:Ar)(K:Af)(mg:Ae)(base:Heap)(N:Ai)(qual:Str)(scope:Scope)(f:Au)(C:As)(A:Ao)(outer:List Env)(s:Aq)(H:Hp)(E:XK):Cx where
 prog:=P
 w:=w
 K:=K
 mg:=mg
 base:=base
 A:=A.deeper (envOfC qual scope s.heap.objs.size f C)
 N:=N
 s₀:=s
 H₀:=H
 env:=envOfC qual scope s.heap.objs.size f C
 outer:=outer
 stack:=envOfC qual scope s.heap.objs.size f C::outer
 ex:=[]
 calm:=true
 fn:=fun _=>true
 pn:=[]
 xe:=fun e s'=>wpAny (model P w) (A.deeper (envOfC qual scope s.heap.objs.size f C)) (leaving (envOfC qual scope s.heap.objs.size f C) e) (fun _ q=>CX outer H s E e q) (fun D q=>CX outer H s E D q) s'
def xA{C:Scope}(h:C.names.lookup x=some .cell):∃c,(cellsFrom n C.names []).lookup x=some c:=by
 have q:=PySem.W.cellsFrom_some C.names n [] (.inl h);exact Option.isSome_iff_exists.mp q
def Zde{CX:CXT}{mg:Ae}{ps:Ai}{qual:Str}{scope:Scope}{J:As}{A:Ao}{outer:List Env}{Y:Aq}{H:Hp}{E:XK}{vs:A0}
  (S:Zx N ps scope) (hd:A.handled=none) (C:Zk9 P w K mg j A outer s H) (hl:vs.length=ps.length) (r:Vals vs R)
  (x:InCallC s s.heap.objs.size (bindL (envOfC qual scope s.heap.objs.size f J).kindOf (ps.zip R) fun _=>none) (cellsFrom (s.heap.objs.size+1) scope.names []) (bindC (envOfC qual scope s.heap.objs.size f J).kindOf (ps.zip R) fun _=>none) Y):
  Inv (Zgn CX P w K mg j N qual scope f J A outer s H E) [] (start N vs) H Y:=by
 have hpl:ps.length<=N.length:=by have:=congrArg List.length S.pre;rw[Qas]at this;lia
 obtain⟨h1,tk,rfl,O⟩:=x.done;have D:∀b:Au,b∉(Zgn CX P w K mg j N qual scope f J A outer s H E).ex:=fun b z=>absurd (show b∈([]:List Au)from z) (by simp);refine⟨⟨C.mod,S.kind,rfl,rfl,Qah _,fun y z c h1 h2=>?_,fun y G=>?_,fun y c _ h=>?_,fun _=>hd,Qfz C.frames,.inr ⟨rfl,rfl⟩,fun b z=>absurd z (D b),C.bs,C.bsz,fun b _ _=>D b,fun b z=>absurd z (D b),C.funs,C.frf⟩,
  rfl,C.bare,Un.kept O,⟨_,x.toInCall.ns,fun i y v h1 h2 h3=>?_⟩,fun y c h=>⟨_,x.cell y c h⟩,C.hok.fresh (Qah _),fun y c h=>?_,fun p I=>absurd (show p∈([]:Ac)from I) (by simp),C.hok.kept O,?_⟩
 ·exact name_of_addr x.apart (Qcb h1) (Qcb h2)
 ·rcases G with G|G
  ·exact xA G
  ·exact absurd rfl (S.nofree _ (Qcb G))
 ·exact Qau (x.above y c (Qcb h))
 ·have hi:i<vs.length:=by
   unfold start at h2
   by_cases hi:i<vs.length
   ·exact hi
   ·grind
  have ha:vs[i]?=some v:=by
   unfold start at h2;rw[Qbc (by simpa using hi),Qam]at h2;cases e:vs[i]? with
   |none=>rw[e]at h2;cases h2
   |some a=>rw[e]at h2;cases h2;rfl
  obtain⟨u,Z,rv⟩:=r.get ha;have I:ps[i]?=some y:=by
   rw[<-S.pre,List.getElem?_take_of_lt (by lia)];exact h1
  have F:ps.Nodup:=by rw[<-S.pre];exact S.nd.sublist (List.take_sublist _ _)
  refine⟨u,rv,?_⟩;rcases S.par y (Qag I)with k|k
  ·exact .inl ⟨k,vF F I Z k⟩
  ·obtain⟨c,e⟩:=xA (n:=s.heap.objs.size+1) k;refine .inr ⟨.inl k,c,e,?_⟩;have q:=x.cell y c e;rw[vG F I Z (by show scope.names.lookup y≠_;rw[k];decide)]at q;exact q
 ·exact C.hok.fresh (Qau (x.above y c (Qcb h)))
 ·unfold start;show _=N.length;rw[Qaf,Qad,Qbj];lia
def Zn4{CX:CXT}{mg:Ae}{k:Nat}{name qual:Str}{params:Arguments}{body:List Aw}{scope:Scope}{dV kV Z pm C ct oc:As}{an od:Option Au}
  {osl:Array (Option As)} {ps:Ai} {sp:Sp} (lk:K.lookup f=some ⟨oc,od,.func (PySem.W.fnOf name qual params body scope dV kV Z pm an C ct),osl⟩) (hcd:PySem.W.codeIn K C qual=true) (S:Zx N ps scope)
  (len:∀vs H Q E,sp vs H Q E->vs.length=ps.length)
  (F:∀(A:Ao) (outer:List Env) (s:Aq) (H:Hp) (vs:A0) (Q:VK) (E:XK),WT k (A.deeper (envOfC qual scope s.heap.objs.size f C))->sp vs H Q E->
   ∃t,PSs (Zgn CX P w K mg j N qual scope f C A outer s H E) body t/\t {nx:=fun _ H'=>Q .non H',rt:=Q} (start N vs) H):
  Yx P w K mg j CX (k+1) f (PySem.W.fnOf name qual params body scope dV kV Z pm an C ct) ps sp:=by
 refine⟨len,fun A outer s H args us vs Q E hr Y hb r hsp=>?_⟩;have hl:=len _ _ _ _ hsp;have KX:K.In s.heap:=Y.mod.kin.keeps fun b o e=>(Y.bs b o e).1;have lim:s.heap.NoLimit:=Y.mod.nolimit.keeps fun b o e=>(Y.bs b o e).1;have G:∀y∈ps.zip us,scope.names.lookup y.1=some .local\/(scope.names.lookup y.1=some .cell/\((cellsFrom (s.heap.objs.size+1) scope.names []).lookup y.1).isSome=true):=fun⟨n,v⟩ hy=>by
  rcases S.par n (Qfg hy).1 with q|q
  ·exact .inl q
  ·exact .inr ⟨q,PySem.W.cellsFrom_some _ _ _ (.inl q)⟩
 refine codeAny_call_function hr.depth (KX _ _ lk) rfl S.co S.gen rfl (PySem.W.codeRec_of KX hcd) (hb _ _ _ _ ?_);refine wpAny_newFunctionEnv_cells S.kind G fun env he s1 x=>?_;subst he;refine⟨lim.keeps x.toInCall.keep,codeAny_func ?_⟩;obtain⟨t,ht,hq⟩:=F A outer s H vs Q E (hr.deeper _) hsp;have I:Inv (Zgn CX P w K mg j N qual scope f C A outer s H E) [] (start N vs) H s1:=Zde S hr.hd Y hl r x;refine Qde (ht [] s1 (start N vs) H _ I hq) (fun fl s' O=>?_) fun e s' O=>O;have fin:∀{D:St} {H':Hp} {v:V} {u:As},Inv (Zgn CX P w K mg j N qual scope f C A outer s H E) [] D H' s'->RelV v u->Q v H'->CE outer P w H s Q u s':=
  fun{D H' v u} J rv q=>⟨v,H',J.os,J.bare,J.base,J.hok,rv,q⟩
 cases fl with
 |ret u=>
  obtain⟨v,D,H',J,rv,q⟩:=O;exact fin J rv q
 |next=>
  obtain⟨D,H',J,q⟩:=O;exact fin (v:=V.non) (u:=Value.none) J rfl q
 |brk=>
  obtain⟨_,_,_,q⟩:=O;exact False.elim q
 |cont=>
  obtain⟨_,_,_,q⟩:=O;exact False.elim q
section
variable {X:Cx}{x:Str}{p pos:Pos}{e:Av}{es:Al}{t:TA}{id T:String}{r:A0->Hp->VK->Prop}
def tCB(r:A0->Hp->VK->Prop)(t:TA):TE:=fun σ H Q=>t σ H fun vs H1=>r vs H1 Q
def Zgz (Z:X3 X (.builtin id) r) (O:Gl X x) (hm:X.mg x=none) (F:bootBuiltins x=some (.builtin id)) (ha:PA X (e::es) t) (hn:x ≠ "__name__" :=by decide) (q:(x == ("__debug__" : Str))=false:=by decide)
  (he:starEach (e::es) X.env=(false,eval e X.env)::starEach es X.env:=by rfl) (C:(backTo pos (starEach es X.env)).any (·.1)=false:=by rfl):PE X (.Call (.Name x p) (e::es) [] pos) (tCB r t):=by
 intro pins s σ H Q I h;refine Qc0 (JF I O hm F ?_ hn q);exact PyProof.Rows.callWith_builtin1 (thn (ha pos pins s σ H _ I h) fun Y G ⟨vs,H1,J,D,q1⟩=>Z pins G σ H1 vs Y Q J D q1) he C
def Zdf (Z:X3 X (.type T) r) (O:Gl X x) (hm:X.mg x=none) (F:bootBuiltins x=some (.type T)) (ha:PA X (e::es) t) (hn:x ≠ "__name__" :=by decide) (q:(x == ("__debug__" : Str))=false:=by decide)
  (he:starEach (e::es) X.env=(false,eval e X.env)::starEach es X.env:=by rfl) (C:(backTo pos (starEach es X.env)).any (·.1)=false:=by rfl):PE X (.Call (.Name x p) (e::es) [] pos) (tCB r t):=by
 intro pins s σ H Q I h;refine Qc0 (JF I O hm F ?_ hn q);exact Qci (thn (ha pos pins s σ H _ I h) fun Y G ⟨vs,H1,J,D,q1⟩=>Z pins G σ H1 vs Y Q J D q1) he C
end
end L2
variable {X:L2.Cx}
variable {H h:L2.Hp}
variable {u U:List L2.V}
variable {b:L2.Cx}
variable {c:L2.St}
variable {d O:L2.TE}
variable {y:L2.V}
variable {A:L2.TS}
variable {C:L2.TT}
variable {E:L2.Ends}
variable {G:L2.VK}
variable {Y:L2.HO}
namespace HT
open PySem PyProof.Rows
section
variable {prog:An}{w:Ar}{A:Ao}{E:Ab}{s:Aq}
def cat_tup{t b:Au}{vs ws:Ag}(ht:IsTup s.heap t vs.toArray)(hb:IsTup s.heap b ws.toArray)(J:vs≠[])
  (h1:ws=[]->Q (.ref t) s) (h2:ws≠[]->Q (.ref s.heap.objs.size) {s with heap:=s.heap.push {cls:=.type "tuple",data:=.seq (vs++ws).toArray}})
  (hsz:vs.length+ws.length<=sizeLine):A1 prog w A (binaryOp .Add (.ref t) (.ref b)) Q E s:=by
 obtain⟨⟨cls,dd,data,Z⟩,F,hc,n,hd⟩:=id ht;obtain⟨⟨Y,D,data2,C⟩,q,I,O,G⟩:=id hb;subst hc hd I G;have e:vs.toArray++ws.toArray=(vs++ws).toArray:=by simp
 by_cases hw:ws=[]
 ·exact concat_meets ⟨_,F,rfl⟩ ⟨_,q,rfl⟩ Qg5 seq_tuple_add Qfn Qfh (Qfc _ _)
   (tuple_addW1 t b vs.toArray ws.toArray n O dd D Z C (by simpa using J) (by simp[hw])) ⟨F,q,h1 hw⟩
 ·refine concat_meets ⟨_,F,rfl⟩ ⟨_,q,rfl⟩ Qg5 seq_tuple_add Qfn Qfh (Qfc _ _)
   (tuple_addW2 t b vs.toArray ws.toArray n O dd D Z C (by simpa using J) (by simpa using hw) (by grind)) ⟨F,q,?_⟩
  rw[e];exact h2 hw
def sIx(n d:Nat):Option Int->Nat
 |none=>d
 |some v=>if v<0 then(v+(n:Int)).toNat else min v.toNat n
def sIx_none(n d:Nat):sIx n d none=d:=rfl
def sIx_nat(n d k:Nat):sIx n d (some (k:Int))=min k n:=by
 show(if(k:Int)<0 then((k:Int)+(n:Int)).toNat else min (k:Int).toNat n)=min k n;rw[Qa4 (by lia),Qav]
def sIx_le(n d:Nat)(q:d<=n)(o:Option Int):sIx n d o<=n:=by
 cases o with
 |none=>exact q
 |some v=>
  show(if v<0 then(v+(n:Int)).toNat else min v.toNat n)<=n
  by_cases C:v<0
  ·lia
  ·grind
def Zdg(v:Int)(n d:Nat):(if v<0 then max (v+(n:Int)) 0 else min v (n:Int))=((sIx n d (some v):Nat):Int):=by
 show(if v<0 then max (v+(n:Int)) 0 else min v (n:Int))=(((if v<0 then(v+(n:Int)).toNat else min v.toNat n):Nat):Int)
 by_cases q:v<0
 ·lia
 ·lia
def Za9(lo hi:Option Int)(n:Nat):Builtin.Slice.sliceAdjust lo hi 1 (n:Int)=(((sIx n 0 lo:Nat):Int),((sIx n n hi:Nat):Int)):=by
 have h1:¬((1:Int)<0):=by lia
 unfold Builtin.Slice.sliceAdjust;refine Qhe ?_ ?_
 ·cases lo with
  |none=>rfl
  |some v=>exact Zdg v n 0
 ·cases hi with
  |none=>rfl
  |some v=>exact Zdg v n n
def Zba(i j:Nat):Builtin.Slice.slicePlaces (i:Int) (j:Int) 1=j-i:=by
 unfold Builtin.Slice.slicePlaces;split<;>lia
def jJ{o:Option Int}{Q:Option Int->Shared->Prop}(p:IsPart v o)(h:Q o s):A1 prog w A (Builtin.Slice.slicePartIndex v) Q E s:=by
 cases p with
 |none=>exact Qgq h
 |int i t=>exact slicePart_int h
def WC{vu:As}{lo hi:Option Int}{Q:Int×Int×Nat->Shared->Prop}(G:s.heap.IsSliceOf a v vu .none)(pl:IsPart v lo)(D:IsPart vu hi)
  (h:Q (((sIx n 0 lo:Nat):Int),1,sIx n n hi-sIx n 0 lo) s):A1 prog w A (Builtin.Slice.sliceApplied (.ref a) (pure (n:Int))) Q E s:=by
 obtain⟨os,q,F,C⟩:=id G;refine Qaa (Qaa (Qbv q C (x:=v) rfl (Qaa (Qbv q C (x:=vu) rfl (Qaa (Qbv q C (x:=.none) rfl (Qae ?_)))))));refine Qaa (Qgq ?_);refine Qaa (jJ pl (Qaa (jJ D (Qaa (Qae ?_)))));show wpAny _ _ (match Builtin.Slice.sliceAdjust lo hi 1 (n:Int)with|(lo,hi)=>pure (lo,(1:Int),Builtin.Slice.slicePlaces lo hi 1)) _ _ s;rw[Za9 lo hi n];show wpAny _ _ (pure (((sIx n 0 lo:Nat):Int),(1:Int),Builtin.Slice.slicePlaces ((sIx n 0 lo:Nat):Int) ((sIx n n hi:Nat):Int) 1)) _ _ s;rw[Zba];exact Qae h
def Zg0(xs:Ah)(i k:Nat):((List.range k).filterMap fun(m:Nat)=>xs[((i:Int)+(m:Int)*1).toNat]?).toArray=((xs.toList.drop i).take k).toArray:=by
 have e:(fun(m:Nat)=>xs[((i:Int)+(m:Int)*1).toNat]?)=fun m=>xs[i+m]?:=by
  grind
 rw[e];have:=pick_run xs i k;rw[List.filterMap_map]at this;have e2:((fun x=>xs[x]?)∘fun x=>i+x)=fun m=>xs[i+m]?:=rfl;rw[e2]at this;rw[this]
def getItem_tuple_cut{t:Au}{items:Ah}{vu:As}{lo hi:Option Int}(C:IsTup s.heap t items)(J:s.heap.IsSliceOf a v vu .none)(pl:IsPart v lo)(O:IsPart vu hi)
  (hw:¬(sIx items.size 0 lo=0/\sIx items.size items.size hi=items.size))
  (h:Q (.ref s.heap.objs.size) {s with heap:=s.heap.push {cls:=.type "tuple",data:=.seq ((items.toList.drop (sIx items.size 0 lo)).take (sIx items.size items.size hi-sIx items.size 0 lo)).toArray}})
  (hsz:items.size<=sizeLine):A1 prog w A (getItem (.ref t) (.ref a)) Q E s:=by
 have q:sizeOk (.seq ((items.toList.drop (sIx items.size 0 lo)).take (sIx items.size items.size hi-sIx items.size 0 lo)).toArray):=by
  show((items.toList.drop (sIx items.size 0 lo)).take (sIx items.size items.size hi-sIx items.size 0 lo)).toArray.size<=sizeLine;rw[Qax,Qas,Qbt,Qbr];lia
 obtain⟨os,G,D,Y⟩:=id J;have F:s.TypeIs (.ref a) "slice" :=⟨os,G,D⟩;unfold getItem;try with_reducible refine Qcl ?_
 first|refine Qaa (Qae ?_)|skip
 refine Qaa (Qgt C.typeIs (by decide) ?_);refine Qaa (wpAny_callSpecial?_slot (name:=Str.ofString "__getitem__") C.typeIs Qbg
  (Qbn Qbg C.typeIs Qgc ?_ (Qgl _ _)))
 show wpAny _ _ (Builtin.Tuple.tupleItemsOf (.ref t) >>= _) _ _ s;refine Qaa (tupleItemsOf_ C ?_);refine Qaa (Qes F ?_);refine Qaa (WC J pl O ?_);have I:¬((((sIx items.size 0 lo:Nat):Int) == 0&&(1:Int) == 1&&(sIx items.size items.size hi-sIx items.size 0 lo) == items.size)=true):=by
  grind
 show wpAny _ _ (if(((sIx items.size 0 lo:Nat):Int) == 0&&(1:Int) == 1&&(sIx items.size items.size hi-sIx items.size 0 lo) == items.size)=true then _ else _) _ _ s;rw[Qa4 I,Zg0]
 first
  |exact Qaa (m:=Builtin.Tuple.tupleExact _) (Qa9 (Qae ⟨_,rfl,Qae h⟩) q)
  |exact Qaa (m:=Builtin.Tuple.tupleExact _) (Qa9 (Qaa (Qae (Qae ⟨_,rfl,Qae h⟩))) q)
  |exact Qaa (Qaa (m:=Builtin.Tuple.tupleExact _) (Qa9 (Qae (Qae ⟨_,rfl,Qae h⟩)) q))
  |exact Qaa (Qaa (m:=Builtin.Tuple.tupleExact _) (Qa9 (Qae ⟨_,rfl,Qae h⟩) q))
end
end HT
namespace L2
abbrev TO:=St->Hp->(Option Int->Hp->Prop)->Prop
def PO(X:Cx)(e:Option Av)(t:TO):Prop:=
 ∀(pins:Ac) (s:Aq) (σ:St) (H:Hp) (Q:Option Int->Hp->Prop),Inv X pins σ H s->t σ H Q->
  A2 X (evalPart e X.env) (fun u s'=>∃o H',Inv X pins σ H' s'/\IsPart u o/\Q o H') X.xe s
def Zdh:TO:=fun _ H Q=>Q none H
inductive Zdi(Q:Option Int->Hp->Prop)(x:V)(H1:Hp):Prop
 |mk (i:_):(x=.int i)->(Q (some i) H1)->Zdi Q x H1
def Zn5(t:TE):TO:=fun σ H Q=>t σ H fun x H1=>Zdi Q x H1
theorem intsAre_of{ns:Ak}:∀{q:Ag},Vals (ns.map V.int) q->IntsAre q ns:=by
 induction ns with
 |nil=>intro q r;cases r;exact .nil
 |cons n ns F=>
  intro q r;cases r with
  |cons C D=>
   obtain⟨t,e⟩:=C;subst e;exact .cons n t (F D)
section
variable {X:Cx}{e:Av}{te:TE}{lo hi:Option Av}{tl th:TO}{pos p2:Pos}
def Zlb:PO X none Zdh:=by
 intro pins s σ H Q I h;exact Qae ⟨none,H,I,.none,h⟩
def Zlc(h:PE X e te):PO X (some e) (Zn5 te):=by
 intro pins s σ H Q I hw;refine thn (h pins s σ H _ I hw) fun u G ⟨x,H1,D,C,F⟩=>?_;obtain⟨i,rfl,q⟩:=F;obtain⟨t,rfl⟩:=C;exact⟨some i,H1,D,.int i t,q⟩
def SlR(X:Cx)(r:V->Option Int->Option Int->Hp->VK->Prop):Prop:=
 ∀(pins:Ac) (s:Aq) (σ:St) (H:Hp) (x:V) (v q vu:As) (lo hi:Option Int) (C:Au) (Q:VK),Inv X pins σ H s->RelV x v->s.heap.IsSliceOf C q vu .none->IsPart q lo->IsPart vu hi->r x lo hi H Q->
  ∃T id,typeLookup (.type T) "__getitem__" = pure (some (.builtin id))/\s.TypeIs v T/\A2 X (getItem v (.ref C)) (EP X pins σ Q) X.xe s
def SlR.or{r D:V->Option Int->Option Int->Hp->VK->Prop}(h:SlR X r)(h':SlR X D):SlR X (fun x lo hi H Q=>r x lo hi H Q\/D x lo hi H Q):=by
 intro pins s σ H x v F vu lo hi J Q I G O pl C q;rcases q with q|q
 ·exact h pins s σ H x v F vu lo hi J Q I G O pl C q
 ·exact h' pins s σ H x v F vu lo hi J Q I G O pl C q
def tSl(r:V->Option Int->Option Int->Hp->VK->Prop)(te:TE)(tl th:TO):TE:=fun σ H Q=>te σ H fun x H1=>tl σ H1 fun l H2=>th σ H2 fun u q=>r x l u q Q
def Zg1{r:V->Option Int->Option Int->Hp->VK->Prop}(hr:SlR X r)(O:PE X e te)(Z:PO X lo tl)(hu:PO X hi th):PE X (.Subscript e (.Slice lo hi none p2) pos) (tSl r te tl th):=by
 intro pins s σ H Q I h;refine Subscript_ (thn (O pins s σ H _ I h) fun v s1 ⟨x,H1,I1,r1,Y⟩=>?_);refine wpAny_Slice (thn (Z pins s1 σ H1 _ I1 Y) fun D s2 ⟨l,H2,J,pl,G⟩=>thn (hu pins s2 σ H2 _ J G) fun vu C ⟨u,F,I3,pu,q3⟩=>?_);refine Qae ?_;have I4:Inv X pins σ F {C with heap:=C.heap.push {cls:=.type "slice",data:=.fields #[D,vu,.none]}}:=I3.kept (t':=C.toks) fun b ob q=>Qab _ q;obtain⟨T,id,hT,ht,hg⟩:=hr pins {C with heap:=C.heap.push {cls:=.type "slice",data:=.fields #[D,vu,.none]}} σ F x v D vu l u C.heap.objs.size Q I4 r1 (Heap.IsSliceOf.new ..) pl pu q3;exact tail_any (ops:=[.ref C.heap.objs.size,v]) ht hT hg (by with_unfolding_all rfl)
def qe(xs:A0)(lo hi:Option Int):A0:=(xs.drop (HT.sIx xs.length 0 lo)).take (HT.sIx xs.length xs.length hi-HT.sIx xs.length 0 lo)
def xR(xs:A0)(lo hi:Option Int):(qe xs lo hi).length<=xs.length:=by
 unfold qe;rw[Qas,Qbt];lia
inductive Zja(K:Af)(x:V)(lo:Option Int)(hi:Option Int)(H:Hp)(Q:VK):Prop
 |mk (a xs:_):(x=.ref a)->(SqT K H a xs)->(¬(HT.sIx xs.length 0 lo=0/\HT.sIx xs.length xs.length hi=xs.length))->(∀p,H p=none->Q (.ref p) (upd H p (.tup (qe xs lo hi))))->Zja K x lo hi H Q
def rSlT(K:Af):V->Option Int->Option Int->Hp->VK->Prop:=fun x lo hi H Q=>Zja K x lo hi H Q
def uC:SlR X (rSlT X.K):=by
 intro pins s σ H x v Z vu lo hi sl Q I O Y pl G h;obtain⟨a,xs,rfl,J,hw,q⟩:=h;cases O;obtain⟨D,r,F,hz⟩:=I.tuple J;have C:D.toArray.size=xs.length:=by exact r.length.symm
 refine⟨"tuple",_,Qbg.lookup,F.typeIs,?_⟩;refine HT.getItem_tuple_cut F Y pl G (by rw[C];exact hw) ?_ (by rw[C];exact hz);rw[C];refine⟨.ref s.heap.objs.size,_,I.laid (t':=s.toks) (o:=.tup (qe xs lo hi)) (fun b ob q=>Qab _ q) (Qah _) ?_,rfl,q _ (I.hok.fresh (Qah _))⟩;exact⟨Qa8 (xR xs lo hi) hz,_,(r.drop (HT.sIx xs.length 0 lo)).take (HT.sIx xs.length xs.length hi-HT.sIx xs.length 0 lo),wG.new _ _⟩
def Vals.nil_iff{xs:A0}(r:Vals xs R):R=[]↔xs=[]:=by
 cases r with
 |nil=>simp
 |cons _ _=>simp
end
def ixN(n:Nat)(i:Int):Option Nat:=if 0<=i then(if i<n then some i.toNat else none)else if -(n:Int)<=i then some (i+n).toNat else none
def atI(xs:List m)(i:Int):Option m:=(ixN xs.length i).bind fun j=>xs[j]?
def Zld{i:Int}{j:Nat}(h:ixN n i=some j):seqIndex? i n=some j/\j<n/\-(n:Int)<=i/\i<n:=by
 unfold ixN at h
 by_cases q:0<=i
 ·rw[Qba q]at h
  by_cases h1:i<n
  ·rw[Qba h1]at h;have e:i.toNat=j:=Option.some.inj h;exact⟨by rw[seqIndex_of q h1,e],by lia,by lia,h1⟩
  ·rw[Qa4 h1]at h;cases h
 ·rw[Qa4 q]at h
  by_cases h1:-(n:Int)<=i
  ·rw[Qba h1]at h;have e:(i+n).toNat=j:=Option.some.inj h;exact⟨by rw[seqIndex_neg (by lia) h1,e],by lia,h1,by lia⟩
  ·rw[Qa4 h1]at h;cases h
def wL{xs:List m}{i:Int}{v:m}(h:atI xs i=some v):∃j,seqIndex? i xs.length=some j/\xs[j]?=some v/\j<xs.length/\-(xs.length:Int)<=i/\i<xs.length:=by
 unfold atI at h;cases e:ixN xs.length i with
 |none=>rw[e]at h;cases h
 |some j=>
  rw[e]at h;obtain⟨h1,h2,C,q⟩:=Zld e;exact⟨j,h1,h,h2,C,q⟩
def Ya{xs:List m}{j:Nat}{v:m}(h:xs[j]?=some v):atI xs (j:Int)=some v:=by
 have q:j<xs.length:=(Qai.mp h).1;have e:ixN xs.length (j:Int)=some j:=by
  unfold ixN;rw[Qba (by lia),Qba (by lia)];simp
 unfold atI;rw[e];exact h
def yy(xs:List m)(v:m):atI (xs++[v]) (-1)=some v:=by
 have q:(xs++[v]).length=xs.length+1:=by simp
 have e:ixN (xs++[v]).length (-1)=some xs.length:=by
  unfold ixN;rw[q,Qa4 (by decide),Qba (by lia)];congr 1;lia
 unfold atI;rw[e];simp
def Zdj(b:Av):Prop:=∀o i,subscripted b false o i=operate [o,i] (getItem o i)
def IxR(X:Cx)(r:R2):Prop:=
 ∀(value q:Av) (pins:Ac) (s:Aq) (σ:St) (H:Hp) (x y:V) (v u:As) (Q:VK),Inv X pins σ H s->RelV x v->RelV y u->r x y H Q->
  subscripted q false v u=operate [v,u] (getItem v u)->A2 X (subscriptTail value q v u) (EP X pins σ Q) X.xe s
def MtR(X:Cx)(id:String)(r:V->List V->Hp->VK->Prop):Prop:=
 ∀(pins:Ac) (s:Aq) (σ:St) (H:Hp) (x:V) (xs:A0) (v:As) (q:Ag) (Q:VK),Inv X pins σ H s->RelV x v->Vals xs q->r x xs H Q->
  A2 X (call (.builtin id) (v::q)) (EP X pins σ Q) X.xe s
section
variable {X:Cx}{a b:Av}{ta tb:TE}{pos:Pos}
def pe_ix{r:R2}(G:IxR X r)(J:PE X a ta)(Z:PE X b tb)(Y:Zdj b):PE X (.Subscript a b pos) (tOp r ta tb):=by
 intro pins s σ H Q I h;exact Subscript_ (binT J Z I h fun v u D x y H2 C O F q=>G a b pins D σ H2 x y v u Q C O F q (Y _ _))
inductive Zjb(K:Af)(x:V)(y:V)(H:Hp)(Q:VK):Prop
 |mk (p xs i v:_):(x=.ref p)->(y=.int i)->(SqL K H p xs)->(atI xs i=some v)->(Q v H)->Zjb K x y H Q
def Zn6(K:Af):R2:=fun x y H Q=>Zjb K x y H Q
inductive Zjc(K:Af)(x:V)(y:V)(H:Hp)(Q:VK):Prop
 |mk (p xs i v:_):(x=.ref p)->(y=.int i)->(SqT K H p xs)->(atI xs i=some v)->(Q v H)->Zjc K x y H Q
def Zgo(K:Af):R2:=fun x y H Q=>Zjc K x y H Q
inductive Zjd(x:V)(y:V)(H:Hp)(Q:VK):Prop
 |mk (z i c:_):(x=.str z)->(y=.int i)->(z.length<=sizeLine)->(atI z.cps.toList i=some c)->(Q (.str ⟨#[c]⟩) H)->Zjd x y H Q
def rIxS  : R2:=fun x y H Q=>Zjd x y H Q
def Z2:IxR X (Zn6 X.K):=by
 intro value F pins s σ H x y v u Q I rx ry h O;obtain⟨p,xs,i,z,rfl,rfl,hq,he,q⟩:=h;cases rx;obtain⟨t,rfl⟩:=ry;obtain⟨G,r,pl,hz⟩:=I.list hq;obtain⟨j,h1,h2,h3,h4,Z⟩:=wL he;obtain⟨w,Y,C⟩:=r.get h2;have hl:=r.length;have hn:=xQ;have fin:EP X pins σ Q w s:=⟨z,H,I,C,q⟩
 by_cases J:0<=i
 ·have D:i.toNat=j:=by
   rw[seqIndex_of J Z]at h1;exact Option.some.inj h1
  exact item_listR pl.isList J (by lia) (by rw[D];simpa using Y) fin O
 ·have D:(i+(G.toArray.size:Int)).toNat=j:=by
   rw[seqIndex_neg (by lia) h4]at h1;rw[Qax,<-hl];exact Option.some.inj h1
  exact subscriptTail_builtinR (x:=w) pl.isList.typeIs slot_list_getitem.lookup
   (wpAny_getItem_list_neg (Q:=fun r s'=>r=w/\EP X pins σ Q r s') pl.isList (by lia) (by rw[Qax]<;>lia) (by lia) (by rw[D];simpa using Y) ⟨rfl,fin⟩) O
def Zr:IxR X (Zgo X.K):=by
 intro value D pins s σ H x y v u Q I G ry h J;obtain⟨p,xs,i,z,rfl,rfl,O,F,q⟩:=h;cases G;obtain⟨t,rfl⟩:=ry;obtain⟨its,r,pl,hz⟩:=I.tuple O;obtain⟨j,h1,h2,h3,h4,h5⟩:=wL F;obtain⟨w,Z,C⟩:=r.get h2;have Y:=r.length;have hn:=xQ;have fin:EP X pins σ Q w s:=⟨z,H,I,C,q⟩;exact subscriptTail_builtinR (x:=w) pl.typeIs slot_tuple_getitem.lookup
  (getItem_tuple (j:=j) (Q:=fun r s'=>r=w/\EP X pins σ Q r s') pl (by lia) (by lia) (by rw[Qax,<-Y];exact h1) (by simpa using Z) ⟨rfl,fin⟩) J
def Zdk:IxR X rIxS:=by
 intro value C pins s σ H x y v u Q I O J h Y;obtain⟨z,i,c,rfl,rfl,hz,F,q⟩:=h;obtain⟨t,rfl⟩:=O;obtain⟨t',rfl⟩:=J;obtain⟨j,h1,h2,h3,G,D⟩:=wL F;have Z:z.cps.toList.length=z.length:=by simp[Str.length]
 rw[Z]at h1 G D;have hn:=xQ;exact tail_any (typeIs_str s z t) slot_str_getitem.lookup (getItem_str (c:=c) (by
  grind) (by rw[h1];simpa using h2) ⟨.str ⟨#[c]⟩,H,I.tok _,⟨_,rfl⟩,q⟩) Y
def vH(lo hi:Option Int)(n:Nat):(sliceBounds lo hi none n).1=((HT.sIx n 0 lo:Nat):Int)/\(sliceBounds lo hi none n).2.1=((HT.sIx n n hi:Nat):Int)/\(sliceBounds lo hi none n).2.2=1:=by
 refine⟨?_,?_,rfl⟩
 ·cases lo with
  |none=>simp[sliceBounds,HT.sIx]
  |some i=>
   simp only[sliceBounds,HT.sIx,Option.getD_none,show(1:Int)>0 by decide,if_true]
   by_cases h:i<0
   ·skip<;>lia
   ·skip<;>lia
 ·cases hi with
  |none=>simp[sliceBounds,HT.sIx]
  |some i=>
   simp only[sliceBounds,HT.sIx,Option.getD_none,show(1:Int)>0 by decide,if_true]
   by_cases h:i<0
   ·skip<;>lia
   ·skip<;>lia
def yz(q:Ag)(lo hi:Option Int):slicePick q.toArray lo hi none=((q.drop (HT.sIx q.length 0 lo)).take (HT.sIx q.length q.length hi-HT.sIx q.length 0 lo)).toArray:=by
 obtain⟨h1,h2,C⟩:=vH lo hi q.toArray.size;unfold slicePick;rw[h1,h2,C];simp only[sliceRange_one,pick_run,Qax]<;>rfl
inductive Zje(K:Af)(x:V)(lo:Option Int)(hi:Option Int)(H:Hp)(Q:VK):Prop
 |mk (a xs:_):(x=.ref a)->(SqL K H a xs)->(∀p,H p=none->Q (.ref p) (upd H p (.lst (qe xs lo hi))))->Zje K x lo hi H Q
def rSlL(K:Af):V->Option Int->Option Int->Hp->VK->Prop:=fun x lo hi H Q=>Zje K x lo hi H Q
def JW:SlR X (rSlL X.K):=by
 intro pins s σ H x v Z vu lo hi sl Q I J O pl F h;obtain⟨a,xs,rfl,G,q⟩:=h;cases J;obtain⟨Y,r,D,hz⟩:=I.list G;have C:=r.length;refine⟨"list",_,slot_list_getitem.lookup,D.isList.typeIs,?_⟩;refine wpAny_getItem_list_slice D.isList O pl F .none (by simp) ?_ (by rw[Qax]<;>lia);rw[yz,<-C];refine⟨.ref s.heap.objs.size,_,I.laid (t':=s.toks) (o:=.lst (qe xs lo hi)) (fun b ob q=>Qab _ q) (Qah _) ?_,rfl,q _ (I.hok.fresh (Qah _))⟩;exact⟨Qa8 (xR xs lo hi) hz,_,0,(r.drop (HT.sIx xs.length 0 lo)).take (HT.sIx xs.length xs.length hi-HT.sIx xs.length 0 lo),Qao _ rfl⟩
def Xb:V->Bool
 |.non=>true
 |.bl _=>true
 |.int _=>true
 |.str _=>true
 |_=>false
def eqV:V->V->Bool
 |.non,.non=>true
 |.bl a,.bl b=>a == b
 |.bl a,.int b=>(if a then 1 else 0) == b
 |.int a,.bl b=>a == (if b then 1 else 0)
 |.int a,.int b=>a == b
 |.str a,.str b=>a == b
 |_,_=>false
def vI{A:Ao}{x:V}{u:As}(C:RelV y u)(q:RelV x v)(D:Xb y=true)(fx:Xb x=true):SeqAt.EqAt A s u v (eqV y x):=by
 cases y with
 |non=>
  cases C;cases x with
  |non=>cases q;exact Qet _
  |bl b=>cases q;exact SeqAt.EqAt.none_bool b
  |int b=>obtain⟨t,rfl⟩:=q;exact SeqAt.EqAt.none_int b t
  |str b=>obtain⟨t,rfl⟩:=q;exact SeqAt.EqAt.none_str b t
  |_=>exact absurd (show false=true from fx) Qa6
 |bl a=>
  cases C;cases x with
  |non=>cases q;exact SeqAt.EqAt.bool_none a
  |bl b=>cases q;exact SeqAt.EqAt.bool_bool a b
  |int b=>obtain⟨t,rfl⟩:=q;exact SeqAt.EqAt.bool_int a b t
  |str b=>obtain⟨t,rfl⟩:=q;exact SeqAt.EqAt.bool_str a b t
  |_=>exact absurd (show false=true from fx) Qa6
 |int a=>
  obtain⟨t',rfl⟩:=C;cases x with
  |non=>cases q;exact SeqAt.EqAt.int_none a t'
  |bl b=>cases q;exact SeqAt.EqAt.int_bool a t' b
  |int b=>obtain⟨t,rfl⟩:=q;exact SeqAt.EqAt.int_int a t' b t
  |str b=>obtain⟨t,rfl⟩:=q;exact SeqAt.EqAt.int_str a t' b t
  |_=>exact absurd (show false=true from fx) Qa6
 |str a=>
  obtain⟨t',rfl⟩:=C;cases x with
  |non=>cases q;exact SeqAt.EqAt.str_none a t'
  |bl b=>cases q;exact SeqAt.EqAt.str_bool a t' b
  |int b=>obtain⟨t,rfl⟩:=q;exact SeqAt.EqAt.str_int a t' b t
  |str b=>obtain⟨t,rfl⟩:=q;exact SeqAt.EqAt.str_str a t' b t
  |_=>exact absurd (show false=true from fx) Qa6
 |_=>exact absurd (show false=true from D) Qa6
def eqU(x:V)(u:As):Bool:=match u with
 |.none=>eqV .non x
 |.bool b=>eqV (.bl b) x
 |.int i _=>eqV (.int i) x
 |.str z _=>eqV (.str z) x
 |_=>false
def Zjf{x:V}{u:As}(r:RelV y u)(f:Xb y=true):eqU x u=eqV y x:=by
 cases y with
 |non=>cases r;rfl
 |bl b=>cases r;rfl
 |int i=>obtain⟨t,rfl⟩:=r;rfl
 |str z=>obtain⟨t,rfl⟩:=r;rfl
 |_=>exact absurd (show false=true from f) Qa6
theorem wM{x:V}:∀{xs:A0} {q:Ag},Vals xs q->xs.all Xb=true->q.any (eqU x)=xs.any fun y=>eqV y x
 |_,_,.nil,_=>rfl
 |y::xs,u::q,.cons r t,f=>by
  rw[Qdm,Qb5]at f;rw[Qf7,Qf7,Zjf r f.1,wM t f.2]
theorem y4{A:Ao}{s:Aq}{x:V}{v:As}(D:RelV x v)(fx:Xb x=true):∀{xs:A0} {C:Ag},Vals xs C->xs.all Xb=true->∀u∈C,SeqAt.EqAt A s u v (eqU x u)
 |_,_,.nil,_=>fun u q=>by cases q
 |y::xs,u::C,.cons r t,f=>fun F q=>by
  rw[Qdm,Qb5]at f;rcases Qaq.mp q with rfl|q
  ·rw[Zjf r f.1];exact vI r D f.1 fx
  ·exact y4 D fx t f.2 F q
def inV(x:V)(xs:A0):Bool:=xs.any fun y=>eqV y x
inductive Zn7(K:Af)(neg:Bool)(x:V)(y:V)(H:Hp)(Q:VK):Prop
 |mk (p xs:_):(y=.ref p)->((SqL K H p xs\/SqT K H p xs))->(Xb x=true)->(xs.all Xb=true)->(Q (.bl (if neg then !inV x xs else inV x xs)) H)->Zn7 K neg x y H Q
def rIn(K:Af)(neg:Bool):R2:=fun x y H Q=>Zn7 K neg x y H Q
def ZW:OpR X (compareOp .In) (rIn X.K false):=by
 intro pins s σ H x y v u Q I F G h;obtain⟨p,xs,rfl,D,fx,fs,q⟩:=h;cases G;rcases D with D|D
 ·obtain⟨C,r,pl,hz⟩:=I.list D;refine SeqAt.in_listAt (eqU x) pl.isList (fun w hw=>y4 F fx r fs w (by simpa using hw)) ⟨.bl _,H,I,rfl,?_⟩;rw[show C.toArray.any (eqU x)=C.any (eqU x) by simp,wM r fs];exact q
 ·obtain⟨C,r,pl,hz⟩:=I.tuple D;refine SeqAt.in_tupleAt (eqU x) pl (fun w hw=>y4 F fx r fs w (by simpa using hw)) ⟨.bl _,H,I,rfl,?_⟩;rw[show C.toArray.any (eqU x)=C.any (eqU x) by simp,wM r fs];exact q
def Zu:X3 X (.builtin "len") (fun xs H Q=>∃p ys,xs=[.ref p]/\(SqL X.K H p ys\/SqT X.K H p ys)/\Q (.int ys.length) H):=by
 intro pins s σ H xs O Q I r h;obtain⟨p,ys,rfl,D,q⟩:=h;obtain⟨u,rfl,J⟩:=vals1 r;cases J;have Y:=xQ;rcases D with D|D
 ·obtain⟨G,F,pl,hz⟩:=I.list D;have C:=F.length;exact Calls.call_len_list pl.isList (by simp only[Qax]<;>lia) ⟨.int ys.length,H,I.tok _,⟨s.toks+1,by rw[Qax,C]⟩,q⟩
 ·obtain⟨G,F,pl,hz⟩:=I.tuple D;have C:=F.length;exact len_tuple pl (by simp only[Qax]<;>lia) ⟨.int ys.length,H,I.tok _,⟨s.toks+1,by rw[Qax,C]⟩,q⟩
def qI:X3 X (.builtin "len") (fun xs H Q=>∃z,xs=[.str z]/\z.length<=sizeLine/\Q (.int z.length) H):=by
 intro pins s σ H xs C Q I r h;obtain⟨z,rfl,hz,q⟩:=h;obtain⟨u,rfl,t,rfl⟩:=vals1 r;have D:=xQ;exact len_str (by lia) ⟨.int z.length,H,I.tok _,⟨_,rfl⟩,q⟩
def vJ:X3 X (.type "list") (fun xs H Q=>∃p ys,xs=[.ref p]/\(SqL X.K H p ys\/SqT X.K H p ys)/\∀l,H l=none->Q (.ref l) (upd H l (.lst ys))):=by
 intro pins s σ H xs us Q I r h;obtain⟨p,ys,rfl,G,q⟩:=h;obtain⟨u,rfl,rx⟩:=vals1 r;cases rx;have fin:∀(C:Ag),Vals ys C->ys.length<=sizeLine->∀(h':Heap) (D:Nat),(∀b o',s.heap.get? b=some o'->h'.get? b=some o')->
   h'.get? s.heap.objs.size=some {cls:=.type "list",dict:=none,data:=.seq C.toArray D,slots:=#[]}->EP X pins σ Q (.ref s.heap.objs.size) {s with heap:=h'}:=fun C F hz h' D kp e=>
  ⟨.ref s.heap.objs.size,_,I.laid (t':=s.toks) kp (Qah _) (show Yo X.prog X.w _ h' _ (.lst ys)from⟨hz,C,D,F,e⟩),rfl,q _ (I.hok.fresh (Qah _))⟩
 rcases G with G|G
 ·obtain⟨C,F,pl,hz⟩:=I.list G;have J:=F.length;obtain⟨o,Z,Y,n,O⟩:=pl.isList;exact call_list_seq p (.inl rfl) Z Y O (fun h' D kp e=>fin C F hz h' D kp e) (by simp only[Qax]<;>lia)
 ·obtain⟨C,F,pl,hz⟩:=I.tuple G;have J:=F.length;obtain⟨o,Z,Y,n,O⟩:=pl;exact call_list_seq p (.inr rfl) Z Y O (fun h' D kp e=>fin C F hz h' D kp e) (by simp only[Qax]<;>lia)
def Z6:X3 X (.type "tuple") (fun xs H Q=>∃p ys,xs=[.ref p]/\((SqL X.K H p ys/\∀l,H l=none->Q (.ref l) (upd H l (.tup ys)))\/(SqT X.K H p ys/\Q (.ref p) H))):=by
 intro pins s σ H xs Z Q I r h;obtain⟨p,ys,rfl,h⟩:=h;obtain⟨u,rfl,Y⟩:=vals1 r;cases Y;rcases h with⟨F,q⟩|⟨F,q⟩
 ·obtain⟨C,D,pl,hz⟩:=I.list F;have G:=D.length;refine call_tuple_list pl.isList (fun h' kp=>?_) (by simp only[Qax]<;>lia);have J:Inv X pins σ H {s with heap:=h'}:=I.kept (t':=s.toks) kp;have O:Inv X pins σ (upd H h'.objs.size (.tup ys)) {s with heap:=h'.push {cls:=.type "tuple",data:=.seq C.toArray}}:=
   J.laid (t':=s.toks) (fun b o e=>Qab _ e) (Qah _) (show Yo X.prog X.w _ _ _ (.tup ys)from⟨hz,C,D,wG.new _ _⟩)
  exact⟨.ref h'.objs.size,_,O,rfl,q _ (J.hok.fresh (Qah _))⟩
 ·obtain⟨C,D,pl,hz⟩:=I.tuple F;exact call_tuple_same pl ⟨.ref p,H,I,rfl,q⟩
def tyV(K:Af)(T:String)(x:V)(H:Hp):Prop:=match x with
 |.str _=>T = "str"
 |.int _=>T = "int"
 |.ref p=>(T = "list" /\ ∃xs,SqL K H p xs)\/(T = "tuple" /\ ∃o,K.lookup p=some o/\o.cls=.type "tuple" /\ o.dict=none) \/
   (T = "dict" /\ ((∃kvs,H p=some (.dK kvs))\/∃kvs,H p=some (.dT kvs)))\/(T = "set" /\ ∃S n,H p=some (.set S n))
 |_=>False
def Zjg{pins:Ac}{σ:St}{T:String}{x:V}(I:Inv X pins σ H s)(r:RelV x v)(ty:tyV X.K T x H):
  s.TypeIs v T/\∀a,v=.ref a->∃ob,s.heap.get? a=some ob/\ob.dict=none:=by
 cases x with
 |str z=>
  obtain⟨t,rfl⟩:=r;cases(show T = "str" from ty);exact⟨typeIs_str s z t,fun _ e=>nomatch e⟩
 |int i=>
  obtain⟨t,rfl⟩:=r;cases(show T = "int" from ty);exact⟨typeIs_int s i t,fun _ e=>nomatch e⟩
 |ref p=>
  cases r;rcases ty with⟨rfl,xs,F⟩|⟨rfl,o,q,D,C⟩|⟨rfl,q⟩|⟨rfl,S,n,q⟩
  ·obtain⟨G,_,pl,_⟩:=I.list F;refine⟨pl.isList.typeIs,fun a e=>?_⟩;cases e;obtain⟨o,n,e,c,C,_⟩:=pl;exact⟨o,e,C⟩
  ·refine⟨⟨o,I.kIn p o q,D⟩,fun a e=>?_⟩;cases e;exact⟨o,I.kIn _ o q,C⟩
  ·have z:∃o,s.heap.get? p=some o/\o.ExactDict:=by
    rcases q with⟨kvs,q⟩|⟨kvs,q⟩
    ·obtain⟨_,_,_,_,o,_,_,e,ex,_⟩:=I.hok p _ q;exact⟨o,e,ex⟩
    ·obtain⟨_,_,_,_,o,_,_,e,ex,_⟩:=I.hok p _ q;exact⟨o,e,ex⟩
   obtain⟨o,e,ex⟩:=z;refine⟨⟨o,e,ex.1⟩,fun a e2=>?_⟩;cases e2;exact⟨o,e,ex.2.1⟩
  ·obtain⟨o,_,_,_,e,ex,_⟩:=I.hok p _ q;refine⟨⟨o,e,ex.1⟩,fun a e2=>?_⟩;cases e2;exact⟨o,e,ex.2.1⟩
 |_=>exact False.elim ty
inductive Zjh(K:Af)(T:String)(r:V->List V->Hp->VK->Prop)(Q:VK)(x:V)(H1:Hp):Prop
 |mk  : (tyV K T x H1)->(r x [] H1 Q)->Zjh K T r Q x H1
def Zpc(K:Af)(T:String)(r:V->List V->Hp->VK->Prop)(to:TE):TE:=fun σ H Q=>to σ H fun x H1=>Zjh K T r Q x H1
inductive Zn8(K:Af)(T:String)(r:V->List V->Hp->VK->Prop)(t:TA)(σ:St)(Q:VK)(x:V)(H1:Hp):Prop
 |mk  : (tyV K T x H1)->(t σ H1 fun xs H2=>r x xs H2 Q)->Zn8 K T r t σ Q x H1
def tBM(K:Af)(T:String)(r:V->List V->Hp->VK->Prop)(to:TE)(t:TA):TE:=fun σ H Q=>to σ H fun x H1=>Zn8 K T r t σ Q x H1
variable {o e:Av}{es:Al}{to:TE}{t:TA}{name:Str}{apos cpos:Pos}{T id:String}{r:V->List V->Hp->VK->Prop}
def pe_bm0 (O:PlainAttrs T) (D:Slot T name id) (F:typeOf (.builtin id)=pure (.type "method_descriptor")) (hm:MtR X id r) (ho:PE X o to)
  (C:attributeBase o name X.env (eval o X.env)=eval o X.env:=by rfl) (q:(apos.endLine == cpos.line)=true:=by rfl):PE X (.Call (.Attribute o name apos) [] [] cpos) (Zpc X.K T r to):=by
 intro pins s σ H Q I h;refine wpAny_Call_method0_late C q (thn (ho pins s σ H _ I h) fun v Y ⟨x,H1,J,G,ty,Z⟩=>?_);obtain⟨h1,h2⟩:=Zjg J G ty;exact⟨T,id,O,D,F,h1,h2,Qfo rfl (PySem.evalArgs_none (hm pins Y σ H1 x [] v [] Q J G .nil Z))⟩
def pe_bm (pa:PlainAttrs T) (D:Slot T name id) (J:typeOf (.builtin id)=pure (.type "method_descriptor")) (hm:MtR X id r) (ho:PE X o to) (ha:PA X (e::es) t)
  (C:attributeBase o name X.env (eval o X.env)=eval o X.env:=by rfl)
  (F:((backTo cpos (starEach (e::es) X.env)).all (fun x=>!x.1)&&(backToKw cpos (keywordEach [] X.env)).all (fun x=>x.1.isSome)
   && decide ((e::es).length+([]:List Keyword).length+(if([]:List Keyword).isEmpty then 0 else 1)<30))=true:=by rfl)
  (q:(apos.endLine == cpos.line)=true:=by rfl) (hs:starEach (e::es) X.env=(false,eval e X.env)::starEach es X.env:=by rfl) (G:(backTo cpos (starEach es X.env)).any (·.1)=false:=by rfl):
  PE X (.Call (.Attribute o name apos) (e::es) [] cpos) (tBM X.K T r to t):=by
 intro pins s σ H Q I h;refine wpAny_Call_method_late C F q rfl (thn (ho pins s σ H _ I h) fun v s1 ⟨x,H1,Z,Y,ty,q1⟩=>?_);obtain⟨h1,h2⟩:=Zjg Z Y ty;refine⟨T,id,pa,D,J,h1,h2,?_⟩;have O:=ha cpos pins s1 σ H1 _ Z q1;rw[hs]at O ⊢;refine Qfo (by grind) (Calls.evalArgs_plain ?_);exact thn O fun us s2 ⟨vs,H2,I2,r2,q2⟩=>hm pins s2 σ H2 x vs v us Q I2 Y r2 q2
end
def MtM(X:Cx)(id:String)(r:V->List V->Hp->VK->Prop):Prop:=
 ∀(pins:Ac) (s:Aq) (σ:St) (H:Hp) (x:V) (xs:A0) (v:As) (q:Ag) (Q:VK),Inv X pins σ H s->RelV x v->Vals xs q->r x xs H Q->
  A2 X (call (.builtin id) (v::q)) (EP X pins σ Q) X.xe s
theorem Vals.one:∀{x:V} {q:Ag},Vals [x] q->∃u,q=[u]/\RelV x u
 |_,_,.cons r .nil=>⟨_,rfl,r⟩
theorem Vals.zero:∀{q:Ag},Vals [] q->q=[]
 |_,.nil=>rfl
theorem Vals.dropLast{xs:A0}{C:Ag}(h:Vals xs C):Vals xs.dropLast C.dropLast:=by
 induction h with
 |nil=>exact .nil
 |cons r t D=>
  cases t with
  |nil=>exact .nil
  |cons q t'=>exact .cons r D
theorem Vals.reverse{xs:A0}{q:Ag}(h:Vals xs q):Vals xs.reverse q.reverse:=by
 induction h with
 |nil=>exact .nil
 |cons r t C=>rw[Qcx,Qcx];exact Vals.append C (.cons r .nil)
def erase_last(l:List m):l.eraseIdx (l.length-1)=l.dropLast:=by grind
section
variable {X:Cx}{pins:Ac}{σ:St}{H:Hp}{s:Aq}{l b:Au}{xs ys zs:A0}
def Inv.lset{its':Ag}{f:Ah->Array As}{t':Nat}(I:Inv X pins σ H s)(D:H l=some (.lst xs))
  (e:s.heap.get? l=some {cls:=.type "list",data:=.seq R.toArray n}) (F:f R.toArray=its'.toArray) (C:Vals ys its') (hz:ys.length<=sizeLine):
  Inv X pins σ (upd H l (.lst ys)) {s with heap:=s.heap.update l (Obj.mapSeq f),toks:=t'}:=by
 have q:=PySem.IsL.update e f;rw[F]at q;refine I.write (x:=l) (e:=l) (by rw[D];exact trivial) (.inl rfl) (fun O u G J=>(Qbw s.heap (Obj.mapSeq f) (Qd8 G)).trans J) ⟨_,q⟩ ?_;exact⟨hz,its',_,C,q⟩
theorem Inv.lnew{t':Nat}(I:Inv X pins σ H s)(C:Vals ys R)(hz:ys.length<=sizeLine):
  Inv X pins σ (upd H s.heap.objs.size (.lst ys)) {s with heap:=s.heap.push {cls:=.type "list",data:=.seq R.toArray},toks:=t'}:=
 I.laid (fun _ _ q=>Qab _ q) (Qah _) ⟨hz,R,0,C,Qao _ rfl⟩
def Inv.fresh(I:Inv X pins σ H s):H s.heap.objs.size=none:=I.hok.fresh (Qah _)
def Inv.lstM (I:Inv X pins σ H s) (C:H l=some (.lst xs)):xs.length<=sizeLine/\∃(q:Ag) (n:Nat),Vals xs q/\xs.length=q.length/\s.heap.get? l=some {cls:=.type "list",data:=.seq q.toArray n}:=by
 obtain⟨z,q,n,r,e⟩:=I.hok l _ C;exact⟨z,q,n,r,r.length,e⟩
end
inductive vK(x:V)(vs:A0)(H:Hp)(Q:VK):Prop
 |mk (l xs y:_):(x=.ref l)->(vs=[y])->(H l=some (.lst xs))->(xs.length<sizeLine)->(Q .non (upd H l (.lst (xs++[y]))))->vK x vs H Q
def Zdl  : V->List V->Hp->VK->Prop:=fun x vs H Q=>vK x vs H Q
def ZH:MtM X "list.append" Zdl:=by
 intro pins s σ H x vs v Y Q I O J h;obtain⟨l,xs,y,rfl,rfl,D,hz,q⟩:=h;cases O;obtain⟨u,rfl,G⟩:=J.one;obtain⟨z,C,n,r,Z,e⟩:=I.lstM D;refine call_meets F.slot_list_append ⟨_,e,rfl⟩ F.entry_list_append (F.args_list_append_2 _ _) (PySem.list_append l C.toArray n u (by rw[Qax];lia)) ⟨e,?_⟩;refine⟨.non,_,I.lset (its':=C++[u]) D e (by simp) (r.append (.cons G .nil)) ?_,rfl,q⟩;rw[Qaf,List.length_singleton];lia
inductive Zji(x:V)(vs:A0)(H:Hp)(Q:VK):Prop
 |mk (l xs y:_):(x=.ref l)->(vs=[])->(H l=some (.lst xs))->(xs[xs.length-1]?=some y)->(Q y (upd H l (.lst xs.dropLast)))->Zji x vs H Q
def rPop  : V->List V->Hp->VK->Prop:=fun x vs H Q=>Zji x vs H Q
def jK:MtM X "list.pop" rPop:=by
 intro pins s σ H x vs v us Q I rx Z h;obtain⟨l,xs,y,rfl,rfl,J,Y,q⟩:=h;cases rx;have G:=Z.zero;subst G;obtain⟨z,C,n,r,hl,e⟩:=I.lstM J;obtain⟨u,hu,O⟩:=r.get Y;have D:C.toArray[C.toArray.size-1]?=some u:=by
  grind
 refine call_meets F.slot_list_pop ⟨_,e,rfl⟩ F.entry_list_pop (F.args_list_pop_1 _) (MeetsSeq.list_pop_last l C.toArray n u D (by rw[Qax];lia)) ⟨e,?_⟩;refine⟨y,_,I.lset (its':=C.dropLast) J e ?_ r.dropLast ?_,O,q⟩
 ·grind
 ·rw[List.length_dropLast];lia
def Zg2:V->List V->Hp->VK->Prop:=fun x vs H Q=>∃l xs,x=.ref l/\vs=[]/\H l=some (.lst xs)/\Q .non (upd H l (.lst xs.reverse))
def Zbb:MtM X "list.reverse" Zg2:=by
 intro pins s σ H x vs v Y Q I O J h;obtain⟨l,xs,rfl,rfl,G,q⟩:=h;cases O;have D:=J.zero;subst D;obtain⟨z,C,n,r,Z,e⟩:=I.lstM G;refine call_meets F.slot_list_reverse ⟨_,e,rfl⟩ F.entry_list_reverse (F.args_list_reverse_1 _) (AutoSeq1.list_reverse_list_0 l C.toArray n (by rw[Qax];lia)) ⟨e,?_⟩;refine⟨.non,_,I.lset (its':=C.reverse) G e (by simp) r.reverse ?_,rfl,q⟩;rw[Qc6];lia
inductive Zjj(x:V)(y:V)(H:Hp)(Q:VK):Prop
 |mk (l b xs zs:_):(x=.ref l)->(y=.ref b)->(H l=some (.lst xs))->(H b=some (.lst zs))->(xs.length+zs.length<=sizeLine)->(∀p,H p=none->Q (.ref p) (upd H p (.lst (xs++zs))))->Zjj x y H Q
def rCat  : R2:=fun x y H Q=>Zjj x y H Q
def vL:OpR X (binaryOp .Add) rCat:=by
 intro pins s σ H x y v u Q I Z Y h;obtain⟨l,b,xs,zs,rfl,rfl,J,hB,hz,q⟩:=h;cases Z;cases Y;obtain⟨z,D,n,r,hl,e⟩:=I.lstM J;obtain⟨z2,C,n2,O,G,e2⟩:=I.lstM hB;refine PySem.P.add_list e e2 ?_ (by grind);have F:D.toArray++C.toArray=(D++C).toArray:=by simp
 rw[F];exact⟨.ref _,_,I.lnew (t':=s.toks) (r.append O) (by rw[Qaf];lia),rfl,q _ I.fresh⟩
end L2
namespace Att
open PySem PySem.W PySem.Calls PyProof.Rows
theorem xS{P:Params}{h:Heap}:∀(ns:Ak) (vs:Ag),WellAll P h vs (ns.map WData.int)->IntsAre vs ns:=by
 intro ns
 induction ns with
 |nil=>
  intro vs w;cases w;exact .nil
 |cons n ns q=>
  intro vs w;cases w with
  |cons a b=>
   cases a;exact .cons _ _ (q _ b)
def Zdm{l:OpenLaw}(hn:l.most=some n){P:Params}{h:Heap}{args:List WData}
  (C:l.row.toRowW.claim.pre args=true) (I:WellAll P h R args):
  ∃a vs ns,R=[Value.ref a]/\args=[WData.list (ns.map WData.int)]/\h.get? a=some {cls:=.type "list",data:=.seq vs.toArray}/\IntsAre vs ns/\ns.length<=n:=by
 have J:WShape.hasAll [] args [.list .int]=true:=(pre_splitW C).1;have hc:l.pre.holds [] {args:=args}=true:=(pre_splitW C).2;obtain⟨d,r,rfl,h1,h2⟩:=hasAllW_cons J;obtain rfl:=hasAllW_nil h2;obtain⟨xs,rfl,Y⟩:=hasW_list h1;obtain⟨ns,rfl⟩:=items_int Y;have F:ns.length<=n:=by
  have G:(WTm.not (.lt (.lit (.int (n:Int))) (.len (.arg 0)))).holds [] {args:=[.list (ns.map .int)]}=true:=by
   have G:=(holds_andW hc).1;rw[hn]at G;exact G
  have O:=condW_of G (w_not (w_lt w_lit (w_len_list (w_arg rfl))));refine Qg6 fun q=>?_
  first
   |(exact absurd O (by decide))
   |(simp at O;lia)
 cases I with
 |cons Z w2=>
  cases w2;cases Z with
  |list ho D=>exact⟨_,_,ns,rfl,rfl,ho,xS ns _ D,F⟩
theorem Zdn(l:OpenLaw)(args:List WData):l.row.toRowW.claim.post args (.bool true) args=true:=
 postW_of (r:=l.row.toRowW) (X:=(true == true))
  (show WShape.has [] (.bool true) .bool=true by first|rfl|decide|skip)
  (show(WTm.eq .res (.lit (.bool true))).value [] {args:=args,res:=some (.bool true),after:=args}=some (.bool (true == true))from w_eq_bool (w_res rfl) w_lit) rfl
def attach_call{l:OpenLaw}{XP:(Ae)->Heap->Prop}{YP:Ar->Heap->Prop}{d:DefRec}
  (hn:l.most=some n) (hdf:d.params.defaults=[])
  (call:∀(w:Ar) (s₀ q:Aq) (mg mb:Ae) (J:Au) (o:Obj) (pm Z C:As) (a:Au) (vs:Ag) (ns:Ak),
   Ground P N [] XP w s₀ mg mb q.heap->YP w q.heap->
   q.heap.get? J=some o->o.data=.func (docDef d.name d.params d.body d.scope pm Z C)->q.heap.CodeRec Z d.name->mg d.name=some (.ref J)->
   q.heap.get? a=some {cls:=.type "list",data:=.seq vs.toArray}->IntsAre vs ns->ns.length<=n->q.gens=#[]->
   codeAny (model l.prog w) callerA (.call (.ref J) ⟨[.ref a],[]⟩) (fun r s'=>r=.ok (.ret (.bool true))/\OldK q.heap s'.heap/\s'.os=q.os/\AllBare s'.gens) q):
  WalkO P N XP YP l.row.toRowW d [] (fun f vs=>PySem.call f vs):=by
 intro w s₀ q mg mb G Y J o pm Z C dV kV ho hd hcd hD hmg hg args vals as F hlay hrd hwl hlo;obtain rfl:dV=.none:=Dflts.none hD hdf;obtain rfl:kV=.none:=Dflts.noKw hD;obtain⟨a,vs,ns,rfl,rfl,O,D,I⟩:=Zdm hn F hwl;refine enter_call (Qer (call w s₀ q mg mb J o pm Z C a vs ns G Y ho (fd_plain hd) hcd hmg O D I hg) fun r s' hq=>?_);obtain⟨rfl,h2,h3,h4⟩:=hq;exact⟨.inl ⟨.bool true,.bool true,[],rfl,fun _=>rfl,.bool true,Zdn l _,fun _=>⟨List.Pairwise.nil,fun _ hm=>(nomatch hm)⟩⟩,h2,h3,h4⟩
end Att
namespace L2
theorem vM:∀{vs:Ag} {ns:Ak},IntsAre vs ns->Vals (ns.map V.int) vs
 |_,_,.nil=>.nil
 |_,_,.cons n t h=>.cons ⟨t,rfl⟩ (vM h)
def WY(s:Aw):Arguments:=match s with
 |.FunctionDef _ a _ _ _ _ _ _ _ _=>a
 |_=>{posonlyargs:=[],args:=[],vararg:=none,kwonlyargs:=[],kw_defaults:=[],kwarg:=none,defaults:=[]}
def Xv(s:Aw):List Aw:=match s with
 |.FunctionDef _ _ b _ _ _ _ _ _ _=>b
 |_=>[]
def Zg(s:Aw):Scope:=match s with
 |.FunctionDef _ _ _ _ _ _ q _ _ _=>q
 |_=>{kind:=.function,names:=[],isGenerator:=false,isCoroutine:=false}
abbrev CX0:CXT:=fun _ _ _ _ _ _=>False
abbrev E0:XK:=fun _ _ _=>False
def Zdo{X:Cx}:Passes CX0 X E0:=fun _ _ _ _ _ _ _ h=>h.elim
structure Fun(K:Af)(x qual:Str)(st:Aw)(f:Au)(fd:Am):Prop where
 ex:∃(oc:As) (od:Option Au) (kV doc pm:As) (an:Option Au) (cdv ct:As) (osl:Array (Option As)),
  fd=PySem.W.fnOf x qual (WY st) (Xv st) (Zg st) .none kV doc pm an cdv ct/\K.lookup f=some ⟨oc,od,.func fd,osl⟩/\PySem.W.codeIn K cdv qual=true
 kp:PySem.W.keepIn K (.ref f)=true
section
variable {P:An}{w:Ar}{K:Af}{mg:Ae}{base:Heap}
theorem Fun.ok{qual:Str}{st:Aw}{fd:Am}{ps:Ai}{k:Nat}{sp:Sp}(F:Fun K x qual st f fd)(S:Zx N ps (Zg st))(len:∀vs H Q E,sp vs H Q E->vs.length=ps.length)
  (D:∀(C:As) (A:Ao) (outer:List Env) (s:Aq) (H:Hp) (vs:A0) (Q:VK) (E:XK),WT k (A.deeper (envOfC qual (Zg st) s.heap.objs.size f C))->sp vs H Q E->
   ∃t,PSs (Zgn CX0 P w K mg base N qual (Zg st) f C A outer s H E).nox (Xv st) t/\t {nx:=fun _ H'=>Q .non H',rt:=Q} (start N vs) H):Yx P w K mg base CX0 (k+1) f fd ps sp:=by
 obtain⟨oc,od,kV,J,pm,an,C,ct,Y,rfl,Z,I⟩:=F.ex;refine Zn4 Z I S len fun A outer s H vs Q E O G=>?_;obtain⟨t,h,q⟩:=D C A outer s H vs Q E O G;exact⟨t,h.nox,q⟩
def Fun.binds{qual:Str}{st:Aw}{fd:Am}{ps:Ai}(F:Fun K x qual st f fd)
  (h:∀(kV q I:As) (D:Option Au) (C ct:As) (G:Ag),G.length=ps.length->bindArgs (PySem.W.fnOf x qual (WY st) (Xv st) (Zg st) .none kV q I D C ct) ⟨G,[]⟩=pure (ps.zip G)):Binds K fd ps []:=by
 obtain⟨oc,od,kV,q,I,D,C,ct,J,rfl,Y,O⟩:=F.ex;exact .all (h kV q I D C ct)
theorem fun_mk{qual:Str}{st:Aw}{od G:Option Au}{D:Array (Option As)}{kV C F q ct:As}(l:K.lookup f=some ⟨v,od,.func (PySem.W.fnOf x qual (WY st) (Xv st) (Zg st) .none kV C F G q ct),D⟩)
  (c:PySem.W.codeIn K q qual=true) (k:PySem.W.keepIn K (.ref f)=true):Fun K x qual st f (PySem.W.fnOf x qual (WY st) (Xv st) (Zg st) .none kV C F G q ct):=⟨⟨v,od,kV,C,F,G,q,ct,D,rfl,l,c⟩,k⟩
end
def ZK{A:Ao}{k:Nat}(q:WT k A):A.units+1<cLine:=Qfi (Nat.add_le_add_left (by decide:1<=64) _) q.units
def Zy(h:n<=1000):n<sizeLine:=Qfi h (by decide)
def pv (i:Nat)   (C:X.N[i]?=some x:=by rfl) (F:Vis X.env.scope x:=by first|exact Or.inl rfl|exact Or.inr (Or.inl rfl)|exact Or.inr (Or.inr rfl)) (D:(x == ("__debug__" : Str))=false:=by decide)
  (q:(x == ("__classdict__" : Str))=false:=by decide):PE X (.Name x p) (Zgl i):=Ziz C F D q
def ZU{A B:Prop}(h:B):if false=true then A else B:=by grind
def Y4{A B:Prop}(h:A):if true=true then A else B:=by
 exact h
def xB{c A B:Prop}[Decidable c](h1:c->A)(h2:¬c->B):if c then A else B:=by grind
def Z8(H H':Hp):Prop:=∀b o,H b=some o->H' b=some o
def Z8.refl(H:Hp):Z8 H H:=fun _ _ h=>h
def Z8.trans{H1 H2:Hp}(a:Z8 H H1)(b:Z8 H1 H2):Z8 H H2:=fun c o h=>b c o (a c o h)
def Z8.free{H':Hp}(e:Z8 H H'){l:Au}(h:H' l=Option.none):H l=Option.none:=by
 cases q:H l with
 |none=>rfl
 |some o=>
  rw[e l o q]at h;cases h
def Z8.seq{H':Hp}{xs:A0}(e:Z8 H H')(h:SqL K H a xs):SqL K H' a xs:=by
 rcases h with(h|⟨o,h⟩)|h
 ·exact .inl (.inl (e _ _ h))
 ·exact .inl (.inr ⟨o,e _ _ h⟩)
 ·exact .inr h
def Zle(i j:Int):Prop:=0<j/\j.natAbs.log2<9000
theorem YO:OpR X (binaryOp .FloorDiv) (rI Zle fun i j=>.int (i/j)):=opI fun i j _ _ _ _ _ C q=>by
 have h1:(0:Int)<j:=C.1;exact floordiv_int (by lia) (by grind) (.inl (PyProof.noPylong_of_log2 C.2))
def Zle.of{i j:Int}(h1:0<j)(h2:j<2^250):Zle i j:=by
 refine⟨h1,?_⟩;have C:j.natAbs<2^250:=by lia
 have q:j.natAbs≠0:=by lia
 have:=(Nat.log2_lt q).mpr C;lia
def Zlf(i j:Int):Prop:=(i.natAbs<2^250/\j.natAbs<2^250)\/CMul i j
def Zlf.ok{i j:Int}(h:Zlf i j):IntMulOk i j:=by
 rcases h with⟨h1,h2⟩|h
 ·refine IntMulOk.of_bits (Qa8 (PyProof.Rows.intBits_le h1) (by decide)) (Qa8 (PyProof.Rows.intBits_le h2) (by decide))
 ·exact h.ok
def Wr:OpR X (binaryOp .Mult) (rI Zlf fun i j=>.int (i*j)):=opI fun _ _ _ _ _ _ _ C q=>mul_int q C.ok
inductive Zjk(K:Af)(xs:A0)(H:Hp)(Q:VK):Prop
 |mk (x T t b:_):(xs=[x,.ty T])->(Za7 K H x t)->(PySem.W.kitOne K t (.type T)=some b)->(Q (.bl b) H)->Zjk K xs H Q
def rIsi(K:Af):A0->Hp->VK->Prop:=fun xs H Q=>Zjk K xs H Q
def YG:X3 X (.builtin "isinstance") (rIsi X.K):=by
 intro pins s σ H xs F Q I r h;obtain⟨x,T,t,b,rfl,ty,e,q⟩:=h;obtain⟨u,D,rfl,C,rt⟩:=vals2 r;cases rt;exact Zdc I C ty e fun tk=>⟨.bl b,H,I.tok tk,rfl,q⟩
def ZX:Av->Bool
 |.Starred _ _=>false
 |_=>true
def Zz{rest:Al}{env:Env}(h:ZX e=true):starEach (e::rest) env=(false,eval e env)::starEach rest env:=by
 cases e<;>first
  |rfl
  |cases h
theorem XA{pos:Pos}{env:Env}:∀{es:Al},es.all ZX=true->(backTo pos (starEach es env)).any (·.1)=false
 |[],_=>rfl
 |e::es,h=>by
  rw[Qdm,Qb5]at h;rw[Zz h.1];show(false||(backTo pos (starEach es env)).any (·.1))=false;rw[XA h.2];rfl
theorem all_plain{pos:Pos}{env:Env}:∀{es:Al},es.all ZX=true->(backTo pos (starEach es env)).all (fun x=>!x.1)=true
 |[],_=>rfl
 |e::es,h=>by
  rw[Qdm,Qb5]at h;rw[Zz h.1];show(true&&(backTo pos (starEach es env)).all (fun x=>!x.1))=true;rw[all_plain h.2];rfl
section
variable {X:Cx}{CX:CXT}{k:Nat}{f C:Au}{fd:Am}{ps:Ai}{sp:Sp}{dvs:A0}{ds:Ag}{E:XK}{x m:Str}{p pos apos:Pos}{e o:Av}{es:Al}{ta te:TE}{t:TA}{id T:String}{r:A0->Hp->VK->Prop}
def pa_c(C:PE X e te)(q:PA X es t)(D:ZX e=true:=by rfl):PA X (e::es) (Za8 te t):=Zk8 C q (Zz D)
def Zg3(F:Yx X.prog X.w X.K X.mg X.base CX k f fd ps sp)(J:WT k X.A)(D:Gl X x)(Y:X.mg x=some (.ref f))(Z:PySem.W.keepIn X.K (.ref f)=true)(hb:Binds X.K fd ps ds)(I:Vals dvs ds)(G:Passes CX X E)
  (O:PA X (e::es) t) (C:(x == ("__debug__" : Str))=false:=by decide) (q:(e::es).all ZX=true:=by rfl):PE X (.Call (.Name x p) (e::es) [] pos) (Zdd sp dvs E t):=by
 rw[Qdm,Qb5]at q;exact Zla F J D Y Z hb I G O C (Zz q.1) (XA q.2)
def Zdp (F:X3 X (.builtin id) r) (D:Gl X x) (J:X.mg x=none) (I:bootBuiltins x=some (.builtin id)) (G:PA X (e::es) t) (O:x ≠ "__name__" :=by decide) (C:(x == ("__debug__" : Str))=false:=by decide)
  (q:(e::es).all ZX=true:=by rfl):PE X (.Call (.Name x p) (e::es) [] pos) (tCB r t):=by
 rw[Qdm,Qb5]at q;exact Zgz F D J I G O C (Zz q.1) (XA q.2)
def Zdq (F:X3 X (.type T) r) (D:Gl X x) (J:X.mg x=none) (I:bootBuiltins x=some (.type T)) (G:PA X (e::es) t) (O:x ≠ "__name__" :=by decide) (C:(x == ("__debug__" : Str))=false:=by decide)
  (q:(e::es).all ZX=true:=by rfl):PE X (.Call (.Name x p) (e::es) [] pos) (tCB r t):=by
 rw[Qdm,Qb5]at q;exact Zdf F D J I G O C (Zz q.1) (XA q.2)
def Zdr {tg a:Av} (q:Gl X "range") (C:X.mg "range" = none) (F:PA X [a] t) (D:ZX a=true:=by rfl):PI X tg (.Call (.Name "range" p) [a] [] pos) (Zk3 t):=
 Zc2 q C F (by rw[Zz D];rfl)
def pe_bmF {name:Str}   {rm:V->List V->Hp->VK->Prop} (pa:PlainAttrs T) (G:Slot T name id) (I:typeOf (.builtin id)=pure (.type "method_descriptor")) (Z:MtR X id rm) (Y:PE X o d) (O:PA X (e::es) t)
  (F:attributeBase o name X.env (eval o X.env)=eval o X.env:=by rfl) (C:(apos.endLine == q.line)=true:=by rfl) (J:(e::es).all ZX=true:=by rfl) (hl:(e::es).length<30:=by decide):
  PE X (.Call (.Attribute o name apos) (e::es) [] q) (tBM X.K T rm d t):=by
 have D:=J;rw[Qdm,Qb5]at D;refine pe_bm pa G I Z Y O F ?_ C (Zz D.1) (XA D.2);rw[all_plain J];exact Qal hl
end
def ZT:bootBuiltins "len" = some (.builtin "len"):=by decide +kernel
def ZF:bootBuiltins "isinstance" = some (.builtin "isinstance"):=by decide +kernel
def vN:bootBuiltins "sorted" = some (.builtin "sorted"):=by decide +kernel
def bt_all:bootBuiltins "all" = some (.builtin "all"):=by decide +kernel
def vO:bootBuiltins "int" = some (.type "int"):=by decide +kernel
def Zlg:bootBuiltins "bool" = some (.type "bool"):=by decide +kernel
def Zjl:bootBuiltins "str" = some (.type "str"):=by decide +kernel
def wN:bootBuiltins "list" = some (.type "list"):=by decide +kernel
def ZP:bootBuiltins "tuple" = some (.type "tuple"):=by decide +kernel
def bt_set:bootBuiltins "set" = some (.type "set"):=by decide +kernel
def wO:bootBuiltins "reversed" = some (.type "reversed"):=by decide +kernel
def uD:bootBuiltins "range" = some (.type "range"):=by decide +kernel
def XB :PySem.W.kitOne K (.type "int") (.type "int")=some true:=by rfl
def vP :PySem.W.kitOne K (.type "int") (.type "bool")=some false:=by with_unfolding_all rfl
def Ws :PySem.W.kitOne K (.type "tuple") (.type "tuple")=some true:=by rfl
def YH :PySem.W.kitOne K (.type "str") (.type "int")=some false:=by with_unfolding_all rfl
def JX :PySem.W.kitOne K (.type "str") (.type "str")=some true:=by rfl
def wQ :PySem.W.kitOne K (.type "int") (.type "str")=some false:=by with_unfolding_all rfl
structure QE(X:Cx)(e:Av)(t:TE):Prop where
 out:PE X e t
structure QT(X:Cx)(e:Av)(t:TT):Prop where
 out:PT X e t
structure QW(X:Cx)(e:Av)(t:TT):Prop where
 out:PW X e t
structure QA(X:Cx)(e:Al)(t:TA):Prop where
 out:PA X e t
structure QSs(X:Cx)(e:List Aw)(t:TS):Prop where
 out:PSs X e t
structure QS(X:Cx)(e:Aw)(t:TS):Prop where
 out:PS X e t
structure QG(X:Cx)(e:Av)(t:TG):Prop where
 out:PG X e t
structure QI(X:Cx)(tg e:Av)(t:TI):Prop where
 out:PI X tg e t
structure QO(X:Cx)(e:Option Av)(t:TO):Prop where
 out:PO X e t
def qv {X:Cx} (i:Nat)   (C:X.N[i]?=some x:=by rfl) (F:Vis X.env.scope x:=by first|exact Or.inl rfl|exact Or.inr (Or.inl rfl)|exact Or.inr (Or.inr rfl)) (D:(x == ("__debug__" : Str))=false:=by decide) (q:(x == ("__classdict__" : Str))=false:=by decide):QE X (.Name x p) (Zgl i):=⟨pv i C F D q⟩
def Ze{X:Cx}{i j pos:_}:QE X (.Constant (.int i) j pos) (tC (.int i)):=⟨pe_int ⟩
def Xi{X:Cx}{b j pos:_}:QE X (.Constant (.bool b) j pos) (tC (.bl b)):=⟨pe_bl ⟩
def uE{X:Cx}{j pos:_}:QE X (.Constant .none j pos) (tC .non):=⟨pe_non ⟩
def Zl{X:Cx}{x j pos:_}:QE X (.Constant (.str x) j pos) (tC (.str x)):=⟨pe_str ⟩
def Wt {X:Cx}  {v:V} {u:As}  (q:Gl X x) (C:X.mg x=some u) (r:RelV v u) (D:(x == ("__debug__" : Str))=false:=by decide):QE X (.Name x p) (tC v):=⟨Zku q C r D⟩
def Xw {X:Cx}  {v:V} {u:As}  (q:Gl X x) (F:X.mg x=none) (D:bootBuiltins x=some u) (r:RelV v u) (G:x ≠ "__name__" :=by decide) (C:(x == ("__debug__" : Str))=false:=by decide):QE X (.Name x p) (tC v):=⟨Zkv q F D r G C⟩
def Zs{X:Cx}{a:Av}{b:Av}{op:Operator}{r:R2}(D:OpR X (binaryOp op) r)(C:QE X a d)(q:QE X b O):QE X (.BinOp a op b p) (tOp r d O):=⟨pe_op D C.out q.out⟩
def XC{X:Cx}{a:Av}{op:UnaryOp}{r:V->Hp->VK->Prop}(C:UnR X (unaryOp op) r)(q:QE X a d):QE X (.UnaryOp op a p) (tUn r d):=⟨pe_un C q.out⟩
def YI{X:Cx}{a:Av}{b:Av}{op:CmpOp}{r:R2}(C:OpR X (compareOp op) r)(q:QE X a d)(F:QE X b O)(D:behindInMarks op b=false):QE X (.Compare a [op] [b] p) (tOp r d O):=⟨Zk4 C q.out F.out D⟩
def Zo{X:Cx}{a:Av}{b:Av}{op:CmpOp}{r:R2}(C:OpR X (compareOp op) r)(q:QE X a d)(F:QE X b O)(D:behindInMarks op b=false):QT X (.Compare a [op] [b] p) (Zn3 (tOp r d O)):=⟨Zk5 C q.out F.out D⟩
def Yt{X:Cx}{t:TE}(h:QE X e t)(C:∀q,isTrue e X.env q=(do let v <-q;standAt e.pos;holding [v] (truthy v)):=by intro _;rfl):QT X e (tB t):=⟨pt_val h.out C⟩
def xT{X:Cx}{a:Av}(q:QT X a C):QW X (.BoolOp .And [a] p) C:=⟨Zkw q.out⟩
def WD{X:Cx}{a:Av}(q:QT X a C):QW X (.BoolOp .Or [a] p) C:=⟨pw_or1 q.out⟩
def vQ{X:Cx}{a:Av}{b:Av}{tB':TT}{rest:Al}(D:QT X a C)(q:QW X (.BoolOp .And (b::rest) p) tB'):QW X (.BoolOp .And (a::b::rest) p) (tAnd C tB'):=⟨pw_and D.out q.out⟩
def Wc{X:Cx}{a:Av}{b:Av}{tB':TT}{rest:Al}(D:QT X a C)(q:QW X (.BoolOp .Or (b::rest) p) tB'):QW X (.BoolOp .Or (a::b::rest) p) (tOr C tB'):=⟨pw_or D.out q.out⟩
def Wd{X:Cx}{a:Av}(q:QT X a C):QT X (.UnaryOp .Not a p) (tNot C):=⟨pt_not q.out⟩
def xU{X:Cx}{a:Av}{op:_}{t:TE}(h:QE X a t):QE X (.BoolOp op [a] p) t:=⟨pe_one h.out⟩
def vR{X:Cx}{a:Av}{b:Av}{rest:Al}(C:QE X a d)(q:QE X (.BoolOp .And (b::rest) p) O):QE X (.BoolOp .And (a::b::rest) p) (Znu d O):=⟨pe_and C.out q.out⟩
def Zn9{X:Cx}{a:Av}{b:Av}{rest:Al}(C:QE X a d)(q:QE X (.BoolOp .Or (b::rest) p) O):QE X (.BoolOp .Or (a::b::rest) p) (tOrV d O):=⟨pe_or C.out q.out⟩
def qe_not{X:Cx}{a:Av}(q:QE X a d):QE X (.UnaryOp .Not a p) (Znv d):=⟨pe_not q.out⟩
def Zv{X:Cx}:QSs X [] Znw:=⟨Zkx ⟩
def Zb{X:Cx}{st:Aw}{rest:List Aw}{t:TS}{u:TS}(h1:QS X st t)(h2:QSs X rest u):QSs X (st::rest) (Yl t u):=⟨Zgu h1.out h2.out⟩
def Zf{X:Cx}{st:Aw}{t:TS}(h1:QS X st t):QSs X [st] t:=⟨Zky h1.out⟩
def Yi{X:Cx}(q:QE X e d)(C:swapsWith e none p.line X.env=pure false:=by rfl):QS X (.Expr e p) (Zkz d):=⟨Zk0 q.out C⟩
def Zn{X:Cx}(q:QE X e d):QS X (.Return (some e) p) (tRet d):=⟨ps_ret q.out⟩
def Z9{X:Cx}{t:TS}{u:TS}{c:Av}{a b:List Aw}(q:QT X c C)(D:QSs X a t)(F:QSs X b u):QS X (.If c a b p) (tIfS C t u):=⟨ps_if q.out D.out F.out⟩
theorem Zlh{X:Cx}(C:X.N.Nodup)(hi:X.N[i]?=some x)(q:Loc X.env.scope x)(D:X.fn x=true\/X.env.scope.names.lookup x=some .local:=by first|exact .inl rfl|exact .inr rfl|assumption):QG X (.Name x p) (qc i):=⟨Zcu C hi q D⟩
theorem YB{X:Cx}(i:Nat)(C:X.N.Nodup)(hi:X.N[i]?=some x:=by exact rfl)(q:Loc X.env.scope x:=by first|exact .inl rfl|exact .inr rfl)(D:X.fn x=true\/X.env.scope.names.lookup x=some .local:=by first|exact .inl rfl|exact .inr rfl|assumption):QG X (.Name x p) (qc i):=Zlh C hi q D
theorem qs_set{X:Cx}(F:X.N.Nodup)(hi:X.N[i]?=some x)(D:Loc X.env.scope x)(C:QE X e d)(G:swapsWith e (some (.Name x q)) p.line X.env=pure false:=by rfl)(I:X.fn x=true\/X.env.scope.names.lookup x=some .local:=by first|exact .inl rfl|exact .inr rfl|assumption):QS X (.Assign [.Name x q] e p) (Znx d (qc i)):=⟨ps_set F hi D C.out G I⟩
theorem Z4{X:Cx}(i:Nat)(F:X.N.Nodup)(C:QE X e d)(hi:X.N[i]?=some x:=by exact rfl)(D:Loc X.env.scope x:=by first|exact .inl rfl|exact .inr rfl)(G:swapsWith e (some (.Name x q)) p.line X.env=pure false:=by rfl)(I:X.fn x=true\/X.env.scope.names.lookup x=some .local:=by first|exact .inl rfl|exact .inr rfl|assumption):QS X (.Assign [.Name x q] e p) (Znx d (qc i)):=qs_set F hi D C G I
def uF{X:Cx}{c:Av}{body:List Aw}{tb:TS}(q:PassesOwn (model X.prog X.w) X.A X.env X.xe)(D:QT X c C)(F:QSs X body tb):QS X (.While c body [] p) (Zcx C tb):=⟨Zgw q D.out F.out⟩
def XD{X:Cx}{tg:Av}{l:Av}(q:QE X l d):QI X tg l (Zc0 X.K d):=⟨Zk2 q.out⟩
def Xs{X:Cx}{tg:Av}{l:Av}(q:QE X l d):QI X tg l (iTup X.K d):=⟨pi_tup q.out⟩
def Yk{X:Cx}{tg:Av}{iter:Av}{body:List Aw}{wi:TI}{g:TG}{tb:TS}(q:PassesOwn (model X.prog X.w) X.A X.env X.xe)(D:X.calm=true)(hi:QI X tg iter wi)(C:QG X tg g)(G:QSs X body tb)(F:∀x,foldedSetIterable iter X.env x=pure x:=by intro _;rfl):QS X (.For tg iter body [] p) (tFor wi g tb):=⟨ps_for q D hi.out C.out G.out F⟩
def Yc{X:Cx}{t:TA}{q:_}(h:QA X B t):QE X (.Tuple B q p) (tTup t):=⟨pe_tup h.out⟩
def Yq{X:Cx}{t:TA}(h:QA X B t):QE X (.List B p) (tLst t):=⟨pe_lst h.out⟩
def Zd{X:Cx}:QA X [] Zk7:=⟨pa_nil ⟩
def Zh{X:Cx}{t:TA}(D:QE X e d)(C:QA X B t)(q:ZX e=true:=by rfl):QA X (e::B) (Za8 d t):=⟨pa_c D.out C.out q⟩
def Gk {X:Cx} {CX:CXT} {k:Nat}  {fd:Am} {ps:Ai} {sp:Sp}   {E:XK}      {t:TA} (F:Yx X.prog X.w X.K X.mg X.base CX k f fd ps sp) (O:WT k X.A) (I:Gl X x) (Z:X.mg x=some (.ref f)) (hk:PySem.W.keepIn X.K (.ref f)=true) (hb:Binds X.K fd ps R) (G:Vals u R) (J:Passes CX X E) (Y:QA X (e::B) t) (C:(x == ("__debug__" : Str))=false:=by decide) (D:(e::B).all ZX=true:=by rfl):QE X (.Call (.Name x p) (e::B) [] q) (Zdd sp u E t):=⟨Zg3 F O I Z hk hb G J Y.out C D⟩
def Zp {X:Cx}      {t:TA} {id:String} {r:A0->Hp->VK->Prop} (G:X3 X (.builtin id) r) (D:Gl X x) (O:X.mg x=none) (J:bootBuiltins x=some (.builtin id)) (I:QA X (e::B) t) (Y:x ≠ "__name__" :=by decide) (C:(x == ("__debug__" : Str))=false:=by decide) (F:(e::B).all ZX=true:=by rfl):QE X (.Call (.Name x p) (e::B) [] q) (tCB r t):=⟨Zdp G D O J I.out Y C F⟩
def ZC {X:Cx}      {t:TA} {T:String} {r:A0->Hp->VK->Prop} (G:X3 X (.type T) r) (D:Gl X x) (O:X.mg x=none) (J:bootBuiltins x=some (.type T)) (I:QA X (e::B) t) (Y:x ≠ "__name__" :=by decide) (C:(x == ("__debug__" : Str))=false:=by decide) (F:(e::B).all ZX=true:=by rfl):QE X (.Call (.Name x p) (e::B) [] q) (tCB r t):=⟨Zdq G D O J I.out Y C F⟩
def YC {X:Cx}   {t:TA} {tg a:Av} (C:Gl X "range") (D:X.mg "range" = none) (G:QA X [a] t) (F:ZX a=true:=by rfl):QI X tg (.Call (.Name "range" p) [a] [] q) (Zk3 t):=⟨Zdr C D G.out F⟩
def YD {X:Cx}     {t:TA} {id:String} {T:String} {name:Str}   {rm:V->List V->Hp->VK->Prop} (pa:PlainAttrs T) (F:Slot T name id) (G:typeOf (.builtin id)=pure (.type "method_descriptor")) (Z:MtR X id rm) (Y:QE X o d) (O:QA X (e::B) t) (D:attributeBase o name X.env (eval o X.env)=eval o X.env:=by rfl) (C:(p.endLine == q.line)=true:=by rfl) (I:(e::B).all ZX=true:=by rfl) (J:(e::B).length<30:=by decide):QE X (.Call (.Attribute o name p) (e::B) [] q) (tBM X.K T rm d t):=⟨pe_bmF pa F G Z Y.out O.out D C I J⟩
def qJ {X:Cx}   {name:Str}   {T:String} {id:String} {r:V->List V->Hp->VK->Prop} (O:PlainAttrs T) (F:Slot T name id) (G:typeOf (.builtin id)=pure (.type "method_descriptor")) (J:MtR X id r) (I:QE X o d) (D:attributeBase o name X.env (eval o X.env)=eval o X.env:=by rfl) (C:(p.endLine == q.line)=true:=by rfl):QE X (.Call (.Attribute o name p) [] [] q) (Zpc X.K T r d):=⟨pe_bm0 O F G J I.out D C⟩
def YJ{X:Cx}:QO X none Zdh:=⟨Zlb ⟩
def XE{X:Cx}(h:QE X e d):QO X (some e) (Zn5 d):=⟨Zlc h.out⟩
def Y5{X:Cx}{lo:Option Av}{hi:Option Av}{tl:TO}{th:TO}{r:V->Option Int->Option Int->Hp->VK->Prop}(D:SlR X r)(C:QE X e d)(F:QO X lo tl)(G:QO X hi th):QE X (.Subscript e (.Slice lo hi none q) p) (tSl r d tl th):=⟨Zg1 D C.out F.out G.out⟩
def Zq{X:Cx}{a:Av}{b:Av}{r:R2}(q:IxR X r)(C:QE X a d)(F:QE X b O)(D:Zdj b:=by exact fun _ _=>rfl):QE X (.Subscript a b p) (tOp r d O):=⟨pe_ix q C.out F.out D⟩
def Zg4{X:Cx}{st:Aw}:QS X st Zi1:=⟨Zgv ⟩
def WZ{X:Cx}{t:TT}(h:QW X e t):QT X e t:=⟨h.out.pt⟩
end L2
set_option maxHeartbeats 4000000
namespace L2
def xV(cells:List (Str×Au)):List (Str×NameKind)->List (Str×Au)->List (Str×Au)
 |[],acc=>acc
 |(n,k)::r,acc=>xV cells r (if(k == NameKind.free)=true then(n,(cells.lookup n).getD 0)::acc else acc)
def jL{env:Env}:∀(names:List (Str×NameKind)) (acc:List (Str×Au)),(∀y∈names,y.2=.free->∃c,env.cells.lookup y.1=some c)->
  (forIn names acc fun(x:Str×NameKind) (r:List (Str×Au))=>match x with
   | (name,kind)=>if (kind == NameKind.free)=true then do let a <-cellOf env name;pure (ForInStep.yield ((name,a)::r)) else pure (ForInStep.yield r):Sem (List (Str × Au)))=pure (xV env.cells names acc)
 |[],acc,_=>rfl
 |(n,k)::r,acc,h=>by
  rw[List.forIn_cons];have F:=fun q=>jL (env:=env) r q fun y G=>h y (Qak _ G)
  by_cases C:(k == NameKind.free)=true
  ·obtain⟨c,I⟩:=h (n,k) Qan (by simpa using C);have D:env.cells.lookup n=some c:=I;have e:cellOf env n=pure c:=by unfold cellOf;rw[D]
   simp only[C,if_true,e];rw[xV,Qba C,D];exact F ((n,c)::acc)
  ·rw[xV,Qa4 C];simp only[C,if_false];exact F acc
def Jt{scope:Scope}{env:Env}(h:∀y∈scope.names,y.2=.free->∃c,env.cells.lookup y.1=some c):closureFor scope env=pure (xV env.cells scope.names []):=by
 have e:=jL (env:=env) scope.names [] h;show(do let r <-_;pure r)=_;rw[show(forIn scope.names ([]:List (Str×Au)) fun(x:Str×NameKind) (r:List (Str×Au))=>match x with
   | (name,kind)=>if (kind == NameKind.free)=true then do let a <-cellOf env name;pure (ForInStep.yield ((name,a)::r)) else pure (ForInStep.yield r):Sem (List (Str × Au)))=pure (xV env.cells scope.names []) from e]
 rfl
def Gm{cells:List (Str×Au)}:∀{names:List (Str×NameKind)} {acc:List (Str×Au)},(∀y∈names,y.2=.free->∃c,cells.lookup y.1=some c)->(∀x c,acc.lookup x=some c->cells.lookup x=some c)->
  ∀x c,(xV cells names acc).lookup x=some c->cells.lookup x=some c
 |[],acc,_,G,x,c,h=>G x c h
 |(n,k)::r,acc,I,G,x,c,h=>by
  refine Gm (names:=r) (fun y C=>I y (Qak _ C)) (fun y d q=>?_) x c h
  by_cases J:(k == NameKind.free)=true
  ·rw[Qba J]at q;obtain⟨e,O⟩:=I (n,k) Qan (by simpa using J);have D:cells.lookup n=some e:=O;rw[D,Qc5]at q;cases C:y == n with
   |true=>
    rw[C]at q;have F:y=n:=by simpa using C
    rw[F,D];exact q
   |false=>
    rw[C]at q;exact G y d q
  ·grind
theorem vS{cells:List (Str×Au)}:∀{names:List (Str×NameKind)} {acc:List (Str×Au)} {x:Str},(∃c,acc.lookup x=some c)->∃c,(xV cells names acc).lookup x=some c
 |[],acc,x,h=>h
 |(n,k)::r,acc,x,h=>by
  rw[xV];refine vS (names:=r) ?_
  by_cases q:(k == NameKind.free)=true
  ·grind
  ·rw[Qa4 q];exact h
theorem Ju{cells:List (Str×Au)}:∀{names:List (Str×NameKind)} {acc:List (Str×Au)} {x:Str},names.lookup x=some .free->∃c,(xV cells names acc).lookup x=some c
 |[],acc,x,h=>by cases h
 |(n,k)::r,acc,x,h=>by
  rw[xV];rw[Qc5]at h;cases hx:x == n with
  |true=>
   rw[hx]at h;have q:k=.free:=Option.some.inj h;refine vS (names:=r) ?_;rw[q,Qba (show(NameKind.free == NameKind.free)=true by rfl),Qc5,hx];exact⟨_,rfl⟩
  |false=>
   rw[hx]at h;exact Ju (names:=r) h
def qK{scope:Scope}{env:Env}(F:env.scope.kind=.function):∀{names:List (Str×NameKind)} {x:Str},names.lookup x=some .free->env.kindOf x=some .cell->
  (names.map fun(n,k)=>if(k == NameKind.free&&env.scope.kind == .function&&env.kindOf n == some .cell)=true then(n,NameKind.cell)else(n,k)).lookup x=some .cell
 |[],_,h,_=>by cases h
 |(n,k)::r,x,h,D=>by
  rw[Qc5]at h;show List.lookup x ((if(k == NameKind.free&&env.scope.kind == .function&&env.kindOf n == some .cell)=true then(n,NameKind.cell)else(n,k))::_)=_;cases hx:x == n with
  |true=>
   rw[hx]at h;have q:k=.free:=Option.some.inj h;have C:x=n:=by simpa using hx
   rw[q,F,<-C,D];simp[Qc5]
  |false=>
   rw[hx]at h;have G:=qK (scope:=scope) F (names:=r) h D
   by_cases I:(k == NameKind.free&&env.scope.kind == .function&&env.kindOf n == some .cell)=true
   ·grind
   ·grind
def Gn{env:Env}:∀{names:List (Str×NameKind)} {x:Str},names.lookup x=some .free->env.kindOf x=some .free->
  (names.map fun(n,k)=>if(k == NameKind.free&&env.scope.kind == .function&&env.kindOf n == some .cell)=true then(n,NameKind.cell)else(n,k)).lookup x=some .free
 |[],_,h,_=>by cases h
 |(n,k)::r,x,h,D=>by
  rw[Qc5]at h;show List.lookup x ((if(k == NameKind.free&&env.scope.kind == .function&&env.kindOf n == some .cell)=true then(n,NameKind.cell)else(n,k))::_)=_;cases hx:x == n with
  |true=>
   rw[hx]at h;have q:k=.free:=Option.some.inj h;have C:¬(k == NameKind.free&&env.scope.kind == .function&&env.kindOf n == some .cell)=true:=by
    grind
   rw[Qa4 C,Qc5,hx,q]
  |false=>
   rw[hx]at h;have F:=Gn (names:=r) h D
   by_cases C:(k == NameKind.free&&env.scope.kind == .function&&env.kindOf n == some .cell)=true
   ·grind
   ·grind
theorem qL{env:Env}:∀{names:List (Str×NameKind)} {x:Str},(∀y∈names,y.2≠.cell)->
    ((names.map fun(n,k)=>if(k == NameKind.free&&env.scope.kind == .function&&env.kindOf n == some .cell)=true then(n,NameKind.cell)else(n,k)).lookup x=some .cell \/
     (names.map fun(n,k)=>if(k == NameKind.free&&env.scope.kind == .function&&env.kindOf n == some .cell)=true then(n,NameKind.cell)else(n,k)).lookup x=some .free)->names.lookup x=some .free
  |[],_,_,h=>by rcases h with h|h<;>cases h
  |(n,k)::r,x,C,h=>by
    have D:=qL (env:=env) (names:=r) (x:=x) fun y q=>C y (Qak _ q)
    by_cases F:(k == NameKind.free&&env.scope.kind == .function&&env.kindOf n == some .cell)=true
    · grind
    · grind
def cxC(X:Cx)(N':Ai)(scope:Scope)(C:Au)(s₂:Aq)(H₂:Hp)(ex:List Au):Cx:=
 {X with N:=N',s₀:=s₂,H₀:=H₂,env:=compEnvC scope (xV X.env.cells scope.names []) C X.env,outer:=X.stack,stack:=X.stack,ex:=ex,fn:=fun _=>false,pn:=[],xe:=fun _ _=>False}
def qM(is:Aj)(σ:St)(v:Option V):St:=v::is.map fun i=>(σ[i]?).getD none
def Zoa(xs:Ai)(is:Aj)(σ:St):St:=xs.map (fun _=>none)++is.map fun i=>(σ[i]?).getD none
structure ZZ(S scope:Scope)(N:Ai)(x:Str)(ys:Ai)(is:Aj):Prop where
 kind:scope.kind=.function:=by rfl
 cell:∀y∈scope.names,y.2≠.cell:=by decide +kernel
 names:∀y∈scope.names,y.2=.local->scope.names.lookup y.1=some .local:=by decide +kernel
 own:scope.names.lookup x=some .local:=by rfl
 free:∀y∈scope.names,y.2=.free->S.names.lookup y.1=some .cell\/S.names.lookup y.1=some .free:=by decide +kernel
 vis:∀p∈ys.zip is,N[p.2]?=some p.1/\scope.names.lookup p.1=some .free:=by decide +kernel
 len:ys.length=is.length:=by rfl
 nd:(x::ys).Nodup:=by decide +kernel
def PF(X:Cx)(ifs:Al)(t:TT):Prop:=
 ∀(pins:Ac) (s:Aq) (σ:St) (H:Hp) (Q:Bool->Hp->Prop),Inv X pins σ H s->t σ H Q->
  A2 X (forIn ifs true fun c r=>if r=true then do let ok <-isTrue c X.env (eval c X.env);pure (ForInStep.yield ok)else pure (ForInStep.yield r)) (TP X pins σ Q) X.xe s
structure QF(X:Cx)(ifs:Al)(t:TT):Prop where
 out:PF X ifs t
def Zg5:TT:=fun _ H Q=>Q true H
def XO{X:Cx}:QF X [] Zg5:=⟨fun _ _ _ H _ I h=>wpAny_tests_nil ⟨H,I,h⟩⟩
def jM{X:Cx}{c:Av}{t:TT}(h:QT X c t):QF X [c] t:=⟨fun pins s σ H Q I hw=>wpAny_tests_one (h.out pins s σ H Q I hw)⟩
section
variable {X:Cx}{S scope:Scope}{N:Ai}{x:Str}{ys:Ai}{is:Aj}{pins:Ac}{σ:St}{H₂:Hp}{s₂:Aq}{fp:List Au}
theorem ZZ.cellOf'(K:ZZ S scope N x ys is)(q:X.env.scope=S)(ok:X.Ok):∀y∈scope.names,y.2=.free->∃c,X.env.cells.lookup y.1=some c:=fun y C h=>
 ok.has y.1 (by show X.env.scope.names.lookup y.1=_\/X.env.scope.names.lookup y.1=_;rw[q];exact K.free y C h)
theorem ZZ.cl(K:ZZ S scope N x ys is)(q:X.env.scope=S)(ok:X.Ok):∀y c,(xV X.env.cells scope.names []).lookup y=some c->X.env.cells.lookup y=some c:=
 Gm (K.cellOf' q ok) fun _ _ z=>by cases z
theorem uG{names:List (Str×NameKind)}{y:Str}{k:NameKind}(h:names.lookup y=some k):(y,k)∈names:=by
 induction names with
 |nil=>cases h
 |cons p r C=>
  obtain⟨n,q⟩:=p;rw[Qc5]at h;cases hx:y == n with
  |true=>
   rw[hx]at h;have e1:y=n:=by simpa using hx
   have e2:q=k:=Option.some.inj h;rw[e1,e2];exact Qan
  |false=>
   rw[hx]at h;exact Qak _ (C h)
theorem Zds{ns:Ai}(K:ZZ S scope N x ys is)(F:X.env.scope=S)(I:Inv X pins σ H₂ s₂)(G:s₂.heap.objs.size<=a)(q:∀b∈fp,xl X pins H₂ b)(D:∀b∈fp,b<s₂.heap.objs.size):(cxC X ns scope a s₂ H₂ fp).Ok where
 mod:=I.ok.mod
 kind:=K.kind
 glob:=I.ok.glob
 blt:=I.ok.blt
 above:=G
 inj:=fun y z c h1 h2=>I.ok.inj y z c (K.cl F I.ok y c h1) (K.cl F I.ok z c h2)
 has:=fun y J=>Ju (qL (env:=X.env) K.cell J)
 cab:=fun y c h=>by cases h
 hd:=I.ok.hd
 frames:=I.ok.frames
 stk:=.inl rfl
 exf:=fun b C=>⟨fun e=>absurd (Qbl (D b C) (Qa8 G (Qgm (Eq.symm e)))) (Qb4 _),fun y c h=>(q b C).2.2.2.2.1 y c (K.cl F I.ok y c h)⟩
 bs:=I.bs
 bsz:=Qa8 I.ok.bsz I.sz
 noex:=fun b o e C=>by
  rcases(q b C).2.2.2.1 with z|z
  ·exact I.ok.noex b o e z
  ·exact absurd (Qbl (Qar e) (Qa8 I.ok.bsz z)) (Qb4 _)
 exfs:=fun b C z=>by
  rcases Qaq.mp (I.stkSub b z)with e|e
  ·exact(q b C).2.1 e
  ·exact(q b C).2.2.1 e
 funs:=I.stack
 frf:=I.stkFree
def Zli(xs:Ai)(K:ZZ S scope N x ys is)(G:X.env.scope=S)(hN:X.N=N)(hk:S.kind=.function)(I:Inv X pins σ H₂ s₂){q:Heap}{tk:Nat}(hC:s₂.heap.objs.size<=a)(hD:s₂.heap.objs.size<=f)(hDC:f≠a)
  (hfp:∀b∈fp,xl X pins H₂ b) (hlt:∀b∈fp,b<s₂.heap.objs.size) (C:∀b o,s₂.heap.get? b=some o->q.get? b=some o) (hn:q.Ns a fun _=>none) (O:q.get? f=some Z) (hod:∀v,Z.data≠.cell v):
  Inv (cxC X (xs++ys) scope a s₂ H₂ fp) [(f,Z)] (Zoa xs is σ) H₂ {s₂ with heap:=q,toks:=tk}:=by
 have ok:=Zds (ns:=xs++ys) K G I hC hfp hlt;refine⟨ok,rfl,I.bare,Un.kept C,⟨_,hn,fun i y v h1 h2 h3=>?_⟩,fun y c h=>?_,I.hok.fresh hC,fun y c h=>I.freeC y c (K.cl G I.ok y c h),fun p hp=>?_,I.hok.kept C,?_⟩
 ·unfold Zoa at h2
  by_cases hi:i<xs.length
  ·grind
  ·have D:(xs++ys)[i]?=some y:=h1;rw[Qa2 (Qg6 hi)]at D;rw[Qa2 (by rw[Qad];exact Qg6 hi),Qad]at h2;generalize i-xs.length=i at D h2;have F:(is.map fun i=>(σ[i]?).getD none)[i]?=some (some v):=h2;rw[Qam]at F;cases hj:is[i]? with
   |none=>rw[hj]at F;cases F
   |some j=>
    have hσ:σ[j]?=some (some v):=by
     grind
    have hz:(y,j)∈ys.zip is:=by
     obtain⟨a1,e1⟩:=Qai.mp D;obtain⟨a2,e2⟩:=Qai.mp hj;rw[<-e1,<-e2,<-Qg7 (h:=by rw[Qcj];lia)];exact Qcv _
    obtain⟨v1,v2⟩:=K.vis _ hz;have J:X.env.kindOf y=some .cell\/X.env.kindOf y=some .free:=by show X.env.scope.names.lookup y=_\/X.env.scope.names.lookup y=_;rw[G];exact K.free _ (uG v2) rfl
    obtain⟨m,hm,hl⟩:=I.loc;obtain⟨u,r,l⟩:=hl j y v (by rw[hN];exact v1) hσ (.inr J);refine⟨u,r,.inr ?_⟩;rcases l with⟨l1,_⟩|⟨_,c,l2,l3⟩
    ·rcases J with J|J<;>rw[J]at l1<;>cases l1
    ·obtain⟨c',Y⟩:=Ju (cells:=X.env.cells) (acc:=[]) v2;have e:c'=c:=by have:=K.cl G I.ok y c' Y;rw[l2]at this;exact(Option.some.inj this).symm
     subst e;refine⟨J.imp (qK (scope:=scope) (by rw[G];exact hk) v2) (Gn v2),c',Y,?_⟩;obtain⟨o,ho,hd⟩:=l3;exact⟨o,C _ _ ho,hd⟩
 ·obtain⟨v,o,ho,hd⟩:=I.cell y c (K.cl G I.ok y c h);exact⟨v,o,C _ _ ho,hd⟩
 ·have e:p=(f,Z):=by simpa[cxC]using hp
  subst e;refine⟨O,I.hok.fresh hD,hDC,fun z=>?_,hod⟩;obtain⟨_,o,ho,_⟩:=ok.funs.mem z;exact absurd (Qbl (Qar ho) hD) (Qb4 _)
 ·show(Zoa xs is σ).length=(xs++ys).length;unfold Zoa;rw[Qaf,Qad,Qad,Qaf,K.len]
def Zlj(I:Inv X pins σ H₂ s₂){N':Ai}{J:St}{H':Hp}{pl:Ac}(G:Inv (cxC X N' scope a s₂ H₂ fp) pl J H' s)(Y:s₂.heap.objs.size<=f)(F:H' f=none)
  (C:∀b∈fp,xl X pins H₂ b)    (hz:U.length<=sizeLine) (r:Vals U R) (Z:s.heap.get? f=some {cls:=.type "list",data:=.seq R.toArray n}):
  Inv X pins σ (upd H' f (.lst U)) s:=by
 have b:Un (frs X.stack) fp H₂ H' s₂.heap s.heap:=G.base;have ne:∀c o,s₂.heap.get? c=some o->c≠f:=fun c o e z=>absurd (Qbl (Qar e) (Qa8 Y (Qgm (Eq.symm z)))) (Qb4 _);have O:H₂ f=none:=I.hok.fresh Y;refine I.call' G.os ⟨b.keep,b.slot,fun c o e n hx=>?_,b.there,fun c xs e=>?_,fun c o u e=>?_,fun c ps e=>?_⟩ (fun c u e=>?_) G.bare fun c D=>⟨(C c D).2.2.2.1,(C c D).2.1,(C c D).2.2.2.2.1,(C c D).2.2.2.2.2⟩
 ·rw[Zk (ne c o e)];exact b.free c o e n hx
 ·rw[Zk (Zm e O)];exact b.tups c xs e
 ·rw[Zk (Zm e O)];exact b.frzs c o u e
 ·rw[Zk (Zm e O)];exact b.tbls c ps e
 ·by_cases D:c=f
  ·subst D;rw[Za]at e;cases e;exact⟨hz,R,n,r,Z⟩
  ·rw[Zk D]at e;exact(G.hok c u e).stay (fun _ _ _ q=>q) (fun d q=>by rw[Zk (Zm q F)];exact q) fun d xs q=>by rw[Zk (Zm q F)];exact q
end
section
variable {prog:An}{w:Ar}{A:Ao}{R:Result->Shared->Prop}{s:Aq}
def Zdt{q iter:Av}{scope:Scope}{it acc:As}{env:Env}(I:Nat->Shared->Prop)
  (turn:∀n s,I n s->A1 prog w A (pyNext it) (fun r D=>match r with
   |none=>R (.ok .next) D
   |some v=>A1 prog w A (letOwnedTupleGo q it v) (fun _ C=>A1 prog w A (assign q env v) (fun _ s₂=>
     A1 prog w A (forIn B true fun c r=>if r=true then do let ok <-isTrue c env (eval c env);pure (ForInStep.yield ok)else pure (ForInStep.yield r)) (fun ok F=>
      if ok=true then A1 prog w A (eval o env) (fun x Y=>
       A1 prog w A (call (.builtin "list.append") [acc,x]) (fun _ O=>∃m,m<n/\I m O) (fun _ _=>False) Y) (fun _ _=>False) F
      else∃m,m<n/\I m F) (fun _ _=>False) s₂) (fun _ _=>False) C) (fun _ _=>False) D) (fun _ _=>False) s)
  (n:Nat) (h:I n s):
  codeAny (model prog w) A (.compLoop (.ListComp o [⟨q,iter,B,0⟩] scope p) 0 it acc env) R s:=by
 refine codeAny_loop rfl I (fun n s hI=>?_) n h;refine wpAny_noted ?_;have nf:∀{E:Ab} (e:As) (s':Aq),False->E e s':=fun _ _ z=>z.elim;refine Qaa (wpAny_standAt (Qaa (Qde (turn n s hI) (fun r D J=>?_) nf)));cases r with
 |none=>exact Qae J
 |some v=>
  refine Qaa (Qde J (fun _ C Z=>?_) nf);refine Qaa (Qde Z (fun _ s₂ h₂=>Qaa (Qde h₂ (fun ok F G=>?_) nf)) nf);cases ok with
  |false=>exact Qae ⟨rfl,G⟩
  |true=>
   exact Qaa (Qaa (Qde G (fun x Y h₄=>Qaa (Qde h₄ (fun _ O h₅=>Qae (Qae ⟨rfl,h₅⟩)) nf)) nf))
end
def uH(g:TG)(Sg:St->Prop)(tc:TT)(te:TE)(Q:VK)(J:It)(H1:Hp):Prop:=∃W:Nat->Nat->List V->Hp->Prop,(∃m,W 0 m [] H1)/\∀i m zs H,W i m zs H->
 (J.stop i H/\zs.length<=sizeLine/\∀p,H p=none->Q (.ref p) (upd H p (.lst zs))) \/
 (J.go i H/\zs.length<=sizeLine/\∀x H',J.yld i H x H'->∃q,Sg q/\(∀D,Sg D->g x D H' fun F H2=>F=q/\H2=H')/\tc q H' fun b H2=>if b=true then te q H2 fun y G=>∃C,C<m/\W (i+1) C (zs++[y]) G else∃C,C<m/\W (i+1) C zs H2)
structure Zg6(X:Cx)(S scope:Scope)(N:Ai)(x:Str)(ys:Ai)(is:Aj)(xs:Ai)(tg:Av)(g:TG)(Sg:St->St->Prop):Prop where
 sc:ZZ S scope N x ys is
 hX:X.env.scope=S
 hN:X.N=N
 hk:S.kind=.function
 hc:X.calm=true
 pg:∀C s₂ H₂ fp,PG (cxC X (xs++ys) scope C s₂ H₂ fp) tg g
 s0:∀σ,Sg σ (Zoa xs is σ)
def J9(is:Aj)(tc:TT)(te:TE)(σ:St)(Q:VK)(J:It)(H1:Hp):Prop:=∃W:Nat->Nat->List V->Hp->Prop,(∃m,W 0 m [] H1)/\∀i m zs H,W i m zs H->
 (J.stop i H/\zs.length<=sizeLine/\∀p,H p=none->Q (.ref p) (upd H p (.lst zs))) \/
 (J.go i H/\zs.length<=sizeLine/\∀x H',J.yld i H x H'->tc (qM is σ (some x)) H' fun b H2=>if b=true then te (qM is σ (some x)) H2 fun y C=>∃q,q<m/\W (i+1) q (zs++[y]) C else∃q,q<m/\W (i+1) q zs H2)
def Zob(wi:TI)(is:Aj)(tc:TT)(te:TE):TE:=fun σ H Q=>wi σ H (J9 is tc te σ Q)
section
variable {X:Cx}{S scope:Scope}{N:Ai}{x:Str}{ys:Ai}{is:Aj}{pins:Ac}{σ:St}{H₂:Hp}{s₂:Aq}{fp:List Au}{elt iter:Av}{px pos:Pos}{ifs:Al}{tc:TT}{te:TE}{xs:Ai}{tg:Av}{g:TG}{Sg:St->St->Prop}{wi:TI}{CW:St->VK->It->Hp->Prop}
def jN{J:It}{it:Au}{tn:Nat->Heap->Prop}{Q:VK}{RR:As->Addr->Result->Shared->Prop}{E:Ab}(L:Zg6 X S scope N x ys is xs tg g Sg)
  (hf:∀C s₂ H₂ ex,QF (cxC X (xs++ys) scope C s₂ H₂ ex) ifs tc) (he:∀C s₂ H₂ ex,QE (cxC X (xs++ys) scope C s₂ H₂ ex) elt te)
  (I:Inv X pins σ H₂ s₂) (T:Turn X.prog X.w X.K tg J fp it tn) (st:tn 0 s₂.heap) (hfp:∀b∈fp,xl X pins H₂ b)
  (hw:uH g (Sg σ) tc te Q J H₂)
  (fin:∀D C s' H' m',Inv X pins σ H' s'->xl X pins H' C->s'.heap.Ns C m'->Q (.ref D) H'->RR (.ref D) C (.ok .next) s'):
  A2 X (newList []) (fun acc Y=>A2 X (newFunctionEnv scope X.env.globals (xV X.env.cells scope.names []) [] X.env.qual none .none (some X.env)) (fun cenv s₄=>
   codeAny (model X.prog X.w) X.A (.compStart (.ListComp elt [⟨tg,iter,ifs,0⟩] scope pos) 0 (.ref it) acc {cenv with scope:=relabel scope X.env}) (RR acc cenv.locals) s₄) E Y) E s₂:=by
 obtain⟨W,⟨m0,w0⟩,turn⟩:=hw;have K:=L.sc;refine Qa9 (wpAny_newFunctionEnv K.cell (by intro y hy;simp at hy) (fun h₁ Z O=>?_) K.kind);generalize hH2:s₂.heap.push {cls:=.type "list",dict:=none,data:=.seq ([]:Ag).toArray}=H2 at Z O ⊢;have hCs:H2.objs.size=s₂.heap.objs.size+1:=by rw[<-hH2,Qb1]
 have hDC:s₂.heap.objs.size≠H2.objs.size:=by rw[hCs];exact Qbi (Qdv _)
 have hC:s₂.heap.objs.size<=H2.objs.size:=by rw[hCs];exact Qd0 _
 have hlt:∀b∈fp,b<s₂.heap.objs.size:=fun b G=>by obtain⟨o,e,_⟩:=T.obj 0 _ st b G;exact Qar e
 have old:∀b o,s₂.heap.get? b=some o->h₁.get? b=some o:=fun b o e=>O.extBut b o (by rw[hCs];exact Qbi (Qe4 (Qar e))) (Qab _ (hH2 ▸ Qab _ e));have hacc:h₁.get? s₂.heap.objs.size=some {cls:=.type "list",data:=.seq ([]:Ag).toArray 0}:=O.extBut _ _ hDC (Qab _ (hH2 ▸ Qao _ rfl));have st₁:tn 0 h₁:=T.keep _ _ _ st fun b _ o e=>old b o e;have fpC:∀{H':Hp} {pl:Ac},(∀p∈pl,∀b∈fp,p.1≠b)->(∀b∈fp,H' b=none)->∀b∈fp,xl (cxC X (xs++ys) scope H2.objs.size s₂ H₂ fp) pl H' b:=fun{H' pl} hpl hn b G=>by
  have ok:=Zds (ns:=xs++ys) K L.hX I hC hfp hlt;exact⟨hn b G,(ok.exf b G).1,ok.exfs b G,.inl G,(ok.exf b G).2,fun p hp=>hpl p hp b G⟩
 have Dfp:∀(o:Obj),∀p∈[(s₂.heap.objs.size,o)],∀b∈fp,p.1≠b:=fun o p hp b G e=>by
  grind
 have loop:∀Y:Aq,Y={s₂ with heap:=h₁,toks:=s₂.toks+([]:List (Str×As)).length}->
   codeAny (model X.prog X.w) X.A (.compLoop (.ListComp elt [⟨tg,iter,ifs,0⟩] scope pos) 0 (.ref it) (.ref s₂.heap.objs.size) (compEnvC scope (xV X.env.cells scope.names []) H2.objs.size X.env))
    (RR (.ref s₂.heap.objs.size) H2.objs.size) Y:=by
  rintro Y rfl;have I0:=Zli xs K L.hX L.hN L.hk I (tk:=s₂.toks+([]:List (Str×As)).length) hC (Qah _) hDC hfp hlt old Z hacc (fun v z=>by cases z);refine Zdt (fun n s'=>∃(i:Nat) (σ1:St) (zs:A0) (F:Ag) (k:Nat) (H':Hp),Inv (cxC X (xs++ys) scope H2.objs.size s₂ H₂ fp) [(s₂.heap.objs.size,{cls:=.type "list",data:=.seq F.toArray k})] σ1 H' s'/\Sg σ σ1 /\
   Vals zs F/\tn i s'.heap/\(∀b∈fp,H' b=none)/\W i n zs H') ?_ m0 ⟨0,_,[],[],0,H₂,I0,L.s0 σ,.nil,st₁,fun b G=>(hfp b G).1,w0⟩
  rintro n s3 ⟨i,σ1,zs,F,k,H3,I3,sg3,rv,st3,fr3,w3⟩;rcases turn i n zs H3 w3 with⟨stop,hz,q⟩|⟨go,hz,step⟩
  ·refine thn (T.done (cxC X (xs++ys) scope H2.objs.size s₂ H₂ fp) rfl rfl rfl L.hc i _ s3 _ H3 _ I3 (fpC (Dfp _) fr3) st3 stop) fun r s4 ⟨hr,I4⟩=>?_
   subst hr;have hD4:=I4.pin _ (Qaz _ (Qat.mpr rfl));have I5:=Zlj I I4 (Qah _) hD4.2.1 hfp hz rv hD4.1;obtain⟨m',hm',_⟩:=I4.loc;refine fin _ _ s4 _ m' I5 ?_ hm' (q _ hD4.2.1);refine I.fpOk hC ?_;rw[Zk (Qd8 hDC)];exact I4.free
  ·refine thn (T.item (cxC X (xs++ys) scope H2.objs.size s₂ H₂ fp) rfl rfl rfl L.hc i _ s3 _ H3 _ I3 (fpC (Dfp _) fr3) st3 go) fun r s4 ⟨u,hr,h4⟩=>?_
   subst hr;refine thn h4 fun _ s5 ⟨xv,H5,I5,r5,y5,st5,fr5⟩=>?_;have I5':=I5.pinned (fpC (Dfp _) fr5) (T.obj _ _ st5);obtain⟨σx,sgx,gx,stp⟩:=step xv H5 y5;refine thn (L.pg _ _ _ _ _ s5 _ H5 xv u (fun σ2 H2=>σ2=σx/\H2=H5) I5' r5 (gx _ sg3)) fun _ s6 ⟨σ6,H6,I6,e6,e6'⟩=>?_;subst e6;subst e6';have back:∀{s7:Aq} {H7:Hp},Inv (cxC X (xs++ys) scope H2.objs.size s₂ H₂ fp) ([(s₂.heap.objs.size,{cls:=.type "list",data:=.seq F.toArray k})]++vA fp s5.heap) (σ6) H7 s7->
     tn (i+1) s7.heap/\(∀b∈fp,H7 b=none)/\s7.heap.get? s₂.heap.objs.size=some {cls:=.type "list",data:=.seq F.toArray k}/\H7 s₂.heap.objs.size=none:=fun{s7 H7} I7=>by
    refine⟨T.keep _ _ _ st5 fun b G o e=>(I7.pin (b,o) (Qaz _ (Qaz _ (Js G e)))).1,fun b G=>?_,?_,?_⟩
    ·obtain⟨o,e,d⟩:=T.obj _ _ st5 b G;exact(I7.pin (b,o) (Qaz _ (Qaz _ (Js G e)))).2.1
    ·exact(I7.pin (s₂.heap.objs.size,{cls:=.type "list",data:=.seq F.toArray k}) (Qaz _ (Qb3 _ (Qat.mpr rfl)))).1
    ·exact(I7.pin (s₂.heap.objs.size,{cls:=.type "list",data:=.seq F.toArray k}) (Qaz _ (Qb3 _ (Qat.mpr rfl)))).2.1
   refine thn ((hf _ _ _ _).out _ s6 _ H6 _ I6 stp) fun b s7 ⟨H7,I7,q7⟩=>?_;cases b with
   |false=>
    have q7':∃m',m'<n/\W (i+1) m' zs H7:=by simpa using q7
    obtain⟨m',hm',w7⟩:=q7';obtain⟨b1,b2,b3,b4⟩:=back I7;exact⟨m',hm',i+1,_,zs,F,k,H7,I7.unpinned,sgx,rv,b1,b2,w7⟩
   |true=>
    have q7':=q7;refine thn ((he _ _ _ _).out _ s7 _ H7 _ I7 q7') fun yv s8 ⟨y,H8,I8,r8,m',hm',w8⟩=>?_;obtain⟨b1,b2,b3,b4⟩:=back I8;refine append_at b3 (fun h9 sb9 e9=>?_) (by rw[Qax,<-rv.length];exact hz);have ok:=Zds (ns:=xs++ys) K L.hX I hC hfp hlt;have I8':Inv (cxC X (xs++ys) scope H2.objs.size s₂ H₂ fp) [] (σ6) H8 s8:=I8.pins_of fun p hp=>by cases hp
    have I9:Inv (cxC X (xs++ys) scope H2.objs.size s₂ H₂ fp) [] (σ6) H8 {s8 with heap:=h9}:=I8'.turned (t':=s8.toks) (it:=s₂.heap.objs.size) (fun b o G e=>(sb9.2 b G).trans e) b4 hDC (.inr (Qah _))
     (fun y c h z=>by
      obtain⟨v,o,ho,_⟩:=I.cell y c (K.cl L.hX I.ok y c h);have:=Qar ho;rw[z]at this;exact Qb4 _ this) (fun p hp=>by cases hp)
    refine⟨m',hm',i+1,_,zs++[y],F++[yv],k+1,H8,?_,sgx,rv.append (.cons r8 .nil),T.keep _ _ _ b1 fun b G o e=>(sb9.2 b fun z=>absurd (hlt b G) (by rw[z];exact Qb4 _)).trans e,b2,w8⟩;refine I9.pins_of fun p hp=>?_;have e1:p=(s₂.heap.objs.size,{cls:=.type "list",data:=.seq (F++[yv]).toArray (k+1)}):=by simpa using hp
    subst e1;refine⟨by rw[e9,List.push_toArray],b4,hDC,fun z=>?_,fun v z=>by cases z⟩;obtain⟨_,o,ho,_⟩:=ok.funs.mem z;exact absurd (Qar ho) (Qb4 _)
 exact codeAny_compStart_list (loop _ rfl) (T.self _ 0 _ _ _ st₁ (loop _ rfl))
end
section
variable {X:Cx}{S scope:Scope}{N:Ai}{x:Str}{ys:Ai}{is:Aj}{elt iter:Av}{px pos:Pos}{ifs:Al}{wi:TI}{tc:TT}{te:TE}{xs:Ai}{tg:Av}{g:TG}{Sg:St->St->Prop}{CW:St->VK->It->Hp->Prop}
def Zg7(L:Zg6 X S scope N x ys is xs tg g Sg)(cv:∀σ Q J H,CW σ Q J H->uH g (Sg σ) tc te Q J H)(hi:QI X tg iter wi)(hf:∀C s₂ H₂ ex,QF (cxC X (xs++ys) scope C s₂ H₂ ex) ifs tc)(he:∀C s₂ H₂ ex,QE (cxC X (xs++ys) scope C s₂ H₂ ex) elt te)
  (hs:∀v,foldedSetIterable iter X.env v=pure v:=by intro _;rfl):
  QE X (.ListComp elt [⟨tg,iter,ifs,0⟩] scope pos) (fun σ H Q=>wi σ H (CW σ Q)):=by
 refine⟨fun pins s σ H Q I h=>?_⟩;refine wpAny_comprehension_free (use:=none) rfl hs (Jt (L.sc.cellOf' L.hX I.ok)) L.sc.kind L.sc.names (thn (hi.out pins s σ H _ I h) fun v s1 h1=>thn h1 fun itv s2 h2=>?_);obtain⟨it,fp,tn,J,H2,rfl,Z,T,F,f2,w2⟩:=h2;refine jN (RR:=fun acc C=>compPost (model X.prog X.w) X.A X.xe none (EP X pins σ Q) acc C) L hf he Z T F f2 (cv _ _ _ _ w2) ?_;intro D C s' H' m' I' Y O q;obtain⟨f0,f1,f3,f4,f5,f6⟩:=Y;exact⟨m',O,fun h' G=>⟨.ref D,H',I'.turned (t':=s'.toks) (fun b o hb e=>(G.2 b hb).trans e) f0 f1 f4 f5 f6,rfl,q⟩⟩
def Zg8{y:Str}{spos:Pos}(hNd:X.N.Nodup)(hy:X.N[i]?=some y)(hl:X.env.scope.names.lookup y=some .local)(L:Zg6 X S scope N x ys is xs tg g Sg)(cv:∀σ Q J H,CW σ Q J H->uH g (Sg σ) tc te Q J H)(hi:QI X tg iter wi)
  (hf:∀C s₂ H₂ ex,QF (cxC X (xs++ys) scope C s₂ H₂ ex) ifs tc) (he:∀C s₂ H₂ ex,QE (cxC X (xs++ys) scope C s₂ H₂ ex) elt te)
  (Y:swapsWith (.ListComp elt [⟨tg,iter,ifs,0⟩] scope pos) (some (.Name y q)) spos.line X.env=pure true:=by rfl)
  (hs:∀v,foldedSetIterable iter X.env v=pure v:=by intro _;rfl):
  QS X (.Assign [.Name y q] (.ListComp elt [⟨tg,iter,ifs,0⟩] scope pos) spos) (Znx (fun σ H Q=>wi σ H (CW σ Q)) (qc i)):=by
 refine⟨fun pins s σ H D I h=>?_⟩;rw[exec_Assign_Name_used _ _ _ _ Y];refine Qaa (wpAny_standAt (Qaa ?_));refine Qaa (thn (wpAny_comprehension_free (use:=some (assign (.Name y q) X.env)) (Q:=fun _ s'=>SP X pins D .next s') rfl hs (Jt (L.sc.cellOf' L.hX I.ok)) L.sc.kind L.sc.names
  (thn (hi.out pins s σ H _ I h) fun v s1 h1=>thn h1 fun itv s2 h2=>?_)) fun _ s' hq=>Qae (Qae hq))
 obtain⟨it,fp,tn,J,H2,rfl,I2,T,st2,f2,w2⟩:=h2;refine jN (RR:=fun acc C=>compPost (model X.prog X.w) X.A X.xe (some (assign (.Name y q) X.env)) (fun _ s'=>SP X pins D .next s') acc C) (Q:=fun v H=>D.nx (σ.set i (some v)) H) L hf he I2 T st2 f2 (cv _ _ _ _ w2) ?_;intro Dl C s' H' m' I' fC hm' F;obtain⟨f0,f1,f3,f4,f5,f6⟩:=fC;obtain⟨oC,es,ep,hoC,hdC,O⟩:=hm';have Ip:Inv X (pins++[(C,oC)]) σ H' s':=I'.pins_of fun p hp=>(Qbb.mp hp).elim (fun z=>I'.pin p (Qaz _ z)) fun z=>by
  grind
 refine wpAny_assign_Name (Gj Ip hNd hy (.inl hl) (v:=.ref Dl) rfl (fun s'' G=>?_) (.inr hl));have hC2:=(G.pin (C,oC) (Qaz _ (Qaz _ (Qat.mpr rfl)))).1;refine⟨m',⟨oC,es,ep,hC2,hdC,O⟩,fun h' Z=>⟨_,H',G.unpinned.turned (t':=s''.toks) (fun b o hb e=>(Z.2 b hb).trans e) f0 f1 f4 f5 f6,F⟩⟩
theorem Zjm(K:ZZ S scope N x ys is)(G:X.env.scope=S)(C:X.N=N)(F:S.kind=.function)(D:X.calm=true):Zg6 X S scope N x ys is [x] (.Name x px) (qc 0) (fun σ q=>∃v,q=qM is σ v):=
 ⟨K,G,C,F,D,fun _ _ _ _=>Zcu K.nd rfl (.inl (lookup_relabel_local K.own)) (.inr (lookup_relabel_local K.own)),fun _=>⟨none,rfl⟩⟩
theorem Zoc:∀σ Q J H,J9 is tc te σ Q J H->uH (qc 0) (fun q=>∃v,q=qM is σ v) tc te Q J H:=fun σ Q J H ⟨W,C,t⟩=>
 ⟨W,C,fun i m zs H w=>(t i m zs H w).imp_right fun z=>⟨z.1,z.2.1,fun x H' y=>⟨qM is σ (some x),⟨_,rfl⟩,fun q ⟨v,e⟩=>e ▸ ⟨rfl,rfl⟩,z.2.2 x H' y⟩⟩⟩
def Y0(K:ZZ S scope N x ys is)(hi:QI X (.Name x px) iter wi)(O:∀C s₂ H₂ ex,QF (cxC X (x::ys) scope C s₂ H₂ ex) ifs tc)(q:∀C s₂ H₂ ex,QE (cxC X (x::ys) scope C s₂ H₂ ex) elt te)
  (D:X.calm=true:=by rfl) (J:X.env.scope=S:=by rfl) (F:X.N=N:=by rfl) (I:S.kind=.function:=by rfl) (G:∀v,foldedSetIterable iter X.env v=pure v:=by intro _;rfl):
  QE X (.ListComp elt [⟨.Name x px,iter,ifs,0⟩] scope pos) (Zob wi is tc te):=
 Zg7 (Zjm K J F I D) Zoc hi O q G
def wR{y:Str}(D:X.N.Nodup)(I:X.N[i]?=some y)(G:X.env.scope.names.lookup y=some .local)(K:ZZ S scope N x ys is)(hi:QI X (.Name x px) iter wi)
  (J:∀C s₂ H₂ ex,QF (cxC X (x::ys) scope C s₂ H₂ ex) ifs tc) (O:∀C s₂ H₂ ex,QE (cxC X (x::ys) scope C s₂ H₂ ex) elt te)
  (F:swapsWith (.ListComp elt [⟨.Name x px,iter,ifs,0⟩] scope pos) (some (.Name y p)) q.line X.env=pure true:=by rfl)
  (Y:X.calm=true:=by rfl) (hX:X.env.scope=S:=by rfl) (Z:X.N=N:=by rfl) (hk:S.kind=.function:=by rfl) (hs:∀v,foldedSetIterable iter X.env v=pure v:=by intro _;rfl):
  QS X (.Assign [.Name y p] (.ListComp elt [⟨.Name x px,iter,ifs,0⟩] scope pos) q) (Znx (Zob wi is tc te) (qc i)):=
 Zg8 D I G (Zjm K hX Z hk Y) Zoc hi J O F hs
end
def wU{J:It}{is:Aj}{Q:VK}(n:Nat)(D:Nat->List V->Hp->Prop)(O:D 0 [] H)(I:∀i zs H,D i zs H->zs.length<=sizeLine)
  (Z:∀i zs H (R:A0->Hp->Prop),(∀zs H,D (i+1) zs H->R zs H)->i<n->D i zs H->J.go i H/\∀x H',J.yld i H x H'->C (qM is c (some x)) H' fun b H2=>if b=true then d (qM is c (some x)) H2 fun y Y=>R (zs++[y]) Y else R zs H2)
  (hd:∀zs H,D n zs H->J.stop n H/\∀p,H p=none->Q (.ref p) (upd H p (.lst zs))):J9 is C d c Q J H:=by
 refine⟨fun i m zs H=>m=n-i/\i<=n/\D i zs H,⟨n,by simp,Qbp _,O⟩,?_⟩;rintro i m zs H ⟨rfl,hi,p⟩
 by_cases F:i<n
 ·have z:=Z i zs H (fun zs H=>∃G,G<n-i/\G=n-(i+1)/\i+1<=n/\D (i+1) zs H) (fun zs H q=>⟨n-(i+1),by lia,rfl,F,q⟩) F p;exact .inr ⟨z.1,I i zs H p,z.2⟩
 ·grind
theorem qf{lo:Int}{is:Aj}{Q:VK}(q:Nat->List V->Hp->Prop)(G:q 0 [] H)(F:∀i zs H,q i zs H->zs.length<=sizeLine)
  (J:∀i zs H (R:A0->Hp->Prop),(∀zs H,q (i+1) zs H->R zs H)->i<n->q i zs H->C (qM is c (some (.int (lo+i)))) H fun b H2=>if b=true then d (qM is c (some (.int (lo+i)))) H2 fun y I=>R (zs++[y]) I else R zs H2)
  (D:∀zs H,q n zs H->∀p,H p=none->Q (.ref p) (upd H p (.lst zs))):
  J9 is C d c Q (Itr lo n) H:=
 wU n q G F (fun i zs H R k hi p=>⟨hi,fun x H' ⟨e,y⟩=>by subst e y;exact J i zs _ R k hi p⟩) fun zs H p=>⟨Qah _,D zs H p⟩
theorem Jv{xs:A0}{is:Aj}{Q:VK}(q:Nat->List V->Hp->Prop)(I:q 0 [] H)(G:∀i zs H,q i zs H->zs.length<=sizeLine)(D:∀i zs H,q i zs H->SqT K H a xs)
  (O:∀i x zs H (R:A0->Hp->Prop),(∀zs H,q (i+1) zs H->R zs H)->xs[i]?=some x->q i zs H->C (qM is c (some x)) H fun b H2=>if b=true then d (qM is c (some x)) H2 fun y J=>R (zs++[y]) J else R zs H2)
  (F:∀zs H,q xs.length zs H->∀p,H p=none->Q (.ref p) (upd H p (.lst zs))):
  J9 is C d c Q (Itt K a) H:=
 wU xs.length q I G (fun i zs H R k hi p=>⟨⟨xs,xs[i],D i zs H p,Qac hi⟩,fun x H' ⟨e,y⟩=>e ▸ O i x zs H R k (y xs (D i zs H p)) p⟩) fun zs H p=>⟨⟨xs,D _ zs H p,Qah _⟩,F zs H p⟩
end L2
namespace HT
section
variable {prog:An}{w:Ar}{A:Ao}{E:Ab}{s:Aq}
def adjust_rev(n:Nat):Builtin.Slice.sliceAdjust none none (-1) (n:Int)=((n:Int)-1,-1):=rfl
def Zbc(n:Nat):Builtin.Slice.slicePlaces ((n:Int)-1) (-1) (-1)=n:=by
 unfold Builtin.Slice.slicePlaces;have h1:¬((-1:Int)>0):=by lia
 have e:(- -1:Int)=1:=by decide
 split<;>lia
theorem uI{α β:Type}{f g:α->Option β}:∀{l:List α},(∀x∈l,f x=g x)->l.filterMap f=l.filterMap g
 |[],_=>rfl
 |x::r,h=>by
  rw[Qek,Qek,h x Qan,uI fun y q=>h y (Qak _ q)]
def Zg9(xs:Ah):((List.range xs.size).filterMap fun(m:Nat)=>xs[((xs.size:Int)-1+(m:Int) * -1).toNat]?).toArray=xs.toList.reverse.toArray:=by
 congr 1;have e:((List.range xs.size).filterMap fun(m:Nat)=>xs[((xs.size:Int)-1+(m:Int) * -1).toNat]?)=((List.range xs.size).map fun k=>xs.size-1-k).filterMap (xs[·]?):=by
  rw[List.filterMap_map];refine uI fun m q=>?_;have e:((xs.size:Int)-1+(m:Int) * -1).toNat=xs.size-1-m:=by lia
  rw[e];rfl
 rw[e,PySem.W.krv_range,List.filterMap_reverse,PySem.W.krv_all]
def xm{t:Tok}{Q:Int×Int×Nat->Shared->Prop}(F:s.heap.IsSliceOf a .none .none (.int (-1) t))(h:Q ((n:Int)-1,-1,n) s):
  A1 prog w A (Builtin.Slice.sliceApplied (.ref a) (pure (n:Int))) Q E s:=by
 obtain⟨os,q,D,C⟩:=id F;refine Qaa (Qaa (Qbv q C (x:=.none) rfl (Qaa (Qbv q C (x:=.none) rfl (Qaa (Qbv q C (x:=.int (-1) t) rfl (Qae ?_)))))));refine Qaa (slicePart_int ?_);refine Qaa (Qgq (Qaa (Qgq (Qaa (Qae ?_)))));show wpAny _ _ (match Builtin.Slice.sliceAdjust none none (-1) (n:Int)with|(lo,hi)=>pure (lo,(-1:Int),Builtin.Slice.slicePlaces lo hi (-1))) _ _ s;show wpAny _ _ (pure ((n:Int)-1,(-1:Int),Builtin.Slice.slicePlaces ((n:Int)-1) (-1) (-1))) _ _ s;rw[Zbc];exact Qae h
def getItem_tuple_rev{t:Au}{u:Tok}{items:Ah}(C:IsTup s.heap t items)(J:s.heap.IsSliceOf a .none .none (.int (-1) u))
  (h:Q (.ref s.heap.objs.size) {s with heap:=s.heap.push {cls:=.type "tuple",data:=.seq items.toList.reverse.toArray}})
  (hsz:items.size<=sizeLine):A1 prog w A (getItem (.ref t) (.ref a)) Q E s:=by
 have q:sizeOk (.seq items.toList.reverse.toArray):=by
  show items.toList.reverse.toArray.size<=sizeLine;rw[Qax,Qc6,Qbr];exact hsz
 obtain⟨os,D,G,O⟩:=id J;have F:s.TypeIs (.ref a) "slice" :=⟨os,D,G⟩;unfold getItem;try with_reducible refine Qcl ?_
 first|refine Qaa (Qae ?_)|skip
 refine Qaa (Qgt C.typeIs (by decide) ?_);refine Qaa (wpAny_callSpecial?_slot (name:=Str.ofString "__getitem__") C.typeIs Qbg
  (Qbn Qbg C.typeIs Qgc ?_ (Qgl _ _)))
 show wpAny _ _ (Builtin.Tuple.tupleItemsOf (.ref t) >>= _) _ _ s;refine Qaa (tupleItemsOf_ C ?_);refine Qaa (Qes F ?_);refine Qaa (xm J ?_);have I:¬((((items.size:Int)-1) == 0&&(-1:Int) == 1&&items.size == items.size)=true):=by
  grind
 show wpAny _ _ (if((((items.size:Int)-1) == 0&&(-1:Int) == 1&&items.size == items.size))=true then _ else _) _ _ s;rw[Qa4 I,Zg9]
 first
  |exact Qaa (m:=Builtin.Tuple.tupleExact _) (Qa9 (Qae ⟨_,rfl,Qae h⟩) q)
  |exact Qaa (m:=Builtin.Tuple.tupleExact _) (Qa9 (Qaa (Qae (Qae ⟨_,rfl,Qae h⟩))) q)
  |exact Qaa (Qaa (m:=Builtin.Tuple.tupleExact _) (Qa9 (Qae (Qae ⟨_,rfl,Qae h⟩)) q))
  |exact Qaa (Qaa (m:=Builtin.Tuple.tupleExact _) (Qa9 (Qae ⟨_,rfl,Qae h⟩) q))
end
end HT
namespace L2
section
variable {X:Cx}{e st:Av}{te ts:TE}{pos p2:Pos}
def RvR(X:Cx)(r:V->Hp->VK->Prop):Prop:=
 ∀(pins:Ac) (s:Aq) (σ:St) (H:Hp) (x:V) (v:As) (t:Tok) (q:Au) (Q:VK),Inv X pins σ H s->RelV x v->s.heap.IsSliceOf q .none .none (.int (-1) t)->r x H Q->
  ∃T id,typeLookup (.type T) "__getitem__" = pure (some (.builtin id))/\s.TypeIs v T/\A2 X (getItem v (.ref q)) (EP X pins σ Q) X.xe s
def tRv(r:V->Hp->VK->Prop)(te ts:TE):TE:=fun σ H Q=>te σ H fun x H1=>ts σ H1 fun y H2=>y=.int (-1)/\r x H2 Q
def qe_rev{r:V->Hp->VK->Prop}(hr:RvR X r)(he:QE X e te)(D:QE X st ts):QE X (.Subscript e (.Slice none none (some st) p2) pos) (tRv r te ts):=by
 refine⟨fun pins s σ H Q I h=>?_⟩;refine Subscript_ (thn (he.out pins s σ H _ I h) fun v Z ⟨x,H1,I1,G,q1⟩=>?_);refine wpAny_Slice ?_;refine Qae ?_;refine Qae ?_;refine thn (D.out pins Z σ H1 _ I1 q1) fun vs C ⟨y,F,J,O,e3,q3⟩=>?_;subst e3;obtain⟨t,rfl⟩:=O;have I4:Inv X pins σ F {C with heap:=C.heap.push {cls:=.type "slice",data:=.fields #[.none,.none,.int (-1) t]}}:=J.kept (t':=C.toks) fun b ob q=>Qab _ q;obtain⟨T,id,hT,Y,hg⟩:=hr pins {C with heap:=C.heap.push {cls:=.type "slice",data:=.fields #[.none,.none,.int (-1) t]}} σ F x v t C.heap.objs.size Q I4 G (Heap.IsSliceOf.new ..) q3;exact tail_any (ops:=[v,.ref C.heap.objs.size]) Y hT hg (by with_unfolding_all rfl)
def rRvT(K:Af):V->Hp->VK->Prop:=fun x H Q=>∃a xs,x=.ref a/\SqT K H a xs/\∀p,H p=none->Q (.ref p) (upd H p (.tup xs.reverse))
def rv_tup:RvR X (rRvT X.K):=by
 intro pins s σ H x v t Y Q I J O h;obtain⟨a,xs,rfl,G,q⟩:=h;cases J;obtain⟨D,r,F,hz⟩:=I.tuple G;have C:D.toArray.size=xs.length:=by exact r.length.symm
 refine⟨"tuple",_,Qbg.lookup,F.typeIs,?_⟩;refine HT.getItem_tuple_rev F O ?_ (by rw[C];exact hz);refine⟨.ref s.heap.objs.size,_,I.laid (t':=s.toks) (o:=.tup xs.reverse) (fun b ob q=>Qab _ q) (Qah _) ?_,rfl,q _ (I.hok.fresh (Qah _))⟩;exact⟨by rw[Qc6];exact hz,_,r.reverse,wG.new _ _⟩
def all_true(n:Nat):((List.range n).all fun _=>true)=true:=by simp
end
def uJ{k:Nat}{A:Ao}(q:WT k A):A.units<cLine:=q.units0
end L2
namespace RvT
def owner_rev:Manifest.owners.lookup (String.ofList ['d','e','s','r','e','v','e','r'].reverse)=some Manifest.sig_reversed:=by kernel_rfl
theorem slot_next:Slot "reversed" "__next__" "reversed.__next__" :=
 .of (owner:= "reversed") (n:= "__next__") (by kernel_rfl) (by decide +kernel) (by decide +kernel) (by decide +kernel)
  (by first|exact .inl (by decide +kernel)|exact .inr (by decide +kernel)) (by kernel_rfl)
def entry_next:entryFor table "reversed.__next__" = some Builtin.«reversed.__next__»:=entryFor_of_tree (by kernel_rfl)
def args_next (a:As):argsOk "reversed.__next__" ⟨[a],[]⟩:=by
 kernel_rfl
theorem vT:Slot "reversed" "__iter__" "reversed.__iter__" :=
 .of (owner:= "reversed") (n:= "__iter__") (by kernel_rfl) (by decide +kernel) (by decide +kernel) (by decide +kernel)
  (by first|exact .inl (by decide +kernel)|exact .inr (by decide +kernel)) (by kernel_rfl)
def Zdu (a:As):argsOk "reversed.__iter__" ⟨[a],[]⟩:=by
 kernel_rfl
theorem Zbd:entryFor table "reversed.__iter__" = some Builtin.«dict_keyiterator.__iter__» :=
 entryFor_alias (id':= "dict_keyiterator.__iter__") (by kernel_rfl) (by first|rfl|decide +kernel|(unfold String.splitOn;simp +decide [String.splitOnAux])) (by decide +kernel) (by kernel_rfl)
theorem Zdv:Slot "reversed" "__init__" "object.__init__" :=
 .of (owner:= "object") (n:= "__init__") (by kernel_rfl) (by decide +kernel) (by decide +kernel) (by decide +kernel)
  (by first|exact .inl (by decide +kernel)|exact .inr (by decide +kernel)) (by kernel_rfl)
theorem called:TypeCalled "reversed" "reversed.__new__" "object.__init__" :=
 ⟨by decide +kernel,F.create_reversed,⟨_,_,F.mro_reversed⟩,F.made_reversed,F.plain_reversed_new,F.sub_reversed_self,Zdv⟩
def wV:typeLookup (.type "tuple") "__reversed__" = pure none:=by kernel_rfl
def sub_tuple_dict:isSubtype (.type "tuple") (.type "dict")=pure false:=by kernel_rfl
def revObj (t:Au) (i:Int):Obj:={cls:=.type "reversed",data:=.fields #[.ref t,rawInt i]}
def IsRev (h:Heap) (a t:Au) (i:Int):Prop:=∃o,h.get? a=some o/\o.cls=.type "reversed" /\ o.data=.fields #[.ref t,rawInt i]
def IsRev.typeIs  {t:Au} {i:Int} (x:IsRev s.heap a t i):s.TypeIs (.ref a) "reversed" :=let⟨o,ho,hc,_⟩:=x;⟨o,ho,hc⟩
def IsRev.at{h h':Heap}{t:Au}{i:Int}(x:IsRev h a t i)(e:∀o,h.get? a=some o->h'.get? a=some o):IsRev h' a t i:=let⟨o,ho,r⟩:=x;⟨o,e _ ho,r⟩
section
variable {prog:An}{w:Ar}{A:Ao}{E:Ab}{s:Aq}
theorem Ja(t:Au)(items:Ah)(hz:items.size<2^63):
  Meets (Builtin.«reversed.__new__» ⟨[.type "reversed",.ref t],[]⟩) (fun _ R s=>IsTup s.heap t items/\∀tk,R (.ok (.ret (.ref s.heap.objs.size))) {s with heap:=s.heap.push (revObj t ((items.size:Int)-1)),toks:=tk}):=
 .of_wp fun prog w A R s h=>by
  obtain⟨q,h⟩:=h;refine Qaa (Qdc (newClass_reversed _) ?_);refine Qaa (Qdc (a:=()) (by first|rfl|kernel_rfl) ?_);refine Qaa (Qdc (a:=()) (by first|rfl|kernel_rfl) ?_);refine Qaa (Qdq q.typeIs wV ?_);refine Qaa ?_;refine Qaa (Qdh (T:= "tuple") (b:=false) q.typeIs sub_tuple_dict ?_);refine Qaa (Qdq q.typeIs Qbg.lookup ?_);refine Qae ?_;refine Qaa (len_tuple q (by lia) ?_);refine Qaa (Qdc (a:=some (items.size:Int)) rfl ?_);refine Qaa (m:=newObj (.type "reversed") (.fields #[.ref t,rawInt ((items.size:Int)-1)])) (Qa9 ?_);exact Qae ⟨_,rfl,h _⟩
theorem call_rev{t:Au}{items:Ah}(C:IsTup s.heap t items)(hz:items.size<2^63)(h:∀tk,Q (.ref s.heap.objs.size) {s with heap:=s.heap.push (revObj t ((items.size:Int)-1)),toks:=tk}):
  A1 prog w A (call (.type "reversed") [.ref t]) Q E s:=
 Qha called (by decide) (F.typeCall_reversed_1 _) (F.newCall_reversed_1 _) (fun q=>Qf0 q _) F.entry_reversed_new (Ja t items hz)
  ⟨C,fun tk=>⟨⟨_,Qao _ rfl,rfl⟩,h tk⟩⟩
def next_item{it t:Au}{items:Ah}{x:As}{Q:Aa}(q:IsRev s.heap it t (i:Int))(G:IsTup s.heap t items)(hi:(i:Int)<2^63)(F:items[i]?=some x)(I:t≠it)
  (O:∀h' tk,IsRev h' it t ((i:Int)-1)->Heap.SameBut it s.heap h'->Q (some x) {s with heap:=h',toks:=tk}):A1 prog w A (pyNext (.ref it)) Q E s:=by
 obtain⟨o,D,J,C⟩:=id q;refine Qaa (Qdn (wpAny_callSpecial?_slot (name:=Str.ofString "__next__") q.typeIs slot_next
  (Qbn slot_next q.typeIs entry_next ?_ (args_next _))))
 refine Qaa (Qdc (a:=(Value.ref it,[])) rfl ?_);refine Qaa (Qbv D C (x:=.ref t) rfl ?_);refine Qaa (Qbv D C (x:=rawInt (i:Int)) rfl ?_);show wpAny _ _ (if(i:Int)<0 then _ else _) _ _ s;refine Qaa (Qdq G.typeIs Qbg.lookup ?_);refine Qaa (Qg0 ?_);have hsz:=(Array.getElem?_eq_some_iff.mp F).1;refine Qaa (Qdn (getItem_tuple (s:={s with toks:=s.toks+1}) (j:=i) G (by lia) hi (by rw[seqIndex_of (by lia) (by lia),Qav]) F ?_));refine Qaa (Qbv (s:={s with toks:=s.toks+1}) D C (x:=rawInt (i:Int)) rfl ?_);refine Qaa (Qda (s:={s with toks:=s.toks+1}) D C (by simp) ?_);refine Qae ⟨x,rfl,Qae (O _ _ ?_ (Qcc ..))⟩;exact⟨_,Qbk _ D (Qct (Qbs C _)),(Qe5 ..).trans J,by
  rw[Qbs C];simp⟩
def next_end{it t:Au}{Q:Aa}(hh:A.handled=none)(q:IsRev s.heap it t (-1))
  (I:∀h',(∀b o,b≠it->s.heap.get? b=some o->h'.get? b=some o)->Q none {s with heap:=h'}):A1 prog w A (pyNext (.ref it)) Q E s:=by
 obtain⟨o,D,J,C⟩:=id q;refine Qaa (Qdn (wpAny_callSpecial?_slot (name:=Str.ofString "__next__") q.typeIs slot_next
  (Qbn slot_next q.typeIs entry_next ?_ (args_next _))))
 refine Qaa (Qdc (a:=(Value.ref it,[])) rfl ?_);refine Qaa (Qbv D C (x:=.ref t) rfl ?_);refine Qaa (Qbv D C (x:=rawInt (-1)) rfl ?_);show wpAny _ _ (if(-1:Int)<0 then _ else _) _ _ s;refine Qaa (Qdk ?_);refine Qaa ?_;refine Qaa (Qda D C (by simp) ?_);have F:=Qbk (Obj.mapFields (·.setIfInBounds 1 (rawInt (-1)))) D (Qct (Qbs C _));refine Qda F (Qbs C _) (by simp) ?_
 first
 |show wpAny _ _ (newExc (.type "StopIteration") [] >>= _) _ _ _
 |(refine Qaa ?_)
 refine Qaa ?_;refine Qaa (Qa9 ?_ (by size_fits));refine Qaa (m:=firstArgMember _ _) (Qdc (a:=Value.none) (by first|rfl|(rfl)) ?_);refine Qa9 ?_ (by size_fits);refine Qaa (Qg1 ?_)
 first|rw[show A.in1.handled=none from hh]|rw[hh]
 refine Qaa (Qae (Qhd ?_));refine Qaa (Qdh (T:= "StopIteration") (b:=true) ⟨_,Qao _ rfl,rfl⟩ Qfs ?_);refine Qae (I _ fun b ob G e=>?_);exact Qab _ (Qab _ ((Qbw _ _ (Qd8 G)).trans ((Qbw _ _ (Qd8 G)).trans e)))
def iter_self{it t:Au}{i:Int}(q:IsRev s.heap it t i)(h:Q (.ref it) s):A1 prog w A (pyIter (.ref it)) Q E s:=by
 refine Qfq q.typeIs vT (Qbn vT q.typeIs Zbd ?_ (Zdu _));exact Qae ⟨_,rfl,"reversed",_,q.typeIs,slot_next.lookup,h⟩
end
end RvT
namespace L2
def Itv(K:Af)(a:Au)(n:Nat):It:=
 ⟨fun i H=>∃xs x,SqT K H a xs/\xs.length=n/\xs.reverse[i]?=some x,fun i H x H'=>H'=H/\∀xs,SqT K H a xs->xs.reverse[i]?=some x,fun i _=>i=n⟩
def Zha{tg:Av}(a it:Au)(n:Nat)(J:a≠it):Turn P w K tg (Itv K a n) [it] it (fun i h=>RvT.IsRev h it a ((n:Int)-1-(i:Int)))where
 mem:=by simp
 obj:=fun i h st b C=>by
  have e:b=it:=by simpa using C
  subst e;obtain⟨o,e,c,d⟩:=st;exact⟨o,e,fun v z=>by rw[d]at z;cases z⟩
 keep:=fun i h h' st k=>st.at fun o e=>k it (by simp) o e
 item:=by
  intro X G hw hK hc i pins s σ H E I D st hg;subst G hw hK;obtain⟨xs,x,hq,hn,hx⟩:=hg;obtain⟨its,rv,p,hz⟩:=I.tuple hq;have hi:i<xs.length:=by
   grind
  have F:xs[xs.length-1-i]?=some x:=by grind
  obtain⟨u,hu,ru⟩:=rv.get F;obtain⟨f0,f1,f2,Z,Y,f5⟩:=D it (by simp);have O:(n:Int)-1-(i:Int)=((xs.length-1-i:Nat):Int):=by lia
  have hl:=xQ;rw[O]at st;refine RvT.next_item (items:=its.toArray) (x:=u) st p (by lia) (by simpa using hu) J fun h' tk q sb=>?_;have I1:Inv X pins σ H {s with heap:=h',toks:=tk}:=I.turned (fun b o C e=>(sb.2 b C).trans e) f0 f1 Z Y f5;have e1:((xs.length-1-i:Nat):Int)-1=(n:Int)-1-((i+1:Nat):Int):=by lia
  rw[e1]at q;obtain⟨o,e,c,d⟩:=id q;exact⟨u,rfl,v9 (s:={s with heap:=h',toks:=tk}) e c d (by decide) ⟨x,H,I1,ru,⟨rfl,fun ys hy=>by rw[I.tuple_inj hy hq];exact hx⟩,q,fun b C=>(D b C).1⟩⟩
 done:=by
  intro X G hw hK hc i pins s σ H E I D st hg;subst G hw hK;obtain⟨f0,f1,f2,Z,Y,f5⟩:=D it (by simp);have hg':i=n:=hg;have O:(n:Int)-1-(i:Int)=-1:=by lia
  rw[O]at st;exact RvT.next_end (I.ok.hd hc) st fun h' eb=>⟨rfl,I.turned (t':=s.toks) (fun b o C e=>eb b o C e) f0 f1 Z Y f5⟩
 self:=fun _ _ _ _ _ st h=>RvT.iter_self st h
inductive Zjn(K:Af)(R:It->Hp->Prop)(x:V)(H1:Hp):Prop
 |mk (a xs:_):(x=.ref a)->(SqT K H1 a xs)->(R (Itv K a xs.length) H1)->Zjn K R x H1
def iRev(K:Af)(te:TE):TI:=fun σ H R=>te σ H fun x H1=>Zjn K R x H1
def Zdw {X:Cx} {tg:Av}   (hg:Gl X "reversed") (hm:X.mg "reversed" = none) (Z:QE X e d) (hp:ZX e=true:=by rfl):QI X tg (.Call (.Name "reversed" p) [e] [] q) (iRev X.K d):=by
 refine⟨fun pins s σ H R I h=>?_⟩;have O:starEach [e] X.env=[(false,eval e X.env)]:=by rw[Zz hp];rfl
 refine Call_ (JF I hg hm wO (Qci ?_ O rfl));rw[O];refine Qcs (thn (Z.out pins s σ H _ I h) fun u C ⟨x,H1,J,ru,q1⟩=>?_);refine Qdy ?_;obtain⟨a,xs,rfl,hq,G⟩:=q1;cases ru;obtain⟨D,rv,pt,hz⟩:=J.tuple hq;have hl:=xQ;have F:=rv.length;refine RvT.call_rev pt (by rw[Qax];lia) fun tk=>?_;have Y:Inv X pins σ H1 {C with heap:=C.heap.push (RvT.revObj a ((D.toArray.size:Int)-1)),toks:=tk}:=J.kept fun b o e=>Qab _ e;have e0:(xs.length:Int)-1-((0:Nat):Int)=(D.toArray.size:Int)-1:=by rw[Qax,<-F];lia
 have st:RvT.IsRev (C.heap.push (RvT.revObj a ((D.toArray.size:Int)-1))) C.heap.objs.size a ((xs.length:Int)-1-((0:Nat):Int)):=by
  rw[e0];exact⟨_,Qao _ rfl,rfl,rfl⟩
 refine RvT.iter_self st ⟨C.heap.objs.size,[C.heap.objs.size],_,_,H1,rfl,Y,Zha a _ xs.length (Qbi pt.lt),st,fun b hb=>?_,G⟩;have e:b=C.heap.objs.size:=by simpa using hb
 subst e;exact J.fpOk (Qah _) (J.hok.fresh (Qah _)) |> fun f=>f
theorem Zdx{xs:A0}{g:TG}(q:Nat->St->Hp->Prop)(G:q 0 c H)(D:∀i c H,i<=xs.length->q i c H->SqT K H a xs)
  (I:∀i x c H,xs.reverse[i]?=some x->q i c H->g x c H fun C H2=>A {E with nx:=q (i+1),ct:=q (i+1),bk:=E.nx} C H2) (F:∀c H,q xs.length c H->E.nx c H):
  Zgm (Itv K a xs.length) g A E c H:=
 qH xs.length q G (fun i c H hi p=>⟨⟨xs,xs.reverse[i]'(by rw[Qc6];exact hi),D i c H (Qau hi) p,rfl,Qac _⟩,fun x H' ⟨e,y⟩=>e ▸ I i x c H (y xs (D i c H (Qau hi) p)) p⟩) fun c H p=>⟨rfl,F c H p⟩
end L2
namespace HT
section
variable {prog:An}{w:Ar}{A:Ao}{E:Ab}{s:Aq}
def getItem_tuple_whole{t:Au}{items:Ah}{vu:As}{lo hi:Option Int}(C:IsTup s.heap t items)(I:s.heap.IsSliceOf a v vu .none)(pl:IsPart v lo)(J:IsPart vu hi)
  (hw:sIx items.size 0 lo=0/\sIx items.size items.size hi=items.size) (h:Q (.ref t) s):A1 prog w A (getItem (.ref t) (.ref a)) Q E s:=by
 obtain⟨os,D,G,O⟩:=id I;have F:s.TypeIs (.ref a) "slice" :=⟨os,D,G⟩;unfold getItem;try with_reducible refine Qcl ?_
 first|refine Qaa (Qae ?_)|skip
 refine Qaa (Qgt C.typeIs (by decide) ?_);refine Qaa (wpAny_callSpecial?_slot (name:=Str.ofString "__getitem__") C.typeIs Qbg
  (Qbn Qbg C.typeIs Qgc ?_ (Qgl _ _)))
 show wpAny _ _ (Builtin.Tuple.tupleItemsOf (.ref t) >>= _) _ _ s;refine Qaa (tupleItemsOf_ C ?_);refine Qaa (Qes F ?_);refine Qaa (WC I pl J ?_);have q:(((sIx items.size 0 lo:Nat):Int) == 0&&(1:Int) == 1&&(sIx items.size items.size hi-sIx items.size 0 lo) == items.size)=true:=by
  rw[hw.1,hw.2];simp
 show wpAny _ _ (if(((sIx items.size 0 lo:Nat):Int) == 0&&(1:Int) == 1&&(sIx items.size items.size hi-sIx items.size 0 lo) == items.size)=true then _ else _) _ _ s;rw[Qba q];refine Qaa (m:=Builtin.Tuple.tupleIsExact (.ref t)) (Qaa (Qes C.typeIs (Qae ?_)))
 first
  |exact Qaa (Qdk (Qaa (Qae (Qae ⟨_,rfl,Qae h⟩))))
  |exact Qaa (Qdk (Qae ⟨_,rfl,Qae h⟩))
  |exact Qaa (Qdk (Qaa (Qae ⟨_,rfl,Qae h⟩)))
end
end HT
namespace L2
inductive Zjo(K:Af)(x:V)(lo:Option Int)(hi:Option Int)(H:Hp)(Q:VK):Prop
 |mk (a xs:_):(x=.ref a)->(SqT K H a xs)->((HT.sIx xs.length 0 lo=0/\HT.sIx xs.length xs.length hi=xs.length))->(Q (.ref a) H)->Zjo K x lo hi H Q
def rSlW(K:Af):V->Option Int->Option Int->Hp->VK->Prop:=fun x lo hi H Q=>Zjo K x lo hi H Q
def y6:SlR X (rSlW X.K):=by
 intro pins s σ H x v Z vu lo hi sl Q I O Y pl G h;obtain⟨a,xs,rfl,J,hw,q⟩:=h;cases O;obtain⟨D,r,F,hz⟩:=I.tuple J;have C:D.toArray.size=xs.length:=by exact r.length.symm
 refine⟨"tuple",_,Qbg.lookup,F.typeIs,?_⟩;exact HT.getItem_tuple_whole F Y pl G (by rw[C];exact hw) ⟨.ref a,H,I,rfl,q⟩
def Zjp:SlR X (fun x lo hi H Q=>∃z,x=.str z/\z.length<=sizeLine/\Q (.str (Txt.slice z lo hi)) H):=by
 intro pins s σ H x v Y vu lo hi Z Q I O C pl G h;obtain⟨z,rfl,hz,q⟩:=h;obtain⟨t,rfl⟩:=O;refine⟨"str",_,F.slot_str_getitem.lookup,typeIs_str _ _ _,?_⟩;have fin:∀t' k,EP X pins σ Q (.str (Txt.slice z lo hi) t') {s with toks:=k}:=fun t' k=>⟨.str _,H,I.tok _,⟨_,rfl⟩,q⟩;cases pl with
 |none=>
  cases G with
  |none=>exact Qel (l:=none) (u:=none) (st:=none) C rfl (Qgd ⟨Qa8 (Qfu z _ _) hz,fin⟩)
  |int j D=>exact Qel (l:=none) (u:=some (j,D)) (st:=none) C rfl (Qgd ⟨Qa8 (Qfu z _ _) hz,fin⟩)
 |int i J=>
  cases G with
  |none=>exact Qel (l:=some (i,J)) (u:=none) (st:=none) C rfl (Qgd ⟨Qa8 (Qfu z _ _) hz,fin⟩)
  |int j D=>exact Qel (l:=some (i,J)) (u:=some (j,D)) (st:=none) C rfl (Qgd ⟨Qa8 (Qfu z _ _) hz,fin⟩)
theorem qg{ys:Ai}:∀{q:Ag},Vals (ys.map V.str) q->StrsAre q ys:=by
 induction ys with
 |nil=>intro q r;cases r;exact .nil
 |cons n ns F=>
  intro q r;cases r with
  |cons C D=>
   obtain⟨t,e⟩:=C;subst e;exact .cons n t (F D)
def Zlk:MtR X "str.join" (fun x vs H Q=>∃(z:Str) (p:Au) (ys:Ai),x=.str z/\vs=[.ref p]/\SqL X.K H p (ys.map V.str)/\(ys.map (·.length)).sum+ys.length*z.length<=16777216/\Q (.str (Txt.join z ys)) H):=by
 intro pins s σ H x vs v Z Q I O G h;obtain⟨z,p,ys,rfl,rfl,Y,C,q⟩:=h;obtain⟨t,rfl⟩:=O;obtain⟨u,rfl,D⟩:=vals1 G;cases D;obtain⟨J,F,pl,hz⟩:=I.list Y;exact join_list pl.isList (qg F) C fun t' k=>⟨.str _,H,I.tok _,⟨_,rfl⟩,q⟩
theorem Gp{xs:A0}{is:Aj}{Q:VK}(q:Nat->List V->Hp->Prop)(I:q 0 [] H)(G:∀i zs H,q i zs H->zs.length<=sizeLine)(D:∀i zs H,q i zs H->SqL K H a xs)
  (O:∀i x zs H (R:A0->Hp->Prop),(∀zs H,q (i+1) zs H->R zs H)->xs[i]?=some x->q i zs H->C (qM is c (some x)) H fun b H2=>if b=true then d (qM is c (some x)) H2 fun y J=>R (zs++[y]) J else R zs H2)
  (F:∀zs H,q xs.length zs H->∀p,H p=none->Q (.ref p) (upd H p (.lst zs))):
  J9 is C d c Q (Itl K a) H:=
 wU xs.length q I G (fun i zs H R k hi p=>⟨⟨xs,xs[i],D i zs H p,Qac hi⟩,fun x H' ⟨e,y⟩=>e ▸ O i x zs H R k (y xs (D i zs H p)) p⟩) fun zs H p=>⟨⟨xs,D _ zs H p,Qah _⟩,F zs H p⟩
def Its(x:Str):It:=⟨fun i _=>i<x.cps.size,fun i H v H'=>H'=H/\∃c,x.cps[i]?=some c/\v=.str ⟨#[c]⟩,fun i _=>i=x.cps.size⟩
def Zhb    {tg:Av} (it:Au) (x:Str) (t:Tok) (T:String) (hT:T = "str_ascii_iterator" \/ T = "str_iterator"):Turn P w K tg (Its x) [it] it (fun i h=>h.IsStrIter it T x t i)where
 mem:=by simp
 obj:=fun i h st b q=>by
  have e:b=it:=by simpa using q
  subst e;obtain⟨o,e,c,d⟩:=st;exact⟨o,e,fun v z=>by rw[d]at z;cases z⟩
 keep:=fun i h h' st k=>let⟨o,ho,r⟩:=st;⟨o,k it (by simp) o ho,r⟩
 item:=by
  intro X hP hw hK F i pins s σ H E I O st hg;subst hP hw hK;obtain⟨f0,Z,f2,J,G,Y⟩:=O it (by simp);rcases hT with rfl|rfl
  ·refine(Walks.strAscii (prog:=X.prog) (w:=X.w) (I.ok.hd F) it x t).item i s _ _ hg st fun v h' tk hv C kk=>?_
   obtain⟨c,u,D,rfl⟩:=hv;have I1:Inv X pins σ H {s with heap:=h',toks:=tk}:=I.turned (fun b o q e=>kk b o (by simpa using q) e) f0 Z J G Y;obtain⟨o,e,cc,d⟩:=id C;exact⟨_,rfl,v9 (s:={s with heap:=h',toks:=tk}) e cc d (by decide) ⟨.str ⟨#[c]⟩,H,I1,⟨_,rfl⟩,⟨rfl,c,D,rfl⟩,C,fun b q=>(O b q).1⟩⟩
  ·refine(Walks.strWide (prog:=X.prog) (w:=X.w) (I.ok.hd F) it x t).item i s _ _ hg st fun v h' tk hv C kk=>?_
   obtain⟨c,u,D,rfl⟩:=hv;have I1:Inv X pins σ H {s with heap:=h',toks:=tk}:=I.turned (fun b o q e=>kk b o (by simpa using q) e) f0 Z J G Y;obtain⟨o,e,cc,d⟩:=id C;exact⟨_,rfl,v9 (s:={s with heap:=h',toks:=tk}) e cc d (by decide) ⟨.str ⟨#[c]⟩,H,I1,⟨_,rfl⟩,⟨rfl,c,D,rfl⟩,C,fun b q=>(O b q).1⟩⟩
 done:=by
  intro X hP hw hK F i pins s σ H E I O st hg;subst hP hw hK;obtain⟨f0,Z,f2,J,G,Y⟩:=O it (by simp);have hg':i=x.cps.size:=hg;subst hg';rcases hT with rfl|rfl
  ·exact(Walks.strAscii (prog:=X.prog) (w:=X.w) (I.ok.hd F) it x t).done s _ _ st fun h' tk kk=>⟨rfl,I.turned (t':=tk) (fun b o q e=>kk b o (by simpa using q) e) f0 Z J G Y⟩
  ·exact(Walks.strWide (prog:=X.prog) (w:=X.w) (I.ok.hd F) it x t).done s _ _ st fun h' tk kk=>⟨rfl,I.turned (t':=tk) (fun b o q e=>kk b o (by simpa using q) e) f0 Z J G Y⟩
 self:=fun A i s Q E st h=>by
  rcases hT with rfl|rfl
  ·exact wpAny_pyIter_striter_ascii st h
  ·exact wpAny_pyIter_striter_wide st h
inductive Zjq(R:It->Hp->Prop)(v:V)(H1:Hp):Prop
 |mk (x:_):(v=.str x)->(R (Its x) H1)->Zjq R v H1
def iStr(te:TE):TI:=fun σ H R=>te σ H fun v H1=>Zjq R v H1
def qi_str{X:Cx}{tg l:Av}(O:QE X l d):QI X tg l (iStr d):=by
 refine⟨fun pins s σ H R I h=>?_⟩;refine thn (O.out pins s σ H _ I h) fun v C ⟨y,H1,D,F,G⟩=>?_;obtain⟨x,rfl,q⟩:=G;obtain⟨t,rfl⟩:=F;have go:∀(o:Obj) (T:String),(T = "str_ascii_iterator" \/ T = "str_iterator")->(C.heap.push o).IsStrIter C.heap.objs.size T x t 0->PIE X pins σ tg R (.ref C.heap.objs.size) {C with heap:=C.heap.push o}:=fun o T J st=>
  ⟨C.heap.objs.size,[C.heap.objs.size],_,_,H1,rfl,D.kept (t':=C.toks) fun b o e=>Qab _ e,Zhb _ x t T J,st,fun b Y=>by
   have e:b=C.heap.objs.size:=by simpa using Y
   subst e;exact D.fpOk (Qah _) (D.hok.fresh (Qah _)),q⟩
 cases ha:x.cps.all (· < 128)
 ·exact wpAny_pyIter_wide ha (go _ "str_iterator" (.inr rfl) ⟨_,Qao _ rfl,rfl,rfl⟩)
 ·exact wpAny_pyIter_ascii ha (go _ "str_ascii_iterator" (.inl rfl) ⟨_,Qao _ rfl,rfl,rfl⟩)
def Zdy (hc:X.calm=true):X3 X (.builtin "all") (fun xs H Q=>∃(p:Au) (bs:List Bool),xs=[.ref p]/\SqL X.K H p (bs.map V.bl)/\Q (.bl (bs.all id)) H):=by
 intro pins s σ H xs us Q I r h;obtain⟨p,bs,rfl,hq,q⟩:=h;obtain⟨u,rfl,rx⟩:=vals1 r;cases rx;obtain⟨C,Z,pl,hz⟩:=I.list hq;have J:=pl.isList;have Y:p<s.heap.objs.size:=by obtain⟨_,e,_⟩:=J;exact Qar e
 have D:=Z.length;rw[Qad]at D;refine call_all_walk (Qe3 J ?_);refine⟨s.heap.objs.size,[s.heap.objs.size,p],[s.heap.objs.size],C.toArray.size,_,_,fun i=>(bs[i]?).getD true,rfl,Walks.list (A:=X.A.in1) (I.ok.hd hc) _ p (Qbi Y) C.toArray,
  ⟨⟨_,Qao _ rfl,rfl,rfl⟩,J.push _⟩,fun i v s' Q' E' hP hQ=>?_,fun h' tk hk=>?_⟩
 ·have hi:C[i]?=some v:=by simpa using hP
  have G:i<bs.length:=by grind
  obtain⟨w',e1,e2⟩:=Z.get (show(bs.map V.bl)[i]?=some (V.bl bs[i]) by rw[Qam,Qac G];rfl);rw[hi]at e1;cases e1;cases e2;simp only[Qac G,Option.getD_some]at hQ;exact Qc7 hQ
 ·have e:((List.range C.toArray.size).all fun i=>(bs[i]?).getD true)=bs.all id:=by
   rw[Qax,<-D,Qc2,Qb8,Qb8];constructor
   ·intro z b G;obtain⟨i,hi,rfl⟩:=Qge G;have:=z i (Qcp.mpr hi);simpa[Qac hi]using this
   ·intro z i hi;have F:=Qcp.mp hi;have:=z _ (Qcv F);simpa[Qac F]using this
  rw[e];refine⟨.bl (bs.all id),H,I.kept (t':=tk) (fun b o O=>hk b o (fun hm=>?_) (Qab _ O)),rfl,q⟩;rw[Qat.mp hm]at O;exact absurd (Qar O) (Qb4 _)
theorem Jb:∀{q:Ag} {ys:Ai},StrsAre q ys->Vals (ys.map V.str) q
 |_,_,.nil=>.nil
 |_,_,.cons y t h=>.cons ⟨t,rfl⟩ (Jb h)
def vU:X3 X (.builtin "sorted") (fun xs H Q=>∃(p:Au) (F:Ai),xs=[.ref p]/\SqL X.K H p (F.map V.str)/\F.length<64 /\
  ∀(l:Au) (C:Ai),H l=none->C.Perm F->sortedS C=true->Q (.ref l) (upd H l (.lst (C.map V.str)))):=by
 intro pins s σ H xs us Q I r h;obtain⟨p,F,rfl,hq,hn,q⟩:=h;obtain⟨u,rfl,Z⟩:=vals1 r;cases Z;obtain⟨G,O,pl,hz⟩:=I.list hq;have D:=O.length;rw[Qad]at D;refine sorted_strs pl.isList (qg O) (by lia) fun out C hi J hs=>?_;obtain⟨e,Y⟩:=sortedAll_at s.heap G out;refine⟨.ref (s.heap.objs.size+1),_,I.laid (t':=s.toks) (o:=.lst (C.map V.str)) (fun b o e=>sortedAll_old e) (Qd0 _) ?_,rfl,q _ C (I.hok.fresh (Qd0 _)) J hs⟩;have hm:C.length=F.length:=J.length_eq;exact⟨by grind,out.toList,e,Jb hi,by simpa using Y⟩
def Zjr:bootBuiltins "abs" = some (.builtin "abs"):=by decide +kernel
def Zll:bootBuiltins "dict" = some (.type "dict"):=by decide +kernel
def bt_max:bootBuiltins "max" = some (.builtin "max"):=by decide +kernel
def bt_min:bootBuiltins "min" = some (.builtin "min"):=by decide +kernel
def uK{t u:TS}(J:Az)(h1:∀N:Az,(∀c H,J c H->N c H)->t {E with nx:=N} c H)(h2:∀c H,J c H->u E c H):Yl t u E c H:=h1 _ h2
def take_snoc{xs:List m}{x:m}(h:xs[i]?=some x):xs.take (i+1)=xs.take i++[x]:=by
 rw[List.take_succ,h];rfl
def wW{xs:A0}{is:Aj}{Q:VK}(p:V->Bool)(f:V->V)(J:SqL K H a xs)(hz:xs.length<=sizeLine)
  (G:∀x∈xs,∀R:Bool->Hp->Prop,R (p x) H->C (qM is c (some x)) H R)
  (F:∀x∈xs,p x=true->∀R:VK,R (f x) H->d (qM is c (some x)) H R)
  (I:∀l,H l=none->Q (.ref l) (upd H l (.lst ((xs.filter p).map f)))):J9 is C d c Q (Itl K a) H:=by
 refine Gp (xs:=xs) (fun i zs H'=>zs=((xs.take i).filter p).map f/\H'=H) ⟨rfl,rfl⟩ ?_ ?_ ?_ ?_
 ·grind
 ·grind
 ·rintro i x zs H' R hR q ⟨rfl,rfl⟩;have D:=Qag q;have e:=take_snoc q;refine G x D _ ?_;cases hp:p x with
  |true=>
   refine(Qba rfl:(if true=true then _ else _)=_) ▸ F x D hp _ (hR _ _ ⟨?_,rfl⟩);rw[e,Qdd,Qbd,Qcw,Qba hp];rfl
  |false=>
   refine(Qa4 Qa6:(if false=true then _ else _)=_) ▸ hR _ _ ⟨?_,rfl⟩;rw[e,Qdd,Qbd,Qcw,Qa4 (by rw[hp];exact Qa6)];simp
 ·grind
def comp_map{xs:A0}{is:Aj}{Q:VK}(f:V->V)(C:SqL K H a xs)(hz:xs.length<=sizeLine)
  (q:∀x∈xs,∀R:VK,R (f x) H->d (qM is c (some x)) H R)
  (D:∀l,H l=none->Q (.ref l) (upd H l (.lst (xs.map f)))):J9 is Zg5 d c Q (Itl K a) H:=by
 refine wW (fun _=>true) f C hz (fun x _ R h=>h) (fun x F _=>q x F) fun l G=>?_;rw[List.filter_eq_self.mpr fun _ _=>rfl];exact D l G
def Zdz{lo:Int}{is:Aj}{Q:VK}(f:Nat->V)(hz:n<=sizeLine)
  (q:∀i,i<n->∀R:VK,R (f i) H->d (qM is c (some (.int (lo+i)))) H R)
  (C:∀l,H l=none->Q (.ref l) (upd H l (.lst ((List.range n).map f)))):J9 is Zg5 d c Q (Itr lo n) H:=by
 refine qf (fun i zs H'=>i<=n/\zs=(List.range i).map f/\H'=H) ⟨Qbp _,rfl,rfl⟩ ?_ ?_ ?_
 ·grind
 ·rintro i zs H' R hR hi ⟨_,rfl,rfl⟩;unfold Zg5;refine q i hi _ (hR _ _ ⟨hi,?_,rfl⟩);rw[Qd1,Qbd];rfl
 ·grind
def vV{xs:A0}{is:Aj}{Q:VK}(f:V->V)(F:SqT K H a xs)(hz:xs.length<=sizeLine)
  (C:∀x∈xs,∀R:VK,R (f x) H->d (qM is c (some x)) H R)
  (D:∀l,H l=none->Q (.ref l) (upd H l (.lst (xs.map f)))):J9 is Zg5 d c Q (Itt K a) H:=by
 refine Jv (xs:=xs) (fun i zs H'=>zs=(xs.take i).map f/\H'=H) ⟨rfl,rfl⟩ ?_ ?_ ?_ ?_
 ·grind
 ·grind
 ·rintro i x zs H' R hR q ⟨rfl,rfl⟩;unfold Zg5;refine C x (Qag q) _ (hR _ _ ⟨?_,rfl⟩);rw[take_snoc q,Qbd];rfl
 ·grind
section
variable {κ:Type}[DecidableEq κ]
def Yd(kvs:List (κ×V))(k:κ):Option V:=(kvs.find? fun q=>decide (q.1=k)).map (·.2)
def putK(kvs:List (κ×V))(k:κ)(v:V):List (κ×V):=
 if(kvs.any fun q=>decide (q.1=k))=true then kvs.map (fun q=>if q.1=k then(q.1,v)else q)else kvs++[(k,v)]
def Ym{p:κ×V}{r:List (κ×V)}{k:κ}(e:p.1=k):Yd (p::r) k=some p.2:=by simp[Yd,Qd2,e]
def Ye{p:κ×V}{r:List (κ×V)}{k:κ}(e:¬p.1=k):Yd (p::r) k=Yd r k:=by simp[Yd,Qd2,e]
theorem Wu(k:κ):∀kvs:List (κ×V),(kvs.any fun q=>decide (q.1=k))=(Yd kvs k).isSome
 |[]=>rfl
 |p::r=>by
  rw[Qf7]
  by_cases e:p.1=k
  ·simp only[Ym e,Qal e,Bool.true_or,Option.isSome_some]
  ·rw[Ye e,Qaj e,Bool.false_or];exact Wu k r
theorem uL(k j:κ)(y:V):∀kvs:List (κ×V),Yd (kvs.map fun q=>if q.1=k then(q.1,y)else q) j=(Yd kvs j).map fun x=>if j=k then y else x
 |[]=>rfl
 |p::r=>by
  have C:=uL k j y r;rw[Qbx]
  by_cases h:p.1=k
  ·rw[Qba h]
   by_cases e:p.1=j
   ·rw[Ym (p:=(p.1,y)) e,Ym e,Qeu,Qba (e.symm.trans h)]
   ·rw[Ye (p:=(p.1,y)) e,Ye e,C]
  ·rw[Qa4 h]
   by_cases e:p.1=j
   ·rw[Ym (p:=p) e,Ym e,Qeu,Qa4 (fun z=>h (e.trans z))]
   ·rw[Ye (p:=p) e,Ye e,C]
theorem xW(k j:κ)(y:V):∀kvs:List (κ×V),Yd kvs k=none->Yd (kvs++[(k,y)]) j=if j=k then some y else Yd kvs j
 |[],_=>by
  by_cases e:k=j
  ·rw[Qba e.symm];exact Ym (p:=(k,y)) e
  ·rw[Qa4 (fun z=>e z.symm)];exact Ye (p:=(k,y)) e
 |p::r,q=>by
  rw[Qfw];have C:¬p.1=k:=fun z=>by rw[Ym z]at q;cases q
  rw[Ye C]at q;have D:=xW k j y r q
  by_cases e:p.1=j
  ·rw[Ym e,Ym e,Qa4 (fun z=>C (e.trans z))]
  ·rw[Ye e,Ye e,D]
def xC(kvs:List (κ×V))(k j:κ)(y:V):Yd (putK kvs k y) j=if j=k then some y else Yd kvs j:=by
 unfold putK
 by_cases a:(kvs.any fun C=>decide (C.1=k))=true
 ·rw[Qba a,uL];rw[Wu]at a
  by_cases e:j=k
  ·obtain⟨x,D⟩:=Option.isSome_iff_exists.mp a;rw[Qba e,e,D,Qeu,Qba rfl]
  ·rw[Qa4 e];cases Yd kvs j with
   |none=>rfl
   |some x=>rw[Qeu,Qa4 e]
 ·rw[Qa4 a];refine xW k j y kvs ?_;rw[Wu]at a;cases q:Yd kvs k with
  |none=>rfl
  |some x=>rw[q]at a;exact(a rfl).elim
def Xj(kvs:List (κ×V))(k:κ)(v:V):(putK kvs k v).length<=kvs.length+1:=by
 unfold putK;split
 ·rw[Qad];lia
 ·grind
def uM{kvs:List (κ×V)}{k:κ}(v:V)(h:Yd kvs k=none):putK kvs k v=kvs++[(k,v)]:=by
 unfold putK;rw[Wu,h];exact Qa4 (by decide)
def yt.isSome_eq{o:Option V}{u:Option As}(r:yt o u):o.isSome=u.isSome:=by
 cases o with
 |none=>cases u with
  |none=>rfl
  |some _=>exact(show False from r).elim
 |some _=>cases u with
  |none=>exact(show False from r).elim
  |some _=>rfl
def yt.getD{o:Option V}{u:Option As}{d:V}{d':As}(r:yt o u)(rd:RelV d d'):RelV (o.getD d) (u.getD d'):=by
 cases o with
 |none=>cases u with
  |none=>exact rd
  |some _=>exact(show False from r).elim
 |some _=>cases u with
  |none=>exact(show False from r).elim
  |some _=>exact r
theorem KV.val{kvs:List (κ×V)}{vs:List (κ×As)}(r:KV kvs vs)(k:κ):yt (Yd kvs k) (valueAt vs k):=by
 induction r with
 |nil=>exact True.intro
 | @cons p q ps D h t F=>
  obtain⟨h1,h2⟩:=h
  by_cases e:p.1=k
  ·have C:q.1=k:=h1.symm.trans e;have b:valueAt (q::D) k=some q.2:=by simp[valueAt,Qd2,C]
   rw[Ym e,b];exact h2
  ·have C:¬q.1=k:=fun z=>e (h1.trans z)
   have b:valueAt (q::D) k=valueAt D k:=by simp[valueAt,Qd2,C]
   rw[Ye e,b];exact F
theorem KV.any{kvs:List (κ×V)}{vs:List (κ×As)}(r:KV kvs vs)(k:κ):(kvs.any fun q=>decide (q.1=k))=vs.any fun q=>decide (q.1=k):=by
 induction r with
 |nil=>rfl
 |cons h t C=>rw[Qf7,Qf7,C,h.1]
theorem KV.repl{kvs:List (κ×V)}{vs:List (κ×As)}(r:KV kvs vs)(k:κ){u:As}(F:RelV y u):
  KV (kvs.map fun C=>if C.1=k then(C.1,y)else C) (vs.map fun C=>if C.1=k then(C.1,u)else C):=by
 induction r with
 |nil=>exact .nil
 | @cons p q ps G h t D=>
  refine .cons ?_ D;obtain⟨h1,h2⟩:=h
  by_cases e:p.1=k
  ·grind
  ·grind
def KV.put{kvs:List (κ×V)}{vs:List (κ×As)}(r:KV kvs vs)(k:κ){u:As}(q:RelV y u):KV (putK kvs k y) (stored vs k u):=by
 unfold putK stored;rw[r.any k]
 by_cases e:(vs.any fun C=>decide (C.1=k))=true
 ·rw[Qba e,Qba e];exact r.repl k q
 ·rw[Qa4 e,Qa4 e];exact Paired.snoc r ⟨rfl,q⟩
theorem KV.keys{kvs:List (κ×V)}{vs:List (κ×As)}(r:KV kvs vs):kvs.map (·.1)=vs.map (·.1):=by
 induction r with
 |nil=>rfl
 |cons h t q=>rw[Qbx,Qbx,q,h.1]
def KV.length{kvs:List (κ×V)}{vs:List (κ×As)}(r:KV kvs vs):kvs.length=vs.length:=Qf6 r
end
def y7{k:Key}{u:As}(r:RelV (kV k) u):(ZJ P w).is k u=true:=by
 cases k with
 |inl i=>obtain⟨t,e⟩:=(show∃t,u=Value.int i t from r);subst e;exact wK P w i t
 |inr x=>obtain⟨t,e⟩:=(show∃t,u=Value.str x t from r);subst e;exact JV P w x t
theorem vW{P:An}{w:Ar}:∀{ks:List Key} {q:Ag},Vals (ks.map kV) q->ItemsAre (ZJ P w) ks q
 |[],_,r=>by cases r;exact .nil
 |k::ks,_,r=>by
  cases r with
  |cons h t=>exact .cons (y7 h) (vW t)
abbrev KT(H:Hp):List (List Key×V)->List (List Key×Au×As)->Prop:=Paired fun p q=>p.1=q.1/\H q.2.1=some (.tup (p.1.map kV))/\RelV p.2 q.2.2
theorem KT.val{kvs:List (List Key×V)}{xs:List (List Key×Au×As)}(r:KT H kvs xs)(k:List Key):yt (Yd kvs k) ((atKey xs k).map (·.2)):=by
 induction r with
 |nil=>exact True.intro
 | @cons p q ps D h t F=>
  obtain⟨h1,_,h2⟩:=h
  by_cases e:p.1=k
  ·have C:q.1=k:=h1.symm.trans e;have b:atKey (q::D) k=some q.2:=by simp[atKey,Qd2,C]
   rw[Ym e,b];exact h2
  ·have C:¬q.1=k:=fun z=>e (h1.trans z)
   have b:atKey (q::D) k=atKey D k:=by simp[atKey,Qd2,C]
   rw[Ye e,b];exact F
theorem KT.repl{kvs:List (List Key×V)}{xs:List (List Key×Au×As)}(r:KT H kvs xs)(k:List Key){u:As}(F:RelV y u):
  KT H (kvs.map fun C=>if C.1=k then(C.1,y)else C) (xs.map (putAt k u)):=by
 induction r with
 |nil=>exact .nil
 | @cons p q ps I h t D=>
  refine .cons ?_ D;obtain⟨h1,h2,G⟩:=h;unfold putAt
  by_cases e:p.1=k
  ·grind
  ·grind
def KT.put{kvs:List (List Key×V)}{xs:List (List Key×Au×As)}(r:KT H kvs xs)(k:List Key){b:Au}{u:As}(F:H b=some (.tup (k.map kV)))(C:RelV y u):
  KT H (putK kvs k y) (storedH xs k b u):=by
 have e:(kvs.any fun D=>decide (D.1=k))=(atKey xs k).isSome:=by
  rw[Wu,(r.val k).isSome_eq,Qgu]
 unfold putK storedH;rw[e]
 by_cases q:(atKey xs k).isSome=true
 ·rw[Qba q,Qba q];exact r.repl k C
 ·rw[Qa4 q,Qa4 q];exact Paired.snoc r ⟨rfl,F,C⟩
theorem KT.keeps{H':Hp}{kvs:List (List Key×V)}{xs:List (List Key×Au×As)}(r:KT H kvs xs)(q:∀b ys,H b=some (.tup ys)->H' b=some (.tup ys)):KT H' kvs xs:=
 Paired.mapP r fun _ _ z=>⟨z.1,q _ _ z.2.1,z.2.2⟩
section
variable {P:An}{w:Ar}{H:Hp}{h:Heap}{a:Au}
def Zod{u:HO}(ok:HOk P w H h)(e:Rd H a u):Yo P w H h a u:=e.ok ok
theorem y8{kvs:Ay}(ok:HOk P w H h)(e:Rd H a (.dK kvs)):kvs.length<=sizeLine/\(a == sysModules)=false/\∃vs,KV kvs vs/\h.DictOf (ZJ P w) a vs:=
 show Yo P w H h a (.dK kvs)from Zod ok e
def Zhc{kvs:Ay}(ok:HOk P w H h)(e:H a=some (.dK kvs)):kvs.length<=sizeLine/\(a == sysModules)=false/\∃vs,KV kvs vs/\h.DictOf (ZJ P w) a vs:=y8 ok (.inl e)
def vX{ks:List Key}(ok:HOk P w H h)(e:H a=some (.tup (ks.map kV))):(tupleKind (ZJ P w)).is h ks a:=by
 obtain⟨_,q,r,o,h1,h2,⟨n,C⟩,_⟩:=(show Yo P w H h a (.tup (ks.map kV))from ok a _ e);exact⟨o,q.toArray,n,h1,h2,C,by simpa using vW r⟩
theorem Zd0{kvs:List (List Key×V)}(ok:HOk P w H h)(e:Rd H a (.dT kvs)):kvs.length<=sizeLine/\(a == sysModules)=false /\
  ∃xs,KT H kvs xs/\h.DictOfH (tupleKind (ZJ P w)) a xs:=by
 obtain⟨z,y,xs,r,o,es,ep,h1,h2,F,J,G⟩:=(show Yo P w H h a (.dT kvs)from Zod ok e);refine⟨z,y,xs,r,o,es,ep,h1,h2,F,J,fun x C=>?_,G⟩;have all:∀{l:List (List Key×V)} {m:List (List Key×Au×As)},KT H l m->∀x∈m,(tupleKind (ZJ P w)).is h x.1 x.2.1:=by
  intro l m q
  induction q with
  |nil=>intro x C;exact nomatch C
  | @cons p q ps O D t I=>
   intro x C;rcases Qaq.mp C with e|C
   ·subst e;exact vX ok (by rw[<-D.1];exact D.2.1)
   ·exact I x C
 exact all r x C
theorem dt_of{kvs:List (List Key×V)}(ok:HOk P w H h)(e:H a=some (.dT kvs)):kvs.length<=sizeLine/\(a == sysModules)=false /\
  ∃xs,KT H kvs xs/\h.DictOfH (tupleKind (ZJ P w)) a xs:=Zd0 ok (.inl e)
end
def Zjs(H:Hp)(a:Au)(y:V)(r:Option V):Prop:=
 (∃kvs k,Rd H a (.dK kvs)/\y=kV k/\r=Yd kvs k)\/∃kvs k b,Rd H a (.dT kvs)/\y=.ref b/\H b=some (.tup (k.map kV))/\r=Yd kvs k
def uN(H:Hp)(a:Au)(y v:V)(H':Hp):Prop:=
 (∃kvs k,H a=some (.dK kvs)/\y=kV k/\kvs.length<sizeLine/\H'=upd H a (.dK (putK kvs k v))) \/
 ∃kvs k b,H a=some (.dT kvs)/\y=.ref b/\H b=some (.tup (k.map kV))/\kvs.length<sizeLine/\H'=upd H a (.dT (putK kvs k v))
def uN.k{H:Hp}{a:Au}{kvs:Ay}{k:Key}{v:V}(e:H a=some (.dK kvs))(q:kvs.length<sizeLine):uN H a (kV k) v (upd H a (.dK (putK kvs k v))):=.inl ⟨kvs,k,e,rfl,q,rfl⟩
theorem uN.t{b:Au}{kvs:List (List Key×V)}{k:List Key}{v:V}(e:H a=some (.dT kvs))(q:H b=some (.tup (k.map kV)))(C:kvs.length<sizeLine):
  uN H a (.ref b) v (upd H a (.dT (putK kvs k v))):=.inr ⟨kvs,k,b,e,rfl,q,C,rfl⟩
section
variable {X:Cx}{pins:Ac}{σ:St}{H:Hp}{s:Aq}{a:Au}{y v:V}{u r:As}{o:Option V}{A:Ao}{E:Ab}
def Inv.big(I:Inv X pins σ H s):sysModules<s.heap.objs.size:=by
 have h:mainGlobals<s.heap.objs.size:=(I.mod.glob.keeps I.bk).lt;exact Nat.lt_trans (by decide) h
def Zd1(hu:A.units+1<cLine)(I:Inv X pins σ H s)(g:Zjs H a y (some v))(J:RelV y u)(h:∀D s',Inv X pins σ H s'->RelV v D->Q D s'):
  A1 X.prog X.w A (getItem (.ref a) u) Q E s:=by
 rcases g with⟨kvs,k,e,F,l⟩|⟨kvs,k,b,e,F,Z,l⟩
 ·subst F;obtain⟨z,Y,vs,q,dd⟩:=y8 I.hok e;obtain⟨D,hw,C⟩:=yt.some_of (v:=v) (o:=valueAt vs k) (by rw[l];exact q.val k);exact wpAny_getItem_of (y7 J) dd.mapOf hw (h D _ (I.tok _) C)
 ·subst F;cases(show u=Value.ref b from J);obtain⟨z,Y,xs,q,dd⟩:=Zd0 I.hok e;obtain⟨D,hw,C⟩:=yt.some_of (v:=v) (o:=(atKey xs k).map (·.2)) (by rw[l];exact q.val k);obtain⟨p,O,G⟩:=Qbq.mp hw;refine wpAny_getItem_heap (Qfj hu) (vX I.hok Z) dd O ?_;rw[G];exact h D _ (I.tok _) C
def d_in(O:A.units+1<cLine)(I:Inv X pins σ H s)(g:Zjs H a y o)(G:RelV y u)(h:∀s',Inv X pins σ H s'->Q (.bool o.isSome) s'):
  A1 X.prog X.w A (compareOp .In u (.ref a)) Q E s:=by
 rcases g with⟨kvs,k,e,F,l⟩|⟨kvs,k,b,e,F,J,l⟩
 ·subst F;obtain⟨z,D,vs,C,dd⟩:=y8 I.hok e;refine wpAny_in_of (y7 G) D dd.mapOf ?_;rw[<-(C.val k).isSome_eq,<-l];exact h _ (I.tok _)
 ·subst F;cases(show u=Value.ref b from G);obtain⟨z,D,xs,C,dd⟩:=Zd0 I.hok e;refine wpAny_in_heap (Qfj O) (vX I.hok J) D dd ?_;have q:=(C.val k).isSome_eq;rw[Qgu]at q;rw[<-q,<-l];exact h _ (I.tok _)
def Zlm(O:A.units+1<cLine)(I:Inv X pins σ H s)(g:Zjs H a y o)(G:RelV y u)(h:∀s',Inv X pins σ H s'->Q (.bool (!o.isSome)) s'):
  A1 X.prog X.w A (compareOp .NotIn u (.ref a)) Q E s:=by
 rcases g with⟨kvs,k,e,F,l⟩|⟨kvs,k,b,e,F,J,l⟩
 ·subst F;obtain⟨z,D,vs,C,dd⟩:=y8 I.hok e;refine wpAny_notIn_of (y7 G) D dd.mapOf ?_;rw[<-(C.val k).isSome_eq,<-l];exact h _ (I.tok _)
 ·subst F;cases(show u=Value.ref b from G);obtain⟨z,D,xs,C,dd⟩:=Zd0 I.hok e;refine wpAny_notIn_heap (Qfj O) (vX I.hok J) D dd ?_;have q:=(C.val k).isSome_eq;rw[Qgu]at q;rw[<-q,<-l];exact h _ (I.tok _)
theorem xX{h':Heap}{t':Nat}(I:Inv X pins σ H s)(C:Mut (H a))(F:Heap.SameBut a s.heap h')(D:∃q,h'.get? a=some q)(new:Yo X.prog X.w (upd H a Y) h' a Y):
  Inv X pins σ (upd H a Y) {s with heap:=h',toks:=t'}:=
 I.write (x:=a) (e:=a) C (.inl rfl) (fun b q G z=>(F.2 b G).trans z) D new
theorem Zd2{H':Hp}{h':Heap}{kvs:Ay}{vs:List (Key×As)}(z:kvs.length<=sizeLine)(C:(a == sysModules)=false)(q:KV kvs vs)(dd:h'.DictOf (ZJ P w) a vs):
  Yo P w H' h' a (.dK kvs):=⟨z,C,vs,q,dd⟩
def Zd3{H':Hp}{Q:Unit->Shared->Prop}(hu:A.units+1<cLine)(I:Inv X pins σ H s)(g:uN H a y v H')(ry:RelV y u)(Z:RelV v r)(h:∀s',Inv X pins σ H' s'->Q () s'):
  A1 X.prog X.w A (setItem (.ref a) u r) Q E s:=by
 rcases g with⟨kvs,k,e,G,l,Y⟩|⟨kvs,k,b,e,G,eb,l,Y⟩
 ·subst G Y;obtain⟨z,F,vs,C,dd⟩:=Zhc I.hok e;have hz:vs.length<=sizeLine:=by rw[<-C.length];exact z
  have O:(putK kvs k v).length<=sizeLine:=by have:=Xj kvs k v;lia
  refine wpAny_setItem_pairs (hsz:=hz) (y7 ry) dd fun h' dd' J=>h _ ?_;have he:∃q,h'.get? a=some q:=let⟨q,_,_,D,_⟩:=dd';⟨q,D⟩;exact xX I (by rw[e];exact True.intro) J he (Zd2 O F (C.put k Z) dd')
 ·subst G Y;cases(show u=Value.ref b from ry);obtain⟨z,F,xs,C,dd⟩:=dt_of I.hok e;have hz:xs.length<=sizeLine:=by rw[<-Qf6 C];exact z
  have O:(putK kvs k v).length<=sizeLine:=by have:=Xj kvs k v;lia
  refine wpAny_setItem_heap (hsz:=hz) (Qfj hu) (vX I.hok eb) dd fun h' dd' J=>h _ ?_;obtain⟨q,es,ep,D,h2,h3,h4,_,h5⟩:=dd';refine xX I (by rw[e];exact True.intro) J ⟨q,D⟩ ⟨O,F,_,(C.put k eb Z).keeps fun c ys ec=>?_,q,es,ep,D,h2,h3,h4,h5⟩;rw[Zk (X9 ec e (fun z=>nomatch z))];exact ec
end
section
variable {X:Cx}{pins:Ac}{σ:St}{H:Hp}{s:Aq}{a:Au}{kvs:Ay}{k:Key}{u:As}{A:Ao}{E:Ab}
def d_len  (I:Inv X pins σ H s) (e:Rd H a (.dK kvs)) (h:∀t s',Inv X pins σ H s'->Q (.int kvs.length t) s'):A1 X.prog X.w A (call (.builtin "len") [.ref a]) Q E s:=by
 obtain⟨z,C,vs,q,dd⟩:=y8 I.hok e;refine call_len_dict C dd (by rw[<-q.length];rw[Qg2]at z;lia) ?_;rw[<-q.length];exact h _ _ (I.tok _)
end
def Zpd(i:Av):Prop:=∀C q,subscripted i false C q=operate [C,q] (getItem C q)
def Zd4{prog:An}{A:Ao}{E:Ab}{env:Env}{q:Av}{T id:String}
  (J:typeLookup (.type T) "__getitem__" = pure (some (.builtin id))) (Y:Zpd q)
  (h:A1 prog w A (eval e env) (fun o D=>A1 prog w A (eval q env) (fun i s₂=>s₂.TypeIs o T/\A1 prog w A (getItem o i) Q E s₂) E D) E s):
  A1 prog w A (eval (.Subscript e q p) env) Q E s:=by
 refine Subscript_ (Qde h (fun o D I=>Qde I (fun i s₂ C=>?_) fun _ _ x=>x) fun _ _ x=>x);obtain⟨O,C⟩:=C;refine Qaa ?_;refine Qaa (Qdq O J ?_);have fin:A1 prog w A (subscripted q false o i) (fun r F=>A1 prog w A (letTemporaryGo e o r >>= fun _=>pure r) Q E F) E s₂:=by
  rw[Y o i];exact wpAny_operating (Qde C (fun r F G=>Qaa (wpAny_letTemporaryGo (Qae G))) fun _ _ x=>x)
 first
  |exact Qae (Qaa fin)
  |exact Qaa (Qae (Qaa fin))
  |exact Qaa fin
def wX {X:Cx}       {o:Option V} (I:Inv X r c H s) (g:Zjs H a y o):s.TypeIs (.ref a) "dict" :=by
 rcases g with⟨kvs,k,e,_,_⟩|⟨kvs,k,b,e,_,_,_⟩
 ·obtain⟨_,_,vs,_,dd⟩:=y8 I.hok e;exact dd.typeIs
 ·obtain⟨_,_,xs,_,dd⟩:=Zd0 I.hok e;exact dd.typeIs
inductive Zd5(Q:VK)(x:V)(y:V)(H2:Hp):Prop
 |mk (a v:_):(x=.ref a)->(Zjs H2 a y (some v))->(Q v H2)->Zd5 Q x y H2
def Zoe(td ty:TE):TE:=fun σ H Q=>td σ H fun x H1=>ty σ H1 fun y H2=>Zd5 Q x y H2
inductive Zd6(D:Ends)(σ:St)(v:V)(x:V)(y:V)(H3:Hp):Prop
 |mk (a H4:_):(x=.ref a)->(uN H3 a y v H4)->(D.nx σ H4)->Zd6 D σ v x y H3
def Zof(td ty tv:TE):TS:=fun D σ H=>tv σ H fun v H1=>td σ H1 fun x H2=>ty σ H2 fun y q=>Zd6 D σ v x y q
section
variable {X:Cx}{o i e value:Av}{pos pos' tpos:Pos}{td ty tv:TE}
def Zln(Y:X.A.units+1<cLine)(ho:PE X o td)(hi:PE X i ty)(hs:Zpd i):PE X (.Subscript o i pos) (Zoe td ty):=by
 intro pins s σ H Q I h;refine Zd4 PySem.F.slot_dict_getitem.lookup hs (thn (ho pins s σ H _ I h) fun u J ⟨x,H1,O,rx,q1⟩=>thn (hi pins J σ H1 _ O q1) fun iv s2 ⟨y,H2,C,Z,a,v,ex,g,D⟩=>?_);subst ex;obtain rfl:u=Value.ref a:=rx;exact⟨wX C g,Zd1 Y C g Z fun w' s3 G q=>⟨v,H2,G,q,D⟩⟩
def Zlo(hu:X.A.units+1<cLine)(ho:PE X o td)(hi:PE X i ty)(C:PE X value tv)(Z:swapsWith value (some (.Subscript o i pos')) pos.line X.env=pure false):
  PS X (.Assign [.Subscript o i pos'] value pos) (Zof td ty tv):=by
 intro pins s σ H D I h;refine wpAny_Assign_Subscript (thn (C pins s σ H _ I h) fun r s1 ⟨v,H1,I1,J,O⟩=>thn (ho pins s1 σ H1 _ I1 O) fun u s2 ⟨x,H2,F,Y,q⟩=>thn (hi pins s2 σ H2 _ F q) fun iv s3 ⟨y,H3,I3,ry,a,G,ex,g,q3⟩=>?_) Z;subst ex;obtain rfl:u=Value.ref a:=Y;exact Zd3 hu I3 g ry J fun s4 I4=>⟨σ,G,I4,q3⟩
end
theorem y9    (h:Heap) (q:sysModules<h.objs.size):Yo P w H (h.push {cls:=.type "dict",data:=.dict #[]}) h.objs.size (.dK []):=
 ⟨Qbp _,Qgf.mpr (Qd8 (Qbi q)),[],.nil,Heap.DictOf.new h⟩
theorem Zhd    (h:Heap) (q:sysModules<h.objs.size):Yo P w H (h.push {cls:=.type "dict",data:=.dict #[]}) h.objs.size (.dT []):=
 ⟨Qbp _,Qgf.mpr (Qd8 (Qbi q)),[],.nil,_,#[],0,Qao _ rfl,⟨rfl,rfl,rfl⟩,rfl,rfl,Qdb⟩
def Zjt:TE:=fun _ H Q=>∀p,H p=none->Q (.ref p) (upd H p (.dK []))
def Zju:TE:=fun _ H Q=>∀p,H p=none->Q (.ref p) (upd H p (.dT []))
section
variable {X:Cx}{pos:Pos}
theorem Zhe:PE X (.Dict [] [] pos) Zjt:=fun pins s σ H Q I h=>
 wpAny_Dict_empty ⟨.ref s.heap.objs.size,_,I.laid (a:=s.heap.objs.size) (o:=.dK []) (t':=s.toks) (fun _ _ q=>Qab _ q) (Qah _) (y9 s.heap I.big),rfl,h _ (I.hok.fresh (Qah _))⟩
theorem Zhf:PE X (.Dict [] [] pos) Zju:=fun pins s σ H Q I h=>
 wpAny_Dict_empty ⟨.ref s.heap.objs.size,_,I.laid (a:=s.heap.objs.size) (o:=.dT []) (t':=s.toks) (fun _ _ q=>Qab _ q) (Qah _) (Zhd s.heap I.big),rfl,h _ (I.hok.fresh (Qah _))⟩
end
def Zd7:List (TE×TE)->St->Hp->(List (V×V)->Hp->Prop)->Prop
 |[],_,H,Q=>Q [] H
 |(tk,tv)::r,σ,H,Q=>tk σ H fun x H1=>tv σ H1 fun y H2=>Zd7 r σ H2 fun ps q=>Q ((x,y)::ps) q
abbrev VV:List (V×V)->List (As×As)->Prop:=Paired fun p q=>RelV p.1 q.1/\RelV p.2 q.2
def PPs(X:Cx)(pos:Pos)(keys:List (Option Av))(q:Al)(C:List (TE×TE)):Prop:=
 ∀(pins:Ac) (s:Aq) (σ:St) (H:Hp) (Q:List (V×V)->Hp->Prop),Inv X pins σ H s->Zd7 C σ H Q->
  A2 X (evalPairs (pairTrees keys q X.env pos)) (fun vs s'=>∃ps H',Inv X pins σ H' s'/\VV ps vs/\Q ps H') X.xe s
def Zlp{X:Cx}:PPs X p [] [] []:=fun pins s σ H Q I h=>pairTrees_nil_walk ⟨[],H,I,.nil,h⟩
theorem Zhg{X:Cx}{k v:Av}{ks:List (Option Av)}{vs:Al}{tk:TE}{q:List (TE×TE)}(Z:PE X k tk)(F:PE X v d)(hr:PPs X p ks vs q):
  PPs X p (some k::ks) (v::vs) ((tk,d)::q):=fun pins s σ H Q I h=>
 pairTrees_cons_walk (thn (Z pins s σ H _ I h) fun u s1 ⟨x,H1,I1,O,J⟩=>thn (F pins s1 σ H1 _ I1 J) fun w2 s2 ⟨y,H2,G,ry,D⟩=>
  thn (hr pins s2 σ H2 _ G D) fun ws s3 ⟨ps,Y,I3,C,q3⟩=>⟨(x,y)::ps,Y,I3,.cons ⟨O,ry⟩ C,q3⟩)
def WE(kvs more:Ay):Ay:=more.foldl (fun acc q=>putK acc q.1 q.2) kvs
theorem KV.merge:∀{more:Ay} {C:List (Key×As)} {kvs:Ay} {vs:List (Key×As)},KV more C->KV kvs vs->KV (WE kvs more) (merged vs C):=by
 intro more C kvs vs r
 induction r generalizing kvs vs with
 |nil=>intro q;exact q
 | @cons p q ps G h t D=>
  intro F;have e:KV (putK kvs p.1 p.2) (stored vs q.1 q.2):=by
   have:=F.put p.1 h.2;rw[<-h.1];exact this
  exact D e
theorem Gq:∀(more kvs:Ay),(WE kvs more).length<=kvs.length+more.length
 |[],kvs=>by show kvs.length<=kvs.length+0;lia
 |p::r,kvs=>by
  have h1:=Gq r (putK kvs p.1 p.2);have h2:=Xj kvs p.1 p.2;show(WE (putK kvs p.1 p.2) r).length<=_;rw[Qbu];lia
theorem jO{P:An}{w:Ar}:∀{kvs:Ay} {ws:List (As×As)},VV (kvs.map fun D=>(kV D.1,D.2)) ws->∃C,Carries (ZJ P w) ws C/\KV kvs C
 |[],_,r=>by cases r;exact⟨[],True.intro,.nil⟩
 |p::kvs,_,r=>by
  cases r with
  | @cons a b as bs h t=>
   obtain⟨C,c,q⟩:=jO (P:=P) (w:=w) t;obtain⟨b1,b2⟩:=b;exact⟨(p.1,b2)::C,⟨y7 h.1,rfl,c⟩,.cons ⟨rfl,h.2⟩ q⟩
def Zog(q:List (TE×TE)):TE:=fun σ H Q=>∀p,H p=none->Zd7 q σ (upd H p (.dK [])) fun ps H2=>H2 p=some (.dK [])/\∃kvs:Ay,ps=kvs.map (fun C=>(kV C.1,C.2))/\kvs.length<=15/\Q (.ref p) (upd H2 p (.dK (WE [] kvs)))
def Zlq{X:Cx}{keys:List (Option Av)}{D:List (TE×TE)}(h:PPs X p keys B D)(C:keys.all (·.isSome)=true)(hl:keys.length=B.length)(Z:keys≠[])
  (F:keys.length<=15):PE X (.Dict keys B p) (Zog D):=by
 intro pins s σ H Q I q;have hn:=I.hok.fresh (Qah s.heap.objs.size);have I1:=I.laid (a:=s.heap.objs.size) (o:=.dK []) (h':=s.heap.push {cls:=.type "dict",data:=.dict #[]}) (t':=s.toks) (fun _ _ q=>Qab _ q) (Qah _) (y9 s.heap I.big);refine wpAny_Dict_walk (knd:=ZJ X.prog X.w) C hl Z F (thn (h pins _ σ _ _ I1 (q _ hn)) fun ws s2 ⟨ps,H2,J,G,e,kvs,ep,lk,O⟩=>?_);subst ep;obtain⟨rs,c,rk⟩:=jO (P:=X.prog) (w:=X.w) G;obtain⟨z,Y,vs0,r0,dd⟩:=Zhc J.hok e;cases r0;refine⟨rs,c,dd,fun h' dd' hs=>⟨.ref s.heap.objs.size,_,?_,rfl,O⟩⟩;have hz:(WE [] kvs).length<=sizeLine:=by
  have h1:=Gq kvs [];rw[Qed]at h1;rw[Qg2];lia
 have he:∃q,h'.get? s.heap.objs.size=some q:=let⟨q,_,_,hq,_⟩:=dd';⟨q,hq⟩;exact xX J (by rw[e];exact True.intro) hs he (Zd2 hz Y (rk.merge .nil) dd')
structure M2(X:Cx)(o:Av)(m:Str)(apos:Pos)(e f:Av)(cpos:Pos):Prop where
 base:attributeBase o m X.env (eval o X.env)=eval o X.env
 few:((backTo cpos (starEach [e,f] X.env)).all (fun x=>!x.1)&&(backToKw cpos (keywordEach [] X.env)).all (fun x=>x.1.isSome)
  && decide (([e,f]:Al).length+([]:List Keyword).length+(if([]:List Keyword).isEmpty then 0 else 1)<30))=true
 line:(apos.endLine == cpos.line)=true
 trees:backTo cpos (starEach [e,f] X.env)=[(false,eval e X.env),(false,eval f X.env)]
end L2
namespace EnT
section
variable {prog:An}{w:Ar}{A:Ao}{E:Ab}{s:Aq}
def next_of{it l:Au}{items:_}{x:As}(q:s.heap.IsTupleIter it l i)(O:s.heap.IsTuple l items)(I:items[i]?=some x)
  (Y:∀h',h'.IsTupleIter it l (i+1)->Heap.SameBut it s.heap h'->Q x {s with heap:=h'}):A1 prog w A (Builtin.SmallTypes.nextOf (.ref it)) Q E s:=by
 obtain⟨o,D,J,C⟩:=id q;obtain⟨Z,G,_,nl,F⟩:=O;refine Qaa (wpAny_callSpecial?_slot (name:=Str.ofString "__next__") q.typeIs Qd4 (Qbn Qd4 q.typeIs Qgg ?_ (Qf8 _)));show wpAny _ _ (field (.ref it) 0 >>= _) _ _ s;refine Qaa (Qbv D C (x:=.ref l) rfl ?_);refine Qaa (Qbv D C (x:=.int i 0) rfl ?_);refine Qaa (Qcd G F ?_);simp only[Qav,I];refine Qaa (Qda D C (by simp) (Qae ⟨x,rfl,Qae (Y _ ⟨_,Qbk _ D (Qct (Qbs C _)),(Qe5 ..).trans J,?_⟩ (Qcc ..))⟩));rw[Qbs C];simp[rawInt]
def next_no{it l:Au}{items:_}(hh:A.handled=none)(q:s.heap.IsTupleIter it l i)(O:s.heap.IsTuple l items)(J:items[i]?=none)
  (I:∀h' e,Heap.ExtBut it s.heap h'->(∃o,h'.get? e=some o/\o.cls=.type "StopIteration")->E (.ref e) {s with heap:=h'}):A1 prog w A (Builtin.SmallTypes.nextOf (.ref it)) Q E s:=by
 obtain⟨o,F,Z,C⟩:=id q;obtain⟨ol,G,_,Y,D⟩:=O;refine Qaa (wpAny_callSpecial?_slot (name:=Str.ofString "__next__") q.typeIs Qd4 (Qbn Qd4 q.typeIs Qgg ?_ (Qf8 _)));show wpAny _ _ (field (.ref it) 0 >>= _) _ _ s;refine Qaa (Qbv F C (x:=.ref l) rfl ?_);refine Qaa (Qbv F C (x:=.int i 0) rfl ?_);refine Qaa (Qcd G D ?_);simp only[Qav,J];refine Qaa (Qdk (Qaa (Qda F C (by simp) ?_)));refine Qaa ?_;refine Qaa (Qa9 ?_ (by size_fits));refine Qaa (m:=firstArgMember _ _) (Qdc (a:=Value.none) (by first|rfl|(rfl)) ?_);refine Qa9 ?_ (by size_fits);refine Qaa (Qg1 ?_)
 first|rw[show A.in1.handled=none from hh]|rw[hh]
 refine Qaa (Qae (Qhd ?_));exact I _ _ (((Qcc ..).extBut.push _).push _) ⟨_,Qao _ rfl,rfl⟩
end
end EnT
namespace ZpT
def ZM:Bool->Heap->Addr->Addr->Nat->Prop
 |true,h,it,l,k=>h.IsTupleIter it l k
 |false,h,it,l,k=>h.IsListIter it l k
def SeqAt:Bool->Heap->Addr->Array As->Prop
 |true,h,l,xs=>h.IsTuple l xs
 |false,h,l,xs=>h.IsList l xs
def ZM.mv{b:Bool}{h h':Heap}{it l:Au}{k:Nat}(x:ZM b h it l k)(f:∀o,h.get? it=some o->h'.get? it=some o):ZM b h' it l k:=by
 cases b
 ·exact Heap.IsListIter.at x f
 ·exact Heap.IsTupleIter.at x f
def SeqAt.mv{b:Bool}{h h':Heap}{l:Au}{xs:Ah}(x:SeqAt b h l xs)(f:∀o,h.get? l=some o->h'.get? l=some o):SeqAt b h' l xs:=by
 cases b
 ·obtain⟨o,q,r⟩:=(show h.IsList l xs from x);exact(show h'.IsList l xs from⟨o,f o q,r⟩)
 ·obtain⟨o,q,r⟩:=(show h.IsTuple l xs from x);exact(show h'.IsTuple l xs from⟨o,f o q,r⟩)
def ZM.ob{b:Bool}{h:Heap}{it l:Au}{k:Nat}(x:ZM b h it l k):∃o,h.get? it=some o/\∀v,o.data≠.cell v:=by
 cases b
 ·obtain⟨o,C,D,q⟩:=(show h.IsListIter it l k from x);exact⟨o,C,fun v z=>by rw[q]at z;cases z⟩
 ·obtain⟨o,C,D,q⟩:=(show h.IsTupleIter it l k from x);exact⟨o,C,fun v z=>by rw[q]at z;cases z⟩
def itO (b:Bool) (l:Au):Obj:={cls:=.type (if b then "tuple_iterator" else "list_iterator"),data:=.fields #[.ref l,.int 0 0]}
section
variable {prog:An}{w:Ar}{A:Ao}{E:Ab}{s:Aq}
def Jc{b:Bool}{it l:Au}{k:Nat}{xs:Ah}{x:As}(q:ZM b s.heap it l k)(D:SeqAt b s.heap l xs)(C:xs[k]?=some x)
  (F:∀h',ZM b h' it l (k+1)->Heap.SameBut it s.heap h'->Q x {s with heap:=h'}):A1 prog w A (Builtin.SmallTypes.nextOf (.ref it)) Q E s:=by
 cases b
 ·exact wpAny_nextOf_list_item q D C F
 ·exact EnT.next_of q D C F
def jP{b:Bool}{it l:Au}{k:Nat}{xs:Ah}(hh:A.handled=none)(q:ZM b s.heap it l k)(F:SeqAt b s.heap l xs)(C:xs[k]?=none)
  (D:∀h' e,Heap.ExtBut it s.heap h'->(∃o,h'.get? e=some o/\o.cls=.type "StopIteration")->E (.ref e) {s with heap:=h'}):A1 prog w A (Builtin.SmallTypes.nextOf (.ref it)) Q E s:=by
 cases b
 ·exact wpAny_nextOf_list_end hh q F C D
 ·exact EnT.next_no hh q F C D
def We{b:Bool}{l:Au}{xs:Ah}(q:SeqAt b s.heap l xs)(h:Q (.ref s.heap.objs.size) {s with heap:=s.heap.push (itO b l)}):A1 prog w A (pyIter (.ref l)) Q E s:=by
 cases b
 ·exact Qe3 q h
 ·exact wpAny_pyIter_tuple q h
def xD{b:Bool}{h:Heap}{it l:Au}(e:h.get? it=some (itO b l)):ZM b h it l 0:=by
 cases b
 ·exact(show h.IsListIter it l 0 from⟨_,e,rfl,rfl⟩)
 ·exact(show h.IsTupleIter it l 0 from⟨_,e,rfl,rfl⟩)
end
end ZpT
namespace L2
open ZpT (SeqAt ZM)
def SqB(K:Af):Bool->Hp->Addr->List V->Prop
 |true,H,a,xs=>SqT K H a xs
 |false,H,a,xs=>SqL K H a xs
def SqB.t{xs:A0}(h:H a=some (.tup xs)):SqB K true H a xs:=(SqT.of h:SqT K H a xs)
def Inv.sqB{X:Cx}{σ:L2.St}{xs:A0}{b:Bool}(I:Inv X r σ H s)(h:SqB X.K b H a xs):∃q:Ag,Vals xs q/\SeqAt b s.heap a q.toArray/\xs.length<=sizeLine:=by
 cases b
 ·obtain⟨q,C,p,hz⟩:=I.list (show SqL X.K H a xs from h);obtain⟨o,n,e,F,_,D⟩:=p;exact⟨q,C,(show s.heap.IsList a q.toArray from⟨o,e,F,n,D⟩),hz⟩
 ·obtain⟨q,C,p,hz⟩:=I.tuple (show SqT X.K H a xs from h);exact⟨q,C,(show s.heap.IsTuple a q.toArray from p),hz⟩
def Inv.sqB_inj{X:Cx}{σ:L2.St}{xs ys:A0}{b:Bool}(I:Inv X r σ H s)(h:SqB X.K b H a xs)(h':SqB X.K b H a ys):xs=ys:=by
 cases b
 ·exact I.list_inj h h'
 ·exact I.tuple_inj h h'
end L2
namespace EnT
open AutoSeq1 (wpAny_loadPart')
open ZpT (SeqAt ZM itO We Jc jP xD)
def enO (it:Au):Obj:={cls:=.type "enumerate",data:=.fields #[.none,.bool false,.ref it,rawInt 0,.none,.none]}
theorem Ja(b:Bool)(l:Au)(items:Ah):
  Meets (Builtin.«enumerate.__new__» ⟨[.type "enumerate",.ref l],[]⟩) (fun _ R s=>SeqAt b s.heap l items /\
   R (.ok (.ret (.ref (s.heap.push (itO b l)).objs.size))) {s with heap:=(s.heap.push (itO b l)).push (enO s.heap.objs.size)}):=
 .of_wp fun prog w A R s h=>by
  obtain⟨D,g,d,tk,os⟩:=s;obtain⟨F,h⟩:=h;have G:=sub_enumerate;have q:SeqAt b (Shared.heap ⟨D,g,d,tk,os⟩) l items:=F;obtain⟨o,C,J⟩:∃o,D.get? l=some o/\∀v,o.data≠.cell v:=by cases b<;>(obtain⟨o,e,_,_,I⟩:=F;exact⟨o,e,fun v z=>by rw[I]at z;cases z⟩)
  wp_walk using wpAny_loadPart' C
  refine wpAny_stack_any fun st=>Qae ?_
  split
  ·rename_i c _ _ _ _ _;cases(c == Value.type "enumerate")
   ·wp_walk using wpAny_loadPart' C,We q
    exact⟨_,rfl,h⟩
   ·wp_walk using wpAny_loadPart' C,We q
    exact⟨_,rfl,h⟩
  ·wp_walk using wpAny_loadPart' C,We q
   exact⟨_,rfl,h⟩
section
variable {prog:An}{w:Ar}{A:Ao}{E:Ab}{s:Aq}
def Zlr{b:Bool}{e it l:Au}{items:Ah}{x old:As}
  (he:IsEnum s.heap e it i old) (hit:ZM b s.heap it l i) (hl:SeqAt b s.heap l items) (hx:items[i]?=some x) (hne:e≠it)
  (hQ:∀h',IsEnumOut h' e it ((i:Int)+1) x s.heap.objs.size->ZM b h' it l (i+1)->
   h'.get? s.heap.objs.size=some {cls:=.type "tuple",data:=.seq #[.int i s.toks,x]}->h'.objs.size=s.heap.objs.size+1->
   (∀b o,b≠e->b≠it->s.heap.get? b=some o->h'.get? b=some o)->Q (.ref s.heap.objs.size) {s with heap:=h',toks:=s.toks+1}):
  A1 prog w A (Builtin.«enumerate.__next__» ⟨[.ref e],[]⟩) (fun fin s'=>∃v,fin=.done (.ret v)/\Q v s') E s:=by
 obtain⟨hp,g,d,tk,os⟩:=s;show wpAny _ _ (field (.ref e) 2 >>= _) _ _ _;refine Qaa (Qbv he rfl (x:=.ref it) rfl ?_);refine Qaa (Jc hit hl hx fun h₁ hit₁ Z=>?_);have O:IsEnum h₁ e it i old:=(Z.2 e hne).trans he;refine Qaa (Qbv O rfl (x:=rawInt i) rfl ?_);refine Qaa (Qbv O rfl (x:=.none) rfl ?_);refine Qaa (Qg0 ?_);refine Qaa (Qb6 O (by simp) fun h₂ he₂ I=>?_);refine Qaa (Qb6 he₂ (by simp) fun h₃ he₃ Y=>?_);refine Qaa (Qgr ?_);have C:IsEnum (h₃.push {cls:=.type "tuple",data:=.seq #[.int i tk,x]}) e it ((i:Int)+1) old:=Qab _ he₃;generalize hh₄:h₃.push {cls:=.type "tuple",data:=.seq #[.int i tk,x]}=G at C;have hsz:h₃.objs.size=hp.objs.size:=by rw[Y.1,I.1,Z.1]
 have hel:e<hp.objs.size:=Qar he;have ht₄:G.get? hp.objs.size=some {cls:=.type "tuple",data:=.seq #[.int i tk,x]}:=by rw[<-hh₄,<-hsz];exact Qao _ rfl
 have hz₄:G.objs.size=hp.objs.size+1:=by rw[<-hh₄,Qb1,hsz]
 have hk₄:∀b o,b≠e->b≠it->hp.get? b=some o->G.get? b=some o:=fun b o J hbi hb=>by
  rw[<-hh₄];exact Qab _ (Y.extBut b o J (I.extBut b o J (Z.extBut b o hbi hb)))
 have hit₄:ZM b G it l (i+1):=by
  rw[<-hh₄];exact hit₁.mv fun o z=>Qab _ (Y.extBut _ _ (Qd8 hne) (I.extBut _ _ (Qd8 hne) z))
 show wpAny _ _ (Builtin.SmallTypes.ownedTupleIsFree (.ref e) >>= _) _ _ ⟨G,g,d,tk+1,os⟩;rw[hsz];refine Qaa ?_
 ·refine Qaa (Qbv C rfl (x:=.none) rfl (Qae ?_));refine Qaa (Qdk ?_);refine Qaa (Qbv C rfl (x:=old) rfl ?_);refine Qaa (Qb6 C (by simp) fun h₅ he₅ D=>?_);refine Qaa ?_
  ·refine Qaa (Qb6 he₅ (by simp) fun h₆ he₆ q=>?_);refine Qb6 he₆ (by simp) fun h₇ he₇ F=>?_;refine Qaa (Qev (Qae ⟨_,rfl,hQ h₇ he₇ ?_ ?_ ?_ ?_⟩))
   ·exact hit₄.mv fun o z=>F.extBut _ _ (Qd8 hne) (q.extBut _ _ (Qd8 hne) (D.extBut _ _ (Qd8 hne) z))
   ·exact F.extBut _ _ (Qej hel) (q.extBut _ _ (Qej hel) (D.extBut _ _ (Qej hel) ht₄))
   ·rw[F.1,q.1,D.1,hz₄]
   ·exact fun b o J hbi hb=>F.extBut b o J (q.extBut b o J (D.extBut b o J (hk₄ b o J hbi hb)))
def next_item{b:Bool}{e it l:Au}{items:Ah}{x:As}{Q:Aa}
  (D:IsEnum s.heap e it i v) (q:ZM b s.heap it l i) (J:SeqAt b s.heap l items) (I:items[i]?=some x) (C:e≠it)
  (O:∀h',IsEnumOut h' e it ((i:Int)+1) x s.heap.objs.size->ZM b h' it l (i+1)->
   h'.get? s.heap.objs.size=some {cls:=.type "tuple",data:=.seq #[.int i s.toks,x]}->h'.objs.size=s.heap.objs.size+1->
   (∀b o,b≠e->b≠it->s.heap.get? b=some o->h'.get? b=some o)->Q (some (.ref s.heap.objs.size)) {s with heap:=h',toks:=s.toks+1}):
  A1 prog w A (pyNext (.ref e)) Q E s:=by
 have G:s.TypeIs (.ref e) "enumerate" :=⟨_,D,rfl⟩;exact Qaa (Qdn (wpAny_callSpecial?_slot (name:=Str.ofString "__next__") G Qew (Qbn Qew G F.entry_enumerate_next
   (Zlr D q J I C fun h' a b c d k=>Qae (O h' a b c d k)) (F.args_enumerate_next_1 _))))
def next_end{b:Bool}{e it l:Au}{items:Ah}{Q:Aa}(hh:A.handled=none)
  (G:IsEnum s.heap e it i v) (C:ZM b s.heap it l i) (Z:SeqAt b s.heap l items) (J:items[i]?=none)
  (hQ:∀h',Heap.ExtBut it s.heap h'->Q none {s with heap:=h'}):A1 prog w A (pyNext (.ref e)) Q E s:=by
 have I:s.TypeIs (.ref e) "enumerate" :=⟨_,G,rfl⟩;refine Qaa (Qdn (wpAny_callSpecial?_slot (name:=Str.ofString "__next__") I Qew (Qbn Qew I F.entry_enumerate_next ?_ (F.args_enumerate_next_1 _))));show wpAny _ _ (field (.ref e) 2 >>= _) _ _ _;refine Qaa (Qbv G rfl (x:=.ref it) rfl ?_);refine Qaa (jP hh C Z J fun h' x D q=>?_);obtain⟨o,Y,O⟩:=q;refine Qaa (Qdh (T:= "StopIteration") (b:=true) ⟨o,Y,O⟩ Qfs ?_);exact Qae (hQ _ D)
def call_new{b:Bool}{l:Au}{items:Ah}(D:SeqAt b s.heap l items)
  (h:∀h',IsEnum h' (s.heap.objs.size+1) s.heap.objs.size 0 .none->ZM b h' s.heap.objs.size l 0->h'.objs.size=s.heap.objs.size+2->
   (∀b o,s.heap.get? b=some o->h'.get? b=some o)->Q (.ref (s.heap.objs.size+1)) {s with heap:=h'}):A1 prog w A (call (.type "enumerate") [.ref l]) Q E s:=by
 refine Qha F.called_enumerate (by decide) (F.typeCall_enumerate_1 _) (F.newCall_enumerate_1 _) (fun q=>Qf0 q _) F.entry_enumerate_new (Ja b l items) ⟨D,?_⟩;have hz:(s.heap.push (itO b l)).objs.size=s.heap.objs.size+1:=Qb1 ..;rw[hz];have C:IsEnum ((s.heap.push (itO b l)).push (enO s.heap.objs.size)) (s.heap.objs.size+1) s.heap.objs.size 0 .none:=by
  have:=Qao (s.heap.push (itO b l)) (o:=enO s.heap.objs.size) rfl;rw[hz]at this;exact this
 refine⟨⟨_,C,rfl⟩,h _ C (xD (Qab _ (Qao _ rfl))) (by rw[Qb1,hz]) fun b o x=>Qab _ (Qab _ x)⟩
end
end EnT
namespace L2
open ZpT (SeqAt ZM)
def Xk{X:Cx}{pins:Ac}{σ:St}{h':Heap}{t':Nat}{fp:List Au}(I:Inv X pins σ H s)(D:∀b∈fp,xl X pins H b)(k:∀b o,b∉fp->s.heap.get? b=some o->h'.get? b=some o):Inv X pins σ H {s with heap:=h',toks:=t'}:=by
 have F:∀b u,H b=some u->b∉fp:=fun b u e z=>by rw[(D b z).1]at e;cases e
 refine I.step (g':=s.gens) (d':=s.drawn) (ch:=fp) (fun b G=>⟨(D b G).2.2.2.1,(D b G).2.1,(D b G).2.2.2.2.1,(D b G).2.2.2.2.2⟩) (fun b o _ _ C e _=>k b o C e) (fun b o _ _ C e _=>⟨o.slots,k b o C e⟩) (fun _ _ _ _ n=>n)
  (fun b o C e=>⟨o,k b o C e⟩) (fun _ _ e=>e) (fun _ _ _ e=>e) (fun b ps e=>⟨#[],by rw[e];simp⟩) (fun m O=>?_) (fun b u e=>?_) I.bare
 ·obtain⟨o,es,ep,J,r⟩:=O;exact⟨o,es,ep,k _ o (fun z=>(D _ z).2.1 rfl) J,r⟩
 ·refine(I.hok b u e).stay (fun c v C q=>k c v ?_ q) (fun _ q=>q) fun _ _ q=>q
  rcases C with z|z
  ·rw[z];exact F b u e
  ·exact F c _ z
def Ite(K:Af)(b:Bool)(a:Au)(n:Nat):It:=
 ⟨fun i H=>∃xs x,SqB K b H a xs/\xs.length=n/\xs[i]?=some x,fun i H v H'=>∃p,H p=none/\v=.ref p/\∀xs x,SqB K b H a xs->xs[i]?=some x->H'=upd H p (.tup [.int i,x]),fun i H=>∃xs,SqB K b H a xs/\xs.length=n/\n<=i⟩
def Zd8{ps:Pos}(b:Bool)(a e it:Au)(n:Nat)(Z:e≠it):Turn P w K (.Tuple B M ps) (Ite K b a n) [e,it] e (fun i h=>(∃C,IsEnum h e it i C)/\ZM b h it a i)where
 mem:=by simp
 obj:=fun i h st b D=>by
  obtain⟨⟨C,G⟩,q⟩:=st;rcases Qaq.mp D with rfl|D
  ·grind
  ·have:b=it:=by simpa using D
   subst this;exact q.ob
 keep:=fun i h h' st k=>by
  obtain⟨⟨C,G⟩,q⟩:=st;exact⟨⟨C,k e (by simp) _ G⟩,q.mv fun o x=>k it (by simp) o x⟩
 item:=by
  intro X hP hw hK hc i pins s σ H E I hf st hg;subst hP hw hK;obtain⟨xs,x,hq,hn,hx⟩:=hg;obtain⟨its,rv,p,hz⟩:=I.sqB hq;obtain⟨u,hu,ru⟩:=rv.get hx;obtain⟨⟨C,G⟩,q⟩:=st;obtain⟨f0,f1,f2,f3,f4,f5⟩:=hf e (by simp);obtain⟨g0,g1,g2,g3,g4,g5⟩:=hf it (by simp);have hilt:it<s.heap.objs.size:=by obtain⟨_,z,_⟩:=q.ob;exact Qar z
  refine EnT.next_item G q p (x:=u) (by simpa using hu) Z fun h' ho hit' hT hsz hk=>?_;refine⟨_,rfl,wpAny_letOwnedTupleGo_enum (s:={s with heap:=h',toks:=s.toks+1}) ho fun h2 he2 hs2=>?_⟩;have F:Heap.SameBut e h' h2:=hs2;have I1:Inv X pins σ (upd H s.heap.objs.size (.tup [.int i,x])) {s with heap:=s.heap.push {cls:=.type "tuple",data:=.seq #[.int i s.toks,u]},toks:=s.toks+1}:=
   I.laid (fun b o y=>Qab _ y) (Qah _) ⟨uy,[.int i s.toks,u],.cons ⟨_,rfl⟩ (.cons ru .nil),wG.new _ _⟩
  have O:∀b∈[e,it],xl X pins (upd H s.heap.objs.size (.tup [.int i,x])) b:=fun b D=>by
   have hlb:b≠s.heap.objs.size:=by
    grind
   obtain⟨a0,ar⟩:=hf b D;exact⟨by rw[Zk hlb];exact a0,ar⟩
  have I2:Inv X pins σ (upd H s.heap.objs.size (.tup [.int i,x])) {s with heap:=h2,toks:=s.toks+1}:=by
   refine Xk (s:={s with heap:=s.heap.push {cls:=.type "tuple",data:=.seq #[.int i s.toks,u]},toks:=s.toks+1}) I1 O fun b o D y=>?_;have J:b≠e:=fun z=>D (by simp[z]);have hbi:b≠it:=fun z=>D (by simp[z]);rcases Qf1 y with⟨rfl,rfl⟩|y
   ·exact(F.2 _ J).trans hT
   ·exact(F.2 b J).trans (hk b o J hbi y)
  refine⟨.ref s.heap.objs.size,_,I2,rfl,⟨_,I.hok.fresh (Qah _),rfl,fun ys y hy Y=>?_⟩,⟨⟨u,?_⟩,hit'.mv fun o y=>(F.2 it Z.symm).trans y⟩,fun b D=>(O b D).1⟩
  ·rw[I.sqB_inj hy hq,hx]at Y;cases Y;rfl
  ·grind
 done:=by
  intro X hP hw hK hc i pins s σ H E I hf st hg;subst hP hw hK;obtain⟨xs,hq,hn,hx⟩:=hg;obtain⟨its,rv,p,hz⟩:=I.sqB hq;obtain⟨⟨C,G⟩,q⟩:=st;obtain⟨g0,g1,g2,g3,g4,g5⟩:=hf it (by simp);have hl:=rv.length;exact EnT.next_end (I.ok.hd hc) G q p (by simp;lia) fun h' eb=>⟨rfl,I.turned (t':=s.toks) (fun b o D e=>eb b o D e) g0 g1 g3 g4 g5⟩
 self:=fun _ _ _ _ _ st h=>let⟨⟨_,G⟩,_⟩:=st;wpAny_pyIter_enum G h
def Zoh(K:Af)(b:Bool)(te:TE):TI:=fun σ H R=>te σ H fun x H1=>∃a xs,x=.ref a/\SqB K b H1 a xs/\R (Ite K b a xs.length) H1
def vY:bootBuiltins "enumerate" = some (.type "enumerate"):=by decide +kernel
def Zls {b:Bool} {X:Cx}    {ps:Pos}  {pos:Pos} (hg:Gl X "enumerate") (hm:X.mg "enumerate" = none) (Z:QE X e d) (hp:ZX e=true:=by rfl):QI X (.Tuple B i ps) (.Call (.Name "enumerate" p) [e] [] pos) (Zoh X.K b d):=by
 refine⟨fun pins s σ H R I h=>?_⟩;have J:starEach [e] X.env=[(false,eval e X.env)]:=by rw[Zz hp];rfl
 refine Call_ (JF I hg hm vY (Qci ?_ J rfl));rw[J];refine Qcs (thn (Z.out pins s σ H _ I h) fun u q ⟨x,H1,C,Y,q1⟩=>?_);refine Qdy ?_;obtain⟨a,xs,rfl,hq,r⟩:=q1;cases Y;obtain⟨its,rv,pt,hz⟩:=C.sqB hq;refine EnT.call_new pt fun h' D F hsz hk=>?_;have O:Inv X pins σ H1 {q with heap:=h'}:=C.kept (t':=q.toks) hk;refine wpAny_pyIter_enum D ⟨q.heap.objs.size+1,[q.heap.objs.size+1,q.heap.objs.size],_,_,H1,rfl,O,Zd8 b a (q.heap.objs.size+1) q.heap.objs.size xs.length (Nat.succ_ne_self _),⟨⟨_,D⟩,F⟩,fun b G=>?_,r⟩;rcases Qaq.mp G with rfl|G
 ·exact C.fpOk (Qd0 _) (C.hok.fresh (Qd0 _))
 ·have:b=q.heap.objs.size:=by simpa using G
  subst this;exact C.fpOk (Qah _) (C.hok.fresh (Qah _))
def yA {X:Cx}    {ps:Pos}  {pos:Pos} (q:Gl X "enumerate") (C:X.mg "enumerate" = none) (D:QE X e d) (F:ZX e=true:=by rfl):QI X (.Tuple B i ps) (.Call (.Name "enumerate" p) [e] [] pos) (Zoh X.K true d):=Zls q C D F
theorem yB{X:Cx}{y:Str}{pos:Pos}{k:Nat}{C t2:TG}(D:X.calm=true)(h1:QG X (.Name x p) C)(h2:QG X (.Name y q) t2):QG X (.Tuple [.Name x p,.Name y q] k pos) (gTup X.K 2 (Zcw C (Zcw t2 gNil))):=
 ⟨pg_tup D (uA h1.out (uA h2.out Zk1))⟩
theorem yC{b:Bool}{xs:A0}{j k:Nat}(q:Nat->St->Hp->Prop)(F:q 0 c H)(C:∀i c H,i<=xs.length->q i c H->SqB K b H a xs)
  (I:∀i x c H p,xs[i]?=some x->H p=none->q i c H->A {E with nx:=q (i+1),ct:=q (i+1),bk:=E.nx} ((c.set j (some (.int i))).set k (some x)) (upd H p (.tup [.int i,x]))) (D:∀c H,q xs.length c H->E.nx c H):
  Zgm (Ite K b a xs.length) (gTup K 2 (Zcw (qc j) (Zcw (qc k) gNil))) A E c H:=
 qH xs.length q F (fun i c H hi p=>⟨⟨xs,xs[i],C i c H (Qau hi) p,rfl,Qac hi⟩,fun v H' y=>by
  obtain⟨t,G,rfl,y⟩:=y;have e:=y xs _ (C i c H (Qau hi) p) (Qac hi);subst e;exact⟨t,_,rfl,SqT.of Za,rfl,_,_,rfl,_,_,rfl,rfl,I i _ c H t (Qac hi) G p⟩⟩) fun c H p=>⟨⟨xs,C _ c H (Qah _) p,rfl,Qah _⟩,D c H p⟩
end L2
namespace L2
def Wv{i:Av}(D:X.A.units+1<cLine)(C:QE X o d)(hi:QE X i O)(q:Zpd i):QE X (.Subscript o i p) (Zoe d O):=⟨Zln D C.out hi.out q⟩
def qh:QE X (.Dict [] [] p) Zjt:=⟨Zhe⟩
theorem Jd{i:Av}{tv:TE}(G:X.A.units+1<cLine)(F:QE X o d)(hi:QE X i O)(C:QE X e tv)(D:swapsWith e (some (.Subscript o i q)) p.line X.env=pure false):
  QS X (.Assign [.Subscript o i q] e p) (Zof d O tv):=⟨Zlo G F.out hi.out C.out D⟩
inductive Zjv(neg:Bool)(y:V)(x:V)(H:Hp)(Q:VK):Prop
 |mk (a o:_):(x=.ref a)->(Zjs H a y o)->(Q (.bl (if neg then !o.isSome else o.isSome)) H)->Zjv neg y x H Q
def rDIn(neg:Bool):R2:=fun y x H Q=>Zjv neg y x H Q
def qi(C:X.A.units+1<cLine):OpR X (compareOp .In) (rDIn false):=by
 intro pins s σ H x y v u Q I F D h;obtain⟨a,o,rfl,g,q⟩:=h;cases D;exact d_in C I g F fun s' G=>⟨.bl o.isSome,H,G,rfl,q⟩
def X4(C:X.A.units+1<cLine):OpR X (compareOp .NotIn) (rDIn true):=by
 intro pins s σ H x y v u Q I F D h;obtain⟨a,o,rfl,g,q⟩:=h;cases D;exact Zlm C I g F fun s' G=>⟨.bl (!o.isSome),H,G,rfl,q⟩
def vZ:X3 X (.builtin "len") (fun xs H Q=>∃a kvs,xs=[V.ref a]/\Rd H a (.dK kvs)/\Q (.int kvs.length) H):=by
 intro pins s σ H xs F Q I r h;obtain⟨a,kvs,rfl,e,q⟩:=h;obtain⟨u,rfl,C⟩:=vals1 r;cases C;exact d_len I e fun t s' D=>⟨.int kvs.length,H,D,⟨t,rfl⟩,q⟩
theorem yD{κ:Type}[DecidableEq κ]:∀{kvs:List (κ×V)},(kvs.map (·.1)).Nodup->∀p∈kvs,Yd kvs p.1=some p.2
 |[],_,_,h=>nomatch h
 |q::r,nd,p,h=>by
  rw[Qbx,Qc4]at nd;rcases Qaq.mp h with rfl|h
  ·exact Ym rfl
  ·have C:¬q.1=p.1:=fun z=>nd.1 (by rw[z];exact Qcm h)
   rw[Ye C];exact yD nd.2 p h
def yE{x:V}(h:Xb x=true):eqV x x=true:=by
 cases x<;>first
  |exact Qdi _
  |rfl
  |cases h
theorem ke{A:Ao}{s:Aq}{kvs:Ay}{D:List (Key×As)}(I:KV kvs D):∀{r:Ay} {va:List (Key×As)},KV r va->(∀p∈r,Yd kvs p.1=some p.2)->(∀p∈r,Xb p.2=true)->PySem.W.KeqHits A s D va true
 |_,_,.nil,_,_=>.nil
 |p::r,q::va,.cons h t,F,G=>by
  obtain⟨h1,h2⟩:=h;have e:=F p Qan;have f:=G p Qan;obtain⟨y,J,O⟩:=yt.some_of (v:=p.2) (o:=valueAt D q.1) (by rw[<-e,h1];exact I.val q.1);have z:=PySem.W.KeqHits.hit (k:=q.1) (v:=q.2) J (vI (A:=A) (s:=s) h2 O f f) (ke I (r:=r) (va:=va) t (fun p C=>F p (Qak _ C)) fun p C=>G p (Qak _ C));rw[yE f]at z;exact z
theorem Inv.freeze{σ:St}{kvs:Ay}{o:Obj}(I:Inv X r σ H s)(e:Rd H a (.dK kvs))(D:s.heap.get? a=some o):Inv X r σ (upd H a (.frz o (.dK kvs))) s:=by
 rcases e with e|⟨o',e⟩
 ·have ne:∀b u,H b=some u->u≠.dK kvs->b≠a:=fun b u C O z=>by
   grind
  refine I.step (h':=s.heap) (g':=s.gens) (d':=s.drawn) (t':=s.toks) (ch:=[]) (fun _ z=>nomatch z) (fun b o _ _ _ q _=>q) (fun b o _ _ _ q _=>⟨o.slots,q⟩) (fun b o _ _ n=>?_) (fun b o _ q=>⟨o,q⟩)
   (fun b xs q=>by rw[Zk (ne b _ q (fun z=>nomatch z))];exact q) (fun b o u q=>by rw[Zk (ne b _ q (fun z=>nomatch z))];exact q) (fun b ps q=>⟨#[],by rw[Zk (ne b _ q (fun z=>nomatch z)),q];simp⟩) (fun m G=>G) (fun b u q=>?_) I.bare
  ·rw[Zk (fun z=>by rw[z,e]at n;cases n)];exact n
  ·have st:∀u,Yo X.prog X.w H s.heap b u->Yo X.prog X.w (upd H a (.frz o (.dK kvs))) s.heap b u:=fun u x=>
    x.stay (fun _ _ _ q=>q) (fun c q=>by rw[Zk (ne c _ q (fun z=>nomatch z))];exact q) fun c xs q=>by rw[Zk (ne c _ q (fun z=>nomatch z))];exact q
   by_cases C:b=a
   ·subst C;rw[Za]at q;cases q;exact⟨D,st _ (I.hok b _ e)⟩
   ·rw[Zk C]at q;exact st u (I.hok b u q)
 ·have z:=I.hok a _ e;obtain⟨F,_⟩:=z;have:o=o':=Option.some.inj (D.symm.trans F);subst this;have J:upd H a (.frz o (.dK kvs))=H:=by
   funext b;unfold upd;split
   ·rename_i C;rw[C,e]
   ·rfl
  rw[J];exact I
def Itd(a:Au)(o:Obj)(kvs:Ay):It:=⟨fun i H=>i<kvs.length/\H a=some (.frz o (.dK kvs)),fun i H v H'=>H'=H/\∃p,kvs[i]?=some p/\v=kV p.1,fun i H=>i=kvs.length/\H a=some (.frz o (.dK kvs))⟩
def Zhh{k:Key}(h:(ZJ P w).is k v=true):RelV (kV k) v:=by
 rw[Za4]at h;cases k with
 |inl i=>
  cases v<;>first
   |(have e:=h;unfold xN Value.isInt at e;simp at e;exact⟨_,by rw[e]⟩)
   |(unfold xN Value.isInt at h;simp at h)
 |inr x=>
  cases v<;>first
   |(have e:=h;unfold xN Value.isStrOf at e;simp at e;exact⟨_,by rw[e]⟩)
   |(unfold xN Value.isStrOf at h;simp at h)
def Zd9{tg:Av}(a it:Au)(o:Obj)(kvs:Ay)(ep:Nat)(hep:∃es,o.data=.dict es ep)(hne:a≠it):Turn P w K tg (Itd a o kvs) [it] it (fun i h=>h.IsKeyIter it a i kvs.length ep)where
 mem:=by simp
 obj:=fun i h st b O=>by
  have e:b=it:=by simpa using O
  subst e;obtain⟨o,e,c,d⟩:=st;exact⟨o,e,fun v z=>by rw[d]at z;cases z⟩
 keep:=fun i h h' st k=>st.at fun o e=>k it (by simp) o e
 item:=by
  intro X hP hw hK hc i pins s σ H E I hf st hg;subst hP hw hK;obtain⟨hi,hH⟩:=hg;obtain⟨f0,f1,f2,f3,f4,f5⟩:=hf it (by simp);obtain⟨ho,z,nm,vs,D,dd⟩:=(show Yo X.prog X.w H s.heap a (.frz o (.dK kvs))from I.hok a _ hH);obtain⟨o',es,ep',Y,G,C,hk,hp,hn⟩:=id dd;have eo:o'=o:=Option.some.inj (Y.symm.trans ho);subst eo;obtain⟨es2,q⟩:=hep;rw[C]at q;cases q;have F:s.heap.DictAt (ZJ X.prog X.w) a vs ep:=⟨o',es,ho,G,C,hk,hp,hn⟩;have hl:=D.length;rw[hl]at st;refine(Walks.dictKeys (knd:=ZJ X.prog X.w) (prog:=X.prog) (w:=X.w) (I.ok.hd hc) it a hne vs ep).item i s _ _ (by lia) ⟨st,F⟩ fun v h' tk hv st' kk=>?_;obtain⟨k,x,hkx,hkey⟩:=hv;have I1:Inv X pins σ H {s with heap:=h',toks:=tk}:=I.turned (fun b o O e=>kk b o (by simpa using O) e) f0 f1 f3 f4 f5;obtain⟨J,_⟩:=st';obtain⟨oi,e,cc,d⟩:=id J;have Z:(kvs.map (·.1))[i]?=some k:=by
   rw[D.keys,Qam,hkx];rfl
  rw[Qam]at Z;obtain⟨p,hp1,hp2⟩:=Qbq.mp Z;rw[<-hl]at J;exact⟨_,rfl,v9 (s:={s with heap:=h',toks:=tk}) e cc d (by decide) ⟨kV k,H,I1,Zhh hkey,⟨rfl,p,hp1,by rw[hp2]⟩,J,fun b O=>(hf b O).1⟩⟩
 done:=by
  intro X hP hw hK hc i pins s σ H E I hf st hg;subst hP hw hK;obtain⟨hi,hH⟩:=hg;obtain⟨f0,f1,f2,f3,f4,f5⟩:=hf it (by simp);obtain⟨ho,z,nm,vs,D,dd⟩:=(show Yo X.prog X.w H s.heap a (.frz o (.dK kvs))from I.hok a _ hH);obtain⟨o',es,ep',Y,G,C,hk,hp,hn⟩:=id dd;have eo:o'=o:=Option.some.inj (Y.symm.trans ho);subst eo;obtain⟨es2,q⟩:=hep;rw[C]at q;cases q;have F:s.heap.DictAt (ZJ X.prog X.w) a vs ep:=⟨o',es,ho,G,C,hk,hp,hn⟩;have hl:=D.length;rw[hi,hl]at st;exact(Walks.dictKeys (knd:=ZJ X.prog X.w) (prog:=X.prog) (w:=X.w) (I.ok.hd hc) it a hne vs ep).done s _ _ ⟨st,F⟩ fun h' tk kk=>⟨rfl,I.turned (t':=tk) (fun b o O e=>kk b o (by simpa using O) e) f0 f1 f3 f4 f5⟩
 self:=fun A i s Q E st h=>wpAny_pyIter_keyiter st h
theorem yF{o:Obj}{kvs:Ay}{g:TG}(C:Nat->St->Hp->Prop)(Y:C 0 c H)(I:∀i c H,i<=kvs.length->C i c H->H a=some (.frz o (.dK kvs)))
  (J:∀i p c H,kvs[i]?=some p->C i c H->g (kV p.1) c H fun D H2=>A {E with nx:=C (i+1),ct:=C (i+1),bk:=E.nx} D H2) (O:∀c H,C kvs.length c H->E.nx c H):
  Zgm (Itd a o kvs) g A E c H:=
 qH kvs.length C Y (fun i c H hi p=>⟨⟨hi,I i c H (Qau hi) p⟩,fun v H' ⟨e,q,G,F⟩=>by subst e F;exact J i q c _ G p⟩) fun c H p=>⟨⟨rfl,I _ c H (Qah _) p⟩,O c H p⟩
inductive KTab(P:Params):List DictEntry->List (Str×Int)->Prop
 |nil:KTab P [] []
 |cons {k:Str} {v:Int} {t u:Tok} {es:List DictEntry} {l:List (Str×Int)}:KTab P es l->KTab P ({hash:=PyData.keyHash P k,key:=.str k t,val:=.int v u}::es) ((k,v)::l)
structure KD(K:Af)(w:Ar)(a:Au)(l:List (Str×Int)):Prop where
 ex:∃es ep,K.lookup a=some {cls:=.type "dict",dict:=none,data:=.dict es ep,slots:=#[]}/\KTab w.params es.toList l
 nd:(l.map (·.1)).Nodup
 ns:(a == sysModules)=false
def kvsOf(l:List (Str×Int)):Ay:=l.map fun p=>((Sum.inr p.1:Key),V.int p.2)
theorem KTab.pairs{es:List DictEntry}{l:List (Str×Int)}(h:KTab w.params es l):(∃vs,KV (kvsOf l) vs/\Pairs (ZJ P w) es vs)/\∀e∈es,∃k,(ZJ P w).is k e.key=true/\e.hash=(ZJ P w).hash k:=by
 induction h with
 |nil=>exact⟨⟨[],.nil,.nil⟩,fun _ h=>nomatch h⟩
 | @cons k v t u es l _ D=>
  obtain⟨⟨vs,r,p⟩,q⟩:=D;refine⟨⟨(.inr k,.int v u)::vs,.cons ⟨rfl,⟨u,rfl⟩⟩ r,.cons (JV P w k t) rfl p⟩,fun e C=>?_⟩;rcases Qaq.mp C with rfl|C
  ·exact⟨.inr k,JV P w k t,rfl⟩
  ·exact q e C
section
variable {X:Cx}{pins:Ac}{σ:St}{H:Hp}{s:Aq}{a:Au}{l:List (Str×Int)}{k:Key}{u:As}{A:Ao}{E:Ab}
def KD.of(I:Inv X pins σ H s)(d:KD X.K X.w a l):∃vs,KV (kvsOf l) vs/\s.heap.DictOf (ZJ X.prog X.w) a vs:=by
 obtain⟨es,ep,D,t⟩:=d.ex;obtain⟨⟨vs,r,p⟩,q⟩:=t.pairs (P:=X.prog);refine⟨vs,r,_,es,ep,I.kIn a _ D,⟨rfl,rfl,rfl⟩,rfl,fun e C=>q e (by simpa using C),p,?_⟩;rw[<-r.keys];unfold kvsOf;rw[Qb7];have:=d.nd;rw[List.nodup_iff_pairwise_ne]at *;rw[List.pairwise_map]at *;exact this.imp fun h z=>h (Sum.inr.inj z)
def kd_in(I:Inv X pins σ H s)(d:KD X.K X.w a l)(C:RelV (kV k) u)(h:∀s',Inv X pins σ H s'->Q (.bool (Yd (kvsOf l) k).isSome) s'):A1 X.prog X.w A (compareOp .In u (.ref a)) Q E s:=by
 obtain⟨vs,q,dd⟩:=d.of I;refine wpAny_in_of (y7 C) d.ns dd.mapOf ?_;rw[<-(q.val k).isSome_eq];exact h _ (I.tok _)
def Zlt{z:V}{r:As}(I:Inv X pins σ H s)(d:KD X.K X.w a l)(D:RelV (kV k) u)(G:RelV z r)(h:∀C s',Inv X pins σ H s'->RelV ((Yd (kvsOf l) k).getD z) C->Q C s'):
  A1 X.prog X.w A (call (.builtin "dict.get") [.ref a,u,r]) Q E s:=by
 obtain⟨vs,q,dd⟩:=d.of I;exact call_meetsIn PySem.F.slot_dict_get dd.typeIs PySem.F.entry_dict_get (PySem.F.args_dict_get_3 _ _ _) (meets_dict_get_default (ZJ X.prog X.w) a (y7 D) d.ns r) ⟨_,dd.mapOf,h _ _ (I.tok _) ((q.val k).getD G)⟩
end
def rKIn(K:Af)(w:Ar):R2:=fun y x H Q=>∃a l k,x=.ref a/\KD K w a l/\y=kV k/\Q (.bl (Yd (kvsOf l) k).isSome) H
def wY:OpR X (compareOp .In) (rKIn X.K X.w):=by
 intro pins s σ H x y v u Q I D C h;obtain⟨a,l,k,rfl,d,rfl,q⟩:=h;cases C;exact kd_in I d D fun s' F=>⟨.bl _,H,F,rfl,q⟩
def tKGet(K:Af)(w:Ar)(td ty tx:TE):TE:=fun σ H Q=>td σ H fun x H1=>∃a l,x=.ref a/\KD K w a l/\ty σ H1 fun y H2=>tx σ H2 fun z q=>∃k,y=kV k/\Q ((Yd (kvsOf l) k).getD z) q
def m2_of{f:Av}{m:Str}(C:ZX e=true)(G:ZX f=true)(D:attributeBase o m X.env (eval o X.env)=eval o X.env)(F:(p.endLine == q.line)=true):M2 X o m p e f q where
 base:=D
 few:=by
  rw[all_plain (by grind)];rfl
 line:=F
 trees:=by
  rw[Zz C,Zz G];rfl
def wZ {f:Av}  {ty tx:TE} (ho:QE X o O) (he:QE X e ty) (hf:QE X f tx) (h1:ZX e=true:=by rfl) (h2:ZX f=true:=by rfl) (hb:attributeBase o "get" X.env (eval o X.env)=eval o X.env:=by rfl) (hl:(p.endLine == q.line)=true:=by rfl):
  QE X (.Call (.Attribute o "get" p) [e,f] [] q) (tKGet X.K X.w O ty tx):=by
 have m:=m2_of (X:=X) (m:= "get") (o:=o) h1 h2 hb hl;refine⟨fun pins s σ H Q I h=>?_⟩;refine wpAny_Call_method m.base m.few m.line PySem.F.plainAttrs_dict PySem.F.slot_dict_get PySem.F.type_dict_get (thn (ho.out pins s σ H _ I h) fun u s1 ⟨x,H1,G,rx,a,l,ex,d,q1⟩=>?_);subst ex;obtain rfl:u=Value.ref a:=rx;obtain⟨vs,rel,dd⟩:=d.of G;refine⟨dd.typeIs,fun b C=>?_,?_⟩
 ·cases C;obtain⟨ob,_,_,g1,g2,_⟩:=dd;exact⟨ob,g1,g2.2.1⟩
 rw[m.trees];refine Qfo rfl (Calls.evalArgs_plain (Qcs (thn (he.out pins s1 σ H1 _ G q1) fun iv s2 ⟨y,H2,Y,ry,J⟩=>Qcs (thn (hf.out pins s2 σ H2 _ Y J) fun fv s3 ⟨z,H3,I3,rz,k,Z,q3⟩=>Qdy ?_))));subst Z;exact Zlt I3 d ry rz fun w' s4 I4 D=>⟨_,H3,I4,D,q3⟩
def Zhi{is:Aj}{σ:St}{Q:VK}(f:Nat->V)(hz:x.cps.size<=sizeLine)
  (I:∀c∈x.cps.toList,∀R:VK,R (f c) H->d (qM is σ (some (.str ⟨#[c]⟩))) H R)
  (G:∀l,H l=none->Q (.ref l) (upd H l (.lst (x.cps.toList.map f)))):J9 is Zg5 d σ Q (Its x) H:=by
 refine⟨fun i m zs H'=>m=x.cps.size-i/\i<=x.cps.size/\zs=(x.cps.toList.take i).map f/\H'=H,⟨x.cps.size,by simp,Qbp _,rfl,rfl⟩,?_⟩;rintro i m zs H' ⟨rfl,hi,rfl,rfl⟩;have F:((x.cps.toList.take i).map f).length<=sizeLine:=by
  grind
 by_cases q:i<x.cps.size
 ·refine .inr ⟨q,F,fun v H2 y=>?_⟩;obtain⟨e,c,J,rfl⟩:=y;subst e;have C:x.cps.toList[i]?=some c:=by rw[Qex];exact J
  refine I c (Qag C) _ ⟨x.cps.size-(i+1),by lia,rfl,q,?_,rfl⟩;rw[take_snoc C,Qbd];rfl
 ·have e:i=x.cps.size:=by lia
  refine .inl ⟨e,F,fun l D=>?_⟩;rw[Qce (by rw[Qbr];lia)];exact G l D
def uO:A0->List V->Bool
 |[],[]=>true
 |x::xs,y::ys=>eqV x y&&uO xs ys
 |_,_=>false
def eqJ(xs ys:A0)(j:Nat):Bool:=match xs[j]?,ys[j]? with
 |some a,some b=>eqV a b
 |_,_=>true
theorem jQ:∀xs ys:A0,((List.range (min xs.length ys.length)).all (eqJ xs ys)&&xs.length == ys.length)=uO xs ys
 |[],[]=>rfl
 |[],y::ys=>by simp[uO]
 |x::xs,[]=>by simp[uO]
 |x::xs,y::ys=>by
  have q:=jQ xs ys;have e1:min (x::xs).length (y::ys).length=min xs.length ys.length+1:=by
   simp only[Qbu];lia
  have e2:((x::xs).length == (y::ys).length)=(xs.length == ys.length):=by simp
  rw[e1,e2,List.range_succ_eq_map,Qdm,Qhb,Bool.and_assoc];show(eqV x y&&((List.range (min xs.length ys.length)).all (eqJ xs ys)&&xs.length == ys.length))=(eqV x y&&uO xs ys);rw[q]
def Zea{A:Ao}{xs ys:A0}{q:Ag}(r:Vals xs R)(I:Vals ys q)(f:xs.all Xb=true)(Y:ys.all Xb=true):∀j (h1:j<R.toArray.size) (h2:j<q.toArray.size),SeqAt.EqAt A s R.toArray[j] q.toArray[j] (eqJ xs ys j):=by
 intro j h1 h2;have l1:=r.length;have l2:=I.length;have G:j<xs.length:=by rw[l1];simpa using h1
 have C:j<ys.length:=by rw[l2];simpa using h2
 obtain⟨u,e1,O⟩:=r.get (Qac G);obtain⟨Z,e2,J⟩:=I.get (Qac C);have g1:Xb xs[j]=true:=Qb8.mp f _ (Qcv G);have g2:Xb ys[j]=true:=Qb8.mp Y _ (Qcv C);have D:R.toArray[j]=u:=by
  grind
 have F:q.toArray[j]=Z:=by
  grind
 have e3:eqJ xs ys j=eqV xs[j] ys[j]:=by
  unfold eqJ;rw[Qac G,Qac C]
 rw[D,F,e3];exact vI (A:=A) (s:=s) O J g1 g2
inductive Zjw(K:Af)(neg:Bool)(x:V)(y:V)(H:Hp)(Q:VK):Prop
 |mk (a c xs ys:_):(x=.ref a)->(y=.ref c)->(SqT K H a xs)->(SqT K H c ys)->(xs.all Xb=true)->(ys.all Xb=true)->(Q (.bl (if neg then !uO xs ys else uO xs ys)) H)->Zjw K neg x y H Q
def rEqT(K:Af)(neg:Bool):R2:=fun x y H Q=>Zjw K neg x y H Q
def Zeb(F:X.A.units<cLine):OpR X (compareOp .NotEq) (rEqT X.K true):=by
 intro pins s σ H x y v u Q I O J h;obtain⟨a,c,xs,ys,rfl,rfl,Y,G,f,Z,q⟩:=h;cases O;cases J;obtain⟨its,r,p,_⟩:=I.tuple Y;obtain⟨C,D,p2,_⟩:=I.tuple G;refine SeqAt.RcNeAt.tuples (e:=eqJ xs ys) p p2 F (Zea r D f Z) X.prog X.w _ _ (ZO I q ?_);show(!uO xs ys)=_;rw[Qax,Qax,<-r.length,<-D.length,jQ]
def Ww(t:SetTable)(n:Nat):(t.standIn n).led=t.led/\(t.plain=false->(t.standIn n).plain=false):=⟨rfl,fun _=>rfl⟩
def yG(t:SetTable)(n:Nat):(t.orStandIn n).led=t.led/\(t.plain=false->(t.orStandIn n).plain=false):=by
 unfold SetTable.orStandIn;split
 ·exact⟨rfl,id⟩
 ·exact Ww _ _
def Zbe(t:SetTable)(es:Array (Int×As))(h:Int)(x:As):(layNew t es h x).2.1.led=t.led/\(t.plain=false->(layNew t es h x).2.1.plain=false):=by
 unfold layNew;split
 ·exact yG _ _
 ·exact Ww _ _
theorem kg(t:SetTable)(es:Array (Int×As))(n:Nat):(relayAll t es n).2.1.led=t.led/\(t.plain=false->(relayAll t es n).2.1.plain=false):=by
 unfold relayAll;split
 ·rename_i t' C q;have D:t'.led=t.led/\(t.plain=false->t'.plain=false):=by
   unfold SetTable.relaid SetTable.laid at q;cases hc:SetTable.layClean (SetTable.sizeAbove n-1) (es.map (·.1))with
   |none=>rw[hc]at q;exact nomatch q
   |some F=>
    rw[hc]at q;obtain⟨rfl,_⟩:=q;exact⟨rfl,id⟩
  dsimp only;split
  ·exact D
  ·exact Ww _ _
 ·exact Ww _ _
def tx:As->Str
 |.str x _=>x
 |_=>⟨#[]⟩
def xo(prog:An)(w:Ar)(h:Heap)(a:Au)(led:Bool)(S:Ai):Prop:=
 ∃o es ep t,h.get? a=some o/\o.ExactSet/\o.data=.set es ep t/\ElemsOf (strKind prog w) es.toList/\(es.toList.map fun e=>tx e.2).Perm S/\t.fits es.size=true/\t.led=led/\(es.size=0\/t.plain=false)
section
variable {prog:An}{w:Ar}{A:Ao}{E:Ab}{s:Aq}
def Zoi{e:As}{k:Str}(h:(strKind prog w).is k e=true):tx e=k:=by
 obtain⟨t,rfl⟩:=Qga h;rfl
def uP{l:List (Int×As)}(h:ElemsOf (strKind prog w) l){e:Int×As}(C:e∈l):(strKind prog w).is (tx e.2) e.2=true/\∃t,e.2=.str (tx e.2) t:=by
 obtain⟨⟨k,q,_⟩,_⟩:=h e C;rw[Zoi q];exact⟨q,Qga q⟩
def ins(S:Ai)(x:Str):Ai:=if x∈S then S else S++[x]
def Zlu{l:List (Int×As)}(h:ElemsOf (strKind prog w) l):
  (l.findIdx? (fun e=>(strKind prog w).is x e.2)).isSome=true↔x∈l.map (fun e=>tx e.2):=by
 rw[List.findIdx?_isSome,Qd5,Qay];constructor
 ·rintro⟨e,q,C⟩;exact⟨e,q,Zoi C⟩
 ·rintro⟨e,q,C⟩;exact⟨e,q,C ▸ (uP h q).1⟩
def xY{h:Heap}{o:Obj}{es:Array (Int×As)}{t:SetTable}(Y:h.get? a=some o)(C:o.ExactSet)(G:o.data=.set es i t)
  {q:Array (Int×As)} {t':SetTable} {S:Ai} {led:Bool} (F:ElemsOf (strKind prog w) q.toList) (J:(q.toList.map fun e=>tx e.2).Perm S) (Z:t'.fits q.size=true) (O:t'.led=led) (D:q.size=0\/t'.plain=false):
  (h.update a (Obj.putSet q t')).get? a=some {o with data:=.set q (i+1) t'}/\xo prog w (h.update a (Obj.putSet q t')) a led S:=by
 have I:(h.update a (Obj.putSet q t')).get? a=some {o with data:=.set q (i+1) t'}:=by
  have:=Qbk (Obj.putSet q t') Y (by rw[putSet_of q t' G];rfl);rw[putSet_of q t' G]at this;exact this
 exact⟨I,_,q,i+1,t',I,C,rfl,F,J,Z,O,D⟩
theorem Zec{led:Bool}{S:Ai}{tk:Tok}{Q:Bool->Shared->Prop}(hS:xo prog w s.heap a led S)(hroom:S.length+1<scanBound)
  (h:∀h' b,Heap.SameBut a s.heap h'->xo prog w h' a led (ins S x)->Q b {s with heap:=h'}):
  A1 prog w A (setAddHashed a (.str x tk) ((strKind prog w).hash x)) Q E s:=by
 obtain⟨o,es,ep,t,ho,hex,hd,J,hp,hf,hl,hpl⟩:=hS;have hn:es.size=S.length:=by rw[<-hp.length_eq,Qad,Qbr]
 have Z:(strKind prog w).is x (.str x tk)=true:=by show Value.isStrOf x (.str x tk)=true;simp[Value.isStrOf]
 refine Qcl (Qaa (Qee ho hd hf ?_));dsimp only;rw[byScan_of (knd:=strKind prog w) rfl (by lia) J];refine Qaa ?_;refine Qaa (Qdk ?_);refine Qaa (wpAny_setScan_of Z ho hd hf J ?_);have O:=Zlu J (x:=x);cases hr:List.findIdx? (fun e=>(strKind prog w).is x e.2) es.toList with
 |some j=>
  rw[hr]at O;have hx:x∈S:=hp.mem_iff.mp (O.mp rfl);refine Qae (Qae ?_);have:=h s.heap false (Heap.SameBut.refl a s.heap) (by rw[ins,Qba hx];exact⟨o,es,ep,t,ho,hex,hd,J,hp,hf,hl,hpl⟩);exact this
 |none=>
  rw[hr]at O;have hx:x∉S:=fun hm=>by simpa using O.mpr (hp.mem_iff.mpr hm)
  have I:=Zbe t es ((strKind prog w).hash x) (.str x tk);have D:=layNew_perm t es ((strKind prog w).hash x) (.str x tk);have G:=layNew_fits t es ((strKind prog w).hash x) (.str x tk);generalize hL:layNew t es ((strKind prog w).hash x) (.str x tk)=L at I D G ⊢;obtain⟨q,t1,wd,gave⟩:=L;rw[Array.toList_push]at D;have hel1:ElemsOf (strKind prog w) q.toList:=(J.push Z rfl).perm D;have hp1:(q.toList.map fun e=>tx e.2).Perm (ins S x):=by
   rw[ins,Qa4 hx];refine(D.map _).trans ?_;rw[Qbd];exact hp.append_right _
  have hz1:q.size=S.length+1:=by
   have:=hp1.length_eq;rw[ins,Qa4 hx,Qad,Qbr,Qaf]at this;exact this
  have hg:∀(b:Bool) {C:Aq} {Q':Unit->Shared->Prop},Q' () C->A1 prog w A (match b with|true=>rule "set.scan.the-table-gave-way" |false=>pure ()) Q' E C:=
   fun b C Q' F=>by cases b<;>first|exact Qae F|exact Qdk F
  refine Qaa (hg _ ?_);have key:∀(g:Bool->Sem Unit),(∀(b:Bool) (C:Aq) (Q':Unit->Shared->Prop),Q' () C->A1 prog w A (g b) Q' E C)->∀t2:SetTable,t2.fits q.size=true->t2.led=led->t2.plain=false->
    A1 prog w A (do
     storeSet a q t2
     if(!wd&&t2.tooFull)=true then do
       g (relayAll t2 q (SetTable.grown q.size)).2.2
       storeSet a (relayAll t2 q (SetTable.grown q.size)).1 (relayAll t2 q (SetTable.grown q.size)).2.1
       pure (some true)
      else pure (some true)) (fun r s'=>r=some true/\∀b,Q b s') E s:=by
   intro g hg t2 hf2 hl2 hp2;refine Qaa (wpAny_storeSet_of ho hd ?_ (Qgv (by lia)));obtain⟨ho1,hS1⟩:=xY (prog:=prog) (w:=w) ho hex hd hel1 hp1 hf2 hl2 (.inr hp2);have Y:=Qcc s.heap a (Obj.putSet q t2);split
   ·have F:=relayAll_perm t2 q (SetTable.grown q.size);have hfr:=relayAll_fits t2 q (SetTable.grown q.size);have hlr:=kg t2 q (SetTable.grown q.size);generalize relayAll t2 q (SetTable.grown q.size)=Rl at F hfr hlr ⊢;obtain⟨es2,t3,g2⟩:=Rl;have hz2:es2.size=q.size:=by rw[<-Qbr,F.length_eq,Qbr]
    refine Qaa (hg _ _ _ ?_);refine Qaa (wpAny_storeSet_of ho1 rfl ?_ (Qgv (by lia)));obtain⟨_,hS2⟩:=xY (prog:=prog) (w:=w) ho1 hex rfl (hel1.perm F) ((F.map _).trans hp1) hfr (hlr.1.trans hl2) (.inr (hlr.2 hp2));exact Qae ⟨rfl,fun b=>h _ b (Y.trans (Qcc _ a _)) hS2⟩
   ·exact Qae ⟨rfl,fun b=>h _ b Y hS1⟩
  split
  ·rename_i hpt;refine Qaa ?_;rw[hashByValue_scannable 8 rfl];refine Qae ?_;rw[show plainKind (Value.str x tk)=false from rfl];refine Qde (key _ ?_ {t1 with plain:=false} (SetTable.fits_plain_off G) (I.1.trans hl) rfl) ?_ (fun _ _ e=>e)
   ·intro b C Q' F;cases b<;>first|exact Qae F|exact Qdk F
   ·rintro r s' ⟨rfl,F⟩;exact Qae (F _)
  ·rename_i hpt;refine Qaa (Qae ?_);refine Qde (key _ ?_ t1 G (I.1.trans hl) (by simpa using hpt)) ?_ (fun _ _ e=>e)
   ·intro b C Q' F;cases b<;>first|exact Qae F|exact Qdk F
   ·rintro r s' ⟨rfl,F⟩;exact Qae (F _)
end
def Wx(ys:Ai):Ai:=ys.foldl ins []
def jR(ys:Ai)(y:Str):Wx (ys++[y])=ins (Wx ys) y:=by simp[Wx,Qc8]
def Zlv(S:Ai)(x:Str):(ins S x).length<=S.length+1:=by unfold ins;split<;>simp
theorem XX(ys:Ai):∀i,(Wx (ys.take i)).length<=i
 |0=>by simp[Wx]
 |i+1=>by
  by_cases h:i<ys.length
  ·rw[Qgw,Qac h,Option.toList_some,jR];have:=XX ys i;have:=Zlv (Wx (ys.take i)) ys[i];lia
  ·rw[Qce (by lia)];have:=XX ys i;rw[Qce (by lia)]at this;lia
def qj{prog:An}{h h':Heap}{led:Bool}{S:Ai}(D:xo prog w h a led S)(C:∀o,h.get? a=some o->h'.get? a=some o):xo prog w h' a led S:=by
 obtain⟨o,es,ep,t,q,rest⟩:=D;exact⟨o,es,ep,t,C o q,rest⟩
section
variable {prog:An}{w:Ar}{A:Ao}{R:Result->Shared->Prop}{I:Au}{fp wr:List Au}{G:Array GenState->Array GenState->Prop}{n:Nat}{P:Nat->Value->Prop}{St:Nat->Shared->Prop}
theorem Zbf(W:WalksS prog w A.in1 I fp wr G n P St)(S:Au)(Y:S∉fp){led:Bool}{ys:Ai}(hn:ys.length=n)
  (hval:∀i v,P i v->∃y t,ys[i]?=some y/\v=.str y t) (J:n+1<scanBound):
  ∀(k i:Nat) (s:Aq),n-i=k->i<=n->St i s->xo prog w s.heap S led (Wx (ys.take i))->
   (∀s',Moved (S::wr) G s s'->xo prog w s'.heap S led (Wx ys)->R (.ok (.ret .none)) s')->
   codeAny (model prog w) A (.builtin "set.update.loop" ⟨[.ref S,.ref I],[]⟩) R s:=by
 have hSw:S∉wr:=fun h=>Y (W.sub _ h);have q:∀b∈wr,b∈S::wr:=fun b J=>Qak _ J;intro k
 induction k with
 |zero=>
  intro i s hk hi D hS hR;have hin:i=n:=by lia
  rw[hin,<-hn,Qbf]at hS;subst hin;refine Qco F.entry_set_update_loop ?_;refine Qaa (W.done s _ _ D fun s' hm=>?_);exact Qae (hR s' (hm.mono q) (qj hS fun o ho=>hm.heap S _ hSw ho))
 |succ k ih=>
  intro i s hk hi D hS hR;have hlt:i<n:=by lia
  refine Qco F.entry_set_update_loop ?_;refine Qaa (W.item i s _ _ hlt D fun v s' hP hst' hm=>?_);obtain⟨y,t,hy,rfl⟩:=hval i v hP;have hS':=qj hS fun o ho=>hm.heap S _ hSw ho;refine Qaa (Qcl ?_);refine Qcl ?_;refine Qaa ((PySem.strKind prog w).pyHash (k:=y) (by show Value.isStrOf y (.str y t)=true;simp[Value.isStrOf]) ?_);have C:(Wx (ys.take i)).length+1<scanBound:=by have:=XX ys i;lia
  refine Zec (s:={s' with toks:=s'.toks+1}) hS' C fun h' b O Z=>?_;rw[<-jR,show ys.take i++[y]=ys.take (i+1) by rw[Qgw,hy,Option.toList_some]]at Z;refine Qae ⟨Qdo F.plain_set_update_loop _,ih (i+1) _ (by lia) hlt (W.frame _ s' _ _ hst' (Qd0 _) fun b J o e=>?_) Z fun s'' hm'' hS''=>?_⟩
  ·rw[O.2 b (fun h:b=S=>Y (by rw[<-h];exact J))];exact e
  ·refine hR s'' (Moved.trans W.gtrans ((hm.mono q).then_heap (Qd0 _) fun b o J e=>?_) hm'') hS'';rw[O.2 b (fun h:b=S=>J (by rw[h];exact Qan))];exact e
end
section
variable {prog:An}{w:Ar}{A:Ao}{E:Ab}{s:Aq}
def kh (w:Ar):Bool:=w.params.followText "set-order"
def Y1 (w:Ar):Obj:={cls:=.type "set",dict:=none,data:=.set #[] 0 (.fresh 0 0 (!kh w))}
def gb(a:As){Q₁:Ab}(h:Q₁ (.ref s.heap.objs.size) {s with heap:=s.heap.push (Y1 w)}):
  codeAny (model prog w) A (.call (.builtin "set.__new__") ⟨[.type "set",a],[]⟩) (wants Q₁ E) s:=by
 refine codeAny_of_tree ?_;show wpAny _ A.in1 (do checkBuiltinCall "set.__new__" ⟨[.type "set",a],[]⟩;again (.builtin "set.__new__" ⟨[.type "set",a],[]⟩)) _ _ s;refine Qaa (Qdc (F.newCall_set_1 a) (Qae ⟨Qdo F.plain_set_new _,Qco F.entry_set_new ?_⟩));rw[Qea F.plain_set_new _];unfold Builtin.«set.__new__» Builtin.Frozenset.newClass;have q:=sub_set_self;obtain⟨C,g,d,tk,os⟩:=s;dsimp only
 wp_walk
 refine Qg8 (Qae ?_);dsimp only;simp only[newObj];refine Qaa (wpAny_alloc (Qae ?_));exact Qae h
theorem jg{l:Au}{items:Ah}{ys:Ai}
  (hh:A.handled=none) (hl:s.heap.IsList l items) (hi:StrsAre items.toList ys) (hb:items.size+1<scanBound)
  (h:∀(h':Heap) (tk:Nat),s.toks<=tk->xo prog w h' s.heap.objs.size (!kh w) (Wx ys)->
   (∀b o,b<s.heap.objs.size->s.heap.get? b=some o->h'.get? b=some o)->Q (.ref s.heap.objs.size) {s with heap:=h',toks:=tk}):
  wpAny (model prog w) A (call (.type "set") [.ref l]) Q E s:=by
 obtain⟨c,tl,hmro⟩:=Qey.mro;have hmade:=Qey.made;have hsub:=Qey.sub;refine wpAny_call (codeAny_of_tree ?_);show wpAny _ _ (callAny (.type "set") _) _ _ _;refine Qae ⟨Code.quiet_builtin _ (by decide +kernel),Qco F.entry_type_call ?_⟩;rw[Around.under_plain (weight_type_call_type "set" [.ref l] []) rfl];have h1:=Qey.notType;have h2:=Qey.canCreate;have hct:=F.typeCall_set_1 (.ref l)
 repeat (any_goals (first|assumption|wp_step))
 refine Qer (gb (.ref l) (E:=E) (Q₁:=fun obj D=>obj=.ref s.heap.objs.size/\D={s with heap:=s.heap.push (Y1 w)}) ⟨rfl,rfl⟩) fun r D hr=>?_;cases r with
 |error e=>exact hr
 |ok fl=>
  cases fl with
  |ret obj=>
   obtain⟨rfl,rfl⟩:=hr;have hS:(s.heap.push (Y1 w)).get? s.heap.objs.size=some (Y1 w):=Qao _ rfl;have hT:Shared.TypeIs {s with heap:=s.heap.push (Y1 w)} (.ref s.heap.objs.size) "set" :=⟨_,hS,rfl⟩;have hli:=Qey.init.lookup;have hbi:=Qey.init.bind (.ref s.heap.objs.size)
   repeat (any_goals (first|assumption|wp_step))
   refine Qer (codeAny_call_builtin (R:=wants (fun r s₂=>r=.none/\∃h' tk,s.toks<=tk/\s₂={s with heap:=h',toks:=tk} /\
     xo prog w h' s.heap.objs.size (!kh w) (Wx ys) /\
     (∀b o,b<s.heap.objs.size->s.heap.get? b=some o->h'.get? b=some o)) E) Qey.init.plain F.entry_set_init (check_set_init_1 hT ?_)) fun r₂ s₂ q=>?_
   ·obtain⟨ol,Y,hcl,nl,hdl⟩:=hl;obtain⟨ocls,I,odata,C⟩:=ol;simp only at hcl hdl;subst hcl;subst hdl;have hol':(s.heap.push (Y1 w)).get? l=some {cls:=.type "list",dict:=I,data:=.seq items nl,slots:=C}:=Qab _ Y;have hsls:=F.sub_list_set;have hslf:=F.sub_list_frozenset;have hne:(Value.type "list" == Value.type "dict")=false:=by decide
    have hl1:(s.heap.push (Y1 w)).IsList l items:=⟨_,hol',rfl,nl,rfl⟩;unfold Builtin.«set.__init__» noKeywords Builtin.Frozenset.updateFrom;generalize hPI:pyIter=PI
    wp_walk
    subst hPI;refine Qe3 hl1 ?_;refine Qaa (wpAny_runValue ?_);have Z:l<s.heap.objs.size:=Qar Y;have hh3:A.in1.in1.in1.handled=none:=by simp[hh]
    have hneI:l≠(s.heap.push (Y1 w)).objs.size:=by
     rw[Qb1];exact Qbi (Qe4 Z)
    have hSf:s.heap.objs.size∉[(s.heap.push (Y1 w)).objs.size,l]:=by
     rw[Qb1];simp only[Qaq,Qat,Qbo,Qem,not_or];exact⟨Qbi (Qdv _),Qej Z⟩
    have hval:∀(i:Nat) (v:As),items[i]?=some v->∃y t,ys[i]?=some y/\v=.str y t:=fun i v hv=>by
     rw[<-Qex]at hv;obtain⟨y,t,e1,e2⟩:=StrsAre.item hi i v hv;exact⟨y,t,e2,e1⟩
    refine Zbf ((Walks.list hh3 _ l hneI items).toS) s.heap.objs.size
     hSf (led:=!kh w) (ys:=ys) (by rw[<-Qbr];exact hi.length.symm) hval hb (items.size-0) 0 _ (by lia) (Qbp _)
     ⟨⟨_,Qao _ rfl,rfl,rfl⟩,(hl1.push _)⟩ ?hS0 ?hR
    case hS0=>
     exact⟨Y1 w,#[],0,.fresh 0 0 (!kh w),Qab _ hS,⟨rfl,rfl,rfl⟩,rfl,fun e he=>by simp at he,by simp[Wx],rfl,rfl,.inl rfl⟩
    case hR=>
     intro s' hm G;have O:=hm.toks;obtain⟨h',g',d',tk',os'⟩:=s';have eg:g'=s.gens:=hm.gens;have ed:d'=s.drawn:=hm.drawn;have eo:os'=s.os:=hm.os;subst eg;subst ed;subst eo;show wpAny _ _ _ _ _ _;refine Qae ?_;show wpAny _ _ (ret Value.none) _ _ _;refine Qae ⟨rfl,h',tk',O,rfl,G,fun b o hb e=>?_⟩;have hb1:b≠s.heap.objs.size:=Qbi hb;have hb2:b≠(s.heap.push (Y1 w)).objs.size:=by
      rw[Qb1];exact Qbi (Qe4 hb)
     exact hm.heap b o (by simp only[Qaq,Qat,Qbo,Qem,not_or];exact⟨hb1,hb2⟩) (Qab _ (Qab _ e))
   ·cases r₂ with
    |error e=>exact q
    |ok J=>
     cases J with
     |ret r=>
      obtain⟨rfl,h',tk,O,rfl,G,hk'⟩:=q
      repeat (any_goals (first|assumption|wp_step))
      exact h _ _ O G hk'
     |_=>exact q.elim
  |_=>exact hr.elim
end
theorem ZA:Slot "set_iterator" "__next__" "set_iterator.__next__" :=
 .of (owner:= "set_iterator") (n:= "__next__") (by kernel_rfl) (by decide +kernel) (by decide +kernel) (by decide +kernel)
  (by first|exact .inl (by decide +kernel)|exact .inr (by decide +kernel)) (by kernel_rfl)
def YQ:entryFor table "set_iterator.__next__" = some Builtin.«set_iterator.__next__»:=entryFor_of_tree (by kernel_rfl)
def owner_seti:Manifest.owners.lookup (String.ofList ['r','o','t','a','r','e','t','i','_','t','e','s'].reverse)=some Manifest.sig_set_iterator:=by kernel_rfl
def Xq (a:As):argsOk "set_iterator.__next__" ⟨[a],[]⟩:=by
 kernel_rfl
theorem jh:entryFor table "set.__iter__" = some Builtin.«frozenset.__iter__» :=
 entryFor_alias (id':= "frozenset.__iter__") (by kernel_rfl) rfl (by decide +kernel) (by kernel_rfl)
section
variable {prog:An}{w:Ar}{A:Ao}{E:Ab}{s:Aq}
def Zbg{q:Source}{Q:Nat->Shared->Prop}(C:n≠0)(h:∀i d,i<n->Q i {s with drawn:=d}):A1 prog w A (choose q n) Q E s:=by
 intro Γ p D;exact⟨C,h _ _ (Nat.mod_lt _ (Nat.pos_of_ne_zero C))⟩
theorem YR{α:Type}:∀(xs:List α) (i:Nat) (x:α),xs[i]?=some x->(x::xs.eraseIdx i).Perm xs
 |[],i,x,h=>by simp at h
 |y::ys,0,x,h=>by simp at h;subst h;exact .rfl
 |y::ys,i+1,x,h=>by
  exact(List.Perm.swap y x _).trans ((YR ys i x h).cons y)
theorem Gr{α:Type}:∀(n:Nat) (xs:List α) (s:Aq) (Q:List α->Shared->Prop),xs.length<=n->(∀ys d,ys.Perm xs->Q ys {s with drawn:=d})->A1 prog w A (drawOrder n xs) Q E s
 |0,xs,s,Q,C,h=>by
  have:xs=[]:=Qb9 (by lia);subst this;exact Qae (h [] s.drawn .rfl)
 |n+1,[],s,Q,C,h=>by
  exact Qae (h [] s.drawn .rfl)
 |n+1,y::ys,s,Q,C,h=>by
  refine Qaa (Zbg (by simp) fun i d hi=>?_);obtain⟨x,q⟩:∃x,(y::ys)[i]?=some x:=⟨_,Qac hi⟩;rw[q];refine Qaa (Gr n ((y::ys).eraseIdx i) _ _ (by grind) fun zs d' hz=>?_);exact Qae (h _ d' ((hz.cons x).trans (YR _ i x q)))
end
theorem qN{α:Type}(next:Nat->Nat):∀(q k:Nat) (left:List α) (out:Array α),q=left.length->(pickOrder.go next q k left out).toList.Perm (out.toList++left)
 |0,k,left,out,h=>by
  have:left=[]:=Qb9 h.symm;subst this;unfold pickOrder.go;simp
 |q+1,k,left,out,h=>by
  unfold pickOrder.go;have hi:next k%left.length<left.length:=Nat.mod_lt _ (by lia);rw[Qac hi];refine(qN next q (k+1) _ _ (by grind)).trans ?_;rw[Array.toList_push,Qcy];exact(YR left _ _ (Qac hi)).append_left _
def XY(next:Nat->Nat)(xs:Array m):(pickOrder next xs).toList.Perm xs.toList:=by
 unfold pickOrder;simpa using qN next xs.size 0 xs.toList #[] (by simp)
def Je(h:Heap)(a:Au)(es:Array (Int×As))(ep:Nat)(t:SetTable):Prop:=∃o,h.get? a=some o/\o.ExactSet/\o.data=.set es ep t/\t.fits es.size=true
def Y2 (h:Heap) (I a:Au) (first:As) (i n ep:Nat):Prop:=∃o,h.get? I=some o/\o.cls=.type "set_iterator" /\ o.data=.fields #[first,.int i 0,.ref a,.int n 0,.int ep 0]
section
variable {prog:An}{w:Ar}{A:Ao}{E:Ab}{s:Aq}
def Y2.typeIs  {first:As}  (x:Y2 s.heap f a first i n M):s.TypeIs (.ref f) "set_iterator" :=let⟨o,ho,hc,_⟩:=x;⟨o,ho,hc⟩
def Y2.at{h h':Heap}{first:As}(x:Y2 h f a first i n M)(e:∀o,h.get? f=some o->h'.get? f=some o):Y2 h' f a first i n M:=let⟨o,ho,r⟩:=x;⟨o,e _ ho,r⟩
def Je.at{h h':Heap}{es:Array (Int×As)}{t:SetTable}(x:Je h a es i t)(e:∀o,h.get? a=some o->h'.get? a=some o):Je h' a es i t:=let⟨o,ho,r⟩:=x;⟨o,e _ ho,r⟩
def X5{Q:Bool->Shared->Prop}(h:Q (kh w) s):A1 prog w A setsByText Q E s:=Qaa (Qg8 (Qae h))
def qO{es:Array (Int×As)}{t:SetTable}{given:Nat}{Q:Option (As×Nat)->Shared->Prop}(F:kh w=true)(I:Je s.heap a es i t)
  (h:Q (((pickOrder (w.params.setOrder a i) es)[given]?).map fun e=>(e.2,0)) s):A1 prog w A (setNext a 0 given i) Q E s:=by
 obtain⟨o,C,G,q,D⟩:=I;refine Qaa (Qee C q D ?_);refine Qaa (X5 ?_);rw[F];simp only[↓reduceIte,Qdz,Qck];refine Qaa (Qaa (Qee C q D ?_));refine Qaa (X5 ?_);rw[F];refine Qaa (Qg8 (Qae ?_));exact Qae h
def Gs{es:Array (Int×As)}{t:SetTable}{given:Nat}{Q:Option (As×Nat)->Shared->Prop}(O:kh w=false)(G:Je s.heap a es i t)(I:t.led=true)(hz:es.size<=1)
  (h:Q (match es[SetTable.below t.place n]?,t.place[SetTable.below t.place n]? with|some (_,x),some j=>some (x,j+1)|_,_=>none) s):A1 prog w A (setNext a n given i) Q E s:=by
 obtain⟨o,F,D,C,J⟩:=G;refine Qaa (Qee F C J ?_);refine Qaa (X5 ?_);rw[O];have q:decide (es.size>1)=false:=by simp;lia
 show wpAny _ _ (if(!t.plain&&decide (es.size>1))=true then _ else _) _ _ _;rw[q,Bool.and_false];refine Qaa (m:=(if(!t.led && !es.isEmpty)=true then unsupported "set:maker-not-led" else pure ())) ?_;rw[I];exact Qae (Qae h)
def yH{es:Array (Int×As)}{t:SetTable}{e:Int×As}(G:Je s.heap a es i t)(q:es[n]?=some e)
  (h:Q e.2 s):A1 prog w A (setNextDrawn a n i) Q E s:=by
 obtain⟨o,F,D,C,I⟩:=G;refine Qaa (Qee F C I ?_);simp only[Qdz,Qck,↓reduceIte];rw[q];exact Qae h
def Zbh{first:As}(x:Y2 s.heap f a first i n M){D:Nat}:
  Y2 ((s.heap.update f (Obj.mapFields (·.setIfInBounds 0 v))).update f (Obj.mapFields (·.setIfInBounds 1 (.int D 0)))) f a v D n M:=by
 obtain⟨o,G,F,C⟩:=x;have h1:=Qbk (Obj.mapFields (·.setIfInBounds 0 v)) G (Qct (Qbs C _));have q:=Qbs C (·.setIfInBounds 0 v);refine⟨_,Qbk _ h1 (Qct (Qbs q _)),(Qe5 ..).trans ((Qe5 ..).trans F),?_⟩;rw[Qbs q];simp
def ki{es:Array (Int×As)}{t:SetTable}{x:As}{nx:Nat}{Q:Aa}(q:Y2 s.heap f a (.int M 0) i es.size n)(hs:Je s.heap a es n t)
  (Y:∀(I:Option (As×Nat)->Shared->Prop) (Z:Ab),I (some (x,nx)) s->A1 prog w A.in1 (setNext a M i n) I Z s)
  (hQ:∀h',Y2 h' f a (.int nx 0) (i+1) es.size n->Heap.SameBut f s.heap h'->Q (some x) {s with heap:=h'}):A1 prog w A (pyNext (.ref f)) Q E s:=by
 obtain⟨o,D,hc,C⟩:=id q;obtain⟨os,F,J,G,O⟩:=id hs;refine Qaa (Qdn (wpAny_callSpecial?_slot (name:=Str.ofString "__next__") q.typeIs ZA
  (Qbn ZA q.typeIs YQ ?_ (Xq _))))
 refine Qaa (Qae ?_);refine Qaa (Qgs D C ?_);refine Qaa (Qen F G O ?_);simp only[Qdz,Qck,↓reduceIte];refine Qaa (Y _ _ ?_);refine Qaa (Qda D C (by simp) ?_);have h1:=Qbk (Obj.mapFields (·.setIfInBounds 0 (rawInt (nx:Int)))) D (Qct (Qbs C _));refine Qaa (Qda (s:={s with heap:=s.heap.update f (Obj.mapFields (·.setIfInBounds 0 (rawInt (nx:Int))))}) h1 (Qbs C _) (by simp) ?_);exact Qae ⟨_,rfl,Qae (hQ _ (Zbh q) ((Qcc ..).trans (Qcc ..)))⟩
def uQ{es:Array (Int×As)}{t:SetTable}{Q:Aa}(hh:A.handled=none)(q:Y2 s.heap f a (.int M 0) i es.size n)(J:Je s.heap a es n t)
  (Z:∀(I:Option (As×Nat)->Shared->Prop) (E':Ab),I none s->A1 prog w A.in1 (setNext a M i n) I E' s)
  (hQ:∀h',Heap.ExtBut f s.heap h'->Q none {s with heap:=h'}):A1 prog w A (pyNext (.ref f)) Q E s:=by
 obtain⟨o,G,hc,F⟩:=id q;obtain⟨os,C,O,D,Y⟩:=id J;refine Qaa (Qdn (wpAny_callSpecial?_slot (name:=Str.ofString "__next__") q.typeIs ZA
  (Qbn ZA q.typeIs YQ ?_ (Xq _))))
 refine Qaa (Qae ?_);refine Qaa (Qgs G F ?_);refine Qaa (Qen C D Y ?_);simp only[Qdz,Qck,↓reduceIte];refine Qaa (Z _ _ ?_);refine Qaa (Qda G F (by simp) ?_);refine Qaa ?_;refine Qaa (Qa9 ?_ (by size_fits));refine Qaa (m:=firstArgMember _ _) (Qdc (a:=Value.none) (by first|rfl|(rfl)) ?_);refine Qa9 ?_ (by size_fits);refine Qaa (Qg1 ?_);rw[show A.in1.handled=none from hh];refine Qaa (Qae (Qhd ?_));refine Qaa (Qdh (T:= "StopIteration") (b:=true) ⟨_,Qao _ rfl,rfl⟩ Qfs ?_);exact Qae (hQ _ (((Qcc ..).extBut.push _).push _))
def Zbi{p:Au}{es:Array (Int×As)}{t:SetTable}{ps:Aj}{pl:Nat}{e:Int×As}{op:Obj}{Q:Aa}(q:Y2 s.heap f a (.ref p) i es.size n)(J:Je s.heap a es n t)
  (O:s.heap.get? p=some op) (D:op.data=.seq (ps.map fun(k:Nat)=>rawInt k).toArray M) (hi:ps[i]?=some pl) (he:es[pl]?=some e)
  (hQ:∀h',Y2 h' f a (.ref p) (i+1) es.size n->Heap.SameBut f s.heap h'->Q (some e.2) {s with heap:=h'}):A1 prog w A (pyNext (.ref f)) Q E s:=by
 obtain⟨o,F,hc,C⟩:=id q;obtain⟨os,G,Y,I,Z⟩:=id J;refine Qaa (Qdn (wpAny_callSpecial?_slot (name:=Str.ofString "__next__") q.typeIs ZA
  (Qbn ZA q.typeIs YQ ?_ (Xq _))))
 refine Qaa (Qae ?_);refine Qaa (Qgs F C ?_);refine Qaa (Qen G I Z ?_);simp only[Qdz,Qck,↓reduceIte];refine Qaa (Qcd O D ?_);dsimp only;rw[show((ps.map fun(k:Nat)=>rawInt k).toArray)[(i:Int).toNat]?=some (rawInt pl) by simp[hi]];simp only[rawInt,Qav];refine Qaa (yH J he ?_);refine Qaa (Qda F C (by simp) ?_);refine Qae ⟨_,rfl,Qae (hQ _ ⟨_,Qbk _ F (Qct (Qbs C _)),(Qe5 ..).trans hc,?_⟩ (Qcc ..))⟩;rw[Qbs C];simp
def Zed{p:Au}{es:Array (Int×As)}{t:SetTable}{ps:Aj}{op:Obj}{Q:Aa}(hh:A.handled=none)(q:Y2 s.heap f a (.ref p) i es.size n)(Z:Je s.heap a es n t)
  (J:s.heap.get? p=some op) (D:op.data=.seq (ps.map fun(k:Nat)=>rawInt k).toArray M) (hi:ps[i]?=none)
  (hQ:∀h',Heap.ExtBut f s.heap h'->Q none {s with heap:=h'}):A1 prog w A (pyNext (.ref f)) Q E s:=by
 obtain⟨o,F,hc,C⟩:=id q;obtain⟨os,G,O,I,Y⟩:=id Z;refine Qaa (Qdn (wpAny_callSpecial?_slot (name:=Str.ofString "__next__") q.typeIs ZA
  (Qbn ZA q.typeIs YQ ?_ (Xq _))))
 refine Qaa (Qae ?_);refine Qaa (Qgs F C ?_);refine Qaa (Qen G I Y ?_);simp only[Qdz,Qck,↓reduceIte];refine Qaa (Qcd J D ?_);dsimp only;rw[show((ps.map fun(k:Nat)=>rawInt k).toArray)[(i:Int).toNat]?=none by simp;simpa using hi];refine Qaa (Qda F C (by simp) ?_);have h1:=Qbk (Obj.mapFields (·.setIfInBounds 0 (rawInt 0))) F (Qct (Qbs C _));refine Qaa (Qda (s:={s with heap:=s.heap.update f (Obj.mapFields (·.setIfInBounds 0 (rawInt 0)))}) h1 (Qbs C _) (by simp) ?_);refine Qaa ?_;refine Qaa (Qa9 ?_ (by size_fits));refine Qaa (m:=firstArgMember _ _) (Qdc (a:=Value.none) (by first|rfl|(rfl)) ?_);refine Qa9 ?_ (by size_fits);refine Qaa (Qg1 ?_);rw[show A.in1.handled=none from hh];refine Qaa (Qae (Qhd ?_));refine Qaa (Qdh (T:= "StopIteration") (b:=true) ⟨_,Qao _ rfl,rfl⟩ Qfs ?_);exact Qae (hQ _ ((((Qcc ..).trans (Qcc ..)).extBut.push _).push _))
end
theorem JH:Slot "set_iterator" "__iter__" "set_iterator.__iter__" :=
 .of (owner:= "set_iterator") (n:= "__iter__") (by kernel_rfl) (by decide +kernel) (by decide +kernel) (by decide +kernel)
  (by first|exact .inl (by decide +kernel)|exact .inr (by decide +kernel)) (by kernel_rfl)
theorem xZ:entryFor table "set_iterator.__iter__" = some Builtin.«dict_keyiterator.__iter__» :=
 entryFor_alias (id':= "dict_keyiterator.__iter__") (by kernel_rfl) rfl (by decide +kernel) (by kernel_rfl)
def ji (a:As):argsOk "set_iterator.__iter__" ⟨[a],[]⟩:=by
 kernel_rfl
section
variable {prog:An}{w:Ar}{A:Ao}{E:Ab}{s:Aq}
def zc{first:As}(q:Y2 s.heap f a first i n M)(h:Q (.ref f) s):A1 prog w A (pyIter (.ref f)) Q E s:=by
 refine Qfq q.typeIs JH (Qbn JH q.typeIs xZ ?_ (ji _));exact Qae ⟨_,rfl,"set_iterator",_,q.typeIs,ZA.lookup,h⟩
def Txs(q:List (Int×As))(i:Nat)(v:As):Prop:=∃e,q[i]?=some e/\v=e.2
def Zbj{es:Array (Int×As)}{t:SetTable}(C:kh w=true)(hh:A.handled=none)(I:a≠f):
  Walks prog w A f [f,a] [f] es.size (Txs (pickOrder (w.params.setOrder a n) es).toList) (fun i h=>Y2 h f a (.int (0:Nat) 0) i es.size n/\Je h a es n t)where
 sub:=fun b C=>by simp at C;simp[C]
 frame:=fun _ _ _ st Y=>⟨st.1.at fun o e=>Y f (by simp) o e,st.2.at fun o e=>Y a (by simp) o e⟩
 item:=fun i s Q E hi st F=>by
  have hsz:(pickOrder (w.params.setOrder a n) es).size=es.size:=by simpa using (XY (w.params.setOrder a n) es).length_eq
  obtain⟨e,O⟩:∃e,(pickOrder (w.params.setOrder a n) es)[i]?=some e:=⟨_,Qd9 (by lia)⟩;refine ki st.1 st.2 (x:=e.2) (nx:=0) (fun Q' Z q=>qO C st.2 (by rw[O];exact q)) fun h' G D=>?_;exact F e.2 h' s.toks ⟨e,by simpa using O,rfl⟩ ⟨G,st.2.at fun o e=>D.extBut a o I e⟩ fun b o C e=>D.extBut b o (fun h=>C (by simp[h])) e
 done:=fun s Q E st F=>by
  have hsz:(pickOrder (w.params.setOrder a n) es).size=es.size:=by simpa using (XY (w.params.setOrder a n) es).length_eq
  exact uQ hh st.1 st.2 (fun Q' Z q=>qO C st.2 (by grind)) fun h' J=>F h' s.toks fun b o C e=>J b o (fun h=>C (by simp[h])) e
 self:=fun _ _ _ _ st F=>zc st.1 F
theorem gc{p:Au}{es:Array (Int×As)}{t:SetTable}{ps:Aj}(D:ps.Perm (List.range es.size))(hh:A.handled=none)(hne:a≠f)(Z:p≠f):
  Walks prog w A f [f,a,p] [f] es.size (Txs (ps.filterMap (es[·]?))) (fun i h=>Y2 h f a (.ref p) i es.size n/\Je h a es n t/\∃op np,h.get? p=some op/\op.data=.seq (ps.map fun(k:Nat)=>rawInt k).toArray np)where
 sub:=fun b O=>by simp at O;simp[O]
 frame:=fun _ _ _ st C=>⟨st.1.at fun o e=>C f (by simp) o e,st.2.1.at fun o e=>C a (by simp) o e,let⟨op,np,h1,h2⟩:=st.2.2;⟨op,np,C p (by simp) op h1,h2⟩⟩
 item:=fun i s Q E hi st J=>by
  obtain⟨op,np,h1,h2⟩:=st.2.2;have F:ps.length=es.size:=by simpa using D.length_eq
  have q:∀k∈ps,k<es.size:=fun k C=>by simpa using D.mem_iff.mp C
  have G:ps[i]?=some (ps[i]'(by lia)):=Qac _;have C:ps[i]'(by lia)<es.size:=q _ (Qcv _);have hfm:ps.filterMap (es[·]?)=ps.map (fun k=>es.getD k (0,.none)):=by
   clear G D F C hi h1 h2 st J
   induction ps with
   |nil=>rfl
   |cons k ks ih=>
    have:=q k (by simp);rw[List.filterMap_cons_some (b:=es.getD k (0,.none)) (by simp[Array.getD,this]),ih fun k C=>q k (by simp[C]),Qbx]
  refine Zbi st.1 st.2.1 h1 h2 G (Qd9 C) fun h' Y I=>?_;refine J _ h' s.toks ⟨_,?_,rfl⟩ ⟨Y,st.2.1.at fun o e=>I.extBut a o hne e,op,np,I.extBut p op Z h1,h2⟩ fun b o O e=>I.extBut b o (fun h=>O (by simp[h])) e;rw[hfm,Qam,G];simp[Array.getD,C]
 done:=fun s Q E st J=>by
  obtain⟨op,np,h1,h2⟩:=st.2.2;have F:ps.length=es.size:=by simpa using D.length_eq
  exact Zed hh st.1 st.2.1 h1 h2 (by simp;lia) fun h' he'=>J h' s.toks fun b o O e=>he' b o (fun h=>O (by simp[h])) e
 self:=fun _ _ _ _ st J=>zc st.1 J
def kj(j:Nat):SetTable.below #[j] 0=0/\SetTable.below #[j] (j+1)=1:=by
 constructor<;>simp[SetTable.below,SetTable.below.go]
def gg{es:Array (Int×As)}{t:SetTable}(D:kh w=false)(hl:t.led=true)(hz:es.size<=1)(hh:A.handled=none)(Z:a≠f):
  Walks prog w A f [f,a] [f] es.size (Txs es.toList) (fun i h=>∃C:Nat,(i=0->C=0)/\(i=1->∃j,t.place=#[j]/\C=j+1)/\Y2 h f a (.int C 0) i es.size n/\Je h a es n t)where
 sub:=fun b D=>by simp at D;simp[D]
 frame:=fun _ _ _ st hk=>by
  obtain⟨C,I,F,h1,h2⟩:=st;exact⟨C,I,F,h1.at fun o e=>hk f (by simp) o e,h2.at fun o e=>hk a (by simp) o e⟩
 item:=fun i s Q E hi st J=>by
  obtain⟨C,I,F,h1,h2⟩:=st;have hi0:i=0:=by lia
  subst hi0;obtain rfl:=I rfl;have hps:t.place.size=1:=by
   obtain⟨o,ho,hex,hd,hf⟩:=h2;simp only[SetTable.fits,Qb5,beq_iff_eq,Qfr]at hf;lia
  obtain⟨j,Y⟩:∃j,t.place=#[j]:=⟨t.place[0],by grind⟩;obtain⟨e,he⟩:∃e,es[0]?=some e:=⟨_,Qd9 (by lia)⟩;refine ki h1 h2 (x:=e.2) (nx:=j+1) (fun Q' E' q=>Gs D h2 hl hz (by rw[Y,(kj j).1,he];exact q)) fun h' O G=>?_;exact J e.2 h' s.toks ⟨e,by simpa using he,rfl⟩ ⟨j+1,fun z=>absurd z (by lia),fun _=>⟨j,Y,rfl⟩,O,h2.at fun o e=>G.extBut a o Z e⟩ fun b o D e=>G.extBut b o (fun h=>D (by simp[h])) e
 done:=fun s Q E st J=>by
  obtain⟨C,I,F,h1,h2⟩:=st;refine uQ hh h1 h2 (fun Q' E' q=>Gs D h2 hl hz ?_) fun h' he'=>J h' s.toks fun b o D e=>he' b o (fun h=>D (by simp[h])) e
  by_cases h0:es.size=0
  ·grind
  ·obtain⟨j,Y,rfl⟩:=F (by lia);rw[Y,(kj j).2,Array.getElem?_eq_none (by lia)];exact q
 self:=fun _ _ _ _ st J=>by
  obtain⟨C,I,F,h1,h2⟩:=st;exact zc h1 J
def gh{es:Array (Int×As)}{t:SetTable}{Q:Bool->Shared->Prop}(F:Je s.heap a es i t)(h:Q (!kh w&&(!t.plain&&decide (es.size>1))) s):A1 prog w A (setDrawn a) Q E s:=by
 obtain⟨o,D,C,q,G⟩:=F;refine Qaa (Qee D q G ?_);refine Qaa (X5 ?_);exact Qae h
structure SetW(prog:An)(w:Ar)(h h':Heap)(I a:Au)(es:Array (Int×As))(ord:List (Int×As))(fp:List Au)(St:Nat->Heap->Prop):Prop where
 old:∀b o,h.get? b=some o->h'.get? b=some o
 new:h.objs.size<=I
 perm:ord.Perm es.toList
 lt:∀b∈fp,b<h'.objs.size
 mem:I∈fp
 st:St 0 h'
 walks:∀A:Ao,A.handled=none->Walks prog w A I fp [I] es.size (Txs ord) St
 apart:∀b∈fp,b=a\/h.objs.size<=b
def Zhj{es:Array (Int×As)}{t:SetTable}(O:Je s.heap a es n t)(hl:t.led=!kh w)(hp:es.size=0\/t.plain=false)(hz:es.size<=sizeLine)
  (hQ:∀h' d I ord fp St,SetW prog w s.heap h' I a es ord fp St->Q (.ref I) {s with heap:=h',drawn:=d}):A1 prog w A (pyIter (.ref a)) Q E s:=by
 obtain⟨o,J,hex,hd,hf⟩:=id O;have hT:s.TypeIs (.ref a) "set" :=⟨o,J,hex.1⟩;have Z:=Qar J;refine Qfq hT F.slot_set_iter (Qbn F.slot_set_iter hT jh ?_ (F.args_set_iter_1 _));unfold Builtin.«frozenset.__iter__» Builtin.Frozenset.slot0 slotArgs;simp only[List.isEmpty_nil,Bool.not_true,Qck,↓reduceIte,bind_assoc,Qed,Qdz];refine Qaa (Qae ?_);refine Qaa (Qae ?_);refine Qaa (Qaa (Qen J hd hf (Qae ?_)));refine Qaa (gh O ?_);cases hb:kh w with
 |true=>
  refine Qaa (Qae ?_);refine Qaa (Qgx J hd hf ?_);have C:(s.heap.push {cls:=.type "set_iterator",data:=.fields #[rawInt 0,rawInt 0,.ref a,rawInt es.size,rawInt n]}).get? s.heap.objs.size=some {cls:=.type "set_iterator",data:=.fields #[rawInt 0,rawInt 0,.ref a,rawInt es.size,rawInt n]}:=Qao _ rfl;refine Qaa (Qa9 (Qae ⟨_,rfl,"set_iterator",_,⟨_,C,rfl⟩,ZA.lookup,?_⟩));refine hQ _ s.drawn s.heap.objs.size _ _ _ ⟨fun b o e=>Qab _ e,Qah _,XY (w.params.setOrder a n) es,fun b q=>?_,Qan,⟨⟨_,C,rfl,rfl⟩,O.at fun o e=>Qab _ e⟩,fun A' hh=>Zbj hb hh (Qbi Z),fun b q=>(Qaq.mp q).elim (fun e=>.inr (e ▸ Qah _)) fun q=>.inl (Qat.mp q)⟩;rw[Qb1];rcases Qaq.mp q with rfl|q
  ·exact Qdv _
  ·grind
 |false=>
  rw[hb]at hl
  by_cases hd1:es.size>1
  ·have hpl:t.plain=false:=hp.resolve_left (by lia);rw[hpl,Qal hd1];refine Qaa (Gr _ _ _ _ (Qgm Qa5) fun ps d G=>?_);have hpn:ps.length=es.size:=by simpa using G.length_eq
   refine Qaa (Qgr ?_ (by rw[Qad];lia));refine Qaa (Qgx (Qab _ J) hd hf ?_);generalize hH:s.heap.push {cls:=.type "tuple",data:=.seq (ps.map fun(i:Nat)=>rawInt i).toArray}=H;have Y:H.objs.size=s.heap.objs.size+1:=by rw[<-hH,Qb1]
   have D:∀b o,s.heap.get? b=some o->H.get? b=some o:=fun b o e=>hH ▸ Qab _ e;have htp:H.get? s.heap.objs.size=some {cls:=.type "tuple",data:=.seq (ps.map fun(i:Nat)=>rawInt i).toArray}:=hH ▸ Qao _ rfl;have C:(H.push {cls:=.type "set_iterator",data:=.fields #[.ref s.heap.objs.size,rawInt 0,.ref a,rawInt es.size,rawInt n]}).get? H.objs.size=some {cls:=.type "set_iterator",data:=.fields #[.ref s.heap.objs.size,rawInt 0,.ref a,rawInt es.size,rawInt n]}:=Qao _ rfl;refine Qaa (Qa9 (s:={s with heap:=H,drawn:=d}) (Qae ⟨_,rfl,"set_iterator",_,⟨_,C,rfl⟩,ZA.lookup,?_⟩));refine hQ _ d H.objs.size _ _ _ ⟨fun b o e=>Qab _ (D b o e),by rw[Y];exact Qd0 _,?_,fun b q=>?_,Qan,⟨⟨_,C,rfl,rfl⟩,O.at fun o e=>Qab _ (D a o e),_,_,Qab _ htp,rfl⟩,fun A' hh=>gc (p:=s.heap.objs.size) G hh (fun e=>by grind) (fun e=>by grind),fun b q=>(Qaq.mp q).elim (fun e=>.inr (by rw[e,Y];exact Qd0 _)) fun q=>(Qaq.mp q).elim .inl fun q=>.inr (by grind)⟩
   ·exact(G.filterMap _).trans (by rw[filterMap_getElem?_range])
   ·rw[Qb1];rcases Qaq.mp q with rfl|q
    ·exact Qdv _
    ·grind
  ·have hd2:decide (es.size>1)=false:=by simp;lia
   rw[hd2,Bool.and_false];refine Qaa (Qae ?_);refine Qaa (Qgx J hd hf ?_);have C:(s.heap.push {cls:=.type "set_iterator",data:=.fields #[rawInt 0,rawInt 0,.ref a,rawInt es.size,rawInt n]}).get? s.heap.objs.size=some {cls:=.type "set_iterator",data:=.fields #[rawInt 0,rawInt 0,.ref a,rawInt es.size,rawInt n]}:=Qao _ rfl;refine Qaa (Qa9 (Qae ⟨_,rfl,"set_iterator",_,⟨_,C,rfl⟩,ZA.lookup,?_⟩));refine hQ _ s.drawn s.heap.objs.size _ _ _ ⟨fun b o e=>Qab _ e,Qah _,.rfl,fun b q=>?_,Qan,⟨0,fun _=>rfl,fun z=>absurd z (by lia),⟨_,C,rfl,rfl⟩,O.at fun o e=>Qab _ e⟩,fun A' hh=>gg hb (by simpa using hl) (by lia) hh (Qbi Z),fun b q=>(Qaq.mp q).elim (fun e=>.inr (e ▸ Qah _)) fun q=>.inl (Qat.mp q)⟩;rw[Qb1];rcases Qaq.mp q with rfl|q
   ·exact Qdv _
   ·grind
def gj{es:Array (Int×As)}{t:SetTable}{Q:Ag->Shared->Prop}(hh:A.handled=none)(hs:Je s.heap a es n t)(hl:t.led=!kh w)(hp:es.size=0\/t.plain=false)(hz:es.size<=sizeLine)
  (hQ:∀(h':Heap) (d:Drawn) (tk:Nat) (C:List (Int×As)),(∀b o,s.heap.get? b=some o->h'.get? b=some o)->s.heap.objs.size<=h'.objs.size->C.Perm es.toList->Q (C.map (·.2)) {s with heap:=h',drawn:=d,toks:=tk}):A1 prog w A (collect (.ref a)) Q E s:=by
 obtain⟨o,ho,hex,hd,hf⟩:=id hs;have hlt:=Qar ho;unfold collect;refine Qaa (wpAny_runValue (Qco F.entry_proto_collect ?_));rw[Qea F.plain_proto_collect _];show wpAny _ A.in1 (newList [] >>= fun l=>again (.builtin "list.__iadd__" ⟨[l,.ref a],[]⟩)) _ _ s;refine Qaa (Qa9 ?_);refine Qae ⟨Qdo Qgy _,Qco F.entry_list_iadd ?_⟩;rw[Qea Qgy _];generalize hH:s.heap.push {cls:=.type "list",data:=.seq ([]:Ag).toArray}=H;have hHs:H.objs.size=s.heap.objs.size+1:=by rw[<-hH,Qb1]
 have q:∀b o,s.heap.get? b=some o->H.get? b=some o:=fun b o e=>hH ▸ Qab _ e;have hS:H.get? s.heap.objs.size=some {cls:=.type "list",data:=.seq ([]:Ag).toArray}:=hH ▸ Qao _ rfl;have hs1:Je H a es n t:=hs.at fun o e=>q a o e;have hT:Shared.TypeIs {s with heap:=H} (.ref a) "set" :=⟨o,q a o ho,hex.1⟩;show wpAny _ A.in1 (Builtin.List.listExtendWith (.ref s.heap.objs.size) (.ref a) (.ref s.heap.objs.size)) _ _ _;unfold Builtin.List.listExtendWith;refine Qaa (Qes hT ?_);have h1:Builtin.List.listSameRef (.ref s.heap.objs.size) (.ref a)=false:=by simp[Builtin.List.listSameRef];exact Qej hlt
 have h2:(Value.type "set" == Value.type "list")=false:=by decide
 have h3:(Value.type "set" == Value.type "tuple")=false:=by decide
 simp only[h1,h2,h3,Bool.or_false,Qck,if_false];refine Qaa (Zhj (s:={s with heap:=H}) hs1 hl hp hz fun h1 d I C fp St W=>?_);refine Qaa (Qcl ?_);unfold Builtin.List.listLengthHint;have Y:Shared.TypeIs {s with heap:=h1,drawn:=d} (.ref a) "set" :=⟨o,W.old a o (q a o ho),hex.1⟩;refine Qaa (Qdq Y F.slot_set_len.lookup ?_)
 wp_delta
 refine Qaa (Qdh (b:=true) Y (by rw[isSubtype_type];kernel_rfl) ?_);show wpAny _ A.in1 (typeOf (Value.ref a) >>= _) _ _ _;refine Qaa (Qes Y ?_);refine Qae ?_;show wpAny _ A.in1 (rule "list.extend.makes-room" >>= fun _=>Builtin.List.listTouch (.ref s.heap.objs.size) >>= fun _=>
  again (.builtin "list.extend.loop" ⟨[.ref s.heap.objs.size,.ref I,.ref s.heap.objs.size],[]⟩)) _ _ _
 refine Qaa (Qdk ?_);have hnf:s.heap.objs.size∉fp:=fun Z=>by
  rcases W.apart _ Z with e|e
  ·exact absurd hlt (e ▸ Qb4 _)
  ·exact absurd e (by show¬H.objs.size<=_;rw[hHs];exact Nat.not_succ_le_self _)
 have hS1:=W.old _ _ hS;refine Qaa ?_;show wpAny _ A.in1 (updateSeq s.heap.objs.size (·.push .none) >>= fun _=>updateSeq s.heap.objs.size (·.pop)) _ _ _;refine Qaa (Qdr (s:={s with heap:=h1,drawn:=d}) hS1 rfl ?_);have hS2:=Qbk (Obj.mapSeq (·.push Value.none)) hS1 rfl;refine Qdr (s:={s with heap:=h1.update s.heap.objs.size (Obj.mapSeq (·.push Value.none)),drawn:=d}) hS2 rfl ?_;have hS3:=Qbk (Obj.mapSeq (·.pop)) hS2 rfl;have oth:∀b o,b≠s.heap.objs.size->h1.get? b=some o->
   ((h1.update s.heap.objs.size (Obj.mapSeq (·.push Value.none))).update s.heap.objs.size (Obj.mapSeq (·.pop))).get? b=some o:=
  fun b o hb e=>(Qbw _ _ (Qd8 hb)).trans ((Qbw _ _ (Qd8 hb)).trans e)
 refine Qae ⟨Qdo Qeo _,codeAny_extend_loopS (W.walks A.in1 hh).toS hz _ hnf _ es.size 0 _ _ _ rfl (Qbp _)
  ((W.walks A hh).frame 0 _ _ W.st fun b hb o e=>oth b o (fun h=>hnf (h ▸ hb)) e) hS3 (ItemsOf.nil _) fun s' J c' Z hS' G=>?_⟩
 show wpAny _ A (load s.heap.objs.size >>= _) _ _ s';refine Qaa (wpAny_load hS' ?_);have O:J.toList=C.map (·.2):=by
  have hol:C.length=es.size:=by simpa using W.perm.length_eq
  apply List.ext_getElem
  ·rw[Qad,Qbr,G.1,hol]
  ·intro i i1 i2;rw[Qbr]at i1;obtain⟨e,he,hv⟩:=G.2 i J[i] (Qd9 i1);rw[Array.getElem_toList,hv,List.getElem_map];rw[Qad]at i2;rw[Qac i2]at he;rw[Option.some.inj he]
 have eg:s'.gens=s.gens:=Z.gens;have ed:s'.drawn=d:=Z.drawn;have eo:s'.os=s.os:=Z.os;refine Qae ?_;have:=hQ s'.heap s'.drawn s'.toks C (fun b ob e=>?_) ?_ W.perm
 ·rw[<-O,<-eg,<-eo]at this;exact this
 ·have D:=Qar e;refine Z.heap b ob (fun hb=>?_) (oth b ob (Qbi D) (W.old b ob (q b ob e)));rcases Qaq.mp hb with h|h
  ·exact absurd D (h ▸ Qb4 _)
  ·rw[Qat.mp h]at D;have:=W.new;exact absurd D (Qgz.mpr (Qa8 (by rw[hHs];exact Qd0 _) this))
 ·exact Qau (Qar hS')
theorem Gu:∀{l:List (Int×As)},ElemsOf (PySem.strKind prog w) l->StrsAre (l.map (·.2)) (l.map fun e=>tx e.2)
 |[],_=>.nil
 |e::l,h=>by
  obtain⟨_,t,q⟩:=uP h (Qan);rw[Qbx,Qbx,q];exact .cons _ t (Gu h.tail)
def Zbk{led:Bool}{S:Ai}(hh:A.handled=none)(hS:xo prog w s.heap a (!kh w) S)(h64:S.length<64)
  (h:∀(h':Heap) (d:Drawn) (tk:Nat) (l:Au) (out:Ah) (I:Ai) (e:Nat),StrsAre out.toList I->I.Perm S->sortedS I=true->(∀b o,s.heap.get? b=some o->h'.get? b=some o)->s.heap.objs.size<=l->
   h'.get? l=some (seqObj "list" out e)->Q (.ref l) {s with heap:=h',drawn:=d,toks:=tk}):
  A1 prog w A (call (.builtin "sorted") [.ref a]) Q E s:=by
 obtain⟨o,es,ep,t,ho,Y,hd,hel,hp,hf,hl,Z⟩:=hS;have hn:es.size=S.length:=by rw[<-hp.length_eq,Qad,Qbr]
 refine Calls.call_function_entry kind_sorted plain_sorted entry_sorted (args_sorted1 _) ?_;refine Qaa (m:=checkCount "sorted" 1 1 _) (Qae ?_);refine Qaa (gj (A:=A.in1) hh ⟨o,ho,Y,hd,hf⟩ hl Z (Qgv (by unfold scanBound;lia)) fun h1 d tk C J hsz q=>?_);have G:(C.map (·.2)).length<64:=by rw[Qad,q.length_eq,Qbr];lia
 have D:StrsAre (C.map (·.2)) (C.map fun e=>tx e.2):=Gu (hel.perm q);have hpS:(C.map fun e=>tx e.2).Perm S:=(q.map _).trans hp;generalize hV:C.map (·.2)=vs at G D ⊢;refine Qaa (wpAny_newList ?_);have F:(h1.push (seqObj "list" vs.toArray 0)).get? h1.objs.size=some (seqObj "list" vs.toArray 0):=Qao _ rfl;refine Qaa (Qcl (Qbn slot_list_sort ⟨_,F,rfl⟩ entry_list_sort (list_sort_treeK strKind_oneLt F D.keysOf (fun v₁ v₂ rest e=>keyKind_strs (by rw[<-e];exact D)) G fun st' a1 a2=>⟨_,rfl,?_⟩) (args_list_sort _)));obtain⟨I,b1,b2,b3⟩:=sorted_out_str D a1 a2;obtain⟨e,he⟩:=sortedHeap_at (vs:=vs) (out:=(arrOf st').map (·.2)) (n:=0) F;refine Qae ⟨_,rfl,h _ d tk h1.objs.size _ I e b1 (b2.trans hpS) b3 (fun b ob hb=>?_) hsz he⟩;have O:=Qbl (Qar hb) hsz;rw[sortedHeap_old (Qbi O) (by rw[size_push'];exact Qe4 O)];exact Qab _ (J b ob hb)
end
def TxO(P:An)(w:Ar)(a:Au)(S:Ai):HO:=.ext fun h=>xo P w h a (!kh w) S
theorem Inv.drew(I:Inv X r c H s)(d:Drawn):Inv X r c H {s with drawn:=d}:=
 ⟨I.ok,I.os,I.bare,I.base,I.loc,I.cell,I.free,I.freeC,I.pin,I.hok,I.len⟩
def Zee (O:X.calm=true):X3 X (.type "set") (fun xs H Q=>∃(p:Au) (C:Ai),xs=[.ref p]/\SqL X.K H p (C.map V.str)/\C.length<4000 /\
  ∀a:Au,H a=none->Q (.ref a) (upd H a (TxO X.prog X.w a (Wx C)))):=by
 intro pins s σ H xs us Q I r h;obtain⟨p,C,rfl,hq,hn,q⟩:=h;obtain⟨u,rfl,Y⟩:=vals1 r;cases Y;obtain⟨its,G,pl,hz⟩:=I.list hq;have D:=G.length;rw[Qad]at D;refine jg (I.ok.hd O) pl.isList (by simpa using qg G) (by rw[Qax];unfold scanBound;lia) fun h' tk J F Z=>?_;refine⟨.ref s.heap.objs.size,_,I.laid (t':=tk) (o:=TxO X.prog X.w s.heap.objs.size (Wx C)) (fun b o e=>Z b o (Qar e) e) (Qah _) ?_,rfl,q _ (I.hok.fresh (Qah _))⟩;obtain⟨o,es,ep,t,ho,rest⟩:=id F;exact⟨F,⟨o,ho⟩,fun h1 h2 x k=>qj x k⟩
def yI (Y:X.calm=true):X3 X (.builtin "sorted") (fun xs H Q=>∃(a:Au) (S:Ai),xs=[.ref a]/\H a=some (TxO X.prog X.w a S)/\S.length<64 /\
  ∀(l:Au) (D:Ai),H l=none->D.Perm S->sortedS D=true->Q (.ref l) (upd H l (.lst (D.map V.str)))):=by
 intro pins s σ H xs us Q I r h;obtain⟨a,S,rfl,hq,hn,q⟩:=h;obtain⟨u,rfl,Z⟩:=vals1 r;cases Z;have J:xo X.prog X.w s.heap a (!kh X.w) S:=(I.hok a _ hq).1;refine Zbk (led:=true) (I.ok.hd Y) J hn fun h' d tk l out C e hi F hs hk G O=>?_;refine⟨.ref l,_,(I.drew d).laid (t':=tk) (o:=.lst (C.map V.str)) hk G ?_,rfl,q _ C (I.hok.fresh G) F hs⟩;have hm:C.length=S.length:=F.length_eq;exact⟨by rw[Qad];exact Qau (Zy (by lia)),out.toList,e,Jb hi,by simpa using O⟩
def Zlw{y:Str}(h:x.cps.toList=y.cps.toList):x=y:=by
 cases x;cases y;simp only[Str.mk.injEq];exact Array.toList_inj.mp h
def Zlx{y:Str}(h1:ltCps x.cps.toList y.cps.toList=false)(h2:ltCps y.cps.toList x.cps.toList=false):x=y:=by
 rw[ltCps_eq]at h1 h2;exact Zlw (List.le_antisymm (Qfk h2) (Qfk h1))
def Zhk{y z:Str}(h1:ltCps y.cps.toList x.cps.toList=false)(h2:ltCps z.cps.toList y.cps.toList=false):ltCps z.cps.toList x.cps.toList=false:=by
 rw[ltCps_eq]at h1 h2 ⊢;refine Qaj ?_;have a1:x.cps.toList<=y.cps.toList:=Qfk h1;have a2:y.cps.toList<=z.cps.toList:=Qfk h2;exact(List.le_trans a1 a2:x.cps.toList<=z.cps.toList)
theorem Jw:∀(p:Str) (l:Ai),risingS p l=true->∀y∈l,ltCps y.cps.toList p.cps.toList=false
 |p,[],_,y,q=>nomatch q
 |p,x::r,h,y,q=>by
  have h':(!ltCps x.cps.toList p.cps.toList&&risingS x r)=true:=h;rw[Qb5,Bool.not_eq_true']at h';rcases Qaq.mp q with rfl|q
  ·exact h'.1
  ·exact Zhk h'.1 (Jw x r h'.2 y q)
def JY{p:Str}{l:Ai}(h:sortedS (p::l)=true):sortedS l=true:=by
 cases l with
 |nil=>rfl
 |cons x r=>
  have h':(!ltCps x.cps.toList p.cps.toList&&risingS x r)=true:=h;rw[Qb5]at h';exact h'.2
theorem jS:∀(l m:Ai),sortedS l=true->sortedS m=true->l.Perm m->l=m
 |[],m,_,_,p=>by rw[List.nil_perm.mp p]
 |x::l,m,h1,h2,p=>by
  cases m with
  |nil=>exact absurd (List.perm_nil.mp p) (by simp)
  |cons y m=>
   have C:x=y:=by
    have q:x∈y::m:=p.mem_iff.mp Qan;have D:y∈x::l:=p.mem_iff.mpr Qan;rcases Qaq.mp q with e|q
    ·exact e
    ·rcases Qaq.mp D with e|D
     ·exact e.symm
     ·exact Zlx (Jw y m h2 x q) (Jw x l h1 y D)
   subst C;rw[jS l m (JY h1) (JY h2) (p.cons_inv)]
def Zly{S:Ai}{y:Str}:y∈ins S x↔y∈S\/y=x:=by
 unfold ins;split
 ·grind
 ·simp
def Zef{S:Ai}(h:S.Nodup):(ins S x).Nodup:=by
 unfold ins;split
 ·exact h
 ·grind
theorem yJ:∀(ys S:Ai),S.Nodup->(ys.foldl ins S).Nodup/\∀y,y∈ys.foldl ins S↔y∈S\/y∈ys
 |[],S,h=>⟨h,fun y=>by simp⟩
 |x::r,S,h=>by
  obtain⟨a,b⟩:=yJ r (ins S x) (Zef h);refine⟨a,fun y=>(b y).trans ?_⟩;rw[Zly,Qaq,or_assoc]
def gk(ys:Ai):(Wx ys).Nodup:=(yJ ys [] Qdb).1
def zd{xs:A0}{is:Aj}{Q:VK}(p:V->Bool)(S:Hp->Hp->Prop)(J:∀H,S H H)(st:∀H1 H2 G,S H1 H2->S H2 G->S H1 G)(hx:∀H1,S H H1->SqT K H1 a xs)(hz:xs.length<=sizeLine)
  (Y:∀x∈xs,∀H1,S H H1->∀R:Bool->Hp->Prop,(∀H2,S H1 H2->R (p x) H2)->C (qM is c (some x)) H1 R)
  (O:∀x∈xs,∀H1,∀R:VK,R x H1->d (qM is c (some x)) H1 R)
  (Z:∀H1 l,S H H1->H1 l=none->Q (.ref l) (upd H1 l (.lst (xs.filter p)))):J9 is C d c Q (Itt K a) H:=by
 refine Jv (xs:=xs) (fun i zs H'=>zs=(xs.take i).filter p/\S H H') ⟨rfl,J H⟩ ?_ ?_ ?_ ?_
 ·grind
 ·grind
 ·rintro i x zs H' R hR q ⟨rfl,D⟩;have I:=Qag q;have e:=take_snoc q;refine Y x I H' D _ fun H2 F=>?_;cases hp:p x with
  |true=>
   refine(Qba rfl:(if true=true then _ else _)=_) ▸ O x I H2 _ (hR _ _ ⟨?_,st _ _ _ D F⟩);rw[e,Qdd,Qcw,Qba hp];rfl
  |false=>
   refine(Qa4 Qa6:(if false=true then _ else _)=_) ▸ hR _ _ ⟨?_,st _ _ _ D F⟩;rw[e,Qdd,Qcw,Qa4 (by rw[hp];exact Qa6)];simp
 ·grind
abbrev XM(o:Obj):HO:=.frz o (.ext fun _=>True)
def qk{h:Heap}{o:Obj}(e:h.get? a=some o):Yo P w H h a (XM o):=⟨e,trivial,⟨o,e⟩,fun _ _ _ _=>trivial⟩
def hide(cs:List Au)(H:Hp):Hp:=fun b=>if b∈cs then none else H b
def Wg(cs:List Au)(H H':Hp):Hp:=fun b=>if b∈cs then H b else H' b
def YS{b:Au}(h:b∈J):hide J H b=none:=Qba h
def ZD{b:Au}(h:b∉J):hide J H b=H b:=Qa4 h
def Jf{H':Hp}{b:Au}(h:b∈J):Wg J H H' b=H b:=Qba h
def Yp{H':Hp}{b:Au}(h:b∉J):Wg J H H' b=H' b:=Qa4 h
def of_hide{b:Au}{o:HO}(h:hide J H b=some o):b∉J/\H b=some o:=by
 by_cases m:b∈J
 ·rw[YS m]at h;cases h
 ·rw[ZD m]at h;exact⟨m,h⟩
def ql(H H1:Hp):Prop:=∀b o u,H b=some (.frz o u)->H1 b=some (.frz o u)
def ql.refl(H:Hp):ql H H:=fun _ _ _ h=>h
def ql.trans{H1 H2:Hp}(a:ql H H1)(b:ql H1 H2):ql H H2:=fun c o u h=>b c o u (a c o u h)
def Z8.frz{H H1:Hp}(a:Z8 H H1):ql H H1:=fun b o u h=>a b _ h
def Xr(P:An)(w:Ar)(K:Af)(mg:Ae)(base:Heap)(k:Nat)(f:Au)(H:Hp)(τ:Sp):Prop:=
 (∃o fd,H f=some (XM o)/\o.data=.func fd) /\
 ∀(A:Ao) (outer:List Env) (s:Aq) (H1:Hp) (q:Ag) (vs:A0) (Q:VK) (E:XK),ql H H1->WT k A->Zk9 P w K mg base A outer s H1->Vals vs q->τ vs H1 Q E->
  codeAny (model P w) A (.call (.ref f) ⟨q,[]⟩) (CR CX0 outer P w H1 s Q E) s
theorem Xr.frz{P:An}{w:Ar}{K:Af}{mg:Ae}{base:Heap}{k:Nat}{f:Au}{H H1:Hp}{τ:Sp}(c:Xr P w K mg base k f H τ)(h:ql H H1):Xr P w K mg base k f H1 τ:=
 ⟨let⟨o,fd,e,d⟩:=c.1;⟨o,fd,h _ _ _ e,d⟩,fun A outer s H2 C vs Q E q=>c.2 A outer s H2 C vs Q E (h.trans q)⟩
section
variable {P:An}{w:Ar}{H H':Hp}{h h':Heap}{cs:List Au}
theorem gm(x:HOk P w H h)(C:∀c∈cs,∃o,H c=some (XM o)):HOk P w (hide cs H) h:=fun a o e=>by
 obtain⟨_,D⟩:=of_hide e;refine(x a o D).stay (fun _ _ _ q=>q) (fun d q=>?_) fun d xs q=>?_
 ·by_cases m:d∈cs
  ·grind
  ·rw[ZD m];exact q
 ·by_cases m:d∈cs
  ·grind
  ·rw[ZD m];exact q
theorem Zeg(x:HOk P w H' h')(D:∀c∈cs,H' c=none)(C:∀c∈cs,∃o,H c=some (XM o)/\h'.get? c=some o):HOk P w (Wg cs H H') h':=fun a o e=>by
 by_cases m:a∈cs
 ·rw[Jf m]at e;obtain⟨ob,z,g⟩:=C a m;rw[z]at e;cases e;exact qk g
 ·rw[Yp m]at e;refine(x a o e).stay (fun _ _ _ q=>q) (fun d q=>?_) fun d xs q=>?_
  ·by_cases m:d∈cs
   ·rw[D d m]at q;cases q
   ·rw[Yp m];exact q
  ·by_cases m:d∈cs
   ·rw[D d m]at q;cases q
   ·rw[Yp m];exact q
end
structure Zoj(scope:Scope)(ps ys:Ai):Prop where
 kind:scope.kind=.function
 co:scope.isCoroutine=false
 gen:scope.isGenerator=false
 cell:∀y∈scope.names,y.2≠.cell
 par:∀p∈ps,scope.names.lookup p=some .local
 free:∀y∈ys,scope.names.lookup y=some .free
 nd:(ps++ys).Nodup
def cxL(P:An)(w:Ar)(K:Af)(mg:Ae)(base:Heap)(N:Ai)(qual:Str)(scope:Scope)(f:Au)(q:As)(cl:List (Str×Au))(A:Ao)(outer:List Env)(s:Aq)(H:Hp):Cx where
 prog:=P
 w:=w
 K:=K
 mg:=mg
 base:=base
 A:=A.deeper (PySem.W.envX qual scope s.heap.objs.size f q cl)
 N:=N
 s₀:=s
 H₀:=H
 env:=PySem.W.envX qual scope s.heap.objs.size f q cl
 outer:=outer
 stack:=PySem.W.envX qual scope s.heap.objs.size f q cl::outer
 ex:=[]
 calm:=true
 fn:=fun _=>false
 pn:=[]
 xe:=fun _ _=>False
def Zok(n:Nat)(te:TE)(cs:List Au)(q:List (Option V)):Sp:=fun vs H Q _=>vs.length=n/\te (vs.map some++q) (hide cs H) fun v H'=>(∀c∈cs,H' c=none)->Q v (Wg cs H H')
theorem jT{ps:Ai}(nd:ps.Nodup){u:As}(h1:ps[i]?=some x)(h2:R[i]?=some u)(J:ps.length=R.length):(ps.zip R).reverse.lookup x=some u:=by
 have G:(x,u)∈ps.zip R:=by
  obtain⟨a1,e1⟩:=Qai.mp h1;obtain⟨a2,e2⟩:=Qai.mp h2;rw[<-e1,<-e2,<-Qg7 (h:=by rw[Qcj];lia)];exact Qcv _
 have D:((ps.zip R).map (·.1)).Nodup:=by
  rw[List.map_fst_zip (by lia)];exact nd
 have C:((ps.zip R).reverse.map (·.1)).Nodup:=by
  grind
 have q:(x,u)∈(ps.zip R).reverse:=List.mem_reverse.mpr G;generalize (ps.zip R).reverse=l at C q
 induction l with
 |nil=>cases q
 |cons p r I=>
  obtain⟨n,v⟩:=p;rcases Qaq.mp q with e|F
  ·grind
  ·grind
section
variable {P:An}{w:Ar}{K:Af}{mg:Ae}{base:Heap}
theorem uR{A:Ao}{outer:List Env}{s':Aq}{H':Hp}{Q:VK}{v:V}{u:As}(e0:Zk9 P w K mg base A outer s H)(C:∀c∈J,∃o v,H c=some (XM o)/\o.data=.cell v/\s.heap.get? c=some o)
  (os:s'.os=s.os) (G:AllBare s'.gens) (b:Un (frs outer) [] (hide J H) H' s.heap s'.heap) (I:HOk P w H' s'.heap) (rv:RelV v u) (q:(∀c∈J,H' c=none)->Q v (Wg J H H')):CE outer P w H s Q u s':=by
 have D:∀c∈J,∃o,H c=some (XM o):=fun c m=>let⟨o,_,e,_⟩:=C c m;⟨o,e⟩;have O:∀c∈J,c∉frs outer:=fun c m z=>by
  obtain⟨o,e⟩:=D c m;rw[e0.frf c z]at e;cases e
 have Z:∀c∈J,H' c=none:=fun c m=>by
  obtain⟨o,v,e,d,g⟩:=C c m;exact b.free c o g (YS m) (fun z=>nomatch z)
 have hh:∀d,H d=none->hide J H d=none:=fun d n=>by
  by_cases m:d∈J
  ·exact YS m
  ·rw[ZD m];exact n
 have nm:∀d o,H d=some o->(∀ob,o≠XM ob)->d∉J:=fun d o e ne m=>by
  grind
 refine⟨v,Wg J H H',os,G,⟨fun d o e n Y F=>b.keep d o e (hh d n) Y F,fun d o e n Y F=>b.slot d o e (hh d n) Y F,fun d o e n F=>?_,b.there,fun d xs e=>?_,fun d o u e=>?_,fun d pz e=>?_⟩,Zeg I Z fun c m=>?_,rv,q Z⟩
 ·by_cases m:d∈J
  ·rw[Jf m];exact n
  ·rw[Yp m];exact b.free d o e (hh d n) F
 ·have m:=nm d _ e (fun ob z=>nomatch z);rw[Yp m];exact b.tups d xs (by rw[ZD m];exact e)
 ·by_cases m:d∈J
  ·rw[Jf m];exact e
  ·rw[Yp m];exact b.frzs d o u (by rw[ZD m];exact e)
 ·have m:=nm d _ e (fun ob z=>nomatch z);rw[Yp m];exact b.tbls d pz (by rw[ZD m];exact e)
 ·obtain⟨o,v,e,d,g⟩:=C c m;exact⟨o,e,b.keep c o g (YS m) (O c m) (fun z=>nomatch z)⟩
theorem km{k:Nat}{name qual:Str}{params:Arguments}{body:Av}{scope:Scope}{cl:List (Str×Au)}{pm ctv:As}{ps ys:Ai}{cv:List (Option V)}
  (S:Zoj scope ps ys) (hf:H f=some (XM (PySem.W.kla_obj name qual params body scope cl pm a ctv))) (hc:H a=some (XM Z)) (hoc:∃vs t,Z.data=.fields vs/\vs[1]?=some (.str qual t))
  (hcl:∀x c,cl.lookup x=some c->c∈J) (hcs:∀c∈J,∃o v,H c=some (XM o)/\o.data=.cell v)
  (inj:∀x y c,cl.lookup x=some c->cl.lookup y=some c->x=y) (has:∀x,scope.names.lookup x=some .free->∃c,cl.lookup x=some c)
  (hcv:cv.length=ys.length) (hval:∀(i:Nat) (y:Str) (v:V),ys[i]?=some y->cv[i]?=some (some v)->∃c o u,cl.lookup y=some c/\H c=some (XM o)/\o.data=.cell (some u)/\RelV v u)
  (hb:∀us:Ag,us.length=ps.length->bindArgs (PySem.W.kla_fn name qual params body scope cl pm (.ref a) ctv) ⟨us,[]⟩=pure (ps.zip us))
  (hbody:∀(A:Ao) (outer:List Env) (s:Aq) (H1:Hp),WT k (A.deeper (PySem.W.envX qual scope s.heap.objs.size f (.ref a) cl))->PE (cxL P w K mg base (ps++ys) qual scope f (.ref a) cl A outer s H1) body O):
  Xr P w K mg base (k+1) f H (Zok ps.length O J cv):=by
 refine⟨⟨_,_,hf,rfl⟩,?_⟩;intro A outer s H1 us vs Q E fz hr C r ht;obtain⟨hl,ht⟩:=ht;have gf:s.heap.get? f=some (PySem.W.kla_obj name qual params body scope cl pm a ctv):=(C.hok f _ (fz _ _ _ hf)).1;have G:∀c∈J,∃o v,H1 c=some (XM o)/\o.data=.cell v/\s.heap.get? c=some o:=fun c m=>by
  obtain⟨o,v,e,d⟩:=hcs c m;exact⟨o,v,fz _ _ _ e,d,(C.hok c _ (fz _ _ _ e)).1⟩
 have hcs2:∀c∈J,∃o,H1 c=some (XM o):=fun c m=>let⟨o,_,e,_⟩:=G c m;⟨o,e⟩;obtain⟨vs0,t0,hd0,hv0⟩:=hoc;have lim:s.heap.NoLimit:=C.mod.nolimit.keeps fun b o e=>(C.bs b o e).1;have lus:us.length=ps.length:=by rw[<-r.length];exact hl
 refine PySem.W.kla_callFunE hr.depth gf rfl S.co S.gen rfl ⟨a,Z,vs0,t0,rfl,(C.hok a _ (fz _ _ _ hc)).1,hd0,hv0⟩ ?_;rw[hb us lus];refine Qae (wpAny_newFunctionEnv S.cell (fun x hx=>S.par _ (Qfg hx).1) (fun h₁ hns hsb=>⟨lim.fresh _ hsb,?_⟩) S.kind);have Y:∀b o,s.heap.get? b=some o->h₁.get? b=some o:=fun b o e=>hsb.extBut b o (Qbi (Qar e)) (Qab _ e);have ndp:ps.Nodup:=(Qe6.mp S.nd).1;have I:Inv (cxL P w K mg base (ps++ys) qual scope f (.ref a) cl A outer s (hide J H1)) [] (vs.map some++cv) (hide J H1) {s with heap:=h₁,toks:=s.toks+(ps.zip us).length}:=by
  have noA:∀b:Au,b∉([]:List Au):=fun b z=>nomatch z;refine⟨⟨C.mod,S.kind,rfl,rfl,Qah _,inj,fun y hy=>?_,(fun y c h=>by cases h),fun _=>hr.hd,Qfz C.frames,.inr ⟨rfl,rfl⟩,fun b z=>absurd z (noA b),fun b o e=>⟨(C.bs b o e).1,?_⟩,C.bsz,fun b _ _=>noA b,fun b z=>absurd z (noA b),C.funs,fun b hb=>?_⟩,
   rfl,C.bare,Un.kept Y,⟨_,hns,fun i y v h1 h2 h3=>?_⟩,fun y c h=>?_,?_,fun y c h=>YS (hcl y c h),fun p hp=>absurd (show p∈([]:Ac)from hp) (by simp),(gm C.hok hcs2).kept Y,?_⟩
  ·rcases hy with hy|hy
   ·exact absurd rfl (S.cell _ (Qcb hy))
   ·exact has y hy
  ·by_cases m:b∈J
   ·exact YS m
   ·exact(ZD m).trans (C.bs b o e).2
  ·by_cases m:b∈J
   ·exact YS m
   ·exact(ZD m).trans (C.frf b hb)
  ·by_cases hi:i<vs.length
   ·have ha:vs[i]?=some v:=by
     grind
    obtain⟨u,hu,rv⟩:=r.get ha;have D:(ps++ys)[i]?=some y:=h1;rw[Qbc (by lia)]at D;exact⟨u,rv,.inl ⟨S.par y (Qag D),jT ndp D hu lus.symm⟩⟩
   ·rw[Qa2 (by simpa using hi),Qad]at h2;have D:(ps++ys)[i]?=some y:=h1;rw[Qa2 (by lia),<-hl]at D;obtain⟨c,o,u,e1,e2,e3,rv⟩:=hval _ y v D h2;refine⟨u,rv,.inr ⟨.inr (S.free y (Qag D)),c,e1,o,Y _ _ (C.hok c _ (fz _ _ _ e2)).1,e3⟩⟩
  ·obtain⟨o,v,_,d,g⟩:=G c (hcl y c h);exact⟨v,o,Y _ _ g,d⟩
  ·show hide J H1 s.heap.objs.size=none
   by_cases m:s.heap.objs.size∈J
   ·exact YS m
   ·rw[ZD m];exact C.hok.fresh (Qah _)
  ·show(vs.map some++cv).length=(ps++ys).length;rw[Qaf,Qaf,Qad,hl,hcv]
 refine PySem.W.kla_codeExpr (Qde (hbody A outer s (hide J H1) (hr.deeper _) [] _ _ _ _ I ht) (fun u s' hs=>?_) fun _ _ z=>z.elim);obtain⟨v,H',F,rv,q⟩:=hs;exact uR C G F.os F.bare F.base F.hok rv q
end
def jU(oc:Obj)(qual:Str):Prop:=∃vs t,oc.data=.fields vs/\vs[1]?=some (.str qual t)
def ZG(H:Hp)(P:Au)(pos:Pos)(qual:Str):Prop:=
 H P=some (.tbl #[])\/∃q oc,H P=some (.tbl #[rawInt pos.line,rawInt pos.col,.ref q])/\H q=some (XM oc)/\jU oc qual
def ZG.ex{P:Au}{qual:Str}(h:ZG H P p qual):∃ps,H P=some (.tbl ps):=by
 rcases h with h|⟨_,_,h,_⟩<;>exact⟨_,h⟩
structure yK(mg:Ae)(base:Heap):Prop where
 ex:∃bm ob,mg "__builtins__" = some (.ref bm)/\bm≠builtinsNs/\base.get? bm=some ob/\ob.cls=.type "module" /\ ob.dict=some builtinsNs/\ob.data=.plain
def tLam(P:Au)(lpos:Pos)(qual:Str)(C:Au->Value->Obj):TE:=fun _ H Q=>ZG H P lpos qual /\
 ∀(f D:Au) (oc:Obj) (q:As) (H2:Hp),H f=none->H2 f=some (XM (C D q))->H2 D=some (XM oc)->jU oc qual->ZG H2 P lpos qual->(∀b o,H b=some o->b≠P->H2 b=some o)->Q (.ref f) H2
def uS{X:Cx}{P:Au}{lpos:Pos}{fo:Obj}{h':Heap}{tk:Nat}(I:Inv X r c H s)(D:H P=some (.tbl #[]))(Y:Heap.ExtBut P s.heap h')(O:s.heap.objs.size<=f)(hlt:f<h'.objs.size)(hoc:h'.get? f=some Z)
  (J:h'.get? P=some (PySem.W.tabObj #[rawInt lpos.line,rawInt lpos.col,.ref f])) (hfo:fo.isFreed=false:=by rfl):Inv X r c (upd (upd (upd H P (.tbl #[rawInt lpos.line,rawInt lpos.col,.ref f])) f (XM Z)) h'.objs.size (XM fo)) {s with heap:=h'.push fo,toks:=tk}:=by
 have F:H f=none:=I.hok.fresh O;have cP:f≠P:=fun e=>by rw[e,D]at F;cases F
 have lo:∀{b:Au} {o:Obj},s.heap.get? b=some o->b≠f:=fun e z=>absurd (Qar e) (by rw[z];exact Qgz.mpr O);have I1:Inv X r c (upd (upd H P (.tbl #[rawInt lpos.line,rawInt lpos.col,.ref f])) f (XM Z)) {s with heap:=h',toks:=tk}:=by
  refine I.un ⟨fun b o e n _ _=>Y b o (fun z=>by rw[z,D]at n;cases n) e,fun b o e n _ _=>⟨o.slots,Y b o (fun z=>by rw[z,D]at n;cases n) e⟩,fun b o e n _=>?_,fun b o e _=>?_,fun b xs e=>?_,fun b o u e=>?_,fun b pz e=>?_⟩ fun b u e=>?_
  ·rw[Zk (lo e),Zk (fun z=>by rw[z,D]at n;cases n)];exact n
  ·by_cases C:b=P
   ·rw[C];exact⟨_,J⟩
   ·exact⟨o,Y b o C e⟩
  ·rw[Zk (Zm e F),Zk (X9 e D (fun z=>nomatch z))];exact e
  ·rw[Zk (Zm e F),Zk (X9 e D (fun z=>nomatch z))];exact e
  ·by_cases C:b=P
   ·subst C;rw[D]at e;cases e;exact⟨#[rawInt lpos.line,rawInt lpos.col,.ref f],by rw[Zk cP.symm,Za];rfl⟩
   ·exact⟨#[],by rw[Zk (Zm e F),Zk C,e];simp⟩
  ·by_cases G:b=f
   ·subst G;rw[Za]at e;cases e;exact qk hoc
   ·rw[Zk G]at e
    by_cases C:b=P
    ·subst C;rw[Za]at e;cases e;exact J
    ·rw[Zk C]at e;refine(I.hok b u e).stay (fun d v hd q=>Y d v ?_ q) (fun d q=>?_) fun d xs q=>?_
     ·grind
     ·rw[Zk (Zm q F),Zk (X9 q D (fun z=>nomatch z))];exact q
     ·rw[Zk (Zm q F),Zk (X9 q D (fun z=>nomatch z))];exact q
 exact I1.laid (h':=h'.push fo) (t':=tk) (a:=h'.objs.size) (o:=XM fo) (fun b u e=>Qab _ e) (Qah _) (qk (Qao _ hfo))
section
variable {X:Cx}{params:Arguments}{body:Av}{scope:Scope}{lpos:Pos}{c P:Au}{qual:Str}
abbrev jV (X:Cx) (qual:Str) (params:Arguments) (body:Av) (scope:Scope):Au->Value->Obj:=fun C q=>PySem.W.kla_obj "<lambda>" qual params body scope (xV X.env.cells scope.names []) ((X.mg "__name__").getD .none) C q
def Zeh (F:X.env.code=.ref c) (C:PySem.W.CodeHd X.base c P) (B:yK X.mg X.base) (hdef:defaultsOf params X.env=([],[])) (hq:X.env.qual ++ "<lambda>" = qual)
  (Y:∀y∈scope.names,y.2=.free->X.env.scope.names.lookup y.1=some .cell):
  PE X (.Lambda params body scope lpos) (tLam P lpos qual (jV X qual params body scope)):=by
 intro pins s σ H Q I hw;obtain⟨J,hq2⟩:=hw;refine PySem.W.kla_eval hdef ?_;rw[hq];have hcl:closureFor scope X.env=pure (xV X.env.cells scope.names []):=Jt fun y hy h=>I.ok.has y.1 (.inl (Y y hy h));have hg:s.heap.Ns mainGlobals X.mg:=I.mod.glob.keeps I.bk;obtain⟨pz,hPs⟩:=J.ex;have G:X.base.get? P=none:=by
  cases e:X.base.get? P with
  |none=>rfl
  |some o=>rw[(I.bs P o e).2]at hPs;cases hPs
 have hgP:mainGlobals≠P:=fun e=>by
  obtain⟨o,es,ep,g,_⟩:=I.mod.glob;rw[e,G]at g;cases g
 have hb:s.heap.BuiltinsAt X.mg P:=by
  obtain⟨bm,ob,b1,b2,b3,b4,b5,b6⟩:=B.ex;refine⟨bm,ob,b1,b2,fun e=>?_,(fun e=>by rw[e,G]at b3;cases b3),I.bk _ _ b3,b4,b5,b6⟩;obtain⟨o,es,ep,g,hd,_⟩:=I.mod.glob;rw[<-e,b3]at g;cases g;rw[b6]at hd;cases hd
 rcases J with J|⟨q,oc,J,hc',O⟩
 ·have hP:s.heap.get? P=some (PySem.W.tabObj #[]):=I.hok P _ J;refine PySem.W.kla_makeFunction (mg:=X.mg) (ps:=#[]) hcl I.ok.glob hg F (C.keeps I.bk) hP trivial rfl hgP hb fun q D h' tk hx hge Z hrec htb=>?_;obtain⟨c₂,oc,vs,t,e2,O,hd,hv⟩:=hrec;cases e2;have cn:H q=none:=I.hok.fresh hge;have cP:q≠P:=fun e=>by rw[e,J]at cn;cases cn
  have hsz:s.heap.objs.size<=h'.objs.size:=Qa8 hge (Qau Z);have I2:=uS (lpos:=lpos) (fo:=jV X qual params body scope q D) (tk:=tk) I J hx hge Z O htb;have fn:H h'.objs.size=none:=I.hok.fresh hsz;have fc:q≠h'.objs.size:=Qbi Z;have fP:P≠h'.objs.size:=Zm J fn;refine⟨.ref h'.objs.size,_,I2,rfl,hq2 _ q oc D _ fn Za ?_ ⟨vs,t,hd,hv⟩ (.inr ⟨q,oc,?_,?_,⟨vs,t,hd,hv⟩⟩) fun b o e hbP=>?_⟩
  ·rw[Zk fc];exact Za
  ·rw[Zk fP,Zk cP.symm];exact Za
  ·rw[Zk fc];exact Za
  ·rw[Zk (Zm e fn),Zk (Zm e cn),Zk hbP];exact e
 ·have hP:s.heap.get? P=some (PySem.W.tabObj #[rawInt lpos.line,rawInt lpos.col,.ref q]):=I.hok P _ J;have hf:codeAmong lpos (#[rawInt lpos.line,rawInt lpos.col,.ref q]:Ah).toList=some (.ref q):=by
   show(if((lpos.line:Int) == lpos.line&&(lpos.col:Int) == lpos.col)=true then some (Value.ref q)else _)=_;rw[Qdi,Qdi];rfl
  refine PySem.W.kla_makeFunctionHit (mg:=X.mg) hcl I.ok.glob hg F (C.keeps I.bk) hP trivial hf hb fun D h' tk hk hsz=>?_;have I2:=I.laid (h':=h'.push (jV X qual params body scope q D)) (t':=tk) (a:=h'.objs.size) (o:=XM (jV X qual params body scope q D)) (fun b u e=>Qab _ (hk b u e)) hsz (qk (Qao _ rfl));have fn:H h'.objs.size=none:=I.hok.fresh hsz;have sm:∀b o,H b=some o->upd H h'.objs.size (XM (jV X qual params body scope q D)) b=some o:=fun b o e=>by rw[Zk (Zm e fn)];exact e
  exact⟨.ref h'.objs.size,_,I2,rfl,hq2 _ q oc D _ fn Za (sm _ _ hc') O (.inr ⟨q,oc,sm _ _ J,sm _ _ hc',O⟩) fun b o e _=>sm b o e⟩
end
def cellsOf(cells:List (Str×Au)):List Au:=(cells.map (·.1)).filterMap fun x=>cells.lookup x
def Xl{cells:List (Str×Au)}{c:Au}:c∈cellsOf cells↔∃x,cells.lookup x=some c:=by
 unfold cellsOf;rw[Qgj];constructor
 ·grind
 ·rintro⟨x,h⟩;exact⟨x,Qay.mpr ⟨(x,c),Qcb h,rfl⟩,h⟩
def Zbl(X:Cx)(s:Aq)(H:Hp):Hp:=fun b=>if b∈cellsOf X.env.cells then(s.heap.get? b).map XM else H b
section
variable {X:Cx}{pins:Ac}{σ:St}{H:Hp}{s:Aq}
theorem yL(I:Inv X pins σ H s):∀d∈cellsOf X.env.cells,∃o v,Zbl X s H d=some (XM o)/\o.data=.cell v/\s.heap.get? d=some o:=fun d m=>by
 obtain⟨y,D⟩:=Xl.mp m;obtain⟨v,o,q,C⟩:=I.cell y d D;exact⟨o,v,by unfold Zbl;rw[Qba m,q];rfl,C,q⟩
def Gv{d:Au}(m:d∉cellsOf X.env.cells):Zbl X s H d=H d:=Qa4 m
def Wh(I:Inv X pins σ H s):∀d∈cellsOf X.env.cells,H d=none:=fun d m=>let⟨y,hy⟩:=Xl.mp m;I.freeC y d hy
theorem xE(I:Inv X pins σ H s):∀b o,H b=some o->Zbl X s H b=some o:=fun b o e=>by
 rw[Gv fun m=>by rw[Wh I b m]at e;cases e];exact e
def ze{k:Nat}{g:Au}{gd:Am}{sp:Sp}{Q:VK}{vs:A0}(F:Yx X.prog X.w X.K X.mg X.base CX0 k g gd N sp)(hr:WT k X.A)(Y:Binds X.K gd N [])(hfn:X.fn=fun _=>true)
  (I:Inv X pins σ H s) (rv:Vals vs R) (hsp:sp vs (Zbl X s H) (fun v H3=>Q v (hide (cellsOf X.env.cells) H3)) E0):A2 X (call (.ref g) R) (EP X pins σ Q) X.xe s:=by
 have Z:=yL I;have hn:=Wh I;have D:=xE I;have nloc:∀d∈cellsOf X.env.cells,d≠X.env.locals:=fun d m e=>by
  obtain⟨o,v,_,hd,g⟩:=Z d m;obtain⟨m',⟨o',es,ep,g',hd',_⟩,_⟩:=I.loc;rw[e,g']at g;cases g;rw[hd']at hd;cases hd
 have G:∀d∈cellsOf X.env.cells,X.s₀.heap.objs.size<=d:=fun d m=>by
  obtain⟨y,hy⟩:=Xl.mp m;exact I.ok.cab y d (by rw[hfn]) hy
 have nfr:∀d∈cellsOf X.env.cells,d∉frs X.stack:=fun d m z=>by
  rcases Qaq.mp (I.stkSub d z)with e|e
  ·exact nloc d m e
  ·obtain⟨_,o,g,_⟩:=I.ok.funs.mem e;exact absurd (Qar g) (Qgz.mpr (G d m))
 have hok3:HOk X.prog X.w (Zbl X s H) s.heap:=fun b o e=>by
  by_cases m:b∈cellsOf X.env.cells
  ·obtain⟨ob,v,e',hd,g⟩:=Z b m;rw[e']at e;cases e;exact qk g
  ·rw[Gv m]at e;exact(I.hok b o e).stay (fun _ _ _ q=>q) (fun d q=>D _ _ q) fun d xs q=>D _ _ q
 have e0:Zk9 X.prog X.w X.K X.mg X.base X.A X.stack s (Zbl X s H):=by
  have z:=I.env0;refine⟨z.frames,z.mod,fun b o e=>⟨(z.bs b o e).1,?_⟩,z.bsz,z.funs,fun b Y=>?_,hok3,z.bare⟩
  ·rw[Gv fun m=>absurd (Qar e) (Qgz.mpr (Qa8 I.ok.bsz (G b m)))];exact(z.bs b o e).2
  ·rw[Gv fun m=>nfr b m Y];exact z.frf b Y
 have hlu:(R++[]).length=N.length:=by rw[Qbm,<-rv.length];exact F.len _ _ _ _ hsp
 refine wpAny_call (Qer (F.run X.A X.stack s (Zbl X s H) ⟨R,[]⟩ R vs _ _ hr e0 (by simpa using Y s R I.kIn hlu) rv hsp) fun r s' hq=>?_);cases r with
 |error e=>exact hq.elim
 |ok fl=>
  cases fl with
  |next=>exact False.elim hq
  |brk=>exact False.elim hq
  |cont=>exact False.elim hq
  |ret uu=>
   obtain⟨v,H4,os,bare,un,O,rv4,q4⟩:=hq;have J:∀d∈cellsOf X.env.cells,∃o,H4 d=some (XM o)/\s.heap.get? d=some o/\s'.heap.get? d=some o:=fun d m=>by
    obtain⟨o,v,e,hd,g⟩:=Z d m;have e4:=un.frzs d o _ e;exact⟨o,e4,g,(O d _ e4).1⟩
   have C:∀d,H d=none->d∉cellsOf X.env.cells->Zbl X s H d=none:=fun d n m=>by rw[Gv m];exact n
   have nm:∀d o,H d=some o->d∉cellsOf X.env.cells:=fun d o e m=>by rw[hn d m]at e;cases e
   refine⟨v,hide (cellsOf X.env.cells) H4,I.call' os ⟨fun d o e n Y hx=>?_,fun d o e n Y hx=>?_,fun d o e n hx=>?_,fun d o e hx=>un.there d o e hx,fun d xs e=>?_,fun d o u e=>?_,fun d pz e=>?_⟩ (gm O fun d m=>let⟨o,e,_⟩:=J d m;⟨o,e⟩) bare (fun _ z=>nomatch z),rv4,q4⟩
   ·by_cases m:d∈cellsOf X.env.cells
    ·obtain⟨o',_,g,g'⟩:=J d m;rw[e]at g;cases g;exact g'
    ·exact un.keep d o e (C d n m) Y hx
   ·by_cases m:d∈cellsOf X.env.cells
    ·obtain⟨o',_,g,g'⟩:=J d m;rw[e]at g;cases g;exact⟨o.slots,g'⟩
    ·exact un.slot d o e (C d n m) Y hx
   ·by_cases m:d∈cellsOf X.env.cells
    ·exact YS m
    ·rw[ZD m];exact un.free d o e (C d n m) hx
   ·rw[ZD (nm d _ e)];exact un.tups d xs (D _ _ e)
   ·rw[ZD (nm d _ e)];exact un.frzs d o u (D _ _ e)
   ·rw[ZD (nm d _ e)];exact un.tbls d pz (D _ _ e)
def ko{scope:Scope}{ys:Ai}{is:Aj}{N0:Ai}(I:Inv X pins σ H s)(C:∀y∈scope.names,y.2=.free->X.env.scope.names.lookup y.1=some .cell)(G:∀y∈ys,scope.names.lookup y=some .free)(hN:∀q∈ys.zip is,X.N[q.2]?=some q.1)(J:ys.length=is.length):
  ∀(i:Nat) (y:Str) (v:V),ys[i]?=some y->(is.map fun i=>(σ[i]?).getD none)[i]?=some (some v)->∃c o u,(xV X.env.cells scope.names []).lookup y=some c/\Zbl X s H c=some (XM o)/\o.data=.cell (some u)/\RelV v u:=by
 intro i y v h1 h2;have hcl:∀y d,(xV X.env.cells scope.names []).lookup y=some d->X.env.cells.lookup y=some d:=
  Gm (fun y hy h=>I.ok.has y.1 (.inl (C y hy h))) fun _ _ z=>by cases z
 rw[Qam]at h2;cases hj:is[i]? with
 |none=>rw[hj]at h2;cases h2
 |some j=>
  have D:σ[j]?=some (some v):=by
   grind
  have hz:(y,j)∈ys.zip is:=by
   obtain⟨a1,e1⟩:=Qai.mp h1;obtain⟨a2,e2⟩:=Qai.mp hj;rw[<-e1,<-e2,<-Qg7 (h:=by rw[Qcj];lia)];exact Qcv _
  have O:=G y (Qag h1);have Y:X.env.kindOf y=some .cell:=C _ (uG O) rfl;obtain⟨m,hm',hl⟩:=I.loc;obtain⟨u,r,l⟩:=hl j y v (hN _ hz) D (.inr (.inl Y));rcases l with⟨l1,_⟩|⟨_,d,l2,l3⟩
  ·rw[Y]at l1;cases l1
  ·obtain⟨d',F⟩:=Ju (cells:=X.env.cells) (acc:=[]) O;have e:d'=d:=by grind
   subst e;obtain⟨o,ho,Z⟩:=l3;obtain⟨o',v',e',_,g'⟩:=yL I d' (Xl.mpr ⟨y,l2⟩);rw[ho]at g';cases g';exact⟨d',o,u,F,e',Z,r⟩
def Zlz{P:Au}{lpos:Pos}{qual:Str}(I:Inv X pins σ H s)(T:ZG H P lpos qual)(F:Z8 (Zbl X s H) h):ZG (hide (cellsOf X.env.cells) h) P lpos qual:=by
 have out:∀b o,H b=some o->hide (cellsOf X.env.cells) h b=some o:=fun b o e=>by
  rw[ZD (fun m=>by rw[Wh I b m]at e;cases e)];exact F _ _ (xE I _ _ e)
 rcases T with z|⟨J,q,C,G,D⟩
 ·exact .inl (out _ _ z)
 ·exact .inr ⟨J,q,out _ _ C,out _ _ G,D⟩
end
structure Zol(S0 scope:Scope)(N0 ps ys:Ai)(is:Aj):Prop where
 sc:Zoj scope ps ys
 free:∀y∈scope.names,y.2=.free->S0.names.lookup y.1=some .cell
 vis:∀q∈ys.zip is,N0[q.2]?=some q.1
 len:ys.length=is.length
section
variable {X:Cx}{params:Arguments}{body a:Av}{scope:Scope}{lpos p pos:Pos}{c P g:Au}{qual x:Str}{k kl:Nat}{gd:Am}{pg ps ys:Ai}{is:Aj}{sp:Sp}{ta te:TE}
def Jg{H1:Hp}{b:Au}{u:HO}(q:∀c∈J,∃o,H c=some (XM o))(s:Z8 H H1)(h:H1 b=some u)(C:∀o,u≠XM o):hide J H1 b=some u:=by
 rw[ZD fun m=>?_]
 ·exact h
 ·obtain⟨o,e⟩:=q b m;rw[s _ _ e]at h;exact C o (Option.some.inj h).symm
def ZG.other{H':Hp}{P:Au}{qual:Str}(h:ZG H P q qual)(C:P≠f)(D:∃ps,H f=some (.tbl ps))(s:∀b o,H b=some o->b≠f->H' b=some o):ZG H' P q qual:=by
 rcases h with h|⟨c,oc,h1,h2,F⟩
 ·exact .inl (s _ _ h C)
 ·obtain⟨ps,e⟩:=D;exact .inr ⟨c,oc,s _ _ h1 C,s _ _ h2 (X9 h2 e (fun z=>nomatch z)),F⟩
def ZG.same{H H':Hp}{P:Au}{pos:Pos}{qual:Str}(h:ZG H P pos qual)(s:Z8 H H'):ZG H' P pos qual:=by
 rcases h with h|⟨c,oc,h1,h2,q⟩
 ·exact .inl (s _ _ h)
 ·exact .inr ⟨c,oc,s _ _ h1,s _ _ h2,q⟩
def tCallV(q:An)(w:Ar)(K:Af)(mg:Ae)(base:Heap)(k:Nat)(i:Nat)(t:TA):TE:=fun σ H Q=>∃(f:Au) (τ:Sp),σ[i]?=some (some (.ref f))/\Xr q w K mg base k f H τ /\
 t σ H fun vs H1=>ql H H1/\τ vs H1 Q E0
def Zei{P:An}{mg:Ae}{k:Nat}{H1:Hp}{τ:Sp}{h:Heap}(c:Xr P w K mg j k f H τ)(C:ql H H1)(q:HOk P w H1 h):PySem.W.FnAt f h:=by
 obtain⟨o,fd,e,d⟩:=c.1;have g:=(q f _ (C _ _ _ e)).1;obtain⟨oc,od,F,D⟩:=o;cases d;exact⟨oc,od,fd,D,g⟩
def Zhl(i:Nat){t:TA}(hr:WT k X.A)(ha:QA X (e::B) t)(hN:X.N[i]?=some x:=by rfl)(hv:Vis X.env.scope x:=by first|exact Or.inl rfl|exact Or.inr (Or.inl rfl)|exact Or.inr (Or.inr rfl))
  (D:(x == ("__debug__" : Str))=false:=by decide) (J:(x == ("__classdict__" : Str))=false:=by decide) (he:starEach (e::B) X.env=(false,eval e X.env)::starEach B X.env:=by rfl) (G:(backTo pos (starEach B X.env)).any (·.1)=false:=by rfl):
  QE X (.Call (.Name x p) (e::B) [] pos) (tCallV X.prog X.w X.K X.mg X.base k i t):=by
 refine⟨?_⟩;intro pins s σ H Q I hw;obtain⟨f,τ,O,F,ht⟩:=hw;refine Qc0 (thn (Ziz hN hv D J pins s σ H (fun v H'=>v=.ref f/\H'=H) I ⟨.ref f,O,rfl,rfl⟩) fun u s1 ⟨v,H',I1,r,Y,hH⟩=>?_);subst Y;subst hH;cases r;refine PySem.W.callWith_F (Zei F (ql.refl _) I1.hok) (thn (ha.out pos pins s1 σ H' _ I1 ht) fun us s2 ⟨vs,H1,C,rv,fz,Z⟩=>⟨Zei F fz C.hok,?_⟩) he G;refine wpAny_call (Qer (F.2 X.A X.stack s2 H1 us vs Q E0 fz hr C.env0 rv Z) fun r s' q=>?_);cases r with
 |error e=>exact q.elim
 |ok fl=>
  cases fl with
  |ret u=>exact C.after q
  |next=>exact False.elim q
  |brk=>exact False.elim q
  |cont=>exact False.elim q
end
theorem Zej{mg mb:Ae}{CX:CXT}{k:Nat}{fd:Am}{sp:Sp}{C:Aq}{vs:Ag}{ns:Ak}{D:List (Au×Au)}
  (KX:K.In C.heap) (hns:C.heap.Ns mainGlobals mg) (hb:C.heap.Ns builtinsNs mb) (hbb:∀x:Str,x ≠ "__name__" ->mb x=bootBuiltins x) (hlim:C.heap.NoLimit) (hg:C.gens=#[])
  (ha:C.heap.get? a=some {cls:=.type "list",data:=.seq vs.toArray}) (hi:IntsAre vs ns) (hl:ns.length<=sizeLine) (hr:WT k callerA)
  (hT:PySem.W.TabsAt D C.heap) (hKt:PySem.W.noTabs K=true) (hbm:yK mg C.heap)
  (F:∀base:Heap,K.In base->base.Ns mainGlobals mg->(∀q∈D,PySem.W.CodeHd base q.1 q.2)->yK mg base->Yx P w K mg base CX k f fd [x] sp) (hbind:∀(s:Aq) (u:As),BindsTo s fd ⟨[u],[]⟩ [(x,u)])
  (hsp:∀H:Hp,(∀q∈D,H q.2=some (.tbl #[]))->SqL K H a (ns.map V.int)->sp [.ref a] H (fun v _=>v=.bl true) fun _ _ _=>False)
  (hCX:∀H e s',CX [] H C (fun _ _ _=>False) e s'->False):
  codeAny (model P w) callerA (.call (.ref f) ⟨[.ref a],[]⟩) (fun r s'=>r=.ok (.ret (.bool true))/\OldK C.heap s'.heap/\s'.os=C.os/\AllBare s'.gens) C:=by
 have rv:=vM hi;have lenV:=hi.length;have G:∀b,b∈D.map (·.2)->C.heap.get? b=some (PySem.W.tabObj #[]):=fun b m=>by
  obtain⟨q,J,rfl⟩:=Qay.mp m;exact(hT q J).2
 have aT:a∉D.map (·.2):=fun m=>by
  have e:=G a m;rw[ha]at e;cases e
 have Z:∀H:Hp,(∀q∈D,H q.2=some (.tbl #[]))->(∀b,H b=none\/(b=a/\∃o xs,H b=some (.frz o (.lst xs)))\/(b∈D.map (·.2)/\H b=some (.tbl #[])))->SqL K H a (ns.map V.int)->HOk P w H C.heap->(H a≠none->K.lookup a=none)->
   codeAny (model P w) callerA (.call (.ref f) ⟨[.ref a],[]⟩) (fun r s'=>r=.ok (.ret (.bool true))/\OldK C.heap s'.heap/\s'.os=C.os/\AllBare s'.gens) C:=by
  intro H hTb hO hS hok hK;have I:∀{b:Au} {o:Obj},C.heap.get? b=some o->H b=none->(Zcp C.heap H).get? b=some o:=fun e n=>Zgt e n;have noA:∀{b:Au} {o:Obj},C.heap.get? b=some o->(∀its n,o.data≠.seq its n)->o.cls≠.none->H b=none:=fun{b o} e d1 d2=>by
   rcases hO b with z|⟨rfl,_⟩|⟨m,_⟩
   ·exact z
   ·rw[ha]at e;cases e;exact absurd rfl (d1 _ _)
   ·rw[G b m]at e;cases e;exact absurd rfl d2
  have Y:∀{b:Au} {m:Ae},C.heap.Ns b m->(Zcp C.heap H).Ns b m:=fun{b m} ⟨o,es,ep,e,d,r⟩=>⟨o,es,ep,I e (by
   grind),d,r⟩
  have hKb:K.In (Zcp C.heap H):=fun b o e=>I (KX b o e) (by
   rcases hO b with z|⟨rfl,ob,xs,z⟩|⟨m,_⟩
   ·exact z
   ·rw[hK (by rw[z];simp)]at e;cases e
   ·have g:=KX b o e;rw[G b m]at g;cases g;have h2:=Qb8.mp hKt (b,_) (PySem.W.mem_of_lookupK e);exact absurd (show false=true from h2) Qa6)
  have hM:Mod K mg (Zcp C.heap H):=⟨hKb,Y hns,⟨mb,Y hb,hbb⟩,let⟨mc,h1,h2⟩:=hlim;⟨mc,Y h1,h2⟩⟩;have hB:yK mg (Zcp C.heap H):=by
   obtain⟨bm,ob,b1,b2,b3,b4,b5,b6⟩:=hbm.ex;exact⟨bm,ob,b1,b2,I b3 (noA b3 (fun its n z=>by rw[b6]at z;cases z) (fun z=>by rw[b4]at z;cases z)),b4,b5,b6⟩
  have hC:∀q∈D,PySem.W.CodeHd (Zcp C.heap H) q.1 q.2:=fun q J=>by
   obtain⟨o,vs',file,tf,flags,tg,inF,text,tt,e1,r1,r2,r3⟩:=(hT q J).1;exact⟨o,vs',file,tf,flags,tg,inF,text,tt,I e1 (noA e1 (fun its n z=>by rw[r2]at z;cases z) (fun z=>by rw[r1]at z;cases z)),r1,r2,r3⟩
  have e0:Zk9 P w K mg (Zcp C.heap H) callerA [] C H:=⟨rfl,hM,fun b o e=>Zkt e,Qgm (Zcq _ _),trivial,fun b hb=>absurd (show b∈([]:List Au)from hb) (by simp),hok,.of_eq hg⟩;refine Qer ((F _ hKb (Y hns) hC hB).run callerA [] C H ⟨[.ref a],[]⟩ [.ref a] [.ref a] _ _ hr e0 (hbind C (.ref a)) (.cons rfl .nil) (hsp H hTb hS)) fun r s' h=>?_;cases r with
  |error e=>exact(hCX H e s' h).elim
  |ok fl=>
   cases fl with
   |next=>exact False.elim h
   |brk=>exact False.elim h
   |cont=>exact False.elim h
   |ret u=>
    obtain⟨v,H',os,bare,un,hok',r',q⟩:=h;have q':v=.bl true:=q;subst q';obtain rfl:u=Value.bool true:=r';have all:∀b o,C.heap.get? b=some o->s'.heap.get? b=some o\/∃more,b∈D.map (·.2)/\o=PySem.W.tabObj #[]/\s'.heap.get? b=some (PySem.W.tabObj (#[]++more)):=fun b o e=>by
     rcases hO b with z|⟨_,ob,xs,z⟩|⟨m,z⟩
     ·exact .inl (un.keep b o e z (by intro z;exact absurd (show b∈([]:List Au)from z) (by simp)) (by simp))
     ·have z2:=un.frzs b ob _ z;obtain⟨e1,_⟩:=hok b _ z;obtain⟨e2,_⟩:=hok' b _ z2;rw[e]at e1;cases e1;exact .inl e2
     ·obtain⟨more,z2⟩:=un.tbls b _ z;rw[G b m]at e;cases e;exact .inr ⟨more,m,rfl,hok' b _ z2⟩
    refine⟨rfl,⟨fun b o e=>?_,fun b o e=>?_⟩,os,bare⟩
    ·rcases all b o e with z|⟨more,m,rfl,z⟩
     ·exact .inl z
     ·obtain⟨q,J,rfl⟩:=Qay.mp m;exact .inr (.inl ⟨((hT q J).1.tab (hT q J).2).isCodeTable,rfl,#[],more,rfl,z⟩)
    ·rcases all b o e with z|⟨more,_,_,z⟩
     ·exact⟨_,z⟩
     ·exact⟨_,z⟩
 have tm:∀q∈D,q.2∈D.map (·.2):=fun q J=>Qcm J;cases hk:K.lookup a with
 |some o=>
  have e:=KX a o hk;rw[ha]at e;cases e;refine Z (fun b=>if b∈D.map (·.2)then some (.tbl #[])else none) (fun q J=>Qba (tm q J)) (fun b=>?_) (.inr ⟨_,vs.toArray,_,hk,rfl,rfl,rfl,by rw[Qax,lenV];exact hl,by simpa using rv⟩) (fun b u z=>?_) (fun z=>absurd (Qa4 aT) z)
  ·by_cases m:b∈D.map (·.2)
   ·exact .inr (.inr ⟨m,Qba m⟩)
   ·exact .inl (Qa4 m)
  ·by_cases m:b∈D.map (·.2)
   ·have O:=(Qba m).symm.trans z;cases O;exact G b m
   ·have O:=(Qa4 m).symm.trans z;cases O
 |none=>
  refine Z (fun b=>if b∈D.map (·.2)then some (.tbl #[])else if b=a then some (.frz {cls:=.type "list",data:=.seq vs.toArray} (.lst (ns.map V.int)))else none) (fun q J=>Qba (tm q J)) (fun b=>?_) (.inl (.inr ⟨{cls:=.type "list",data:=.seq vs.toArray},(Qa4 aT).trans (Qba rfl)⟩)) (fun b u z=>?_) fun _=>hk
  ·grind
  ·by_cases m:b∈D.map (·.2)
   ·have O:=(Qba m).symm.trans z;cases O;exact G b m
   ·by_cases hb:b=a
    ·have O:=((Qa4 m).trans (Qba hb)).symm.trans z;cases O;subst hb;exact⟨ha,by rw[Qad];exact hl,vs,_,rv,ha⟩
    ·have O:=((Qa4 m).trans (Qa4 hb)).symm.trans z;cases O
def walk_ofT{l:PySem.W.OpenLaw}{k:Nat}{XP:(Ae)->Heap->Prop}{YP:Ar->Heap->Prop}{d:DefRec}{K:Params->PySem.W.Frag}{CX:Ar->CXT}{sp:Ar->Sp}{q:List (Au×Au)}
  (hn:l.most=some n) (hn2:n<=sizeLine) (hdf:d.params.defaults=[]) (hr:WT k callerA)
  (hY:∀(w:Ar) (h:Heap),YP w h->(K w.params).In h)
  (I:∀(w:Ar) (Z:ExcName->Option As) (mg mb:Ae) (h:Heap),Top P (PySem.W.looseW P N) Z mg mb h->(K w.params).In h->PySem.W.TabsAt q h) (hKt:∀w:Ar,PySem.W.noTabs (K w.params)=true)
  (F:∀(w:Ar) (mg:Ae) (fa:Au) (h:Heap),(K w.params).In h->h.Ns mainGlobals mg->mg d.name=some (.ref fa)->
   ∃fd:Am,(∀(s:Aq) (u:As),BindsTo s fd ⟨[u],[]⟩ [(x,u)]) /\
    ∀base:Heap,(K w.params).In base->base.Ns mainGlobals mg->(∀P∈q,PySem.W.CodeHd base P.1 P.2)->yK mg base->Yx l.prog w (K w.params) mg base (CX w) k fa fd [x] (sp w))
  (hsp:∀(w:Ar) (H:Hp) (a:Au) (ns:Ak),ns.length<=n->(∀P∈q,H P.2=some (.tbl #[]))->SqL (K w.params) H a (ns.map V.int)->sp w [.ref a] H (fun v _=>v=.bl true) fun _ _ _=>False)
  (hCX:∀(w:Ar) (H:Hp) (s:Aq) (e:As) (s':Aq),CX w [] H s (fun _ _ _=>False) e s'->False):
  PySem.W.WalkO P N XP YP l.row.toRowW d [] (fun f vs=>PySem.call f vs):=by
 refine Att.attach_call hn hdf fun w s₀ J mg mb fa o pm cd doc a vs ns G Y ho hd hcd hmg O D C hg=>?_;have KX:=hY w _ Y;obtain⟨fd,hb,hF⟩:=F w mg fa _ KX G.T.g hmg;exact Zej KX G.T.g G.T.b G.T.builtins G.T.nolimit hg O D (Qa8 C hn2) hr (I w _ mg mb _ G.T KX) (hKt w) ⟨G.T.bmain⟩ hF hb (fun H hTb hS=>hsp w H a ns C hTb hS) fun H e s'=>hCX w H J e s'
def Fun.okC{mg:Ae}{qual:Str}{st:Aw}{fd:Am}{ps:Ai}{k:Nat}{sp:Sp}(F:Fun K x qual st f fd)(S:Zx N ps (Zg st))(len:∀vs H Q E,sp vs H Q E->vs.length=ps.length)
  (C:∀(A:Ao) (outer:List Env) (s:Aq) (H:Hp) (vs:A0) (Q:VK) (E:XK),WT k (A.deeper (envOfC qual (Zg st) s.heap.objs.size f fd.code))->sp vs H Q E->
   ∃t,PSs (Zgn CX0 P w K mg j N qual (Zg st) f fd.code A outer s H E).nox (Xv st) t/\t {nx:=fun _ H'=>Q .non H',rt:=Q} (start N vs) H):Yx P w K mg j CX0 (k+1) f fd ps sp:=by
 obtain⟨oc,od,kV,O,pm,an,I,ct,J,rfl,Y,D⟩:=F.ex;refine Zn4 Y D S len fun A outer s H vs Q E Z G=>?_;obtain⟨t,h,q⟩:=C A outer s H vs Q E Z G;exact⟨t,h.nox,q⟩
def Zhm{x:V}(r:Vals [x,y] R):∃a b,R=[a,b]/\RelV x a/\RelV y b:=by
 cases r with
 |cons h1 t=>
  cases t with
  |cons h2 t=>
   cases t;exact⟨_,_,rfl,h1,h2⟩
structure QPs(X:Cx)(pos:Pos)(keys:List (Option Av))(values:Al)(trs:List (TE×TE)):Prop where
 out:PPs X pos keys values trs
def gn:QPs X p [] [] []:=⟨Zlp⟩
def yM{k v:Av}{ks:List (Option Av)}{vs:Al}{tk:TE}{q:List (TE×TE)}(F:QE X k tk)(D:QE X v d)(C:QPs X p ks vs q):QPs X p (some k::ks) (v::vs) ((tk,d)::q):=⟨Zhg F.out D.out C.out⟩
def gp{keys:List (Option Av)}{C:List (TE×TE)}(h:QPs X p keys B C)(q:keys.all (·.isSome)=true)(G:keys.length=B.length)(F:keys≠[])(D:keys.length<=15):QE X (.Dict keys B p) (Zog C):=⟨Zlq h.out q G F D⟩
end L2
namespace ZpT
def zO (f0:As) (b:Bool) (TI TO:Au):Obj:={cls:=.type "zip",dict:=none,data:=.fields #[f0,.bool b,.bool false,.ref TI,.ref TO],slots:=#[]}
def F0(f0:As):Prop:=f0=.none\/∃T:Au,f0=rawInt T
structure Ap(z TI TO i1 i2:Au):Prop where
 TIz:TI≠z
 TOz:TO≠z
 i1z:i1≠z
 i2z:i2≠z
 TITO:TI≠TO
 TIi1:TI≠i1
 TIi2:TI≠i2
 TOi1:TO≠i1
 TOi2:TO≠i2
 i12:i1≠i2
section
variable {prog:An}{w:Ar}{A:Ao}{E:Ab}{s:Aq}
def alive{Q:Option Obj->Shared->Prop}(h:Q (s.heap.get? a) s):A1 prog w A (loadIfAlive a) Q E s:=fun Γ p _=>h
def Zek{z:Au}{f0:As}{Q:Bool->Shared->Prop}(hz:s.heap.get? z=some (zO f0 l a f))(G:F0 f0)
  (h:∀r h' F,h'.get? z=some (zO f0 F a f)->Heap.SameBut z s.heap h'->Q r {s with heap:=h'}):A1 prog w A (Builtin.SmallTypes.ownedTupleIsFree (.ref z)) Q E s:=by
 refine Qaa (Qbv hz rfl (x:=f0) rfl ?_);rcases G with rfl|⟨T,rfl⟩
 ·exact Qae (h true s.heap l hz ⟨rfl,fun _ _=>rfl⟩)
 ·refine Qaa (alive ?_);cases hT:s.heap.get? (Int.toNat (T:Int))with
  |none=>exact Qae (h true s.heap l hz ⟨rfl,fun _ _=>rfl⟩)
  |some o=>
   refine Qaa (Qbv hz rfl (x:=.bool l) rfl ?_);cases l
   ·refine Qaa (Qb6 hz (by simp) fun D q C=>Qae ?_);exact h false D true q C
   ·exact Qae (h false s.heap true hz ⟨rfl,fun _ _=>rfl⟩)
end
structure Of(z TO i1 i2 l:Au):Prop where
 z:l≠z
 o:l≠TO
 i:l≠i1
 j:l≠i2
structure St(b1 b2:Bool)(z TI TO i1 i2 l1 l2:Au)(k1 k2:Nat)(h:Heap):Prop where
 z:∃f0 fb,h.get? z=some (zO f0 fb TI TO)/\F0 f0
 I:IsPair h TI (.ref i1) (.ref i2)
 O:∃a b,IsPair h TO a b
 n1:ZM b1 h i1 l1 k1
 n2:ZM b2 h i2 l2 k2
section
variable {prog:An}{w:Ar}{A:Ao}{E:Ab}{s:Aq}
def item{b1 b2:Bool}{z i1 i2 l1 l2:Au}{xs ys:Ah}{x y:As}(D:Ap z f L i1 i2)(D1:Of z L i1 i2 l1)(D2:Of z L i1 i2 l2)
  (S:St b1 b2 z f L i1 i2 l1 l2 n M s.heap) (q1:SeqAt b1 s.heap l1 xs) (q2:SeqAt b2 s.heap l2 ys) (hx:xs[n]?=some x) (hy:ys[M]?=some y)
  (hQ:∀h',St b1 b2 z f L i1 i2 l1 l2 (n+1) (M+1) h'->IsPair h' s.heap.objs.size x y->
   (∀c o,c≠z->c≠L->c≠i1->c≠i2->s.heap.get? c=some o->h'.get? c=some o)->Q (.ref s.heap.objs.size) {s with heap:=h'}):
  A1 prog w A (Builtin.«zip.__next__» ⟨[.ref z],[]⟩) (fun fin s'=>∃v,fin=.done (.ret v)/\Q v s') E s:=by
 obtain⟨⟨f0,fb,hz,hf⟩,hTI,⟨a,b,hTO⟩,n1,n2⟩:=S;show wpAny _ _ (field (.ref z) 2 >>= _) _ _ _;refine Qaa (Qbv hz rfl (x:=.bool false) rfl ?_);refine Qaa (Qbv hz rfl (x:=.ref f) rfl ?_);refine Qaa (Qcd hTI rfl ?_);refine Qaa (Zek hz hf fun r h0 fb' hz0 Z=>?_);have hz0':h0.get? z=some (zO f0 fb' f L):=hz0;have hTO0:IsPair h0 L a b:=Z.extBut _ _ D.TOz hTO;have n10:ZM b1 h0 i1 l1 n:=n1.mv fun o e=>Z.extBut _ _ D.i1z e;have n20:ZM b2 h0 i2 l2 M:=n2.mv fun o e=>Z.extBut _ _ D.i2z e;have q10:SeqAt b1 h0 l1 xs:=q1.mv fun o e=>Z.extBut _ _ D1.z e;have q20:SeqAt b2 h0 l2 ys:=q2.mv fun o e=>Z.extBut _ _ D2.z e;cases r with
 |true=>
  refine Qaa (Qdk ?_);refine Qaa (Qbv hz0 rfl (x:=.ref L) rfl ?_);refine Qaa (Qb6 hz0 (by simp) fun h₁ hz₁ G=>?_);refine Qaa ?_;refine Qaa (Qaa (Qg3 ?_));refine Qaa (Jc (n10.mv fun o e=>G.extBut _ _ D.i1z e) (q10.mv fun o e=>G.extBut _ _ D1.z e) hx fun h₂ h1₂ q=>Qae ?_);have hTO₂:IsPair h₂ L a b:=q.extBut _ _ D.TOi1 (G.extBut _ _ D.TOz hTO0);refine Qaa (Qcd hTO₂ rfl ?_);refine Qaa (Qf2 hTO₂ fun I hTO₃ C=>?_);refine Qaa (Qev (Qae ?_));refine Qaa (Qaa (Qg3 ?_));refine Qaa (Jc (n20.mv fun o e=>C.extBut _ _ D.TOi2.symm (q.extBut _ _ D.i12.symm (G.extBut _ _ D.i2z e)))
   (q20.mv fun o e=>C.extBut _ _ D2.o (q.extBut _ _ D2.i (G.extBut _ _ D2.z e))) hy fun h₄ h2₄ Y=>Qae ?_)
  have hTO₄:IsPair h₄ L x b:=Y.extBut _ _ D.TOi2 hTO₃;refine Qaa (Qcd hTO₄ rfl ?_);refine Qaa (Qf2 hTO₄ fun F J O=>?_);replace J:IsPair F L x y:=J;refine Qaa (Qev (Qae (Qae ?_)));refine Qaa (Qcd J rfl ?_);refine Qaa (Qgr ?_);have hsz:F.objs.size=s.heap.objs.size:=by rw[O.1,Y.1,C.1,q.1,G.1];exact Z.1
  have hz₅:F.get? z=some (zO .ellipsis fb' f L):=O.extBut _ _ D.TOz.symm (Y.extBut _ _ D.i2z.symm (C.extBut _ _ D.TOz.symm (q.extBut _ _ D.i1z.symm hz₁)));have hk₅:∀c o,c≠z->c≠L->c≠i1->c≠i2->s.heap.get? c=some o->F.get? c=some o:=fun c o c1 c2 c3 c4 e=>
   O.extBut _ _ c2 (Y.extBut _ _ c4 (C.extBut _ _ c2 (q.extBut _ _ c3 (G.extBut _ _ c1 (Z.extBut _ _ c1 e)))))
  have h1₅:ZM b1 F i1 l1 (n+1):=h1₂.mv fun o e=>O.extBut _ _ D.TOi1.symm (Y.extBut _ _ D.i12 (C.extBut _ _ D.TOi1.symm e));have h2₅:ZM b2 F i2 l2 (M+1):=h2₄.mv fun o e=>O.extBut _ _ D.TOi2.symm e;have hzlt:z<F.objs.size:=Qar hz₅;refine Qaa ?_;have hz₆:(F.push {cls:=.type "tuple",data:=.seq #[x,y]}).get? z=some (zO .ellipsis fb' f L):=Qab _ hz₅;refine Qaa (Qb6 hz₆ (by simp) fun h₇ hz₇ hs₇=>?_);refine Qb6 hz₇ (by simp) fun h₈ hz₈ hs₈=>?_;have up:∀c o,c≠z->F.get? c=some o->h₈.get? c=some o:=fun c o c1 e=>hs₈.extBut _ _ c1 (hs₇.extBut _ _ c1 (Qab _ e));have hT₈:IsPair h₈ F.objs.size x y:=hs₈.extBut _ _ (Qej hzlt) (hs₇.extBut _ _ (Qej hzlt) (Qao _ rfl));rw[hsz]at hz₈ hT₈;refine Qae ⟨_,rfl,?_⟩;rw[hsz];exact hQ h₈ ⟨⟨_,_,hz₈,.inr ⟨_,rfl⟩⟩,up _ _ D.TIz (hk₅ _ _ D.TIz D.TITO D.TIi1 D.TIi2 hTI),⟨_,_,up _ _ D.TOz J⟩,h1₅.mv fun o e=>up _ o D.i1z e,h2₅.mv fun o e=>up _ o D.i2z e⟩ hT₈ fun c o c1 c2 c3 c4 e=>up c o c1 (hk₅ c o c1 c2 c3 c4 e)
 |false=>
  refine Qaa ?_;refine Qaa (Qaa (Qcl ?_));refine Qaa (Jc n10 q10 hx fun h₂ h1₂ q=>Qae (Qae ?_));refine Qaa (Qaa (Qcl ?_));refine Qaa (Jc (n20.mv fun o e=>q.extBut _ _ D.i12.symm e) (q20.mv fun o e=>q.extBut _ _ D2.i e) hy fun I h2₃ C=>Qae (Qae (Qae ?_)));refine Qaa (Qgr (hsz:=(show 2<=sizeLine by decide)) (Qae ⟨_,rfl,?_⟩));have hsz:I.objs.size=s.heap.objs.size:=by rw[C.1,q.1];exact Z.1
  have hk₃:∀c o,c≠z->c≠i1->c≠i2->s.heap.get? c=some o->I.get? c=some o:=fun c o c1 c3 c4 e=>C.extBut _ _ c4 (q.extBut _ _ c3 (Z.extBut _ _ c1 e));have zz:I.get? z=some (zO f0 fb' f L):=C.extBut _ _ D.i2z.symm (q.extBut _ _ D.i1z.symm hz0');have hT:IsPair (I.push {cls:=.type "tuple",data:=.seq #[x,y]}) I.objs.size x y:=Qao _ rfl;rw[hsz]at hT ⊢;have up:∀c o,I.get? c=some o->(I.push {cls:=.type "tuple",data:=.seq #[x,y]}).get? c=some o:=fun c o e=>Qab _ e;exact hQ _ ⟨⟨_,_,up _ _ zz,hf⟩,up _ _ (hk₃ _ _ D.TIz D.TIi1 D.TIi2 hTI),⟨_,_,up _ _ (hk₃ _ _ D.TOz D.TOi1 D.TOi2 hTO)⟩,h1₂.mv fun o e=>up _ _ (C.extBut _ _ D.i12 e),h2₃.mv fun o e=>up _ _ e⟩ hT fun c o c1 c2 c3 c4 e=>up c o (hk₃ c o c1 c3 c4 e)
end
section
variable {prog:An}{w:Ar}{A:Ao}{E:Ab}{s:Aq}
def fin{b1 b2:Bool}{z i1 i2 l1 l2:Au}{xs ys:Ah}{Q:Fin->Shared->Prop}(hh:A.handled=none)(D:Ap z f L i1 i2)(D1:Of z L i1 i2 l1)(D2:Of z L i1 i2 l2)
  (S:St b1 b2 z f L i1 i2 l1 l2 n M s.heap) (q1:SeqAt b1 s.heap l1 xs) (q2:SeqAt b2 s.heap l2 ys) (hend:xs[n]?=none\/ys[M]?=none)
  (hE:∀h' e,(∀c o,c≠z->c≠L->c≠i1->c≠i2->s.heap.get? c=some o->h'.get? c=some o)->(∃o,h'.get? e=some o/\o.cls=.type "StopIteration")->E (.ref e) {s with heap:=h'}):
  A1 prog w A (Builtin.«zip.__next__» ⟨[.ref z],[]⟩) Q E s:=by
 obtain⟨⟨f0,fb,hz,hf⟩,hTI,⟨a,b,hTO⟩,n1,n2⟩:=S;show wpAny _ _ (field (.ref z) 2 >>= _) _ _ _;refine Qaa (Qbv hz rfl (x:=.bool false) rfl ?_);refine Qaa (Qbv hz rfl (x:=.ref f) rfl ?_);refine Qaa (Qcd hTI rfl ?_);refine Qaa (Zek hz hf fun r h0 fb' hz0 I=>?_);have hTO0:IsPair h0 L a b:=I.extBut _ _ D.TOz hTO;have n10:ZM b1 h0 i1 l1 n:=n1.mv fun o e=>I.extBut _ _ D.i1z e;have n20:ZM b2 h0 i2 l2 M:=n2.mv fun o e=>I.extBut _ _ D.i2z e;have q10:SeqAt b1 h0 l1 xs:=q1.mv fun o e=>I.extBut _ _ D1.z e;have q20:SeqAt b2 h0 l2 ys:=q2.mv fun o e=>I.extBut _ _ D2.z e;cases r with
 |true=>
  refine Qaa (Qdk ?_);refine Qaa (Qbv hz0 rfl (x:=.ref L) rfl ?_);refine Qaa (Qb6 hz0 (by simp) fun h₁ hz₁ F=>?_);refine Qaa ?_;refine Qaa (Qaa (Qg3 ?_));cases hx:xs[n]? with
  |none=>
   refine Qaa (jP hh (n10.mv fun o e=>F.extBut _ _ D.i1z e) (q10.mv fun o e=>F.extBut _ _ D1.z e) hx fun G e q he=>?_);obtain⟨oe,J,Z⟩:=he;have hz₂:G.get? z=some (zO .ellipsis fb' f L):=q _ _ D.i1z.symm hz₁;have hez:e≠z:=fun x=>by subst x;rw[hz₂]at J;cases J;simp[zO]at Z
   refine Qb6 hz₂ (by simp) fun O _ C=>hE O e (fun c o c1 _ c3 _ x=>C.extBut _ _ c1 (q _ _ c3 (F.extBut _ _ c1 (I.extBut _ _ c1 x)))) ⟨oe,C.extBut _ _ hez J,Z⟩
  |some x=>
   have hy:ys[M]?=none:=by grind
   refine Qaa (Jc (n10.mv fun o e=>F.extBut _ _ D.i1z e) (q10.mv fun o e=>F.extBut _ _ D1.z e) hx fun G h1₂ q=>Qae ?_);have Y:IsPair G L a b:=q.extBut _ _ D.TOi1 (F.extBut _ _ D.TOz hTO0);refine Qaa (Qcd Y rfl ?_);refine Qaa (Qf2 Y fun O hTO₃ C=>?_);refine Qaa (Qev (Qae ?_));refine Qaa (Qaa (Qg3 ?_));refine Qaa (jP hh (n20.mv fun o e=>C.extBut _ _ D.TOi2.symm (q.extBut _ _ D.i12.symm (F.extBut _ _ D.i2z e)))
    (q20.mv fun o e=>C.extBut _ _ D2.o (q.extBut _ _ D2.i (F.extBut _ _ D2.z e))) hy fun h₄ e hs₄ he=>?_)
   obtain⟨oe,J,Z⟩:=he;have hz₄:h₄.get? z=some (zO .ellipsis fb' f L):=hs₄ _ _ D.i2z.symm (C.extBut _ _ D.TOz.symm (q.extBut _ _ D.i1z.symm hz₁));have hez:e≠z:=fun x=>by subst x;rw[hz₄]at J;cases J;simp[zO]at Z
   refine Qb6 hz₄ (by simp) fun h₅ _ hs₅=>hE h₅ e (fun c o c1 c2 c3 c4 x=>hs₅.extBut _ _ c1 (hs₄ _ _ c4 (C.extBut _ _ c2 (q.extBut _ _ c3 (F.extBut _ _ c1 (I.extBut _ _ c1 x)))))) ⟨oe,hs₅.extBut _ _ hez J,Z⟩
 |false=>
  refine Qaa ?_;refine Qaa (Qaa (Qcl ?_));cases hx:xs[n]? with
  |none=>exact Qaa (jP hh n10 q10 hx fun G e q he=>hE G e (fun c o c1 _ c3 _ x=>q _ _ c3 (I.extBut _ _ c1 x)) he)
  |some x=>
   have hy:ys[M]?=none:=by grind
   refine Qaa (Jc n10 q10 hx fun G h1₂ q=>Qae (Qae ?_));refine Qaa (Qaa (Qcl ?_));exact Qaa (jP hh (n20.mv fun o e=>q.extBut _ _ D.i12.symm e) (q20.mv fun o e=>q.extBut _ _ D2.i e) hy fun O e C he=>hE O e (fun c o c1 _ c3 c4 x=>C _ _ c4 (q.extBut _ _ c3 (I.extBut _ _ c1 x))) he)
def next_item{b1 b2:Bool}{z i2 l1 l2:Au}{xs ys:Ah}{x y:As}{Q:Aa}(D:Ap z a f L i2)(G:Of z f L i2 l1)(D2:Of z f L i2 l2)
  (S:St b1 b2 z a f L i2 l1 l2 i n s.heap) (Y:SeqAt b1 s.heap l1 xs) (C:SeqAt b2 s.heap l2 ys) (O:xs[i]?=some x) (I:ys[n]?=some y)
  (Z:∀h',St b1 b2 z a f L i2 l1 l2 (i+1) (n+1) h'->IsPair h' s.heap.objs.size x y->
   (∀c o,c≠z->c≠f->c≠L->c≠i2->s.heap.get? c=some o->h'.get? c=some o)->Q (some (.ref s.heap.objs.size)) {s with heap:=h'}):
  A1 prog w A (pyNext (.ref z)) Q E s:=by
 obtain⟨f0,fb,hz,hf⟩:=S.z;have q:s.TypeIs (.ref z) "zip" :=⟨_,hz,rfl⟩;exact Qaa (Qdn (wpAny_callSpecial?_slot (name:=Str.ofString "__next__") q Qfl
  (Qbn Qfl q F.entry_zip_next (item D G D2 S Y C O I fun h' a1 a2 J=>Qae (Z h' a1 a2 J)) (F.args_zip_next_1 _))))
def next_end{b1 b2:Bool}{z i2 l1 l2:Au}{xs ys:Ah}{Q:Aa}(hh:A.handled=none)(D:Ap z a f L i2)(I:Of z f L i2 l1)(D2:Of z f L i2 l2)
  (S:St b1 b2 z a f L i2 l1 l2 i n s.heap) (Y:SeqAt b1 s.heap l1 xs) (G:SeqAt b2 s.heap l2 ys) (q:xs[i]?=none\/ys[n]?=none)
  (hQ:∀h',(∀c o,c≠z->c≠f->c≠L->c≠i2->s.heap.get? c=some o->h'.get? c=some o)->Q none {s with heap:=h'}):
  A1 prog w A (pyNext (.ref z)) Q E s:=by
 obtain⟨f0,fb,hz,hf⟩:=id S.z;have C:s.TypeIs (.ref z) "zip" :=⟨_,hz,rfl⟩;refine Qaa (Qdn (wpAny_callSpecial?_slot (name:=Str.ofString "__next__") C Qfl (Qbn Qfl C F.entry_zip_next ?_ (F.args_zip_next_1 _))));refine fin hh D I D2 S Y G q fun h' e hk J=>?_;obtain⟨o,Z,O⟩:=J;exact Qaa (Qdh (T:= "StopIteration") (b:=true) ⟨o,Z,O⟩ Qfs (Qae (hQ _ hk)))
def iter_self{z:Au}{f0:As}(hz:s.heap.get? z=some (zO f0 l a f))(h:Q (.ref z) s):A1 prog w A (pyIter (.ref z)) Q E s:=by
 have q:s.TypeIs (.ref z) "zip" :=⟨_,hz,rfl⟩;refine Qfq q F.slot_zip_iter (Qbn F.slot_zip_iter q F.entry_zip_iter ?_ (F.args_zip_iter_1 _));exact Qae ⟨_,rfl,"zip",_,q,Qfl.lookup,h⟩
end
def hz1(b1:Bool)(h:Heap)(l1:Au):Heap:=h.push (itO b1 l1)
def hz2(b1 b2:Bool)(h:Heap)(l1 l2:Au):Heap:=(hz1 b1 h l1).push (itO b2 l2)
def hz3 (b1 b2:Bool) (h:Heap) (l1 l2:Au):Heap:=(hz2 b1 b2 h l1 l2).push {cls:=.type "tuple",data:=.seq #[.ref h.objs.size,.ref (hz1 b1 h l1).objs.size]}
def hz4 (b1 b2:Bool) (h:Heap) (l1 l2:Au):Heap:=(hz3 b1 b2 h l1 l2).push {cls:=.type "tuple",data:=.seq #[.none,.none]}
def hz5(b1 b2:Bool)(h:Heap)(l1 l2:Au):Heap:=(hz4 b1 b2 h l1 l2).push (zO .none false (hz2 b1 b2 h l1 l2).objs.size (hz3 b1 b2 h l1 l2).objs.size)
theorem Ja(b1 b2:Bool)(l1 l2:Au)(xs ys:Ah):
  Meets (Builtin.«zip.__new__» ⟨[.type "zip",.ref l1,.ref l2],[]⟩) (fun _ R s=>SeqAt b1 s.heap l1 xs/\SeqAt b2 s.heap l2 ys /\
   R (.ok (.ret (.ref (hz4 b1 b2 s.heap l1 l2).objs.size))) {s with heap:=hz5 b1 b2 s.heap l1 l2}):=
 .of_wp fun prog w A R s h=>by
  obtain⟨G,g,d,tk,os⟩:=s;obtain⟨D,C,h⟩:=h;have I:=sub_zip;have q:SeqAt b1 (Shared.heap ⟨G,g,d,tk,os⟩) l1 xs:=D;have F:SeqAt b2 (Shared.heap ⟨G.push (itO b1 l1),g,d,tk,os⟩) l2 ys:=C.mv fun o e=>Qab _ e
  wp_walk using We q,We F
  exact⟨_,rfl,h⟩
section
variable {prog:An}{w:Ar}{A:Ao}{E:Ab}{s:Aq}
def call_new{b1 b2:Bool}{l1 l2:Au}{xs ys:Ah}(D:SeqAt b1 s.heap l1 xs)(O:SeqAt b2 s.heap l2 ys)
  (h:∀h',St b1 b2 (s.heap.objs.size+4) (s.heap.objs.size+2) (s.heap.objs.size+3) s.heap.objs.size (s.heap.objs.size+1) l1 l2 0 0 h'->(∀c o,s.heap.get? c=some o->h'.get? c=some o)->Q (.ref (s.heap.objs.size+4)) {s with heap:=h'}):
  A1 prog w A (call (.type "zip") [.ref l1,.ref l2]) Q E s:=by
 refine Qha F.called_zip (by decide) (F.typeCall_zip_2 _ _) (F.newCall_zip_2 _ _) (fun J=>F.args_object_init_3 J _ _) F.entry_zip_new (Ja b1 b2 l1 l2 xs ys) ⟨D,O,?_⟩;have q:(hz1 b1 s.heap l1).objs.size=s.heap.objs.size+1:=Qb1 ..;have G:(hz2 b1 b2 s.heap l1 l2).objs.size=s.heap.objs.size+2:=by unfold hz2;rw[Qb1,q]
 have C:(hz3 b1 b2 s.heap l1 l2).objs.size=s.heap.objs.size+3:=by unfold hz3;rw[Qb1,G]
 have Y:(hz4 b1 b2 s.heap l1 l2).objs.size=s.heap.objs.size+4:=by unfold hz4;rw[Qb1,C]
 have I:(hz5 b1 b2 s.heap l1 l2).get? (hz4 b1 b2 s.heap l1 l2).objs.size=some (zO .none false (hz2 b1 b2 s.heap l1 l2).objs.size (hz3 b1 b2 s.heap l1 l2).objs.size):=Qao _ rfl;have g4:(hz5 b1 b2 s.heap l1 l2).get? (hz3 b1 b2 s.heap l1 l2).objs.size=some {cls:=.type "tuple",data:=.seq #[.none,.none]}:=Qab _ (Qao _ rfl);have Z:(hz5 b1 b2 s.heap l1 l2).get? (hz2 b1 b2 s.heap l1 l2).objs.size=some {cls:=.type "tuple",data:=.seq #[.ref s.heap.objs.size,.ref (hz1 b1 s.heap l1).objs.size]}:=Qab _ (Qab _ (Qao _ rfl));have g2:(hz5 b1 b2 s.heap l1 l2).get? (hz1 b1 s.heap l1).objs.size=some (itO b2 l2):=Qab _ (Qab _ (Qab _ (Qao _ rfl)));have g1:(hz5 b1 b2 s.heap l1 l2).get? s.heap.objs.size=some (itO b1 l1):=Qab _ (Qab _ (Qab _ (Qab _ (Qao _ rfl))));rw[G,C,Y]at I;rw[q,G]at Z;rw[C]at g4;rw[q]at g2;rw[Y];exact⟨⟨_,I,rfl⟩,h _ ⟨⟨_,_,I,.inl rfl⟩,Z,⟨_,_,g4⟩,xD g1,xD g2⟩ fun c o x=>
  Qab _ (Qab _ (Qab _ (Qab _ (Qab _ x))))⟩
theorem St.other{b1 b2:Bool}{z i1 i2 l1 l2:Au}{h h':Heap}(D:Ap z f L i1 i2)(S:St b1 b2 z f L i1 i2 l1 l2 i n h){f0:As}(hz:h'.get? z=some (zO f0 l f L))(C:F0 f0)(q:Heap.SameBut z h h'):St b1 b2 z f L i1 i2 l1 l2 i n h':=
 ⟨⟨f0,l,hz,C⟩,q.extBut _ _ D.TIz S.I,(let⟨a,b,e⟩:=S.O;⟨a,b,q.extBut _ _ D.TOz e⟩),S.n1.mv fun o e=>q.extBut _ _ D.i1z e,S.n2.mv fun o e=>q.extBut _ _ D.i2z e⟩
def go_any{b1 b2:Bool}{z i2 l1 l2 T:Au}{tg:Av}{Q:Unit->Shared->Prop}(D:Ap z a f L i2)(S:St b1 b2 z a f L i2 l1 l2 i M s.heap)
  (h:∀h',St b1 b2 z a f L i2 l1 l2 i M h'->Heap.SameBut z s.heap h'->Q () {s with heap:=h'}):A1 prog w A (letOwnedTupleGo tg (.ref z) (.ref T)) Q E s:=by
 have F:Q () s:=h s.heap S ⟨rfl,fun _ _=>rfl⟩;obtain⟨f0,G,hz,I⟩:=id S.z;have tup:A1 prog w A (do
   let o <-load z
   match o.cls,o.data with
   |.type n,.fields vs=>
    if["enumerate","zip","dict_itemiterator","dict_reverseitemiterator","odict_iterator","itertools.zip_longest","itertools.pairwise"].contains n&&vs[0]? == some (rawInt T)then
     rule "for.unpacks-the-owned-tuple"
     updateField z 0 .none
   |_,_=>pure ()) Q E s:=by
  refine Qaa (wpAny_load hz ?_);show wpAny _ _ (if(["enumerate","zip","dict_itemiterator","dict_reverseitemiterator","odict_iterator","itertools.zip_longest","itertools.pairwise"].contains "zip" && (#[f0,.bool G,.bool false,.ref a,.ref f]:Ah)[0]? == some (rawInt T))=true then _ else _) Q E s;split
  ·refine Qaa (Qdk ?_);exact Qb6 hz (by simp) fun h' C q=>h h' (S.other D (f0:=.none) C (.inl rfl) q) q
  ·exact Qae F
 cases tg<;>first
  |exact tup
  |exact Qae F
end
end ZpT
namespace L2
open ZpT (St Ap Of SeqAt ZM)
def Itz(K:Af)(b1 b2:Bool)(a1 a2:Au):It:=
  ⟨fun i H=>∃xs ys x y,SqB K b1 H a1 xs/\SqB K b2 H a2 ys/\xs[i]?=some x/\ys[i]?=some y,
   fun i H v H'=>∃p,H p=none/\v=.ref p/\∀xs ys x y,SqB K b1 H a1 xs->SqB K b2 H a2 ys->xs[i]?=some x->ys[i]?=some y->H'=upd H p (.tup [x,y]),
   fun i H=>∃xs ys,SqB K b1 H a1 xs/\SqB K b2 H a2 ys/\(xs.length<=i\/ys.length<=i)⟩
def Gw{tg:Av}{b1 b2:Bool}{z i2 a1 a2:Au}(D:Ap z a f L i2)(D1:Of z f L i2 a1)(D2:Of z f L i2 a2):
  Turn P w K tg (Itz K b1 b2 a1 a2) [z,a,f,L,i2] z (fun i h=>ZpT.St b1 b2 z a f L i2 a1 a2 i i h)where
 mem:=by simp
 obj:=fun i h st b C=>by
  obtain⟨⟨f0,fb,hz,Y⟩,F,⟨x,y,G⟩,n1,n2⟩:=st;simp only[Qaq,Qbo,Qem]at C;rcases C with rfl|rfl|rfl|rfl|rfl
  ·exact⟨_,hz,fun v q=>by
    have q':Data.fields _=Data.cell v:=q;cases q'⟩
  ·grind
  ·grind
  ·exact n1.ob
  ·exact n2.ob
 keep:=fun i h h' st k=>by
  obtain⟨⟨f0,fb,hz,Y⟩,F,⟨x,y,G⟩,n1,n2⟩:=st;exact⟨⟨f0,fb,k z (by simp) _ hz,Y⟩,k a (by simp) _ F,⟨x,y,k f (by simp) _ G⟩,n1.mv fun o e=>k L (by simp) o e,n2.mv fun o e=>k i2 (by simp) o e⟩
 item:=by
  intro X hP hw hK hc i pins s σ H E I Y st hg;subst hP hw hK;obtain⟨xs,ys,x,y,q1,q2,hx,hy⟩:=hg;obtain⟨its1,r1,p1,z1⟩:=I.sqB q1;obtain⟨its2,r2,p2,z2⟩:=I.sqB q2;obtain⟨u1,hu1,ru1⟩:=r1.get hx;obtain⟨u2,hu2,ru2⟩:=r2.get hy;have olt:∀b∈[z,a,f,L,i2],b<s.heap.objs.size:=fun b C=>by
   obtain⟨⟨f0,fb,hz,Y⟩,F,⟨x,y,G⟩,n1,n2⟩:=st;simp only[Qaq,Qbo,Qem]at C;rcases C with rfl|rfl|rfl|rfl|rfl
   ·exact Qar hz
   ·exact Qar F
   ·exact Qar G
   ·obtain⟨o,ho,_⟩:=n1.ob;exact Qar ho
   ·obtain⟨o,ho,_⟩:=n2.ob;exact Qar ho
  refine ZpT.next_item D D1 D2 st p1 p2 (x:=u1) (y:=u2) (by simpa using hu1) (by simpa using hu2) fun h' st' hT hk=>?_;refine⟨_,rfl,ZpT.go_any (s:={s with heap:=h'}) D st' fun h2 st2 hs2=>?_⟩;have J:Heap.SameBut z h' h2:=hs2;have I1:Inv X pins σ (upd H s.heap.objs.size (.tup [x,y])) {s with heap:=s.heap.push {cls:=.type "tuple",data:=.seq #[u1,u2]},toks:=s.toks}:=
   I.laid (fun b o y=>Qab _ y) (Qah _) ⟨uy,[u1,u2],.cons ru1 (.cons ru2 .nil),wG.new _ _⟩
  have Z:∀b∈[z,a,f,L,i2],xl X pins (upd H s.heap.objs.size (.tup [x,y])) b:=fun b C=>by
   obtain⟨a0,ar⟩:=Y b C;exact⟨by rw[Zk (Qbi (olt b C))];exact a0,ar⟩
  have I2:Inv X pins σ (upd H s.heap.objs.size (.tup [x,y])) {s with heap:=h2,toks:=s.toks}:=by
   refine Xk (s:={s with heap:=s.heap.push {cls:=.type "tuple",data:=.seq #[u1,u2]},toks:=s.toks}) I1 Z fun b o C q=>?_;have O:b≠z:=fun e=>C (by simp[e]);rcases Qf1 q with⟨rfl,rfl⟩|q
   ·exact(J.2 _ O).trans hT
   ·exact(J.2 b O).trans (hk b o O (fun e=>C (by simp[e])) (fun e=>C (by simp[e])) (fun e=>C (by simp[e])) q)
  refine⟨.ref s.heap.objs.size,_,I2,rfl,⟨_,I.hok.fresh (Qah _),rfl,fun xs' ys' x' y' q1' q2' hx' hy'=>?_⟩,st2,fun b C=>(Z b C).1⟩;rw[I.sqB_inj q1' q1,hx]at hx';rw[I.sqB_inj q2' q2,hy]at hy';cases hx';cases hy';rfl
 done:=by
  intro X hP hw hK hc i pins s σ H E I Y st hg;subst hP hw hK;obtain⟨xs,ys,q1,q2,hx⟩:=hg;obtain⟨its1,r1,p1,z1⟩:=I.sqB q1;obtain⟨its2,r2,p2,z2⟩:=I.sqB q2;have e1:=r1.length;have e2:=r2.length;refine ZpT.next_end (I.ok.hd hc) D D1 D2 st p1 p2 (by simp;lia) fun h' hk=>⟨rfl,?_⟩;exact Xk (t':=s.toks) I Y fun b o C q=>hk b o (fun e=>C (by simp[e])) (fun e=>C (by simp[e])) (fun e=>C (by simp[e])) (fun e=>C (by simp[e])) q
 self:=fun _ _ _ _ _ st h=>let⟨_,_,hz,_⟩:=st.z;ZpT.iter_self hz h
def bt_zip:bootBuiltins "zip" = some (.type "zip"):=by decide +kernel
end L2
namespace L2
open ZpT (Ap Of SeqAt ZM)
def Zbm:typeLookup (.type "zip") "__len__" = pure none:=by kernel_rfl
def gq:typeLookup (.type "zip") "__length_hint__" = pure none:=by kernel_rfl
def Z8.sqB{H':Hp}{xs:A0}{b:Bool}(e:Z8 H H')(h:SqB K b H a xs):SqB K b H' a xs:=by
 cases b
 ·exact(Z8.seq e (show SqL K H a xs from h):SqL K H' a xs)
 ·rcases(show SqT K H a xs from h)with h|h
  ·refine(show SqT K H' a xs from .inl ?_);rcases h with h|⟨o,h⟩
   ·exact .inl (e _ _ h)
   ·exact .inr ⟨o,e _ _ h⟩
  ·exact(show SqT K H' a xs from .inr h)
def Inv.adopt{X:Cx}{σ:St}{o:HO}(I:Inv X r σ H s)(f:xl X r H a)(ob:Yo X.prog X.w (upd H a o) s.heap a o):Inv X r σ (upd H a o) s:=by
 have ne:∀{b u},H b=some u->b≠a:=fun e z=>by rw[z,f.1]at e;cases e
 refine I.step (g':=s.gens) (t':=s.toks) (d':=s.drawn) (h':=s.heap) (ch:=[a]) (fun b C=>?_) (fun b o _ _ _ e _=>e) (fun b o _ _ _ e _=>⟨o.slots,e⟩) (fun b u C _ F=>?_) (fun b o _ e=>⟨o,e⟩) (fun b xs e=>?_) (fun b o u e=>?_) (fun b ps e=>⟨#[],?_⟩) (fun m D=>D) (fun b u e=>?_) I.bare
 ·have:b=a:=by simpa using C
  subst this;exact⟨f.2.2.2.1,f.2.1,f.2.2.2.2.1,f.2.2.2.2.2⟩
 ·rw[Zk (fun z=>C (by simp[z]))];exact F
 ·rw[Zk (ne e)];exact e
 ·rw[Zk (ne e)];exact e
 ·rw[Zk (ne e),e];simp
 ·by_cases C:b=a
  ·subst C;rw[Za]at e;cases e;exact ob
  ·rw[Zk C]at e;exact(I.hok b u e).stay (fun c v _ q=>q) (fun c q=>by rw[Zk (ne q)];exact q) fun c xs q=>by rw[Zk (ne q)];exact q
def XF(H:Hp)(ps:List (V×V))(q:A0):Prop:=Paired (fun(p:V×V) (r:V)=>∃a,r=.ref a/\H a=some (.tup [p.1,p.2])) ps q
def XF.same{H H':Hp}{ps:List (V×V)}{C:A0}(h:XF H ps C)(s:Z8 H H'):XF H' ps C:=Paired.mapP h fun _ _ ⟨a,e,q⟩=>⟨a,e,s _ _ q⟩
theorem XF.snoc{ps:List (V×V)}(h:XF H ps u){x:V}(e:H a=some (.tup [x,y])):XF H (ps++[(x,y)]) (u++[.ref a]):=by
 induction h with
 |nil=>exact .cons ⟨a,rfl,e⟩ .nil
 |cons r _ q=>exact .cons r q
def XF.len{ps:List (V×V)}(h:XF H ps u):ps.length=u.length:=Qf6 h
section
variable {X:Cx}{A:Ao}{b1 b2:Bool}{z TI TO i1 i2 a1 a2 S:Au}{xs ys:A0}{pins:Ac}{σ:St}{R:Result->Shared->Prop}
theorem Zhn(hh:A.handled=none)(D:Ap z TI TO i1 i2)(D1:Of z TO i1 i2 a1)(D2:Of z TO i1 i2 a2)(G:S∉[z,TI,TO,i1,i2]):∀(m i:Nat) (s:Aq) (H:Hp) (zs:A0) (J:Ag) (c:Nat),min xs.length ys.length-i=m->i<=min xs.length ys.length->
  Inv X pins σ H s->(∀b∈[z,TI,TO,i1,i2],xl X pins H b)->xl X pins H S->ZpT.St b1 b2 z TI TO i1 i2 a1 a2 i i s.heap->SqB X.K b1 H a1 xs->SqB X.K b2 H a2 ys->
  s.heap.get? S=some {cls:=.type "list",dict:=none,data:=.seq J.toArray c,slots:=#[]}->Vals zs J->XF H ((xs.zip ys).take i) zs->
  (∀s' H' O its' c',Inv X pins σ H' s'->xl X pins H' S->Z8 H H'->s'.heap.get? S=some {cls:=.type "list",dict:=none,data:=.seq its'.toArray c',slots:=#[]}->Vals O its'->XF H' (xs.zip ys) O->R (.ok (.ret .none)) s')->
  codeAny (model X.prog X.w) A (.builtin "list.extend.loop" ⟨[.ref S,.ref z,.none],[]⟩) R s:=by
 intro m
 induction m with
 |zero=>
  intro i s H zs J c hm hi I hf fS st q1 q2 hS rv tw hR;obtain⟨its1,r1,p1,z1⟩:=I.sqB q1;obtain⟨its2,r2,p2,z2⟩:=I.sqB q2;have e1:=r1.length;have e2:=r2.length;refine Qco F.entry_extend_loop ?_;rw[Qea Qeo _];show wpAny _ A.in1 (pyNext (.ref z) >>= _) _ _ s;refine Qaa (ZpT.next_end hh D D1 D2 st p1 p2 (by simp;lia) fun h' hk=>?_);have I':=Xk (t':=s.toks) I hf fun b o C q=>hk b o (fun e=>C (by simp[e])) (fun e=>C (by simp[e])) (fun e=>C (by simp[e])) (fun e=>C (by simp[e])) q;refine Qae (hR _ H zs J c I' fS (Z8.refl H) (hk S _ (fun e=>G (by simp[e])) (fun e=>G (by simp[e])) (fun e=>G (by simp[e])) (fun e=>G (by simp[e])) hS) rv ?_);rw[Qce (by rw[Qcj];lia)]at tw;exact tw
 |succ m ih=>
  intro i s H zs J c hm hi I hf fS st q1 q2 hS rv tw hR;obtain⟨its1,r1,p1,z1⟩:=I.sqB q1;obtain⟨its2,r2,p2,z2⟩:=I.sqB q2;have hx:=Qac (show i<xs.length by lia);have hy:=Qac (show i<ys.length by lia);obtain⟨u1,hu1,ru1⟩:=r1.get hx;obtain⟨u2,hu2,ru2⟩:=r2.get hy;have olt:∀b∈[z,TI,TO,i1,i2],b<s.heap.objs.size:=fun b C=>by
   obtain⟨o,ho,_⟩:=(Gw (P:=X.prog) (w:=X.w) (K:=X.K) (tg:=.Name "x" ⟨0,0,0,0⟩) (b1:=b1) (b2:=b2) D D1 D2).obj _ _ st b C;exact Qar ho
  have Slt:S<s.heap.objs.size:=Qar hS;refine Qco F.entry_extend_loop ?_;rw[Qea Qeo _];show wpAny _ A.in1 (pyNext (.ref z) >>= _) _ _ s;refine Qaa (ZpT.next_item D D1 D2 st p1 p2 (x:=u1) (y:=u2) (by simpa using hu1) (by simpa using hu2) fun h' st' hT hk=>?_);have I1:Inv X pins σ (upd H s.heap.objs.size (.tup [xs[i],ys[i]])) {s with heap:=s.heap.push {cls:=.type "tuple",data:=.seq #[u1,u2]},toks:=s.toks}:=
   I.laid (fun b o y=>Qab _ y) (Qah _) ⟨uy,[u1,u2],.cons ru1 (.cons ru2 .nil),wG.new _ _⟩
  have fpn:∀{b},b<s.heap.objs.size->xl X pins H b->xl X pins (upd H s.heap.objs.size (.tup [xs[i],ys[i]])) b:=fun C ⟨a0,ar⟩=>⟨by rw[Zk (Qbi C)];exact a0,ar⟩;have fp':∀b∈[z,TI,TO,i1,i2],xl X pins (upd H s.heap.objs.size (.tup [xs[i],ys[i]])) b:=fun b C=>fpn (olt b C) (hf b C);have Y:H s.heap.objs.size=none:=I.hok.fresh (Qah _);have sH:Z8 H (upd H s.heap.objs.size (.tup [xs[i],ys[i]])):=fun b o e=>by rw[Zk (Zm e Y)];exact e
  have I2:Inv X pins σ (upd H s.heap.objs.size (.tup [xs[i],ys[i]])) {s with heap:=h',toks:=s.toks}:=by
   refine Xk (s:={s with heap:=s.heap.push {cls:=.type "tuple",data:=.seq #[u1,u2]},toks:=s.toks}) I1 fp' fun b o C q=>?_;rcases Qf1 q with⟨rfl,rfl⟩|q
   ·exact hT
   ·exact hk b o (fun e=>C (by simp[e])) (fun e=>C (by simp[e])) (fun e=>C (by simp[e])) (fun e=>C (by simp[e])) q
  have Z:=hk S _ (fun e=>G (by simp[e])) (fun e=>G (by simp[e])) (fun e=>G (by simp[e])) (fun e=>G (by simp[e])) hS;have lz:J.length=i:=by
   have e1:=tw.len;have e2:=rv.length;rw[Qas,Qcj]at e1;lia
  show wpAny _ A.in1 (updateSeq S (·.push (.ref s.heap.objs.size)) >>= _) _ _ _;refine Qaa (Qdr Z rfl (Qae ⟨Qdo Qeo _,?_⟩) (by rw[Qax];lia) (by show(J.toArray.push _).size<=sizeLine+1;rw[Array.size_push,Qax];lia));have oth:∀b o,b≠S->h'.get? b=some o->(h'.update S (Obj.mapSeq (·.push (Value.ref s.heap.objs.size)))).get? b=some o:=fun b o C e=>(Qbw _ _ (Qd8 C)).trans e;have hS2:=Qbk (Obj.mapSeq (·.push (Value.ref s.heap.objs.size))) Z rfl;have fS':=fpn Slt fS;have I3:Inv X pins σ (upd H s.heap.objs.size (.tup [xs[i],ys[i]])) {s with heap:=h'.update S (Obj.mapSeq (·.push (Value.ref s.heap.objs.size))),toks:=s.toks}:=
   Xk (s:={s with heap:=h',toks:=s.toks}) (fp:=[S]) I2 (fun b C=>by have:b=S:=(by simpa using C);subst this;exact fS') fun b o C q=>oth b o (fun e=>C (by simp[e])) q
  have st3:=(Gw (P:=X.prog) (w:=X.w) (K:=X.K) (tg:=.Name "x" ⟨0,0,0,0⟩) (b1:=b1) (b2:=b2) D D1 D2).keep (i+1) h' (h'.update S (Obj.mapSeq (·.push (Value.ref s.heap.objs.size)))) st' fun b C o e=>oth b o (fun z=>G (by rw[<-z];exact C)) e;refine ih (i+1) _ (upd H s.heap.objs.size (.tup [xs[i],ys[i]])) (zs++[.ref s.heap.objs.size]) (J++[.ref s.heap.objs.size]) _ (by lia) (by lia) I3 fp' fS' st3 (sH.sqB q1) (sH.sqB q2) (by rw[<-List.push_toArray];exact hS2) (rv.append (.cons (show RelV (.ref s.heap.objs.size) (.ref s.heap.objs.size)from rfl) .nil)) ?_ fun s' H' O its' c' J1 J2 J3 J4 J5 J6=>hR s' H' O its' c' J1 J2 (sH.trans J3) J4 J5 J6;have hzi:(xs.zip ys)[i]?=some (xs[i],ys[i]):=by rw[Qcq];exact⟨hx,hy⟩
  rw[take_snoc hzi];exact(tw.same sH).snoc Za
end
end L2
namespace L2
open ZpT (Ap Of SeqAt ZM)
def zfp(n:Nat):List Au:=[n+4,n+2,n+3,n,n+1]
def zap(n:Nat):Ap (n+4) (n+2) (n+3) n (n+1):=by constructor<;>(lia)
def zof{l:Nat}(h:l<n):Of (n+4) (n+3) n (n+1) l:=by constructor<;>(lia)
section
variable {X:Cx}{e1 e2:Av}{t:TA}{p pos:Pos}{b1 b2:Bool}
def Zjx{b:Bool}{h:Heap}{l:Au}{xs:Ah}(q:SeqAt b h l xs):l<h.objs.size:=by
 cases b
 ·obtain⟨o,C,_⟩:=(show h.IsList l xs from q);exact Qar C
 ·obtain⟨o,C,_⟩:=(show h.IsTuple l xs from q);exact Qar C
def uT {pins:Ac}    {RR:Au->Addr->List V->List V->Hp->Prop}  (hg:Gl X "zip") (hm:X.mg "zip" = none) (ha:QA X [e1,e2] t) (J:[e1,e2].all ZX=true) (I:Inv X pins c H s)
  (h:t c H fun vs H1=>∃a1 a2 xs ys,vs=[.ref a1,.ref a2]/\SqB X.K b1 H1 a1 xs/\SqB X.K b2 H1 a2 ys/\RR a1 a2 xs ys H1)
  (fin:∀a1 a2 xs ys n H1 q,Inv X pins c H1 q->SqB X.K b1 H1 a1 xs->SqB X.K b2 H1 a2 ys->RR a1 a2 xs ys H1->a1<n->a2<n->ZpT.St b1 b2 (n+4) (n+2) (n+3) n (n+1) a1 a2 0 0 q.heap->(∀b∈zfp n,xl X pins H1 b)->Q (.ref (n+4)) q):
  A2 X (eval (.Call (.Name "zip" p) [e1,e2] [] pos) X.env) Q X.xe s:=by
 rw[Qdm,Qb5]at J;refine Qc0 (JF I hg hm bt_zip ?_);refine Qci (thn (ha.out pos pins s c H _ I h) fun us q ⟨vs,H1,D,r1,F⟩=>?_) (Zz J.1) (XA J.2);obtain⟨a1,a2,xs,ys,rfl,F,Y,r⟩:=F;obtain⟨u1,u2,rfl,O,G⟩:=Zhm r1;cases O;cases G;obtain⟨its1,v1,p1,z1⟩:=D.sqB F;obtain⟨Z,v2,p2,z2⟩:=D.sqB Y;refine ZpT.call_new p1 p2 fun h' st hk=>?_;refine fin a1 a2 xs ys q.heap.objs.size H1 _ (D.kept (t':=q.toks) hk) F Y r (Zjx p1) (Zjx p2) st fun b hb=>?_;have C:q.heap.objs.size<=b:=by
  simp only[zfp,Qaq,Qbo,Qem]at hb;rcases hb with rfl|rfl|rfl|rfl|rfl
  ·exact Qfx _ _
  ·exact Qfx _ _
  ·exact Qfx _ _
  ·exact Qah _
  ·exact Qfx _ _
 exact D.fpOk C (D.hok.fresh C)
def iZip2(K:Af)(b1 b2:Bool)(t:TA):TI:=fun σ H R=>t σ H fun vs H1=>∃a1 a2 xs ys,vs=[.ref a1,.ref a2]/\SqB K b1 H1 a1 xs/\SqB K b2 H1 a2 ys/\R (Itz K b1 b2 a1 a2) H1
def Zjy {tg:Av} (F:Gl X "zip") (J:X.mg "zip" = none) (G:QA X [e1,e2] t) (q:[e1,e2].all ZX=true:=by rfl):QI X tg (.Call (.Name "zip" p) [e1,e2] [] pos) (iZip2 X.K b1 b2 t):=by
 refine⟨fun pins s σ H R I h=>?_⟩;refine uT (b1:=b1) (b2:=b2) (RR:=fun a1 a2 _ _ H1=>R (Itz X.K b1 b2 a1 a2) H1) F J G q I h fun a1 a2 xs ys n H1 Y D q1 O r l1 l2 st C=>?_;obtain⟨f0,Z,hz,_⟩:=id st.z;exact ZpT.iter_self hz ⟨n+4,zfp n,_,_,H1,rfl,D,Gw (zap n) (zof l1) (zof l2),st,C,r⟩
def tLz(K:Af)(b1 b2:Bool)(t:TA):TE:=fun σ H Q=>t σ H fun vs H1=>∃a1 a2 xs ys,vs=[.ref a1,.ref a2]/\SqB K b1 H1 a1 xs/\SqB K b2 H1 a2 ys/\∀l zs H',H1 l=none->Z8 H1 H'->XF H' (xs.zip ys) zs->H' l=some (.lst zs)->Q (.ref l) H'
def Zbn {pos2:Pos} (hg:Gl X "zip") (hm:X.mg "zip" = none) (hgl:Gl X "list") (hml:X.mg "list" = none) (hc:X.calm=true) (ha:QA X [e1,e2] t) (hp:[e1,e2].all ZX=true:=by rfl):
  QE X (.Call (.Name "list" q) [.Call (.Name "zip" p) [e1,e2] [] pos] [] pos2) (tLz X.K b1 b2 t):=by
 refine⟨fun pins s σ H Q I h=>?_⟩;have hs:starEach [.Call (.Name "zip" p) [e1,e2] [] pos] X.env=[(false,eval (.Call (.Name "zip" p) [e1,e2] [] pos) X.env)]:=by rfl
 refine Qc0 (JF I hgl hml wN ?_);refine Qci ?_ hs rfl;rw[hs];refine Qcs (uT (b1:=b1) (b2:=b2) (RR:=fun a1 a2 xs ys H1=>∀l zs H',H1 l=none->Z8 H1 H'->XF H' (xs.zip ys) zs->H' l=some (.lst zs)->Q (.ref l) H') hg hm ha hp I h fun a1 a2 xs ys n H1 C I1 q1 q2 k l1 l2 st hf=>?_);refine Qdy ?_;have hh:X.A.handled=none:=I1.ok.hd hc;have J:H1 C.heap.objs.size=none:=I1.hok.fresh (Qah _);have Y:C.heap.objs.size∉zfp n:=fun D=>by
  obtain⟨o,ho,_⟩:=(Gw (P:=X.prog) (w:=X.w) (K:=X.K) (tg:=.Name "x" ⟨0,0,0,0⟩) (b1:=b1) (b2:=b2) (zap n) (zof l1) (zof l2)).obj _ _ st _ D;exact Qb4 _ (Qar ho)
 refine callType_codes (Q₁:=fun obj O=>obj=.ref C.heap.objs.size/\O={C with heap:=C.heap.push {cls:=.type "list",data:=.seq #[]}}) F.called_list (F.typeCall_list_1 _) F.entry_list_init (code_list_new _ ⟨rfl,rfl⟩) fun obj O h₁=>?_;obtain⟨rfl,rfl⟩:=h₁;have hS:(C.heap.push {cls:=.type "list",data:=.seq #[]}).get? C.heap.objs.size=some {cls:=.type "list",data:=.seq #[]}:=Qao _ rfl;refine⟨⟨_,hS,rfl⟩,F.args_list_init_2 _ _,?_⟩;have fS:xl X pins H1 C.heap.objs.size:=I1.fpOk (Qah _) J;have I2:Inv X pins σ H1 {C with heap:=C.heap.push {cls:=.type "list",data:=.seq #[]},toks:=C.toks}:=I1.kept (t':=C.toks) fun b o e=>Qab _ e;have T0:=Gw (P:=X.prog) (w:=X.w) (K:=X.K) (tg:=.Name "x" ⟨0,0,0,0⟩) (b1:=b1) (b2:=b2) (zap n) (zof l1) (zof l2);have st2:=T0.keep 0 C.heap (C.heap.push {cls:=.type "list",data:=.seq #[]}) st fun b _ o e=>Qab _ e;generalize hSe:C.heap.objs.size=S at *;generalize C.heap.push {cls:=.type "list",data:=.seq #[]}=h2 at *;refine Qaa ?_;refine Qaa (Qcd (s:={C with heap:=h2}) hS rfl (Qae ?_));refine Qaa (Qdr (s:={C with heap:=h2}) hS rfl ?_);have chg:∀{s':Aq} {H':Hp} {f:Ah->Array As},Inv X pins σ H' s'->xl X pins H' S->ZpT.St b1 b2 (n+4) (n+2) (n+3) n (n+1) a1 a2 0 0 s'.heap->Inv X pins σ H' {s' with heap:=s'.heap.update S (Obj.mapSeq f),toks:=s'.toks}/\ZpT.St b1 b2 (n+4) (n+2) (n+3) n (n+1) a1 a2 0 0 (s'.heap.update S (Obj.mapSeq f)):=fun{s' H' f} I' f' st'=>by
  have oth:∀b o,b≠S->s'.heap.get? b=some o->(s'.heap.update S (Obj.mapSeq f)).get? b=some o:=fun b o D e=>(Qbw _ _ (Qd8 D)).trans e;refine⟨Xk (t':=s'.toks) (fp:=[S]) I' (fun b D=>?_) fun b o D zq16=>oth b o (fun e=>D (by simp[e])) zq16,T0.keep 0 _ _ st' fun b D o e=>oth b o (fun z=>Y (by rw[<-z];exact D)) e⟩;have:b=S:=by simpa using D
  subst this;exact f'
 obtain⟨I3,st3⟩:=chg (f:=fun _=>#[]) I2 fS st2;have hS3:=Qbk (Obj.mapSeq (fun _=>(#[]:Ah))) hS rfl;refine Qaa (Qev ?_);obtain⟨f0,fb,hz3,_⟩:=id st3.z;have Z:Shared.TypeIs {C with heap:=h2.update S (Obj.mapSeq (fun _=>(#[]:Ah)))} (.ref (n+4)) "zip" :=⟨_,hz3,rfl⟩;have hSI:S≠n+4:=fun e=>Y (by rw[e];simp[zfp]);refine Qaa (Qes Z ?_);have g1:Builtin.List.listSameRef (.ref S) (.ref (n+4))=false:=by simp[Builtin.List.listSameRef,hSI]
 have g2:(Value.type "zip" == Value.type "list")=false:=by decide
 have g3:(Value.type "zip" == Value.type "tuple")=false:=by decide
 simp only[g1,g2,g3,Bool.or_false,Qck,if_false];refine Qaa (ZpT.iter_self hz3 ?_);refine Qaa (Qcl ?_);refine Qaa (Qdq Z Zbm ?_);refine Qaa (Qdq Z gq ?_);refine Qae ?_;refine Qaa (Qdk ?_);refine Qaa ?_;refine Qaa (Qdr hS3 rfl ?_);obtain⟨I4,st4⟩:=chg (f:=(·.push Value.none)) I3 fS st3;have hS4:=Qbk (Obj.mapSeq (·.push Value.none)) hS3 rfl;refine Qdr (hz:=by seq_fits) hS4 rfl ?_;obtain⟨I5,st5⟩:=chg (f:=(·.pop)) I4 fS st4;have hS5:=Qbk (Obj.mapSeq (·.pop)) hS4 rfl;refine Qae ⟨Qdo Qeo _,Zhn (A:=X.A.in1) (xs:=xs) (ys:=ys) hh (zap n) (zof l1) (zof l2) Y _ 0 _ H1 [] [] _ rfl (Qbp _) I5 hf fS st5 q1 q2 hS5 .nil .nil fun s' H' G its' c' J1 J2 J3 J4 J5 J6=>?_⟩;have hz:G.length<=sizeLine:=by
  obtain⟨_,_,_,D⟩:=I1.sqB q1;rw[<-J6.len,Qcj];lia
 have sS:Z8 H' (upd H' S (.lst G)):=fun b o e=>by rw[Zk (Zm e J2.1)];exact e
 refine⟨rfl,.ref S,_,J1.adopt (o:=.lst G) J2 ⟨hz,its',c',J5,J4⟩,rfl,k S G _ J (J3.trans sS) (J6.same sS) Za⟩
end
end L2
namespace L2
def Zho:QE X (.Dict [] [] p) Zju:=⟨Zhf⟩
def PP1(X:Cx)(pos:Pos)(k v:Av)(tk tv:TE):Prop:=∀pins s σ H (R:V->V->Hp->Prop),Inv X pins σ H s->(tk σ H fun x H1=>tv σ H1 fun y H2=>R x y H2)->
 A2 X (evalPairs (pairTrees [some k] [v] X.env pos)) (fun ws q=>∃x y u r H2,ws=[(u,r)]/\Inv X pins σ H2 q/\RelV x u/\RelV y r/\R x y H2) X.xe s
def pp1{k v:Av}{tk:TE}(hk:QE X k tk)(D:QE X v d):PP1 X p k v tk d:=by
 intro pins s σ H R I q;refine pairTrees_cons_walk (thn (hk.out pins s σ H _ I q) fun u G ⟨x,H1,J,Z,Y⟩=>thn (D.out pins G σ H1 _ J Y) fun r s2 ⟨y,H2,F,O,C⟩=>pairTrees_nil_walk ⟨x,y,u,r,H2,rfl,F,Z,O,C⟩)
theorem Zl0{b1 b2:Bool}{xs ys:A0}{g:TG}{σ:St}(q:Nat->St->Hp->Prop)(J:q 0 σ H)(D:∀i σ H,q i σ H->SqB K b1 H a xs/\SqB K b2 H f ys)
  (Y:∀i x y p σ H,xs[i]?=some x->ys[i]?=some y->q i σ H->H p=none->g (.ref p) σ (upd H p (.tup [x,y])) fun C H2=>A {E with nx:=q (i+1),ct:=q (i+1),bk:=E.nx} C H2) (I:∀σ H,q (xs.zip ys).length σ H->E.nx σ H):
  Zgm (Itz K b1 b2 a f) g A E σ H:=
 qH (xs.zip ys).length q J (fun i σ H hi p=>by
  obtain⟨G,F⟩:=D i σ H p;have hz:(xs.zip ys).length=min xs.length ys.length:=Qcj;have l1:=Qac (show i<xs.length by lia);have l2:=Qac (show i<ys.length by lia);refine⟨⟨xs,ys,_,_,G,F,l1,l2⟩,fun x H' y=>?_⟩;obtain⟨c,O,rfl,e⟩:=y;rw[e xs ys _ _ G F l1 l2];exact Y i _ _ c σ H l1 l2 p O) fun σ H p=>⟨⟨xs,ys,(D _ σ H p).1,(D _ σ H p).2,by rw[Qcj];lia⟩,I σ H p⟩
def Zhp{b1 b2:Bool}{xs ys:A0}{is:Aj}{σ:St}{Q:VK}(q:Nat->List V->Hp->Prop)(h0:q 0 [] H)(I:∀i zs H,q i zs H->zs.length<=sizeLine)(hq:∀i zs H,q i zs H->SqB K b1 H a xs/\SqB K b2 H f ys)
  (O:∀i x y p zs H (R:A0->Hp->Prop),(∀zs H,q (i+1) zs H->R zs H)->xs[i]?=some x->ys[i]?=some y->q i zs H->H p=none->C (qM is σ (some (.ref p))) (upd H p (.tup [x,y])) fun b H2=>if b=true then d (qM is σ (some (.ref p))) H2 fun y H3=>R (zs++[y]) H3 else R zs H2)
  (Z:∀zs H,q (xs.zip ys).length zs H->∀p,H p=none->Q (.ref p) (upd H p (.lst zs))):
  J9 is C d σ Q (Itz K b1 b2 a f) H:=by
 refine⟨fun i m zs H=>m=(xs.zip ys).length-i/\i<=(xs.zip ys).length/\q i zs H,⟨(xs.zip ys).length,by simp,Qbp _,h0⟩,?_⟩;rintro i m zs H ⟨rfl,hi,p⟩;obtain⟨D,F⟩:=hq i zs H p;have hz:(xs.zip ys).length=min xs.length ys.length:=Qcj
 by_cases G:i<(xs.zip ys).length
 ·have l1:i<xs.length:=by lia
  have l2:i<ys.length:=by lia
  refine .inr ⟨⟨xs,ys,xs[i],ys[i],D,F,Qac l1,Qac l2⟩,I i zs H p,fun x H' y=>?_⟩;obtain⟨c,hc,rfl,e⟩:=y;rw[e xs ys _ _ D F (Qac l1) (Qac l2)];exact O i _ _ c zs H (fun zs H=>∃J,J<(xs.zip ys).length-i/\(fun i m zs H=>m=(xs.zip ys).length-i/\i<=(xs.zip ys).length/\q i zs H) (i+1) J zs H) (fun zs H Y=>⟨(xs.zip ys).length-(i+1),by lia,rfl,G,Y⟩) (Qac l1) (Qac l2) p hc
 ·have e:i=(xs.zip ys).length:=by lia
  subst e;exact .inl ⟨⟨xs,ys,D,F,by lia⟩,I _ zs H p,Z zs H p⟩
def HT.cat_tup0{prog:An}{A:Ao}{E:Ab}{t b:Au}{ws:Ag}(ht:IsTup s.heap t #[])(hb:IsTup s.heap b ws.toArray)(q:Q (.ref b) s):
  A1 prog w A (binaryOp .Add (.ref t) (.ref b)) Q E s:=by
 obtain⟨⟨cls,dd,data,sl⟩,O,hc,n,Y⟩:=id ht;obtain⟨⟨J,G,data2,F⟩,C,I,Z,D⟩:=id hb;subst hc Y I D;exact concat_meets ⟨_,O,rfl⟩ ⟨_,C,rfl⟩ Qg5 seq_tuple_add Qfn Qfh (Qfc _ _)
  (tuple_addW0 t b #[] ws.toArray n Z dd G sl F rfl) ⟨O,C,q⟩
inductive Zel(x:V)(y:V)(H:Hp)(Q:VK):Prop
 |mk (a b xs ys:_):(x=.ref a)->(y=.ref b)->(H a=some (.tup xs))->(H b=some (.tup ys))->(xs.length+ys.length<=sizeLine)->(∀p H',H' p=some (.tup (xs++ys))->Z8 H H'->Q (.ref p) H')->Zel x y H Q
def rCatG  : R2:=fun x y H Q=>Zel x y H Q
def JZ:OpR X (binaryOp .Add) rCatG:=by
 intro pins s σ H x y v u Q I Z Y h;obtain⟨a,b,xs,ys,rfl,rfl,J,O,hz,q⟩:=h;cases Z;cases Y;obtain⟨its,C,p1,_⟩:=I.tuple (SqT.of J:SqT X.K H a xs);obtain⟨G,D,p2,_⟩:=I.tuple (SqT.of O:SqT X.K H b ys)
 by_cases F:xs=[]
 ·have e:=C.nil_iff.mpr F;subst e F;exact HT.cat_tup0 p1 p2 ⟨.ref b,H,I,rfl,q b H O fun _ _ z=>z⟩
 ·refine HT.cat_tup p1 p2 (fun z=>F (C.nil_iff.mp z)) (fun z=>⟨.ref a,H,I,rfl,q a H ?_ fun _ _ z=>z⟩) (fun z=>?_) (by rw[<-C.length,<-D.length];exact hz)
  ·rw[D.nil_iff.mp z,Qbm];exact J
  ·have hn:=I.hok.fresh (Qah s.heap.objs.size);refine⟨.ref s.heap.objs.size,_,I.laid (t':=s.toks) (o:=.tup (xs++ys)) (fun b ob q=>Qab _ q) (Qah _) ?_,rfl,q _ _ Za fun c o z=>by rw[Zk (fun e=>by rw[e,hn]at z;cases z)];exact z⟩;exact⟨by rw[Qaf];exact hz,_,C.append D,wG.new _ _⟩
open PySem.W (hideAll of_hideAll hideAll_get hideAll_none funFrames_hide)
end L2
namespace L2
abbrev bmVE:Ag:=[.type "ValueError",.type "Exception",.type "BaseException",.type "object"]
open PySem.Calls
open PySem.W
def excMk(K:Frag)(C:Au):Bool:=match K.lookup C with
 |some ⟨.type "type",_,.cls q,sm⟩=>(match q.mro,sm.toList with
  |.ref D::tl,[_,_,_,_,some (.builtin n),_]=>D == C&&(n == "ValueError.__new__" && (!q.hasDel&&tailIn K bmVE tl))
  |_,_=>false)
 |_=>false
end L2
namespace L2
open PySem
def hideG{q:Prop}(h:∀G:Prop,(q->G)->G):q:=h q fun z=>z
theorem len1{P:List m->Prop}(h:∀a,P [a]):∀q:List m,q.length=1->P q
 |[a],_=>h a
theorem len2{P:List m->Prop}(h:∀a b,P [a,b]):∀q:List m,q.length=2->P q
 |[a,b],_=>h a b
theorem len3{P:List m->Prop}(h:∀a b c,P [a,b,c]):∀q:List m,q.length=3->P q
 |[a,b,c],_=>h a b c
theorem len4{P:List m->Prop}(h:∀a b c d,P [a,b,c,d]):∀q:List m,q.length=4->P q
 |[a,b,c,d],_=>h a b c d
theorem len5{P:List m->Prop}(h:∀a b c d e,P [a,b,c,d,e]):∀q:List m,q.length=5->P q
 |[a,b,c,d,e],_=>h a b c d e
theorem walk_X{q:An}{J:(Ae)->Heap->Prop}{K:Params->PySem.W.Frag}{as:List Au}{t:Nat}{r:PySem.W.RowW}{d:DefRec}{D:List (Str×Av)}{run:As->List As->Sem As}
  (e:∀P,as=(K P).map (·.1)) (W:PySem.W.WalkO q N J (PySem.W.InK K) r d D run):PySem.W.WalkX q N J (PySem.W.X.obsZ as) (PySem.W.X.valZ K n t) r d D run:=
 fun w s₀ F mg O G y a o pm Y I dV kV e1 e2 e3 e4 e5 e6 args C as L p l R W' Z=>
  W w s₀ F mg O G (PySem.W.InK.keeps w _ _ (PySem.W.X.z_facts e y).2.1 L.keeps) a o pm Y I dV kV e1 e2 e3 e4 e5 e6 args C as p l R W' Z
def noT(K:Af):Af:=K.filter fun p=>match p.2.cls,p.2.data with
 |.none,.fields _=>false
 |_,_=>true
def noT_ok(K:Af):PySem.W.noTabs (noT K)=true:=by
 unfold PySem.W.noTabs noT;rw[Qb8];intro p q;exact(Qb2.mp q).2
def nodB:Aj->Bool
 |[]=>true
 |a::r=>r.all (fun b=>!(Nat.beq a b))&&nodB r
theorem lookup_mem{a:Au}{o:Obj}:∀{K:Af},K.lookup a=some o->(a,o)∈K
 |(b,u)::r,h=>by
  rw[Qc5]at h
  by_cases e:(a == b)=true
  ·grind
  ·rw[Bool.eq_false_iff.mpr e]at h;exact Qak _ (lookup_mem h)
theorem mem_lookup{a:Au}{o:Obj}:∀{K:Af},nodB (K.map (·.1))=true->(a,o)∈K->K.lookup a=some o
 |(b,u)::r,C,h=>by
  rw[Qc5];have q:=Qf3.mp C;rcases Qaq.mp h with e|e
  ·cases e;rw[Qdi]
  ·have D:(a == b)=false:=by
    rw[Qgf];intro z;have:=Qb8.mp q.1 a (Qcm e);rw[z,show Nat.beq b b=true from Nat.beq_refl b]at this;cases this
   rw[D];exact mem_lookup q.2 e
theorem in_noT{h:Heap}(q:nodB (K.map (·.1))=true)(X:K.In h):(noT K).In h:=fun a o e=>
 X a o (mem_lookup q (Qb2.mp (lookup_mem e)).1)
def ns_tr{m:Au}{r:Option (Option As)}(e:PySem.W.nsIn (noT K) m x=PySem.W.nsIn K m x)(h:PySem.W.nsIn K m x=r):PySem.W.nsIn (noT K) m x=r:=e.trans h
def lk_tr{r:Option Obj}(e:(noT K).lookup a=K.lookup a)(h:K.lookup a=r):(noT K).lookup a=r:=e.trans h
def cd_tr{c:As}(e:PySem.W.codeIn (noT K) c x=PySem.W.codeIn K c x)(h:PySem.W.codeIn K c x=true):PySem.W.codeIn (noT K) c x=true:=e.trans h
def kp_tr{c:As}(e:PySem.W.keepIn (noT K) c=PySem.W.keepIn K c)(h:PySem.W.keepIn K c=true):PySem.W.keepIn (noT K) c=true:=e.trans h
def cxK{CX:CXT}{mg:Ae}{qual:Str}{scope:Scope}{A:Ao}{outer:List Env}{E:XK}:(Zgn CX P w K mg j N qual scope f v A outer s H E).nox.K=K:=rfl
def cxK2{CX:CXT}{mg:Ae}{qual:Str}{scope:Scope}{A:Ao}{outer:List Env}{E:XK}:(Zgn CX P w K mg j N qual scope f v A outer s H E).K=K:=rfl
def let2{q:TS}(h:let C:=q;Yl A C E c H):Yl A q E c H:=h
def let3{q C:TS}(h:let D:=C;let F:=Yl q D;Yl A F E c H):Yl A (Yl q C) E c H:=h
def let4{q D C:TS}(h:let F:=C;let G:=Yl D F;let I:=Yl q G;Yl A I E c H):Yl A (Yl q (Yl D C)) E c H:=h
def let5{q F C D:TS}(h:let G:=D;let O:=Yl C G;let I:=Yl F O;let J:=Yl q I;Yl A J E c H):Yl A (Yl q (Yl F (Yl C D))) E c H:=h
def let6{C G D F q:TS}(h:let Z:=q;let I:=Yl F Z;let Y:=Yl D I;let J:=Yl G Y;let O:=Yl C J;Yl A O E c H):Yl A (Yl C (Yl G (Yl D (Yl F q)))) E c H:=h
def let7{D I F G C q:TS}(h:let J:=q;let U5:=Yl C J;let O:=Yl G U5;let U3:=Yl F O;let Y:=Yl I U3;let Z:=Yl D Y;Yl A Z E c H):Yl A (Yl D (Yl I (Yl F (Yl G (Yl C q))))) E c H:=h
def let8{D J G I C q F:TS}(h:let U7:=F;let O:=Yl q U7;let U5:=Yl C O;let Y:=Yl I U5;let U3:=Yl G Y;let Z:=Yl J U3;let U1:=Yl D Z;Yl A U1 E c H):Yl A (Yl D (Yl J (Yl G (Yl I (Yl C (Yl q F)))))) E c H:=h
def let13{s2 s3 s4 s5 Y O s8 Z q F C D:TS}(h:let J:=D;let I:=Yl C J;let G:=Yl F I;let U9:=Yl q G;let U8:=Yl Z U9;let U7:=Yl s8 U8;let U6:=Yl O U7;let U5:=Yl Y U6;let U4:=Yl s5 U5;let U3:=Yl s4 U4;let U2:=Yl s3 U3;let U1:=Yl s2 U2;Yl A U1 E c H):Yl A (Yl s2 (Yl s3 (Yl s4 (Yl s5 (Yl Y (Yl O (Yl s8 (Yl Z (Yl q (Yl F (Yl C D))))))))))) E c H:=h
end L2
namespace ZpT
abbrev Zjz (h:Heap) (T:Au) (a b c:As):Prop:=h.get? T=some {cls:=.type "tuple",data:=.seq #[a,b,c]}
structure Ap3(z TI TO i1 i2 i3:Au):Prop where
 TIz:TI≠z
 TOz:TO≠z
 i1z:i1≠z
 i2z:i2≠z
 i3z:i3≠z
 TITO:TI≠TO
 TIi1:TI≠i1
 TIi2:TI≠i2
 TIi3:TI≠i3
 TOi1:TO≠i1
 TOi2:TO≠i2
 TOi3:TO≠i3
 i12:i1≠i2
 i13:i1≠i3
 i23:i2≠i3
structure Of3(z TO i1 i2 i3 l:Au):Prop where
 z:l≠z
 o:l≠TO
 i:l≠i1
 j:l≠i2
 m:l≠i3
structure St3(z TI TO i1 i2 i3 l1 l2 l3:Au)(k:Nat)(h:Heap):Prop where
 z:∃f0 fb,h.get? z=some (zO f0 fb TI TO)/\F0 f0
 I:Zjz h TI (.ref i1) (.ref i2) (.ref i3)
 O:∃a b c,Zjz h TO a b c
 n1:ZM false h i1 l1 k
 n2:ZM false h i2 l2 k
 n3:ZM false h i3 l3 k
end ZpT
namespace L2
def b2i(b:Bool):Int:=if b=true then 1 else 0
def Zom(k:Int):As->Bool
 |.int i _=>i == k
 |.bool b=>b2i b == k
 |_=>false
def Xm{k:Int}(h:Zom k v=true):(∃t,v=.int k t)\/∃b,v=.bool b/\k=b2i b:=by
 cases v with
 |int i t=>exact .inl ⟨t,by rw[show i=k from eq_of_beq h]⟩
 |bool b=>exact .inr ⟨b,rfl,(eq_of_beq h).symm⟩
 |_=>cases h
section
variable {prog:An}{w:Ar}
def gr{A:Ao}{E:Ab}{b:Bool}{Q:Int->Shared->Prop}(h:Q (hashInt (b2i b)) {s with toks:=s.toks+1}):A1 prog w A (pyHash (.bool b)) Q E s:=by
 refine PySem.W.pyHash_slot (T:= "bool") (id:= "int.__hash__") (B:=Builtin.«int.__hash__») rfl F.slot_bool_hash F.entry_int_hash (F.args_int_hash_1 _) (by decide +kernel) (.inl rfl) ?_;cases b
 ·exact Qaa (Qdc (a:=(Value.bool false,(0:Int))) rfl (Qaa (Qg0 (Qae ⟨0,_,rfl,h⟩))))
 ·exact Qaa (Qdc (a:=(Value.bool true,(1:Int))) rfl (Qaa (Qg0 (Qae ⟨1,_,rfl,h⟩))))
end
def dec_eq(a b:Int):decide (a=b)=(a == b):=by grind
def Y3(prog:An)(w:Ar):KeyKind prog w Int where
 is:=Zom
 hash:=hashInt
 inj:=fun v a b F C=>by
  rcases Xm F with⟨t,rfl⟩|⟨x,rfl,rfl⟩
  ·exact(eq_of_beq (show(a == b)=true from C))
  ·exact(eq_of_beq (show(b2i x == b)=true from C))
 byValue:=fun k v h=>by
  rcases Xm h with⟨t,rfl⟩|⟨x,rfl,rfl⟩<;>rfl
 pyHash:=fun q h=>by
  rcases Xm q with⟨t,rfl⟩|⟨x,rfl,rfl⟩
  ·exact Qg4 h
  ·exact gr h
 eqBool:=fun D q h=>by
  rw[dec_eq]at h;rcases Xm D with⟨t,rfl⟩|⟨x,rfl,rfl⟩
  ·rcases Xm q with⟨u,rfl⟩|⟨y,rfl,rfl⟩
   ·exact wpAny_eqBool_int h
   ·exact SeqAt.EqAt.int_bool _ t y _ _ _ _ h
  ·rcases Xm q with⟨u,rfl⟩|⟨y,rfl,rfl⟩
   ·exact SeqAt.EqAt.bool_int x _ u _ _ _ _ h
   ·refine SeqAt.EqAt.bool_bool x y _ _ _ _ ?_;have e:(b2i x == b2i y)=(x == y):=by cases x<;>cases y<;>rfl
    rw[e]at h;exact h
 «strs»:=fun k x t v h=>by cases h
section
variable {prog:An}{w:Ar}
def IsPair(prog:An)(w:Ar)(h:Heap)(k:Int×Ak)(a:Au):Prop:=
 ∃o n t tk,h.get? a=some o/\o.cls=.type "tuple" /\ o.data=.seq #[.int k.1 tk,.ref t] n/\IsTupleKey (Y3 prog w) h k.2 t
def uU(prog:An)(w:Ar)(k:Int×Ak):Int:=reduceHash (Builtin.Tuple.tupleHashOf [hashInt k.1,tupleKeyHash (Y3 prog w) k.2])
def IsPair.inj{h:Heap}{a:Au}{x y:Int×Ak}(p:IsPair prog w h x a)(q:IsPair prog w h y a):x=y:=by
 obtain⟨o,n,t,tk,e,c,d,k⟩:=p;obtain⟨o',n',t',tk',C,c',d',G⟩:=q;rw[e]at C;cases C;rw[d]at d';injection d' with J d2;have Z:=congrArg Array.toList J;injection Z with Y D;injection Y with I _;injection D with F _;injection F with O;subst O;have:=(tupleKind (Y3 prog w)).inj k G;exact Qhe I this
def IsPair.keeps{h h':Heap}{k:Int×Ak}{a d:Au}{o:Obj}{es:Array DictEntry}{ep:Nat}(p:IsPair prog w h k a)(e:h.get? d=some o)(C:o.data=.dict es ep)(s:Heap.SameBut d h h'):IsPair prog w h' k a:=by
 obtain⟨F,n,t,tk,e1,D,G,k1⟩:=p;have q:a≠d:=fun z=>by
  grind
 exact⟨F,n,t,tk,(s.2 a q).trans e1,D,G,(tupleKind (Y3 prog w)).keeps k1 e C s⟩
def IsPair.pyHash{A:Ao}{E:Ab}{s:Aq}{k:Int×Ak}{a:Au}{Q:Int->Shared->Prop}(C:A.units+1<cLine)(p:IsPair prog w s.heap k a)
  (h:Q (uU prog w k) {s with toks:=s.toks+(k.2.length+3)}):A1 prog w A (PySem.pyHash (.ref a)) Q E s:=by
 obtain⟨o,n,t,tk,e,c,d,D⟩:=p;refine PySem.W.pyHash_slot (T:= "tuple") (id:= "tuple.__hash__") (B:=Builtin.«tuple.__hash__») ⟨o,e,c⟩ F.slot_tuple_hash F.entry_tuple_hash (F.args_tuple_hash_1 _) (by decide +kernel) (.inr (by lia)) ?_;refine Qaa (Qdc (a:=(Value.ref a,[])) rfl ?_);refine Qaa (wpAny_tupleItemsOf e d ?_);refine Qaa (Qgn _ (fun rest q s'=>(rest=[.int k.1 tk,.ref t]/\q=#[]/\s'=s)\/(rest=[.ref t]/\q=#[hashInt k.1]/\s'={s with toks:=s.toks+1})\/(rest=[]/\q=#[hashInt k.1,tupleKeyHash (Y3 prog w) k.2]/\s'={s with toks:=s.toks+1+(k.2.length+1)})) _ ?_ ?_ _ _ (.inl ⟨rfl,rfl,rfl⟩))
 ·rintro x rest b s' (⟨e1,rfl,rfl⟩|⟨e1,rfl,rfl⟩|⟨e1,_,_⟩)
  ·cases e1;exact Qaa (Qg4 (Qae (.inr (.inl ⟨rfl,rfl,rfl⟩))))
  ·cases e1;refine Qaa (wpAny_pyHash_tuple (knd:=Y3 prog w) (ks:=k.2) (s:={s with toks:=s.toks+1}) (by exact C) D (Qae (.inr (.inr ⟨rfl,rfl,rfl⟩))))
  ·cases e1
 ·rintro b s' (⟨e1,_,_⟩|⟨e1,_,_⟩|⟨_,rfl,rfl⟩)
  ·cases e1
  ·cases e1
  ·refine Qaa (Qg0 (Qae ⟨_,_,rfl,?_⟩));have G:s.toks+1+(k.2.length+1)+1=s.toks+(k.2.length+3):=by lia
   rw[G];exact h
theorem _root_.PySem.IsTupleKey.any{h:Heap}{ks:Ak}(k:IsTupleKey (Y3 prog w) h ks a)(q:An)(C:Ar):IsTupleKey (Y3 q C) h ks a:=by
 obtain⟨o,items,n,e,c,d,it⟩:=k;have go:∀{ks:Ak} {vs:Ag},ItemsAre (Y3 prog w) ks vs->ItemsAre (Y3 q C) ks vs:=by
  intro ks vs hh
  induction hh with
  |nil=>exact .nil
  |cons h1 _ D=>exact .cons h1 D
 exact⟨o,items,n,e,c,d,go it⟩
def IsPair.eqBool{A:Ao}{E:Ab}{s:Aq}{x y:Int×Ak}{a b:Au}{Q:Bool->Shared->Prop}(hu:A.units+1<cLine)(p:IsPair prog w s.heap x a)(q:IsPair prog w s.heap y b)
  (h:Q (decide (x=y)) s):A1 prog w A (PySem.eqBool (.ref a) (.ref b)) Q E s:=by
 by_cases F:a=b
 ·subst F;have:=p.inj q;rw[Qal this]at h;exact Qet (.ref a) prog w E Q h
 ·obtain⟨o,n,t,tk,e,c,d,O⟩:=p;obtain⟨o',n',t',D,Z,Y,d',I⟩:=q;have it:∀j (h1:j<(#[Value.int x.1 tk,.ref t]).size) (h2:j<(#[Value.int y.1 D,.ref t']).size),SeqAt.EqAt A.in1 s (#[Value.int x.1 tk,.ref t])[j] (#[Value.int y.1 D,.ref t'])[j] (if j=0 then x.1 == y.1 else decide (x.2=y.2)):=by
   intro j h1 h2
   match j,h1,h2 with
   |0,_,_=>exact SeqAt.EqAt.int_int x.1 tk y.1 D
   |1,_,_=>exact fun C G E' Q' h'=>wpAny_eqBool_tuple (knd:=Y3 C G) (by exact hu) (O.any C G) (I.any C G) h'
  have r:=SeqAt.RcAt.tuples (A:=A) (s:=s) (e:=fun j=>if j=0 then x.1 == y.1 else decide (x.2=y.2)) ⟨o,e,c,n,d⟩ ⟨o',Z,Y,n',d'⟩ (by lia) it;have J:((List.range (min (#[Value.int x.1 tk,.ref t]).size (#[Value.int y.1 D,.ref t']).size)).all (fun j=>if j=0 then x.1 == y.1 else decide (x.2=y.2))&&(#[Value.int x.1 tk,.ref t]).size == (#[Value.int y.1 D,.ref t']).size)=decide (x=y):=by
   show((x.1 == y.1)&&(decide (x.2=y.2)&&true)&&true)=decide (x=y)
   by_cases h1:x.1=y.1
   ·grind
   ·grind
  rw[J]at r;exact SeqAt.EqAt.of_refs F r prog w E Q h
theorem Zbo{A:Ao}{E:Ab}{ks:Ak}{Q:Bool->Shared->Prop}(m:Nat)(k:IsTupleKey (Y3 prog w) s.heap ks a)(h:Q true s):A1 prog w A (eqIsQuiet (m+1) (.ref a)) Q E s:=by
 obtain⟨o,items,n,e,c,d,it⟩:=k;rw[eqIsQuiet.eq_2];have C:s.TypeIs (.ref a) "tuple" :=⟨o,e,c⟩;refine Qaa (Qdq C F.slot_tuple_eq.lookup ?_);refine Qaa (Qdh (T:= "tuple") (b:=true) C (by kernel_rfl) ?_);refine Qaa (Qcd e d ?_);refine Qaa (Qgn _ (fun rest b s'=>(∀v∈rest,carriedByValue v=true)/\b=(none,())/\s'=s) _ ?_ ?_ _ _ ⟨fun v q=>?_,rfl,rfl⟩)
 ·rintro x rest b s' ⟨q,rfl,rfl⟩;refine Qaa ?_;rw[eqIsQuiet_byValue m (q x Qan)];exact Qae (Qae ⟨fun v G=>q v (Qak _ G),rfl,rfl⟩)
 ·rintro b s' ⟨_,rfl,rfl⟩;exact Qae h
 ·have go:∀{ks:Ak} {vs:Ag},ItemsAre (Y3 prog w) ks vs->∀v∈vs,carriedByValue v=true:=by
   intro ks vs hh
   induction hh with
   |nil=>exact fun v q=>nomatch q
   |cons h1 _ D=>
    intro v q;rcases Qaq.mp q with rfl|q
    ·exact(Y3 prog w).byValue _ _ h1
    ·exact D v q
  exact go it v q
def IsPair.quiet{A:Ao}{E:Ab}{k:Int×Ak}{Q:Bool->Shared->Prop}(p:IsPair prog w s.heap k a)(h:Q true s):A1 prog w A (eqIsQuiet 8 (.ref a)) Q E s:=by
 obtain⟨o,n,t,tk,e,c,d,D⟩:=p;rw[eqIsQuiet.eq_2];have q:s.TypeIs (.ref a) "tuple" :=⟨o,e,c⟩;refine Qaa (Qdq q F.slot_tuple_eq.lookup ?_);refine Qaa (Qdh (T:= "tuple") (b:=true) q (by kernel_rfl) ?_);refine Qaa (Qcd e d ?_);refine Qaa (Qgn _ (fun rest b s'=>(rest=[.int k.1 tk,.ref t]\/rest=[.ref t]\/rest=[])/\b=(none,())/\s'=s) _ ?_ ?_ _ _ ⟨.inl rfl,rfl,rfl⟩)
 ·rintro x rest b s' ⟨C,rfl,rfl⟩;rcases C with e1|e1|e1
  ·cases e1;refine Qaa ?_;exact Qae (Qae ⟨.inr (.inl rfl),rfl,rfl⟩)
  ·cases e1;exact Qaa (Zbo 6 D (Qae ⟨.inr (.inr rfl),rfl,rfl⟩))
  ·cases e1
 ·rintro b s' ⟨_,rfl,rfl⟩;exact Qae h
end
def Zhq(prog:An)(w:Ar):HeapKind prog w (Int×Ak)where
 is:=IsPair prog w
 hash:=uU prog w
 draws:=fun k=>k.2.length+3
 room:=fun A=>A.units+1<cLine
 inj:=fun p q=>p.inj q
 keeps:=fun p e D s=>p.keeps e D s
 pyHash:=fun C p h=>p.pyHash C h
 eqBool:=fun C p q h=>p.eqBool C q h
 quiet:=fun p h=>p.quiet h
structure KN(Kk:Type)[DecidableEq Kk]where
 knd:∀(P:An) (w:Ar),HeapKind P w Kk
 hsh:Kk->Int
 at_:Hp->Kk->Addr->Prop
 hash_eq:∀P w k,(knd P w).hash k=hsh k
 ok:∀(P:An) (w:Ar) (H:Hp) (h:Heap) (k:Kk) (a:Au),HOk P w H h->at_ H k a->(knd P w).is h k a
 room:∀(P:An) (w:Ar) (A:Ao),A.units+2<cLine->(knd P w).room A.in1
 room0:∀(P:An) (w:Ar) (A:Ao),A.units+2<cLine->(knd P w).room A
 keep:∀(H H':Hp) (k:Kk) (a:Au),(∀b xs,H b=some (.tup xs)->H' b=some (.tup xs))->at_ H k a->at_ H' k a
section
variable {Kk:Type}[DecidableEq Kk](kn:KN Kk)
def entN(x:Kk×Au×As):DictEntry:={hash:=kn.hsh x.1,key:=.ref x.2.1,val:=x.2.2}
def Zl1(d:Au)(xs:List (Kk×Au×As))(h:Heap):Prop:=(d == sysModules)=false/\∃o es ep,h.get? d=some o/\o.ExactDict/\o.data=.dict es ep/\es.toList=xs.map (entN kn)
def wH(H:Hp)(d:Au)(kvs:List (Kk×V)):Prop:=(kvs.map (·.1)).Nodup/\kvs.length<sizeLine /\
 ((kvs=[]/\H d=some (.dK []))\/∃xs,H d=some (.ext (Zl1 kn d xs))/\Paired (fun(p:Kk×V) (q:Kk×Au×As)=>p.1=q.1/\kn.at_ H q.1 q.2.1/\RelV p.2 q.2.2) kvs xs)
variable {kn}
def Zj0(xs:List (Kk×Au×As)):xs.map (entryOfKey (kn.knd P w))=xs.map (entN kn):=by
 refine Qcn fun x _=>?_;show DictEntry.mk _ _ _=DictEntry.mk _ _ _;rw[kn.hash_eq]
def Zl2{h:Heap}{d:Au}{xs:List (Kk×Au×As)}(x:Zl1 kn d xs h):Yo P w H h d (.ext (Zl1 kn d xs)):=by
 obtain⟨I,o,es,ep,e,r⟩:=id x;refine⟨x,⟨o,e⟩,fun h1 h2 y k=>?_⟩;obtain⟨C,o',D,q,F,G⟩:=y;exact⟨C,o',D,q,k _ F,G⟩
theorem wH.dict{X:Cx}{d:Au}{kvs:List (Kk×V)}(n:wH kn H d kvs)(I:Inv X r c H s):
  ∃xs,Heap.DictOfH (kn.knd X.prog X.w) s.heap d xs/\Paired (fun(p:Kk×V) (q:Kk×Au×As)=>p.1=q.1/\kn.at_ H q.1 q.2.1/\RelV p.2 q.2.2) kvs xs/\Mut (H d)/\(d == sysModules)=false:=by
 obtain⟨Z,hl,h|h⟩:=n
 ·obtain⟨rfl,e⟩:=h;obtain⟨z,O,vs,J,dd⟩:=Zhc I.hok e;cases J;obtain⟨o,es,ep,e1,ex,e2,_,C,_⟩:=dd;have F:es.toList=[]:=by
   generalize es.toList=l at C;cases C;rfl
  exact⟨[],⟨o,es,ep,e1,ex,e2,F,(fun x D=>nomatch D),Qdb⟩,.nil,by rw[e];exact True.intro,O⟩
 ·obtain⟨xs,e,C⟩:=h;obtain⟨⟨Y,o,es,ep,e1,ex,e2,F⟩,_,_⟩:=(show Yo X.prog X.w H s.heap d (.ext (Zl1 kn d xs))from I.hok d _ e);refine⟨xs,⟨o,es,ep,e1,ex,e2,by rw[F,Zj0],fun x D=>?_,?_⟩,C,by rw[e];exact True.intro,Y⟩
  ·have go:∀{l:List (Kk×V)} {m:List (Kk×Au×As)},Paired (fun(p:Kk×V) (q:Kk×Au×As)=>p.1=q.1/\kn.at_ H q.1 q.2.1/\RelV p.2 q.2.2) l m->∀x∈m,kn.at_ H x.1 x.2.1:=by
    intro l m C
    induction C with
    |nil=>exact fun x D=>nomatch D
    |cons h _ G=>
     intro x D;rcases Qaq.mp D with rfl|D
     ·exact h.2.1
     ·exact G x D
   exact kn.ok _ _ _ _ _ _ I.hok (go C x D)
  ·have go:∀{l:List (Kk×V)} {m:List (Kk×Au×As)},Paired (fun(p:Kk×V) (q:Kk×Au×As)=>p.1=q.1/\kn.at_ H q.1 q.2.1/\RelV p.2 q.2.2) l m->m.map (·.1)=l.map (·.1):=by
    intro l m C
    induction C with
    |nil=>rfl
    |cons h _ G=>rw[Qbx,Qbx,G,h.1]
   rw[go C];exact Z
theorem Gx{P:Kk×V->Kk×Au×As->Prop}(I:∀p q,P p q->p.1=q.1):∀{l:List (Kk×V)} {m:List (Kk×Au×As)},Paired P l m->∀k,(∀v,Yd l k=some v->∃q,atKey m k=some q/\∃p,P p (k,q)/\p.2=v)/\(Yd l k=none->atKey m k=none)
 |[],[],_,k=>⟨fun v h=>(by cases h),fun _=>rfl⟩
 |p::l,q::m,.cons h t,k=>by
  have J:=Gx I t k;have e:=I p q h
  by_cases C:p.1=k
  ·have G:q.1=k:=e.symm.trans C;have a1:atKey (q::m) k=some q.2:=by
    unfold atKey;rw[Qd2,Qal G];rfl
   have F:Yd (p::l) k=some p.2:=Ym C;refine⟨fun v D=>?_,fun D=>?_⟩
   ·grind
   ·rw[F]at D;cases D
  ·have G:¬q.1=k:=fun z=>C (e.trans z)
   have a1:atKey (q::m) k=atKey m k:=by
    unfold atKey;rw[Qd2,Qaj G]
   have F:Yd (p::l) k=Yd l k:=Ye C;rw[a1,F];exact J
theorem uV{X:Cx}{d:Au}{k:Kk}{v:V}{u:As}{kvs:List (Kk×V)}{xs:List (Kk×Au×As)}{h':Heap}{tk:Nat}(I:Inv X r c H s)(n:wH kn H d kvs)(hk:kn.at_ H k a)(rv:RelV v u)(hz:kvs.length+1<sizeLine)
  (G:Paired (fun(p:Kk×V) (q:Kk×Au×As)=>p.1=q.1/\kn.at_ H q.1 q.2.1/\RelV p.2 q.2.2) kvs xs) (D:Mut (H d)) (hm:(d == sysModules)=false) (Z:Yd kvs k=none) (dd':Heap.DictOfH (kn.knd X.prog X.w) h' d (xs++[(k,a,u)])) (sb:Heap.SameBut d s.heap h'):
  ∃H',wH kn H' d (kvs++[(k,v)])/\(∀b o,H b=some o->b≠d->H' b=some o)/\(∃o,H'=upd H d o)/\Inv X r c H' {s with heap:=h',toks:=tk}:=by
 obtain⟨o,es,ep,e1,ex,e2,F,_,_⟩:=dd';have Y:Zl1 kn d (xs++[(k,a,u)]) h':=⟨hm,o,es,ep,e1,ex,e2,by rw[F,Zj0]⟩;have O:∀b ys,H b=some (.tup ys)->upd H d (.ext (Zl1 kn d (xs++[(k,a,u)]))) b=some (.tup ys):=fun b ys e=>by
  rw[Zk fun z=>by rw[<-z,e]at D;exact D];exact e
 refine⟨_,⟨?_,?_,.inr ⟨_,Za,?_⟩⟩,fun b o e hb=>by rw[Zk hb];exact e,⟨_,rfl⟩,xX I D sb ⟨o,e1⟩ (Zl2 Y)⟩
 ·rw[Qbd,Qe6];refine⟨n.1,Qc4.mpr ⟨Qbo,Qdb⟩,fun y J z hz q=>?_⟩;rw[Qbx,List.map_nil,Qat]at hz;rw[q,hz]at J;obtain⟨x,hx,ex⟩:=Qay.mp J;have C:x.1=k:=ex;have:=yD n.1 x hx;rw[C,Z]at this;cases this
 ·rw[Qaf];exact hz
 ·have go:∀{l:List (Kk×V)} {m:List (Kk×Au×As)},Paired (fun(p:Kk×V) (q:Kk×Au×As)=>p.1=q.1/\kn.at_ H q.1 q.2.1/\RelV p.2 q.2.2) l m->Paired (fun(p:Kk×V) (q:Kk×Au×As)=>p.1=q.1/\kn.at_ (upd H d (.ext (Zl1 kn d (xs++[(k,a,u)])))) q.1 q.2.1/\RelV p.2 q.2.2) (l++[(k,v)]) (m++[(k,a,u)]):=by
   intro l m G
   induction G with
   |nil=>exact .cons ⟨rfl,kn.keep _ _ _ _ O hk,rv⟩ .nil
   |cons h _ ih=>exact .cons ⟨h.1,kn.keep _ _ _ _ O h.2.1,h.2.2⟩ ih
  exact go G
end
def vB:V->Option Int
 |.int i=>some i
 |.bl b=>some (b2i b)
 |_=>none
theorem uW{P:An}{w:Ar}:∀{vs:A0} {q:Ag} {ks:Ak},Vals vs q->vs.map vB=ks.map some->ItemsAre (Y3 P w) ks q
 |[],_,[],r,_=>by cases r;exact .nil
 |v::vs,_,k::ks,.cons h t,e=>by
  injection e with e1 e2;refine .cons ?_ (uW t e2);cases v with
  |int i=>
   obtain⟨t,rfl⟩:=h;cases e1;exact Qdi _
  |bl b=>
   cases(show _=Value.bool b from h);cases e1;exact Qdi _
  |_=>cases e1
def uX(H:Hp)(ks:Ak)(a:Au):Prop:=∃vs,H a=some (.tup vs)/\vs.map vB=ks.map some
def uX.is{h:Heap}{ks:Ak}(ok:HOk P w H h)(b:uX H ks a):IsTupleKey (Y3 P w) h ks a:=by
 obtain⟨vs,e,C⟩:=b;obtain⟨_,q,r,o,h1,h2,⟨n,D⟩,_⟩:=(show Yo P w H h a (.tup vs)from ok a _ e);exact⟨o,q.toArray,n,h1,h2,D,by simpa using uW r C⟩
def knT:KN (Ak)where
 knd:=fun P w=>tupleKind (Y3 P w)
 hsh:=fun ks=>reduceHash (Builtin.Tuple.tupleHashOf (ks.map hashInt))
 at_:=uX
 hash_eq:=fun P w k=>rfl
 ok:=fun P w H h k a ok b=>b.is ok
 room:=fun P w A C=>by show A.units+1<cLine;lia
 room0:=fun P w A C=>by show A.units<cLine;lia
 keep:=fun H H' k a D ⟨vs,e,q⟩=>⟨vs,D _ _ e,q⟩
def Zj1(H:Hp)(k:Int×Ak)(a:Au):Prop:=∃t,H a=some (.tup [.int k.1,.ref t])/\uX H k.2 t
def knP:KN (Int×Ak)where
 knd:=Zhq
 hsh:=fun k=>reduceHash (Builtin.Tuple.tupleHashOf [hashInt k.1,reduceHash (Builtin.Tuple.tupleHashOf (k.2.map hashInt))])
 at_:=Zj1
 hash_eq:=fun P w k=>rfl
 ok:=fun P w H h k a ok ⟨t,e,b⟩=>by
  obtain⟨_,O,r,o,h1,h2,⟨n,G⟩,_⟩:=(show Yo P w H h a (.tup [.int k.1,.ref t])from ok a _ e);cases r with
  |cons D q=>
  cases q with
  |cons q I=>
  cases I;obtain⟨tk,rfl⟩:=D;cases(show _=Value.ref t from q);exact⟨o,n,t,tk,h1,h2,G,b.is ok⟩
 room:=fun P w A J=>by show A.units+1+1<cLine;lia
 room0:=fun P w A J=>by show A.units+1<cLine;lia
 keep:=fun H H' k a C ⟨t,e,vs,e2,F⟩=>⟨t,C _ _ e,vs,C _ _ e2,F⟩
def rRngV:A0->Hp->VK->Prop:=fun xs H Q=>∃j:Int,xs=[.int j]/\∀p,H p=none->Q (.ref p) (upd H p (.rng 0 j))
def zf:X3 X (.type "range") rRngV:=by
 intro pins s σ H xs D Q I r h;obtain⟨j,rfl,q⟩:=h;obtain⟨u,rfl,C⟩:=vals1 r;obtain⟨t,rfl⟩:=C;refine call_range_1 ⟨.ref s.heap.objs.size,_,I.laid (fun b u e=>Qab _ e) (Qah _) ?_,rfl,q _ I.fresh⟩;exact⟨_,_,_,Qao _ rfl⟩
def Zl3:A0->Hp->VK->Prop:=fun xs H Q=>∃(p:Au) (n:Nat),xs=[.ref p]/\H p=some (.rng 0 (n:Int))/\n<=1000000/\∀l,H l=none->Q (.ref l) (upd H l (.lst ((List.range n).map fun i:Nat=>V.int (i:Int))))
theorem gu (hc:X.calm=true):X3 X (.type "list") Zl3:=by
 intro pins s σ H xs D Q I r h;obtain⟨p,n,rfl,e,hn,q⟩:=h;obtain⟨u,rfl,Y⟩:=vals1 r;cases Y;obtain⟨t,u,v,hp⟩:=(show Yo X.prog X.w H s.heap p (.rng 0 (n:Int))from I.hok p _ e);have hsz:Builtin.Range.rangeSize 0 (n:Int) 1=(n:Int):=by
  unfold Builtin.Range.rangeSize;split
  ·lia
  ·lia
 have C:∀z:Int,0<=z->z<=1000000->Builtin.Range.rangeFitsLong z=true:=fun z h1 h2=>by
  unfold Builtin.Range.rangeFitsLong;simp only[Qb5,Qfr];lia
 have O:Builtin.Range.small 0 (n:Int) 1=true:=by
  unfold Builtin.Range.small;rw[hsz,C 0 (by decide) (by decide),C n (by lia) (by lia),C 1 (by decide) (by decide),Qba (by decide),show(n:Int)+(1-1)=n by lia,C n (by lia) (by lia)];simp
 refine call_list_range (I.ok.hd hc) hp O hsz (by lia) fun h' tk acc c' hk F it=>?_;refine⟨.ref s.heap.objs.size,_,I.laid hk (Qah _) ?_,rfl,q _ I.fresh⟩;have G:acc.toList.length=n:=by exact it.1
 refine⟨by rw[Qad,Qa5,Qg2];lia,acc.toList,c',?_,by simpa using F⟩;have go:∀(m:Nat) (D:Ag) (k:Nat),D.length=m->(∀j v,D[j]?=some v->∃t,v=Value.int ((k+j:Nat):Int) t)->Vals ((List.range' k m).map fun i:Nat=>V.int (i:Int)) D:=by
  intro m
  induction m with
  |zero=>
   intro D k F _;rw[Qb9 F];exact .nil
  |succ m Z=>
   intro D k F hh;cases D with
   |nil=>cases F
   |cons u D=>
    refine .cons ?_ (Z D (k+1) (by simpa using F) fun j v J=>?_)
    ·obtain⟨t,e⟩:=hh 0 u rfl;exact⟨t,e⟩
    ·obtain⟨t,e⟩:=hh (j+1) v (by simpa using J);exact⟨t,by grind⟩
 rw[List.range_eq_range'];refine go n acc.toList 0 G fun j v J=>?_;obtain⟨t,e⟩:=it.2 j v (by rw[<-Qex];exact J);exact⟨t,by grind⟩
def uY{A:PySem.Around}{k:Nat}(q:WT k A):A.units+2<PySem.cLine:=Qfi (Nat.add_le_add_left (by decide:2<=64) _) q.units
def Zl4(D:An)(w:Ar)(K:Af)(mg:Ae)(base:Heap)(k:Nat)(sp:Sp)(P:Au)(lpos:Pos)(qual:Str)(ta tb:TE)(n:Nat)(is:Aj)(te:TE):TE:=fun σ H Q=>ta σ H fun z C=>tb σ C fun x H1=>ZG H1 P lpos qual /\
 ∀(cs:List Au) (f:Au) (H2:Hp),(∀c∈cs,H1 c=none)->(∀c∈cs,∃o,H2 c=some (XM o))->H1 f=none->(∀q,Z8 H2 q->ZG (hide cs q) P lpos qual)->(∀b o,H1 b=some o->b≠P->H2 b=some o)->
  Xr D w K mg base k f H2 (Zok n te cs (is.map fun i=>(σ[i]?).getD none))->sp [z,x,.ref f] H2 (fun v q=>Q v (hide cs q)) E0
section
variable {X:Cx}{params:Arguments}{body a:Av}{scope:Scope}{lpos p pos:Pos}{c P g:Au}{qual x:Str}{k kl:Nat}{gd:Am}{pg ps ys:Ai}{is:Aj}{sp:Sp}{ta te:TE}{b:Av}{tb:TE}
def Zem(F:Yx X.prog X.w X.K X.mg X.base CX0 k g gd pg sp)(hr:WT k X.A)(hg:Gl X x)(hm:X.mg x=some (.ref g))(hk:PySem.W.keepIn X.K (.ref g)=true)(hb:Binds X.K gd pg [])(hfn:X.fn=fun _=>true)
  (ha:QE X a ta) (hb2:QE X b tb) (hcode:X.env.code=.ref c) (C:PySem.W.CodeHd X.base c P) (B:yK X.mg X.base) (hdef:defaultsOf params X.env=([],[])) (hq:X.env.qual ++ "<lambda>" = qual)
  {S0:Scope} {N0:Ai} (hX:X.env.scope=S0) (hXN:X.N=N0) (LL:Zol S0 scope N0 ps ys is)
  (hbind:∀(cl:List (Str×Au)) (pm cv G:As) (us:Ag),us.length=ps.length->bindArgs (PySem.W.kla_fn "<lambda>" qual params body scope cl pm cv G) ⟨us,[]⟩=pure (ps.zip us))
  (hbody:∀(f O:Au) (cl:List (Str×Au)) (A:Ao) (outer:List Env) (s:Aq) (H1:Hp),WT kl (A.deeper (PySem.W.envX qual scope s.heap.objs.size f (.ref O) cl))->QE (cxL X.prog X.w X.K X.mg X.base (ps++ys) qual scope f (.ref O) cl A outer s H1) body te)
  (hdb:(x == ("__debug__" : Str))=false:=by decide) (he:starEach [a,b,.Lambda params body scope lpos] X.env=(false,eval a X.env)::starEach [b,.Lambda params body scope lpos] X.env:=by rfl) (he2:starEach [b,.Lambda params body scope lpos] X.env=(false,eval b X.env)::starEach [.Lambda params body scope lpos] X.env:=by rfl)
  (hs2:starEach [.Lambda params body scope lpos] X.env=(false,eval (.Lambda params body scope lpos) X.env)::starEach [] X.env:=by rfl) (hpl:(backTo pos (starEach [b,.Lambda params body scope lpos] X.env)).any (·.1)=false:=by rfl):
  QE X (.Call (.Name x p) [a,b,.Lambda params body scope lpos] [] pos) (Zl4 X.prog X.w X.K X.mg X.base (kl+1) sp P lpos qual ta tb ps.length is te):=by
 have S:=LL.sc;have D:∀y∈scope.names,y.2=.free->X.env.scope.names.lookup y.1=some .cell:=fun y hy h=>by rw[hX];exact LL.free y hy h
 have hN:∀q∈ys.zip is,X.N[q.2]?=some q.1:=fun q hq=>by rw[hXN];exact LL.vis q hq
 have Z:=LL.len;refine⟨?_⟩;intro pins s σ H Q I hw;refine Qc0 (yw I hg hm ?_ hdb);have hlam:=Zeh (X:=X) (lpos:=lpos) (params:=params) (body:=body) (scope:=scope) hcode C B hdef hq D;refine Qgk (h₀:=X.base) I.ok.mod.kin hk ?_ he hpl;rw[he];refine Qcs (thn (ha.out pins s σ H _ I hw) fun u s0 ⟨x00,H0,I0,r0,hw0⟩=>?_);rw[he2];refine Qcs (thn (hb2.out pins s0 σ H0 _ I0 hw0) fun u1 s1 ⟨x0,H1,I1,r1,hT,q1⟩=>?_);rw[hs2];refine Qcs (thn (hlam pins s1 σ H1 (fun v H2=>∃(f O:Au) (oc:Obj) (G:As),v=.ref f/\H1 f=none/\H2 f=some (XM (jV X qual params body scope O G))/\H2 O=some (XM oc)/\jU oc qual/\ZG H2 P lpos qual/\∀b o,H1 b=some o->b≠P->H2 b=some o) I1 ⟨hT,fun f O oc G H2 a1 a2 a3 a4 a5 a6=>⟨f,O,oc,G,rfl,a1,a2,a3,a4,a5,a6⟩⟩) fun u2 s2 ⟨y,H2,Y,r2,f,O,oc,G,hy,f1,f2,f3,f4,f5,f6⟩=>?_);subst hy;cases r2;refine Qdy ⟨Y.kIn,?_⟩;have hcl:∀y d,(xV X.env.cells scope.names []).lookup y=some d->X.env.cells.lookup y=some d:=
  Gm (fun y hy h=>Y.ok.has y.1 (.inl (D y hy h))) fun _ _ z=>by cases z
 have J:=xE Y;have hcs:=yL Y;refine ze F hr hb hfn Y (show Vals [x00,x0,V.ref f] [u,u1,Value.ref f]from .cons r0 (.cons r1 (.cons rfl .nil))) (q1 (cellsOf X.env.cells) f (Zbl X s2 H2) (Wh I1) (fun d m=>let⟨o,_,e,_⟩:=hcs d m;⟨o,e⟩) f1 (fun H4 s4=>Zlz Y f5 s4) (fun b o e hbP=>J _ _ (f6 b o e hbP)) ?_);exact km (ys:=ys) S (J _ _ f2) (J _ _ f3) f4 (fun y d h=>Xl.mpr ⟨y,hcl y d h⟩) (fun d m=>let⟨o,v,e,hd,_⟩:=hcs d m;⟨o,v,e,hd⟩) (fun y z d h1 h2=>Y.ok.inj y z d (hcl y d h1) (hcl z d h2)) (fun y h=>Ju h) (by rw[Qad,Z])
  (ko (N0:=N0) Y D S.free hN Z) (fun us hl=>hbind _ _ _ _ us hl) fun A outer s H1 hr=>(hbody f O _ A outer s H1 hr).out
end
section
variable {κ:Type}[DecidableEq κ]
def Yy(l:List κ)(k:κ):List κ:=if k∈l then l else l++[k]
def Jx{l:List κ}(h:l.Nodup)(k:κ):(Yy l k).Nodup:=by
 unfold Yy;split
 ·exact h
 ·grind
def xF{l:List κ}{k x:κ}:x∈Yy l k↔x∈l\/x=k:=by
 unfold Yy;split
 ·grind
 ·rw[Qbb,Qat]
def Zhr(l:List κ)(k:κ):(Yy l k).length<=l.length+1:=by
 unfold Yy;split
 ·lia
 ·grind
def Zhs(l:List κ)(k:κ):∃r,Yy l k=l++r:=by
 unfold Yy;split
 ·exact⟨[],(Qbm _).symm⟩
 ·exact⟨[k],rfl⟩
theorem Gy(ks:List κ):∀l:List κ,∃r,ks.foldl Yy l=l++r:=by
 induction ks with
 |nil=>exact fun l=>⟨[],(Qbm _).symm⟩
 |cons k r q=>
  intro l;obtain⟨a,C⟩:=Zhs l k;obtain⟨b,D⟩:=q (Yy l k);exact⟨a++b,by grind⟩
def Zen{l r:List κ}{k:κ}(h:k∈l):(l++r).idxOf k=l.idxOf k:=by grind
theorem idx_map{α β:Type}[DecidableEq α][DecidableEq β](f:α->β)(q:∀a b,f a=f b->a=b)(s:α):∀l:List α,(l.map f).idxOf (f s)=l.idxOf s
 |[]=>rfl
 |x::r=>by
  rw[Qbx,Qgh,Qgh,idx_map f q s r]
  by_cases h:x=s
  ·grind
  ·grind
def WU(l:List κ):List (κ×V):=l.zipIdx.map fun p=>(p.1,V.int (p.2:Int))
def qm(l:List κ):(WU l).map (·.1)=l:=by
 unfold WU;rw[Qb7];exact List.zipIdx_map_fst 0 l
def kq(l:List κ):(WU l).length=l.length:=by
 unfold WU;rw[Qad,List.length_zipIdx]
def jW(l:List κ)(k:κ):WU (l++[k])=WU l++[(k,V.int (l.length:Int))]:=by
 unfold WU;rw[List.zipIdx_append,Qbd];simp
def zg:∀(l:List κ) (k:κ),k∈l->l.Nodup->Yd (WU l) k=some (V.int (l.idxOf k:Int)):=by
 intro l k D C;have hi:=Qez D;have q:(k,V.int (l.idxOf k:Int))∈WU l:=by
  refine Qay.mpr ⟨(k,l.idxOf k),?_,rfl⟩;rw[List.mem_zipIdx_iff_getElem?];simp[hi,Qac]
 have:=yD (kvs:=WU l) (by rw[qm];exact C) _ q;exact this
def jX(l:List κ)(k:κ)(C:k∉l):Yd (WU l) k=none:=by
 unfold Yd;rw[Option.map_eq_none_iff,List.find?_eq_none];intro x q z;have:x.1∈(WU l).map (·.1):=Qcm q;rw[qm,Qbh z]at this;exact C this
end
section
variable {κ β:Type}[DecidableEq κ][DecidableEq β]
def uZ(f:κ->β)(l:List κ)(k:κ)(h:∀a∈l,f a=f k->a=k):Yy (l.map f) (f k)=(Yy l k).map f:=by
 unfold Yy
 by_cases q:k∈l
 ·grind
 ·grind
theorem Zj2(f:κ->β)(s:κ):∀l:List κ,(∀a∈l,f a=f s->a=s)->(l.map f).idxOf (f s)=l.idxOf s
 |[],_=>rfl
 |x::r,h=>by
  rw[Qbx,Qgh,Qgh,Zj2 f s r fun a q=>h a (Qak _ q)]
  by_cases e:x=s
  ·grind
  ·grind
theorem Jy:∀{l1 l2:List κ},l1.Nodup->(∀x∈l1,x∈l2)->l1.length<=l2.length
 |[],_,_,_=>Qbp _
 |a::r,l2,h1,D=>by
  rw[Qc4]at h1;have C:=D a Qan;have:=Jy (l1:=r) (l2:=l2.erase a) h1.2 fun x q=>(List.mem_erase_of_ne (show x≠a from fun z=>h1.1 (z ▸ q))).mpr (D x (Qak _ q));rw[List.length_erase_of_mem C]at this;have F:=Qd3 C;rw[Qbu];lia
end
def kr{k:Nat}{A:Ao}(r:WT k A):A.units+4<cLine:=by have:=r.un;lia
def Zaa{xs:A0}(r:Vals xs R){j:Nat}(h1:j<R.toArray.size):∃x,xs[j]?=some x/\RelV x R.toArray[j]:=by
 have C:j<xs.length:=by rw[r.length];simpa using h1
 obtain⟨u,e1,D⟩:=r.get (Qac C);have q:R.toArray[j]=u:=by
  grind
 rw[q];exact⟨_,Qac C,D⟩
def Zht[DecidableEq m]{kn:KN m}{kvs:List (m×V)}{xs:List (m×Au×As)}(D:Paired (fun(p:m×V) (q:m×Au×As)=>p.1=q.1/\kn.at_ H q.1 q.2.1/\RelV p.2 q.2.2) kvs xs)(k:m):(atKey xs k).isSome=(Yd kvs k).isSome:=by
 have C:=Gx (fun p q h=>h.1) D k;cases hv:Yd kvs k with
 |none=>rw[C.2 hv];rfl
 |some x=>
  obtain⟨q,F,_⟩:=C.1 x hv;rw[F];rfl
def rNInN:R2:=fun x y H Q=>∃(Kk:Type) (_:DecidableEq Kk) (kn:KN Kk) (d a:Au) (k:Kk) (kvs:List (Kk×V)),x=.ref a/\y=.ref d/\wH kn H d kvs/\kn.at_ H k a/\Q (.bl (!(Yd kvs k).isSome)) H
def Zeo(C:X.A.units+2<cLine):OpR X (compareOp .NotIn) rNInN:=by
 intro pins s σ H x y v u Q I G F h;obtain⟨Kk,_,kn,d,a,k,kvs,rfl,rfl,n,O,q⟩:=h;cases G;cases F;obtain⟨xs,dd,D,Y,J⟩:=n.dict I;refine wpAny_notIn_heap (kn.room _ _ _ C) (kn.ok _ _ _ _ _ _ I.hok O) J dd ?_;rw[Zht D];exact⟨.bl _,H,I.tok _,rfl,q⟩
def tNGet(td ty:TE):TE:=fun σ H Q=>td σ H fun x H1=>ty σ H1 fun y H2=>∃(Kk:Type) (_:DecidableEq Kk) (kn:KN Kk) (d a:Au) (k:Kk) (kvs:List (Kk×V)) (v:V),x=.ref d/\y=.ref a/\wH kn H2 d kvs/\kn.at_ H2 k a/\Yd kvs k=some v/\Q v H2
theorem Zl5{i:Av}{ty:TE}(hu:X.A.units+2<cLine)(ho:QE X o O)(hi:QE X i ty)(hs:Zpd i):QE X (.Subscript o i q) (tNGet O ty):=⟨by
 intro pins s σ H Q I h;refine Zd4 PySem.F.slot_dict_getitem.lookup hs (thn (ho.out pins s σ H _ I h) fun u s1 ⟨x,H1,I1,rx,q1⟩=>thn (hi.out pins s1 σ H1 _ I1 q1) fun iv s2 ⟨y,H2,D,ry,Kk,_,kn,d,a,k,kvs,v,ex,Z,n,hk,Y,J⟩=>?_);subst ex;subst Z;obtain rfl:u=Value.ref d:=rx;obtain rfl:iv=Value.ref a:=ry;obtain⟨xs,dd,pr,mu,hm⟩:=n.dict D;obtain⟨C,hq,p',G,e⟩:=(Gx (fun p C h=>h.1) pr k).1 v Y;refine⟨dd.typeIs,wpAny_getItem_heap (kn.room _ _ _ hu) (kn.ok _ _ _ _ _ _ D.hok hk) dd hq ⟨v,H2,D.tok _,e ▸ G.2.2,J⟩⟩⟩
def sNPut(td ty tv:TE):TS:=fun D σ H=>tv σ H fun v H1=>td σ H1 fun x H2=>ty σ H2 fun y q=>∃(Kk:Type) (_:DecidableEq Kk) (kn:KN Kk) (d a:Au) (k:Kk) (kvs:List (Kk×V)),x=.ref d/\y=.ref a/\wH kn q d kvs/\kn.at_ q k a/\Yd kvs k=none/\kvs.length+1<sizeLine /\
 ∀H',wH kn H' d (kvs++[(k,v)])->(∀b o,q b=some o->b≠d->H' b=some o)->(∃o,H'=upd q d o)->D.nx σ H'
theorem Zl6{i:Av}{ty tv:TE}{pos':Pos}(hu:X.A.units+2<cLine)(ho:QE X o O)(hi:QE X i ty)(C:QE X e tv)(hs:swapsWith e (some (.Subscript o i pos')) q.line X.env=pure false):QS X (.Assign [.Subscript o i pos'] e q) (sNPut O ty tv):=⟨by
 intro pins s σ H D I h;refine wpAny_Assign_Subscript (thn (C.out pins s σ H _ I h) fun r s1 ⟨v,H1,I1,rv,q1⟩=>thn (ho.out pins s1 σ H1 _ I1 q1) fun u s2 ⟨x,H2,I2,rx,q2⟩=>thn (hi.out pins s2 σ H2 _ I2 q2) fun iv s3 ⟨y,H3,G,ry,Kk,_,kn,d,a,k,kvs,ex,ey,n,Y,C,hz,q3⟩=>?_) hs;subst ex;subst ey;obtain rfl:u=Value.ref d:=rx;obtain rfl:iv=Value.ref a:=ry;obtain⟨xs,dd,J,mu,hm⟩:=n.dict G;have F:atKey xs k=none:=(Gx (fun p Z h=>h.1) J k).2 C;refine wpAny_setItem_heap (kn.room _ _ _ hu) (kn.ok _ _ _ _ _ _ G.hok Y) dd (fun h' dd' sb=>?_) (by rw[<-Qf6 J];lia);rw[storedH_new F]at dd';obtain⟨H',n',k',o',I'⟩:=uV G n Y rv hz J mu hm C dd' sb;exact⟨σ,H',I',q3 H' n' k' o'⟩⟩
theorem Yf:∀(names:List (Str×NameKind)) (n:Nat) (acc:List (Str×Au)),cellsFrom n names acc=cellsFrom n names []++acc
 |[],_,_=>rfl
 |(x,k)::r,n,acc=>by
  unfold cellsFrom;split
  ·rw[Yf r (n+1) ((x,n)::acc),Yf r (n+1) [(x,n)],Qcy];rfl
  ·exact Yf r n acc
theorem qo:∀(names:List (Str×NameKind)) (n:Nat) {x:Str} {c:Au},(x,c)∈cellsFrom n names []->(x,NameKind.cell)∈names
 |[],_,_,_,h=>nomatch h
 |(y,k)::r,n,x,c,h=>by
  unfold cellsFrom at h;split at h
  ·rename_i q;rw[Yf]at h;rcases Qbb.mp h with h|h
   ·exact Qak _ (qo r (n+1) h)
   ·grind
  ·exact Qak _ (qo r n h)
theorem Jz:∀{l r:List (Str×m)},(l++r).lookup x=match l.lookup x with|some c=>some c|none=>r.lookup x
 |[],r=>rfl
 |(y,c)::l,r=>by
  grind
section
variable {M:Model}{A:Ao}{E:Ab}{s:Aq}
def Zl7{scope:Scope}{globals:Au}{q:List (Str×Au)}{binds:List (Str×As)}{qual:Str}{func:Option Au}{code:As}{builtins:Au}{Q:Env->Shared->Prop}
  (hk:scope.kind=.function) (hl:∀x∈binds,scope.names.lookup x.1=some .local)
  (hQ:∀h' tk,h'.Ns s.heap.objs.size (fun x=>binds.reverse.lookup x)->(∀b o,s.heap.get? b=some o->h'.get? b=some o)->(∀n c,(n,c)∈cellsFrom (s.heap.objs.size+1) scope.names []->h'.IsCell c none/\s.heap.objs.size<c)->
   ((cellsFrom (s.heap.objs.size+1) scope.names []).Pairwise fun x y=>x.2≠y.2)->Q (newEnv scope s.heap.objs.size globals (cellsFrom (s.heap.objs.size+1) scope.names q) qual func code none builtins) {s with heap:=h',toks:=tk}):
  wpAny M A (newFunctionEnv scope globals q binds qual func code none builtins) Q E s:=by
 simp only[newFunctionEnv,Option.isSome_none,Qck,if_false];refine Qaa (wpAny_alloc ?_);refine Qaa (wpAny_layCells _ (fun name kind cells=>by grind) _ _ _ _ ?_);have ok:=cellsFrom_ok scope.names (s.heap.push {cls:=.type "frame",data:=.dict #[]}) (s.heap.objs.size+1) [] ⟨fun _ _ Y=>(nomatch Y),List.Pairwise.nil⟩ (by rw[Qb1];exact Qah _);rw[Qb1]at ok;rw[show({s with heap:=s.heap.push {cls:=.type "frame",data:=.dict #[]}}:Aq).heap.objs.size=s.heap.objs.size+1 from Qb1 ..];refine Qaa (wpAny_forIn_list _
  (fun rest _ s'=>∃C h',binds=C++rest/\s'={s with heap:=h',toks:=s.toks+C.length}/\h'.Ns s.heap.objs.size (fun x=>C.reverse.lookup x) /\
   Heap.SameBut s.heap.objs.size (pushCells (s.heap.push {cls:=.type "frame",data:=.dict #[]}) scope.names) h') _ ?_ ?_ binds _
  ⟨[],_,rfl,rfl,(Heap.Ns.new s.heap (.type "frame")).keeps (pushCells_keeps _ _),Heap.SameBut.refl ..⟩)
 ·rintro⟨name,v⟩ rest _ s' ⟨C,h',J,rfl,F,D⟩;have O:Env.kindOf {scope,locals:=s.heap.objs.size,globals,cells:=cellsFrom (s.heap.objs.size+1) scope.names q,qual,func,code,frame:=some s.heap.objs.size,builtins} name=some .local:=hl (name,v) (by rw[J];simp);have hp:((scope.kind == .class)||((scope.kind == .module)&&(s.heap.objs.size != globals)))=false:=by rw[hk];rfl
  simp only[storeName_local O hp];refine Qaa (wpAny_nsSet F fun Z G I=>Qae ⟨C++[(name,v)],Z,by simp[J],?_,?_,D.trans I⟩)
  ·simp[Nat.add_assoc]
  ·rw[lookup_reverse_snoc];exact G
 ·rintro _ s' ⟨C,h',J,rfl,F,D⟩;rw[Qbm]at J;subst J;refine Qae (hQ h' _ F (fun b o e=>?_) (fun n c Y=>?_) ok.apart)
  ·exact D.extBut b o (Qbi (Qar e)) (pushCells_keeps _ _ b o (Qab _ e))
  ·obtain⟨q1,q2⟩:=ok.empty n c Y;exact⟨q1.sameBut D (Qej q2),q2⟩
end
structure Zl8(scope:Scope)(ps ls ys:Ai):Prop where
 kind:scope.kind=.function
 co:scope.isCoroutine=false
 gen:scope.isGenerator=false
 par:∀p∈ps,scope.names.lookup p=some .local
 free:∀y∈ys,scope.names.lookup y=some .free
 nd:(ps++(ls++ys)).Nodup
 ndn:(scope.names.map (·.1)).Nodup
def cxN(P:An)(w:Ar)(K:Af)(mg:Ae)(base:Heap)(N:Ai)(qual:Str)(scope:Scope)(f:Au)(q:As)(cl:List (Str×Au))(A:Ao)(outer:List Env)(s:Aq)(H:Hp):Cx where
 prog:=P
 w:=w
 K:=K
 mg:=mg
 base:=base
 A:=A.deeper (PySem.W.envX qual scope s.heap.objs.size f q (cellsFrom (s.heap.objs.size+1) scope.names cl))
 N:=N
 s₀:=s
 H₀:=H
 env:=PySem.W.envX qual scope s.heap.objs.size f q (cellsFrom (s.heap.objs.size+1) scope.names cl)
 outer:=outer
 stack:=PySem.W.envX qual scope s.heap.objs.size f q (cellsFrom (s.heap.objs.size+1) scope.names cl)::outer
 ex:=[]
 calm:=true
 fn:=fun x=>scope.names.lookup x == some .cell
 pn:=[]
 xe:=fun _ _=>False
def Zj3(n m:Nat)(ts:TS)(cs:List Au)(q:List (Option V)):Sp:=fun vs H Q _=>vs.length=n/\ts {nx:=fun _ H'=>(∀c∈cs,H' c=none)->Q .non (Wg cs H H'),rt:=fun v H'=>(∀c∈cs,H' c=none)->Q v (Wg cs H H')} (vs.map some++(List.replicate m none++q)) (hide cs H)
section
variable {P:An}{w:Ar}{K:Af}{mg:Ae}{base:Heap}
theorem yN{k:Nat}{name qual:Str}{params:Arguments}{body:List Aw}{scope:Scope}{cl:List (Str×Au)}{doc pm ctv:As}{ps ls ys:Ai}{cv:List (Option V)}{ts:TS}
  (S:Zl8 scope ps ls ys) (hf:H f=some (XM (PySem.W.fnMade name qual params body scope cl doc pm L ctv))) (hc:H L=some (XM Z)) (hoc:jU Z qual)
  (hcl:∀x c,cl.lookup x=some c->c∈J) (hcs:∀c∈J,∃o v,H c=some (XM o)/\o.data=.cell v)
  (inj:∀x y c,cl.lookup x=some c->cl.lookup y=some c->x=y) (has:∀x,scope.names.lookup x=some .free->∃c,cl.lookup x=some c)
  (hcv:cv.length=ys.length) (hval:∀(i:Nat) (y:Str) (v:V),ys[i]?=some y->cv[i]?=some (some v)->∃c o u,cl.lookup y=some c/\H c=some (XM o)/\o.data=.cell (some u)/\RelV v u)
  (hb:∀us:Ag,us.length=ps.length->bindArgs (PySem.W.fnX name qual params body scope cl .none .none doc pm none (.ref L) ctv) ⟨us,[]⟩=pure (ps.zip us))
  (hbody:∀(A:Ao) (outer:List Env) (s:Aq) (H1:Hp),WT k (A.deeper (PySem.W.envX qual scope s.heap.objs.size f (.ref L) (cellsFrom (s.heap.objs.size+1) scope.names cl)))->PSs (cxN P w K mg base (ps++(ls++ys)) qual scope f (.ref L) cl A outer s H1) body ts):
  Xr P w K mg base (k+1) f H (Zj3 ps.length ls.length ts J cv):=by
 refine⟨⟨_,_,hf,rfl⟩,?_⟩;intro A outer s H1 us vs Q E fz hr F r ht;obtain⟨hl,ht⟩:=ht;have gf:s.heap.get? f=some (PySem.W.fnMade name qual params body scope cl doc pm L ctv):=(F.hok f _ (fz _ _ _ hf)).1;have Y:∀c∈J,∃o v,H1 c=some (XM o)/\o.data=.cell v/\s.heap.get? c=some o:=fun c m=>by
  obtain⟨o,v,e,d⟩:=hcs c m;exact⟨o,v,fz _ _ _ e,d,(F.hok c _ (fz _ _ _ e)).1⟩
 have hcs2:∀c∈J,∃o,H1 c=some (XM o):=fun c m=>let⟨o,_,e,_⟩:=Y c m;⟨o,e⟩;obtain⟨vs0,t0,hd0,hv0⟩:=hoc;have lim:s.heap.NoLimit:=F.mod.nolimit.keeps fun b o e=>(F.bs b o e).1;have lus:us.length=ps.length:=by rw[<-r.length];exact hl
 refine codeAny_call_function hr.depth gf rfl S.co S.gen rfl ⟨L,Z,vs0,t0,rfl,(F.hok L _ (fz _ _ _ hc)).1,hd0,hv0⟩ ?_;rw[hb us lus];refine Qae (Zl7 S.kind (fun x hx=>S.par _ (Qfg hx).1) fun h₁ tk hns old O hap=>⟨lim.keeps old,codeAny_func ?_⟩);have ndp:ps.Nodup:=(Qe6.mp S.nd).1;have look:∀x c,(cellsFrom (s.heap.objs.size+1) scope.names cl).lookup x=some c->((x,c)∈cellsFrom (s.heap.objs.size+1) scope.names []/\(cellsFrom (s.heap.objs.size+1) scope.names []).lookup x=some c)\/cl.lookup x=some c:=fun x c e=>by
  rw[Yf,Jz]at e;cases q:(cellsFrom (s.heap.objs.size+1) scope.names []).lookup x with
  |none=>rw[q]at e;exact .inr e
  |some d=>rw[q]at e;cases e;exact .inl ⟨Qcb q,rfl⟩
 have D:∀x,scope.names.lookup x=some .free->(cellsFrom (s.heap.objs.size+1) scope.names cl).lookup x=cl.lookup x:=fun x hx=>by
  rw[Yf,Jz];cases q:(cellsFrom (s.heap.objs.size+1) scope.names []).lookup x with
  |none=>rfl
  |some d=>
   have m1:=qo scope.names _ (Qcb q);have m2:=Qcb hx;have:∀{l:List (Str×NameKind)},(l.map (·.1)).Nodup->(x,NameKind.cell)∈l->(x,NameKind.free)∈l->False:=fun{l} nd a b=>by
    induction l with
    |nil=>cases a
    |cons p l ih=>
     rw[Qbx,Qc4]at nd;rcases Qaq.mp a with a|a<;>rcases Qaq.mp b with b|b
     ·rw[<-a]at b;cases b
     ·exact nd.1 (by rw[<-a];exact Qcm (f:=(·.1)) b)
     ·exact nd.1 (by rw[<-b];exact Qcm (f:=(·.1)) a)
     ·exact ih nd.2 a b
   exact(this S.ndn m1 m2).elim
 have oldC:∀x c,cl.lookup x=some c->c<s.heap.objs.size:=fun x c e=>by
  obtain⟨o,v,_,_,g⟩:=Y c (hcl x c e);exact Qar g
 have I:Inv (cxN P w K mg base (ps++(ls++ys)) qual scope f (.ref L) cl A outer s (hide J H1)) [] (vs.map some++(List.replicate ls.length none++cv)) (hide J H1) {s with heap:=h₁,toks:=tk}:=by
  have noA:∀b:Au,b∉([]:List Au):=fun b z=>nomatch z;refine⟨⟨F.mod,S.kind,rfl,rfl,Qah _,fun x y c h1 h2=>?_,fun y hy=>?_,fun y c hy h=>?_,fun _=>hr.hd,Qfz F.frames,.inr ⟨rfl,rfl⟩,fun b z=>absurd z (noA b),fun b o e=>⟨(F.bs b o e).1,?_⟩,F.bsz,fun b _ _=>noA b,fun b z=>absurd z (noA b),F.funs,fun b hb=>?_⟩,
   rfl,F.bare,Un.kept old,⟨_,hns,fun i y v h1 h2 h3=>?_⟩,fun y c h=>?_,?_,fun y c h=>?_,fun p hp=>absurd (show p∈([]:Ac)from hp) (by simp),(gm F.hok hcs2).kept old,?_⟩
  ·rcases look x c h1 with⟨m1,_⟩|l1<;>rcases look y c h2 with⟨m2,_⟩|l2
   ·exact name_of_addr hap m1 m2
   ·exact absurd (oldC y c l2) (Qgz.mpr (Qau (O x c m1).2))
   ·exact absurd (oldC x c l1) (Qgz.mpr (Qau (O y c m2).2))
   ·exact inj x y c l1 l2
  ·have hy:scope.names.lookup y=some .cell\/scope.names.lookup y=some .free:=hy;rcases hy with hy|hy
   ·obtain⟨c,e⟩:=xA (n:=s.heap.objs.size+1) hy;exact⟨c,by show(cellsFrom (s.heap.objs.size+1) scope.names cl).lookup y=_;rw[Yf,Jz,e]⟩
   ·obtain⟨c,e⟩:=has y hy;exact⟨c,by show(cellsFrom (s.heap.objs.size+1) scope.names cl).lookup y=_;rw[D y hy,e]⟩
  ·have hy:scope.names.lookup y=some .cell:=eq_of_beq (show(scope.names.lookup y == some .cell)=true from hy);obtain⟨d,e⟩:=xA (n:=s.heap.objs.size+1) hy;have h':(cellsFrom (s.heap.objs.size+1) scope.names cl).lookup y=some c:=h;rw[Yf,Jz,e]at h';cases h';exact Qau (O y _ (Qcb e)).2
  ·by_cases m:b∈J
   ·exact YS m
   ·exact(ZD m).trans (F.bs b o e).2
  ·by_cases m:b∈J
   ·exact YS m
   ·exact(ZD m).trans (F.frf b hb)
  ·by_cases hi:i<vs.length
   ·rw[Qbc (by simpa using hi),Qam]at h2;have ha:vs[i]?=some v:=by
     cases e:vs[i]? with
     |none=>rw[e]at h2;cases h2
     |some a=>rw[e]at h2;cases h2;rfl
    obtain⟨u,hu,rv⟩:=r.get ha;have G:(ps++(ls++ys))[i]?=some y:=h1;rw[Qbc (by lia)]at G;exact⟨u,rv,.inl ⟨S.par y (Qag G),jT ndp G hu lus.symm⟩⟩
   ·rw[Qa2 (by simpa using hi),Qad]at h2;have G:(ps++(ls++ys))[i]?=some y:=h1;rw[Qa2 (by lia),<-hl]at G
    by_cases hj:i-vs.length<ls.length
    ·rw[Qbc (by rw[Qbj];exact hj),List.getElem?_replicate]at h2;split at h2<;>cases h2
    ·rw[Qa2 (by rw[Qbj];lia),Qbj]at h2;rw[Qa2 (by lia)]at G;obtain⟨c,o,u,e1,e2,e3,rv⟩:=hval _ y v G h2;have hfy:=S.free y (Qag G);exact⟨u,rv,.inr ⟨.inr hfy,c,(D y hfy).trans e1,o,old _ _ (F.hok c _ (fz _ _ _ e2)).1,e3⟩⟩
  ·rcases look y c h with⟨m1,_⟩|l1
   ·exact⟨none,(O y c m1).1⟩
   ·obtain⟨o,v,_,d,g⟩:=Y c (hcl y c l1);exact⟨v,o,old _ _ g,d⟩
  ·show hide J H1 s.heap.objs.size=none
   by_cases m:s.heap.objs.size∈J
   ·exact YS m
   ·rw[ZD m];exact F.hok.fresh (Qah _)
  ·rcases look y c h with⟨m1,_⟩|l1
   ·by_cases m:c∈J
    ·exact YS m
    ·rw[ZD m];exact F.hok.fresh (Qau (O y c m1).2)
   ·exact YS (hcl y c l1)
  ·show(vs.map some++(List.replicate ls.length none++cv)).length=(ps++(ls++ys)).length;rw[Qaf,Qaf,Qaf,Qaf,Qad,Qbj,hl,hcv]
 refine Qde (hbody A outer s (hide J H1) (hr.deeper _) [] _ _ _ _ I ht) (fun fl s' hs=>?_) fun _ _ z=>z.elim;have fin:∀{σ':St} {H':Hp} {v:V} {u:As},Inv (cxN P w K mg base (ps++(ls++ys)) qual scope f (.ref L) cl A outer s (hide J H1)) [] σ' H' s'->RelV v u->((∀c∈J,H' c=none)->Q v (Wg J H1 H'))->CE outer P w H1 s Q u s':=fun{σ' H' v u} C rv q=>uR F Y C.os C.bare C.base C.hok rv q;cases fl with
 |ret u=>
  obtain⟨v,σ',H',C,rv,q⟩:=hs;exact fin C rv q
 |next=>
  obtain⟨σ',H',C,q⟩:=hs;exact fin (v:=V.non) (u:=Value.none) C rfl q
 |brk=>
  obtain⟨_,_,_,q⟩:=hs;exact False.elim q
 |cont=>
  obtain⟨_,_,_,q⟩:=hs;exact False.elim q
end
def tDef(P:Au)(lpos:Pos)(qual:Str)(C:Au->Value->Value->Obj)(i:Nat):TS:=fun D σ H=>ZG H P lpos qual /\
 ∀(f G:Au) (oc:Obj) (q F:As) (H2:Hp),H f=none->H2 f=some (XM (C G q F))->H2 G=some (XM oc)->jU oc qual->ZG H2 P lpos qual->(∀b o,H b=some o->b≠P->H2 b=some o)->D.nx (σ.set i (some (.ref f))) H2
section
variable {X:Cx}{params:Arguments}{body:List Aw}{scope:Scope}{lpos:Pos}{c P:Au}{name qual:Str}
abbrev jY (X:Cx) (name qual:Str) (params:Arguments) (body:List Aw) (scope:Scope):Au->Value->Value->Obj:=fun D q C=>PySem.W.fnMade name qual params body scope (xV X.env.cells scope.names []) C ((X.mg "__name__").getD .none) D q
theorem qs_def{S0:Scope}(hN:X.N.Nodup)(hi:X.N[i]?=some name)(hx:Loc X.env.scope name)(O:X.env.code=.ref c)(C:PySem.W.CodeHd X.base c P)(B:yK X.mg X.base)(hd0:params.defaults=[])(hk0:params.kw_defaults=[])(han:annTrees params none X.env=[])(hq:qualnameIn X.env name name=qual)
  (hX:X.env.scope=S0) (hfr0:∀y∈scope.names,y.2=.free->S0.names.lookup y.1=some .cell) (hf:X.fn name=true\/X.env.scope.names.lookup name=some .local:=by first|exact .inl rfl|exact .inr rfl|assumption):
  QS X (.FunctionDef name params body [] none [] scope none name lpos) (tDef P lpos qual (jY X name qual params body scope) i):=by
 have hfree:∀y∈scope.names,y.2=.free->X.env.scope.names.lookup y.1=some .cell:=fun y hy h=>by rw[hX];exact hfr0 y hy h
 refine⟨?_⟩;intro pins s σ H D I hw;obtain⟨Y,hq2⟩:=hw;refine PySem.W.nestDef_K hd0 hk0 han ?_;rw[hq];have hcl:closureFor scope X.env=pure (xV X.env.cells scope.names []):=Jt fun y hy h=>I.ok.has y.1 (.inl (hfree y hy h));have hg:s.heap.Ns mainGlobals X.mg:=I.mod.glob.keeps I.bk;obtain⟨pz,hPs⟩:=Y.ex;have J:X.base.get? P=none:=by
  cases e:X.base.get? P with
  |none=>rfl
  |some o=>rw[(I.bs P o e).2]at hPs;cases hPs
 have hgP:mainGlobals≠P:=fun e=>by
  obtain⟨o,es,ep,g,_⟩:=I.mod.glob;rw[e,J]at g;cases g
 have hb:s.heap.BuiltinsAt X.mg P:=by
  obtain⟨bm,ob,b1,b2,b3,b4,b5,b6⟩:=B.ex;refine⟨bm,ob,b1,b2,fun e=>?_,(fun e=>by rw[e,J]at b3;cases b3),I.bk _ _ b3,b4,b5,b6⟩;obtain⟨o,es,ep,g,hd,_⟩:=I.mod.glob;rw[<-e,b3]at g;cases g;rw[b6]at hd;cases hd
 rcases Y with Y|⟨q,oc,Y,hc',Z⟩
 ·have hP:s.heap.get? P=some (PySem.W.tabObj #[]):=I.hok P _ Y;refine PySem.W.makeFunction_K (mg:=X.mg) (ps:=#[]) hcl I.ok.glob hg O (C.keeps I.bk) hP trivial rfl hgP hb fun q G F h' tk hx' hge hlt hrec htb=>?_;obtain⟨c₂,oc,vs,t,e2,Z,hd,hv⟩:=hrec;cases e2;have cn:H q=none:=I.hok.fresh hge;have cP:q≠P:=fun e=>by rw[e,Y]at cn;cases cn
  have hsz:s.heap.objs.size<=h'.objs.size:=Qa8 hge (Qau hlt);have I2:=uS (lpos:=lpos) (fo:=jY X name qual params body scope q G F) (tk:=tk) I Y hx' hge hlt Z htb;have fn:H h'.objs.size=none:=I.hok.fresh hsz;have fc:q≠h'.objs.size:=Qbi hlt;have fP:P≠h'.objs.size:=Zm Y fn;refine Gj I2 hN hi hx (v:=.ref h'.objs.size) rfl (fun s' I3=>⟨_,_,I3,hq2 _ q oc G F _ fn Za ?_ ⟨vs,t,hd,hv⟩ (.inr ⟨q,oc,?_,?_,⟨vs,t,hd,hv⟩⟩) fun b o e hbP=>?_⟩) hf
  ·rw[Zk fc];exact Za
  ·rw[Zk fP,Zk cP.symm];exact Za
  ·rw[Zk fc];exact Za
  ·rw[Zk (Zm e fn),Zk (Zm e cn),Zk hbP];exact e
 ·have hP:s.heap.get? P=some (PySem.W.tabObj #[rawInt lpos.line,rawInt lpos.col,.ref q]):=I.hok P _ Y;have hfd:codeAmong lpos (#[rawInt lpos.line,rawInt lpos.col,.ref q]:Ah).toList=some (.ref q):=by
   show(if((lpos.line:Int) == lpos.line&&(lpos.col:Int) == lpos.col)=true then some (Value.ref q)else _)=_;rw[Qdi,Qdi];rfl
  refine PySem.W.makeFunction_hit (mg:=X.mg) hcl I.ok.glob hg O (C.keeps I.bk) hP trivial hfd hb fun G F h' tk hk hsz=>?_;have I2:=I.laid (h':=h'.push (jY X name qual params body scope q G F)) (t':=tk) (a:=h'.objs.size) (o:=XM (jY X name qual params body scope q G F)) (fun b u e=>Qab _ (hk b u e)) hsz (qk (Qao _ rfl));have fn:H h'.objs.size=none:=I.hok.fresh hsz;have sm:∀b o,H b=some o->upd H h'.objs.size (XM (jY X name qual params body scope q G F)) b=some o:=fun b o e=>by rw[Zk (Zm e fn)];exact e
  exact Gj I2 hN hi hx (v:=.ref h'.objs.size) rfl (fun s' I3=>⟨_,_,I3,hq2 _ q oc G F _ fn Za (sm _ _ hc') Z (.inr ⟨q,oc,sm _ _ Y,sm _ _ hc',Z⟩) fun b o e _=>sm b o e⟩) hf
end
def tCallN(I:An)(w:Ar)(K:Af)(mg:Ae)(base:Heap)(k:Nat)(sp:Sp)(qual:Str)(q:Au->Value->Value->Obj)(ta:TA)(i n m:Nat)(is:Aj)(ts:TS):TE:=fun σ H Q=>ta σ H fun vs H1=>
 ∃(f F:Au) (oc:Obj) (D C:As),σ[i]?=some (some (.ref f))/\H1 f=some (XM (q F D C))/\H1 F=some (XM oc)/\jU oc qual /\
 ∀(cs:List Au) (H2:Hp),(∀c∈cs,H1 c=none)->(∀c∈cs,∃o,H2 c=some (XM o))->(∀b o,H1 b=some o->H2 b=some o)->
  Xr I w K mg base k f H2 (Zj3 n m ts cs (is.map fun i=>(σ[i]?).getD none))->sp vs H2 (fun v G=>Q v (hide cs G)) E0
structure Zon(S0 scope:Scope)(N0 ps ls ys:Ai)(is:Aj):Prop where
 sc:Zl8 scope ps ls ys
 free:∀y∈scope.names,y.2=.free->S0.names.lookup y.1=some .cell
 vis:∀q∈ys.zip is,N0[q.2]?=some q.1
 len:ys.length=is.length
section
variable {X:Cx}{params:Arguments}{body:List Aw}{scope:Scope}{p pos:Pos}{g:Au}{name qual x:Str}{k kl:Nat}{gd:Am}{pg ps ls ys:Ai}{is:Aj}{sp:Sp}{ts:TS}{e:Av}{es:Al}{ta:TA}
def Zhu(F:Yx X.prog X.w X.K X.mg X.base CX0 k g gd pg sp)(hr:WT k X.A)(hg:Gl X x)(hm:X.mg x=some (.ref g))(hk:PySem.W.keepIn X.K (.ref g)=true)(hb:Binds X.K gd pg [])(hfn:X.fn=fun _=>true)
  (ha:QA X (e::es) ta) {S0:Scope} {N0:Ai} (hX:X.env.scope=S0) (hXN:X.N=N0) (LL:Zon S0 scope N0 ps ls ys is)
  (O:∀(cl:List (Str×Au)) (doc pm cv ctv:As) (Z:Ag),Z.length=ps.length->bindArgs (PySem.W.fnX name qual params body scope cl .none .none doc pm none cv ctv) ⟨Z,[]⟩=pure (ps.zip Z))
  (J:∀(f c':Au) (cl:List (Str×Au)) (A:Ao) (outer:List Env) (s:Aq) (H1:Hp),WT kl (A.deeper (PySem.W.envX qual scope s.heap.objs.size f (.ref c') (cellsFrom (s.heap.objs.size+1) scope.names cl)))->QSs (cxN X.prog X.w X.K X.mg X.base (ps++(ls++ys)) qual scope f (.ref c') cl A outer s H1) body ts)
  (hdb:(x == ("__debug__" : Str))=false:=by decide) (hp:(e::es).all ZX=true:=by rfl):
  QE X (.Call (.Name x p) (e::es) [] pos) (tCallN X.prog X.w X.K X.mg X.base (kl+1) sp qual (jY X name qual params body scope) ta i ps.length ls.length is ts):=by
 rw[Qdm,Qb5]at hp;have S:=LL.sc;have C:∀y∈scope.names,y.2=.free->X.env.scope.names.lookup y.1=some .cell:=fun y hy h=>by rw[hX];exact LL.free y hy h
 have hN:∀q∈ys.zip is,X.N[q.2]?=some q.1:=fun q hq=>by rw[hXN];exact LL.vis q hq
 refine⟨?_⟩;intro pins s σ H Q I hw;refine Qc0 (yw I hg hm ?_ hdb);refine Qgk (h₀:=X.base) I.ok.mod.kin hk (thn (ha.out pos pins s σ H _ I hw) fun Z s1 ⟨vs,H1,G,r,f,c',oc,ctv,doc,hσ,hf,hc',hoc,q⟩=>⟨G.kIn,?_⟩) (Zz hp.1) (XA hp.2);have Y:∀y d,(xV X.env.cells scope.names []).lookup y=some d->X.env.cells.lookup y=some d:=
  Gm (fun y hy h=>G.ok.has y.1 (.inl (C y hy h))) fun _ _ z=>by cases z
 have D:=xE G;have hcs:=yL G;refine ze F hr hb hfn G r (q (cellsOf X.env.cells) (Zbl X s1 H1) (Wh G) (fun d m=>let⟨o,_,e,_⟩:=hcs d m;⟨o,e⟩) D ?_);exact yN (ls:=ls) (ys:=ys) S (D _ _ hf) (D _ _ hc') hoc (fun y d h=>Xl.mpr ⟨y,Y y d h⟩) (fun d m=>let⟨o,v,e,hd,_⟩:=hcs d m;⟨o,v,e,hd⟩) (fun y z d h1 h2=>G.ok.inj y z d (Y y d h1) (Y z d h2)) (fun y h=>Ju h) (by rw[Qad,LL.len])
  (ko (N0:=N0) G C S.free hN LL.len) (fun Z hl=>O _ _ _ _ _ Z hl) fun A outer s H1 hr=>(J f c' _ A outer s H1 hr).out
end
def QE.or{t u:TE}(h:QE X e t)(g:QE X e u):QE X e (fun σ H Q=>t σ H Q\/u σ H Q):=⟨fun pins s σ H Q I z=>z.elim (h.out pins s σ H Q I) (g.out pins s σ H Q I)⟩
def QS.or{e:Aw}{t u:TS}(h:QS X e t)(g:QS X e u):QS X e (fun D σ H=>t D σ H\/u D σ H):=⟨fun pins s σ H D I z=>z.elim (h.out pins s σ H D I) (g.out pins s σ H D I)⟩
def Zl9(tk tv:TE):TE:=fun σ H Q=>∀d,H d=none->tk σ (upd H d (.dK [])) fun x H1=>tv σ H1 fun v H2=>∃(Kk:Type) (_:DecidableEq Kk) (kn:KN Kk) (a:Au) (k:Kk),x=.ref a/\H2 d=some (.dK [])/\kn.at_ H2 k a /\
 ∀H',wH kn H' d [(k,v)]->(∀b o,H2 b=some o->b≠d->H' b=some o)->(∃o,H'=upd H2 d o)->Q (.ref d) H'
def Zep{k v:Av}{tk:TE}(hu:X.A.units+2<cLine)(O:QE X k tk)(G:QE X v d):QE X (.Dict [some k] [v] p) (Zl9 tk d):=by
 refine⟨fun pins s σ H Q I q=>?_⟩;have hn:=I.hok.fresh (Qah s.heap.objs.size);have I1:=I.laid (a:=s.heap.objs.size) (o:=.dK []) (h':=s.heap.push {cls:=.type "dict",data:=.dict #[]}) (t':=s.toks) (fun _ _ q=>Qab _ q) (Qah _) (y9 s.heap I.big);refine wpAny_Dict_any rfl rfl (fun z=>nomatch z) (by show 1<=15;decide) (thn (pp1 O G pins _ σ _ _ I1 (q _ hn)) fun ws s2 ⟨x,y,u,r,H2,ew,C,J,ry,Kk,_,kn,a,kk,ex,e,D,F⟩=>?_);subst ew ex;cases(show u=Value.ref a from J);have n:wH kn H2 s.heap.objs.size []:=⟨Qdb,(show 0<sizeLine by decide),.inl ⟨rfl,e⟩⟩;obtain⟨xs,dd,pr,mu,hm⟩:=n.dict C;cases pr;unfold storeAll;rw[List.forIn_cons];refine Qaa (Qaa (wpAny_dictSet_heap (hsz:=Qbp _) (kn.room0 _ _ _ hu) (kn.ok _ _ _ _ _ _ C.hok D) dd fun h' dd' Z=>Qae ?_));show wpAny _ _ (forIn ([]:List (As×As)) PUnit.unit _) _ _ _;obtain⟨H',n',k',o',Y⟩:=uV C n D ry (show 0+1<sizeLine by decide) .nil mu hm rfl dd' Z;exact Qae ⟨.ref s.heap.objs.size,H',Y,rfl,F H' n' k' o'⟩
def PI.or{tg l:Av}{t u:TI}(h:PI X tg l t)(g:PI X tg l u):PI X tg l (fun σ H R=>t σ H R\/u σ H R):=fun pins s σ H R I z=>z.elim (h pins s σ H R I) (g pins s σ H R I)
def QI.or{tg l:Av}{t u:TI}(h:QI X tg l t)(g:QI X tg l u):QI X tg l (fun σ H R=>t σ H R\/u σ H R):=⟨PI.or h.out g.out⟩
section
variable {prog:An}{w:Ar}{A:Ao}{R:Result->Shared->Prop}{I:Au}{fp wr:List Au}{n:Nat}{P:Nat->Value->Prop}{St:Nat->Heap->Prop}{d:As}
theorem Zma(W:Walks prog w A.in1 I fp wr n P St)(bt:Nat->Nat->Bool)(hcmp:CmpOf prog w A.in1 .Gt P bt)(S:Au)(hSf:S∉fp):
  ∀(k j:Nat) (s:Aq) (Y:As) (c:Nat),n-(j+1)=k->j+1<=n->St (j+1) s.heap->P (argBest bt j) Y->
  s.heap.get? S=some {cls:=.type "list",dict:=none,data:=.seq #[Y,Y] c,slots:=#[]}->
  (∀v h' tk,P (argBest bt (n-1)) v->(∀b o,b∉wr->b≠S->s.heap.get? b=some o->h'.get? b=some o)->R (.ok (.ret v)) {s with heap:=h',toks:=tk})->
  codeAny (model prog w) A (.builtin "max.loop" ⟨[.ref I,.none,.ref S],[("default",d)]⟩) R s:=by
 have hSw:S∉wr:=fun h=>hSf (W.sub _ h);have hname:(toString "max" ++ toString ".loop" : String) = "max.loop" :=by decide
 intro k
 induction k with
 |zero=>
  intro j s Y c hk hj hst O hS hR;have hin:j+1=n:=by lia
  refine Qco Qfp ?_;refine Qaa (Qcd hS rfl ?_);refine Qaa (Qft (W.done s _ _ (hin ▸ hst) fun h' tk C=>?_));have F:=C S _ hSw hS;refine Qaa ?_;refine Qdr F rfl (Qaa (Qev (Qae ?_)));refine hR Y _ tk (by rw[<-hin];exact O) fun b o q D e=>(Qbw _ _ (Qd8 D)).trans (C b o q e)
 |succ k ih=>
  intro j s Y c hk hj hst O hS hR;have hlt:j+1<n:=by lia
  refine Qco Qfp ?_;refine Qaa (Qcd hS rfl ?_);refine Qaa (Qft (W.item (j+1) s _ _ hlt hst fun v h' tk hP Z C=>?_));have F:=C S _ hSw hS;show wpAny _ A.in1 (tryCatch (holding [v,v] (richCompare .Gt v Y >>= _)) _ >>= _) _ _ _;refine Qaa (Qft (Qcl (Qaa (hcmp (j+1) (argBest bt j) v Y _ _ _ hP O ?_))));refine Qaa (Qcl (Qc7 ?_));refine Qaa (Qev (Qae ?_));cases hb:bt (j+1) (argBest bt j)with
  |true=>
   refine Qaa ?_;refine Qdr F rfl (Qaa (Qev ?_));refine Qae ⟨Qdo Qeq _,ih (j+1) _ v _ (by lia) hlt (W.frame _ _ _ Z fun b hbf o e=>?_) (by simp only[argBest,hb,if_true];exact hP) (Qbk _ F rfl)
    fun v' h'' G hP' J=>?_⟩
   ·exact(Qbw _ _ (fun h:S=b=>hSf (by rw[h];exact hbf))).trans e
   ·exact hR v' h'' G hP' fun b o q D e=>J b o q D ((Qbw _ _ (Qd8 D)).trans (C b o q e))
  |false=>
   refine Qaa (Qev ?_);refine Qae ⟨Qdo Qeq _,ih (j+1) _ Y c (by lia) hlt Z (by simp only[argBest,hb,Qck,if_false];exact O) F fun v' h'' G hP' J=>?_⟩;exact hR v' h'' G hP' fun b o q D e=>J b o q D (C b o q e)
def Zhv(W:Walks prog w A.in1 I fp wr n P St)(bt:Nat->Nat->Bool)(hcmp:CmpOf prog w A.in1 .Gt P bt)(S:Au)(D:S∉fp){c:Nat}(F:St 0 s.heap)
  (hS:s.heap.get? S=some {cls:=.type "list",dict:=none,data:=.seq #[] c,slots:=#[]})
  (h0:n=0->∀h' tk,(∀b o,b∉wr->b≠S->s.heap.get? b=some o->h'.get? b=some o)->R (.ok (.ret d)) {s with heap:=h',toks:=tk})
  (hR:0<n->∀v h' tk,P (argBest bt (n-1)) v->(∀b o,b∉wr->b≠S->s.heap.get? b=some o->h'.get? b=some o)->R (.ok (.ret v)) {s with heap:=h',toks:=tk}):
  codeAny (model prog w) A (.builtin "max.loop" ⟨[.ref I,.none,.ref S],[("default",d)]⟩) R s:=by
 have hSw:S∉wr:=fun h=>D (W.sub _ h);have hname:(toString "max" ++ toString ".loop" : String) = "max.loop" :=by decide
 refine Qco Qfp ?_;refine Qaa (Qcd hS rfl ?_)
 by_cases hn:0<n
 ·refine Qaa (Qft (W.item 0 s _ _ hn F fun v h' tk hP hst' q=>?_));have Z:=q S _ hSw hS;show wpAny _ A.in1 (updateSeq S (fun _=>#[v,v]) >>= _) _ _ _;refine Qaa ?_;refine Qdr Z rfl ?_;refine Qae ⟨Qdo Qeq _,Zma W bt hcmp S D _ 0 _ v _ rfl hn (W.frame _ _ _ hst' fun b hbf o e=>?_) hP (Qbk _ Z rfl) fun v' h'' Y hP' G=>?_⟩
  ·exact(Qbw _ _ (fun h:S=b=>D (by rw[h];exact hbf))).trans e
  ·exact hR hn v' h'' Y hP' fun b o C O e=>G b o C O ((Qbw _ _ (Qd8 O)).trans (q b o C e))
 ·have J:n=0:=by lia
  refine Qaa (Qft (W.done s _ _ (by rw[J];exact F) fun h' tk q=>?_));refine Qaa (Qdk (Qae ?_));exact h0 J h' tk fun b o C _ e=>q b o C e
end
def Zhw (a v:As):argsOk "max" ⟨[a],[(Str.ofString "default",v)]⟩:=by kernel_rfl
section
variable {prog:An}{w:Ar}{A:Ao}{E:Ab}{s:Aq}{l:Au}{xs:Array (Int×Tok)}{d:As}
def Zeq(hh:A.handled=none)(O:s.heap.IsList l (intItems xs))(Y:xs.size=0->∀h' tk,(∀b o,s.heap.get? b=some o->h'.get? b=some o)->Q d {s with heap:=h',toks:=tk})
  (h:0<xs.size->∀v h' tk,(intItems xs)[argBest (fun i j=>decide (numAt xs i>numAt xs j)) (xs.size-1)]?=some v->(∀b o,s.heap.get? b=some o->h'.get? b=some o)->Q v {s with heap:=h',toks:=tk}):
  A1 prog w A (call (.builtin "max") [.ref l] [(Str.ofString "default",d)]) Q E s:=by
 have q:(toString "max" ++ toString ".loop" : String) = "max.loop" :=by decide
 refine PyProof.Rows.kmk_tree PySem.F.kind_max PySem.F.plain_max PySem.F.entry_max (Zhw _ _) ?_;refine Qaa (Qdc (show Builtin.Builtins.bindParams "max" ["key","default"] 0 ⟨[],[(Str.ofString "default",d)]⟩=pure [none,some d]from rfl) ?_);refine Qaa (Qae ?_);refine Qaa (iter_intList O fun s₂ e st C G=>?_);subst e;refine Qaa (Qa9 ?_);have W:=Walks.list (prog:=prog) (w:=w) (A:=A.in1) hh _ l G (intItems xs);have hsz:(intItems xs).size=xs.size:=by simp[intItems]
 refine Qae ⟨Qdo Qeq _,Zhv W _ (CmpOf.ints_gt (numAt xs) (fun _ _=>intItems_at)) _ (fun hm=>Qb4 _ (C _ hm)) (W.frame _ _ _ st fun b _ o e=>Qab _ e) (Qao _ rfl) (fun D h' tk I=>?_) fun D v h' tk Z I=>?_⟩
 ·exact Y (by rw[<-hsz];exact D) h' tk (old_kept fun b o J e=>I b o J (Qbi (Qar e)) (Qab _ e))
 ·exact h (by rw[<-hsz];exact D) v h' tk (by simpa[intItems]using Z) (old_kept fun b o J e=>I b o J (Qbi (Qar e)) (Qab _ e))
end
def tMaxD(K:Af)(ta td:TE):TE:=fun σ H Q=>ta σ H fun x H1=>td σ H1 fun y H2=>∃(p:Au) (ns:Ak),x=.ref p/\SqL K H2 p (ns.map V.int)/\(ns=[]->Q y H2)/\∀m∈ns,(∀n∈ns,n<=m)->Q (.int m) H2
def Zmb {a:Av}  {kp:Pos} (hc:X.calm=true) (hg:Gl X "max") (hm:X.mg "max" = none) (ha:QE X a d) (hd:QE X e O) (hp:ZX a=true:=by rfl):
  QE X (.Call (.Name "max" p) [a] [⟨some "default",e,kp⟩] q) (tMaxD X.K d O):=by
 refine⟨fun pins s σ H Q I hw=>?_⟩;refine Qc0 (JF I hg hm bt_max ?_ (by decide));have hs:=Zz (rest:=[]) (env:=X.env) hp;refine callWith_kw ?_ (by rw[hs];rfl) (by rw[hs];rfl);rw[hs];refine Qcs (thn (ha.out pins s σ H _ I hw) fun u s1 ⟨x,H1,I1,r1,q1⟩=>?_);refine Qdy (kws_cons (thn (hd.out pins s1 σ H1 _ I1 q1) fun u2 s2 ⟨y,H2,F,r2,p,ns,ex,hq,hz,C⟩=>kws_nil ?_));subst ex;cases r1;obtain⟨D,r',pl,hz'⟩:=F.list hq;have hi:IntsAre D ns:=intsAre_of r';obtain⟨xs,hx⟩:=hi.allInts.items;have hl':s2.heap.IsList p (intItems xs):=hx ▸ pl.isList;have e1:ns=xs.toList.map (·.1):=by
  rw[<-nums_intItems,<-hx];exact(show numsOf D.toArray.toList=ns from hi.numsOf).symm
 refine Zeq (F.ok.hd hc) hl' (fun h0 h' tk Y=>⟨y,H2,F.kept Y,r2,hz ?_⟩) fun hsz v h' tk J Y=>?_
 ·grind
 have hb:=argBest_gt (numAt xs) (xs.size-1);generalize argBest (fun i j=>decide (numAt xs i>numAt xs j)) (xs.size-1)=b at J hb;have Z:b<xs.size:=by lia
 have at_:∀j (G:j<xs.size),numAt xs j=xs[j].1/\(intItems xs)[j]?=some (.int xs[j].1 xs[j].2):=by
  intro j G;exact⟨by simp[numAt,G],by simp[intItems,G]⟩
 obtain⟨n1,n2⟩:=at_ b Z;rw[n2]at J;cases J;refine⟨.int xs[b].1,H2,F.kept Y,⟨_,rfl⟩,C _ ?_ fun n hn=>?_⟩
 ·grind
 ·rw[e1]at hn;obtain⟨y,hy,rfl⟩:=Qay.mp hn;obtain⟨j,G⟩:=Qcg hy;have hj2:j<xs.size:=by
   grind
  have:=hb.2 j (by lia);rw[(at_ j hj2).1,n1]at this;have ej:xs[j]=y:=by
   grind
  rw[ej]at this;exact this
def Zoo:V->List V->Hp->VK->Prop:=fun x xs H Q=>∃i:Int,x=.int i/\xs=[]/\Q (.int ((Builtin.Int.intBits i:Nat):Int)) H
def Zmc:MtR X "int.bit_length" Zoo:=by
 intro pins s σ H x xs v D Q I C r h;obtain⟨i,rfl,rfl,q⟩:=h;obtain⟨t,rfl⟩:=C;cases r;exact call_int_bit_length ⟨.int _,H,I.tok _,⟨_,rfl⟩,q⟩
section
variable {prog:An}{w:Ar}{A:Ao}{E:Ab}{s:Aq}
def yO{Q:Ag->Shared->Prop}{r:Au}{a b c:Int}{t u v:Tok}(hh:A.handled=none)(J:IsRange s.heap r a b c t u v)(q:Builtin.Range.small a b c=true)
  (hn:Builtin.Range.rangeSize a b c=n) (G:n<=2^24)
  (hQ:∀h' tk acc,(∀b o',s.heap.get? b=some o'->h'.get? b=some o')->ItemsOf (fun i v=>∃t,v=.int (a+i*c) t) acc n->Q acc.toList {s with heap:=h',toks:=tk}):
  A1 prog w A (collect (.ref r)) Q E s:=by
 refine Qaa (wpAny_runValue (Qco F.entry_proto_collect ?_));refine Qaa (Qa9 ?_);refine Qae ⟨Qdo Qgy _,Qco F.entry_list_iadd ?_⟩;have Y:(s.heap.push {cls:=.type "list",data:=.seq ([]:Ag).toArray}).get? s.heap.objs.size=some {cls:=.type "list",data:=.seq #[] 0}:=Qao _ rfl;have fin:∀(h':Heap) (tk:Nat) (acc:Ah) (C:Nat),(∀b o,s.heap.get? b=some o->h'.get? b=some o)->h'.get? s.heap.objs.size=some {cls:=.type "list",dict:=none,data:=.seq acc C,slots:=#[]}->ItemsOf (fun i v=>∃t,v=.int (a+i*c) t) acc n->
   A1 prog w A (match Value.ref s.heap.objs.size with
   |Value.ref a=>do
    match (<-load a).data with
     |Data.seq xs _=>pure xs.toList
     |_=>unsupported "internal:collect"
   |_=>unsupported "internal:collect") Q E {s with heap:=h',toks:=tk}:=by
  intro h' tk acc C I D it;refine Qaa (wpAny_load D ?_);exact Qae (hQ h' tk acc I it)
 refine Qde (wpAny_extend_range (A:=A) (R:=fun r s'=>r=.ok (.ret (.ref s.heap.objs.size))/\∃h' tk acc C,s'={s with heap:=h',toks:=tk}/\(∀b o,s.heap.get? b=some o->h'.get? b=some o)/\h'.get? s.heap.objs.size=some {cls:=.type "list",dict:=none,data:=.seq acc C,slots:=#[]}/\ItemsOf (fun i v=>∃t,v=.int (a+i*c) t) acc n)
  (s:={s with heap:=s.heap.push {cls:=.type "list",data:=.seq ([]:Ag).toArray}}) hh (Qab _ J) q hn G _ _ 0 Y fun h' tk acc C I D it=>⟨rfl,h',tk,acc,C,rfl,fun b o e=>I b o (Qbi (Qar e)) (Qab _ e),D,it⟩) (fun fi s' h=>?_) (fun e s' h=>?_)
 ·cases fi with
  |done f=>
   obtain⟨e,h',tk,acc,C,rfl,g1,g2,O⟩:=h;cases e;exact fin h' tk acc C g1 g2 O
  |again C=>exact⟨h.1,Qer h.2 fun r Z J=>by grind⟩
 ·exact absurd h.1 (by simp)
end
open AutoSeq1 (wpAny_loadPart')
def qp(r:Au)(a b c:Int)(t u v:Tok)(n:Nat)(q:Builtin.Range.small a b c=true)(hn:Builtin.Range.rangeSize a b c=n)(C:n<=2^24):
  Meets (Builtin.«tuple.__new__» ⟨[.type "tuple",.ref r],[]⟩)
   (fun A R s=>A.handled=none/\IsRange s.heap r a b c t u v/\∀(h':Heap) tk acc,(∀b o',s.heap.get? b=some o'->h'.get? b=some o')->ItemsOf (fun i v=>∃t,v=.int (a+i*c) t) acc n->R (.ok (.ret (.ref h'.objs.size))) {s with heap:=h'.push {cls:=.type "tuple",data:=.seq acc},toks:=tk}):=
 .of_wp fun prog w A R s h=>by
  obtain⟨J,g,d,tk,os⟩:=s;obtain⟨hh,D,h⟩:=h;have O:=sub_tuple_self;have F:=init_tuple_lookup;have Y:=madeHere_tuple;have I:A.in1.handled=none:=hh;have Z:Shared.TypeIs ⟨J,g,d,tk,os⟩ (.ref r) "range" :=⟨_,D,rfl⟩;have G:J.get? r=some {cls:=.type "range",data:=.fields #[.int a t,.int b u,.int c v]}:=D
  wp_walk using wpAny_loadPart' G,Qes Z,yO I D q hn C
  intro h' tk acc hk it;show wpAny _ _ (Builtin.Tuple.tupleExact acc.toList.toArray >>= fun v=>ret v) _ _ _;unfold Builtin.Tuple.tupleExact;refine Qaa (Qa9 ?_ (by show acc.toList.toArray.size<=sizeLine;simp only[Array.toArray_toList];rw[it.1,Qg2];lia));refine Qae ⟨_,rfl,?_⟩;have e:acc.toList.toArray=acc:=by simp
  rw[e];exact h h' tk acc hk it
section
variable {prog:An}{w:Ar}{A:Ao}{E:Ab}{s:Aq}
theorem xp{r:Au}{a b c:Int}{t u v:Tok}(hh:A.handled=none)(G:IsRange s.heap r a b c t u v)(q:Builtin.Range.small a b c=true)
  (I:Builtin.Range.rangeSize a b c=n) (C:n<=2^24)
  (h:∀(h':Heap) tk acc,(∀b o',s.heap.get? b=some o'->h'.get? b=some o')->ItemsOf (fun i v=>∃t,v=.int (a+i*c) t) acc n->Q (.ref h'.objs.size) {s with heap:=h'.push {cls:=.type "tuple",data:=.seq acc},toks:=tk}):
  A1 prog w A (call (.type "tuple") [.ref r]) Q E s:=
 Qha F.called_tuple (by decide) (F.typeCall_tuple_1 _) (F.newCall_tuple_1 _) (fun D=>Qf0 D _) F.entry_tuple_new
  (qp r a b c t u v n q I C) ⟨hh,G,fun h' tk acc J it=>⟨⟨_,Qao _ rfl,rfl⟩,h h' tk acc J it⟩⟩
end
def gv(q:n<=1000000):Builtin.Range.rangeSize 0 (n:Int) 1=(n:Int)/\Builtin.Range.small 0 (n:Int) 1=true:=by
 have hsz:Builtin.Range.rangeSize 0 (n:Int) 1=(n:Int):=by
  rw[rangeSize_one];split<;>lia
 exact⟨hsz,small_one (by decide) (by decide) (by lia) (by lia)⟩
theorem Zer:∀(m:Nat) (q:Ag) (k:Nat),q.length=m->(∀j v,q[j]?=some v->∃t,v=Value.int ((k+j:Nat):Int) t)->Vals ((List.range' k m).map fun i:Nat=>V.int (i:Int)) q:=by
 intro m
 induction m with
 |zero=>
  intro q k C _;rw[Qb9 C];exact .nil
 |succ m F=>
  intro q k C hh;cases q with
  |nil=>cases C
  |cons u q=>
   refine .cons ?_ (F q (k+1) (by simpa using C) fun j v D=>?_)
   ·obtain⟨t,e⟩:=hh 0 u rfl;exact⟨t,e⟩
   ·obtain⟨t,e⟩:=hh (j+1) v (by simpa using D);exact⟨t,by grind⟩
def bt_any:bootBuiltins "any" = some (.builtin "any"):=by decide +kernel
def rTupRg:A0->Hp->VK->Prop:=fun xs H Q=>∃(p:Au) (n:Nat),xs=[.ref p]/\H p=some (.rng 0 (n:Int))/\n<=1000000/\∀l,H l=none->Q (.ref l) (upd H l (.tup ((List.range n).map fun i:Nat=>V.int (i:Int))))
def ku (Y:X.calm=true):X3 X (.type "tuple") rTupRg:=by
 intro pins s σ H xs us Q I r h;obtain⟨p,n,rfl,e,hn,q⟩:=h;obtain⟨u,rfl,O⟩:=vals1 r;cases O;obtain⟨t,u,v,G⟩:=(show Yo X.prog X.w H s.heap p (.rng 0 (n:Int))from I.hok p _ e);obtain⟨hsz,D⟩:=gv hn;refine xp (I.ok.hd Y) G D hsz (by lia) fun h' tk acc Z it=>?_;have F:Inv X pins σ H {s with heap:=h',toks:=tk}:=I.kept Z;have C:acc.toList.length=n:=by exact it.1
 refine⟨.ref h'.objs.size,_,F.laid (t':=tk) (fun b o e=>Qab _ e) (Qah _) (show Yo X.prog X.w _ _ _ (.tup _)from⟨by rw[Qad,Qa5,Qg2];lia,acc.toList,?_,by simpa using wG.new h' acc⟩),rfl,q _ (F.hok.fresh (Qah _))⟩;rw[List.range_eq_range'];refine Zer n acc.toList 0 C fun j v J=>?_;obtain⟨t,e⟩:=it.2 j v (by rw[<-Qex];exact J);exact⟨t,by grind⟩
def rAnyL(K:Af):A0->Hp->VK->Prop:=fun xs H Q=>∃(p:Au) (bs:List Bool),xs=[.ref p]/\SqL K H p (bs.map V.bl)/\Q (.bl (bs.any id)) H
def Zes (hc:X.calm=true):X3 X (.builtin "any") (rAnyL X.K):=by
 intro pins s σ H xs us Q I r h;obtain⟨p,bs,rfl,hq,q⟩:=h;obtain⟨u,rfl,rx⟩:=vals1 r;cases rx;obtain⟨C,Z,pl,hz⟩:=I.list hq;have J:=pl.isList;have Y:p<s.heap.objs.size:=by obtain⟨_,e,_⟩:=J;exact Qar e
 have D:=Z.length;rw[Qad]at D;refine call_any_walk (Qe3 J ?_);refine⟨s.heap.objs.size,[s.heap.objs.size,p],[s.heap.objs.size],C.toArray.size,_,_,fun i=>(bs[i]?).getD false,rfl,Walks.list (A:=X.A.in1) (I.ok.hd hc) _ p (Qbi Y) C.toArray,
  ⟨⟨_,Qao _ rfl,rfl,rfl⟩,J.push _⟩,fun i v s' Q' E' hP hQ=>?_,fun h' tk hk=>?_⟩
 ·have hi:C[i]?=some v:=by simpa using hP
  have G:i<bs.length:=by grind
  obtain⟨w',e1,e2⟩:=Z.get (show(bs.map V.bl)[i]?=some (V.bl bs[i]) by rw[Qam,Qac G];rfl);rw[hi]at e1;cases e1;cases e2;simp only[Qac G,Option.getD_some]at hQ;exact Qc7 hQ
 ·have e:((List.range C.toArray.size).any fun i=>(bs[i]?).getD false)=bs.any id:=by
   rw[Qax,<-D,Qc2,Qd5,Qd5];constructor
   ·rintro⟨i,hi,z⟩;have F:=Qcp.mp hi;refine⟨_,Qcv F,?_⟩;simpa[Qac F]using z
   ·rintro⟨b,G,z⟩;obtain⟨i,hi,rfl⟩:=Qge G;exact⟨i,Qcp.mpr hi,by grind⟩
  rw[e];refine⟨.bl (bs.any id),H,I.kept (t':=tk) (fun b o O=>hk b o (fun hm=>?_) (Qab _ O)),rfl,q⟩;rw[Qat.mp hm]at O;exact absurd (Qar O) (Qb4 _)
def rSetD:V->List V->Hp->VK->Prop:=fun x vs H Q=>∃(d:Au) (k:Key) (v:V) (kvs:Ay),x=.ref d/\vs=[kV k,v]/\H d=some (.dK kvs)/\kvs.length<sizeLine /\
 (∀y,Yd kvs k=some y->Q y H)/\(Yd kvs k=none->Q v (upd H d (.dK (putK kvs k v))))
def Zmd:MtM X "dict.setdefault" rSetD:=by
 intro pins s σ H x vs v us Q I rx rv h;obtain⟨d,k,y,kvs,rfl,rfl,e,hz,h1,h2⟩:=h;cases rx;cases rv with
 |cons r1 O=>
 cases O with
 |cons O r3=>
 cases r3;obtain⟨z,Y,vs,C,dd⟩:=Zhc I.hok e;refine call_meetsIn F.slot_dict_setdefault dd.typeIs F.entry_dict_setdefault (F.args_dict_setdefault_3 _ _ _) (kt_meets_setdefault (ZJ X.prog X.w) d (y7 r1) Y _) ⟨vs,dd,by rw[<-C.length];exact z,fun v' J=>?_,fun J h' dd' hs=>?_⟩
 ·cases hy:Yd kvs k with
  |none=>
   have:=yt.none_of (by rw[<-hy];exact C.val k);rw[J]at this;cases this
  |some G=>
   obtain⟨w',hw,D⟩:=yt.some_of (v:=G) (o:=valueAt vs k) (by rw[<-hy];exact C.val k);rw[J]at hw;cases hw;exact⟨G,H,I.tok _,D,h1 G hy⟩
 ·have hn:Yd kvs k=none:=by
   cases hy:Yd kvs k with
   |none=>rfl
   |some G=>
    obtain⟨w',hw,D⟩:=yt.some_of (v:=G) (o:=valueAt vs k) (by rw[<-hy];exact C.val k);rw[J]at hw;cases hw
  have Z:∃q,h'.get? d=some q:=let⟨q,_,_,hq,_⟩:=dd';⟨q,hq⟩;have hl:(putK kvs k y).length<=sizeLine:=by have:=Xj kvs k y;lia
  exact⟨y,_,xX I (by rw[e];exact True.intro) hs Z (Zd2 hl Y (C.put k O) dd'),O,h2 hn⟩
def Itn(n:Nat):It:=⟨fun i _=>i<n,fun i H v H'=>H'=H/\v=.int ((n:Int)-1-i),fun i _=>n<=i⟩
def Zet{tg:Av}(it:Au)(n:Nat):Turn P w K tg (Itn n) [it] it (fun i h=>IsRangeIter h it ((n:Int)-1+(i:Nat)*(-1)) ((n:Int)-(i:Nat)) (-1))where
 mem:=by simp
 obj:=fun i h st b q=>by
  grind
 keep:=fun i h h' st k=>k it (by simp) _ st
 item:=by
  intro X F hw Y G i pins s σ H E I D st Z;subst F hw Y;obtain⟨f0,f1,f2,O,J,f5⟩:=D it (by simp);have W:=Walks.range (prog:=X.prog) (w:=X.w) (I.ok.hd G) it ((n:Int)-1) (-1) n;refine W.item i s _ _ Z st fun v h' tk hv C kk=>?_;obtain⟨t,rfl⟩:=hv;have I1:Inv X pins σ H {s with heap:=h',toks:=tk}:=I.turned (fun b o q e=>kk b o (by simpa using q) e) f0 f1 O J f5;refine⟨_,rfl,v9 (s:={s with heap:=h',toks:=tk}) (n:= "range_iterator") C rfl rfl (by decide) ⟨.int ((n:Int)-1-i),H,I1,⟨t,?_⟩,⟨rfl,rfl⟩,C,fun b q=>(D b q).1⟩⟩;rw[show(n:Int)-1+(i:Int)*(-1)=(n:Int)-1-i by lia]
 done:=by
  intro X F hw Y G i pins s σ H E I D st Z;subst F hw Y;obtain⟨f0,f1,f2,O,J,f5⟩:=D it (by simp);exact wpAny_pyNext_range_end (I.ok.hd G) st (by have:n<=i:=Z;lia) fun h' eb=>⟨rfl,I.turned (t':=s.toks) (fun b o q e=>eb b o q e) f0 f1 O J f5⟩
 self:=fun _ _ _ _ _ st h=>wpAny_pyIter_rangeiter st h
def kx(n:Nat):Builtin.Range.rangeSize ((n:Int)-1) (-1) (-1)=(n:Int):=by
 unfold Builtin.Range.rangeSize;split
 ·grind
 ·lia
def small_down(h:n<=1000000):Builtin.Range.small ((n:Int)-1) (-1) (-1)=true:=by
 have q:∀z:Int,-10<=z->z<=1000010->Builtin.Range.rangeFitsLong z=true:=fun z h1 h2=>by
  unfold Builtin.Range.rangeFitsLong;simp only[Qb5,Qfr];lia
 unfold Builtin.Range.small;rw[kx];simp[q ((n:Int)-1) (by lia) (by lia),q (n:Int) (by lia) (by lia),q (-1) (by lia) (by lia),q (-1+(-1+1)) (by lia) (by lia),q (-1-1) (by lia) (by lia),q (-2) (by lia) (by lia),q (-1+1) (by lia) (by lia),q 0 (by lia) (by lia)]
def iDown(ta:TA):TI:=fun σ H R=>ta σ H fun vs H1=>∃n:Nat,vs=[.int ((n:Int)-1),.int (-1),.int (-1)]/\n<=1000000/\R (Itn n) H1
def Zme  {t:TA} {tg a b c:Av} (hg:Gl X "range") (hm:X.mg "range" = none) (ha:QA X [a,b,c] t) (hp:ZX a=true:=by rfl) (O:ZX b=true:=by rfl) (Z:ZX c=true:=by rfl):QI X tg (.Call (.Name "range" p) [a,b,c] [] q) (iDown t):=by
 refine⟨fun pins s σ H R I h=>?_⟩;refine Call_ (JF I hg hm boot_range (Qci (thn (ha.out q pins s σ H _ I h) fun us D ⟨vs,H1,I1,r1,q1⟩=>?_) (Zz hp) (by rw[Zz O,Zz Z];rfl)));obtain⟨n,e,hn,G⟩:=q1;subst e;cases r1 with
 |cons r F=>
 cases F with
 |cons r' F=>
 cases F with
 |cons Y F=>
 cases F;obtain⟨t,rfl⟩:=r;obtain⟨t',rfl⟩:=r';obtain⟨C,rfl⟩:=Y;refine call_range_3 (by decide) ?_ (Or.inl (PyProof.noPylong_small (by decide)));refine wpAny_pyIter_range (IsRange.new ..) (small_down hn) ?_;have J:Inv X pins σ H1 {D with heap:=D.heap.push {cls:=.type "range",data:=.fields #[.int ((n:Int)-1) t,.int (-1) t',.int (-1) C]},toks:=D.toks}:=I1.kept fun b o e=>Qab _ e;generalize D.heap.push {cls:=.type "range",data:=.fields #[.int ((n:Int)-1) t,.int (-1) t',.int (-1) C]}=h9 at J ⊢;refine⟨h9.objs.size,[h9.objs.size],_,_,H1,rfl,J.kept (t':=D.toks) fun b o e=>Qab _ e,Zet _ n,?_,fun b hb=>?_,G⟩
 ·rw[kx,show(n:Int)-1+((0:Nat):Int)*(-1)=(n:Int)-1 by lia,show(n:Int)-((0:Nat):Int)=n by lia];exact Qao _ rfl
 ·have e:b=h9.objs.size:=by simpa using hb
  subst e;exact J.fpOk (Qah _) (J.hok.fresh (Qah _))
theorem Zhx{g:TG}(q:Nat->St->Hp->Prop)(F:q 0 c H)
  (G:∀i c H,i<n->q i c H->g (.int ((n:Int)-1-i)) c H fun C H2=>A {E with nx:=q (i+1),ct:=q (i+1),bk:=E.nx} C H2) (D:∀c H,q n c H->E.nx c H):
  Zgm (Itn n) g A E c H:=
 qH n q F (fun i c H hi p=>⟨hi,fun x H' ⟨e,y⟩=>by subst e y;exact G i c _ hi p⟩) fun c H p=>⟨Qah _,D c H p⟩
def iDictF(te:TE):TI:=fun σ H R=>te σ H fun x H1=>∃a kvs,x=.ref a/\Rd H1 a (.dK kvs)/\∀o,(∀u,H1 a=some (.frz u (.dK kvs))->u=o)->R (Itd a o kvs) (upd H1 a (.frz o (.dK kvs)))
def yP{X:Cx}{tg:Av}(he:QE X e d):QI X tg e (iDictF d):=by
 refine⟨fun pins s σ H R I h=>?_⟩;refine thn (he.out pins s σ H _ I h) fun v C ⟨y,H1,Z,r1,q1⟩=>?_;obtain⟨a,kvs,rfl,e,q⟩:=q1;cases r1;obtain⟨z,nm,vs,Y,dd⟩:=y8 Z.hok e;obtain⟨o,es,ep,F,J,D,hk,hp,hn⟩:=id dd;have O:=Z.freeze e F;have hlt:a<C.heap.objs.size:=Qar F;have G:C.heap.DictAt (ZJ X.prog X.w) a vs ep:=⟨o,es,F,J,D,hk,hp,hn⟩;refine wpAny_pyIter_dict nm G ?_;have st:(C.heap.push {cls:=.type "dict_keyiterator",data:=.fields #[.ref a,.int 0 0,.int vs.length 0,.int ep 0]}).IsKeyIter C.heap.objs.size a 0 kvs.length ep:=by
  rw[Y.length];exact⟨_,Qao _ rfl,rfl,rfl⟩
 refine⟨C.heap.objs.size,[C.heap.objs.size],_,_,_,rfl,O.kept (t':=C.toks) fun b o e=>Qab _ e,Zd9 a _ o kvs ep ⟨es,D⟩ (Qbi hlt),st,fun b hb=>?_,q o fun u hu=>?_⟩
 ·have e:b=C.heap.objs.size:=by simpa using hb
  subst e;exact O.fpOk (Qah _) (O.hok.fresh (Qah _))
 ·have z:=Z.hok a _ hu;obtain⟨z1,_⟩:=z;exact Option.some.inj (z1.symm.trans F)
end L2
namespace L2
open AutoSeq1 (wpAny_loadPart')
section
variable {prog:An}{w:Ar}{A:Ao}{E:Ab}{s:Aq}
def Zmf{l b:Au}{xs ys:Ah}(hl:s.heap.IsTuple l xs)(hb:s.heap.IsTuple b ys)(hu:A.units<cLine)(hz:xs.size=ys.size)
  (he:∀p∈xs.toList.zip ys.toList,∀(E:Ab) (Q:Bool->Shared->Prop),Q true s->wpAny (model prog w) A.in1 (eqBool p.1 p.2) Q E s) (h:Q (.bool false) s):
  wpAny (model prog w) A (compareOp .NotEq (.ref l) (.ref b)) Q E s:=by
 obtain⟨⟨cls,dd,data,sl⟩,J,C,n,O⟩:=id hl;obtain⟨⟨Y,dd2,data2,sl2⟩,D,G,n2,I⟩:=id hb;simp only at C O G I;subst C O G I;refine wpAny_richCompare_same_room (op:=.NotEq) ⟨_,J,rfl⟩ ⟨_,D,rfl⟩ F.slot_tuple_ne (Qbn F.slot_tuple_ne ⟨_,J,rfl⟩ F.entry_tuple_ne ?_ (F.args_tuple_ne_2 _ _)) hu;obtain⟨hp,g,d,tk,os⟩:=s;have f2:=AutoSeq1.sub_tuple_tuple
 wp_walk using wpAny_loadPart' J,wpAny_loadPart' D,wpAny_forIn_list _ (fun rest c s'=>c.1=none/\s'=⟨hp,g,d,tk,os⟩/\∀p∈rest,p∈xs.toList.zip ys.toList) _
 case turn=>
  rintro⟨y,x⟩ rest c s' ⟨C,rfl,Z⟩;refine Qaa (he _ (Z _ Qan) _ _ ?_)
  wp_walk
  exact⟨rfl,rfl,fun p q=>Z p (Qak _ q)⟩
 case fin=>
  rintro⟨c1,c2⟩ s' ⟨C,rfl,_⟩;simp only at C;subst C
  wp_walk
  exact⟨_,rfl,(fun z=>nomatch z),by simpa[Builtin.Tuple.tupleCompareSizes,hz]using h⟩
 case h=>exact⟨rfl,rfl,fun _ q=>q⟩
end
def EqY(H:Hp)(x y:V):Prop:=(Xb x=true/\x=y)\/(∃a,x=.ref a/\y=.ref a)\/∃a c kvs kws,x=.ref a/\y=.ref c/\Rd H a (.dK kvs)/\Rd H c (.dK kws)/\kvs.length=kws.length/\∀p∈kvs,Yd kws p.1=some p.2/\Xb p.2=true
def eqY_at{σ:St}{A:Ao}{E:Ab}{Q:Bool->Shared->Prop}(I:Inv X r σ H s){x:V}{u:As}(F:RelV x v)(D:RelV y u)(hu:A.units<cLine)(h:EqY H x y)(q:Q true s):A1 X.prog X.w A (eqBool v u) Q E s:=by
 rcases h with⟨f,rfl⟩|⟨a,rfl,rfl⟩|⟨a,c,kvs,kws,rfl,rfl,ha,hb,Y,G⟩
 ·have z:=vI (A:=A) (s:=s) F D f f;rw[yE f]at z;exact z _ _ _ _ q
 ·cases F;cases D;exact Qet _ _ _ _ _ q
 ·cases F;cases D
  by_cases C:a=c
  ·subst C;exact Qet _ _ _ _ _ q
  obtain⟨za,na,va,J,da⟩:=y8 I.hok ha;obtain⟨zb,Z,vb,O,db⟩:=y8 I.hok hb;refine Qcl (wpAny_ite_split (fun z=>absurd (by have:=eq_of_beq z;injection this) C) fun _=>Qaa ?_);refine PySem.W.keq_eq na Z da db hu (fun _=>ke O J (fun p m=>(G p m).1) fun p m=>(G p m).2) (Qc7 ?_);rw[show va.length=vb.length by rw[<-J.length,<-O.length,Y],Qdi];exact q
def rNeY(K:Af):R2:=fun x y H Q=>∃(a c:Au) (xs ys:A0),x=.ref a/\y=.ref c/\(SqT K H a xs/\SqT K H c ys\/SqL K H a xs/\SqL K H c ys/\xs=ys)/\xs.length=ys.length/\(∀(j:Nat) (u v:V),xs[j]?=some u->ys[j]?=some v->EqY H u v)/\Q (.bl false) H
def Zj4(hu:X.A.units+4<cLine):OpR X (compareOp .NotEq) (rNeY X.K):=by
 intro pins s σ H x y v u Q I rx ry h;obtain⟨a,c,xs,ys,rfl,rfl,hs,hl,he,q⟩:=h;cases rx;cases ry;rcases hs with⟨ha,O⟩|⟨ha,O,rfl⟩
 ·obtain⟨D,r,p,_⟩:=I.tuple ha;obtain⟨C,J,p2,_⟩:=I.tuple O;refine Zmf p p2 (by lia) (by rw[Qax,Qax,<-r.length,<-J.length,hl]) (fun z hz E' Q' q'=>?_) ⟨.bl false,H,I,rfl,q⟩;obtain⟨j,hj⟩:=Qcg hz;obtain⟨Z,Y⟩:=Qcq.mp hj;obtain⟨w1,e1,G⟩:=Zaa r (j:=j) (Qai.mp Z).1;obtain⟨w2,e2,F⟩:=Zaa J (j:=j) (Qai.mp Y).1;have d1:D.toArray[j]'(Qai.mp Z).1=z.1:=(Qai.mp Z).2;have d2:C.toArray[j]'(Qai.mp Y).1=z.2:=(Qai.mp Y).2;rw[d1]at G;rw[d2]at F;exact eqY_at I G F (by lia) (he j _ _ e1 e2) q'
 ·obtain⟨D,r,p,_⟩:=I.list ha;obtain⟨C,J,p2,_⟩:=I.list O;refine SeqAt.RcNeAt.lists (e:=fun _=>true) p.isList p2.isList (by rw[Qax,Qax,<-r.length,<-J.length]) (by lia) (fun j h1 h2=>?_) X.prog X.w _ _ (ZO I q (by rw[all_true];rfl));obtain⟨w1,e1,G⟩:=Zaa r h1;obtain⟨w2,e2,F⟩:=Zaa J h2;rw[e1]at e2;cases e2;rcases he j _ _ e1 e1 with⟨f,_⟩|⟨a,rfl,_⟩|⟨a,_,_,_,rfl,_⟩
  ·have z:=vI (A:=X.A.in1) (s:=s) G F f f;rw[yE f]at z;exact z
  ·generalize D.toArray[j]=z1 at *;generalize C.toArray[j]=z2 at *;cases G;cases F;exact Qet _
  ·generalize D.toArray[j]=z1 at *;generalize C.toArray[j]=z2 at *;cases G;cases F;exact Qet _
end L2
namespace Lw
open PySem L2
def top(i:Nat):Aw:=PySem.Challenge.pw_everywidth_k22_compared.main.body.getD i (.Pass ⟨0,0,0,0⟩)
abbrev jZ:Aw:=top 1
abbrev zh:Aw:=top 2
abbrev Zop:Aw:=top 7
abbrev Jh:Aw:=top 12
abbrev YT:Aw:=top 13
abbrev zi:Aw:=top 15
abbrev JI:Aw:=top 18
abbrev Gz:Aw:=top 25
abbrev Ji:Aw:=top 26
abbrev G1:Aw:=top 27
abbrev Jj:Aw:=top 28
abbrev Jk:Aw:=top 30
abbrev zj:Aw:=top 36
abbrev ya:Aw:=top 40
abbrev G4:Aw:=top 42
abbrev Xx:Aw:=top 46
abbrev zk:Aw:=top 47
abbrev qP:Aw:=top 53
abbrev qr:Aw:=top 54
abbrev Xd:Aw:=top 55
abbrev zl:Aw:=top 57
abbrev G5:Aw:=top 58
abbrev G6:Aw:=top 59
abbrev yb:Aw:=top 61
abbrev yc:Aw:=top 62
abbrev Wy:Aw:=top 63
abbrev ky:Aw:=top 65
abbrev kz:Aw:=top 66
abbrev G7:Aw:=top 68
abbrev XZ:Aw:=top 71
abbrev k4:Aw:=top 72
abbrev k6:Aw:=top 73
abbrev qt:Aw:=top 8
abbrev YK:Aw:=top 14
abbrev yd:Aw:=top 29
abbrev k7:Aw:=top 31
abbrev Wa:Aw:=top 37
abbrev zm:Aw:=top 39
abbrev G8:Aw:=top 41
abbrev Wz:Aw:=top 60
abbrev k9:Aw:=top 64
abbrev zo:Aw:=top 67
abbrev JJ:Aw:=top 69
abbrev Wi:Aw:=top 11
abbrev W3:Aw:=top 33
abbrev qu:Aw:=top 49
abbrev WG:Aw:=top 70
abbrev zp:Aw:=top 74
abbrev X6:Aw:=top 10
abbrev kA:Aw:=top 38
abbrev XG:Aw:=top 17
abbrev ZV:Aw:=top 45
abbrev YL:Aw:=top 52
abbrev qQ:Aw:=top 44
abbrev ye:Aw:=top 51
abbrev yf:Aw:=top 75
abbrev Zmg:Aw:=top 76
def Zw:Pos:=⟨196,4,200,77⟩
def Zt:Str:=(("machine_telling" : Str) ++ ".<locals>.") ++ "step_of"
abbrev YU:Aw:=(Xv ZV).getD 3 (.Pass ⟨0,0,0,0⟩)
def Z0:Pos:=⟨216,42,216,113⟩
def Z1:Str:=(("machines_compared" : Str) ++ ".<locals>.") ++ "<lambda>"
def Zc{p:Au}{o:HO}(h:H p=none):Z8 H (upd H p o):=fun b u e=>by rw[Zk (Zm e h)];exact e
def YV(w:Nat):(0:Int)<2^w:=by
 have h2:((2:Int)^w)=(((2:Nat)^w:Nat):Int):=by rfl
 have:=Nat.two_pow_pos w;rw[h2];lia
def pow_succ'(w:Nat):(2:Int)^(w+1)=2^w*2:=Qfd 2 w
def jj(w:Nat)(r:Int):Ak:=(List.range w).map fun i=>r/2^i%2
def yQ{t u:TS}{r:VK}{b c:Az}{σ:L2.St}(J:Az)(h1:∀N:Az,(∀σ H,J σ H->N σ H)->t {E with nx:=N} σ H)(h2:∀σ H,J σ H->u E σ H):({nx:=Yl t u E,rt:=r,bk:=b,ct:=c}:Ends).nx σ H:=h1 _ h2
def Zi{v:V}{Q:Az}(h:Q (c.set i (some v)) H):qc i v c H Q:=h
def Zab{P:m->Prop}{l:List m}{y:m}(h:∀x∈l,P x)(q:P y):∀x∈l++[y],P x:=by grind
theorem ZY{p:Au}{o:HO}(s:Z8 H h)(q:H p=none):Z8 H (upd h p o):=fun b u e=>by
 rw[Zk (Zm e q)];exact s b u e
def Z5{ns:Ak}(j:Nat)(hz:z=(j:Int))(q:j<ns.length):atI (ns.map V.int) z=some (.int (ns.getD j 0)):=by
 subst hz;refine Ya ?_;rw[Qam,Qac q,Qap,Qac q];rfl
def Zmh{ns:Ak}{m:Int}(h:∀x∈ns,0<=x/\x<m)(j:Nat)(q:j<ns.length):0<=ns.getD j 0/\ns.getD j 0<m:=by
 rw[Qap,Qac q];exact h _ (Qcv q)
def gy{z:Str}{i:Int}(n:Nat)(D:z.cps.toList.length=n)(C:0<=i)(h1:i<(n:Int)):∃c,c∈z.cps.toList/\atI z.cps.toList i=some c:=by
 obtain⟨j,rfl⟩:∃j:Nat,i=(j:Int):=⟨i.toNat,by lia⟩;have q:j<z.cps.toList.length:=by lia
 exact⟨z.cps.toList[j],Qcv q,Ya (Qac q)⟩
def xG{ys:Ai}{i:Int}(C:0<=i)(h1:i<(ys.length:Int)):∃y,y∈ys/\atI (ys.map V.str) i=some (.str y):=by
 obtain⟨j,rfl⟩:∃j:Nat,i=(j:Int):=⟨i.toNat,by lia⟩;have q:j<ys.length:=by lia
 refine⟨ys[j],Qcv q,Ya ?_⟩;rw[Qam,Qac q];rfl
theorem gz{P:Str->Prop}:∀{vs:A0},(∀v∈vs,∃y,v=.str y/\P y)->∃ys:Ai,vs=ys.map V.str/\∀y∈ys,P y
 |[],_=>⟨[],rfl,fun _ h=>nomatch h⟩
 |v::r,h=>by
  obtain⟨y,rfl,D⟩:=h v Qan;obtain⟨ys,rfl,q⟩:=gz (vs:=r) fun v C=>h v (Qak _ C);refine⟨y::ys,rfl,fun z hz=>?_⟩;rcases Qaq.mp hz with rfl|hz
  ·exact D
  ·exact q z hz
def Znn(xs:List m)(lo hi:Option Int):List m:=(xs.drop (HT.sIx xs.length 0 lo)).take (HT.sIx xs.length xs.length hi-HT.sIx xs.length 0 lo)
def yR(f:m->V)(xs:List m)(lo hi:Option Int):qe (xs.map f) lo hi=(Znn xs lo hi).map f:=by
 unfold qe Znn;rw[Qad,Qe7,Qfm]
def zq(xs:List m)(k:Nat):(Znn xs none (some (k:Int)))=xs.take k:=by
 unfold Znn;rw[HT.sIx_none,HT.sIx_nat,Qdp,Qgo,<-List.take_take,Qbf]
def kB(xs:List m)(k:Nat):(Znn xs (some (k:Int)) none)=xs.drop k:=by
 unfold Znn;rw[HT.sIx_none,HT.sIx_nat,Qce (by rw[Qbt];lia)]
 by_cases h:k<=xs.length
 ·rw[Qef h]
 ·rw[Nat.min_eq_right (by lia),Qfa,List.drop_eq_nil_of_le (by lia)]
def kC{p:Au}{xs:A0}{lo hi:Option Int}{Q:VK}(h:H p=some (.tup xs))(k:∀q H',H' q=some (.tup (qe xs lo hi))->Z8 H H'->Q (.ref q) H'):
  rSlT K (.ref p) lo hi H Q\/rSlW K (.ref p) lo hi H Q:=by
 by_cases w:HT.sIx xs.length 0 lo=0/\HT.sIx xs.length xs.length hi=xs.length
 ·refine .inr ⟨p,xs,rfl,SqT.of h,w,k p H ?_ (Z8.refl H)⟩;rw[h];unfold qe;rw[w.1,w.2,Qdp,Qgo,Qbf]
 ·exact .inl ⟨p,xs,rfl,SqT.of h,w,fun q C=>k q _ Za (Zc C)⟩
def kD{lo:Int}{is:Aj}{Q:VK}(P:Nat->V->Prop)(hz:n<=sizeLine)
  (C:∀i,i<n->∀R:VK,(∀v,P i v->R v H)->d (qM is c (some (.int (lo+i)))) H R)
  (F:∀vs:A0,vs.length=n->(∀i v,vs[i]?=some v->P i v)->∀l,H l=none->Q (.ref l) (upd H l (.lst vs))):J9 is Zg5 d c Q (Itr lo n) H:=by
 refine qf (fun i zs H'=>i<=n/\zs.length=i/\(∀j v,zs[j]?=some v->P j v)/\H'=H) ⟨Qbp _,rfl,fun j v h=>by simp at h,rfl⟩ ?_ ?_ ?_
 ·grind
 ·rintro i zs H' R hR hi ⟨_,q,D,rfl⟩;refine C i hi _ fun v G=>hR _ _ ⟨hi,by rw[Qaf,q];rfl,fun j u J=>?_,rfl⟩
  by_cases I:j<zs.length
  ·grind
  ·grind
 ·grind
def mem_at{vs:A0}{P:V->Prop}(h:∀(i:Nat) (v:V),vs[i]?=some v->P v):∀v∈vs,P v:=by
 intro v q;obtain⟨i,hi,rfl⟩:=Qge q;exact h i _ (Qac hi)
def fI(g:Int->V):V->V
 |.int x=>g x
 |v=>v
def map_fI(g:Int->V)(ns:Ak):(ns.map V.int).map (fI g)=ns.map g:=by
 rw[Qb7];rfl
def Yg(a b:Str):(a++b).cps.toList=a.cps.toList++b.cps.toList:=by
 rw[PySem.Str.cps_append,Array.toList_append]
def len_signs(a:Str):a.length=a.cps.toList.length:=by
 unfold Str.length;rw[Qbr]
def Zhy{j:Nat}(h:j<=x.length):(Txt.slice x none (some (j:Int))).cps.toList=x.cps.toList.take j:=by
 have e:=beq_iff_eq.mp (PyProof.Rows.slice_closes_to (x:=x) (j:=(j:Int)) ⟨by lia,by rw[<-len_signs];lia⟩);rw[e];simp
def Zbp(h:i<=x.length):(Txt.slice x (some (i:Int)) none).cps.toList=x.cps.toList.drop i:=by
 rw[PyProof.Rows.slice_from_eq (b:=(x.length:Int)) (by lia) (by lia) rfl];simp only[Qav];rw[Qce (by rw[Qbt,<-len_signs];lia)]
theorem Zbq(q:Str)(C:q.cps=#[]):∀ys:Ai,(Txt.join q ys).cps.toList=(ys.map (·.cps.toList)).flatten:=by
 intro ys;show(Builtin.Str.glued q ys).cps.toList=_;rw[StrLaws.glued_eq_join]
 induction ys with
 |nil=>rfl
 |cons x r D=>
  cases r with
  |nil=>
   show x.cps.toList=_;simp
  |cons y r=>
   show(x++q++Str.join q (y::r)).cps.toList=_;rw[Yg,Yg,D,C];simp
theorem Zeu{ys:Ai}{P:Nat->Prop}(h:∀y∈ys,∃c,y=⟨#[c]⟩/\P c):(ys.map (·.cps.toList)).flatten.length=ys.length/\(∀c∈(ys.map (·.cps.toList)).flatten,P c)/\(ys.map (·.length)).sum=ys.length:=by
 induction ys with
 |nil=>exact⟨rfl,fun c h=>absurd h (Qbo),rfl⟩
 |cons y r C=>
  obtain⟨c,rfl,D⟩:=h _ Qan;obtain⟨h1,h2,q⟩:=C fun z hz=>h z (Qak _ hz);refine⟨?_,?_,?_⟩
  ·grind
  ·grind
  ·rw[Qbx,List.sum_cons,q];show 1+r.length=r.length+1;lia
def Zpe:Str:= "abcdefghijklmnopqrstuvwxyz"
def Low(c:Nat):Prop:=c∈Zpe.cps.toList
instance (c:Nat):Decidable (Low c):=inferInstanceAs (Decidable (c∈_))
def YW:Ai:=["not","neg","twice","low","and","or","odd","add","sub","pick","same","under","beneath","sign","nought","both","either","so","never","yes"]
def NmL(y:Str):Prop:=(1<=y.length/\y.length<=8)/\∀c∈y.cps.toList,Low c
instance (y:Str):Decidable (NmL y):=inferInstanceAs (Decidable (_/\_))
structure NmS(y:Str):Prop where
 l:NmL y
 k:y∉YW
theorem ZL(y:Str):∀ys:Ai,inV (.str y) (ys.map V.str)=decide (y∈ys)
 |[]=>rfl
 |z::r=>by
  have e:inV (.str y) ((z::r).map V.str)=((z == y)||inV (.str y) (r.map V.str)):=rfl;rw[e,ZL y r]
  by_cases h:z=y
  ·grind
  ·grind
def Zev(ys:Ai):(ys.map V.str).all Xb=true:=by
 rw[Qhb];exact Qb8.mpr fun _ _=>rfl
def Zew{c:TT}{σ:L2.St}(C:Az)(μ:L2.St->Hp->Nat)(F:C σ H)
  (G:∀σ H,C σ H->c σ H fun b H1=>if b=true then∃N:Az,(∀q H',N q H'->∃D,D<μ σ H/\D=μ q H'/\C q H')/\A {E with nx:=N,ct:=N,bk:=E.nx} σ H1 else E.nx σ H1):Zcx c A E σ H:=by
 refine⟨fun m σ H=>m=μ σ H/\C σ H,⟨_,rfl,F⟩,?_⟩;rintro m σ H ⟨rfl,p⟩;exact G σ H p
def Zex(ys:Ai)(v:V):Prop:=(∃y∈ys,v=.str y)\/∃z:Int,v=.int z/\0<=z/\z<1000
def sumT:List (Str×Nat):=[("not",1),("neg",1),("twice",1),("low",1),("and",2),("or",2),("odd",2),("add",2),("sub",2),("pick",3)]
def G9:Ai:=sumT.map (·.1)
def Yu(y:Str):Nat:=((sumT.find? fun p=>decide (p.1=y)).map (·.2)).getD 0
def partsV:V->Nat
 |.str y=>Yu y
 |_=>0
def WordOk(ys:Ai)(v:V):Prop:=(∃y,v=.str y/\y∈G9)\/Zex ys v
def T1:List (Str×Int):=[("not",1),("neg",1),("twice",1),("low",1),("and",2),("or",2),("odd",2),("add",2),("sub",2),("pick",3)]
def T2:List (Str×Int):=[("same",2),("under",2),("beneath",2),("sign",1),("nought",1)]
def T3:List (Str×Int):=[("both",2),("either",2),("so",2),("never",1),("yes",0)]
def qR:Ai:=["same","under","beneath","sign","nought","both","either","so","never","yes"]
theorem Zj5(l:List (Str×Int))(y:Str):(Yd (kvsOf l) (.inr y)).isSome=decide (y∈l.map (·.1)):=by
 induction l with
 |nil=>rfl
 |cons p r q=>
  by_cases h:p.1=y
  ·have e:Yd (kvsOf (p::r)) (.inr y)=some (.int p.2):=Ym (p:=((Sum.inr p.1:Key),V.int p.2)) (by rw[h]);rw[e,Qbx,Qal (by rw[h];exact Qan)];rfl
  ·have e:Yd (kvsOf (p::r)) (.inr y)=Yd (kvsOf r) (.inr y):=Ye (p:=((Sum.inr p.1:Key),V.int p.2)) (fun z=>h (Sum.inr.inj z))
   by_cases m:y∈r.map (·.1)
   ·grind
   ·grind
def Gi:List (Str×Int)->Key->Int
 |[],_=>0
 |p::r,k=>if(Sum.inr p.1:Key)=k then p.2 else Gi r k
theorem kget(l:List (Str×Int))(k:Key):(Yd (kvsOf l) k).getD (.int 0)=.int (Gi l k):=by
 induction l with
 |nil=>rfl
 |cons p r q=>
  unfold Gi
  by_cases h:(Sum.inr p.1:Key)=k
  ·have e:Yd (kvsOf (p::r)) k=some (.int p.2):=Ym (p:=((Sum.inr p.1:Key),V.int p.2)) h;rw[e,Qba h];rfl
  ·have e:Yd (kvsOf (p::r)) k=Yd (kvsOf r) k:=Ye (p:=((Sum.inr p.1:Key),V.int p.2)) h;rw[e,q,Qa4 h]
theorem zr{l:List (Str×Int)}{y:Str}(h:y∉l.map (·.1)):Gi l (.inr y)=0:=by
 induction l with
 |nil=>rfl
 |cons p r q=>
  unfold Gi;rw[Qa4 (fun z=>h (by grind)),q (fun z=>h (Qak _ z))]
def W4(k:Key):Int:=Gi T1 k+Gi T2 k+Gi T3 k
def tw1:T1.map (·.1)=G9:=by decide +kernel
def g9:∀y,y∈YW↔y∈G9\/y∈qR:=by
 intro y;have e:YW=G9++qR:=by decide +kernel
 rw[e,Qbb]
def keyOf:V->Key
 |.int i=>.inl i
 |.str y=>.inr y
 |_=>.inl 0
def Zmi(x:Str)(c:Nat):(!(Builtin.Str.occurrences x ⟨#[c]⟩ 0 x.length 1).isEmpty)=decide (c∈x.cps.toList):=by
 have h:=PyProof.Rows.in_closes (x:=x) (c:=c) rfl rfl;rw[beq_iff_eq]at h;rw[h]
 by_cases m:c∈x.cps.toList
 ·rw[Qal m,Qal ((PyProof.Rows.countIn_signs c _).mpr m)]
 ·rw[Qaj m,Qaj (fun z=>m ((PyProof.Rows.countIn_signs c _).mp z))]
def yg(y q:Str):Prop:=y.cps.toList≠[]/\∀c∈y.cps.toList,c∈q.cps.toList
instance (y sg:Str):Decidable (yg y sg):=inferInstanceAs (Decidable (_/\_))
def all_bs(l:Aj)(p:Nat->Bool):(l.map p).all id=decide (∀c∈l,p c=true):=by
 rw[Qc2,Qb8,Qb0];constructor
 ·intro h c q;exact h _ (Qcm q)
 ·grind
def zt {y:Str}:y.cps.toList=[]↔y=("" : Str):=by
 constructor
 ·intro h;obtain⟨a⟩:=y;have:a=#[]:=by
   grind
  subst this;decide +kernel
 ·rintro rfl;decide +kernel
def nmB:V->Bool
 |.str y=>decide (y∉YW/\NmL y)
 |_=>false
def Zmj:V->Str
 |.str y=>y
 |_=> ""
def kE(w:V):Prop:=(∃y,w=.str y/\y.length<=1000)\/∃z,w=.int z
theorem Zey(ys:Ai):(Wx ys).length<=ys.length:=by
 have h:∀(ys S:Ai),(ys.foldl ins S).length<=S.length+ys.length:=by
  intro ys
  induction ys with
  |nil=>intro S;exact Qah _
  |cons y r q=>
   intro S;have h1:=q (ins S y);have h2:(ins S y).length<=S.length+1:=by
    unfold ins;split
    ·lia
    ·grind
   rw[Qe0,Qbu];lia
 have:=h ys [];rw[Qed,Nat.zero_add]at this;exact this
def Zmk(ws:A0):((ws.filter nmB).map Zmj).map V.str=ws.filter nmB:=by
 rw[Qb7];refine(Qcn (g:=id) fun w hw=>?_).trans (List.map_id _);have h:=(Qb2.mp hw).2;cases w with
 |str y=>rfl
 |_=>cases h
theorem qw{y:Str}:∀{ws:A0},inV (.str y) ws=true↔V.str y∈ws
 |[]=>⟨(fun h=>nomatch h),(fun h=>nomatch h)⟩
 |w::r=>by
  have e:inV (.str y) (w::r)=(eqV w (.str y)||inV (.str y) r):=rfl;have h1:eqV w (.str y)=true↔V.str y=w:=by
   cases w with
   |str z=>
    show(z == y)=true↔_;rw[beq_iff_eq];exact⟨fun h=>by rw[h],fun h=>by injection h with h;exact h.symm⟩
   |_=>exact⟨(fun h=>nomatch h),(fun h=>nomatch h)⟩
  rw[e,Bool.or_eq_true,h1,qw (ws:=r),Qaq]
def WB(ys:Ai):Bool->V->Prop
 |true,w=>∃y,w=.str y/\y∈qR
 |false,w=>WordOk ys w
def nSum(w:V):Nat:=(Gi T1 (keyOf w)+Gi T2 (keyOf w)).toNat
def nClm(w:V):Nat:=(Gi T3 (keyOf w)).toNat
def nextK(w:V):List Bool:=List.replicate (nSum w) false++List.replicate (nClm w) true
inductive Zoq(ys:Ai):List Bool->List V->List Bool->Prop
 |nil {ls:List Bool}:Zoq ys ls [] ls
 |cons {ls e:List Bool} {b:Bool} {w:V} {r:A0}:WB ys b w->Zoq ys (ls++nextK w) r e->Zoq ys (ls++[b]) (w::r) e
theorem gB{l:List (Str×Int)}(h:∀p∈l,0<=p.2/\p.2<=3)(k:Key):0<=Gi l k/\Gi l k<=3:=by
 induction l with
 |nil=>exact⟨Int.le_refl _,(by decide:(0:Int)<=3)⟩
 |cons p r q=>
  unfold Gi;split
  ·exact h p Qan
  ·grind
def T1_bd(k:Key):0<=Gi T1 k/\Gi T1 k<=3:=gB (by decide +kernel) k
def T2_bd(k:Key):0<=Gi T2 k/\Gi T2 k<=3:=gB (by decide +kernel) k
def T3_bd(k:Key):0<=Gi T3 k/\Gi T3 k<=3:=gB (by decide +kernel) k
def npw(w:V):Nat:=(W4 (keyOf w)).toNat
def zu(k:Key):0<=W4 k/\W4 k<=9:=by
 have h1:=T1_bd k;have h2:=T2_bd k;have q:=T3_bd k;unfold W4;lia
def Zml(h:i<u.length):(u.drop i).reverse=(u.drop (i+1)).reverse++[u[i]]:=by
 rw[Qby h,Qcx]
def Jl(l:A0)(y:V):(l++[y])[(l++[y]).length-1]?=some y:=by grind
def Zj6{ws:A0}{x:V}(h:ws.reverse[i]?=some x):i<ws.length/\ws[ws.length-1-i]?=some x:=by grind
def LsAt(ys:Ai)(ws:A0)(ls:Nat->List Bool):Prop:=ls ws.length=[]/\∀i x,ws[i]?=some x->∃q b,ls i=q++[b]/\WB ys b x/\ls (i+1)=q++nextK x
theorem Zoq.at{ys:Ai}{a e:List Bool}{ws:A0}(h:Zoq ys a ws e)(C:e=[]):∃ls,LsAt ys ws ls/\ls 0=a:=by
 induction h with
 | @nil ls=>
  subst C;exact⟨fun _=>[],⟨rfl,fun i x q=>by simp at q⟩,rfl⟩
 | @cons D e b w r hw _ G=>
  obtain⟨ls,⟨h1,h2⟩,F⟩:=G C;refine⟨fun i=>match i with|0=>D++[b]|i+1=>ls i,⟨h1,fun i x q=>?_⟩,rfl⟩;cases i with
  |zero=>
   have:w=x:=by simpa using q
   subst this;exact⟨D,b,rfl,hw,F⟩
  |succ i=>exact h2 i x (by simpa using q)
def Zpf (y:Str) (a:Int):Int:=if y = "not" then Builtin.bitNot a else if y = "neg" then -a else if y = "twice" then a+a else Builtin.bitAnd a (-a)
def Zpg (y:Str) (a b:Int):Int:=if y = "and" then Builtin.bitAnd a b else if y = "or" then Builtin.bitOr a b else if y = "odd" then Builtin.bitXor a b else if y = "add" then a+b else a-b
def wwv(ρ:Str->Int):V->List Int->Int
 |.int z,_=>z
 |.str y,[]=>ρ y
 |.str y,[a]=>Zpf y a
 |.str y,[a,b]=>Zpg y a b
 |.str _,a::b::c::_=>Builtin.bitOr (Builtin.bitAnd a b) (Builtin.bitAnd (Builtin.bitNot a) c)
 |_,_=>0
def clK:Key->Bool
 |.inr y=>decide (y∈qR)
 |.inl _=>false
def Zor(m n:Nat):(m &&& n)/2=m/2 &&& n/2/\(m &&& n)%2=m%2*(n%2):=by
 refine⟨Nat.and_div_two_pow (n:=1),?_⟩;have h:=Nat.and_mod_two_pow (a:=m) (b:=n) (n:=1);rw[h];rcases Qcz m with e|e<;>rcases Qcz n with f|f<;>rw[e,f]<;>rfl
def n_or(m n:Nat):(m ||| n)/2=m/2 ||| n/2/\(m ||| n)%2=m%2+n%2-m%2*(n%2):=by
 refine⟨Nat.or_div_two_pow (n:=1),?_⟩;have h:=Nat.or_mod_two_pow (a:=m) (b:=n) (n:=1);rw[h];rcases Qcz m with e|e<;>rcases Qcz n with f|f<;>rw[e,f]<;>rfl
def bA_pp(m n:Nat):Builtin.bitAnd m n=((m &&& n:Nat):Int):=by
 rfl
def Zac(n:Nat):¬(0:Int)<=-(n:Int)-1:=by lia
def Zad(n:Nat):(Builtin.bitNot (-(n:Int)-1)).toNat=n:=by
 unfold Builtin.bitNot;lia
def Zos(m n:Nat):Builtin.bitAnd m (-(n:Int)-1)=(m:Int)-((m &&& n:Nat):Int):=by
 unfold Builtin.bitAnd;rw[Qal (Qca m),Qaj (Zac n)];rw[Zad];rfl
def Zmm(m n:Nat):Builtin.bitAnd (-(m:Int)-1) n=(n:Int)-((n &&& m:Nat):Int):=by
 unfold Builtin.bitAnd;rw[Qal (Qca n),Qaj (Zac m)];rw[Zad];rfl
def Zot(m n:Nat):Builtin.bitAnd (-(m:Int)-1) (-(n:Int)-1)=-((m ||| n:Nat):Int)-1:=by
 unfold Builtin.bitAnd;rw[Qaj (Zac n),Qaj (Zac m)];rw[Zad,Zad];rfl
def yS(a:Int):(∃m:Nat,a=m)\/∃m:Nat,a=-(m:Int)-1:=by
 by_cases h:0<=a
 ·exact .inl ⟨a.toNat,by lia⟩
 ·exact .inr ⟨(-a-1).toNat,by lia⟩
def Zbr(a:Int):a%2=0\/a%2=1:=by lia
def sub2(m A:Int)(h:A%2=0\/m%2=1):(m-A)/2=m/2-A/2/\(m-A)%2=m%2-A%2:=by lia
def cast2(m:Nat):(m:Int)/2=((m/2:Nat):Int)/\(m:Int)%2=((m%2:Nat):Int):=⟨rfl,rfl⟩
def Zgp(x:Int):(-x-1)/2=-(x/2)-1/\(-x-1)%2=1-x%2:=by lia
def Zou(m n:Nat):(((m &&& n:Nat):Int))/2=((m/2 &&& n/2:Nat):Int)/\(((m &&& n:Nat):Int))%2=(m:Int)%2*((n:Int)%2):=by
 rw[(cast2 _).1,(cast2 _).2,(Zor m n).1,(Zor m n).2,Int.natCast_mul];exact⟨rfl,rfl⟩
def take2(m n:Nat):((m:Int)-((m &&& n:Nat):Int))/2=((m/2:Nat):Int)-((m/2 &&& n/2:Nat):Int)/\((m:Int)-((m &&& n:Nat):Int))%2=(m:Int)%2*(1-(n:Int)%2):=by
 have l:=Zou m n;have h:((m &&& n:Nat):Int)%2=0\/(m:Int)%2=1:=by
  grind
 have z:=sub2 _ _ h;rw[z.1,z.2,l.1,l.2];refine⟨rfl,?_⟩;rcases Zbr (m:Int)with e|e<;>rcases Zbr (n:Int)with f|f<;>rw[e,f]<;>rfl
def Zno(a b:Int):Builtin.bitAnd a b/2=Builtin.bitAnd (a/2) (b/2)/\Builtin.bitAnd a b%2=a%2*(b%2):=by
 rcases yS a with⟨m,rfl⟩|⟨m,rfl⟩<;>rcases yS b with⟨n,rfl⟩|⟨n,rfl⟩
 ·exact Zou m n
 ·rw[(cast2 m).1,(Zgp _).1,(Zgp _).2,(cast2 n).1,Zos,Zos];exact take2 m n
 ·rw[(cast2 n).1,(Zgp _).1,(Zgp _).2,(cast2 m).1,Zmm,Zmm,Qfe];exact take2 n m
 ·rw[(Zgp (m:Int)).1,(Zgp (m:Int)).2,(Zgp (n:Int)).1,(Zgp (n:Int)).2,(cast2 m).1,(cast2 n).1,Zot,Zot,(Zgp _).1,(Zgp _).2,(cast2 _).1,(cast2 _).2,(n_or m n).1,(n_or m n).2];refine⟨rfl,?_⟩;rw[(cast2 m).2,(cast2 n).2];rcases Qcz m with e|e<;>rcases Qcz n with f|f<;>rw[e,f]<;>rfl
def Zj7(a:Int):Builtin.bitNot a/2=Builtin.bitNot (a/2)/\Builtin.bitNot a%2=1-a%2:=by
 unfold Builtin.bitNot;lia
def or2(a b:Int):Builtin.bitOr a b/2=Builtin.bitOr (a/2) (b/2)/\Builtin.bitOr a b%2=1-(1-a%2)*(1-b%2):=by
 unfold Builtin.bitOr;have h:=Zno (Builtin.bitNot a) (Builtin.bitNot b);rw[(Zj7 a).1,(Zj7 b).1,(Zj7 a).2,(Zj7 b).2]at h;rw[(Zj7 _).1,(Zj7 _).2,h.1,h.2];exact⟨rfl,rfl⟩
def xor2(a b:Int):Builtin.bitXor a b/2=Builtin.bitXor (a/2) (b/2)/\Builtin.bitXor a b%2=(a%2+b%2)%2:=by
 unfold Builtin.bitXor;have h:=Zno a b;have g:=or2 a b;have q:Builtin.bitAnd a b%2=0\/Builtin.bitOr a b%2=1:=by
  rw[h.2,g.2];rcases Zbr a with e|e<;>rcases Zbr b with f|f<;>rw[e,f]<;>decide
 have z:=sub2 _ _ q;rw[z.1,z.2,h.1,h.2,g.1,g.2];refine⟨rfl,?_⟩;rcases Zbr a with e|e<;>rcases Zbr b with f|f<;>rw[e,f]<;>rfl
def zv(w:Nat)(n:Int):jj (w+1) n=n%2::jj w (n/2):=by
 unfold jj;rw[List.range_succ_eq_map,Qbx,Qb7,Qdx,Qcf];congr 1;refine Qcn fun i _=>?_;show n/2^(i+1)%2=n/2/2^i%2;rw[Qfd,Qfe,Qdw (by decide:(0:Int)<=2)]
theorem Zhz(w:Nat)(n:Int):jj w (n%2^w)=jj w n:=by
 induction w generalizing n with
 |zero=>rfl
 |succ w C=>
  rw[zv,zv,<-C (n/2)];have e1:n%2^(w+1)%2=n%2:=by
   rw[Int.emod_emod_of_dvd];exact⟨2^w,by rw[Qfd,Qfe]⟩
  have e2:n%2^(w+1)/2=n/2%2^w:=by
   have q:(0:Int)<2^w:=Qfb (by decide);have h2:=Qds (n/2) (2^w);have F:=Qbe (n/2) (Qd6 q);have D:=Qa3 (n/2) q;have e:n%2^(w+1)=n%2+2*(n/2%2^w):=by
    have:n=n%2+2*(n/2%2^w)+2^(w+1)*(n/2/2^w):=by
     grind
    conv=>lhs;rw[this]
    rw[Qdj];refine Qcr (by lia) ?_;lia
   rw[e];lia
  rw[e1,e2]
def bits_getD(w:Nat)(n:Int)(i:Nat)(h:i<w):(jj w n).getD i 0=n/2^i%2:=by
 unfold jj;rw[Qap,Qam,Qdl h];rfl
theorem kF(w:Nat)(n:Int):(jj w n).foldr (fun b t=>2*t+b) 0=n%2^w:=by
 induction w generalizing n with
 |zero=>rw[Qdx,Qhc];rfl
 |succ w C=>
  rw[zv,List.foldr_cons,C];have q:(0:Int)<2^w:=Qfb (by decide);have h2:=Qds (n/2) (2^w);have D:=Qbe (n/2) (Qd6 q);have F:=Qa3 (n/2) q;have:n=2*(n/2%2^w)+n%2+2^(w+1)*(n/2/2^w):=by
   grind
  conv=>rhs;rw[this]
  rw[Qdj];refine(Qcr (by lia) ?_).symm;lia
theorem Zez{j:Nat}(h:i<=j):(2:Int)^i<=2^j:=by
 obtain⟨d,rfl⟩:∃d,j=i+d:=⟨j-i,by lia⟩;clear h
 induction d with
 |zero=>exact Int.le_refl _
 |succ d q=>
  lia
def bt(x:Int)(k:Nat):Int:=x/2^k%2
def YX(x:Int)(k:Nat):bt x (k+1)=bt (x/2) k:=by
 unfold bt;rw[Qfd,Qfe,Qdw (by decide:(0:Int)<=2)]
def WV(x:Int)(k:Nat):bt x k=0\/bt x k=1:=by
 unfold bt;lia
theorem X0(k:Nat):∀a b:Int,bt (Builtin.bitAnd a b) k=bt a k*bt b k:=by
 induction k with
 |zero=>
  intro a b;unfold bt;rw[Qdx,Qcf,Qcf,Qcf,(Zno a b).2]
 |succ k q=>
  intro a b;rw[YX,YX,YX,(Zno a b).1,q]
theorem zw(k:Nat):∀a b:Int,bt (Builtin.bitOr a b) k=1-(1-bt a k)*(1-bt b k):=by
 induction k with
 |zero=>
  intro a b;unfold bt;rw[Qdx,Qcf,Qcf,Qcf,(or2 a b).2]
 |succ k q=>
  intro a b;rw[YX,YX,YX,(or2 a b).1,q]
theorem qS(k:Nat):∀a b:Int,bt (Builtin.bitXor a b) k=(bt a k+bt b k)%2:=by
 induction k with
 |zero=>
  intro a b;unfold bt;rw[Qdx,Qcf,Qcf,Qcf,(xor2 a b).2]
 |succ k q=>
  intro a b;rw[YX,YX,YX,(xor2 a b).1,q]
theorem zx(k:Nat):∀a:Int,bt (Builtin.bitNot a) k=1-bt a k:=by
 induction k with
 |zero=>
  intro a;unfold bt;rw[Qdx,Qcf,Qcf,(Zj7 a).2]
 |succ k q=>
  intro a;rw[YX,YX,(Zj7 a).1,q]
def qx(k:Nat):bt 0 k=0:=by
 unfold bt;rw[Int.zero_ediv];rfl
theorem Zmn(k:Nat):bt (-1) k=1:=by
 induction k with
 |zero=>rfl
 |succ k q=>rw[YX];exact q
def Zj8(x:Int)(w k:Nat)(h:k<w):bt (x%2^w) k=bt x k:=by
 have e:=Zhz w x;have h1:=bits_getD w (x%2^w) k h;have h2:=bits_getD w x k h;rw[e,h2]at h1;exact h1.symm
def lo(x:Int)(k:Nat):Int:=x%2^k
def Zh0(x:Int)(k:Nat):0<=lo x k/\lo x k<2^k:=⟨Qbe _ (Qd6 (Qfb (by decide))),Qa3 _ (Qfb (by decide))⟩
def Ze0(x:Int)(k:Nat):lo x (k+1)=lo x k+2^k*bt x k:=by
 unfold lo bt;have q:(0:Int)<2^k:=Qfb (by decide);have e1:=Qds x (2^k);have D:=Qbe x (Qd6 q);have b1:=Qa3 x q;have e3:x=(x%2^k+2^k*(x/2^k%2))+2^(k+1)*(x/2^k/2):=by
  grind
 conv=>lhs;rw[e3]
 rw[Qdj];have C:x/2^k%2=0\/x/2^k%2=1:=by lia
 refine Qcr ?_ ?_
 ·rcases C with h|h<;>rw[h]<;>lia
 ·grind
def Zmo(x:Int)(k:Nat):x=lo x k+2^k*(x/2^k):=(Qds x (2^k)).symm
def bt_sum{x y:Int}{k:Nat}{c:Int}(C:c=0\/c=1)(e:lo z k+2^k*c=lo x k+lo y k)(hz:z=x+y):bt z k=(bt x k+bt y k+c)%2:=by
 have q:(0:Int)<2^k:=Qfb (by decide);have e1:=Zmo x k;have e2:=Zmo y k;have e3:=Zmo z k;have h:(2:Int)^k*(z/2^k)=2^k*(x/2^k+y/2^k+c):=by
  rw[Int.mul_add,Int.mul_add];lia
 have h2:=Int.eq_of_mul_eq_mul_left (Qd6 q) h;unfold bt;rw[h2];lia
def cyA(x y:Int)(k:Nat):Int:=(lo x k+lo y k)/2^k
def Ze1(x y:Int)(k:Nat):lo (x+y) k+2^k*cyA x y k=lo x k+lo y k:=by
 have e:lo (x+y) k=(lo x k+lo y k)%2^k:=by
  unfold lo;rw[<-Int.emod_add_emod,<-Int.add_emod_emod]
 rw[e];exact Qds _ _
def Ze2(x y:Int)(k:Nat):cyA x y k=0\/cyA x y k=1:=by
 have q:(0:Int)<2^k:=Qfb (by decide);have a:=Zh0 x k;have b:=Zh0 y k;have D:0<=cyA x y k:=Int.ediv_nonneg (by lia) (Int.le_of_lt q);have C:cyA x y k<2:=Int.ediv_lt_of_lt_mul q (by lia);lia
def Zj9(x y:Int)(k:Nat):bt (x+y) k=(bt x k+bt y k+cyA x y k)%2:=bt_sum (Ze2 x y k) (Ze1 x y k) rfl
def Zae(x y:Int):cyA x y 0=0:=by
 unfold cyA lo;rw[Qdx,Qhc,Qhc];rfl
def Zaf(x y:Int)(k:Nat):cyA x y (k+1)=(bt x k+bt y k+cyA x y k)/2:=by
 have q:(0:Int)<2^k:=Qfb (by decide);have e1:=Ze0 x k;have e2:=Ze0 y k;have e3:=Ze1 x y k;have b:=Zh0 (x+y) k;have e:lo x (k+1)+lo y (k+1)=lo (x+y) k+2^k*(bt x k+bt y k+cyA x y k):=by
  lia
 unfold cyA;rw[e,Qfd,<-Qdw (Int.le_of_lt q),Qfv _ _ (Qd6 q),Qc1 b.1 b.2,Qe1];rfl
def brA(x y:Int)(k:Nat):Int:=if lo x k<lo y k then 1 else 0
def Zag(x y:Int)(k:Nat):brA x y k=cyA (x-y) y k:=by
 have e:=Ze1 (x-y) y k;have b:=Zh0 (x-y) k;unfold brA;rcases Ze2 (x-y) y k with h|h<;>rw[h]at e ⊢
 ·rw[Qa4 (by lia)]
 ·rw[Qba (by lia)]
def Zah(x y:Int)(k:Nat):brA x y k=0\/brA x y k=1:=by
 unfold brA;split
 ·exact .inr rfl
 ·exact .inl rfl
def Ze3(x y:Int)(k:Nat):bt (x-y) k=(bt x k+bt y k+brA x y k)%2:=by
 have h:=Zj9 (x-y) y k;rw[Int.sub_add_cancel,<-Zag]at h;have a:=WV (x-y) k;rw[h];lia
def Zai(x y:Int):brA x y 0=0:=by
 rw[Zag,Zae]
def Zaj(x y:Int)(k:Nat):brA x y (k+1)=1-(1-(1-bt x k)*bt y k)*(1-brA x y k*(1-(bt x k+bt y k)%2)):=by
 rw[Zag,Zaf,<-Zag,Ze3];rcases WV x k with a|a<;>rcases WV y k with b|b<;>rcases Zah x y k with c|c<;>rw[a,b,c]<;>rfl
def nzA(x:Int)(k:Nat):Int:=brA 0 x k
def Zka(x:Int)(k:Nat):nzA x k=0\/nzA x k=1:=Zah 0 x k
def Zh1(x:Int):nzA x 0=0:=Zai 0 x
def Zh2(x:Int)(k:Nat):nzA x (k+1)=1-(1-bt x k)*(1-nzA x k):=by
 unfold nzA;rw[Zaj,qx];rcases WV x k with a|a<;>rcases Zah 0 x k with c|c<;>rw[a,c]<;>rfl
def Zkb(x:Int)(k:Nat):bt (-x) k=(bt x k+nzA x k)%2:=by
 have h:=Ze3 0 x k;rw[Int.zero_sub,qx,Qe1]at h;exact h
def bt_low(x:Int)(k:Nat):bt (Builtin.bitAnd x (-x)) k=bt x k*(1-nzA x k):=by
 rw[X0,Zkb];rcases WV x k with a|a<;>rcases Zka x k with c|c<;>rw[a,c]<;>rfl
def tw(x:Int):Nat->Int
 |0=>0
 |k+1=>bt x k
theorem tw_01(x:Int):∀k,tw x k=0\/tw x k=1
 |0=>.inl rfl
 |k+1=>WV x k
theorem Zh3(x:Int):∀k,bt (x+x) k=tw x k
 |0=>by
  unfold bt;rw[Qdx,Qcf];show(x+x)%2=0;lia
 |k+1=>by
  rw[YX,show(x+x)/2=x by lia];rfl
def hld(y:Str)(is:Ak)(k:Nat):Int:=
 if y = "twice" then tw (is.getD 0 0) k else if y = "neg" \/ y = "low" then nzA (is.getD 0 0) k else if y = "add" then cyA (is.getD 0 0) (is.getD 1 0) k else brA (is.getD 0 0) (is.getD 1 0) k
def WH:Ai:=["neg","twice","low","add","sub"]
def hld_01(y:Str)(is:Ak)(k:Nat):hld y is k=0\/hld y is k=1:=by
 unfold hld;split
 ·exact tw_01 _ _
 ·split
  ·exact Zka _ _
  ·split
   ·exact Ze2 _ _ _
   ·exact Zah _ _ _
def Zh4(y:Str)(is:Ak):hld y is 0=0:=by
 unfold hld;split
 ·rfl
 ·split
  ·exact Zh1 _
  ·split
   ·exact Zae _ _
   ·exact Zai _ _
def once(y:Str)(bs:Ak):Int:=
 if y = "not" then 1-bs.getD 0 0 else if y = "and" then bs.getD 0 0*bs.getD 1 0 else if y = "or" then 1-(1-bs.getD 0 0)*(1-bs.getD 1 0)else if y = "odd" then(bs.getD 0 0+bs.getD 1 0)%2
 else 1-(1-bs.getD 0 0*bs.getD 1 0)*(1-(1-bs.getD 0 0)*bs.getD 2 0)
def Zov(y:Str)(bs:Ak)(h:Int):Int:=
 if y = "twice" then bs.getD 0 0 else if y = "neg" \/ y = "low" then 1-(1-bs.getD 0 0)*(1-h)else if y = "add" then(bs.getD 0 0+bs.getD 1 0+h)/2 else 1-(1-(1-bs.getD 0 0)*bs.getD 1 0)*(1-h*(1-(bs.getD 0 0+bs.getD 1 0)%2))
def Zph(y:Str)(bs:Ak)(h:Int):Int:=
 if y = "twice" then h else if y = "neg" then(bs.getD 0 0+h)%2 else if y = "low" then bs.getD 0 0*(1-h)else(bs.getD 0 0+bs.getD 1 0+h)%2
def Zh5(y:Str)(is:Ak)(k:Nat):hld y is (k+1)=Zov y (is.map fun x=>bt x k) (hld y is k):=by
 have g:∀i:Nat,(is.map fun x=>bt x k).getD i 0=bt (is.getD i 0) k:=fun i=>by
  rw[Qap,Qap,Qam];cases is[i]? with
  |none=>exact(qx k).symm
  |some x=>rfl
 unfold hld Zov;rw[g,g];split
 ·rfl
 ·split
  ·exact Zh2 _ _
  ·split
   ·exact Zaf _ _ _
   ·exact Zaj _ _ _
def zy(is:Ak)(k i:Nat):(is.map fun x=>bt x k).getD i 0=bt (is.getD i 0) k:=by
 rw[Qap,Qap,Qam];cases is[i]? with
 |none=>exact(qx k).symm
 |some x=>rfl
def rem_parts:∀y∈WH,y∈G9/\Yu y=(if y = "add" \/ y = "sub" then 2 else 1):=by decide +kernel
def yh:∀y∈G9,y∉WH->(y = "not" /\ Yu y=1)\/(y = "and" /\ Yu y=2)\/(y = "or" /\ Yu y=2)\/(y = "odd" /\ Yu y=2)\/(y = "pick" /\ Yu y=3):=by decide +kernel
def ans_ok(ρ:Str->Int){y:Str}(C:y∈WH){is:Ak}(q:is.length=Yu y)(k:Nat):Zph y (is.map fun x=>bt x k) (hld y is k)=bt (wwv ρ (.str y) is) k:=by
 unfold WH at C;simp only[Qaq,Qbo,Qem]at C;rcases C with rfl|rfl|rfl|rfl|rfl
 ·match is,q with
  |[a],_=>exact(Zkb a k).symm
 ·match is,q with
  |[a],_=>exact(Zh3 a k).symm
 ·match is,q with
  |[a],_=>exact(bt_low a k).symm
 ·match is,q with
  |[a,b],_=>exact(Zj9 a b k).symm
 ·match is,q with
  |[a,b],_=>exact(Ze3 a b k).symm
def Zmp(ρ:Str->Int){y:Str}(D:y∈G9)(C:y∉WH){is:Ak}(q:is.length=Yu y)(k:Nat):once y (is.map fun x=>bt x k)=bt (wwv ρ (.str y) is) k:=by
 rcases yh y D C with⟨rfl,e⟩|⟨rfl,e⟩|⟨rfl,e⟩|⟨rfl,e⟩|⟨rfl,e⟩<;>skip
 ·match is,q with
  |[a],_=>exact(zx k a).symm
 ·match is,q with
  |[a,b],_=>exact(X0 k a b).symm
 ·match is,q with
  |[a,b],_=>exact(zw k a b).symm
 ·match is,q with
  |[a,b],_=>exact(qS k a b).symm
 ·match is,q with
  |[a,b,c],_=>
   show 1-(1-bt a k*bt b k)*(1-(1-bt a k)*bt c k)=bt (Builtin.bitOr (Builtin.bitAnd a b) (Builtin.bitAnd (Builtin.bitNot a) c)) k;rw[zw,X0,X0,zx]
def Xa(m:Int)(ρ:Str->Int):A0->List Int
 |[]=>[]
 |w::r=>(wwv ρ w ((Xa m ρ r).take (npw w))%m)::(Xa m ρ r).drop (npw w)
def qT:A0->Nat
 |[]=>0
 |w::r=>qT r-npw w+1
def YE:A0->Prop
 |[]=>True
 |w::r=>npw w<=qT r/\YE r
theorem J0(m:Int)(ρ:Str->Int):∀ws:A0,(Xa m ρ ws).length=qT ws
 |[]=>rfl
 |w::r=>by
  show((Xa m ρ r).drop (npw w)).length+1=_;rw[Qbt,J0 m ρ r];rfl
def qb:V->Bool
 |.str y=>decide (y∈WH)
 |_=>false
def xq(m:Int)(ρ:Str->Int):A0->Nat->List Int
 |[],_=>[]
 |w::r,k=>xq m ρ r k++if qb w=true then[hld (Zmj w) ((Xa m ρ r).take (npw w)) k]else[]
def Zgq(ys:Ai)(ν:Str->Int)(pl:Nat)(kp:Ak):A0->List Int×Ak
 |[]=>([],[])
 |w::r=>
  let p:=Zgq ys ν pl kp r
  match w with
  |.str y=>
   if y∈WH then(Zph y (p.1.take (npw w)) (kp.getD p.2.length 0)::p.1.drop (npw w),p.2++[Zov y (p.1.take (npw w)) (kp.getD p.2.length 0)])
   else if y∈ys then(ν y::p.1,p.2)
   else(once y (p.1.take (npw w))::p.1.drop (npw w),p.2)
  |.int z=>(bt z pl::p.1,p.2)
  |_=>p
def WW(ys:Ai)(B:Nat)(w:V):Prop:=(∃y,w=.str y/\y∈G9/\y∉ys/\npw w=Yu y)\/(∃y,w=.str y/\y∈ys/\y∉WH/\npw w=0)\/∃z:Int,w=.int z/\0<=z/\z<2^B/\npw w=0
theorem Zmq(m:Int)(ρ:Str->Int)(ws:A0)(k:Nat):(xq m ρ ws k).length=(ws.filter qb).length:=by
 induction ws with
 |nil=>rfl
 |cons w r q=>
  show(xq m ρ r k++_).length=_;rw[Qaf,q,Qcw];split<;>rfl
def Zkc{B k:Nat}(C:0<=z)(h:z<2^B)(q:B<=k):bt z k=0:=by
 have D:(2:Int)^B<=2^k:=Zez q;unfold bt;rw[Qc1 C (by lia)];rfl
theorem Zkd{ys:Ai}{B W k pl:Nat}{ρ:Str->Int}(hk:k<W)(G:pl=k\/(B<=pl/\B<=k))(kp:Ak):∀ws:A0,(∀w∈ws,WW ys B w)->YE ws->(∃r,kp=xq (2^W) ρ ws k++r)->Zgq ys (fun y=>bt (ρ y) k) pl kp ws=((Xa (2^W) ρ ws).map (fun x=>bt x k),xq (2^W) ρ ws (k+1))
 |[],_,_,_=>rfl
 |w::r,hw,he,hkp=>by
  obtain⟨r0,F⟩:=hkp;have Y:=Zkd (ρ:=ρ) hk G kp r (fun w h=>hw w (Qak _ h)) he.2 ⟨_,by rw[F];show(_++_)++_=_;rw[Qcy]⟩;have I:=J0 (2^W) ρ r;have J:((Xa (2^W) ρ r).take (npw w)).length=npw w:=by rw[Qas,I];exact Qef he.1
  have bm:∀x:Int,bt (x%2^W) k=bt x k:=fun x=>Zj8 x W k hk;have ml:=Zmq (2^W) ρ r;rcases hw w Qan with⟨y,rfl,Z,hny,D⟩|⟨y,rfl,Z,O,D⟩|⟨z,rfl,z0,z1,D⟩
  ·by_cases C:y∈WH
   ·have q:qb (.str y)=true:=Qal C;have hg:kp.getD (xq (2^W) ρ r (k+1)).length 0=hld y ((Xa (2^W) ρ r).take (npw (.str y))) k:=by
     have e:xq (2^W) ρ (.str y::r) k=xq (2^W) ρ r k++[hld y ((Xa (2^W) ρ r).take (npw (.str y))) k]:=by
      show _++(if qb (.str y)=true then _ else _)=_;rw[Qba q];rfl
     rw[F,e,ml,<-ml k,Qcy,Qap,Qa2 (Qah _),Qff];rfl
    show(if y∈WH then _ else _)=_;rw[Qba C,Y];rw[hg,<-Qe7,ans_ok ρ C (by rw[J,D]) k,<-Zh5];refine Qhe ?_ ?_
    ·show _::_=bt (wwv ρ (.str y) ((Xa (2^W) ρ r).take (npw (.str y)))%2^W) k::((Xa (2^W) ρ r).drop (npw (.str y))).map _;rw[bm,Qfm]
    ·show _=_++(if qb (.str y)=true then _ else _);rw[Qba q];rfl
   ·have q:¬qb (.str y)=true:=fun z=>C (Qbh z)
    show(if y∈WH then _ else if y∈ys then _ else _)=_;rw[Qa4 C,Qa4 hny,Y];rw[<-Qe7,Zmp ρ Z C (by rw[J,D]) k];refine Qhe ?_ ?_
    ·show _::_=bt (wwv ρ (.str y) ((Xa (2^W) ρ r).take (npw (.str y)))%2^W) k::((Xa (2^W) ρ r).drop (npw (.str y))).map _;rw[bm,Qfm]
    ·show _=_++(if qb (.str y)=true then _ else _);rw[Qa4 q,Qbm]
  ·have q:¬qb (.str y)=true:=fun z=>O (Qbh z)
   show(if y∈WH then _ else if y∈ys then _ else _)=_;rw[Qa4 O,Qba Z,Y];refine Qhe ?_ ?_
   ·show _::_=bt (wwv ρ (.str y) ((Xa (2^W) ρ r).take (npw (.str y)))%2^W) k::((Xa (2^W) ρ r).drop (npw (.str y))).map _;rw[bm,D,List.take_zero,Qdp];rfl
   ·show _=_++(if qb (.str y)=true then _ else _);rw[Qa4 q,Qbm]
  ·show(bt z pl::(Zgq ys (fun y=>bt (ρ y) k) pl kp r).1,(Zgq ys (fun y=>bt (ρ y) k) pl kp r).2)=_;rw[Y];have ez:bt z pl=bt z k:=by
    rcases G with h|⟨h1,h2⟩
    ·rw[h]
    ·rw[Zkc z0 z1 h1,Zkc z0 z1 h2]
   refine Qhe ?_ ?_
   ·show bt z pl::_=bt (wwv ρ (.int z) ((Xa (2^W) ρ r).take (npw (.int z)))%2^W) k::((Xa (2^W) ρ r).drop (npw (.int z))).map _;rw[bm,D,Qdp,ez];rfl
   ·show _=_++(if qb (.int z)=true then _ else _);rw[Qa4 (fun z=>nomatch z),Qbm]
def Zow(a b h:Int):Int:=Builtin.bitOr (Builtin.bitAnd (Builtin.bitNot a) b) (Builtin.bitAnd h (Builtin.bitNot (Builtin.bitXor a b)))
def allR:Ai:=["neg","twice","low","add","sub","same","under","beneath","nought"]
def Znp:Ai:=["add","sub","same","under","beneath"]
def ktI(y:Str)(is:Ak)(h:Int):Int:=
 if y = "twice" then is.getD 0 0 else if y = "neg" \/ y = "low" \/ y = "nought" then Builtin.bitOr (is.getD 0 0) h else if y = "same" then Builtin.bitOr (Builtin.bitXor (is.getD 0 0) (is.getD 1 0)) h
 else if y = "add" then Builtin.bitOr (Builtin.bitAnd (is.getD 0 0) (is.getD 1 0)) (Builtin.bitAnd h (Builtin.bitOr (is.getD 0 0) (is.getD 1 0)))else Zow (is.getD 0 0) (is.getD 1 0) h
def okI(y:Str)(is:Ak)(h n:Int):Int:=
 if y = "add" \/ y = "sub" then Builtin.bitXor (Builtin.bitXor (is.getD 0 0) (is.getD 1 0)) h else if y = "neg" then Builtin.bitXor (is.getD 0 0) h else if y = "twice" then h else if y = "low" then Builtin.bitAnd (is.getD 0 0) (Builtin.bitNot h)
 else if y = "same" \/ y = "nought" then Builtin.bitNot n else if y = "under" then n else Zow (is.getD 1 0) (is.getD 0 0) h
def oaI(y:Str)(is:Ak):Int:=
 if y = "yes" then -1 else if y = "sign" then is.getD 0 0 else if y = "not" \/ y = "never" then Builtin.bitNot (is.getD 0 0)else if y = "and" \/ y = "both" then Builtin.bitAnd (is.getD 0 0) (is.getD 1 0)else if y = "or" \/ y = "either" then Builtin.bitOr (is.getD 0 0) (is.getD 1 0)
 else if y = "odd" then Builtin.bitXor (is.getD 0 0) (is.getD 1 0)else if y = "so" then Builtin.bitOr (Builtin.bitNot (is.getD 0 0)) (is.getD 1 0)else Builtin.bitOr (Builtin.bitAnd (is.getD 0 0) (is.getD 1 0)) (Builtin.bitAnd (Builtin.bitNot (is.getD 0 0)) (is.getD 2 0))
def Zh6 (y:Str):Nat:=if y = "yes" then 0 else if y = "sign" \/ y = "not" \/ y = "never" then 1 else if y = "pick" then 3 else 2
def kt_bt{y:Str}(q:y∈WH)(is:Ak)(h:Int)(l:Nat):bt (ktI y is h) l=Zov y (is.map fun x=>bt x l) (bt h l):=by
 unfold Zov ktI;rw[zy,zy];unfold WH at q;simp only[Qaq,Qbo,Qem]at q;rcases q with rfl|rfl|rfl|rfl|rfl
 ·exact zw l _ _
 ·rfl
 ·exact zw l _ _
 ·show bt (Builtin.bitOr (Builtin.bitAnd (is.getD 0 0) (is.getD 1 0)) (Builtin.bitAnd h (Builtin.bitOr (is.getD 0 0) (is.getD 1 0)))) l=(bt (is.getD 0 0) l+bt (is.getD 1 0) l+bt h l)/2;rw[zw,X0,X0,zw];rcases WV (is.getD 0 0) l with a|a<;>rcases WV (is.getD 1 0) l with b|b<;>rcases WV h l with c|c<;>rw[a,b,c]<;>rfl
 ·show bt (Zow (is.getD 0 0) (is.getD 1 0) h) l=_;unfold Zow;rw[zw,X0,X0,zx,zx,qS];rfl
def ok_bt{y:Str}(q:y∈WH)(is:Ak)(h n:Int)(l:Nat):bt (okI y is h n) l=Zph y (is.map fun x=>bt x l) (bt h l):=by
 unfold Zph okI;rw[zy,zy];unfold WH at q;simp only[Qaq,Qbo,Qem]at q;rcases q with rfl|rfl|rfl|rfl|rfl
 ·exact qS l _ _
 ·rfl
 ·show bt (Builtin.bitAnd (is.getD 0 0) (Builtin.bitNot h)) l=_;rw[X0,zx];rfl
 ·show bt (Builtin.bitXor (Builtin.bitXor (is.getD 0 0) (is.getD 1 0)) h) l=(bt (is.getD 0 0) l+bt (is.getD 1 0) l+bt h l)%2;rw[qS,qS];lia
 ·show bt (Builtin.bitXor (Builtin.bitXor (is.getD 0 0) (is.getD 1 0)) h) l=(bt (is.getD 0 0) l+bt (is.getD 1 0) l+bt h l)%2;rw[qS,qS];lia
def oa_bt{y:Str}(C:y∈G9)(q:y∉WH)(is:Ak)(l:Nat):bt (oaI y is) l=once y (is.map fun x=>bt x l):=by
 unfold once oaI;rw[zy,zy,zy];rcases yh y C q with⟨rfl,_⟩|⟨rfl,_⟩|⟨rfl,_⟩|⟨rfl,_⟩|⟨rfl,_⟩
 ·exact zx l _
 ·exact X0 l _ _
 ·exact zw l _ _
 ·exact qS l _ _
 ·show bt (Builtin.bitOr (Builtin.bitAnd (is.getD 0 0) (is.getD 1 0)) (Builtin.bitAnd (Builtin.bitNot (is.getD 0 0)) (is.getD 2 0))) l=_;rw[zw,X0,X0,zx];rfl
def Ze4:∀y∈allR,¬y = "twice" ->¬(y = "neg" \/ y = "low" \/ y = "nought")->y∈Znp:=by decide +kernel
def Zh7:Ai:=["not","and","or","odd","pick","both","either","so","never","yes","sign"]
def Zbs:∀y∈Zh7,¬y = "yes" ->¬y = "sign" ->¬(y = "not" \/ y = "never")->¬(y = "and" \/ y = "both")->¬(y = "or" \/ y = "either")->¬y = "odd" ->¬y = "so" ->3<=Zh6 y:=by decide +kernel
def z5{m:Nat}{is:Ak}(h:is.length=m)(h2:n<=m):n<=is.length:=by rw[h];exact h2
def and_zero(x:Int):Builtin.bitAnd x 0=0:=by
 rcases yS x with⟨m,rfl⟩|⟨m,rfl⟩
 ·rw[show(0:Int)=((0:Nat):Int)from rfl,bA_pp,Nat.and_zero]
 ·rw[show(0:Int)=((0:Nat):Int)from rfl,Zmm,Nat.zero_and];rfl
def and_1(x:Int):Builtin.bitAnd x 1=x%2:=by
 obtain⟨h1,h2⟩:=Zno x 1;rw[show(1:Int)/2=0 from rfl,and_zero]at h1;lia
def XN(ys:Ai)(cols:Str->Int)(pl:Nat)(kp:Ak):A0->List Int×Ak
 |[]=>([],[])
 |w::r=>
  let p:=XN ys cols pl kp r
  match w with
  |.str y=>
   if y∈allR then(okI y (p.1.take (npw w)) (-(kp.getD p.2.length 0)) (ktI y (p.1.take (npw w)) (-(kp.getD p.2.length 0)))::p.1.drop (npw w),p.2++[ktI y (p.1.take (npw w)) (-(kp.getD p.2.length 0))])
   else if y∈ys then(cols y::p.1.drop (npw w),p.2)
   else(oaI y (p.1.take (npw w))::p.1.drop (npw w),p.2)
  |.int z=>(-(bt z pl)::p.1.drop (npw w),p.2)
  |_=>p
def Ze5(kvs:Ay)(ys:Ai)(cols:Str->Int):Prop:=(∀y∈ys,Yd kvs (.inr y)=some (.int (cols y)))/\∀y,y∉ys->Yd kvs (.inr y)=none
def kG(ys:Ai)(w:V):Prop:=(∃y,w=.str y/\y∈allR/\y∉ys/\1<=npw w/\(y∈Znp->2<=npw w))\/(∃y,w=.str y/\y∈Zh7/\y∉allR/\y∉ys/\npw w=Zh6 y)\/(∃y,w=.str y/\y∈ys/\y∉allR/\npw w=0)\/∃z:Int,w=.int z/\0<=z/\npw w=0
theorem yT{ys:Ai}{cols:Str->Int}{pl:Nat}{kp:Ak}:∀ws:A0,(∀w∈ws,kG ys w)->(XN ys cols pl kp ws).1.length=qT ws
 |[],_=>rfl
 |w::r,hw=>by
  have C:=yT (ys:=ys) (cols:=cols) (pl:=pl) (kp:=kp) r fun w h=>hw w (Qak _ h);have go:∀x:Int,(x::(XN ys cols pl kp r).1.drop (npw w)).length=qT r-npw w+1:=fun x=>by grind
  rcases hw w Qan with⟨y,rfl,h1,_⟩|⟨y,rfl,h1,h2,q,_⟩|⟨y,rfl,h1,h2,_⟩|⟨z,rfl,_⟩
  ·show(if y∈allR then _ else _:Ak×Ak).1.length=_;rw[Qba h1];exact go _
  ·show(if y∈allR then _ else if y∈ys then _ else _:Ak×Ak).1.length=_;rw[Qa4 h2,Qa4 q];exact go _
  ·show(if y∈allR then _ else if y∈ys then _ else _:Ak×Ak).1.length=_;rw[Qa4 h2,Qba h1];exact go _
  ·exact go _
def kH(ys:Ai)(cols:Str->Int)(pl:Nat)(kp:Ak)(w:V)(r:A0):(XN ys cols pl kp r).2.length<=(XN ys cols pl kp (w::r)).2.length:=by
 cases w with
 |str y=>
  show _<=(if y∈allR then _ else if y∈ys then _ else _:Ak×Ak).2.length;split
  ·grind
  ·split<;>exact Qah _
 |_=>exact Qah _
theorem kI(ys:Ai)(cols:Str->Int)(pl:Nat)(kp:Ak):∀(ws:A0) (j:Nat),(XN ys cols pl kp (ws.drop j)).2.length<=(XN ys cols pl kp ws).2.length
 |[],j=>by rw[List.drop_nil];exact Qah _
 |w::r,0=>Qah _
 |w::r,j+1=>Qa8 (kI ys cols pl kp r j) (kH ys cols pl kp w r)
theorem Ga:∀(ws:A0) (j:Nat),YE ws->YE (ws.drop j)
 |[],j,_=>by rw[List.drop_nil];exact trivial
 |w::r,0,h=>h
 |w::r,j+1,h=>Ga r j h.2
theorem yU:∀ws:A0,qT ws<=ws.length
 |[]=>Qah _
 |w::r=>by
  have:=yU r;show qT r-npw w+1<=r.length+1;lia
def yV(z:Int)(ys:Ai):inV (.int z) (ys.map V.str)=false:=by
 cases q:inV (.int z) (ys.map V.str)with
 |false=>rfl
 |true=>
  obtain⟨x,C,e⟩:=Qd5.mp q;obtain⟨y,_,rfl⟩:=Qay.mp C;cases e
theorem Zak(ys:Ai)(cols:Str->Int)(pl:Nat)(kp:Ak):∀ws:A0,(XN ys cols pl kp ws).2.length<=ws.length
 |[]=>Qah _
 |w::r=>by
  have q:=Zak ys cols pl kp r;cases w with
  |str y=>
   show(if y∈allR then _ else if y∈ys then _ else _:Ak×Ak).2.length<=r.length+1;split
   ·grind
   ·split<;>exact Nat.le_succ_of_le q
  |_=>exact Nat.le_succ_of_le q
def gC{x:Int}(h:x=0\/x=1)(l:Nat):bt (-x) l=x:=by
 rcases h with rfl|rfl
 ·exact qx l
 ·exact Zmn l
def yW:∀y∈G9,(y∈allR↔y∈WH):=by decide +kernel
def kJ{ys:Ai}{B:Nat}{cols:Str->Int}{pl:Nat}{kp:Ak}(O:∀i:Nat,kp.getD i 0=0\/kp.getD i 0=1)(D:∀y∈ys,y∉allR)(l:Nat):∀ws:A0,(∀w∈ws,WW ys B w)->
  (XN ys cols pl kp ws).1.map (fun x=>bt x l)=(Zgq ys (fun y=>bt (cols y) l) pl kp ws).1/\(XN ys cols pl kp ws).2.map (fun x=>bt x l)=(Zgq ys (fun y=>bt (cols y) l) pl kp ws).2
 |[],_=>⟨rfl,rfl⟩
 |w::r,hw=>by
  obtain⟨e1,e2⟩:=kJ (cols:=cols) (pl:=pl) O D l r fun w h=>hw w (Qak _ h);have Y:(XN ys cols pl kp r).2.length=(Zgq ys (fun y=>bt (cols y) l) pl kp r).2.length:=by rw[<-e2,Qad]
  rcases hw w Qan with⟨y,rfl,q,G,I⟩|⟨y,rfl,q,J,I⟩|⟨z,rfl,z0,Z,I⟩
  ·by_cases C:y∈WH
   ·have F:=(yW y q).mpr C;show(if y∈allR then _ else _:Ak×Ak).1.map _=(if y∈WH then _ else _:Ak×Ak).1/\(if y∈allR then _ else _:Ak×Ak).2.map _=(if y∈WH then _ else _:Ak×Ak).2;rw[Qba F,Qba C];constructor
    ·show bt _ l::_=_::_;rw[ok_bt C,gC (O _),Qe7,Qfm,e1,Y]
    ·rw[Qbd,e2];show _++[bt _ l]=_;rw[kt_bt C,gC (O _),Qe7,e1,Y]
   ·have F:y∉allR:=fun z=>C ((yW y q).mp z)
    show(if y∈allR then _ else if y∈ys then _ else _:Ak×Ak).1.map _=(if y∈WH then _ else if y∈ys then _ else _:Ak×Ak).1/\(if y∈allR then _ else if y∈ys then _ else _:Ak×Ak).2.map _=(if y∈WH then _ else if y∈ys then _ else _:Ak×Ak).2;rw[Qa4 F,Qa4 C,Qa4 G,Qa4 G];refine⟨?_,e2⟩;show bt _ l::_=_::_;rw[oa_bt q C,Qe7,Qfm,e1]
  ·have F:=D y q;show(if y∈allR then _ else if y∈ys then _ else _:Ak×Ak).1.map _=(if y∈WH then _ else if y∈ys then _ else _:Ak×Ak).1/\(if y∈allR then _ else if y∈ys then _ else _:Ak×Ak).2.map _=(if y∈WH then _ else if y∈ys then _ else _:Ak×Ak).2;rw[Qa4 F,Qa4 J,Qba q,Qba q];refine⟨?_,e2⟩;show bt _ l::List.map _ (List.drop _ _)=_::_;rw[I,Qdp,e1]
  ·refine⟨?_,e2⟩;show bt (-(bt z pl)) l::((XN ys cols pl kp r).1.drop (npw (.int z))).map _=bt z pl::_;rw[I,Qdp,e1,gC (WV z pl)]
theorem Ze6(w:Nat):∀a b:Int,Builtin.bitAnd a b/2^w=Builtin.bitAnd (a/2^w) (b/2^w):=by
 induction w with
 |zero=>intro a b;rw[Qdx,Qcf,Qcf,Qcf]
 |succ w q=>
  intro a b;have d:∀x:Int,x/2^(w+1)=x/2/2^w:=fun x=>by rw[Qfd,Qfe,Qdw (by decide:(0:Int)<=2)]
  rw[d,d,d,(Zno a b).1,q]
theorem or_div(w:Nat):∀a b:Int,Builtin.bitOr a b/2^w=Builtin.bitOr (a/2^w) (b/2^w):=by
 induction w with
 |zero=>intro a b;rw[Qdx,Qcf,Qcf,Qcf]
 |succ w q=>
  intro a b;have d:∀x:Int,x/2^(w+1)=x/2/2^w:=fun x=>by rw[Qfd,Qfe,Qdw (by decide:(0:Int)<=2)]
  rw[d,d,d,(or2 a b).1,q]
def Ze7{w:Nat}{x y:Int}(h:∀k,k<w->bt x k=bt y k):x%2^w=y%2^w:=by
 have e:jj w x=jj w y:=Qcn fun i hi=>h i (Qcp.mp hi);have h1:=kF w x;have h2:=kF w y;rw[e,h2]at h1;exact h1.symm
def Zh8{w:Nat}{a b c:Int}(C:0<=a)(a1:a<2^w)(G:0<=b)(b1:b<2^w)(D:0<=c)(F:c<2^w):Builtin.bitOr (Builtin.bitAnd a b) (Builtin.bitAnd (2^w-1-a) c)=Builtin.bitOr (Builtin.bitAnd a b) (Builtin.bitAnd (Builtin.bitNot a) c)%2^w:=by
 have I:Builtin.bitOr (Builtin.bitAnd a b) (Builtin.bitAnd (2^w-1-a) c)/2^w=0:=by
  rw[or_div,Ze6,Ze6,Qc1 C a1,Qc1 G b1,Qc1 D F,Qc1 (by lia) (by lia)];rfl
 have q:=Qds (Builtin.bitOr (Builtin.bitAnd a b) (Builtin.bitAnd (2^w-1-a) c)) (2^w);rw[I,Int.mul_zero,Int.add_zero]at q;rw[<-q];refine Ze7 fun k O=>?_;have J:bt (2^w-1-a) k=bt (Builtin.bitNot a) k:=by
  have e:2^w-1-a=Builtin.bitNot a%2^w:=by
   have e1:Builtin.bitNot a=(2^w-1-a)+2^w*(-1):=by unfold Builtin.bitNot;lia
   rw[e1,Qdj,Qcr (by lia) (by lia)]
  rw[e,Zj8 _ _ _ O]
 rw[zw,X0,X0,J,zw,X0,X0]
def hor(q:Ak):Int:=q.foldl (fun a b=>a*2+b) 0
def yX(q:Ak)(b:Int):hor (q++[b])=hor q*2+b:=by
 unfold hor;rw[Qc8];rfl
def Zh9{b:Int}(h:I[i]?=some b):hor (I.take (i+1))=hor (I.take i)*2+b:=by
 rw[Qgw,h];exact yX _ b
def sm(b:Nat->Int):Nat->Int
 |0=>0
 |n+1=>sm b n+b n*2^n
theorem yY{b c:Nat->Int}:∀{n:Nat},(∀i,i<n->b i=c i)->sm b n=sm c n
 |0,_=>rfl
 |n+1,h=>by
  show sm b n+b n*2^n=sm c n+c n*2^n;rw[yY (n:=n) fun i hi=>h i (Qe4 hi),h n (Qdv n)]
theorem xH{b:Nat->Int}(q:∀i,b i=0\/b i=1):∀n,0<=sm b n/\sm b n<2^n
 |0=>⟨Int.le_refl _,(show(0:Int)<2^0 by decide)⟩
 |n+1=>by
  have C:=xH q n;have e:sm b (n+1)=sm b n+b n*2^n:=rfl;rw[e,pow_succ'];rcases q n with z|z<;>rw[z]<;>constructor<;>lia
theorem Ze8{b:Nat->Int}(C:∀i,b i=0\/b i=1)(p:Nat):∀n,p<n->sm b n/2^p%2=b p
 |0,h=>absurd h (Qeg _)
 |n+1,h=>by
  have e:sm b (n+1)=sm b n+b n*2^n:=rfl;have F:=YV p;rw[e]
  by_cases q:p<n
  ·obtain⟨k,rfl⟩:∃k,n=p+(k+1):=⟨n-p-1,by lia⟩;have e2:b (p+(k+1))*2^(p+(k+1))=2^p*(2^k*b (p+(k+1))*2):=by
    grind
   rw[e2,Qfv _ _ (by lia)];have G:=Ze8 C p (p+(k+1)) q;lia
  ·have e3:p=n:=by lia
   subst e3;obtain⟨D,h1⟩:=xH C p;rw[Qfe,Qfv _ _ (by lia),Qc1 D h1];rcases C p with z|z<;>rw[z]<;>rfl
theorem Zia(l:Ak):∀a:Int,l.foldl (fun a b=>a*2+b) a=a*2^l.length+hor l:=by
 induction l with
 |nil=>intro a;show a=a*2^0+0;lia
 |cons b l q=>
  intro a;show l.foldl (fun a b=>a*2+b) (a*2+b)=a*2^(l.length+1)+l.foldl (fun a b=>a*2+b) (0*2+b);rw[q,q (0*2+b),pow_succ',Int.zero_mul,Qe1,Int.add_mul];lia
theorem Zke(b:Nat->Int):∀n,hor ((List.range n).map b).reverse=sm b n
 |0=>rfl
 |n+1=>by
  rw[Qd1,Qbd,List.reverse_append];show((List.range n).map b).reverse.foldl (fun a b=>a*2+b) (0*2+b n)=sm b n+b n*2^n;rw[Zia,Zke b n,Qc6,Qad,Qa5,Int.zero_mul,Qe1];lia
def Zib(r:Int)(w:Nat):r/2^w%2*2^w+r%2^w=r%2^(w+1):=by
 rw[pow_succ'];have C:=YV w;generalize (2:Int)^w=p at *;have F:0<=r%p:=Qbe _ (by lia);have h1:r%p<p:=Qa3 _ C;have e1:r=p*(r/p)+r%p:=(Int.mul_ediv_add_emod r p).symm;generalize r/p=q at *;generalize r%p=t at *;have e2:q=2*(q/2)+q%2:=by lia
 have h2:0<=q%2:=by lia
 have G:q%2<=1:=by lia
 generalize q/2=u at *;generalize q%2=b at *;subst e2;have D:b=0\/b=1:=by lia
 have e3:r=b*p+t+p*2*u:=by
  grind
 rw[e3,Qdj];rcases D with rfl|rfl
 ·rw[Qcr (by lia) (by lia)]
 ·rw[Qcr (by lia) (by lia)]
theorem yZ(r:Int):∀w,sm (fun k=>r/2^k%2) w=r%2^w
 |0=>by
  rw[Qdx,Qhc];rfl
 |w+1=>by
  show sm (fun k=>r/2^k%2) w+r/2^w%2*2^w=_;rw[yZ r w];have:=Zib r w;lia
def Zmr{x:Int}(h:0<=x):Builtin.bitAnd x 1=x%2:=by
 rw[PyProof.Rows.bitAnd_pp h (by decide)];show((x.toNat &&& 1:Nat):Int)=x%2;rw[Nat.and_one_is_mod];lia
def Zox(r:Int)(k:Nat):r/2^k%2=0\/r/2^k%2=1:=by lia
def div_nn{r:Int}(h:0<=r)(k:Nat):0<=r/2^k:=Int.ediv_nonneg h (Int.le_of_lt (YV k))
open Classical in
def keysOf(ys:Ai):List Key:=ys.foldl (fun ks y=>if(Sum.inr y:Key)∈ks then ks else ks++[Sum.inr y]) []
open Classical in
theorem Gb(ys:Ai)(y:Str):keysOf (ys++[y])=if(Sum.inr y:Key)∈keysOf ys then keysOf ys else keysOf ys++[Sum.inr y]:=by
 unfold keysOf;rw[Qc8];rfl
theorem snoc_ind{P:List m->Prop}(D:P [])(q:∀l a,P l->P (l++[a])):∀l,P l:=by
 intro l;rw[<-List.reverse_reverse l]
 induction l.reverse with
 |nil=>exact D
 |cons a r C=>
  rw[Qcx];exact q _ _ C
def Zms{kvs:Ay}{k:Key}:(kvs.any fun q=>decide (q.1=k))=true↔k∈kvs.map (·.1):=by grind
def Zic{kvs:Ay}{ys:Ai}(h:kvs.map (·.1)=keysOf ys)(y:Str)(v:V):(putK kvs (.inr y) v).map (·.1)=keysOf (ys++[y]):=by
 rw[Gb,<-h];unfold putK
 by_cases q:(Sum.inr y:Key)∈kvs.map (·.1)
 ·rw[Qba (Zms.mpr q),Qba q,Qb7];apply Qcn;intro p _;show(if p.1=Sum.inr y then(p.1,v)else p).1=p.1;split<;>rfl
 ·grind
structure Tab(kvs:Ay)(ys:Ai)(f:Str->Int):Prop where
 keys:kvs.map (·.1)=keysOf ys
 val:∀y∈ys,Yd kvs (.inr y)=some (.int (f y))
 all:∀p∈kvs,∃y∈ys,p=(.inr y,.int (f y))
def Zmt{kvs:Ay}{k:Key}{v:V}{P:Key×V->Prop}(h:∀p∈kvs,p.1≠k->P p)(C:P (k,v)):∀p∈putK kvs k v,P p:=by
 intro p q;unfold putK at q;split at q
 ·grind
 ·grind
def Tab.put{kvs:Ay}{ys:Ai}{f:Str->Int}(T:Tab kvs ys f)(y:Str)(z:Int):Tab (putK kvs (.inr y) (.int z)) (ys++[y]) (fun x=>if x=y then z else f x):=by
 refine⟨Zic T.keys y _,fun x q=>?_,Zmt (fun p D C=>?_) ⟨y,Qaz _ (Qat.mpr rfl),by rw[Qba rfl]⟩⟩
 ·rw[xC]
  by_cases e:x=y
  ·rw[Qba (by rw[e]),Qba e]
  ·have e2:¬(Sum.inr x:Key)=Sum.inr y:=fun z=>e (Sum.inr.inj z)
   rw[Qa4 e2,Qa4 e];rcases Qbb.mp q with h|h
   ·exact T.val x h
   ·exact absurd (Qat.mp h) e
 ·obtain⟨x,q,rfl⟩:=T.all p D;have e:¬x=y:=fun z=>C (by rw[z]);exact⟨x,Qb3 _ q,by rw[Qa4 e]⟩
theorem Tab.same{kvs:Ay}{ys:Ai}{f g:Str->Int}(T:Tab kvs ys f)(h:∀y∈ys,f y=g y):Tab kvs ys g:=
 ⟨T.keys,fun y q=>by rw[<-h y q];exact T.val y q,fun p C=>let⟨y,q,e⟩:=T.all p C;⟨y,q,by rw[<-h y q];exact e⟩⟩
def Tab.nil{f:Str->Int}:Tab [] [] f:=⟨rfl,(fun _ h=>nomatch h),(fun _ h=>nomatch h)⟩
def Zbt:∀(ys:Ai),(keysOf ys).length<=ys.length:=by
 refine snoc_ind (Qah _) fun ys y q=>?_
 ·rw[Gb,Qaf];split
  ·lia
  ·grind
def Tab.few{a:Ay}{ys:Ai}{f:Str->Int}(T:Tab a ys f):a.length<=ys.length:=by
 have h1:(a.map (·.1)).length=(keysOf ys).length:=by rw[T.keys]
 rw[Qad]at h1;have:=Zbt ys;lia
def kK{ys:Ai}{x:V}(h:(ys.map V.str)[i]?=some x):∃y:Str,x=V.str y/\ys[i]?=some y:=by grind
def ltr(ys:Ai)(f:Str->Int)(k:Nat):Int:=sm (fun i=>f (ys.getD i Str.empty)/2^k%2) ys.length
def vc :PySem.W.kitOne K (.type "dict") (.type "dict")=some true:=by rfl
structure Zkf(H:Hp)(p:Au)(S L:Nat)(f:Nat->Nat->V):Prop where
 ex:∃as:A0,H p=some (.tup as)/\∀s,s<S->∃(a:Au) (xs:A0),as[s]?=some (.ref a)/\H a=some (.tup xs)/\∀l,l<L->xs[l]?=some (f s l)
structure Zkg(H:Hp)(m:Au)(S L:Nat)(nv:V)(b:Nat)(nx:Nat->Nat->Nat)(ot:Nat->Nat->V):Prop where
 ex:∃ps po,H m=some (.tup [nv,.int (b:Int),.ref ps,.ref po])/\Zkf H ps S L (fun s l=>.int (nx s l:Int))/\Zkf H po S L ot
 b:b<S
 nx:∀s l,s<S->l<L->nx s l<S
abbrev Xe(l:Nat):V:=.int (l:Int)
def wk(nx:Nat->Nat->Nat)(ot:Nat->Nat->V):Nat->List Nat->List V
 |_,[]=>[]
 |s,l::r=>ot s l::wk nx ot (nx s l) r
def Zgr(nx:Nat->Nat->Nat):Nat->List Nat->Nat
 |s,[]=>s
 |s,l::r=>Zgr nx (nx s l) r
theorem Ze9{nx:Nat->Nat->Nat}{ot:Nat->Nat->V}:∀(xs ys:Aj) (s:Nat),wk nx ot s (xs++ys)=wk nx ot s xs++wk nx ot (Zgr nx s xs) ys
 |[],_,_=>rfl
 |l::r,ys,s=>by
  show ot s l::wk nx ot (nx s l) (r++ys)=ot s l::(wk nx ot (nx s l) r++wk nx ot (Zgr nx (nx s l) r) ys);rw[Ze9 r ys]
theorem Zal{nx:Nat->Nat->Nat}:∀(xs ys:Aj) (s:Nat),Zgr nx s (xs++ys)=Zgr nx (Zgr nx s xs) ys
 |[],_,_=>rfl
 |l::r,ys,s=>Zal r ys (nx s l)
theorem Zfa{nx:Nat->Nat->Nat}{S L:Nat}(C:∀s l,s<S->l<L->nx s l<S):∀(xs:Aj) (s:Nat),s<S->(∀l∈xs,l<L)->Zgr nx s xs<S
 |[],_,h,_=>h
 |l::r,s,h,q=>Zfa C r (nx s l) (C s l h (q l Qan)) fun x D=>q x (Qak _ D)
theorem Zkh{nx:Nat->Nat->Nat}{ot:Nat->Nat->V}:∀(xs:Aj) (s:Nat),(wk nx ot s xs).length=xs.length
 |[],_=>rfl
 |l::r,s=>by
  show(wk nx ot (nx s l) r).length+1=r.length+1;rw[Zkh r]
def z6{ls:Aj}{x:V}(h:(ls.map Xe)[i]?=some x):∃l:Nat,x=V.int (l:Int)/\ls[i]?=some l:=by grind
def YY(q:Bool)(v:V):Prop:=(q=true/\∃x,v=.bl x)\/(q=false/\∃x,v=.int x)
def z8(H:Hp)(p:Au)(q:Ax):Prop:=∃as:A0,H p=some (.tup as)/\as.length=q.length/\∀(i:Nat) (r:A0),q[i]?=some r->∃a,as[i]?=some (V.ref a)/\H a=some (.tup r)
def z8.same{H H':Hp}{p:Au}{q:Ax}(R:z8 H p q)(e:Z8 H H'):z8 H' p q:=by
 obtain⟨as,h1,h2,C⟩:=R;refine⟨as,e _ _ h1,h2,fun i r hi=>?_⟩;obtain⟨a,D,F⟩:=C i r hi;exact⟨a,D,e _ _ F⟩
def z9(r:Aj):A0:=r.map Xe
structure M4(H:Hp)(m:Au)(nm:Ai)(b:Nat)(nx:Ad)(ot:Ax):Prop where
 ex:∃pn ps po,H m=some (.tup [.ref pn,.int (b:Int),.ref ps,.ref po])/\H pn=some (.tup (nm.map V.str))/\z8 H ps (nx.map z9)/\z8 H po ot
def M4.same{H H':Hp}{m:Au}{nm:Ai}{b:Nat}{nx:Ad}{ot:Ax}(M:M4 H m nm b nx ot)(e:Z8 H H'):M4 H' m nm b nx ot:=by
 obtain⟨pn,ps,C,h1,h2,D,q⟩:=M.ex;exact⟨⟨pn,ps,C,e _ _ h1,e _ _ h2,D.same e,q.same e⟩⟩
structure Wf(nm:Ai)(b:Nat)(nx:Ad)(ot:Ax)(tr:Bool):Prop where
 n3:nm.length<=3
 b:b<nx.length
 le:nx.length<=1000000
 ol:ot.length=nx.length
 nr:∀r∈nx,r.length=2^nm.length
 nl:∀r∈nx,∀s∈r,s<nx.length
 or:∀r∈ot,r.length=2^nm.length
 ok:∀r∈ot,∀v∈r,YY tr v
 bit:∀r∈ot,∀v∈r,vB v=some 0\/vB v=some 1
def yesT{A B:Hp->Prop}(h:A H):Zg5 c H fun b H2=>if b=true then A H2 else B H2:=by
 show if true=true then A H else B H;exact Y4 h
def zip_at{β:Type}{xs:List m}{ys:List β}{x:m}{y:β}(q:xs[i]?=some x)(C:ys[i]?=some y):(xs.zip ys)[i]?=some (x,y):=by grind
def p8(h:n<=3):2^n<=8:=Qdf (by decide) h
def Prs(H:Hp)(ps:List (Int×Int))(zs:A0):Prop:=zs.length=ps.length/\∀(i:Nat) (p:Int×Int),ps[i]?=some p->∃a,zs[i]?=some (V.ref a)/\H a=some (.tup [.int p.1,.int p.2])
def Prs.same{H H':Hp}{ps:List (Int×Int)}{zs:A0}(h:Prs H ps zs)(e:Z8 H H'):Prs H' ps zs:=by
 refine⟨h.1,fun i p q=>?_⟩;obtain⟨a,C,D⟩:=h.2 i p q;exact⟨a,C,e _ _ D⟩
def Prs.at{ps:List (Int×Int)}(h:Prs H ps u){x:V}(q:u[i]?=some x):∃p a,ps[i]?=some p/\x=V.ref a/\H a=some (.tup [.int p.1,.int p.2]):=by
 obtain⟨l,_⟩:=Qai.mp q;have l':i<ps.length:=by rw[<-h.1];exact l
 obtain⟨a,C,D⟩:=h.2 i ps[i] (Qac l');exact⟨ps[i],a,Qac l',Option.some.inj (q.symm.trans C),D⟩
def wI(C D:Aj):List (Int×Int):=(C.zip D).map fun q=>((q.1:Int),(q.2:Int))
def Zmu{C:Aj}{x:V}(D:(z9 S)[i]?=some x)(F:(z9 C)[i]?=some y):∃p q:Nat,x=V.int p/\y=V.int q/\S[i]?=some p/\C[i]?=some q/\(wI S C)[i]?=some ((p:Int),(q:Int)):=by
 obtain⟨p,rfl,h1⟩:=z6 D;obtain⟨q,rfl,h2⟩:=z6 F;refine⟨p,q,rfl,rfl,h1,h2,?_⟩;unfold wI;rw[Qam,(Qcq.mpr ⟨h1,h2⟩:(S.zip C)[i]?=some (p,q))];rfl
def Zam(q C:Aj):(wI q C).length=((z9 q).zip (z9 C)).length:=by
 unfold wI z9;rw[Qad,Qcj,Qcj,Qad,Qad]
theorem gD{D:Aj}(h:XF H ((z9 S).zip (z9 D)) u):Prs H (wI S D) u:=by
 have key:∀{ps:List (V×V)} {u:A0},XF H ps u->∀(i:Nat) (p:V×V),ps[i]?=some p->∃a,u[i]?=some (V.ref a)/\H a=some (.tup [p.1,p.2]):=by
  intro ps u t
  induction t with
  |nil=>intro i p C;simp at C
  | @cons a b as bs e t G=>
   intro i p C;cases i with
   |zero=>
    simp only[List.getElem?_cons_zero,Option.some.injEq]at C ⊢;subst C;exact e
   |succ j=>
    exact G j p C
 refine⟨by rw[Zam,XF.len h],fun i p C=>?_⟩;unfold wI at C;rw[Qam]at C;obtain⟨q,I,rfl⟩:=Qbq.mp C;refine key h i (Xe q.1,Xe q.2) ?_;obtain⟨F,J⟩:=Qcq.mp I;unfold z9;exact Qcq.mpr ⟨by rw[Qam,F];rfl,by rw[Qam,J];rfl⟩
def Zan{q:List (List m)}(h:i<q.length):q[i]?=some (q.getD i []):=by grind
def Xy{p:Au}{q:Ax}(R:z8 H p q)(h:i<q.length):∃as a,H p=some (HO.tup as)/\atI as (i:Int)=some (V.ref a)/\H a=some (.tup (q.getD i [])):=by
 obtain⟨as,h1,h2,C⟩:=R;obtain⟨a,D,F⟩:=C i _ (Zan h);exact⟨as,a,h1,Ya D,F⟩
def Jm(nx:Ad)(i:Nat):(nx.map z9).getD i []=z9 (nx.getD i []):=by
 rw[Qap,Qap,Qam];cases nx[i]?<;>rfl
def getD_mem{q:List (List m)}(h:i<q.length):q.getD i []∈q:=by grind
def PrOk(nx1 nx2:Ad)(ot1 ot2:Ax)(ps:List (Int×Int))(p:Int×Int):Prop:=
 ∃i j:Nat,p=((i:Int),(j:Int))/\i<nx1.length/\j<nx2.length/\ot1.getD i []=ot2.getD j []/\∀q∈wI (nx1.getD i []) (nx2.getD j []),q∈ps
def Zmv(C q:Ai)(b1 b2:Nat)(nx1 nx2:Ad)(ot1 ot2:Ax)(ps:List (Int×Int)):Prop:=C=q/\((b1:Int),(b2:Int))∈ps/\∀p∈ps,PrOk nx1 nx2 ot1 ot2 ps p
def pk(p:Int×Int):List Key:=[.inl p.1,.inl p.2]
def pk_inj{p q:Int×Int}(h:pk p=pk q):p=q:=by
 obtain⟨a,b⟩:=p;obtain⟨c,d⟩:=q;simp only[pk,List.cons.injEq,Sum.inl.injEq,and_true]at h;rw[h.1,h.2]
def dk(ps:List (Int×Int)):List (List Key×V):=ps.foldl (fun acc p=>putK acc (pk p) (.bl true)) []
def gE(ps:List (Int×Int))(p:Int×Int):dk (ps++[p])=putK (dk ps) (pk p) (.bl true):=by
 unfold dk;rw[Qc8];rfl
theorem Zoy{P:List m->Prop}(q:P [])(C:∀l x,P l->P (l++[x])):∀l,P l:=by
 intro l;have key:∀r:List m,P r.reverse:=by
  intro r
  induction r with
  |nil=>exact q
  |cons x r D=>rw[Qcx];exact C _ _ D
 have z:=key l.reverse;rw[List.reverse_reverse]at z;exact z
def Zki(p:Int×Int):∀ps:List (Int×Int),(Yd (dk ps) (pk p)).isSome=decide (p∈ps):=by
 refine Zoy ?_ ?_
 ·rfl
 ·intro l x q;rw[gE,xC]
  by_cases e:p=x
  ·grind
  ·rw[Qa4 (fun z=>e (pk_inj z)),q];have:p∈l++[x]↔p∈l:=by simp[e]
   simp only[this]
def dk_len:∀ps:List (Int×Int),(dk ps).length<=ps.length:=by
 refine Zoy (Qah _) ?_;intro l x q;rw[gE,Qaf];have:=Xj (dk l) (pk x) (.bl true);simp only[Qbu,Qed];lia
def Zfb{d c:Au}{ps:List (Int×Int)}{x y:Int}(h:Rd H d (.dT (dk ps)))(q:H c=some (.tup [.int x,.int y])):Zjs H d (.ref c) (Yd (dk ps) (pk (x,y))):=.inr ⟨dk ps,pk (x,y),c,h,rfl,q,rfl⟩
theorem Zao:∀(xs ys:Ai),uO (xs.map V.str) (ys.map V.str)=decide (xs=ys)
 |[],[]=>rfl
 |[],_::_=>rfl
 |_::_,[]=>rfl
 |x::xs,y::ys=>by
  show(eqV (.str x) (.str y)&&uO (xs.map V.str) (ys.map V.str))=_;rw[Zao xs ys,show eqV (.str x) (.str y)=(x == y)from rfl]
  by_cases e:x=y
  ·subst e;simp
  ·simp[e]
def kL(xs:Ai):(xs.map V.str).all Xb=true:=by
 rw[Qhb];exact Qb8.mpr fun _ _=>rfl
theorem kM{D:Bool}:∀{xs ys:A0},(∀v∈xs,YY D v)->(∀v∈ys,YY D v)->uO xs ys=decide (xs=ys)
 |[],[],_,_=>rfl
 |[],_::_,_,_=>rfl
 |_::_,[],_,_=>rfl
 |x::xs,y::ys,C,F=>by
  show(eqV x y&&uO xs ys)=_;rw[kM (fun v h=>C v (Qak _ h)) (fun v h=>F v (Qak _ h))];have e1:eqV x y=decide (x=y):=by
   rcases C x Qan with⟨e,a,rfl⟩|⟨e,a,rfl⟩<;>rcases F y Qan with⟨q,b,rfl⟩|⟨q,b,rfl⟩
   ·rw[Qc2];simp[eqV]
   ·rw[e]at q;cases q
   ·rw[e]at q;cases q
   ·rw[Qc2];simp[eqV]
  rw[e1];simp
def kO{xs:A0}(h:∀v∈xs,YY l v):xs.all Xb=true:=by
 refine Qb8.mpr fun v q=>?_;rcases h v q with⟨_,a,rfl⟩|⟨_,a,rfl⟩<;>rfl
def GA{xs:List m}{x:m}(h:xs[i]?=some x){P:m->Prop}:(∀e∈xs.take (i+1),P e)↔(∀e∈xs.take i,P e)/\P x:=by
 rw[take_snoc h];constructor
 ·grind
 ·grind
def spAl(K:Af):Sp:=fun vs H Q _=>∃(D G c:Au) (C q:Ai) (b1 b2:Nat) (nx1 nx2:Ad) (ot1 ot2:Ax) (F:Bool) (ps:List (Int×Int)) (ws:A0),vs=[.ref D,.ref G,.ref c]/\M4 H D C b1 nx1 ot1/\M4 H G q b2 nx2 ot2/\Wf C b1 nx1 ot1 F/\Wf q b2 nx2 ot2 F/\H c=some (.tup ws)/\Prs H ps ws/\ps.length<=1000000 /\
 ∀r H',(r=true↔Zmv C q b1 b2 nx1 nx2 ot1 ot2 ps)->Z8 H H'->Q (.bl r) H'
def xI{f:Nat->m}(h:i<n):((List.range n).map f)[i]?=some (f i):=by grind
def GB(xs:A0)(k:Nat):qe xs none (some (k:Int))=xs.take k:=zq xs k
def zA(xs:A0)(k:Nat):qe xs (some (k:Int)) none=xs.drop k:=kB xs k
def Y7(H:Hp)(zs:A0)(q:Ax):Prop:=zs.length=q.length/\∀(i:Nat) (r:A0),q[i]?=some r->∃a,zs[i]?=some (V.ref a)/\H a=some (.tup r)
def Y7.same{H H':Hp}{zs:A0}{q:Ax}(z:Y7 H zs q)(e:Z8 H H'):Y7 H' zs q:=by
 refine⟨z.1,fun i r C=>?_⟩;obtain⟨a,D,F⟩:=z.2 i r C;exact⟨a,D,e _ _ F⟩
def Y7.snoc{D:Ax}{r:A0}(z:Y7 H u D)(h:H a=some (.tup r)):Y7 H (u++[.ref a]) (D++[r]):=by
 refine⟨by rw[Qaf,Qaf,z.1];rfl,fun i q C=>?_⟩
 by_cases e:i<D.length
 ·rw[Qbc e]at C;rw[Qbc (by rw[z.1];exact e)];exact z.2 i q C
 ·rw[Qa2 (by lia)]at C;have F:i-D.length=0:=by
   grind
  rw[F]at C;cases C;refine⟨a,?_,h⟩;rw[Qa2 (by rw[z.1];lia),z.1,F];rfl
def Y7.nil{H:Hp}:Y7 H [] []:=⟨rfl,fun i r q=>by cases q⟩
def Y7.at{H:Hp}{zs:A0}{q:Ax}(z:Y7 H zs q){i:Nat}{v:V}(h:zs[i]?=some v):∃a r,v=V.ref a/\q[i]?=some r/\H a=some (.tup r):=by
 have l:=(Qai.mp h).1;rw[z.1]at l;obtain⟨a,C,D⟩:=z.2 i _ (Qac l);exact⟨a,_,Option.some.inj (h.symm.trans C),Qac l,D⟩
def nk(l:Ak):Ay:=WU (l.map (Sum.inl:Int->Key))
def Zfc{l:Ak}(h:l.Nodup):(l.map (Sum.inl:Int->Key)).Nodup:=by grind
def gF{l:Ak}{s:Int}:(Sum.inl s:Key)∈l.map Sum.inl↔s∈l:=by grind
def Zfd{l:Ak}{s:Int}(h:s∈l)(q:l.Nodup):Yd (nk l) (.inl s)=some (.int (l.idxOf s:Int)):=by
 have:=zg (l.map (Sum.inl:Int->Key)) (.inl s) (gF.mpr h) (Zfc q);have e:=idx_map (β:=Key) Sum.inl (fun _ _=>Sum.inl.inj) s l;rw[e]at this;exact this
def Zmw{l:Ak}{s:Int}(h:s∉l):Yd (nk l) (.inl s)=none:=jX _ _ fun z=>h (gF.mp z)
def nk_len(l:Ak):(nk l).length=l.length:=by
 unfold nk;rw[kq,Qad]
def nk_put{l:Ak}{s:Int}(h:s∉l):putK (nk l) (.inl s) (.int (l.length:Int))=nk (l++[s]):=by
 unfold nk;rw[Qbd];show _=WU (l.map Sum.inl++[Sum.inl s]);rw[jW,Qad];unfold putK;rw[Qa4 fun z=>?_];rw[Qd5]at z;obtain⟨p,q,e⟩:=z;have:p.1∈(WU (l.map (Sum.inl:Int->Key))).map (·.1):=Qcm q;rw[qm,Qbh e]at this;exact h (gF.mp this)
def Zoz(nx:Ad)(l:Aj)(i:Nat):Aj:=(nx.getD (l.getD i 0) []).foldl Yy l
def Zo0(nx:Ad)(b:Nat):Nat->List Nat
 |0=>[b]
 |i+1=>Zoz nx (Zo0 nx b i) i
theorem yi(r:Aj):∀l:Aj,l.Nodup->(r.foldl Yy l).Nodup:=by
 induction r with
 |nil=>exact fun l h=>h
 |cons k r q=>exact fun l h=>q _ (Jx h k)
theorem xJ(r:Aj){x:Nat}:∀l:Aj,x∈r.foldl Yy l↔x∈l\/x∈r:=by
 induction r with
 |nil=>intro l;simp
 |cons k r q=>
  intro l;rw[Qe0,q,xF,Qaq,or_assoc]
def map_range{β:Type}(l:List m)(i:Nat)(C:l.length=i)(f:m->β)(g:Nat->β)(h:∀j a,l[j]?=some a->g j=f a):(List.range i).map g=l.map f:=by
 refine Qeh fun j=>?_
 by_cases q:j<i
 ·grind
 ·grind
theorem qy{H':Hp}{q:Ax}(h:∀b xs,H b=some (.tup xs)->H' b=some (.tup xs))(z:Y7 H u q):Y7 H' u q:=⟨z.1,fun i r C=>by
 obtain⟨a,h1,h2⟩:=z.2 i r C;exact⟨a,h1,h _ _ h2⟩⟩
inductive SK(κ:Type)[DecidableEq κ]where
 |int (f:κ->Int) (inj:∀a b,f a=f b->a=b)
 |key (kn:KN κ)
def Xf(h:n<=10000000):n<sizeLine:=Qfi h (by decide)
section
variable {κ:Type}[DecidableEq κ]
def SK.at_:SK κ->Hp->κ->V->Prop
 |.int f _,_,k,v=>v=.int (f k)
 |.key kn,H,k,v=>∃a,v=.ref a/\kn.at_ H k a
def SK.dic:SK κ->Hp->Addr->List κ->Prop
 |.int f _,H,d,l=>H d=some (.dK (nk (l.map f)))
 |.key kn,H,d,l=>wH kn H d (WU l)
def SK.keep{sk:SK κ}{H H':Hp}{k:κ}{v:V}(h:sk.at_ H k v)(e:∀b xs,H b=some (.tup xs)->H' b=some (.tup xs)):sk.at_ H' k v:=by
 cases sk with
 |int f _=>exact h
 |key kn=>
  obtain⟨a,rfl,q⟩:=h;exact⟨a,rfl,kn.keep _ _ _ _ e q⟩
def Zfe{kn:KN κ}{d:Au}{kvs:List (κ×V)}(n:wH kn H d kvs):∃o,H d=some o/\(∀xs,o≠.tup xs)/\∀xs,o≠.lst xs:=by
 rcases n.2.2 with⟨_,e⟩|⟨ys,e,_⟩
 ·grind
 ·grind
def SK.ne{sk:SK κ}{d:Au}{l:List κ}(h:sk.dic H d l):∃o,H d=some o/\(∀xs,o≠.tup xs)/\∀xs,o≠.lst xs:=by
 cases sk with
 |int f _=>exact⟨_,h,(fun _ z=>nomatch z),fun _ z=>nomatch z⟩
 |key kn=>exact Zfe h
def Zid{kn:KN κ}{H':Hp}{d:Au}{kvs:List (κ×V)}(n:wH kn H d kvs)(C:∀o,H d=some o->H' d=some o)(e:∀b xs,H b=some (.tup xs)->H' b=some (.tup xs)):wH kn H' d kvs:=by
 obtain⟨F,D,n3⟩:=n;refine⟨F,D,?_⟩;rcases n3 with⟨e1,e2⟩|⟨ys,e1,e2⟩
 ·exact .inl ⟨e1,C _ e2⟩
 ·exact .inr ⟨ys,C _ e1,Paired.mapP e2 fun p q h=>⟨h.1,kn.keep _ _ _ _ e h.2.1,h.2.2⟩⟩
def SK.stay{sk:SK κ}{H':Hp}{d:Au}{l:List κ}(h:sk.dic H d l)(q:∀o,H d=some o->H' d=some o)(e:∀b xs,H b=some (.tup xs)->H' b=some (.tup xs)):sk.dic H' d l:=by
 cases sk with
 |int f _=>exact q _ h
 |key kn=>exact Zid h q e
def SK.off{sk:SK κ}{d:Au}{l:List κ}{xs:A0}{o:HO}(h:sk.dic H d l)(e:H f=some (.lst xs)):sk.dic (upd H f o) d l:=by
 obtain⟨u,F,_,D⟩:=SK.ne h;have C:d≠f:=fun z=>by
  grind
 exact SK.stay h (fun o e=>by rw[Zk C];exact e) fun b ys q=>by rw[Zk (X9 q e fun z=>nomatch z)];exact q
def StA(sk:SK κ)(H:Hp)(l:List κ)(vs:A0):Prop:=vs.length=l.length/\∀(i:Nat) (k:κ),l[i]?=some k->∃v,vs[i]?=some v/\sk.at_ H k v
theorem StA.keep{sk:SK κ}{H H':Hp}{l:List κ}{vs:A0}(h:StA sk H l vs)(e:∀b xs,H b=some (.tup xs)->H' b=some (.tup xs)):StA sk H' l vs:=⟨h.1,fun i k q=>by
 obtain⟨v,h1,h2⟩:=h.2 i k q;exact⟨v,h1,SK.keep h2 e⟩⟩
def StA.snoc{sk:SK κ}{l:List κ}{vs:A0}{k:κ}{v:V}(h:StA sk H l vs)(F:sk.at_ H k v):StA sk H (l++[k]) (vs++[v]):=by
 refine⟨by rw[Qaf,Qaf,h.1];rfl,fun i q C=>?_⟩
 by_cases e:i<l.length
 ·rw[Qbc e]at C;rw[Qbc (by rw[h.1];exact e)];exact h.2 i q C
 ·rw[Qa2 (by lia)]at C;have D:i-l.length=0:=by
   grind
  rw[D]at C;cases C;refine⟨v,?_,F⟩;rw[Qa2 (by rw[h.1];lia),h.1,D];rfl
def StA.one{sk:SK κ}{k:κ}{v:V}(C:sk.at_ H k v):StA sk H [k] [v]:=StA.snoc (l:=[]) (vs:=[]) ⟨rfl,fun i q D=>by cases D⟩ C
def bfS(nx:κ->List κ)(l:List κ)(i:Nat):List κ:=match l[i]? with
 |some s=>(nx s).foldl Yy l
 |none=>l
def bfN(nx:κ->List κ)(b:κ):Nat->List κ
 |0=>[b]
 |i+1=>bfS nx (bfN nx b i) i
structure BfE(nx:κ->List κ)(b:κ)(l:List κ):Prop where
 e:l=bfN nx b l.length
 go:∀i,i<l.length->i<(bfN nx b i).length
theorem zB(r:List κ):∀l:List κ,l.Nodup->(r.foldl Yy l).Nodup:=by
 induction r with
 |nil=>exact fun l h=>h
 |cons k r q=>exact fun l h=>q _ (Jx h k)
theorem zC(r:List κ){x:κ}:∀l:List κ,x∈r.foldl Yy l↔x∈l\/x∈r:=by
 induction r with
 |nil=>intro l;simp
 |cons k r q=>
  intro l;rw[Qe0,q,xF,Qaq,or_assoc]
theorem Zff(r:List κ):∀l:List κ,(r.foldl Yy l).length<=l.length+r.length:=by
 induction r with
 |nil=>exact fun l=>Qah _
 |cons k r q=>
  intro l;have h1:=q (Yy l k);have h2:=Zhr l k;rw[Qe0,Qbu];lia
variable {nx:κ->List κ}{b:κ}
theorem GC:∀i,(bfN nx b i).Nodup
 |0=>Qc4.mpr ⟨Qbo,Qdb⟩
 |i+1=>by
  show(bfS nx (bfN nx b i) i).Nodup;unfold bfS;split
  ·exact zB _ _ (GC i)
  ·exact GC i
theorem gG{U:List κ}(D:b∈U)(C:∀s∈U,∀x∈nx s,x∈U):∀i,∀s∈bfN nx b i,s∈U
 |0,s,h=>by rw[Qat.mp h];exact D
 |i+1,s,h=>by
  have h:s∈bfS nx (bfN nx b i) i:=h;unfold bfS at h;split at h
  ·rename_i q F;rcases(zC _ _).mp h with z|z
   ·exact gG D C i s z
   ·exact C q (gG D C i q (Qag F)) s z
  ·exact gG D C i s h
def Zap{U:List κ}(C:b∈U)(q:∀s∈U,∀x∈nx s,x∈U)(i:Nat):(bfN nx b i).length<=U.length:=Jy (GC i) (gG C q i)
def vd{s:κ}(h:(bfN nx b i)[i]?=some s):bfN nx b (i+1)=(nx s).foldl Yy (bfN nx b i):=by
 show bfS nx (bfN nx b i) i=_;unfold bfS;rw[h]
theorem yj(j:Nat):∀d,∃r,bfN nx b (j+d)=bfN nx b j++r
 |0=>⟨[],(Qbm _).symm⟩
 |d+1=>by
  obtain⟨r,e⟩:=yj j d;show∃r,bfS nx (bfN nx b (j+d)) (j+d)=_;unfold bfS;split
  ·obtain⟨q,e2⟩:=Gy (nx _) (bfN nx b (j+d));exact⟨r++q,by rw[e2,e,Qcy]⟩
  ·exact⟨r,e⟩
def Zo1{j:Nat}{s:κ}(C:j<=i)(q:(bfN nx b j)[j]?=some s):(bfN nx b i)[j]?=some s:=by
 obtain⟨r,e⟩:=yj (nx:=nx) (b:=b) j (i-j);rw[show j+(i-j)=i by lia]at e;rw[e,Qbc (Qai.mp q).1];exact q
def Zpi(nx:κ->List κ)(b:κ)(j:Nat):Aj:=match (bfN nx b j)[j]? with
 |some s=>(nx s).map fun x=>(bfN nx b (j+1)).idxOf x
 |none=>[]
def jk(nx:κ->List κ)(b:κ)(i:Nat):Ax:=(List.range i).map fun j=>z9 (Zpi nx b j)
def Zpj(nx:κ->List κ)(ot:κ->List V)(b:κ)(j:Nat):A0:=match (bfN nx b j)[j]? with
 |some s=>ot s
 |none=>[]
def ve(nx:κ->List κ)(ot:κ->List V)(b:κ)(i:Nat):Ax:=(List.range i).map (Zpj nx ot b)
def Zbu{s:κ}(h:(bfN nx b i)[i]?=some s):jk nx b (i+1)=jk nx b i++[((nx s).map fun x=>Xe ((bfN nx b (i+1)).idxOf x))]:=by
 unfold jk;rw[Qd1,Qbd];show _++[z9 (Zpi nx b i)]=_;unfold Zpi z9;rw[h];rw[Qb7];rfl
def Zbv{ot:κ->List V}{s:κ}(h:(bfN nx b i)[i]?=some s):ve nx ot b (i+1)=ve nx ot b i++[ot s]:=by
 unfold ve;rw[Qd1,Qbd];show _++[Zpj nx ot b i]=_;unfold Zpj;rw[h]
def rnG(nx:κ->List κ)(l:List κ):Ad:=l.map fun s=>(nx s).map fun x=>l.idxOf x
def Y8(nx:κ->List κ)(l:List κ):(rnG nx l).length=l.length:=Qad _
def gH{j:Nat}{a:κ}(F:(bfN nx b i).length=i)(D:∀j,j<i->j<(bfN nx b j).length)(C:(bfN nx b i)[j]?=some a):j<i/\(bfN nx b j)[j]?=some a:=by
 have q:j<i:=by grind
 refine⟨q,?_⟩;have e:=Qac (D j q);rw[Zo1 (Qau q) e]at C;rw[e];exact C
def Zfg(q:(bfN nx b i).length=i)(C:∀j,j<i->j<(bfN nx b j).length):jk nx b i=(rnG nx (bfN nx b i)).map z9:=by
 unfold jk rnG;rw[Qb7];refine map_range _ i q _ _ fun j a F=>?_;obtain⟨G,e⟩:=gH q C F;unfold Zpi;rw[e];congr 1;refine Qcn fun x D=>?_;obtain⟨r,e2⟩:=yj (nx:=nx) (b:=b) (j+1) (i-(j+1));rw[show j+1+(i-(j+1))=i by lia]at e2;rw[e2,Zen];rw[vd e];exact(zC _ _).mpr (.inr D)
def Zfh{ot:κ->List V}(q:(bfN nx b i).length=i)(C:∀j,j<i->j<(bfN nx b j).length):ve nx ot b i=(bfN nx b i).map ot:=by
 refine map_range _ i q _ _ fun j a D=>?_;obtain⟨F,e⟩:=gH q C D;unfold Zpj;rw[e]
end
def SqF(H1 H2:Hp)(r:Au)(ws:A0):Prop:=H2 r=some (.tup ws)\/(H2 r=some (.lst ws)/\H1 r=none)
def Zie{xs:A0}{is:Aj}{Q:VK}(F:∀R:VK,R (.ref a) H->d c H R)(D:H a=some (.tup xs)\/H a=some (.lst xs))(q:Nat->List V->Hp->Prop)(J:q 0 [] H)(I:∀i zs H,q i zs H->zs.length<=sizeLine)(Z:∀i zs H',q i zs H'->∀o,H a=some o->H' a=some o)
  (Y:∀i x zs H (R:A0->Hp->Prop),(∀zs H,q (i+1) zs H->R zs H)->xs[i]?=some x->q i zs H->C (qM is c (some x)) H fun b H2=>if b=true then O (qM is c (some x)) H2 fun y H3=>R (zs++[y]) H3 else R zs H2)
  (G:∀zs H,q xs.length zs H->∀p,H p=none->Q (.ref p) (upd H p (.lst zs))):Zc0 K d c H (J9 is C O c Q)\/iTup K d c H (J9 is C O c Q):=by
 rcases D with D|D
 ·exact .inr (F _ ⟨a,rfl,⟨_,SqT.of D⟩,Jv (K:=K) (a:=a) (xs:=xs) q J I (fun i zs H' h=>SqT.of (Z i zs H' h _ D)) Y G⟩)
 ·exact .inl (F _ ⟨a,rfl,⟨_,SqL.of D⟩,Gp (K:=K) (a:=a) (xs:=xs) q J I (fun i zs H' h=>SqL.of (Z i zs H' h _ D)) Y G⟩)
def GD:A0->List Int
 |[]=>[]
 |.int z::r=>((Builtin.Int.intBits z:Nat):Int)::GD r
 |_::r=>GD r
theorem kQ:∀ws:A0,(GD ws).length<=ws.length
 |[]=>Qah _
 |w::r=>by
  have:=kQ r;cases w<;>simp only[GD,Qbu]<;>lia
theorem zD:∀(a b:A0),GD (a++b)=GD a++GD b
 |[],_=>rfl
 |w::r,b=>by
  have:=zD r b;cases w<;>simp only[GD,Qfw,this]
theorem zE{z:Int}:∀{ws:A0},V.int z∈ws->((Builtin.Int.intBits z:Nat):Int)∈GD ws
 |w::r,h=>by
  rcases Qaq.mp h with rfl|h
  ·exact Qan
  ·have:=zE h;cases w<;>skip<;>first|exact this|exact Qak _ this
theorem Zaq{m:Int}:∀{ws:A0},m∈GD ws->∃z:Int,V.int z∈ws/\m=((Builtin.Int.intBits z:Nat):Int)
 |w::r,h=>by
  have go:m∈GD r->∃z:Int,V.int z∈w::r/\m=((Builtin.Int.intBits z:Nat):Int):=fun h=>let⟨z,h1,h2⟩:=Zaq h;⟨z,Qak _ h1,h2⟩;cases w with
  |int z=>
   rcases Qaq.mp h with rfl|h
   ·exact⟨z,Qan,rfl⟩
   ·exact go h
  |_=>exact go h
def Zmx(h:0<=z):z<2^Builtin.Int.intBits z:=by
 unfold Builtin.Int.intBits;split
 ·grind
 ·obtain⟨n,rfl⟩:=Int.eq_ofNat_of_zero_le h;have:=Nat.lt_log2_self (n:=n)
  exact_mod_cast this
theorem bits_le{B:Nat}(h:0<=z)(hz:z<2^B):Builtin.Int.intBits z<=B:=by
 unfold Builtin.Int.intBits;split
 ·exact Qbp _
 ·rename_i e;obtain⟨n,rfl⟩:=Int.eq_ofNat_of_zero_le h;have C:n≠0:=fun q=>e (by rw[q];rfl);have h2:n<2^B:=by exact_mod_cast hz
  exact(Nat.log2_lt C).mpr h2
theorem Zkj:∀(bs:Ak) (l:Nat),(∀b∈bs,b=0\/b=1)->bt (hor bs.reverse) l=bs.getD l 0
 |[],l,_=>qx l
 |b::r,l,h=>by
  rw[Qcx,yX];have q:=h b Qan;cases l with
  |zero=>
   unfold bt;show _=b;lia
  |succ l=>
   rw[YX,show(hor r.reverse*2+b)/2=hor r.reverse by lia,Zkj r l fun b q=>h b (Qak _ q)];rfl
def YN(L:Nat)(ys:Ai)(y:Str):Int:=hor ((List.range L).map fun l:Nat=>bt (l:Int) (ys.idxOf y)).reverse
def JK[DecidableEq m]{l:List m}{x:m}(q:l.Nodup)(h:l[i]?=some x):l.idxOf x=i:=by grind
def Zif{L:Nat}{ys:Ai}{l:Nat}{y:Str}(q:ys.Nodup)(h:ys[i]?=some y)(C:l<L):bt (YN L ys y) l=bt (l:Int) i:=by
 unfold YN;rw[JK q h,Zkj _ _ fun b D=>by
  obtain⟨c,_,rfl⟩:=Qay.mp D;exact WV _ _]
 rw[Qap,Qam,Qdl C];rfl
def lgB:A0->Nat
 |[]=>0
 |.int z::r=>max (Builtin.Int.intBits z) (lgB r)
 |_::r=>lgB r
theorem Zfi{z:Int}:∀{ws:A0},V.int z∈ws->Builtin.Int.intBits z<=lgB ws
 |w::r,h=>by
  rcases Qaq.mp h with rfl|h
  ·exact Nat.le_max_left _ _
  ·have:=Zfi h;cases w<;>simp only[lgB]<;>lia
theorem Zfj:∀ws:A0,lgB ws=0\/∃z:Int,V.int z∈ws/\lgB ws=Builtin.Int.intBits z
 |[]=>.inl rfl
 |w::r=>by
  have go:(lgB (w::r)=lgB r)->lgB (w::r)=0\/∃z:Int,V.int z∈w::r/\lgB (w::r)=Builtin.Int.intBits z:=fun e=>by
   rw[e];rcases Zfj r with h|⟨z,h1,h2⟩
   ·exact .inl h
   ·grind
  cases w with
  |int z=>
   by_cases h:lgB r<=Builtin.Int.intBits z
   ·exact .inr ⟨z,Qan,Nat.max_eq_left h⟩
   ·exact go (Nat.max_eq_right (by lia))
  |_=>exact go rfl
def Zkk{ws:A0}{L:Nat}(h1:∀z:Int,V.int z∈ws->Builtin.Int.intBits z<=L)(h2:L=0\/∃z:Int,V.int z∈ws/\L=Builtin.Int.intBits z):L=lgB ws:=by
 refine Nat.le_antisymm ?_ ?_
 ·rcases h2 with h|⟨z,hz,h⟩
  ·lia
  ·rw[h];exact Zfi hz
 ·rcases Zfj ws with h|⟨z,hz,h⟩
  ·lia
  ·rw[h];exact h1 z hz
def Y9(ws:A0):Nat:=(ws.filter fun w=>inV w (allR.map V.str)).length
def Znq(nm:Ai)(cols:Str->Int)(ws:A0)(s:Int×Ak):Ak×Ak:=XN nm cols s.1.toNat s.2 ws
def nxT(nm:Ai)(cols:Str->Int)(ws:A0)(L:Nat)(s:Int×Ak):List (Int×Ak):=(List.range (2^nm.length)).map fun l=>(min (s.1+1) (L:Int),(Znq nm cols ws s).2.map fun c=>bt c l)
def otT(nm:Ai)(cols:Str->Int)(ws:A0)(q C:V)(s:Int×Ak):A0:=(List.range (2^nm.length)).map fun l=>if bt ((Znq nm cols ws s).1.getD 0 0) l=1 then C else q
def Znr(q:Au)(H H':Hp):Prop:=∀b o,H b=some o->b≠q->H' b=some o
def Zmy(H:Hp)(k:Int×Ak)(a:Au):Prop:=∃t,H a=some (.tup [.int k.1,.ref t])/\H t=some (.tup (k.2.map V.int))
def Zmy.bits{k:Int×Ak}(h:Zmy H k a):Zj1 H k a:=by
 obtain⟨t,h1,h2⟩:=h;refine⟨t,h1,_,h2,?_⟩;rw[Qb7];rfl
def knQ:KN (Int×Ak)where
 knd:=knP.knd
 hsh:=knP.hsh
 at_:=Zmy
 hash_eq:=knP.hash_eq
 ok:=fun P w H h k a ok b=>knP.ok P w H h k a ok b.bits
 room:=knP.room
 room0:=knP.room0
 keep:=fun H H' k a q ⟨t,e,e2⟩=>⟨t,q _ _ e,q _ _ e2⟩
def qz:Nat->List (Ak)
 |0=>[[]]
 |n+1=>(qz n).map (List.cons 0)++(qz n).map (List.cons 1)
theorem kR:∀n,(qz n).length=2^n
 |0=>rfl
 |n+1=>by
  show((qz n).map (List.cons 0)++(qz n).map (List.cons 1)).length=_;rw[Qaf,Qad,Qad,kR n,Nat.pow_succ];lia
theorem Xt:∀{n:Nat} {ks:Ak},ks∈qz n↔ks.length=n/\∀x∈ks,x=0\/x=1
 |0,ks=>by
  constructor
  ·intro h;rw[Qat.mp h];exact⟨rfl,fun x q=>by cases q⟩
  ·rintro⟨h,_⟩;rw[Qb9 h];exact Qat.mpr rfl
 |n+1,ks=>by
  show ks∈(qz n).map (List.cons 0)++(qz n).map (List.cons 1)↔_;rw[Qbb,Qay,Qay];constructor
  ·rintro(⟨r,C,rfl⟩|⟨r,C,rfl⟩)
   ·obtain⟨h1,h2⟩:=Xt.mp C;refine⟨by rw[Qbu,h1],fun x q=>?_⟩;rcases Qaq.mp q with rfl|q
    ·exact .inl rfl
    ·exact h2 x q
   ·obtain⟨h1,h2⟩:=Xt.mp C;refine⟨by rw[Qbu,h1],fun x q=>?_⟩;rcases Qaq.mp q with rfl|q
    ·exact .inr rfl
    ·exact h2 x q
  ·rintro⟨h1,h2⟩;cases ks with
   |nil=>cases h1
   |cons x r=>
    have C:r∈qz n:=Xt.mpr ⟨by simpa using h1,fun y D=>h2 y (Qak _ D)⟩;rcases h2 x Qan with rfl|rfl
    ·exact .inl ⟨r,C,rfl⟩
    ·exact .inr ⟨r,C,rfl⟩
def uni(q:Nat):Nat->List (Int×Ak)
 |0=>[]
 |n+1=>uni q n++(qz q).map fun ks=>((n:Int),ks)
theorem vf(q:Nat):∀n,(uni q n).length=n*2^q
 |0=>by rw[Nat.zero_mul];rfl
 |n+1=>by
  show(uni q n++(qz q).map _).length=_;rw[Qaf,Qad,vf q n,kR,Nat.succ_mul]
theorem Gd{q:Nat}{s:Int×Ak}:∀{n:Nat},s∈uni q n↔∃p:Nat,p<n/\s.1=(p:Int)/\s.2∈qz q
 |0=>⟨(fun h=>nomatch h),fun⟨p,h,_⟩=>absurd h (Qeg _)⟩
 |n+1=>by
  show s∈uni q n++(qz q).map (fun ks=>((n:Int),ks))↔_;rw[Qbb,Gd,Qay];constructor
  ·grind
  ·grind
def Wj(w:V)(r:A0):Y9 (w::r)=Y9 r+if inV w (allR.map V.str)=true then 1 else 0:=by
 unfold Y9;rw[Qcw];split<;>rfl
theorem vg{ys:Ai}{cols:Str->Int}{pl:Nat}{kp:Ak}:∀ws:A0,(∀w∈ws,kG ys w)->(XN ys cols pl kp ws).2.length=Y9 ws
 |[],_=>rfl
 |w::r,hw=>by
  have q:=vg (ys:=ys) (cols:=cols) (pl:=pl) (kp:=kp) r fun w h=>hw w (Qak _ h);rw[Wj];rcases hw w Qan with⟨y,rfl,h1,_⟩|⟨y,rfl,h1,h2,C,_⟩|⟨y,rfl,h1,h2,_⟩|⟨z,rfl,_⟩
  ·show(if y∈allR then _ else _:Ak×Ak).2.length=_;rw[Qba h1,ZL,Qal h1,Qba rfl,Qaf,q];rfl
  ·show(if y∈allR then _ else if y∈ys then _ else _:Ak×Ak).2.length=_;rw[Qa4 h2,Qa4 C,ZL,Qaj h2,Qa4 (by decide)];exact q
  ·show(if y∈allR then _ else if y∈ys then _ else _:Ak×Ak).2.length=_;rw[Qa4 h2,Qba h1,ZL,Qaj h2,Qa4 (by decide)];exact q
  ·exact q
def vh{cols:Str->Int}{ws:A0}{L:Nat}(hw:∀w∈ws,kG N w)(C:i=Y9 ws){s:Int×Ak}(D:s∈uni i (L+1)):∀x∈nxT N cols ws L s,x∈uni i (L+1):=by
 intro x q;obtain⟨l,_,rfl⟩:=Qay.mp q;obtain⟨p,h1,h2,G⟩:=Gd.mp D;refine Gd.mpr ⟨min (p+1) L,by lia,?_,Xt.mpr ⟨?_,fun b F=>?_⟩⟩
 ·grind
 ·rw[Qad,C];exact vg ws hw
 ·obtain⟨c,_,rfl⟩:=Qay.mp F;exact WV c l
def Zbw{H':Hp}(s:Z8 (hide J H) H')(C:∀c∈J,H' c=none):Z8 H (Wg J H H')/\(∀t o,H' t=some o->Wg J H H' t=some o)/\∀t o,H' t=some o->hide J H t=none->H t=none:=by
 have m:∀t o,H' t=some o->t∉J:=fun t o e m=>by rw[C t m]at e;cases e
 refine⟨fun b o e=>?_,fun t o e=>by rw[Yp (m t o e)];exact e,fun t o e h=>by rw[ZD (m t o e)]at h;exact h⟩
 by_cases q:b∈J
 ·rw[Jf q];exact e
 ·rw[Yp q];exact s _ _ (by rw[ZD q];exact e)
def yk{H':Hp}{p:Au}{q:Ax}(R:z8 H p q)(e:∀b xs,H b=some (.tup xs)->H' b=some (.tup xs)):z8 H' p q:=by
 obtain⟨as,h1,h2,C⟩:=R;refine⟨as,e _ _ h1,h2,fun i r hi=>?_⟩;obtain⟨a,D,F⟩:=C i r hi;exact⟨a,D,e _ _ F⟩
def Zfk{ws:A0}{B:Nat}(q:∀z:Int,V.int z∈ws->0<=z/\z<2^B):lgB ws<=B:=by
 rcases Zfj ws with h|⟨z,hz,h⟩
 ·lia
 ·rw[h];exact bits_le (q z hz).1 (q z hz).2
def lgB_lt{ws:A0}(h:V.int z∈ws)(q:0<=z):z<2^lgB ws:=Int.lt_of_lt_of_le (Zmx q) (Zez (Zfi h))
def gI(ws:A0):Prop:=∀r,qT (ws++r)=qT r+1/\(YE r->YE (ws++r))
theorem yl:∀(ps:Ax),(∀p∈ps,gI p)->∀r,qT (ps.flatten++r)=qT r+ps.length/\(YE r->YE (ps.flatten++r))
 |[],_,r=>⟨rfl,fun h=>h⟩
 |p::ps,h,r=>by
  obtain⟨h1,h2⟩:=yl ps (fun q C=>h q (Qak _ C)) r;obtain⟨D,F⟩:=h p Qan (ps.flatten++r);rw[Qe8,Qcy,D,h1,Qbu];exact⟨by lia,fun z=>F (h2 z)⟩
theorem ym{w:V}{ps:Ax}(q:npw w=ps.length)(h:∀p∈ps,gI p):gI (w::ps.flatten):=fun r=>by
 obtain⟨h1,h2⟩:=yl ps h r;constructor
 ·show qT (ps.flatten++r)-npw w+1=_;lia
 ·intro z;exact⟨by show npw w<=qT (ps.flatten++r);lia,h2 z⟩
def Zbx{w:V}(h:npw w=0):gI [w]:=ym (ps:=[]) h fun p q=>by cases q
def gI.one{ws:A0}(h:gI ws):YE ws/\qT ws=1:=by
 have:=h [];rw[Qbm]at this;exact⟨this.2 trivial,this.1⟩
def Zar{y:Str}(h:y∉YW):npw (.str y)=0:=by
 have k:∀p∈T1++T2++T3,p.1∈YW:=by decide +kernel
 show(Gi T1 (.inr y)+Gi T2 (.inr y)+Gi T3 (.inr y)).toNat=0;have n:∀l:List (Str×Int),(∀p∈l,p∈T1++T2++T3)->y∉l.map (·.1):=fun l C z=>by
  grind
 rw[zr (n T1 fun p q=>by simp[q]),zr (n T2 fun p q=>by simp[q]),zr (n T3 fun p q=>by simp[q])];rfl
theorem zF(z:Int):npw (.int z)=0:=by
 have k:∀l:List (Str×Int),Gi l (.inl z)=0:=fun l=>by
  induction l with
  |nil=>rfl
  |cons p r q=>
   exact q
 show(Gi T1 (.inl z)+Gi T2 (.inl z)+Gi T3 (.inl z)).toNat=0;rfl
def Zfl:∀y∈G9,npw (.str y)=Yu y/\y∈YW:=by decide +kernel
def Zig:∀y∈WH,y∈YW:=by decide +kernel
def xK:∀y∈allR,y∈YW:=by decide +kernel
def GF{ys:Ai}{w:V}(q:∀y∈ys,y∉YW)(h:Zex ys w):WW ys 10 w/\npw w=0/\inV w (allR.map V.str)=false:=by
 rcases h with⟨y,h1,rfl⟩|⟨z,rfl,C,h1⟩
 ·refine⟨.inr (.inl ⟨y,rfl,h1,fun z=>q y h1 (Zig y z),Zar (q y h1)⟩),Zar (q y h1),?_⟩;rw[ZL];exact Qaj fun z=>q y h1 (xK y z)
 ·exact⟨.inr (.inr ⟨z,rfl,C,by lia,zF z⟩),zF z,yV z _⟩
def J7{ys:Ai}{y:Str}(q:∀y∈ys,y∉YW)(h:y∈G9):WW ys 10 (.str y)/\npw (.str y)=Yu y/\inV (.str y) (allR.map V.str)=decide (y∈WH):=by
 obtain⟨h1,h2⟩:=Zfl y h;refine⟨.inl ⟨y,rfl,h,fun z=>q y z h2,h1⟩,h1,?_⟩;rw[ZL,Qc2,Qb0,Qb0];exact yW y h
def GG(a b:A0):Y9 (a++b)=Y9 a+Y9 b:=by
 unfold Y9;rw[Qdd,Qaf]
def Zas:∀y∈G9,y∉allR->y∈Zh7/\npw (.str y)=Zh6 y:=by decide +kernel
def Zmz:∀y∈allR,y∈G9->1<=npw (.str y)/\(y∈Znp->2<=npw (.str y)):=by decide +kernel
def Zih{ys:Ai}{B:Nat}{w:V}(F:∀y∈ys,y∉YW)(h:WW ys B w):kG ys w:=by
 rcases h with⟨y,rfl,h1,h2,C⟩|⟨y,rfl,h1,h2,C⟩|⟨z,rfl,D,_,C⟩
 ·by_cases q:y∈allR
  ·exact .inl ⟨y,rfl,q,h2,Zmz y q h1⟩
  ·exact .inr (.inl ⟨y,rfl,(Zas y h1 q).1,q,h2,(Zas y h1 q).2⟩)
 ·exact .inr (.inr (.inl ⟨y,rfl,h1,fun z=>F y h1 (xK y z),C⟩))
 ·exact .inr (.inr (.inr ⟨z,rfl,D,C⟩))
def gJ(ys:Ai)(q:Ax):Prop:=∀ps∈q,gI ps/\∀w∈ps,WW ys 10 w
def gJ.word{ys:Ai}{q:Ax}{y:Str}(F:∀y∈ys,y∉YW)(g:gJ ys q)(h:y∈G9)(I:Yu y=n)(O:n<=q.length):gJ ys (q.take (q.length-n)++[.str y::(q.drop (q.length-n)).flatten]):=by
 obtain⟨D,G,J⟩:=J7 F h;intro ps C;rcases Qbb.mp C with C|C
 ·exact g ps (Qch C)
 ·rw[Qat.mp C];refine⟨ym (by rw[G,I,Qbt];lia) fun p C=>(g p (Qdg C)).1,fun w hw=>?_⟩;rcases Qaq.mp hw with rfl|hw
  ·exact D
  ·obtain⟨p,C,hw⟩:=List.mem_flatten.mp hw;exact(g p (Qdg C)).2 w hw
def kT(q:Ax)(w:V)(n:Nat):(q.take n++[w::(q.drop n).flatten]).flatten.length=q.flatten.length+1/\Y9 (q.take n++[w::(q.drop n).flatten]).flatten=Y9 q.flatten+if inV w (allR.map V.str)=true then 1 else 0:=by
 have e:q.flatten=(q.take n).flatten++(q.drop n).flatten:=by rw[<-Qcu,Qbz]
 rw[Qcu,Qe8,Qfy,Qbm,e];constructor
 ·grind
 ·rw[GG,GG,Wj];lia
theorem Y7.take{H:Hp}{zs:A0}{C:Ax}(z:Y7 H zs C)(n:Nat):Y7 H (zs.take n) (C.take n):=by
 refine⟨by rw[Qas,Qas,z.1],fun i r q=>?_⟩;rw[Qgp]at q ⊢;split at q
 ·rename_i lt;rw[Qba lt];exact z.2 i r q
 ·cases q
def Y7.drop{H:Hp}{zs:A0}{C:Ax}(z:Y7 H zs C)(n:Nat):Y7 H (zs.drop n) (C.drop n):=by
 refine⟨by rw[Qbt,Qbt,z.1],fun i r q=>?_⟩;rw[List.getElem?_drop]at q ⊢;exact z.2 _ r q
def Zat{xs:List m}{j:Nat}{v:m}(h:xs[j]?=some v)(q:j+n=xs.length)(h1:1<=n):atI xs (-(n:Int))=some v:=by
 unfold atI ixN;rw[Qa4 (by lia),Qba (by lia)];rw[show(-(n:Int)+(xs.length:Int)).toNat=j by lia];exact h
def kU{xs:A0}(q:n<=xs.length)(h1:1<=n):qe xs none (some (-(n:Int)))=xs.take (xs.length-n):=by
 unfold qe;simp only[HT.sIx];rw[Qba (by lia),show(-(n:Int)+(xs.length:Int)).toNat=xs.length-n by lia];simp
def Wk(ls:Aj)(ys:Ai)(y:Str):Int:=sm (fun k=>bt ((ls.getD k 0:Nat):Int) (ys.idxOf y)) ls.length
def gK(ls:Aj)(ys:Ai)(y:Str):0<=Wk ls ys y/\Wk ls ys y<2^ls.length:=xH (fun _=>WV _ _) _
def Zm0{ls:Aj}{ys:Ai}{k l:Nat}{y:Str}(C:ys.Nodup)(h:ys[i]?=some y)(q:ls[k]?=some l):bt (Wk ls ys y) k=bt (l:Int) i:=by
 unfold Wk;rw[JK C h];have:=Ze8 (b:=fun k=>bt ((ls.getD k 0:Nat):Int) i) (fun _=>WV _ _) k ls.length (Qai.mp q).1;rw[Qap,q]at this;exact this
structure Runs(nx:Ad)(ot:Ax)(n:Nat):Prop where
 pos:0<nx.length
 ol:ot.length=nx.length
 nr:∀r∈nx,r.length=2^n
 nl:∀r∈nx,∀s∈r,s<nx.length
 or:∀r∈ot,r.length=2^n
def stN(nx:Ad):Nat->List Nat->Nat
 |s,[]=>s
 |s,c::r=>stN nx ((nx.getD s []).getD c 0) r
def rnO(nx:Ad)(ot:Ax):Nat->List Nat->List V
 |_,[]=>[]
 |s,c::r=>(ot.getD s []).getD c .non::rnO nx ot ((nx.getD s []).getD c 0) r
theorem X7(nx:Ad):∀(s:Nat) (ls:Aj) (c:Nat),stN nx s (ls++[c])=(nx.getD (stN nx s ls) []).getD c 0
 |_,[],_=>rfl
 |s,d::r,c=>X7 nx ((nx.getD s []).getD d 0) r c
theorem Zau(nx:Ad)(ot:Ax):∀(s:Nat) (ls:Aj) (c:Nat),rnO nx ot s (ls++[c])=rnO nx ot s ls++[(ot.getD (stN nx s ls) []).getD c .non]
 |_,[],_=>rfl
 |s,d::r,c=>congrArg (List.cons _) (Zau nx ot ((nx.getD s []).getD d 0) r c)
theorem vj(nx:Ad)(ot:Ax):∀(s:Nat) (ls:Aj),(rnO nx ot s ls).length=ls.length
 |_,[]=>rfl
 |s,d::r=>congrArg Nat.succ (vj nx ot _ r)
def getD_at{l:List m}{d:m}(h:i<l.length):l[i]?=some (l.getD i d):=by grind
theorem yo{ys:Ai}{ν q:Str->Int}{pl:Nat}{kp:Ak}(h:∀y∈ys,ν y=q y):∀ws:A0,Zgq ys ν pl kp ws=Zgq ys q pl kp ws
 |[]=>rfl
 |w::r=>by
  have C:=yo (pl:=pl) (kp:=kp) h r;unfold Zgq;rw[C];cases w with
  |str y=>
   by_cases D:y∈WH
   ·simp only[Qba D]
   ·grind
  |_=>rfl
theorem Zav{m:Int}{ρ:Str->Int}{k:Nat}:∀{ws:A0},∀x∈xq m ρ ws k,x=0\/x=1
 |w::r,x,h=>by
  rcases Qbb.mp h with h|h
  ·exact Zav x h
  ·split at h
   ·rw[Qat.mp h];exact hld_01 _ _ _
   ·cases h
def Zm1(m:Int)(ρ:Str->Int)(ws:A0)(k i:Nat):(xq m ρ ws k).getD i 0=0\/(xq m ρ ws k).getD i 0=1:=by
 rw[Qap];cases e:(xq m ρ ws k)[i]? with
 |none=>exact .inl rfl
 |some x=>exact Zav x (Qag e)
theorem kW(m:Int)(ρ:Str->Int):∀ws:A0,xq m ρ ws 0=List.replicate (ws.filter qb).length 0
 |[]=>rfl
 |w::r=>by
  show xq m ρ r 0++_=_;rw[kW m ρ r,Qcw];split
  ·rw[Zh4,Qbu,Qf4]
  ·rw[Qbm]
theorem kX{ys:Ai}{B:Nat}(q:∀y∈ys,y∉YW):∀{ws:A0},(∀w∈ws,WW ys B w)->Y9 ws=(ws.filter qb).length
 |[],_=>rfl
 |w::r,h=>by
  rw[Wj,kX q (fun v C=>h v (Qak _ C)),Qcw];have e:inV w (allR.map V.str)=qb w:=by
   rcases h w Qan with⟨y,rfl,h1,_⟩|⟨y,rfl,h1,h2,_⟩|⟨z,rfl,_⟩
   ·rw[ZL];show decide _=decide _;rw[Qc2,Qb0,Qb0];exact yW y h1
   ·rw[ZL,Qaj fun z=>q y h1 (xK y z)];exact(Qaj h2).symm
   ·exact yV z _
  rw[e];split<;>rfl
section
variable {κ:Type}[DecidableEq κ]{nx:κ->List κ}{b:κ}{l:List κ}
def zG{x:κ}(h:x∈l):l[l.idxOf x]?=some x:=by grind
def BfE.len(B:BfE nx b l):(bfN nx b l.length).length=l.length:=by rw[<-B.e]
def BfE.here(B:BfE nx b l){j:Nat}{s:κ}(h:l[j]?=some s):j<l.length/\(bfN nx b j)[j]?=some s:=gH B.len B.go (by rw[<-B.e];exact h)
def BfE.sub(B:BfE nx b l){j:Nat}(q:j<=l.length){x:κ}(h:x∈bfN nx b j):x∈l:=by
 obtain⟨r,e⟩:=yj (nx:=nx) (b:=b) j (l.length-j);rw[show j+(l.length-j)=l.length by lia,<-B.e]at e;rw[e];exact Qb3 _ h
def BfE.begin(B:BfE nx b l):l[0]?=some b/\b∈l:=by
 have q:b∈l:=B.sub (Qbp _) (show b∈[b]from Qat.mpr rfl);have e:=Zo1 (nx:=nx) (b:=b) (i:=l.length) (j:=0) (Qbp _) (s:=b) rfl;rw[<-B.e]at e;exact⟨e,q⟩
def BfE.next(B:BfE nx b l){s x:κ}(h:s∈l)(q:x∈nx s):x∈l:=by
 obtain⟨j,C⟩:=Qe2.mp h;obtain⟨h1,h2⟩:=B.here C;refine B.sub (j:=j+1) h1 ?_;rw[vd h2];exact(zC _ _).mpr (.inr q)
def BfE.nodup(B:BfE nx b l):l.Nodup:=by
 rw[B.e];exact GC _
def ixG(l:List κ)(x:κ):Nat:=l.idxOf x
def BfE.zero(B:BfE nx b l):ixG l b=0:=JK B.nodup B.begin.1
def BfE.uniq{l':List κ}(B:BfE nx b l)(q:BfE nx b l'):l=l':=by
 have h1:¬l.length<l'.length:=fun h=>by
  have:=q.go _ h;rw[<-B.e]at this;lia
 have h2:¬l'.length<l.length:=fun h=>by
  have:=B.go _ h;rw[<-q.e]at this;lia
 rw[B.e,q.e,show l.length=l'.length by lia]
def Zfm(h:∀s∈l,∀x∈nx s,x∈l){s:κ}(q:s∈l):(rnG nx l).getD (ixG l s) []=(nx s).map fun x=>ixG l x:=by
 unfold rnG ixG;rw[Qap,Qam,zG q];rfl
def Zm2{ot:κ->List V}{s:κ}(q:s∈l):(l.map ot).getD (ixG l s) []=ot s:=by
 unfold ixG;rw[Qap,Qam,zG q];rfl
end
def yp{ws:A0}{ls:Aj}{W k c:Nat}(q:N.Nodup)(hk:∀y∈N,y∉YW)(hw:∀w∈ws,WW N 10 w)(Y:YE ws)(J:k<W)(Z:ls[k]?=some c)(C:c<2^N.length):
  (Znq N (YN (2^N.length) N) ws (min (k:Int) (lgB ws:Int),xq (2^W) (Wk ls N) ws k)).1.map (fun x=>bt x c)=(Xa (2^W) (Wk ls N) ws).map (fun x=>bt x k)/\(Znq N (YN (2^N.length) N) ws (min (k:Int) (lgB ws:Int),xq (2^W) (Wk ls N) ws k)).2.map (fun x=>bt x c)=xq (2^W) (Wk ls N) ws (k+1):=by
 have G:∀w∈ws,WW N (lgB ws) w:=fun w h=>by
  rcases hw w h with z|z|⟨z,rfl,I,_,O⟩
  ·exact .inl z
  ·exact .inr (.inl z)
  ·exact .inr (.inr ⟨z,rfl,I,lgB_lt h I,O⟩)
 obtain⟨e1,e2⟩:=kJ (B:=10) (cols:=YN (2^N.length) N) (pl:=(min (k:Int) (lgB ws:Int)).toNat) (Zm1 (2^W) (Wk ls N) ws k) (fun y F z=>hk y F (xK y z)) c ws hw;have D:∀y∈N,bt (YN (2^N.length) N y) c=bt (Wk ls N y) k:=fun y F=>by
  obtain⟨i,hi⟩:=Qe2.mp F;rw[Zif q hi C,Zm0 q hi Z]
 have e3:=yo (pl:=(min (k:Int) (lgB ws:Int)).toNat) (kp:=xq (2^W) (Wk ls N) ws k) D ws;have e4:=Zkd (ρ:=Wk ls N) (pl:=(min (k:Int) (lgB ws:Int)).toNat) J (by lia:(min (k:Int) (lgB ws:Int)).toNat=k\/(lgB ws<=(min (k:Int) (lgB ws:Int)).toNat/\lgB ws<=k)) (xq (2^W) (Wk ls N) ws k) ws G Y ⟨[],(Qbm _).symm⟩;rw[e3,e4]at e1 e2;exact⟨e1,e2⟩
theorem vk{ws:A0}{ls:Aj}{W:Nat}{o:Int}{l:List (Int×Ak)}(I:N.Nodup)(O:∀y∈N,y∉YW)(hw:∀w∈ws,WW N 10 w)(Y:YE ws)(hW:ls.length<=W)(F:∀x∈ls,x<2^N.length)(ho:Xa (2^W) (Wk ls N) ws=[o])
  (B:BfE (nxT N (YN (2^N.length) N) ws (lgB ws)) (0,List.replicate (Y9 ws) 0) l):
  ∀k,k<ls.length->(rnO (rnG (nxT N (YN (2^N.length) N) ws (lgB ws)) l) (l.map (otT N (YN (2^N.length) N) ws (.int 0) (.int 1))) 0 ls)[k]?=some (.int (bt o k)):=by
 have cl:∀s∈l,∀x∈nxT N (YN (2^N.length) N) ws (lgB ws) s,x∈l:=fun s hs x hx=>B.next hs hx;have e0:((0:Int),List.replicate (Y9 ws) (0:Int))=(min ((0:Nat):Int) (lgB ws:Int),xq (2^W) (Wk ls N) ws 0):=by
  rw[kW,kX O hw,show min ((0:Nat):Int) (lgB ws:Int)=0 by lia]
 have step:∀k,k<=ls.length->stN (rnG (nxT N (YN (2^N.length) N) ws (lgB ws)) l) 0 (ls.take k)=ixG l (min (k:Int) (lgB ws:Int),xq (2^W) (Wk ls N) ws k)/\(min (k:Int) (lgB ws:Int),xq (2^W) (Wk ls N) ws k)∈l:=by
  intro k
  induction k with
  |zero=>
   intro _;rw[<-e0];exact⟨B.zero.symm,B.begin.2⟩
  |succ k J=>
   intro hk1;obtain⟨i1,i2⟩:=J (by lia);obtain⟨c,D⟩:∃c,ls[k]?=some c:=⟨_,Qac (by lia)⟩;have C:=F c (Qag D);obtain⟨_,e2⟩:=yp I O hw Y (show k<W by lia) D C;have en:(nxT N (YN (2^N.length) N) ws (lgB ws) (min (k:Int) (lgB ws:Int),xq (2^W) (Wk ls N) ws k))[c]?=some (min ((k+1:Nat):Int) (lgB ws:Int),xq (2^W) (Wk ls N) ws (k+1)):=by
    unfold nxT;rw[xI C,e2];congr 2;lia
   refine⟨?_,B.next i2 (Qag en)⟩;rw[take_snoc D,X7,i1,Zfm cl i2,Qap,Qam,en];rfl
 intro k G;obtain⟨i1,i2⟩:=step k (by lia);obtain⟨c,D⟩:∃c,ls[k]?=some c:=⟨_,Qac G⟩;have C:=F c (Qag D);obtain⟨e1,_⟩:=yp I O hw Y (show k<W by lia) D C;have Z:ls=ls.take k++c::ls.drop (k+1):=by
  rw[show c::ls.drop (k+1)=ls.drop k by rw[Qby G];congr 1;exact(Qai.mp D).2.symm,Qbz]
 have go:∀(nx:Ad) (ot:Ax) (s:Nat) (a:Aj) (c:Nat) (r:Aj),(rnO nx ot s (a++c::r))[a.length]?=some ((ot.getD (stN nx s a) []).getD c .non):=fun nx ot s a c r=>by
  induction a generalizing s with
  |nil=>rfl
  |cons d a J=>exact J _
 have g:=go (rnG (nxT N (YN (2^N.length) N) ws (lgB ws)) l) (l.map (otT N (YN (2^N.length) N) ws (.int 0) (.int 1))) 0 (ls.take k) c (ls.drop (k+1));rw[<-Z,Qas,Qef (by lia),i1,Zm2 i2]at g;rw[g];congr 1;unfold otT;rw[Qap,xI C];rw[ho]at e1;generalize (Znq N (YN (2^N.length) N) ws (min (k:Int) (lgB ws:Int),xq (2^W) (Wk ls N) ws k)).1=q at e1 ⊢;have hq:q.length=1:=by
  have:=congrArg List.length e1;rw[Qad]at this;exact this
 match q,hq,e1 with
 |[x],_,e1=>
  have e1:bt x c=bt o k:=by
   injection e1
  show(if bt x c=1 then V.int 1 else V.int 0)=_;rw[e1];rcases WV o k with h|h<;>rw[h]<;>rfl
structure Xn(nm:Ai)(ws:A0):Prop where
 n3:nm.length<=3
 nd:nm.Nodup
 kp:∀y∈nm,y∉YW
 ln:ws.length<=100
 wd:∀w∈ws,WW nm 10 w
 en:YE ws
 st:qT ws=1
 rm:Y9 ws<=15
abbrev nxS(nm:Ai)(ws:A0):Int×Ak->List (Int×Ak):=nxT nm (YN (2^nm.length) nm) ws (lgB ws)
abbrev otS(nm:Ai)(ws:A0):Int×Ak->List V:=otT nm (YN (2^nm.length) nm) ws (.int 0) (.int 1)
structure Zpk(nm:Ai)(ws:A0)(l:List (Int×Ak))(H:Hp)(m:Au):Prop where
 b:BfE (nxS nm ws) (0,List.replicate (Y9 ws) 0) l
 m:M4 H m nm 0 (rnG (nxS nm ws) l) (l.map (otS nm ws))
def Xn.wc{ws:A0}(S:Xn N ws):∀w∈ws,kG N w:=fun w h=>Zih S.kp (S.wd w h)
theorem Xn.iz{ws:A0}(S:Xn N ws):∀z:Int,V.int z∈ws->0<=z/\z<2^10:=fun z h=>by
 rcases S.wd _ h with⟨y,e,_⟩|⟨y,e,_⟩|⟨C,e,q,h1,_⟩
 ·cases e
 ·cases e
 ·cases e;exact⟨q,h1⟩
def Xn.big{ws:A0}(S:Xn N ws):(10+1)*2^Y9 ws<=1000000:=by
 have:2^Y9 ws<=2^15:=Qdf (by decide) S.rm;lia
def Xn.len{ws:A0}{l:List (Int×Ak)}(S:Xn N ws)(B:BfE (nxS N ws) (0,List.replicate (Y9 ws) 0) l):l.length<=1000000:=by
 have h:=Zap (nx:=nxS N ws) (b:=((0:Int),List.replicate (Y9 ws) (0:Int))) (U:=uni (Y9 ws) (lgB ws+1)) (Gd.mpr ⟨0,by lia,rfl,Xt.mpr ⟨Qbj,fun x q=>.inl (Qei q)⟩⟩) (fun s D=>vh S.wc rfl D) l.length;rw[<-B.e,vf]at h;have h2:lgB ws<=10:=Zfk S.iz;have C:=S.big;exact Qa8 h (Qa8 (Qf5 _ (by lia)) C)
def Zfn(nm:Ai)(cols:Str->Int)(ws:A0)(L:Nat)(s:Int×Ak):(nxT nm cols ws L s).length=2^nm.length:=by
 unfold nxT;rw[Qad,Qa5]
def Zfo(nm:Ai)(cols:Str->Int)(ws:A0)(q C:V)(s:Int×Ak):(otT nm cols ws q C s).length=2^nm.length:=by
 unfold otT;rw[Qad,Qa5]
section
variable {κ:Type}[DecidableEq κ]{nx:κ->List κ}{b:κ}{l:List κ}
def Zfp(B:BfE nx b l)(D:∀s,(nx s).length=n):(∀r∈rnG nx l,r.length=n)/\∀r∈rnG nx l,∀s∈r,s<(rnG nx l).length:=by
 constructor
 ·intro r q;obtain⟨s,_,rfl⟩:=Qay.mp q;rw[Qad,D]
 ·intro r q x C;obtain⟨s,F,rfl⟩:=Qay.mp q;obtain⟨y,G,rfl⟩:=Qay.mp C;rw[Y8];exact Qez (B.next F G)
theorem Zkl(B:BfE nx b l):∀i,i<=l.length->Zo0 (rnG nx l) 0 i=(bfN nx b i).map (ixG l)
 |0,_=>by
  show[0]=[ixG l b];rw[B.zero]
 |i+1,h=>by
  have D:=Zkl B i (by lia);obtain⟨s,C⟩:∃s,(bfN nx b i)[i]?=some s:=⟨_,Qac (B.go i (by lia))⟩;have J:s∈l:=B.sub (by lia) (Qag C);show Zoz (rnG nx l) (Zo0 (rnG nx l) 0 i) i=_;rw[D];unfold Zoz;have e1:((bfN nx b i).map (ixG l)).getD i 0=ixG l s:=by grind
  rw[e1,Zfm (fun s C x q=>B.next C q) J,vd C];have inj:∀x∈l,∀y∈l,ixG l x=ixG l y->x=y:=fun x q y O e=>by
   have h1:=zG q;have h2:=zG O;have e:l.idxOf x=l.idxOf y:=e;rw[e,h2]at h1;exact(Option.some.inj h1).symm
  have go:∀(r a:List κ),(∀x∈r,x∈l)->(∀x∈a,x∈l)->(r.map (ixG l)).foldl Yy (a.map (ixG l))=(r.foldl Yy a).map (ixG l):=by
   intro r
   induction r with
   |nil=>exact fun a _ _=>rfl
   |cons k r D=>
    intro a G I;have F:=G k Qan;rw[Qbx,Qe0,Qe0,uZ (ixG l) a k fun x q e=>inj x (I x q) k F e];exact D _ (fun x q=>G x (Qak _ q)) fun x q=>by
     rcases xF.mp q with z|z
     ·exact I x z
     ·rw[z];exact F
  exact go _ _ (fun x q=>B.next J q) fun x q=>B.sub (by lia) q
end
def Zpk.wf{ws:A0}{l:List (Int×Ak)}{m:Au}(S:Xn N ws)(M:Zpk N ws l H m):Wf N 0 (rnG (nxS N ws) l) (l.map (otS N ws)) false:=by
 obtain⟨F,G⟩:=Zfp M.b (n:=2^N.length) (Zfn _ _ _ _);have hpos:0<l.length:=Qd3 M.b.begin.2;have D:∀r∈l.map (otS N ws),∀v∈r,v=.int 0\/v=.int 1:=fun r q v C=>by
  obtain⟨s,_,rfl⟩:=Qay.mp q;obtain⟨c,_,rfl⟩:=Qay.mp C;split
  ·exact .inr rfl
  ·exact .inl rfl
 refine⟨S.n3,by rw[Y8];exact hpos,by rw[Y8];exact S.len M.b,by rw[Y8,Qad],F,G,fun r q=>?_,fun r q v C=>?_,fun r q v C=>?_⟩
 ·obtain⟨s,_,rfl⟩:=Qay.mp q;exact Zfo _ _ _ _ _ _
 ·rcases D r q v C with e|e<;>rw[e]<;>exact .inr ⟨rfl,_,rfl⟩
 ·rcases D r q v C with e|e<;>rw[e]
  ·exact .inl rfl
  ·exact .inr rfl
def GH{H':Hp}{xs:A0}(h:SqL K H a xs)(s:Z8 H H'):SqL K H' a xs:=by
 rcases h with h|h
 ·rcases h with h|⟨u,h⟩
  ·exact .inl (.inl (s _ _ h))
  ·exact .inl (.inr ⟨u,s _ _ h⟩)
 ·exact .inr h
def Znr.tup{q:Au}{H H':Hp}(o:Znr q H H'){C:Ah}(hz:H q=some (.tbl C)){b:Au}{xs:A0}(e:H b=some (.tup xs)):H' b=some (.tup xs):=o _ _ e (X9 e hz fun z=>nomatch z)
def Zii(ys:Ai)(f:Str->Int)(w:Nat):∃ls:Aj,((List.range w).map fun k=>V.int (ltr ys f k))=ls.map Xe/\(∀l∈ls,l<2^ys.length)/\ls.length=w:=by
 have q:∀k,0<=ltr ys f k/\ltr ys f k<2^ys.length:=fun k=>xH (fun i=>Zox _ _) _;refine⟨(List.range w).map fun k=>(ltr ys f k).toNat,?_,fun l C=>?_,by rw[Qad,Qa5]⟩
 ·rw[Qb7];refine Qcn fun k _=>?_;show V.int _=V.int _;rw[Qep (q k).1]
 ·grind
def z8.tups{H':Hp}{p:Au}{q:Ax}(R:z8 H p q)(e:∀b xs,H b=some (.tup xs)->H' b=some (.tup xs)):z8 H' p q:=by
 obtain⟨as,h1,h2,C⟩:=R;refine⟨as,e _ _ h1,h2,fun i r hi=>?_⟩;obtain⟨a,D,F⟩:=C i r hi;exact⟨a,D,e _ _ F⟩
def M4.tups{H H':Hp}{m:Au}{nm:Ai}{b:Nat}{nx:Ad}{ot:Ax}(M:M4 H m nm b nx ot)(e:∀b xs,H b=some (.tup xs)->H' b=some (.tup xs)):M4 H' m nm b nx ot:=by
 obtain⟨pn,ps,C,h1,h2,D,q⟩:=M.ex;exact⟨⟨pn,ps,C,e _ _ h1,e _ _ h2,D.tups e,q.tups e⟩⟩
def zH{x:V}(C:YY l x)(D:YY l y):scal x y=true:=by
 rcases C with⟨e,a,rfl⟩|⟨e,a,rfl⟩<;>rcases D with⟨q,b,rfl⟩|⟨q,b,rfl⟩
 ·rfl
 ·rw[e]at q;cases q
 ·rw[e]at q;cases q
 ·rfl
def Znr.seq{H':Hp}{xs:A0}(e:Znr f H H')(C:∃ps,H f=some (.tbl ps))(h:SqL K H a xs):SqL K H' a xs:=by
 obtain⟨D,q⟩:=C;rcases h with(h|⟨o,h⟩)|h
 ·exact .inl (.inl (e _ _ h (X9 h q fun z=>nomatch z)))
 ·exact .inl (.inr ⟨o,e _ _ h (X9 h q fun z=>nomatch z)⟩)
 ·exact .inr h
theorem Zkm{nx:Ad}{ot:Ax}{n:Nat}(R:Runs nx ot n):∀{ls:Aj} {s:Nat},s<nx.length->(∀x∈ls,x<2^n)->stN nx s ls<nx.length
 |[],s,h,_=>h
 |c::ls,s,h,q=>by
  have G:=q c Qan;have F:=R.nr _ (getD_mem h);have D:(nx.getD s []).getD c 0∈nx.getD s []:=Qag (getD_at (by lia));exact Zkm (ls:=ls) R (R.nl _ (getD_mem h) _ D) fun x C=>q x (Qak _ C)
section
variable {nx:Nat->Nat->Nat}{ok:Nat->Nat->Bool}{k:Nat}
def Y6(nx:Nat->Nat->Nat)(ok:Nat->Nat->Bool):Nat->List Nat->Bool
 |_,[]=>false
 |s,l::[]=>ok s l
 |s,l::m::r=>Y6 nx ok (nx s l) (m::r)
def XH{s l:Nat}{r:Aj}(h:r≠[]):Y6 nx ok s (l::r)=Y6 nx ok (nx s l) r:=by
 cases r with
 |nil=>exact absurd rfl h
 |cons m r=>rfl
def RIn:Aj->List (Aj)->Prop
 |[],[]=>True
 |l::r,L::Ls=>l∈L/\RIn r Ls
 |_,_=>False
theorem RIn.len:∀{r:Aj} {Ls:Ad},RIn r Ls->r.length=Ls.length
 |[],[],_=>rfl
 |_::_,_::_,h=>congrArg (· + 1) h.2.len
 |[],_::_,h=>h.elim
 |_::_,[],h=>h.elim
def RIn.uncons{r:Aj}{L:Aj}{Ls:Ad}(h:RIn r (L::Ls)):∃l q,r=l::q/\l∈L/\RIn q Ls:=by
 cases r with
 |nil=>exact h.elim
 |cons l q=>exact⟨l,q,rfl,h.1,h.2⟩
def q8(k l:Nat):Nat:=l/2^k%2
def vm(k l:Nat):q8 k l<2:=Nat.mod_lt _ (by decide)
def chs(k b:Nat)(L:Aj):Aj:=L.filter fun l=>decide (q8 k l=b)
def Jn{b l:Nat}{L:Aj}:l∈chs k b L↔l∈L/\q8 k l=b:=by
 unfold chs;rw[Qb2,Qb0]
def valN(k:Nat):Aj->Nat
 |[]=>0
 |l::r=>q8 k l+2*valN k r
def Zfq:Aj->Nat
 |[]=>0
 |b::r=>b+2*Zfq r
def gw(nx:Nat->Nat->Nat)(ok:Nat->Nat->Bool)(W:Option (Aj))(s l:Nat):Bool:=match W with
 |none=>ok s l
 |some W=>decide (nx s l∈W)
def goB(nx:Nat->Nat->Nat)(ok:Nat->Nat->Bool)(W:Option (Aj))(S L:Aj):Aj:=S.filter fun s=>L.any fun l=>gw nx ok W s l
def vn{W:Option (Aj)}{L:Aj}{s:Nat}:s∈goB nx ok W S L↔s∈S/\∃l∈L,gw nx ok W s l=true:=by
 unfold goB;rw[Qb2,Qd5]
def cho(k:Nat):Aj->List (Aj)->List (Aj)
 |b::bs,L::Ls=>chs k b L::cho k bs Ls
 |_,_=>[]
def kY(nx:Nat->Nat->Nat)(ok:Nat->Nat->Bool)(k:Nat)(W:Option (Aj))(S L:Aj):Nat:=if goB nx ok W S (chs k 0 L)=[]then 1 else 0
def lwb(nx:Nat->Nat->Nat)(ok:Nat->Nat->Bool)(k:Nat):Ad->List (Aj)->List Nat×Option (Aj)
 |S::q,L::Ls=>(kY nx ok k (lwb nx ok k q Ls).2 S L::(lwb nx ok k q Ls).1,some (goB nx ok (lwb nx ok k q Ls).2 S (chs k (kY nx ok k (lwb nx ok k q Ls).2 S L) L)))
 |_,_=>([],none)
def wJ(nx:Nat->Nat->Nat)(S L:Aj):Aj:=(S.flatMap fun s=>L.map (nx s)).foldl Yy []
def lys(nx:Nat->Nat->Nat):Aj->List (Aj)->List (Aj)
 |_,[]=>[]
 |S,L::Ls=>S::lys nx (wJ nx S L) Ls
def GI{L:Aj}{x:Nat}:x∈wJ nx S L↔∃s∈S,∃l∈L,nx s l=x:=by
 unfold wJ;rw[xJ,List.mem_flatMap];constructor
 ·grind
 ·grind
def Zfr(W:Option (Aj))(S L:Aj):kY nx ok k W S L<=1:=by
 unfold kY;split<;>decide
theorem Zfs:∀{bs:Aj} {Ls:Ad} {r:Aj},bs.length=Ls.length->(RIn r (cho k bs Ls)↔RIn r Ls/\valN k r=Zfq bs/\∀b∈bs,b<2)\/¬∀b∈bs,b<2
 |[],[],r,_=>.inl ⟨fun h=>⟨h,by cases r with|nil=>exact⟨rfl,fun _ z=>nomatch z⟩|cons _ _=>exact h.elim⟩,fun h=>h.1⟩
 |b::bs,L::Ls,r,h=>by
  by_cases D:∀x∈b::bs,x<2
  ·refine .inl ⟨fun q=>?_,fun⟨Y,F,_⟩=>?_⟩
   ·obtain⟨l,C,rfl,h1,h2⟩:=q.uncons;obtain⟨G,J⟩:=Jn.mp h1;rcases Zfs (r:=C) (show bs.length=Ls.length by simpa using h)with z|z
    ·obtain⟨I,Z,g3⟩:=z.mp h2;exact⟨⟨G,I⟩,by show q8 k l+2*valN k C=b+2*Zfq bs;rw[J,Z],D⟩
    ·grind
   ·obtain⟨l,C,rfl,h1,h2⟩:=Y.uncons;have e:q8 k l+2*valN k C=b+2*Zfq bs:=F;have:=vm k l;have:=D b Qan;rcases Zfs (r:=C) (show bs.length=Ls.length by simpa using h)with z|z
    ·exact⟨Jn.mpr ⟨h1,by lia⟩,z.mpr ⟨h2,by lia,fun x O=>D x (Qak _ O)⟩⟩
    ·grind
  ·exact .inr D
 |[],_::_,_,h=>nomatch h
 |_::_,[],_,h=>nomatch h
theorem gL:∀(Ls:Ad) (S:Aj),(lwb nx ok k (lys nx S Ls) Ls).1.length=Ls.length/\∀b∈(lwb nx ok k (lys nx S Ls) Ls).1,b<2
 |[],_=>⟨rfl,fun _ h=>nomatch h⟩
 |L::Ls,S=>by
  obtain⟨h1,h2⟩:=gL Ls (wJ nx S L);refine⟨congrArg (· + 1) h1,fun b q=>?_⟩;rcases Qaq.mp q with rfl|q
  ·exact Nat.lt_succ_of_le (Zfr _ _ _)
  ·exact h2 b q
def gM{Ls:Ad}{r:Aj}:RIn r (cho k (lwb nx ok k (lys nx S Ls) Ls).1 Ls)↔RIn r Ls/\valN k r=Zfq (lwb nx ok k (lys nx S Ls) Ls).1:=by
 obtain⟨h1,h2⟩:=gL (nx:=nx) (ok:=ok) (k:=k) Ls S;rcases Zfs (k:=k) (r:=r) h1 with z|z
 ·grind
 ·exact absurd h2 z
structure LwOk(nx:Nat->Nat->Nat)(ok:Nat->Nat->Bool)(k:Nat)(Ls:Ad)(S:Aj)(W:Aj):Prop where
 w:(lwb nx ok k (lys nx S Ls) Ls).2=some W
 a:∀s,s∈W↔s∈S/\∃r,RIn r (cho k (lwb nx ok k (lys nx S Ls) Ls).1 Ls)/\Y6 nx ok s r=true
 b:∀s∈S,∀r,RIn r Ls->Y6 nx ok s r=true->Zfq (lwb nx ok k (lys nx S Ls) Ls).1<=valN k r
 c:(∃s∈S,∃r,RIn r Ls/\Y6 nx ok s r=true)->W≠[]
theorem Zo2:∀(Ls:Ad) (S:Aj),Ls≠[]->∃W,LwOk nx ok k Ls S W
 |[],_,h=>absurd rfl h
 |L::Ls,S,_=>by
  have key:(∀s∈S,∀l∈L,(gw nx ok (lwb nx ok k (lys nx (wJ nx S L) Ls) Ls).2 s l=true↔∃C,RIn C (cho k (lwb nx ok k (lys nx (wJ nx S L) Ls) Ls).1 Ls)/\Y6 nx ok s (l::C)=true)) /\
    (∀s∈S,∀l∈L,∀C,RIn C Ls->Y6 nx ok s (l::C)=true->Zfq (lwb nx ok k (lys nx (wJ nx S L) Ls) Ls).1<=valN k C) /\
    ((∃s∈S,∃l∈L,∃C,RIn C Ls/\Y6 nx ok s (l::C)=true)->∃s∈S,∃l∈L,gw nx ok (lwb nx ok k (lys nx (wJ nx S L) Ls) Ls).2 s l=true):=by
   cases Ls with
   |nil=>
    refine⟨fun s D l F=>⟨fun h=>⟨[],trivial,h⟩,fun⟨C,h1,h2⟩=>?_⟩,fun s D l F C _ _=>Qbp _,fun⟨s,D,l,F,C,h1,h2⟩=>⟨s,D,l,F,?_⟩⟩
    ·cases C with
     |nil=>exact h2
     |cons _ _=>exact h1.elim
    ·cases C with
     |nil=>exact h2
     |cons _ _=>exact h1.elim
   |cons L' G=>
    obtain⟨W,I⟩:=Zo2 (L'::G) (wJ nx S L) (by simp);have ne:∀{C:Aj} {M:Aj} {Ms:Ad},RIn C (M::Ms)->C≠[]:=fun{C M Ms} h z=>by rw[z]at h;exact h
    have ne2:∀{C:Aj},RIn C (cho k (lwb nx ok k (lys nx (wJ nx S L) (L'::G)) (L'::G)).1 (L'::G))->C≠[]:=fun{C} h=>ne (gM.mp h).1;refine⟨fun s D l F=>?_,fun s D l F C h1 h2=>?_,fun⟨s,D,l,F,C,h1,h2⟩=>?_⟩
    ·rw[I.w];show decide (nx s l∈W)=true↔_;rw[Qb0,I.a];constructor
     ·rintro⟨_,C,h1,h2⟩;exact⟨C,h1,by rw[XH (ne2 h1)];exact h2⟩
     ·rintro⟨C,h1,h2⟩;rw[XH (ne2 h1)]at h2;exact⟨GI.mpr ⟨s,D,l,F,rfl⟩,C,h1,h2⟩
    ·rw[XH (ne h1)]at h2;exact I.b _ (GI.mpr ⟨s,D,l,F,rfl⟩) C h1 h2
    ·rw[XH (ne h1)]at h2;have hW:=I.c ⟨_,GI.mpr ⟨s,D,l,F,rfl⟩,C,h1,h2⟩;obtain⟨x,hx⟩:=List.exists_mem_of_ne_nil _ hW;obtain⟨s0,J,O,Y,e⟩:=GI.mp ((I.a x).mp hx).1;refine⟨s0,J,O,Y,?_⟩;rw[I.w];show decide (nx s0 O∈W)=true;rw[e];exact Qal hx
  obtain⟨k1,k2,k3⟩:=key;have cl:=fun C=>gM (nx:=nx) (ok:=ok) (k:=k) (Ls:=Ls) (S:=wJ nx S L) (r:=C);generalize hT:lwb nx ok k (lys nx (wJ nx S L) Ls) Ls=T at k1 k2 k3 cl;have e:lwb nx ok k (lys nx S (L::Ls)) (L::Ls)=(kY nx ok k T.2 S L::T.1,some (goB nx ok T.2 S (chs k (kY nx ok k T.2 S L) L))):=by rw[<-hT];rfl
  refine⟨goB nx ok T.2 S (chs k (kY nx ok k T.2 S L) L),?_,?_,?_,?_⟩
  ·rw[e]
  ·intro s;rw[e,vn];constructor
   ·rintro⟨D,l,F,h⟩;obtain⟨C,h1,h2⟩:=(k1 s D l (Jn.mp F).1).mp h;exact⟨D,l::C,⟨F,h1⟩,h2⟩
   ·rintro⟨D,r,h1,h2⟩;obtain⟨l,C,rfl,F,Z⟩:=RIn.uncons h1;exact⟨D,l,F,(k1 s D l (Jn.mp F).1).mpr ⟨C,Z,h2⟩⟩
  ·intro s D r h1 h2;obtain⟨l,C,rfl,F,Z⟩:=RIn.uncons h1;rw[e];show kY nx ok k T.2 S L+2*Zfq T.1<=q8 k l+2*valN k C;have q1:=k2 s D l F C Z h2;have q2:=Zfr (nx:=nx) (ok:=ok) (k:=k) T.2 S L;rcases Qd7 (Zfq T.1) (valN k C)with q|q
   ·lia
   ·have q3:valN k C=Zfq T.1:=by lia
    have q4:=(k1 s D l F).mpr ⟨C,(cl C).mpr ⟨Z,q3⟩,h2⟩;have q5:kY nx ok k T.2 S L<=q8 k l:=by
     unfold kY;split
     ·rename_i hz;have:q8 k l≠0:=fun z=>by
       have:s∈goB nx ok T.2 S (chs k 0 L):=vn.mpr ⟨D,l,Jn.mpr ⟨F,z⟩,q4⟩;rw[hz]at this;cases this
      lia
     ·exact Qbp _
    lia
  ·rintro⟨s,D,r,h1,h2⟩ hz;obtain⟨l,C,rfl,F,Z⟩:=RIn.uncons h1;obtain⟨s0,J,O,Y,h4⟩:=k3 ⟨s,D,l,F,C,Z,h2⟩;have no:∀b,q8 k O=b->goB nx ok T.2 S (chs k b L)≠[]:=fun b hb z=>by
    have:s0∈goB nx ok T.2 S (chs k b L):=vn.mpr ⟨J,O,Jn.mpr ⟨Y,hb⟩,h4⟩;rw[z]at this;cases this
   have h01:=vm k O;unfold kY at hz;split at hz
   ·rename_i h0;exact no 1 (by have:q8 k O≠0:=fun z=>no 0 z h0;lia) hz
   ·rename_i h0;exact h0 hz
end
def itL(nx:Nat->Nat->Nat)(ok:Nat->Nat->Bool)(b:Nat)(Ls:Ad):Nat->List (Aj)
 |0=>Ls
 |k+1=>cho k (lwb nx ok k (lys nx [b] (itL nx ok b Ls k)) (itL nx ok b Ls k)).1 (itL nx ok b Ls k)
section
variable {nx:Nat->Nat->Nat}{ok:Nat->Nat->Bool}{b:Nat}{Ls:Ad}
def itB(nx:Nat->Nat->Nat)(ok:Nat->Nat->Bool)(b:Nat)(Ls:Ad)(k:Nat):Nat:=Zfq (lwb nx ok k (lys nx [b] (itL nx ok b Ls k)) (itL nx ok b Ls k)).1
def Zft{k:Nat}{r:Aj}:RIn r (itL nx ok b Ls (k+1))↔RIn r (itL nx ok b Ls k)/\valN k r=itB nx ok b Ls k:=gM
theorem GJ{r:Aj}:∀{k:Nat},RIn r (itL nx ok b Ls k)->RIn r Ls/\∀j,j<k->valN j r=itB nx ok b Ls j
 |0,h=>⟨h,fun j q=>absurd q (Qeg _)⟩
 |k+1,h=>by
  obtain⟨h1,h2⟩:=Zft.mp h;obtain⟨C,D⟩:=GJ h1;refine⟨C,fun j q=>?_⟩
  by_cases e:j=k
  ·rw[e];exact h2
  ·exact D j (by lia)
theorem Zfu(C:Ls≠[])(h:∃r,RIn r Ls/\Y6 nx ok b r=true):∀k,itL nx ok b Ls k≠[]/\(∃r,RIn r (itL nx ok b Ls k)/\Y6 nx ok b r=true) /\
  ∀r,RIn r Ls->Y6 nx ok b r=true->RIn r (itL nx ok b Ls k)\/∃j,j<k/\(∀i,i<j->valN i r=itB nx ok b Ls i)/\itB nx ok b Ls j<valN j r
 |0=>⟨C,h,fun r h1 _=>.inl h1⟩
 |k+1=>by
  obtain⟨G,⟨r0,g1,O⟩,Z⟩:=Zfu C h k;obtain⟨W,I⟩:=Zo2 (nx:=nx) (ok:=ok) (k:=k) (itL nx ok b Ls k) [b] G;have Y:=I.c ⟨b,Qat.mpr rfl,r0,g1,O⟩;obtain⟨x,hx⟩:=List.exists_mem_of_ne_nil _ Y;obtain⟨hb,F,h1,h2⟩:=(I.a x).mp hx;rw[Qat.mp hb]at h2;refine⟨fun z=>?_,⟨F,h1,h2⟩,fun r q1 D=>?_⟩
  ·have h1:RIn F (itL nx ok b Ls (k+1)):=h1;have l1:=h1.len;have l2:=(Zft.mp h1).1.len;rw[z]at l1;cases hz:itL nx ok b Ls k with
   |nil=>exact G hz
   |cons _ _=>rw[hz,l1]at l2;cases l2
  ·rcases Z r q1 D with q|⟨j,hj,q3,q4⟩
   ·have le:=I.b b (Qat.mpr rfl) r q D;rcases Qd7 (itB nx ok b Ls k) (valN k r)with J|J
    ·exact .inr ⟨k,Qdv k,(GJ q).2,J⟩
    ·have le:itB nx ok b Ls k<=valN k r:=le;exact .inl (Zft.mpr ⟨q,by lia⟩)
   ·grind
end
theorem Zij:∀{l m:Nat},l<2^n->m<2^n->(∀k,k<n->q8 k l=q8 k m)->l=m:=by
 induction n with
 |zero=>intro l m h1 h2 _;lia
 |succ n C=>
  intro l m h1 h2 h;have q:=h 0 (Nat.succ_pos _);unfold q8 at q;have:=C (l:=l/2) (m:=m/2) (by lia) (by lia) fun k D=>by
   have:=h (k+1) (by lia);unfold q8 at this ⊢;rw[Nat.pow_succ',<-Nat.div_div_eq_div_mul,<-Nat.div_div_eq_div_mul]at this;exact this
  lia
theorem Zfv{n:Nat}:∀{r t:Aj},r.length=t.length->(∀l∈r,l<2^n)->(∀l∈t,l<2^n)->(∀k,k<n->valN k r=valN k t)->r=t
 |[],[],_,_,_,_=>rfl
 |l::r,m::t,h,h1,h2,F=>by
  have D:∀k,k<n->q8 k l=q8 k m/\valN k r=valN k t:=fun k q=>by
   have e:q8 k l+2*valN k r=q8 k m+2*valN k t:=F k q;have:=vm k l;have:=vm k m;lia
  rw[Zij (h1 l Qan) (h2 m Qan) fun k q=>(D k q).1,Zfv (by simpa using h) (fun x C=>h1 x (Qak _ C)) (fun x C=>h2 x (Qak _ C)) fun k q=>(D k q).2]
 |[],_::_,h,_,_,_=>nomatch h
 |_::_,[],h,_,_,_=>nomatch h
structure xM(nx:Nat->Nat->Nat)(ok:Nat->Nat->Bool)(b n w:Nat)(r:Aj):Prop where
 len:r.length=w
 lt:∀l∈r,l<2^n
 last:Y6 nx ok b r=true
 fst:∀t:Aj,t.length=w->(∀l∈t,l<2^n)->Y6 nx ok b t=true->t=r\/∃j,j<n/\(∀i,i<j->valN i t=valN i r)/\valN j r<valN j t
theorem q9{n:Nat}:∀{w:Nat} {r:Aj},RIn r (List.replicate w (List.range n))↔r.length=w/\∀l∈r,l<n
 |0,[]=>⟨fun _=>⟨rfl,fun _ h=>nomatch h⟩,fun _=>trivial⟩
 |0,_::_=>⟨fun h=>h.elim,fun h=>nomatch h.1⟩
 |w+1,[]=>⟨fun h=>h.elim,fun h=>nomatch h.1⟩
 |w+1,l::r=>by
  show l∈List.range n/\RIn r _↔_;rw[q9,Qcp];constructor
  ·grind
  ·rintro⟨h1,h2⟩;exact⟨h2 l Qan,by simpa using h1,fun x q=>h2 x (Qak _ q)⟩
theorem kZ:∀{r:Aj} {Ls:Ad},RIn r Ls->RIn (Ls.map fun L=>L.headD 0) Ls
 |[],[],_=>trivial
 |l::r,L::Ls,h=>by
  refine⟨?_,kZ h.2⟩;cases L with
  |nil=>exact nomatch h.1
  |cons x L=>exact Qan
 |[],_::_,h=>h.elim
 |_::_,[],h=>h.elim
def Zfw{nx:Nat->Nat->Nat}{ok:Nat->Nat->Bool}{b w:Nat}(hw:0<w)(h:∃r,r.length=w/\(∀l∈r,l<2^n)/\Y6 nx ok b r=true):
  xM nx ok b n w ((itL nx ok b (List.replicate w (List.range (2^n))) n).map fun L=>L.headD 0):=by
 have D:List.replicate w (List.range (2^n))≠[]:=fun z=>by
  have:=congrArg List.length z;rw[Qbj]at this;have:w=0:=this;lia
 obtain⟨r,h1,h2,Z⟩:=h;obtain⟨_,⟨Y,F,g2⟩,J⟩:=Zfu (nx:=nx) (ok:=ok) (b:=b) D ⟨r,q9.mpr ⟨h1,h2⟩,Z⟩ n;have hh:=kZ F;obtain⟨a1,a2⟩:=GJ F;obtain⟨b1,b2⟩:=GJ hh;have q:=q9.mp a1;have G:=q9.mp b1;have e:Y=(itL nx ok b (List.replicate w (List.range (2^n))) n).map fun L=>L.headD 0:=Zfv (n:=n) (by rw[q.1,G.1]) q.2 G.2 fun k C=>by rw[a2 k C,b2 k C]
 rw[<-e];refine⟨q.1,q.2,g2,fun t I t2 t3=>?_⟩;rcases J t (q9.mpr ⟨I,t2⟩) t3 with z|⟨j,hj,z1,z2⟩
 ·obtain⟨d1,O⟩:=GJ z;exact .inl (Zfv (n:=n) (by rw[I,q.1]) t2 q.2 fun k C=>by rw[O k C,a2 k C])
 ·grind
structure RgO(R:Ad)(kk:Nat->Nat):Prop where
 e:∀i,i<=R.length->Zo0 R 0 i=List.range (kk i)
 go:∀i,i<R.length->i<kk i
 le:∀i,i<=R.length->kk i<=R.length
 z:kk 0=1
def RgO.step{R:Ad}{kk:Nat->Nat}(G:RgO R kk)(hi:i<R.length):(R.getD i []).foldl Yy (List.range (kk i))=List.range (kk (i+1)):=by
 have h:=G.e (i+1) hi;have h2:Zoz R (Zo0 R 0 i) i=List.range (kk (i+1)):=h;rw[G.e i (Qau hi)]at h2;unfold Zoz at h2;rw[show(List.range (kk i)).getD i 0=i by rw[Qap,Qdl (G.go i hi)];rfl]at h2;exact h2
def RgO.part{R:Ad}{kk:Nat->Nat}(G:RgO R kk)(hi:i<R.length)(j:Nat):∃k,((R.getD i []).take j).foldl Yy (List.range (kk i))=List.range k/\kk i<=k/\k<=kk (i+1):=by
 have h:=G.step hi;have e:(R.getD i []).foldl Yy (List.range (kk i))=((R.getD i []).drop j).foldl Yy (((R.getD i []).take j).foldl Yy (List.range (kk i))):=by rw[<-Qc8,Qbz]
 obtain⟨r,e2⟩:=Gy ((R.getD i []).drop j) (((R.getD i []).take j).foldl Yy (List.range (kk i)));obtain⟨D,e3⟩:=Gy ((R.getD i []).take j) (List.range (kk i));rw[e,e2]at h;have q:=congrArg List.length e3;have C:=congrArg List.length h;rw[Qaf,Qa5]at q;rw[Qaf,Qa5]at C;refine⟨(((R.getD i []).take j).foldl Yy (List.range (kk i))).length,?_,by lia,by lia⟩;have:=congrArg (List.take (((R.getD i []).take j).foldl Yy (List.range (kk i))).length) h;rw[List.take_left,List.take_range,Qef (by lia)]at this;exact this
def RgO.more{R:Ad}{kk:Nat->Nat}(G:RgO R kk)(hi:i<R.length){j k t:Nat}(C:(R.getD i [])[j]?=some t)(F:((R.getD i []).take j).foldl Yy (List.range (kk i))=List.range k):
  (t<k/\((R.getD i []).take (j+1)).foldl Yy (List.range (kk i))=List.range k)\/(t=k/\((R.getD i []).take (j+1)).foldl Yy (List.range (kk i))=List.range (k+1)):=by
 have e:((R.getD i []).take (j+1)).foldl Yy (List.range (kk i))=Yy (List.range k) t:=by rw[take_snoc C,Qc8,F];rfl
 rcases Qd7 t k with h|h
 ·exact .inl ⟨h,by rw[e];exact Qba (Qcp.mpr h)⟩
 ·have e1:Yy (List.range k) t=List.range k++[t]:=Qa4 fun z=>absurd (Qcp.mp z) (by lia)
  obtain⟨D,e2,_,_⟩:=G.part hi (j+1);rw[e,e1]at e2;have q:=congrArg List.length e2;rw[Qaf,Qa5,Qa5]at q;have q:k+1=D:=q;subst q;rw[Qd1]at e2;have:=(List.append_inj e2 rfl).2;injection this with this;exact .inr ⟨this,by rw[e,e1,this,Qd1]⟩
def dwN(kk:Nat->Nat):Nat->List Nat
 |0=>[1]
 |i+1=>dwN kk i++List.replicate (kk (i+1)-kk i) ((dwN kk i).getD i 0+1)
section
variable {R:Ad}{kk:Nat->Nat}
theorem qA(G:RgO R kk):∀i,i<=R.length->(dwN kk i).length=kk i
 |0,_=>G.z.symm
 |i+1,h=>by
  have q:=qA G i (by lia);obtain⟨k,_,h1,h2⟩:=G.part (show i<R.length from h) 0;show(dwN kk i++_).length=_;rw[Qaf,Qbj,q];lia
def W5{t:Nat}(h:t<(dwN kk i).length):(dwN kk (i+1)).getD t 0=(dwN kk i).getD t 0:=by
 show(dwN kk i++_).getD t 0=_;rw[Qap,Qbc h,Qap]
def vo{t:Nat}(h:(dwN kk i).length<=t)(h2:t<(dwN kk (i+1)).length):(dwN kk (i+1)).getD t 0=(dwN kk i).getD i 0+1:=by
 have h2:t<(dwN kk i++List.replicate (kk (i+1)-kk i) ((dwN kk i).getD i 0+1)).length:=h2;rw[Qaf,Qbj]at h2;show(dwN kk i++_).getD t 0=_;rw[Qap,Qa2 h,List.getElem?_replicate,Qba (by lia)];rfl
theorem Zaw{i:Nat}:∀(d:Nat) {t:Nat},t<(dwN kk i).length->(dwN kk (i+d)).getD t 0=(dwN kk i).getD t 0/\t<(dwN kk (i+d)).length
 |0,t,h=>⟨rfl,h⟩
 |d+1,t,h=>by
  obtain⟨h1,h2⟩:=Zaw d h;refine⟨by rw[<-h1];exact W5 h2,?_⟩;show t<(dwN kk (i+d)++_).length;rw[Qaf];lia
structure DwOk(R:Ad)(kk:Nat->Nat)(L i:Nat):Prop where
 mono:∀t t',t<=t'->t'<(dwN kk i).length->(dwN kk i).getD t 0<=(dwN kk i).getD t' 0
 top:∀j,j<i->∀t,t<(dwN kk i).length->(j+1=i->(dwN kk i).getD t 0<=(dwN kk i).getD j 0+1)
 way:∀t,t<(dwN kk i).length->∃ls:Aj,ls.length+1=(dwN kk i).getD t 0/\(∀x∈ls,x<L)/\stN R 0 ls=t
 edge:∀j,j<i->∀t∈R.getD j [],t<(dwN kk i).length/\(dwN kk i).getD t 0<=(dwN kk i).getD j 0+1
theorem Zo3(G:RgO R kk){L:Nat}(hr:∀r∈R,r.length=L):∀i,i<=R.length->DwOk R kk L i
 |0,_=>by
  have one:∀t,t<(dwN kk 0).length->t=0:=fun t h=>Nat.lt_one_iff.mp h;refine⟨fun t t' h h'=>?_,fun j O=>absurd O (Qeg _),fun t h=>⟨[],?_,(fun _ z=>nomatch z),?_⟩,fun j O=>absurd O (Qeg _)⟩
  ·rw[one t (by lia),one t' h'];exact Qah _
  ·rw[one t h];rfl
  ·rw[one t h];rfl
 |i+1,h=>by
  have I:=Zo3 G hr i (by lia);have hl:=qA G i (by lia);have hl2:=qA G (i+1) h;have hi:i<R.length:=h;have F:i<(dwN kk i).length:=by rw[hl];exact G.go i hi
  have all:∀t,t<(dwN kk i).length->(dwN kk i).getD t 0<=(dwN kk i).getD i 0+1:=fun t C=>by
   cases i with
   |zero=>
    have h1:t<1:=C;have:t=0:=by lia
    rw[this];exact Qd0 _
   |succ j=>
    have h1:=I.top j (Qdv j) t C rfl;have h2:=I.mono j (j+1) (Qd0 _) F;lia
  have vi:(dwN kk (i+1)).getD i 0=(dwN kk i).getD i 0:=W5 F;have bd:∀t,t<(dwN kk (i+1)).length->(dwN kk (i+1)).getD t 0<=(dwN kk i).getD i 0+1:=fun t C=>by
   rcases Qd7 t (dwN kk i).length with q|q
   ·rw[W5 q];exact all t q
   ·rw[vo q C];exact Qah _
  refine⟨fun t t' htt Z=>?_,fun j O t C e=>?_,fun t C=>?_,fun j O t C=>?_⟩
  ·rcases Qd7 t' (dwN kk i).length with q|q
   ·rw[W5 q,W5 (by lia)];exact I.mono t t' htt q
   ·rw[vo q Z];exact bd t (by lia)
  ·have:j=i:=by lia
   rw[this,vi];exact bd t C
  ·rcases Qd7 t (dwN kk i).length with q|q
   ·rw[W5 q];exact I.way t q
   ·rw[vo q C];obtain⟨ls,h1,h2,Y⟩:=I.way i F;have D:t∈(R.getD i []).foldl Yy (List.range (kk i)):=by rw[G.step hi];exact Qcp.mpr (by lia)
    rcases(xJ _ _).mp D with z|z
    ·exact absurd (Qcp.mp z) (by lia)
    ·obtain⟨c,hc⟩:=Qcg z;refine⟨ls++[c],by rw[Qaf,<-h1];rfl,fun x hx=>?_,?_⟩
     ·grind
     ·rw[X7,Y,Qap (l:=R.getD i []),hc];rfl
  ·by_cases e:j=i
   ·rw[e]at C ⊢;have D:t∈(R.getD i []).foldl Yy (List.range (kk i)):=(xJ _ _).mpr (.inr C);rw[G.step hi]at D;have J:t<(dwN kk (i+1)).length:=by rw[hl2];exact Qcp.mp D
    exact⟨J,by rw[vi];exact bd t J⟩
   ·obtain⟨h1,h2⟩:=I.edge j (by lia) t C;have Y:(dwN kk (i+1)).getD j 0=(dwN kk i).getD j 0:=W5 (by lia);rw[W5 h1,Y];refine⟨?_,h2⟩;show t<(dwN kk i++_).length;rw[Qaf];lia
theorem gN(G:RgO R kk){L:Nat}(hr:∀r∈R,r.length=L){ok:Nat->Nat->Bool}{c:Nat}(hi:i<R.length)(hc:c<L)(ht:ok i c=true)(hno:∀j,j<i->∀c,c<L->ok j c=false):
  1<=(dwN kk i).getD i 0/\(∃ls:Aj,ls.length+1=(dwN kk i).getD i 0/\(∀x∈ls,x<L)/\ok (stN R 0 ls) c=true)/\∀(ls:Aj) (d:Nat),(∀x∈ls,x<L)->d<L->ok (stN R 0 ls) d=true->(dwN kk i).getD i 0<=ls.length+1:=by
 have D:=Zo3 G hr i (Qau hi);have Z:=qA G i (Qau hi);have F:i<(dwN kk i).length:=by rw[Z];exact G.go i hi
 obtain⟨ls,h1,h2,h3⟩:=D.way i F;refine⟨by lia,⟨ls,h1,h2,by rw[h3];exact ht⟩,fun ls d Y hd hok=>?_⟩;have hge:i<=stN R 0 ls:=by
  grind
 have key:∀n,n<=ls.length->(∃m,m<=n/\i<=stN R 0 (ls.take m)/\(dwN kk i).getD i 0<=m+1)\/(stN R 0 (ls.take n)<i/\(dwN kk i).getD (stN R 0 (ls.take n)) 0<=n+1):=by
  intro n
  induction n with
  |zero=>
   intro _;rcases Nat.eq_zero_or_pos i with q|q
   ·refine .inl ⟨0,Qah _,by lia,?_⟩;rw[q];exact Qah _
   ·refine .inr ⟨q,?_⟩;have h:=Zaw (kk:=kk) (i:=0) i (t:=0) Nat.one_pos;rw[Nat.zero_add]at h;show(dwN kk i).getD 0 0<=1;rw[h.1];exact Qah _
  |succ n O=>
   intro hn;rcases O (by lia)with⟨m,hm,I,J⟩|⟨I,J⟩
   ·exact .inl ⟨m,by lia,I,J⟩
   ·have hx:ls[n]?=some (ls.getD n 0):=getD_at (by lia);have e:stN R 0 (ls.take (n+1))=(R.getD (stN R 0 (ls.take n)) []).getD (ls.getD n 0) 0:=by rw[take_snoc hx,X7]
    have C:stN R 0 (ls.take (n+1))∈R.getD (stN R 0 (ls.take n)) []:=by
     grind
    obtain⟨g1,g2⟩:=D.edge _ I _ C;rcases Qd7 (stN R 0 (ls.take (n+1))) i with q|q
    ·exact .inr ⟨q,by lia⟩
    ·exact .inl ⟨n+1,Qah _,q,by have:=D.mono i _ q g1;lia⟩
 rcases key ls.length (Qah _)with⟨m,hm,_,q⟩|⟨q,_⟩
 ·lia
 ·rw[Qbf]at q;lia
end
def dwK(vs:Aj):Ay:=(List.range vs.length).map fun t:Nat=>((Sum.inl (t:Int):Key),V.int ((vs.getD t 0:Nat):Int))
def Zm3(vs:Aj):(dwK vs).length=vs.length:=by unfold dwK;rw[Qad,Qa5]
def Zik(vs:Aj)(x:Nat):dwK (vs++[x])=dwK vs++[(Sum.inl (vs.length:Int),V.int (x:Int))]:=by
 unfold dwK;rw[Qaf,show[x].length=1 from rfl,Qd1,Qbd];refine congr (congrArg _ (Qcn fun t q=>?_)) ?_
 ·grind
 ·grind
theorem vp(f:Nat->V)(t:Nat):∀n,Yd ((List.range n).map fun t:Nat=>((Sum.inl (t:Int):Key),f t)) (.inl (t:Int))=if t<n then some (f t)else none
 |0=>rfl
 |n+1=>by
  have C:=vp f t n;have q:=vp f n n;rw[Qa4 (Qb4 _)]at q;rw[Qd1,Qbd];show Yd (_++[((Sum.inl (n:Int):Key),f n)]) _=_;rw[xW _ _ _ _ q,C]
  by_cases e:t=n
  ·grind
  ·grind
def zI(vs:Aj)(t:Nat):Yd (dwK vs) (.inl (t:Int))=if t<vs.length then some (.int ((vs.getD t 0:Nat):Int))else none:=vp (fun t=>V.int ((vs.getD t 0:Nat):Int)) t vs.length
def Zm4(vs:Aj)(x:Nat):putK (dwK vs) (.inl (vs.length:Int)) (.int (x:Int))=dwK (vs++[x]):=by
 rw[uM _ (by rw[zI,Qa4 (Qb4 _)]),Zik]
def rgO_of[DecidableEq m]{nx:m->List m}{b:m}{l:List m}(B:BfE nx b l):RgO (rnG nx l) fun i=>(bfN nx b i).length:=by
 have D:=Y8 nx l;refine⟨fun i hi=>?_,fun i hi=>B.go i (by rw[<-D];exact hi),fun i hi=>?_,rfl⟩
 ·rw[D]at hi;rw[Zkl B i hi];have C:∃r,l=bfN nx b i++r:=by
   obtain⟨r,e⟩:=yj (nx:=nx) (b:=b) i (l.length-i);rw[show i+(l.length-i)=l.length by lia,<-B.e]at e;exact⟨r,e⟩
  obtain⟨r,e⟩:=C;refine Qeh fun j=>?_
  by_cases q:j<(bfN nx b i).length
  ·rw[Qam,Qac q,Qdl q];refine congrArg some (JK B.nodup ?_);rw[e,Qbc q,Qac q]
  ·grind
 ·obtain⟨r,e⟩:=yj (nx:=nx) (b:=b) i (l.length-i);rw[show i+(l.length-i)=l.length by lia,<-B.e]at e;have:=congrArg List.length e;rw[Qaf]at this;lia
def mN(R:Ad)(s c:Nat):Nat:=(R.getD s []).getD c 0
def mB(O:Ax)(v:V)(s c:Nat):Bool:=decide ((O.getD s []).getD c .non=v)
theorem Xo(R:Ad)(ok:Nat->Nat->Bool):∀(ls:Aj) (s c:Nat),Y6 (mN R) ok s (ls++[c])=ok (stN R s ls) c
 |[],_,_=>rfl
 |l::ls,s,c=>by
  rw[Qfw,XH (by simp)];exact Xo R ok ls _ c
theorem Zo4{R:Ad}{kk:Nat->Nat}(G:RgO R kk):∀i,i<=R.length->∀t,(dwN kk i).getD t 0<=t+1
 |0,_,0=>Qah _
 |0,_,t+1=>Qbp _
 |i+1,h,t=>by
  have D:=Zo4 G i (by lia);rcases Qd7 t (dwN kk i).length with q|q
  ·rw[W5 q];exact D t
  ·rcases Qd7 t (dwN kk (i+1)).length with C|C
   ·rw[vo q C];have:=D i;have:=G.go i h;rw[qA G i (by lia)]at q;lia
   ·grind
theorem Zfx:∀bs:List Bool,inV (.bl true) (bs.map V.bl)=decide (true∈bs)
 |[]=>rfl
 |b::bs=>by
  show(eqV (.bl b) (.bl true)||inV (.bl true) (bs.map V.bl))=_;rw[Zfx bs];cases b
  ·simp[eqV]
  ·simp[eqV]
def ixG_lt[DecidableEq m]{l:List m}{x:m}(h:x∈l):ixG l x<l.length:=Qez h
def Zkn[DecidableEq m]{l:List m}{x:m}(h:x∈l):l[ixG l x]?=some x:=zG h
def pN(nx1 nx2:Ad)(k:Ak):List (Ak):=(wI (nx1.getD (k.getD 0 0).toNat []) (nx2.getD (k.getD 1 0).toNat [])).map fun p=>[p.1,p.2]
def pO(ot1 ot2:Ax)(k:Ak):A0:=(((ot1.getD (k.getD 0 0).toNat []).zip (ot2.getD (k.getD 1 0).toNat [])).map fun q=>!decide (q.1=q.2)).map V.bl
def pK(i j:Nat):Ak:=[(i:Int),(j:Int)]
def pU(q C:Nat):List (Ak):=(List.range q).flatMap fun i=>(List.range C).map fun j=>pK i j
def JL{k:Ak}:k∈pU n M↔∃i j,i<n/\j<M/\k=pK i j:=by
 unfold pU;constructor
 ·grind
 ·grind
def Zko(q C:Nat):(pU q C).length=q*C:=by
 unfold pU;rw[List.length_flatMap];have:((List.range q).map fun i=>((List.range C).map fun j=>pK i j).length)=List.replicate q C:=by
  refine Qeh fun i=>?_
  by_cases h:i<q
  ·grind
  ·grind
 rw[this,List.sum_replicate_nat]
section
variable {nx1 nx2:Ad}{ot1 ot2:Ax}{n:Nat}
def Zax(q:Runs nx1 ot1 n)(R2:Runs nx2 ot2 n){j:Nat}(hi:i<nx1.length)(C:j<nx2.length):(pN nx1 nx2 (pK i j)).length=2^n:=by
 have h1:=q.nr _ (getD_mem hi);have h2:=R2.nr _ (getD_mem C);show(List.map _ (wI (nx1.getD ((i:Int)).toNat []) (nx2.getD ((j:Int)).toNat []))).length=_;rw[Qav,Qav];unfold wI;rw[Qad,Qad,Qcj,h1,h2,Nat.min_self]
def Zm5(C:Runs nx1 ot1 n)(R2:Runs nx2 ot2 n){j c:Nat}(hi:i<nx1.length)(D:j<nx2.length)(F:c<2^n):(pN nx1 nx2 (pK i j))[c]?=some (pK ((nx1.getD i []).getD c 0) ((nx2.getD j []).getD c 0)):=by
 have h1:=C.nr _ (getD_mem hi);have h2:=R2.nr _ (getD_mem D);show(List.map _ (wI (nx1.getD ((i:Int)).toNat []) (nx2.getD ((j:Int)).toNat [])))[c]?=_;rw[Qav,Qav];unfold wI;have q:((nx1.getD i []).zip (nx2.getD j []))[c]?=some ((nx1.getD i []).getD c 0,(nx2.getD j []).getD c 0):=Qcq.mpr ⟨getD_at (by lia),getD_at (by lia)⟩;rw[Qam,Qam,q];rfl
def Zm6(q:Runs nx1 ot1 n)(R2:Runs nx2 ot2 n){k:Ak}(G:k∈pU nx1.length nx2.length):∀x∈pN nx1 nx2 k,x∈pU nx1.length nx2.length:=by
 obtain⟨i,j,hi,C,rfl⟩:=JL.mp G;intro x F;obtain⟨c,D⟩:=Qcg F;have I:c<2^n:=by
  have:=(Qai.mp D).1;rw[Zax q R2 hi C]at this;exact this
 rw[Zm5 q R2 hi C I]at D;have h1:=q.nr _ (getD_mem hi);have h2:=R2.nr _ (getD_mem C);exact JL.mpr ⟨_,_,q.nl _ (getD_mem hi) _ (Qag (getD_at (d:=0) (by lia))),R2.nl _ (getD_mem C) _ (Qag (getD_at (d:=0) (by lia))),(Option.some.inj D).symm⟩
def pO_at(C:Runs nx1 ot1 n)(R2:Runs nx2 ot2 n){j c:Nat}(hi:i<nx1.length)(D:j<nx2.length)(F:c<2^n):(pO ot1 ot2 (pK i j))[c]?=some (V.bl (!decide ((ot1.getD i []).getD c .non=(ot2.getD j []).getD c .non))):=by
 have h1:=C.or _ (getD_mem (show i<ot1.length by rw[C.ol];exact hi));have h2:=R2.or _ (getD_mem (show j<ot2.length by rw[R2.ol];exact D));show(List.map _ (List.map _ ((ot1.getD ((i:Int)).toNat []).zip (ot2.getD ((j:Int)).toNat []))))[c]?=_;rw[Qav,Qav];have q:((ot1.getD i []).zip (ot2.getD j []))[c]?=some ((ot1.getD i []).getD c .non,(ot2.getD j []).getD c .non):=Qcq.mpr ⟨getD_at (by lia),getD_at (by lia)⟩;rw[Qam,Qam,q];rfl
def Zkp(q:Runs nx1 ot1 n)(R2:Runs nx2 ot2 n){j:Nat}(hi:i<nx1.length)(C:j<nx2.length):(pO ot1 ot2 (pK i j)).length=2^n:=by
 have h1:=q.or _ (getD_mem (show i<ot1.length by rw[q.ol];exact hi));have h2:=R2.or _ (getD_mem (show j<ot2.length by rw[R2.ol];exact C));show(List.map _ (List.map _ ((ot1.getD ((i:Int)).toNat []).zip (ot2.getD ((j:Int)).toNat [])))).length=_;rw[Qav,Qav,Qad,Qad,Qcj,h1,h2,Nat.min_self]
theorem Zkq{b1 b2:Nat}(G:Runs nx1 ot1 n)(R2:Runs nx2 ot2 n)(q:b1<nx1.length)(C:b2<nx2.length){l:List (Ak)}(B:BfE (pN nx1 nx2) (pK b1 b2) l):∀k∈l,k∈pU nx1.length nx2.length:=fun k D=>by
 rw[B.e]at D;exact gG (JL.mpr ⟨b1,b2,q,C,rfl⟩) (fun s I x F=>Zm6 G R2 I x F) _ k D
theorem Zfy{b1 b2:Nat}(q:Runs nx1 ot1 n)(R2:Runs nx2 ot2 n)(I:b1<nx1.length)(D:b2<nx2.length){l:List (Ak)}(B:BfE (pN nx1 nx2) (pK b1 b2) l):∀{ls:Aj},(∀x∈ls,x<2^n)->pK (stN nx1 b1 ls) (stN nx2 b2 ls)∈l/\stN (rnG (pN nx1 nx2) l) 0 ls=ixG l (pK (stN nx1 b1 ls) (stN nx2 b2 ls))/\stN nx1 b1 ls<nx1.length/\stN nx2 b2 ls<nx2.length:=by
 intro ls;generalize hn:ls.length=m
 induction m generalizing ls with
 |zero=>
  intro _;rw[Qb9 hn];exact⟨B.begin.2,B.zero.symm,I,D⟩
 |succ m ih=>
  intro h;obtain⟨J,c,rfl⟩:∃J c,ls=J++[c]:=⟨ls.dropLast,ls.getLast (fun z=>by rw[z]at hn;cases hn),(Qf9 _).symm⟩;have F:J.length=m:=by grind
  obtain⟨Y,Z,C,O⟩:=ih F fun x G=>h x (Qb3 _ G);have hc:=h c (Qaz _ (Qat.mpr rfl));have e:=Zm5 q R2 C O hc;have nx:=B.next Y (Qag e);have h1:=q.nr _ (getD_mem C);have h2:=R2.nr _ (getD_mem O);rw[X7,X7,X7,Z];refine⟨nx,?_,q.nl _ (getD_mem C) _ (Qag (getD_at (d:=0) (by lia))),R2.nl _ (getD_mem O) _ (Qag (getD_at (d:=0) (by lia)))⟩;rw[Zfm (fun s hs x G=>B.next hs G) Y,Qap,Qam,e]
  rfl
def Zfz{b1 b2:Nat}(D:Runs nx1 ot1 n)(R2:Runs nx2 ot2 n)(C:b1<nx1.length)(q:b2<nx2.length){l:List (Ak)}(B:BfE (pN nx1 nx2) (pK b1 b2) l){ls:Aj}{c:Nat}(h:∀x∈ls++[c],x<2^n):
  Y6 (mN (rnG (pN nx1 nx2) l)) (mB (l.map (pO ot1 ot2)) (.bl true)) 0 (ls++[c])=decide ((ot1.getD (stN nx1 b1 ls) []).getD c .non≠(ot2.getD (stN nx2 b2 ls) []).getD c .non):=by
 rw[Xo];obtain⟨J,I,F,Y⟩:=Zfy D R2 C q B (ls:=ls) fun x O=>h x (Qb3 _ O);have G:=h c (Qaz _ (Qat.mpr rfl));unfold mB;rw[I,Qap (l:=l.map (pO ot1 ot2)),Qam,Zkn J];show decide ((pO ot1 ot2 (pK (stN nx1 b1 ls) (stN nx2 b2 ls))).getD c .non=.bl true)=_;rw[Qap,pO_at D R2 F Y G];generalize (ot1.getD (stN nx1 b1 ls) []).getD c .non=x;generalize (ot2.getD (stN nx2 b2 ls) []).getD c .non=y
 by_cases z:x=y
 ·grind
 ·grind
def Zil{b1 b2:Nat}(F:Runs nx1 ot1 n)(R2:Runs nx2 ot2 n)(J:b1<nx1.length)(I:b2<nx2.length){l:List (Ak)}(B:BfE (pN nx1 nx2) (pK b1 b2) l):Runs (rnG (pN nx1 nx2) l) (l.map (pO ot1 ot2)) n:=by
 have q:=Zkq F R2 J I B;have hpos:0<l.length:=Qd3 B.begin.2;refine⟨by rw[Y8];exact hpos,by rw[Y8,Qad],fun r C=>?_,fun r C x Y=>?_,fun r C=>?_⟩
 ·obtain⟨k,D,rfl⟩:=Qay.mp C;obtain⟨i,j,hi,G,rfl⟩:=JL.mp (q k D);rw[Qad,Zax F R2 hi G]
 ·obtain⟨k,D,rfl⟩:=Qay.mp C;obtain⟨y,O,rfl⟩:=Qay.mp Y;rw[Y8];exact ixG_lt (B.next D O)
 ·obtain⟨k,D,rfl⟩:=Qay.mp C;obtain⟨i,j,hi,G,rfl⟩:=JL.mp (q k D);exact Zkp F R2 hi G
end
def twK(l:Aj):Ay:=l.map fun s:Nat=>((Sum.inl (s:Int):Key),V.bl true)
theorem vq(s:Nat):∀l:Aj,(Yd (twK l) (.inl (s:Int))).isSome=decide (s∈l)
 |[]=>rfl
 |x::l=>by
  show(Yd ((Sum.inl (x:Int),V.bl true)::twK l) _).isSome=_
  by_cases e:x=s
  ·subst e;rw[Ym rfl];exact(Qal Qan).symm
  ·rw[Ye (fun z=>e (by grind)),vq s l];exact Qg9.mpr ⟨fun h=>Qak _ h,fun h=>(Qaq.mp h).elim (fun z=>absurd z.symm e) id⟩
def Zf0(l:Aj)(s:Nat):putK (twK l) (.inl (s:Int)) (.bl true)=twK (Yy l s):=by
 by_cases h:s∈l
 ·have e:Yy l s=l:=Qba h;rw[e];unfold putK;have C:(Yd (twK l) (.inl (s:Int))).isSome=true:=by rw[vq];exact Qal h
  rw[Qba (by rw[Wu];exact C)];refine Qeh fun i=>?_;unfold twK;rw[Qam,Qam];cases l[i]? with
  |none=>rfl
  |some x=>
   show some (if(Sum.inl (x:Int):Key)=.inl (s:Int)then((Sum.inl (x:Int):Key),V.bl true)else(Sum.inl (x:Int),V.bl true))=_;split<;>rfl
 ·have e:Yy l s=l++[s]:=Qa4 h;rw[e,uM _ (by
   have:=vq s l;rw[Qaj h]at this;cases q:Yd (twK l) (.inl (s:Int))with
   |none=>rfl
   |some y=>rw[q]at this;cases this)]
  unfold twK;rw[Qbd];rfl
def zJ(l:Aj):(twK l).length=l.length:=Qad _
def yq(H:Hp)(q:V)(W:Option (Aj)):Prop:=(W=none/\q=.non)\/∃d l,W=some l/\q=.ref d/\Rd H d (.dK (twK l))
def SmF(H H':Hp):Prop:=∀b o,H b=some o->H' b=some o\/∃kvs u,o=.dK kvs/\H' b=some (.frz u (.dK kvs))
def SmF.refl(H:Hp):SmF H H:=fun _ _ e=>.inl e
def SmF.of{H':Hp}(s:Z8 H H'):SmF H H':=fun b o e=>.inl (s b o e)
def SmF.at{H':Hp}(s:SmF H H'){b:Au}{o:HO}(e:H b=some o)(h:∀kvs,o≠.dK kvs):H' b=some o:=by
 rcases s b o e with z|⟨kvs,u,z,_⟩
 ·exact z
 ·exact absurd z (h kvs)
def SmF.tup{H H':Hp}(s:SmF H H'){b:Au}{xs:A0}(e:H b=some (.tup xs)):H' b=some (.tup xs):=s.at e fun _ z=>nomatch z
def SmF.lst{H H':Hp}(s:SmF H H'){b:Au}{xs:A0}(e:H b=some (.lst xs)):H' b=some (.lst xs):=s.at e fun _ z=>nomatch z
theorem SmF.trans{H2:Hp}(s:SmF H h)(t:SmF h H2):SmF H H2:=fun b o e=>by
 rcases s b o e with z|⟨kvs,u,rfl,z⟩
 ·exact t b o z
 ·exact .inr ⟨kvs,u,rfl,t.at z fun _ q=>nomatch q⟩
def SmF.rd{H':Hp}(s:SmF H H'){d:Au}{kvs:Ay}(h:Rd H d (.dK kvs)):Rd H' d (.dK kvs):=by
 rcases h with h|⟨u,h⟩
 ·rcases s d _ h with z|⟨C,u,z,e⟩
  ·exact .inl z
  ·cases z;exact .inr ⟨u,e⟩
 ·exact .inr ⟨u,s.at h fun _ q=>nomatch q⟩
def SmF.well{H':Hp}(s:SmF H H'){W:Option (Aj)}(h:yq H y W):yq H' y W:=by
 rcases h with h|⟨d,l,h1,h2,q⟩
 ·exact .inl h
 ·exact .inr ⟨d,l,h1,h2,s.rd q⟩
def SmF.free{H':Hp}(s:SmF H H'){p:Au}(h:H' p=none):H p=none:=by
 cases e:H p with
 |none=>rfl
 |some o=>
  rcases s p o e with z|⟨_,_,_,z⟩
  ·rw[h]at z;cases z
  ·rw[h]at z;cases z
theorem SmF.frz{H:Hp}{a:Au}{kvs:Ay}{u:Obj}(h:Rd H a (.dK kvs))(D:∀o,H a=some (.frz o (.dK kvs))->o=u):SmF H (upd H a (.frz u (.dK kvs))):=fun b o e=>by
 by_cases q:b=a
 ·subst q;rcases h with h|⟨C,h⟩
  ·rw[h]at e;cases e;exact .inr ⟨kvs,u,rfl,Za⟩
  ·rw[h]at e;cases e;rw[D C h];exact .inl Za
 ·exact .inl (by rw[Zk q];exact e)
theorem SmF.put{H':Hp}(s:SmF H H'){p:Au}(q:H p=none){o:HO}:SmF H (upd H' p o):=fun b u e=>by
 rcases s b u e with z|⟨kvs,w,C,z⟩
 ·exact .inl (by rw[Zk (Zm e q)];exact z)
 ·exact .inr ⟨kvs,w,C,by rw[Zk (Zm e q)];exact z⟩
def M4.smf{H':Hp}{m:Au}{b:Nat}{nx:Ad}{ot:Ax}(M:M4 H m N b nx ot)(s:SmF H H'):M4 H' m N b nx ot:=M.tups fun b xs e=>s.tup e
def gO{r:Aj}{c:Nat}(h:c<r.length):(z9 r)[c]?=some (Xe (r.getD c 0)):=by
 unfold z9;rw[Qam,getD_at (d:=0) h];rfl
def wa(H:Hp)(p:Au)(Ls:Ad):Prop:=∃as:A0,H p=some (.lst as)/\as.length=Ls.length/\∀(i:Nat) (L:Aj),Ls[i]?=some L->∃a,as[i]?=some (V.ref a)/\H a=some (.tup (L.map Xe))
def wa.smf{H':Hp}{p:Au}{Ls:Ad}(h:wa H p Ls)(s:SmF H H'):wa H' p Ls:=by
 obtain⟨as,h1,h2,q⟩:=h;refine⟨as,s.lst h1,h2,fun i L hi=>?_⟩;obtain⟨a,C,D⟩:=q i L hi;exact⟨a,C,s.tup D⟩
def Zgs(H:Hp)(p:Au)(q:Ad):Prop:=∃as:A0,H p=some (.lst as)/\as.length=q.length/\∀(i:Nat) (S:Aj),q[i]?=some S->∃a,as[i]?=some (V.ref a)/\Rd H a (.dK (twK S))
def Zgs.smf{H':Hp}{p:Au}{q:Ad}(h:Zgs H p q)(s:SmF H H'):Zgs H' p q:=by
 obtain⟨as,h1,h2,C⟩:=h;refine⟨as,s.lst h1,h2,fun i L hi=>?_⟩;obtain⟨a,D,F⟩:=C i L hi;exact⟨a,D,s.rd F⟩
def Zo5(q b:Nat):V->Bool
 |.int z=>decide (q8 q z.toNat=b)
 |_=>false
theorem zK(q b:Nat):∀L:Aj,(L.map Xe).filter (Zo5 q b)=(chs q b L).map Xe
 |[]=>rfl
 |l::L=>by
  have C:=zK q b L;have e:Zo5 q b (Xe l)=decide (q8 q l=b):=by
   show decide (q8 q (l:Int).toNat=b)=_;rw[Qav]
  unfold chs at C ⊢
  by_cases h:q8 q l=b
  ·grind
  ·grind
def bit_of(l q b:Nat):decide (V.int (Builtin.bitAnd ((l:Int)/2^((q:Int)).toNat) 1)=V.int (b:Int))=Zo5 q b (Xe l):=by
 show _=decide (q8 q (l:Int).toNat=b);rw[and_1,Qav,Qav];have e:(l:Int)/2^q%2=((q8 q l:Nat):Int):=by
  rfl
 rw[e];exact Qg9.mpr ⟨fun z=>by grind,fun z=>by rw[z]⟩
def Zim{nx:Nat->Nat->Nat}{ok:Nat->Nat->Bool}{W:Option (Aj)}{L:Aj}{s:Nat}(q:S[i]?=some s):goB nx ok W (S.take (i+1)) L=goB nx ok W (S.take i) L++if L.any (gw nx ok W s)=true then[s]else[]:=by
 unfold goB;rw[take_snoc q,Qdd,Qcw];rfl
def Zm7{nx:Nat->Nat->Nat}{ok:Nat->Nat->Bool}{W:Option (Aj)}{L:Aj}{s:Nat}(C:S.Nodup)(q:S[i]?=some s):s∉goB nx ok W (S.take i) L:=fun h=>by
 have h:=(vn.mp h).1;have D:=(Qai.mp q).1;have:(S.take i++S.drop i).Nodup:=by rw[Qbz];exact C
 refine(Qe6.mp this).2.2 s h s ?_ rfl;rw[Qby D,(Qai.mp q).2];exact Qan
def Zm8{nx:Nat->Nat->Nat}{ok:Nat->Nat->Bool}{W:Option (Aj)}{L:Aj}:(goB nx ok W S L).length<=S.length:=Qc9 _ _
theorem gP{nx:Nat->Nat->Nat}:∀(Ls:Ad) (S:Aj),(lys nx S Ls).length=Ls.length
 |[],_=>rfl
 |L::Ls,S=>congrArg (· + 1) (gP Ls (wJ nx S L))
theorem Zay{nx:Nat->Nat->Nat}:∀{Ls:Ad} {S q L:Aj} {i:Nat},(lys nx S Ls)[i]?=some q->Ls[i]?=some L->i+1<Ls.length->(lys nx S Ls)[i+1]?=some (wJ nx q L)
 |[],_,_,_,_,h,_,_=>nomatch h
 |[_],_,_,_,i,_,_,D=>absurd D (by show¬i+1<1;lia)
 |L0::C::Ls,S,q,L,0,h,h2,_=>by
  cases h;cases h2;rfl
 |L0::C::Ls,S,q,L,i+1,h,h2,D=>Zay (Ls:=C::Ls) (S:=wJ nx S L0) (i:=i) h h2 (by grind)
def Zby{nx:Nat->Nat->Nat}(S L:Aj):(wJ nx S L).Nodup:=yi _ _ Qdb
theorem Zf1{nx:Nat->Nat->Nat}{N M:Nat}(G:∀s l,s<N->l<M->nx s l<N):∀{Ls:Ad} {S:Aj},S.Nodup->(∀s∈S,s<N)->(∀L∈Ls,∀l∈L,l<M)->∀q∈lys nx S Ls,q.Nodup/\∀s∈q,s<N
 |[],_,_,_,_,_,h=>nomatch h
 |L::Ls,S,h1,h2,F,q,h=>by
  rcases Qaq.mp h with rfl|h
  ·exact⟨h1,h2⟩
  ·refine Zf1 G (Zby S L) (fun s Y=>?_) (fun L I=>F L (Qak _ I)) q h;obtain⟨J,D,O,C,rfl⟩:=GI.mp Y;exact G _ _ (h2 J D) (F L Qan O C)
def Zf2{N:Nat}(h1:S.Nodup)(h2:∀s∈S,s<N):S.length<=N:=by
 have:=Jy (l2:=List.range N) h1 fun s q=>Qcp.mpr (h2 s q);rw[Qa5]at this;exact this
def Runs.mN{nx:Ad}{ot:Ax}{n:Nat}(R:Runs nx ot n){s l:Nat}(q:s<nx.length)(C:l<2^n):mN nx s l<nx.length:=by
 have l1:=R.nr _ (getD_mem q);exact R.nl _ (getD_mem q) _ (Qag (getD_at (d:=0) (by lia)))
theorem Zm9{N:Nat}{l:Aj}(h:∀s∈l,s<N):(l.foldl Yy []).length<=N:=Zf2 (yi _ _ Qdb) fun s q=>by
 rcases(xJ _ _).mp q with z|z
 ·cases z
 ·exact h s z
def Zf3{f:Nat->List Nat}{j s:Nat}(q:S[j]?=some s):(S.take (j+1)).flatMap f=(S.take j).flatMap f++f s:=by
 rw[take_snoc q,List.flatMap_append];congr 1;simp
def Zgs.more{H':Hp}{p e:Au}{q:Ad}(h1:H p=some (.lst U))(h2:U.length=q.length)(I:∀(i:Nat) (S:Aj),q[i]?=some S->∃a,U[i]?=some (V.ref a)/\Rd H a (.dK (twK S)))(D:H e=some (.dK (twK S))):Zgs (upd H p (.lst (U++[.ref e]))) p (q++[S]):=by
 have C:∀{a:Au} {kvs:Ay},Rd H a (.dK kvs)->Rd (upd H p (.lst (U++[.ref e]))) a (.dK kvs):=fun{a kvs} r=>by
  have ne:a≠p:=fun z=>by
   subst z;rcases r with r|⟨_,r⟩<;>rw[h1]at r<;>cases r
  rcases r with r|⟨u,r⟩
  ·exact .inl (by rw[Zk ne];exact r)
  ·exact .inr ⟨u,by rw[Zk ne];exact r⟩
 refine⟨_,Za,by grind,fun i J hi=>?_⟩
 by_cases G:i<q.length
 ·grind
 ·rw[Qa2 (by lia)]at hi;have F:i-q.length=0:=by
   grind
  rw[F]at hi;cases hi;exact⟨e,by grind,C (.inl D)⟩
def qU(H:Hp)(ws:A0)(q:Ad):Prop:=ws.length=q.length/\∀(i:Nat) (C:Aj),q[i]?=some C->∃a,ws[i]?=some (V.ref a)/\H a=some (.tup (C.map Xe))
theorem qU.smf{H':Hp}{ws:A0}{q:Ad}(h:qU H ws q)(s:∀b xs,H b=some (.tup xs)->H' b=some (.tup xs)):qU H' ws q:=⟨h.1,fun i C hi=>by
 obtain⟨a,F,D⟩:=h.2 i C hi;exact⟨a,F,s _ _ D⟩⟩
theorem qU.cons{H:Hp}{ws:A0}{q:Ad}{C:Aj}{a:Au}(h:qU H ws q)(D:H a=some (.tup (C.map Xe))):qU H (.ref a::ws) (C::q):=⟨congrArg (· + 1) h.1,fun i F hi=>by
 match i,hi with
 |0,hi=>cases hi;exact⟨a,rfl,D⟩
 |i+1,hi=>exact h.2 i F hi⟩
def lwT(nx:Nat->Nat->Nat)(ok:Nat->Nat->Bool)(k:Nat)(S:Aj)(Ls:Ad)(j:Nat):Aj×Option (Aj):=lwb nx ok k ((lys nx S Ls).drop j) (Ls.drop j)
def Zf4{nx:Nat->Nat->Nat}{ok:Nat->Nat->Bool}{k:Nat}{Ls:Ad}:lwT nx ok k S Ls Ls.length=([],none):=by
 unfold lwT;rw[Qfa];cases(lys nx S Ls).drop Ls.length<;>rfl
def Zin{nx:Nat->Nat->Nat}{ok:Nat->Nat->Bool}{k:Nat}{q L:Aj}{Ls:Ad}{j:Nat}(h1:(lys nx S Ls)[j]?=some q)(h2:Ls[j]?=some L):lwT nx ok k S Ls j=(kY nx ok k (lwT nx ok k S Ls (j+1)).2 q L::(lwT nx ok k S Ls (j+1)).1,some (goB nx ok (lwT nx ok k S Ls (j+1)).2 q (chs k (kY nx ok k (lwT nx ok k S Ls (j+1)).2 q L) L))):=by
 unfold lwT;have e1:(lys nx S Ls).drop j=q::(lys nx S Ls).drop (j+1):=by rw[Qby (Qai.mp h1).1,(Qai.mp h1).2]
 have e2:Ls.drop j=L::Ls.drop (j+1):=by rw[Qby (Qai.mp h2).1,(Qai.mp h2).2]
 rw[e1,e2];rfl
def yr{l:List m}{j:Nat}{x:m}(h:l[j]?=some x):l.drop j=x::l.drop (j+1):=by rw[Qby (Qai.mp h).1,(Qai.mp h).2]
theorem Zf5{k:Nat}:∀{bs:Aj} {Ls:Ad},∀C∈cho k bs Ls,∃L∈Ls,C.length<=L.length/\∀l∈C,l∈L
 |[],_,_,h=>by cases h
 |_::_,[],_,h=>by cases h
 |b::bs,L::Ls,C,h=>by
  rcases Qaq.mp h with rfl|h
  ·exact⟨L,Qan,Qc9 _ _,fun l D=>(Jn.mp D).1⟩
  ·obtain⟨q,h1,h2⟩:=Zf5 C h;exact⟨q,Qak _ h1,h2⟩
theorem Zf6{k:Nat}:∀{bs:Aj} {Ls:Ad},bs.length=Ls.length->(cho k bs Ls).length=Ls.length
 |[],[],_=>rfl
 |_::bs,_::Ls,h=>congrArg (· + 1) (Zf6 (bs:=bs) (Ls:=Ls) (by simpa using h))
 |[],_::_,h=>nomatch h
 |_::_,[],h=>nomatch h
theorem wb{nx:Nat->Nat->Nat}{ok:Nat->Nat->Bool}{b:Nat}{Ls:Ad}:∀k,(itL nx ok b Ls k).length=Ls.length/\∀C∈itL nx ok b Ls k,∃L∈Ls,C.length<=L.length/\∀l∈C,l∈L
 |0=>⟨rfl,fun C h=>⟨C,h,Qah _,fun _ z=>z⟩⟩
 |k+1=>by
  obtain⟨h1,h2⟩:=wb (nx:=nx) (ok:=ok) (b:=b) (Ls:=Ls) k;refine⟨(Zf6 (gL _ _).1).trans h1,fun C D=>?_⟩;obtain⟨L,I,Z,G⟩:=Zf5 C D;obtain⟨J,O,Y,F⟩:=h2 L I;exact⟨J,O,Qa8 Z Y,fun l q=>F l (G l q)⟩
def hdV(H:Hp):V->V
 |.ref a=>match H a with
  |some (.tup (x::_))=>x
  |_=>.non
 |_=>.non
def Zkr{L:Aj}(h:H a=some (.tup (L.map Xe)))(q:L≠[]):hdV H (.ref a)=Xe (L.headD 0)/\atI (L.map Xe) 0=some (Xe (L.headD 0)):=by
 cases L with
 |nil=>exact absurd rfl q
 |cons x L=>
  refine⟨?_,Ya (j:=0) rfl⟩;have e:hdV H (.ref a)=(match H a with
   |some (.tup (x::_))=>x
   |_=>.non):=rfl
  rw[e,h];rfl
theorem Zaz{nx:Ad}:∀(ls:Aj) (s:Nat),Zgr (mN nx) s ls=stN nx s ls
 |[],_=>rfl
 |l::ls,s=>Zaz ls _
def Zna{m:Au}{b:Nat}{nx:Ad}{ot:Ax}(M:M4 H m N b nx ot)(R:Runs nx ot n)(Z:b<nx.length):∃J,Zkg H m nx.length (2^n) J b (mN nx) fun s c=>(ot.getD s []).getD c .non:=by
 obtain⟨pn,ps,O,h1,_,⟨as,I,g2,G⟩,⟨bs,Y,f2,F⟩⟩:=M.ex;refine⟨_,⟨ps,O,h1,⟨as,I,fun s q=>?_⟩,⟨bs,Y,fun s q=>?_⟩⟩,Z,fun s l q D=>R.mN q D⟩
 ·have l1:=R.nr _ (getD_mem q);obtain⟨a,e1,e2⟩:=G s (z9 (nx.getD s [])) (by rw[Qam,Zan q];rfl);exact⟨a,_,e1,e2,fun l D=>gO (by lia)⟩
 ·have C:s<ot.length:=by rw[R.ol];exact q
  have l1:=R.or _ (getD_mem C);obtain⟨a,e1,e2⟩:=F s (ot.getD s []) (Zan C);exact⟨a,_,e1,e2,fun l D=>getD_at (by lia)⟩
theorem gQ(i:Nat):∀r:Aj,hor (((r.map fun l:Nat=>(l:Int)).map fun c=>c/2^i%2).reverse)=(valN i r:Int)
 |[]=>rfl
 |l::r=>by
  rw[Qbx,Qbx,Qcx,yX,gQ i r];show(valN i r:Int)*2+(l:Int)/2^i%2=((q8 i l+2*valN i r:Nat):Int);have e:(l:Int)/2^i%2=((q8 i l:Nat):Int):=by
   rfl
  rw[e];lia
def rep_at{w:Nat}{x y:m}(h:(List.replicate w x)[i]?=some y):i<w/\y=x:=by grind
def vt{r:Aj}(h:r≠[]):∃q c,r=q++[c]:=⟨r.dropLast,r.getLast h,(Qf9 h).symm⟩
def gR(q:Au)(H H':Hp):Prop:=∀b o,H b=some o->b≠q->H' b=some o\/∃kvs u,o=.dK kvs/\H' b=some (.frz u (.dK kvs))
def gR.of{H2:Hp}(o:∀b u,H b=some u->b≠a->h b=some u)(s:SmF h H2):gR a H H2:=fun b u e q=>s b u (o b u e q)
def kn2:KN (Ak):={knT with
 at_:=fun H ks a=>H a=some (.tup (ks.map V.int))
 ok:=fun P w H h k a ok e=>knT.ok P w H h k a ok ⟨_,e,by rw[Qb7];rfl⟩
 keep:=fun H H' k a q e=>q _ _ e}
def Znb{H':Hp}(s:Z8 (hide J H) H')(C:∀c∈J,H' c=none):Z8 H (Wg J H H')/\(∀b o,H' b=some o->Wg J H H' b=some o)/\∀b o,H' b=some o->hide J H b=none->H b=none:=by
 refine⟨fun b u e=>?_,fun b o e=>?_,fun b o e h=>?_⟩
 ·by_cases q:b∈J
  ·rw[Jf q];exact e
  ·rw[Yp q];exact s _ _ (by rw[ZD q];exact e)
 ·have q:b∉J:=fun m=>by rw[C b m]at e;cases e
  rw[Yp q];exact e
 ·have q:b∉J:=fun m=>by rw[C b m]at e;cases e
  rw[ZD q]at h;exact h
def ZG.smf{H':Hp}{P:Au}{qual:Str}(h:ZG H P p qual)(s:SmF H H'):ZG H' P p qual:=by
 rcases h with h|⟨C,oc,h1,h2,q⟩
 ·exact .inl (s.at h fun _ z=>nomatch z)
 ·exact .inr ⟨C,oc,s.at h1 (fun _ z=>nomatch z),s.at h2 (fun _ z=>nomatch z),q⟩
def Znc{H':Hp}{ps:List (Int×Int)}(h:Prs H ps u)(e:∀b xs,H b=some (.tup xs)->H' b=some (.tup xs)):StA (.key kn2) H' (ps.map fun p=>[p.1,p.2]) u:=by
 refine⟨by rw[h.1,Qad],fun i k q=>?_⟩;rw[Qam]at q;obtain⟨p,C,rfl⟩:=Qbq.mp q;obtain⟨a,D,F⟩:=h.2 i p C;exact⟨.ref a,D,a,rfl,e _ _ F⟩
def zL(u v:A0)(q:Ai):Prop:=q.Perm (Wx (((u++v).filter nmB).map Zmj))/\PyProof.Rows.sortedS q=true
def Dff(q:Ai)(u v:A0)(ls:Aj):Prop:=bt ((Xa (2^ls.length) (Wk ls q) u).getD 0 0) (ls.length-1)≠bt ((Xa (2^ls.length) (Wk ls q) v).getD 0 0) (ls.length-1)
structure Ge(ms:Ai)(u v:A0)(w:Nat)(r:Aj):Prop where
 w1:1<=w
 len:r.length=w
 lt:∀l∈r,l<2^ms.length
 df:Dff ms u v r
 fst:∀t:Aj,t.length=w->(∀l∈t,l<2^ms.length)->Dff ms u v t->t=r\/∃j,j<ms.length/\(∀i,i<j->valN i t=valN i r)/\valN j r<valN j t
 least:∀ls:Aj,ls≠[]->(∀x∈ls,x<2^ms.length)->Dff ms u v ls->w<=ls.length
def JA(q C:Au)(H H':Hp):Prop:=∀b o,H b=some o->b≠q->b≠C->H' b=some o\/∃kvs u,o=.dK kvs/\H' b=some (.frz u (.dK kvs))
def Xn.len2{ws:A0}{l:List (Int×Ak)}(S:Xn N ws)(B:BfE (nxS N ws) (0,List.replicate (Y9 ws) 0) l):l.length<=11*2^Y9 ws:=by
 have h:=Zap (nx:=nxS N ws) (b:=((0:Int),List.replicate (Y9 ws) (0:Int))) (U:=uni (Y9 ws) (lgB ws+1)) (Gd.mpr ⟨0,by lia,rfl,Xt.mpr ⟨Qbj,fun x q=>.inl (Qei q)⟩⟩) (fun s C=>vh S.wc rfl C) l.length;rw[<-B.e,vf]at h;have h2:lgB ws<=10:=Zfk S.iz;exact Qa8 h (Qf5 _ (by lia))
def Xn.runs{ws:A0}{l:List (Int×Ak)}(S:Xn N ws)(B:BfE (nxS N ws) (0,List.replicate (Y9 ws) 0) l):Runs (rnG (nxS N ws) l) (l.map (otS N ws)) N.length:=by
 obtain⟨C,D⟩:=Zfp B (n:=2^N.length) (Zfn _ _ _ _);have hpos:0<l.length:=Qd3 B.begin.2;refine⟨by rw[Y8];exact hpos,by rw[Y8,Qad],C,D,fun r q=>?_⟩;obtain⟨s,_,rfl⟩:=Qay.mp q;exact Zfo _ _ _ _ _ _
def Zo6{ws:A0}(S:Xn N ws)(m:Int)(ρ:Str->Int):Xa m ρ ws=[(Xa m ρ ws).getD 0 0]:=by
 have h:=J0 m ρ ws;rw[S.st]at h;obtain⟨o,e⟩:=List.length_eq_one_iff.mp h;rw[e];rfl
def Za0{ws:A0}{l:List (Int×Ak)}(S:Xn N ws)(B:BfE (nxS N ws) (0,List.replicate (Y9 ws) 0) l){ls:Aj}{c:Nat}(q:∀x∈ls++[c],x<2^N.length):
  ((l.map (otS N ws)).getD (stN (rnG (nxS N ws) l) 0 ls) []).getD c .non=.int (bt ((Xa (2^(ls.length+1)) (Wk (ls++[c]) N) ws).getD 0 0) ls.length):=by
 have h:=vk S.nd S.kp S.wd S.en (show(ls++[c]).length<=ls.length+1 by rw[Qaf];exact Qah _) q (Zo6 S _ _) B ls.length (by grind);rw[Zau,Qa2 (by rw[vj];exact Qah _),vj,Qff]at h;exact Option.some.inj h
def zM{v:A0}{l1 l2:List (Int×Ak)}{l:List (Ak)}(I:Xn N u)(C:Xn N v)(F:BfE (nxS N u) (0,List.replicate (Y9 u) 0) l1)(D:BfE (nxS N v) (0,List.replicate (Y9 v) 0) l2)(B:BfE (pN (rnG (nxS N u) l1) (rnG (nxS N v) l2)) (pK 0 0) l){ls:Aj}{c:Nat}(h:∀x∈ls++[c],x<2^N.length):
  Y6 (mN (rnG (pN (rnG (nxS N u) l1) (rnG (nxS N v) l2)) l)) (mB (l.map (pO (l1.map (otS N u)) (l2.map (otS N v)))) (.bl true)) 0 (ls++[c])=true↔Dff N u v (ls++[c]):=by
 have G:=I.runs F;have R2:=C.runs D;rw[Zfz G R2 G.pos R2.pos B h,Qb0];have e1:=Za0 I F h;have e2:=Za0 C D h;rw[e1,e2];unfold Dff;rw[Qaf];show _↔bt ((Xa (2^(ls.length+1)) (Wk (ls++[c]) N) u).getD 0 0) ls.length≠bt ((Xa (2^(ls.length+1)) (Wk (ls++[c]) N) v).getD 0 0) ls.length;rcases WV ((Xa (2^(ls.length+1)) (Wk (ls++[c]) N) u).getD 0 0) ls.length with p|p<;>rcases WV ((Xa (2^(ls.length+1)) (Wk (ls++[c]) N) v).getD 0 0) ls.length with q|q<;>rw[p,q]<;>simp
def Zbz{v:A0}{l1 l2:List (Int×Ak)}{l:List (Ak)}{w:Nat}{r:Aj}(D:Xn N u)(I:Xn N v)(J:BfE (nxS N u) (0,List.replicate (Y9 u) 0) l1)(G:BfE (nxS N v) (0,List.replicate (Y9 v) 0) l2)(B:BfE (pN (rnG (nxS N u) l1) (rnG (nxS N v) l2)) (pK 0 0) l)(hw:1<=w)
  (F:xM (mN (rnG (pN (rnG (nxS N u) l1) (rnG (nxS N v) l2)) l)) (mB (l.map (pO (l1.map (otS N u)) (l2.map (otS N v)))) (.bl true)) 0 N.length w r)
  (Z:∀(ls:Aj) (c:Nat),(∀x∈ls++[c],x<2^N.length)->Y6 (mN (rnG (pN (rnG (nxS N u) l1) (rnG (nxS N v) l2)) l)) (mB (l.map (pO (l1.map (otS N u)) (l2.map (otS N v)))) (.bl true)) 0 (ls++[c])=true->w<=ls.length+1):Ge N u v w r:=by
 have ne:∀{t:Aj},t.length=w->∃q c,t=q++[c]:=fun{t} h=>vt fun z=>by rw[z]at h;have:0=w:=h;lia
 refine⟨hw,F.len,F.lt,?_,fun t h1 h2 C=>?_,fun ls h1 h2 C=>?_⟩
 ·obtain⟨q,c,e⟩:=ne F.len;have Y:=F.last;have O:=F.lt;rw[e]at Y O ⊢;exact(zM D I J G B O).mp Y
 ·obtain⟨q,c,rfl⟩:=ne h1;exact F.fst _ h1 h2 ((zM D I J G B h2).mpr C)
 ·obtain⟨q,c,rfl⟩:=vt h1;rw[Qaf];exact Z q c h2 ((zM D I J G B h2).mpr C)
def Znd(i:Nat)(r:Aj):(valN i r:Int)=sm (fun k=>bt ((r.getD k 0:Nat):Int) i) r.length:=by
 rw[<-gQ,<-Zke];congr 2;refine Qeh fun k=>?_;rw[Qam,Qam,Qam]
 by_cases h:k<r.length
 ·rw[Qdl h,getD_at (d:=0) h];rfl
 ·grind
def Zne{ls:Aj}{y:Str}(q:N.Nodup)(h:N[i]?=some y):Wk ls N y=(valN i ls:Int):=by
 unfold Wk;rw[JK q h,Znd]
def we:∀ys:Ai,ys.Nodup->keysOf ys=ys.map (Sum.inr:Str->Key):=by
 refine snoc_ind (fun _=>rfl) fun ys y q h=>?_;obtain⟨h1,_,C⟩:=Qe6.mp h;rw[Gb,q h1,Qa4,Qbd]
 ·rfl
 ·grind
def Tab.len_nd{a:Ay}{ys:Ai}{f:Str->Int}(T:Tab a ys f)(h:ys.Nodup):a.length=ys.length:=by
 have:=congrArg List.length T.keys;rw[we ys h,Qad,Qad]at this;exact this
def wwv_cg{y:Str}{is:Ak}(h:y∈G9)(C:is.length=Yu y)(ρ q:Str->Int):wwv ρ (.str y) is=wwv q (.str y) is:=by
 have D:1<=Yu y:=(by decide +kernel:∀y∈G9,1<=Yu y) y h
 match is,C with
 |[],C=>rw[<-C]at D;cases D
 |[a],_=>rfl
 |[a,b],_=>rfl
 |a::b::c::_,_=>rfl
theorem wg:∀l:Ai,PyProof.Rows.sortedS l=true->l.Pairwise (fun a b=>PySem.Spec.ltCps b.cps.toList a.cps.toList=false)
 |[],_=>.nil
 |x::r,h=>.cons (Jw x r h) (wg r (JY h))
structure Sm(ys:Ai)(u:A0):Prop where
 wd:∀w∈u,WW ys 10 w
 en:YE u
 st:qT u=1
 rm:Y9 u<=3
 ln:u.length<=10
structure Nm3(ys:Ai):Prop where
 n3:ys.length<=3
 nd:ys.Nodup
 nm:∀y∈ys,NmS y
 so:PyProof.Rows.sortedS ys=true
def Nm3.kp{ys:Ai}(N:Nm3 ys):∀y∈ys,y∉YW:=fun y h=>(N.nm y h).k
theorem Nm3.sub{ys q:Ai}(N:Nm3 ys)(s:q.Sublist ys):Nm3 q:=
 ⟨Qa8 s.length_le N.n3,N.nd.sublist s,fun y h=>N.nm y (s.subset h),PyProof.Rows.sortedS_of_pairwise _ ((wg _ N.so).sublist s)⟩
def nmF(ys:Ai)(ws:A0):Ai:=ys.filter fun y=>inV (.str y) ws
def Sm.to{ys:Ai}{ws:A0}(S:Sm ys u)(h:∀w∈u,w∈ws):Sm (nmF ys ws) u:=by
 refine⟨fun w hw=>?_,S.en,S.st,S.rm,S.ln⟩;rcases S.wd w hw with⟨y,e,h1,h2,q⟩|⟨y,e,h1,h2,q⟩|h1
 ·exact .inl ⟨y,e,h1,fun z=>h2 (Qb2.mp z).1,q⟩
 ·exact .inr (.inl ⟨y,e,Qb2.mpr ⟨h1,qw.mpr (e ▸ h w hw)⟩,h2,q⟩)
 ·exact .inr (.inr h1)
def Sm.sok{ys:Ai}(S:Sm ys u)(N:Nm3 ys):Xn ys u:=
 {n3:=N.n3,nd:=N.nd,kp:=N.kp,ln:=by have:=S.ln;lia,wd:=S.wd,en:=S.en,st:=S.st,rm:=by have:=S.rm;lia}
theorem Sm.si{ys:Ai}(S:Sm ys u)(N:Nm3 ys):∀w∈u,kE w:=fun w h=>by
 rcases S.wd w h with⟨y,e,h1,_⟩|⟨y,e,h1,_⟩|⟨z,e,_⟩
 ·exact .inl ⟨y,e,(by decide +kernel:∀s∈G9,s.length<=1000) y h1⟩
 ·exact .inl ⟨y,e,Qa8 (N.nm y h1).l.1.2 (by decide)⟩
 ·exact .inr ⟨z,e⟩
def zN{ys:Ai}{v:A0}{C:Ai}(N:Nm3 ys)(G:Sm ys u)(I:Sm ys v)(h:zL u v C):C=nmF ys (u++v):=by
 have nd:=h.1.nodup_iff.mpr (gk _);refine jS _ _ h.2 (N.sub Qgi).so ((List.perm_ext_iff_of_nodup nd (N.nd.filter _)).mpr fun y=>?_);rw[h.1.mem_iff,show y∈Wx _↔_ from(yJ (((u++v).filter nmB).map Zmj) [] Qdb).2 y,Qb2];constructor
 ·rintro(h|h)
  ·cases h
  ·obtain⟨x,q,rfl⟩:=Qay.mp h;obtain⟨q,D⟩:=Qb2.mp q;cases x with
   |str y=>
    have F:=Qbh D;refine⟨?_,qw.mpr q⟩;have hw:WW ys 10 (.str y):=(Qbb.mp q).elim (G.wd _) (I.wd _);rcases hw with⟨z,e,h1,_⟩|⟨z,e,h1,_⟩|⟨z,e,_⟩
    ·cases e;exact absurd (Zfl _ h1).2 F.1
    ·cases e;exact h1
    ·cases e
   |_=>cases D
 ·rintro⟨h1,h2⟩;have nm:=N.nm y h1;exact .inr (Qay.mpr ⟨.str y,Qb2.mpr ⟨qw.mp h2,Qal ⟨nm.k,nm.l⟩⟩,rfl⟩)
theorem gS{ys:Ai}{m:Int}{ρ q:Str->Int}(D:∀y∈ys,ρ y=q y):∀{ws:A0},(∀w∈ws,WW ys 10 w)->YE ws->Xa m ρ ws=Xa m q ws
 |[],_,_=>rfl
 |w::r,h,C=>by
  have F:=gS (m:=m) D (fun x G=>h x (Qak _ G)) C.2;show(wwv ρ w ((Xa m ρ r).take (npw w))%m)::(Xa m ρ r).drop (npw w)=(wwv q w ((Xa m q r).take (npw w))%m)::(Xa m q r).drop (npw w);have I:=J0 m q r;rw[F];congr 2;rcases h w Qan with⟨y,rfl,h1,_,h2⟩|⟨y,rfl,h1,_,h2⟩|⟨z,rfl,_⟩
  ·refine wwv_cg h1 ?_ _ _;rw[Qas,I,<-h2];exact Qef C.1
  ·rw[h2];exact D y h1
  ·rfl
def Zb0{ys:Ai}(nd:ys.Nodup)(f:Str->Int)(W:Nat)(F:∀y∈ys,0<=f y/\f y<2^W):∃ls:Aj,ls.length=W/\(∀l∈ls,l<2^ys.length)/\∀y∈ys,Wk ls ys y=f y:=by
 obtain⟨ls,e,h1,h2⟩:=Zii ys f W;refine⟨ls,h2,h1,fun y C=>?_⟩;obtain⟨i,hi⟩:=Qcg C;unfold Wk;rw[JK nd hi,h2];have I:=(Qai.mp hi).1;have D:∀k,k<W->bt ((ls.getD k 0:Nat):Int) i=f y/2^k%2:=fun k G=>by
  have q:=congrArg (fun l:A0=>l[k]?) e;simp only[Qam,Qdl G,Qeu]at q;rw[getD_at (d:=0) (show k<ls.length by lia)]at q;have q:ltr ys f k=((ls.getD k 0:Nat):Int):=by injection q with q;injection q
  rw[<-q];show ltr ys f k/2^i%2=_;unfold ltr;rw[Ze8 (fun j=>Zox _ _) i ys.length I,Qap,hi];rfl
 rw[yY D,yZ,Qcr (F y C).1 (F y C).2]
theorem Zf7(nx:Ad)(ot:Ax):∀(a b:Aj) (s:Nat),rnO nx ot s (a++b)=rnO nx ot s a++rnO nx ot (stN nx s a) b
 |[],_,_=>rfl
 |c::a,b,s=>congrArg (_::·) (Zf7 nx ot a b _)
def Zf8{v:A0}{ls:Aj}{l1 l2:List (Int×Ak)}(F:Xn N u)(G:Xn N v)(B1:BfE (nxS N u) (0,List.replicate (Y9 u) 0) l1)(Z:BfE (nxS N v) (0,List.replicate (Y9 v) 0) l2)(D:∀x∈ls,x<2^N.length):
  Xa (2^ls.length) (Wk ls N) u=Xa (2^ls.length) (Wk ls N) v↔∀k,k<ls.length->¬Dff N u v (ls.take (k+1)):=by
 have C:∀{ws:A0} {l:List (Int×Ak)},Xn N ws->BfE (nxS N ws) (0,List.replicate (Y9 ws) 0) l->(0<=(Xa (2^ls.length) (Wk ls N) ws).getD 0 0/\(Xa (2^ls.length) (Wk ls N) ws).getD 0 0<2^ls.length)/\∀k,k<ls.length->bt ((Xa (2^(k+1)) (Wk (ls.take (k+1)) N) ws).getD 0 0) k=bt ((Xa (2^ls.length) (Wk ls N) ws).getD 0 0) k:=fun{ws l} S B=>by
  refine⟨?_,fun k q=>?_⟩
  ·cases ws with
   |nil=>cases S.st
   |cons w r=>exact⟨Qbe _ (Qd6 (YV _)),Qa3 _ (YV _)⟩
  ·have O:(ls.take (k+1)).length=k+1:=by rw[Qas];lia
   have h1:=vk S.nd S.kp S.wd S.en (Qah _) D (Zo6 S _ _) B k q;have h2:=vk S.nd S.kp S.wd S.en (Qgm O) (fun x Y=>D x (Qch Y)) (Zo6 S _ _) B k (by lia);rw[<-Qbz (k+1) ls,Zf7,Qbc (by rw[vj];lia),h2,Qbz]at h1;injection h1 with h1;injection h1
 obtain⟨⟨b1,I⟩,k1⟩:=C F B1;obtain⟨⟨b2,J⟩,k2⟩:=C G Z;have d:∀k,k<ls.length->(Dff N u v (ls.take (k+1))↔bt ((Xa (2^ls.length) (Wk ls N) u).getD 0 0) k≠bt ((Xa (2^ls.length) (Wk ls N) v).getD 0 0) k):=fun k q=>by
  unfold Dff;rw[Qas,Qef (show k+1<=ls.length from q),Nat.add_sub_cancel,k1 k q,k2 k q]
 constructor
 ·grind
 ·intro h;have:=yY (n:=ls.length) fun k q=>Qe9.mp fun z=>h k q ((d k q).mpr z);rw[show∀o W,sm (fun k=>bt o k) W=o%2^W from fun o W=>yZ o W,show∀o W,sm (fun k=>bt o k) W=o%2^W from fun o W=>yZ o W,Qcr b1 I,Qcr b2 J]at this;rw[Zo6 F,Zo6 G,this]
def Dff.swap{v:A0}{ls:Aj}(h:Dff N u v ls):Dff N v u ls:=fun z=>h z.symm
def BfE.all[DecidableEq m]{nx:m->List m}{b:m}{l:List m}{P:m->Prop}(B:BfE nx b l)(F:P b)(D:∀s,P s->∀x∈nx s,P x):∀s∈l,P s:=by
 classical
 intro s h;rw[B.e]at h;exact Qbh (Qb2.mp (gG (U:=l.filter fun x=>decide (P x)) (Qb2.mpr ⟨B.begin.2,Qal F⟩) (fun s q x C=>Qb2.mpr ⟨B.next (Qb2.mp q).1 C,Qal (D s (Qbh (Qb2.mp q).2) x C)⟩) _ s h)).2
def prL(l:List (Ak)):List (Int×Int):=l.map fun k=>(k.getD 0 0,k.getD 1 0)
structure Zns(nm:Ai)(u v:A0)(l1 l2:List (Int×Ak)):Prop where
 b1:BfE (nxS nm u) (0,List.replicate (Y9 u) 0) l1
 b2:BfE (nxS nm v) (0,List.replicate (Y9 v) 0) l2
def NoDf(nm:Ai)(u v:A0):Prop:=∀ls:Aj,ls≠[]->(∀x∈ls,x<2^nm.length)->¬Dff nm u v ls
def Zo7(H:Hp)(f:Au)(nm:Ai)(u v:A0):Prop:=∃(l1 l2:List (Int×Ak)),Zns nm u v l1 l2 /\
 ((∃(q:Au) (l:List (Ak)) (ws:A0),H f=some (.tup [.str "same",.ref q])/\H q=some (.tup ws)/\Prs H (prL l) ws/\BfE (pN (rnG (nxS nm u) l1) (rnG (nxS nm v) l2)) (pK 0 0) l/\NoDf nm u v) \/
 ∃(d:Au) (w:Nat) (r:Aj) (kvs:Ay),H f=some (.tup [.str "parted",.int (w:Int),.ref d])/\H d=some (.dK kvs)/\Tab kvs nm (fun y=>(valN (ixG nm y) r:Int))/\Ge nm u v w r/\w<=1000000)
def Znf(ys:Ai)(w n:V):Prop:=WW ys 10 n/\npw n=npw w
theorem Zf9{w n:V}(e:npw n=npw w)(b:A0):∀a:A0,qT (a++n::b)=qT (a++w::b)/\(YE (a++w::b)->YE (a++n::b))
 |[]=>⟨by show qT b-npw n+1=qT b-npw w+1;rw[e],fun h=>⟨e ▸ h.1,h.2⟩⟩
 |x::a=>by
  obtain⟨h1,h2⟩:=Zf9 e b a;exact⟨by show qT (a++n::b)-npw x+1=qT (a++w::b)-npw x+1;rw[h1],fun h=>⟨by show npw x<=qT (a++n::b);rw[h1];exact h.1,h2 h.2⟩⟩
def Sm.put{ys:Ai}{w n:V}{j:Nat}(S:Sm ys u)(h2:Y9 u<=2)(C:u[j]?=some w)(R:Znf ys w n):Sm ys (u.take j++n::u.drop (j+1)):=by
 have e:u=u.take j++w::u.drop (j+1):=by rw[<-yr C,Qbz]
 obtain⟨e1,e2⟩:=Zf9 R.2 (u.drop (j+1)) (u.take j);rw[<-e]at e1 e2;have r:=congrArg Y9 e;rw[GG,Wj]at r;have ln:=S.ln;refine⟨fun x q=>?_,e2 S.en,e1.trans S.st,?_,?_⟩
 ·rcases Qbb.mp q with h|h
  ·exact S.wd x (Qch h)
  ·rcases Qaq.mp h with rfl|h
   ·exact R.1
   ·exact S.wd x (Qdg h)
 ·rw[GG,Wj];split<;>lia
 ·grind
def Cls(ys L:Ai):Prop:=∀y∈L,WW ys 10 (.str y)/\∀q∈L,npw (.str q)=npw (.str y)
def Zga{ys L:Ai}(q:∀y∈ys,y∉YW)(h:∀y∈L,y∈G9/\Yu y=n):Cls ys L:=fun y m=>⟨(J7 q (h y m).1).1,fun D C=>by rw[(J7 q (h D C).1).2.1,(J7 q (h y m).1).2.1,(h D C).2,(h y m).2]⟩
def cls_nm{ys:Ai}(q:∀y∈ys,y∉YW):Cls ys ys:=fun y m=>⟨(GF q (.inl ⟨y,m,rfl⟩)).1,fun D C=>by rw[(GF q (.inl ⟨D,C,rfl⟩)).2.1,(GF q (.inl ⟨y,m,rfl⟩)).2.1]⟩
def Zng{l:List (Ak)}{ws:A0}(h:StA (.key kn2) H l ws)(C:∀k∈l,∃i j,k=pK i j):Prs H (prL l) ws:=by
 refine⟨by rw[h.1];exact(Qad _).symm,fun i p q=>?_⟩;unfold prL at q;rw[Qam]at q;obtain⟨k,e,rfl⟩:=Qbq.mp q;obtain⟨v,D,a,rfl,F⟩:=h.2 i k e;obtain⟨x,y,rfl⟩:=C k (Qag e);exact⟨a,D,F⟩
def Znh{v:A0}{l1 l2:List (Int×Ak)}{l:List (Ak)}(S1:Xn N u)(S2:Xn N v)(Y:BfE (nxS N u) (0,List.replicate (Y9 u) 0) l1)(Z:BfE (nxS N v) (0,List.replicate (Y9 v) 0) l2)(B:BfE (pN (rnG (nxS N u) l1) (rnG (nxS N v) l2)) (pK 0 0) l)
  (no:NoDf N u v):Zmv N N 0 0 (rnG (nxS N u) l1) (rnG (nxS N v) l2) (l1.map (otS N u)) (l2.map (otS N v)) (prL l):=by
 have D:Runs (rnG (nxS N u) l1) (l1.map (otS N u)) N.length:=S1.runs Y;have R2:Runs (rnG (nxS N v) l2) (l2.map (otS N v)) N.length:=S2.runs Z;have all:=B.all (P:=fun k=>∃ls:Aj,(∀x∈ls,x<2^N.length)/\k=pK (stN (rnG (nxS N u) l1) 0 ls) (stN (rnG (nxS N v) l2) 0 ls)) ⟨[],(fun _ h=>nomatch h),rfl⟩ fun s hs x I=>by
  obtain⟨ls,h1,rfl⟩:=hs;obtain⟨_,_,F,G⟩:=Zfy D R2 D.pos R2.pos B h1;obtain⟨c,J⟩:=Qcg I;have O:=(Qai.mp J).1;rw[Zax D R2 F G]at O;rw[Zm5 D R2 F G O]at J;refine⟨ls++[c],fun x I=>?_,by rw[X7,X7];exact(Option.some.inj J).symm⟩;rcases Qbb.mp I with h|h
  ·exact h1 x h
  ·rw[Qat.mp h];exact O
 refine⟨rfl,Qay.mpr ⟨_,B.begin.2,rfl⟩,fun p hp=>?_⟩;obtain⟨k,hk,rfl⟩:=Qay.mp hp;obtain⟨ls,h1,rfl⟩:=all k hk;obtain⟨g1,_,F,G⟩:=Zfy D R2 D.pos R2.pos B h1;refine⟨_,_,rfl,F,G,?_,fun q hq=>?_⟩
 ·have e1:=D.or _ (getD_mem (show _<(l1.map (otS N u)).length by rw[D.ol];exact F));have e2:=R2.or _ (getD_mem (show _<(l2.map (otS N v)).length by rw[R2.ol];exact G));refine List.ext_getElem (by rw[e1,e2]) fun c c1 c2=>?_;have C:∀x∈ls++[c],x<2^N.length:=fun x I=>by
   grind
  have z:=mt (zM S1 S2 Y Z B C).mp (no _ (by simp) C);rw[Zfz D R2 D.pos R2.pos B C,Qb0,Qe9,Qap,Qap (i:=c),Qac c1,Qac c2]at z;exact z
 ·obtain⟨c,J⟩:=Qcg hq;refine Qay.mpr ⟨[q.1,q.2],B.next g1 ?_,rfl⟩;exact Qay.mpr ⟨q,hq,rfl⟩
theorem JA.trans{H2:Hp}(s:JA a f H h)(t:JA a f h H2):JA a f H H2:=fun b o e C q=>by
 rcases s b o e C q with z|⟨kvs,u,rfl,z⟩
 ·exact t b o z C q
 ·rcases t b _ z C q with z|⟨_,_,z,_⟩
  ·exact .inr ⟨kvs,u,rfl,z⟩
  ·cases z
theorem Zgb{kvs:Ay}{ys:Ai}{f:Str->Int}(T:Tab kvs ys f):Ze5 kvs ys f:=⟨T.val,fun y F=>by
 have e:=Wu (Sum.inr y:Key) kvs;rw[show(kvs.any fun D=>decide (D.1=(Sum.inr y:Key)))=false from List.any_eq_false.mpr fun p q z=>by
  obtain⟨x,C,rfl⟩:=T.all p q;have:=Qbh z;injection this with this;exact F (this ▸ C)]at e
 cases h:Yd kvs (.inr y)with
 |none=>rfl
 |some _=>rw[h]at e;cases e⟩
def tab_at{kvs:Ay}{ys:Ai}{f:Str->Int}(T:Tab kvs ys f)(nd:ys.Nodup){q:Key×V}(h:kvs[i]?=some q):∃y,ys[i]?=some y/\q=(.inr y,.int (f y)):=by
 have e:=congrArg (fun l:List Key=>l[i]?) (T.keys.trans (we ys nd));simp only[Qam,h,Qeu]at e;obtain⟨y,h1,h2⟩:=Qbq.mp e.symm;obtain⟨x,_,rfl⟩:=T.all q (Qag h);injection h2 with h2;exact⟨y,h1,by rw[h2]⟩
def Za1{nm:Ai}{v:A0}{l1 l2:List (Int×Ak)}{ls:Aj}{f:Str->Int}(N:Nm3 nm)(C:Sm nm u)(D:Sm nm v)(B:Zns nm u v l1 l2)(q:∀x∈ls,x<2^nm.length)(F:∀y∈nm,Wk ls nm y=f y):
  Xa (2^ls.length) f u=Xa (2^ls.length) f v↔∀k,k<ls.length->¬Dff nm u v (ls.take (k+1)):=by
 rw[gS (fun y h=>(F y h).symm) C.wd C.en,gS (fun y h=>(F y h).symm) D.wd D.en];exact Zf8 (C.sok N) (D.sok N) B.b1 B.b2 q
def wj{nm:Ai}{v:A0}{l1 l2:List (Int×Ak)}{W:Nat}(f:Str->Int)(N:Nm3 nm)(C:Sm nm u)(G:Sm nm v)(B:Zns nm u v l1 l2)(F:∀ls:Aj,ls≠[]->(∀x∈ls,x<2^nm.length)->ls.length<=W->¬Dff nm u v ls):
  Xa (2^W) (fun y=>f y%2^W) u=Xa (2^W) (fun y=>f y%2^W) v:=by
 obtain⟨ls,rfl,h2,q⟩:=Zb0 N.nd (fun y=>f y%2^W) W fun y _=>⟨Qbe _ (Qd6 (YV W)),Qa3 _ (YV W)⟩;refine(Za1 N C G B h2 q).mpr fun k I=>F _ (fun z=>?_) (fun x D=>h2 x (Qch D)) (by rw[Qas];lia);have:=congrArg List.length z;rw[Qas]at this;have:min (k+1) ls.length=0:=this;lia
def Zgc{r:Aj}{y:Str}(nd:N.Nodup)(h:y∈N):(valN (ixG N y) r:Int)=Wk r N y:=(Zne nd (Zkn h)).symm
def Zio{nm:Ai}{v:A0}{l1 l2:List (Int×Ak)}{w:Nat}{r:Aj}(N:Nm3 nm)(q:Sm nm u)(C:Sm nm v)(B:Zns nm u v l1 l2)(F:Ge nm u v w r):
  ¬Xa (2^w) (fun y=>(valN (ixG nm y) r:Int)%2^w) u=Xa (2^w) (fun y=>(valN (ixG nm y) r:Int)%2^w) v:=by
 obtain⟨G,rfl,lt,D,_,_⟩:=F;intro z;refine(Za1 N q C B lt fun y h=>?_).mp z (r.length-1) (by lia) ?_
 ·rw[Zgc N.nd h,Qcr (gK r nm y).1 (gK r nm y).2]
 ·grind
def Zgd{nm:Ai}{v:A0}{l1 l2:List (Int×Ak)}{l:List (Ak)}(N:Nm3 nm)(D:Sm nm u)(F:Sm nm v)(B:Zns nm u v l1 l2)(C:BfE (pN (rnG (nxS nm u) l1) (rnG (nxS nm v) l2)) (pK 0 0) l)(q:NoDf nm u v):Zmv nm nm 0 0 (rnG (nxS nm u) l1) (rnG (nxS nm v) l2) (l1.map (otS nm u)) (l2.map (otS nm v)) (prL l):=Znh (D.sok N) (F.sok N) B.b1 B.b2 C q
def Zge{nm:Ai}{v:A0}{l1 l2:List (Int×Ak)}{l:List (Ak)}(N:Nm3 nm)(D:Sm nm u)(F:Sm nm v)(B:Zns nm u v l1 l2)(C:BfE (pN (rnG (nxS nm u) l1) (rnG (nxS nm v) l2)) (pK 0 0) l):(prL l).length<=1000000/\∀k∈l,∃i j,k=pK i j:=by
 have G:=(D.sok N).runs B.b1;have R2:=(F.sok N).runs B.b2;have q:=Zkq G R2 G.pos R2.pos C;refine⟨?_,fun k I=>let⟨i,j,_,_,e⟩:=JL.mp (q k I);⟨i,j,e⟩⟩;have h:=Jy C.nodup q;rw[Zko,Y8,Y8]at h;have a1:=(D.sok N).len2 B.b1;have a2:=(F.sok N).len2 B.b2;have O:2^Y9 u<=2^3:=Qdf (by decide) D.rm;have J:2^Y9 v<=2^3:=Qdf (by decide) F.rm;have:=Nat.mul_le_mul (show l1.length<=88 by lia) (show l2.length<=88 by lia);rw[show(prL l).length=l.length from Qad _];lia
def Ziq(ys:Ai)(u v:A0):nmF ys (v++u)=nmF ys (u++v):=by
 unfold nmF;congr 1;funext y;rw[Qc2,qw,qw,Qbb,Qbb];exact or_comm
def JA.at{C D:Au}{H H':Hp}{p1 p2:Pos}{O F:Str}(I:ZG H C p1 O)(J:ZG H D p2 F)(o:JA C D H H'){b:Au}{u:HO}(e:H b=some u)(h:∀r,u≠.tbl r):H' b=some u\/∃kvs z,u=.dK kvs/\H' b=some (.frz z (.dK kvs)):=by
 obtain⟨p,G⟩:=I.ex;obtain⟨q,Y⟩:=J.ex;exact o b u e (fun z=>by rw[z,G]at e;cases e;exact h _ rfl) (fun z=>by rw[z,Y]at e;cases e;exact h _ rfl)
def JA.tup{C q:Au}{H H':Hp}{p1 p2:Pos}{G D:Str}(o:JA C q H H')(I:ZG H C p1 G)(F:ZG H q p2 D){b:Au}{xs:A0}(e:H b=some (.tup xs)):H' b=some (.tup xs):=by
 rcases JA.at I F o e (fun _ z=>nomatch z)with z|⟨_,_,z,_⟩
 ·exact z
 ·cases z
def JA.lst{C q:Au}{H H':Hp}{p1 p2:Pos}{G D:Str}(o:JA C q H H')(I:ZG H C p1 G)(F:ZG H q p2 D){b:Au}{xs:A0}(e:H b=some (.lst xs)):H' b=some (.lst xs):=by
 rcases JA.at I F o e (fun _ z=>nomatch z)with z|⟨_,_,z,_⟩
 ·exact z
 ·cases z
def JA.rd{H':Hp}{F:Str}(o:JA a f H H')(C:ZG H a p x)(D:ZG H f q F){b:Au}{kvs:Ay}(h:Rd H b (.dK kvs)):Rd H' b (.dK kvs):=by
 rcases h with e|⟨u,e⟩
 ·rcases JA.at C D o e (fun _ z=>nomatch z)with z|⟨_,_,z,h⟩
  ·exact .inl z
  ·cases z;exact .inr ⟨_,h⟩
 ·rcases JA.at C D o e (fun _ z=>nomatch z)with z|⟨_,_,z,_⟩
  ·exact .inr ⟨_,z⟩
  ·cases z
def JA.sq{H':Hp}{F:Str}(o:JA f L H H')(C:ZG H f p x)(D:ZG H L q F){xs:A0}(h:SqL K H a xs):SqL K H' a xs:=by
 rcases h with(h|⟨u,h⟩)|h
 ·exact .inl (.inl (o.lst C D h))
 ·rcases JA.at C D o h (fun _ z=>nomatch z)with z|⟨_,_,z,_⟩
  ·exact .inl (.inr ⟨u,z⟩)
  ·cases z
 ·exact .inr h
def gR.g{H':Hp}(o:gR a H H'):JA a f H H':=fun b u e h1 _=>o b u e h1
def JA.smf{H':Hp}(s:SmF H H'):JA a f H H':=fun b u e _ _=>s b u e
def ZG.offF{H':Hp}{p2:Pos}{F:Str}(I:ZG H a q x)(O:ZG H f p2 F)(D:f≠a)(o:gR a H H'):ZG H' f p2 F:=by
 obtain⟨p,G⟩:=I.ex;have C:∀{b:Au} {u:HO},H b=some u->b≠a->(∀kvs,u≠.dK kvs)->H' b=some u:=fun{b u} e n h=>by
  rcases o b u e n with z|⟨kvs,_,z,_⟩
  ·exact z
  ·exact absurd z (h kvs)
 rcases O with h|⟨Y,oc,h1,h2,J⟩
 ·exact .inl (C h D fun _ z=>nomatch z)
 ·exact .inr ⟨Y,oc,C h1 D (fun _ z=>nomatch z),C h2 (fun z=>by rw[z,G]at h2;cases h2) (fun _ z=>nomatch z),J⟩
def ifS_go{t:TT}{B:TS}(p:Prop)(q:∀Q:Bool->Hp->Prop,(p->Q true H)->Q false H->t c H Q)(C:p->A E c H)(D:B E c H):tIfS t A B E c H:=q _ (fun h=>Y4 (C h)) (ZU D)
def Ge.same{nm:Ai}{u v:A0}{w C:Nat}{r q:Aj}(F:Ge nm u v w r)(G:Ge nm v u C q):w=C/\r=q:=by
 have ne:∀{w:Nat} {r:Aj},1<=w->r.length=w->r≠[]:=fun h e z=>by rw[z]at e;have:0=_:=e;lia
 have a:=F.least q (ne G.w1 G.len) G.lt G.df.swap;have b:=G.least r (ne F.w1 F.len) F.lt F.df.swap;rw[G.len]at a;rw[F.len]at b;obtain rfl:w=C:=by lia
 refine⟨rfl,?_⟩;rcases F.fst q G.len G.lt G.df.swap with e|⟨i,_,i1,i2⟩
 ·exact e.symm
 rcases G.fst r F.len F.lt F.df.swap with e|⟨j,_,j1,j2⟩
 ·exact e
 rcases Nat.lt_trichotomy i j with h|h|h
 ·have:=j1 i h;lia
 ·subst h;lia
 ·have:=i1 j h;lia
def Zo7.self     (h:Zo7 H f N u u):∃q,H f=some (.tup [.str "same",.ref q]):=by
 obtain⟨_,_,_,⟨q,_,_,e,_⟩|⟨_,_,_,_,_,_,_,F,_⟩⟩:=h
 ·exact⟨q,e⟩
 ·exact absurd rfl F.df
theorem tab_eq{a b:Ay}{ys:Ai}{f:Str->Int}(T:Tab a ys f)(U:Tab b ys f)(nd:ys.Nodup):a.length=b.length/\∀p∈a,Yd b p.1=some p.2/\Xb p.2=true:=⟨by rw[T.len_nd nd,U.len_nd nd],fun p q=>by
 obtain⟨y,C,rfl⟩:=T.all p q;exact⟨U.val y C,rfl⟩⟩
set_option genInjectivity false in
set_option genSizeOfSpec false in
structure Adr where
 ra:Au
 rf:Am
 nu:Au
 ny:Am
 abf:Au
 abg:Am
 dz:Au
 ee:Am
 ck:Au
 cm:Am
 nz:Au
 og:Am
 fy:Au
 ia:Am
 iw:Au
 ix:Am
 eh:Au
 et:Am
 iy:Au
 ka:Am
 eu:Au
 fe:Am
 nc:Au
 ng:Am
 oh:Au
 oj:Am
 rh:Au
 ri:Am
 kd:Au
 kv:Am
 dm:Au
 dn:Am
 aad:Au
 aae:Am
 nh:Au
 ni:Am
 rj:Au
 rn:Am
 br:Au
 bu:Am
 om:Au
 oq:Am
 lb:Au
 lg:Am
 lh:Au
 lj:Am
 ro:Au
 rp:Am
 rq:Au
 rr:Am
 ll:Au
 lq:Am
 aaf:Au
 aag:Am
 aah:Au
 aai:Am
 lr:Au
 lx:Am
 ib:Au
 ic:Am
 aaj:Au
 aak:Am
 aal:Au
 aam:Am
 sf:Au
 sh:Am
 cb:Au
 cf:Am
 sj:Au
 sr:Am
 aan:Au
 aao:Am
 ie:Au
 ig:Am
 ou:Au
 ov:Am
 ma:Au
 md:Am
 ow:Au
 ox:Am
 aap:Au
 aaq:Am
 oy:Au
 pd:Am
 ij:Au
 ik:Am
 cw:Au
 cx:Am
 me:Au
 mf:Am
 su:Au
 sy:Am
 dt:Au
 du:Am
 pe:Au
 pf:Am
 mh:Au
 mi:Am
 aar:Au
 aas:Am
 ff:Au
 fg:Am
 cy:Au
 bj:Am
 cg:Au
 ay:Am
 nj:Au
 nq:Am
 ti:Au
 tj:Am
 tu:Au
 ui:Am
 abh:Au
 abi:Am
 bo:Au
 ae:Au
 az:Au
 aa:Au
 aq:Au
 aj:Au
 ag:Au
 abm:Tok
 abd:Tok
 aw:Au
structure Kg(K:Af)(w:Ar)(mg:Ae)(x:Str)(a:Au)(l:List (Str×Int)):Prop where
 m:mg x=some (.ref a)
 d:KD K w a l
structure Kt(K:Af)(mg:Ae)(x:Str)(a:Au)(l:Ai):Prop where
 m:mg x=some (.ref a)
 d:∀H,SqT K H a (l.map V.str)
structure Df(K:Af)(mg:Ae)(x:Str)(st:Aw)(ps:Ai)(f:Au)(fd:Am):Prop where
 F:Fun K x x st f fd
 m:mg x=some (.ref f)
 b:Binds K fd ps []
def Df.go{mg:Ae}{st:Aw}{ps:Ai}{fd:Am}{k:Nat}{sp:Sp}(d:Df K mg x st ps f fd)(S:Zx N ps (Zg st))(len:∀vs H Q E,sp vs H Q E->vs.length=ps.length)(b:∀(C:As) (A:Ao) (outer:List Env) (s:Aq) (H:Hp) (vs:A0) (Q:VK) (E:XK),WT k (A.deeper (envOfC x (Zg st) s.heap.objs.size f C))->sp vs H Q E->∃t,QSs (Zgn CX0 P w K mg j N x (Zg st) f C A outer s H E).nox (Xv st) t/\t {nx:=fun _ H'=>Q .non H',rt:=Q} (start N vs) H):Yx P w K mg j CX0 (k+1) f fd ps sp:=d.F.ok S len fun c A o s H vs Q E D h=>let⟨t,q,r⟩:=b c A o s H vs Q E D h;⟨t,q.out,r⟩
def Zj {X:Cx}  {st:Aw} {ps:Ai}  {fd:Am} {k:Nat} {sp:Sp}    {t:TA} (d:Df X.K X.mg x st ps f fd) (F:Yx X.prog X.w X.K X.mg X.base CX0 k f fd ps sp) (I:WT n X.A) (J:QA X (e::B) t) (O:k<=n:=by decide) (D:Gl X x:=by exact rfl) (C:(x == ("__debug__" : Str))=false:=by decide) (G:(e::B).all ZX=true:=by rfl):QE X (.Call (.Name x p) (e::B) [] q) (Zdd sp [] E0 t):=Gk F (I.mono O) D d.m d.F.kp d.b .nil Zdo J C G
set_option genInjectivity false in
set_option genSizeOfSpec false in
structure Txt(K:Af)(w:Ar)(mg:Ae)(t:Adr):Prop where
 aq:Kg K w mg "SUM_PARTS" t.aq [("not",1),("neg",1),("twice",1),("low",1),("and",2),("or",2),("odd",2),("add",2),("sub",2),("pick",3)]
 aj:Kg K w mg "SUMS_IN_CLAIM" t.aj [("same",2),("under",2),("beneath",2),("sign",1),("nought",1)]
 ag:Kg K w mg "CLAIMS_IN_CLAIM" t.ag [("both",2),("either",2),("so",2),("never",1),("yes",0)]
 abn:mg "LETTERS" = some (.str "abcdefghijklmnopqrstuvwxyz" t.abm)
 abe:mg "LONGEST_NAME" = some (.int 8 t.abd)
 aw:Kt K mg "REMEMBERING" t.aw ["neg","twice","low","add","sub","same","under","beneath","nought"]
 fh:Df K mg "words_at" jZ ["width"] t.ra t.rf
 dg:Df K mg "number_of" zh ["bits"] t.nu t.ny
 abj:Df K mg "run" Zop ["machine","letters"] t.abf t.abg
 fj:Df K mg "layers_led_to" Jh ["machine","letters"] t.dz t.ee
 bf:Df K mg "letters_with_bit" YT ["letters","number","bit"] t.ck t.cm
 ph:Df K mg "goes_well" zi ["machine","state","letter","well","wanted"] t.nz t.og
 il:Df K mg "state_number" JI ["state","states","numbers"] t.fy t.ia
 mj:Df K mg "is_sum_word" Gz ["text"] t.iw t.ix
 fk:Df K mg "is_claim_word" Ji ["text"] t.eh t.et
 mm:Df K mg "sums_behind" G1 ["word"] t.iy t.ka
 fq:Df K mg "claims_behind" Jj ["word"] t.eu t.fe
 nt:Df K mg "is_made_of" Jk ["text","signs"] t.nc t.ng
 dh:Df K mg "remembers" zj ["word"] t.oh t.oj
 ft:Df K mg "borrowed" ya ["one","other","held"] t.rh t.ri
 mn:Df K mg "out_at_once" G4 ["word","parts"] t.kd t.kv
 dw:Df K mg "longest_number" Xx ["words"] t.dm t.dn
 cq:Df K mg "bits_at" zk ["columns","letter"] t.aad t.aae
 bq:Df K mg "next_pairs" qP ["one","other","pair"] t.nh t.ni
 bz:Df K mg "partings" qr ["one","other","pair"] t.rj t.rn
 bw:Df K mg "least_width_of_truth" Xd ["machine"] t.br t.bu
 bc:Df K mg "_law_whole" zl ["found"] t.om t.oq
 ak:Df K mg "_law_cell_at" G5 ["script","k"] t.lb t.lg
 bh:Df K mg "_law_numbers" G6 ["cell","many","most"] t.lh t.lj
 uj:Df K mg "_law_atom" yb ["number","names"] t.ro t.rp
 vl:Df K mg "_law_word" yc ["number","left"] t.rq t.rr
 mq:Df K mg "_law_carries" Wy ["words"] t.ll t.lq
 aat:Df K mg "_law_one" ky ["word","one"] t.aaf t.aag
 aau:Df K mg "_law_two" kz ["word","one","other"] t.aah t.aai
 mr:Df K mg "_law_lets_by" G7 ["one","other","paper"] t.lr t.lx
 ip:Df K mg "_law_names_in" XZ ["words","names"] t.ib t.ic
 aav:Df K mg "_law_put" k4 ["words","names","cell"] t.aaj t.aak
 aaw:Df K mg "_law_cut" k6 ["values","width"] t.aal t.aam
 vr:Df K mg "words_of" qt ["names","letters"] t.sf t.sh
 bb:Df K mg "states_going_well" YK ["machine","states","letters","well","wanted"] t.cb t.cf
 wh:Df K mg "parts_of" yd ["word"] t.sj t.sr
 aax:Df K mg "is_name" k7 ["text"] t.aan t.aao
 iq:Df K mg "name_columns" Wa ["names","letters"] t.ie t.ig
 pj:Df K mg "kept_then" zm ["word","parts","held"] t.ou t.ov
 mw:Df K mg "out_by_kept" G8 ["word","parts","held","then"] t.ma t.md
 qs:Df K mg "_law_names" Wz ["cell","many"] t.ow t.ox
 iu:Df K mg "_law_sum" k9 ["numbers","names","most"] t.aap t.aaq
 di:Df K mg "_law_worth" zo ["words","width","values"] t.oy t.pd
 ir:Df K mg "_law_is_paper" JJ ["found"] t.ij t.ik
 cz:Df K mg "with_least_word" Wi ["machine","letters","number","wanted"] t.cw t.cx
 mx:Df K mg "parts_taken" W3 ["stack","word"] t.me t.mf
 aaa:Df K mg "names_of" qu ["words"] t.su t.sy
 dy:Df K mg "_law_is_verdict" WG ["found","names"] t.dt t.du
 bx:Df K mg "_law_alike" zp ["one","other","width","values"] t.pe t.pf
 my:Df K mg "first_words" X6 ["machine","width","wanted"] t.mh t.mi
 cu:Df K mg "stepped" kA ["words","columns","place","kept"] t.aar t.aas
 ao:Df K mg "machine_found" XG ["names","begin","step_of"] t.ff t.fg
 dc:Df K mg "machine_telling" ZV ["words","names","told"] t.cy t.bj
 cj:Df K mg "machines_compared" YL ["one","other"] t.cg t.ay
 ax:Df K mg "machine_of" qQ ["words","names"] t.nj t.nq
 bp:Df K mg "compared" ye ["one","other"] t.ti t.tj
 fu:Df K mg "_law_fits" yf ["found","one","other","names"] t.tu t.ui
 abq:Df K mg "law" Zmg ["script"] t.abh t.abi
 aaz:t.bj.code=.ref t.bo
 aac:t.ay.code=.ref t.az
 av:t.ae≠t.aa
 abk:mg "abs" = none
 abr:mg "all" = none
 abt:mg "any" = none
 abo:mg "bool" = none
 abp:mg "dict" = none
 dj:mg "enumerate" = none
 mz:mg "int" = none
 ah:mg "isinstance" = none
 af:mg "len" = none
 aay:mg "list" = none
 abu:mg "max" = none
 abv:mg "min" = none
 au:mg "range" = none
 aab:mg "reversed" = none
 abw:mg "set" = none
 abb:mg "sorted" = none
 abl:mg "str" = none
 ai:mg "tuple" = none
 abc:mg "zip" = none
set_option genInjectivity false in
set_option genSizeOfSpec false in
structure Tbs(mg:Ae)(base:Heap)(t:Adr):Prop where
 bo:PySem.W.CodeHd base t.bo t.ae
 az:PySem.W.CodeHd base t.az t.aa
 B:yK mg base
def W6:Zx ["width","many","bit_number"] ["width"] (Zg jZ):={}
def XQ:Zx ["bits","number","bit"] ["bits"] (Zg zh):={}
def zP:Zx ["machine","letters","state","steps","out","row","letter"] ["machine","letters"] (Zg Zop):={}
def ZS:Zx ["machine","letters","steps","layers","some","layer","state","letter"] ["machine","letters"] (Zg Jh):={}
def Gf:Zx ["letters","number","bit"] ["letters","number","bit"] (Zg YT):={}
def wm:Zx ["machine","state","letter","well","wanted"] ["machine","state","letter","well","wanted"] (Zg zi):={}
def zQ:Zx ["state","states","numbers"] ["state","states","numbers"] (Zg JI):={}
def jm:Zx ["text"] ["text"] (Zg Gz):={}
def xr:Zx ["text"] ["text"] (Zg Ji):={}
def jn:Zx ["word"] ["word"] (Zg G1):={}
def xt:Zx ["word"] ["word"] (Zg Jj):={}
def vv:Zx ["text","signs"] ["text","signs"] (Zg Jk):={}
def wo:Zx ["word"] ["word"] (Zg zj):={}
def gT:Zx ["one","other","held"] ["one","other","held"] (Zg ya):={}
def jo:Zx ["word","parts"] ["word","parts"] (Zg G4):={}
def qB:Zx ["words"] ["words"] (Zg Xx):={}
def Zb1:Zx ["columns","letter"] ["columns","letter"] (Zg zk):={}
def vw:Zx ["one","other","pair"] ["one","other","pair"] (Zg qP):={}
def gU:Zx ["one","other","pair"] ["one","other","pair"] (Zg qr):={}
def ZI:Zx ["machine","widths","state","row","led_to"] ["machine"] (Zg Xd):={}
def wq:Zx ["found"] ["found"] (Zg zl):={}
def jq:Zx ["script","k"] ["script","k"] (Zg G5):={}
def ZE:Zx ["cell","many","most","found","rest","k","one","two"] ["cell","many","most"] (Zg G6):={}
def gW:Zx ["number","names"] ["number","names"] (Zg yb):={}
def W7:Zx ["number","left","words","word"] ["number","left"] (Zg yc):={}
def jr:Zx ["words"] ["words"] (Zg Wy):={}
def Zb2:Zx ["word","one"] ["word","one"] (Zg ky):={}
def Zb3:Zx ["word","one","other"] ["word","one","other"] (Zg kz):={}
def Yv:Zx ["one","other","paper","there","pair","left","right","behind"] ["one","other","paper"] (Zg G7):={}
def zR:Zx ["words","names"] ["words","names"] (Zg XZ):={}
def Xp:Zx ["words","names","cell","at","word","new","some"] ["words","names","cell"] (Zg k4):={}
def qC:Zx ["values","width","shorter","name"] ["values","width"] (Zg k6):={}
def W8:Zx ["names","letters","words","place","name"] ["names","letters"] (Zg qt):={}
def YA:Zx ["machine","states","letters","well","wanted","going","state"] ["machine","states","letters","well","wanted"] (Zg YK):={}
def gX:Zx ["word"] ["word"] (Zg yd):={}
def Zb4:Zx ["text"] ["text"] (Zg k7):={}
def YZ:Zx ["names","letters","columns","place","name"] ["names","letters"] (Zg Wa):={}
def qV:Zx ["word","parts","held","one"] ["word","parts","held"] (Zg zm):={}
def jt:Zx ["word","parts","held","then"] ["word","parts","held","then"] (Zg G8):={}
def Yh:Zx ["cell","many","xs","menu","some","base","at","turn"] ["cell","many"] (Zg Wz):={}
def ZQ:Zx ["numbers","names","most","some","left","number","word","wants","built","part"] ["numbers","names","most"] (Zg k9):={}
def YM:Zx ["words","width","values","size","told","word","one","other"] ["words","width","values"] (Zg zo):={}
def Jo:Zx ["found","pair"] ["found"] (Zg JJ):={}
def Z7:Zx ["machine","letters","number","wanted","layers","left","well","place","chosen","going"] ["machine","letters","number","wanted"] (Zg Wi):={}
def ju:Zx ["stack","word"] ["stack","word"] (Zg W3):={}
def gY:Zx ["words"] ["words"] (Zg qu):={}
def Wl:Zx ["found","names","name"] ["found","names"] (Zg WG):={}
def qW:Zx ["one","other","width","values","shorter"] ["one","other","width","values"] (Zg zp):={}
def Yj:Zx ["machine","width","wanted","names","all_letters","letters","number","row"] ["machine","width","wanted"] (Zg X6):={}
def X8:Zx ["words","columns","place","kept","stack","later","word","parts","held"] ["words","columns","place","kept"] (Zg kA):={}
def Yb:Zx ["names","begin","step_of","states","numbers","steps","out","told"] ["names","begin","step_of"] (Zg XG):={}
def ZR:Zx ["words","names","told","letters","columns","last_place","step_of","begin"] ["words","names","told"] (Zg ZV):={}
def Yn:Zx ["one","other","begins","found","width"] ["one","other"] (Zg YL):={}
def vx:Zx ["words","names"] ["words","names"] (Zg qQ):={}
def zS:Zx ["one","other","names"] ["one","other"] (Zg ye):={}
def gZ:Zx ["found","one","other","names"] ["found","one","other","names"] (Zg yf):={}
def XR:Zx ["script","all_names","many","one","other","names","kept","found","k","width","values","i","back"] ["script"] (Zg Zmg):={}
def J8:Zl8 (Zg YU) ["state"] ["step","place","reached"] ["words","columns","last_place","letters","told"]:=⟨by rfl,by rfl,by rfl,by decide +kernel,by decide +kernel,by decide +kernel,by decide +kernel⟩
section
variable (P:An){w:Ar}{K:Af}{mg:Ae}(base:Heap){t:Adr}
variable (T:Txt K w mg t)(TB:Tbs mg base t)
include T TB
inductive GK(vs:A0)(H:Hp)(Q:VK):Prop
 |mk (w:Nat):(vs=[.int w])->(w<=1000)->(Q (.int (2^w)) H)->GK vs H Q
def ua(K:Af):Sp:=fun vs H Q _=>GK vs H Q
theorem zT:Yx P w K mg base CX0 1 t.ra t.rf ["width"] (ua K):=by
 refine T.fh.go W6 (by rintro _ _ _ _ ⟨_,rfl,_⟩;rfl) ?_;rintro q A outer s H _ Q E C ⟨w,rfl,hw,k⟩;have G:=ZK C;refine⟨_,(Zb (Z4 1 W6.nd Ze)
   (Zb (Yk Qa7 rfl (YC rfl T.au (Zh (qv 0) Zd)) (YB 2 W6.nd)
   (Zf (Z4 1 W6.nd (Zs Wr (qv 1) Ze))))
   (Zf (Zn (qv 1))))),?_⟩
 refine L2.let3 ?_;intro D F;refine⟨_,rfl,(w:Int),rfl,by lia,by lia,Wb (fun i σ H2=>∃v,σ=[some (.int w),some (.int (2^i)),v]/\H2=H) ⟨none,rfl,rfl⟩ ?_ ?_⟩
 ·rintro i σ H2 hi ⟨v,rfl,rfl⟩;refine⟨_,rfl,_,_,rfl,rfl,.inr (.inr ⟨by decide,by decide⟩),some (.int (0+(i:Int))),?_,rfl⟩;rfl
 ·rintro σ H2 ⟨v,rfl,rfl⟩;refine⟨_,rfl,?_⟩;exact k
omit T TB in
theorem Zir{x:V}(h:(I.map V.int)[i]?=some x):∃b,x=V.int b/\I[i]?=some b:=by grind
inductive JM(K:Af)(vs:A0)(H:Hp)(Q:VK):Prop
 |mk (p:Au) (ns:Ak):(vs=[.ref p])->(SqT K H p (ns.map V.int))->(Q (.int (hor ns.reverse)) H)->JM K vs H Q
def wt(K:Af):Sp:=fun vs H Q _=>JM K vs H Q
theorem qX:Yx P w K mg base CX0 1 t.nu t.ny ["bits"] (wt K):=by
 refine T.dg.go XQ (by rintro _ _ _ _ ⟨_,_,rfl,_⟩;rfl) ?_;rintro D A outer s H _ Q E F ⟨p,ns,rfl,q,k⟩;have O:=ZK F;refine⟨_,(Zb (Z4 1 XQ.nd Ze)
   (Zb (Yk Qa7 rfl (Zdw rfl T.aab (qv 0)) (YB 2 XQ.nd)
   (Zf (Z4 1 XQ.nd (Zs Yz (Zs Wr (qv 1) Ze) (qv 2)))))
   (Zf (Zn (qv 1))))),?_⟩
 refine L2.let3 ?_;intro I J;refine⟨_,rfl,p,_,rfl,q,Zdx (K:=K) (a:=p) (xs:=ns.map V.int) (fun i σ H2=>∃v,σ=[some (.ref p),some (.int (hor (ns.reverse.take i))),v]/\H2=H) ⟨none,rfl,rfl⟩ (fun i σ H2 _ ⟨_,_,e⟩=>by rw[e];exact q) ?_ ?_⟩
 ·rintro i x σ H2 C ⟨v,rfl,rfl⟩;rw[<-List.map_reverse]at C;obtain⟨b,rfl,G⟩:=Zir C;refine⟨_,rfl,_,_,rfl,rfl,.inr (.inr ⟨by decide,by decide⟩),_,rfl,_,_,rfl,rfl,some (.int b),?_,rfl⟩;rw[Zh9 G];rfl
 ·rintro σ H2 ⟨v,rfl,rfl⟩;refine⟨_,rfl,?_⟩;rw[Qce (by grind)];exact k
inductive Za2(vs:A0)(H:Hp)(Q:VK):Prop
 |mk (m p:Au) (S L b:Nat) (nv:V) (nx:Nat->Nat->Nat) (ot:Nat->Nat->V) (ls:Aj):(vs=[.ref m,.ref p])->(Zkg H m S L nv b nx ot)->(H p=some (.tup (ls.map Xe)))->((∀l∈ls,l<L))->(ls.length<=1000000)->(∀q H',H q=none->H' q=some (.tup (wk nx ot b ls))->Z8 H H'->Q (.ref q) H')->Za2 vs H Q
def sp_run(K:Af):Sp:=fun vs H Q _=>Za2 vs H Q
theorem ok_run:Yx P w K mg base CX0 1 t.abf t.abg ["machine","letters"] (sp_run K):=by
 refine T.abj.go zP (by rintro _ _ _ _ ⟨_,_,_,_,_,_,_,_,_,rfl,_⟩;rfl) ?_;rintro cdv A outer s H _ Q E D ⟨m,p,S,L,b,nv,nx,ot,ls,rfl,M,hp,Y,hlen,k⟩;have hu:=ZK D;refine⟨_,(Zb (Z4 2 zP.nd (Zq Zr (qv 0) Ze))
   (Zb (Z4 3 zP.nd (Zq Zr (qv 0) Ze))
   (Zb (Z4 4 zP.nd (Zq Zr (qv 0) Ze))
   (Zb (Z4 5 zP.nd (Yq Zd))
   (Zb (Yk Qa7 rfl (Xs (qv 1)) (YB 6 zP.nd)
   (Zb (Yi (YD Qaw Qa0 Qa1 ZH (qv 5) (Zh (Zq Zr (Zq Zr (qv 4) (qv 2)) (qv 6)) Zd)))
   (Zf (Z4 2 zP.nd (Zq Zr (Zq Zr (qv 3) (qv 2)) (qv 6))))))
   (Zf (Zn (ZC Z6 (by rfl) T.ai ZP (Zh (qv 5) Zd))))))))),?_⟩
 refine L2.let6 ?_;intro U5 U4 U3 U2 U1;obtain⟨ps,po,J,RS,RO⟩:=M.ex;refine⟨_,rfl,m,_,1,_,rfl,rfl,SqT.of J,rfl,_,rfl,m,_,2,_,rfl,rfl,SqT.of J,rfl,_,rfl,m,_,3,_,rfl,rfl,SqT.of J,rfl,?_⟩;refine⟨by decide,fun r D=>?_⟩;refine⟨_,rfl,p,rfl,⟨_,SqT.of (Zc D _ _ hp)⟩,?_⟩;refine WX (K:=K) (a:=p) (xs:=ls.map Xe) (fun i σ H2=>∃u,σ=[some (.ref m),some (.ref p),some (.int (Zgr nx b (ls.take i):Nat)),some (.ref ps),some (.ref po),some (.ref r),u]/\H2 r=some (.lst (wk nx ot b (ls.take i)))/\Z8 H H2) ⟨none,rfl,Za,Zc D⟩ (fun i σ H2 _ ⟨u,_,_,C⟩=>SqT.of (C _ _ hp)) ?_ ?_
 ·rintro i x σ H2 I ⟨u,rfl,h2,C⟩;obtain⟨l,rfl,F⟩:=z6 I;have O:=Y l (Qag F);have st:=Zfa M.nx (ls.take i) b M.b fun x I=>Y x (Qch I);obtain⟨as,ho,go⟩:=RO.ex;obtain⟨a,xs,o1,o2,o3⟩:=go _ st;obtain⟨bs,hs,gs⟩:=RS.ex;obtain⟨c,ys,t1,t2,t3⟩:=gs _ st;have G:=ZY (p:=r) (o:=.lst (wk nx ot b (ls.take i)++[ot (Zgr nx b (ls.take i)) l])) C D;refine⟨_,rfl,.inl ⟨rfl,_,SqL.of h2⟩,_,rfl,_,rfl,po,_,_,_,rfl,rfl,SqT.of (C _ _ ho),Ya o1,_,rfl,a,_,_,_,rfl,rfl,SqT.of (C _ _ o2),Ya (o3 l O),r,_,_,rfl,rfl,h2,?_,?_⟩
  ·rw[Zkh,Qas];exact Xf (by lia)
  refine⟨_,rfl,_,rfl,ps,_,_,_,rfl,rfl,SqT.of (G _ _ hs),Ya t1,_,rfl,c,_,_,_,rfl,rfl,SqT.of (G _ _ t2),Ya (t3 l O),some (.int l),?_,?_,G⟩
  ·rw[take_snoc F,Zal];rfl
  ·rw[Za,take_snoc F,Ze9];rfl
 ·rintro σ H2 ⟨u,rfl,h2,C⟩;rw[Qad,Qbf]at h2;exact⟨_,rfl,r,_,rfl,.inl ⟨SqL.of h2,fun q Z=>k q _ (C.free Z) Za (C.trans (Zc Z))⟩⟩
inductive XS(vs:A0)(H:Hp)(Q:VK):Prop
 |mk (m a:Au) (nm:Ai) (b:Nat) (nx:Ad) (ot:Ax) (n:Nat) (Ls:Ad):(vs=[.ref m,.ref a])->(M4 H m nm b nx ot)->(Runs nx ot n)->(b<nx.length)->(nx.length<=1000000)->(wa H a Ls)->(Ls≠[])->((∀L∈Ls,L.length<=1000/\∀l∈L,l<2^n))->(Ls.length<=1000000)->(∀p H',H p=none->Zgs H' p (lys (mN nx) [b] Ls)->SmF H H'->Q (.ref p) H')->XS vs H Q
def xu(K:Af):Sp:=fun vs H Q _=>XS vs H Q
theorem xw:Yx P w K mg base CX0 1 t.dz t.ee ["machine","letters"] (xu K):=by
 refine T.fj.go ZS (by rintro _ _ _ _ ⟨_,_,_,_,_,_,_,_,rfl,_⟩;rfl) ?_;rintro cdv A outer s H _ Q E hr ⟨m,a,nm,b,nx,ot,n,Ls,rfl,M,R,hb,hN,hA,hne,hL,hw,k⟩;have hu:=ZK hr;refine⟨_,(Zb (Z4 2 ZS.nd (Zq Zr (qv 0) Ze))
   (Zb (Z4 3 ZS.nd (Yq (Zh (gp (yM (Zq Zr (qv 0) Ze) Xi gn) rfl rfl (fun z=>nomatch z) (by decide)) Zd)))
   (Zb (Yk Qa7 rfl (XD (Y5 JW (qv 1) YJ (XE (XC Xz Ze)))) (YB 4 ZS.nd)
   (Zb (Z4 5 ZS.nd qh)
   (Zb (Yk Qa7 rfl (yP (Zq Z2 (qv 3) (XC Xz Ze))) (YB 6 ZS.nd)
   (Zf (Yk Qa7 rfl (Xs (qv 4)) (YB 7 ZS.nd)
   (Zf (Jd hu (qv 5) (Zq Zr (Zq Zr (qv 2) (qv 6)) (qv 7)) Xi rfl)))))
   (Zf (Yi (YD Qaw Qa0 Qa1 ZH (qv 3) (Zh (qv 5) Zd)))))))
   (Zf (Zn (qv 3)))))),?_⟩
 refine L2.let4 ?_;intro U3 U2 U1;obtain⟨pn,ps,po,h1,_,Rs,Ro⟩:=M.ex;obtain⟨as,ha,hal,hat⟩:=hA;have lyl:=gP (nx:=mN nx) Ls [b];have lyok:=Zf1 (nx:=mN nx) (N:=nx.length) (M:=2^n) (fun s l hs hl=>R.mN hs hl) (Ls:=Ls) (S:=[b]) (Qc4.mpr ⟨Qbo,Qdb⟩) (fun s hs=>by rw[Qat.mp hs];exact hb) (fun L h=>(hL L h).2);have ly1:1<=Ls.length/\(lys (mN nx) [b] Ls).take 1=[[b]]:=by
  cases Ls with
  |nil=>exact absurd rfl hne
  |cons _ _=>exact⟨Nat.succ_le_succ (Qbp _),rfl⟩
 refine⟨_,rfl,m,_,2,_,rfl,rfl,SqT.of h1,rfl,Zi ?_⟩;refine fun d hd=>?_;have sd:=Zc (o:=.dK []) hd;refine⟨_,rfl,m,_,1,_,rfl,rfl,SqT.of (sd _ _ h1),rfl,Za,[(.inl (b:Int),.bl true)],rfl,by show 1<=15;decide,Zcm,fun p hp=>Zi ?_⟩;rw[yu]at hp ⊢;have sd2:=Zc (o:=.dK (WE [] [((.inl (b:Int):Key),V.bl true)])) hd;have s2:=sd2.trans (Zc (o:=.lst [.ref d]) hp);have hpH:=sd2.free hp;have hd2:=Zc (o:=.lst [.ref d]) hp _ _ (Za (H:=H) (a:=d) (o:=.dK (WE [] [((.inl (b:Int):Key),V.bl true)])));have ly0:Zgs (upd (upd H d (.dK (WE [] [((.inl (b:Int):Key),V.bl true)]))) p (.lst [.ref d])) p ((lys (mN nx) [b] Ls).take 1):=by
  rw[ly1.2];refine⟨_,Za,rfl,fun i S hi=>?_⟩
  match i,hi with
  |0,hi=>
   cases hi;exact⟨d,rfl,.inl hd2⟩
 have D:qe as none (some (-1))=as.take (as.length-1):=kU (xs:=as) (n:=1) (by lia) (by decide);refine⟨_,rfl,_,rfl,_,rfl,a,as,rfl,SqL.of (s2 _ _ ha),fun q hq=>⟨q,rfl,⟨_,SqL.of Za⟩,x9 (K:=K) (a:=q) (xs:=qe as none (some (-1))) (fun i σ H'=>∃(u4 u5 u6 C:Option V),σ=[some (.ref m),some (.ref a),some (.ref ps),some (.ref p),u4,u5,u6,C]/\i+1<=Ls.length/\Zgs H' p ((lys (mN nx) [b] Ls).take (i+1))/\H' q=some (.lst (qe as none (some (-1))))/\SmF H H') ⟨none,none,none,none,rfl,ly1.1,ly0.smf (SmF.of (Zc hq)),Za,(SmF.of s2).trans (SmF.of (Zc hq))⟩ (fun i σ H' _ ⟨_,_,_,_,_,_,_,h,_⟩=>SqL.of h) ?_ ?_⟩⟩
 ·rintro i x σ H1 hx ⟨u4,u5,u6,C,rfl,hi,⟨zs,hz1,hz2,hz3⟩,hq1,s3⟩;rw[D,Qgp]at hx;have hi2:i+1<Ls.length:=by
   rcases Qd7 i (as.length-1)with z|z
   ·lia
   ·rw[Qa4 (by lia)]at hx;cases hx
  rw[Qba (by lia)]at hx;obtain⟨L,hLi⟩:∃L,Ls[i]?=some L:=⟨_,Qac (by lia)⟩;obtain⟨x0,hx0,htl⟩:=hat i L hLi;rw[hx]at hx0;cases hx0;obtain⟨hL1,hL2⟩:=hL L (Qag hLi);obtain⟨S,hSi⟩:∃S,(lys (mN nx) [b] Ls)[i]?=some S:=⟨_,Qac (by lia)⟩;obtain⟨hS1,hS2⟩:=lyok S (Qag hSi);have J:=Zay hSi hLi hi2;rw[Qas]at hz2;have hzl:zs.length=i+1:=by lia
  obtain⟨dl,hdl,rdl⟩:=hz3 i S (by rw[Qgp,Qba (by lia)];exact hSi);have ezs:zs=zs.take i++[.ref dl]:=by
   rw[<-take_snoc hdl,<-hzl,Qbf]
  have Z:atI zs (-1)=some (.ref dl):=by rw[ezs];exact yy _ _
  refine Zi fun e he=>Zi ?_;have se:=SmF.of (Zc (o:=.dK []) he);have rd2:=se.rd rdl;refine⟨_,rfl,_,rfl,p,_,-1,_,rfl,rfl,SqL.of (se.lst hz1),Z,dl,_,rfl,rd2,fun o ho=>yF (kvs:=twK S) (fun j σ H'=>∃(u6 C:Option V),σ=[some (.ref m),some (.ref a),some (.ref ps),some (.ref p),some (.ref x0),some (.ref e),u6,C]/\H' dl=some (.frz o (.dK (twK S)))/\H' e=some (.dK (twK (((S.take j).flatMap fun s=>L.map (mN nx s)).foldl Yy [])))/\SmF H1 H') ⟨_,_,rfl,Za,?_,se.trans (SmF.frz rd2 ho)⟩ (fun i σ H' _ ⟨_,_,_,h,_⟩=>h) ?_ ?_⟩
  ·have hed:e≠dl:=fun z=>by
    subst z;rcases rdl with z|⟨_,z⟩<;>rw[he]at z<;>cases z
   rw[Zk hed,Za];rfl
  ·rintro j pr σ H3 hpr ⟨u6,C,rfl,g1,g2,I⟩;unfold twK at hpr;rw[Qam]at hpr;obtain⟨s,hs,rfl⟩:=Qbq.mp hpr;have hsS:=Qag hs;have G:=hS2 s hsS;have O:=s3.trans I;have F:=O.tup htl;obtain⟨pn3,ps3,po3,m1,_,Rs3,_⟩:=(M.smf O).ex;rw[O.tup h1]at m1;cases m1;obtain⟨as1,a1,r1,r2,r3⟩:=Xy Rs3 (i:=s) (by rw[Qad];exact G);rw[Jm]at r3;have l1:=R.nr _ (getD_mem G);have hde:dl≠e:=fun z=>by rw[z,g2]at g1;cases g1
   refine Zi ⟨_,rfl,x0,rfl,⟨_,SqT.of F⟩,WX (K:=K) (a:=x0) (xs:=L.map Xe) (fun c σ H'=>∃(C:Option V),σ=[some (.ref m),some (.ref a),some (.ref ps),some (.ref p),some (.ref x0),some (.ref e),some (.int (s:Int)),C]/\H' dl=some (.frz o (.dK (twK S)))/\H' e=some (.dK (twK ((((S.take j).flatMap fun s=>L.map (mN nx s))++(L.take c).map (mN nx s)).foldl Yy [])))/\SmF H1 H'/\∀b xs,H3 b=some (.tup xs)->H' b=some (.tup xs)) ⟨_,rfl,g1,by rw[List.take_zero,List.map_nil,Qbm];exact g2,I,fun _ _ z=>z⟩ (fun c σ H' _ ⟨_,_,_,_,_,z⟩=>SqT.of (z _ _ F)) ?_ ?_⟩
   ·rintro c y σ H4 hy ⟨C,rfl,f1,f2,s5,tp⟩;rw[Qam]at hy;obtain⟨l,hl,rfl⟩:=Qbq.mp hy;have hlL:=hL2 l (Qag hl);have hsz:((((S.take j).flatMap fun s=>L.map (mN nx s))++(L.take c).map (mN nx s)).foldl Yy []).length<=nx.length:=Zm9 fun x hx=>by
     rcases Qbb.mp hx with z|z
     ·obtain⟨s',hs',z⟩:=List.mem_flatMap.mp z;obtain⟨l',Y,rfl⟩:=Qay.mp z;exact R.mN (hS2 s' (Qch hs')) (hL2 l' Y)
     ·obtain⟨l',Y,rfl⟩:=Qay.mp z;exact R.mN G (hL2 l' (Qch Y))
    refine Zi ⟨_,rfl,_,rfl,_,rfl,ps,_,_,_,rfl,rfl,SqT.of (tp _ _ r1),r2,_,rfl,a1,_,_,_,rfl,rfl,SqT.of (tp _ _ r3),Ya (gO (show l<(nx.getD s []).length by lia)),e,_,rfl,uN.k (k:=.inl (((nx.getD s []).getD l 0:Nat):Int)) f2 (by rw[zJ];exact Xf (by lia)),_,rfl,by rw[Zk hde];exact f1,?_,s5.put he,fun b xs z=>?_⟩
    ·rw[Za,Zf0,take_snoc hl,Qbd,<-Qcy,Qc8 (l':=List.map _ [l])];rfl
    ·rw[Zk (X9 z (show H3 e=_ from g2) fun q=>nomatch q)];exact tp b xs z
   ·rintro σ H4 ⟨C,rfl,f1,f2,s5,_⟩;rw[Qad,Qbf]at f2;exact⟨_,_,rfl,f1,by rw[Zf3 hs];exact f2,s5⟩
  ·rintro σ H3 ⟨u6,C,rfl,g1,g2,I⟩;rw[zJ,Qbf]at g2;have hz4:=I.lst hz1;have hq4:=I.lst hq1;have hpq:q≠p:=fun z=>by
    subst z;obtain⟨w0,hw0,_⟩:=ly0;rw[hq]at hw0;cases hw0
   refine⟨_,rfl,.inl ⟨rfl,_,SqL.of hz4⟩,_,rfl,p,_,_,rfl,rfl,hz4,by rw[hzl];exact Xf (by lia),_,_,_,_,rfl,hi2,?_,by rw[Zk hpq];exact hq4,(s3.trans I).put hpH⟩;rw[take_snoc J];exact Zgs.more (H':=H3) hz4 (by rw[Qas];lia) (fun j S' hj=>by
    obtain⟨a9,y1,y2⟩:=hz3 j S' hj;exact⟨a9,y1,I.rd y2⟩) g2
 ·rintro σ H1 ⟨u4,u5,u6,C,rfl,hi,ly,hq1,s3⟩;rw[D,Qas]at ly hi;refine⟨_,rfl,k p H1 hpH ?_ s3⟩;rw[show min (as.length-1) as.length+1=(lys (mN nx) [b] Ls).length by lia,Qbf]at ly;exact ly
inductive Xu(vs:A0)(H:Hp)(Q:VK):Prop
 |mk (a:Au) (L:Aj) (kb b:Nat):(vs=[.ref a,.int (kb:Int),.int (b:Int)])->(H a=some (.tup (L.map Xe)))->(L.length<=1000)->(kb<=3)->(∀p H',H p=none->H' p=some (.tup ((chs kb b L).map Xe))->Z8 H H'->Q (.ref p) H')->Xu vs H Q
def Gg(K:Af):Sp:=fun vs H Q _=>Xu vs H Q
theorem Gh:Yx P w K mg base CX0 1 t.ck t.cm ["letters","number","bit"] (Gg K):=by
 refine T.bf.go Gf (by rintro _ _ _ _ ⟨_,_,_,_,rfl,_⟩;rfl) ?_;rintro Y A outer s H _ Q E Z ⟨a,L,J,b,rfl,I,O,hkb,k⟩;have hu:=ZK Z;refine⟨_,(Zf (Zn (ZC Z6 (by rfl) T.ai ZP (Zh (Y0 ({}:ZZ (Zg YT) _ ["letters","number","bit"] "letter" ["bit","number"] [2,1]) (Xs (qv 0)) (fun _ _ _ _=>(jM (Zo Ys (Zs Xc (Zs jI (qv 0) (qv 2)) Ze) (qv 1) (Z3 _)))) (fun _ _ _ _=>(qv 0))) Zd)))),?_⟩;refine⟨_,rfl,a,rfl,⟨_,SqT.of I⟩,zd (xs:=L.map Xe) (Zo5 J b) Z8 Z8.refl (fun _ _ _ x y=>x.trans y) (fun H1 q=>SqT.of (q _ _ I)) (by rw[Qad];exact Qau (Zy O)) (fun x F H1 q R hR=>?_) (fun x F H1 R hR=>⟨_,rfl,hR⟩) (fun H1 l q C=>?_)⟩
 ·obtain⟨y,_,rfl⟩:=Qay.mp F;refine⟨_,rfl,_,rfl,_,_,rfl,rfl,Qca _,_,_,rfl,rfl,_,rfl,rfl,_,rfl,?_⟩;rw[bit_of];exact hR H1 (Z8.refl H1)
 have G:=q.trans (Zc (o:=.lst ((L.map Xe).filter (Zo5 J b))) C);refine⟨l,_,rfl,.inl ⟨SqL.of Za,fun p D=>?_⟩⟩;exact k p _ (G.free D) (by rw[Za,zK]) (G.trans (Zc D))
inductive JN(vs:A0)(H:Hp)(Q:VK):Prop
 |mk (m:Au) (nm:Ai) (b:Nat) (nx:Ad) (ot:Ax) (n s c:Nat) (W:Option (Aj)) (wv v:V) (tr:Bool):(vs=[.ref m,.int (s:Int),.int (c:Int),wv,v])->(M4 H m nm b nx ot)->(Runs nx ot n)->(s<nx.length)->(c<2^n)->(yq H wv W)->(YY tr v)->((∀r∈ot,∀x∈r,YY tr x))->(Q (.bl (gw (mN nx) (mB ot v) W s c)) H)->JN vs H Q
def wu(K:Af):Sp:=fun vs H Q _=>JN vs H Q
theorem wx:Yx P w K mg base CX0 1 t.nz t.og ["machine","state","letter","well","wanted"] (wu K):=by
 refine T.ph.go wm (by rintro _ _ _ _ ⟨_,_,_,_,_,_,_,_,_,_,_,_,rfl,_⟩;rfl) ?_;rintro Y A outer s H _ Q E hr ⟨m,nm,b,nx,ot,n,s,c,W,wv,v,tr,rfl,M,R,C,hc,hw,J,hk,k⟩;have hu:=ZK hr;refine⟨_,(Zb (Z9 (Zo Zi7 (qv 3) uE (by with_unfolding_all rfl))
   (Zf (Zn (YI Ys (Zq Zr (Zq Zr (Zq Zr (qv 0) Ze) (qv 1)) (qv 2)) (qv 4) (Z3 _)))) Zv)
   (Zf (Zn (YI (qi hu) (Zq Zr (Zq Zr (Zq Zr (qv 0) Ze) (qv 1)) (qv 2)) (qv 3) (by with_unfolding_all rfl))))),?_⟩
 refine L2.let2 ?_;intro U1;obtain⟨pn,ps,po,h1,_,I,Ro⟩:=M.ex;have q:s<ot.length:=by rw[R.ol];exact C
 have l1:=R.nr _ (getD_mem C);have l2:=R.or _ (getD_mem q);obtain⟨F,a1,g1,g2,D⟩:=Xy I (i:=s) (by rw[Qad];exact C);obtain⟨O,a2,f1,Z,f3⟩:=Xy Ro q;rw[Jm]at D;refine⟨_,rfl,rfl,_,rfl,?_⟩;rcases hw with⟨rfl,rfl⟩|⟨d,l,rfl,rfl,G⟩
 ·have e:=getD_at (d:=V.non) (show c<(ot.getD s []).length by lia);exact Y4 ⟨_,rfl,m,_,3,_,rfl,rfl,SqT.of h1,rfl,_,rfl,po,_,_,_,rfl,rfl,SqT.of f1,Z,_,rfl,a2,_,_,_,rfl,rfl,SqT.of f3,Ya e,_,rfl,zH (hk _ (getD_mem q) _ (Qag e)) J,k⟩
 ·refine ZU ⟨_,rfl,m,_,2,_,rfl,rfl,SqT.of h1,rfl,_,rfl,ps,_,_,_,rfl,rfl,SqT.of g1,g2,_,rfl,a1,_,_,_,rfl,rfl,SqT.of D,Ya (gO (show c<(nx.getD s []).length by lia)),_,rfl,d,_,rfl,.inl ⟨_,.inl _,G,rfl,rfl⟩,?_⟩;rw[vq];exact k
inductive Wm(vs:A0)(H:Hp)(Q:VK):Prop
 |mk (κ:Type) (dq:DecidableEq κ) (sk:SK κ) (v:V) (st nd:Au) (k:κ) (l:List κ) (ws:A0):(vs=[v,.ref st,.ref nd])->(H st=some (.lst ws))->(ws.length=l.length)->(sk.dic H nd l)->(sk.at_ H k v)->(l.Nodup)->(l.length<10000000)->(∀H' ws',H' st=some (.lst ws')->((k∈l/\ws'=ws)\/(k∉l/\ws'=ws++[v]))->sk.dic H' nd (Yy l k)->(∀b o,H b=some o->b≠st->b≠nd->H' b=some o)->(∀b,H b=none->H' b=none)->Q (.int ((Yy l k).idxOf k:Int)) H')->Wm vs H Q
def zU(K:Af):Sp:=fun vs H Q _=>Wm vs H Q
theorem zV:Yx P w K mg base CX0 1 t.fy t.ia ["state","states","numbers"] (zU K):=by
 refine T.il.go zQ (by rintro _ _ _ _ ⟨_,_,_,_,_,_,_,_,_,rfl,_⟩;rfl) ?_;rintro cdv A outer s H _ Q E hr ⟨κ,_,sk,v,st,nd,k0,l,ws,rfl,C,hal,n,F,Y,hl,k⟩;have hu:=ZK hr;refine⟨_,(Zb (Z9 (Zo (OpR.or (Zeo (uY hr)) (X4 hu)) (qv 0) (qv 2) (by with_unfolding_all rfl))
   (Zb (QS.or (Zl6 (uY hr) (qv 2) (qv 0) (Zp Zu (by rfl) T.af ZT (Zh (qv 1) Zd)) rfl) (Jd hu (qv 2) (qv 0) (Zp Zu (by rfl) T.af ZT (Zh (qv 1) Zd)) rfl))
   (Zf (Yi (YD Qaw Qa0 Qa1 ZH (qv 1) (Zh (qv 0) Zd))))) Zv)
   (Zf (Zn (QE.or (Zl5 (uY hr) (qv 2) (qv 0) (fun _ _=>rfl)) (Wv hu (qv 2) (qv 0) (fun _ _=>rfl)))))),?_⟩
 try dsimp only[L2.cxK,L2.cxK2]
 refine L2.let2 ?_;intro U1;have I:st≠nd:=fun z=>by
  obtain⟨o,e,_,h⟩:=SK.ne n;rw[<-z,C]at e;cases e;exact h _ rfl
 cases sk with
 |int f inj=>
  have n:H nd=some (.dK (nk (l.map f))):=n;have F:v=.int (f k0):=F;subst F;have D:f k0∈l.map f↔k0∈l:=⟨fun z=>let⟨a,ha,e⟩:=Qay.mp z;inj _ _ e ▸ ha,fun z=>Qcm z⟩;have O:(l.map f).Nodup:=by
   unfold List.Nodup;rw[List.pairwise_map];exact List.Pairwise.imp (fun hne e=>hne (inj _ _ e)) Y
  have ei:=Zj2 f k0 (Yy l k0) fun a _ e=>inj _ _ e;have em:=uZ f l k0 fun a _ e=>inj _ _ e;refine⟨_,rfl,_,rfl,.inr ⟨nd,Yd (nk (l.map f)) (.inl (f k0)),rfl,.inl ⟨nk (l.map f),.inl (f k0),.inl n,rfl,rfl⟩,_,rfl,?_⟩⟩
  by_cases J:k0∈l
  ·have e1:Yy l k0=l:=Qba J;rw[e1]at k ei;rw[Zfd (D.mpr J) O];refine ZU (.inr ⟨_,rfl,_,rfl,nd,_,rfl,.inl ⟨nk (l.map f),.inl (f k0),.inl n,rfl,(Zfd (D.mpr J) O).symm⟩,?_⟩);rw[ei];exact k H ws C (.inl ⟨J,rfl⟩) n (fun _ _ e _ _=>e) fun _ e=>e
  ·have e1:Yy l k0=l++[k0]:=Qa4 J;have hs':f k0∉l.map f:=fun z=>J (D.mp z);rw[e1]at k ei em;rw[Zmw hs'];have Z:((l++[k0]).map f).Nodup:=by
    rw[<-em];exact Jx O _
   refine Y4 (.inr ⟨_,rfl,st,_,rfl,.inl (SqL.of C),_,rfl,_,rfl,nd,_,rfl,uN.k (k:=.inl (f k0)) n (by rw[nk_len,Qad];exact Xf (by lia)),?_⟩);rw[hal,show(l.length:Int)=((l.map f).length:Int) by rw[Qad],nk_put hs'];have e2:l.map f++[f k0]=(l++[k0]).map f:=by rw[Qbd];rfl
   rw[e2];have q:upd H nd (.dK (nk ((l++[k0]).map f))) st=some (.lst ws):=by rw[Zk I];exact C
   refine⟨_,rfl,.inl ⟨rfl,_,SqL.of q⟩,_,rfl,st,_,_,rfl,rfl,q,Xf (by lia),?_⟩;have G:upd (upd H nd (.dK (nk ((l++[k0]).map f)))) st (.lst (ws++[.int (f k0)])) nd=some (.dK (nk ((l++[k0]).map f))):=by rw[Zk I.symm];exact Za
   refine .inr ⟨_,rfl,_,rfl,nd,_,rfl,.inl ⟨_,.inl (f k0),.inl G,rfl,(Zfd (Qcm (by simp)) Z).symm⟩,?_⟩;rw[ei];refine k _ (ws++[.int (f k0)]) Za (.inr ⟨J,rfl⟩) G (fun b o e h1 h2=>?_) fun b e=>?_
   ·rw[Zk h1,Zk h2];exact e
   ·rw[Zk (fun z=>by rw[z,C]at e;cases e),Zk (fun z=>by rw[z,n]at e;cases e)];exact e
 |key kn=>
  have n:wH kn H nd (WU l):=n;obtain⟨a,rfl,F⟩:=F;refine⟨_,rfl,_,rfl,.inl ⟨κ,_,kn,nd,a,k0,_,rfl,rfl,n,F,_,rfl,?_⟩⟩
  by_cases D:k0∈l
  ·have e1:Yy l k0=l:=Qba D;have hv:=zg l k0 D Y;rw[e1]at k;rw[hv];exact ZU (.inl ⟨_,rfl,_,rfl,κ,_,kn,nd,a,k0,_,_,rfl,rfl,n,F,hv,k H ws C (.inl ⟨D,rfl⟩) n (fun _ _ e _ _=>e) fun _ e=>e⟩)
  ·have e1:Yy l k0=l++[k0]:=Qa4 D;have hv:=jX l k0 D;have Z:(l++[k0]).Nodup:=e1 ▸ Jx Y k0;rw[e1]at k;rw[hv];refine Y4 (.inl ⟨_,rfl,st,_,rfl,.inl (SqL.of C),_,rfl,_,rfl,κ,_,kn,nd,a,k0,_,rfl,rfl,n,F,hv,?_,fun H2 n2 o2 hx=>?_⟩)
   ·rw[kq];exact Xf (by lia)
   rw[hal]at n2;rw[<-jW]at n2;have q:=o2 _ _ C I;refine⟨_,rfl,.inl ⟨rfl,_,SqL.of q⟩,_,rfl,st,_,_,rfl,rfl,q,Xf (by lia),?_⟩;have n3:wH kn (upd H2 st (.lst (ws++[.ref a]))) nd (WU (l++[k0])):=SK.off (sk:=.key kn) n2 q;have hk2:kn.at_ H2 k0 a:=kn.keep _ _ _ _ (fun b xs e=>o2 b _ e fun z=>by
    obtain⟨o,e3,h3,_⟩:=Zfe n;rw[z,e3]at e;cases e;exact h3 _ rfl) F
   have hk3:kn.at_ (upd H2 st (.lst (ws++[.ref a]))) k0 a:=kn.keep _ _ _ _ (fun b xs e=>by rw[Zk (X9 e q fun z=>nomatch z)];exact e) hk2;refine .inl ⟨_,rfl,_,rfl,κ,_,kn,nd,a,k0,_,_,rfl,rfl,n3,hk3,zg _ _ (by simp) Z,k _ (ws++[.ref a]) Za (.inr ⟨D,rfl⟩) n3 (fun b o e h1 h2=>?_) fun b e=>?_⟩
   ·rw[Zk h1];exact o2 b o e h2
   ·obtain⟨oo,rfl⟩:=hx;rw[Zk (fun z=>by rw[z,C]at e;cases e),Zk (fun z=>by
     obtain⟨o,e3,_⟩:=Zfe n;rw[z,e3]at e;cases e)]
    exact e
inductive WI(vs:A0)(H:Hp)(Q:VK):Prop
 |mk (y:Str):(vs=[.str y])->(Q (.bl (decide (y∈G9))) H)->WI vs H Q
def jv(K:Af):Sp:=fun vs H Q _=>WI vs H Q
theorem jw:Yx P w K mg base CX0 1 t.iw t.ix ["text"] (jv K):=by
 refine T.mj.go jm (by rintro _ _ _ _ ⟨_,rfl,_⟩;rfl) ?_;rintro q A outer s H _ Q E C ⟨y,rfl,k⟩;have D:=ZK C;refine⟨_,(Zf (Zn (YI wY (qv 0) (Wt (v:=.ref t.aq) rfl T.aq.m rfl) (by with_unfolding_all rfl)))),?_⟩;refine⟨_,rfl,t.aq,T1,.inr y,rfl,T.aq.d,rfl,?_⟩;rw[Zj5,tw1];exact k
inductive XT(vs:A0)(H:Hp)(Q:VK):Prop
 |mk (k:Key):(vs=[kV k])->(Q (.bl (clK k)) H)->XT vs H Q
def xx(K:Af):Sp:=fun vs H Q _=>XT vs H Q
omit T TB in
theorem Zgf(l:List (Str×Int))(k:Key):(Yd (kvsOf l) k).isSome=(match k with|.inr y=>decide (y∈l.map (·.1))|.inl _=>false):=by
 cases k with
 |inr y=>exact Zj5 l y
 |inl z=>
  induction l with
  |nil=>rfl
  |cons p r q=>
   have e:Yd (kvsOf (p::r)) (.inl z)=Yd (kvsOf r) (.inl z):=Ye (p:=((Sum.inr p.1:Key),V.int p.2)) (fun z=>nomatch z);rw[e,q]
omit T TB in
theorem Zis(k:Key):clK k=((Yd (kvsOf T2) k).isSome||(Yd (kvsOf T3) k).isSome):=by
 rw[Zgf,Zgf];cases k with
 |inl z=>rfl
 |inr y=>
  show decide (y∈qR)=(decide (y∈T2.map (·.1))||decide (y∈T3.map (·.1)));have e:qR=T2.map (·.1)++T3.map (·.1):=by decide +kernel
  rw[e]
  by_cases h1:y∈T2.map (·.1)
  ·grind
  ·grind
theorem xy:Yx P w K mg base CX0 1 t.eh t.et ["text"] (xx K):=by
 refine T.fk.go xr (by rintro _ _ _ _ ⟨_,rfl,_⟩;rfl) ?_;rintro q A outer s H _ Q E C ⟨kk,rfl,k⟩;have D:=ZK C;refine⟨_,(Zf (Zn (Zn9 (YI wY (qv 0) (Wt (v:=.ref t.aj) rfl T.aj.m rfl) (by with_unfolding_all rfl)) (xU (YI wY (qv 0) (Wt (v:=.ref t.ag) rfl T.ag.m rfl) (by with_unfolding_all rfl)))))),?_⟩;rw[Zis]at k;refine⟨_,rfl,t.aj,T2,kk,rfl,T.aj.d,rfl,_,rfl,?_⟩;cases h:(Yd (kvsOf T2) kk).isSome with
 |true=>
  rw[h]at k;exact Y4 k
 |false=>
  rw[h]at k;exact ZU ⟨_,rfl,t.ag,T3,kk,rfl,T.ag.d,rfl,k⟩
inductive WJ(vs:A0)(H:Hp)(Q:VK):Prop
 |mk (k:Key):(vs=[kV k])->(Q (.int (Gi T1 k+Gi T2 k)) H)->WJ vs H Q
def jx(K:Af):Sp:=fun vs H Q _=>WJ vs H Q
theorem jy:Yx P w K mg base CX0 1 t.iy t.ka ["word"] (jx K):=by
 refine T.mm.go jn (by rintro _ _ _ _ ⟨_,rfl,_⟩;rfl) ?_;rintro q A outer s H _ Q E C ⟨kk,rfl,k⟩;have D:=ZK C;refine⟨_,(Zf (Zn (Zs Yz (wZ (Wt (v:=.ref t.aq) rfl T.aq.m rfl) (qv 0) Ze) (wZ (Wt (v:=.ref t.aj) rfl T.aj.m rfl) (qv 0) Ze)))),?_⟩;refine⟨t.aq,T1,rfl,T.aq.d,_,rfl,kk,rfl,t.aj,T2,rfl,T.aj.d,_,rfl,kk,rfl,?_⟩;rw[kget,kget];exact⟨_,_,rfl,rfl,k⟩
inductive XU(vs:A0)(H:Hp)(Q:VK):Prop
 |mk (k:Key):(vs=[kV k])->(Q (.int (Gi T3 k)) H)->XU vs H Q
def x4(K:Af):Sp:=fun vs H Q _=>XU vs H Q
theorem x5:Yx P w K mg base CX0 1 t.eu t.fe ["word"] (x4 K):=by
 refine T.fq.go xt (by rintro _ _ _ _ ⟨_,rfl,_⟩;rfl) ?_;rintro q A outer s H _ Q E C ⟨kk,rfl,k⟩;have D:=ZK C;refine⟨_,(Zf (Zn (wZ (Wt (v:=.ref t.ag) rfl T.ag.m rfl) (qv 0) Ze))),?_⟩;refine⟨t.ag,T3,rfl,T.ag.d,_,rfl,kk,rfl,?_⟩;rw[kget];exact k
inductive Jp(vs:A0)(H:Hp)(Q:VK):Prop
 |mk (y sg:Str):(vs=[.str y,.str sg])->(y.length<=100000)->(∀H',Z8 H H'->Q (.bl (decide (yg y sg))) H')->Jp vs H Q
def vy(K:Af):Sp:=fun vs H Q _=>Jp vs H Q
theorem vz:Yx P w K mg base CX0 1 t.nc t.ng ["text","signs"] (vy K):=by
 refine T.nt.go vv (by rintro _ _ _ _ ⟨_,_,rfl,_⟩;rfl) ?_;rintro J A outer s H _ Q E O ⟨y,q,rfl,I,k⟩;have Y:=ZK O;refine⟨_,(Zf (Zn (vR (YI vC (qv 0) Zl (Z3 _)) (xU (Zp (Zdy rfl) (by rfl) T.abr bt_all (Zh (Y0 ({}:ZZ (Zg Jk) _ ["text","signs"] "sign" ["signs"] [1]) (qi_str (qv 0)) (fun _ _ _ _=>XO) (fun _ _ _ _=>(YI Zc8 (qv 0) (qv 1) (by with_unfolding_all rfl)))) Zd)))))),?_⟩;refine⟨_,rfl,rfl,_,rfl,?_⟩
 by_cases D:y.cps.toList=[]
 ·have e:=zt.mp D;subst e;refine ZU ?_;have e2:decide (yg ("" : Str) q)=false:=Qaj fun z=>z.1 (zt.mpr rfl);have:=k H (Z8.refl H);exact this
 have F:¬V.str y=V.str ("" : Str):=fun z=>D (zt.mpr (by injection z));rw[Qaj F];refine Y4 ?_;refine⟨_,rfl,y,rfl,Zhi (fun c=>.bl (decide (c∈q.cps.toList))) (Qa8 (show y.length<=100000 from I) (by decide)) (fun c _ R hR=>?_) (fun l C=>?_)⟩
 ·refine⟨_,rfl,_,rfl,_,_,rfl,rfl,?_⟩;rw[Zmi];exact hR
 have e1:(y.cps.toList.map fun c=>V.bl (decide (c∈q.cps.toList)))=(y.cps.toList.map fun c=>decide (c∈q.cps.toList)).map V.bl:=by rw[Qb7];rfl
 rw[e1];refine⟨l,_,rfl,SqL.of Za,?_⟩;rw[all_bs];have e2:decide (yg y q)=decide (∀c∈y.cps.toList,decide (c∈q.cps.toList)=true):=by
  rw[Qc2,Qb0,Qb0];constructor
  ·intro z c G;exact Qal (z.2 c G)
  ·intro z;exact⟨D,fun c G=>Qbh (z c G)⟩
 rw[<-e2];exact k _ (Zc C)
inductive JO(vs:A0)(H:Hp)(Q:VK):Prop
 |mk (x:V):(vs=[x])->(Xb x=true)->(Q (.bl (inV x (allR.map V.str))) H)->JO vs H Q
def wy(K:Af):Sp:=fun vs H Q _=>JO vs H Q
theorem qY:Yx P w K mg base CX0 1 t.oh t.oj ["word"] (wy K):=by
 refine T.dh.go wo (by rintro _ _ _ _ ⟨_,rfl,_⟩;rfl) ?_;rintro C A outer s H _ Q E D ⟨x,rfl,q,k⟩;have F:=ZK D;refine⟨_,(Zf (Zn (YI ZW (qv 0) (Wt (v:=.ref t.aw) rfl T.aw.m rfl) (by with_unfolding_all rfl)))),?_⟩;exact⟨_,rfl,t.aw,_,rfl,.inr (T.aw.d H),q,Zev _,k⟩
inductive GL(vs:A0)(H:Hp)(Q:VK):Prop
 |mk (a b h:Int):(vs=[.int a,.int b,.int h])->(Q (.int (Zow a b h)) H)->GL vs H Q
def ub(K:Af):Sp:=fun vs H Q _=>GL vs H Q
theorem zW:Yx P w K mg base CX0 1 t.rh t.ri ["one","other","held"] (ub K):=by
 refine T.ft.go gT (by rintro _ _ _ _ ⟨_,_,_,rfl,_⟩;rfl) ?_;rintro q A outer s H _ Q E C ⟨a,b,h,rfl,k⟩;have D:=ZK C;refine⟨_,(Zf (Zn (Zs jf (Zs Xc (XC xP (qv 0)) (qv 1)) (Zs Xc (qv 2) (XC xP (Zs xO (qv 0) (qv 1))))))),?_⟩;exact⟨_,rfl,_,rfl,_,rfl,_,_,rfl,rfl,_,rfl,_,rfl,_,rfl,_,_,rfl,rfl,_,rfl,_,_,rfl,rfl,_,_,rfl,rfl,k⟩
inductive WK(vs:A0)(H:Hp)(Q:VK):Prop
 |mk (y:Str) (p:Au) (is:Ak):(vs=[.str y,.ref p])->(H p=some (.lst (is.map V.int)))->(y∈Zh7)->(is.length=Zh6 y)->(∀H',Z8 H H'->Q (.int (oaI y is)) H')->WK vs H Q
def jz(K:Af):Sp:=fun vs H Q _=>WK vs H Q
theorem j4:Yx P w K mg base CX0 1 t.kd t.kv ["word","parts"] (jz K):=by
 refine T.mn.go jo (by rintro _ _ _ _ ⟨_,_,_,rfl,_⟩;rfl) ?_;rintro cdv A outer s H _ Q E hr ⟨y,p,is,rfl,hp,hy,F,k⟩;have hu:=ZK hr;refine⟨_,(Zb (Z9 (Zo Ys (qv 0) Zl (Z3 _))
   (Zf (Zn (XC Xz Ze))) Zv)
   (Zb (Z9 (Zo Ys (qv 0) Zl (Z3 _))
   (Zf (Zn (Zq Z2 (qv 1) Ze))) Zv)
   (Zb (Z9 (Zo ZW (qv 0) (Yc (Zh Zl (Zh Zl Zd))) (by with_unfolding_all rfl))
   (Zf (Zn (XC xP (Zq Z2 (qv 1) Ze)))) Zv)
   (Zb (Z9 (Zo ZW (qv 0) (Yc (Zh Zl (Zh Zl Zd))) (by with_unfolding_all rfl))
   (Zf (Zn (Zs Xc (Zq Z2 (qv 1) Ze) (Zq Z2 (qv 1) Ze)))) Zv)
   (Zb (Z9 (Zo ZW (qv 0) (Yc (Zh Zl (Zh Zl Zd))) (by with_unfolding_all rfl))
   (Zf (Zn (Zs jf (Zq Z2 (qv 1) Ze) (Zq Z2 (qv 1) Ze)))) Zv)
   (Zb (Z9 (Zo Ys (qv 0) Zl (Z3 _))
   (Zf (Zn (Zs xO (Zq Z2 (qv 1) Ze) (Zq Z2 (qv 1) Ze)))) Zv)
   (Zb (Z9 (Zo Ys (qv 0) Zl (Z3 _))
   (Zf (Zn (Zs jf (XC xP (Zq Z2 (qv 1) Ze)) (Zq Z2 (qv 1) Ze)))) Zv)
   (Zf (Zn (Zs jf (Zs Xc (Zq Z2 (qv 1) Ze) (Zq Z2 (qv 1) Ze)) (Zs Xc (XC xP (Zq Z2 (qv 1) Ze)) (Zq Z2 (qv 1) Ze)))))))))))),?_⟩
 refine L2.let8 ?_;intro U7 U6 U5 U4 U3 U2 U1;unfold oaI at k;refine⟨_,rfl,rfl,_,rfl,?_⟩
 by_cases h1:y = "yes"
 ·rw[Qal (congrArg V.str h1)];rw[Qba h1]at k;refine Y4 ?_;exact⟨_,rfl,k H (Z8.refl _)⟩
 rw[Qaj (fun z=>h1 (by injection z))];rw[Qa4 h1]at k;refine ZU ⟨_,rfl,rfl,_,rfl,?_⟩
 by_cases h2:y = "sign"
 ·rw[Qal (congrArg V.str h2)];rw[Qba h2]at k;refine Y4 ?_;exact⟨_,rfl,p,_,0,_,rfl,rfl,SqL.of hp,Z5 0 rfl (z5 F (by rw[h2];decide +kernel)),k H (Z8.refl _)⟩
 rw[Qaj (fun z=>h2 (by injection z))];rw[Qa4 h2]at k;refine ZU ⟨_,rfl,by decide,fun q hq=>⟨q,_,rfl,.inr (SqT.of Za),rfl,rfl,_,rfl,?_⟩⟩;show if inV (.str y) ((["not","never"]:Ai).map V.str)=true then _ else _;rw[ZL];have sq:=Zc (o:=.tup [.str "not",.str "never"]) hq;have pq:=sq _ _ hp;generalize upd H q (.tup [.str "not",.str "never"])=H1 at *
 by_cases Z:y = "not" \/ y = "never"
 ·rw[Qal (by grind)];rw[Qba Z]at k;refine Y4 ?_;exact⟨_,rfl,p,_,0,_,rfl,rfl,SqL.of pq,Z5 0 rfl (z5 F (by rcases Z with h|h<;>rw[h]<;>decide +kernel)),_,rfl,k H1 sq⟩
 rw[Qaj (by grind)];rw[Qa4 Z]at k;refine ZU ⟨_,rfl,by decide,fun r hr=>⟨r,_,rfl,.inr (SqT.of Za),rfl,rfl,_,rfl,?_⟩⟩;show if inV (.str y) ((["and","both"]:Ai).map V.str)=true then _ else _;rw[ZL];have O:=Zc (o:=.tup [.str "and",.str "both"]) hr;have pr:=O _ _ pq;generalize upd H1 r (.tup [.str "and",.str "both"])=H2 at *
 by_cases Y:y = "and" \/ y = "both"
 ·rw[Qal (by grind)];rw[Qba Y]at k;refine Y4 ?_;have l2:2<=is.length:=z5 F (by rcases Y with h|h<;>rw[h]<;>decide +kernel);exact⟨_,rfl,p,_,0,_,rfl,rfl,SqL.of pr,Z5 0 rfl (by lia),_,rfl,p,_,1,_,rfl,rfl,SqL.of pr,Z5 1 rfl l2,_,_,rfl,rfl,k H2 (sq.trans O)⟩
 rw[Qaj (by simp only[Qaq,Qbo,Qem];exact Y)];rw[Qa4 Y]at k;refine ZU ⟨_,rfl,by decide,fun t1 ht1=>⟨t1,_,rfl,.inr (SqT.of Za),rfl,rfl,_,rfl,?_⟩⟩;show if inV (.str y) ((["or","either"]:Ai).map V.str)=true then _ else _;rw[ZL];have D:=Zc (o:=.tup [.str "or",.str "either"]) ht1;have C:=D _ _ pr;generalize upd H2 t1 (.tup [.str "or",.str "either"])=H3 at *
 by_cases G:y = "or" \/ y = "either"
 ·rw[Qal (by simp only[Qaq,Qbo,Qem];exact G)];rw[Qba G]at k;refine Y4 ?_;have l2:2<=is.length:=z5 F (by rcases G with h|h<;>rw[h]<;>decide +kernel);exact⟨_,rfl,p,_,0,_,rfl,rfl,SqL.of C,Z5 0 rfl (by lia),_,rfl,p,_,1,_,rfl,rfl,SqL.of C,Z5 1 rfl l2,_,_,rfl,rfl,k H3 ((sq.trans O).trans D)⟩
 rw[Qaj (by simp only[Qaq,Qbo,Qem];exact G)];rw[Qa4 G]at k;refine ZU ⟨_,rfl,rfl,_,rfl,?_⟩
 by_cases I:y = "odd"
 ·rw[Qal (congrArg V.str I)];rw[Qba I]at k;refine Y4 ?_;have l2:2<=is.length:=z5 F (by rw[I];decide +kernel);exact⟨_,rfl,p,_,0,_,rfl,rfl,SqL.of C,Z5 0 rfl (by lia),_,rfl,p,_,1,_,rfl,rfl,SqL.of C,Z5 1 rfl l2,_,_,rfl,rfl,k H3 ((sq.trans O).trans D)⟩
 rw[Qaj (fun z=>I (by injection z))];rw[Qa4 I]at k;refine ZU ⟨_,rfl,rfl,_,rfl,?_⟩
 by_cases J:y = "so"
 ·rw[Qal (congrArg V.str J)];rw[Qba J]at k;refine Y4 ?_;have l2:2<=is.length:=z5 F (by rw[J];decide +kernel);exact⟨_,rfl,p,_,0,_,rfl,rfl,SqL.of C,Z5 0 rfl (by lia),_,rfl,_,rfl,p,_,1,_,rfl,rfl,SqL.of C,Z5 1 rfl l2,_,_,rfl,rfl,k H3 ((sq.trans O).trans D)⟩
 rw[Qaj (fun z=>J (by injection z))];rw[Qa4 J]at k;have l3:3<=is.length:=z5 F (Zbs y hy h1 h2 Z Y G I J);exact ZU ⟨_,rfl,p,_,0,_,rfl,rfl,SqL.of C,Z5 0 rfl (by lia),_,rfl,p,_,1,_,rfl,rfl,SqL.of C,Z5 1 rfl (by lia),_,_,rfl,rfl,_,rfl,p,_,0,_,rfl,rfl,SqL.of C,Z5 0 rfl (by lia),_,rfl,_,rfl,p,_,2,_,rfl,rfl,SqL.of C,Z5 2 rfl l3,_,_,rfl,rfl,_,_,rfl,rfl,k H3 ((sq.trans O).trans D)⟩
inductive XI(vs:A0)(H:Hp)(Q:VK):Prop
 |mk (tw:Au) (ws:A0):(vs=[.ref tw])->(H tw=some (.tup ws))->(ws.length<=1000)->((∀w∈ws,(∃y,w=.str y)\/∃z:Int,w=.int z))->(∀(L:Nat) H',(∀z:Int,V.int z∈ws->Builtin.Int.intBits z<=L)->(L=0\/∃z:Int,V.int z∈ws/\L=Builtin.Int.intBits z)->Z8 H H'->Q (.int (L:Int)) H')->XI vs H Q
def qD(K:Af):Sp:=fun vs H Q _=>XI vs H Q
theorem qE:Yx P w K mg base CX0 1 t.dm t.dn ["words"] (qD K):=by
 refine T.dw.go qB (by rintro _ _ _ _ ⟨_,_,rfl,_⟩;rfl) ?_;rintro J A outer s H _ Q E O ⟨tw,ws,rfl,D,Y,hw,k⟩;have Z:=ZK O;refine⟨_,(Zf (Zn (Zmb rfl rfl T.abu (Y0 ({}:ZZ (Zg Xx) _ ["words"] "word" [] []) (Xs (qv 0)) (fun _ _ _ _=>(jM (Yt (Zp (show X3 _ (.builtin "isinstance") (rIsi K)from YG) (by rfl) T.ah ZF (Zh (qv 0) (Zh (Xw (v:=.ty "int") (by rfl) T.mz vO rfl) Zd)))))) (fun _ _ _ _=>(show QE _ _ (Zpc K "int" Zoo (Zgl 0))from(qJ PySem.F.plainAttrs_int PySem.F.slot_int_bit_length PySem.F.type_int_bit_length Zmc (qv 0))))) Ze))),?_⟩;refine⟨_,rfl,tw,rfl,⟨_,SqT.of D⟩,Jv (K:=K) (a:=tw) (xs:=ws) (fun i zs H'=>zs=(GD (ws.take i)).map V.int/\H'=H) ⟨rfl,rfl⟩ (fun i zs H' h=>?_) (fun i zs H' h=>by rw[h.2];exact SqT.of D) (fun i x zs H1 R hR q h=>?_) (fun zs H1 h p G=>?_)⟩
 ·rw[h.1,Qad];have:=kQ (ws.take i);rw[Qas]at this;exact Qau (Zy (by lia))
 ·obtain⟨rfl,rfl⟩:=h;rcases hw x (Qag q)with⟨y,rfl⟩|⟨z,rfl⟩
  ·refine⟨_,rfl,_,_,_,_,rfl,.str y,YH,_,rfl,ZU (hR _ _ ⟨?_,rfl⟩)⟩;rw[take_snoc q,zD];exact congrArg (List.map V.int) (Qbm _).symm
  ·refine⟨_,rfl,_,_,_,_,rfl,.int z,XB,_,rfl,Y4 ⟨_,rfl,rfl,z,rfl,rfl,hR _ _ ⟨?_,rfl⟩⟩⟩;rw[take_snoc q,zD,Qbd];rfl
 ·obtain⟨rfl,rfl⟩:=h;have sp:=Zc (o:=.lst ((GD (ws.take ws.length)).map V.int)) G;refine⟨p,GD (ws.take ws.length),rfl,SqL.of Za,fun e=>?_,fun m C q=>?_⟩
  ·rw[Qbf]at e;refine k 0 _ (fun z hz=>?_) (.inl rfl) sp;have:=zE hz;rw[e]at this;cases this
  ·rw[Qbf]at C q;obtain⟨z,hz,rfl⟩:=Zaq C;exact k _ _ (fun y I=>Int.ofNat_le.mp (q _ (zE I))) (.inr ⟨z,hz,rfl⟩) sp
inductive qZ(vs:A0)(H:Hp)(Q:VK):Prop
 |mk (p:Au) (cs:Ak) (l:Nat):(vs=[.ref p,.int (l:Int)])->(H p=some (.lst (cs.map V.int)))->(cs.length<=1000)->(l<=100)->(∀t H',H t=none->H' t=some (.tup ((cs.map fun c=>bt c l).map V.int))->Z8 H H'->Q (.ref t) H')->qZ vs H Q
def Zb5(K:Af):Sp:=fun vs H Q _=>qZ vs H Q
theorem Zb6:Yx P w K mg base CX0 1 t.aad t.aae ["columns","letter"] (Zb5 K):=by
 refine T.cq.go Zb1 (by rintro _ _ _ _ ⟨_,_,_,rfl,_⟩;rfl) ?_;rintro J A outer s H _ Q E O ⟨p,cs,l,rfl,C,Z,I,k⟩;have hu:=ZK O;refine⟨_,(Zf (Zn (ZC Z6 (by rfl) T.ai ZP (Zh (Y0 ({}:ZZ (Zg zk) _ ["columns","letter"] "column" ["letter"] [1]) (XD (qv 0)) (fun _ _ _ _=>XO) (fun _ _ _ _=>(Zs Xc (Zs jI (qv 0) (qv 1)) Ze))) Zd)))),?_⟩;refine⟨_,rfl,p,rfl,⟨_,SqL.of C⟩,comp_map (xs:=cs.map V.int) (fI fun c=>V.int (bt c l)) (SqL.of C) (by rw[Qad];exact Qau (Zy (by lia))) (fun v G R hR=>?_) (fun q Y=>?_)⟩
 ·obtain⟨c,_,rfl⟩:=Qay.mp G;refine⟨_,rfl,_,rfl,_,_,rfl,rfl,Qca l,_,_,rfl,rfl,?_⟩;have e:fI (fun c=>V.int (bt c l)) (V.int c)=V.int (Builtin.bitAnd (c/2^(l:Int).toNat) 1):=by
   rw[and_1,Qav];rfl
  rw[e]at hR;exact hR
 ·refine⟨q,_,rfl,.inl ⟨SqL.of Za,fun t F=>?_⟩⟩;have D:=Zc (o:=.lst ((cs.map V.int).map (fI fun c=>V.int (bt c l)))) Y;refine k t _ (D.free F) ?_ (D.trans (Zc F));rw[Za,Qb7,Qb7];rfl
inductive Jq(vs:A0)(H:Hp)(Q:VK):Prop
 |mk (m1 m2 c:Au) (nm1 nm2:Ai) (b1 b2:Nat) (nx1 nx2:Ad) (ot1 ot2:Ax) (i j:Nat):(vs=[.ref m1,.ref m2,.ref c])->(M4 H m1 nm1 b1 nx1 ot1)->(M4 H m2 nm2 b2 nx2 ot2)->(H c=some (.tup [.int (i:Int),.int (j:Int)]))->(i<nx1.length)->(j<nx2.length)->(∀l zs H',H l=none->Z8 H H'->H' l=some (.lst zs)->Prs H' (wI (nx1.getD i []) (nx2.getD j [])) zs->Q (.ref l) H')->Jq vs H Q
def v5(K:Af):Sp:=fun vs H Q _=>Jq vs H Q
theorem v7:Yx P w K mg base CX0 1 t.nh t.ni ["one","other","pair"] (v5 K):=by
 refine T.bq.go vw (by rintro _ _ _ _ ⟨_,_,_,_,_,_,_,_,_,_,_,_,_,rfl,_⟩;rfl) ?_;rintro cdv A outer s H _ Q E hr ⟨O,Y,c,nm1,J,b1,b2,nx1,nx2,ot1,ot2,i,j,rfl,M1,M2,F,hi,hj,k⟩;have hu:=ZK hr;refine⟨_,(Zf (Zn (Zbn (b1:=true) (b2:=true) rfl T.abc rfl T.aay rfl (Zh (Zq Zr (Zq Zr (qv 0) Ze) (Zq Zr (qv 2) Ze)) (Zh (Zq Zr (Zq Zr (qv 1) Ze) (Zq Zr (qv 2) Ze)) Zd))))),?_⟩;obtain⟨pn1,q,po1,h1,_,R1,_⟩:=M1.ex;obtain⟨pn2,C,po2,h2,_,R2,_⟩:=M2.ex;obtain⟨I,a1,g1,g2,D⟩:=Xy R1 (i:=i) (by rw[Qad];exact hi);obtain⟨Z,a2,f1,f2,G⟩:=Xy R2 (i:=j) (by rw[Qad];exact hj);rw[Jm]at D G;exact⟨_,rfl,O,_,2,_,rfl,rfl,SqT.of h1,rfl,_,rfl,c,_,0,_,rfl,rfl,SqT.of F,rfl,q,_,_,_,rfl,rfl,SqT.of g1,g2,_,rfl,Y,_,2,_,rfl,rfl,SqT.of h2,rfl,_,rfl,c,_,1,_,rfl,rfl,SqT.of F,rfl,C,_,_,_,rfl,rfl,SqT.of f1,f2,a1,a2,_,_,rfl,SqB.t D,SqB.t G,fun l zs H' hl s t hz=>k l zs H' hl s hz (gD t)⟩
inductive GN(vs:A0)(H:Hp)(Q:VK):Prop
 |mk (m1 m2 c:Au) (nm1 nm2:Ai) (b1 b2:Nat) (nx1 nx2:Ad) (ot1 ot2:Ax) (i j:Nat) (tr:Bool):(vs=[.ref m1,.ref m2,.ref c])->(M4 H m1 nm1 b1 nx1 ot1)->(M4 H m2 nm2 b2 nx2 ot2)->(H c=some (.tup [.int (i:Int),.int (j:Int)]))->(i<ot1.length)->(j<ot2.length)->((ot1.getD i []).length=(ot2.getD j []).length)->((ot1.getD i []).length<=1000)->((∀v∈ot1.getD i [],YY tr v))->((∀v∈ot2.getD j [],YY tr v))->(∀l H',H l=none->Z8 H H'->H' l=some (.lst ((((ot1.getD i []).zip (ot2.getD j [])).map fun q=>!decide (q.1=q.2)).map V.bl))->Q (.ref l) H')->GN vs H Q
def uc(K:Af):Sp:=fun vs H Q _=>GN vs H Q
theorem ud:Yx P w K mg base CX0 1 t.rj t.rn ["one","other","pair"] (uc K):=by
 refine T.bz.go gU (by rintro _ _ _ _ ⟨_,_,_,_,_,_,_,_,_,_,_,_,_,_,rfl,_⟩;rfl) ?_;rintro cdv A outer s H _ Q E hr ⟨m1,m2,c,nm1,nm2,b1,b2,nx1,nx2,ot1,ot2,i,j,tr,rfl,M1,M2,Y,hi,hj,hlen,hle,k1,k2,k⟩;have hu:=ZK hr;refine⟨_,(Zf (Zn (Y0 ({}:ZZ (Zg qr) _ ["one","other","pair"] "bits" [] []) (Zjy (b1:=true) (b2:=true) rfl T.abc (Zh (Zq Zr (Zq Zr (qv 0) Ze) (Zq Zr (qv 2) Ze)) (Zh (Zq Zr (Zq Zr (qv 1) Ze) (Zq Zr (qv 2) Ze)) Zd))) (fun _ _ _ _=>XO) (fun _ _ _ _=>(YI vC (Zq (show IxR _ (Zgo K)from Zr) (qv 0) Ze) (Zq (show IxR _ (Zgo K)from Zr) (qv 0) Ze) (Z3 _)))))),?_⟩;obtain⟨pn1,ps1,G,h1,_,_,R1⟩:=M1.ex;obtain⟨pn2,ps2,F,h2,_,_,R2⟩:=M2.ex;obtain⟨as1,a1,g1,g2,J⟩:=Xy R1 hi;obtain⟨as2,a2,f1,f2,Z⟩:=Xy R2 hj;generalize ot1.getD i []=D at *;generalize ot2.getD j []=I at *;refine⟨_,rfl,m1,_,3,_,rfl,rfl,SqT.of h1,rfl,_,rfl,c,_,0,_,rfl,rfl,SqT.of Y,rfl,G,_,_,_,rfl,rfl,SqT.of g1,g2,_,rfl,m2,_,3,_,rfl,rfl,SqT.of h2,rfl,_,rfl,c,_,1,_,rfl,rfl,SqT.of Y,rfl,F,_,_,_,rfl,rfl,SqT.of f1,f2,a1,a2,_,_,rfl,SqB.t J,SqB.t Z,?_⟩;refine Zhp (xs:=D) (ys:=I) (fun n zs H'=>n<=(D.zip I).length/\zs=(((D.zip I).take n).map fun q=>!decide (q.1=q.2)).map V.bl/\Z8 H H') ⟨Qbp _,rfl,Z8.refl H⟩ (fun n zs H' ⟨hn,hz,_⟩=>?_) (fun n zs H' ⟨_,_,s⟩=>⟨SqB.t (s _ _ J),SqB.t (s _ _ Z)⟩) (fun n x y p zs H' R hR hx O ⟨hn,hz,s⟩ C=>?_) (fun zs H' ⟨_,hz,s⟩ p C=>?_)
 ·rw[hz,Qad,Qad,Qas,Qcj];exact Qau (Zy (by lia))
 ·refine yesT ⟨_,rfl,p,_,0,_,rfl,rfl,SqT.of Za,rfl,_,rfl,p,_,1,_,rfl,rfl,SqT.of Za,rfl,zH (k1 _ (Qag hx)) (k2 _ (Qag O)),hR _ _ ⟨?_,?_,s.trans (Zc C)⟩⟩
  ·grind
  ·rw[hz,take_snoc (zip_at hx O),Qbd,Qbd];rfl
 ·rw[Qbf]at hz;subst hz;exact k p _ (s.free C) (s.trans (Zc C)) Za
inductive YF(vs:A0)(H:Hp)(Q:VK):Prop
 |mk (m:Au) (nm:Ai) (nx:Ad) (ot:Ax) (n:Nat) (kk:Nat->Nat):(vs=[.ref m])->(M4 H m nm 0 nx ot)->(Runs nx ot n)->(RgO nx kk)->(nx.length<=1000000)->((∀r∈ot,∀x∈r,∃t,x=.bl t))->(((∀(ls:Aj) (c:Nat),(∀x∈ls++[c],x<2^n)->mB ot (.bl true) (stN nx 0 ls) c=false)->∀H',Z8 H H'->Q .non H'))->((∀(w:Nat) H',1<=w->w<=nx.length->(∃(ls:Aj) (c:Nat),ls.length+1=w/\(∀x∈ls++[c],x<2^n)/\mB ot (.bl true) (stN nx 0 ls) c=true)->(∀(ls:Aj) (c:Nat),(∀x∈ls++[c],x<2^n)->mB ot (.bl true) (stN nx 0 ls) c=true->w<=ls.length+1)->Z8 H H'->Q (.int (w:Int)) H'))->YF vs H Q
def W9(K:Af):Sp:=fun vs H Q _=>YF vs H Q
theorem WA:Yx P w K mg base CX0 1 t.br t.bu ["machine"] (W9 K):=by
 refine T.bw.go ZI (by rintro _ _ _ _ ⟨_,_,_,_,_,_,rfl,_⟩;rfl) ?_;rintro cdv A outer s H _ Q E hr ⟨m,nm,nx,ot,n,kk,rfl,M,R,G,hN,hbl,kN,kS⟩;have hu:=ZK hr;refine⟨_,(Zb (Z4 1 ZI.nd (gp (yM (Zq Zr (qv 0) Ze) Ze gn) rfl rfl (fun z=>nomatch z) (by decide)))
   (Zb (Yk Qa7 rfl (yA rfl T.dj (Zq Zr (qv 0) Ze)) (yB rfl (YB 2 ZI.nd) (YB 3 ZI.nd))
   (Zb (Z9 (Zo ZW Xi (qv 3) (by with_unfolding_all rfl))
   (Zf (Zn (Wv hu (qv 1) (qv 2) (fun _ _=>rfl)))) Zv)
   (Zf (Yk Qa7 rfl (Xs (Zq Zr (Zq Zr (qv 0) Ze) (qv 2))) (YB 4 ZI.nd)
   (Zf (Yi (YD PySem.F.plainAttrs_dict PySem.F.slot_dict_setdefault PySem.F.type_dict_setdefault Zmd (qv 1) (Zh (qv 4) (Zh (Zs Yz (Wv hu (qv 1) (qv 2) (fun _ _=>rfl)) Ze) Zd)))))))))
   (Zf (Zn uE)))),?_⟩
 try dsimp only[L2.cxK,L2.cxK2]
 refine L2.let3 ?_;intro U2 U1;obtain⟨pn,ps,po,h1,hpn,Rs,Ro⟩:=M.ex;refine fun d hd=>?_;have sd:=Zc (o:=.dK []) hd;refine⟨_,rfl,m,_,1,_,rfl,rfl,SqT.of (sd _ _ h1),rfl,Za,[(.inl (0:Int),.int 1)],rfl,by show 1<=15;decide,Zi ?_⟩;rw[yu];have s1:=Zc (o:=.dK (WE [] [((.inl (0:Int):Key),V.int 1)])) hd;have hd1:upd H d (.dK (WE [] [((.inl (0:Int):Key),V.int 1)])) d=some (.dK (dwK (dwN kk 0))):=Za;generalize upd H d (.dK (WE [] [((.inl (0:Int):Key),V.int 1)]))=H1 at *;obtain⟨as,ha,hal,hat⟩:=Ro;have hol:=R.ol;have okr:∀i c,i<nx.length->c<2^n->(mB ot (.bl true) i c=true↔(ot.getD i [])[c]?=some (.bl true)):=fun i c hi O=>by
  have l1:=R.or _ (getD_mem (show i<ot.length by lia));rw[getD_at (d:=V.non) (show c<(ot.getD i []).length by lia)];unfold mB;rw[Qb0];exact⟨fun z=>by rw[z],fun z=>Option.some.inj z⟩
 refine⟨_,rfl,m,_,3,_,rfl,rfl,SqT.of (s1 _ _ h1),rfl,po,as,rfl,SqT.of (s1 _ _ ha),yC (K:=K) (a:=po) (xs:=as) (j:=2) (k:=3) (fun i σ H'=>∃(u2 u3 u4:Option V),σ=[some (.ref m),some (.ref d),u2,u3,u4]/\i<=nx.length/\H' d=some (.dK (dwK (dwN kk i)))/\(∀j,j<i->∀c,c<2^n->mB ot (.bl true) j c=false)/\Z8 H H') ⟨none,none,none,rfl,Qbp _,hd1,(fun j hj=>absurd hj (Qeg _)),s1⟩ (fun i σ H' _ ⟨_,_,_,_,_,_,_,s2⟩=>SqT.of (s2 _ _ ha)) ?_ ?_⟩
 ·rintro i x σ H2 t hx ht ⟨u2,u3,u4,rfl,hi,Z,D,s2⟩;have q:i<nx.length:=by have:=(Qai.mp hx).1;lia
  obtain⟨x0,hx0,hrow⟩:=hat i (ot.getD i []) (Zan (by lia));rw[hx]at hx0;cases hx0;have st:=Zc (o:=.tup [.int (i:Int),.ref x0]) ht;have s3:=s2.trans st;have hd3:=st _ _ Z;have htd:t≠d:=(Zm Z ht).symm;generalize upd H2 t (.tup [.int (i:Int),.ref x0])=H3 at *;have lor:=R.or _ (getD_mem (show i<ot.length by lia));obtain⟨bs,I⟩:∃bs:List Bool,ot.getD i []=bs.map V.bl:=by
   have go:∀l:A0,(∀x∈l,∃t,x=.bl t)->∃bs:List Bool,l=bs.map V.bl:=by
    intro l
    induction l with
    |nil=>exact fun _=>⟨[],rfl⟩
    |cons x l ih=>
     intro h;obtain⟨b,rfl⟩:=h x Qan;obtain⟨bs,rfl⟩:=ih fun y C=>h y (Qak _ C);exact⟨b::bs,rfl⟩
   exact go _ (hbl _ (getD_mem (by lia)))
  have lD:=qA G i (Qau q);have gi:=G.go i q;have vi:Yd (dwK (dwN kk i)) (.inl (i:Int))=some (.int (((dwN kk i).getD i 0:Nat):Int)):=by rw[zI,Qba (by lia)]
  refine⟨_,rfl,x0,ot.getD i [],rfl,.inr (SqT.of (s3 _ _ hrow)),rfl,by rw[I];exact Qb8.mpr (fun x hx=>by obtain⟨b,_,rfl⟩:=Qay.mp hx;rfl),_,rfl,?_⟩;show if inV (.bl true) (ot.getD i [])=true then _ else _;rw[I,Zfx];refine xB (fun hb=>?_) (fun hb=>?_)
  ·obtain⟨c,O⟩:=Qcg (Qbh hb);have hc2:(ot.getD i [])[c]?=some (.bl true):=by rw[I,Qam,O];rfl
   have Y:c<2^n:=by have:=(Qai.mp hc2).1;lia
   obtain⟨w1,⟨ls,w2,w3,w4⟩,w5⟩:=gN G R.nr (ok:=mB ot (.bl true)) q Y ((okr i c q Y).mpr hc2) D;refine⟨_,rfl,_,rfl,d,_,rfl,.inl ⟨_,.inl (i:Int),.inl hd3,rfl,vi.symm⟩,kS _ H3 w1 (by have:=Zo4 G i (Qau q) i;lia) ⟨ls,c,w2,fun y C=>?_,w4⟩ (fun ls' c' h1 h2=>w5 ls' c' (fun y C=>h1 y (Qb3 _ C)) (h1 c' (Qaz _ (Qat.mpr rfl))) h2) s3⟩;rcases Qbb.mp C with z|z
   ·exact w3 y z
   ·rw[Qat.mp z];exact Y
  ·have hnr:∀c,c<2^n->mB ot (.bl true) i c=false:=fun c O=>by
    cases hm:mB ot (.bl true) i c with
    |false=>rfl
    |true=>
     have h2:=(okr i c q O).mp hm;rw[I,Qam]at h2;obtain⟨b',h3,h4⟩:=Qbq.mp h2;cases h4;exact absurd (Qal (Qag h3)) hb
   obtain⟨as1,a1,r1,r2,r3⟩:=Xy Rs (i:=i) (by rw[Qad];exact q);rw[Jm]at r3;have lnr:=R.nr _ (getD_mem q);refine⟨_,rfl,m,_,2,_,rfl,rfl,SqT.of (s3 _ _ h1),rfl,_,rfl,ps,_,_,_,rfl,rfl,SqT.of (s3 _ _ r1),r2,a1,rfl,⟨_,SqT.of (s3 _ _ r3)⟩,WX (K:=K) (a:=a1) (xs:=z9 (nx.getD i [])) (fun j σ H'=>∃(u4:Option V) (k:Nat),σ=[some (.ref m),some (.ref d),some (.int (i:Int)),some (.ref x0),u4]/\((nx.getD i []).take j).foldl Yy (List.range (kk i))=List.range k/\kk i<=k/\k<=nx.length/\H' d=some (.dK (dwK (dwN kk i++List.replicate (k-kk i) ((dwN kk i).getD i 0+1))))/\Z8 H H') ⟨_,kk i,rfl,rfl,Qah _,G.le i (Qau q),by rw[Qff,List.replicate_zero,Qbm];exact hd3,s3⟩ (fun j σ H' _ ⟨_,_,_,_,_,_,_,s⟩=>SqT.of (s _ _ r3)) ?_ ?_⟩
   ·rintro j y σ H4 C ⟨u4,k,rfl,f1,f2,f3,J,s4⟩;unfold z9 at C;rw[Qam]at C;obtain⟨tt,htt,rfl⟩:=Qbq.mp C;generalize hws:dwN kk i++List.replicate (k-kk i) ((dwN kk i).getD i 0+1)=ws at *;have wl:ws.length=k:=by rw[<-hws,Qaf,Qbj,lD];lia
    have wi:ws.getD i 0=(dwN kk i).getD i 0:=by rw[<-hws,Qap,Qbc (by lia),Qap]
    have vi4:Yd (dwK ws) (.inl (i:Int))=some (.int (((dwN kk i).getD i 0:Nat):Int)):=by rw[zI,Qba (by lia),wi]
    refine Zi ⟨_,rfl,.inr (.inr (.inl ⟨rfl,.inl ⟨_,J⟩⟩)),_,rfl,_,rfl,_,rfl,d,_,rfl,.inl ⟨_,.inl (i:Int),.inl J,rfl,vi4.symm⟩,_,_,rfl,rfl,d,.inl (tt:Int),_,_,rfl,rfl,J,by rw[Zm3,wl];exact Xf (by lia),?_,?_⟩
    ·intro y C;rw[zI]at C;rcases G.more q htt f1 with⟨q1,q2⟩|⟨q1,q2⟩
     ·exact⟨_,k,rfl,q2,f2,f3,by rw[hws];exact J,s4⟩
     ·rw[Qa4 (by lia)]at C;cases C
    ·intro C;rw[zI]at C;rcases G.more q htt f1 with⟨q1,q2⟩|⟨q1,q2⟩
     ·rw[Qba (by lia)]at C;cases C
     ·obtain⟨k',e1,e2,e3⟩:=G.part q (j+1);have ek:k'=k+1:=by
       rw[q2]at e1;have:=congrArg List.length e1;rw[Qa5,Qa5]at this;exact this.symm
      have:=G.le (i+1) q;refine⟨_,k+1,rfl,q2,by lia,by lia,?_,ZY s4 hd⟩;rw[Za,q1,<-wl];show some (HO.dK (putK (dwK ws) (.inl (ws.length:Int)) (.int (((dwN kk i).getD i 0:Int)+1))))=_;rw[show(((dwN kk i).getD i 0:Nat):Int)+1=(((dwN kk i).getD i 0+1:Nat):Int)from rfl,Zm4,wl,<-hws,Qcy,show k+1-kk i=(k-kk i)+1 by lia,Qf4]
   ·rintro σ H4 ⟨u4,k,rfl,f1,f2,f3,J,s4⟩;rw[show(z9 (nx.getD i [])).length=(nx.getD i []).length from Qad _,Qbf,G.step q]at f1;have ek:kk (i+1)=k:=by
     have:=congrArg List.length f1;rw[Qa5,Qa5]at this;exact this
    refine⟨_,_,_,rfl,q,by rw[<-ek]at J;exact J,fun j hj c O=>?_,s4⟩
    by_cases e:j=i
    ·rw[e];exact hnr c O
    ·exact D j (by lia) c O
 ·rintro σ H2 ⟨u2,u3,u4,rfl,hi,Z,D,s2⟩;rw[hal,hol]at D;refine kN (fun ls c h=>?_) H2 s2;exact D _ (Zkm R R.pos fun x hx=>h x (Qb3 _ hx)) c (h c (Qaz _ (Qat.mpr rfl)))
inductive JP(vs:A0)(H:Hp)(Q:VK):Prop
 |mk (a:Int):(vs=[.int a])->(Q (.bl true) H)->JP vs H Q
def wz(K:Af):Sp:=fun vs H Q _=>JP vs H Q
theorem xa:Yx P w K mg base CX0 1 t.om t.oq ["found"] (wz K):=by
 refine T.bc.go wq (by rintro _ _ _ _ ⟨_,rfl,_⟩;rfl) ?_;rintro q A outer s H _ Q E C ⟨a,rfl,k⟩;have D:=ZK C;refine⟨_,(Zf (Zn (vR (Zp YG (by rfl) T.ah ZF (Zh (qv 0) (Zh (Xw (v:=.ty "int") (by rfl) T.mz vO rfl) Zd))) (xU (qe_not (Zp YG (by rfl) T.ah ZF (Zh (qv 0) (Zh (Xw (v:=.ty "bool") (by rfl) T.abo Zlg rfl) Zd)))))))),?_⟩;exact⟨_,rfl,_,_,_,_,rfl,.int a,XB,true,rfl,Y4 ⟨_,rfl,_,_,_,_,rfl,.int a,vP,false,rfl,k⟩⟩
inductive WL(K:Af)(vs:A0)(H:Hp)(Q:VK):Prop
 |mk (a:Au) (ns:Ak) (j:Nat):(vs=[.ref a,.int (j:Int)])->(SqL K H a (ns.map V.int))->(∀v:Int,Q (.int v) H)->WL K vs H Q
def j5(K:Af):Sp:=fun vs H Q _=>WL K vs H Q
theorem j6:Yx P w K mg base CX0 1 t.lb t.lg ["script","k"] (j5 K):=by
 refine T.ak.go jq (by rintro _ _ _ _ ⟨_,_,_,rfl,_⟩;rfl) ?_;rintro D A outer s H _ Q E F ⟨a,ns,j,rfl,q,k⟩;have I:=ZK F;refine⟨_,(Zb (Z9 (Zo yx (qv 1) (Zp Zu (by rfl) T.af ZT (Zh (qv 0) Zd)) (Z3 _))
   (Zf (Zn (Zq Z2 (qv 0) (qv 1)))) Zv)
   (Zf (Zn Ze))),?_⟩
 refine L2.let2 ?_;intro G;refine⟨_,rfl,_,rfl,a,_,rfl,.inl q,_,_,rfl,rfl,_,rfl,xB (fun h=>?_) (fun h=>?_)⟩
 ·have C:j<ns.length:=by
   grind
  exact⟨_,rfl,_,rfl,a,_,_,_,rfl,rfl,q,Ya (by rw[Qam,Qac C];rfl),k _⟩
 ·exact k 0
inductive WM(vs:A0)(H:Hp)(Q:VK):Prop
 |mk (cell:Int) (many most:Nat):(vs=[.int cell,.int (many:Int),.int (most:Int)])->(many<=1000)->(1<=most)->(most<=1000003)->(∀p (ns:Ak) H',H p=none->H' p=some (.lst (ns.map V.int))->ns.length=many->(∀x∈ns,0<=x/\x<(most:Int))->Z8 H H'->Q (.ref p) H')->WM vs H Q
def j7(K:Af):Sp:=fun vs H Q _=>WM vs H Q
theorem JQ:Yx P w K mg base CX0 1 t.lh t.lj ["cell","many","most"] (j7 K):=by
 refine T.bh.go ZE (by rintro _ _ _ _ ⟨_,_,_,rfl,_⟩;rfl) ?_;rintro cdv A outer s H _ Q E hr ⟨J,q,C,rfl,hmany,hm1,hm2,k⟩;have hu:=ZK hr;refine⟨_,(Zb (Z4 3 ZE.nd (Yq Zd))
   (Zb (Z4 4 ZE.nd (Zp uB (by rfl) T.abk Zjr (Zh (qv 0) Zd)))
   (Zb (Z9 (Zo Zgy (qv 4) (Zs Zi5 Ze Ze) (Z3 _))
   (Zb (Z4 4 ZE.nd (Zs JG (qv 4) (Zs Zi5 Ze Ze)))
   (Zb (Yk Qa7 rfl (YC rfl T.au (Zh (qv 1) Zd)) (YB 5 ZE.nd)
   (Zb (Yi (YD Qaw Qa0 Qa1 ZH (qv 3) (Zh (Zs ZN (qv 4) (qv 2)) Zd)))
   (Zf (Z4 4 ZE.nd (Zs YO (qv 4) (qv 2))))))
   (Zf (Zn (qv 3))))) Zv)
   (Zb (Z4 6 ZE.nd (Zs ZN (Zs Yz (Zs Wr (qv 0) Ze) Ze) Ze))
   (Zb (Z4 7 ZE.nd (Zs ZN (Zs Yz (Zs Wr (qv 0) Ze) Ze) Ze))
   (Zb (Yk Qa7 rfl (YC rfl T.au (Zh (qv 1) Zd)) (YB 5 ZE.nd)
   (Zb (Z4 6 ZE.nd (Zs ZN (Zs Yz (Zs Yz (Zs Wr (qv 6) Ze) (qv 7)) (qv 5)) Ze))
   (Zb (Z4 7 ZE.nd (Zs ZN (Zs Yz (Zs Wr (qv 7) (qv 7)) (qv 6)) Ze))
   (Zf (Yi (YD Qaw Qa0 Qa1 ZH (qv 3) (Zh (Zs ZN (Zs YO (Zs Yz (qv 6) (qv 7)) Ze) (qv 2)) Zd)))))))
   (Zf (Zn (qv 3))))))))),?_⟩
 refine L2.let7 ?_;intro U6 U5 U4 U3 U2 U1;refine⟨by decide,fun p hp=>?_⟩;refine⟨_,rfl,_,rfl,?_⟩;refine⟨_,rfl,_,_,rfl,rfl,⟨by decide,by decide,by decide⟩,_,_,rfl,rfl,_,rfl,xB (fun _=>?_) (fun _=>?_)⟩
 ·refine⟨_,rfl,_,_,rfl,rfl,⟨by decide,by decide,by decide⟩,_,_,rfl,rfl,?_⟩;refine⟨_,rfl,(q:Int),rfl,by lia,by lia,Wb (fun i σ H2=>∃(r:Int) (u:Option V) (ns:Ak),σ=[some (.int J),some (.int q),some (.int C),some (.ref p),some (.int r),u,none,none]/\H2 p=some (.lst (ns.map V.int))/\ns.length=i/\(∀x∈ns,0<=x/\x<(C:Int))/\Z8 H H2/\i<=q) ⟨_,none,[],rfl,Za,rfl,(fun _ h=>nomatch h),Zc hp,Qbp _⟩ ?_ ?_⟩
  ·rintro i σ H2 hi ⟨r,u,ns,rfl,h2,I,Z,Y,O⟩;refine⟨_,rfl,.inl ⟨rfl,_,SqL.of h2⟩,_,rfl,_,rfl,_,_,rfl,rfl,(by lia),p,_,_,rfl,rfl,h2,?_,?_⟩
   ·rw[Qad,I];exact Zy (by lia)
   ·refine⟨_,rfl,_,rfl,_,_,rfl,rfl,.of (by lia) (by lia),_,_,ns++[r%C],rfl,?_,?_,?_,?_,hi⟩
    ·rw[Za,Qbd];rfl
    ·rw[Qaf,I];rfl
    ·exact Zab Z ⟨Qbe _ (by lia),Qa3 _ (by lia)⟩
    ·exact ZY Y hp
  ·rintro σ H2 ⟨r,u,ns,rfl,h2,I,Z,Y,O⟩;exact⟨_,rfl,k p ns H2 hp h2 I Z Y⟩
 ·refine⟨_,rfl,_,_,rfl,rfl,.inr (.inr ⟨by decide,by decide⟩),_,_,rfl,rfl,_,_,rfl,rfl,(by decide),?_⟩;refine⟨_,rfl,_,_,rfl,rfl,.inr (.inr ⟨by decide,by decide⟩),_,_,rfl,rfl,_,_,rfl,rfl,(by decide),?_⟩;refine⟨_,rfl,(q:Int),rfl,by lia,by lia,Wb (fun i σ H2=>∃(r one F:Int) (u:Option V) (ns:Ak),σ=[some (.int J),some (.int q),some (.int C),some (.ref p),some (.int r),u,some (.int one),some (.int F)]/\0<=one/\one<2147483629/\0<=F/\F<1000000007/\H2 p=some (.lst (ns.map V.int))/\ns.length=i/\(∀x∈ns,0<=x/\x<(C:Int))/\Z8 H H2/\i<=q) ⟨_,_,_,none,[],rfl,Qbe _ (by decide),Qa3 _ (by decide),Qbe _ (by decide),Qa3 _ (by decide),Za,rfl,(fun _ h=>nomatch h),Zc hp,Qbp _⟩ ?_ ?_⟩
  ·rintro i σ H2 hi ⟨r,one,F,u,ns,rfl,o0,o1,t0,t1,h2,I,Z,Y,O⟩;refine⟨_,rfl,_,_,rfl,rfl,.inr (.inr ⟨by decide,by decide⟩),_,rfl,_,_,rfl,rfl,_,rfl,_,_,rfl,rfl,_,_,rfl,rfl,(by decide),?_⟩;generalize h1e:(one*69069+F+(0+(i:Int)))%2147483629=D;have p0:0<=D:=by lia
   have p1:D<2147483629:=by lia
   refine⟨_,rfl,_,rfl,_,_,rfl,rfl,.inr (.inl ⟨by lia,by lia⟩),_,rfl,_,_,rfl,rfl,_,_,rfl,rfl,(by decide),?_⟩;generalize h2e:(F*F+D)%1000000007=G;have q0:0<=G:=by lia
   have q1:G<1000000007:=by lia
   refine⟨_,rfl,.inl ⟨rfl,_,SqL.of h2⟩,_,rfl,_,rfl,_,_,rfl,rfl,_,_,rfl,rfl,.of (by decide) (by decide),_,rfl,_,_,rfl,rfl,(by lia),p,_,_,rfl,rfl,h2,?_,?_⟩
   ·rw[Qad,I];exact Zy (by lia)
   ·refine⟨_,D,G,_,ns++[(D+G)/16%C],rfl,p0,p1,q0,q1,?_,?_,?_,?_,hi⟩
    ·rw[Za,Qbd];rfl
    ·rw[Qaf,I];rfl
    ·exact Zab Z ⟨Qbe _ (by lia),Qa3 _ (by lia)⟩
    ·exact ZY Y hp
  ·rintro σ H2 ⟨r,one,F,u,ns,rfl,o0,o1,t0,t1,h2,I,Z,Y,O⟩;exact⟨_,rfl,k p ns H2 hp h2 I Z Y⟩
inductive GO(vs:A0)(H:Hp)(Q:VK):Prop
 |mk (n:Int) (tn:Au) (ys:Ai):(vs=[.int n,.ref tn])->(0<=n)->(H tn=some (.tup (ys.map V.str)))->(ys.length<=1000)->(∀p w H',H p=none->H' p=some (.tup [w])->Zex ys w->Z8 H H'->Q (.ref p) H')->GO vs H Q
def zX(K:Af):Sp:=fun vs H Q _=>GO vs H Q
theorem ue:Yx P w K mg base CX0 1 t.ro t.rp ["number","names"] (zX K):=by
 refine T.uj.go gW (by rintro _ _ _ _ ⟨_,_,_,rfl,_⟩;rfl) ?_;rintro O A outer s H _ Q E Y ⟨n,C,ys,rfl,hn,D,Z,k⟩;have hu:=ZK Y;refine⟨_,(Zb (Z9 (WZ (vQ (Zo yx (Zs ZN (qv 0) Ze) Ze (Z3 _)) (xT (Zo Zn2 (Zp Zu (by rfl) T.af ZT (Zh (qv 1) Zd)) Ze (Z3 _)))))
   (Zf (Zn (Yc (Zh (Zq Zr (qv 1) (Zs ZN (Zs YO (qv 0) Ze) (Zp Zu (by rfl) T.af ZT (Zh (qv 1) Zd)))) Zd)))) Zv)
   (Zb (Z9 (Zo Ys (Zs ZN (qv 0) Ze) Ze (Z3 _))
   (Zf (Zn (Yc (Zh (Zs ZN (Zs YO (qv 0) Ze) Ze) Zd)))) Zv)
   (Zf (Zn (Yc (Zh (Zs ZN (Zs YO (qv 0) Ze) Ze) Zd)))))),?_⟩
 refine L2.let3 ?_;intro U2 I;have fin:∀z:Int,0<=z->z<1000->∀p,H p=none->Q (.ref p) (upd H p (.tup [.int z])):=fun z F h1 p q=>k p _ _ q Za (.inr ⟨z,rfl,F,h1⟩) (Zc q);have rest:I {nx:=fun _ H'=>Q .non H',rt:=Q} [some (.int n),some (.ref C)] H:=by
  refine⟨_,rfl,_,_,rfl,rfl,(by decide),rfl,_,rfl,xB (fun _=>?_) (fun _=>?_)⟩
  ·refine⟨_,rfl,_,_,rfl,rfl,.of (by decide) (by decide),_,_,rfl,rfl,(by decide),Zcm,fun p q=>?_⟩;exact fin _ (Qbe _ (by decide)) (by grind) p q
  ·refine⟨_,rfl,_,_,rfl,rfl,.of (by decide) (by decide),_,_,rfl,rfl,(by decide),Zcm,fun p q=>?_⟩;exact fin _ (Qbe _ (by decide)) (Qa3 _ (by decide)) p q
 refine⟨_,rfl,_,_,rfl,rfl,(by decide),_,_,rfl,rfl,_,rfl,xB (fun _=>?_) (fun _=>?_)⟩
 ·refine⟨_,rfl,C,_,rfl,.inr (SqT.of D),_,_,rfl,rfl,_,rfl,xB (fun hg=>?_) (fun _=>rest)⟩;have hpos:0<ys.length:=by
   grind
  have q:(0:Int)<((ys.map V.str).length:Int):=by lia
  obtain⟨y,J,G⟩:=xG (ys:=ys) (i:=n/20%((ys.map V.str).length:Int)) (Qbe _ (by lia)) (by have:=Qa3 (n/20) q;rw[Qad]at this ⊢;exact this);exact⟨_,rfl,_,rfl,_,_,rfl,rfl,.of (by decide) (by decide),_,rfl,C,_,rfl,.inr (SqT.of D),_,_,rfl,rfl,q,C,_,_,_,rfl,rfl,SqT.of D,G,Zcm,fun p q=>k p _ _ q Za (.inl ⟨y,J,rfl⟩) (Zc q)⟩
 ·exact ZU rest
inductive GP(vs:A0)(H:Hp)(Q:VK):Prop
 |mk (n l:Int):(vs=[.int n,.int l])->(0<=n)->(∀(y:Str) H',(y = "" \/ y∈G9)->(l=0->y∉WH)->Z8 H H'->Q (.str y) H')->GP vs H Q
def uf(K:Af):Sp:=fun vs H Q _=>GP vs H Q
def wdA:Ai:=["","","","","","","not","neg","twice","low","and","or","odd","add","sub"]
def wdB:Ai:=["add","sub","pick","pick","odd"]
def Znt:Ai:=["","","","","","","not","neg","twice","low","and","or","odd","add","sub","add","sub","pick","pick","odd"]
omit T TB in
theorem wrd_ok:∀y∈Znt,y = "" \/ y∈G9:=by decide +kernel
theorem ug:Yx P w K mg base CX0 1 t.rq t.rr ["number","left"] (uf K):=by
 refine T.vl.go W7 (by rintro _ _ _ _ ⟨_,_,rfl,_⟩;rfl) ?_;rintro cdv A outer s H _ Q E hr ⟨n,l,rfl,hn,k⟩;have hu:=ZK hr;refine⟨_,(Zb (Z4 2 W7.nd (Yq (Zh Zl (Zh Zl (Zh Zl (Zh Zl (Zh Zl (Zh Zl (Zh Zl (Zh Zl (Zh Zl (Zh Zl (Zh Zl (Zh Zl (Zh Zl (Zh Zl (Zh Zl Zd)))))))))))))))))
   (Zb (Z4 2 W7.nd (Zs vL (qv 2) (Yq (Zh Zl (Zh Zl (Zh Zl (Zh Zl (Zh Zl Zd))))))))
   (Zb (Z4 3 W7.nd (Zq Z2 (qv 2) (Zs ZN (qv 0) Ze)))
   (Zb (Z9 (WZ (vQ (Zo Ys (qv 1) Ze (Z3 _)) (xT (Zo ZW (qv 3) (Yc (Zh Zl (Zh Zl (Zh Zl Zd)))) (by with_unfolding_all rfl)))))
   (Zf (Zn Zl)) Zv)
   (Zb (Z9 (WZ (vQ (Zo Ys (qv 1) Ze (Z3 _)) (xT (Zo ZW (qv 3) (Yc (Zh Zl (Zh Zl Zd))) (by with_unfolding_all rfl)))))
   (Zf (Zn (Zq Z2 (Yq (Zh Zl (Zh Zl (Zh Zl Zd)))) (Zs ZN (Zs YO (qv 0) Ze) Ze)))) Zv)
   (Zf (Zn (qv 3)))))))),?_⟩
 refine L2.let6 ?_;intro U5 U4 U3 U2 U1;have G:0<=n%20/\n%20<20:=⟨Qbe _ (by decide),Qa3 _ (by decide)⟩;refine⟨by decide,fun Z hm1=>Zi ⟨_,rfl,by decide,fun m2 I=>⟨Z,m2,_,_,rfl,rfl,Zc I _ _ Za,Za,by decide,fun m hm=>Zi ?_⟩⟩⟩;have s1:Z8 H (upd (upd (upd H Z (.lst (wdA.map V.str))) m2 (.lst (wdB.map V.str))) m (.lst (Znt.map V.str))):=(Zc (o:=.lst (wdA.map V.str)) hm1).trans ((Zc (o:=.lst (wdB.map V.str)) I).trans (Zc (o:=.lst (Znt.map V.str)) hm));have hm':upd (upd (upd H Z (.lst (wdA.map V.str))) m2 (.lst (wdB.map V.str))) m (.lst (Znt.map V.str)) m=some (.lst (Znt.map V.str)):=Za;obtain⟨y,hy,ey⟩:=xG (ys:=Znt) (i:=n%20) G.1 G.2;have hyw:=wrd_ok y hy;refine⟨_,rfl,_,rfl,_,_,rfl,rfl,(by decide),m,_,_,_,rfl,rfl,SqL.of hm',ey,Zi ?_⟩;have C:∀(H2:Hp),Z8 H H2->(l=0->y∉WH)->U5 {nx:=fun _ H'=>Q .non H',rt:=Q} [some (.int n),some (.int l),some (.ref m),some (.str y)] H2:=fun H2 Y h=>⟨_,rfl,k y H2 hyw h Y⟩;have r1:∀z:Str,z∈WH↔(z∈(["neg","twice","low"]:Ai)\/z∈(["add","sub"]:Ai)):=fun z=>by
  unfold WH;simp only[Qaq,Qbo,Qem];constructor
  ·rintro(h|h|h|h|h)<;>simp[h]
  ·rintro((h|h|h)|(h|h))<;>simp[h]
 have J:∀(H2:Hp),Z8 H H2->(l=0->y∉(["neg","twice","low"]:Ai))->U4 {nx:=fun _ H'=>Q .non H',rt:=Q} [some (.int n),some (.int l),some (.ref m),some (.str y)] H2:=fun H2 Y h=>by
  refine⟨_,rfl,rfl,_,rfl,?_⟩
  by_cases D:l=0
  ·rw[Qal (congrArg V.int D)];refine Y4 ⟨_,rfl,by decide,fun q hq=>⟨q,_,rfl,.inr (SqT.of Za),rfl,rfl,_,rfl,?_⟩⟩;show if inV (.str y) ((["add","sub"]:Ai).map V.str)=true then _ else _;rw[ZL];have O:=Y.trans (Zc (o:=.tup [.str "add",.str "sub"]) hq)
   by_cases h2:y∈(["add","sub"]:Ai)
   ·rw[Qal h2];obtain⟨z,hz,ez⟩:=xG (ys:=["and","or","odd"]) (i:=n/20%3) (Qbe _ (by decide)) (Qa3 _ (by decide));refine Y4 ⟨by decide,fun g hg=>⟨_,rfl,_,_,rfl,rfl,.of (by decide) (by decide),_,_,rfl,rfl,(by decide),g,_,_,_,rfl,rfl,SqL.of Za,ez,?_⟩⟩;obtain⟨g1,g2⟩:=(by decide +kernel:∀z∈(["and","or","odd"]:Ai),z∈G9/\z∉WH) z hz;exact k z _ (.inr g1) (fun _=>g2) (O.trans (Zc hg))
   ·rw[Qaj h2];exact ZU (C _ O fun F z=>((r1 y).mp z).elim (h F) h2)
  ·rw[Qaj fun z=>D (by injection z)];exact ZU (C _ Y fun F=>absurd F D)
 refine⟨_,rfl,rfl,_,rfl,?_⟩
 by_cases D:l=0
 ·rw[Qal (congrArg V.int D)];refine Y4 ⟨_,rfl,by decide,fun q hq=>⟨q,_,rfl,.inr (SqT.of Za),rfl,rfl,_,rfl,?_⟩⟩;show if inV (.str y) ((["neg","twice","low"]:Ai).map V.str)=true then _ else _;rw[ZL];have O:=s1.trans (Zc (o:=.tup [.str "neg",.str "twice",.str "low"]) hq)
  by_cases h2:y∈(["neg","twice","low"]:Ai)
  ·rw[Qal h2];exact Y4 (k "not" _ (.inr (by decide +kernel)) (fun _=>by decide +kernel) O)
  ·rw[Qaj h2];exact ZU (J _ O fun _=>h2)
 ·rw[Qaj fun z=>D (by injection z)];exact ZU (J _ s1 fun F=>absurd F D)
inductive WN(vs:A0)(H:Hp)(Q:VK):Prop
 |mk (p:Au) (ws:A0):(vs=[.ref p])->((H p=some (.lst ws)\/H p=some (.tup ws)))->((∀w∈ws,(∃y,w=.str y)\/∃z,w=.int z))->(ws.length<=100)->(∀H',Z8 H H'->Q (.int (ws.filter qb).length) H')->WN vs H Q
def j8(K:Af):Sp:=fun vs H Q _=>WN vs H Q
theorem j9:Yx P w K mg base CX0 1 t.ll t.lq ["words"] (j8 K):=by
 refine T.mq.go jr (by rintro _ _ _ _ ⟨_,_,rfl,_⟩;rfl) ?_;rintro cdv A outer s H _ Q E O ⟨p,ws,rfl,I,hw,hl,k⟩;have hu:=ZK O;refine⟨_,(Zf (Zn (Zp Zu (by rfl) T.af ZT (Zh (Y0 ({}:ZZ (Zg Wy) _ ["words"] "word" [] []) (QI.or (XD (qv 0)) (Xs (qv 0))) (fun _ _ _ _=>(jM (Zo (show OpR _ (compareOp .In) (rIn K false)from ZW) (qv 0) (Yc (Zh Zl (Zh Zl (Zh Zl (Zh Zl (Zh Zl Zd)))))) (by with_unfolding_all rfl)))) (fun _ _ _ _=>(qv 0))) Zd)))),?_⟩;have Y:∀x∈ws,Xb x=true/\inV x ((["add","sub","neg","twice","low"]:Ai).map V.str)=qb x:=fun x C=>by
  rcases hw x C with⟨y,rfl⟩|⟨z,rfl⟩
  ·refine⟨rfl,?_⟩;rw[ZL];refine Qg9.mpr ?_;unfold WH;simp only[Qaq,Qbo,Qem];constructor
   ·rintro(h|h|h|h|h)<;>simp[h]
   ·rintro(h|h|h|h|h)<;>simp[h]
  ·exact⟨rfl,yV z _⟩
 have fin:∀(zs:A0) (H1:Hp),zs=(ws.take ws.length).filter qb/\Z8 H H1->∀q,H1 q=none->(tCB (fun xs H Q=>∃p ys,xs=[V.ref p]/\(SqL K H p ys\/SqT K H p ys)/\Q (V.int ys.length) H) (fun _ H Q=>Q [.ref q] H)) [] (upd H1 q (.lst zs)) Q:=by
  rintro zs H1 ⟨rfl,J⟩ q D;refine⟨q,_,rfl,.inl (SqL.of Za),?_⟩;rw[Qbf];exact k _ (J.trans (Zc D))
 have G:∀i,((ws.take i).filter qb).length<=sizeLine:=fun i=>Qau (Zy (Qa8 (Qc9 _ _) (by rw[Qas];lia)));have F:∀(i:Nat) (x:V),ws[i]?=some x->((ws.take (i+1)).filter qb)=if qb x=true then(ws.take i).filter qb++[x]else(ws.take i).filter qb:=fun i x C=>by
  rw[take_snoc C,Qdd,Qcw];split
  ·rfl
  ·rw[List.filter_nil,Qbm]
 rcases I with I|I
 ·refine .inl ⟨_,rfl,p,rfl,⟨_,SqL.of I⟩,Gp (K:=K) (a:=p) (xs:=ws) (fun i zs H'=>zs=(ws.take i).filter qb/\Z8 H H') ⟨rfl,Z8.refl _⟩ (fun i zs H' h=>by rw[h.1];exact G i) (fun i zs H' h=>SqL.of (h.2 _ _ I)) (fun i x zs H1 R hR C h=>?_) (fun zs H1 h q D=>fin zs H1 h q D)⟩;obtain⟨rfl,J⟩:=h;obtain⟨f1,Z⟩:=Y x (Qag C);refine⟨_,rfl,by decide,fun q D=>⟨q,_,rfl,.inr (SqT.of Za),f1,rfl,_,rfl,?_⟩⟩;show if inV x ((["add","sub","neg","twice","low"]:Ai).map V.str)=true then _ else _;rw[Z];have s2:=J.trans (Zc (o:=.tup [.str "add",.str "sub",.str "neg",.str "twice",.str "low"]) D);have g:=F i x C
  by_cases O:qb x=true
  ·rw[Qba O]at g ⊢;exact⟨_,rfl,hR _ _ ⟨g.symm,s2⟩⟩
  ·grind
 ·refine .inr ⟨_,rfl,p,rfl,⟨_,SqT.of I⟩,Jv (K:=K) (a:=p) (xs:=ws) (fun i zs H'=>zs=(ws.take i).filter qb/\Z8 H H') ⟨rfl,Z8.refl _⟩ (fun i zs H' h=>by rw[h.1];exact G i) (fun i zs H' h=>SqT.of (h.2 _ _ I)) (fun i x zs H1 R hR C h=>?_) (fun zs H1 h q D=>fin zs H1 h q D)⟩;obtain⟨rfl,J⟩:=h;obtain⟨f1,Z⟩:=Y x (Qag C);refine⟨_,rfl,by decide,fun q D=>⟨q,_,rfl,.inr (SqT.of Za),f1,rfl,_,rfl,?_⟩⟩;show if inV x ((["add","sub","neg","twice","low"]:Ai).map V.str)=true then _ else _;rw[Z];have s2:=J.trans (Zc (o:=.tup [.str "add",.str "sub",.str "neg",.str "twice",.str "low"]) D);have g:=F i x C
  by_cases O:qb x=true
  ·rw[Qba O]at g ⊢;exact⟨_,rfl,hR _ _ ⟨g.symm,s2⟩⟩
  ·grind
inductive xb(vs:A0)(H:Hp)(Q:VK):Prop
 |mk (y:Str) (a:Int):(vs=[.str y,.int a])->(Q (.int (Zpf y a)) H)->xb vs H Q
def Zb7(K:Af):Sp:=fun vs H Q _=>xb vs H Q
theorem Zb8:Yx P w K mg base CX0 1 t.aaf t.aag ["word","one"] (Zb7 K):=by
 refine T.aat.go Zb2 (by rintro _ _ _ _ ⟨_,_,rfl,_⟩;rfl) ?_;rintro C A outer s H _ Q E D ⟨y,a,rfl,k⟩;have I:=ZK D;refine⟨_,(Zb (Z9 (Zo Ys (qv 0) Zl (Z3 _))
   (Zf (Zn (Zs JG (XC Xz Ze) (qv 1)))) Zv)
   (Zb (Z9 (Zo Ys (qv 0) Zl (Z3 _))
   (Zf (Zn (XC Xz (qv 1)))) Zv)
   (Zb (Z9 (Zo Ys (qv 0) Zl (Z3 _))
   (Zf (Zn (Zs Wr Ze (qv 1)))) Zv)
   (Zf (Zn (Zs Xc (qv 1) (XC Xz (qv 1)))))))),?_⟩
 refine L2.let4 ?_;intro J F G;unfold Zpf at k;refine⟨_,rfl,rfl,_,rfl,?_⟩
 by_cases h1:y = "not"
 ·rw[Qal (congrArg V.str h1)];rw[Qba h1,show Builtin.bitNot a=-1-a by unfold Builtin.bitNot;lia]at k;exact Y4 ⟨1,rfl,_,rfl,_,_,rfl,rfl,k⟩
 rw[Qaj (fun z=>h1 (by injection z))];rw[Qa4 h1]at k;refine ZU ⟨_,rfl,rfl,_,rfl,?_⟩
 by_cases h2:y = "neg"
 ·rw[Qal (congrArg V.str h2)];rw[Qba h2]at k;exact Y4 ⟨_,rfl,_,rfl,k⟩
 rw[Qaj (fun z=>h2 (by injection z))];rw[Qa4 h2]at k;refine ZU ⟨_,rfl,rfl,_,rfl,?_⟩
 by_cases q:y = "twice"
 ·rw[Qal (congrArg V.str q)];rw[Qba q,show a+a=2*a by lia]at k;exact Y4 ⟨_,rfl,_,_,rfl,rfl,.inr (.inl ⟨by decide,by decide⟩),k⟩
 rw[Qaj (fun z=>q (by injection z))];rw[Qa4 q]at k;exact ZU ⟨_,rfl,_,rfl,_,rfl,_,_,rfl,rfl,k⟩
inductive xc(vs:A0)(H:Hp)(Q:VK):Prop
 |mk (y:Str) (a b:Int):(vs=[.str y,.int a,.int b])->(Q (.int (Zpg y a b)) H)->xc vs H Q
def Zb9(K:Af):Sp:=fun vs H Q _=>xc vs H Q
theorem Zca:Yx P w K mg base CX0 1 t.aah t.aai ["word","one","other"] (Zb9 K):=by
 refine T.aau.go Zb3 (by rintro _ _ _ _ ⟨_,_,_,rfl,_⟩;rfl) ?_;rintro D A outer s H _ Q E F ⟨y,a,b,rfl,k⟩;have O:=ZK F;refine⟨_,(Zb (Z9 (Zo Ys (qv 0) Zl (Z3 _))
   (Zf (Zn (Zs Xc (qv 1) (qv 2)))) Zv)
   (Zb (Z9 (Zo Ys (qv 0) Zl (Z3 _))
   (Zf (Zn (Zs jf (qv 1) (qv 2)))) Zv)
   (Zb (Z9 (Zo Ys (qv 0) Zl (Z3 _))
   (Zf (Zn (Zs xO (qv 1) (qv 2)))) Zv)
   (Zb (Z9 (Zo Ys (qv 0) Zl (Z3 _))
   (Zf (Zn (Zs Yz (qv 1) (qv 2)))) Zv)
   (Zf (Zn (Zs JG (qv 1) (qv 2)))))))),?_⟩
 refine L2.let5 ?_;intro G Y I J;unfold Zpg at k;refine⟨_,rfl,rfl,_,rfl,?_⟩
 by_cases h1:y = "and"
 ·rw[Qal (congrArg V.str h1)];rw[Qba h1]at k;exact Y4 ⟨_,rfl,_,rfl,_,_,rfl,rfl,k⟩
 rw[Qaj (fun z=>h1 (by injection z))];rw[Qa4 h1]at k;refine ZU ⟨_,rfl,rfl,_,rfl,?_⟩
 by_cases h2:y = "or"
 ·rw[Qal (congrArg V.str h2)];rw[Qba h2]at k;exact Y4 ⟨_,rfl,_,rfl,_,_,rfl,rfl,k⟩
 rw[Qaj (fun z=>h2 (by injection z))];rw[Qa4 h2]at k;refine ZU ⟨_,rfl,rfl,_,rfl,?_⟩
 by_cases q:y = "odd"
 ·rw[Qal (congrArg V.str q)];rw[Qba q]at k;exact Y4 ⟨_,rfl,_,rfl,_,_,rfl,rfl,k⟩
 rw[Qaj (fun z=>q (by injection z))];rw[Qa4 q]at k;refine ZU ⟨_,rfl,rfl,_,rfl,?_⟩
 by_cases C:y = "add"
 ·rw[Qal (congrArg V.str C)];rw[Qba C]at k;exact Y4 ⟨_,rfl,_,rfl,_,_,rfl,rfl,k⟩
 rw[Qaj (fun z=>C (by injection z))];rw[Qa4 C]at k;exact ZU ⟨_,rfl,_,rfl,_,_,rfl,rfl,k⟩
def jA(K:Af):Sp:=spAl K
theorem jB:Yx P w K mg base CX0 1 t.lr t.lx ["one","other","paper"] (jA K):=by
 refine T.mr.go Yv (by rintro _ _ _ _ ⟨_,_,_,_,_,_,_,_,_,_,_,_,_,_,rfl,_⟩;rfl) ?_;rintro cdv A outer s H _ Q E hr ⟨J,Y,c,nm1,nm2,b1,b2,nx1,nx2,ot1,ot2,tr,ps,ws,rfl,M1,M2,W1,W2,hc,hp,hlen,k⟩;have hu:=ZK hr;refine⟨_,(Zb (Z9 (Zo (Zeb (uJ hr)) (Zq Zr (qv 0) Ze) (Zq Zr (qv 1) Ze) (Z3 _))
   (Zf (Zn Xi)) Zv)
   (Zb (Z4 3 Yv.nd Zho)
   (Zb (Yk Qa7 rfl (Xs (qv 2)) (YB 4 Yv.nd)
   (Zf (Jd hu (qv 3) (qv 4) Xi rfl)))
   (Zb (Z9 (Zo (X4 hu) (Yc (Zh (Zq Zr (qv 0) Ze) (Zh (Zq Zr (qv 1) Ze) Zd))) (qv 3) (by with_unfolding_all rfl))
   (Zf (Zn Xi)) Zv)
   (Zb (Yk Qa7 rfl (Xs (qv 2)) (yB rfl (YB 5 Yv.nd) (YB 6 Yv.nd))
   (Zb (Z9 (WZ (Wc (Zo yx (qv 5) Ze (Z3 _)) (Wc (Zo Zgy (qv 5) (Zp Zu (by rfl) T.af ZT (Zh (Zq Zr (qv 0) Ze) Zd)) (Z3 _)) (Wc (Zo yx (qv 6) Ze (Z3 _)) (WD (Zo Zgy (qv 6) (Zp Zu (by rfl) T.af ZT (Zh (Zq Zr (qv 1) Ze) Zd)) (Z3 _)))))))
   (Zf (Zn Xi)) Zv)
   (Zb (Z9 (Zo (Zeb (uJ hr)) (Zq Zr (Zq Zr (qv 0) Ze) (qv 5)) (Zq Zr (Zq Zr (qv 1) Ze) (qv 6)) (Z3 _))
   (Zf (Zn Xi)) Zv)
   (Zf (Yk Qa7 rfl (Zjy (b1:=true) (b2:=true) rfl T.abc (Zh (Zq Zr (Zq Zr (qv 0) Ze) (qv 5)) (Zh (Zq Zr (Zq Zr (qv 1) Ze) (qv 6)) Zd))) (YB 7 Yv.nd)
   (Zf (Z9 (Zo (X4 hu) (qv 7) (qv 3) (by with_unfolding_all rfl))
   (Zf (Zn Xi)) Zv)))))))
   (Zf (Zn Xi))))))),?_⟩
 try dsimp only[L2.cxK,L2.cxK2]
 refine L2.let6 ?_;intro U5 U4 U3 U2 U1;obtain⟨pn1,ps1,po1,h1,n1,_,_⟩:=M1.ex;obtain⟨pn2,ps2,po2,h2,n2,_,_⟩:=M2.ex;refine⟨_,rfl,J,_,0,_,rfl,rfl,SqT.of h1,rfl,_,rfl,Y,_,0,_,rfl,rfl,SqT.of h2,rfl,pn1,pn2,_,_,rfl,rfl,SqT.of n1,SqT.of n2,kL _,kL _,_,rfl,?_⟩;show if(!uO (nm1.map V.str) (nm2.map V.str))=true then _ else _;rw[Zao]
 by_cases en:nm1≠nm2
 ·rw[Qaj en];exact Y4 (k false H ⟨(fun z=>nomatch z),fun h=>absurd h.1 en⟩ (Z8.refl H))
 have en:=Qe9.mp en;rw[Qal en];subst en;refine ZU (fun d hd=>?_);refine⟨_,rfl,c,rfl,⟨_,SqT.of (Zc hd _ _ hc)⟩,?_⟩;refine WX (K:=K) (a:=c) (xs:=ws) (fun i σ H2=>∃u,σ=[some (.ref J),some (.ref Y),some (.ref c),some (.ref d),u,none,none,none]/\H2 d=some (.dT (dk (ps.take i)))/\Z8 H H2) ⟨none,rfl,Za,Zc hd⟩ (fun i σ H2 _ ⟨u,_,_,s2⟩=>SqT.of (s2 _ _ hc)) ?_ ?_
 ·rintro i x σ H2 hx ⟨u,rfl,h3,s2⟩;obtain⟨q,a,hq,rfl,ha⟩:=(hp.same s2).at hx;refine⟨_,rfl,_,rfl,d,_,rfl,uN.t (k:=pk q) h3 ha ?_,_,rfl,?_,ZY s2 hd⟩
  ·have:=dk_len (ps.take i);rw[Qas]at this;exact Xf (by lia)
  ·rw[Za,take_snoc hq,gE]
 ·rintro σ H2 ⟨u,rfl,h3,s2⟩;rw[hp.1,Qbf]at h3;have h12:=s2 _ _ h1;have h22:=s2 _ _ h2;refine⟨_,rfl,J,_,1,_,rfl,rfl,SqT.of h12,rfl,_,rfl,Y,_,1,_,rfl,rfl,SqT.of h22,rfl,uy,fun q hq=>?_⟩;have s3:=Zc (o:=.tup [.int (b1:Int),.int (b2:Int)]) hq;refine⟨_,rfl,d,_,rfl,Zfb (x:=b1) (y:=b2) (.inl (s3 _ _ h3)) Za,_,rfl,?_⟩;show if(!(Yd (dk ps) (pk ((b1:Int),(b2:Int)))).isSome)=true then _ else _;rw[Zki]
  by_cases eb:¬((b1:Int),(b2:Int))∈ps
  ·rw[Qaj eb];exact Y4 (k false _ ⟨(fun z=>nomatch z),fun h=>absurd h.2.1 eb⟩ (s2.trans s3))
  have eb:=Qe9.mp eb;rw[Qal eb];refine ZU ?_;have I:=s2.trans s3;have h4:=s3 _ _ h3;generalize upd H2 q (.tup [.int (b1:Int),.int (b2:Int)])=H4 at *;refine⟨_,rfl,c,rfl,⟨_,SqT.of (I _ _ hc)⟩,?_⟩;refine WX (K:=K) (a:=c) (xs:=ws) (fun i σ H5=>∃u u6 u7 u8,σ=[some (.ref J),some (.ref Y),some (.ref c),some (.ref d),u,u6,u7,u8]/\Z8 H4 H5/\∀p∈ps.take i,PrOk nx1 nx2 ot1 ot2 ps p) ⟨u,none,none,none,rfl,Z8.refl H4,fun p hp=>nomatch hp⟩ (fun i σ H5 _ ⟨_,_,_,_,_,s5,_⟩=>SqT.of (s5 _ _ (I _ _ hc))) ?_ ?_
  ·rintro i v σ H5 hv ⟨u5,u6,u7,u8,rfl,s5,C⟩;have s25:=I.trans s5;obtain⟨⟨x,y⟩,a,hq,rfl,ha⟩:=(hp.same s25).at hv;have hm:(x,y)∈ps:=Qag hq;refine⟨a,_,rfl,SqT.of ha,rfl,_,_,rfl,_,_,rfl,rfl,?_⟩;obtain⟨_,D,po1',O,_,R1,O1⟩:=(M1.same s25).ex;obtain⟨_,F,po2',h2',_,R2,O2⟩:=(M2.same s25).ex;obtain⟨as1,g1,l1,_⟩:=id R1;obtain⟨as2,g2,l2,_⟩:=id R2;rw[Qad]at l1 l2;have kf:∀Z,Z8 H5 Z->¬PrOk nx1 nx2 ot1 ot2 ps (x,y)->Q (.bl false) Z:=fun Z G h=>k false Z ⟨(fun z=>nomatch z),fun z=>absurd (z.2.2 _ hm) h⟩ (s25.trans G)
   by_cases ok:(0<=x/\x<nx1.length)/\(0<=y/\y<nx2.length)
   ·obtain⟨i1,rfl⟩:∃i:Nat,x=(i:Int):=⟨x.toNat,by lia⟩;obtain⟨j1,rfl⟩:∃j:Nat,y=(j:Int):=⟨y.toNat,by lia⟩;have hi:i1<nx1.length:=by lia
    have hj:j1<nx2.length:=by lia
    have hi':i1<ot1.length:=by rw[W1.ol];exact hi
    have hj':j1<ot2.length:=by rw[W2.ol];exact hj
    have uniq:∀{i' j':Nat},((i1:Int),(j1:Int))=((i':Int),(j':Int))->i1=i'/\j1=j':=fun e=>by
     have e1:=congrArg Prod.fst e;have e2:=congrArg Prod.snd e;simp only at e1 e2;lia
    refine⟨_,rfl,_,_,rfl,rfl,_,rfl,xB (fun z=>absurd (Qbh z) (by lia)) (fun _=>?_)⟩;refine⟨_,rfl,_,rfl,J,_,2,_,rfl,rfl,SqT.of O,rfl,D,_,rfl,.inr (SqT.of g1),_,_,rfl,rfl,_,rfl,xB (fun z=>absurd (Qbh z) (by rw[l1];lia)) (fun _=>?_)⟩;refine⟨_,rfl,_,_,rfl,rfl,_,rfl,xB (fun z=>absurd (Qbh z) (by lia)) (fun _=>?_)⟩;refine⟨_,rfl,_,rfl,Y,_,2,_,rfl,rfl,SqT.of h2',rfl,F,_,rfl,.inr (SqT.of g2),_,_,rfl,rfl,_,rfl,?_⟩;rw[l2,Qaj (show¬(j1:Int)>=nx2.length by lia)];refine ZU ?_;obtain⟨cs1,a1,e1,e2,e3⟩:=Xy O1 hi';obtain⟨cs2,a2,f1,f2,f3⟩:=Xy O2 hj';refine⟨_,rfl,J,_,3,_,rfl,rfl,SqT.of O,rfl,_,rfl,po1',_,_,_,rfl,rfl,SqT.of e1,e2,_,rfl,Y,_,3,_,rfl,rfl,SqT.of h2',rfl,_,rfl,po2',_,_,_,rfl,rfl,SqT.of f1,f2,a1,a2,_,_,rfl,rfl,SqT.of e3,SqT.of f3,kO (W1.ok _ (getD_mem hi')),kO (W2.ok _ (getD_mem hj')),_,rfl,?_⟩;show if(!uO (ot1.getD i1 []) (ot2.getD j1 []))=true then _ else _;rw[kM (W1.ok _ (getD_mem hi')) (W2.ok _ (getD_mem hj'))]
    by_cases eo:ot1.getD i1 []≠ot2.getD j1 []
    ·rw[Qaj eo];refine Y4 (kf _ (Z8.refl _) fun⟨i',j',e,_,_,h,_⟩=>?_);obtain⟨rfl,rfl⟩:=uniq e;exact eo h
    have eo:=Qe9.mp eo;rw[Qal eo];refine ZU ?_;obtain⟨cs3,a3,p1,p2,p3⟩:=Xy R1 (i:=i1) (by rw[Qad];exact hi);obtain⟨cs4,a4,q1,q2,q3⟩:=Xy R2 (i:=j1) (by rw[Qad];exact hj);rw[Jm]at p3 q3;refine⟨_,rfl,J,_,2,_,rfl,rfl,SqT.of O,rfl,_,rfl,D,_,_,_,rfl,rfl,SqT.of p1,p2,_,rfl,Y,_,2,_,rfl,rfl,SqT.of h2',rfl,_,rfl,F,_,_,_,rfl,rfl,SqT.of q1,q2,a3,a4,_,_,rfl,SqB.t p3,SqB.t q3,?_⟩;refine Zl0 (xs:=z9 (nx1.getD i1 [])) (ys:=z9 (nx2.getD j1 [])) (fun n σ Z=>∃u,σ=[some (.ref J),some (.ref Y),some (.ref c),some (.ref d),u5,some (.int i1),some (.int j1),u]/\Z8 H5 Z/\∀p∈(wI (nx1.getD i1 []) (nx2.getD j1 [])).take n,p∈ps) ⟨u8,rfl,Z8.refl H5,fun p hp=>nomatch hp⟩ (fun n σ Z ⟨_,_,G,_⟩=>⟨SqB.t (G _ _ p3),SqB.t (G _ _ q3)⟩) ?_ ?_
    ·rintro n x' y' p σ Z hx hy ⟨u,rfl,G,hz⟩ hp6;obtain⟨xn,yn,rfl,rfl,_,_,hq6⟩:=Zmu hx hy;have s7:=Zc (o:=.tup [.int (xn:Int),.int (yn:Int)]) hp6;refine⟨_,rfl,_,rfl,d,_,rfl,Zfb (x:=xn) (y:=yn) (.inl (s7 _ _ (G _ _ (s5 _ _ h4)))) Za,_,rfl,?_⟩;show if(!(Yd (dk ps) (pk ((xn:Int),(yn:Int)))).isSome)=true then _ else _;rw[Zki]
     by_cases em:((xn:Int),(yn:Int))∈ps
     ·rw[Qal em];exact ZU ⟨_,rfl,G.trans s7,(GA hq6).mpr ⟨hz,em⟩⟩
     ·rw[Qaj em];refine Y4 (kf _ (G.trans s7) fun⟨i',j',e,_,_,_,h⟩=>?_);obtain⟨rfl,rfl⟩:=uniq e;exact em (h _ (Qag hq6))
    ·rintro σ Z ⟨u,rfl,G,hz⟩;rw[<-Zam,Qbf]at hz;exact⟨_,_,_,_,rfl,s5.trans G,(GA hq).mpr ⟨C,i1,j1,rfl,hi,hj,eo,hz⟩⟩
   ·have kf:=kf _ (Z8.refl _) fun⟨i',j',e,h1,h2,_⟩=>absurd (by
     have e1:x=(i':Int):=congrArg Prod.fst e;have e2:y=(j':Int):=congrArg Prod.snd e;lia) ok
    refine⟨_,rfl,_,_,rfl,rfl,_,rfl,xB (fun _=>Y4 kf) (fun x0=>?_)⟩;refine⟨_,rfl,_,rfl,J,_,2,_,rfl,rfl,SqT.of O,rfl,D,_,rfl,.inr (SqT.of g1),_,_,rfl,rfl,_,rfl,xB (fun _=>Y4 kf) (fun x1=>?_)⟩;refine⟨_,rfl,_,_,rfl,rfl,_,rfl,xB (fun _=>Y4 kf) (fun y0=>?_)⟩;refine⟨_,rfl,_,rfl,Y,_,2,_,rfl,rfl,SqT.of h2',rfl,F,_,rfl,.inr (SqT.of g2),_,_,rfl,rfl,_,rfl,?_⟩;simp only[Qfr]at x0 x1 y0;rw[l1]at x1;rw[l2,Qal (show y>=nx2.length from by lia)];exact Y4 kf
  ·rintro σ H5 ⟨u5,u6,u7,u8,rfl,s5,C⟩;rw[hp.1,Qbf]at C;exact k true H5 ⟨fun _=>⟨rfl,eb,C⟩,fun _=>rfl⟩ (I.trans s5)
inductive Wn(vs:A0)(H:Hp)(Q:VK):Prop
 |mk (tw tn:Au) (ws:A0) (ys:Ai):(vs=[.ref tw,.ref tn])->(H tw=some (.tup ws))->((∀w∈ws,kE w))->(H tn=some (.tup (ys.map V.str)))->(ys.length<=3)->(∀p H',H' p=some (.tup ((nmF ys ws).map V.str))->Z8 H H'->Q (.ref p) H')->Wn vs H Q
def zY(K:Af):Sp:=fun vs H Q _=>Wn vs H Q
theorem zZ:Yx P w K mg base CX0 1 t.ib t.ic ["words","names"] (zY K):=by
 refine T.ip.go zR (by rintro _ _ _ _ ⟨_,_,_,_,rfl,_⟩;rfl) ?_;rintro I A outer s H _ Q E Z ⟨tw,tn,ws,ys,rfl,hw,D,G,h3,k⟩;have hu:=ZK Z;refine⟨_,(Zf (Zn (ZC Z6 (by rfl) T.ai ZP (Zh (Y0 ({}:ZZ (Zg XZ) _ ["words","names"] "name" ["words"] [0]) (Xs (qv 1)) (fun _ _ _ _=>(jM (Zo (show OpR _ (compareOp .In) (rIn K false)from ZW) (qv 0) (qv 1) (by with_unfolding_all rfl)))) (fun _ _ _ _=>(qv 0))) Zd)))),?_⟩;have O:ws.all Xb=true:=Qb8.mpr fun w h=>by
  rcases D w h with⟨y,rfl,_⟩|⟨z,rfl⟩<;>rfl
 refine⟨_,rfl,tn,rfl,⟨_,SqT.of G⟩,zd (xs:=ys.map V.str) (fun x=>inV x ws) Z8 Z8.refl (fun _ _ _ x y=>x.trans y) (fun H1 q=>SqT.of (q _ _ G)) (by rw[Qad];exact Qau (Zy (by lia))) (fun x F H1 q R hR=>?_) (fun x F H1 R hR=>⟨_,rfl,hR⟩) (fun H1 l q C=>?_)⟩
 ·obtain⟨y,_,rfl⟩:=Qay.mp F;exact⟨_,rfl,_,rfl,tw,ws,rfl,.inr (SqT.of (q _ _ hw)),rfl,O,_,rfl,hR H1 (Z8.refl H1)⟩
 have Y:=q.trans (Zc (o:=.lst ((ys.map V.str).filter fun x=>inV x ws)) C);exact⟨l,_,rfl,.inl ⟨SqL.of Za,fun p J=>k p _ (by rw[Za,List.filter_map];rfl) (Y.trans (Zc J))⟩⟩
inductive xf(vs:A0)(H:Hp)(Q:VK):Prop
 |mk (tw tn:Au) (u:A0) (ys:Ai) (c:Int):(vs=[.ref tw,.ref tn,.int c])->(0<=c)->(H tw=some (.tup u))->(H tn=some (.tup (ys.map V.str)))->(Nm3 ys)->(Sm ys u)->(Y9 u<=2)->(∀p v H',H' p=some (.tup v)->Sm ys v->Z8 H H'->Q (.ref p) H')->xf vs H Q
def Zcb(K:Af):Sp:=fun vs H Q _=>xf vs H Q
theorem Zcc:Yx P w K mg base CX0 1 t.aaj t.aak ["words","names","cell"] (Zcb K):=by
 refine T.aav.go Xp (by rintro _ _ _ _ ⟨_,_,_,_,_,rfl,_⟩;rfl) ?_;rintro cdv A outer s H _ Q E hr ⟨tw,tn,u,ys,c,rfl,hc,hw,hn,N,S,hr2,k⟩;have hu:=ZK hr;refine⟨_,(Zb (Z4 3 Xp.nd (Zs ZN (qv 2) (Zp Zu (by rfl) T.af ZT (Zh (qv 0) Zd))))
   (Zb (Z4 4 Xp.nd (Zq Zr (qv 0) (qv 3)))
   (Zb (Z4 5 Xp.nd (qv 4))
   (Zb (Yk Qa7 rfl (XD (Yq (Zh (Yq (Zh Zl (Zh Zl (Zh Zl (Zh Zl Zd))))) (Zh (Yq (Zh Zl (Zh Zl (Zh Zl (Zh Zl (Zh Zl Zd)))))) (Zh (ZC vJ (by rfl) T.aay wN (Zh (qv 1) Zd)) Zd))))) (YB 6 Xp.nd)
   (Zf (Z9 (Zo ZW (qv 4) (qv 6) (by with_unfolding_all rfl))
   (Zf (Z4 5 Xp.nd (Zq Z2 (qv 6) (Zs ZN (Zs YO (qv 2) Ze) (Zp Zu (by rfl) T.af ZT (Zh (qv 6) Zd)))))) Zv)))
   (Zb (Z9 (Yt (Zp YG (by rfl) T.ah ZF (Zh (qv 4) (Zh (Xw (v:=.ty "int") (by rfl) T.mz vO rfl) Zd))))
   (Zf (Z4 5 Xp.nd (Zs ZN (Zs YO (qv 2) Ze) Ze))) Zv)
   (Zf (Zn (Zs JZ (Zs JZ (Y5 (SlR.or uC y6) (qv 0) YJ (XE (qv 3))) (Yc (Zh (qv 5) Zd))) (Y5 (SlR.or uC y6) (qv 0) (XE (Zs Yz (qv 3) Ze)) YJ))))))))),?_⟩
 refine L2.let6 ?_;intro U5 U4 U3 U2 U1;have hlen:0<u.length:=by
  have h:=yU u;rw[S.st]at h;lia
 have hln:=S.ln;have n3:=N.n3;refine⟨_,rfl,_,rfl,tw,u,rfl,.inr (SqT.of hw),_,_,rfl,rfl,(by lia),Zi ?_⟩;obtain⟨j,hj,hjl⟩:∃j:Nat,c%(u.length:Int)=(j:Int)/\j<u.length:=⟨(c%(u.length:Int)).toNat,by rw[Qep (Qbe _ (by lia))],by have h2:=Qa3 c (show(0:Int)<u.length by lia);lia⟩;rw[hj];obtain⟨wd,G⟩:∃wd,u[j]?=some wd:=⟨_,Qac hjl⟩;have hW:=S.wd wd (Qag G);refine⟨_,rfl,_,rfl,tw,_,_,_,rfl,rfl,SqT.of hw,Ya G,Zi ⟨_,rfl,Zi ?_⟩⟩;refine⟨by decide,fun l1 h1=>⟨by decide,fun l2 h2=>⟨_,rfl,tn,_,rfl,.inr (SqT.of (Zc h2 _ _ (Zc h1 _ _ hn))),fun q h3=>⟨Zo9,fun I h4=>?_⟩⟩⟩⟩;have s1:=Zc (o:=.lst [V.str "not",V.str "neg",V.str "twice",V.str "low"]) h1;have s2:=Zc (o:=.lst [V.str "and",V.str "or",V.str "odd",V.str "add",V.str "sub"]) h2;have s3:=Zc (o:=.lst (ys.map V.str)) h3;have Z:=Zc (o:=.lst [V.ref l1,V.ref l2,V.ref q]) h4;have O:∀(i:Nat) (x:V),[V.ref l1,V.ref l2,V.ref q][i]?=some x->∃(l:Au) (L:Ai),x=.ref l/\upd (upd (upd (upd H l1 (.lst [V.str "not",V.str "neg",V.str "twice",V.str "low"])) l2 (.lst [V.str "and",V.str "or",V.str "odd",V.str "add",V.str "sub"])) q (.lst (ys.map V.str))) I (.lst [V.ref l1,V.ref l2,V.ref q]) l=some (.lst (L.map V.str))/\Cls ys L/\L.length<=9
  |0,_,rfl=>⟨l1,["not","neg","twice","low"],rfl,Z _ _ (s3 _ _ (s2 _ _ Za)),Zga (n:=1) N.kp (by decide +kernel),by decide⟩
  |1,_,rfl=>⟨l2,["and","or","odd","add","sub"],rfl,Z _ _ (s3 _ _ Za),Zga (n:=2) N.kp (by decide +kernel),by decide⟩
  |2,_,rfl=>⟨q,_,rfl,Z _ _ Za,cls_nm N.kp,by lia⟩
 have s:=(s1.trans s2).trans (s3.trans Z);have f4:=Za (H:=upd (upd (upd H l1 (.lst [V.str "not",V.str "neg",V.str "twice",V.str "low"])) l2 (.lst [V.str "and",V.str "or",V.str "odd",V.str "add",V.str "sub"])) q (.lst (ys.map V.str))) (a:=I) (o:=.lst [V.ref l1,V.ref l2,V.ref q]);have J:=s _ _ hw;have fin:∀(n:V) (D:Option V),Znf ys wd n->U5 {nx:=fun _ H'=>Q V.non H',rt:=Q} [some (.ref tw),some (.ref tn),some (.int c),some (.int (j:Int)),some wd,some n,D] (upd (upd (upd (upd H l1 (.lst [V.str "not",V.str "neg",V.str "twice",V.str "low"])) l2 (.lst [V.str "and",V.str "or",V.str "odd",V.str "add",V.str "sub"])) q (.lst (ys.map V.str))) I (.lst [V.ref l1,V.ref l2,V.ref q])):=fun n D R=>by
  refine⟨_,rfl,_,rfl,_,rfl,kC J fun q1 H5 hq1 s5=>⟨_,rfl,Zcm,fun q2 F=>⟨q1,q2,_,_,rfl,rfl,Zc F _ _ hq1,Za,?_,fun q3 H6 hq3 s6=>⟨_,rfl,_,rfl,_,_,rfl,rfl,_,rfl,kC (s6 _ _ (Zc F _ _ (s5 _ _ J))) fun q4 H7 hq4 s7=>⟨q3,q4,_,_,rfl,rfl,s7 _ _ hq3,hq4,?_,fun p H8 hp s8=>k p _ H8 ?_ (S.put hr2 G R) (s.trans ((s5.trans (Zc F)).trans ((s6.trans s7).trans s8)))⟩⟩⟩⟩⟩
  ·rw[GB,Qas];exact Qau (Zy (by show _+1<=1000;lia))
  ·rw[GB,show(j:Int)+1=((j+1:Nat):Int)from rfl,zA,Qaf,Qas,Qbt];exact Qau (Zy (by show _+1+_<=1000;lia))
  ·rw[hp,GB,show(j:Int)+1=((j+1:Nat):Int)from rfl,zA,Qcy];rfl
 have fw:Xb wd=true:=by
  rcases hW with⟨y,rfl,_⟩|⟨y,rfl,_⟩|⟨z,rfl,_⟩<;>rfl
 refine⟨I,rfl,⟨_,SqL.of f4⟩,?_⟩;generalize upd (upd (upd (upd H l1 (.lst [V.str "not",V.str "neg",V.str "twice",V.str "low"])) l2 (.lst [V.str "and",V.str "or",V.str "odd",V.str "add",V.str "sub"])) q (.lst (ys.map V.str))) I (.lst [V.ref l1,V.ref l2,V.ref q])=H4 at *;refine x9 (K:=K) (a:=I) (xs:=[.ref l1,.ref l2,.ref q]) (fun i σ H'=>∃(n:V) (D:Option V),σ=[some (.ref tw),some (.ref tn),some (.int c),some (.int (j:Int)),some wd,some n,D]/\Znf ys wd n/\H'=H4) ⟨wd,none,rfl,⟨hW,rfl⟩,rfl⟩ (fun i σ H' _ ⟨_,_,_,_,e⟩=>e ▸ SqL.of f4) ?_ ?_
 ·rintro i x σ H' hx ⟨n,D,rfl,R,rfl⟩;obtain⟨l,L,rfl,hl,C,h9⟩:=O i x hx;refine Zi ⟨_,rfl,_,rfl,l,_,rfl,.inl (SqL.of hl),fw,by rw[Qhb];exact Qb8.mpr fun _ _=>rfl,_,rfl,xB (fun hb=>?_) (fun _=>⟨n,_,rfl,R,rfl⟩)⟩;obtain⟨y,Y,rfl⟩:∃y∈L,wd=.str y:=by
   obtain⟨v,hv,e⟩:=Qd5.mp hb;obtain⟨y,Y,rfl⟩:=Qay.mp hv;cases wd with
   |str z=>exact⟨y,Y,by rw[show y=z from eq_of_beq e]⟩
   |_=>cases e
  have L0:0<L.length:=Qd3 Y;have m0:=Qbe (c/24) (show(L.length:Int)≠0 by lia);have m1:=Qa3 (c/24) (show(0:Int)<L.length by lia);obtain⟨m,hm⟩:∃m:Nat,c/24%(L.length:Int)=(m:Int):=⟨_,(Qep m0).symm⟩;obtain⟨z,hz⟩:∃z,L[m]?=some z:=⟨_,Qac (by lia)⟩;exact⟨_,rfl,_,rfl,_,_,rfl,rfl,.of (by decide) (by decide),_,rfl,l,_,rfl,.inl (SqL.of hl),_,_,rfl,rfl,(by rw[Qad];lia),l,_,_,.str z,rfl,rfl,SqL.of hl,(by rw[Qad,hm];exact Ya (by rw[Qam,hz];rfl)),Zi ⟨_,_,rfl,⟨(C z (Qag hz)).1,(C y Y).2 z (Qag hz)⟩,rfl⟩⟩
 ·rintro σ H' ⟨n,D,rfl,R,rfl⟩;rcases hW with⟨y,rfl,_⟩|⟨y,rfl,_⟩|⟨z,rfl,_⟩
  ·exact⟨_,rfl,_,_,_,_,rfl,.str y,YH,_,rfl,ZU (fin n D R)⟩
  ·exact⟨_,rfl,_,_,_,_,rfl,.str y,YH,_,rfl,ZU (fin n D R)⟩
  ·exact⟨_,rfl,_,_,_,_,rfl,.int z,XB,_,rfl,Y4 ⟨_,rfl,_,_,rfl,rfl,.of (by decide) (by decide),_,_,rfl,rfl,(by decide),Zi (fin _ D ⟨.inr (.inr ⟨_,rfl,by lia,by lia,zF _⟩),by rw[zF,zF]⟩)⟩⟩
inductive xg(vs:A0)(H:Hp)(Q:VK):Prop
 |mk (dv:Au) (W:Nat) (ys:Ai) (kvs:Ay) (f:Str->Int):(vs=[.ref dv,.int (W:Int)])->(W<=1000000)->(Rd H dv (.dK kvs))->(Tab kvs ys f)->(ys.Nodup)->(ys.length<=3)->(∀p kws H',H p=none->H' p=some (.dK kws)->Tab kws ys (fun y=>f y%2^W)->SmF H H'->Q (.ref p) H')->xg vs H Q
def Zcd(K:Af):Sp:=fun vs H Q _=>xg vs H Q
theorem Zce:Yx P w K mg base CX0 1 t.aal t.aam ["values","width"] (Zcd K):=by
 refine T.aaw.go qC (by rintro _ _ _ _ ⟨_,_,_,_,_,rfl,_⟩;rfl) ?_;rintro cdv A outer s H _ Q E hr ⟨F,W,ys,kvs,f,rfl,hW,O,T,D,h3,k⟩;have hu:=ZK hr;refine⟨_,(Zb (Z4 2 qC.nd qh)
   (Zb (Yk Qa7 rfl (yP (qv 0)) (YB 3 qC.nd)
   (Zf (Jd hu (qv 2) (qv 3) (Zs ZN (Wv hu (qv 0) (qv 3) (fun _ _=>rfl)) (Zs Zc4 Ze (qv 1))) rfl)))
   (Zf (Zn (qv 2))))),?_⟩
 refine L2.let3 ?_;intro U2 U1;have e1:(1:Int)*2^((W:Nat):Int).toNat=2^W:=by rw[Int.one_mul,Qav]
 refine fun p G=>Zi ?_;have Z:=SmF.of (Zc (o:=.dK []) G);have C:=Z.rd O;refine⟨_,rfl,F,_,rfl,C,fun o ho=>yF (kvs:=kvs) (fun i σ H'=>∃(I:Option V) (kws:Ay),σ=[some (.ref F),some (.int (W:Int)),some (.ref p),I]/\H' F=some (.frz o (.dK kvs))/\H' p=some (.dK kws)/\Tab kws (ys.take i) (fun y=>f y%2^W)/\SmF H H') ⟨none,[],rfl,Za,?_,.nil,Z.trans (SmF.frz C ho)⟩ (fun i σ H' _ ⟨_,_,_,h,_⟩=>h) ?_ ?_⟩
 ·rw[Zk (fun z=>by subst z;rcases O with z|⟨_,z⟩<;>rw[G]at z<;>cases z),Za]
 ·rintro i q σ H1 hq ⟨I,kws,rfl,h1,h2,T2,J⟩;obtain⟨y,Y,rfl⟩:=tab_at T D hq;have few:=T2.few;rw[Qas]at few;refine Zi ⟨_,rfl,_,rfl,F,_,rfl,.inl ⟨_,.inr y,.inr ⟨o,h1⟩,rfl,(T.val y (Qag Y)).symm⟩,_,rfl,_,_,rfl,rfl,⟨Qca _,by lia,by decide⟩,_,_,rfl,rfl,(by rw[e1];exact YV W),_,rfl,_,rfl,p,_,rfl,uN.k (k:=.inr y) h2 (Zy (by lia)),_,_,rfl,by rw[Zk (fun z=>by rw[z,h2]at h1;cases h1)];exact h1,Za,?_,J.put G⟩;rw[e1,take_snoc Y];exact(T2.put y _).same fun x _=>by
   grind
 ·rintro σ H1 ⟨I,kws,rfl,h1,h2,T2,J⟩;rw[T.len_nd D,Qbf]at T2;exact⟨_,rfl,k p kws H1 G h2 T2 J⟩
inductive GQ(vs:A0)(H:Hp)(Q:VK):Prop
 |mk (nm p:Au) (ys:Ai) (cs:Ak) (g:Str->Int):(vs=[.ref nm,.ref p])->(H nm=some (.tup (ys.map V.str)))->(H p=some (.tup (cs.map V.int)))->(ys.length<=3)->(cs.length<=1000000)->((∀c∈cs,0<=c))->((∀(i:Nat) (y:Str),ys[i]?=some y->hor ((cs.map fun c=>c/2^i%2).reverse)=g y))->(∀d kvs H',H d=none->H' d=some (.dK kvs)->Tab kvs ys g->Z8 H H'->Q (.ref d) H')->GQ vs H Q
def uh(K:Af):Sp:=fun vs H Q _=>GQ vs H Q
theorem uk:Yx P w K mg base CX0 2 t.sf t.sh ["names","letters"] (uh K):=by
 have q:=qX P base T TB;refine T.vr.go W8 (by rintro _ _ _ _ ⟨_,_,_,_,_,rfl,_⟩;rfl) ?_;rintro cdv A outer s H _ Q E Z ⟨nm,p,ys,cs,g,rfl,hn,O,hy3,hcl,F,hg,k⟩;have hu:=ZK Z;refine⟨_,(Zb (Z4 2 W8.nd qh)
   (Zb (Yk Qa7 rfl (yA rfl T.dj (qv 0)) (yB rfl (YB 3 W8.nd) (YB 4 W8.nd))
   (Zf (Jd hu (qv 2) (qv 4) (Zj T.dg q Z (Zh (ZC Z6 (by rfl) T.ai ZP (Zh (Y0 ({}:ZZ (Zg qt) _ ["names","letters","words","place","name"] "letter" ["place"] [3]) (Xs (qv 1)) (fun _ _ _ _=>XO) (fun _ _ _ _=>(Zs Xc (Zs jI (qv 0) (qv 1)) Ze))) Zd)) Zd)) rfl)))
   (Zf (Zn (qv 2))))),?_⟩
 refine L2.let3 ?_;intro U2 U1;intro d D;have Y:=Zc (o:=.dK []) D;refine⟨_,rfl,nm,_,rfl,SqT.of (Y _ _ hn),?_⟩;refine yC (K:=K) (a:=nm) (xs:=ys.map V.str) (j:=3) (k:=4) (fun i σ H2=>∃u v kvs,σ=[some (.ref nm),some (.ref p),some (.ref d),u,v]/\H2 d=some (.dK kvs)/\Tab kvs (ys.take i) g/\Z8 H H2) ⟨none,none,[],rfl,Za,.nil,Y⟩ (fun i σ H2 _ ⟨_,_,_,_,_,_,C⟩=>SqT.of (C _ _ hn)) ?_ ?_
 ·rintro i x σ H2 t hx ht ⟨u,v,kvs,rfl,h2,T,C⟩;obtain⟨y,rfl,I⟩:=kK hx;have J:=Zc (o:=.tup [.int (i:Int),.str y]) ht;have s3:=C.trans J;refine⟨_,rfl,p,rfl,⟨_,SqT.of (s3 _ _ O)⟩,vV (fI fun c=>V.int (Builtin.bitAnd (c/2^((i:Nat):Int).toNat) 1)) (SqT.of (s3 _ _ O)) (by rw[Qad];exact Qau (Xf (by lia))) (fun w hw R hR=>?_) (fun l hl=>?_)⟩
  ·obtain⟨c,_,rfl⟩:=Qay.mp hw;exact⟨_,rfl,_,rfl,_,_,rfl,rfl,Qca i,_,_,rfl,rfl,hR⟩
  have e1:(cs.map V.int).map (fI fun c=>V.int (Builtin.bitAnd (c/2^((i:Nat):Int).toNat) 1))=(cs.map fun c=>c/2^i%2).map V.int:=by
   rw[map_fI,Qb7];apply Qcn;intro c hc;show V.int _=V.int _;rw[Qav,Zmr (div_nn (F c hc) i)]
  rw[e1];have v2:=Zc (o:=.lst ((cs.map fun c=>c/2^i%2).map V.int)) hl;refine⟨l,_,rfl,.inl ⟨SqL.of Za,fun t2 G=>⟨t2,_,rfl,SqT.of Za,?_⟩⟩⟩;have v3:=Zc (o:=.tup ((cs.map fun c=>c/2^i%2).map V.int)) G;have s4:=J.trans (v2.trans v3);have few:=T.few;rw[Qas]at few;refine⟨_,rfl,_,rfl,d,_,rfl,uN.k (k:=.inr y) (s4 _ _ h2) (Xf (by lia)),_,_,_,rfl,Za,?_,ZY (C.trans s4) D⟩;rw[take_snoc I];refine(T.put y _).same fun z hz=>?_
  by_cases e:z=y
  ·rw[Qba e,e,<-hg i y I]
  ·rw[Qa4 e]
 ·rintro σ H2 ⟨u,v,kvs,rfl,h2,T,C⟩;rw[Qad,Qbf]at T;exact⟨_,rfl,k d kvs H2 D h2 T C⟩
inductive Xg(vs:A0)(H:Hp)(Q:VK):Prop
 |mk (m a lt:Au) (nm:Ai) (b:Nat) (nx:Ad) (ot:Ax) (n:Nat) (S L:Aj) (W:Option (Aj)) (wv v:V) (tr:Bool):(vs=[.ref m,.ref a,.ref lt,wv,v])->(M4 H m nm b nx ot)->(Runs nx ot n)->(Rd H a (.dK (twK S)))->(S.Nodup)->((∀s∈S,s<nx.length))->(S.length<=1000000)->(H lt=some (.tup (L.map Xe)))->((∀l∈L,l<2^n))->(L.length<=1000)->(yq H wv W)->(YY tr v)->((∀r∈ot,∀x∈r,YY tr x))->(∀p H',H p=none->H' p=some (.dK (twK (goB (mN nx) (mB ot v) W S L)))->SmF H H'->Q (.ref p) H')->Xg vs H Q
def JB(K:Af):Sp:=fun vs H Q _=>Xg vs H Q
theorem JC:Yx P w K mg base CX0 2 t.cb t.cf ["machine","states","letters","well","wanted"] (JB K):=by
 have C:=wx P base T TB;refine T.bb.go YA (by rintro _ _ _ _ ⟨_,_,_,_,_,_,_,_,_,_,_,_,_,_,rfl,_⟩;rfl) ?_;rintro cdv A outer s H _ Q E hr ⟨m,a,lt,nm,b,nx,ot,n,S,L,W,wv,v,tr,rfl,M,R,ha,hnd,hS,hSl,hlt,hL,hLl,hw,hv,hk,k⟩;have hu:=ZK hr;refine⟨_,(Zb (Z4 5 YA.nd qh)
   (Zb (Yk Qa7 rfl (yP (qv 1)) (YB 6 YA.nd)
   (Zf (Z9 (Yt (Zp (Zes rfl) (by rfl) T.abt bt_any (Zh (Y0 ({}:ZZ (Zg YK) _ ["machine","states","letters","well","wanted","going","state"] "letter" ["machine","state","well","wanted"] [0,6,3,4]) (Xs (qv 2)) (fun _ _ _ _=>XO) (fun _ _ _ _=>(Zj T.ph C hr (Zh (qv 1) (Zh (qv 2) (Zh (qv 0) (Zh (qv 3) (Zh (qv 4) Zd)))))))) Zd)))
   (Zf (Jd hu (qv 5) (qv 6) Xi rfl)) Zv)))
   (Zf (Zn (qv 5))))),?_⟩
 refine L2.let3 ?_;intro U2 U1;refine fun p Y=>?_;have s1:=SmF.of (Zc (o:=.dK []) Y);refine Zi ?_;have J:=s1.rd ha;refine⟨_,rfl,a,_,rfl,J,fun o ho=>yF (kvs:=twK S) (fun i σ H'=>∃(u6:Option V),σ=[some (.ref m),some (.ref a),some (.ref lt),some wv,some v,some (.ref p),u6]/\H' a=some (.frz o (.dK (twK S)))/\H' p=some (.dK (twK (goB (mN nx) (mB ot v) W (S.take i) L)))/\SmF H H') ⟨none,rfl,Za,?_,s1.trans (SmF.frz J ho)⟩ (fun i σ H' _ ⟨_,_,h,_⟩=>h) ?_ ?_⟩
 ·have F:p≠a:=fun z=>by
   subst z;rcases ha with z|⟨_,z⟩<;>rw[Y]at z<;>cases z
  rw[Zk F,Za];rfl
 ·rintro i q σ H1 Z ⟨u6,rfl,h1,h2,G⟩;unfold twK at Z;rw[Qam]at Z;obtain⟨s,hs,rfl⟩:=Qbq.mp Z;have hsS:=Qag hs;have D:=G.tup hlt;refine Zi ⟨_,rfl,lt,rfl,⟨_,SqT.of D⟩,vV (xs:=L.map Xe) (fI fun z=>V.bl (gw (mN nx) (mB ot v) W s z.toNat)) (SqT.of D) (by rw[Qad];exact Qau (Zy hLl)) (fun x hx R' hR=>?_) (fun l hl=>?_)⟩
  ·obtain⟨y,hy,rfl⟩:=Qay.mp hx;have e:fI (fun z=>V.bl (gw (mN nx) (mB ot v) W s z.toNat)) (Xe y)=V.bl (gw (mN nx) (mB ot v) W s y):=by
    show V.bl (gw (mN nx) (mB ot v) W s (y:Int).toNat)=_;rw[Qav]
   exact⟨_,rfl,_,rfl,_,rfl,_,rfl,_,rfl,m,nm,b,nx,ot,n,s,y,W,wv,v,tr,rfl,M.smf G,R,hS s hsS,hL y hy,G.well hw,hv,hk,hR⟩
  ·refine⟨l,L.map (gw (mN nx) (mB ot v) W s),rfl,SqL.of (by rw[Za,Qb7,Qb7];congr 2),_,rfl,?_⟩;have sl:=Zc (o:=.lst (List.map (fI fun z=>V.bl (gw (mN nx) (mB ot v) W s z.toNat)) (List.map Xe L))) hl;have s3:=G.trans (SmF.of sl);have I:=sl _ _ h1;have O:=sl _ _ h2;have ea:(L.map (gw (mN nx) (mB ot v) W s)).any id=L.any (gw (mN nx) (mB ot v) W s):=by rw[List.any_map];rfl
   have es:=Zim (nx:=mN nx) (ok:=mB ot v) (W:=W) (L:=L) hs;rw[ea];have F:a≠p:=fun z=>by rw[z,h2]at h1;cases h1
   refine xB (fun hb=>?_) (fun hb=>?_)
   ·rw[Qba hb]at es;refine⟨_,rfl,_,rfl,p,_,rfl,uN.k (k:=.inl (s:Int)) O (by rw[zJ];have h3:=Zm8 (nx:=mN nx) (ok:=mB ot v) (W:=W) (S:=S.take i) (L:=L);rw[Qas]at h3;exact Xf (by lia)),_,rfl,by rw[Zk F];exact I,?_,s3.put Y⟩;rw[Za,Zf0,es];exact congrArg (fun z=>some (HO.dK (twK z))) (Qa4 (Zm7 hnd hs))
   ·rw[Qa4 hb,Qbm]at es;exact⟨_,rfl,I,by rw[es];exact O,s3⟩
 ·rintro σ H1 ⟨u6,rfl,h1,h2,G⟩;rw[zJ,Qbf]at h2;exact⟨_,rfl,k p H1 Y h2 G⟩
inductive GR(vs:A0)(H:Hp)(Q:VK):Prop
 |mk (k:Key):(vs=[kV k])->(Q (.int (W4 k)) H)->GR vs H Q
def um(K:Af):Sp:=fun vs H Q _=>GR vs H Q
theorem uo:Yx P w K mg base CX0 2 t.sj t.sr ["word"] (um K):=by
 have C:=jy P base T TB;have q:=x5 P base T TB;refine T.wh.go gX (by rintro _ _ _ _ ⟨_,rfl,_⟩;rfl) ?_;rintro F A outer s H _ Q E D ⟨kk,rfl,k⟩;have G:=ZK D;refine⟨_,(Zf (Zn (Zs Yz (Zj T.mm C D (Zh (qv 0) Zd)) (Zj T.fq q D (Zh (qv 0) Zd))))),?_⟩;exact⟨_,rfl,kk,rfl,_,rfl,kk,rfl,_,_,rfl,rfl,k⟩
inductive xh(vs:A0)(H:Hp)(Q:VK):Prop
 |mk (y:Str):(vs=[.str y])->(y.length<=100000)->(∀H',Z8 H H'->Q (.bl (decide (y∉YW/\NmL y))) H')->xh vs H Q
def Zcf(K:Af):Sp:=fun vs H Q _=>xh vs H Q
omit T TB in
theorem Zit{y:Str}:NmL y↔y.length<=8/\yg y Zpe:=by
 constructor
 ·intro h;refine⟨h.1.2,fun z=>?_,h.2⟩;have h1:=h.1.1;rw[len_signs,z]at h1;exact absurd h1 (by decide)
 ·intro h;refine⟨⟨?_,h.1⟩,h.2.2⟩;rw[len_signs];cases e:y.cps.toList with
  |nil=>exact absurd e h.2.1
  |cons a r=>exact Nat.succ_le_succ (Qbp _)
theorem Zcg:Yx P w K mg base CX0 2 t.aan t.aao ["text"] (Zcf K):=by
 have D:=vz P base T TB;have q:=xy P base T TB;have C:=jw P base T TB;refine T.aax.go Zb4 (by rintro _ _ _ _ ⟨_,rfl,_⟩;rfl) ?_;rintro O A outer s H _ Q E F ⟨y,rfl,I,k⟩;have Z:=ZK F;refine⟨_,(Zb (Z9 (WZ (Wc (Yt (Zj T.mj C F (Zh (qv 0) Zd))) (WD (Yt (Zj T.fk q F (Zh (qv 0) Zd))))))
   (Zf (Zn Xi)) Zv)
   (Zf (Zn (vR (YI op_le (Zp qI (by rfl) T.af ZT (Zh (qv 0) Zd)) (Wt (v:=.int 8) rfl T.abe ⟨_,rfl⟩) (Z3 _)) (xU (Zj T.nt D F (Zh (qv 0) (Zh (Wt (v:=.str "abcdefghijklmnopqrstuvwxyz") rfl T.abn ⟨_,rfl⟩) Zd)))))))),?_⟩
 refine L2.let2 ?_;intro Y
 by_cases h1:y∈YW
 ·have e:decide (y∉YW/\NmL y)=false:=Qaj fun z=>z.1 h1
  rw[e]at k;refine⟨_,rfl,y,rfl,_,rfl,?_⟩
  by_cases h2:y∈G9
  ·rw[Qal h2];exact Y4 (Y4 (k H (Z8.refl H)))
  ·rw[Qaj h2];have G:y∈qR:=((g9 y).mp h1).resolve_left h2;refine ZU ⟨_,rfl,.inr y,rfl,_,rfl,?_⟩;rw[show clK (.inr y)=true from Qal G];exact Y4 (k H (Z8.refl H))
 ·have h2:y∉G9:=fun z=>h1 ((g9 y).mpr (.inl z))
  have G:y∉qR:=fun z=>h1 ((g9 y).mpr (.inr z));refine⟨_,rfl,y,rfl,_,rfl,?_⟩;rw[Qaj h2];refine ZU ⟨_,rfl,.inr y,rfl,_,rfl,?_⟩;rw[show clK (.inr y)=false from Qaj G];refine ZU ?_;refine⟨_,rfl,y,rfl,Qa8 I (by decide),_,_,rfl,rfl,_,rfl,?_⟩
  by_cases J:y.length<=8
  ·rw[Qal (show(y.length:Int)<=8 by lia)];refine Y4 ⟨_,rfl,y,Zpe,rfl,I,fun H' s'=>?_⟩;have e:decide (yg y Zpe)=decide (y∉YW/\NmL y):=by
    rw[Qc2,Qb0,Qb0,Zit];exact⟨fun z=>⟨h1,J,z⟩,fun z=>z.2.2⟩
   rw[e];exact k H' s'
  ·rw[Qaj (show¬(y.length:Int)<=8 by lia)];have e:decide (y∉YW/\NmL y)=false:=Qaj fun z=>J z.2.1.2;rw[e]at k;exact ZU (k H (Z8.refl H))
inductive Wo(vs:A0)(H:Hp)(Q:VK):Prop
 |mk (tn tl:Au) (ys:Ai) (L:Nat):(vs=[.ref tn,.ref tl])->(H tn=some (.tup (ys.map V.str)))->(ys.Nodup)->(ys.length<=10)->(H tl=some (.lst ((List.range L).map fun i:Nat=>V.int (i:Int))))->(L<=100)->(∀dv kvs H',H dv=none->H' dv=some (.dK kvs)->Ze5 kvs ys (YN L ys)->Z8 H H'->Q (.ref dv) H')->Wo vs H Q
def ja(K:Af):Sp:=fun vs H Q _=>Wo vs H Q
theorem jb:Yx P w K mg base CX0 2 t.ie t.ig ["names","letters"] (ja K):=by
 have C:=qX P base T TB;refine T.iq.go YZ (by rintro _ _ _ _ ⟨_,_,_,_,rfl,_⟩;rfl) ?_;rintro cdv A outer s H _ Q E hr ⟨tn,tl,ys,L,rfl,hn,hnd,hn3,hl,hL,k⟩;have hu:=ZK hr;refine⟨_,(Zb (Z4 2 YZ.nd qh)
   (Zb (Yk Qa7 rfl (yA rfl T.dj (qv 0)) (yB rfl (YB 3 YZ.nd) (YB 4 YZ.nd))
   (Zf (Jd hu (qv 2) (qv 4) (Zj T.dg C hr (Zh (ZC Z6 (by rfl) T.ai ZP (Zh (Y0 ({}:ZZ (Zg Wa) _ ["names","letters","columns","place","name"] "letter" ["place"] [3]) (XD (qv 1)) (fun _ _ _ _=>XO) (fun _ _ _ _=>(Zs Xc (Zs jI (qv 0) (qv 1)) Ze))) Zd)) Zd)) rfl)))
   (Zf (Zn (qv 2))))),?_⟩
 refine L2.let3 ?_;intro U2 U1;refine fun O F=>Zi ?_;have s1:=Zc (o:=.dK []) F;refine⟨_,rfl,tn,_,rfl,SqT.of (s1 _ _ hn),yC (K:=K) (a:=tn) (xs:=ys.map V.str) (fun i σ H2=>∃(kvs:Ay) (Z u4:Option V),σ=[some (.ref tn),some (.ref tl),some (.ref O),Z,u4]/\H2 O=some (.dK kvs)/\Ze5 kvs (ys.take i) (YN L ys)/\kvs.length<=i/\i<=ys.length/\Z8 H H2) ⟨[],none,none,rfl,Za,⟨fun y h=>(by cases h),fun y _=>rfl⟩,Qah _,Qbp _,s1⟩ (fun i σ H2 _ ⟨_,_,_,_,_,_,_,_,s⟩=>SqT.of (s _ _ hn)) ?_ ?_⟩
 ·rintro i x σ H2 p hx hp ⟨kvs,Z,u4,rfl,h2,G,hkl,_,s2⟩;rw[Qam]at hx;obtain⟨y,J,rfl⟩:=Qbq.mp hx;have hi:=(Qai.mp J).1;have s3:=s2.trans (Zc (o:=.tup [.int (i:Int),.str y]) hp);have h3:=Zc (o:=.tup [.int (i:Int),.str y]) hp _ _ h2;have I:=s3 _ _ hl;refine⟨_,rfl,tl,rfl,⟨_,SqL.of I⟩,comp_map (xs:=(List.range L).map fun i:Nat=>V.int (i:Int)) (fI fun c=>V.int (bt c i)) (SqL.of I) (by rw[Qad,Qa5];exact Qau (Zy (by lia))) (fun v Y R hR=>?_) (fun q hq=>?_)⟩
  ·obtain⟨c,_,rfl⟩:=Qay.mp Y;refine⟨_,rfl,_,rfl,_,_,rfl,rfl,Qca i,_,_,rfl,rfl,?_⟩;have e:fI (fun c=>V.int (bt c i)) (V.int (c:Int))=V.int (Builtin.bitAnd ((c:Int)/2^(i:Int).toNat) 1):=by
    rw[and_1,Qav];rfl
   rw[e]at hR;exact hR
  have ex:((List.range L).map fun i:Nat=>V.int (i:Int)).map (fI fun c=>V.int (bt c i))=((List.range L).map fun l:Nat=>bt (l:Int) i).map V.int:=by
   rw[Qb7,Qb7];rfl
  rw[ex];have s4:=Zc (o:=.lst (((List.range L).map fun l:Nat=>bt (l:Int) i).map V.int)) hq;refine⟨q,_,rfl,.inl ⟨SqL.of Za,fun t ht=>?_⟩⟩;have s5:=s4.trans (Zc (o:=.tup (((List.range L).map fun l:Nat=>bt (l:Int) i).map V.int)) ht);have h5:=s5 _ _ h3;refine⟨t,(List.range L).map fun l:Nat=>bt (l:Int) i,rfl,SqT.of Za,?_⟩;have Y:hor ((List.range L).map fun l:Nat=>bt (l:Int) i).reverse=YN L ys y:=by
   unfold YN;rw[JK hnd J]
  rw[Y];have lp:=Xj kvs (.inr y) (.int (YN L ys y));refine⟨_,rfl,_,rfl,O,_,rfl,uN.k (k:=.inr y) h5 (Zy (by lia)),putK kvs (.inr y) (.int (YN L ys y)),_,_,rfl,Za,⟨fun z hz=>?_,fun z hz=>?_⟩,by lia,hi,ZY (s3.trans s5) F⟩
  ·rw[take_snoc J]at hz;rw[xC]
   by_cases D:z=y
   ·rw[Qba (by rw[D]),D]
   ·rw[Qa4 (fun e=>D (Sum.inr.inj e))];rcases Qbb.mp hz with h|h
    ·exact G.1 z h
    ·exact absurd (Qat.mp h) D
  ·rw[take_snoc J]at hz;rw[xC,Qa4 (fun e=>hz (Qbb.mpr (.inr (Qat.mpr (Sum.inr.inj e)))))];exact G.2 z fun h=>hz (Qbb.mpr (.inl h))
 ·rintro σ H2 ⟨kvs,Z,u4,rfl,h2,G,hkl,_,s2⟩;rw[Qad,Qbf]at G;exact⟨_,rfl,k O kvs H2 F h2 G s2⟩
inductive JR(vs:A0)(H:Hp)(Q:VK):Prop
 |mk (y:Str) (p:Au) (is:Ak) (h:Int):(vs=[.str y,.ref p,.int h])->(H p=some (.lst (is.map V.int)))->(1<=is.length)->(y∈allR)->((y∈Znp->2<=is.length))->(∀H',Z8 H H'->Q (.int (ktI y is h)) H')->JR vs H Q
def w6(K:Af):Sp:=fun vs H Q _=>JR vs H Q
theorem w9:Yx P w K mg base CX0 2 t.ou t.ov ["word","parts","held"] (w6 K):=by
 have C:=zW P base T TB;refine T.pj.go qV (by rintro _ _ _ _ ⟨_,_,_,_,rfl,_⟩;rfl) ?_;rintro Z A outer s H _ Q E O ⟨y,p,is,h,rfl,I,l1,Y,l2,k⟩;have hu:=ZK O;refine⟨_,(Zb (Z4 3 qV.nd (Zq Z2 (qv 1) Ze))
   (Zb (Z9 (Zo Ys (qv 0) Zl (Z3 _))
   (Zf (Zn (qv 3))) Zv)
   (Zb (Z9 (Zo ZW (qv 0) (Yc (Zh Zl (Zh Zl (Zh Zl Zd)))) (by with_unfolding_all rfl))
   (Zf (Zn (Zs jf (qv 3) (qv 2)))) Zv)
   (Zb (Z9 (Zo Ys (qv 0) Zl (Z3 _))
   (Zf (Zn (Zs jf (Zs xO (qv 3) (Zq Z2 (qv 1) Ze)) (qv 2)))) Zv)
   (Zb (Z9 (Zo Ys (qv 0) Zl (Z3 _))
   (Zf (Zn (Zs jf (Zs Xc (qv 3) (Zq Z2 (qv 1) Ze)) (Zs Xc (qv 2) (Zs jf (qv 3) (Zq Z2 (qv 1) Ze)))))) Zv)
   (Zf (Zn (Zj T.ft C O (Zh (qv 3) (Zh (Zq Z2 (qv 1) Ze) (Zh (qv 2) Zd))))))))))),?_⟩
 refine L2.let6 ?_;intro U5 U4 U3 U2 U1;have G:¬y = "twice" ->¬(y = "neg" \/ y = "low" \/ y = "nought")->y∈Znp:=Ze4 y Y;unfold ktI at k;refine⟨_,rfl,p,_,0,_,rfl,rfl,SqL.of I,Z5 0 rfl l1,Zi ⟨_,rfl,rfl,_,rfl,?_⟩⟩
 by_cases h1:y = "twice"
 ·rw[Qal (congrArg V.str h1)];rw[Qba h1]at k;refine Y4 ?_;exact⟨_,rfl,k H (Z8.refl _)⟩
 rw[Qaj (fun z=>h1 (by injection z))];rw[Qa4 h1]at k;refine ZU ⟨_,rfl,by decide,fun q hq=>⟨q,_,rfl,.inr (SqT.of Za),rfl,rfl,_,rfl,?_⟩⟩;show if inV (.str y) ((["neg","low","nought"]:Ai).map V.str)=true then _ else _;rw[ZL];have sq:=Zc (o:=.tup [.str "neg",.str "low",.str "nought"]) hq;have pq:=sq _ _ I;generalize upd H q (.tup [.str "neg",.str "low",.str "nought"])=H1 at *
 by_cases h2:y = "neg" \/ y = "low" \/ y = "nought"
 ·rw[Qal (by grind)];rw[Qba h2]at k;refine Y4 ?_;exact⟨_,rfl,_,rfl,_,_,rfl,rfl,k H1 sq⟩
 rw[Qaj (by grind)];rw[Qa4 h2]at k;refine ZU ⟨_,rfl,rfl,_,rfl,?_⟩
 by_cases D:y = "same"
 ·rw[Qal (congrArg V.str D)];rw[Qba D]at k;refine Y4 ?_;exact⟨_,rfl,_,rfl,p,_,1,_,rfl,rfl,SqL.of pq,Z5 1 rfl (l2 (by rw[D];decide +kernel)),_,_,rfl,rfl,_,rfl,_,_,rfl,rfl,k H1 sq⟩
 rw[Qaj (fun z=>D (by injection z))];rw[Qa4 D]at k;refine ZU ⟨_,rfl,rfl,_,rfl,?_⟩
 by_cases F:y = "add"
 ·rw[Qal (congrArg V.str F)];rw[Qba F]at k;refine Y4 ?_;have J:=l2 (by rw[F];decide +kernel);exact⟨_,rfl,_,rfl,p,_,1,_,rfl,rfl,SqL.of pq,Z5 1 rfl J,_,_,rfl,rfl,_,rfl,_,rfl,_,rfl,p,_,1,_,rfl,rfl,SqL.of pq,Z5 1 rfl J,_,_,rfl,rfl,_,_,rfl,rfl,_,_,rfl,rfl,k H1 sq⟩
 rw[Qaj (fun z=>F (by injection z))];rw[Qa4 F]at k;exact ZU ⟨_,rfl,_,rfl,p,_,1,_,rfl,rfl,SqL.of pq,Z5 1 rfl (l2 (G h1 h2)),_,rfl,_,_,_,rfl,k H1 sq⟩
inductive WO(vs:A0)(H:Hp)(Q:VK):Prop
 |mk (y:Str) (p:Au) (is:Ak) (h n:Int):(vs=[.str y,.ref p,.int h,.int n])->(H p=some (.lst (is.map V.int)))->(1<=is.length)->(y∈allR)->((y∈Znp->2<=is.length))->(∀H',Z8 H H'->Q (.int (okI y is h n)) H')->WO vs H Q
def jC(K:Af):Sp:=fun vs H Q _=>WO vs H Q
theorem jD:Yx P w K mg base CX0 2 t.ma t.md ["word","parts","held","then"] (jC K):=by
 have C:=zW P base T TB;refine T.mw.go jt (by rintro _ _ _ _ ⟨_,_,_,_,_,rfl,_⟩;rfl) ?_;rintro cdv A outer s H _ Q E O ⟨y,p,is,h,n,rfl,hp,l1,Z,l2,k⟩;have hu:=ZK O;refine⟨_,(Zb (Z9 (Zo ZW (qv 0) (Yc (Zh Zl (Zh Zl Zd))) (by with_unfolding_all rfl))
   (Zf (Zn (Zs xO (Zs xO (Zq Z2 (qv 1) Ze) (Zq Z2 (qv 1) Ze)) (qv 2)))) Zv)
   (Zb (Z9 (Zo Ys (qv 0) Zl (Z3 _))
   (Zf (Zn (Zs xO (Zq Z2 (qv 1) Ze) (qv 2)))) Zv)
   (Zb (Z9 (Zo Ys (qv 0) Zl (Z3 _))
   (Zf (Zn (qv 2))) Zv)
   (Zb (Z9 (Zo Ys (qv 0) Zl (Z3 _))
   (Zf (Zn (Zs Xc (Zq Z2 (qv 1) Ze) (XC xP (qv 2))))) Zv)
   (Zb (Z9 (Zo ZW (qv 0) (Yc (Zh Zl (Zh Zl Zd))) (by with_unfolding_all rfl))
   (Zf (Zn (XC xP (qv 3)))) Zv)
   (Zb (Z9 (Zo Ys (qv 0) Zl (Z3 _))
   (Zf (Zn (qv 3))) Zv)
   (Zf (Zn (Zj T.ft C O (Zh (Zq Z2 (qv 1) Ze) (Zh (Zq Z2 (qv 1) Ze) (Zh (qv 2) Zd)))))))))))),?_⟩
 refine L2.let7 ?_;intro U6 U5 U4 U3 U2 U1;unfold okI at k;refine⟨_,rfl,by decide,fun q hq=>⟨q,_,rfl,.inr (SqT.of Za),rfl,rfl,_,rfl,?_⟩⟩;show if inV (.str y) ((["add","sub"]:Ai).map V.str)=true then _ else _;rw[ZL];have sq:=Zc (o:=.tup [.str "add",.str "sub"]) hq;have pq:=sq _ _ hp;generalize upd H q (.tup [.str "add",.str "sub"])=H1 at *
 by_cases h1:y = "add" \/ y = "sub"
 ·rw[Qal (by grind)];rw[Qba h1]at k;refine Y4 ?_;have l3:2<=is.length:=l2 (by rcases h1 with h|h<;>rw[h]<;>decide +kernel);exact⟨_,rfl,p,_,0,_,rfl,rfl,SqL.of pq,Z5 0 rfl l1,_,rfl,p,_,1,_,rfl,rfl,SqL.of pq,Z5 1 rfl l3,_,_,rfl,rfl,_,rfl,_,_,rfl,rfl,k H1 sq⟩
 rw[Qaj (by grind)];rw[Qa4 h1]at k;refine ZU ⟨_,rfl,rfl,_,rfl,?_⟩
 by_cases h2:y = "neg"
 ·rw[Qal (congrArg V.str h2)];rw[Qba h2]at k;refine Y4 ?_;exact⟨_,rfl,p,_,0,_,rfl,rfl,SqL.of pq,Z5 0 rfl l1,_,rfl,_,_,rfl,rfl,k H1 sq⟩
 rw[Qaj (fun z=>h2 (by injection z))];rw[Qa4 h2]at k;refine ZU ⟨_,rfl,rfl,_,rfl,?_⟩
 by_cases D:y = "twice"
 ·rw[Qal (congrArg V.str D)];rw[Qba D]at k;refine Y4 ?_;exact⟨_,rfl,k H1 sq⟩
 rw[Qaj (fun z=>D (by injection z))];rw[Qa4 D]at k;refine ZU ⟨_,rfl,rfl,_,rfl,?_⟩
 by_cases G:y = "low"
 ·rw[Qal (congrArg V.str G)];rw[Qba G]at k;refine Y4 ?_;exact⟨_,rfl,p,_,0,_,rfl,rfl,SqL.of pq,Z5 0 rfl l1,_,rfl,_,rfl,_,_,rfl,rfl,k H1 sq⟩
 rw[Qaj (fun z=>G (by injection z))];rw[Qa4 G]at k;refine ZU ⟨_,rfl,by decide,fun r O=>⟨r,_,rfl,.inr (SqT.of Za),rfl,rfl,_,rfl,?_⟩⟩;show if inV (.str y) ((["same","nought"]:Ai).map V.str)=true then _ else _;rw[ZL];have J:=Zc (o:=.tup [.str "same",.str "nought"]) O;have Y:=J _ _ pq;generalize upd H1 r (.tup [.str "same",.str "nought"])=H2 at *
 by_cases F:y = "same" \/ y = "nought"
 ·rw[Qal (by simp only[Qaq,Qbo,Qem];exact F)];rw[Qba F]at k;refine Y4 ?_;exact⟨_,rfl,_,rfl,k H2 (sq.trans J)⟩
 rw[Qaj (by simp only[Qaq,Qbo,Qem];exact F)];rw[Qa4 F]at k;refine ZU ⟨_,rfl,rfl,_,rfl,?_⟩
 by_cases I:y = "under"
 ·rw[Qal (congrArg V.str I)];rw[Qba I]at k;refine Y4 ?_;exact⟨_,rfl,k H2 (sq.trans J)⟩
 rw[Qaj (fun z=>I (by injection z))];rw[Qa4 I]at k;exact ZU ⟨_,rfl,p,_,1,_,rfl,rfl,SqL.of Y,Z5 1 rfl (l2 (Ze4 y Z D (fun z=>by grind))),_,rfl,p,_,0,_,rfl,rfl,SqL.of Y,Z5 0 rfl l1,_,rfl,_,_,_,rfl,k H2 (sq.trans J)⟩
def x6:Ai:=["x","y","ab","aba","nots","adda","lowly","z","orb","xx","samer","pickaxes","yesx","subx","a","ba"]
def vow:Aj:=[97,101,105,111,117]
def cns:Aj:=("bcdfghjkmpqrtvxz" : Str).cps.toList
omit T TB in
theorem Zni:∀y∈x6,y∉YW:=by decide +kernel
omit T TB in
theorem Zgg:x6.Nodup:=by decide +kernel
omit T TB in
theorem Zgh:∀c∈cns,c∉vow/\c∉("lnsw" : Str).cps.toList:=by decide +kernel
omit T TB in
theorem Znj:∀c∈("lnsw" : Str).cps.toList,c∉vow:=by decide +kernel
omit T TB in
theorem Ziu:∀y∈YW,∃c∈y.cps.toList,c∈vow:=by decide +kernel
omit T TB in
theorem no_vow{y:Str}(h:∀c∈y.cps.toList,c∉vow):y∉YW:=fun z=>let⟨c,h1,h2⟩:=Ziu y z;h c h1 h2
omit T TB in
theorem Ziv:∀y∈x6,NmL y:=by decide +kernel
omit T TB in
theorem Zgi:∀c∈cns,Low c:=by decide +kernel
omit T TB in
theorem Ziw:∀c∈("lnsw" : Str).cps.toList,Low c:=by decide +kernel
omit T TB in
theorem Znk{y:Str}(h1:1<=y.cps.toList.length)(h2:y.cps.toList.length<=8)(C:∀c∈y.cps.toList,Low c/\c∉vow):NmS y:=⟨⟨⟨by exact h1,by exact h2⟩,fun c q=>(C c q).1⟩,no_vow fun c q=>(C c q).2⟩
inductive JS(vs:A0)(H:Hp)(Q:VK):Prop
 |mk (cell:Int) (many:Nat):(vs=[.int cell,.int (many:Int)])->(many<=3)->(∀p (ys:Ai) H',H p=none->H' p=some (.tup (ys.map V.str))->ys.length=many->ys.Nodup->(∀y∈ys,NmS y)->PyProof.Rows.sortedS ys=true->Z8 H H'->Q (.ref p) H')->JS vs H Q
def wA(K:Af):Sp:=fun vs H Q _=>JS vs H Q
omit T TB in
theorem Znl{ys:Ai}{x s:Int}(h0:0<=x)(s1:1<=s)(s2:s<=5)(Z:ys.length=3)(h:∀(i:Nat) (y:Str),ys[i]?=some y->x6[((x+(i:Int)*s)%16).toNat]?=some y):ys.Nodup:=by
 match ys,Z with
 |[a,b,c],_=>
  have D:=h 0 a rfl;have F:=h 1 b rfl;have C:=h 2 c rfl;have ne:∀{i j:Int} {u v:Str},0<=i->i<16->0<=j->j<16->i≠j->x6[i.toNat]?=some u->x6[j.toNat]?=some v->u≠v:=fun{i j u v} i0 i1 j0 j1 O J I e=>by
   subst e;have e1:=JK Zgg J;have e2:=JK Zgg I;lia
  have q:∀z:Int,0<=z%16/\z%16<16:=fun z=>⟨Qbe _ (by decide),Qa3 _ (by decide)⟩;have Y:=ne (q _).1 (q _).2 (q _).1 (q _).2 (by lia) D F;have G:=ne (q _).1 (q _).2 (q _).1 (q _).2 (by lia) D C;have n3:=ne (q _).1 (q _).2 (q _).1 (q _).2 (by lia) F C;simp[Y,G,n3]
theorem wB:Yx P w K mg base CX0 2 t.ow t.ox ["cell","many"] (wA K):=by
 have C:=JQ P base T TB;refine T.qs.go Yh (by rintro _ _ _ _ ⟨_,_,rfl,_⟩;rfl) ?_;rintro cdv A outer s H _ Q E hr ⟨cell,many,rfl,hmany,k⟩;have hu:=ZK hr;refine⟨_,(Zb (Z4 2 Yh.nd (Zj T.bh C hr (Zh (qv 0) (Zh Ze (Zh Ze Zd)))))
   (Zb (Z4 3 Yh.nd (Yq (Zh Zl (Zh Zl (Zh Zl (Zh Zl (Zh Zl (Zh Zl (Zh Zl (Zh Zl (Zh Zl (Zh Zl (Zh Zl (Zh Zl Zd))))))))))))))
   (Zb (Z4 3 Yh.nd (Zs vL (qv 3) (Yq (Zh Zl (Zh Zl (Zh Zl (Zh Zl Zd)))))))
   (Zb (wR (i:=4) Yh.nd rfl rfl ({}:ZZ (Zg Wz) _ ["cell","many","xs","menu","some","base","at","turn"] "k" ["menu","xs"] [3,2]) (YC rfl T.au (Zh Ze Zd)) (fun _ _ _ _=>XO) (fun _ _ _ _=>(Zq (show IxR _ (Zn6 K)from Z2) (qv 1) (Zs ZN (Zs Yz (Zq (show IxR _ (Zn6 K)from Z2) (qv 2) Ze) (Zs Wr (qv 0) (Zs Yz Ze (Zs ZN (Zq (show IxR _ (Zn6 K)from Z2) (qv 2) Ze) Ze)))) Ze))))
   (Zb (Z9 (Zo Ys (Zs ZN (Zq Z2 (qv 2) Ze) Ze) Ze (Z3 _))
   (Zb (Z4 5 Yh.nd (YD PySem.F.plainAttrs_str PySem.F.slot_str_join PySem.F.type_str_join Zlk Zl (Zh (Y0 ({}:ZZ (Zg Wz) _ ["cell","many","xs","menu","some","base","at","turn"] "k" ["xs"] [2]) (YC rfl T.au (Zh (Zs Yz Ze (Zs ZN (Zq Z2 (qv 2) Ze) Ze)) Zd)) (fun _ _ _ _=>XO) (fun _ _ _ _=>(Zq Zdk Zl (Zs ZN (Zq (show IxR _ (Zn6 K)from Z2) (qv 1) (Zs Yz Ze (qv 0))) Ze)))) Zd)))
   (Zb (Z4 6 Yh.nd (Zs ZN (Zq Z2 (qv 2) Ze) (Zp qI (by rfl) T.af ZT (Zh (qv 5) Zd))))
   (Zf (Z4 4 Yh.nd (Yq (Zh (qv 5) (Zh (Zs qd (qv 5) (Zq Zdk Zl (Zs ZN (Zq Z2 (qv 2) Ze) Ze))) (Zh (Zs qd (Zs qd (Y5 Zjp (qv 5) YJ (XE (qv 6))) (Zq Zdk Zl (Zs ZN (Zq Z2 (qv 2) Ze) Ze))) (Y5 Zjp (qv 5) (XE (Zs Yz (qv 6) Ze)) YJ)) Zd)))))))) Zv)
   (Zb (Z4 7 Yh.nd (Zs ZN (Zs YO (Zq Z2 (qv 2) Ze) Ze) Ze))
   (Zf (Zn (ZC Z6 (by rfl) T.ai ZP (Zh (Zp vU (by rfl) T.abb vN (Zh (Y5 JW (Zs vL (Y5 JW (qv 4) (XE (qv 7)) YJ) (Y5 JW (qv 4) YJ (XE (qv 7)))) YJ (XE (qv 1))) Zd)) Zd)))))))))),?_⟩
 try dsimp only[L2.cxK,L2.cxK2]
 refine L2.let7 ?_;intro U6 U5 U4 U3 U2 U1;refine⟨_,rfl,cell,12,400,rfl,by decide,by decide,by decide,fun p ns H1 hp h1 hl hb s1=>?_⟩;have hx:∀j,j<12->0<=ns.getD j 0/\ns.getD j 0<400:=fun j hj=>Zmh hb j (by lia);refine⟨zln12,fun m1 hm1=>?_⟩;refine⟨_,rfl,Zpa,fun m2 hm2=>⟨m1,m2,_,_,rfl,rfl,Zc hm2 _ _ Za,Za,zln16,fun m hm=>?_⟩⟩;have s4:=((Zc (o:=.lst [.str "x",.str "y",.str "ab",.str "aba",.str "nots",.str "adda",.str "lowly",.str "z",.str "orb",.str "xx",.str "samer",.str "pickaxes"]) hm1).trans (Zc (o:=.lst [.str "yesx",.str "subx",.str "a",.str "ba"]) hm2)).trans (Zc (o:=.lst (x6.map V.str)) hm);refine⟨3,rfl,by decide,by decide,kD (n:=3) (fun i v=>∃y,v=.str y/\x6[((ns.getD 1 0+(i:Int)*(1+ns.getD 2 0%5))%16).toNat]?=some y) (by decide) (fun i hi R hR=>?_) (fun vs J hvP q hq=>?_)⟩
 ·have e0:0<=(ns.getD 1 0+(0+(i:Int))*(1+ns.getD 2 0%5))%16:=Qbe _ (by decide);have e1:(ns.getD 1 0+(0+(i:Int))*(1+ns.getD 2 0%5))%16<16:=Qa3 _ (by decide);rw[Qe1]at e0 e1;obtain⟨y,D⟩:∃y,x6[((ns.getD 1 0+(i:Int)*(1+ns.getD 2 0%5))%16).toNat]?=some y:=⟨_,Qac (by show _<16;lia)⟩;have ey:atI (x6.map V.str) ((ns.getD 1 0+(0+(i:Int))*(1+ns.getD 2 0%5))%16)=some (.str y):=by
   rw[Qe1];obtain⟨j,hj⟩:∃j:Nat,(ns.getD 1 0+(i:Int)*(1+ns.getD 2 0%5))%16=(j:Int):=⟨_,(Qep e0).symm⟩;rw[hj,Qav]at D;rw[hj];exact Ya (by rw[Qam,D];rfl)
  exact⟨_,rfl,_,rfl,p,_,_,_,rfl,rfl,SqL.of (s4 _ _ h1),Z5 1 rfl (by lia),_,rfl,_,rfl,p,_,_,_,rfl,rfl,SqL.of (s4 _ _ h1),Z5 2 rfl (by lia),_,_,rfl,rfl,(by show(0:Int)<5;decide),_,_,rfl,rfl,_,_,rfl,rfl,.inr (.inl ⟨by lia,by lia⟩),_,_,rfl,rfl,_,_,rfl,rfl,(by show(0:Int)<16;decide),m,x6.map V.str,_,_,rfl,rfl,SqL.of Za,ey,hR _ ⟨y,rfl,D⟩⟩
 obtain⟨ys,rfl,_⟩:=gz (P:=fun _=>True) (fun v hv=>by
  obtain⟨i,hi⟩:=Qe2.mp hv;obtain⟨y,e,_⟩:=hvP i v hi;exact⟨y,e,trivial⟩)
 rw[Qad]at J;have hyi:∀(i:Nat) (y:Str),ys[i]?=some y->x6[((ns.getD 1 0+(i:Int)*(1+ns.getD 2 0%5))%16).toNat]?=some y:=fun i y D=>by
  obtain⟨z,e,h⟩:=hvP i (.str y) (by rw[Qam,D];rfl);injection e with e;rw[e];exact h
 have Z:∀y∈ys,NmS y:=fun y D=>by
  obtain⟨i,hi⟩:=Qe2.mp D;exact⟨Ziv y (Qag (hyi i y hi)),Zni y (Qag (hyi i y hi))⟩
 have b2:=hx 2 (by decide);have hyd:ys.Nodup:=Znl (x:=ns.getD 1 0) (s:=1+ns.getD 2 0%5) (hx 1 (by decide)).1 (by lia) (by lia) J hyi;have s5:=s4.trans (Zc (o:=.lst (ys.map V.str)) hq);refine Zi ?_;refine yQ (fun σ H'=>∃(q:Au) (ys:Ai) (b a:Option V),σ=[some (.int cell),some (.int many),some (.ref p),some (.ref m),some (.ref q),b,a,none]/\H' q=some (.lst (ys.map V.str))/\ys.length=3/\ys.Nodup/\(∀y∈ys,NmS y)/\Z8 H1 H') (fun N hN=>?_) ?_
 ·refine⟨_,rfl,p,_,_,_,rfl,rfl,SqL.of (s5 _ _ h1),Z5 0 rfl (by lia),_,_,rfl,rfl,(by show(0:Int)<2;decide),rfl,_,rfl,xB (fun _=>?_) (fun _=>?_)⟩
  ·have b1:=hx 1 (by decide);refine⟨rfl,_,rfl,p,_,_,_,rfl,rfl,SqL.of (s5 _ _ h1),Z5 1 rfl (by lia),_,_,rfl,rfl,(by show(0:Int)<7;decide),_,_,rfl,rfl,_,rfl,?_,?_,kD (n:=(1+ns.getD 1 0%7).toNat) (fun _ v=>∃y,v=.str y/\∃c,y=⟨#[c]⟩/\c∈cns) ?_ (fun i hi R hR=>?_) (fun vs J hvP l hl2=>?_)⟩
   ·lia
   ·lia
   ·exact Qau (Zy (by lia))
   ·obtain⟨c,I,ec⟩:=gy (z:=("bcdfghjkmpqrtvxz" : Str)) (i:=ns.getD (3+i) 0%16) 16 (by decide +kernel) (Qbe _ (by decide)) (Qa3 _ (by decide));exact⟨_,rfl,_,rfl,_,_,rfl,rfl,p,_,_,_,rfl,rfl,SqL.of (s5 _ _ h1),Z5 (3+i) (by lia) (by lia),_,_,rfl,rfl,(by show(0:Int)<16;decide),_,_,c,rfl,rfl,by decide +kernel,ec,hR _ ⟨_,rfl,c,rfl,I⟩⟩
   obtain⟨zs,rfl,hzs⟩:=gz (P:=fun y=>∃c,y=⟨#[c]⟩/\c∈cns) (mem_at hvP);rw[Qad]at J;obtain⟨f1,f2,f3⟩:=Zeu hzs;have s6:=s5.trans (Zc (o:=.lst (zs.map V.str)) hl2);refine⟨_,l,zs,rfl,rfl,SqL.of Za,?_,?_⟩
   ·rw[f3];show zs.length+zs.length*0<=_;lia
   have js:=Zbq ("" : Str) (by decide +kernel) zs;rw[<-js]at f1 f2;generalize Txt.join ("" : Str) zs=B at *;have hB:B.length=zs.length:=by rw[len_signs];exact f1
   refine⟨_,rfl,p,_,_,_,rfl,rfl,SqL.of (s6 _ _ h1),Z5 2 rfl (by lia),_,rfl,B,rfl,Qau (Zy (by lia)),_,_,rfl,rfl,(by show(0:Int)<B.length;lia),?_⟩;try dsimp only
   have a0:0<=ns.getD 2 0%(B.length:Int):=Qbe _ (by lia);have a1:ns.getD 2 0%(B.length:Int)<B.length:=Qa3 _ (by lia);generalize ns.getD 2 0%(B.length:Int)=a at *;obtain⟨j,rfl⟩:∃j:Nat,a=(j:Int):=⟨a.toNat,by lia⟩;obtain⟨c1,hc1,ec1⟩:=gy (z:=("bcdfghjkmpqrtvxz" : Str)) (i:=ns.getD 10 0%16) 16 (by decide +kernel) (Qbe _ (by decide)) (Qa3 _ (by decide));obtain⟨G,hc2,ec2⟩:=gy (z:=("lnsw" : Str)) (i:=ns.getD 11 0%4) 4 (by decide +kernel) (Qbe _ (by decide)) (Qa3 _ (by decide));have hs1:(Txt.slice B none (some (j:Int))).cps.toList=B.cps.toList.take j:=Zhy (by lia);have Y:(Txt.slice B (some ((j:Int)+1)) none).cps.toList=B.cps.toList.drop (j+1):=Zbp (i:=j+1) (by lia);have l1:=Qfu B none (some (j:Int));have l2:=Qfu B (some ((j:Int)+1)) none;have one:∀c:Nat,(⟨#[c]⟩:Str).length=1:=fun _=>rfl;refine⟨_,rfl,_,rfl,_,rfl,p,_,_,_,rfl,rfl,SqL.of (s6 _ _ h1),Z5 10 rfl (by lia),_,_,rfl,rfl,(by show(0:Int)<16;decide),_,_,c1,rfl,rfl,by decide +kernel,ec1,_,_,rfl,rfl,?_,?_⟩
   ·rw[one];exact Qau (Zy (by lia))
   refine⟨_,rfl,_,rfl,_,rfl,_,rfl,Qau (Zy (by lia)),_,rfl,p,_,_,_,rfl,rfl,SqL.of (s6 _ _ h1),Z5 11 rfl (by lia),_,_,rfl,rfl,(by show(0:Int)<4;decide),_,_,G,rfl,rfl,by decide +kernel,ec2,_,_,rfl,rfl,?_,?_⟩
   ·rw[one];exact Qau (Zy (by lia))
   refine⟨_,rfl,_,rfl,_,_,rfl,rfl,_,rfl,_,rfl,Qau (Zy (by lia)),_,_,rfl,rfl,?_,Zo9,fun g hg=>?_⟩
   ·rw[Str.length_append,one];exact Qau (Zy (by lia))
   refine hN _ _ ⟨g,[B,B++⟨#[c1]⟩,Txt.slice B none (some (j:Int))++⟨#[G]⟩++Txt.slice B (some ((j:Int)+1)) none],_,_,rfl,Za,rfl,?_,?_,s6.trans (Zc hg)⟩
   ·have e1:(B++⟨#[c1]⟩:Str).cps.toList=B.cps.toList++[c1]:=Yg _ _;have e2:(Txt.slice B none (some (j:Int))++⟨#[G]⟩++Txt.slice B (some ((j:Int)+1)) none).cps.toList=B.cps.toList.take j++[G]++B.cps.toList.drop (j+1):=by rw[Yg,Yg,hs1,Y]
    have lB:=len_signs B;have jl:j<B.cps.toList.length:=by lia
    have O:(B.cps.toList.take j++[G]++B.cps.toList.drop (j+1))[j]?=some G:=by
     rw[Qcy,Qa2 (by rw[Qas];lia),Qas,Qef (by lia),Qff];rfl
    have nc2:∀c,B.cps.toList[j]?=some c->c≠G:=fun c I e=>(Zgh c (f2 c (Qag I))).2 (by rw[e];exact hc2);have d12:B≠B++⟨#[c1]⟩:=fun e=>by
     have:=congrArg (fun s:Str=>s.cps.toList.length) e;simp only[e1,Qaf,Qbu,Qed]at this;lia
    have d13:B≠Txt.slice B none (some (j:Int))++⟨#[G]⟩++Txt.slice B (some ((j:Int)+1)) none:=fun e=>by
     have e3:=congrArg (fun s:Str=>s.cps.toList) e;simp only[e2]at e3;rw[<-e3]at O;exact nc2 _ O rfl
    have d23:B++⟨#[c1]⟩≠Txt.slice B none (some (j:Int))++⟨#[G]⟩++Txt.slice B (some ((j:Int)+1)) none:=fun e=>by
     have e3:=congrArg (fun s:Str=>s.cps.toList) e;simp only[e1,e2]at e3;rw[<-e3,Qbc jl]at O;exact nc2 _ O rfl
    simp[d12,d13,d23]
   ·intro y D;simp only[Qaq,Qbo,Qem]at D;have lB:=len_signs B;have cn:∀c∈B.cps.toList,Low c/\c∉vow:=fun c I=>⟨Zgi c (f2 c I),(Zgh c (f2 c I)).1⟩;rcases D with rfl|rfl|rfl
    ·exact Znk (by lia) (by lia) cn
    ·refine Znk (by rw[Yg,Qaf];lia) (by rw[Yg,Qaf];show _+1<=8;lia) fun c I=>?_
     rw[Yg]at I;rcases Qbb.mp I with h|h
     ·exact cn c h
     ·rw[Qat.mp h];exact⟨Zgi c1 hc1,(Zgh c1 hc1).1⟩
    ·have el:(B.cps.toList.take j++[G]++B.cps.toList.drop (j+1)).length=B.cps.toList.length:=by
      rw[Qaf,Qaf,Qas,Qbt];show min j _+1+_=_;lia
     refine Znk (by rw[Yg,Yg,hs1,Y,el];lia) (by rw[Yg,Yg,hs1,Y,el];lia) fun c I=>?_;rw[Yg,Yg,hs1,Y]at I;rcases Qbb.mp I with h|h
     ·rcases Qbb.mp h with h|h
      ·exact cn c (Qch h)
      ·rw[Qat.mp h];exact⟨Ziw G hc2,Znj G hc2⟩
     ·exact cn c (Qdg h)
  ·exact hN _ _ ⟨q,ys,none,none,rfl,Za,J,hyd,Z,s5⟩
 rintro σ H' ⟨q,ys,b,a,rfl,hq,hl3,hyd,Z,s6⟩;refine⟨_,rfl,p,_,_,_,rfl,rfl,SqL.of (s6 _ _ h1),Z5 0 rfl (by lia),_,_,rfl,rfl,.of (by decide) (by decide),_,_,rfl,rfl,(by show(0:Int)<3;decide),?_⟩;try dsimp only
 have t0:0<=ns.getD 0 0/2%3:=by lia
 generalize ns.getD 0 0/2%3=t at *;obtain⟨t,rfl⟩:∃j:Nat,t=(j:Int):=⟨t.toNat,by lia⟩;refine⟨_,rfl,_,rfl,_,rfl,q,_,rfl,SqL.of hq,fun l1 hl1=>?_⟩;rw[yR,kB];have u1:=Zc (o:=.lst ((ys.drop t).map V.str)) hl1;refine⟨_,rfl,_,rfl,_,rfl,q,_,rfl,SqL.of (u1 _ _ hq),fun l2 hl2=>?_⟩;rw[yR,zq];have u2:=Zc (o:=.lst ((ys.take t).map V.str)) hl2;refine⟨l1,l2,_,_,rfl,rfl,u2 _ _ Za,Za,?_,fun l3 hl3'=>?_⟩
 ·rw[Qad,Qad,Qbt,Qas];exact Qau (Zy (by lia))
 rw[<-Qbd];have u3:=Zc (o:=.lst ((ys.drop t++ys.take t).map V.str)) hl3';refine⟨_,rfl,_,rfl,l3,_,rfl,SqL.of Za,fun l4 hl4=>?_⟩;rw[yR,zq];have u4:=Zc (o:=.lst (((ys.drop t++ys.take t).take many).map V.str)) hl4;refine⟨l4,_,rfl,SqL.of Za,?_,fun l5 ms hl5 hpm hsr=>⟨l5,_,rfl,.inl ⟨SqL.of Za,fun l6 hl6=>?_⟩⟩⟩
 ·rw[Qas];lia
 have u5:=Zc (o:=.lst (ms.map V.str)) hl5;have u:=s1.trans (s6.trans (((u1.trans u2).trans (u3.trans u4)).trans u5));refine k l6 ms _ (u.free hl6) Za ?_ ?_ ?_ hsr (u.trans (Zc hl6))
 ·rw[hpm.length_eq,Qas,Qaf,Qbt,Qas];lia
 ·refine hpm.nodup_iff.mpr (List.Nodup.sublist (List.take_sublist _ _) ?_);exact(List.perm_append_comm.nodup_iff).mpr (by rw[Qbz];exact hyd)
 ·intro y D;have:=Qch (hpm.mem_iff.mp D);rcases Qbb.mp this with z|z
  ·exact Z y (Qdg z)
  ·exact Z y (Qch z)
inductive xi(vs:A0)(H:Hp)(Q:VK):Prop
 |mk (pn tn:Au) (ns:Ak) (ys:Ai) (most:Nat):(vs=[.ref pn,.ref tn,.int (most:Int)])->(H pn=some (.lst (ns.map V.int)))->(1<=ns.length)->(ns.length<=20)->((∀x∈ns,0<=x))->(H tn=some (.tup (ys.map V.str)))->(ys.length<=3)->((∀y∈ys,y∉YW))->(∀p ws H',H' p=some (.tup ws)->ws.length<2*ns.length->(∀w∈ws,WW ys 10 w)->YE ws->qT ws=1->Y9 ws<=most->Z8 H H'->Q (.ref p) H')->xi vs H Q
def Zch(K:Af):Sp:=fun vs H Q _=>xi vs H Q
def Yw (y:Str):Nat:=if y = "pick" then 3 else if y∈(["not","neg","twice","low"]:Ai)then 1 else 2
omit T TB in
theorem Zci:∀y∈G9,Yu y=Yw y:=by decide +kernel
omit T TB in
theorem Znm(y:Str):1<=Yw y/\Yw y<=3:=by
 unfold Yw;split
 ·lia
 ·split<;>lia
theorem Zcj:Yx P w K mg base CX0 2 t.aap t.aaq ["numbers","names","most"] (Zch K):=by
 have G_law_atom:=ue P base T TB;have Y:=j9 P base T TB;have G_law_word:=ug P base T TB;refine T.iu.go ZQ (by rintro _ _ _ _ ⟨_,_,_,_,_,rfl,_⟩;rfl) ?_;rintro cdv A outer s H _ Q E Z ⟨pn,tn,ns,ys,F,rfl,hpn,h1,h20,hns,htn,hy3,hyk,k⟩;have hu:=ZK Z;refine⟨_,(Zb (Z4 3 ZQ.nd (Yq Zd))
   (Zb (Z4 4 ZQ.nd (qv 2))
   (Zb (Yk Qa7 rfl (XD (qv 0)) (YB 5 ZQ.nd)
   (Zb (Z4 6 ZQ.nd (Zj T.vl G_law_word Z (Zh (qv 5) (Zh (qv 4) Zd))))
   (Zb (Z4 7 ZQ.nd Ze)
   (Zb (Z9 (Zo ZW (qv 6) (Yc (Zh Zl (Zh Zl (Zh Zl (Zh Zl Zd))))) (by with_unfolding_all rfl))
   (Zf (Z4 7 ZQ.nd Ze)) Zv)
   (Zb (Z9 (Zo Ys (qv 6) Zl (Z3 _))
   (Zf (Z4 7 ZQ.nd Ze)) Zv)
   (Zf (Z9 (WZ (Wc (Zo Ys (qv 6) Zl (Z3 _)) (WD (Zo yx (Zp Zu (by rfl) T.af ZT (Zh (qv 3) Zd)) (qv 7) (Z3 _)))))
   (Zf (Yi (YD Qaw Qa0 Qa1 ZH (qv 3) (Zh (Zj T.uj G_law_atom Z (Zh (qv 5) (Zh (qv 1) Zd))) Zd)))) (Zb (Z4 4 ZQ.nd (Zs JG (qv 4) (Zj T.mq Y Z (Zh (Yq (Zh (qv 6) Zd)) Zd))))
   (Zb (Z4 8 ZQ.nd (Yc (Zh (qv 6) Zd)))
   (Zb (Yk Qa7 rfl (XD (Y5 JW (qv 3) (XE (Zs JG (Zp Zu (by rfl) T.af ZT (Zh (qv 3) Zd)) (qv 7))) YJ)) (YB 9 ZQ.nd)
   (Zf (Z4 8 ZQ.nd (Zs JZ (qv 8) (qv 9)))))
   (Zf (Z4 3 ZQ.nd (Zs vL (Y5 JW (qv 3) YJ (XE (Zs JG (Zp Zu (by rfl) T.af ZT (Zh (qv 3) Zd)) (qv 7)))) (Yq (Zh (qv 8) Zd)))))))))))))))
   (Zb (uF Qa7 (Zo Zn2 (Zp Zu (by rfl) T.af ZT (Zh (qv 3) Zd)) Ze (Z3 _))
   (Zf (Z4 3 ZQ.nd (Zs vL (Y5 JW (qv 3) YJ (XE (XC Xz Ze))) (Yq (Zh (Zs JZ (Zs JZ (Yc (Zh (Zq Z2 (Yq (Zh Zl (Zh Zl (Zh Zl Zd)))) (Zs ZN (Zp Zu (by rfl) T.af ZT (Zh (qv 3) Zd)) Ze)) Zd)) (Zq Z2 (qv 3) (XC Xz Ze))) (Zq Z2 (qv 3) (XC Xz Ze))) Zd))))))
   (Zf (Zn (Zq Z2 (qv 3) Ze))))))),?_⟩
 try dsimp only[L2.cxK,L2.cxK2]
 refine L2.let5 ?_;intro U4 U3 U2 U1;refine⟨Zks,fun G hso=>Zi ⟨_,rfl,Zi ?_⟩⟩;have s0:=Zc (o:=.lst []) hso;refine⟨_,rfl,pn,rfl,⟨_,SqL.of (s0 _ _ hpn)⟩,x9 (K:=K) (a:=pn) (xs:=ns.map V.int) (fun i σ H2=>∃(G:Au) (left:Nat) (u5 u6 u7 u8 u9:Option V) (zs:A0) (C:Ax),σ=[some (.ref pn),some (.ref tn),some (.int (F:Int)),some (.ref G),some (.int (left:Int)),u5,u6,u7,u8,u9]/\H2 G=some (.lst zs)/\H G=none/\Y7 H2 zs C/\gJ ys C/\Y9 C.flatten+left=F/\C.flatten.length<=i/\C.length<=i/\(1<=i->1<=C.length)/\i<=ns.length/\Z8 H H2) ⟨G,F,none,none,none,none,none,[],[],rfl,Za,hso,Y7.nil,(fun ps hp=>by cases hp),Nat.zero_add _,Qah _,Qah _,(fun h=>absurd h (Nat.not_succ_le_zero _)),Qbp _,s0⟩ (fun i σ H2 _ ⟨_,_,_,_,_,_,_,_,_,_,_,_,_,_,_,_,_,_,_,s⟩=>SqL.of (s _ _ hpn)) ?_ ?_⟩
 ·rintro i x σ H2 hx ⟨G,left,u5,u6,u7,u8,u9,zs,C,rfl,h2,hso0,R2,G2,J,hfl,hpl,hp1,_,s2⟩;rw[Qam]at hx;obtain⟨n,hn,rfl⟩:=Qbq.mp hx;have hi:i<ns.length:=(Qai.mp hn).1;have hn0:=hns n (Qag hn);have hzl:=R2.1;refine⟨_,rfl,_,rfl,n,(left:Int),rfl,hn0,fun y H3 hy hyr s3=>Zi ?_⟩;have s23:=s2.trans s3;have h3:=s3 _ _ h2;have R3:=R2.same s3;refine yQ (fun σ H'=>σ=[some (.ref pn),some (.ref tn),some (.int (F:Int)),some (.ref G),some (.int (left:Int)),some (.int n),some (.str y),some (.int 2),u8,u9]/\H'=H3) (fun N hN=>hN _ _ ⟨rfl,rfl⟩) ?_;rintro σ H3 ⟨rfl,rfl⟩;refine uK (fun σ H'=>σ=[some (.ref pn),some (.ref tn),some (.int (F:Int)),some (.ref G),some (.int (left:Int)),some (.int n),some (.str y),some (.int (if y∈(["not","neg","twice","low"]:Ai)then 1 else 2)),u8,u9]/\Z8 H3 H') (fun N hN=>?_) ?_
  ·refine⟨_,rfl,Zpa,fun q hq=>⟨q,_,rfl,.inr (SqT.of Za),rfl,rfl,_,rfl,?_⟩⟩;show if inV (.str y) ((["not","neg","twice","low"]:Ai).map V.str)=true then _ else _;rw[ZL];have sq:=Zc (o:=.tup [.str "not",.str "neg",.str "twice",.str "low"]) hq
   by_cases h:y∈(["not","neg","twice","low"]:Ai)
   ·rw[Qba h]at hN;rw[Qal h];exact Y4 (hN _ _ ⟨rfl,sq⟩)
   ·rw[Qa4 h]at hN;rw[Qaj h];exact ZU (hN _ _ ⟨rfl,sq⟩)
  rintro σ H4 ⟨rfl,s4⟩;refine uK (fun σ H'=>σ=[some (.ref pn),some (.ref tn),some (.int (F:Int)),some (.ref G),some (.int (left:Int)),some (.int n),some (.str y),some (.int (Yw y:Int)),u8,u9]/\H'=H4) (fun N hN=>?_) ?_
  ·refine⟨_,rfl,rfl,_,rfl,?_⟩;unfold Yw at hN
   by_cases h:y = "pick"
   ·rw[Qba h]at hN;rw[Qal (congrArg V.str h)];exact Y4 (hN _ _ ⟨rfl,rfl⟩)
   ·rw[Qa4 h]at hN;rw[Qaj fun z=>h (by injection z)];refine ZU (hN _ _ ⟨?_,rfl⟩);split<;>rfl
  rintro σ H5 ⟨rfl,rfl⟩;have s24:=s23.trans s4;have h4:=s4 _ _ h3;have R4:=R3.same s4;have hbw:=Znm y;have atom:∀(D:Ends),(∀σ' H',(∃(G:Au) (left:Nat) (u5 u6 u7 u8 u9:Option V) (zs:A0) (C:Ax),σ'=[some (.ref pn),some (.ref tn),some (.int (F:Int)),some (.ref G),some (.int (left:Int)),u5,u6,u7,u8,u9]/\H' G=some (.lst zs)/\H G=none/\Y7 H' zs C/\gJ ys C/\Y9 C.flatten+left=F/\C.flatten.length<=i+1/\C.length<=i+1/\(1<=i+1->1<=C.length)/\i+1<=ns.length/\Z8 H H')->D.nx σ' H')->Zkz (tBM K "list" Zdl (Zgl 3) (Za8 (Zdd (zX K) [] E0 (Za8 (Zgl 5) (Za8 (Zgl 1) Zk7))) Zk7)) D [some (.ref pn),some (.ref tn),some (.int (F:Int)),some (.ref G),some (.int (left:Int)),some (.int n),some (.str y),some (.int (Yw y:Int)),u8,u9] H5:=by
   intro D hD;refine⟨_,rfl,.inl ⟨rfl,_,SqL.of h4⟩,_,rfl,_,rfl,n,tn,ys,rfl,hn0,s24 _ _ htn,by lia,fun p w H6 hp0 hp hleaf s6=>?_⟩;have h6:=s6 _ _ h4;obtain⟨w1,w2,w3⟩:=GF hyk hleaf;refine⟨G,_,_,rfl,rfl,h6,Zy (by lia),hD _ _ ⟨G,left,_,_,_,_,_,zs++[.ref p],C++[[w]],rfl,Za,hso0,?_,?_,?_,?_,?_,?_,hi,ZY (s24.trans s6) hso0⟩⟩
   ·exact(qy (fun b xs e=>by rw[Zk (X9 e h6 fun z=>nomatch z)];exact e) (R4.same s6)).snoc (by rw[Zk (X9 hp h6 fun z=>nomatch z)];exact hp)
   ·intro ps hps;rcases Qbb.mp hps with hps|hps
    ·exact G2 ps hps
    ·rw[Qat.mp hps];exact⟨Zbx w2,fun v hv=>by rw[Qat.mp hv];exact w1⟩
   ·rw[Qcu,GG];show Y9 C.flatten+Y9 [w]+left=F;rw[Wj,w3];exact J
   ·rw[Qcu,Qaf];show _+1<=_;lia
   ·rw[Qaf];show _+1<=_;lia
   ·intro _;rw[Qaf];show 1<=_+1;lia
  refine⟨_,rfl,rfl,_,rfl,?_⟩
  by_cases hye:y = ""
  ·rw[Qal (congrArg V.str hye)];exact Y4 (Y4 (atom _ fun _ _ z=>z))
  rw[Qaj fun z=>hye (by injection z)];refine ZU ⟨_,rfl,G,_,rfl,.inl (SqL.of h4),_,rfl,_,_,rfl,rfl,_,rfl,xB (fun _=>atom _ fun _ _ z=>z) (fun hlt=>?_)⟩;have hw:Yw y<=zs.length:=by
   have:¬((zs.length:Int)<(Yw y:Int)):=fun z=>hlt (Qal z);lia
  have hys:y∈G9:=hy.resolve_left hye;obtain⟨w1,w2,w3⟩:=J7 hyk hys;refine⟨_,rfl,_,rfl,Zcm,fun q hq=>⟨q,[.str y],rfl,.inl Za,(fun v hv=>.inl ⟨y,Qat.mp hv⟩),by show 1<=100;decide,fun H6 s6=>⟨_,_,rfl,rfl,Zi ?_⟩⟩⟩;have s56:=(Zc (o:=.lst [.str y]) hq).trans s6;obtain⟨O,hl'⟩:∃O:Nat,(left:Int)-(([V.str y].filter qb).length:Int)=(O:Int)/\left=O+if y∈WH then 1 else 0:=by
   by_cases Z:y∈WH
   ·have h0:left≠0:=fun z=>hyr (by rw[z];rfl) Z
    have e:[V.str y].filter qb=[.str y]:=List.filter_cons_of_pos (Qal Z);exact⟨left-1,by rw[e];show(left:Int)-1=_;lia,by rw[Qba Z];lia⟩
   ·have e:[V.str y].filter qb=[]:=List.filter_cons_of_neg fun z=>Z (Qbh z)
    exact⟨left,by rw[e];show(left:Int)-0=_;lia,by rw[Qa4 Z];lia⟩
  try dsimp only
  rw[hl'.1];refine⟨_,rfl,Zcm,fun b0 hb0=>Zi ?_⟩;have s57:=s56.trans (Zc (o:=.tup [.str y]) hb0);have h7:=s57 _ _ h4;have R7:=R4.same s57;have hb7:=Za (H:=H6) (a:=b0) (o:=.tup [.str y]);try dsimp only
  generalize upd H6 b0 (.tup [.str y])=H7 at *;have ecut:qe zs (some ((zs.length:Int)-(Yw y:Int))) none=zs.drop (zs.length-Yw y):=by
   rw[show((zs.length:Int)-(Yw y:Int))=((zs.length-Yw y:Nat):Int) by lia];exact zA zs _
  have ecut2:qe zs none (some ((zs.length:Int)-(Yw y:Int)))=zs.take (zs.length-Yw y):=by
   rw[show((zs.length:Int)-(Yw y:Int))=((zs.length-Yw y:Nat):Int) by lia];exact GB zs _
  refine⟨_,rfl,_,rfl,G,_,rfl,.inl (SqL.of h7),_,rfl,_,_,rfl,rfl,_,rfl,G,_,rfl,SqL.of h7,fun l1 hl1=>⟨l1,rfl,⟨_,SqL.of Za⟩,?_⟩⟩;have s78:=Zc (o:=.lst (qe zs (some ((zs.length:Int)-(Yw y:Int))) none)) hl1;have h8:=s78 _ _ h7;have R8:=R7.same s78;have hb8:=s78 _ _ hb7;have hl18:=Za (H:=H7) (a:=l1) (o:=.lst (qe zs (some ((zs.length:Int)-(Yw y:Int))) none));have s28:=s24.trans (s57.trans s78);refine x9 (K:=K) (a:=l1) (xs:=qe zs (some ((zs.length:Int)-(Yw y:Int))) none) (fun j σ H'=>∃(bt9:Au) (u9:Option V),σ=[some (.ref pn),some (.ref tn),some (.int (F:Int)),some (.ref G),some (.int (O:Int)),some (.int n),some (.str y),some (.int (Yw y:Int)),some (.ref bt9),u9]/\H' bt9=some (.tup (.str y::((C.drop (C.length-Yw y)).take j).flatten))/\Z8 (upd H7 l1 (.lst (qe zs (some ((zs.length:Int)-(Yw y:Int))) none))) H') ⟨b0,_,rfl,hb8,Z8.refl _⟩ (fun j σ H' _ ⟨_,_,_,_,s⟩=>SqL.of (s _ _ hl18)) ?_ ?_
  ·rintro j x σ H9 hx ⟨bt9,u9,rfl,hb9,s9⟩;rw[ecut,hzl]at hx;obtain⟨a,r,rfl,Z,ha⟩:=(R8.drop (C.length-Yw y)).at hx;have hlen:((C.drop (C.length-Yw y)).take j).flatten.length+r.length<=100:=by
    have e1:((C.drop (C.length-Yw y)).take (j+1)).flatten.length<=C.flatten.length:=by
     have e2:C.flatten=(C.take (C.length-Yw y)).flatten++(((C.drop (C.length-Yw y)).take (j+1)).flatten++((C.drop (C.length-Yw y)).drop (j+1)).flatten):=by rw[<-Qcu,Qbz,<-Qcu,Qbz]
     rw[e2,Qaf,Qaf];lia
    rw[take_snoc Z,Qcu,Qaf,Qe8,Qfy,Qbm]at e1;lia
   refine⟨_,rfl,_,rfl,bt9,a,_,_,rfl,rfl,hb9,s9 _ _ ha,?_,fun p9 H10 hp9 s10=>⟨p9,_,rfl,?_,s9.trans s10⟩⟩
   ·rw[Qbu];exact Qau (Zy (by lia))
   ·rw[hp9,take_snoc Z,Qcu,Qe8,Qfy,Qbm,Qfw]
  ·rintro σ H9 ⟨bt9,u9,rfl,hb9,s9⟩;rw[ecut,Qbt,hzl,Qce (by rw[Qbt];lia)]at hb9;have h9:=s9 _ _ h8;refine⟨_,rfl,_,rfl,G,_,rfl,.inl (SqL.of h9),_,rfl,_,_,rfl,rfl,_,rfl,G,_,rfl,SqL.of h9,fun l2 hl2=>⟨_,rfl,Zcm,fun l3 hl3=>?_⟩⟩;rw[ecut2]at hl3 ⊢;have s10:=Zc (o:=.lst (zs.take (zs.length-Yw y))) hl2;have s11:=s10.trans (Zc (o:=.lst [.ref bt9]) hl3);refine⟨l2,l3,_,_,rfl,rfl,Zc hl3 _ _ Za,Za,?_,fun l4 hl4=>?_⟩
   ·rw[Qas];exact Qau (Zy (by show _+1<=_;lia))
   have s12:=s11.trans (Zc (o:=.lst (zs.take (zs.length-Yw y)++[.ref bt9])) hl4);have s2z:=s28.trans (s9.trans s12);obtain⟨f1,f2⟩:=kT C (.str y) (C.length-Yw y);refine⟨l4,O,_,_,_,_,_,zs.take (zs.length-Yw y)++[.ref bt9],C.take (C.length-Yw y)++[.str y::(C.drop (C.length-Yw y)).flatten],rfl,Za,(s28.trans (s9.trans s11)).free hl4,?_,G2.word hyk hys (Zci y hys) (by lia),?_,by lia,?_,?_,hi,s2z⟩
   ·have e9:C.length-Yw y=zs.length-Yw y:=by lia
    rw[e9]at hb9 ⊢;exact((R8.same (s9.trans s12)).take _).snoc (s12 _ _ hb9)
   ·rw[f2,w3];have:=hl'.2
    by_cases Z:y∈WH
    ·rw[Qba Z]at this;rw[Qba (Qal Z)];lia
    ·rw[Qa4 Z]at this;rw[Qa4 (fun z=>Z (Qbh z))];lia
   ·rw[Qaf,Qas];show _+1<=_;lia
   ·intro _;rw[Qaf];show 1<=_+1;lia
 ·rintro σ H2 ⟨G,left,u5,u6,u7,u8,u9,zs,C,rfl,h2,hso0,R2,G2,J,hfl,hpl,hp1,_,s2⟩;rw[Qad]at hfl hpl hp1;have hp1:=hp1 h1;refine Zew (fun σ H2=>∃(G:Au) (zs:A0) (C:Ax),σ=[some (.ref pn),some (.ref tn),some (.int (F:Int)),some (.ref G),some (.int (left:Int)),u5,u6,u7,u8,u9]/\H2 G=some (.lst zs)/\Y7 H2 zs C/\gJ ys C/\Y9 C.flatten<=F/\C.flatten.length+C.length<=2*ns.length/\1<=C.length/\Z8 H H2) (fun σ H=>match σ with|[_,_,_,some (.ref G),_,_,_,_,_,_]=>(match H G with|some (.lst zs)=>zs.length|_=>0)|_=>0) ⟨G,zs,C,rfl,h2,R2,G2,by lia,by lia,hp1,s2⟩ ?_;rintro σ H2 ⟨G,zs,C,rfl,h2,R2,G2,J,hfl,hp1,s2⟩;have hzl:=R2.1;refine⟨_,rfl,G,_,rfl,.inl (SqL.of h2),_,_,rfl,rfl,_,rfl,xB (fun hgt=>?_) (fun hng=>?_)⟩
  ·have hz2:2<=zs.length:=by
    have:=Qbh hgt;lia
   refine⟨fun σ' H'=>∃(G:Au) (zs':A0) (I:Ax),σ'=[some (.ref pn),some (.ref tn),some (.int (F:Int)),some (.ref G),some (.int (left:Int)),u5,u6,u7,u8,u9]/\H' G=some (.lst zs')/\Y7 H' zs' I/\gJ ys I/\Y9 I.flatten<=F/\I.flatten.length+I.length<=2*ns.length/\1<=I.length/\zs'.length<zs.length/\Z8 H H',?_,?_⟩
   ·rintro σ' H' ⟨so',zs',I,rfl,g1,g2,g3,g4,g5,g6,g7,g8⟩;refine⟨zs'.length,?_,?_,so',zs',I,rfl,g1,g2,g3,g4,g5,g6,g8⟩
    ·show zs'.length<(match H2 G with|some (.lst zs)=>zs.length|_=>0);rw[h2];exact g7
    ·show _=(match H' so' with|some (.lst zs)=>zs.length|_=>0);rw[g1]
   ·have pl:C.length=zs.length:=hzl.symm;obtain⟨a,ha1,ha⟩:=R2.2 (zs.length-2) _ (Qac (by lia));obtain⟨b,hb1,hb⟩:=R2.2 (zs.length-1) _ (Qac (by lia));have at2:=Zat (n:=2) ha1 (by lia) (by decide);have at1:=Zat (n:=1) hb1 (by lia) (by decide);have ecut:qe zs none (some (-2))=zs.take (zs.length-2):=kU (xs:=zs) (n:=2) hz2 (by decide);have e2:C.drop (zs.length-2)=[C[zs.length-2]'(by lia),C[zs.length-1]'(by lia)]:=by
     rw[Qby (by lia),Qby (by lia),List.drop_of_length_le (by lia)];congr 2;congr 1;lia
    generalize C[zs.length-2]'(by lia)=pa at *;generalize C[zs.length-1]'(by lia)=pb at *;have hpab:pa.length+pb.length<=C.flatten.length:=by
     have e3:C.flatten=(C.take (zs.length-2)).flatten++(C.drop (zs.length-2)).flatten:=by rw[<-Qcu,Qbz]
     rw[e3,e2,Qaf];show _<=_+(pa++(pb++[])).length;rw[Qbm,Qaf];lia
    obtain⟨y,hy,ey⟩:=xG (ys:=["and","or","odd"]) (i:=(zs.length:Int)%3) (Qbe _ (by decide)) (Qa3 _ (by decide));obtain⟨y1,y2,y3⟩:=(by decide +kernel:∀z∈(["and","or","odd"]:Ai),z∈G9/\z∉WH/\Yu z=2) y hy;obtain⟨w1,w2,w3⟩:=J7 hyk y1;refine⟨_,rfl,_,rfl,_,rfl,G,_,rfl,SqL.of h2,fun l1 hl1=>⟨Zo9,fun g hg=>?_⟩⟩;have s3:=Zc (o:=.lst (qe zs none (some (-2)))) hl1;have s4:=s3.trans (Zc (o:=.lst [.str "and",.str "or",.str "odd"]) hg);refine⟨_,rfl,G,_,rfl,.inl (SqL.of (s4 _ _ h2)),_,_,rfl,rfl,(by show(0:Int)<3;decide),g,_,_,_,rfl,rfl,SqL.of Za,ey,Zcm,fun q1 hq1=>?_⟩;have s5:=s4.trans (Zc (o:=.tup [.str y]) hq1);refine⟨_,rfl,_,rfl,G,_,-2,.ref a,rfl,rfl,SqL.of (s5 _ _ h2),at2,q1,a,_,_,rfl,rfl,Za,s5 _ _ ha,?_,fun q2 H6 hq2 s6=>?_⟩
    ·exact Qau (Zy (by show 1+_<=_;lia))
    have s26:=s5.trans s6;refine⟨_,rfl,_,rfl,G,_,-1,.ref b,rfl,rfl,SqL.of (s26 _ _ h2),at1,q2,b,_,_,rfl,rfl,hq2,s26 _ _ hb,?_,fun q3 H7 hq3 s7=>⟨Zcm,fun l3 hl3=>⟨l1,l3,qe zs none (some (-2)),[.ref q3],rfl,rfl,?_,Za,?_,fun l4 hl4=>?_⟩⟩⟩
    ·exact Qau (Zy (by rw[Qaf];show 1+_+_<=_;lia))
    ·exact((Zc hg).trans ((Zc hq1).trans (s6.trans (s7.trans (Zc hl3))))) _ _ Za
    ·rw[ecut,Qas];exact Qau (Zy (by show _+1<=_;lia))
    have s8:=s26.trans (s7.trans (Zc (o:=.lst [.ref q3]) hl3));have s9:=s8.trans (Zc (o:=.lst (qe zs none (some (-2))++[.ref q3])) hl4);obtain⟨f1,f2⟩:=kT C (.str y) (zs.length-2);have G3:=G2.word hyk y1 y3 (by lia);rw[show C.length-2=zs.length-2 by lia]at G3;rw[e2]at f1 f2 G3;have efl:[pa,pb].flatten=pa++pb:=by simp
    rw[efl]at f1 f2 G3;have hq3':H7 q3=some (.tup (.str y::(pa++pb))):=by rw[hq3];rfl
    refine Zi ⟨l4,zs.take (zs.length-2)++[.ref q3],C.take (zs.length-2)++[.str y::(pa++pb)],rfl,?_,?_,G3,?_,?_,?_,?_,s2.trans s9⟩
    ·rw[Za,ecut]
    ·exact((R2.same s9).take _).snoc (((Zc hl3).trans (Zc hl4)) _ _ hq3')
    ·rw[f2,w3,Qa4 (fun z=>y2 (Qbh z))];exact J
    ·rw[f1,Qaf,Qas];show _+1+(_+1)<=2*ns.length;lia
    ·rw[Qaf];show 1<=_+1;lia
    ·rw[Qaf,Qas];show _+1<_;lia
  ·have hz1:zs.length=1:=by
    have:¬((1:Int)<(zs.length:Int)):=fun z=>hng (Qal z);lia
   match zs,C,hz1,hzl,R2,G2,J,hfl,h2 with
   |[z],[ps],_,_,R2,G2,J,hfl,h2=>
    obtain⟨a,r,rfl,Z,ha⟩:=R2.at (i:=0) rfl;cases Z;obtain⟨g1,g2⟩:=G2 ps Qan;obtain⟨e1,e2⟩:=g1.one;rw[Qe8,Qfy,Qbm]at J hfl;exact⟨_,rfl,G,_,0,_,rfl,rfl,SqL.of h2,rfl,k a ps H2 ha (by lia) g2 e1 e2 J s2⟩
inductive JT(vs:A0)(H:Hp)(Q:VK):Prop
 |mk (tw dv:Au) (W B:Nat) (ys:Ai) (ws:A0) (kvs:Ay) (ρ:Str->Int) (o:Int):(vs=[.ref tw,.int (W:Int),.ref dv])->(W<=1000000)->(H tw=some (.tup ws))->(ws.length<=100)->(H dv=some (.dK kvs))->(Ze5 kvs ys ρ)->((∀y∈ys,0<=ρ y/\ρ y<2^W))->((∀w∈ws,WW ys B w))->(YE ws)->(Xa (2^W) ρ ws=[o])->(∀H',Z8 H H'->Q (.int o) H')->JT vs H Q
def wC(K:Af):Sp:=fun vs H Q _=>JT vs H Q
omit T TB in
theorem Zix{st:Au}{a:Int}{l:Ak}(h:H st=some (.lst ((a::l).map V.int).reverse)):H st=some (.lst ((l.map V.int).reverse++[.int a])):=by grind
theorem wD:Yx P w K mg base CX0 2 t.oy t.pd ["words","width","values"] (wC K):=by
 have I:=Zb8 P base T TB;have J:=Zca P base T TB;refine T.di.go YM (by rintro _ _ _ _ ⟨_,_,_,_,_,_,_,_,_,rfl,_⟩;rfl) ?_;rintro cdv A outer s H _ Q E hr ⟨tw,dv,W,B,ys,ws,kvs,ρ,o,rfl,hW,ht,hl,hd,hc,hρ,hw,he,hrun,k⟩;have hu:=ZK hr;refine⟨_,(Zb (Z4 3 YM.nd (Zs Zc4 Ze (qv 1)))
   (Zb (Z4 4 YM.nd (Yq Zd))
   (Zb (Yk Qa7 rfl (Xs (qe_rev rv_tup (qv 0) (XC Xz Ze))) (YB 5 YM.nd)
   (Zf (Z9 (Yt (Zp YG (by rfl) T.ah ZF (Zh (qv 5) (Zh (Xw (v:=.ty "int") (by rfl) T.mz vO rfl) Zd))))
   (Zf (Yi (YD Qaw Qa0 Qa1 ZH (qv 4) (Zh (Zs ZN (qv 5) (qv 3)) Zd)))) (Zf (Z9 (Zo (qi hu) (qv 5) (qv 2) (by with_unfolding_all rfl))
   (Zf (Yi (YD Qaw Qa0 Qa1 ZH (qv 4) (Zh (Wv hu (qv 2) (qv 5) (fun _ _=>rfl)) Zd)))) (Zf (Z9 (Zo ZW (qv 5) (Yc (Zh Zl (Zh Zl (Zh Zl (Zh Zl Zd))))) (by with_unfolding_all rfl))
   (Zf (Yi (YD Qaw Qa0 Qa1 ZH (qv 4) (Zh (Zs ZN (Zj T.aat I hr (Zh (qv 5) (Zh (qJ Qaw Qdt Qdu jK (qv 4)) Zd))) (qv 3)) Zd)))) (Zb (Z4 6 YM.nd (qJ Qaw Qdt Qdu jK (qv 4)))
   (Zb (Z4 7 YM.nd (qJ Qaw Qdt Qdu jK (qv 4)))
   (Zf (Z9 (Zo Ys (qv 5) Zl (Z3 _))
   (Zf (Yi (YD Qaw Qa0 Qa1 ZH (qv 4) (Zh (Zs jf (Zs Xc (qv 6) (qv 7)) (Zs Xc (Zs JG (Zs JG (qv 3) Ze) (qv 6)) (qJ Qaw Qdt Qdu jK (qv 4)))) Zd)))) (Zf (Yi (YD Qaw Qa0 Qa1 ZH (qv 4) (Zh (Zs ZN (Zj T.aau J hr (Zh (qv 5) (Zh (qv 6) (Zh (qv 7) Zd)))) (qv 3)) Zd)))))))))))))))
   (Zf (Zn (Zq Z2 (qv 4) Ze)))))),?_⟩
 try dsimp only[L2.cxK,L2.cxK2]
 refine L2.let4 ?_;intro U3 U2 U1;refine⟨_,rfl,_,_,rfl,rfl,⟨Qca _,by lia,by decide⟩,?_⟩;try dsimp only
 rw[Int.one_mul,Qav];refine Zi ⟨Zks,fun st F=>Zi ?_⟩;have s1:=Zc (o:=.lst []) F;have hp:=YV W;have rb:∀r:A0,∀x∈Xa (2^W) ρ r,0<=x/\x<2^W:=fun r=>by
  induction r with
  |nil=>exact fun x h=>by cases h
  |cons w r ih=>
   intro x hx;rcases Qaq.mp hx with rfl|hx
   ·exact⟨Qbe _ (Qd6 hp),Qa3 _ hp⟩
   ·exact ih x (Qdg hx)
 refine⟨_,rfl,1,rfl,rfl,tw,_,rfl,SqT.of (s1 _ _ ht),fun O htr=>⟨_,rfl,⟨_,SqT.of Za⟩,?_⟩⟩;have s2:=s1.trans (Zc (o:=.tup ws.reverse) htr);have htr2:upd (upd H st (.lst [])) O (.tup ws.reverse) O=some (.tup ws.reverse):=Za;have hst2:upd (upd H st (.lst [])) O (.tup ws.reverse) st=some (.lst []):=Zc htr _ _ Za;have Z:O≠st:=fun z=>by rw[z,Za]at htr;cases htr
 generalize upd (upd H st (.lst [])) O (.tup ws.reverse)=H0 at *;refine WX (K:=K) (a:=O) (xs:=ws.reverse) (fun i σ H2=>∃u5 u6 u7,σ=[some (.ref tw),some (.int (W:Int)),some (.ref dv),some (.int (2^W)),some (.ref st),u5,u6,u7]/\i<=ws.length/\H2 st=some (.lst ((Xa (2^W) ρ (ws.drop (ws.length-i))).map V.int).reverse)/\H2 O=some (.tup ws.reverse)/\Z8 H H2) ⟨none,none,none,rfl,Qbp _,?_,htr2,s2⟩ (fun i σ H2 _ ⟨_,_,_,_,_,_,e,_⟩=>SqT.of e) ?_ ?_
 ·rw[Qgo,Qfa];exact hst2
 ·rintro i x σ H2 hx ⟨u5,u6,u7,rfl,hi0,D,h2t,s3⟩;obtain⟨hi,hx⟩:=Zj6 hx;have ed:ws.drop (ws.length-(i+1))=x::ws.drop (ws.length-i):=by
   rw[show ws.length-(i+1)=ws.length-1-i by lia,Qby (by lia),show ws.length-1-i+1=ws.length-i by lia];congr 1;exact(Qai.mp hx).2
  have hwx:=hw x (Qag hx);have hen:=Ga ws (ws.length-(i+1)) he;rw[ed]at hen ⊢;have hln:=J0 (2^W) ρ (ws.drop (ws.length-i));have hle2:=yU (ws.drop (ws.length-i));rw[Qbt]at hle2;have hrb:=rb (ws.drop (ws.length-i));have eX:Xa (2^W) ρ (x::ws.drop (ws.length-i))=(wwv ρ x ((Xa (2^W) ρ (ws.drop (ws.length-i))).take (npw x))%2^W)::(Xa (2^W) ρ (ws.drop (ws.length-i))).drop (npw x):=rfl;rw[eX];generalize ws.drop (ws.length-i)=r at *;have hn:=hen.1;generalize Xa (2^W) ρ r=G at *;have fin:∀(v:Int) (Hx:Hp) (l:Ak),l.length<=100->Hx st=some (.lst (l.map V.int).reverse)->Hx O=some (.tup ws.reverse)->Z8 H Hx->((l.map V.int).reverse).length<sizeLine/\upd Hx st (.lst ((l.map V.int).reverse++[.int v])) st=some (.lst ((v::l).map V.int).reverse)/\upd Hx st (.lst ((l.map V.int).reverse++[.int v])) O=some (.tup ws.reverse)/\Z8 H (upd Hx st (.lst ((l.map V.int).reverse++[.int v]))):=fun v Hx l hl' e1 e2 sx=>by
   refine⟨?_,by rw[Za,Qbx,Qcx],by rw[Zk Z];exact e2,ZY sx F⟩;rw[Qc6,Qad];exact Zy (by lia)
  have hsk:G.length<=100:=by lia
  rcases hwx with⟨y,rfl,hy,hny,C⟩|⟨y,rfl,hy,hnr,C⟩|⟨z,rfl,z0,z1,C⟩
  ·refine⟨_,rfl,_,_,_,_,rfl,.str y,YH,_,rfl,ZU ⟨_,rfl,_,rfl,dv,Yd kvs (.inr y),rfl,.inl ⟨kvs,.inr y,.inl (s3 _ _ hd),rfl,rfl⟩,_,rfl,?_⟩⟩;show if(Yd kvs (.inr y)).isSome=true then _ else _;rw[hc.2 y hny];refine ZU ⟨_,rfl,Zpa,fun q hq=>⟨q,_,rfl,.inr (SqT.of Za),rfl,rfl,_,rfl,?_⟩⟩;show if inV (.str y) ((["not","neg","twice","low"]:Ai).map V.str)=true then _ else _;rw[ZL];have s4:=Zc (o:=.tup [.str "not",.str "neg",.str "twice",.str "low"]) hq;have h3s:=s4 _ _ D;have h3t:=s4 _ _ h2t;have s5:=s3.trans s4;generalize upd H2 q (.tup [.str "not",.str "neg",.str "twice",.str "low"])=H3 at *
   by_cases h1:y∈(["not","neg","twice","low"]:Ai)
   ·rw[Qal h1];have hp1:Yu y=1:=(by decide +kernel:∀y∈(["not","neg","twice","low"]:Ai),Yu y=1) y h1;rw[hp1]at C;rw[C]at hn ⊢;obtain⟨a,l,rfl⟩:∃a l,G=a::l:=by
     cases G with
     |nil=>exact absurd hn (by rw[<-hln];exact Nat.not_succ_le_zero 0)
     |cons a l=>exact⟨a,l,rfl⟩
    have hpop:=Zix h3s;refine Y4 ⟨_,rfl,.inl ⟨rfl,_,SqL.of h3s⟩,_,rfl,_,rfl,.inl ⟨rfl,_,SqL.of hpop⟩,st,_,_,rfl,rfl,hpop,Jl _ _,y,a,rfl,_,rfl,_,_,rfl,rfl,hp,?_⟩;rw[Qeb];obtain⟨f1,f2,f3,f4⟩:=fin (Zpf y a%2^W) (upd H3 st (.lst (l.map V.int).reverse)) l (by rw[Qbu]at hsk;lia) Za (by rw[Zk Z];exact h3t) (ZY s5 F);exact⟨st,_,_,rfl,rfl,Za,f1,_,_,_,rfl,hi,f2,f3,f4⟩
   ·rw[Qaj h1];have h23:(Yu y=2/\y ≠ "pick")\/(y = "pick" /\ Yu y=3):=(by decide +kernel:∀y∈G9,y∉(["not","neg","twice","low"]:Ai)->(Yu y=2/\y ≠ "pick")\/(y = "pick" /\ Yu y=3)) y hy h1;obtain⟨a,b,l,rfl⟩:∃a b l,G=a::b::l:=by
     have h2:2<=G.length:=by
      rw[hln];rcases h23 with h|h
      ·lia
      ·lia
     match G,h2 with
     |a::b::l,_=>exact⟨a,b,l,rfl⟩
    have hpa:=Zix h3s;refine ZU ⟨_,rfl,.inl ⟨rfl,_,SqL.of hpa⟩,st,_,_,rfl,rfl,hpa,Jl _ _,Zi ?_⟩;rw[Qeb];have s6:=ZY (o:=.lst ((b::l).map V.int).reverse) s5 F;have h4s:upd H3 st (.lst ((b::l).map V.int).reverse) st=some (.lst ((b::l).map V.int).reverse):=Za;have h4t:upd H3 st (.lst ((b::l).map V.int).reverse) O=some (.tup ws.reverse):=by rw[Zk Z];exact h3t
    generalize upd H3 st (.lst ((b::l).map V.int).reverse)=H4 at *;have hpb:=Zix h4s;refine⟨_,rfl,.inl ⟨rfl,_,SqL.of hpb⟩,st,_,_,rfl,rfl,hpb,Jl _ _,Zi ?_⟩;rw[Qeb];have s7:=ZY (o:=.lst (l.map V.int).reverse) s6 F;have Y:upd H4 st (.lst (l.map V.int).reverse) st=some (.lst (l.map V.int).reverse):=Za;have h5t:upd H4 st (.lst (l.map V.int).reverse) O=some (.tup ws.reverse):=by rw[Zk Z];exact h4t
    generalize upd H4 st (.lst (l.map V.int).reverse)=H5 at *;have hll:l.length<=100:=by
     simp only[Qbu]at hsk;lia
    refine⟨_,rfl,rfl,_,rfl,?_⟩;rcases h23 with⟨h2,hpk⟩|⟨hpk,h3⟩
    ·rw[Qaj (fun z=>hpk (by injection z))];rw[h2]at C;rw[C];obtain⟨f1,f2,f3,f4⟩:=fin (Zpg y a b%2^W) H5 l hll Y h5t s7;exact ZU ⟨_,rfl,.inl ⟨rfl,_,SqL.of Y⟩,_,rfl,_,rfl,_,rfl,y,a,b,rfl,_,rfl,_,_,rfl,rfl,hp,st,_,_,rfl,rfl,Y,f1,_,_,_,rfl,hi,f2,f3,f4⟩
    ·rw[Qal (congrArg V.str hpk)];rw[h3]at C;rw[C]at hn ⊢;obtain⟨c,l,rfl⟩:∃c l',l=c::l':=by
      cases l with
      |nil=>
       simp only[Qbu,Qed]at hln;lia
      |cons c l=>exact⟨c,l,rfl⟩
     have ha:=hrb a Qan;have hb:=hrb b (Qak _ Qan);have hcc:=hrb c (Qak _ (Qak _ Qan));have hpc:=Zix Y;refine Y4 ⟨_,rfl,.inl ⟨rfl,_,SqL.of Y⟩,_,rfl,_,rfl,_,_,rfl,rfl,_,rfl,_,_,rfl,rfl,_,rfl,_,_,rfl,rfl,_,rfl,.inl ⟨rfl,_,SqL.of hpc⟩,st,_,_,rfl,rfl,hpc,Jl _ _,_,_,rfl,rfl,_,_,rfl,rfl,?_⟩;rw[Qeb];try dsimp only
     rw[Zh8 ha.1 ha.2 hb.1 hb.2 hcc.1 hcc.2];obtain⟨f1,f2,f3,f4⟩:=fin (Builtin.bitOr (Builtin.bitAnd a b) (Builtin.bitAnd (Builtin.bitNot a) c)%2^W) (upd H5 st (.lst (l.map V.int).reverse)) l (by simp only[Qbu]at hll;lia) Za (by rw[Zk Z];exact h5t) (ZY s7 F);exact⟨st,_,_,rfl,rfl,Za,f1,_,_,_,rfl,hi,f2,f3,f4⟩
  ·refine⟨_,rfl,_,_,_,_,rfl,.str y,YH,_,rfl,ZU ⟨_,rfl,_,rfl,dv,Yd kvs (.inr y),rfl,.inl ⟨kvs,.inr y,.inl (s3 _ _ hd),rfl,rfl⟩,_,rfl,?_⟩⟩;show if(Yd kvs (.inr y)).isSome=true then _ else _;rw[hc.1 y hy];have ev:wwv ρ (.str y) (G.take (npw (.str y)))%2^W=ρ y:=by
    rw[C,List.take_zero];exact Qcr (hρ y hy).1 (hρ y hy).2
   rw[ev,C,Qdp];obtain⟨f1,f2,f3,f4⟩:=fin (ρ y) H2 G hsk D h2t s3;exact Y4 ⟨_,rfl,.inl ⟨rfl,_,SqL.of D⟩,_,rfl,_,rfl,dv,_,rfl,.inl ⟨kvs,.inr y,.inl (s3 _ _ hd),rfl,(hc.1 y hy).symm⟩,st,_,_,rfl,rfl,D,f1,_,_,_,rfl,hi,f2,f3,f4⟩
  ·rw[C,Qdp];obtain⟨f1,f2,f3,f4⟩:=fin (z%2^W) H2 G hsk D h2t s3;exact⟨_,rfl,_,_,_,_,rfl,.int z,XB,_,rfl,Y4 ⟨_,rfl,.inl ⟨rfl,_,SqL.of D⟩,_,rfl,_,rfl,_,_,rfl,rfl,hp,st,_,_,rfl,rfl,D,f1,_,_,_,rfl,hi,f2,f3,f4⟩⟩
 ·rintro σ H2 ⟨u5,u6,u7,rfl,hi0,D,h2t,s3⟩;rw[Qc6,Qff,Qdp,hrun]at D;exact⟨_,rfl,st,_,0,_,rfl,rfl,SqL.of D,rfl,k H2 s3⟩
inductive Wq(vs:A0)(H:Hp)(Q:VK):Prop
 |mk (c:Au) (ps:List (Int×Int)) (ws:A0):(vs=[.ref c])->(H c=some (.tup ws))->(Prs H ps ws)->(Q (.bl true) H)->Wq vs H Q
def jc(K:Af):Sp:=fun vs H Q _=>Wq vs H Q
theorem jd:Yx P w K mg base CX0 2 t.ij t.ik ["found"] (jc K):=by
 have q:=xa P base T TB;refine T.ir.go Jo (by rintro _ _ _ _ ⟨_,_,_,rfl,_⟩;rfl) ?_;rintro O A outer s H _ Q E G ⟨c,ps,ws,rfl,F,I,k⟩;have hu:=ZK G;refine⟨_,(Zb (Z9 (Wd (Yt (Zp YG (by rfl) T.ah ZF (Zh (qv 0) (Zh (Xw (v:=.ty "tuple") (by rfl) T.ai ZP rfl) Zd)))))
   (Zf (Zn Xi)) Zv)
   (Zb (Yk Qa7 rfl (Xs (qv 0)) (YB 1 Jo.nd)
   (Zf (Z9 (WZ (Wc (Wd (Yt (Zp YG (by rfl) T.ah ZF (Zh (qv 1) (Zh (Xw (v:=.ty "tuple") (by rfl) T.ai ZP rfl) Zd))))) (Wc (Zo vC (Zp Zu (by rfl) T.af ZT (Zh (qv 1) Zd)) Ze (Z3 _)) (Wc (Wd (Yt (Zj T.bc q G (Zh (Zq Zr (qv 1) Ze) Zd)))) (WD (Wd (Yt (Zj T.bc q G (Zh (Zq Zr (qv 1) Ze) Zd)))))))))
   (Zf (Zn Xi)) Zv)))
   (Zf (Zn Xi)))),?_⟩
 refine L2.let3 ?_;intro Y Z;refine⟨_,rfl,_,_,_,_,rfl,.tup F,Ws,_,rfl,ZU ⟨_,rfl,c,rfl,⟨_,SqT.of F⟩,WX (K:=K) (a:=c) (xs:=ws) (fun i σ H2=>∃D,σ=[some (.ref c),D]/\H2=H) ⟨none,rfl,rfl⟩ (fun i σ H2 _ ⟨_,_,e⟩=>e ▸ SqT.of F) ?_ ?_⟩⟩
 ·rintro i x σ H2 J ⟨D,rfl,rfl⟩;obtain⟨p,a,hq,rfl,C⟩:=I.at J;exact Zi ⟨_,rfl,_,_,_,_,rfl,.tup C,Ws,_,rfl,ZU ⟨_,rfl,a,_,rfl,.inr (SqT.of C),rfl,_,rfl,ZU ⟨_,rfl,a,_,0,_,rfl,rfl,SqT.of C,rfl,p.1,rfl,_,rfl,ZU ⟨_,rfl,a,_,1,_,rfl,rfl,SqT.of C,rfl,p.2,rfl,_,rfl,ZU ⟨_,rfl,rfl⟩⟩⟩⟩⟩
 ·rintro σ H2 ⟨D,rfl,rfl⟩;exact k
inductive X1(vs:A0)(H:Hp)(Q:VK):Prop
 |mk (m a:Au) (nm:Ai) (b:Nat) (nx:Ad) (ot:Ax) (n:Nat) (Ls:Ad) (kb:Nat) (v:V) (tr:Bool):(vs=[.ref m,.ref a,.int (kb:Int),v])->(M4 H m nm b nx ot)->(Runs nx ot n)->(b<nx.length)->(nx.length<=1000000)->(wa H a Ls)->(Ls≠[])->((∀L∈Ls,L.length<=1000/\∀l∈L,l<2^n))->(Ls.length<=1000000)->(kb<=3)->(YY tr v)->((∀r∈ot,∀x∈r,YY tr x))->(∀p H',H p=none->wa H' p (cho kb (lwb (mN nx) (mB ot v) kb (lys (mN nx) [b] Ls) Ls).1 Ls)->SmF H H'->Q (.ref p) H')->X1 vs H Q
def GS(K:Af):Sp:=fun vs H Q _=>X1 vs H Q
theorem GU:Yx P w K mg base CX0 3 t.cw t.cx ["machine","letters","number","wanted"] (GS K):=by
 have D:=JC P base T TB;have G:=Gh P base T TB;have J:=xw P base T TB;refine T.cz.go Z7 (by rintro _ _ _ _ ⟨_,_,_,_,_,_,_,_,_,_,_,rfl,_⟩;rfl) ?_;rintro cdv A outer s H _ Q E hr ⟨m,a,nm,b,nx,ot,n,Ls,I,v,tr,rfl,M,R,hb,hN,hA,hne,hL,hw,hkb,hv,hk,k⟩;have hu:=ZK hr;refine⟨_,(Zb (Z4 4 Z7.nd (Zj T.fj J hr (Zh (qv 0) (Zh (qv 1) Zd))))
   (Zb (Z4 5 Z7.nd (Yq Zd))
   (Zb (Z4 6 Z7.nd uE)
   (Zb (Yk Qa7 rfl (Zme rfl T.au (Zh (Zs JG (Zp Zu (by rfl) T.af ZT (Zh (qv 1) Zd)) Ze) (Zh (XC Xz Ze) (Zh (XC Xz Ze) Zd)))) (YB 7 Z7.nd)
   (Zb (Z4 8 Z7.nd (Zj T.bf G hr (Zh (Zq Z2 (qv 1) (qv 7)) (Zh (qv 2) (Zh Ze Zd)))))
   (Zb (Z4 9 Z7.nd (Zj T.bb D hr (Zh (qv 0) (Zh (Zq Z2 (qv 4) (qv 7)) (Zh (qv 8) (Zh (qv 6) (Zh (qv 3) Zd)))))))
   (Zb (Z9 (Zo Ys (Zp vZ (by rfl) T.af ZT (Zh (qv 9) Zd)) Ze (Z3 _))
   (Zb (Z4 8 Z7.nd (Zj T.bf G hr (Zh (Zq Z2 (qv 1) (qv 7)) (Zh (qv 2) (Zh Ze Zd)))))
   (Zf (Z4 9 Z7.nd (Zj T.bb D hr (Zh (qv 0) (Zh (Zq Z2 (qv 4) (qv 7)) (Zh (qv 8) (Zh (qv 6) (Zh (qv 3) Zd))))))))) Zv)
   (Zb (Yi (YD Qaw Qa0 Qa1 ZH (qv 5) (Zh (qv 8) Zd)))
   (Zf (Z4 6 Z7.nd (qv 9))))))))
   (Zb (Yi (qJ Qaw PySem.F.slot_list_reverse PySem.F.type_list_reverse Zbb (qv 5)))
   (Zf (Zn (qv 5)))))))),?_⟩
 try dsimp only[L2.cxK,L2.cxK2]
 refine L2.let6 ?_;intro U5 U4 U3 U2 U1;have lyl:=gP (nx:=mN nx) Ls [b];have lyok:=Zf1 (nx:=mN nx) (N:=nx.length) (M:=2^n) (fun s l hs hl=>R.mN hs hl) (Ls:=Ls) (S:=[b]) (Qc4.mpr ⟨Qbo,Qdb⟩) (fun s hs=>by rw[Qat.mp hs];exact hb) (fun L h=>(hL L h).2);refine⟨_,rfl,_,rfl,m,a,nm,b,nx,ot,n,Ls,rfl,M,R,hb,hN,hA,hne,hL,hw,fun ly H1 hly Ly s1=>Zi ⟨Zks,fun O hlf=>Zi (Zi ?_)⟩⟩;have s2:=s1.trans (SmF.of (Zc (o:=.lst []) hlf));have Z:=s1.free hlf;obtain⟨as,ha,hal,hat⟩:=hA.smf s2;have Ly2:=Ly.smf (SmF.of (Zc (o:=.lst []) hlf));have W0:yq (upd H1 O (.lst [])) .non (lwT (mN nx) (mB ot v) I [b] Ls Ls.length).2:=by rw[Zf4];exact .inl ⟨rfl,rfl⟩
 have T0:qU (upd H1 O (.lst [])) ([]:A0).reverse (cho I (lwT (mN nx) (mB ot v) I [b] Ls Ls.length).1 (Ls.drop Ls.length)):=by rw[Zf4];exact⟨rfl,fun i C h=>nomatch h⟩
 have hlf2:upd H1 O (.lst []) O=some (.lst []):=Za;have M2:=M.smf s2;generalize upd H1 O (.lst [])=H2 at *;refine⟨_,rfl,a,as,rfl,.inl (SqL.of ha),_,_,rfl,rfl,_,rfl,_,rfl,as.length,rfl,by lia,Zhx (fun i σ H'=>∃(zs:A0) (wv:V) (u7 u8 u9:Option V),σ=[some (.ref m),some (.ref a),some (.int (I:Int)),some v,some (.ref ly),some (.ref O),some wv,u7,u8,u9]/\i<=Ls.length/\H' O=some (.lst zs)/\zs.length=i/\qU H' zs.reverse (cho I (lwT (mN nx) (mB ot v) I [b] Ls (Ls.length-i)).1 (Ls.drop (Ls.length-i)))/\yq H' wv (lwT (mN nx) (mB ot v) I [b] Ls (Ls.length-i)).2/\SmF H H'/\Zgs H' ly (lys (mN nx) [b] Ls)/\(∀b xs,H2 b=some (.tup xs)->H' b=some (.tup xs))/\H' a=some (.lst as)) ⟨[],.non,none,none,none,rfl,Qbp _,hlf2,rfl,T0,W0,s2,Ly2,fun _ _ z=>z,ha⟩ ?_ ?_⟩
 ·rintro i σ H3 hi ⟨zs,wv,u7,u8,u9,rfl,hil,z1,z2,z3,z4,s3,Ly3,tp3,ha3⟩;rw[hal]at hi;obtain⟨j,hj⟩:∃j,Ls.length-i=j+1:=⟨Ls.length-i-1,by lia⟩;rw[hj]at z3 z4;have ep:(as.length:Int)-1-i=(j:Int):=by lia
  rw[ep];obtain⟨L,hLj⟩:∃L,Ls[j]?=some L:=⟨_,Qac (by lia)⟩;obtain⟨S,hSj⟩:∃S,(lys (mN nx) [b] Ls)[j]?=some S:=⟨_,Qac (by lia)⟩;obtain⟨hL1,hL2⟩:=hL L (Qag hLj);obtain⟨hS1,hS2⟩:=lyok S (Qag hSj);obtain⟨x0,hx0,htl⟩:=hat j L hLj;have htl3:=tp3 _ _ htl;have hst:=Zin (nx:=mN nx) (ok:=mB ot v) (k:=I) hSj hLj;have hSl:S.length<=1000000:=Qa8 (Zf2 hS1 hS2) hN;have chl:∀w,(∀l∈chs I w L,l<2^n)/\(chs I w L).length<=1000:=fun w=>⟨fun l hl=>hL2 l (Jn.mp hl).1,Qa8 (Qc9 _ _) hL1⟩;refine Zi ⟨_,rfl,_,rfl,a,_,_,_,rfl,rfl,SqL.of ha3,Ya hx0,_,rfl,x0,L,I,0,rfl,htl3,hL1,hkb,fun c0 H4 hc0 hc04 s4=>Zi ?_⟩;have s4':=SmF.of s4;have s34:=s3.trans s4';obtain⟨ys,hy1,hy2,hy3⟩:=Ly3.smf s4';obtain⟨dl,hdl,rdl⟩:=hy3 j S hSj;refine⟨_,rfl,_,rfl,_,rfl,ly,_,_,_,rfl,rfl,SqL.of hy1,Ya hdl,_,rfl,_,rfl,_,rfl,m,dl,c0,nm,b,nx,ot,n,S,chs I 0 L,_,wv,v,tr,rfl,M.smf s34,R,rdl,hS1,hS2,hSl,hc04,(chl 0).1,(chl 0).2,s4'.well z4,hv,hk,fun g0 H5 hg0 hg5 s5=>Zi ?_⟩;have s45:=s4'.trans s5;have hc5:=s5.tup hc04;refine yQ (fun σ H'=>∃c g,σ=[some (.ref m),some (.ref a),some (.int (I:Int)),some v,some (.ref ly),some (.ref O),some wv,some (.int (j:Int)),some (.ref c),some (.ref g)]/\H' c=some (.tup ((chs I (kY (mN nx) (mB ot v) I (lwT (mN nx) (mB ot v) I [b] Ls (j+1)).2 S L) L).map Xe))/\H' g=some (.dK (twK (goB (mN nx) (mB ot v) (lwT (mN nx) (mB ot v) I [b] Ls (j+1)).2 S (chs I (kY (mN nx) (mB ot v) I (lwT (mN nx) (mB ot v) I [b] Ls (j+1)).2 S L) L))))/\SmF H3 H') (fun N hN=>?_) ?_
  ·refine⟨_,rfl,g0,_,rfl,.inl hg5,rfl,_,rfl,?_⟩;rw[zJ]
   by_cases hz:goB (mN nx) (mB ot v) (lwT (mN nx) (mB ot v) I [b] Ls (j+1)).2 S (chs I 0 L)=[]
   ·have ew:kY (mN nx) (mB ot v) I (lwT (mN nx) (mB ot v) I [b] Ls (j+1)).2 S L=1:=Qba hz;rw[ew]at hN;rw[hz,Qal (by rfl)];obtain⟨ys2,hz1,hz2,hz3⟩:=(Ly3.smf s4').smf s5;obtain⟨dl2,hdl2,rdl2⟩:=hz3 j S hSj;refine Y4 ⟨_,rfl,_,rfl,a,_,_,_,rfl,rfl,SqL.of (s45.lst ha3),Ya hx0,_,rfl,x0,L,I,1,rfl,s45.tup htl3,hL1,hkb,fun c1 H6 hc1 hc16 s6=>Zi ?_⟩;have s6':=SmF.of s6;refine⟨_,rfl,_,rfl,_,rfl,ly,_,_,_,rfl,rfl,SqL.of (s6'.lst hz1),Ya hdl2,_,rfl,_,rfl,_,rfl,m,dl2,c1,nm,b,nx,ot,n,S,chs I 1 L,_,wv,v,tr,rfl,M.smf ((s34.trans s5).trans s6'),R,s6'.rd rdl2,hS1,hS2,hSl,hc16,(chl 1).1,(chl 1).2,(s45.trans s6').well z4,hv,hk,fun g1 H7 hg1 hg7 s7=>Zi (hN _ _ ⟨c1,g1,rfl,s7.tup hc16,hg7,(s45.trans s6').trans s7⟩)⟩
   ·have ew:kY (mN nx) (mB ot v) I (lwT (mN nx) (mB ot v) I [b] Ls (j+1)).2 S L=0:=Qa4 hz;rw[ew]at hN;rw[Qaj fun q=>hz (Qb9 (by injection q with q;lia))];exact ZU (hN _ _ ⟨c0,g0,rfl,hc5,hg5,s45⟩)
  ·rintro σ H7 ⟨c,g,rfl,q1,q2,s7⟩;have z7:=s7.lst z1;have tp7:∀b xs,H3 b=some (.tup xs)->H7 b=some (.tup xs):=fun b xs z=>s7.tup z;have tpu:∀b xs,H7 b=some (.tup xs)->upd H7 O (.lst (zs++[.ref c])) b=some (.tup xs):=fun b xs z=>by rw[Zk (X9 z z7 fun q=>nomatch q)];exact z
   have s37:=s3.trans s7;have hglf:g≠O:=fun z=>by rw[z,z7]at q2;cases q2
   have hlyl:ly≠O:=fun z=>by
    obtain⟨w0,Y,hw1,_⟩:=Ly2;rw[z,hlf2]at Y;cases Y;have:(0:Nat)=(lys (mN nx) [b] Ls).length:=hw1;cases Ls with
    |nil=>exact hne rfl
    |cons _ _=>rw[lyl]at this;cases this
   have half:a≠O:=fun z=>by
    obtain⟨w0,Y,_⟩:=hA;rw[z,Z]at Y;cases Y
   refine⟨_,rfl,.inl ⟨rfl,_,SqL.of z7⟩,_,rfl,O,_,_,rfl,rfl,z7,Xf (by lia),_,rfl,Zi ⟨zs++[.ref c],.ref g,_,_,_,rfl,hi,Za,by rw[Qaf,z2];rfl,?_,?_,s37.put Z,?_,fun b xs z=>tpu _ _ (tp7 _ _ (tp3 _ _ z)),by rw[Zk half];exact s7.lst ha3⟩⟩
   ·rw[show Ls.length-(i+1)=j by lia,hst,yr hLj,List.reverse_append];exact((z3.smf tp7).smf tpu).cons (tpu _ _ q1)
   ·rw[show Ls.length-(i+1)=j by lia,hst];exact .inr ⟨g,_,rfl,rfl,.inl (by rw[Zk hglf];exact q2)⟩
   ·obtain⟨w0,Y,hw1,hw2⟩:=Ly3.smf s7;refine⟨w0,by rw[Zk hlyl];exact Y,hw1,fun t S' ht=>?_⟩;obtain⟨a9,y1,y2⟩:=hw2 t S' ht;have ne9:a9≠O:=fun z=>by
     subst z;rcases y2 with y2|⟨_,y2⟩<;>rw[z7]at y2<;>cases y2
    refine⟨a9,y1,?_⟩;rcases y2 with y2|⟨u,y2⟩
    ·exact .inl (by rw[Zk ne9];exact y2)
    ·exact .inr ⟨u,by rw[Zk ne9];exact y2⟩
 ·rintro σ H3 ⟨zs,wv,u7,u8,u9,rfl,hil,z1,z2,z3,z4,s3,Ly3,tp3,ha3⟩;rw[hal,Qff]at z3;refine⟨_,rfl,.inl ⟨rfl,_,SqL.of z1⟩,O,_,rfl,rfl,z1,_,rfl,k O _ Z ⟨_,Za,z3.1,fun t C ht=>?_⟩ (s3.put Z)⟩;obtain⟨a9,y1,y2⟩:=z3.2 t C ht;exact⟨a9,y1,by rw[Zk (X9 y2 z1 fun q=>nomatch q)];exact y2⟩
inductive WQ(vs:A0)(H:Hp)(Q:VK):Prop
 |mk (s:Au) (stk:A0) (w:V):(vs=[.ref s,w])->(H s=some (.lst stk.reverse))->(w=kV (keyOf w))->(npw w<=stk.length)->(stk.length<=100)->(∀pl H',H pl=none->H' pl=some (.lst (stk.take (npw w)))->H' s=some (.lst (stk.drop (npw w)).reverse)->(∀b o,H b=some o->b≠s->H' b=some o)->Q (.ref pl) H')->WQ vs H Q
def jE(K:Af):Sp:=fun vs H Q _=>WQ vs H Q
theorem jF:Yx P w K mg base CX0 3 t.me t.mf ["stack","word"] (jE K):=by
 have C:=uo P base T TB;refine T.mx.go ju (by rintro _ _ _ _ ⟨_,_,_,rfl,_⟩;rfl) ?_;rintro cdv A outer s H _ Q E hr ⟨st,D,x,rfl,hs,hx,hn,hl,k⟩;have hu:=ZK hr;refine⟨_,(Zf (Zn (Y0 ({}:ZZ (Zg W3) _ ["stack","word"] "part" ["stack"] [0]) (YC rfl T.au (Zh (Zj T.wh C hr (Zh (qv 1) Zd)) Zd)) (fun _ _ _ _=>XO) (fun _ _ _ _=>(show QE _ _ (Zpc K "list" rPop (Zgl 1))from(qJ Qaw Qdt Qdu jK (qv 1))))))),?_⟩;refine⟨_,rfl,keyOf x,congrArg (fun z=>[z]) hx,W4 (keyOf x),rfl,?_,?_,qf (n:=(W4 (keyOf x)).toNat) (fun i zs H2=>i<=npw x/\zs=D.take i/\H2 st=some (.lst (D.drop i).reverse)/\∀b o,H b=some o->b≠st->H2 b=some o) ⟨Qbp _,rfl,hs,fun b o e _=>e⟩ ?_ ?_ ?_⟩
 ·have:=zu (keyOf x);lia
 ·have:=zu (keyOf x);lia
 ·rintro i zs H2 ⟨_,rfl,_,_⟩;rw[Qas];exact Qau (Zy (by lia))
 ·rintro i zs H2 R hR hi ⟨O,rfl,h2,o2⟩;have Z:i<npw x:=hi;have I:i<D.length:=by lia
  rw[Zml I]at h2;refine⟨_,rfl,.inl ⟨rfl,_,SqL.of h2⟩,st,_,D[i],rfl,rfl,h2,Jl _ _,hR _ _ ⟨Z,?_,?_,fun b o e G=>?_⟩⟩
  ·rw[take_snoc (Qac I)]
  ·rw[Za,Qeb]
  ·rw[Zk G];exact o2 b o e G
 ·rintro zs H2 ⟨O,rfl,h2,o2⟩ l F;have J:H l=none:=by
   cases q:H l with
   |none=>rfl
   |some o=>
    by_cases G:l=st
    ·rw[G,h2]at F;cases F
    ·grind
  have Y:st≠l:=Zm h2 F;refine k l _ J Za ?_ fun b o e G=>?_
  ·rw[Zk Y];exact h2
  ·rw[Zk (Zm e J)];exact o2 b o e G
inductive GV(vs:A0)(H:Hp)(Q:VK):Prop
 |mk (t:Au) (ws:A0):(vs=[.ref t])->(H t=some (.tup ws))->((∀w∈ws,kE w))->(ws.length<=60)->(∀p H' (ms:Ai),H p=none->H' p=some (.tup (ms.map V.str))->Z8 H H'->ms.Perm (Wx ((ws.filter nmB).map Zmj))->PyProof.Rows.sortedS ms=true->Q (.ref p) H')->GV vs H Q
def uq(K:Af):Sp:=fun vs H Q _=>GV vs H Q
theorem ur:Yx P w K mg base CX0 3 t.su t.sy ["words"] (uq K):=by
 have q:=Zcg P base T TB;refine T.aaa.go gY (by rintro _ _ _ _ ⟨_,_,rfl,_⟩;rfl) ?_;rintro cdv A outer s H _ Q E O ⟨t,ws,rfl,Z,hw,hl,k⟩;have hu:=ZK O;refine⟨_,(Zf (Zn (ZC Z6 (by rfl) T.ai ZP (Zh (Zp (yI rfl) (by rfl) T.abb vN (Zh (ZC (Zee rfl) (by rfl) T.abw bt_set (Zh (Y0 ({}:ZZ (Zg qu) _ ["words"] "word" [] []) (Xs (qv 0)) (fun _ _ _ _=>(jM (WZ (vQ (Yt (Zp (show X3 _ (.builtin "isinstance") (rIsi K)from YG) (by rfl) T.ah ZF (Zh (qv 0) (Zh (Xw (v:=.ty "str") (by rfl) T.abl Zjl rfl) Zd)))) (xT (Yt (Zj T.aax q O (Zh (qv 0) Zd)))))))) (fun _ _ _ _=>(qv 0))) Zd)) Zd)) Zd)))),?_⟩;refine⟨_,rfl,t,rfl,⟨_,SqT.of Z⟩,zd (xs:=ws) nmB Z8 Z8.refl (fun _ _ _ a b=>a.trans b) (fun H1 D=>SqT.of (D _ _ Z)) (Qau (Zy (by lia))) (fun x J H1 D R hR=>?_) (fun x J H1 R hR=>⟨_,rfl,hR⟩) (fun H1 l D F=>?_)⟩
 ·rcases hw x J with⟨y,rfl,hy⟩|⟨z,rfl⟩
  ·exact⟨_,rfl,_,_,_,_,rfl,.str y,JX,_,rfl,Y4 ⟨_,rfl,y,rfl,Qa8 hy (by decide),fun H2 G=>⟨_,rfl,hR H2 G⟩⟩⟩
  ·exact⟨_,rfl,_,_,_,_,rfl,.int z,wQ,_,rfl,ZU (hR H1 (Z8.refl H1))⟩
 have fl:(ws.filter nmB).length<=60:=Qa8 (Qc9 _ _) hl;have ol:=Zey ((ws.filter nmB).map Zmj);rw[Qad]at ol;have G:=D.trans (Zc (o:=.lst (ws.filter nmB)) F);refine⟨l,(ws.filter nmB).map Zmj,rfl,SqL.of (by rw[Zmk];exact Za),by rw[Qad];lia,fun a ha=>⟨a,_,rfl,Za,by lia,fun m I hm hp hs=>⟨m,_,rfl,.inl ⟨SqL.of Za,fun p C=>?_⟩⟩⟩⟩;have Y:Z8 H _:=G.trans ((Zc ha).trans (Zc (o:=.lst (I.map V.str)) hm));exact k p _ I (Z8.free Y C) Za (Y.trans (Zc C)) hp hs
inductive XJ(vs:A0)(H:Hp)(Q:VK):Prop
 |mk (f tn:Au) (nm:Ai) (u v:A0):(vs=[.ref f,.ref tn])->(H tn=some (.tup (nm.map V.str)))->(nm.Nodup)->(Zo7 H f nm u v)->(Q (.bl true) H)->XJ vs H Q
def qF(K:Af):Sp:=fun vs H Q _=>XJ vs H Q
theorem qG:Yx P w K mg base CX0 3 t.dt t.du ["found","names"] (qF K):=by
 have C:=xa P base T TB;have D:=jd P base T TB;refine T.dy.go Wl (by rintro _ _ _ _ ⟨_,_,_,_,_,rfl,_⟩;rfl) ?_;rintro cdv A outer s H _ Q E Y ⟨f,Z,nm,u,v,rfl,hn,J,hv,k⟩;have O:=ZK Y;refine⟨_,(Zb (Z9 (WZ (Wc (Wd (Yt (Zp YG (by rfl) T.ah ZF (Zh (qv 0) (Zh (Xw (v:=.ty "tuple") (by rfl) T.ai ZP rfl) Zd))))) (Wc (Zo Ys (Zp Zu (by rfl) T.af ZT (Zh (qv 0) Zd)) Ze (Z3 _)) (WD (Wd (Yt (Zp YG (by rfl) T.ah ZF (Zh (Zq Zr (qv 0) Ze) (Zh (Xw (v:=.ty "str") (by rfl) T.abl Zjl rfl) Zd)))))))))
   (Zf (Zn Xi)) Zv)
   (Zb (Z9 (Zo Ys (Zq Zr (qv 0) Ze) Zl (Z3 _))
   (Zf (Zn (vR (YI Ys (Zp Zu (by rfl) T.af ZT (Zh (qv 0) Zd)) Ze (Z3 _)) (xU (Zj T.ir D Y (Zh (Zq Zr (qv 0) Ze) Zd)))))) Zv)
   (Zb (Z9 (WZ (Wc (Zo vC (Zq Zr (qv 0) Ze) Zl (Z3 _)) (Wc (Zo vC (Zp Zu (by rfl) T.af ZT (Zh (qv 0) Zd)) Ze (Z3 _)) (Wc (Wd (Yt (Zj T.bc C Y (Zh (Zq Zr (qv 0) Ze) Zd)))) (WD (Zo yx (Zq Zr (qv 0) Ze) Ze (Z3 _)))))))
   (Zf (Zn Xi)) Zv)
   (Zb (Z9 (WZ (Wc (Wd (Yt (Zp YG (by rfl) T.ah ZF (Zh (Zq Zr (qv 0) Ze) (Zh (Xw (v:=.ty "dict") (by rfl) T.abp Zll rfl) Zd))))) (WD (Zo vC (Zp vZ (by rfl) T.af ZT (Zh (Zq Zr (qv 0) Ze) Zd)) (Zp Zu (by rfl) T.af ZT (Zh (qv 1) Zd)) (Z3 _)))))
   (Zf (Zn Xi)) Zv)
   (Zb (Yk Qa7 rfl (Xs (qv 1)) (YB 2 Wl.nd)
   (Zb (Z9 (WZ (Wc (Zo (X4 O) (qv 2) (Zq Zr (qv 0) Ze) (by with_unfolding_all rfl)) (WD (Wd (Yt (Zj T.bc C Y (Zh (Wv O (Zq Zr (qv 0) Ze) (qv 2) (fun _ _=>rfl)) Zd)))))))
   (Zf (Zn Xi)) Zv)
   (Zf (Z9 (WZ (Wc (Zo yx (Wv O (Zq Zr (qv 0) Ze) (qv 2) (fun _ _=>rfl)) Ze (Z3 _)) (WD (Zo Zgy (Wv O (Zq Zr (qv 0) Ze) (qv 2) (fun _ _=>rfl)) (Zs Zc4 Ze (Zq Zr (qv 0) Ze)) (Z3 _)))))
   (Zf (Zn Xi)) Zv))))
   (Zf (Zn Xi))))))),?_⟩
 refine L2.let6 ?_;intro U5 U4 U3 U2 U1;obtain⟨l1,l2,_,⟨q,l,ws,G,hq,hp,_⟩|⟨d,w,r,kvs,G,hd,T0,F,hw⟩⟩:=hv
 ·exact⟨_,rfl,_,_,_,_,rfl,.tup G,Ws,_,rfl,ZU ⟨_,rfl,f,_,rfl,.inr (SqT.of G),rfl,_,rfl,ZU ⟨_,rfl,f,_,0,_,rfl,rfl,SqT.of G,rfl,_,_,_,_,rfl,.str _,JX,_,rfl,ZU ⟨_,rfl,f,_,0,_,rfl,rfl,SqT.of G,rfl,rfl,_,rfl,Y4 ⟨_,rfl,f,_,rfl,.inr (SqT.of G),rfl,_,rfl,Y4 ⟨_,rfl,f,_,1,_,rfl,rfl,SqT.of G,rfl,q,prL l,ws,rfl,hq,hp,k⟩⟩⟩⟩⟩⟩
 have w1:=F.w1;refine⟨_,rfl,_,_,_,_,rfl,.tup G,Ws,_,rfl,ZU ⟨_,rfl,f,_,rfl,.inr (SqT.of G),rfl,_,rfl,ZU ⟨_,rfl,f,_,0,_,rfl,rfl,SqT.of G,rfl,_,_,_,_,rfl,.str _,JX,_,rfl,ZU ⟨_,rfl,f,_,0,_,rfl,rfl,SqT.of G,rfl,rfl,_,rfl,?_⟩⟩⟩⟩;refine ZU ⟨_,rfl,f,_,0,_,rfl,rfl,SqT.of G,rfl,rfl,_,rfl,ZU ⟨_,rfl,f,_,rfl,.inr (SqT.of G),rfl,_,rfl,ZU ⟨_,rfl,f,_,1,_,rfl,rfl,SqT.of G,rfl,w,rfl,_,rfl,ZU ⟨_,rfl,f,_,1,_,rfl,rfl,SqT.of G,rfl,_,_,rfl,rfl,_,rfl,xB (fun z=>absurd (Qbh z) (by lia)) fun _=>?_⟩⟩⟩⟩;have hl:kvs.length=(nm.map V.str).length:=by rw[T0.len_nd J,Qad]
 refine⟨_,rfl,f,_,2,_,rfl,rfl,SqT.of G,rfl,_,_,_,_,rfl,.dK hd,vc,_,rfl,ZU ⟨_,rfl,f,_,2,_,rfl,rfl,SqT.of G,rfl,d,_,rfl,.inl hd,_,rfl,Z,_,rfl,.inr (SqT.of hn),rfl,_,rfl,?_⟩⟩;rw[show(!decide (V.int (kvs.length:Int)=V.int ((nm.map V.str).length:Int)))=false by rw[hl,Qal rfl];rfl];refine ZU ⟨_,rfl,Z,rfl,⟨_,SqT.of hn⟩,WX (K:=K) (a:=Z) (xs:=nm.map V.str) (fun i σ H2=>∃u2,σ=[some (.ref f),some (.ref Z),u2]/\H2=H) ⟨none,rfl,rfl⟩ (fun i σ H2 _ ⟨_,_,e⟩=>e ▸ SqT.of hn) ?_ ?_⟩
 ·rintro i x σ H2 hx ⟨u2,rfl,rfl⟩;obtain⟨y,rfl,hy⟩:=kK hx;have I:=Qag hy;have g:Zjs H2 d (.str y) (some (.int (valN (ixG nm y) r:Int))):=.inl ⟨_,.inr y,.inl hd,rfl,(T0.val y I).symm⟩;have bd:=gK r nm y;rw[<-Zgc J I,F.len]at bd;refine Zi ⟨_,rfl,_,rfl,f,_,2,_,rfl,rfl,SqT.of G,rfl,d,_,rfl,g,_,rfl,ZU ⟨_,rfl,f,_,2,_,rfl,rfl,SqT.of G,rfl,_,rfl,d,_,rfl,g,_,rfl,_,rfl,ZU ?_⟩⟩;refine⟨_,rfl,f,_,2,_,rfl,rfl,SqT.of G,rfl,_,rfl,d,_,rfl,g,_,_,rfl,rfl,_,rfl,xB (fun z=>absurd (Qbh z) (by lia)) fun _=>⟨_,rfl,f,_,2,_,rfl,rfl,SqT.of G,rfl,_,rfl,d,_,rfl,g,_,rfl,f,_,1,_,rfl,rfl,SqT.of G,rfl,_,_,rfl,rfl,⟨Qca _,by lia,by decide⟩,_,_,rfl,rfl,_,rfl,xB (fun z=>absurd (Qbh z) ?_) fun _=>⟨_,rfl,rfl⟩⟩⟩;rw[Int.one_mul,Qav];lia
 ·rintro σ H2 ⟨u2,rfl,rfl⟩;exact k
inductive JU(vs:A0)(H:Hp)(Q:VK):Prop
 |mk (t1 t2 dv:Au) (W:Nat) (ys:Ai) (u v:A0) (kvs:Ay) (f:Str->Int):(vs=[.ref t1,.ref t2,.int (W:Int),.ref dv])->(W<=1000000)->(H t1=some (.tup u))->(H t2=some (.tup v))->(Sm ys u)->(Sm ys v)->(Nm3 ys)->(Rd H dv (.dK kvs))->(Tab kvs ys f)->(∀H',SmF H H'->Q (.bl (decide (Xa (2^W) (fun y=>f y%2^W) u=Xa (2^W) (fun y=>f y%2^W) v))) H')->JU vs H Q
def wF(K:Af):Sp:=fun vs H Q _=>JU vs H Q
theorem xj:Yx P w K mg base CX0 3 t.pe t.pf ["one","other","width","values"] (wF K):=by
 have q:=wD P base T TB;have C:=Zce P base T TB;refine T.bx.go qW (by rintro _ _ _ _ ⟨_,_,_,_,_,_,_,_,_,rfl,_⟩;rfl) ?_;rintro cdv A outer s H _ Q E F ⟨t1,t2,dv,W,ys,u,v,kvs,f,rfl,I,h1,h2,D,G,N,hd,T0,k⟩;have hu:=ZK F;refine⟨_,(Zb (Z4 4 qW.nd (Zj T.aaw C F (Zh (qv 3) (Zh (qv 2) Zd))))
   (Zf (Zn (YI Ys (Zj T.di q F (Zh (qv 0) (Zh (qv 2) (Zh (qv 4) Zd)))) (Zj T.di q F (Zh (qv 1) (Zh (qv 2) (Zh (qv 4) Zd)))) (Z3 _))))),?_⟩
 refine L2.let2 ?_;intro U1;refine⟨_,rfl,_,rfl,dv,W,ys,kvs,f,rfl,I,hd,T0,N.nd,N.n3,fun p kws H1 _ hp T1 O=>Zi ?_⟩;have one:∀{ws:A0},Sm ys ws->∃o,Xa (2^W) (fun y=>f y%2^W) ws=[o]:=fun{ws} S=>by
  have h:=J0 (2^W) (fun y=>f y%2^W) ws;rw[S.st]at h;exact List.length_eq_one_iff.mp h
 obtain⟨J,e1⟩:=one D;obtain⟨Z,e2⟩:=one G;have hb:∀y∈ys,0<=f y%2^W/\f y%2^W<2^W:=fun y _=>⟨Qbe _ (Qd6 (YV W)),Qa3 _ (YV W)⟩;refine⟨_,rfl,_,rfl,_,rfl,t1,p,W,10,ys,u,kws,_,J,rfl,I,O.tup h1,by have:=D.ln;lia,hp,Zgb T1,hb,D.wd,D.en,e1,fun H2 Y=>⟨_,rfl,_,rfl,_,rfl,t2,p,W,10,ys,v,kws,_,Z,rfl,I,Y _ _ (O.tup h2),by have:=G.ln;lia,Y _ _ hp,Zgb T1,hb,G.wd,G.en,e2,fun H3 s3=>⟨rfl,?_⟩⟩⟩;have:=k H3 (O.trans (SmF.of (Y.trans s3)));rw[e1,e2]at this;rw[show decide (V.int J=V.int Z)=decide ([J]=[Z]) by simp];exact this
inductive WR(vs:A0)(H:Hp)(Q:VK):Prop
 |mk (m:Au) (nm:Ai) (b:Nat) (nx:Ad) (ot:Ax) (w:Nat) (v:V) (tr:Bool):(vs=[.ref m,.int (w:Int),v])->(M4 H m nm b nx ot)->(Runs nx ot nm.length)->(b<nx.length)->(nx.length<=1000000)->(nm.length<=3)->(nm.Nodup)->(1<=w)->(w<=1000000)->(YY tr v)->((∀r∈ot,∀x∈r,YY tr x))->((∃r,r.length=w/\(∀l∈r,l<2^nm.length)/\Y6 (mN nx) (mB ot v) b r=true))->(∀r d kvs H',xM (mN nx) (mB ot v) b nm.length w r->H d=none->H' d=some (.dK kvs)->Tab kvs nm (fun y=>(valN (ixG nm y) r:Int))->SmF H H'->Q (.ref d) H')->WR vs H Q
def jG(K:Af):Sp:=fun vs H Q _=>WR vs H Q
theorem jH:Yx P w K mg base CX0 4 t.mh t.mi ["machine","width","wanted"] (jG K):=by
 have D:=uk P base T TB;have G_run:=ok_run P base T TB;have C:=GU P base T TB;have F:=zT P base T TB;refine T.my.go Yj (by rintro _ _ _ _ ⟨_,_,_,_,_,_,_,_,rfl,_⟩;rfl) ?_;rintro cdv A outer s H _ Q E hr ⟨m,nm,b,nx,ot,w,v,tr,rfl,M,R,hb,hN,hn3,hnd,hw1,hw2,hv,hk,hex,k⟩;have hu:=ZK hr;refine⟨_,(Zb (Z4 3 Yj.nd (Zq Zr (qv 0) Ze))
   (Zb (Z4 4 Yj.nd (ZC (ku rfl) (by rfl) T.ai ZP (Zh (ZC zf (by rfl) T.au uD (Zh (Zj T.fh F hr (Zh (Zp Zu (by rfl) T.af ZT (Zh (qv 3) Zd)) Zd)) Zd)) Zd)))
   (Zb (wR (i:=5) Yj.nd rfl rfl ({}:ZZ (Zg X6) _ ["machine","width","wanted","names","all_letters","letters","number","row"] "place" ["all_letters"] [4]) (YC rfl T.au (Zh (qv 1) Zd)) (fun _ _ _ _=>XO) (fun _ _ _ _=>(qv 1)))
   (Zb (Yk Qa7 rfl (YC rfl T.au (Zh (Zp Zu (by rfl) T.af ZT (Zh (qv 3) Zd)) Zd)) (YB 6 Yj.nd)
   (Zf (Z4 5 Yj.nd (Zj T.cz C hr (Zh (qv 0) (Zh (qv 5) (Zh (qv 6) (Zh (qv 2) Zd))))))))
   (Zb (Z4 7 Yj.nd (ZC Z6 (by rfl) T.ai ZP (Zh (Y0 ({}:ZZ (Zg X6) _ ["machine","width","wanted","names","all_letters","letters","number","row"] "left" [] []) (XD (qv 5)) (fun _ _ _ _=>XO) (fun _ _ _ _=>(Zq (show IxR _ (Zgo K)from Zr) (qv 0) Ze))) Zd)))
   (Zb (Z9 (Zo vC (Zq Zr (Zj T.abj G_run hr (Zh (qv 0) (Zh (qv 7) Zd))) (XC Xz Ze)) (qv 2) (Z3 _))
   (Zf Zg4) Zv)
   (Zf (Zn (Zj T.vr D hr (Zh (qv 3) (Zh (qv 7) Zd))))))))))),?_⟩
 try dsimp only[L2.cxK,L2.cxK2]
 refine L2.let7 ?_;intro U6 U5 U4 U3 U2 U1;obtain⟨pn,ps,po,h1,hpn,Rs,Ro⟩:=M.ex;refine⟨_,rfl,m,_,0,_,rfl,rfl,SqT.of h1,rfl,Zi ?_⟩;have Y:(nm.map V.str).length=nm.length:=Qad _;have p8:2^nm.length<=8:=Qdf (by decide) hn3 (n:=2);refine⟨_,rfl,pn,_,rfl,.inr (SqT.of hpn),nm.length,congrArg (fun z:Nat=>[V.int (z:Int)]) Y,by lia,_,rfl,fun rg hrg=>⟨rg,2^nm.length,rfl,by rw[Za,Int.natCast_pow];rfl,by lia,fun Z hal=>Zi ?_⟩⟩;have s1:=(Zc (o:=.rng 0 (2^nm.length)) hrg).trans (Zc (o:=.tup ((List.range (2^nm.length)).map fun i:Nat=>V.int (i:Int))) hal);have hal1:upd (upd H rg (.rng 0 (2^nm.length))) Z (.tup ((List.range (2^nm.length)).map fun i:Nat=>V.int (i:Int))) Z=some (.tup ((List.range (2^nm.length)).map Xe)):=Za;generalize upd (upd H rg (.rng 0 (2^nm.length))) Z (.tup ((List.range (2^nm.length)).map fun i:Nat=>V.int (i:Int)))=H1 at *;refine⟨_,rfl,(w:Int),rfl,by lia,by lia,Zdz (n:=(w:Int).toNat) (fun _=>.ref Z) (by rw[Qav];exact Qau (Xf (by lia))) (fun i _ R' hR=>⟨_,rfl,hR⟩) (fun O hlt0=>Zi ?_)⟩;rw[Qav];have s2:=s1.trans (Zc (o:=.lst ((List.range w).map fun _=>V.ref Z)) hlt0);have Lt0:wa (upd H1 O (.lst ((List.range w).map fun _=>V.ref Z))) O (List.replicate w (List.range (2^nm.length))):=by
  refine⟨_,Za,by rw[Qad,Qa5,Qbj],fun i L hi=>?_⟩;obtain⟨h3,rfl⟩:=rep_at hi;exact⟨Z,by rw[Qam,Qdl h3];rfl,Zc hlt0 _ _ hal1⟩
 generalize upd H1 O (.lst ((List.range w).map fun _=>V.ref Z))=H2 at *;have hne:List.replicate w (List.range (2^nm.length))≠[]:=fun z=>by
  have:=congrArg List.length z;rw[Qbj]at this;have:w=0:=this;lia
 obtain⟨r1,q1,q2,q3⟩:=hex;have fr:=Zfw (nx:=mN nx) (ok:=mB ot v) (b:=b) (n:=nm.length) (w:=w) (by lia) ⟨r1,q1,q2,q3⟩;have itok:=fun k=>Zfu (nx:=mN nx) (ok:=mB ot v) (b:=b) hne ⟨r1,q9.mpr ⟨q1,q2⟩,q3⟩ k;have itf:=fun k=>wb (nx:=mN nx) (ok:=mB ot v) (b:=b) (Ls:=List.replicate w (List.range (2^nm.length))) k;have itl:∀k,∀L∈itL (mN nx) (mB ot v) b (List.replicate w (List.range (2^nm.length))) k,L.length<=1000/\∀l∈L,l<2^nm.length:=fun k L J=>by
  obtain⟨L0,f1,f2,f3⟩:=(itf k).2 L J;rw[Qei f1]at f2 f3;rw[Qa5]at f2;exact⟨by lia,fun l hl=>Qcp.mp (f3 l hl)⟩
 refine⟨_,rfl,pn,_,rfl,.inr (SqT.of (s2 _ _ hpn)),_,rfl,by lia,by rw[Y];lia,Wb (lo:=0) (fun i σ H'=>∃(lt:Au) (u6:Option V),σ=[some (.ref m),some (.int (w:Int)),some v,some (.ref pn),some (.ref Z),some (.ref lt),u6,none]/\i<=nm.length/\wa H' lt (itL (mN nx) (mB ot v) b (List.replicate w (List.range (2^nm.length))) i)/\SmF H H') ⟨O,none,rfl,Qbp _,Lt0,SmF.of s2⟩ ?_ ?_⟩
 ·rintro i σ H3 hi ⟨lt,u6,rfl,hil,Lt,s3⟩;rw[Qav,Y]at hi;rw[Qe1];refine Zi ⟨_,rfl,_,rfl,_,rfl,_,rfl,m,lt,nm,b,nx,ot,nm.length,_,i,v,tr,rfl,M.smf s3,R,hb,hN,Lt,(itok i).1,itl i,by rw[(itf i).1,Qbj];exact hw2,by lia,hv,hk,fun p H4 hp Lt4 s4=>Zi ⟨p,_,rfl,hi,Lt4,s3.trans s4⟩⟩
 rintro σ H3 ⟨lt,u6,rfl,hil,⟨as,ha,hal2,hat⟩,s3⟩;rw[Qav,Y]at hal2 hat;have itn:∀L∈itL (mN nx) (mB ot v) b (List.replicate w (List.range (2^nm.length))) nm.length,L≠[]:=by
  obtain⟨_,⟨r2,g1,_⟩,_⟩:=itok nm.length;intro L J z;obtain⟨t,ht⟩:=Qcg J;have go:∀{r:Aj} {Ls:Ad},RIn r Ls->∀(t:Nat),Ls[t]?≠some []:=by
   intro r Ls
   induction Ls generalizing r with
   |nil=>intro _ t h;cases h
   |cons L0 Ls ih=>
    intro h t ht;obtain⟨l,r',rfl,h1,h2⟩:=h.uncons;cases t with
    |zero=>cases ht;cases h1
    |succ t=>exact ih h2 t ht
  exact go g1 t (by rw[ht,z])
 have hdl:as.map (hdV H3)=((itL (mN nx) (mB ot v) b (List.replicate w (List.range (2^nm.length))) nm.length).map fun L=>L.headD 0).map Xe:=by
  refine Qeh fun t=>?_;rw[Qam,Qam,Qam];cases J:(itL (mN nx) (mB ot v) b (List.replicate w (List.range (2^nm.length))) nm.length)[t]? with
  |none=>rw[List.getElem?_eq_none (by have:=List.getElem?_eq_none_iff.mp J;lia)];rfl
  |some L=>
   obtain⟨x,e1,e2⟩:=hat t L J;rw[e1];exact congrArg some (Zkr e2 (itn L (Qag J))).1
 have hasl:as.length=w:=by rw[hal2,(itf _).1,Qbj]
 refine⟨_,rfl,lt,rfl,⟨_,SqL.of ha⟩,comp_map (xs:=as) (hdV H3) (SqL.of ha) (by rw[hasl];exact Qau (Xf (by lia))) (fun x hx R' hR=>?_) (fun l hl=>⟨l,_,rfl,.inl ⟨SqL.of Za,fun I hrw=>Zi ?_⟩⟩)⟩
 ·obtain⟨t,ht⟩:=Qcg hx;have htl:t<as.length:=(Qai.mp ht).1;obtain⟨L,J⟩:∃L,(itL (mN nx) (mB ot v) b (List.replicate w (List.range (2^nm.length))) nm.length)[t]?=some L:=⟨_,Qac (by lia)⟩;obtain⟨y,e1,e2⟩:=hat t L J;rw[ht]at e1;cases e1;obtain⟨e3,e4⟩:=Zkr e2 (itn L (Qag J));rw[e3]at hR;exact⟨_,rfl,y,_,0,_,rfl,rfl,SqT.of e2,e4,hR⟩
 rw[hdl]at hrw ⊢;generalize hrr:(itL (mN nx) (mB ot v) b (List.replicate w (List.range (2^nm.length))) nm.length).map (fun L=>L.headD 0)=r at *;have s4:=(Zc (o:=.lst (r.map Xe)) hl).trans (Zc (o:=.tup (r.map Xe)) hrw);have hr4:upd (upd H3 l (.lst (r.map Xe))) I (.tup (r.map Xe)) I=some (.tup (r.map Xe)):=Za;generalize upd (upd H3 l (.lst (r.map Xe))) I (.tup (r.map Xe))=H4 at *;have s34:=s3.trans (SmF.of s4);obtain⟨nv,MA⟩:=Zna (M.smf s34) R hb;obtain⟨r0,c,er⟩:=vt (r:=r) (fun z=>by have:=fr.len;rw[z]at this;have:0=w:=this;lia);refine⟨_,rfl,_,rfl,m,I,_,_,b,nv,_,_,r,rfl,MA,hr4,fr.lt,by rw[fr.len];exact hw2,fun q H5 hq hq5 s5=>⟨_,rfl,q,_,-1,_,rfl,rfl,SqT.of hq5,by rw[er,Ze9];exact yy _ _,_,rfl,?_⟩⟩;have G:=fr.last;rw[er,Xo]at G;have ev:=Qbh G;have e9:(fun s c=>(ot.getD s []).getD c V.non) (stN nx b r0) c=v:=ev;rw[Zaz,e9];refine⟨zH hv hv,_,rfl,?_⟩;rw[show(!decide (v=v))=false by rw[Qal rfl];rfl];refine ZU ?_;have hr5:=s5 _ _ hr4;have s35:=s34.trans (SmF.of s5);refine⟨_,rfl,_,rfl,pn,I,nm,r.map (fun l:Nat=>(l:Int)),fun y=>(valN (ixG nm y) r:Int),rfl,s35.tup hpn,by rw[hr5,Qb7];rfl,hn3,by rw[Qad,fr.len];exact hw2,fun c hc=>?_,fun i y hy=>?_,fun d kvs H6 hd hd6 T s6=>?_⟩
 ·obtain⟨l,_,rfl⟩:=Qay.mp hc;exact Qca _
 ·rw[gQ];show _=(valN (ixG nm y) r:Int);rw[show ixG nm y=i from JK hnd hy]
 ·exact k r d kvs H6 fr (s35.free hd) hd6 T (s35.trans (SmF.of s6))
inductive xk(vs:A0)(H:Hp)(Q:VK):Prop
 |mk (tw dv kt:Au) (ys:Ai) (ws:A0) (kvs:Ay) (cols:Str->Int) (pl:Nat) (kp:Ak) (o:Int) (lt:Ak):(vs=[.ref tw,.ref dv,.int (pl:Int),.ref kt])->(H tw=some (.tup ws))->(ws.length<=100)->(H dv=some (.dK kvs))->(Ze5 kvs ys cols)->(H kt=some (.tup (kp.map V.int)))->((∀w∈ws,kG ys w))->(YE ws)->(XN ys cols pl kp ws=([o],lt))->(lt.length<=kp.length)->(∀t l H',H t=none->H' t=some (.tup [.int o,.ref l])->H' l=some (.lst (lt.map V.int))->Z8 H H'->Q (.ref t) H')->xk vs H Q
def Zck(K:Af):Sp:=fun vs H Q _=>xk vs H Q
theorem Zcl:Yx P w K mg base CX0 4 t.aar t.aas ["words","columns","place","kept"] (Zck K):=by
 have I:=qY P base T TB;have D:=jD P base T TB;have G:=w9 P base T TB;have F:=j4 P base T TB;have C:=jF P base T TB;refine T.cu.go X8 (by rintro _ _ _ _ ⟨_,_,_,_,_,_,_,_,_,_,_,rfl,_⟩;rfl) ?_;rintro cdv A outer s H _ Q E hr ⟨tw,dv,kt,ys,ws,kvs,cols,pl,kp,o,lt,rfl,ht,hl,hd,hc,hk,hw,he,hst,hkl,k⟩;have hu:=ZK hr;refine⟨_,(Zb (Z4 4 X8.nd (Yq Zd))
   (Zb (Z4 5 X8.nd (Yq Zd))
   (Zb (Yk Qa7 rfl (Zdw rfl T.aab (qv 0)) (YB 6 X8.nd)
   (Zb (Z4 7 X8.nd (Zj T.mx C hr (Zh (qv 4) (Zh (qv 6) Zd))))
   (Zf (Z9 (Yt (Zj T.dh I hr (Zh (qv 6) Zd)))
   (Zb (Z4 8 X8.nd (XC Xz (Zq Zr (qv 3) (Zp Zu (by rfl) T.af ZT (Zh (qv 5) Zd)))))
   (Zb (Yi (YD Qaw Qa0 Qa1 ZH (qv 5) (Zh (Zj T.pj G hr (Zh (qv 6) (Zh (qv 7) (Zh (qv 8) Zd)))) Zd)))
   (Zf (Yi (YD Qaw Qa0 Qa1 ZH (qv 4) (Zh (Zj T.mw D hr (Zh (qv 6) (Zh (qv 7) (Zh (qv 8) (Zh (Zq Z2 (qv 5) (XC Xz Ze)) Zd))))) Zd)))))) (Zf (Z9 (Yt (Zp YG (by rfl) T.ah ZF (Zh (qv 6) (Zh (Xw (v:=.ty "int") (by rfl) T.mz vO rfl) Zd))))
   (Zf (Yi (YD Qaw Qa0 Qa1 ZH (qv 4) (Zh (XC Xz (Zs Xc (Zs jI (qv 6) (qv 2)) Ze)) Zd)))) (Zf (Z9 (Zo (qi hu) (qv 6) (qv 1) (by with_unfolding_all rfl))
   (Zf (Yi (YD Qaw Qa0 Qa1 ZH (qv 4) (Zh (Wv hu (qv 1) (qv 6) (fun _ _=>rfl)) Zd)))) (Zf (Yi (YD Qaw Qa0 Qa1 ZH (qv 4) (Zh (Zj T.mn F hr (Zh (qv 6) (Zh (qv 7) Zd))) Zd))))))))))))
   (Zf (Zn (Yc (Zh (qJ Qaw Qdt Qdu jK (qv 4)) (Zh (qv 5) Zd)))))))),?_⟩
 try dsimp only[L2.cxK,L2.cxK2]
 refine L2.let4 ?_;intro U3 U2 U1;refine⟨Zks,fun st Y=>Zi ⟨Zks,fun O hla0=>Zi ?_⟩⟩;have s1:=Zc (o:=.lst []) Y;have s2:=s1.trans (Zc (o:=.lst []) hla0);have hsl:st≠O:=Zm (Za (H:=H) (a:=st) (o:=.lst [])) hla0;have hlaH:H O=none:=s1.free hla0;refine⟨_,rfl,tw,_,rfl,SqT.of (s2 _ _ ht),Zdx (K:=K) (a:=tw) (xs:=ws) (fun i σ H2=>∃u6 u7 u8,σ=[some (.ref tw),some (.ref dv),some (.int (pl:Int)),some (.ref kt),some (.ref st),some (.ref O),u6,u7,u8]/\i<=ws.length/\H2 st=some (.lst ((XN ys cols pl kp (ws.drop (ws.length-i))).1.map V.int).reverse)/\H2 O=some (.lst ((XN ys cols pl kp (ws.drop (ws.length-i))).2.map V.int))/\Z8 H H2) ⟨none,none,none,rfl,Qbp _,?_,?_,s2⟩ (fun i σ H2 _ ⟨_,_,_,_,_,_,_,s⟩=>SqT.of (s _ _ ht)) ?_ ?_⟩
 ·rw[Qgo,Qfa,Zk hsl];exact Za
 ·rw[Qgo,Qfa];exact Za
 ·rintro i x σ H2 hx ⟨u6,u7,u8,rfl,hi0,h2s,h2l,s3⟩;obtain⟨hi,hx⟩:=Zj6 hx;have ed:ws.drop (ws.length-(i+1))=x::ws.drop (ws.length-i):=by
   rw[show ws.length-(i+1)=ws.length-1-i by lia,Qby (by lia),show ws.length-1-i+1=ws.length-i by lia];congr 1;exact(Qai.mp hx).2
  have hwx:=hw x (Qag hx);have hen:=Ga ws (ws.length-(i+1)) he;have hmo:=kI ys cols pl kp ws (ws.length-(i+1));rw[hst]at hmo;rw[ed]at hen hmo ⊢;have hln:=yT (ys:=ys) (cols:=cols) (pl:=pl) (kp:=kp) (ws.drop (ws.length-i)) fun w h=>hw w (Qdg h);have hle2:=yU (ws.drop (ws.length-i));rw[Qbt]at hle2;have hmo2:=kH ys cols pl kp x (ws.drop (ws.length-i));have hlb:=Zak ys cols pl kp (ws.drop (ws.length-i));rw[Qbt]at hlb;generalize ws.drop (ws.length-i)=r at *;have hn:=hen.1;have eC:∀z:V,XN ys cols pl kp (z::r)=match z with
   |.str y=>
    if y∈allR then(okI y ((XN ys cols pl kp r).1.take (npw z)) (-(kp.getD (XN ys cols pl kp r).2.length 0)) (ktI y ((XN ys cols pl kp r).1.take (npw z)) (-(kp.getD (XN ys cols pl kp r).2.length 0)))::(XN ys cols pl kp r).1.drop (npw z),(XN ys cols pl kp r).2++[ktI y ((XN ys cols pl kp r).1.take (npw z)) (-(kp.getD (XN ys cols pl kp r).2.length 0))])
    else if y∈ys then(cols y::(XN ys cols pl kp r).1.drop (npw z),(XN ys cols pl kp r).2)
    else(oaI y ((XN ys cols pl kp r).1.take (npw z))::(XN ys cols pl kp r).1.drop (npw z),(XN ys cols pl kp r).2)
   |.int z'=>(-(bt z' pl)::(XN ys cols pl kp r).1.drop (npw z),(XN ys cols pl kp r).2)
   |_=>XN ys cols pl kp r:=fun z=>by cases z<;>rfl
  have eX:=eC x;generalize XN ys cols pl kp r=P at *;obtain⟨q,l2⟩:=P;try dsimp only at *
  have hkx:x=kV (keyOf x)/\Xb x=true:=by
   rcases hwx with⟨y,rfl,_⟩|⟨y,rfl,_⟩|⟨y,rfl,_⟩|⟨z,rfl,_⟩<;>exact⟨rfl,rfl⟩
  refine⟨_,rfl,_,rfl,st,q.map V.int,x,rfl,h2s,hkx.1,by rw[Qad];lia,by rw[Qad];lia,fun pp H3 Z hpp J o3=>Zi ?_⟩;rw[<-Qe7]at hpp;rw[<-Qfm]at J;have h3l:=o3 _ _ h2l hsl.symm;have s4:Z8 H H3:=fun b o e=>o3 b o (s3 b o e) (Zm e Y);have hln3:(q.take (npw x)).length=npw x:=by rw[Qas];lia
  have hps:pp≠st:=fun z=>by rw[z,h2s]at Z;cases Z
  have hpl2:pp≠O:=fun z=>by rw[z,h2l]at Z;cases Z
  refine⟨_,rfl,x,rfl,hkx.2,_,rfl,?_⟩;have sml:((q.drop (npw x)).map V.int).reverse.length<sizeLine:=by
   rw[Qc6,Qad,Qbt];exact Zy (by lia)
  have fin:∀(v:Int) (Hx:Hp),XN ys cols pl kp (x::r)=(v::q.drop (npw x),l2)->Z8 H3 Hx->upd Hx st (.lst (((q.drop (npw x)).map V.int).reverse++[.int v])) st=some (.lst ((XN ys cols pl kp (x::r)).1.map V.int).reverse)/\upd Hx st (.lst (((q.drop (npw x)).map V.int).reverse++[.int v])) O=some (.lst ((XN ys cols pl kp (x::r)).2.map V.int))/\Z8 H (upd Hx st (.lst (((q.drop (npw x)).map V.int).reverse++[.int v]))):=fun v Hx e sx=>by
   rw[e];refine⟨by rw[Za,Qbx,Qcx],by rw[Zk hsl.symm];exact sx _ _ h3l,ZY (s4.trans sx) Y⟩
  rcases hwx with⟨y,rfl,hy,hny,hn1,hn2⟩|⟨y,rfl,hy,hna,hny,hnp⟩|⟨y,rfl,hy,hna,hnp⟩|⟨z,rfl,hz,hnp⟩
  ·show if inV (.str y) (allR.map V.str)=true then _ else _
   rw[ZL,Qal hy];have eX:XN ys cols pl kp (.str y::r)=(okI y (q.take (npw (.str y))) (-(kp.getD l2.length 0)) (ktI y (q.take (npw (.str y))) (-(kp.getD l2.length 0)))::q.drop (npw (.str y)),l2++[ktI y (q.take (npw (.str y))) (-(kp.getD l2.length 0))]):=by
    rw[eX];exact Qba hy
   have hkk:l2.length<kp.length:=by
    rw[eX]at hmo;simp only[Qaf,Qbu,Qed]at hmo;lia
   refine Y4 ⟨_,rfl,_,rfl,O,_,rfl,.inl (SqL.of h3l),kt,_,_,.int (kp.getD l2.length 0),rfl,rfl,SqT.of (s4 _ _ hk),?_,_,rfl,?_⟩
   ·rw[Qad];exact Z5 _ rfl hkk
   try dsimp only
   generalize -(kp.getD l2.length 0)=hh at *;refine Zi ?_;refine⟨_,rfl,.inl ⟨rfl,_,SqL.of h3l⟩,_,rfl,_,rfl,_,rfl,y,pp,q.take (npw (.str y)),hh,rfl,hpp,by lia,hy,(fun h=>by have:=hn2 h;lia),fun H4 s5=>⟨O,_,_,rfl,rfl,s5 _ _ h3l,?_,?_⟩⟩
   ·rw[Qad];exact Zy (by lia)
   have h5s:upd H4 O (.lst (l2.map V.int++[.int (ktI y (q.take (npw (.str y))) hh)])) st=some (.lst ((q.drop (npw (.str y))).map V.int).reverse):=by rw[Zk hsl];exact s5 _ _ J
   have h5p:upd H4 O (.lst (l2.map V.int++[.int (ktI y (q.take (npw (.str y))) hh)])) pp=some (.lst ((q.take (npw (.str y))).map V.int)):=by rw[Zk hpl2];exact s5 _ _ hpp
   have h5l:upd H4 O (.lst (l2.map V.int++[.int (ktI y (q.take (npw (.str y))) hh)])) O=some (.lst (l2.map V.int++[.int (ktI y (q.take (npw (.str y))) hh)])):=Za;have s6:Z8 H (upd H4 O (.lst (l2.map V.int++[.int (ktI y (q.take (npw (.str y))) hh)]))):=ZY (s4.trans s5) hlaH;generalize upd H4 O (.lst (l2.map V.int++[.int (ktI y (q.take (npw (.str y))) hh)]))=H5 at *;refine⟨_,rfl,.inl ⟨rfl,_,SqL.of h5s⟩,_,rfl,_,rfl,_,rfl,_,rfl,1,rfl,O,_,-1,.int (ktI y (q.take (npw (.str y))) hh),rfl,rfl,SqL.of h5l,yy _ _,y,pp,q.take (npw (.str y)),hh,_,rfl,h5p,by lia,hy,(fun h=>by have:=hn2 h;lia),fun H6 s7=>⟨st,_,_,rfl,rfl,s7 _ _ h5s,sml,_,_,_,rfl,hi,?_,?_,ZY (s6.trans s7) Y⟩⟩
   ·rw[Za,eX,Qbx,Qcx]
   ·rw[Zk hsl.symm,eX,Qbd];exact s7 _ _ h5l
  ·show if inV (.str y) (allR.map V.str)=true then _ else _
   rw[ZL,Qaj hna];have eX:XN ys cols pl kp (.str y::r)=(oaI y (q.take (npw (.str y)))::q.drop (npw (.str y)),l2):=by
    rw[eX];show(if y∈allR then _ else if y∈ys then _ else _)=_;rw[Qa4 hna,Qa4 hny]
   refine ZU ⟨_,rfl,_,_,_,_,rfl,.str y,YH,_,rfl,ZU ⟨_,rfl,_,rfl,dv,Yd kvs (.inr y),rfl,.inl ⟨kvs,.inr y,.inl (s4 _ _ hd),rfl,rfl⟩,_,rfl,?_⟩⟩;show if(Yd kvs (.inr y)).isSome=true then _ else _;rw[hc.2 y hny];refine ZU ⟨_,rfl,.inl ⟨rfl,_,SqL.of J⟩,_,rfl,_,rfl,y,pp,q.take (npw (.str y)),rfl,hpp,hy,by rw[hln3,hnp],fun H4 s5=>?_⟩;obtain⟨f1,f2,f3⟩:=fin _ H4 eX s5;exact⟨st,_,_,rfl,rfl,s5 _ _ J,sml,_,_,_,rfl,hi,f1,f2,f3⟩
  ·show if inV (.str y) (allR.map V.str)=true then _ else _
   rw[ZL,Qaj hna];have eX:XN ys cols pl kp (.str y::r)=(cols y::q.drop (npw (.str y)),l2):=by
    rw[eX];show(if y∈allR then _ else if y∈ys then _ else _)=_;rw[Qa4 hna,Qba hy]
   refine ZU ⟨_,rfl,_,_,_,_,rfl,.str y,YH,_,rfl,ZU ⟨_,rfl,_,rfl,dv,Yd kvs (.inr y),rfl,.inl ⟨kvs,.inr y,.inl (s4 _ _ hd),rfl,rfl⟩,_,rfl,?_⟩⟩;show if(Yd kvs (.inr y)).isSome=true then _ else _;rw[hc.1 y hy];obtain⟨f1,f2,f3⟩:=fin _ H3 eX (Z8.refl _);exact Y4 ⟨_,rfl,.inl ⟨rfl,_,SqL.of J⟩,_,rfl,_,rfl,dv,_,rfl,.inl ⟨kvs,.inr y,.inl (s4 _ _ hd),rfl,(hc.1 y hy).symm⟩,st,_,_,rfl,rfl,J,sml,_,_,_,rfl,hi,f1,f2,f3⟩
  ·show if inV (.int z) (allR.map V.str)=true then _ else _
   rw[yV];refine ZU ⟨_,rfl,_,_,_,_,rfl,.int z,XB,_,rfl,Y4 ⟨_,rfl,.inl ⟨rfl,_,SqL.of J⟩,_,rfl,_,rfl,_,_,rfl,rfl,Qca pl,_,_,rfl,rfl,_,rfl,?_⟩⟩;have ev:-(Builtin.bitAnd (z/2^(pl:Int).toNat) 1)=-(bt z pl):=by
    rw[and_1,Qav];rfl
   try dsimp only
   rw[ev];obtain⟨f1,f2,f3⟩:=fin _ H3 eX (Z8.refl _);exact⟨st,_,_,rfl,rfl,J,sml,_,_,_,rfl,hi,f1,f2,f3⟩
 ·rintro σ H2 ⟨u6,u7,u8,rfl,hi0,h2s,h2l,s3⟩;rw[Qff,Qdp,hst]at h2s h2l;refine⟨_,rfl,.inl ⟨rfl,_,SqL.of h2s⟩,st,_,.int o,rfl,rfl,h2s,rfl,_,rfl,uy,fun tt htt=>?_⟩;have hlt:upd H2 st (.lst []) O=some (.lst (lt.map V.int)):=by rw[Zk hsl.symm];exact h2l
  have s5:Z8 H (upd H2 st (.lst [])):=ZY s3 Y;exact k tt O _ (s5.free htt) Za (Zc htt _ _ hlt) (s5.trans (Zc htt))
inductive XW(P:An)(w:Ar)(K:Af)(mg:Ae)(base:Heap)(vs:A0)(H:Hp)(Q:VK):Prop
 |mk (κ:Type) (dq:DecidableEq κ) (sk:SK κ) (pn f:Au) (nm:Ai) (b:κ) (bv:V) (nx:κ->List κ) (ot:κ->List V) (U:List κ) (τ:Sp):(vs=[.ref pn,bv,.ref f])->(H pn=some (.tup (nm.map V.str)))->(sk.at_ H b bv)->(b∈U)->((∀s∈U,(nx s).length<=8/\(ot s).length<=8/\∀x∈nx s,x∈U))->(U.length<=1000000)->(nm.length<=3)->(Xr P w K mg base 12 f H τ)->((∀(s:κ) (sv:V) (H1:Hp) (Q':VK),s∈U->sk.at_ H1 s sv->Z8 H H1->(∀t r1 r2 ws H2,H2 t=some (.tup [.ref r1,.ref r2])->SqF H1 H2 r1 ws->StA sk H2 (nx s) ws->SqF H1 H2 r2 (ot s)->Z8 H1 H2->Q' (.ref t) H2)->τ [sv] H1 Q' E0))->(∀p sts m (l:List κ) ws H',BfE nx b l->H' p=some (.tup [.ref sts,.ref m])->H sts=none->H' sts=some (.lst ws)->StA sk H' l ws->M4 H' m nm 0 (rnG nx l) (l.map ot)->Z8 H H'->Q (.ref p) H')->XW P w K mg base vs H Q
def x8(P:An)(w:Ar)(K:Af)(mg:Ae)(base:Heap):Sp:=fun vs H Q _=>XW P w K mg base vs H Q
theorem WS:Yx P w K mg base CX0 13 t.ff t.fg ["names","begin","step_of"] (x8 P w K mg base):=by
 have F:=zV P base T TB;refine T.ao.go Yb (by rintro _ _ _ _ ⟨_,_,_,_,_,_,_,_,_,_,_,_,rfl,_⟩;rfl) ?_;rintro cdv A outer s H _ Q E hr ⟨κ,_,sk,pn,f,nm,b,bv,nx,ot,U,τ,rfl,hpn,hbv,hb,hU,h2,hn3,hc,hτ,k⟩;have hu:=ZK hr;refine⟨_,(Zb (Z4 3 Yb.nd (Yq (Zh (qv 1) Zd)))
   (Zb (Z4 4 Yb.nd (QE.or (Zep (uY hr) (qv 1) Ze) (gp (yM (qv 1) Ze gn) rfl rfl (fun z=>nomatch z) (by decide))))
   (Zb (Z4 5 Yb.nd (Yq Zd))
   (Zb (Z4 6 Yb.nd (Yq Zd))
   (Zb (uF Qa7 (Zo yx (Zp Zu (by rfl) T.af ZT (Zh (qv 5) Zd)) (Zp Zu (by rfl) T.af ZT (Zh (qv 3) Zd)) (Z3 _))
   (Zb (Z4 7 Yb.nd (Zhl (k:=12) 2 (hr.mono (by decide)) (Zh (Zq Z2 (qv 3) (Zp Zu (by rfl) T.af ZT (Zh (qv 5) Zd))) Zd)))
   (Zb (Yi (YD Qaw Qa0 Qa1 ZH (qv 5) (Zh (ZC Z6 (by rfl) T.ai ZP (Zh (Y0 ({}:ZZ (Zg XG) _ ["names","begin","step_of","states","numbers","steps","out","told"] "state" ["states","numbers"] [3,4]) (QI.or (XD (Zq Zr (qv 7) Ze)) (Xs (Zq Zr (qv 7) Ze))) (fun _ _ _ _=>XO) (fun _ _ _ _=>(Zj T.il F hr (Zh (qv 0) (Zh (qv 1) (Zh (qv 2) Zd)))))) Zd)) Zd)))
   (Zf (Yi (YD Qaw Qa0 Qa1 ZH (qv 6) (Zh (ZC Z6 (by rfl) T.ai ZP (Zh (Zq Zr (qv 7) Ze) Zd)) Zd)))))))
   (Zf (Zn (Yc (Zh (qv 3) (Zh (Yc (Zh (ZC Z6 (by rfl) T.ai ZP (Zh (qv 0) Zd)) (Zh Ze (Zh (ZC Z6 (by rfl) T.ai ZP (Zh (qv 5) Zd)) (Zh (ZC Z6 (by rfl) T.ai ZP (Zh (qv 6) Zd)) Zd))))) Zd)))))))))),?_⟩
 try dsimp only[L2.cxK,L2.cxK2]
 refine L2.let6 ?_;intro U5 U4 U3 U2 U1;have hr:∀s∈U,∀x∈nx s,x∈U:=fun s h=>(hU s h).2.2;refine⟨_,rfl,Zcm,fun st hst=>?_⟩;have s1:=Zc (o:=.lst [bv]) hst;refine Zi ?_;have begun:∀(nd:Au) (H3:Hp),H nd=none->H3 st=some (.lst [bv])->sk.dic H3 nd [b]->sk.at_ H3 b bv->Z8 H H3->U2 {nx:=fun _ H'=>Q .non H',rt:=Q} [some (.ref pn),some bv,some (.ref f),some (.ref st),some (.ref nd),none,none,none] H3:=by
  intro nd H3 hndH hst3 hnd3 hbv3 s3;obtain⟨ond,hond,ndT,ndL⟩:=SK.ne hnd3;refine⟨Zks,fun pp hpp=>Zi ⟨Zks,fun D hpo=>Zi ?_⟩⟩;have sp:=Zc (o:=.lst []) hpp;have so:=sp.trans (Zc (o:=.lst []) hpo);have hppH:H pp=none:=s3.free hpp;have hpoH:H D=none:=s3.free (sp.free hpo);have pst:pp≠st:=(Zm hst3 hpp).symm;have pnd:pp≠nd:=(Zm hond hpp).symm;have ppo:pp≠D:=Zm Za hpo;have ost:D≠st:=(Zm (sp _ _ hst3) hpo).symm;have oNd:D≠nd:=(Zm (sp _ _ hond) hpo).symm;have rl:∀{H:Hp} {zs:A0} {i:Nat},Y7 H zs (jk nx b i)->zs.length=i:=fun z=>by
   have:=z.1;unfold jk at this;rw[Qad,Qa5]at this;exact this
  have ol:∀{H:Hp} {zs:A0} {i:Nat},Y7 H zs (ve nx ot b i)->zs.length=i:=fun z=>by
   have:=z.1;unfold ve at this;rw[Qad,Qa5]at this;exact this
  have G:∀{Ha Hb:Hp},Z8 Ha Hb->∀b xs,Ha b=some (.tup xs)->Hb b=some (.tup xs):=fun s b xs e=>s _ _ e;refine Zew (fun σ H2=>∃(i:Nat) (u7:Option V) (zs os ws:A0),σ=[some (.ref pn),some bv,some (.ref f),some (.ref st),some (.ref nd),some (.ref pp),some (.ref D),u7]/\H2 st=some (.lst ws)/\StA sk H2 (bfN nx b i) ws/\sk.dic H2 nd (bfN nx b i)/\H2 pp=some (.lst zs)/\H2 D=some (.lst os)/\Y7 H2 zs (jk nx b i)/\Y7 H2 os (ve nx ot b i)/\(∀j,j<i->j<(bfN nx b j).length)/\i<=(bfN nx b i).length/\Z8 H H2) (fun _ H2=>match H2 pp with|some (.lst zs)=>U.length-zs.length|_=>0) ⟨0,none,[],[],[bv],rfl,so _ _ hst3,StA.one (SK.keep hbv3 (G so)),SK.stay hnd3 (fun o e=>so _ _ e) (G so),Zc hpo _ _ Za,Za,Y7.nil,Y7.nil,(fun j hj=>absurd hj (Qeg _)),Qbp _,s3.trans so⟩ ?_;rintro σ H4 ⟨i,u7,zs,os,ws,rfl,Y,hA4,hnd4,J,hpo4,Rz,Ro,hgo,hil,s4⟩;have hzl:=rl Rz;have hol:=ol Ro;have hlen:=Zap hb hr i;have hnod:=GC (nx:=nx) (b:=b) i;have hinU:=gG hb hr i;refine⟨_,rfl,pp,_,rfl,.inl (SqL.of J),_,rfl,st,_,rfl,.inl (SqL.of Y),_,_,rfl,rfl,_,rfl,?_⟩;rw[hzl,hA4.1];refine xB (fun hlt=>?_) (fun hlt=>?_)
  ·have hlt':i<(bfN nx b i).length:=by
    have:=Qbh hlt;lia
   obtain⟨si,hsi⟩:∃si,(bfN nx b i)[i]?=some si:=⟨_,Qac hlt'⟩;have hsU:si∈U:=hinU _ (Qag hsi);obtain⟨r8,o8,rU⟩:=hU si hsU;obtain⟨sv,hsv,hat⟩:=hA4.2 i si hsi;have eR:=Zbu (nx:=nx) (b:=b) hsi;have eO:=Zbv (nx:=nx) (ot:=ot) (b:=b) hsi;have eS:=vd (nx:=nx) (b:=b) hsi;refine⟨fun σ' H'=>∃(u7:Option V) (zs' os' C:A0),σ'=[some (.ref pn),some bv,some (.ref f),some (.ref st),some (.ref nd),some (.ref pp),some (.ref D),u7]/\H' st=some (.lst C)/\StA sk H' (bfN nx b (i+1)) C/\sk.dic H' nd (bfN nx b (i+1))/\H' pp=some (.lst zs')/\H' D=some (.lst os')/\Y7 H' zs' (jk nx b (i+1))/\Y7 H' os' (ve nx ot b (i+1))/\Z8 H H',?_,?_⟩
   ·rintro σ' H' ⟨u8,zs',os',C,rfl,g1,gA,g2,g3,g4,g5,g6,s5⟩;have hpre:(bfN nx b i).length<=(bfN nx b (i+1)).length:=by
     obtain⟨r,e⟩:=Gy (nx si) (bfN nx b i);rw[eS,e,Qaf];lia
    refine⟨U.length-(i+1),?_,?_,i+1,u8,zs',os',C,rfl,g1,gA,g2,g3,g4,g5,g6,fun j hj=>?_,by lia,s5⟩
    ·rw[J];show U.length-(i+1)<U.length-zs.length;lia
    ·rw[g3];show _=U.length-zs'.length;rw[rl g5]
    ·by_cases hji:j=i
     ·rw[hji];exact hlt'
     ·exact hgo j (by lia)
   ·refine⟨f,τ,rfl,hc.frz s4.frz,_,rfl,_,rfl,pp,_,rfl,.inl (SqL.of J),st,_,_,sv,rfl,rfl,SqL.of Y,by rw[hzl];exact Ya hsv,ql.refl _,hτ si sv H4 _ hsU hat s4 fun tt r1 r2 ws0 H5 htt hr1 hA5 hr2 s5=>?_⟩;refine Zi ?_;generalize hl0:bfN nx b i=l0 at *;have hst5:=s5 _ _ Y;have hnd5:sk.dic H5 nd l0:=SK.stay hnd4 (fun o e=>s5 _ _ e) (G s5);have hpp5:=s5 _ _ J;have hpo5:=s5 _ _ hpo4;obtain⟨ond4,hond4,nd4T,nd4L⟩:=SK.ne hnd4;have ndn:∀{r:Au} {ys:A0},SqF H4 H5 r ys->r≠st/\r≠nd/\r≠pp/\r≠D:=fun{r ys} z=>by
     have lst:∀{q:Au} {o:HO},H4 q=some o->(∀xs,o≠.tup xs)->r≠q:=fun{q o} e ht e2=>by
      subst e2;rcases z with z|⟨_,z⟩
      ·rw[s5 _ _ e]at z;exact ht ys (Option.some.inj z)
      ·rw[e]at z;cases z
     exact⟨lst Y (fun _ z=>nomatch z),lst hond4 nd4T,lst J (fun _ z=>nomatch z),lst hpo4 fun _ z=>nomatch z⟩
    obtain⟨rst,rnd,_,_⟩:=ndn hr1;refine⟨_,rfl,.inl ⟨rfl,_,SqL.of hpp5⟩,?_⟩;have hr1':H5 r1=some (.tup ws0)\/H5 r1=some (.lst ws0):=hr1.imp id (fun z=>z.1);have w8:ws0.length<=8:=by rw[hA5.1];exact r8
    refine Zie (a:=r1) (xs:=ws0) (fun R hR=>⟨_,rfl,tt,_,0,_,rfl,rfl,SqT.of htt,rfl,hR⟩) hr1' (fun j zs H'=>zs=((nx si).take j).map (fun x=>Xe ((bfN nx b (i+1)).idxOf x))/\(∃C,H' st=some (.lst C)/\StA sk H' (((nx si).take j).foldl Yy l0) C)/\sk.dic H' nd (((nx si).take j).foldl Yy l0)/\(∀b o,H5 b=some o->b≠st->b≠nd->H' b=some o)/\∀b,H5 b=none->H' b=none) ⟨rfl,⟨ws,hst5,hA4.keep (G s5)⟩,hnd5,(fun _ _ e _ _=>e),fun _ e=>e⟩ ?_ ?_ ?_ ?_
    ·rintro j zs Z ⟨rfl,_⟩;rw[Qad,Qas];exact Qau (Zy (by lia))
    ·rintro j zs Z ⟨_,_,_,g3,_⟩ o e;exact g3 _ _ e rst rnd
    ·rintro j x zs Z R hR hx ⟨rfl,⟨C,g1,gA⟩,g2,g3,g4⟩;have hj:j<(nx si).length:=by rw[<-hA5.1];exact(Qai.mp hx).1
     obtain⟨s',hs'⟩:∃s',(nx si)[j]?=some s':=⟨_,Qac hj⟩;have tp6:∀b xs,H5 b=some (.tup xs)->Z b=some (.tup xs):=fun b xs e=>g3 _ _ e (X9 e hst5 (fun z=>nomatch z)) (fun z=>by rw[z,s5 _ _ hond4]at e;exact nd4T xs (Option.some.inj e));obtain⟨v',hv',hat'⟩:=hA5.2 j s' hs';rw[hx]at hv';cases hv';have hat6:=SK.keep hat' tp6;have e1:((nx si).take (j+1)).foldl Yy l0=Yy (((nx si).take j).foldl Yy l0) s':=by
      rw[take_snoc hs',Qc8];rfl
     have e2:(bfN nx b (i+1)).idxOf s'=(Yy (((nx si).take j).foldl Yy l0) s').idxOf s':=by
      have e3:(nx si).foldl Yy l0=((nx si).drop (j+1)).foldl Yy (((nx si).take (j+1)).foldl Yy l0):=by rw[<-Qc8,Qbz]
      obtain⟨r,e4⟩:=Gy ((nx si).drop (j+1)) (((nx si).take (j+1)).foldl Yy l0);rw[eS,e3,e4,e1,Zen (xF.mpr (.inr rfl))]
     have hnj:(((nx si).take j).foldl Yy l0).Nodup:=zB _ _ hnod;have hlj:(((nx si).take j).foldl Yy l0).length<10000000:=by
      have:=Zff ((nx si).take j) l0;rw[Qas]at this;lia
     have ew:((nx si).take (j+1)).map (fun x=>Xe ((bfN nx b (i+1)).idxOf x))=((nx si).take j).map (fun x=>Xe ((bfN nx b (i+1)).idxOf x))++[Xe ((bfN nx b (i+1)).idxOf s')]:=by
      rw[take_snoc hs',Qbd];rfl
     rw[ew,e1]at hR;rw[e2]at hR;generalize ((nx si).take j).foldl Yy l0=l' at *;refine yesT ⟨_,rfl,_,rfl,_,rfl,κ,_,sk,x,st,nd,s',l',C,rfl,g1,gA.1,g2,hat6,hnj,hlj,fun H7 ws7 q1 q0 q2 q3 q4=>hR _ _ ⟨rfl,⟨ws7,q1,?_⟩,q2,(fun b o e h1 h2=>q3 _ _ (g3 b o e h1 h2) h1 h2),fun b e=>q4 _ (g4 b e)⟩⟩;have tp7:∀b xs,Z b=some (.tup xs)->H7 b=some (.tup xs):=fun b xs e=>q3 _ _ e (X9 e g1 (fun z=>nomatch z)) fun z=>by
      obtain⟨o,e7,h7,_⟩:=SK.ne g2;rw[z,e7]at e;exact h7 xs (Option.some.inj e)
     rcases q0 with⟨hm,rfl⟩|⟨hm,rfl⟩
     ·rw[show Yy l' s'=l' from Qba hm];exact gA.keep tp7
     ·rw[show Yy l' s'=l'++[s']from Qa4 hm];exact(gA.keep tp7).snoc (SK.keep hat6 tp7)
    ·rintro zs1 Z ⟨rfl,⟨C,g1,gA⟩,g2,g3,g4⟩ l hl;rw[hA5.1,Qbf]at g2 gA ⊢;rw[<-eS]at g2 gA;have tp6:∀{c:Au} {ys:A0},H5 c=some (.tup ys)->Z c=some (.tup ys):=fun{c ys} e=>g3 _ _ e (X9 e hst5 (fun z=>nomatch z)) (fun z=>by rw[z,s5 _ _ hond4]at e;exact nd4T ys (Option.some.inj e));have hpp6:=g3 _ _ hpp5 pst pnd;have hpo6:=g3 _ _ hpo5 ost oNd;have htt6:=tp6 htt;have I:Z r2=some (.tup (ot si))\/Z r2=some (.lst (ot si)):=by
      obtain⟨z1,z2,_⟩:=ndn hr2;rcases hr2 with z|⟨z,_⟩
      ·exact .inl (g3 _ _ z z1 z2)
      ·exact .inr (g3 _ _ z z1 z2)
     have ndr2:=ndn hr2;refine⟨l,_,rfl,.inl ⟨SqL.of Za,fun q hq=>?_⟩⟩;have sl:=Zc (o:=.lst ((nx si).map fun x=>Xe ((bfN nx b (i+1)).idxOf x))) hl;have sq:=sl.trans (Zc (o:=.tup ((nx si).map fun x=>Xe ((bfN nx b (i+1)).idxOf x))) hq);have hqp:q≠pp:=(Zm (sl _ _ hpp6) hq).symm;have hqo:q≠D:=(Zm (sl _ _ hpo6) hq).symm;refine⟨pp,_,_,rfl,rfl,sq _ _ hpp6,Xf (by lia),?_⟩;have k8:∀c o,Z c=some o->c≠pp->upd (upd (upd Z l (.lst ((nx si).map fun x=>Xe ((bfN nx b (i+1)).idxOf x)))) q (.tup ((nx si).map fun x=>Xe ((bfN nx b (i+1)).idxOf x)))) pp (.lst (zs++[.ref q])) c=some o:=fun c o e hc=>by
      rw[Zk hc];exact sq _ _ e
     have hq8:upd (upd (upd Z l (.lst ((nx si).map fun x=>Xe ((bfN nx b (i+1)).idxOf x)))) q (.tup ((nx si).map fun x=>Xe ((bfN nx b (i+1)).idxOf x)))) pp (.lst (zs++[.ref q])) q=some (.tup ((nx si).map fun x=>Xe ((bfN nx b (i+1)).idxOf x))):=by
      rw[Zk hqp];exact Za
     have hp8:=Za (H:=upd (upd Z l (.lst ((nx si).map fun x=>Xe ((bfN nx b (i+1)).idxOf x)))) q (.tup ((nx si).map fun x=>Xe ((bfN nx b (i+1)).idxOf x)))) (a:=pp) (o:=.lst (zs++[.ref q]));have d8:sk.dic (upd (upd (upd Z l (.lst ((nx si).map fun x=>Xe ((bfN nx b (i+1)).idxOf x)))) q (.tup ((nx si).map fun x=>Xe ((bfN nx b (i+1)).idxOf x)))) pp (.lst (zs++[.ref q]))) nd (bfN nx b (i+1)):=SK.off (SK.stay g2 (fun o e=>sq _ _ e) (G sq)) (sq _ _ hpp6);generalize upd (upd (upd Z l (.lst ((nx si).map fun x=>Xe ((bfN nx b (i+1)).idxOf x)))) q (.tup ((nx si).map fun x=>Xe ((bfN nx b (i+1)).idxOf x)))) pp (.lst (zs++[.ref q]))=H8 at *;have tp8:∀{c:Au} {ys:A0},Z c=some (.tup ys)->H8 c=some (.tup ys):=fun{c ys} e=>k8 _ _ e (X9 e hpp6 (fun z=>nomatch z));have hpo8:=k8 _ _ hpo6 ppo.symm;have last:∀(O:Au) (H9:Hp),H9 O=some (.tup (ot si))->Z8 H8 H9->H9 D=some (.lst os)/\(upd H9 D (.lst (os++[.ref O])) st=some (.lst C)/\StA sk (upd H9 D (.lst (os++[.ref O]))) (bfN nx b (i+1)) C/\sk.dic (upd H9 D (.lst (os++[.ref O]))) nd (bfN nx b (i+1))/\upd H9 D (.lst (os++[.ref O])) pp=some (.lst (zs++[.ref q]))/\upd H9 D (.lst (os++[.ref O])) D=some (.lst (os++[.ref O]))/\Y7 (upd H9 D (.lst (os++[.ref O]))) (zs++[.ref q]) (jk nx b (i+1))/\Y7 (upd H9 D (.lst (os++[.ref O]))) (os++[.ref O]) (ve nx ot b (i+1))/\Z8 H (upd H9 D (.lst (os++[.ref O])))):=by
      intro O H9 ha9 s9;have hpo9:=s9 _ _ hpo8;have tp9:∀{c:Au} {ys:A0},H9 c=some (.tup ys)->upd H9 D (.lst (os++[.ref O])) c=some (.tup ys):=fun{c ys} e=>by rw[Zk (X9 e hpo9 (fun z=>nomatch z))];exact e
      have tp59:∀b xs,H5 b=some (.tup xs)->upd H9 D (.lst (os++[.ref O])) b=some (.tup xs):=fun b xs e=>tp9 (s9 _ _ (tp8 (tp6 e)));refine⟨hpo9,?_,gA.keep (fun b xs e=>tp9 (s9 _ _ (tp8 e))),SK.off (SK.stay d8 (fun o e=>s9 _ _ e) (G s9)) hpo9,?_,Za,?_,?_,fun c o' e=>?_⟩
      ·rw[Zk ost.symm];exact s9 _ _ (k8 _ _ g1 pst.symm)
      ·rw[Zk ppo];exact s9 _ _ hp8
      ·rw[eR];exact(qy (fun b xs e=>tp59 b xs (s5 _ _ e)) Rz).snoc (tp9 (s9 _ _ hq8))
      ·rw[eO];exact(qy (fun b xs e=>tp59 b xs (s5 _ _ e)) Ro).snoc (tp9 ha9)
      ·have cp:c≠pp:=Zm e hppH;have co:c≠D:=Zm e hpoH;rw[Zk co];exact s9 _ _ (k8 _ _ (g3 _ _ (s5 _ _ (s4 _ _ e)) (Zm e hst) (Zm e hndH)) cp)
     refine⟨_,rfl,.inl ⟨rfl,_,SqL.of hpo8⟩,_,rfl,tt,_,1,_,rfl,rfl,SqT.of (tp8 htt6),rfl,r2,ot si,rfl,?_⟩;rcases I with I|I
     ·obtain⟨l1,l2⟩:=last r2 H8 (tp8 I) (Z8.refl _);exact .inr ⟨SqT.of (tp8 I),D,_,_,rfl,rfl,l1,Xf (by lia),_,zs++[.ref q],os++[.ref r2],C,rfl,l2⟩
     ·refine .inl ⟨SqL.of (k8 _ _ I ndr2.2.2.1),fun O ha9=>?_⟩;obtain⟨l1,l2⟩:=last O (upd H8 O (.tup (ot si))) Za (Zc ha9);exact⟨D,_,_,rfl,rfl,l1,Xf (by lia),_,zs++[.ref q],os++[.ref O],C,rfl,l2⟩
  ·have hle:(bfN nx b i).length=i:=by
    have:¬(i:Int)<((bfN nx b i).length:Int):=fun z=>hlt (Qal z);lia
   refine⟨_,rfl,_,rfl,pn,_,rfl,.inr ⟨SqT.of (s4 _ _ hpn),_,rfl,pp,_,rfl,.inl ⟨SqL.of J,fun a1 ha1=>⟨_,rfl,D,_,rfl,.inl ⟨SqL.of (Zc ha1 _ _ hpo4),fun a2 ha2=>⟨Zpa,fun m hm=>⟨uy,fun p hp=>?_⟩⟩⟩⟩⟩⟩⟩;have q1:=Zc (o:=.tup zs) ha1;have q2:=Zc (o:=.tup os) ha2;have q3:=Zc (o:=.tup [.ref pn,.int 0,.ref a1,.ref a2]) hm;have q4:=Zc (o:=.tup [.ref st,.ref m]) hp;have qq:=q1.trans (q2.trans (q3.trans q4));refine k p st m (bfN nx b i) ws _ ⟨by rw[hle],fun j hj=>hgo j (by lia)⟩ Za hst (qq _ _ Y) (hA4.keep (G qq)) ⟨⟨pn,a1,a2,q4 _ _ Za,qq _ _ (s4 _ _ hpn),⟨zs,(q2.trans (q3.trans q4)) _ _ Za,?_,fun j r hj=>?_⟩,⟨os,(q3.trans q4) _ _ Za,?_,fun j r hj=>?_⟩⟩⟩ (s4.trans qq)
   ·rw[hzl,Qad,Y8,hle]
   ·rw[<-Zfg hle hgo]at hj;obtain⟨a,g1,g2⟩:=Rz.2 j r hj;exact⟨a,g1,qq _ _ g2⟩
   ·rw[hol,Qad,hle]
   ·rw[<-Zfh hle hgo]at hj;obtain⟨a,g1,g2⟩:=Ro.2 j r hj;exact⟨a,g1,qq _ _ g2⟩
 have fin:∀(nd:Au) (H3:Hp),H nd=none->nd≠st->(∃o,H3=upd (upd H st (.lst [bv])) nd o)->sk.dic H3 nd [b]->U2 {nx:=fun _ H'=>Q .non H',rt:=Q} [some (.ref pn),some bv,some (.ref f),some (.ref st),some (.ref nd),none,none,none] H3:=by
  intro nd H3 hndH hne ho hd3;obtain⟨o,rfl⟩:=ho;have hnd1:upd H st (.lst [bv]) nd=none:=by rw[Zk hne];exact hndH
  have s3:=s1.trans (Zc (o:=o) hnd1);exact begun nd _ hndH (by rw[Zk hne.symm];exact Za) hd3 (SK.keep hbv fun b xs e=>s3 _ _ e) s3
 cases sk with
 |int f9 inj=>
  have hbv:bv=.int (f9 b):=hbv;subst hbv;refine .inr fun nd hnd=>?_;have snd:st≠nd:=Zm Za hnd;refine⟨_,rfl,Za,[(.inl (f9 b),.int 0)],rfl,by show 1<=15;decide,Zi ?_⟩;have em:WE [] [((.inl (f9 b):Key),V.int 0)]=nk ([b].map f9):=rfl;rw[em,yu];exact fin nd _ (s1.free hnd) snd.symm ⟨_,rfl⟩ Za
 |key kn=>
  obtain⟨a,rfl,ha⟩:=id hbv;refine .inl fun nd hnd=>?_;have snd:st≠nd:=Zm Za hnd;have sn2:=s1.trans (Zc (o:=.dK []) hnd);refine⟨_,rfl,κ,_,kn,a,b,rfl,Za,kn.keep _ _ _ _ (fun b xs e=>sn2 _ _ e) ha,fun H' n' _ ho=>Zi ?_⟩;obtain⟨o,rfl⟩:=ho;rw[yu]at n' ⊢;exact fin nd _ (s1.free hnd) snd.symm ⟨_,rfl⟩ n'
inductive X2(w:Ar)(pw:Au)(vs:A0)(H:Hp)(Q:VK):Prop
 |mk (tw tn tt:Au) (ws:A0) (nm:Ai) (o0 o1:V) (B kc:Nat):(vs=[.ref tw,.ref tn,.ref tt])->(H tw=some (.tup ws))->(ws.length<=100)->(H tn=some (.tup (nm.map V.str)))->(nm.Nodup)->(nm.length<=3)->(H tt=some (.tup [o0,o1]))->((∀w∈ws,kG nm w))->(YE ws)->(qT ws=1)->((∀z:Int,V.int z∈ws->0<=z/\z<2^B))->(kc=Y9 ws)->((B+1)*2^kc<=1000000)->(ZG H pw Zw Zt)->(∀m (l:List (Int×Ak)) H',BfE (nxT nm (YN (2^nm.length) nm) ws (lgB ws)) (0,List.replicate kc 0) l->M4 H' m nm 0 (rnG (nxT nm (YN (2^nm.length) nm) ws (lgB ws)) l) (l.map (otT nm (YN (2^nm.length) nm) ws o0 o1))->ZG H' pw Zw Zt->Znr pw H H'->Q (.ref m) H')->X2 w pw vs H Q
def GW(P:An)(w:Ar)(K:Af)(mg:Ae)(base:Heap)(q:Au):Sp:=fun vs H Q _=>X2 w q vs H Q
theorem GX:Yx P w K mg base CX0 14 t.cy t.bj ["words","names","told"] (GW P w K mg base t.ae):=by
 have G:=WS P base T TB;have G_bits_at:=Zb6 P base T TB;have G_stepped:=Zcl P base T TB;have O:=qY P base T TB;have C:=qE P base T TB;have I:=jb P base T TB;have Y:=zT P base T TB;refine T.dc.F.okC ZR (fun vs H Q E h=>?_) (fun A outer s H vs Q E hr h=>?_)
 ·obtain⟨_,_,_,_,_,_,_,_,_,rfl,_⟩:=h;rfl
 ·obtain⟨tw,tn,tt,ws,nm,o0,o1,B,Z,rfl,ht,hl,hn,hnd,hn3,hto,hw,he,hst,hB,hkc,hbig,hT,k⟩:=h;have hu:=ZK hr;refine⟨_,@QSs.out _ _ _ (Zb (Z4 3 ZR.nd (ZC (gu rfl) (by rfl) T.aay wN (Zh (ZC zf (by rfl) T.au uD (Zh (Zj T.fh Y hr (Zh (Zp Zu (by rfl) T.af ZT (Zh (qv 1) Zd)) Zd)) Zd)) Zd)))
    (Zb (Z4 4 ZR.nd (Zj T.iq I hr (Zh (qv 1) (Zh (qv 3) Zd))))
    (Zb (Z4 5 ZR.nd (Zj T.dw C hr (Zh (qv 0) Zd)))
    (Zb (qs_def (i:=6) (name:= "step_of") (params:=WY YU) (body:=Xv YU) (scope:=Zg YU) (lpos:=Zw) (qual:=Zt) ZR.nd rfl (Or.inl rfl) T.aaz TB.bo TB.B rfl rfl rfl rfl (S0:=Zg ZV) rfl (by decide +kernel))
    (Zb (Z4 7 ZR.nd (Yc (Zh Ze (Zh (ZC Z6 (by rfl) T.ai ZP (Zh (Y0 ({}:ZZ (Zg ZV) _ ["words","names","told","letters","columns","last_place","step_of","begin"] "word" [] []) (Xs (qv 0)) (fun _ _ _ _=>(jM (Yt (Zj T.dh O hr (Zh (qv 0) Zd))))) (fun _ _ _ _=>Ze)) Zd)) Zd))))
    (Zf (Zn (Zq Zr (Zhu (kl:=11) (i:=6) (name:= "step_of") (params:=WY YU) (body:=Xv YU) (scope:=Zg YU) (qual:=Zt) G (hr.mono (by decide)) rfl T.ao.m T.ao.F.kp T.ao.b rfl (Zh (qv 1) (Zh (qv 7) (Zh (qv 6) Zd))) rfl rfl (⟨J8,by decide +kernel,by decide +kernel,by rfl⟩:Zon (Zg ZV) _ ["words","names","told","letters","columns","last_place","step_of","begin"] ["state"] ["step","place","reached"] ["words","columns","last_place","letters","told"] [0,4,5,3,2]) (fun _ _ _ _ _ us hl=>match us,hl with|[_],_=>rfl) (fun _ _ _ _ _ _ _ hrl=>(Zb (Z4 1 J8.nd (Gk G_stepped (hrl.mono (by decide)) rfl T.cu.m T.cu.F.kp T.cu.b .nil Zdo (Zh (qv 4) (Zh (qv 5) (Zh (Zq (show IxR _ (Zgo K)from Zr) (qv 0) Ze) (Zh (Zq (show IxR _ (Zgo K)from Zr) (qv 0) Ze) Zd))))))
    (Zb (Z4 2 J8.nd (Zp (Zda rfl) (by rfl) T.abv bt_min (Zh (Zs Yz (Zq (show IxR _ (Zgo K)from Zr) (qv 0) Ze) Ze) (Zh (qv 6) Zd))))
    (Zb (wR (i:=3) J8.nd rfl rfl ({}:ZZ (Zg YU) _ ["state","step","place","reached","words","columns","last_place","letters","told"] "letter" ["place","step"] [2,1]) (show QI _ _ _ (Zc0 K (Zgl 7))from XD (qv 7)) (fun _ _ _ _=>XO) (fun _ _ _ _=>(Yc (Zh (qv 1) (Zh (Gk G_bits_at (hrl.mono (by decide)) rfl T.cq.m T.cq.F.kp T.cq.b .nil Zdo (Zh (Zq (show IxR _ (Zgo K)from Zr) (qv 2) Ze) (Zh (qv 0) Zd))) Zd)))))
    (Zf (Zn (Yc (Zh (qv 3) (Zh (Y0 ({}:ZZ (Zg YU) _ ["state","step","place","reached","words","columns","last_place","letters","told"] "letter" ["told","step"] [8,1]) (show QI _ _ _ (Zc0 K (Zgl 7))from XD (qv 7)) (fun _ _ _ _=>XO) (fun _ _ _ _=>(Zq (show IxR _ (Zgo K)from Zr) (qv 1) (Zs Xc (Zs jI (Zq (show IxR _ (Zgo K)from Zr) (qv 2) Ze) (qv 0)) Ze)))) Zd)))))))))) Ze)))))))),?_⟩
  try dsimp only[L2.cxK,L2.cxK2]
  refine L2.let6 ?_;intro U5 U4 U3 U2 U1;have h8:=p8 hn3;have e2:((2:Int)^nm.length)=((2^nm.length:Nat):Int):=by rw[Int.natCast_pow];rfl
  have hflat:∀w∈ws,Xb w=true/\((∃y,w=.str y)\/∃z:Int,w=.int z):=fun w h=>by
   rcases hw w h with⟨y,rfl,_⟩|⟨y,rfl,_⟩|⟨y,rfl,_⟩|⟨z,rfl,_⟩
   ·exact⟨rfl,.inl ⟨y,rfl⟩⟩
   ·exact⟨rfl,.inl ⟨y,rfl⟩⟩
   ·exact⟨rfl,.inl ⟨y,rfl⟩⟩
   ·exact⟨rfl,.inr ⟨z,rfl⟩⟩
  refine⟨_,rfl,tn,_,rfl,.inr (SqT.of hn),nm.length,by rw[Qad];rfl,by lia,_,rfl,fun pr hpr=>⟨pr,2^nm.length,rfl,by rw[Za,e2],by lia,fun tl htl=>Zi ?_⟩⟩;have s1:=Zc (o:=.rng 0 ((2:Int)^nm.length)) hpr;have s2:=s1.trans (Zc (o:=.lst ((List.range (2^nm.length)).map fun i:Nat=>V.int (i:Int))) htl);have htl2:=Za (H:=upd H pr (.rng 0 ((2:Int)^nm.length))) (a:=tl) (o:=.lst ((List.range (2^nm.length)).map fun i:Nat=>V.int (i:Int)));have htlH:H tl=none:=s1.free htl;try dsimp only
  generalize upd (upd H pr (.rng 0 ((2:Int)^nm.length))) tl (.lst ((List.range (2^nm.length)).map fun i:Nat=>V.int (i:Int)))=H2 at *;refine⟨_,rfl,_,rfl,tn,tl,nm,2^nm.length,rfl,s2 _ _ hn,hnd,by lia,htl2,by lia,fun dv kvs H3 hdv0 hdv hcol s3=>Zi ?_⟩;have s23:=s2.trans s3;generalize YN (2^nm.length) nm=cols at *;refine⟨_,rfl,tw,ws,rfl,s23 _ _ ht,by lia,fun w h=>(hflat w h).2,fun L H4 hL1 hL2 s4=>Zi ?_⟩;rw[<-Zkk hL1 hL2]at k;have s24:=s23.trans s4;have hLB:L<=B:=by
   rw[Zkk hL1 hL2];exact Zfk hB
  have hdv4:=s4 _ _ hdv;have htl4:=(s3.trans s4) _ _ htl2;refine⟨hT.same s24,fun f c' oc ctv doc H5 hf0 hf hc' hoc hT5 o5=>?_⟩;obtain⟨pz,hpz⟩:=(hT.same s24).ex;have o5':∀{b:Au} {o:HO},H4 b=some o->(∀ps,o≠.tbl ps)->H5 b=some o:=fun{b o} e h=>o5 b o e fun z=>by
   rw[z,hpz]at e;exact h _ (Option.some.inj e).symm
  have t5:∀{b:Au} {xs:A0},H b=some (.tup xs)->H5 b=some (.tup xs):=fun e=>o5' (s24 _ _ e) (fun _ z=>nomatch z);have hdv5:=o5' hdv4 (fun _ z=>nomatch z);have htl5:=o5' htl4 (fun _ z=>nomatch z);refine⟨_,rfl,tw,rfl,⟨_,SqT.of (t5 ht)⟩,Jv (K:=K) (a:=tw) (xs:=ws) (fun i zs H'=>zs=List.replicate (Y9 (ws.take i)) (.int 0)/\H'=H5) ⟨rfl,rfl⟩ (fun i zs H' h=>?_) (fun i zs H' h=>by rw[h.2];exact SqT.of (t5 ht)) (fun i x zs H6 R hR hx h=>?_) (fun zs H6 h pl hpl=>?_)⟩
  ·rw[h.1,Qbj];have:Y9 (ws.take i)<=(ws.take i).length:=Qc9 _ _;rw[Qas]at this;exact Qau (Zy (by lia))
  ·obtain⟨rfl,rfl⟩:=h;refine⟨_,rfl,x,rfl,(hflat x (Qag hx)).1,_,rfl,?_⟩;have er:Y9 (ws.take (i+1))=Y9 (ws.take i)+if inV x (allR.map V.str)=true then 1 else 0:=by
    rw[take_snoc hx];unfold Y9;rw[Qdd,Qaf,Qcw];split<;>rfl
   rw[er]at hR;refine xB (fun hb=>?_) (fun hb=>?_)
   ·rw[Qba hb,Qf4]at hR;exact hR _ _ ⟨rfl,rfl⟩
   ·rw[Qa4 hb]at hR;exact hR _ _ ⟨rfl,rfl⟩
  obtain⟨rfl,rfl⟩:=h;rw[Qbf,<-hkc];refine⟨pl,_,rfl,.inl ⟨SqL.of Za,fun tb htb=>⟨uy,fun tg htg=>Zi ?_⟩⟩⟩;have q1:=Zc (o:=.lst (List.replicate Z (.int 0))) hpl;have q2:=Zc (o:=.tup (List.replicate Z (.int 0))) htb;have q3:=Zc (o:=.tup [.int 0,.ref tb]) htg;have s6:=q1.trans (q2.trans q3);have htb6:=q3 _ _ (Za (H:=upd H6 pl (.lst (List.replicate Z (.int 0)))) (a:=tb) (o:=.tup (List.replicate Z (.int 0))));have htg6:=Za (H:=upd (upd H6 pl (.lst (List.replicate Z (.int 0)))) tb (.tup (List.replicate Z (.int 0)))) (a:=tg) (o:=.tup [.int 0,.ref tb]);try dsimp only
  generalize upd (upd (upd H6 pl (.lst (List.replicate Z (.int 0)))) tb (.tup (List.replicate Z (.int 0)))) tg (.tup [.int 0,.ref tb])=H7 at *;refine⟨_,rfl,_,rfl,_,rfl,f,c',oc,ctv,doc,rfl,s6 _ _ hf,s6 _ _ hc',hoc,fun cs H8 hcs0 hcsF o8 hcall=>?_⟩;have hU:∀s∈uni Z (L+1),(nxT nm cols ws L s).length<=8/\(otT nm cols ws o0 o1 s).length<=8/\∀x∈nxT nm cols ws L s,x∈uni Z (L+1):=fun s hs=>⟨by unfold nxT;rw[Qad,Qa5];exact h8,by unfold otT;rw[Qad,Qa5];exact h8,vh hw hkc hs⟩;have t8:∀{b:Au} {xs:A0},H b=some (.tup xs)->H8 b=some (.tup xs):=fun e=>o8 _ _ (s6 _ _ (t5 e));have hUl:(uni Z (L+1)).length<=1000000:=by
   rw[vf];exact Qa8 (Qf5 _ (by lia)) hbig
  refine⟨Int×Ak,_,.key knQ,tn,f,nm,(0,List.replicate Z 0),.ref tg,nxT nm cols ws L,otT nm cols ws o0 o1,uni Z (L+1),_,rfl,t8 hn,⟨tg,rfl,tb,o8 _ _ htg6,by rw[o8 _ _ htb6,List.map_replicate]⟩,Gd.mpr ⟨0,by lia,rfl,Xt.mpr ⟨Qbj,fun x hx=>.inl (Qei hx)⟩⟩,hU,hUl,hn3,hcall,fun s sv H9 Q' hs hat s9 hQ=>⟨rfl,?_⟩,fun p sts m l wsl H9 B9 hp hsts0 hsts hA M9 s9=>?_⟩
  ·obtain⟨a,rfl,tk,ha,htk⟩:=hat;have hk9:∀{b:Au} {u:HO},H9 b=some u->(∀o,u≠XM o)->hide cs H9 b=some u:=fun e h=>Jg hcsF s9 e h;have t9:∀{b:Au} {xs:A0},H9 b=some (.tup xs)->hide cs H9 b=some (.tup xs):=fun e=>hk9 e (fun _ z=>nomatch z);obtain⟨pn,hp1,hp2,hp3⟩:=Gd.mp hs;obtain⟨sp,ks⟩:=s;have hp2:sp=(pn:Int):=hp2;subst hp2;obtain⟨hkl,hkb⟩:=Xt.mp hp3;have hkl:ks.length=Z:=hkl;have ha':=t9 ha;have htk':=t9 htk;have hln:(XN nm cols pn ks ws).1.length=1:=by rw[yT ws hw,hst]
   have hrm:(XN nm cols pn ks ws).2.length=Z:=by rw[vg ws hw,hkc]
   obtain⟨o,lt,hstp⟩:∃o lt,XN nm cols pn ks ws=([o],lt):=by
    generalize XN nm cols pn ks ws=q at hln;obtain⟨q1,q2⟩:=q
    match q1,hln with
    |[o],_=>exact⟨o,q2,rfl⟩
   have hltl:lt.length=Z:=by rw[hstp]at hrm;exact hrm
   have hsS:Znq nm cols ws ((pn:Int),ks)=([o],lt):=hstp;refine⟨_,rfl,_,rfl,_,rfl,a,_,0,_,rfl,rfl,SqT.of ha',rfl,_,rfl,a,_,1,_,rfl,rfl,SqT.of ha',rfl,tw,dv,tk,nm,ws,kvs,cols,pn,ks,o,lt,rfl,t9 (s9 _ _ (t8 ht)),hl,hk9 (s9 _ _ (o8 _ _ (s6 _ _ hdv5))) (fun _ z=>nomatch z),hcol,htk',hw,he,hstp,by rw[hltl];show Z<=ks.length;lia,fun ta la H10 hta0 hta hla s10=>Zi ?_⟩;refine⟨_,rfl,a,_,0,_,rfl,rfl,SqT.of (s10 _ _ ha'),rfl,_,_,rfl,rfl,_,rfl,_,_,rfl,Zi ?_⟩;have em:(if(L:Int)<(pn:Int)+1 then(L:Int)else(pn:Int)+1)=min ((pn:Int)+1) (L:Int):=by split<;>lia
   try dsimp only
   rw[em];have J:H10 tl=some (.lst ((List.range (2^nm.length)).map fun i:Nat=>V.int (i:Int))):=s10 _ _ (hk9 (s9 _ _ (o8 _ _ (s6 _ _ htl5))) (fun _ z=>nomatch z));have hxs:((List.range (2^nm.length)).map fun i:Nat=>V.int (i:Int)).length=2^nm.length:=by rw[Qad,Qa5]
   have hnx:nxT nm cols ws L ((pn:Int),ks)=(List.range (2^nm.length)).map fun l=>(min ((pn:Int)+1) (L:Int),lt.map fun c=>bt c l):=by
    unfold nxT;rw[hsS]
   have hot:otT nm cols ws o0 o1 ((pn:Int),ks)=(List.range (2^nm.length)).map fun l=>if bt o l=1 then o1 else o0:=by
    unfold otT;rw[hsS];rfl
   refine⟨_,rfl,tl,rfl,⟨_,SqL.of J⟩,Gp (K:=K) (a:=tl) (xs:=(List.range (2^nm.length)).map fun i:Nat=>V.int (i:Int)) (fun i zs H'=>StA (.key knQ) H' ((nxT nm cols ws L ((pn:Int),ks)).take i) zs/\i<=2^nm.length/\Z8 H10 H') ⟨⟨rfl,fun i k hk=>by cases hk⟩,Qbp _,Z8.refl _⟩ (fun i zs H' h=>?_) (fun i zs H' h=>SqL.of (h.2.2 _ _ J)) (fun i x zs H11 R hR hx h=>?_) (fun zs H11 h rl hrl=>Zi ?_)⟩
   ·rw[h.1.1,Qas];exact Qau (Zy (by lia))
   ·obtain⟨hA,hi,s11⟩:=h;have hil:i<2^nm.length:=by rw[<-hxs];exact(Qai.mp hx).1
    rw[xI hil]at hx;cases hx;refine yesT ⟨_,rfl,_,rfl,ta,_,1,_,rfl,rfl,SqT.of (s11 _ _ hta),rfl,_,rfl,la,lt,i,rfl,s11 _ _ hla,?_,by lia,fun t5 H12 ht50 ht5 s12=>⟨uy,fun q hq=>hR _ _ ⟨?_,hil,s11.trans (s12.trans (Zc hq))⟩⟩⟩
    ·have:Y9 ws<=ws.length:=Qc9 _ _;lia
    ·have en:(nxT nm cols ws L ((pn:Int),ks))[i]?=some (min ((pn:Int)+1) (L:Int),lt.map fun c=>bt c i):=by rw[hnx,xI hil]
     rw[take_snoc en];refine(hA.keep (H':=upd H12 q (.tup [.int (min ((pn:Int)+1) (L:Int)),.ref t5])) fun b xs e=>Zc hq _ _ (s12 _ _ e)).snoc ⟨q,rfl,t5,Za,Zc hq _ _ ht5⟩
   obtain⟨hA,_,s11⟩:=h;rw[hxs,Qce (by rw[hnx,Qad,Qa5];exact Qah _)]at hA;have s12:=Zc (o:=.lst zs) hrl;have hrl12:=Za (H:=H11) (a:=rl) (o:=.lst zs);try dsimp only
   generalize upd H11 rl (.lst zs)=H12 at *;have D:=s11.trans s12;have htt12:H12 tt=some (.tup [o0,o1]):=D _ _ (s10 _ _ (t9 (s9 _ _ (t8 hto))));refine⟨_,rfl,_,rfl,tl,rfl,⟨_,SqL.of (D _ _ J)⟩,comp_map (xs:=(List.range (2^nm.length)).map fun i:Nat=>V.int (i:Int)) (fI fun c=>if bt o c.toNat=1 then o1 else o0) (SqL.of (D _ _ J)) (by rw[hxs];exact Qau (Zy (by lia))) (fun v hv R hR=>?_) (fun q hq=>?_)⟩
   ·obtain⟨l,_,rfl⟩:=Qay.mp hv;refine⟨_,rfl,_,rfl,ta,_,0,_,rfl,rfl,SqT.of (D _ _ hta),rfl,_,rfl,_,_,rfl,rfl,Qca l,_,_,rfl,rfl,tt,_,_,fI (fun c=>if bt o c.toNat=1 then o1 else o0) (V.int (l:Int)),rfl,rfl,SqT.of htt12,?_,hR⟩;rw[and_1,Qav];show atI [o0,o1] (bt o l)=some (if bt o (l:Int).toNat=1 then o1 else o0);rw[Qav];rcases WV o l with e|e<;>rw[e]<;>rfl
   ·refine⟨uy,fun t0 ht0 hcn=>?_⟩;have ef:((List.range (2^nm.length)).map fun i:Nat=>V.int (i:Int)).map (fI fun c=>if bt o c.toNat=1 then o1 else o0)=otT nm cols ws o0 o1 ((pn:Int),ks):=by
     rw[hot,Qb7];refine Qcn fun l _=>?_;show(if bt o (l:Int).toNat=1 then o1 else o0)=_;rw[Qav]
    rw[ef]at ht0 hcn ⊢;have s13:=Zc (o:=.lst (otT nm cols ws o0 o1 ((pn:Int),ks))) hq;have s14:=s13.trans (Zc (o:=.tup [.ref rl,.ref q]) ht0);have hsame:=s10.trans (D.trans s14);obtain⟨u1,u2,u3⟩:=Zbw hsame hcn;have hrl14:=s14 _ _ hrl12;have hq14:=Zc (o:=.tup [.ref rl,.ref q]) ht0 _ _ (Za (H:=H12) (a:=q) (o:=.lst (otT nm cols ws o0 o1 ((pn:Int),ks))));exact hQ t0 rl q zs _ (u2 _ _ Za) (.inr ⟨u2 _ _ hrl14,u3 _ _ hrl14 (s10.free (s11.free hrl))⟩) (hA.keep fun b xs e=>u2 _ _ ((s12.trans s14) _ _ e)) (.inr ⟨u2 _ _ hq14,u3 _ _ hq14 (s10.free (D.free hq))⟩) u1
  ·have keep9:Z8 H7 (hide cs H9):=fun b o e=>by
    rw[ZD fun m=>by rw[hcs0 b m]at e;cases e];exact s9 _ _ (o8 _ _ e)
   have tk9:∀(b:Au) (xs:A0),H9 b=some (.tup xs)->hide cs H9 b=some (.tup xs):=fun b xs e=>Jg hcsF s9 e (fun _ z=>nomatch z);refine⟨p,_,1,_,rfl,rfl,SqT.of (tk9 _ _ hp),rfl,k m l (hide cs H9) B9 ?_ ((hT5.same s6).same keep9) fun b o e hb=>keep9 _ _ (s6 _ _ (o5 _ _ (s24 _ _ e) hb))⟩;obtain⟨pn,ps,po,h1,h2,h3,h4⟩:=M9.ex;exact⟨⟨pn,ps,po,tk9 _ _ h1,tk9 _ _ h2,yk h3 tk9,yk h4 tk9⟩⟩
inductive Xh(pw:Au)(vs:A0)(H:Hp)(Q:VK):Prop
 |mk (m1 m2:Au) (nm:Ai) (b1 b2:Nat) (nx1 nx2:Ad) (ot1 ot2:Ax) (tr:Bool):(vs=[.ref m1,.ref m2])->(M4 H m1 nm b1 nx1 ot1)->(M4 H m2 nm b2 nx2 ot2)->(Runs nx1 ot1 nm.length)->(Runs nx2 ot2 nm.length)->(b1<nx1.length)->(b2<nx2.length)->(nx1.length*nx2.length<=1000000)->(nm.length<=3)->(nm.Nodup)->((∀r∈ot1,∀x∈r,YY tr x))->((∀r∈ot2,∀x∈r,YY tr x))->(ZG H pw Z0 Z1)->((∀p q l ws H',BfE (pN nx1 nx2) (pK b1 b2) l->(∀(ls:Aj) (c:Nat),(∀x∈ls++[c],x<2^nm.length)->Y6 (mN (rnG (pN nx1 nx2) l)) (mB (l.map (pO ot1 ot2)) (.bl true)) 0 (ls++[c])=false)->H' p=some (.tup [.str "same",.ref q])->H' q=some (.tup ws)->StA (.key kn2) H' l ws->ZG H' pw Z0 Z1->gR pw H H'->Q (.ref p) H'))->((∀p d w r kvs l H',w<=1000000->BfE (pN nx1 nx2) (pK b1 b2) l->xM (mN (rnG (pN nx1 nx2) l)) (mB (l.map (pO ot1 ot2)) (.bl true)) 0 nm.length w r->1<=w->(∀(ls:Aj) (c:Nat),(∀x∈ls++[c],x<2^nm.length)->Y6 (mN (rnG (pN nx1 nx2) l)) (mB (l.map (pO ot1 ot2)) (.bl true)) 0 (ls++[c])=true->w<=ls.length+1)->H' p=some (.tup [.str "parted",.int (w:Int),.ref d])->H d=none->H' d=some (.dK kvs)->Tab kvs nm (fun y=>(valN (ixG nm y) r:Int))->ZG H' pw Z0 Z1->gR pw H H'->Q (.ref p) H'))->Xh pw vs H Q
def JD(K:Af)(q:Au):Sp:=fun vs H Q _=>Xh q vs H Q
theorem JE:Yx P w K mg base CX0 14 t.cg t.ay ["one","other"] (JD K t.aa):=by
 have G:=jH P base T TB;have C:=WA P base T TB;have D:=WS P base T TB;have J:=ud P base T TB;have I:=v7 P base T TB;refine T.cj.F.okC Yn (fun vs H Q E h=>?_) (fun A outer s H vs Q E hr h=>?_)
 ·obtain⟨_,_,_,_,_,_,_,_,_,_,rfl,_⟩:=h;rfl
 ·obtain⟨m1,m2,nm,b1,b2,nx1,nx2,ot1,ot2,tr,rfl,M1,M2,R1,R2,hb1,hb2,hN,hn3,hnd,k1,k2,B,kS,kP⟩:=h;have hu:=ZK hr;refine⟨_,@QSs.out _ _ _ (Zb (Z4 2 Yn.nd (Yc (Zh (Zq Zr (qv 0) Ze) (Zh (Zq Zr (qv 1) Ze) Zd))))
    (Zb (Z4 3 Yn.nd (Zem (kl:=11) D (hr.mono (by decide)) rfl T.ao.m T.ao.F.kp T.ao.b rfl (Zq Zr (qv 0) Ze) (qv 2) T.aac TB.az TB.B rfl rfl rfl rfl (⟨⟨by rfl,by rfl,by rfl,by decide +kernel,by decide +kernel,by decide +kernel,by decide +kernel⟩,by decide +kernel,by decide +kernel,by rfl⟩:Zol (Zg YL) _ ["one","other","begins","found","width"] ["pair"] ["one","other"] [0,1]) (fun _ _ _ _ us hl=>match us,hl with|[_],_=>rfl) (fun _ _ _ _ _ _ _ hrl=>(Yc (Zh (Gk I (hrl.mono (by decide)) rfl T.bq.m T.bq.F.kp T.bq.b .nil Zdo (Zh (qv 1) (Zh (qv 2) (Zh (qv 0) Zd)))) (Zh (Gk J (hrl.mono (by decide)) rfl T.bz.m T.bz.F.kp T.bz.b .nil Zdo (Zh (qv 1) (Zh (qv 2) (Zh (qv 0) Zd)))) Zd))))))
    (Zb (Z4 4 Yn.nd (Zj T.bw C hr (Zh (Zq Zr (qv 3) Ze) Zd)))
    (Zb (Z9 (Zo Zi7 (qv 4) uE (by with_unfolding_all rfl))
    (Zf (Zn (Yc (Zh Zl (Zh (ZC Z6 (by rfl) T.ai ZP (Zh (Zq Zr (qv 3) Ze) Zd)) Zd))))) Zv)
    (Zf (Zn (Yc (Zh Zl (Zh (qv 4) (Zh (Zj T.my G hr (Zh (Zq Zr (qv 3) Ze) (Zh (qv 4) (Zh Xi Zd)))) Zd)))))))))),?_⟩
  try dsimp only[L2.cxK,L2.cxK2]
  refine L2.let5 ?_;intro U4 U3 U2 U1;obtain⟨pn1,ps1,po1,h1,hpn1,_,_⟩:=M1.ex;obtain⟨pn2,ps2,po2,h2,hpn2,_,_⟩:=M2.ex;obtain⟨pz,hpz⟩:=B.ex;have tP:∀{b:Au} {xs:A0},H b=some (.tup xs)->b≠t.aa:=fun e=>X9 e hpz (fun z=>nomatch z);refine⟨_,rfl,m1,_,1,_,rfl,rfl,SqT.of h1,rfl,_,rfl,m2,_,1,_,rfl,rfl,SqT.of h2,rfl,uy,fun bg hbg=>Zi ?_⟩;have sb:=Zc (o:=.tup [.int (b1:Int),.int (b2:Int)]) hbg;have hbg1:upd H bg (.tup [.int (b1:Int),.int (b2:Int)]) bg=some (.tup [.int (b1:Int),.int (b2:Int)]):=Za;have B1:=B.same sb;have tP1:∀{b:Au} {xs:A0},upd H bg (.tup [.int (b1:Int),.int (b2:Int)]) b=some (.tup xs)->b≠t.aa:=fun e=>X9 e (sb _ _ hpz) (fun z=>nomatch z);generalize upd H bg (.tup [.int (b1:Int),.int (b2:Int)])=H1 at *;refine⟨_,rfl,m1,_,0,_,rfl,rfl,SqT.of (sb _ _ h1),rfl,_,rfl,B1,fun cs f H2 hcs hfz hf hT2 o2 hc=>?_⟩;have t2:∀(b:Au) (xs:A0),H1 b=some (.tup xs)->H2 b=some (.tup xs):=fun b xs e=>o2 _ _ e (tP1 e);have p8:=p8 hn3;have U0:=Zko nx1.length nx2.length;refine⟨Ak,inferInstance,.key kn2,pn1,f,nm,pK b1 b2,.ref bg,pN nx1 nx2,pO ot1 ot2,pU nx1.length nx2.length,_,rfl,t2 _ _ (sb _ _ hpn1),⟨bg,rfl,t2 _ _ hbg1⟩,JL.mpr ⟨b1,b2,hb1,hb2,rfl⟩,(fun s hs=>?_),by rw[U0];exact hN,hn3,hc,fun s sv O Q' hs hat sH hQ=>⟨rfl,?_⟩,fun p sts fm l wsl O B3 hp hsts0 hsts hA M3 s3=>?_⟩
  ·obtain⟨i,j,hi,hj,rfl⟩:=JL.mp hs;exact⟨by rw[Zax R1 R2 hi hj];exact p8,by rw[Zkp R1 R2 hi hj];exact p8,fun x hx=>Zm6 R1 R2 hs x hx⟩
  ·obtain⟨i,j,hi,hj,rfl⟩:=JL.mp hs;obtain⟨c,rfl,hc3⟩:=id hat;have th:∀(b:Au) (xs:A0),O b=some (.tup xs)->hide cs O b=some (.tup xs):=fun b xs e=>Jg hfz sH e (fun o z=>nomatch z);have th1:∀(b:Au) (xs:A0),H b=some (.tup xs)->hide cs O b=some (.tup xs):=fun b xs e=>th _ _ (sH _ _ (t2 _ _ (sb _ _ e)));have hi2:i<ot1.length:=by rw[R1.ol];exact hi
   have hj2:j<ot2.length:=by rw[R2.ol];exact hj
   have l1:=R1.or _ (getD_mem hi2);have l2:=R2.or _ (getD_mem hj2);refine⟨_,rfl,_,rfl,_,rfl,m1,m2,c,nm,nm,b1,b2,nx1,nx2,ot1,ot2,i,j,rfl,M1.tups th1,M2.tups th1,th _ _ hc3,hi,hj,fun l zs H4 hl s4 hl4 pr=>?_⟩;refine⟨_,rfl,_,rfl,_,rfl,m1,m2,c,nm,nm,b1,b2,nx1,nx2,ot1,ot2,i,j,tr,rfl,(M1.tups th1).same s4,(M2.tups th1).same s4,s4 _ _ (th _ _ hc3),hi2,hj2,by rw[l1,l2],by rw[l1];lia,k1 _ (getD_mem hi2),k2 _ (getD_mem hj2),fun l' H5 hl' Y hl5=>⟨uy,fun q hq hcn=>?_⟩⟩;have s6:=(s4.trans Y).trans (Zc (o:=.tup [.ref l,.ref l']) hq);have s56:=Y.trans (Zc (o:=.tup [.ref l,.ref l']) hq);obtain⟨g1,g2,g3⟩:=Znb s6 hcn;have hl6:=s56 _ _ hl4;have hl56:=Zc (o:=.tup [.ref l,.ref l']) hq _ _ hl5;refine hQ q l l' zs _ (g2 _ _ Za) (.inr ⟨g2 _ _ hl6,g3 _ _ hl6 hl⟩) ?_ (.inr ⟨g2 _ _ ?_,g3 _ _ hl56 (s4.free hl')⟩) g1
   ·show StA (.key kn2) _ (pN nx1 nx2 (pK i j)) zs;have e:pN nx1 nx2 (pK i j)=(wI (nx1.getD i []) (nx2.getD j [])).map fun p=>[p.1,p.2]:=by
     show(wI (nx1.getD (i:Int).toNat []) (nx2.getD (j:Int).toNat [])).map _=_;rw[Qav,Qav]
    rw[e];exact Znc pr fun b xs e=>g2 _ _ (s56 _ _ e)
   ·have e:pO ot1 ot2 (pK i j)=(((ot1.getD i []).zip (ot2.getD j [])).map fun q=>!decide (q.1=q.2)).map V.bl:=by
     show(((ot1.getD (i:Int).toNat []).zip (ot2.getD (j:Int).toNat [])).map _).map _=_;rw[Qav,Qav]
    rw[e];exact hl56
  have t3:∀(b:Au) (xs:A0),O b=some (.tup xs)->hide cs O b=some (.tup xs):=fun b xs e=>Jg hfz s3 e (fun o z=>nomatch z);have T3:ZG (hide cs O) t.aa Z0 Z1:=hT2 O s3;have Z:∀b o,H b=some o->b≠t.aa->hide cs O b=some o:=fun b o e hb=>by
   have e1:=sb _ _ e;rw[ZD (fun m=>by rw[hcs b m]at e1;cases e1)];exact s3 _ _ (o2 _ _ e1 hb)
  have M3':M4 (hide cs O) fm nm 0 (rnG (pN nx1 nx2) l) (l.map (pO ot1 ot2)):=M3.tups t3;have hA':StA (.key kn2) (hide cs O) l wsl:=hA.keep t3;have hp':=t3 _ _ hp;have hsts':hide cs O sts=some (.lst wsl):=Jg hfz s3 hsts (fun o z=>nomatch z);try dsimp only
  generalize hide cs O=H4 at *;have R:=Zil R1 R2 hb1 hb2 B3;have hll:l.length<=1000000:=by
   have h:=Zap (nx:=pN nx1 nx2) (b:=pK b1 b2) (U:=pU nx1.length nx2.length) (JL.mpr ⟨b1,b2,hb1,hb2,rfl⟩) (fun s hs=>Zm6 R1 R2 hs) l.length;rw[<-B3.e,U0]at h;lia
  have hrl:(rnG (pN nx1 nx2) l).length<=1000000:=by rw[Y8];exact hll
  have hbl:∀r∈l.map (pO ot1 ot2),∀x∈r,∃t,x=V.bl t:=fun r hr x hx=>by
   obtain⟨s,_,rfl⟩:=Qay.mp hr;obtain⟨q,_,rfl⟩:=Qay.mp hx;exact⟨_,rfl⟩
  refine Zi ⟨_,rfl,p,_,1,_,rfl,rfl,SqT.of hp',rfl,fm,nm,_,_,nm.length,_,rfl,M3',R,rgO_of B3,hrl,hbl,fun hno H5 Y=>?_,fun w H5 hw1 hw2 hex hmin Y=>?_⟩
  ·refine Zi ⟨_,rfl,rfl,_,rfl,?_⟩;rw[Qal rfl];refine Y4 ⟨_,rfl,p,_,0,_,rfl,rfl,SqT.of (Y _ _ hp'),rfl,sts,wsl,rfl,.inl ⟨SqL.of (Y _ _ hsts'),fun q hq=>⟨uy,fun pr hpr=>?_⟩⟩⟩;have sq:=Zc (o:=.tup wsl) hq;have s6:=(Y.trans sq).trans (Zc (o:=.tup [.str "same",.ref q]) hpr);refine kS pr q l wsl _ B3 (fun ls c h=>by rw[Xo];exact hno ls c h) Za (Zc hpr _ _ Za) (hA'.keep fun b xs e=>s6 _ _ e) (T3.same s6) (gR.of Z (SmF.of s6))
  ·refine Zi ⟨_,rfl,rfl,_,rfl,?_⟩;rw[Qaj (fun z=>nomatch z)];obtain⟨ls,c,e1,e2,e3⟩:=hex;refine ZU ⟨_,rfl,_,rfl,p,_,1,_,rfl,rfl,SqT.of (Y _ _ hp'),rfl,_,rfl,fm,nm,0,_,_,w,.bl true,true,rfl,M3'.same Y,R,R.pos,hrl,hn3,hnd,hw1,by lia,.inl ⟨rfl,_,rfl⟩,(fun r hr x hx=>by obtain⟨t,rfl⟩:=hbl r hr x hx;exact .inl ⟨rfl,_,rfl⟩),⟨ls++[c],by rw[Qaf];exact e1,e2,by rw[Xo];exact e3⟩,fun r d kvs H6 fr hd hd6 Tb s6=>⟨Zo9,fun pr hpr=>?_⟩⟩;have s7:=Zc (o:=.tup [.str "parted",.int (w:Int),.ref d]) hpr;have s47:=((SmF.of Y).trans s6).trans (SmF.of s7);have hdH:H d=none:=by
    cases e:H d with
    |none=>rfl
    |some o=>
     have hdt:d≠t.aa:=fun z=>by
      have:=T3.same Y;obtain⟨pz5,hz5⟩:=this.ex;rw[z,hz5]at hd;cases hd
     have:=Y _ _ (Z d o e hdt);rw[hd]at this;cases this
   exact kP pr d w r kvs l _ (by lia) B3 fr hw1 (fun ls c h h2=>hmin ls c h (by rw[Xo]at h2;exact h2)) Za hdH (s7 _ _ hd6) Tb (ZG.smf T3 s47) (gR.of Z s47)
inductive Jr(w:Ar)(pw:Au)(vs:A0)(H:Hp)(Q:VK):Prop
 |mk (tw tn:Au) (ws:A0) (nm:Ai) (B kc:Nat):(vs=[.ref tw,.ref tn])->(H tw=some (.tup ws))->(ws.length<=100)->(H tn=some (.tup (nm.map V.str)))->(nm.Nodup)->(nm.length<=3)->((∀w∈ws,kG nm w))->(YE ws)->(qT ws=1)->((∀z:Int,V.int z∈ws->0<=z/\z<2^B))->(kc=Y9 ws)->((B+1)*2^kc<=1000000)->(ZG H pw Zw Zt)->(∀m (l:List (Int×Ak)) H',BfE (nxT nm (YN (2^nm.length) nm) ws (lgB ws)) (0,List.replicate kc 0) l->M4 H' m nm 0 (rnG (nxT nm (YN (2^nm.length) nm) ws (lgB ws)) l) (l.map (otT nm (YN (2^nm.length) nm) ws (.int 0) (.int 1)))->ZG H' pw Zw Zt->Znr pw H H'->Q (.ref m) H')->Jr w pw vs H Q
def v8(P:An)(w:Ar)(K:Af)(mg:Ae)(base:Heap)(q:Au):Sp:=fun vs H Q _=>Jr w q vs H Q
theorem GY:Yx P w K mg base CX0 15 t.nj t.nq ["words","names"] (v8 P w K mg base t.ae):=by
 have q:=GX P base T TB;refine T.ax.go vx (by rintro _ _ _ _ ⟨_,_,_,_,_,_,rfl,_⟩;rfl) ?_;rintro cdv A outer s H _ Q E Y ⟨tw,tn,ws,nm,B,kc,rfl,ht,hl,hn,J,O,hw,he,G,hB,I,C,hT,k⟩;have hu:=ZK Y;refine⟨_,(Zf (Zn (Zj T.dc q Y (Zh (qv 0) (Zh (qv 1) (Zh (Yc (Zh Ze (Zh Ze Zd))) Zd)))))),?_⟩;refine⟨_,rfl,_,rfl,by decide,fun tt F=>?_⟩;have D:=Zc (o:=.tup [.int 0,.int 1]) F;exact⟨tw,tn,tt,ws,nm,.int 0,.int 1,B,kc,rfl,D _ _ ht,hl,D _ _ hn,J,O,Za,hw,he,G,hB,I,C,hT.same D,fun m l H' h1 h2 Z h4=>k m l H' h1 h2 Z fun b o e hb=>h4 _ _ (D _ _ e) hb⟩
inductive GZ(w:Ar)(pw pc:Au)(vs:A0)(H:Hp)(Q:VK):Prop
 |mk (t1 t2:Au) (u v:A0):(vs=[.ref t1,.ref t2])->(H t1=some (.tup u))->(H t2=some (.tup v))->((∀x∈u++v,kE x))->((u++v).length<=60)->((∀ms:Ai,zL u v ms->Xn ms u/\Xn ms v))->(11*2^Y9 u*(11*2^Y9 v)<=1000000)->(ZG H pw Zw Zt)->(ZG H pc Z0 Z1)->((∀p q ms l1 l2 l ws H',zL u v ms->BfE (nxS ms u) (0,List.replicate (Y9 u) 0) l1->BfE (nxS ms v) (0,List.replicate (Y9 v) 0) l2->BfE (pN (rnG (nxS ms u) l1) (rnG (nxS ms v) l2)) (pK 0 0) l->(∀ls:Aj,ls≠[]->(∀x∈ls,x<2^ms.length)->¬Dff ms u v ls)->H' p=some (.tup [.str "same",.ref q])->H' q=some (.tup ws)->StA (.key kn2) H' l ws->ZG H' pw Zw Zt->ZG H' pc Z0 Z1->JA pw pc H H'->Q (.ref p) H'))->((∀p d w r kvs ms l1 l2 H',w<=1000000->BfE (nxS ms u) (0,List.replicate (Y9 u) 0) l1->BfE (nxS ms v) (0,List.replicate (Y9 v) 0) l2->zL u v ms->Ge ms u v w r->H' p=some (.tup [.str "parted",.int (w:Int),.ref d])->H d=none->H' d=some (.dK kvs)->Tab kvs ms (fun y=>(valN (ixG ms y) r:Int))->ZG H' pw Zw Zt->ZG H' pc Z0 Z1->JA pw pc H H'->Q (.ref p) H'))->GZ w pw pc vs H Q
def je(P:An)(w:Ar)(K:Af)(mg:Ae)(base:Heap)(C q:Au):Sp:=fun vs H Q _=>GZ w C q vs H Q
theorem uv:Yx P w K mg base CX0 16 t.ti t.tj ["one","other"] (je P w K mg base t.ae t.aa):=by
 have C:=JE P base T TB;have D:=GY P base T TB;have G:=ur P base T TB;refine T.bp.go zS (by rintro _ _ _ _ ⟨_,_,_,_,rfl,_⟩;rfl) ?_;rintro cdv A outer s H _ Q E hr ⟨t1,t2,u,v,rfl,h1,h2,hSI,h60,hPK,hbig,TW,TC,kS,kP⟩;have hu:=ZK hr;refine⟨_,(Zb (Z4 2 zS.nd (Zj T.aaa G hr (Zh (Zs JZ (qv 0) (qv 1)) Zd)))
   (Zf (Zn (Zj T.cj C hr (Zh (Zj T.ax D hr (Zh (qv 0) (Zh (qv 2) Zd))) (Zh (Zj T.ax D hr (Zh (qv 1) (Zh (qv 2) Zd))) Zd)))))),?_⟩
 refine L2.let2 ?_;intro U1;have hne:t.aa≠t.ae:=T.av.symm;refine⟨_,rfl,_,rfl,t1,t2,u,v,rfl,rfl,h1,h2,Qau (Zy (by rw[Qaf]at h60;lia)),fun c H1 hc1 s1=>?_⟩;refine⟨c,u++v,rfl,hc1,hSI,h60,fun tn H2 Z htn0 htn s2 hpm hsr=>Zi ?_⟩;have N:zL u v Z:=⟨hpm,hsr⟩;obtain⟨J,O⟩:=hPK Z N;have I:=s1.trans s2;refine⟨_,rfl,_,rfl,t1,tn,u,Z,10,_,rfl,I _ _ h1,J.ln,htn,J.nd,J.n3,J.wc,J.en,J.st,J.iz,rfl,J.big,TW.same I,fun m1 l1 H3 B1 M1 TW3 o3=>?_⟩;have TC2:=TC.same I;have TW2:=TW.same I;obtain⟨pz2,hz2⟩:=TW2.ex;have TC3:=TC2.other hne ⟨pz2,hz2⟩ o3;refine⟨_,rfl,_,rfl,t2,tn,v,Z,10,_,rfl,o3.tup hz2 (I _ _ h2),O.ln,o3.tup hz2 htn,O.nd,O.n3,O.wc,O.en,O.st,O.iz,rfl,O.big,TW3,fun m2 l2 H4 B2 M2 TW4 o4=>?_⟩;obtain⟨pz3,hz3⟩:=TW3.ex;have TC4:=TC3.other hne ⟨pz3,hz3⟩ o4;have R1:=J.runs B1;have R2:=O.runs B2;have hk:∀{ws:A0} {l:List (Int×Ak)},∀r∈l.map (otS Z ws),∀x∈r,YY false x:=fun{ws l} r hr x hx=>by
  obtain⟨s,_,rfl⟩:=Qay.mp hr;obtain⟨c,_,rfl⟩:=Qay.mp hx;split
  ·exact .inr ⟨rfl,_,rfl⟩
  ·exact .inr ⟨rfl,_,rfl⟩
 have hnn:(rnG (nxS Z u) l1).length*(rnG (nxS Z v) l2).length<=1000000:=by
  rw[Y8,Y8];exact Qa8 (Nat.mul_le_mul (J.len2 B1) (O.len2 B2)) hbig
 have off:∀{Y:Hp},gR t.aa H4 Y->JA t.ae t.aa H Y:=fun{Y} o5 b o e hb1 hb2=>o5 b o (o4 _ _ (o3 _ _ (I _ _ e) hb1) hb1) hb2;have tw5:∀{Y:Hp},gR t.aa H4 Y->ZG Y t.ae Zw Zt:=fun{Y} o5=>by
  obtain⟨pz4,hz4⟩:=TC4.ex;have at5:∀{b:Au} {o:HO},H4 b=some o->b≠t.aa->(∀kvs,o≠.dK kvs)->Y b=some o:=fun{b o} e hb hn=>by
   rcases o5 b o e hb with z|⟨kvs,_,z,_⟩
   ·exact z
   ·exact absurd z (hn kvs)
  rcases TW4 with h|⟨c',oc,g1,g2,g3⟩
  ·exact .inl (at5 h hne.symm fun _ z=>nomatch z)
  ·exact .inr ⟨c',oc,at5 g1 hne.symm (fun _ z=>nomatch z),at5 g2 (fun z=>by rw[z,hz4]at g2;cases g2) (fun _ z=>nomatch z),g3⟩
 obtain⟨pz3,hz3⟩:=TW3.ex;refine⟨m1,m2,Z,0,0,_,_,_,_,false,rfl,M1.tups (fun b xs e=>o4.tup hz3 e),M2,R1,R2,R1.pos,R2.pos,hnn,J.n3,J.nd,hk,hk,TC4,fun p q l ws Y B hno g1 g2 g3 g4 g5=>?_,fun p d w r kvs l Y hwm B F hw hm g1 g2 g3 g4 g5 g6=>?_⟩
 ·refine kS p q Z l1 l2 l ws Y N B1 B2 B (fun ls hl hls hd=>?_) g1 g2 g3 (tw5 g5) g4 (off g5);obtain⟨t0,c,rfl⟩:=vt hl;have:=(zM J O B1 B2 B hls).mpr hd;rw[hno t0 c hls]at this;cases this
 ·have hdH:H d=none:=by
   cases e:H d with
   |none=>rfl
   |some o=>
    have n1:d≠t.ae:=fun z=>by
     obtain⟨pz4,hz4⟩:=TW4.ex;rw[z,hz4]at g2;cases g2
    have:=o4 _ _ (o3 _ _ (I _ _ e) n1) n1;rw[g2]at this;cases this
  exact kP p d w r kvs Z l1 l2 Y hwm B1 B2 N (Zbz J O B1 B2 B hw F hm) g1 hdH g3 g4 (tw5 g6) g5 (off g6)
inductive qa(pw:Au)(vs:A0)(H:Hp)(Q:VK):Prop
 |mk (f t1 t2 tn:Au) (nm:Ai) (u v:A0):(vs=[.ref f,.ref t1,.ref t2,.ref tn])->(H t1=some (.tup u))->(H t2=some (.tup v))->(H tn=some (.tup (nm.map V.str)))->(Nm3 nm)->(Sm nm u)->(Sm nm v)->(Zo7 H f nm u v)->(ZG H pw Zw Zt)->(∀H',ZG H' pw Zw Zt->gR pw H H'->Q (.bl true) H')->qa pw vs H Q
def uw(P:An)(w:Ar)(K:Af)(mg:Ae)(base:Heap)(q:Au):Sp:=fun vs H Q _=>qa q vs H Q
theorem ux:Yx P w K mg base CX0 16 t.tu t.ui ["found","one","other","names"] (uw P w K mg base t.ae):=by
 have I:=xj P base T TB;have J:=jB P base T TB;have D:=GY P base T TB;have G:=qG P base T TB;refine T.fu.go gZ (by rintro _ _ _ _ ⟨_,_,_,_,_,_,_,rfl,_⟩;rfl) ?_;rintro cdv A outer s H _ Q E Z ⟨f,t1,t2,tn,nm,u,v,rfl,h1,h2,hn,N,S1,S2,hv,TW,k⟩;have hu:=ZK Z;refine⟨_,(Zb (Z9 (Wd (Yt (Zj T.dy G Z (Zh (qv 0) (Zh (qv 3) Zd)))))
   (Zf (Zn Xi)) Zv)
   (Zb (Z9 (Zo Ys (Zq Zr (qv 0) Ze) Zl (Z3 _))
   (Zf (Zn (Zj T.mr J Z (Zh (Zj T.ax D Z (Zh (qv 1) (Zh (qv 3) Zd))) (Zh (Zj T.ax D Z (Zh (qv 2) (Zh (qv 3) Zd))) (Zh (Zq Zr (qv 0) Ze) Zd)))))) Zv)
   (Zb (Z9 (Yt (Zj T.bx I Z (Zh (qv 1) (Zh (qv 2) (Zh (Zq Zr (qv 0) Ze) (Zh (Zq Zr (qv 0) Ze) Zd))))))
   (Zf (Zn Xi)) Zv)
   (Zf (Zn (Zn9 (YI Ys (Zq Zr (qv 0) Ze) Ze (Z3 _)) (xU (Zj T.bx I Z (Zh (qv 1) (Zh (qv 2) (Zh (Zs JG (Zq Zr (qv 0) Ze) Ze) (Zh (Zq Zr (qv 0) Ze) Zd)))))))))))),?_⟩
 refine L2.let4 ?_;intro U3 U2 U1;have P1:=S1.sok N;have Y:=S2.sok N;refine⟨_,rfl,_,rfl,f,tn,nm,u,v,rfl,hn,N.nd,hv,_,rfl,ZU ?_⟩;obtain⟨l1,l2,B,⟨q,l,ws,hf,hq,hp,C,no⟩|⟨d,w,r,kvs,hf,hd,T0,F,hw⟩⟩:=hv
 ·obtain⟨few,hpk⟩:=Zge N S1 S2 B C;refine⟨_,rfl,f,_,0,_,rfl,rfl,SqT.of hf,rfl,rfl,_,rfl,Y4 ?_⟩;refine⟨_,rfl,_,rfl,t1,tn,u,nm,10,_,rfl,h1,P1.ln,hn,P1.nd,P1.n3,P1.wc,P1.en,P1.st,P1.iz,rfl,P1.big,TW,fun m1 k1 H3 B1 M1 TW3 o3=>?_⟩;obtain⟨pz,hz⟩:=TW.ex;refine⟨_,rfl,_,rfl,t2,tn,v,nm,10,_,rfl,o3.tup hz h2,Y.ln,o3.tup hz hn,Y.nd,Y.n3,Y.wc,Y.en,Y.st,Y.iz,rfl,Y.big,TW3,fun m2 k2 H4 B2 M2 TW4 o4=>?_⟩;obtain⟨pz3,hz3⟩:=TW3.ex;cases B.b1.uniq B1;cases B.b2.uniq B2;have t4:∀{b:Au} {xs:A0},H b=some (.tup xs)->H4 b=some (.tup xs):=fun e=>o4.tup hz3 (o3.tup hz e);have M1':=M1.tups fun b xs e=>o4.tup hz3 e;refine⟨_,rfl,f,_,1,_,rfl,rfl,SqT.of (t4 hf),rfl,m1,m2,q,nm,nm,0,0,_,_,_,_,false,prL l,ws,rfl,M1',M2,Zpk.wf P1 ⟨B1,M1'⟩,Zpk.wf Y ⟨B2,M2⟩,t4 hq,⟨hp.1,fun i p hi=>let⟨a,g1,g2⟩:=hp.2 i p hi;⟨a,g1,t4 g2⟩⟩,few,fun r H5 Z s5=>?_⟩;rw[Z.mpr (Zgd N S1 S2 B C no)];exact k H5 (TW4.same s5) (gR.of (fun b o e hb=>o4 _ _ (o3 _ _ e hb) hb) (SmF.of s5))
 have w1:=F.w1;refine⟨_,rfl,f,_,0,_,rfl,rfl,SqT.of hf,rfl,rfl,_,rfl,?_⟩;refine ZU ⟨_,rfl,_,rfl,_,rfl,f,_,1,_,rfl,rfl,SqT.of hf,rfl,_,rfl,f,_,2,_,rfl,rfl,SqT.of hf,rfl,t1,t2,d,w,nm,u,v,kvs,_,rfl,hw,h1,h2,S1,S2,N,.inl hd,T0,fun H1 O=>⟨_,rfl,?_⟩⟩;rw[Qaj (Zio N S1 S2 B F)];refine ZU ⟨_,rfl,f,_,1,_,rfl,rfl,SqT.of (O.tup hf),rfl,rfl,_,rfl,xB (fun _=>k H1 (ZG.smf TW O) (gR.of (fun _ _ e _=>e) O)) fun hb=>?_⟩;refine⟨_,rfl,_,rfl,_,rfl,f,_,1,_,rfl,rfl,SqT.of (O.tup hf),rfl,_,_,rfl,rfl,_,rfl,f,_,2,_,rfl,rfl,SqT.of (O.tup hf),rfl,t1,t2,d,w-1,nm,u,v,kvs,_,by grind,by lia,O.tup h1,O.tup h2,S1,S2,N,O.rd (.inl hd),T0,fun H2 s2=>?_⟩;rw[Qal (wj _ N S1 S2 B fun ls a b c z=>by have:=F.least ls a b z;lia)];exact k H2 (ZG.smf TW (O.trans s2)) (gR.of (fun _ _ e _=>e) (O.trans s2))
inductive Za3(K:Af)(pw pc:Au)(vs:A0)(H:Hp)(Q:VK):Prop
 |mk (a:Au) (ns:Ak):(vs=[.ref a])->(SqL K H a (ns.map V.int))->(ns.length<=63)->(ZG H pw Zw Zt)->(ZG H pc Z0 Z1)->(∀H',Q (.bl true) H')->Za3 K pw pc vs H Q
def sp_law(K:Af)(q C:Au):Sp:=fun vs H Q _=>Za3 K q C vs H Q
theorem ok_law:Yx P w K mg base CX0 17 t.abh t.abi ["script"] (sp_law K t.ae t.aa):=by
 have J:=uv P base T TB;have Y:=ux P base T TB;have G_law_alike:=xj P base T TB;have D:=j6 P base T TB;have G_law_names_in:=zZ P base T TB;have G_law_sum:=Zcj P base T TB;have O:=JQ P base T TB;have G_law_put:=Zcc P base T TB;have G_law_names:=wB P base T TB;refine T.abq.go XR (by rintro _ _ _ _ ⟨_,_,rfl,_⟩;rfl) ?_;rintro cdv A outer s H _ Q E Z ⟨a,ns,rfl,hS,h63,TW,TC,k⟩;have hu:=ZK Z;refine⟨_,(Zb (Z4 1 XR.nd (Zj T.qs G_law_names Z (Zh (Zj T.ak D Z (Zh (qv 0) (Zh Ze Zd))) (Zh (Zs ZN (Zj T.ak D Z (Zh (qv 0) (Zh Ze Zd))) Ze) Zd))))
   (Zb (Z4 2 XR.nd (Zs Yz Ze (Zs ZN (Zs YO (Zj T.ak D Z (Zh (qv 0) (Zh Ze Zd))) Ze) Ze)))
   (Zb (Z4 3 XR.nd (Zj T.iu G_law_sum Z (Zh (Zj T.bh O Z (Zh (Zj T.ak D Z (Zh (qv 0) (Zh Ze Zd))) (Zh (qv 2) (Zh Ze Zd)))) (Zh (qv 1) (Zh Ze Zd)))))
   (Zb (Z4 4 XR.nd (Zj T.aav G_law_put Z (Zh (qv 3) (Zh (qv 1) (Zh (Zp uB (by rfl) T.abk Zjr (Zh (Zj T.ak D Z (Zh (qv 0) (Zh Ze Zd))) Zd)) Zd)))))
   (Zb (Z9 (Zo Ys (Zs ZN (Zs YO (Zj T.ak D Z (Zh (qv 0) (Zh Ze Zd))) Ze) Ze) Ze (Z3 _))
   (Zf (Z4 4 XR.nd (Zj T.iu G_law_sum Z (Zh (Zj T.bh O Z (Zh (Zj T.ak D Z (Zh (qv 0) (Zh Ze Zd))) (Zh (qv 2) (Zh Ze Zd)))) (Zh (qv 1) (Zh Ze Zd)))))) Zv)
   (Zb (Z4 5 XR.nd (Zj T.ip G_law_names_in Z (Zh (Zs JZ (qv 3) (qv 4)) (Zh (qv 1) Zd))))
   (Zb (Z4 6 XR.nd (Yq (Zh (Y5 (SlR.or uC y6) (qv 3) YJ YJ) (Zh (Y5 (SlR.or uC y6) (qv 4) YJ YJ) Zd))))
   (Zb (Z4 7 XR.nd (Zj T.bp J Z (Zh (qv 3) (Zh (qv 4) Zd))))
   (Zb (Z9 (WZ (Wc (Wd (Yt (Zj T.fu Y Z (Zh (qv 7) (Zh (qv 3) (Zh (qv 4) (Zh (qv 5) Zd))))))) (WD (Zo (Zj4 (kr Z)) (Yq (Zh (qv 3) (Zh (qv 4) Zd))) (qv 6) (Z3 _)))))
   (Zf (Zn Xi)) Zv)
   (Zb (Yk Qa7 rfl (YC rfl T.au (Zh Ze Zd)) (YB 8 XR.nd)
   (Zb (Z4 9 XR.nd (Zs Yz Ze (Zs ZN (Zj T.ak D Z (Zh (qv 0) (Zh (Zs Yz Ze (qv 8)) Zd))) Ze)))
   (Zf (Z9 (WZ (Wc (Zo Ys (Zq Zr (qv 7) Ze) Zl (Z3 _)) (WD (Zo yx (qv 9) (Zq Zr (qv 7) Ze) (Z3 _)))))
   (Zb (Z4 10 XR.nd qh)
   (Zb (Yk Qa7 rfl (YC rfl T.au (Zh (Zp Zu (by rfl) T.af ZT (Zh (qv 5) Zd)) Zd)) (YB 11 XR.nd)
   (Zf (Jd hu (qv 10) (Zq Zr (qv 5) (qv 11)) (Zj T.ak D Z (Zh (qv 0) (Zh (Zs Yz (Zs Yz Ze (Zs Wr Ze (qv 11))) (qv 8)) Zd))) rfl)))
   (Zf (Z9 (Wd (Yt (Zj T.bx G_law_alike Z (Zh (qv 3) (Zh (qv 4) (Zh (qv 9) (Zh (qv 10) Zd)))))))
   (Zf (Zn Xi)) Zv)))) Zv))))
   (Zb (Z4 12 XR.nd (Zj T.bp J Z (Zh (qv 4) (Zh (qv 3) Zd))))
   (Zb (Z9 (WZ (Wc (Wd (Yt (Zj T.fu Y Z (Zh (qv 12) (Zh (qv 4) (Zh (qv 3) (Zh (qv 5) Zd))))))) (Wc (Zo vC (Zq Zr (qv 12) Ze) (Zq Zr (qv 7) Ze) (Z3 _)) (WD (WZ (vQ (Zo Ys (Zq Zr (qv 12) Ze) Zl (Z3 _)) (xT (Zo (Zj4 (kr Z)) (qv 12) (qv 7) (Z3 _)))))))))
   (Zf (Zn Xi)) Zv)
   (Zf (Zn (vR (YI Ys (Zq Zr (Zj T.bp J Z (Zh (qv 3) (Zh (qv 3) Zd))) Ze) Zl (Z3 _)) (xU (YI Ys (Zq Zr (Zj T.bp J Z (Zh (qv 4) (Zh (qv 4) Zd))) Ze) Zl (Z3 _)))))))))))))))))),?_⟩
 try dsimp only[L2.cxK,L2.cxK2]
 refine L2.let13 ?_;intro U12 U11 U10 U9 U8 U7 U6 U5 U4 U3 U2 U1;have hne:t.aa≠t.ae:=T.av.symm;refine⟨_,rfl,a,ns,1,rfl,hS,fun c1=>⟨_,rfl,a,ns,0,rfl,hS,fun c0=>⟨_,_,rfl,rfl,(by show(0:Int)<4;decide),c1,(c0%4).toNat,by show[V.int c1,V.int (c0%4)]=_;rw[Qep (by lia)],by lia,fun tn ys H1 htn0 htn hl hnd hnm hso s1=>Zi ?_⟩⟩⟩;have N:Nm3 ys:=⟨by lia,hnd,hnm,hso⟩;have n3:=N.n3;have hS1:=GH hS s1;refine⟨_,rfl,a,ns,0,rfl,hS1,fun c2=>⟨_,_,rfl,rfl,.of (by decide) (by decide),_,_,rfl,rfl,(by show(0:Int)<5;decide),_,_,rfl,rfl,Zi ?_⟩⟩;try dsimp only
 obtain⟨m,hm,m1,m5⟩:∃m:Nat,1+c2/4%5=(m:Int)/\1<=m/\m<=5:=⟨(1+c2/4%5).toNat,by lia,by lia,by lia⟩;rw[hm];refine⟨_,rfl,a,ns,2,rfl,hS1,fun c3=>⟨_,rfl,c3,m,20000,rfl,by lia,by decide,by decide,fun pn ms H2 hpn0 hpn hml hmb s2=>⟨_,rfl,pn,tn,ms,ys,2,rfl,hpn,by lia,by lia,fun x hx=>(hmb x hx).1,s2 _ _ htn,n3,N.kp,fun t1 u H3 I hul huw hue hus hur s3=>Zi ?_⟩⟩⟩;have S1:Sm ys u:=⟨huw,hue,hus,by lia,by lia⟩;have s13:=s2.trans s3;have hS3:=GH hS1 s13;have htn3:=s13 _ _ htn;refine⟨_,rfl,_,rfl,_,rfl,a,ns,3,rfl,hS3,fun c4=>⟨_,rfl,t1,tn,u,ys,_,rfl,by split<;>lia,I,htn3,N,S1,hur,fun t2 v H4 G S2 s4=>Zi ?_⟩⟩;refine yQ (fun σ H'=>∃(t2:Au) (v:A0),σ=[some (.ref a),some (.ref tn),some (.int (m:Int)),some (.ref t1),some (.ref t2),none,none,none,none,none,none,none,none]/\H' t2=some (.tup v)/\Sm ys v/\Z8 H3 H') (fun N' hN=>?_) ?_
 ·have hS4:=GH hS3 s4;refine⟨_,rfl,a,ns,0,rfl,hS4,fun c5=>⟨_,_,rfl,rfl,.of (by decide) (by decide),_,_,rfl,rfl,(by show(0:Int)<4;decide),rfl,_,rfl,xB (fun _=>?_) (fun _=>hN _ _ ⟨t2,v,rfl,G,S2,s4⟩)⟩⟩;refine⟨_,rfl,a,ns,3,rfl,hS4,fun c3=>⟨_,rfl,c3,m,20000,rfl,by lia,by decide,by decide,fun pn ms H5 hpn0 hpn hml hmb s5=>⟨_,rfl,pn,tn,ms,ys,2,rfl,hpn,by lia,by lia,fun x hx=>(hmb x hx).1,s5 _ _ (s4 _ _ htn3),n3,N.kp,fun t2 v H6 G hvl hvw hve hvs hvr s6=>Zi (hN _ _ ⟨t2,v,rfl,G,⟨hvw,hve,hvs,by lia,by lia⟩,s4.trans (s5.trans s6)⟩)⟩⟩⟩
 rintro σ H4 ⟨t2,v,rfl,G,S2,s4⟩;have I:=s4 _ _ I;have lu:=S1.ln;have lv:=S2.ln;have si:∀x∈u++v,kE x:=fun x h=>(Qbb.mp h).elim (S1.si N x) (S2.si N x);refine⟨_,rfl,_,rfl,t1,t2,_,_,rfl,rfl,I,G,Qau (Zy (by lia)),fun tc H5 hc5 s5=>⟨_,rfl,tc,tn,u++v,ys,rfl,hc5,si,s5 _ _ (s4 _ _ htn3),n3,fun tq H6 hq6 s6=>Zi ?_⟩⟩;have s46:=s5.trans s6;have I:=s46 _ _ I;have G:=s46 _ _ G;have M:=N.sub (Qgi:(nmF ys (u++v)).Sublist ys);have S1':Sm (nmF ys (u++v)) u:=S1.to fun w h=>Qb3 _ h;have S2':Sm (nmF ys (u++v)) v:=S2.to fun w h=>Qaz _ h;refine⟨_,rfl,.inr ⟨t1,u,rfl,SqT.of I,⟨rfl,rfl⟩,⟨_,rfl,.inr ⟨t2,v,rfl,SqT.of G,⟨rfl,rfl⟩,⟨uy,fun kp hkp=>Zi ?_⟩⟩⟩⟩⟩;have s7:=Zc (o:=.lst [V.ref t1,V.ref t2]) hkp;have hk7:=Za (H:=H6) (a:=kp) (o:=.lst [V.ref t1,V.ref t2]);generalize upd H6 kp (.lst [V.ref t1,V.ref t2])=H7 at *;have s17:=(s1.trans s13).trans ((s4.trans s46).trans s7);have hS7:=GH hS s17;have TW7:=TW.same s17;have TC7:=TC.same s17;have I:=s7 _ _ I;have G:=s7 _ _ G;have hq7:=s7 _ _ hq6;have cmp:∀{x y:Au} {p q:A0} {Ha:Hp} {Qc:VK} {Ec:XK},Ha x=some (.tup p)->Ha y=some (.tup q)->Sm ys p->Sm ys q->ZG Ha t.ae Zw Zt->ZG Ha t.aa Z0 Z1->(∀f Hb,Zo7 Hb f (nmF ys (p++q)) p q->ZG Hb t.ae Zw Zt->ZG Hb t.aa Z0 Z1->JA t.ae t.aa Ha Hb->Qc (.ref f) Hb)->je P w K mg base t.ae t.aa [.ref x,.ref y] Ha Qc Ec:=by
  intro x y p q Ha Qc Ec hx hy Sp Sq TWa TCa kc;have Nn:=N.sub (Qgi:(nmF ys (p++q)).Sublist ys);have Sp':Sm (nmF ys (p++q)) p:=Sp.to fun w h=>Qb3 _ h;have Sq':Sm (nmF ys (p++q)) q:=Sq.to fun w h=>Qaz _ h;have c1:2^Y9 p<=2^3:=Qdf (by decide) Sp.rm;have c2:2^Y9 q<=2^3:=Qdf (by decide) Sq.rm;refine⟨x,y,p,q,rfl,hx,hy,fun z h=>(Qbb.mp h).elim (Sp.si N z) (Sq.si N z),by rw[Qaf];have:=Sp.ln;have:=Sq.ln;lia,fun ms h=>by rw[zN N Sp Sq h];exact⟨Sp'.sok Nn,Sq'.sok Nn⟩,Qa8 (Nat.mul_le_mul (Nat.mul_le_mul_left 11 c1) (Nat.mul_le_mul_left 11 c2)) (by decide),TWa,TCa,fun f q' ms l1 l2 l ws Hb h B1 B2 C no e1 e2 e3 e4 e5 e6=>?_,fun f d w r kvs ms l1 l2 Hb hw B1 B2 h F e1 e2 e3 e4 e5 e6 e7=>?_⟩
  ·obtain rfl:=zN N Sp Sq h;exact kc f Hb ⟨l1,l2,⟨B1,B2⟩,.inl ⟨q',l,ws,e1,e2,Zng e3 (Zge Nn Sp' Sq' ⟨B1,B2⟩ C).2,C,no⟩⟩ e4 e5 e6
  ·obtain rfl:=zN N Sp Sq h;exact kc f Hb ⟨l1,l2,⟨B1,B2⟩,.inr ⟨d,w,r,kvs,e1,e3,e4,F,hw⟩⟩ e5 e6 e7
 refine⟨_,rfl,_,rfl,?_⟩;unfold Zk7;refine cmp I G S1 S2 TW7 TC7 fun f H8 VD TW8 TC8 o8=>Zi ?_;have I:=o8.tup TW7 TC7 I;have G:=o8.tup TW7 TC7 G;have hq8:=o8.tup TW7 TC7 hq7;refine⟨_,rfl,_,rfl,_,rfl,_,rfl,f,t1,t2,tq,_,u,v,rfl,I,G,hq8,M,S1',S2',VD,TW8,fun H9 TW9 o9=>⟨_,rfl,ZU ⟨_,rfl,_,rfl,uy,fun lz hlz=>⟨_,rfl,lz,kp,[V.ref t1,V.ref t2],[V.ref t1,V.ref t2],rfl,rfl,.inr ⟨SqL.of Za,SqL.of (Zc hlz _ _ (o9.g.lst TW8 TC8 (o8.lst TW7 TC7 hk7))),rfl⟩,rfl,(fun j x y h1 h2=>?_),_,rfl,ZU ?_⟩⟩⟩⟩
 ·rw[h1]at h2;cases h2
  match j,h1 with
  |0,rfl=>exact .inr (.inl ⟨_,rfl,rfl⟩)
  |1,rfl=>exact .inr (.inl ⟨_,rfl,rfl⟩)
 have TC9:=ZG.offF TW8 TC8 hne o9;have sz:=Zc (o:=.lst [V.ref t1,V.ref t2]) hlz;have TWz:=TW9.same sz;have TCz:=TC9.same sz;have oz:JA t.ae t.aa H8 (upd H9 lz (.lst [V.ref t1,V.ref t2])):=JA.trans o9.g (JA.smf (SmF.of sz));have hSz:=oz.sq TW8 TC8 (o8.sq TW7 TC7 hS7);have I:=oz.tup TW8 TC8 I;have G:=oz.tup TW8 TC8 G;have hqz:=oz.tup TW8 TC8 hq8;generalize upd H9 lz (.lst [V.ref t1,V.ref t2])=Hz at *;obtain⟨l1,l2,B,VD⟩:=VD;have nl:(nmF ys (u++v)).length<=3:=M.n3;refine⟨2,rfl,by decide,by decide,Wb (fun i σ H'=>∃u8 u9 u10 u11,σ=[some (.ref a),some (.ref tn),some (.int (m:Int)),some (.ref t1),some (.ref t2),some (.ref tq),some (.ref kp),some (.ref f),u8,u9,u10,u11,none]/\SmF Hz H') ⟨none,none,none,none,rfl,SmF.refl _⟩ ?_ ?_⟩
 ·rintro i σ Ha hi ⟨u8,u9,u10,u11,rfl,sa⟩;have oa:JA t.ae t.aa Hz Ha:=JA.smf sa;have hSa:=oa.sq TWz TCz hSz;refine Zi ⟨_,rfl,_,rfl,_,_,rfl,rfl,a,ns,4+i,?_,hSa,fun c=>⟨_,_,rfl,rfl,(by show(0:Int)<60;decide),_,_,rfl,rfl,Zi ?_⟩⟩
  ·show[V.ref a,V.int (4+(0+(i:Int)))]=[V.ref a,V.int ((4+i:Nat):Int)];congr 3;lia
  obtain⟨W,hW,W1,W60⟩:∃W:Nat,1+c%60=(W:Int)/\1<=W/\W<=60:=⟨(1+c%60).toNat,by lia,by lia,by lia⟩;try dsimp only
  rw[hW];refine ifS_go (∀ls:Aj,ls≠[]->(∀x∈ls,x<2^(nmF ys (u++v)).length)->ls.length<=W->¬Dff (nmF ys (u++v)) u v ls) (fun Q' hT hF=>?_) (fun no=>?_) ⟨_,_,_,_,rfl,sa⟩
  ·rcases VD with⟨q,l,ws,hf,_,_,_,no⟩|⟨d,w,r,kvs,hf,_,_,F,_⟩
   ·have hf:=sa.tup (oz.tup TW8 TC8 hf);exact⟨_,rfl,f,_,0,_,rfl,rfl,SqT.of hf,rfl,rfl,_,rfl,Y4 (hT fun ls x y _=>no ls x y)⟩
   ·have hf:=sa.tup (oz.tup TW8 TC8 hf);refine⟨_,rfl,f,_,0,_,rfl,rfl,SqT.of hf,rfl,rfl,_,rfl,?_⟩;rw[Qaj (by intro z;injection z with z;exact absurd z (by decide +kernel))];refine ZU ⟨_,rfl,_,rfl,f,_,1,_,rfl,rfl,SqT.of hf,rfl,_,_,rfl,rfl,_,rfl,?_⟩
    by_cases z:(W:Int)<(w:Int)
    ·rw[Qal z];exact hT fun ls x y h e=>by have:=F.least ls x y e;lia
    ·rw[Qaj z];exact hF
  ·refine fun d hd=>Zi ?_
   have sd:=Zc (o:=.dK []) hd;have hqa:=sa.tup hqz;have eN:((((nmF ys (u++v)).map V.str).length:Nat):Int).toNat=(nmF ys (u++v)).length:=by rw[Qav,Qad]
   refine⟨_,rfl,tq,_,rfl,.inr (SqT.of (sd _ _ hqa)),_,rfl,by rw[Qad];lia,by rw[Qad];lia,Wb (fun i' σ H2=>∃u11 kvs g,σ=[some (.ref a),some (.ref tn),some (.int (m:Int)),some (.ref t1),some (.ref t2),some (.ref tq),some (.ref kp),some (.ref f),some (.int (0+(i:Int))),some (.int (W:Int)),some (.ref d),u11,none]/\H2 d=some (.dK kvs)/\Tab kvs ((nmF ys (u++v)).take i') g/\Z8 Ha H2) ⟨_,[],fun _=>0,rfl,Za,.nil,sd⟩ ?_ ?_⟩
   ·rintro i' σ H2 hi' ⟨u11,kvs,g,rfl,h2,T2,s2'⟩;rw[eN]at hi';have hy:(nmF ys (u++v))[i']?=some (nmF ys (u++v))[i']:=Qac hi';have hat:atI ((nmF ys (u++v)).map V.str) (0+(i':Int))=some (.str (nmF ys (u++v))[i']):=by
     rw[Qe1];exact Ya (by rw[Qam,hy];rfl)
    have few:=T2.few;rw[Qas]at few;refine Zi ⟨_,rfl,_,rfl,_,_,rfl,rfl,.inr (.inl ⟨by decide,by decide⟩),_,_,rfl,rfl,_,rfl,_,_,rfl,rfl,a,ns,6+2*i'+i,?_,GH hSa s2',fun c=>⟨_,rfl,_,rfl,_,rfl,tq,_,_,_,rfl,rfl,SqT.of (s2' _ _ hqa),hat,d,_,rfl,uN.k (k:=.inr (nmF ys (u++v))[i']) h2 (Zy (by lia)),_,_,fun x=>if x=(nmF ys (u++v))[i']then c else g x,rfl,Za,by rw[take_snoc hy];exact T2.put _ _,ZY s2' hd⟩⟩;show[V.ref a,V.int (6+2*(0+(i':Int))+(0+(i:Int)))]=[V.ref a,V.int ((6+2*i'+i:Nat):Int)];congr 3;lia
   ·rintro σ H2 ⟨u11,kvs,g,rfl,h2,T2,s2'⟩;rw[eN,Qbf]at T2;refine⟨_,rfl,_,rfl,_,rfl,_,rfl,t1,t2,d,W,_,u,v,kvs,g,rfl,by lia,s2' _ _ (sa.tup I),s2' _ _ (sa.tup G),S1',S2',M,.inl h2,T2,fun H3 s3'=>⟨_,rfl,?_⟩⟩;rw[Qal (wj g M S1' S2' B no)];exact ZU ⟨_,_,_,_,rfl,sa.trans ((SmF.of s2').trans s3')⟩
 rintro σ Ha ⟨u8,u9,u10,u11,rfl,sa⟩;have oa:JA t.ae t.aa Hz Ha:=JA.smf sa;have TWa:=ZG.smf TWz sa;have TCa:=ZG.smf TCz sa;have I:=sa.tup I;have G:=sa.tup G;have hqa:=sa.tup hqz;refine⟨_,rfl,_,rfl,?_⟩;unfold Zk7;refine cmp G I S2 S1 TWa TCa fun g Hb VB TWb TCb ob=>Zi ?_;rw[Ziq]at VB;have I:=ob.tup TWa TCa I;have G:=ob.tup TWa TCa G;have hqb:=ob.tup TWa TCa hqa;refine⟨_,rfl,_,rfl,_,rfl,_,rfl,g,t2,t1,tq,_,v,u,rfl,G,I,hqb,M,S2',S1',VB,TWb,fun Hc TWc oc=>⟨_,rfl,ZU ?_⟩⟩;have TCc:=ZG.offF TWb TCb hne oc;have I:=oc.g.tup TWb TCb I;have G:=oc.g.tup TWb TCb G;have obc:=ob.trans oc.g;have tf:∀{b:Au} {xs:A0},H8 b=some (.tup xs)->Hc b=some (.tup xs):=fun e=>obc.tup TWa TCa (sa.tup (oz.tup TW8 TC8 e));have rest:U12 {nx:=fun _ H'=>Q V.non H',rt:=Q} [some (.ref a),some (.ref tn),some (.int (m:Int)),some (.ref t1),some (.ref t2),some (.ref tq),some (.ref kp),some (.ref f),u8,u9,u10,u11,some (.ref g)] Hc:=by
  refine⟨_,rfl,_,rfl,?_⟩;unfold Zk7;refine cmp I I S1 S1 TWc TCc fun f1 Hd V1 TWd TCd od=>?_;obtain⟨q1,e1⟩:=V1.self;refine⟨f1,_,0,_,rfl,rfl,SqT.of e1,rfl,rfl,_,rfl,Y4 ⟨_,rfl,_,rfl,?_⟩⟩;refine cmp (od.tup TWc TCc G) (od.tup TWc TCc G) S2 S2 TWd TCd fun f2 He V2 _ _ _=>?_;obtain⟨q2,e2⟩:=V2.self;exact⟨f2,_,0,_,rfl,rfl,SqT.of e2,rfl,rfl,k _⟩
 obtain⟨_,_,_,VB⟩:=VB;rcases VD with⟨q,l,ws,hf,_,_,_,no⟩|⟨d,w,r,kvs,hf,hd,Td,F,_⟩
 ·rcases VB with⟨q',_,_,hg,_⟩|⟨_,_,r',_,_,_,_,F',_⟩
  ·have hf:=tf hf;have hg:=oc.g.tup TWb TCb hg;refine⟨_,rfl,g,_,0,_,rfl,rfl,SqT.of hg,rfl,_,rfl,f,_,0,_,rfl,rfl,SqT.of hf,rfl,rfl,_,rfl,ZU ⟨_,rfl,g,_,0,_,rfl,rfl,SqT.of hg,rfl,rfl,_,rfl,?_⟩⟩;rw[Qaj (by intro z;injection z with z;exact absurd z (by decide +kernel))];exact ZU (ZU rest)
  ·exact absurd F'.df.swap (no r' (fun z=>by have:=F'.w1;have e:=F'.len;rw[z]at e;have:0=_:=e;lia) F'.lt)
 ·rcases VB with⟨q',_,_,_,_,_,_,no⟩|⟨d',w',r',kvs',hg,hd',Td',F',_⟩
  ·exact absurd F.df.swap (no r (fun z=>by have:=F.w1;have e:=F.len;rw[z]at e;have:0=_:=e;lia) F.lt)
  ·obtain⟨rfl,rfl⟩:=F.same F';have hf:=tf hf;have hg:=oc.g.tup TWb TCb hg;have rd:=obc.rd TWa TCa (sa.rd (oz.rd TW8 TC8 (.inl hd)));have rd':=oc.g.rd TWb TCb (.inl hd');obtain⟨g1,g2⟩:=tab_eq Td' Td M.nd;refine⟨_,rfl,g,_,0,_,rfl,rfl,SqT.of hg,rfl,_,rfl,f,_,0,_,rfl,rfl,SqT.of hf,rfl,rfl,_,rfl,ZU ⟨_,rfl,g,_,0,_,rfl,rfl,SqT.of hg,rfl,rfl,_,rfl,Y4 ⟨_,rfl,_,rfl,g,f,_,_,rfl,rfl,.inl ⟨SqT.of hg,SqT.of hf⟩,rfl,(fun j x y h1 h2=>?_),_,rfl,ZU rest⟩⟩⟩
   match j,h1,h2 with
   |0,rfl,rfl=>exact .inl ⟨rfl,rfl⟩
   |1,rfl,rfl=>exact .inl ⟨rfl,rfl⟩
   |2,rfl,rfl=>exact .inr (.inr ⟨d',d,kvs',kvs,rfl,rfl,rd',rd,g1,g2⟩)
end
def oF(K:Af)(f:Au):Obj:=(K.lookup f).getD default
def fx(K:Af)(f:Au):Am:=match (oF K f).data with
 |.func g=>g
 |_=>default
abbrev fn0(K:Af)(x:Str)(st:Aw)(f:Au):Am:=PySem.W.fnOf x x (WY st) (Xv st) (Zg st) .none (fx K f).kwdefaults (fx K f).doc (fx K f).pyModule (fx K f).annotations (fx K f).code (fx K f).closureTuple
abbrev FiE(K:Af)(x:Str)(st:Aw)(f:Au):Prop:=(PySem.W.nsIn K mainGlobals x,K.lookup f,PySem.W.codeIn K (fx K f).code x,PySem.W.keepIn K (.ref f))=(some (some (.ref f)),some ⟨(oF K f).cls,(oF K f).dict,.func (fn0 K x st f),(oF K f).slots⟩,true,true)
theorem Zo8{st:Aw}(e:FiE K x st f):fx K f=fn0 K x st f:=
 congrArg (fun o:Option Obj=>match (o.getD default).data with|.func g=>g|_=>default) (congrArg (fun z=>z.2.1) e)
def de{mg:Ae}{st:Aw}{ps:Ai}(X:K.In j)(G:j.Ns mainGlobals mg)(e:FiE K x st f)
  (h:∀(kV C I:As) (J:Option Au) (D ct:As) (q:Ag),q.length=ps.length->bindArgs (PySem.W.fnOf x x (WY st) (Xv st) (Zg st) .none kV C I J D ct) ⟨q,[]⟩=pure (ps.zip q):=by first|(show∀_ _ _ _ _ _ q,List.length q=1->_;exact fun _ _ _ _ _ _=>L2.len1 fun _=>rfl)|(show∀_ _ _ _ _ _ q,List.length q=2->_;exact fun _ _ _ _ _ _=>L2.len2 fun _ _=>rfl)|(show∀_ _ _ _ _ _ q,List.length q=3->_;exact fun _ _ _ _ _ _=>L2.len3 fun _ _ _=>rfl)|(show∀_ _ _ _ _ _ q,List.length q=4->_;exact fun _ _ _ _ _ _=>L2.len4 fun _ _ _ _=>rfl)|(show∀_ _ _ _ _ _ q,List.length q=5->_;exact fun _ _ _ _ _ _=>L2.len5 fun _ _ _ _ _=>rfl)):Df K mg x st ps f (fx K f):=by
 have F:=fun_mk (st:=st) (congrArg (fun z=>z.2.1) e) (congrArg (fun z=>z.2.2.1) e) (congrArg (fun z=>z.2.2.2) e);exact Eq.mp (congrArg (Df K mg x st ps f) (Zo8 e).symm) ⟨F,PySem.W.mg_of X G (congrArg (·.1) e),F.binds h⟩
def mkE(P:Params):List (Str×Int)->List (Nat×Nat)->List DictEntry
 |x::l,t::r=>⟨PyData.keyHash P x.1,.str x.1 t.1,.int x.2 t.2⟩::mkE P l r
 |_,_=>[]
theorem Zgj(P:Params):∀(l:List (Str×Int)) (r:List (Nat×Nat)),l.length=r.length->KTab P (mkE P l r) l
 |[],[],_=>.nil
 |_::l,_::r,h=>.cons (Zgj P l r (Nat.succ.inj h))
theorem kgo{mg:Ae}{l:List (Str×Int)}(X:K.In j)(G:j.Ns mainGlobals mg)(r:List (Nat×Nat))(n:Nat)
  (e:(PySem.W.nsIn K mainGlobals x,K.lookup a)=(some (some (.ref a)),some ⟨.type "dict",none,.dict (Array.mk (mkE w.params l r)) n,#[]⟩)) (D:l.length=r.length) (q:(l.map (·.1)).Nodup) (C:(a == sysModules)=false):Kg K w mg x a l:=
 ⟨PySem.W.mg_of X G (congrArg (·.1) e),⟨⟨_,_,congrArg (·.2) e,Zgj _ l r D⟩,q,C⟩⟩
def sV:Nat->List Str->List As
 |_,[]=>[]
 |t,x::l=>.str x t::sV (t+1) l
theorem Zgk:∀(l:Ai) (t:Nat),Vals (l.map V.str) (sV t l)
 |[],_=>.nil
 |_::l,t=>.cons ⟨_,rfl⟩ (Zgk l (t+1))
theorem kto{mg:Ae}{l:Ai}(X:K.In j)(G:j.Ns mainGlobals mg)(t:Nat)
  (e:(PySem.W.nsIn K mainGlobals x,K.lookup a)=(some (some (.ref a)),some ⟨.type "tuple",none,.seq (Array.mk (sV t l)) 0,#[]⟩)) (q:(sV t l).length<=sizeLine):Kt K mg x a l:=
 ⟨PySem.W.mg_of X G (congrArg (·.1) e),fun _=>.inr ⟨_,_,_,congrArg (·.2) e,rfl,rfl,q,Zgk l t⟩⟩
def KK(w:Ar):Af:=L2.noT (Hw.K w.params)
set_option maxHeartbeats 0 in
theorem all_mk {l:W.OpenLaw} {w:Ar} {h:Heap} {mg:Ae} {fa:Au} (X:(KK w).In h) (G:h.Ns mainGlobals mg) (hfa:mg "law" = some (.ref fa)):
  ∃fd:Am,(∀(s:Aq) (v:As),BindsTo s fd ⟨[v],[]⟩ [("script",v)])/\∀base:Heap,(KK w).In base->base.Ns mainGlobals mg->(∀q∈([(227,225),(256,252)]:List (Au×Au)),W.CodeHd base q.1 q.2)->yK mg base->Yx l.prog w (KK w) mg base CX0 17 fa fd ["script"] (sp_law (KK w) 225 252):=by
 cases hfa.symm.trans (W.mg_of X G (show W.nsIn (KK w) mainGlobals "law" = some (some (.ref 410)) by kernel_rfl));have T:Txt (KK w) w mg ⟨21,fx (KK w) 21,28,fx (KK w) 28,60,fx (KK w) 60,84,fx (KK w) 84,89,fx (KK w) 89,101,fx (KK w) 101,113,fx (KK w) 113,123,fx (KK w) 123,130,fx (KK w) 130,137,fx (KK w) 137,144,fx (KK w) 144,156,fx (KK w) 156,176,fx (KK w) 176,202,fx (KK w) 202,216,fx (KK w) 216,233,fx (KK w) 233,238,fx (KK w) 238,264,fx (KK w) 264,269,fx (KK w) 269,276,fx (KK w) 276,283,fx (KK w) 283,290,fx (KK w) 290,297,fx (KK w) 297,309,fx (KK w) 309,316,fx (KK w) 316,321,fx (KK w) 321,335,fx (KK w) 335,342,fx (KK w) 342,356,fx (KK w) 356,375,fx (KK w) 375,382,fx (KK w) 382,389,fx (KK w) 389,65,fx (KK w) 65,94,fx (KK w) 94,151,fx (KK w) 151,163,fx (KK w) 163,181,fx (KK w) 181,195,fx (KK w) 195,209,fx (KK w) 209,302,fx (KK w) 302,328,fx (KK w) 328,349,fx (KK w) 349,363,fx (KK w) 363,77,fx (KK w) 77,168,fx (KK w) 168,243,fx (KK w) 243,370,fx (KK w) 370,396,fx (KK w) 396,70,fx (KK w) 70,188,fx (KK w) 188,106,fx (KK w) 106,228,fx (KK w) 228,257,fx (KK w) 257,223,fx (KK w) 223,250,fx (KK w) 250,403,fx (KK w) 403,410,fx (KK w) 410,227,225,256,252,114,115,116,407,409,169⟩:=by
  constructor
  ·exact kgo X G [(344,345),(346,347),(348,349),(350,351),(352,353),(354,355),(356,357),(358,359),(360,361),(362,363)] 10 (by kernel_rfl) rfl (by decide +kernel) rfl
  ·exact kgo X G [(375,376),(377,378),(379,380),(381,382),(383,384)] 5 (by kernel_rfl) rfl (by decide +kernel) rfl
  ·exact kgo X G [(391,392),(393,394),(395,396),(397,398),(399,400)] 5 (by kernel_rfl) rfl (by decide +kernel) rfl
  ·exact W.mg_of X G (by kernel_rfl)
  ·exact W.mg_of X G (by kernel_rfl)
  ·exact kto X G 469 (by kernel_rfl) (by show _<=_;decide)
  all_goals first|exact de X G (by kernel_rfl)|exact W.mg_none_of X G (by kernel_rfl)|exact Nat.ne_of_beq_eq_false rfl|kernel_rfl
 exact⟨_,fun s v=>Zo8 (show FiE (KK w) "law" Zmg 410 by kernel_rfl) ▸ .of_eq rfl,fun base hKb _ hC hB=>ok_law _ _ T ⟨hC (227,225) (by simp),hC (256,252) (by simp),hB⟩⟩
end Lw
end
open PySem PySem.W PyProof.Rows
set_option maxRecDepth 100000 in
set_option maxHeartbeats 0 in
theorem PySem.Challenge.cw_everywidth_k22_compared_holds : PySem.Challenge.rw_everywidth_k22_compared.Holds := by
 w_on;refine holds_law Hw.ws fun said=>?_
 refine holds_openX Hw.left (fun s e=>xl_of s (Qf3.mp e).1) XL.keeps
  (by rfl) (by rfl) (by rfl)
  (fun s e=>recFacts_of (Qf3.mp e).2) (by rfl)
  (by first|assumption|decide +kernel) (by decide +kernel) ⟨rfl,rfl,rfl,rfl,rfl,by decide +kernel⟩ ?hw ?_
 (case hw=>w_witness2)
 refine L2.walk_X (fun _=>by kernel_rfl) ?_
 exact L2.walk_ofT (K:=fun P=>L2.noT (Hw.K P)) (n:=63) (k:=17) (x:= "script") (CX:=fun _=>L2.CX0) (sp:=fun w=>Lw.sp_law (Lw.KK w) 225 252) rfl (by decide) rfl ⟨rfl,by decide,by decide⟩ (fun w h Y=>L2.in_noT (by kernel_rfl) Y) (fun w mean mg mb h T X=>List.forall_mem_cons.mpr ⟨PySem.W.tab_of (x:=PySem.Str.ofString "machine_telling") (c:=227) (P:=225) T X rfl (by kernel_rfl),List.forall_mem_cons.mpr ⟨PySem.W.tab_of (x:=PySem.Str.ofString "machines_compared") (c:=256) (P:=252) T X rfl (by kernel_rfl),List.forall_mem_nil _⟩⟩) (fun w=>L2.noT_ok _) (fun w mg fa h X G e=>Lw.all_mk X G e) (fun _ _ a ns hl hT hS=>⟨a,ns,rfl,hS,hl,.inl (hT (227,225) (by simp)),.inl (hT (256,252) (by simp)),fun _=>rfl⟩) fun _ _ _ _ _ z=>z
#print axioms PySem.Challenge.cw_everywidth_k22_compared_holds
