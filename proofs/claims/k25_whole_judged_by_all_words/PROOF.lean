import PyProof.Rows.All
import Wide.All
import OpenK.AllK
import Wide.FinOn
import Lean
import PyProof.EqAt
import PyProof.EqKinds
import PyProof.TupleCall
import PyProof.NeKinds
import KE.KRevSl
import KE.KRevIter
import PyProof.FactsAll.tuple
import PyProof.Rows.SortWalk
import PyProof.Rows.StrJoin2
import PyProof.StrBlockH
import PyProof.StrWalks
import PyProof.StrCalls2
import PyProof.ConsumeWalk
import KE.KIntText
import PyProof.Rows.SortStr
import PyProof.EnumStmt
import PyProof.WalksMore
import PyProof.ZipIter
import KE.KEqDict
import PyProof.DictWalks
import KE.KLam
import PyProof.Rows.SortShellK
import PyProof.AttrMissHeap
import KE.KDictOf
import PyProof.CollectWalk
import PyProof.ListNew
import KE.KSortTup
import PyProof.Rows.TupDisplay
import OpenK.KOwn
import PyProof.Rows.TopTwo
import PyProof.Rows.CatchOwn
import PyProof.RulesDel
import PyProof.RulesAs
import KE.KIsNot
import PyProof.ExcAttrAll.ValueError
import KE.KIsAll
import PyProof.StrReplace2
import PyProof.ReprStr
import PyProof.FString
import PyProof.StrLawsChain
import PyProof.SetRoads
import PyProof.StrLawsRepr
import PyProof.ReprHeads
import PyProof.ReprLen
import PyProof.FactsAll.bool
import KE.KNest
import PyProof.Rows.RuleM_int
import PyProof.Rows.CallKwBuiltin
import KE.KMinKey
import PyProof.ListRange
import PyProof.TupleOfSeq
import PyProof.TupleOfStr
import KE.KDictLaws
import KE.KPairComp
import KE.KDictSum
import PySem.Challenge.RW_everywidth_k25_whole_judged_by_all_words
theorem U{α:Sort u}{a:α}:a=a:=rfl
noncomputable section
set_option Elab.async false
set_option linter.all false
set_option maxRecDepth 100000
set_option maxHeartbeats 0
namespace Hw
open PySem PySem.W
theorem ws:PySem.Challenge.rw_everywidth_k25_whole_judged_by_all_words.wellSaid=true:=by kernel_rfl
def p:Program:=PySem.Challenge.rw_everywidth_k25_whole_judged_by_all_words.row.toRowW.prog
def B:List Stmt:=behindTheImports p
def nth:List Stmt→Nat→Option Stmt
  |[],_=>none
  |x::_,0=>some x
  |_::r,n+1=>nth r n
def fx:Option Stmt→Arguments×List Stmt×Scope×Str×Nat
  |some (.FunctionDef n a b _ _ _ s _ _ x)=>(a,b,s,n,x.line)
  |_=>default
def fd(i:Nat):=fx (nth B i)
def vs(s:String)(t:Nat):Value:=.str (Str.ofString s) t
def en(P:Params)(s:String)(t:Nat)(v:Value):DictEntry:=⟨PyData.keyHash P (Str.ofString s),.str (Str.ofString s) t,v⟩
def tu (l:List Value):Obj:=⟨.type "tuple",none,.seq (Array.mk l) 0,#[]⟩
def t0:Obj:=tu []
def fi(l:List Value):Obj:=⟨.none,none,.fields (Array.mk l),#[]⟩
def f0:Obj:=fi []
def vk:Nat→List String→List Value
  |_,[]=>[]
  |t,s::r=>vs s t::vk (t+1) r
def vt(t:Nat)(l:List String):Obj:=tu (vk t l)
abbrev Fd:=Arguments×List Stmt×Scope×Str×Nat
def rO(x:Fd):Obj:=⟨.none,none,.func ⟨x.2.2.2.1,x.2.2.2.1,x.1,.stmts x.2.1,x.2.2.1,0,[],.none,.none,.none,.none,none,.none,.none,0⟩,#[]⟩
def fO (x:Fd) (m:Value) (c:Nat):Obj:=⟨.type "function",none,.func ⟨x.2.2.2.1,x.2.2.2.1,x.1,.stmts x.2.1,x.2.2.1,3,[],.none,.none,.none,m,none,.ref c,.none,0⟩,#[]⟩
def fl:String:= "/claim/cut.py"
def cO (n:String) (t l a d x m:Nat) (b:Bool) (z k:Nat):Obj:=⟨.type "code",none,.fields #[vs n t,vs n (t+1),vs fl (t+2),.int l 0,.int a 0,.int 0 0,.int 0 0,.int d 0,.ref x,.bool true,.int m 0,.ref (x+1),.none,if b then .ref (x+2)else .none,if b then .ref (x+3)else .none,.ref z,.int k 0,.int l 0,vs fl (k+1)],#[]⟩
def r(i:Nat):Obj:=rO (fd i)
def f(i:Nat)(m:Value)(c:Nat):Obj:=fO (fd i) m c
def ci(n:Nat):Value:=.int n 0
def c (i t x v:Nat):Obj:=let y:=(fd i).2.2.2;⟨.type "code",none,.fields #[.str y.1 t,.str y.1 (t+1),vs fl (t+2),ci y.2,ci (fd i).1.args.length,ci 0,ci 0,ci 3,.ref x,.bool true,ci 181,.ref (x+1),.none,if v == 0 then .none else .ref (x+2),if v == 0 then .none else .ref (x+3),.ref (if v == 0 then x+2 else x+4),ci (t+3+v),ci y.2,vs fl (t+4+v)],#[]⟩
def e(P:Params)(i t a:Nat):DictEntry:=let y:=(fd i).2.2.2.1;⟨PyData.keyHash P y,.str y t,.ref a⟩
def bt(P:Params):List DictEntry:=match (boot_o_3 P).data with
  |.dict e _=>e.toList.tail
  |_=>[]
def m0:Value:=vs "everywidth.bits" 187
def m1:Value:=vs "everywidth.machines.runs" 243
def m2:Value:=vs "everywidth.machines.firsts" 264
def m3:Value:=vs "everywidth.machines.found" 325
def m4:Value:=vs "everywidth.vocabulary" 342
def m5:Value:=vs "everywidth.rows" 459
def m6:Value:=vs "everywidth.machines.columns" 467
def m7:Value:=vs "everywidth.machines.made" 544
def m8:Value:=vs "everywidth.sums.texts" 572
def m9:Value:=vs "everywidth.machines.alike" 580
def m10:Value:=vs "law_everywidth_k25_whole_judged_by_all_words" 630
def mc (n:String)(t l x k:Nat):Obj:=⟨.type "code",none,.fields #[vs n t,vs n (t+1),vs fl (t+2),ci l,ci 0,ci 0,ci 0,ci 0,.ref x,.bool false,ci 181,.ref (x+1),.none,.none,.none,.none,ci k,ci l,vs fl (k+1)],#[]⟩
def fr (c d:Nat)(v:Value):Obj:=⟨.type "frame",none,.plain,#[some (.ref c),some (.ref 3),some (.ref d),none,some v,none,some (.ref 0)]⟩
def bf (a b:Value):Obj:=⟨.type "builtin_function_or_method",none,.fields #[a,b],#[]⟩
def dc (l:List DictEntry)(n:Nat):Obj:=⟨.type "dict",none,.dict ⟨l⟩ n,#[]⟩
def es (P:Params):List DictEntry:=[e P 1 197 21,e P 2 206 28,en P "WidthError" 226 (.ref 38),en P "NoWords" 242 (.ref 51),e P 7 257 60,e P 8 263 65,e P 10 271 70,e P 11 287 77,e P 12 301 84,e P 13 307 89,e P 14 313 94,e P 15 324 101,e P 17 332 106,e P 18 341 113,en P "SUM_PARTS" 374 (.ref 114),en P "SUMS_IN_CLAIM" 390 (.ref 115),en P "CLAIMS_IN_CLAIM" 406 (.ref 116),en P "LETTERS" 408 (vs "abcdefghijklmnopqrstuvwxyz" 407),en P "LONGEST_NAME" 410 (.int 8 409),e P 25 417 123,e P 26 424 130,e P 27 431 137,e P 28 438 144,e P 29 445 151,e P 30 451 156,e P 31 458 163,e P 33 466 168,en P "REMEMBERING" 478 (.ref 169),e P 36 485 176,e P 37 491 181,e P 38 506 188,e P 39 516 195,e P 40 525 202,e P 41 535 209,e P 42 543 216,e P 44 553 223,e P 45 559 228,e P 46 565 233,e P 47 571 238,e P 49 579 243,e P 51 590 250,e P 52 603 257,e P 53 612 264,e P 54 618 269,e P 55 629 276,e P 57 638 283,e P 58 646 290,e P 59 660 297,e P 60 666 302,e P 61 674 309,e P 62 684 316,e P 63 690 321,e P 64 706 328,e P 65 714 335,e P 66 723 342,e P 67 737 349,e P 68 748 356,e P 69 757 363,e P 70 772 370,e P 71 780 377,e P 72 789 384,e P 73 795 389,e P 74 809 396,e P 75 823 403,e P 76 834 410,e P 77 846 417,e P 78 859 424,e P 79 874 431]
def vl:List (Nat×Nat):=[(2,20),(7,27),(13,34),(15,47),(18,59),(27,64),(33,69),(43,76),(57,83),(67,88),(69,93),(75,100),(80,105),(90,112),(101,122),(103,129),(105,136),(107,143),(109,150),(111,155),(113,162),(118,167),(122,175),(124,180),(129,187),(145,194),(156,201),(158,208),(172,215),(189,222),(191,227),(203,232),(205,237),(208,242),(211,249),(214,256),(221,263),(223,268),(225,275),(234,282),(236,289),(240,296),(256,301),(267,308),(273,315),(282,320),(284,327),(305,334),(313,341),(323,348),(341,355),(359,362),(373,369),(383,376),(390,383),(405,388),(407,395),(420,402),(431,409),(437,416),(448,423),(459,430)]
def d(i x t:Nat)(l:List String)(m:Value):List Obj:=match l with
  |[]=>[t0,f0,r i,c i t x 0,f i m (x+3)]
  |l=>[t0,f0,vt (t+3) l,t0,r i,c i t x l.length,f i m (x+5)]
def nz:Nat→List Obj→PySem.W.Frag
  |_,[]=>[]
  |n,x::l=>(n,x)::nz (n+1) l
def ir(n:Nat):List (Nat×Nat)→Bool
  |[]=>false
  |x::l=>(Nat.ble x.1 n&&Nat.blt n x.2)||ir n l
def rs:List (Nat×Nat):=[(0,30),(36,40),(42,43),(49,52),(54,432)]
def md (P:Params) (m:String) (t e k:Nat):Obj:=⟨.type "dict",none,.dict (Array.mk (en P "__name__" 165 (vs m t)::bt P++(es P).take e)) k,#[]⟩
def tl:List (Nat×Nat)→List Value
  |[]=>[]
  |x::r=>.int x.1 0::.int 0 0::.ref x.2::tl r
def tb(c:Nat):Obj:=fi (tl (vl.take c))
def ob (P:Params):List Obj:=[boot_o_0 P,boot_o_1 P,boot_o_2 P,md P "law_everywidth_k25_whole_judged_by_all_words" 630 68 77,boot_o_4 P,boot_o_5 P,boot_o_6 P,boot_o_7 P,boot_o_8 P,boot_o_9 P,boot_o_10 P,t0,tb 62,mc "<module>" 182 1 11 185,fr 13 3 (vs "__main__" 164)]++(d 1 15 189 ["width","many","bit_number"] m0++(d 2 22 198 ["bits","number","bit"] m0++([tu [(.type "ValueError")],bf (.builtin "type.__prepare__") (.type "type"),dc [en P "__module__" 216 (vs "everywidth.errors" 207),en P "__qualname__" 218 (vs "WidthError" 217),en P "__firstlineno__" 220 (.int 13 219),en P "__static_attributes__" 221 (.ref 36)] 4,t0,f0,mc "WidthError" 211 13 32 214,fr 34 31 (vs "everywidth.errors" 207),t0,dc [en P "__module__" 216 (vs "everywidth.errors" 207),en P "__firstlineno__" 220 (.int 13 219),en P "__static_attributes__" 221 (.ref 36),en P "__weakref__" 223 (.ref 39),en P "__doc__" 224 .none] 3,⟨(.type "type"),none,.cls ⟨Str.ofString "WidthError",[(.type "ValueError")],[(.ref 38),(.type "ValueError"),(.type "Exception"),(.type "BaseException"),(.type "object")],37,Str.ofString "WidthError",true,[],[(.ref 51)],false,none,false⟩,#[some (.ref 29),none,some (vs "WidthError" 209),some (vs "WidthError" 217),some (.builtin "ValueError.__new__"),some (.bool true)]⟩,⟨(.type "getset_descriptor"),none,.fields #[(vs "__weakref__" 222),(.ref 38),(.builtin "ExceptionGroup.__weakref__"),.none],#[]⟩,⟨(.type "super"),none,.fields #[(.ref 38),(.ref 38),(.ref 38)],#[]⟩,bf (.builtin "object.__init_subclass__") (.ref 38),tu [(.ref 38)],bf (.builtin "type.__prepare__") (.type "type"),dc [en P "__module__" 234 (vs "everywidth.errors" 207),en P "__qualname__" 236 (vs "NoWords" 235),en P "__firstlineno__" 238 (.int 15 237),en P "__static_attributes__" 239 (.ref 49)] 4,t0,f0,mc "NoWords" 229 15 45 232,fr 47 44 (vs "everywidth.errors" 207),t0,dc [en P "__module__" 234 (vs "everywidth.errors" 207),en P "__firstlineno__" 238 (.int 15 237),en P "__static_attributes__" 239 (.ref 49),en P "__doc__" 240 .none] 2,⟨(.type "type"),none,.cls ⟨Str.ofString "NoWords",[(.ref 38)],[(.ref 51),(.ref 38),(.type "ValueError"),(.type "Exception"),(.type "BaseException"),(.type "object")],50,Str.ofString "NoWords",true,[],[],false,none,false⟩,#[some (.ref 42),none,some (vs "NoWords" 227),some (vs "NoWords" 235),some (.builtin "ValueError.__new__"),some (.bool true)]⟩,⟨(.type "super"),none,.fields #[(.ref 51),(.ref 51),(.ref 51)],#[]⟩,bf (.builtin "object.__init_subclass__") (.ref 51)]++(d 7 54 245 ["machine","letters","state","steps","out","row","letter"] m1++(d 8 61 258 [] m1++(d 10 66 266 [] m2++(d 11 71 272 ["machine","letters","number","wanted","layers","left","well","place","chosen","going"] m2++(d 12 78 288 ["machine","letters","steps","layers","some","layer","state","letter"] m2++(d 13 85 302 [] m2++(d 14 90 308 [] m2++(d 15 95 314 ["machine","state","letter","well","wanted"] m2++(d 17 102 327 [] m3++(d 18 107 333 ["state","states","numbers"] m3++([dc [en P "not" 344 (.int 1 345),en P "neg" 346 (.int 1 347),en P "twice" 348 (.int 1 349),en P "low" 350 (.int 1 351),en P "and" 352 (.int 2 353),en P "or" 354 (.int 2 355),en P "odd" 356 (.int 2 357),en P "add" 358 (.int 2 359),en P "sub" 360 (.int 2 361),en P "pick" 362 (.int 3 363)] 10,dc [en P "same" 375 (.int 2 376),en P "under" 377 (.int 2 378),en P "beneath" 379 (.int 2 380),en P "sign" 381 (.int 1 382),en P "nought" 383 (.int 1 384)] 5,dc [en P "both" 391 (.int 2 392),en P "either" 393 (.int 2 394),en P "so" 395 (.int 2 396),en P "never" 397 (.int 1 398),en P "yes" 399 (.int 0 400)] 5]++(d 25 117 411 ["text"] m4++(d 26 124 418 ["text"] m4++(d 27 131 425 ["word"] m4++(d 28 138 432 ["word"] m4++(d 29 145 439 ["word"] m4++(d 30 152 446 [] m4++(d 31 157 452 ["text"] m4++(d 33 164 461 [] m5++([vt 469 ["neg","twice","low","add","sub","same","under","beneath","nought"]]++(d 36 170 479 ["word"] m6++(d 37 177 486 [] m6++(d 38 182 492 ["words","columns","place","kept","stack","later","word","parts","held"] m6++(d 39 189 507 ["word","parts","held","one"] m6++(d 40 196 517 ["one","other","held"] m6++(d 41 203 526 ["word","parts","held","then"] m6++(d 42 210 536 ["word","parts"] m6++(d 44 217 546 ["words","names"] m7++(d 45 224 554 [] m7++(d 46 229 560 [] m7++(d 47 234 566 [] m7++(d 49 239 574 [] m8++(d 51 244 582 ["one","other","names"] m9++([t0,f0,vt 594 ["one","other","begins","found","width"],vt 599 ["one","other"],r 52,cO "machines_compared" 591 214 2 3 251 181 true 255 601,f 52 m9 256]++(d 53 258 604 ["one","other","pair"] m9++(d 54 265 613 [] m9++(d 55 270 619 ["machine","widths","state","row","led_to"] m9++(d 57 277 632 ["found"] m10++(d 58 284 639 ["script","k"] m10++(d 59 291 647 ["cell","many","most","found","rest","k","one","two"] m10++(d 60 298 661 [] m10++(d 61 303 667 ["number","names"] m10++(d 62 310 675 ["number","left","words","word"] m10++(d 63 317 685 [] m10++(d 64 322 691 ["numbers","names","most","some","left","number","word","wants","built","part"] m10++(d 65 329 707 ["word","one"] m10++(d 66 336 715 ["word","one","other"] m10++(d 67 343 724 ["words","width","values","size","told","word","one","other"] m10++(d 68 350 738 ["pick","p","q","r","pairs"] m10++(d 69 357 749 ["number","words","r"] m10++(d 70 364 758 ["cell","names","xs","most","p","q","r","one","other"] m10++(d 71 371 773 ["found","pair"] m10++(d 72 378 781 ["found","names","name"] m10++(d 73 385 790 [] m10++(d 74 390 796 ["words","names","cell","at","word","new","some","changed"] m10++(d 75 397 810 ["names","width","some","name","more","values","word","longer"] m10++(d 76 404 824 ["one","other","names","width","values"] m10++(d 77 411 835 ["script","names","shape","one","first","second"] m10++(d 78 418 847 ["script","names","values","name","some","k","rest"] m10++(d 79 425 860 ["script","all_names","one","other","names","found","due","width","values"] m10)))))))))))))))))))))))))))))))))))))))))))))))))))))))))))))))
def K(P:Params):PySem.W.Frag:=(nz 0 (ob P)).filter λp=>ir p.1 rs
def od:Bool→List Obj→List Obj
  |_,[]=>[]
  |true,x::r=>x::od false r
  |false,_::r=>od true r
def tL:Nat→List Obj→BT
  |0,_=>.nil
  |_,[]=>.nil
  |k+1,x::r=>.node x (tL k (od true r)) (tL k (od false r))
def tn(P:Params)(n:Nat):BT:=tL 12 ((ob P).take n)
abbrev SS(T:BT)(n k:Nat)(o:OsState):SharedT:=⟨T,n,{},Array.mk [],{},k,o⟩
def ev:Env:={scope:=p.main.scope,locals:=mainNs,globals:=mainNs,cells:=[],code:=(.ref 13),frame:=some 14}
def c0:Code:=.body B ev
abbrev an:Option Value:=some (.ref 6)
abbrev z0:Pos:=⟨0,0,0,0⟩
abbrev q0:List Frame:=[topFrame z0]
def sg(a b:Nat):List Stmt:=(B.drop a).take b
def pc(a b:Nat)(x:Pos):Thread:=piecesOf (sg a b) ev c0 x q0
def R(w:World)(o:OsState)(n:Nat)(S:Params→BT)(a k:Nat)(t:Thread)(S':Params→BT)(a' k':Nat)(y:Pos):Prop:=segRunT treeTable p w 11 an 1 n (SS (S w.params) a k o) t=some (.next,SS (S' w.params) a' k' o,c0,y)
variable (w:World)(o:OsState)
def S0(P:Params):BT:=((tn P 15).set 3 λ_=>boot_o_3 P).set 12 λ_=>tb 0
def S1 (P:Params):BT:=(((tn P 42).set 3 λ_=>md P "everywidth.errors" 207 3 12).set 12 λ_=>tb 3).set 38 λ_=>⟨(.type "type"),none,.cls ⟨Str.ofString "WidthError",[(.type "ValueError")],[(.ref 38),(.type "ValueError"),(.type "Exception"),(.type "BaseException"),(.type "object")],37,Str.ofString "WidthError",true,[],[],false,none,false⟩,#[some (.ref 29),none,some (vs "WidthError" 209),some (vs "WidthError" 217),some (.builtin "ValueError.__new__"),some (.bool true)]⟩
def S2 (P:Params):BT:=((tn P 85).set 3 λ_=>md P "everywidth.machines.firsts" 264 9 18).set 12 λ_=>tb 9
def S3 (P:Params):BT:=((tn P 115).set 3 λ_=>md P "everywidth.vocabulary" 342 15 24).set 12 λ_=>tb 14
def S4 (P:Params):BT:=((tn P 164).set 3 λ_=>md P "everywidth.rows" 459 26 35).set 12 λ_=>tb 21
def S5 (P:Params):BT:=((tn P 239).set 3 λ_=>md P "everywidth.sums.texts" 572 39 48).set 12 λ_=>tb 33
def S6 (P:Params):BT:=((tn P 317).set 3 λ_=>md P "law_everywidth_k25_whole_judged_by_all_words" 630 51 60).set 12 λ_=>tb 45
def S7 (P:Params):BT:=((tn P 397).set 3 λ_=>md P "law_everywidth_k25_whole_judged_by_all_words" 630 63 72).set 12 λ_=>tb 57
def S8(P:Params):BT:=tn P 432
def H1(P:Params):Heap:=⟨Array.mk (ob P),{}⟩
theorem pre:topGo treeTable p w 11 an 12 ⟨boot_heap w.params,Array.mk [],boot_drawn,boot_toks,o⟩ (topStub p)=some ((SS (S0 w.params) 15 187 o).abs,⟨denote treeTable c0,c0,z0,q0⟩):=by
  rw[Fast.te15667345088766844465,Fast.te14364793385576792824,Fast.te11892475500146522536];kernel_rfl
theorem blk:segRunT treeTable p w 11 an 1 1 (SS (S0 w.params) 15 187 o) (blockOf B ev c0 z0 q0)=some (.next,SS (S0 w.params) 15 187 o,c0,z0):=by
  rw[Fast.te10110043849684766642,Fast.te14364793385576792824];kernel_rfl
theorem g1:R w o 267 S0 15 187 (pc 0 5 z0) S1 42 227 ⟨13,0,14,8⟩:=by
  unfold R;rw[Fast.te10110043849684766642,Fast.te14364793385576792824];kernel_rfl
theorem g2:R w o 393 S1 42 227 (pc 5 8 ⟨13,0,14,8⟩) S2 85 302 ⟨57,0,66,17⟩:=by
  unfold R;rw[Fast.te10110043849684766642,Fast.te14364793385576792824];kernel_rfl
theorem g3f:R (w.withFollow "special-get-raises" false) o 321 S2 85 302 (pc 13 8 ⟨57,0,66,17⟩) S3 115 375 ⟨96,0,96,9⟩:=by
  unfold R;rw[Fast.te10110043849684766642,Fast.te14364793385576792824];kernel_rfl
theorem g3t:R (w.withFollow "special-get-raises" true) o 321 S2 85 302 (pc 13 8 ⟨57,0,66,17⟩) S3 115 375 ⟨96,0,96,9⟩:=by
  unfold R;rw[Fast.te10110043849684766642,Fast.te14364793385576792824];kernel_rfl
theorem g3 (w:World):∀o:OsState,R w o 321 S2 85 302 (pc 13 8 ⟨57,0,66,17⟩) S3 115 375 ⟨96,0,96,9⟩:=byRow2 "special-get-raises" (P:=λw=>∀o:OsState,R w o 321 S2 85 302 (pc 13 8 ⟨57,0,66,17⟩) S3 115 375 ⟨96,0,96,9⟩) g3f g3t w
theorem g4f:R (w.withFollow "special-get-raises" false) o 398 S3 115 375 (pc 21 12 ⟨96,0,96,9⟩) S4 164 461 ⟨117,0,117,8⟩:=by
  unfold R;rw[Fast.te10110043849684766642,Fast.te14364793385576792824];kernel_rfl
theorem g4t:R (w.withFollow "special-get-raises" true) o 398 S3 115 375 (pc 21 12 ⟨96,0,96,9⟩) S4 164 461 ⟨117,0,117,8⟩:=by
  unfold R;rw[Fast.te10110043849684766642,Fast.te14364793385576792824];kernel_rfl
theorem g4 (w:World):∀o:OsState,R w o 398 S3 115 375 (pc 21 12 ⟨96,0,96,9⟩) S4 164 461 ⟨117,0,117,8⟩:=byRow2 "special-get-raises" (P:=λw=>∀o:OsState,R w o 398 S3 115 375 (pc 21 12 ⟨96,0,96,9⟩) S4 164 461 ⟨117,0,117,8⟩) g4f g4t w
theorem g5:R w o 398 S4 164 461 (pc 33 16 ⟨117,0,117,8⟩) S5 239 574 ⟨207,0,207,8⟩:=by
  unfold R;rw[Fast.te10110043849684766642,Fast.te14364793385576792824];kernel_rfl
theorem g6:R w o 384 S5 239 574 (pc 49 14 ⟨207,0,207,8⟩) S6 317 685 ⟨273,0,281,15⟩:=by
  unfold R;rw[Fast.te10110043849684766642,Fast.te14364793385576792824];kernel_rfl
theorem g7:R w o 386 S6 317 685 (pc 63 12 ⟨273,0,281,15⟩) S7 397 810 ⟨407,0,419,18⟩:=by
  unfold R;rw[Fast.te10110043849684766642,Fast.te14364793385576792824];kernel_rfl
theorem g8:R w o 176 S7 397 810 (pc 75 5 ⟨407,0,419,18⟩) S8 432 875 ⟨459,0,475,15⟩:=by
  unfold R;rw[Fast.te10110043849684766642,Fast.te14364793385576792824];kernel_rfl
theorem fn:topRun treeTable p w 11 an 2 (SS (S8 w.params) 432 875 o).abs ⟨doneF .next,c0,⟨459,0,475,15⟩,q0⟩=some ⟨H1 w.params,Array.mk [],{},875,o⟩:=by
  rw[Fast.te14082659384304107361,Fast.te14364793385576792824];kernel_rfl
theorem sp:B=sg 0 5++(sg 5 8++(sg 13 8++(sg 21 12++(sg 33 16++(sg 49 14++(sg 63 12++(sg 75 5++[]))))))):=by kernel_rfl
theorem bl{w:World}{N:Nat}{s s' r:Shared}{b:List Stmt}{x y:Pos}{n:Nat}(e:B=b)(h:segRun treeTable p w 11 an 1 n s (blockOf B ev c0 x q0)=some (.next,s',c0,y))(k:topRun treeTable p w 11 an N s' (restOf b ev c0 y q0)=some r):topRun treeTable p w 11 an (n+N) s ⟨denote treeTable c0,c0,x,q0⟩=some r:=
  piece_block h (by rw[e];exact k)
theorem rn:topRun treeTable p w 11 an (12+(1+(267+(393+(321+(398+(398+(384+(386+(176+(2))))))))))) ⟨boot_heap w.params,Array.mk [],boot_drawn,boot_toks,o⟩ (topStub p)=some ⟨H1 w.params,Array.mk [],{},875,o⟩:=
  go_top (pre w o) (bl sp (segRun_of (blk w o)) (piece_app (segRun_of (g1 w o)) (piece_app (segRun_of (g2 w o)) (piece_app (segRun_of (g3 w o)) (piece_app (segRun_of (g4 w o)) (piece_app (segRun_of (g5 w o)) (piece_app (segRun_of (g6 w o)) (piece_app (segRun_of (g7 w o)) (piece_app (segRun_of (g8 w o)) (fn w o))))))))))
def rg(l:List Stmt):List (Nat×Nat)→List Stmt
  |[]=>[]
  |x::r=>(l.drop x.1).take x.2++rg l r
def vw:Program:={p with main:={p.main with body:=rg p.main.body [(1,2),(4,2),(7,2),(10,6),(17,2),(20,12),(33,1),(35,8),(44,4),(49,1),(51,5),(57,23)]}}
def lo:List Str:=[Str.ofString "SUM_PARTS",Str.ofString "SUMS_IN_CLAIM",Str.ofString "CLAIMS_IN_CLAIM"]
def xt(s:Shared):Bool:=xlAt vw [] s&&recOk PySem.Challenge.rw_everywidth_k25_whole_judged_by_all_words.row.toRowW.records s
def as:List Addr:=rs.flatMap λx=>List.range' x.1 (x.2-x.1)
theorem sz:((boot_heap w.params).isNs mainGlobals&&(Array.mk []:Array GenState).size == 0,(boot_heap w.params).objs.size,(boot_heap w.params).nsMap mainGlobals "__annotations__")=(true,11,an):=by
  rw[Fast.te8920871248978507458];kernel_rfl
abbrev sh(w:World)(o:OsState):Shared:=⟨H1 w.params,Array.mk [],{},875,o⟩
theorem l1:(staticsOk (importedModules p.main.body) (boot_heap w.params) (H1 w.params)&&namesBound p (H1 w.params)&&gensDone (sh w o)&&laidKept (boot_heap w.params) (H1 w.params))=true:=by
  rw[Fast.te5923862056798008813];kernel_rfl
theorem l2:openSeen vw lo (importedModules p.main.body) xt true (sh w o)=openGood vw lo:=by
  rw[Fast.te4187177175401517315,Fast.te5923862056798008813];kernel_rfl
theorem l3:X.obsZ as (sh w o)=X.valZ K 432 875 w:=by kernel_rfl
theorem left:LeftO p vw lo xt (X.obsZ as) (X.valZ K 432 875) 5556:=
  LeftO.of_pieces (boot_open (by kernel_rfl) (by kernel_rfl) (λ_=>by kernel_rfl)) sz rn (by kernel_rfl) λw=>funext λo=>looks_pair (l1 w o) (looks_pair (l2 w o) (l3 w o))
end Hw
end
set_option Elab.async false
set_option linter.all false
set_option maxRecDepth 100000
noncomputable section
def Qaa:=@PySem.wpAny_bind
def Qab:=@PySem.Heap.get?_push_of_some
def Qac:=@List.length_map
def Qad:=@List.getElem?_eq_getElem
def Qae:=@PySem.wpAny_pure
def Qaf:=@List.length_append
def Qag:=@List.mem_of_getElem?
def Qah:=@List.getElem?_eq_some_iff
def Qai:=@Nat.le_refl
def Qaj:=@PySem.F.plainAttrs_list
def Qak:=@List.mem_cons_of_mem
def Qal:=@List.getElem?_map
def Qam:=@List.mem_cons_self
def Qan:=@decide_eq_false
def Qao:=@PySem.Heap.get?_push_size
def Qap:=@PySem.F.slot_list_append
def Qaq:=@PySem.F.type_list_append
def Qar:=@decide_eq_true
def Qas:=@List.length_take
def Qat:=@List.getD_eq_getElem?_getD
def Qau:=@List.mem_singleton
def Qav:=@PySem.Heap.lt_size
def Qaw:=@List.mem_cons
def Qax:=@Nat.le_of_lt
def Qay:=@Int.toNat_natCast
def Qaz:=@Nat.le_trans
def Qa0:=@List.getElem?_append_right
def Qa1:=@List.mem_append_right
def Qa2:=@List.mem_map
def Qa3:=@List.length_range
def Qa4:=@PySem.PassesOwn.never
def Qa5:=@Int.emod_lt_of_pos
def Qa6:=@if_neg
def Qa7:=@List.mem_append
def Qa8:=@List.getElem?_append_left
def Qa9:=@if_pos
def Qba:=@of_decide_eq_true
def Qbb:=@List.take_length
def Qbc:=@Nat.ne_of_lt
def Qbd:=@List.map_append
def Qbe:=@Int.emod_nonneg
def Qbf:=@Bool.false_ne_true
def Qbg:=@PyProof.Rows.slot_tuple_getitem
def Qbh:=@List.length_replicate
def Qbi:=@PySem.Heap.get?_update_self
def Qbj:=@Nat.zero_le
def Qbk:=@List.append_nil
def Qbl:=@Nat.lt_of_lt_of_le
def Qbm:=@PySem.wpAny_newObj_type
def Qbn:=@List.length_drop
def Qbo:=@PySem.wpAny_call_entry
def Qbp:=@Option.map_eq_some_iff
def Qbq:=@List.not_mem_nil
def Qbr:=@PySem.Obj.data_mapFields
def Qbs:=@List.mem_append_left
def Qbt:=@PySem.wpAny_field
def Qbu:=@PySem.Heap.get?_update_other
def Qbv:=@List.take_of_length_le
def Qbw:=@List.mem_of_mem_take
def Qbx:=@List.take_append_drop
def Qby:=@PySem.Heap.size_push
def Qbz:=@List.eq_nil_of_length_eq_zero
def Qb0:=@Nat.lt_irrefl
def Qb1:=@List.map_cons
def Qb2:=@List.drop_eq_getElem_cons
def Qb3:=@List.length_cons
def Qb4:=@PySem.wpAny_setField_rec
def Qb5:=@PyProof.Rows.callWith_type1
def Qb6:=@Array.length_toList
def Qb7:=@List.map_map
def Qb8:=@List.size_toArray
def Qb9:=@decide_eq_true_iff
def Qca:=@PySem.mem_of_lookup
def Qcb:=@PySem.Heap.SameBut.update
def Qcc:=@PySem.wpAny_seqItems
def Qcd:=@Int.ediv_one
def Qce:=@Bool.and_eq_true
def Qcf:=@List.mem_range
def Qcg:=@Int.natCast_nonneg
def Qch:=@PySem.wpAny_holding
def Qci:=@List.map_congr_left
def Qcj:=@List.nodup_cons
def Qck:=@List.getElem_mem
def Qcl:=@PySem.codeAny_builtin
def Qcm:=@List.append_assoc
def Qcn:=@Int.emod_eq_of_lt
def Qco:=@Bool.and_eq_true_iff
def Qcp:=@List.getElem?_of_mem
def Qcq:=@Nat.pow_le_pow_right
def Qcr:=@List.mem_of_mem_drop
def Qcs:=@PySem.Calls.spliced_cons
def Qct:=@List.mem_filter
def Qcu:=@List.length_zip
def Qcv:=@PySem.Obj.isFreed_of_fields
def Qcw:=@List.mem_map_of_mem
def Qcx:=@List.flatten_append
def Qcy:=@List.filter_cons
def Qcz:=@Nat.mod_two_eq_zero_or_one
def Qc0:=@PySem.wpAny_Call_Name_kw
def Qc1:=@Int.ediv_eq_zero_of_lt
def Qc2:=@PySem.W.kia_one
def Qc3:=@List.getElem?_zip_eq_some
def Qc4:=@List.all_eq_true
def Qc5:=@PySem.wpAny_truthy_bool
def Qc6:=@List.length_filter_le
def Qc7:=@PySem.wpAny_setField
def Qc8:=@PySem.wpAny_of_eq
def Qc9:=@List.filter_append
def Qda:=@Bool.false_eq_true
def Qdb:=@PySem.wpAny_mono
def Qdc:=@List.lookup_cons
def Qdd:=@PySem.wpAny_isInstance
def Qde:=@beq_self_eq_true
def Qdf:=@List.any_eq_true
def Qdg:=@Int.add_mul_emod_self_left
def Qdh:=@List.reverse_cons
def Qdi:=@Int.toNat_of_nonneg
def Qdj:=@PySem.wpAny_attempt
def Qdk:=@PySem.plainId_quiet
def Qdl:=@List.nodup_nil
def Qdm:=@List.drop_zero
def Qdn:=@PySem.wpAny_specialOf
def Qdo:=@List.range_succ
def Qdp:=@PySem.wpAny_updateSeq
def Qdq:=@Nat.min_eq_left
def Qdr:=@Int.emod_add_mul_ediv
def Qds:=@PySem.F.slot_list_pop
def Qdt:=@PySem.F.type_list_pop
def Qdu:=@PySem.wpAny_rule
def Qdv:=@Nat.lt_succ_self
def Qdw:=@List.all_cons
def Qdx:=@Int.ediv_ediv_of_nonneg
def Qdy:=@Int.pow_zero
def Qdz:=@Nat.lt_or_ge
def Qd0:=@PySem.Calls.spliced_nil
def Qd1:=@List.foldl_append
def Qd2:=@Bool.eq_iff_iff
def Qd3:=@List.length_reverse
def Qd4:=@Nat.le_succ
def Qd5:=@List.idxOf_lt_length_of_mem
def Qd6:=@List.getElem?_range
def Qd7:=@Ne.symm
def Qd8:=@PySem.F.slot_tuple_iterator_next
def Qd9:=@Nat.sub_self
def Qea:=@List.mem_iff_getElem?
def Qeb:=@Array.getElem?_eq_getElem
def Qec:=@PySem.Around.under_plainId
def Qed:=@Nat.mul_le_mul_right
def Qee:=@List.dropLast_concat
def Qef:=@PySem.wpAny_passesOwn
def Qeg:=@List.of_mem_zip
def Qeh:=@PySem.wpAny_setState_of
def Qei:=@Nat.not_lt_zero
def Qej:=@List.ext_getElem?
def Qek:=@List.eq_of_mem_replicate
def Qel:=@Nat.ne_of_gt
def Qem:=@Int.ne_of_gt
def Qen:=@List.filterMap_cons
def Qeo:=@PySem.wpAny_getItem_str_slice
def Qep:=@PySem.wpAny_setEntries_of
def Qeq:=@PySem.F.plain_extend_loop
def Qer:=@List.length_pos_of_mem
def Qes:=@PySem.F.plain_max_loop
def Qet:=@or_false
def Qeu:=@List.getElem?_take
def Qev:=@List.dropLast_concat_getLast
def Qew:=@PySem.codeAny_mono
def Qex:=@PySem.wpAny_typeOf
def Qey:=@List.length_nil
def Qez:=@PySem.wpAny_letGo
def Qe0:=@PySem.F.slot_enumerate_next
def Qe1:=@PySem.F.called_set
def Qe2:=@PySem.wpAny_pyIter_list
def Qe3:=@Nat.lt_succ_of_lt
def Qe4:=@PySem.Obj.cls_mapFields
def Qe5:=@List.nodup_append
def Qe6:=@List.map_take
def Qe7:=@List.flatten_cons
def Qe8:=@List.drop_length
def Qe9:=@Int.pow_pos
def Qfa:=@PySem.F.args_tuple_add_2
def Qfb:=@Int.zero_add
def Qfc:=@PySem.F.entry_tuple_add
def Qfd:=@Nat.lt_of_le_of_lt
def Qfe:=@Option.map_some
def Qff:=@PySem.tupleKind_room_in1
def Qfg:=@of_decide_eq_false
def Qfh:=@PySem.F.slot_zip_next
def Qfi:=@List.map_drop
def Qfj:=@List.foldl_cons
def Qfk:=@Int.natCast_pow
def Qfl:=@PySem.F.slot_tuple_add
def Qfm:=@PySem.Calls.callWith_builtin
def Qfn:=@PySem.F.entry_max_loop
def Qfo:=@List.length_eq_one_iff
def Qfp:=@PySem.wpAny_pyIter_slot
def Qfq:=@bne_self_eq_false
def Qfr:=@PySem.isSubtype_stop
def Qfs:=@PySem.wpAny_tryCatch
def Qft:=@PySem.Txt.slice_le
def Qfu:=@Int.pow_succ
def Qfv:=@Int.mul_comm
def Qfw:=@Int.add_mul_ediv_left
def Qfx:=@Nat.le_add_right
def Qfy:=@List.flatten_nil
def Qfz:=@PySem.Around.frames_deeper
def Qf0:=@PySem.F.args_object_init_2
def Qf1:=@PySem.Heap.get?_push_cases
def Qf2:=@PySem.wpAny_updateSeq_pair
def Qf3:=@List.replicate_succ'
def Qf4:=@PySem.Paired.length
def Qf5:=@List.any_cons
def Qf6:=@PySem.F.args_tuple_iterator_next_1
def Qf7:=@PySem.Value.isStrOf_shape
def Qf8:=@PySem.wpAny_execs_nil
def Qf9:=@PyProof.Rows.entry_tuple_getitem
def Qga:=@PySem.SeqAt.EqAt.same
def Qgb:=@PySem.post_val_or_str
def Qgc:=@List.getElem_of_mem
def Qgd:=@beq_eq_false_iff_ne
def Qge:=@PySem.F.entry_tuple_iterator_next
def Qgf:=@PySem.F.slot_tuple_eq
def Qgg:=@List.filter_sublist
def Qgh:=@PyProof.Rows.assignInOrder_cons
def Qgi:=@List.mem_filterMap
def Qgj:=@PySem.W.callWith_K
def Qgk:=@PyProof.Rows.args_tuple_getitem
def Qgl:=@Nat.le_of_eq
def Qgm:=@PySem.wpAny_forIn_array'
def Qgn:=@Nat.sub_zero
def Qgo:=@Int.le_of_lt
def Qgp:=@PyProof.Rows.slicePart_none
def Qgq:=@PySem.wpAny_newTuple
def Qgr:=@PySem.wpAny_fieldsOf
def Qgs:=@PySem.wpAny_sequenceKey
def Qgt:=@Option.isSome_map
def Qgu:=@List.pairwise_map
def Qgv:=@PySem.fits_of_scanBound
def Qgw:=@List.take_add_one
def Qgx:=@PySem.wpAny_setEpoch_of
def Qgy:=@PySem.F.plain_list_iadd
def Qgz:=@Nat.not_lt
def Qg0:=@PySem.wpAny_mkInt
def Qg1:=@PySem.wpAny_handled
def Qg2:=@PySem.sizeLine_eq
def Qg3:=@PySem.wpAny_onRaise
def Qg4:=@PySem.wpAny_pyHash_int
def Qg5:=@PySem.noFill_tuple_add
def Qg6:=@Nat.le_of_not_lt
def Qg7:=@List.getElem_zip
def Qg8:=@List.cons_append
def Qg9:=@PySem.wpAny_askSetting
def Qha:=@decide_eq_decide
def Qhb:=@List.mem_flatMap
def Qhc:=@Nat.succ_le_succ
def Qhd:=@PySem.callType_new
def Qhe:=@List.idxOf_cons
def Qhf:=@Nat.two_pow_pos
def Qhg:=@Nat.zero_add
def Qhh:=@Int.emod_one
def Qhi:=@Nat.succ_mul
def Qhj:=@PySem.wpAny_throw
def Qhk:=@Int.le_refl
def Qhl:=@Prod.ext
variable {i n L:Nat}
variable {a f O:PySem.Addr}
variable {N:List PySem.Str}
variable {x S:PySem.Str}
variable {e o:PySem.Expr}
variable {p l:PySem.Pos}
variable {r:List Nat}
variable {v:PySem.Value}
variable {K:PySem.W.Frag}
variable {Q:PySem.Value->PySem.Shared->Prop}
variable {h:PySem.Heap}
variable {s:PySem.Shared}
variable {z:Int}
variable {j:Bool}
variable {g:Type}
variable {P:PySem.Program}
variable {w:PySem.World}
variable {m:List (PySem.Addr×PySem.Obj)}
variable {q:List PySem.Expr}
variable {E:Array PySem.Value}
variable {J:List Int}
variable {R:List PySem.Addr}
variable {Z:List PySem.Value}
section
open PySem
abbrev Aa:=Option Value->Shared->Prop
abbrev Ab:=Value->Shared->Prop
abbrev Ac:=List (Addr×Obj)
abbrev Ad:=List (List Nat)
abbrev Ae:=Str->Option Value
abbrev Af:=PySem.W.Frag
abbrev Ag:=List Value
abbrev Ah:=Array Value
abbrev Ai:=List Str
abbrev Aj:=List Nat
abbrev Ak:=List Int
abbrev Al:=List Expr
abbrev Am:=FuncData
abbrev An:=Program
abbrev Ao:=Around
abbrev Aq:=Shared
abbrev Ar:=World
abbrev As:=Value
abbrev Au:=Addr
abbrev Av:=Expr
abbrev Aw:=Stmt
abbrev A1{q:Type}(p:Program)(w:World):=@wpAny q (model p w)
end
open PySem PySem.Spec PyProof.Rows
namespace L2
def Zjo:0<=sizeLine:=by decide
def Zbm:1<=sizeLine:=by decide
def ko:2<=sizeLine:=by decide
def Zos:3<=sizeLine:=by decide
def Zot:4<=sizeLine:=by decide
def zln5:5<=sizeLine:=by decide
def zln12:12<=sizeLine:=by decide
def zln16:16<=sizeLine:=by decide
abbrev Key:=Sum Int Str
def zp:Key->Value->Bool
 |.inl k,v=>Value.isInt k v
 |.inr x,v=>Value.isStrOf x v
def keyH(w:Ar):Key->Int
 |.inl k=>hashInt k
 |.inr x=>hashStr w x
theorem Yz:∀{k:Key} {v:As},zp k v=true->(∃i t,k=Sum.inl i/\v=Value.int i t)\/(∃x t,k=Sum.inr x/\v=Value.str x t)
 |.inl i,v,h=>by
  obtain⟨t,e⟩:=Value.isInt_shape h;exact .inl ⟨i,t,U,e⟩
 |.inr x,v,h=>by
  obtain⟨t,e⟩:=Qf7 h;exact .inr ⟨x,t,U,e⟩
def Zc7(i:Int)(t:Tok):zp (.inl i) (.int i t)=true:=by simp[zp,Value.isInt]
def Zc8(x:Str)(t:Tok):zp (.inr x) (.str x t)=true:=by simp[zp,Value.isStrOf]
def key_ll(a b:Int):decide ((Sum.inl a:Key)=Sum.inl b)=(a == b):=by grind
def key_rr(a b:Str):decide ((Sum.inr a:Key)=Sum.inr b)=decide (a=b):=by grind
def key_lr(a:Int)(b:Str):decide ((Sum.inl a:Key)=Sum.inr b)=false:=by grind
def key_rl(a:Str)(b:Int):decide ((Sum.inr a:Key)=Sum.inl b)=false:=by grind
def ZQ(prog:An)(w:Ar):PySem.KeyKind prog w Key where
 is:=zp
 hash:=keyH w
 inj:=λv a b C q=>by
  rcases Yz C with⟨i,t,rfl,rfl⟩|⟨x,t,rfl,rfl⟩
  .rcases Yz q with⟨j,u,rfl,e⟩|⟨y,u,rfl,e⟩
   .injection e with e1 _;rw[e1]
   .exact nomatch e
  .rcases Yz q with⟨j,u,rfl,e⟩|⟨y,u,rfl,e⟩
   .exact nomatch e
   .injection e with e1 _;rw[e1]
 byValue:=λk v h=>by
  rcases Yz h with⟨i,t,rfl,rfl⟩|⟨x,t,rfl,rfl⟩<;>rfl
 pyHash:=λg h=>by
  rcases Yz g with⟨i,t,rfl,rfl⟩|⟨x,t,rfl,rfl⟩
  .exact Qg4 h
  .exact wpAny_pyHash_str h
 eqBool:=λD g h=>by
  rcases Yz D with⟨i,t,rfl,rfl⟩|⟨x,t,rfl,rfl⟩
  .rcases Yz g with⟨j,u,rfl,rfl⟩|⟨y,u,rfl,rfl⟩
   .rw[key_ll]at h;exact wpAny_eqBool_int h
   .rw[key_lr]at h;exact SeqAt.EqAt.int_str i t y u _ _ _ _ h
  .rcases Yz g with⟨j,u,rfl,rfl⟩|⟨y,u,rfl,rfl⟩
   .rw[key_rl]at h;exact SeqAt.EqAt.str_int x t j u _ _ _ _ h
   .rw[key_rr]at h;exact wpAny_eqBool_str h
 «strs»:=λk x t v h=>by
  rcases Yz h with⟨i,u,rfl,e⟩|⟨y,u,rfl,e⟩
  .exact nomatch e
  .injection e with e1 _;subst e1;cases v<;>rfl
def Zbn(prog:An)(w:Ar)(k:Key)(v:As):(ZQ prog w).is k v=zp k v:=rfl
def gv(prog:An)(w:Ar)(i:Int)(t:Tok):(ZQ prog w).is (.inl i) (.int i t)=true:=Zc7 i t
def G5(prog:An)(w:Ar)(x:Str)(t:Tok):(ZQ prog w).is (.inr x) (.str x t)=true:=Zc8 x t
inductive V where
 |non|bl (b:Bool)|int (i:Int)|str (x:Str)|byt (b:Array UInt8)|flt (b:UInt64)|ref (a:Au)|ty (n:String)
 deriving DecidableEq
def RelV:V->Value->Prop
 |.non,u=>u=Value.none
 |.bl b,u=>u=Value.bool b
 |.int i,u=>∃t,u=Value.int i t
 |.str x,u=>∃t,u=Value.str x t
 |.byt b,u=>∃t,u=Value.bytes b t
 |.flt b,u=>∃t,u=Value.float b t
 |.ref a,u=>u=Value.ref a
 |.ty n,u=>u=Value.type n
abbrev Vals:List V->List As->Prop:=Paired RelV
def Vals.length{xs:List V}{g:Ag}(r:Vals xs g):xs.length=g.length:=Qf4 r
theorem Vals.get:∀{xs:List V} {g:Ag} {i:Nat} {x:V},Vals xs g->xs[i]?=some x->∃u,g[i]?=some u/\RelV x u
 |_,_,_,_,.nil,e=>by simp at e
 |_,_,0,_,.cons r _,e=>by grind
 |_,_,i+1,x,.cons _ t,e=>by
  obtain⟨u,h1,h2⟩:=Vals.get t (by simpa using e);exact⟨u,by grind,h2⟩
theorem Vals.append:∀{xs ys:List V} {q g:Ag},Vals xs q->Vals ys g->Vals (xs++ys) (q++g)
 |_,_,_,_,.nil,s=>s
 |_,_,_,_,.cons r t,s=>.cons r (Vals.append t s)
theorem Vals.take:∀{xs:List V} {g:Ag} (n:Nat),Vals xs g->Vals (xs.take n) (g.take n)
 |_,_,0,_=>.nil
 |_,_,_+1,.nil=>.nil
 |_,_,n+1,.cons r t=>.cons r (Vals.take n t)
theorem Vals.drop:∀{xs:List V} {g:Ag} (n:Nat),Vals xs g->Vals (xs.drop n) (g.drop n)
 |_,_,0,r=>r
 |_,_,_+1,.nil=>.nil
 |_,_,n+1,.cons _ t=>Vals.drop n t
def yS:Option V->Option As->Prop
 |some v,some u=>RelV v u
 |none,none=>True
 |_,_=>False
def KV:List (g×V)->List (g×As)->Prop:=Paired λ(p:g×V) (q:g×As)=>p.1=q.1/\RelV p.2 q.2
def kV:Key->V
 |.inl i=>.int i
 |.inr x=>.str x
inductive HO where
 /-- a list -/
 |lst (xs:List V)
 /-- a tuple (never changes) -/
 |tup (xs:List V)
 /-- a dict whose keys are ints and texts; one whose keys are tuples of ints and texts (the empty one is both) -/
 |dK (kvs:List (Key×V))|dT (kvs:List (List Key×V))
 /-- a set of ints: its members, its size -/
 |set (S:Int->Bool) (n:Nat)
 /-- an instance of the class at C, its dict at dx, its attributes -/
 |ins (C dx:Au) (fs:List (Str×V))
 /-- the dict of the instance at x -/
 |own (x:Au)
 /-- the dict of an exception -/
 |xd (fs:List (Str×V))
 /-- a bound method, f of x -/
 |met (f x:Au)
 /-- a range object lo, lo + 1, .. below hi -/
 |rng (lo hi:Int)
 /-- a thing that is known to the object (the script; a dict while a loop walks it): read, never written while it is so -/
 |frz (o:Obj) (u:HO)
 /-- a code object's table -/
 |tbl (ps:Ah)
 /-- any other thing, by what is true of its one object (a def of one's own: SetO a S n := HO.ext λh => ..) -/
 |ext (φ:Heap->Prop)
abbrev Hp:=Au->Option HO
def upd(H:Hp)(a:Au)(o:HO):Hp:=λb=>if b=a then some o else H b
def Zb{H:Hp}{o:HO}:upd H a o a=some o:=by unfold upd;rw[Qa9 U]
def Zm{H:Hp}{b:Au}{o:HO}(h:b≠a):upd H a o b=H b:=by unfold upd;rw[Qa6 h]
def zq{H:Hp}{o u:HO}:upd (upd H a o) a u=upd H a u:=by
 funext b;unfold upd;split<;>rfl
def Xv{H:Hp}{b:Au}{o u:HO}(h:H a=some o)(h':H b=some u)(d:o≠u):a≠b:=by grind
def Zq{H:Hp}{b:Au}{o:HO}(h:H a=some o)(h':H b=none):a≠b:=by grind
def gq (h:Heap) (a:Au) (xs:Ah):Prop:=∃o,h.get? a=some o/\o.cls=.type "tuple" /\ (∃n,o.data=.seq xs n)/\o.dict=none
def gq.tup{h:Heap}{a:Au}{xs:Ah}(p:gq h a xs):IsTup h a xs:=let⟨o,e,c,d,_⟩:=p;⟨o,e,c,d⟩
def gq.new (h:Heap) (xs:Ah):gq (h.push {cls:=.type "tuple",data:=.seq xs}) h.objs.size xs:=⟨_,Qao _ U,U,⟨_,U⟩,U⟩
def gq.lt{h:Heap}{a:Au}{xs:Ah}(p:gq h a xs):a<h.objs.size:=p.tup.lt
section
variable (P:An)(w:Ar)
def Xw(H:Hp)(h:Heap)(a:Au):HO->Prop
 |.lst xs=>xs.length<=sizeLine/\∃(g:Ag)(n:Nat),Vals xs g/\h.get? a=some {cls:=.type "list",data:=.seq g.toArray n}
 |.tup xs=>xs.length<=sizeLine/\∃g:Ag,Vals xs g/\gq h a g.toArray
 |.dK kvs=>kvs.length<=sizeLine/\(a == sysModules)=false/\∃vs,KV kvs vs/\h.DictOf (ZQ P w) a vs
 |.dT kvs=>kvs.length<=sizeLine/\(a == sysModules)=false/\∃xs:List (List Key×Au×As),
   Paired (λ(p:List Key×V) (q:List Key×Au×As)=>p.1=q.1/\H q.2.1=some (.tup (p.1.map kV))/\RelV p.2 q.2.2) kvs xs /\
   ∃o es ep,h.get? a=some o/\o.ExactDict/\o.data=.dict es ep/\es.toList=xs.map (entryOfKey (tupleKind (ZQ P w)))/\(xs.map (·.1)).Nodup
 |.set S n=>h.SetOf (intKind P w) a S n
 |.ins C dx fs=>H dx=some (.own a)/\fs.length<=1000/\dx≠a/\h.get? a=some (PySem.W.instObj C dx) /\
   ∃mA,h.Ns1 dx mA/\(∀f,yS (fs.lookup f) (mA f))/\PySem.Within mA (fs.map (·.1))
 |.own _=>∃o,h.get? a=some o
 |.xd fs=>∃mA,h.Ns1 a mA/\∀f,yS (fs.lookup f) (mA f)
 |.rng lo hi=>∃t u v,h.get? a=some {cls:=.type "range",data:=.fields #[.int lo t,.int hi u,.int 1 v]}
 |.frz o u=>h.get? a=some o/\Xw H h a u
 |.tbl ps=>h.get? a=some {cls:=.none,data:=.fields ps}
 |.met f x=>h.get? a=some (PySem.W.methodObj (.ref f) (.ref x))
 |.ext φ=>φ h/\(∃o,h.get? a=some o)/\∀h1 h2:Heap,φ h1->(∀o,h1.get? a=some o->h2.get? a=some o)->φ h2
def HOk(H:Hp)(h:Heap):Prop:=∀a o,H a=some o->Xw P w H h a o
end
section
variable {P:An}{w:Ar}{H H':Hp}{h h':Heap}{a:Au}{o:HO}
def Xw.lt(x:Xw P w H h a o):a<h.objs.size:=by
 cases o with
 |lst xs=>obtain⟨_,_,_,_,e⟩:=x;exact Qav e
 |tup xs=>obtain⟨_,_,_,p⟩:=x;exact p.lt
 |dK kvs=>obtain⟨_,_,_,_,o,_,_,e,_⟩:=x;exact Qav e
 |dT kvs=>obtain⟨_,_,_,_,o,_,_,e,_⟩:=x;exact Qav e
 |set S n=>obtain⟨o,_,_,_,e,_⟩:=x;exact Qav e
 |ins C dx fs=>obtain⟨_,_,_,e,_⟩:=x;exact Qav e
 |own y=>obtain⟨_,e⟩:=x;exact Qav e
 |xd fs=>obtain⟨_,⟨_,_,_,e,_⟩,_⟩:=x;exact Qav e
 |rng lo hi=>obtain⟨_,_,_,e⟩:=x;exact Qav e
 |frz ob u=>obtain⟨e,_⟩:=x;exact Qav e
 |tbl ps=>exact Qav (x)
 |met f y=>exact Qav (x)
 |ext φ=>obtain⟨_,⟨_,e⟩,_⟩:=x;exact Qav e
theorem Paired.mapP{α β:Type}{F G:α->β->Prop}:∀{q:List α} {g:List β},Paired F q g->(∀a b,F a b->G a b)->Paired G q g
 |_,_,.nil,_=>.nil
 |_,_,.cons r t,f=>.cons (f _ _ r) (Paired.mapP t f)
theorem Xw.stay(x:Xw P w H h a o)(k:∀b u,(b=a\/H b=some (.own a))->h.get? b=some u->h'.get? b=some u)
  (F:∀b,H b=some (.own a)->H' b=some (.own a)) (D:∀b xs,H b=some (.tup xs)->H' b=some (.tup xs)):Xw P w H' h' a o:=by
 induction o with
 |lst xs=>obtain⟨z,g,n,r,e⟩:=x;exact⟨z,g,n,r,k _ _ (.inl U) e⟩
 |tup xs=>obtain⟨z,g,r,ob,e,c⟩:=x;exact⟨z,g,r,ob,k _ _ (.inl U) e,c⟩
 |dK kvs=>obtain⟨z,y,vs,r,ob,es,ep,e,c⟩:=x;exact⟨z,y,vs,r,ob,es,ep,k _ _ (.inl U) e,c⟩
 |dT kvs=>
  obtain⟨z,y,xs,r,ob,es,ep,e,c⟩:=x;exact⟨z,y,xs,Paired.mapP r λp q z=>⟨z.1,D _ _ z.2.1,z.2.2⟩,ob,es,ep,k _ _ (.inl U) e,c⟩
 |set S n=>obtain⟨ob,es,ep,t,e,c⟩:=x;exact⟨ob,es,ep,t,k _ _ (.inl U) e,c⟩
 |ins C dx fs=>
  obtain⟨d,z,ne,e,mA,⟨od,es,ep,e2,c⟩,r⟩:=x;exact⟨F _ d,z,ne,k _ _ (.inl U) e,mA,⟨od,es,ep,k _ _ (.inr d) e2,c⟩,r⟩
 |own y=>obtain⟨ob,e⟩:=x;exact⟨ob,k _ _ (.inl U) e⟩
 |xd fs=>obtain⟨mA,⟨od,es,ep,e,c⟩,r⟩:=x;exact⟨mA,⟨od,es,ep,k _ _ (.inl U) e,c⟩,r⟩
 |rng lo hi=>obtain⟨t,u,v,e⟩:=x;exact⟨t,u,v,k _ _ (.inl U) e⟩
 |frz ob u G=>obtain⟨e,q⟩:=x;exact⟨k _ _ (.inl U) e,G q⟩
 |tbl ps=>
  have e:=x;exact k a _ (.inl U) e
 |met f y=>
  have e:=x;exact k a _ (.inl U) e
 |ext φ=>obtain⟨p,⟨o,e⟩,st⟩:=x;exact⟨st _ _ p λo q=>k _ _ (.inl U) q,⟨o,k _ _ (.inl U) e⟩,st⟩
def HOk.lt(x:HOk P w H h)(e:H a=some o):a<h.objs.size:=(x a o e).lt
def HOk.fresh(x:HOk P w H h)(e:h.objs.size<=a):H a=none:=by
 cases q:H a with
 |none=>rfl
 |some u=>exact absurd (Qbl (x.lt q) e) (Qb0 _)
theorem HOk.kept(x:HOk P w H h)(k:∀b u,h.get? b=some u->h'.get? b=some u):HOk P w H h':=λa o e=>
 (x a o e).stay (λb u _ q=>k b u q) (λ_ q=>q) λ_ _ q=>q
theorem HOk.laid(x:HOk P w H h)(k:∀b u,h.get? b=some u->h'.get? b=some u)(D:h.objs.size<=a)(new:Xw P w (upd H a o) h' a o):HOk P w (upd H a o) h':=λb u e=>by
 have g:=x.fresh D
 by_cases C:b=a
 .subst C;rw[Zb]at e;cases e;exact new
 .rw[Zm C]at e;exact(x b u e).stay (λc v _ q=>k c v q) (λc q=>by rw[Zm (Zq q g)];exact q) λc xs q=>by rw[Zm (Zq q g)];exact q
end
def Rd(H:Hp)(a:Au)(u:HO):Prop:=H a=some u\/∃o,H a=some (.frz o u)
def Rd.ok{H:Hp}{u:HO}(r:Rd H a u)(x:HOk P w H h):Xw P w H h a u:=by
 rcases r with r|⟨o,r⟩
 .exact x a u r
 .obtain⟨_,q⟩:=x a _ r;exact q
def Mut:Option HO->Prop
 |some (.lst _)=>True
 |some (.dK _)=>True
 |some (.dT _)=>True
 |some (.set _ _)=>True
 |some (.ins _ _ _)=>True
 |some (.ext _)=>True
 |_=>False
section
variable {P:An}{w:Ar}{H:Hp}{h h':Heap}{x e:Au}{o':HO}
def HOk.write(ok:HOk P w H h)(D:Mut (H x))(Q:e=x\/H e=some (.own x))(k:∀b u,b≠e->h.get? b=some u->h'.get? b=some u)(G:∃u,h'.get? e=some u)
  (new:Xw P w (upd H x o') h' x o'):HOk P w (upd H x o') h':=λb u q=>by
 have C:∀c y,H c=some (.own y)->c≠x:=λc y r z=>by subst z;rw[r]at D;exact D
 have g:∀c xs,H c=some (.tup xs)->c≠x:=λc xs r z=>by subst z;rw[r]at D;exact D
 by_cases I:b=x
 .subst I;rw[Zb]at q;cases q;exact new
 .rw[Zm I]at q
  by_cases F:b=e
  .have q':H b=some (.own x):=by grind
   rw[q]at q';cases q';obtain⟨v,O⟩:=G;exact⟨v,by grind⟩
  .refine(ok b u q).stay (λc v J r=>k c v ?_ r) (λc r=>by rw[Zm (C c b r)];exact r) λc xs r=>by rw[Zm (g c xs r)];exact r
   rcases J with rfl|J
   .exact F
   .grind
end
structure Un(fs ex:List Au)(H H':Hp)(h h':Heap):Prop where
 keep:∀b o,h.get? b=some o->H b=none->b∉fs->b∉ex->h'.get? b=some o
 slot:∀b o,h.get? b=some o->H b=none->b∈fs->b∉ex->∃sl,h'.get? b=some {o with slots:=sl}
 free:∀b o,h.get? b=some o->H b=none->b∉ex->H' b=none
 there:∀b o,h.get? b=some o->b∉ex->∃o',h'.get? b=some o'
 tups:∀b xs,H b=some (.tup xs)->H' b=some (.tup xs)
 frzs:∀b o u,H b=some (.frz o u)->H' b=some (.frz o u)
 tbls:∀b ps,H b=some (.tbl ps)->∃more,H' b=some (.tbl (ps++more))
section
variable {fs fs' ex ex':List Au}{H H1 H2:Hp}{h h1 h2 h':Heap}{a x e:Au}{o:HO}
def Un.any(u:Un fs ex H H1 h h1){b:Au}{ob:Obj}(q:h.get? b=some ob)(n:H b=none)(C:b∉ex):∃D,h1.get? b=some {ob with slots:=D}:=by
 by_cases g:b∈fs
 .exact u.slot b ob q n g C
 .exact⟨_,u.keep b ob q n g C⟩
theorem Un.kept(k:∀b u,h.get? b=some u->h'.get? b=some u):Un fs ex H H h h':=
 ⟨λb ob q _ _ _=>k b ob q,λb ob q _ _ _=>⟨_,k b ob q⟩,λ_ _ _ n _=>n,λb ob q _=>⟨ob,k b ob q⟩,λ_ _ q=>q,λ_ _ _ q=>q,λ_ ps q=>⟨#[],by grind⟩⟩
def Un.refl:Un fs ex H H h h:=Un.kept λ_ _ q=>q
theorem Un.laid(k:∀b u,h.get? b=some u->h'.get? b=some u)(C:h.objs.size<=a)(g:H a=none):Un fs ex H (upd H a o) h h' where
 keep:=λb u q _ _ _=>k b u q
 slot:=λb u q _ _ _=>⟨u.slots,k b u q⟩
 free:=λb u q n _=>by rw[Zm (Qbc (Qbl (Qav q) C))];exact n
 there:=λb u q _=>⟨u,k b u q⟩
 tups:=λb xs q=>by rw[Zm (Zq q g)];exact q
 frzs:=λb u xs q=>by rw[Zm (Zq q g)];exact q
 tbls:=λb ps q=>⟨#[],by rw[Zm (Zq q g),q];simp⟩
def Un.write(F:Mut (H x))(J:e=x\/H e=some (.own x))(k:∀b u,b≠e->h.get? b=some u->h'.get? b=some u)(D:∃u,h'.get? e=some u):Un fs ex H (upd H x o) h h':=by
 have I:∀b,H b=none->b≠x:=λb n z=>by subst z;rw[n]at F;exact F
 have G:∀b,H b=none->b≠e:=λb n z=>by
  grind
 have C:∀b u,H b=some u->¬Mut (some u)->b≠x:=λb u q nm z=>by grind
 refine⟨λb u q n _ _=>k b u (G b n) q,λb u q n _ _=>⟨u.slots,k b u (G b n) q⟩,λb u q n _=>by rw[Zm (I b n)];exact n,λb u q _=>?_,
  λb xs q=>by rw[Zm (C b _ q λz=>z)];exact q,λb u xs q=>by rw[Zm (C b _ q λz=>z)];exact q,λb ps q=>⟨#[],by rw[Zm (C b _ q λz=>z),q];simp⟩⟩
 by_cases g:b=e
 .subst g;exact D
 .exact⟨u,k b u g q⟩
end
def trk(h:Heap)(H:Hp):List Au:=(List.range h.objs.size).filter λa=>(H a).isSome
def Zc9(h:Heap)(H:Hp):Heap:=PySem.W.hideAll h (trk h H)
def Zda(h:Heap)(H:Hp):(Zc9 h H).objs.size=h.objs.size:=PySem.W.hideAll_size _ _
theorem Zhj{H:Hp}{b:Au}{o:Obj}(e:h.get? b=some o)(n:H b=none):(Zc9 h H).get? b=some o:=
 PySem.W.hideAll_get _ e λg=>by
  have q:=(Qct.mp g).2;rw[n]at q;simp at q
def Zlk{H:Hp}{b:Au}{o:Obj}(e:(Zc9 h H).get? b=some o):h.get? b=some o/\H b=none:=by
 have g:=PySem.W.of_hideAll _ e;refine⟨g,?_⟩;cases q:H b with
 |none=>rfl
 |some x=>
  have C:b∈trk h H:=Qct.mpr ⟨Qcf.mpr (Qav g),by simp[q]⟩;have z:(Zc9 h H).get? b=none:=PySem.W.hideAll_none _ C;rw[z]at e;cases e
structure Mod(K:Af)(mg:Ae)(base:Heap):Prop where
 kin:K.In base
 glob:base.Ns mainGlobals mg
 blt:∃mb,base.Ns builtinsNs mb/\∀x:Str,x ≠ "__name__" ->mb x=bootBuiltins x
 nolimit:base.NoLimit
set_option genInjectivity false in
set_option genSizeOfSpec false in
structure Cx where
 prog:An
 w:Ar
 K:Af
 mg:Ae
 base:Heap
 A:Ao
 N:Ai
 s₀:Aq
 H₀:Hp
 env:Env
 outer:List Env
 stack:List Env
 ex:List Au
 fn:Str->Bool
 calm:Bool
 pn:Ac
 xe:Ab
abbrev A2{q:Type}(X:Cx):=@wpAny q (model X.prog X.w) X.A
def frs(l:List Env):List Au:=l.filterMap (·.frame)
abbrev Cx.fs(X:Cx):List Au:=frs X.outer
def Vis(g:Scope)(x:Str):Prop:=g.names.lookup x=some .local\/g.names.lookup x=some .cell\/g.names.lookup x=some .free
def Loc(g:Scope)(x:Str):Prop:=g.names.lookup x=some .local\/g.names.lookup x=some .cell
def Look(env:Env)(h:Heap)(m:Ae)(x:Str)(u:As):Prop:=
 (env.kindOf x=some .local/\m x=some u)\/((env.kindOf x=some .cell\/env.kindOf x=some .free)/\∃c,env.cells.lookup x=some c/\h.IsCell c (some u))
set_option genInjectivity false in
set_option genSizeOfSpec false in
structure Cx.Ok(X:Cx):Prop where
 mod:Mod X.K X.mg X.base
 kind:X.env.scope.kind=.function
 glob:X.env.globals=mainGlobals
 blt:X.env.builtins=builtinsNs
 above:X.s₀.heap.objs.size<=X.env.locals
 inj:∀x y c,X.env.cells.lookup x=some c->X.env.cells.lookup y=some c->x=y
 has:∀x,(X.env.kindOf x=some .cell\/X.env.kindOf x=some .free)->∃c,X.env.cells.lookup x=some c
 cab:∀x c,X.fn x=true->X.env.cells.lookup x=some c->X.s₀.heap.objs.size<=c
 hd:X.calm=true->X.A.handled=none
 frames:X.A.frames=some X.stack
 stk:X.stack=X.outer\/(X.stack=X.env::X.outer/\X.env.frame=some X.env.locals)
 exf:∀b∈X.ex,b≠X.env.locals/\∀x c,X.env.cells.lookup x=some c->c≠b
 bs:∀b o,X.base.get? b=some o->X.s₀.heap.get? b=some o/\X.H₀ b=none
 bsz:X.base.objs.size<=X.s₀.heap.objs.size
 noex:∀b o,X.base.get? b=some o->b∉X.ex
 exfs:∀b∈X.ex,b∉X.fs
 funs:X.s₀.heap.FunFrames X.base X.outer
 frf:∀b∈X.fs,X.H₀ b=none
structure Inv(X:Cx)(pins:Ac)(σ:List (Option V))(H:Hp)(s:Aq):Prop where
 ok:X.Ok
 os:s.os=X.s₀.os
 bare:AllBare s.gens
 base:Un X.fs X.ex X.H₀ H X.s₀.heap s.heap
 loc:∃m,s.heap.Ns X.env.locals m/\∀(i:Nat)(x:Str)(v:V),X.N[i]?=some x->σ[i]?=some (some v)->Vis X.env.scope x->∃u,RelV v u/\Look X.env s.heap m x u
 cell:∀x c,X.env.cells.lookup x=some c->∃v,s.heap.IsCell c v
 free:H X.env.locals=none
 freeC:∀x c,X.env.cells.lookup x=some c->H c=none
 pin:∀p∈X.pn++pins,s.heap.get? p.1=some p.2/\H p.1=none/\p.1≠X.env.locals/\p.1∉X.fs/\∀v,p.2.data≠.cell v
 hok:HOk X.prog X.w H s.heap
 len:σ.length=X.N.length
section
variable {X:Cx}{pins:Ac}{σ:List (Option V)}{H H':Hp}{s:Aq}{h':Heap}
theorem Cx.Ok.nofr(ok:X.Ok){b:Au}{o:Obj}(e:X.base.get? b=some o):b∉X.fs:=λg=>by
 have:=(ok.funs.mem g).1;rw[e]at this;cases this
theorem Inv.bs(I:Inv X pins σ H s):∀b o,X.base.get? b=some o->s.heap.get? b=some o/\H b=none:=λb o e=>
 ⟨I.base.keep b o (I.ok.bs b o e).1 (I.ok.bs b o e).2 (I.ok.nofr e) (I.ok.noex b o e),I.base.free b o (I.ok.bs b o e).1 (I.ok.bs b o e).2 (I.ok.noex b o e)⟩
def Inv.bk(I:Inv X pins σ H s):∀b o,X.base.get? b=some o->s.heap.get? b=some o:=λb o e=>(I.bs b o e).1
def Inv.mod(I:Inv X pins σ H s):Mod X.K X.mg X.base:=I.ok.mod
def Inv.kIn(I:Inv X pins σ H s):X.K.In s.heap:=I.ok.mod.kin.keeps I.bk
def Inv.lt(I:Inv X pins σ H s):X.env.locals<s.heap.objs.size:=let⟨_,hn,_⟩:=I.loc;hn.lt
def Inv.sz(I:Inv X pins σ H s):X.s₀.heap.objs.size<=s.heap.objs.size:=Qaz I.ok.above (Qax I.lt)
theorem Inv.nofs(I:Inv X pins σ H s)(h:s.heap.objs.size<=a):a∉X.fs:=λg=>by
 obtain⟨_,o,q,_⟩:=I.ok.funs.mem g;exact absurd (Qbl (Qav q) (Qaz I.sz h)) (Qb0 _)
theorem Inv.cne(I:Inv X pins σ H s):∀x c,X.env.cells.lookup x=some c->c≠X.env.locals:=λx c e z=>by
 obtain⟨v,o,D,C⟩:=I.cell x c e;obtain⟨m,⟨o',es,ep,g,q,_⟩,_⟩:=I.loc;rw[z,g]at D;cases D;rw[q]at C;cases C
theorem Inv.funs(I:Inv X pins σ H s):s.heap.FunFrames X.base X.outer:=by
 have all:∀(l:List Env),(∀b∈frs l,b∈X.fs)->X.s₀.heap.FunFrames X.base l->s.heap.FunFrames X.base l:=by
  intro l
  induction l with
  |nil=>intro _ _;trivial
  |cons env r Y=>
   intro D F;obtain⟨J,⟨L,o,C,G,O,Z⟩,Q⟩:=F;have g:=D L (by unfold frs;rw[Qen,C];exact Qam);obtain⟨sl,e⟩:=I.base.slot L o O (I.ok.frf L g) g λz=>I.ok.exfs L z g;exact⟨J,⟨L,_,C,G,e,Z⟩,Y (λb q=>D b (by unfold frs;rw[Qen,C];exact Qak _ q)) Q⟩
 exact all X.outer (λ_ q=>q) I.ok.funs
def Inv.stack(I:Inv X pins σ H s):s.heap.FunFrames X.base X.stack:=by
 rcases I.ok.stk with e|⟨e,q⟩
 .rw[e];exact I.funs
 .rw[e];obtain⟨m,g,_⟩:=I.loc;refine .cons (by rw[I.ok.kind];decide) q g (Heap.get?_none_of_le (Qaz I.ok.bsz I.ok.above)) I.funs
theorem Inv.stkSub(I:Inv X pins σ H s):∀b∈frs X.stack,b∈X.env.locals::X.fs:=λb g=>by
 rcases I.ok.stk with e|⟨e,q⟩
 .grind
 .rw[e]at g;unfold frs at g;rw[Qen,q]at g;exact g
theorem Inv.stkFree(I:Inv X pins σ H s):∀b∈frs X.stack,H b=none:=λb g=>by
 rcases Qaw.mp (I.stkSub b g)with e|g
 .rw[e];exact I.free
 .obtain⟨_,o,q,_⟩:=I.ok.funs.mem g;exact I.base.free b o q (I.ok.frf b g) λz=>I.ok.exfs b z g
def Inv.step{g':Array GenState}{t':Nat}{d':Drawn}{ch:List Au}(I:Inv X pins σ H s)
  (D:∀b∈ch,(b∈X.ex\/X.s₀.heap.objs.size<=b)/\b≠X.env.locals/\(∀x c,X.env.cells.lookup x=some c->c≠b)/\∀p∈X.pn++pins,p.1≠b)
  (keep:∀b o,b≠X.env.locals->b∉X.fs->b∉ch->s.heap.get? b=some o->H b=none->h'.get? b=some o)
  (J:∀b o,b≠X.env.locals->b∈X.fs->b∉ch->s.heap.get? b=some o->H b=none->∃sl,h'.get? b=some {o with slots:=sl}) (free:∀b o,b∉ch->s.heap.get? b=some o->H b=none->H' b=none)
  (O:∀b o,b∉ch->s.heap.get? b=some o->∃o',h'.get? b=some o')
  (tups:∀b xs,H b=some (.tup xs)->H' b=some (.tup xs)) (frzs:∀b o u,H b=some (.frz o u)->H' b=some (.frz o u)) (Z:∀b ps,H b=some (.tbl ps)->∃more,H' b=some (.tbl (ps++more)))
  (ns:∀m,s.heap.Ns X.env.locals m->h'.Ns X.env.locals m) (hok:HOk X.prog X.w H' h') (hg:AllBare g'):
  Inv X pins σ H' {s with heap:=h',gens:=g',drawn:=d',toks:=t'}:=by
 have neL:∀b o,X.s₀.heap.get? b=some o->b≠X.env.locals:=λb o e=>Qbc (Qbl (Qav e) I.ok.above);have G:∀b o,X.s₀.heap.get? b=some o->b∉X.ex->b∉ch:=λb o e g Q=>by
  rcases(D b Q).1 with z|z
  .exact g z
  .exact absurd (Qbl (Qav e) z) (Qb0 _)
 have C:∀x c,X.env.cells.lookup x=some c->∀v,s.heap.IsCell c v->h'.IsCell c v:=λx c e v ⟨o,Y,hd⟩=>by
  have F:c∉ch:=λz=>(D c z).2.2.1 x c e U
  by_cases hc:c∈X.fs
  .obtain⟨sl,q⟩:=J c o (I.cne x c e) hc F Y (I.freeC x c e);exact⟨_,q,hd⟩
  .exact⟨o,keep c o (I.cne x c e) hc F Y (I.freeC x c e),hd⟩
 refine⟨I.ok,I.os,hg,⟨λb o e n Q g=>?_,λb o e n Q g=>?_,λb o e n g=>?_,λb o e g=>?_,λb xs e=>tups b xs (I.base.tups b xs e),λb o xs e=>frzs b o xs (I.base.frzs b o xs e),λb ps e=>?_⟩,?_,λx c e=>?_,?_,λx c e=>?_,λp hp=>?_,hok,I.len⟩
 .exact keep b o (neL b o e) Q (G b o e g) (I.base.keep b o e n Q g) (I.base.free b o e n g)
 .obtain⟨sl,e1⟩:=I.base.slot b o e n Q g;obtain⟨sl',e2⟩:=J b _ (neL b o e) Q (G b o e g) e1 (I.base.free b o e n g);exact⟨sl',e2⟩
 .obtain⟨o',e1⟩:=I.base.there b o e g;exact free b o' (G b o e g) e1 (I.base.free b o e n g)
 .obtain⟨o',e1⟩:=I.base.there b o e g;exact O b o' (G b o e g) e1
 .obtain⟨m1,e1⟩:=I.base.tbls b ps e;obtain⟨m2,e2⟩:=Z b _ e1;exact⟨m1++m2,by grind⟩
 .obtain⟨m,hn,hl⟩:=I.loc;refine⟨m,ns m hn,λi x v e1 e2 e3=>?_⟩;obtain⟨u,r,l⟩:=hl i x v e1 e2 e3;refine⟨u,r,?_⟩;rcases l with l|⟨k,c,e,z⟩
  .exact .inl l
  .exact .inr ⟨k,c,e,C x c e _ z⟩
 .obtain⟨v,z⟩:=I.cell x c e;exact⟨v,C x c e v z⟩
 .obtain⟨m,⟨o,_,_,Y,_⟩,_⟩:=I.loc;exact free _ o (λz=>(D _ z).2.1 rfl) Y I.free
 .obtain⟨v,o,Y,hd⟩:=I.cell x c e;exact free c o (λz=>(D c z).2.2.1 x c e U) Y (I.freeC x c e)
 .obtain⟨e,n,ne,nf,d⟩:=I.pin p hp;have F:p.1∉ch:=λz=>(D p.1 z).2.2.2 p hp rfl;exact⟨keep p.1 p.2 ne nf F e n,free p.1 p.2 F e n,ne,nf,d⟩
def Inv.un{t':Nat}(I:Inv X pins σ H s)(u:Un X.fs [] H H' s.heap h')(q:HOk X.prog X.w H' h'):Inv X pins σ H' {s with heap:=h',toks:=t'}:=by
 obtain⟨m,⟨o,es,ep,G,r⟩,_⟩:=id I.loc;obtain⟨Z,O⟩:=u.any G I.free (by simp);exact I.step (ch:=[]) (λ_ z=>nomatch z) (λb o _ F _ e n=>u.keep b o e n F (by simp)) (λb o _ F _ e n=>u.slot b o e n F (by simp)) (λb o _ e n=>u.free b o e n (by simp)) (λb o _ e=>u.there b o e (by simp)) u.tups u.frzs u.tbls (λY J=>by
  obtain⟨o',D,C,g,Q⟩:=J;rw[G]at g;cases g;exact⟨_,D,C,O,Q⟩) q I.bare
def Inv.call{O:Array GenState}{t':Nat}{d':Drawn}{ch:List Au}(I:Inv X pins σ H s)(u:Un (frs X.stack) ch H H' s.heap h')(D:HOk X.prog X.w H' h')(Y:AllBare O)
  (q:∀b∈ch,(b∈X.ex\/X.s₀.heap.objs.size<=b)/\b≠X.env.locals/\(∀x c,X.env.cells.lookup x=some c->c≠b)/\∀p∈X.pn++pins,p.1≠b):
  Inv X pins σ H' {s with heap:=h',gens:=O,drawn:=d',toks:=t'}:=by
 obtain⟨m,⟨o,es,ep,Q,r⟩,_⟩:=id I.loc;obtain⟨sl,G⟩:=u.any Q I.free λz=>(q _ z).2.1 rfl;exact I.step q (λb o G hb g e n=>u.keep b o e n (λz=>(Qaw.mp (I.stkSub b z)).elim G hb) g) (λb o _ _ g e n=>u.any e n g) (λb o g e n=>u.free b o e n g) (λb o g e=>u.there b o e g) u.tups u.frzs u.tbls (λm' Z=>by
  obtain⟨o',J,F,C,r'⟩:=Z;rw[Q]at C;cases C;exact⟨_,J,F,G,r'⟩) D Y
def Inv.turned{t':Nat}{it:Au}(I:Inv X pins σ H s)(k:∀b o,b≠it->s.heap.get? b=some o->h'.get? b=some o)(J:H it=none)(G:it≠X.env.locals)
  (h1:it∈X.ex\/X.s₀.heap.objs.size<=it) (h2:∀x c,X.env.cells.lookup x=some c->c≠it) (O:∀p∈X.pn++pins,p.1≠it):Inv X pins σ H {s with heap:=h',toks:=t'}:=by
 have C:∀b u,H b=some u->b≠it:=λb u e z=>by grind
 refine I.step (ch:=[it]) (λb Q=>?_) (λb o _ _ g e _=>k b o (λz=>g (by simp[z])) e) (λb o _ _ g e _=>⟨o.slots,k b o (λz=>g (by simp[z])) e⟩) (λ_ _ _ _ n=>n)
  (λb o g e=>⟨o,k b o (λz=>g (by simp[z])) e⟩) (λ_ _ e=>e) (λ_ _ _ e=>e) (λb ps e=>⟨#[],by grind⟩) (λm D=>?_) (λb u e=>?_) I.bare
 .grind
 .obtain⟨o,es,ep,F,r⟩:=D;exact⟨o,es,ep,k _ o (Qd7 G) F,r⟩
 .refine(I.hok b u e).stay (λc v g q=>k c v ?_ q) (λ_ q=>q) λ_ _ q=>q
  rcases g with z|z
  .rw[z];exact C b u e
  .exact C c _ z
def Inv.tok(I:Inv X pins σ H s)(t:Nat):Inv X pins σ H {s with toks:=t}:=I.un Un.refl I.hok
def Inv.kept{t':Nat}(I:Inv X pins σ H s)(k:∀b u,s.heap.get? b=some u->h'.get? b=some u):Inv X pins σ H {s with heap:=h',toks:=t'}:=I.un (Un.kept k) (I.hok.kept k)
theorem Inv.laid{a:Au}{o:HO}{t':Nat}(I:Inv X pins σ H s)(k:∀b u,s.heap.get? b=some u->h'.get? b=some u)(g:s.heap.objs.size<=a)(new:Xw X.prog X.w (upd H a o) h' a o):
  Inv X pins σ (upd H a o) {s with heap:=h',toks:=t'}:=I.un (Un.laid k g (I.hok.fresh g)) (I.hok.laid k g new)
theorem Inv.write{x e:Au}{o:HO}{t':Nat}(I:Inv X pins σ H s)(q:Mut (H x))(C:e=x\/H e=some (.own x))(k:∀b u,b≠e->s.heap.get? b=some u->h'.get? b=some u)(g:∃u,h'.get? e=some u)
  (new:Xw X.prog X.w (upd H x o) h' x o):Inv X pins σ (upd H x o) {s with heap:=h',toks:=t'}:=I.un (Un.write q C k g) (I.hok.write q C k g new)
theorem Inv.pins_of(I:Inv X pins σ H s)(h:∀p∈m,s.heap.get? p.1=some p.2/\H p.1=none/\p.1≠X.env.locals/\p.1∉X.fs/\∀v,p.2.data≠.cell v):Inv X m σ H s:=
 ⟨I.ok,I.os,I.bare,I.base,I.loc,I.cell,I.free,I.freeC,λp g=>(Qa7.mp g).elim (λz=>I.pin p (Qbs _ z)) (h p),I.hok,I.len⟩
def uV(g:N.Nodup){j:Nat}(a:N[i]?=some x)(b:N[j]?=some x):i=j:=by
 obtain⟨h1,e1⟩:=Qah.mp a;obtain⟨h2,e2⟩:=Qah.mp b;exact(List.getElem_inj g).mp (e1.trans e2.symm)
theorem Zdb{M:Model}{A:Ao}{E:Ab}{v:V}{u:As}{Q:Unit->Shared->Prop}(I:Inv X pins σ H s)(hN:X.N.Nodup)(hi:X.N[i]?=some x)(F:Loc X.env.scope x)(r:RelV v u)
  (h:∀s',Inv X pins (σ.set i (some v)) H s'->(∃a,Heap.SameBut a s.heap s'.heap/\(a=X.env.locals\/X.env.cells.lookup x=some a))->Q () s') (hf:X.fn x=true\/X.env.scope.names.lookup x=some .local:=by first|exact .inl U|exact .inr U|assumption):wpAny M A (storeName X.env x u) Q E s:=by
 obtain⟨m,hn,hl⟩:=id I.loc;have hcls:(X.env.scope.kind == .class||(X.env.scope.kind == .module&&X.env.locals != X.env.globals))=false:=by rw[I.ok.kind];rfl
 have O:i<σ.length:=by rw[I.len];exact(Qah.mp hi).1
 have cne:=I.cne;have C:∀{a:Au} {h':Heap},(∃o,s.heap.get? a=some o/\H a=none)->Heap.SameBut a s.heap h'->HOk X.prog X.w H h':=λ{a h'} ha g b ob e=>by
  obtain⟨_,_,G⟩:=ha;refine(I.hok b ob e).stay (λc w' D q=>(g.2 c ?_).trans q) (λ_ q=>q) λ_ _ q=>q;rintro rfl;rcases D with rfl|D
  .rw[G]at e;cases e
  .rw[G]at D;cases D
 rcases F with J|J
 .refine wpAny_storeName_local J hn (λh' hn' g=>?_) hcls;obtain⟨oL,_,_,hoL,_⟩:=id hn;refine h _ ⟨I.ok,I.os,I.bare,⟨λb o e n hb F=>?_,λb o e n hb F=>?_,I.base.free,λb o e F=>?_,I.base.tups,I.base.frzs,I.base.tbls⟩,⟨_,hn',λj y v' e1 e2 e3=>?_⟩,λy c e=>?_,I.free,I.freeC,λp hp=>?_,C ⟨oL,hoL,I.free⟩ g,by simpa using I.len⟩ ⟨_,g,.inl U⟩
  .exact(g.2 b (Qbc (Qbl (Qav e) I.ok.above))).trans (I.base.keep b o e n hb F)
  .obtain⟨sl,e1⟩:=I.base.slot b o e n hb F;exact⟨sl,(g.2 b (Qbc (Qbl (Qav e) I.ok.above))).trans e1⟩
  .obtain⟨o',e1⟩:=I.base.there b o e F;exact⟨o',(g.2 b (Qbc (Qbl (Qav e) I.ok.above))).trans e1⟩
  .by_cases Y:j=i
   .subst Y;rw[hi]at e1;cases e1;rw[List.getElem?_set_self O]at e2;cases e2;exact⟨u,r,.inl ⟨J,by simp⟩⟩
   .rw[List.getElem?_set_ne (Qd7 Y)]at e2;obtain⟨u',r',q⟩:=hl j y v' e1 e2 e3;refine⟨u',r',?_⟩;rcases q with⟨k,e⟩|⟨k,c,e,z⟩
    .refine .inl ⟨k,?_⟩;have:y≠x:=λe=>Y (uV hN e1 (e ▸ hi));simp[this,e]
    .exact .inr ⟨k,c,e,z.sameBut g (cne y c e)⟩
  .obtain⟨w',z⟩:=I.cell y c e;exact⟨w',z.sameBut g (cne y c e)⟩
  .obtain⟨e,n,ne,nf,d⟩:=I.pin p hp;exact⟨(g.2 p.1 ne).trans e,n,ne,nf,d⟩
 .have Z:X.fn x=true:=by
   rcases hf with z|z
   .exact z
   .rw[z]at J;cases J
  obtain⟨c,D⟩:=I.ok.has x (.inl J);obtain⟨w',z⟩:=I.cell x c D;refine wpAny_storeName_cell I.ok.kind J D z (λh' hc' g=>?_);obtain⟨oc,hoc,hocd⟩:=id z;refine h {s with heap:=h'} ⟨I.ok,I.os,I.bare,⟨λb o e n hb F=>?_,λb o e n hb F=>?_,I.base.free,λb o e F=>?_,I.base.tups,I.base.frzs,I.base.tbls⟩,⟨m,hn.sameBut g (Qd7 (cne x c D)),λj y v' e1 e2 e3=>?_⟩,λy c' e=>?_,I.free,I.freeC,λp hp=>?_,C ⟨oc,hoc,I.freeC x c D⟩ g,by simpa using I.len⟩ ⟨c,g,.inr D⟩
  .exact(g.2 b (Qbc (Qbl (Qav e) (I.ok.cab x c Z D)))).trans (I.base.keep b o e n hb F)
  .obtain⟨sl,e1⟩:=I.base.slot b o e n hb F;exact⟨sl,(g.2 b (Qbc (Qbl (Qav e) (I.ok.cab x c Z D)))).trans e1⟩
  .obtain⟨o',e1⟩:=I.base.there b o e F;exact⟨o',(g.2 b (Qbc (Qbl (Qav e) (I.ok.cab x c Z D)))).trans e1⟩
  .by_cases Y:j=i
   .subst Y;rw[hi]at e1;cases e1;rw[List.getElem?_set_self O]at e2;cases e2;exact⟨u,r,.inr ⟨.inl J,c,D,hc'⟩⟩
   .rw[List.getElem?_set_ne (Qd7 Y)]at e2;obtain⟨u',r',q⟩:=hl j y v' e1 e2 e3;refine⟨u',r',?_⟩;rcases q with q|⟨k,c',e,z'⟩
    .exact .inl q
    .refine .inr ⟨k,c',e,z'.sameBut g ?_⟩;rintro rfl;exact Y (uV hN e1 (I.ok.inj _ _ _ e D ▸ hi))
  .by_cases hcc:c'=c
   .subst hcc;exact⟨_,hc'⟩
   .obtain⟨w2,z2⟩:=I.cell y c' e;exact⟨w2,z2.sameBut g hcc⟩
  .obtain⟨e,n,ne,nf,d⟩:=I.pin p hp;refine⟨(g.2 p.1 ?_).trans e,n,ne,nf,d⟩;intro q;rw[q,hoc]at e;have q':oc=p.2:=Option.some.inj e;exact d w' (by rw[<-q'];exact hocd)
theorem W6{M:Model}{A:Ao}{E:Ab}{v:V}{u:As}{Q:Unit->Shared->Prop}(I:Inv X pins σ H s)(g:X.N.Nodup)(hi:X.N[i]?=some x)(q:Loc X.env.scope x)(r:RelV v u)
  (h:∀s',Inv X pins (σ.set i (some v)) H s'->Q () s') (D:X.fn x=true\/X.env.scope.names.lookup x=some .local:=by first|exact .inl U|exact .inr U|assumption):wpAny M A (storeName X.env x u) Q E s:=
 Zdb I g hi q r (λs' C _=>h s' C) D
def Inv.call'{s':Aq}{ch:List Au}(I:Inv X pins σ H s)(D:s'.os=s.os)(u:Un (frs X.stack) ch H H' s.heap s'.heap)(q:HOk X.prog X.w H' s'.heap)(C:AllBare s'.gens)
  (g:∀b∈ch,(b∈X.ex\/X.s₀.heap.objs.size<=b)/\b≠X.env.locals/\(∀x c,X.env.cells.lookup x=some c->c≠b)/\∀p∈X.pn++pins,p.1≠b):Inv X pins σ H' s':=by
 obtain⟨h',G,F,t',o'⟩:=s';have e:=D;subst e;exact I.call u q C g
end
abbrev XK:=As->Option Au->Hp->Prop
abbrev St:=List (Option V)
abbrev Ax:=List (List V)
abbrev Ay:=List (Key×V)
abbrev Az:=St->Hp->Prop
abbrev A0:=List V
abbrev VK:=V->Hp->Prop
abbrev TE:=St->Hp->VK->Prop
abbrev TT:=St->Hp->(Bool->Hp->Prop)->Prop
abbrev TA:=St->Hp->(A0->Hp->Prop)->Prop
structure Ends where
 nx:Az
 rt:VK
 bk:Az:=λ_ _=>False
 ct:Az:=λ_ _=>False
abbrev TS:=Ends->St->Hp->Prop
inductive EP_i(X:Cx)(pins:Ac)(σ:St)(Q:VK)(u:As)(s':Aq):Prop
 |mk (v H':_):(Inv X pins σ H' s')->(RelV v u)->(Q v H')->EP_i X pins σ Q u s'
def EP(X:Cx)(pins:Ac)(σ:St)(Q:VK)(u:As)(s':Aq):Prop:=EP_i X pins σ Q u s'
inductive TP_i(X:Cx)(pins:Ac)(σ:St)(Q:Bool->Hp->Prop)(b:Bool)(s':Aq):Prop
 |mk (H':_):(Inv X pins σ H' s')->(Q b H')->TP_i X pins σ Q b s'
def TP(X:Cx)(pins:Ac)(σ:St)(Q:Bool->Hp->Prop)(b:Bool)(s':Aq):Prop:=TP_i X pins σ Q b s'
inductive AP_i(X:Cx)(pins:Ac)(σ:St)(Q:A0->Hp->Prop)(us:Ag)(s':Aq):Prop
 |mk (vs H':_):(Inv X pins σ H' s')->(Vals vs us)->(Q vs H')->AP_i X pins σ Q us s'
def AP(X:Cx)(pins:Ac)(σ:St)(Q:A0->Hp->Prop)(g:Ag)(s':Aq):Prop:=AP_i X pins σ Q g s'
def SP(X:Cx)(pins:Ac)(D:Ends)(f:Flow)(s':Aq):Prop:=
 match f with
 |.next=>∃g H',Inv X pins g H' s'/\D.nx g H'
 |.brk=>∃g H',Inv X pins g H' s'/\D.bk g H'
 |.cont=>∃g H',Inv X pins g H' s'/\D.ct g H'
 |.ret u=>∃v g H',Inv X pins g H' s'/\RelV v u/\D.rt v H'
def PE(X:Cx)(e:Av)(t:TE):Prop:=
 ∀(pins:Ac)(s:Aq)(σ:St)(H:Hp)(Q:VK),Inv X pins σ H s->t σ H Q->A2 X (eval e X.env) (EP X pins σ Q) X.xe s
def PT(X:Cx)(e:Av)(t:TT):Prop:=
 ∀(pins:Ac)(s:Aq)(σ:St)(H:Hp)(Q:Bool->Hp->Prop),Inv X pins σ H s->t σ H Q->A2 X (isTrue e X.env (eval e X.env)) (TP X pins σ Q) X.xe s
def PW(X:Cx)(e:Av)(t:TT):Prop:=
 ∀(g:Sem As)(pins:Ac)(s:Aq)(σ:St)(H:Hp)(Q:Bool->Hp->Prop),Inv X pins σ H s->t σ H Q->A2 X (isTrue e X.env g) (TP X pins σ Q) X.xe s
def PW.pt{X:Cx}{t:TT}(h:PW X e t):PT X e t:=h _
def PA(X:Cx)(es:Al)(t:TA):Prop:=
 ∀(pos:Pos)(pins:Ac)(s:Aq)(σ:St)(H:Hp)(Q:A0->Hp->Prop),Inv X pins σ H s->t σ H Q->A2 X (spliced (backTo pos (starEach es X.env))) (AP X pins σ Q) X.xe s
def PS(X:Cx)(st:Aw)(t:TS):Prop:=
 ∀(pins:Ac)(s:Aq)(σ:St)(H:Hp)(D:Ends),Inv X pins σ H s->t D σ H->A2 X (exec st X.env) (SP X pins D) X.xe s
def PSs(X:Cx)(st:List Aw)(t:TS):Prop:=
 ∀(pins:Ac)(s:Aq)(σ:St)(H:Hp)(D:Ends),Inv X pins σ H s->t D σ H->A2 X (execs st X.env) (SP X pins D) X.xe s
def thn{t:Sem g}{Q q:g->Shared->Prop}{M:Model}{A:Ao}{E:Ab}(h:wpAny M A t Q E s)(C:∀a s,Q a s->q a s):wpAny M A t q E s:=Qdb h C λ_ _ x=>x
section
variable {X:Cx}
inductive Zjp(i:Nat)(σ:St)(H:Hp)(Q:VK):Prop
 |mk (v:_):(σ[i]?=some (some v))->(Q v H)->Zjp i σ H Q
def yT(i:Nat):TE:=λσ H Q=>Zjp i σ H Q
def tC(v:V):TE:=λ_ H Q=>Q v H
def Zjq    (Z:X.N[i]?=some x) (Y:Vis X.env.scope x) (D:(x == ("__debug__" : Str))=false:=by decide) (C:(x == ("__classdict__" : Str))=false:=by decide):PE X (.Name x p) (yT i):=by
 intro pins s σ H Q I h;obtain⟨v,e,h⟩:=h;obtain⟨m,J,O⟩:=I.loc;obtain⟨u,r,l⟩:=O i x v Z e Y;have fin:EP X pins σ Q u s:=⟨v,H,I,r,h⟩;rcases l with⟨q,G⟩|⟨q,c,F,g⟩
 .exact wpAny_Name (wpAny_loadName_local I.ok.kind q J G fin) D
 .rcases q with q|q
  .exact wpAny_Name (wpAny_loadName_cell I.ok.kind q F g fin) D
  .exact wpAny_Name (wpAny_loadName_free I.ok.kind q F g fin C) D
def pe_int{i j pos:_}:PE X (.Constant (.int i) j pos) (tC (.int i)):=λ_ _ _ H _ I h=>wpAny_Constant_int ⟨.int i,H,I.tok _,⟨_,U⟩,h⟩
def pe_bl{b j pos:_}:PE X (.Constant (.bool b) j pos) (tC (.bl b)):=λ_ _ _ H _ I h=>Constant_bool ⟨.bl b,H,I,U,h⟩
def pe_non{j pos:_}:PE X (.Constant .none j pos) (tC .non):=λ_ _ _ H _ I h=>Constant_none ⟨.non,H,I,U,h⟩
def pe_str{x j pos:_}:PE X (.Constant (.str x) j pos) (tC (.str x)):=λ_ _ _ H _ I h=>Calls.Constant_str ⟨.str x,H,I.tok _,⟨_,U⟩,h⟩
def Gl(X:Cx)(x:Str):Prop:=X.env.kindOf x=some .globalImplicit
def yU{E:Ab}{σ:St}{H:Hp}{u:As}(I:Inv X m σ H s)(g:Gl X x)(q:X.mg x=some u)(h:Q u s)
  (C:(x == ("__debug__" : Str))=false:=by decide):A2 X (eval (.Name x p) X.env) Q E s:=
 Calls.Name_function_global I.ok.kind g (Calls.loadGlobal_global (by rw[I.ok.glob];exact I.mod.glob.keeps I.bk) q h) C
def Jr{E:Ab}{σ:St}{H:Hp}{u:As}(I:Inv X m σ H s)(g:Gl X x)(q:X.mg x=none)(F:bootBuiltins x=some u)(h:Q u s)
  (C:x ≠ "__name__" :=by decide) (D:(x == ("__debug__" : Str))=false:=by decide):A2 X (eval (.Name x p) X.env) Q E s:=by
 obtain⟨G,h1,h2⟩:=I.mod.blt;exact Calls.Name_function_global I.ok.kind g (Calls.loadGlobal_builtin (by rw[I.ok.glob];exact I.mod.glob.keeps I.bk) q (by rw[I.ok.blt];exact h1.keeps I.bk) ((h2 x C).trans F) h) D
def Zll  {v:V} {u:As}  (g:Gl X x) (q:X.mg x=some u) (r:RelV v u) (C:(x == ("__debug__" : Str))=false:=by decide):PE X (.Name x p) (tC v):=
 λ_ _ _ H _ I h=>yU I g q ⟨v,H,I,r,h⟩ C
def Zlm  {v:V} {u:As}  (g:Gl X x) (q:X.mg x=none) (F:bootBuiltins x=some u) (r:RelV v u) (C:x ≠ "__name__" :=by decide) (D:(x == ("__debug__" : Str))=false:=by decide):PE X (.Name x p) (tC v):=
 λ_ _ _ H _ I h=>Jr I g q F ⟨v,H,I,r,h⟩ C D
variable {a b:Av}{ta tb:TE}{pos:Pos}
inductive tB_i(Q:Bool->Hp->Prop)(x:V)(H1:Hp):Prop
 |mk (c:_):(x=.bl c)->(Q c H1)->tB_i Q x H1
def tB(t:TE):TT:=λσ H Q=>t σ H λx H1=>tB_i Q x H1
def pt_val{t:TE}(h:PE X e t)(G:∀g,isTrue e X.env g=(do let v <-g;standAt e.pos;holding [v] (truthy v)):=by intro _;rfl):PT X e (tB t):=by
 intro pins s σ H Q I hw;refine isTrue_plain (thn (h pins s σ H _ I hw) λv J ⟨x,H1,D,F,C⟩=>?_) (G _);obtain⟨d,rfl,q⟩:=C;cases F;exact Qc5 ⟨H1,D,q⟩
variable {tA tB':TT}{rest:Al}
def tAnd(t u:TT):TT:=λσ H Q=>t σ H λc H1=>if c=true then u σ H1 Q else Q false H1
def tOr(t u:TT):TT:=λσ H Q=>t σ H λc H1=>if c=true then Q true H1 else u σ H1 Q
def tNot(t:TT):TT:=λσ H Q=>t σ H λc H1=>Q (!c) H1
def Zln(g:PT X a tA):PW X (.BoolOp .And [a] pos) tA:=by
 intro C pins s σ H Q I h;refine isTrue_and (thn (g pins s σ H Q I h) λc q e=>?_);cases c with
 |true=>exact isTrue_and_nil e
 |false=>exact e
def pw_or1(g:PT X a tA):PW X (.BoolOp .Or [a] pos) tA:=by
 intro C pins s σ H Q I h;refine isTrue_or (thn (g pins s σ H Q I h) λc q e=>?_);cases c with
 |false=>exact isTrue_or_nil e
 |true=>exact e
def pw_and(D:PT X a tA)(F:PW X (.BoolOp .And (b::rest) pos) tB'):PW X (.BoolOp .And (a::b::rest) pos) (tAnd tA tB'):=by
 intro G pins s σ H Q I h;refine isTrue_and (thn (D pins s σ H _ I h) λc C ⟨H1,q,g⟩=>?_);cases c with
 |true=>exact F G pins C σ H1 Q q g
 |false=>exact⟨H1,q,g⟩
def pw_or(D:PT X a tA)(F:PW X (.BoolOp .Or (b::rest) pos) tB'):PW X (.BoolOp .Or (a::b::rest) pos) (tOr tA tB'):=by
 intro G pins s σ H Q I h;refine isTrue_or (thn (D pins s σ H _ I h) λc C ⟨H1,q,g⟩=>?_);cases c with
 |true=>exact⟨H1,q,g⟩
 |false=>exact F G pins C σ H1 Q q g
def pt_not(C:PT X a tA):PT X (.UnaryOp .Not a pos) (tNot tA):=by
 intro pins s σ H Q I h;exact isTrue_not (thn (C pins s σ H _ I h) λc D ⟨H1,g,q⟩=>⟨H1,g,q⟩)
inductive Zdc(tb:TE)(σ:St)(Q:VK)(x:V)(H1:Hp):Prop
 |mk (c:_):(x=.bl c)->(if c=true then tb σ H1 Q else Q (.bl false) H1)->Zdc tb σ Q x H1
def Zou(ta tb:TE):TE:=λσ H Q=>ta σ H λx H1=>Zdc tb σ Q x H1
inductive Zjr(tb:TE)(σ:St)(Q:VK)(x:V)(H1:Hp):Prop
 |mk (c:_):(x=.bl c)->(if c=true then Q (.bl true) H1 else tb σ H1 Q)->Zjr tb σ Q x H1
def tOrV(ta tb:TE):TE:=λσ H Q=>ta σ H λx H1=>Zjr tb σ Q x H1
inductive Zdd(Q:VK)(x:V)(H1:Hp):Prop
 |mk (c:_):(x=.bl c)->(Q (.bl (!c)) H1)->Zdd Q x H1
def Zov(ta:TE):TE:=λσ H Q=>ta σ H λx H1=>Zdd Q x H1
def pe_one{op:_}{t:TE}(h:PE X a t):PE X (.BoolOp op [a] pos) t:=λpins s σ H Q I hw=>BoolOp_one (h pins s σ H Q I hw)
def pe_and(D:PE X a ta)(G:PE X (.BoolOp .And (b::rest) pos) tb):PE X (.BoolOp .And (a::b::rest) pos) (Zou ta tb):=by
 intro pins s σ H Q I h;refine BoolOp_and (thn (D pins s σ H _ I h) λv C ⟨x,H1,q,F,g⟩=>?_);obtain⟨c,rfl,g⟩:=g;cases F;refine Qc5 ?_;cases c with
 |true=>exact G pins C σ H1 Q q g
 |false=>exact⟨.bl false,H1,q,U,g⟩
def pe_or(D:PE X a ta)(G:PE X (.BoolOp .Or (b::rest) pos) tb):PE X (.BoolOp .Or (a::b::rest) pos) (tOrV ta tb):=by
 intro pins s σ H Q I h;refine BoolOp_or (thn (D pins s σ H _ I h) λv C ⟨x,H1,q,F,g⟩=>?_);obtain⟨c,rfl,g⟩:=g;cases F;refine Qc5 ?_;cases c with
 |false=>exact G pins C σ H1 Q q g
 |true=>exact⟨.bl true,H1,q,U,g⟩
def pe_not(D:PE X a ta):PE X (.UnaryOp .Not a pos) (Zov ta):=by
 intro pins s σ H Q I h;refine UnaryOp_ (thn (D pins s σ H _ I h) λv F ⟨x,H1,q,C,g⟩=>?_);obtain⟨c,rfl,g⟩:=g;cases C;exact not_of (Qc5 ⟨.bl (!c),H1,q,U,g⟩)
end
def SqL(K:Af)(H:Hp)(a:Au)(xs:A0):Prop:=
 Rd H a (.lst xs) \/
  ∃(o:Obj)(g:Ah)(n:Nat),K.lookup a=some o/\o.cls=.type "list" /\ o.dict=none/\o.data=.seq g n/\g.size<=sizeLine/\Vals xs g.toList
def SqT(K:Af)(H:Hp)(a:Au)(xs:A0):Prop:=
 Rd H a (.tup xs) \/
  ∃(o:Obj)(g:Ah)(n:Nat),K.lookup a=some o/\o.cls=.type "tuple" /\ o.data=.seq g n/\g.size<=sizeLine/\Vals xs g.toList
def absV:As->Option V
 |.none=>some .non
 |.bool b=>some (.bl b)
 |.int i _=>some (.int i)
 |.str x _=>some (.str x)
 |.bytes b _=>some (.byt b)
 |.float b _=>some (.flt b)
 |.ref a=>some (.ref a)
 |.type n=>some (.ty n)
 |_=>none
def RelV.abs{x:V}{u:As}(r:RelV x u):absV u=some x:=by
 cases x with
 |non=>cases r;rfl
 |bl _=>cases r;rfl
 |int _=>obtain⟨t,rfl⟩:=r;rfl
 |str _=>obtain⟨t,rfl⟩:=r;rfl
 |byt _=>obtain⟨t,rfl⟩:=r;rfl
 |flt _=>obtain⟨t,rfl⟩:=r;rfl
 |ref _=>cases r;rfl
 |ty _=>cases r;rfl
def RelV.inj{x y:V}{u:As}(r:RelV x u)(q:RelV y u):x=y:=Option.some.inj (r.abs.symm.trans q.abs)
theorem Vals.inj:∀{xs ys:A0} {g:Ag},Vals xs g->Vals ys g->xs=ys
 |_,_,_,.nil,.nil=>rfl
 |_,_,_,.cons r t,.cons q t'=>by rw[r.inj q,Vals.inj t t']
section
variable {X:Cx}{pins:Ac}{σ:St}{H:Hp}{s:Aq}{a:Au}{xs ys:A0}
def SqL.of(h:H a=some (.lst xs)):SqL K H a xs:=.inl (.inl h)
def SqT.of(h:H a=some (.tup xs)):SqT K H a xs:=.inl (.inl h)
def Inv.list(I:Inv X pins σ H s)(h:SqL X.K H a xs):∃g:Ag,Vals xs g/\PlainL s.heap a g.toArray/\xs.length<=sizeLine:=by
 rcases h with h|⟨o,g,n,q,C,D,F,hz,r⟩
 .obtain⟨z,g,n,r,e⟩:=h.ok I.hok;exact⟨g,r,⟨_,n,e,U,U,U⟩,z⟩
 .refine⟨_,r,⟨o,n,I.kIn a o q,C,D,by simpa using F⟩,?_⟩;have e:=r.length;simp at e;lia
def Inv.tuple(I:Inv X pins σ H s)(h:SqT X.K H a xs):∃g:Ag,Vals xs g/\IsTup s.heap a g.toArray/\xs.length<=sizeLine:=by
 rcases h with h|⟨o,g,n,q,C,D,hz,r⟩
 .obtain⟨z,g,r,p⟩:=h.ok I.hok;exact⟨g,r,p.tup,z⟩
 .refine⟨_,r,⟨o,I.kIn a o q,C,n,by simpa using D⟩,?_⟩;have e:=r.length;simp at e;lia
def Inv.list_inj(I:Inv X pins σ H s)(h:SqL X.K H a xs)(h':SqL X.K H a ys):xs=ys:=by
 obtain⟨q,r,⟨o,n,e,_,_,d⟩,_⟩:=I.list h;obtain⟨g,F,⟨o',J,C,_,_,D⟩,_⟩:=I.list h';rw[e]at C;cases C;rw[d]at D;injection D with G _;have:q=g:=by grind
 subst this;exact r.inj F
def Inv.tuple_inj(I:Inv X pins σ H s)(h:SqT X.K H a xs)(h':SqT X.K H a ys):xs=ys:=by
 obtain⟨q,r,⟨o,e,_,n,d⟩,_⟩:=I.tuple h;obtain⟨g,F,⟨o',C,_,J,D⟩,_⟩:=I.tuple h';rw[e]at C;cases C;rw[d]at D;injection D with G _;have:q=g:=by grind
 subst this;exact r.inj F
end
abbrev Cx.wish(X:Cx)(E:Ab):Cx:={X with xe:=E}
abbrev Cx.nox(X:Cx):Cx:=X.wish λ_ _=>False
theorem Cx.Ok.wish{X:Cx}(ok:X.Ok)(E:Ab):(X.wish E).Ok:=
 ⟨ok.mod,ok.kind,ok.glob,ok.blt,ok.above,ok.inj,ok.has,ok.cab,ok.hd,ok.frames,ok.stk,ok.exf,ok.bs,ok.bsz,ok.noex,ok.exfs,ok.funs,ok.frf⟩
theorem Cx.Ok.unwish{X:Cx}{E:Ab}(ok:(X.wish E).Ok):X.Ok:=
 ⟨ok.mod,ok.kind,ok.glob,ok.blt,ok.above,ok.inj,ok.has,ok.cab,ok.hd,ok.frames,ok.stk,ok.exf,ok.bs,ok.bsz,ok.noex,ok.exfs,ok.funs,ok.frf⟩
section
variable {X:Cx}{pins:Ac}{σ:St}{H:Hp}{s:Aq}{E:Ab}
def Inv.wish(I:Inv X pins σ H s)(E:Ab):Inv (X.wish E) pins σ H s:=⟨I.ok.wish E,I.os,I.bare,I.base,I.loc,I.cell,I.free,I.freeC,I.pin,I.hok,I.len⟩
def Inv.unwish(I:Inv (X.wish E) pins σ H s):Inv X pins σ H s:=⟨I.ok.unwish,I.os,I.bare,I.base,I.loc,I.cell,I.free,I.freeC,I.pin,I.hok,I.len⟩
def SP.unwish{D:Ends}{f:Flow}{s':Aq}(h:SP (X.wish E) pins D f s'):SP X pins D f s':=by
 cases f with
 |next=>obtain⟨g,H',I,q⟩:=h;exact⟨g,H',I.unwish,q⟩
 |brk=>obtain⟨g,H',I,q⟩:=h;exact⟨g,H',I.unwish,q⟩
 |cont=>obtain⟨g,H',I,q⟩:=h;exact⟨g,H',I.unwish,q⟩
 |ret u=>obtain⟨v,g,H',I,r,q⟩:=h;exact⟨v,g,H',I.unwish,r,q⟩
theorem PSs.nox{st:List Aw}{t:TS}(h:PSs X.nox st t):PSs X st t:=λpins s σ H D I hw=>
 Qdb (h pins s σ H D (I.wish _) hw) (λ_ _ q=>q.unwish) λ_ _ z=>False.elim z
end
section
variable {X:Cx}{st:Aw}{rest:List Aw}{t u:TS}{e:Av}{te:TE}{pos:Pos}
def Zow:TS:=λD σ H=>D.nx σ H
def Yt(t u:TS):TS:=λD σ H=>t {D with nx:=u D} σ H
def Zlo:PSs X [] Zow:=λ_ _ σ H _ I h=>Qf8 ⟨σ,H,I,h⟩
def Zhk(h1:PS X st t)(h2:PSs X rest u):PSs X (st::rest) (Yt t u):=by
 intro pins s σ H D I h;refine wpAny_execs_cons (thn (h1 pins s σ H _ I h) λf C q=>?_);cases f with
 |next=>
  obtain⟨g,H',F,q⟩:=q;exact h2 pins C g H' D F q
 |ret v=>exact q
 |brk=>exact q
 |cont=>exact q
def Zlp(h1:PS X st t):PSs X [st] t:=by
 intro pins s σ H D I h;refine wpAny_execs_cons (thn (h1 pins s σ H D I h) λf g q=>?_);cases f with
 |next=>exact Qf8 q
 |ret v=>exact q
 |brk=>exact q
 |cont=>exact q
def Inv.quiet{σ:St}{H:Hp}(I:Inv X m σ H s):interactive X.env=false:=by simp[interactive,I.ok.kind]
def Zde(te:TE):TS:=λD σ H=>te σ H λ_ H1=>D.nx σ H1
def Zlq(C:PE X e te)(F:swapsWith e none pos.line X.env=pure false:=by rfl):PS X (.Expr e pos) (Zde te):=by
 intro pins s σ H D I h;exact wpAny_Expr_any (thn (C pins s σ H _ I h) λv G ⟨x,H1,q,J,g⟩=>⟨σ,H1,q,g⟩) I.quiet F
def tRet(te:TE):TS:=λD σ H=>te σ H D.rt
def ps_ret(F:PE X e te):PS X (.Return (some e) pos) (tRet te):=by
 intro pins s σ H D I h;exact wpAny_Return_some (thn (F pins s σ H _ I h) λv G ⟨x,H1,q,C,g⟩=>⟨x,σ,H1,q,C,g⟩)
def tIfS(c:TT)(t u:TS):TS:=λD σ H=>c σ H λb H1=>if b=true then t D σ H1 else u D σ H1
def ps_if{c:Av}{a b:List Aw}{tc:TT}(J:PT X c tc)(F:PSs X a t)(G:PSs X b u):PS X (.If c a b pos) (tIfS tc t u):=by
 intro pins s σ H D I h;refine wpAny_If (thn (J pins s σ H _ I h) λd g ⟨H1,C,q⟩=>?_);cases d with
 |true=>exact F pins g σ H1 D C q
 |false=>exact G pins g σ H1 D C q
def Zjs:TS:=λ_ _ _=>False
def Zhl:PS X st Zjs:=λ_ _ _ _ _ _ h=>h.elim
end
abbrev TG:=V->St->Hp->(Az)->Prop
abbrev TGs:=A0->St->Hp->(Az)->Prop
def PG(X:Cx)(g:Av)(t:TG):Prop:=
 ∀(pins:Ac)(s:Aq)(σ:St)(H:Hp)(v:V)(u:As)(Q:Az),Inv X pins σ H s->RelV v u->t v σ H Q->
  A2 X (assign g X.env u) (λ_ s'=>∃q H',Inv X pins q H' s'/\Q q H') X.xe s
def PGs(X:Cx)(ts:Al)(t:TGs):Prop:=
 ∀(pins:Ac)(s:Aq)(σ:St)(H:Hp)(vs:A0)(q:Ag)(Q:Az),Inv X pins σ H s->Vals vs q->t vs σ H Q->
  A2 X (assignInOrder ((assignEach ts X.env).map (·.2)) q) (λ_ s'=>∃g H',Inv X pins g H' s'/\Q g H') X.xe s
section
variable {X:Cx}{pos:Pos}
def GH(i:Nat):TG:=λv σ H Q=>Q (σ.set i (some v)) H
theorem Zdf(C:X.N.Nodup)(hi:X.N[i]?=some x)(g:Loc X.env.scope x)(D:X.fn x=true\/X.env.scope.names.lookup x=some .local:=by first|exact .inl U|exact .inr U|assumption):PG X (.Name x pos) (GH i):=by
 intro pins s σ H v u Q I r h;exact wpAny_assign_Name (W6 I C hi g r (λs' q=>⟨_,H,q,h⟩) D)
inductive Zjt(vs:A0)(σ:St)(H:Hp)(Q:Az):Prop
 |mk  : (vs=[])->(Q σ H)->Zjt vs σ H Q
def gNil  : TGs:=λvs σ H Q=>Zjt vs σ H Q
inductive Zdg(t:TG)(u:TGs)(vs:A0)(σ:St)(H:Hp)(Q:Az):Prop
 |mk (v r:_):(vs=v::r)->(t v σ H λσ' H'=>u r σ' H' Q)->Zdg t u vs σ H Q
def Zdh(t:TG)(u:TGs):TGs:=λvs σ H Q=>Zdg t u vs σ H Q
def Zlr:PGs X [] gNil:=by
 intro pins s σ H vs g Q I r h;obtain⟨e,h⟩:=h;subst e;cases r;exact assignInOrder_nil ⟨σ,H,I,h⟩
def uW{t:TG}{u:TGs}(h1:PG X e t)(h2:PGs X q u)
  (F:(assignEach (e::q) X.env).map (·.2)=assign e X.env::(assignEach q X.env).map (·.2):=by rfl):PGs X (e::q) (Zdh t u):=by
 intro pins s σ H vs Y Q I r h;obtain⟨v,O,e1,h⟩:=h;subst e1;cases r with
 |cons r D=>
  rw[F];refine Qgh (thn (h1 pins s σ H _ _ _ I r h) λ_ C ⟨g,H1,J,G⟩=>(h2 pins C g H1 _ _ Q J D G))
inductive Zju(K:Af)(n:Nat)(t:TGs)(v:V)(σ:St)(H:Hp)(Q:Az):Prop
 |mk (a xs:_):(v=.ref a)->(SqT K H a xs)->(xs.length=n)->(t xs σ H Q)->Zju K n t v σ H Q
def gTup(K:Af)(n:Nat)(t:TGs):TG:=λv σ H Q=>Zju K n t v σ H Q
def pg_tup{k:Nat}{t:TGs}(Z:X.calm=true)(h:PGs X q t)
  (F:(assignEach q X.env).length=n:=by rfl) (g:(assignEach q X.env).findIdx? (·.1)=none:=by rfl):PG X (.Tuple q k pos) (gTup X.K n t):=by
 intro pins s σ H v u Q I r hw;obtain⟨a,xs,e1,hq,G,hw⟩:=hw;subst e1;cases r;obtain⟨C,O,J,hz⟩:=I.tuple hq;refine assign_Tuple_tuple (I.ok.hd Z) J (by simp[F,<-G,O.length]) g λh' D=>?_;have Y:=I.kept (t':=s.toks) λb o e=>D b o (Qbc (Qav e)) e;exact h pins _ σ H xs _ Q Y (by grind) hw
def Zhm(te:TE)(g:TG):TS:=λD σ H=>te σ H λx H1=>g x σ H1 D.nx
def ps_asg{tg:Av}{te:TE}{g:TG}(Y:PE X e te)(F:PG X tg g)(G:swapsWithSole [tg] e pos.line X.env=pure false:=by rfl)(hw:swappedStores [tg] e X.env=pure none:=by rfl)
  (h1:(assignEach [tg] X.env).map (·.2)=[assign tg X.env]:=by rfl):PS X (.Assign [tg] e pos) (Zhm te g):=by
 intro pins s σ H D I h;refine wpAny_Assign_stores (thn (Y pins s σ H _ I h) λv C ⟨x,H1,O,Q,J⟩=>?_) G hw;rw[h1];exact thn (F pins C σ H1 x v _ O Q J) λ_ Z q=>q
theorem ps_set{te:TE}(G:X.N.Nodup)(hi:X.N[i]?=some x)(q:Loc X.env.scope x)(Q:PE X e te)(C:swapsWith e (some (.Name x p)) pos.line X.env=pure false:=by rfl)(Y:X.fn x=true\/X.env.scope.names.lookup x=some .local:=by first|exact .inl U|exact .inr U|assumption):
  PS X (.Assign [.Name x p] e pos) (Zhm te (GH i)):=by
 intro pins s σ H D I h;refine wpAny_Assign_Name (thn (Q pins s σ H _ I h) λv Z ⟨y,H1,J,O,F⟩=>(W6 J G hi q O (λs2 g=>⟨_,H1,g,F⟩) Y)) C
def tPar(i j:Nat)(ta:TA):TS:=λD σ H=>ta σ H λvs H1=>∃v w,vs=[v,w]/\D.nx ((σ.set i (some v)).set j (some w)) H1
def ps_par{j:Nat}{y:Str}{a b:Av}{ta:TA}{J pt:Pos}{Y k2 g:_}(hc:X.calm=true)(hN:X.N.Nodup)(hi:X.N[i]?=some x)(hj:X.N[j]?=some y)(Q:i≠j)
  (hx:X.env.scope.names.lookup x=some .local) (hy:X.env.scope.names.lookup y=some .local) (ha:PA X [a,b] ta)
  (hw:swappedStores [.Tuple [.Name x l,.Name y J] Y pt] (.Tuple [a,b] k2 g) X.env=pure (some [x,y]))
  (hs:swapsWithSole [.Tuple [.Name x l,.Name y J] Y pt] (.Tuple [a,b] k2 g) pos.line X.env=pure false:=by rfl):
  PS X (.Assign [.Tuple [.Name x l,.Name y J] Y pt] (.Tuple [a,b] k2 g) pos) (tPar i j ta):=by
 intro pins s σ H D I h;refine Qaa (wpAny_standAt ?_);rw[hs];refine Qaa (Qae ?_);refine Qaa (Tuple_ (thn (ha _ pins s σ H _ I h) λus F ⟨vs,H1,I1,r1,q1⟩=>?_));obtain⟨v,w,e1,q1⟩:=q1;subst e1;obtain⟨G,C,rfl,rv,Z⟩:∃G C,us=[G,C]/\RelV v G/\RelV w C:=by
  cases r1 with
  |cons p q=>
   cases q with
   |cons p' q'=>
    cases q';exact⟨_,_,U,p,p'⟩
 refine Qbm ?_ (ko);have I2:Inv X pins σ H1 {F with heap:=F.heap.push {cls:=.type "tuple",data:=.seq [G,C].toArray}}:=I1.kept (t':=F.toks) λb o e=>Qab _ e;rw[hw];refine Qaa (Qae ?_);refine Qaa (Qdu (Qaa (unpackItems_tuple (items:=#[G,C]) (I.ok.hd hc) (IsTup.new F.heap _) λh' O=>?_)));have I3:=I2.kept (h':=h') (t':=F.toks) λb o e=>O b o (Qbc (Qav e)) e;refine Qaa (Qgh (wpAny_bindName (W6 I3 hN hj (.inl hy) Z (λs2 I4=>?_) (.inr hy))));refine Qgh (wpAny_bindName (W6 I4 hN hi (.inl hx) rv (λs3 I5=>assignInOrder_nil (Qae ?_)) (.inr hx)));rw[List.set_comm _ _ (Qd7 Q)]at I5;exact⟨_,H1,I5,q1⟩
def Zdi(c:TT)(tb:TS):TS:=λD σ H=>∃W:Nat->St->Hp->Prop,(∃m,W m σ H)/\∀m σ H,W m σ H->
 c σ H λb H1=>if b=true then∃N:Az,(∀g H',N g H'->∃q,q<m/\W q g H')/\tb {D with nx:=N,ct:=N,bk:=D.nx} σ H1 else D.nx σ H1
def Zhn{c:Av}{body:List Aw}{tc:TT}{tb:TS}(hp:PassesOwn (model X.prog X.w) X.A X.env X.xe)(hc:PT X c tc)(hb:PSs X body tb):PS X (.While c body [] pos) (Zdi tc tb):=by
 intro pins s σ H D I h;obtain⟨W,⟨m0,w0⟩,C⟩:=h;refine wpAny_While (codeAny_whileLoop (λn s'=>∃F H',Inv X pins F H' s'/\W n F H') ?_ m0 ⟨σ,H,I,w0⟩);rintro n s1 ⟨q,H1,I1,w1⟩;refine Qef hp (thn (hc pins s1 q H1 _ I1 (C n q H1 w1)) λb s2 ⟨H2,I2,O⟩=>?_);cases b with
 |true=>
  obtain⟨N,hN,O⟩:=O;refine Qef hp (thn (hb pins s2 q H2 _ I2 O) λf s3 J=>?_);cases f with
  |next=>
   obtain⟨g,G,Z,n3⟩:=J;obtain⟨Y,Q,w3⟩:=hN g G n3;exact⟨Y,Q,g,G,Z,w3⟩
  |cont=>
   obtain⟨g,G,Z,n3⟩:=J;obtain⟨Y,Q,w3⟩:=hN g G n3;exact⟨Y,Q,g,G,Z,w3⟩
  |brk=>exact J
  |ret v=>exact J
 |false=>
  exact Qf8 ⟨q,H2,I2,O⟩
end
structure It where
 go:Nat->Hp->Prop
 yld:Nat->Hp->V->Hp->Prop
 stop:Nat->Hp->Prop
def xI(X:Cx)(pins:Ac)(H:Hp)(b:Au):Prop:=
 H b=none/\b≠X.env.locals/\b∉X.fs/\(b∈X.ex\/X.s₀.heap.objs.size<=b)/\(∀x c,X.env.cells.lookup x=some c->c≠b)/\∀p∈X.pn++pins,p.1≠b
def Inv.fpOk{X:Cx}{σ:St}{H H':Hp}{b:Au}(I:Inv X m σ H s)(g:s.heap.objs.size<=b)(D:H' b=none):xI X m H' b:=by
 refine⟨D,Qel (Qbl I.lt g),I.nofs g,.inr (Qaz I.sz g),λx c e z=>?_,λp C z=>(absurd (Qbl (Qav (I.pin p C).1) (by grind)) (Qb0 _))⟩
 .obtain⟨v,q⟩:=I.cell x c e;exact absurd (Qbl q.lt (by grind)) (Qb0 _)
structure Turn(P:An)(w:Ar)(K:Af)(tg:Av)(J:It)(fp:List Au)(it:Au)(tn:Nat->Heap->Prop):Prop where
 mem:it∈fp
 obj:∀i h,tn i h->∀b∈fp,∃o,h.get? b=some o/\∀v,o.data≠.cell v
 keep:∀i h h',tn i h->(∀b∈fp,∀o,h.get? b=some o->h'.get? b=some o)->tn i h'
 item:∀(X:Cx),X.prog=P->X.w=w->X.K=K->X.calm=true->∀(i:Nat)(pins:Ac)(s:Aq)(σ:St)(H:Hp)(E:Ab),Inv X pins σ H s->(∀b∈fp,xI X pins H b)->tn i s.heap->J.go i H->
  wpAny (model P w) X.A (pyNext (.ref it)) (λr s1=>∃u,r=some u /\
   wpAny (model P w) X.A (letOwnedTupleGo tg (.ref it) u) (λ_ s2=>∃x H',Inv X pins σ H' s2/\RelV x u/\J.yld i H x H'/\tn (i+1) s2.heap/\∀b∈fp,H' b=none) E s1) E s
 done:∀(X:Cx),X.prog=P->X.w=w->X.K=K->X.calm=true->∀(i:Nat)(pins:Ac)(s:Aq)(σ:St)(H:Hp)(E:Ab),Inv X pins σ H s->(∀b∈fp,xI X pins H b)->tn i s.heap->J.stop i H->
  wpAny (model P w) X.A (pyNext (.ref it)) (λr s1=>r=none/\Inv X pins σ H s1) E s
 self:∀(A:Ao)(i:Nat)(s:Aq)(Q:Ab)(E:Ab),tn i s.heap->Q (.ref it) s->wpAny (model P w) A (pyIter (.ref it)) Q E s
abbrev TI:=St->Hp->(It->Hp->Prop)->Prop
def PIE(X:Cx)(pins:Ac)(σ:St)(tg:Av)(R:It->Hp->Prop)(g:As)(C:Aq):Prop:=
 ∃(it:Au)(fp:List Au)(q:Nat->Heap->Prop)(J:It)(H':Hp),g=.ref it/\Inv X pins σ H' C/\Turn X.prog X.w X.K tg J fp it q/\q 0 C.heap/\(∀b∈fp,xI X pins H' b)/\R J H'
def PI(X:Cx)(tg iter:Av)(wi:TI):Prop:=
 ∀(pins:Ac)(s:Aq)(σ:St)(H:Hp)(R:It->Hp->Prop),Inv X pins σ H s->wi σ H R->
  A2 X (eval iter X.env) (λv g=>A2 X (pyIter v) (PIE X pins σ tg R) X.xe g) X.xe s
def kq{M:Model}{A:Ao}{E:Ab}{tg:Av}{it:Au}{u:As}{o:Obj}{n:String}{vs:Ah}{Q:Unit->Shared->Prop}(C:s.heap.get? it=some o)(D:o.cls=.type n)(q:o.data=.fields vs)
    (F:["enumerate","zip","dict_itemiterator","dict_reverseitemiterator","odict_iterator","itertools.zip_longest","itertools.pairwise"].contains n=false) (g:Q () s):wpAny M A (letOwnedTupleGo tg (.ref it) u) Q E s:=by
  cases tg<;>first
    |exact Qae g
    | (cases u <;> first
        |exact Qae g
        | (refine Qaa (wpAny_load C ?_)
           rw[D,q];show wpAny M A (if(["enumerate","zip","dict_itemiterator","dict_reverseitemiterator","odict_iterator","itertools.zip_longest","itertools.pairwise"].contains n&&vs[0]? == some _)=true then _ else _) Q E s;rw[Qa6 (by grind)];exact Qae g))
def Itl(K:Af)(a:Au):It:=
 ⟨λi H=>∃xs x,SqL K H a xs/\xs[i]?=some x,λi H x H'=>H'=H/\∀xs,SqL K H a xs->xs[i]?=some x,λi H=>∃xs,SqL K H a xs/\xs.length<=i⟩
def Itt(K:Af)(a:Au):It:=
 ⟨λi H=>∃xs x,SqT K H a xs/\xs[i]?=some x,λi H x H'=>H'=H/\∀xs,SqT K H a xs->xs[i]?=some x,λi H=>∃xs,SqT K H a xs/\xs.length<=i⟩
def Itr(lo:Int)(n:Nat):It:=⟨λi _=>i<n,λi H x H'=>H'=H/\x=.int (lo+i),λi _=>n<=i⟩
def Zdj{tg:Av}(a it:Au):Turn P w K tg (Itl K a) [it] it (λi h=>h.IsListIter it a i)where
 mem:=by simp
 obj:=λi h st b g=>by
  have e:b=it:=by simpa using g
  subst e;obtain⟨o,e,c,d⟩:=st;exact⟨o,e,λv z=>by rw[d]at z;cases z⟩
 keep:=λi h h' st k=>st.at λo e=>k it (by simp) o e
 item:=by
  intro X G hw hK hc i pins s σ H E I D st F;subst G hw hK;obtain⟨xs,x,C,hx⟩:=F;obtain⟨Z,J,p,hz⟩:=I.list C;obtain⟨u,hu,ru⟩:=J.get hx;obtain⟨f0,O,f2,f3,Y,Q⟩:=D it (by simp);refine wpAny_pyNext_list_item st p.isList (x:=u) (by simpa using hu) λh' q sb=>?_;have I1:=I.turned (t':=s.toks) (λb o g e=>(sb.2 b g).trans e) f0 O f3 Y Q;obtain⟨o,e,c,d⟩:=id q;exact⟨u,U,kq e c d (by decide) ⟨x,H,I1,ru,⟨U,λys hy=>by rw[I.list_inj hy C];exact hx⟩,q,λb g=>(D b g).1⟩⟩
 done:=by
  intro X G hw hK hc i pins s σ H E I D st F;subst G hw hK;obtain⟨xs,C,hx⟩:=F;obtain⟨Z,J,p,hz⟩:=I.list C;obtain⟨f0,O,f2,f3,Y,Q⟩:=D it (by simp);have hl:=J.length;exact wpAny_pyNext_list_end (I.ok.hd hc) st p.isList (by simp;lia) λh' eb=>⟨U,I.turned (t':=s.toks) (λb o g e=>eb b o g e) f0 O f3 Y Q⟩
 self:=λ_ _ _ _ _ st h=>wpAny_pyIter_listiter st h
def Zbo{tg:Av}(a it:Au):Turn P w K tg (Itt K a) [it] it (λi h=>h.IsTupleIter it a i)where
 mem:=by simp
 obj:=λi h st b q=>by
  have e:b=it:=by simpa using q
  subst e;obtain⟨o,e,c,d⟩:=st;exact⟨o,e,λv z=>by rw[d]at z;cases z⟩
 keep:=λi h h' st k=>st.at λo e=>k it (by simp) o e
 item:=by
  intro X J hw hK hc i pins s σ H E I F st G;subst J hw hK;obtain⟨xs,x,D,hx⟩:=G;obtain⟨g,O,p,hz⟩:=I.tuple D;obtain⟨u,hu,ru⟩:=O.get hx;obtain⟨f0,Q,f2,f3,Z,Y⟩:=F it (by simp);refine wpAny_pyNext_tuple_item st (show s.heap.IsTuple a g.toArray from p) (x:=u) (by simpa using hu) λh' C sb=>?_;have I1:=I.turned (t':=s.toks) (λb o q e=>(sb.2 b q).trans e) f0 Q f3 Z Y;obtain⟨o,e,c,d⟩:=id C;exact⟨u,U,kq (s:={s with heap:=h'}) e c d (by decide) ⟨x,H,I1,ru,⟨U,λys hy=>by rw[I.tuple_inj hy D];exact hx⟩,C,λb q=>(F b q).1⟩⟩
 done:=by
  intro X J hw hK hc i pins s σ H E I F st G;subst J hw hK;obtain⟨xs,D,hx⟩:=G;obtain⟨g,O,p,hz⟩:=I.tuple D;obtain⟨f0,Q,f2,f3,Z,Y⟩:=F it (by simp);have hl:=O.length;exact wpAny_pyNext_tuple_end (I.ok.hd hc) st (show s.heap.IsTuple a g.toArray from p) (by simp;lia) λh' eb=>⟨U,I.turned (t':=s.toks) (λb o q e=>eb b o q e) f0 Q f3 Z Y⟩
 self:=λ_ _ _ _ _ st h=>wpAny_pyIter_tupleiter st h
def Zbp{tg:Av}(it:Au)(lo:Int)(n:Nat):Turn P w K tg (Itr lo n) [it] it (λi h=>IsRangeIter h it (lo+(i:Nat)*1) ((n:Int)-(i:Nat)) 1)where
 mem:=by simp
 obj:=λi h st b g=>by
  grind
 keep:=λi h h' st k=>k it (by simp) _ st
 item:=by
  intro X F hw Z O i pins s σ H E I C st D;subst F hw Z;obtain⟨Y,G,f2,f3,Q,J⟩:=C it (by simp);have W:=Walks.range (prog:=X.prog) (w:=X.w) (I.ok.hd O) it lo 1 n;refine W.item i s _ _ D st λv h' tk hv q kk=>?_;obtain⟨t,rfl⟩:=hv;have I1:Inv X pins σ H {s with heap:=h',toks:=tk}:=I.turned (λb o g e=>kk b o (by simpa using g) e) Y G f3 Q J;refine⟨_,U,kq q U U (by decide) ⟨.int (lo+i),H,I1,⟨t,?_⟩,⟨U,U⟩,q,λb g=>(C b g).1⟩⟩;rw[Int.mul_one]
 done:=by
  intro X F hw Z O i pins s σ H E I C st D;subst F hw Z;obtain⟨Y,G,f2,f3,Q,J⟩:=C it (by simp);exact wpAny_pyNext_range_end (I.ok.hd O) st (by have:n<=i:=D;lia) λh' eb=>⟨U,I.turned (t':=s.toks) (λb o g e=>eb b o g e) Y G f3 Q J⟩
 self:=λ_ _ _ _ _ st h=>wpAny_pyIter_rangeiter st h
section
variable {X:Cx}{tg:Av}
inductive Zdk(K:Af)(R:It->Hp->Prop)(x:V)(H1:Hp):Prop
 |mk (a:_):(x=.ref a)->((∃xs,SqL K H1 a xs))->(R (Itl K a) H1)->Zdk K R x H1
def Zdl(K:Af)(tl:TE):TI:=λσ H R=>tl σ H λx H1=>Zdk K R x H1
inductive Zjv(K:Af)(R:It->Hp->Prop)(x:V)(H1:Hp):Prop
 |mk (a:_):(x=.ref a)->((∃xs,SqT K H1 a xs))->(R (Itt K a) H1)->Zjv K R x H1
def iTup(K:Af)(tl:TE):TI:=λσ H R=>tl σ H λx H1=>Zjv K R x H1
def Zls{l:Av}{tl:TE}(D:PE X l tl):PI X tg l (Zdl X.K tl):=by
 intro pins s σ H R I h;refine thn (D pins s σ H _ I h) λv Q ⟨x,H1,g,G,F⟩=>?_;obtain⟨a,e,⟨xs,O⟩,q⟩:=F;subst e;cases G;obtain⟨C,Y,p,hz⟩:=g.list O;refine Qe2 p.isList ?_;refine⟨_,_,_,_,H1,U,g.kept λb o e=>Qab _ e,Zdj a _,⟨_,Qao _ U,U,U⟩,λb J=>?_,q⟩;have e:=by simpa using J
 subst e;exact g.fpOk (Qai _) (g.hok.fresh (Qai _))
def pi_tup{l:Av}{tl:TE}(D:PE X l tl):PI X tg l (iTup X.K tl):=by
 intro pins s σ H R I h;refine thn (D pins s σ H _ I h) λv Q ⟨x,H1,g,G,F⟩=>?_;obtain⟨a,e,⟨xs,O⟩,q⟩:=F;subst e;cases G;obtain⟨C,Y,p,hz⟩:=g.tuple O;refine wpAny_pyIter_tuple (p) ?_;refine⟨_,_,_,_,H1,U,g.kept λb o e=>Qab _ e,Zbo a _,⟨_,Qao _ U,U,U⟩,λb J=>?_,q⟩;have e:=by simpa using J
 subst e;exact g.fpOk (Qai _) (g.hok.fresh (Qai _))
def uX{σ:St}{H:Hp}{R:It->Hp->Prop}{E:Ab}{lo:Int}{t u v:Tok}{tk:Nat}(I:Inv X m σ H s)(h1:-(2^62)<=lo)(h2:lo<2^62)(D:-(2^62)<=z)(C:z<2^62)
  (q:R (Itr lo (z-lo).toNat) H):A2 X (pyIter (.ref s.heap.objs.size)) (PIE X m σ tg R) E {s with heap:=s.heap.push {cls:=.type "range",data:=.fields #[.int lo t,.int z u,.int 1 v]},toks:=tk}:=by
 refine wpAny_pyIter_range (IsRange.new ..) (small_one h1 h2 D C) ?_;have g:Inv X m σ H {s with heap:=s.heap.push {cls:=.type "range",data:=.fields #[.int lo t,.int z u,.int 1 v]},toks:=tk}:=I.kept λb o e=>Qab _ e;refine⟨_,_,_,_,H,U,
  g.kept λb o e=>Qab _ e,Zbp _ lo _,?_,λb F=>?_,q⟩
 .have e1:lo+((0:Nat))*1=lo:=by simp
  have e2:(((z-lo).toNat:Nat))-((0:Nat))=Builtin.Range.rangeSize lo z 1:=by rw[rangeSize_one];split<;>lia
  rw[e1,e2];exact Qao _ U
 .have e:b=(s.heap.push {cls:=.type "range",data:=.fields #[.int lo t,.int z u,.int 1 v]}).objs.size:=by grind
  subst e;exact g.fpOk (Qai _) (g.hok.fresh (Qai _))
inductive Zdm(R:It->Hp->Prop)(vs:A0)(H1:Hp):Prop
 |mk (j:Int):(vs=[.int j])->(-(2^62)<=j)->(j<2^62)->(R (Itr 0 j.toNat) H1)->Zdm R vs H1
def Zlt(ta:TA):TI:=λσ H R=>ta σ H λvs H1=>Zdm R vs H1
inductive Zdn(R:It->Hp->Prop)(vs:A0)(H1:Hp):Prop
 |mk (i j:Int):(vs=[.int i,.int j])->((-(2^62)<=i/\i<2^62/\-(2^62)<=j/\j<2^62))->(R (Itr i (j-i).toNat) H1)->Zdn R vs H1
def Zox(ta:TA):TI:=λσ H R=>ta σ H λvs H1=>Zdn R vs H1
def Zdo {a:Av} {ta:TA}  (C:Gl X "range") (D:X.mg "range" = none) (F:PA X [a] ta) (J:starEach [a] X.env=[(false,eval a X.env)]:=by rfl):PI X tg (.Call (.Name "range" p) [a] [] l) (Zlt ta):=by
 intro pins s σ H R I h;refine Call_ (Jr I C D boot_range (Qb5 (thn (F l pins s σ H _ I h) λus Z ⟨vs,H1,O,Q,g⟩=>?_) J U));obtain⟨j,e,g,Y,q⟩:=g;subst e;cases Q with
 |cons r G=>
  cases G;obtain⟨t,rfl⟩:=r;exact call_range_1 (uX O (by lia) (by lia) g Y (by grind))
def Zdp {a b:Av} {ta:TA}  (F:Gl X "range") (G:X.mg "range" = none) (J:PA X [a,b] ta) (hs:starEach [a,b] X.env=[(false,eval a X.env),(false,eval b X.env)]:=by rfl) (D:starEach [b] X.env=[(false,eval b X.env)]:=by rfl):
  PI X tg (.Call (.Name "range" p) [a,b] [] l) (Zox ta):=by
 intro pins s σ H R I h;refine Call_ (Jr I F G boot_range (Qb5 (thn (J l pins s σ H _ I h) λus s1 ⟨vs,H1,Q,Y,C⟩=>?_) (by grind) (by rw[D];rfl)));obtain⟨i,j,e,⟨C,q2,q3,Z⟩,q⟩:=C;subst e;cases Y with
 |cons r g=>
  cases g with
  |cons O g=>
   cases g;obtain⟨t,rfl⟩:=r;obtain⟨t',rfl⟩:=O;exact call_range_2 (uX Q C q2 q3 Z q)
abbrev Zho(J:It)(g:TG)(tb:TS)(D:Ends)(σ:St)(H:Hp):Prop:=∃W:Nat->Nat->St->Hp->Prop,(∃m,W 0 m σ H)/\∀i m σ H,W i m σ H->
 (J.stop i H/\D.nx σ H)\/(J.go i H/\∃N:Az,(∀q H',N q H'->∃F,F<m/\W (i+1) F q H')/\∀x H',J.yld i H x H'->g x σ H' λC H2=>tb {D with nx:=N,ct:=N,bk:=D.nx} C H2)
def tFor(wi:TI)(g:TG)(tb:TS):TS:=λD σ H=>wi σ H λJ H1=>Zho J g tb D σ H1
def zr{J:It}{g:TG}{tb:TS}{D:Ends}{σ:St}{H:Hp}(n:Nat)(C:Nat->St->Hp->Prop)(Q:C 0 σ H)
  (G:∀i σ H,i<n->C i σ H->J.go i H/\∀x H',J.yld i H x H'->g x σ H' λF H2=>tb {D with nx:=C (i+1),ct:=C (i+1),bk:=D.nx} F H2)
  (Y:∀σ H,C n σ H->J.stop n H/\D.nx σ H):Zho J g tb D σ H:=by
 refine⟨λi m σ H=>m=n-i/\i<=n/\C i σ H,⟨n,by simp,Qbj _,Q⟩,?_⟩;rintro i m σ H ⟨rfl,hi,p⟩
 by_cases q:i<n
 .exact .inr ⟨(G i σ H q p).1,_,λO H' I=>⟨_,by lia,U,q,I⟩,(G i σ H q p).2⟩
 .grind
def kr(fp:List Au)(h:Heap):Ac:=fp.filterMap λb=>(h.get? b).map λo=>(b,o)
def JP{fp:List Au}{b:Au}{o:Obj}(g:b∈fp)(e:h.get? b=some o):(b,o)∈kr fp h:=Qgi.mpr ⟨b,g,by rw[e];rfl⟩
def Zdq{fp:List Au}{p:Au×Obj}(C:p∈kr fp h):p.1∈fp/\h.get? p.1=some p.2:=by
 obtain⟨b,g,e⟩:=Qgi.mp C;cases q:h.get? b with
 |none=>rw[q]at e;cases e
 |some o=>
  rw[q]at e;have D:=Option.some.inj e;subst D;exact⟨g,q⟩
theorem Inv.pinned{σ:St}{H:Hp}{fp:List Au}(I:Inv X m σ H s)(O:∀b∈fp,xI X m H b)(D:∀b∈fp,∃o,s.heap.get? b=some o/\∀v,o.data≠.cell v):Inv X (m++kr fp s.heap) σ H s:=
 I.pins_of λp J=>(Qa7.mp J).elim (λz=>I.pin p (Qa1 _ z)) λz=>by
  obtain⟨g,e⟩:=Zdq z;obtain⟨F,G,C,_⟩:=O p.1 g;obtain⟨o,q,d⟩:=D p.1 g;rw[e]at q;cases q;exact⟨e,F,G,C,d⟩
def Inv.unpinned{pl:Ac}{σ:St}{H:Hp}(I:Inv X (m++pl) σ H s):Inv X m σ H s:=I.pins_of λp g=>I.pin p (Qa1 _ (Qbs _ g))
def ps_for{iter:Av}{body:List Aw}{wi:TI}{g:TG}{tb:TS}(hp:PassesOwn (model X.prog X.w) X.A X.env X.xe)(hc:X.calm=true)(hi:PI X tg iter wi)(hg:PG X tg g)(F:PSs X body tb)
  (hs:∀x,foldedSetIterable iter X.env x=pure x:=by intro _;rfl):PS X (.For tg iter body [] p) (tFor wi g tb):=by
 intro pins s σ H D I h;refine wpAny_For (thn (hi pins s σ H _ I h) λv s1 h1=>thn h1 λitv s2 h2=>?_) hs;obtain⟨it,fp,tn,J,H2,e,I2,T,st2,f2,W,⟨m0,w0⟩,turn⟩:=h2;subst e;have C:∀{H':Hp},(∀b∈fp,H' b=none)->∀b∈fp,xI X pins H' b:=λhn b F=>⟨hn b F,(f2 b F).2⟩;refine codeAny_forLoop_any (λn s'=>∃i G H',Inv X pins G H' s'/\tn i s'.heap/\(∀b∈fp,H' b=none)/\W i n G H') ?_ m0 ⟨0,σ,H2,I2,st2,λb F=>(f2 b F).1,w0⟩;rintro n s3 ⟨i,Y,H3,I3,st3,fr3,w3⟩;rcases turn i n Y H3 w3 with⟨stop,qn⟩|⟨go,N,hN,step⟩
 .refine Qef hp (thn (T.done X U U U hc i pins s3 Y H3 X.xe I3 (C fr3) st3 stop) λr s4 ⟨hr,I4⟩=>?_);subst hr;exact Qf8 ⟨Y,H3,I4,qn⟩
 .refine Qef hp (thn (T.item X U U U hc i pins s3 Y H3 X.xe I3 (C fr3) st3 go) λr s4 ⟨u,hr,h4⟩=>?_);subst hr;refine Qef hp (thn h4 λ_ s5 ⟨x,H5,I5,r5,y5,st5,fr5⟩=>?_);have I5':=I5.pinned (C fr5) (T.obj _ _ st5);refine Qef hp (thn (hg _ s5 Y H5 x u _ I5' r5 (step x H5 y5)) λ_ s6 ⟨σ6,H6,I6,q6⟩=>?_);refine Qef hp (thn (F _ s6 σ6 H6 _ I6 q6) λf s7 Z=>?_);have again:∀{q:St} {O:Hp},Inv X (pins++kr fp s5.heap) q O s7->N q O->∃m,m<n/\∃i G H',Inv X pins G H' s7/\tn i s7.heap/\(∀b∈fp,H' b=none)/\W i m G H':=λ{q O} Q n7=>by
   obtain⟨m',hm,w7⟩:=hN q O n7;refine⟨m',hm,i+1,q,O,Q.unpinned,T.keep _ _ _ st5 λb F o e=>(Q.pin (b,o) (Qa1 _ (Qa1 _ (JP F e)))).1,λb F=>?_,w7⟩;obtain⟨o,e,d⟩:=T.obj _ _ st5 b F;exact(Q.pin (b,o) (Qa1 _ (Qa1 _ (JP F e)))).2.1
  cases f with
  |next=>obtain⟨q,O,Q,n7⟩:=Z;exact again Q n7
  |cont=>obtain⟨q,O,Q,n7⟩:=Z;exact again Q n7
  |brk=>obtain⟨q,O,Q,Z⟩:=Z;exact⟨q,O,Q.unpinned,Z⟩
  |ret v=>obtain⟨x7,q,O,Q,r7,Z⟩:=Z;exact⟨x7,q,O,Q.unpinned,r7,Z⟩
end
theorem JQ{xs:A0}{g:TG}{tb:TS}{D:Ends}{σ:St}{H:Hp}(q:Nat->St->Hp->Prop)(J:q 0 σ H)(C:∀i σ H,i<=xs.length->q i σ H->SqL K H a xs)
  (G:∀i x σ H,xs[i]?=some x->q i σ H->g x σ H λF H2=>tb {D with nx:=q (i+1),ct:=q (i+1),bk:=D.nx} F H2) (I:∀σ H,q xs.length σ H->D.nx σ H):
  Zho (Itl K a) g tb D σ H:=
 zr _ q J (λi σ H hi p=>⟨⟨xs,xs[i],C i σ H (Qax hi) p,Qad hi⟩,λx H' ⟨e,y⟩=>e ▸ G i x σ H (y xs (C i σ H (Qax hi) p)) p⟩) λσ H p=>⟨⟨xs,C _ σ H (Qai _) p,Qai _⟩,I σ H p⟩
theorem W9{xs:A0}{g:TG}{tb:TS}{D:Ends}{σ:St}{H:Hp}(q:Nat->St->Hp->Prop)(J:q 0 σ H)(C:∀i σ H,i<=xs.length->q i σ H->SqT K H a xs)
  (G:∀i x σ H,xs[i]?=some x->q i σ H->g x σ H λF H2=>tb {D with nx:=q (i+1),ct:=q (i+1),bk:=D.nx} F H2) (I:∀σ H,q xs.length σ H->D.nx σ H):
  Zho (Itt K a) g tb D σ H:=
 zr _ q J (λi σ H hi p=>⟨⟨xs,xs[i],C i σ H (Qax hi) p,Qad hi⟩,λx H' ⟨e,y⟩=>e ▸ G i x σ H (y xs (C i σ H (Qax hi) p)) p⟩) λσ H p=>⟨⟨xs,C _ σ H (Qai _) p,Qai _⟩,I σ H p⟩
theorem XE{lo:Int}{g:TG}{tb:TS}{D:Ends}{σ:St}{H:Hp}(q:Nat->St->Hp->Prop)(G:q 0 σ H)
  (I:∀i σ H,i<n->q i σ H->g (.int (lo+i)) σ H λC H2=>tb {D with nx:=q (i+1),ct:=q (i+1),bk:=D.nx} C H2) (F:∀σ H,q n σ H->D.nx σ H):
  Zho (Itr lo n) g tb D σ H:=
 zr n q G (λi σ H hi p=>⟨hi,λx H' ⟨e,y⟩=>by grind⟩) λσ H p=>⟨Qai _,F σ H p⟩
abbrev R2:=V->V->Hp->VK->Prop
def OpR(X:Cx)(f:As->Value->Sem As)(r:R2):Prop:=
 ∀(pins:Ac)(s:Aq)(σ:St)(H:Hp)(x y:V)(v u:As)(Q:VK),Inv X pins σ H s->RelV x v->RelV y u->r x y H Q->
  A2 X (f v u) (EP X pins σ Q) X.xe s
def UnR(X:Cx)(f:As->Sem As)(r:V->Hp->VK->Prop):Prop:=
 ∀(pins:Ac)(s:Aq)(σ:St)(H:Hp)(x:V)(v:As)(Q:VK),Inv X pins σ H s->RelV x v->r x H Q->
  A2 X (f v) (EP X pins σ Q) X.xe s
def Xr(X:Cx)(f:As)(r:A0->Hp->VK->Prop):Prop:=
 ∀(pins:Ac)(s:Aq)(σ:St)(H:Hp)(xs:A0)(g:Ag)(Q:VK),Inv X pins σ H s->Vals xs g->r xs H Q->
  A2 X (call f g) (EP X pins σ Q) X.xe s
def tOp(r:R2)(ta tb:TE):TE:=λσ H Q=>ta σ H λx H1=>tb σ H1 λy H2=>r x y H2 Q
def tUn(r:V->Hp->VK->Prop)(ta:TE):TE:=λσ H Q=>ta σ H λx H1=>r x H1 Q
inductive rI_i(C:Int->Int->Prop)(g:Int->Int->V)(x:V)(y:V)(H:Hp)(Q:VK):Prop
 |mk (i j:_):(x=.int i)->(y=.int j)->(C i j)->(Q (g i j) H)->rI_i C g x y H Q
def rI(C:Int->Int->Prop)(g:Int->Int->V):R2:=λx y H Q=>rI_i C g x y H Q
inductive Zoy(g:Int->Int->V)(x:V)(y:V)(H:Hp)(Q:VK):Prop
 |mk (i j:_):(x=.int i)->(y=.int j)->(Q (g i j) H)->Zoy g x y H Q
def rI0(g:Int->Int->V):R2:=λx y H Q=>Zoy g x y H Q
inductive rU_i(g:Int->V)(x:V)(H:Hp)(Q:VK):Prop
 |mk (i:_):(x=.int i)->(Q (g i) H)->rU_i g x H Q
def rU(g:Int->V):V->Hp->VK->Prop:=λx H Q=>rU_i g x H Q
section
variable {X:Cx}{a b c:Av}{ta tb tc:TE}{pos:Pos}
def binT(F:PE X a ta)(Z:PE X b tb){σ:St}{H:Hp}{R:V->V->Hp->Prop}(I:Inv X m σ H s)
  (h:ta σ H λx H1=>tb σ H1 λy H2=>R x y H2)  {f:As->Value->Sem As}
  (hf:∀v u q x y H2,Inv X m σ H2 q->RelV x v->RelV y u->R x y H2->A2 X (f v u) Q X.xe q):
  A2 X (eval a X.env) (λv g=>A2 X (eval b X.env) (λu s₂=>A2 X (f v u) Q X.xe s₂) X.xe g) X.xe s:=by
 refine thn (F m s σ H _ I h) λv C ⟨x,H1,J,O,G⟩=>?_;refine thn (Z m C σ H1 _ J G) λu q ⟨y,H2,D,Y,q2⟩=>(hf v u q x y H2 D O Y q2)
def pe_op{op:Operator}{r:R2}(F:OpR X (binaryOp op) r)(C:PE X a ta)(O:PE X b tb):PE X (.BinOp a op b pos) (tOp r ta tb):=by
 intro pins s σ H Q I h;exact wpAny_BinOp (binT C O I h λv u D x y H2 g J G q=>F pins D σ H2 x y v u Q g J G q)
def pe_un{op:UnaryOp}{r:V->Hp->VK->Prop}(G:UnR X (unaryOp op) r)(F:PE X a ta):PE X (.UnaryOp op a pos) (tUn r ta):=by
 intro pins s σ H Q I h;exact UnaryOp_ (thn (F pins s σ H _ I h) λv q ⟨x,H1,C,D,g⟩=>G pins q σ H1 x v Q C D g)
def opI{f:As->Value->Sem As}{C:Int->Int->Prop}{g:Int->Int->Int}
  (rule:∀(i j:Int)(t u:Tok)(s:Aq)(Q:Ab)(E:Ab),C i j->Q (.int (g i j) s.toks) {s with toks:=s.toks+1}->A2 X (f (.int i t) (.int j u)) Q E s):
  OpR X f (rI C λi j=>.int (g i j)):=by
 intro pins s σ H x y v u Q I F D h;obtain⟨i,j,rfl,rfl,G,q⟩:=h;obtain⟨t,rfl⟩:=F;obtain⟨t',rfl⟩:=D;exact rule i j t t' s _ _ G ⟨.int _,H,I.tok _,⟨_,U⟩,q⟩
def Zoz{f:As->Value->Sem As}{g:Int->Int->Int}
  (rule:∀(i j:Int)(t u:Tok)(s:Aq)(Q:Ab)(E:Ab),Q (.int (g i j) s.toks) {s with toks:=s.toks+1}->A2 X (f (.int i t) (.int j u)) Q E s):
  OpR X f (rI0 λi j=>.int (g i j)):=by
 intro pins s σ H x y v u Q I D C h;obtain⟨i,j,rfl,rfl,q⟩:=h;obtain⟨t,rfl⟩:=D;obtain⟨t',rfl⟩:=C;exact rule i j t t' s _ _ ⟨.int _,H,I.tok _,⟨_,U⟩,q⟩
def Zp7{f:As->Value->Sem As}{g:Int->Int->Bool}
  (rule:∀(i j:Int)(t u:Tok)(s:Aq)(Q:Ab)(E:Ab),Q (.bool (g i j)) s->A2 X (f (.int i t) (.int j u)) Q E s):
  OpR X f (rI0 λi j=>.bl (g i j)):=by
 intro pins s σ H x y v u Q I D C h;obtain⟨i,j,rfl,rfl,q⟩:=h;obtain⟨t,rfl⟩:=D;obtain⟨t',rfl⟩:=C;exact rule i j t t' s _ _ ⟨.bl _,H,I,U,q⟩
def CPow(i j:Int):Prop:=0<=j/\j<=1000000/\i.natAbs<2^64
def CMul(i j:Int):Prop:=(-(2^64)<i/\i<2^64)\/(-(2^64)<j/\j<2^64)
def CMul.ok{i j:Int}(h:CMul i j):IntMulOk i j:=by
 rcases h with⟨h1,h2⟩|⟨h1,h2⟩
 .exact .of_left (intBits_le_64 h1 h2)
 .exact .of_right (intBits_le_64 h1 h2)
def two_pow_nn(k:Nat):(0:Int)<=2^k:=by grind
def YD:OpR X (binaryOp .Add) (rI0 λi j=>.int (i+j)):=Zoz λ_ _ _ _ _ _ _ q=>add_int q
def WZ:OpR X (binaryOp .Sub) (rI0 λi j=>.int (i-j)):=Zoz λ_ _ _ _ _ _ _ q=>sub_int q
def ZI:OpR X (binaryOp .Mod) (rI (λ_ j=>0<j) λi j=>.int (i%j)):=opI λi j _ _ _ _ _ g q=>mod_int' (by lia) (by grind)
def Zjw:OpR X (binaryOp .Pow) (rI CPow λi j=>.int (i^j.toNat)):=opI λ_ _ _ _ _ _ _ g q=>pow_int_small g.1 g.2.1 g.2.2 q
def uY:OpR X (binaryOp .LShift) (rI CPow λi j=>.int (i*2^j.toNat)):=opI λ_ _ _ _ _ _ _ g q=>lshift_int_small g.1 g.2.1 g.2.2 q
theorem yl:OpR X (binaryOp .RShift) (rI (λ_ j=>0<=j) λi j=>.int (i/2^j.toNat)):=opI λi j _ _ _ _ _ g q=>
 rshift_int g (by grind)
def Xa:OpR X (binaryOp .BitAnd) (rI0 λi j=>.int (Builtin.bitAnd i j)):=Zoz λ_ _ _ _ _ _ _ q=>and_int q
def jH:OpR X (binaryOp .BitOr) (rI0 λi j=>.int (Builtin.bitOr i j)):=Zoz λ_ _ _ _ _ _ _ q=>or_int q
def zt:OpR X (binaryOp .BitXor) (rI0 λi j=>.int (Builtin.bitXor i j)):=Zoz λ_ _ _ _ _ _ _ q=>xor_int q
def unI{f:As->Sem As}{g:Int->Int}
  (rule:∀(i:Int)(t:Tok)(s:Aq)(Q:Ab)(E:Ab),Q (.int (g i) s.toks) {s with toks:=s.toks+1}->A2 X (f (.int i t)) Q E s):
  UnR X f (rU λi=>.int (g i)):=by
 intro pins s σ H x v Q I C h;obtain⟨i,rfl,q⟩:=h;obtain⟨t,rfl⟩:=C;exact rule i t s _ _ ⟨.int (g i),H,I.tok _,⟨_,U⟩,q⟩
def X3:UnR X (unaryOp .USub) (rU λi=>.int (-i)):=unI λ_ _ _ _ _ q=>neg_int q
def zu:UnR X (unaryOp .Invert) (rU λi=>.int (Builtin.bitNot i)):=unI λ_ _ _ _ _ q=>invert_int q
end
def scal:V->V->Bool
 |.non,.non=>true|.non,.int _=>true|.int _,.non=>true|.non,.bl _=>true|.bl _,.non=>true|.non,.str _=>true|.str _,.non=>true
 |.int _,.int _=>true|.bl _,.bl _=>true|.str _,.str _=>true|.byt _,.byt _=>true
 |.int _,.str _=>true|.str _,.int _=>true|.bl _,.str _=>true|.str _,.bl _=>true
 |_,_=>false
inductive Zo0(x:V)(y:V)(H:Hp)(Q:VK):Prop
 |mk  : (scal x y=true)->(Q (.bl (decide (x=y))) H)->Zo0 x y H Q
def rEq  : R2:=λx y H Q=>Zo0 x y H Q
inductive Zo1(x:V)(y:V)(H:Hp)(Q:VK):Prop
 |mk  : (scal x y=true)->(Q (.bl (!decide (x=y))) H)->Zo1 x y H Q
def rNe  : R2:=λx y H Q=>Zo1 x y H Q
def Zdr{i j:Int}:decide (V.int i=V.int j)=(i == j):=by grind
def Zjx{i:Bool}:decide (V.bl i=V.bl j)=(i == j):=by grind
def Zds{i j:Str}:decide (V.str i=V.str j)=(i == j):=by grind
def Zdt{i j:Array UInt8}:decide (V.byt i=V.byt j)=(i.toList == j.toList):=by
 rw[Qd2];cases i;cases j;simp
section
variable {X:Cx}{a b c:Av}{ta tb tc:TE}{pos:Pos}
def ZZ{σ:St}{H:Hp}{Q:VK}{k:Bool}(I:Inv X m σ H s)(q:Q (.bl k) H)(e:k=j):EP X m σ Q (.bool j) s:=by
 subst e;exact⟨.bl k,H,I,U,q⟩
def Yk:OpR X (compareOp .Eq) rEq:=by
 intro pins s σ H x y v u Q I D g h;obtain⟨C,q⟩:=h;cases x with
 |non=>
  cases D;cases y with
  |non=>cases g;exact PySem.EqNone.eq_none_none (ZZ I q (by simp))
  |bl j=>cases g;exact PySem.EqNone.eq_none_bool (ZZ I q (by simp))
  |int j=>obtain⟨t',rfl⟩:=g;exact PySem.EqNone.eq_none_int (ZZ I q (by simp))
  |str j=>obtain⟨t',rfl⟩:=g;exact PySem.EqNone.eq_none_str (ZZ I q (by simp))
  |_=>exact absurd (show false=true from C) Qbf
 |bl i=>
  cases D;cases y with
  |non=>cases g;exact PySem.EqNone.eq_bool_none (ZZ I q (by simp))
  |bl j=>cases g;exact eq_bool (ZZ I q Zjx)
  |str j=>obtain⟨t',rfl⟩:=g;exact PySem.EqMixed.eq_bool_str (ZZ I q (by simp))
  |_=>exact absurd (show false=true from C) Qbf
 |int i=>
  obtain⟨t,rfl⟩:=D;cases y with
  |non=>cases g;exact PySem.EqNone.eq_int_none (ZZ I q (by simp))
  |int j=>obtain⟨t',rfl⟩:=g;exact eq_int (ZZ I q Zdr)
  |str j=>obtain⟨t',rfl⟩:=g;exact PySem.EqMixed.eq_int_str (ZZ I q (by simp))
  |_=>exact absurd (show false=true from C) Qbf
 |str i=>
  obtain⟨t,rfl⟩:=D;cases y with
  |non=>cases g;exact PySem.EqNone.eq_str_none (ZZ I q (by simp))
  |bl j=>cases g;exact PySem.EqMixed.eq_str_bool (ZZ I q (by simp))
  |int j=>obtain⟨t',rfl⟩:=g;exact PySem.EqMixed.eq_str_int (ZZ I q (by simp))
  |str j=>obtain⟨t',rfl⟩:=g;exact eq_str (ZZ I q Zds)
  |_=>exact absurd (show false=true from C) Qbf
 |byt i=>
  obtain⟨t,rfl⟩:=D;cases y with
  |byt j=>obtain⟨t',rfl⟩:=g;exact PySem.W.eq_bytes (ZZ I q Zdt)
  |_=>exact absurd (show false=true from C) Qbf
 |_=>cases y<;>exact absurd (show false=true from C) Qbf
def ku:OpR X (compareOp .NotEq) rNe:=by
 intro pins s σ H x y v u Q I D g h;obtain⟨C,q⟩:=h;cases x with
 |non=>
  cases D;cases y with
  |non=>cases g;exact PySem.EqNone.ne_none_none (ZZ I q (by simp))
  |bl j=>cases g;exact PySem.EqNone.ne_none_bool (ZZ I q (by simp))
  |int j=>obtain⟨t',rfl⟩:=g;exact PySem.EqNone.ne_none_int (ZZ I q (by simp))
  |str j=>obtain⟨t',rfl⟩:=g;exact PySem.EqNone.ne_none_str (ZZ I q (by simp))
  |_=>exact absurd (show false=true from C) Qbf
 |bl i=>
  cases D;cases y with
  |non=>cases g;exact PySem.EqNone.ne_bool_none (ZZ I q (by simp))
  |bl j=>cases g;exact ne_bool (ZZ I q (congrArg not Zjx))
  |str j=>obtain⟨t',rfl⟩:=g;exact PySem.EqMixed.ne_bool_str (ZZ I q (by simp))
  |_=>exact absurd (show false=true from C) Qbf
 |int i=>
  obtain⟨t,rfl⟩:=D;cases y with
  |non=>cases g;exact PySem.EqNone.ne_int_none (ZZ I q (by simp))
  |int j=>obtain⟨t',rfl⟩:=g;exact ne_int (ZZ I q (congrArg not Zdr))
  |str j=>obtain⟨t',rfl⟩:=g;exact PySem.EqMixed.ne_int_str (ZZ I q (by simp))
  |_=>exact absurd (show false=true from C) Qbf
 |str i=>
  obtain⟨t,rfl⟩:=D;cases y with
  |non=>cases g;exact PySem.EqNone.ne_str_none (ZZ I q (by simp))
  |bl j=>cases g;exact PySem.EqMixed.ne_str_bool (ZZ I q (by simp))
  |int j=>obtain⟨t',rfl⟩:=g;exact PySem.EqMixed.ne_str_int (ZZ I q (by simp))
  |str j=>obtain⟨t',rfl⟩:=g;exact ne_str (ZZ I q (congrArg not Zds))
  |_=>exact absurd (show false=true from C) Qbf
 |byt i=>
  obtain⟨t,rfl⟩:=D;cases y with
  |byt j=>obtain⟨t',rfl⟩:=g;exact PySem.W.ne_bytes (ZZ I q (congrArg not Zdt))
  |_=>exact absurd (show false=true from C) Qbf
 |_=>cases y<;>exact absurd (show false=true from C) Qbf
def kx:OpR X (compareOp .Lt) (rI0 λi j=>.bl (decide (i<j))):=Zp7 λ_ _ _ _ _ _ _ q=>lt_int q
def op_le:OpR X (compareOp .LtE) (rI0 λi j=>.bl (decide (i<=j))):=Zp7 λ_ _ _ _ _ _ _ q=>le_int q
def Zlu:OpR X (compareOp .Gt) (rI0 λi j=>.bl (decide (j<i))):=Zp7 λ_ _ _ _ _ _ _ q=>gt_int q
def Zo2:OpR X (compareOp .GtE) (rI0 λi j=>.bl (decide (j<=i))):=Zp7 λ_ _ _ _ _ _ _ q=>ge_int q
def Zdu:OpR X (compareOp .In) (λx y H Q=>∃i j,x=.str i/\y=.str j/\Q (.bl (!(Builtin.Str.occurrences j i 0 j.length 1).isEmpty)) H):=by
 intro pins s σ H x y v u Q I C g h;obtain⟨i,j,rfl,rfl,q⟩:=h;obtain⟨t,rfl⟩:=C;obtain⟨t',rfl⟩:=g;exact in_str (ZZ I q U)
def Zjy:OpR X (compareOp .Is) (λx y H Q=>y=.non/\Q (.bl (decide (x=.non))) H):=by
 intro pins s σ H x y v u Q I g C h;obtain⟨rfl,q⟩:=h;cases C;refine is_none_gen (ZZ I q ?_);cases x<;>first
  |(cases g;rfl)
  |(obtain⟨t,rfl⟩:=g;rfl)
def Zlv:OpR X (compareOp .IsNot) (λx y H Q=>y=.non/\Q (.bl (!decide (x=.non))) H):=by
 intro pins s σ H x y v u Q I g C h;obtain⟨rfl,q⟩:=h;cases C;refine isnot_none_gen (ZZ I q ?_);cases x<;>first
  |(cases g;rfl)
  |(obtain⟨t,rfl⟩:=g;rfl)
def OpR.or{f:As->Value->Sem As}{r g:R2}(h:OpR X f r)(h':OpR X f g):OpR X f (λx y H Q=>r x y H Q\/g x y H Q):=by
 intro pins s σ H x y v u Q I D C q;rcases q with q|q
 .exact h pins s σ H x y v u Q I D C q
 .exact h' pins s σ H x y v u Q I D C q
def Z7(b:Av){op:CmpOp}(h:op≠.In:=by decide)(h2:op≠.NotIn:=by decide):behindInMarks op b=false:=by
 have e1:(op == CmpOp.In)=false:=by grind
 have e2:(op == CmpOp.NotIn)=false:=by grind
 cases b<;>simp[behindInMarks,e1,e2]
def Zlw{op:CmpOp}{r:R2}(G:OpR X (compareOp op) r)(D:PE X a ta)(Y:PE X b tb)(C:behindInMarks op b=false):PE X (.Compare a [op] [b] pos) (tOp r ta tb):=by
 intro pins s σ H Q I h;exact wpAny_Compare1 (binT D Y I h λv u F x y H2 g O J q=>G pins F σ H2 x y v u Q g O J q) C
inductive Zdv(Q:Bool->Hp->Prop)(x:V)(H':Hp):Prop
 |mk (k:_):(x=.bl k)->(Q k H')->Zdv Q x H'
def Zo3(t:TE):TT:=λσ H Q=>t σ H λx H'=>Zdv Q x H'
def Zlx{op:CmpOp}{r:R2}(O:OpR X (compareOp op) r)(D:PE X a ta)(hb:PE X b tb)(C:behindInMarks op b=false):PT X (.Compare a [op] [b] pos) (Zo3 (tOp r ta tb)):=by
 intro pins s σ H Q I h;refine wpAny_isTrue_Compare1 (thn (D pins s σ H _ I h) λv g ⟨x,H1,Z,r1,Y⟩=>thn (hb pins g σ H1 _ Z Y) λu J ⟨y,H2,q,r2,q2⟩=>
  thn (O pins J σ H2 x y v u _ q r1 r2 q2) λc s3 ⟨z,H3,G,F,k,e,q3⟩=>?_) C
 subst e;cases F;exact Qc5 ⟨H3,G,q3⟩
def zv:(sizeLine:Nat)<2^63:=by decide
def qI:OpR X (binaryOp .Add) (λx y H Q=>∃i j,x=.str i/\y=.str j/\i.length+j.length<=sizeLine/\Q (.str (i++j)) H):=by
 intro pins s σ H x y v u Q I C g h;obtain⟨i,j,rfl,rfl,hz,q⟩:=h;obtain⟨t,rfl⟩:=C;obtain⟨t',rfl⟩:=g;exact add_str (λt' tk=>⟨.str (i++j),H,I.tok _,⟨_,U⟩,q⟩) hz
def vals1{x:V}(r:Vals [x] Z):∃u,Z=[u]/\RelV x u:=by
 cases r with
 |cons q g=>cases g;exact⟨_,U,q⟩
def vals2{x y:V}(r:Vals [x,y] Z):∃u g,Z=[u,g]/\RelV x u/\RelV y g:=by
 cases r with
 |cons q C=>
  cases C with
  |cons D F=>cases F;exact⟨_,_,U,q,D⟩
def JR:Xr X (.builtin "abs") (λxs H Q=>∃i,xs=[.int i]/\Q (.int (if i<0 then -i else i)) H):=by
 intro pins s σ H xs g Q I r h;obtain⟨i,rfl,q⟩:=h;obtain⟨u,rfl,t,rfl⟩:=vals1 r;exact call_abs_int λu tk=>⟨.int _,H,I.tok _,⟨_,U⟩,q⟩
def Zdw (C:X.calm=true):Xr X (.builtin "max") (λxs H Q=>∃i j,xs=[.int i,.int j]/\Q (.int (if j>i then j else i)) H):=by
 intro pins s σ H xs F Q I r h;obtain⟨i,j,rfl,q⟩:=h;obtain⟨u,D,rfl,⟨t,rfl⟩,⟨t',rfl⟩⟩:=vals2 r;refine max_two_ints (I.ok.hd C) λh' tk k=>⟨_,H,I.kept k,?_,q⟩
 by_cases g:j>i
 .rw[Qa9 g,Qa9 g];exact⟨_,U⟩
 .rw[Qa6 g,Qa6 g];exact⟨_,U⟩
def Zdx (C:X.calm=true):Xr X (.builtin "min") (λxs H Q=>∃i j,xs=[.int i,.int j]/\Q (.int (if j<i then j else i)) H):=by
 intro pins s σ H xs F Q I r h;obtain⟨i,j,rfl,q⟩:=h;obtain⟨u,D,rfl,⟨t,rfl⟩,⟨t',rfl⟩⟩:=vals2 r;refine min_two_ints (I.ok.hd C) λh' tk k=>⟨_,H,I.kept k,?_,q⟩
 by_cases g:j<i
 .rw[Qa9 g,Qa9 g];exact⟨_,U⟩
 .rw[Qa6 g,Qa6 g];exact⟨_,U⟩
end
structure ObjM(h:Heap)(x dx C:Au)(mA:Ae):Prop where
 obj:h.get? x=some (PySem.W.instObj C dx)
 ns:h.Ns1 dx mA
 ne:dx≠x
theorem Zdy{mA:Ae}(n:h.Ns1 f mA):∃od,h.get? f=some od/\∀name,PySem.W.lookIn name od=some (mA name):=by
 obtain⟨o,es,ep,J,G,F,_,C⟩:=n;refine⟨o,J,λname=>?_⟩;have e:=C name;unfold nsFind findBy at e;rw[<-Array.find?_toList]at e;unfold PySem.W.lookIn;rw[G];dsimp only;split
 .grind
 .rename_i q;rw[q]at e;have a:es.toList.any (·.refKey)=false:=by
   rw[List.any_eq_false];intro y D;obtain⟨z,t,g⟩:=F y (Array.mem_toList_iff.mp D);simp[DictEntry.refKey,g]
  have I:¬es.toList.any (·.refKey)=true:=by grind
  rw[Qa6 I];exact congrArg some e
theorem ObjM.look{x:Au}{mA:Ae}(I:ObjM h x a f mA):∃od,PySem.W.InstAt h x (PySem.W.instObj f a) f (some od)/\∀name,PySem.W.lookIn name od=some (mA name):=
 let⟨od,ho,hl⟩:=Zdy I.ns
 ⟨od,⟨I.obj,U,U,ho⟩,hl⟩
def yS.some_of{v:V}{o:Option As}(r:yS (some v) o):∃u,o=some u/\RelV v u:=by
 cases o with
 |none=>exact(r).elim
 |some u=>exact⟨u,U,r⟩
def yS.none_of{o:Option As}(r:yS none o):o=none:=by
 cases o with
 |none=>rfl
 |some u=>exact(r).elim
section
variable {P:An}{w:Ar}{H H':Hp}{h h':Heap}{a C dx:Au}{fs fs':List (Str×V)}
def Zly(g:HOk P w H h)(e:H a=some (.ins C dx fs)):∃mA,ObjM h a dx C mA/\(∀f,yS (fs.lookup f) (mA f))/\PySem.Within mA (fs.map (·.1))/\fs.length<=1000/\H dx=some (.own a):=by
 obtain⟨d,z,ne,ob,mA,n,r,q⟩:=(g a _ e);exact⟨mA,⟨ob,n,ne⟩,r,q,z,d⟩
end
structure Cls(K:Af)(C:Au):Prop where
 pg:PySem.W.plainGet K C Str.empty=true
 hd:PySem.W.hasDictIn K C=true
 po:PySem.W.plainOver K C=true
 sa:PySem.W.findIn K (.ref C) "__setattr__" = some (some (.builtin "object.__setattr__"))
def Cls.get(c:Cls K a)(f:Str):PySem.W.plainGet K a f=true:=c.pg
section
variable {X:Cx}{pins:Ac}{σ:St}{H:Hp}{s:Aq}{A:Ao}{E:Ab}{Q:Ab}{c:As}{b:Bool}
inductive Zbq(K:Af)(H:Hp):V->Value->Prop where
 |non:Zbq K H .non (.type "NoneType")
 |bl (x:Bool):Zbq K H (.bl x) (.type "bool")
 |int (i:Int):Zbq K H (.int i) (.type "int")
 |str (x:Str):Zbq K H (.str x) (.type "str")
 |flt (x:UInt64):Zbq K H (.flt x) (.type "float")
 |lst {a:Au} {xs:A0} (e:H a=some (.lst xs)):Zbq K H (.ref a) (.type "list")
 |frz {a:Au} {o:Obj} {xs:A0} (e:H a=some (.frz o (.lst xs))):Zbq K H (.ref a) (.type "list")
 |tup {a:Au} {xs:A0} (e:H a=some (.tup xs)):Zbq K H (.ref a) (.type "tuple")
 |dK {a:Au} {kvs:Ay} (e:H a=some (.dK kvs)):Zbq K H (.ref a) (.type "dict")
 |dT {a:Au} {kvs:List (List Key×V)} (e:H a=some (.dT kvs)):Zbq K H (.ref a) (.type "dict")
 |ins {a C dx:Au} {fs:List (Str×V)} (e:H a=some (.ins C dx fs)) (cl:Cls K C) (ha:PySem.W.findIn K (.ref C) "__class__" = some (some (.builtin "object.__class__")))
   (hn:PySem.W.specialIn K (.builtin "object.__class__") "__get__" = some (some (.builtin "getset_descriptor.__get__"))) (htk:PySem.W.takesIn K (.builtin "object.__class__")=some true)
   (hm:PySem.W.mroIn K C (.type "object")=some true):Zbq K H (.ref a) (.ref C)
def Zdz{x:V}{u t:As}(I:Inv X pins σ H s)(g:RelV x u)(ty:Zbq X.K H x t)(e:PySem.W.kitOne X.K t c=some b)(h:∀tk,Q (.bool b) {s with toks:=tk}):
  A1 X.prog X.w A (call (.builtin "isinstance") [u,c]) Q E s:=by
 cases ty with
 |non=>cases(g);exact Qc2 PySem.W.kitx_none I.kIn True.intro e (λz=>nomatch z) h
 |bl y=>cases(g);exact Qc2 PySem.W.kitx_bool I.kIn True.intro e (λz=>nomatch z) h
 |int i=>obtain⟨t,q⟩:=(g);cases q;exact Qc2 PySem.W.kitx_int I.kIn True.intro e (λz=>nomatch z) h
 |str y=>obtain⟨t,q⟩:=(g);cases q;exact Qc2 PySem.W.kitx_str I.kIn True.intro e (λz=>nomatch z) h
 |flt y=>obtain⟨t,q⟩:=(g);cases q;exact Qc2 PySem.W.kitx_float I.kIn True.intro e (λz=>nomatch z) h
 | @lst a xs D=>
  cases(g);obtain⟨_,_,n,_,h1⟩:=(I.hok a _ D);exact Qc2 PySem.W.kitx_list I.kIn ⟨_,h1,U⟩ e (λz=>nomatch z) h
 | @frz a ob xs D=>
  cases(g);obtain⟨_,_,_,n,_,h1⟩:=(I.hok a _ D);exact Qc2 PySem.W.kitx_list I.kIn ⟨_,h1,U⟩ e (λz=>nomatch z) h
 | @tup a xs D=>
  cases(g);obtain⟨_,_,_,p⟩:=(I.hok a _ D);obtain⟨o,h1,h2,_⟩:=p;exact Qc2 PySem.W.kitx_tuple I.kIn ⟨o,h1,h2⟩ e (λz=>nomatch z) h
 | @dK a kvs D=>
  cases(g);obtain⟨_,_,vs,_,p⟩:=(I.hok a _ D);obtain⟨o,es,ep,h1,h2,_⟩:=p;exact Qc2 PySem.W.kitx_dict I.kIn ⟨o,h1,h2.1⟩ e (λz=>nomatch z) h
 | @dT a kvs D=>
  cases(g);obtain⟨_,_,xs,_,o,es,ep,h1,h2,_⟩:=(I.hok a _ D);exact Qc2 PySem.W.kitx_dict I.kIn ⟨o,h1,h2.1⟩ e (λz=>nomatch z) h
 | @ins a C dx fs D cl Z Y F G=>
  cases(g);obtain⟨mA,O,_⟩:=Zly I.hok D;obtain⟨od,J,_⟩:=O.look;exact Qc2 (PySem.W.kitx_own (cl.get _) cl.hd Z Y F G) I.kIn J e (λz=>nomatch z) h
end
structure JS(k:Nat)(A:Ao):Prop where
 hd:A.handled=none
 dp:A.depth+3*k+5<recursionLimit
 un:A.units+16*k+200<cLine
def JS.mono{j k:Nat}{A:Ao}(r:JS k A)(h:j<=k):JS j A:=⟨r.hd,by have:=r.dp;lia,by have:=r.un;lia⟩
theorem JS.deeper{k:Nat}{A:Ao}(r:JS (k+1) A)(env:Env):JS k (A.deeper env):=
 ⟨r.hd,by have:=r.dp;show A.depth+1+3*k+5<_;lia,by have:=r.un;show A.units+3+16*k+200<_;lia⟩
def JS.depth{k:Nat}{A:Ao}(r:JS k A):A.depth<recursionLimit:=by have:=r.dp;lia
def JS.units{k:Nat}{A:Ao}(r:JS k A):A.units+64<cLine:=by have:=r.un;lia
def Zhb:TA:=λ_ H Q=>Q [] H
def qJ(ta:TE)(g:TA):TA:=λσ H Q=>ta σ H λx H1=>g σ H1 λxs H2=>Q (x::xs) H2
section
variable {X:Cx}{e:Av}{es:Al}{te:TE}{t:TA}{pos:Pos}
def pa_nil:PA X [] Zhb:=λ_ _ _ _ H Q I h=>Qd0 ⟨[],H,I,.nil,h⟩
def Zlz(C:PE X e te)(G:PA X es t)(D:starEach (e::es) X.env=(false,eval e X.env)::starEach es X.env:=by rfl):PA X (e::es) (qJ te t):=by
 intro pos pins s σ H Q I h;rw[D];refine Qcs (thn (C pins s σ H _ I h) λu g ⟨x,H1,J,O,F⟩=>(thn (G pos pins g σ H1 _ J F) λus s2 ⟨xs,H2,q,Y,Z⟩=>⟨x::xs,H2,q,.cons O Y,Z⟩))
inductive Zjz(Q:VK)(xs:A0)(H1:Hp):Prop
 |mk  : (xs.length<=sizeLine)->(∀p,H1 p=none->Q (.ref p) (upd H1 p (.tup xs)))->Zjz Q xs H1
def Zoj(t:TA):TE:=λσ H Q=>t σ H λxs H1=>Zjz Q xs H1
inductive Zj0(Q:VK)(xs:A0)(H1:Hp):Prop
 |mk  : (xs.length<=sizeLine)->(∀p,H1 p=none->Q (.ref p) (upd H1 p (.lst xs)))->Zj0 Q xs H1
def Zp8(t:TA):TE:=λσ H Q=>t σ H λxs H1=>Zj0 Q xs H1
def pe_tup{D:_}(h:PA X es t):PE X (.Tuple es D pos) (Zoj t):=by
 intro pins s σ H Q I G;refine wpAny_Tuple_spliced (thn (h pos pins s σ H _ I G) λC J ⟨xs,H1,g,r,z,q⟩=>⟨by rw[<-r.length];exact z,?_⟩);have F:=g.hok.fresh (Qai _);refine⟨.ref _,_,g.laid (λb u e=>Qab _ e) (Qai _) ?_,U,q _ F⟩;exact⟨z,C,r,gq.new _ _⟩
def pe_lst(h:PA X es t):PE X (.List es pos) (Zp8 t):=by
 intro pins s σ H Q I F;refine wpAny_List_spliced (thn (h pos pins s σ H _ I F) λC G ⟨xs,H1,g,r,z,q⟩=>⟨by rw[<-r.length];exact z,?_⟩);have D:=g.hok.fresh (Qai _);refine⟨.ref _,_,g.laid (λb u e=>Qab _ e) (Qai _) ?_,U,q _ D⟩;exact⟨z,C,0,r,Qao _ U⟩
end
abbrev Sp:=A0->Hp->VK->XK->Prop
abbrev CXT:=List Env->Hp->Shared->XK->Value->Shared->Prop
structure Zl0(P:An)(w:Ar)(K:Af)(mg:Ae)(base:Heap)(A:Ao)(outer:List Env)(s:Aq)(H:Hp):Prop where
 frames:A.frames=some outer
 mod:Mod K mg base
 bs:∀b o,base.get? b=some o->s.heap.get? b=some o/\H b=none
 bsz:base.objs.size<=s.heap.objs.size
 funs:s.heap.FunFrames base outer
 frf:∀b∈frs outer,H b=none
 hok:HOk P w H s.heap
 bare:AllBare s.gens
def CE(outer:List Env)(P:An)(w:Ar)(H:Hp)(s:Aq)(Q:VK)(u:As)(s':Aq):Prop:=
 ∃v H',s'.os=s.os/\AllBare s'.gens/\Un (frs outer) [] H H' s.heap s'.heap/\HOk P w H' s'.heap/\RelV v u/\Q v H'
def CR(CX:CXT)(outer:List Env)(P:An)(w:Ar)(H:Hp)(s:Aq)(Q:VK)(E:XK)(r:Result)(s':Aq):Prop:=
 match r with
 |.ok (.ret u)=>CE outer P w H s Q u s'
 |.ok _=>False
 |.error e=>CX outer H s E e s'
structure Y1(P:An)(w:Ar)(K:Af)(mg:Ae)(base:Heap)(CX:CXT)(k:Nat)(f:Au)(fd:Am)(ps:Ai)(sp:Sp):Prop where
 len:∀vs H Q E,sp vs H Q E->vs.length=ps.length
 run:∀(A:Ao)(outer:List Env)(s:Aq)(H:Hp)(args:Args)(us:Ag)(vs:A0)(Q:VK)(E:XK),JS k A->Zl0 P w K mg base A outer s H->BindsTo s fd args (ps.zip us)->Vals vs us->sp vs H Q E->
  codeAny (model P w) A (.call (.ref f) args) (CR CX outer P w H s Q E) s
section
variable {X:Cx}{pins:Ac}{σ:St}{H:Hp}{s s':Aq}
theorem Inv.env0(I:Inv X pins σ H s):Zl0 X.prog X.w X.K X.mg X.base X.A X.stack s H:=
 ⟨I.ok.frames,I.ok.mod,I.bs,Qaz I.ok.bsz I.sz,I.stack,I.stkFree,I.hok,I.bare⟩
def Inv.after{Q:VK}{u:As}(I:Inv X pins σ H s)(h:CE X.stack X.prog X.w H s Q u s'):EP X pins σ Q u s':=by
 obtain⟨v,H',os,C,un,D,r,q⟩:=h;obtain⟨hh,g,d,t,F⟩:=s';obtain rfl:F=s.os:=os;exact⟨v,H',I.call un D C (λb z=>absurd z (by simp)),r,q⟩
end
def Zd0(sp:Sp)(dvs:A0)(E:XK)(t:TA):TE:=λσ H Q=>t σ H λvs H1=>sp (vs++dvs) H1 Q E
def Binds(K:Af)(fd:Am)(ps:Ai)(ds:Ag):Prop:=
 ∀(s:Aq)(g:Ag),K.In s.heap->(g++ds).length=ps.length->BindsTo s fd ⟨g,[]⟩ (ps.zip (g++ds))
theorem Binds.all{fd:Am}{ps:Ai}(h:∀g:Ag,g.length=ps.length->bindArgs fd ⟨g,[]⟩=pure (ps.zip g)):Binds K fd ps []:=λs g _ q=>by
 rw[Qbk]at q ⊢;exact .of_eq (h g q)
def Passes(CX:CXT)(X:Cx)(E:XK):Prop:=∀(pins:Ac)(σ:St)(H:Hp)(s:Aq)(e:As)(s':Aq),Inv X pins σ H s->CX X.stack H s E e s'->X.xe e s'
section
variable {X:Cx}{CX:CXT}{k:Nat}{f C:Au}{fd:Am}{ps:Ai}{sp:Sp}{dvs:A0}{ds:Ag}{E:XK}{x m:Str}{p pos apos:Pos}{e o:Av}{es:Al}{ta:TE}{t:TA}
def run_fn{pins:Ac}{σ:St}{H:Hp}{Q:VK}{vs:A0}(F:Y1 X.prog X.w X.K X.mg X.base CX k f fd ps sp)(G:JS k X.A)(O:Binds X.K fd ps ds)(Y:Vals dvs ds)(C:Passes CX X E)
  (I:Inv X pins σ H s) (r:Vals vs Z) (h:sp (vs++dvs) H Q E):A2 X (call (.ref f) Z) (EP X pins σ Q) X.xe s:=by
 have q:=r.append Y;have D:(Z++ds).length=ps.length:=by rw[<-q.length];exact F.len _ _ _ _ h
 refine wpAny_call (Qew (F.run X.A X.stack s H _ _ _ Q E G I.env0 (O s Z I.kIn D) q h) λr s' g=>?_);cases r with
 |error e=>exact C pins σ H s e s' I g
 |ok J=>
  cases J with
  |ret u=>exact I.after g
  |next=>exact False.elim g
  |brk=>exact False.elim g
  |cont=>exact False.elim g
def Zl1(F:Y1 X.prog X.w X.K X.mg X.base CX k f fd ps sp)(hr:JS k X.A)(G:Gl X x)(J:X.mg x=some (.ref f))(Z:PySem.W.keepIn X.K (.ref f)=true)(hb:Binds X.K fd ps ds)(hd:Vals dvs ds)(O:Passes CX X E)
  (Y:PA X (e::es) t) (C:(x == ("__debug__" : Str))=false:=by decide) (he:starEach (e::es) X.env=(false,eval e X.env)::starEach es X.env:=by rfl) (g:(backTo pos (starEach es X.env)).any (·.1)=false:=by rfl):
  PE X (.Call (.Name x p) (e::es) [] pos) (Zd0 sp dvs E t):=by
 intro pins s σ H Q I h;refine Qc0 (yU I G J ?_ C);refine Qgj I.ok.mod.kin Z (thn (Y pos pins s σ H _ I h) λus s1 ⟨vs,H1,D,r,q⟩=>⟨D.kIn,(run_fn F hr hb hd O D r q)⟩) he g
end
structure Zx(N P:Ai)(sc:Scope):Prop where
 kind:sc.kind=.function:=by rfl
 co:sc.isCoroutine=false:=by rfl
 gen:sc.isGenerator=false:=by rfl
 nd:N.Nodup:=by decide +kernel
 pre:N.take P.length=P:=by rfl
 par:∀x∈P,sc.names.lookup x=some .local\/sc.names.lookup x=some .cell:=by decide +kernel
 nofree:∀y∈sc.names,y.2≠.free:=by decide +kernel
theorem ky{kindOf:Str->Option NameKind}{x:Str}:∀{binds:List (Str×As)} {m:Ae},(∀v,(x,v)∉binds)->bindL kindOf binds m x=m x
 |[],_,_=>rfl
 |(n,v)::r,m,h=>by
  unfold bindL;rw[ky λw hw=>h w (Qak _ hw)];split
  .grind
  .rfl
theorem kz{kindOf:Str->Option NameKind}{x:Str}:∀{binds:List (Str×As)} {m:Ae},(∀v,(x,v)∉binds)->bindC kindOf binds m x=m x
 |[],_,_=>rfl
 |(n,v)::r,m,h=>by
  unfold bindC;rw[kz λw hw=>h w (Qak _ hw)];split
  .rfl
  .grind
theorem k4{kindOf:Str->Option NameKind}{x:Str}{v:As}:∀{P:Ai} {vs:Ag} {i:Nat} {m:Ae},P.Nodup->P[i]?=some x->vs[i]?=some v->kindOf x=some .local->
  bindL kindOf (P.zip vs) m x=some v
 |[],_,_,_,_,h,_,_=>by simp at h
 |_::_,[],_,_,_,_,h,_=>by simp at h
 |p::P,w::vs,0,m,nd,h1,h2,g=>by
  simp at h1 h2;subst h1;subst h2;show bindL kindOf ((p,w)::P.zip vs) m p=_;unfold bindL;rw[ky λv q=>(Qcj.mp nd).1 (Qeg q).1,Qa9 g];simp
 |p::P,w::vs,i+1,m,nd,h1,h2,g=>by
  unfold bindL;exact k4 (i:=i) (Qcj.mp nd).2 (by grind) (by grind) g
theorem k6{kindOf:Str->Option NameKind}{x:Str}{v:As}:∀{P:Ai} {vs:Ag} {i:Nat} {m:Ae},P.Nodup->P[i]?=some x->vs[i]?=some v->kindOf x≠some .local->
  bindC kindOf (P.zip vs) m x=some v
 |[],_,_,_,_,h,_,_=>by simp at h
 |_::_,[],_,_,_,_,h,_=>by simp at h
 |p::P,w::vs,0,m,nd,h1,h2,g=>by
  simp at h1 h2;subst h1;subst h2;show bindC kindOf ((p,w)::P.zip vs) m p=_;unfold bindC;rw[kz λv q=>(Qcj.mp nd).1 (Qeg q).1,Qa6 g];simp
 |p::P,w::vs,i+1,m,nd,h1,h2,g=>by
  unfold bindC;exact k6 (i:=i) (Qcj.mp nd).2 (by grind) (by grind) g
def start(N:Ai)(vs:A0):St:=vs.map some++List.replicate (N.length-vs.length) none
def Zhc(CX:CXT)(P:An)(w:Ar)(K:Af)(mg:Ae)(base:Heap)(N:Ai)(qual:Str)(scope:Scope)(f:Au)(q:As)(A:Ao)(outer:List Env)(s:Aq)(H:Hp)(E:XK):Cx where
 prog:=P
 w:=w
 K:=K
 mg:=mg
 base:=base
 A:=A.deeper (envOfC qual scope s.heap.objs.size f q)
 N:=N
 s₀:=s
 H₀:=H
 env:=envOfC qual scope s.heap.objs.size f q
 outer:=outer
 stack:=envOfC qual scope s.heap.objs.size f q::outer
 ex:=[]
 calm:=true
 fn:=λ_=>true
 pn:=[]
 xe:=λe s'=>wpAny (model P w) (A.deeper (envOfC qual scope s.heap.objs.size f q)) (leaving (envOfC qual scope s.heap.objs.size f q) e) (λ_ g=>CX outer H s E e g) (λC g=>CX outer H s E C g) s'
def zd{g:Scope}(h:g.names.lookup x=some .cell):∃c,(cellsFrom n g.names []).lookup x=some c:=by
 have q:=PySem.W.cellsFrom_some _ n [] (.inl h);exact Option.isSome_iff_exists.mp q
theorem Zd1{CX:CXT}{mg:Ae}{base:Heap}{ps:Ai}{qual:Str}{scope:Scope}{I:As}{A:Ao}{outer:List Env}{Q:Aq}{H:Hp}{E:XK}{vs:A0}
  (S:Zx N ps scope) (hd:A.handled=none) (g:Zl0 P w K mg base A outer s H) (hl:vs.length=ps.length) (r:Vals vs Z)
  (x:InCallC s s.heap.objs.size (bindL (envOfC qual scope s.heap.objs.size f I).kindOf (ps.zip Z) λ_=>none) (cellsFrom (s.heap.objs.size+1) scope.names []) (bindC (envOfC qual scope s.heap.objs.size f I).kindOf (ps.zip Z) λ_=>none) Q):
  Inv (Zhc CX P w K mg base N qual scope f I A outer s H E) [] (start N vs) H Q:=by
 have hpl:ps.length<=N.length:=by have:=congrArg List.length S.pre;rw[Qas]at this;lia
 obtain⟨h1,tk,rfl,J⟩:=x.done;have C:∀b:Au,b∉(Zhc CX P w K mg base N qual scope f I A outer s H E).ex:=λb z=>absurd (show b∈([]:List Au)from z) (by simp);refine⟨⟨g.mod,S.kind,U,U,Qai _,λy z c h1 h2=>?_,λy F=>?_,λy c _ h=>?_,λ_=>hd,Qfz g.frames,.inr ⟨U,U⟩,λb z=>absurd z (C b),g.bs,g.bsz,λb _ _=>C b,λb z=>absurd z (C b),g.funs,g.frf⟩,
  rfl,g.bare,Un.kept J,⟨_,x.toInCall.ns,λi y v h1 h2 h3=>?_⟩,λy c h=>⟨_,x.cell y c h⟩,g.hok.fresh (Qai _),λy c h=>?_,λp G=>absurd (show p∈([]:Ac)from G) (by simp),g.hok.kept J,?_⟩
 .exact name_of_addr x.apart (Qca h1) (Qca h2)
 .rcases F with F|F
  .exact zd F
  .exact absurd U (S.nofree _ (Qca F))
 .exact Qax (x.above y c (Qca h))
 .have hi:i<vs.length:=by
   unfold start at h2
   by_cases hi:i<vs.length
   .exact hi
   .grind
  have ha:vs[i]?=some v:=by
   unfold start at h2;rw[Qa8 (by simpa using hi),Qal]at h2;cases e:vs[i]? with
   |none=>rw[e]at h2;cases h2
   |some a=>rw[e]at h2;cases h2;rfl
  obtain⟨u,O,Y⟩:=r.get ha;have G:ps[i]?=some y:=by
   rw[<-S.pre,List.getElem?_take_of_lt (by lia)];exact h1
  have D:ps.Nodup:=by rw[<-S.pre];exact S.nd.sublist (List.take_sublist _ _)
  refine⟨u,Y,?_⟩;rcases S.par y (Qag G)with k|k
  .exact .inl ⟨k,k4 D G O k⟩
  .obtain⟨c,e⟩:=zd (n:=s.heap.objs.size+1) k;refine .inr ⟨.inl k,c,e,?_⟩;have q:=x.cell y c e;rw[k6 D G O (by show scope.names.lookup y≠_;rw[k];decide)]at q;exact q
 .exact g.hok.fresh (Qax (x.above y c (Qca h)))
 .unfold start;show _=N.length;rw[Qaf,Qac,Qbh];lia
def Zo4{CX:CXT}{mg:Ae}{k:Nat}{name qual:Str}{params:Arguments}{body:List Aw}{scope:Scope}{dV kV O pm g ct oc:As}{an od:Option Au}
  {osl:Array (Option As)} {ps:Ai} {sp:Sp} (lk:K.lookup f=some ⟨oc,od,.func (PySem.W.fnOf name qual params body scope dV kV O pm an g ct),osl⟩) (hcd:PySem.W.codeIn K g qual=true) (S:Zx N ps scope)
  (len:∀vs H Q E,sp vs H Q E->vs.length=ps.length)
  (D:∀(A:Ao)(outer:List Env)(s:Aq)(H:Hp)(vs:A0)(Q:VK)(E:XK),JS k (A.deeper (envOfC qual scope s.heap.objs.size f g))->sp vs H Q E->
   ∃t,PSs (Zhc CX P w K mg h N qual scope f g A outer s H E) body t/\t {nx:=λ_ H'=>Q .non H',rt:=Q} (start N vs) H):
  Y1 P w K mg h CX (k+1) f (PySem.W.fnOf name qual params body scope dV kV O pm an g ct) ps sp:=by
 refine⟨len,λA outer s H args us vs Q E hr Y hb r Z=>?_⟩;have hl:=len _ _ _ _ Z;have KX:=Y.mod.kin.keeps λb o e=>(Y.bs b o e).1;have lim:=Y.mod.nolimit.keeps λb o e=>(Y.bs b o e).1;have F:∀y∈ps.zip us,scope.names.lookup y.1=some .local\/(scope.names.lookup y.1=some .cell/\((cellsFrom (s.heap.objs.size+1) _ []).lookup y.1).isSome=true):=λ⟨n,v⟩ hy=>by
  rcases S.par n (Qeg hy).1 with q|q
  .exact .inl q
  .exact .inr ⟨q,PySem.W.cellsFrom_some _ _ _ (.inl q)⟩
 refine codeAny_call_function hr.depth (KX _ _ lk) U S.co S.gen U (PySem.W.codeRec_of KX hcd) (hb _ _ _ _ ?_);refine wpAny_newFunctionEnv_cells S.kind F λenv he s1 x=>?_;subst he;refine⟨lim.keeps x.toInCall.keep,codeAny_func ?_⟩;obtain⟨t,ht,hq⟩:=D A outer s H vs Q E (hr.deeper _) Z;have I:Inv (Zhc CX P w K mg h N qual scope f g A outer s H E) [] _ H s1:=Zd1 S hr.hd Y hl r x;refine Qdb (ht [] s1 _ H _ I hq) (λfl s' G=>?_) λe s' G=>G;have fin:∀{C:St} {H':Hp} {v:V} {u:As},Inv (Zhc CX P w K mg h N qual scope f g A outer s H E) [] C H' s'->RelV v u->Q v H'->CE outer P w H s Q u s':=
  λ{C H' v u} J rv q=>⟨v,H',J.os,J.bare,J.base,J.hok,rv,q⟩
 cases fl with
 |ret u=>
  obtain⟨v,C,H',J,rv,q⟩:=G;exact fin J rv q
 |next=>
  obtain⟨C,H',J,q⟩:=G;exact fin (v:=V.non) J U q
 |brk=>
  obtain⟨_,_,_,q⟩:=G;exact False.elim q
 |cont=>
  obtain⟨_,_,_,q⟩:=G;exact False.elim q
section
variable {X:Cx}{x:Str}{p pos:Pos}{e:Av}{es:Al}{t:TA}{id T:String}{r:A0->Hp->VK->Prop}
def tCB(r:A0->Hp->VK->Prop)(t:TA):TE:=λσ H Q=>t σ H λvs H1=>r vs H1 Q
def Zhp (hc:Xr X (.builtin id) r) (D:Gl X x) (F:X.mg x=none) (O:bootBuiltins x=some (.builtin id)) (G:PA X (e::es) t) (J:x ≠ "__name__" :=by decide) (q:(x == ("__debug__" : Str))=false:=by decide)
  (he:starEach (e::es) X.env=(false,eval e X.env)::starEach es X.env:=by rfl) (g:(backTo pos (starEach es X.env)).any (·.1)=false:=by rfl):PE X (.Call (.Name x p) (e::es) [] pos) (tCB r t):=by
 intro pins s σ H Q I h;refine Qc0 (Jr I D F O (PyProof.Rows.callWith_builtin1 (thn (G pos pins s σ H _ I h) λZ C ⟨vs,H1,I1,r1,Y⟩=>hc pins C σ H1 vs Z Q I1 r1 Y) he g) J q)
def Zd2 (hc:Xr X (.type T) r) (D:Gl X x) (F:X.mg x=none) (O:bootBuiltins x=some (.type T)) (G:PA X (e::es) t) (J:x ≠ "__name__" :=by decide) (q:(x == ("__debug__" : Str))=false:=by decide)
  (he:starEach (e::es) X.env=(false,eval e X.env)::starEach es X.env:=by rfl) (g:(backTo pos (starEach es X.env)).any (·.1)=false:=by rfl):PE X (.Call (.Name x p) (e::es) [] pos) (tCB r t):=by
 intro pins s σ H Q I h;refine Qc0 (Jr I D F O (Qb5 (thn (G pos pins s σ H _ I h) λZ C ⟨vs,H1,I1,r1,Y⟩=>hc pins C σ H1 vs Z Q I1 r1 Y) he g) J q)
end
end L2
variable {X:L2.Cx}
variable {H d:L2.Hp}
variable {u I:List L2.V}
variable {b:L2.Cx}
variable {c:L2.St}
variable {A M:L2.TE}
variable {y:L2.V}
variable {B:L2.TS}
variable {C:L2.VK}
variable {D:L2.TT}
variable {G:L2.Ends}
variable {Ua:L2.HO}
variable {Y:L2.TA}
namespace HT
open PySem PyProof.Rows
section
variable {prog:An}{w:Ar}{A:Ao}{E:Ab}{s:Aq}
def cat_tup{t b:Au}{vs:Ag}(Y:IsTup s.heap t vs.toArray)(hb:IsTup s.heap b Z.toArray)(hv:vs≠[])
  (h1:Z=[]->Q (.ref t) s) (h2:Z≠[]->Q (.ref s.heap.objs.size) {s with heap:=s.heap.push {cls:=.type "tuple",data:=.seq (vs++Z).toArray}})
  (hsz:vs.length+Z.length<=sizeLine):A1 prog w A (binaryOp .Add (.ref t) (.ref b)) Q E s:=by
 obtain⟨⟨cls,dd,data,J⟩,D,hc,n,hd⟩:=id Y;obtain⟨⟨O,q,data2,C⟩,g,F,I,G⟩:=id hb;subst hc hd F G;have e:vs.toArray++Z.toArray=(vs++Z).toArray:=by simp
 by_cases hw:Z=[]
 .exact concat_meets ⟨_,D,U⟩ ⟨_,g,U⟩ Qg5 seq_tuple_add Qfl Qfc (Qfa _ _)
   (tuple_addW1 t b _ _ n I dd q J C (by simpa using hv) (by simp[hw])) ⟨D,g,h1 hw⟩
 .refine concat_meets ⟨_,D,U⟩ ⟨_,g,U⟩ Qg5 seq_tuple_add Qfl Qfc (Qfa _ _)
   (tuple_addW2 t b _ _ n I dd q J C (by grind) (by grind) (by grind)) ⟨D,g,?_⟩
  rw[e];exact h2 hw
def sIx(n d:Nat):Option Int->Nat
 |none=>d
 |some v=>if v<0 then(v+(n:Int)).toNat else min v.toNat n
def sIx_none(n d:Nat):sIx n d none=d:=rfl
def sIx_nat(n d k:Nat):sIx n d (some (k:Int))=min k n:=by
 show(if k<0 then((k:Int)+n).toNat else min _ n)=min k n;rw[Qa6 (by lia),Qay]
def sIx_le(n d:Nat)(g:d<=n)(o:Option Int):sIx n d o<=n:=by
 cases o with
 |none=>exact g
 |some v=>
  show(if v<0 then(v+n).toNat else min v.toNat n)<=n
  by_cases q:v<0
  .lia
  .grind
def Zd3(v:Int)(n d:Nat):(if v<0 then max (v+(n:Int)) 0 else min v (n:Int))=((sIx n d (some v):Nat):Int):=by
 show(if v<0 then max _ 0 else min v _)=(((if v<0 then(v+n).toNat else min v.toNat n)))
 by_cases g:v<0
 .lia
 .lia
def Zbr(lo hi:Option Int)(n:Nat):Builtin.Slice.sliceAdjust lo hi 1 (n:Int)=(((sIx n 0 lo:Nat):Int),((sIx n n hi:Nat):Int)):=by
 have h1:¬(1<0):=by lia
 unfold Builtin.Slice.sliceAdjust;refine Qhl ?_ ?_
 .cases lo with
  |none=>rfl
  |some v=>exact Zd3 v n 0
 .cases hi with
  |none=>rfl
  |some v=>exact Zd3 v n n
def Zbs(i j:Nat):Builtin.Slice.slicePlaces (i:Int) (j:Int) 1=j-i:=by
 unfold Builtin.Slice.slicePlaces;split<;>lia
def ym{o:Option Int}{Q:Option Int->Shared->Prop}(p:IsPart v o)(h:Q o s):A1 prog w A (Builtin.Slice.slicePartIndex v) Q E s:=by
 cases p with
 |none=>exact Qgp h
 |int i t=>exact slicePart_int h
def Ja{vu:As}{lo hi:Option Int}{Q:Int×Int×Nat->Shared->Prop}(F:s.heap.IsSliceOf a v vu .none)(pl:IsPart v lo)(D:IsPart vu hi)
  (h:Q (((sIx n 0 lo:Nat):Int),1,sIx n n hi-sIx n 0 lo) s):A1 prog w A (Builtin.Slice.sliceApplied (.ref a) (pure (n:Int))) Q E s:=by
 obtain⟨os,q,C,g⟩:=id F;refine Qaa (Qaa (Qbt q g U (Qaa (Qbt q g U (Qaa (Qbt q g U (Qae ?_)))))));refine Qaa (Qgp ?_);refine Qaa (ym pl (Qaa (ym D (Qaa (Qae ?_)))));show wpAny _ _ (match Builtin.Slice.sliceAdjust lo hi 1 n with|(lo,hi)=>pure (lo,(1:Int),Builtin.Slice.slicePlaces lo hi 1)) _ _ s;rw[Zbr lo hi n];show wpAny _ _ (pure _) _ _ s;rw[Zbs];exact Qae h
def Zhq(xs:Ah)(i k:Nat):((List.range k).filterMap λ(m:Nat)=>xs[((i:Int)+(m:Int)*1).toNat]?).toArray=((xs.toList.drop i).take k).toArray:=by
 have e:(λ(m:Nat)=>xs[(i+(m:Int)*1).toNat]?)=λm=>xs[i+m]?:=by
  grind
 rw[e];have:=pick_run xs i k;rw[List.filterMap_map]at this;have e2:((λx=>xs[x]?)∘λx=>i+x)=λm=>xs[i+m]?:=rfl;rw[e2]at this;rw[this]
def getItem_tuple_cut{t:Au}{items:Ah}{vu:As}{lo hi:Option Int}(q:IsTup s.heap t items)(I:s.heap.IsSliceOf a v vu .none)(pl:IsPart v lo)(O:IsPart vu hi)
  (hw:¬(sIx items.size 0 lo=0/\sIx items.size items.size hi=items.size))
  (h:Q (.ref s.heap.objs.size) {s with heap:=s.heap.push {cls:=.type "tuple",data:=.seq ((items.toList.drop (sIx items.size 0 lo)).take (sIx items.size items.size hi-sIx items.size 0 lo)).toArray}})
  (hsz:items.size<=sizeLine):A1 prog w A (getItem (.ref t) (.ref a)) Q E s:=by
 have g:=by
  show((items.toList.drop (sIx items.size 0 lo)).take (sIx items.size items.size hi-sIx items.size 0 lo)).toArray.size<=sizeLine;rw[Qb8,Qas,Qbn,Qb6];lia
 obtain⟨os,C,G,J⟩:=id I;have F:s.TypeIs (.ref a) "slice" :=⟨os,C,G⟩;unfold getItem;try with_reducible refine Qch ?_
 first|refine Qaa (Qae ?_)|skip
 refine Qaa (Qgs q.typeIs (by decide) ?_);refine Qaa (wpAny_callSpecial?_slot (name:=Str.ofString "__getitem__") q.typeIs Qbg
  (Qbo Qbg q.typeIs Qf9 ?_ (Qgk _ _)))
 show wpAny _ _ (Builtin.Tuple.tupleItemsOf (.ref t) >>= _) _ _ s;refine Qaa (tupleItemsOf_ q ?_);refine Qaa (Qex F ?_);refine Qaa (Ja I pl O ?_);have D:¬((((sIx items.size 0 lo:Nat):Int) == 0&&(1:Int) == 1&&(sIx items.size items.size hi-sIx items.size 0 lo) == items.size)=true):=by
  grind
 show wpAny _ _ (if(((sIx items.size 0 lo:Nat):Int) == 0&&(1:Int) == 1&&(sIx items.size items.size hi-sIx items.size 0 lo) == items.size)=true then _ else _) _ _ s;rw[Qa6 D,Zhq]
 first
  |exact Qaa (m:=Builtin.Tuple.tupleExact _) (Qbm (Qae ⟨_,U,Qae h⟩) g)
  |exact Qaa (m:=Builtin.Tuple.tupleExact _) _
  |exact Qaa _
  |exact Qaa _
end
end HT
namespace L2
abbrev TO:=St->Hp->(Option Int->Hp->Prop)->Prop
def PO(X:Cx)(e:Option Av)(t:TO):Prop:=
 ∀(pins:Ac)(s:Aq)(σ:St)(H:Hp)(Q:Option Int->Hp->Prop),Inv X pins σ H s->t σ H Q->
  A2 X (evalPart e X.env) (λu s'=>∃o H',Inv X pins σ H' s'/\IsPart u o/\Q o H') X.xe s
def Zd4:TO:=λ_ H Q=>Q none H
inductive Zd5(Q:Option Int->Hp->Prop)(x:V)(H1:Hp):Prop
 |mk (i:_):(x=.int i)->(Q (some i) H1)->Zd5 Q x H1
def Zo5(t:TE):TO:=λσ H Q=>t σ H λx H1=>Zd5 Q x H1
theorem intsAre_of{ns:Ak}:∀{g:Ag},Vals (ns.map V.int) g->IntsAre g ns:=by
 induction ns with
 |nil=>intro g r;cases r;exact .nil
 |cons n ns q=>
  intro g r;cases r with
  |cons D C=>
   obtain⟨t,e⟩:=D;subst e;exact .cons n t (q C)
section
variable {X:Cx}{e:Av}{te:TE}{lo hi:Option Av}{tl th:TO}{pos p2:Pos}
def Zl2:PO X none Zd4:=by
 intro pins s σ H Q I h;exact Qae ⟨none,H,I,.none,h⟩
def Zl3(h:PE X e te):PO X (some e) (Zo5 te):=by
 intro pins s σ H Q I hw;refine thn (h pins s σ H _ I hw) λu F ⟨x,H1,C,D,g⟩=>?_;obtain⟨i,rfl,q⟩:=g;obtain⟨t,rfl⟩:=D;exact⟨some i,H1,C,.int i t,q⟩
def SlR(X:Cx)(r:V->Option Int->Option Int->Hp->VK->Prop):Prop:=
 ∀(pins:Ac)(s:Aq)(σ:St)(H:Hp)(x:V)(v g vu:As)(lo hi:Option Int)(q:Au)(Q:VK),Inv X pins σ H s->RelV x v->s.heap.IsSliceOf q g vu .none->IsPart g lo->IsPart vu hi->r x lo hi H Q->
  ∃T id,typeLookup (.type T) "__getitem__" = pure (some (.builtin id))/\s.TypeIs v T/\A2 X (getItem v (.ref q)) (EP X pins σ Q) X.xe s
def SlR.or{r D:V->Option Int->Option Int->Hp->VK->Prop}(h:SlR X r)(h':SlR X D):SlR X (λx lo hi H Q=>r x lo hi H Q\/D x lo hi H Q):=by
 intro pins s σ H x v F vu lo hi C Q I G g pl J q;rcases q with q|q
 .exact h pins s σ H x v F vu lo hi C Q I G g pl J q
 .exact h' pins s σ H x v F vu lo hi C Q I G g pl J q
def tSl(r:V->Option Int->Option Int->Hp->VK->Prop)(te:TE)(tl th:TO):TE:=λσ H Q=>te σ H λx H1=>tl σ H1 λl H2=>th σ H2 λu g=>r x l u g Q
def Zhr{r:V->Option Int->Option Int->Hp->VK->Prop}(hr:SlR X r)(he:PE X e te)(G:PO X lo tl)(hu:PO X hi th):PE X (.Subscript e (.Slice lo hi none p2) pos) (tSl r te tl th):=by
 intro pins s σ H Q I h;refine Subscript_ (thn (he pins s σ H _ I h) λv s1 ⟨x,H1,I1,Z,q1⟩=>?_);refine wpAny_Slice (thn (G pins s1 σ H1 _ I1 q1) λC s2 ⟨l,H2,I2,pl,q2⟩=>thn (hu pins s2 σ H2 _ I2 q2) λvu g ⟨u,D,O,pu,q3⟩=>?_);refine Qae ?_;have I4:Inv X pins σ D {g with heap:=g.heap.push {cls:=.type "slice",data:=.fields #[C,vu,.none]}}:=O.kept λb ob q=>Qab _ q;obtain⟨T,id,Y,J,F⟩:=hr pins _ σ D x v C vu l u _ Q I4 Z (Heap.IsSliceOf.new ..) pl pu q3;exact tail_any J Y F (by with_unfolding_all rfl)
def qK(xs:A0)(lo hi:Option Int):A0:=(xs.drop (HT.sIx xs.length 0 lo)).take (HT.sIx xs.length xs.length hi-HT.sIx xs.length 0 lo)
def WA(xs:A0)(lo hi:Option Int):(qK xs lo hi).length<=xs.length:=by
 unfold qK;rw[Qas,Qbn];lia
inductive Zj1(K:Af)(x:V)(lo:Option Int)(hi:Option Int)(H:Hp)(Q:VK):Prop
 |mk (a xs:_):(x=.ref a)->(SqT K H a xs)->(¬(HT.sIx xs.length 0 lo=0/\HT.sIx xs.length xs.length hi=xs.length))->(∀p,H p=none->Q (.ref p) (upd H p (.tup (qK xs lo hi))))->Zj1 K x lo hi H Q
def rSlT(K:Af):V->Option Int->Option Int->Hp->VK->Prop:=λx lo hi H Q=>Zj1 K x lo hi H Q
def Zj2:SlR X (rSlT X.K):=by
 intro pins s σ H x v Z vu lo hi Y Q I J G pl O h;obtain⟨a,xs,rfl,F,hw,q⟩:=h;cases J;obtain⟨C,r,D,hz⟩:=I.tuple F;have g:C.toArray.size=xs.length:=r.length.symm;refine⟨"tuple",_,Qbg.lookup,D.typeIs,?_⟩;refine HT.getItem_tuple_cut D G pl O (by grind) ?_ (by lia);rw[g];refine⟨.ref _,_,I.laid (λb ob q=>Qab _ q) (Qai _) ?_,U,q _ (I.hok.fresh (Qai _))⟩;exact⟨Qaz (WA xs lo hi) hz,_,(r.drop _).take _,gq.new _ _⟩
def Vals.nil_iff{xs:A0}(r:Vals xs Z):Z=[]↔xs=[]:=by
 cases r with
 |nil=>simp
 |cons _ _=>simp
end
def ixN(n:Nat)(i:Int):Option Nat:=if 0<=i then(if i<n then some i.toNat else none)else if -(n:Int)<=i then some (i+n).toNat else none
def atI(xs:List g)(i:Int):Option g:=(ixN xs.length i).bind λj=>xs[j]?
def Zl4{i:Int}{j:Nat}(h:ixN n i=some j):seqIndex? i n=some j/\j<n/\-(n:Int)<=i/\i<n:=by
 unfold ixN at h
 by_cases g:0<=i
 .rw[Qa9 g]at h
  by_cases h1:i<n
  .rw[Qa9 h1]at h;have e:=Option.some.inj h;exact⟨by rw[seqIndex_of g h1,e],by lia,by lia,h1⟩
  .rw[Qa6 h1]at h;cases h
 .rw[Qa6 g]at h
  by_cases h1:-n<=i
  .rw[Qa9 h1]at h;have e:=Option.some.inj h;exact⟨by rw[seqIndex_neg (by lia) h1,e],by lia,h1,by lia⟩
  .rw[Qa6 h1]at h;cases h
def gy{xs:List g}{i:Int}{v:g}(h:atI xs i=some v):∃j,seqIndex? i xs.length=some j/\xs[j]?=some v/\j<xs.length/\-(xs.length:Int)<=i/\i<xs.length:=by
 unfold atI at h;cases e:ixN _ i with
 |none=>rw[e]at h;cases h
 |some j=>
  rw[e]at h;obtain⟨h1,h2,q,C⟩:=Zl4 e;exact⟨j,h1,h,h2,q,C⟩
def Yb{xs:List g}{j:Nat}{v:g}(h:xs[j]?=some v):atI xs (j:Int)=some v:=by
 have q:=(Qah.mp h).1;have e:ixN xs.length j=some j:=by
  unfold ixN;rw[Qa9 (by lia),Qa9 (by lia)];simp
 unfold atI;rw[e];exact h
def yV(xs:List g)(v:g):atI (xs++[v]) (-1)=some v:=by
 have q:(xs++[v]).length=xs.length+1:=by simp
 have e:ixN (xs++[v]).length (-1)=some xs.length:=by
  unfold ixN;rw[Qa6 (by decide),Qa9 (by lia)];congr 1;lia
 unfold atI;rw[e];simp
def Zd6(b:Av):Prop:=∀o i,subscripted b false o i=operate [o,i] (getItem o i)
def IxR(X:Cx)(r:R2):Prop:=
 ∀(value g:Av)(pins:Ac)(s:Aq)(σ:St)(H:Hp)(x y:V)(v u:As)(Q:VK),Inv X pins σ H s->RelV x v->RelV y u->r x y H Q->
  subscripted g false v u=operate [v,u] (getItem v u)->A2 X (subscriptTail value g v u) (EP X pins σ Q) X.xe s
def MtR(X:Cx)(id:String)(r:V->List V->Hp->VK->Prop):Prop:=
 ∀(pins:Ac)(s:Aq)(σ:St)(H:Hp)(x:V)(xs:A0)(v:As)(g:Ag)(Q:VK),Inv X pins σ H s->RelV x v->Vals xs g->r x xs H Q->
  A2 X (call (.builtin id) (v::g)) (EP X pins σ Q) X.xe s
section
variable {X:Cx}{a b:Av}{ta tb:TE}{pos:Pos}
def pe_ix{r:R2}(G:IxR X r)(C:PE X a ta)(Y:PE X b tb)(D:Zd6 b):PE X (.Subscript a b pos) (tOp r ta tb):=by
 intro pins s σ H Q I h;exact Subscript_ (binT C Y I h λv u F x y H2 g O J q=>G a b pins F σ H2 x y v u Q g O J q (D _ _))
inductive Zj3(K:Af)(x:V)(y:V)(H:Hp)(Q:VK):Prop
 |mk (p xs i v:_):(x=.ref p)->(y=.int i)->(SqL K H p xs)->(atI xs i=some v)->(Q v H)->Zj3 K x y H Q
def Zo6(K:Af):R2:=λx y H Q=>Zj3 K x y H Q
inductive Zj4(K:Af)(x:V)(y:V)(H:Hp)(Q:VK):Prop
 |mk (p xs i v:_):(x=.ref p)->(y=.int i)->(SqT K H p xs)->(atI xs i=some v)->(Q v H)->Zj4 K x y H Q
def Zhd(K:Af):R2:=λx y H Q=>Zj4 K x y H Q
inductive Zj5(x:V)(y:V)(H:Hp)(Q:VK):Prop
 |mk (z i c:_):(x=.str z)->(y=.int i)->(z.length<=sizeLine)->(atI z.cps.toList i=some c)->(Q (.str ⟨#[c]⟩) H)->Zj5 x y H Q
def rIxS  : R2:=λx y H Q=>Zj5 x y H Q
def Z0:IxR X (Zo6 X.K):=by
 intro value g pins s σ H x y v u Q I rx Y h F;obtain⟨p,xs,i,z,rfl,rfl,hq,he,q⟩:=h;cases rx;obtain⟨t,rfl⟩:=Y;obtain⟨D,r,pl,hz⟩:=I.list hq;obtain⟨j,h1,h2,h3,J,h5⟩:=gy he;obtain⟨w,ew,C⟩:=r.get h2;have O:=r.length;have hn:=zv;have fin:EP X pins σ Q w s:=⟨z,H,I,C,q⟩
 by_cases G:0<=i
 .have Z:=by
   rw[seqIndex_of G h5]at h1;exact Option.some.inj h1
  exact item_listR pl.isList G (by lia) (by grind) fin F
 .have Z:(i+(D.toArray.size:Int)).toNat=j:=by
   rw[seqIndex_neg (by lia) J]at h1;rw[Qb8,<-O];exact Option.some.inj h1
  exact subscriptTail_builtinR (x:=w) pl.isList.typeIs slot_list_getitem.lookup
   (wpAny_getItem_list_neg pl.isList (by lia) (by grind) (by lia) (by grind) ⟨U,fin⟩) F
def Z1:IxR X (Zhd X.K):=by
 intro value g pins s σ H x y v u Q I G F h D;obtain⟨p,xs,i,z,rfl,rfl,O,J,q⟩:=h;cases G;obtain⟨t,rfl⟩:=F;obtain⟨Y,r,pl,hz⟩:=I.tuple O;obtain⟨j,h1,h2,h3,Z,h5⟩:=gy J;obtain⟨w,ew,C⟩:=r.get h2;have hl:=r.length;have hn:=zv;have fin:EP X pins σ Q w s:=⟨z,H,I,C,q⟩;exact subscriptTail_builtinR pl.typeIs slot_tuple_getitem.lookup
  (getItem_tuple (j:=j) pl (by lia) (by lia) (by grind) (by grind) ⟨U,fin⟩) D
def Zd7:IxR X rIxS:=by
 intro value g pins s σ H x y v u Q I O J h F;obtain⟨z,i,c,rfl,rfl,hz,Y,q⟩:=h;obtain⟨t,rfl⟩:=O;obtain⟨t',rfl⟩:=J;obtain⟨j,h1,h2,h3,C,G⟩:=gy Y;have D:z.cps.toList.length=z.length:=by simp[Str.length]
 rw[D]at h1 C G;have Z:=zv;exact tail_any (typeIs_str s z t) slot_str_getitem.lookup (getItem_str (c:=c) (by
  grind) (by rw[h1];simpa using h2) ⟨.str ⟨#[c]⟩,H,I.tok _,⟨_,U⟩,q⟩) F
def k7(lo hi:Option Int)(n:Nat):(sliceBounds lo hi none n).1=((HT.sIx n 0 lo:Nat):Int)/\(sliceBounds lo hi none n).2.1=((HT.sIx n n hi:Nat):Int)/\(sliceBounds lo hi none n).2.2=1:=by
 refine⟨?_,?_,U⟩
 .cases lo with
  |none=>simp[sliceBounds,HT.sIx]
  |some i=>
   simp[sliceBounds,HT.sIx,if_true]
   by_cases h:i<0
   .skip<;>lia
   .skip<;>lia
 .cases hi with
  |none=>simp[sliceBounds,HT.sIx]
  |some i=>
   simp[sliceBounds,HT.sIx,Option.getD_none,if_true]
   by_cases h:i<0
   .skip<;>lia
   .skip<;>lia
def yW(g:Ag)(lo hi:Option Int):slicePick g.toArray lo hi none=((g.drop (HT.sIx g.length 0 lo)).take (HT.sIx g.length g.length hi-HT.sIx g.length 0 lo)).toArray:=by
 obtain⟨h1,h2,q⟩:=k7 lo hi _;unfold slicePick;rw[h1,h2,q];simp only[sliceRange_one,pick_run]<;>rfl
inductive Zj6(K:Af)(x:V)(lo:Option Int)(hi:Option Int)(H:Hp)(Q:VK):Prop
 |mk (a xs:_):(x=.ref a)->(SqL K H a xs)->(∀p,H p=none->Q (.ref p) (upd H p (.lst (qK xs lo hi))))->Zj6 K x lo hi H Q
def rSlL(K:Af):V->Option Int->Option Int->Hp->VK->Prop:=λx lo hi H Q=>Zj6 K x lo hi H Q
def Xx:SlR X (rSlL X.K):=by
 intro pins s σ H x v Z vu lo hi Y Q I J G pl O h;obtain⟨a,xs,rfl,F,q⟩:=h;cases J;obtain⟨D,r,C,hz⟩:=I.list F;have g:=r.length;refine⟨"list",_,slot_list_getitem.lookup,C.isList.typeIs,?_⟩;refine wpAny_getItem_list_slice C.isList G pl O .none (by simp) ?_ (by grind);rw[yW,<-g];refine⟨.ref _,_,I.laid (λb ob q=>Qab _ q) (Qai _) ?_,U,q _ (I.hok.fresh (Qai _))⟩;exact⟨Qaz (WA xs lo hi) hz,_,0,(r.drop _).take _,Qao _ U⟩
def Wm:V->Bool
 |.non=>true
 |.bl _=>true
 |.int _=>true
 |.str _=>true
 |_=>false
def eqV:V->V->Bool
 |.non,.non=>true
 |.bl a,.bl b=>a == b
 |.bl a,.int b=>(if a then 1 else 0) == b
 |.int a,.bl b=>a == (if b then 1 else 0)
 |.int a,.int b=>a == b
 |.str a,.str b=>a == b
 |_,_=>false
def Zd8{A:Ao}{x:V}{u:As}(q:RelV y u)(g:RelV x v)(C:Wm y=true)(fx:Wm x=true):SeqAt.EqAt A s u v (eqV y x):=by
 cases y with
 |non=>
  cases q;cases x with
  |non=>cases g;exact Qga _
  |bl b=>cases g;exact SeqAt.EqAt.none_bool b
  |int b=>obtain⟨t,rfl⟩:=g;exact SeqAt.EqAt.none_int b t
  |str b=>obtain⟨t,rfl⟩:=g;exact SeqAt.EqAt.none_str b t
  |_=>exact absurd (show false=true from fx) Qbf
 |bl a=>
  cases q;cases x with
  |non=>cases g;exact SeqAt.EqAt.bool_none a
  |bl b=>cases g;exact SeqAt.EqAt.bool_bool a b
  |int b=>obtain⟨t,rfl⟩:=g;exact SeqAt.EqAt.bool_int a b t
  |str b=>obtain⟨t,rfl⟩:=g;exact SeqAt.EqAt.bool_str a b t
  |_=>exact absurd (show false=true from fx) Qbf
 |int a=>
  obtain⟨t',rfl⟩:=q;cases x with
  |non=>cases g;exact SeqAt.EqAt.int_none a t'
  |bl b=>cases g;exact SeqAt.EqAt.int_bool a t' b
  |int b=>obtain⟨t,rfl⟩:=g;exact SeqAt.EqAt.int_int a t' b t
  |str b=>obtain⟨t,rfl⟩:=g;exact SeqAt.EqAt.int_str a t' b t
  |_=>exact absurd (show false=true from fx) Qbf
 |str a=>
  obtain⟨t',rfl⟩:=q;cases x with
  |non=>cases g;exact SeqAt.EqAt.str_none a t'
  |bl b=>cases g;exact SeqAt.EqAt.str_bool a t' b
  |int b=>obtain⟨t,rfl⟩:=g;exact SeqAt.EqAt.str_int a t' b t
  |str b=>obtain⟨t,rfl⟩:=g;exact SeqAt.EqAt.str_str a t' b t
  |_=>exact absurd (show false=true from fx) Qbf
 |_=>exact absurd (show false=true from C) Qbf
def eqU(x:V)(u:As):Bool:=match u with
 |.none=>eqV .non x
 |.bool b=>eqV (.bl b) x
 |.int i _=>eqV (.int i) x
 |.str z _=>eqV (.str z) x
 |_=>false
def Zj7{x:V}{u:As}(r:RelV y u)(f:Wm y=true):eqU x u=eqV y x:=by
 cases y with
 |non=>cases r;rfl
 |bl b=>cases r;rfl
 |int i=>obtain⟨t,rfl⟩:=r;rfl
 |str z=>obtain⟨t,rfl⟩:=r;rfl
 |_=>exact absurd (f) Qbf
theorem gz{x:V}:∀{xs:A0} {g:Ag},Vals xs g->xs.all Wm=true->g.any (eqU x)=xs.any λy=>eqV y x
 |_,_,.nil,_=>rfl
 |y::xs,u::g,.cons r t,f=>by
  rw[Qdw,Qce]at f;rw[Qf5,Qf5,Zj7 r f.1,gz t f.2]
theorem yX{A:Ao}{s:Aq}{x:V}{v:As}(C:RelV x v)(fx:Wm x=true):∀{xs:A0} {q:Ag},Vals xs q->xs.all Wm=true->∀u∈q,SeqAt.EqAt A s u v (eqU x u)
 |_,_,.nil,_=>λu g=>by cases g
 |y::xs,u::q,.cons r t,f=>λD g=>by
  rw[Qdw,Qce]at f;rcases Qaw.mp g with rfl|g
  .rw[Zj7 r f.1];exact Zd8 r C f.1 fx
  .exact yX C fx t f.2 D g
def inV(x:V)(xs:A0):Bool:=xs.any λy=>eqV y x
inductive Zo7(K:Af)(neg:Bool)(x:V)(y:V)(H:Hp)(Q:VK):Prop
 |mk (p xs:_):(y=.ref p)->((SqL K H p xs\/SqT K H p xs))->(Wm x=true)->(xs.all Wm=true)->(Q (.bl (if neg then !inV x xs else inV x xs)) H)->Zo7 K neg x y H Q
def rIn(K:Af)(neg:Bool):R2:=λx y H Q=>Zo7 K neg x y H Q
def Ye:OpR X (compareOp .In) (rIn X.K false):=by
 intro pins s σ H x y v u Q I D F h;obtain⟨p,xs,rfl,C,fx,fs,q⟩:=h;cases F;rcases C with C|C
 .obtain⟨g,r,pl,hz⟩:=I.list C;refine SeqAt.in_listAt _ pl.isList (λw hw=>yX D fx r fs w (by grind)) ⟨.bl _,H,I,U,?_⟩;rw[show g.toArray.any _=g.any (eqU x) by simp,gz r fs];exact q
 .obtain⟨g,r,pl,hz⟩:=I.tuple C;refine SeqAt.in_tupleAt _ pl (λw hw=>yX D fx r fs w (by grind)) ⟨.bl _,H,I,U,?_⟩;rw[show g.toArray.any _=g.any (eqU x) by simp,gz r fs];exact q
def Zt:Xr X (.builtin "len") (λxs H Q=>∃p ys,xs=[.ref p]/\(SqL X.K H p ys\/SqT X.K H p ys)/\Q (.int ys.length) H):=by
 intro pins s σ H xs O Q I r h;obtain⟨p,ys,rfl,C,q⟩:=h;obtain⟨u,rfl,G⟩:=vals1 r;cases G;have J:=zv;rcases C with C|C
 .obtain⟨D,F,pl,hz⟩:=I.list C;have g:=F.length;exact Calls.call_len_list pl.isList (by grind) ⟨.int _,H,I.tok _,⟨s.toks+1,by grind⟩,q⟩
 .obtain⟨D,F,pl,hz⟩:=I.tuple C;have g:=F.length;exact len_tuple pl (by grind) ⟨.int _,H,I.tok _,⟨s.toks+1,by grind⟩,q⟩
def xn:Xr X (.builtin "len") (λxs H Q=>∃z,xs=[.str z]/\z.length<=sizeLine/\Q (.int z.length) H):=by
 intro pins s σ H xs g Q I r h;obtain⟨z,rfl,hz,q⟩:=h;obtain⟨u,rfl,t,rfl⟩:=vals1 r;have C:=zv;exact len_str (by lia) ⟨.int _,H,I.tok _,⟨_,U⟩,q⟩
def k9:Xr X (.type "list") (λxs H Q=>∃p ys,xs=[.ref p]/\(SqL X.K H p ys\/SqT X.K H p ys)/\∀l,H l=none->Q (.ref l) (upd H l (.lst ys))):=by
 intro pins s σ H xs us Q I r h;obtain⟨p,ys,rfl,G,q⟩:=h;obtain⟨u,rfl,Z⟩:=vals1 r;cases Z;have fin:∀(g:Ag),Vals ys g->ys.length<=sizeLine->∀(h':Heap)(D:Nat),(∀b o',s.heap.get? b=some o'->h'.get? b=some o')->
   h'.get? _=some _->EP X pins σ Q _ _:=λg C hz h' D kp e=>
  ⟨.ref _,_,I.laid (t':=s.toks) kp (Qai _) (show Xw X.prog X.w _ h' _ (.lst ys)from⟨hz,g,D,C,e⟩),U,q _ (I.hok.fresh (Qai _))⟩
 rcases G with G|G
 .obtain⟨g,C,pl,hz⟩:=I.list G;have F:=C.length;obtain⟨o,Y,J,n,O⟩:=pl.isList;exact call_list_seq p (.inl U) Y J O (λh' D kp e=>fin g C hz h' D kp e) (by grind)
 .obtain⟨g,C,pl,hz⟩:=I.tuple G;have F:=C.length;obtain⟨o,Y,J,n,O⟩:=pl;exact call_list_seq p (.inr U) Y J O (λh' D kp e=>fin g C hz h' D kp e) (by grind)
def Z9:Xr X (.type "tuple") (λxs H Q=>∃p ys,xs=[.ref p]/\((SqL X.K H p ys/\∀l,H l=none->Q (.ref l) (upd H l (.tup ys)))\/(SqT X.K H p ys/\Q (.ref p) H))):=by
 intro pins s σ H xs Y Q I r h;obtain⟨p,ys,rfl,h⟩:=h;obtain⟨u,rfl,O⟩:=vals1 r;cases O;rcases h with⟨D,q⟩|⟨D,q⟩
 .obtain⟨g,C,pl,hz⟩:=I.list D;have G:=C.length;refine call_tuple_list pl.isList (λh' kp=>?_) (by grind);have F:=I.kept (t':=s.toks) kp;have J:=
   F.laid (t':=s.toks) (λb o e=>Qab _ e) (Qai _) (show Xw X.prog X.w _ _ _ (.tup ys)from⟨hz,g,C,gq.new _ _⟩)
  exact⟨.ref _,_,J,U,q _ (F.hok.fresh (Qai _))⟩
 .obtain⟨g,C,pl,hz⟩:=I.tuple D;exact call_tuple_same pl ⟨.ref p,H,I,U,q⟩
def tyV(K:Af)(T:String)(x:V)(H:Hp):Prop:=match x with
 |.str _=>T = "str"
 |.int _=>T = "int"
 |.ref p=>(T = "list" /\ ∃xs,SqL K H p xs)\/(T = "tuple" /\ ∃o,K.lookup p=some o/\o.cls=.type "tuple" /\ o.dict=none) \/
   (T = "dict" /\ ((∃kvs,H p=some (.dK kvs))\/∃kvs,H p=some (.dT kvs)))\/(T = "set" /\ ∃S n,H p=some (.set S n))
 |_=>False
def Zj8{σ:St}{T:String}{x:V}(I:Inv X m σ H s)(r:RelV x v)(ty:tyV X.K T x H):
  s.TypeIs v T/\∀a,v=.ref a->∃ob,s.heap.get? a=some ob/\ob.dict=none:=by
 cases x with
 |str z=>
  obtain⟨t,rfl⟩:=r;cases(ty);exact⟨typeIs_str s z t,λ_ e=>nomatch e⟩
 |int i=>
  obtain⟨t,rfl⟩:=r;cases(ty);exact⟨typeIs_int s i t,λ_ e=>nomatch e⟩
 |ref p=>
  cases r;rcases ty with⟨rfl,xs,F⟩|⟨rfl,o,g,D,q⟩|⟨rfl,g⟩|⟨rfl,S,n,g⟩
  .obtain⟨C,_,pl,_⟩:=I.list F;refine⟨pl.isList.typeIs,λa e=>?_⟩;cases e;obtain⟨o,n,e,c,q,_⟩:=pl;exact⟨o,e,q⟩
  .refine⟨⟨o,I.kIn p o g,D⟩,λa e=>?_⟩;cases e;exact⟨o,I.kIn _ o g,q⟩
  .have z:∃o,s.heap.get? p=some o/\o.ExactDict:=by
    rcases g with⟨kvs,g⟩|⟨kvs,g⟩
    .obtain⟨_,_,_,_,o,_,_,e,ex,_⟩:=I.hok p _ g;exact⟨o,e,ex⟩
    .obtain⟨_,_,_,_,o,_,_,e,ex,_⟩:=I.hok p _ g;exact⟨o,e,ex⟩
   obtain⟨o,e,ex⟩:=z;refine⟨⟨o,e,ex.1⟩,λa e2=>?_⟩;cases e2;exact⟨o,e,ex.2.1⟩
  .obtain⟨o,_,_,_,e,ex,_⟩:=I.hok p _ g;refine⟨⟨o,e,ex.1⟩,λa e2=>?_⟩;cases e2;exact⟨o,e,ex.2.1⟩
 |_=>exact False.elim ty
inductive Zj9(K:Af)(T:String)(r:V->List V->Hp->VK->Prop)(Q:VK)(x:V)(H1:Hp):Prop
 |mk  : (tyV K T x H1)->(r x [] H1 Q)->Zj9 K T r Q x H1
def Zp9(K:Af)(T:String)(r:V->List V->Hp->VK->Prop)(to:TE):TE:=λσ H Q=>to σ H λx H1=>Zj9 K T r Q x H1
inductive Zo8(K:Af)(T:String)(r:V->List V->Hp->VK->Prop)(t:TA)(σ:St)(Q:VK)(x:V)(H1:Hp):Prop
 |mk  : (tyV K T x H1)->(t σ H1 λxs H2=>r x xs H2 Q)->Zo8 K T r t σ Q x H1
def tBM(K:Af)(T:String)(r:V->List V->Hp->VK->Prop)(to:TE)(t:TA):TE:=λσ H Q=>to σ H λx H1=>Zo8 K T r t σ Q x H1
variable {o e:Av}{es:Al}{to:TE}{t:TA}{name:Str}{apos cpos:Pos}{T id:String}{r:V->List V->Hp->VK->Prop}
def pe_bm0 (pa:PlainAttrs T) (C:Slot T name id) (D:typeOf (.builtin id)=pure (.type "method_descriptor")) (O:MtR X id r) (Y:PE X o to)
  (q:attributeBase o name X.env (eval o X.env)=eval o X.env:=by rfl) (g:(apos.endLine == cpos.line)=true:=by rfl):PE X (.Call (.Attribute o name apos) [] [] cpos) (Zp9 X.K T r to):=by
 intro pins s σ H Q I h;refine wpAny_Call_method0_late q g (thn (Y pins s σ H _ I h) λv J ⟨x,H1,F,G,ty,Z⟩=>?_);obtain⟨h1,h2⟩:=Zj8 F G ty;exact⟨T,id,pa,C,D,h1,h2,Qfm U (PySem.evalArgs_none (O pins J σ H1 x [] v [] Q F G .nil Z))⟩
def pe_bm (pa:PlainAttrs T) (D:Slot T name id) (G:typeOf (.builtin id)=pure (.type "method_descriptor")) (hm:MtR X id r) (ho:PE X o to) (ha:PA X (e::es) t)
  (C:attributeBase o name X.env (eval o X.env)=eval o X.env:=by rfl)
  (F:((backTo cpos (starEach (e::es) X.env)).all (λx=>!x.1)&&(backToKw cpos (keywordEach [] X.env)).all (λx=>x.1.isSome)
   && decide ((e::es).length+([]:List Keyword).length+(if([]:List Keyword).isEmpty then 0 else 1)<30))=true:=by rfl)
  (q:(apos.endLine == cpos.line)=true:=by rfl) (hs:starEach (e::es) X.env=(false,eval e X.env)::starEach es X.env:=by rfl) (g:(backTo cpos (starEach es X.env)).any (·.1)=false:=by rfl):
  PE X (.Call (.Attribute o name apos) (e::es) [] cpos) (tBM X.K T r to t):=by
 intro pins s σ H Q I h;refine wpAny_Call_method_late C F q U (thn (ho pins s σ H _ I h) λv Z ⟨x,H1,O,Y,ty,q1⟩=>?_);obtain⟨h1,h2⟩:=Zj8 O Y ty;refine⟨T,id,pa,D,G,h1,h2,?_⟩;have J:=ha cpos pins Z σ H1 _ O q1;rw[hs]at J ⊢;refine Qfm (by show(false||(backTo cpos (starEach es X.env)).any (·.1))=false;rw[g]<;>rfl) (Calls.evalArgs_plain ?_);exact thn J λus s2 ⟨vs,H2,I2,r2,q2⟩=>hm pins s2 σ H2 x vs v us Q I2 Y r2 q2
end
def MtM(X:Cx)(id:String)(r:V->List V->Hp->VK->Prop):Prop:=
 ∀(pins:Ac)(s:Aq)(σ:St)(H:Hp)(x:V)(xs:A0)(v:As)(g:Ag)(Q:VK),Inv X pins σ H s->RelV x v->Vals xs g->r x xs H Q->
  A2 X (call (.builtin id) (v::g)) (EP X pins σ Q) X.xe s
theorem Vals.one:∀{x:V} {g:Ag},Vals [x] g->∃u,g=[u]/\RelV x u
 |_,_,.cons r .nil=>⟨_,U,r⟩
theorem Vals.zero:∀{g:Ag},Vals [] g->g=[]
 |_,.nil=>rfl
theorem Vals.dropLast{xs:A0}{g:Ag}(h:Vals xs g):Vals xs.dropLast g.dropLast:=by
 induction h with
 |nil=>exact .nil
 |cons r t C=>
  cases t with
  |nil=>exact .nil
  |cons q t'=>exact .cons r C
theorem Vals.reverse{xs:A0}{g:Ag}(h:Vals xs g):Vals xs.reverse g.reverse:=by
 induction h with
 |nil=>exact .nil
 |cons r t q=>rw[Qdh,Qdh];exact Vals.append q (.cons r .nil)
def erase_last(l:List g):l.eraseIdx (l.length-1)=l.dropLast:=by grind
section
variable {X:Cx}{pins:Ac}{σ:St}{H:Hp}{s:Aq}{l b:Au}{xs ys zs:A0}
def Inv.lset{g:Ag}{f:Ah->Array As}{t':Nat}(I:Inv X pins σ H s)(F:H l=some (.lst xs))
  (e:s.heap.get? l=some {cls:=.type "list",data:=.seq Z.toArray n}) (D:f Z.toArray=g.toArray) (G:Vals ys g) (hz:ys.length<=sizeLine):
  Inv X pins σ (upd H l (.lst ys)) {s with heap:=s.heap.update l (Obj.mapSeq f),toks:=t'}:=by
 have q:=PySem.IsL.update e f;rw[D]at q;refine I.write (by rw[F];exact trivial) (.inl U) (λO u C J=>(Qbu s.heap _ (Qd7 C)).trans J) ⟨_,q⟩ ⟨hz,g,_,G,q⟩
theorem Inv.lnew{t':Nat}(I:Inv X pins σ H s)(g:Vals ys Z)(hz:ys.length<=sizeLine):
  Inv X pins σ (upd H s.heap.objs.size (.lst ys)) {s with heap:=s.heap.push {cls:=.type "list",data:=.seq Z.toArray},toks:=t'}:=
 I.laid (λ_ _ q=>Qab _ q) (Qai _) ⟨hz,Z,0,g,Qao _ U⟩
def Inv.fresh(I:Inv X pins σ H s):H s.heap.objs.size=none:=I.hok.fresh (Qai _)
def Inv.lstM (I:Inv X pins σ H s) (q:H l=some (.lst xs)):xs.length<=sizeLine/\∃(g:Ag)(n:Nat),Vals xs g/\xs.length=g.length/\s.heap.get? l=some {cls:=.type "list",data:=.seq g.toArray n}:=by
 obtain⟨z,g,n,r,e⟩:=I.hok l _ q;exact⟨z,g,n,r,r.length,e⟩
end
inductive kA(x:V)(vs:A0)(H:Hp)(Q:VK):Prop
 |mk (l xs y:_):(x=.ref l)->(vs=[y])->(H l=some (.lst xs))->(xs.length<sizeLine)->(Q .non (upd H l (.lst (xs++[y]))))->kA x vs H Q
def g9  : V->List V->Hp->VK->Prop:=λx vs H Q=>kA x vs H Q
def Z4:MtM X "list.append" g9:=by
 intro pins s σ H x vs v Y Q I J G h;obtain⟨l,xs,y,rfl,rfl,g,hz,q⟩:=h;cases J;obtain⟨u,rfl,D⟩:=G.one;obtain⟨z,C,n,r,O,e⟩:=I.lstM g;refine call_meets F.slot_list_append ⟨_,e,U⟩ F.entry_list_append (F.args_list_append_2 _ _) (PySem.list_append l _ n u (by grind)) ⟨e,?_⟩;refine⟨.non,_,I.lset g e (by simp) (r.append (.cons D .nil)) ?_,U,q⟩;rw[Qaf,List.length_singleton];lia
inductive Zka(x:V)(vs:A0)(H:Hp)(Q:VK):Prop
 |mk (l xs y:_):(x=.ref l)->(vs=[])->(H l=some (.lst xs))->(xs[xs.length-1]?=some y)->(Q y (upd H l (.lst xs.dropLast)))->Zka x vs H Q
def rPop  : V->List V->Hp->VK->Prop:=λx vs H Q=>Zka x vs H Q
def yn:MtM X "list.pop" rPop:=by
 intro pins s σ H x vs v us Q I Z Y h;obtain⟨l,xs,y,rfl,rfl,G,J,q⟩:=h;cases Z;have C:=Y.zero;subst C;obtain⟨z,g,n,r,hl,e⟩:=I.lstM G;obtain⟨u,hu,O⟩:=r.get J;have D:g.toArray[g.toArray.size-1]?=some u:=by
  grind
 refine call_meets F.slot_list_pop ⟨_,e,U⟩ F.entry_list_pop (F.args_list_pop_1 _) (MeetsSeq.list_pop_last l _ n u D (by grind)) ⟨e,?_⟩;refine⟨y,_,I.lset G e ?_ r.dropLast ?_,O,q⟩
 .grind
 .rw[List.length_dropLast];lia
def Zhs:V->List V->Hp->VK->Prop:=λx vs H Q=>∃l xs,x=.ref l/\vs=[]/\H l=some (.lst xs)/\Q .non (upd H l (.lst xs.reverse))
def Zbt:MtM X "list.reverse" Zhs:=by
 intro pins s σ H x vs v Y Q I J G h;obtain⟨l,xs,rfl,rfl,C,q⟩:=h;cases J;have g:=G.zero;subst g;obtain⟨z,D,n,r,O,e⟩:=I.lstM C;refine call_meets F.slot_list_reverse ⟨_,e,U⟩ F.entry_list_reverse (F.args_list_reverse_1 _) (AutoSeq1.list_reverse_list_0 l _ n (by grind)) ⟨e,?_⟩;refine⟨.non,_,I.lset C e (by simp) r.reverse ?_,U,q⟩;rw[Qd3];lia
inductive Zkb(x:V)(y:V)(H:Hp)(Q:VK):Prop
 |mk (l b xs zs:_):(x=.ref l)->(y=.ref b)->(H l=some (.lst xs))->(H b=some (.lst zs))->(xs.length+zs.length<=sizeLine)->(∀p,H p=none->Q (.ref p) (upd H p (.lst (xs++zs))))->Zkb x y H Q
def rCat  : R2:=λx y H Q=>Zkb x y H Q
def kB:OpR X (binaryOp .Add) rCat:=by
 intro pins s σ H x y v u Q I O G h;obtain⟨l,b,xs,zs,rfl,rfl,F,Z,hz,q⟩:=h;cases O;cases G;obtain⟨z,C,n,r,hl,e⟩:=I.lstM F;obtain⟨z2,g,n2,J,D,e2⟩:=I.lstM Z;refine PySem.P.add_list e e2 ?_ (by grind);have Y:C.toArray++g.toArray=(C++g).toArray:=by simp
 rw[Y];exact⟨.ref _,_,I.lnew (r.append J) (by grind),U,q _ I.fresh⟩
end L2
namespace Att
open PySem PySem.W PySem.Calls PyProof.Rows
theorem zw{P:Params}:∀(ns:Ak)(vs:Ag),WellAll P h vs (ns.map WData.int)->IntsAre vs ns:=by
 intro ns
 induction ns with
 |nil=>
  intro vs w;cases w;exact .nil
 |cons n ns g=>
  intro vs w;cases w with
  |cons a b=>
   cases a;exact .cons _ _ (g _ b)
def Zd9{l:OpenLaw}(Q:l.most=some n){P:Params}{args:List WData}
  (g:l.row.toRowW.claim.pre args=true) (G:WellAll P h Z args):
  ∃a vs ns,Z=[Value.ref a]/\args=[WData.list (ns.map WData.int)]/\h.get? a=some {cls:=.type "list",data:=.seq vs.toArray}/\IntsAre vs ns/\ns.length<=n:=by
 have I:=(pre_splitW g).1;have hc:=(pre_splitW g).2;obtain⟨d,r,rfl,h1,h2⟩:=hasAllW_cons I;obtain rfl:=hasAllW_nil h2;obtain⟨xs,rfl,h3⟩:=hasW_list h1;obtain⟨ns,rfl⟩:=items_int h3;have D:ns.length<=n:=by
  have F:=by
   have F:=(holds_andW hc).1;rw[Q]at F;exact F
  have J:=condW_of F (w_not (w_lt w_lit (w_len_list (w_arg U))));refine Qg6 λq=>?_
  first
   |(exact absurd J _)
   |(simp at J;lia)
 cases G with
 |cons O Y=>
  cases Y;cases O with
  |list ho C=>exact⟨_,_,ns,U,U,ho,zw ns _ C,D⟩
theorem Zea(l:OpenLaw)(args:List WData):l.row.toRowW.claim.post args (.bool true) args=true:=
 postW_of
  (by first|rfl|decide|skip)
  (w_eq_bool (w_res U) w_lit) U
def attach_call{l:OpenLaw}{XP:(Ae)->Heap->Prop}{YP:Ar->Heap->Prop}{d:DefRec}
  (hn:l.most=some n) (hdf:d.params.defaults=[])
  (call:∀(w:Ar)(s₀ g:Aq)(mg mb:Ae)(F:Au)(o:Obj)(Z O q:As)(a:Au)(vs:Ag)(ns:Ak),
   Ground P N [] XP w s₀ mg mb g.heap->YP w g.heap->
   g.heap.get? F=some o->o.data=.func (docDef d.name d.params d.body d.scope Z O q)->g.heap.CodeRec O d.name->mg d.name=some (.ref F)->
   g.heap.get? a=some {cls:=.type "list",data:=.seq vs.toArray}->IntsAre vs ns->ns.length<=n->g.gens=#[]->
   codeAny (model l.prog w) callerA (.call (.ref F) ⟨[.ref a],[]⟩) (λr s'=>r=.ok (.ret (.bool true))/\OldK g.heap s'.heap/\s'.os=g.os/\AllBare s'.gens) g):
  WalkO P N XP YP l.row.toRowW d [] (λf vs=>PySem.call f vs):=by
 intro w s₀ g mg mb G Y F o Z O q dV kV ho hd Q hD hmg hg args vals as D hlay hrd hwl hlo;obtain rfl:dV=.none:=Dflts.none hD hdf;obtain rfl:kV=.none:=Dflts.noKw hD;obtain⟨a,vs,ns,rfl,rfl,I,C,J⟩:=Zd9 hn D hwl;refine enter_call (Qew (call w s₀ g mg mb F o Z O q a vs ns G Y ho (fd_plain hd) Q hmg I C J hg) λr s' hq=>?_);obtain⟨rfl,h2,h3,h4⟩:=hq;exact⟨.inl ⟨_,_,[],U,λ_=>U,.bool true,Zea l _,λ_=>⟨List.Pairwise.nil,λ_ hm=>(nomatch hm)⟩⟩,h2,h3,h4⟩
end Att
namespace L2
theorem kC:∀{vs:Ag} {ns:Ak},IntsAre vs ns->Vals (ns.map V.int) vs
 |_,_,.nil=>.nil
 |_,_,.cons n t h=>.cons ⟨t,U⟩ (kC h)
def Js(s:Aw):Arguments:=match s with
 |.FunctionDef _ a _ _ _ _ _ _ _ _=>a
 |_=>{posonlyargs:=[],args:=[],vararg:=none,kwonlyargs:=[],kw_defaults:=[],kwarg:=none,defaults:=[]}
def Xy(s:Aw):List Aw:=match s with
 |.FunctionDef _ _ b _ _ _ _ _ _ _=>b
 |_=>[]
def Zk(s:Aw):Scope:=match s with
 |.FunctionDef _ _ _ _ _ _ g _ _ _=>g
 |_=>{kind:=.function,names:=[],isGenerator:=false,isCoroutine:=false}
abbrev CX0:CXT:=λ_ _ _ _ _ _=>False
abbrev E0:XK:=λ_ _ _=>False
def Zeb{X:Cx}:Passes CX0 X E0:=λ_ _ _ _ _ _ _ h=>h.elim
structure Fun(K:Af)(x qual:Str)(st:Aw)(f:Au)(fd:Am):Prop where
 ex:∃(oc:As)(od:Option Au)(kV doc pm:As)(an:Option Au)(cdv ct:As)(osl:Array (Option As)),
  fd=PySem.W.fnOf x qual (Js st) (Xy st) (Zk st) .none kV doc pm an cdv ct/\K.lookup f=some ⟨oc,od,.func fd,osl⟩/\PySem.W.codeIn K cdv qual=true
 kp:PySem.W.keepIn K (.ref f)=true
section
variable {P:An}{w:Ar}{K:Af}{mg:Ae}{base:Heap}
theorem Fun.ok{qual:Str}{st:Aw}{fd:Am}{ps:Ai}{k:Nat}{sp:Sp}(F:Fun K x qual st f fd)(S:Zx N ps (Zk st))(len:∀vs H Q E,sp vs H Q E->vs.length=ps.length)
  (C:∀(g:As)(A:Ao)(outer:List Env)(s:Aq)(H:Hp)(vs:A0)(Q:VK)(E:XK),JS k (A.deeper (envOfC qual (Zk st) s.heap.objs.size f g))->sp vs H Q E->
   ∃t,PSs (Zhc CX0 P w K mg base N qual (Zk st) f g A outer s H E).nox (Xy st) t/\t {nx:=λ_ H'=>Q .non H',rt:=Q} (start N vs) H):Y1 P w K mg base CX0 (k+1) f fd ps sp:=by
 obtain⟨oc,od,kV,I,pm,Z,g,ct,O,rfl,Y,D⟩:=F.ex;refine Zo4 Y D S len λA outer s H vs Q E J G=>?_;obtain⟨t,h,q⟩:=C g A outer s H vs Q E J G;exact⟨t,h.nox,q⟩
def Fun.binds{qual:Str}{st:Aw}{fd:Am}{ps:Ai}(F:Fun K x qual st f fd)
  (h:∀(kV g D:As)(C:Option Au)(q ct:As)(G:Ag),G.length=ps.length->bindArgs (PySem.W.fnOf x qual (Js st) (Xy st) (Zk st) .none kV g D C q ct) ⟨G,[]⟩=pure (ps.zip G)):Binds K fd ps []:=by
 obtain⟨oc,od,kV,g,D,C,q,ct,J,rfl,O,I⟩:=F.ex;exact .all (h kV g D C q ct)
theorem fun_mk{qual:Str}{st:Aw}{od D:Option Au}{C:Array (Option As)}{kV q F g ct:As}(l:K.lookup f=some ⟨v,od,.func (PySem.W.fnOf x qual (Js st) (Xy st) (Zk st) .none kV q F D g ct),C⟩)
  (c:PySem.W.codeIn K g qual=true) (k:PySem.W.keepIn K (.ref f)=true):Fun K x qual st f (PySem.W.fnOf x qual (Js st) (Xy st) (Zk st) .none kV q F D g ct):=⟨⟨v,od,kV,q,F,D,g,ct,C,U,l,c⟩,k⟩
end
def qL{A:Ao}{k:Nat}(g:JS k A):A.units+1<cLine:=Qfd (by lia) g.units
def Zu(h:n<=1000):n<sizeLine:=Qfd h (by decide)
def pv (i:Nat)   (C:X.N[i]?=some x:=by rfl) (D:Vis X.env.scope x:=by first|exact Or.inl U|exact Or.inr (Or.inl U)|exact Or.inr (Or.inr U)) (q:(x == ("__debug__" : Str))=false:=by decide)
  (g:(x == ("__classdict__" : Str))=false:=by decide):PE X (.Name x p) (yT i):=Zjq C D q g
def Yu{A B:Prop}(h:B):if false=true then A else B:=by grind
def YN{A B:Prop}(h:A):if true=true then A else B:=h
def qG{c A B:Prop}[Decidable c](h1:c->A)(h2:¬c->B):if c then A else B:=by grind
def ZD(H H':Hp):Prop:=∀b o,H b=some o->H' b=some o
def ZD.refl(H:Hp):ZD H H:=λ_ _ h=>h
def ZD.trans{H2:Hp}(a:ZD H d)(b:ZD d H2):ZD H H2:=λc o h=>b c o (a c o h)
def ZD.free{H':Hp}(e:ZD H H'){l:Au}(h:H' l=Option.none):H l=Option.none:=by
 cases q:H l with
 |none=>rfl
 |some o=>
  rw[e l o q]at h;cases h
def ZD.seq{H':Hp}{xs:A0}(e:ZD H H')(h:SqL K H a xs):SqL K H' a xs:=by
 rcases h with(h|⟨o,h⟩)|h
 .exact .inl (.inl (e _ _ h))
 .exact .inl (.inr ⟨o,e _ _ h⟩)
 .exact .inr h
def Zl5(i j:Int):Prop:=0<j/\j.natAbs.log2<9000
theorem Yc:OpR X (binaryOp .FloorDiv) (rI Zl5 λi j=>.int (i/j)):=opI λi j _ _ _ _ _ g q=>by
 have h1:(0:Int)<j:=g.1;exact floordiv_int (by lia) (by grind) (.inl (PyProof.noPylong_of_log2 g.2))
def Zl5.of{i j:Int}(h1:0<j)(h2:j<2^250):Zl5 i j:=by
 refine⟨h1,?_⟩;have g:j.natAbs<2^250:=by lia
 have q:j.natAbs≠0:=by lia
 have:=(Nat.log2_lt q).mpr g;lia
def Zl6(i j:Int):Prop:=(i.natAbs<2^250/\j.natAbs<2^250)\/CMul i j
def Zl6.ok{i j:Int}(h:Zl6 i j):IntMulOk i j:=by
 rcases h with⟨h1,h2⟩|h
 .refine IntMulOk.of_bits (Qaz (PyProof.Rows.intBits_le h1) (by decide)) (Qaz (PyProof.Rows.intBits_le h2) (by decide))
 .exact h.ok
def Wf:OpR X (binaryOp .Mult) (rI Zl6 λi j=>.int (i*j)):=opI λ_ _ _ _ _ _ _ g q=>mul_int q g.ok
inductive Zkc(K:Af)(xs:A0)(H:Hp)(Q:VK):Prop
 |mk (x T t b:_):(xs=[x,.ty T])->(Zbq K H x t)->(PySem.W.kitOne K t (.type T)=some b)->(Q (.bl b) H)->Zkc K xs H Q
def rIsi(K:Af):A0->Hp->VK->Prop:=λxs H Q=>Zkc K xs H Q
def YI:Xr X (.builtin "isinstance") (rIsi X.K):=by
 intro pins s σ H xs D Q I r h;obtain⟨x,T,t,b,rfl,ty,e,q⟩:=h;obtain⟨u,C,rfl,g,rt⟩:=vals2 r;cases rt;exact Zdz I g ty e λtk=>⟨.bl b,H,I.tok tk,U,q⟩
def Ya:Av->Bool
 |.Starred _ _=>false
 |_=>true
def Zy{rest:Al}{env:Env}(h:Ya e=true):starEach (e::rest) env=(false,eval e env)::starEach rest env:=by
 cases e<;>first
  |rfl
  |cases h
theorem XF{pos:Pos}{env:Env}:∀{es:Al},es.all Ya=true->(backTo pos (starEach es env)).any (·.1)=false
 |[],_=>rfl
 |e::es,h=>by
  rw[Qdw,Qce]at h;rw[Zy h.1];show(false||(backTo pos _).any _)=false;rw[XF h.2];rfl
theorem all_plain{pos:Pos}{env:Env}:∀{es:Al},es.all Ya=true->(backTo pos (starEach es env)).all (λx=>!x.1)=true
 |[],_=>rfl
 |e::es,h=>by
  rw[Qdw,Qce]at h;rw[Zy h.1];show(true&&(backTo pos _).all _)=true;rw[all_plain h.2];rfl
section
variable {X:Cx}{CX:CXT}{k:Nat}{f C:Au}{fd:Am}{ps:Ai}{sp:Sp}{dvs:A0}{ds:Ag}{E:XK}{x m:Str}{p pos apos:Pos}{e o:Av}{es:Al}{ta te:TE}{t:TA}{id T:String}{r:A0->Hp->VK->Prop}
def pa_c(g:PE X e te)(q:PA X es t)(C:Ya e=true:=by rfl):PA X (e::es) (qJ te t):=Zlz g q (Zy C)
def Zht(F:Y1 X.prog X.w X.K X.mg X.base CX k f fd ps sp)(C:JS k X.A)(D:Gl X x)(G:X.mg x=some (.ref f))(O:PySem.W.keepIn X.K (.ref f)=true)(Q:Binds X.K fd ps ds)(Y:Vals dvs ds)(I:Passes CX X E)
  (J:PA X (e::es) t) (q:(x == ("__debug__" : Str))=false:=by decide) (g:(e::es).all Ya=true:=by rfl):PE X (.Call (.Name x p) (e::es) [] pos) (Zd0 sp dvs E t):=by
 rw[Qdw,Qce]at g;exact Zl1 F C D G O Q Y I J q (Zy g.1) (XF g.2)
def Zec (I:Xr X (.builtin id) r) (C:Gl X x) (D:X.mg x=none) (J:bootBuiltins x=some (.builtin id)) (F:PA X (e::es) t) (G:x ≠ "__name__" :=by decide) (q:(x == ("__debug__" : Str))=false:=by decide)
  (g:(e::es).all Ya=true:=by rfl):PE X (.Call (.Name x p) (e::es) [] pos) (tCB r t):=by
 rw[Qdw,Qce]at g;exact Zhp I C D J F G q (Zy g.1) (XF g.2)
def Zed (I:Xr X (.type T) r) (C:Gl X x) (D:X.mg x=none) (J:bootBuiltins x=some (.type T)) (F:PA X (e::es) t) (G:x ≠ "__name__" :=by decide) (q:(x == ("__debug__" : Str))=false:=by decide)
  (g:(e::es).all Ya=true:=by rfl):PE X (.Call (.Name x p) (e::es) [] pos) (tCB r t):=by
 rw[Qdw,Qce]at g;exact Zd2 I C D J F G q (Zy g.1) (XF g.2)
def Zee {tg a:Av} (C:Gl X "range") (D:X.mg "range" = none) (g:PA X [a] t) (q:Ya a=true:=by rfl):PI X tg (.Call (.Name "range" p) [a] [] pos) (Zlt t):=
 Zdo C D g (by rw[Zy q];rfl)
def pe_bmF {name:Str}   {rm:V->List V->Hp->VK->Prop} (Q:PlainAttrs T) (D:Slot T name id) (F:typeOf (.builtin id)=pure (.type "method_descriptor")) (I:MtR X id rm) (Y:PE X o A) (J:PA X (e::es) t)
  (C:attributeBase o name X.env (eval o X.env)=eval o X.env:=by rfl) (q:(apos.endLine == l.line)=true:=by rfl) (G:(e::es).all Ya=true:=by rfl) (O:(e::es).length<30:=by decide):
  PE X (.Call (.Attribute o name apos) (e::es) [] l) (tBM X.K T rm A t):=by
 have g:=G;rw[Qdw,Qce]at g;refine pe_bm Q D F I Y J C ?_ q (Zy g.1) (XF g.2);rw[all_plain G];exact Qar O
end
def ZR:bootBuiltins "len" = some (.builtin "len"):=by decide +kernel
def ZL:bootBuiltins "isinstance" = some (.builtin "isinstance"):=by decide +kernel
def kD:bootBuiltins "sorted" = some (.builtin "sorted"):=by decide +kernel
def bt_all:bootBuiltins "all" = some (.builtin "all"):=by decide +kernel
def kE:bootBuiltins "int" = some (.type "int"):=by decide +kernel
def Zl7:bootBuiltins "bool" = some (.type "bool"):=by decide +kernel
def Zkd:bootBuiltins "str" = some (.type "str"):=by decide +kernel
def gC:bootBuiltins "list" = some (.type "list"):=by decide +kernel
def ZU:bootBuiltins "tuple" = some (.type "tuple"):=by decide +kernel
def bt_set:bootBuiltins "set" = some (.type "set"):=by decide +kernel
def gD:bootBuiltins "reversed" = some (.type "reversed"):=by decide +kernel
def uZ:bootBuiltins "range" = some (.type "range"):=by decide +kernel
def XG :PySem.W.kitOne K (.type "int") (.type "int")=some true:=by rfl
def kF :PySem.W.kitOne K (.type "int") (.type "bool")=some false:=by with_unfolding_all rfl
def WC :PySem.W.kitOne K (.type "tuple") (.type "tuple")=some true:=by rfl
def YK :PySem.W.kitOne K (.type "str") (.type "int")=some false:=by with_unfolding_all rfl
def G6 :PySem.W.kitOne K (.type "str") (.type "str")=some true:=by rfl
def gE :PySem.W.kitOne K (.type "int") (.type "str")=some false:=by with_unfolding_all rfl
structure QE(X:Cx)(e:Av)(t:TE):Prop where
 out:PE X e t
structure QT(X:Cx)(e:Av)(t:TT):Prop where
 out:PT X e t
structure QW(X:Cx)(e:Av)(t:TT):Prop where
 out:PW X e t
structure QA(X:Cx)(e:Al)(t:TA):Prop where
 out:PA X e t
structure QSs(X:Cx)(e:List Aw)(t:TS):Prop where
 out:PSs X e t
structure QS(X:Cx)(e:Aw)(t:TS):Prop where
 out:PS X e t
structure QG(X:Cx)(e:Av)(t:TG):Prop where
 out:PG X e t
structure QI(X:Cx)(tg e:Av)(t:TI):Prop where
 out:PI X tg e t
structure QO(X:Cx)(e:Option Av)(t:TO):Prop where
 out:PO X e t
def qv {X:Cx} (i:Nat)   (q:X.N[i]?=some x:=by rfl) (D:Vis X.env.scope x:=by first|exact Or.inl U|exact Or.inr (Or.inl U)|exact Or.inr (Or.inr U)) (C:(x == ("__debug__" : Str))=false:=by decide) (g:(x == ("__classdict__" : Str))=false:=by decide):QE X (.Name x p) (yT i):=⟨pv i q D C g⟩
def Ze{X:Cx}{i j pos:_}:QE X (.Constant (.int i) j pos) (tC (.int i)):=⟨pe_int ⟩
def Jo{X:Cx}{b j pos:_}:QE X (.Constant (.bool b) j pos) (tC (.bl b)):=⟨pe_bl ⟩
def yo{X:Cx}{j pos:_}:QE X (.Constant .none j pos) (tC .non):=⟨pe_non ⟩
def Zi{X:Cx}{x j pos:_}:QE X (.Constant (.str x) j pos) (tC (.str x)):=⟨pe_str ⟩
def WD {X:Cx}  {v:V} {u:As}  (q:Gl X x) (C:X.mg x=some u) (r:RelV v u) (g:(x == ("__debug__" : Str))=false:=by decide):QE X (.Name x p) (tC v):=⟨Zll q C r g⟩
def Xz {X:Cx}  {v:V} {u:As}  (g:Gl X x) (q:X.mg x=none) (F:bootBuiltins x=some u) (r:RelV v u) (C:x ≠ "__name__" :=by decide) (D:(x == ("__debug__" : Str))=false:=by decide):QE X (.Name x p) (tC v):=⟨Zlm g q F r C D⟩
def Zj{X:Cx}{a:Av}{b:Av}{op:Operator}{r:R2}(C:OpR X (binaryOp op) r)(g:QE X a A)(q:QE X b M):QE X (.BinOp a op b p) (tOp r A M):=⟨pe_op C g.out q.out⟩
def XH{X:Cx}{a:Av}{op:UnaryOp}{r:V->Hp->VK->Prop}(q:UnR X (unaryOp op) r)(g:QE X a A):QE X (.UnaryOp op a p) (tUn r A):=⟨pe_un q g.out⟩
def Xh{X:Cx}{a:Av}{b:Av}{op:CmpOp}{r:R2}(D:OpR X (compareOp op) r)(q:QE X a A)(C:QE X b M)(g:behindInMarks op b=false):QE X (.Compare a [op] [b] p) (tOp r A M):=⟨Zlw D q.out C.out g⟩
def Zr{X:Cx}{a:Av}{b:Av}{op:CmpOp}{r:R2}(D:OpR X (compareOp op) r)(q:QE X a A)(C:QE X b M)(g:behindInMarks op b=false):QT X (.Compare a [op] [b] p) (Zo3 (tOp r A M)):=⟨Zlx D q.out C.out g⟩
def YE{X:Cx}{t:TE}(h:QE X e t)(q:∀g,isTrue e X.env g=(do let v <-g;standAt e.pos;holding [v] (truthy v)):=by intro _;rfl):QT X e (tB t):=⟨pt_val h.out q⟩
def zx{X:Cx}{a:Av}(g:QT X a D):QW X (.BoolOp .And [a] p) D:=⟨Zln g.out⟩
def GI{X:Cx}{a:Av}(g:QT X a D):QW X (.BoolOp .Or [a] p) D:=⟨pw_or1 g.out⟩
def kG{X:Cx}{a:Av}{b:Av}{tB':TT}{rest:Al}(g:QT X a D)(q:QW X (.BoolOp .And (b::rest) p) tB'):QW X (.BoolOp .And (a::b::rest) p) (tAnd D tB'):=⟨pw_and g.out q.out⟩
def GJ{X:Cx}{a:Av}{b:Av}{tB':TT}{rest:Al}(g:QT X a D)(q:QW X (.BoolOp .Or (b::rest) p) tB'):QW X (.BoolOp .Or (a::b::rest) p) (tOr D tB'):=⟨pw_or g.out q.out⟩
def Gi{X:Cx}{a:Av}(g:QT X a D):QT X (.UnaryOp .Not a p) (tNot D):=⟨pt_not g.out⟩
def kH{X:Cx}{a:Av}{op:_}{t:TE}(h:QE X a t):QE X (.BoolOp op [a] p) t:=⟨pe_one h.out⟩
def Zaa{X:Cx}{a:Av}{b:Av}{rest:Al}(g:QE X a A)(q:QE X (.BoolOp .And (b::rest) p) M):QE X (.BoolOp .And (a::b::rest) p) (Zou A M):=⟨pe_and g.out q.out⟩
def qe_or{X:Cx}{a:Av}{b:Av}{rest:Al}(g:QE X a A)(q:QE X (.BoolOp .Or (b::rest) p) M):QE X (.BoolOp .Or (a::b::rest) p) (tOrV A M):=⟨pe_or g.out q.out⟩
def qe_not{X:Cx}{a:Av}(g:QE X a A):QE X (.UnaryOp .Not a p) (Zov A):=⟨pe_not g.out⟩
def Zw{X:Cx}:QSs X [] Zow:=⟨Zlo ⟩
def Za{X:Cx}{st:Aw}{rest:List Aw}{t:TS}{u:TS}(h1:QS X st t)(h2:QSs X rest u):QSs X (st::rest) (Yt t u):=⟨Zhk h1.out h2.out⟩
def Zf{X:Cx}{st:Aw}{t:TS}(h1:QS X st t):QSs X [st] t:=⟨Zlp h1.out⟩
def ZE{X:Cx}(q:QE X e A)(g:swapsWith e none p.line X.env=pure false:=by rfl):QS X (.Expr e p) (Zde A):=⟨Zlq q.out g⟩
def Zp{X:Cx}(g:QE X e A):QS X (.Return (some e) p) (tRet A):=⟨ps_ret g.out⟩
def ZF{X:Cx}{t:TS}{u:TS}{c:Av}{a b:List Aw}(C:QT X c D)(g:QSs X a t)(q:QSs X b u):QS X (.If c a b p) (tIfS D t u):=⟨ps_if C.out g.out q.out⟩
theorem Zl8{X:Cx}(g:X.N.Nodup)(hi:X.N[i]?=some x)(q:Loc X.env.scope x)(C:X.fn x=true\/X.env.scope.names.lookup x=some .local:=by first|exact .inl U|exact .inr U|assumption):QG X (.Name x p) (GH i):=⟨Zdf g hi q⟩
theorem Y0{X:Cx}(i:Nat)(g:X.N.Nodup)(hi:X.N[i]?=some x:=by exact U)(C:Loc X.env.scope x:=by first|exact .inl U|exact .inr U)(q:X.fn x=true\/X.env.scope.names.lookup x=some .local:=by first|exact .inl U|exact .inr U|assumption):QG X (.Name x p) (GH i):=Zl8 g hi C q
def Zef{X:Cx}{tg:Av}{g:TG}(q:QE X e A)(C:QG X tg g)(D:swapsWithSole [tg] e p.line X.env=pure false:=by rfl)(hw:swappedStores [tg] e X.env=pure none:=by rfl)(h1:(assignEach [tg] X.env).map (·.2)=[assign tg X.env]:=by rfl):QS X (.Assign [tg] e p) (Zhm A g):=⟨ps_asg q.out C.out D hw h1⟩
theorem qs_set{X:Cx}(g:X.N.Nodup)(hi:X.N[i]?=some x)(D:Loc X.env.scope x)(q:QE X e A)(C:swapsWith e (some (.Name x l)) p.line X.env=pure false:=by rfl)(F:X.fn x=true\/X.env.scope.names.lookup x=some .local:=by first|exact .inl U|exact .inr U|assumption):QS X (.Assign [.Name x l] e p) (Zhm A (GH i)):=⟨ps_set g hi D q.out C⟩
theorem Z3{X:Cx}(i:Nat)(g:X.N.Nodup)(q:QE X e A)(hi:X.N[i]?=some x:=by exact U)(F:Loc X.env.scope x:=by first|exact .inl U|exact .inr U)(D:swapsWith e (some (.Name x l)) p.line X.env=pure false:=by rfl)(C:X.fn x=true\/X.env.scope.names.lookup x=some .local:=by first|exact .inl U|exact .inr U|assumption):QS X (.Assign [.Name x l] e p) (Zhm A (GH i)):=qs_set g hi F q D C
def Zab{X:Cx}{c:Av}{body:List Aw}(q:PassesOwn (model X.prog X.w) X.A X.env X.xe)(C:QT X c D)(g:QSs X body B):QS X (.While c body [] p) (Zdi D B):=⟨Zhn q C.out g.out⟩
def Xi{X:Cx}{tg:Av}{l:Av}(g:QE X l A):QI X tg l (Zdl X.K A):=⟨Zls g.out⟩
def Xb{X:Cx}{tg:Av}{l:Av}(g:QE X l A):QI X tg l (iTup X.K A):=⟨pi_tup g.out⟩
def Yh{X:Cx}{tg:Av}{iter:Av}{body:List Aw}{wi:TI}{g:TG}(q:PassesOwn (model X.prog X.w) X.A X.env X.xe)(F:X.calm=true)(hi:QI X tg iter wi)(C:QG X tg g)(D:QSs X body B)(G:∀x,foldedSetIterable iter X.env x=pure x:=by intro _;rfl):QS X (.For tg iter body [] p) (tFor wi g B):=⟨ps_for q F hi.out C.out D.out G⟩
def Zs{X:Cx}{t:TA}{g:_}(h:QA X q t):QE X (.Tuple q g p) (Zoj t):=⟨pe_tup h.out⟩
def Yx{X:Cx}{t:TA}(h:QA X q t):QE X (.List q p) (Zp8 t):=⟨pe_lst h.out⟩
def Zc{X:Cx}:QA X [] Zhb:=⟨pa_nil ⟩
def Zg{X:Cx}{t:TA}(g:QE X e A)(C:QA X q t)(D:Ya e=true:=by rfl):QA X (e::q) (qJ A t):=⟨pa_c g.out C.out D⟩
def GK {X:Cx} {CX:CXT} {k:Nat}  {fd:Am} {ps:Ai} {sp:Sp}   {E:XK}      {t:TA} (F:Y1 X.prog X.w X.K X.mg X.base CX k f fd ps sp) (O:JS k X.A) (C:Gl X x) (D:X.mg x=some (.ref f)) (J:PySem.W.keepIn X.K (.ref f)=true) (Y:Binds X.K fd ps Z) (hd:Vals u Z) (G:Passes CX X E) (I:QA X (e::q) t) (g:(x == ("__debug__" : Str))=false:=by decide) (Q:(e::q).all Ya=true:=by rfl):QE X (.Call (.Name x p) (e::q) [] l) (Zd0 sp u E t):=⟨Zht F O C D J Y hd G I.out g Q⟩
def Zo {X:Cx}      {t:TA} {id:String} {r:A0->Hp->VK->Prop} (J:Xr X (.builtin id) r) (D:Gl X x) (F:X.mg x=none) (O:bootBuiltins x=some (.builtin id)) (G:QA X (e::q) t) (I:x ≠ "__name__" :=by decide) (g:(x == ("__debug__" : Str))=false:=by decide) (C:(e::q).all Ya=true:=by rfl):QE X (.Call (.Name x p) (e::q) [] l) (tCB r t):=⟨Zec J D F O G.out I g C⟩
def ZG {X:Cx}      {t:TA} {T:String} {r:A0->Hp->VK->Prop} (J:Xr X (.type T) r) (D:Gl X x) (F:X.mg x=none) (O:bootBuiltins x=some (.type T)) (G:QA X (e::q) t) (I:x ≠ "__name__" :=by decide) (g:(x == ("__debug__" : Str))=false:=by decide) (C:(e::q).all Ya=true:=by rfl):QE X (.Call (.Name x p) (e::q) [] l) (tCB r t):=⟨Zed J D F O G.out I g C⟩
def YF {X:Cx}   {t:TA} {tg a:Av} (C:Gl X "range") (D:X.mg "range" = none) (g:QA X [a] t) (q:Ya a=true:=by rfl):QI X tg (.Call (.Name "range" p) [a] [] l) (Zlt t):=⟨Zee C D g.out q⟩
def ZP {X:Cx}     {t:TA} {id:String} {T:String} {name:Str}   {rm:V->List V->Hp->VK->Prop} (Q:PlainAttrs T) (D:Slot T name id) (F:typeOf (.builtin id)=pure (.type "method_descriptor")) (I:MtR X id rm) (Y:QE X o A) (J:QA X (e::q) t) (C:attributeBase o name X.env (eval o X.env)=eval o X.env:=by rfl) (g:(p.endLine == l.line)=true:=by rfl) (G:(e::q).all Ya=true:=by rfl) (O:(e::q).length<30:=by decide):QE X (.Call (.Attribute o name p) (e::q) [] l) (tBM X.K T rm A t):=⟨pe_bmF Q D F I Y.out J.out C g G O⟩
def xo {X:Cx}   {name:Str}   {T:String} {id:String} {r:V->List V->Hp->VK->Prop} (G:PlainAttrs T) (C:Slot T name id) (D:typeOf (.builtin id)=pure (.type "method_descriptor")) (F:MtR X id r) (I:QE X o A) (q:attributeBase o name X.env (eval o X.env)=eval o X.env:=by rfl) (g:(p.endLine == l.line)=true:=by rfl):QE X (.Call (.Attribute o name p) [] [] l) (Zp9 X.K T r A):=⟨pe_bm0 G C D F I.out q g⟩
def XI{X:Cx}:QO X none Zd4:=⟨Zl2 ⟩
def Yq{X:Cx}(h:QE X e A):QO X (some e) (Zo5 A):=⟨Zl3 h.out⟩
def Yv{X:Cx}{lo:Option Av}{hi:Option Av}{tl:TO}{th:TO}{r:V->Option Int->Option Int->Hp->VK->Prop}(g:SlR X r)(C:QE X e A)(q:QO X lo tl)(D:QO X hi th):QE X (.Subscript e (.Slice lo hi none l) p) (tSl r A tl th):=⟨Zhr g C.out q.out D.out⟩
def Zv{X:Cx}{a:Av}{b:Av}{r:R2}(g:IxR X r)(q:QE X a A)(C:QE X b M)(D:Zd6 b:=by exactλ_ _=>U):QE X (.Subscript a b p) (tOp r A M):=⟨pe_ix g q.out C.out D⟩
def Zhu{X:Cx}{st:Aw}:QS X st Zjs:=⟨Zhl ⟩
def GL{X:Cx}{t:TT}(h:QW X e t):QT X e t:=⟨h.out.pt⟩
end L2
set_option maxHeartbeats 4000000
namespace L2
def yp(cells:List (Str×Au)):List (Str×NameKind)->List (Str×Au)->List (Str×Au)
 |[],acc=>acc
 |(n,k)::r,acc=>yp cells r (if(k == NameKind.free)=true then(n,(cells.lookup n).getD 0)::acc else acc)
def yq{env:Env}:∀(names:List (Str×NameKind))(acc:List (Str×Au)),(∀y∈names,y.2=.free->∃c,env.cells.lookup y.1=some c)->
  (forIn names acc λ(x:Str×NameKind) (r:List (Str×Au))=>match x with
   | (name,kind)=>if (kind == NameKind.free)=true then do let a <-cellOf env name;pure (ForInStep.yield ((name,a)::r)) else pure (ForInStep.yield r):Sem (List (Str × Au)))=pure (yp env.cells names acc)
 |[],acc,_=>rfl
 |(n,k)::r,acc,h=>by
  rw[List.forIn_cons];have D:=λq=>yq r q λy F=>h y (Qak _ F)
  by_cases C:(k == NameKind.free)=true
  .obtain⟨c,G⟩:=h (n,k) Qam (by grind);have g:=G;have e:cellOf env n=pure c:=by unfold cellOf;rw[g]
   simp only[C,e];rw[yp,Qa9 C,g];exact D _
  .rw[yp];simp only[C];exact D acc
def JT{scope:Scope}{env:Env}(h:∀y∈scope.names,y.2=.free->∃c,env.cells.lookup y.1=some c):closureFor scope env=pure (yp env.cells scope.names []):=by
 have e:=yq _ [] h;show(do let r <-_;pure r)=_;rw[e];rfl
def GN{cells:List (Str×Au)}:∀{names:List (Str×NameKind)} {acc:List (Str×Au)},(∀y∈names,y.2=.free->∃c,cells.lookup y.1=some c)->(∀x c,acc.lookup x=some c->cells.lookup x=some c)->
  ∀x c,(yp cells names acc).lookup x=some c->cells.lookup x=some c
 |[],acc,_,D,x,c,h=>D x c h
 |(n,k)::r,acc,G,D,x,c,h=>by
  refine GN (λy C=>G y (Qak _ C)) (λy d g=>?_) x c h
  by_cases I:(k == NameKind.free)=true
  .rw[Qa9 I]at g;obtain⟨e,J⟩:=G (n,k) Qam (by grind);have q:=J;rw[q,Qdc]at g;cases C:y == n with
   |true=>
    rw[C]at g;have F:y=n:=by grind
    rw[F,q];exact g
   |false=>
    rw[C]at g;exact D y d g
  .grind
theorem kI{cells:List (Str×Au)}:∀{names:List (Str×NameKind)} {acc:List (Str×Au)} {x:Str},(∃c,acc.lookup x=some c)->∃c,(yp cells names acc).lookup x=some c
 |[],acc,x,h=>h
 |(n,k)::r,acc,x,h=>by
  rw[yp];refine kI ?_
  by_cases g:(k == NameKind.free)=true
  .grind
  .rw[Qa6 g];exact h
theorem JU{cells:List (Str×Au)}:∀{names:List (Str×NameKind)} {acc:List (Str×Au)} {x:Str},names.lookup x=some .free->∃c,(yp cells names acc).lookup x=some c
 |[],acc,x,h=>by cases h
 |(n,k)::r,acc,x,h=>by
  rw[yp];rw[Qdc]at h;cases hx:x == n with
  |true=>
   rw[hx]at h;have g:=Option.some.inj h;refine kI ?_;rw[g,Qa9 (by rfl),Qdc,hx];exact⟨_,U⟩
  |false=>
   rw[hx]at h;exact JU h
def xp{scope:Scope}{env:Env}(C:env.scope.kind=.function):∀{names:List (Str×NameKind)} {x:Str},names.lookup x=some .free->env.kindOf x=some .cell->
  (names.map λ(n,k)=>if(k == NameKind.free&&env.scope.kind == .function&&env.kindOf n == some .cell)=true then(n,NameKind.cell)else(n,k)).lookup x=some .cell
 |[],_,h,_=>by cases h
 |(n,k)::r,x,h,D=>by
  rw[Qdc]at h;show List.lookup x ((if(k == NameKind.free&&env.scope.kind == .function&&env.kindOf n == some .cell)=true then(n,NameKind.cell)else(n,k))::_)=_;cases hx:x == n with
  |true=>
   rw[hx]at h;have q:=Option.some.inj h;have g:x=n:=by grind
   rw[q,C,<-g,D];simp
  |false=>
   rw[hx]at h;have F:=xp (scope:=scope) C h D
   by_cases G:(k == NameKind.free&&env.scope.kind == .function&&env.kindOf n == some .cell)=true
   .grind
   .grind
def GO{env:Env}:∀{names:List (Str×NameKind)} {x:Str},names.lookup x=some .free->env.kindOf x=some .free->
  (names.map λ(n,k)=>if(k == NameKind.free&&env.scope.kind == .function&&env.kindOf n == some .cell)=true then(n,NameKind.cell)else(n,k)).lookup x=some .free
 |[],_,h,_=>by cases h
 |(n,k)::r,x,h,C=>by
  rw[Qdc]at h;show List.lookup x ((if(k == NameKind.free&&env.scope.kind == .function&&env.kindOf n == some .cell)=true then(n,NameKind.cell)else(n,k))::_)=_;cases hx:x == n with
  |true=>
   rw[hx]at h;have g:=Option.some.inj h;have q:¬(k == NameKind.free&&env.scope.kind == .function&&env.kindOf n == some .cell)=true:=by grind
   rw[Qa6 q,Qdc,hx,g]
  |false=>
   rw[hx]at h;have D:=GO h C
   by_cases q:(k == NameKind.free&&env.scope.kind == .function&&env.kindOf n == some .cell)=true
   .grind
   .grind
theorem xq{env:Env}:∀{names:List (Str×NameKind)} {x:Str},(∀y∈names,y.2≠.cell)->
    ((names.map λ(n,k)=>if(k == NameKind.free&&env.scope.kind == .function&&env.kindOf n == some .cell)=true then(n,NameKind.cell)else(n,k)).lookup x=some .cell \/
     (names.map λ(n,k)=>if(k == NameKind.free&&env.scope.kind == .function&&env.kindOf n == some .cell)=true then(n,NameKind.cell)else(n,k)).lookup x=some .free)->names.lookup x=some .free
  |[],_,_,h=>by grind
  |(n,k)::r,x,q,h=>by
    have C:=xq (env:=env) (x:=x) λy g=>q y (Qak _ g)
    by_cases D:(k == NameKind.free&&env.scope.kind == .function&&env.kindOf n == some .cell)=true
    . grind
    . grind
def cxC(X:Cx)(N':Ai)(scope:Scope)(C:Au)(s₂:Aq)(H₂:Hp)(ex:List Au):Cx:=
 {X with N:=N',s₀:=s₂,H₀:=H₂,env:=compEnvC scope (yp X.env.cells scope.names []) C X.env,outer:=X.stack,stack:=X.stack,ex:=ex,fn:=λ_=>false,pn:=[],xe:=λ_ _=>False}
def xJ(is:Aj)(σ:St)(v:Option V):St:=v::is.map λi=>(σ[i]?).getD none
def Zo9(xs:Ai)(is:Aj)(σ:St):St:=xs.map (λ_=>none)++is.map λi=>(σ[i]?).getD none
structure Yi(S scope:Scope)(N:Ai)(x:Str)(ys:Ai)(is:Aj):Prop where
 kind:scope.kind=.function:=by rfl
 cell:∀y∈scope.names,y.2≠.cell:=by decide +kernel
 names:∀y∈scope.names,y.2=.local->scope.names.lookup y.1=some .local:=by decide +kernel
 own:scope.names.lookup x=some .local:=by rfl
 free:∀y∈scope.names,y.2=.free->S.names.lookup y.1=some .cell\/S.names.lookup y.1=some .free:=by decide +kernel
 vis:∀p∈ys.zip is,N[p.2]?=some p.1/\scope.names.lookup p.1=some .free:=by decide +kernel
 len:ys.length=is.length:=by rfl
 nd:(x::ys).Nodup:=by decide +kernel
def PF(X:Cx)(ifs:Al)(t:TT):Prop:=
 ∀(pins:Ac)(s:Aq)(σ:St)(H:Hp)(Q:Bool->Hp->Prop),Inv X pins σ H s->t σ H Q->
  A2 X (forIn ifs true λc r=>if r=true then do let ok <-isTrue c X.env (eval c X.env);pure (ForInStep.yield ok)else pure (ForInStep.yield r)) (TP X pins σ Q) X.xe s
structure QF(X:Cx)(ifs:Al)(t:TT):Prop where
 out:PF X ifs t
def Zhv:TT:=λ_ H Q=>Q true H
def XU{X:Cx}:QF X [] Zhv:=⟨λ_ _ _ H _ I h=>wpAny_tests_nil ⟨H,I,h⟩⟩
def yr{X:Cx}{c:Av}{t:TT}(h:QT X c t):QF X [c] t:=⟨λpins s σ H Q I hw=>wpAny_tests_one (h.out pins s σ H Q I hw)⟩
section
variable {X:Cx}{S scope:Scope}{N:Ai}{x:Str}{ys:Ai}{is:Aj}{pins:Ac}{σ:St}{H₂:Hp}{s₂:Aq}{fp:List Au}
theorem Yi.cellOf'(K:Yi S scope N x ys is)(q:X.env.scope=S)(ok:X.Ok):∀y∈scope.names,y.2=.free->∃c,X.env.cells.lookup y.1=some c:=λy g h=>
 ok.has y.1 (by show X.env.scope.names.lookup y.1=_\/X.env.scope.names.lookup y.1=_;rw[q];exact K.free y g h)
theorem Yi.cl(K:Yi S scope N x ys is)(g:X.env.scope=S)(ok:X.Ok):∀y c,(yp X.env.cells scope.names []).lookup y=some c->X.env.cells.lookup y=some c:=
 GN (K.cellOf' g ok) λ_ _ z=>by cases z
theorem Zac{names:List (Str×NameKind)}{y:Str}{k:NameKind}(h:names.lookup y=some k):(y,k)∈names:=by
 induction names with
 |nil=>cases h
 |cons p r g=>
  obtain⟨n,q⟩:=p;rw[Qdc]at h;cases hx:y == n with
  |true=>
   rw[hx]at h;have e1:y=n:=by grind
   have e2:=Option.some.inj h;rw[e1,e2];exact Qam
  |false=>
   rw[hx]at h;exact Qak _ (g h)
theorem Zeg{ns:Ai}(K:Yi S scope N x ys is)(D:X.env.scope=S)(I:Inv X pins σ H₂ s₂)(F:s₂.heap.objs.size<=a)(g:∀b∈fp,xI X pins H₂ b)(C:∀b∈fp,b<s₂.heap.objs.size):(cxC X ns scope a s₂ H₂ fp).Ok where
 mod:=I.ok.mod
 kind:=K.kind
 glob:=I.ok.glob
 blt:=I.ok.blt
 above:=F
 inj:=λy z c h1 h2=>I.ok.inj y z c (K.cl D I.ok y c h1) (K.cl D I.ok z c h2)
 has:=λy G=>JU (xq K.cell G)
 cab:=λy c h=>by cases h
 hd:=I.ok.hd
 frames:=I.ok.frames
 stk:=.inl U
 exf:=λb q=>⟨λe=>absurd (Qbl (C b q) (Qaz F (Qgl (Eq.symm e)))) (Qb0 _),λy c h=>(g b q).2.2.2.2.1 y c (K.cl D I.ok y c h)⟩
 bs:=I.bs
 bsz:=Qaz I.ok.bsz I.sz
 noex:=λb o e q=>by
  rcases(g b q).2.2.2.1 with z|z
  .exact I.ok.noex b o e z
  .exact absurd (Qbl (Qav e) (Qaz I.ok.bsz z)) (Qb0 _)
 exfs:=λb q z=>by
  rcases Qaw.mp (I.stkSub b z)with e|e
  .exact(g b q).2.1 e
  .exact(g b q).2.2.1 e
 funs:=I.stack
 frf:=I.stkFree
def Zl9(xs:Ai)(K:Yi S scope N x ys is)(F:X.env.scope=S)(hN:X.N=N)(hk:S.kind=.function)(I:Inv X pins σ H₂ s₂){g:Heap}{tk:Nat}{Z:Obj}(hC:s₂.heap.objs.size<=a)(hD:s₂.heap.objs.size<=f)(hDC:f≠a)
  (hfp:∀b∈fp,xI X pins H₂ b) (hlt:∀b∈fp,b<s₂.heap.objs.size) (q:∀b o,s₂.heap.get? b=some o->g.get? b=some o) (hn:g.Ns a λ_=>none) (O:g.get? f=some Z) (hod:∀v,Z.data≠.cell v):
  Inv (cxC X (xs++ys) scope a s₂ H₂ fp) [(f,Z)] (Zo9 xs is σ) H₂ {s₂ with heap:=g,toks:=tk}:=by
 have ok:=Zeg (ns:=xs++ys) K F I hC hfp hlt;refine⟨ok,U,I.bare,Un.kept q,⟨_,hn,λi y v h1 h2 h3=>?_⟩,λy c h=>?_,I.hok.fresh hC,λy c h=>I.freeC y c (K.cl F I.ok y c h),λp hp=>?_,I.hok.kept q,?_⟩
 .unfold Zo9 at h2
  by_cases hi:i<xs.length
  .grind
  .have C:(xs++ys)[i]?=some y:=h1;rw[Qa0 (Qg6 hi)]at C;rw[Qa0 (by rw[Qac];exact Qg6 hi),Qac]at h2;generalize i-xs.length=i at C h2;have D:=h2;rw[Qal]at D;cases hj:is[i]? with
   |none=>rw[hj]at D;cases D
   |some j=>
    have hσ:σ[j]?=some (some v):=by
     grind
    have hz:(y,j)∈ys.zip is:=by
     obtain⟨a1,e1⟩:=Qah.mp C;obtain⟨a2,e2⟩:=Qah.mp hj;rw[<-e1,<-e2,<-Qg7 (h:=by rw[Qcu];lia)];exact Qck _
    obtain⟨v1,Y⟩:=K.vis _ hz;have G:X.env.kindOf y=some .cell\/X.env.kindOf y=some .free:=by show X.env.scope.names.lookup y=_\/X.env.scope.names.lookup y=_;rw[F];exact K.free _ (Zac Y) U
    obtain⟨m,hm,hl⟩:=I.loc;obtain⟨u,r,l⟩:=hl j y v (by rw[hN];exact v1) hσ (.inr G);refine⟨u,r,.inr ?_⟩;rcases l with⟨l1,_⟩|⟨_,c,l2,l3⟩
    .rcases G with G|G<;>rw[G]at l1<;>cases l1
    .obtain⟨c',J⟩:=JU (cells:=X.env.cells) (acc:=[]) Y;have e:c'=c:=by have:=K.cl F I.ok y c' J;rw[l2]at this;exact(Option.some.inj this).symm
     subst e;refine⟨G.imp (xp (scope:=scope) (by rw[F];exact hk) Y) (GO Y),c',J,?_⟩;obtain⟨o,Q,hd⟩:=l3;exact⟨o,q _ _ Q,hd⟩
 .obtain⟨v,o,Q,hd⟩:=I.cell y c (K.cl F I.ok y c h);exact⟨v,o,q _ _ Q,hd⟩
 .have e:p=(f,Z):=by simpa[cxC]using hp
  subst e;refine⟨O,I.hok.fresh hD,hDC,λz=>?_,hod⟩;obtain⟨_,o,Q,_⟩:=ok.funs.mem z;exact absurd (Qbl (Qav Q) hD) (Qb0 _)
 .show(Zo9 xs is σ).length=(xs++ys).length;unfold Zo9;rw[Qaf,Qac,Qac,Qaf,K.len]
def Zma(C:Inv X pins σ H₂ s₂){N':Ai}{O:St}{H':Hp}{pl:Ac}(G:Inv (cxC X N' scope a s₂ H₂ fp) pl O H' s)(Q:s₂.heap.objs.size<=f)(F:H' f=none)
  (g:∀b∈fp,xI X pins H₂ b)    (hz:I.length<=sizeLine) (r:Vals I Z) (hd:s.heap.get? f=some {cls:=.type "list",data:=.seq Z.toArray n}):
  Inv X pins σ (upd H' f (.lst I)) s:=by
 have b:=G.base;have ne:∀c o,s₂.heap.get? c=some o->c≠f:=λc o e z=>absurd (Qbl (Qav e) (Qaz Q (Qgl (Eq.symm z)))) (Qb0 _);have J:=C.hok.fresh Q;refine C.call' G.os ⟨b.keep,b.slot,λc o e n Y=>?_,b.there,λc xs e=>?_,λc o u e=>?_,λc ps e=>?_⟩ (λc u e=>?_) G.bare λc D=>⟨(g c D).2.2.2.1,(g c D).2.1,(g c D).2.2.2.2.1,(g c D).2.2.2.2.2⟩
 .rw[Zm (ne c o e)];exact b.free c o e n Y
 .rw[Zm (Zq e J)];exact b.tups c xs e
 .rw[Zm (Zq e J)];exact b.frzs c o u e
 .rw[Zm (Zq e J)];exact b.tbls c ps e
 .by_cases D:c=f
  .subst D;rw[Zb]at e;cases e;exact⟨hz,Z,n,r,hd⟩
  .rw[Zm D]at e;exact(G.hok c u e).stay (λ_ _ _ q=>q) (λd q=>by rw[Zm (Zq q F)];exact q) λd xs q=>by rw[Zm (Zq q F)];exact q
end
section
variable {prog:An}{w:Ar}{A:Ao}{R:Result->Shared->Prop}{s:Aq}
def Zeh{g iter:Av}{scope:Scope}{it acc:As}{env:Env}(I:Nat->Shared->Prop)
  (turn:∀n s,I n s->A1 prog w A (pyNext it) (λr C=>match r with
   |none=>R (.ok .next) C
   |some v=>A1 prog w A (letOwnedTupleGo g it v) (λ_ F=>A1 prog w A (assign g env v) (λ_ s₂=>
     A1 prog w A (forIn q true λc r=>if r=true then do let ok <-isTrue c env (eval c env);pure (ForInStep.yield ok)else pure (ForInStep.yield r)) (λok D=>
      if ok=true then A1 prog w A (eval o env) (λx O=>
       A1 prog w A (call (.builtin "list.append") [acc,x]) (λ_ Q=>∃m,m<n/\I m Q) (λ_ _=>False) O) (λ_ _=>False) D
      else∃m,m<n/\I m D) (λ_ _=>False) s₂) (λ_ _=>False) F) (λ_ _=>False) C) (λ_ _=>False) s)
  (n:Nat) (h:I n s):
  codeAny (model prog w) A (.compLoop (.ListComp o [⟨g,iter,q,0⟩] scope p) 0 it acc env) R s:=by
 refine codeAny_loop U I (λn s hI=>?_) n h;refine wpAny_noted ?_;have Z:∀{E:Ab} (e:As) (s':Aq),False->E e s':=λ_ _ z=>z.elim;refine Qaa (wpAny_standAt (Qaa (Qdb (turn n s hI) (λr C G=>?_) Z)));cases r with
 |none=>exact Qae G
 |some v=>
  refine Qaa (Qdb G (λ_ F Y=>?_) Z);refine Qaa (Qdb Y (λ_ s₂ h₂=>Qaa (Qdb h₂ (λok D J=>?_) Z)) Z);cases ok with
  |false=>exact Qae ⟨U,J⟩
  |true=>
   exact Qaa (Qaa (Qdb J (λx O h₄=>Qaa (Qdb h₄ (λ_ Q h₅=>Qae (Qae ⟨U,h₅⟩)) Z)) Z))
end
def Zad(g:TG)(Sg:St->Prop)(tc:TT)(te:TE)(Q:VK)(J:It)(H1:Hp):Prop:=∃W:Nat->Nat->List V->Hp->Prop,(∃m,W 0 m [] H1)/\∀i m zs H,W i m zs H->
 (J.stop i H/\zs.length<=sizeLine/\∀p,H p=none->Q (.ref p) (upd H p (.lst zs))) \/
 (J.go i H/\zs.length<=sizeLine/\∀x H',J.yld i H x H'->∃q,Sg q/\(∀D,Sg D->g x D H' λF H2=>F=q/\H2=H')/\tc q H' λb H2=>if b=true then te q H2 λy G=>∃C,C<m/\W (i+1) C (zs++[y]) G else∃C,C<m/\W (i+1) C zs H2)
structure Zhw(X:Cx)(S scope:Scope)(N:Ai)(x:Str)(ys:Ai)(is:Aj)(xs:Ai)(tg:Av)(g:TG)(Sg:St->St->Prop):Prop where
 sc:Yi S scope N x ys is
 hX:X.env.scope=S
 hN:X.N=N
 hk:S.kind=.function
 hc:X.calm=true
 pg:∀C s₂ H₂ fp,PG (cxC X (xs++ys) scope C s₂ H₂ fp) tg g
 s0:∀σ,Sg σ (Zo9 xs is σ)
def Gb(is:Aj)(tc:TT)(te:TE)(σ:St)(Q:VK)(J:It)(H1:Hp):Prop:=∃W:Nat->Nat->List V->Hp->Prop,(∃m,W 0 m [] H1)/\∀i m zs H,W i m zs H->
 (J.stop i H/\zs.length<=sizeLine/\∀p,H p=none->Q (.ref p) (upd H p (.lst zs))) \/
 (J.go i H/\zs.length<=sizeLine/\∀x H',J.yld i H x H'->tc (xJ is σ (some x)) H' λb H2=>if b=true then te (xJ is σ (some x)) H2 λy q=>∃g,g<m/\W (i+1) g (zs++[y]) q else∃g,g<m/\W (i+1) g zs H2)
def Zpa(wi:TI)(is:Aj)(tc:TT)(te:TE):TE:=λσ H Q=>wi σ H (Gb is tc te σ Q)
section
variable {X:Cx}{S scope:Scope}{N:Ai}{x:Str}{ys:Ai}{is:Aj}{pins:Ac}{σ:St}{H₂:Hp}{s₂:Aq}{fp:List Au}{elt iter:Av}{px pos:Pos}{ifs:Al}{tc:TT}{te:TE}{xs:Ai}{tg:Av}{g:TG}{Sg:St->St->Prop}{wi:TI}{CW:St->VK->It->Hp->Prop}
def yt{J:It}{it:Au}{tn:Nat->Heap->Prop}{RR:As->Addr->Result->Shared->Prop}{E:Ab}(L:Zhw X S scope N x ys is xs tg g Sg)
  (hf:∀F s₂ H₂ ex,QF (cxC X (xs++ys) scope F s₂ H₂ ex) ifs tc) (he:∀F s₂ H₂ ex,QE (cxC X (xs++ys) scope F s₂ H₂ ex) elt te)
  (I:Inv X pins σ H₂ s₂) (T:Turn X.prog X.w X.K tg J fp it tn) (st:tn 0 s₂.heap) (hfp:∀b∈fp,xI X pins H₂ b)
  (hw:Zad g (Sg σ) tc te C J H₂)
  (fin:∀D F s' H' m',Inv X pins σ H' s'->xI X pins H' F->s'.heap.Ns F m'->C (.ref D) H'->RR (.ref D) F (.ok .next) s'):
  A2 X (newList []) (λacc Y=>A2 X (newFunctionEnv scope X.env.globals (yp X.env.cells scope.names []) [] X.env.qual none .none (some X.env)) (λcenv s₄=>
   codeAny (model X.prog X.w) X.A (.compStart (.ListComp elt [⟨tg,iter,ifs,0⟩] scope pos) 0 (.ref it) acc {cenv with scope:=relabel scope X.env}) (RR acc cenv.locals) s₄) E Y) E s₂:=by
 obtain⟨W,⟨m0,w0⟩,turn⟩:=hw;have K:=L.sc;refine Qbm (wpAny_newFunctionEnv K.cell (by intro y hy;simp at hy) (λh₁ Z Q=>?_) K.kind);generalize hH2:s₂.heap.push {cls:=.type "list",dict:=none,data:=.seq ([]:Ag).toArray}=H2 at Z Q ⊢;have hCs:H2.objs.size=s₂.heap.objs.size+1:=by rw[<-hH2,Qby]
 have hDC:s₂.heap.objs.size≠H2.objs.size:=by rw[hCs];exact Qbc (Qdv _)
 have hC:s₂.heap.objs.size<=H2.objs.size:=by rw[hCs];exact Qd4 _
 have hlt:∀b∈fp,b<s₂.heap.objs.size:=λb O=>by obtain⟨o,e,_⟩:=T.obj 0 _ st b O;exact Qav e
 have old:∀b o,s₂.heap.get? b=some o->h₁.get? b=some o:=λb o e=>Q.extBut b o (by rw[hCs];exact Qbc (Qe3 (Qav e))) (Qab _ (hH2 ▸ Qab _ e));have hacc:h₁.get? s₂.heap.objs.size=some {cls:=.type "list",data:=.seq ([]:Ag).toArray 0}:=Q.extBut _ _ hDC (Qab _ (hH2 ▸ Qao _ U));have st₁:tn 0 h₁:=T.keep _ _ _ st λb _ o e=>old b o e;have fpC:∀{H':Hp} {pl:Ac},(∀p∈pl,∀b∈fp,p.1≠b)->(∀b∈fp,H' b=none)->∀b∈fp,xI (cxC X (xs++ys) scope H2.objs.size s₂ H₂ fp) pl H' b:=λ{H' pl} hpl hn b O=>by
  have ok:=Zeg (ns:=xs++ys) K L.hX I hC hfp hlt;exact⟨hn b O,(ok.exf b O).1,ok.exfs b O,.inl O,(ok.exf b O).2,λp hp=>hpl p hp b O⟩
 have Dfp:∀(o:Obj),∀p∈[(s₂.heap.objs.size,o)],∀b∈fp,p.1≠b:=λo p hp b O e=>by
  grind
 have loop:∀Y:Aq,Y={s₂ with heap:=h₁,toks:=s₂.toks+([]:List (Str×As)).length}->
   codeAny (model X.prog X.w) X.A (.compLoop (.ListComp elt [⟨tg,iter,ifs,0⟩] scope pos) 0 (.ref it) (.ref s₂.heap.objs.size) (compEnvC scope (yp X.env.cells scope.names []) H2.objs.size X.env))
    (RR (.ref s₂.heap.objs.size) H2.objs.size) Y:=by
  rintro Y rfl;have I0:=Zl9 xs K L.hX L.hN L.hk I (tk:=s₂.toks+([]:List (Str×As)).length) hC (Qai _) hDC hfp hlt old Z hacc (λv z=>by cases z);refine Zeh (λn s'=>∃(i:Nat)(σ1:St)(zs:A0)(G:Ag)(k:Nat)(H':Hp),Inv (cxC X (xs++ys) scope H2.objs.size s₂ H₂ fp) [(s₂.heap.objs.size,{cls:=.type "list",data:=.seq G.toArray k})] σ1 H' s'/\Sg σ σ1 /\
   Vals zs G/\tn i s'.heap/\(∀b∈fp,H' b=none)/\W i n zs H') ?_ m0 ⟨0,_,[],[],0,H₂,I0,L.s0 σ,.nil,st₁,λb O=>(hfp b O).1,w0⟩
  rintro n s3 ⟨i,σ1,zs,G,k,H3,I3,sg3,rv,st3,fr3,w3⟩;rcases turn i n zs H3 w3 with⟨stop,hz,q⟩|⟨go,hz,step⟩
  .refine thn (T.done (cxC X (xs++ys) scope H2.objs.size s₂ H₂ fp) U U U L.hc i _ s3 _ H3 _ I3 (fpC (Dfp _) fr3) st3 stop) λr s4 ⟨hr,I4⟩=>?_
   subst hr;have hD4:=I4.pin _ (Qa1 _ (Qau.mpr U));have I5:=Zma I I4 (Qai _) hD4.2.1 hfp hz rv hD4.1;obtain⟨m',hm',_⟩:=I4.loc;refine fin _ _ s4 _ m' I5 ?_ hm' (q _ hD4.2.1);refine I.fpOk hC ?_;rw[Zm (Qd7 hDC)];exact I4.free
  .refine thn (T.item (cxC X (xs++ys) scope H2.objs.size s₂ H₂ fp) U U U L.hc i _ s3 _ H3 _ I3 (fpC (Dfp _) fr3) st3 go) λr s4 ⟨u,hr,h4⟩=>?_
   subst hr;refine thn h4 λ_ s5 ⟨xv,H5,I5,r5,y5,st5,fr5⟩=>?_;have I5':=I5.pinned (fpC (Dfp _) fr5) (T.obj _ _ st5);obtain⟨σx,sgx,gx,stp⟩:=step xv H5 y5;refine thn (L.pg _ _ _ _ _ s5 _ H5 xv u (λσ2 H2=>σ2=σx/\H2=H5) I5' r5 (gx _ sg3)) λ_ s6 ⟨σ6,H6,I6,e6,e6'⟩=>?_;subst e6;subst e6';have back:∀{s7:Aq} {H7:Hp},Inv (cxC X (xs++ys) scope H2.objs.size s₂ H₂ fp) ([(s₂.heap.objs.size,{cls:=.type "list",data:=.seq G.toArray k})]++kr fp s5.heap) (σ6) H7 s7->
     tn (i+1) s7.heap/\(∀b∈fp,H7 b=none)/\s7.heap.get? s₂.heap.objs.size=some {cls:=.type "list",data:=.seq G.toArray k}/\H7 s₂.heap.objs.size=none:=λ{s7 H7} I7=>by
    refine⟨T.keep _ _ _ st5 λb O o e=>(I7.pin (b,o) (Qa1 _ (Qa1 _ (JP O e)))).1,λb O=>?_,?_,?_⟩
    .obtain⟨o,e,d⟩:=T.obj _ _ st5 b O;exact(I7.pin (b,o) (Qa1 _ (Qa1 _ (JP O e)))).2.1
    .exact(I7.pin (s₂.heap.objs.size,{cls:=.type "list",data:=.seq G.toArray k}) (Qa1 _ (Qbs _ (Qau.mpr U)))).1
    .exact(I7.pin (s₂.heap.objs.size,{cls:=.type "list",data:=.seq G.toArray k}) (Qa1 _ (Qbs _ (Qau.mpr U)))).2.1
   refine thn ((hf _ _ _ _).out _ s6 _ H6 _ I6 stp) λb s7 ⟨H7,I7,q7⟩=>?_;cases b with
   |false=>
    have q7':∃m',m'<n/\W (i+1) m' zs H7:=by simpa using q7
    obtain⟨m',hm',w7⟩:=q7';obtain⟨b1,b2,b3,b4⟩:=back I7;exact⟨m',hm',i+1,_,zs,G,k,H7,I7.unpinned,sgx,rv,b1,b2,w7⟩
   |true=>
    have q7':=q7;refine thn ((he _ _ _ _).out _ s7 _ H7 _ I7 q7') λyv s8 ⟨y,H8,I8,r8,m',hm',w8⟩=>?_;obtain⟨b1,b2,b3,b4⟩:=back I8;refine append_at b3 (λh9 sb9 e9=>?_) (by rw[Qb8,<-rv.length];exact hz);have ok:=Zeg (ns:=xs++ys) K L.hX I hC hfp hlt;have I8':Inv (cxC X (xs++ys) scope H2.objs.size s₂ H₂ fp) [] (σ6) H8 s8:=I8.pins_of λp hp=>by cases hp
    have I9:Inv (cxC X (xs++ys) scope H2.objs.size s₂ H₂ fp) [] (σ6) H8 {s8 with heap:=h9}:=I8'.turned (t':=s8.toks) (it:=s₂.heap.objs.size) (λb o O e=>(sb9.2 b O).trans e) b4 hDC (.inr (Qai _))
     (λy c h z=>by
      obtain⟨v,o,ho,_⟩:=I.cell y c (K.cl L.hX I.ok y c h);have:=Qav ho;rw[z]at this;exact Qb0 _ this) (λp hp=>by cases hp)
    refine⟨m',hm',i+1,_,zs++[y],G++[yv],k+1,H8,?_,sgx,rv.append (.cons r8 .nil),T.keep _ _ _ b1 λb O o e=>(sb9.2 b λz=>absurd (hlt b O) (by rw[z];exact Qb0 _)).trans e,b2,w8⟩;refine I9.pins_of λp hp=>?_;have e1:p=(s₂.heap.objs.size,{cls:=.type "list",data:=.seq (G++[yv]).toArray (k+1)}):=by simpa using hp
    subst e1;refine⟨by rw[e9,List.push_toArray],b4,hDC,λz=>?_,λv z=>by cases z⟩;obtain⟨_,o,ho,_⟩:=ok.funs.mem z;exact absurd (Qav ho) (Qb0 _)
 exact codeAny_compStart_list (loop _ U) (T.self _ 0 _ _ _ st₁ (loop _ U))
end
section
variable {X:Cx}{S scope:Scope}{N:Ai}{x:Str}{ys:Ai}{is:Aj}{elt iter:Av}{px pos:Pos}{ifs:Al}{wi:TI}{tc:TT}{te:TE}{xs:Ai}{tg:Av}{g:TG}{Sg:St->St->Prop}{CW:St->VK->It->Hp->Prop}
def Zhx(L:Zhw X S scope N x ys is xs tg g Sg)(cv:∀σ Q J H,CW σ Q J H->Zad g (Sg σ) tc te Q J H)(hi:QI X tg iter wi)(hf:∀C s₂ H₂ ex,QF (cxC X (xs++ys) scope C s₂ H₂ ex) ifs tc)(he:∀C s₂ H₂ ex,QE (cxC X (xs++ys) scope C s₂ H₂ ex) elt te)
  (hs:∀v,foldedSetIterable iter X.env v=pure v:=by intro _;rfl):
  QE X (.ListComp elt [⟨tg,iter,ifs,0⟩] scope pos) (λσ H Q=>wi σ H (CW σ Q)):=by
 refine⟨λpins s σ H Q I h=>?_⟩;refine wpAny_comprehension_free U hs (JT (L.sc.cellOf' L.hX I.ok)) L.sc.kind L.sc.names (thn (hi.out pins s σ H _ I h) λv s1 h1=>thn h1 λitv s2 h2=>?_);obtain⟨it,fp,tn,J,H2,rfl,I2,T,F,Y,w2⟩:=h2;refine yt L hf he I2 T F Y (cv _ _ _ _ w2) ?_;intro D C s' H' Z I' fC G q;obtain⟨f0,f1,f3,f4,f5,f6⟩:=fC;exact⟨Z,G,λh' O=>⟨.ref D,H',I'.turned (λb o hb e=>(O.2 b hb).trans e) f0 f1 f4 f5 f6,U,q⟩⟩
def Zhy{y:Str}{spos:Pos}(G:X.N.Nodup)(hy:X.N[i]?=some y)(hl:X.env.scope.names.lookup y=some .local)(L:Zhw X S scope N x ys is xs tg g Sg)(cv:∀σ Q J H,CW σ Q J H->Zad g (Sg σ) tc te Q J H)(hi:QI X tg iter wi)
  (hf:∀C s₂ H₂ ex,QF (cxC X (xs++ys) scope C s₂ H₂ ex) ifs tc) (he:∀C s₂ H₂ ex,QE (cxC X (xs++ys) scope C s₂ H₂ ex) elt te)
  (hsw:swapsWith (.ListComp elt [⟨tg,iter,ifs,0⟩] scope pos) (some (.Name y l)) spos.line X.env=pure true:=by rfl)
  (hs:∀v,foldedSetIterable iter X.env v=pure v:=by intro _;rfl):
  QS X (.Assign [.Name y l] (.ListComp elt [⟨tg,iter,ifs,0⟩] scope pos) spos) (Zhm (λσ H Q=>wi σ H (CW σ Q)) (GH i)):=by
 refine⟨λpins s σ H D I h=>?_⟩;rw[exec_Assign_Name_used _ _ _ _ hsw];refine Qaa (wpAny_standAt (Qaa ?_));refine Qaa (thn (wpAny_comprehension_free U hs (JT (L.sc.cellOf' L.hX I.ok)) L.sc.kind L.sc.names
  (thn (hi.out pins s σ H _ I h) λv s1 h1=>thn h1 λitv s2 h2=>?_)) λ_ s' hq=>Qae (Qae hq))
 obtain⟨it,fp,tn,J,H2,rfl,I2,T,O,f2,w2⟩:=h2;refine yt L hf he I2 T O f2 (cv _ _ _ _ w2) ?_;intro Dl C s' H' m' I' fC hm' q;obtain⟨f0,f1,f3,f4,f5,f6⟩:=fC;obtain⟨oC,es,ep,hoC,Y,Z⟩:=hm';have Ip:Inv X (pins++[(C,oC)]) σ H' s':=I'.pins_of λp hp=>(Qa7.mp hp).elim (λz=>I'.pin p (Qa1 _ z)) λz=>by
  grind
 refine wpAny_assign_Name (W6 Ip G hy (.inl hl) (v:=.ref Dl) U (λs'' F=>?_) (.inr hl));have hC2:=(F.pin (C,oC) (Qa1 _ (Qa1 _ (Qau.mpr U)))).1;refine⟨m',⟨oC,es,ep,hC2,Y,Z⟩,λh' hs'=>⟨_,H',F.unpinned.turned (t':=s''.toks) (λb o hb e=>(hs'.2 b hb).trans e) f0 f1 f4 f5 f6,q⟩⟩
theorem Zke(K:Yi S scope N x ys is)(F:X.env.scope=S)(q:X.N=N)(C:S.kind=.function)(D:X.calm=true):Zhw X S scope N x ys is [x] (.Name x px) (GH 0) (λσ g=>∃v,g=xJ is σ v):=
 ⟨K,F,q,C,D,λ_ _ _ _=>Zdf K.nd U (.inl (lookup_relabel_local K.own)) (.inr (lookup_relabel_local K.own)),λ_=>⟨none,U⟩⟩
theorem Zpb:∀σ Q J H,Gb is tc te σ Q J H->Zad (GH 0) (λg=>∃v,g=xJ is σ v) tc te Q J H:=λσ Q J H ⟨W,q,t⟩=>
 ⟨W,q,λi m zs H w=>(t i m zs H w).imp_right λz=>⟨z.1,z.2.1,λx H' y=>⟨_,⟨_,U⟩,λg ⟨v,e⟩=>e ▸ ⟨U,U⟩,z.2.2 x H' y⟩⟩⟩
def Y3(K:Yi S scope N x ys is)(hi:QI X (.Name x px) iter wi)(G:∀C s₂ H₂ ex,QF (cxC X (x::ys) scope C s₂ H₂ ex) ifs tc)(D:∀C s₂ H₂ ex,QE (cxC X (x::ys) scope C s₂ H₂ ex) elt te)
  (F:X.calm=true:=by rfl) (J:X.env.scope=S:=by rfl) (g:X.N=N:=by rfl) (q:S.kind=.function:=by rfl) (I:∀v,foldedSetIterable iter X.env v=pure v:=by intro _;rfl):
  QE X (.ListComp elt [⟨.Name x px,iter,ifs,0⟩] scope pos) (Zpa wi is tc te):=
 Zhx (Zke K J g q F) Zpb hi G D I
def gF{y:Str}(g:X.N.Nodup)(D:X.N[i]?=some y)(F:X.env.scope.names.lookup y=some .local)(K:Yi S scope N x ys is)(hi:QI X (.Name x px) iter wi)
  (Y:∀C s₂ H₂ ex,QF (cxC X (x::ys) scope C s₂ H₂ ex) ifs tc) (O:∀C s₂ H₂ ex,QE (cxC X (x::ys) scope C s₂ H₂ ex) elt te)
  (q:swapsWith (.ListComp elt [⟨.Name x px,iter,ifs,0⟩] scope pos) (some (.Name y p)) l.line X.env=pure true:=by rfl)
  (Q:X.calm=true:=by rfl) (Z:X.env.scope=S:=by rfl) (J:X.N=N:=by rfl) (G:S.kind=.function:=by rfl) (I:∀v,foldedSetIterable iter X.env v=pure v:=by intro _;rfl):
  QS X (.Assign [.Name y p] (.ListComp elt [⟨.Name x px,iter,ifs,0⟩] scope pos) l) (Zhm (Zpa wi is tc te) (GH i)):=
 Zhy g D F (Zke K Z J G Q) Zpb hi Y O q I
end
def gG{J:It}{is:Aj}(n:Nat)(g:Nat->List V->Hp->Prop)(Y:g 0 [] H)(I:∀i zs H,g i zs H->zs.length<=sizeLine)
  (O:∀i zs H (R:A0->Hp->Prop),(∀zs H,g (i+1) zs H->R zs H)->i<n->g i zs H->J.go i H/\∀x H',J.yld i H x H'->D (xJ is c (some x)) H' λb H2=>if b=true then A (xJ is c (some x)) H2 λy Q=>R (zs++[y]) Q else R zs H2)
  (Z:∀zs H,g n zs H->J.stop n H/\∀p,H p=none->C (.ref p) (upd H p (.lst zs))):Gb is D A c C J H:=by
 refine⟨λi m zs H=>m=n-i/\i<=n/\g i zs H,⟨n,by simp,Qbj _,Y⟩,?_⟩;rintro i m zs H ⟨rfl,hi,p⟩
 by_cases F:i<n
 .have z:=O i zs H (λzs H=>∃G,G<n-i/\G=n-(i+1)/\i+1<=n/\g _ zs H) (λzs H q=>⟨_,by lia,U,F,q⟩) F p;exact .inr ⟨z.1,I i zs H p,z.2⟩
 .grind
theorem qM{lo:Int}{is:Aj}(g:Nat->List V->Hp->Prop)(J:g 0 [] H)(q:∀i zs H,g i zs H->zs.length<=sizeLine)
  (F:∀i zs H (R:A0->Hp->Prop),(∀zs H,g (i+1) zs H->R zs H)->i<n->g i zs H->D (xJ is c (some (.int (lo+i)))) H λb H2=>if b=true then A (xJ is c (some (.int (lo+i)))) H2 λy I=>R (zs++[y]) I else R zs H2)
  (G:∀zs H,g n zs H->∀p,H p=none->C (.ref p) (upd H p (.lst zs))):
  Gb is D A c C (Itr lo n) H:=
 gG n g J q (λi zs H R k hi p=>⟨hi,λx H' ⟨e,y⟩=>by subst e y;exact F i zs _ R k hi p⟩) λzs H p=>⟨Qai _,G zs H p⟩
theorem JV{xs:A0}{is:Aj}(g:Nat->List V->Hp->Prop)(O:g 0 [] H)(F:∀i zs H,g i zs H->zs.length<=sizeLine)(q:∀i zs H,g i zs H->SqT K H a xs)
  (G:∀i x zs H (R:A0->Hp->Prop),(∀zs H,g (i+1) zs H->R zs H)->xs[i]?=some x->g i zs H->D (xJ is c (some x)) H λb H2=>if b=true then A (xJ is c (some x)) H2 λy J=>R (zs++[y]) J else R zs H2)
  (I:∀zs H,g xs.length zs H->∀p,H p=none->C (.ref p) (upd H p (.lst zs))):
  Gb is D A c C (Itt K a) H:=
 gG _ g O F (λi zs H R k hi p=>⟨⟨xs,xs[i],q i zs H p,Qad hi⟩,λx H' ⟨e,y⟩=>e ▸ G i x zs H R k (y xs (q i zs H p)) p⟩) λzs H p=>⟨⟨xs,q _ zs H p,Qai _⟩,I zs H p⟩
end L2
namespace HT
section
variable {prog:An}{w:Ar}{A:Ao}{E:Ab}{s:Aq}
def adjust_rev(n:Nat):Builtin.Slice.sliceAdjust none none (-1) (n:Int)=((n:Int)-1,-1):=rfl
def Zbu(n:Nat):Builtin.Slice.slicePlaces ((n:Int)-1) (-1) (-1)=n:=by
 unfold Builtin.Slice.slicePlaces;have h1:¬((-1)>0):=by lia
 have e:(- -1)=1:=by decide
 split<;>lia
theorem Zae{α β:Type}{f g:α->Option β}:∀{l:List α},(∀x∈l,f x=g x)->l.filterMap f=l.filterMap g
 |[],_=>rfl
 |x::r,h=>by
  rw[Qen,Qen,h x Qam,Zae λy q=>h y (Qak _ q)]
def Zhz(xs:Ah):((List.range xs.size).filterMap λ(m:Nat)=>xs[((xs.size:Int)-1+(m:Int) * -1).toNat]?).toArray=xs.toList.reverse.toArray:=by
 congr 1;have e:((List.range xs.size).filterMap λ(m:Nat)=>xs[((xs.size:Int)-1+m * -1).toNat]?)=((List.range xs.size).map λk=>xs.size-1-k).filterMap (xs[·]?):=by
  rw[List.filterMap_map];refine Zae λm g=>?_;have e:(xs.size-1+(m:Int) * -1).toNat=xs.size-1-m:=by lia
  rw[e];rfl
 rw[e,PySem.W.krv_range,List.filterMap_reverse,PySem.W.krv_all]
def xK{t:Tok}{Q:Int×Int×Nat->Shared->Prop}(D:s.heap.IsSliceOf a .none .none (.int (-1) t))(h:Q ((n:Int)-1,-1,n) s):
  A1 prog w A (Builtin.Slice.sliceApplied (.ref a) (pure (n:Int))) Q E s:=by
 obtain⟨os,q,C,g⟩:=id D;refine Qaa (Qaa (Qbt q g (x:=.none) U (Qaa (Qbt q g (x:=.none) U (Qaa (Qbt q g (x:=.int (-1) t) U (Qae ?_)))))));refine Qaa (slicePart_int ?_);refine Qaa (Qgp (Qaa (Qgp (Qaa (Qae ?_)))));show wpAny _ _ _ _ _ s;show wpAny _ _ (pure ((n:Int)-1,(-1:Int),Builtin.Slice.slicePlaces ((n:Int)-1) (-1) (-1))) _ _ s;rw[Zbu];exact Qae h
def getItem_tuple_rev{t:Au}{u:Tok}{items:Ah}(q:IsTup s.heap t items)(I:s.heap.IsSliceOf a .none .none (.int (-1) u))
  (h:Q (.ref s.heap.objs.size) {s with heap:=s.heap.push {cls:=.type "tuple",data:=.seq items.toList.reverse.toArray}})
  (hsz:items.size<=sizeLine):A1 prog w A (getItem (.ref t) (.ref a)) Q E s:=by
 have g:=by
  show items.toList.reverse.toArray.size<=sizeLine;rw[Qb8,Qd3,Qb6];exact hsz
 obtain⟨os,D,F,J⟩:=id I;have C:s.TypeIs (.ref a) "slice" :=⟨os,D,F⟩;unfold getItem;try with_reducible refine Qch ?_
 first|refine Qaa (Qae ?_)|skip
 refine Qaa (Qgs q.typeIs (by decide) ?_);refine Qaa (wpAny_callSpecial?_slot q.typeIs Qbg
  (Qbo Qbg q.typeIs Qf9 ?_ (Qgk _ _)))
 show wpAny _ _ (Builtin.Tuple.tupleItemsOf (.ref t) >>= _) _ _ s;refine Qaa (tupleItemsOf_ q ?_);refine Qaa (Qex C ?_);refine Qaa (xK I ?_);have G:¬((((items.size:Int)-1) == 0&&(-1:Int) == 1&&items.size == items.size)=true):=by
  grind
 show wpAny _ _ (if((((items.size:Int)-1) == 0&&(-1:Int) == 1&&items.size == items.size))=true then _ else _) _ _ s;rw[Qa6 G,Zhz]
 first
  |exact Qaa (Qbm (Qae ⟨_,U,Qae h⟩) g)
  |exact Qaa _
  |exact Qaa _
  |exact Qaa _
end
end HT
namespace L2
section
variable {X:Cx}{e st:Av}{te ts:TE}{pos p2:Pos}
def RvR(X:Cx)(r:V->Hp->VK->Prop):Prop:=
 ∀(pins:Ac)(s:Aq)(σ:St)(H:Hp)(x:V)(v:As)(t:Tok)(g:Au)(Q:VK),Inv X pins σ H s->RelV x v->s.heap.IsSliceOf g .none .none (.int (-1) t)->r x H Q->
  ∃T id,typeLookup (.type T) "__getitem__" = pure (some (.builtin id))/\s.TypeIs v T/\A2 X (getItem v (.ref g)) (EP X pins σ Q) X.xe s
def tRv(r:V->Hp->VK->Prop)(te ts:TE):TE:=λσ H Q=>te σ H λx H1=>ts σ H1 λy H2=>y=.int (-1)/\r x H2 Q
def qe_rev{r:V->Hp->VK->Prop}(hr:RvR X r)(he:QE X e te)(g:QE X st ts):QE X (.Subscript e (.Slice none none (some st) p2) pos) (tRv r te ts):=by
 refine⟨λpins s σ H Q I h=>?_⟩;refine Subscript_ (thn (he.out pins s σ H _ I h) λv F ⟨x,H1,I1,r1,Z⟩=>?_);refine wpAny_Slice ?_;refine Qae ?_;refine Qae ?_;refine thn (g.out pins F σ H1 _ I1 Z) λvs C ⟨y,D,Y,O,e3,q3⟩=>?_;subst e3;obtain⟨t,rfl⟩:=O;have I4:Inv X pins σ D {C with heap:=C.heap.push {cls:=.type "slice",data:=.fields #[.none,.none,.int (-1) t]}}:=Y.kept λb ob q=>Qab _ q;obtain⟨T,id,hT,J,G⟩:=hr pins _ σ D x v t _ Q I4 r1 (Heap.IsSliceOf.new ..) q3;exact tail_any J hT G (by with_unfolding_all rfl)
def rRvT(K:Af):V->Hp->VK->Prop:=λx H Q=>∃a xs,x=.ref a/\SqT K H a xs/\∀p,H p=none->Q (.ref p) (upd H p (.tup xs.reverse))
def rv_tup:RvR X (rRvT X.K):=by
 intro pins s σ H x v t O Q I J G h;obtain⟨a,xs,rfl,F,q⟩:=h;cases J;obtain⟨g,r,C,hz⟩:=I.tuple F;have D:g.toArray.size=xs.length:=r.length.symm;refine⟨"tuple",_,Qbg.lookup,C.typeIs,?_⟩;refine HT.getItem_tuple_rev C G ?_ (by lia);refine⟨.ref _,_,I.laid (λb ob q=>Qab _ q) (Qai _) ?_,U,q _ (I.hok.fresh (Qai _))⟩;exact⟨by grind,_,r.reverse,gq.new _ _⟩
end
end L2
namespace RvT
def owner_rev:Manifest.owners.lookup (String.ofList ['d','e','s','r','e','v','e','r'].reverse)=some Manifest.sig_reversed:=by kernel_rfl
theorem slot_next:Slot "reversed" "__next__" "reversed.__next__" :=
 .of (owner:= "reversed") (n:= "__next__") (by kernel_rfl) (by decide +kernel) (by decide +kernel) (by decide +kernel)
  (by first|exact .inl (by decide +kernel)|exact .inr (by decide +kernel)) (by kernel_rfl)
def entry_next:entryFor table "reversed.__next__" = some Builtin.«reversed.__next__»:=entryFor_of_tree (by kernel_rfl)
def args_next (a:As):argsOk "reversed.__next__" ⟨[a],[]⟩:=by
 kernel_rfl
theorem kJ:Slot "reversed" "__iter__" "reversed.__iter__" :=
 .of (owner:= "reversed") (n:= "__iter__") (by kernel_rfl) (by decide +kernel) (by decide +kernel) (by decide +kernel)
  (by first|exact .inl (by decide +kernel)|exact .inr (by decide +kernel)) (by kernel_rfl)
def Zei (a:As):argsOk "reversed.__iter__" ⟨[a],[]⟩:=by
 kernel_rfl
theorem Zbv:entryFor table "reversed.__iter__" = some Builtin.«dict_keyiterator.__iter__» :=
 entryFor_alias (id':= "dict_keyiterator.__iter__") (by kernel_rfl) (by first|rfl|decide +kernel|(unfold String.splitOn;simp +decide [String.splitOnAux])) (by decide +kernel) (by kernel_rfl)
theorem Zej:Slot "reversed" "__init__" "object.__init__" :=
 .of (owner:= "object") (n:= "__init__") (by kernel_rfl) (by decide +kernel) (by decide +kernel) (by decide +kernel)
  (by first|exact .inl (by decide +kernel)|exact .inr (by decide +kernel)) (by kernel_rfl)
theorem called:TypeCalled "reversed" "reversed.__new__" "object.__init__" :=
 ⟨by simp,F.create_reversed,⟨_,_,F.mro_reversed⟩,F.made_reversed,F.plain_reversed_new,F.sub_reversed_self,Zej⟩
def gH:typeLookup (.type "tuple") "__reversed__" = pure none:=by kernel_rfl
def sub_tuple_dict:isSubtype (.type "tuple") (.type "dict")=pure false:=by kernel_rfl
def revObj (t:Au) (i:Int):Obj:={cls:=.type "reversed",data:=.fields #[.ref t,rawInt i]}
def IsRev (h:Heap) (a t:Au) (i:Int):Prop:=∃o,h.get? a=some o/\o.cls=.type "reversed" /\ o.data=.fields #[.ref t,rawInt i]
def IsRev.typeIs  {t:Au} {i:Int} (x:IsRev s.heap a t i):s.TypeIs (.ref a) "reversed" :=let⟨o,ho,hc,_⟩:=x;⟨o,ho,hc⟩
def IsRev.at{h':Heap}{t:Au}{i:Int}(x:IsRev h a t i)(e:∀o,h.get? a=some o->h'.get? a=some o):IsRev h' a t i:=let⟨o,ho,r⟩:=x;⟨o,e _ ho,r⟩
section
variable {prog:An}{w:Ar}{A:Ao}{E:Ab}{s:Aq}
theorem Jt(t:Au)(items:Ah)(hz:items.size<2^63):
  Meets (Builtin.«reversed.__new__» ⟨[.type "reversed",.ref t],[]⟩) (λ_ R s=>IsTup s.heap t items/\∀tk,R (.ok (.ret (.ref s.heap.objs.size))) {s with heap:=s.heap.push (revObj t ((items.size:Int)-1)),toks:=tk}):=
 .of_wp λprog w A R s h=>by
  obtain⟨g,h⟩:=h;refine Qaa (Qc8 (newClass_reversed _) ?_);refine Qaa (Qc8 (a:=()) (by first|rfl|kernel_rfl) ?_);refine Qaa (Qc8 (a:=()) (by first|rfl|kernel_rfl) ?_);refine Qaa (Qdn g.typeIs gH ?_);refine Qaa ?_;refine Qaa (Qdd (T:= "tuple") (b:=false) g.typeIs sub_tuple_dict ?_);refine Qaa (Qdn g.typeIs Qbg.lookup ?_);refine Qae ?_;refine Qaa (len_tuple g (by lia) ?_);refine Qaa (Qc8 (a:=some (items.size:Int)) U ?_);refine Qaa (m:=newObj (.type "reversed") (.fields #[.ref t,rawInt ((items.size:Int)-1)])) (Qbm ?_);exact Qae ⟨_,U,h _⟩
theorem call_rev{t:Au}{items:Ah}(q:IsTup s.heap t items)(hz:items.size<2^63)(h:∀tk,Q (.ref s.heap.objs.size) {s with heap:=s.heap.push (revObj t ((items.size:Int)-1)),toks:=tk}):
  A1 prog w A (call (.type "reversed") [.ref t]) Q E s:=
 Qhd called (by decide) (F.typeCall_reversed_1 _) (F.newCall_reversed_1 _) (λg=>Qf0 g _) F.entry_reversed_new (Jt t items hz)
  ⟨q,λtk=>⟨⟨_,Qao _ U,U⟩,h tk⟩⟩
def next_item{it t:Au}{items:Ah}{x:As}{Q:Aa}(g:IsRev s.heap it t (i:Int))(D:IsTup s.heap t items)(hi:(i:Int)<2^63)(F:items[i]?=some x)(J:t≠it)
  (I:∀h' tk,IsRev h' it t ((i:Int)-1)->Heap.SameBut it s.heap h'->Q (some x) {s with heap:=h',toks:=tk}):A1 prog w A (pyNext (.ref it)) Q E s:=by
 obtain⟨o,C,G,q⟩:=id g;refine Qaa (Qdj (wpAny_callSpecial?_slot (name:=Str.ofString "__next__") g.typeIs slot_next
  (Qbo slot_next g.typeIs entry_next ?_ (args_next _))))
 refine Qaa (Qc8 (a:=(Value.ref it,[])) U ?_);refine Qaa (Qbt C q (x:=.ref t) U ?_);refine Qaa (Qbt C q (x:=rawInt (i:Int)) U ?_);show wpAny _ _ (if(i:Int)<0 then _ else _) _ _ s;refine Qaa (Qdn D.typeIs Qbg.lookup ?_);refine Qaa (Qg0 ?_);have hsz:=(Array.getElem?_eq_some_iff.mp F).1;refine Qaa (Qdj (getItem_tuple (s:={s with toks:=s.toks+1}) (j:=i) D (by lia) hi (by rw[seqIndex_of (by lia) (by lia),Qay]) F ?_));refine Qaa (Qbt (s:={s with toks:=s.toks+1}) C q (x:=rawInt (i:Int)) U ?_);refine Qaa (Qc7 (s:={s with toks:=s.toks+1}) C q (by simp) ?_);refine Qae ⟨x,U,Qae (I _ _ ?_ (Qcb ..))⟩;exact⟨_,Qbi _ C (Qcv (Qbr q _)),(Qe4 ..).trans G,by
  rw[Qbr q];simp⟩
def next_end{it t:Au}{Q:Aa}(hh:A.handled=none)(g:IsRev s.heap it t (-1))
  (G:∀h',(∀b o,b≠it->s.heap.get? b=some o->h'.get? b=some o)->Q none {s with heap:=h'}):A1 prog w A (pyNext (.ref it)) Q E s:=by
 obtain⟨o,C,I,q⟩:=id g;refine Qaa (Qdj (wpAny_callSpecial?_slot (name:=Str.ofString "__next__") g.typeIs slot_next
  (Qbo slot_next g.typeIs entry_next ?_ (args_next _))))
 refine Qaa (Qc8 (a:=(Value.ref it,[])) U ?_);refine Qaa (Qbt C q (x:=.ref t) U ?_);refine Qaa (Qbt C q (x:=rawInt (-1)) U ?_);show wpAny _ _ (if(-1:Int)<0 then _ else _) _ _ s;refine Qaa (Qdu ?_);refine Qaa ?_;refine Qaa (Qc7 C q (by simp) ?_);have D:=Qbi (Obj.mapFields (·.setIfInBounds 1 (rawInt (-1)))) C (Qcv (Qbr q _));refine Qc7 D (Qbr q _) (by simp) ?_
 first
 |show wpAny _ _ (newExc (.type "StopIteration") [] >>= _) _ _ _
 |(refine Qaa ?_)
 refine Qaa ?_;refine Qaa (Qbm ?_ (by size_fits));refine Qaa (m:=firstArgMember _ _) (Qc8 (a:=Value.none) (by first|rfl|(rfl)) ?_);refine Qbm ?_ (by size_fits);refine Qaa (Qg1 ?_)
 first|rw[show A.in1.handled=none from hh]|rw[hh]
 refine Qaa (Qae (Qhj ?_));refine Qaa (Qdd (T:= "StopIteration") (b:=true) ⟨_,Qao _ U,U⟩ Qfr ?_);refine Qae (G _ λb ob F e=>?_);exact Qab _ (Qab _ ((Qbu _ _ (Qd7 F)).trans ((Qbu _ _ (Qd7 F)).trans e)))
def iter_self{it t:Au}{i:Int}(g:IsRev s.heap it t i)(h:Q (.ref it) s):A1 prog w A (pyIter (.ref it)) Q E s:=by
 refine Qfp g.typeIs kJ (Qbo kJ g.typeIs Zbv (Qae ⟨_,U,_,_,g.typeIs,slot_next.lookup,h⟩) (Zei _))
end
end RvT
namespace L2
def Itv(K:Af)(a:Au)(n:Nat):It:=
 ⟨λi H=>∃xs x,SqT K H a xs/\xs.length=n/\xs.reverse[i]?=some x,λi H x H'=>H'=H/\∀xs,SqT K H a xs->xs.reverse[i]?=some x,λi _=>i=n⟩
def Zh0{tg:Av}(a it:Au)(n:Nat)(Z:a≠it):Turn P w K tg (Itv K a n) [it] it (λi h=>RvT.IsRev h it a ((n:Int)-1-(i:Int)))where
 mem:=by simp
 obj:=λi h st b q=>by
  have e:b=it:=by simpa using q
  subst e;obtain⟨o,e,c,d⟩:=st;exact⟨o,e,λv z=>by rw[d]at z;cases z⟩
 keep:=λi h h' st k=>st.at λo e=>k it (by simp) o e
 item:=by
  intro X G hw hK hc i pins s σ H E I C st D;subst G hw hK;obtain⟨xs,x,hq,hn,hx⟩:=D;obtain⟨Y,rv,p,hz⟩:=I.tuple hq;have hi:i<xs.length:=by
   grind
  have F:xs[xs.length-1-i]?=some x:=by grind
  obtain⟨u,hu,ru⟩:=rv.get F;obtain⟨f0,J,f2,f3,Q,O⟩:=C it (by simp);have e0:(n:Int)-1-(i:Int)=((xs.length-1-i:Nat):Int):=by lia
  have hl:=zv;rw[e0]at st;refine RvT.next_item (items:=Y.toArray) (x:=u) st p (by lia) (by simpa using hu) Z λh' tk g sb=>?_;have I1:Inv X pins σ H {s with heap:=h',toks:=tk}:=I.turned (λb o q e=>(sb.2 b q).trans e) f0 J f3 Q O;have e1:((xs.length-1-i:Nat):Int)-1=(n:Int)-1-((i+1:Nat):Int):=by lia
  rw[e1]at g;obtain⟨o,e,c,d⟩:=id g;exact⟨u,U,kq (s:={s with heap:=h',toks:=tk}) e c d (by decide) ⟨x,H,I1,ru,⟨U,λys hy=>by rw[I.tuple_inj hy hq];exact hx⟩,g,λb q=>(C b q).1⟩⟩
 done:=by
  intro X G hw hK hc i pins s σ H E I C st D;subst G hw hK;obtain⟨f0,J,f2,f3,Q,O⟩:=C it (by simp);have hg':i=n:=D;have e0:(n:Int)-1-(i:Int)=-1:=by lia
  rw[e0]at st;exact RvT.next_end (I.ok.hd hc) st λh' eb=>⟨U,I.turned (t':=s.toks) (λb o q e=>eb b o q e) f0 J f3 Q O⟩
 self:=λ_ _ _ _ _ st h=>RvT.iter_self st h
inductive Zkf(K:Af)(R:It->Hp->Prop)(x:V)(H1:Hp):Prop
 |mk (a xs:_):(x=.ref a)->(SqT K H1 a xs)->(R (Itv K a xs.length) H1)->Zkf K R x H1
def iRev(K:Af)(te:TE):TI:=λσ H R=>te σ H λx H1=>Zkf K R x H1
def Zek {X:Cx} {tg:Av}   (Z:Gl X "reversed") (hm:X.mg "reversed" = none) (he:QE X e A) (hp:Ya e=true:=by rfl):QI X tg (.Call (.Name "reversed" p) [e] [] l) (iRev X.K A):=by
 refine⟨λpins s σ H R I h=>?_⟩;have F:starEach [e] X.env=[(false,eval e X.env)]:=by rw[Zy hp];rfl
 refine Call_ (Jr I Z hm gD (Qb5 ?_ F U));rw[F];refine Qcs (thn (he.out pins s σ H _ I h) λu C ⟨x,H1,D,ru,q1⟩=>?_);refine Qd0 ?_;obtain⟨a,xs,rfl,O,q⟩:=q1;cases ru;obtain⟨g,J,pt,hz⟩:=D.tuple O;have hl:=zv;have G:=J.length;refine RvT.call_rev pt (by rw[Qb8];lia) λtk=>?_;have I2:Inv X pins σ H1 {C with heap:=C.heap.push (RvT.revObj a ((g.toArray.size:Int)-1)),toks:=tk}:=D.kept λb o e=>Qab _ e;have Q:(xs.length:Int)-1-((0:Nat):Int)=(g.toArray.size:Int)-1:=by grind
 have st:RvT.IsRev (C.heap.push (RvT.revObj a ((g.toArray.size:Int)-1))) C.heap.objs.size a ((xs.length:Int)-1-((0:Nat):Int)):=by
  rw[Q];exact⟨_,Qao _ U,U,U⟩
 refine RvT.iter_self st ⟨C.heap.objs.size,[C.heap.objs.size],_,_,H1,U,I2,Zh0 a _ xs.length (Qbc pt.lt),st,λb Y=>?_,q⟩;have e:b=C.heap.objs.size:=by simpa using Y
 subst e;exact D.fpOk (Qai _) (D.hok.fresh (Qai _)) |> λf=>f
theorem Zel{xs:A0}{g:TG}(q:Nat->St->Hp->Prop)(J:q 0 c H)(D:∀i c H,i<=xs.length->q i c H->SqT K H a xs)
  (I:∀i x c H,xs.reverse[i]?=some x->q i c H->g x c H λC H2=>B {G with nx:=q (i+1),ct:=q (i+1),bk:=G.nx} C H2) (F:∀c H,q xs.length c H->G.nx c H):
  Zho (Itv K a xs.length) g B G c H:=
 zr _ q J (λi c H hi p=>⟨⟨xs,xs.reverse[i]'(by grind),D i c H (Qax hi) p,U,Qad _⟩,λx H' ⟨e,y⟩=>e ▸ I i x c H (y xs (D i c H (Qax hi) p)) p⟩) λc H p=>⟨U,F c H p⟩
end L2
namespace HT
section
variable {prog:An}{w:Ar}{A:Ao}{E:Ab}{s:Aq}
def getItem_tuple_whole{t:Au}{items:Ah}{vu:As}{lo hi:Option Int}(g:IsTup s.heap t items)(G:s.heap.IsSliceOf a v vu .none)(pl:IsPart v lo)(J:IsPart vu hi)
  (hw:sIx items.size 0 lo=0/\sIx items.size items.size hi=items.size) (h:Q (.ref t) s):A1 prog w A (getItem (.ref t) (.ref a)) Q E s:=by
 obtain⟨os,D,F,I⟩:=id G;have C:s.TypeIs (.ref a) "slice" :=⟨os,D,F⟩;unfold getItem;try with_reducible refine Qch ?_
 first|refine Qaa (Qae ?_)|skip
 refine Qaa (Qgs g.typeIs (by decide) ?_);refine Qaa (wpAny_callSpecial?_slot (name:=Str.ofString "__getitem__") g.typeIs Qbg
  (Qbo Qbg g.typeIs Qf9 ?_ (Qgk _ _)))
 show wpAny _ _ (Builtin.Tuple.tupleItemsOf (.ref t) >>= _) _ _ s;refine Qaa (tupleItemsOf_ g ?_);refine Qaa (Qex C ?_);refine Qaa (Ja G pl J ?_);have q:(((sIx items.size 0 lo:Nat):Int) == 0&&(1:Int) == 1&&(sIx items.size items.size hi-sIx items.size 0 lo) == items.size)=true:=by
  rw[hw.1,hw.2];simp
 show wpAny _ _ (if(((sIx items.size 0 lo:Nat):Int) == 0&&(1:Int) == 1&&(sIx items.size items.size hi-sIx items.size 0 lo) == items.size)=true then _ else _) _ _ s;rw[Qa9 q];refine Qaa (Qaa (Qex g.typeIs (Qae ?_)))
 first
  |exact Qaa _
  |exact Qaa (Qdu (Qae ⟨_,U,Qae h⟩))
  |exact Qaa _
end
end HT
namespace L2
inductive Zkg(K:Af)(x:V)(lo:Option Int)(hi:Option Int)(H:Hp)(Q:VK):Prop
 |mk (a xs:_):(x=.ref a)->(SqT K H a xs)->((HT.sIx xs.length 0 lo=0/\HT.sIx xs.length xs.length hi=xs.length))->(Q (.ref a) H)->Zkg K x lo hi H Q
def rSlW(K:Af):V->Option Int->Option Int->Hp->VK->Prop:=λx lo hi H Q=>Zkg K x lo hi H Q
def Zem:SlR X (rSlW X.K):=by
 intro pins s σ H x v Z vu lo hi Y Q I J G pl O h;obtain⟨a,xs,rfl,F,hw,q⟩:=h;cases J;obtain⟨D,r,g,hz⟩:=I.tuple F;have C:=r.length.symm;refine⟨"tuple",_,Qbg.lookup,g.typeIs,(HT.getItem_tuple_whole g G pl O (by grind) ⟨.ref a,H,I,U,q⟩)⟩
def Zkh:SlR X (λx lo hi H Q=>∃z,x=.str z/\z.length<=sizeLine/\Q (.str (Txt.slice z lo hi)) H):=by
 intro pins s σ H x v Y vu lo hi O Q I J g pl G h;obtain⟨z,rfl,hz,q⟩:=h;obtain⟨t,rfl⟩:=J;refine⟨"str",_,F.slot_str_getitem.lookup,typeIs_str _ _ _,?_⟩;have fin:∀t' k,EP X pins σ Q (.str (Txt.slice z lo hi) t') {s with toks:=k}:=λt' k=>⟨.str _,H,I.tok _,⟨_,U⟩,q⟩;cases pl with
 |none=>
  cases G with
  |none=>exact Qeo (l:=none) (u:=none) (st:=none) g U (Qgb ⟨Qaz (Qft z _ _) hz,fin⟩)
  |int j C=>exact Qeo (l:=none) (u:=some (j,C)) (st:=none) g U (Qgb ⟨Qaz (Qft z _ _) hz,fin⟩)
 |int i D=>
  cases G with
  |none=>exact Qeo (l:=some (i,D)) (u:=none) (st:=none) g U (Qgb ⟨Qaz (Qft z _ _) hz,fin⟩)
  |int j C=>exact Qeo (l:=some (i,D)) (u:=some (j,C)) (st:=none) g U (Qgb ⟨Qaz (Qft z _ _) hz,fin⟩)
theorem qN{ys:Ai}:∀{g:Ag},Vals (ys.map V.str) g->StrsAre g ys:=by
 induction ys with
 |nil=>intro g r;cases r;exact .nil
 |cons n ns q=>
  intro g r;cases r with
  |cons D C=>
   obtain⟨t,e⟩:=D;subst e;exact .cons n t (q C)
def Zmb:MtR X "str.join" (λx vs H Q=>∃(z:Str)(p:Au)(ys:Ai),x=.str z/\vs=[.ref p]/\SqL X.K H p (ys.map V.str)/\(ys.map (·.length)).sum+ys.length*z.length<=16777216/\Q (.str (Txt.join z ys)) H):=by
 intro pins s σ H x vs v Y Q I J F h;obtain⟨z,p,ys,rfl,rfl,O,g,q⟩:=h;obtain⟨t,rfl⟩:=J;obtain⟨u,rfl,D⟩:=vals1 F;cases D;obtain⟨C,G,pl,hz⟩:=I.list O;exact join_list pl.isList (qN G) g λt' k=>⟨.str _,H,I.tok _,⟨_,U⟩,q⟩
theorem GP{xs:A0}{is:Aj}(g:Nat->List V->Hp->Prop)(O:g 0 [] H)(F:∀i zs H,g i zs H->zs.length<=sizeLine)(q:∀i zs H,g i zs H->SqL K H a xs)
  (G:∀i x zs H (R:A0->Hp->Prop),(∀zs H,g (i+1) zs H->R zs H)->xs[i]?=some x->g i zs H->D (xJ is c (some x)) H λb H2=>if b=true then A (xJ is c (some x)) H2 λy J=>R (zs++[y]) J else R zs H2)
  (I:∀zs H,g xs.length zs H->∀p,H p=none->C (.ref p) (upd H p (.lst zs))):
  Gb is D A c C (Itl K a) H:=
 gG _ g O F (λi zs H R k hi p=>⟨⟨xs,xs[i],q i zs H p,Qad hi⟩,λx H' ⟨e,y⟩=>e ▸ G i x zs H R k (y xs (q i zs H p)) p⟩) λzs H p=>⟨⟨xs,q _ zs H p,Qai _⟩,I zs H p⟩
def Its(x:Str):It:=⟨λi _=>i<x.cps.size,λi H v H'=>H'=H/\∃c,x.cps[i]?=some c/\v=.str ⟨#[c]⟩,λi _=>i=x.cps.size⟩
def Zh1    {tg:Av} (it:Au) (x:Str) (t:Tok) (T:String) (hT:T = "str_ascii_iterator" \/ T = "str_iterator"):Turn P w K tg (Its x) [it] it (λi h=>h.IsStrIter it T x t i)where
 mem:=by simp
 obj:=λi h st b g=>by
  have e:b=it:=by simpa using g
  subst e;obtain⟨o,e,c,d⟩:=st;exact⟨o,e,λv z=>by rw[d]at z;cases z⟩
 keep:=λi h h' st k=>let⟨o,ho,r⟩:=st;⟨o,k it (by simp) o ho,r⟩
 item:=by
  intro X hP hw hK G i pins s σ H E I Z st hg;subst hP hw hK;obtain⟨O,D,f2,Y,J,F⟩:=Z it (by simp);rcases hT with rfl|rfl
  .refine(Walks.strAscii (prog:=X.prog) (w:=X.w) (I.ok.hd G) it x t).item i s _ _ hg st λv h' tk hv q kk=>?_
   obtain⟨c,u,C,rfl⟩:=hv;have I1:Inv X pins σ H {s with heap:=h',toks:=tk}:=I.turned (λb o g e=>kk b o (by simpa using g) e) O D Y J F;obtain⟨o,e,cc,d⟩:=id q;exact⟨_,U,kq (s:={s with heap:=h',toks:=tk}) e cc d (by decide) ⟨.str ⟨#[c]⟩,H,I1,⟨_,U⟩,⟨U,c,C,U⟩,q,λb g=>(Z b g).1⟩⟩
  .refine(Walks.strWide (prog:=X.prog) (w:=X.w) (I.ok.hd G) it x t).item i s _ _ hg st λv h' tk hv q kk=>?_
   obtain⟨c,u,C,rfl⟩:=hv;have I1:Inv X pins σ H {s with heap:=h',toks:=tk}:=I.turned (λb o g e=>kk b o (by simpa using g) e) O D Y J F;obtain⟨o,e,cc,d⟩:=id q;exact⟨_,U,kq (s:={s with heap:=h',toks:=tk}) e cc d (by decide) ⟨.str ⟨#[c]⟩,H,I1,⟨_,U⟩,⟨U,c,C,U⟩,q,λb g=>(Z b g).1⟩⟩
 done:=by
  intro X hP hw hK G i pins s σ H E I Z st hg;subst hP hw hK;obtain⟨O,D,f2,Y,J,F⟩:=Z it (by simp);have hg':i=x.cps.size:=hg;subst hg';rcases hT with rfl|rfl
  .exact(Walks.strAscii (prog:=X.prog) (w:=X.w) (I.ok.hd G) it x t).done s _ _ st λh' tk kk=>⟨U,I.turned (t':=tk) (λb o g e=>kk b o (by simpa using g) e) O D Y J F⟩
  .exact(Walks.strWide (prog:=X.prog) (w:=X.w) (I.ok.hd G) it x t).done s _ _ st λh' tk kk=>⟨U,I.turned (t':=tk) (λb o g e=>kk b o (by simpa using g) e) O D Y J F⟩
 self:=λA i s Q E st h=>by
  rcases hT with rfl|rfl
  .exact wpAny_pyIter_striter_ascii st h
  .exact wpAny_pyIter_striter_wide st h
inductive Zki(R:It->Hp->Prop)(v:V)(H1:Hp):Prop
 |mk (x:_):(v=.str x)->(R (Its x) H1)->Zki R v H1
def iStr(te:TE):TI:=λσ H R=>te σ H λv H1=>Zki R v H1
def qi_str{X:Cx}{tg l:Av}(D:QE X l A):QI X tg l (iStr A):=by
 refine⟨λpins s σ H R I h=>?_⟩;refine thn (D.out pins s σ H _ I h) λv g ⟨y,H1,C,J,F⟩=>?_;obtain⟨x,rfl,q⟩:=F;obtain⟨t,rfl⟩:=J;have go:∀(o:Obj)(T:String),(T = "str_ascii_iterator" \/ T = "str_iterator")->(g.heap.push o).IsStrIter g.heap.objs.size T x t 0->PIE X pins σ tg R (.ref g.heap.objs.size) {g with heap:=g.heap.push o}:=λo T G st=>
  ⟨g.heap.objs.size,[g.heap.objs.size],_,_,H1,U,C.kept (t':=g.toks) λb o e=>Qab _ e,Zh1 _ x t T G,st,λb O=>by
   have e:b=g.heap.objs.size:=by simpa using O
   subst e;exact C.fpOk (Qai _) (C.hok.fresh (Qai _)),q⟩
 cases ha:x.cps.all (· < 128)
 .exact wpAny_pyIter_wide ha (go _ "str_iterator" (.inr U) ⟨_,Qao _ U,U,U⟩)
 .exact wpAny_pyIter_ascii ha (go _ "str_ascii_iterator" (.inl U) ⟨_,Qao _ U,U,U⟩)
def Zen (hc:X.calm=true):Xr X (.builtin "all") (λxs H Q=>∃(p:Au)(bs:List Bool),xs=[.ref p]/\SqL X.K H p (bs.map V.bl)/\Q (.bl (bs.all id)) H):=by
 intro pins s σ H xs us Q I r h;obtain⟨p,bs,rfl,hq,q⟩:=h;obtain⟨u,rfl,rx⟩:=vals1 r;cases rx;obtain⟨C,Z,pl,hz⟩:=I.list hq;have J:=pl.isList;have O:p<s.heap.objs.size:=by obtain⟨_,e,_⟩:=J;exact Qav e
 have g:=Z.length;rw[Qac]at g;refine call_all_walk (Qe2 J ?_);refine⟨s.heap.objs.size,_,_,C.toArray.size,_,_,λi=>(bs[i]?).getD true,U,Walks.list (A:=X.A.in1) (I.ok.hd hc) _ p (Qbc O) C.toArray,
  ⟨⟨_,Qao _ U,U,U⟩,J.push _⟩,λi v s' Q' E' hP Y=>?_,λh' tk hk=>?_⟩
 .have hi:=by simpa using hP
  have F:i<bs.length:=by grind
  obtain⟨w',e1,e2⟩:=Z.get (by rw[Qal,Qad F];rfl);rw[hi]at e1;cases e1;cases e2;simp only[Qad F]at Y;exact Qc5 Y
 .have e:((List.range C.toArray.size).all λi=>(bs[i]?).getD true)=bs.all id:=by
   rw[Qb8,<-g,Qd2,Qc4,Qc4];constructor
   .intro z b F;obtain⟨i,hi,rfl⟩:=Qgc F;have:=z i (Qcf.mpr hi);simpa[Qad hi]using this
   .intro z i hi;have D:=Qcf.mp hi;have:=z _ (Qck D);simpa[Qad D]using this
  rw[e];refine⟨.bl (bs.all id),H,I.kept (t':=tk) (λb o G=>hk b o (λhm=>?_) (Qab _ G)),U,q⟩;rw[Qau.mp hm]at G;exact absurd (Qav G) (Qb0 _)
theorem Ju:∀{g:Ag} {ys:Ai},StrsAre g ys->Vals (ys.map V.str) g
 |_,_,.nil=>.nil
 |_,_,.cons y t h=>.cons ⟨t,U⟩ (Ju h)
def kK:Xr X (.builtin "sorted") (λxs H Q=>∃(p:Au)(D:Ai),xs=[.ref p]/\SqL X.K H p (D.map V.str)/\D.length<64 /\
  ∀(l:Au)(g:Ai),H l=none->g.Perm D->sortedS g=true->Q (.ref l) (upd H l (.lst (g.map V.str)))):=by
 intro pins s σ H xs us Q I r h;obtain⟨p,D,rfl,hq,hn,q⟩:=h;obtain⟨u,rfl,Y⟩:=vals1 r;cases Y;obtain⟨F,J,pl,hz⟩:=I.list hq;have C:=J.length;rw[Qac]at C;refine sorted_strs pl.isList (qN J) (by lia) λout g hi G O=>?_;obtain⟨e,Z⟩:=sortedAll_at s.heap F out;refine⟨.ref _,_,I.laid (λb o e=>sortedAll_old e) (Qd4 _) ?_,U,q _ g (I.hok.fresh (Qd4 _)) G O⟩;have hm:=G.length_eq;exact⟨by grind,_,e,Ju hi,by simpa using Z⟩
def yu:bootBuiltins "abs" = some (.builtin "abs"):=by decide +kernel
def Zeo:bootBuiltins "dict" = some (.type "dict"):=by decide +kernel
def Zkj:bootBuiltins "max" = some (.builtin "max"):=by decide +kernel
def bt_min:bootBuiltins "min" = some (.builtin "min"):=by decide +kernel
def Zaf{t u:TS}(J:Az)(h1:∀N:Az,(∀c H,J c H->N c H)->t {G with nx:=N} c H)(h2:∀c H,J c H->u G c H):Yt t u G c H:=h1 _ h2
def take_snoc{xs:List g}{x:g}(h:xs[i]?=some x):xs.take (i+1)=xs.take i++[x]:=by
 rw[List.take_succ,h];rfl
def gI{xs:A0}{is:Aj}(p:V->Bool)(f:V->V)(I:SqL K H a xs)(hz:xs.length<=sizeLine)
  (F:∀x∈xs,∀R:Bool->Hp->Prop,R (p x) H->D (xJ is c (some x)) H R)
  (G:∀x∈xs,p x=true->∀R:VK,R (f x) H->A (xJ is c (some x)) H R)
  (J:∀l,H l=none->C (.ref l) (upd H l (.lst ((xs.filter p).map f)))):Gb is D A c C (Itl K a) H:=by
 refine GP (xs:=xs) (λi zs H'=>zs=((xs.take i).filter p).map f/\H'=H) ⟨U,U⟩ ?_ ?_ ?_ ?_
 .grind
 .grind
 .rintro i x zs H' R hR g ⟨rfl,rfl⟩;have q:=Qag g;have e:=take_snoc g;refine F x q _ ?_;cases hp:p x with
  |true=>
   refine(Qa9 U) ▸ G x q hp _ (hR _ _ ⟨?_,U⟩);rw[e,Qc9,Qbd,Qcy,Qa9 hp];rfl
  |false=>
   refine(Qa6 Qbf) ▸ hR _ _ ⟨?_,U⟩;rw[e,Qc9,Qcy,Qa6 (by grind)];simp
 .grind
def comp_map{xs:A0}{is:Aj}(f:V->V)(q:SqL K H a xs)(hz:xs.length<=sizeLine)
  (F:∀x∈xs,∀R:VK,R (f x) H->A (xJ is c (some x)) H R)
  (G:∀l,H l=none->C (.ref l) (upd H l (.lst (xs.map f)))):Gb is Zhv A c C (Itl K a) H:=by
 refine gI _ f q hz (λx _ R h=>h) (λx g _=>F x g) λl D=>?_;rw[List.filter_eq_self.mpr λ_ _=>U];exact G l D
def Zep{lo:Int}{is:Aj}(f:Nat->V)(hz:n<=sizeLine)
  (g:∀i,i<n->∀R:VK,R (f i) H->A (xJ is c (some (.int (lo+i)))) H R)
  (q:∀l,H l=none->C (.ref l) (upd H l (.lst ((List.range n).map f)))):Gb is Zhv A c C (Itr lo n) H:=by
 refine qM (λi zs H'=>i<=n/\zs=(List.range i).map f/\H'=H) ⟨Qbj _,U,U⟩ ?_ ?_ ?_
 .grind
 .rintro i zs H' R hR hi ⟨_,rfl,rfl⟩;unfold Zhv;refine g i hi _ (hR _ _ ⟨hi,?_,U⟩);rw[Qdo,Qbd];rfl
 .grind
def kL{xs:A0}{is:Aj}(f:V->V)(D:SqT K H a xs)(hz:xs.length<=sizeLine)
  (q:∀x∈xs,∀R:VK,R (f x) H->A (xJ is c (some x)) H R)
  (F:∀l,H l=none->C (.ref l) (upd H l (.lst (xs.map f)))):Gb is Zhv A c C (Itt K a) H:=by
 refine JV (xs:=xs) (λi zs H'=>zs=(xs.take i).map f/\H'=H) ⟨U,U⟩ ?_ ?_ ?_ ?_
 .grind
 .grind
 .rintro i x zs H' R hR g ⟨rfl,rfl⟩;unfold Zhv;refine q x (Qag g) _ (hR _ _ ⟨?_,U⟩);rw[take_snoc g,Qbd];rfl
 .grind
section
variable {κ:Type}[DecidableEq κ]
def Yp(kvs:List (κ×V))(k:κ):Option V:=(kvs.find? λg=>decide (g.1=k)).map (·.2)
def putK(kvs:List (κ×V))(k:κ)(v:V):List (κ×V):=
 if(kvs.any λg=>decide (g.1=k))=true then kvs.map (λg=>if g.1=k then(g.1,v)else g)else kvs++[(k,v)]
def Yl{p:κ×V}{r:List (κ×V)}{k:κ}(e:p.1=k):Yp (p::r) k=some p.2:=by simp[Yp,e]
def Yg{p:κ×V}{r:List (κ×V)}{k:κ}(e:¬p.1=k):Yp (p::r) k=Yp r k:=by simp[Yp,e]
theorem X7(k:κ):∀kvs:List (κ×V),(kvs.any λg=>decide (g.1=k))=(Yp kvs k).isSome
 |[]=>rfl
 |p::r=>by
  rw[Qf5]
  by_cases e:p.1=k
  .simp[Yl e,Qar e]
  .rw[Yg e,Qan e];exact X7 k r
theorem Zag(k j:κ)(y:V):∀kvs:List (κ×V),Yp (kvs.map λg=>if g.1=k then(g.1,y)else g) j=(Yp kvs j).map λx=>if j=k then y else x
 |[]=>rfl
 |p::r=>by
  have q:=Zag k j y r;rw[Qb1]
  by_cases h:p.1=k
  .rw[Qa9 h]
   by_cases e:p.1=j
   .rw[Yl (p:=(p.1,y)) e,Yl e,Qfe,Qa9 (e.symm.trans h)]
   .rw[Yg (p:=(p.1,y)) e,Yg e,q]
  .rw[Qa6 h]
   by_cases e:p.1=j
   .rw[Yl e,Yl e,Qfe,Qa6 (λz=>h (e.trans z))]
   .rw[Yg e,Yg e,q]
theorem zy(k j:κ)(y:V):∀kvs:List (κ×V),Yp kvs k=none->Yp (kvs++[(k,y)]) j=if j=k then some y else Yp kvs j
 |[],_=>by
  by_cases e:k=j
  .rw[Qa9 e.symm];exact Yl e
  .rw[Qa6 (λz=>e z.symm)];exact Yg e
 |p::r,g=>by
  rw[Qg8];have q:¬p.1=k:=λz=>by rw[Yl z]at g;cases g
  rw[Yg q]at g;have C:=zy k j y r g
  by_cases e:p.1=j
  .rw[Yl e,Yl e,Qa6 (λz=>q (e.trans z))]
  .rw[Yg e,Yg e,C]
def yY(kvs:List (κ×V))(k j:κ)(y:V):Yp (putK kvs k y) j=if j=k then some y else Yp kvs j:=by
 unfold putK
 by_cases a:(kvs.any λg=>decide (g.1=k))=true
 .rw[Qa9 a,Zag];rw[X7]at a
  by_cases e:j=k
  .obtain⟨x,C⟩:=Option.isSome_iff_exists.mp a;rw[Qa9 e,e,C,Qfe,Qa9 U]
  .rw[Qa6 e];cases Yp kvs j with
   |none=>rfl
   |some x=>rw[Qfe,Qa6 e]
 .rw[Qa6 a];refine zy k j y kvs ?_;rw[X7]at a;cases q:Yp kvs k with
  |none=>rfl
  |some x=>rw[q]at a;exact(a U).elim
def XJ(kvs:List (κ×V))(k:κ)(v:V):(putK kvs k v).length<=kvs.length+1:=by
 unfold putK;split
 .rw[Qac];lia
 .grind
def Zah{kvs:List (κ×V)}{k:κ}(v:V)(h:Yp kvs k=none):putK kvs k v=kvs++[(k,v)]:=by
 unfold putK;rw[X7,h];exact Qa6 (by decide)
def yS.isSome_eq{o:Option V}{u:Option As}(r:yS o u):o.isSome=u.isSome:=by
 cases o with
 |none=>cases u with
  |none=>rfl
  |some _=>exact(r).elim
 |some _=>cases u with
  |none=>exact(r).elim
  |some _=>rfl
def yS.getD{o:Option V}{u:Option As}{d:V}{g:As}(r:yS o u)(rd:RelV d g):RelV (o.getD d) (u.getD g):=by
 cases o with
 |none=>cases u with
  |none=>exact rd
  |some _=>exact(r).elim
 |some _=>cases u with
  |none=>exact(r).elim
  |some _=>exact r
theorem KV.val{kvs:List (κ×V)}{vs:List (κ×As)}(r:KV kvs vs)(k:κ):yS (Yp kvs k) (valueAt vs k):=by
 induction r with
 |nil=>exact True.intro
 | @cons p q ps g h t D=>
  obtain⟨h1,h2⟩:=h
  by_cases e:p.1=k
  .have C:=h1.symm.trans e;have b:valueAt (q::g) k=some q.2:=by simp[valueAt,C]
   rw[Yl e,b];exact h2
  .have C:¬q.1=k:=λz=>e (h1.trans z)
   have b:valueAt (q::g) k=valueAt g k:=by simp[valueAt,C]
   rw[Yg e,b];exact D
theorem KV.any{kvs:List (κ×V)}{vs:List (κ×As)}(r:KV kvs vs)(k:κ):(kvs.any λg=>decide (g.1=k))=vs.any λg=>decide (g.1=k):=by
 induction r with
 |nil=>rfl
 |cons h t q=>rw[Qf5,Qf5,q,h.1]
theorem KV.repl{kvs:List (κ×V)}{vs:List (κ×As)}(r:KV kvs vs)(k:κ){u:As}(D:RelV y u):
  KV (kvs.map λg=>if g.1=k then(g.1,y)else g) (vs.map λg=>if g.1=k then(g.1,u)else g):=by
 induction r with
 |nil=>exact .nil
 | @cons p q ps F h t C=>
  refine .cons ?_ C;obtain⟨h1,h2⟩:=h
  by_cases e:p.1=k
  .grind
  .grind
def KV.put{kvs:List (κ×V)}{vs:List (κ×As)}(r:KV kvs vs)(k:κ){u:As}(g:RelV y u):KV (putK kvs k y) (stored vs k u):=by
 unfold putK stored;rw[r.any k]
 by_cases e:(vs.any λq=>decide (q.1=k))=true
 .rw[Qa9 e,Qa9 e];exact r.repl k g
 .rw[Qa6 e,Qa6 e];exact Paired.snoc r ⟨U,g⟩
theorem KV.keys{kvs:List (κ×V)}{vs:List (κ×As)}(r:KV kvs vs):kvs.map (·.1)=vs.map (·.1):=by
 induction r with
 |nil=>rfl
 |cons h t g=>rw[Qb1,Qb1,g,h.1]
def KV.length{kvs:List (κ×V)}{vs:List (κ×As)}(r:KV kvs vs):kvs.length=vs.length:=Qf4 r
end
def yZ{k:Key}{u:As}(r:RelV (kV k) u):(ZQ P w).is k u=true:=by
 cases k with
 |inl i=>obtain⟨t,e⟩:=(r);subst e;exact gv P w i t
 |inr x=>obtain⟨t,e⟩:=(r);subst e;exact G5 P w x t
theorem kM{P:An}{w:Ar}:∀{ks:List Key} {g:Ag},Vals (ks.map kV) g->ItemsAre (ZQ P w) ks g
 |[],_,r=>by cases r;exact .nil
 |k::ks,_,r=>by
  cases r with
  |cons h t=>exact .cons (yZ h) (kM t)
abbrev KT(H:Hp):List (List Key×V)->List (List Key×Au×As)->Prop:=Paired λp q=>p.1=q.1/\H q.2.1=some (.tup (p.1.map kV))/\RelV p.2 q.2.2
theorem KT.val{kvs:List (List Key×V)}{xs:List (List Key×Au×As)}(r:KT H kvs xs)(k:List Key):yS (Yp kvs k) ((atKey xs k).map (·.2)):=by
 induction r with
 |nil=>exact True.intro
 | @cons p q ps g h t D=>
  obtain⟨h1,_,h2⟩:=h
  by_cases e:p.1=k
  .have C:=h1.symm.trans e;have b:atKey (q::g) k=some q.2:=by simp[atKey,C]
   rw[Yl e,b];exact h2
  .have C:¬q.1=k:=λz=>e (h1.trans z)
   have b:atKey (q::g) k=atKey g k:=by simp[atKey,C]
   rw[Yg e,b];exact D
theorem KT.repl{kvs:List (List Key×V)}{xs:List (List Key×Au×As)}(r:KT H kvs xs)(k:List Key){u:As}(F:RelV y u):
  KT H (kvs.map λg=>if g.1=k then(g.1,y)else g) (xs.map (putAt k u)):=by
 induction r with
 |nil=>exact .nil
 | @cons p q ps G h t C=>
  refine .cons ?_ C;obtain⟨h1,h2,D⟩:=h;unfold putAt
  by_cases e:p.1=k
  .grind
  .grind
def KT.put{kvs:List (List Key×V)}{xs:List (List Key×Au×As)}(r:KT H kvs xs)(k:List Key){b:Au}{u:As}(D:H b=some (.tup (k.map kV)))(g:RelV y u):
  KT H (putK kvs k y) (storedH xs k b u):=by
 have e:(kvs.any λC=>decide (C.1=k))=(atKey xs k).isSome:=by
  rw[X7,(r.val k).isSome_eq,Qgt]
 unfold putK storedH;rw[e]
 by_cases q:(atKey xs k).isSome=true
 .rw[Qa9 q,Qa9 q];exact r.repl k g
 .rw[Qa6 q,Qa6 q];exact Paired.snoc r ⟨U,D,g⟩
theorem KT.keeps{H':Hp}{kvs:List (List Key×V)}{xs:List (List Key×Au×As)}(r:KT H kvs xs)(g:∀b ys,H b=some (.tup ys)->H' b=some (.tup ys)):KT H' kvs xs:=
 Paired.mapP r λ_ _ z=>⟨z.1,g _ _ z.2.1,z.2.2⟩
section
variable {P:An}{w:Ar}{H:Hp}{h:Heap}{a:Au}
def Zpc{u:HO}(ok:HOk P w H h)(e:Rd H a u):Xw P w H h a u:=e.ok ok
theorem jI{kvs:Ay}(ok:HOk P w H h)(e:Rd H a (.dK kvs)):kvs.length<=sizeLine/\(a == sysModules)=false/\∃vs,KV kvs vs/\h.DictOf (ZQ P w) a vs:=
 Zpc ok e
def Zh2{kvs:Ay}(ok:HOk P w H h)(e:H a=some (.dK kvs)):kvs.length<=sizeLine/\(a == sysModules)=false/\∃vs,KV kvs vs/\h.DictOf (ZQ P w) a vs:=jI ok (.inl e)
def kO{ks:List Key}(ok:HOk P w H h)(e:H a=some (.tup (ks.map kV))):(tupleKind (ZQ P w)).is h ks a:=by
 obtain⟨_,q,r,o,h1,h2,⟨n,g⟩,_⟩:=(ok a _ e);exact⟨o,_,n,h1,h2,g,by simpa using kM r⟩
theorem Zeq{kvs:List (List Key×V)}(ok:HOk P w H h)(e:Rd H a (.dT kvs)):kvs.length<=sizeLine/\(a == sysModules)=false /\
  ∃xs,KT H kvs xs/\h.DictOfH (tupleKind (ZQ P w)) a xs:=by
 obtain⟨z,y,xs,r,o,es,ep,h1,h2,D,C,F⟩:=(Zpc ok e);refine⟨z,y,xs,r,o,es,ep,h1,h2,D,C,λx g=>?_,F⟩;have all:∀{l:List _} {m:List _},KT H l m->∀x∈m,(tupleKind (ZQ P w)).is h x.1 x.2.1:=by
  intro l m q
  induction q with
  |nil=>intro x g;exact nomatch g
  | @cons p q ps I J t G=>
   intro x g;rcases Qaw.mp g with e|g
   .subst e;exact kO ok (by grind)
   .exact G x g
 exact all r x g
theorem dt_of{kvs:List (List Key×V)}(ok:HOk P w H h)(e:H a=some (.dT kvs)):kvs.length<=sizeLine/\(a == sysModules)=false /\
  ∃xs,KT H kvs xs/\h.DictOfH (tupleKind (ZQ P w)) a xs:=Zeq ok (.inl e)
end
def Zmc(H:Hp)(a:Au)(y:V)(r:Option V):Prop:=
 (∃kvs k,Rd H a (.dK kvs)/\y=kV k/\r=Yp kvs k)\/∃kvs k b,Rd H a (.dT kvs)/\y=.ref b/\H b=some (.tup (k.map kV))/\r=Yp kvs k
def Zc5(H:Hp)(a:Au)(y v:V)(H':Hp):Prop:=
 (∃kvs k,H a=some (.dK kvs)/\y=kV k/\kvs.length<sizeLine/\H'=upd H a (.dK (putK kvs k v))) \/
 ∃kvs k b,H a=some (.dT kvs)/\y=.ref b/\H b=some (.tup (k.map kV))/\kvs.length<sizeLine/\H'=upd H a (.dT (putK kvs k v))
def Zc5.k{H:Hp}{a:Au}{kvs:Ay}{k:Key}{v:V}(e:H a=some (.dK kvs))(g:kvs.length<sizeLine):Zc5 H a (kV k) v (upd H a (.dK (putK kvs k v))):=.inl ⟨kvs,k,e,U,g,U⟩
section
variable {X:Cx}{pins:Ac}{σ:St}{H:Hp}{s:Aq}{a:Au}{y v:V}{u r:As}{o:Option V}{A:Ao}{E:Ab}
def Inv.big(I:Inv X pins σ H s):sysModules<s.heap.objs.size:=by
 have h:=(I.mod.glob.keeps I.bk).lt;exact Nat.lt_trans (by decide) h
def Zer(hu:A.units+1<cLine)(I:Inv X pins σ H s)(g:Zmc H a y (some v))(J:RelV y u)(h:∀D s',Inv X pins σ H s'->RelV v D->Q D s'):
  A1 X.prog X.w A (getItem (.ref a) u) Q E s:=by
 rcases g with⟨kvs,k,e,F,l⟩|⟨kvs,k,b,e,F,O,l⟩
 .subst F;obtain⟨z,Z,vs,q,dd⟩:=jI I.hok e;obtain⟨D,hw,C⟩:=yS.some_of (by rw[l];exact q.val k);exact wpAny_getItem_of (yZ J) dd.mapOf hw (h D _ (I.tok _) C)
 .subst F;cases(J);obtain⟨z,Z,xs,q,dd⟩:=Zeq I.hok e;obtain⟨D,hw,C⟩:=yS.some_of (by rw[l];exact q.val k);obtain⟨p,Y,G⟩:=Qbp.mp hw;refine wpAny_getItem_heap (Qff hu) (kO I.hok O) dd Y ?_;rw[G];exact h D _ (I.tok _) C
def d_in(O:A.units+1<cLine)(I:Inv X pins σ H s)(g:Zmc H a y o)(G:RelV y u)(h:∀s',Inv X pins σ H s'->Q (.bool o.isSome) s'):
  A1 X.prog X.w A (compareOp .In u (.ref a)) Q E s:=by
 rcases g with⟨kvs,k,e,D,l⟩|⟨kvs,k,b,e,D,J,l⟩
 .subst D;obtain⟨z,F,vs,C,dd⟩:=jI I.hok e;refine wpAny_in_of (yZ G) F dd.mapOf ?_;rw[<-(C.val k).isSome_eq,<-l];exact h _ (I.tok _)
 .subst D;cases(G);obtain⟨z,F,xs,C,dd⟩:=Zeq I.hok e;refine wpAny_in_heap (Qff O) (kO I.hok J) F dd ?_;have q:=(C.val k).isSome_eq;rw[Qgt]at q;rw[<-q,<-l];exact h _ (I.tok _)
def Zmd(O:A.units+1<cLine)(I:Inv X pins σ H s)(g:Zmc H a y o)(G:RelV y u)(h:∀s',Inv X pins σ H s'->Q (.bool (!o.isSome)) s'):
  A1 X.prog X.w A (compareOp .NotIn u (.ref a)) Q E s:=by
 rcases g with⟨kvs,k,e,D,l⟩|⟨kvs,k,b,e,D,J,l⟩
 .subst D;obtain⟨z,F,vs,C,dd⟩:=jI I.hok e;refine wpAny_notIn_of (yZ G) F dd.mapOf ?_;rw[<-(C.val k).isSome_eq,<-l];exact h _ (I.tok _)
 .subst D;cases(G);obtain⟨z,F,xs,C,dd⟩:=Zeq I.hok e;refine wpAny_notIn_heap (Qff O) (kO I.hok J) F dd ?_;have q:=(C.val k).isSome_eq;rw[Qgt]at q;rw[<-q,<-l];exact h _ (I.tok _)
theorem z5{h':Heap}{t':Nat}(I:Inv X pins σ H s)(g:Mut (H a))(F:Heap.SameBut a s.heap h')(D:∃q,h'.get? a=some q)(new:Xw X.prog X.w (upd H a Ua) h' a Ua):
  Inv X pins σ (upd H a Ua) {s with heap:=h',toks:=t'}:=
 I.write g (.inl U) (λb q C z=>(F.2 b C).trans z) D new
theorem Zai{H':Hp}{h':Heap}{kvs:Ay}{vs:List (Key×As)}(z:kvs.length<=sizeLine)(q:(a == sysModules)=false)(g:KV kvs vs)(dd:h'.DictOf (ZQ P w) a vs):
  Xw P w H' h' a (.dK kvs):=⟨z,q,vs,g,dd⟩
def Zes{H':Hp}{Q:Unit->Shared->Prop}(hu:A.units+1<cLine)(I:Inv X pins σ H s)(g:Zc5 H a y v H')(ry:RelV y u)(rv:RelV v r)(h:∀s',Inv X pins σ H' s'->Q () s'):
  A1 X.prog X.w A (setItem (.ref a) u r) Q E s:=by
 rcases g with⟨kvs,k,e,G,l,Y⟩|⟨kvs,k,b,e,G,Z,l,Y⟩
 .subst G Y;obtain⟨z,O,vs,C,dd⟩:=Zh2 I.hok e;have hz:vs.length<=sizeLine:=by rw[<-C.length];exact z
  have F:(putK kvs k v).length<=sizeLine:=by have:=XJ kvs k v;lia
  refine wpAny_setItem_pairs (hsz:=hz) (yZ ry) dd λh' dd' J=>h _ ?_;have he:∃q,h'.get? a=some q:=let⟨q,_,_,D,_⟩:=dd';⟨q,D⟩;exact z5 I (by rw[e];exact True.intro) J he (Zai F O (C.put k rv) dd')
 .subst G Y;cases(ry);obtain⟨z,O,xs,C,dd⟩:=dt_of I.hok e;have hz:xs.length<=sizeLine:=by rw[<-Qf4 C];exact z
  have F:(putK kvs k v).length<=sizeLine:=by have:=XJ kvs k v;lia
  refine wpAny_setItem_heap (hsz:=hz) (Qff hu) (kO I.hok Z) dd λh' dd' J=>h _ ?_;obtain⟨q,es,ep,D,h2,h3,h4,_,h5⟩:=dd';refine z5 I (by rw[e];exact True.intro) J ⟨q,D⟩ ⟨F,O,_,(C.put k Z rv).keeps λc ys ec=>?_,q,es,ep,D,h2,h3,h4,h5⟩;rw[Zm (Xv ec e (λz=>nomatch z))];exact ec
end
section
variable {X:Cx}{pins:Ac}{σ:St}{H:Hp}{s:Aq}{a:Au}{kvs:Ay}{k:Key}{u:As}{A:Ao}{E:Ab}
def d_len  (I:Inv X pins σ H s) (e:Rd H a (.dK kvs)) (h:∀t s',Inv X pins σ H s'->Q (.int kvs.length t) s'):A1 X.prog X.w A (call (.builtin "len") [.ref a]) Q E s:=by
 obtain⟨z,q,vs,g,dd⟩:=jI I.hok e;refine call_len_dict q dd (by rw[<-g.length];rw[Qg2]at z;lia) ?_;rw[<-g.length];exact h _ _ (I.tok _)
end
def Zqa(i:Av):Prop:=∀g q,subscripted i false g q=operate [g,q] (getItem g q)
def Zet{prog:An}{A:Ao}{E:Ab}{env:Env}{g:Av}{T id:String}
  (I:typeLookup (.type T) "__getitem__" = pure (some (.builtin id))) (J:Zqa g)
  (h:A1 prog w A (eval e env) (λo C=>A1 prog w A (eval g env) (λi s₂=>s₂.TypeIs o T/\A1 prog w A (getItem o i) Q E s₂) E C) E s):
  A1 prog w A (eval (.Subscript e g p) env) Q E s:=by
 refine Subscript_ (Qdb h (λo C F=>Qdb F (λi s₂ q=>?_) λ_ _ x=>x) λ_ _ x=>x);obtain⟨O,q⟩:=q;refine Qaa ?_;refine Qaa (Qdn O I ?_);have fin:A1 prog w A (subscripted g false o i) (λr D=>A1 prog w A (letTemporaryGo e o r >>= λ_=>pure r) Q E D) E s₂:=by
  rw[J o i];exact wpAny_operating (Qdb q (λr D G=>Qaa (wpAny_letTemporaryGo (Qae G))) λ_ _ x=>x)
 first
  |exact Qae (Qaa fin)
  |exact Qaa _
  |exact Qaa fin
def gJ {X:Cx}       {o:Option V} (I:Inv X m c H s) (g:Zmc H a y o):s.TypeIs (.ref a) "dict" :=by
 rcases g with⟨kvs,k,e,_,_⟩|⟨kvs,k,b,e,_,_,_⟩
 .obtain⟨_,_,vs,_,dd⟩:=jI I.hok e;exact dd.typeIs
 .obtain⟨_,_,xs,_,dd⟩:=Zeq I.hok e;exact dd.typeIs
inductive Zeu(Q:VK)(x:V)(y:V)(H2:Hp):Prop
 |mk (a v:_):(x=.ref a)->(Zmc H2 a y (some v))->(Q v H2)->Zeu Q x y H2
def Zpd(td ty:TE):TE:=λσ H Q=>td σ H λx H1=>ty σ H1 λy H2=>Zeu Q x y H2
inductive Zev(D:Ends)(σ:St)(v:V)(x:V)(y:V)(H3:Hp):Prop
 |mk (a H4:_):(x=.ref a)->(Zc5 H3 a y v H4)->(D.nx σ H4)->Zev D σ v x y H3
def Zpe(td ty tv:TE):TS:=λD σ H=>tv σ H λv H1=>td σ H1 λx H2=>ty σ H2 λy g=>Zev D σ v x y g
section
variable {X:Cx}{o i e value:Av}{pos pos' tpos:Pos}{td ty tv:TE}
def Zme(O:X.A.units+1<cLine)(Y:PE X o td)(hi:PE X i ty)(J:Zqa i):PE X (.Subscript o i pos) (Zpd td ty):=by
 intro pins s σ H Q I h;refine Zet PySem.F.slot_dict_getitem.lookup J (thn (Y pins s σ H _ I h) λu D ⟨x,H1,I1,rx,Z⟩=>thn (hi pins D σ H1 _ I1 Z) λiv s2 ⟨y,H2,C,ry,a,v,ex,g,q2⟩=>?_);subst ex;obtain rfl:u=Value.ref a:=rx;exact⟨gJ C g,Zer O C g ry λw' s3 G q=>⟨v,H2,G,q,q2⟩⟩
def Zmf(Z:X.A.units+1<cLine)(ho:PE X o td)(hi:PE X i ty)(hv:PE X value tv)(F:swapsWith value (some (.Subscript o i pos')) pos.line X.env=pure false):
  PS X (.Assign [.Subscript o i pos'] value pos) (Zpe td ty tv):=by
 intro pins s σ H D I h;refine wpAny_Assign_Subscript (thn (hv pins s σ H _ I h) λr s1 ⟨v,H1,I1,G,q1⟩=>thn (ho pins s1 σ H1 _ I1 q1) λu s2 ⟨x,H2,I2,Q,O⟩=>thn (hi pins s2 σ H2 _ I2 O) λiv s3 ⟨y,H3,C,J,a,q,ex,g,Y⟩=>?_) F;subst ex;obtain rfl:u=Value.ref a:=Q;exact Zes Z C g J G λs4 I4=>⟨σ,q,I4,Y⟩
end
theorem vc    (h:Heap) (g:sysModules<h.objs.size):Xw P w H (h.push {cls:=.type "dict",data:=.dict #[]}) h.objs.size (.dK []):=
 ⟨Qbj _,Qgd.mpr (Qd7 (Qbc g)),[],.nil,Heap.DictOf.new h⟩
def Zkk:TE:=λ_ H Q=>∀p,H p=none->Q (.ref p) (upd H p (.dK []))
section
variable {X:Cx}{pos:Pos}
theorem Zh3:PE X (.Dict [] [] pos) Zkk:=λpins s σ H Q I h=>
 wpAny_Dict_empty ⟨.ref _,_,I.laid (λ_ _ q=>Qab _ q) (Qai _) (vc s.heap I.big),U,h _ (I.hok.fresh (Qai _))⟩
end
def Zew:List (TE×TE)->St->Hp->(List (V×V)->Hp->Prop)->Prop
 |[],_,H,Q=>Q [] H
 |(tk,tv)::r,σ,H,Q=>tk σ H λx H1=>tv σ H1 λy H2=>Zew r σ H2 λps g=>Q ((x,y)::ps) g
abbrev VV:List (V×V)->List (As×As)->Prop:=Paired λp q=>RelV p.1 q.1/\RelV p.2 q.2
def PPs(X:Cx)(pos:Pos)(keys:List (Option Av))(g:Al)(q:List (TE×TE)):Prop:=
 ∀(pins:Ac)(s:Aq)(σ:St)(H:Hp)(Q:List (V×V)->Hp->Prop),Inv X pins σ H s->Zew q σ H Q->
  A2 X (evalPairs (pairTrees keys g X.env pos)) (λvs s'=>∃ps H',Inv X pins σ H' s'/\VV ps vs/\Q ps H') X.xe s
def Zmg{X:Cx}:PPs X p [] [] []:=λpins s σ H Q I h=>pairTrees_nil_walk ⟨[],H,I,.nil,h⟩
theorem Zh4{X:Cx}{k v:Av}{ks:List (Option Av)}{vs:Al}{tk:TE}{g:List (TE×TE)}(C:PE X k tk)(hv:PE X v A)(hr:PPs X p ks vs g):
  PPs X p (some k::ks) (v::vs) ((tk,A)::g):=λpins s σ H Q I h=>
 pairTrees_cons_walk (thn (C pins s σ H _ I h) λu O ⟨x,H1,I1,G,q1⟩=>thn (hv pins O σ H1 _ I1 q1) λw2 Z ⟨y,H2,Y,F,q2⟩=>
  thn (hr pins Z σ H2 _ Y q2) λws s3 ⟨ps,H3,D,q,J⟩=>⟨_,H3,D,.cons ⟨G,F⟩ q,J⟩)
def Jb(kvs more:Ay):Ay:=more.foldl (λacc g=>putK acc g.1 g.2) kvs
theorem KV.merge:∀{more:Ay} {g:List (Key×As)} {kvs:Ay} {vs:List (Key×As)},KV more g->KV kvs vs->KV (Jb kvs more) (merged vs g):=by
 intro more g kvs vs r
 induction r generalizing kvs vs with
 |nil=>intro q;exact q
 | @cons p q ps F h t C=>
  intro D;have e:KV (putK kvs p.1 p.2) (stored vs q.1 q.2):=by
   have:=D.put p.1 h.2;rw[<-h.1];exact this
  exact C e
theorem GQ:∀(more kvs:Ay),(Jb kvs more).length<=kvs.length+more.length
 |[],kvs=>by show kvs.length<=kvs.length+0;lia
 |p::r,kvs=>by
  have h1:=GQ r (putK kvs p.1 p.2);have h2:=XJ kvs p.1 p.2;show(Jb _ r).length<=_;rw[Qb3];lia
theorem yw{P:An}{w:Ar}:∀{kvs:Ay} {C:List (As×As)},VV (kvs.map λD=>(kV D.1,D.2)) C->∃g,Carries (ZQ P w) C g/\KV kvs g
 |[],_,r=>by cases r;exact⟨[],True.intro,.nil⟩
 |p::kvs,_,r=>by
  cases r with
  | @cons a b as bs h t=>
   obtain⟨g,c,q⟩:=yw t;obtain⟨b1,b2⟩:=b;exact⟨(p.1,b2)::g,⟨yZ h.1,U,c⟩,.cons ⟨U,h.2⟩ q⟩
def Zpf(g:List (TE×TE)):TE:=λσ H Q=>∀p,H p=none->Zew g σ (upd H p (.dK [])) λps H2=>H2 p=some (.dK [])/\∃kvs:Ay,ps=kvs.map (λq=>(kV q.1,q.2))/\kvs.length<=15/\Q (.ref p) (upd H2 p (.dK (Jb [] kvs)))
def Zmh{X:Cx}{keys:List (Option Av)}{C:List (TE×TE)}(h:PPs X p keys q C)(D:keys.all (·.isSome)=true)(Y:keys.length=q.length)(h0:keys≠[])
  (G:keys.length<=15):PE X (.Dict keys q p) (Zpf C):=by
 intro pins s σ H Q I g;have hn:=I.hok.fresh (Qai _);have I1:=I.laid (t':=s.toks) (λ_ _ g=>Qab _ g) (Qai _) (vc s.heap I.big);refine wpAny_Dict_walk (knd:=ZQ X.prog X.w) D Y h0 G (thn (h pins _ σ _ _ I1 (g _ hn)) λws s2 ⟨ps,H2,J,F,e,kvs,ep,lk,q2⟩=>?_);subst ep;obtain⟨rs,c,O⟩:=yw F;obtain⟨z,hd,vs0,Z,dd⟩:=Zh2 J.hok e;cases Z;refine⟨rs,c,dd,λh' dd' hs=>⟨.ref _,_,?_,U,q2⟩⟩;have hz:(Jb [] kvs).length<=sizeLine:=by
  have h1:=GQ kvs [];rw[Qey]at h1;rw[Qg2];lia
 have he:∃g,h'.get? _=some g:=let⟨g,_,_,hq,_⟩:=dd';⟨g,hq⟩;exact z5 J (by rw[e];exact True.intro) hs he (Zai hz hd (O.merge .nil) dd')
structure M2(X:Cx)(o:Av)(m:Str)(apos:Pos)(e f:Av)(cpos:Pos):Prop where
 base:attributeBase o m X.env (eval o X.env)=eval o X.env
 few:((backTo cpos (starEach [e,f] X.env)).all (λx=>!x.1)&&(backToKw cpos (keywordEach [] X.env)).all (λx=>x.1.isSome)
  && decide (([e,f]:Al).length+([]:List Keyword).length+(if([]:List Keyword).isEmpty then 0 else 1)<30))=true
 line:(apos.endLine == cpos.line)=true
 trees:backTo cpos (starEach [e,f] X.env)=[(false,eval e X.env),(false,eval f X.env)]
section
variable {X:Cx}{pins:Ac}{σ:St}{H:Hp}{s:Aq}{a:Au}{kvs:Ay}{A:Ao}{E:Ab}
def Zh5  (I:Inv X pins σ H s) (e:Rd H a (.dK kvs)) (h:∀p s',H p=none->Inv X pins σ (upd H p (.dK kvs)) s'->Q (.ref p) s'):A1 X.prog X.w A (call (.type "dict") [.ref a]) Q E s:=by
 obtain⟨z,D,vs,g,dd⟩:=jI I.hok e;refine kt_call_dict D dd (by rw[<-g.length];exact z) λh' dd' F=>?_;refine h _ _ (I.hok.fresh (Qai _)) (I.laid (λb q C=>((F.2 b (Qbc (Qav C))).trans (Qab _ C))) (Qai _) (Zai z (Qgd.mpr (Qd7 (Qbc I.big))) g dd'))
end
end L2
namespace EnT
section
variable {prog:An}{w:Ar}{A:Ao}{E:Ab}{s:Aq}
def next_of{it l:Au}{items:_}{x:As}(g:s.heap.IsTupleIter it l i)(I:s.heap.IsTuple l items)(G:items[i]?=some x)
  (J:∀h',h'.IsTupleIter it l (i+1)->Heap.SameBut it s.heap h'->Q x {s with heap:=h'}):A1 prog w A (Builtin.SmallTypes.nextOf (.ref it)) Q E s:=by
 obtain⟨o,C,O,q⟩:=id g;obtain⟨Y,F,_,Z,D⟩:=I;refine Qaa (wpAny_callSpecial?_slot g.typeIs Qd8 (Qbo Qd8 g.typeIs Qge ?_ (Qf6 _)));show wpAny _ _ (field _ 0 >>= _) _ _ s;refine Qaa (Qbt C q U ?_);refine Qaa (Qbt C q U ?_);refine Qaa (Qcc F D ?_);simp only[Qay,G];refine Qaa (Qc7 C q (by simp) (Qae ⟨x,U,Qae (J _ ⟨_,Qbi _ C (Qcv (Qbr q _)),(Qe4 ..).trans O,?_⟩ (Qcb ..))⟩));rw[Qbr q];simp[rawInt]
def next_no{it l:Au}{items:_}(hh:A.handled=none)(g:s.heap.IsTupleIter it l i)(I:s.heap.IsTuple l items)(G:items[i]?=none)
  (J:∀h' e,Heap.ExtBut it s.heap h'->(∃o,h'.get? e=some o/\o.cls=.type "StopIteration")->E (.ref e) {s with heap:=h'}):A1 prog w A (Builtin.SmallTypes.nextOf (.ref it)) Q E s:=by
 obtain⟨o,D,Z,F⟩:=id g;obtain⟨O,C,_,Y,q⟩:=I;refine Qaa (wpAny_callSpecial?_slot (name:=Str.ofString "__next__") g.typeIs Qd8 (Qbo Qd8 g.typeIs Qge ?_ (Qf6 _)));show wpAny _ _ (field (.ref it) 0 >>= _) _ _ s;refine Qaa (Qbt D F (x:=.ref l) U ?_);refine Qaa (Qbt D F (x:=.int i 0) U ?_);refine Qaa (Qcc C q ?_);simp only[Qay,G];refine Qaa (Qdu (Qaa (Qc7 D F (by simp) ?_)));refine Qaa ?_;refine Qaa (Qbm ?_ (by size_fits));refine Qaa (m:=firstArgMember _ _) (Qc8 (a:=Value.none) (by first|rfl|(rfl)) ?_);refine Qbm ?_ (by size_fits);refine Qaa (Qg1 ?_)
 first|rw[show A.in1.handled=none from hh]|rw[hh]
 refine Qaa (Qae (Qhj ?_));exact J _ _ (((Qcb ..).extBut.push _).push _) ⟨_,Qao _ U,U⟩
end
end EnT
namespace ZpT
def ZS:Bool->Heap->Addr->Addr->Nat->Prop
 |true,h,it,l,k=>h.IsTupleIter it l k
 |false,h,it,l,k=>h.IsListIter it l k
def SeqAt:Bool->Heap->Addr->Array As->Prop
 |true,h,l,xs=>h.IsTuple l xs
 |false,h,l,xs=>h.IsList l xs
def ZS.mv{b:Bool}{h':Heap}{it l:Au}{k:Nat}(x:ZS b h it l k)(f:∀o,h.get? it=some o->h'.get? it=some o):ZS b h' it l k:=by
 cases b
 .exact Heap.IsListIter.at x f
 .exact Heap.IsTupleIter.at x f
def SeqAt.mv{b:Bool}{h':Heap}{l:Au}{xs:Ah}(x:SeqAt b h l xs)(f:∀o,h.get? l=some o->h'.get? l=some o):SeqAt b h' l xs:=by
 cases b
 .obtain⟨o,g,r⟩:=(x);exact(⟨o,f o g,r⟩)
 .obtain⟨o,g,r⟩:=(x);exact(⟨o,f o g,r⟩)
def ZS.ob{b:Bool}{it l:Au}{k:Nat}(x:ZS b h it l k):∃o,h.get? it=some o/\∀v,o.data≠.cell v:=by
 cases b
 .obtain⟨o,g,q,C⟩:=(x);exact⟨o,g,λv z=>by grind⟩
 .obtain⟨o,g,q,C⟩:=(x);exact⟨o,g,λv z=>by grind⟩
def itO (b:Bool) (l:Au):Obj:={cls:=.type (if b then "tuple_iterator" else "list_iterator"),data:=.fields #[.ref l,.int 0 0]}
section
variable {prog:An}{w:Ar}{A:Ao}{E:Ab}{s:Aq}
def Jv{b:Bool}{it l:Au}{k:Nat}{xs:Ah}{x:As}(g:ZS b s.heap it l k)(C:SeqAt b s.heap l xs)(q:xs[k]?=some x)
  (D:∀h',ZS b h' it l (k+1)->Heap.SameBut it s.heap h'->Q x {s with heap:=h'}):A1 prog w A (Builtin.SmallTypes.nextOf (.ref it)) Q E s:=by
 cases b
 .exact wpAny_nextOf_list_item g C q D
 .exact EnT.next_of g C q D
def yx{b:Bool}{it l:Au}{k:Nat}{xs:Ah}(hh:A.handled=none)(g:ZS b s.heap it l k)(D:SeqAt b s.heap l xs)(C:xs[k]?=none)
  (q:∀h' e,Heap.ExtBut it s.heap h'->(∃o,h'.get? e=some o/\o.cls=.type "StopIteration")->E (.ref e) {s with heap:=h'}):A1 prog w A (Builtin.SmallTypes.nextOf (.ref it)) Q E s:=by
 cases b
 .exact wpAny_nextOf_list_end hh g D C q
 .exact EnT.next_no hh g D C q
def Wn{b:Bool}{l:Au}{xs:Ah}(g:SeqAt b s.heap l xs)(h:Q (.ref s.heap.objs.size) {s with heap:=s.heap.push (itO b l)}):A1 prog w A (pyIter (.ref l)) Q E s:=by
 cases b
 .exact Qe2 g h
 .exact wpAny_pyIter_tuple g h
def ze{b:Bool}{it l:Au}(e:h.get? it=some (itO b l)):ZS b h it l 0:=by
 cases b
 .exact(⟨_,e,U,U⟩)
 .exact(⟨_,e,U,U⟩)
end
end ZpT
namespace L2
open ZpT (SeqAt ZS)
def SqB(K:Af):Bool->Hp->Addr->List V->Prop
 |true,H,a,xs=>SqT K H a xs
 |false,H,a,xs=>SqL K H a xs
def SqB.t{xs:A0}(h:H a=some (.tup xs)):SqB K true H a xs:=(SqT.of h)
def Inv.sqB{X:Cx}{σ:L2.St}{xs:A0}{b:Bool}(I:Inv X m σ H s)(h:SqB X.K b H a xs):∃g:Ag,Vals xs g/\SeqAt b s.heap a g.toArray/\xs.length<=sizeLine:=by
 cases b
 .obtain⟨g,q,p,hz⟩:=I.list (h);obtain⟨o,n,e,C,_,D⟩:=p;exact⟨g,q,(⟨o,e,C,n,D⟩),hz⟩
 .obtain⟨g,q,p,hz⟩:=I.tuple (h);exact⟨g,q,(p),hz⟩
def Inv.sqB_inj{X:Cx}{σ:L2.St}{xs ys:A0}{b:Bool}(I:Inv X m σ H s)(h:SqB X.K b H a xs)(h':SqB X.K b H a ys):xs=ys:=by
 cases b
 .exact I.list_inj h h'
 .exact I.tuple_inj h h'
end L2
namespace EnT
open AutoSeq1 (wpAny_loadPart')
open ZpT (SeqAt ZS itO Wn Jv yx ze)
def enO (it:Au):Obj:={cls:=.type "enumerate",data:=.fields #[.none,.bool false,.ref it,rawInt 0,.none,.none]}
theorem Jt(b:Bool)(l:Au)(items:Ah):
  Meets (Builtin.«enumerate.__new__» ⟨[.type "enumerate",.ref l],[]⟩) (λ_ R s=>SeqAt b s.heap l items /\
   R (.ok (.ret (.ref (s.heap.push (itO b l)).objs.size))) {s with heap:=(s.heap.push (itO b l)).push (enO s.heap.objs.size)}):=
 .of_wp λprog w A R s h=>by
  obtain⟨D,g,d,tk,os⟩:=s;obtain⟨F,h⟩:=h;have G:=sub_enumerate;have q:SeqAt b (Shared.heap ⟨D,g,d,tk,os⟩) l items:=F;obtain⟨o,C,J⟩:∃o,D.get? l=some o/\∀v,o.data≠.cell v:=by cases b<;>(obtain⟨o,e,_,_,I⟩:=F;exact⟨o,e,λv z=>by rw[I]at z;cases z⟩)
  wp_walk using wpAny_loadPart' C
  refine wpAny_stack_any λst=>Qae ?_
  split
  .rename_i c _ _ _ _ _;cases(c == Value.type "enumerate")
   .wp_walk using wpAny_loadPart' C,Wn q
    exact⟨_,U,h⟩
   .wp_walk using wpAny_loadPart' C,Wn q
    exact⟨_,U,h⟩
  .wp_walk using wpAny_loadPart' C,Wn q
   exact⟨_,U,h⟩
section
variable {prog:An}{w:Ar}{A:Ao}{E:Ab}{s:Aq}
def Zmi{b:Bool}{e it l:Au}{items:Ah}{x old:As}
  (he:IsEnum s.heap e it i old) (hit:ZS b s.heap it l i) (hl:SeqAt b s.heap l items) (hx:items[i]?=some x) (hne:e≠it)
  (hQ:∀h',IsEnumOut h' e it ((i:Int)+1) x s.heap.objs.size->ZS b h' it l (i+1)->
   h'.get? s.heap.objs.size=some {cls:=.type "tuple",data:=.seq #[.int i s.toks,x]}->h'.objs.size=s.heap.objs.size+1->
   (∀b o,b≠e->b≠it->s.heap.get? b=some o->h'.get? b=some o)->Q (.ref s.heap.objs.size) {s with heap:=h',toks:=s.toks+1}):
  A1 prog w A (Builtin.«enumerate.__next__» ⟨[.ref e],[]⟩) (λfin s'=>∃v,fin=.done (.ret v)/\Q v s') E s:=by
 obtain⟨hp,g,d,tk,os⟩:=s;show wpAny _ _ (field (.ref e) 2 >>= _) _ _ _;refine Qaa (Qbt he U (x:=.ref it) U ?_);refine Qaa (Jv hit hl hx λh₁ hit₁ Y=>?_);have J:IsEnum h₁ e it i old:=(Y.2 e hne).trans he;refine Qaa (Qbt J U (x:=rawInt i) U ?_);refine Qaa (Qbt J U (x:=.none) U ?_);refine Qaa (Qg0 ?_);refine Qaa (Qb4 J (by simp) λh₂ he₂ I=>?_);refine Qaa (Qb4 he₂ (by simp) λh₃ he₃ O=>?_);refine Qaa (Qgq ?_);have F:IsEnum (h₃.push {cls:=.type "tuple",data:=.seq #[.int i tk,x]}) e it ((i:Int)+1) old:=Qab _ he₃;generalize hh₄:h₃.push {cls:=.type "tuple",data:=.seq #[.int i tk,x]}=G at F;have hsz:h₃.objs.size=hp.objs.size:=by rw[O.1,I.1,Y.1]
 have hel:e<hp.objs.size:=Qav he;have ht₄:G.get? hp.objs.size=some {cls:=.type "tuple",data:=.seq #[.int i tk,x]}:=by rw[<-hh₄,<-hsz];exact Qao _ U
 have hz₄:G.objs.size=hp.objs.size+1:=by rw[<-hh₄,Qby,hsz]
 have hk₄:∀b o,b≠e->b≠it->hp.get? b=some o->G.get? b=some o:=λb o Z hbi hb=>by
  rw[<-hh₄];exact Qab _ (O.extBut b o Z (I.extBut b o Z (Y.extBut b o hbi hb)))
 have hit₄:ZS b G it l (i+1):=by
  rw[<-hh₄];exact hit₁.mv λo z=>Qab _ (O.extBut _ _ (Qd7 hne) (I.extBut _ _ (Qd7 hne) z))
 show wpAny _ _ (Builtin.SmallTypes.ownedTupleIsFree (.ref e) >>= _) _ _ ⟨G,g,d,tk+1,os⟩;rw[hsz];refine Qaa ?_
 .refine Qaa (Qbt F U (x:=.none) U (Qae ?_));refine Qaa (Qdu ?_);refine Qaa (Qbt F U (x:=old) U ?_);refine Qaa (Qb4 F (by simp) λh₅ he₅ D=>?_);refine Qaa ?_
  .refine Qaa (Qb4 he₅ (by simp) λh₆ he₆ q=>?_);refine Qb4 he₆ (by simp) λh₇ he₇ C=>?_;refine Qaa (Qez (Qae ⟨_,U,hQ h₇ he₇ ?_ ?_ ?_ ?_⟩))
   .exact hit₄.mv λo z=>C.extBut _ _ (Qd7 hne) (q.extBut _ _ (Qd7 hne) (D.extBut _ _ (Qd7 hne) z))
   .exact C.extBut _ _ (Qel hel) (q.extBut _ _ (Qel hel) (D.extBut _ _ (Qel hel) ht₄))
   .rw[C.1,q.1,D.1,hz₄]
   .exact λb o Z hbi hb=>C.extBut b o Z (q.extBut b o Z (D.extBut b o Z (hk₄ b o Z hbi hb)))
def next_item{b:Bool}{e it l:Au}{items:Ah}{x:As}{Q:Aa}
  (D:IsEnum s.heap e it i v) (q:ZS b s.heap it l i) (I:SeqAt b s.heap l items) (G:items[i]?=some x) (g:e≠it)
  (J:∀h',IsEnumOut h' e it ((i:Int)+1) x s.heap.objs.size->ZS b h' it l (i+1)->
   h'.get? s.heap.objs.size=some {cls:=.type "tuple",data:=.seq #[.int i s.toks,x]}->h'.objs.size=s.heap.objs.size+1->
   (∀b o,b≠e->b≠it->s.heap.get? b=some o->h'.get? b=some o)->Q (some (.ref s.heap.objs.size)) {s with heap:=h',toks:=s.toks+1}):
  A1 prog w A (pyNext (.ref e)) Q E s:=by
 have C:s.TypeIs (.ref e) _:=⟨_,D,U⟩;exact Qaa (Qdj (wpAny_callSpecial?_slot C Qe0 (Qbo Qe0 C F.entry_enumerate_next
   (Zmi D q I G g λh' a b c d k=>Qae (J h' a b c d k)) (F.args_enumerate_next_1 _))))
def next_end{b:Bool}{e it l:Au}{items:Ah}{Q:Aa}(hh:A.handled=none)
  (G:IsEnum s.heap e it i v) (C:ZS b s.heap it l i) (J:SeqAt b s.heap l items) (I:items[i]?=none)
  (O:∀h',Heap.ExtBut it s.heap h'->Q none {s with heap:=h'}):A1 prog w A (pyNext (.ref e)) Q E s:=by
 have D:s.TypeIs (.ref e) _:=⟨_,G,U⟩;refine Qaa (Qdj (wpAny_callSpecial?_slot D Qe0 (Qbo Qe0 D F.entry_enumerate_next ?_ (F.args_enumerate_next_1 _))));show wpAny _ _ (field (.ref e) 2 >>= _) _ _ _;refine Qaa (Qbt G U U ?_);refine Qaa (yx hh C J I λh' x q g=>?_);obtain⟨o,Y,Z⟩:=g;refine Qaa (Qdd ⟨o,Y,Z⟩ Qfr (Qae (O _ q)))
def call_new{b:Bool}{l:Au}{items:Ah}(C:SeqAt b s.heap l items)
  (h:∀h',IsEnum h' (s.heap.objs.size+1) s.heap.objs.size 0 .none->ZS b h' s.heap.objs.size l 0->h'.objs.size=s.heap.objs.size+2->
   (∀b o,s.heap.get? b=some o->h'.get? b=some o)->Q (.ref (s.heap.objs.size+1)) {s with heap:=h'}):A1 prog w A (call (.type "enumerate") [.ref l]) Q E s:=by
 refine Qhd F.called_enumerate (by decide) (F.typeCall_enumerate_1 _) (F.newCall_enumerate_1 _) (λg=>Qf0 g _) F.entry_enumerate_new (Jt b l items) ⟨C,?_⟩;have hz:(s.heap.push (itO b l)).objs.size=s.heap.objs.size+1:=Qby ..;rw[hz];have q:=by
  have:=Qao (s.heap.push (itO b l)) (o:=enO s.heap.objs.size) rfl;rw[hz]at this;exact this
 refine⟨⟨_,q,U⟩,h _ q (ze (Qab _ (Qao _ U))) (by rw[Qby,hz]) λb o x=>Qab _ (Qab _ x)⟩
end
end EnT
namespace L2
open ZpT (SeqAt ZS)
def Xj{X:Cx}{pins:Ac}{σ:St}{h':Heap}{t':Nat}{fp:List Au}(I:Inv X pins σ H s)(C:∀b∈fp,xI X pins H b)(k:∀b o,b∉fp->s.heap.get? b=some o->h'.get? b=some o):Inv X pins σ H {s with heap:=h',toks:=t'}:=by
 have D:∀b u,H b=some u->b∉fp:=λb u e z=>by rw[(C b z).1]at e;cases e
 refine I.step (λb F=>⟨(C b F).2.2.2.1,(C b F).2.1,(C b F).2.2.2.2.1,(C b F).2.2.2.2.2⟩) (λb o _ _ g e _=>k b o g e) (λb o _ _ g e _=>⟨o.slots,k b o g e⟩) (λ_ _ _ _ n=>n)
  (λb o g e=>⟨o,k b o g e⟩) (λ_ _ e=>e) (λ_ _ _ e=>e) (λb ps e=>⟨#[],by grind⟩) (λm G=>?_) (λb u e=>?_) I.bare
 .obtain⟨o,es,ep,J,r⟩:=G;exact⟨o,es,ep,k _ o (λz=>(C _ z).2.1 rfl) J,r⟩
 .refine(I.hok b u e).stay (λc v g q=>k c v ?_ q) (λ_ q=>q) λ_ _ q=>q
  rcases g with z|z
  .rw[z];exact D b u e
  .exact D c _ z
def Ite(K:Af)(b:Bool)(a:Au)(n:Nat):It:=
 ⟨λi H=>∃xs x,SqB K b H a xs/\xs.length=n/\xs[i]?=some x,λi H v H'=>∃p,H p=none/\v=.ref p/\∀xs x,SqB K b H a xs->xs[i]?=some x->H'=upd H p (.tup [.int i,x]),λi H=>∃xs,SqB K b H a xs/\xs.length=n/\n<=i⟩
def Zex{es:Al}{ps:Pos}(b:Bool)(a e it:Au)(n:Nat)(J:e≠it):Turn P w K (.Tuple es L ps) (Ite K b a n) [e,it] e (λi h=>(∃q,IsEnum h e it i q)/\ZS b h it a i)where
 mem:=by simp
 obj:=λi h st b C=>by
  obtain⟨⟨q,F⟩,g⟩:=st;rcases Qaw.mp C with rfl|C
  .grind
  .have:b=it:=by simpa using C
   subst this;exact g.ob
 keep:=λi h h' st k=>by
  obtain⟨⟨q,F⟩,g⟩:=st;exact⟨⟨q,k e (by simp) _ F⟩,g.mv λo x=>k it (by simp) o x⟩
 item:=by
  intro X hP hw hK hc i pins s σ H E I O st hg;subst hP hw hK;obtain⟨xs,x,hq,hn,hx⟩:=hg;obtain⟨its,rv,p,hz⟩:=I.sqB hq;obtain⟨u,hu,ru⟩:=rv.get hx;obtain⟨⟨q,F⟩,g⟩:=st;obtain⟨f0,f1,f2,f3,f4,f5⟩:=O e (by simp);obtain⟨g0,g1,g2,g3,g4,g5⟩:=O it (by simp);have hilt:it<s.heap.objs.size:=by obtain⟨_,z,_⟩:=g.ob;exact Qav z
  refine EnT.next_item F g p (x:=u) (by simpa using hu) J λh' ho Y hT hsz hk=>?_;refine⟨_,U,wpAny_letOwnedTupleGo_enum (s:={s with heap:=h',toks:=s.toks+1}) ho λh2 he2 hs2=>?_⟩;have D:Heap.SameBut e h' h2:=hs2;have I1:Inv X pins σ (upd H s.heap.objs.size (.tup [.int i,x])) {s with heap:=s.heap.push {cls:=.type "tuple",data:=.seq #[.int i s.toks,u]},toks:=s.toks+1}:=
   I.laid (λb o y=>Qab _ y) (Qai _) ⟨ko,[.int i s.toks,u],.cons ⟨_,U⟩ (.cons ru .nil),gq.new _ _⟩
  have Q:∀b∈[e,it],xI X pins (upd H s.heap.objs.size (.tup [.int i,x])) b:=λb C=>by
   have hlb:b≠s.heap.objs.size:=by
    grind
   obtain⟨a0,ar⟩:=O b C;exact⟨by rw[Zm hlb];exact a0,ar⟩
  have I2:Inv X pins σ (upd H s.heap.objs.size (.tup [.int i,x])) {s with heap:=h2,toks:=s.toks+1}:=by
   refine Xj (s:={s with heap:=s.heap.push {cls:=.type "tuple",data:=.seq #[.int i s.toks,u]},toks:=s.toks+1}) I1 Q λb o C y=>?_;have G:b≠e:=λz=>C (by simp[z]);have hbi:b≠it:=λz=>C (by simp[z]);rcases Qf1 y with⟨rfl,rfl⟩|y
   .exact(D.2 _ G).trans hT
   .exact(D.2 b G).trans (hk b o G hbi y)
  refine⟨.ref s.heap.objs.size,_,I2,U,⟨_,I.hok.fresh (Qai _),U,λys y hy Z=>?_⟩,⟨⟨u,?_⟩,Y.mv λo y=>(D.2 it J.symm).trans y⟩,λb C=>(Q b C).1⟩
  .rw[I.sqB_inj hy hq,hx]at Z;cases Z;rfl
  .grind
 done:=by
  intro X hP hw hK hc i pins s σ H E I O st hg;subst hP hw hK;obtain⟨xs,hq,hn,hx⟩:=hg;obtain⟨its,rv,p,hz⟩:=I.sqB hq;obtain⟨⟨q,F⟩,g⟩:=st;obtain⟨g0,g1,g2,g3,g4,g5⟩:=O it (by simp);have hl:=rv.length;exact EnT.next_end (I.ok.hd hc) F g p (by simp;lia) λh' eb=>⟨U,I.turned (t':=s.toks) (λb o C e=>eb b o C e) g0 g1 g3 g4 g5⟩
 self:=λ_ _ _ _ _ st h=>let⟨⟨_,F⟩,_⟩:=st;wpAny_pyIter_enum F h
def Zpg(K:Af)(b:Bool)(te:TE):TI:=λσ H R=>te σ H λx H1=>∃a xs,x=.ref a/\SqB K b H1 a xs/\R (Ite K b a xs.length) H1
def kQ:bootBuiltins "enumerate" = some (.type "enumerate"):=by decide +kernel
def Zmj {b:Bool} {X:Cx}  {es:Al}  {ps:Pos}   (J:Gl X "enumerate") (O:X.mg "enumerate" = none) (Y:QE X e A) (hp:Ya e=true:=by rfl):QI X (.Tuple es i ps) (.Call (.Name "enumerate" p) [e] [] l) (Zpg X.K b A):=by
 refine⟨λpins s σ H R I h=>?_⟩;have F:starEach [e] X.env=[(false,eval e X.env)]:=by rw[Zy hp];rfl
 refine Call_ (Jr I J O kQ (Qb5 ?_ F U));rw[F];refine Qcs (thn (Y.out pins s σ H _ I h) λu G ⟨x,H1,g,ru,q1⟩=>?_);refine Qd0 ?_;obtain⟨a,xs,rfl,Z,r⟩:=q1;cases ru;obtain⟨its,rv,pt,hz⟩:=g.sqB Z;refine EnT.call_new pt λh' q C hsz Q=>?_;have I2:=g.kept (t':=G.toks) Q;refine wpAny_pyIter_enum q ⟨_,_,_,_,H1,U,I2,Zex b a _ G.heap.objs.size xs.length (Nat.succ_ne_self _),⟨⟨_,q⟩,C⟩,λb D=>?_,r⟩;rcases Qaw.mp D with rfl|D
 .exact g.fpOk (Qd4 _) (g.hok.fresh (Qd4 _))
 .have:=by simpa using D
  subst this;exact g.fpOk (Qai _) (g.hok.fresh (Qai _))
def vd {X:Cx}  {es:Al}  {ps:Pos}   (D:Gl X "enumerate") (g:X.mg "enumerate" = none) (q:QE X e A) (C:Ya e=true:=by rfl):QI X (.Tuple es i ps) (.Call (.Name "enumerate" p) [e] [] l) (Zpg X.K true A):=Zmj D g q C
theorem qO{X:Cx}{y:Str}{pos:Pos}{k:Nat}{g t2:TG}(q:X.calm=true)(h1:QG X (.Name x p) g)(h2:QG X (.Name y l) t2):QG X (.Tuple [.Name x p,.Name y l] k pos) (gTup X.K 2 (Zdh g (Zdh t2 gNil))):=
 ⟨pg_tup q (uW h1.out (uW h2.out Zlr))⟩
theorem ve{b:Bool}{xs:A0}{j k:Nat}(g:Nat->St->Hp->Prop)(I:g 0 c H)(q:∀i c H,i<=xs.length->g i c H->SqB K b H a xs)
  (D:∀i x c H p,xs[i]?=some x->H p=none->g i c H->B {G with nx:=g (i+1),ct:=g (i+1),bk:=G.nx} ((c.set j (some (.int i))).set k (some x)) (upd H p (.tup [.int i,x]))) (F:∀c H,g xs.length c H->G.nx c H):
  Zho (Ite K b a xs.length) (gTup K 2 (Zdh (GH j) (Zdh (GH k) gNil))) B G c H:=
 zr _ g I (λi c H hi p=>⟨⟨xs,xs[i],q i c H (Qax hi) p,U,Qad hi⟩,λv H' y=>by
  obtain⟨t,C,rfl,y⟩:=y;have e:=y xs _ (q i c H (Qax hi) p) (Qad hi);subst e;exact⟨t,_,U,SqT.of Zb,U,_,_,U,_,_,U,U,D i _ c H t (Qad hi) C p⟩⟩) λc H p=>⟨⟨xs,q _ c H (Qai _) p,U,Qai _⟩,F c H p⟩
end L2
namespace L2
def WE{i:Av}{ty:TE}(C:X.A.units+1<cLine)(q:QE X o M)(hi:QE X i ty)(g:Zqa i):QE X (.Subscript o i p) (Zpd M ty):=⟨Zme C q.out hi.out g⟩
def qP:QE X (.Dict [] [] p) Zkk:=⟨Zh3⟩
theorem Jw{i:Av}{ty tv:TE}(D:X.A.units+1<cLine)(C:QE X o M)(hi:QE X i ty)(q:QE X e tv)(g:swapsWith e (some (.Subscript o i l)) p.line X.env=pure false):
  QS X (.Assign [.Subscript o i l] e p) (Zpe M ty tv):=⟨Zmf D C.out hi.out q.out g⟩
inductive Zkl(neg:Bool)(y:V)(x:V)(H:Hp)(Q:VK):Prop
 |mk (a o:_):(x=.ref a)->(Zmc H a y o)->(Q (.bl (if neg then !o.isSome else o.isSome)) H)->Zkl neg y x H Q
def rDIn(neg:Bool):R2:=λy x H Q=>Zkl neg y x H Q
def qQ(G:X.A.units+1<cLine):OpR X (compareOp .In) (rDIn false):=by
 intro pins s σ H x y v u Q I F D h;obtain⟨a,o,rfl,g,q⟩:=h;cases D;exact d_in G I g F λs' C=>⟨.bl _,H,C,U,q⟩
def GR(G:X.A.units+1<cLine):OpR X (compareOp .NotIn) (rDIn true):=by
 intro pins s σ H x y v u Q I F D h;obtain⟨a,o,rfl,g,q⟩:=h;cases D;exact Zmd G I g F λs' C=>⟨.bl _,H,C,U,q⟩
def Zbw:Xr X (.type "dict") (λxs H Q=>∃a kvs,xs=[V.ref a]/\Rd H a (.dK kvs)/\∀p,H p=none->Q (.ref p) (upd H p (.dK kvs))):=by
 intro pins s σ H xs F Q I r h;obtain⟨a,kvs,rfl,e,q⟩:=h;obtain⟨u,rfl,C⟩:=vals1 r;cases C;exact Zh5 I e λp s' D g=>⟨.ref p,_,g,U,q p D⟩
def kR:Xr X (.builtin "len") (λxs H Q=>∃a kvs,xs=[V.ref a]/\Rd H a (.dK kvs)/\Q (.int kvs.length) H):=by
 intro pins s σ H xs D Q I r h;obtain⟨a,kvs,rfl,e,q⟩:=h;obtain⟨u,rfl,C⟩:=vals1 r;cases C;exact d_len I e λt s' g=>⟨.int _,H,g,⟨t,U⟩,q⟩
theorem vf{κ:Type}[DecidableEq κ]:∀{kvs:List (κ×V)},(kvs.map (·.1)).Nodup->∀p∈kvs,Yp kvs p.1=some p.2
 |[],_,_,h=>nomatch h
 |q::r,nd,p,h=>by
  rw[Qb1,Qcj]at nd;rcases Qaw.mp h with rfl|h
  .exact Yl U
  .have g:¬q.1=p.1:=λz=>nd.1 (by grind)
   rw[Yg g];exact vf nd.2 p h
def Zaj{x:V}(h:Wm x=true):eqV x x=true:=by
 cases x<;>first
  |exact Qde _
  |rfl
  |cases h
theorem kT{A:Ao}{s:Aq}{kvs:Ay}{D:List (Key×As)}(G:KV kvs D):∀{r:Ay} {g:List (Key×As)},KV r g->(∀p∈r,Yp kvs p.1=some p.2)->(∀p∈r,Wm p.2=true)->PySem.W.KeqHits A s D g true
 |_,_,.nil,_,_=>.nil
 |p::r,q::g,.cons h t,F,I=>by
  obtain⟨h1,h2⟩:=h;have e:=F p Qam;have f:=I p Qam;obtain⟨y,J,O⟩:=yS.some_of (by rw[<-e,h1];exact G.val q.1);have z:=PySem.W.KeqHits.hit J (Zd8 (A:=A) (s:=s) h2 O f f) (kT G t (λp C=>F p (Qak _ C)) λp C=>I p (Qak _ C));rw[Zaj f]at z;exact z
theorem Inv.freeze{pins:Ac}{σ:St}{kvs:Ay}{o:Obj}(I:Inv X pins σ H s)(e:Rd H a (.dK kvs))(C:s.heap.get? a=some o):Inv X pins σ (upd H a (.frz o (.dK kvs))) s:=by
 rcases e with e|⟨o',e⟩
 .have ne:∀b u,H b=some u->u≠.dK kvs->b≠a:=λb u g J z=>by
   grind
  refine I.step (ch:=[]) (λ_ z=>nomatch z) (λb o _ _ _ q _=>q) (λb o _ _ _ q _=>⟨o.slots,q⟩) (λb o _ _ n=>?_) (λb o _ q=>⟨o,q⟩)
   (λb xs q=>by rw[Zm (ne b _ q (λz=>nomatch z))];exact q) (λb o u q=>by rw[Zm (ne b _ q (λz=>nomatch z))];exact q) (λb ps q=>⟨#[],by rw[Zm (ne b _ q (λz=>nomatch z)),q];simp⟩) (λm D=>D) (λb u q=>?_) I.bare
  .rw[Zm (λz=>by grind)];exact n
  .have st:∀u,Xw X.prog X.w H s.heap b u->Xw X.prog X.w (upd H a (.frz o (.dK kvs))) s.heap b u:=λu x=>
    x.stay (λ_ _ _ q=>q) (λc q=>by rw[Zm (ne c _ q (λz=>nomatch z))];exact q) λc xs q=>by rw[Zm (ne c _ q (λz=>nomatch z))];exact q
   by_cases g:b=a
   .subst g;rw[Zb]at q;cases q;exact⟨C,st _ (I.hok b _ e)⟩
   .rw[Zm g]at q;exact st u (I.hok b u q)
 .have z:=I.hok a _ e;obtain⟨G,_⟩:=z;have:o=o':=Option.some.inj (C.symm.trans G);subst this;have F:upd H a (.frz o (.dK kvs))=H:=by
   funext b;unfold upd;split
   .rename_i g;rw[g,e]
   .rfl
  rw[F];exact I
def Itd(a:Au)(o:Obj)(kvs:Ay):It:=⟨λi H=>i<kvs.length/\H a=some (.frz o (.dK kvs)),λi H v H'=>H'=H/\∃p,kvs[i]?=some p/\v=kV p.1,λi H=>i=kvs.length/\H a=some (.frz o (.dK kvs))⟩
def Zh6{k:Key}(h:(ZQ P w).is k v=true):RelV (kV k) v:=by
 rw[Zbn]at h;cases k with
 |inl i=>
  cases v<;>first
   |(have e:=h;unfold zp Value.isInt at e;simp at e;exact⟨_,by rw[e]⟩)
   |(unfold zp Value.isInt at h;simp at h)
 |inr x=>
  cases v<;>first
   |(have e:=h;unfold zp Value.isStrOf at e;simp at e;exact⟨_,by rw[e]⟩)
   |(unfold zp Value.isStrOf at h;simp at h)
def Zey{tg:Av}(a it:Au)(o:Obj)(kvs:Ay)(ep:Nat)(hep:∃es,o.data=.dict es ep)(Z:a≠it):Turn P w K tg (Itd a o kvs) [it] it (λi h=>h.IsKeyIter it a i kvs.length ep)where
 mem:=by simp
 obj:=λi h st b G=>by
  have e:b=it:=by simpa using G
  subst e;obtain⟨o,e,c,d⟩:=st;exact⟨o,e,λv z=>by rw[d]at z;cases z⟩
 keep:=λi h h' st k=>st.at λo e=>k it (by simp) o e
 item:=by
  intro X hP hw hK hc i pins s σ H E I hf st hg;subst hP hw hK;obtain⟨hi,hH⟩:=hg;obtain⟨f0,f1,f2,f3,f4,f5⟩:=hf it (by simp);obtain⟨ho,z,nm,vs,C,dd⟩:=(I.hok a _ hH);obtain⟨o',es,ep',J,D,q,hk,hp,hn⟩:=id dd;have eo:o'=o:=Option.some.inj (J.symm.trans ho);subst eo;obtain⟨es2,g⟩:=hep;rw[q]at g;cases g;have O:s.heap.DictAt (ZQ X.prog X.w) a vs ep:=⟨o',es,ho,D,q,hk,hp,hn⟩;have hl:=C.length;rw[hl]at st;refine(Walks.dictKeys (knd:=ZQ X.prog X.w) (prog:=X.prog) (w:=X.w) (I.ok.hd hc) it a Z vs ep).item i s _ _ (by lia) ⟨st,O⟩ λv h' tk hv st' kk=>?_;obtain⟨k,x,hkx,Y⟩:=hv;have I1:Inv X pins σ H {s with heap:=h',toks:=tk}:=I.turned (λb o G e=>kk b o (by simpa using G) e) f0 f1 f3 f4 f5;obtain⟨F,_⟩:=st';obtain⟨oi,e,cc,d⟩:=id F;have hik:(kvs.map (·.1))[i]?=some k:=by
   rw[C.keys,Qal,hkx];rfl
  rw[Qal]at hik;obtain⟨p,hp1,hp2⟩:=Qbp.mp hik;rw[<-hl]at F;exact⟨_,U,kq (s:={s with heap:=h',toks:=tk}) e cc d (by decide) ⟨kV k,H,I1,Zh6 Y,⟨U,p,hp1,by rw[hp2]⟩,F,λb G=>(hf b G).1⟩⟩
 done:=by
  intro X hP hw hK hc i pins s σ H E I hf st hg;subst hP hw hK;obtain⟨hi,hH⟩:=hg;obtain⟨f0,f1,f2,f3,f4,f5⟩:=hf it (by simp);obtain⟨ho,z,nm,vs,C,dd⟩:=(I.hok a _ hH);obtain⟨o',es,ep',J,D,q,hk,hp,hn⟩:=id dd;have eo:o'=o:=Option.some.inj (J.symm.trans ho);subst eo;obtain⟨es2,g⟩:=hep;rw[q]at g;cases g;have O:s.heap.DictAt (ZQ X.prog X.w) a vs ep:=⟨o',es,ho,D,q,hk,hp,hn⟩;have hl:=C.length;rw[hi,hl]at st;exact(Walks.dictKeys (knd:=ZQ X.prog X.w) (prog:=X.prog) (w:=X.w) (I.ok.hd hc) it a Z vs ep).done s _ _ ⟨st,O⟩ λh' tk kk=>⟨U,I.turned (t':=tk) (λb o G e=>kk b o (by simpa using G) e) f0 f1 f3 f4 f5⟩
 self:=λA i s Q E st h=>wpAny_pyIter_keyiter st h
theorem Zak{o:Obj}{kvs:Ay}{g:TG}(C:Nat->St->Hp->Prop)(Q:C 0 c H)(F:∀i c H,i<=kvs.length->C i c H->H a=some (.frz o (.dK kvs)))
  (Y:∀i p c H,kvs[i]?=some p->C i c H->g (kV p.1) c H λD H2=>B {G with nx:=C (i+1),ct:=C (i+1),bk:=G.nx} D H2) (O:∀c H,C kvs.length c H->G.nx c H):
  Zho (Itd a o kvs) g B G c H:=
 zr _ C Q (λi c H hi p=>⟨⟨hi,F i c H (Qax hi) p⟩,λv H' ⟨e,q,I,J⟩=>by grind⟩) λc H p=>⟨⟨U,F _ c H (Qai _) p⟩,O c H p⟩
inductive KTab(P:Params):List DictEntry->List (Str×Int)->Prop
 |nil:KTab P [] []
 |cons {k:Str} {v:Int} {t u:Tok} {es:List DictEntry} {l:List (Str×Int)}:KTab P es l->KTab P ({hash:=PyData.keyHash P k,key:=.str k t,val:=.int v u}::es) ((k,v)::l)
structure KD(K:Af)(w:Ar)(a:Au)(l:List (Str×Int)):Prop where
 ex:∃es ep,K.lookup a=some {cls:=.type "dict",dict:=none,data:=.dict es ep,slots:=#[]}/\KTab w.params es.toList l
 nd:(l.map (·.1)).Nodup
 ns:(a == sysModules)=false
def kvsOf(l:List (Str×Int)):Ay:=l.map λp=>((Sum.inr p.1:Key),V.int p.2)
theorem KTab.pairs{es:List DictEntry}{l:List (Str×Int)}(h:KTab w.params es l):(∃vs,KV (kvsOf l) vs/\Pairs (ZQ P w) es vs)/\∀e∈es,∃k,(ZQ P w).is k e.key=true/\e.hash=(ZQ P w).hash k:=by
 induction h with
 |nil=>exact⟨⟨[],.nil,.nil⟩,λ_ h=>nomatch h⟩
 | @cons k v t u es l _ C=>
  obtain⟨⟨vs,r,p⟩,q⟩:=C;refine⟨⟨(.inr k,.int v u)::vs,.cons ⟨U,⟨u,U⟩⟩ r,.cons (G5 P w k t) U p⟩,λe g=>?_⟩;rcases Qaw.mp g with rfl|g
  .exact⟨.inr k,G5 P w k t,U⟩
  .exact q e g
section
variable {X:Cx}{pins:Ac}{σ:St}{H:Hp}{s:Aq}{a:Au}{l:List (Str×Int)}{k:Key}{u:As}{A:Ao}{E:Ab}
def KD.of(I:Inv X pins σ H s)(d:KD X.K X.w a l):∃vs,KV (kvsOf l) vs/\s.heap.DictOf (ZQ X.prog X.w) a vs:=by
 obtain⟨es,ep,g,t⟩:=d.ex;obtain⟨⟨vs,r,p⟩,q⟩:=t.pairs;refine⟨vs,r,_,es,ep,I.kIn a _ g,⟨U,U,U⟩,U,λe C=>q e (by grind),p,?_⟩;rw[<-r.keys];unfold kvsOf;rw[Qb7];have:=d.nd;rw[List.nodup_iff_pairwise_ne]at *;rw[Qgu]at *;exact this.imp λh z=>h (Sum.inr.inj z)
def kd_in(I:Inv X pins σ H s)(d:KD X.K X.w a l)(q:RelV (kV k) u)(h:∀s',Inv X pins σ H s'->Q (.bool (Yp (kvsOf l) k).isSome) s'):A1 X.prog X.w A (compareOp .In u (.ref a)) Q E s:=by
 obtain⟨vs,g,dd⟩:=d.of I;refine wpAny_in_of (yZ q) d.ns dd.mapOf ?_;rw[<-(g.val k).isSome_eq];exact h _ (I.tok _)
def Zmk{z:V}{r:As}(I:Inv X pins σ H s)(d:KD X.K X.w a l)(C:RelV (kV k) u)(D:RelV z r)(h:∀q s',Inv X pins σ H s'->RelV ((Yp (kvsOf l) k).getD z) q->Q q s'):
  A1 X.prog X.w A (call (.builtin "dict.get") [.ref a,u,r]) Q E s:=by
 obtain⟨vs,g,dd⟩:=d.of I;exact call_meetsIn PySem.F.slot_dict_get dd.typeIs PySem.F.entry_dict_get (PySem.F.args_dict_get_3 _ _ _) (meets_dict_get_default _ a (yZ C) d.ns r) ⟨_,dd.mapOf,h _ _ (I.tok _) ((g.val k).getD D)⟩
end
def rKIn(K:Af)(w:Ar):R2:=λy x H Q=>∃a l k,x=.ref a/\KD K w a l/\y=kV k/\Q (.bl (Yp (kvsOf l) k).isSome) H
def gK:OpR X (compareOp .In) (rKIn X.K X.w):=by
 intro pins s σ H x y v u Q I D C h;obtain⟨a,l,k,rfl,d,rfl,q⟩:=h;cases C;exact kd_in I d D λs' g=>⟨.bl _,H,g,U,q⟩
def tKGet(K:Af)(w:Ar)(td ty tx:TE):TE:=λσ H Q=>td σ H λx H1=>∃a l,x=.ref a/\KD K w a l/\ty σ H1 λy H2=>tx σ H2 λz g=>∃k,y=kV k/\Q ((Yp (kvsOf l) k).getD z) g
def m2_of{f:Av}{m:Str}(q:Ya e=true)(C:Ya f=true)(g:attributeBase o m X.env (eval o X.env)=eval o X.env)(D:(p.endLine == l.line)=true):M2 X o m p e f l where
 base:=g
 few:=by
  rw[all_plain (by grind)];rfl
 line:=D
 trees:=by
  rw[Zy q,Zy C];rfl
def gL {f:Av} {cpos:Pos} {tx:TE} (ho:QE X o A) (he:QE X e M) (hf:QE X f tx) (h1:Ya e=true:=by rfl) (h2:Ya f=true:=by rfl) (hb:attributeBase o "get" X.env (eval o X.env)=eval o X.env:=by rfl) (D:(p.endLine == cpos.line)=true:=by rfl):
  QE X (.Call (.Attribute o "get" p) [e,f] [] cpos) (tKGet X.K X.w A M tx):=by
 have m:=m2_of h1 h2 hb D;refine⟨λpins s σ H Q I h=>?_⟩;refine wpAny_Call_method m.base m.few m.line PySem.F.plainAttrs_dict PySem.F.slot_dict_get PySem.F.type_dict_get (thn (ho.out pins s σ H _ I h) λu s1 ⟨x,H1,C,rx,a,l,ex,d,q1⟩=>?_);subst ex;obtain rfl:u=Value.ref a:=rx;obtain⟨vs,G,dd⟩:=d.of C;refine⟨dd.typeIs,λb q=>?_,?_⟩
 .cases q;obtain⟨ob,_,_,Z,g2,_⟩:=dd;exact⟨ob,Z,g2.2.1⟩
 rw[m.trees];refine Qfm U (Calls.evalArgs_plain (Qcs (thn (he.out pins s1 σ H1 _ C q1) λiv s2 ⟨y,H2,I2,Y,q2⟩=>Qcs (thn (hf.out pins s2 σ H2 _ I2 q2) λfv s3 ⟨z,H3,J,rz,k,O,q3⟩=>Qd0 ?_))));subst O;exact Zmk J d Y rz λw' s4 I4 g=>⟨_,H3,I4,g,q3⟩
def Zh7{is:Aj}{σ:St}(f:Nat->V)(hz:x.cps.size<=sizeLine)
  (G:∀c∈x.cps.toList,∀R:VK,R (f c) H->A (xJ is σ (some (.str ⟨#[c]⟩))) H R)
  (I:∀l,H l=none->C (.ref l) (upd H l (.lst (x.cps.toList.map f)))):Gb is Zhv A σ C (Its x) H:=by
 refine⟨λi m zs H'=>m=x.cps.size-i/\i<=x.cps.size/\zs=(x.cps.toList.take i).map f/\H'=H,⟨x.cps.size,by simp,Qbj _,U,U⟩,?_⟩;rintro i m zs H' ⟨rfl,hi,rfl,rfl⟩;have F:((x.cps.toList.take i).map f).length<=sizeLine:=by
  grind
 by_cases g:i<x.cps.size
 .refine .inr ⟨g,F,λv H2 y=>?_⟩;obtain⟨e,c,J,rfl⟩:=y;subst e;have q:x.cps.toList[i]?=some c:=by grind
  refine G c (Qag q) _ ⟨_,by lia,U,g,?_,U⟩;rw[take_snoc q,Qbd];rfl
 .have e:i=x.cps.size:=by lia
  refine .inl ⟨e,F,λl D=>?_⟩;rw[Qbv (by grind)];exact I l D
def eqvs:A0->List V->Bool
 |[],[]=>true
 |x::xs,y::ys=>eqV x y&&eqvs xs ys
 |_,_=>false
def WG(t:SetTable)(n:Nat):(t.standIn n).led=t.led/\(t.plain=false->(t.standIn n).plain=false):=⟨U,λ_=>U⟩
def vg(t:SetTable)(n:Nat):(t.orStandIn n).led=t.led/\(t.plain=false->(t.orStandIn n).plain=false):=by
 unfold SetTable.orStandIn;split
 .exact⟨U,id⟩
 .exact WG _ _
def Zbx(t:SetTable)(es:Array (Int×As))(h:Int)(x:As):(layNew t es h x).2.1.led=t.led/\(t.plain=false->(layNew t es h x).2.1.plain=false):=by
 unfold layNew;split
 .exact vg _ _
 .exact WG _ _
theorem kU(t:SetTable)(es:Array (Int×As))(n:Nat):(relayAll t es n).2.1.led=t.led/\(t.plain=false->(relayAll t es n).2.1.plain=false):=by
 unfold relayAll;split
 .rename_i t' C g;have q:t'.led=t.led/\(t.plain=false->t'.plain=false):=by
   unfold SetTable.relaid SetTable.laid at g;cases hc:SetTable.layClean _ _ with
   |none=>rw[hc]at g;exact nomatch g
   |some D=>
    rw[hc]at g;obtain⟨rfl,_⟩:=g;exact⟨U,id⟩
  dsimp only;split
  .exact q
  .exact WG _ _
 .exact WG _ _
def tx:As->Str
 |.str x _=>x
 |_=>⟨#[]⟩
def z6(prog:An)(w:Ar)(h:Heap)(a:Au)(led:Bool)(S:Ai):Prop:=
 ∃o es ep t,h.get? a=some o/\o.ExactSet/\o.data=.set es ep t/\ElemsOf (strKind prog w) es.toList/\(es.toList.map λe=>tx e.2).Perm S/\t.fits es.size=true/\t.led=led/\(es.size=0\/t.plain=false)
section
variable {prog:An}{w:Ar}{A:Ao}{E:Ab}{s:Aq}
def Zph{e:As}{k:Str}(h:(strKind prog w).is k e=true):tx e=k:=by
 obtain⟨t,rfl⟩:=Qf7 h;rfl
def Zal{l:List (Int×As)}(h:ElemsOf (strKind prog w) l){e:Int×As}(q:e∈l):(strKind prog w).is (tx e.2) e.2=true/\∃t,e.2=.str (tx e.2) t:=by
 obtain⟨⟨k,g,_⟩,_⟩:=h e q;rw[Zph g];exact⟨g,Qf7 g⟩
def ins(S:Ai)(x:Str):Ai:=if x∈S then S else S++[x]
def Zml{l:List (Int×As)}(h:ElemsOf (strKind prog w) l):
  (l.findIdx? (λe=>(strKind prog w).is x e.2)).isSome=true↔x∈l.map (λe=>tx e.2):=by
 rw[List.findIdx?_isSome,Qdf,Qa2];constructor
 .rintro⟨e,g,q⟩;exact⟨e,g,Zph q⟩
 .rintro⟨e,g,q⟩;exact⟨e,g,q ▸ (Zal h g).1⟩
def z8{o:Obj}{es:Array (Int×As)}{t:SetTable}(Q:h.get? a=some o)(q:o.ExactSet)(G:o.data=.set es i t)
  {g:Array (Int×As)} {t':SetTable} {S:Ai} {led:Bool} (C:ElemsOf (strKind prog w) g.toList) (I:(g.toList.map λe=>tx e.2).Perm S) (J:t'.fits g.size=true) (O:t'.led=led) (D:g.size=0\/t'.plain=false):
  (h.update a (Obj.putSet g t')).get? a=some {o with data:=.set g (i+1) t'}/\z6 prog w (h.update a (Obj.putSet g t')) a led S:=by
 have F:=by
  have:=Qbi (Obj.putSet g t') Q (by rw[putSet_of g t' G];rfl);rw[putSet_of g t' G]at this;exact this
 exact⟨F,_,g,i+1,t',F,q,U,C,I,J,O,D⟩
theorem Zez{led:Bool}{S:Ai}{tk:Tok}{Q:Bool->Shared->Prop}(hS:z6 prog w s.heap a led S)(hroom:S.length+1<scanBound)
  (h:∀h' b,Heap.SameBut a s.heap h'->z6 prog w h' a led (ins S x)->Q b {s with heap:=h'}):
  A1 prog w A (setAddHashed a (.str x tk) ((strKind prog w).hash x)) Q E s:=by
 obtain⟨o,es,ep,t,ho,hex,hd,J,hp,hf,hl,hpl⟩:=hS;have hn:es.size=S.length:=by rw[<-hp.length_eq,Qac,Qb6]
 have Z:(strKind prog w).is x (.str x tk)=true:=by show Value.isStrOf x (.str x tk)=true;simp[Value.isStrOf]
 refine Qch (Qaa (Qeh ho hd hf ?_));dsimp only;rw[byScan_of (knd:=strKind prog w) U (by lia) J];refine Qaa ?_;refine Qaa (Qdu ?_);refine Qaa (wpAny_setScan_of Z ho hd hf J ?_);have O:=Zml J (x:=x);cases hr:List.findIdx? (λe=>(strKind prog w).is x e.2) es.toList with
 |some j=>
  rw[hr]at O;have hx:x∈S:=hp.mem_iff.mp (O.mp U);refine Qae (Qae ?_);have:=h s.heap false (Heap.SameBut.refl a s.heap) (by rw[ins,Qa9 hx];exact⟨o,es,ep,t,ho,hex,hd,J,hp,hf,hl,hpl⟩);exact this
 |none=>
  rw[hr]at O;have hx:x∉S:=λhm=>by simpa using O.mpr (hp.mem_iff.mpr hm)
  have I:=Zbx t es ((strKind prog w).hash x) (.str x tk);have D:=layNew_perm t es ((strKind prog w).hash x) (.str x tk);have G:=layNew_fits t es ((strKind prog w).hash x) (.str x tk);generalize hL:layNew t es ((strKind prog w).hash x) (.str x tk)=L at I D G ⊢;obtain⟨q,t1,wd,gave⟩:=L;rw[Array.toList_push]at D;have Y:ElemsOf (strKind prog w) q.toList:=(J.push Z U).perm D;have hp1:(q.toList.map λe=>tx e.2).Perm (ins S x):=by
   rw[ins,Qa6 hx];refine(D.map _).trans ?_;rw[Qbd];exact hp.append_right _
  have hz1:q.size=S.length+1:=by
   have:=hp1.length_eq;rw[ins,Qa6 hx,Qac,Qb6,Qaf]at this;exact this
  have hg:∀(b:Bool) {C:Aq} {Q':Unit->Shared->Prop},Q' () C->A1 prog w A (match b with|true=>rule "set.scan.the-table-gave-way" |false=>pure ()) Q' E C:=
   λb C Q' F=>by cases b<;>first|exact Qae F|exact Qdu F
  refine Qaa (hg _ ?_);have key:∀(g:Bool->Sem Unit),(∀(b:Bool)(C:Aq)(Q':Unit->Shared->Prop),Q' () C->A1 prog w A (g b) Q' E C)->∀t2:SetTable,t2.fits q.size=true->t2.led=led->t2.plain=false->
    A1 prog w A (do
     storeSet a q t2
     if(!wd&&t2.tooFull)=true then do
       g (relayAll t2 q (SetTable.grown q.size)).2.2
       storeSet a (relayAll t2 q (SetTable.grown q.size)).1 (relayAll t2 q (SetTable.grown q.size)).2.1
       pure (some true)
      else pure (some true)) (λr s'=>r=some true/\∀b,Q b s') E s:=by
   intro g hg t2 hf2 hl2 hp2;refine Qaa (wpAny_storeSet_of ho hd ?_ (Qgv (by lia)));obtain⟨ho1,hS1⟩:=z8 (prog:=prog) (w:=w) ho hex hd Y hp1 hf2 hl2 (.inr hp2);have hsb1:=Qcb s.heap a (Obj.putSet q t2);split
   .have F:=relayAll_perm t2 q (SetTable.grown q.size);have hfr:=relayAll_fits t2 q (SetTable.grown q.size);have hlr:=kU t2 q (SetTable.grown q.size);generalize relayAll t2 q (SetTable.grown q.size)=Rl at F hfr hlr ⊢;obtain⟨es2,t3,g2⟩:=Rl;have hz2:es2.size=q.size:=by rw[<-Qb6,F.length_eq,Qb6]
    refine Qaa (hg _ _ _ ?_);refine Qaa (wpAny_storeSet_of ho1 U ?_ (Qgv (by lia)));obtain⟨_,hS2⟩:=z8 (prog:=prog) (w:=w) ho1 hex U (Y.perm F) ((F.map _).trans hp1) hfr (hlr.1.trans hl2) (.inr (hlr.2 hp2));exact Qae ⟨U,λb=>h _ b (hsb1.trans (Qcb _ a _)) hS2⟩
   .exact Qae ⟨U,λb=>h _ b hsb1 hS1⟩
  split
  .rename_i hpt;refine Qaa ?_;rw[hashByValue_scannable 8 rfl];refine Qae ?_;rw[show plainKind (Value.str x tk)=false from U];refine Qdb (key _ ?_ {t1 with plain:=false} (SetTable.fits_plain_off G) (I.1.trans hl) U) ?_ (λ_ _ e=>e)
   .intro b C Q' F;cases b<;>first|exact Qae F|exact Qdu F
   .rintro r s' ⟨rfl,F⟩;exact Qae (F _)
  .rename_i hpt;refine Qaa (Qae ?_);refine Qdb (key _ ?_ t1 G (I.1.trans hl) (by simpa using hpt)) ?_ (λ_ _ e=>e)
   .intro b C Q' F;cases b<;>first|exact Qae F|exact Qdu F
   .rintro r s' ⟨rfl,F⟩;exact Qae (F _)
end
def Jp(ys:Ai):Ai:=ys.foldl ins []
def yy(ys:Ai)(y:Str):Jp (ys++[y])=ins (Jp ys) y:=by simp[Jp]
def Zmm(S:Ai)(x:Str):(ins S x).length<=S.length+1:=by unfold ins;split<;>simp
theorem Wg(ys:Ai):∀i,(Jp (ys.take i)).length<=i
 |0=>by simp[Jp]
 |i+1=>by
  by_cases h:i<ys.length
  .rw[Qgw,Qad h,Option.toList_some,yy];have:=Wg ys i;have:=Zmm (Jp (ys.take i)) ys[i];lia
  .rw[Qbv (by lia)];have:=Wg ys i;rw[Qbv (by lia)]at this;lia
def qR{prog:An}{h':Heap}{led:Bool}{S:Ai}(q:z6 prog w h a led S)(g:∀o,h.get? a=some o->h'.get? a=some o):z6 prog w h' a led S:=by
 obtain⟨o,es,ep,t,C,rest⟩:=q;exact⟨o,es,ep,t,g o C,rest⟩
section
variable {prog:An}{w:Ar}{A:Ao}{R:Result->Shared->Prop}{I:Au}{fp wr:List Au}{G:Array GenState->Array GenState->Prop}{n:Nat}{P:Nat->Value->Prop}{St:Nat->Shared->Prop}
theorem Zby(W:WalksS prog w A.in1 I fp wr G n P St)(S:Au)(hSf:S∉fp){led:Bool}{ys:Ai}(hn:ys.length=n)
  (hval:∀i v,P i v->∃y t,ys[i]?=some y/\v=.str y t) (D:n+1<scanBound):
  ∀(k i:Nat)(s:Aq),n-i=k->i<=n->St i s->z6 prog w s.heap S led (Jp (ys.take i))->
   (∀s',Moved (S::wr) G s s'->z6 prog w s'.heap S led (Jp ys)->R (.ok (.ret .none)) s')->
   codeAny (model prog w) A (.builtin "set.update.loop" ⟨[.ref S,.ref I],[]⟩) R s:=by
 have hSw:S∉wr:=λh=>hSf (W.sub _ h);have g:∀b∈wr,b∈S::wr:=λb D=>Qak _ D;intro k
 induction k with
 |zero=>
  intro i s hk hi C hS hR;have hin:i=n:=by lia
  rw[hin,<-hn,Qbb]at hS;subst hin;refine Qcl F.entry_set_update_loop ?_;refine Qaa (W.done s _ _ C λs' O=>?_);exact Qae (hR s' (O.mono g) (qR hS λo ho=>O.heap S _ hSw ho))
 |succ k ih=>
  intro i s hk hi C hS hR;have Z:i<n:=by lia
  refine Qcl F.entry_set_update_loop ?_;refine Qaa (W.item i s _ _ Z C λv s' hP J O=>?_);obtain⟨y,t,hy,rfl⟩:=hval i v hP;have hS':=qR hS λo ho=>O.heap S _ hSw ho;refine Qaa (Qch ?_);refine Qch ?_;refine Qaa ((PySem.strKind prog w).pyHash (k:=y) (by show Value.isStrOf y (.str y t)=true;simp[Value.isStrOf]) ?_);have q:(Jp (ys.take i)).length+1<scanBound:=by have:=Wg ys i;lia
  refine Zez (s:={s' with toks:=s'.toks+1}) hS' q λh' b Q hS2=>?_;rw[<-yy,show ys.take i++[y]=ys.take (i+1) by rw[Qgw,hy,Option.toList_some]]at hS2;refine Qae ⟨Qdk F.plain_set_update_loop _,ih (i+1) _ (by lia) Z (W.frame _ s' _ _ J (Qd4 _) λb D o e=>?_) hS2 λs'' Y hS''=>?_⟩
  .rw[Q.2 b (λh:b=S=>hSf (by rw[<-h];exact D))];exact e
  .refine hR s'' (Moved.trans W.gtrans ((O.mono g).then_heap (Qd4 _) λb o D e=>?_) Y) hS'';rw[Q.2 b (λh:b=S=>D (by rw[h];exact Qam))];exact e
end
section
variable {prog:An}{w:Ar}{A:Ao}{E:Ab}{s:Aq}
def gr (w:Ar):Bool:=w.params.followText "set-order"
def Y4 (w:Ar):Obj:={cls:=.type "set",dict:=none,data:=.set #[] 0 (.fresh 0 0 (!gr w))}
def gM(a:As){Q₁:Ab}(h:Q₁ (.ref s.heap.objs.size) {s with heap:=s.heap.push (Y4 w)}):
  codeAny (model prog w) A (.call (.builtin "set.__new__") ⟨[.type "set",a],[]⟩) (wants Q₁ E) s:=by
 refine codeAny_of_tree ?_;show wpAny _ A.in1 (do checkBuiltinCall "set.__new__" ⟨[.type "set",a],[]⟩;again (.builtin "set.__new__" ⟨[.type "set",a],[]⟩)) _ _ s;refine Qaa (Qc8 (F.newCall_set_1 a) (Qae ⟨Qdk F.plain_set_new _,Qcl F.entry_set_new ?_⟩));rw[Qec F.plain_set_new _];unfold Builtin.«set.__new__» Builtin.Frozenset.newClass;have q:=sub_set_self;obtain⟨C,g,d,tk,os⟩:=s;dsimp only
 wp_walk
 refine Qg9 (Qae ?_);dsimp only;simp only[newObj];refine Qaa (wpAny_alloc (Qae ?_));exact Qae h
theorem jJ{l:Au}{items:Ah}{ys:Ai}
  (hh:A.handled=none) (hl:s.heap.IsList l items) (hi:StrsAre items.toList ys) (hb:items.size+1<scanBound)
  (h:∀(h':Heap)(tk:Nat),s.toks<=tk->z6 prog w h' s.heap.objs.size (!gr w) (Jp ys)->
   (∀b o,b<s.heap.objs.size->s.heap.get? b=some o->h'.get? b=some o)->Q (.ref s.heap.objs.size) {s with heap:=h',toks:=tk}):
  wpAny (model prog w) A (call (.type "set") [.ref l]) Q E s:=by
 obtain⟨c,tl,hmro⟩:=Qe1.mro;have hmade:=Qe1.made;have hsub:=Qe1.sub;refine wpAny_call (codeAny_of_tree ?_);show wpAny _ _ (callAny (.type "set") _) _ _ _;refine Qae ⟨Code.quiet_builtin _ (by decide +kernel),Qcl F.entry_type_call ?_⟩;rw[Around.under_plain (weight_type_call_type "set" [.ref l] []) U];have h1:=Qe1.notType;have h2:=Qe1.canCreate;have hct:=F.typeCall_set_1 (.ref l)
 repeat (any_goals (first|assumption|wp_step))
 refine Qew (gM (.ref l) (E:=E) (Q₁:=λobj C=>obj=.ref s.heap.objs.size/\C={s with heap:=s.heap.push (Y4 w)}) ⟨U,U⟩) λr C hr=>?_;cases r with
 |error e=>exact hr
 |ok fl=>
  cases fl with
  |ret obj=>
   obtain⟨rfl,rfl⟩:=hr;have hS:(s.heap.push (Y4 w)).get? s.heap.objs.size=some (Y4 w):=Qao _ rfl;have hT:Shared.TypeIs {s with heap:=s.heap.push (Y4 w)} (.ref s.heap.objs.size) "set" :=⟨_,hS,U⟩;have hli:=Qe1.init.lookup;have hbi:=Qe1.init.bind (.ref s.heap.objs.size)
   repeat (any_goals (first|assumption|wp_step))
   refine Qew (codeAny_call_builtin (R:=wants (λr s₂=>r=.none/\∃h' tk,s.toks<=tk/\s₂={s with heap:=h',toks:=tk} /\
     z6 prog w h' s.heap.objs.size (!gr w) (Jp ys) /\
     (∀b o,b<s.heap.objs.size->s.heap.get? b=some o->h'.get? b=some o)) E) Qe1.init.plain F.entry_set_init (check_set_init_1 hT ?_)) λO s₂ g=>?_
   .obtain⟨ol,hol,hcl,nl,hdl⟩:=hl;obtain⟨ocls,I,odata,q⟩:=ol;simp only at hcl hdl;subst hcl;subst hdl;have hol':(s.heap.push (Y4 w)).get? l=some {cls:=.type "list",dict:=I,data:=.seq items nl,slots:=q}:=Qab _ hol;have hsls:=F.sub_list_set;have hslf:=F.sub_list_frozenset;have hne:(Value.type "list" == Value.type "dict")=false:=by decide
    have Y:(s.heap.push (Y4 w)).IsList l items:=⟨_,hol',U,nl,U⟩;unfold Builtin.«set.__init__» noKeywords Builtin.Frozenset.updateFrom;generalize hPI:pyIter=PI
    wp_walk
    subst hPI;refine Qe2 Y ?_;refine Qaa (wpAny_runValue ?_);have Z:l<s.heap.objs.size:=Qav hol;have hh3:A.in1.in1.in1.handled=none:=by simp[hh]
    have hneI:l≠(s.heap.push (Y4 w)).objs.size:=by
     rw[Qby];exact Qbc (Qe3 Z)
    have hSf:s.heap.objs.size∉[(s.heap.push (Y4 w)).objs.size,l]:=by
     rw[Qby];simp only[Qaw,Qau,Qbq,Qet,not_or];exact⟨Qbc (Qdv _),Qel Z⟩
    have hval:∀(i:Nat)(v:As),items[i]?=some v->∃y t,ys[i]?=some y/\v=.str y t:=λi v hv=>by
     rw[<-Array.getElem?_toList]at hv;obtain⟨y,t,e1,e2⟩:=StrsAre.item hi i v hv;exact⟨y,t,e2,e1⟩
    refine Zby ((Walks.list hh3 _ l hneI items).toS) s.heap.objs.size
     hSf (led:=!gr w) (ys:=ys) (by rw[<-Qb6];exact hi.length.symm) hval hb (items.size-0) 0 _ (by lia) (Qbj _)
     ⟨⟨_,Qao _ U,U,U⟩,(Y.push _)⟩ ?hS0 ?hR
    case hS0=>
     exact⟨Y4 w,#[],0,.fresh 0 0 (!gr w),Qab _ hS,⟨U,U,U⟩,U,λe he=>by simp at he,by simp[Jp],U,U,.inl U⟩
    case hR=>
     intro s' hm D;have J:=hm.toks;obtain⟨h',g',d',tk',os'⟩:=s';have eg:g'=s.gens:=hm.gens;have ed:d'=s.drawn:=hm.drawn;have eo:os'=s.os:=hm.os;subst eg;subst ed;subst eo;show wpAny _ _ _ _ _ _;refine Qae ?_;show wpAny _ _ (ret Value.none) _ _ _;refine Qae ⟨U,h',tk',J,U,D,λb o hb e=>?_⟩;have hb1:b≠s.heap.objs.size:=Qbc hb;have hb2:b≠(s.heap.push (Y4 w)).objs.size:=by
      rw[Qby];exact Qbc (Qe3 hb)
     exact hm.heap b o (by simp only[Qaw,Qau,Qbq,Qet,not_or];exact⟨hb1,hb2⟩) (Qab _ (Qab _ e))
   .cases O with
    |error e=>exact g
    |ok G=>
     cases G with
     |ret r=>
      obtain⟨rfl,h',tk,J,rfl,D,hk'⟩:=g
      repeat (any_goals (first|assumption|wp_step))
      exact h _ _ J D hk'
     |_=>exact g.elim
  |_=>exact hr.elim
end
theorem ZH:Slot "set_iterator" "__next__" "set_iterator.__next__" :=
 .of (owner:= "set_iterator") (n:= "__next__") (by kernel_rfl) (by decide +kernel) (by decide +kernel) (by decide +kernel)
  (by first|exact .inl (by decide +kernel)|exact .inr (by decide +kernel)) (by kernel_rfl)
def YR:entryFor table "set_iterator.__next__" = some Builtin.«set_iterator.__next__»:=entryFor_of_tree (by kernel_rfl)
def owner_seti:Manifest.owners.lookup (String.ofList ['r','o','t','a','r','e','t','i','_','t','e','s'].reverse)=some Manifest.sig_set_iterator:=by kernel_rfl
def Xo (a:As):argsOk "set_iterator.__next__" ⟨[a],[]⟩:=by
 kernel_rfl
theorem jK:entryFor table "set.__iter__" = some Builtin.«frozenset.__iter__» :=
 entryFor_alias (id':= "frozenset.__iter__") (by kernel_rfl) U (by decide +kernel) (by kernel_rfl)
section
variable {prog:An}{w:Ar}{A:Ao}{E:Ab}{s:Aq}
def Zbz{g:Source}{Q:Nat->Shared->Prop}(q:n≠0)(h:∀i d,i<n->Q i {s with drawn:=d}):A1 prog w A (choose g n) Q E s:=by
 intro Γ p C;exact⟨q,h _ _ (Nat.mod_lt _ (Nat.pos_of_ne_zero q))⟩
theorem YS{α:Type}:∀(xs:List α)(i:Nat)(x:α),xs[i]?=some x->(x::xs.eraseIdx i).Perm xs
 |[],i,x,h=>by simp at h
 |y::ys,0,x,h=>by simp at h;subst h;exact .rfl
 |y::ys,i+1,x,h=>(List.Perm.swap y x _).trans ((YS ys i x h).cons y)
theorem GS{α:Type}:∀(n:Nat)(xs:List α)(s:Aq)(Q:List α->Shared->Prop),xs.length<=n->(∀ys d,ys.Perm xs->Q ys {s with drawn:=d})->A1 prog w A (drawOrder n xs) Q E s
 |0,xs,s,Q,q,h=>by
  have:xs=[]:=Qbz (by lia);subst this;exact Qae (h [] s.drawn .rfl)
 |n+1,[],s,Q,q,h=>Qae (h [] s.drawn .rfl)
 |n+1,y::ys,s,Q,q,h=>by
  refine Qaa (Zbz (by simp) λi d hi=>?_);obtain⟨x,g⟩:∃x,(y::ys)[i]?=some x:=⟨_,Qad hi⟩;rw[g];refine Qaa (GS n _ _ _ (by grind) λzs C hz=>(Qae (h _ C ((hz.cons x).trans (YS _ i x g)))))
end
theorem xr{α:Type}(next:Nat->Nat):∀(g k:Nat)(left:List α)(out:Array α),g=left.length->(pickOrder.go next g k left out).toList.Perm (out.toList++left)
 |0,k,left,out,h=>by
  have:=Qbz h.symm;subst this;unfold pickOrder.go;simp
 |g+1,k,left,out,h=>by
  unfold pickOrder.go;have hi:next k%left.length<left.length:=Nat.mod_lt _ (by lia);rw[Qad hi];refine(xr next g _ _ _ (by grind)).trans ?_;rw[Array.toList_push,Qcm];exact(YS left _ _ (Qad hi)).append_left _
def Wh(next:Nat->Nat)(xs:Array g):(pickOrder next xs).toList.Perm xs.toList:=by
 unfold pickOrder;simpa using xr next xs.size 0 _ #[] (by simp)
def Jx(h:Heap)(a:Au)(es:Array (Int×As))(ep:Nat)(t:SetTable):Prop:=∃o,h.get? a=some o/\o.ExactSet/\o.data=.set es ep t/\t.fits es.size=true
def Y5 (h:Heap) (I a:Au) (first:As) (i n ep:Nat):Prop:=∃o,h.get? I=some o/\o.cls=.type "set_iterator" /\ o.data=.fields #[first,.int i 0,.ref a,.int n 0,.int ep 0]
section
variable {prog:An}{w:Ar}{A:Ao}{E:Ab}{s:Aq}
def Y5.typeIs  {first:As}  (x:Y5 s.heap f a first i n L):s.TypeIs (.ref f) "set_iterator" :=let⟨o,ho,hc,_⟩:=x;⟨o,ho,hc⟩
def Y5.at{h':Heap}{first:As}(x:Y5 h f a first i n L)(e:∀o,h.get? f=some o->h'.get? f=some o):Y5 h' f a first i n L:=let⟨o,ho,r⟩:=x;⟨o,e _ ho,r⟩
def Jx.at{h':Heap}{es:Array (Int×As)}{t:SetTable}(x:Jx h a es i t)(e:∀o,h.get? a=some o->h'.get? a=some o):Jx h' a es i t:=let⟨o,ho,r⟩:=x;⟨o,e _ ho,r⟩
def X8{Q:Bool->Shared->Prop}(h:Q (gr w) s):A1 prog w A setsByText Q E s:=Qaa (Qg9 (Qae h))
def xt{es:Array (Int×As)}{t:SetTable}{given:Nat}{Q:Option (As×Nat)->Shared->Prop}(g:gr w=true)(G:Jx s.heap a es i t)
  (h:Q (((pickOrder (w.params.setOrder a i) es)[given]?).map λe=>(e.2,0)) s):A1 prog w A (setNext a 0 given i) Q E s:=by
 obtain⟨o,D,F,q,C⟩:=G;refine Qaa (Qeh D q C ?_);refine Qaa (X8 ?_);rw[g];simp;refine Qaa (Qaa (Qeh D q C ?_));refine Qaa (X8 ?_);rw[g];refine Qaa (Qg9 (Qae (Qae h)))
def GU{es:Array (Int×As)}{t:SetTable}{given:Nat}{Q:Option (As×Nat)->Shared->Prop}(D:gr w=false)(I:Jx s.heap a es i t)(C:t.led=true)(hz:es.size<=1)
  (h:Q (match es[SetTable.below t.place n]?,t.place[SetTable.below t.place n]? with|some (_,x),some j=>some (x,j+1)|_,_=>none) s):A1 prog w A (setNext a n given i) Q E s:=by
 obtain⟨o,J,q,F,G⟩:=I;refine Qaa (Qeh J F G ?_);refine Qaa (X8 ?_);rw[D];have g:decide (es.size>1)=false:=by simp;lia
 show wpAny _ _ (if(!t.plain&&decide _)=true then _ else _) _ _ _;rw[g,Bool.and_false];refine Qaa (m:=(if(!t.led && !es.isEmpty)=true then unsupported _ else pure ())) ?_;rw[C];exact Qae (Qae h)
def vh{es:Array (Int×As)}{t:SetTable}{e:Int×As}(F:Jx s.heap a es i t)(q:es[n]?=some e)
  (h:Q e.2 s):A1 prog w A (setNextDrawn a n i) Q E s:=by
 obtain⟨o,G,g,C,D⟩:=F;refine Qaa (Qeh G C D ?_);simp;rw[q];exact Qae h
def Zb0{first:As}(x:Y5 s.heap f a first i n L){q:Nat}:
  Y5 ((s.heap.update f (Obj.mapFields (·.setIfInBounds 0 v))).update f (Obj.mapFields (·.setIfInBounds 1 (.int q 0)))) f a v q n L:=by
 obtain⟨o,D,F,C⟩:=x;have h1:=Qbi (Obj.mapFields (·.setIfInBounds 0 v)) D (Qcv (Qbr C _));have g:=Qbr C (·.setIfInBounds 0 v);refine⟨_,Qbi _ h1 (Qcv (Qbr g _)),(Qe4 ..).trans ((Qe4 ..).trans F),?_⟩;rw[Qbr g];simp
def kW{es:Array (Int×As)}{t:SetTable}{x:As}{nx:Nat}{Q:Aa}(g:Y5 s.heap f a (.int L 0) i es.size n)(O:Jx s.heap a es n t)
  (Z:∀(G:Option (As×Nat)->Shared->Prop)(I:Ab),G (some (x,nx)) s->A1 prog w A.in1 (setNext a L i n) G I s)
  (J:∀h',Y5 h' f a (.int nx 0) (i+1) es.size n->Heap.SameBut f s.heap h'->Q (some x) {s with heap:=h'}):A1 prog w A (pyNext (.ref f)) Q E s:=by
 obtain⟨o,D,hc,q⟩:=id g;obtain⟨os,C,Y,F,hf⟩:=id O;refine Qaa (Qdj (wpAny_callSpecial?_slot (name:=Str.ofString "__next__") g.typeIs ZH
  (Qbo ZH g.typeIs YR ?_ (Xo _))))
 refine Qaa (Qae ?_);refine Qaa (Qgr D q ?_);refine Qaa (Qep C F hf ?_);simp;refine Qaa (Z _ _ ?_);refine Qaa (Qc7 D q (by simp) ?_);have h1:=Qbi (Obj.mapFields (·.setIfInBounds 0 (rawInt (nx:Int)))) D (Qcv (Qbr q _));refine Qaa (Qc7 h1 (Qbr q _) (by simp) ?_);exact Qae ⟨_,U,Qae (J _ (Zb0 g) ((Qcb ..).trans (Qcb ..)))⟩
def Zam{es:Array (Int×As)}{t:SetTable}{Q:Aa}(hh:A.handled=none)(g:Y5 s.heap f a (.int L 0) i es.size n)(O:Jx s.heap a es n t)
  (Z:∀(D:Option (As×Nat)->Shared->Prop)(I:Ab),D none s->A1 prog w A.in1 (setNext a L i n) D I s)
  (J:∀h',Heap.ExtBut f s.heap h'->Q none {s with heap:=h'}):A1 prog w A (pyNext (.ref f)) Q E s:=by
 obtain⟨o,F,hc,G⟩:=id g;obtain⟨os,q,Y,C,hf⟩:=id O;refine Qaa (Qdj (wpAny_callSpecial?_slot (name:=Str.ofString "__next__") g.typeIs ZH
  (Qbo ZH g.typeIs YR ?_ (Xo _))))
 refine Qaa (Qae ?_);refine Qaa (Qgr F G ?_);refine Qaa (Qep q C hf ?_);simp only[Qfq,Qda,↓reduceIte];refine Qaa (Z _ _ ?_);refine Qaa (Qc7 F G (by simp) ?_);refine Qaa ?_;refine Qaa (Qbm ?_ (by size_fits));refine Qaa (m:=firstArgMember _ _) (Qc8 (a:=Value.none) (by first|rfl|(rfl)) ?_);refine Qbm ?_ (by size_fits);refine Qaa (Qg1 ?_);rw[show A.in1.handled=none from hh];refine Qaa (Qae (Qhj ?_));refine Qaa (Qdd (T:= "StopIteration") (b:=true) ⟨_,Qao _ U,U⟩ Qfr ?_);exact Qae (J _ (((Qcb ..).extBut.push _).push _))
def Zb1{p:Au}{es:Array (Int×As)}{t:SetTable}{ps:Aj}{pl:Nat}{e:Int×As}{op:Obj}{Q:Aa}(g:Y5 s.heap f a (.ref p) i es.size n)(I:Jx s.heap a es n t)
  (Y:s.heap.get? p=some op) (G:op.data=.seq (ps.map λ(k:Nat)=>rawInt k).toArray L) (hi:ps[i]?=some pl) (he:es[pl]?=some e)
  (J:∀h',Y5 h' f a (.ref p) (i+1) es.size n->Heap.SameBut f s.heap h'->Q (some e.2) {s with heap:=h'}):A1 prog w A (pyNext (.ref f)) Q E s:=by
 obtain⟨o,D,hc,q⟩:=id g;obtain⟨os,C,O,F,Z⟩:=id I;refine Qaa (Qdj (wpAny_callSpecial?_slot g.typeIs ZH
  (Qbo ZH g.typeIs YR ?_ (Xo _))))
 refine Qaa (Qae ?_);refine Qaa (Qgr D q ?_);refine Qaa (Qep C F Z ?_);simp only[Qfq,Qda,↓reduceIte];refine Qaa (Qcc Y G ?_);dsimp only;rw[show((ps.map λ(k:Nat)=>rawInt k).toArray)[(i:Int).toNat]?=some (rawInt pl) by simp[hi]];simp only[rawInt,Qay];refine Qaa (vh I he ?_);refine Qaa (Qc7 D q (by simp) ?_);refine Qae ⟨_,U,Qae (J _ ⟨_,Qbi _ D (Qcv (Qbr q _)),(Qe4 ..).trans hc,?_⟩ (Qcb ..))⟩;rw[Qbr q];simp
def Ze0{p:Au}{es:Array (Int×As)}{t:SetTable}{ps:Aj}{op:Obj}{Q:Aa}(hh:A.handled=none)(g:Y5 s.heap f a (.ref p) i es.size n)(J:Jx s.heap a es n t)
  (Y:s.heap.get? p=some op) (G:op.data=.seq (ps.map λ(k:Nat)=>rawInt k).toArray L) (hi:ps[i]?=none)
  (I:∀h',Heap.ExtBut f s.heap h'->Q none {s with heap:=h'}):A1 prog w A (pyNext (.ref f)) Q E s:=by
 obtain⟨o,D,hc,q⟩:=id g;obtain⟨os,C,O,F,Z⟩:=id J;refine Qaa (Qdj (wpAny_callSpecial?_slot (name:=Str.ofString "__next__") g.typeIs ZH
  (Qbo ZH g.typeIs YR ?_ (Xo _))))
 refine Qaa (Qae ?_);refine Qaa (Qgr D q ?_);refine Qaa (Qep C F Z ?_);simp only[Qfq,Qda,↓reduceIte];refine Qaa (Qcc Y G ?_);dsimp only;rw[show((ps.map λ(k:Nat)=>rawInt k).toArray)[(i:Int).toNat]?=none by simp;simpa using hi];refine Qaa (Qc7 D q (by simp) ?_);have h1:=Qbi (Obj.mapFields (·.setIfInBounds 0 (rawInt 0))) D (Qcv (Qbr q _));refine Qaa (Qc7 (s:={s with heap:=s.heap.update f (Obj.mapFields (·.setIfInBounds 0 (rawInt 0)))}) h1 (Qbr q _) (by simp) ?_);refine Qaa ?_;refine Qaa (Qbm ?_ (by size_fits));refine Qaa (m:=firstArgMember _ _) (Qc8 (a:=Value.none) (by first|rfl|(rfl)) ?_);refine Qbm ?_ (by size_fits);refine Qaa (Qg1 ?_);rw[show A.in1.handled=none from hh];refine Qaa (Qae (Qhj ?_));refine Qaa (Qdd (T:= "StopIteration") (b:=true) ⟨_,Qao _ U,U⟩ Qfr ?_);exact Qae (I _ ((((Qcb ..).trans (Qcb ..)).extBut.push _).push _))
end
theorem Gj:Slot "set_iterator" "__iter__" "set_iterator.__iter__" :=
 .of (owner:= "set_iterator") (n:= "__iter__") (by kernel_rfl) (by decide +kernel) (by decide +kernel) (by decide +kernel)
  (by first|exact .inl (by decide +kernel)|exact .inr (by decide +kernel)) (by kernel_rfl)
theorem z9:entryFor table "set_iterator.__iter__" = some Builtin.«dict_keyiterator.__iter__» :=
 entryFor_alias (id':= "dict_keyiterator.__iter__") (by kernel_rfl) U (by decide +kernel) (by kernel_rfl)
def jL (a:As):argsOk "set_iterator.__iter__" ⟨[a],[]⟩:=by
 kernel_rfl
section
variable {prog:An}{w:Ar}{A:Ao}{E:Ab}{s:Aq}
def zA{first:As}(g:Y5 s.heap f a first i n L)(h:Q (.ref f) s):A1 prog w A (pyIter (.ref f)) Q E s:=by
 refine Qfp g.typeIs Gj (Qbo Gj g.typeIs z9 (Qae ⟨_,U,_,_,g.typeIs,ZH.lookup,h⟩) (jL _))
def Txs(g:List (Int×As))(i:Nat)(v:As):Prop:=∃e,g[i]?=some e/\v=e.2
def Zb2{es:Array (Int×As)}{t:SetTable}(g:gr w=true)(hh:A.handled=none)(I:a≠f):
  Walks prog w A f [f,a] [f] es.size (Txs (pickOrder (w.params.setOrder a n) es).toList) (λi h=>Y5 h f a (.int (0:Nat) 0) i es.size n/\Jx h a es n t)where
 sub:=λb g=>by simp at g;simp[g]
 frame:=λ_ _ _ st J=>⟨st.1.at λo e=>J f (by simp) o e,st.2.at λo e=>J a (by simp) o e⟩
 item:=λi s Q E hi st C=>by
  have hsz:=by simpa using (Wh (w.params.setOrder a n) es).length_eq
  obtain⟨e,O⟩:∃e,(pickOrder (w.params.setOrder a n) es)[i]?=some e:=⟨_,Qeb (by lia)⟩;refine kW st.1 st.2 (x:=e.2) (nx:=0) (λZ Y q=>xt g st.2 (by rw[O];exact q)) λh' F D=>?_;exact C e.2 h' s.toks ⟨e,by simpa using O,U⟩ ⟨F,st.2.at λo e=>D.extBut a o I e⟩ λb o g e=>D.extBut b o (λh=>g (by simp[h])) e
 done:=λs Q E st C=>by
  have hsz:=by simpa using (Wh (w.params.setOrder a n) es).length_eq
  exact Zam hh st.1 st.2 (λZ Y q=>xt g st.2 (by grind)) λh' G=>C h' s.toks λb o g e=>G b o (λh=>g (by simp[h])) e
 self:=λ_ _ _ _ st C=>zA st.1 C
theorem gN{p:Au}{es:Array (Int×As)}{t:SetTable}{ps:Aj}(C:ps.Perm (List.range es.size))(hh:A.handled=none)(hne:a≠f)(Z:p≠f):
  Walks prog w A f [f,a,p] [f] es.size (Txs (ps.filterMap (es[·]?))) (λi h=>Y5 h f a (.ref p) i es.size n/\Jx h a es n t/\∃op np,h.get? p=some op/\op.data=.seq (ps.map λ(k:Nat)=>rawInt k).toArray np)where
 sub:=λb J=>by simp at J;simp[J]
 frame:=λ_ _ _ st g=>⟨st.1.at λo e=>g f (by simp) o e,st.2.1.at λo e=>g a (by simp) o e,let⟨op,np,h1,h2⟩:=st.2.2;⟨op,np,g p (by simp) op h1,h2⟩⟩
 item:=λi s Q E hi st I=>by
  obtain⟨op,np,h1,h2⟩:=st.2.2;have D:ps.length=es.size:=by simpa using C.length_eq
  have q:∀k∈ps,k<es.size:=λk g=>by simpa using C.mem_iff.mp g
  have F:ps[i]?=some (ps[i]'(by lia)):=Qad _;have g:ps[i]'(by lia)<es.size:=q _ (Qck _);have hfm:ps.filterMap (es[·]?)=ps.map (λk=>es.getD k (0,.none)):=by
   clear F C D g hi h1 h2 st I
   induction ps with
   |nil=>rfl
   |cons k ks ih=>
    have:=q k (by simp);rw[List.filterMap_cons_some (b:=es.getD k (0,.none)) (by simp[Array.getD,this]),ih λk g=>q k (by simp[g]),Qb1]
  refine Zb1 st.1 st.2.1 h1 h2 F (Qeb g) λh' O G=>?_;refine I _ h' s.toks ⟨_,?_,U⟩ ⟨O,st.2.1.at λo e=>G.extBut a o hne e,op,np,G.extBut p op Z h1,h2⟩ λb o J e=>G.extBut b o (λh=>J (by simp[h])) e;rw[hfm,Qal,F];simp[Array.getD,g]
 done:=λs Q E st I=>by
  obtain⟨op,np,h1,h2⟩:=st.2.2;have D:ps.length=es.size:=by simpa using C.length_eq
  exact Ze0 hh st.1 st.2.1 h1 h2 (by simp;lia) λh' Y=>I h' s.toks λb o J e=>Y b o (λh=>J (by simp[h])) e
 self:=λ_ _ _ _ st I=>zA st.1 I
def kX(j:Nat):SetTable.below #[j] 0=0/\SetTable.below #[j] (j+1)=1:=by
 constructor<;>simp[SetTable.below,SetTable.below.go]
def gO{es:Array (Int×As)}{t:SetTable}(C:gr w=false)(hl:t.led=true)(hz:es.size<=1)(hh:A.handled=none)(hne:a≠f):
  Walks prog w A f [f,a] [f] es.size (Txs es.toList) (λi h=>∃g:Nat,(i=0->g=0)/\(i=1->∃j,t.place=#[j]/\g=j+1)/\Y5 h f a (.int g 0) i es.size n/\Jx h a es n t)where
 sub:=λb C=>by simp at C;simp[C]
 frame:=λ_ _ _ st hk=>by
  obtain⟨g,G,J,h1,h2⟩:=st;exact⟨g,G,J,h1.at λo e=>hk f (by simp) o e,h2.at λo e=>hk a (by simp) o e⟩
 item:=λi s Q E hi st F=>by
  obtain⟨g,G,J,h1,h2⟩:=st;have Y:i=0:=by lia
  subst Y;obtain rfl:=G rfl;have hps:t.place.size=1:=by
   obtain⟨o,ho,hex,hd,hf⟩:=h2;simp only[SetTable.fits,Qce,beq_iff_eq,decide_eq_true_eq]at hf;lia
  obtain⟨j,O⟩:∃j,t.place=#[j]:=⟨t.place[0],by grind⟩;obtain⟨e,he⟩:∃e,es[0]?=some e:=⟨_,Qeb (by lia)⟩;refine kW h1 h2 (x:=e.2) (nx:=j+1) (λQ' E' q=>GU C h2 hl hz (by rw[O,(kX j).1,he];exact q)) λh' D I=>?_;exact F e.2 h' s.toks ⟨e,by simpa using he,U⟩ ⟨j+1,λz=>absurd z (by lia),λ_=>⟨j,O,U⟩,D,h2.at λo e=>I.extBut a o hne e⟩ λb o C e=>I.extBut b o (λh=>C (by simp[h])) e
 done:=λs Q E st F=>by
  obtain⟨g,G,J,h1,h2⟩:=st;refine Zam hh h1 h2 (λQ' E' q=>GU C h2 hl hz ?_) λh' Z=>F h' s.toks λb o C e=>Z b o (λh=>C (by simp[h])) e
  by_cases h0:es.size=0
  .grind
  .obtain⟨j,O,rfl⟩:=J (by lia);rw[O,(kX j).2,Array.getElem?_eq_none (by lia)];exact q
 self:=λ_ _ _ _ st F=>by
  obtain⟨g,G,J,h1,h2⟩:=st;exact zA h1 F
def gP{es:Array (Int×As)}{t:SetTable}{Q:Bool->Shared->Prop}(D:Jx s.heap a es i t)(h:Q (!gr w&&(!t.plain&&decide (es.size>1))) s):A1 prog w A (setDrawn a) Q E s:=by
 obtain⟨o,F,g,q,C⟩:=D;refine Qaa (Qeh F q C ?_);refine Qaa (X8 (Qae h))
structure SetW(prog:An)(w:Ar)(h h':Heap)(I a:Au)(es:Array (Int×As))(ord:List (Int×As))(fp:List Au)(St:Nat->Heap->Prop):Prop where
 old:∀b o,h.get? b=some o->h'.get? b=some o
 new:h.objs.size<=I
 perm:ord.Perm es.toList
 lt:∀b∈fp,b<h'.objs.size
 mem:I∈fp
 st:St 0 h'
 walks:∀A:Ao,A.handled=none->Walks prog w A I fp [I] es.size (Txs ord) St
 apart:∀b∈fp,b=a\/h.objs.size<=b
def Zh8{es:Array (Int×As)}{t:SetTable}(J:Jx s.heap a es n t)(hl:t.led=!gr w)(hp:es.size=0\/t.plain=false)(hz:es.size<=sizeLine)
  (hQ:∀h' d I ord fp St,SetW prog w s.heap h' I a es ord fp St->Q (.ref I) {s with heap:=h',drawn:=d}):A1 prog w A (pyIter (.ref a)) Q E s:=by
 obtain⟨o,G,hex,Z,hf⟩:=id J;have hT:s.TypeIs (.ref a) "set" :=⟨o,G,hex.1⟩;have O:=Qav G;refine Qfp hT F.slot_set_iter (Qbo F.slot_set_iter hT jK ?_ (F.args_set_iter_1 _));unfold Builtin.«frozenset.__iter__» Builtin.Frozenset.slot0 slotArgs;simp only[List.isEmpty_nil,Bool.not_true,Qda,↓reduceIte,bind_assoc,Qey,Qfq];refine Qaa (Qae ?_);refine Qaa (Qae ?_);refine Qaa (Qaa (Qep G Z hf (Qae ?_)));refine Qaa (gP J ?_);cases hb:gr w with
 |true=>
  refine Qaa (Qae ?_);refine Qaa (Qgx G Z hf ?_);have C:(s.heap.push {cls:=.type "set_iterator",data:=.fields #[rawInt 0,rawInt 0,.ref a,rawInt es.size,rawInt n]}).get? s.heap.objs.size=some {cls:=.type "set_iterator",data:=.fields #[rawInt 0,rawInt 0,.ref a,rawInt es.size,rawInt n]}:=Qao _ rfl;refine Qaa (Qbm (Qae ⟨_,U,"set_iterator",_,⟨_,C,U⟩,ZH.lookup,?_⟩));refine hQ _ s.drawn s.heap.objs.size _ _ _ ⟨λb o e=>Qab _ e,Qai _,Wh (w.params.setOrder a n) es,λb g=>?_,Qam,⟨⟨_,C,U,U⟩,J.at λo e=>Qab _ e⟩,λA' hh=>Zb2 hb hh (Qbc O),λb g=>(Qaw.mp g).elim (λe=>.inr (e ▸ Qai _)) λg=>.inl (Qau.mp g)⟩;rw[Qby];rcases Qaw.mp g with rfl|g
  .exact Qdv _
  .grind
 |false=>
  rw[hb]at hl
  by_cases hd1:es.size>1
  .have hpl:t.plain=false:=hp.resolve_left (by lia);rw[hpl,Qar hd1];refine Qaa (GS _ _ _ _ (Qgl Qa3) λps d D=>?_);have hpn:ps.length=es.size:=by simpa using D.length_eq
   refine Qaa (Qgq ?_ (by rw[Qac];lia));refine Qaa (Qgx (Qab _ G) Z hf ?_);generalize hH:s.heap.push {cls:=.type "tuple",data:=.seq (ps.map λ(i:Nat)=>rawInt i).toArray}=H;have Y:H.objs.size=s.heap.objs.size+1:=by rw[<-hH,Qby]
   have q:∀b o,s.heap.get? b=some o->H.get? b=some o:=λb o e=>hH ▸ Qab _ e;have htp:H.get? s.heap.objs.size=some {cls:=.type "tuple",data:=.seq (ps.map λ(i:Nat)=>rawInt i).toArray}:=hH ▸ Qao _ rfl;have C:(H.push {cls:=.type "set_iterator",data:=.fields #[.ref s.heap.objs.size,rawInt 0,.ref a,rawInt es.size,rawInt n]}).get? H.objs.size=some {cls:=.type "set_iterator",data:=.fields #[.ref s.heap.objs.size,rawInt 0,.ref a,rawInt es.size,rawInt n]}:=Qao _ rfl;refine Qaa (Qbm (s:={s with heap:=H,drawn:=d}) (Qae ⟨_,U,"set_iterator",_,⟨_,C,U⟩,ZH.lookup,?_⟩));refine hQ _ d H.objs.size _ _ _ ⟨λb o e=>Qab _ (q b o e),by rw[Y];exact Qd4 _,?_,λb g=>?_,Qam,⟨⟨_,C,U,U⟩,J.at λo e=>Qab _ (q a o e),_,_,Qab _ htp,U⟩,λA' hh=>gN (p:=s.heap.objs.size) D hh (λe=>by grind) (λe=>by grind),λb g=>(Qaw.mp g).elim (λe=>.inr (by rw[e,Y];exact Qd4 _)) λg=>(Qaw.mp g).elim .inl λg=>.inr (by grind)⟩
   .exact(D.filterMap _).trans (by rw[filterMap_getElem?_range])
   .rw[Qby];rcases Qaw.mp g with rfl|g
    .exact Qdv _
    .grind
  .have hd2:decide (es.size>1)=false:=by simp;lia
   rw[hd2,Bool.and_false];refine Qaa (Qae ?_);refine Qaa (Qgx G Z hf ?_);have C:(s.heap.push {cls:=.type "set_iterator",data:=.fields #[rawInt 0,rawInt 0,.ref a,rawInt es.size,rawInt n]}).get? s.heap.objs.size=some {cls:=.type "set_iterator",data:=.fields #[rawInt 0,rawInt 0,.ref a,rawInt es.size,rawInt n]}:=Qao _ rfl;refine Qaa (Qbm (Qae ⟨_,U,"set_iterator",_,⟨_,C,U⟩,ZH.lookup,?_⟩));refine hQ _ s.drawn s.heap.objs.size _ _ _ ⟨λb o e=>Qab _ e,Qai _,.rfl,λb g=>?_,Qam,⟨0,λ_=>U,λz=>absurd z (by lia),⟨_,C,U,U⟩,J.at λo e=>Qab _ e⟩,λA' hh=>gO hb (by simpa using hl) (by lia) hh (Qbc O),λb g=>(Qaw.mp g).elim (λe=>.inr (e ▸ Qai _)) λg=>.inl (Qau.mp g)⟩;rw[Qby];rcases Qaw.mp g with rfl|g
   .exact Qdv _
   .grind
def gQ{es:Array (Int×As)}{t:SetTable}{Q:Ag->Shared->Prop}(hh:A.handled=none)(hs:Jx s.heap a es n t)(hl:t.led=!gr w)(hp:es.size=0\/t.plain=false)(hz:es.size<=sizeLine)
  (hQ:∀(h':Heap)(d:Drawn)(tk:Nat)(q:List (Int×As)),(∀b o,s.heap.get? b=some o->h'.get? b=some o)->s.heap.objs.size<=h'.objs.size->q.Perm es.toList->Q (q.map (·.2)) {s with heap:=h',drawn:=d,toks:=tk}):A1 prog w A (collect (.ref a)) Q E s:=by
 obtain⟨o,ho,hex,hd,hf⟩:=id hs;have hlt:=Qav ho;unfold collect;refine Qaa (wpAny_runValue (Qcl F.entry_proto_collect ?_));rw[Qec F.plain_proto_collect _];show wpAny _ A.in1 (newList [] >>= λl=>again (.builtin "list.__iadd__" ⟨[l,.ref a],[]⟩)) _ _ s;refine Qaa (Qbm ?_);refine Qae ⟨Qdk Qgy _,Qcl F.entry_list_iadd ?_⟩;rw[Qec Qgy _];generalize hH:s.heap.push {cls:=.type "list",data:=.seq ([]:Ag).toArray}=H;have hHs:H.objs.size=s.heap.objs.size+1:=by rw[<-hH,Qby]
 have g:∀b o,s.heap.get? b=some o->H.get? b=some o:=λb o e=>hH ▸ Qab _ e;have hS:H.get? s.heap.objs.size=some {cls:=.type "list",data:=.seq ([]:Ag).toArray}:=hH ▸ Qao _ rfl;have hs1:Jx H a es n t:=hs.at λo e=>g a o e;have hT:Shared.TypeIs {s with heap:=H} (.ref a) "set" :=⟨o,g a o ho,hex.1⟩;show wpAny _ A.in1 (Builtin.List.listExtendWith (.ref s.heap.objs.size) (.ref a) (.ref s.heap.objs.size)) _ _ _;unfold Builtin.List.listExtendWith;refine Qaa (Qex hT ?_);have h1:Builtin.List.listSameRef (.ref s.heap.objs.size) (.ref a)=false:=by simp[Builtin.List.listSameRef];exact Qel hlt
 have h2:(Value.type "set" == Value.type "list")=false:=by decide
 have h3:(Value.type "set" == Value.type "tuple")=false:=by decide
 simp only[h1,h2,h3,Bool.or_false,Qda,if_false];refine Qaa (Zh8 (s:={s with heap:=H}) hs1 hl hp hz λh1 d I q fp St W=>?_);refine Qaa (Qch ?_);unfold Builtin.List.listLengthHint;have J:Shared.TypeIs {s with heap:=h1,drawn:=d} (.ref a) "set" :=⟨o,W.old a o (g a o ho),hex.1⟩;refine Qaa (Qdn J F.slot_set_len.lookup ?_)
 wp_delta
 refine Qaa (Qdd (b:=true) J (by rw[isSubtype_type];kernel_rfl) ?_);show wpAny _ A.in1 (typeOf (Value.ref a) >>= _) _ _ _;refine Qaa (Qex J ?_);refine Qae ?_;show wpAny _ A.in1 (rule "list.extend.makes-room" >>= λ_=>Builtin.List.listTouch (.ref s.heap.objs.size) >>= λ_=>
  again (.builtin "list.extend.loop" ⟨[.ref s.heap.objs.size,.ref I,.ref s.heap.objs.size],[]⟩)) _ _ _
 refine Qaa (Qdu ?_);have hnf:s.heap.objs.size∉fp:=λY=>by
  rcases W.apart _ Y with e|e
  .exact absurd hlt (e ▸ Qb0 _)
  .exact absurd e (by show¬H.objs.size<=_;rw[hHs];exact Nat.not_succ_le_self _)
 have hS1:=W.old _ _ hS;refine Qaa ?_;show wpAny _ A.in1 (updateSeq s.heap.objs.size (·.push .none) >>= λ_=>updateSeq s.heap.objs.size (·.pop)) _ _ _;refine Qaa (Qdp (s:={s with heap:=h1,drawn:=d}) hS1 U ?_);have hS2:=Qbi (Obj.mapSeq (·.push Value.none)) hS1 rfl;refine Qdp (s:={s with heap:=h1.update s.heap.objs.size (Obj.mapSeq (·.push Value.none)),drawn:=d}) hS2 U ?_;have hS3:=Qbi (Obj.mapSeq (·.pop)) hS2 rfl;have oth:∀b o,b≠s.heap.objs.size->h1.get? b=some o->
   ((h1.update s.heap.objs.size (Obj.mapSeq (·.push Value.none))).update s.heap.objs.size (Obj.mapSeq (·.pop))).get? b=some o:=
  λb o Z e=>(Qbu _ _ (Qd7 Z)).trans ((Qbu _ _ (Qd7 Z)).trans e)
 refine Qae ⟨Qdk Qeq _,codeAny_extend_loopS (W.walks A.in1 hh).toS hz _ hnf _ es.size 0 _ _ _ U (Qbj _)
  ((W.walks A hh).frame 0 _ _ W.st λb Z o e=>oth b o (λh=>hnf (h ▸ Z)) e) hS3 (ItemsOf.nil _) λs' G c' Y hS' D=>?_⟩
 show wpAny _ A (load s.heap.objs.size >>= _) _ _ s';refine Qaa (wpAny_load hS' ?_);have O:G.toList=q.map (·.2):=by
  have hol:q.length=es.size:=by simpa using W.perm.length_eq
  apply List.ext_getElem
  .rw[Qac,Qb6,D.1,hol]
  .intro i i1 i2;rw[Qb6]at i1;obtain⟨e,he,hv⟩:=D.2 i G[i] (Qeb i1);rw[Array.getElem_toList,hv,List.getElem_map];rw[Qac]at i2;rw[Qad i2]at he;rw[Option.some.inj he]
 have eg:s'.gens=s.gens:=Y.gens;have ed:s'.drawn=d:=Y.drawn;have eo:s'.os=s.os:=Y.os;refine Qae ?_;have:=hQ s'.heap s'.drawn s'.toks q (λb ob e=>?_) ?_ W.perm
 .rw[<-O,<-eg,<-eo]at this;exact this
 .have C:=Qav e;refine Y.heap b ob (λZ=>?_) (oth b ob (Qbc C) (W.old b ob (g b ob e)));rcases Qaw.mp Z with h|h
  .exact absurd C (h ▸ Qb0 _)
  .rw[Qau.mp h]at C;have:=W.new;exact absurd C (Qgz.mpr (Qaz (by rw[hHs];exact Qd4 _) this))
 .exact Qax (Qav hS')
theorem GV:∀{l:List (Int×As)},ElemsOf (PySem.strKind prog w) l->StrsAre (l.map (·.2)) (l.map λe=>tx e.2)
 |[],_=>.nil
 |e::l,h=>by
  obtain⟨_,t,g⟩:=Zal h (Qam);rw[Qb1,g];exact .cons _ t (GV h.tail)
def Zb3{led:Bool}{S:Ai}(hh:A.handled=none)(hS:z6 prog w s.heap a (!gr w) S)(h64:S.length<64)
  (h:∀(h':Heap)(d:Drawn)(tk:Nat)(l:Au)(out:Ah)(J:Ai)(e:Nat),StrsAre out.toList J->J.Perm S->sortedS J=true->(∀b o,s.heap.get? b=some o->h'.get? b=some o)->s.heap.objs.size<=l->
   h'.get? l=some (seqObj "list" out e)->Q (.ref l) {s with heap:=h',drawn:=d,toks:=tk}):
  A1 prog w A (call (.builtin "sorted") [.ref a]) Q E s:=by
 obtain⟨o,es,ep,t,ho,Y,hd,hel,hp,hf,hl,Z⟩:=hS;have hn:es.size=S.length:=by rw[<-hp.length_eq,Qac,Qb6]
 refine Calls.call_function_entry kind_sorted plain_sorted entry_sorted (args_sorted1 _) ?_;refine Qaa (m:=checkCount "sorted" 1 1 _) (Qae ?_);refine Qaa (gQ (A:=A.in1) hh ⟨o,ho,Y,hd,hf⟩ hl Z (Qgv (by unfold scanBound;lia)) λh1 d tk q F hsz g=>?_);have I:(q.map (·.2)).length<64:=by rw[Qac,g.length_eq,Qb6];lia
 have C:StrsAre (q.map (·.2)) (q.map λe=>tx e.2):=GV (hel.perm g);have O:(q.map λe=>tx e.2).Perm S:=(g.map _).trans hp;generalize hV:q.map (·.2)=vs at I C ⊢;refine Qaa (wpAny_newList ?_);have D:(h1.push (seqObj "list" vs.toArray 0)).get? h1.objs.size=some (seqObj "list" vs.toArray 0):=Qao _ rfl;refine Qaa (Qch (Qbo slot_list_sort ⟨_,D,U⟩ entry_list_sort (list_sort_treeK strKind_oneLt D C.keysOf (λv₁ v₂ rest e=>keyKind_strs (by rw[<-e];exact C)) I λst' a1 a2=>⟨_,U,?_⟩) (args_list_sort _)));obtain⟨J,b1,b2,b3⟩:=sorted_out_str C a1 a2;obtain⟨e,he⟩:=sortedHeap_at (vs:=vs) (out:=(arrOf st').map (·.2)) (n:=0) D;refine Qae ⟨_,U,h _ d tk h1.objs.size _ J e b1 (b2.trans O) b3 (λb ob hb=>?_) hsz he⟩;have G:=Qbl (Qav hb) hsz;rw[sortedHeap_old (Qbc G) (by rw[size_push'];exact Qe3 G)];exact Qab _ (F b ob hb)
end
def TxO(P:An)(w:Ar)(a:Au)(S:Ai):HO:=.ext λh=>z6 P w h a (!gr w) S
theorem Inv.drew(I:Inv X m c H s)(d:Drawn):Inv X m c H {s with drawn:=d}:=
 ⟨I.ok,I.os,I.bare,I.base,I.loc,I.cell,I.free,I.freeC,I.pin,I.hok,I.len⟩
def Ze1 (O:X.calm=true):Xr X (.type "set") (λxs H Q=>∃(p:Au)(C:Ai),xs=[.ref p]/\SqL X.K H p (C.map V.str)/\C.length<4000 /\
  ∀a:Au,H a=none->Q (.ref a) (upd H a (TxO X.prog X.w a (Jp C)))):=by
 intro pins s σ H xs us Q I r h;obtain⟨p,C,rfl,Y,hn,q⟩:=h;obtain⟨u,rfl,J⟩:=vals1 r;cases J;obtain⟨Z,D,pl,hz⟩:=I.list Y;have g:=D.length;rw[Qac]at g;refine jJ (I.ok.hd O) pl.isList (by simpa using qN D) (by rw[Qb8];unfold scanBound;lia) λh' tk htk F G=>?_;refine⟨.ref _,_,I.laid (λb o e=>G b o (Qav e) e) (Qai _) ?_,U,q _ (I.hok.fresh (Qai _))⟩;obtain⟨o,es,ep,t,ho,rest⟩:=id F;exact⟨F,⟨o,ho⟩,λh1 h2 x k=>qR x k⟩
def vj (hc:X.calm=true):Xr X (.builtin "sorted") (λxs H Q=>∃(a:Au)(S:Ai),xs=[.ref a]/\H a=some (TxO X.prog X.w a S)/\S.length<64 /\
  ∀(l:Au)(g:Ai),H l=none->g.Perm S->sortedS g=true->Q (.ref l) (upd H l (.lst (g.map V.str)))):=by
 intro pins s σ H xs us Q I r h;obtain⟨a,S,rfl,hq,G,q⟩:=h;obtain⟨u,rfl,Z⟩:=vals1 r;cases Z;have J:=(I.hok a _ hq).1;refine Zb3 (led:=true) (I.ok.hd hc) J G λh' d tk l out Y e hi D O F C he=>?_;refine⟨.ref l,_,(I.drew d).laid F C ?_,U,q _ Y (I.hok.fresh C) D O⟩;have hm:=D.length_eq;exact⟨by rw[Qac];exact Qax (Zu (by lia)),_,e,Ju hi,by simpa using he⟩
def Zmn{y:Str}(h:x.cps.toList=y.cps.toList):x=y:=by
 cases x;cases y;simp;exact Array.toList_inj.mp h
def Zmo{y:Str}(h1:ltCps x.cps.toList y.cps.toList=false)(h2:ltCps y.cps.toList x.cps.toList=false):x=y:=by
 rw[ltCps_eq]at h1 h2;exact Zmn (List.le_antisymm (Qfg h2) (Qfg h1))
def Zh9{y z:Str}(h1:ltCps y.cps.toList x.cps.toList=false)(h2:ltCps z.cps.toList y.cps.toList=false):ltCps z.cps.toList x.cps.toList=false:=by
 rw[ltCps_eq]at h1 h2 ⊢;refine Qan ?_;have a1:=Qfg h1;have a2:=Qfg h2;exact(List.le_trans a1 a2)
theorem JW:∀(p:Str)(l:Ai),risingS p l=true->∀y∈l,ltCps y.cps.toList p.cps.toList=false
 |p,[],_,y,g=>nomatch g
 |p,x::r,h,y,g=>by
  have h':(!ltCps _ _&&risingS x r)=true:=h;rw[Qce,Bool.not_eq_true']at h';rcases Qaw.mp g with rfl|g
  .exact h'.1
  .exact Zh9 h'.1 (JW x r h'.2 y g)
def G7{p:Str}{l:Ai}(h:sortedS (p::l)=true):sortedS l=true:=by
 cases l with
 |nil=>rfl
 |cons x r=>
  have h':(!ltCps _ _&&risingS x r)=true:=h;rw[Qce]at h';exact h'.2
theorem yz:∀(l m:Ai),sortedS l=true->sortedS m=true->l.Perm m->l=m
 |[],m,_,_,p=>by rw[List.nil_perm.mp p]
 |x::l,m,h1,h2,p=>by
  cases m with
  |nil=>exact absurd (List.perm_nil.mp p) (by simp)
  |cons y m=>
   have C:x=y:=by
    have q:=p.mem_iff.mp Qam;have g:=p.mem_iff.mpr Qam;rcases Qaw.mp q with e|q
    .exact e
    .rcases Qaw.mp g with e|g
     .exact e.symm
     .exact Zmo (JW y m h2 x q) (JW x l h1 y g)
   subst C;rw[yz l m (G7 h1) (G7 h2) (p.cons_inv)]
def Zmp{S:Ai}{y:Str}:y∈ins S x↔y∈S\/y=x:=by
 unfold ins;split
 .grind
 .simp
def Ze2{S:Ai}(h:S.Nodup):(ins S x).Nodup:=by
 unfold ins;split
 .exact h
 .grind
theorem vk:∀(ys S:Ai),S.Nodup->(ys.foldl ins S).Nodup/\∀y,y∈ys.foldl ins S↔y∈S\/y∈ys
 |[],S,h=>⟨h,λy=>by simp⟩
 |x::r,S,h=>by
  obtain⟨a,b⟩:=vk r _ (Ze2 h);refine⟨a,λy=>(b y).trans ?_⟩;rw[Zmp,Qaw,or_assoc]
def gR(ys:Ai):(Jp ys).Nodup:=(vk ys [] Qdl).1
def zB{xs:A0}{is:Aj}(p:V->Bool)(S:Hp->Hp->Prop)(Q:∀H,S H H)(st:∀H1 H2 I,S H1 H2->S H2 I->S H1 I)(Y:∀H1,S H H1->SqT K H1 a xs)(hz:xs.length<=sizeLine)
  (J:∀x∈xs,∀H1,S H H1->∀R:Bool->Hp->Prop,(∀H2,S H1 H2->R (p x) H2)->D (xJ is c (some x)) H1 R)
  (O:∀x∈xs,∀H1,∀R:VK,R x H1->A (xJ is c (some x)) H1 R)
  (Z:∀H1 l,S H H1->H1 l=none->C (.ref l) (upd H1 l (.lst (xs.filter p)))):Gb is D A c C (Itt K a) H:=by
 refine JV (xs:=xs) (λi zs H'=>zs=(xs.take i).filter p/\S H H') ⟨U,Q H⟩ ?_ ?_ ?_ ?_
 .grind
 .grind
 .rintro i x zs H' R hR g ⟨rfl,q⟩;have F:=Qag g;have e:=take_snoc g;refine J x F H' q _ λH2 G=>?_;cases hp:p x with
  |true=>
   refine(Qa9 U) ▸ O x F H2 _ (hR _ _ ⟨?_,st _ _ _ q G⟩);rw[e,Qc9,Qcy,Qa9 hp];rfl
  |false=>
   refine(Qa6 Qbf) ▸ hR _ _ ⟨?_,st _ _ _ q G⟩;rw[e,Qc9,Qcy,Qa6 (by grind)];simp
 .grind
abbrev XW(o:Obj):HO:=.frz o (.ext λ_=>True)
def qS{o:Obj}(e:h.get? a=some o):Xw P w H h a (XW o):=⟨e,trivial,⟨o,e⟩,λ_ _ _ _=>trivial⟩
def hide(cs:List Au)(H:Hp):Hp:=λb=>if b∈cs then none else H b
def Jc(cs:List Au)(H H':Hp):Hp:=λb=>if b∈cs then H b else H' b
def YT{b:Au}(h:b∈R):hide R H b=none:=Qa9 h
def ZJ{b:Au}(h:b∉R):hide R H b=H b:=Qa6 h
def Jy{H':Hp}{b:Au}(h:b∈R):Jc R H H' b=H b:=Qa9 h
def Yy{H':Hp}{b:Au}(h:b∉R):Jc R H H' b=H' b:=Qa6 h
def of_hide{b:Au}{o:HO}(h:hide R H b=some o):b∉R/\H b=some o:=by
 by_cases m:b∈R
 .rw[YT m]at h;cases h
 .rw[ZJ m]at h;exact⟨m,h⟩
def qT(H H1:Hp):Prop:=∀b o u,H b=some (.frz o u)->H1 b=some (.frz o u)
def qT.refl(H:Hp):qT H H:=λ_ _ _ h=>h
def qT.trans{H2:Hp}(a:qT H d)(b:qT d H2):qT H H2:=λc o u h=>b c o u (a c o u h)
def ZD.frz{H H1:Hp}(a:ZD H H1):qT H H1:=λb o u h=>a b _ h
def Xp(P:An)(w:Ar)(K:Af)(mg:Ae)(base:Heap)(k:Nat)(f:Au)(H:Hp)(τ:Sp):Prop:=
 (∃o fd,H f=some (XW o)/\o.data=.func fd) /\
 ∀(A:Ao)(outer:List Env)(s:Aq)(H1:Hp)(g:Ag)(vs:A0)(Q:VK)(E:XK),qT H H1->JS k A->Zl0 P w K mg base A outer s H1->Vals vs g->τ vs H1 Q E->
  codeAny (model P w) A (.call (.ref f) ⟨g,[]⟩) (CR CX0 outer P w H1 s Q E) s
theorem Xp.frz{P:An}{w:Ar}{K:Af}{mg:Ae}{base:Heap}{k:Nat}{f:Au}{H H1:Hp}{τ:Sp}(c:Xp P w K mg base k f H τ)(h:qT H H1):Xp P w K mg base k f H1 τ:=
 ⟨let⟨o,fd,e,d⟩:=c.1;⟨o,fd,h _ _ _ e,d⟩,λA outer s H2 q vs Q E g=>c.2 A outer s H2 q vs Q E (h.trans g)⟩
section
variable {P:An}{w:Ar}{H H':Hp}{h h':Heap}{cs:List Au}
theorem gS(x:HOk P w H h)(g:∀c∈cs,∃o,H c=some (XW o)):HOk P w (hide cs H) h:=λa o e=>by
 obtain⟨_,C⟩:=of_hide e;refine(x a o C).stay (λ_ _ _ q=>q) (λd q=>?_) λd xs q=>?_
 .by_cases m:d∈cs
  .grind
  .rw[ZJ m];exact q
 .by_cases m:d∈cs
  .grind
  .rw[ZJ m];exact q
theorem Ze3(x:HOk P w H' h')(D:∀c∈cs,H' c=none)(C:∀c∈cs,∃o,H c=some (XW o)/\h'.get? c=some o):HOk P w (Jc cs H H') h':=λa o e=>by
 by_cases m:a∈cs
 .rw[Jy m]at e;obtain⟨ob,z,g⟩:=C a m;rw[z]at e;cases e;exact qS g
 .rw[Yy m]at e;refine(x a o e).stay (λ_ _ _ q=>q) (λd q=>?_) λd xs q=>?_
  .by_cases m:d∈cs
   .rw[D d m]at q;cases q
   .rw[Yy m];exact q
  .by_cases m:d∈cs
   .rw[D d m]at q;cases q
   .rw[Yy m];exact q
end
structure Zpi(scope:Scope)(ps ys:Ai):Prop where
 kind:scope.kind=.function
 co:scope.isCoroutine=false
 gen:scope.isGenerator=false
 cell:∀y∈scope.names,y.2≠.cell
 par:∀p∈ps,scope.names.lookup p=some .local
 free:∀y∈ys,scope.names.lookup y=some .free
 nd:(ps++ys).Nodup
def cxL(P:An)(w:Ar)(K:Af)(mg:Ae)(base:Heap)(N:Ai)(qual:Str)(scope:Scope)(f:Au)(g:As)(cl:List (Str×Au))(A:Ao)(outer:List Env)(s:Aq)(H:Hp):Cx where
 prog:=P
 w:=w
 K:=K
 mg:=mg
 base:=base
 A:=A.deeper (PySem.W.envX qual scope s.heap.objs.size f g cl)
 N:=N
 s₀:=s
 H₀:=H
 env:=PySem.W.envX qual scope s.heap.objs.size f g cl
 outer:=outer
 stack:=PySem.W.envX qual scope s.heap.objs.size f g cl::outer
 ex:=[]
 calm:=true
 fn:=λ_=>false
 pn:=[]
 xe:=λ_ _=>False
def Zpj(n:Nat)(te:TE)(cs:List Au)(g:List (Option V)):Sp:=λvs H Q _=>vs.length=n/\te (vs.map some++g) (hide cs H) λv H'=>(∀c∈cs,H' c=none)->Q v (Jc cs H H')
theorem y0{ps:Ai}(nd:ps.Nodup){u:As}(h1:ps[i]?=some x)(h2:Z[i]?=some u)(G:ps.length=Z.length):(ps.zip Z).reverse.lookup x=some u:=by
 have C:(x,u)∈ps.zip Z:=by
  obtain⟨a1,e1⟩:=Qah.mp h1;obtain⟨a2,e2⟩:=Qah.mp h2;rw[<-e1,<-e2,<-Qg7 (h:=by grind)];exact Qck _
 have F:((ps.zip Z).map (·.1)).Nodup:=by
  rw[List.map_fst_zip (by lia)];exact nd
 have g:((ps.zip Z).reverse.map (·.1)).Nodup:=by
  grind
 have q:=List.mem_reverse.mpr C;generalize (ps.zip Z).reverse=l at g q
 induction l with
 |nil=>cases q
 |cons p r I=>
  obtain⟨n,v⟩:=p;rcases Qaw.mp q with e|D
  .grind
  .grind
section
variable {P:An}{w:Ar}{K:Af}{mg:Ae}{base:Heap}
theorem Zan{A:Ao}{outer:List Env}{s':Aq}{H':Hp}{v:V}{u:As}(e0:Zl0 P w K mg base A outer s H)(D:∀c∈R,∃o v,H c=some (XW o)/\o.data=.cell v/\s.heap.get? c=some o)
  (os:s'.os=s.os) (G:AllBare s'.gens) (b:Un (frs outer) [] (hide R H) H' s.heap s'.heap) (J:HOk P w H' s'.heap) (rv:RelV v u) (q:(∀c∈R,H' c=none)->C v (Jc R H H')):CE outer P w H s C u s':=by
 have I:∀c∈R,∃o,H c=some _:=λc m=>let⟨o,_,e,_⟩:=D c m;⟨o,e⟩;have O:∀c∈R,c∉frs outer:=λc m z=>by
  obtain⟨o,e⟩:=I c m;rw[e0.frf c z]at e;cases e
 have Y:∀c∈R,H' c=none:=λc m=>by
  obtain⟨o,v,e,d,g⟩:=D c m;exact b.free c o g (YT m) (λz=>nomatch z)
 have hh:∀d,H d=none->hide R H d=none:=λd n=>by
  by_cases m:d∈R
  .exact YT m
  .rw[ZJ m];exact n
 have nm:∀d o,H d=some o->(∀ob,o≠XW ob)->d∉R:=λd o e ne m=>by
  grind
 refine⟨v,_,os,G,⟨λd o e n Q F=>b.keep d o e (hh d n) Q F,λd o e n Q F=>b.slot d o e (hh d n) Q F,λd o e n F=>?_,b.there,λd xs e=>?_,λd o u e=>?_,λd Z e=>?_⟩,Ze3 J Y λc m=>?_,rv,q Y⟩
 .by_cases m:d∈R
  .rw[Jy m];exact n
  .rw[Yy m];exact b.free d o e (hh d n) F
 .have m:=nm d _ e (λob z=>nomatch z);rw[Yy m];exact b.tups d xs (by rw[ZJ m];exact e)
 .by_cases m:d∈R
  .rw[Jy m];exact e
  .rw[Yy m];exact b.frzs d o u (by rw[ZJ m];exact e)
 .have m:=nm d _ e (λob z=>nomatch z);rw[Yy m];exact b.tbls d Z (by rw[ZJ m];exact e)
 .obtain⟨o,v,e,d,g⟩:=D c m;exact⟨o,e,b.keep c o g (YT m) (O c m) (λz=>nomatch z)⟩
theorem kY{k:Nat}{name qual:Str}{params:Arguments}{body:Av}{scope:Scope}{cl:List (Str×Au)}{pm ctv:As}{oc:Obj}{ps ys:Ai}{cv:List (Option V)}
  (S:Zpi scope ps ys) (hf:H f=some (XW (PySem.W.kla_obj name qual params body scope cl pm a ctv))) (hc:H a=some (XW oc)) (hoc:∃vs t,oc.data=.fields vs/\vs[1]?=some (.str qual t))
  (hcl:∀x c,cl.lookup x=some c->c∈R) (hcs:∀c∈R,∃o v,H c=some (XW o)/\o.data=.cell v)
  (inj:∀x y c,cl.lookup x=some c->cl.lookup y=some c->x=y) (has:∀x,scope.names.lookup x=some .free->∃c,cl.lookup x=some c)
  (hcv:cv.length=ys.length) (hval:∀(i:Nat)(y:Str)(v:V),ys[i]?=some y->cv[i]?=some (some v)->∃c o u,cl.lookup y=some c/\H c=some (XW o)/\o.data=.cell (some u)/\RelV v u)
  (hb:∀Z:Ag,Z.length=ps.length->bindArgs (PySem.W.kla_fn name qual params body scope cl pm (.ref a) ctv) ⟨Z,[]⟩=pure (ps.zip Z))
  (hbody:∀(A:Ao)(outer:List Env)(s:Aq)(H1:Hp),JS k (A.deeper (PySem.W.envX qual scope s.heap.objs.size f (.ref a) cl))->PE (cxL P w K mg base (ps++ys) qual scope f (.ref a) cl A outer s H1) body M):
  Xp P w K mg base (k+1) f H (Zpj ps.length M R cv):=by
 refine⟨⟨_,_,hf,U⟩,?_⟩;intro A outer s H1 Z vs Q E fz hr C r ht;obtain⟨hl,ht⟩:=ht;have gf:s.heap.get? f=some (PySem.W.kla_obj name qual params body scope cl pm a ctv):=(C.hok f _ (fz _ _ _ hf)).1;have F:∀c∈R,∃o v,H1 c=some (XW o)/\o.data=.cell v/\s.heap.get? c=some o:=λc m=>by
  obtain⟨o,v,e,d⟩:=hcs c m;exact⟨o,v,fz _ _ _ e,d,(C.hok c _ (fz _ _ _ e)).1⟩
 have hcs2:∀c∈R,∃o,H1 c=some (XW o):=λc m=>let⟨o,_,e,_⟩:=F c m;⟨o,e⟩;obtain⟨vs0,t0,hd0,hv0⟩:=hoc;have lim:s.heap.NoLimit:=C.mod.nolimit.keeps λb o e=>(C.bs b o e).1;have lus:Z.length=ps.length:=by rw[<-r.length];exact hl
 refine PySem.W.kla_callFunE hr.depth gf U S.co S.gen U ⟨a,oc,vs0,t0,U,(C.hok a _ (fz _ _ _ hc)).1,hd0,hv0⟩ ?_;rw[hb Z lus];refine Qae (wpAny_newFunctionEnv S.cell (λx hx=>S.par _ (Qeg hx).1) (λO hns hsb=>⟨lim.fresh _ hsb,?_⟩) S.kind);have G:∀b o,s.heap.get? b=some o->O.get? b=some o:=λb o e=>hsb.extBut b o (Qbc (Qav e)) (Qab _ e);have ndp:ps.Nodup:=(Qe5.mp S.nd).1;have I:Inv (cxL P w K mg base (ps++ys) qual scope f (.ref a) cl A outer s (hide R H1)) [] (vs.map some++cv) (hide R H1) {s with heap:=O,toks:=s.toks+(ps.zip Z).length}:=by
  have Y:∀b:Au,b∉([]:List Au):=λb z=>nomatch z;refine⟨⟨C.mod,S.kind,U,U,Qai _,inj,λy hy=>?_,(λy c h=>by cases h),λ_=>hr.hd,Qfz C.frames,.inr ⟨U,U⟩,λb z=>absurd z (Y b),λb o e=>⟨(C.bs b o e).1,?_⟩,C.bsz,λb _ _=>Y b,λb z=>absurd z (Y b),C.funs,λb hb=>?_⟩,
   rfl,C.bare,Un.kept G,⟨_,hns,λi y v h1 h2 h3=>?_⟩,λy c h=>?_,?_,λy c h=>YT (hcl y c h),λp hp=>absurd (show p∈([]:Ac)from hp) (by simp),(gS C.hok hcs2).kept G,?_⟩
  .rcases hy with hy|hy
   .exact absurd U (S.cell _ (Qca hy))
   .exact has y hy
  .by_cases m:b∈R
   .exact YT m
   .exact(ZJ m).trans (C.bs b o e).2
  .by_cases m:b∈R
   .exact YT m
   .exact(ZJ m).trans (C.frf b hb)
  .by_cases hi:i<vs.length
   .have ha:vs[i]?=some v:=by
     grind
    obtain⟨u,hu,rv⟩:=r.get ha;have D:(ps++ys)[i]?=some y:=h1;rw[Qa8 (by lia)]at D;exact⟨u,rv,.inl ⟨S.par y (Qag D),y0 ndp D hu lus.symm⟩⟩
   .rw[Qa0 (by simpa using hi),Qac]at h2;have D:(ps++ys)[i]?=some y:=h1;rw[Qa0 (by lia),<-hl]at D;obtain⟨c,o,u,e1,e2,e3,rv⟩:=hval _ y v D h2;refine⟨u,rv,.inr ⟨.inr (S.free y (Qag D)),c,e1,o,G _ _ (C.hok c _ (fz _ _ _ e2)).1,e3⟩⟩
  .obtain⟨o,v,_,d,g⟩:=F c (hcl y c h);exact⟨v,o,G _ _ g,d⟩
  .show hide R H1 s.heap.objs.size=none
   by_cases m:s.heap.objs.size∈R
   .exact YT m
   .rw[ZJ m];exact C.hok.fresh (Qai _)
  .show(vs.map some++cv).length=(ps++ys).length;rw[Qaf,Qaf,Qac,hl,hcv]
 refine PySem.W.kla_codeExpr (Qdb (hbody A outer s (hide R H1) (hr.deeper _) [] _ _ _ _ I ht) (λu s' hs=>?_) λ_ _ z=>z.elim);obtain⟨v,H',J,rv,q⟩:=hs;exact Zan C F J.os J.bare J.base J.hok rv q
end
def y4(oc:Obj)(qual:Str):Prop:=∃vs t,oc.data=.fields vs/\vs[1]?=some (.str qual t)
def ZT(H:Hp)(P:Au)(pos:Pos)(qual:Str):Prop:=
 H P=some (.tbl #[])\/∃g oc,H P=some (.tbl #[rawInt pos.line,rawInt pos.col,.ref g])/\H g=some (XW oc)/\y4 oc qual
def ZT.ex{P:Au}{qual:Str}(h:ZT H P p qual):∃ps,H P=some (.tbl ps):=by
 rcases h with h|⟨_,_,h,_⟩<;>exact⟨_,h⟩
structure vm(mg:Ae)(base:Heap):Prop where
 ex:∃bm ob,mg "__builtins__" = some (.ref bm)/\bm≠builtinsNs/\base.get? bm=some ob/\ob.cls=.type "module" /\ ob.dict=some builtinsNs/\ob.data=.plain
def tLam(P:Au)(lpos:Pos)(qual:Str)(q:Au->Value->Obj):TE:=λ_ H Q=>ZT H P lpos qual /\
 ∀(f C:Au)(oc:Obj)(g:As)(H2:Hp),H f=none->H2 f=some (XW (q C g))->H2 C=some (XW oc)->y4 oc qual->ZT H2 P lpos qual->(∀b o,H b=some o->b≠P->H2 b=some o)->Q (.ref f) H2
def Zao{X:Cx}{P:Au}{lpos:Pos}{oc fo:Obj}{h':Heap}{tk:Nat}(I:Inv X m c H s)(C:H P=some (.tbl #[]))(O:Heap.ExtBut P s.heap h')(G:s.heap.objs.size<=f)(Z:f<h'.objs.size)(Y:h'.get? f=some oc)
  (J:h'.get? P=some (PySem.W.tabObj #[rawInt lpos.line,rawInt lpos.col,.ref f])) (Q:fo.isFreed=false:=by rfl):Inv X m c (upd (upd (upd H P (.tbl #[rawInt lpos.line,rawInt lpos.col,.ref f])) f (XW oc)) h'.objs.size (XW fo)) {s with heap:=h'.push fo,toks:=tk}:=by
 have D:H f=none:=I.hok.fresh G;have cP:f≠P:=λe=>by rw[e,C]at D;cases D
 have lo:∀{b:Au} {o:Obj},s.heap.get? b=some o->b≠f:=λe z=>absurd (Qav e) (by rw[z];exact Qgz.mpr G);have I1:Inv X m c (upd (upd H P (.tbl #[rawInt lpos.line,rawInt lpos.col,.ref f])) f (XW oc)) {s with heap:=h',toks:=tk}:=by
  refine I.un ⟨λb o e n _ _=>O b o (λz=>by rw[z,C]at n;cases n) e,λb o e n _ _=>⟨o.slots,O b o (λz=>by rw[z,C]at n;cases n) e⟩,λb o e n _=>?_,λb o e _=>?_,λb xs e=>?_,λb o u e=>?_,λb pz e=>?_⟩ λb u e=>?_
  .rw[Zm (lo e),Zm (λz=>by rw[z,C]at n;cases n)];exact n
  .by_cases g:b=P
   .rw[g];exact⟨_,J⟩
   .exact⟨o,O b o g e⟩
  .rw[Zm (Zq e D),Zm (Xv e C (λz=>nomatch z))];exact e
  .rw[Zm (Zq e D),Zm (Xv e C (λz=>nomatch z))];exact e
  .by_cases g:b=P
   .subst g;rw[C]at e;cases e;exact⟨#[rawInt lpos.line,rawInt lpos.col,.ref f],by rw[Zm cP.symm,Zb];rfl⟩
   .exact⟨#[],by rw[Zm (Zq e D),Zm g,e];simp⟩
  .by_cases F:b=f
   .subst F;rw[Zb]at e;cases e;exact qS Y
   .rw[Zm F]at e
    by_cases g:b=P
    .subst g;rw[Zb]at e;cases e;exact J
    .rw[Zm g]at e;refine(I.hok b u e).stay (λd v hd q=>O d v ?_ q) (λd q=>?_) λd xs q=>?_
     .grind
     .rw[Zm (Zq q D),Zm (Xv q C (λz=>nomatch z))];exact q
     .rw[Zm (Zq q D),Zm (Xv q C (λz=>nomatch z))];exact q
 exact I1.laid (h':=h'.push fo) (t':=tk) (a:=h'.objs.size) (o:=XW fo) (λb u e=>Qab _ e) (Qai _) (qS (Qao _ Q))
section
variable {X:Cx}{params:Arguments}{body:Av}{scope:Scope}{lpos:Pos}{c P:Au}{qual:Str}
abbrev kZ (X:Cx) (qual:Str) (params:Arguments) (body:Av) (scope:Scope):Au->Value->Obj:=λq g=>PySem.W.kla_obj "<lambda>" qual params body scope (yp X.env.cells scope.names []) ((X.mg "__name__").getD .none) q g
def Ze4 (F:X.env.code=.ref c) (C:PySem.W.CodeHd X.base c P) (B:vm X.mg X.base) (hdef:defaultsOf params X.env=([],[])) (hq:X.env.qual ++ "<lambda>" = qual)
  (hfree:∀y∈scope.names,y.2=.free->X.env.scope.names.lookup y.1=some .cell):
  PE X (.Lambda params body scope lpos) (tLam P lpos qual (kZ X qual params body scope)):=by
 intro pins s σ H Q I hw;obtain⟨J,hq2⟩:=hw;refine PySem.W.kla_eval hdef ?_;rw[hq];have hcl:=JT λy hy h=>I.ok.has y.1 (.inl (hfree y hy h));have hg:s.heap.Ns mainGlobals X.mg:=I.mod.glob.keeps I.bk;obtain⟨pz,hPs⟩:=J.ex;have G:X.base.get? P=none:=by
  cases e:X.base.get? P with
  |none=>rfl
  |some o=>rw[(I.bs P o e).2]at hPs;cases hPs
 have hgP:mainGlobals≠P:=λe=>by
  obtain⟨o,es,ep,g,_⟩:=I.mod.glob;rw[e,G]at g;cases g
 have hb:s.heap.BuiltinsAt X.mg P:=by
  obtain⟨bm,ob,b1,b2,b3,b4,b5,b6⟩:=B.ex;refine⟨bm,ob,b1,b2,λe=>?_,(λe=>by rw[e,G]at b3;cases b3),I.bk _ _ b3,b4,b5,b6⟩;obtain⟨o,es,ep,g,hd,_⟩:=I.mod.glob;rw[<-e,b3]at g;cases g;rw[b6]at hd;cases hd
 rcases J with J|⟨q,oc,J,hc',O⟩
 .have hP:s.heap.get? P=some (PySem.W.tabObj #[]):=I.hok P _ J;refine PySem.W.kla_makeFunction (mg:=X.mg) (ps:=#[]) hcl I.ok.glob hg F (C.keeps I.bk) hP trivial U hgP hb λq D h' tk hx Y Z hrec htb=>?_;obtain⟨c₂,oc,vs,t,e2,O,hd,hv⟩:=hrec;cases e2;have cn:H q=none:=I.hok.fresh Y;have cP:q≠P:=λe=>by rw[e,J]at cn;cases cn
  have hsz:s.heap.objs.size<=h'.objs.size:=Qaz Y (Qax Z);have I2:=Zao (lpos:=lpos) (fo:=kZ X qual params body scope q D) (tk:=tk) I J hx Y Z O htb;have fn:H h'.objs.size=none:=I.hok.fresh hsz;have fc:q≠h'.objs.size:=Qbc Z;have fP:P≠h'.objs.size:=Zq J fn;refine⟨.ref h'.objs.size,_,I2,U,hq2 _ q oc D _ fn Zb ?_ ⟨vs,t,hd,hv⟩ (.inr ⟨q,oc,?_,?_,⟨vs,t,hd,hv⟩⟩) λb o e hbP=>?_⟩
  .rw[Zm fc];exact Zb
  .rw[Zm fP,Zm cP.symm];exact Zb
  .rw[Zm fc];exact Zb
  .rw[Zm (Zq e fn),Zm (Zq e cn),Zm hbP];exact e
 .have hP:=I.hok P _ J;have hf:codeAmong lpos (#[rawInt lpos.line,rawInt lpos.col,.ref q]:Ah).toList=some (.ref q):=by
   show(if((lpos.line:Int) == lpos.line&&(lpos.col:Int) == lpos.col)=true then some (Value.ref q)else _)=_;rw[Qde,Qde];rfl
  refine PySem.W.kla_makeFunctionHit (mg:=X.mg) hcl I.ok.glob hg F (C.keeps I.bk) hP trivial hf hb λD h' tk hk hsz=>?_;have I2:=I.laid (t':=tk) (a:=h'.objs.size) (o:=XW (kZ X qual params body scope q D)) (λb u e=>Qab _ (hk b u e)) hsz (qS (Qao _ U));have fn:H h'.objs.size=none:=I.hok.fresh hsz;have sm:∀b o,H b=some o->upd H h'.objs.size (XW (kZ X qual params body scope q D)) b=some o:=λb o e=>by rw[Zm (Zq e fn)];exact e
  exact⟨.ref h'.objs.size,_,I2,U,hq2 _ q oc D _ fn Zb (sm _ _ hc') O (.inr ⟨q,oc,sm _ _ J,sm _ _ hc',O⟩) λb o e _=>sm b o e⟩
end
def cellsOf(cells:List (Str×Au)):List Au:=(cells.map (·.1)).filterMap λx=>cells.lookup x
def Xk{cells:List (Str×Au)}{c:Au}:c∈cellsOf cells↔∃x,cells.lookup x=some c:=by
 unfold cellsOf;rw[Qgi];constructor
 .grind
 .rintro⟨x,h⟩;exact⟨x,Qa2.mpr ⟨(x,c),Qca h,U⟩,h⟩
def Zb4(X:Cx)(s:Aq)(H:Hp):Hp:=λb=>if b∈cellsOf X.env.cells then(s.heap.get? b).map XW else H b
section
variable {X:Cx}{pins:Ac}{σ:St}{H:Hp}{s:Aq}
theorem vn(I:Inv X pins σ H s):∀d∈cellsOf X.env.cells,∃o v,Zb4 X s H d=some (XW o)/\o.data=.cell v/\s.heap.get? d=some o:=λd m=>by
 obtain⟨y,q⟩:=Xk.mp m;obtain⟨v,o,g,C⟩:=I.cell y d q;exact⟨o,v,by unfold Zb4;rw[Qa9 m,g];rfl,C,g⟩
def GW{d:Au}(m:d∉cellsOf X.env.cells):Zb4 X s H d=H d:=Qa6 m
def Wo(I:Inv X pins σ H s):∀d∈cellsOf X.env.cells,H d=none:=λd m=>let⟨y,hy⟩:=Xk.mp m;I.freeC y d hy
theorem zf(I:Inv X pins σ H s):∀b o,H b=some o->Zb4 X s H b=some o:=λb o e=>by
 rw[GW λm=>by rw[Wo I b m]at e;cases e];exact e
def zC{k:Nat}{gd:Am}{sp:Sp}{vs:A0}(F:Y1 X.prog X.w X.K X.mg X.base CX0 k a gd N sp)(hr:JS k X.A)(Q:Binds X.K gd N [])(hfn:X.fn=λ_=>true)
  (I:Inv X pins σ H s) (rv:Vals vs Z) (hsp:sp vs (Zb4 X s H) (λv H3=>C v (hide (cellsOf X.env.cells) H3)) E0):A2 X (call (.ref a) Z) (EP X pins σ C) X.xe s:=by
 have hcs:=vn I;have hn:=Wo I;have D:=zf I;have nloc:∀d∈cellsOf X.env.cells,d≠X.env.locals:=λd m e=>by
  obtain⟨o,v,_,hd,a⟩:=hcs d m;obtain⟨m',⟨o',es,ep,g',hd',_⟩,_⟩:=I.loc;rw[e,g']at a;cases a;rw[hd']at hd;cases hd
 have G:∀d∈cellsOf X.env.cells,X.s₀.heap.objs.size<=d:=λd m=>by
  obtain⟨y,hy⟩:=Xk.mp m;exact I.ok.cab y d (by rw[hfn]) hy
 have nfr:∀d∈cellsOf X.env.cells,d∉frs X.stack:=λd m z=>by
  rcases Qaw.mp (I.stkSub d z)with e|e
  .exact nloc d m e
  .obtain⟨_,o,a,_⟩:=I.ok.funs.mem e;exact absurd (Qav a) (Qgz.mpr (G d m))
 have hok3:HOk X.prog X.w (Zb4 X s H) s.heap:=λb o e=>by
  by_cases m:b∈cellsOf X.env.cells
  .obtain⟨ob,v,e',hd,a⟩:=hcs b m;rw[e']at e;cases e;exact qS a
  .rw[GW m]at e;exact(I.hok b o e).stay (λ_ _ _ q=>q) (λd q=>D _ _ q) λd xs q=>D _ _ q
 have e0:Zl0 X.prog X.w X.K X.mg X.base X.A X.stack s (Zb4 X s H):=by
  have z:=I.env0;refine⟨z.frames,z.mod,λb o e=>⟨(z.bs b o e).1,?_⟩,z.bsz,z.funs,λb Q=>?_,hok3,z.bare⟩
  .rw[GW λm=>absurd (Qav e) (Qgz.mpr (Qaz I.ok.bsz (G b m)))];exact(z.bs b o e).2
  .rw[GW λm=>nfr b m Q];exact z.frf b Q
 have hlu:(Z++[]).length=N.length:=by rw[Qbk,<-rv.length];exact F.len _ _ _ _ hsp
 refine wpAny_call (Qew (F.run X.A X.stack s (Zb4 X s H) ⟨Z,[]⟩ Z vs _ _ hr e0 (by simpa using Q s Z I.kIn hlu) rv hsp) λr s' hq=>?_);cases r with
 |error e=>exact hq.elim
 |ok fl=>
  cases fl with
  |next=>exact False.elim hq
  |brk=>exact False.elim hq
  |cont=>exact False.elim hq
  |ret uu=>
   obtain⟨v,H4,os,bare,un,O,rv4,q4⟩:=hq;have J:∀d∈cellsOf X.env.cells,∃o,H4 d=some (XW o)/\s.heap.get? d=some o/\s'.heap.get? d=some o:=λd m=>by
    obtain⟨o,v,e,hd,a⟩:=hcs d m;have e4:=un.frzs d o _ e;exact⟨o,e4,a,(O d _ e4).1⟩
   have g:∀d,H d=none->d∉cellsOf X.env.cells->Zb4 X s H d=none:=λd n m=>by rw[GW m];exact n
   have nm:∀d o,H d=some o->d∉cellsOf X.env.cells:=λd o e m=>by rw[hn d m]at e;cases e
   refine⟨v,_,I.call' os ⟨λd o e n Q Y=>?_,λd o e n Q Y=>?_,λd o e n Y=>?_,λd o e Y=>un.there d o e Y,λd xs e=>?_,λd o u e=>?_,λd pz e=>?_⟩ (gS O λd m=>let⟨o,e,_⟩:=J d m;⟨o,e⟩) bare (λ_ z=>nomatch z),rv4,q4⟩
   .by_cases m:d∈cellsOf X.env.cells
    .obtain⟨o',_,a,g'⟩:=J d m;rw[e]at a;cases a;exact g'
    .exact un.keep d o e (g d n m) Q Y
   .by_cases m:d∈cellsOf X.env.cells
    .obtain⟨o',_,a,g'⟩:=J d m;rw[e]at a;cases a;exact⟨o.slots,g'⟩
    .exact un.slot d o e (g d n m) Q Y
   .by_cases m:d∈cellsOf X.env.cells
    .exact YT m
    .rw[ZJ m];exact un.free d o e (g d n m) Y
   .rw[ZJ (nm d _ e)];exact un.tups d xs (D _ _ e)
   .rw[ZJ (nm d _ e)];exact un.frzs d o u (D _ _ e)
   .rw[ZJ (nm d _ e)];exact un.tbls d pz (D _ _ e)
def wa{scope:Scope}{ys:Ai}{is:Aj}{N0:Ai}(I:Inv X pins σ H s)(g:∀y∈scope.names,y.2=.free->X.env.scope.names.lookup y.1=some .cell)(F:∀y∈ys,scope.names.lookup y=some .free)(hN:∀q∈ys.zip is,X.N[q.2]?=some q.1)(Q:ys.length=is.length):
  ∀(i:Nat)(y:Str)(v:V),ys[i]?=some y->(is.map λi=>(σ[i]?).getD none)[i]?=some (some v)->∃c o u,(yp X.env.cells scope.names []).lookup y=some c/\Zb4 X s H c=some (XW o)/\o.data=.cell (some u)/\RelV v u:=by
 intro i y v h1 h2;have hcl:∀y d,(yp X.env.cells scope.names []).lookup y=some d->X.env.cells.lookup y=some d:=
  GN (λy hy h=>I.ok.has y.1 (.inl (g y hy h))) λ_ _ z=>by cases z
 rw[Qal]at h2;cases hj:is[i]? with
 |none=>rw[hj]at h2;cases h2
 |some j=>
  have G:σ[j]?=some (some v):=by
   grind
  have hz:(y,j)∈ys.zip is:=by
   obtain⟨a1,e1⟩:=Qah.mp h1;obtain⟨a2,e2⟩:=Qah.mp hj;rw[<-e1,<-e2,<-Qg7 (h:=by grind)];exact Qck _
  have Z:=F y (Qag h1);have Y:X.env.kindOf y=some .cell:=g _ (Zac Z) rfl;obtain⟨m,hm',hl⟩:=I.loc;obtain⟨u,r,l⟩:=hl j y v (hN _ hz) G (.inr (.inl Y));rcases l with⟨J,_⟩|⟨_,d,l2,l3⟩
  .rw[Y]at J;cases J
  .obtain⟨D,C⟩:=JU (cells:=X.env.cells) (acc:=[]) Z;have e:D=d:=by grind
   subst e;obtain⟨o,ho,hd⟩:=l3;obtain⟨o',v',e',_,O⟩:=vn I D (Xk.mpr ⟨y,l2⟩);rw[ho]at O;cases O;exact⟨D,o,u,C,e',hd,r⟩
def Zmq{P:Au}{lpos:Pos}{qual:Str}(I:Inv X pins σ H s)(T:ZT H P lpos qual)(q:ZD (Zb4 X s H) d):ZT (hide (cellsOf X.env.cells) d) P lpos qual:=by
 have out:∀b o,H b=some o->hide _ d b=some o:=λb o e=>by
  rw[ZJ (λm=>by rw[Wo I b m]at e;cases e)];exact q _ _ (zf I _ _ e)
 rcases T with z|⟨F,g,D,C,G⟩
 .exact .inl (out _ _ z)
 .exact .inr ⟨F,g,out _ _ D,out _ _ C,G⟩
end
structure Zpk(S0 scope:Scope)(N0 ps ys:Ai)(is:Aj):Prop where
 sc:Zpi scope ps ys
 free:∀y∈scope.names,y.2=.free->S0.names.lookup y.1=some .cell
 vis:∀q∈ys.zip is,N0[q.2]?=some q.1
 len:ys.length=is.length
section
variable {X:Cx}{params:Arguments}{body a:Av}{scope:Scope}{lpos p pos:Pos}{c P g:Au}{qual x:Str}{k kl:Nat}{gd:Am}{pg ps ys:Ai}{is:Aj}{sp:Sp}{ta te:TE}
def Jz{b:Au}{u:HO}(g:∀c∈R,∃o,H c=some (XW o))(s:ZD H d)(h:d b=some u)(q:∀o,u≠XW o):hide R d b=some u:=by
 rw[ZJ λm=>?_]
 .exact h
 .obtain⟨o,e⟩:=g b m;rw[s _ _ e]at h;exact q o (Option.some.inj h).symm
def ZT.other{H':Hp}{P:Au}{qual:Str}(h:ZT H P l qual)(g:P≠f)(q:∃ps,H f=some (.tbl ps))(s:∀b o,H b=some o->b≠f->H' b=some o):ZT H' P l qual:=by
 rcases h with h|⟨c,oc,h1,h2,C⟩
 .exact .inl (s _ _ h g)
 .obtain⟨ps,e⟩:=q;exact .inr ⟨c,oc,s _ _ h1 g,s _ _ h2 (Xv h2 e (λz=>nomatch z)),C⟩
def ZT.same{H H':Hp}{P:Au}{pos:Pos}{qual:Str}(h:ZT H P pos qual)(s:ZD H H'):ZT H' P pos qual:=by
 rcases h with h|⟨c,oc,h1,h2,g⟩
 .exact .inl (s _ _ h)
 .exact .inr ⟨c,oc,s _ _ h1,s _ _ h2,g⟩
def tCallV(g:An)(w:Ar)(K:Af)(mg:Ae)(base:Heap)(k:Nat)(i:Nat)(t:TA):TE:=λσ H Q=>∃(f:Au)(τ:Sp),σ[i]?=some (some (.ref f))/\Xp g w K mg base k f H τ /\
 t σ H λvs H1=>qT H H1/\τ vs H1 Q E0
theorem Ze5{P:An}{mg:Ae}{base:Heap}{k:Nat}{H1:Hp}{τ:Sp}(c:Xp P w K mg base k f H τ)(C:qT H H1)(q:HOk P w H1 h):PySem.W.FnAt f h:=by
 obtain⟨o,fd,e,d⟩:=c.1;have g:=(q f _ (C _ _ _ e)).1;obtain⟨oc,od,F,D⟩:=o;cases d;exact⟨oc,od,fd,D,g⟩
def Zia(i:Nat){t:TA}(hr:JS k X.A)(ha:QA X (e::q) t)(hN:X.N[i]?=some x:=by rfl)(hv:Vis X.env.scope x:=by first|exact Or.inl U|exact Or.inr (Or.inl U)|exact Or.inr (Or.inr U))
  (J:(x == ("__debug__" : Str))=false:=by decide) (C:(x == ("__classdict__" : Str))=false:=by decide) (he:starEach (e::q) X.env=(false,eval e X.env)::starEach q X.env:=by rfl) (G:(backTo pos (starEach q X.env)).any (·.1)=false:=by rfl):
  QE X (.Call (.Name x p) (e::q) [] pos) (tCallV X.prog X.w X.K X.mg X.base k i t):=by
 refine⟨?_⟩;intro pins s σ H Q I hw;obtain⟨f,τ,O,F,ht⟩:=hw;refine Qc0 (thn (Zjq hN hv J C pins s σ H (λv H'=>v=.ref f/\H'=H) I ⟨.ref f,O,U,U⟩) λu s1 ⟨v,H',I1,r,Z,hH⟩=>?_);subst Z;subst hH;cases r;refine PySem.W.callWith_F (Ze5 F (qT.refl _) I1.hok) (thn (ha.out pos pins s1 σ H' _ I1 ht) λus s2 ⟨vs,H1,Y,rv,fz,D⟩=>⟨Ze5 F fz Y.hok,?_⟩) he G;refine wpAny_call (Qew (F.2 X.A X.stack s2 H1 us vs Q E0 fz hr Y.env0 rv D) λr s' g=>?_);cases r with
 |error e=>exact g.elim
 |ok fl=>
  cases fl with
  |ret u=>exact Y.after g
  |next=>exact False.elim g
  |brk=>exact False.elim g
  |cont=>exact False.elim g
end
theorem Ze6{mg mb:Ae}{CX:CXT}{k:Nat}{fd:Am}{sp:Sp}{C:Aq}{vs:Ag}{ns:Ak}{D:List (Au×Au)}
  (KX:K.In C.heap) (hns:C.heap.Ns mainGlobals mg) (hb:C.heap.Ns builtinsNs mb) (hbb:∀x:Str,x ≠ "__name__" ->mb x=bootBuiltins x) (hlim:C.heap.NoLimit) (hg:C.gens=#[])
  (ha:C.heap.get? a=some {cls:=.type "list",data:=.seq vs.toArray}) (hi:IntsAre vs ns) (hl:ns.length<=sizeLine) (hr:JS k callerA)
  (hT:PySem.W.TabsAt D C.heap) (hKt:PySem.W.noTabs K=true) (hbm:vm mg C.heap)
  (F:∀base:Heap,K.In base->base.Ns mainGlobals mg->(∀q∈D,PySem.W.CodeHd base q.1 q.2)->vm mg base->Y1 P w K mg base CX k f fd [x] sp) (hbind:∀(s:Aq)(u:As),BindsTo s fd ⟨[u],[]⟩ [(x,u)])
  (hsp:∀H:Hp,(∀q∈D,H q.2=some (.tbl #[]))->SqL K H a (ns.map V.int)->sp [.ref a] H (λv _=>v=.bl true) λ_ _ _=>False)
  (hCX:∀H e s',CX [] H C (λ_ _ _=>False) e s'->False):
  codeAny (model P w) callerA (.call (.ref f) ⟨[.ref a],[]⟩) (λr s'=>r=.ok (.ret (.bool true))/\OldK C.heap s'.heap/\s'.os=C.os/\AllBare s'.gens) C:=by
 have rv:=kC hi;have lenV:=hi.length;have G:∀b,b∈D.map (·.2)->C.heap.get? b=some (PySem.W.tabObj #[]):=λb m=>by
  obtain⟨q,J,rfl⟩:=Qa2.mp m;exact(hT q J).2
 have aT:a∉D.map (·.2):=λm=>by
  have e:=G a m;rw[ha]at e;cases e
 have Y:∀H:Hp,(∀q∈D,H q.2=some (.tbl #[]))->(∀b,H b=none\/(b=a/\∃o xs,H b=some (.frz o (.lst xs)))\/(b∈D.map (·.2)/\H b=some (.tbl #[])))->SqL K H a (ns.map V.int)->HOk P w H C.heap->(H a≠none->K.lookup a=none)->
   codeAny (model P w) callerA (.call (.ref f) ⟨[.ref a],[]⟩) (λr s'=>r=.ok (.ret (.bool true))/\OldK C.heap s'.heap/\s'.os=C.os/\AllBare s'.gens) C:=by
  intro H hTb hO hS hok hK;have I:∀{b:Au} {o:Obj},C.heap.get? b=some o->H b=none->(Zc9 C.heap H).get? b=some o:=λe n=>Zhj e n;have noA:∀{b:Au} {o:Obj},C.heap.get? b=some o->(∀its n,o.data≠.seq its n)->o.cls≠.none->H b=none:=λ{b o} e d1 d2=>by
   rcases hO b with z|⟨rfl,_⟩|⟨m,_⟩
   .exact z
   .rw[ha]at e;cases e;exact absurd U (d1 _ _)
   .rw[G b m]at e;cases e;exact absurd U d2
  have O:∀{b:Au} {m:Ae},C.heap.Ns b m->(Zc9 C.heap H).Ns b m:=λ{b m} ⟨o,es,ep,e,d,r⟩=>⟨o,es,ep,I e (by
   grind),d,r⟩
  have hKb:K.In (Zc9 C.heap H):=λb o e=>I (KX b o e) (by
   rcases hO b with z|⟨rfl,ob,xs,z⟩|⟨m,_⟩
   .exact z
   .rw[hK (by rw[z];simp)]at e;cases e
   .have g:=KX b o e;rw[G b m]at g;cases g;have h2:=Qc4.mp hKt (b,_) (PySem.W.mem_of_lookupK e);exact absurd (show false=true from h2) Qbf)
  have hM:Mod K mg (Zc9 C.heap H):=⟨hKb,O hns,⟨mb,O hb,hbb⟩,let⟨mc,h1,h2⟩:=hlim;⟨mc,O h1,h2⟩⟩;have hB:vm mg (Zc9 C.heap H):=by
   obtain⟨bm,ob,b1,b2,b3,b4,b5,b6⟩:=hbm.ex;exact⟨bm,ob,b1,b2,I b3 (noA b3 (λits n z=>by rw[b6]at z;cases z) (λz=>by rw[b4]at z;cases z)),b4,b5,b6⟩
  have hC:∀q∈D,PySem.W.CodeHd (Zc9 C.heap H) q.1 q.2:=λq J=>by
   obtain⟨o,vs',file,tf,flags,tg,inF,text,tt,e1,r1,r2,r3⟩:=(hT q J).1;exact⟨o,vs',file,tf,flags,tg,inF,text,tt,I e1 (noA e1 (λits n z=>by rw[r2]at z;cases z) (λz=>by rw[r1]at z;cases z)),r1,r2,r3⟩
  have e0:Zl0 P w K mg (Zc9 C.heap H) callerA [] C H:=⟨U,hM,λb o e=>Zlk e,Qgl (Zda _ _),trivial,λb hb=>absurd (show b∈([]:List Au)from hb) (by simp),hok,.of_eq hg⟩;refine Qew ((F _ hKb (O hns) hC hB).run callerA [] C H ⟨[.ref a],[]⟩ [.ref a] [.ref a] _ _ hr e0 (hbind C (.ref a)) (.cons U .nil) (hsp H hTb hS)) λr s' h=>?_;cases r with
  |error e=>exact(hCX H e s' h).elim
  |ok fl=>
   cases fl with
   |next=>exact False.elim h
   |brk=>exact False.elim h
   |cont=>exact False.elim h
   |ret u=>
    obtain⟨v,H',os,bare,un,Z,r',q⟩:=h;have q':v=.bl true:=q;subst q';obtain rfl:u=Value.bool true:=r';have all:∀b o,C.heap.get? b=some o->s'.heap.get? b=some o\/∃more,b∈D.map (·.2)/\o=PySem.W.tabObj #[]/\s'.heap.get? b=some (PySem.W.tabObj (#[]++more)):=λb o e=>by
     rcases hO b with z|⟨_,ob,xs,z⟩|⟨m,z⟩
     .exact .inl (un.keep b o e z (by intro z;exact absurd (show b∈([]:List Au)from z) (by simp)) (by simp))
     .have z2:=un.frzs b ob _ z;obtain⟨e1,_⟩:=hok b _ z;obtain⟨e2,_⟩:=Z b _ z2;rw[e]at e1;cases e1;exact .inl e2
     .obtain⟨more,z2⟩:=un.tbls b _ z;rw[G b m]at e;cases e;exact .inr ⟨more,m,U,Z b _ z2⟩
    refine⟨U,⟨λb o e=>?_,λb o e=>?_⟩,os,bare⟩
    .rcases all b o e with z|⟨more,m,rfl,z⟩
     .exact .inl z
     .obtain⟨q,J,rfl⟩:=Qa2.mp m;exact .inr (.inl ⟨((hT q J).1.tab (hT q J).2).isCodeTable,U,#[],more,U,z⟩)
    .rcases all b o e with z|⟨more,_,_,z⟩
     .exact⟨_,z⟩
     .exact⟨_,z⟩
 have tm:∀q∈D,q.2∈D.map (·.2):=λq J=>Qcw J;cases hk:K.lookup a with
 |some o=>
  have e:=KX a o hk;rw[ha]at e;cases e;refine Y (λb=>if b∈D.map (·.2)then some (.tbl #[])else none) (λq J=>Qa9 (tm q J)) (λb=>?_) (.inr ⟨_,vs.toArray,_,hk,U,U,U,by rw[Qb8,lenV];exact hl,by simpa using rv⟩) (λb u z=>?_) (λz=>absurd (Qa6 aT) z)
  .by_cases m:b∈D.map (·.2)
   .exact .inr (.inr ⟨m,Qa9 m⟩)
   .exact .inl (Qa6 m)
  .by_cases m:b∈D.map (·.2)
   .have Q:=(Qa9 m).symm.trans z;cases Q;exact G b m
   .have Q:=(Qa6 m).symm.trans z;cases Q
 |none=>
  refine Y (λb=>if b∈D.map (·.2)then some (.tbl #[])else if b=a then some (.frz {cls:=.type "list",data:=.seq vs.toArray} (.lst (ns.map V.int)))else none) (λq J=>Qa9 (tm q J)) (λb=>?_) (.inl (.inr ⟨{cls:=.type "list",data:=.seq vs.toArray},(Qa6 aT).trans (Qa9 U)⟩)) (λb u z=>?_) λ_=>hk
  .grind
  .by_cases m:b∈D.map (·.2)
   .have Q:=(Qa9 m).symm.trans z;cases Q;exact G b m
   .by_cases hb:b=a
    .have Q:=((Qa6 m).trans (Qa9 hb)).symm.trans z;cases Q;subst hb;exact⟨ha,by rw[Qac];exact hl,vs,_,rv,ha⟩
    .have Q:=((Qa6 m).trans (Qa6 hb)).symm.trans z;cases Q
def walk_ofT{l:PySem.W.OpenLaw}{k:Nat}{XP:(Ae)->Heap->Prop}{YP:Ar->Heap->Prop}{d:DefRec}{K:Params->PySem.W.Frag}{CX:Ar->CXT}{sp:Ar->Sp}{q:List (Au×Au)}
  (hn:l.most=some n) (hn2:n<=sizeLine) (hdf:d.params.defaults=[]) (hr:JS k callerA)
  (hY:∀(w:Ar)(h:Heap),YP w h->(K w.params).In h)
  (O:∀(w:Ar)(J:ExcName->Option As)(mg mb:Ae)(h:Heap),Top P (PySem.W.looseW P N) J mg mb h->(K w.params).In h->PySem.W.TabsAt q h) (hKt:∀w:Ar,PySem.W.noTabs (K w.params)=true)
  (F:∀(w:Ar)(mg:Ae)(Z:Au)(h:Heap),(K w.params).In h->h.Ns mainGlobals mg->mg d.name=some (.ref Z)->
   ∃fd:Am,(∀(s:Aq)(u:As),BindsTo s fd ⟨[u],[]⟩ [(x,u)]) /\
    ∀base:Heap,(K w.params).In base->base.Ns mainGlobals mg->(∀P∈q,PySem.W.CodeHd base P.1 P.2)->vm mg base->Y1 l.prog w (K w.params) mg base (CX w) k Z fd [x] (sp w))
  (hsp:∀(w:Ar)(H:Hp)(a:Au)(ns:Ak),ns.length<=n->(∀P∈q,H P.2=some (.tbl #[]))->SqL (K w.params) H a (ns.map V.int)->sp w [.ref a] H (λv _=>v=.bl true) λ_ _ _=>False)
  (hCX:∀(w:Ar)(H:Hp)(s:Aq)(e:As)(s':Aq),CX w [] H s (λ_ _ _=>False) e s'->False):
  PySem.W.WalkO P N XP YP l.row.toRowW d [] (λf vs=>PySem.call f vs):=by
 refine Att.attach_call hn hdf λw s₀ Q mg mb Z o pm cd doc a vs ns G Y ho hd hcd hmg I D C hg=>?_;have KX:=hY w _ Y;obtain⟨fd,hb,hF⟩:=F w mg Z _ KX G.T.g hmg;exact Ze6 KX G.T.g G.T.b G.T.builtins G.T.nolimit hg I D (Qaz C hn2) hr (O w _ mg mb _ G.T KX) (hKt w) ⟨G.T.bmain⟩ hF hb (λH hTb hS=>hsp w H a ns C hTb hS) λH e s'=>hCX w H Q e s'
theorem Fun.okC{mg:Ae}{base:Heap}{qual:Str}{st:Aw}{fd:Am}{ps:Ai}{k:Nat}{sp:Sp}(F:Fun K x qual st f fd)(S:Zx N ps (Zk st))(len:∀vs H Q E,sp vs H Q E->vs.length=ps.length)
  (g:∀(A:Ao)(outer:List Env)(s:Aq)(H:Hp)(vs:A0)(Q:VK)(E:XK),JS k (A.deeper (envOfC qual (Zk st) s.heap.objs.size f fd.code))->sp vs H Q E->
   ∃t,PSs (Zhc CX0 P w K mg base N qual (Zk st) f fd.code A outer s H E).nox (Xy st) t/\t {nx:=λ_ H'=>Q .non H',rt:=Q} (start N vs) H):Y1 P w K mg base CX0 (k+1) f fd ps sp:=by
 obtain⟨oc,od,kV,I,pm,Z,Y,ct,G,rfl,O,C⟩:=F.ex;refine Zo4 O C S len λA outer s H vs Q E J D=>?_;obtain⟨t,h,q⟩:=g A outer s H vs Q E J D;exact⟨t,h.nox,q⟩
def Zib{x:V}(r:Vals [x,y] Z):∃a b,Z=[a,b]/\RelV x a/\RelV y b:=by
 cases r with
 |cons h1 t=>
  cases t with
  |cons h2 t=>
   cases t;exact⟨_,_,U,h1,h2⟩
structure QPs(X:Cx)(pos:Pos)(keys:List (Option Av))(values:Al)(trs:List (TE×TE)):Prop where
 out:PPs X pos keys values trs
def gT:QPs X p [] [] []:=⟨Zmg⟩
def vo{k v:Av}{ks:List (Option Av)}{vs:Al}{tk:TE}{g:List (TE×TE)}(C:QE X k tk)(D:QE X v A)(q:QPs X p ks vs g):QPs X p (some k::ks) (v::vs) ((tk,A)::g):=⟨Zh4 C.out D.out q.out⟩
def gU{keys:List (Option Av)}{g:List (TE×TE)}(h:QPs X p keys q g)(C:keys.all (·.isSome)=true)(G:keys.length=q.length)(F:keys≠[])(D:keys.length<=15):QE X (.Dict keys q p) (Zpf g):=⟨Zmh h.out C G F D⟩
end L2
namespace ZpT
def zO (g:As) (b:Bool) (TI TO:Au):Obj:={cls:=.type "zip",dict:=none,data:=.fields #[g,.bool b,.bool false,.ref TI,.ref TO],slots:=#[]}
def F0(g:As):Prop:=g=.none\/∃T:Au,g=rawInt T
structure Ap(z TI TO i1 i2:Au):Prop where
 TIz:TI≠z
 TOz:TO≠z
 i1z:i1≠z
 i2z:i2≠z
 TITO:TI≠TO
 TIi1:TI≠i1
 TIi2:TI≠i2
 TOi1:TO≠i1
 TOi2:TO≠i2
 i12:i1≠i2
section
variable {prog:An}{w:Ar}{A:Ao}{E:Ab}{s:Aq}
def alive{Q:Option Obj->Shared->Prop}(h:Q (s.heap.get? a) s):A1 prog w A (loadIfAlive a) Q E s:=λΓ p _=>h
def Ze7{z:Au}{Q:Bool->Shared->Prop}(hz:s.heap.get? z=some (zO v j a f))(F:F0 v)
  (h:∀r h' D,h'.get? z=some (zO v D a f)->Heap.SameBut z s.heap h'->Q r {s with heap:=h'}):A1 prog w A (Builtin.SmallTypes.ownedTupleIsFree (.ref z)) Q E s:=by
 refine Qaa (Qbt hz U U ?_);rcases F with rfl|⟨T,rfl⟩
 .exact Qae (h true s.heap j hz ⟨U,λ_ _=>U⟩)
 .refine Qaa (alive ?_);cases hT:s.heap.get? _ with
  |none=>exact Qae (h true s.heap j hz ⟨U,λ_ _=>U⟩)
  |some o=>
   refine Qaa (Qbt hz U U ?_);cases j
   .refine Qaa (Qb4 hz (by simp) λC g q=>Qae (h false C true g q))
   .exact Qae (h false s.heap true hz ⟨U,λ_ _=>U⟩)
end
structure Of(z TO i1 i2 l:Au):Prop where
 z:l≠z
 o:l≠TO
 i:l≠i1
 j:l≠i2
structure St(b1 b2:Bool)(z TI TO i1 i2 l1 l2:Au)(k1 k2:Nat)(h:Heap):Prop where
 z:∃f0 fb,h.get? z=some (zO f0 fb TI TO)/\F0 f0
 I:IsPair h TI (.ref i1) (.ref i2)
 O:∃a b,IsPair h TO a b
 n1:ZS b1 h i1 l1 k1
 n2:ZS b2 h i2 l2 k2
section
variable {prog:An}{w:Ar}{A:Ao}{E:Ab}{s:Aq}
def item{b1 b2:Bool}{z i1 i2 l1 l2:Au}{xs ys:Ah}{x y:As}(D:Ap z f O i1 i2)(D1:Of z O i1 i2 l1)(D2:Of z O i1 i2 l2)
  (S:St b1 b2 z f O i1 i2 l1 l2 n L s.heap) (q1:SeqAt b1 s.heap l1 xs) (q2:SeqAt b2 s.heap l2 ys) (hx:xs[n]?=some x) (hy:ys[L]?=some y)
  (hQ:∀h',St b1 b2 z f O i1 i2 l1 l2 (n+1) (L+1) h'->IsPair h' s.heap.objs.size x y->
   (∀c o,c≠z->c≠O->c≠i1->c≠i2->s.heap.get? c=some o->h'.get? c=some o)->Q (.ref s.heap.objs.size) {s with heap:=h'}):
  A1 prog w A (Builtin.«zip.__next__» ⟨[.ref z],[]⟩) (λfin s'=>∃v,fin=.done (.ret v)/\Q v s') E s:=by
 obtain⟨⟨f0,fb,hz,hf⟩,hTI,⟨a,b,hTO⟩,n1,n2⟩:=S;show wpAny _ _ (field (.ref z) 2 >>= _) _ _ _;refine Qaa (Qbt hz U (x:=.bool false) U ?_);refine Qaa (Qbt hz U (x:=.ref f) U ?_);refine Qaa (Qcc hTI U ?_);refine Qaa (Ze7 hz hf λr h0 fb' hz0 Z=>?_);have hz0':h0.get? z=some (zO f0 fb' f O):=hz0;have hTO0:IsPair h0 O a b:=Z.extBut _ _ D.TOz hTO;have n10:ZS b1 h0 i1 l1 n:=n1.mv λo e=>Z.extBut _ _ D.i1z e;have n20:ZS b2 h0 i2 l2 L:=n2.mv λo e=>Z.extBut _ _ D.i2z e;have q10:SeqAt b1 h0 l1 xs:=q1.mv λo e=>Z.extBut _ _ D1.z e;have q20:SeqAt b2 h0 l2 ys:=q2.mv λo e=>Z.extBut _ _ D2.z e;cases r with
 |true=>
  refine Qaa (Qdu ?_);refine Qaa (Qbt hz0 U (x:=.ref O) U ?_);refine Qaa (Qb4 hz0 (by simp) λh₁ hz₁ F=>?_);refine Qaa ?_;refine Qaa (Qaa (Qg3 ?_));refine Qaa (Jv (n10.mv λo e=>F.extBut _ _ D.i1z e) (q10.mv λo e=>F.extBut _ _ D1.z e) hx λh₂ h1₂ g=>Qae ?_);have hTO₂:IsPair h₂ O a b:=g.extBut _ _ D.TOi1 (F.extBut _ _ D.TOz hTO0);refine Qaa (Qcc hTO₂ U ?_);refine Qaa (Qf2 hTO₂ λG hTO₃ q=>?_);refine Qaa (Qez (Qae ?_));refine Qaa (Qaa (Qg3 ?_));refine Qaa (Jv (n20.mv λo e=>q.extBut _ _ D.TOi2.symm (g.extBut _ _ D.i12.symm (F.extBut _ _ D.i2z e)))
   (q20.mv λo e=>q.extBut _ _ D2.o (g.extBut _ _ D2.i (F.extBut _ _ D2.z e))) hy λh₄ h2₄ J=>Qae ?_)
  have hTO₄:IsPair h₄ O x b:=J.extBut _ _ D.TOi2 hTO₃;refine Qaa (Qcc hTO₄ U ?_);refine Qaa (Qf2 hTO₄ λC I Y=>?_);replace I:IsPair C O x y:=I;refine Qaa (Qez (Qae (Qae ?_)));refine Qaa (Qcc I U ?_);refine Qaa (Qgq ?_);have hsz:C.objs.size=s.heap.objs.size:=by rw[Y.1,J.1,q.1,g.1,F.1];exact Z.1
  have hz₅:C.get? z=some (zO .ellipsis fb' f O):=Y.extBut _ _ D.TOz.symm (J.extBut _ _ D.i2z.symm (q.extBut _ _ D.TOz.symm (g.extBut _ _ D.i1z.symm hz₁)));have hk₅:∀c o,c≠z->c≠O->c≠i1->c≠i2->s.heap.get? c=some o->C.get? c=some o:=λc o c1 c2 c3 c4 e=>
   Y.extBut _ _ c2 (J.extBut _ _ c4 (q.extBut _ _ c2 (g.extBut _ _ c3 (F.extBut _ _ c1 (Z.extBut _ _ c1 e)))))
  have h1₅:ZS b1 C i1 l1 (n+1):=h1₂.mv λo e=>Y.extBut _ _ D.TOi1.symm (J.extBut _ _ D.i12 (q.extBut _ _ D.TOi1.symm e));have h2₅:ZS b2 C i2 l2 (L+1):=h2₄.mv λo e=>Y.extBut _ _ D.TOi2.symm e;have hzlt:z<C.objs.size:=Qav hz₅;refine Qaa ?_;have hz₆:(C.push {cls:=.type "tuple",data:=.seq #[x,y]}).get? z=some (zO .ellipsis fb' f O):=Qab _ hz₅;refine Qaa (Qb4 hz₆ (by simp) λh₇ hz₇ hs₇=>?_);refine Qb4 hz₇ (by simp) λh₈ hz₈ hs₈=>?_;have up:∀c o,c≠z->C.get? c=some o->h₈.get? c=some o:=λc o c1 e=>hs₈.extBut _ _ c1 (hs₇.extBut _ _ c1 (Qab _ e));have hT₈:IsPair h₈ C.objs.size x y:=hs₈.extBut _ _ (Qel hzlt) (hs₇.extBut _ _ (Qel hzlt) (Qao _ U));rw[hsz]at hz₈ hT₈;refine Qae ⟨_,U,?_⟩;rw[hsz];exact hQ h₈ ⟨⟨_,_,hz₈,.inr ⟨_,U⟩⟩,up _ _ D.TIz (hk₅ _ _ D.TIz D.TITO D.TIi1 D.TIi2 hTI),⟨_,_,up _ _ D.TOz I⟩,h1₅.mv λo e=>up _ o D.i1z e,h2₅.mv λo e=>up _ o D.i2z e⟩ hT₈ λc o c1 c2 c3 c4 e=>up c o c1 (hk₅ c o c1 c2 c3 c4 e)
 |false=>
  refine Qaa ?_;refine Qaa (Qaa (Qch ?_));refine Qaa (Jv n10 q10 hx λh₂ h1₂ g=>Qae (Qae ?_));refine Qaa (Qaa (Qch ?_));refine Qaa (Jv (n20.mv λo e=>g.extBut _ _ D.i12.symm e) (q20.mv λo e=>g.extBut _ _ D2.i e) hy λG h2₃ q=>Qae (Qae (Qae ?_)));refine Qaa (Qgq (hsz:=(show 2<=sizeLine by decide)) (Qae ⟨_,U,?_⟩));have hsz:G.objs.size=s.heap.objs.size:=by rw[q.1,g.1];exact Z.1
  have hk₃:∀c o,c≠z->c≠i1->c≠i2->s.heap.get? c=some o->G.get? c=some o:=λc o c1 c3 c4 e=>q.extBut _ _ c4 (g.extBut _ _ c3 (Z.extBut _ _ c1 e));have zz:G.get? z=some (zO f0 fb' f O):=q.extBut _ _ D.i2z.symm (g.extBut _ _ D.i1z.symm hz0');have hT:IsPair (G.push {cls:=.type "tuple",data:=.seq #[x,y]}) G.objs.size x y:=Qao _ rfl;rw[hsz]at hT ⊢;have up:∀c o,G.get? c=some o->(G.push {cls:=.type "tuple",data:=.seq #[x,y]}).get? c=some o:=λc o e=>Qab _ e;exact hQ _ ⟨⟨_,_,up _ _ zz,hf⟩,up _ _ (hk₃ _ _ D.TIz D.TIi1 D.TIi2 hTI),⟨_,_,up _ _ (hk₃ _ _ D.TOz D.TOi1 D.TOi2 hTO)⟩,h1₂.mv λo e=>up _ _ (q.extBut _ _ D.i12 e),h2₃.mv λo e=>up _ _ e⟩ hT λc o c1 c2 c3 c4 e=>up c o (hk₃ c o c1 c3 c4 e)
end
section
variable {prog:An}{w:Ar}{A:Ao}{E:Ab}{s:Aq}
def fin{b1 b2:Bool}{z i1 i2 l1 l2:Au}{xs ys:Ah}{Q:Fin->Shared->Prop}(hh:A.handled=none)(D:Ap z f O i1 i2)(D1:Of z O i1 i2 l1)(D2:Of z O i1 i2 l2)
  (S:St b1 b2 z f O i1 i2 l1 l2 n L s.heap) (q1:SeqAt b1 s.heap l1 xs) (q2:SeqAt b2 s.heap l2 ys) (hend:xs[n]?=none\/ys[L]?=none)
  (hE:∀h' e,(∀c o,c≠z->c≠O->c≠i1->c≠i2->s.heap.get? c=some o->h'.get? c=some o)->(∃o,h'.get? e=some o/\o.cls=.type "StopIteration")->E (.ref e) {s with heap:=h'}):
  A1 prog w A (Builtin.«zip.__next__» ⟨[.ref z],[]⟩) Q E s:=by
 obtain⟨⟨f0,fb,hz,hf⟩,hTI,⟨a,b,hTO⟩,n1,n2⟩:=S;show wpAny _ _ (field (.ref z) 2 >>= _) _ _ _;refine Qaa (Qbt hz U (x:=.bool false) U ?_);refine Qaa (Qbt hz U (x:=.ref f) U ?_);refine Qaa (Qcc hTI U ?_);refine Qaa (Ze7 hz hf λr h0 fb' hz0 G=>?_);have hTO0:IsPair h0 O a b:=G.extBut _ _ D.TOz hTO;have n10:ZS b1 h0 i1 l1 n:=n1.mv λo e=>G.extBut _ _ D.i1z e;have n20:ZS b2 h0 i2 l2 L:=n2.mv λo e=>G.extBut _ _ D.i2z e;have q10:SeqAt b1 h0 l1 xs:=q1.mv λo e=>G.extBut _ _ D1.z e;have q20:SeqAt b2 h0 l2 ys:=q2.mv λo e=>G.extBut _ _ D2.z e;cases r with
 |true=>
  refine Qaa (Qdu ?_);refine Qaa (Qbt hz0 U (x:=.ref O) U ?_);refine Qaa (Qb4 hz0 (by simp) λh₁ Z C=>?_);refine Qaa ?_;refine Qaa (Qaa (Qg3 ?_));cases hx:xs[n]? with
  |none=>
   refine Qaa (yx hh (n10.mv λo e=>C.extBut _ _ D.i1z e) (q10.mv λo e=>C.extBut _ _ D1.z e) hx λF e g he=>?_);obtain⟨oe,I,hce⟩:=he;have hz₂:F.get? z=some (zO .ellipsis fb' f O):=g _ _ D.i1z.symm Z;have hez:e≠z:=λx=>by subst x;rw[hz₂]at I;cases I;simp[zO]at hce
   refine Qb4 hz₂ (by simp) λJ _ q=>hE J e (λc o c1 _ c3 _ x=>q.extBut _ _ c1 (g _ _ c3 (C.extBut _ _ c1 (G.extBut _ _ c1 x)))) ⟨oe,q.extBut _ _ hez I,hce⟩
  |some x=>
   have hy:ys[L]?=none:=by grind
   refine Qaa (Jv (n10.mv λo e=>C.extBut _ _ D.i1z e) (q10.mv λo e=>C.extBut _ _ D1.z e) hx λF h1₂ g=>Qae ?_);have Y:IsPair F O a b:=g.extBut _ _ D.TOi1 (C.extBut _ _ D.TOz hTO0);refine Qaa (Qcc Y U ?_);refine Qaa (Qf2 Y λJ hTO₃ q=>?_);refine Qaa (Qez (Qae ?_));refine Qaa (Qaa (Qg3 ?_));refine Qaa (yx hh (n20.mv λo e=>q.extBut _ _ D.TOi2.symm (g.extBut _ _ D.i12.symm (C.extBut _ _ D.i2z e)))
    (q20.mv λo e=>q.extBut _ _ D2.o (g.extBut _ _ D2.i (C.extBut _ _ D2.z e))) hy λh₄ e hs₄ he=>?_)
   obtain⟨oe,I,hce⟩:=he;have hz₄:h₄.get? z=some (zO .ellipsis fb' f O):=hs₄ _ _ D.i2z.symm (q.extBut _ _ D.TOz.symm (g.extBut _ _ D.i1z.symm Z));have hez:e≠z:=λx=>by subst x;rw[hz₄]at I;cases I;simp[zO]at hce
   refine Qb4 hz₄ (by simp) λh₅ _ hs₅=>hE h₅ e (λc o c1 c2 c3 c4 x=>hs₅.extBut _ _ c1 (hs₄ _ _ c4 (q.extBut _ _ c2 (g.extBut _ _ c3 (C.extBut _ _ c1 (G.extBut _ _ c1 x)))))) ⟨oe,hs₅.extBut _ _ hez I,hce⟩
 |false=>
  refine Qaa ?_;refine Qaa (Qaa (Qch ?_));cases hx:xs[n]? with
  |none=>exact Qaa (yx hh n10 q10 hx λF e g he=>hE F e (λc o c1 _ c3 _ x=>g _ _ c3 (G.extBut _ _ c1 x)) he)
  |some x=>
   have hy:ys[L]?=none:=by grind
   refine Qaa (Jv n10 q10 hx λF h1₂ g=>Qae (Qae ?_));refine Qaa (Qaa (Qch ?_));exact Qaa (yx hh (n20.mv λo e=>g.extBut _ _ D.i12.symm e) (q20.mv λo e=>g.extBut _ _ D2.i e) hy λJ e q he=>hE J e (λc o c1 _ c3 c4 x=>q _ _ c4 (g.extBut _ _ c3 (G.extBut _ _ c1 x))) he)
def next_item{b1 b2:Bool}{z i2 g q:Au}{xs ys:Ah}{x y:As}{Q:Aa}(D:Ap z a f O i2)(D1:Of z f O i2 g)(I:Of z f O i2 q)
  (S:St b1 b2 z a f O i2 g q i n s.heap) (q1:SeqAt b1 s.heap g xs) (q2:SeqAt b2 s.heap q ys) (J:xs[i]?=some x) (Y:ys[n]?=some y)
  (Z:∀h',St b1 b2 z a f O i2 g q (i+1) (n+1) h'->IsPair h' s.heap.objs.size x y->
   (∀c o,c≠z->c≠f->c≠O->c≠i2->s.heap.get? c=some o->h'.get? c=some o)->Q (some (.ref s.heap.objs.size)) {s with heap:=h'}):
  A1 prog w A (pyNext (.ref z)) Q E s:=by
 obtain⟨f0,fb,hz,hf⟩:=S.z;have C:s.TypeIs (.ref z) "zip" :=⟨_,hz,U⟩;exact Qaa (Qdj (wpAny_callSpecial?_slot C Qfh
  (Qbo Qfh C F.entry_zip_next (item D D1 I S q1 q2 J Y λh' a1 a2 G=>Qae (Z h' a1 a2 G)) (F.args_zip_next_1 _))))
def next_end{b1 b2:Bool}{z i2 q C:Au}{xs ys:Ah}{Q:Aa}(hh:A.handled=none)(D:Ap z a f O i2)(D1:Of z f O i2 q)(I:Of z f O i2 C)
  (S:St b1 b2 z a f O i2 q C i n s.heap) (q1:SeqAt b1 s.heap q xs) (q2:SeqAt b2 s.heap C ys) (g:xs[i]?=none\/ys[n]?=none)
  (Y:∀h',(∀c o,c≠z->c≠f->c≠O->c≠i2->s.heap.get? c=some o->h'.get? c=some o)->Q none {s with heap:=h'}):
  A1 prog w A (pyNext (.ref z)) Q E s:=by
 obtain⟨f0,fb,hz,hf⟩:=id S.z;have G:s.TypeIs (.ref z) "zip" :=⟨_,hz,U⟩;refine Qaa (Qdj (wpAny_callSpecial?_slot G Qfh (Qbo Qfh G F.entry_zip_next ?_ (F.args_zip_next_1 _))));refine fin hh D D1 I S q1 q2 g λh' e J he=>?_;obtain⟨o,Z,hc⟩:=he;exact Qaa (Qdd ⟨o,Z,hc⟩ Qfr (Qae (Y _ J)))
def iter_self{z:Au}(hz:s.heap.get? z=some (zO v j a f))(h:Q (.ref z) s):A1 prog w A (pyIter (.ref z)) Q E s:=by
 have g:s.TypeIs (.ref z) "zip" :=⟨_,hz,U⟩;refine Qfp g F.slot_zip_iter (Qbo F.slot_zip_iter g F.entry_zip_iter (Qae ⟨_,U,"zip",_,g,Qfh.lookup,h⟩) (F.args_zip_iter_1 _))
end
def hz1(b1:Bool)(h:Heap)(g:Au):Heap:=h.push (itO b1 g)
def hz2(b1 b2:Bool)(h:Heap)(g q:Au):Heap:=(hz1 b1 h g).push (itO b2 q)
def hz3 (b1 b2:Bool) (h:Heap) (g q:Au):Heap:=(hz2 b1 b2 h g q).push {cls:=.type "tuple",data:=.seq #[.ref h.objs.size,.ref (hz1 b1 h g).objs.size]}
def hz4 (b1 b2:Bool) (h:Heap) (g q:Au):Heap:=(hz3 b1 b2 h g q).push {cls:=.type "tuple",data:=.seq #[.none,.none]}
def hz5(b1 b2:Bool)(h:Heap)(g q:Au):Heap:=(hz4 b1 b2 h g q).push (zO .none false (hz2 b1 b2 h g q).objs.size (hz3 b1 b2 h g q).objs.size)
theorem Jt(b1 b2:Bool)(q C:Au)(xs ys:Ah):
  Meets (Builtin.«zip.__new__» ⟨[.type "zip",.ref q,.ref C],[]⟩) (λ_ R s=>SeqAt b1 s.heap q xs/\SeqAt b2 s.heap C ys /\
   R (.ok (.ret (.ref (hz4 b1 b2 s.heap q C).objs.size))) {s with heap:=hz5 b1 b2 s.heap q C}):=
 .of_wp λprog w A R s h=>by
  obtain⟨J,g,d,tk,os⟩:=s;obtain⟨I,D,h⟩:=h;have O:=sub_zip;have G:SeqAt b1 (Shared.heap ⟨J,g,d,tk,os⟩) q xs:=I;have F:SeqAt b2 (Shared.heap ⟨J.push (itO b1 q),g,d,tk,os⟩) C ys:=D.mv λo e=>Qab _ e
  wp_walk using Wn G,Wn F
  exact⟨_,U,h⟩
section
variable {prog:An}{w:Ar}{A:Ao}{E:Ab}{s:Aq}
def call_new{b1 b2:Bool}{xs ys:Ah}(C:SeqAt b1 s.heap a xs)(g:SeqAt b2 s.heap f ys)
  (h:∀h',St b1 b2 (s.heap.objs.size+4) (s.heap.objs.size+2) (s.heap.objs.size+3) s.heap.objs.size (s.heap.objs.size+1) a f 0 0 h'->(∀c o,s.heap.get? c=some o->h'.get? c=some o)->Q (.ref (s.heap.objs.size+4)) {s with heap:=h'}):
  A1 prog w A (call (.type "zip") [.ref a,.ref f]) Q E s:=by
 refine Qhd F.called_zip (by decide) (F.typeCall_zip_2 _ _) (F.newCall_zip_2 _ _) (λI=>F.args_object_init_3 I _ _) F.entry_zip_new (Jt b1 b2 a f xs ys) ⟨C,g,?_⟩;have J:(hz1 b1 s.heap a).objs.size=s.heap.objs.size+1:=Qby ..;have q:(hz2 b1 b2 s.heap a f).objs.size=s.heap.objs.size+2:=by unfold hz2;rw[Qby,J]
 have D:(hz3 b1 b2 s.heap a f).objs.size=s.heap.objs.size+3:=by unfold hz3;rw[Qby,q]
 have Z:(hz4 b1 b2 s.heap a f).objs.size=s.heap.objs.size+4:=by unfold hz4;rw[Qby,D]
 have G:(hz5 b1 b2 s.heap a f).get? (hz4 b1 b2 s.heap a f).objs.size=some (zO .none false (hz2 b1 b2 s.heap a f).objs.size (hz3 b1 b2 s.heap a f).objs.size):=Qao _ rfl;have O:(hz5 b1 b2 s.heap a f).get? (hz3 b1 b2 s.heap a f).objs.size=some {cls:=.type "tuple",data:=.seq #[.none,.none]}:=Qab _ (Qao _ U);have Y:(hz5 b1 b2 s.heap a f).get? (hz2 b1 b2 s.heap a f).objs.size=some {cls:=.type "tuple",data:=.seq #[.ref s.heap.objs.size,.ref (hz1 b1 s.heap a).objs.size]}:=Qab _ (Qab _ (Qao _ U));have g2:(hz5 b1 b2 s.heap a f).get? (hz1 b1 s.heap a).objs.size=some (itO b2 f):=Qab _ (Qab _ (Qab _ (Qao _ U)));have g1:(hz5 b1 b2 s.heap a f).get? s.heap.objs.size=some (itO b1 a):=Qab _ (Qab _ (Qab _ (Qab _ (Qao _ U))));rw[q,D,Z]at G;rw[J,q]at Y;rw[D]at O;rw[J]at g2;rw[Z];exact⟨⟨_,G,U⟩,h _ ⟨⟨_,_,G,.inl U⟩,Y,⟨_,_,O⟩,ze g1,ze g2⟩ λc o x=>
  Qab _ (Qab _ (Qab _ (Qab _ (Qab _ x))))⟩
theorem St.other{b1 b2:Bool}{z TO i1 i2 q C:Au}{h':Heap}(D:Ap z f TO i1 i2)(S:St b1 b2 z f TO i1 i2 q C i n h)(hz:h'.get? z=some (zO v j f TO))(F:F0 v)(g:Heap.SameBut z h h'):St b1 b2 z f TO i1 i2 q C i n h':=
 ⟨⟨v,j,hz,F⟩,g.extBut _ _ D.TIz S.I,(let⟨a,b,e⟩:=S.O;⟨a,b,g.extBut _ _ D.TOz e⟩),S.n1.mv λo e=>g.extBut _ _ D.i1z e,S.n2.mv λo e=>g.extBut _ _ D.i2z e⟩
def go_any{b1 b2:Bool}{z i2 C F T:Au}{tg:Av}{Q:Unit->Shared->Prop}(D:Ap z a f O i2)(S:St b1 b2 z a f O i2 C F i L s.heap)
  (h:∀h',St b1 b2 z a f O i2 C F i L h'->Heap.SameBut z s.heap h'->Q () {s with heap:=h'}):A1 prog w A (letOwnedTupleGo tg (.ref z) (.ref T)) Q E s:=by
 have G:=h s.heap S ⟨U,λ_ _=>U⟩;obtain⟨I,J,hz,Y⟩:=id S.z;have tup:A1 prog w A (do
   let o <-load z
   match o.cls,o.data with
   |.type n,.fields vs=>
    if["enumerate","zip","dict_itemiterator","dict_reverseitemiterator","odict_iterator","itertools.zip_longest","itertools.pairwise"].contains n&&vs[0]? == some (rawInt T)then
     rule "for.unpacks-the-owned-tuple"
     updateField z 0 .none
   |_,_=>pure ()) Q E s:=by
  refine Qaa (wpAny_load hz ?_);show wpAny _ _ (if(["enumerate","zip","dict_itemiterator","dict_reverseitemiterator","odict_iterator","itertools.zip_longest","itertools.pairwise"].contains "zip" && (#[I,.bool J,.bool false,.ref a,.ref f])[0]? == some _)=true then _ else _) Q E s;split
  .refine Qaa (Qdu ?_);exact Qb4 hz (by simp) λh' q g=>h h' (S.other D q (.inl U) g) g
  .exact Qae G
 cases tg<;>first
  |exact tup
  |exact Qae G
end
end ZpT
namespace L2
open ZpT (St Ap Of SeqAt ZS)
def Itz(K:Af)(b1 b2:Bool)(a1 a2:Au):It:=
  ⟨λi H=>∃xs ys x y,SqB K b1 H a1 xs/\SqB K b2 H a2 ys/\xs[i]?=some x/\ys[i]?=some y,
   λi H v H'=>∃p,H p=none/\v=.ref p/\∀xs ys x y,SqB K b1 H a1 xs->SqB K b2 H a2 ys->xs[i]?=some x->ys[i]?=some y->H'=upd H p (.tup [x,y]),
   λi H=>∃xs ys,SqB K b1 H a1 xs/\SqB K b2 H a2 ys/\(xs.length<=i\/ys.length<=i)⟩
def GX{tg:Av}{b1 b2:Bool}{z i2 a1 a2:Au}(D:Ap z a f O i2)(D1:Of z f O i2 a1)(D2:Of z f O i2 a2):
  Turn P w K tg (Itz K b1 b2 a1 a2) [z,a,f,O,i2] z (λi h=>ZpT.St b1 b2 z a f O i2 a1 a2 i i h)where
 mem:=by simp
 obj:=λi h st b g=>by
  obtain⟨⟨f0,fb,hz,Q⟩,C,⟨x,y,F⟩,n1,n2⟩:=st;simp only[Qaw,Qbq,Qet]at g;rcases g with rfl|rfl|rfl|rfl|rfl
  .exact⟨_,hz,λv q=>by
    have q':Data.fields _=Data.cell v:=q;cases q'⟩
  .grind
  .grind
  .exact n1.ob
  .exact n2.ob
 keep:=λi h h' st k=>by
  obtain⟨⟨f0,fb,hz,Q⟩,C,⟨x,y,F⟩,n1,n2⟩:=st;exact⟨⟨f0,fb,k z (by simp) _ hz,Q⟩,k a (by simp) _ C,⟨x,y,k f (by simp) _ F⟩,n1.mv λo e=>k O (by simp) o e,n2.mv λo e=>k i2 (by simp) o e⟩
 item:=by
  intro X hP hw hK hc i pins s σ H E I Q st hg;subst hP hw hK;obtain⟨xs,ys,x,y,q1,q2,hx,hy⟩:=hg;obtain⟨Y,r1,p1,z1⟩:=I.sqB q1;obtain⟨Z,r2,p2,z2⟩:=I.sqB q2;obtain⟨u1,hu1,ru1⟩:=r1.get hx;obtain⟨u2,hu2,ru2⟩:=r2.get hy;have olt:∀b∈[z,a,f,O,i2],b<s.heap.objs.size:=λb g=>by
   obtain⟨⟨f0,fb,hz,Q⟩,C,⟨x,y,F⟩,n1,n2⟩:=st;simp only[Qaw,Qbq,Qet]at g;rcases g with rfl|rfl|rfl|rfl|rfl
   .exact Qav hz
   .exact Qav C
   .exact Qav F
   .obtain⟨o,ho,_⟩:=n1.ob;exact Qav ho
   .obtain⟨o,ho,_⟩:=n2.ob;exact Qav ho
  refine ZpT.next_item D D1 D2 st p1 p2 (x:=u1) (y:=u2) (by simpa using hu1) (by simpa using hu2) λh' st' hT hk=>?_;refine⟨_,U,ZpT.go_any (s:={s with heap:=h'}) D st' λh2 st2 hs2=>?_⟩;have G:Heap.SameBut z h' h2:=hs2;have I1:Inv X pins σ (upd H s.heap.objs.size (.tup [x,y])) {s with heap:=s.heap.push {cls:=.type "tuple",data:=.seq #[u1,u2]},toks:=s.toks}:=
   I.laid (λb o y=>Qab _ y) (Qai _) ⟨ko,[u1,u2],.cons ru1 (.cons ru2 .nil),gq.new _ _⟩
  have fp':∀b∈[z,a,f,O,i2],xI X pins (upd H s.heap.objs.size (.tup [x,y])) b:=λb g=>by
   obtain⟨a0,ar⟩:=Q b g;exact⟨by rw[Zm (Qbc (olt b g))];exact a0,ar⟩
  have I2:Inv X pins σ (upd H s.heap.objs.size (.tup [x,y])) {s with heap:=h2,toks:=s.toks}:=by
   refine Xj (s:={s with heap:=s.heap.push {cls:=.type "tuple",data:=.seq #[u1,u2]},toks:=s.toks}) I1 fp' λb o g q=>?_;have J:b≠z:=λe=>g (by simp[e]);rcases Qf1 q with⟨rfl,rfl⟩|q
   .exact(G.2 _ J).trans hT
   .exact(G.2 b J).trans (hk b o J (λe=>g (by simp[e])) (λe=>g (by simp[e])) (λe=>g (by simp[e])) q)
  refine⟨.ref s.heap.objs.size,_,I2,U,⟨_,I.hok.fresh (Qai _),U,λxs' ys' x' y' q1' q2' hx' hy'=>?_⟩,st2,λb g=>(fp' b g).1⟩;rw[I.sqB_inj q1' q1,hx]at hx';rw[I.sqB_inj q2' q2,hy]at hy';cases hx';cases hy';rfl
 done:=by
  intro X hP hw hK hc i pins s σ H E I Q st hg;subst hP hw hK;obtain⟨xs,ys,q1,q2,hx⟩:=hg;obtain⟨Y,r1,p1,z1⟩:=I.sqB q1;obtain⟨Z,r2,p2,z2⟩:=I.sqB q2;have e1:=r1.length;have e2:=r2.length;refine ZpT.next_end (I.ok.hd hc) D D1 D2 st p1 p2 (by simp;lia) λh' hk=>⟨U,?_⟩;exact Xj (t':=s.toks) I Q λb o g q=>hk b o (λe=>g (by simp[e])) (λe=>g (by simp[e])) (λe=>g (by simp[e])) (λe=>g (by simp[e])) q
 self:=λ_ _ _ _ _ st h=>let⟨_,_,hz,_⟩:=st.z;ZpT.iter_self hz h
def bt_zip:bootBuiltins "zip" = some (.type "zip"):=by decide +kernel
end L2
namespace L2
open ZpT (Ap Of SeqAt ZS)
def Zb5:typeLookup (.type "zip") "__len__" = pure none:=by kernel_rfl
def gW:typeLookup (.type "zip") "__length_hint__" = pure none:=by kernel_rfl
def ZD.sqB{H':Hp}{xs:A0}{b:Bool}(e:ZD H H')(h:SqB K b H a xs):SqB K b H' a xs:=by
 cases b
 .exact(ZD.seq e (h))
 .rcases(h)with h|h
  .refine(.inl ?_);rcases h with h|⟨o,h⟩
   .exact .inl (e _ _ h)
   .exact .inr ⟨o,e _ _ h⟩
  .exact(.inr h)
def Inv.adopt{X:Cx}{pins:Ac}{σ:St}{o:HO}(I:Inv X pins σ H s)(f:xI X pins H a)(ob:Xw X.prog X.w (upd H a o) s.heap a o):Inv X pins σ (upd H a o) s:=by
 have ne:∀{b u},H b=some u->b≠a:=λe z=>by rw[z,f.1]at e;cases e
 refine I.step (ch:=[a]) (λb g=>?_) (λb o _ _ _ e _=>e) (λb o _ _ _ e _=>⟨o.slots,e⟩) (λb u g _ D=>?_) (λb o _ e=>⟨o,e⟩) (λb xs e=>?_) (λb o u e=>?_) (λb ps e=>⟨#[],?_⟩) (λm C=>C) (λb u e=>?_) I.bare
 .have:b=a:=by grind
  subst this;exact⟨f.2.2.2.1,f.2.1,f.2.2.2.2.1,f.2.2.2.2.2⟩
 .rw[Zm (λz=>g (by simp[z]))];exact D
 .rw[Zm (ne e)];exact e
 .rw[Zm (ne e)];exact e
 .rw[Zm (ne e),e];simp
 .by_cases g:b=a
  .subst g;rw[Zb]at e;cases e;exact ob
  .rw[Zm g]at e;exact(I.hok b u e).stay (λc v _ q=>q) (λc q=>by rw[Zm (ne q)];exact q) λc xs q=>by rw[Zm (ne q)];exact q
def XM(H:Hp)(ps:List (V×V))(g:A0):Prop:=Paired (λ(p:V×V) (r:V)=>∃a,r=.ref a/\H a=some (.tup [p.1,p.2])) ps g
def XM.same{H H':Hp}{ps:List (V×V)}{g:A0}(h:XM H ps g)(s:ZD H H'):XM H' ps g:=Paired.mapP h λ_ _ ⟨a,e,q⟩=>⟨a,e,s _ _ q⟩
theorem XM.snoc{ps:List (V×V)}(h:XM H ps u){x:V}(e:H a=some (.tup [x,y])):XM H (ps++[(x,y)]) (u++[.ref a]):=by
 induction h with
 |nil=>exact .cons ⟨a,U,e⟩ .nil
 |cons r _ g=>exact .cons r g
def XM.len{ps:List (V×V)}(h:XM H ps u):ps.length=u.length:=Qf4 h
section
variable {X:Cx}{A:Ao}{b1 b2:Bool}{z TI TO i1 i2 a1 a2 S:Au}{xs ys:A0}{pins:Ac}{σ:St}{R:Result->Shared->Prop}
theorem Zic(hh:A.handled=none)(D:Ap z TI TO i1 i2)(D1:Of z TO i1 i2 a1)(D2:Of z TO i1 i2 a2)(C:S∉[z,TI,TO,i1,i2]):∀(m i:Nat)(s:Aq)(H:Hp)(zs:A0)(G:Ag)(c:Nat),min xs.length ys.length-i=m->i<=min xs.length ys.length->
  Inv X pins σ H s->(∀b∈[z,TI,TO,i1,i2],xI X pins H b)->xI X pins H S->ZpT.St b1 b2 z TI TO i1 i2 a1 a2 i i s.heap->SqB X.K b1 H a1 xs->SqB X.K b2 H a2 ys->
  s.heap.get? S=some {cls:=.type "list",dict:=none,data:=.seq G.toArray c,slots:=#[]}->Vals zs G->XM H ((xs.zip ys).take i) zs->
  (∀s' H' O J c',Inv X pins σ H' s'->xI X pins H' S->ZD H H'->s'.heap.get? S=some {cls:=.type "list",dict:=none,data:=.seq J.toArray c',slots:=#[]}->Vals O J->XM H' (xs.zip ys) O->R (.ok (.ret .none)) s')->
  codeAny (model X.prog X.w) A (.builtin "list.extend.loop" ⟨[.ref S,.ref z,.none],[]⟩) R s:=by
 intro m
 induction m with
 |zero=>
  intro i s H zs G c hm hi I hf fS st q1 q2 hS rv tw hR;obtain⟨Z,r1,p1,z1⟩:=I.sqB q1;obtain⟨its2,r2,p2,z2⟩:=I.sqB q2;have e1:=r1.length;have e2:=r2.length;refine Qcl F.entry_extend_loop ?_;rw[Qec Qeq _];show wpAny _ A.in1 (pyNext (.ref z) >>= _) _ _ s;refine Qaa (ZpT.next_end hh D D1 D2 st p1 p2 (by simp;lia) λh' Q=>?_);have I':=Xj (t':=s.toks) I hf λb o g q=>Q b o (λe=>g (by simp[e])) (λe=>g (by simp[e])) (λe=>g (by simp[e])) (λe=>g (by simp[e])) q;refine Qae (hR _ H zs G c I' fS (ZD.refl H) (Q S _ (λe=>C (by simp[e])) (λe=>C (by simp[e])) (λe=>C (by simp[e])) (λe=>C (by simp[e])) hS) rv ?_);rw[Qbv (by rw[Qcu];lia)]at tw;exact tw
 |succ m ih=>
  intro i s H zs G c hm hi I hf fS st q1 q2 hS rv tw hR;obtain⟨Z,r1,p1,z1⟩:=I.sqB q1;obtain⟨its2,r2,p2,z2⟩:=I.sqB q2;have hx:=Qad (show i<xs.length by lia);have hy:=Qad (show i<ys.length by lia);obtain⟨u1,hu1,ru1⟩:=r1.get hx;obtain⟨u2,hu2,ru2⟩:=r2.get hy;have olt:∀b∈[z,TI,TO,i1,i2],b<s.heap.objs.size:=λb g=>by
   obtain⟨o,ho,_⟩:=(GX (P:=X.prog) (w:=X.w) (K:=X.K) (tg:=.Name "x" ⟨0,0,0,0⟩) (b1:=b1) (b2:=b2) D D1 D2).obj _ _ st b g;exact Qav ho
  have Slt:S<s.heap.objs.size:=Qav hS;refine Qcl F.entry_extend_loop ?_;rw[Qec Qeq _];show wpAny _ A.in1 (pyNext (.ref z) >>= _) _ _ s;refine Qaa (ZpT.next_item D D1 D2 st p1 p2 (x:=u1) (y:=u2) (by simpa using hu1) (by simpa using hu2) λh' st' hT Q=>?_);have I1:Inv X pins σ (upd H s.heap.objs.size (.tup [xs[i],ys[i]])) {s with heap:=s.heap.push {cls:=.type "tuple",data:=.seq #[u1,u2]},toks:=s.toks}:=
   I.laid (λb o y=>Qab _ y) (Qai _) ⟨ko,[u1,u2],.cons ru1 (.cons ru2 .nil),gq.new _ _⟩
  have Y:∀{b},b<s.heap.objs.size->xI X pins H b->xI X pins (upd H s.heap.objs.size (.tup [xs[i],ys[i]])) b:=λg ⟨a0,ar⟩=>⟨by rw[Zm (Qbc g)];exact a0,ar⟩;have fp':∀b∈[z,TI,TO,i1,i2],xI X pins (upd H s.heap.objs.size (.tup [xs[i],ys[i]])) b:=λb g=>Y (olt b g) (hf b g);have hnew:H s.heap.objs.size=none:=I.hok.fresh (Qai _);have sH:ZD H (upd H s.heap.objs.size (.tup [xs[i],ys[i]])):=λb o e=>by rw[Zm (Zq e hnew)];exact e
  have I2:Inv X pins σ (upd H s.heap.objs.size (.tup [xs[i],ys[i]])) {s with heap:=h',toks:=s.toks}:=by
   refine Xj (s:={s with heap:=s.heap.push {cls:=.type "tuple",data:=.seq #[u1,u2]},toks:=s.toks}) I1 fp' λb o g q=>?_;rcases Qf1 q with⟨rfl,rfl⟩|q
   .exact hT
   .exact Q b o (λe=>g (by simp[e])) (λe=>g (by simp[e])) (λe=>g (by simp[e])) (λe=>g (by simp[e])) q
  have hS':=Q S _ (λe=>C (by simp[e])) (λe=>C (by simp[e])) (λe=>C (by simp[e])) (λe=>C (by simp[e])) hS;have lz:G.length=i:=by
   have e1:=tw.len;have e2:=rv.length;rw[Qas,Qcu]at e1;lia
  show wpAny _ A.in1 (updateSeq S (·.push (.ref s.heap.objs.size)) >>= _) _ _ _;refine Qaa (Qdp hS' U (Qae ⟨Qdk Qeq _,?_⟩) (by rw[Qb8];lia) (by show(G.toArray.push _).size<=sizeLine+1;rw[Array.size_push,Qb8];lia));have oth:∀b o,b≠S->h'.get? b=some o->(h'.update S (Obj.mapSeq (·.push (Value.ref s.heap.objs.size)))).get? b=some o:=λb o g e=>(Qbu _ _ (Qd7 g)).trans e;have hS2:=Qbi (Obj.mapSeq (·.push (Value.ref s.heap.objs.size))) hS' rfl;have fS':=Y Slt fS;have I3:Inv X pins σ (upd H s.heap.objs.size (.tup [xs[i],ys[i]])) {s with heap:=h'.update S (Obj.mapSeq (·.push (Value.ref s.heap.objs.size))),toks:=s.toks}:=
   Xj (s:={s with heap:=h',toks:=s.toks}) (fp:=[S]) I2 (λb g=>by have:b=S:=(by simpa using g);subst this;exact fS') λb o g q=>oth b o (λe=>g (by simp[e])) q
  have st3:=(GX (P:=X.prog) (w:=X.w) (K:=X.K) (tg:=.Name "x" ⟨0,0,0,0⟩) (b1:=b1) (b2:=b2) D D1 D2).keep (i+1) h' (h'.update S (Obj.mapSeq (·.push (Value.ref s.heap.objs.size)))) st' λb g o e=>oth b o (λz=>C (by rw[<-z];exact g)) e;refine ih (i+1) _ (upd H s.heap.objs.size (.tup [xs[i],ys[i]])) (zs++[.ref s.heap.objs.size]) (G++[.ref s.heap.objs.size]) _ (by lia) (by lia) I3 fp' fS' st3 (sH.sqB q1) (sH.sqB q2) (by rw[<-List.push_toArray];exact hS2) (rv.append (.cons (show RelV (.ref s.heap.objs.size) (.ref s.heap.objs.size)from U) .nil)) ?_ λs' H' O J c' J1 J2 J3 J4 J5 J6=>hR s' H' O J c' J1 J2 (sH.trans J3) J4 J5 J6;have hzi:(xs.zip ys)[i]?=some (xs[i],ys[i]):=by rw[Qc3];exact⟨hx,hy⟩
  rw[take_snoc hzi];exact(tw.same sH).snoc Zb
end
end L2
namespace L2
open ZpT (Ap Of SeqAt ZS)
def zfp(n:Nat):List Au:=[n+4,n+2,n+3,n,n+1]
def zap(n:Nat):Ap (n+4) (n+2) (n+3) n (n+1):=by constructor<;>(lia)
def zof{l:Nat}(h:l<n):Of (n+4) (n+3) n (n+1) l:=by constructor<;>(lia)
section
variable {X:Cx}{e1 e2:Av}{t:TA}{p pos:Pos}{b1 b2:Bool}
def Zkm{b:Bool}{l:Au}{xs:Ah}(q:SeqAt b h l xs):l<h.objs.size:=by
 cases b
 .obtain⟨o,g,_⟩:=(q);exact Qav g
 .obtain⟨o,g,_⟩:=(q);exact Qav g
def Zap     {RR:Au->Addr->List V->List V->Hp->Prop}  (hg:Gl X "zip") (hm:X.mg "zip" = none) (ha:QA X [e1,e2] t) (J:[e1,e2].all Ya=true) (I:Inv X m c H s)
  (h:t c H λvs H1=>∃a1 a2 xs ys,vs=[.ref a1,.ref a2]/\SqB X.K b1 H1 a1 xs/\SqB X.K b2 H1 a2 ys/\RR a1 a2 xs ys H1)
  (fin:∀a1 a2 xs ys n H1 q,Inv X m c H1 q->SqB X.K b1 H1 a1 xs->SqB X.K b2 H1 a2 ys->RR a1 a2 xs ys H1->a1<n->a2<n->ZpT.St b1 b2 (n+4) (n+2) (n+3) n (n+1) a1 a2 0 0 q.heap->(∀b∈zfp n,xI X m H1 b)->Q (.ref (n+4)) q):
  A2 X (eval (.Call (.Name "zip" p) [e1,e2] [] pos) X.env) Q X.xe s:=by
 rw[Qdw,Qce]at J;refine Qc0 (Jr I hg hm bt_zip ?_);refine Qb5 (thn (ha.out pos m s c H _ I h) λus q ⟨vs,H1,C,r1,D⟩=>?_) (Zy J.1) (XF J.2);obtain⟨a1,a2,xs,ys,rfl,D,q2,r⟩:=D;obtain⟨u1,u2,rfl,F,G⟩:=Zib r1;cases F;cases G;obtain⟨O,v1,p1,z1⟩:=C.sqB D;obtain⟨Y,v2,p2,z2⟩:=C.sqB q2;refine ZpT.call_new p1 p2 λh' st hk=>?_;refine fin a1 a2 xs ys _ H1 _ (C.kept hk) D q2 r (Zkm p1) (Zkm p2) st λb Z=>?_;have g:q.heap.objs.size<=b:=by
  simp[zfp,Qaw,Qbq,Qet]at Z;rcases Z with rfl|rfl|rfl|rfl|rfl
  .exact Qfx _ _
  .exact Qfx _ _
  .exact Qfx _ _
  .exact Qai _
  .exact Qfx _ _
 exact C.fpOk g (C.hok.fresh g)
def iZip2(K:Af)(b1 b2:Bool)(t:TA):TI:=λσ H R=>t σ H λvs H1=>∃a1 a2 xs ys,vs=[.ref a1,.ref a2]/\SqB K b1 H1 a1 xs/\SqB K b2 H1 a2 ys/\R (Itz K b1 b2 a1 a2) H1
def qi_zip {tg:Av} (q:Gl X "zip") (C:X.mg "zip" = none) (D:QA X [e1,e2] t) (F:[e1,e2].all Ya=true:=by rfl):QI X tg (.Call (.Name "zip" p) [e1,e2] [] pos) (iZip2 X.K b1 b2 t):=by
 refine⟨λpins s σ H R I h=>?_⟩;refine Zap q C D F I h λa1 a2 xs ys n H1 Q G Y q2 r g O st J=>?_;obtain⟨Z,fb,hz,_⟩:=id st.z;exact ZpT.iter_self hz ⟨n+4,zfp n,_,_,H1,U,G,GX (zap n) (zof g) (zof O),st,J,r⟩
def tLz(K:Af)(b1 b2:Bool)(t:TA):TE:=λσ H Q=>t σ H λvs H1=>∃a1 a2 xs ys,vs=[.ref a1,.ref a2]/\SqB K b1 H1 a1 xs/\SqB K b2 H1 a2 ys/\∀l zs H',H1 l=none->ZD H1 H'->XM H' (xs.zip ys) zs->H' l=some (.lst zs)->Q (.ref l) H'
def Zb6 {p2 pos2:Pos} (hg:Gl X "zip") (hm:X.mg "zip" = none) (hgl:Gl X "list") (hml:X.mg "list" = none) (hc:X.calm=true) (ha:QA X [e1,e2] t) (hp:[e1,e2].all Ya=true:=by rfl):
  QE X (.Call (.Name "list" p2) [.Call (.Name "zip" p) [e1,e2] [] pos] [] pos2) (tLz X.K b1 b2 t):=by
 refine⟨λpins s σ H Q I h=>?_⟩;have hs:starEach [.Call (.Name "zip" p) [e1,e2] [] pos] X.env=[(false,eval (.Call (.Name "zip" p) [e1,e2] [] pos) X.env)]:=by rfl
 refine Qc0 (Jr I hgl hml gC ?_);refine Qb5 ?_ hs rfl;rw[hs];refine Qcs (Zap (b1:=b1) (b2:=b2) (RR:=λa1 a2 xs ys H1=>∀l zs H',H1 l=none->ZD H1 H'->XM H' (xs.zip ys) zs->H' l=some (.lst zs)->Q (.ref l) H') hg hm ha hp I h λa1 a2 xs ys n H1 g I1 q1 q2 k l1 l2 st hf=>?_);refine Qd0 ?_;have hh:X.A.handled=none:=I1.ok.hd hc;have G:H1 g.heap.objs.size=none:=I1.hok.fresh (Qai _);have O:g.heap.objs.size∉zfp n:=λC=>by
  obtain⟨o,ho,_⟩:=(GX (P:=X.prog) (w:=X.w) (K:=X.K) (tg:=.Name "x" ⟨0,0,0,0⟩) (b1:=b1) (b2:=b2) (zap n) (zof l1) (zof l2)).obj _ _ st _ C;exact Qb0 _ (Qav ho)
 refine callType_codes (Q₁:=λobj J=>obj=.ref g.heap.objs.size/\J={g with heap:=g.heap.push {cls:=.type "list",data:=.seq #[]}}) F.called_list (F.typeCall_list_1 _) F.entry_list_init (code_list_new _ ⟨U,U⟩) λobj J h₁=>?_;obtain⟨rfl,rfl⟩:=h₁;have hS:(g.heap.push {cls:=.type "list",data:=.seq #[]}).get? g.heap.objs.size=some {cls:=.type "list",data:=.seq #[]}:=Qao _ rfl;refine⟨⟨_,hS,U⟩,F.args_list_init_2 _ _,?_⟩;have fS:xI X pins H1 g.heap.objs.size:=I1.fpOk (Qai _) G;have I2:Inv X pins σ H1 {g with heap:=g.heap.push {cls:=.type "list",data:=.seq #[]},toks:=g.toks}:=I1.kept (t':=g.toks) λb o e=>Qab _ e;have T0:=GX (P:=X.prog) (w:=X.w) (K:=X.K) (tg:=.Name "x" ⟨0,0,0,0⟩) (b1:=b1) (b2:=b2) (zap n) (zof l1) (zof l2);have st2:=T0.keep 0 g.heap (g.heap.push {cls:=.type "list",data:=.seq #[]}) st λb _ o e=>Qab _ e;generalize hSe:g.heap.objs.size=S at *;generalize g.heap.push {cls:=.type "list",data:=.seq #[]}=h2 at *;refine Qaa ?_;refine Qaa (Qcc (s:={g with heap:=h2}) hS U (Qae ?_));refine Qaa (Qdp (s:={g with heap:=h2}) hS U ?_);have Y:∀{s':Aq} {H':Hp} {f:Ah->Array As},Inv X pins σ H' s'->xI X pins H' S->ZpT.St b1 b2 (n+4) (n+2) (n+3) n (n+1) a1 a2 0 0 s'.heap->Inv X pins σ H' {s' with heap:=s'.heap.update S (Obj.mapSeq f),toks:=s'.toks}/\ZpT.St b1 b2 (n+4) (n+2) (n+3) n (n+1) a1 a2 0 0 (s'.heap.update S (Obj.mapSeq f)):=λ{s' H' f} I' f' st'=>by
  have oth:∀b o,b≠S->s'.heap.get? b=some o->(s'.heap.update S (Obj.mapSeq f)).get? b=some o:=λb o C e=>(Qbu _ _ (Qd7 C)).trans e;refine⟨Xj (t':=s'.toks) (fp:=[S]) I' (λb C=>?_) λb o C q=>oth b o (λe=>C (by simp[e])) q,T0.keep 0 _ _ st' λb C o e=>oth b o (λz=>O (by rw[<-z];exact C)) e⟩;have:b=S:=by simpa using C
  subst this;exact f'
 obtain⟨I3,st3⟩:=Y (f:=λ_=>#[]) I2 fS st2;have hS3:=Qbi (Obj.mapSeq (λ_=>(#[]:Ah))) hS rfl;refine Qaa (Qez ?_);obtain⟨f0,fb,hz3,_⟩:=id st3.z;have Z:Shared.TypeIs {g with heap:=h2.update S (Obj.mapSeq (λ_=>(#[]:Ah)))} (.ref (n+4)) "zip" :=⟨_,hz3,U⟩;have hSI:S≠n+4:=λe=>O (by rw[e];simp[zfp]);refine Qaa (Qex Z ?_);have g1:Builtin.List.listSameRef (.ref S) (.ref (n+4))=false:=by simp[Builtin.List.listSameRef,hSI]
 have g2:(Value.type "zip" == Value.type "list")=false:=by decide
 have g3:(Value.type "zip" == Value.type "tuple")=false:=by decide
 simp only[g1,g2,g3,Bool.or_false,Qda,if_false];refine Qaa (ZpT.iter_self hz3 ?_);refine Qaa (Qch ?_);refine Qaa (Qdn Z Zb5 ?_);refine Qaa (Qdn Z gW ?_);refine Qae ?_;refine Qaa (Qdu ?_);refine Qaa ?_;refine Qaa (Qdp hS3 U ?_);obtain⟨I4,st4⟩:=Y (f:=(·.push Value.none)) I3 fS st3;have hS4:=Qbi (Obj.mapSeq (·.push Value.none)) hS3 rfl;refine Qdp (hz:=by seq_fits) hS4 U ?_;obtain⟨I5,st5⟩:=Y (f:=(·.pop)) I4 fS st4;have hS5:=Qbi (Obj.mapSeq (·.pop)) hS4 rfl;refine Qae ⟨Qdk Qeq _,Zic (A:=X.A.in1) (xs:=xs) (ys:=ys) hh (zap n) (zof l1) (zof l2) O _ 0 _ H1 [] [] _ U (Qbj _) I5 hf fS st5 q1 q2 hS5 .nil .nil λs' H' D its' c' J1 J2 J3 J4 J5 J6=>?_⟩;have hz:D.length<=sizeLine:=by
  obtain⟨_,_,_,C⟩:=I1.sqB q1;rw[<-J6.len,Qcu];lia
 have sS:ZD H' (upd H' S (.lst D)):=λb o e=>by rw[Zm (Zq e J2.1)];exact e
 refine⟨U,.ref S,_,J1.adopt (o:=.lst D) J2 ⟨hz,its',c',J5,J4⟩,U,k S D _ G (J3.trans sS) (J6.same sS) Zb⟩
end
end L2
namespace L2
def PP1(X:Cx)(pos:Pos)(k v:Av)(tk tv:TE):Prop:=∀pins s σ H (R:V->V->Hp->Prop),Inv X pins σ H s->(tk σ H λx H1=>tv σ H1 λy H2=>R x y H2)->
 A2 X (evalPairs (pairTrees [some k] [v] X.env pos)) (λq g=>∃x y u r H2,q=[(u,r)]/\Inv X pins σ H2 g/\RelV x u/\RelV y r/\R x y H2) X.xe s
def pp1{k v:Av}{tk:TE}(D:QE X k tk)(F:QE X v A):PP1 X p k v tk A:=by
 intro pins s σ H R I q;refine pairTrees_cons_walk (thn (D.out pins s σ H _ I q) λu g ⟨x,H1,O,Q,G⟩=>thn (F.out pins g σ H1 _ O G) λr Z ⟨y,H2,C,J,Y⟩=>pairTrees_nil_walk ⟨x,y,u,r,H2,U,C,Q,J,Y⟩)
def Zid{b1 b2:Bool}{xs ys:A0}{is:Aj}{σ:St}(g:Nat->List V->Hp->Prop)(h0:g 0 [] H)(Q:∀i zs H,g i zs H->zs.length<=sizeLine)(hq:∀i zs H,g i zs H->SqB K b1 H a xs/\SqB K b2 H f ys)
  (Y:∀i x y p zs H (R:A0->Hp->Prop),(∀zs H,g (i+1) zs H->R zs H)->xs[i]?=some x->ys[i]?=some y->g i zs H->H p=none->D (xJ is σ (some (.ref p))) (upd H p (.tup [x,y])) λb H2=>if b=true then A (xJ is σ (some (.ref p))) H2 λy H3=>R (zs++[y]) H3 else R zs H2)
  (hd:∀zs H,g (xs.zip ys).length zs H->∀p,H p=none->C (.ref p) (upd H p (.lst zs))):
  Gb is D A σ C (Itz K b1 b2 a f) H:=by
 refine⟨λi m zs H=>m=(xs.zip ys).length-i/\i<=(xs.zip ys).length/\g i zs H,⟨(xs.zip ys).length,by simp,Qbj _,h0⟩,?_⟩;rintro i m zs H ⟨rfl,hi,p⟩;obtain⟨F,I⟩:=hq i zs H p;have hz:(xs.zip ys).length=min xs.length ys.length:=Qcu
 by_cases G:i<(xs.zip ys).length
 .have q:i<xs.length:=by lia
  have J:i<ys.length:=by lia
  refine .inr ⟨⟨xs,ys,xs[i],ys[i],F,I,Qad q,Qad J⟩,Q i zs H p,λx H' y=>?_⟩;obtain⟨c,hc,rfl,e⟩:=y;rw[e xs ys _ _ F I (Qad q) (Qad J)];exact Y i _ _ c zs H (λzs H=>∃O,O<(xs.zip ys).length-i/\(λi m zs H=>m=(xs.zip ys).length-i/\i<=(xs.zip ys).length/\g i zs H) (i+1) O zs H) (λzs H Z=>⟨(xs.zip ys).length-(i+1),by lia,U,G,Z⟩) (Qad q) (Qad J) p hc
 .have e:i=(xs.zip ys).length:=by lia
  subst e;exact .inl ⟨⟨xs,ys,F,I,by lia⟩,Q _ zs H p,hd zs H p⟩
def HT.cat_tup0{prog:An}{A:Ao}{E:Ab}{t b:Au}(Y:IsTup s.heap t #[])(hb:IsTup s.heap b Z.toArray)(q:Q (.ref b) s):
  A1 prog w A (binaryOp .Add (.ref t) (.ref b)) Q E s:=by
 obtain⟨⟨cls,dd,data,sl⟩,I,hc,n,hd⟩:=id Y;obtain⟨⟨J,D,data2,F⟩,g,C,O,G⟩:=id hb;subst hc hd C G;exact concat_meets ⟨_,I,U⟩ ⟨_,g,U⟩ Qg5 seq_tuple_add Qfl Qfc (Qfa _ _)
  (tuple_addW0 t b #[] _ n O dd D sl F U) ⟨I,g,q⟩
inductive Ze8(x:V)(y:V)(H:Hp)(Q:VK):Prop
 |mk (a b xs ys:_):(x=.ref a)->(y=.ref b)->(H a=some (.tup xs))->(H b=some (.tup ys))->(xs.length+ys.length<=sizeLine)->(∀p H',H' p=some (.tup (xs++ys))->ZD H H'->Q (.ref p) H')->Ze8 x y H Q
def Zpl  : R2:=λx y H Q=>Ze8 x y H Q
def Zn:OpR X (binaryOp .Add) Zpl:=by
 intro pins s σ H x y v u Q I Z Y h;obtain⟨a,b,xs,ys,rfl,rfl,F,G,hz,q⟩:=h;cases Z;cases Y;obtain⟨O,g,p1,_⟩:=I.tuple (SqT.of F);obtain⟨J,D,p2,_⟩:=I.tuple (SqT.of G)
 by_cases C:xs=[]
 .have e:=g.nil_iff.mpr C;subst e C;exact HT.cat_tup0 p1 p2 ⟨.ref b,H,I,U,q b H G λ_ _ z=>z⟩
 .refine HT.cat_tup p1 p2 (λz=>C (g.nil_iff.mp z)) (λz=>⟨.ref a,H,I,U,q a H ?_ λ_ _ z=>z⟩) (λz=>?_) (by rw[<-g.length,<-D.length];exact hz)
  .rw[D.nil_iff.mp z,Qbk];exact F
  .have hn:=I.hok.fresh (Qai _);refine⟨.ref _,_,I.laid (λb ob q=>Qab _ q) (Qai _) ?_,U,q _ _ Zb λc o z=>by rw[Zm (λe=>by grind)];exact z⟩;exact⟨by grind,_,g.append D,gq.new _ _⟩
open PySem.W (hideAll of_hideAll hideAll_get hideAll_none funFrames_hide)
end L2
namespace L2
abbrev bmVE:Ag:=[.type "ValueError",.type "Exception",.type "BaseException",.type "object"]
open PySem.Calls
open PySem.W
def excMk(K:Frag)(C:Au):Bool:=match K.lookup C with
 |some ⟨.type "type",_,.cls g,sm⟩=>(match g.mro,sm.toList with
  |.ref q::tl,[_,_,_,_,some (.builtin n),_]=>q == C&&(n == "ValueError.__new__" && (!g.hasDel&&tailIn K bmVE tl))
  |_,_=>false)
 |_=>false
end L2
namespace L2
open PySem
def hideG{g:Prop}(h:∀G:Prop,(g->G)->G):g:=h g λz=>z
theorem len1{P:List g->Prop}(h:∀a,P [a]):∀q:List g,q.length=1->P q
 |[a],_=>h a
theorem len2{P:List g->Prop}(h:∀a b,P [a,b]):∀q:List g,q.length=2->P q
 |[a,b],_=>h a b
theorem len3{P:List g->Prop}(h:∀a b c,P [a,b,c]):∀q:List g,q.length=3->P q
 |[a,b,c],_=>h a b c
theorem len4{P:List g->Prop}(h:∀a b c d,P [a,b,c,d]):∀q:List g,q.length=4->P q
 |[a,b,c,d],_=>h a b c d
theorem len5{P:List g->Prop}(h:∀a b c d e,P [a,b,c,d,e]):∀q:List g,q.length=5->P q
 |[a,b,c,d,e],_=>h a b c d e
theorem walk_X{q:An}{I:(Ae)->Heap->Prop}{K:Params->PySem.W.Frag}{as:List Au}{t:Nat}{r:PySem.W.RowW}{d:DefRec}{g:List (Str×Av)}{run:As->List As->Sem As}
  (e:∀P,as=(K P).map (·.1)) (W:PySem.W.WalkO q N I (PySem.W.InK K) r d g run):PySem.W.WalkX q N I (PySem.W.X.obsZ as) (PySem.W.X.valZ K n t) r d g run:=
 λw s₀ D mg mb G y a o Y cd F dV kV e1 e2 e3 e4 Q J args C as L p l R O Z=>
  W w s₀ D mg mb G (PySem.W.InK.keeps w _ _ (PySem.W.X.z_facts e y).2.1 L.keeps) a o Y cd F dV kV e1 e2 e3 e4 Q J args C as p l R O Z
def noT(K:Af):Af:=K.filter λp=>match p.2.cls,p.2.data with
 |.none,.fields _=>false
 |_,_=>true
def noT_ok(K:Af):PySem.W.noTabs (noT K)=true:=by
 unfold PySem.W.noTabs noT;rw[Qc4];intro p g;exact(Qct.mp g).2
def nodB:Aj->Bool
 |[]=>true
 |a::r=>r.all (λb=>!(Nat.beq a b))&&nodB r
theorem lookup_mem{a:Au}{o:Obj}:∀{K:Af},K.lookup a=some o->(a,o)∈K
 |(b,u)::r,h=>by
  rw[Qdc]at h
  by_cases e:(a == b)=true
  .grind
  .rw[Bool.eq_false_iff.mpr e]at h;exact Qak _ (lookup_mem h)
theorem mem_lookup{a:Au}{o:Obj}:∀{K:Af},nodB (K.map (·.1))=true->(a,o)∈K->K.lookup a=some o
 |(b,u)::r,q,h=>by
  rw[Qdc];have g:=Qco.mp q;rcases Qaw.mp h with e|e
  .cases e;rw[Qde]
  .have C:(a == b)=false:=by
    rw[Qgd];intro z;have:=Qc4.mp g.1 a (Qcw e);rw[z,Nat.beq_refl b]at this;cases this
   rw[C];exact mem_lookup g.2 e
theorem in_noT(g:nodB (K.map (·.1))=true)(X:K.In h):(noT K).In h:=λa o e=>
 X a o (mem_lookup g (Qct.mp (lookup_mem e)).1)
def ns_tr{m:Au}{r:Option (Option As)}(e:PySem.W.nsIn (noT K) m x=PySem.W.nsIn K m x)(h:PySem.W.nsIn K m x=r):PySem.W.nsIn (noT K) m x=r:=e.trans h
def lk_tr{r:Option Obj}(e:(noT K).lookup a=K.lookup a)(h:K.lookup a=r):(noT K).lookup a=r:=e.trans h
def cd_tr{c:As}(e:PySem.W.codeIn (noT K) c x=PySem.W.codeIn K c x)(h:PySem.W.codeIn K c x=true):PySem.W.codeIn (noT K) c x=true:=e.trans h
def kp_tr{c:As}(e:PySem.W.keepIn (noT K) c=PySem.W.keepIn K c)(h:PySem.W.keepIn K c=true):PySem.W.keepIn (noT K) c=true:=e.trans h
def cxK{CX:CXT}{mg:Ae}{qual:Str}{scope:Scope}{A:Ao}{outer:List Env}{E:XK}:(Zhc CX P w K mg h N qual scope f v A outer s H E).nox.K=K:=rfl
def cxK2{CX:CXT}{mg:Ae}{qual:Str}{scope:Scope}{A:Ao}{outer:List Env}{E:XK}:(Zhc CX P w K mg h N qual scope f v A outer s H E).K=K:=rfl
def let2{g:TS}(h:let q:=g;Yt B q G c H):Yt B g G c H:=h
def let3{q g:TS}(h:let C:=g;let D:=Yt q C;Yt B D G c H):Yt B (Yt q g) G c H:=h
def let4{C q g:TS}(h:let F:=g;let D:=Yt q F;let I:=Yt C D;Yt B I G c H):Yt B (Yt C (Yt q g)) G c H:=h
def let5{q D g C:TS}(h:let O:=C;let J:=Yt g O;let F:=Yt D J;let I:=Yt q F;Yt B I G c H):Yt B (Yt q (Yt D (Yt g C))) G c H:=h
def let6{C F g D q:TS}(h:let J:=q;let Y:=Yt D J;let Q:=Yt g Y;let I:=Yt F Q;let O:=Yt C I;Yt B O G c H):Yt B (Yt C (Yt F (Yt g (Yt D q)))) G c H:=h
def let7{D I q F C g:TS}(h:let Y:=g;let O:=Yt C Y;let U4:=Yt F O;let Z:=Yt q U4;let J:=Yt I Z;let Q:=Yt D J;Yt B Q G c H):Yt B (Yt D (Yt I (Yt q (Yt F (Yt C g))))) G c H:=h
def let8{F J q I D g C:TS}(h:let Z:=C;let U6:=Yt g Z;let Q:=Yt D U6;let U4:=Yt I Q;let U3:=Yt q U4;let O:=Yt J U3;let Y:=Yt F O;Yt B Y G c H):Yt B (Yt F (Yt J (Yt q (Yt I (Yt D (Yt g C)))))) G c H:=h
def let11{Y F I Z Q D O J g q:TS}(h:let C:=q;let U9:=Yt g C;let U8:=Yt J U9;let U7:=Yt O U8;let U6:=Yt D U7;let U5:=Yt Q U6;let U4:=Yt Z U5;let U3:=Yt I U4;let U2:=Yt F U3;let U1:=Yt Y U2;Yt B U1 G c H):Yt B (Yt Y (Yt F (Yt I (Yt Z (Yt Q (Yt D (Yt O (Yt J (Yt g q))))))))) G c H:=h
end L2
namespace ZpT
abbrev Zkn (h:Heap) (T:Au) (a b c:As):Prop:=h.get? T=some {cls:=.type "tuple",data:=.seq #[a,b,c]}
structure Ap3(z TI TO i1 i2 i3:Au):Prop where
 TIz:TI≠z
 TOz:TO≠z
 i1z:i1≠z
 i2z:i2≠z
 i3z:i3≠z
 TITO:TI≠TO
 TIi1:TI≠i1
 TIi2:TI≠i2
 TIi3:TI≠i3
 TOi1:TO≠i1
 TOi2:TO≠i2
 TOi3:TO≠i3
 i12:i1≠i2
 i13:i1≠i3
 i23:i2≠i3
structure Of3(z TO i1 i2 i3 l:Au):Prop where
 z:l≠z
 o:l≠TO
 i:l≠i1
 j:l≠i2
 m:l≠i3
structure St3(z TI TO i1 i2 i3 l1 l2 l3:Au)(k:Nat)(h:Heap):Prop where
 z:∃f0 fb,h.get? z=some (zO f0 fb TI TO)/\F0 f0
 I:Zkn h TI (.ref i1) (.ref i2) (.ref i3)
 O:∃a b c,Zkn h TO a b c
 n1:ZS false h i1 l1 k
 n2:ZS false h i2 l2 k
 n3:ZS false h i3 l3 k
end ZpT
namespace L2
def b2i(b:Bool):Int:=if b=true then 1 else 0
def Zpm(k:Int):As->Bool
 |.int i _=>i == k
 |.bool b=>b2i b == k
 |_=>false
def Xl{k:Int}(h:Zpm k v=true):(∃t,v=.int k t)\/∃b,v=.bool b/\k=b2i b:=by
 cases v with
 |int i t=>exact .inl ⟨t,by rw[eq_of_beq h]⟩
 |bool b=>exact .inr ⟨b,U,(eq_of_beq h).symm⟩
 |_=>cases h
section
variable {prog:An}{w:Ar}
def gX{A:Ao}{E:Ab}{b:Bool}{Q:Int->Shared->Prop}(h:Q (hashInt (b2i b)) {s with toks:=s.toks+1}):A1 prog w A (pyHash (.bool b)) Q E s:=by
 refine PySem.W.pyHash_slot (T:= "bool") (id:= "int.__hash__") (B:=Builtin.«int.__hash__») U F.slot_bool_hash F.entry_int_hash (F.args_int_hash_1 _) (by decide +kernel) (.inl U) ?_;cases b
 .exact Qaa (Qc8 (a:=(Value.bool false,(0:Int))) U (Qaa (Qg0 (Qae ⟨0,_,U,h⟩))))
 .exact Qaa (Qc8 (a:=(Value.bool true,(1:Int))) U (Qaa (Qg0 (Qae ⟨1,_,U,h⟩))))
end
def dec_eq(a b:Int):decide (a=b)=(a == b):=by grind
def YU(prog:An)(w:Ar):KeyKind prog w Int where
 is:=Zpm
 hash:=hashInt
 inj:=λv a b C q=>by
  rcases Xl C with⟨t,rfl⟩|⟨x,rfl,rfl⟩
  .exact(eq_of_beq (show(a == b)=true from q))
  .exact(eq_of_beq (show(b2i x == b)=true from q))
 byValue:=λk v h=>by
  rcases Xl h with⟨t,rfl⟩|⟨x,rfl,rfl⟩<;>rfl
 pyHash:=λg h=>by
  rcases Xl g with⟨t,rfl⟩|⟨x,rfl,rfl⟩
  .exact Qg4 h
  .exact gX h
 eqBool:=λD g h=>by
  rw[dec_eq]at h;rcases Xl D with⟨t,rfl⟩|⟨x,rfl,rfl⟩
  .rcases Xl g with⟨u,rfl⟩|⟨y,rfl,rfl⟩
   .exact wpAny_eqBool_int h
   .exact SeqAt.EqAt.int_bool _ t y _ _ _ _ h
  .rcases Xl g with⟨u,rfl⟩|⟨y,rfl,rfl⟩
   .exact SeqAt.EqAt.bool_int x _ u _ _ _ _ h
   .refine SeqAt.EqAt.bool_bool x y _ _ _ _ ?_;have e:(b2i x == b2i y)=(x == y):=by cases x<;>cases y<;>rfl
    rw[e]at h;exact h
 «strs»:=λk x t v h=>by cases h
section
variable {prog:An}{w:Ar}
def IsPair(prog:An)(w:Ar)(h:Heap)(k:Int×Ak)(a:Au):Prop:=
 ∃o n t tk,h.get? a=some o/\o.cls=.type "tuple" /\ o.data=.seq #[.int k.1 tk,.ref t] n/\IsTupleKey (YU prog w) h k.2 t
def Zaq(prog:An)(w:Ar)(k:Int×Ak):Int:=reduceHash (Builtin.Tuple.tupleHashOf [hashInt k.1,tupleKeyHash (YU prog w) k.2])
def IsPair.inj{h:Heap}{a:Au}{x y:Int×Ak}(p:IsPair prog w h x a)(q:IsPair prog w h y a):x=y:=by
 obtain⟨o,n,t,tk,e,c,d,k⟩:=p;obtain⟨o',n',t',Z,C,c',g,O⟩:=q;rw[e]at C;cases C;rw[d]at g;injection g with F d2;have Q:=congrArg Array.toList F;injection Q with D I;injection D with J _;injection I with Y _;injection Y with G;subst G;have:=(tupleKind _).inj k O;exact Qhl J this
def IsPair.keeps{h h':Heap}{k:Int×Ak}{a d:Au}{o:Obj}{es:Array DictEntry}{ep:Nat}(p:IsPair prog w h k a)(e:h.get? d=some o)(F:o.data=.dict es ep)(s:Heap.SameBut d h h'):IsPair prog w h' k a:=by
 obtain⟨D,n,t,tk,e1,q,C,k1⟩:=p;have g:a≠d:=λz=>by
  grind
 exact⟨D,n,t,tk,(s.2 a g).trans e1,q,C,(tupleKind _).keeps k1 e F s⟩
def IsPair.pyHash{A:Ao}{E:Ab}{s:Aq}{k:Int×Ak}{a:Au}{Q:Int->Shared->Prop}(D:A.units+1<cLine)(p:IsPair prog w s.heap k a)
  (h:Q (Zaq prog w k) {s with toks:=s.toks+(k.2.length+3)}):A1 prog w A (PySem.pyHash (.ref a)) Q E s:=by
 obtain⟨o,n,t,tk,e,c,d,C⟩:=p;refine PySem.W.pyHash_slot (T:= "tuple") (id:= "tuple.__hash__") (B:=Builtin.«tuple.__hash__») ⟨o,e,c⟩ F.slot_tuple_hash F.entry_tuple_hash (F.args_tuple_hash_1 _) (by decide +kernel) (.inr (by lia)) ?_;refine Qaa (Qc8 (a:=(Value.ref a,[])) U ?_);refine Qaa (wpAny_tupleItemsOf e d ?_);refine Qaa (Qgm _ (λrest g s'=>(rest=[.int k.1 tk,.ref t]/\g=#[]/\s'=s)\/(rest=[.ref t]/\g=#[hashInt k.1]/\s'={s with toks:=s.toks+1})\/(rest=[]/\g=#[hashInt k.1,tupleKeyHash (YU prog w) k.2]/\s'={s with toks:=s.toks+1+(k.2.length+1)})) _ ?_ ?_ _ _ (.inl ⟨U,U,U⟩))
 .rintro x rest b s' (⟨e1,rfl,rfl⟩|⟨e1,rfl,rfl⟩|⟨e1,_,_⟩)
  .cases e1;exact Qaa (Qg4 (Qae (.inr (.inl ⟨U,U,U⟩))))
  .cases e1;refine Qaa (wpAny_pyHash_tuple (knd:=YU prog w) (ks:=k.2) (s:={s with toks:=s.toks+1}) (by exact D) C (Qae (.inr (.inr ⟨U,U,U⟩))))
  .cases e1
 .rintro b s' (⟨e1,_,_⟩|⟨e1,_,_⟩|⟨_,rfl,rfl⟩)
  .cases e1
  .cases e1
  .refine Qaa (Qg0 (Qae ⟨_,_,U,?_⟩));have q:s.toks+1+(k.2.length+1)+1=s.toks+(k.2.length+3):=by lia
   rw[q];exact h
theorem _root_.PySem.IsTupleKey.any{ks:Ak}(k:IsTupleKey (YU prog w) h ks a)(g:An)(q:Ar):IsTupleKey (YU g q) h ks a:=by
 obtain⟨o,items,n,e,c,d,it⟩:=k;have go:∀{ks:Ak} {vs:Ag},ItemsAre (YU prog w) ks vs->ItemsAre (YU g q) ks vs:=by
  intro ks vs hh
  induction hh with
  |nil=>exact .nil
  |cons h1 _ C=>exact .cons h1 C
 exact⟨o,items,n,e,c,d,go it⟩
def IsPair.eqBool{A:Ao}{E:Ab}{s:Aq}{x y:Int×Ak}{a b:Au}{Q:Bool->Shared->Prop}(I:A.units+1<cLine)(p:IsPair prog w s.heap x a)(q:IsPair prog w s.heap y b)
  (h:Q (decide (x=y)) s):A1 prog w A (PySem.eqBool (.ref a) (.ref b)) Q E s:=by
 by_cases D:a=b
 .subst D;have:=p.inj q;rw[Qar this]at h;exact Qga (.ref a) prog w E Q h
 .obtain⟨o,n,t,tk,e,c,d,kt⟩:=p;obtain⟨o',J,t',C,e',Y,O,F⟩:=q;have it:∀j (h1:j<(#[Value.int x.1 tk,.ref t]).size) (h2:j<(#[Value.int y.1 C,.ref t']).size),SeqAt.EqAt A.in1 s (#[Value.int x.1 tk,.ref t])[j] (#[Value.int y.1 C,.ref t'])[j] (if j=0 then x.1 == y.1 else decide (x.2=y.2)):=by
   intro j h1 h2
   match j,h1,h2 with
   |0,_,_=>exact SeqAt.EqAt.int_int x.1 tk y.1 C
   |1,_,_=>exactλg G E' Q' h'=>wpAny_eqBool_tuple (by exact I) (kt.any g G) (F.any g G) h'
  have r:=SeqAt.RcAt.tuples (A:=A) (s:=s) ⟨o,e,c,n,d⟩ ⟨o',e',Y,J,O⟩ (by lia) it;have Z:((List.range (min (#[Value.int x.1 tk,.ref t]).size (#[Value.int y.1 C,.ref t']).size)).all (λj=>if j=0 then x.1 == y.1 else decide (x.2=y.2))&&(#[Value.int x.1 tk,.ref t]).size == (#[Value.int y.1 C,.ref t']).size)=decide (x=y):=by
   show((x.1 == y.1)&&(decide (x.2=y.2)&&true)&&true)=decide (x=y)
   by_cases h1:x.1=y.1
   .grind
   .grind
  rw[Z]at r;exact SeqAt.EqAt.of_refs D r prog w E Q h
theorem Zb7{A:Ao}{E:Ab}{ks:Ak}{Q:Bool->Shared->Prop}(m:Nat)(k:IsTupleKey (YU prog w) s.heap ks a)(h:Q true s):A1 prog w A (eqIsQuiet (m+1) (.ref a)) Q E s:=by
 obtain⟨o,items,n,e,c,d,it⟩:=k;rw[eqIsQuiet.eq_2];have q:s.TypeIs (.ref a) "tuple" :=⟨o,e,c⟩;refine Qaa (Qdn q Qgf.lookup ?_);refine Qaa (Qdd (T:= "tuple") (b:=true) q (by kernel_rfl) ?_);refine Qaa (Qcc e d ?_);refine Qaa (Qgm _ (λrest b s'=>(∀v∈rest,carriedByValue v=true)/\b=(none,())/\s'=s) _ ?_ ?_ _ _ ⟨λv g=>?_,U,U⟩)
 .rintro x rest b s' ⟨g,rfl,rfl⟩;refine Qaa ?_;rw[eqIsQuiet_byValue m (g x Qam)];exact Qae (Qae ⟨λv C=>g v (Qak _ C),U,U⟩)
 .rintro b s' ⟨_,rfl,rfl⟩;exact Qae h
 .have go:∀{ks:Ak} {vs:Ag},ItemsAre (YU prog w) ks vs->∀v∈vs,carriedByValue v=true:=by
   intro ks vs hh
   induction hh with
   |nil=>exactλv g=>nomatch g
   |cons h1 _ D=>
    intro v g;rcases Qaw.mp g with rfl|g
    .exact(YU prog w).byValue _ _ h1
    .exact D v g
  exact go it v g
def IsPair.quiet{A:Ao}{E:Ab}{k:Int×Ak}{Q:Bool->Shared->Prop}(p:IsPair prog w s.heap k a)(h:Q true s):A1 prog w A (eqIsQuiet 8 (.ref a)) Q E s:=by
 obtain⟨o,n,t,tk,e,c,d,C⟩:=p;rw[eqIsQuiet.eq_2];have g:s.TypeIs (.ref a) "tuple" :=⟨o,e,c⟩;refine Qaa (Qdn g Qgf.lookup ?_);refine Qaa (Qdd (T:= "tuple") (b:=true) g (by kernel_rfl) ?_);refine Qaa (Qcc e d ?_);refine Qaa (Qgm _ (λrest b s'=>(rest=[.int k.1 tk,.ref t]\/rest=[.ref t]\/rest=[])/\b=(none,())/\s'=s) _ ?_ ?_ _ _ ⟨.inl U,U,U⟩)
 .rintro x rest b s' ⟨q,rfl,rfl⟩;rcases q with e1|e1|e1
  .cases e1;refine Qaa ?_;exact Qae (Qae ⟨.inr (.inl U),U,U⟩)
  .cases e1;exact Qaa (Zb7 6 C (Qae ⟨.inr (.inr U),U,U⟩))
  .cases e1
 .rintro b s' ⟨_,rfl,rfl⟩;exact Qae h
end
def Zie(prog:An)(w:Ar):HeapKind prog w (Int×Ak)where
 is:=IsPair prog w
 hash:=Zaq prog w
 draws:=λk=>k.2.length+3
 room:=λA=>A.units+1<cLine
 inj:=λp q=>p.inj q
 keeps:=λp e C s=>p.keeps e C s
 pyHash:=λg p h=>p.pyHash g h
 eqBool:=λg p q h=>p.eqBool g q h
 quiet:=λp h=>p.quiet h
structure KN(Kk:Type)[DecidableEq Kk]where
 knd:∀(P:An)(w:Ar),HeapKind P w Kk
 hsh:Kk->Int
 at_:Hp->Kk->Addr->Prop
 hash_eq:∀P w k,(knd P w).hash k=hsh k
 ok:∀(P:An)(w:Ar)(H:Hp)(h:Heap)(k:Kk)(a:Au),HOk P w H h->at_ H k a->(knd P w).is h k a
 room:∀(P:An)(w:Ar)(A:Ao),A.units+2<cLine->(knd P w).room A.in1
 room0:∀(P:An)(w:Ar)(A:Ao),A.units+2<cLine->(knd P w).room A
 keep:∀(H H':Hp)(k:Kk)(a:Au),(∀b xs,H b=some (.tup xs)->H' b=some (.tup xs))->at_ H k a->at_ H' k a
section
variable {Kk:Type}[DecidableEq Kk](kn:KN Kk)
def entN(x:Kk×Au×As):DictEntry:={hash:=kn.hsh x.1,key:=.ref x.2.1,val:=x.2.2}
def Zok(d:Au)(xs:List (Kk×Au×As))(h:Heap):Prop:=(d == sysModules)=false/\∃o es ep,h.get? d=some o/\o.ExactDict/\o.data=.dict es ep/\es.toList=xs.map (entN kn)
def gu(H:Hp)(d:Au)(kvs:List (Kk×V)):Prop:=(kvs.map (·.1)).Nodup/\kvs.length<sizeLine /\
 ((kvs=[]/\H d=some (.dK []))\/∃xs,H d=some (.ext (Zok kn d xs))/\Paired (λ(p:Kk×V) (q:Kk×Au×As)=>p.1=q.1/\kn.at_ H q.1 q.2.1/\RelV p.2 q.2.2) kvs xs)
variable {kn}
def Zko(xs:List (Kk×Au×As)):xs.map (entryOfKey (kn.knd P w))=xs.map (entN kn):=by
 refine Qci λx _=>?_;show DictEntry.mk _ _ _=DictEntry.mk _ _ _;rw[kn.hash_eq]
def Zmr{d:Au}{xs:List (Kk×Au×As)}(x:Zok kn d xs h):Xw P w H h d (.ext (Zok kn d xs)):=by
 obtain⟨G,o,es,ep,e,r⟩:=id x;refine⟨x,⟨o,e⟩,λh1 h2 y k=>?_⟩;obtain⟨C,o',q,g,F,D⟩:=y;exact⟨C,o',q,g,k _ F,D⟩
theorem gu.dict{X:Cx}{pins:Ac}{d:Au}{kvs:List (Kk×V)}(n:gu kn H d kvs)(I:Inv X pins c H s):
  ∃xs,Heap.DictOfH (kn.knd X.prog X.w) s.heap d xs/\Paired (λ(p:Kk×V) (q:Kk×Au×As)=>p.1=q.1/\kn.at_ H q.1 q.2.1/\RelV p.2 q.2.2) kvs xs/\Mut (H d)/\(d == sysModules)=false:=by
 obtain⟨O,Y,h|h⟩:=n
 .obtain⟨rfl,e⟩:=h;obtain⟨z,Q,vs,F,dd⟩:=Zh2 I.hok e;cases F;obtain⟨o,es,ep,e1,ex,e2,_,g,_⟩:=dd;have D:es.toList=[]:=by
   generalize es.toList=l at g;cases g;rfl
  exact⟨[],⟨o,es,ep,e1,ex,e2,D,(λx C=>nomatch C),Qdl⟩,.nil,by rw[e];exact True.intro,Q⟩
 .obtain⟨xs,e,g⟩:=h;obtain⟨⟨J,o,es,ep,e1,ex,e2,D⟩,_,_⟩:=(I.hok d _ e);refine⟨xs,⟨o,es,ep,e1,ex,e2,by rw[D,Zko],λx C=>?_,?_⟩,g,by rw[e];exact True.intro,J⟩
  .have go:∀{l:List (Kk×V)} {m:List (Kk×Au×As)},Paired (λp q=>p.1=q.1/\kn.at_ H q.1 q.2.1/\RelV p.2 q.2.2) l m->∀x∈m,kn.at_ H x.1 x.2.1:=by
    intro l m g
    induction g with
    |nil=>exactλx C=>nomatch C
    |cons h _ G=>
     intro x C;rcases Qaw.mp C with rfl|C
     .exact h.2.1
     .exact G x C
   exact kn.ok _ _ _ _ _ _ I.hok (go g x C)
  .have go:∀{l:List (Kk×V)} {m:List (Kk×Au×As)},Paired (λp q=>p.1=q.1/\kn.at_ H q.1 q.2.1/\RelV p.2 q.2.2) l m->m.map (·.1)=l.map (·.1):=by
    intro l m g
    induction g with
    |nil=>rfl
    |cons h _ G=>rw[Qb1,Qb1,G,h.1]
   rw[go g];exact O
theorem GY{P:Kk×V->Kk×Au×As->Prop}(G:∀p q,P p q->p.1=q.1):∀{l:List (Kk×V)} {m:List (Kk×Au×As)},Paired P l m->∀k,(∀v,Yp l k=some v->∃q,atKey m k=some q/\∃p,P p (k,q)/\p.2=v)/\(Yp l k=none->atKey m k=none)
 |[],[],_,k=>⟨λv h=>(by cases h),λ_=>U⟩
 |p::l,q::m,.cons h t,k=>by
  have I:=GY G t k;have e:=G p q h
  by_cases g:p.1=k
  .have F:=e.symm.trans g;have a1:atKey (q::m) k=some q.2:=by
    unfold atKey;rw[List.find?_cons,Qar F];rfl
   have C:Yp (p::l) k=some p.2:=Yl g;refine⟨λv D=>?_,λD=>?_⟩
   .grind
   .rw[C]at D;cases D
  .have F:=λz=>g (e.trans z)
   have a1:atKey (q::m) k=atKey m k:=by
    unfold atKey;rw[List.find?_cons,Qan F]
   have C:Yp _ k=Yp l k:=Yg g;rw[a1,C];exact I
theorem Zar{X:Cx}{pins:Ac}{d:Au}{k:Kk}{v:V}{u:As}{kvs:List (Kk×V)}{xs:List (Kk×Au×As)}{h':Heap}{tk:Nat}(I:Inv X pins c H s)(n:gu kn H d kvs)(Y:kn.at_ H k a)(Z:RelV v u)(hz:kvs.length+1<sizeLine)
  (C:Paired (λ(p:Kk×V) (q:Kk×Au×As)=>p.1=q.1/\kn.at_ H q.1 q.2.1/\RelV p.2 q.2.2) kvs xs) (D:Mut (H d)) (Q:(d == sysModules)=false) (hv:Yp kvs k=none) (dd':Heap.DictOfH (kn.knd X.prog X.w) h' d (xs++[(k,a,u)])) (sb:Heap.SameBut d s.heap h'):
  ∃H',gu kn H' d (kvs++[(k,v)])/\(∀b o,H b=some o->b≠d->H' b=some o)/\(∃o,H'=upd H d o)/\Inv X pins c H' {s with heap:=h',toks:=tk}:=by
 obtain⟨o,es,ep,e1,ex,e2,g,_,_⟩:=dd';have O:Zok kn d (xs++[(k,a,u)]) h':=⟨Q,o,es,ep,e1,ex,e2,by rw[g,Zko]⟩;have J:∀b ys,H b=some (.tup ys)->upd H d (.ext (Zok kn d (xs++[(k,a,u)]))) b=some (.tup ys):=λb ys e=>by
  rw[Zm λz=>by rw[<-z,e]at D;exact D];exact e
 refine⟨_,⟨?_,?_,.inr ⟨_,Zb,?_⟩⟩,λb o e hb=>by rw[Zm hb];exact e,⟨_,U⟩,z5 I D sb ⟨o,e1⟩ (Zmr O)⟩
 .rw[Qbd,Qe5];refine⟨n.1,Qcj.mpr ⟨Qbq,Qdl⟩,λy G z hz q=>?_⟩;rw[Qb1,List.map_nil,Qau]at hz;rw[q,hz]at G;obtain⟨x,hx,ex⟩:=Qa2.mp G;have F:x.1=k:=ex;have:=vf n.1 x hx;rw[F,hv]at this;cases this
 .rw[Qaf];exact hz
 .have go:∀{l:List (Kk×V)} {m:List (Kk×Au×As)},Paired (λ(p:Kk×V) q=>p.1=q.1/\kn.at_ H q.1 q.2.1/\RelV p.2 q.2.2) l m->Paired (λ(p:Kk×V) q=>p.1=q.1/\kn.at_ (upd H d (.ext (Zok kn d (xs++[(k,a,u)])))) q.1 q.2.1/\RelV p.2 q.2.2) (l++[(k,v)]) (m++[(k,a,u)]):=by
   intro l m C
   induction C with
   |nil=>exact .cons ⟨U,kn.keep _ _ _ _ J Y,Z⟩ .nil
   |cons h _ ih=>exact .cons ⟨h.1,kn.keep _ _ _ _ J h.2.1,h.2.2⟩ ih
  exact go C
end
def vB:V->Option Int
 |.int i=>some i
 |.bl b=>some (b2i b)
 |_=>none
theorem Zas{P:An}{w:Ar}:∀{vs:A0} {g:Ag} {ks:Ak},Vals vs g->vs.map vB=ks.map some->ItemsAre (YU P w) ks g
 |[],_,[],r,_=>by cases r;exact .nil
 |v::vs,_,k::ks,.cons h t,e=>by
  injection e with e1 e2;refine .cons ?_ (Zas t e2);cases v with
  |int i=>
   obtain⟨t,rfl⟩:=h;cases e1;exact Qde _
  |bl b=>
   cases(h);cases e1;exact Qde _
  |_=>cases e1
def Zat(H:Hp)(ks:Ak)(a:Au):Prop:=∃vs,H a=some (.tup vs)/\vs.map vB=ks.map some
def Zat.is{ks:Ak}(ok:HOk P w H h)(b:Zat H ks a):IsTupleKey (YU P w) h ks a:=by
 obtain⟨vs,e,C⟩:=b;obtain⟨_,q,r,o,h1,h2,⟨n,g⟩,_⟩:=(ok a _ e);exact⟨o,_,n,h1,h2,g,by simpa using Zas r C⟩
def knT:KN (Ak)where
 knd:=λP w=>tupleKind (YU P w)
 hsh:=λks=>reduceHash (Builtin.Tuple.tupleHashOf (ks.map hashInt))
 at_:=Zat
 hash_eq:=λP w k=>U
 ok:=λP w H h k a ok b=>b.is ok
 room:=λP w A C=>by show A.units+1<cLine;lia
 room0:=λP w A C=>by show A.units<cLine;lia
 keep:=λH H' k a g ⟨vs,e,q⟩=>⟨vs,g _ _ e,q⟩
def Zkp(H:Hp)(k:Int×Ak)(a:Au):Prop:=∃t,H a=some (.tup [.int k.1,.ref t])/\Zat H k.2 t
def knP:KN (Int×Ak)where
 knd:=Zie
 hsh:=λk=>reduceHash (Builtin.Tuple.tupleHashOf [hashInt k.1,reduceHash (Builtin.Tuple.tupleHashOf (k.2.map hashInt))])
 at_:=Zkp
 hash_eq:=λP w k=>U
 ok:=λP w H h k a ok ⟨t,e,b⟩=>by
  obtain⟨_,C,r,o,h1,h2,⟨n,G⟩,_⟩:=(show Xw P w H h a (.tup [.int k.1,.ref t])from ok a _ e);cases r with
  |cons I g=>
  cases g with
  |cons g D=>
  cases D;obtain⟨tk,rfl⟩:=I;cases(show _=Value.ref t from g);exact⟨o,n,t,tk,h1,h2,G,b.is ok⟩
 room:=λP w A J=>by show A.units+1+1<cLine;lia
 room0:=λP w A J=>by show A.units+1<cLine;lia
 keep:=λH H' k a q ⟨t,e,vs,e2,F⟩=>⟨t,q _ _ e,vs,q _ _ e2,F⟩
def rRngV:A0->Hp->VK->Prop:=λxs H Q=>∃j:Int,xs=[.int j]/\∀p,H p=none->Q (.ref p) (upd H p (.rng 0 j))
def zD:Xr X (.type "range") rRngV:=by
 intro pins s σ H xs C Q I r h;obtain⟨j,rfl,q⟩:=h;obtain⟨u,rfl,g⟩:=vals1 r;obtain⟨t,rfl⟩:=g;refine call_range_1 ⟨.ref _,_,I.laid (λb u e=>Qab _ e) (Qai _) ?_,U,q _ I.fresh⟩;exact⟨_,_,_,Qao _ U⟩
def Zms:A0->Hp->VK->Prop:=λxs H Q=>∃(p:Au)(n:Nat),xs=[.ref p]/\H p=some (.rng 0 (n:Int))/\n<=1000000/\∀l,H l=none->Q (.ref l) (upd H l (.lst ((List.range n).map λi:Nat=>V.int i)))
theorem gY (Z:X.calm=true):Xr X (.type "list") Zms:=by
 intro pins s σ H xs C Q I r h;obtain⟨p,n,rfl,e,hn,q⟩:=h;obtain⟨u,rfl,ru⟩:=vals1 r;cases ru;obtain⟨t,u,v,hp⟩:=(I.hok p _ e);have hsz:Builtin.Range.rangeSize 0 (n:Int) 1=(n:Int):=by
  unfold Builtin.Range.rangeSize;split
  .lia
  .lia
 have g:∀z:Int,0<=z->z<=1000000->Builtin.Range.rangeFitsLong z=true:=λz h1 h2=>by
  unfold Builtin.Range.rangeFitsLong;simp;lia
 have G:Builtin.Range.small 0 (n:Int) 1=true:=by
  unfold Builtin.Range.small;rw[hsz,g 0 (by decide) (by decide),g n (by lia) (by lia),g 1 (by decide) (by decide),Qa9 (by decide),show(n:Int)+(1-1)=n by lia,g n (by lia) (by lia)];simp
 refine call_list_range (I.ok.hd Z) hp G hsz (by lia) λh' tk acc Y O D it=>?_;refine⟨.ref s.heap.objs.size,_,I.laid O (Qai _) ?_,U,q _ I.fresh⟩;have F:acc.toList.length=n:=by exact it.1
 refine⟨by rw[Qac,Qa3,Qg2];lia,acc.toList,Y,?_,by simpa using D⟩;have go:∀(m:Nat)(C:Ag)(k:Nat),C.length=m->(∀j v,C[j]?=some v->∃t,v=Value.int ((k+j:Nat):Int) t)->Vals ((List.range' k m).map λi:Nat=>V.int i) C:=by
  intro m
  induction m with
  |zero=>
   intro C k D _;rw[Qbz D];exact .nil
  |succ m ih=>
   intro C k D hh;cases C with
   |nil=>cases D
   |cons u C=>
    refine .cons ?_ (ih C (k+1) (by simpa using D) λj v J=>?_)
    .obtain⟨t,e⟩:=hh 0 u rfl;exact⟨t,e⟩
    .obtain⟨t,e⟩:=hh (j+1) v (by simpa using J);exact⟨t,by grind⟩
 rw[List.range_eq_range'];refine go n acc.toList 0 F λj v J=>?_;obtain⟨t,e⟩:=it.2 j v (by rw[<-Array.getElem?_toList];exact J);exact⟨t,by grind⟩
def Zau{A:PySem.Around}{k:Nat}(g:JS k A):A.units+2<PySem.cLine:=Qfd (by lia) g.units
def Zmt(C:An)(w:Ar)(K:Af)(mg:Ae)(base:Heap)(k:Nat)(sp:Sp)(P:Au)(lpos:Pos)(qual:Str)(ta tb:TE)(n:Nat)(is:Aj)(te:TE):TE:=λσ H Q=>ta σ H λz q=>tb σ q λx H1=>ZT H1 P lpos qual /\
 ∀(cs:List Au)(f:Au)(H2:Hp),(∀c∈cs,H1 c=none)->(∀c∈cs,∃o,H2 c=some (XW o))->H1 f=none->(∀g,ZD H2 g->ZT (hide cs g) P lpos qual)->(∀b o,H1 b=some o->b≠P->H2 b=some o)->
  Xp C w K mg base k f H2 (Zpj n te cs (is.map λi=>(σ[i]?).getD none))->sp [z,x,.ref f] H2 (λv g=>Q v (hide cs g)) E0
section
variable {X:Cx}{params:Arguments}{body a:Av}{scope:Scope}{lpos p pos:Pos}{c P g:Au}{qual x:Str}{k kl:Nat}{gd:Am}{pg ps ys:Ai}{is:Aj}{sp:Sp}{ta te:TE}{b:Av}{tb:TE}
def Ze9(F:Y1 X.prog X.w X.K X.mg X.base CX0 k g gd pg sp)(hr:JS k X.A)(hg:Gl X x)(hm:X.mg x=some (.ref g))(hk:PySem.W.keepIn X.K (.ref g)=true)(hb:Binds X.K gd pg [])(hfn:X.fn=λ_=>true)
  (ha:QE X a ta) (hb2:QE X b tb) (hcode:X.env.code=.ref c) (C:PySem.W.CodeHd X.base c P) (B:vm X.mg X.base) (hdef:defaultsOf params X.env=([],[])) (hq:X.env.qual ++ "<lambda>" = qual)
  {S0:Scope} {N0:Ai} (hX:X.env.scope=S0) (hXN:X.N=N0) (LL:Zpk S0 scope N0 ps ys is)
  (hbind:∀(cl:List (Str×Au))(pm cv G:As)(us:Ag),us.length=ps.length->bindArgs (PySem.W.kla_fn "<lambda>" qual params body scope cl pm cv G) ⟨us,[]⟩=pure (ps.zip us))
  (hbody:∀(f O:Au)(cl:List (Str×Au))(A:Ao)(outer:List Env)(s:Aq)(H1:Hp),JS kl (A.deeper (PySem.W.envX qual scope s.heap.objs.size f (.ref O) cl))->QE (cxL X.prog X.w X.K X.mg X.base (ps++ys) qual scope f (.ref O) cl A outer s H1) body te)
  (hdb:(x == ("__debug__" : Str))=false:=by decide) (he:starEach [a,b,.Lambda params body scope lpos] X.env=(false,eval a X.env)::starEach [b,.Lambda params body scope lpos] X.env:=by rfl) (he2:starEach [b,.Lambda params body scope lpos] X.env=(false,eval b X.env)::starEach [.Lambda params body scope lpos] X.env:=by rfl)
  (hs2:starEach [.Lambda params body scope lpos] X.env=(false,eval (.Lambda params body scope lpos) X.env)::starEach [] X.env:=by rfl) (hpl:(backTo pos (starEach [b,.Lambda params body scope lpos] X.env)).any (·.1)=false:=by rfl):
  QE X (.Call (.Name x p) [a,b,.Lambda params body scope lpos] [] pos) (Zmt X.prog X.w X.K X.mg X.base (kl+1) sp P lpos qual ta tb ps.length is te):=by
 have S:=LL.sc;have D:∀y∈scope.names,y.2=.free->X.env.scope.names.lookup y.1=some .cell:=λy hy h=>by rw[hX];exact LL.free y hy h
 have hN:∀q∈ys.zip is,X.N[q.2]?=some q.1:=λq hq=>by rw[hXN];exact LL.vis q hq
 have Y:=LL.len;refine⟨?_⟩;intro pins s σ H Q I hw;refine Qc0 (yU I hg hm ?_ hdb);have hlam:=Ze4 (X:=X) (lpos:=lpos) (params:=params) (body:=body) (scope:=scope) hcode C B hdef hq D;refine Qgj (h₀:=X.base) I.ok.mod.kin hk ?_ he hpl;rw[he];refine Qcs (thn (ha.out pins s σ H _ I hw) λu s0 ⟨x00,H0,I0,r0,hw0⟩=>?_);rw[he2];refine Qcs (thn (hb2.out pins s0 σ H0 _ I0 hw0) λu1 s1 ⟨x0,H1,I1,r1,hT,q1⟩=>?_);rw[hs2];refine Qcs (thn (hlam pins s1 σ H1 (λv H2=>∃(f O:Au)(oc:Obj)(G:As),v=.ref f/\H1 f=none/\H2 f=some (XW (kZ X qual params body scope O G))/\H2 O=some (XW oc)/\y4 oc qual/\ZT H2 P lpos qual/\∀b o,H1 b=some o->b≠P->H2 b=some o) I1 ⟨hT,λf O oc G H2 a1 a2 a3 a4 a5 a6=>⟨f,O,oc,G,U,a1,a2,a3,a4,a5,a6⟩⟩) λu2 s2 ⟨y,H2,Z,r2,f,O,oc,G,hy,f1,f2,f3,f4,f5,f6⟩=>?_);subst hy;cases r2;refine Qd0 ⟨Z.kIn,?_⟩;have hcl:∀y d,(yp X.env.cells scope.names []).lookup y=some d->X.env.cells.lookup y=some d:=
  GN (λy hy h=>Z.ok.has y.1 (.inl (D y hy h))) λ_ _ z=>by cases z
 have J:=zf Z;have hcs:=vn Z;refine zC F hr hb hfn Z (show Vals [x00,x0,V.ref f] [u,u1,Value.ref f]from .cons r0 (.cons r1 (.cons U .nil))) (q1 (cellsOf X.env.cells) f (Zb4 X s2 H2) (Wo I1) (λd m=>let⟨o,_,e,_⟩:=hcs d m;⟨o,e⟩) f1 (λH4 s4=>Zmq Z f5 s4) (λb o e hbP=>J _ _ (f6 b o e hbP)) ?_);exact kY (ys:=ys) S (J _ _ f2) (J _ _ f3) f4 (λy d h=>Xk.mpr ⟨y,hcl y d h⟩) (λd m=>let⟨o,v,e,hd,_⟩:=hcs d m;⟨o,v,e,hd⟩) (λy z d h1 h2=>Z.ok.inj y z d (hcl y d h1) (hcl z d h2)) (λy h=>JU h) (by rw[Qac,Y])
  (wa (N0:=N0) Z D S.free hN Y) (λus hl=>hbind _ _ _ _ us hl) λA outer s H1 hr=>(hbody f O _ A outer s H1 hr).out
end
section
variable {κ:Type}[DecidableEq κ]
def Y6(l:List κ)(k:κ):List κ:=if k∈l then l else l++[k]
def JX{l:List κ}(h:l.Nodup)(k:κ):(Y6 l k).Nodup:=by
 unfold Y6;split
 .exact h
 .grind
def zg{l:List κ}{k x:κ}:x∈Y6 l k↔x∈l\/x=k:=by
 unfold Y6;split
 .grind
 .rw[Qa7,Qau]
def Zif(l:List κ)(k:κ):(Y6 l k).length<=l.length+1:=by
 unfold Y6;split
 .lia
 .grind
def Zig(l:List κ)(k:κ):∃r,Y6 l k=l++r:=by
 unfold Y6;split
 .exact⟨[],(Qbk _).symm⟩
 .exact⟨[k],U⟩
theorem GZ(ks:List κ):∀l:List κ,∃r,ks.foldl Y6 l=l++r:=by
 induction ks with
 |nil=>exactλl=>⟨[],(Qbk _).symm⟩
 |cons k r g=>
  intro l;obtain⟨a,q⟩:=Zig l k;obtain⟨b,C⟩:=g (Y6 l k);exact⟨a++b,by grind⟩
def Zfa{l r:List κ}{k:κ}(h:k∈l):(l++r).idxOf k=l.idxOf k:=by grind
theorem idx_map{α β:Type}[DecidableEq α][DecidableEq β](f:α->β)(g:∀a b,f a=f b->a=b)(s:α):∀l:List α,(l.map f).idxOf (f s)=l.idxOf s
 |[]=>rfl
 |x::r=>by
  rw[Qb1,Qhe,idx_map f g s r]
  by_cases h:x=s
  .grind
  .grind
def J0(l:List κ):List (κ×V):=l.zipIdx.map λp=>(p.1,V.int (p.2:Int))
def qU(l:List κ):(J0 l).map (·.1)=l:=by
 unfold J0;rw[Qb7];exact List.zipIdx_map_fst 0 l
def wb(l:List κ):(J0 l).length=l.length:=by
 unfold J0;rw[Qac,List.length_zipIdx]
def y6(l:List κ)(k:κ):J0 (l++[k])=J0 l++[(k,V.int (l.length:Int))]:=by
 unfold J0;rw[List.zipIdx_append];simp
def zE:∀(l:List κ)(k:κ),k∈l->l.Nodup->Yp (J0 l) k=some (V.int (l.idxOf k:Int)):=by
 intro l k q g;have hi:=Qd5 q;have C:(k,V.int (l.idxOf k))∈J0 l:=by
  refine Qa2.mpr ⟨(k,l.idxOf k),?_,U⟩;rw[List.mem_zipIdx_iff_getElem?];simp[hi]
 have:=vf (by rw[qU];exact g) _ C;exact this
def y7(l:List κ)(k:κ)(g:k∉l):Yp (J0 l) k=none:=by
 unfold Yp;rw[Option.map_eq_none_iff,List.find?_eq_none];intro x q z;have:x.1∈(J0 l).map _:=Qcw q;rw[qU,Qba z]at this;exact g this
end
section
variable {κ β:Type}[DecidableEq κ][DecidableEq β]
def Zav(f:κ->β)(l:List κ)(k:κ)(h:∀a∈l,f a=f k->a=k):Y6 (l.map f) (f k)=(Y6 l k).map f:=by
 unfold Y6
 by_cases g:k∈l
 .grind
 .grind
theorem Zkq(f:κ->β)(s:κ):∀l:List κ,(∀a∈l,f a=f s->a=s)->(l.map f).idxOf (f s)=l.idxOf s
 |[],_=>rfl
 |x::r,h=>by
  rw[Qb1,Qhe,Zkq f s r λa g=>h a (Qak _ g)]
  by_cases e:x=s
  .grind
  .grind
theorem JY:∀{g q:List κ},g.Nodup->(∀x∈g,x∈q)->g.length<=q.length
 |[],_,_,_=>Qbj _
 |a::r,q,h1,C=>by
  rw[Qcj]at h1;have F:=C a Qam;have:=JY h1.2 λx D=>(List.mem_erase_of_ne (show x≠a fromλz=>h1.1 (z ▸ D))).mpr (C x (Qak _ D));rw[List.length_erase_of_mem F]at this;have G:=Qer F;rw[Qb3];lia
end
def Zfb{k:Nat}{A:Ao}(r:JS k A):A.units+4<cLine:=by have:=r.un;lia
def Zkr{xs:A0}(r:Vals xs Z){j:Nat}(h1:j<Z.toArray.size):∃x,xs[j]?=some x/\RelV x Z.toArray[j]:=by
 have q:j<xs.length:=by rw[r.length];simpa using h1
 obtain⟨u,e1,C⟩:=r.get (Qad q);have g:Z.toArray[j]=u:=by
  grind
 rw[g];exact⟨_,Qad q,C⟩
def Zih[DecidableEq g]{kn:KN g}{kvs:List (g×V)}{xs:List (g×Au×As)}(D:Paired (λ(p:g×V) (q:g×Au×As)=>p.1=q.1/\kn.at_ H q.1 q.2.1/\RelV p.2 q.2.2) kvs xs)(k:g):(atKey xs k).isSome=(Yp kvs k).isSome:=by
 have C:=GY (λp q h=>h.1) D k;cases hv:Yp kvs k with
 |none=>rw[C.2 hv];rfl
 |some x=>
  obtain⟨q,F,_⟩:=C.1 x hv;rw[F];rfl
def rNInN:R2:=λx y H Q=>∃(Kk:Type)(_:DecidableEq Kk)(kn:KN Kk)(d a:Au)(k:Kk)(kvs:List (Kk×V)),x=.ref a/\y=.ref d/\gu kn H d kvs/\kn.at_ H k a/\Q (.bl (!(Yp kvs k).isSome)) H
def Zfc(J:X.A.units+2<cLine):OpR X (compareOp .NotIn) rNInN:=by
 intro pins s σ H x y v u Q I G D h;obtain⟨Kk,_,kn,d,a,k,kvs,rfl,rfl,n,C,q⟩:=h;cases G;cases D;obtain⟨xs,dd,F,O,g⟩:=n.dict I;refine wpAny_notIn_heap (kn.room _ _ _ J) (kn.ok _ _ _ _ _ _ I.hok C) g dd ?_;rw[Zih F];exact⟨.bl _,H,I.tok _,U,q⟩
def tNGet(td ty:TE):TE:=λσ H Q=>td σ H λx H1=>ty σ H1 λy H2=>∃(Kk:Type)(_:DecidableEq Kk)(kn:KN Kk)(d a:Au)(k:Kk)(kvs:List (Kk×V))(v:V),x=.ref d/\y=.ref a/\gu kn H2 d kvs/\kn.at_ H2 k a/\Yp kvs k=some v/\Q v H2
theorem Zmu{i:Av}{ty:TE}(hu:X.A.units+2<cLine)(ho:QE X o M)(hi:QE X i ty)(J:Zqa i):QE X (.Subscript o i l) (tNGet M ty):=⟨by
 intro pins s σ H Q I h;refine Zet PySem.F.slot_dict_getitem.lookup J (thn (ho.out pins s σ H _ I h) λu s1 ⟨x,H1,I1,Z,q1⟩=>thn (hi.out pins s1 σ H1 _ I1 q1) λiv s2 ⟨y,H2,C,O,Kk,_,kn,d,a,k,kvs,v,ex,G,n,D,hv,q2⟩=>?_);subst ex;subst G;obtain rfl:u=Value.ref d:=Z;obtain rfl:iv=Value.ref a:=O;obtain⟨xs,dd,Y,mu,hm⟩:=n.dict C;obtain⟨q,hq,p',g,e⟩:=(GY (λp q h=>h.1) Y k).1 v hv;refine⟨dd.typeIs,wpAny_getItem_heap (kn.room _ _ _ hu) (kn.ok _ _ _ _ _ _ C.hok D) dd hq ⟨v,H2,C.tok _,e ▸ g.2.2,q2⟩⟩⟩
def sNPut(td ty tv:TE):TS:=λD σ H=>tv σ H λv H1=>td σ H1 λx H2=>ty σ H2 λy g=>∃(Kk:Type)(_:DecidableEq Kk)(kn:KN Kk)(d a:Au)(k:Kk)(kvs:List (Kk×V)),x=.ref d/\y=.ref a/\gu kn g d kvs/\kn.at_ g k a/\Yp kvs k=none/\kvs.length+1<sizeLine /\
 ∀H',gu kn H' d (kvs++[(k,v)])->(∀b o,g b=some o->b≠d->H' b=some o)->(∃o,H'=upd g d o)->D.nx σ H'
theorem Zmv{i:Av}{ty tv:TE}{pos':Pos}(hu:X.A.units+2<cLine)(ho:QE X o M)(hi:QE X i ty)(g:QE X e tv)(Z:swapsWith e (some (.Subscript o i pos')) l.line X.env=pure false):QS X (.Assign [.Subscript o i pos'] e l) (sNPut M ty tv):=⟨by
 intro pins s σ H D I h;refine wpAny_Assign_Subscript (thn (g.out pins s σ H _ I h) λr s1 ⟨v,H1,I1,rv,q1⟩=>thn (ho.out pins s1 σ H1 _ I1 q1) λu s2 ⟨x,H2,I2,rx,q2⟩=>thn (hi.out pins s2 σ H2 _ I2 q2) λiv s3 ⟨y,H3,C,ry,Kk,_,kn,d,a,k,kvs,ex,Y,n,J,g,hz,q3⟩=>?_) Z;subst ex;subst Y;obtain rfl:u=Value.ref d:=rx;obtain rfl:iv=Value.ref a:=ry;obtain⟨xs,dd,G,mu,O⟩:=n.dict C;have F:=(GY (λp q h=>h.1) G k).2 g;refine wpAny_setItem_heap (kn.room _ _ _ hu) (kn.ok _ _ _ _ _ _ C.hok J) dd (λh' dd' sb=>?_) (by rw[<-Qf4 G];lia);rw[storedH_new F]at dd';obtain⟨H',n',k',o',Q⟩:=Zar C n J rv hz G mu O g dd' sb;exact⟨σ,H',Q,q3 H' n' k' o'⟩⟩
theorem Ym:∀(names:List (Str×NameKind))(n:Nat)(acc:List (Str×Au)),cellsFrom n names acc=cellsFrom n names []++acc
 |[],_,_=>rfl
 |(x,k)::r,n,acc=>by
  unfold cellsFrom;split
  .rw[Ym r _ _,Ym r _ [(x,n)],Qcm];rfl
  .exact Ym r n acc
theorem qV:∀(names:List (Str×NameKind)) (n:Nat) {x:Str} {c:Au},(x,c)∈cellsFrom n names []->(x,NameKind.cell)∈names
 |[],_,_,_,h=>nomatch h
 |(y,k)::r,n,x,c,h=>by
  unfold cellsFrom at h;split at h
  .rename_i g;rw[Ym]at h;rcases Qa7.mp h with h|h
   .exact Qak _ (qV r _ h)
   .grind
  .exact Qak _ (qV r n h)
theorem JZ:∀{l r:List (Str×g)},(l++r).lookup x=match l.lookup x with|some c=>some c|none=>r.lookup x
 |[],r=>rfl
 |(y,c)::l,r=>by
  grind
section
variable {M:Model}{A:Ao}{E:Ab}{s:Aq}
def Zmw{scope:Scope}{globals:Au}{g:List (Str×Au)}{binds:List (Str×As)}{qual:Str}{func:Option Au}{code:As}{builtins:Au}{Q:Env->Shared->Prop}
  (hk:scope.kind=.function) (hl:∀x∈binds,scope.names.lookup x.1=some .local)
  (hQ:∀h' tk,h'.Ns s.heap.objs.size (λx=>binds.reverse.lookup x)->(∀b o,s.heap.get? b=some o->h'.get? b=some o)->(∀n c,(n,c)∈cellsFrom (s.heap.objs.size+1) scope.names []->h'.IsCell c none/\s.heap.objs.size<c)->
   ((cellsFrom (s.heap.objs.size+1) scope.names []).Pairwise λx y=>x.2≠y.2)->Q (newEnv scope s.heap.objs.size globals (cellsFrom (s.heap.objs.size+1) scope.names g) qual func code none builtins) {s with heap:=h',toks:=tk}):
  wpAny M A (newFunctionEnv scope globals g binds qual func code none builtins) Q E s:=by
 simp only[newFunctionEnv,Option.isSome_none,Qda,if_false];refine Qaa (wpAny_alloc ?_);refine Qaa (wpAny_layCells _ (λname kind cells=>by grind) _ _ _ _ ?_);have ok:=cellsFrom_ok scope.names (s.heap.push {cls:=.type "frame",data:=.dict #[]}) (s.heap.objs.size+1) [] ⟨λ_ _ J=>(nomatch J),List.Pairwise.nil⟩ (by rw[Qby];exact Qai _);rw[Qby]at ok;rw[Qby ..];refine Qaa (wpAny_forIn_list _
  (λrest _ s'=>∃q h',binds=q++rest/\s'={s with heap:=h',toks:=s.toks+q.length}/\h'.Ns s.heap.objs.size (λx=>q.reverse.lookup x) /\
   Heap.SameBut s.heap.objs.size _ h') _ ?_ ?_ binds _
  ⟨[],_,U,U,(Heap.Ns.new s.heap (.type "frame")).keeps (pushCells_keeps _ _),Heap.SameBut.refl ..⟩)
 .rintro⟨name,v⟩ rest _ s' ⟨q,h',I,rfl,D,C⟩;have O:Env.kindOf {scope,locals:=s.heap.objs.size,globals,cells:=cellsFrom (s.heap.objs.size+1) scope.names g,qual,func,code,frame:=some s.heap.objs.size,builtins} name=some .local:=hl (name,v) (by rw[I];simp);have hp:((scope.kind == .class)||((scope.kind == .module)&&(s.heap.objs.size != globals)))=false:=by rw[hk];rfl
  simp only[storeName_local O hp];refine Qaa (wpAny_nsSet D λY G F=>Qae ⟨q++[(name,v)],Y,by simp[I],?_,?_,C.trans F⟩)
  .simp[Nat.add_assoc]
  .rw[lookup_reverse_snoc];exact G
 .rintro _ s' ⟨q,h',I,rfl,D,C⟩;rw[Qbk]at I;subst I;refine Qae (hQ h' _ D (λb o e=>?_) (λn c J=>?_) ok.apart)
  .exact C.extBut b o (Qbc (Qav e)) (pushCells_keeps _ _ b o (Qab _ e))
  .obtain⟨q1,Z⟩:=ok.empty n c J;exact⟨q1.sameBut C (Qel Z),Z⟩
end
structure Zmx(scope:Scope)(ps ls ys:Ai):Prop where
 kind:scope.kind=.function
 co:scope.isCoroutine=false
 gen:scope.isGenerator=false
 par:∀p∈ps,scope.names.lookup p=some .local
 free:∀y∈ys,scope.names.lookup y=some .free
 nd:(ps++(ls++ys)).Nodup
 ndn:(scope.names.map (·.1)).Nodup
def cxN(P:An)(w:Ar)(K:Af)(mg:Ae)(base:Heap)(N:Ai)(qual:Str)(scope:Scope)(f:Au)(g:As)(cl:List (Str×Au))(A:Ao)(outer:List Env)(s:Aq)(H:Hp):Cx where
 prog:=P
 w:=w
 K:=K
 mg:=mg
 base:=base
 A:=A.deeper (PySem.W.envX qual scope s.heap.objs.size f g (cellsFrom (s.heap.objs.size+1) scope.names cl))
 N:=N
 s₀:=s
 H₀:=H
 env:=PySem.W.envX qual scope s.heap.objs.size f g (cellsFrom (s.heap.objs.size+1) scope.names cl)
 outer:=outer
 stack:=PySem.W.envX qual scope s.heap.objs.size f g (cellsFrom (s.heap.objs.size+1) scope.names cl)::outer
 ex:=[]
 calm:=true
 fn:=λx=>scope.names.lookup x == some .cell
 pn:=[]
 xe:=λ_ _=>False
def Zks(n m:Nat)(ts:TS)(cs:List Au)(g:List (Option V)):Sp:=λvs H Q _=>vs.length=n/\ts {nx:=λ_ H'=>(∀c∈cs,H' c=none)->Q .non (Jc cs H H'),rt:=λv H'=>(∀c∈cs,H' c=none)->Q v (Jc cs H H')} (vs.map some++(List.replicate m none++g)) (hide cs H)
section
variable {P:An}{w:Ar}{K:Af}{mg:Ae}{base:Heap}
theorem vp{k:Nat}{name qual:Str}{params:Arguments}{body:List Aw}{scope:Scope}{cl:List (Str×Au)}{doc pm ctv:As}{oc:Obj}{ps ls ys:Ai}{cv:List (Option V)}
  (S:Zmx scope ps ls ys) (hf:H f=some (XW (PySem.W.fnMade name qual params body scope cl doc pm O ctv))) (hc:H O=some (XW oc)) (hoc:y4 oc qual)
  (hcl:∀x c,cl.lookup x=some c->c∈R) (hcs:∀c∈R,∃o v,H c=some (XW o)/\o.data=.cell v)
  (inj:∀x y c,cl.lookup x=some c->cl.lookup y=some c->x=y) (has:∀x,scope.names.lookup x=some .free->∃c,cl.lookup x=some c)
  (hcv:cv.length=ys.length) (hval:∀(i:Nat)(y:Str)(v:V),ys[i]?=some y->cv[i]?=some (some v)->∃c o u,cl.lookup y=some c/\H c=some (XW o)/\o.data=.cell (some u)/\RelV v u)
  (hb:∀us:Ag,us.length=ps.length->bindArgs (PySem.W.fnX name qual params body scope cl .none .none doc pm none (.ref O) ctv) ⟨us,[]⟩=pure (ps.zip us))
  (hbody:∀(A:Ao)(outer:List Env)(s:Aq)(H1:Hp),JS k (A.deeper (PySem.W.envX qual scope s.heap.objs.size f (.ref O) (cellsFrom (s.heap.objs.size+1) scope.names cl)))->PSs (cxN P w K mg base (ps++(ls++ys)) qual scope f (.ref O) cl A outer s H1) body B):
  Xp P w K mg base (k+1) f H (Zks ps.length ls.length B R cv):=by
 refine⟨⟨_,_,hf,U⟩,?_⟩;intro A outer s H1 us vs Q E fz hr D r ht;obtain⟨hl,ht⟩:=ht;have gf:s.heap.get? f=some (PySem.W.fnMade name qual params body scope cl doc pm O ctv):=(D.hok f _ (fz _ _ _ hf)).1;have Y:∀c∈R,∃o v,H1 c=some (XW o)/\o.data=.cell v/\s.heap.get? c=some o:=λc m=>by
  obtain⟨o,v,e,d⟩:=hcs c m;exact⟨o,v,fz _ _ _ e,d,(D.hok c _ (fz _ _ _ e)).1⟩
 have hcs2:∀c∈R,∃o,H1 c=some (XW o):=λc m=>let⟨o,_,e,_⟩:=Y c m;⟨o,e⟩;obtain⟨vs0,t0,hd0,hv0⟩:=hoc;have lim:s.heap.NoLimit:=D.mod.nolimit.keeps λb o e=>(D.bs b o e).1;have lus:us.length=ps.length:=by rw[<-r.length];exact hl
 refine codeAny_call_function hr.depth gf U S.co S.gen U ⟨O,oc,vs0,t0,U,(D.hok O _ (fz _ _ _ hc)).1,hd0,hv0⟩ ?_;rw[hb us lus];refine Qae (Zmw S.kind (λx hx=>S.par _ (Qeg hx).1) λh₁ tk hns old F hap=>⟨lim.keeps old,codeAny_func ?_⟩);have ndp:ps.Nodup:=(Qe5.mp S.nd).1;have look:∀x c,(cellsFrom (s.heap.objs.size+1) scope.names cl).lookup x=some c->((x,c)∈cellsFrom (s.heap.objs.size+1) scope.names []/\(cellsFrom (s.heap.objs.size+1) scope.names []).lookup x=some c)\/cl.lookup x=some c:=λx c e=>by
  rw[Ym,JZ]at e;cases q:(cellsFrom (s.heap.objs.size+1) scope.names []).lookup x with
  |none=>rw[q]at e;exact .inr e
  |some d=>rw[q]at e;cases e;exact .inl ⟨Qca q,U⟩
 have C:∀x,scope.names.lookup x=some .free->(cellsFrom (s.heap.objs.size+1) scope.names cl).lookup x=cl.lookup x:=λx hx=>by
  rw[Ym,JZ];cases q:(cellsFrom (s.heap.objs.size+1) scope.names []).lookup x with
  |none=>rfl
  |some d=>
   have m1:=qV scope.names _ (Qca q);have m2:=Qca hx;have:∀{l:List (Str×NameKind)},(l.map (·.1)).Nodup->(x,NameKind.cell)∈l->(x,NameKind.free)∈l->False:=λ{l} nd a b=>by
    induction l with
    |nil=>cases a
    |cons p l ih=>
     rw[Qb1,Qcj]at nd;rcases Qaw.mp a with a|a<;>rcases Qaw.mp b with b|b
     .rw[<-a]at b;cases b
     .exact nd.1 (by rw[<-a];exact Qcw (f:=(·.1)) b)
     .exact nd.1 (by rw[<-b];exact Qcw (f:=(·.1)) a)
     .exact ih nd.2 a b
   exact(this S.ndn m1 m2).elim
 have oldC:∀x c,cl.lookup x=some c->c<s.heap.objs.size:=λx c e=>by
  obtain⟨o,v,_,_,g⟩:=Y c (hcl x c e);exact Qav g
 have I:Inv (cxN P w K mg base (ps++(ls++ys)) qual scope f (.ref O) cl A outer s (hide R H1)) [] (vs.map some++(List.replicate ls.length none++cv)) (hide R H1) {s with heap:=h₁,toks:=tk}:=by
  have noA:∀b:Au,b∉([]:List Au):=λb z=>nomatch z;refine⟨⟨D.mod,S.kind,U,U,Qai _,λx y c h1 h2=>?_,λy Z=>?_,λy c Z h=>?_,λ_=>hr.hd,Qfz D.frames,.inr ⟨U,U⟩,λb z=>absurd z (noA b),λb o e=>⟨(D.bs b o e).1,?_⟩,D.bsz,λb _ _=>noA b,λb z=>absurd z (noA b),D.funs,λb hb=>?_⟩,
   rfl,D.bare,Un.kept old,⟨_,hns,λi y v h1 h2 h3=>?_⟩,λy c h=>?_,?_,λy c h=>?_,λp hp=>absurd (show p∈([]:Ac)from hp) (by simp),(gS D.hok hcs2).kept old,?_⟩
  .rcases look x c h1 with⟨m1,_⟩|l1<;>rcases look y c h2 with⟨m2,_⟩|l2
   .exact name_of_addr hap m1 m2
   .exact absurd (oldC y c l2) (Qgz.mpr (Qax (F x c m1).2))
   .exact absurd (oldC x c l1) (Qgz.mpr (Qax (F y c m2).2))
   .exact inj x y c l1 l2
  .have Z:scope.names.lookup y=some .cell\/scope.names.lookup y=some .free:=Z;rcases Z with Z|Z
   .obtain⟨c,e⟩:=zd (n:=s.heap.objs.size+1) Z;exact⟨c,by show(cellsFrom (s.heap.objs.size+1) scope.names cl).lookup y=_;rw[Ym,JZ,e]⟩
   .obtain⟨c,e⟩:=has y Z;exact⟨c,by show(cellsFrom (s.heap.objs.size+1) scope.names cl).lookup y=_;rw[C y Z,e]⟩
  .have Z:scope.names.lookup y=some .cell:=eq_of_beq (show(scope.names.lookup y == some .cell)=true from Z);obtain⟨d,e⟩:=zd (n:=s.heap.objs.size+1) Z;have h':(cellsFrom (s.heap.objs.size+1) scope.names cl).lookup y=some c:=h;rw[Ym,JZ,e]at h';cases h';exact Qax (F y _ (Qca e)).2
  .by_cases m:b∈R
   .exact YT m
   .exact(ZJ m).trans (D.bs b o e).2
  .by_cases m:b∈R
   .exact YT m
   .exact(ZJ m).trans (D.frf b hb)
  .by_cases hi:i<vs.length
   .rw[Qa8 (by simpa using hi),Qal]at h2;have ha:vs[i]?=some v:=by
     cases e:vs[i]? with
     |none=>rw[e]at h2;cases h2
     |some a=>rw[e]at h2;cases h2;rfl
    obtain⟨u,hu,rv⟩:=r.get ha;have G:(ps++(ls++ys))[i]?=some y:=h1;rw[Qa8 (by lia)]at G;exact⟨u,rv,.inl ⟨S.par y (Qag G),y0 ndp G hu lus.symm⟩⟩
   .rw[Qa0 (by simpa using hi),Qac]at h2;have G:(ps++(ls++ys))[i]?=some y:=h1;rw[Qa0 (by lia),<-hl]at G
    by_cases hj:i-vs.length<ls.length
    .rw[Qa8 (by rw[Qbh];exact hj),List.getElem?_replicate]at h2;split at h2<;>cases h2
    .rw[Qa0 (by rw[Qbh];lia),Qbh]at h2;rw[Qa0 (by lia)]at G;obtain⟨c,o,u,e1,e2,e3,rv⟩:=hval _ y v G h2;have hfy:=S.free y (Qag G);exact⟨u,rv,.inr ⟨.inr hfy,c,(C y hfy).trans e1,o,old _ _ (D.hok c _ (fz _ _ _ e2)).1,e3⟩⟩
  .rcases look y c h with⟨m1,_⟩|l1
   .exact⟨none,(F y c m1).1⟩
   .obtain⟨o,v,_,d,g⟩:=Y c (hcl y c l1);exact⟨v,o,old _ _ g,d⟩
  .show hide R H1 s.heap.objs.size=none
   by_cases m:s.heap.objs.size∈R
   .exact YT m
   .rw[ZJ m];exact D.hok.fresh (Qai _)
  .rcases look y c h with⟨m1,_⟩|l1
   .by_cases m:c∈R
    .exact YT m
    .rw[ZJ m];exact D.hok.fresh (Qax (F y c m1).2)
   .exact YT (hcl y c l1)
  .show(vs.map some++(List.replicate ls.length none++cv)).length=(ps++(ls++ys)).length;rw[Qaf,Qaf,Qaf,Qaf,Qac,Qbh,hl,hcv]
 refine Qdb (hbody A outer s (hide R H1) (hr.deeper _) [] _ _ _ _ I ht) (λfl s' hs=>?_) λ_ _ z=>z.elim;have fin:∀{σ':St} {H':Hp} {v:V} {u:As},Inv (cxN P w K mg base (ps++(ls++ys)) qual scope f (.ref O) cl A outer s (hide R H1)) [] σ' H' s'->RelV v u->((∀c∈R,H' c=none)->Q v (Jc R H1 H'))->CE outer P w H1 s Q u s':=λ{σ' H' v u} J rv q=>Zan D Y J.os J.bare J.base J.hok rv q;cases fl with
 |ret u=>
  obtain⟨v,σ',H',J,rv,q⟩:=hs;exact fin J rv q
 |next=>
  obtain⟨σ',H',J,q⟩:=hs;exact fin (v:=V.non) (u:=Value.none) J U q
 |brk=>
  obtain⟨_,_,_,q⟩:=hs;exact False.elim q
 |cont=>
  obtain⟨_,_,_,q⟩:=hs;exact False.elim q
end
def tDef(P:Au)(lpos:Pos)(qual:Str)(C:Au->Value->Value->Obj)(i:Nat):TS:=λD σ H=>ZT H P lpos qual /\
 ∀(f F:Au)(oc:Obj)(q g:As)(H2:Hp),H f=none->H2 f=some (XW (C F q g))->H2 F=some (XW oc)->y4 oc qual->ZT H2 P lpos qual->(∀b o,H b=some o->b≠P->H2 b=some o)->D.nx (σ.set i (some (.ref f))) H2
section
variable {X:Cx}{params:Arguments}{body:List Aw}{scope:Scope}{lpos:Pos}{c P:Au}{name qual:Str}
abbrev we (X:Cx) (name qual:Str) (params:Arguments) (body:List Aw) (scope:Scope):Au->Value->Value->Obj:=λC q g=>PySem.W.fnMade name qual params body scope (yp X.env.cells scope.names []) g ((X.mg "__name__").getD .none) C q
theorem qs_def{S0:Scope}(hN:X.N.Nodup)(hi:X.N[i]?=some name)(hx:Loc X.env.scope name)(O:X.env.code=.ref c)(C:PySem.W.CodeHd X.base c P)(B:vm X.mg X.base)(hd0:params.defaults=[])(hk0:params.kw_defaults=[])(han:annTrees params none X.env=[])(hq:qualnameIn X.env name name=qual)
  (hX:X.env.scope=S0) (hfr0:∀y∈scope.names,y.2=.free->S0.names.lookup y.1=some .cell) (hf:X.fn name=true\/X.env.scope.names.lookup name=some .local:=by first|exact .inl U|exact .inr U|assumption):
  QS X (.FunctionDef name params body [] none [] scope none name lpos) (tDef P lpos qual (we X name qual params body scope) i):=by
 have hfree:∀y∈scope.names,y.2=.free->X.env.scope.names.lookup y.1=some .cell:=λy hy h=>by rw[hX];exact hfr0 y hy h
 refine⟨?_⟩;intro pins s σ H D I hw;obtain⟨Q,hq2⟩:=hw;refine PySem.W.nestDef_K hd0 hk0 han ?_;rw[hq];have hcl:=JT λy hy h=>I.ok.has y.1 (.inl (hfree y hy h));have hg:s.heap.Ns mainGlobals X.mg:=I.mod.glob.keeps I.bk;obtain⟨pz,hPs⟩:=Q.ex;have J:X.base.get? P=none:=by
  cases e:X.base.get? P with
  |none=>rfl
  |some o=>rw[(I.bs P o e).2]at hPs;cases hPs
 have hgP:mainGlobals≠P:=λe=>by
  obtain⟨o,es,ep,g,_⟩:=I.mod.glob;rw[e,J]at g;cases g
 have hb:s.heap.BuiltinsAt X.mg P:=by
  obtain⟨bm,ob,b1,b2,b3,b4,b5,b6⟩:=B.ex;refine⟨bm,ob,b1,b2,λe=>?_,(λe=>by rw[e,J]at b3;cases b3),I.bk _ _ b3,b4,b5,b6⟩;obtain⟨o,es,ep,g,hd,_⟩:=I.mod.glob;rw[<-e,b3]at g;cases g;rw[b6]at hd;cases hd
 rcases Q with Q|⟨q,oc,Q,hc',Y⟩
 .have hP:s.heap.get? P=some (PySem.W.tabObj #[]):=I.hok P _ Q;refine PySem.W.makeFunction_K (mg:=X.mg) (ps:=#[]) hcl I.ok.glob hg O (C.keeps I.bk) hP trivial U hgP hb λq G F h' tk hx' hge Z hrec htb=>?_;obtain⟨c₂,oc,vs,t,e2,Y,hd,hv⟩:=hrec;cases e2;have cn:H q=none:=I.hok.fresh hge;have cP:q≠P:=λe=>by rw[e,Q]at cn;cases cn
  have hsz:s.heap.objs.size<=h'.objs.size:=Qaz hge (Qax Z);have I2:=Zao (lpos:=lpos) (fo:=we X name qual params body scope q G F) (tk:=tk) I Q hx' hge Z Y htb;have fn:H h'.objs.size=none:=I.hok.fresh hsz;have fc:q≠h'.objs.size:=Qbc Z;have fP:P≠h'.objs.size:=Zq Q fn;refine W6 I2 hN hi hx (v:=.ref h'.objs.size) U (λs' I3=>⟨_,_,I3,hq2 _ q oc G F _ fn Zb ?_ ⟨vs,t,hd,hv⟩ (.inr ⟨q,oc,?_,?_,⟨vs,t,hd,hv⟩⟩) λb o e hbP=>?_⟩) hf
  .rw[Zm fc];exact Zb
  .rw[Zm fP,Zm cP.symm];exact Zb
  .rw[Zm fc];exact Zb
  .rw[Zm (Zq e fn),Zm (Zq e cn),Zm hbP];exact e
 .have hP:=I.hok P _ Q;have hfd:codeAmong lpos (#[rawInt lpos.line,rawInt lpos.col,.ref q]:Ah).toList=some (.ref q):=by
   show(if((lpos.line:Int) == lpos.line&&(lpos.col:Int) == lpos.col)=true then some (Value.ref q)else _)=_;rw[Qde,Qde];rfl
  refine PySem.W.makeFunction_hit (mg:=X.mg) hcl I.ok.glob hg O (C.keeps I.bk) hP trivial hfd hb λG F h' tk hk hsz=>?_;have I2:=I.laid (t':=tk) (a:=h'.objs.size) (o:=XW (we X name qual params body scope q G F)) (λb u e=>Qab _ (hk b u e)) hsz (qS (Qao _ U));have fn:H h'.objs.size=none:=I.hok.fresh hsz;have sm:∀b o,H b=some o->upd H h'.objs.size (XW (we X name qual params body scope q G F)) b=some o:=λb o e=>by rw[Zm (Zq e fn)];exact e
  exact W6 I2 hN hi hx (v:=.ref h'.objs.size) U (λs' I3=>⟨_,_,I3,hq2 _ q oc G F _ fn Zb (sm _ _ hc') Y (.inr ⟨q,oc,sm _ _ Q,sm _ _ hc',Y⟩) λb o e _=>sm b o e⟩) hf
end
def tCallN(F:An)(w:Ar)(K:Af)(mg:Ae)(base:Heap)(k:Nat)(sp:Sp)(qual:Str)(C:Au->Value->Value->Obj)(ta:TA)(i n m:Nat)(is:Aj)(ts:TS):TE:=λσ H Q=>ta σ H λvs H1=>
 ∃(f D:Au)(oc:Obj)(q g:As),σ[i]?=some (some (.ref f))/\H1 f=some (XW (C D q g))/\H1 D=some (XW oc)/\y4 oc qual /\
 ∀(cs:List Au)(H2:Hp),(∀c∈cs,H1 c=none)->(∀c∈cs,∃o,H2 c=some (XW o))->(∀b o,H1 b=some o->H2 b=some o)->
  Xp F w K mg base k f H2 (Zks n m ts cs (is.map λi=>(σ[i]?).getD none))->sp vs H2 (λv G=>Q v (hide cs G)) E0
structure Zpn(S0 scope:Scope)(N0 ps ls ys:Ai)(is:Aj):Prop where
 sc:Zmx scope ps ls ys
 free:∀y∈scope.names,y.2=.free->S0.names.lookup y.1=some .cell
 vis:∀q∈ys.zip is,N0[q.2]?=some q.1
 len:ys.length=is.length
section
variable {X:Cx}{params:Arguments}{body:List Aw}{scope:Scope}{p pos:Pos}{g:Au}{name qual x:Str}{k kl:Nat}{gd:Am}{pg ps ls ys:Ai}{is:Aj}{sp:Sp}{ts:TS}{e:Av}{es:Al}{ta:TA}
def Zii(F:Y1 X.prog X.w X.K X.mg X.base CX0 k g gd pg sp)(hr:JS k X.A)(hg:Gl X x)(hm:X.mg x=some (.ref g))(hk:PySem.W.keepIn X.K (.ref g)=true)(hb:Binds X.K gd pg [])(hfn:X.fn=λ_=>true)
  (ha:QA X (e::es) ta) {S0:Scope} {N0:Ai} (hX:X.env.scope=S0) (hXN:X.N=N0) (LL:Zpn S0 scope N0 ps ls ys is)
  (Y:∀(cl:List (Str×Au))(doc pm cv ctv:As)(Z:Ag),Z.length=ps.length->bindArgs (PySem.W.fnX name qual params body scope cl .none .none doc pm none cv ctv) ⟨Z,[]⟩=pure (ps.zip Z))
  (O:∀(f c':Au)(cl:List (Str×Au))(A:Ao)(outer:List Env)(s:Aq)(H1:Hp),JS kl (A.deeper (PySem.W.envX qual scope s.heap.objs.size f (.ref c') (cellsFrom (s.heap.objs.size+1) scope.names cl)))->QSs (cxN X.prog X.w X.K X.mg X.base (ps++(ls++ys)) qual scope f (.ref c') cl A outer s H1) body ts)
  (hdb:(x == ("__debug__" : Str))=false:=by decide) (hp:(e::es).all Ya=true:=by rfl):
  QE X (.Call (.Name x p) (e::es) [] pos) (tCallN X.prog X.w X.K X.mg X.base (kl+1) sp qual (we X name qual params body scope) ta i ps.length ls.length is ts):=by
 rw[Qdw,Qce]at hp;have S:=LL.sc;have D:∀y∈scope.names,y.2=.free->X.env.scope.names.lookup y.1=some .cell:=λy hy h=>by rw[hX];exact LL.free y hy h
 have hN:∀q∈ys.zip is,X.N[q.2]?=some q.1:=λq hq=>by rw[hXN];exact LL.vis q hq
 refine⟨?_⟩;intro pins s σ H Q I hw;refine Qc0 (yU I hg hm ?_ hdb);refine Qgj (h₀:=X.base) I.ok.mod.kin hk (thn (ha.out pos pins s σ H _ I hw) λZ s1 ⟨vs,H1,G,r,f,c',oc,ctv,doc,hσ,hf,hc',hoc,q⟩=>⟨G.kIn,?_⟩) (Zy hp.1) (XF hp.2);have J:∀y d,(yp X.env.cells scope.names []).lookup y=some d->X.env.cells.lookup y=some d:=
  GN (λy hy h=>G.ok.has y.1 (.inl (D y hy h))) λ_ _ z=>by cases z
 have C:=zf G;have hcs:=vn G;refine zC F hr hb hfn G r (q (cellsOf X.env.cells) (Zb4 X s1 H1) (Wo G) (λd m=>let⟨o,_,e,_⟩:=hcs d m;⟨o,e⟩) C ?_);exact vp (ls:=ls) (ys:=ys) S (C _ _ hf) (C _ _ hc') hoc (λy d h=>Xk.mpr ⟨y,J y d h⟩) (λd m=>let⟨o,v,e,hd,_⟩:=hcs d m;⟨o,v,e,hd⟩) (λy z d h1 h2=>G.ok.inj y z d (J y d h1) (J z d h2)) (λy h=>JU h) (by rw[Qac,LL.len])
  (wa (N0:=N0) G D S.free hN LL.len) (λZ hl=>Y _ _ _ _ _ Z hl) λA outer s H1 hr=>(O f c' _ A outer s H1 hr).out
end
def QE.or{t u:TE}(h:QE X e t)(g:QE X e u):QE X e (λσ H Q=>t σ H Q\/u σ H Q):=⟨λpins s σ H Q I z=>z.elim (h.out pins s σ H Q I) (g.out pins s σ H Q I)⟩
def QS.or{e:Aw}{t u:TS}(h:QS X e t)(g:QS X e u):QS X e (λD σ H=>t D σ H\/u D σ H):=⟨λpins s σ H D I z=>z.elim (h.out pins s σ H D I) (g.out pins s σ H D I)⟩
def Zmy(tk tv:TE):TE:=λσ H Q=>∀d,H d=none->tk σ (upd H d (.dK [])) λx H1=>tv σ H1 λv H2=>∃(Kk:Type)(_:DecidableEq Kk)(kn:KN Kk)(a:Au)(k:Kk),x=.ref a/\H2 d=some (.dK [])/\kn.at_ H2 k a /\
 ∀H',gu kn H' d [(k,v)]->(∀b o,H2 b=some o->b≠d->H' b=some o)->(∃o,H'=upd H2 d o)->Q (.ref d) H'
def Zfd{k v:Av}{tk:TE}(hu:X.A.units+2<cLine)(G:QE X k tk)(hv:QE X v M):QE X (.Dict [some k] [v] p) (Zmy tk M):=by
 refine⟨λpins s σ H Q I q=>?_⟩;have F:=I.hok.fresh (Qai s.heap.objs.size);have I1:=I.laid (a:=s.heap.objs.size) (o:=.dK []) (t':=s.toks) (λ_ _ q=>Qab _ q) (Qai _) (vc s.heap I.big);refine wpAny_Dict_any U U (λz=>nomatch z) (by show 1<=15;decide) (thn (pp1 G hv pins _ σ _ _ I1 (q _ F)) λws s2 ⟨x,y,u,r,H2,ew,g,rx,Z,Kk,_,kn,a,kk,ex,e,C,q2⟩=>?_);subst ew ex;cases(show u=Value.ref a from rx);have n:gu kn H2 s.heap.objs.size []:=⟨Qdl,(show 0<sizeLine by decide),.inl ⟨U,e⟩⟩;obtain⟨xs,dd,pr,mu,D⟩:=n.dict g;cases pr;unfold storeAll;rw[List.forIn_cons];refine Qaa (Qaa (wpAny_dictSet_heap (hsz:=Qbj _) (kn.room0 _ _ _ hu) (kn.ok _ _ _ _ _ _ g.hok C) dd λh' dd' O=>Qae ?_));show wpAny _ _ _ _ _ _;obtain⟨H',n',Y,o',J⟩:=Zar g n C Z (show 0+1<sizeLine by decide) .nil mu D U dd' O;exact Qae ⟨.ref s.heap.objs.size,H',J,U,q2 H' n' Y o'⟩
def PI.or{tg l:Av}{t u:TI}(h:PI X tg l t)(g:PI X tg l u):PI X tg l (λσ H R=>t σ H R\/u σ H R):=λpins s σ H R I z=>z.elim (h pins s σ H R I) (g pins s σ H R I)
def QI.or{tg l:Av}{t u:TI}(h:QI X tg l t)(g:QI X tg l u):QI X tg l (λσ H R=>t σ H R\/u σ H R):=⟨PI.or h.out g.out⟩
section
variable {prog:An}{w:Ar}{A:Ao}{R:Result->Shared->Prop}{I:Au}{fp wr:List Au}{n:Nat}{P:Nat->Value->Prop}{St:Nat->Heap->Prop}{d:As}
theorem Zmz(W:Walks prog w A.in1 I fp wr n P St)(bt:Nat->Nat->Bool)(hcmp:CmpOf prog w A.in1 .Gt P bt)(S:Au)(hSf:S∉fp):
  ∀(k j:Nat)(s:Aq)(O:As)(c:Nat),n-(j+1)=k->j+1<=n->St (j+1) s.heap->P (argBest bt j) O->
  s.heap.get? S=some {cls:=.type "list",dict:=none,data:=.seq #[O,O] c,slots:=#[]}->
  (∀v h' tk,P (argBest bt (n-1)) v->(∀b o,b∉wr->b≠S->s.heap.get? b=some o->h'.get? b=some o)->R (.ok (.ret v)) {s with heap:=h',toks:=tk})->
  codeAny (model prog w) A (.builtin "max.loop" ⟨[.ref I,.none,.ref S],[("default",d)]⟩) R s:=by
 have hSw:S∉wr:=λh=>hSf (W.sub _ h);have hname:(toString "max" ++ toString ".loop" : String) = "max.loop" :=by decide
 intro k
 induction k with
 |zero=>
  intro j s O c hk hj hst J hS hR;have hin:j+1=n:=by lia
  refine Qcl Qfn ?_;refine Qaa (Qcc hS U ?_);refine Qaa (Qfs (W.done s _ _ (hin ▸ hst) λh' tk C=>?_));have G:=C S _ hSw hS;refine Qaa ?_;refine Qdp G U (Qaa (Qez (Qae ?_)));refine hR O _ tk (by rw[<-hin];exact J) λb o g q e=>(Qbu _ _ (Qd7 q)).trans (C b o g e)
 |succ k ih=>
  intro j s O c hk hj hst J hS hR;have Y:j+1<n:=by lia
  refine Qcl Qfn ?_;refine Qaa (Qcc hS U ?_);refine Qaa (Qfs (W.item (j+1) s _ _ Y hst λv h' tk hP Q C=>?_));have G:=C S _ hSw hS;show wpAny _ A.in1 (tryCatch (holding [v,v] (richCompare .Gt v O >>= _)) _ >>= _) _ _ _;refine Qaa (Qfs (Qch (Qaa (hcmp (j+1) (argBest bt j) v O _ _ _ hP J ?_))));refine Qaa (Qch (Qc5 ?_));refine Qaa (Qez (Qae ?_));cases hb:bt (j+1) (argBest bt j)with
  |true=>
   refine Qaa ?_;refine Qdp G U (Qaa (Qez ?_));refine Qae ⟨Qdk Qes _,ih (j+1) _ v _ (by lia) Y (W.frame _ _ _ Q λb hbf o e=>?_) (by simp only[argBest,hb,if_true];exact hP) (Qbi _ G U)
    λv' Z D hP' F=>?_⟩
   .exact(Qbu _ _ (λh:S=b=>hSf (by rw[h];exact hbf))).trans e
   .exact hR v' Z D hP' λb o g q e=>F b o g q ((Qbu _ _ (Qd7 q)).trans (C b o g e))
  |false=>
   refine Qaa (Qez ?_);refine Qae ⟨Qdk Qes _,ih (j+1) _ O c (by lia) Y Q (by simp only[argBest,hb,Qda,if_false];exact J) G λv' Z D hP' F=>?_⟩;exact hR v' Z D hP' λb o g q e=>F b o g q (C b o g e)
def Zij(W:Walks prog w A.in1 I fp wr n P St)(bt:Nat->Nat->Bool)(G:CmpOf prog w A.in1 .Gt P bt)(S:Au)(C:S∉fp){c:Nat}(Y:St 0 s.heap)
  (hS:s.heap.get? S=some {cls:=.type "list",dict:=none,data:=.seq #[] c,slots:=#[]})
  (h0:n=0->∀h' tk,(∀b o,b∉wr->b≠S->s.heap.get? b=some o->h'.get? b=some o)->R (.ok (.ret d)) {s with heap:=h',toks:=tk})
  (hR:0<n->∀v h' tk,P (argBest bt (n-1)) v->(∀b o,b∉wr->b≠S->s.heap.get? b=some o->h'.get? b=some o)->R (.ok (.ret v)) {s with heap:=h',toks:=tk}):
  codeAny (model prog w) A (.builtin "max.loop" ⟨[.ref I,.none,.ref S],[("default",d)]⟩) R s:=by
 have hSw:S∉wr:=λh=>C (W.sub _ h);have hname:(toString "max" ++ toString ".loop" : String) = "max.loop" :=by decide
 refine Qcl Qfn ?_;refine Qaa (Qcc hS U ?_)
 by_cases hn:0<n
 .refine Qaa (Qfs (W.item 0 s _ _ hn Y λv h' tk hP F q=>?_));have Z:=q S _ hSw hS;show wpAny _ A.in1 (updateSeq S (λ_=>#[v,v]) >>= _) _ _ _;refine Qaa ?_;refine Qdp Z U ?_;refine Qae ⟨Qdk Qes _,Zmz W bt G S C _ 0 _ v _ U hn (W.frame _ _ _ F λb hbf o e=>?_) hP (Qbi _ Z U) λv' h'' J hP' O=>?_⟩
  .exact(Qbu _ _ (λh:S=b=>C (by rw[h];exact hbf))).trans e
  .exact hR hn v' h'' J hP' λb o g Q e=>O b o g Q ((Qbu _ _ (Qd7 Q)).trans (q b o g e))
 .have D:n=0:=by lia
  refine Qaa (Qfs (W.done s _ _ (by rw[D];exact Y) λh' tk q=>?_));refine Qaa (Qdu (Qae ?_));exact h0 D h' tk λb o g _ e=>q b o g e
end
def Zik (a v:As):argsOk "max" ⟨[a],[(Str.ofString "default",v)]⟩:=by kernel_rfl
section
variable {prog:An}{w:Ar}{A:Ao}{E:Ab}{s:Aq}{l:Au}{xs:Array (Int×Tok)}{d:As}
def Zfe(hh:A.handled=none)(O:s.heap.IsList l (intItems xs))(Z:xs.size=0->∀h' tk,(∀b o,s.heap.get? b=some o->h'.get? b=some o)->Q d {s with heap:=h',toks:=tk})
  (h:0<xs.size->∀v h' tk,(intItems xs)[argBest (λi j=>decide (numAt xs i>numAt xs j)) (xs.size-1)]?=some v->(∀b o,s.heap.get? b=some o->h'.get? b=some o)->Q v {s with heap:=h',toks:=tk}):
  A1 prog w A (call (.builtin "max") [.ref l] [(Str.ofString "default",d)]) Q E s:=by
 have I:(toString "max" ++ toString ".loop" : String) = "max.loop" :=by decide
 refine PyProof.Rows.kmk_tree PySem.F.kind_max PySem.F.plain_max PySem.F.entry_max (Zik _ _) ?_;refine Qaa (Qc8 (U) ?_);refine Qaa (Qae ?_);refine Qaa (iter_intList O λs₂ e st D q=>?_);subst e;refine Qaa (Qbm ?_);have W:=Walks.list (prog:=prog) (w:=w) (A:=A.in1) hh _ l q (intItems xs);have hsz:(intItems xs).size=xs.size:=by simp[intItems]
 refine Qae ⟨Qdk Qes _,Zij W _ (CmpOf.ints_gt (numAt xs) (λ_ _=>intItems_at)) _ (λJ=>Qb0 _ (D _ J)) (W.frame _ _ _ st λb _ o e=>Qab _ e) (Qao _ U) (λg h' tk C=>?_) λg v h' tk Y C=>?_⟩
 .exact Z (by rw[<-hsz];exact g) h' tk (old_kept λb o G e=>C b o G (Qbc (Qav e)) (Qab _ e))
 .exact h (by rw[<-hsz];exact g) v h' tk (by simpa[intItems]using Y) (old_kept λb o G e=>C b o G (Qbc (Qav e)) (Qab _ e))
end
def tMaxD(K:Af)(ta td:TE):TE:=λσ H Q=>ta σ H λx H1=>td σ H1 λy H2=>∃(p:Au)(ns:Ak),x=.ref p/\SqL K H2 p (ns.map V.int)/\(ns=[]->Q y H2)/\∀m∈ns,(∀n∈ns,n<=m)->Q (.int m) H2
def Zm0 {a:Av}  {kp:Pos} (hc:X.calm=true) (hg:Gl X "max") (hm:X.mg "max" = none) (ha:QE X a A) (hd:QE X e M) (hp:Ya a=true:=by rfl):
  QE X (.Call (.Name "max" p) [a] [⟨some "default",e,kp⟩] l) (tMaxD X.K A M):=by
 refine⟨λpins s σ H Q I hw=>?_⟩;refine Qc0 (Jr I hg hm Zkj ?_ (by decide));have O:=Zy (rest:=[]) (env:=X.env) hp;refine callWith_kw ?_ (by rw[O];rfl) (by rw[O];rfl);rw[O];refine Qcs (thn (ha.out pins s σ H _ I hw) λu s1 ⟨x,H1,I1,r1,q1⟩=>?_);refine Qd0 (kws_cons (thn (hd.out pins s1 σ H1 _ I1 q1) λu2 s2 ⟨y,H2,D,r2,p,ns,ex,hq,hz,q⟩=>kws_nil ?_));subst ex;cases r1;obtain⟨g,r',pl,hz'⟩:=D.list hq;have hi:IntsAre g ns:=intsAre_of r';obtain⟨xs,hx⟩:=hi.allInts.items;have G:s2.heap.IsList p (intItems xs):=hx ▸ pl.isList;have e1:ns=xs.toList.map (·.1):=by
  rw[<-nums_intItems,<-hx];exact(show numsOf g.toArray.toList=ns from hi.numsOf).symm
 refine Zfe (D.ok.hd hc) G (λh0 h' tk J=>⟨y,H2,D.kept J,r2,hz ?_⟩) λhsz v h' tk Z J=>?_
 .grind
 have hb:=argBest_gt (numAt xs) (xs.size-1);generalize argBest (λi j=>decide (numAt xs i>numAt xs j)) (xs.size-1)=b at Z hb;have F:b<xs.size:=by lia
 have at_:∀j (C:j<xs.size),numAt xs j=xs[j].1/\(intItems xs)[j]?=some (.int xs[j].1 xs[j].2):=by
  intro j C;exact⟨by simp[numAt,C],by simp[intItems,C]⟩
 obtain⟨n1,n2⟩:=at_ b F;rw[n2]at Z;cases Z;refine⟨.int xs[b].1,H2,D.kept J,⟨_,U⟩,q _ ?_ λn hn=>?_⟩
 .grind
 .rw[e1]at hn;obtain⟨y,hy,rfl⟩:=Qa2.mp hn;obtain⟨j,C⟩:=Qcp hy;have Y:j<xs.size:=by
   grind
  have:=hb.2 j (by lia);rw[(at_ j Y).1,n1]at this;have ej:xs[j]=y:=by
   grind
  rw[ej]at this;exact this
def Zpo:V->List V->Hp->VK->Prop:=λx xs H Q=>∃i:Int,x=.int i/\xs=[]/\Q (.int ((Builtin.Int.intBits i:Nat):Int)) H
def Zm1:MtR X "int.bit_length" Zpo:=by
 intro pins s σ H x xs v C Q I g r h;obtain⟨i,rfl,rfl,q⟩:=h;obtain⟨t,rfl⟩:=g;cases r;exact call_int_bit_length ⟨.int _,H,I.tok _,⟨_,U⟩,q⟩
def Zb8 {X:Cx}  {t:TA} {tg a b:Av} (C:Gl X "range") (D:X.mg "range" = none) (F:QA X [a,b] t) (q:Ya a=true:=by rfl) (g:Ya b=true:=by rfl):QI X tg (.Call (.Name "range" p) [a,b] [] l) (Zox t):=
 ⟨Zdp C D F.out (by rw[Zy q,Zy g];rfl) (by rw[Zy g];rfl)⟩
section
variable {X:Cx}{pos:Pos}
def qs_par{j:Nat}{y:Str}{a b:Av}{pt:Pos}{q k2 g:_}(O:X.calm=true)(D:X.N.Nodup)(hi:X.N[i]?=some x)(F:X.N[j]?=some y)(C:i≠j)
  (G:X.env.scope.names.lookup x=some .local) (I:X.env.scope.names.lookup y=some .local) (J:QA X [a,b] Y)
  (hw:swappedStores [.Tuple [.Name x p,.Name y l] q pt] (.Tuple [a,b] k2 g) X.env=pure (some [x,y]))
  (Q:swapsWithSole [.Tuple [.Name x p,.Name y l] q pt] (.Tuple [a,b] k2 g) pos.line X.env=pure false:=by rfl):
  QS X (.Assign [.Tuple [.Name x p,.Name y l] q pt] (.Tuple [a,b] k2 g) pos) (tPar i j Y):=⟨ps_par O D hi F C G I J.out hw Q⟩
end
section
variable {prog:An}{w:Ar}{A:Ao}{E:Ab}{s:Aq}
def vq{Q:Ag->Shared->Prop}{r:Au}{a b c:Int}{t u v:Tok}(hh:A.handled=none)(I:IsRange s.heap r a b c t u v)(q:Builtin.Range.small a b c=true)
  (J:Builtin.Range.rangeSize a b c=n) (D:n<=2^24)
  (hQ:∀h' tk acc,(∀b o',s.heap.get? b=some o'->h'.get? b=some o')->ItemsOf (λi v=>∃t,v=.int (a+i*c) t) acc n->Q acc.toList {s with heap:=h',toks:=tk}):
  A1 prog w A (collect (.ref r)) Q E s:=by
 refine Qaa (wpAny_runValue (Qcl F.entry_proto_collect ?_));refine Qaa (Qbm ?_);refine Qae ⟨Qdk Qgy _,Qcl F.entry_list_iadd ?_⟩;have hS:(s.heap.push {cls:=.type "list",data:=.seq ([]:Ag).toArray}).get? s.heap.objs.size=some {cls:=.type "list",data:=.seq #[] 0}:=Qao _ rfl;have fin:∀(h':Heap)(tk:Nat)(acc:Ah)(g:Nat),(∀b o,s.heap.get? b=some o->h'.get? b=some o)->h'.get? s.heap.objs.size=some {cls:=.type "list",dict:=none,data:=.seq acc g,slots:=#[]}->ItemsOf (λi v=>∃t,v=.int (a+i*c) t) acc n->
   A1 prog w A (match Value.ref s.heap.objs.size with
   |Value.ref a=>do
    match (<-load a).data with
     |Data.seq xs _=>pure xs.toList
     |_=>unsupported "internal:collect"
   |_=>unsupported "internal:collect") Q E {s with heap:=h',toks:=tk}:=by
  intro h' tk acc g G C it;refine Qaa (wpAny_load C ?_);exact Qae (hQ h' tk acc G it)
 refine Qdb (wpAny_extend_range (A:=A) (R:=λr s'=>r=.ok (.ret (.ref s.heap.objs.size))/\∃h' tk acc g,s'={s with heap:=h',toks:=tk}/\(∀b o,s.heap.get? b=some o->h'.get? b=some o)/\h'.get? s.heap.objs.size=some {cls:=.type "list",dict:=none,data:=.seq acc g,slots:=#[]}/\ItemsOf (λi v=>∃t,v=.int (a+i*c) t) acc n)
  hh (Qab _ I) q J D _ _ 0 hS λh' tk acc g G C it=>⟨U,h',tk,acc,g,U,λb o e=>G b o (Qbc (Qav e)) (Qab _ e),C,it⟩) (λfi s' h=>?_) (λe s' h=>?_)
 .cases fi with
  |done f=>
   obtain⟨e,h',tk,acc,g,rfl,Y,O,Z⟩:=h;cases e;exact fin h' tk acc g Y O Z
  |again g=>exact⟨h.1,Qew h.2 λr s'' I=>by grind⟩
 .exact absurd h.1 (by simp)
end
open AutoSeq1 (wpAny_loadPart')
def qW(r:Au)(a b c:Int)(t u v:Tok)(n:Nat)(q:Builtin.Range.small a b c=true)(Q:Builtin.Range.rangeSize a b c=n)(C:n<=2^24):
  Meets (Builtin.«tuple.__new__» ⟨[.type "tuple",.ref r],[]⟩)
   (λA R s=>A.handled=none/\IsRange s.heap r a b c t u v/\∀(h':Heap) tk acc,(∀b o',s.heap.get? b=some o'->h'.get? b=some o')->ItemsOf (λi v=>∃t,v=.int (a+i*c) t) acc n->R (.ok (.ret (.ref h'.objs.size))) {s with heap:=h'.push {cls:=.type "tuple",data:=.seq acc},toks:=tk}):=
 .of_wp λprog w A R s h=>by
  obtain⟨J,g,d,tk,os⟩:=s;obtain⟨hh,G,h⟩:=h;have O:=sub_tuple_self;have F:=init_tuple_lookup;have Z:=madeHere_tuple;have I:A.in1.handled=none:=hh;have hT:Shared.TypeIs ⟨J,g,d,tk,os⟩ (.ref r) "range" :=⟨_,G,U⟩;have D:J.get? r=some {cls:=.type "range",data:=.fields #[.int a t,.int b u,.int c v]}:=G
  wp_walk using wpAny_loadPart' D,Qex hT,vq I G q Q C
  intro h' tk acc Y it;show wpAny _ _ (Builtin.Tuple.tupleExact acc.toList.toArray >>= λv=>ret v) _ _ _;unfold Builtin.Tuple.tupleExact;refine Qaa (Qbm ?_ (by show acc.toList.toArray.size<=sizeLine;simp only[Array.toArray_toList];rw[it.1,Qg2];lia));refine Qae ⟨_,U,?_⟩;have e:acc.toList.toArray=acc:=by simp
  rw[e];exact h h' tk acc Y it
section
variable {prog:An}{w:Ar}{A:Ao}{E:Ab}{s:Aq}
theorem xM{r:Au}{a b c:Int}{t u v:Tok}(hh:A.handled=none)(I:IsRange s.heap r a b c t u v)(g:Builtin.Range.small a b c=true)
  (D:Builtin.Range.rangeSize a b c=n) (q:n<=2^24)
  (h:∀(h':Heap) tk acc,(∀b o',s.heap.get? b=some o'->h'.get? b=some o')->ItemsOf (λi v=>∃t,v=.int (a+i*c) t) acc n->Q (.ref h'.objs.size) {s with heap:=h'.push {cls:=.type "tuple",data:=.seq acc},toks:=tk}):
  A1 prog w A (call (.type "tuple") [.ref r]) Q E s:=
 Qhd F.called_tuple (by decide) (F.typeCall_tuple_1 _) (F.newCall_tuple_1 _) (λC=>Qf0 C _) F.entry_tuple_new
  (qW r a b c t u v n g D q) ⟨hh,I,λh' tk acc G it=>⟨⟨_,Qao _ U,U⟩,h h' tk acc G it⟩⟩
end
def gZ(g:n<=1000000):Builtin.Range.rangeSize 0 (n:Int) 1=(n:Int)/\Builtin.Range.small 0 (n:Int) 1=true:=by
 have hsz:Builtin.Range.rangeSize 0 n 1=n:=by
  rw[rangeSize_one];split<;>lia
 exact⟨hsz,small_one (by decide) (by decide) (by lia) (by lia)⟩
theorem Zff:∀(m:Nat)(g:Ag)(k:Nat),g.length=m->(∀j v,g[j]?=some v->∃t,v=Value.int ((k+j:Nat):Int) t)->Vals ((List.range' k m).map λi:Nat=>V.int i) g:=by
 intro m
 induction m with
 |zero=>
  intro g k q _;rw[Qbz q];exact .nil
 |succ m C=>
  intro g k q hh;cases g with
  |nil=>cases q
  |cons u g=>
   refine .cons ?_ (C g _ (by grind) λj v D=>?_)
   .obtain⟨t,e⟩:=hh 0 u rfl;exact⟨t,e⟩
   .obtain⟨t,e⟩:=hh (j+1) v (by grind);exact⟨t,by grind⟩
def bt_any:bootBuiltins "any" = some (.builtin "any"):=by decide +kernel
def rTupRg:A0->Hp->VK->Prop:=λxs H Q=>∃(p:Au)(n:Nat),xs=[.ref p]/\H p=some (.rng 0 (n:Int))/\n<=1000000/\∀l,H l=none->Q (.ref l) (upd H l (.tup ((List.range n).map λi:Nat=>V.int i)))
def wg (Y:X.calm=true):Xr X (.type "tuple") rTupRg:=by
 intro pins s σ H xs Z Q I r h;obtain⟨p,n,rfl,e,F,q⟩:=h;obtain⟨u,rfl,J⟩:=vals1 r;cases J;obtain⟨t,u,v,O⟩:=(I.hok p _ e);obtain⟨hsz,C⟩:=gZ F;refine xM (I.ok.hd Y) O C hsz (by lia) λh' tk acc G it=>?_;have D:Inv X pins σ H {s with heap:=h',toks:=tk}:=I.kept G;have g:=it.1;refine⟨.ref _,_,D.laid (λb o e=>Qab _ e) (Qai _) (show Xw X.prog X.w _ _ _ (.tup _)from⟨by rw[Qac,Qa3,Qg2];lia,_,?_,by simpa using gq.new h' acc⟩),U,q _ (D.hok.fresh (Qai _))⟩;rw[List.range_eq_range'];refine Zff n _ 0 g λj v hj=>?_;obtain⟨t,e⟩:=it.2 j v (by grind);exact⟨t,by grind⟩
def rAnyL(K:Af):A0->Hp->VK->Prop:=λxs H Q=>∃(p:Au)(bs:List Bool),xs=[.ref p]/\SqL K H p (bs.map V.bl)/\Q (.bl (bs.any id)) H
def Zfg (hc:X.calm=true):Xr X (.builtin "any") (rAnyL X.K):=by
 intro pins s σ H xs us Q I r h;obtain⟨p,bs,rfl,hq,q⟩:=h;obtain⟨u,rfl,rx⟩:=vals1 r;cases rx;obtain⟨C,Z,pl,hz⟩:=I.list hq;have J:=pl.isList;have O:p<s.heap.objs.size:=by obtain⟨_,e,_⟩:=J;exact Qav e
 have g:=Z.length;rw[Qac]at g;refine call_any_walk (Qe2 J ?_);refine⟨s.heap.objs.size,_,_,C.toArray.size,_,_,λi=>(bs[i]?).getD false,U,Walks.list (A:=X.A.in1) (I.ok.hd hc) _ p (Qbc O) C.toArray,
  ⟨⟨_,Qao _ U,U,U⟩,J.push _⟩,λi v s' Q' E' hP Y=>?_,λh' tk hk=>?_⟩
 .have hi:=by simpa using hP
  have F:i<bs.length:=by grind
  obtain⟨w',e1,e2⟩:=Z.get (by rw[Qal,Qad F];rfl);rw[hi]at e1;cases e1;cases e2;simp only[Qad F]at Y;exact Qc5 Y
 .have e:((List.range C.toArray.size).any λi=>(bs[i]?).getD false)=bs.any id:=by
   rw[Qb8,<-g,Qd2,Qdf,Qdf];constructor
   .rintro⟨i,hi,z⟩;have D:=Qcf.mp hi;refine⟨_,Qck D,?_⟩;simpa[Qad D]using z
   .rintro⟨b,F,z⟩;obtain⟨i,hi,rfl⟩:=Qgc F;exact⟨i,Qcf.mpr hi,by grind⟩
  rw[e];refine⟨.bl (bs.any id),H,I.kept (t':=tk) (λb o G=>hk b o (λhm=>?_) (Qab _ G)),U,q⟩;rw[Qau.mp hm]at G;exact absurd (Qav G) (Qb0 _)
def rSetD:V->List V->Hp->VK->Prop:=λx vs H Q=>∃(d:Au)(k:Key)(v:V)(kvs:Ay),x=.ref d/\vs=[kV k,v]/\H d=some (.dK kvs)/\kvs.length<sizeLine /\
 (∀y,Yp kvs k=some y->Q y H)/\(Yp kvs k=none->Q v (upd H d (.dK (putK kvs k v))))
def Zm2:MtM X "dict.setdefault" rSetD:=by
 intro pins s σ H x vs v us Q I rx rv h;obtain⟨d,k,y,kvs,rfl,rfl,e,hz,h1,h2⟩:=h;cases rx;cases rv with
 |cons r1 J=>
 cases J with
 |cons J r3=>
 cases r3;obtain⟨z,O,vs,g,dd⟩:=Zh2 I.hok e;refine call_meetsIn F.slot_dict_setdefault dd.typeIs F.entry_dict_setdefault (F.args_dict_setdefault_3 _ _ _) (kt_meets_setdefault (ZQ X.prog X.w) d (yZ r1) O _) ⟨vs,dd,by rw[<-g.length];exact z,λv' G=>?_,λG h' dd' hs=>?_⟩
 .cases hy:Yp kvs k with
  |none=>
   have:=yS.none_of (by rw[<-hy];exact g.val k);rw[G]at this;cases this
  |some C=>
   obtain⟨Y,hw,D⟩:=yS.some_of (v:=C) (by rw[<-hy];exact g.val k);rw[G]at hw;cases hw;exact⟨C,H,I.tok _,D,h1 C hy⟩
 .have Z:Yp kvs k=none:=by
   cases hy:Yp kvs k with
   |none=>rfl
   |some C=>
    obtain⟨Y,hw,D⟩:=yS.some_of (v:=C) (by rw[<-hy];exact g.val k);rw[G]at hw;cases hw
  have he:∃q,h'.get? d=some q:=let⟨q,_,_,hq,_⟩:=dd';⟨q,hq⟩;have hl:(putK kvs k y).length<=sizeLine:=by have:=XJ kvs k y;lia
  exact⟨y,_,z5 I (by rw[e];exact True.intro) hs he (Zai hl O (g.put k J) dd'),J,h2 Z⟩
def Itn(n:Nat):It:=⟨λi _=>i<n,λi H v H'=>H'=H/\v=.int ((n:Int)-1-i),λi _=>n<=i⟩
def Zfh{tg:Av}(it:Au)(n:Nat):Turn P w K tg (Itn n) [it] it (λi h=>IsRangeIter h it ((n:Int)-1+(i:Nat)*(-1)) ((n:Int)-(i:Nat)) (-1))where
 mem:=by simp
 obj:=λi h st b g=>by
  grind
 keep:=λi h h' st k=>k it (by simp) _ st
 item:=by
  intro X F hw Z O i pins s σ H E I C st D;subst F hw Z;obtain⟨Y,G,f2,f3,Q,J⟩:=C it (by simp);have W:=Walks.range (prog:=X.prog) (w:=X.w) (I.ok.hd O) it ((n:Int)-1) (-1) n;refine W.item i s _ _ D st λv h' tk hv q kk=>?_;obtain⟨t,rfl⟩:=hv;have I1:Inv X pins σ H {s with heap:=h',toks:=tk}:=I.turned (λb o g e=>kk b o (by simpa using g) e) Y G f3 Q J;refine⟨_,U,kq (s:={s with heap:=h',toks:=tk}) (n:= "range_iterator") q U U (by decide) ⟨.int ((n:Int)-1-i),H,I1,⟨t,?_⟩,⟨U,U⟩,q,λb g=>(C b g).1⟩⟩;rw[show(n:Int)-1+(i:Int)*(-1)=(n:Int)-1-i by lia]
 done:=by
  intro X F hw Z O i pins s σ H E I C st D;subst F hw Z;obtain⟨Y,G,f2,f3,Q,J⟩:=C it (by simp);exact wpAny_pyNext_range_end (I.ok.hd O) st (by have:n<=i:=D;lia) λh' eb=>⟨U,I.turned (t':=s.toks) (λb o g e=>eb b o g e) Y G f3 Q J⟩
 self:=λ_ _ _ _ _ st h=>wpAny_pyIter_rangeiter st h
def wj(n:Nat):Builtin.Range.rangeSize ((n:Int)-1) (-1) (-1)=(n:Int):=by
 unfold Builtin.Range.rangeSize;split
 .grind
 .lia
def small_down(h:n<=1000000):Builtin.Range.small ((n:Int)-1) (-1) (-1)=true:=by
 have g:∀z,-10<=z->z<=1000010->Builtin.Range.rangeFitsLong z=true:=λz h1 h2=>by
  unfold Builtin.Range.rangeFitsLong;simp;lia
 unfold Builtin.Range.small;rw[wj];simp[g (n-1) (by lia) (by lia),g n _ (by lia),g (-1) _ _]
def iDown(ta:TA):TI:=λσ H R=>ta σ H λvs H1=>∃n:Nat,vs=[.int ((n:Int)-1),.int (-1),.int (-1)]/\n<=1000000/\R (Itn n) H1
def Zm3  {t:TA} {tg a b c:Av} (Y:Gl X "range") (Z:X.mg "range" = none) (ha:QA X [a,b,c] t) (hp:Ya a=true:=by rfl) (O:Ya b=true:=by rfl) (G:Ya c=true:=by rfl):QI X tg (.Call (.Name "range" p) [a,b,c] [] l) (iDown t):=by
 refine⟨λpins s σ H R I h=>?_⟩;refine Call_ (Jr I Y Z boot_range (Qb5 (thn (ha.out l pins s σ H _ I h) λus C ⟨vs,H1,I1,r1,q1⟩=>?_) (Zy hp) (by rw[Zy O,Zy G];rfl)));obtain⟨n,e,hn,q⟩:=q1;subst e;cases r1 with
 |cons r g=>
 cases g with
 |cons r' g=>
 cases g with
 |cons J g=>
 cases g;obtain⟨t,rfl⟩:=r;obtain⟨t',rfl⟩:=r';obtain⟨Q,rfl⟩:=J;refine call_range_3 (by decide) ?_ (Or.inl (PyProof.noPylong_small (by decide)));refine wpAny_pyIter_range (IsRange.new ..) (small_down hn) ?_;have D:Inv X pins σ H1 {C with heap:=C.heap.push {cls:=.type "range",data:=.fields #[.int ((n:Int)-1) t,.int (-1) t',.int (-1) Q]},toks:=C.toks}:=I1.kept λb o e=>Qab _ e;generalize C.heap.push _=F at D ⊢;refine⟨F.objs.size,[F.objs.size],_,_,H1,U,D.kept (t':=C.toks) λb o e=>Qab _ e,Zfh _ n,?_,λb hb=>?_,q⟩
 .rw[wj,show(n:Int)-1+((0:Nat):Int)*(-1)=(n:Int)-1 by lia];exact Qao _ U
 .have e:b=F.objs.size:=by simpa using hb
  subst e;exact D.fpOk (Qai _) (D.hok.fresh (Qai _))
theorem Zil{g:TG}(q:Nat->St->Hp->Prop)(F:q 0 c H)
  (I:∀i c H,i<n->q i c H->g (.int ((n:Int)-1-i)) c H λC H2=>B {G with nx:=q (i+1),ct:=q (i+1),bk:=G.nx} C H2) (D:∀c H,q n c H->G.nx c H):
  Zho (Itn n) g B G c H:=
 zr n q F (λi c H hi p=>⟨hi,λx H' ⟨e,y⟩=>by grind⟩) λc H p=>⟨Qai _,D c H p⟩
def iDictF(te:TE):TI:=λσ H R=>te σ H λx H1=>∃a kvs,x=.ref a/\Rd H1 a (.dK kvs)/\∀o,(∀u,H1 a=some (.frz u (.dK kvs))->u=o)->R (Itd a o kvs) (upd H1 a (.frz o (.dK kvs)))
def Zaw{X:Cx}{tg:Av}(he:QE X e A):QI X tg e (iDictF A):=by
 refine⟨λpins s σ H R I h=>?_⟩;refine thn (he.out pins s σ H _ I h) λv O ⟨y,H1,Y,r1,q1⟩=>?_;obtain⟨a,kvs,rfl,e,q⟩:=q1;cases r1;obtain⟨z,nm,vs,D,dd⟩:=jI Y.hok e;obtain⟨o,es,ep,C,F,g,hk,hp,Z⟩:=id dd;have Q:=Y.freeze e C;have G:=Qav C;have J:O.heap.DictAt _ a vs ep:=⟨o,es,C,F,g,hk,hp,Z⟩;refine wpAny_pyIter_dict nm J ?_;have st:(O.heap.push {cls:=.type "dict_keyiterator",data:=.fields #[.ref a,.int 0 0,.int vs.length 0,.int ep 0]}).IsKeyIter O.heap.objs.size a 0 kvs.length ep:=by
  rw[D.length];exact⟨_,Qao _ U,U,U⟩
 refine⟨_,_,_,_,_,U,Q.kept λb o e=>Qab _ e,Zey a _ o kvs ep ⟨es,g⟩ (Qbc G),st,λb hb=>?_,q o λu hu=>?_⟩
 .have e:=by simpa using hb
  subst e;exact Q.fpOk (Qai _) (Q.hok.fresh (Qai _))
 .have z:=Y.hok a _ hu;obtain⟨z1,_⟩:=z;exact Option.some.inj (z1.symm.trans C)
end L2
namespace L2
open AutoSeq1 (wpAny_loadPart')
section
variable {prog:An}{w:Ar}{A:Ao}{E:Ab}{s:Aq}
def Zm4{l b:Au}{xs ys:Ah}(hl:s.heap.IsTuple l xs)(hb:s.heap.IsTuple b ys)(hu:A.units<cLine)(hz:xs.size=ys.size)
  (he:∀p∈xs.toList.zip ys.toList,∀(E:Ab)(Q:Bool->Shared->Prop),Q true s->wpAny (model prog w) A.in1 (eqBool p.1 p.2) Q E s) (h:Q (.bool true) s):
  wpAny (model prog w) A (compareOp .Eq (.ref l) (.ref b)) Q E s:=by
 obtain⟨⟨cls,dd,data,sl⟩,J,C,n,Z⟩:=id hl;obtain⟨⟨Y,dd2,data2,sl2⟩,I,G,n2,D⟩:=id hb;simp only at C Z G D;subst C Z G D;refine wpAny_richCompare_same_room (op:=.Eq) ⟨_,J,U⟩ ⟨_,I,U⟩ Qgf (Qbo Qgf ⟨_,J,U⟩ F.entry_tuple_eq ?_ (F.args_tuple_eq_2 _ _)) hu;obtain⟨hp,g,d,tk,os⟩:=s;have f2:=AutoSeq1.sub_tuple_tuple
 wp_walk using wpAny_loadPart' J,wpAny_loadPart' I,wpAny_forIn_list _ (λrest c s'=>c.1=none/\s'=⟨hp,g,d,tk,os⟩/\∀p∈rest,p∈xs.toList.zip ys.toList) _
 case turn=>
  rintro⟨y,x⟩ rest c s' ⟨C,rfl,O⟩;refine Qaa (he _ (O _ Qam) _ _ ?_)
  wp_walk
  exact⟨U,U,λp q=>O p (Qak _ q)⟩
 case fin=>
  rintro⟨c1,c2⟩ s' ⟨C,rfl,_⟩;simp only at C;subst C
  wp_walk
  exact⟨_,U,(λz=>nomatch z),by simpa[Builtin.Tuple.tupleCompareSizes,hz]using h⟩
 case h=>exact⟨U,U,λ_ q=>q⟩
end
def EqY(H:Hp)(x y:V):Prop:=(Wm x=true/\x=y)\/(∃a,x=.ref a/\y=.ref a)\/∃a c kvs kws,x=.ref a/\y=.ref c/\Rd H a (.dK kvs)/\Rd H c (.dK kws)/\kvs.length=kws.length/\∀p∈kvs,Yp kws p.1=some p.2/\Wm p.2=true
def eqY_at{pins:Ac}{σ:St}{A:Ao}{E:Ab}{Q:Bool->Shared->Prop}(I:Inv X pins σ H s){x:V}{u:As}(C:RelV x v)(D:RelV y u)(Y:A.units<cLine)(h:EqY H x y)(q:Q true s):A1 X.prog X.w A (eqBool v u) Q E s:=by
 rcases h with⟨f,rfl⟩|⟨a,rfl,rfl⟩|⟨a,c,kvs,kws,rfl,rfl,ha,Z,hl,G⟩
 .have z:=Zd8 (A:=A) (s:=s) C D f f;rw[Zaj f]at z;exact z _ _ _ _ q
 .cases C;cases D;exact Qga _ _ _ _ _ q
 .cases C;cases D
  by_cases g:a=c
  .subst g;exact Qga _ _ _ _ _ q
  obtain⟨za,na,va,F,da⟩:=jI I.hok ha;obtain⟨zb,O,vb,J,db⟩:=jI I.hok Z;refine Qch (wpAny_ite_split (λz=>absurd (by grind) g) λ_=>Qaa ?_);refine PySem.W.keq_eq na O da db Y (λ_=>kT J F (λp m=>(G p m).1) λp m=>(G p m).2) (Qc5 ?_);rw[show va.length=vb.length by rw[<-F.length,<-J.length,hl],Qde];exact q
def rEqY(K:Af):R2:=λx y H Q=>∃(a c:Au)(xs ys:A0),x=.ref a/\y=.ref c/\SqT K H a xs/\SqT K H c ys/\xs.length=ys.length/\(∀(j:Nat)(u v:V),xs[j]?=some u->ys[j]?=some v->EqY H u v)/\Q (.bl true) H
def op_eqY(hu:X.A.units+4<cLine):OpR X (compareOp .Eq) (rEqY X.K):=by
 intro pins s σ H x y v u Q I rx ry h;obtain⟨a,c,xs,ys,rfl,rfl,ha,hc,Z,he,q⟩:=h;cases rx;cases ry;obtain⟨D,r,p,_⟩:=I.tuple ha;obtain⟨g,J,p2,_⟩:=I.tuple hc;refine Zm4 p p2 (by lia) (by rw[Qb8,Qb8,<-r.length,<-J.length,Z]) (λz hz E' Q' q'=>?_) ⟨.bl true,H,I,U,q⟩;obtain⟨j,hj⟩:=Qcp hz;obtain⟨C,F⟩:=Qc3.mp hj;obtain⟨w1,e1,G⟩:=Zkr r (j:=j) (Qah.mp C).1;obtain⟨w2,e2,O⟩:=Zkr J (j:=j) (Qah.mp F).1;have Y:D.toArray[j]'(Qah.mp C).1=z.1:=(Qah.mp C).2;have d2:g.toArray[j]'(Qah.mp F).1=z.2:=(Qah.mp F).2;rw[Y]at G;rw[d2]at O;exact eqY_at I G O (by lia) (he j _ _ e1 e2) q'
end L2
namespace Lw
open PySem L2
def top(i:Nat):Aw:=PySem.Challenge.pw_everywidth_k25_whole_judged_by_all_words.main.body.getD i (.Pass ⟨0,0,0,0⟩)
abbrev y8:Aw:=top 1
abbrev zF:Aw:=top 2
abbrev Zpp:Aw:=top 7
abbrev J7:Aw:=top 12
abbrev YV:Aw:=top 13
abbrev zG:Aw:=top 15
abbrev Gk:Aw:=top 18
abbrev qa:Aw:=top 25
abbrev J8:Aw:=top 26
abbrev qb:Aw:=top 27
abbrev J9:Aw:=top 28
abbrev JA:Aw:=top 30
abbrev zH:Aw:=top 36
abbrev y9:Aw:=top 40
abbrev qc:Aw:=top 42
abbrev X0:Aw:=top 46
abbrev zI:Aw:=top 47
abbrev xu:Aw:=top 53
abbrev qX:Aw:=top 54
abbrev Xc:Aw:=top 55
abbrev zJ:Aw:=top 57
abbrev qd:Aw:=top 58
abbrev qe:Aw:=top 59
abbrev yA:Aw:=top 61
abbrev yB:Aw:=top 62
abbrev WH:Aw:=top 63
abbrev wm:Aw:=top 65
abbrev wo:Aw:=top 66
abbrev Gm:Aw:=top 68
abbrev xw:Aw:=top 69
abbrev Wi:Aw:=top 73
abbrev JB:Aw:=top 75
abbrev yC:Aw:=top 78
abbrev qY:Aw:=top 8
abbrev YL:Aw:=top 14
abbrev yD:Aw:=top 29
abbrev wq:Aw:=top 31
abbrev Wj:Aw:=top 37
abbrev zK:Aw:=top 39
abbrev qf:Aw:=top 41
abbrev WI:Aw:=top 60
abbrev wt:Aw:=top 64
abbrev zL:Aw:=top 67
abbrev Gn:Aw:=top 71
abbrev wu:Aw:=top 74
abbrev Wq:Aw:=top 11
abbrev WJ:Aw:=top 33
abbrev qZ:Aw:=top 49
abbrev XX:Aw:=top 70
abbrev Jd:Aw:=top 72
abbrev zM:Aw:=top 76
abbrev X9:Aw:=top 10
abbrev wx:Aw:=top 38
abbrev Gp:Aw:=top 77
abbrev XN:Aw:=top 17
abbrev Yd:Aw:=top 45
abbrev YM:Aw:=top 52
abbrev xx:Aw:=top 44
abbrev yE:Aw:=top 51
abbrev Zm5:Aw:=top 79
def Z2:Pos:=⟨196,4,200,77⟩
def Zz:Str:=(("machine_telling" : Str) ++ ".<locals>.") ++ "step_of"
abbrev YW:Aw:=(Xy Yd).getD 3 (.Pass ⟨0,0,0,0⟩)
def Z5:Pos:=⟨216,42,216,113⟩
def Z6:Str:=(("machines_compared" : Str) ++ ".<locals>.") ++ "<lambda>"
def Zd{p:Au}{o:HO}(h:H p=none):ZD H (upd H p o):=λb u e=>by rw[Zm (Zq e h)];exact e
def XA(w:Nat):(0:Int)<2^w:=by
 have h2:(2^w)=((2^w):Int):=by rfl
 have:=Qhf w;rw[h2];lia
def pow_succ'(w:Nat):(2:Int)^(w+1)=2^w*2:=Qfu 2 w
def jM(w:Nat)(r:Int):Ak:=(List.range w).map λi=>r/2^i%2
def ua{t u:TS}{r:VK}{b c:Az}{σ:L2.St}(J:Az)(h1:∀N:Az,(∀σ H,J σ H->N σ H)->t {G with nx:=N} σ H)(h2:∀σ H,J σ H->u G σ H):({nx:=Yt t u G,rt:=r,bk:=b,ct:=c}:Ends).nx σ H:=h1 _ h2
def Zh{v:V}{Q:Az}(h:Q (c.set i (some v)) H):GH i v c H Q:=h
def Zax{P:g->Prop}{l:List g}{y:g}(h:∀x∈l,P x)(q:P y):∀x∈l++[y],P x:=by grind
theorem ZV{p:Au}{o:HO}(s:ZD H d)(g:H p=none):ZD H (upd d p o):=λb u e=>by
 rw[Zm (Zq e g)];exact s b u e
def Z8{ns:Ak}(j:Nat)(hz:z=(j:Int))(g:j<ns.length):atI (ns.map V.int) z=some (.int (ns.getD j 0)):=by
 subst hz;refine Yb ?_;rw[Qal,Qat,Qad g];rfl
def Zm6{ns:Ak}{m:Int}(h:∀x∈ns,0<=x/\x<m)(j:Nat)(g:j<ns.length):0<=ns.getD j 0/\ns.getD j 0<m:=by
 rw[Qat,Qad g];exact h _ (Qck g)
def ub{z:Str}{i:Int}(n:Nat)(q:z.cps.toList.length=n)(C:0<=i)(h1:i<(n:Int)):∃c,c∈z.cps.toList/\atI z.cps.toList i=some c:=by
 obtain⟨j,rfl⟩:∃j:Nat,i=j:=⟨i.toNat,by lia⟩;have g:j<z.cps.toList.length:=by lia
 exact⟨_,Qck g,Yb (Qad g)⟩
def zh{ys:Ai}{i:Int}(q:0<=i)(h1:i<(ys.length:Int)):∃y,y∈ys/\atI (ys.map V.str) i=some (.str y):=by
 obtain⟨j,rfl⟩:∃j:Nat,i=j:=⟨i.toNat,by lia⟩;have g:j<ys.length:=by lia
 refine⟨ys[j],Qck g,Yb ?_⟩;rw[Qal,Qad g];rfl
theorem uc{P:Str->Prop}:∀{vs:A0},(∀v∈vs,∃y,v=.str y/\P y)->∃ys:Ai,vs=ys.map V.str/\∀y∈ys,P y
 |[],_=>⟨[],U,λ_ h=>nomatch h⟩
 |v::r,h=>by
  obtain⟨y,rfl,C⟩:=h v Qam;obtain⟨ys,rfl,g⟩:=uc λv q=>h v (Qak _ q);refine⟨y::ys,U,λz hz=>?_⟩;rcases Qaw.mp hz with rfl|hz
  .exact C
  .exact g z hz
def jN(xs:List g)(lo hi:Option Int):List g:=(xs.drop (HT.sIx xs.length 0 lo)).take (HT.sIx xs.length xs.length hi-HT.sIx xs.length 0 lo)
def Xq(f:g->V)(xs:List g)(lo hi:Option Int):qK (xs.map f) lo hi=(jN xs lo hi).map f:=by
 unfold qK jN;rw[Qac,Qe6,Qfi]
def zN(xs:List g)(k:Nat):(jN xs none (some (k:Int)))=xs.take k:=by
 unfold jN;rw[HT.sIx_none,HT.sIx_nat,Qdm,Qgn,<-List.take_take,Qbb]
def wy(xs:List g)(k:Nat):(jN xs (some (k:Int)) none)=xs.drop k:=by
 unfold jN;rw[HT.sIx_none,HT.sIx_nat,Qbv (by simp)]
 by_cases h:k<=xs.length
 .rw[Qdq h]
 .rw[Nat.min_eq_right (by lia),Qe8,List.drop_eq_nil_of_le (by lia)]
def zP(xs:List g)(j k:Nat)(h:j<=xs.length):(jN xs (some (j:Int)) (some (k:Int)))=(xs.drop j).take (k-j):=by
 unfold jN;rw[HT.sIx_nat,HT.sIx_nat,Qdq h]
 by_cases q:k<=xs.length
 .rw[Qdq q]
 .rw[Nat.min_eq_right (by lia),Qbv (by rw[Qbn];lia),Qbv (by rw[Qbn];lia)]
def wz{p:Au}{xs:A0}{lo hi:Option Int}(h:H p=some (.tup xs))(k:∀q H',H' q=some (.tup (qK xs lo hi))->ZD H H'->C (.ref q) H'):
  rSlT K (.ref p) lo hi H C\/rSlW K (.ref p) lo hi H C:=by
 by_cases w:HT.sIx xs.length 0 lo=0/\HT.sIx xs.length xs.length hi=xs.length
 .refine .inr ⟨p,xs,U,SqT.of h,w,k p H ?_ (ZD.refl H)⟩;rw[h];unfold qK;rw[w.1,w.2,Qdm,Qgn,Qbb]
 .exact .inl ⟨p,xs,U,SqT.of h,w,λq g=>k q _ Zb (Zd g)⟩
def w6{lo:Int}{is:Aj}(P:Nat->V->Prop)(hz:n<=sizeLine)
  (g:∀i,i<n->∀R:VK,(∀v,P i v->R v H)->A (xJ is c (some (.int (lo+i)))) H R)
  (I:∀vs:A0,vs.length=n->(∀i v,vs[i]?=some v->P i v)->∀l,H l=none->C (.ref l) (upd H l (.lst vs))):Gb is Zhv A c C (Itr lo n) H:=by
 refine qM (λi zs H'=>i<=n/\zs.length=i/\(∀j v,zs[j]?=some v->P j v)/\H'=H) ⟨Qbj _,U,λj v h=>by simp at h,U⟩ ?_ ?_ ?_
 .grind
 .rintro i zs H' R hR hi ⟨_,q,F,rfl⟩;refine g i hi _ λv D=>hR _ _ ⟨hi,by grind,λj u J=>?_,U⟩
  by_cases G:j<zs.length
  .grind
  .grind
 .grind
def mem_at{vs:A0}{P:V->Prop}(h:∀(i:Nat)(v:V),vs[i]?=some v->P v):∀v∈vs,P v:=by
 intro v g;obtain⟨i,hi,rfl⟩:=Qgc g;exact h i _ (Qad hi)
def fI(g:Int->V):V->V
 |.int x=>g x
 |v=>v
def map_fI(g:Int->V)(ns:Ak):(ns.map V.int).map (fI g)=ns.map g:=by
 rw[Qb7];rfl
def Yn(a b:Str):(a++b).cps.toList=a.cps.toList++b.cps.toList:=by
 rw[PySem.Str.cps_append,Array.toList_append]
def len_signs(a:Str):a.length=a.cps.toList.length:=by
 unfold Str.length;rw[Qb6]
def Zim{j:Nat}(h:j<=x.length):(Txt.slice x none (some (j:Int))).cps.toList=x.cps.toList.take j:=by
 have e:=beq_iff_eq.mp (PyProof.Rows.slice_closes_to (x:=x) (j:=j) ⟨by lia,by rw[<-len_signs];lia⟩);rw[e];simp
def Zb9(h:i<=x.length):(Txt.slice x (some (i:Int)) none).cps.toList=x.cps.toList.drop i:=by
 rw[PyProof.Rows.slice_from_eq (by lia) (by lia) U];simp;rw[Qbv (by rw[Qbn,<-len_signs];lia)]
theorem Zca(g:Str)(q:g.cps=#[]):∀ys:Ai,(Txt.join g ys).cps.toList=(ys.map (·.cps.toList)).flatten:=by
 intro ys;show(Builtin.Str.glued g ys).cps.toList=_;rw[StrLaws.glued_eq_join]
 induction ys with
 |nil=>rfl
 |cons x r C=>
  cases r with
  |nil=>
   show x.cps.toList=_;simp
  |cons y r=>
   show(x++g++Str.join g _).cps.toList=_;rw[Yn,Yn,C,q];simp
theorem Zfi{ys:Ai}{P:Nat->Prop}(h:∀y∈ys,∃c,y=⟨#[c]⟩/\P c):(ys.map (·.cps.toList)).flatten.length=ys.length/\(∀c∈(ys.map (·.cps.toList)).flatten,P c)/\(ys.map (·.length)).sum=ys.length:=by
 induction ys with
 |nil=>exact⟨U,λc h=>absurd h (Qbq),U⟩
 |cons y r q=>
  obtain⟨c,rfl,C⟩:=h _ Qam;obtain⟨h1,h2,g⟩:=q λz hz=>h z (Qak _ hz);refine⟨?_,?_,?_⟩
  .grind
  .grind
  .rw[Qb1,List.sum_cons,g];show 1+r.length=r.length+1;lia
def Zqb:Str:= "abcdefghijklmnopqrstuvwxyz"
def Low(c:Nat):Prop:=c∈Zqb.cps.toList
instance (c:Nat):Decidable (Low c):=inferInstanceAs (Decidable (c∈_))
def YA:Ai:=["not","neg","twice","low","and","or","odd","add","sub","pick","same","under","beneath","sign","nought","both","either","so","never","yes"]
def NmL(y:Str):Prop:=(1<=y.length/\y.length<=8)/\∀c∈y.cps.toList,Low c
instance (y:Str):Decidable (NmL y):=inferInstanceAs (Decidable (_/\_))
structure NmS(y:Str):Prop where
 l:NmL y
 k:y∉YA
theorem ZO(y:Str):∀ys:Ai,inV (.str y) (ys.map V.str)=decide (y∈ys)
 |[]=>rfl
 |z::r=>by
  have e:inV (.str y) ((z::r).map V.str)=((z == y)||inV _ _):=rfl;rw[e,ZO y r]
  by_cases h:z=y
  .grind
  .grind
def Zfj(ys:Ai):(ys.map V.str).all Wm=true:=by
 rw[List.all_map];exact Qc4.mpr λ_ _=>U
def Zfk{c:TT}{σ:L2.St}(q:Az)(μ:L2.St->Hp->Nat)(F:q σ H)
  (D:∀σ H,q σ H->c σ H λb H1=>if b=true then∃N:Az,(∀g H',N g H'->∃C,C<μ σ H/\C=μ g H'/\q g H')/\B {G with nx:=N,ct:=N,bk:=G.nx} σ H1 else G.nx σ H1):Zdi c B G σ H:=by
 refine⟨λm σ H=>m=μ σ H/\q σ H,⟨_,U,F⟩,?_⟩;rintro m σ H ⟨rfl,p⟩;exact D σ H p
def Zay(ys:Ai)(v:V):Prop:=(∃y∈ys,v=.str y)\/∃z:Int,v=.int z/\0<=z/\z<1000
def sumT:List (Str×Nat):=[("not",1),("neg",1),("twice",1),("low",1),("and",2),("or",2),("odd",2),("add",2),("sub",2),("pick",3)]
def Gd:Ai:=sumT.map (·.1)
def Ys(y:Str):Nat:=((sumT.find? λp=>decide (p.1=y)).map (·.2)).getD 0
def partsV:V->Nat
 |.str y=>Ys y
 |_=>0
def WordOk(ys:Ai)(v:V):Prop:=(∃y,v=.str y/\y∈Gd)\/Zay ys v
def T1:List (Str×Int):=[("not",1),("neg",1),("twice",1),("low",1),("and",2),("or",2),("odd",2),("add",2),("sub",2),("pick",3)]
def T2:List (Str×Int):=[("same",2),("under",2),("beneath",2),("sign",1),("nought",1)]
def T3:List (Str×Int):=[("both",2),("either",2),("so",2),("never",1),("yes",0)]
def zQ:Ai:=["same","under","beneath","sign","nought","both","either","so","never","yes"]
theorem Zkt(l:List (Str×Int))(y:Str):(Yp (kvsOf l) (.inr y)).isSome=decide (y∈l.map (·.1)):=by
 induction l with
 |nil=>rfl
 |cons p r g=>
  by_cases h:p.1=y
  .have e:Yp (kvsOf (p::r)) _=some _:=Yl (p:=((Sum.inr p.1),V.int p.2)) (by rw[h]);rw[e,Qar (by grind)];rfl
  .have e:Yp (kvsOf (p::r)) _=Yp (kvsOf r) _:=Yg (λz=>h (Sum.inr.inj z))
   by_cases m:y∈r.map (·.1)
   .grind
   .grind
def GG:List (Str×Int)->Key->Int
 |[],_=>0
 |p::r,k=>if(Sum.inr p.1:Key)=k then p.2 else GG r k
theorem kget(l:List (Str×Int))(k:Key):(Yp (kvsOf l) k).getD (.int 0)=.int (GG l k):=by
 induction l with
 |nil=>rfl
 |cons p r g=>
  unfold GG
  by_cases h:(Sum.inr p.1)=k
  .have e:Yp (kvsOf (p::r)) k=some _:=Yl h;rw[e,Qa9 h];rfl
  .have e:Yp (kvsOf (p::r)) k=Yp (kvsOf r) k:=Yg h;rw[e,g,Qa6 h]
theorem zR{l:List (Str×Int)}{y:Str}(h:y∉l.map (·.1)):GG l (.inr y)=0:=by
 induction l with
 |nil=>rfl
 |cons p r g=>
  unfold GG;rw[Qa6 (λz=>h (by grind)),g (λz=>h (Qak _ z))]
def WK(k:Key):Int:=GG T1 k+GG T2 k+GG T3 k
def tw1:T1.map (·.1)=Gd:=by decide +kernel
def ud:∀y,y∈YA↔y∈Gd\/y∈zQ:=by
 intro y;have e:YA=Gd++zQ:=by decide +kernel
 rw[e,Qa7]
def keyOf:V->Key
 |.int i=>.inl i
 |.str y=>.inr y
 |_=>.inl 0
def Zm7(x:Str)(c:Nat):(!(Builtin.Str.occurrences x ⟨#[c]⟩ 0 x.length 1).isEmpty)=decide (c∈x.cps.toList):=by
 have h:=PyProof.Rows.in_closes (x:=x) (c:=c) U rfl;rw[beq_iff_eq]at h;rw[h]
 by_cases m:c∈x.cps.toList
 .rw[Qar m,Qar ((PyProof.Rows.countIn_signs c _).mpr m)]
 .rw[Qan m,Qan (λz=>m ((PyProof.Rows.countIn_signs c _).mp z))]
def yF(y g:Str):Prop:=y.cps.toList≠[]/\∀c∈y.cps.toList,c∈g.cps.toList
instance (y sg:Str):Decidable (yF y sg):=inferInstanceAs (Decidable (_/\_))
def all_bs(l:Aj)(p:Nat->Bool):(l.map p).all id=decide (∀c∈l,p c=true):=by
 rw[Qd2,Qc4,Qb9];constructor
 .intro h c g;exact h _ (Qcw g)
 .grind
def zS {y:Str}:y.cps.toList=[]↔y=("" : Str):=by
 constructor
 .intro h;obtain⟨a⟩:=y;have:a=#[]:=by
   grind
  subst this;decide +kernel
 .rintro rfl;decide +kernel
def nmB:V->Bool
 |.str y=>decide (y∉YA/\NmL y)
 |_=>false
def Zol:V->Str
 |.str y=>y
 |_=> ""
def w9(w:V):Prop:=(∃y,w=.str y/\y.length<=1000)\/∃z,w=.int z
theorem Zfl(ys:Ai):(Jp ys).length<=ys.length:=by
 have h:∀(ys S:Ai),(ys.foldl ins S).length<=S.length+ys.length:=by
  intro ys
  induction ys with
  |nil=>intro S;exact Qai _
  |cons y r g=>
   intro S;have h1:=g (ins S y);have h2:(ins S y).length<=S.length+1:=by
    unfold ins;split
    .lia
    .grind
   rw[Qfj,Qb3];lia
 have:=h ys [];rw[Qey,Qhg]at this;exact this
def Zm8(g:A0):((g.filter nmB).map Zol).map V.str=g.filter nmB:=by
 rw[Qb7];refine(Qci λw hw=>?_).trans (List.map_id _);have h:=(Qct.mp hw).2;cases w with
 |str y=>rfl
 |_=>cases h
theorem vt{y:Str}:∀{g:A0},inV (.str y) g=true↔V.str y∈g
 |[]=>⟨(λh=>nomatch h),(λh=>nomatch h)⟩
 |w::r=>by
  have e:inV _ (w::r)=(eqV w _||inV (.str y) r):=rfl;have h1:eqV w (.str y)=true↔V.str y=w:=by
   cases w with
   |str z=>
    show(z == y)=true↔_;rw[beq_iff_eq];exact⟨λh=>by rw[h],λh=>by grind⟩
   |_=>exact⟨(λh=>nomatch h),(λh=>nomatch h)⟩
  rw[e,Bool.or_eq_true,h1,vt,Qaw]
def WB(ys:Ai):Bool->V->Prop
 |true,w=>∃y,w=.str y/\y∈zQ
 |false,w=>WordOk ys w
def nSum(w:V):Nat:=(GG T1 (keyOf w)+GG T2 (keyOf w)).toNat
def nClm(w:V):Nat:=(GG T3 (keyOf w)).toNat
def nextK(w:V):List Bool:=List.replicate (nSum w) false++List.replicate (nClm w) true
inductive Zpq(ys:Ai):List Bool->List V->List Bool->Prop
 |nil {ls:List Bool}:Zpq ys ls [] ls
 |cons {ls e:List Bool} {b:Bool} {w:V} {r:A0}:WB ys b w->Zpq ys (ls++nextK w) r e->Zpq ys (ls++[b]) (w::r) e
theorem ue{l:List (Str×Int)}(h:∀p∈l,0<=p.2/\p.2<=3)(k:Key):0<=GG l k/\GG l k<=3:=by
 induction l with
 |nil=>exact⟨Qhk _,(by decide:(0:Int)<=3)⟩
 |cons p r g=>
  unfold GG;split
  .exact h p Qam
  .grind
def T1_bd(k:Key):0<=GG T1 k/\GG T1 k<=3:=ue (by decide +kernel) k
def T2_bd(k:Key):0<=GG T2 k/\GG T2 k<=3:=ue (by decide +kernel) k
def T3_bd(k:Key):0<=GG T3 k/\GG T3 k<=3:=ue (by decide +kernel) k
def npw(w:V):Nat:=(WK (keyOf w)).toNat
def zT(k:Key):0<=WK k/\WK k<=9:=by
 have h1:=T1_bd k;have h2:=T2_bd k;have g:=T3_bd k;unfold WK;lia
def Zm9(h:i<u.length):(u.drop i).reverse=(u.drop (i+1)).reverse++[u[i]]:=by simp
def JC(l:A0)(y:V):(l++[y])[(l++[y]).length-1]?=some y:=by grind
def Zku{x:V}(h:u.reverse[i]?=some x):i<u.length/\u[u.length-1-i]?=some x:=by grind
def LsAt(ys:Ai)(g:A0)(ls:Nat->List Bool):Prop:=ls g.length=[]/\∀i x,g[i]?=some x->∃q b,ls i=q++[b]/\WB ys b x/\ls (i+1)=q++nextK x
theorem Zpq.at{ys:Ai}{a e:List Bool}{q:A0}(h:Zpq ys a q e)(D:e=[]):∃ls,LsAt ys q ls/\ls 0=a:=by
 induction h with
 | @nil ls=>
  subst D;exact⟨λ_=>[],⟨U,λi x g=>by simp at g⟩,U⟩
 | @cons C e b w r hw _ F=>
  obtain⟨ls,⟨h1,h2⟩,G⟩:=F D;refine⟨λi=>match i with|0=>C++[b]|i+1=>ls i,⟨h1,λi x g=>?_⟩,rfl⟩;cases i with
  |zero=>
   have:w=x:=by grind
   subst this;exact⟨C,b,U,hw,G⟩
  |succ i=>exact h2 i x (by grind)
def Zqc (y:Str) (a:Int):Int:=if y = "not" then Builtin.bitNot a else if y = "neg" then -a else if y = "twice" then a+a else Builtin.bitAnd a (-a)
def Zqd (y:Str) (a b:Int):Int:=if y = "and" then Builtin.bitAnd a b else if y = "or" then Builtin.bitOr a b else if y = "odd" then Builtin.bitXor a b else if y = "add" then a+b else a-b
def wwv(ρ:Str->Int):V->List Int->Int
 |.int z,_=>z
 |.str y,[]=>ρ y
 |.str y,[a]=>Zqc y a
 |.str y,[a,b]=>Zqd y a b
 |.str _,a::b::c::_=>Builtin.bitOr (Builtin.bitAnd a b) (Builtin.bitAnd (Builtin.bitNot a) c)
 |_,_=>0
def clK:Key->Bool
 |.inr y=>decide (y∈zQ)
 |.inl _=>false
def Zpr(m n:Nat):(m &&& n)/2=m/2 &&& n/2/\(m &&& n)%2=m%2*(n%2):=by
 refine⟨Nat.and_div_two_pow (n:=1),?_⟩;have h:=Nat.and_mod_two_pow (a:=m) (b:=n) (n:=1);rw[h];rcases Qcz m with e|e<;>rcases Qcz n with f|f<;>rw[e,f]<;>rfl
def n_or(m n:Nat):(m ||| n)/2=m/2 ||| n/2/\(m ||| n)%2=m%2+n%2-m%2*(n%2):=by
 refine⟨Nat.or_div_two_pow (n:=1),?_⟩;have h:=Nat.or_mod_two_pow (a:=m) (b:=n) (n:=1);rw[h];rcases Qcz m with e|e<;>rcases Qcz n with f|f<;>rw[e,f]<;>rfl
def bA_pp(m n:Nat):Builtin.bitAnd m n=((m &&& n:Nat):Int):=by
 rfl
def Zaz(n:Nat):¬(0:Int)<=-(n:Int)-1:=by lia
def Za0(n:Nat):(Builtin.bitNot (-(n:Int)-1)).toNat=n:=by
 unfold Builtin.bitNot;lia
def Zps(m n:Nat):Builtin.bitAnd m (-(n:Int)-1)=(m:Int)-((m &&& n:Nat):Int):=by
 unfold Builtin.bitAnd;rw[Qan (Zaz n)];rw[Za0];rfl
def Zna(m n:Nat):Builtin.bitAnd (-(m:Int)-1) n=(n:Int)-((n &&& m:Nat):Int):=by
 unfold Builtin.bitAnd;rw[Qan (Zaz m)];rw[Za0];rfl
def Zpt(m n:Nat):Builtin.bitAnd (-(m:Int)-1) (-(n:Int)-1)=-((m ||| n:Nat):Int)-1:=by
 unfold Builtin.bitAnd;rw[Qan (Zaz n),Qan (Zaz m)];rw[Za0,Za0];rfl
def vv(a:Int):(∃m:Nat,a=m)\/∃m:Nat,a=-(m:Int)-1:=by
 by_cases h:0<=a
 .exact .inl ⟨a.toNat,by lia⟩
 .exact .inr ⟨(-a-1).toNat,by lia⟩
def Zcb(a:Int):a%2=0\/a%2=1:=by lia
def sub2(m A:Int)(h:A%2=0\/m%2=1):(m-A)/2=m/2-A/2/\(m-A)%2=m%2-A%2:=by lia
def cast2(m:Nat):(m:Int)/2=((m/2:Nat):Int)/\(m:Int)%2=((m%2:Nat):Int):=⟨U,U⟩
def Zhe(x:Int):(-x-1)/2=-(x/2)-1/\(-x-1)%2=1-x%2:=by lia
def Zpu(m n:Nat):(((m &&& n:Nat):Int))/2=((m/2 &&& n/2:Nat):Int)/\(((m &&& n:Nat):Int))%2=(m:Int)%2*((n:Int)%2):=by
 rw[(cast2 _).1,(cast2 _).2,(Zpr m n).1,(Zpr m n).2];exact⟨U,U⟩
def take2(m n:Nat):((m:Int)-((m &&& n:Nat):Int))/2=((m/2:Nat):Int)-((m/2 &&& n/2:Nat):Int)/\((m:Int)-((m &&& n:Nat):Int))%2=(m:Int)%2*(1-(n:Int)%2):=by
 have l:=Zpu m n;have h:((m &&& n):Int)%2=0\/(m:Int)%2=1:=by
  grind
 have z:=sub2 _ _ h;rw[z.1,z.2,l.1,l.2];refine⟨U,?_⟩;rcases Zcb m with e|e<;>rcases Zcb _ with f|f<;>rw[e,f]<;>rfl
def Zom(a b:Int):Builtin.bitAnd a b/2=Builtin.bitAnd (a/2) (b/2)/\Builtin.bitAnd a b%2=a%2*(b%2):=by
 rcases vv a with⟨m,rfl⟩|⟨m,rfl⟩<;>rcases vv b with⟨n,rfl⟩|⟨n,rfl⟩
 .exact Zpu m n
 .rw[(cast2 m).1,(Zhe _).1,(Zhe _).2,(cast2 n).1,Zps,Zps];exact take2 m n
 .rw[(cast2 n).1,(Zhe _).1,(Zhe _).2,(cast2 m).1,Zna,Zna,Qfv];exact take2 n m
 .rw[(Zhe _).1,(Zhe _).2,(Zhe _).1,(Zhe _).2,(cast2 m).1,(cast2 n).1,Zpt,Zpt,(Zhe _).1,(Zhe _).2,(cast2 _).1,(cast2 _).2,(n_or m n).1,(n_or m n).2];refine⟨U,?_⟩;rw[(cast2 m).2,(cast2 n).2];rcases Qcz m with e|e<;>rcases Qcz n with f|f<;>rw[e,f]<;>rfl
def Zkv(a:Int):Builtin.bitNot a/2=Builtin.bitNot (a/2)/\Builtin.bitNot a%2=1-a%2:=by
 unfold Builtin.bitNot;lia
def or2(a b:Int):Builtin.bitOr a b/2=Builtin.bitOr (a/2) (b/2)/\Builtin.bitOr a b%2=1-(1-a%2)*(1-b%2):=by
 unfold Builtin.bitOr;have h:=Zom (Builtin.bitNot a) (Builtin.bitNot b);rw[(Zkv a).1,(Zkv b).1,(Zkv a).2,(Zkv b).2]at h;rw[(Zkv _).1,(Zkv _).2,h.1,h.2];exact⟨U,U⟩
def xor2(a b:Int):Builtin.bitXor a b/2=Builtin.bitXor (a/2) (b/2)/\Builtin.bitXor a b%2=(a%2+b%2)%2:=by
 unfold Builtin.bitXor;have h:=Zom a b;have g:=or2 a b;have q:Builtin.bitAnd a b%2=0\/Builtin.bitOr a b%2=1:=by
  rw[h.2,g.2];rcases Zcb a with e|e<;>rcases Zcb b with f|f<;>rw[e,f]<;>decide
 have z:=sub2 _ _ q;rw[z.1,z.2,h.1,h.2,g.1,g.2];refine⟨U,?_⟩;rcases Zcb a with e|e<;>rcases Zcb b with f|f<;>rw[e,f]<;>rfl
def zU(w:Nat)(n:Int):jM (w+1) n=n%2::jM w (n/2):=by
 unfold jM;rw[List.range_succ_eq_map,Qb1,Qb7,Qdy,Qcd];congr 1;refine Qci λi _=>?_;show n/2^(i+1)%2=n/2/2^i%2;rw[Qfu,Qfv,Qdx (by decide)]
theorem Zin(w:Nat)(n:Int):jM w (n%2^w)=jM w n:=by
 induction w generalizing n with
 |zero=>rfl
 |succ w q=>
  rw[zU,zU,<-q (n/2)];have e1:n%2^(w+1)%2=n%2:=by
   rw[Int.emod_emod_of_dvd];exact⟨2^w,by grind⟩
  have e2:n%2^(w+1)/2=n/2%2^w:=by
   have g:(0:Int)<2^w:=Qe9 (by decide);have h2:=Qdr (n/2) (2^w);have C:=Qbe (n/2) (Qem g);have D:=Qa5 (n/2) g;have e:n%2^(w+1)=n%2+2*(n/2%2^w):=by
    have:n=n%2+2*(n/2%2^w)+2^(w+1)*(n/2/2^w):=by grind
    conv=>lhs;rw[this]
    rw[Qdg];refine Qcn (by lia) ?_;lia
   rw[e];lia
  rw[e1,e2]
def bits_getD(w:Nat)(n:Int)(i:Nat)(h:i<w):(jM w n).getD i 0=n/2^i%2:=by
 unfold jM;rw[Qat,Qal,Qd6 h];rfl
theorem wA(w:Nat)(n:Int):(jM w n).foldr (λb t=>2*t+b) 0=n%2^w:=by
 induction w generalizing n with
 |zero=>rw[Qdy,Qhh];rfl
 |succ w q=>
  rw[zU,List.foldr_cons,q];have g:(0:Int)<2^w:=Qe9 (by decide);have h2:=Qdr (n/2) (2^w);have D:=Qbe (n/2) (Qem g);have C:=Qa5 (n/2) g;have:n=2*(n/2%2^w)+n%2+2^(w+1)*(n/2/2^w):=by
   grind
  conv=>rhs;rw[this]
  rw[Qdg];refine(Qcn (by lia) ?_).symm;lia
theorem Zfm{j:Nat}(h:i<=j):(2:Int)^i<=2^j:=by
 obtain⟨d,rfl⟩:∃d,j=i+d:=⟨j-i,by lia⟩;clear h
 induction d with
 |zero=>exact Qhk _
 |succ d g=>
  lia
def bt(x:Int)(k:Nat):Int:=x/2^k%2
def YX(x:Int)(k:Nat):bt x (k+1)=bt (x/2) k:=by
 unfold bt;rw[Qfu,Qfv,Qdx (by decide)]
def WL(x:Int)(k:Nat):bt x k=0\/bt x k=1:=by
 unfold bt;lia
theorem X4(k:Nat):∀a b:Int,bt (Builtin.bitAnd a b) k=bt a k*bt b k:=by
 induction k with
 |zero=>
  intro a b;unfold bt;rw[Qdy,Qcd,Qcd,Qcd,(Zom a b).2]
 |succ k g=>
  intro a b;rw[YX,YX,YX,(Zom a b).1,g]
theorem zV(k:Nat):∀a b:Int,bt (Builtin.bitOr a b) k=1-(1-bt a k)*(1-bt b k):=by
 induction k with
 |zero=>
  intro a b;unfold bt;rw[Qdy,Qcd,Qcd,Qcd,(or2 a b).2]
 |succ k g=>
  intro a b;rw[YX,YX,YX,(or2 a b).1,g]
theorem xy(k:Nat):∀a b:Int,bt (Builtin.bitXor a b) k=(bt a k+bt b k)%2:=by
 induction k with
 |zero=>
  intro a b;unfold bt;rw[Qdy,Qcd,Qcd,Qcd,(xor2 a b).2]
 |succ k g=>
  intro a b;rw[YX,YX,YX,(xor2 a b).1,g]
theorem zW(k:Nat):∀a:Int,bt (Builtin.bitNot a) k=1-bt a k:=by
 induction k with
 |zero=>
  intro a;unfold bt;rw[Qdy,Qcd,Qcd,(Zkv a).2]
 |succ k g=>
  intro a;rw[YX,YX,(Zkv a).1,g]
def xa(k:Nat):bt 0 k=0:=by
 unfold bt;rw[Int.zero_ediv];rfl
theorem Znb(k:Nat):bt (-1) k=1:=by
 induction k with
 |zero=>rfl
 |succ k g=>rw[YX];exact g
def Zkw(x:Int)(w k:Nat)(h:k<w):bt (x%2^w) k=bt x k:=by
 have e:=Zin w x;have h1:=bits_getD w (x%2^w) k h;have h2:=bits_getD w x k h;rw[e,h2]at h1;exact h1.symm
def lo(x:Int)(k:Nat):Int:=x%2^k
def Zio(x:Int)(k:Nat):0<=lo x k/\lo x k<2^k:=⟨Qbe _ (Qem (Qe9 (by decide))),Qa5 _ (Qe9 (by decide))⟩
def Zfn(x:Int)(k:Nat):lo x (k+1)=lo x k+2^k*bt x k:=by
 unfold lo bt;have g:(0:Int)<2^k:=Qe9 (by decide);have e1:=Qdr x (2^k);have C:=Qbe x (Qem g);have b1:=Qa5 x g;have e3:x=(x%2^k+2^k*(x/2^k%2))+2^(k+1)*(x/2^k/2):=by
  grind
 conv=>lhs;rw[e3]
 rw[Qdg];have q:x/2^k%2=0\/x/2^k%2=1:=by lia
 refine Qcn ?_ ?_
 .rcases q with h|h<;>rw[h]<;>lia
 .grind
def Znc(x:Int)(k:Nat):x=lo x k+2^k*(x/2^k):=(Qdr x _).symm
def bt_sum{x y:Int}{k:Nat}{c:Int}(q:c=0\/c=1)(e:lo z k+2^k*c=lo x k+lo y k)(hz:z=x+y):bt z k=(bt x k+bt y k+c)%2:=by
 have g:(0:Int)<2^k:=Qe9 (by decide);have e1:=Znc x k;have e2:=Znc y k;have e3:=Znc z k;have h:2^k*(z/2^k)=2^k*(x/2^k+y/2^k+c):=by grind
 have h2:=Int.eq_of_mul_eq_mul_left (Qem g) h;unfold bt;rw[h2];lia
def cyA(x y:Int)(k:Nat):Int:=(lo x k+lo y k)/2^k
def Zfo(x y:Int)(k:Nat):lo (x+y) k+2^k*cyA x y k=lo x k+lo y k:=by
 have e:lo (x+y) k=(lo x k+lo y k)%2^k:=by
  unfold lo;rw[<-Int.emod_add_emod,<-Int.add_emod_emod]
 rw[e];exact Qdr _ _
def Zfp(x y:Int)(k:Nat):cyA x y k=0\/cyA x y k=1:=by
 have g:(0:Int)<2^k:=Qe9 (by decide);have a:=Zio x k;have b:=Zio y k;have C:0<=cyA x y k:=Int.ediv_nonneg (by lia) (Qgo g);have q:cyA x y k<2:=Int.ediv_lt_of_lt_mul g (by lia);lia
def Zkx(x y:Int)(k:Nat):bt (x+y) k=(bt x k+bt y k+cyA x y k)%2:=bt_sum (Zfp x y k) (Zfo x y k) U
def Za1(x y:Int):cyA x y 0=0:=by
 unfold cyA lo;rw[Qdy,Qhh,Qhh];rfl
def Za2(x y:Int)(k:Nat):cyA x y (k+1)=(bt x k+bt y k+cyA x y k)/2:=by
 have g:(0:Int)<2^k:=Qe9 (by decide);have e1:=Zfn x k;have e2:=Zfn y k;have e3:=Zfo x y k;have b:=Zio (x+y) k;have e:lo x (k+1)+lo y (k+1)=lo (x+y) k+2^k*(bt x k+bt y k+cyA x y k):=by
  lia
 unfold cyA;rw[e,Qfu,<-Qdx (Qgo g),Qfw _ _ (Qem g),Qc1 b.1 b.2,Qfb];rfl
def brA(x y:Int)(k:Nat):Int:=if lo x k<lo y k then 1 else 0
def Za3(x y:Int)(k:Nat):brA x y k=cyA (x-y) y k:=by
 have e:=Zfo (x-y) y k;have b:=Zio (x-y) k;unfold brA;rcases Zfp _ y k with h|h<;>rw[h]at e ⊢
 .rw[Qa6 (by lia)]
 .rw[Qa9 (by lia)]
def Za4(x y:Int)(k:Nat):brA x y k=0\/brA x y k=1:=by
 unfold brA;split
 .exact .inr U
 .exact .inl U
def Zfq(x y:Int)(k:Nat):bt (x-y) k=(bt x k+bt y k+brA x y k)%2:=by
 have h:=Zkx (x-y) y k;rw[Int.sub_add_cancel,<-Za3]at h;have a:=WL (x-y) k;rw[h];lia
def Za5(x y:Int):brA x y 0=0:=by
 rw[Za3,Za1]
def Za6(x y:Int)(k:Nat):brA x y (k+1)=1-(1-(1-bt x k)*bt y k)*(1-brA x y k*(1-(bt x k+bt y k)%2)):=by
 rw[Za3,Za2,<-Za3,Zfq];rcases WL x k with a|a<;>rcases WL y k with b|b<;>rcases Za4 x y k with c|c<;>rw[a,b,c]<;>rfl
def nzA(x:Int)(k:Nat):Int:=brA 0 x k
def Zky(x:Int)(k:Nat):nzA x k=0\/nzA x k=1:=Za4 0 x k
def Ziq(x:Int):nzA x 0=0:=Za5 0 x
def Zir(x:Int)(k:Nat):nzA x (k+1)=1-(1-bt x k)*(1-nzA x k):=by
 unfold nzA;rw[Za6,xa];rcases WL x k with a|a<;>rcases Za4 0 x k with c|c<;>rw[a,c]<;>rfl
def Zkz(x:Int)(k:Nat):bt (-x) k=(bt x k+nzA x k)%2:=by
 have h:=Zfq 0 x k;rw[Int.zero_sub,xa,Qfb]at h;exact h
def bt_low(x:Int)(k:Nat):bt (Builtin.bitAnd x (-x)) k=bt x k*(1-nzA x k):=by
 rw[X4,Zkz];rcases WL x k with a|a<;>rcases Zky x k with c|c<;>rw[a,c]<;>rfl
def tw(x:Int):Nat->Int
 |0=>0
 |k+1=>bt x k
theorem tw_01(x:Int):∀k,tw x k=0\/tw x k=1
 |0=>.inl U
 |k+1=>WL x k
theorem Zis(x:Int):∀k,bt (x+x) k=tw x k
 |0=>by
  unfold bt;rw[Qdy,Qcd];show(x+x)%2=0;lia
 |k+1=>by
  rw[YX,show(x+x)/2=x by lia];rfl
def hld(y:Str)(is:Ak)(k:Nat):Int:=
 if y = "twice" then tw (is.getD 0 0) k else if y = "neg" \/ y = "low" then nzA (is.getD 0 0) k else if y = "add" then cyA (is.getD 0 0) (is.getD 1 0) k else brA (is.getD 0 0) (is.getD 1 0) k
def Wk:Ai:=["neg","twice","low","add","sub"]
def hld_01(y:Str)(is:Ak)(k:Nat):hld y is k=0\/hld y is k=1:=by
 unfold hld;split
 .exact tw_01 _ _
 .split
  .exact Zky _ _
  .split
   .exact Zfp _ _ _
   .exact Za4 _ _ _
def Zit(y:Str)(is:Ak):hld y is 0=0:=by
 unfold hld;split
 .rfl
 .split
  .exact Ziq _
  .split
   .exact Za1 _ _
   .exact Za5 _ _
def once(y:Str)(bs:Ak):Int:=
 if y = "not" then 1-bs.getD 0 0 else if y = "and" then bs.getD 0 0*bs.getD 1 0 else if y = "or" then 1-(1-bs.getD 0 0)*(1-bs.getD 1 0)else if y = "odd" then(bs.getD 0 0+bs.getD 1 0)%2
 else 1-(1-bs.getD 0 0*bs.getD 1 0)*(1-(1-bs.getD 0 0)*bs.getD 2 0)
def Zpv(y:Str)(bs:Ak)(h:Int):Int:=
 if y = "twice" then bs.getD 0 0 else if y = "neg" \/ y = "low" then 1-(1-bs.getD 0 0)*(1-h)else if y = "add" then(bs.getD 0 0+bs.getD 1 0+h)/2 else 1-(1-(1-bs.getD 0 0)*bs.getD 1 0)*(1-h*(1-(bs.getD 0 0+bs.getD 1 0)%2))
def Zqe(y:Str)(bs:Ak)(h:Int):Int:=
 if y = "twice" then h else if y = "neg" then(bs.getD 0 0+h)%2 else if y = "low" then bs.getD 0 0*(1-h)else(bs.getD 0 0+bs.getD 1 0+h)%2
def Ziu(y:Str)(is:Ak)(k:Nat):hld y is (k+1)=Zpv y (is.map λx=>bt x k) (hld y is k):=by
 have g:∀i,(is.map λx=>bt x k).getD i 0=bt (is.getD i 0) k:=λi=>by
  rw[Qat,Qat,Qal];cases is[i]? with
  |none=>exact(xa k).symm
  |some x=>rfl
 unfold hld Zpv;rw[g,g];split
 .rfl
 .split
  .exact Zir _ _
  .split
   .exact Za2 _ _ _
   .exact Za6 _ _ _
def zX(is:Ak)(k i:Nat):(is.map λx=>bt x k).getD i 0=bt (is.getD i 0) k:=by
 rw[Qat,Qat,Qal];cases is[i]? with
 |none=>exact(xa k).symm
 |some x=>rfl
def rem_parts:∀y∈Wk,y∈Gd/\Ys y=(if y = "add" \/ y = "sub" then 2 else 1):=by decide +kernel
def yG:∀y∈Gd,y∉Wk->(y = "not" /\ Ys y=1)\/(y = "and" /\ Ys y=2)\/(y = "or" /\ Ys y=2)\/(y = "odd" /\ Ys y=2)\/(y = "pick" /\ Ys y=3):=by decide +kernel
def ans_ok(ρ:Str->Int){y:Str}(q:y∈Wk){is:Ak}(g:is.length=Ys y)(k:Nat):Zqe y (is.map λx=>bt x k) (hld y is k)=bt (wwv ρ (.str y) is) k:=by
 unfold Wk at q;simp at q;rcases q with rfl|rfl|rfl|rfl|rfl
 .match is,g with
  |[a],_=>exact(Zkz a k).symm
 .match is,g with
  |[a],_=>exact(Zis a k).symm
 .match is,g with
  |[a],_=>exact(bt_low a k).symm
 .match is,g with
  |[a,b],_=>exact(Zkx a b k).symm
 .match is,g with
  |[a,b],_=>exact(Zfq a b k).symm
def Znd(ρ:Str->Int){y:Str}(C:y∈Gd)(q:y∉Wk){is:Ak}(g:is.length=Ys y)(k:Nat):once y (is.map λx=>bt x k)=bt (wwv ρ (.str y) is) k:=by
 rcases yG y C q with⟨rfl,e⟩|⟨rfl,e⟩|⟨rfl,e⟩|⟨rfl,e⟩|⟨rfl,e⟩<;>skip
 .match is,g with
  |[a],_=>exact(zW k a).symm
 .match is,g with
  |[a,b],_=>exact(X4 k a b).symm
 .match is,g with
  |[a,b],_=>exact(zV k a b).symm
 .match is,g with
  |[a,b],_=>exact(xy k a b).symm
 .match is,g with
  |[a,b,c],_=>
   show 1-(1-bt a k*bt b k)*(1-(1-bt a k)*bt c k)=bt (Builtin.bitOr _ _) k;rw[zV,X4,X4,zW]
def YG(m:Int)(ρ:Str->Int):A0->List Int
 |[]=>[]
 |w::r=>(wwv ρ w ((YG m ρ r).take (npw w))%m)::(YG m ρ r).drop (npw w)
def Wr:A0->Nat
 |[]=>0
 |w::r=>Wr r-npw w+1
def Yf:A0->Prop
 |[]=>True
 |w::r=>npw w<=Wr r/\Yf r
theorem WM(m:Int)(ρ:Str->Int):∀g:A0,(YG m ρ g).length=Wr g
 |[]=>rfl
 |w::r=>by
  show((YG m ρ r).drop _).length+1=_;rw[Qbn,WM m ρ r];rfl
def qg:V->Bool
 |.str y=>decide (y∈Wk)
 |_=>false
def zi(m:Int)(ρ:Str->Int):A0->Nat->List Int
 |[],_=>[]
 |w::r,k=>zi m ρ r k++if qg w=true then[hld (Zol w) ((YG m ρ r).take (npw w)) k]else[]
def Zhf(ys:Ai)(ν:Str->Int)(pl:Nat)(kp:Ak):A0->List Int×Ak
 |[]=>([],[])
 |w::r=>
  let p:=Zhf ys ν pl kp r
  match w with
  |.str y=>
   if y∈Wk then(Zqe y (p.1.take (npw w)) (kp.getD p.2.length 0)::p.1.drop (npw w),p.2++[Zpv y (p.1.take (npw w)) (kp.getD p.2.length 0)])
   else if y∈ys then(ν y::p.1,p.2)
   else(once y (p.1.take (npw w))::p.1.drop (npw w),p.2)
  |.int z=>(bt z pl::p.1,p.2)
  |_=>p
def XB(ys:Ai)(B:Nat)(w:V):Prop:=(∃y,w=.str y/\y∈Gd/\y∉ys/\npw w=Ys y)\/(∃y,w=.str y/\y∈ys/\y∉Wk/\npw w=0)\/∃z:Int,w=.int z/\0<=z/\z<2^B/\npw w=0
theorem Zne(m:Int)(ρ:Str->Int)(g:A0)(k:Nat):(zi m ρ g k).length=(g.filter qg).length:=by
 induction g with
 |nil=>rfl
 |cons w r q=>
  show(zi m ρ r k++_).length=_;rw[Qaf,q,Qcy];split<;>rfl
def Zk0{B k:Nat}(q:0<=z)(h:z<2^B)(g:B<=k):bt z k=0:=by
 have C:=Zfm g;unfold bt;rw[Qc1 q (by lia)];rfl
theorem Zk1{ys:Ai}{B W k pl:Nat}{ρ:Str->Int}(hk:k<W)(I:pl=k\/(B<=pl/\B<=k))(kp:Ak):∀q:A0,(∀w∈q,XB ys B w)->Yf q->(∃r,kp=zi (2^W) ρ q k++r)->Zhf ys (λy=>bt (ρ y) k) pl kp q=((YG (2^W) ρ q).map (λx=>bt x k),zi (2^W) ρ q (k+1))
 |[],_,_,_=>rfl
 |w::r,hw,he,hkp=>by
  obtain⟨r0,F⟩:=hkp;have Q:=Zk1 (ρ:=ρ) hk I kp r (λw h=>hw w (Qak _ h)) he.2 ⟨_,by rw[F];show(_++_)++_=_;rw[Qcm]⟩;have G:=WM (2^W) ρ r;have O:((YG (2^W) ρ r).take (npw w)).length=npw w:=by rw[Qas,G];exact Qdq he.1
  have bm:=λx=>Zkw x W k hk;have ml:=Zne (2^W) ρ r;rcases hw w Qam with⟨y,rfl,Z,Y,D⟩|⟨y,rfl,Z,J,D⟩|⟨z,rfl,z0,z1,D⟩
  .by_cases C:y∈Wk
   .have g:qg (.str y)=true:=Qar C;have hg:kp.getD (zi (2^W) ρ r (k+1)).length 0=hld y ((YG (2^W) ρ r).take (npw (.str y))) k:=by
     have e:zi (2^W) ρ (.str y::r) k=zi (2^W) ρ r k++[hld y ((YG (2^W) ρ r).take (npw (.str y))) k]:=by
      show _++(if qg (.str y)=true then _ else _)=_;rw[Qa9 g];rfl
     rw[F,e,ml,<-ml k,Qcm,Qat,Qa0 (Qai _),Qd9];rfl
    show(if y∈Wk then _ else _)=_;rw[Qa9 C,Q];rw[hg,<-Qe6,ans_ok ρ C (by rw[O,D]) k,<-Ziu];refine Qhl ?_ ?_
    .show _::_=bt _ k::((YG (2^W) ρ r).drop (npw (.str y))).map _;rw[bm,Qfi]
    .show _=_++(if qg (.str y)=true then _ else _);rw[Qa9 g];rfl
   .have g:¬qg (.str y)=true:=λz=>C (Qba z)
    show(if y∈Wk then _ else if y∈ys then _ else _)=_;rw[Qa6 C,Qa6 Y,Q];rw[<-Qe6,Znd ρ Z C (by rw[O,D]) k];refine Qhl ?_ ?_
    .show _::_=bt _ k::((YG (2^W) ρ r).drop (npw (.str y))).map _;rw[bm,Qfi]
    .show _=_++(if qg (.str y)=true then _ else _);rw[Qa6 g,Qbk]
  .have g:¬qg (.str y)=true:=λz=>J (Qba z)
   show(if y∈Wk then _ else if y∈ys then _ else _)=_;rw[Qa6 J,Qa9 Z,Q];refine Qhl ?_ ?_
   .show _::_=bt _ k::((YG (2^W) ρ r).drop (npw (.str y))).map _;rw[bm,D,List.take_zero,Qdm];rfl
   .show _=_++(if qg (.str y)=true then _ else _);rw[Qa6 g,Qbk]
  .show(bt z pl::(Zhf ys (λy=>bt (ρ y) k) pl kp r).1,(Zhf ys (λy=>bt (ρ y) k) pl kp r).2)=_;rw[Q];have ez:bt z pl=bt z k:=by
    rcases I with h|⟨h1,h2⟩
    .rw[h]
    .rw[Zk0 z0 z1 h1,Zk0 z0 z1 h2]
   refine Qhl ?_ ?_
   .show bt z pl::_=bt _ k::((YG (2^W) ρ r).drop (npw (.int z))).map _;rw[bm,D,Qdm,ez];rfl
   .show _=_++(if qg (.int z)=true then _ else _);rw[Qa6 (λz=>nomatch z),Qbk]
def Zpw(a b h:Int):Int:=Builtin.bitOr (Builtin.bitAnd (Builtin.bitNot a) b) (Builtin.bitAnd h (Builtin.bitNot (Builtin.bitXor a b)))
def allR:Ai:=["neg","twice","low","add","sub","same","under","beneath","nought"]
def Zon:Ai:=["add","sub","same","under","beneath"]
def ktI(y:Str)(is:Ak)(h:Int):Int:=
 if y = "twice" then is.getD 0 0 else if y = "neg" \/ y = "low" \/ y = "nought" then Builtin.bitOr (is.getD 0 0) h else if y = "same" then Builtin.bitOr (Builtin.bitXor (is.getD 0 0) (is.getD 1 0)) h
 else if y = "add" then Builtin.bitOr (Builtin.bitAnd (is.getD 0 0) (is.getD 1 0)) (Builtin.bitAnd h (Builtin.bitOr (is.getD 0 0) (is.getD 1 0)))else Zpw (is.getD 0 0) (is.getD 1 0) h
def okI(y:Str)(is:Ak)(h n:Int):Int:=
 if y = "add" \/ y = "sub" then Builtin.bitXor (Builtin.bitXor (is.getD 0 0) (is.getD 1 0)) h else if y = "neg" then Builtin.bitXor (is.getD 0 0) h else if y = "twice" then h else if y = "low" then Builtin.bitAnd (is.getD 0 0) (Builtin.bitNot h)
 else if y = "same" \/ y = "nought" then Builtin.bitNot n else if y = "under" then n else Zpw (is.getD 1 0) (is.getD 0 0) h
def oaI(y:Str)(is:Ak):Int:=
 if y = "yes" then -1 else if y = "sign" then is.getD 0 0 else if y = "not" \/ y = "never" then Builtin.bitNot (is.getD 0 0)else if y = "and" \/ y = "both" then Builtin.bitAnd (is.getD 0 0) (is.getD 1 0)else if y = "or" \/ y = "either" then Builtin.bitOr (is.getD 0 0) (is.getD 1 0)
 else if y = "odd" then Builtin.bitXor (is.getD 0 0) (is.getD 1 0)else if y = "so" then Builtin.bitOr (Builtin.bitNot (is.getD 0 0)) (is.getD 1 0)else Builtin.bitOr (Builtin.bitAnd (is.getD 0 0) (is.getD 1 0)) (Builtin.bitAnd (Builtin.bitNot (is.getD 0 0)) (is.getD 2 0))
def Ziv (y:Str):Nat:=if y = "yes" then 0 else if y = "sign" \/ y = "not" \/ y = "never" then 1 else if y = "pick" then 3 else 2
def kt_bt{y:Str}(g:y∈Wk)(is:Ak)(h:Int)(l:Nat):bt (ktI y is h) l=Zpv y (is.map λx=>bt x l) (bt h l):=by
 unfold Zpv ktI;rw[zX,zX];unfold Wk at g;simp at g;rcases g with rfl|rfl|rfl|rfl|rfl
 .exact zV l _ _
 .rfl
 .exact zV l _ _
 .show bt (Builtin.bitOr _ _) l=(bt _ l+bt _ l+bt h l)/2;rw[zV,X4,X4,zV];rcases WL _ l with a|a<;>rcases WL _ l with b|b<;>rcases WL h l with c|c<;>rw[a,b,c]<;>rfl
 .show bt (Zpw _ _ h) l=_;unfold Zpw;rw[zV,X4,X4,zW,zW,xy];rfl
def ok_bt{y:Str}(g:y∈Wk)(is:Ak)(h n:Int)(l:Nat):bt (okI y is h n) l=Zqe y (is.map λx=>bt x l) (bt h l):=by
 unfold Zqe okI;rw[zX,zX];unfold Wk at g;simp at g;rcases g with rfl|rfl|rfl|rfl|rfl
 .exact xy l _ _
 .rfl
 .show bt (Builtin.bitAnd _ _) l=_;rw[X4,zW];rfl
 .show bt (Builtin.bitXor _ h) l=(bt _ l+bt _ l+bt h l)%2;rw[xy,xy];lia
 .show bt (Builtin.bitXor _ h) l=(bt _ l+bt _ l+bt h l)%2;rw[xy,xy];lia
def oa_bt{y:Str}(q:y∈Gd)(g:y∉Wk)(is:Ak)(l:Nat):bt (oaI y is) l=once y (is.map λx=>bt x l):=by
 unfold once oaI;rw[zX,zX,zX];rcases yG y q g with⟨rfl,_⟩|⟨rfl,_⟩|⟨rfl,_⟩|⟨rfl,_⟩|⟨rfl,_⟩
 .exact zW l _
 .exact X4 l _ _
 .exact zV l _ _
 .exact xy l _ _
 .show bt (Builtin.bitOr _ _) l=_;rw[zV,X4,X4,zW];rfl
def Zfr:∀y∈allR,¬y = "twice" ->¬(y = "neg" \/ y = "low" \/ y = "nought")->y∈Zon:=by decide +kernel
def Ziw:Ai:=["not","and","or","odd","pick","both","either","so","never","yes","sign"]
def Zcc:∀y∈Ziw,¬y = "yes" ->¬y = "sign" ->¬(y = "not" \/ y = "never")->¬(y = "and" \/ y = "both")->¬(y = "or" \/ y = "either")->¬y = "odd" ->¬y = "so" ->3<=Ziv y:=by decide +kernel
def zY{m:Nat}{is:Ak}(h:is.length=m)(h2:n<=m):n<=is.length:=by grind
def and_zero(x:Int):Builtin.bitAnd x 0=0:=by
 rcases vv x with⟨m,rfl⟩|⟨m,rfl⟩
 .rw[show 0=((0:Nat):Int)from U,bA_pp,Nat.and_zero]
 .rw[show 0=((0:Nat):Int)from U,Zna,Nat.zero_and];rfl
def and_1(x:Int):Builtin.bitAnd x 1=x%2:=by
 obtain⟨h1,h2⟩:=Zom x 1;rw[show(1:Int)/2=0 from U,and_zero]at h1;lia
def XT(ys:Ai)(cols:Str->Int)(pl:Nat)(kp:Ak):A0->List Int×Ak
 |[]=>([],[])
 |w::r=>
  let p:=XT ys cols pl kp r
  match w with
  |.str y=>
   if y∈allR then(okI y (p.1.take (npw w)) (-(kp.getD p.2.length 0)) (ktI y (p.1.take (npw w)) (-(kp.getD p.2.length 0)))::p.1.drop (npw w),p.2++[ktI y (p.1.take (npw w)) (-(kp.getD p.2.length 0))])
   else if y∈ys then(cols y::p.1.drop (npw w),p.2)
   else(oaI y (p.1.take (npw w))::p.1.drop (npw w),p.2)
  |.int z=>(-(bt z pl)::p.1.drop (npw w),p.2)
  |_=>p
def Zcd(kvs:Ay)(ys:Ai)(cols:Str->Int):Prop:=(∀y∈ys,Yp kvs (.inr y)=some (.int (cols y)))/\∀y,y∉ys->Yp kvs (.inr y)=none
def wB(ys:Ai)(w:V):Prop:=(∃y,w=.str y/\y∈allR/\y∉ys/\1<=npw w/\(y∈Zon->2<=npw w))\/(∃y,w=.str y/\y∈Ziw/\y∉allR/\y∉ys/\npw w=Ziv y)\/(∃y,w=.str y/\y∈ys/\y∉allR/\npw w=0)\/∃z:Int,w=.int z/\0<=z/\npw w=0
theorem vw{ys:Ai}{cols:Str->Int}{pl:Nat}{kp:Ak}:∀g:A0,(∀w∈g,wB ys w)->(XT ys cols pl kp g).1.length=Wr g
 |[],_=>rfl
 |w::r,hw=>by
  have C:=vw (cols:=cols) (pl:=pl) (kp:=kp) r λw h=>hw w (Qak _ h);have go:∀x,(x::(XT ys cols pl kp r).1.drop (npw w)).length=Wr r-npw w+1:=λx=>by grind
  rcases hw w Qam with⟨y,rfl,h1,_⟩|⟨y,rfl,h1,h2,q,_⟩|⟨y,rfl,h1,h2,_⟩|⟨z,rfl,_⟩
  .show(if y∈allR then _ else _:Ak×Ak).1.length=_;rw[Qa9 h1];exact go _
  .show(if y∈allR then _ else if y∈ys then _ else _:Ak×Ak).1.length=_;rw[Qa6 h2,Qa6 q];exact go _
  .show(if y∈allR then _ else if y∈ys then _ else _:Ak×Ak).1.length=_;rw[Qa6 h2,Qa9 h1];exact go _
  .exact go _
def wC(ys:Ai)(cols:Str->Int)(pl:Nat)(kp:Ak)(w:V)(r:A0):(XT ys cols pl kp r).2.length<=(XT ys cols pl kp (w::r)).2.length:=by
 cases w with
 |str y=>
  show _<=(if y∈allR then _ else if y∈ys then _ else _:Ak×Ak).2.length;split
  .grind
  .split<;>exact Qai _
 |_=>exact Qai _
theorem wD(ys:Ai)(cols:Str->Int)(pl:Nat)(kp:Ak):∀(g:A0)(j:Nat),(XT ys cols pl kp (g.drop j)).2.length<=(XT ys cols pl kp g).2.length
 |[],j=>by simp
 |w::r,0=>Qai _
 |w::r,j+1=>Qaz (wD ys cols pl kp r j) (wC ys cols pl kp w r)
theorem G8:∀(g:A0)(j:Nat),Yf g->Yf (g.drop j)
 |[],j,_=>by grind
 |w::r,0,h=>h
 |w::r,j+1,h=>G8 r j h.2
theorem vx:∀g:A0,Wr g<=g.length
 |[]=>Qai _
 |w::r=>by
  have:=vx r;show Wr r-npw w+1<=r.length+1;lia
def vy(z:Int)(ys:Ai):inV (.int z) (ys.map V.str)=false:=by
 cases q:inV _ _ with
 |false=>rfl
 |true=>
  obtain⟨x,g,e⟩:=Qdf.mp q;obtain⟨y,_,rfl⟩:=Qa2.mp g;cases e
theorem Za7(ys:Ai)(cols:Str->Int)(pl:Nat)(kp:Ak):∀g:A0,(XT ys cols pl kp g).2.length<=g.length
 |[]=>Qai _
 |w::r=>by
  have q:=Za7 ys cols pl kp r;cases w with
  |str y=>
   show(if y∈allR then _ else if y∈ys then _ else _:Ak×Ak).2.length<=r.length+1;split
   .grind
   .split<;>exact Nat.le_succ_of_le q
  |_=>exact Nat.le_succ_of_le q
def uf{x:Int}(h:x=0\/x=1)(l:Nat):bt (-x) l=x:=by
 rcases h with rfl|rfl
 .exact xa l
 .exact Znb l
def vz:∀y∈Gd,(y∈allR↔y∈Wk):=by decide +kernel
def wF{ys:Ai}{B:Nat}{cols:Str->Int}{pl:Nat}{kp:Ak}(J:∀i:Nat,kp.getD i 0=0\/kp.getD i 0=1)(D:∀y∈ys,y∉allR)(l:Nat):∀G:A0,(∀w∈G,XB ys B w)->
  (XT ys cols pl kp G).1.map (λx=>bt x l)=(Zhf ys (λy=>bt (cols y) l) pl kp G).1/\(XT ys cols pl kp G).2.map (λx=>bt x l)=(Zhf ys (λy=>bt (cols y) l) pl kp G).2
 |[],_=>⟨U,U⟩
 |w::r,hw=>by
  obtain⟨e1,e2⟩:=wF (cols:=cols) (pl:=pl) J D l r λw h=>hw w (Qak _ h);have Q:(XT ys cols pl kp r).2.length=(Zhf ys (λy=>bt (cols y) l) pl kp r).2.length:=by grind
  rcases hw w Qam with⟨y,rfl,g,C,I⟩|⟨y,rfl,g,O,I⟩|⟨z,rfl,Y,Z,I⟩
  .by_cases q:y∈Wk
   .have F:=(vz y g).mpr q;show(if y∈allR then _ else _:Ak×Ak).1.map _=(if y∈Wk then _ else _:Ak×Ak).1/\(if y∈allR then _ else _:Ak×Ak).2.map _=(if y∈Wk then _ else _:Ak×Ak).2;rw[Qa9 F,Qa9 q];constructor
    .show bt _ l::_=_::_;rw[ok_bt q,uf (J _),Qe6,Qfi,e1,Q]
    .rw[Qbd,e2];show _++[bt _ l]=_;rw[kt_bt q,uf (J _),Qe6,e1,Q]
   .have F:y∉allR:=λz=>q ((vz y g).mp z)
    show(if y∈allR then _ else if y∈ys then _ else _:Ak×Ak).1.map _=(if y∈Wk then _ else if y∈ys then _ else _:Ak×Ak).1/\(if y∈allR then _ else if y∈ys then _ else _:Ak×Ak).2.map _=(if y∈Wk then _ else if y∈ys then _ else _:Ak×Ak).2;rw[Qa6 F,Qa6 q,Qa6 C,Qa6 C];refine⟨?_,e2⟩;show bt _ l::_=_::_;rw[oa_bt g q,Qe6,Qfi,e1]
  .have F:=D y g;show(if y∈allR then _ else if y∈ys then _ else _:Ak×Ak).1.map _=(if y∈Wk then _ else if y∈ys then _ else _:Ak×Ak).1/\(if y∈allR then _ else if y∈ys then _ else _:Ak×Ak).2.map _=(if y∈Wk then _ else if y∈ys then _ else _:Ak×Ak).2;rw[Qa6 F,Qa6 O,Qa9 g,Qa9 g];refine⟨?_,e2⟩;show bt _ l::List.map _ (List.drop _ _)=_::_;rw[I,Qdm,e1]
  .refine⟨?_,e2⟩;show bt (-(bt z pl)) l::((XT ys cols pl kp r).1.drop (npw (.int z))).map _=bt z pl::_;rw[I,Qdm,e1,uf (WL z pl)]
theorem Zfs(w:Nat):∀a b:Int,Builtin.bitAnd a b/2^w=Builtin.bitAnd (a/2^w) (b/2^w):=by
 induction w with
 |zero=>intro a b;rw[Qdy,Qcd,Qcd,Qcd]
 |succ w g=>
  intro a b;have d:∀x:Int,x/2^(w+1)=x/2/2^w:=λx=>by rw[Qfu,Qfv,Qdx (by decide)]
  rw[d,d,d,(Zom a b).1,g]
theorem or_div(w:Nat):∀a b:Int,Builtin.bitOr a b/2^w=Builtin.bitOr (a/2^w) (b/2^w):=by
 induction w with
 |zero=>intro a b;rw[Qdy,Qcd,Qcd,Qcd]
 |succ w g=>
  intro a b;have d:∀x:Int,x/2^(w+1)=x/2/2^w:=λx=>by rw[Qfu,Qfv,Qdx (by decide)]
  rw[d,d,d,(or2 a b).1,g]
def Zft{w:Nat}{x y:Int}(h:∀k,k<w->bt x k=bt y k):x%2^w=y%2^w:=by
 have e:jM w x=jM w y:=Qci λi hi=>h i (Qcf.mp hi);have h1:=wA w x;have h2:=wA w y;rw[e,h2]at h1;exact h1.symm
def Zix{w:Nat}{a b c:Int}(J:0<=a)(a1:a<2^w)(q:0<=b)(b1:b<2^w)(C:0<=c)(D:c<2^w):Builtin.bitOr (Builtin.bitAnd a b) (Builtin.bitAnd (2^w-1-a) c)=Builtin.bitOr (Builtin.bitAnd a b) (Builtin.bitAnd (Builtin.bitNot a) c)%2^w:=by
 have F:Builtin.bitOr (Builtin.bitAnd a b) (Builtin.bitAnd (2^w-1-a) c)/2^w=0:=by
  rw[or_div,Zfs,Zfs,Qc1 J a1,Qc1 q b1,Qc1 C D,Qc1 (by lia) (by lia)];rfl
 have g:=Qdr (Builtin.bitOr (Builtin.bitAnd a b) (Builtin.bitAnd (2^w-1-a) c)) (2^w);rw[F,Int.mul_zero,Int.add_zero]at g;rw[<-g];refine Zft λk I=>?_;have G:bt (2^w-1-a) k=bt (Builtin.bitNot a) k:=by
  have e:2^w-1-a=Builtin.bitNot a%2^w:=by
   have e1:Builtin.bitNot a=(2^w-1-a)+2^w*(-1):=by unfold Builtin.bitNot;lia
   rw[e1,Qdg,Qcn (by lia) (by lia)]
  rw[e,Zkw _ _ _ I]
 rw[zV,X4,X4,G,zV,X4,X4]
def hor(g:Ak):Int:=g.foldl (λa b=>a*2+b) 0
def v8(g:Ak)(b:Int):hor (g++[b])=hor g*2+b:=by
 unfold hor;rw[Qd1];rfl
def Ziy{b:Int}(h:J[i]?=some b):hor (J.take (i+1))=hor (J.take i)*2+b:=by
 rw[Qgw,h];exact v8 _ b
def sm(b:Nat->Int):Nat->Int
 |0=>0
 |n+1=>sm b n+b n*2^n
theorem v9{b c:Nat->Int}:∀{n:Nat},(∀i,i<n->b i=c i)->sm b n=sm c n
 |0,_=>rfl
 |n+1,h=>by
  show sm b n+b n*2^n=sm c n+c n*2^n;rw[v9 λi hi=>h i (Qe3 hi),h n (Qdv n)]
theorem qh{b:Nat->Int}(g:∀i,b i=0\/b i=1):∀n,0<=sm b n/\sm b n<2^n
 |0=>⟨Qhk _,(show 0<2^0 by decide)⟩
 |n+1=>by
  have q:=qh g n;have e:sm b (n+1)=sm b n+b n*2^n:=rfl;rw[e];rcases g n with z|z<;>rw[z]<;>constructor<;>lia
theorem Zfu{b:Nat->Int}(g:∀i,b i=0\/b i=1)(p:Nat):∀n,p<n->sm b n/2^p%2=b p
 |0,h=>absurd h (Qei _)
 |n+1,h=>by
  have e:sm b (n+1)=sm b n+b n*2^n:=rfl;have D:=XA p;rw[e]
  by_cases q:p<n
  .obtain⟨k,rfl⟩:∃k,n=p+(k+1):=⟨n-p-1,by lia⟩;have e2:b (p+(k+1))*2^(p+(k+1))=2^p*(2^k*b (p+(k+1))*2):=by grind
   rw[e2,Qfw _ _ (by lia)];have F:=Zfu g p _ q;lia
  .have e3:p=n:=by lia
   subst e3;obtain⟨C,h1⟩:=qh g p;rw[Qfv,Qfw _ _ (by lia),Qc1 C h1];rcases g p with z|z<;>rw[z]<;>rfl
theorem Ziz(l:Ak):∀a:Int,l.foldl (λa b=>a*2+b) a=a*2^l.length+hor l:=by
 induction l with
 |nil=>intro a;show a=a*2^0+0;lia
 |cons b l g=>
  intro a;show l.foldl _ _=a*2^(l.length+1)+l.foldl _ _;rw[g,g _,pow_succ'];lia
theorem Zk2(b:Nat->Int):∀n,hor ((List.range n).map b).reverse=sm b n
 |0=>rfl
 |n+1=>by
  rw[Qdo,Qbd,List.reverse_append];show((List.range n).map b).reverse.foldl _ _=sm b n+b n*2^n;rw[Ziz,Zk2 b n,Qd3,Qac,Qa3];lia
def Zi0(r:Int)(w:Nat):r/2^w%2*2^w+r%2^w=r%2^(w+1):=by
 rw[pow_succ'];have g:=XA w;generalize (2:Int)^w=p at *;have F:0<=r%p:=Qbe _ (by lia);have h1:r%p<p:=Qa5 _ g;have e1:=(Int.mul_ediv_add_emod r p).symm;generalize r/p=q at *;generalize r%p=t at *;have e2:q=2*(q/2)+q%2:=by lia
 have h2:0<=q%2:=by lia
 have D:q%2<=1:=by lia
 generalize q/2=u at *;generalize q%2=b at *;subst e2;have C:b=0\/b=1:=by lia
 have e3:r=b*p+t+p*2*u:=by
  grind
 rw[e3,Qdg];rcases C with rfl|rfl
 .rw[Qcn (by lia) (by lia)]
 .rw[Qcn (by lia) (by lia)]
theorem vA(r:Int):∀w,sm (λk=>r/2^k%2) w=r%2^w
 |0=>by
  rw[Qdy,Qhh];rfl
 |w+1=>by
  show sm _ w+r/2^w%2*2^w=_;rw[vA r w];have:=Zi0 r w;lia
def Znf{x:Int}(h:0<=x):Builtin.bitAnd x 1=x%2:=by
 rw[PyProof.Rows.bitAnd_pp h (by decide)];show((x.toNat &&& 1:Nat))=x%2;rw[Nat.and_one_is_mod];lia
def Zpx(r:Int)(k:Nat):r/2^k%2=0\/r/2^k%2=1:=by lia
def div_nn{r:Int}(h:0<=r)(k:Nat):0<=r/2^k:=Int.ediv_nonneg h (Qgo (XA k))
open Classical in
def keysOf(ys:Ai):List Key:=ys.foldl (λks y=>if(Sum.inr y:Key)∈ks then ks else ks++[Sum.inr y]) []
open Classical in
theorem WN(ys:Ai)(y:Str):keysOf (ys++[y])=if(Sum.inr y:Key)∈keysOf ys then keysOf ys else keysOf ys++[Sum.inr y]:=by
 unfold keysOf;rw[Qd1];rfl
theorem snoc_ind{P:List g->Prop}(D:P [])(q:∀l a,P l->P (l++[a])):∀l,P l:=by
 intro l;rw[<-List.reverse_reverse l]
 induction l.reverse with
 |nil=>exact D
 |cons a r C=>
  rw[Qdh];exact q _ _ C
def Zfv{kvs:Ay}{k:Key}:(kvs.any λg=>decide (g.1=k))=true↔k∈kvs.map (·.1):=by grind
def Zi1{kvs:Ay}{ys:Ai}(h:kvs.map (·.1)=keysOf ys)(y:Str)(v:V):(putK kvs (.inr y) v).map (·.1)=keysOf (ys++[y]):=by
 rw[WN,<-h];unfold putK
 by_cases g:(Sum.inr y)∈kvs.map (·.1)
 .rw[Qa9 (Zfv.mpr g),Qa9 g,Qb7];apply Qci;intro p _;show(if p.1=Sum.inr y then(p.1,v)else p).1=p.1;split<;>rfl
 .grind
structure Tab(kvs:Ay)(ys:Ai)(f:Str->Int):Prop where
 keys:kvs.map (·.1)=keysOf ys
 val:∀y∈ys,Yp kvs (.inr y)=some (.int (f y))
 all:∀p∈kvs,∃y∈ys,p=(.inr y,.int (f y))
def Zng{kvs:Ay}{k:Key}{v:V}{P:Key×V->Prop}(h:∀p∈kvs,p.1≠k->P p)(q:P (k,v)):∀p∈putK kvs k v,P p:=by
 intro p g;unfold putK at g;split at g
 .grind
 .grind
def Tab.put{kvs:Ay}{ys:Ai}{f:Str->Int}(T:Tab kvs ys f)(y:Str)(z:Int):Tab (putK kvs (.inr y) (.int z)) (ys++[y]) (λx=>if x=y then z else f x):=by
 refine⟨Zi1 T.keys y _,λx g=>?_,Zng (λp C q=>?_) ⟨y,Qa1 _ (Qau.mpr U),by simp⟩⟩
 .rw[yY]
  by_cases e:x=y
  .rw[Qa9 (by rw[e]),Qa9 e]
  .have e2:¬(Sum.inr x:Key)=Sum.inr y:=λz=>e (Sum.inr.inj z)
   rw[Qa6 e2,Qa6 e];rcases Qa7.mp g with h|h
   .exact T.val x h
   .exact absurd (Qau.mp h) e
 .obtain⟨x,g,rfl⟩:=T.all p C;have e:¬x=y:=λz=>q (by rw[z]);exact⟨x,Qbs _ g,by grind⟩
theorem Tab.same{kvs:Ay}{ys:Ai}{f g:Str->Int}(T:Tab kvs ys f)(h:∀y∈ys,f y=g y):Tab kvs ys g:=
 ⟨T.keys,λy q=>by rw[<-h y q];exact T.val y q,λp C=>let⟨y,q,e⟩:=T.all p C;⟨y,q,by grind⟩⟩
def Tab.nil{f:Str->Int}:Tab [] [] f:=⟨U,(λ_ h=>nomatch h),(λ_ h=>nomatch h)⟩
def Zce:∀(ys:Ai),(keysOf ys).length<=ys.length:=by
 refine snoc_ind (Qai _) λys y g=>?_
 .rw[WN,Qaf];split
  .lia
  .grind
def Tab.few{a:Ay}{ys:Ai}{f:Str->Int}(T:Tab a ys f):a.length<=ys.length:=by
 have h1:(a.map (·.1)).length=(keysOf ys).length:=by rw[T.keys]
 rw[Qac]at h1;have:=Zce ys;lia
def JD{ys:Ai}{x:V}(h:(ys.map V.str)[i]?=some x):∃y:Str,x=V.str y/\ys[i]?=some y:=by grind
def ltr(ys:Ai)(f:Str->Int)(k:Nat):Int:=sm (λi=>f (ys.getD i Str.empty)/2^k%2) ys.length
def vC :PySem.W.kitOne K (.type "dict") (.type "dict")=some true:=by rfl
structure Zk3(H:Hp)(p:Au)(S L:Nat)(f:Nat->Nat->V):Prop where
 ex:∃as:A0,H p=some (.tup as)/\∀s,s<S->∃(a:Au)(xs:A0),as[s]?=some (.ref a)/\H a=some (.tup xs)/\∀l,l<L->xs[l]?=some (f s l)
structure Zk4(H:Hp)(m:Au)(S L:Nat)(nv:V)(b:Nat)(nx:Nat->Nat->Nat)(ot:Nat->Nat->V):Prop where
 ex:∃ps po,H m=some (.tup [nv,.int b,.ref ps,.ref po])/\Zk3 H ps S L (λs l=>.int (nx s l:Int))/\Zk3 H po S L ot
 b:b<S
 nx:∀s l,s<S->l<L->nx s l<S
abbrev Xd(l:Nat):V:=.int l
def wk(nx:Nat->Nat->Nat)(ot:Nat->Nat->V):Nat->List Nat->List V
 |_,[]=>[]
 |s,l::r=>ot s l::wk nx ot (nx s l) r
def Zhg(nx:Nat->Nat->Nat):Nat->List Nat->Nat
 |s,[]=>s
 |s,l::r=>Zhg nx (nx s l) r
theorem Zfw{nx:Nat->Nat->Nat}{ot:Nat->Nat->V}:∀(xs ys:Aj)(s:Nat),wk nx ot s (xs++ys)=wk nx ot s xs++wk nx ot (Zhg nx s xs) ys
 |[],_,_=>rfl
 |l::r,ys,s=>by
  show ot s l::wk nx ot _ (r++ys)=ot s l::(wk nx ot _ r++wk nx ot (Zhg nx _ r) ys);rw[Zfw r ys]
theorem Za8{nx:Nat->Nat->Nat}:∀(xs ys:Aj)(s:Nat),Zhg nx s (xs++ys)=Zhg nx (Zhg nx s xs) ys
 |[],_,_=>rfl
 |l::r,ys,s=>Za8 r ys _
theorem Zfx{nx:Nat->Nat->Nat}{S L:Nat}(q:∀s l,s<S->l<L->nx s l<S):∀(xs:Aj)(s:Nat),s<S->(∀l∈xs,l<L)->Zhg nx s xs<S
 |[],_,h,_=>h
 |l::r,s,h,g=>Zfx q r _ (q s l h (g l Qam)) λx C=>g x (Qak _ C)
theorem Zk5{nx:Nat->Nat->Nat}{ot:Nat->Nat->V}:∀(xs:Aj)(s:Nat),(wk nx ot s xs).length=xs.length
 |[],_=>rfl
 |l::r,s=>by
  show(wk nx ot _ r).length+1=r.length+1;rw[Zk5 r]
def Zfy{ls:Aj}{x:V}(h:(ls.map Xd)[i]?=some x):∃l:Nat,x=V.int l/\ls[i]?=some l:=by grind
def XO(g:Bool)(v:V):Prop:=(g=true/\∃x,v=.bl x)\/(g=false/\∃x,v=.int x)
def zZ(H:Hp)(p:Au)(g:Ax):Prop:=∃as:A0,H p=some (.tup as)/\as.length=g.length/\∀(i:Nat)(r:A0),g[i]?=some r->∃a,as[i]?=some (V.ref a)/\H a=some (.tup r)
def zZ.same{H H':Hp}{p:Au}{g:Ax}(R:zZ H p g)(e:ZD H H'):zZ H' p g:=by
 obtain⟨as,h1,h2,q⟩:=R;refine⟨as,e _ _ h1,h2,λi r hi=>?_⟩;obtain⟨a,C,D⟩:=q i r hi;exact⟨a,C,e _ _ D⟩
def vD(r:Aj):A0:=r.map Xd
structure M4(H:Hp)(m:Au)(nm:Ai)(b:Nat)(nx:Ad)(ot:Ax):Prop where
 ex:∃pn ps po,H m=some (.tup [.ref pn,.int b,.ref ps,.ref po])/\H pn=some (.tup (nm.map V.str))/\zZ H ps (nx.map vD)/\zZ H po ot
def M4.same{H H':Hp}{m:Au}{nm:Ai}{b:Nat}{nx:Ad}{ot:Ax}(M:M4 H m nm b nx ot)(e:ZD H H'):M4 H' m nm b nx ot:=by
 obtain⟨pn,ps,q,h1,h2,g,C⟩:=M.ex;exact⟨⟨pn,ps,q,e _ _ h1,e _ _ h2,g.same e,C.same e⟩⟩
def yesT{A B:Hp->Prop}(h:A H):Zhv c H λb H2=>if b=true then A H2 else B H2:=by
 show if true=true then A H else B H;exact YN h
def zip_at{β:Type}{xs:List g}{ys:List β}{x:g}{y:β}(C:xs[i]?=some x)(q:ys[i]?=some y):(xs.zip ys)[i]?=some (x,y):=by grind
def p8(h:n<=3):2^n<=8:=Qcq (by decide) h
def Prs(H:Hp)(ps:List (Int×Int))(zs:A0):Prop:=zs.length=ps.length/\∀(i:Nat)(p:Int×Int),ps[i]?=some p->∃a,zs[i]?=some (V.ref a)/\H a=some (.tup [.int p.1,.int p.2])
def Prs.at{ps:List (Int×Int)}(h:Prs H ps u){x:V}(g:u[i]?=some x):∃p a,ps[i]?=some p/\x=V.ref a/\H a=some (.tup [.int p.1,.int p.2]):=by
 obtain⟨l,_⟩:=Qah.mp g;have l':i<ps.length:=by rw[<-h.1];exact l
 obtain⟨a,q,C⟩:=h.2 i ps[i] (Qad l');exact⟨ps[i],a,Qad l',Option.some.inj (g.symm.trans q),C⟩
def Zc6(C g:Aj):List (Int×Int):=(C.zip g).map λq=>((q.1:Int),(q.2:Int))
def Zi2(q g:Aj):(Zc6 q g).length=((vD q).zip (vD g)).length:=by
 unfold Zc6 vD;rw[Qac,Qcu,Qcu,Qac,Qac]
theorem ug{C:Aj}(h:XM H ((vD r).zip (vD C)) u):Prs H (Zc6 r C) u:=by
 have key:∀{ps:List _} {u:A0},XM H ps u->∀(i:Nat)(p:V×V),ps[i]?=some p->∃a,u[i]?=some (V.ref a)/\H a=some (.tup [p.1,p.2]):=by
  intro ps u t
  induction t with
  |nil=>intro i p g;simp at g
  | @cons a b as bs e t D=>
   intro i p g;cases i with
   |zero=>
    simp at g ⊢;subst g;exact e
   |succ j=>
    exact D j p g
 refine⟨by rw[Zi2,XM.len h],λi p g=>?_⟩;unfold Zc6 at g;rw[Qal]at g;obtain⟨q,F,rfl⟩:=Qbp.mp g;refine key h i (Xd q.1,Xd q.2) ?_;obtain⟨G,I⟩:=Qc3.mp F;unfold vD;exact Qc3.mpr ⟨by grind,by grind⟩
def Zfz{q:List (List g)}(h:i<q.length):q[i]?=some (q.getD i []):=by grind
def JE{p:Au}{g:Ax}(R:zZ H p g)(h:i<g.length):∃as a,H p=some (HO.tup as)/\atI as (i:Int)=some (V.ref a)/\H a=some (.tup (g.getD i [])):=by
 obtain⟨as,h1,h2,q⟩:=R;obtain⟨a,C,D⟩:=q i _ (Zfz h);exact⟨as,a,h1,Yb C,D⟩
def qi(nx:Ad)(i:Nat):(nx.map vD).getD i []=vD (nx.getD i []):=by
 rw[Qat,Qat,Qal];cases nx[i]?<;>rfl
def getD_mem{q:List (List g)}(h:i<q.length):q.getD i []∈q:=by grind
def Znh{ns:Ak}(h:i<ns.length):(ns.map V.int)[i]?=some (.int (ns.getD i 0)):=by grind
def zj{f:Nat->g}(h:i<n):((List.range n).map f)[i]?=some (f i):=by grind
def qj(xs:A0)(k:Nat):qK xs none (some (k:Int))=xs.take k:=zN xs k
def ja(xs:A0)(k:Nat):qK xs (some (k:Int)) none=xs.drop k:=wy xs k
def YB(H:Hp)(zs:A0)(g:Ax):Prop:=zs.length=g.length/\∀(i:Nat)(r:A0),g[i]?=some r->∃a,zs[i]?=some (V.ref a)/\H a=some (.tup r)
def YB.same{H H':Hp}{zs:A0}{g:Ax}(z:YB H zs g)(e:ZD H H'):YB H' zs g:=by
 refine⟨z.1,λi r q=>?_⟩;obtain⟨a,C,D⟩:=z.2 i r q;exact⟨a,C,e _ _ D⟩
def YB.snoc{C:Ax}{r:A0}(z:YB H u C)(h:H a=some (.tup r)):YB H (u++[.ref a]) (C++[r]):=by
 refine⟨by rw[Qaf,Qaf,z.1];rfl,λi q g=>?_⟩
 by_cases e:i<C.length
 .rw[Qa8 e]at g;rw[Qa8 (by rw[z.1];exact e)];exact z.2 i q g
 .rw[Qa0 (by lia)]at g;have D:i-C.length=0:=by
   grind
  rw[D]at g;cases g;refine⟨a,?_,h⟩;rw[Qa0 (by rw[z.1];lia),z.1,D];rfl
def YB.nil{H:Hp}:YB H [] []:=⟨U,λi r g=>by cases g⟩
def YB.at{H:Hp}{zs:A0}{g:Ax}(z:YB H zs g){i:Nat}{v:V}(h:zs[i]?=some v):∃a r,v=V.ref a/\g[i]?=some r/\H a=some (.tup r):=by
 have l:=(Qah.mp h).1;rw[z.1]at l;obtain⟨a,q,C⟩:=z.2 i _ (Qad l);exact⟨a,_,Option.some.inj (h.symm.trans q),Qad l,C⟩
def nk(l:Ak):Ay:=J0 (l.map (Sum.inl:Int->Key))
def Zf0{l:Ak}(h:l.Nodup):(l.map (Sum.inl:Int->Key)).Nodup:=by grind
def uh{l:Ak}{s:Int}:(Sum.inl s:Key)∈l.map Sum.inl↔s∈l:=by grind
def Zf1{l:Ak}{s:Int}(h:s∈l)(g:l.Nodup):Yp (nk l) (.inl s)=some (.int (l.idxOf s:Int)):=by
 have:=zE _ _ (uh.mpr h) (Zf0 g);have e:=idx_map (β:=Key) Sum.inl (λ_ _=>Sum.inl.inj) s l;rw[e]at this;exact this
def Zni{l:Ak}{s:Int}(h:s∉l):Yp (nk l) (.inl s)=none:=y7 _ _ λz=>h (uh.mp z)
def nk_len(l:Ak):(nk l).length=l.length:=by
 unfold nk;rw[wb,Qac]
def nk_put{l:Ak}{s:Int}(h:s∉l):putK (nk l) (.inl s) (.int (l.length:Int))=nk (l++[s]):=by
 unfold nk;rw[Qbd];show _=J0 (l.map Sum.inl++[Sum.inl s]);rw[y6,Qac];unfold putK;rw[Qa6 λz=>?_];rw[Qdf]at z;obtain⟨p,g,e⟩:=z;have:p.1∈(J0 _).map _:=Qcw g;rw[qU,Qba e]at this;exact h (uh.mp this)
def Zpy(nx:Ad)(l:Aj)(i:Nat):Aj:=(nx.getD (l.getD i 0) []).foldl Y6 l
def bfsN(nx:Ad)(b:Nat):Nat->List Nat
 |0=>[b]
 |i+1=>Zpy nx (bfsN nx b i) i
theorem yH(r:Aj):∀l:Aj,l.Nodup->(r.foldl Y6 l).Nodup:=by
 induction r with
 |nil=>exactλl h=>h
 |cons k r g=>exactλl h=>g _ (JX h k)
theorem zk(r:Aj){x:Nat}:∀l:Aj,x∈r.foldl Y6 l↔x∈l\/x∈r:=by
 induction r with
 |nil=>intro l;simp
 |cons k r g=>
  intro l;rw[Qfj,g,zg,Qaw,or_assoc]
def map_range{β:Type}(l:List g)(i:Nat)(D:l.length=i)(f:g->β)(q:Nat->β)(h:∀j a,l[j]?=some a->q j=f a):(List.range i).map q=l.map f:=by
 refine Qej λj=>?_
 by_cases C:j<i
 .grind
 .grind
theorem xb{H':Hp}{g:Ax}(h:∀b xs,H b=some (.tup xs)->H' b=some (.tup xs))(z:YB H u g):YB H' u g:=⟨z.1,λi r q=>by
 obtain⟨a,h1,h2⟩:=z.2 i r q;exact⟨a,h1,h _ _ h2⟩⟩
inductive SK(κ:Type)[DecidableEq κ]where
 |int (f:κ->Int) (inj:∀a b,f a=f b->a=b)
 |key (kn:KN κ)
def Xe(h:n<=10000000):n<sizeLine:=Qfd h (by decide)
section
variable {κ:Type}[DecidableEq κ]
def SK.at_:SK κ->Hp->κ->V->Prop
 |.int f _,_,k,v=>v=.int (f k)
 |.key kn,H,k,v=>∃a,v=.ref a/\kn.at_ H k a
def SK.dic:SK κ->Hp->Addr->List κ->Prop
 |.int f _,H,d,l=>H d=some (.dK (nk (l.map f)))
 |.key kn,H,d,l=>gu kn H d (J0 l)
def SK.keep{sk:SK κ}{H H':Hp}{k:κ}{v:V}(h:sk.at_ H k v)(e:∀b xs,H b=some (.tup xs)->H' b=some (.tup xs)):sk.at_ H' k v:=by
 cases sk with
 |int f _=>exact h
 |key kn=>
  obtain⟨a,rfl,g⟩:=h;exact⟨a,U,kn.keep _ _ _ _ e g⟩
def Zf2{kn:KN κ}{d:Au}{kvs:List (κ×V)}(n:gu kn H d kvs):∃o,H d=some o/\(∀xs,o≠.tup xs)/\∀xs,o≠.lst xs:=by
 rcases n.2.2 with⟨_,e⟩|⟨ys,e,_⟩
 .grind
 .grind
def SK.ne{sk:SK κ}{d:Au}{l:List κ}(h:sk.dic H d l):∃o,H d=some o/\(∀xs,o≠.tup xs)/\∀xs,o≠.lst xs:=by
 cases sk with
 |int f _=>exact⟨_,h,(λ_ z=>nomatch z),λ_ z=>nomatch z⟩
 |key kn=>exact Zf2 h
def Zi3{kn:KN κ}{H':Hp}{d:Au}{kvs:List (κ×V)}(n:gu kn H d kvs)(g:∀o,H d=some o->H' d=some o)(e:∀b xs,H b=some (.tup xs)->H' b=some (.tup xs)):gu kn H' d kvs:=by
 obtain⟨C,D,n3⟩:=n;refine⟨C,D,?_⟩;rcases n3 with⟨e1,e2⟩|⟨ys,e1,e2⟩
 .exact .inl ⟨e1,g _ e2⟩
 .exact .inr ⟨ys,g _ e1,Paired.mapP e2 λp q h=>⟨h.1,kn.keep _ _ _ _ e h.2.1,h.2.2⟩⟩
def SK.stay{sk:SK κ}{H':Hp}{d:Au}{l:List κ}(h:sk.dic H d l)(g:∀o,H d=some o->H' d=some o)(e:∀b xs,H b=some (.tup xs)->H' b=some (.tup xs)):sk.dic H' d l:=by
 cases sk with
 |int f _=>exact g _ h
 |key kn=>exact Zi3 h g e
def SK.off{sk:SK κ}{d:Au}{l:List κ}{xs:A0}{o:HO}(h:sk.dic H d l)(e:H f=some (.lst xs)):sk.dic (upd H f o) d l:=by
 obtain⟨u,D,_,C⟩:=SK.ne h;have g:d≠f:=λz=>by
  grind
 exact SK.stay h (λo e=>by rw[Zm g];exact e) λb ys q=>by rw[Zm (Xv q e λz=>nomatch z)];exact q
def StA(sk:SK κ)(H:Hp)(l:List κ)(vs:A0):Prop:=vs.length=l.length/\∀(i:Nat)(k:κ),l[i]?=some k->∃v,vs[i]?=some v/\sk.at_ H k v
theorem StA.keep{sk:SK κ}{H H':Hp}{l:List κ}{vs:A0}(h:StA sk H l vs)(e:∀b xs,H b=some (.tup xs)->H' b=some (.tup xs)):StA sk H' l vs:=⟨h.1,λi k g=>by
 obtain⟨v,h1,h2⟩:=h.2 i k g;exact⟨v,h1,SK.keep h2 e⟩⟩
def StA.snoc{sk:SK κ}{l:List κ}{vs:A0}{k:κ}{v:V}(h:StA sk H l vs)(D:sk.at_ H k v):StA sk H (l++[k]) (vs++[v]):=by
 refine⟨by rw[Qaf,Qaf,h.1];rfl,λi q g=>?_⟩
 by_cases e:i<l.length
 .rw[Qa8 e]at g;rw[Qa8 (by rw[h.1];exact e)];exact h.2 i q g
 .rw[Qa0 (by lia)]at g;have C:i-l.length=0:=by
   grind
  rw[C]at g;cases g;refine⟨v,?_,D⟩;rw[Qa0 (by rw[h.1];lia),h.1,C];rfl
def StA.one{sk:SK κ}{k:κ}{v:V}(C:sk.at_ H k v):StA sk H [k] [v]:=StA.snoc (l:=[]) (vs:=[]) ⟨U,λi q g=>by cases g⟩ C
def bfS(nx:κ->List κ)(l:List κ)(i:Nat):List κ:=match l[i]? with
 |some s=>(nx s).foldl Y6 l
 |none=>l
def bfN(nx:κ->List κ)(b:κ):Nat->List κ
 |0=>[b]
 |i+1=>bfS nx (bfN nx b i) i
structure BfE(nx:κ->List κ)(b:κ)(l:List κ):Prop where
 e:l=bfN nx b l.length
 go:∀i,i<l.length->i<(bfN nx b i).length
theorem jb(r:List κ):∀l:List κ,l.Nodup->(r.foldl Y6 l).Nodup:=by
 induction r with
 |nil=>exactλl h=>h
 |cons k r g=>exactλl h=>g _ (JX h k)
theorem jc(r:List κ){x:κ}:∀l:List κ,x∈r.foldl Y6 l↔x∈l\/x∈r:=by
 induction r with
 |nil=>intro l;simp
 |cons k r g=>
  intro l;rw[Qfj,g,zg,Qaw,or_assoc]
theorem Zf3(r:List κ):∀l:List κ,(r.foldl Y6 l).length<=l.length+r.length:=by
 induction r with
 |nil=>exactλl=>Qai _
 |cons k r g=>
  intro l;have h1:=g (Y6 l k);have h2:=Zif l k;rw[Qfj,Qb3];lia
variable {nx:κ->List κ}{b:κ}
theorem qk:∀i,(bfN nx b i).Nodup
 |0=>Qcj.mpr ⟨Qbq,Qdl⟩
 |i+1=>by
  show(bfS nx _ i).Nodup;unfold bfS;split
  .exact jb _ _ (qk i)
  .exact qk i
theorem Zcf{Ua:List κ}(C:b∈Ua)(g:∀s∈Ua,∀x∈nx s,x∈Ua):∀i,∀s∈bfN nx b i,s∈Ua
 |0,s,h=>by rw[Qau.mp h];exact C
 |i+1,s,h=>by
  have h:s∈bfS nx _ i:=h;unfold bfS at h;split at h
  .rename_i q D;rcases(jc _ _).mp h with z|z
   .exact Zcf C g i s z
   .exact g q (Zcf C g i q (Qag D)) s z
  .exact Zcf C g i s h
def Za9{Ua:List κ}(g:b∈Ua)(q:∀s∈Ua,∀x∈nx s,x∈Ua)(i:Nat):(bfN nx b i).length<=Ua.length:=JY (qk i) (Zcf g q i)
def vE{s:κ}(h:(bfN nx b i)[i]?=some s):bfN nx b (i+1)=(nx s).foldl Y6 (bfN nx b i):=by
 show bfS nx _ i=_;unfold bfS;rw[h]
theorem yI(j:Nat):∀d,∃r,bfN nx b (j+d)=bfN nx b j++r
 |0=>⟨[],(Qbk _).symm⟩
 |d+1=>by
  obtain⟨r,e⟩:=yI j d;show∃r,bfS nx (bfN nx b (j+d)) _=_;unfold bfS;split
  .obtain⟨g,e2⟩:=GZ (nx _) _;exact⟨r++g,by rw[e2,e,Qcm]⟩
  .exact⟨r,e⟩
def Zpz{j:Nat}{s:κ}(q:j<=i)(g:(bfN nx b j)[j]?=some s):(bfN nx b i)[j]?=some s:=by
 obtain⟨r,e⟩:=yI (b:=b) j _;rw[show j+(i-j)=i by lia]at e;rw[e,Qa8 (Qah.mp g).1];exact g
def rowG(nx:κ->List κ)(b:κ)(j:Nat):Aj:=match (bfN nx b j)[j]? with
 |some s=>(nx s).map λx=>(bfN nx b (j+1)).idxOf x
 |none=>[]
def jO(nx:κ->List κ)(b:κ)(i:Nat):Ax:=(List.range i).map λj=>vD (rowG nx b j)
def Zqf(nx:κ->List κ)(ot:κ->List V)(b:κ)(j:Nat):A0:=match (bfN nx b j)[j]? with
 |some s=>ot s
 |none=>[]
def vF(nx:κ->List κ)(ot:κ->List V)(b:κ)(i:Nat):Ax:=(List.range i).map (Zqf nx ot b)
def Zcg{s:κ}(h:(bfN nx b i)[i]?=some s):jO nx b (i+1)=jO nx b i++[((nx s).map λx=>Xd ((bfN nx b (i+1)).idxOf x))]:=by
 unfold jO;rw[Qdo,Qbd];show _++[vD _]=_;unfold rowG vD;rw[h];rw[Qb7];rfl
def Zch{ot:κ->List V}{s:κ}(h:(bfN nx b i)[i]?=some s):vF nx ot b (i+1)=vF nx ot b i++[ot s]:=by
 unfold vF;rw[Qdo,Qbd];show _++[Zqf nx ot b i]=_;unfold Zqf;rw[h]
def rnG(nx:κ->List κ)(l:List κ):Ad:=l.map λs=>(nx s).map λx=>l.idxOf x
def Xm(nx:κ->List κ)(l:List κ):(rnG nx l).length=l.length:=Qac _
def uk{j:Nat}{a:κ}(D:(bfN nx b i).length=i)(C:∀j,j<i->j<(bfN nx b j).length)(q:(bfN nx b i)[j]?=some a):j<i/\(bfN nx b j)[j]?=some a:=by
 have g:j<i:=by grind
 refine⟨g,?_⟩;have e:=Qad (C j g);rw[Zpz (Qax g) e]at q;rw[e];exact q
def Zf4(g:(bfN nx b i).length=i)(q:∀j,j<i->j<(bfN nx b j).length):jO nx b i=(rnG nx (bfN nx b i)).map vD:=by
 unfold jO rnG;rw[Qb7];refine map_range _ i g _ _ λj a D=>?_;obtain⟨F,e⟩:=uk g q D;unfold rowG;rw[e];congr 1;refine Qci λx C=>?_;obtain⟨r,e2⟩:=yI (b:=b) _ _;rw[show j+1+(i-(j+1))=i by lia]at e2;rw[e2,Zfa];rw[vE e];exact(jc _ _).mpr (.inr C)
def Zf5{ot:κ->List V}(g:(bfN nx b i).length=i)(C:∀j,j<i->j<(bfN nx b j).length):vF nx ot b i=(bfN nx b i).map ot:=by
 refine map_range _ i g _ _ λj a q=>?_;obtain⟨D,e⟩:=uk g C q;unfold Zqf;rw[e]
end
def SqF(H1 H2:Hp)(r:Au)(g:A0):Prop:=H2 r=some (.tup g)\/(H2 r=some (.lst g)/\H1 r=none)
def Zi4{xs:A0}{is:Aj}(F:∀R:VK,R (.ref a) H->A c H R)(q:H a=some (.tup xs)\/H a=some (.lst xs))(g:Nat->List V->Hp->Prop)(Q:g 0 [] H)(G:∀i zs H,g i zs H->zs.length<=sizeLine)(J:∀i zs H',g i zs H'->∀o,H a=some o->H' a=some o)
  (I:∀i x zs H (R:A0->Hp->Prop),(∀zs H,g (i+1) zs H->R zs H)->xs[i]?=some x->g i zs H->D (xJ is c (some x)) H λb H2=>if b=true then M (xJ is c (some x)) H2 λy Y=>R (zs++[y]) Y else R zs H2)
  (O:∀zs H,g xs.length zs H->∀p,H p=none->C (.ref p) (upd H p (.lst zs))):Zdl K A c H (Gb is D M c C)\/iTup K A c H (Gb is D M c C):=by
 rcases q with q|q
 .exact .inr (F _ ⟨a,U,⟨_,SqT.of q⟩,JV g Q G (λi zs H' h=>SqT.of (J i zs H' h _ q)) I O⟩)
 .exact .inl (F _ ⟨a,U,⟨_,SqL.of q⟩,GP g Q G (λi zs H' h=>SqL.of (J i zs H' h _ q)) I O⟩)
def ql:A0->List Int
 |[]=>[]
 |.int z::r=>((Builtin.Int.intBits z:Nat):Int)::ql r
 |_::r=>ql r
theorem wG:∀g:A0,(ql g).length<=g.length
 |[]=>Qai _
 |w::r=>by
  have:=wG r;cases w<;>simp[ql]<;>lia
theorem jd:∀(a b:A0),ql (a++b)=ql a++ql b
 |[],_=>rfl
 |w::r,b=>by
  have:=jd r b;cases w<;>simp[ql,this]
theorem je{z:Int}:∀{g:A0},V.int z∈g->((Builtin.Int.intBits z:Nat):Int)∈ql g
 |w::r,h=>by
  rcases Qaw.mp h with rfl|h
  .exact Qam
  .have:=je h;cases w<;>skip<;>first|exact this|exact Qak _ this
theorem Zba{m:Int}:∀{g:A0},m∈ql g->∃z:Int,V.int z∈g/\m=((Builtin.Int.intBits z:Nat):Int)
 |w::r,h=>by
  have go:m∈ql r->∃z:Int,V.int z∈w::r/\m=((Builtin.Int.intBits z)):=λh=>let⟨z,h1,h2⟩:=Zba h;⟨z,Qak _ h1,h2⟩;cases w with
  |int z=>
   rcases Qaw.mp h with rfl|h
   .exact⟨z,Qam,U⟩
   .exact go h
  |_=>exact go h
def Znj(h:0<=z):z<2^Builtin.Int.intBits z:=by
 unfold Builtin.Int.intBits;split
 .grind
 .obtain⟨n,rfl⟩:=Int.eq_ofNat_of_zero_le h;have:=Nat.lt_log2_self (n:=n)
  exact_mod_cast this
theorem bits_le{B:Nat}(h:0<=z)(hz:z<2^B):Builtin.Int.intBits z<=B:=by
 unfold Builtin.Int.intBits;split
 .exact Qbj _
 .rename_i e;obtain⟨n,rfl⟩:=Int.eq_ofNat_of_zero_le h;have g:n≠0:=λq=>e (by rw[q];rfl);have h2:=by exact_mod_cast hz
  exact(Nat.log2_lt g).mpr h2
theorem Zk6:∀(bs:Ak)(l:Nat),(∀b∈bs,b=0\/b=1)->bt (hor bs.reverse) l=bs.getD l 0
 |[],l,_=>xa l
 |b::r,l,h=>by
  rw[Qdh,v8];have g:=h b Qam;cases l with
  |zero=>
   unfold bt;show _=b;lia
  |succ l=>
   rw[YX,show(hor _*2+b)/2=hor r.reverse by lia,Zk6 r l λb g=>h b (Qak _ g)];rfl
def YZ(L:Nat)(ys:Ai)(y:Str):Int:=hor ((List.range L).map λl:Nat=>bt (l:Int) (ys.idxOf y)).reverse
def Ws[DecidableEq g]{l:List g}{x:g}(q:l.Nodup)(h:l[i]?=some x):l.idxOf x=i:=by grind
def Zi5{ys:Ai}{l:Nat}{y:Str}(q:ys.Nodup)(h:ys[i]?=some y)(g:l<L):bt (YZ L ys y) l=bt (l:Int) i:=by
 unfold YZ;rw[Ws q h,Zk6 _ _ λb C=>by
  obtain⟨c,_,rfl⟩:=Qa2.mp C;exact WL _ _]
 rw[Qat,Qal,Qd6 g];rfl
def lgB:A0->Nat
 |[]=>0
 |.int z::r=>max (Builtin.Int.intBits z) (lgB r)
 |_::r=>lgB r
theorem Zf6{z:Int}:∀{g:A0},V.int z∈g->Builtin.Int.intBits z<=lgB g
 |w::r,h=>by
  rcases Qaw.mp h with rfl|h
  .exact Nat.le_max_left _ _
  .have:=Zf6 h;cases w<;>simp[lgB]<;>lia
theorem Zf7:∀g:A0,lgB g=0\/∃z:Int,V.int z∈g/\lgB g=Builtin.Int.intBits z
 |[]=>.inl U
 |w::r=>by
  have go:(lgB _=lgB r)->lgB _=0\/∃z:Int,V.int z∈w::r/\lgB (w::r)=Builtin.Int.intBits z:=λe=>by
   rw[e];rcases Zf7 r with h|⟨z,h1,h2⟩
   .exact .inl h
   .grind
  cases w with
  |int z=>
   by_cases h:lgB r<=Builtin.Int.intBits z
   .exact .inr ⟨z,Qam,Nat.max_eq_left h⟩
   .exact go (Nat.max_eq_right (by lia))
  |_=>exact go U
def Zk7(h1:∀z:Int,V.int z∈u->Builtin.Int.intBits z<=L)(h2:L=0\/∃z:Int,V.int z∈u/\L=Builtin.Int.intBits z):L=lgB u:=by
 refine Nat.le_antisymm ?_ ?_
 .rcases h2 with h|⟨z,hz,h⟩
  .lia
  .rw[h];exact Zf6 hz
 .rcases Zf7 u with h|⟨z,hz,h⟩
  .lia
  .rw[h];exact h1 z hz
def YJ(g:A0):Nat:=(g.filter λw=>inV w (allR.map V.str)).length
def Zoo(nm:Ai)(cols:Str->Int)(g:A0)(s:Int×Ak):Ak×Ak:=XT nm cols s.1.toNat s.2 g
def nxT(nm:Ai)(cols:Str->Int)(g:A0)(L:Nat)(s:Int×Ak):List (Int×Ak):=(List.range (2^nm.length)).map λl=>(min (s.1+1) (L:Int),(Zoo nm cols g s).2.map λc=>bt c l)
def otT(nm:Ai)(cols:Str->Int)(g:A0)(q C:V)(s:Int×Ak):A0:=(List.range (2^nm.length)).map λl=>if bt ((Zoo nm cols g s).1.getD 0 0) l=1 then C else q
def Zop(g:Au)(H H':Hp):Prop:=∀b o,H b=some o->b≠g->H' b=some o
def Znk(H:Hp)(k:Int×Ak)(a:Au):Prop:=∃t,H a=some (.tup [.int k.1,.ref t])/\H t=some (.tup (k.2.map V.int))
def Znk.bits{k:Int×Ak}(h:Znk H k a):Zkp H k a:=by
 obtain⟨t,h1,h2⟩:=h;refine⟨t,h1,_,h2,?_⟩;rw[Qb7];rfl
def knQ:KN (Int×Ak)where
 knd:=knP.knd
 hsh:=knP.hsh
 at_:=Znk
 hash_eq:=knP.hash_eq
 ok:=λP w H h k a ok b=>knP.ok P w H h k a ok b.bits
 room:=knP.room
 room0:=knP.room0
 keep:=λH H' k a g ⟨t,e,e2⟩=>⟨t,g _ _ e,g _ _ e2⟩
def xN:Nat->List (Ak)
 |0=>[[]]
 |n+1=>(xN n).map (List.cons 0)++(xN n).map (List.cons 1)
theorem wH:∀n,(xN n).length=2^n
 |0=>rfl
 |n+1=>by
  show((xN n).map _++(xN n).map _).length=_;rw[Qaf,Qac,Qac,wH n];lia
theorem Xs:∀{n:Nat} {ks:Ak},ks∈xN n↔ks.length=n/\∀x∈ks,x=0\/x=1
 |0,ks=>by
  constructor
  .intro h;rw[Qau.mp h];exact⟨U,λx g=>by cases g⟩
  .rintro⟨h,_⟩;rw[Qbz h];exact Qau.mpr U
 |n+1,ks=>by
  show ks∈(xN n).map _++(xN n).map _↔_;rw[Qa7,Qa2,Qa2];constructor
  .rintro(⟨r,q,rfl⟩|⟨r,q,rfl⟩)
   .obtain⟨h1,h2⟩:=Xs.mp q;refine⟨by grind,λx g=>?_⟩;rcases Qaw.mp g with rfl|g
    .exact .inl U
    .exact h2 x g
   .obtain⟨h1,h2⟩:=Xs.mp q;refine⟨by grind,λx g=>?_⟩;rcases Qaw.mp g with rfl|g
    .exact .inr U
    .exact h2 x g
  .rintro⟨h1,h2⟩;cases ks with
   |nil=>cases h1
   |cons x r=>
    have q:=Xs.mpr ⟨by simpa using h1,λy C=>h2 y (Qak _ C)⟩;rcases h2 x Qam with rfl|rfl
    .exact .inl ⟨r,q,U⟩
    .exact .inr ⟨r,q,U⟩
def uni(g:Nat):Nat->List (Int×Ak)
 |0=>[]
 |n+1=>uni g n++(xN g).map λks=>((n:Int),ks)
theorem vG(g:Nat):∀n,(uni g n).length=n*2^g
 |0=>by rw[Nat.zero_mul];rfl
 |n+1=>by
  show(uni g n++(xN g).map _).length=_;rw[Qaf,Qac,vG g n,wH,Qhi]
theorem G9{g:Nat}{s:Int×Ak}:∀{n:Nat},s∈uni g n↔∃p:Nat,p<n/\s.1=(p:Int)/\s.2∈xN g
 |0=>⟨(λh=>nomatch h),λ⟨p,h,_⟩=>absurd h (Qei _)⟩
 |n+1=>by
  show s∈uni g n++(xN g).map _↔_;rw[Qa7,G9];constructor
  .grind
  .grind
def JF(w:V)(r:A0):YJ (w::r)=YJ r+if inV w (allR.map V.str)=true then 1 else 0:=by
 unfold YJ;rw[Qcy];split<;>rfl
theorem vH{ys:Ai}{cols:Str->Int}{pl:Nat}{kp:Ak}:∀q:A0,(∀w∈q,wB ys w)->(XT ys cols pl kp q).2.length=YJ q
 |[],_=>rfl
 |w::r,hw=>by
  have g:=vH (cols:=cols) (pl:=pl) (kp:=kp) r λw h=>hw w (Qak _ h);rw[JF];rcases hw w Qam with⟨y,rfl,h1,_⟩|⟨y,rfl,h1,h2,C,_⟩|⟨y,rfl,h1,h2,_⟩|⟨z,rfl,_⟩
  .show(if y∈allR then _ else _:Ak×Ak).2.length=_;rw[Qa9 h1,ZO,Qar h1,Qaf,g];rfl
  .show(if y∈allR then _ else if y∈ys then _ else _:Ak×Ak).2.length=_;rw[Qa6 h2,Qa6 C,ZO,Qan h2];exact g
  .show(if y∈allR then _ else if y∈ys then _ else _:Ak×Ak).2.length=_;rw[Qa6 h2,Qa9 h1,ZO,Qan h2];exact g
  .exact g
def vI{cols:Str->Int}(hw:∀w∈u,wB N w)(q:i=YJ u){s:Int×Ak}(C:s∈uni i (L+1)):∀x∈nxT N cols u L s,x∈uni i (L+1):=by
 intro x g;obtain⟨l,_,rfl⟩:=Qa2.mp g;obtain⟨p,h1,h2,F⟩:=G9.mp C;refine G9.mpr ⟨min (p+1) L,by lia,?_,Xs.mpr ⟨?_,λb D=>?_⟩⟩
 .grind
 .rw[Qac,q];exact vH u hw
 .obtain⟨c,_,rfl⟩:=Qa2.mp D;exact WL c l
def Zci{H':Hp}(s:ZD (hide R H) H')(q:∀c∈R,H' c=none):ZD H (Jc R H H')/\(∀t o,H' t=some o->Jc R H H' t=some o)/\∀t o,H' t=some o->hide R H t=none->H t=none:=by
 have m:∀t o,H' t=some o->t∉R:=λt o e m=>by grind
 refine⟨λb o e=>?_,λt o e=>by rw[Yy (m t o e)];exact e,λt o e h=>by rw[ZJ (m t o e)]at h;exact h⟩
 by_cases g:b∈R
 .rw[Jy g];exact e
 .rw[Yy g];exact s _ _ (by rw[ZJ g];exact e)
def yJ{H':Hp}{p:Au}{g:Ax}(R:zZ H p g)(e:∀b xs,H b=some (.tup xs)->H' b=some (.tup xs)):zZ H' p g:=by
 obtain⟨as,h1,h2,q⟩:=R;refine⟨as,e _ _ h1,h2,λi r hi=>?_⟩;obtain⟨a,C,D⟩:=q i r hi;exact⟨a,C,e _ _ D⟩
def Zf8{B:Nat}(g:∀z:Int,V.int z∈u->0<=z/\z<2^B):lgB u<=B:=by
 rcases Zf7 u with h|⟨z,hz,h⟩
 .lia
 .rw[h];exact bits_le (g z hz).1 (g z hz).2
def lgB_lt(h:V.int z∈u)(g:0<=z):z<2^lgB u:=Int.lt_of_lt_of_le (Znj g) (Zfm (Zf6 h))
def um(g:A0):Prop:=∀r,Wr (g++r)=Wr r+1/\(Yf r->Yf (g++r))
theorem yK:∀(ps:Ax),(∀p∈ps,um p)->∀r,Wr (ps.flatten++r)=Wr r+ps.length/\(Yf r->Yf (ps.flatten++r))
 |[],_,r=>⟨U,λh=>h⟩
 |p::ps,h,r=>by
  obtain⟨h1,h2⟩:=yK ps (λq C=>h q (Qak _ C)) r;obtain⟨D,g⟩:=h p Qam _;rw[Qe7,Qcm,Qb3];exact⟨by lia,λz=>g (h2 z)⟩
theorem yL{w:V}{ps:Ax}(g:npw w=ps.length)(h:∀p∈ps,um p):um (w::ps.flatten):=λr=>by
 obtain⟨h1,h2⟩:=yK ps h r;constructor
 .show Wr (ps.flatten++r)-npw w+1=_;lia
 .intro z;exact⟨by show npw w<=Wr (ps.flatten++r);lia,h2 z⟩
def Zcj{w:V}(h:npw w=0):um [w]:=yL (ps:=[]) h λp g=>by cases g
def um.one(h:um u):Yf u/\Wr u=1:=by
 have:=h [];rw[Qbk]at this;exact⟨this.2 trivial,this.1⟩
def Zbb{y:Str}(h:y∉YA):npw (.str y)=0:=by
 have k:∀p∈T1++T2++T3,p.1∈YA:=by decide +kernel
 show(GG T1 (.inr y)+GG T2 (.inr y)+GG T3 (.inr y)).toNat=0;have n:∀l:List _,(∀p∈l,p∈T1++T2++T3)->y∉l.map (·.1):=λl q z=>by
  grind
 rw[zR (n T1 λp g=>by simp[g]),zR (n T2 λp g=>by simp[g]),zR (n T3 λp g=>by simp[g])];rfl
theorem jf(z:Int):npw (.int z)=0:=by
 have k:∀l,GG l (.inl z)=0:=λl=>by
  induction l with
  |nil=>rfl
  |cons p r g=>
   exact g
 show(GG T1 _+GG T2 _+GG T3 _).toNat=0;rfl
def Zf9:∀y∈Gd,npw (.str y)=Ys y/\y∈YA:=by decide +kernel
def Zi6:∀y∈Wk,y∈YA:=by decide +kernel
def zl:∀y∈allR,y∈YA:=by decide +kernel
def JG{ys:Ai}{w:V}(g:∀y∈ys,y∉YA)(h:Zay ys w):XB ys 10 w/\npw w=0/\inV w (allR.map V.str)=false:=by
 rcases h with⟨y,h1,rfl⟩|⟨z,rfl,q,h1⟩
 .refine⟨.inr (.inl ⟨y,U,h1,λz=>g y h1 (Zi6 y z),Zbb (g y h1)⟩),Zbb (g y h1),?_⟩;rw[ZO];exact Qan λz=>g y h1 (zl y z)
 .exact⟨.inr (.inr ⟨z,U,q,by lia,jf z⟩),jf z,vy z _⟩
def WO{ys:Ai}{y:Str}(g:∀y∈ys,y∉YA)(h:y∈Gd):XB ys 10 (.str y)/\npw (.str y)=Ys y/\inV (.str y) (allR.map V.str)=decide (y∈Wk):=by
 obtain⟨h1,h2⟩:=Zf9 y h;refine⟨.inl ⟨y,U,h,λz=>g y z h2,h1⟩,h1,?_⟩;rw[ZO,Qd2,Qb9,Qb9];exact vz y h
def zm(a b:A0):YJ (a++b)=YJ a+YJ b:=by
 unfold YJ;rw[Qc9,Qaf]
def Zbc:∀y∈Gd,y∉allR->y∈Ziw/\npw (.str y)=Ziv y:=by decide +kernel
def Znl:∀y∈allR,y∈Gd->1<=npw (.str y)/\(y∈Zon->2<=npw (.str y)):=by decide +kernel
def Zi7{ys:Ai}{B:Nat}{w:V}(C:∀y∈ys,y∉YA)(h:XB ys B w):wB ys w:=by
 rcases h with⟨y,rfl,h1,h2,q⟩|⟨y,rfl,h1,h2,q⟩|⟨z,rfl,D,_,q⟩
 .by_cases g:y∈allR
  .exact .inl ⟨y,U,g,h2,Znl y g h1⟩
  .exact .inr (.inl ⟨y,U,(Zbc y h1 g).1,g,h2,(Zbc y h1 g).2⟩)
 .exact .inr (.inr (.inl ⟨y,U,h1,λz=>C y h1 (zl y z),q⟩))
 .exact .inr (.inr (.inr ⟨z,U,D,q⟩))
def uo(ys:Ai)(g:Ax):Prop:=∀ps∈g,um ps/\∀w∈ps,XB ys 10 w
def uo.word{ys:Ai}{q:Ax}{y:Str}(F:∀y∈ys,y∉YA)(g:uo ys q)(h:y∈Gd)(J:Ys y=n)(I:n<=q.length):uo ys (q.take (q.length-n)++[.str y::(q.drop (q.length-n)).flatten]):=by
 obtain⟨D,O,G⟩:=WO F h;intro ps C;rcases Qa7.mp C with C|C
 .exact g ps (Qbw C)
 .rw[Qau.mp C];refine⟨yL (by grind) λp C=>(g p (Qcr C)).1,λw hw=>?_⟩;rcases Qaw.mp hw with rfl|hw
  .exact D
  .obtain⟨p,C,hw⟩:=List.mem_flatten.mp hw;exact(g p (Qcr C)).2 w hw
def wI(g:Ax)(w:V)(n:Nat):(g.take n++[w::(g.drop n).flatten]).flatten.length=g.flatten.length+1/\YJ (g.take n++[w::(g.drop n).flatten]).flatten=YJ g.flatten+if inV w (allR.map V.str)=true then 1 else 0:=by
 have e:g.flatten=(g.take n).flatten++(g.drop n).flatten:=by rw[<-Qcx,Qbx]
 rw[Qcx,Qe7,Qfy,Qbk,e];constructor
 .grind
 .rw[zm,zm,JF];lia
theorem YB.take{H:Hp}{zs:A0}{q:Ax}(z:YB H zs q)(n:Nat):YB H (zs.take n) (q.take n):=by
 refine⟨by rw[Qas,Qas,z.1],λi r g=>?_⟩;rw[Qeu]at g ⊢;split at g
 .rename_i lt;rw[Qa9 lt];exact z.2 i r g
 .cases g
def YB.drop{H:Hp}{zs:A0}{q:Ax}(z:YB H zs q)(n:Nat):YB H (zs.drop n) (q.drop n):=by
 refine⟨by rw[Qbn,Qbn,z.1],λi r g=>?_⟩;rw[List.getElem?_drop]at g ⊢;exact z.2 _ r g
def Zbd{xs:List g}{j:Nat}{v:g}(h:xs[j]?=some v)(q:j+n=xs.length)(h1:1<=n):atI xs (-(n:Int))=some v:=by
 unfold atI ixN;rw[Qa6 (by lia),Qa9 (by lia)];rw[show(-(n:Int)+xs.length).toNat=j by lia];exact h
def wJ{xs:A0}(g:n<=xs.length)(h1:1<=n):qK xs none (some (-(n:Int)))=xs.take (xs.length-n):=by
 unfold qK;simp[HT.sIx];rw[Qa9 (by lia),show(-(n:Int)+xs.length).toNat=xs.length-n by lia];simp
def Jq(ls:Aj)(ys:Ai)(y:Str):Int:=sm (λk=>bt ((ls.getD k 0:Nat):Int) (ys.idxOf y)) ls.length
def Znm(ls:Aj)(ys:Ai)(y:Str):0<=Jq ls ys y/\Jq ls ys y<2^ls.length:=qh (λ_=>WL _ _) _
def Znn{ls:Aj}{ys:Ai}{k l:Nat}{y:Str}(q:ys.Nodup)(h:ys[i]?=some y)(g:ls[k]?=some l):bt (Jq ls ys y) k=bt (l:Int) i:=by
 unfold Jq;rw[Ws q h];have:=Zfu (b:=λk=>bt ((ls.getD k 0)) i) (λ_=>WL _ _) k _ (Qah.mp g).1;rw[Qat,g]at this;exact this
structure Runs(nx:Ad)(ot:Ax)(n:Nat):Prop where
 pos:0<nx.length
 ol:ot.length=nx.length
 nr:∀r∈nx,r.length=2^n
 nl:∀r∈nx,∀s∈r,s<nx.length
 or:∀r∈ot,r.length=2^n
def stN(nx:Ad):Nat->List Nat->Nat
 |s,[]=>s
 |s,c::r=>stN nx ((nx.getD s []).getD c 0) r
def rnO(nx:Ad)(ot:Ax):Nat->List Nat->List V
 |_,[]=>[]
 |s,c::r=>(ot.getD s []).getD c .non::rnO nx ot ((nx.getD s []).getD c 0) r
theorem WQ(nx:Ad):∀(s:Nat)(ls:Aj)(c:Nat),stN nx s (ls++[c])=(nx.getD (stN nx s ls) []).getD c 0
 |_,[],_=>rfl
 |s,d::r,c=>WQ nx _ r c
theorem Zbe(nx:Ad)(ot:Ax):∀(s:Nat)(ls:Aj)(c:Nat),rnO nx ot s (ls++[c])=rnO nx ot s ls++[(ot.getD (stN nx s ls) []).getD c .non]
 |_,[],_=>rfl
 |s,d::r,c=>congrArg _ (Zbe nx ot _ r c)
theorem vJ(nx:Ad)(ot:Ax):∀(s:Nat)(ls:Aj),(rnO nx ot s ls).length=ls.length
 |_,[]=>rfl
 |s,d::r=>congrArg _ (vJ nx ot _ r)
def getD_at{l:List g}{d:g}(h:i<l.length):l[i]?=some (l.getD i d):=by grind
theorem yM{ys:Ai}{ν g:Str->Int}{pl:Nat}{kp:Ak}(h:∀y∈ys,ν y=g y):∀q:A0,Zhf ys ν pl kp q=Zhf ys g pl kp q
 |[]=>rfl
 |w::r=>by
  have D:=yM (pl:=pl) (kp:=kp) h r;unfold Zhf;rw[D];cases w with
  |str y=>
   by_cases C:y∈Wk
   .simp[Qa9 C]
   .grind
  |_=>rfl
theorem Zbf{m:Int}{ρ:Str->Int}{k:Nat}:∀{g:A0},∀x∈zi m ρ g k,x=0\/x=1
 |w::r,x,h=>by
  rcases Qa7.mp h with h|h
  .exact Zbf x h
  .split at h
   .rw[Qau.mp h];exact hld_01 _ _ _
   .cases h
def Zno(m:Int)(ρ:Str->Int)(g:A0)(k i:Nat):(zi m ρ g k).getD i 0=0\/(zi m ρ g k).getD i 0=1:=by
 rw[Qat];cases e:(zi m ρ g k)[i]? with
 |none=>exact .inl U
 |some x=>exact Zbf x (Qag e)
theorem wK(m:Int)(ρ:Str->Int):∀g:A0,zi m ρ g 0=List.replicate (g.filter qg).length 0
 |[]=>rfl
 |w::r=>by
  show zi m ρ r 0++_=_;rw[wK m ρ r,Qcy];split
  .rw[Zit,Qb3,Qf3]
  .rw[Qbk]
theorem jg{ys:Ai}{B:Nat}(q:∀y∈ys,y∉YA):∀{g:A0},(∀w∈g,XB ys B w)->YJ g=(g.filter qg).length
 |[],_=>rfl
 |w::r,h=>by
  rw[JF,jg q (λv C=>h v (Qak _ C)),Qcy];have e:inV w (allR.map V.str)=qg w:=by
   rcases h w Qam with⟨y,rfl,h1,_⟩|⟨y,rfl,h1,h2,_⟩|⟨z,rfl,_⟩
   .rw[ZO];show decide _=decide _;rw[Qd2,Qb9,Qb9];exact vz y h1
   .rw[ZO,Qan λz=>q y h1 (zl y z)];exact(Qan h2).symm
   .exact vy z _
  rw[e];split<;>rfl
section
variable {κ:Type}[DecidableEq κ]{nx:κ->List κ}{b:κ}{l:List κ}
def jh{x:κ}(h:x∈l):l[l.idxOf x]?=some x:=by grind
def BfE.len(B:BfE nx b l):(bfN nx b l.length).length=l.length:=by rw[<-B.e]
def BfE.here(B:BfE nx b l){j:Nat}{s:κ}(h:l[j]?=some s):j<l.length/\(bfN nx b j)[j]?=some s:=uk B.len B.go (by rw[<-B.e];exact h)
def BfE.sub(B:BfE nx b l){j:Nat}(g:j<=l.length){x:κ}(h:x∈bfN nx b j):x∈l:=by
 obtain⟨r,e⟩:=yI (b:=b) j _;rw[show j+(l.length-j)=l.length by lia,<-B.e]at e;rw[e];exact Qbs _ h
def BfE.begin(B:BfE nx b l):l[0]?=some b/\b∈l:=by
 have g:=B.sub (Qbj _) (Qau.mpr U);have e:=Zpz (nx:=nx) (i:=l.length) (Qbj _) (s:=b) rfl;rw[<-B.e]at e;exact⟨e,g⟩
def BfE.next(B:BfE nx b l){s x:κ}(h:s∈l)(q:x∈nx s):x∈l:=by
 obtain⟨j,g⟩:=Qea.mp h;obtain⟨h1,h2⟩:=B.here g;refine B.sub h1 ?_;rw[vE h2];exact(jc _ _).mpr (.inr q)
def BfE.nodup(B:BfE nx b l):l.Nodup:=by
 rw[B.e];exact qk _
def ixG(l:List κ)(x:κ):Nat:=l.idxOf x
def BfE.zero(B:BfE nx b l):ixG l b=0:=Ws B.nodup B.begin.1
def Zga(h:∀s∈l,∀x∈nx s,x∈l){s:κ}(g:s∈l):(rnG nx l).getD (ixG l s) []=(nx s).map λx=>ixG l x:=by
 unfold rnG ixG;rw[Qat,Qal,jh g];rfl
def Znp{ot:κ->List V}{s:κ}(g:s∈l):(l.map ot).getD (ixG l s) []=ot s:=by
 unfold ixG;rw[Qat,Qal,jh g];rfl
end
def yN{ls:Aj}{W k c:Nat}(g:N.Nodup)(I:∀y∈N,y∉YA)(hw:∀w∈u,XB N 10 w)(Q:Yf u)(O:k<W)(Y:ls[k]?=some c)(C:c<2^N.length):
  (Zoo N (YZ (2^N.length) N) u (min (k:Int) (lgB u:Int),zi (2^W) (Jq ls N) u k)).1.map (λx=>bt x c)=(YG (2^W) (Jq ls N) u).map (λx=>bt x k)/\(Zoo N (YZ (2^N.length) N) u (min (k:Int) (lgB u:Int),zi (2^W) (Jq ls N) u k)).2.map (λx=>bt x c)=zi (2^W) (Jq ls N) u (k+1):=by
 have D:∀w∈u,XB N (lgB u) w:=λw h=>by
  rcases hw w h with z|z|⟨z,rfl,G,_,J⟩
  .exact .inl z
  .exact .inr (.inl z)
  .exact .inr (.inr ⟨z,U,G,lgB_lt h G,J⟩)
 obtain⟨e1,e2⟩:=wF (Zno (2^W) _ u k) (λy q z=>I y q (zl y z)) c u hw;have F:∀y∈N,bt _ c=bt _ k:=λy q=>by
  obtain⟨i,hi⟩:=Qea.mp q;rw[Zi5 g hi C,Znn g hi Y]
 have e3:=yM (pl:=(min (k:Int) (lgB u:Int)).toNat) (kp:=zi (2^W) (Jq ls N) u k) F u;have Z:=Zk1 (ρ:=Jq ls N) (pl:=(min (k:Int) (lgB u:Int)).toNat) O (by lia) _ u D Q ⟨[],(Qbk _).symm⟩;rw[e3,Z]at e1 e2;exact⟨e1,e2⟩
theorem vK{ls:Aj}{W:Nat}{o:Int}{l:List (Int×Ak)}(F:N.Nodup)(J:∀y∈N,y∉YA)(hw:∀w∈u,XB N 10 w)(Q:Yf u)(hW:ls.length<=W)(I:∀x∈ls,x<2^N.length)(ho:YG (2^W) (Jq ls N) u=[o])
  (B:BfE (nxT N (YZ (2^N.length) N) u (lgB u)) (0,List.replicate (YJ u) 0) l):
  ∀k,k<ls.length->(rnO (rnG (nxT N (YZ (2^N.length) N) u (lgB u)) l) (l.map (otT N (YZ (2^N.length) N) u (.int 0) (.int 1))) 0 ls)[k]?=some (.int (bt o k)):=by
 have cl:∀s∈l,∀x∈nxT N (YZ (2^N.length) N) u (lgB u) s,x∈l:=λs Y x hx=>B.next Y hx;have e0:((0:Int),List.replicate (YJ u) (0:Int))=(min ((0:Nat):Int) (lgB u:Int),zi (2^W) (Jq ls N) u 0):=by
  rw[wK,jg J hw,show min ((0:Nat):Int) (lgB u:Int)=0 by lia]
 have step:∀k,k<=ls.length->stN (rnG (nxT N (YZ (2^N.length) N) u (lgB u)) l) 0 (ls.take k)=ixG l (min (k:Int) (lgB u:Int),zi (2^W) (Jq ls N) u k)/\(min (k:Int) (lgB u:Int),zi (2^W) (Jq ls N) u k)∈l:=by
  intro k
  induction k with
  |zero=>
   intro _;rw[<-e0];exact⟨B.zero.symm,B.begin.2⟩
  |succ k O=>
   intro hk1;obtain⟨i1,i2⟩:=O (by lia);obtain⟨c,D⟩:∃c,ls[k]?=some c:=⟨_,Qad (by lia)⟩;have C:=I c (Qag D);obtain⟨_,e2⟩:=yN F J hw Q (show k<W by lia) D C;have en:(nxT N (YZ (2^N.length) N) u (lgB u) (min (k:Int) (lgB u:Int),zi (2^W) (Jq ls N) u k))[c]?=some (min ((k+1:Nat):Int) (lgB u:Int),zi (2^W) (Jq ls N) u (k+1)):=by
    unfold nxT;rw[zj C,e2];congr 2;lia
   refine⟨?_,B.next i2 (Qag en)⟩;rw[take_snoc D,WQ,i1,Zga cl i2,Qat,Qal,en];rfl
 intro k G;obtain⟨i1,i2⟩:=step k (by lia);obtain⟨c,D⟩:∃c,ls[k]?=some c:=⟨_,Qad G⟩;have C:=I c (Qag D);obtain⟨e1,_⟩:=yN F J hw Q (show k<W by lia) D C;have ek:ls=ls.take k++c::ls.drop (k+1):=by
  rw[show c::ls.drop (k+1)=ls.drop k by rw[Qb2 G];congr 1;exact(Qah.mp D).2.symm,Qbx]
 have go:∀(nx:Ad)(ot:Ax)(s:Nat)(a:Aj)(c:Nat)(r:Aj),(rnO nx ot s (a++c::r))[a.length]?=some ((ot.getD (stN nx s a) []).getD c .non):=λnx ot s a c r=>by
  induction a generalizing s with
  |nil=>rfl
  |cons d a O=>exact O _
 have g:=go (rnG (nxT N (YZ (2^N.length) N) u (lgB u)) l) (l.map (otT N (YZ (2^N.length) N) u (.int 0) (.int 1))) 0 (ls.take k) c (ls.drop (k+1));rw[<-ek,Qas,Qdq (by lia),i1,Znp i2]at g;rw[g];congr 1;unfold otT;rw[Qat,zj C];rw[ho]at e1;generalize (Zoo N (YZ (2^N.length) N) u (min (k:Int) (lgB u:Int),zi (2^W) (Jq ls N) u k)).1=q at e1 ⊢;have Z:q.length=1:=by
  have:=congrArg List.length e1;rw[Qac]at this;exact this
 match q,Z,e1 with
 |[x],_,e1=>
  have e1:bt x c=bt o k:=by
   injection e1
  show(if bt x c=1 then V.int 1 else V.int 0)=_;rw[e1];rcases WL o k with h|h<;>rw[h]<;>rfl
structure XC(nm:Ai)(ws:A0):Prop where
 n3:nm.length<=3
 nd:nm.Nodup
 kp:∀y∈nm,y∉YA
 ln:ws.length<=100
 wd:∀w∈ws,XB nm 10 w
 en:Yf ws
 st:Wr ws=1
 rm:YJ ws<=15
abbrev nxS(nm:Ai)(g:A0):Int×Ak->List (Int×Ak):=nxT nm (YZ (2^nm.length) nm) g (lgB g)
abbrev otS(nm:Ai)(g:A0):Int×Ak->List V:=otT nm (YZ (2^nm.length) nm) g (.int 0) (.int 1)
def XC.wc(S:XC N u):∀w∈u,wB N w:=λw h=>Zi7 S.kp (S.wd w h)
theorem XC.iz(S:XC N u):∀z:Int,V.int z∈u->0<=z/\z<2^10:=λz h=>by
 rcases S.wd _ h with⟨y,e,_⟩|⟨y,e,_⟩|⟨q,e,g,h1,_⟩
 .cases e
 .cases e
 .cases e;exact⟨g,h1⟩
def XC.big(S:XC N u):(10+1)*2^YJ u<=1000000:=by
 have:2^YJ u<=2^15:=Qcq (by decide) S.rm;lia
def XC.len{l:List (Int×Ak)}(S:XC N u)(B:BfE (nxS N u) (0,List.replicate (YJ u) 0) l):l.length<=1000000:=by
 have h:=Za9 (nx:=nxS N u) (b:=(0,List.replicate _ 0)) (G9.mpr ⟨0,by lia,U,Xs.mpr ⟨Qbh,λx g=>.inl (Qek g)⟩⟩) (λs q=>vI S.wc U q) l.length;rw[<-B.e,vG]at h;have h2:=Zf8 S.iz;have C:=S.big;exact Qaz h (Qaz (Qed _ (by lia)) C)
def Znq(nm:Ai)(cols:Str->Int)(g:A0)(L:Nat)(s:Int×Ak):(nxT nm cols g L s).length=2^nm.length:=by
 unfold nxT;rw[Qac,Qa3]
def Znr(nm:Ai)(cols:Str->Int)(g:A0)(q C:V)(s:Int×Ak):(otT nm cols g q C s).length=2^nm.length:=by
 unfold otT;rw[Qac,Qa3]
section
variable {κ:Type}[DecidableEq κ]{nx:κ->List κ}{b:κ}{l:List κ}
def Zns(B:BfE nx b l)(D:∀s,(nx s).length=n):(∀r∈rnG nx l,r.length=n)/\∀r∈rnG nx l,∀s∈r,s<(rnG nx l).length:=by
 constructor
 .intro r g;obtain⟨s,_,rfl⟩:=Qa2.mp g;rw[Qac,D]
 .intro r g x q;obtain⟨s,F,rfl⟩:=Qa2.mp g;obtain⟨y,C,rfl⟩:=Qa2.mp q;rw[Xm];exact Qd5 (B.next F C)
theorem Zk8(B:BfE nx b l):∀i,i<=l.length->bfsN (rnG nx l) 0 i=(bfN nx b i).map (ixG l)
 |0,_=>by
  show[0]=[ixG l b];rw[B.zero]
 |i+1,h=>by
  have C:=Zk8 B i (by lia);obtain⟨s,q⟩:∃s,(bfN nx b i)[i]?=some s:=⟨_,Qad (B.go i (by lia))⟩;have F:s∈l:=B.sub (by lia) (Qag q);show Zpy (rnG nx l) _ i=_;rw[C];unfold Zpy;have e1:((bfN nx b i).map (ixG l)).getD i 0=ixG l s:=by grind
  rw[e1,Zga (λs q x g=>B.next q g) F,vE q];have inj:∀x∈l,∀y∈l,ixG l x=ixG l y->x=y:=λx g y J e=>by
   have h1:=jh g;have h2:=jh J;have e:l.idxOf x=l.idxOf y:=e;rw[e,h2]at h1;exact(Option.some.inj h1).symm
  have go:∀(r a:List κ),(∀x∈r,x∈l)->(∀x∈a,x∈l)->(r.map (ixG l)).foldl Y6 (a.map (ixG l))=(r.foldl Y6 a).map (ixG l):=by
   intro r
   induction r with
   |nil=>exactλa _ _=>U
   |cons k r C=>
    intro a I G;have D:=I k Qam;rw[Qb1,Qfj,Zav (ixG l) a k λx g e=>inj x (G x g) k D e];exact C _ (λx g=>I x (Qak _ g)) λx g=>by
     rcases zg.mp g with z|z
     .exact G x z
     .rw[z];exact D
  exact go _ _ (λx g=>B.next F g) λx g=>B.sub (by lia) g
end
def WS{H':Hp}{xs:A0}(h:SqL K H a xs)(s:ZD H H'):SqL K H' a xs:=by
 rcases h with h|h
 .rcases h with h|⟨u,h⟩
  .exact .inl (.inl (s _ _ h))
  .exact .inl (.inr ⟨u,s _ _ h⟩)
 .exact .inr h
def Zop.tup{g:Au}{H H':Hp}(o:Zop g H H'){q:Ah}(hz:H g=some (.tbl q)){b:Au}{xs:A0}(e:H b=some (.tup xs)):H' b=some (.tup xs):=o _ _ e (Xv e hz λz=>nomatch z)
def Zi8(ys:Ai)(f:Str->Int)(w:Nat):∃ls:Aj,((List.range w).map λk=>V.int (ltr ys f k))=ls.map Xd/\(∀l∈ls,l<2^ys.length)/\ls.length=w:=by
 have g:∀k,0<=ltr ys f k/\ltr ys f k<2^ys.length:=λk=>qh (λi=>Zpx _ _) _;refine⟨(List.range w).map λk=>(ltr ys f k).toNat,?_,λl q=>?_,by simp⟩
 .rw[Qb7];refine Qci λk _=>?_;show V.int _=V.int _;rw[Qdi (g k).1]
 .grind
def zZ.tups{H':Hp}{p:Au}{g:Ax}(R:zZ H p g)(e:∀b xs,H b=some (.tup xs)->H' b=some (.tup xs)):zZ H' p g:=by
 obtain⟨as,h1,h2,q⟩:=R;refine⟨as,e _ _ h1,h2,λi r hi=>?_⟩;obtain⟨a,C,D⟩:=q i r hi;exact⟨a,C,e _ _ D⟩
def M4.tups{H H':Hp}{m:Au}{nm:Ai}{b:Nat}{nx:Ad}{ot:Ax}(M:M4 H m nm b nx ot)(e:∀b xs,H b=some (.tup xs)->H' b=some (.tup xs)):M4 H' m nm b nx ot:=by
 obtain⟨pn,ps,q,h1,h2,g,C⟩:=M.ex;exact⟨⟨pn,ps,q,e _ _ h1,e _ _ h2,g.tups e,C.tups e⟩⟩
def ji{x:V}(C:XO j x)(q:XO j y):scal x y=true:=by
 rcases C with⟨e,a,rfl⟩|⟨e,a,rfl⟩<;>rcases q with⟨g,b,rfl⟩|⟨g,b,rfl⟩
 .rfl
 .rw[e]at g;cases g
 .rw[e]at g;cases g
 .rfl
def Zop.seq{H':Hp}{xs:A0}(e:Zop f H H')(q:∃ps,H f=some (.tbl ps))(h:SqL K H a xs):SqL K H' a xs:=by
 obtain⟨C,g⟩:=q;rcases h with(h|⟨o,h⟩)|h
 .exact .inl (.inl (e _ _ h (Xv h g λz=>nomatch z)))
 .exact .inl (.inr ⟨o,e _ _ h (Xv h g λz=>nomatch z)⟩)
 .exact .inr h
theorem Zk9{nx:Ad}{ot:Ax}{n:Nat}(R:Runs nx ot n):∀{ls:Aj} {s:Nat},s<nx.length->(∀x∈ls,x<2^n)->stN nx s ls<nx.length
 |[],s,h,_=>h
 |c::ls,s,h,g=>by
  have F:=g c Qam;have D:=R.nr _ (getD_mem h);have q:(nx.getD s []).getD c 0∈nx.getD s []:=Qag (getD_at (by lia));exact Zk9 (ls:=ls) R (R.nl _ (getD_mem h) _ q) λx C=>g x (Qak _ C)
section
variable {nx:Nat->Nat->Nat}{ok:Nat->Nat->Bool}{k:Nat}
def Y9(nx:Nat->Nat->Nat)(ok:Nat->Nat->Bool):Nat->List Nat->Bool
 |_,[]=>false
 |s,l::[]=>ok s l
 |s,l::m::r=>Y9 nx ok (nx s l) (m::r)
def XQ{s l:Nat}(h:r≠[]):Y9 nx ok s (l::r)=Y9 nx ok (nx s l) r:=by
 cases r with
 |nil=>exact absurd U h
 |cons m r=>rfl
def RIn:Aj->List (Aj)->Prop
 |[],[]=>True
 |l::r,L::Ls=>l∈L/\RIn r Ls
 |_,_=>False
theorem RIn.len:∀{r:Aj} {Ls:Ad},RIn r Ls->r.length=Ls.length
 |[],[],_=>rfl
 |_::_,_::_,h=>congrArg _ h.2.len
 |[],_::_,h=>h.elim
 |_::_,[],h=>h.elim
def RIn.uncons{L:Aj}{Ls:Ad}(h:RIn r (L::Ls)):∃l g,r=l::g/\l∈L/\RIn g Ls:=by
 cases r with
 |nil=>exact h.elim
 |cons l g=>exact⟨l,g,U,h.1,h.2⟩
def xO(k l:Nat):Nat:=l/2^k%2
def vL(k l:Nat):xO k l<2:=Nat.mod_lt _ (by decide)
def chs(k b:Nat)(L:Aj):Aj:=L.filter λl=>decide (xO k l=b)
def JH{b l:Nat}{L:Aj}:l∈chs k b L↔l∈L/\xO k l=b:=by
 unfold chs;rw[Qct,Qb9]
def valN(k:Nat):Aj->Nat
 |[]=>0
 |l::r=>xO k l+2*valN k r
def Zgb:Aj->Nat
 |[]=>0
 |b::r=>b+2*Zgb r
def gw(nx:Nat->Nat->Nat)(ok:Nat->Nat->Bool)(W:Option (Aj))(s l:Nat):Bool:=match W with
 |none=>ok s l
 |some W=>decide (nx s l∈W)
def goB(nx:Nat->Nat->Nat)(ok:Nat->Nat->Bool)(W:Option (Aj))(S L:Aj):Aj:=S.filter λs=>L.any λl=>gw nx ok W s l
def vM{W:Option (Aj)}{S L:Aj}{s:Nat}:s∈goB nx ok W S L↔s∈S/\∃l∈L,gw nx ok W s l=true:=by
 unfold goB;rw[Qct,Qdf]
def cho(k:Nat):Aj->List (Aj)->List (Aj)
 |b::bs,L::Ls=>chs k b L::cho k bs Ls
 |_,_=>[]
def wL(nx:Nat->Nat->Nat)(ok:Nat->Nat->Bool)(k:Nat)(W:Option (Aj))(S L:Aj):Nat:=if goB nx ok W S (chs k 0 L)=[]then 1 else 0
def lwb(nx:Nat->Nat->Nat)(ok:Nat->Nat->Bool)(k:Nat):Ad->List (Aj)->List Nat×Option (Aj)
 |S::g,L::Ls=>(wL nx ok k (lwb nx ok k g Ls).2 S L::(lwb nx ok k g Ls).1,some (goB nx ok (lwb nx ok k g Ls).2 S (chs k (wL nx ok k (lwb nx ok k g Ls).2 S L) L)))
 |_,_=>([],none)
def Zck(nx:Nat->Nat->Nat)(S L:Aj):Aj:=(S.flatMap λs=>L.map (nx s)).foldl Y6 []
def lys(nx:Nat->Nat->Nat):Aj->List (Aj)->List (Aj)
 |_,[]=>[]
 |S,L::Ls=>S::lys nx (Zck nx S L) Ls
def qm{S L:Aj}{x:Nat}:x∈Zck nx S L↔∃s∈S,∃l∈L,nx s l=x:=by
 unfold Zck;rw[zk];constructor
 .grind
 .grind
def Zgc(W:Option (Aj))(S L:Aj):wL nx ok k W S L<=1:=by
 unfold wL;split<;>decide
theorem Zgd:∀{bs:Aj} {Ls:Ad} {r:Aj},bs.length=Ls.length->(RIn r (cho k bs Ls)↔RIn r Ls/\valN k r=Zgb bs/\∀b∈bs,b<2)\/¬∀b∈bs,b<2
 |[],[],r,_=>.inl ⟨λh=>⟨h,by cases r with|nil=>exact⟨rfl,λ_ z=>nomatch z⟩|cons _ _=>exact h.elim⟩,λh=>h.1⟩
 |b::bs,L::Ls,r,h=>by
  by_cases C:∀x∈b::bs,x<2
  .refine .inl ⟨λq=>?_,λ⟨I,Q,_⟩=>?_⟩
   .obtain⟨l,g,rfl,h1,h2⟩:=q.uncons;obtain⟨G,D⟩:=JH.mp h1;rcases Zgd (r:=g) (show bs.length=Ls.length by simpa using h)with z|z
    .obtain⟨J,O,Y⟩:=z.mp h2;exact⟨⟨G,J⟩,by show xO k l+2*valN k g=b+2*Zgb bs;rw[D,O],C⟩
    .grind
   .obtain⟨l,g,rfl,h1,h2⟩:=I.uncons;have e:xO k l+2*valN k g=b+2*Zgb bs:=Q;have:=vL k l;have:=C b Qam;rcases Zgd (r:=g) (show bs.length=Ls.length by simpa using h)with z|z
    .exact⟨JH.mpr ⟨h1,by lia⟩,z.mpr ⟨h2,by lia,λx F=>C x (Qak _ F)⟩⟩
    .grind
  .exact .inr C
 |[],_::_,_,h=>nomatch h
 |_::_,[],_,h=>nomatch h
theorem uq:∀(Ls:Ad)(S:Aj),(lwb nx ok k (lys nx S Ls) Ls).1.length=Ls.length/\∀b∈(lwb nx ok k (lys nx S Ls) Ls).1,b<2
 |[],_=>⟨U,λ_ h=>nomatch h⟩
 |L::Ls,S=>by
  obtain⟨h1,h2⟩:=uq Ls _;refine⟨congrArg _ h1,λb g=>?_⟩;rcases Qaw.mp g with rfl|g
  .exact Nat.lt_succ_of_le (Zgc _ _ _)
  .exact h2 b g
def ur{Ls:Ad}{S:Aj}:RIn r (cho k (lwb nx ok k (lys nx S Ls) Ls).1 Ls)↔RIn r Ls/\valN k r=Zgb (lwb nx ok k (lys nx S Ls) Ls).1:=by
 obtain⟨h1,h2⟩:=uq (nx:=nx) (ok:=ok) (k:=k) Ls S;rcases Zgd (k:=k) (r:=r) h1 with z|z
 .grind
 .exact absurd h2 z
structure LwOk(nx:Nat->Nat->Nat)(ok:Nat->Nat->Bool)(k:Nat)(Ls:Ad)(S:Aj)(W:Aj):Prop where
 w:(lwb nx ok k (lys nx S Ls) Ls).2=some W
 a:∀s,s∈W↔s∈S/\∃r,RIn r (cho k (lwb nx ok k (lys nx S Ls) Ls).1 Ls)/\Y9 nx ok s r=true
 b:∀s∈S,∀r,RIn r Ls->Y9 nx ok s r=true->Zgb (lwb nx ok k (lys nx S Ls) Ls).1<=valN k r
 c:(∃s∈S,∃r,RIn r Ls/\Y9 nx ok s r=true)->W≠[]
theorem Zp0:∀(Ls:Ad)(S:Aj),Ls≠[]->∃W,LwOk nx ok k Ls S W
 |[],_,h=>absurd U h
 |L::Ls,S,_=>by
  have key:(∀s∈S,∀l∈L,(gw nx ok (lwb nx ok k (lys nx (Zck nx S L) Ls) Ls).2 s l=true↔∃g,RIn g (cho k (lwb nx ok k (lys nx (Zck nx S L) Ls) Ls).1 Ls)/\Y9 nx ok s (l::g)=true)) /\
    (∀s∈S,∀l∈L,∀g,RIn g Ls->Y9 nx ok s (l::g)=true->Zgb (lwb nx ok k (lys nx (Zck nx S L) Ls) Ls).1<=valN k g) /\
    ((∃s∈S,∃l∈L,∃g,RIn g Ls/\Y9 nx ok s (l::g)=true)->∃s∈S,∃l∈L,gw nx ok (lwb nx ok k (lys nx (Zck nx S L) Ls) Ls).2 s l=true):=by
   cases Ls with
   |nil=>
    refine⟨λs D l C=>⟨λh=>⟨[],trivial,h⟩,λ⟨g,h1,h2⟩=>?_⟩,λs D l C g _ _=>Qbj _,λ⟨s,D,l,C,g,h1,h2⟩=>⟨s,D,l,C,?_⟩⟩
    .cases g with
     |nil=>exact h2
     |cons _ _=>exact h1.elim
    .cases g with
     |nil=>exact h2
     |cons _ _=>exact h1.elim
   |cons L' F=>
    obtain⟨W,I⟩:=Zp0 (L'::F) (Zck nx S L) (by simp);have ne:∀{g:Aj} {M:Aj} {Ms:Ad},RIn g (M::Ms)->g≠[]:=λ{g M Ms} h z=>by rw[z]at h;exact h
    have Y:∀{g:Aj},RIn g (cho k (lwb nx ok k (lys nx (Zck nx S L) (L'::F)) (L'::F)).1 (L'::F))->g≠[]:=λ{g} h=>ne (ur.mp h).1;refine⟨λs D l C=>?_,λs D l C g h1 h2=>?_,λ⟨s,D,l,C,g,h1,h2⟩=>?_⟩
    .rw[I.w];show decide (nx s l∈W)=true↔_;rw[Qb9,I.a];constructor
     .rintro⟨_,g,h1,h2⟩;exact⟨g,h1,by rw[XQ (Y h1)];exact h2⟩
     .rintro⟨g,h1,h2⟩;rw[XQ (Y h1)]at h2;exact⟨qm.mpr ⟨s,D,l,C,U⟩,g,h1,h2⟩
    .rw[XQ (ne h1)]at h2;exact I.b _ (qm.mpr ⟨s,D,l,C,U⟩) g h1 h2
    .rw[XQ (ne h1)]at h2;have hW:=I.c ⟨_,qm.mpr ⟨s,D,l,C,U⟩,g,h1,h2⟩;obtain⟨x,hx⟩:=List.exists_mem_of_ne_nil _ hW;obtain⟨Z,G,J,O,e⟩:=qm.mp ((I.a x).mp hx).1;refine⟨Z,G,J,O,?_⟩;rw[I.w];show decide (nx Z J∈W)=true;rw[e];exact Qar hx
  obtain⟨k1,k2,k3⟩:=key;have cl:=λg=>ur (nx:=nx) (ok:=ok) (k:=k) (Ls:=Ls) (S:=Zck nx S L) (r:=g);generalize hT:lwb nx ok k (lys nx (Zck nx S L) Ls) Ls=T at k1 k2 k3 cl;have e:lwb nx ok k (lys nx S (L::Ls)) (L::Ls)=(wL nx ok k T.2 S L::T.1,some (goB nx ok T.2 S (chs k (wL nx ok k T.2 S L) L))):=by rw[<-hT];rfl
  refine⟨goB nx ok T.2 S (chs k (wL nx ok k T.2 S L) L),?_,?_,?_,?_⟩
  .rw[e]
  .intro s;rw[e,vM];constructor
   .rintro⟨D,l,C,h⟩;obtain⟨g,h1,h2⟩:=(k1 s D l (JH.mp C).1).mp h;exact⟨D,l::g,⟨C,h1⟩,h2⟩
   .rintro⟨D,r,h1,h2⟩;obtain⟨l,g,rfl,C,Q⟩:=RIn.uncons h1;exact⟨D,l,C,(k1 s D l (JH.mp C).1).mpr ⟨g,Q,h2⟩⟩
  .intro s D r h1 h2;obtain⟨l,g,rfl,C,Q⟩:=RIn.uncons h1;rw[e];show wL nx ok k T.2 S L+2*Zgb T.1<=xO k l+2*valN k g;have q1:=k2 s D l C g Q h2;have q2:=Zgc (nx:=nx) (ok:=ok) (k:=k) T.2 S L;rcases Qdz (Zgb T.1) (valN k g)with q|q
   .lia
   .have q3:valN k g=Zgb T.1:=by lia
    have q4:=(k1 s D l C).mpr ⟨g,(cl g).mpr ⟨Q,q3⟩,h2⟩;have q5:wL nx ok k T.2 S L<=xO k l:=by
     unfold wL;split
     .rename_i hz;have:xO k l≠0:=λz=>by
       have:s∈goB nx ok T.2 S (chs k 0 L):=vM.mpr ⟨D,l,JH.mpr ⟨C,z⟩,q4⟩;rw[hz]at this;cases this
      lia
     .exact Qbj _
    lia
  .rintro⟨s,D,r,h1,h2⟩ hz;obtain⟨l,g,rfl,C,Q⟩:=RIn.uncons h1;obtain⟨Z,G,J,O,h4⟩:=k3 ⟨s,D,l,C,g,Q,h2⟩;have no:∀b,xO k J=b->goB nx ok T.2 S (chs k b L)≠[]:=λb hb z=>by
    have:Z∈goB nx ok T.2 S (chs k b L):=vM.mpr ⟨G,J,JH.mpr ⟨O,hb⟩,h4⟩;rw[z]at this;cases this
   have h01:=vL k J;unfold wL at hz;split at hz
   .rename_i h0;exact no 1 (by have:xO k J≠0:=λz=>no 0 z h0;lia) hz
   .rename_i h0;exact h0 hz
end
def itL(nx:Nat->Nat->Nat)(ok:Nat->Nat->Bool)(b:Nat)(Ls:Ad):Nat->List (Aj)
 |0=>Ls
 |k+1=>cho k (lwb nx ok k (lys nx [b] (itL nx ok b Ls k)) (itL nx ok b Ls k)).1 (itL nx ok b Ls k)
section
variable {nx:Nat->Nat->Nat}{ok:Nat->Nat->Bool}{b:Nat}{Ls:Ad}
def itB(nx:Nat->Nat->Nat)(ok:Nat->Nat->Bool)(b:Nat)(Ls:Ad)(k:Nat):Nat:=Zgb (lwb nx ok k (lys nx [b] (itL nx ok b Ls k)) (itL nx ok b Ls k)).1
def Zge{k:Nat}:RIn r (itL nx ok b Ls (k+1))↔RIn r (itL nx ok b Ls k)/\valN k r=itB nx ok b Ls k:=ur
theorem qo{r:Aj}:∀{k:Nat},RIn r (itL nx ok b Ls k)->RIn r Ls/\∀j,j<k->valN j r=itB nx ok b Ls j
 |0,h=>⟨h,λj g=>absurd g (Qei _)⟩
 |k+1,h=>by
  obtain⟨h1,h2⟩:=Zge.mp h;obtain⟨q,C⟩:=qo h1;refine⟨q,λj g=>?_⟩
  by_cases e:j=k
  .rw[e];exact h2
  .exact C j (by lia)
theorem Zgf(g:Ls≠[])(h:∃r,RIn r Ls/\Y9 nx ok b r=true):∀k,itL nx ok b Ls k≠[]/\(∃r,RIn r (itL nx ok b Ls k)/\Y9 nx ok b r=true) /\
  ∀r,RIn r Ls->Y9 nx ok b r=true->RIn r (itL nx ok b Ls k)\/∃j,j<k/\(∀i,i<j->valN i r=itB nx ok b Ls i)/\itB nx ok b Ls j<valN j r
 |0=>⟨g,h,λr h1 _=>.inl h1⟩
 |k+1=>by
  obtain⟨D,⟨Y,g1,g2⟩,g3⟩:=Zgf g h k;obtain⟨W,I⟩:=Zp0 (k:=k) _ [b] D;have hW:=I.c ⟨b,Qau.mpr U,Y,g1,g2⟩;obtain⟨x,Q⟩:=List.exists_mem_of_ne_nil _ hW;obtain⟨hb,G,h1,h2⟩:=(I.a x).mp Q;rw[Qau.mp hb]at h2;refine⟨λz=>?_,⟨G,h1,h2⟩,λr Z O=>?_⟩
  .have h1:RIn G (itL nx ok b Ls (k+1)):=h1;have C:=h1.len;have J:=(Zge.mp h1).1.len;rw[z]at C;cases hz:itL nx ok b Ls k with
   |nil=>exact D hz
   |cons _ _=>rw[hz,C]at J;cases J
  .rcases g3 r Z O with q|⟨j,hj,q3,q4⟩
   .have le:=I.b b (Qau.mpr U) r q O;rcases Qdz _ _ with F|F
    .exact .inr ⟨k,Qdv k,(qo q).2,F⟩
    .have le:itB nx ok b Ls k<=valN k r:=le;exact .inl (Zge.mpr ⟨q,by lia⟩)
   .grind
end
theorem Zi9:∀{l m:Nat},l<2^n->m<2^n->(∀k,k<n->xO k l=xO k m)->l=m:=by
 induction n with
 |zero=>intro l m h1 h2 _;lia
 |succ n g=>
  intro l m h1 h2 h;have q:=h 0 (Nat.succ_pos _);unfold xO at q;have:=g (l:=l/2) (m:=m/2) (by lia) (by lia) λk C=>by
   have:=h (k+1) (by lia);unfold xO at this ⊢;rw[Nat.pow_succ',<-Nat.div_div_eq_div_mul,<-Nat.div_div_eq_div_mul]at this;exact this
  lia
theorem Zgg{n:Nat}:∀{r t:Aj},r.length=t.length->(∀l∈r,l<2^n)->(∀l∈t,l<2^n)->(∀k,k<n->valN k r=valN k t)->r=t
 |[],[],_,_,_,_=>rfl
 |l::r,m::t,h,h1,h2,D=>by
  have C:∀k,k<n->xO k l=xO k m/\valN k r=valN k t:=λk g=>by
   have e:xO k l+2*valN k r=xO k m+2*valN k t:=D k g;have:=vL k l;have:=vL k m;lia
  rw[Zi9 (h1 l Qam) (h2 m Qam) λk g=>(C k g).1,Zgg (by grind) (λx q=>h1 x (Qak _ q)) (λx q=>h2 x (Qak _ q)) λk g=>(C k g).2]
 |[],_::_,h,_,_,_=>nomatch h
 |_::_,[],h,_,_,_=>nomatch h
structure zo(nx:Nat->Nat->Nat)(ok:Nat->Nat->Bool)(b n w:Nat)(r:Aj):Prop where
 len:r.length=w
 lt:∀l∈r,l<2^n
 last:Y9 nx ok b r=true
 fst:∀t:Aj,t.length=w->(∀l∈t,l<2^n)->Y9 nx ok b t=true->t=r\/∃j,j<n/\(∀i,i<j->valN i t=valN i r)/\valN j r<valN j t
theorem xc{n:Nat}:∀{w:Nat} {r:Aj},RIn r (List.replicate w (List.range n))↔r.length=w/\∀l∈r,l<n
 |0,[]=>⟨λ_=>⟨U,λ_ h=>nomatch h⟩,λ_=>trivial⟩
 |0,_::_=>⟨λh=>h.elim,λh=>nomatch h.1⟩
 |w+1,[]=>⟨λh=>h.elim,λh=>nomatch h.1⟩
 |w+1,l::r=>by
  show l∈List.range n/\RIn r _↔_;rw[xc,Qcf];constructor
  .grind
  .rintro⟨h1,h2⟩;exact⟨h2 l Qam,by grind,λx g=>h2 x (Qak _ g)⟩
theorem wM:∀{r:Aj} {Ls:Ad},RIn r Ls->RIn (Ls.map λL=>L.headD 0) Ls
 |[],[],_=>trivial
 |l::r,L::Ls,h=>by
  refine⟨?_,wM h.2⟩;cases L with
  |nil=>exact nomatch h.1
  |cons x L=>exact Qam
 |[],_::_,h=>h.elim
 |_::_,[],h=>h.elim
def Zgh{nx:Nat->Nat->Nat}{ok:Nat->Nat->Bool}{b w:Nat}(hw:0<w)(h:∃r,r.length=w/\(∀l∈r,l<2^n)/\Y9 nx ok b r=true):
  zo nx ok b n w ((itL nx ok b (List.replicate w (List.range (2^n))) n).map λL=>L.headD 0):=by
 have q:List.replicate w (List.range (2^n))≠[]:=λz=>by
  have:=congrArg List.length z;rw[Qbh]at this;have:w=0:=this;lia
 obtain⟨r,h1,h2,J⟩:=h;obtain⟨_,⟨Y,D,Q⟩,I⟩:=Zgf (nx:=nx) (ok:=ok) (b:=b) q ⟨r,xc.mpr ⟨h1,h2⟩,J⟩ n;have hh:=wM D;obtain⟨a1,a2⟩:=qo D;obtain⟨b1,b2⟩:=qo hh;have g:=xc.mp a1;have F:=xc.mp b1;have e:=Zgg (n:=n) (by rw[g.1,F.1]) g.2 F.2 λk G=>by grind
 rw[<-e];refine⟨g.1,g.2,Q,λt C t2 O=>?_⟩;rcases I t (xc.mpr ⟨C,t2⟩) O with z|⟨j,hj,z1,Z⟩
 .obtain⟨d1,d2⟩:=qo z;exact .inl (Zgg (n:=n) (by rw[C,g.1]) t2 g.2 λk G=>by grind)
 .grind
structure RgO(R:Ad)(kk:Nat->Nat):Prop where
 e:∀i,i<=R.length->bfsN R 0 i=List.range (kk i)
 go:∀i,i<R.length->i<kk i
 le:∀i,i<=R.length->kk i<=R.length
 z:kk 0=1
def RgO.step{R:Ad}{kk:Nat->Nat}(G:RgO R kk)(hi:i<R.length):(R.getD i []).foldl Y6 (List.range (kk i))=List.range (kk (i+1)):=by
 have h:=G.e _ hi;have h2:Zpy R _ i=List.range _:=h;rw[G.e i (Qax hi)]at h2;unfold Zpy at h2;rw[show(List.range _).getD i 0=i by rw[Qat,Qd6 (G.go i hi)];rfl]at h2;exact h2
def RgO.part{R:Ad}{kk:Nat->Nat}(G:RgO R kk)(hi:i<R.length)(j:Nat):∃k,((R.getD i []).take j).foldl Y6 (List.range (kk i))=List.range k/\kk i<=k/\k<=kk (i+1):=by
 have h:=G.step hi;have e:(R.getD i []).foldl Y6 (List.range (kk i))=((R.getD i []).drop j).foldl Y6 (((R.getD i []).take j).foldl Y6 (List.range (kk i))):=by rw[<-Qd1,Qbx]
 obtain⟨r,e2⟩:=GZ ((R.getD i []).drop j) _;obtain⟨C,e3⟩:=GZ ((R.getD i []).take j) (List.range (kk i));rw[e,e2]at h;have g:=congrArg List.length e3;have q:=congrArg List.length h;rw[Qaf,Qa3]at g;rw[Qaf,Qa3]at q;refine⟨(((R.getD i []).take j).foldl Y6 (List.range (kk i))).length,?_,by lia,by lia⟩;have:=congrArg (List.take (((R.getD i []).take j).foldl Y6 (List.range (kk i))).length) h;rw[List.take_left,List.take_range,Qdq (by lia)]at this;exact this
def RgO.more{R:Ad}{kk:Nat->Nat}(G:RgO R kk)(hi:i<R.length){j k t:Nat}(C:(R.getD i [])[j]?=some t)(D:((R.getD i []).take j).foldl Y6 (List.range (kk i))=List.range k):
  (t<k/\((R.getD i []).take (j+1)).foldl Y6 (List.range (kk i))=List.range k)\/(t=k/\((R.getD i []).take (j+1)).foldl Y6 (List.range (kk i))=List.range (k+1)):=by
 have e:((R.getD i []).take (j+1)).foldl Y6 (List.range (kk i))=Y6 (List.range k) t:=by rw[take_snoc C,Qd1,D];rfl
 rcases Qdz t k with h|h
 .exact .inl ⟨h,by rw[e];exact Qa9 (Qcf.mpr h)⟩
 .have e1:Y6 _ t=List.range k++[t]:=Qa6 λz=>absurd (Qcf.mp z) (by lia)
  obtain⟨q,e2,_,_⟩:=G.part hi _;rw[e,e1]at e2;have g:=congrArg List.length e2;rw[Qaf,Qa3,Qa3]at g;have g:k+1=q:=g;subst g;rw[Qdo]at e2;have:=(List.append_inj e2 U).2;injection this with this;exact .inr ⟨this,by rw[e,e1,this,Qdo]⟩
def dwN(kk:Nat->Nat):Nat->List Nat
 |0=>[1]
 |i+1=>dwN kk i++List.replicate (kk (i+1)-kk i) ((dwN kk i).getD i 0+1)
section
variable {R:Ad}{kk:Nat->Nat}
theorem xf(G:RgO R kk):∀i,i<=R.length->(dwN kk i).length=kk i
 |0,_=>G.z.symm
 |i+1,h=>by
  have g:=xf G i (by lia);obtain⟨k,_,h1,h2⟩:=G.part (h) 0;show(dwN kk i++_).length=_;rw[Qaf,Qbh];lia
def WT{t:Nat}(h:t<(dwN kk i).length):(dwN kk (i+1)).getD t 0=(dwN kk i).getD t 0:=by
 show(dwN kk i++_).getD t 0=_;rw[Qat,Qa8 h,Qat]
def vN{t:Nat}(h:(dwN kk i).length<=t)(h2:t<(dwN kk (i+1)).length):(dwN kk (i+1)).getD t 0=(dwN kk i).getD i 0+1:=by
 have h2:t<(dwN kk i++List.replicate _ _).length:=h2;rw[Qaf,Qbh]at h2;show(dwN kk i++_).getD t 0=_;rw[Qat,Qa0 h,List.getElem?_replicate,Qa9 (by lia)];rfl
theorem Zbg{i:Nat}:∀(d:Nat) {t:Nat},t<(dwN kk i).length->(dwN kk (i+d)).getD t 0=(dwN kk i).getD t 0/\t<(dwN kk (i+d)).length
 |0,t,h=>⟨U,h⟩
 |d+1,t,h=>by
  obtain⟨h1,h2⟩:=Zbg d h;refine⟨by rw[<-h1];exact WT h2,?_⟩;show t<(dwN kk _++_).length;rw[Qaf];lia
structure DwOk(R:Ad)(kk:Nat->Nat)(L i:Nat):Prop where
 mono:∀t t',t<=t'->t'<(dwN kk i).length->(dwN kk i).getD t 0<=(dwN kk i).getD t' 0
 top:∀j,j<i->∀t,t<(dwN kk i).length->(j+1=i->(dwN kk i).getD t 0<=(dwN kk i).getD j 0+1)
 way:∀t,t<(dwN kk i).length->∃ls:Aj,ls.length+1=(dwN kk i).getD t 0/\(∀x∈ls,x<L)/\stN R 0 ls=t
 edge:∀j,j<i->∀t∈R.getD j [],t<(dwN kk i).length/\(dwN kk i).getD t 0<=(dwN kk i).getD j 0+1
theorem Zp1(G:RgO R kk){L:Nat}(hr:∀r∈R,r.length=L):∀i,i<=R.length->DwOk R kk L i
 |0,_=>by
  have one:∀t,t<(dwN kk 0).length->t=0:=λt h=>Nat.lt_one_iff.mp h;refine⟨λt t' h h'=>?_,λj F=>absurd F (Qei _),λt h=>⟨[],?_,(λ_ z=>nomatch z),?_⟩,λj F=>absurd F (Qei _)⟩
  .rw[one t (by lia),one t' h'];exact Qai _
  .rw[one t h];rfl
  .rw[one t h];rfl
 |i+1,h=>by
  have I:=Zp1 G hr i (by lia);have hl:=xf G i (by lia);have O:=xf G (i+1) h;have hi:i<R.length:=h;have D:i<(dwN kk i).length:=by rw[hl];exact G.go i hi
  have all:∀t,t<(dwN kk i).length->(dwN kk i).getD t 0<=(dwN kk i).getD i 0+1:=λt g=>by
   cases i with
   |zero=>
    have h1:t<1:=g;have:t=0:=by lia
    rw[this];exact Qd4 _
   |succ j=>
    have h1:=I.top j (Qdv j) t g rfl;have h2:=I.mono j (j+1) (Qd4 _) D;lia
  have vi:=WT D;have bd:∀t,t<(dwN kk (i+1)).length->(dwN kk (i+1)).getD t 0<=(dwN kk i).getD i 0+1:=λt g=>by
   rcases Qdz t (dwN kk i).length with q|q
   .rw[WT q];exact all t q
   .rw[vN q g];exact Qai _
  refine⟨λt t' Z Q=>?_,λj F t g e=>?_,λt g=>?_,λj F t g=>?_⟩
  .rcases Qdz t' (dwN kk i).length with q|q
   .rw[WT q,WT (by lia)];exact I.mono t t' Z q
   .rw[vN q Q];exact bd t (by lia)
  .have:j=i:=by lia
   rw[this,vi];exact bd t g
  .rcases Qdz t (dwN kk i).length with q|q
   .rw[WT q];exact I.way t q
   .rw[vN q g];obtain⟨ls,h1,h2,Y⟩:=I.way i D;have C:t∈(R.getD i []).foldl Y6 (List.range (kk i)):=by rw[G.step hi];exact Qcf.mpr (by lia)
    rcases(zk _ _).mp C with z|z
    .exact absurd (Qcf.mp z) (by lia)
    .obtain⟨c,hc⟩:=Qcp z;refine⟨ls++[c],by rw[Qaf,<-h1];rfl,λx hx=>?_,?_⟩
     .grind
     .rw[WQ,Y,Qat (l:=R.getD i []),hc];rfl
  .by_cases e:j=i
   .rw[e]at g ⊢;have C:t∈(R.getD i []).foldl Y6 (List.range (kk i)):=(zk _ _).mpr (.inr g);rw[G.step hi]at C;have J:t<(dwN kk (i+1)).length:=by rw[O];exact Qcf.mp C
    exact⟨J,by rw[vi];exact bd t J⟩
   .obtain⟨h1,h2⟩:=I.edge j (by lia) t g;have Y:(dwN kk (i+1)).getD j 0=(dwN kk i).getD j 0:=WT (by lia);rw[WT h1,Y];refine⟨?_,h2⟩;show t<(dwN kk i++_).length;rw[Qaf];lia
theorem uv(G:RgO R kk)(hr:∀r∈R,r.length=L){ok:Nat->Nat->Bool}{c:Nat}(hi:i<R.length)(hc:c<L)(J:ok i c=true)(O:∀j,j<i->∀c,c<L->ok j c=false):
  1<=(dwN kk i).getD i 0/\(∃ls:Aj,ls.length+1=(dwN kk i).getD i 0/\(∀x∈ls,x<L)/\ok (stN R 0 ls) c=true)/\∀(ls:Aj)(d:Nat),(∀x∈ls,x<L)->d<L->ok (stN R 0 ls) d=true->(dwN kk i).getD i 0<=ls.length+1:=by
 have D:=Zp1 G hr i (Qax hi);have hl:=xf G i (Qax hi);have C:i<(dwN kk i).length:=by rw[hl];exact G.go i hi
 obtain⟨ls,h1,h2,h3⟩:=D.way i C;refine⟨by lia,⟨ls,h1,h2,by rw[h3];exact J⟩,λls d hls hd Y=>?_⟩;have hge:i<=stN R 0 ls:=by
  grind
 have key:∀n,n<=ls.length->(∃m,m<=n/\i<=stN R 0 (ls.take m)/\(dwN kk i).getD i 0<=m+1)\/(stN R 0 (ls.take n)<i/\(dwN kk i).getD (stN R 0 (ls.take n)) 0<=n+1):=by
  intro n
  induction n with
  |zero=>
   intro _;rcases Nat.eq_zero_or_pos i with q|q
   .refine .inl ⟨0,Qai _,by lia,?_⟩;rw[q];exact Qai _
   .refine .inr ⟨q,?_⟩;have h:=Zbg (kk:=kk) (i:=0) i (t:=0) Nat.one_pos;rw[Qhg]at h;show(dwN kk i).getD 0 0<=1;rw[h.1];exact Qai _
  |succ n ih=>
   intro hn;rcases ih (by lia)with⟨m,hm,F,I⟩|⟨F,I⟩
   .exact .inl ⟨m,by lia,F,I⟩
   .have Z:ls[n]?=some (ls.getD n 0):=getD_at (by lia);have e:stN R 0 (ls.take (n+1))=(R.getD (stN R 0 (ls.take n)) []).getD (ls.getD n 0) 0:=by rw[take_snoc Z,WQ]
    have g:stN R 0 (ls.take (n+1))∈R.getD (stN R 0 (ls.take n)) []:=by
     grind
    obtain⟨Q,g2⟩:=D.edge _ F _ g;rcases Qdz (stN R 0 (ls.take (n+1))) i with q|q
    .exact .inr ⟨q,by lia⟩
    .exact .inl ⟨n+1,Qai _,q,by have:=D.mono i _ q Q;lia⟩
 rcases key ls.length (Qai _)with⟨m,hm,_,q⟩|⟨q,_⟩
 .lia
 .rw[Qbb]at q;lia
end
def dwK(vs:Aj):Ay:=(List.range vs.length).map λt:Nat=>((Sum.inl (t:Int):Key),V.int ((vs.getD t 0:Nat):Int))
def Znt(vs:Aj):(dwK vs).length=vs.length:=by unfold dwK;rw[Qac,Qa3]
def Zja(vs:Aj)(x:Nat):dwK (vs++[x])=dwK vs++[(Sum.inl (vs.length:Int),V.int x)]:=by
 unfold dwK;rw[Qaf,show[x].length=1 from U,Qdo,Qbd];refine congr (congrArg _ (Qci λt g=>?_)) ?_
 .grind
 .grind
theorem vO(f:Nat->V)(t:Nat):∀n,Yp ((List.range n).map λt:Nat=>((Sum.inl (t:Int):Key),f t)) (.inl (t:Int))=if t<n then some (f t)else none
 |0=>rfl
 |n+1=>by
  have q:=vO f t n;have g:=vO f n n;rw[Qa6 (Qb0 _)]at g;rw[Qdo,Qbd];show Yp (_++[((Sum.inl _),f n)]) _=_;rw[zy _ _ _ _ g]
  by_cases e:t=n
  .grind
  .grind
def jj(vs:Aj)(t:Nat):Yp (dwK vs) (.inl (t:Int))=if t<vs.length then some (.int ((vs.getD t 0:Nat):Int))else none:=vO _ t _
def Znu(vs:Aj)(x:Nat):putK (dwK vs) (.inl (vs.length:Int)) (.int x)=dwK (vs++[x]):=by
 rw[Zah _ (by rw[jj,Qa6 (Qb0 _)]),Zja]
def rgO_of[DecidableEq g]{nx:g->List g}{b:g}{l:List g}(B:BfE nx b l):RgO (rnG nx l) λi=>(bfN nx b i).length:=by
 have D:=Xm nx l;refine⟨λi hi=>?_,λi hi=>B.go i (by lia),λi hi=>?_,U⟩
 .rw[D]at hi;rw[Zk8 B i hi];have C:∃r,l=bfN nx b i++r:=by
   obtain⟨r,e⟩:=yI (b:=b) i _;rw[show i+(l.length-i)=l.length by lia,<-B.e]at e;exact⟨r,e⟩
  obtain⟨r,e⟩:=C;refine Qej λj=>?_
  by_cases q:j<(bfN nx b i).length
  .rw[Qal,Qad q,Qd6 q];refine congrArg some (Ws B.nodup ?_);rw[e,Qa8 q,Qad q]
  .grind
 .obtain⟨r,e⟩:=yI (b:=b) i _;rw[show i+(l.length-i)=l.length by lia,<-B.e]at e;have:=congrArg List.length e;rw[Qaf]at this;lia
def mN(R:Ad)(s c:Nat):Nat:=(R.getD s []).getD c 0
def mB(O:Ax)(v:V)(s c:Nat):Bool:=decide ((O.getD s []).getD c .non=v)
theorem Xn(R:Ad)(ok:Nat->Nat->Bool):∀(ls:Aj)(s c:Nat),Y9 (mN R) ok s (ls++[c])=ok (stN R s ls) c
 |[],_,_=>rfl
 |l::ls,s,c=>by
  rw[Qg8,XQ (by simp)];exact Xn R ok ls _ c
theorem Zp2{R:Ad}{kk:Nat->Nat}(G:RgO R kk):∀i,i<=R.length->∀t,(dwN kk i).getD t 0<=t+1
 |0,_,0=>Qai _
 |0,_,t+1=>Qbj _
 |i+1,h,t=>by
  have g:=Zp2 G i (by lia);rcases Qdz t _ with q|q
  .rw[WT q];exact g t
  .rcases Qdz t _ with C|C
   .rw[vN q C];have:=g i;have:=G.go i h;rw[xf G i (by lia)]at q;lia
   .grind
theorem Zgi:∀bs:List Bool,inV (.bl true) (bs.map V.bl)=decide (true∈bs)
 |[]=>rfl
 |b::bs=>by
  show(eqV _ _||inV _ _)=_;rw[Zgi bs];cases b
  .simp[eqV]
  .simp[eqV]
def ixG_lt[DecidableEq g]{l:List g}{x:g}(h:x∈l):ixG l x<l.length:=Qd5 h
def Zla[DecidableEq g]{l:List g}{x:g}(h:x∈l):l[ixG l x]?=some x:=jh h
def pN(nx1 nx2:Ad)(k:Ak):List (Ak):=(Zc6 (nx1.getD (k.getD 0 0).toNat []) (nx2.getD (k.getD 1 0).toNat [])).map λp=>[p.1,p.2]
def pO(ot1 ot2:Ax)(k:Ak):A0:=(((ot1.getD (k.getD 0 0).toNat []).zip (ot2.getD (k.getD 1 0).toNat [])).map λq=>!decide (q.1=q.2)).map V.bl
def pK(i j:Nat):Ak:=[(i:Int),(j:Int)]
def pU(g q:Nat):List (Ak):=(List.range g).flatMap λi=>(List.range q).map λj=>pK i j
def Gq{k:Ak}:k∈pU n L↔∃i j,i<n/\j<L/\k=pK i j:=by
 unfold pU;constructor
 .grind
 .grind
def Zlb(g q:Nat):(pU g q).length=g*q:=by
 unfold pU;rw[List.length_flatMap];have:((List.range g).map λi=>((List.range q).map λj=>pK i j).length)=List.replicate g q:=by
  refine Qej λi=>?_
  by_cases h:i<g
  .grind
  .grind
 rw[this,List.sum_replicate_nat]
section
variable {nx1 nx2:Ad}{ot1 ot2:Ax}{n:Nat}
def Zgj(q:Runs nx1 ot1 n)(R2:Runs nx2 ot2 n){j:Nat}(hi:i<nx1.length)(g:j<nx2.length):(pN nx1 nx2 (pK i j)).length=2^n:=by
 have h1:=q.nr _ (getD_mem hi);have h2:=R2.nr _ (getD_mem g);show(List.map _ (Zc6 (nx1.getD ((i:Int)).toNat []) (nx2.getD ((j:Int)).toNat []))).length=_;rw[Qay,Qay];unfold Zc6;rw[Qac,Qac,Qcu,h1,h2,Nat.min_self]
def Zp3(C:Runs nx1 ot1 n)(R2:Runs nx2 ot2 n){j c:Nat}(hi:i<nx1.length)(g:j<nx2.length)(D:c<2^n):(pN nx1 nx2 (pK i j))[c]?=some (pK ((nx1.getD i []).getD c 0) ((nx2.getD j []).getD c 0)):=by
 have h1:=C.nr _ (getD_mem hi);have h2:=R2.nr _ (getD_mem g);show(List.map _ (Zc6 (nx1.getD ((i:Int)).toNat []) (nx2.getD ((j:Int)).toNat [])))[c]?=_;rw[Qay,Qay];unfold Zc6;have q:((nx1.getD i []).zip _)[c]?=some ((nx1.getD i []).getD c 0,(nx2.getD j []).getD c 0):=Qc3.mpr ⟨getD_at (by lia),getD_at (by lia)⟩;rw[Qal,Qal,q];rfl
def Znv(q:Runs nx1 ot1 n)(R2:Runs nx2 ot2 n){k:Ak}(G:k∈pU nx1.length nx2.length):∀x∈pN nx1 nx2 k,x∈pU nx1.length nx2.length:=by
 obtain⟨i,j,hi,g,rfl⟩:=Gq.mp G;intro x D;obtain⟨c,C⟩:=Qcp D;have F:=by
  have:=(Qah.mp C).1;rw[Zgj q R2 hi g]at this;exact this
 rw[Zp3 q R2 hi g F]at C;have h1:=q.nr _ (getD_mem hi);have h2:=R2.nr _ (getD_mem g);exact Gq.mpr ⟨_,_,q.nl _ (getD_mem hi) _ (Qag (getD_at (by lia))),R2.nl _ (getD_mem g) _ (Qag (getD_at (by lia))),(Option.some.inj C).symm⟩
def pO_at(g:Runs nx1 ot1 n)(R2:Runs nx2 ot2 n){j c:Nat}(hi:i<nx1.length)(C:j<nx2.length)(D:c<2^n):(pO ot1 ot2 (pK i j))[c]?=some (V.bl (!decide ((ot1.getD i []).getD c .non=(ot2.getD j []).getD c .non))):=by
 have h1:=g.or _ (getD_mem (by rw[g.ol];exact hi));have h2:=R2.or _ (getD_mem (by rw[R2.ol];exact C));show(List.map _ (List.map _ ((ot1.getD ((i:Int)).toNat []).zip (ot2.getD ((j:Int)).toNat []))))[c]?=_;rw[Qay,Qay];have q:((ot1.getD i []).zip _)[c]?=some ((ot1.getD i []).getD c .non,(ot2.getD j []).getD c .non):=Qc3.mpr ⟨getD_at (by lia),getD_at (by lia)⟩;rw[Qal,Qal,q];rfl
def Zlc(g:Runs nx1 ot1 n)(R2:Runs nx2 ot2 n){j:Nat}(hi:i<nx1.length)(q:j<nx2.length):(pO ot1 ot2 (pK i j)).length=2^n:=by
 have h1:=g.or _ (getD_mem (by rw[g.ol];exact hi));have h2:=R2.or _ (getD_mem (by rw[R2.ol];exact q));show(List.map _ (List.map _ ((ot1.getD ((i:Int)).toNat []).zip (ot2.getD ((j:Int)).toNat [])))).length=_;rw[Qay,Qay,Qac,Qac,Qcu,h1,h2,Nat.min_self]
theorem Zld{b1 b2:Nat}(F:Runs nx1 ot1 n)(R2:Runs nx2 ot2 n)(g:b1<nx1.length)(q:b2<nx2.length){l:List (Ak)}(B:BfE (pN nx1 nx2) (pK b1 b2) l):∀k∈l,k∈pU nx1.length nx2.length:=λk C=>by
 rw[B.e]at C;exact Zcf (Gq.mpr ⟨b1,b2,g,q,U⟩) (λs G x D=>Znv F R2 G x D) _ k C
theorem prd_st{b1 b2:Nat}(C:Runs nx1 ot1 n)(R2:Runs nx2 ot2 n)(I:b1<nx1.length)(J:b2<nx2.length){l:List (Ak)}(B:BfE (pN nx1 nx2) (pK b1 b2) l):∀{ls:Aj},(∀x∈ls,x<2^n)->pK (stN nx1 b1 ls) (stN nx2 b2 ls)∈l/\stN (rnG (pN nx1 nx2) l) 0 ls=ixG l (pK (stN nx1 b1 ls) (stN nx2 b2 ls))/\stN nx1 b1 ls<nx1.length/\stN nx2 b2 ls<nx2.length:=by
 intro ls;generalize hn:ls.length=m
 induction m generalizing ls with
 |zero=>
  intro _;rw[Qbz hn];exact⟨B.begin.2,B.zero.symm,I,J⟩
 |succ m Y=>
  intro h;obtain⟨D,c,rfl⟩:∃D c,ls=D++[c]:=⟨ls.dropLast,ls.getLast (λz=>by rw[z]at hn;cases hn),(Qev _).symm⟩;have G:D.length=m:=by grind
  obtain⟨O,g2,F,g⟩:=Y G λx q=>h x (Qbs _ q);have Z:=h c (Qa1 _ (Qau.mpr U));have e:=Zp3 C R2 F g Z;have nx:=B.next O (Qag e);have h1:=C.nr _ (getD_mem F);have h2:=R2.nr _ (getD_mem g);rw[WQ,WQ,WQ,g2];refine⟨nx,?_,C.nl _ (getD_mem F) _ (Qag (getD_at (d:=0) (by lia))),R2.nl _ (getD_mem g) _ (Qag (getD_at (d:=0) (by lia)))⟩;rw[Zga (λs Q x q=>B.next Q q) O,Qat,Qal,e]
  rfl
def Znw{b1 b2:Nat}(C:Runs nx1 ot1 n)(R2:Runs nx2 ot2 n)(q:b1<nx1.length)(g:b2<nx2.length){l:List (Ak)}(B:BfE (pN nx1 nx2) (pK b1 b2) l){ls:Aj}{c:Nat}(h:∀x∈ls++[c],x<2^n):
  Y9 (mN (rnG (pN nx1 nx2) l)) (mB (l.map (pO ot1 ot2)) (.bl true)) 0 (ls++[c])=decide ((ot1.getD (stN nx1 b1 ls) []).getD c .non≠(ot2.getD (stN nx2 b2 ls) []).getD c .non):=by
 rw[Xn];obtain⟨F,O,G,D⟩:=prd_st C R2 q g B λx J=>h x (Qbs _ J);have I:=h c (Qa1 _ (Qau.mpr U));unfold mB;rw[O,Qat (l:=l.map _),Qal,Zla F];show decide ((pO ot1 ot2 _).getD c .non=.bl true)=_;rw[Qat,pO_at C R2 G D I];generalize (ot1.getD _ []).getD c .non=x;generalize (ot2.getD _ []).getD c .non=y
 by_cases z:x=y
 .grind
 .grind
def Zjb{b1 b2:Nat}(D:Runs nx1 ot1 n)(R2:Runs nx2 ot2 n)(G:b1<nx1.length)(I:b2<nx2.length){l:List (Ak)}(B:BfE (pN nx1 nx2) (pK b1 b2) l):Runs (rnG (pN nx1 nx2) l) (l.map (pO ot1 ot2)) n:=by
 have g:=Zld D R2 G I B;have hpos:=Qer B.begin.2;refine⟨by rw[Xm];exact hpos,by rw[Xm,Qac],λr C=>?_,λr C x J=>?_,λr C=>?_⟩
 .obtain⟨k,q,rfl⟩:=Qa2.mp C;obtain⟨i,j,hi,F,rfl⟩:=Gq.mp (g k q);rw[Qac,Zgj D R2 hi F]
 .obtain⟨k,q,rfl⟩:=Qa2.mp C;obtain⟨y,O,rfl⟩:=Qa2.mp J;rw[Xm];exact ixG_lt (B.next q O)
 .obtain⟨k,q,rfl⟩:=Qa2.mp C;obtain⟨i,j,hi,F,rfl⟩:=Gq.mp (g k q);exact Zlc D R2 hi F
end
def twK(l:Aj):Ay:=l.map λs:Nat=>((Sum.inl (s:Int):Key),V.bl true)
theorem vP(s:Nat):∀l:Aj,(Yp (twK l) (.inl (s:Int))).isSome=decide (s∈l)
 |[]=>rfl
 |x::l=>by
  show(Yp ((Sum.inl _,V.bl true)::twK l) _).isSome=_
  by_cases e:x=s
  .subst e;rw[Yl U];exact(Qar Qam).symm
  .rw[Yg (λz=>e (by grind)),vP s l];exact Qha.mpr ⟨λh=>Qak _ h,λh=>(Qaw.mp h).elim (by lia) id⟩
def Zgk(l:Aj)(s:Nat):putK (twK l) (.inl (s:Int)) (.bl true)=twK (Y6 l s):=by
 by_cases h:s∈l
 .have e:Y6 l s=l:=Qa9 h;rw[e];unfold putK;have g:(Yp (twK l) (.inl s)).isSome=true:=by rw[vP];exact Qar h
  rw[Qa9 (by rw[X7];exact g)];refine Qej λi=>?_;unfold twK;rw[Qal,Qal];cases l[i]? with
  |none=>rfl
  |some x=>
   show some (if(Sum.inl _)=.inl _ then((Sum.inl _),V.bl true)else(Sum.inl _,V.bl true))=_;split<;>rfl
 .have e:Y6 l s=l++[s]:=Qa6 h;rw[e,Zah _ (by
   have:=vP s l;rw[Qan h]at this;cases q:Yp (twK l) _ with
   |none=>rfl
   |some y=>rw[q]at this;cases this)]
  unfold twK;rw[Qbd];rfl
def jk(l:Aj):(twK l).length=l.length:=Qac _
def yO(H:Hp)(g:V)(W:Option (Aj)):Prop:=(W=none/\g=.non)\/∃d l,W=some l/\g=.ref d/\Rd H d (.dK (twK l))
def SmF(H H':Hp):Prop:=∀b o,H b=some o->H' b=some o\/∃kvs u,o=.dK kvs/\H' b=some (.frz u (.dK kvs))
def SmF.of{H':Hp}(s:ZD H H'):SmF H H':=λb o e=>.inl (s b o e)
def SmF.at{H':Hp}(s:SmF H H'){b:Au}{o:HO}(e:H b=some o)(h:∀kvs,o≠.dK kvs):H' b=some o:=by
 rcases s b o e with z|⟨kvs,u,z,_⟩
 .exact z
 .exact absurd z (h kvs)
def SmF.tup{H H':Hp}(s:SmF H H'){b:Au}{xs:A0}(e:H b=some (.tup xs)):H' b=some (.tup xs):=s.at e λ_ z=>nomatch z
def SmF.lst{H H':Hp}(s:SmF H H'){b:Au}{xs:A0}(e:H b=some (.lst xs)):H' b=some (.lst xs):=s.at e λ_ z=>nomatch z
theorem SmF.trans{H2:Hp}(s:SmF H d)(t:SmF d H2):SmF H H2:=λb o e=>by
 rcases s b o e with z|⟨kvs,u,rfl,z⟩
 .exact t b o z
 .exact .inr ⟨kvs,u,U,t.at z λ_ q=>nomatch q⟩
def SmF.rd{H':Hp}(s:SmF H H'){d:Au}{kvs:Ay}(h:Rd H d (.dK kvs)):Rd H' d (.dK kvs):=by
 rcases h with h|⟨u,h⟩
 .rcases s d _ h with z|⟨g,u,z,e⟩
  .exact .inl z
  .cases z;exact .inr ⟨u,e⟩
 .exact .inr ⟨u,s.at h λ_ q=>nomatch q⟩
def SmF.well{H':Hp}(s:SmF H H'){W:Option (Aj)}(h:yO H y W):yO H' y W:=by
 rcases h with h|⟨d,l,h1,h2,g⟩
 .exact .inl h
 .exact .inr ⟨d,l,h1,h2,s.rd g⟩
def SmF.free{H':Hp}(s:SmF H H'){p:Au}(h:H' p=none):H p=none:=by
 cases e:H p with
 |none=>rfl
 |some o=>
  rcases s p o e with z|⟨_,_,_,z⟩
  .rw[h]at z;cases z
  .rw[h]at z;cases z
theorem SmF.frz{H:Hp}{a:Au}{kvs:Ay}{u:Obj}(h:Rd H a (.dK kvs))(C:∀o,H a=some (.frz o (.dK kvs))->o=u):SmF H (upd H a (.frz u (.dK kvs))):=λb o e=>by
 by_cases g:b=a
 .subst g;rcases h with h|⟨q,h⟩
  .rw[h]at e;cases e;exact .inr ⟨kvs,u,U,Zb⟩
  .rw[h]at e;cases e;rw[C q h];exact .inl Zb
 .exact .inl (by rw[Zm g];exact e)
theorem SmF.put{H':Hp}(s:SmF H H'){p:Au}(g:H p=none){o:HO}:SmF H (upd H' p o):=λb u e=>by
 rcases s b u e with z|⟨kvs,w,q,z⟩
 .exact .inl (by rw[Zm (Zq e g)];exact z)
 .exact .inr ⟨kvs,w,q,by rw[Zm (Zq e g)];exact z⟩
def M4.smf{H':Hp}{m:Au}{b:Nat}{nx:Ad}{ot:Ax}(M:M4 H m N b nx ot)(s:SmF H H'):M4 H' m N b nx ot:=M.tups λb xs e=>s.tup e
def uw{c:Nat}(h:c<r.length):(vD r)[c]?=some (Xd (r.getD c 0)):=by
 unfold vD;rw[Qal,getD_at h];rfl
def wN(H:Hp)(p:Au)(Ls:Ad):Prop:=∃as:A0,H p=some (.lst as)/\as.length=Ls.length/\∀(i:Nat)(L:Aj),Ls[i]?=some L->∃a,as[i]?=some (V.ref a)/\H a=some (.tup (L.map Xd))
def wN.smf{H':Hp}{p:Au}{Ls:Ad}(h:wN H p Ls)(s:SmF H H'):wN H' p Ls:=by
 obtain⟨as,h1,h2,g⟩:=h;refine⟨as,s.lst h1,h2,λi L hi=>?_⟩;obtain⟨a,C,q⟩:=g i L hi;exact⟨a,C,s.tup q⟩
def Zhh(H:Hp)(p:Au)(g:Ad):Prop:=∃as:A0,H p=some (.lst as)/\as.length=g.length/\∀(i:Nat)(S:Aj),g[i]?=some S->∃a,as[i]?=some (V.ref a)/\Rd H a (.dK (twK S))
def Zhh.smf{H':Hp}{p:Au}{g:Ad}(h:Zhh H p g)(s:SmF H H'):Zhh H' p g:=by
 obtain⟨as,h1,h2,q⟩:=h;refine⟨as,s.lst h1,h2,λi L hi=>?_⟩;obtain⟨a,D,C⟩:=q i L hi;exact⟨a,D,s.rd C⟩
def Zp4(g b:Nat):V->Bool
 |.int z=>decide (xO g z.toNat=b)
 |_=>false
theorem jm(g b:Nat):∀L:Aj,(L.map Xd).filter (Zp4 g b)=(chs g b L).map Xd
 |[]=>rfl
 |l::L=>by
  have q:=jm g b L;have e:Zp4 g b (Xd l)=decide (xO g l=b):=by
   show decide _=_;rw[Qay]
  unfold chs at q ⊢
  by_cases h:xO g l=b
  .grind
  .grind
def bit_of(l g b:Nat):decide (V.int (Builtin.bitAnd ((l:Int)/2^((g:Int)).toNat) 1)=V.int b)=Zp4 g b (Xd l):=by
 show _=decide _;rw[and_1,Qay,Qay];have e:l/2^g%2=((xO g l):Int):=by
  rfl
 rw[e];exact Qha.mpr ⟨λz=>by grind,λz=>by rw[z]⟩
def Zjc{nx:Nat->Nat->Nat}{ok:Nat->Nat->Bool}{W:Option (Aj)}{S L:Aj}{s:Nat}(g:S[i]?=some s):goB nx ok W (S.take (i+1)) L=goB nx ok W (S.take i) L++if L.any (gw nx ok W s)=true then[s]else[]:=by
 unfold goB;rw[take_snoc g,Qc9,Qcy];rfl
def Znx{nx:Nat->Nat->Nat}{ok:Nat->Nat->Bool}{W:Option (Aj)}{S L:Aj}{s:Nat}(C:S.Nodup)(g:S[i]?=some s):s∉goB nx ok W (S.take i) L:=λh=>by
 have h:=(vM.mp h).1;have q:=(Qah.mp g).1;have:(S.take i++S.drop i).Nodup:=by rw[Qbx];exact C
 refine(Qe5.mp this).2.2 s h s ?_ rfl;rw[Qb2 q,(Qah.mp g).2];exact Qam
def Zny{nx:Nat->Nat->Nat}{ok:Nat->Nat->Bool}{W:Option (Aj)}{S L:Aj}:(goB nx ok W S L).length<=S.length:=Qc6 _ _
theorem ux{nx:Nat->Nat->Nat}:∀(Ls:Ad)(S:Aj),(lys nx S Ls).length=Ls.length
 |[],_=>rfl
 |L::Ls,S=>congrArg (· + 1) (ux Ls _)
theorem Zbh{nx:Nat->Nat->Nat}:∀{Ls:Ad} {S g L:Aj} {i:Nat},(lys nx S Ls)[i]?=some g->Ls[i]?=some L->i+1<Ls.length->(lys nx S Ls)[i+1]?=some (Zck nx g L)
 |[],_,_,_,_,h,_,_=>nomatch h
 |[_],_,_,_,i,_,_,q=>absurd q (by simp)
 |L0::C::Ls,S,g,L,0,h,h2,_=>by
  cases h;cases h2;rfl
 |L0::C::Ls,S,g,L,i+1,h,h2,q=>Zbh (i:=i) h h2 (by grind)
def Zcl{nx:Nat->Nat->Nat}(S L:Aj):(Zck nx S L).Nodup:=yH _ _ Qdl
theorem Zgl{nx:Nat->Nat->Nat}{N M:Nat}(D:∀s l,s<N->l<M->nx s l<N):∀{Ls:Ad} {S:Aj},S.Nodup->(∀s∈S,s<N)->(∀L∈Ls,∀l∈L,l<M)->∀g∈lys nx S Ls,g.Nodup/\∀s∈g,s<N
 |[],_,_,_,_,_,h=>nomatch h
 |L::Ls,S,h1,h2,F,g,h=>by
  rcases Qaw.mp h with rfl|h
  .exact⟨h1,h2⟩
  .refine Zgl D (Zcl S L) (λs I=>?_) (λL J=>F L (Qak _ J)) g h;obtain⟨G,q,O,C,rfl⟩:=qm.mp I;exact D _ _ (h2 G q) (F L Qam O C)
def Zgm{N:Nat}{S:Aj}(h1:S.Nodup)(h2:∀s∈S,s<N):S.length<=N:=by
 have:=JY h1 λs g=>Qcf.mpr (h2 s g);rw[Qa3]at this;exact this
def Runs.mN{nx:Ad}{ot:Ax}{n:Nat}(R:Runs nx ot n){s l:Nat}(g:s<nx.length)(C:l<2^n):mN nx s l<nx.length:=by
 have q:=R.nr _ (getD_mem g);exact R.nl _ (getD_mem g) _ (Qag (getD_at (by lia)))
theorem Znz{N:Nat}{l:Aj}(h:∀s∈l,s<N):(l.foldl Y6 []).length<=N:=Zgm (yH _ _ Qdl) λs g=>by
 rcases(zk _ _).mp g with z|z
 .cases z
 .exact h s z
def Zgn{S:Aj}{f:Nat->List Nat}{j s:Nat}(g:S[j]?=some s):(S.take (j+1)).flatMap f=(S.take j).flatMap f++f s:=by
 rw[take_snoc g];congr 1;simp
def Zhh.more{H':Hp}{p e:Au}{g:Ad}{S:Aj}(h1:H p=some (.lst I))(h2:I.length=g.length)(G:∀(i:Nat)(S:Aj),g[i]?=some S->∃a,I[i]?=some (V.ref a)/\Rd H a (.dK (twK S)))(D:H e=some (.dK (twK S))):Zhh (upd H p (.lst (I++[.ref e]))) p (g++[S]):=by
 have q:∀{a:Au} {kvs:Ay},Rd H a (.dK kvs)->Rd (upd H p (.lst (I++[.ref e]))) a (.dK kvs):=λ{a kvs} r=>by
  have ne:a≠p:=λz=>by
   subst z;rcases r with r|⟨_,r⟩<;>rw[h1]at r<;>cases r
  rcases r with r|⟨u,r⟩
  .exact .inl (by rw[Zm ne];exact r)
  .exact .inr ⟨u,by rw[Zm ne];exact r⟩
 refine⟨_,Zb,by grind,λi J hi=>?_⟩
 by_cases F:i<g.length
 .grind
 .rw[Qa0 (by lia)]at hi;have C:i-g.length=0:=by
   grind
  rw[C]at hi;cases hi;exact⟨e,by grind,q (.inl D)⟩
def x4(H:Hp)(g:A0)(q:Ad):Prop:=g.length=q.length/\∀(i:Nat)(C:Aj),q[i]?=some C->∃a,g[i]?=some (V.ref a)/\H a=some (.tup (C.map Xd))
theorem x4.smf{H':Hp}{g:Ad}(h:x4 H u g)(s:∀b xs,H b=some (.tup xs)->H' b=some (.tup xs)):x4 H' u g:=⟨h.1,λi C hi=>by
 obtain⟨a,q,D⟩:=h.2 i C hi;exact⟨a,q,s _ _ D⟩⟩
theorem x4.cons{H:Hp}{g:A0}{q:Ad}{C:Aj}{a:Au}(h:x4 H g q)(F:H a=some (.tup (C.map Xd))):x4 H (.ref a::g) (C::q):=⟨congrArg _ h.1,λi D hi=>by
 match i,hi with
 |0,hi=>cases hi;exact⟨a,U,F⟩
 |i+1,hi=>exact h.2 i D hi⟩
def lwT(nx:Nat->Nat->Nat)(ok:Nat->Nat->Bool)(k:Nat)(S:Aj)(Ls:Ad)(j:Nat):Aj×Option (Aj):=lwb nx ok k ((lys nx S Ls).drop j) (Ls.drop j)
def Zgo{nx:Nat->Nat->Nat}{ok:Nat->Nat->Bool}{k:Nat}{S:Aj}{Ls:Ad}:lwT nx ok k S Ls Ls.length=([],none):=by
 unfold lwT;rw[Qe8];cases(lys nx S Ls).drop _<;>rfl
def Zjd{nx:Nat->Nat->Nat}{ok:Nat->Nat->Bool}{k:Nat}{S L:Aj}{Ls:Ad}{j:Nat}(h1:(lys nx S Ls)[j]?=some r)(h2:Ls[j]?=some L):lwT nx ok k S Ls j=(wL nx ok k (lwT nx ok k S Ls (j+1)).2 r L::(lwT nx ok k S Ls (j+1)).1,some (goB nx ok (lwT nx ok k S Ls (j+1)).2 r (chs k (wL nx ok k (lwT nx ok k S Ls (j+1)).2 r L) L))):=by
 unfold lwT;have e1:(lys nx S Ls).drop j=r::(lys nx S Ls).drop (j+1):=by rw[Qb2 (Qah.mp h1).1,(Qah.mp h1).2]
 have e2:Ls.drop j=L::Ls.drop (j+1):=by rw[Qb2 (Qah.mp h2).1,(Qah.mp h2).2]
 rw[e1,e2];rfl
def xg{l:List g}{j:Nat}{x:g}(h:l[j]?=some x):l.drop j=x::l.drop (j+1):=by rw[Qb2 (Qah.mp h).1,(Qah.mp h).2]
theorem Zgp{k:Nat}:∀{bs:Aj} {Ls:Ad},∀C∈cho k bs Ls,∃L∈Ls,C.length<=L.length/\∀l∈C,l∈L
 |[],_,_,h=>by cases h
 |_::_,[],_,h=>by cases h
 |b::bs,L::Ls,C,h=>by
  rcases Qaw.mp h with rfl|h
  .exact⟨L,Qam,Qc6 _ _,λl q=>(JH.mp q).1⟩
  .obtain⟨g,h1,h2⟩:=Zgp C h;exact⟨g,Qak _ h1,h2⟩
theorem Zgq{k:Nat}:∀{bs:Aj} {Ls:Ad},bs.length=Ls.length->(cho k bs Ls).length=Ls.length
 |[],[],_=>rfl
 |_::bs,_::Ls,h=>congrArg (· + 1) (Zgq (by grind))
 |[],_::_,h=>nomatch h
 |_::_,[],h=>nomatch h
theorem wO{nx:Nat->Nat->Nat}{ok:Nat->Nat->Bool}{b:Nat}{Ls:Ad}:∀k,(itL nx ok b Ls k).length=Ls.length/\∀C∈itL nx ok b Ls k,∃L∈Ls,C.length<=L.length/\∀l∈C,l∈L
 |0=>⟨U,λC h=>⟨C,h,Qai _,λ_ z=>z⟩⟩
 |k+1=>by
  obtain⟨h1,h2⟩:=wO k;refine⟨(Zgq (uq _ _).1).trans h1,λC I=>?_⟩;obtain⟨L,F,Q,G⟩:=Zgp C I;obtain⟨J,D,g,O⟩:=h2 L F;exact⟨J,D,Qaz Q g,λl q=>O l (G l q)⟩
def hdV(H:Hp):V->V
 |.ref a=>match H a with
  |some (.tup (x::_))=>x
  |_=>.non
 |_=>.non
def Zle{L:Aj}(h:H a=some (.tup (L.map Xd)))(g:L≠[]):hdV H (.ref a)=Xd (L.headD 0)/\atI (L.map Xd) 0=some (Xd (L.headD 0)):=by
 cases L with
 |nil=>exact absurd U g
 |cons x L=>
  refine⟨?_,Yb U⟩;have e:hdV H (.ref a)=(match H a with
   |some (.tup (x::_))=>x
   |_=>.non):=rfl
  rw[e,h];rfl
theorem Zbi{nx:Ad}:∀(ls:Aj)(s:Nat),Zhg (mN nx) s ls=stN nx s ls
 |[],_=>rfl
 |l::ls,s=>Zbi ls _
def Zn0{m:Au}{b:Nat}{nx:Ad}{ot:Ax}(M:M4 H m N b nx ot)(R:Runs nx ot n)(Q:b<nx.length):∃G,Zk4 H m nx.length (2^n) G b (mN nx) λs c=>(ot.getD s []).getD c .non:=by
 obtain⟨pn,ps,F,h1,_,⟨as,J,g2,O⟩,⟨bs,I,Z,Y⟩⟩:=M.ex;refine⟨_,⟨ps,F,h1,⟨as,J,λs g=>?_⟩,⟨bs,I,λs g=>?_⟩⟩,Q,λs l g C=>R.mN g C⟩
 .have D:=R.nr _ (getD_mem g);obtain⟨a,e1,e2⟩:=O s (vD (nx.getD s [])) (by grind);exact⟨a,_,e1,e2,λl C=>uw (by lia)⟩
 .have q:s<ot.length:=by rw[R.ol];exact g
  have D:=R.or _ (getD_mem q);obtain⟨a,e1,e2⟩:=Y s _ (Zfz q);exact⟨a,_,e1,e2,λl C=>getD_at (by lia)⟩
theorem uy(i:Nat):∀r:Aj,hor (((r.map λl:Nat=>(l:Int)).map λc=>c/2^i%2).reverse)=(valN i r:Int)
 |[]=>rfl
 |l::r=>by
  rw[Qb1,Qb1,Qdh,v8,uy i r];show(valN i r)*2+l/2^i%2=((xO i l+2*valN i r):Int);have e:l/2^i%2=((xO i l):Int):=by
   rfl
  rw[e];lia
def rep_at{w:Nat}{x y:g}(h:(List.replicate w x)[i]?=some y):i<w/\y=x:=by grind
def vQ(h:r≠[]):∃g c,r=g++[c]:=⟨_,_,(Qev h).symm⟩
def Zlf(g:Au)(H H':Hp):Prop:=∀b o,H b=some o->b≠g->H' b=some o\/∃kvs u,o=.dK kvs/\H' b=some (.frz u (.dK kvs))
def Zlf.of{H2:Hp}(o:∀b u,H b=some u->b≠a->d b=some u)(s:SmF d H2):Zlf a H H2:=λb u e g=>s b u (o b u e g)
def kn2:KN (Ak):={knT with
 at_:=λH ks a=>H a=some (.tup (ks.map V.int))
 ok:=λP w H h k a ok e=>knT.ok P w H h k a ok ⟨_,e,by rw[Qb7];rfl⟩
 keep:=λH H' k a g e=>g _ _ e}
def Zn1{H':Hp}(s:ZD (hide R H) H')(q:∀c∈R,H' c=none):ZD H (Jc R H H')/\(∀b o,H' b=some o->Jc R H H' b=some o)/\∀b o,H' b=some o->hide R H b=none->H b=none:=by
 refine⟨λb u e=>?_,λb o e=>?_,λb o e h=>?_⟩
 .by_cases g:b∈R
  .rw[Jy g];exact e
  .rw[Yy g];exact s _ _ (by rw[ZJ g];exact e)
 .have g:b∉R:=λm=>by grind
  rw[Yy g];exact e
 .have g:b∉R:=λm=>by grind
  rw[ZJ g]at h;exact h
def ZT.smf{H':Hp}{P:Au}{qual:Str}(h:ZT H P p qual)(s:SmF H H'):ZT H' P p qual:=by
 rcases h with h|⟨q,oc,h1,h2,g⟩
 .exact .inl (s.at h λ_ z=>nomatch z)
 .exact .inr ⟨q,oc,s.at h1 (λ_ z=>nomatch z),s.at h2 (λ_ z=>nomatch z),g⟩
def Zn2{H':Hp}{ps:List (Int×Int)}(h:Prs H ps u)(e:∀b xs,H b=some (.tup xs)->H' b=some (.tup xs)):StA (.key kn2) H' (ps.map λp=>[p.1,p.2]) u:=by
 refine⟨by rw[h.1,Qac],λi k g=>?_⟩;rw[Qal]at g;obtain⟨p,q,rfl⟩:=Qbp.mp g;obtain⟨a,C,D⟩:=h.2 i p q;exact⟨.ref a,C,a,U,e _ _ D⟩
def jn(u v:A0)(g:Ai):Prop:=g.Perm (Jp (((u++v).filter nmB).map Zol))/\PyProof.Rows.sortedS g=true
def Dff(g:Ai)(u v:A0)(ls:Aj):Prop:=bt ((YG (2^ls.length) (Jq ls g) u).getD 0 0) (ls.length-1)≠bt ((YG (2^ls.length) (Jq ls g) v).getD 0 0) (ls.length-1)
structure xh(ms:Ai)(u v:A0)(w:Nat)(r:Aj):Prop where
 w1:1<=w
 len:r.length=w
 lt:∀l∈r,l<2^ms.length
 df:Dff ms u v r
 fst:∀t:Aj,t.length=w->(∀l∈t,l<2^ms.length)->Dff ms u v t->t=r\/∃j,j<ms.length/\(∀i,i<j->valN i t=valN i r)/\valN j r<valN j t
 least:∀ls:Aj,ls≠[]->(∀x∈ls,x<2^ms.length)->Dff ms u v ls->w<=ls.length
def vR(g q:Au)(H H':Hp):Prop:=∀b o,H b=some o->b≠g->b≠q->H' b=some o\/∃kvs u,o=.dK kvs/\H' b=some (.frz u (.dK kvs))
def XC.len2{l:List (Int×Ak)}(S:XC N u)(B:BfE (nxS N u) (0,List.replicate (YJ u) 0) l):l.length<=11*2^YJ u:=by
 have h:=Za9 (nx:=nxS N u) (b:=(0,List.replicate _ _)) (G9.mpr ⟨0,by lia,U,Xs.mpr ⟨Qbh,λx g=>.inl (Qek g)⟩⟩) (λs q=>vI S.wc U q) l.length;rw[<-B.e,vG]at h;have h2:=Zf8 S.iz;exact Qaz h (Qed _ (by lia))
def XC.runs{l:List (Int×Ak)}(S:XC N u)(B:BfE (nxS N u) (0,List.replicate (YJ u) 0) l):Runs (rnG (nxS N u) l) (l.map (otS N u)) N.length:=by
 obtain⟨q,C⟩:=Zns B (Znq _ _ _ _);have hpos:=Qer B.begin.2;refine⟨by rw[Xm];exact hpos,by rw[Xm,Qac],q,C,λr g=>?_⟩;obtain⟨s,_,rfl⟩:=Qa2.mp g;exact Znr _ _ _ _ _ _
def Zp5(S:XC N u)(m:Int)(ρ:Str->Int):YG m ρ u=[(YG m ρ u).getD 0 0]:=by
 have h:=WM m ρ u;rw[S.st]at h;obtain⟨o,e⟩:=Qfo.mp h;rw[e];rfl
def Zbj{l:List (Int×Ak)}(S:XC N u)(B:BfE (nxS N u) (0,List.replicate (YJ u) 0) l){ls:Aj}{c:Nat}(g:∀x∈ls++[c],x<2^N.length):
  ((l.map (otS N u)).getD (stN (rnG (nxS N u) l) 0 ls) []).getD c .non=.int (bt ((YG (2^(ls.length+1)) (Jq (ls++[c]) N) u).getD 0 0) ls.length):=by
 have h:=vK S.nd S.kp S.wd S.en (by rw[Qaf];exact Qai _) g (Zp5 S _ _) B ls.length (by grind);rw[Zbe,Qa0 (by rw[vJ];exact Qai _),vJ,Qd9]at h;exact Option.some.inj h
def vS{v:A0}{g C:List (Int×Ak)}{l:List (Ak)}(J:XC N u)(G:XC N v)(I:BfE (nxS N u) (0,List.replicate (YJ u) 0) g)(F:BfE (nxS N v) (0,List.replicate (YJ v) 0) C)(B:BfE (pN (rnG (nxS N u) g) (rnG (nxS N v) C)) (pK 0 0) l){ls:Aj}{c:Nat}(h:∀x∈ls++[c],x<2^N.length):
  Y9 (mN (rnG (pN (rnG (nxS N u) g) (rnG (nxS N v) C)) l)) (mB (l.map (pO (g.map (otS N u)) (C.map (otS N v)))) (.bl true)) 0 (ls++[c])=true↔Dff N u v (ls++[c]):=by
 have D:=J.runs I;have R2:=G.runs F;rw[Znw D R2 D.pos R2.pos B h];have e1:=Zbj J I h;have e2:=Zbj G F h;rw[e1,e2];unfold Dff;rw[Qaf];show _↔bt ((YG (2^(ls.length+1)) _ u).getD 0 0) ls.length≠bt ((YG (2^(ls.length+1)) _ v).getD 0 0) ls.length;rcases WL _ _ with p|p<;>rcases WL _ _ with q|q<;>rw[p,q]<;>simp
def Zcm{v:A0}{g q:List (Int×Ak)}{l:List (Ak)}{w:Nat}(O:XC N u)(I:XC N v)(J:BfE (nxS N u) (0,List.replicate (YJ u) 0) g)(G:BfE (nxS N v) (0,List.replicate (YJ v) 0) q)(B:BfE (pN (rnG (nxS N u) g) (rnG (nxS N v) q)) (pK 0 0) l)(hw:1<=w)
  (F:zo (mN (rnG (pN (rnG (nxS N u) g) (rnG (nxS N v) q)) l)) (mB (l.map (pO (g.map (otS N u)) (q.map (otS N v)))) (.bl true)) 0 N.length w r)
  (Z:∀(ls:Aj)(c:Nat),(∀x∈ls++[c],x<2^N.length)->Y9 (mN (rnG (pN (rnG (nxS N u) g) (rnG (nxS N v) q)) l)) (mB (l.map (pO (g.map (otS N u)) (q.map (otS N v)))) (.bl true)) 0 (ls++[c])=true->w<=ls.length+1):xh N u v w r:=by
 have ne:∀{t:Aj},t.length=w->∃C c,t=C++[c]:=λ{t} h=>vQ λz=>by grind
 refine⟨hw,F.len,F.lt,?_,λt h1 h2 D=>?_,λls h1 h2 D=>?_⟩
 .obtain⟨C,c,e⟩:=ne F.len;have Q:=F.last;have Y:=F.lt;rw[e]at Q Y ⊢;exact(vS O I J G B Y).mp Q
 .obtain⟨C,c,rfl⟩:=ne h1;exact F.fst _ h1 h2 ((vS O I J G B h2).mpr D)
 .obtain⟨C,c,rfl⟩:=vQ h1;rw[Qaf];exact Z C c h2 ((vS O I J G B h2).mpr D)
def Zgr(i:Nat)(r:Aj):(valN i r:Int)=sm (λk=>bt ((r.getD k 0:Nat):Int) i) r.length:=by
 rw[<-uy,<-Zk2];congr 2;refine Qej λk=>?_;rw[Qal,Qal,Qal]
 by_cases h:k<r.length
 .rw[Qd6 h,getD_at h];rfl
 .grind
def Zgs{ls:Aj}{y:Str}(g:N.Nodup)(h:N[i]?=some y):Jq ls N y=(valN i ls:Int):=by
 unfold Jq;rw[Ws g h,Zgr]
def Zgt:∀ys:Ai,ys.Nodup->keysOf ys=ys.map (Sum.inr:Str->Key):=by
 refine snoc_ind (λ_=>U) λys y g h=>?_;obtain⟨h1,_,q⟩:=Qe5.mp h;rw[WN,g h1,Qa6,Qbd]
 .rfl
 .grind
def Tab.len_nd{a:Ay}{ys:Ai}{f:Str->Int}(T:Tab a ys f)(h:ys.Nodup):a.length=ys.length:=by
 have:=congrArg List.length T.keys;rw[Zgt ys h,Qac,Qac]at this;exact this
def wwv_cg{y:Str}{is:Ak}(h:y∈Gd)(q:is.length=Ys y)(ρ g:Str->Int):wwv ρ (.str y) is=wwv g (.str y) is:=by
 have C:=(by decide +kernel:∀y∈Gd,1<=Ys y) y h
 match is,q with
 |[],q=>rw[<-q]at C;cases C
 |[a],_=>rfl
 |[a,b],_=>rfl
 |a::b::c::_,_=>rfl
inductive Tr where
 |p|q|r
 |num (z:Int)
 |one (y:Str) (t:Tr)
 |two (y:Str) (t u:Tr)
 |thr (y:Str) (t u v:Tr)
def Tr.flat(P Q R:A0):Tr->List V
 |.p=>P
 |.q=>Q
 |.r=>R
 |.num z=>[.int z]
 |.one y t=>.str y::t.flat P Q R
 |.two y t u=>.str y::(t.flat P Q R++u.flat P Q R)
 |.thr y t u v=>.str y::(t.flat P Q R++(u.flat P Q R++v.flat P Q R))
def Tr.ok:Tr->Bool
 |.p=>true
 |.q=>true
 |.r=>true
 |.num z=>decide (0<=z/\z<1000)
 |.one y t=>decide (y∈Gd/\Ys y=1)&&t.ok
 |.two y t u=>decide (y∈Gd/\Ys y=2)&&(t.ok&&u.ok)
 |.thr y t u v=>decide (y∈Gd/\Ys y=3)&&(t.ok&&(u.ok&&v.ok))
def Zoq:List (Tr×Tr):=[
 (.two "add" .p .q,.two "add" (.two "or" .p .q) (.two "and" .p .q)),
 (.two "add" .p .q,.two "add" .q .p),
 (.two "sub" .p .q,.two "add" .p (.one "neg" .q)),
 (.two "odd" .p .q,.two "sub" (.two "or" .p .q) (.two "and" .p .q)),
 (.one "neg" .p,.one "not" (.two "sub" .p (.num 1))),
 (.one "twice" .p,.two "add" .p .p),
 (.one "low" .p,.two "and" .p (.one "neg" .p)),
 (.thr "pick" .p .q .r,.two "odd" .r (.two "and" .p (.two "odd" .q .r))),
 (.one "not" (.two "and" .p .q),.two "or" (.one "not" .p) (.one "not" .q)),
 (.two "add" .p .q,.two "add" (.two "odd" .p .q) (.one "twice" (.two "and" .p .q))),
 (.two "sub" .p .q,.one "not" (.two "add" (.one "not" .p) .q)),
 (.two "or" .p .q,.one "not" (.two "and" (.one "not" .p) (.one "not" .q))),
 (.p,.one "neg" (.one "neg" .p)),
 (.two "and" .p .q,.two "sub" (.two "add" .p .q) (.two "or" .p .q)),
 (.two "odd" .p .p,.num 0),
 (.p,.two "odd" .q (.two "odd" .p .q))]
structure Gives(te:TE)(σ:L2.St)(H0:Hp)(ws:A0)(n:Nat):Prop where
 l:ws.length<=n
 g:∀(H:Hp)(Q:VK),ZD H0 H->(∀p H',ZD H H'->H' p=some (.tup ws)->Q (.ref p) H')->te σ H Q
def jo{p:Au}(g:c[i]?=some (some (.ref p)))(h:d p=some (.tup u))(q:u.length<=n):Gives (yT i) c d u n:=⟨q,λH Q s k=>⟨.ref p,g,k p H (ZD.refl _) (s _ _ h)⟩⟩
def wQ{xs:A0}(n:Nat)(h:∀(H:Hp)(R:A0->Hp->Prop),R xs H->Y c H R)(q:xs.length<=n)(C:n<=1000):Gives (Zoj Y) c d xs n:=⟨q,λH Q s k=>h H _ ⟨Qax (Zu (by lia)),λp g=>k p _ (Zd g) Zb⟩⟩
def XY{vs:A0}{m:Nat}(a:Gives A c d u n)(b:Gives M c d vs m)(h:n+m<=1000:=by decide):Gives (tOp Zpl A M) c d (u++vs) (n+m):=by
 have J:=a.l;have O:=b.l;refine⟨by rw[Qaf];lia,λH Q s k=>a.g H _ s λp H1 C h1=>b.g H1 _ (s.trans C) λq H2 D h2=>⟨p,q,u,vs,U,U,D _ _ h1,h2,Qax (Zu (by lia)),λt I F G=>k t I (C.trans (D.trans G)) F⟩⟩
structure Prw(H:Hp)(zs:A0)(ws:List (A0×A0)):Prop where
 l:zs.length=ws.length
 g:∀(i:Nat)(w:A0×A0),ws[i]?=some w->∃t a b,zs[i]?=some (.ref t)/\H t=some (.tup [.ref a,.ref b])/\H a=some (.tup w.1)/\H b=some (.tup w.2)
theorem Prw.tups{H':Hp}{q:List (A0×A0)}(h:Prw H u q)(e:∀b xs,H b=some (.tup xs)->H' b=some (.tup xs)):Prw H' u q:=⟨h.l,λi w hw=>by
 obtain⟨t,a,b,h1,h2,C,D⟩:=h.g i w hw;exact⟨t,a,b,h1,e _ _ h2,e _ _ C,e _ _ D⟩⟩
def Prw.snoc{q:List (A0×A0)}{t b:Au}{v:A0}(h:Prw H I q)(h1:H t=some (.tup [.ref a,.ref b]))(h2:H a=some (.tup u))(J:H b=some (.tup v)):Prw H (I++[.ref t]) (q++[(u,v)]):=by
 refine⟨by rw[Qaf,Qaf,h.l];rfl,λi w hw=>?_⟩;have hi:=(Qah.mp hw).1;rw[Qaf]at hi;have hi:i<q.length+1:=hi
 by_cases C:i<q.length
 .rw[Qa8 C]at hw;obtain⟨t',G,F,Q,O⟩:=h.g i w hw;exact⟨t',G,F,by grind,O⟩
 .have D:i=q.length:=by lia
  subst D;rw[Qa0 (Qai _),Qd9]at hw;cases hw;exact⟨t,a,b,by rw[<-h.l,Qa0 (Qai _),Qd9];rfl,h1,h2,J⟩
def PwL(q:Hp)(ps:Au)(H:Hp)(g:List (A0×A0))(c:Nat):Prop:=∃zs,H ps=some (.lst zs)/\Prw H zs g/\zs.length<=c/\ZD q H
theorem Zn3{B:TE}{N:Az}{rt:VK}{bk ct:Az}{σ:L2.St}{ps:Au}{Q:List (A0×A0)}{vs:A0}{m c:Nat}(D:σ[i]?=some (some (.ref ps)))(h0:d ps=none)(h:PwL d ps H Q c)(k:∀H',PwL d ps H' (Q++[(u,vs)]) (c+1)->N σ H')
  (Z:Gives A σ d u n:=by repeat' first|assumption|exact wQ _ (λ_ _ h=>h) (Qai _) (by decide)|apply XY|decide) (gB:Gives B σ d vs m:=by repeat' first|assumption|exact wQ _ (λ_ _ h=>h) (Qai _) (by decide)|apply XY|decide) (hc:c<=100:=by decide):Zde (tBM K "list" g9 (yT i) (qJ (Zoj (qJ A (qJ B Zhb))) Zhb)) {nx:=N,rt:=rt,bk:=bk,ct:=ct} σ H:=by
 obtain⟨zs,h,Y,hl,s⟩:=h;refine⟨_,D,.inl ⟨U,_,SqL.of h⟩,Z.g H _ s λa H1 G h1=>gB.g H1 _ (s.trans G) λb H2 I h2=>⟨ko,λt O=>⟨ps,zs,.ref t,U,U,?_,Zu (by lia),?_⟩⟩⟩
 .exact((G.trans I).trans (Zd O)) _ _ h
 .have C:=Zd (o:=.tup [.ref a,.ref b]) O;have F:=(G.trans I).trans C;have J:=F _ _ h;have q:∀{c:Au} {xs:A0},upd H2 t (.tup [.ref a,.ref b]) c=some (.tup xs)->upd (upd H2 t (.tup [.ref a,.ref b])) ps (.lst (zs++[.ref t])) c=some (.tup xs):=λe=>by
   rw[Zm (Xv e J λz=>nomatch z)];exact e
  exact k _ ⟨_,Zb,((Y.tups λc xs e=>F _ _ e).tups λc xs e=>q e).snoc (q Zb) (q (C _ _ (I _ _ h1))) (q (C _ _ h2)),by grind,ZV (s.trans F) h0⟩
theorem Zn4{B:TE}{vs:A0}{m:Nat}(k:∀ps H',H ps=none->PwL H ps H' [(u,vs)] 1->C (.ref ps) H')(Q:Gives A c H u n:=by repeat' first|assumption|exact wQ _ (λ_ _ h=>h) (Qai _) (by decide)|apply XY|decide)(O:Gives B c H vs m:=by repeat' first|assumption|exact wQ _ (λ_ _ h=>h) (Qai _) (by decide)|apply XY|decide):Zp8 (qJ (Zoj (qJ A (qJ B Zhb))) Zhb) c H C:=by
 refine Q.g H _ (ZD.refl _) λa H1 G h1=>O.g H1 _ G λb H2 I h2=>⟨ko,λt J=>⟨Zbm,λps q=>?_⟩⟩;have F:=Zd (o:=.tup [.ref a,.ref b]) J;have D:=Zd (o:=.lst [.ref t]) q;have N:Prw (upd (upd H2 t (.tup [.ref a,.ref b])) ps (.lst [.ref t])) [] []:=⟨U,λi w hw=>nomatch hw⟩;exact k ps _ (G.free (I.free (F.free q))) ⟨_,Zb,N.snoc (D _ _ Zb) (D _ _ (F _ _ (I _ _ h1))) (D _ _ (F _ _ h2)),Qai _,G.trans (I.trans (F.trans D))⟩
def asg_go{g:TG}{u:TS}(h:A c H λx H1=>g x c H1 (u G)):Yt (Zhm A g) u G c H:=h
def seq_go{t u:TS}(h:t {G with nx:=u G} c H):Yt t u G c H:=h
def rws(m:Nat):Nat->List (Aj)
 |0=>[[]]
 |k+1=>(rws m k).flatMap λvs=>(List.range m).map λw=>vs++[w]
theorem Zn5(m k:Nat):(rws m k).length=m^k:=by
 induction k with
 |zero=>rfl
 |succ k g=>
  have go:∀l:Ad,(l.flatMap λvs=>(List.range m).map λw=>vs++[w]).length=l.length*m:=by
   intro l
   induction l with
   |nil=>exact(Nat.zero_mul _).symm
   |cons v l g=>rw[List.flatMap_cons,Qaf,g,Qac,Qa3,Qb3,Qhi,Nat.add_comm]
  show((rws m k).flatMap λvs=>(List.range m).map λw=>vs++[w]).length=_;rw[go,g,Nat.pow_succ]
theorem vT{m k:Nat}{vs:Aj}(h:vs∈rws m k):vs.length=k/\∀x∈vs,x<m:=by
 induction k generalizing vs with
 |zero=>
  have:vs=[]:=Qau.mp h;subst this;exact⟨U,λ_ z=>nomatch z⟩
 |succ k D=>
  obtain⟨G,h1,h2⟩:=Qhb.mp h;obtain⟨w,F,rfl⟩:=Qa2.mp h2;obtain⟨C,q⟩:=D h1;refine⟨by rw[Qaf,C];rfl,λx g=>?_⟩;rcases Qa7.mp g with z|z
  .exact q x z
  .grind
def qH(nm:Ai)(vs:Aj)(y:Str):Int:=((vs.getD (nm.idxOf y) 0:Nat):Int)
def kvC(nm:Ai)(vs:Aj):Ay:=(nm.zip vs).map λp=>(.inr p.1,.int (p.2:Int))
def qp(H:Hp)(p:Au)(nm:Ai)(L:Ad):Prop:=∃ds:List Au,H p=some (.lst (ds.map V.ref))/\ds.length=L.length/\∀(i:Nat)(d:Au)(v:Aj),ds[i]?=some d->L[i]?=some v->H d=some (.dK (kvC nm v))
def Zn6(nm:Ai)(vs:Aj):(kvC nm vs).length<=nm.length:=by
 unfold kvC;rw[Qac,Qcu];exact Nat.min_le_left _ _
def Zn7{y:Str}{vs:Aj}{w:Nat}(C:y∉N)(D:vs.length=N.length):putK (kvC N vs) (.inr y) (.int w)=kvC (N++[y]) (vs++[w]):=by
 unfold putK;rw[Qa6]
 .unfold kvC;rw[List.zip_append D.symm,Qbd];rfl
 .intro z;obtain⟨q,h1,h2⟩:=Qdf.mp z;obtain⟨p,g,rfl⟩:=Qa2.mp h1;have:=Qba h2;injection this with this;exact C (by rw[<-this];exact(Qeg g).1)
theorem Zgu(D:N.Nodup){vs:Aj}(g:vs.length=N.length):Zcd (kvC N vs) N (qH N vs):=by
 have go:∀{N:Ai} {vs:Aj},vs.length=N.length->∀y,y∉N->Yp (kvC N vs) (.inr y)=none:=by
  intro N vs g y C;have:=X7 (.inr y) (kvC N vs);cases e:Yp (kvC N vs) _ with
  |none=>rfl
  |some v=>
   rw[e]at this;obtain⟨q,h1,h2⟩:=Qdf.mp this;obtain⟨p,G,rfl⟩:=Qa2.mp h1;have:=Qba h2;injection this with this;exact absurd (by rw[<-this];exact(Qeg G).1) C
 refine⟨?_,go g⟩
 induction N generalizing vs with
 |nil=>intro y C;cases C
 |cons x N I=>
  match vs,g with
  |v::vs,g=>
   intro y C;show Yp (((.inr x),V.int _)::kvC N vs) _=some (.int (((v::vs).getD _ 0:Nat):Int))
   by_cases h:x=y
   .subst h;rw[Yl U,List.idxOf_cons_self];rfl
   .rw[Yg (λz=>h (Sum.inr.inj z)),show(x::N).idxOf y=N.idxOf y+1 by rw[Qhe,beq_false_of_ne h];rfl];have F:y∈N:=by grind
    exact I (Qcj.mp D).2 (Nat.succ.inj g) y F
def qp.snoc{g:Hp}{p:Au}{L:Ad}{v:Aj}(h:qp H a N L)(keep:∀d q,H d=some (.dK q)->g d=some (.dK q))(G:∀ds:List Au,H a=some (.lst (ds.map V.ref))->g a=some (.lst (ds.map V.ref++[V.ref p])))(D:g p=some (.dK (kvC N v))):qp g a N (L++[v]):=by
 obtain⟨ds,h1,h2,C⟩:=h;refine⟨ds++[p],by grind,by grind,λi d u F I=>?_⟩
 by_cases hi:i<ds.length
 .grind
 .grind
theorem Zgv:∀{u:A0},Yf u->∀r,Wr (u++r)=Wr u+Wr r/\(Yf r->Yf (u++r))
 |[],_,r=>⟨(Qhg _).symm,id⟩
 |w::u,h,r=>by
  obtain⟨h1,h2⟩:=Zgv h.2 r;have g:=h.1;refine⟨?_,λe=>⟨?_,h2 e⟩⟩
  .show Wr (u++r)-npw w+1=Wr u-npw w+1+Wr r;lia
  .show npw w<=Wr (u++r);lia
structure Wp(nm:Ai)(P:A0)(a b:Nat):Prop where
 wd:∀w∈P,XB nm 10 w
 en:Yf P
 st:Wr P=1
 ln:P.length<=a
 rm:YJ P<=b
def Tr.mz(a b:Nat):Tr->Nat×Nat
 |.p=>(a,b)
 |.q=>(3,0)
 |.r=>(1,0)
 |.num _=>(1,0)
 |.one y t=>((t.mz a b).1+1,(t.mz a b).2+if y∈Wk then 1 else 0)
 |.two y t u=>((t.mz a b).1+(u.mz a b).1+1,(t.mz a b).2+(u.mz a b).2+if y∈Wk then 1 else 0)
 |.thr y t u v=>((t.mz a b).1+((u.mz a b).1+(v.mz a b).1)+1,(t.mz a b).2+((u.mz a b).2+(v.mz a b).2)+if y∈Wk then 1 else 0)
def Wp.app{v:A0}{a b c d m:Nat}(J:(∀w∈u,XB N 10 w)/\Yf u/\Wr u=n/\u.length<=a/\YJ u<=b)(C:(∀w∈v,XB N 10 w)/\Yf v/\Wr v=m/\v.length<=c/\YJ v<=d):(∀w∈u++v,XB N 10 w)/\Yf (u++v)/\Wr (u++v)=n+m/\(u++v).length<=a+c/\YJ (u++v)<=b+d:=by
 obtain⟨D,q,F,Z,Y⟩:=J;obtain⟨g,G,I,O,Q⟩:=C;obtain⟨e1,e2⟩:=Zgv q v;exact⟨λw h=>(Qa7.mp h).elim (D w) (g w),e2 G,by rw[e1,F,I],by rw[Qaf];lia,by rw[zm];lia⟩
def Wp.of{P:A0}{a b:Nat}(h:Wp N P a b):(∀w∈P,XB N 10 w)/\Yf P/\Wr P=1/\P.length<=a/\YJ P<=b:=⟨h.wd,h.en,h.st,h.ln,h.rm⟩
def Wp.word{a b:Nat}{y:Str}(G:∀y∈N,y∉YA)(q:y∈Gd/\Ys y=n)(J:(∀w∈u,XB N 10 w)/\Yf u/\Wr u=n/\u.length<=a/\YJ u<=b):Wp N (.str y::u) (a+1) (b+if y∈Wk then 1 else 0):=by
 obtain⟨O,I,C,F,Y⟩:=J;obtain⟨Q,g,D⟩:=WO G q.1;rw[q.2]at g;refine⟨λw h=>?_,⟨by rw[g,C];exact Qai _,I⟩,?_,Qhc F,?_⟩
 .grind
 .show Wr u-npw (.str y)+1=1;rw[g,C,Qd9]
 .rw[JF,D]
  by_cases h:y∈Wk
  .grind
  .grind
theorem Tr.wp{nm:Ai}{P Q R:A0}{a b:Nat}(g:∀y∈nm,y∉YA)(D:Wp nm P a b)(C:Wp nm Q 3 0)(hR:Wp nm R 1 0):∀{t:Tr},t.ok=true->Wp nm (t.flat P Q R) (t.mz a b).1 (t.mz a b).2
 |.p,_=>D
 |.q,_=>C
 |.r,_=>hR
 |.num z,h=>by
  have h:=Qba h;have l:=JG g (show Zay nm (.int z)from .inr ⟨z,U,h.1,h.2⟩);refine⟨λw hw=>by rw[Qau.mp hw];exact l.1,⟨by exact Qbj _,trivial⟩,?_,Qai _,?_⟩
  .show 0-npw (.int z)+1=1;lia
  .show YJ [.int z]<=0;exact Qai _
 |.one y t,h=>by
  obtain⟨h1,h2⟩:=Qco.mp h;exact Wp.word g (Qba h1) (Tr.wp g D C hR h2).of
 |.two y t u,h=>by
  obtain⟨h1,h2⟩:=Qco.mp h;obtain⟨h2,F⟩:=Qco.mp h2;exact Wp.word g (Qba h1) (Wp.app (Tr.wp g D C hR h2).of (Tr.wp g D C hR F).of)
 |.thr y t u v,h=>by
  obtain⟨h1,h2⟩:=Qco.mp h;obtain⟨h2,F⟩:=Qco.mp h2;obtain⟨F,G⟩:=Qco.mp F;exact Wp.word g (Qba h1) (Wp.app (Tr.wp g D C hR h2).of (Wp.app (Tr.wp g D C hR F).of (Tr.wp g D C hR G).of))
def Zn8:∀w∈Zoq,w.1.ok=true/\w.2.ok=true/\(w.1.mz 5 1).1<=20/\(w.2.mz 5 1).1<=20/\(w.1.mz 5 1).2<=4/\(w.2.mz 5 1).2<=4:=by decide +kernel
theorem Zgw{m:Nat}:∀{k:Nat} {vs:Aj},vs.length=k->(∀x∈vs,x<m)->vs∈rws m k
 |0,vs,h,_=>by rw[Qbz h];exact Qau.mpr U
 |k+1,vs,h,g=>by
  obtain⟨u,w,rfl⟩:∃u w,vs=u++[w]:=⟨vs.dropLast,vs.getLast (λz=>by rw[z]at h;cases h),(Qev _).symm⟩;have q:u.length=k:=by grind
  exact Qhb.mpr ⟨u,Zgw q λx h=>g x (Qbs _ h),Qa2.mpr ⟨w,Qcf.mpr (g w (Qa1 _ (Qau.mpr U))),U⟩⟩
def LexR(a b:Aj):Prop:=∃j,j<a.length/\(∀i,i<j->a.getD i 0=b.getD i 0)/\a.getD j 0<b.getD j 0
def Zlg{a:Aj}{w:Nat}(h:i<a.length):(a++[w]).getD i 0=a.getD i 0:=by grind
def Zlh{a:Aj}{w:Nat}:(a++[w]).getD a.length 0=w:=by grind
theorem Zgx(m:Nat):∀k,(rws m k).Pairwise LexR
 |0=>List.pairwise_singleton _ _
 |k+1=>by
  refine List.pairwise_flatMap.mpr ⟨λu I=>?_,(Zgx m k).imp_of_mem λ{a b} D G h x g y C=>?_⟩
  .refine Qgu.mpr (List.pairwise_lt_range.imp λ{x y} h=>⟨u.length,by grind,λi hi=>by rw[Zlg hi,Zlg hi],by rw[Zlh,Zlh];exact h⟩)
  .obtain⟨p,_,rfl⟩:=Qa2.mp g;obtain⟨q,_,rfl⟩:=Qa2.mp C;obtain⟨j,h1,h2,F⟩:=h;exact⟨j,by rw[Qaf];lia,λi hi=>by grind,by grind⟩
def Zgy{m k j:Nat}{vs:Aj}{P:Aj->Prop}(g:(rws m k)[j]?=some vs)(C:∀a∈(rws m k).take j,P a)(q:r∈rws m k)(D:¬P r):r=vs\/LexR vs r:=by
 obtain⟨i,hi⟩:=Qcp q;rcases Nat.lt_trichotomy i j with h|h|h
 .exact absurd (C r (Qag (by rw[Qeu,Qa9 h];exact hi))) D
 .grind
 .obtain⟨h1,e1⟩:=Qah.mp g;obtain⟨h2,e2⟩:=Qah.mp hi;have:=List.pairwise_iff_getElem.mp (Zgx m k) j i h1 h2 h;rw[e1,e2]at this;exact .inr this
theorem wR:∀l:Ai,PyProof.Rows.sortedS l=true->l.Pairwise (λa b=>PySem.Spec.ltCps b.cps.toList a.cps.toList=false)
 |[],_=>.nil
 |x::r,h=>.cons (JW x r h) (wR r (G7 h))
structure Sm(ys:Ai)(u:A0):Prop where
 wd:∀w∈u,XB ys 10 w
 en:Yf u
 st:Wr u=1
 rm:YJ u<=5
 ln:u.length<=28
structure Nm3(ys:Ai):Prop where
 n3:ys.length<=3
 nd:ys.Nodup
 nm:∀y∈ys,NmS y
 so:PyProof.Rows.sortedS ys=true
def Nm3.kp{ys:Ai}(N:Nm3 ys):∀y∈ys,y∉YA:=λy h=>(N.nm y h).k
theorem Nm3.sub{ys g:Ai}(N:Nm3 ys)(s:g.Sublist ys):Nm3 g:=
 ⟨Qaz s.length_le N.n3,N.nd.sublist s,λy h=>N.nm y (s.subset h),PyProof.Rows.sortedS_of_pairwise _ ((wR _ N.so).sublist s)⟩
def nmF(ys:Ai)(g:A0):Ai:=ys.filter λy=>inV (.str y) g
def Sm.to{ys:Ai}(S:Sm ys u)(h:∀w∈u,w∈I):Sm (nmF ys I) u:=by
 refine⟨λw hw=>?_,S.en,S.st,S.rm,S.ln⟩;rcases S.wd w hw with⟨y,e,h1,h2,g⟩|⟨y,e,h1,h2,g⟩|h1
 .exact .inl ⟨y,e,h1,λz=>h2 (Qct.mp z).1,g⟩
 .exact .inr (.inl ⟨y,e,Qct.mpr ⟨h1,vt.mpr (e ▸ h w hw)⟩,h2,g⟩)
 .exact .inr (.inr h1)
def Sm.sok{ys:Ai}(S:Sm ys u)(N:Nm3 ys):XC ys u:=
 {n3:=N.n3,nd:=N.nd,kp:=N.kp,ln:=by have:=S.ln;lia,wd:=S.wd,en:=S.en,st:=S.st,rm:=by have:=S.rm;lia}
theorem Sm.si{ys:Ai}(S:Sm ys u)(N:Nm3 ys):∀w∈u,w9 w:=λw h=>by
 rcases S.wd w h with⟨y,e,h1,_⟩|⟨y,e,h1,_⟩|⟨z,e,_⟩
 .exact .inl ⟨y,e,(by decide +kernel:∀s∈Gd,s.length<=1000) y h1⟩
 .exact .inl ⟨y,e,Qaz (N.nm y h1).l.1.2 (by decide)⟩
 .exact .inr ⟨z,e⟩
def jq{ys:Ai}{v:A0}{q:Ai}(N:Nm3 ys)(G:Sm ys u)(F:Sm ys v)(h:jn u v q):q=nmF ys (u++v):=by
 have nd:=h.1.nodup_iff.mpr (gR _);refine yz _ _ h.2 (N.sub Qgg).so ((List.perm_ext_iff_of_nodup nd (N.nd.filter _)).mpr λy=>?_);rw[h.1.mem_iff,show y∈Jp _↔_ from(vk _ [] Qdl).2 y,Qct];constructor
 .rintro(h|h)
  .cases h
  .obtain⟨x,g,rfl⟩:=Qa2.mp h;obtain⟨g,C⟩:=Qct.mp g;cases x with
   |str y=>
    have D:=Qba C;refine⟨?_,vt.mpr g⟩;have hw:=(Qa7.mp g).elim (G.wd _) (F.wd _);rcases hw with⟨z,e,h1,_⟩|⟨z,e,h1,_⟩|⟨z,e,_⟩
    .cases e;exact absurd (Zf9 _ h1).2 D.1
    .cases e;exact h1
    .cases e
   |_=>cases C
 .rintro⟨h1,h2⟩;have nm:=N.nm y h1;exact .inr (Qa2.mpr ⟨.str y,Qct.mpr ⟨vt.mp h2,Qar ⟨nm.k,nm.l⟩⟩,U⟩)
theorem jr{ys:Ai}{m:Int}{ρ g:Str->Int}(C:∀y∈ys,ρ y=g y):∀{q:A0},(∀w∈q,XB ys 10 w)->Yf q->YG m ρ q=YG m g q
 |[],_,_=>rfl
 |w::r,h,D=>by
  have I:=jr (m:=m) C (λx F=>h x (Qak _ F)) D.2;show(wwv ρ w _%m)::(YG m ρ r).drop _=(wwv g w _%m)::(YG m g r).drop _;have G:=WM m g r;rw[I];congr 2;rcases h w Qam with⟨y,rfl,h1,_,h2⟩|⟨y,rfl,h1,_,h2⟩|⟨z,rfl,_⟩
  .refine wwv_cg h1 ?_ _ _;rw[Qas,G,<-h2];exact Qdq D.1
  .rw[h2];exact C y h1
  .rfl
def yP{ys:Ai}(nd:ys.Nodup)(f:Str->Int)(W:Nat)(D:∀y∈ys,0<=f y/\f y<2^W):∃ls:Aj,ls.length=W/\(∀l∈ls,l<2^ys.length)/\∀y∈ys,Jq ls ys y=f y:=by
 obtain⟨ls,e,h1,h2⟩:=Zi8 ys f W;refine⟨ls,h2,h1,λy q=>?_⟩;obtain⟨i,hi⟩:=Qcp q;unfold Jq;rw[Ws nd hi,h2];have F:=(Qah.mp hi).1;have C:∀k,k<W->bt ((ls.getD k 0):Int) i=f y/2^k%2:=λk G=>by
  have g:=congrArg (λl=>l[k]?) e;simp[Qal,Qfe]at g;rw[getD_at (d:=0) (show k<ls.length by lia)]at g;have g:ltr ys f k=((ls.getD k 0:Nat)):=by grind
  rw[<-g];show ltr ys f k/2^i%2=_;unfold ltr;rw[Zfu (λj=>Zpx _ _) i _ F,Qat,hi];rfl
 rw[v9 C,vA,Qcn (D y q).1 (D y q).2]
theorem Zgz(nx:Ad)(ot:Ax):∀(a b:Aj)(s:Nat),rnO nx ot s (a++b)=rnO nx ot s a++rnO nx ot (stN nx s a) b
 |[],_,_=>rfl
 |c::a,b,s=>congrArg _ (Zgz nx ot a b _)
def Zg0{v:A0}{ls:Aj}{I l2:List (Int×Ak)}(G:XC N u)(F:XC N v)(Z:BfE (nxS N u) (0,List.replicate (YJ u) 0) I)(Y:BfE (nxS N v) (0,List.replicate (YJ v) 0) l2)(C:∀x∈ls,x<2^N.length):
  YG (2^ls.length) (Jq ls N) u=YG (2^ls.length) (Jq ls N) v↔∀k,k<ls.length->¬Dff N u v (ls.take (k+1)):=by
 have D:∀{g:A0} {l:List (Int×Ak)},XC N g->BfE (nxS N g) (0,List.replicate (YJ g) 0) l->(0<=(YG (2^ls.length) (Jq ls N) g).getD 0 0/\(YG (2^ls.length) (Jq ls N) g).getD 0 0<2^ls.length)/\∀k,k<ls.length->bt ((YG (2^(k+1)) (Jq (ls.take (k+1)) N) g).getD 0 0) k=bt ((YG (2^ls.length) (Jq ls N) g).getD 0 0) k:=λ{g l} S B=>by
  refine⟨?_,λk q=>?_⟩
  .cases g with
   |nil=>cases S.st
   |cons w r=>exact⟨Qbe _ (Qem (XA _)),Qa5 _ (XA _)⟩
  .have Q:(ls.take (k+1)).length=k+1:=by rw[Qas];lia
   have h1:=vK S.nd S.kp S.wd S.en (Qai _) C (Zp5 S _ _) B k q;have h2:=vK S.nd S.kp S.wd S.en (Qgl Q) (λx O=>C x (Qbw O)) (Zp5 S _ _) B k (by lia);rw[<-Qbx (k+1) ls,Zgz,Qa8 (by rw[vJ];lia),h2,Qbx]at h1;injection h1 with h1;injection h1
 obtain⟨⟨b1,J⟩,k1⟩:=D G Z;obtain⟨⟨b2,c2⟩,k2⟩:=D F Y;have d:∀k,k<ls.length->(Dff N u v (ls.take (k+1))↔bt ((YG (2^ls.length) (Jq ls N) u).getD 0 0) k≠bt ((YG (2^ls.length) (Jq ls N) v).getD 0 0) k):=λk q=>by
  unfold Dff;rw[Qas,Qdq (show k+1<=ls.length from q),Nat.add_sub_cancel,k1 k q,k2 k q]
 constructor
 .grind
 .intro h;have:=v9 (n:=ls.length) λk q=>Decidable.not_not.mp λz=>h k q ((d k q).mpr z);rw[show∀o W,sm (λk=>bt o k) W=o%2^W fromλo W=>vA o W,show∀o W,sm (λk=>bt o k) W=o%2^W fromλo W=>vA o W,Qcn b1 J,Qcn b2 c2]at this;rw[Zp5 G,Zp5 F,this]
def prL(l:List (Ak)):List (Int×Int):=l.map λk=>(k.getD 0 0,k.getD 1 0)
structure Zhi(nm:Ai)(u v:A0)(l1 l2:List (Int×Ak)):Prop where
 b1:BfE (nxS nm u) (0,List.replicate (YJ u) 0) l1
 b2:BfE (nxS nm v) (0,List.replicate (YJ v) 0) l2
def NoDf(nm:Ai)(u v:A0):Prop:=∀ls:Aj,ls≠[]->(∀x∈ls,x<2^nm.length)->¬Dff nm u v ls
def Verd(H:Hp)(f:Au)(nm:Ai)(u v:A0):Prop:=∃(g D:List (Int×Ak)),Zhi nm u v g D /\
 ((∃(q:Au)(l:List (Ak))(C:A0),H f=some (.tup [.str "same",.ref q])/\H q=some (.tup C)/\Prs H (prL l) C/\BfE (pN (rnG (nxS nm u) g) (rnG (nxS nm v) D)) (pK 0 0) l/\NoDf nm u v) \/
 ∃(d:Au)(w:Nat)(r:Aj)(kvs:Ay),H f=some (.tup [.str "parted",.int w,.ref d])/\H d=some (.dK kvs)/\Tab kvs nm (λy=>(valN (ixG nm y) r:Int))/\xh nm u v w r/\w<=1000000)
def Zn9(ys:Ai)(w n:V):Prop:=XB ys 10 n/\npw n=npw w
theorem Zg1{w n:V}(e:npw n=npw w)(b:A0):∀a:A0,Wr (a++n::b)=Wr (a++w::b)/\(Yf (a++w::b)->Yf (a++n::b))
 |[]=>⟨by show Wr b-npw n+1=Wr b-npw w+1;rw[e],λh=>⟨e ▸ h.1,h.2⟩⟩
 |x::a=>by
  obtain⟨h1,h2⟩:=Zg1 e b a;exact⟨by show Wr (a++n::b)-npw x+1=Wr (a++w::b)-npw x+1;rw[h1],λh=>⟨by show npw x<=Wr (a++n::b);rw[h1];exact h.1,h2 h.2⟩⟩
def Sm.put{ys:Ai}{w n:V}{j:Nat}(S:Sm ys u)(g:u[j]?=some w)(R:Zn9 ys w n):(∀x∈u.take j++n::u.drop (j+1),XB ys 10 x)/\Yf (u.take j++n::u.drop (j+1))/\Wr (u.take j++n::u.drop (j+1))=1/\(u.take j++n::u.drop (j+1)).length<=28:=by
 have e:u=u.take j++w::u.drop (j+1):=by rw[<-xg g,Qbx]
 obtain⟨e1,e2⟩:=Zg1 R.2 (u.drop (j+1)) (u.take j);rw[<-e]at e1 e2;have ln:=S.ln;refine⟨λx q=>?_,e2 S.en,e1.trans S.st,?_⟩
 .rcases Qa7.mp q with h|h
  .exact S.wd x (Qbw h)
  .rcases Qaw.mp h with rfl|h
   .exact R.1
   .exact S.wd x (Qcr h)
 .grind
def Cls(ys L:Ai):Prop:=∀y∈L,XB ys 10 (.str y)/\∀g∈L,npw (.str g)=npw (.str y)
def Zg2{ys L:Ai}(g:∀y∈ys,y∉YA)(h:∀y∈L,y∈Gd/\Ys y=n):Cls ys L:=λy m=>⟨(WO g (h y m).1).1,λC q=>by rw[(WO g (h C q).1).2.1,(WO g (h y m).1).2.1,(h C q).2,(h y m).2]⟩
def cls_nm{ys:Ai}(g:∀y∈ys,y∉YA):Cls ys ys:=λy m=>⟨(JG g (.inl ⟨y,m,U⟩)).1,λC q=>by rw[(JG g (.inl ⟨C,q,U⟩)).2.1,(JG g (.inl ⟨y,m,U⟩)).2.1]⟩
def Zoa{l:List (Ak)}(h:StA (.key kn2) H l u)(q:∀k∈l,∃i j,k=pK i j):Prs H (prL l) u:=by
 refine⟨by rw[h.1];exact(Qac _).symm,λi p g=>?_⟩;unfold prL at g;rw[Qal]at g;obtain⟨k,e,rfl⟩:=Qbp.mp g;obtain⟨v,C,a,rfl,D⟩:=h.2 i k e;obtain⟨x,y,rfl⟩:=q k (Qag e);exact⟨a,C,D⟩
theorem Zg3{kvs:Ay}{ys:Ai}{f:Str->Int}(T:Tab kvs ys f):Zcd kvs ys f:=⟨T.val,λy q=>by
 have e:=X7 (Sum.inr y) kvs;rw[List.any_eq_false.mpr λp g z=>by
  obtain⟨x,C,rfl⟩:=T.all p g;have:=Qba z;injection this with this;exact q (this ▸ C)]at e
 cases h:Yp kvs _ with
 |none=>rfl
 |some _=>rw[h]at e;cases e⟩
def vU{nm:Ai}{v:A0}{F G:List (Int×Ak)}{ls:Aj}{f:Str->Int}(N:Nm3 nm)(C:Sm nm u)(g:Sm nm v)(B:Zhi nm u v F G)(q:∀x∈ls,x<2^nm.length)(D:∀y∈nm,Jq ls nm y=f y):
  YG (2^ls.length) f u=YG (2^ls.length) f v↔∀k,k<ls.length->¬Dff nm u v (ls.take (k+1)):=by
 rw[jr (λy h=>(D y h).symm) C.wd C.en,jr (λy h=>(D y h).symm) g.wd g.en];exact Zg0 (C.sok N) (g.sok N) B.b1 B.b2 q
def Zg4{nm:Ai}{v:A0}{g G:List (Int×Ak)}{W:Nat}(f:Str->Int)(N:Nm3 nm)(I:Sm nm u)(F:Sm nm v)(B:Zhi nm u v g G)(q:∀ls:Aj,ls≠[]->(∀x∈ls,x<2^nm.length)->ls.length<=W->¬Dff nm u v ls):
  YG (2^W) (λy=>f y%2^W) u=YG (2^W) (λy=>f y%2^W) v:=by
 obtain⟨ls,rfl,h2,D⟩:=yP N.nd (λy=>f y%2^W) W λy _=>⟨Qbe _ (Qem (XA W)),Qa5 _ (XA W)⟩;refine(vU N I F B h2 D).mpr λk J=>q _ (λz=>?_) (λx C=>h2 x (Qbw C)) (by rw[Qas];lia);have:=congrArg List.length z;rw[Qas]at this;have:min (k+1) ls.length=0:=this;lia
def uz{y:Str}(nd:N.Nodup)(h:y∈N):(valN (ixG N y) r:Int)=Jq r N y:=(Zgs nd (Zla h)).symm
def Zob{nm:Ai}{v:A0}{q G:List (Int×Ak)}{l:List (Ak)}(N:Nm3 nm)(F:Sm nm u)(D:Sm nm v)(B:Zhi nm u v q G)(C:BfE (pN (rnG (nxS nm u) q) (rnG (nxS nm v) G)) (pK 0 0) l):(prL l).length<=1000000/\∀k∈l,∃i j,k=pK i j:=by
 have I:=(F.sok N).runs B.b1;have R2:=(D.sok N).runs B.b2;have g:=Zld I R2 I.pos R2.pos C;refine⟨?_,λk J=>let⟨i,j,_,_,e⟩:=Gq.mp (g k J);⟨i,j,e⟩⟩;have h:=JY C.nodup g;rw[Zlb,Xm,Xm]at h;have a1:=(F.sok N).len2 B.b1;have a2:=(D.sok N).len2 B.b2;have O:2^YJ u<=2^5:=Qcq (by decide) F.rm;have Q:2^YJ v<=2^5:=Qcq (by decide) D.rm;have:=Nat.mul_le_mul (show q.length<=352 by lia) (show G.length<=352 by lia);rw[show(prL l).length=l.length from Qac _];lia
def vR.at{H':Hp}{p2:Pos}(g:ZT H a l x)(C:ZT H f p2 S)(o:vR a f H H'){b:Au}{u:HO}(e:H b=some u)(h:∀r,u≠.tbl r):H' b=some u\/∃kvs z,u=.dK kvs/\H' b=some (.frz z (.dK kvs)):=by
 obtain⟨p,D⟩:=g.ex;obtain⟨q,F⟩:=C.ex;exact o b u e (λz=>by grind) (λz=>by grind)
def vR.tup{g q:Au}{H H':Hp}{p1 p2:Pos}{C G:Str}(o:vR g q H H')(D:ZT H g p1 C)(F:ZT H q p2 G){b:Au}{xs:A0}(e:H b=some (.tup xs)):H' b=some (.tup xs):=by
 rcases vR.at D F o e (λ_ z=>nomatch z)with z|⟨_,_,z,_⟩
 .exact z
 .cases z
def vR.lst{g q:Au}{H H':Hp}{p1 p2:Pos}{C G:Str}(o:vR g q H H')(D:ZT H g p1 C)(F:ZT H q p2 G){b:Au}{xs:A0}(e:H b=some (.lst xs)):H' b=some (.lst xs):=by
 rcases vR.at D F o e (λ_ z=>nomatch z)with z|⟨_,_,z,_⟩
 .exact z
 .cases z
def vR.rd{H':Hp}(o:vR a f H H')(g:ZT H a p x)(q:ZT H f l S){b:Au}{kvs:Ay}(h:Rd H b (.dK kvs)):Rd H' b (.dK kvs):=by
 rcases h with e|⟨u,e⟩
 .rcases vR.at g q o e (λ_ z=>nomatch z)with z|⟨_,_,z,h⟩
  .exact .inl z
  .cases z;exact .inr ⟨_,h⟩
 .rcases vR.at g q o e (λ_ z=>nomatch z)with z|⟨_,_,z,_⟩
  .exact .inr ⟨_,z⟩
  .cases z
def vR.sq{H':Hp}(o:vR f O H H')(g:ZT H f p x)(q:ZT H O l S){xs:A0}(h:SqL K H a xs):SqL K H' a xs:=by
 rcases h with(h|⟨u,h⟩)|h
 .exact .inl (.inl (o.lst g q h))
 .rcases vR.at g q o h (λ_ z=>nomatch z)with z|⟨_,_,z,_⟩
  .exact .inl (.inr ⟨u,z⟩)
  .cases z
 .exact .inr h
def AlW(nm:Ai)(u v:A0)(w:Nat):Prop:=∀vs∈rws (2^w) nm.length,YG (2^w) (qH nm vs) u=YG (2^w) (qH nm vs) v
def Zli{w:Nat}{vs:Aj}(h:∀x∈vs,x<2^w)(y:Str):0<=qH N vs y/\qH N vs y<2^w:=by
 refine⟨Qcg _,?_⟩;have:vs.getD (N.idxOf y) 0<2^w:=by
  rw[Qat];cases e:vs[N.idxOf y]? with
  |none=>exact Qhf _
  |some x=>exact h x (Qag e)
 have h2:((vs.getD (N.idxOf y) 0:Nat):Int)<((2^w:Nat):Int):=Int.ofNat_lt.mpr this;exact h2
def Zlj{nm:Ai}{v:A0}{q D:List (Int×Ak)}{w:Nat}{vs:Aj}(N:Nm3 nm)(F:Sm nm u)(C:Sm nm v)(B:Zhi nm u v q D)(h:vs∈rws (2^w) nm.length):∃ls:Aj,ls.length=w/\(∀l∈ls,l<2^nm.length)/\(∀y∈nm,Jq ls nm y=qH nm vs y)/\(YG (2^w) (qH nm vs) u=YG (2^w) (qH nm vs) v↔∀k,k<w->¬Dff nm u v (ls.take (k+1))):=by
 obtain⟨ls,rfl,h2,g⟩:=yP N.nd (qH nm vs) w λy _=>Zli (vT h).2 y;exact⟨ls,U,h2,g,vU N F C B h2 g⟩
theorem al_of{nm:Ai}{v:A0}{g G:List (Int×Ak)}{w:Nat}(N:Nm3 nm)(I:Sm nm u)(F:Sm nm v)(B:Zhi nm u v g G)(q:∀ls:Aj,ls≠[]->(∀x∈ls,x<2^nm.length)->ls.length<=w->¬Dff nm u v ls):AlW nm u v w:=λvs h=>by
 obtain⟨ls,h1,h2,_,C⟩:=Zlj N I F B h;refine C.mpr λk J=>q _ (λz=>?_) (λx D=>h2 x (Qbw D)) (by rw[Qas];lia);have:=congrArg List.length z;rw[Qas]at this;have:min (k+1) ls.length=0:=this;lia
def yQ{nm:Ai}{v:A0}{C I:List (Int×Ak)}{w:Nat}(N:Nm3 nm)(J:Sm nm u)(G:Sm nm v)(B:Zhi nm u v C I)(F:xh nm u v w r):∃g∈rws (2^w) nm.length,(∀i,i<nm.length->g.getD i 0=valN i r)/\¬YG (2^w) (qH nm g) u=YG (2^w) (qH nm g) v:=by
 obtain⟨O,rfl,lt,D,_,_⟩:=F;have q:∀i,i<nm.length->((List.range nm.length).map λi=>valN i r).getD i 0=valN i r:=λi hi=>by
  grind
 have Y:∀i,valN i r<2^r.length:=λi=>by
  have h:=qh (b:=λk=>bt ((r.getD k 0:Nat):Int) i) (λ_=>WL _ _) r.length;rw[<-Zgr]at h;have h2:(valN i r:Int)<((2^r.length:Nat):Int):=by exact h.2
  exact Int.ofNat_lt.mp h2
 have hw:∀y∈nm,Jq r nm y=qH nm ((List.range nm.length).map λi=>valN i r) y:=λy h=>by
  rw[<-uz N.nd h];show _=((_:Nat):Int);rw[q _ (Qd5 h)];rfl
 refine⟨_,Zgw (by rw[Qac,Qa3]) λx Q=>?_,q,λz=>?_⟩
 .grind
 .refine(vU N J G B lt hw).mp z (r.length-1) (by lia) ?_;rw[show r.length-1+1=r.length by lia,Qbb];exact D
def Zje{nm:Ai}{v:A0}{l1 l2:List (Int×Ak)}{w j:Nat}{vs:Aj}(N:Nm3 nm)(Y:Sm nm u)(I:Sm nm v)(B:Zhi nm u v l1 l2)(F:xh nm u v n r)(hb:∀x,1<=x->x<w->AlW nm u v x)(J:(rws (2^w) nm.length)[j]?=some vs)(ha:∀a∈(rws (2^w) nm.length).take j,YG (2^w) (qH nm a) u=YG (2^w) (qH nm a) v)(hn:¬YG (2^w) (qH nm vs) u=YG (2^w) (qH nm vs) v):
  n=w/\∀y∈nm,qH nm vs y=(valN (ixG nm y) r:Int):=by
 have hm:=Qag J;obtain⟨ls,rfl,h2,Z,h4⟩:=Zlj N Y I B hm;obtain⟨g,O,g2,Q⟩:=yQ N Y I B F;have w1:=F.w1;obtain⟨k,G,C⟩:∃k,k<ls.length/\Dff nm u v (ls.take (k+1)):=Classical.byContradiction λz=>hn (h4.mpr λk G C=>z ⟨k,G,C⟩);have le:=F.least _ (λz=>by have:=congrArg List.length z;rw[Qas]at this;have:min (k+1) ls.length=0:=this;lia) (λx hx=>h2 x (Qbw hx)) C;rw[Qas]at le;have e:n=ls.length:=by
  rcases Qdz n ls.length with h|h
  .exact absurd (hb n w1 h g O) Q
  .lia
 subst e;refine⟨U,λy D=>?_⟩;rw[show ls.take (k+1)=ls from Qbv (by lia)]at C;have at':∀i,i<nm.length->(vs.getD i 0:Int)=(valN i ls:Int):=λi hi=>by
  have e:=Z nm[i] (Qck hi);rw[Zgs N.nd (Qad hi)]at e;rw[e];show _=((vs.getD (nm.idxOf nm[i]) 0:Nat):Int);rw[Ws N.nd (Qad hi)]
 rcases F.fst ls U h2 C with e|⟨q,q1,q2,q3⟩
 .rw[<-Z y D,e,uz N.nd D]
 .exfalso;rcases Zgy J ha O Q with e|⟨p,p1,p2,p3⟩
  .grind
  .grind
def Zjf{nm:Ai}{v:A0}{q D:List (Int×Ak)}{w:Nat}(N:Nm3 nm)(G:Sm nm u)(C:Sm nm v)(B:Zhi nm u v q D)(F:xh nm u v w r)(h:AlW nm u v w):False:=let⟨g,g1,_,g3⟩:=yQ N G C B F;g3 (h g g1)
theorem Zoc{vs:Aj}{f:Str->Int}(nd:N.Nodup)(g:vs.length=N.length)(h:∀y∈N,qH N vs y=f y){b:Ay}(Ua:Tab b N f):b.length=(kvC N vs).length/\∀p∈b,Yp (kvC N vs) p.1=some p.2/\Wm p.2=true:=⟨by rw[Ua.len_nd nd];unfold kvC;rw[Qac,Qcu,g,Nat.min_self],λp C=>by
 obtain⟨y,q,rfl⟩:=Ua.all p C;exact⟨by rw[(Zgu nd g).1 y q,h y q],U⟩⟩
def Tab.set{kvs:Ay}{ys:Ai}{f:Str->Int}(T:Tab kvs ys f){y:Str}(C:y∈ys)(z:Int):Tab (putK kvs (.inr y) (.int z)) ys (λx=>if x=y then z else f x):=by
 have Ua:=T.put y z;have D:(Sum.inr y:Key)∈keysOf ys:=by
  rw[<-T.keys];have:=X7 (Sum.inr y:Key) kvs;rw[T.val y C]at this;exact Zfv.mp this
 refine⟨Ua.keys.trans (by rw[WN,Qa9 D]),λx g=>Ua.val x (Qbs _ g),λp q=>?_⟩;obtain⟨x,g,e⟩:=Ua.all p q;rcases Qa7.mp g with h|h
 .exact⟨x,h,e⟩
 .grind
def Wp.sm{ys:Ai}(h:Wp ys u 22 5):Sm ys u:=⟨h.wd,h.en,h.st,h.rm,by have:=h.ln;lia⟩
def Zjg{nm:Ai}{v:A0}{F I:List (Int×Ak)}{W:Nat}{g:Str->Int}(N:Nm3 nm)(C:Sm nm u)(q:Sm nm v)(B:Zhi nm u v F I)(D:∀y∈nm,0<=g y/\g y<2^W)(G:∀ls:Aj,ls≠[]->(∀x∈ls,x<2^nm.length)->ls.length<=W->¬Dff nm u v ls):YG (2^W) g u=YG (2^W) g v:=by
 have e:∀y∈nm,g y=g y%2^W:=λy h=>(Qcn (D y h).1 (D y h).2).symm;rw[jr e C.wd C.en,jr e q.wd q.en];exact Zg4 g N C q B G
def Zod{t:TT}{A u:TS}(p:Prop)(q:∀Q:Bool->Hp->Prop,(p->Q true H)->Q false H->t c H Q)(g:p->A {G with nx:=u G} c H)(C:B {G with nx:=u G} c H):Yt (tIfS t A B) u G c H:=q _ (λh=>YN (g h)) (Yu C)
def dsF{a b:Str}(h:a≠b):decide (V.str a=V.str b)=false:=by grind
set_option genInjectivity false in
set_option genSizeOfSpec false in
structure Adr where
 sy:Au
 ti:Am
 pf:Au
 ph:Am
 abt:Au
 abu:Am
 et:Au
 eu:Am
 cm:Au
 cq:Am
 pj:Au
 pk:Am
 ik:Au
 il:Am
 mf:Au
 mh:Am
 fe:Au
 ff:Am
 mi:Au
 mj:Am
 fg:Au
 fh:Am
 oq:Au
 ou:Am
 qs:Au
 ra:Am
 tj:Au
 tu:Am
 mm:Au
 mn:Am
 du:Au
 dw:Am
 aau:Au
 aav:Am
 ov:Au
 ow:Am
 ui:Au
 uj:Am
 br:Au
 bu:Am
 rf:Au
 rh:Am
 mq:Au
 mr:Am
 mw:Au
 mx:Am
 vl:Au
 vr:Am
 wh:Au
 aaa:Am
 my:Au
 nc:Am
 aaw:Au
 aax:Am
 aay:Au
 aaz:Am
 ip:Au
 iq:Am
 ox:Au
 oy:Am
 ir:Au
 iu:Am
 fj:Au
 fk:Am
 aab:Au
 aac:Am
 aad:Au
 aae:Am
 cf:Au
 cg:Am
 aaf:Au
 aag:Am
 abb:Au
 abc:Am
 iw:Au
 ix:Am
 ri:Au
 rj:Am
 ng:Au
 nh:Am
 rk:Au
 rn:Am
 abd:Au
 abe:Am
 ro:Au
 rp:Am
 iy:Au
 ka:Am
 abf:Au
 abg:Am
 dg:Au
 dh:Am
 ni:Au
 nj:Am
 aah:Au
 aai:Am
 cu:Au
 cw:Am
 dy:Au
 dz:Am
 rq:Au
 rr:Am
 nq:Au
 nt:Am
 abh:Au
 abi:Am
 kd:Au
 lb:Am
 fq:Au
 ft:Am
 di:Au
 bo:Am
 cj:Au
 ax:Am
 oz:Au
 pd:Am
 aaj:Au
 aak:Am
 abv:Au
 abw:Am
 bp:Au
 ae:Au
 ay:Au
 aa:Au
 au:Au
 ai:Au
 ak:Au
 acb:Tok
 abp:Tok
 bz:Au
structure Kg(K:Af)(w:Ar)(mg:Ae)(x:Str)(a:Au)(l:List (Str×Int)):Prop where
 m:mg x=some (.ref a)
 d:KD K w a l
structure Kt(K:Af)(mg:Ae)(x:Str)(a:Au)(l:Ai):Prop where
 m:mg x=some (.ref a)
 d:∀H,SqT K H a (l.map V.str)
structure Df(K:Af)(mg:Ae)(x:Str)(st:Aw)(ps:Ai)(f:Au)(fd:Am):Prop where
 F:Fun K x x st f fd
 m:mg x=some (.ref f)
 b:Binds K fd ps []
theorem Df.go{mg:Ae}{base:Heap}{st:Aw}{ps:Ai}{fd:Am}{k:Nat}{sp:Sp}(d:Df K mg x st ps f fd)(S:Zx N ps (Zk st))(b:∀(g:As)(A:Ao)(outer:List Env)(s:Aq)(H:Hp)(vs:A0)(Q:VK)(E:XK),JS k (A.deeper (envOfC x (Zk st) s.heap.objs.size f g))->sp vs H Q E->∃t,QSs (Zhc CX0 P w K mg base N x (Zk st) f g A outer s H E).nox (Xy st) t/\t {nx:=λ_ H'=>Q .non H',rt:=Q} (start N vs) H)(len:∀vs H Q E,sp vs H Q E->vs.length=ps.length:=by rintro _ _ _ _ ⟨⟩;subst_vars;rfl):Y1 P w K mg base CX0 (k+1) f fd ps sp:=d.F.ok S len λc A o s H vs Q E C h=>let⟨t,q,r⟩:=b c A o s H vs Q E C h;⟨t,q.out,r⟩
def Zl {X:Cx}  {st:Aw} {ps:Ai}  {fd:Am} {k:Nat} {sp:Sp}    {t:TA} (d:Df X.K X.mg x st ps f fd) (F:Y1 X.prog X.w X.K X.mg X.base CX0 k f fd ps sp) (C:JS n X.A) (I:QA X (e::q) t) (J:k<=n:=by decide) (G:Gl X x:=by exact U) (g:(x == ("__debug__" : Str))=false:=by decide) (D:(e::q).all Ya=true:=by rfl):QE X (.Call (.Name x p) (e::q) [] l) (Zd0 sp [] E0 t):=GK F (C.mono J) G d.m d.F.kp d.b .nil Zeb I g D
set_option genInjectivity false in
set_option genSizeOfSpec false in
structure Txt(K:Af)(w:Ar)(mg:Ae)(t:Adr):Prop where
 au:Kg K w mg "SUM_PARTS" t.au [("not",1),("neg",1),("twice",1),("low",1),("and",2),("or",2),("odd",2),("add",2),("sub",2),("pick",3)]
 ai:Kg K w mg "SUMS_IN_CLAIM" t.ai [("same",2),("under",2),("beneath",2),("sign",1),("nought",1)]
 ak:Kg K w mg "CLAIMS_IN_CLAIM" t.ak [("both",2),("either",2),("so",2),("never",1),("yes",0)]
 acd:mg "LETTERS" = some (.str "abcdefghijklmnopqrstuvwxyz" t.acb)
 abq:mg "LONGEST_NAME" = some (.int 8 t.abp)
 bz:Kt K mg "REMEMBERING" t.bz ["neg","twice","low","add","sub","same","under","beneath","nought"]
 fu:Df K mg "words_at" y8 ["width"] t.sy t.ti
 dm:Df K mg "number_of" zF ["bits"] t.pf t.ph
 abx:Df K mg "run" Zpp ["machine","letters"] t.abt t.abu
 ia:Df K mg "layers_led_to" J7 ["machine","letters"] t.et t.eu
 bf:Df K mg "letters_with_bit" YV ["letters","number","bit"] t.cm t.cq
 sf:Df K mg "goes_well" zG ["machine","state","letter","well","wanted"] t.pj t.pk
 lg:Df K mg "state_number" Gk ["state","states","numbers"] t.ik t.il
 nu:Df K mg "is_sum_word" qa ["text"] t.mf t.mh
 ib:Df K mg "is_claim_word" J8 ["text"] t.fe t.ff
 ny:Df K mg "sums_behind" qb ["word"] t.mi t.mj
 ic:Df K mg "claims_behind" J9 ["word"] t.fg t.fh
 pe:Df K mg "is_made_of" JA ["text","signs"] t.oq t.ou
 dn:Df K mg "remembers" zH ["word"] t.qs t.ra
 ie:Df K mg "borrowed" y9 ["one","other","held"] t.tj t.tu
 nz:Df K mg "out_at_once" qc ["word","parts"] t.mm t.mn
 ee:Df K mg "longest_number" X0 ["words"] t.du t.dw
 cx:Df K mg "bits_at" zI ["columns","letter"] t.aau t.aav
 bq:Df K mg "next_pairs" xu ["one","other","pair"] t.ov t.ow
 bx:Df K mg "partings" qX ["one","other","pair"] t.ui t.uj
 bw:Df K mg "least_width_of_truth" Xc ["machine"] t.br t.bu
 bb:Df K mg "_law_whole" zJ ["found"] t.rf t.rh
 aj:Df K mg "_law_cell_at" qd ["script","k"] t.mq t.mr
 aw:Df K mg "_law_numbers" qe ["cell","many","most"] t.mw t.mx
 aal:Df K mg "_law_atom" yA ["number","names"] t.vl t.vr
 aam:Df K mg "_law_word" yB ["number","left"] t.wh t.aaa
 cb:Df K mg "_law_carries" WH ["words"] t.my t.nc
 abj:Df K mg "_law_one" wm ["word","one"] t.aaw t.aax
 abk:Df K mg "_law_two" wo ["word","one","other"] t.aay t.aaz
 lh:Df K mg "_law_writings" Gm ["pick","p","q","r"] t.ip t.iq
 cy:Df K mg "_law_within" xw ["number","words","r"] t.ox t.oy
 lj:Df K mg "_law_names_in" Wi ["words","names"] t.ir t.iu
 ig:Df K mg "_law_all_words" JB ["names","width"] t.fj t.fk
 aan:Df K mg "_law_long" yC ["script","names"] t.aab t.aac
 aao:Df K mg "words_of" qY ["names","letters"] t.aad t.aae
 az:Df K mg "states_going_well" YL ["machine","states","letters","well","wanted"] t.cf t.cg
 aap:Df K mg "parts_of" yD ["word"] t.aaf t.aag
 abl:Df K mg "is_name" wq ["text"] t.abb t.abc
 lq:Df K mg "name_columns" Wj ["names","letters"] t.iw t.ix
 sj:Df K mg "kept_then" zK ["word","parts","held"] t.ri t.rj
 og:Df K mg "out_by_kept" qf ["word","parts","held","then"] t.ng t.nh
 sr:Df K mg "_law_names" WI ["cell","many"] t.rk t.rn
 bh:Df K mg "_law_sum" wt ["numbers","names","most"] t.abd t.abe
 bc:Df K mg "_law_worth" zL ["words","width","values"] t.ro t.rp
 ma:Df K mg "_law_is_paper" Gn ["found"] t.iy t.ka
 me:Df K mg "_law_put" wu ["words","names","cell"] t.abf t.abg
 dj:Df K mg "with_least_word" Wq ["machine","letters","number","wanted"] t.dg t.dh
 oh:Df K mg "parts_taken" WJ ["stack","word"] t.ni t.nj
 aaq:Df K mg "names_of" qZ ["words"] t.aah t.aai
 bj:Df K mg "_law_two_writings" XX ["cell","names"] t.cu t.cw
 eh:Df K mg "_law_is_verdict" Jd ["found","names"] t.dy t.dz
 su:Df K mg "_law_first" zM ["one","other","names"] t.rq t.rr
 oj:Df K mg "first_words" X9 ["machine","width","wanted"] t.nq t.nt
 cz:Df K mg "stepped" wx ["words","columns","place","kept"] t.abh t.abi
 md:Df K mg "_law_two_sums" Gp ["script","names"] t.kd t.lb
 ao:Df K mg "machine_found" XN ["names","begin","step_of"] t.fq t.ft
 dk:Df K mg "machine_telling" Yd ["words","names","told"] t.di t.bo
 ck:Df K mg "machines_compared" YM ["one","other"] t.cj t.ax
 dc:Df K mg "machine_of" xx ["words","names"] t.oz t.pd
 aar:Df K mg "compared" yE ["one","other"] t.aaj t.aak
 acf:Df K mg "law" Zm5 ["script"] t.abv t.abw
 abn:t.bo.code=.ref t.bp
 aat:t.ax.code=.ref t.ay
 av:t.ae≠t.aa
 ij:mg "abs" = none
 acg:mg "all" = none
 ach:mg "any" = none
 ace:mg "bool" = none
 abr:mg "dict" = none
 dt:mg "enumerate" = none
 om:mg "int" = none
 ag:mg "isinstance" = none
 af:mg "len" = none
 abm:mg "list" = none
 aby:mg "max" = none
 aci:mg "min" = none
 aq:mg "range" = none
 aas:mg "reversed" = none
 acj:mg "set" = none
 abo:mg "sorted" = none
 abz:mg "str" = none
 ah:mg "tuple" = none
 aca:mg "zip" = none
set_option genInjectivity false in
set_option genSizeOfSpec false in
structure Tbs(mg:Ae)(base:Heap)(t:Adr):Prop where
 bp:PySem.W.CodeHd base t.bp t.ae
 ay:PySem.W.CodeHd base t.ay t.aa
 B:vm mg base
def WU:Zx ["width","many","bit_number"] ["width"] (Zk y8):={}
def XZ:Zx ["bits","number","bit"] ["bits"] (Zk zF):={}
def jt:Zx ["machine","letters","state","steps","out","row","letter"] ["machine","letters"] (Zk Zpp):={}
def ZY:Zx ["machine","letters","steps","layers","some","layer","state","letter"] ["machine","letters"] (Zk J7):={}
def GA:Zx ["letters","number","bit"] ["letters","number","bit"] (Zk YV):={}
def wU:Zx ["machine","state","letter","well","wanted"] ["machine","state","letter","well","wanted"] (Zk zG):={}
def ju:Zx ["state","states","numbers"] ["state","states","numbers"] (Zk Gk):={}
def jP:Zx ["text"] ["text"] (Zk qa):=⟨U,U,U,by simp,U,by decide +kernel,by decide +kernel⟩
def xP:Zx ["text"] ["text"] (Zk J8):=⟨U,U,U,by simp,U,by decide +kernel,by decide +kernel⟩
def jQ:Zx ["word"] ["word"] (Zk qb):=⟨U,U,U,by simp,U,by decide +kernel,by decide +kernel⟩
def xQ:Zx ["word"] ["word"] (Zk J9):=⟨U,U,U,by simp,U,by decide +kernel,by decide +kernel⟩
def vV:Zx ["text","signs"] ["text","signs"] (Zk JA):={}
def wV:Zx ["word"] ["word"] (Zk zH):=⟨U,U,U,by simp,U,by decide +kernel,by decide +kernel⟩
def uA:Zx ["one","other","held"] ["one","other","held"] (Zk y9):={}
def jR:Zx ["word","parts"] ["word","parts"] (Zk qc):={}
def xi:Zx ["words"] ["words"] (Zk X0):=⟨U,U,U,by simp,U,by decide +kernel,by decide +kernel⟩
def Zcn:Zx ["columns","letter"] ["columns","letter"] (Zk zI):={}
def vW:Zx ["one","other","pair"] ["one","other","pair"] (Zk xu):={}
def uB:Zx ["one","other","pair"] ["one","other","pair"] (Zk qX):={}
def ZM:Zx ["machine","widths","state","row","led_to"] ["machine"] (Zk Xc):={}
def wW:Zx ["found"] ["found"] (Zk zJ):=⟨U,U,U,by simp,U,by decide +kernel,by decide +kernel⟩
def jS:Zx ["script","k"] ["script","k"] (Zk qd):={}
def ZK:Zx ["cell","many","most","found","rest","k","one","two"] ["cell","many","most"] (Zk qe):={}
def uC:Zx ["number","names"] ["number","names"] (Zk yA):={}
def WV:Zx ["number","left","words","word"] ["number","left"] (Zk yB):={}
def jT:Zx ["words"] ["words"] (Zk WH):=⟨U,U,U,by simp,U,by decide +kernel,by decide +kernel⟩
def Zco:Zx ["word","one"] ["word","one"] (Zk wm):={}
def Zcp:Zx ["word","one","other"] ["word","one","other"] (Zk wo):={}
def JI:Zx ["pick","p","q","r","pairs"] ["pick","p","q","r"] (Zk Gm):={}
def vX:Zx ["number","words","r"] ["number","words","r"] (Zk xw):={}
def jv:Zx ["words","names"] ["words","names"] (Zk Wi):={}
def ZN:Zx ["names","width","some","name","more","values","word","longer"] ["names","width"] (Zk JB):={}
def Y7:Zx ["script","names","values","name","some","k","rest"] ["script","names"] (Zk yC):={}
def WW:Zx ["names","letters","words","place","name"] ["names","letters"] (Zk qY):={}
def YC:Zx ["machine","states","letters","well","wanted","going","state"] ["machine","states","letters","well","wanted"] (Zk YL):={}
def uD:Zx ["word"] ["word"] (Zk yD):=⟨U,U,U,by simp,U,by decide +kernel,by decide +kernel⟩
def Zcq:Zx ["text"] ["text"] (Zk wq):=⟨U,U,U,by simp,U,by decide +kernel,by decide +kernel⟩
def YY:Zx ["names","letters","columns","place","name"] ["names","letters"] (Zk Wj):={}
def x5:Zx ["word","parts","held","one"] ["word","parts","held"] (Zk zK):={}
def jU:Zx ["word","parts","held","then"] ["word","parts","held","then"] (Zk qf):={}
def Yo:Zx ["cell","many","xs","menu","some","base","at","turn"] ["cell","many"] (Zk WI):={}
def ZW:Zx ["numbers","names","most","some","left","number","word","wants","built","part"] ["numbers","names","most"] (Zk wt):={}
def YO:Zx ["words","width","values","size","told","word","one","other"] ["words","width","values"] (Zk zL):={}
def JJ:Zx ["found","pair"] ["found"] (Zk Gn):={}
def YQ:Zx ["words","names","cell","at","word","new","some","changed"] ["words","names","cell"] (Zk wu):={}
def ZA:Zx ["machine","letters","number","wanted","layers","left","well","place","chosen","going"] ["machine","letters","number","wanted"] (Zk Wq):={}
def jV:Zx ["stack","word"] ["stack","word"] (Zk WJ):={}
def uE:Zx ["words"] ["words"] (Zk qZ):=⟨U,U,U,by simp,U,by decide +kernel,by decide +kernel⟩
def ZC:Zx ["cell","names","xs","most","p","q","r","one","other"] ["cell","names"] (Zk XX):={}
def Wt:Zx ["found","names","name"] ["found","names"] (Zk Jd):={}
def JK:Zx ["one","other","names","width","values"] ["one","other","names"] (Zk zM):={}
def Yr:Zx ["machine","width","wanted","names","all_letters","letters","number","row"] ["machine","width","wanted"] (Zk X9):={}
def XD:Zx ["words","columns","place","kept","stack","later","word","parts","held"] ["words","columns","place","kept"] (Zk wx):={}
def Y8:Zx ["script","names","shape","one","first","second"] ["script","names"] (Zk Gp):={}
def Yj:Zx ["names","begin","step_of","states","numbers","steps","out","told"] ["names","begin","step_of"] (Zk XN):={}
def ZX:Zx ["words","names","told","letters","columns","last_place","step_of","begin"] ["words","names","told"] (Zk Yd):={}
def Yw:Zx ["one","other","begins","found","width"] ["one","other"] (Zk YM):={}
def vY:Zx ["words","names"] ["words","names"] (Zk xx):={}
def jw:Zx ["one","other","names"] ["one","other"] (Zk yE):={}
def qr:Zx ["script","all_names","one","other","names","found","due","width","values"] ["script"] (Zk Zm5):={}
def Ga:Zmx (Zk YW) ["state"] ["step","place","reached"] ["words","columns","last_place","letters","told"]:=⟨by rfl,by rfl,by rfl,by decide +kernel,by decide +kernel,by decide +kernel,by decide +kernel⟩
section
variable (P:An){w:Ar}{K:Af}{mg:Ae}(base:Heap){t:Adr}
variable (T:Txt K w mg t)(TB:Tbs mg base t)
include T TB
variable(vs:A0)(H:Hp)(Q:VK)
inductive qt:Prop
 |mk(w:Nat):vs=[.int w]->w<=1000->Q (.int (2^w)) H->qt
def uF(K:Af):Sp:=λvs H Q _=>qt vs H Q
theorem jx:Y1 P w K mg base CX0 1 t.sy t.ti ["width"] (uF K):=by
 refine T.fu.go WU ?_;rintro g A outer s H _ Q E q ⟨w,rfl,hw,k⟩;refine⟨_,(Za (Z3 1 WU.nd Ze)
   (Za (Yh Qa4 U (YF U T.aq (Zg (qv 0) Zc)) (Y0 2 WU.nd)
   (Zf (Z3 1 WU.nd (Zj Wf (qv 1) Ze))))
   (Zf (Zp (qv 1))))),?_⟩
 refine⟨_,U,(w:Int),U,by lia,by lia,XE (λi σ H2=>∃v,σ=[some (.int w),some (.int (2^i)),v]/\H2=H) ⟨none,U,U⟩ ?_ ?_⟩
 .rintro i σ H2 hi ⟨v,rfl,rfl⟩;refine⟨_,U,_,_,U,U,.inr (.inr ⟨by decide,by decide⟩),some (.int (0+(i:Int))),?_,U⟩;rfl
 .rintro σ H2 ⟨v,rfl,rfl⟩;refine⟨_,U,?_⟩;exact k
omit T TB in
theorem Zjh{x:V}(h:(J.map V.int)[i]?=some x):∃b,x=V.int b/\J[i]?=some b:=by grind
inductive Gr(K:Af):Prop
 |mk(p:Au)(ns:Ak):vs=[.ref p]->SqT K H p (ns.map V.int)->Q (.int (hor ns.reverse)) H->Gr K
def wX(K:Af):Sp:=λvs H Q _=>Gr vs H Q K
theorem x6:Y1 P w K mg base CX0 1 t.pf t.ph ["bits"] (wX K):=by
 refine T.dm.go XZ ?_;rintro C A outer s H _ Q E F ⟨p,ns,rfl,q,k⟩;refine⟨_,(Za (Z3 1 XZ.nd Ze)
   (Za (Yh Qa4 U (Zek U T.aas (qv 0)) (Y0 2 XZ.nd)
   (Zf (Z3 1 XZ.nd (Zj YD (Zj Wf (qv 1) Ze) (qv 2)))))
   (Zf (Zp (qv 1))))),?_⟩
 refine⟨_,U,p,_,U,q,Zel (K:=K) (a:=p) (xs:=ns.map V.int) (λi σ H2=>∃v,σ=[some (.ref p),some (.int (hor (ns.reverse.take i))),v]/\H2=H) ⟨none,U,U⟩ (λi σ H2 _ ⟨_,_,e⟩=>by rw[e];exact q) ?_ ?_⟩
 .rintro i x σ H2 g ⟨v,rfl,rfl⟩;rw[<-List.map_reverse]at g;obtain⟨b,rfl,D⟩:=Zjh g;refine⟨_,U,_,_,U,U,.inr (.inr ⟨by decide,by decide⟩),_,U,_,_,U,U,some (.int b),?_,U⟩;rw[Ziy D];rfl
 .rintro σ H2 ⟨v,rfl,rfl⟩;refine⟨_,U,?_⟩;rw[Qbv (by grind)];exact k
inductive Zbk:Prop
 |mk(m p:Au)(S L b:Nat)(nv:V)(nx:Nat->Nat->Nat)(ot:Nat->Nat->V)(ls:Aj):vs=[.ref m,.ref p]->Zk4 H m S L nv b nx ot->H p=some (.tup (ls.map Xd))->(∀l∈ls,l<L)->ls.length<=1000000->(∀q H',H q=none->H' q=some (.tup (wk nx ot b ls))->ZD H H'->Q (.ref q) H')->Zbk
def sp_run(K:Af):Sp:=λvs H Q _=>Zbk vs H Q
theorem ok_run:Y1 P w K mg base CX0 1 t.abt t.abu ["machine","letters"] (sp_run K):=by
 refine T.abx.go jt ?_;rintro cdv A outer s H _ Q E C ⟨m,p,S,L,b,nv,nx,ot,ls,rfl,M,hp,hL,O,k⟩;refine⟨_,(Za (Z3 2 jt.nd (Zv Z1 (qv 0) Ze))
   (Za (Z3 3 jt.nd (Zv Z1 (qv 0) Ze))
   (Za (Z3 4 jt.nd (Zv Z1 (qv 0) Ze))
   (Za (Z3 5 jt.nd (Yx Zc))
   (Za (Yh Qa4 U (Xb (qv 1)) (Y0 6 jt.nd)
   (Za (ZE (ZP Qaj Qap Qaq Z4 (qv 5) (Zg (Zv Z1 (Zv Z1 (qv 4) (qv 2)) (qv 6)) Zc)))
   (Zf (Z3 2 jt.nd (Zv Z1 (Zv Z1 (qv 3) (qv 2)) (qv 6))))))
   (Zf (Zp (ZG Z9 (by rfl) T.ah ZU (Zg (qv 5) Zc))))))))),?_⟩
 obtain⟨ps,Z,D,RS,RO⟩:=M.ex;refine⟨_,U,m,_,1,_,U,U,SqT.of D,U,_,U,m,_,2,_,U,U,SqT.of D,U,_,U,m,_,3,_,U,U,SqT.of D,U,?_⟩;refine⟨by decide,λr C=>?_⟩;refine⟨_,U,p,U,⟨_,SqT.of (Zd C _ _ hp)⟩,?_⟩;refine W9 (K:=K) (a:=p) (xs:=ls.map Xd) (λi σ H2=>∃u,σ=[some (.ref m),some (.ref p),some (.int (Zhg nx b (ls.take i):Nat)),some (.ref ps),some (.ref Z),some (.ref r),u]/\H2 r=some (.lst (wk nx ot b (ls.take i)))/\ZD H H2) ⟨none,U,Zb,Zd C⟩ (λi σ H2 _ ⟨u,_,_,g⟩=>SqT.of (g _ _ hp)) ?_ ?_
 .rintro i x σ H2 I ⟨u,rfl,h2,g⟩;obtain⟨l,rfl,F⟩:=Zfy I;have J:=hL l (Qag F);have st:=Zfx M.nx (ls.take i) b M.b λx I=>hL x (Qbw I);obtain⟨as,ho,go⟩:=RO.ex;obtain⟨a,xs,o1,o2,o3⟩:=go _ st;obtain⟨bs,hs,gs⟩:=RS.ex;obtain⟨c,ys,t1,t2,t3⟩:=gs _ st;have G:=ZV (p:=r) (o:=.lst (wk nx ot b (ls.take i)++[ot (Zhg nx b (ls.take i)) l])) g C;refine⟨_,U,.inl ⟨U,_,SqL.of h2⟩,_,U,_,U,Z,_,_,_,U,U,SqT.of (g _ _ ho),Yb o1,_,U,a,_,_,_,U,U,SqT.of (g _ _ o2),Yb (o3 l J),r,_,_,U,U,h2,?_,?_⟩
  .rw[Zk5,Qas];exact Xe (by lia)
  refine⟨_,U,_,U,ps,_,_,_,U,U,SqT.of (G _ _ hs),Yb t1,_,U,c,_,_,_,U,U,SqT.of (G _ _ t2),Yb (t3 l J),some (.int l),?_,?_,G⟩
  .rw[take_snoc F,Za8];rfl
  .rw[Zb,take_snoc F,Zfw];rfl
 .rintro σ H2 ⟨u,rfl,h2,g⟩;rw[Qac,Qbb]at h2;exact⟨_,U,r,_,U,.inl ⟨SqL.of h2,λq Y=>k q _ (g.free Y) Zb (g.trans (Zd Y))⟩⟩
inductive Wa:Prop
 |mk(m a:Au)(nm:Ai)(b:Nat)(nx:Ad)(ot:Ax)(n:Nat)(Ls:Ad):vs=[.ref m,.ref a]->M4 H m nm b nx ot->Runs nx ot n->b<nx.length->nx.length<=1000000->wN H a Ls->Ls≠[]->(∀L∈Ls,L.length<=1000/\∀l∈L,l<2^n)->Ls.length<=1000000->(∀p H',H p=none->Zhh H' p (lys (mN nx) [b] Ls)->SmF H H'->Q (.ref p) H')->Wa
def xR(K:Af):Sp:=λvs H Q _=>Wa vs H Q
theorem xS:Y1 P w K mg base CX0 1 t.et t.eu ["machine","letters"] (xR K):=by
 refine T.ia.go ZY ?_;rintro cdv A outer s H _ Q E hr ⟨m,a,nm,b,nx,ot,n,Ls,rfl,M,R,hb,hN,hA,hne,hL,hw,k⟩;have hu:=qL hr;refine⟨_,(Za (Z3 2 ZY.nd (Zv Z1 (qv 0) Ze))
   (Za (Z3 3 ZY.nd (Yx (Zg (gU (vo (Zv Z1 (qv 0) Ze) Jo gT) U U (λz=>nomatch z) (by decide)) Zc)))
   (Za (Yh Qa4 U (Xi (Yv Xx (qv 1) XI (Yq (XH X3 Ze)))) (Y0 4 ZY.nd)
   (Za (Z3 5 ZY.nd qP)
   (Za (Yh Qa4 U (Zaw (Zv Z0 (qv 3) (XH X3 Ze))) (Y0 6 ZY.nd)
   (Zf (Yh Qa4 U (Xb (qv 4)) (Y0 7 ZY.nd)
   (Zf (Jw hu (qv 5) (Zv Z1 (Zv Z1 (qv 2) (qv 6)) (qv 7)) Jo U)))))
   (Zf (ZE (ZP Qaj Qap Qaq Z4 (qv 3) (Zg (qv 5) Zc)))))))
   (Zf (Zp (qv 3)))))),?_⟩
 obtain⟨pn,ps,po,h1,_,Rs,Ro⟩:=M.ex;obtain⟨as,ha,hal,hat⟩:=hA;have lyl:=ux (nx:=mN nx) Ls [b];have lyok:=Zgl (nx:=mN nx) (N:=nx.length) (M:=2^n) (λs l hs hl=>R.mN hs hl) (Ls:=Ls) (S:=[b]) (Qcj.mpr ⟨Qbq,Qdl⟩) (λs hs=>by rw[Qau.mp hs];exact hb) (λL h=>(hL L h).2);have ly1:1<=Ls.length/\(lys (mN nx) [b] Ls).take 1=[[b]]:=by
  cases Ls with
  |nil=>exact absurd U hne
  |cons _ _=>exact⟨Qhc (Qbj _),U⟩
 refine⟨_,U,m,_,2,_,U,U,SqT.of h1,U,Zh ?_⟩;refineλd hd=>?_;have sd:=Zd (o:=.dK []) hd;refine⟨_,U,m,_,1,_,U,U,SqT.of (sd _ _ h1),U,Zb,[(.inl (b:Int),.bl true)],U,by show 1<=15;decide,Zbm,λp hp=>Zh ?_⟩;rw[zq]at hp ⊢;have sd2:=Zd (o:=.dK (Jb [] [((.inl (b:Int):Key),V.bl true)])) hd;have s2:=sd2.trans (Zd (o:=.lst [.ref d]) hp);have hpH:=sd2.free hp;have hd2:=Zd (o:=.lst [.ref d]) hp _ _ (Zb (H:=H) (a:=d) (o:=.dK (Jb [] [((.inl (b:Int):Key),V.bl true)])));have ly0:Zhh (upd (upd H d (.dK (Jb [] [((.inl (b:Int):Key),V.bl true)]))) p (.lst [.ref d])) p ((lys (mN nx) [b] Ls).take 1):=by
  rw[ly1.2];refine⟨_,Zb,U,λi S hi=>?_⟩
  match i,hi with
  |0,hi=>
   cases hi;exact⟨d,U,.inl hd2⟩
 have D:qK as none (some (-1))=as.take (as.length-1):=wJ (xs:=as) (n:=1) (by lia) (by decide);refine⟨_,U,_,U,_,U,a,as,U,SqL.of (s2 _ _ ha),λq hq=>⟨q,U,⟨_,SqL.of Zb⟩,JQ (K:=K) (a:=q) (xs:=qK as none (some (-1))) (λi σ H'=>∃(u4 u5 u6 g:Option V),σ=[some (.ref m),some (.ref a),some (.ref ps),some (.ref p),u4,u5,u6,g]/\i+1<=Ls.length/\Zhh H' p ((lys (mN nx) [b] Ls).take (i+1))/\H' q=some (.lst (qK as none (some (-1))))/\SmF H H') ⟨none,none,none,none,U,ly1.1,ly0.smf (SmF.of (Zd hq)),Zb,(SmF.of s2).trans (SmF.of (Zd hq))⟩ (λi σ H' _ ⟨_,_,_,_,_,_,_,h,_⟩=>SqL.of h) ?_ ?_⟩⟩
 .rintro i x σ H1 O ⟨u4,u5,u6,g,rfl,hi,⟨zs,hz1,hz2,hz3⟩,hq1,s3⟩;rw[D,Qeu]at O;have hi2:i+1<Ls.length:=by
   rcases Qdz i (as.length-1)with z|z
   .lia
   .rw[Qa6 (by lia)]at O;cases O
  rw[Qa9 (by lia)]at O;obtain⟨L,J⟩:∃L,Ls[i]?=some L:=⟨_,Qad (by lia)⟩;obtain⟨x0,hx0,htl⟩:=hat i L J;rw[O]at hx0;cases hx0;obtain⟨hL1,hL2⟩:=hL L (Qag J);obtain⟨S,hSi⟩:∃S,(lys (mN nx) [b] Ls)[i]?=some S:=⟨_,Qad (by lia)⟩;obtain⟨hS1,hS2⟩:=lyok S (Qag hSi);have F:=Zbh hSi J hi2;rw[Qas]at hz2;have hzl:zs.length=i+1:=by lia
  obtain⟨dl,hdl,rdl⟩:=hz3 i S (by rw[Qeu,Qa9 (by lia)];exact hSi);have ezs:zs=zs.take i++[.ref dl]:=by
   rw[<-take_snoc hdl,<-hzl,Qbb]
  have hlast:atI zs (-1)=some (.ref dl):=by rw[ezs];exact yV _ _
  refine Zh λe he=>Zh ?_;have se:=SmF.of (Zd (o:=.dK []) he);have rd2:=se.rd rdl;refine⟨_,U,_,U,p,_,-1,_,U,U,SqL.of (se.lst hz1),hlast,dl,_,U,rd2,λo ho=>Zak (kvs:=twK S) (λj σ H'=>∃(u6 g:Option V),σ=[some (.ref m),some (.ref a),some (.ref ps),some (.ref p),some (.ref x0),some (.ref e),u6,g]/\H' dl=some (.frz o (.dK (twK S)))/\H' e=some (.dK (twK (((S.take j).flatMap λs=>L.map (mN nx s)).foldl Y6 [])))/\SmF H1 H') ⟨_,_,U,Zb,?_,se.trans (SmF.frz rd2 ho)⟩ (λi σ H' _ ⟨_,_,_,h,_⟩=>h) ?_ ?_⟩
  .have hed:e≠dl:=λz=>by
    subst z;rcases rdl with z|⟨_,z⟩<;>rw[he]at z<;>cases z
   rw[Zm hed,Zb];rfl
  .rintro j pr σ H3 I ⟨u6,g,rfl,g1,g2,s4⟩;unfold twK at I;rw[Qal]at I;obtain⟨s,hs,rfl⟩:=Qbp.mp I;have hsS:=Qag hs;have G:=hS2 s hsS;have Y:=s3.trans s4;have C:=Y.tup htl;obtain⟨pn3,ps3,po3,m1,_,Rs3,_⟩:=(M.smf Y).ex;rw[Y.tup h1]at m1;cases m1;obtain⟨as1,a1,r1,r2,r3⟩:=JE Rs3 (i:=s) (by rw[Qac];exact G);rw[qi]at r3;have l1:=R.nr _ (getD_mem G);have hde:dl≠e:=λz=>by rw[z,g2]at g1;cases g1
   refine Zh ⟨_,U,x0,U,⟨_,SqT.of C⟩,W9 (K:=K) (a:=x0) (xs:=L.map Xd) (λc σ H'=>∃(g:Option V),σ=[some (.ref m),some (.ref a),some (.ref ps),some (.ref p),some (.ref x0),some (.ref e),some (.int s),g]/\H' dl=some (.frz o (.dK (twK S)))/\H' e=some (.dK (twK ((((S.take j).flatMap λs=>L.map (mN nx s))++(L.take c).map (mN nx s)).foldl Y6 [])))/\SmF H1 H'/\∀b xs,H3 b=some (.tup xs)->H' b=some (.tup xs)) ⟨_,U,g1,by rw[List.take_zero,List.map_nil,Qbk];exact g2,s4,λ_ _ z=>z⟩ (λc σ H' _ ⟨_,_,_,_,_,z⟩=>SqT.of (z _ _ C)) ?_ ?_⟩
   .rintro c y σ H4 hy ⟨g,rfl,f1,f2,s5,tp⟩;rw[Qal]at hy;obtain⟨l,hl,rfl⟩:=Qbp.mp hy;have hlL:=hL2 l (Qag hl);have hsz:((((S.take j).flatMap λs=>L.map (mN nx s))++(L.take c).map (mN nx s)).foldl Y6 []).length<=nx.length:=Znz λx O=>by
     rcases Qa7.mp O with z|z
     .obtain⟨s',hs',z⟩:=Qhb.mp z;obtain⟨l',Z,rfl⟩:=Qa2.mp z;exact R.mN (hS2 s' (Qbw hs')) (hL2 l' Z)
     .obtain⟨l',Z,rfl⟩:=Qa2.mp z;exact R.mN G (hL2 l' (Qbw Z))
    refine Zh ⟨_,U,_,U,_,U,ps,_,_,_,U,U,SqT.of (tp _ _ r1),r2,_,U,a1,_,_,_,U,U,SqT.of (tp _ _ r3),Yb (uw (show l<(nx.getD s []).length by lia)),e,_,U,Zc5.k (k:=.inl (((nx.getD s []).getD l 0:Nat):Int)) f2 (by rw[jk];exact Xe (by lia)),_,U,by rw[Zm hde];exact f1,?_,s5.put he,λb xs z=>?_⟩
    .rw[Zb,Zgk,take_snoc hl,Qbd,<-Qcm,Qd1 (l':=List.map _ [l])];rfl
    .rw[Zm (Xv z (show H3 e=_ from g2) λq=>nomatch q)];exact tp b xs z
   .rintro σ H4 ⟨g,rfl,f1,f2,s5,_⟩;rw[Qac,Qbb]at f2;exact⟨_,_,U,f1,by rw[Zgn hs];exact f2,s5⟩
  .rintro σ H3 ⟨u6,g,rfl,g1,g2,s4⟩;rw[jk,Qbb]at g2;have hz4:=s4.lst hz1;have hq4:=s4.lst hq1;have hpq:q≠p:=λz=>by
    subst z;obtain⟨w0,hw0,_⟩:=ly0;rw[hq]at hw0;cases hw0
   refine⟨_,U,.inl ⟨U,_,SqL.of hz4⟩,_,U,p,_,_,U,U,hz4,by rw[hzl];exact Xe (by lia),_,_,_,_,U,hi2,?_,by rw[Zm hpq];exact hq4,(s3.trans s4).put hpH⟩;rw[take_snoc F];exact Zhh.more (H':=H3) hz4 (by rw[Qas];lia) (λj S' hj=>by
    obtain⟨a9,y1,y2⟩:=hz3 j S' hj;exact⟨a9,y1,s4.rd y2⟩) g2
 .rintro σ H1 ⟨u4,u5,u6,g,rfl,hi,ly,hq1,s3⟩;rw[D,Qas]at ly hi;refine⟨_,U,k p H1 hpH ?_ s3⟩;rw[show min (as.length-1) as.length+1=(lys (mN nx) [b] Ls).length by lia,Qbb]at ly;exact ly
inductive Xt:Prop
 |mk(a:Au)(L:Aj)(kb b:Nat):vs=[.ref a,.int kb,.int b]->H a=some (.tup (L.map Xd))->L.length<=1000->kb<=3->(∀p H',H p=none->H' p=some (.tup ((chs kb b L).map Xd))->ZD H H'->Q (.ref p) H')->Xt
def GB(K:Af):Sp:=λvs H Q _=>Xt vs H Q
theorem GC:Y1 P w K mg base CX0 1 t.cm t.cq ["letters","number","bit"] (GB K):=by
 refine T.bf.go GA ?_;rintro Y A outer s H _ Q E Z ⟨a,L,I,b,rfl,D,J,O,k⟩;refine⟨_,(Zf (Zp (ZG Z9 (by rfl) T.ah ZU (Zg (Y3 ({}:Yi (Zk YV) _ ["letters","number","bit"] "letter" ["bit","number"] [2,1]) (Xb (qv 0)) (λ_ _ _ _=>(yr (Zr Yk (Zj Xa (Zj yl (qv 0) (qv 2)) Ze) (qv 1) (Z7 _)))) (λ_ _ _ _=>(qv 0))) Zc)))),?_⟩;refine⟨_,U,a,U,⟨_,SqT.of D⟩,zB (xs:=L.map Xd) (Zp4 I b) ZD ZD.refl (λ_ _ _ x y=>x.trans y) (λH1 g=>SqT.of (g _ _ D)) (by rw[Qac];exact Qax (Zu J)) (λx C H1 g R hR=>?_) (λx C H1 R hR=>⟨_,U,hR⟩) (λH1 l g q=>?_)⟩
 .obtain⟨y,_,rfl⟩:=Qa2.mp C;refine⟨_,U,_,U,_,_,U,U,Qcg _,_,_,U,U,_,U,U,_,U,?_⟩;rw[bit_of];exact hR H1 (ZD.refl H1)
 have F:=g.trans (Zd (o:=.lst ((L.map Xd).filter (Zp4 I b))) q);refine⟨l,_,U,.inl ⟨SqL.of Zb,λp G=>?_⟩⟩;exact k p _ (F.free G) (by rw[Zb,jm]) (F.trans (Zd G))
inductive Gs:Prop
 |mk(m:Au)(nm:Ai)(b:Nat)(nx:Ad)(ot:Ax)(n s c:Nat)(W:Option (Aj))(wv v:V)(tr:Bool):vs=[.ref m,.int s,.int c,wv,v]->M4 H m nm b nx ot->Runs nx ot n->s<nx.length->c<2^n->yO H wv W->XO tr v->(∀r∈ot,∀x∈r,XO tr x)->Q (.bl (gw (mN nx) (mB ot v) W s c)) H->Gs
def wY(K:Af):Sp:=λvs H Q _=>Gs vs H Q
theorem wZ:Y1 P w K mg base CX0 1 t.pj t.pk ["machine","state","letter","well","wanted"] (wY K):=by
 refine T.sf.go wU ?_;rintro cdv A outer s H _ Q E hr ⟨m,nm,b,nx,ot,n,s,c,W,wv,v,tr,rfl,M,R,q,hc,hw,hv,F,k⟩;have Y:=qL hr;refine⟨_,(Za (ZF (Zr Zjy (qv 3) yo (by with_unfolding_all rfl))
   (Zf (Zp (Xh Yk (Zv Z1 (Zv Z1 (Zv Z1 (qv 0) Ze) (qv 1)) (qv 2)) (qv 4) (Z7 _)))) Zw)
   (Zf (Zp (Xh (qQ Y) (Zv Z1 (Zv Z1 (Zv Z1 (qv 0) Ze) (qv 1)) (qv 2)) (qv 3) (by with_unfolding_all rfl))))),?_⟩
 obtain⟨pn,ps,po,h1,_,Z,I⟩:=M.ex;have g:s<ot.length:=by rw[R.ol];exact q
 have l1:=R.nr _ (getD_mem q);have l2:=R.or _ (getD_mem g);obtain⟨as1,a1,J,g2,C⟩:=JE Z (i:=s) (by rw[Qac];exact q);obtain⟨as2,a2,G,D,f3⟩:=JE I g;rw[qi]at C;refine⟨_,U,U,_,U,?_⟩;rcases hw with⟨rfl,rfl⟩|⟨d,l,rfl,rfl,O⟩
 .have e:=getD_at (d:=V.non) (show c<(ot.getD s []).length by lia);exact YN ⟨_,U,m,_,3,_,U,U,SqT.of h1,U,_,U,po,_,_,_,U,U,SqT.of G,D,_,U,a2,_,_,_,U,U,SqT.of f3,Yb e,_,U,ji (F _ (getD_mem g) _ (Qag e)) hv,k⟩
 .refine Yu ⟨_,U,m,_,2,_,U,U,SqT.of h1,U,_,U,ps,_,_,_,U,U,SqT.of J,g2,_,U,a1,_,_,_,U,U,SqT.of C,Yb (uw (show c<(nx.getD s []).length by lia)),_,U,d,_,U,.inl ⟨_,.inl _,O,U,U⟩,?_⟩;rw[vP];exact k
inductive Wu:Prop
 |mk(κ:Type)(dq:DecidableEq κ)(sk:SK κ)(v:V)(st nd:Au)(k:κ)(l:List κ)(ws:A0):vs=[v,.ref st,.ref nd]->H st=some (.lst ws)->ws.length=l.length->sk.dic H nd l->sk.at_ H k v->l.Nodup->l.length<10000000->(∀H' ws',H' st=some (.lst ws')->((k∈l/\ws'=ws)\/(k∉l/\ws'=ws++[v]))->sk.dic H' nd (Y6 l k)->(∀b o,H b=some o->b≠st->b≠nd->H' b=some o)->(∀b,H b=none->H' b=none)->Q (.int ((Y6 l k).idxOf k:Int)) H')->Wu
def jy(K:Af):Sp:=λvs H Q _=>Wu vs H Q
theorem jz:Y1 P w K mg base CX0 1 t.ik t.il ["state","states","numbers"] (jy K):=by
 refine T.lg.go ju ?_;rintro cdv A outer s H _ Q E hr ⟨κ,_,sk,v,st,nd,k0,l,F,rfl,q,hal,n,D,I,hl,k⟩;have hu:=qL hr;refine⟨_,(Za (ZF (Zr (OpR.or (Zfc (Zau hr)) (GR hu)) (qv 0) (qv 2) (by with_unfolding_all rfl))
   (Za (QS.or (Zmv (Zau hr) (qv 2) (qv 0) (Zo Zt (by rfl) T.af ZR (Zg (qv 1) Zc)) U) (Jw hu (qv 2) (qv 0) (Zo Zt (by rfl) T.af ZR (Zg (qv 1) Zc)) U))
   (Zf (ZE (ZP Qaj Qap Qaq Z4 (qv 1) (Zg (qv 0) Zc))))) Zw)
   (Zf (Zp (QE.or (Zmu (Zau hr) (qv 2) (qv 0) (λ_ _=>U)) (WE hu (qv 2) (qv 0) (λ_ _=>U)))))),?_⟩
 try dsimp only[L2.cxK,L2.cxK2]
 have Y:st≠nd:=λz=>by
  obtain⟨o,e,_,h⟩:=SK.ne n;rw[<-z,q]at e;cases e;exact h _ U
 cases sk with
 |int f inj=>
  have n:H nd=some (.dK (nk (l.map f))):=n;have D:v=.int (f k0):=D;subst D;have C:f k0∈l.map f↔k0∈l:=⟨λz=>let⟨a,ha,e⟩:=Qa2.mp z;inj _ _ e ▸ ha,λz=>Qcw z⟩;have Z:(l.map f).Nodup:=by
   unfold List.Nodup;rw[Qgu];exact List.Pairwise.imp (λhne e=>hne (inj _ _ e)) I
  have ei:=Zkq f k0 (Y6 l k0) λa _ e=>inj _ _ e;have em:=Zav f l k0 λa _ e=>inj _ _ e;refine⟨_,U,_,U,.inr ⟨nd,Yp (nk (l.map f)) (.inl (f k0)),U,.inl ⟨nk (l.map f),.inl (f k0),.inl n,U,U⟩,_,U,?_⟩⟩
  by_cases O:k0∈l
  .have e1:Y6 l k0=l:=Qa9 O;rw[e1]at k ei;rw[Zf1 (C.mpr O) Z];refine Yu (.inr ⟨_,U,_,U,nd,_,U,.inl ⟨nk (l.map f),.inl (f k0),.inl n,U,(Zf1 (C.mpr O) Z).symm⟩,?_⟩);rw[ei];exact k H F q (.inl ⟨O,U⟩) n (λ_ _ e _ _=>e) λ_ e=>e
  .have e1:Y6 l k0=l++[k0]:=Qa6 O;have hs':f k0∉l.map f:=λz=>O (C.mp z);rw[e1]at k ei em;rw[Zni hs'];have J:((l++[k0]).map f).Nodup:=by
    rw[<-em];exact JX Z _
   refine YN (.inr ⟨_,U,st,_,U,.inl (SqL.of q),_,U,_,U,nd,_,U,Zc5.k (k:=.inl (f k0)) n (by rw[nk_len,Qac];exact Xe (by lia)),?_⟩);rw[hal,show(l.length:Int)=((l.map f).length:Int) by rw[Qac],nk_put hs'];have e2:l.map f++[f k0]=(l++[k0]).map f:=by rw[Qbd];rfl
   rw[e2];have g:upd H nd (.dK (nk ((l++[k0]).map f))) st=some (.lst F):=by rw[Zm Y];exact q
   refine⟨_,U,.inl ⟨U,_,SqL.of g⟩,_,U,st,_,_,U,U,g,Xe (by lia),?_⟩;have G:upd (upd H nd (.dK (nk ((l++[k0]).map f)))) st (.lst (F++[.int (f k0)])) nd=some (.dK (nk ((l++[k0]).map f))):=by rw[Zm Y.symm];exact Zb
   refine .inr ⟨_,U,_,U,nd,_,U,.inl ⟨_,.inl (f k0),.inl G,U,(Zf1 (Qcw (by simp)) J).symm⟩,?_⟩;rw[ei];refine k _ (F++[.int (f k0)]) Zb (.inr ⟨O,U⟩) G (λb o e h1 h2=>?_) λb e=>?_
   .rw[Zm h1,Zm h2];exact e
   .rw[Zm (λz=>by rw[z,q]at e;cases e),Zm (λz=>by rw[z,n]at e;cases e)];exact e
 |key kn=>
  have n:gu kn H nd (J0 l):=n;obtain⟨a,rfl,D⟩:=D;refine⟨_,U,_,U,.inl ⟨κ,_,kn,nd,a,k0,_,U,U,n,D,_,U,?_⟩⟩
  by_cases C:k0∈l
  .have e1:Y6 l k0=l:=Qa9 C;have hv:=zE l k0 C I;rw[e1]at k;rw[hv];exact Yu (.inl ⟨_,U,_,U,κ,_,kn,nd,a,k0,_,_,U,U,n,D,hv,k H F q (.inl ⟨C,U⟩) n (λ_ _ e _ _=>e) λ_ e=>e⟩)
  .have e1:Y6 l k0=l++[k0]:=Qa6 C;have hv:=y7 l k0 C;have J:(l++[k0]).Nodup:=e1 ▸ JX I k0;rw[e1]at k;rw[hv];refine YN (.inl ⟨_,U,st,_,U,.inl (SqL.of q),_,U,_,U,κ,_,kn,nd,a,k0,_,U,U,n,D,hv,?_,λH2 n2 o2 hx=>?_⟩)
   .rw[wb];exact Xe (by lia)
   rw[hal]at n2;rw[<-y6]at n2;have g:=o2 _ _ q Y;refine⟨_,U,.inl ⟨U,_,SqL.of g⟩,_,U,st,_,_,U,U,g,Xe (by lia),?_⟩;have n3:gu kn (upd H2 st (.lst (F++[.ref a]))) nd (J0 (l++[k0])):=SK.off (sk:=.key kn) n2 g;have hk2:kn.at_ H2 k0 a:=kn.keep _ _ _ _ (λb xs e=>o2 b _ e λz=>by
    obtain⟨o,e3,h3,_⟩:=Zf2 n;rw[z,e3]at e;cases e;exact h3 _ U) D
   have hk3:kn.at_ (upd H2 st (.lst (F++[.ref a]))) k0 a:=kn.keep _ _ _ _ (λb xs e=>by rw[Zm (Xv e g λz=>nomatch z)];exact e) hk2;refine .inl ⟨_,U,_,U,κ,_,kn,nd,a,k0,_,_,U,U,n3,hk3,zE _ _ (by simp) J,k _ (F++[.ref a]) Zb (.inr ⟨C,U⟩) n3 (λb o e h1 h2=>?_) λb e=>?_⟩
   .rw[Zm h1];exact o2 b o e h2
   .obtain⟨oo,rfl⟩:=hx;rw[Zm (λz=>by rw[z,q]at e;cases e),Zm (λz=>by
     obtain⟨o,e3,_⟩:=Zf2 n;rw[z,e3]at e;cases e)]
    exact e
inductive Je:Prop
 |mk(y:Str):vs=[.str y]->Q (.bl (decide (y∈Gd))) H->Je
def jW(K:Af):Sp:=λvs H Q _=>Je vs H Q
theorem jX:Y1 P w K mg base CX0 1 t.mf t.mh ["text"] (jW K):=by
 refine T.nu.go jP ?_;rintro g A outer s H _ Q E q ⟨y,rfl,k⟩;refine⟨_,(Zf (Zp (Xh gK (qv 0) (WD (v:=.ref _) U T.au.m U) (by with_unfolding_all rfl)))),?_⟩;refine⟨_,U,_,T1,.inr y,U,T.au.d,U,?_⟩;rw[Zkt];exact k
inductive Wb:Prop
 |mk(k:Key):vs=[kV k]->Q (.bl (clK k)) H->Wb
def xT(K:Af):Sp:=λvs H Q _=>Wb vs H Q
omit T TB in
theorem Zg5(l:List (Str×Int))(k:Key):(Yp (kvsOf l) k).isSome=(match k with|.inr y=>decide (y∈l.map (·.1))|.inl _=>false):=by
 cases k with
 |inr y=>exact Zkt l y
 |inl z=>
  induction l with
  |nil=>rfl
  |cons p r g=>
   have e:Yp (kvsOf (p::r)) (.inl z)=Yp (kvsOf r) _:=Yg (λz=>nomatch z);rw[e,g]
omit T TB in
theorem Zji(k:Key):clK k=((Yp (kvsOf T2) k).isSome||(Yp (kvsOf T3) k).isSome):=by
 rw[Zg5,Zg5];cases k with
 |inl z=>rfl
 |inr y=>
  show decide _=(decide _||decide _);have e:zQ=T2.map (·.1)++T3.map (·.1):=by decide +kernel
  rw[e]
  by_cases h1:y∈T2.map (·.1)
  .grind
  .grind
theorem xU:Y1 P w K mg base CX0 1 t.fe t.ff ["text"] (xT K):=by
 refine T.ib.go xP ?_;rintro g A outer s H _ Q E q ⟨kk,rfl,k⟩;refine⟨_,(Zf (Zp (qe_or (Xh gK (qv 0) (WD (v:=.ref t.ai) U T.ai.m U) (by with_unfolding_all rfl)) (kH (Xh gK (qv 0) (WD (v:=.ref t.ak) U T.ak.m U) (by with_unfolding_all rfl)))))),?_⟩;rw[Zji]at k;refine⟨_,U,t.ai,T2,kk,U,T.ai.d,U,_,U,?_⟩;cases h:(Yp (kvsOf T2) kk).isSome with
 |true=>
  rw[h]at k;exact YN k
 |false=>
  rw[h]at k;exact Yu ⟨_,U,t.ak,T3,kk,U,T.ak.d,U,k⟩
inductive Jf:Prop
 |mk(k:Key):vs=[kV k]->Q (.int (GG T1 k+GG T2 k)) H->Jf
def jY(K:Af):Sp:=λvs H Q _=>Jf vs H Q
theorem jZ:Y1 P w K mg base CX0 1 t.mi t.mj ["word"] (jY K):=by
 refine T.ny.go jQ ?_;rintro g A outer s H _ Q E q ⟨kk,rfl,k⟩;refine⟨_,(Zf (Zp (Zj YD (gL (WD (v:=.ref t.au) U T.au.m U) (qv 0) Ze) (gL (WD (v:=.ref t.ai) U T.ai.m U) (qv 0) Ze)))),?_⟩;refine⟨t.au,T1,U,T.au.d,_,U,kk,U,t.ai,T2,U,T.ai.d,_,U,kk,U,?_⟩;rw[kget,kget];exact⟨_,_,U,U,k⟩
inductive Wc:Prop
 |mk(k:Key):vs=[kV k]->Q (.int (GG T3 k)) H->Wc
def xV(K:Af):Sp:=λvs H Q _=>Wc vs H Q
theorem xW:Y1 P w K mg base CX0 1 t.fg t.fh ["word"] (xV K):=by
 refine T.ic.go xQ ?_;rintro g A outer s H _ Q E q ⟨kk,rfl,k⟩;refine⟨_,(Zf (Zp (gL (WD (v:=.ref _) U T.ak.m U) (qv 0) Ze))),?_⟩;refine⟨_,T3,U,T.ak.d,_,U,kk,U,?_⟩;rw[kget];exact k
inductive JL:Prop
 |mk(y sg:Str):vs=[.str y,.str sg]->y.length<=100000->(∀H',ZD H H'->Q (.bl (decide (yF y sg))) H')->JL
def vZ(K:Af):Sp:=λvs H Q _=>JL vs H Q
theorem ke:Y1 P w K mg base CX0 1 t.oq t.ou ["text","signs"] (vZ K):=by
 refine T.pe.go vV ?_;rintro I A outer s H _ Q E J ⟨y,g,rfl,G,k⟩;refine⟨_,(Zf (Zp (Zaa (Xh ku (qv 0) Zi (Z7 _)) (kH (Zo (Zen U) (by rfl) T.acg bt_all (Zg (Y3 ({}:Yi (Zk JA) _ ["text","signs"] "sign" ["signs"] [1]) (qi_str (qv 0)) (λ_ _ _ _=>XU) (λ_ _ _ _=>(Xh Zdu (qv 0) (qv 1) (by with_unfolding_all rfl)))) Zc)))))),?_⟩;refine⟨_,U,U,_,U,?_⟩
 by_cases C:y.cps.toList=[]
 .have e:=zS.mp C;subst e;refine Yu ?_;have e2:decide (yF ("" : Str) g)=false:=Qan λz=>z.1 (zS.mpr U);have:=k H (ZD.refl H);exact this
 have D:¬V.str y=V.str ("" : Str):=λz=>C (zS.mpr (by injection z));rw[Qan D];refine YN ?_;refine⟨_,U,y,U,Zh7 (λc=>.bl (decide (c∈g.cps.toList))) (Qaz (show y.length<=100000 from G) (by decide)) (λc _ R hR=>?_) (λl q=>?_)⟩
 .refine⟨_,U,_,U,_,_,U,U,?_⟩;rw[Zm7];exact hR
 have e1:(y.cps.toList.map λc=>V.bl (decide (c∈g.cps.toList)))=(y.cps.toList.map λc=>decide (c∈g.cps.toList)).map V.bl:=by rw[Qb7];rfl
 rw[e1];refine⟨l,_,U,SqL.of Zb,?_⟩;rw[all_bs];have e2:decide (yF y g)=decide (∀c∈y.cps.toList,decide (c∈g.cps.toList)=true):=by
  rw[Qd2,Qb9,Qb9];constructor
  .intro z c F;exact Qar (z.2 c F)
  .intro z;exact⟨C,λc F=>Qba (z c F)⟩
 rw[<-e2];exact k _ (Zd q)
inductive Gu:Prop
 |mk(x:V):vs=[x]->Wm x=true->Q (.bl (inV x (allR.map V.str))) H->Gu
def gb(K:Af):Sp:=λvs H Q _=>Gu vs H Q
theorem x8:Y1 P w K mg base CX0 1 t.qs t.ra ["word"] (gb K):=by
 refine T.dn.go wV ?_;rintro q A outer s H _ Q E C ⟨x,rfl,g,k⟩;refine⟨_,(Zf (Zp (Xh Ye (qv 0) (WD (v:=.ref _) U T.bz.m U) (by with_unfolding_all rfl)))),?_⟩;exact⟨_,U,_,_,U,.inr (T.bz.d H),g,Zfj _,k⟩
inductive qu:Prop
 |mk(a b h:Int):vs=[.int a,.int b,.int h]->Q (.int (Zpw a b h)) H->qu
def uG(K:Af):Sp:=λvs H Q _=>qu vs H Q
theorem j4:Y1 P w K mg base CX0 1 t.tj t.tu ["one","other","held"] (uG K):=by
 refine T.ie.go uA ?_;rintro g A outer s H _ Q E q ⟨a,b,h,rfl,k⟩;refine⟨_,(Zf (Zp (Zj jH (Zj Xa (XH zu (qv 0)) (qv 1)) (Zj Xa (qv 2) (XH zu (Zj zt (qv 0) (qv 1))))))),?_⟩;exact⟨_,U,_,U,_,U,_,_,U,U,_,U,_,U,_,U,_,_,U,U,_,U,_,_,U,U,_,_,U,U,k⟩
inductive Jg:Prop
 |mk(y:Str)(p:Au)(is:Ak):vs=[.str y,.ref p]->H p=some (.lst (is.map V.int))->y∈Ziw->is.length=Ziv y->(∀H',ZD H H'->Q (.int (oaI y is)) H')->Jg
def ya(K:Af):Sp:=λvs H Q _=>Jg vs H Q
theorem yb:Y1 P w K mg base CX0 1 t.mm t.mn ["word","parts"] (ya K):=by
 refine T.nz.go jR ?_;rintro cdv A outer s H _ Q E hr ⟨y,p,is,rfl,hp,hy,F,k⟩;refine⟨_,(Za (ZF (Zr Yk (qv 0) Zi (Z7 _))
   (Zf (Zp (XH X3 Ze))) Zw)
   (Za (ZF (Zr Yk (qv 0) Zi (Z7 _))
   (Zf (Zp (Zv Z0 (qv 1) Ze))) Zw)
   (Za (ZF (Zr Ye (qv 0) (Zs (Zg Zi (Zg Zi Zc))) (by with_unfolding_all rfl))
   (Zf (Zp (XH zu (Zv Z0 (qv 1) Ze)))) Zw)
   (Za (ZF (Zr Ye (qv 0) (Zs (Zg Zi (Zg Zi Zc))) (by with_unfolding_all rfl))
   (Zf (Zp (Zj Xa (Zv Z0 (qv 1) Ze) (Zv Z0 (qv 1) Ze)))) Zw)
   (Za (ZF (Zr Ye (qv 0) (Zs (Zg Zi (Zg Zi Zc))) (by with_unfolding_all rfl))
   (Zf (Zp (Zj jH (Zv Z0 (qv 1) Ze) (Zv Z0 (qv 1) Ze)))) Zw)
   (Za (ZF (Zr Yk (qv 0) Zi (Z7 _))
   (Zf (Zp (Zj zt (Zv Z0 (qv 1) Ze) (Zv Z0 (qv 1) Ze)))) Zw)
   (Za (ZF (Zr Yk (qv 0) Zi (Z7 _))
   (Zf (Zp (Zj jH (XH zu (Zv Z0 (qv 1) Ze)) (Zv Z0 (qv 1) Ze)))) Zw)
   (Zf (Zp (Zj jH (Zj Xa (Zv Z0 (qv 1) Ze) (Zv Z0 (qv 1) Ze)) (Zj Xa (XH zu (Zv Z0 (qv 1) Ze)) (Zv Z0 (qv 1) Ze)))))))))))),?_⟩
 unfold oaI at k;refine⟨_,U,U,_,U,?_⟩
 by_cases h1:y = "yes"
 .rw[Qar (congrArg V.str h1)];rw[Qa9 h1]at k;refine YN ?_;exact⟨_,U,k H (ZD.refl _)⟩
 rw[Qan (λz=>h1 (by injection z))];rw[Qa6 h1]at k;refine Yu ⟨_,U,U,_,U,?_⟩
 by_cases h2:y = "sign"
 .rw[Qar (congrArg V.str h2)];rw[Qa9 h2]at k;refine YN ?_;exact⟨_,U,p,_,0,_,U,U,SqL.of hp,Z8 0 rfl (zY F (by rw[h2];decide +kernel)),k H (ZD.refl _)⟩
 rw[Qan (λz=>h2 (by injection z))];rw[Qa6 h2]at k;refine Yu ⟨_,U,by decide,λq hq=>⟨q,_,U,.inr (SqT.of Zb),U,U,_,U,?_⟩⟩;show if inV (.str y) ((["not","never"]:Ai).map V.str)=true then _ else _;rw[ZO];have sq:=Zd (o:=.tup [.str "not",.str "never"]) hq;have pq:=sq _ _ hp;generalize upd H q (.tup [.str "not",.str "never"])=H1 at *
 by_cases Z:y = "not" \/ y = "never"
 .rw[Qar (by grind)];rw[Qa9 Z]at k;refine YN ?_;exact⟨_,U,p,_,0,_,U,U,SqL.of pq,Z8 0 rfl (zY F (by rcases Z with h|h<;>rw[h]<;>decide +kernel)),_,U,k H1 sq⟩
 rw[Qan (by grind)];rw[Qa6 Z]at k;refine Yu ⟨_,U,by decide,λr hr=>⟨r,_,U,.inr (SqT.of Zb),U,U,_,U,?_⟩⟩;show if inV (.str y) ((["and","both"]:Ai).map V.str)=true then _ else _;rw[ZO];have J:=Zd (o:=.tup [.str "and",.str "both"]) hr;have pr:=J _ _ pq;generalize upd H1 r (.tup [.str "and",.str "both"])=H2 at *
 by_cases Y:y = "and" \/ y = "both"
 .rw[Qar (by grind)];rw[Qa9 Y]at k;refine YN ?_;have D:2<=is.length:=zY F (by rcases Y with h|h<;>rw[h]<;>decide +kernel);exact⟨_,U,p,_,0,_,U,U,SqL.of pr,Z8 0 rfl (by lia),_,U,p,_,1,_,U,U,SqL.of pr,Z8 1 rfl D,_,_,U,U,k H2 (sq.trans J)⟩
 rw[Qan (by simp only[Qaw,Qbq,Qet];exact Y)];rw[Qa6 Y]at k;refine Yu ⟨_,U,by decide,λt1 ht1=>⟨t1,_,U,.inr (SqT.of Zb),U,U,_,U,?_⟩⟩;show if inV (.str y) ((["or","either"]:Ai).map V.str)=true then _ else _;rw[ZO];have C:=Zd (o:=.tup [.str "or",.str "either"]) ht1;have g:=C _ _ pr;generalize upd H2 t1 (.tup [.str "or",.str "either"])=H3 at *
 by_cases O:y = "or" \/ y = "either"
 .rw[Qar (by simp only[Qaw,Qbq,Qet];exact O)];rw[Qa9 O]at k;refine YN ?_;have D:2<=is.length:=zY F (by rcases O with h|h<;>rw[h]<;>decide +kernel);exact⟨_,U,p,_,0,_,U,U,SqL.of g,Z8 0 rfl (by lia),_,U,p,_,1,_,U,U,SqL.of g,Z8 1 rfl D,_,_,U,U,k H3 ((sq.trans J).trans C)⟩
 rw[Qan (by simp only[Qaw,Qbq,Qet];exact O)];rw[Qa6 O]at k;refine Yu ⟨_,U,U,_,U,?_⟩
 by_cases G:y = "odd"
 .rw[Qar (congrArg V.str G)];rw[Qa9 G]at k;refine YN ?_;have D:2<=is.length:=zY F (by rw[G];decide +kernel);exact⟨_,U,p,_,0,_,U,U,SqL.of g,Z8 0 rfl (by lia),_,U,p,_,1,_,U,U,SqL.of g,Z8 1 rfl D,_,_,U,U,k H3 ((sq.trans J).trans C)⟩
 rw[Qan (λz=>G (by injection z))];rw[Qa6 G]at k;refine Yu ⟨_,U,U,_,U,?_⟩
 by_cases I:y = "so"
 .rw[Qar (congrArg V.str I)];rw[Qa9 I]at k;refine YN ?_;have D:2<=is.length:=zY F (by rw[I];decide +kernel);exact⟨_,U,p,_,0,_,U,U,SqL.of g,Z8 0 rfl (by lia),_,U,_,U,p,_,1,_,U,U,SqL.of g,Z8 1 rfl D,_,_,U,U,k H3 ((sq.trans J).trans C)⟩
 rw[Qan (λz=>I (by injection z))];rw[Qa6 I]at k;have l3:3<=is.length:=zY F (Zcc y hy h1 h2 Z Y O G I);exact Yu ⟨_,U,p,_,0,_,U,U,SqL.of g,Z8 0 rfl (by lia),_,U,p,_,1,_,U,U,SqL.of g,Z8 1 rfl (by lia),_,_,U,U,_,U,p,_,0,_,U,U,SqL.of g,Z8 0 rfl (by lia),_,U,_,U,p,_,2,_,U,U,SqL.of g,Z8 2 rfl l3,_,_,U,U,_,_,U,U,k H3 ((sq.trans J).trans C)⟩
inductive XR:Prop
 |mk(tw:Au)(ws:A0):vs=[.ref tw]->H tw=some (.tup ws)->ws.length<=1000->(∀w∈ws,(∃y,w=.str y)\/∃z:Int,w=.int z)->(∀(L:Nat) H',(∀z:Int,V.int z∈ws->Builtin.Int.intBits z<=L)->(L=0\/∃z:Int,V.int z∈ws/\L=Builtin.Int.intBits z)->ZD H H'->Q (.int L) H')->XR
def xj(K:Af):Sp:=λvs H Q _=>XR vs H Q
theorem xk:Y1 P w K mg base CX0 1 t.du t.dw ["words"] (xj K):=by
 refine T.ee.go xi ?_;rintro J A outer s H _ Q E Y ⟨tw,g,rfl,D,O,hw,k⟩;refine⟨_,(Zf (Zp (Zm0 U U T.aby (Y3 ({}:Yi (Zk X0) _ ["words"] "word" [] []) (Xb (qv 0)) (λ_ _ _ _=>(yr (YE (Zo (show Xr _ (.builtin "isinstance") (rIsi K)from YI) (by rfl) T.ag ZL (Zg (qv 0) (Zg (Xz (v:=.ty "int") (by rfl) T.om kE U) Zc)))))) (λ_ _ _ _=>(show QE _ _ (Zp9 K "int" Zpo (yT 0))from(xo PySem.F.plainAttrs_int PySem.F.slot_int_bit_length PySem.F.type_int_bit_length Zm1 (qv 0))))) Ze))),?_⟩;refine⟨_,U,tw,U,⟨_,SqT.of D⟩,JV (K:=K) (a:=tw) (xs:=g) (λi zs H'=>zs=(ql (g.take i)).map V.int/\H'=H) ⟨U,U⟩ (λi zs H' h=>?_) (λi zs H' h=>by rw[h.2];exact SqT.of D) (λi x zs H1 R hR q h=>?_) (λzs H1 h p I=>?_)⟩
 .rw[h.1,Qac];have:=wG (g.take i);rw[Qas]at this;exact Qax (Zu (by lia))
 .obtain⟨rfl,rfl⟩:=h;rcases hw x (Qag q)with⟨y,rfl⟩|⟨z,rfl⟩
  .refine⟨_,U,_,_,_,_,U,.str y,YK,_,U,Yu (hR _ _ ⟨?_,U⟩)⟩;rw[take_snoc q,jd];exact congrArg (List.map V.int) (Qbk _).symm
  .refine⟨_,U,_,_,_,_,U,.int z,XG,_,U,YN ⟨_,U,U,z,U,U,hR _ _ ⟨?_,U⟩⟩⟩;rw[take_snoc q,jd,Qbd];rfl
 .obtain⟨rfl,rfl⟩:=h;have sp:=Zd (o:=.lst ((ql (g.take g.length)).map V.int)) I;refine⟨p,ql (g.take g.length),U,SqL.of Zb,λe=>?_,λm C q=>?_⟩
  .rw[Qbb]at e;refine k 0 _ (λz hz=>?_) (.inl U) sp;have:=je hz;rw[e]at this;cases this
  .rw[Qbb]at C q;obtain⟨z,hz,rfl⟩:=Zba C;exact k _ _ (λy G=>Int.ofNat_le.mp (q _ (je G))) (.inr ⟨z,hz,U⟩) sp
inductive x9:Prop
 |mk(p:Au)(cs:Ak)(l:Nat):vs=[.ref p,.int l]->H p=some (.lst (cs.map V.int))->cs.length<=1000->l<=100->(∀t H',H t=none->H' t=some (.tup ((cs.map λc=>bt c l).map V.int))->ZD H H'->Q (.ref t) H')->x9
def Zcr(K:Af):Sp:=λvs H Q _=>x9 vs H Q
theorem Zcs:Y1 P w K mg base CX0 1 t.aau t.aav ["columns","letter"] (Zcr K):=by
 refine T.cx.go Zcn ?_;rintro I A outer s H _ Q E Y ⟨p,cs,l,rfl,D,O,F,k⟩;refine⟨_,(Zf (Zp (ZG Z9 (by rfl) T.ah ZU (Zg (Y3 ({}:Yi (Zk zI) _ ["columns","letter"] "column" ["letter"] [1]) (Xi (qv 0)) (λ_ _ _ _=>XU) (λ_ _ _ _=>(Zj Xa (Zj yl (qv 0) (qv 1)) Ze))) Zc)))),?_⟩;refine⟨_,U,p,U,⟨_,SqL.of D⟩,comp_map (xs:=cs.map V.int) (fI λc=>V.int (bt c l)) (SqL.of D) (by rw[Qac];exact Qax (Zu (by lia))) (λv G R hR=>?_) (λq J=>?_)⟩
 .obtain⟨c,_,rfl⟩:=Qa2.mp G;refine⟨_,U,_,U,_,_,U,U,Qcg l,_,_,U,U,?_⟩;have e:fI (λc=>V.int (bt c l)) (V.int c)=V.int (Builtin.bitAnd (c/2^(l:Int).toNat) 1):=by
   rw[and_1,Qay];rfl
  rw[e]at hR;exact hR
 .refine⟨q,_,U,.inl ⟨SqL.of Zb,λt g=>?_⟩⟩;have C:=Zd (o:=.lst ((cs.map V.int).map (fI λc=>V.int (bt c l)))) J;refine k t _ (C.free g) ?_ (C.trans (Zd g));rw[Zb,Qb7,Qb7];rfl
inductive JM:Prop
 |mk(m1 m2 c:Au)(nm1 nm2:Ai)(b1 b2:Nat)(nx1 nx2:Ad)(ot1 ot2:Ax)(i j:Nat):vs=[.ref m1,.ref m2,.ref c]->M4 H m1 nm1 b1 nx1 ot1->M4 H m2 nm2 b2 nx2 ot2->H c=some (.tup [.int i,.int j])->i<nx1.length->j<nx2.length->(∀l zs H',H l=none->ZD H H'->H' l=some (.lst zs)->Prs H' (Zc6 (nx1.getD i []) (nx2.getD j [])) zs->Q (.ref l) H')->JM
def kf(K:Af):Sp:=λvs H Q _=>JM vs H Q
theorem kg:Y1 P w K mg base CX0 1 t.ov t.ow ["one","other","pair"] (kf K):=by
 refine T.bq.go vW ?_;rintro cdv A outer s H _ Q E hr ⟨J,m2,c,nm1,nm2,b1,b2,nx1,nx2,ot1,ot2,i,j,rfl,M1,M2,D,hi,hj,k⟩;refine⟨_,(Zf (Zp (Zb6 (b1:=true) (b2:=true) U T.aca U T.abm U (Zg (Zv Z1 (Zv Z1 (qv 0) Ze) (Zv Z1 (qv 2) Ze)) (Zg (Zv Z1 (Zv Z1 (qv 1) Ze) (Zv Z1 (qv 2) Ze)) Zc))))),?_⟩;obtain⟨pn1,g,O,h1,_,Y,_⟩:=M1.ex;obtain⟨Z,q,po2,h2,_,R2,_⟩:=M2.ex;obtain⟨as1,a1,g1,g2,C⟩:=JE Y (i:=i) (by rw[Qac];exact hi);obtain⟨as2,a2,f1,G,F⟩:=JE R2 (i:=j) (by rw[Qac];exact hj);rw[qi]at C F;exact⟨_,U,J,_,2,_,U,U,SqT.of h1,U,_,U,c,_,0,_,U,U,SqT.of D,U,g,_,_,_,U,U,SqT.of g1,g2,_,U,m2,_,2,_,U,U,SqT.of h2,U,_,U,c,_,1,_,U,U,SqT.of D,U,q,_,_,_,U,U,SqT.of f1,G,a1,a2,_,_,U,SqB.t C,SqB.t F,λl zs H' I s t hz=>k l zs H' I s hz (ug t)⟩
inductive qw:Prop
 |mk(m1 m2 c:Au)(nm1 nm2:Ai)(b1 b2:Nat)(nx1 nx2:Ad)(ot1 ot2:Ax)(i j:Nat)(tr:Bool):vs=[.ref m1,.ref m2,.ref c]->M4 H m1 nm1 b1 nx1 ot1->M4 H m2 nm2 b2 nx2 ot2->H c=some (.tup [.int i,.int j])->i<ot1.length->j<ot2.length->(ot1.getD i []).length=(ot2.getD j []).length->(ot1.getD i []).length<=1000->(∀v∈ot1.getD i [],XO tr v)->(∀v∈ot2.getD j [],XO tr v)->(∀l H',H l=none->ZD H H'->H' l=some (.lst ((((ot1.getD i []).zip (ot2.getD j [])).map λq=>!decide (q.1=q.2)).map V.bl))->Q (.ref l) H')->qw
def uH(K:Af):Sp:=λvs H Q _=>qw vs H Q
theorem uI:Y1 P w K mg base CX0 1 t.ui t.uj ["one","other","pair"] (uH K):=by
 refine T.bx.go uB ?_;rintro cdv A outer s H _ Q E hr ⟨m1,m2,c,nm1,nm2,b1,b2,nx1,nx2,ot1,ot2,i,j,tr,rfl,M1,M2,Y,hi,hj,J,hle,k1,k2,k⟩;refine⟨_,(Zf (Zp (Y3 ({}:Yi (Zk qX) _ ["one","other","pair"] "bits" [] []) (qi_zip (b1:=true) (b2:=true) U T.aca (Zg (Zv Z1 (Zv Z1 (qv 0) Ze) (Zv Z1 (qv 2) Ze)) (Zg (Zv Z1 (Zv Z1 (qv 1) Ze) (Zv Z1 (qv 2) Ze)) Zc))) (λ_ _ _ _=>XU) (λ_ _ _ _=>(Xh ku (Zv (show IxR _ (Zhd K)from Z1) (qv 0) Ze) (Zv (show IxR _ (Zhd K)from Z1) (qv 0) Ze) (Z7 _)))))),?_⟩;obtain⟨pn1,ps1,D,h1,_,_,R1⟩:=M1.ex;obtain⟨pn2,ps2,G,h2,_,_,R2⟩:=M2.ex;obtain⟨as1,a1,g1,g2,O⟩:=JE R1 hi;obtain⟨as2,a2,f1,f2,f3⟩:=JE R2 hj;generalize ot1.getD i []=C at *;generalize ot2.getD j []=F at *;refine⟨_,U,m1,_,3,_,U,U,SqT.of h1,U,_,U,c,_,0,_,U,U,SqT.of Y,U,D,_,_,_,U,U,SqT.of g1,g2,_,U,m2,_,3,_,U,U,SqT.of h2,U,_,U,c,_,1,_,U,U,SqT.of Y,U,G,_,_,_,U,U,SqT.of f1,f2,a1,a2,_,_,U,SqB.t O,SqB.t f3,?_⟩;refine Zid (xs:=C) (ys:=F) (λn zs H'=>n<=(C.zip F).length/\zs=(((C.zip F).take n).map λq=>!decide (q.1=q.2)).map V.bl/\ZD H H') ⟨Qbj _,U,ZD.refl H⟩ (λn zs H' ⟨hn,hz,_⟩=>?_) (λn zs H' ⟨_,_,s⟩=>⟨SqB.t (s _ _ O),SqB.t (s _ _ f3)⟩) (λn x y p zs H' R hR Z I ⟨hn,hz,s⟩ g=>?_) (λzs H' ⟨_,hz,s⟩ p g=>?_)
 .rw[hz,Qac,Qac,Qas,Qcu];exact Qax (Zu (by lia))
 .refine yesT ⟨_,U,p,_,0,_,U,U,SqT.of Zb,U,_,U,p,_,1,_,U,U,SqT.of Zb,U,ji (k1 _ (Qag Z)) (k2 _ (Qag I)),hR _ _ ⟨?_,?_,s.trans (Zd g)⟩⟩
  .grind
  .rw[hz,take_snoc (zip_at Z I),Qbd,Qbd];rfl
 .rw[Qbb]at hz;subst hz;exact k p _ (s.free g) (s.trans (Zd g)) Zb
inductive YH:Prop
 |mk(m:Au)(nm:Ai)(nx:Ad)(ot:Ax)(n:Nat)(kk:Nat->Nat):vs=[.ref m]->M4 H m nm 0 nx ot->Runs nx ot n->RgO nx kk->nx.length<=1000000->(∀r∈ot,∀x∈r,∃t,x=.bl t)->((∀(ls:Aj)(c:Nat),(∀x∈ls++[c],x<2^n)->mB ot (.bl true) (stN nx 0 ls) c=false)->∀H',ZD H H'->Q .non H')->(∀(w:Nat) H',1<=w->w<=nx.length->(∃(ls:Aj)(c:Nat),ls.length+1=w/\(∀x∈ls++[c],x<2^n)/\mB ot (.bl true) (stN nx 0 ls) c=true)->(∀(ls:Aj)(c:Nat),(∀x∈ls++[c],x<2^n)->mB ot (.bl true) (stN nx 0 ls) c=true->w<=ls.length+1)->ZD H H'->Q (.int w) H')->YH
def WX(K:Af):Sp:=λvs H Q _=>YH vs H Q
theorem WY:Y1 P w K mg base CX0 1 t.br t.bu ["machine"] (WX K):=by
 refine T.bw.go ZM ?_;rintro cdv A outer s H _ Q E hr ⟨m,nm,nx,ot,n,kk,rfl,M,R,G,hN,hbl,kN,kS⟩;have hu:=qL hr;refine⟨_,(Za (Z3 1 ZM.nd (gU (vo (Zv Z1 (qv 0) Ze) Ze gT) U U (λz=>nomatch z) (by decide)))
   (Za (Yh Qa4 U (vd U T.dt (Zv Z1 (qv 0) Ze)) (qO U (Y0 2 ZM.nd) (Y0 3 ZM.nd))
   (Za (ZF (Zr Ye Jo (qv 3) (by with_unfolding_all rfl))
   (Zf (Zp (WE hu (qv 1) (qv 2) (λ_ _=>U)))) Zw)
   (Zf (Yh Qa4 U (Xb (Zv Z1 (Zv Z1 (qv 0) Ze) (qv 2))) (Y0 4 ZM.nd)
   (Zf (ZE (ZP PySem.F.plainAttrs_dict PySem.F.slot_dict_setdefault PySem.F.type_dict_setdefault Zm2 (qv 1) (Zg (qv 4) (Zg (Zj YD (WE hu (qv 1) (qv 2) (λ_ _=>U)) Ze) Zc)))))))))
   (Zf (Zp yo)))),?_⟩
 try dsimp only[L2.cxK,L2.cxK2]
 obtain⟨pn,ps,po,h1,hpn,Rs,Ro⟩:=M.ex;refineλd hd=>?_;have sd:=Zd (o:=.dK []) hd;refine⟨_,U,m,_,1,_,U,U,SqT.of (sd _ _ h1),U,Zb,[(.inl (0:Int),.int 1)],U,by show 1<=15;decide,Zh ?_⟩;rw[zq];have s1:=Zd (o:=.dK (Jb [] [((.inl (0:Int):Key),V.int 1)])) hd;have hd1:upd H d (.dK (Jb [] [((.inl (0:Int):Key),V.int 1)])) d=some (.dK (dwK (dwN kk 0))):=Zb;generalize upd H d (.dK (Jb [] [((.inl (0:Int):Key),V.int 1)]))=H1 at *;obtain⟨as,ha,hal,hat⟩:=Ro;have hol:=R.ol;have okr:∀i c,i<nx.length->c<2^n->(mB ot (.bl true) i c=true↔(ot.getD i [])[c]?=some (.bl true)):=λi c hi Y=>by
  have l1:=R.or _ (getD_mem (show i<ot.length by lia));rw[getD_at (d:=V.non) (show c<(ot.getD i []).length by lia)];unfold mB;rw[Qb9];exact⟨λz=>by rw[z],λz=>Option.some.inj z⟩
 refine⟨_,U,m,_,3,_,U,U,SqT.of (s1 _ _ h1),U,po,as,U,SqT.of (s1 _ _ ha),ve (K:=K) (a:=po) (xs:=as) (j:=2) (k:=3) (λi σ H'=>∃(u2 u3 J:Option V),σ=[some (.ref m),some (.ref d),u2,u3,J]/\i<=nx.length/\H' d=some (.dK (dwK (dwN kk i)))/\(∀j,j<i->∀c,c<2^n->mB ot (.bl true) j c=false)/\ZD H H') ⟨none,none,none,U,Qbj _,hd1,(λj hj=>absurd hj (Qei _)),s1⟩ (λi σ H' _ ⟨_,_,_,_,_,_,_,s2⟩=>SqT.of (s2 _ _ ha)) ?_ ?_⟩
 .rintro i x σ H2 t hx ht ⟨u2,u3,J,rfl,hi,Z,C,s2⟩;have g:i<nx.length:=by have:=(Qah.mp hx).1;lia
  obtain⟨x0,hx0,hrow⟩:=hat i (ot.getD i []) (Zfz (by lia));rw[hx]at hx0;cases hx0;have st:=Zd (o:=.tup [.int i,.ref x0]) ht;have s3:=s2.trans st;have hd3:=st _ _ Z;have htd:t≠d:=(Zq Z ht).symm;generalize upd H2 t (.tup [.int i,.ref x0])=H3 at *;have lor:=R.or _ (getD_mem (show i<ot.length by lia));obtain⟨bs,D⟩:∃bs:List Bool,ot.getD i []=bs.map V.bl:=by
   have go:∀l:A0,(∀x∈l,∃t,x=.bl t)->∃bs:List Bool,l=bs.map V.bl:=by
    intro l
    induction l with
    |nil=>exactλ_=>⟨[],U⟩
    |cons x l ih=>
     intro h;obtain⟨b,rfl⟩:=h x Qam;obtain⟨bs,rfl⟩:=ih λy q=>h y (Qak _ q);exact⟨b::bs,U⟩
   exact go _ (hbl _ (getD_mem (by lia)))
  have lD:=xf G i (Qax g);have gi:=G.go i g;have vi:Yp (dwK (dwN kk i)) (.inl (i:Int))=some (.int (((dwN kk i).getD i 0:Nat):Int)):=by rw[jj,Qa9 (by lia)]
  refine⟨_,U,x0,ot.getD i [],U,.inr (SqT.of (s3 _ _ hrow)),U,by rw[D];exact Qc4.mpr (λx hx=>by obtain⟨b,_,rfl⟩:=Qa2.mp hx;rfl),_,U,?_⟩;show if inV (.bl true) (ot.getD i [])=true then _ else _;rw[D,Zgi];refine qG (λhb=>?_) (λhb=>?_)
  .obtain⟨c,Y⟩:=Qcp (Qba hb);have hc2:(ot.getD i [])[c]?=some (.bl true):=by rw[D,Qal,Y];rfl
   have O:c<2^n:=by have:=(Qah.mp hc2).1;lia
   obtain⟨w1,⟨ls,w2,w3,w4⟩,w5⟩:=uv G R.nr (ok:=mB ot (.bl true)) g O ((okr i c g O).mpr hc2) C;refine⟨_,U,_,U,d,_,U,.inl ⟨_,.inl (i:Int),.inl hd3,U,vi.symm⟩,kS _ H3 w1 (by have:=Zp2 G i (Qax g) i;lia) ⟨ls,c,w2,λy q=>?_,w4⟩ (λls' c' h1 h2=>w5 ls' c' (λy q=>h1 y (Qbs _ q)) (h1 c' (Qa1 _ (Qau.mpr U))) h2) s3⟩;rcases Qa7.mp q with z|z
   .exact w3 y z
   .rw[Qau.mp z];exact O
  .have hnr:∀c,c<2^n->mB ot (.bl true) i c=false:=λc Y=>by
    cases hm:mB ot (.bl true) i c with
    |false=>rfl
    |true=>
     have h2:=(okr i c g Y).mp hm;rw[D,Qal]at h2;obtain⟨b',h3,h4⟩:=Qbp.mp h2;cases h4;exact absurd (Qar (Qag h3)) hb
   obtain⟨as1,a1,r1,r2,r3⟩:=JE Rs (i:=i) (by rw[Qac];exact g);rw[qi]at r3;have lnr:=R.nr _ (getD_mem g);refine⟨_,U,m,_,2,_,U,U,SqT.of (s3 _ _ h1),U,_,U,ps,_,_,_,U,U,SqT.of (s3 _ _ r1),r2,a1,U,⟨_,SqT.of (s3 _ _ r3)⟩,W9 (K:=K) (a:=a1) (xs:=vD (nx.getD i [])) (λj σ H'=>∃(J:Option V)(k:Nat),σ=[some (.ref m),some (.ref d),some (.int i),some (.ref x0),J]/\((nx.getD i []).take j).foldl Y6 (List.range (kk i))=List.range k/\kk i<=k/\k<=nx.length/\H' d=some (.dK (dwK (dwN kk i++List.replicate (k-kk i) ((dwN kk i).getD i 0+1))))/\ZD H H') ⟨_,kk i,U,U,Qai _,G.le i (Qax g),by rw[Qd9,List.replicate_zero,Qbk];exact hd3,s3⟩ (λj σ H' _ ⟨_,_,_,_,_,_,_,s⟩=>SqT.of (s _ _ r3)) ?_ ?_⟩
   .rintro j y σ H4 q ⟨J,k,rfl,f1,f2,f3,I,s4⟩;unfold vD at q;rw[Qal]at q;obtain⟨tt,htt,rfl⟩:=Qbp.mp q;generalize hws:dwN kk i++List.replicate (k-kk i) ((dwN kk i).getD i 0+1)=ws at *;have wl:ws.length=k:=by rw[<-hws,Qaf,Qbh,lD];lia
    have wi:ws.getD i 0=(dwN kk i).getD i 0:=by rw[<-hws,Qat,Qa8 (by lia),Qat]
    have vi4:Yp (dwK ws) (.inl (i:Int))=some (.int (((dwN kk i).getD i 0:Nat):Int)):=by rw[jj,Qa9 (by lia),wi]
    refine Zh ⟨_,U,.inr (.inr (.inl ⟨U,.inl ⟨_,I⟩⟩)),_,U,_,U,_,U,d,_,U,.inl ⟨_,.inl (i:Int),.inl I,U,vi4.symm⟩,_,_,U,U,d,.inl (tt:Int),_,_,U,U,I,by rw[Znt,wl];exact Xe (by lia),?_,?_⟩
    .intro y q;rw[jj]at q;rcases G.more g htt f1 with⟨q1,q2⟩|⟨q1,q2⟩
     .exact⟨_,k,U,q2,f2,f3,by rw[hws];exact I,s4⟩
     .rw[Qa6 (by lia)]at q;cases q
    .intro q;rw[jj]at q;rcases G.more g htt f1 with⟨q1,q2⟩|⟨q1,q2⟩
     .rw[Qa9 (by lia)]at q;cases q
     .obtain⟨k',e1,e2,e3⟩:=G.part g (j+1);have ek:k'=k+1:=by
       rw[q2]at e1;have:=congrArg List.length e1;rw[Qa3,Qa3]at this;exact this.symm
      have:=G.le (i+1) g;refine⟨_,k+1,U,q2,by lia,by lia,?_,ZV s4 hd⟩;rw[Zb,q1,<-wl];show some (HO.dK (putK (dwK ws) (.inl (ws.length:Int)) (.int (((dwN kk i).getD i 0:Int)+1))))=_;rw[show(((dwN kk i).getD i 0:Nat):Int)+1=(((dwN kk i).getD i 0+1:Nat):Int)from U,Znu,wl,<-hws,Qcm,show k+1-kk i=(k-kk i)+1 by lia,Qf3]
   .rintro σ H4 ⟨J,k,rfl,f1,f2,f3,I,s4⟩;rw[show(vD (nx.getD i [])).length=(nx.getD i []).length from Qac _,Qbb,G.step g]at f1;have ek:kk (i+1)=k:=by
     have:=congrArg List.length f1;rw[Qa3,Qa3]at this;exact this
    refine⟨_,_,_,U,g,by rw[<-ek]at I;exact I,λj hj c Y=>?_,s4⟩
    by_cases e:j=i
    .rw[e];exact hnr c Y
    .exact C j (by lia) c Y
 .rintro σ H2 ⟨u2,u3,J,rfl,hi,Z,C,s2⟩;rw[hal,hol]at C;refine kN (λls c h=>?_) H2 s2;exact C _ (Zk9 R R.pos λx hx=>h x (Qbs _ hx)) c (h c (Qa1 _ (Qau.mpr U)))
inductive Gv:Prop
 |mk(a:Int):vs=[.int a]->Q (.bl true) H->Gv
def gc(K:Af):Sp:=λvs H Q _=>Gv vs H Q
theorem xA:Y1 P w K mg base CX0 1 t.rf t.rh ["found"] (gc K):=by
 refine T.bb.go wW ?_;rintro g A outer s H _ Q E q ⟨a,rfl,k⟩;refine⟨_,(Zf (Zp (Zaa (Zo YI (by rfl) T.ag ZL (Zg (qv 0) (Zg (Xz (v:=.ty "int") (by rfl) T.om kE U) Zc))) (kH (qe_not (Zo YI (by rfl) T.ag ZL (Zg (qv 0) (Zg (Xz (v:=.ty "bool") (by rfl) T.ace Zl7 U) Zc)))))))),?_⟩;exact⟨_,U,_,_,_,_,U,.int a,XG,true,U,YN ⟨_,U,_,_,_,_,U,.int a,kF,false,U,k⟩⟩
inductive Jh(K:Af):Prop
 |mk(a:Au)(ns:Ak)(j:Nat):vs=[.ref a,.int j]->SqL K H a (ns.map V.int)->(∀v:Int,Q (.int v) H)->Jh K
def yc(K:Af):Sp:=λvs H Q _=>Jh vs H Q K
theorem Gw:Y1 P w K mg base CX0 1 t.mq t.mr ["script","k"] (yc K):=by
 refine T.aj.go jS ?_;rintro C A outer s H _ Q E D ⟨a,ns,j,rfl,g,k⟩;refine⟨_,(Za (ZF (Zr kx (qv 1) (Zo Zt (by rfl) T.af ZR (Zg (qv 0) Zc)) (Z7 _))
   (Zf (Zp (Zv Z0 (qv 0) (qv 1)))) Zw)
   (Zf (Zp Ze))),?_⟩
 refine⟨_,U,_,U,a,_,U,.inl g,_,_,U,U,_,U,qG (λh=>?_) (λh=>?_)⟩
 .have q:j<ns.length:=by
   grind
  exact⟨_,U,_,U,a,_,_,_,U,U,g,Yb (by rw[Qal,Qad q];rfl),k _⟩
 .exact k 0
inductive Ji:Prop
 |mk(cell:Int)(many most:Nat):vs=[.int cell,.int many,.int most]->many<=1000->1<=most->most<=1000003->(∀p (ns:Ak) H',H p=none->H' p=some (.lst (ns.map V.int))->ns.length=many->(∀x∈ns,0<=x/\x<(most:Int))->ZD H H'->Q (.ref p) H')->Ji
def yd(K:Af):Sp:=λvs H Q _=>Ji vs H Q
theorem Wl:Y1 P w K mg base CX0 1 t.mw t.mx ["cell","many","most"] (yd K):=by
 refine T.aw.go ZK ?_;rintro cdv A outer s H _ Q E hr ⟨I,q,g,rfl,hmany,hm1,hm2,k⟩;refine⟨_,(Za (Z3 3 ZK.nd (Yx Zc))
   (Za (Z3 4 ZK.nd (Zo JR (by rfl) T.ij yu (Zg (qv 0) Zc)))
   (Za (ZF (Zr Zo2 (qv 4) (Zj Zjw Ze Ze) (Z7 _))
   (Za (Z3 4 ZK.nd (Zj WZ (qv 4) (Zj Zjw Ze Ze)))
   (Za (Yh Qa4 U (YF U T.aq (Zg (qv 1) Zc)) (Y0 5 ZK.nd)
   (Za (ZE (ZP Qaj Qap Qaq Z4 (qv 3) (Zg (Zj ZI (qv 4) (qv 2)) Zc)))
   (Zf (Z3 4 ZK.nd (Zj Yc (qv 4) (qv 2))))))
   (Zf (Zp (qv 3))))) Zw)
   (Za (Z3 6 ZK.nd (Zj ZI (Zj YD (Zj Wf (qv 0) Ze) Ze) Ze))
   (Za (Z3 7 ZK.nd (Zj ZI (Zj YD (Zj Wf (qv 0) Ze) Ze) Ze))
   (Za (Yh Qa4 U (YF U T.aq (Zg (qv 1) Zc)) (Y0 5 ZK.nd)
   (Za (Z3 6 ZK.nd (Zj ZI (Zj YD (Zj YD (Zj Wf (qv 6) Ze) (qv 7)) (qv 5)) Ze))
   (Za (Z3 7 ZK.nd (Zj ZI (Zj YD (Zj Wf (qv 7) (qv 7)) (qv 6)) Ze))
   (Zf (ZE (ZP Qaj Qap Qaq Z4 (qv 3) (Zg (Zj ZI (Zj Yc (Zj YD (qv 6) (qv 7)) Ze) (qv 2)) Zc)))))))
   (Zf (Zp (qv 3))))))))),?_⟩
 refine⟨by decide,λp Z=>?_⟩;refine⟨_,U,_,U,?_⟩;refine⟨_,U,_,_,U,U,⟨by decide,by decide,by decide⟩,_,_,U,U,_,U,qG (λ_=>?_) (λ_=>?_)⟩
 .refine⟨_,U,_,_,U,U,⟨by decide,by decide,by decide⟩,_,_,U,U,?_⟩;refine⟨_,U,(q:Int),U,by lia,by lia,XE (λi σ H2=>∃(r:Int)(u:Option V)(ns:Ak),σ=[some (.int I),some (.int q),some (.int g),some (.ref p),some (.int r),u,none,none]/\H2 p=some (.lst (ns.map V.int))/\ns.length=i/\(∀x∈ns,0<=x/\x<(g:Int))/\ZD H H2/\i<=q) ⟨_,none,[],U,Zb,U,(λ_ h=>nomatch h),Zd Z,Qbj _⟩ ?_ ?_⟩
  .rintro i σ H2 hi ⟨r,u,ns,rfl,h2,G,Y,O,J⟩;refine⟨_,U,.inl ⟨U,_,SqL.of h2⟩,_,U,_,U,_,_,U,U,(by lia),p,_,_,U,U,h2,?_,?_⟩
   .rw[Qac,G];exact Zu (by lia)
   .refine⟨_,U,_,U,_,_,U,U,.of (by lia) (by lia),_,_,ns++[r%g],U,?_,?_,?_,?_,hi⟩
    .rw[Zb,Qbd];rfl
    .rw[Qaf,G];rfl
    .exact Zax Y ⟨Qbe _ (by lia),Qa5 _ (by lia)⟩
    .exact ZV O Z
  .rintro σ H2 ⟨r,u,ns,rfl,h2,G,Y,O,J⟩;exact⟨_,U,k p ns H2 Z h2 G Y O⟩
 .refine⟨_,U,_,_,U,U,.inr (.inr ⟨by decide,by decide⟩),_,_,U,U,_,_,U,U,(by decide),?_⟩;refine⟨_,U,_,_,U,U,.inr (.inr ⟨by decide,by decide⟩),_,_,U,U,_,_,U,U,(by decide),?_⟩;refine⟨_,U,(q:Int),U,by lia,by lia,XE (λi σ H2=>∃(r one C:Int)(u:Option V)(ns:Ak),σ=[some (.int I),some (.int q),some (.int g),some (.ref p),some (.int r),u,some (.int one),some (.int C)]/\0<=one/\one<2147483629/\0<=C/\C<1000000007/\H2 p=some (.lst (ns.map V.int))/\ns.length=i/\(∀x∈ns,0<=x/\x<(g:Int))/\ZD H H2/\i<=q) ⟨_,_,_,none,[],U,Qbe _ (by decide),Qa5 _ (by decide),Qbe _ (by decide),Qa5 _ (by decide),Zb,U,(λ_ h=>nomatch h),Zd Z,Qbj _⟩ ?_ ?_⟩
  .rintro i σ H2 hi ⟨r,one,C,u,ns,rfl,o0,o1,t0,t1,h2,G,Y,O,J⟩;refine⟨_,U,_,_,U,U,.inr (.inr ⟨by decide,by decide⟩),_,U,_,_,U,U,_,U,_,_,U,U,_,_,U,U,(by decide),?_⟩;generalize h1e:(one*69069+C+(0+(i:Int)))%2147483629=D;have p0:0<=D:=by lia
   have p1:D<2147483629:=by lia
   refine⟨_,U,_,U,_,_,U,U,.inr (.inl ⟨by lia,by lia⟩),_,U,_,_,U,U,_,_,U,U,(by decide),?_⟩;generalize h2e:(C*C+D)%1000000007=F;have q0:0<=F:=by lia
   have q1:F<1000000007:=by lia
   refine⟨_,U,.inl ⟨U,_,SqL.of h2⟩,_,U,_,U,_,_,U,U,_,_,U,U,.of (by decide) (by decide),_,U,_,_,U,U,(by lia),p,_,_,U,U,h2,?_,?_⟩
   .rw[Qac,G];exact Zu (by lia)
   .refine⟨_,D,F,_,ns++[(D+F)/16%g],U,p0,p1,q0,q1,?_,?_,?_,?_,hi⟩
    .rw[Zb,Qbd];rfl
    .rw[Qaf,G];rfl
    .exact Zax Y ⟨Qbe _ (by lia),Qa5 _ (by lia)⟩
    .exact ZV O Z
  .rintro σ H2 ⟨r,one,C,u,ns,rfl,o0,o1,t0,t1,h2,G,Y,O,J⟩;exact⟨_,U,k p ns H2 Z h2 G Y O⟩
inductive qx:Prop
 |mk(n:Int)(tn:Au)(ys:Ai):vs=[.int n,.ref tn]->0<=n->H tn=some (.tup (ys.map V.str))->ys.length<=1000->(∀p w H',H p=none->H' p=some (.tup [w])->Zay ys w->ZD H H'->Q (.ref p) H')->qx
def j5(K:Af):Sp:=λvs H Q _=>qx vs H Q
theorem uJ:Y1 P w K mg base CX0 1 t.vl t.vr ["number","names"] (j5 K):=by
 refine T.aal.go uC ?_;rintro I A outer s H _ Q E hr ⟨n,q,ys,rfl,Z,C,hl,k⟩;refine⟨_,(Za (ZF (GL (kG (Zr kx (Zj ZI (qv 0) Ze) Ze (Z7 _)) (zx (Zr Zlu (Zo Zt (by rfl) T.af ZR (Zg (qv 1) Zc)) Ze (Z7 _)))))
   (Zf (Zp (Zs (Zg (Zv Z1 (qv 1) (Zj ZI (Zj Yc (qv 0) Ze) (Zo Zt (by rfl) T.af ZR (Zg (qv 1) Zc)))) Zc)))) Zw)
   (Za (ZF (Zr Yk (Zj ZI (qv 0) Ze) Ze (Z7 _))
   (Zf (Zp (Zs (Zg (Zj ZI (Zj Yc (qv 0) Ze) Ze) Zc)))) Zw)
   (Zf (Zp (Zs (Zg (Zj ZI (Zj Yc (qv 0) Ze) Ze) Zc)))))),?_⟩
 refine L2.let3 ?_;intro O D;have fin:∀z:Int,0<=z->z<1000->∀p,H p=none->Q (.ref p) (upd H p (.tup [.int z])):=λz J h1 p g=>k p _ _ g Zb (.inr ⟨z,U,J,h1⟩) (Zd g);have rest:D {nx:=λ_ H'=>Q .non H',rt:=Q} [some (.int n),some (.ref q)] H:=by
  refine⟨_,U,_,_,U,U,(by decide),U,_,U,qG (λ_=>?_) (λ_=>?_)⟩
  .refine⟨_,U,_,_,U,U,.of (by decide) (by decide),_,_,U,U,(by decide),Zbm,λp g=>?_⟩;exact fin _ (Qbe _ (by decide)) (by grind) p g
  .refine⟨_,U,_,_,U,U,.of (by decide) (by decide),_,_,U,U,(by decide),Zbm,λp g=>?_⟩;exact fin _ (Qbe _ (by decide)) (Qa5 _ (by decide)) p g
 refine⟨_,U,_,_,U,U,(by decide),_,_,U,U,_,U,qG (λ_=>?_) (λ_=>?_)⟩
 .refine⟨_,U,q,_,U,.inr (SqT.of C),_,_,U,U,_,U,qG (λY=>?_) (λ_=>rest)⟩;have hpos:0<ys.length:=by
   grind
  have g:(0:Int)<((ys.map V.str).length:Int):=by lia
  obtain⟨y,F,G⟩:=zh (ys:=ys) (i:=n/20%((ys.map V.str).length:Int)) (Qbe _ (by lia)) (by have:=Qa5 (n/20) g;rw[Qac]at this ⊢;exact this);exact⟨_,U,_,U,_,_,U,U,.of (by decide) (by decide),_,U,q,_,U,.inr (SqT.of C),_,_,U,U,g,q,_,_,_,U,U,SqT.of C,G,Zbm,λp g=>k p _ _ g Zb (.inl ⟨y,F,U⟩) (Zd g)⟩
 .exact Yu rest
inductive qy:Prop
 |mk(n l:Int):vs=[.int n,.int l]->0<=n->(∀(y:Str) H',(y = "" \/ y∈Gd)->(l=0->y∉Wk)->ZD H H'->Q (.str y) H')->qy
def uK(K:Af):Sp:=λvs H Q _=>qy vs H Q
def wdA:Ai:=["","","","","","","not","neg","twice","low","and","or","odd","add","sub"]
def wdB:Ai:=["add","sub","pick","pick","odd"]
def Zor:Ai:=["","","","","","","not","neg","twice","low","and","or","odd","add","sub","add","sub","pick","pick","odd"]
omit T TB in
theorem wrd_ok:∀y∈Zor,y = "" \/ y∈Gd:=by decide +kernel
theorem uL:Y1 P w K mg base CX0 1 t.wh t.aaa ["number","left"] (uK K):=by
 refine T.aam.go WV ?_;rintro cdv A outer s H _ Q E hr ⟨n,l,rfl,hn,k⟩;refine⟨_,(Za (Z3 2 WV.nd (Yx (Zg Zi (Zg Zi (Zg Zi (Zg Zi (Zg Zi (Zg Zi (Zg Zi (Zg Zi (Zg Zi (Zg Zi (Zg Zi (Zg Zi (Zg Zi (Zg Zi (Zg Zi Zc)))))))))))))))))
   (Za (Z3 2 WV.nd (Zj kB (qv 2) (Yx (Zg Zi (Zg Zi (Zg Zi (Zg Zi (Zg Zi Zc))))))))
   (Za (Z3 3 WV.nd (Zv Z0 (qv 2) (Zj ZI (qv 0) Ze)))
   (Za (ZF (GL (kG (Zr Yk (qv 1) Ze (Z7 _)) (zx (Zr Ye (qv 3) (Zs (Zg Zi (Zg Zi (Zg Zi Zc)))) (by with_unfolding_all rfl)))))
   (Zf (Zp Zi)) Zw)
   (Za (ZF (GL (kG (Zr Yk (qv 1) Ze (Z7 _)) (zx (Zr Ye (qv 3) (Zs (Zg Zi (Zg Zi Zc))) (by with_unfolding_all rfl)))))
   (Zf (Zp (Zv Z0 (Yx (Zg Zi (Zg Zi (Zg Zi Zc)))) (Zj ZI (Zj Yc (qv 0) Ze) Ze)))) Zw)
   (Zf (Zp (qv 3)))))))),?_⟩
 refine L2.let6 ?_;intro U5 U4 U3 U2 U1;have G:0<=n%20/\n%20<20:=⟨Qbe _ (by decide),Qa5 _ (by decide)⟩;refine⟨by decide,λZ hm1=>Zh ⟨_,U,by decide,λm2 O=>⟨Z,m2,_,_,U,U,Zd O _ _ Zb,Zb,by decide,λm hm=>Zh ?_⟩⟩⟩;have s1:ZD H (upd (upd (upd H Z (.lst (wdA.map V.str))) m2 (.lst (wdB.map V.str))) m (.lst (Zor.map V.str))):=(Zd (o:=.lst (wdA.map V.str)) hm1).trans ((Zd (o:=.lst (wdB.map V.str)) O).trans (Zd (o:=.lst (Zor.map V.str)) hm));have hm':upd (upd (upd H Z (.lst (wdA.map V.str))) m2 (.lst (wdB.map V.str))) m (.lst (Zor.map V.str)) m=some (.lst (Zor.map V.str)):=Zb;obtain⟨y,hy,ey⟩:=zh (ys:=Zor) (i:=n%20) G.1 G.2;have hyw:=wrd_ok y hy;refine⟨_,U,_,U,_,_,U,U,(by decide),m,_,_,_,U,U,SqL.of hm',ey,Zh ?_⟩;have C:∀(H2:Hp),ZD H H2->(l=0->y∉Wk)->U5 {nx:=λ_ H'=>Q .non H',rt:=Q} [some (.int n),some (.int l),some (.ref m),some (.str y)] H2:=λH2 Y h=>⟨_,U,k y H2 hyw h Y⟩;have r1:∀z:Str,z∈Wk↔(z∈(["neg","twice","low"]:Ai)\/z∈(["add","sub"]:Ai)):=λz=>by
  unfold Wk;simp only[Qaw,Qbq,Qet];constructor
  .rintro(h|h|h|h|h)<;>simp[h]
  .rintro((h|h|h)|(h|h))<;>simp[h]
 have F:∀(H2:Hp),ZD H H2->(l=0->y∉(["neg","twice","low"]:Ai))->U4 {nx:=λ_ H'=>Q .non H',rt:=Q} [some (.int n),some (.int l),some (.ref m),some (.str y)] H2:=λH2 Y h=>by
  refine⟨_,U,U,_,U,?_⟩
  by_cases D:l=0
  .rw[Qar (congrArg V.int D)];refine YN ⟨_,U,by decide,λq hq=>⟨q,_,U,.inr (SqT.of Zb),U,U,_,U,?_⟩⟩;show if inV (.str y) ((["add","sub"]:Ai).map V.str)=true then _ else _;rw[ZO];have I:=Y.trans (Zd (o:=.tup [.str "add",.str "sub"]) hq)
   by_cases h2:y∈(["add","sub"]:Ai)
   .rw[Qar h2];obtain⟨z,hz,ez⟩:=zh (ys:=["and","or","odd"]) (i:=n/20%3) (Qbe _ (by decide)) (Qa5 _ (by decide));refine YN ⟨by decide,λg hg=>⟨_,U,_,_,U,U,.of (by decide) (by decide),_,_,U,U,(by decide),g,_,_,_,U,U,SqL.of Zb,ez,?_⟩⟩;obtain⟨g1,g2⟩:=(by decide +kernel:∀z∈(["and","or","odd"]:Ai),z∈Gd/\z∉Wk) z hz;exact k z _ (.inr g1) (λ_=>g2) (I.trans (Zd hg))
   .rw[Qan h2];exact Yu (C _ I λJ z=>((r1 y).mp z).elim (h J) h2)
  .rw[Qan λz=>D (by injection z)];exact Yu (C _ Y λJ=>absurd J D)
 refine⟨_,U,U,_,U,?_⟩
 by_cases D:l=0
 .rw[Qar (congrArg V.int D)];refine YN ⟨_,U,by decide,λq hq=>⟨q,_,U,.inr (SqT.of Zb),U,U,_,U,?_⟩⟩;show if inV (.str y) ((["neg","twice","low"]:Ai).map V.str)=true then _ else _;rw[ZO];have I:=s1.trans (Zd (o:=.tup [.str "neg",.str "twice",.str "low"]) hq)
  by_cases h2:y∈(["neg","twice","low"]:Ai)
  .rw[Qar h2];exact YN (k "not" _ (.inr (by decide +kernel)) (λ_=>by decide +kernel) I)
  .rw[Qan h2];exact Yu (F _ I λ_=>h2)
 .rw[Qan λz=>D (by injection z)];exact Yu (F _ s1 λJ=>absurd J D)
inductive Jj:Prop
 |mk(p:Au)(ws:A0):vs=[.ref p]->H p=some (.lst ws)\/H p=some (.tup ws)->(∀w∈ws,(∃y,w=.str y)\/∃z,w=.int z)->ws.length<=100->(∀H',ZD H H'->Q (.int (ws.filter qg).length) H')->Jj
def ye(K:Af):Sp:=λvs H Q _=>Jj vs H Q
theorem Gx:Y1 P w K mg base CX0 1 t.my t.nc ["words"] (ye K):=by
 refine T.cb.go jT ?_;rintro cdv A outer s H _ Q E Z ⟨p,C,rfl,J,hw,hl,k⟩;refine⟨_,(Zf (Zp (Zo Zt (by rfl) T.af ZR (Zg (Y3 ({}:Yi (Zk WH) _ ["words"] "word" [] []) (QI.or (Xi (qv 0)) (Xb (qv 0))) (λ_ _ _ _=>(yr (Zr (show OpR _ (compareOp .In) (rIn K false)from Ye) (qv 0) (Zs (Zg Zi (Zg Zi (Zg Zi (Zg Zi (Zg Zi Zc)))))) (by with_unfolding_all rfl)))) (λ_ _ _ _=>(qv 0))) Zc)))),?_⟩;have O:∀x∈C,Wm x=true/\inV x ((["add","sub","neg","twice","low"]:Ai).map V.str)=qg x:=λx F=>by
  rcases hw x F with⟨y,rfl⟩|⟨z,rfl⟩
  .refine⟨U,?_⟩;rw[ZO];refine Qha.mpr ?_;unfold Wk;simp only[Qaw,Qbq,Qet];constructor
   .rintro(h|h|h|h|h)<;>simp[h]
   .rintro(h|h|h|h|h)<;>simp[h]
  .exact⟨U,vy z _⟩
 have fin:∀(zs:A0)(H1:Hp),zs=(C.take C.length).filter qg/\ZD H H1->∀q,H1 q=none->(tCB (λxs H Q=>∃p ys,xs=[V.ref p]/\(SqL K H p ys\/SqT K H p ys)/\Q (V.int ys.length) H) (λ_ H Q=>Q [.ref q] H)) [] (upd H1 q (.lst zs)) Q:=by
  rintro zs H1 ⟨rfl,Y⟩ q D;refine⟨q,_,U,.inl (SqL.of Zb),?_⟩;rw[Qbb];exact k _ (Y.trans (Zd D))
 have I:∀i,((C.take i).filter qg).length<=sizeLine:=λi=>Qax (Zu (Qaz (Qc6 _ _) (by rw[Qas];lia)));have G:∀(i:Nat)(x:V),C[i]?=some x->((C.take (i+1)).filter qg)=if qg x=true then(C.take i).filter qg++[x]else(C.take i).filter qg:=λi x F=>by
  rw[take_snoc F,Qc9,Qcy];split
  .rfl
  .rw[List.filter_nil,Qbk]
 rcases J with J|J
 .refine .inl ⟨_,U,p,U,⟨_,SqL.of J⟩,GP (K:=K) (a:=p) (xs:=C) (λi zs H'=>zs=(C.take i).filter qg/\ZD H H') ⟨U,ZD.refl _⟩ (λi zs H' h=>by rw[h.1];exact I i) (λi zs H' h=>SqL.of (h.2 _ _ J)) (λi x zs H1 R hR F h=>?_) (λzs H1 h q D=>fin zs H1 h q D)⟩;obtain⟨rfl,Y⟩:=h;obtain⟨f1,f2⟩:=O x (Qag F);refine⟨_,U,by decide,λq D=>⟨q,_,U,.inr (SqT.of Zb),f1,U,_,U,?_⟩⟩;show if inV x ((["add","sub","neg","twice","low"]:Ai).map V.str)=true then _ else _;rw[f2];have s2:=Y.trans (Zd (o:=.tup [.str "add",.str "sub",.str "neg",.str "twice",.str "low"]) D);have g:=G i x F
  by_cases Z:qg x=true
  .rw[Qa9 Z]at g ⊢;exact⟨_,U,hR _ _ ⟨g.symm,s2⟩⟩
  .grind
 .refine .inr ⟨_,U,p,U,⟨_,SqT.of J⟩,JV (K:=K) (a:=p) (xs:=C) (λi zs H'=>zs=(C.take i).filter qg/\ZD H H') ⟨U,ZD.refl _⟩ (λi zs H' h=>by rw[h.1];exact I i) (λi zs H' h=>SqT.of (h.2 _ _ J)) (λi x zs H1 R hR F h=>?_) (λzs H1 h q D=>fin zs H1 h q D)⟩;obtain⟨rfl,Y⟩:=h;obtain⟨f1,f2⟩:=O x (Qag F);refine⟨_,U,by decide,λq D=>⟨q,_,U,.inr (SqT.of Zb),f1,U,_,U,?_⟩⟩;show if inV x ((["add","sub","neg","twice","low"]:Ai).map V.str)=true then _ else _;rw[f2];have s2:=Y.trans (Zd (o:=.tup [.str "add",.str "sub",.str "neg",.str "twice",.str "low"]) D);have g:=G i x F
  by_cases Z:qg x=true
  .rw[Qa9 Z]at g ⊢;exact⟨_,U,hR _ _ ⟨g.symm,s2⟩⟩
  .grind
inductive xB:Prop
 |mk(y:Str)(a:Int):vs=[.str y,.int a]->Q (.int (Zqc y a)) H->xB
def Zct(K:Af):Sp:=λvs H Q _=>xB vs H Q
theorem Zcu:Y1 P w K mg base CX0 1 t.aaw t.aax ["word","one"] (Zct K):=by
 refine T.abj.go Zco ?_;rintro q A outer s H _ Q E C ⟨y,a,rfl,k⟩;refine⟨_,(Za (ZF (Zr Yk (qv 0) Zi (Z7 _))
   (Zf (Zp (Zj WZ (XH X3 Ze) (qv 1)))) Zw)
   (Za (ZF (Zr Yk (qv 0) Zi (Z7 _))
   (Zf (Zp (XH X3 (qv 1)))) Zw)
   (Za (ZF (Zr Yk (qv 0) Zi (Z7 _))
   (Zf (Zp (Zj Wf Ze (qv 1)))) Zw)
   (Zf (Zp (Zj Xa (qv 1) (XH X3 (qv 1)))))))),?_⟩
 unfold Zqc at k;refine⟨_,U,U,_,U,?_⟩
 by_cases h1:y = "not"
 .rw[Qar (congrArg V.str h1)];rw[Qa9 h1,show Builtin.bitNot a=-1-a by unfold Builtin.bitNot;lia]at k;exact YN ⟨1,U,_,U,_,_,U,U,k⟩
 rw[Qan (λz=>h1 (by injection z))];rw[Qa6 h1]at k;refine Yu ⟨_,U,U,_,U,?_⟩
 by_cases h2:y = "neg"
 .rw[Qar (congrArg V.str h2)];rw[Qa9 h2]at k;exact YN ⟨_,U,_,U,k⟩
 rw[Qan (λz=>h2 (by injection z))];rw[Qa6 h2]at k;refine Yu ⟨_,U,U,_,U,?_⟩
 by_cases g:y = "twice"
 .rw[Qar (congrArg V.str g)];rw[Qa9 g,show a+a=2*a by lia]at k;exact YN ⟨_,U,_,_,U,U,.inr (.inl ⟨by decide,by decide⟩),k⟩
 rw[Qan (λz=>g (by injection z))];rw[Qa6 g]at k;exact Yu ⟨_,U,_,U,_,U,_,_,U,U,k⟩
inductive xC:Prop
 |mk(y:Str)(a b:Int):vs=[.str y,.int a,.int b]->Q (.int (Zqd y a b)) H->xC
def Zcv(K:Af):Sp:=λvs H Q _=>xC vs H Q
theorem Zcw:Y1 P w K mg base CX0 1 t.aay t.aaz ["word","one","other"] (Zcv K):=by
 refine T.abk.go Zcp ?_;rintro C A outer s H _ Q E D ⟨y,a,b,rfl,k⟩;refine⟨_,(Za (ZF (Zr Yk (qv 0) Zi (Z7 _))
   (Zf (Zp (Zj Xa (qv 1) (qv 2)))) Zw)
   (Za (ZF (Zr Yk (qv 0) Zi (Z7 _))
   (Zf (Zp (Zj jH (qv 1) (qv 2)))) Zw)
   (Za (ZF (Zr Yk (qv 0) Zi (Z7 _))
   (Zf (Zp (Zj zt (qv 1) (qv 2)))) Zw)
   (Za (ZF (Zr Yk (qv 0) Zi (Z7 _))
   (Zf (Zp (Zj YD (qv 1) (qv 2)))) Zw)
   (Zf (Zp (Zj WZ (qv 1) (qv 2)))))))),?_⟩
 unfold Zqd at k;refine⟨_,U,U,_,U,?_⟩
 by_cases h1:y = "and"
 .rw[Qar (congrArg V.str h1)];rw[Qa9 h1]at k;exact YN ⟨_,U,_,U,_,_,U,U,k⟩
 rw[Qan (λz=>h1 (by injection z))];rw[Qa6 h1]at k;refine Yu ⟨_,U,U,_,U,?_⟩
 by_cases h2:y = "or"
 .rw[Qar (congrArg V.str h2)];rw[Qa9 h2]at k;exact YN ⟨_,U,_,U,_,_,U,U,k⟩
 rw[Qan (λz=>h2 (by injection z))];rw[Qa6 h2]at k;refine Yu ⟨_,U,U,_,U,?_⟩
 by_cases q:y = "odd"
 .rw[Qar (congrArg V.str q)];rw[Qa9 q]at k;exact YN ⟨_,U,_,U,_,_,U,U,k⟩
 rw[Qan (λz=>q (by injection z))];rw[Qa6 q]at k;refine Yu ⟨_,U,U,_,U,?_⟩
 by_cases g:y = "add"
 .rw[Qar (congrArg V.str g)];rw[Qa9 g]at k;exact YN ⟨_,U,_,U,_,_,U,U,k⟩
 rw[Qan (λz=>g (by injection z))];rw[Qa6 g]at k;exact Yu ⟨_,U,_,U,_,_,U,U,k⟩
inductive Wv:Prop
 |mk(pick:Int)(a b c:Au)(P X R:A0):vs=[.int pick,.ref a,.ref b,.ref c]->H a=some (.tup P)->H b=some (.tup X)->H c=some (.tup R)->P.length<=7->X.length<=7->R.length<=7->(∀p u v (w:Tr×Tr) H',w∈Zoq->H' p=some (.tup [.ref u,.ref v])->H' u=some (.tup (w.1.flat P X R))->H' v=some (.tup (w.2.flat P X R))->ZD H H'->Q (.ref p) H')->Wv
def j6(K:Af):Sp:=λvs H Q _=>Wv vs H Q
theorem j7:Y1 P w K mg base CX0 1 t.ip t.iq ["pick","p","q","r"] (j6 K):=by
 refine T.lh.go JI ?_;rintro cdv A outer s H _ Q E hr ⟨C,a,b,c,P,X,R,rfl,ha,hb,hc,Z,lX,lR,k⟩;refine⟨_,(Za (Z3 4 JI.nd (Yx (Zg (Zs (Zg (Zj Zn (Zj Zn (Zs (Zg Zi Zc)) (qv 1)) (qv 2)) (Zg (Zj Zn (Zj Zn (Zj Zn (Zj Zn (Zj Zn (Zs (Zg Zi (Zg Zi Zc))) (qv 1)) (qv 2)) (Zs (Zg Zi Zc))) (qv 1)) (qv 2)) Zc))) Zc)))
   (Za (ZE (ZP Qaj Qap Qaq Z4 (qv 4) (Zg (Zs (Zg (Zj Zn (Zj Zn (Zs (Zg Zi Zc)) (qv 1)) (qv 2)) (Zg (Zj Zn (Zj Zn (Zs (Zg Zi Zc)) (qv 2)) (qv 1)) Zc))) Zc)))
   (Za (ZE (ZP Qaj Qap Qaq Z4 (qv 4) (Zg (Zs (Zg (Zj Zn (Zj Zn (Zs (Zg Zi Zc)) (qv 1)) (qv 2)) (Zg (Zj Zn (Zj Zn (Zj Zn (Zs (Zg Zi Zc)) (qv 1)) (Zs (Zg Zi Zc))) (qv 2)) Zc))) Zc)))
   (Za (ZE (ZP Qaj Qap Qaq Z4 (qv 4) (Zg (Zs (Zg (Zj Zn (Zj Zn (Zs (Zg Zi Zc)) (qv 1)) (qv 2)) (Zg (Zj Zn (Zj Zn (Zj Zn (Zj Zn (Zj Zn (Zs (Zg Zi (Zg Zi Zc))) (qv 1)) (qv 2)) (Zs (Zg Zi Zc))) (qv 1)) (qv 2)) Zc))) Zc)))
   (Za (ZE (ZP Qaj Qap Qaq Z4 (qv 4) (Zg (Zs (Zg (Zj Zn (Zs (Zg Zi Zc)) (qv 1)) (Zg (Zj Zn (Zj Zn (Zs (Zg Zi (Zg Zi Zc))) (qv 1)) (Zs (Zg Ze Zc))) Zc))) Zc)))
   (Za (ZE (ZP Qaj Qap Qaq Z4 (qv 4) (Zg (Zs (Zg (Zj Zn (Zs (Zg Zi Zc)) (qv 1)) (Zg (Zj Zn (Zj Zn (Zs (Zg Zi Zc)) (qv 1)) (qv 1)) Zc))) Zc)))
   (Za (ZE (ZP Qaj Qap Qaq Z4 (qv 4) (Zg (Zs (Zg (Zj Zn (Zs (Zg Zi Zc)) (qv 1)) (Zg (Zj Zn (Zj Zn (Zj Zn (Zs (Zg Zi Zc)) (qv 1)) (Zs (Zg Zi Zc))) (qv 1)) Zc))) Zc)))
   (Za (ZE (ZP Qaj Qap Qaq Z4 (qv 4) (Zg (Zs (Zg (Zj Zn (Zj Zn (Zj Zn (Zs (Zg Zi Zc)) (qv 1)) (qv 2)) (qv 3)) (Zg (Zj Zn (Zj Zn (Zj Zn (Zj Zn (Zj Zn (Zj Zn (Zs (Zg Zi Zc)) (qv 3)) (Zs (Zg Zi Zc))) (qv 1)) (Zs (Zg Zi Zc))) (qv 2)) (qv 3)) Zc))) Zc)))
   (Za (ZE (ZP Qaj Qap Qaq Z4 (qv 4) (Zg (Zs (Zg (Zj Zn (Zj Zn (Zs (Zg Zi (Zg Zi Zc))) (qv 1)) (qv 2)) (Zg (Zj Zn (Zj Zn (Zj Zn (Zs (Zg Zi (Zg Zi Zc))) (qv 1)) (Zs (Zg Zi Zc))) (qv 2)) Zc))) Zc)))
   (Za (ZE (ZP Qaj Qap Qaq Z4 (qv 4) (Zg (Zs (Zg (Zj Zn (Zj Zn (Zs (Zg Zi Zc)) (qv 1)) (qv 2)) (Zg (Zj Zn (Zj Zn (Zj Zn (Zj Zn (Zj Zn (Zs (Zg Zi (Zg Zi Zc))) (qv 1)) (qv 2)) (Zs (Zg Zi (Zg Zi Zc)))) (qv 1)) (qv 2)) Zc))) Zc)))
   (Za (ZE (ZP Qaj Qap Qaq Z4 (qv 4) (Zg (Zs (Zg (Zj Zn (Zj Zn (Zs (Zg Zi Zc)) (qv 1)) (qv 2)) (Zg (Zj Zn (Zj Zn (Zs (Zg Zi (Zg Zi (Zg Zi Zc)))) (qv 1)) (qv 2)) Zc))) Zc)))
   (Za (ZE (ZP Qaj Qap Qaq Z4 (qv 4) (Zg (Zs (Zg (Zj Zn (Zj Zn (Zs (Zg Zi Zc)) (qv 1)) (qv 2)) (Zg (Zj Zn (Zj Zn (Zj Zn (Zs (Zg Zi (Zg Zi (Zg Zi Zc)))) (qv 1)) (Zs (Zg Zi Zc))) (qv 2)) Zc))) Zc)))
   (Za (ZE (ZP Qaj Qap Qaq Z4 (qv 4) (Zg (Zs (Zg (qv 1) (Zg (Zj Zn (Zs (Zg Zi (Zg Zi Zc))) (qv 1)) Zc))) Zc)))
   (Za (ZE (ZP Qaj Qap Qaq Z4 (qv 4) (Zg (Zs (Zg (Zj Zn (Zj Zn (Zs (Zg Zi Zc)) (qv 1)) (qv 2)) (Zg (Zj Zn (Zj Zn (Zj Zn (Zj Zn (Zj Zn (Zs (Zg Zi (Zg Zi Zc))) (qv 1)) (qv 2)) (Zs (Zg Zi Zc))) (qv 1)) (qv 2)) Zc))) Zc)))
   (Za (ZE (ZP Qaj Qap Qaq Z4 (qv 4) (Zg (Zs (Zg (Zj Zn (Zj Zn (Zs (Zg Zi Zc)) (qv 1)) (qv 1)) (Zg (Zs (Zg Ze Zc)) Zc))) Zc)))
   (Za (ZE (ZP Qaj Qap Qaq Z4 (qv 4) (Zg (Zs (Zg (qv 1) (Zg (Zj Zn (Zj Zn (Zj Zn (Zj Zn (Zs (Zg Zi Zc)) (qv 2)) (Zs (Zg Zi Zc))) (qv 1)) (qv 2)) Zc))) Zc)))
   (Zf (Zp (Zv Z0 (qv 4) (Zj ZI (qv 0) Ze)))))))))))))))))))),?_⟩
 try dsimp only[L2.cxK,L2.cxK2]
 show Yt (Zhm (Zp8 _) (GH 4)) _ _ [some (.int C),some (.ref a),some (.ref b),some (.ref c),none] H;have p':Gives (yT 1) [some (.int C),some (.ref a),some (.ref b),some (.ref c),none] H P 7:=jo U ha Z;have q':Gives (yT 2) [some (.int C),some (.ref a),some (.ref b),some (.ref c),none] H X 7:=jo U hb lX;refine asg_go (Zn4 λps H1 h0 hz=>Zh ?_);show Yt (Zde _) _ _ [some (.int C),some (.ref a),some (.ref b),some (.ref c),some (.ref ps)] H1;have p:Gives (yT 1) [some (.int C),some (.ref a),some (.ref b),some (.ref c),some (.ref ps)] H P 7:=jo U ha Z;have q:Gives (yT 2) [some (.int C),some (.ref a),some (.ref b),some (.ref c),some (.ref ps)] H X 7:=jo U hb lX;have r:Gives (yT 3) [some (.int C),some (.ref a),some (.ref b),some (.ref c),some (.ref ps)] H R 7:=jo U hc lR;have O:([some (.int C),some (.ref a),some (.ref b),some (.ref c),some (.ref ps)]:L2.St)[4]?=some (some (.ref ps)):=rfl
 iterate 15 refine seq_go (Zn3 O h0 hz λF hz=>?_)
 obtain⟨G,Y,I,_,J⟩:=hz;have PW:Prw F G (Zoq.map λw=>(w.1.flat P X R,w.2.flat P X R)):=by
  simpa[Zoq,Tr.flat]using I
 have b16:0<=C%16/\C%16<16:=⟨Qbe _ (by decide),Qa5 _ (by decide)⟩;obtain⟨j,hj⟩:∃j:Nat,C%16=(j:Int):=⟨(C%16).toNat,by lia⟩;have D:j<Zoq.length:=by show j<16;lia
 obtain⟨tt,u,v,g1,g2,g3,g4⟩:=PW.g j _ (by rw[Qal,Qad D];rfl);exact⟨_,U,_,U,_,_,U,U,(by show(0:Int)<16;decide),ps,_,_,_,U,U,SqL.of Y,by rw[hj];exact Yb g1,k tt u v Zoq[j] F (Qck D) g2 g3 g4 J⟩
inductive JN:Prop
 |mk(n:Int)(a c:Au)(nm:Ai)(ws R:A0):vs=[.int n,.ref a,.ref c]->H a=some (.tup ws)->H c=some (.tup R)->(∀y∈nm,y∉YA)->Wp nm ws 20 4->Wp nm R 1 0->(∀p us H',Wp nm us 22 5->H' p=some (.tup us)->ZD H H'->Q (.ref p) H')->JN
def kh(K:Af):Sp:=λvs H Q _=>JN vs H Q
theorem ki:Y1 P w K mg base CX0 1 t.ox t.oy ["number","words","r"] (kh K):=by
 refine T.cy.go vX ?_;rintro Z A outer s H _ Q E hr ⟨n,a,c,nm,I,R,rfl,Y,J,C,W,D,k⟩;refine⟨_,(Za (ZF (Zr Yk (Zj ZI (qv 0) Ze) Ze (Z7 _))
   (Zf (Zp (Zj Zn (Zs (Zg Zi Zc)) (qv 1)))) Zw)
   (Za (ZF (Zr Yk (Zj ZI (qv 0) Ze) Ze (Z7 _))
   (Zf (Zp (Zj Zn (Zj Zn (Zs (Zg Zi Zc)) (qv 1)) (qv 2)))) Zw)
   (Za (ZF (Zr Yk (Zj ZI (qv 0) Ze) Ze (Z7 _))
   (Zf (Zp (Zj Zn (Zj Zn (Zs (Zg Zi Zc)) (qv 2)) (qv 1)))) Zw)
   (Za (ZF (Zr Yk (Zj ZI (qv 0) Ze) Ze (Z7 _))
   (Zf (Zp (Zj Zn (Zj Zn (Zs (Zg Zi Zc)) (qv 1)) (qv 2)))) Zw)
   (Za (ZF (Zr Yk (Zj ZI (qv 0) Ze) Ze (Z7 _))
   (Zf (Zp (Zj Zn (Zs (Zg Zi Zc)) (qv 1)))) Zw)
   (Za (ZF (Zr Yk (Zj ZI (qv 0) Ze) Ze (Z7 _))
   (Zf (Zp (Zj Zn (Zj Zn (Zs (Zg Zi Zc)) (qv 2)) (qv 1)))) Zw)
   (Zf (Zp (qv 1))))))))),?_⟩
 have w:Gives (yT 1) [some (.int n),some (.ref a),some (.ref c)] H I 20:=jo U Y W.ln;have r:Gives (yT 2) [some (.int n),some (.ref a),some (.ref c)] H R 1:=jo U J D.ln;have q:∀v,Gives (Zoj (qJ (tC v) Zhb)) [some (.int n),some (.ref a),some (.ref c)] H [v] 1:=λv=>wQ 1 (λ_ _ h=>h) (Qai _) (by decide);have ret:∀{te:TE} {F:A0} {m x y:Nat},Gives te [some (.int n),some (.ref a),some (.ref c)] H F m->Wp nm F x y->x<=22->y<=5->te [some (.int n),some (.ref a),some (.ref c)] H Q:=λg z O G=>g.g H _ (ZD.refl _) λp H' s h=>k p _ H' ⟨z.wd,z.en,z.st,Qaz z.ln O,Qaz z.rm G⟩ h s;refine⟨_,U,_,_,U,U,(by decide),U,_,U,qG (λ_=>ret (XY (q _) w) (Wp.word C (n:=1) (by decide +kernel) W.of) (by decide +kernel) (by decide +kernel)) λ_=>?_⟩;refine⟨_,U,_,_,U,U,(by decide),U,_,U,qG (λ_=>ret (XY (XY (q _) w) r) (Wp.word C (n:=2) (by decide +kernel) (Wp.app W.of D.of)) (by decide +kernel) (by decide +kernel)) λ_=>?_⟩;refine⟨_,U,_,_,U,U,(by decide),U,_,U,qG (λ_=>ret (XY (XY (q _) r) w) (Wp.word C (n:=2) (by decide +kernel) (Wp.app D.of W.of)) (by decide +kernel) (by decide +kernel)) λ_=>?_⟩;refine⟨_,U,_,_,U,U,(by decide),U,_,U,qG (λ_=>ret (XY (XY (q _) w) r) (Wp.word C (n:=2) (by decide +kernel) (Wp.app W.of D.of)) (by decide +kernel) (by decide +kernel)) λ_=>?_⟩;refine⟨_,U,_,_,U,U,(by decide),U,_,U,qG (λ_=>ret (XY (q _) w) (Wp.word C (n:=1) (by decide +kernel) W.of) (by decide +kernel) (by decide +kernel)) λ_=>?_⟩;refine⟨_,U,_,_,U,U,(by decide),U,_,U,qG (λ_=>ret (XY (XY (q _) r) w) (Wp.word C (n:=2) (by decide +kernel) (Wp.app D.of W.of)) (by decide +kernel) (by decide +kernel)) λ_=>?_⟩;exact ret w W (by decide) (by decide)
inductive Ww:Prop
 |mk(tw tn:Au)(ws:A0)(ys:Ai):vs=[.ref tw,.ref tn]->H tw=some (.tup ws)->(∀w∈ws,w9 w)->H tn=some (.tup (ys.map V.str))->ys.length<=3->(∀p H',H' p=some (.tup ((nmF ys ws).map V.str))->ZD H H'->Q (.ref p) H')->Ww
def j8(K:Af):Sp:=λvs H Q _=>Ww vs H Q
theorem j9:Y1 P w K mg base CX0 1 t.ir t.iu ["words","names"] (j8 K):=by
 refine T.lj.go jv ?_;rintro Y A outer s H _ Q E hr ⟨tw,I,q,ys,rfl,hw,D,F,h3,k⟩;refine⟨_,(Zf (Zp (ZG Z9 (by rfl) T.ah ZU (Zg (Y3 ({}:Yi (Zk Wi) _ ["words","names"] "name" ["words"] [0]) (Xb (qv 1)) (λ_ _ _ _=>(yr (Zr (show OpR _ (compareOp .In) (rIn K false)from Ye) (qv 0) (qv 1) (by with_unfolding_all rfl)))) (λ_ _ _ _=>(qv 0))) Zc)))),?_⟩;have Z:q.all Wm=true:=Qc4.mpr λw h=>by
  rcases D w h with⟨y,rfl,_⟩|⟨z,rfl⟩<;>rfl
 refine⟨_,U,I,U,⟨_,SqT.of F⟩,zB (xs:=ys.map V.str) (λx=>inV x q) ZD ZD.refl (λ_ _ _ x y=>x.trans y) (λH1 g=>SqT.of (g _ _ F)) (by rw[Qac];exact Qax (Zu (by lia))) (λx G H1 g R hR=>?_) (λx G H1 R hR=>⟨_,U,hR⟩) (λH1 l g C=>?_)⟩
 .obtain⟨y,_,rfl⟩:=Qa2.mp G;exact⟨_,U,_,U,tw,q,U,.inr (SqT.of (g _ _ hw)),U,Z,_,U,hR H1 (ZD.refl H1)⟩
 have J:=g.trans (Zd (o:=.lst ((ys.map V.str).filter λx=>inV x q)) C);exact⟨l,_,U,.inl ⟨SqL.of Zb,λp O=>k p _ (by rw[Zb,List.filter_map];rfl) (J.trans (Zd O))⟩⟩
inductive Wd:Prop
 |mk(pn:Au)(nm:Ai)(W:Nat):vs=[.ref pn,.int W]->H pn=some (.tup (nm.map V.str))->nm.Nodup->nm.length<=3->W<=60->(2^W)^nm.length<=10000->(∀p H',qp H' p nm (rws (2^W) nm.length)->ZD H H'->Q (.ref p) H')->Wd
def xX(K:Af):Sp:=λvs H Q _=>Wd vs H Q
theorem xY:Y1 P w K mg base CX0 1 t.fj t.fk ["names","width"] (xX K):=by
 refine T.ig.go ZN ?_;rintro cdv A outer s H _ Q E hr ⟨pn,nm,W,rfl,J,G,hn3,hW,q,k⟩;have hu:=qL hr;refine⟨_,(Za (Z3 2 ZN.nd (Yx (Zg qP Zc)))
   (Za (Yh Qa4 U (Xb (qv 0)) (Y0 3 ZN.nd)
   (Za (Z3 4 ZN.nd (Yx Zc))
   (Za (Yh Qa4 U (Xi (qv 2)) (Y0 5 ZN.nd)
   (Zf (Yh Qa4 U (YF U T.aq (Zg (Zj uY Ze (qv 1)) Zc)) (Y0 6 ZN.nd)
   (Za (Z3 7 ZN.nd (ZG Zbw (by rfl) T.abr Zeo (Zg (qv 5) Zc)))
   (Za (Jw hu (qv 7) (qv 3) (qv 6) U)
   (Zf (ZE (ZP Qaj Qap Qaq Z4 (qv 4) (Zg (qv 7) Zc)))))))))
   (Zf (Z3 2 ZN.nd (qv 4))))))
   (Zf (Zp (qv 2))))),?_⟩
 try dsimp only[L2.cxK,L2.cxK2]
 obtain⟨m,hm⟩:∃m:Nat,2^W=m:=⟨_,U⟩;have em:(2:Int)^W=(m:Int):=by rw[<-hm,Qfk];rfl
 have hm1:1<=m:=by rw[<-hm];exact Qhf _
 rw[hm]at q k;refineλd hd=>⟨Zbm,λfo hfo=>Zh ?_⟩;have s1:=(Zd (o:=.dK []) hd).trans (Zd (o:=.lst [V.ref d]) hfo);have D1:qp (upd (upd H d (.dK [])) fo (.lst [V.ref d])) fo (nm.take 0) (rws m 0):=by
  refine⟨[d],Zb,U,λi d' v h1 h2=>?_⟩;cases i with
  |zero=>
   cases h1;cases h2;exact Zd hfo _ _ Zb
  |succ i=>cases h1
 generalize upd (upd H d (.dK [])) fo (.lst [V.ref d])=H1 at *;refine⟨_,U,pn,U,⟨_,SqT.of (s1 _ _ J)⟩,W9 (K:=K) (a:=pn) (xs:=nm.map V.str) (λi σ H'=>∃(fo:Au)(u3 u4 F C D:Option V),σ=[some (.ref pn),some (.int W),some (.ref fo),u3,u4,F,C,D]/\i<=nm.length/\qp H' fo (nm.take i) (rws m i)/\ZD H H') ⟨fo,none,none,none,none,none,U,Qbj _,D1,s1⟩ (λi σ H' _ ⟨_,_,_,_,_,_,_,_,_,s⟩=>SqT.of (s _ _ J)) ?_ ?_⟩
 .rintro i x σ H2 hx ⟨fo,u3,u4,F,C,D,rfl,hi0,D2,s2⟩;obtain⟨y,rfl,hy⟩:=JD hx;have hil:i<nm.length:=(Qah.mp hy).1;have hyn:y∉nm.take i:=λh=>by
   obtain⟨j,hj⟩:=Qea.mp h;rw[Qeu]at hj;split at hj
   .rename_i hlt;have e1:=Ws G hj;have e2:=Ws G hy;lia
   .cases hj
  have etk:nm.take (i+1)=nm.take i++[y]:=take_snoc hy;have ltk:(nm.take i).length=i:=by rw[Qas];lia
  have hb1:m^i*m<=10000:=by
   rw[<-Nat.pow_succ];exact Qaz (Qcq hm1 hil) q
  refine Zh ⟨Zjo,λwi O=>Zh ?_⟩;have s3:=Zd (o:=.lst []) O;obtain⟨ds,d1,d2,d3⟩:=D2;have W3:qp (upd H2 wi (.lst [])) wi (nm.take (i+1)) []:=⟨[],Zb,U,λi d v h1 _=>by cases h1⟩;generalize upd H2 wi (.lst [])=H3 at *;refine⟨_,U,fo,U,⟨_,SqL.of (s3 _ _ d1)⟩,JQ (K:=K) (a:=fo) (xs:=ds.map V.ref) (λj σ H'=>∃(F C D:Option V),σ=[some (.ref pn),some (.int W),some (.ref fo),some (.str y),some (.ref wi),F,C,D]/\j<=ds.length/\qp H' wi (nm.take (i+1)) (((rws m i).take j).flatMap λvs=>(List.range m).map λw=>vs++[w])/\ZD H2 H') ⟨F,C,D,U,Qbj _,W3,s3⟩ (λj σ H' _ ⟨_,_,_,_,_,_,s⟩=>SqL.of (s _ _ d1)) ?_ ?_⟩
  .rintro j x σ H4 hx ⟨v5,v6,v7,rfl,hj0,W4,s4⟩;rw[Qal]at hx;obtain⟨dv,hdv,rfl⟩:=Qbp.mp hx;have Y:j<ds.length:=(Qah.mp hdv).1;have g:j<(rws m i).length:=by rw[<-d2];exact Y
   have I:=Qad g;have hvl:=(vT (Qck g)).1;have hkv:=d3 j dv _ hdv I;generalize (rws m i)[j]=vs at *;have efm:((rws m i).take (j+1)).flatMap (λvs=>(List.range m).map λw=>vs++[w])=((rws m i).take j).flatMap (λvs=>(List.range m).map λw=>vs++[w])++(List.range m).map λw=>vs++[w]:=by
    rw[take_snoc I,List.flatMap_append];simp
   have fl:∀l:Ad,(l.flatMap λvs=>(List.range m).map λw=>vs++[w]).length=l.length*m:=by
    intro l
    induction l with
    |nil=>exact(Nat.zero_mul _).symm
    |cons v l ih=>rw[List.flatMap_cons,Qaf,ih,Qac,Qa3,Qb3,Qhi,Nat.add_comm]
   have hb2:j*m+m<=10000:=by
    rw[<-Qhi];rw[Zn5]at g;exact Qaz (Qed _ g) hb1
   refine Zh ⟨_,U,_,_,U,U,⟨Qcg _,by lia,by decide⟩,(m:Int),by show[V.int (1*2^((W:Nat):Int).toNat)]=_;rw[Int.one_mul,Qay,em],by lia,by lia,XE (λw σ H'=>∃(C D:Option V),σ=[some (.ref pn),some (.int W),some (.ref fo),some (.str y),some (.ref wi),some (.ref dv),C,D]/\qp H' wi (nm.take (i+1)) (((rws m i).take j).flatMap (λvs=>(List.range m).map λw=>vs++[w])++(List.range w).map λw=>vs++[w])/\ZD H2 H') ⟨v6,v7,U,by rw[List.range_zero,List.map_nil,Qbk];exact W4,s4⟩ ?_ ?_⟩
   .rintro w σ H5 hw ⟨v6,v7,rfl,Z,s5⟩;rw[Qay]at hw;refine Zh ⟨_,U,dv,_,U,.inl (s5 _ _ hkv),λp hp=>Zh ?_⟩;refine⟨_,U,_,U,_,U,p,_,U,Zc5.k (k:=.inr y) Zb (Zu (by have:=Zn6 (nm.take i) vs;lia)),?_⟩;rw[zq,Qfb,Zn7 hyn (by rw[hvl,ltk]),<-etk];obtain⟨es,e1,e2,e3⟩:=id Z;have hpw:wi≠p:=λz=>by rw[z,hp]at e1;cases e1
    have sp:=Zd (o:=.dK (kvC (nm.take (i+1)) (vs++[w]))) hp;have e6:=sp _ _ e1;have hel:es.length<10000:=by
     rw[e2,Qaf,fl,Qac,Qa3,Qas];have:min j (rws m i).length*m<=j*m:=Qed _ (Nat.min_le_left _ _);lia
    refine⟨_,U,.inl ⟨U,_,SqL.of e6⟩,_,U,wi,_,_,U,U,e6,by rw[Qac];exact Xe (by lia),?_⟩;refine⟨_,_,U,?_,?_⟩
    .rw[Qdo,Qbd,<-Qcm];refine Z.snoc (p:=p) (λd kv e=>?_) (λes' h=>?_) ?_
     .rw[Zm (Xv e e1 λz=>nomatch z)];exact sp _ _ e
     .rw[Zb];rw[e1]at h;injection h with h;injection h with h;rw[h]
     .rw[Zm hpw.symm,Zb]
    .exact ZV (s5.trans sp) O
   .rintro σ H5 ⟨v6,v7,rfl,Z,s5⟩;rw[Qay]at Z;exact⟨_,_,_,U,Y,by rw[efm];exact Z,s5⟩
  .rintro σ H4 ⟨v5,v6,v7,rfl,hj0,W4,s4⟩;rw[Qac,d2,Qbb]at W4;exact⟨_,U,Zh ⟨wi,_,_,_,_,_,U,hil,W4,s2.trans s4⟩⟩
 .rintro σ H2 ⟨fo,u3,u4,F,C,D,rfl,hi0,D2,s2⟩;rw[Qac,Qbb]at D2;exact⟨_,U,k fo H2 D2 s2⟩
inductive qz(K:Af):Prop
 |mk(a tn:Au)(ns:Ak)(nm:Ai):vs=[.ref a,.ref tn]->SqL K H a (ns.map V.int)->ns.length<=63->H tn=some (.tup (nm.map V.str))->nm.Nodup->nm.length<=3->(∀p kvs (f:Str->Int) H',H' p=some (.dK kvs)->Tab kvs nm f->(∀y∈nm,0<=f y/\f y<2^(2*(jN ns (some 6) (some 36)).length))->ZD H H'->Q (.ref p) H')->qz K
def uM(K:Af):Sp:=λvs H Q _=>qz vs H Q K
theorem uN:Y1 P w K mg base CX0 1 t.aab t.aac ["script","names"] (uM K):=by
 refine T.aan.go Y7 ?_;rintro cdv A outer s H _ Q E hr ⟨a,C,ns,nm,rfl,hS,h63,hn,hnd,hn3,k⟩;have hu:=qL hr;refine⟨_,(Za (Z3 2 Y7.nd qP)
   (Za (Yh Qa4 U (Xb (qv 1)) (Y0 3 Y7.nd)
   (Zf (Jw hu (qv 2) (qv 3) Ze U)))
   (Za (Z3 4 Y7.nd (Yv Xx (qv 0) (Yq Ze) (Yq Ze)))
   (Za (Yh Qa4 U (YF U T.aq (Zg (Zo Zt (by rfl) T.af ZR (Zg (qv 4) Zc)) Zc)) (Y0 5 Y7.nd)
   (Za (Z3 6 Y7.nd (Zo JR (by rfl) T.ij yu (Zg (Zv Z0 (qv 4) (qv 5)) Zc)))
   (Zf (Yh Qa4 U (Xb (qv 1)) (Y0 3 Y7.nd)
   (Za (Jw hu (qv 2) (qv 3) (Zj YD (WE hu (qv 2) (qv 3) (λ_ _=>U)) (Zj uY (Zj ZI (qv 6) Ze) (Zj Wf Ze (qv 5)))) U)
   (Zf (Z3 6 Y7.nd (Zj Yc (qv 6) Ze))))))))
   (Zf (Zp (qv 2))))))),?_⟩
 try dsimp only[L2.cxK,L2.cxK2]
 refineλd hd=>Zh ?_;have sd:=Zd (o:=.dK []) hd;refine⟨_,U,C,U,⟨_,SqT.of (sd _ _ hn)⟩,W9 (K:=K) (a:=C) (xs:=nm.map V.str) (λi σ H2=>∃q kvs,σ=[some (.ref a),some (.ref C),some (.ref d),q,none,none,none]/\H2 d=some (.dK kvs)/\Tab kvs (nm.take i) (λ_=>0)/\ZD H H2) ⟨none,[],U,Zb,.nil,sd⟩ (λi σ H2 _ ⟨_,_,_,_,_,s⟩=>SqT.of (s _ _ hn)) ?_ ?_⟩
 .rintro i x σ H2 g ⟨q,kvs,rfl,h2,T2,s2⟩;obtain⟨y,rfl,I⟩:=JD g;have few:=T2.few;rw[Qas]at few;exact Zh ⟨_,U,_,U,d,_,U,Zc5.k (k:=.inr y) h2 (Zu (by lia)),_,_,U,Zb,by rw[take_snoc I];exact(T2.put y 0).same λx _=>by split<;>rfl,ZV s2 hd⟩
 rintro σ H1 ⟨q,kvs,rfl,h1,T1,s1⟩;rw[Qac,Qbb]at T1;refine⟨_,U,6,U,36,U,a,_,U,WS hS s1,λl hl=>Zh ?_⟩;rw[Xq];have ll:(jN ns (some 6) (some 36)).length<=63:=by
  have h:=WA (ns.map V.int) (some 6) (some 36);rw[Xq,Qac,Qac]at h;exact Qaz h h63
 generalize jN ns (some 6) (some 36)=cs at *;have s2:=s1.trans (Zd (o:=.lst (cs.map V.int)) hl);have O:=Zb (H:=H1) (a:=l) (o:=.lst (cs.map V.int));have h12:=Zd (o:=.lst (cs.map V.int)) hl _ _ h1;have hld:l≠d:=λz=>by rw[z,h1]at hl;cases hl
 generalize upd H1 l (.lst (cs.map V.int))=H2 at *;refine⟨_,U,l,_,U,.inl (SqL.of O),_,U,by rw[Qac];lia,by rw[Qac];lia,XE (λi σ H'=>∃q u5 u6 kvs f,σ=[some (.ref a),some (.ref C),some (.ref d),q,some (.ref l),u5,u6]/\H' d=some (.dK kvs)/\Tab kvs nm f/\(∀y∈nm,0<=f y/\f y<2^(2*i))/\H' l=some (.lst (cs.map V.int))/\ZD H H') ⟨_,none,none,kvs,_,U,h12,T1,λy _=>⟨Qhk _,by show(0:Int)<1;decide⟩,O,s2⟩ ?_ ?_⟩
 .rintro i σ H3 hi ⟨q,u5,u6,kvs,f,rfl,h3,T3,J,G,s3⟩;rw[Qay,Qac]at hi;have hat:atI (cs.map V.int) (0+(i:Int))=some (.int (cs.getD i 0)):=by rw[Qfb];exact Yb (Znh hi)
  refine Zh ⟨_,U,_,U,l,_,_,_,U,U,SqL.of G,hat,_,U,Zh ?_⟩;have hr0:0<=(if cs.getD i 0<0 then -cs.getD i 0 else cs.getD i 0):=by split<;>lia
  generalize (if cs.getD i 0<0 then -cs.getD i 0 else cs.getD i 0)=r0 at *;have pp:(0:Int)<2^(2*i):=XA _;have p4:(2:Int)^(2*(i+1))=2^(2*i)*4:=by rw[show 2*(i+1)=2*i+2 by lia,Int.pow_add];rfl
  refine⟨_,U,C,U,⟨_,SqT.of (s3 _ _ hn)⟩,W9 (K:=K) (a:=C) (xs:=nm.map V.str) (λj σ H'=>∃q kvs f r,σ=[some (.ref a),some (.ref C),some (.ref d),q,some (.ref l),some (.int (0+(i:Int))),some (.int r)]/\0<=r/\H' d=some (.dK kvs)/\Tab kvs nm f/\(∀y∈nm,0<=f y)/\(∀y∈nm.take j,f y<2^(2*(i+1)))/\(∀y∈nm.drop j,f y<2^(2*i))/\H' l=some (.lst (cs.map V.int))/\ZD H H') ⟨_,kvs,f,r0,U,hr0,h3,T3,λy h=>(J y h).1,(λ_ h=>nomatch h),λy h=>(J y (Qcr h)).2,G,s3⟩ (λj σ H' _ ⟨_,_,_,_,_,_,_,_,_,_,_,_,s⟩=>SqT.of (s _ _ hn)) ?_ ?_⟩
  .rintro j x σ H4 g ⟨q,kvs,f,r,rfl,r0',Z,Y,hp,ha,hc,F,s4⟩;obtain⟨y,rfl,I⟩:=JD g;have D:=Qag I;have ed:=xg I;have fy:=hc y (by rw[ed];exact Qam);have f0:=hp y D;have few:=Y.few;have e2:((2:Int)*(0+(i:Int))).toNat=2*i:=by lia
   have bd:0<=r%4/\r%4<4:=⟨by lia,by lia⟩;refine Zh ⟨_,U,_,U,d,_,U,.inl ⟨_,.inr y,.inl Z,U,(Y.val y D).symm⟩,_,U,_,_,U,U,(by show(0:Int)<4;decide),_,U,_,_,U,U,.inr (.inl ⟨by decide,by decide⟩),_,_,U,U,⟨by show(0:Int)<=2*(0+(i:Int));lia,by show 2*(0+(i:Int))<=1000000;lia,by show(r%4).natAbs<2^64;lia⟩,_,_,U,U,_,U,_,U,d,_,U,Zc5.k (k:=.inr y) Z (Zu (by lia)),?_⟩;refine⟨_,U,_,_,U,U,.of (by decide) (by decide),Zh ⟨_,_,_,_,U,by show 0<=r/4;lia,Zb,Y.set D _,λx g=>?_,λx g=>?_,λx g=>?_,by rw[Zm hld];exact F,ZV s4 hd⟩⟩
   all_goals try dsimp only
   all_goals try rw[e2]
   .split
    .have:=Int.mul_nonneg bd.1 (Qgo pp);lia
    .exact hp x g
   .rw[p4];split
    .have:r%4*2^(2*i)<=3*2^(2*i):=Int.mul_le_mul_of_nonneg_right (by lia) (Qgo pp);lia
    .rw[take_snoc I]at g;rcases Qa7.mp g with h|h
     .have:=ha x h;rw[p4]at this;exact this
     .rename_i z;exact absurd (Qau.mp h) z
   .have hx':x∈nm.drop j:=by rw[ed];exact Qak _ g
    have hne:x≠y:=λz=>by
     have nd:=hnd.sublist (List.drop_sublist j nm);rw[ed]at nd;exact(Qcj.mp nd).1 (z ▸ g)
    rw[Qa6 hne];exact hc x hx'
  .rintro σ H4 ⟨q,kvs,f,r,rfl,r0',Z,Y,hp,ha,hc,F,s4⟩;rw[Qac,Qbb]at ha;exact⟨_,_,_,_,_,U,Z,Y,λy h=>⟨hp y h,ha y h⟩,F,s4⟩
 .rintro σ H3 ⟨q,u5,u6,kvs,f,rfl,h3,T3,J,G,s3⟩;rw[Qay,Qac]at J;exact⟨_,U,k d kvs f H3 h3 T3 J s3⟩
inductive q8:Prop
 |mk(nm p:Au)(ys:Ai)(cs:Ak)(g:Str->Int):vs=[.ref nm,.ref p]->H nm=some (.tup (ys.map V.str))->H p=some (.tup (cs.map V.int))->ys.length<=3->cs.length<=1000000->(∀c∈cs,0<=c)->(∀(i:Nat)(y:Str),ys[i]?=some y->hor ((cs.map λc=>c/2^i%2).reverse)=g y)->(∀d kvs H',H d=none->H' d=some (.dK kvs)->Tab kvs ys g->ZD H H'->Q (.ref d) H')->q8
def uO(K:Af):Sp:=λvs H Q _=>q8 vs H Q
theorem uP:Y1 P w K mg base CX0 2 t.aad t.aae ["names","letters"] (uO K):=by
 have q:=x6 P base T TB;refine T.aao.go WW ?_;rintro cdv A outer s H _ Q E hr ⟨nm,p,ys,cs,g,rfl,O,hp,hy3,hcl,F,hg,k⟩;have hu:=qL hr;refine⟨_,(Za (Z3 2 WW.nd qP)
   (Za (Yh Qa4 U (vd U T.dt (qv 0)) (qO U (Y0 3 WW.nd) (Y0 4 WW.nd))
   (Zf (Jw hu (qv 2) (qv 4) (Zl T.dm q hr (Zg (ZG Z9 (by rfl) T.ah ZU (Zg (Y3 ({}:Yi (Zk qY) _ ["names","letters","words","place","name"] "letter" ["place"] [3]) (Xb (qv 1)) (λ_ _ _ _=>XU) (λ_ _ _ _=>(Zj Xa (Zj yl (qv 0) (qv 1)) Ze))) Zc)) Zc)) U)))
   (Zf (Zp (qv 2))))),?_⟩
 intro d D;have u1:=Zd (o:=.dK []) D;refine⟨_,U,nm,_,U,SqT.of (u1 _ _ O),?_⟩;refine ve (K:=K) (a:=nm) (xs:=ys.map V.str) (j:=3) (k:=4) (λi σ H2=>∃u v kvs,σ=[some (.ref nm),some (.ref p),some (.ref d),u,v]/\H2 d=some (.dK kvs)/\Tab kvs (ys.take i) g/\ZD H H2) ⟨none,none,[],U,Zb,.nil,u1⟩ (λi σ H2 _ ⟨_,_,_,_,_,_,C⟩=>SqT.of (C _ _ O)) ?_ ?_
 .rintro i x σ H2 t hx ht ⟨u,v,kvs,rfl,h2,T,C⟩;obtain⟨y,rfl,J⟩:=JD hx;have I:=Zd (o:=.tup [.int i,.str y]) ht;have Y:=C.trans I;refine⟨_,U,p,U,⟨_,SqT.of (Y _ _ hp)⟩,kL (fI λc=>V.int (Builtin.bitAnd (c/2^((i:Nat):Int).toNat) 1)) (SqT.of (Y _ _ hp)) (by rw[Qac];exact Qax (Xe (by lia))) (λw hw R hR=>?_) (λl hl=>?_)⟩
  .obtain⟨c,_,rfl⟩:=Qa2.mp hw;exact⟨_,U,_,U,_,_,U,U,Qcg i,_,_,U,U,hR⟩
  have e1:(cs.map V.int).map (fI λc=>V.int (Builtin.bitAnd (c/2^((i:Nat):Int).toNat) 1))=(cs.map λc=>c/2^i%2).map V.int:=by
   rw[map_fI,Qb7];apply Qci;intro c hc;show V.int _=V.int _;rw[Qay,Znf (div_nn (F c hc) i)]
  rw[e1];have v2:=Zd (o:=.lst ((cs.map λc=>c/2^i%2).map V.int)) hl;refine⟨l,_,U,.inl ⟨SqL.of Zb,λt2 G=>⟨t2,_,U,SqT.of Zb,?_⟩⟩⟩;have v3:=Zd (o:=.tup ((cs.map λc=>c/2^i%2).map V.int)) G;have Z:=I.trans (v2.trans v3);have few:=T.few;rw[Qas]at few;refine⟨_,U,_,U,d,_,U,Zc5.k (k:=.inr y) (Z _ _ h2) (Xe (by lia)),_,_,_,U,Zb,?_,ZV (C.trans Z) D⟩;rw[take_snoc J];refine(T.put y _).same λz hz=>?_
  by_cases e:z=y
  .rw[Qa9 e,e,<-hg i y J]
  .rw[Qa6 e]
 .rintro σ H2 ⟨u,v,kvs,rfl,h2,T,C⟩;rw[Qac,Qbb]at T;exact⟨_,U,k d kvs H2 D h2 T C⟩
inductive Xf:Prop
 |mk(m a lt:Au)(nm:Ai)(b:Nat)(nx:Ad)(ot:Ax)(n:Nat)(S L:Aj)(W:Option (Aj))(wv v:V)(tr:Bool):vs=[.ref m,.ref a,.ref lt,wv,v]->M4 H m nm b nx ot->Runs nx ot n->Rd H a (.dK (twK S))->S.Nodup->(∀s∈S,s<nx.length)->S.length<=1000000->H lt=some (.tup (L.map Xd))->(∀l∈L,l<2^n)->L.length<=1000->yO H wv W->XO tr v->(∀r∈ot,∀x∈r,XO tr x)->(∀p H',H p=none->H' p=some (.dK (twK (goB (mN nx) (mB ot v) W S L)))->SmF H H'->Q (.ref p) H')->Xf
def Ge(K:Af):Sp:=λvs H Q _=>Xf vs H Q
theorem Gf:Y1 P w K mg base CX0 2 t.cf t.cg ["machine","states","letters","well","wanted"] (Ge K):=by
 have g:=wZ P base T TB;refine T.az.go YC ?_;rintro cdv A outer s H _ Q E hr ⟨m,a,lt,nm,b,nx,ot,n,S,L,W,wv,v,tr,rfl,M,R,ha,Y,hS,hSl,hlt,hL,hLl,hw,hv,hk,k⟩;have hu:=qL hr;refine⟨_,(Za (Z3 5 YC.nd qP)
   (Za (Yh Qa4 U (Zaw (qv 1)) (Y0 6 YC.nd)
   (Zf (ZF (YE (Zo (Zfg U) (by rfl) T.ach bt_any (Zg (Y3 ({}:Yi (Zk YL) _ ["machine","states","letters","well","wanted","going","state"] "letter" ["machine","state","well","wanted"] [0,6,3,4]) (Xb (qv 2)) (λ_ _ _ _=>XU) (λ_ _ _ _=>(Zl T.sf g hr (Zg (qv 1) (Zg (qv 2) (Zg (qv 0) (Zg (qv 3) (Zg (qv 4) Zc)))))))) Zc)))
   (Zf (Jw hu (qv 5) (qv 6) Jo U)) Zw)))
   (Zf (Zp (qv 5))))),?_⟩
 refineλp O=>?_;have s1:=SmF.of (Zd (o:=.dK []) O);refine Zh ?_;have J:=s1.rd ha;refine⟨_,U,a,_,U,J,λo ho=>Zak (kvs:=twK S) (λi σ H'=>∃(u6:Option V),σ=[some (.ref m),some (.ref a),some (.ref lt),some wv,some v,some (.ref p),u6]/\H' a=some (.frz o (.dK (twK S)))/\H' p=some (.dK (twK (goB (mN nx) (mB ot v) W (S.take i) L)))/\SmF H H') ⟨none,U,Zb,?_,s1.trans (SmF.frz J ho)⟩ (λi σ H' _ ⟨_,_,h,_⟩=>h) ?_ ?_⟩
 .have D:p≠a:=λz=>by
   subst z;rcases ha with z|⟨_,z⟩<;>rw[O]at z<;>cases z
  rw[Zm D,Zb];rfl
 .rintro i q σ H1 hq ⟨u6,rfl,h1,h2,F⟩;unfold twK at hq;rw[Qal]at hq;obtain⟨s,hs,rfl⟩:=Qbp.mp hq;have Z:=Qag hs;have C:=F.tup hlt;refine Zh ⟨_,U,lt,U,⟨_,SqT.of C⟩,kL (xs:=L.map Xd) (fI λz=>V.bl (gw (mN nx) (mB ot v) W s z.toNat)) (SqT.of C) (by rw[Qac];exact Qax (Zu hLl)) (λx hx R' hR=>?_) (λl hl=>?_)⟩
  .obtain⟨y,hy,rfl⟩:=Qa2.mp hx;have e:fI (λz=>V.bl (gw (mN nx) (mB ot v) W s z.toNat)) (Xd y)=V.bl (gw (mN nx) (mB ot v) W s y):=by
    show V.bl (gw (mN nx) (mB ot v) W s (y:Int).toNat)=_;rw[Qay]
   exact⟨_,U,_,U,_,U,_,U,_,U,m,nm,b,nx,ot,n,s,y,W,wv,v,tr,U,M.smf F,R,hS s Z,hL y hy,F.well hw,hv,hk,hR⟩
  .refine⟨l,L.map (gw (mN nx) (mB ot v) W s),U,SqL.of (by rw[Zb,Qb7,Qb7];congr 2),_,U,?_⟩;have sl:=Zd (o:=.lst (List.map (fI λz=>V.bl (gw (mN nx) (mB ot v) W s z.toNat)) (List.map Xd L))) hl;have s3:=F.trans (SmF.of sl);have G:=sl _ _ h1;have I:=sl _ _ h2;have ea:(L.map (gw (mN nx) (mB ot v) W s)).any id=L.any (gw (mN nx) (mB ot v) W s):=by rw[List.any_map];rfl
   have es:=Zjc (nx:=mN nx) (ok:=mB ot v) (W:=W) (L:=L) hs;rw[ea];have D:a≠p:=λz=>by rw[z,h2]at h1;cases h1
   refine qG (λhb=>?_) (λhb=>?_)
   .rw[Qa9 hb]at es;refine⟨_,U,_,U,p,_,U,Zc5.k (k:=.inl (s:Int)) I (by rw[jk];have h3:=Zny (nx:=mN nx) (ok:=mB ot v) (W:=W) (S:=S.take i) (L:=L);rw[Qas]at h3;exact Xe (by lia)),_,U,by rw[Zm D];exact G,?_,s3.put O⟩;rw[Zb,Zgk,es];exact congrArg (λz=>some (HO.dK (twK z))) (Qa6 (Znx Y hs))
   .rw[Qa6 hb,Qbk]at es;exact⟨_,U,G,by rw[es];exact I,s3⟩
 .rintro σ H1 ⟨u6,rfl,h1,h2,F⟩;rw[jk,Qbb]at h2;exact⟨_,U,k p H1 O h2 F⟩
inductive q9:Prop
 |mk(k:Key):vs=[kV k]->Q (.int (WK k)) H->q9
def uQ(K:Af):Sp:=λvs H Q _=>q9 vs H Q
theorem uR:Y1 P w K mg base CX0 2 t.aaf t.aag ["word"] (uQ K):=by
 have q:=jZ P base T TB;have g:=xW P base T TB;refine T.aap.go uD ?_;rintro D A outer s H _ Q E C ⟨kk,rfl,k⟩;refine⟨_,(Zf (Zp (Zj YD (Zl T.ny q C (Zg (qv 0) Zc)) (Zl T.ic g C (Zg (qv 0) Zc))))),?_⟩;exact⟨_,U,kk,U,_,U,kk,U,_,_,U,U,k⟩
inductive xD:Prop
 |mk(y:Str):vs=[.str y]->y.length<=100000->(∀H',ZD H H'->Q (.bl (decide (y∉YA/\NmL y))) H')->xD
def Zcx(K:Af):Sp:=λvs H Q _=>xD vs H Q
omit T TB in
theorem Zjj{y:Str}:NmL y↔y.length<=8/\yF y Zqb:=by
 constructor
 .intro h;refine⟨h.1.2,λz=>?_,h.2⟩;have h1:=h.1.1;rw[len_signs,z]at h1;exact absurd h1 (by decide)
 .intro h;refine⟨⟨?_,h.1⟩,h.2.2⟩;rw[len_signs];cases e:y.cps.toList with
  |nil=>exact absurd e h.2.1
  |cons a r=>exact Qhc (Qbj _)
theorem Zcy:Y1 P w K mg base CX0 2 t.abb t.abc ["text"] (Zcx K):=by
 have C:=ke P base T TB;have g:=xU P base T TB;have q:=jX P base T TB;refine T.abl.go Zcq ?_;rintro J A outer s H _ Q E D ⟨y,rfl,G,k⟩;refine⟨_,(Za (ZF (GL (GJ (YE (Zl T.nu q D (Zg (qv 0) Zc))) (GI (YE (Zl T.ib g D (Zg (qv 0) Zc))))))
   (Zf (Zp Jo)) Zw)
   (Zf (Zp (Zaa (Xh op_le (Zo xn (by rfl) T.af ZR (Zg (qv 0) Zc)) (WD (v:=.int 8) U T.abq ⟨_,U⟩) (Z7 _)) (kH (Zl T.pe C D (Zg (qv 0) (Zg (WD (v:=.str "abcdefghijklmnopqrstuvwxyz") U T.acd ⟨_,U⟩) Zc)))))))),?_⟩
 by_cases h1:y∈YA
 .have e:decide (y∉YA/\NmL y)=false:=Qan λz=>z.1 h1
  rw[e]at k;refine⟨_,U,y,U,_,U,?_⟩
  by_cases h2:y∈Gd
  .rw[Qar h2];exact YN (YN (k H (ZD.refl H)))
  .rw[Qan h2];have F:y∈zQ:=((ud y).mp h1).resolve_left h2;refine Yu ⟨_,U,.inr y,U,_,U,?_⟩;rw[show clK (.inr y)=true from Qar F];exact YN (k H (ZD.refl H))
 .have h2:y∉Gd:=λz=>h1 ((ud y).mpr (.inl z))
  have F:y∉zQ:=λz=>h1 ((ud y).mpr (.inr z));refine⟨_,U,y,U,_,U,?_⟩;rw[Qan h2];refine Yu ⟨_,U,.inr y,U,_,U,?_⟩;rw[show clK (.inr y)=false from Qan F];refine Yu ?_;refine⟨_,U,y,U,Qaz G (by decide),_,_,U,U,_,U,?_⟩
  by_cases I:y.length<=8
  .rw[Qar (show(y.length:Int)<=8 by lia)];refine YN ⟨_,U,y,Zqb,U,G,λH' s'=>?_⟩;have e:decide (yF y Zqb)=decide (y∉YA/\NmL y):=by
    rw[Qd2,Qb9,Qb9,Zjj];exact⟨λz=>⟨h1,I,z⟩,λz=>z.2.2⟩
   rw[e];exact k H' s'
  .rw[Qan (show¬(y.length:Int)<=8 by lia)];have e:decide (y∉YA/\NmL y)=false:=Qan λz=>I z.2.1.2;rw[e]at k;exact Yu (k H (ZD.refl H))
inductive Wx:Prop
 |mk(tn tl:Au)(ys:Ai)(L:Nat):vs=[.ref tn,.ref tl]->H tn=some (.tup (ys.map V.str))->ys.Nodup->ys.length<=10->H tl=some (.lst ((List.range L).map λi:Nat=>V.int i))->L<=100->(∀dv kvs H',H dv=none->H' dv=some (.dK kvs)->Zcd kvs ys (YZ L ys)->ZD H H'->Q (.ref dv) H')->Wx
def jA(K:Af):Sp:=λvs H Q _=>Wx vs H Q
theorem jB:Y1 P w K mg base CX0 2 t.iw t.ix ["names","letters"] (jA K):=by
 have g:=x6 P base T TB;refine T.lq.go YY ?_;rintro cdv A outer s H _ Q E hr ⟨Y,tl,ys,L,rfl,hn,O,hn3,hl,hL,k⟩;have hu:=qL hr;refine⟨_,(Za (Z3 2 YY.nd qP)
   (Za (Yh Qa4 U (vd U T.dt (qv 0)) (qO U (Y0 3 YY.nd) (Y0 4 YY.nd))
   (Zf (Jw hu (qv 2) (qv 4) (Zl T.dm g hr (Zg (ZG Z9 (by rfl) T.ah ZU (Zg (Y3 ({}:Yi (Zk Wj) _ ["names","letters","columns","place","name"] "letter" ["place"] [3]) (Xi (qv 1)) (λ_ _ _ _=>XU) (λ_ _ _ _=>(Zj Xa (Zj yl (qv 0) (qv 1)) Ze))) Zc)) Zc)) U)))
   (Zf (Zp (qv 2))))),?_⟩
 refineλI D=>Zh ?_;have s1:=Zd (o:=.dK []) D;refine⟨_,U,Y,_,U,SqT.of (s1 _ _ hn),ve (K:=K) (a:=Y) (xs:=ys.map V.str) (λi σ H2=>∃(kvs:Ay)(u3 u4:Option V),σ=[some (.ref Y),some (.ref tl),some (.ref I),u3,u4]/\H2 I=some (.dK kvs)/\Zcd kvs (ys.take i) (YZ L ys)/\kvs.length<=i/\i<=ys.length/\ZD H H2) ⟨[],none,none,U,Zb,⟨λy h=>(by cases h),λy _=>U⟩,Qai _,Qbj _,s1⟩ (λi σ H2 _ ⟨_,_,_,_,_,_,_,_,s⟩=>SqT.of (s _ _ hn)) ?_ ?_⟩
 .rintro i x σ H2 p hx hp ⟨kvs,u3,u4,rfl,h2,G,Z,_,s2⟩;rw[Qal]at hx;obtain⟨y,J,rfl⟩:=Qbp.mp hx;have hi:=(Qah.mp J).1;have s3:=s2.trans (Zd (o:=.tup [.int i,.str y]) hp);have h3:=Zd (o:=.tup [.int i,.str y]) hp _ _ h2;have F:=s3 _ _ hl;refine⟨_,U,tl,U,⟨_,SqL.of F⟩,comp_map (xs:=(List.range L).map λi:Nat=>V.int i) (fI λc=>V.int (bt c i)) (SqL.of F) (by rw[Qac,Qa3];exact Qax (Zu (by lia))) (λv hv R hR=>?_) (λq hq=>?_)⟩
  .obtain⟨c,_,rfl⟩:=Qa2.mp hv;refine⟨_,U,_,U,_,_,U,U,Qcg i,_,_,U,U,?_⟩;have e:fI (λc=>V.int (bt c i)) (V.int c)=V.int (Builtin.bitAnd ((c:Int)/2^(i:Int).toNat) 1):=by
    rw[and_1,Qay];rfl
   rw[e]at hR;exact hR
  have ex:((List.range L).map λi:Nat=>V.int i).map (fI λc=>V.int (bt c i))=((List.range L).map λl:Nat=>bt (l:Int) i).map V.int:=by
   rw[Qb7,Qb7];rfl
  rw[ex];have s4:=Zd (o:=.lst (((List.range L).map λl:Nat=>bt (l:Int) i).map V.int)) hq;refine⟨q,_,U,.inl ⟨SqL.of Zb,λt ht=>?_⟩⟩;have s5:=s4.trans (Zd (o:=.tup (((List.range L).map λl:Nat=>bt (l:Int) i).map V.int)) ht);have h5:=s5 _ _ h3;refine⟨t,(List.range L).map λl:Nat=>bt (l:Int) i,U,SqT.of Zb,?_⟩;have hv:hor ((List.range L).map λl:Nat=>bt (l:Int) i).reverse=YZ L ys y:=by
   unfold YZ;rw[Ws O J]
  rw[hv];have lp:=XJ kvs (.inr y) (.int (YZ L ys y));refine⟨_,U,_,U,I,_,U,Zc5.k (k:=.inr y) h5 (Zu (by lia)),putK kvs (.inr y) (.int (YZ L ys y)),_,_,U,Zb,⟨λz hz=>?_,λz hz=>?_⟩,by lia,hi,ZV (s3.trans s5) D⟩
  .rw[take_snoc J]at hz;rw[yY]
   by_cases C:z=y
   .rw[Qa9 (by rw[C]),C]
   .rw[Qa6 (λe=>C (Sum.inr.inj e))];rcases Qa7.mp hz with h|h
    .exact G.1 z h
    .exact absurd (Qau.mp h) C
  .rw[take_snoc J]at hz;rw[yY,Qa6 (λe=>hz (Qa7.mpr (.inr (Qau.mpr (Sum.inr.inj e)))))];exact G.2 z λh=>hz (Qa7.mpr (.inl h))
 .rintro σ H2 ⟨kvs,u3,u4,rfl,h2,G,Z,_,s2⟩;rw[Qac,Qbb]at G;exact⟨_,U,k I kvs H2 D h2 G s2⟩
inductive Gy:Prop
 |mk(y:Str)(p:Au)(is:Ak)(h:Int):vs=[.str y,.ref p,.int h]->H p=some (.lst (is.map V.int))->1<=is.length->y∈allR->(y∈Zon->2<=is.length)->(∀H',ZD H H'->Q (.int (ktI y is h)) H')->Gy
def gg(K:Af):Sp:=λvs H Q _=>Gy vs H Q
theorem gh:Y1 P w K mg base CX0 2 t.ri t.rj ["word","parts","held"] (gg K):=by
 have g:=j4 P base T TB;refine T.sj.go x5 ?_;rintro cdv A outer s H _ Q E Z ⟨y,p,is,h,rfl,J,O,Y,G,k⟩;refine⟨_,(Za (Z3 3 x5.nd (Zv Z0 (qv 1) Ze))
   (Za (ZF (Zr Yk (qv 0) Zi (Z7 _))
   (Zf (Zp (qv 3))) Zw)
   (Za (ZF (Zr Ye (qv 0) (Zs (Zg Zi (Zg Zi (Zg Zi Zc)))) (by with_unfolding_all rfl))
   (Zf (Zp (Zj jH (qv 3) (qv 2)))) Zw)
   (Za (ZF (Zr Yk (qv 0) Zi (Z7 _))
   (Zf (Zp (Zj jH (Zj zt (qv 3) (Zv Z0 (qv 1) Ze)) (qv 2)))) Zw)
   (Za (ZF (Zr Yk (qv 0) Zi (Z7 _))
   (Zf (Zp (Zj jH (Zj Xa (qv 3) (Zv Z0 (qv 1) Ze)) (Zj Xa (qv 2) (Zj jH (qv 3) (Zv Z0 (qv 1) Ze)))))) Zw)
   (Zf (Zp (Zl T.ie g Z (Zg (qv 3) (Zg (Zv Z0 (qv 1) Ze) (Zg (qv 2) Zc))))))))))),?_⟩
 have F:¬y = "twice" ->¬(y = "neg" \/ y = "low" \/ y = "nought")->y∈Zon:=Zfr y Y;unfold ktI at k;refine⟨_,U,p,_,0,_,U,U,SqL.of J,Z8 0 rfl O,Zh ⟨_,U,U,_,U,?_⟩⟩
 by_cases h1:y = "twice"
 .rw[Qar (congrArg V.str h1)];rw[Qa9 h1]at k;refine YN ?_;exact⟨_,U,k H (ZD.refl _)⟩
 rw[Qan (λz=>h1 (by injection z))];rw[Qa6 h1]at k;refine Yu ⟨_,U,by decide,λq hq=>⟨q,_,U,.inr (SqT.of Zb),U,U,_,U,?_⟩⟩;show if inV (.str y) ((["neg","low","nought"]:Ai).map V.str)=true then _ else _;rw[ZO];have sq:=Zd (o:=.tup [.str "neg",.str "low",.str "nought"]) hq;have pq:=sq _ _ J;generalize upd H q (.tup [.str "neg",.str "low",.str "nought"])=H1 at *
 by_cases h2:y = "neg" \/ y = "low" \/ y = "nought"
 .rw[Qar (by grind)];rw[Qa9 h2]at k;refine YN ?_;exact⟨_,U,_,U,_,_,U,U,k H1 sq⟩
 rw[Qan (by grind)];rw[Qa6 h2]at k;refine Yu ⟨_,U,U,_,U,?_⟩
 by_cases D:y = "same"
 .rw[Qar (congrArg V.str D)];rw[Qa9 D]at k;refine YN ?_;exact⟨_,U,_,U,p,_,1,_,U,U,SqL.of pq,Z8 1 rfl (G (by rw[D];decide +kernel)),_,_,U,U,_,U,_,_,U,U,k H1 sq⟩
 rw[Qan (λz=>D (by injection z))];rw[Qa6 D]at k;refine Yu ⟨_,U,U,_,U,?_⟩
 by_cases C:y = "add"
 .rw[Qar (congrArg V.str C)];rw[Qa9 C]at k;refine YN ?_;have I:=G (by rw[C];decide +kernel);exact⟨_,U,_,U,p,_,1,_,U,U,SqL.of pq,Z8 1 rfl I,_,_,U,U,_,U,_,U,_,U,p,_,1,_,U,U,SqL.of pq,Z8 1 rfl I,_,_,U,U,_,_,U,U,_,_,U,U,k H1 sq⟩
 rw[Qan (λz=>C (by injection z))];rw[Qa6 C]at k;exact Yu ⟨_,U,_,U,p,_,1,_,U,U,SqL.of pq,Z8 1 rfl (G (F h1 h2)),_,U,_,_,_,U,k H1 sq⟩
inductive Jk:Prop
 |mk(y:Str)(p:Au)(is:Ak)(h n:Int):vs=[.str y,.ref p,.int h,.int n]->H p=some (.lst (is.map V.int))->1<=is.length->y∈allR->(y∈Zon->2<=is.length)->(∀H',ZD H H'->Q (.int (okI y is h n)) H')->Jk
def yf(K:Af):Sp:=λvs H Q _=>Jk vs H Q
theorem yg:Y1 P w K mg base CX0 2 t.ng t.nh ["word","parts","held","then"] (yf K):=by
 have g:=j4 P base T TB;refine T.og.go jU ?_;rintro cdv A outer s H _ Q E O ⟨y,p,is,h,n,rfl,hp,D,hy,Z,k⟩;refine⟨_,(Za (ZF (Zr Ye (qv 0) (Zs (Zg Zi (Zg Zi Zc))) (by with_unfolding_all rfl))
   (Zf (Zp (Zj zt (Zj zt (Zv Z0 (qv 1) Ze) (Zv Z0 (qv 1) Ze)) (qv 2)))) Zw)
   (Za (ZF (Zr Yk (qv 0) Zi (Z7 _))
   (Zf (Zp (Zj zt (Zv Z0 (qv 1) Ze) (qv 2)))) Zw)
   (Za (ZF (Zr Yk (qv 0) Zi (Z7 _))
   (Zf (Zp (qv 2))) Zw)
   (Za (ZF (Zr Yk (qv 0) Zi (Z7 _))
   (Zf (Zp (Zj Xa (Zv Z0 (qv 1) Ze) (XH zu (qv 2))))) Zw)
   (Za (ZF (Zr Ye (qv 0) (Zs (Zg Zi (Zg Zi Zc))) (by with_unfolding_all rfl))
   (Zf (Zp (XH zu (qv 3)))) Zw)
   (Za (ZF (Zr Yk (qv 0) Zi (Z7 _))
   (Zf (Zp (qv 3))) Zw)
   (Zf (Zp (Zl T.ie g O (Zg (Zv Z0 (qv 1) Ze) (Zg (Zv Z0 (qv 1) Ze) (Zg (qv 2) Zc)))))))))))),?_⟩
 unfold okI at k;refine⟨_,U,by decide,λq hq=>⟨q,_,U,.inr (SqT.of Zb),U,U,_,U,?_⟩⟩;show if inV (.str y) ((["add","sub"]:Ai).map V.str)=true then _ else _;rw[ZO];have sq:=Zd (o:=.tup [.str "add",.str "sub"]) hq;have pq:=sq _ _ hp;generalize upd H q (.tup [.str "add",.str "sub"])=H1 at *
 by_cases h1:y = "add" \/ y = "sub"
 .rw[Qar (by grind)];rw[Qa9 h1]at k;refine YN ?_;have l3:2<=is.length:=Z (by rcases h1 with h|h<;>rw[h]<;>decide +kernel);exact⟨_,U,p,_,0,_,U,U,SqL.of pq,Z8 0 rfl D,_,U,p,_,1,_,U,U,SqL.of pq,Z8 1 rfl l3,_,_,U,U,_,U,_,_,U,U,k H1 sq⟩
 rw[Qan (by grind)];rw[Qa6 h1]at k;refine Yu ⟨_,U,U,_,U,?_⟩
 by_cases h2:y = "neg"
 .rw[Qar (congrArg V.str h2)];rw[Qa9 h2]at k;refine YN ?_;exact⟨_,U,p,_,0,_,U,U,SqL.of pq,Z8 0 rfl D,_,U,_,_,U,U,k H1 sq⟩
 rw[Qan (λz=>h2 (by injection z))];rw[Qa6 h2]at k;refine Yu ⟨_,U,U,_,U,?_⟩
 by_cases C:y = "twice"
 .rw[Qar (congrArg V.str C)];rw[Qa9 C]at k;refine YN ?_;exact⟨_,U,k H1 sq⟩
 rw[Qan (λz=>C (by injection z))];rw[Qa6 C]at k;refine Yu ⟨_,U,U,_,U,?_⟩
 by_cases F:y = "low"
 .rw[Qar (congrArg V.str F)];rw[Qa9 F]at k;refine YN ?_;exact⟨_,U,p,_,0,_,U,U,SqL.of pq,Z8 0 rfl D,_,U,_,U,_,_,U,U,k H1 sq⟩
 rw[Qan (λz=>F (by injection z))];rw[Qa6 F]at k;refine Yu ⟨_,U,by decide,λr O=>⟨r,_,U,.inr (SqT.of Zb),U,U,_,U,?_⟩⟩;show if inV (.str y) ((["same","nought"]:Ai).map V.str)=true then _ else _;rw[ZO];have I:=Zd (o:=.tup [.str "same",.str "nought"]) O;have Y:=I _ _ pq;generalize upd H1 r (.tup [.str "same",.str "nought"])=H2 at *
 by_cases J:y = "same" \/ y = "nought"
 .rw[Qar (by simp only[Qaw,Qbq,Qet];exact J)];rw[Qa9 J]at k;refine YN ?_;exact⟨_,U,_,U,k H2 (sq.trans I)⟩
 rw[Qan (by simp only[Qaw,Qbq,Qet];exact J)];rw[Qa6 J]at k;refine Yu ⟨_,U,U,_,U,?_⟩
 by_cases G:y = "under"
 .rw[Qar (congrArg V.str G)];rw[Qa9 G]at k;refine YN ?_;exact⟨_,U,k H2 (sq.trans I)⟩
 rw[Qan (λz=>G (by injection z))];rw[Qa6 G]at k;exact Yu ⟨_,U,p,_,1,_,U,U,SqL.of Y,Z8 1 rfl (Z (Zfr y hy C (λz=>by grind))),_,U,p,_,0,_,U,U,SqL.of Y,Z8 0 rfl D,_,U,_,_,_,U,k H2 (sq.trans I)⟩
def xZ:Ai:=["x","y","ab","aba","nots","adda","lowly","z","orb","xx","samer","pickaxes","yesx","subx","a","ba"]
def vow:Aj:=[97,101,105,111,117]
def cns:Aj:=("bcdfghjkmpqrtvxz" : Str).cps.toList
omit T TB in
theorem Zoe:∀y∈xZ,y∉YA:=by decide +kernel
omit T TB in
theorem Zg6:xZ.Nodup:=by decide +kernel
omit T TB in
theorem Zg7:∀c∈cns,c∉vow/\c∉("lnsw" : Str).cps.toList:=by decide +kernel
omit T TB in
theorem Zof:∀c∈("lnsw" : Str).cps.toList,c∉vow:=by decide +kernel
omit T TB in
theorem Zjk:∀y∈YA,∃c∈y.cps.toList,c∈vow:=by decide +kernel
omit T TB in
theorem no_vow{y:Str}(h:∀c∈y.cps.toList,c∉vow):y∉YA:=λz=>let⟨c,h1,h2⟩:=Zjk y z;h c h1 h2
omit T TB in
theorem Zjl:∀y∈xZ,NmL y:=by decide +kernel
omit T TB in
theorem Zg8:∀c∈cns,Low c:=by decide +kernel
omit T TB in
theorem Zjm:∀c∈("lnsw" : Str).cps.toList,Low c:=by decide +kernel
omit T TB in
theorem Zog{y:Str}(h1:1<=y.cps.toList.length)(h2:y.cps.toList.length<=8)(q:∀c∈y.cps.toList,Low c/\c∉vow):NmS y:=⟨⟨⟨h1,h2⟩,λc g=>(q c g).1⟩,no_vow λc g=>(q c g).2⟩
inductive Gz:Prop
 |mk(cell:Int)(many:Nat):vs=[.int cell,.int many]->many<=3->(∀p (ys:Ai) H',H p=none->H' p=some (.tup (ys.map V.str))->ys.length=many->ys.Nodup->(∀y∈ys,NmS y)->PyProof.Rows.sortedS ys=true->ZD H H'->Q (.ref p) H')->Gz
def gj(K:Af):Sp:=λvs H Q _=>Gz vs H Q
omit T TB in
theorem Zoh{ys:Ai}{x s:Int}(h0:0<=x)(Y:1<=s)(s2:s<=5)(I:ys.length=3)(h:∀(i:Nat)(y:Str),ys[i]?=some y->xZ[((x+(i:Int)*s)%16).toNat]?=some y):ys.Nodup:=by
 match ys,I with
 |[a,b,c],_=>
  have q:=h 0 a rfl;have C:=h 1 b rfl;have D:=h 2 c rfl;have ne:∀{i j:Int} {u v:Str},0<=i->i<16->0<=j->j<16->i≠j->xZ[i.toNat]?=some u->xZ[j.toNat]?=some v->u≠v:=λ{i j u v} i0 i1 Z j1 J O Q e=>by
   subst e;have e1:=Ws Zg6 O;have e2:=Ws Zg6 Q;lia
  have g:∀z:Int,0<=z%16/\z%16<16:=λz=>⟨by lia,by lia⟩;have F:=ne (g _).1 (g _).2 (g _).1 (g _).2 (by lia) q C;have G:=ne (g _).1 (g _).2 (g _).1 (g _).2 (by lia) q D;have n3:=ne (g _).1 (g _).2 (g _).1 (g _).2 (by lia) C D;simp[F,G,n3]
theorem gk:Y1 P w K mg base CX0 2 t.rk t.rn ["cell","many"] (gj K):=by
 have C:=Wl P base T TB;refine T.sr.go Yo ?_;rintro cdv A outer s H _ Q E hr ⟨cell,many,rfl,hmany,k⟩;refine⟨_,(Za (Z3 2 Yo.nd (Zl T.aw C hr (Zg (qv 0) (Zg Ze (Zg Ze Zc)))))
   (Za (Z3 3 Yo.nd (Yx (Zg Zi (Zg Zi (Zg Zi (Zg Zi (Zg Zi (Zg Zi (Zg Zi (Zg Zi (Zg Zi (Zg Zi (Zg Zi (Zg Zi Zc))))))))))))))
   (Za (Z3 3 Yo.nd (Zj kB (qv 3) (Yx (Zg Zi (Zg Zi (Zg Zi (Zg Zi Zc)))))))
   (Za (gF (i:=4) Yo.nd U U ({}:Yi (Zk WI) _ ["cell","many","xs","menu","some","base","at","turn"] "k" ["menu","xs"] [3,2]) (YF U T.aq (Zg Ze Zc)) (λ_ _ _ _=>XU) (λ_ _ _ _=>(Zv (show IxR _ (Zo6 K)from Z0) (qv 1) (Zj ZI (Zj YD (Zv (show IxR _ (Zo6 K)from Z0) (qv 2) Ze) (Zj Wf (qv 0) (Zj YD Ze (Zj ZI (Zv (show IxR _ (Zo6 K)from Z0) (qv 2) Ze) Ze)))) Ze))))
   (Za (ZF (Zr Yk (Zj ZI (Zv Z0 (qv 2) Ze) Ze) Ze (Z7 _))
   (Za (Z3 5 Yo.nd (ZP PySem.F.plainAttrs_str PySem.F.slot_str_join PySem.F.type_str_join Zmb Zi (Zg (Y3 ({}:Yi (Zk WI) _ ["cell","many","xs","menu","some","base","at","turn"] "k" ["xs"] [2]) (YF U T.aq (Zg (Zj YD Ze (Zj ZI (Zv Z0 (qv 2) Ze) Ze)) Zc)) (λ_ _ _ _=>XU) (λ_ _ _ _=>(Zv Zd7 Zi (Zj ZI (Zv (show IxR _ (Zo6 K)from Z0) (qv 1) (Zj YD Ze (qv 0))) Ze)))) Zc)))
   (Za (Z3 6 Yo.nd (Zj ZI (Zv Z0 (qv 2) Ze) (Zo xn (by rfl) T.af ZR (Zg (qv 5) Zc))))
   (Zf (Z3 4 Yo.nd (Yx (Zg (qv 5) (Zg (Zj qI (qv 5) (Zv Zd7 Zi (Zj ZI (Zv Z0 (qv 2) Ze) Ze))) (Zg (Zj qI (Zj qI (Yv Zkh (qv 5) XI (Yq (qv 6))) (Zv Zd7 Zi (Zj ZI (Zv Z0 (qv 2) Ze) Ze))) (Yv Zkh (qv 5) (Yq (Zj YD (qv 6) Ze)) XI)) Zc)))))))) Zw)
   (Za (Z3 7 Yo.nd (Zj ZI (Zj Yc (Zv Z0 (qv 2) Ze) Ze) Ze))
   (Zf (Zp (ZG Z9 (by rfl) T.ah ZU (Zg (Zo kK (by rfl) T.abo kD (Zg (Yv Xx (Zj kB (Yv Xx (qv 4) (Yq (qv 7)) XI) (Yv Xx (qv 4) XI (Yq (qv 7)))) XI (Yq (qv 1))) Zc)) Zc)))))))))),?_⟩
 try dsimp only[L2.cxK,L2.cxK2]
 refine⟨_,U,cell,12,400,U,by decide,by decide,by decide,λp ns H1 hp h1 hl hb s1=>?_⟩;have hx:∀j,j<12->0<=ns.getD j 0/\ns.getD j 0<400:=λj hj=>Zm6 hb j (by lia);refine⟨zln12,λm1 hm1=>?_⟩;refine⟨_,U,Zot,λm2 hm2=>⟨m1,m2,_,_,U,U,Zd hm2 _ _ Zb,Zb,zln16,λm hm=>?_⟩⟩;have s4:=((Zd (o:=.lst [.str "x",.str "y",.str "ab",.str "aba",.str "nots",.str "adda",.str "lowly",.str "z",.str "orb",.str "xx",.str "samer",.str "pickaxes"]) hm1).trans (Zd (o:=.lst [.str "yesx",.str "subx",.str "a",.str "ba"]) hm2)).trans (Zd (o:=.lst (xZ.map V.str)) hm);refine⟨3,U,by decide,by decide,w6 (n:=3) (λi v=>∃y,v=.str y/\xZ[((ns.getD 1 0+(i:Int)*(1+ns.getD 2 0%5))%16).toNat]?=some y) (by decide) (λi hi R hR=>?_) (λvs J O q hq=>?_)⟩
 .have e0:0<=(ns.getD 1 0+(0+(i:Int))*(1+ns.getD 2 0%5))%16:=Qbe _ (by decide);have e1:(ns.getD 1 0+(0+(i:Int))*(1+ns.getD 2 0%5))%16<16:=Qa5 _ (by decide);rw[Qfb]at e0 e1;obtain⟨y,D⟩:∃y,xZ[((ns.getD 1 0+(i:Int)*(1+ns.getD 2 0%5))%16).toNat]?=some y:=⟨_,Qad (by show _<16;lia)⟩;have ey:atI (xZ.map V.str) ((ns.getD 1 0+(0+(i:Int))*(1+ns.getD 2 0%5))%16)=some (.str y):=by
   rw[Qfb];obtain⟨j,hj⟩:∃j:Nat,(ns.getD 1 0+(i:Int)*(1+ns.getD 2 0%5))%16=(j:Int):=⟨_,(Qdi e0).symm⟩;rw[hj,Qay]at D;rw[hj];exact Yb (by rw[Qal,D];rfl)
  exact⟨_,U,_,U,p,_,_,_,U,U,SqL.of (s4 _ _ h1),Z8 1 rfl (by lia),_,U,_,U,p,_,_,_,U,U,SqL.of (s4 _ _ h1),Z8 2 rfl (by lia),_,_,U,U,(by show(0:Int)<5;decide),_,_,U,U,_,_,U,U,.inr (.inl ⟨by lia,by lia⟩),_,_,U,U,_,_,U,U,(by show(0:Int)<16;decide),m,xZ.map V.str,_,_,U,U,SqL.of Zb,ey,hR _ ⟨y,U,D⟩⟩
 obtain⟨ys,rfl,_⟩:=uc (P:=λ_=>True) (λv hv=>by
  obtain⟨i,hi⟩:=Qea.mp hv;obtain⟨y,e,_⟩:=O i v hi;exact⟨y,e,trivial⟩)
 rw[Qac]at J;have hyi:∀(i:Nat)(y:Str),ys[i]?=some y->xZ[((ns.getD 1 0+(i:Int)*(1+ns.getD 2 0%5))%16).toNat]?=some y:=λi y D=>by
  obtain⟨z,e,h⟩:=O i (.str y) (by rw[Qal,D];rfl);injection e with e;rw[e];exact h
 have hys:∀y∈ys,NmS y:=λy D=>by
  obtain⟨i,hi⟩:=Qea.mp D;exact⟨Zjl y (Qag (hyi i y hi)),Zoe y (Qag (hyi i y hi))⟩
 have b2:=hx 2 (by decide);have hyd:ys.Nodup:=Zoh (x:=ns.getD 1 0) (s:=1+ns.getD 2 0%5) (hx 1 (by decide)).1 (by lia) (by lia) J hyi;have s5:=s4.trans (Zd (o:=.lst (ys.map V.str)) hq);refine Zh ?_;refine ua (λσ H'=>∃(q:Au)(ys:Ai)(b a:Option V),σ=[some (.int cell),some (.int many),some (.ref p),some (.ref m),some (.ref q),b,a,none]/\H' q=some (.lst (ys.map V.str))/\ys.length=3/\ys.Nodup/\(∀y∈ys,NmS y)/\ZD H1 H') (λN hN=>?_) ?_
 .refine⟨_,U,p,_,_,_,U,U,SqL.of (s5 _ _ h1),Z8 0 rfl (by lia),_,_,U,U,(by show(0:Int)<2;decide),U,_,U,qG (λ_=>?_) (λ_=>?_)⟩
  .have b1:=hx 1 (by decide);refine⟨U,_,U,p,_,_,_,U,U,SqL.of (s5 _ _ h1),Z8 1 rfl (by lia),_,_,U,U,(by show(0:Int)<7;decide),_,_,U,U,_,U,?_,?_,w6 (n:=(1+ns.getD 1 0%7).toNat) (λ_ v=>∃y,v=.str y/\∃c,y=⟨#[c]⟩/\c∈cns) ?_ (λi hi R hR=>?_) (λvs J O l hl2=>?_)⟩
   .lia
   .lia
   .exact Qax (Zu (by lia))
   .obtain⟨c,G,ec⟩:=ub (z:=("bcdfghjkmpqrtvxz" : Str)) (i:=ns.getD (3+i) 0%16) 16 (by decide +kernel) (Qbe _ (by decide)) (Qa5 _ (by decide));exact⟨_,U,_,U,_,_,U,U,p,_,_,_,U,U,SqL.of (s5 _ _ h1),Z8 (3+i) (by lia) (by lia),_,_,U,U,(by show(0:Int)<16;decide),_,_,c,U,U,by decide +kernel,ec,hR _ ⟨_,U,c,U,G⟩⟩
   obtain⟨zs,rfl,hzs⟩:=uc (P:=λy=>∃c,y=⟨#[c]⟩/\c∈cns) (mem_at O);rw[Qac]at J;obtain⟨f1,f2,f3⟩:=Zfi hzs;have s6:=s5.trans (Zd (o:=.lst (zs.map V.str)) hl2);refine⟨_,l,zs,U,U,SqL.of Zb,?_,?_⟩
   .rw[f3];show zs.length+zs.length*0<=_;lia
   have js:=Zca ("" : Str) (by decide +kernel) zs;rw[<-js]at f1 f2;generalize Txt.join ("" : Str) zs=B at *;have hB:B.length=zs.length:=by rw[len_signs];exact f1
   refine⟨_,U,p,_,_,_,U,U,SqL.of (s6 _ _ h1),Z8 2 rfl (by lia),_,U,B,U,Qax (Zu (by lia)),_,_,U,U,(by show(0:Int)<B.length;lia),?_⟩;try dsimp only
   have a0:0<=ns.getD 2 0%(B.length:Int):=Qbe _ (by lia);have a1:ns.getD 2 0%(B.length:Int)<B.length:=Qa5 _ (by lia);generalize ns.getD 2 0%(B.length:Int)=a at *;obtain⟨j,rfl⟩:∃j:Nat,a=(j:Int):=⟨a.toNat,by lia⟩;obtain⟨c1,hc1,ec1⟩:=ub (z:=("bcdfghjkmpqrtvxz" : Str)) (i:=ns.getD 10 0%16) 16 (by decide +kernel) (Qbe _ (by decide)) (Qa5 _ (by decide));obtain⟨I,hc2,ec2⟩:=ub (z:=("lnsw" : Str)) (i:=ns.getD 11 0%4) 4 (by decide +kernel) (Qbe _ (by decide)) (Qa5 _ (by decide));have hs1:(Txt.slice B none (some (j:Int))).cps.toList=B.cps.toList.take j:=Zim (by lia);have Y:(Txt.slice B (some ((j:Int)+1)) none).cps.toList=B.cps.toList.drop (j+1):=Zb9 (i:=j+1) (by lia);have l1:=Qft B none (some (j:Int));have l2:=Qft B (some ((j:Int)+1)) none;have one:∀c:Nat,(⟨#[c]⟩:Str).length=1:=λ_=>rfl;refine⟨_,U,_,U,_,U,p,_,_,_,U,U,SqL.of (s6 _ _ h1),Z8 10 rfl (by lia),_,_,U,U,(by show(0:Int)<16;decide),_,_,c1,U,U,by decide +kernel,ec1,_,_,U,U,?_,?_⟩
   .rw[one];exact Qax (Zu (by lia))
   refine⟨_,U,_,U,_,U,_,U,Qax (Zu (by lia)),_,U,p,_,_,_,U,U,SqL.of (s6 _ _ h1),Z8 11 rfl (by lia),_,_,U,U,(by show(0:Int)<4;decide),_,_,I,U,U,by decide +kernel,ec2,_,_,U,U,?_,?_⟩
   .rw[one];exact Qax (Zu (by lia))
   refine⟨_,U,_,U,_,_,U,U,_,U,_,U,Qax (Zu (by lia)),_,_,U,U,?_,Zos,λg hg=>?_⟩
   .rw[Str.length_append,one];exact Qax (Zu (by lia))
   refine hN _ _ ⟨g,[B,B++⟨#[c1]⟩,Txt.slice B none (some (j:Int))++⟨#[I]⟩++Txt.slice B (some ((j:Int)+1)) none],_,_,U,Zb,U,?_,?_,s6.trans (Zd hg)⟩
   .have e1:(B++⟨#[c1]⟩:Str).cps.toList=B.cps.toList++[c1]:=Yn _ _;have e2:(Txt.slice B none (some (j:Int))++⟨#[I]⟩++Txt.slice B (some ((j:Int)+1)) none).cps.toList=B.cps.toList.take j++[I]++B.cps.toList.drop (j+1):=by rw[Yn,Yn,hs1,Y]
    have lB:=len_signs B;have jl:j<B.cps.toList.length:=by lia
    have Z:(B.cps.toList.take j++[I]++B.cps.toList.drop (j+1))[j]?=some I:=by
     rw[Qcm,Qa0 (by rw[Qas];lia),Qas,Qdq (by lia),Qd9];rfl
    have nc2:∀c,B.cps.toList[j]?=some c->c≠I:=λc G e=>(Zg7 c (f2 c (Qag G))).2 (by rw[e];exact hc2);have d12:B≠B++⟨#[c1]⟩:=λe=>by
     have:=congrArg (λs:Str=>s.cps.toList.length) e;simp only[e1,Qaf,Qb3,Qey]at this;lia
    have d13:B≠Txt.slice B none (some (j:Int))++⟨#[I]⟩++Txt.slice B (some ((j:Int)+1)) none:=λe=>by
     have e3:=congrArg (λs:Str=>s.cps.toList) e;simp only[e2]at e3;rw[<-e3]at Z;exact nc2 _ Z U
    have d23:B++⟨#[c1]⟩≠Txt.slice B none (some (j:Int))++⟨#[I]⟩++Txt.slice B (some ((j:Int)+1)) none:=λe=>by
     have e3:=congrArg (λs:Str=>s.cps.toList) e;simp only[e1,e2]at e3;rw[<-e3,Qa8 jl]at Z;exact nc2 _ Z U
    simp[d12,d13,d23]
   .intro y D;simp only[Qaw,Qbq,Qet]at D;have lB:=len_signs B;have cn:∀c∈B.cps.toList,Low c/\c∉vow:=λc G=>⟨Zg8 c (f2 c G),(Zg7 c (f2 c G)).1⟩;rcases D with rfl|rfl|rfl
    .exact Zog (by lia) (by lia) cn
    .refine Zog (by rw[Yn,Qaf];lia) (by rw[Yn,Qaf];show _+1<=8;lia) λc G=>?_
     rw[Yn]at G;rcases Qa7.mp G with h|h
     .exact cn c h
     .rw[Qau.mp h];exact⟨Zg8 c1 hc1,(Zg7 c1 hc1).1⟩
    .have el:(B.cps.toList.take j++[I]++B.cps.toList.drop (j+1)).length=B.cps.toList.length:=by
      rw[Qaf,Qaf,Qas,Qbn];show min j _+1+_=_;lia
     refine Zog (by rw[Yn,Yn,hs1,Y,el];lia) (by rw[Yn,Yn,hs1,Y,el];lia) λc G=>?_;rw[Yn,Yn,hs1,Y]at G;rcases Qa7.mp G with h|h
     .rcases Qa7.mp h with h|h
      .exact cn c (Qbw h)
      .rw[Qau.mp h];exact⟨Zjm I hc2,Zof I hc2⟩
     .exact cn c (Qcr h)
  .exact hN _ _ ⟨q,ys,none,none,U,Zb,J,hyd,hys,s5⟩
 rintro σ H' ⟨q,ys,b,a,rfl,hq,hl3,hyd,hys,s6⟩;refine⟨_,U,p,_,_,_,U,U,SqL.of (s6 _ _ h1),Z8 0 rfl (by lia),_,_,U,U,.of (by decide) (by decide),_,_,U,U,(by show(0:Int)<3;decide),?_⟩;try dsimp only
 have t0:0<=ns.getD 0 0/2%3:=by lia
 generalize ns.getD 0 0/2%3=t at *;obtain⟨t,rfl⟩:∃j:Nat,t=(j:Int):=⟨t.toNat,by lia⟩;refine⟨_,U,_,U,_,U,q,_,U,SqL.of hq,λl1 hl1=>?_⟩;rw[Xq,wy];have u1:=Zd (o:=.lst ((ys.drop t).map V.str)) hl1;refine⟨_,U,_,U,_,U,q,_,U,SqL.of (u1 _ _ hq),λl2 hl2=>?_⟩;rw[Xq,zN];have u2:=Zd (o:=.lst ((ys.take t).map V.str)) hl2;refine⟨l1,l2,_,_,U,U,u2 _ _ Zb,Zb,?_,λl3 hl3'=>?_⟩
 .rw[Qac,Qac,Qbn,Qas];exact Qax (Zu (by lia))
 rw[<-Qbd];have u3:=Zd (o:=.lst ((ys.drop t++ys.take t).map V.str)) hl3';refine⟨_,U,_,U,l3,_,U,SqL.of Zb,λl4 hl4=>?_⟩;rw[Xq,zN];have u4:=Zd (o:=.lst (((ys.drop t++ys.take t).take many).map V.str)) hl4;refine⟨l4,_,U,SqL.of Zb,?_,λl5 ms hl5 hpm hsr=>⟨l5,_,U,.inl ⟨SqL.of Zb,λl6 hl6=>?_⟩⟩⟩
 .rw[Qas];lia
 have u5:=Zd (o:=.lst (ms.map V.str)) hl5;have u:=s1.trans (s6.trans (((u1.trans u2).trans (u3.trans u4)).trans u5));refine k l6 ms _ (u.free hl6) Zb ?_ ?_ ?_ hsr (u.trans (Zd hl6))
 .rw[hpm.length_eq,Qas,Qaf,Qbn,Qas];lia
 .refine hpm.nodup_iff.mpr (List.Nodup.sublist (List.take_sublist _ _) ?_);exact(List.perm_append_comm.nodup_iff).mpr (by rw[Qbx];exact hyd)
 .intro y D;have:=Qbw (hpm.mem_iff.mp D);rcases Qa7.mp this with z|z
  .exact hys y (Qcr z)
  .exact hys y (Qbw z)
inductive xE:Prop
 |mk(pn tn:Au)(ns:Ak)(ys:Ai)(most:Nat):vs=[.ref pn,.ref tn,.int most]->H pn=some (.lst (ns.map V.int))->1<=ns.length->ns.length<=20->(∀x∈ns,0<=x)->H tn=some (.tup (ys.map V.str))->ys.length<=3->(∀y∈ys,y∉YA)->(∀p ws H',H' p=some (.tup ws)->ws.length<2*ns.length->(∀w∈ws,XB ys 10 w)->Yf ws->Wr ws=1->YJ ws<=most->ZD H H'->Q (.ref p) H')->xE
def Zcz(K:Af):Sp:=λvs H Q _=>xE vs H Q
def Y2 (y:Str):Nat:=if y = "pick" then 3 else if y∈(["not","neg","twice","low"]:Ai)then 1 else 2
omit T TB in
theorem Zc0:∀y∈Gd,Ys y=Y2 y:=by decide +kernel
omit T TB in
theorem Zoi(y:Str):1<=Y2 y/\Y2 y<=3:=by
 unfold Y2;split
 .lia
 .split<;>lia
theorem yR:Y1 P w K mg base CX0 2 t.abd t.abe ["numbers","names","most"] (Zcz K):=by
 have G_law_atom:=uJ P base T TB;have Y:=Gx P base T TB;have G_law_word:=uL P base T TB;refine T.bh.go ZW ?_;rintro cdv A outer s H _ Q E Z ⟨pn,tn,ns,ys,F,rfl,hpn,h1,h20,hns,htn,hy3,hyk,k⟩;refine⟨_,(Za (Z3 3 ZW.nd (Yx Zc))
   (Za (Z3 4 ZW.nd (qv 2))
   (Za (Yh Qa4 U (Xi (qv 0)) (Y0 5 ZW.nd)
   (Za (Z3 6 ZW.nd (Zl T.aam G_law_word Z (Zg (qv 5) (Zg (qv 4) Zc))))
   (Za (Z3 7 ZW.nd Ze)
   (Za (ZF (Zr Ye (qv 6) (Zs (Zg Zi (Zg Zi (Zg Zi (Zg Zi Zc))))) (by with_unfolding_all rfl))
   (Zf (Z3 7 ZW.nd Ze)) Zw)
   (Za (ZF (Zr Yk (qv 6) Zi (Z7 _))
   (Zf (Z3 7 ZW.nd Ze)) Zw)
   (Zf (ZF (GL (GJ (Zr Yk (qv 6) Zi (Z7 _)) (GI (Zr kx (Zo Zt (by rfl) T.af ZR (Zg (qv 3) Zc)) (qv 7) (Z7 _)))))
   (Zf (ZE (ZP Qaj Qap Qaq Z4 (qv 3) (Zg (Zl T.aal G_law_atom Z (Zg (qv 5) (Zg (qv 1) Zc))) Zc)))) (Za (Z3 4 ZW.nd (Zj WZ (qv 4) (Zl T.cb Y Z (Zg (Yx (Zg (qv 6) Zc)) Zc))))
   (Za (Z3 8 ZW.nd (Zs (Zg (qv 6) Zc)))
   (Za (Yh Qa4 U (Xi (Yv Xx (qv 3) (Yq (Zj WZ (Zo Zt (by rfl) T.af ZR (Zg (qv 3) Zc)) (qv 7))) XI)) (Y0 9 ZW.nd)
   (Zf (Z3 8 ZW.nd (Zj Zn (qv 8) (qv 9)))))
   (Zf (Z3 3 ZW.nd (Zj kB (Yv Xx (qv 3) XI (Yq (Zj WZ (Zo Zt (by rfl) T.af ZR (Zg (qv 3) Zc)) (qv 7)))) (Yx (Zg (qv 8) Zc)))))))))))))))
   (Za (Zab Qa4 (Zr Zlu (Zo Zt (by rfl) T.af ZR (Zg (qv 3) Zc)) Ze (Z7 _))
   (Zf (Z3 3 ZW.nd (Zj kB (Yv Xx (qv 3) XI (Yq (XH X3 Ze))) (Yx (Zg (Zj Zn (Zj Zn (Zs (Zg (Zv Z0 (Yx (Zg Zi (Zg Zi (Zg Zi Zc)))) (Zj ZI (Zo Zt (by rfl) T.af ZR (Zg (qv 3) Zc)) Ze)) Zc)) (Zv Z0 (qv 3) (XH X3 Ze))) (Zv Z0 (qv 3) (XH X3 Ze))) Zc))))))
   (Zf (Zp (Zv Z0 (qv 3) Ze))))))),?_⟩
 try dsimp only[L2.cxK,L2.cxK2]
 refine⟨Zjo,λG hso=>Zh ⟨_,U,Zh ?_⟩⟩;have s0:=Zd (o:=.lst []) hso;refine⟨_,U,pn,U,⟨_,SqL.of (s0 _ _ hpn)⟩,JQ (K:=K) (a:=pn) (xs:=ns.map V.int) (λi σ H2=>∃(G:Au)(left:Nat)(u5 u6 u7 u8 u9:Option V)(zs:A0)(C:Ax),σ=[some (.ref pn),some (.ref tn),some (.int F),some (.ref G),some (.int left),u5,u6,u7,u8,u9]/\H2 G=some (.lst zs)/\H G=none/\YB H2 zs C/\uo ys C/\YJ C.flatten+left=F/\C.flatten.length<=i/\C.length<=i/\(1<=i->1<=C.length)/\i<=ns.length/\ZD H H2) ⟨G,F,none,none,none,none,none,[],[],U,Zb,hso,YB.nil,(λps hp=>by cases hp),Qhg _,Qai _,Qai _,(λh=>absurd h (Nat.not_succ_le_zero _)),Qbj _,s0⟩ (λi σ H2 _ ⟨_,_,_,_,_,_,_,_,_,_,_,_,_,_,_,_,_,_,_,s⟩=>SqL.of (s _ _ hpn)) ?_ ?_⟩
 .rintro i x σ H2 hx ⟨G,left,u5,u6,u7,u8,u9,zs,C,rfl,h2,hso0,R2,G2,I,hfl,hpl,hp1,_,s2⟩;rw[Qal]at hx;obtain⟨n,hn,rfl⟩:=Qbp.mp hx;have hi:i<ns.length:=(Qah.mp hn).1;have hn0:=hns n (Qag hn);have hzl:=R2.1;refine⟨_,U,_,U,n,(left:Int),U,hn0,λy H3 hy hyr s3=>Zh ?_⟩;have s23:=s2.trans s3;have h3:=s3 _ _ h2;have R3:=R2.same s3;refine ua (λσ H'=>σ=[some (.ref pn),some (.ref tn),some (.int F),some (.ref G),some (.int left),some (.int n),some (.str y),some (.int 2),u8,u9]/\H'=H3) (λN hN=>hN _ _ ⟨U,U⟩) ?_;rintro σ H3 ⟨rfl,rfl⟩;refine Zaf (λσ H'=>σ=[some (.ref pn),some (.ref tn),some (.int F),some (.ref G),some (.int left),some (.int n),some (.str y),some (.int (if y∈(["not","neg","twice","low"]:Ai)then 1 else 2)),u8,u9]/\ZD H3 H') (λN hN=>?_) ?_
  .refine⟨_,U,Zot,λq hq=>⟨q,_,U,.inr (SqT.of Zb),U,U,_,U,?_⟩⟩;show if inV (.str y) ((["not","neg","twice","low"]:Ai).map V.str)=true then _ else _;rw[ZO];have sq:=Zd (o:=.tup [.str "not",.str "neg",.str "twice",.str "low"]) hq
   by_cases h:y∈(["not","neg","twice","low"]:Ai)
   .rw[Qa9 h]at hN;rw[Qar h];exact YN (hN _ _ ⟨U,sq⟩)
   .rw[Qa6 h]at hN;rw[Qan h];exact Yu (hN _ _ ⟨U,sq⟩)
  rintro σ H4 ⟨rfl,s4⟩;refine Zaf (λσ H'=>σ=[some (.ref pn),some (.ref tn),some (.int F),some (.ref G),some (.int left),some (.int n),some (.str y),some (.int (Y2 y:Int)),u8,u9]/\H'=H4) (λN hN=>?_) ?_
  .refine⟨_,U,U,_,U,?_⟩;unfold Y2 at hN
   by_cases h:y = "pick"
   .rw[Qa9 h]at hN;rw[Qar (congrArg V.str h)];exact YN (hN _ _ ⟨U,U⟩)
   .rw[Qa6 h]at hN;rw[Qan λz=>h (by injection z)];refine Yu (hN _ _ ⟨?_,U⟩);split<;>rfl
  rintro σ H5 ⟨rfl,rfl⟩;have s24:=s23.trans s4;have h4:=s4 _ _ h3;have R4:=R3.same s4;have hbw:=Zoi y;have atom:∀(D:Ends),(∀σ' H',(∃(G:Au)(left:Nat)(u5 u6 u7 u8 u9:Option V)(zs:A0)(C:Ax),σ'=[some (.ref pn),some (.ref tn),some (.int F),some (.ref G),some (.int left),u5,u6,u7,u8,u9]/\H' G=some (.lst zs)/\H G=none/\YB H' zs C/\uo ys C/\YJ C.flatten+left=F/\C.flatten.length<=i+1/\C.length<=i+1/\(1<=i+1->1<=C.length)/\i+1<=ns.length/\ZD H H')->D.nx σ' H')->Zde (tBM K "list" g9 (yT 3) (qJ (Zd0 (j5 K) [] E0 (qJ (yT 5) (qJ (yT 1) Zhb))) Zhb)) D [some (.ref pn),some (.ref tn),some (.int F),some (.ref G),some (.int left),some (.int n),some (.str y),some (.int (Y2 y:Int)),u8,u9] H5:=by
   intro D hD;refine⟨_,U,.inl ⟨U,_,SqL.of h4⟩,_,U,_,U,n,tn,ys,U,hn0,s24 _ _ htn,by lia,λp w H6 hp0 hp hleaf s6=>?_⟩;have h6:=s6 _ _ h4;obtain⟨w1,w2,w3⟩:=JG hyk hleaf;refine⟨G,_,_,U,U,h6,Zu (by lia),hD _ _ ⟨G,left,_,_,_,_,_,zs++[.ref p],C++[[w]],U,Zb,hso0,?_,?_,?_,?_,?_,?_,hi,ZV (s24.trans s6) hso0⟩⟩
   .exact(xb (λb xs e=>by rw[Zm (Xv e h6 λz=>nomatch z)];exact e) (R4.same s6)).snoc (by rw[Zm (Xv hp h6 λz=>nomatch z)];exact hp)
   .intro ps hps;rcases Qa7.mp hps with hps|hps
    .exact G2 ps hps
    .rw[Qau.mp hps];exact⟨Zcj w2,λv hv=>by rw[Qau.mp hv];exact w1⟩
   .rw[Qcx,zm];show YJ C.flatten+YJ [w]+left=F;rw[JF,w3];exact I
   .rw[Qcx,Qaf];show _+1<=_;lia
   .rw[Qaf];show _+1<=_;lia
   .intro _;rw[Qaf];show 1<=_+1;lia
  refine⟨_,U,U,_,U,?_⟩
  by_cases hye:y = ""
  .rw[Qar (congrArg V.str hye)];exact YN (YN (atom _ λ_ _ z=>z))
  rw[Qan λz=>hye (by injection z)];refine Yu ⟨_,U,G,_,U,.inl (SqL.of h4),_,U,_,_,U,U,_,U,qG (λ_=>atom _ λ_ _ z=>z) (λhlt=>?_)⟩;have hw:Y2 y<=zs.length:=by
   have:¬((zs.length:Int)<(Y2 y:Int)):=λz=>hlt (Qar z);lia
  have hys:y∈Gd:=hy.resolve_left hye;obtain⟨w1,w2,w3⟩:=WO hyk hys;refine⟨_,U,_,U,Zbm,λq hq=>⟨q,[.str y],U,.inl Zb,(λv hv=>.inl ⟨y,Qau.mp hv⟩),by show 1<=100;decide,λH6 s6=>⟨_,_,U,U,Zh ?_⟩⟩⟩;have s56:=(Zd (o:=.lst [.str y]) hq).trans s6;obtain⟨O,hl'⟩:∃O:Nat,(left:Int)-(([V.str y].filter qg).length:Int)=(O:Int)/\left=O+if y∈Wk then 1 else 0:=by
   by_cases Z:y∈Wk
   .have h0:left≠0:=λz=>hyr (by rw[z];rfl) Z
    have e:[V.str y].filter qg=[.str y]:=List.filter_cons_of_pos (Qar Z);exact⟨left-1,by rw[e];show(left:Int)-1=_;lia,by rw[Qa9 Z];lia⟩
   .have e:[V.str y].filter qg=[]:=List.filter_cons_of_neg λz=>Z (Qba z)
    exact⟨left,by rw[e];show(left:Int)-0=_;lia,by rw[Qa6 Z];lia⟩
  try dsimp only
  rw[hl'.1];refine⟨_,U,Zbm,λb0 hb0=>Zh ?_⟩;have s57:=s56.trans (Zd (o:=.tup [.str y]) hb0);have h7:=s57 _ _ h4;have R7:=R4.same s57;have hb7:=Zb (H:=H6) (a:=b0) (o:=.tup [.str y]);try dsimp only
  generalize upd H6 b0 (.tup [.str y])=H7 at *;have ecut:qK zs (some ((zs.length:Int)-(Y2 y:Int))) none=zs.drop (zs.length-Y2 y):=by
   rw[show((zs.length:Int)-(Y2 y:Int))=((zs.length-Y2 y:Nat):Int) by lia];exact ja zs _
  have ecut2:qK zs none (some ((zs.length:Int)-(Y2 y:Int)))=zs.take (zs.length-Y2 y):=by
   rw[show((zs.length:Int)-(Y2 y:Int))=((zs.length-Y2 y:Nat):Int) by lia];exact qj zs _
  refine⟨_,U,_,U,G,_,U,.inl (SqL.of h7),_,U,_,_,U,U,_,U,G,_,U,SqL.of h7,λl1 hl1=>⟨l1,U,⟨_,SqL.of Zb⟩,?_⟩⟩;have s78:=Zd (o:=.lst (qK zs (some ((zs.length:Int)-(Y2 y:Int))) none)) hl1;have h8:=s78 _ _ h7;have R8:=R7.same s78;have hb8:=s78 _ _ hb7;have hl18:=Zb (H:=H7) (a:=l1) (o:=.lst (qK zs (some ((zs.length:Int)-(Y2 y:Int))) none));have s28:=s24.trans (s57.trans s78);refine JQ (K:=K) (a:=l1) (xs:=qK zs (some ((zs.length:Int)-(Y2 y:Int))) none) (λj σ H'=>∃(bt9:Au)(u9:Option V),σ=[some (.ref pn),some (.ref tn),some (.int F),some (.ref G),some (.int O),some (.int n),some (.str y),some (.int (Y2 y:Int)),some (.ref bt9),u9]/\H' bt9=some (.tup (.str y::((C.drop (C.length-Y2 y)).take j).flatten))/\ZD (upd H7 l1 (.lst (qK zs (some ((zs.length:Int)-(Y2 y:Int))) none))) H') ⟨b0,_,U,hb8,ZD.refl _⟩ (λj σ H' _ ⟨_,_,_,_,s⟩=>SqL.of (s _ _ hl18)) ?_ ?_
  .rintro j x σ H9 hx ⟨bt9,u9,rfl,hb9,s9⟩;rw[ecut,hzl]at hx;obtain⟨a,r,rfl,Z,ha⟩:=(R8.drop (C.length-Y2 y)).at hx;have hlen:((C.drop (C.length-Y2 y)).take j).flatten.length+r.length<=100:=by
    have e1:((C.drop (C.length-Y2 y)).take (j+1)).flatten.length<=C.flatten.length:=by
     have e2:C.flatten=(C.take (C.length-Y2 y)).flatten++(((C.drop (C.length-Y2 y)).take (j+1)).flatten++((C.drop (C.length-Y2 y)).drop (j+1)).flatten):=by rw[<-Qcx,Qbx,<-Qcx,Qbx]
     rw[e2,Qaf,Qaf];lia
    rw[take_snoc Z,Qcx,Qaf,Qe7,Qfy,Qbk]at e1;lia
   refine⟨_,U,_,U,bt9,a,_,_,U,U,hb9,s9 _ _ ha,?_,λp9 H10 hp9 s10=>⟨p9,_,U,?_,s9.trans s10⟩⟩
   .rw[Qb3];exact Qax (Zu (by lia))
   .rw[hp9,take_snoc Z,Qcx,Qe7,Qfy,Qbk,Qg8]
  .rintro σ H9 ⟨bt9,u9,rfl,hb9,s9⟩;rw[ecut,Qbn,hzl,Qbv (by rw[Qbn];lia)]at hb9;have h9:=s9 _ _ h8;refine⟨_,U,_,U,G,_,U,.inl (SqL.of h9),_,U,_,_,U,U,_,U,G,_,U,SqL.of h9,λl2 hl2=>⟨_,U,Zbm,λl3 hl3=>?_⟩⟩;rw[ecut2]at hl3 ⊢;have s10:=Zd (o:=.lst (zs.take (zs.length-Y2 y))) hl2;have s11:=s10.trans (Zd (o:=.lst [.ref bt9]) hl3);refine⟨l2,l3,_,_,U,U,Zd hl3 _ _ Zb,Zb,?_,λl4 hl4=>?_⟩
   .rw[Qas];exact Qax (Zu (by show _+1<=_;lia))
   have s12:=s11.trans (Zd (o:=.lst (zs.take (zs.length-Y2 y)++[.ref bt9])) hl4);have s2z:=s28.trans (s9.trans s12);obtain⟨f1,f2⟩:=wI C (.str y) (C.length-Y2 y);refine⟨l4,O,_,_,_,_,_,zs.take (zs.length-Y2 y)++[.ref bt9],C.take (C.length-Y2 y)++[.str y::(C.drop (C.length-Y2 y)).flatten],U,Zb,(s28.trans (s9.trans s11)).free hl4,?_,G2.word hyk hys (Zc0 y hys) (by lia),?_,by lia,?_,?_,hi,s2z⟩
   .have e9:C.length-Y2 y=zs.length-Y2 y:=by lia
    rw[e9]at hb9 ⊢;exact((R8.same (s9.trans s12)).take _).snoc (s12 _ _ hb9)
   .rw[f2,w3];have:=hl'.2
    by_cases Z:y∈Wk
    .rw[Qa9 Z]at this;rw[Qa9 (Qar Z)];lia
    .rw[Qa6 Z]at this;rw[Qa6 (λz=>Z (Qba z))];lia
   .rw[Qaf,Qas];show _+1<=_;lia
   .intro _;rw[Qaf];show 1<=_+1;lia
 .rintro σ H2 ⟨G,left,u5,u6,u7,u8,u9,zs,C,rfl,h2,hso0,R2,G2,I,hfl,hpl,hp1,_,s2⟩;rw[Qac]at hfl hpl hp1;have hp1:=hp1 h1;refine Zfk (λσ H2=>∃(G:Au)(zs:A0)(C:Ax),σ=[some (.ref pn),some (.ref tn),some (.int F),some (.ref G),some (.int left),u5,u6,u7,u8,u9]/\H2 G=some (.lst zs)/\YB H2 zs C/\uo ys C/\YJ C.flatten<=F/\C.flatten.length+C.length<=2*ns.length/\1<=C.length/\ZD H H2) (λσ H=>match σ with|[_,_,_,some (.ref G),_,_,_,_,_,_]=>(match H G with|some (.lst zs)=>zs.length|_=>0)|_=>0) ⟨G,zs,C,U,h2,R2,G2,by lia,by lia,hp1,s2⟩ ?_;rintro σ H2 ⟨G,zs,C,rfl,h2,R2,G2,I,hfl,hp1,s2⟩;have hzl:=R2.1;refine⟨_,U,G,_,U,.inl (SqL.of h2),_,_,U,U,_,U,qG (λhgt=>?_) (λhng=>?_)⟩
  .have hz2:2<=zs.length:=by
    have:=Qba hgt;lia
   refine⟨λσ' H'=>∃(G:Au)(zs':A0)(J:Ax),σ'=[some (.ref pn),some (.ref tn),some (.int F),some (.ref G),some (.int left),u5,u6,u7,u8,u9]/\H' G=some (.lst zs')/\YB H' zs' J/\uo ys J/\YJ J.flatten<=F/\J.flatten.length+J.length<=2*ns.length/\1<=J.length/\zs'.length<zs.length/\ZD H H',?_,?_⟩
   .rintro σ' H' ⟨so',zs',J,rfl,g1,g2,g3,g4,g5,g6,g7,g8⟩;refine⟨zs'.length,?_,?_,so',zs',J,U,g1,g2,g3,g4,g5,g6,g8⟩
    .show zs'.length<(match H2 G with|some (.lst zs)=>zs.length|_=>0);rw[h2];exact g7
    .show _=(match H' so' with|some (.lst zs)=>zs.length|_=>0);rw[g1]
   .have pl:C.length=zs.length:=hzl.symm;obtain⟨a,ha1,ha⟩:=R2.2 (zs.length-2) _ (Qad (by lia));obtain⟨b,hb1,hb⟩:=R2.2 (zs.length-1) _ (Qad (by lia));have at2:=Zbd (n:=2) ha1 (by lia) (by decide);have at1:=Zbd (n:=1) hb1 (by lia) (by decide);have ecut:qK zs none (some (-2))=zs.take (zs.length-2):=wJ (xs:=zs) (n:=2) hz2 (by decide);have e2:C.drop (zs.length-2)=[C[zs.length-2]'(by lia),C[zs.length-1]'(by lia)]:=by
     rw[Qb2 (by lia),Qb2 (by lia),List.drop_of_length_le (by lia)];congr 2;congr 1;lia
    generalize C[zs.length-2]'(by lia)=pa at *;generalize C[zs.length-1]'(by lia)=pb at *;have hpab:pa.length+pb.length<=C.flatten.length:=by
     have e3:C.flatten=(C.take (zs.length-2)).flatten++(C.drop (zs.length-2)).flatten:=by rw[<-Qcx,Qbx]
     rw[e3,e2,Qaf];show _<=_+(pa++(pb++[])).length;rw[Qbk,Qaf];lia
    obtain⟨y,hy,ey⟩:=zh (ys:=["and","or","odd"]) (i:=(zs.length:Int)%3) (Qbe _ (by decide)) (Qa5 _ (by decide));obtain⟨y1,y2,y3⟩:=(by decide +kernel:∀z∈(["and","or","odd"]:Ai),z∈Gd/\z∉Wk/\Ys z=2) y hy;obtain⟨w1,w2,w3⟩:=WO hyk y1;refine⟨_,U,_,U,_,U,G,_,U,SqL.of h2,λl1 hl1=>⟨Zos,λg hg=>?_⟩⟩;have s3:=Zd (o:=.lst (qK zs none (some (-2)))) hl1;have s4:=s3.trans (Zd (o:=.lst [.str "and",.str "or",.str "odd"]) hg);refine⟨_,U,G,_,U,.inl (SqL.of (s4 _ _ h2)),_,_,U,U,(by show(0:Int)<3;decide),g,_,_,_,U,U,SqL.of Zb,ey,Zbm,λq1 hq1=>?_⟩;have s5:=s4.trans (Zd (o:=.tup [.str y]) hq1);refine⟨_,U,_,U,G,_,-2,.ref a,U,U,SqL.of (s5 _ _ h2),at2,q1,a,_,_,U,U,Zb,s5 _ _ ha,?_,λq2 H6 hq2 s6=>?_⟩
    .exact Qax (Zu (by show 1+_<=_;lia))
    have s26:=s5.trans s6;refine⟨_,U,_,U,G,_,-1,.ref b,U,U,SqL.of (s26 _ _ h2),at1,q2,b,_,_,U,U,hq2,s26 _ _ hb,?_,λq3 H7 hq3 s7=>⟨Zbm,λl3 hl3=>⟨l1,l3,qK zs none (some (-2)),[.ref q3],U,U,?_,Zb,?_,λl4 hl4=>?_⟩⟩⟩
    .exact Qax (Zu (by rw[Qaf];show 1+_+_<=_;lia))
    .exact((Zd hg).trans ((Zd hq1).trans (s6.trans (s7.trans (Zd hl3))))) _ _ Zb
    .rw[ecut,Qas];exact Qax (Zu (by show _+1<=_;lia))
    have s8:=s26.trans (s7.trans (Zd (o:=.lst [.ref q3]) hl3));have s9:=s8.trans (Zd (o:=.lst (qK zs none (some (-2))++[.ref q3])) hl4);obtain⟨f1,f2⟩:=wI C (.str y) (zs.length-2);have G3:=G2.word hyk y1 y3 (by lia);rw[show C.length-2=zs.length-2 by lia]at G3;rw[e2]at f1 f2 G3;have efl:[pa,pb].flatten=pa++pb:=by simp
    rw[efl]at f1 f2 G3;have hq3':H7 q3=some (.tup (.str y::(pa++pb))):=by rw[hq3];rfl
    refine Zh ⟨l4,zs.take (zs.length-2)++[.ref q3],C.take (zs.length-2)++[.str y::(pa++pb)],U,?_,?_,G3,?_,?_,?_,?_,s2.trans s9⟩
    .rw[Zb,ecut]
    .exact((R2.same s9).take _).snoc (((Zd hl3).trans (Zd hl4)) _ _ hq3')
    .rw[f2,w3,Qa6 (λz=>y2 (Qba z))];exact I
    .rw[f1,Qaf,Qas];show _+1+(_+1)<=2*ns.length;lia
    .rw[Qaf];show 1<=_+1;lia
    .rw[Qaf,Qas];show _+1<_;lia
  .have hz1:zs.length=1:=by
    have:¬((1:Int)<(zs.length:Int)):=λz=>hng (Qar z);lia
   match zs,C,hz1,hzl,R2,G2,I,hfl,h2 with
   |[z],[ps],_,_,R2,G2,I,hfl,h2=>
    obtain⟨a,r,rfl,Z,ha⟩:=R2.at (i:=0) rfl;cases Z;obtain⟨g1,g2⟩:=G2 ps Qam;obtain⟨e1,e2⟩:=g1.one;rw[Qe7,Qfy,Qbk]at I hfl;exact⟨_,U,G,_,0,_,U,U,SqL.of h2,U,k a ps H2 ha (by lia) g2 e1 e2 I s2⟩
inductive G1:Prop
 |mk(tw dv:Au)(W B:Nat)(ys:Ai)(ws:A0)(kvs:Ay)(ρ:Str->Int)(o:Int):vs=[.ref tw,.int W,.ref dv]->W<=1000000->H tw=some (.tup ws)->ws.length<=100->H dv=some (.dK kvs)->Zcd kvs ys ρ->(∀y∈ys,0<=ρ y/\ρ y<2^W)->(∀w∈ws,XB ys B w)->Yf ws->YG (2^W) ρ ws=[o]->(∀H',ZD H H'->Q (.int o) H')->G1
def gm(K:Af):Sp:=λvs H Q _=>G1 vs H Q
omit T TB in
theorem Zjn{H:Hp}{st:Au}{a:Int}{l:Ak}(h:H st=some (.lst ((a::l).map V.int).reverse)):H st=some (.lst ((l.map V.int).reverse++[.int a])):=by grind
theorem xF:Y1 P w K mg base CX0 2 t.ro t.rp ["words","width","values"] (gm K):=by
 have J:=Zcu P base T TB;have I:=Zcw P base T TB;refine T.bc.go YO ?_;rintro cdv A outer s H _ Q E hr ⟨tw,dv,W,B,ys,g,kvs,ρ,o,rfl,hW,ht,hl,hd,hc,hρ,hw,he,hrun,k⟩;have hu:=qL hr;refine⟨_,(Za (Z3 3 YO.nd (Zj uY Ze (qv 1)))
   (Za (Z3 4 YO.nd (Yx Zc))
   (Za (Yh Qa4 U (Xb (qe_rev rv_tup (qv 0) (XH X3 Ze))) (Y0 5 YO.nd)
   (Zf (ZF (YE (Zo YI (by rfl) T.ag ZL (Zg (qv 5) (Zg (Xz (v:=.ty "int") (by rfl) T.om kE U) Zc))))
   (Zf (ZE (ZP Qaj Qap Qaq Z4 (qv 4) (Zg (Zj ZI (qv 5) (qv 3)) Zc)))) (Zf (ZF (Zr (qQ hu) (qv 5) (qv 2) (by with_unfolding_all rfl))
   (Zf (ZE (ZP Qaj Qap Qaq Z4 (qv 4) (Zg (WE hu (qv 2) (qv 5) (λ_ _=>U)) Zc)))) (Zf (ZF (Zr Ye (qv 5) (Zs (Zg Zi (Zg Zi (Zg Zi (Zg Zi Zc))))) (by with_unfolding_all rfl))
   (Zf (ZE (ZP Qaj Qap Qaq Z4 (qv 4) (Zg (Zj ZI (Zl T.abj J hr (Zg (qv 5) (Zg (xo Qaj Qds Qdt yn (qv 4)) Zc))) (qv 3)) Zc)))) (Za (Z3 6 YO.nd (xo Qaj Qds Qdt yn (qv 4)))
   (Za (Z3 7 YO.nd (xo Qaj Qds Qdt yn (qv 4)))
   (Zf (ZF (Zr Yk (qv 5) Zi (Z7 _))
   (Zf (ZE (ZP Qaj Qap Qaq Z4 (qv 4) (Zg (Zj jH (Zj Xa (qv 6) (qv 7)) (Zj Xa (Zj WZ (Zj WZ (qv 3) Ze) (qv 6)) (xo Qaj Qds Qdt yn (qv 4)))) Zc)))) (Zf (ZE (ZP Qaj Qap Qaq Z4 (qv 4) (Zg (Zj ZI (Zl T.abk I hr (Zg (qv 5) (Zg (qv 6) (Zg (qv 7) Zc)))) (qv 3)) Zc)))))))))))))))
   (Zf (Zp (Zv Z0 (qv 4) Ze)))))),?_⟩
 try dsimp only[L2.cxK,L2.cxK2]
 refine⟨_,U,_,_,U,U,⟨Qcg _,by lia,by decide⟩,?_⟩;try dsimp only
 rw[Int.one_mul,Qay];refine Zh ⟨Zjo,λst F=>Zh ?_⟩;have s1:=Zd (o:=.lst []) F;have hp:=XA W;have rb:∀r:A0,∀x∈YG (2^W) ρ r,0<=x/\x<2^W:=λr=>by
  induction r with
  |nil=>exactλx h=>by cases h
  |cons w r ih=>
   intro x hx;rcases Qaw.mp hx with rfl|hx
   .exact⟨Qbe _ (Qem hp),Qa5 _ hp⟩
   .exact ih x (Qcr hx)
 refine⟨_,U,1,U,U,tw,_,U,SqT.of (s1 _ _ ht),λO htr=>⟨_,U,⟨_,SqT.of Zb⟩,?_⟩⟩;have s2:=s1.trans (Zd (o:=.tup g.reverse) htr);have htr2:upd (upd H st (.lst [])) O (.tup g.reverse) O=some (.tup g.reverse):=Zb;have hst2:upd (upd H st (.lst [])) O (.tup g.reverse) st=some (.lst []):=Zd htr _ _ Zb;have Y:O≠st:=λz=>by rw[z,Zb]at htr;cases htr
 generalize upd (upd H st (.lst [])) O (.tup g.reverse)=H0 at *;refine W9 (K:=K) (a:=O) (xs:=g.reverse) (λi σ H2=>∃u5 u6 u7,σ=[some (.ref tw),some (.int W),some (.ref dv),some (.int (2^W)),some (.ref st),u5,u6,u7]/\i<=g.length/\H2 st=some (.lst ((YG (2^W) ρ (g.drop (g.length-i))).map V.int).reverse)/\H2 O=some (.tup g.reverse)/\ZD H H2) ⟨none,none,none,U,Qbj _,?_,htr2,s2⟩ (λi σ H2 _ ⟨_,_,_,_,_,_,e,_⟩=>SqT.of e) ?_ ?_
 .rw[Qgn,Qe8];exact hst2
 .rintro i x σ H2 hx ⟨u5,u6,u7,rfl,hi0,D,h2t,s3⟩;obtain⟨hi,hx⟩:=Zku hx;have ed:g.drop (g.length-(i+1))=x::g.drop (g.length-i):=by
   rw[show g.length-(i+1)=g.length-1-i by lia,Qb2 (by lia),show g.length-1-i+1=g.length-i by lia];congr 1;exact(Qah.mp hx).2
  have hwx:=hw x (Qag hx);have hen:=G8 g (g.length-(i+1)) he;rw[ed]at hen ⊢;have hln:=WM (2^W) ρ (g.drop (g.length-i));have hle2:=vx (g.drop (g.length-i));rw[Qbn]at hle2;have hrb:=rb (g.drop (g.length-i));have eX:YG (2^W) ρ (x::g.drop (g.length-i))=(wwv ρ x ((YG (2^W) ρ (g.drop (g.length-i))).take (npw x))%2^W)::(YG (2^W) ρ (g.drop (g.length-i))).drop (npw x):=rfl;rw[eX];generalize g.drop (g.length-i)=r at *;have hn:=hen.1;generalize YG (2^W) ρ r=G at *;have fin:∀(v:Int)(Hx:Hp)(l:Ak),l.length<=100->Hx st=some (.lst (l.map V.int).reverse)->Hx O=some (.tup g.reverse)->ZD H Hx->((l.map V.int).reverse).length<sizeLine/\upd Hx st (.lst ((l.map V.int).reverse++[.int v])) st=some (.lst ((v::l).map V.int).reverse)/\upd Hx st (.lst ((l.map V.int).reverse++[.int v])) O=some (.tup g.reverse)/\ZD H (upd Hx st (.lst ((l.map V.int).reverse++[.int v]))):=λv Hx l hl' e1 e2 sx=>by
   refine⟨?_,by rw[Zb,Qb1,Qdh],by rw[Zm Y];exact e2,ZV sx F⟩;rw[Qd3,Qac];exact Zu (by lia)
  have hsk:G.length<=100:=by lia
  rcases hwx with⟨y,rfl,hy,hny,C⟩|⟨y,rfl,hy,hnr,C⟩|⟨z,rfl,z0,z1,C⟩
  .refine⟨_,U,_,_,_,_,U,.str y,YK,_,U,Yu ⟨_,U,_,U,dv,Yp kvs (.inr y),U,.inl ⟨kvs,.inr y,.inl (s3 _ _ hd),U,U⟩,_,U,?_⟩⟩;show if(Yp kvs (.inr y)).isSome=true then _ else _;rw[hc.2 y hny];refine Yu ⟨_,U,Zot,λq hq=>⟨q,_,U,.inr (SqT.of Zb),U,U,_,U,?_⟩⟩;show if inV (.str y) ((["not","neg","twice","low"]:Ai).map V.str)=true then _ else _;rw[ZO];have s4:=Zd (o:=.tup [.str "not",.str "neg",.str "twice",.str "low"]) hq;have h3s:=s4 _ _ D;have h3t:=s4 _ _ h2t;have s5:=s3.trans s4;generalize upd H2 q (.tup [.str "not",.str "neg",.str "twice",.str "low"])=H3 at *
   by_cases h1:y∈(["not","neg","twice","low"]:Ai)
   .rw[Qar h1];have hp1:Ys y=1:=(by decide +kernel:∀y∈(["not","neg","twice","low"]:Ai),Ys y=1) y h1;rw[hp1]at C;rw[C]at hn ⊢;obtain⟨a,l,rfl⟩:∃a l,G=a::l:=by
     cases G with
     |nil=>exact absurd hn (by rw[<-hln];exact Nat.not_succ_le_zero 0)
     |cons a l=>exact⟨a,l,U⟩
    have hpop:=Zjn h3s;refine YN ⟨_,U,.inl ⟨U,_,SqL.of h3s⟩,_,U,_,U,.inl ⟨U,_,SqL.of hpop⟩,st,_,_,U,U,hpop,JC _ _,y,a,U,_,U,_,_,U,U,hp,?_⟩;rw[Qee];obtain⟨f1,f2,f3,f4⟩:=fin (Zqc y a%2^W) (upd H3 st (.lst (l.map V.int).reverse)) l (by rw[Qb3]at hsk;lia) Zb (by rw[Zm Y];exact h3t) (ZV s5 F);exact⟨st,_,_,U,U,Zb,f1,_,_,_,U,hi,f2,f3,f4⟩
   .rw[Qan h1];have h23:(Ys y=2/\y ≠ "pick")\/(y = "pick" /\ Ys y=3):=(by decide +kernel:∀y∈Gd,y∉(["not","neg","twice","low"]:Ai)->(Ys y=2/\y ≠ "pick")\/(y = "pick" /\ Ys y=3)) y hy h1;obtain⟨a,b,l,rfl⟩:∃a b l,G=a::b::l:=by
     have h2:2<=G.length:=by
      rw[hln];rcases h23 with h|h
      .lia
      .lia
     match G,h2 with
     |a::b::l,_=>exact⟨a,b,l,U⟩
    have hpa:=Zjn h3s;refine Yu ⟨_,U,.inl ⟨U,_,SqL.of hpa⟩,st,_,_,U,U,hpa,JC _ _,Zh ?_⟩;rw[Qee];have s6:=ZV (o:=.lst ((b::l).map V.int).reverse) s5 F;have h4s:upd H3 st (.lst ((b::l).map V.int).reverse) st=some (.lst ((b::l).map V.int).reverse):=Zb;have h4t:upd H3 st (.lst ((b::l).map V.int).reverse) O=some (.tup g.reverse):=by rw[Zm Y];exact h3t
    generalize upd H3 st (.lst ((b::l).map V.int).reverse)=H4 at *;have hpb:=Zjn h4s;refine⟨_,U,.inl ⟨U,_,SqL.of hpb⟩,st,_,_,U,U,hpb,JC _ _,Zh ?_⟩;rw[Qee];have s7:=ZV (o:=.lst (l.map V.int).reverse) s6 F;have Z:upd H4 st (.lst (l.map V.int).reverse) st=some (.lst (l.map V.int).reverse):=Zb;have h5t:upd H4 st (.lst (l.map V.int).reverse) O=some (.tup g.reverse):=by rw[Zm Y];exact h4t
    generalize upd H4 st (.lst (l.map V.int).reverse)=H5 at *;have hll:l.length<=100:=by
     simp only[Qb3]at hsk;lia
    refine⟨_,U,U,_,U,?_⟩;rcases h23 with⟨h2,hpk⟩|⟨hpk,h3⟩
    .rw[Qan (λz=>hpk (by injection z))];rw[h2]at C;rw[C];obtain⟨f1,f2,f3,f4⟩:=fin (Zqd y a b%2^W) H5 l hll Z h5t s7;exact Yu ⟨_,U,.inl ⟨U,_,SqL.of Z⟩,_,U,_,U,_,U,y,a,b,U,_,U,_,_,U,U,hp,st,_,_,U,U,Z,f1,_,_,_,U,hi,f2,f3,f4⟩
    .rw[Qar (congrArg V.str hpk)];rw[h3]at C;rw[C]at hn ⊢;obtain⟨c,l,rfl⟩:∃c l',l=c::l':=by
      cases l with
      |nil=>
       simp only[Qb3,Qey]at hln;lia
      |cons c l=>exact⟨c,l,U⟩
     have ha:=hrb a Qam;have hb:=hrb b (Qak _ Qam);have hcc:=hrb c (Qak _ (Qak _ Qam));have hpc:=Zjn Z;refine YN ⟨_,U,.inl ⟨U,_,SqL.of Z⟩,_,U,_,U,_,_,U,U,_,U,_,_,U,U,_,U,_,_,U,U,_,U,.inl ⟨U,_,SqL.of hpc⟩,st,_,_,U,U,hpc,JC _ _,_,_,U,U,_,_,U,U,?_⟩;rw[Qee];try dsimp only
     rw[Zix ha.1 ha.2 hb.1 hb.2 hcc.1 hcc.2];obtain⟨f1,f2,f3,f4⟩:=fin (Builtin.bitOr (Builtin.bitAnd a b) (Builtin.bitAnd (Builtin.bitNot a) c)%2^W) (upd H5 st (.lst (l.map V.int).reverse)) l (by simp only[Qb3]at hll;lia) Zb (by rw[Zm Y];exact h5t) (ZV s7 F);exact⟨st,_,_,U,U,Zb,f1,_,_,_,U,hi,f2,f3,f4⟩
  .refine⟨_,U,_,_,_,_,U,.str y,YK,_,U,Yu ⟨_,U,_,U,dv,Yp kvs (.inr y),U,.inl ⟨kvs,.inr y,.inl (s3 _ _ hd),U,U⟩,_,U,?_⟩⟩;show if(Yp kvs (.inr y)).isSome=true then _ else _;rw[hc.1 y hy];have ev:wwv ρ (.str y) (G.take (npw (.str y)))%2^W=ρ y:=by
    rw[C,List.take_zero];exact Qcn (hρ y hy).1 (hρ y hy).2
   rw[ev,C,Qdm];obtain⟨f1,f2,f3,f4⟩:=fin (ρ y) H2 G hsk D h2t s3;exact YN ⟨_,U,.inl ⟨U,_,SqL.of D⟩,_,U,_,U,dv,_,U,.inl ⟨kvs,.inr y,.inl (s3 _ _ hd),U,(hc.1 y hy).symm⟩,st,_,_,U,U,D,f1,_,_,_,U,hi,f2,f3,f4⟩
  .rw[C,Qdm];obtain⟨f1,f2,f3,f4⟩:=fin (z%2^W) H2 G hsk D h2t s3;exact⟨_,U,_,_,_,_,U,.int z,XG,_,U,YN ⟨_,U,.inl ⟨U,_,SqL.of D⟩,_,U,_,U,_,_,U,U,hp,st,_,_,U,U,D,f1,_,_,_,U,hi,f2,f3,f4⟩⟩
 .rintro σ H2 ⟨u5,u6,u7,rfl,hi0,D,h2t,s3⟩;rw[Qd3,Qd9,Qdm,hrun]at D;exact⟨_,U,st,_,0,_,U,U,SqL.of D,U,k H2 s3⟩
inductive Wy:Prop
 |mk(c:Au)(ps:List (Int×Int))(ws:A0):vs=[.ref c]->H c=some (.tup ws)->Prs H ps ws->Q (.bl true) H->Wy
def jC(K:Af):Sp:=λvs H Q _=>Wy vs H Q
theorem jD:Y1 P w K mg base CX0 2 t.iy t.ka ["found"] (jC K):=by
 have g:=xA P base T TB;refine T.ma.go JJ ?_;rintro O A outer s H _ Q E F ⟨c,ps,I,rfl,D,J,k⟩;refine⟨_,(Za (ZF (Gi (YE (Zo YI (by rfl) T.ag ZL (Zg (qv 0) (Zg (Xz (v:=.ty "tuple") (by rfl) T.ah ZU U) Zc)))))
   (Zf (Zp Jo)) Zw)
   (Za (Yh Qa4 U (Xb (qv 0)) (Y0 1 JJ.nd)
   (Zf (ZF (GL (GJ (Gi (YE (Zo YI (by rfl) T.ag ZL (Zg (qv 1) (Zg (Xz (v:=.ty "tuple") (by rfl) T.ah ZU U) Zc))))) (GJ (Zr ku (Zo Zt (by rfl) T.af ZR (Zg (qv 1) Zc)) Ze (Z7 _)) (GJ (Gi (YE (Zl T.bb g F (Zg (Zv Z1 (qv 1) Ze) Zc)))) (GI (Gi (YE (Zl T.bb g F (Zg (Zv Z1 (qv 1) Ze) Zc)))))))))
   (Zf (Zp Jo)) Zw)))
   (Zf (Zp Jo)))),?_⟩
 refine⟨_,U,_,_,_,_,U,.tup D,WC,_,U,Yu ⟨_,U,c,U,⟨_,SqT.of D⟩,W9 (K:=K) (a:=c) (xs:=I) (λi σ H2=>∃C,σ=[some (.ref c),C]/\H2=H) ⟨none,U,U⟩ (λi σ H2 _ ⟨_,_,e⟩=>e ▸ SqT.of D) ?_ ?_⟩⟩
 .rintro i x σ H2 G ⟨C,rfl,rfl⟩;obtain⟨p,a,Y,rfl,q⟩:=J.at G;exact Zh ⟨_,U,_,_,_,_,U,.tup q,WC,_,U,Yu ⟨_,U,a,_,U,.inr (SqT.of q),U,_,U,Yu ⟨_,U,a,_,0,_,U,U,SqT.of q,U,p.1,U,_,U,Yu ⟨_,U,a,_,1,_,U,U,SqT.of q,U,p.2,U,_,U,Yu ⟨_,U,U⟩⟩⟩⟩⟩
 .rintro σ H2 ⟨C,rfl,rfl⟩;exact k
inductive xG:Prop
 |mk(tw tn:Au)(u:A0)(ys:Ai)(c:Int):vs=[.ref tw,.ref tn,.int c]->0<=c->H tw=some (.tup u)->H tn=some (.tup (ys.map V.str))->Nm3 ys->Sm ys u->(∀p v H',H' p=some (.tup v)->Sm ys v->ZD H H'->Q (.ref p) H')->xG
def Zc1(K:Af):Sp:=λvs H Q _=>xG vs H Q
theorem Zc2:Y1 P w K mg base CX0 2 t.abf t.abg ["words","names","cell"] (Zc1 K):=by
 have g:=Gx P base T TB;refine T.me.go YQ ?_;rintro cdv A outer s H _ Q E hr ⟨tw,tn,u,ys,c,rfl,hc,hw,hn,N,S,k⟩;refine⟨_,(Za (Z3 3 YQ.nd (Zj ZI (qv 2) (Zo Zt (by rfl) T.af ZR (Zg (qv 0) Zc))))
   (Za (Z3 4 YQ.nd (Zv Z1 (qv 0) (qv 3)))
   (Za (Z3 5 YQ.nd (qv 4))
   (Za (Yh Qa4 U (Xi (Yx (Zg (Yx (Zg Zi (Zg Zi (Zg Zi (Zg Zi Zc))))) (Zg (Yx (Zg Zi (Zg Zi (Zg Zi (Zg Zi (Zg Zi Zc)))))) (Zg (ZG k9 (by rfl) T.abm gC (Zg (qv 1) Zc)) Zc))))) (Y0 6 YQ.nd)
   (Zf (ZF (Zr Ye (qv 4) (qv 6) (by with_unfolding_all rfl))
   (Zf (Z3 5 YQ.nd (Zv Z0 (qv 6) (Zj ZI (Zj Yc (qv 2) Ze) (Zo Zt (by rfl) T.af ZR (Zg (qv 6) Zc)))))) Zw)))
   (Za (ZF (YE (Zo YI (by rfl) T.ag ZL (Zg (qv 4) (Zg (Xz (v:=.ty "int") (by rfl) T.om kE U) Zc))))
   (Zf (Z3 5 YQ.nd (Zj ZI (Zj Yc (qv 2) Ze) Ze))) Zw)
   (Za (Z3 7 YQ.nd (Zj Zn (Zj Zn (Yv (SlR.or Zj2 Zem) (qv 0) XI (Yq (qv 3))) (Zs (Zg (qv 5) Zc))) (Yv (SlR.or Zj2 Zem) (qv 0) (Yq (Zj YD (qv 3) Ze)) XI)))
   (Za (ZF (Zr Zlu (Zl T.cb g hr (Zg (qv 7) Zc)) Ze (Z7 _))
   (Zf (Zp (qv 0))) Zw)
   (Zf (Zp (qv 7)))))))))),?_⟩
 try dsimp only[L2.cxK,L2.cxK2]
 refine L2.let8 ?_;intro U7 U6 U5 U4 U3 U2 U1;have hlen:0<u.length:=by
  have h:=vx u;rw[S.st]at h;lia
 have hln:=S.ln;have n3:=N.n3;refine⟨_,U,_,U,tw,u,U,.inr (SqT.of hw),_,_,U,U,(by show(0:Int)<u.length;lia),Zh ?_⟩;try dsimp only
 obtain⟨j,hj,hjl⟩:∃j:Nat,c%(u.length:Int)=(j:Int)/\j<u.length:=⟨(c%(u.length:Int)).toNat,by rw[Qdi (Qbe _ (by lia))],by have h1:=Qbe c (show(u.length:Int)≠0 by lia);have h2:=Qa5 c (show(0:Int)<u.length by lia);lia⟩;rw[hj];obtain⟨wd,I⟩:∃wd,u[j]?=some wd:=⟨_,Qad hjl⟩;have hW:=S.wd wd (Qag I);refine⟨_,U,_,U,tw,_,_,_,U,U,SqT.of hw,Yb I,Zh ⟨_,U,Zh ?_⟩⟩;refine⟨Zot,λD h1=>⟨zln5,λq h2=>⟨_,U,tn,_,U,.inr (SqT.of (Zd h2 _ _ (Zd h1 _ _ hn))),λF h3=>⟨Zos,λY h4=>?_⟩⟩⟩⟩;have s1:=Zd (o:=.lst [V.str "not",V.str "neg",V.str "twice",V.str "low"]) h1;have s2:=Zd (o:=.lst [V.str "and",V.str "or",V.str "odd",V.str "add",V.str "sub"]) h2;have s3:=Zd (o:=.lst (ys.map V.str)) h3;have s4:=Zd (o:=.lst [V.ref D,V.ref q,V.ref F]) h4;have hall:∀(i:Nat)(x:V),[V.ref D,V.ref q,V.ref F][i]?=some x->∃(l:Au)(L:Ai),x=.ref l/\upd (upd (upd (upd H D (.lst [V.str "not",V.str "neg",V.str "twice",V.str "low"])) q (.lst [V.str "and",V.str "or",V.str "odd",V.str "add",V.str "sub"])) F (.lst (ys.map V.str))) Y (.lst [V.ref D,V.ref q,V.ref F]) l=some (.lst (L.map V.str))/\Cls ys L/\L.length<=9
  |0,_,rfl=>⟨D,["not","neg","twice","low"],U,s4 _ _ (s3 _ _ (s2 _ _ Zb)),Zg2 (n:=1) N.kp (by decide +kernel),by decide⟩
  |1,_,rfl=>⟨q,["and","or","odd","add","sub"],U,s4 _ _ (s3 _ _ Zb),Zg2 (n:=2) N.kp (by decide +kernel),by decide⟩
  |2,_,rfl=>⟨F,_,U,s4 _ _ Zb,cls_nm N.kp,by lia⟩
 have s:=(s1.trans s2).trans (s3.trans s4);have f4:=Zb (H:=upd (upd (upd H D (.lst [V.str "not",V.str "neg",V.str "twice",V.str "low"])) q (.lst [V.str "and",V.str "or",V.str "odd",V.str "add",V.str "sub"])) F (.lst (ys.map V.str))) (a:=Y) (o:=.lst [V.ref D,V.ref q,V.ref F]);have Z:=s _ _ hw;have fin:∀(n:V)(G:Option V),Zn9 ys wd n->U5 {nx:=λ_ H'=>Q V.non H',rt:=Q} [some (.ref tw),some (.ref tn),some (.int c),some (.int j),some wd,some n,G,none] (upd (upd (upd (upd H D (.lst [V.str "not",V.str "neg",V.str "twice",V.str "low"])) q (.lst [V.str "and",V.str "or",V.str "odd",V.str "add",V.str "sub"])) F (.lst (ys.map V.str))) Y (.lst [V.ref D,V.ref q,V.ref F])):=λn G R=>by
  obtain⟨J,q2',q3',q4'⟩:=S.put I R;refine⟨_,U,_,U,_,U,wz Z λq1 H5 hq1 s5=>⟨_,U,Zbm,λq2 O=>⟨q1,q2,_,_,U,U,Zd O _ _ hq1,Zb,?_,λq3 H6 hq3 s6=>⟨_,U,_,U,_,_,U,U,_,U,wz (s6 _ _ (Zd O _ _ (s5 _ _ Z))) λq4 H7 hq4 s7=>⟨q3,q4,_,_,U,U,s7 _ _ hq3,hq4,?_,λp H8 hp s8=>Zh ?_⟩⟩⟩⟩⟩
  .rw[qj,Qas];exact Qax (Zu (by show _+1<=1000;lia))
  .rw[qj,show(j:Int)+1=((j+1:Nat):Int)from U,ja,Qaf,Qas,Qbn];exact Qax (Zu (by show _+1+_<=1000;lia))
  have hp:H8 p=some (.tup (u.take j++n::u.drop (j+1))):=by
   rw[hp,qj,show(j:Int)+1=((j+1:Nat):Int)from U,ja,Qcm];rfl
  have s':=s.trans ((s5.trans (Zd O)).trans ((s6.trans s7).trans s8));refine⟨_,U,p,_,U,.inr hp,λx hx=>?_,by lia,λH9 s9=>⟨_,_,U,U,_,U,qG (λ_=>⟨_,U,k tw u H9 (s9 _ _ (s' _ _ hw)) S (s'.trans s9)⟩) (λhb=>⟨_,U,k p _ H9 (s9 _ _ hp) ⟨J,q2',q3',?_,q4'⟩ (s'.trans s9)⟩)⟩⟩
  .rcases J x hx with⟨y,e,_⟩|⟨y,e,_⟩|⟨z,e,_⟩
   .exact .inl ⟨y,e⟩
   .exact .inl ⟨y,e⟩
   .exact .inr ⟨z,e⟩
  .rw[jg N.kp J];have:¬((((u.take j++n::u.drop (j+1)).filter qg).length:Int)>5):=λz=>hb (Qar z);lia
 have fw:Wm wd=true:=by
  rcases hW with⟨y,rfl,_⟩|⟨y,rfl,_⟩|⟨z,rfl,_⟩<;>rfl
 refine⟨Y,U,⟨_,SqL.of f4⟩,?_⟩;generalize upd (upd (upd (upd H D (.lst [V.str "not",V.str "neg",V.str "twice",V.str "low"])) q (.lst [V.str "and",V.str "or",V.str "odd",V.str "add",V.str "sub"])) F (.lst (ys.map V.str))) Y (.lst [V.ref D,V.ref q,V.ref F])=H4 at *;refine JQ (K:=K) (a:=Y) (xs:=[.ref D,.ref q,.ref F]) (λi σ H'=>∃(n:V)(G:Option V),σ=[some (.ref tw),some (.ref tn),some (.int c),some (.int j),some wd,some n,G,none]/\Zn9 ys wd n/\H'=H4) ⟨wd,none,U,⟨hW,U⟩,U⟩ (λi σ H' _ ⟨_,_,_,_,e⟩=>e ▸ SqL.of f4) ?_ ?_
 .rintro i x σ H' hx ⟨n,G,rfl,R,rfl⟩;obtain⟨l,L,rfl,hl,C,h9⟩:=hall i x hx;refine Zh ⟨_,U,_,U,l,_,U,.inl (SqL.of hl),fw,by rw[List.all_map];exact Qc4.mpr λ_ _=>U,_,U,qG (λhb=>?_) (λ_=>⟨n,_,U,R,U⟩)⟩;obtain⟨y,hy,rfl⟩:∃y∈L,wd=.str y:=by
   obtain⟨v,hv,e⟩:=Qdf.mp hb;obtain⟨y,hy,rfl⟩:=Qa2.mp hv;cases wd with
   |str z=>exact⟨y,hy,by rw[show y=z from eq_of_beq e]⟩
   |_=>cases e
  have L0:0<L.length:=Qer hy;have m0:=Qbe (c/24) (show(L.length:Int)≠0 by lia);have m1:=Qa5 (c/24) (show(0:Int)<L.length by lia);obtain⟨m,hm⟩:∃m:Nat,c/24%(L.length:Int)=(m:Int):=⟨_,(Qdi m0).symm⟩;obtain⟨z,hz⟩:∃z,L[m]?=some z:=⟨_,Qad (by lia)⟩;exact⟨_,U,_,U,_,_,U,U,.of (by decide) (by decide),_,U,l,_,U,.inl (SqL.of hl),_,_,U,U,(by show(0:Int)<(L.map V.str).length;rw[Qac];lia),l,_,_,.str z,U,U,SqL.of hl,(by show atI (L.map V.str) (c/24%((L.map V.str).length:Int))=_;rw[Qac,hm];exact Yb (by rw[Qal,hz];rfl)),Zh ⟨_,_,U,⟨(C z (Qag hz)).1,(C y hy).2 z (Qag hz)⟩,U⟩⟩
 .rintro σ H' ⟨n,G,rfl,R,rfl⟩;rcases hW with⟨y,rfl,_⟩|⟨y,rfl,_⟩|⟨z,rfl,_⟩
  .exact⟨_,U,_,_,_,_,U,.str y,YK,_,U,Yu (fin n G R)⟩
  .exact⟨_,U,_,_,_,_,U,.str y,YK,_,U,Yu (fin n G R)⟩
  .exact⟨_,U,_,_,_,_,U,.int z,XG,_,U,YN ⟨_,U,_,_,U,U,.of (by decide) (by decide),_,_,U,U,(by show(0:Int)<8;decide),Zh (fin _ G ⟨.inr (.inr ⟨_,U,by lia,by lia,jf _⟩),by rw[jf,jf]⟩)⟩⟩
inductive X5:Prop
 |mk(m a:Au)(nm:Ai)(b:Nat)(nx:Ad)(ot:Ax)(n:Nat)(Ls:Ad)(kb:Nat)(v:V)(tr:Bool):vs=[.ref m,.ref a,.int kb,v]->M4 H m nm b nx ot->Runs nx ot n->b<nx.length->nx.length<=1000000->wN H a Ls->Ls≠[]->(∀L∈Ls,L.length<=1000/\∀l∈L,l<2^n)->Ls.length<=1000000->kb<=3->XO tr v->(∀r∈ot,∀x∈r,XO tr x)->(∀p H',H p=none->wN H' p (cho kb (lwb (mN nx) (mB ot v) kb (lys (mN nx) [b] Ls) Ls).1 Ls)->SmF H H'->Q (.ref p) H')->X5
def qA(K:Af):Sp:=λvs H Q _=>X5 vs H Q
theorem qB:Y1 P w K mg base CX0 3 t.dg t.dh ["machine","letters","number","wanted"] (qA K):=by
 have D:=Gf P base T TB;have G:=GC P base T TB;have J:=xS P base T TB;refine T.dj.go ZA ?_;rintro cdv A outer s H _ Q E hr ⟨m,a,nm,b,nx,ot,n,Ls,I,v,tr,rfl,M,R,hb,hN,hA,hne,hL,hw,hkb,hv,hk,k⟩;refine⟨_,(Za (Z3 4 ZA.nd (Zl T.ia J hr (Zg (qv 0) (Zg (qv 1) Zc))))
   (Za (Z3 5 ZA.nd (Yx Zc))
   (Za (Z3 6 ZA.nd yo)
   (Za (Yh Qa4 U (Zm3 U T.aq (Zg (Zj WZ (Zo Zt (by rfl) T.af ZR (Zg (qv 1) Zc)) Ze) (Zg (XH X3 Ze) (Zg (XH X3 Ze) Zc)))) (Y0 7 ZA.nd)
   (Za (Z3 8 ZA.nd (Zl T.bf G hr (Zg (Zv Z0 (qv 1) (qv 7)) (Zg (qv 2) (Zg Ze Zc)))))
   (Za (Z3 9 ZA.nd (Zl T.az D hr (Zg (qv 0) (Zg (Zv Z0 (qv 4) (qv 7)) (Zg (qv 8) (Zg (qv 6) (Zg (qv 3) Zc)))))))
   (Za (ZF (Zr Yk (Zo kR (by rfl) T.af ZR (Zg (qv 9) Zc)) Ze (Z7 _))
   (Za (Z3 8 ZA.nd (Zl T.bf G hr (Zg (Zv Z0 (qv 1) (qv 7)) (Zg (qv 2) (Zg Ze Zc)))))
   (Zf (Z3 9 ZA.nd (Zl T.az D hr (Zg (qv 0) (Zg (Zv Z0 (qv 4) (qv 7)) (Zg (qv 8) (Zg (qv 6) (Zg (qv 3) Zc))))))))) Zw)
   (Za (ZE (ZP Qaj Qap Qaq Z4 (qv 5) (Zg (qv 8) Zc)))
   (Zf (Z3 6 ZA.nd (qv 9))))))))
   (Za (ZE (xo Qaj PySem.F.slot_list_reverse PySem.F.type_list_reverse Zbt (qv 5)))
   (Zf (Zp (qv 5)))))))),?_⟩
 try dsimp only[L2.cxK,L2.cxK2]
 have lyl:=ux (nx:=mN nx) Ls [b];have lyok:=Zgl (nx:=mN nx) (N:=nx.length) (M:=2^n) (λs l hs hl=>R.mN hs hl) (Ls:=Ls) (S:=[b]) (Qcj.mpr ⟨Qbq,Qdl⟩) (λs hs=>by rw[Qau.mp hs];exact hb) (λL h=>(hL L h).2);refine⟨_,U,_,U,m,a,nm,b,nx,ot,n,Ls,U,M,R,hb,hN,hA,hne,hL,hw,λly H1 hly Ly s1=>Zh ⟨Zjo,λO hlf=>Zh (Zh ?_)⟩⟩;have s2:=s1.trans (SmF.of (Zd (o:=.lst []) hlf));have Z:=s1.free hlf;obtain⟨as,ha,hal,hat⟩:=hA.smf s2;have Ly2:=Ly.smf (SmF.of (Zd (o:=.lst []) hlf));have W0:yO (upd H1 O (.lst [])) .non (lwT (mN nx) (mB ot v) I [b] Ls Ls.length).2:=by rw[Zgo];exact .inl ⟨U,U⟩
 have T0:x4 (upd H1 O (.lst [])) ([]:A0).reverse (cho I (lwT (mN nx) (mB ot v) I [b] Ls Ls.length).1 (Ls.drop Ls.length)):=by rw[Zgo];exact⟨U,λi C h=>nomatch h⟩
 have hlf2:upd H1 O (.lst []) O=some (.lst []):=Zb;have M2:=M.smf s2;generalize upd H1 O (.lst [])=H2 at *;refine⟨_,U,a,as,U,.inl (SqL.of ha),_,_,U,U,_,U,_,U,as.length,U,by lia,Zil (λi σ H'=>∃(zs:A0)(wv:V)(u7 u8 u9:Option V),σ=[some (.ref m),some (.ref a),some (.int I),some v,some (.ref ly),some (.ref O),some wv,u7,u8,u9]/\i<=Ls.length/\H' O=some (.lst zs)/\zs.length=i/\x4 H' zs.reverse (cho I (lwT (mN nx) (mB ot v) I [b] Ls (Ls.length-i)).1 (Ls.drop (Ls.length-i)))/\yO H' wv (lwT (mN nx) (mB ot v) I [b] Ls (Ls.length-i)).2/\SmF H H'/\Zhh H' ly (lys (mN nx) [b] Ls)/\(∀b xs,H2 b=some (.tup xs)->H' b=some (.tup xs))/\H' a=some (.lst as)) ⟨[],.non,none,none,none,U,Qbj _,hlf2,U,T0,W0,s2,Ly2,λ_ _ z=>z,ha⟩ ?_ ?_⟩
 .rintro i σ H3 hi ⟨zs,wv,u7,u8,u9,rfl,hil,z1,z2,z3,z4,s3,Ly3,tp3,ha3⟩;rw[hal]at hi;obtain⟨j,hj⟩:∃j,Ls.length-i=j+1:=⟨Ls.length-i-1,by lia⟩;rw[hj]at z3 z4;have ep:(as.length:Int)-1-i=(j:Int):=by lia
  rw[ep];obtain⟨L,hLj⟩:∃L,Ls[j]?=some L:=⟨_,Qad (by lia)⟩;obtain⟨S,hSj⟩:∃S,(lys (mN nx) [b] Ls)[j]?=some S:=⟨_,Qad (by lia)⟩;obtain⟨hL1,hL2⟩:=hL L (Qag hLj);obtain⟨hS1,hS2⟩:=lyok S (Qag hSj);obtain⟨x0,hx0,htl⟩:=hat j L hLj;have htl3:=tp3 _ _ htl;have hst:=Zjd (nx:=mN nx) (ok:=mB ot v) (k:=I) hSj hLj;have hSl:S.length<=1000000:=Qaz (Zgm hS1 hS2) hN;have chl:∀w,(∀l∈chs I w L,l<2^n)/\(chs I w L).length<=1000:=λw=>⟨λl hl=>hL2 l (JH.mp hl).1,Qaz (Qc6 _ _) hL1⟩;refine Zh ⟨_,U,_,U,a,_,_,_,U,U,SqL.of ha3,Yb hx0,_,U,x0,L,I,0,U,htl3,hL1,hkb,λc0 H4 hc0 hc04 s4=>Zh ?_⟩;have s4':=SmF.of s4;have s34:=s3.trans s4';obtain⟨ys,hy1,hy2,hy3⟩:=Ly3.smf s4';obtain⟨dl,hdl,rdl⟩:=hy3 j S hSj;refine⟨_,U,_,U,_,U,ly,_,_,_,U,U,SqL.of hy1,Yb hdl,_,U,_,U,_,U,m,dl,c0,nm,b,nx,ot,n,S,chs I 0 L,_,wv,v,tr,U,M.smf s34,R,rdl,hS1,hS2,hSl,hc04,(chl 0).1,(chl 0).2,s4'.well z4,hv,hk,λg0 H5 hg0 hg5 s5=>Zh ?_⟩;have s45:=s4'.trans s5;have hc5:=s5.tup hc04;refine ua (λσ H'=>∃c g,σ=[some (.ref m),some (.ref a),some (.int I),some v,some (.ref ly),some (.ref O),some wv,some (.int j),some (.ref c),some (.ref g)]/\H' c=some (.tup ((chs I (wL (mN nx) (mB ot v) I (lwT (mN nx) (mB ot v) I [b] Ls (j+1)).2 S L) L).map Xd))/\H' g=some (.dK (twK (goB (mN nx) (mB ot v) (lwT (mN nx) (mB ot v) I [b] Ls (j+1)).2 S (chs I (wL (mN nx) (mB ot v) I (lwT (mN nx) (mB ot v) I [b] Ls (j+1)).2 S L) L))))/\SmF H3 H') (λN hN=>?_) ?_
  .refine⟨_,U,g0,_,U,.inl hg5,U,_,U,?_⟩;rw[jk]
   by_cases hz:goB (mN nx) (mB ot v) (lwT (mN nx) (mB ot v) I [b] Ls (j+1)).2 S (chs I 0 L)=[]
   .have ew:wL (mN nx) (mB ot v) I (lwT (mN nx) (mB ot v) I [b] Ls (j+1)).2 S L=1:=Qa9 hz;rw[ew]at hN;rw[hz,Qar (by rfl)];obtain⟨ys2,hz1,hz2,hz3⟩:=(Ly3.smf s4').smf s5;obtain⟨dl2,hdl2,rdl2⟩:=hz3 j S hSj;refine YN ⟨_,U,_,U,a,_,_,_,U,U,SqL.of (s45.lst ha3),Yb hx0,_,U,x0,L,I,1,U,s45.tup htl3,hL1,hkb,λc1 H6 hc1 hc16 s6=>Zh ?_⟩;have s6':=SmF.of s6;refine⟨_,U,_,U,_,U,ly,_,_,_,U,U,SqL.of (s6'.lst hz1),Yb hdl2,_,U,_,U,_,U,m,dl2,c1,nm,b,nx,ot,n,S,chs I 1 L,_,wv,v,tr,U,M.smf ((s34.trans s5).trans s6'),R,s6'.rd rdl2,hS1,hS2,hSl,hc16,(chl 1).1,(chl 1).2,(s45.trans s6').well z4,hv,hk,λg1 H7 hg1 hg7 s7=>Zh (hN _ _ ⟨c1,g1,U,s7.tup hc16,hg7,(s45.trans s6').trans s7⟩)⟩
   .have ew:wL (mN nx) (mB ot v) I (lwT (mN nx) (mB ot v) I [b] Ls (j+1)).2 S L=0:=Qa6 hz;rw[ew]at hN;rw[Qan λq=>hz (Qbz (by injection q with q;lia))];exact Yu (hN _ _ ⟨c0,g0,U,hc5,hg5,s45⟩)
  .rintro σ H7 ⟨c,g,rfl,q1,q2,s7⟩;have z7:=s7.lst z1;have tp7:∀b xs,H3 b=some (.tup xs)->H7 b=some (.tup xs):=λb xs z=>s7.tup z;have tpu:∀b xs,H7 b=some (.tup xs)->upd H7 O (.lst (zs++[.ref c])) b=some (.tup xs):=λb xs z=>by rw[Zm (Xv z z7 λq=>nomatch q)];exact z
   have s37:=s3.trans s7;have hglf:g≠O:=λz=>by rw[z,z7]at q2;cases q2
   have hlyl:ly≠O:=λz=>by
    obtain⟨w0,Y,hw1,_⟩:=Ly2;rw[z,hlf2]at Y;cases Y;have:(0:Nat)=(lys (mN nx) [b] Ls).length:=hw1;cases Ls with
    |nil=>exact hne U
    |cons _ _=>rw[lyl]at this;cases this
   have half:a≠O:=λz=>by
    obtain⟨w0,Y,_⟩:=hA;rw[z,Z]at Y;cases Y
   refine⟨_,U,.inl ⟨U,_,SqL.of z7⟩,_,U,O,_,_,U,U,z7,Xe (by lia),_,U,Zh ⟨zs++[.ref c],.ref g,_,_,_,U,hi,Zb,by rw[Qaf,z2];rfl,?_,?_,s37.put Z,?_,λb xs z=>tpu _ _ (tp7 _ _ (tp3 _ _ z)),by rw[Zm half];exact s7.lst ha3⟩⟩
   .rw[show Ls.length-(i+1)=j by lia,hst,xg hLj,List.reverse_append];exact((z3.smf tp7).smf tpu).cons (tpu _ _ q1)
   .rw[show Ls.length-(i+1)=j by lia,hst];exact .inr ⟨g,_,U,U,.inl (by rw[Zm hglf];exact q2)⟩
   .obtain⟨w0,Y,hw1,hw2⟩:=Ly3.smf s7;refine⟨w0,by rw[Zm hlyl];exact Y,hw1,λt S' ht=>?_⟩;obtain⟨a9,y1,y2⟩:=hw2 t S' ht;have ne9:a9≠O:=λz=>by
     subst z;rcases y2 with y2|⟨_,y2⟩<;>rw[z7]at y2<;>cases y2
    refine⟨a9,y1,?_⟩;rcases y2 with y2|⟨u,y2⟩
    .exact .inl (by rw[Zm ne9];exact y2)
    .exact .inr ⟨u,by rw[Zm ne9];exact y2⟩
 .rintro σ H3 ⟨zs,wv,u7,u8,u9,rfl,hil,z1,z2,z3,z4,s3,Ly3,tp3,ha3⟩;rw[hal,Qd9]at z3;refine⟨_,U,.inl ⟨U,_,SqL.of z1⟩,O,_,U,U,z1,_,U,k O _ Z ⟨_,Zb,z3.1,λt C ht=>?_⟩ (s3.put Z)⟩;obtain⟨a9,y1,y2⟩:=z3.2 t C ht;exact⟨a9,y1,by rw[Zm (Xv y2 z1 λq=>nomatch q)];exact y2⟩
inductive Jl:Prop
 |mk(s:Au)(stk:A0)(w:V):vs=[.ref s,w]->H s=some (.lst stk.reverse)->w=kV (keyOf w)->npw w<=stk.length->stk.length<=100->(∀pl H',H pl=none->H' pl=some (.lst (stk.take (npw w)))->H' s=some (.lst (stk.drop (npw w)).reverse)->(∀b o,H b=some o->b≠s->H' b=some o)->Q (.ref pl) H')->Jl
def yh(K:Af):Sp:=λvs H Q _=>Jl vs H Q
theorem yi:Y1 P w K mg base CX0 3 t.ni t.nj ["stack","word"] (yh K):=by
 have g:=uR P base T TB;refine T.oh.go jV ?_;rintro cdv A outer s H _ Q E hr ⟨st,C,x,rfl,hs,hx,hn,hl,k⟩;refine⟨_,(Zf (Zp (Y3 ({}:Yi (Zk WJ) _ ["stack","word"] "part" ["stack"] [0]) (YF U T.aq (Zg (Zl T.aap g hr (Zg (qv 1) Zc)) Zc)) (λ_ _ _ _=>XU) (λ_ _ _ _=>(show QE _ _ (Zp9 K "list" rPop (yT 1))from(xo Qaj Qds Qdt yn (qv 1))))))),?_⟩;refine⟨_,U,keyOf x,congrArg (λz=>[z]) hx,WK (keyOf x),U,?_,?_,qM (n:=(WK (keyOf x)).toNat) (λi zs H2=>i<=npw x/\zs=C.take i/\H2 st=some (.lst (C.drop i).reverse)/\∀b o,H b=some o->b≠st->H2 b=some o) ⟨Qbj _,U,hs,λb o e _=>e⟩ ?_ ?_ ?_⟩
 .have:=zT (keyOf x);lia
 .have:=zT (keyOf x);lia
 .rintro i zs H2 ⟨_,rfl,_,_⟩;rw[Qas];exact Qax (Zu (by lia))
 .rintro i zs H2 R hR hi ⟨Z,rfl,h2,J⟩;have O:i<npw x:=hi;have I:i<C.length:=by lia
  rw[Zm9 I]at h2;refine⟨_,U,.inl ⟨U,_,SqL.of h2⟩,st,_,C[i],U,U,h2,JC _ _,hR _ _ ⟨O,?_,?_,λb o e F=>?_⟩⟩
  .rw[take_snoc (Qad I)]
  .rw[Zb,Qee]
  .rw[Zm F];exact J b o e F
 .rintro zs H2 ⟨Z,rfl,h2,J⟩ l D;have G:H l=none:=by
   cases q:H l with
   |none=>rfl
   |some o=>
    by_cases F:l=st
    .rw[F,h2]at D;cases D
    .grind
  have Y:st≠l:=Zq h2 D;refine k l _ G Zb ?_ λb o e F=>?_
  .rw[Zm Y];exact h2
  .rw[Zm (Zq e G)];exact J b o e F
inductive qC:Prop
 |mk(t:Au)(ws:A0):vs=[.ref t]->H t=some (.tup ws)->(∀w∈ws,w9 w)->ws.length<=60->(∀p H' (ms:Ai),H p=none->H' p=some (.tup (ms.map V.str))->ZD H H'->ms.Perm (Jp ((ws.filter nmB).map Zol))->PyProof.Rows.sortedS ms=true->Q (.ref p) H')->qC
def uS(K:Af):Sp:=λvs H Q _=>qC vs H Q
theorem uT:Y1 P w K mg base CX0 3 t.aah t.aai ["words"] (uS K):=by
 have g:=Zcy P base T TB;refine T.aaq.go uE ?_;rintro cdv A outer s H _ Q E hr ⟨t,C,rfl,I,hw,hl,k⟩;refine⟨_,(Zf (Zp (ZG Z9 (by rfl) T.ah ZU (Zg (Zo (vj U) (by rfl) T.abo kD (Zg (ZG (Ze1 U) (by rfl) T.acj bt_set (Zg (Y3 ({}:Yi (Zk qZ) _ ["words"] "word" [] []) (Xb (qv 0)) (λ_ _ _ _=>(yr (GL (kG (YE (Zo (show Xr _ (.builtin "isinstance") (rIsi K)from YI) (by rfl) T.ag ZL (Zg (qv 0) (Zg (Xz (v:=.ty "str") (by rfl) T.abz Zkd U) Zc)))) (zx (YE (Zl T.abl g hr (Zg (qv 0) Zc)))))))) (λ_ _ _ _=>(qv 0))) Zc)) Zc)) Zc)))),?_⟩;refine⟨_,U,t,U,⟨_,SqT.of I⟩,zB (xs:=C) nmB ZD ZD.refl (λ_ _ _ a b=>a.trans b) (λH1 D=>SqT.of (D _ _ I)) (Qax (Zu (by lia))) (λx O H1 D R hR=>?_) (λx O H1 R hR=>⟨_,U,hR⟩) (λH1 l D F=>?_)⟩
 .rcases hw x O with⟨y,rfl,hy⟩|⟨z,rfl⟩
  .exact⟨_,U,_,_,_,_,U,.str y,G6,_,U,YN ⟨_,U,y,U,Qaz hy (by decide),λH2 G=>⟨_,U,hR H2 G⟩⟩⟩
  .exact⟨_,U,_,_,_,_,U,.int z,gE,_,U,Yu (hR H1 (ZD.refl H1))⟩
 have fl:(C.filter nmB).length<=60:=Qaz (Qc6 _ _) hl;have ol:=Zfl ((C.filter nmB).map Zol);rw[Qac]at ol;have G:=D.trans (Zd (o:=.lst (C.filter nmB)) F);refine⟨l,(C.filter nmB).map Zol,U,SqL.of (by rw[Zm8];exact Zb),by rw[Qac];lia,λa ha=>⟨a,_,U,Zb,by lia,λm Y Z hp hs=>⟨m,_,U,.inl ⟨SqL.of Zb,λp q=>?_⟩⟩⟩⟩;have J:ZD H _:=G.trans ((Zd ha).trans (Zd (o:=.lst (Y.map V.str)) Z));exact k p _ Y (ZD.free J q) Zb (J.trans (Zd q)) hp hs
inductive Xu:Prop
 |mk(cell:Int)(tn:Au)(nm:Ai):vs=[.int cell,.ref tn]->H tn=some (.tup (nm.map V.str))->nm.length<=3->(∀y∈nm,y∉YA)->(∀p u v (us vs:A0) H',Wp nm us 22 5->Wp nm vs 22 5->H' p=some (.tup [.ref u,.ref v])->H' u=some (.tup us)->H' v=some (.tup vs)->ZD H H'->Q (.ref p) H')->Xu
def GD(K:Af):Sp:=λvs H Q _=>Xu vs H Q
theorem GF:Y1 P w K mg base CX0 3 t.cu t.cw ["cell","names"] (GD K):=by
 have g:=ki P base T TB;have C:=j7 P base T TB;have q:=yR P base T TB;have D:=Wl P base T TB;refine T.bj.go ZC ?_;rintro cdv A outer s H _ Q E Y ⟨I,tn,nm,rfl,htn,hn3,F,k⟩;have hu:=qL Y;refine⟨_,(Za (Z3 2 ZC.nd (Zl T.aw D Y (Zg (qv 0) (Zg Ze (Zg Ze Zc)))))
   (Za (Z3 3 ZC.nd (Zj WZ Ze (Zj Yc (Zo Zt (by rfl) T.af ZR (Zg (qv 1) Zc)) Ze)))
   (Za (Z3 4 ZC.nd (Zl T.bh q Y (Zg (Yv Xx (qv 2) (Yq Ze) (Yq Ze)) (Zg (qv 1) (Zg (qv 3) Zc)))))
   (Za (Z3 5 ZC.nd (Zl T.bh q Y (Zg (Yv Xx (qv 2) (Yq Ze) (Yq Ze)) (Zg (qv 1) (Zg Ze Zc)))))
   (Za (Z3 6 ZC.nd (Zl T.bh q Y (Zg (Yv Xx (qv 2) (Yq Ze) (Yq Ze)) (Zg (qv 1) (Zg Ze Zc)))))
   (Za (Zef (Zl T.lh C Y (Zg (Zv Z0 (qv 2) Ze) (Zg (qv 4) (Zg (qv 5) (Zg (qv 6) Zc))))) (qO U (Y0 7 ZC.nd) (Y0 8 ZC.nd)))
   (Za (ZF (Zr Yk (Zj ZI (Zj Yc (Zv Z0 (qv 2) Ze) Ze) Ze) Ze (Z7 _))
   (Zf (qs_par (i:=7) (j:=8) U ZC.nd U U (by decide) U U (Zg (qv 8) (Zg (qv 7) Zc)) U)) Zw)
   (Zf (Zp (Zs (Zg (Zl T.cy g Y (Zg (Zv Z0 (qv 2) Ze) (Zg (qv 7) (Zg (qv 6) Zc)))) (Zg (Zl T.cy g Y (Zg (Zv Z0 (qv 2) Ze) (Zg (qv 8) (Zg (qv 6) Zc)))) Zc)))))))))))),?_⟩
 try dsimp only[L2.cxK,L2.cxK2]
 refine L2.let8 ?_;intro U7 U6 U5 U4 U3 U2 U1;refine⟨_,U,I,9,20000,U,by lia,by decide,by decide,λpl ks H1 hpl0 O hkl hkb s1=>Zh ?_⟩;have G:=s1 _ _ htn;have hpos:∀(j k:Nat)(x:Int),x∈(ks.drop j).take k->0<=x:=λj k x hx=>(hkb x (Qcr (Qbw hx))).1;obtain⟨mo,hmo,hmo1⟩:∃mo:Nat,1-((nm.map V.str).length:Int)/3=(mo:Int)/\mo<=1:=⟨(1-((nm.map V.str).length:Int)/3).toNat,by rw[Qac];lia,by lia⟩;refine⟨_,U,tn,_,U,.inr (SqT.of G),_,_,U,U,.of (by decide) (by decide),_,_,U,U,Zh ?_⟩;show U2 _ [some (.int I),some (.ref tn),some (.ref pl),some (.int (1-((nm.map V.str).length:Int)/3)),none,none,none,none,none] H1;rw[hmo];refine⟨_,U,1,U,4,U,pl,_,U,SqL.of O,λx1 hx1=>?_⟩;rw[Xq,show jN ks (some 1) (some 4)=(ks.drop 1).take (4-1)from zP ks 1 4 (by lia)];have n1:((ks.drop 1).take (4-1)).length=3:=by rw[Qas,Qbn];lia
 have w1:=Zd (o:=.lst (((ks.drop 1).take (4-1)).map V.int)) hx1;refine⟨_,U,_,U,x1,tn,_,nm,mo,U,Zb,by lia,by lia,hpos 1 _,w1 _ _ G,hn3,F,λa0 P H3 h3 l3 wd3 en3 st3 rm3 s3=>Zh ?_⟩;have v3:=w1.trans s3;refine⟨_,U,4,U,6,U,pl,_,U,SqL.of (v3 _ _ O),λx2 hx2=>?_⟩;rw[Xq,show jN ks (some 4) (some 6)=(ks.drop 4).take (6-4)from zP ks 4 6 (by lia)];have n2:((ks.drop 4).take (6-4)).length=2:=by rw[Qas,Qbn];lia
 have w2:=Zd (o:=.lst (((ks.drop 4).take (6-4)).map V.int)) hx2;refine⟨_,U,x2,tn,_,nm,0,U,Zb,by lia,by lia,hpos 4 _,(v3.trans w2) _ _ G,hn3,F,λa1 X H4 h4 l4 wd4 en4 st4 rm4 s4=>Zh ?_⟩;have v4:=v3.trans (w2.trans s4);refine⟨_,U,6,U,7,U,pl,_,U,SqL.of (v4 _ _ O),λx3 hx3=>?_⟩;rw[Xq,show jN ks (some 6) (some 7)=(ks.drop 6).take (7-6)from zP ks 6 7 (by lia)];have n3:((ks.drop 6).take (7-6)).length=1:=by rw[Qas,Qbn];lia
 have w3:=Zd (o:=.lst (((ks.drop 6).take (7-6)).map V.int)) hx3;refine⟨_,U,x3,tn,_,nm,0,U,Zb,by lia,by lia,hpos 6 _,(v4.trans w3) _ _ G,hn3,F,λa2 R H5 h5 l5 wd5 en5 st5 rm5 s5=>Zh ?_⟩;have v5:=v4.trans (w3.trans s5);have h53:=((w2.trans s4).trans (w3.trans s5)) _ _ h3;have h54:=(w3.trans s5) _ _ h4;have PP:Wp nm P 5 1:=⟨wd3,en3,st3,by lia,by lia⟩;have PX:Wp nm X 3 0:=⟨wd4,en4,st4,by lia,by lia⟩;have PR:Wp nm R 1 0:=⟨wd5,en5,st5,by lia,by lia⟩;have Z:=v5 _ _ O;have at_:∀j:Nat,j<9->atI (ks.map V.int) (j:Int)=some (.int (ks.getD j 0)):=λj hj=>Yb (by rw[Qal,getD_at (by lia)];rfl);have lp:=PP.ln;have lx:=PX.ln;have lr:=PR.ln;refine⟨_,U,pl,_,0,_,U,U,SqL.of Z,at_ 0 (by decide),_,U,_,U,_,U,ks.getD 0 0,a0,a1,a2,P,X,R,U,h53,h54,h5,by lia,by lia,by lia,λtp u v w H6 hw htp hu hv s6=>?_⟩;obtain⟨o1,o2,z1,z2,r1,r2⟩:=Zn8 w hw;have W1:=Tr.wp F PP PX PR o1;have W2:=Tr.wp F PP PX PR o2;have a26:=s6 _ _ h5;have J:=s6 _ _ Z;refine⟨tp,_,U,SqT.of htp,U,_,_,U,Zh ⟨_,_,U,Zh ⟨U,?_⟩⟩⟩;show U6 _ [some (.int I),some (.ref tn),some (.ref pl),some (.int mo),some (.ref a0),some (.ref a1),some (.ref a2),some (.ref u),some (.ref v)] H6;have fin:∀(us vs:A0)(u v:Au),Wp nm us 20 4->Wp nm vs 20 4->H6 u=some (.tup us)->H6 v=some (.tup vs)->U7 {nx:=λ_ H'=>Q .non H',rt:=Q} [some (.int I),some (.ref tn),some (.ref pl),some (.int mo),some (.ref a0),some (.ref a1),some (.ref a2),some (.ref u),some (.ref v)] H6:=λus vs u v f1 f2 hu hv=>by
  refine⟨_,U,pl,_,8,_,U,U,SqL.of J,at_ 8 (by decide),_,U,_,U,ks.getD 8 0,u,a2,nm,_,R,U,hu,a26,F,f1,PR,λq1 us' H7 W7 h7 s7=>?_⟩;refine⟨_,U,pl,_,8,_,U,U,SqL.of (s7 _ _ J),at_ 8 (by decide),_,U,_,U,ks.getD 8 0,v,a2,nm,_,R,U,s7 _ _ hv,s7 _ _ a26,F,f2,PR,λq2 vs' H8 W8 h8 s8=>⟨ko,λq3 hq3=>?_⟩⟩;have s9:=Zd (o:=.tup [.ref q1,.ref q2]) hq3;exact k q3 q1 q2 _ _ _ W7 W8 Zb (s9 _ _ (s8 _ _ h7)) (s9 _ _ h8) (s1.trans (v5.trans (s6.trans (s7.trans (s8.trans s9)))))
 have X1:Wp nm (w.1.flat P X R) 20 4:=⟨W1.wd,W1.en,W1.st,Qaz W1.ln z1,Qaz W1.rm r1⟩;have X2:Wp nm (w.2.flat P X R) 20 4:=⟨W2.wd,W2.en,W2.st,Qaz W2.ln z2,Qaz W2.rm r2⟩;refine⟨_,U,pl,_,8,_,U,U,SqL.of J,at_ 8 (by decide),_,_,U,U,.of (by decide) (by decide),_,_,U,U,(by show(0:Int)<2;decide),U,_,U,qG (λ_=>?_) (λ_=>?_)⟩
 .refine⟨_,U,_,U,_,_,U,?_⟩;exact fin _ _ v u X2 X1 hv hu
 .exact fin _ _ u v X1 X2 hu hv
inductive XS:Prop
 |mk(f tn:Au)(nm:Ai)(u v:A0):vs=[.ref f,.ref tn]->H tn=some (.tup (nm.map V.str))->nm.Nodup->Verd H f nm u v->Q (.bl true) H->XS
def xl(K:Af):Sp:=λvs H Q _=>XS vs H Q
theorem xm:Y1 P w K mg base CX0 3 t.dy t.dz ["found","names"] (xl K):=by
 have C:=xA P base T TB;have D:=jD P base T TB;refine T.eh.go Wt ?_;rintro cdv A outer s H _ Q E Z ⟨f,O,nm,u,v,rfl,hn,I,hv,k⟩;have Y:=qL Z;refine⟨_,(Za (ZF (GL (GJ (Gi (YE (Zo YI (by rfl) T.ag ZL (Zg (qv 0) (Zg (Xz (v:=.ty "tuple") (by rfl) T.ah ZU U) Zc))))) (GJ (Zr Yk (Zo Zt (by rfl) T.af ZR (Zg (qv 0) Zc)) Ze (Z7 _)) (GI (Gi (YE (Zo YI (by rfl) T.ag ZL (Zg (Zv Z1 (qv 0) Ze) (Zg (Xz (v:=.ty "str") (by rfl) T.abz Zkd U) Zc)))))))))
   (Zf (Zp Jo)) Zw)
   (Za (ZF (Zr Yk (Zv Z1 (qv 0) Ze) Zi (Z7 _))
   (Zf (Zp (Zaa (Xh Yk (Zo Zt (by rfl) T.af ZR (Zg (qv 0) Zc)) Ze (Z7 _)) (kH (Zl T.ma D Z (Zg (Zv Z1 (qv 0) Ze) Zc)))))) Zw)
   (Za (ZF (GL (GJ (Zr ku (Zv Z1 (qv 0) Ze) Zi (Z7 _)) (GJ (Zr ku (Zo Zt (by rfl) T.af ZR (Zg (qv 0) Zc)) Ze (Z7 _)) (GJ (Gi (YE (Zl T.bb C Z (Zg (Zv Z1 (qv 0) Ze) Zc)))) (GI (Zr kx (Zv Z1 (qv 0) Ze) Ze (Z7 _)))))))
   (Zf (Zp Jo)) Zw)
   (Za (ZF (GL (GJ (Gi (YE (Zo YI (by rfl) T.ag ZL (Zg (Zv Z1 (qv 0) Ze) (Zg (Xz (v:=.ty "dict") (by rfl) T.abr Zeo U) Zc))))) (GI (Zr ku (Zo kR (by rfl) T.af ZR (Zg (Zv Z1 (qv 0) Ze) Zc)) (Zo Zt (by rfl) T.af ZR (Zg (qv 1) Zc)) (Z7 _)))))
   (Zf (Zp Jo)) Zw)
   (Za (Yh Qa4 U (Xb (qv 1)) (Y0 2 Wt.nd)
   (Za (ZF (GL (GJ (Zr (GR Y) (qv 2) (Zv Z1 (qv 0) Ze) (by with_unfolding_all rfl)) (GI (Gi (YE (Zl T.bb C Z (Zg (WE Y (Zv Z1 (qv 0) Ze) (qv 2) (λ_ _=>U)) Zc)))))))
   (Zf (Zp Jo)) Zw)
   (Zf (ZF (GL (GJ (Zr kx (WE Y (Zv Z1 (qv 0) Ze) (qv 2) (λ_ _=>U)) Ze (Z7 _)) (GI (Zr Zo2 (WE Y (Zv Z1 (qv 0) Ze) (qv 2) (λ_ _=>U)) (Zj uY Ze (Zv Z1 (qv 0) Ze)) (Z7 _)))))
   (Zf (Zp Jo)) Zw))))
   (Zf (Zp Jo))))))),?_⟩
 obtain⟨l1,l2,_,⟨q,l,ws,G,hq,hp,_⟩|⟨d,w,r,kvs,G,hd,T0,F,hw⟩⟩:=hv
 .exact⟨_,U,_,_,_,_,U,.tup G,WC,_,U,Yu ⟨_,U,f,_,U,.inr (SqT.of G),U,_,U,Yu ⟨_,U,f,_,0,_,U,U,SqT.of G,U,_,_,_,_,U,.str _,G6,_,U,Yu ⟨_,U,f,_,0,_,U,U,SqT.of G,U,U,_,U,YN ⟨_,U,f,_,U,.inr (SqT.of G),U,_,U,YN ⟨_,U,f,_,1,_,U,U,SqT.of G,U,q,prL l,ws,U,hq,hp,k⟩⟩⟩⟩⟩⟩
 have w1:=F.w1;refine⟨_,U,_,_,_,_,U,.tup G,WC,_,U,Yu ⟨_,U,f,_,U,.inr (SqT.of G),U,_,U,Yu ⟨_,U,f,_,0,_,U,U,SqT.of G,U,_,_,_,_,U,.str _,G6,_,U,Yu ⟨_,U,f,_,0,_,U,U,SqT.of G,U,U,_,U,?_⟩⟩⟩⟩;refine Yu ⟨_,U,f,_,0,_,U,U,SqT.of G,U,U,_,U,Yu ⟨_,U,f,_,U,.inr (SqT.of G),U,_,U,Yu ⟨_,U,f,_,1,_,U,U,SqT.of G,U,w,U,_,U,Yu ⟨_,U,f,_,1,_,U,U,SqT.of G,U,_,_,U,U,_,U,qG (λz=>absurd (Qba z) (by lia)) λ_=>?_⟩⟩⟩⟩;have hl:kvs.length=(nm.map V.str).length:=by rw[T0.len_nd I,Qac]
 refine⟨_,U,f,_,2,_,U,U,SqT.of G,U,_,_,_,_,U,.dK hd,vC,_,U,Yu ⟨_,U,f,_,2,_,U,U,SqT.of G,U,d,_,U,.inl hd,_,U,O,_,U,.inr (SqT.of hn),U,_,U,?_⟩⟩;rw[show(!decide (V.int (kvs.length:Int)=V.int ((nm.map V.str).length:Int)))=false by rw[hl,Qar U];rfl];refine Yu ⟨_,U,O,U,⟨_,SqT.of hn⟩,W9 (K:=K) (a:=O) (xs:=nm.map V.str) (λi σ H2=>∃u2,σ=[some (.ref f),some (.ref O),u2]/\H2=H) ⟨none,U,U⟩ (λi σ H2 _ ⟨_,_,e⟩=>e ▸ SqT.of hn) ?_ ?_⟩
 .rintro i x σ H2 hx ⟨u2,rfl,rfl⟩;obtain⟨y,rfl,hy⟩:=JD hx;have J:=Qag hy;have g:Zmc H2 d (.str y) (some (.int (valN (ixG nm y) r:Int))):=.inl ⟨_,.inr y,.inl hd,U,(T0.val y J).symm⟩;have bd:=Znm r nm y;rw[<-uz I J,F.len]at bd;refine Zh ⟨_,U,_,U,f,_,2,_,U,U,SqT.of G,U,d,_,U,g,_,U,Yu ⟨_,U,f,_,2,_,U,U,SqT.of G,U,_,U,d,_,U,g,_,U,_,U,Yu ?_⟩⟩;refine⟨_,U,f,_,2,_,U,U,SqT.of G,U,_,U,d,_,U,g,_,_,U,U,_,U,qG (λz=>absurd (Qba z) (by lia)) λ_=>⟨_,U,f,_,2,_,U,U,SqT.of G,U,_,U,d,_,U,g,_,U,f,_,1,_,U,U,SqT.of G,U,_,_,U,U,⟨Qcg _,by lia,by decide⟩,_,_,U,U,_,U,qG (λz=>absurd (Qba z) ?_) λ_=>⟨_,U,U⟩⟩⟩;rw[Int.one_mul,Qay];lia
 .rintro σ H2 ⟨u2,rfl,rfl⟩;exact k
inductive G4:Prop
 |mk(t1 t2 tn:Au)(nm:Ai)(u v:A0):vs=[.ref t1,.ref t2,.ref tn]->H t1=some (.tup u)->H t2=some (.tup v)->H tn=some (.tup (nm.map V.str))->Nm3 nm->Sm nm u->Sm nm v->((∀w,1<=w->w<4-nm.length/3->AlW nm u v w)->∀H',ZD H H'->Q .non H')->(∀(w j:Nat) (vs:Aj) p d H',1<=w->(∀x,1<=x->x<w->AlW nm u v x)->(rws (2^w) nm.length)[j]?=some vs->(∀a∈(rws (2^w) nm.length).take j,YG (2^w) (qH nm a) u=YG (2^w) (qH nm a) v)->¬YG (2^w) (qH nm vs) u=YG (2^w) (qH nm vs) v->H' p=some (.tup [.str "parted",.int w,.ref d])->H' d=some (.dK (kvC nm vs))->ZD H H'->Q (.ref p) H')->G4
def gn(K:Af):Sp:=λvs H Q _=>G4 vs H Q
theorem gp:Y1 P w K mg base CX0 3 t.rq t.rr ["one","other","names"] (gn K):=by
 have C:=xY P base T TB;have g:=xF P base T TB;refine T.su.go JK ?_;rintro cdv A outer s H _ Q E hr ⟨t1,t2,Z,nm,u,v,rfl,h1,h2,hn,N,S1,S2,kN,kP⟩;refine⟨_,(Za (Yh Qa4 U (Zb8 U T.aq (Zg Ze (Zg (Zj WZ Ze (Zj Yc (Zo Zt (by rfl) T.af ZR (Zg (qv 2) Zc)) Ze)) Zc))) (Y0 3 JK.nd)
   (Zf (Yh Qa4 U (Xi (Zl T.ig C hr (Zg (qv 2) (Zg (qv 3) Zc)))) (Y0 4 JK.nd)
   (Zf (ZF (Zr ku (Zl T.bc g hr (Zg (qv 0) (Zg (qv 3) (Zg (qv 4) Zc)))) (Zl T.bc g hr (Zg (qv 1) (Zg (qv 3) (Zg (qv 4) Zc)))) (Z7 _))
   (Zf (Zp (Zs (Zg Zi (Zg (qv 3) (Zg (qv 4) Zc)))))) Zw)))))
   (Zf (Zp yo))),?_⟩
 try dsimp only[L2.cxK,L2.cxK2]
 have n3:=N.n3;have one:∀{ws:A0},Sm nm ws->∀(m:Int)(ρ:Str->Int),∃o,YG m ρ ws=[o]:=λ{ws} S m ρ=>by
  have h:=WM m ρ ws;rw[S.st]at h;exact Qfo.mp h
 have e4:(4:Int)-(((nm.map V.str).length:Nat):Int)/3=((4-nm.length/3:Nat):Int):=by rw[Qac];lia
 refine⟨_,U,Z,_,U,.inr (SqT.of hn),_,_,U,U,.of (by decide) (by decide),_,_,U,U,1,_,U,⟨by decide,by decide,by rw[e4];lia,by rw[e4];lia⟩,XE (λi σ H'=>∃u3 G,σ=[some (.ref t1),some (.ref t2),some (.ref Z),u3,G]/\(∀w,1<=w->w<i+1->AlW nm u v w)/\ZD H H') ⟨none,none,U,λw h1 h2=>by lia,ZD.refl _⟩ ?_ ?_⟩
 .rintro i σ H1 hi ⟨u3,G,rfl,D,s1⟩;rw[e4]at hi;have hi:i<3-nm.length/3:=by lia
  have big:(2^(i+1))^nm.length<=10000:=(by decide +kernel:∀n∈[0,1,2,3],∀i∈[0,1,2],i<3-n/3->(2^(i+1))^n<=10000) nm.length (by simp only[Qaw,Qbq,Qet];lia) i (by simp only[Qaw,Qbq,Qet];lia) hi;refine Zh ⟨_,U,_,U,Z,nm,i+1,by show[V.ref Z,V.int (1+(i:Int))]=_;rw[show 1+(i:Int)=((i+1:Nat):Int) by lia],s1 _ _ hn,N.nd,n3,by lia,big,λp H2 D2 s2=>?_⟩;obtain⟨ds,d1,d2,d3⟩:=id D2;refine⟨p,U,⟨_,SqL.of d1⟩,JQ (K:=K) (a:=p) (xs:=ds.map V.ref) (λj σ H'=>∃G,σ=[some (.ref t1),some (.ref t2),some (.ref Z),some (.int (1+(i:Int))),G]/\(∀a∈(rws (2^(i+1)) nm.length).take j,YG (2^(i+1)) (qH nm a) u=YG (2^(i+1)) (qH nm a) v)/\ZD H2 H') ⟨_,U,(λ_ h=>nomatch h),ZD.refl _⟩ (λj σ H' _ ⟨_,_,_,s⟩=>SqL.of (s _ _ d1)) ?_ ?_⟩
  .rintro j x σ H3 hx ⟨G,rfl,Y,O⟩;rw[Qal]at hx;obtain⟨d,hd,rfl⟩:=Qbp.mp hx;have hjl:j<(rws (2^(i+1)) nm.length).length:=by rw[<-d2];exact(Qah.mp hd).1
   obtain⟨vs,F⟩:∃vs,(rws (2^(i+1)) nm.length)[j]?=some vs:=⟨_,Qad hjl⟩;have I:=O _ _ (d3 j d vs hd F);obtain⟨g1,g2⟩:=vT (Qag F);have col:=Zgu N.nd g1;have J:=s1.trans (s2.trans O);have hb:∀y∈nm,0<=qH nm vs y/\qH nm vs y<2^(i+1):=λy _=>Zli g2 y;obtain⟨o1,e1⟩:=one S1 (2^(i+1)) (qH nm vs);obtain⟨o2,e2⟩:=one S2 (2^(i+1)) (qH nm vs);have ew:1+(i:Int)=((i+1:Nat):Int):=by lia
   refine Zh ⟨_,U,_,U,_,U,t1,d,i+1,10,nm,u,_,_,o1,by show[V.ref t1,V.int (1+(i:Int)),V.ref d]=_;rw[ew],by lia,J _ _ h1,by have:=S1.ln;lia,I,col,hb,S1.wd,S1.en,e1,λH4 s4=>⟨_,U,_,U,_,U,t2,d,i+1,10,nm,v,_,_,o2,by show[V.ref t2,V.int (1+(i:Int)),V.ref d]=_;rw[ew],by lia,s4 _ _ (J _ _ h2),by have:=S2.ln;lia,s4 _ _ I,col,hb,S2.wd,S2.en,e2,λH5 s5=>⟨U,_,U,?_⟩⟩⟩
   by_cases eo:o1=o2
   .rw[show(!decide (V.int o1=V.int o2))=false by rw[Qar (by rw[eo])];rfl];refine Yu ⟨_,U,λa h=>?_,O.trans (s4.trans s5)⟩;rw[take_snoc F]at h;rcases Qa7.mp h with h|h
    .exact Y a h
    .rw[Qau.mp h,e1,e2,eo]
   .rw[show(!decide (V.int o1=V.int o2))=true by rw[Qan (λz=>eo (by injection z))];rfl];refine YN ⟨_,U,_,U,Zos,λq hq=>?_⟩;have s6:=Zd (o:=.tup [.str "parted",.int (1+(i:Int)),.ref d]) hq;exact kP (i+1) j vs q d _ (by lia) D F Y (λz=>eo (by rw[e1,e2]at z;injection z)) (by rw[Zb,ew]) (s6 _ _ (s5 _ _ (s4 _ _ I))) (J.trans ((s4.trans s5).trans s6))
  .rintro σ H3 ⟨G,rfl,Y,O⟩;rw[Qac,d2,Qbb]at Y;refine⟨_,_,U,λw h1 h2=>?_,s1.trans (s2.trans O)⟩
   by_cases e:w=i+1
   .subst e;exact Y
   .exact D w h1 (by lia)
 .rintro σ H1 ⟨u3,G,rfl,D,s1⟩;refine kN (λw h1 h2=>D w h1 ?_) H1 s1;rw[e4];lia
inductive Jm:Prop
 |mk(m:Au)(nm:Ai)(b:Nat)(nx:Ad)(ot:Ax)(w:Nat)(v:V)(tr:Bool):vs=[.ref m,.int w,v]->M4 H m nm b nx ot->Runs nx ot nm.length->b<nx.length->nx.length<=1000000->nm.length<=3->nm.Nodup->1<=w->w<=1000000->XO tr v->(∀r∈ot,∀x∈r,XO tr x)->(∃r,r.length=w/\(∀l∈r,l<2^nm.length)/\Y9 (mN nx) (mB ot v) b r=true)->(∀r d kvs H',zo (mN nx) (mB ot v) b nm.length w r->H d=none->H' d=some (.dK kvs)->Tab kvs nm (λy=>(valN (ixG nm y) r:Int))->SmF H H'->Q (.ref d) H')->Jm
def yj(K:Af):Sp:=λvs H Q _=>Jm vs H Q
theorem yk:Y1 P w K mg base CX0 4 t.nq t.nt ["machine","width","wanted"] (yj K):=by
 have C:=uP P base T TB;have G_run:=ok_run P base T TB;have g:=qB P base T TB;have D:=jx P base T TB;refine T.oj.go Yr ?_;rintro cdv A outer s H _ Q E hr ⟨m,nm,b,nx,ot,w,v,tr,rfl,M,R,hb,hN,hn3,hnd,hw1,hw2,hv,hk,hex,k⟩;refine⟨_,(Za (Z3 3 Yr.nd (Zv Z1 (qv 0) Ze))
   (Za (Z3 4 Yr.nd (ZG (wg U) (by rfl) T.ah ZU (Zg (ZG zD (by rfl) T.aq uZ (Zg (Zl T.fu D hr (Zg (Zo Zt (by rfl) T.af ZR (Zg (qv 3) Zc)) Zc)) Zc)) Zc)))
   (Za (gF (i:=5) Yr.nd U U ({}:Yi (Zk X9) _ ["machine","width","wanted","names","all_letters","letters","number","row"] "place" ["all_letters"] [4]) (YF U T.aq (Zg (qv 1) Zc)) (λ_ _ _ _=>XU) (λ_ _ _ _=>(qv 1)))
   (Za (Yh Qa4 U (YF U T.aq (Zg (Zo Zt (by rfl) T.af ZR (Zg (qv 3) Zc)) Zc)) (Y0 6 Yr.nd)
   (Zf (Z3 5 Yr.nd (Zl T.dj g hr (Zg (qv 0) (Zg (qv 5) (Zg (qv 6) (Zg (qv 2) Zc))))))))
   (Za (Z3 7 Yr.nd (ZG Z9 (by rfl) T.ah ZU (Zg (Y3 ({}:Yi (Zk X9) _ ["machine","width","wanted","names","all_letters","letters","number","row"] "left" [] []) (Xi (qv 5)) (λ_ _ _ _=>XU) (λ_ _ _ _=>(Zv (show IxR _ (Zhd K)from Z1) (qv 0) Ze))) Zc)))
   (Za (ZF (Zr ku (Zv Z1 (Zl T.abx G_run hr (Zg (qv 0) (Zg (qv 7) Zc))) (XH X3 Ze)) (qv 2) (Z7 _))
   (Zf Zhu) Zw)
   (Zf (Zp (Zl T.aao C hr (Zg (qv 3) (Zg (qv 7) Zc))))))))))),?_⟩
 try dsimp only[L2.cxK,L2.cxK2]
 obtain⟨pn,ps,po,h1,hpn,Rs,Ro⟩:=M.ex;refine⟨_,U,m,_,0,_,U,U,SqT.of h1,U,Zh ?_⟩;have Y:(nm.map V.str).length=nm.length:=Qac _;have p8:2^nm.length<=8:=Qcq (by decide) hn3 (n:=2);refine⟨_,U,pn,_,U,.inr (SqT.of hpn),nm.length,congrArg (λz:Nat=>[V.int z]) Y,by lia,_,U,λrg hrg=>⟨rg,2^nm.length,U,by rw[Zb,Qfk];rfl,by lia,λO hal=>Zh ?_⟩⟩;have s1:=(Zd (o:=.rng 0 (2^nm.length)) hrg).trans (Zd (o:=.tup ((List.range (2^nm.length)).map λi:Nat=>V.int i)) hal);have hal1:upd (upd H rg (.rng 0 (2^nm.length))) O (.tup ((List.range (2^nm.length)).map λi:Nat=>V.int i)) O=some (.tup ((List.range (2^nm.length)).map Xd)):=Zb;generalize upd (upd H rg (.rng 0 (2^nm.length))) O (.tup ((List.range (2^nm.length)).map λi:Nat=>V.int i))=H1 at *;refine⟨_,U,(w:Int),U,by lia,by lia,Zep (n:=(w:Int).toNat) (λ_=>.ref O) (by rw[Qay];exact Qax (Xe (by lia))) (λi _ R' hR=>⟨_,U,hR⟩) (λJ hlt0=>Zh ?_)⟩;rw[Qay];have s2:=s1.trans (Zd (o:=.lst ((List.range w).map λ_=>V.ref O)) hlt0);have Lt0:wN (upd H1 J (.lst ((List.range w).map λ_=>V.ref O))) J (List.replicate w (List.range (2^nm.length))):=by
  refine⟨_,Zb,by rw[Qac,Qa3,Qbh],λi L hi=>?_⟩;obtain⟨h3,rfl⟩:=rep_at hi;exact⟨O,by rw[Qal,Qd6 h3];rfl,Zd hlt0 _ _ hal1⟩
 generalize upd H1 J (.lst ((List.range w).map λ_=>V.ref O))=H2 at *;have hne:List.replicate w (List.range (2^nm.length))≠[]:=λz=>by
  have:=congrArg List.length z;rw[Qbh]at this;have:w=0:=this;lia
 obtain⟨r1,q1,q2,q3⟩:=hex;have fr:=Zgh (nx:=mN nx) (ok:=mB ot v) (b:=b) (n:=nm.length) (w:=w) (by lia) ⟨r1,q1,q2,q3⟩;have itok:=λk=>Zgf (nx:=mN nx) (ok:=mB ot v) (b:=b) hne ⟨r1,xc.mpr ⟨q1,q2⟩,q3⟩ k;have itf:=λk=>wO (nx:=mN nx) (ok:=mB ot v) (b:=b) (Ls:=List.replicate w (List.range (2^nm.length))) k;have itl:∀k,∀L∈itL (mN nx) (mB ot v) b (List.replicate w (List.range (2^nm.length))) k,L.length<=1000/\∀l∈L,l<2^nm.length:=λk L I=>by
  obtain⟨L0,f1,f2,f3⟩:=(itf k).2 L I;rw[Qek f1]at f2 f3;rw[Qa3]at f2;exact⟨by lia,λl hl=>Qcf.mp (f3 l hl)⟩
 refine⟨_,U,pn,_,U,.inr (SqT.of (s2 _ _ hpn)),_,U,by lia,by rw[Y];lia,XE (lo:=0) (λi σ H'=>∃(lt:Au)(u6:Option V),σ=[some (.ref m),some (.int w),some v,some (.ref pn),some (.ref O),some (.ref lt),u6,none]/\i<=nm.length/\wN H' lt (itL (mN nx) (mB ot v) b (List.replicate w (List.range (2^nm.length))) i)/\SmF H H') ⟨J,none,U,Qbj _,Lt0,SmF.of s2⟩ ?_ ?_⟩
 .rintro i σ H3 hi ⟨lt,u6,rfl,hil,Lt,s3⟩;rw[Qay,Y]at hi;rw[Qfb];refine Zh ⟨_,U,_,U,_,U,_,U,m,lt,nm,b,nx,ot,nm.length,_,i,v,tr,U,M.smf s3,R,hb,hN,Lt,(itok i).1,itl i,by rw[(itf i).1,Qbh];exact hw2,by lia,hv,hk,λp H4 hp Lt4 s4=>Zh ⟨p,_,U,hi,Lt4,s3.trans s4⟩⟩
 rintro σ H3 ⟨lt,u6,rfl,hil,⟨as,ha,Z,hat⟩,s3⟩;rw[Qay,Y]at Z hat;have itn:∀L∈itL (mN nx) (mB ot v) b (List.replicate w (List.range (2^nm.length))) nm.length,L≠[]:=by
  obtain⟨_,⟨r2,g1,_⟩,_⟩:=itok nm.length;intro L I z;obtain⟨t,ht⟩:=Qcp I;have go:∀{r:Aj} {Ls:Ad},RIn r Ls->∀(t:Nat),Ls[t]?≠some []:=by
   intro r Ls
   induction Ls generalizing r with
   |nil=>intro _ t h;cases h
   |cons L0 Ls ih=>
    intro h t ht;obtain⟨l,r',rfl,h1,h2⟩:=h.uncons;cases t with
    |zero=>cases ht;cases h1
    |succ t=>exact ih h2 t ht
  exact go g1 t (by rw[ht,z])
 have hdl:as.map (hdV H3)=((itL (mN nx) (mB ot v) b (List.replicate w (List.range (2^nm.length))) nm.length).map λL=>L.headD 0).map Xd:=by
  refine Qej λt=>?_;rw[Qal,Qal,Qal];cases I:(itL (mN nx) (mB ot v) b (List.replicate w (List.range (2^nm.length))) nm.length)[t]? with
  |none=>rw[List.getElem?_eq_none (by have:=List.getElem?_eq_none_iff.mp I;lia)];rfl
  |some L=>
   obtain⟨x,e1,e2⟩:=hat t L I;rw[e1];exact congrArg some (Zle e2 (itn L (Qag I))).1
 have hasl:as.length=w:=by rw[Z,(itf _).1,Qbh]
 refine⟨_,U,lt,U,⟨_,SqL.of ha⟩,comp_map (xs:=as) (hdV H3) (SqL.of ha) (by rw[hasl];exact Qax (Xe (by lia))) (λx hx R' hR=>?_) (λl hl=>⟨l,_,U,.inl ⟨SqL.of Zb,λG hrw=>Zh ?_⟩⟩)⟩
 .obtain⟨t,ht⟩:=Qcp hx;have htl:t<as.length:=(Qah.mp ht).1;obtain⟨L,I⟩:∃L,(itL (mN nx) (mB ot v) b (List.replicate w (List.range (2^nm.length))) nm.length)[t]?=some L:=⟨_,Qad (by lia)⟩;obtain⟨y,e1,e2⟩:=hat t L I;rw[ht]at e1;cases e1;obtain⟨e3,e4⟩:=Zle e2 (itn L (Qag I));rw[e3]at hR;exact⟨_,U,y,_,0,_,U,U,SqT.of e2,e4,hR⟩
 rw[hdl]at hrw ⊢;generalize hrr:(itL (mN nx) (mB ot v) b (List.replicate w (List.range (2^nm.length))) nm.length).map (λL=>L.headD 0)=r at *;have s4:=(Zd (o:=.lst (r.map Xd)) hl).trans (Zd (o:=.tup (r.map Xd)) hrw);have hr4:upd (upd H3 l (.lst (r.map Xd))) G (.tup (r.map Xd)) G=some (.tup (r.map Xd)):=Zb;generalize upd (upd H3 l (.lst (r.map Xd))) G (.tup (r.map Xd))=H4 at *;have s34:=s3.trans (SmF.of s4);obtain⟨nv,MA⟩:=Zn0 (M.smf s34) R hb;obtain⟨r0,c,er⟩:=vQ (r:=r) (λz=>by have:=fr.len;rw[z]at this;have:0=w:=this;lia);refine⟨_,U,_,U,m,G,_,_,b,nv,_,_,r,U,MA,hr4,fr.lt,by rw[fr.len];exact hw2,λq H5 hq hq5 s5=>⟨_,U,q,_,-1,_,U,U,SqT.of hq5,by rw[er,Zfw];exact yV _ _,_,U,?_⟩⟩;have F:=fr.last;rw[er,Xn]at F;have ev:=Qba F;have e9:(λs c=>(ot.getD s []).getD c V.non) (stN nx b r0) c=v:=ev;rw[Zbi,e9];refine⟨ji hv hv,_,U,?_⟩;rw[show(!decide (v=v))=false by rw[Qar U];rfl];refine Yu ?_;have hr5:=s5 _ _ hr4;have s35:=s34.trans (SmF.of s5);refine⟨_,U,_,U,pn,G,nm,r.map (λl:Nat=>(l:Int)),λy=>(valN (ixG nm y) r:Int),U,s35.tup hpn,by rw[hr5,Qb7];rfl,hn3,by rw[Qac,fr.len];exact hw2,λc hc=>?_,λi y hy=>?_,λd kvs H6 hd hd6 T s6=>?_⟩
 .obtain⟨l,_,rfl⟩:=Qa2.mp hc;exact Qcg _
 .rw[uy];show _=(valN (ixG nm y) r:Int);rw[show ixG nm y=i from Ws hnd hy]
 .exact k r d kvs H6 fr (s35.free hd) hd6 T (s35.trans (SmF.of s6))
inductive xH:Prop
 |mk(tw dv kt:Au)(ys:Ai)(ws:A0)(kvs:Ay)(cols:Str->Int)(pl:Nat)(kp:Ak)(o:Int)(lt:Ak):vs=[.ref tw,.ref dv,.int pl,.ref kt]->H tw=some (.tup ws)->ws.length<=100->H dv=some (.dK kvs)->Zcd kvs ys cols->H kt=some (.tup (kp.map V.int))->(∀w∈ws,wB ys w)->Yf ws->XT ys cols pl kp ws=([o],lt)->lt.length<=kp.length->(∀t l H',H t=none->H' t=some (.tup [.int o,.ref l])->H' l=some (.lst (lt.map V.int))->ZD H H'->Q (.ref t) H')->xH
def Zc3(K:Af):Sp:=λvs H Q _=>xH vs H Q
theorem Zc4:Y1 P w K mg base CX0 4 t.abh t.abi ["words","columns","place","kept"] (Zc3 K):=by
 have I:=x8 P base T TB;have F:=yg P base T TB;have G:=gh P base T TB;have C:=yb P base T TB;have D:=yi P base T TB;refine T.cz.go XD ?_;rintro cdv A outer s H _ Q E hr ⟨tw,dv,kt,ys,q,kvs,cols,pl,kp,o,lt,rfl,ht,hl,hd,hc,hk,hw,he,hst,hkl,k⟩;have hu:=qL hr;refine⟨_,(Za (Z3 4 XD.nd (Yx Zc))
   (Za (Z3 5 XD.nd (Yx Zc))
   (Za (Yh Qa4 U (Zek U T.aas (qv 0)) (Y0 6 XD.nd)
   (Za (Z3 7 XD.nd (Zl T.oh D hr (Zg (qv 4) (Zg (qv 6) Zc))))
   (Zf (ZF (YE (Zl T.dn I hr (Zg (qv 6) Zc)))
   (Za (Z3 8 XD.nd (XH X3 (Zv Z1 (qv 3) (Zo Zt (by rfl) T.af ZR (Zg (qv 5) Zc)))))
   (Za (ZE (ZP Qaj Qap Qaq Z4 (qv 5) (Zg (Zl T.sj G hr (Zg (qv 6) (Zg (qv 7) (Zg (qv 8) Zc)))) Zc)))
   (Zf (ZE (ZP Qaj Qap Qaq Z4 (qv 4) (Zg (Zl T.og F hr (Zg (qv 6) (Zg (qv 7) (Zg (qv 8) (Zg (Zv Z0 (qv 5) (XH X3 Ze)) Zc))))) Zc)))))) (Zf (ZF (YE (Zo YI (by rfl) T.ag ZL (Zg (qv 6) (Zg (Xz (v:=.ty "int") (by rfl) T.om kE U) Zc))))
   (Zf (ZE (ZP Qaj Qap Qaq Z4 (qv 4) (Zg (XH X3 (Zj Xa (Zj yl (qv 6) (qv 2)) Ze)) Zc)))) (Zf (ZF (Zr (qQ hu) (qv 6) (qv 1) (by with_unfolding_all rfl))
   (Zf (ZE (ZP Qaj Qap Qaq Z4 (qv 4) (Zg (WE hu (qv 1) (qv 6) (λ_ _=>U)) Zc)))) (Zf (ZE (ZP Qaj Qap Qaq Z4 (qv 4) (Zg (Zl T.nz C hr (Zg (qv 6) (Zg (qv 7) Zc))) Zc))))))))))))
   (Zf (Zp (Zs (Zg (xo Qaj Qds Qdt yn (qv 4)) (Zg (qv 5) Zc)))))))),?_⟩
 try dsimp only[L2.cxK,L2.cxK2]
 refine⟨Zjo,λst Y=>Zh ⟨Zjo,λJ hla0=>Zh ?_⟩⟩;have s1:=Zd (o:=.lst []) Y;have s2:=s1.trans (Zd (o:=.lst []) hla0);have hsl:st≠J:=Zq (Zb (H:=H) (a:=st) (o:=.lst [])) hla0;have hlaH:H J=none:=s1.free hla0;refine⟨_,U,tw,_,U,SqT.of (s2 _ _ ht),Zel (K:=K) (a:=tw) (xs:=q) (λi σ H2=>∃u6 u7 u8,σ=[some (.ref tw),some (.ref dv),some (.int pl),some (.ref kt),some (.ref st),some (.ref J),u6,u7,u8]/\i<=q.length/\H2 st=some (.lst ((XT ys cols pl kp (q.drop (q.length-i))).1.map V.int).reverse)/\H2 J=some (.lst ((XT ys cols pl kp (q.drop (q.length-i))).2.map V.int))/\ZD H H2) ⟨none,none,none,U,Qbj _,?_,?_,s2⟩ (λi σ H2 _ ⟨_,_,_,_,_,_,_,s⟩=>SqT.of (s _ _ ht)) ?_ ?_⟩
 .rw[Qgn,Qe8,Zm hsl];exact Zb
 .rw[Qgn,Qe8];exact Zb
 .rintro i x σ H2 hx ⟨u6,u7,u8,rfl,hi0,h2s,h2l,s3⟩;obtain⟨hi,hx⟩:=Zku hx;have ed:q.drop (q.length-(i+1))=x::q.drop (q.length-i):=by
   rw[show q.length-(i+1)=q.length-1-i by lia,Qb2 (by lia),show q.length-1-i+1=q.length-i by lia];congr 1;exact(Qah.mp hx).2
  have hwx:=hw x (Qag hx);have hen:=G8 q (q.length-(i+1)) he;have hmo:=wD ys cols pl kp q (q.length-(i+1));rw[hst]at hmo;rw[ed]at hen hmo ⊢;have hln:=vw (ys:=ys) (cols:=cols) (pl:=pl) (kp:=kp) (q.drop (q.length-i)) λw h=>hw w (Qcr h);have hle2:=vx (q.drop (q.length-i));rw[Qbn]at hle2;have hmo2:=wC ys cols pl kp x (q.drop (q.length-i));have hlb:=Za7 ys cols pl kp (q.drop (q.length-i));rw[Qbn]at hlb;generalize q.drop (q.length-i)=r at *;have hn:=hen.1;have eC:∀z:V,XT ys cols pl kp (z::r)=match z with
   |.str y=>
    if y∈allR then(okI y ((XT ys cols pl kp r).1.take (npw z)) (-(kp.getD (XT ys cols pl kp r).2.length 0)) (ktI y ((XT ys cols pl kp r).1.take (npw z)) (-(kp.getD (XT ys cols pl kp r).2.length 0)))::(XT ys cols pl kp r).1.drop (npw z),(XT ys cols pl kp r).2++[ktI y ((XT ys cols pl kp r).1.take (npw z)) (-(kp.getD (XT ys cols pl kp r).2.length 0))])
    else if y∈ys then(cols y::(XT ys cols pl kp r).1.drop (npw z),(XT ys cols pl kp r).2)
    else(oaI y ((XT ys cols pl kp r).1.take (npw z))::(XT ys cols pl kp r).1.drop (npw z),(XT ys cols pl kp r).2)
   |.int z'=>(-(bt z' pl)::(XT ys cols pl kp r).1.drop (npw z),(XT ys cols pl kp r).2)
   |_=>XT ys cols pl kp r:=λz=>by cases z<;>rfl
  have eX:=eC x;generalize XT ys cols pl kp r=P at *;obtain⟨g,Z⟩:=P;try dsimp only at *
  have hkx:x=kV (keyOf x)/\Wm x=true:=by
   rcases hwx with⟨y,rfl,_⟩|⟨y,rfl,_⟩|⟨y,rfl,_⟩|⟨z,rfl,_⟩<;>exact⟨U,U⟩
  refine⟨_,U,_,U,st,g.map V.int,x,U,h2s,hkx.1,by rw[Qac];lia,by rw[Qac];lia,λpp H3 hpp0 hpp O o3=>Zh ?_⟩;rw[<-Qe6]at hpp;rw[<-Qfi]at O;have h3l:=o3 _ _ h2l hsl.symm;have s4:ZD H H3:=λb o e=>o3 b o (s3 b o e) (Zq e Y);have hln3:(g.take (npw x)).length=npw x:=by rw[Qas];lia
  have hps:pp≠st:=λz=>by rw[z,h2s]at hpp0;cases hpp0
  have hpl2:pp≠J:=λz=>by rw[z,h2l]at hpp0;cases hpp0
  refine⟨_,U,x,U,hkx.2,_,U,?_⟩;have sml:((g.drop (npw x)).map V.int).reverse.length<sizeLine:=by
   rw[Qd3,Qac,Qbn];exact Zu (by lia)
  have fin:∀(v:Int)(Hx:Hp),XT ys cols pl kp (x::r)=(v::g.drop (npw x),Z)->ZD H3 Hx->upd Hx st (.lst (((g.drop (npw x)).map V.int).reverse++[.int v])) st=some (.lst ((XT ys cols pl kp (x::r)).1.map V.int).reverse)/\upd Hx st (.lst (((g.drop (npw x)).map V.int).reverse++[.int v])) J=some (.lst ((XT ys cols pl kp (x::r)).2.map V.int))/\ZD H (upd Hx st (.lst (((g.drop (npw x)).map V.int).reverse++[.int v]))):=λv Hx e sx=>by
   rw[e];refine⟨by rw[Zb,Qb1,Qdh],by rw[Zm hsl.symm];exact sx _ _ h3l,ZV (s4.trans sx) Y⟩
  rcases hwx with⟨y,rfl,hy,hny,hn1,hn2⟩|⟨y,rfl,hy,hna,hny,hnp⟩|⟨y,rfl,hy,hna,hnp⟩|⟨z,rfl,hz,hnp⟩
  .show if inV (.str y) (allR.map V.str)=true then _ else _
   rw[ZO,Qar hy];have eX:XT ys cols pl kp (.str y::r)=(okI y (g.take (npw (.str y))) (-(kp.getD Z.length 0)) (ktI y (g.take (npw (.str y))) (-(kp.getD Z.length 0)))::g.drop (npw (.str y)),Z++[ktI y (g.take (npw (.str y))) (-(kp.getD Z.length 0))]):=by
    rw[eX];exact Qa9 hy
   have hkk:Z.length<kp.length:=by
    rw[eX]at hmo;simp only[Qaf,Qb3,Qey]at hmo;lia
   refine YN ⟨_,U,_,U,J,_,U,.inl (SqL.of h3l),kt,_,_,.int (kp.getD Z.length 0),U,U,SqT.of (s4 _ _ hk),?_,_,U,?_⟩
   .rw[Qac];exact Z8 _ U hkk
   try dsimp only
   generalize -(kp.getD Z.length 0)=hh at *;refine Zh ?_;refine⟨_,U,.inl ⟨U,_,SqL.of h3l⟩,_,U,_,U,_,U,y,pp,g.take (npw (.str y)),hh,U,hpp,by lia,hy,(λh=>by have:=hn2 h;lia),λH4 s5=>⟨J,_,_,U,U,s5 _ _ h3l,?_,?_⟩⟩
   .rw[Qac];exact Zu (by lia)
   have h5s:upd H4 J (.lst (Z.map V.int++[.int (ktI y (g.take (npw (.str y))) hh)])) st=some (.lst ((g.drop (npw (.str y))).map V.int).reverse):=by rw[Zm hsl];exact s5 _ _ O
   have h5p:upd H4 J (.lst (Z.map V.int++[.int (ktI y (g.take (npw (.str y))) hh)])) pp=some (.lst ((g.take (npw (.str y))).map V.int)):=by rw[Zm hpl2];exact s5 _ _ hpp
   have h5l:upd H4 J (.lst (Z.map V.int++[.int (ktI y (g.take (npw (.str y))) hh)])) J=some (.lst (Z.map V.int++[.int (ktI y (g.take (npw (.str y))) hh)])):=Zb;have s6:ZD H (upd H4 J (.lst (Z.map V.int++[.int (ktI y (g.take (npw (.str y))) hh)]))):=ZV (s4.trans s5) hlaH;generalize upd H4 J (.lst (Z.map V.int++[.int (ktI y (g.take (npw (.str y))) hh)]))=H5 at *;refine⟨_,U,.inl ⟨U,_,SqL.of h5s⟩,_,U,_,U,_,U,_,U,1,U,J,_,-1,.int (ktI y (g.take (npw (.str y))) hh),U,U,SqL.of h5l,yV _ _,y,pp,g.take (npw (.str y)),hh,_,U,h5p,by lia,hy,(λh=>by have:=hn2 h;lia),λH6 s7=>⟨st,_,_,U,U,s7 _ _ h5s,sml,_,_,_,U,hi,?_,?_,ZV (s6.trans s7) Y⟩⟩
   .rw[Zb,eX,Qb1,Qdh]
   .rw[Zm hsl.symm,eX,Qbd];exact s7 _ _ h5l
  .show if inV (.str y) (allR.map V.str)=true then _ else _
   rw[ZO,Qan hna];have eX:XT ys cols pl kp (.str y::r)=(oaI y (g.take (npw (.str y)))::g.drop (npw (.str y)),Z):=by
    rw[eX];show(if y∈allR then _ else if y∈ys then _ else _)=_;rw[Qa6 hna,Qa6 hny]
   refine Yu ⟨_,U,_,_,_,_,U,.str y,YK,_,U,Yu ⟨_,U,_,U,dv,Yp kvs (.inr y),U,.inl ⟨kvs,.inr y,.inl (s4 _ _ hd),U,U⟩,_,U,?_⟩⟩;show if(Yp kvs (.inr y)).isSome=true then _ else _;rw[hc.2 y hny];refine Yu ⟨_,U,.inl ⟨U,_,SqL.of O⟩,_,U,_,U,y,pp,g.take (npw (.str y)),U,hpp,hy,by rw[hln3,hnp],λH4 s5=>?_⟩;obtain⟨f1,f2,f3⟩:=fin _ H4 eX s5;exact⟨st,_,_,U,U,s5 _ _ O,sml,_,_,_,U,hi,f1,f2,f3⟩
  .show if inV (.str y) (allR.map V.str)=true then _ else _
   rw[ZO,Qan hna];have eX:XT ys cols pl kp (.str y::r)=(cols y::g.drop (npw (.str y)),Z):=by
    rw[eX];show(if y∈allR then _ else if y∈ys then _ else _)=_;rw[Qa6 hna,Qa9 hy]
   refine Yu ⟨_,U,_,_,_,_,U,.str y,YK,_,U,Yu ⟨_,U,_,U,dv,Yp kvs (.inr y),U,.inl ⟨kvs,.inr y,.inl (s4 _ _ hd),U,U⟩,_,U,?_⟩⟩;show if(Yp kvs (.inr y)).isSome=true then _ else _;rw[hc.1 y hy];obtain⟨f1,f2,f3⟩:=fin _ H3 eX (ZD.refl _);exact YN ⟨_,U,.inl ⟨U,_,SqL.of O⟩,_,U,_,U,dv,_,U,.inl ⟨kvs,.inr y,.inl (s4 _ _ hd),U,(hc.1 y hy).symm⟩,st,_,_,U,U,O,sml,_,_,_,U,hi,f1,f2,f3⟩
  .show if inV (.int z) (allR.map V.str)=true then _ else _
   rw[vy];refine Yu ⟨_,U,_,_,_,_,U,.int z,XG,_,U,YN ⟨_,U,.inl ⟨U,_,SqL.of O⟩,_,U,_,U,_,_,U,U,Qcg pl,_,_,U,U,_,U,?_⟩⟩;have ev:-(Builtin.bitAnd (z/2^(pl:Int).toNat) 1)=-(bt z pl):=by
    rw[and_1,Qay];rfl
   try dsimp only
   rw[ev];obtain⟨f1,f2,f3⟩:=fin _ H3 eX (ZD.refl _);exact⟨st,_,_,U,U,O,sml,_,_,_,U,hi,f1,f2,f3⟩
 .rintro σ H2 ⟨u6,u7,u8,rfl,hi0,h2s,h2l,s3⟩;rw[Qd9,Qdm,hst]at h2s h2l;refine⟨_,U,.inl ⟨U,_,SqL.of h2s⟩,st,_,.int o,U,U,h2s,U,_,U,ko,λtt htt=>?_⟩;have hlt:upd H2 st (.lst []) J=some (.lst (lt.map V.int)):=by rw[Zm hsl.symm];exact h2l
  have s5:ZD H (upd H2 st (.lst [])):=ZV s3 Y;exact k tt J _ (s5.free htt) Zb (Zd htt _ _ hlt) (s5.trans (Zd htt))
inductive Wz(K:Af):Prop
 |mk(a tn:Au)(ns:Ak)(ys:Ai):vs=[.ref a,.ref tn]->SqL K H a (ns.map V.int)->H tn=some (.tup (ys.map V.str))->Nm3 ys->(∀p t1 t2 (u v:A0) H',Sm ys u->Sm ys v->H' p=some (.tup [.ref t1,.ref t2])->H' t1=some (.tup u)->H' t2=some (.tup v)->ZD H H'->Q (.ref p) H')->Wz K
def jE(K:Af):Sp:=λvs H Q _=>Wz vs H Q K
theorem jF:Y1 P w K mg base CX0 4 t.kd t.lb ["script","names"] (jE K):=by
 have F:=Zc2 P base T TB;have g:=Gw P base T TB;have q:=GF P base T TB;have D:=yR P base T TB;have C:=Wl P base T TB;refine T.md.go Y8 ?_;rintro cdv A outer s H _ Q E G ⟨a,tn,ns,ys,rfl,hS,hn,N,k⟩;refine⟨_,(Za (Z3 2 Y8.nd (Zo JR (by rfl) T.ij yu (Zg (Zl T.aj g G (Zg (qv 0) (Zg Ze Zc))) Zc)))
   (Za (Z3 3 Y8.nd (Zl T.bh D G (Zg (Zl T.aw C G (Zg (Zl T.aj g G (Zg (qv 0) (Zg Ze Zc))) (Zg (Zj YD Ze (Zj ZI (Zj Yc (qv 2) Ze) Ze)) (Zg Ze Zc)))) (Zg (qv 1) (Zg Ze Zc)))))
   (Za (ZF (Zr Yk (Zj ZI (Zj Yc (qv 2) Ze) Ze) Ze (Z7 _))
   (Zf (Zp (Zl T.bj q G (Zg (Zl T.aj g G (Zg (qv 0) (Zg Ze Zc))) (Zg (qv 1) Zc))))) Zw)
   (Za (ZF (Zr Yk (Zj ZI (Zj Yc (qv 2) Ze) Ze) Ze (Z7 _))
   (Zf (Zp (Zs (Zg (qv 3) (Zg (Zl T.bh D G (Zg (Zl T.aw C G (Zg (Zl T.aj g G (Zg (qv 0) (Zg Ze Zc))) (Zg (Zj YD Ze (Zj ZI (Zj Yc (qv 2) Ze) Ze)) (Zg Ze Zc)))) (Zg (qv 1) (Zg Ze Zc)))) Zc))))) Zw)
   (Za (ZF (Zr Yk (Zj ZI (Zj Yc (qv 2) Ze) Ze) Ze (Z7 _))
   (Zf (Zp (Zs (Zg (qv 3) (Zg (Zl T.me F G (Zg (qv 3) (Zg (qv 1) (Zg (Zo JR (by rfl) T.ij yu (Zg (Zl T.aj g G (Zg (qv 0) (Zg Ze Zc))) Zc)) Zc)))) Zc))))) Zw)
   (Za (Zef (Zl T.bj q G (Zg (Zl T.aj g G (Zg (qv 0) (Zg Ze Zc))) (Zg (qv 1) Zc))) (qO U (Y0 4 Y8.nd) (Y0 5 Y8.nd)))
   (Zf (Zp (Zs (Zg (qv 4) (Zg (Zl T.me F G (Zg (qv 5) (Zg (qv 1) (Zg (Zo JR (by rfl) T.ij yu (Zg (Zl T.aj g G (Zg (qv 0) (Zg Ze Zc))) Zc)) Zc)))) Zc))))))))))),?_⟩
 try dsimp only[L2.cxK,L2.cxK2]
 refine⟨_,U,a,ns,0,U,hS,λc0=>⟨_,U,Zh ?_⟩⟩;have hsh:0<=(if c0<0 then -c0 else c0):=by split<;>lia
 generalize (if c0<0 then -c0 else c0)=sh at *;have n3:=N.n3;refine⟨_,U,a,ns,2,U,hS,λc2=>⟨_,U,_,_,U,U,.of (by decide) (by decide),_,_,U,U,(by show(0:Int)<4;decide),_,_,U,U,c2,(1+sh/4%4).toNat,20000,by show[V.int c2,V.int (1+sh/4%4),V.int 20000]=_;rw[Qdi (by lia)];rfl,by lia,by decide,by decide,λpn ms H1 hpn0 hpn hml hmb s1=>⟨_,U,pn,tn,ms,ys,2,U,hpn,by lia,by lia,λx hx=>(hmb x hx).1,s1 _ _ hn,n3,N.kp,λt1 u H2 ht1 hul huw hue hus hur s2=>Zh ?_⟩⟩⟩;have S1:Sm ys u:=⟨huw,hue,hus,by lia,by lia⟩;have I:=s1.trans s2;have Y:=WS hS I;have O:=I _ _ hn;refine⟨_,U,_,_,U,U,.of (by decide) (by decide),_,_,U,U,(by show(0:Int)<4;decide),U,_,U,qG (λ_=>?_) (λ_=>?_)⟩
 .exact⟨_,U,a,ns,3,U,Y,λc3=>⟨_,U,c3,tn,ys,U,O,n3,N.kp,λp t1 t2 us vs H3 W1 W2 hp h1 h2 J=>k p t1 t2 us vs H3 W1.sm W2.sm hp h1 h2 (I.trans J)⟩⟩
 refine⟨_,U,_,_,U,U,.of (by decide) (by decide),_,_,U,U,(by show(0:Int)<4;decide),U,_,U,qG (λ_=>?_) (λ_=>?_)⟩
 .refine⟨_,U,_,U,a,ns,3,U,Y,λc3=>⟨_,U,_,_,U,U,.of (by decide) (by decide),_,_,U,U,(by show(0:Int)<4;decide),_,_,U,U,c3,(1+sh/64%4).toNat,20000,by show[V.int c3,V.int (1+sh/64%4),V.int 20000]=_;rw[Qdi (by lia)];rfl,by lia,by decide,by decide,λpn ms H3 hpn0 hpn hml hmb J=>⟨_,U,pn,tn,ms,ys,2,U,hpn,by lia,by lia,λx hx=>(hmb x hx).1,J _ _ O,n3,N.kp,λt2 v H4 ht2 hvl hvw hve hvs hvr s4=>⟨ko,λp hp=>?_⟩⟩⟩⟩;have Z:=Zd (o:=.tup [.ref t1,.ref t2]) hp;exact k p t1 t2 u v _ S1 ⟨hvw,hve,hvs,by lia,by lia⟩ Zb (Z _ _ (s4 _ _ (J _ _ ht1))) (Z _ _ ht2) (I.trans ((J.trans s4).trans Z))
 refine⟨_,U,_,_,U,U,.of (by decide) (by decide),_,_,U,U,(by show(0:Int)<4;decide),U,_,U,qG (λ_=>?_) (λ_=>?_)⟩
 .refine⟨_,U,_,U,_,U,_,U,a,ns,3,U,Y,λc3=>⟨_,U,t1,tn,u,ys,_,U,by split<;>lia,ht1,O,N,S1,λt2 v H3 ht2 S2 J=>⟨ko,λp hp=>?_⟩⟩⟩;have Z:=Zd (o:=.tup [.ref t1,.ref t2]) hp;exact k p t1 t2 u v _ S1 S2 Zb (Z _ _ (J _ _ ht1)) (Z _ _ ht2) (I.trans (J.trans Z))
 refine⟨_,U,a,ns,3,U,Y,λc3=>⟨_,U,c3,tn,ys,U,O,n3,N.kp,λp t1 t2 us vs H3 W1 W2 hp h1 h2 J=>⟨p,_,U,SqT.of hp,U,_,_,U,Zh ⟨_,_,U,Zh ⟨U,?_⟩⟩⟩⟩⟩;refine⟨_,U,_,U,_,U,_,U,a,ns,4,U,WS Y J,λc4=>⟨_,U,t2,tn,vs,ys,_,U,by split<;>lia,h2,J _ _ O,N,W2.sm,λt3 v H4 ht3 S3 s4=>⟨ko,λp hp=>?_⟩⟩⟩;have Z:=Zd (o:=.tup [.ref t1,.ref t3]) hp;exact k p t1 t3 us v _ W1.sm S3 Zb (Z _ _ (s4 _ _ h1)) (Z _ _ ht3) (I.trans ((J.trans s4).trans Z))
inductive We(P:An)(w:Ar)(K:Af)(mg:Ae)(base:Heap):Prop
 |mk(κ:Type)(dq:DecidableEq κ)(sk:SK κ)(pn f:Au)(nm:Ai)(b:κ)(bv:V)(nx:κ->List κ)(ot:κ->List V)(Ua:List κ)(τ:Sp):vs=[.ref pn,bv,.ref f]->H pn=some (.tup (nm.map V.str))->sk.at_ H b bv->b∈Ua->(∀s∈Ua,(nx s).length<=8/\(ot s).length<=8/\∀x∈nx s,x∈Ua)->Ua.length<=1000000->nm.length<=3->Xp P w K mg base 12 f H τ->(∀(s:κ)(sv:V)(H1:Hp)(Q':VK),s∈Ua->sk.at_ H1 s sv->ZD H H1->(∀t r1 r2 ws H2,H2 t=some (.tup [.ref r1,.ref r2])->SqF H1 H2 r1 ws->StA sk H2 (nx s) ws->SqF H1 H2 r2 (ot s)->ZD H1 H2->Q' (.ref t) H2)->τ [sv] H1 Q' E0)->(∀p sts m (l:List κ) ws H',BfE nx b l->H' p=some (.tup [.ref sts,.ref m])->H sts=none->H' sts=some (.lst ws)->StA sk H' l ws->M4 H' m nm 0 (rnG nx l) (l.map ot)->ZD H H'->Q (.ref p) H')->We P w K mg base
def zc(P:An)(w:Ar)(K:Af)(mg:Ae)(base:Heap):Sp:=λvs H Q _=>We vs H Q P w K mg base
theorem Jn:Y1 P w K mg base CX0 13 t.fq t.ft ["names","begin","step_of"] (zc P w K mg base):=by
 have D:=jz P base T TB;refine T.ao.go Yj ?_;rintro cdv A outer s H _ Q E hr ⟨κ,_,sk,pn,f,nm,b,bv,nx,ot,Ua,τ,rfl,hpn,hbv,hb,hU,h2,hn3,hc,hτ,k⟩;refine⟨_,(Za (Z3 3 Yj.nd (Yx (Zg (qv 1) Zc)))
   (Za (Z3 4 Yj.nd (QE.or (Zfd (Zau hr) (qv 1) Ze) (gU (vo (qv 1) Ze gT) U U (λz=>nomatch z) (by decide))))
   (Za (Z3 5 Yj.nd (Yx Zc))
   (Za (Z3 6 Yj.nd (Yx Zc))
   (Za (Zab Qa4 (Zr kx (Zo Zt (by rfl) T.af ZR (Zg (qv 5) Zc)) (Zo Zt (by rfl) T.af ZR (Zg (qv 3) Zc)) (Z7 _))
   (Za (Z3 7 Yj.nd (Zia (k:=12) 2 (hr.mono (by decide)) (Zg (Zv Z0 (qv 3) (Zo Zt (by rfl) T.af ZR (Zg (qv 5) Zc))) Zc)))
   (Za (ZE (ZP Qaj Qap Qaq Z4 (qv 5) (Zg (ZG Z9 (by rfl) T.ah ZU (Zg (Y3 ({}:Yi (Zk XN) _ ["names","begin","step_of","states","numbers","steps","out","told"] "state" ["states","numbers"] [3,4]) (QI.or (Xi (Zv Z1 (qv 7) Ze)) (Xb (Zv Z1 (qv 7) Ze))) (λ_ _ _ _=>XU) (λ_ _ _ _=>(Zl T.lg D hr (Zg (qv 0) (Zg (qv 1) (Zg (qv 2) Zc)))))) Zc)) Zc)))
   (Zf (ZE (ZP Qaj Qap Qaq Z4 (qv 6) (Zg (ZG Z9 (by rfl) T.ah ZU (Zg (Zv Z1 (qv 7) Ze) Zc)) Zc)))))))
   (Zf (Zp (Zs (Zg (qv 3) (Zg (Zs (Zg (ZG Z9 (by rfl) T.ah ZU (Zg (qv 0) Zc)) (Zg Ze (Zg (ZG Z9 (by rfl) T.ah ZU (Zg (qv 5) Zc)) (Zg (ZG Z9 (by rfl) T.ah ZU (Zg (qv 6) Zc)) Zc))))) Zc)))))))))),?_⟩
 try dsimp only[L2.cxK,L2.cxK2]
 refine L2.let6 ?_;intro U5 U4 U3 U2 U1;have hr:∀s∈Ua,∀x∈nx s,x∈Ua:=λs h=>(hU s h).2.2;refine⟨_,U,Zbm,λst hst=>?_⟩;have s1:=Zd (o:=.lst [bv]) hst;refine Zh ?_;have begun:∀(nd:Au)(H3:Hp),H nd=none->H3 st=some (.lst [bv])->sk.dic H3 nd [b]->sk.at_ H3 b bv->ZD H H3->U2 {nx:=λ_ H'=>Q .non H',rt:=Q} [some (.ref pn),some bv,some (.ref f),some (.ref st),some (.ref nd),none,none,none] H3:=by
  intro nd H3 hndH hst3 hnd3 hbv3 s3;obtain⟨ond,hond,ndT,ndL⟩:=SK.ne hnd3;refine⟨Zjo,λpp hpp=>Zh ⟨Zjo,λC hpo=>Zh ?_⟩⟩;have sp:=Zd (o:=.lst []) hpp;have so:=sp.trans (Zd (o:=.lst []) hpo);have hppH:H pp=none:=s3.free hpp;have hpoH:H C=none:=s3.free (sp.free hpo);have pst:pp≠st:=(Zq hst3 hpp).symm;have pnd:pp≠nd:=(Zq hond hpp).symm;have ppo:pp≠C:=Zq Zb hpo;have ost:C≠st:=(Zq (sp _ _ hst3) hpo).symm;have oNd:C≠nd:=(Zq (sp _ _ hond) hpo).symm;have rl:∀{H:Hp} {zs:A0} {i:Nat},YB H zs (jO nx b i)->zs.length=i:=λz=>by
   have:=z.1;unfold jO at this;rw[Qac,Qa3]at this;exact this
  have ol:∀{H:Hp} {zs:A0} {i:Nat},YB H zs (vF nx ot b i)->zs.length=i:=λz=>by
   have:=z.1;unfold vF at this;rw[Qac,Qa3]at this;exact this
  have F:∀{Ha Hb:Hp},ZD Ha Hb->∀b xs,Ha b=some (.tup xs)->Hb b=some (.tup xs):=λs b xs e=>s _ _ e;refine Zfk (λσ H2=>∃(i:Nat)(u7:Option V)(zs os ws:A0),σ=[some (.ref pn),some bv,some (.ref f),some (.ref st),some (.ref nd),some (.ref pp),some (.ref C),u7]/\H2 st=some (.lst ws)/\StA sk H2 (bfN nx b i) ws/\sk.dic H2 nd (bfN nx b i)/\H2 pp=some (.lst zs)/\H2 C=some (.lst os)/\YB H2 zs (jO nx b i)/\YB H2 os (vF nx ot b i)/\(∀j,j<i->j<(bfN nx b j).length)/\i<=(bfN nx b i).length/\ZD H H2) (λ_ H2=>match H2 pp with|some (.lst zs)=>Ua.length-zs.length|_=>0) ⟨0,none,[],[],[bv],U,so _ _ hst3,StA.one (SK.keep hbv3 (F so)),SK.stay hnd3 (λo e=>so _ _ e) (F so),Zd hpo _ _ Zb,Zb,YB.nil,YB.nil,(λj hj=>absurd hj (Qei _)),Qbj _,s3.trans so⟩ ?_;rintro σ H4 ⟨i,u7,zs,os,ws,rfl,O,hA4,hnd4,G,hpo4,Rz,Ro,hgo,hil,s4⟩;have hzl:=rl Rz;have hol:=ol Ro;have hlen:=Za9 hb hr i;have hnod:=qk (nx:=nx) (b:=b) i;have hinU:=Zcf hb hr i;refine⟨_,U,pp,_,U,.inl (SqL.of G),_,U,st,_,U,.inl (SqL.of O),_,_,U,U,_,U,?_⟩;rw[hzl,hA4.1];refine qG (λhlt=>?_) (λhlt=>?_)
  .have hlt':i<(bfN nx b i).length:=by
    have:=Qba hlt;lia
   obtain⟨si,hsi⟩:∃si,(bfN nx b i)[i]?=some si:=⟨_,Qad hlt'⟩;have hsU:si∈Ua:=hinU _ (Qag hsi);obtain⟨r8,o8,rU⟩:=hU si hsU;obtain⟨sv,hsv,hat⟩:=hA4.2 i si hsi;have eR:=Zcg (nx:=nx) (b:=b) hsi;have eO:=Zch (nx:=nx) (ot:=ot) (b:=b) hsi;have eS:=vE (nx:=nx) (b:=b) hsi;refine⟨λσ' H'=>∃(u7:Option V)(zs' os' g:A0),σ'=[some (.ref pn),some bv,some (.ref f),some (.ref st),some (.ref nd),some (.ref pp),some (.ref C),u7]/\H' st=some (.lst g)/\StA sk H' (bfN nx b (i+1)) g/\sk.dic H' nd (bfN nx b (i+1))/\H' pp=some (.lst zs')/\H' C=some (.lst os')/\YB H' zs' (jO nx b (i+1))/\YB H' os' (vF nx ot b (i+1))/\ZD H H',?_,?_⟩
   .rintro σ' H' ⟨u8,zs',os',g,rfl,g1,gA,g2,g3,g4,g5,g6,s5⟩;have hpre:(bfN nx b i).length<=(bfN nx b (i+1)).length:=by
     obtain⟨r,e⟩:=GZ (nx si) (bfN nx b i);rw[eS,e,Qaf];lia
    refine⟨Ua.length-(i+1),?_,?_,i+1,u8,zs',os',g,U,g1,gA,g2,g3,g4,g5,g6,λj hj=>?_,by lia,s5⟩
    .rw[G];show Ua.length-(i+1)<Ua.length-zs.length;lia
    .rw[g3];show _=Ua.length-zs'.length;rw[rl g5]
    .by_cases hji:j=i
     .rw[hji];exact hlt'
     .exact hgo j (by lia)
   .refine⟨f,τ,U,hc.frz s4.frz,_,U,_,U,pp,_,U,.inl (SqL.of G),st,_,_,sv,U,U,SqL.of O,by rw[hzl];exact Yb hsv,qT.refl _,hτ si sv H4 _ hsU hat s4 λtt r1 r2 ws0 H5 htt hr1 hA5 hr2 s5=>?_⟩;refine Zh ?_;generalize hl0:bfN nx b i=l0 at *;have hst5:=s5 _ _ O;have hnd5:sk.dic H5 nd l0:=SK.stay hnd4 (λo e=>s5 _ _ e) (F s5);have hpp5:=s5 _ _ G;have hpo5:=s5 _ _ hpo4;obtain⟨ond4,Y,nd4T,nd4L⟩:=SK.ne hnd4;have ndn:∀{r:Au} {ys:A0},SqF H4 H5 r ys->r≠st/\r≠nd/\r≠pp/\r≠C:=λ{r ys} z=>by
     have lst:∀{q:Au} {o:HO},H4 q=some o->(∀xs,o≠.tup xs)->r≠q:=λ{q o} e ht e2=>by
      subst e2;rcases z with z|⟨_,z⟩
      .rw[s5 _ _ e]at z;exact ht ys (Option.some.inj z)
      .rw[e]at z;cases z
     exact⟨lst O (λ_ z=>nomatch z),lst Y nd4T,lst G (λ_ z=>nomatch z),lst hpo4 λ_ z=>nomatch z⟩
    obtain⟨rst,rnd,_,_⟩:=ndn hr1;refine⟨_,U,.inl ⟨U,_,SqL.of hpp5⟩,?_⟩;have hr1':H5 r1=some (.tup ws0)\/H5 r1=some (.lst ws0):=hr1.imp id (λz=>z.1);have w8:ws0.length<=8:=by rw[hA5.1];exact r8
    refine Zi4 (a:=r1) (xs:=ws0) (λR hR=>⟨_,U,tt,_,0,_,U,U,SqT.of htt,U,hR⟩) hr1' (λj zs H'=>zs=((nx si).take j).map (λx=>Xd ((bfN nx b (i+1)).idxOf x))/\(∃g,H' st=some (.lst g)/\StA sk H' (((nx si).take j).foldl Y6 l0) g)/\sk.dic H' nd (((nx si).take j).foldl Y6 l0)/\(∀b o,H5 b=some o->b≠st->b≠nd->H' b=some o)/\∀b,H5 b=none->H' b=none) ⟨U,⟨ws,hst5,hA4.keep (F s5)⟩,hnd5,(λ_ _ e _ _=>e),λ_ e=>e⟩ ?_ ?_ ?_ ?_
    .rintro j zs H6 ⟨rfl,_⟩;rw[Qac,Qas];exact Qax (Zu (by lia))
    .rintro j zs H6 ⟨_,_,_,g3,_⟩ o e;exact g3 _ _ e rst rnd
    .rintro j x zs H6 R hR hx ⟨rfl,⟨g,g1,gA⟩,g2,g3,g4⟩;have hj:j<(nx si).length:=by rw[<-hA5.1];exact(Qah.mp hx).1
     obtain⟨s',hs'⟩:∃s',(nx si)[j]?=some s':=⟨_,Qad hj⟩;have tp6:∀b xs,H5 b=some (.tup xs)->H6 b=some (.tup xs):=λb xs e=>g3 _ _ e (Xv e hst5 (λz=>nomatch z)) (λz=>by rw[z,s5 _ _ Y]at e;exact nd4T xs (Option.some.inj e));obtain⟨v',hv',hat'⟩:=hA5.2 j s' hs';rw[hx]at hv';cases hv';have hat6:=SK.keep hat' tp6;have e1:((nx si).take (j+1)).foldl Y6 l0=Y6 (((nx si).take j).foldl Y6 l0) s':=by
      rw[take_snoc hs',Qd1];rfl
     have e2:(bfN nx b (i+1)).idxOf s'=(Y6 (((nx si).take j).foldl Y6 l0) s').idxOf s':=by
      have e3:(nx si).foldl Y6 l0=((nx si).drop (j+1)).foldl Y6 (((nx si).take (j+1)).foldl Y6 l0):=by rw[<-Qd1,Qbx]
      obtain⟨r,e4⟩:=GZ ((nx si).drop (j+1)) (((nx si).take (j+1)).foldl Y6 l0);rw[eS,e3,e4,e1,Zfa (zg.mpr (.inr U))]
     have hnj:(((nx si).take j).foldl Y6 l0).Nodup:=jb _ _ hnod;have hlj:(((nx si).take j).foldl Y6 l0).length<10000000:=by
      have:=Zf3 ((nx si).take j) l0;rw[Qas]at this;lia
     have ew:((nx si).take (j+1)).map (λx=>Xd ((bfN nx b (i+1)).idxOf x))=((nx si).take j).map (λx=>Xd ((bfN nx b (i+1)).idxOf x))++[Xd ((bfN nx b (i+1)).idxOf s')]:=by
      rw[take_snoc hs',Qbd];rfl
     rw[ew,e1]at hR;rw[e2]at hR;generalize ((nx si).take j).foldl Y6 l0=l' at *;refine yesT ⟨_,U,_,U,_,U,κ,_,sk,x,st,nd,s',l',g,U,g1,gA.1,g2,hat6,hnj,hlj,λH7 ws7 q1 q0 q2 q3 q4=>hR _ _ ⟨U,⟨ws7,q1,?_⟩,q2,(λb o e h1 h2=>q3 _ _ (g3 b o e h1 h2) h1 h2),λb e=>q4 _ (g4 b e)⟩⟩;have tp7:∀b xs,H6 b=some (.tup xs)->H7 b=some (.tup xs):=λb xs e=>q3 _ _ e (Xv e g1 (λz=>nomatch z)) λz=>by
      obtain⟨o,e7,h7,_⟩:=SK.ne g2;rw[z,e7]at e;exact h7 xs (Option.some.inj e)
     rcases q0 with⟨hm,rfl⟩|⟨hm,rfl⟩
     .rw[show Y6 l' s'=l' from Qa9 hm];exact gA.keep tp7
     .rw[show Y6 l' s'=l'++[s']from Qa6 hm];exact(gA.keep tp7).snoc (SK.keep hat6 tp7)
    .rintro zs1 H6 ⟨rfl,⟨g,g1,gA⟩,g2,g3,g4⟩ l hl;rw[hA5.1,Qbb]at g2 gA ⊢;rw[<-eS]at g2 gA;have tp6:∀{c:Au} {ys:A0},H5 c=some (.tup ys)->H6 c=some (.tup ys):=λ{c ys} e=>g3 _ _ e (Xv e hst5 (λz=>nomatch z)) (λz=>by rw[z,s5 _ _ Y]at e;exact nd4T ys (Option.some.inj e));have hpp6:=g3 _ _ hpp5 pst pnd;have hpo6:=g3 _ _ hpo5 ost oNd;have htt6:=tp6 htt;have I:H6 r2=some (.tup (ot si))\/H6 r2=some (.lst (ot si)):=by
      obtain⟨z1,z2,_⟩:=ndn hr2;rcases hr2 with z|⟨z,_⟩
      .exact .inl (g3 _ _ z z1 z2)
      .exact .inr (g3 _ _ z z1 z2)
     have ndr2:=ndn hr2;refine⟨l,_,U,.inl ⟨SqL.of Zb,λq hq=>?_⟩⟩;have sl:=Zd (o:=.lst ((nx si).map λx=>Xd ((bfN nx b (i+1)).idxOf x))) hl;have sq:=sl.trans (Zd (o:=.tup ((nx si).map λx=>Xd ((bfN nx b (i+1)).idxOf x))) hq);have hqp:q≠pp:=(Zq (sl _ _ hpp6) hq).symm;have hqo:q≠C:=(Zq (sl _ _ hpo6) hq).symm;refine⟨pp,_,_,U,U,sq _ _ hpp6,Xe (by lia),?_⟩;have k8:∀c o,H6 c=some o->c≠pp->upd (upd (upd H6 l (.lst ((nx si).map λx=>Xd ((bfN nx b (i+1)).idxOf x)))) q (.tup ((nx si).map λx=>Xd ((bfN nx b (i+1)).idxOf x)))) pp (.lst (zs++[.ref q])) c=some o:=λc o e hc=>by
      rw[Zm hc];exact sq _ _ e
     have hq8:upd (upd (upd H6 l (.lst ((nx si).map λx=>Xd ((bfN nx b (i+1)).idxOf x)))) q (.tup ((nx si).map λx=>Xd ((bfN nx b (i+1)).idxOf x)))) pp (.lst (zs++[.ref q])) q=some (.tup ((nx si).map λx=>Xd ((bfN nx b (i+1)).idxOf x))):=by
      rw[Zm hqp];exact Zb
     have hp8:=Zb (H:=upd (upd H6 l (.lst ((nx si).map λx=>Xd ((bfN nx b (i+1)).idxOf x)))) q (.tup ((nx si).map λx=>Xd ((bfN nx b (i+1)).idxOf x)))) (a:=pp) (o:=.lst (zs++[.ref q]));have d8:sk.dic (upd (upd (upd H6 l (.lst ((nx si).map λx=>Xd ((bfN nx b (i+1)).idxOf x)))) q (.tup ((nx si).map λx=>Xd ((bfN nx b (i+1)).idxOf x)))) pp (.lst (zs++[.ref q]))) nd (bfN nx b (i+1)):=SK.off (SK.stay g2 (λo e=>sq _ _ e) (F sq)) (sq _ _ hpp6);generalize upd (upd (upd H6 l (.lst ((nx si).map λx=>Xd ((bfN nx b (i+1)).idxOf x)))) q (.tup ((nx si).map λx=>Xd ((bfN nx b (i+1)).idxOf x)))) pp (.lst (zs++[.ref q]))=H8 at *;have tp8:∀{c:Au} {ys:A0},H6 c=some (.tup ys)->H8 c=some (.tup ys):=λ{c ys} e=>k8 _ _ e (Xv e hpp6 (λz=>nomatch z));have hpo8:=k8 _ _ hpo6 ppo.symm;have last:∀(J:Au)(Z:Hp),Z J=some (.tup (ot si))->ZD H8 Z->Z C=some (.lst os)/\(upd Z C (.lst (os++[.ref J])) st=some (.lst g)/\StA sk (upd Z C (.lst (os++[.ref J]))) (bfN nx b (i+1)) g/\sk.dic (upd Z C (.lst (os++[.ref J]))) nd (bfN nx b (i+1))/\upd Z C (.lst (os++[.ref J])) pp=some (.lst (zs++[.ref q]))/\upd Z C (.lst (os++[.ref J])) C=some (.lst (os++[.ref J]))/\YB (upd Z C (.lst (os++[.ref J]))) (zs++[.ref q]) (jO nx b (i+1))/\YB (upd Z C (.lst (os++[.ref J]))) (os++[.ref J]) (vF nx ot b (i+1))/\ZD H (upd Z C (.lst (os++[.ref J])))):=by
      intro J Z ha9 s9;have hpo9:=s9 _ _ hpo8;have tp9:∀{c:Au} {ys:A0},Z c=some (.tup ys)->upd Z C (.lst (os++[.ref J])) c=some (.tup ys):=λ{c ys} e=>by rw[Zm (Xv e hpo9 (λz=>nomatch z))];exact e
      have tp59:∀b xs,H5 b=some (.tup xs)->upd Z C (.lst (os++[.ref J])) b=some (.tup xs):=λb xs e=>tp9 (s9 _ _ (tp8 (tp6 e)));refine⟨hpo9,?_,gA.keep (λb xs e=>tp9 (s9 _ _ (tp8 e))),SK.off (SK.stay d8 (λo e=>s9 _ _ e) (F s9)) hpo9,?_,Zb,?_,?_,λc o' e=>?_⟩
      .rw[Zm ost.symm];exact s9 _ _ (k8 _ _ g1 pst.symm)
      .rw[Zm ppo];exact s9 _ _ hp8
      .rw[eR];exact(xb (λb xs e=>tp59 b xs (s5 _ _ e)) Rz).snoc (tp9 (s9 _ _ hq8))
      .rw[eO];exact(xb (λb xs e=>tp59 b xs (s5 _ _ e)) Ro).snoc (tp9 ha9)
      .have cp:c≠pp:=Zq e hppH;have co:c≠C:=Zq e hpoH;rw[Zm co];exact s9 _ _ (k8 _ _ (g3 _ _ (s5 _ _ (s4 _ _ e)) (Zq e hst) (Zq e hndH)) cp)
     refine⟨_,U,.inl ⟨U,_,SqL.of hpo8⟩,_,U,tt,_,1,_,U,U,SqT.of (tp8 htt6),U,r2,ot si,U,?_⟩;rcases I with I|I
     .obtain⟨l1,l2⟩:=last r2 H8 (tp8 I) (ZD.refl _);exact .inr ⟨SqT.of (tp8 I),C,_,_,U,U,l1,Xe (by lia),_,zs++[.ref q],os++[.ref r2],g,U,l2⟩
     .refine .inl ⟨SqL.of (k8 _ _ I ndr2.2.2.1),λJ ha9=>?_⟩;obtain⟨l1,l2⟩:=last J (upd H8 J (.tup (ot si))) Zb (Zd ha9);exact⟨C,_,_,U,U,l1,Xe (by lia),_,zs++[.ref q],os++[.ref J],g,U,l2⟩
  .have hle:(bfN nx b i).length=i:=by
    have:¬(i:Int)<((bfN nx b i).length:Int):=λz=>hlt (Qar z);lia
   refine⟨_,U,_,U,pn,_,U,.inr ⟨SqT.of (s4 _ _ hpn),_,U,pp,_,U,.inl ⟨SqL.of G,λa1 ha1=>⟨_,U,C,_,U,.inl ⟨SqL.of (Zd ha1 _ _ hpo4),λa2 ha2=>⟨Zot,λm hm=>⟨ko,λp hp=>?_⟩⟩⟩⟩⟩⟩⟩;have q1:=Zd (o:=.tup zs) ha1;have q2:=Zd (o:=.tup os) ha2;have q3:=Zd (o:=.tup [.ref pn,.int 0,.ref a1,.ref a2]) hm;have q4:=Zd (o:=.tup [.ref st,.ref m]) hp;have qq:=q1.trans (q2.trans (q3.trans q4));refine k p st m (bfN nx b i) ws _ ⟨by rw[hle],λj hj=>hgo j (by lia)⟩ Zb hst (qq _ _ O) (hA4.keep (F qq)) ⟨⟨pn,a1,a2,q4 _ _ Zb,qq _ _ (s4 _ _ hpn),⟨zs,(q2.trans (q3.trans q4)) _ _ Zb,?_,λj r hj=>?_⟩,⟨os,(q3.trans q4) _ _ Zb,?_,λj r hj=>?_⟩⟩⟩ (s4.trans qq)
   .rw[hzl,Qac,Xm,hle]
   .rw[<-Zf4 hle hgo]at hj;obtain⟨a,g1,g2⟩:=Rz.2 j r hj;exact⟨a,g1,qq _ _ g2⟩
   .rw[hol,Qac,hle]
   .rw[<-Zf5 hle hgo]at hj;obtain⟨a,g1,g2⟩:=Ro.2 j r hj;exact⟨a,g1,qq _ _ g2⟩
 have fin:∀(nd:Au)(H3:Hp),H nd=none->nd≠st->(∃o,H3=upd (upd H st (.lst [bv])) nd o)->sk.dic H3 nd [b]->U2 {nx:=λ_ H'=>Q .non H',rt:=Q} [some (.ref pn),some bv,some (.ref f),some (.ref st),some (.ref nd),none,none,none] H3:=by
  intro nd H3 hndH hne ho hd3;obtain⟨o,rfl⟩:=ho;have hnd1:upd H st (.lst [bv]) nd=none:=by rw[Zm hne];exact hndH
  have s3:=s1.trans (Zd (o:=o) hnd1);exact begun nd _ hndH (by rw[Zm hne.symm];exact Zb) hd3 (SK.keep hbv λb xs e=>s3 _ _ e) s3
 cases sk with
 |int f9 inj=>
  have hbv:bv=.int (f9 b):=hbv;subst hbv;refine .inr λnd hnd=>?_;have snd:st≠nd:=Zq Zb hnd;refine⟨_,U,Zb,[(.inl (f9 b),.int 0)],U,by show 1<=15;decide,Zh ?_⟩;have em:Jb [] [((.inl (f9 b):Key),V.int 0)]=nk ([b].map f9):=rfl;rw[em,zq];exact fin nd _ (s1.free hnd) snd.symm ⟨_,U⟩ Zb
 |key kn=>
  obtain⟨a,rfl,ha⟩:=id hbv;refine .inl λnd hnd=>?_;have snd:st≠nd:=Zq Zb hnd;have sn2:=s1.trans (Zd (o:=.dK []) hnd);refine⟨_,U,κ,_,kn,a,b,U,Zb,kn.keep _ _ _ _ (λb xs e=>sn2 _ _ e) ha,λH' n' _ ho=>Zh ?_⟩;obtain⟨o,rfl⟩:=ho;rw[zq]at n' ⊢;exact fin nd _ (s1.free hnd) snd.symm ⟨_,U⟩ n'
inductive X6(w:Ar)(pw:Au):Prop
 |mk(tw tn tt:Au)(ws:A0)(nm:Ai)(o0 o1:V)(B kc:Nat):vs=[.ref tw,.ref tn,.ref tt]->H tw=some (.tup ws)->ws.length<=100->H tn=some (.tup (nm.map V.str))->nm.Nodup->nm.length<=3->H tt=some (.tup [o0,o1])->(∀w∈ws,wB nm w)->Yf ws->Wr ws=1->(∀z:Int,V.int z∈ws->0<=z/\z<2^B)->kc=YJ ws->(B+1)*2^kc<=1000000->ZT H pw Z2 Zz->(∀m (l:List (Int×Ak)) H',BfE (nxT nm (YZ (2^nm.length) nm) ws (lgB ws)) (0,List.replicate kc 0) l->M4 H' m nm 0 (rnG (nxT nm (YZ (2^nm.length) nm) ws (lgB ws)) l) (l.map (otT nm (YZ (2^nm.length) nm) ws o0 o1))->ZT H' pw Z2 Zz->Zop pw H H'->Q (.ref m) H')->X6 w pw
def qD(P:An)(w:Ar)(K:Af)(mg:Ae)(base:Heap)(g:Au):Sp:=λvs H Q _=>X6 vs H Q w g
theorem qE:Y1 P w K mg base CX0 14 t.di t.bo ["words","names","told"] (qD P w K mg base t.ae):=by
 have D:=Jn P base T TB;have G_bits_at:=Zcs P base T TB;have G_stepped:=Zc4 P base T TB;have O:=x8 P base T TB;have C:=xk P base T TB;have I:=jB P base T TB;have Y:=jx P base T TB;refine T.dk.F.okC ZX (λvs H Q E h=>?_) (λA outer s H vs Q E hr h=>?_)
 .obtain⟨_,_,_,_,_,_,_,_,_,rfl,_⟩:=h;rfl
 .obtain⟨tw,tn,tt,g,nm,o0,o1,B,Z,rfl,ht,hl,hn,hnd,hn3,hto,hw,he,hst,hB,hkc,hbig,hT,k⟩:=h;refine⟨_,@QSs.out _ _ _ (Za (Z3 3 ZX.nd (ZG (gY U) (by rfl) T.abm gC (Zg (ZG zD (by rfl) T.aq uZ (Zg (Zl T.fu Y hr (Zg (Zo Zt (by rfl) T.af ZR (Zg (qv 1) Zc)) Zc)) Zc)) Zc)))
    (Za (Z3 4 ZX.nd (Zl T.lq I hr (Zg (qv 1) (Zg (qv 3) Zc))))
    (Za (Z3 5 ZX.nd (Zl T.ee C hr (Zg (qv 0) Zc)))
    (Za (qs_def (i:=6) (name:= "step_of") (params:=Js YW) (body:=Xy YW) (scope:=Zk YW) (lpos:=Z2) (qual:=Zz) ZX.nd U (Or.inl U) T.abn TB.bp TB.B U U U U (S0:=Zk Yd) U (by decide +kernel))
    (Za (Z3 7 ZX.nd (Zs (Zg Ze (Zg (ZG Z9 (by rfl) T.ah ZU (Zg (Y3 ({}:Yi (Zk Yd) _ ["words","names","told","letters","columns","last_place","step_of","begin"] "word" [] []) (Xb (qv 0)) (λ_ _ _ _=>(yr (YE (Zl T.dn O hr (Zg (qv 0) Zc))))) (λ_ _ _ _=>Ze)) Zc)) Zc))))
    (Zf (Zp (Zv Z1 (Zii (kl:=11) (i:=6) (name:= "step_of") (params:=Js YW) (body:=Xy YW) (scope:=Zk YW) (qual:=Zz) D (hr.mono (by decide)) U T.ao.m T.ao.F.kp T.ao.b U (Zg (qv 1) (Zg (qv 7) (Zg (qv 6) Zc))) U U (⟨Ga,by decide +kernel,by decide +kernel,by rfl⟩:Zpn (Zk Yd) _ ["words","names","told","letters","columns","last_place","step_of","begin"] ["state"] ["step","place","reached"] ["words","columns","last_place","letters","told"] [0,4,5,3,2]) (λ_ _ _ _ _ us hl=>match us,hl with|[_],_=>rfl) (λ_ _ _ _ _ _ _ hrl=>(Za (Z3 1 Ga.nd (GK G_stepped (hrl.mono (by decide)) U T.cz.m T.cz.F.kp T.cz.b .nil Zeb (Zg (qv 4) (Zg (qv 5) (Zg (Zv (show IxR _ (Zhd K)from Z1) (qv 0) Ze) (Zg (Zv (show IxR _ (Zhd K)from Z1) (qv 0) Ze) Zc))))))
    (Za (Z3 2 Ga.nd (Zo (Zdx U) (by rfl) T.aci bt_min (Zg (Zj YD (Zv (show IxR _ (Zhd K)from Z1) (qv 0) Ze) Ze) (Zg (qv 6) Zc))))
    (Za (gF (i:=3) Ga.nd U U ({}:Yi (Zk YW) _ ["state","step","place","reached","words","columns","last_place","letters","told"] "letter" ["place","step"] [2,1]) (show QI _ _ _ (Zdl K (yT 7))from Xi (qv 7)) (λ_ _ _ _=>XU) (λ_ _ _ _=>(Zs (Zg (qv 1) (Zg (GK G_bits_at (hrl.mono (by decide)) U T.cx.m T.cx.F.kp T.cx.b .nil Zeb (Zg (Zv (show IxR _ (Zhd K)from Z1) (qv 2) Ze) (Zg (qv 0) Zc))) Zc)))))
    (Zf (Zp (Zs (Zg (qv 3) (Zg (Y3 ({}:Yi (Zk YW) _ ["state","step","place","reached","words","columns","last_place","letters","told"] "letter" ["told","step"] [8,1]) (show QI _ _ _ (Zdl K (yT 7))from Xi (qv 7)) (λ_ _ _ _=>XU) (λ_ _ _ _=>(Zv (show IxR _ (Zhd K)from Z1) (qv 1) (Zj Xa (Zj yl (Zv (show IxR _ (Zhd K)from Z1) (qv 2) Ze) (qv 0)) Ze)))) Zc)))))))))) Ze)))))))),?_⟩
  try dsimp only[L2.cxK,L2.cxK2]
  have h8:=p8 hn3;have e2:((2:Int)^nm.length)=((2^nm.length:Nat):Int):=by rw[Qfk];rfl
  have hflat:∀w∈g,Wm w=true/\((∃y,w=.str y)\/∃z:Int,w=.int z):=λw h=>by
   rcases hw w h with⟨y,rfl,_⟩|⟨y,rfl,_⟩|⟨y,rfl,_⟩|⟨z,rfl,_⟩
   .exact⟨U,.inl ⟨y,U⟩⟩
   .exact⟨U,.inl ⟨y,U⟩⟩
   .exact⟨U,.inl ⟨y,U⟩⟩
   .exact⟨U,.inr ⟨z,U⟩⟩
  refine⟨_,U,tn,_,U,.inr (SqT.of hn),nm.length,by rw[Qac];rfl,by lia,_,U,λpr hpr=>⟨pr,2^nm.length,U,by rw[Zb,e2],by lia,λtl htl=>Zh ?_⟩⟩;have s1:=Zd (o:=.rng 0 ((2:Int)^nm.length)) hpr;have s2:=s1.trans (Zd (o:=.lst ((List.range (2^nm.length)).map λi:Nat=>V.int i)) htl);have htl2:=Zb (H:=upd H pr (.rng 0 ((2:Int)^nm.length))) (a:=tl) (o:=.lst ((List.range (2^nm.length)).map λi:Nat=>V.int i));have htlH:H tl=none:=s1.free htl;try dsimp only
  generalize upd (upd H pr (.rng 0 ((2:Int)^nm.length))) tl (.lst ((List.range (2^nm.length)).map λi:Nat=>V.int i))=H2 at *;refine⟨_,U,_,U,tn,tl,nm,2^nm.length,U,s2 _ _ hn,hnd,by lia,htl2,by lia,λdv kvs H3 hdv0 hdv hcol s3=>Zh ?_⟩;have s23:=s2.trans s3;generalize YZ (2^nm.length) nm=cols at *;refine⟨_,U,tw,g,U,s23 _ _ ht,by lia,λw h=>(hflat w h).2,λL H4 hL1 hL2 s4=>Zh ?_⟩;rw[<-Zk7 hL1 hL2]at k;have s24:=s23.trans s4;have hLB:L<=B:=by
   rw[Zk7 hL1 hL2];exact Zf8 hB
  have hdv4:=s4 _ _ hdv;have htl4:=(s3.trans s4) _ _ htl2;refine⟨hT.same s24,λf c' oc ctv doc H5 hf0 hf hc' hoc hT5 o5=>?_⟩;obtain⟨pz,hpz⟩:=(hT.same s24).ex;have o5':∀{b:Au} {o:HO},H4 b=some o->(∀ps,o≠.tbl ps)->H5 b=some o:=λ{b o} e h=>o5 b o e λz=>by
   rw[z,hpz]at e;exact h _ (Option.some.inj e).symm
  have t5:∀{b:Au} {xs:A0},H b=some (.tup xs)->H5 b=some (.tup xs):=λe=>o5' (s24 _ _ e) (λ_ z=>nomatch z);have hdv5:=o5' hdv4 (λ_ z=>nomatch z);have htl5:=o5' htl4 (λ_ z=>nomatch z);refine⟨_,U,tw,U,⟨_,SqT.of (t5 ht)⟩,JV (K:=K) (a:=tw) (xs:=g) (λi zs H'=>zs=List.replicate (YJ (g.take i)) (.int 0)/\H'=H5) ⟨U,U⟩ (λi zs H' h=>?_) (λi zs H' h=>by rw[h.2];exact SqT.of (t5 ht)) (λi x zs H6 R hR hx h=>?_) (λzs H6 h pl hpl=>?_)⟩
  .rw[h.1,Qbh];have:YJ (g.take i)<=(g.take i).length:=Qc6 _ _;rw[Qas]at this;exact Qax (Zu (by lia))
  .obtain⟨rfl,rfl⟩:=h;refine⟨_,U,x,U,(hflat x (Qag hx)).1,_,U,?_⟩;have er:YJ (g.take (i+1))=YJ (g.take i)+if inV x (allR.map V.str)=true then 1 else 0:=by
    rw[take_snoc hx];unfold YJ;rw[Qc9,Qaf,Qcy];split<;>rfl
   rw[er]at hR;refine qG (λhb=>?_) (λhb=>?_)
   .rw[Qa9 hb,Qf3]at hR;exact hR _ _ ⟨U,U⟩
   .rw[Qa6 hb]at hR;exact hR _ _ ⟨U,U⟩
  obtain⟨rfl,rfl⟩:=h;rw[Qbb,<-hkc];refine⟨pl,_,U,.inl ⟨SqL.of Zb,λtb htb=>⟨ko,λtg htg=>Zh ?_⟩⟩⟩;have q1:=Zd (o:=.lst (List.replicate Z (.int 0))) hpl;have q2:=Zd (o:=.tup (List.replicate Z (.int 0))) htb;have q3:=Zd (o:=.tup [.int 0,.ref tb]) htg;have s6:=q1.trans (q2.trans q3);have htb6:=q3 _ _ (Zb (H:=upd H6 pl (.lst (List.replicate Z (.int 0)))) (a:=tb) (o:=.tup (List.replicate Z (.int 0))));have htg6:=Zb (H:=upd (upd H6 pl (.lst (List.replicate Z (.int 0)))) tb (.tup (List.replicate Z (.int 0)))) (a:=tg) (o:=.tup [.int 0,.ref tb]);try dsimp only
  generalize upd (upd (upd H6 pl (.lst (List.replicate Z (.int 0)))) tb (.tup (List.replicate Z (.int 0)))) tg (.tup [.int 0,.ref tb])=H7 at *;refine⟨_,U,_,U,_,U,f,c',oc,ctv,doc,U,s6 _ _ hf,s6 _ _ hc',hoc,λcs H8 hcs0 hcsF o8 hcall=>?_⟩;have hU:∀s∈uni Z (L+1),(nxT nm cols g L s).length<=8/\(otT nm cols g o0 o1 s).length<=8/\∀x∈nxT nm cols g L s,x∈uni Z (L+1):=λs hs=>⟨by unfold nxT;rw[Qac,Qa3];exact h8,by unfold otT;rw[Qac,Qa3];exact h8,vI hw hkc hs⟩;have t8:∀{b:Au} {xs:A0},H b=some (.tup xs)->H8 b=some (.tup xs):=λe=>o8 _ _ (s6 _ _ (t5 e));have hUl:(uni Z (L+1)).length<=1000000:=by
   rw[vG];exact Qaz (Qed _ (by lia)) hbig
  refine⟨Int×Ak,_,.key knQ,tn,f,nm,(0,List.replicate Z 0),.ref tg,nxT nm cols g L,otT nm cols g o0 o1,uni Z (L+1),_,U,t8 hn,⟨tg,U,tb,o8 _ _ htg6,by rw[o8 _ _ htb6,List.map_replicate]⟩,G9.mpr ⟨0,by lia,U,Xs.mpr ⟨Qbh,λx hx=>.inl (Qek hx)⟩⟩,hU,hUl,hn3,hcall,λs sv H9 Q' hs hat s9 hQ=>⟨U,?_⟩,λp sts m l wsl H9 B9 hp hsts0 hsts hA M9 s9=>?_⟩
  .obtain⟨a,rfl,tk,ha,htk⟩:=hat;have hk9:∀{b:Au} {u:HO},H9 b=some u->(∀o,u≠XW o)->hide cs H9 b=some u:=λe h=>Jz hcsF s9 e h;have t9:∀{b:Au} {xs:A0},H9 b=some (.tup xs)->hide cs H9 b=some (.tup xs):=λe=>hk9 e (λ_ z=>nomatch z);obtain⟨pn,hp1,hp2,hp3⟩:=G9.mp hs;obtain⟨sp,ks⟩:=s;have hp2:sp=(pn:Int):=hp2;subst hp2;obtain⟨hkl,hkb⟩:=Xs.mp hp3;have hkl:ks.length=Z:=hkl;have ha':=t9 ha;have htk':=t9 htk;have hln:(XT nm cols pn ks g).1.length=1:=by rw[vw g hw,hst]
   have hrm:(XT nm cols pn ks g).2.length=Z:=by rw[vH g hw,hkc]
   obtain⟨o,lt,hstp⟩:∃o lt,XT nm cols pn ks g=([o],lt):=by
    generalize XT nm cols pn ks g=q at hln;obtain⟨q1,q2⟩:=q
    match q1,hln with
    |[o],_=>exact⟨o,q2,U⟩
   have hltl:lt.length=Z:=by rw[hstp]at hrm;exact hrm
   have hsS:Zoo nm cols g ((pn:Int),ks)=([o],lt):=hstp;refine⟨_,U,_,U,_,U,a,_,0,_,U,U,SqT.of ha',U,_,U,a,_,1,_,U,U,SqT.of ha',U,tw,dv,tk,nm,g,kvs,cols,pn,ks,o,lt,U,t9 (s9 _ _ (t8 ht)),hl,hk9 (s9 _ _ (o8 _ _ (s6 _ _ hdv5))) (λ_ z=>nomatch z),hcol,htk',hw,he,hstp,by rw[hltl];show Z<=ks.length;lia,λta la H10 hta0 hta hla s10=>Zh ?_⟩;refine⟨_,U,a,_,0,_,U,U,SqT.of (s10 _ _ ha'),U,_,_,U,U,_,U,_,_,U,Zh ?_⟩;have em:(if(L:Int)<(pn:Int)+1 then(L:Int)else(pn:Int)+1)=min ((pn:Int)+1) (L:Int):=by split<;>lia
   try dsimp only
   rw[em];have J:H10 tl=some (.lst ((List.range (2^nm.length)).map λi:Nat=>V.int i)):=s10 _ _ (hk9 (s9 _ _ (o8 _ _ (s6 _ _ htl5))) (λ_ z=>nomatch z));have hxs:((List.range (2^nm.length)).map λi:Nat=>V.int i).length=2^nm.length:=by rw[Qac,Qa3]
   have hnx:nxT nm cols g L ((pn:Int),ks)=(List.range (2^nm.length)).map λl=>(min ((pn:Int)+1) (L:Int),lt.map λc=>bt c l):=by
    unfold nxT;rw[hsS]
   have hot:otT nm cols g o0 o1 ((pn:Int),ks)=(List.range (2^nm.length)).map λl=>if bt o l=1 then o1 else o0:=by
    unfold otT;rw[hsS];rfl
   refine⟨_,U,tl,U,⟨_,SqL.of J⟩,GP (K:=K) (a:=tl) (xs:=(List.range (2^nm.length)).map λi:Nat=>V.int i) (λi zs H'=>StA (.key knQ) H' ((nxT nm cols g L ((pn:Int),ks)).take i) zs/\i<=2^nm.length/\ZD H10 H') ⟨⟨U,λi k hk=>by cases hk⟩,Qbj _,ZD.refl _⟩ (λi zs H' h=>?_) (λi zs H' h=>SqL.of (h.2.2 _ _ J)) (λi x zs H11 R hR hx h=>?_) (λzs H11 h rl hrl=>Zh ?_)⟩
   .rw[h.1.1,Qas];exact Qax (Zu (by lia))
   .obtain⟨hA,hi,s11⟩:=h;have hil:i<2^nm.length:=by rw[<-hxs];exact(Qah.mp hx).1
    rw[zj hil]at hx;cases hx;refine yesT ⟨_,U,_,U,ta,_,1,_,U,U,SqT.of (s11 _ _ hta),U,_,U,la,lt,i,U,s11 _ _ hla,?_,by lia,λt5 H12 ht50 ht5 s12=>⟨ko,λq hq=>hR _ _ ⟨?_,hil,s11.trans (s12.trans (Zd hq))⟩⟩⟩
    .have:YJ g<=g.length:=Qc6 _ _;lia
    .have en:(nxT nm cols g L ((pn:Int),ks))[i]?=some (min ((pn:Int)+1) (L:Int),lt.map λc=>bt c i):=by rw[hnx,zj hil]
     rw[take_snoc en];refine(hA.keep (H':=upd H12 q (.tup [.int (min ((pn:Int)+1) (L:Int)),.ref t5])) λb xs e=>Zd hq _ _ (s12 _ _ e)).snoc ⟨q,U,t5,Zb,Zd hq _ _ ht5⟩
   obtain⟨hA,_,s11⟩:=h;rw[hxs,Qbv (by rw[hnx,Qac,Qa3];exact Qai _)]at hA;have s12:=Zd (o:=.lst zs) hrl;have hrl12:=Zb (H:=H11) (a:=rl) (o:=.lst zs);try dsimp only
   generalize upd H11 rl (.lst zs)=H12 at *;have G:=s11.trans s12;have htt12:H12 tt=some (.tup [o0,o1]):=G _ _ (s10 _ _ (t9 (s9 _ _ (t8 hto))));refine⟨_,U,_,U,tl,U,⟨_,SqL.of (G _ _ J)⟩,comp_map (xs:=(List.range (2^nm.length)).map λi:Nat=>V.int i) (fI λc=>if bt o c.toNat=1 then o1 else o0) (SqL.of (G _ _ J)) (by rw[hxs];exact Qax (Zu (by lia))) (λv hv R hR=>?_) (λq hq=>?_)⟩
   .obtain⟨l,_,rfl⟩:=Qa2.mp hv;refine⟨_,U,_,U,ta,_,0,_,U,U,SqT.of (G _ _ hta),U,_,U,_,_,U,U,Qcg l,_,_,U,U,tt,_,_,fI (λc=>if bt o c.toNat=1 then o1 else o0) (V.int l),U,U,SqT.of htt12,?_,hR⟩;rw[and_1,Qay];show atI [o0,o1] (bt o l)=some (if bt o (l:Int).toNat=1 then o1 else o0);rw[Qay];rcases WL o l with e|e<;>rw[e]<;>rfl
   .refine⟨ko,λt0 ht0 hcn=>?_⟩;have ef:((List.range (2^nm.length)).map λi:Nat=>V.int i).map (fI λc=>if bt o c.toNat=1 then o1 else o0)=otT nm cols g o0 o1 ((pn:Int),ks):=by
     rw[hot,Qb7];refine Qci λl _=>?_;show(if bt o (l:Int).toNat=1 then o1 else o0)=_;rw[Qay]
    rw[ef]at ht0 hcn ⊢;have s13:=Zd (o:=.lst (otT nm cols g o0 o1 ((pn:Int),ks))) hq;have s14:=s13.trans (Zd (o:=.tup [.ref rl,.ref q]) ht0);have hsame:=s10.trans (G.trans s14);obtain⟨u1,u2,u3⟩:=Zci hsame hcn;have hrl14:=s14 _ _ hrl12;have hq14:=Zd (o:=.tup [.ref rl,.ref q]) ht0 _ _ (Zb (H:=H12) (a:=q) (o:=.lst (otT nm cols g o0 o1 ((pn:Int),ks))));exact hQ t0 rl q zs _ (u2 _ _ Zb) (.inr ⟨u2 _ _ hrl14,u3 _ _ hrl14 (s10.free (s11.free hrl))⟩) (hA.keep λb xs e=>u2 _ _ ((s12.trans s14) _ _ e)) (.inr ⟨u2 _ _ hq14,u3 _ _ hq14 (s10.free (G.free hq))⟩) u1
  .have keep9:ZD H7 (hide cs H9):=λb o e=>by
    rw[ZJ λm=>by rw[hcs0 b m]at e;cases e];exact s9 _ _ (o8 _ _ e)
   have tk9:∀(b:Au)(xs:A0),H9 b=some (.tup xs)->hide cs H9 b=some (.tup xs):=λb xs e=>Jz hcsF s9 e (λ_ z=>nomatch z);refine⟨p,_,1,_,U,U,SqT.of (tk9 _ _ hp),U,k m l (hide cs H9) B9 ?_ ((hT5.same s6).same keep9) λb o e hb=>keep9 _ _ (s6 _ _ (o5 _ _ (s24 _ _ e) hb))⟩;obtain⟨pn,ps,po,h1,h2,h3,h4⟩:=M9.ex;exact⟨⟨pn,ps,po,tk9 _ _ h1,tk9 _ _ h2,yJ h3 tk9,yJ h4 tk9⟩⟩
inductive Xg(pw:Au):Prop
 |mk(m1 m2:Au)(nm:Ai)(b1 b2:Nat)(nx1 nx2:Ad)(ot1 ot2:Ax)(tr:Bool):vs=[.ref m1,.ref m2]->M4 H m1 nm b1 nx1 ot1->M4 H m2 nm b2 nx2 ot2->Runs nx1 ot1 nm.length->Runs nx2 ot2 nm.length->b1<nx1.length->b2<nx2.length->nx1.length*nx2.length<=1000000->nm.length<=3->nm.Nodup->(∀r∈ot1,∀x∈r,XO tr x)->(∀r∈ot2,∀x∈r,XO tr x)->ZT H pw Z5 Z6->(∀p q l ws H',BfE (pN nx1 nx2) (pK b1 b2) l->(∀(ls:Aj)(c:Nat),(∀x∈ls++[c],x<2^nm.length)->Y9 (mN (rnG (pN nx1 nx2) l)) (mB (l.map (pO ot1 ot2)) (.bl true)) 0 (ls++[c])=false)->H' p=some (.tup [.str "same",.ref q])->H' q=some (.tup ws)->StA (.key kn2) H' l ws->ZT H' pw Z5 Z6->Zlf pw H H'->Q (.ref p) H')->(∀p d w r kvs l H',w<=1000000->BfE (pN nx1 nx2) (pK b1 b2) l->zo (mN (rnG (pN nx1 nx2) l)) (mB (l.map (pO ot1 ot2)) (.bl true)) 0 nm.length w r->1<=w->(∀(ls:Aj)(c:Nat),(∀x∈ls++[c],x<2^nm.length)->Y9 (mN (rnG (pN nx1 nx2) l)) (mB (l.map (pO ot1 ot2)) (.bl true)) 0 (ls++[c])=true->w<=ls.length+1)->H' p=some (.tup [.str "parted",.int w,.ref d])->H d=none->H' d=some (.dK kvs)->Tab kvs nm (λy=>(valN (ixG nm y) r:Int))->ZT H' pw Z5 Z6->Zlf pw H H'->Q (.ref p) H')->Xg pw
def Gg(K:Af)(g:Au):Sp:=λvs H Q _=>Xg vs H Q g
theorem Gh:Y1 P w K mg base CX0 14 t.cj t.ax ["one","other"] (Gg K t.aa):=by
 have D:=yk P base T TB;have g:=WY P base T TB;have C:=Jn P base T TB;have I:=uI P base T TB;have G:=kg P base T TB;refine T.ck.F.okC Yw (λvs H Q E h=>?_) (λA outer s H vs Q E hr h=>?_)
 .obtain⟨_,_,_,_,_,_,_,_,_,_,rfl,_⟩:=h;rfl
 .obtain⟨m1,m2,nm,b1,b2,nx1,nx2,ot1,ot2,tr,rfl,M1,M2,R1,R2,hb1,hb2,hN,hn3,hnd,k1,k2,B,kS,kP⟩:=h;refine⟨_,@QSs.out _ _ _ (Za (Z3 2 Yw.nd (Zs (Zg (Zv Z1 (qv 0) Ze) (Zg (Zv Z1 (qv 1) Ze) Zc))))
    (Za (Z3 3 Yw.nd (Ze9 (kl:=11) C (hr.mono (by decide)) U T.ao.m T.ao.F.kp T.ao.b U (Zv Z1 (qv 0) Ze) (qv 2) T.aat TB.ay TB.B U U U U (⟨⟨by rfl,by rfl,by rfl,by decide +kernel,by decide +kernel,by decide +kernel,by decide +kernel⟩,by decide +kernel,by decide +kernel,by rfl⟩:Zpk (Zk YM) _ ["one","other","begins","found","width"] ["pair"] ["one","other"] [0,1]) (λ_ _ _ _ us hl=>match us,hl with|[_],_=>rfl) (λ_ _ _ _ _ _ _ Z=>(Zs (Zg (GK G (Z.mono (by decide)) U T.bq.m T.bq.F.kp T.bq.b .nil Zeb (Zg (qv 1) (Zg (qv 2) (Zg (qv 0) Zc)))) (Zg (GK I (Z.mono (by decide)) U T.bx.m T.bx.F.kp T.bx.b .nil Zeb (Zg (qv 1) (Zg (qv 2) (Zg (qv 0) Zc)))) Zc))))))
    (Za (Z3 4 Yw.nd (Zl T.bw g hr (Zg (Zv Z1 (qv 3) Ze) Zc)))
    (Za (ZF (Zr Zjy (qv 4) yo (by with_unfolding_all rfl))
    (Zf (Zp (Zs (Zg Zi (Zg (ZG Z9 (by rfl) T.ah ZU (Zg (Zv Z1 (qv 3) Ze) Zc)) Zc))))) Zw)
    (Zf (Zp (Zs (Zg Zi (Zg (qv 4) (Zg (Zl T.oj D hr (Zg (Zv Z1 (qv 3) Ze) (Zg (qv 4) (Zg Jo Zc)))) Zc)))))))))),?_⟩
  try dsimp only[L2.cxK,L2.cxK2]
  obtain⟨pn1,ps1,po1,h1,hpn1,_,_⟩:=M1.ex;obtain⟨pn2,ps2,po2,h2,hpn2,_,_⟩:=M2.ex;obtain⟨pz,hpz⟩:=B.ex;have tP:∀{b:Au} {xs:A0},H b=some (.tup xs)->b≠t.aa:=λe=>Xv e hpz (λz=>nomatch z);refine⟨_,U,m1,_,1,_,U,U,SqT.of h1,U,_,U,m2,_,1,_,U,U,SqT.of h2,U,ko,λbg hbg=>Zh ?_⟩;have sb:=Zd (o:=.tup [.int b1,.int b2]) hbg;have hbg1:upd H bg (.tup [.int b1,.int b2]) bg=some (.tup [.int b1,.int b2]):=Zb;have B1:=B.same sb;have tP1:∀{b:Au} {xs:A0},upd H bg (.tup [.int b1,.int b2]) b=some (.tup xs)->b≠t.aa:=λe=>Xv e (sb _ _ hpz) (λz=>nomatch z);generalize upd H bg (.tup [.int b1,.int b2])=H1 at *;refine⟨_,U,m1,_,0,_,U,U,SqT.of (sb _ _ h1),U,_,U,B1,λcs f H2 hcs hfz hf hT2 o2 hc=>?_⟩;have t2:∀(b:Au)(xs:A0),H1 b=some (.tup xs)->H2 b=some (.tup xs):=λb xs e=>o2 _ _ e (tP1 e);have p8:=p8 hn3;have U0:=Zlb nx1.length nx2.length;refine⟨Ak,inferInstance,.key kn2,pn1,f,nm,pK b1 b2,.ref bg,pN nx1 nx2,pO ot1 ot2,pU nx1.length nx2.length,_,U,t2 _ _ (sb _ _ hpn1),⟨bg,U,t2 _ _ hbg1⟩,Gq.mpr ⟨b1,b2,hb1,hb2,U⟩,(λs hs=>?_),by rw[U0];exact hN,hn3,hc,λs sv J Q' hs hat sH hQ=>⟨U,?_⟩,λp sts fm l wsl J B3 hp hsts0 hsts hA M3 s3=>?_⟩
  .obtain⟨i,j,hi,hj,rfl⟩:=Gq.mp hs;exact⟨by rw[Zgj R1 R2 hi hj];exact p8,by rw[Zlc R1 R2 hi hj];exact p8,λx hx=>Znv R1 R2 hs x hx⟩
  .obtain⟨i,j,hi,hj,rfl⟩:=Gq.mp hs;obtain⟨c,rfl,hc3⟩:=id hat;have th:∀(b:Au)(xs:A0),J b=some (.tup xs)->hide cs J b=some (.tup xs):=λb xs e=>Jz hfz sH e (λo z=>nomatch z);have th1:∀(b:Au)(xs:A0),H b=some (.tup xs)->hide cs J b=some (.tup xs):=λb xs e=>th _ _ (sH _ _ (t2 _ _ (sb _ _ e)));have hi2:i<ot1.length:=by rw[R1.ol];exact hi
   have hj2:j<ot2.length:=by rw[R2.ol];exact hj
   have l1:=R1.or _ (getD_mem hi2);have l2:=R2.or _ (getD_mem hj2);refine⟨_,U,_,U,_,U,m1,m2,c,nm,nm,b1,b2,nx1,nx2,ot1,ot2,i,j,U,M1.tups th1,M2.tups th1,th _ _ hc3,hi,hj,λl zs H4 hl s4 hl4 pr=>?_⟩;refine⟨_,U,_,U,_,U,m1,m2,c,nm,nm,b1,b2,nx1,nx2,ot1,ot2,i,j,tr,U,(M1.tups th1).same s4,(M2.tups th1).same s4,s4 _ _ (th _ _ hc3),hi2,hj2,by rw[l1,l2],by rw[l1];lia,k1 _ (getD_mem hi2),k2 _ (getD_mem hj2),λl' H5 hl' O hl5=>⟨ko,λq hq hcn=>?_⟩⟩;have s6:=(s4.trans O).trans (Zd (o:=.tup [.ref l,.ref l']) hq);have s56:=O.trans (Zd (o:=.tup [.ref l,.ref l']) hq);obtain⟨g1,g2,g3⟩:=Zn1 s6 hcn;have hl6:=s56 _ _ hl4;have hl56:=Zd (o:=.tup [.ref l,.ref l']) hq _ _ hl5;refine hQ q l l' zs _ (g2 _ _ Zb) (.inr ⟨g2 _ _ hl6,g3 _ _ hl6 hl⟩) ?_ (.inr ⟨g2 _ _ ?_,g3 _ _ hl56 (s4.free hl')⟩) g1
   .show StA (.key kn2) _ (pN nx1 nx2 (pK i j)) zs;have e:pN nx1 nx2 (pK i j)=(Zc6 (nx1.getD i []) (nx2.getD j [])).map λp=>[p.1,p.2]:=by
     show(Zc6 (nx1.getD (i:Int).toNat []) (nx2.getD (j:Int).toNat [])).map _=_;rw[Qay,Qay]
    rw[e];exact Zn2 pr λb xs e=>g2 _ _ (s56 _ _ e)
   .have e:pO ot1 ot2 (pK i j)=(((ot1.getD i []).zip (ot2.getD j [])).map λq=>!decide (q.1=q.2)).map V.bl:=by
     show(((ot1.getD (i:Int).toNat []).zip (ot2.getD (j:Int).toNat [])).map _).map _=_;rw[Qay,Qay]
    rw[e];exact hl56
  have t3:∀(b:Au)(xs:A0),J b=some (.tup xs)->hide cs J b=some (.tup xs):=λb xs e=>Jz hfz s3 e (λo z=>nomatch z);have T3:ZT (hide cs J) t.aa Z5 Z6:=hT2 J s3;have Y:∀b o,H b=some o->b≠t.aa->hide cs J b=some o:=λb o e hb=>by
   have e1:=sb _ _ e;rw[ZJ (λm=>by rw[hcs b m]at e1;cases e1)];exact s3 _ _ (o2 _ _ e1 hb)
  have M3':M4 (hide cs J) fm nm 0 (rnG (pN nx1 nx2) l) (l.map (pO ot1 ot2)):=M3.tups t3;have hA':StA (.key kn2) (hide cs J) l wsl:=hA.keep t3;have hp':=t3 _ _ hp;have hsts':hide cs J sts=some (.lst wsl):=Jz hfz s3 hsts (λo z=>nomatch z);try dsimp only
  generalize hide cs J=H4 at *;have R:=Zjb R1 R2 hb1 hb2 B3;have hll:l.length<=1000000:=by
   have h:=Za9 (nx:=pN nx1 nx2) (b:=pK b1 b2) (Ua:=pU nx1.length nx2.length) (Gq.mpr ⟨b1,b2,hb1,hb2,U⟩) (λs hs=>Znv R1 R2 hs) l.length;rw[<-B3.e,U0]at h;lia
  have Z:(rnG (pN nx1 nx2) l).length<=1000000:=by rw[Xm];exact hll
  have hbl:∀r∈l.map (pO ot1 ot2),∀x∈r,∃t,x=V.bl t:=λr hr x hx=>by
   obtain⟨s,_,rfl⟩:=Qa2.mp hr;obtain⟨q,_,rfl⟩:=Qa2.mp hx;exact⟨_,U⟩
  refine Zh ⟨_,U,p,_,1,_,U,U,SqT.of hp',U,fm,nm,_,_,nm.length,_,U,M3',R,rgO_of B3,Z,hbl,λhno H5 O=>?_,λw H5 hw1 hw2 hex hmin O=>?_⟩
  .refine Zh ⟨_,U,U,_,U,?_⟩;rw[Qar U];refine YN ⟨_,U,p,_,0,_,U,U,SqT.of (O _ _ hp'),U,sts,wsl,U,.inl ⟨SqL.of (O _ _ hsts'),λq hq=>⟨ko,λpr hpr=>?_⟩⟩⟩;have sq:=Zd (o:=.tup wsl) hq;have s6:=(O.trans sq).trans (Zd (o:=.tup [.str "same",.ref q]) hpr);refine kS pr q l wsl _ B3 (λls c h=>by rw[Xn];exact hno ls c h) Zb (Zd hpr _ _ Zb) (hA'.keep λb xs e=>s6 _ _ e) (T3.same s6) (Zlf.of Y (SmF.of s6))
  .refine Zh ⟨_,U,U,_,U,?_⟩;rw[Qan (λz=>nomatch z)];obtain⟨ls,c,e1,e2,e3⟩:=hex;refine Yu ⟨_,U,_,U,p,_,1,_,U,U,SqT.of (O _ _ hp'),U,_,U,fm,nm,0,_,_,w,.bl true,true,U,M3'.same O,R,R.pos,Z,hn3,hnd,hw1,by lia,.inl ⟨U,_,U⟩,(λr hr x hx=>by obtain⟨t,rfl⟩:=hbl r hr x hx;exact .inl ⟨U,_,U⟩),⟨ls++[c],by rw[Qaf];exact e1,e2,by rw[Xn];exact e3⟩,λr d kvs H6 fr hd hd6 Tb s6=>⟨Zos,λpr hpr=>?_⟩⟩;have s7:=Zd (o:=.tup [.str "parted",.int w,.ref d]) hpr;have s47:=((SmF.of O).trans s6).trans (SmF.of s7);have hdH:H d=none:=by
    cases e:H d with
    |none=>rfl
    |some o=>
     have hdt:d≠t.aa:=λz=>by
      have:=T3.same O;obtain⟨pz5,hz5⟩:=this.ex;rw[z,hz5]at hd;cases hd
     have:=O _ _ (Y d o e hdt);rw[hd]at this;cases this
   exact kP pr d w r kvs l _ (by lia) B3 fr hw1 (λls c h h2=>hmin ls c h (by rw[Xn]at h2;exact h2)) Zb hdH (s7 _ _ hd6) Tb (ZT.smf T3 s47) (Zlf.of Y s47)
inductive JO(w:Ar)(pw:Au):Prop
 |mk(tw tn:Au)(ws:A0)(nm:Ai)(B kc:Nat):vs=[.ref tw,.ref tn]->H tw=some (.tup ws)->ws.length<=100->H tn=some (.tup (nm.map V.str))->nm.Nodup->nm.length<=3->(∀w∈ws,wB nm w)->Yf ws->Wr ws=1->(∀z:Int,V.int z∈ws->0<=z/\z<2^B)->kc=YJ ws->(B+1)*2^kc<=1000000->ZT H pw Z2 Zz->(∀m (l:List (Int×Ak)) H',BfE (nxT nm (YZ (2^nm.length) nm) ws (lgB ws)) (0,List.replicate kc 0) l->M4 H' m nm 0 (rnG (nxT nm (YZ (2^nm.length) nm) ws (lgB ws)) l) (l.map (otT nm (YZ (2^nm.length) nm) ws (.int 0) (.int 1)))->ZT H' pw Z2 Zz->Zop pw H H'->Q (.ref m) H')->JO w pw
def kj(P:An)(w:Ar)(K:Af)(mg:Ae)(base:Heap)(g:Au):Sp:=λvs H Q _=>JO vs H Q w g
theorem km:Y1 P w K mg base CX0 15 t.oz t.pd ["words","names"] (kj P w K mg base t.ae):=by
 have g:=qE P base T TB;refine T.dc.go vY ?_;rintro cdv A outer s H _ Q E hr ⟨tw,Z,ws,nm,B,kc,rfl,ht,hl,hn,D,G,hw,he,I,hB,J,q,hT,k⟩;refine⟨_,(Zf (Zp (Zl T.dk g hr (Zg (qv 0) (Zg (qv 1) (Zg (Zs (Zg Ze (Zg Ze Zc))) Zc)))))),?_⟩;refine⟨_,U,_,U,by decide,λO F=>?_⟩;have C:=Zd (o:=.tup [.int 0,.int 1]) F;exact⟨tw,Z,O,ws,nm,.int 0,.int 1,B,kc,U,C _ _ ht,hl,C _ _ hn,D,G,Zb,hw,he,I,hB,J,q,hT.same C,λm l H' h1 h2 h3 Y=>k m l H' h1 h2 h3 λb o e hb=>Y _ _ (C _ _ e) hb⟩
inductive qF(w:Ar)(pw pc:Au):Prop
 |mk(t1 t2:Au)(u v:A0):vs=[.ref t1,.ref t2]->H t1=some (.tup u)->H t2=some (.tup v)->(∀x∈u++v,w9 x)->(u++v).length<=60->(∀ms:Ai,jn u v ms->XC ms u/\XC ms v)->11*2^YJ u*(11*2^YJ v)<=1000000->ZT H pw Z2 Zz->ZT H pc Z5 Z6->(∀p q ms l1 l2 l ws H',jn u v ms->BfE (nxS ms u) (0,List.replicate (YJ u) 0) l1->BfE (nxS ms v) (0,List.replicate (YJ v) 0) l2->BfE (pN (rnG (nxS ms u) l1) (rnG (nxS ms v) l2)) (pK 0 0) l->(∀ls:Aj,ls≠[]->(∀x∈ls,x<2^ms.length)->¬Dff ms u v ls)->H' p=some (.tup [.str "same",.ref q])->H' q=some (.tup ws)->StA (.key kn2) H' l ws->ZT H' pw Z2 Zz->ZT H' pc Z5 Z6->vR pw pc H H'->Q (.ref p) H')->(∀p d w r kvs ms l1 l2 H',w<=1000000->BfE (nxS ms u) (0,List.replicate (YJ u) 0) l1->BfE (nxS ms v) (0,List.replicate (YJ v) 0) l2->jn u v ms->xh ms u v w r->H' p=some (.tup [.str "parted",.int w,.ref d])->H d=none->H' d=some (.dK kvs)->Tab kvs ms (λy=>(valN (ixG ms y) r:Int))->ZT H' pw Z2 Zz->ZT H' pc Z5 Z6->vR pw pc H H'->Q (.ref p) H')->qF w pw pc
def jG(P:An)(w:Ar)(K:Af)(mg:Ae)(base:Heap)(g q:Au):Sp:=λvs H Q _=>qF vs H Q w g q
theorem uU:Y1 P w K mg base CX0 16 t.aaj t.aak ["one","other"] (jG P w K mg base t.ae t.aa):=by
 have g:=Gh P base T TB;have C:=km P base T TB;have D:=uT P base T TB;refine T.aar.go jw ?_;rintro cdv A outer s H _ Q E hr ⟨t1,t2,u,v,rfl,h1,h2,hSI,h60,hPK,hbig,TW,TC,kS,kP⟩;refine⟨_,(Za (Z3 2 jw.nd (Zl T.aaq D hr (Zg (Zj Zn (qv 0) (qv 1)) Zc)))
   (Zf (Zp (Zl T.ck g hr (Zg (Zl T.dc C hr (Zg (qv 0) (Zg (qv 2) Zc))) (Zg (Zl T.dc C hr (Zg (qv 1) (Zg (qv 2) Zc))) Zc)))))),?_⟩
 have Z:t.aa≠t.ae:=T.av.symm;refine⟨_,U,_,U,t1,t2,u,v,U,U,h1,h2,Qax (Zu (by rw[Qaf]at h60;lia)),λc H1 hc1 s1=>?_⟩;refine⟨c,u++v,U,hc1,hSI,h60,λtn H2 Y htn0 htn s2 hpm hsr=>Zh ?_⟩;have N:jn u v Y:=⟨hpm,hsr⟩;obtain⟨I,O⟩:=hPK Y N;have G:=s1.trans s2;refine⟨_,U,_,U,t1,tn,u,Y,10,_,U,G _ _ h1,I.ln,htn,I.nd,I.n3,I.wc,I.en,I.st,I.iz,U,I.big,TW.same G,λm1 l1 H3 B1 M1 TW3 o3=>?_⟩;have TC2:=TC.same G;have TW2:=TW.same G;obtain⟨pz2,hz2⟩:=TW2.ex;have TC3:=TC2.other Z ⟨pz2,hz2⟩ o3;refine⟨_,U,_,U,t2,tn,v,Y,10,_,U,o3.tup hz2 (G _ _ h2),O.ln,o3.tup hz2 htn,O.nd,O.n3,O.wc,O.en,O.st,O.iz,U,O.big,TW3,λm2 l2 H4 B2 M2 TW4 o4=>?_⟩;obtain⟨pz3,hz3⟩:=TW3.ex;have TC4:=TC3.other Z ⟨pz3,hz3⟩ o4;have R1:=I.runs B1;have R2:=O.runs B2;have hk:∀{ws:A0} {l:List (Int×Ak)},∀r∈l.map (otS Y ws),∀x∈r,XO false x:=λ{ws l} r hr x hx=>by
  obtain⟨s,_,rfl⟩:=Qa2.mp hr;obtain⟨c,_,rfl⟩:=Qa2.mp hx;split
  .exact .inr ⟨U,_,U⟩
  .exact .inr ⟨U,_,U⟩
 have hnn:(rnG (nxS Y u) l1).length*(rnG (nxS Y v) l2).length<=1000000:=by
  rw[Xm,Xm];exact Qaz (Nat.mul_le_mul (I.len2 B1) (O.len2 B2)) hbig
 have off:∀{J:Hp},Zlf t.aa H4 J->vR t.ae t.aa H J:=λ{J} o5 b o e hb1 hb2=>o5 b o (o4 _ _ (o3 _ _ (G _ _ e) hb1) hb1) hb2;have tw5:∀{J:Hp},Zlf t.aa H4 J->ZT J t.ae Z2 Zz:=λ{J} o5=>by
  obtain⟨pz4,hz4⟩:=TC4.ex;have at5:∀{b:Au} {o:HO},H4 b=some o->b≠t.aa->(∀kvs,o≠.dK kvs)->J b=some o:=λ{b o} e hb hn=>by
   rcases o5 b o e hb with z|⟨kvs,_,z,_⟩
   .exact z
   .exact absurd z (hn kvs)
  rcases TW4 with h|⟨c',oc,g1,g2,g3⟩
  .exact .inl (at5 h Z.symm λ_ z=>nomatch z)
  .exact .inr ⟨c',oc,at5 g1 Z.symm (λ_ z=>nomatch z),at5 g2 (λz=>by rw[z,hz4]at g2;cases g2) (λ_ z=>nomatch z),g3⟩
 obtain⟨pz3,hz3⟩:=TW3.ex;refine⟨m1,m2,Y,0,0,_,_,_,_,false,U,M1.tups (λb xs e=>o4.tup hz3 e),M2,R1,R2,R1.pos,R2.pos,hnn,I.n3,I.nd,hk,hk,TC4,λp q l ws J B hno g1 g2 g3 g4 g5=>?_,λp d w r kvs l J hwm B F hw hm g1 g2 g3 g4 g5 g6=>?_⟩
 .refine kS p q Y l1 l2 l ws J N B1 B2 B (λls hl hls hd=>?_) g1 g2 g3 (tw5 g5) g4 (off g5);obtain⟨t0,c,rfl⟩:=vQ hl;have:=(vS I O B1 B2 B hls).mpr hd;rw[hno t0 c hls]at this;cases this
 .have hdH:H d=none:=by
   cases e:H d with
   |none=>rfl
   |some o=>
    have n1:d≠t.ae:=λz=>by
     obtain⟨pz4,hz4⟩:=TW4.ex;rw[z,hz4]at g2;cases g2
    have:=o4 _ _ (o3 _ _ (G _ _ e) n1) n1;rw[g2]at this;cases this
  exact kP p d w r kvs Y l1 l2 J hwm B1 B2 N (Zcm I O B1 B2 B hw F hm) g1 hdH g3 g4 (tw5 g6) g5 (off g6)
inductive Zbl(K:Af)(pw pc:Au):Prop
 |mk(a:Au)(ns:Ak):vs=[.ref a]->SqL K H a (ns.map V.int)->ns.length<=63->ZT H pw Z2 Zz->ZT H pc Z5 Z6->(∀H',Q (.bl true) H')->Zbl K pw pc
def sp_law(K:Af)(g q:Au):Sp:=λvs H Q _=>Zbl vs H Q K g q
theorem ok_law:Y1 P w K mg base CX0 17 t.abv t.abw ["script"] (sp_law K t.ae t.aa):=by
 have G:=xF P base T TB;have G_law_long:=uN P base T TB;have G_law_first:=gp P base T TB;have I:=xm P base T TB;have G_compared:=uU P base T TB;have O:=j9 P base T TB;have J:=jF P base T TB;have G_law_names:=gk P base T TB;have D:=Gw P base T TB;refine T.acf.go qr ?_;rintro cdv A outer s H _ Q E hr ⟨a,ns,rfl,hS,h63,TW,TC,k⟩;refine⟨_,(Za (Z3 1 qr.nd (Zl T.sr G_law_names hr (Zg (Zl T.aj D hr (Zg (qv 0) (Zg Ze Zc))) (Zg (Zj ZI (Zo JR (by rfl) T.ij yu (Zg (Zl T.aj D hr (Zg (qv 0) (Zg Ze Zc))) Zc)) Ze) Zc))))
   (Za (Zef (Zl T.md J hr (Zg (qv 0) (Zg (qv 1) Zc))) (qO U (Y0 2 qr.nd) (Y0 3 qr.nd)))
   (Za (Z3 4 qr.nd (Zl T.lj O hr (Zg (Zj Zn (qv 2) (qv 3)) (Zg (qv 1) Zc))))
   (Za (Z3 5 qr.nd (Zl T.aar G_compared hr (Zg (qv 2) (Zg (qv 3) Zc))))
   (Za (ZF (Gi (YE (Zl T.eh I hr (Zg (qv 5) (Zg (qv 4) Zc)))))
   (Zf (Zp Jo)) Zw)
   (Za (Z3 6 qr.nd (Zl T.su G_law_first hr (Zg (qv 2) (Zg (qv 3) (Zg (qv 4) Zc)))))
   (Za (ZF (Zr Zlv (qv 6) yo (by with_unfolding_all rfl))
   (Zf (Zp (Xh (op_eqY (Zfb hr)) (qv 5) (qv 6) (Z7 _)))) Zw)
   (Za (ZF (GL (kG (Zr Yk (Zv Z1 (qv 5) Ze) Zi (Z7 _)) (zx (Zr kx (Zv Z1 (qv 5) Ze) (Zj WZ Ze (Zj Yc (Zo Zt (by rfl) T.af ZR (Zg (qv 4) Zc)) Ze)) (Z7 _)))))
   (Zf (Zp Jo)) Zw)
   (Za (Z3 7 qr.nd (Zo (Zdw U) (by rfl) T.aby Zkj (Zg Ze (Zg (Zj Wf Ze (Zo Zt (by rfl) T.af ZR (Zg (Yv Xx (qv 0) (Yq Ze) (Yq Ze)) Zc))) Zc))))
   (Za (ZF (GL (GJ (Zr Yk (Zv Z1 (qv 5) Ze) Zi (Z7 _)) (GI (Zr kx (qv 7) (Zv Z1 (qv 5) Ze) (Z7 _)))))
   (Za (Z3 8 qr.nd (Zl T.aan G_law_long hr (Zg (qv 0) (Zg (qv 4) Zc))))
   (Zf (Zp (Xh Yk (Zl T.bc G hr (Zg (qv 2) (Zg (qv 7) (Zg (qv 8) Zc)))) (Zl T.bc G hr (Zg (qv 3) (Zg (qv 7) (Zg (qv 8) Zc)))) (Z7 _))))) Zw)
   (Zf (Zp Jo)))))))))))),?_⟩
 try dsimp only[L2.cxK,L2.cxK2]
 refine L2.let11 ?_;intro U10 U9 U8 U7 U6 U5 U4 U3 U2 U1;have hne:t.aa≠t.ae:=T.av.symm;refine⟨_,U,a,ns,1,U,hS,λc1=>⟨_,U,a,ns,0,U,hS,λc0=>⟨_,U,_,_,U,U,(by show(0:Int)<4;decide),?_⟩⟩⟩;generalize (if c0<0 then -c0 else c0)=ca at *;refine⟨c1,(ca%4).toNat,by show[V.int c1,V.int (ca%4)]=_;rw[Qdi (by lia)],by lia,λtn ys H1 htn0 htn hl hnd hnm hso s1=>Zh ?_⟩;have N:Nm3 ys:=⟨by lia,hnd,hnm,hso⟩;have n3:=N.n3;have hS1:=WS hS s1;refine⟨_,U,_,U,a,tn,ns,ys,U,hS1,htn,N,λtp t1 t2 u v H2 S1 S2 htp Y Z s2=>⟨tp,_,U,SqT.of htp,U,_,_,U,Zh ⟨_,_,U,Zh ⟨U,?_⟩⟩⟩⟩;have lu:=S1.ln;have lv:=S2.ln;have si:∀x∈u++v,w9 x:=λx h=>(Qa7.mp h).elim (S1.si N x) (S2.si N x);refine⟨_,U,_,U,t1,t2,_,_,U,U,Y,Z,Qax (Zu (by lia)),λtc H3 hc3 s3=>⟨_,U,tc,tn,u++v,ys,U,hc3,si,s3 _ _ (s2 _ _ htn),n3,λtq H4 hq4 s4=>Zh ?_⟩⟩;have s34:=s3.trans s4;have s14:=s1.trans (s2.trans s34);have Y:=s34 _ _ Y;have Z:=s34 _ _ Z;have hS4:=WS hS s14;have TW4:=TW.same s14;have TC4:=TC.same s14;have M:=N.sub (Qgg:(nmF ys (u++v)).Sublist ys);have S1':Sm (nmF ys (u++v)) u:=S1.to λw h=>Qbs _ h;have S2':Sm (nmF ys (u++v)) v:=S2.to λw h=>Qa1 _ h;have cmp:∀{x y:Au} {p q:A0} {Ha:Hp} {Qc:VK} {Ec:XK},Ha x=some (.tup p)->Ha y=some (.tup q)->Sm ys p->Sm ys q->ZT Ha t.ae Z2 Zz->ZT Ha t.aa Z5 Z6->(∀f Hb,Verd Hb f (nmF ys (p++q)) p q->ZT Hb t.ae Z2 Zz->ZT Hb t.aa Z5 Z6->vR t.ae t.aa Ha Hb->Qc (.ref f) Hb)->jG P w K mg base t.ae t.aa [.ref x,.ref y] Ha Qc Ec:=by
  intro x y p q Ha Qc Ec hx hy Sp Sq TWa TCa kc;have Nn:=N.sub (Qgg:(nmF ys (p++q)).Sublist ys);have Sp':Sm (nmF ys (p++q)) p:=Sp.to λw h=>Qbs _ h;have Sq':Sm (nmF ys (p++q)) q:=Sq.to λw h=>Qa1 _ h;have c1:2^YJ p<=2^5:=Qcq (by decide) Sp.rm;have c2:2^YJ q<=2^5:=Qcq (by decide) Sq.rm;refine⟨x,y,p,q,U,hx,hy,λz h=>(Qa7.mp h).elim (Sp.si N z) (Sq.si N z),by rw[Qaf];have:=Sp.ln;have:=Sq.ln;lia,λms h=>by rw[jq N Sp Sq h];exact⟨Sp'.sok Nn,Sq'.sok Nn⟩,Qaz (Nat.mul_le_mul (Nat.mul_le_mul_left 11 c1) (Nat.mul_le_mul_left 11 c2)) (by decide),TWa,TCa,λf q' ms l1 l2 l ws Hb h B1 B2 C no e1 e2 e3 e4 e5 e6=>?_,λf d w r kvs ms l1 l2 Hb hw B1 B2 h F e1 e2 e3 e4 e5 e6 e7=>?_⟩
  .obtain rfl:=jq N Sp Sq h;exact kc f Hb ⟨l1,l2,⟨B1,B2⟩,.inl ⟨q',l,ws,e1,e2,Zoa e3 (Zob Nn Sp' Sq' ⟨B1,B2⟩ C).2,C,no⟩⟩ e4 e5 e6
  .obtain rfl:=jq N Sp Sq h;exact kc f Hb ⟨l1,l2,⟨B1,B2⟩,.inr ⟨d,w,r,kvs,e1,e3,e4,F,hw⟩⟩ e5 e6 e7
 refine⟨_,U,_,U,?_⟩;unfold Zhb;refine cmp Y Z S1 S2 TW4 TC4 λf H5 VD TW5 TC5 o5=>Zh ?_;have Y:=o5.tup TW4 TC4 Y;have Z:=o5.tup TW4 TC4 Z;have hq5:=o5.tup TW4 TC4 hq4;have hS5:=o5.sq TW4 TC4 hS4;refine⟨_,U,_,U,f,tq,_,u,v,U,hq5,M.nd,VD,_,U,Yu ?_⟩;obtain⟨l1,l2,B,VD⟩:=VD;have nl:(nmF ys (u++v)).length<=3:=M.n3;refine⟨_,U,_,U,_,U,t1,t2,tq,_,u,v,U,Y,Z,hq5,M,S1',S2',λhal H6 s6=>Zh ?_,λw j vs p d H6 w1 hal hj ha hn hp hd s6=>Zh ?_⟩
 .refine⟨_,U,U,_,U,Yu ?_⟩;have hq6:=s6 _ _ hq5;have hS6:=WS hS5 s6;have e4:(4:Int)-((((nmF ys (u++v)).map V.str).length:Nat):Int)/3=((4-(nmF ys (u++v)).length/3:Nat):Int):=by rw[Qac];lia
  have Y:=s6 _ _ Y;have Z:=s6 _ _ Z;have rest:U8 {nx:=λ_ H'=>Q V.non H',rt:=Q} [some (.ref a),some (.ref tn),some (.ref t1),some (.ref t2),some (.ref tq),some (.ref f),some .non,none,none] H6:=by
   refine⟨_,U,6,U,36,U,a,_,U,hS6,λl hl=>⟨l,_,U,.inl (SqL.of Zb),_,_,U,U,.inr (.inl ⟨by decide,by decide⟩),_,_,U,Zh ?_⟩⟩;have s7:=Zd (o:=.lst (qK (ns.map V.int) (some 6) (some 36))) hl;generalize upd H6 l (.lst (qK (ns.map V.int) (some 6) (some 36)))=H7 at *;rw[Xq,Qac];have ll:(jN ns (some 6) (some 36)).length<=63:=by
    have h:=WA (ns.map V.int) (some 6) (some 36);rw[Xq,Qac,Qac]at h;exact Qaz h h63
   obtain⟨W,hW,W1,W2⟩:∃W:Nat,(if 2*((jN ns (some 6) (some 36)).length:Int)>4 then 2*((jN ns (some 6) (some 36)).length:Int)else 4)=(W:Int)/\2*(jN ns (some 6) (some 36)).length<=W/\W<=1000:=⟨(if 2*((jN ns (some 6) (some 36)).length:Int)>4 then 2*((jN ns (some 6) (some 36)).length:Int)else 4).toNat,by split<;>lia,by split<;>lia,by split<;>lia⟩;rw[hW];show U9 {nx:=λ_ H'=>Q V.non H',rt:=Q} [some (.ref a),some (.ref tn),some (.ref t1),some (.ref t2),some (.ref tq),some (.ref f),some .non,some (.int W),none] H7;refine Zod (∀ls:Aj,ls≠[]->(∀x∈ls,x<2^(nmF ys (u++v)).length)->ls.length<=W->¬Dff (nmF ys (u++v)) u v ls) (λQ' hT hF=>?_) (λno=>?_) ?_
   .rcases VD with⟨q,l,ws,hf,_,_,_,no⟩|⟨d,w,r,kvs,hf,_,_,F,_⟩
    .have hf:=s7 _ _ (s6 _ _ hf);exact⟨_,U,f,_,0,_,U,U,SqT.of hf,U,U,_,U,YN (hT λls x y _=>no ls x y)⟩
    .have hf:=s7 _ _ (s6 _ _ hf);refine⟨_,U,f,_,0,_,U,U,SqT.of hf,U,U,_,U,?_⟩;rw[dsF (by decide +kernel)];refine Yu ⟨_,U,_,U,f,_,1,_,U,U,SqT.of hf,U,_,_,U,U,_,U,?_⟩
     by_cases z:(W:Int)<(w:Int)
     .rw[Qar z];exact hT λls x y h e=>by have:=F.least ls x y e;lia
     .rw[Qan z];exact hF
   .refine⟨_,U,_,U,a,tq,ns,_,U,WS hS6 s7,h63,s7 _ _ hq6,M.nd,nl,λp kvs g H8 hp Tg hb s8=>Zh ?_⟩;have hb':∀y∈nmF ys (u++v),0<=g y/\g y<2^W:=λy h=>⟨(hb y h).1,Int.lt_of_lt_of_le (hb y h).2 (by have h:((2^(2*(jN ns (some 6) (some 36)).length):Nat):Int)<=((2^W:Nat):Int):=Int.ofNat_le.mpr (Qcq (by decide) W1);rw[Qfk,Qfk]at h;exact h)⟩;have one:∀{ws:A0},Sm (nmF ys (u++v)) ws->∃o,YG (2^W) g ws=[o]:=λ{ws} S=>by
     have h:=WM (2^W) g ws;rw[S.st]at h;exact Qfo.mp h
    obtain⟨o1,e1⟩:=one S1';obtain⟨o2,e2⟩:=one S2';have al:=Zjg M S1' S2' B hb' no;rw[e1,e2]at al;injection al with al;subst al;have s78:=s7.trans s8;refine⟨_,U,_,U,_,U,t1,p,W,10,_,u,kvs,g,o1,U,by lia,s78 _ _ Y,by lia,hp,Zg3 Tg,hb',S1'.wd,S1'.en,e1,λH9 s9=>⟨_,U,_,U,_,U,t2,p,W,10,_,v,kvs,g,o1,U,by lia,s9 _ _ (s78 _ _ Z),by lia,s9 _ _ hp,Zg3 Tg,hb',S2'.wd,S2'.en,e2,λH10 s10=>⟨U,?_⟩⟩⟩;rw[Qar U];exact k _
   .exact k _
  rcases VD with⟨q,l,ws,hf,_,_,_,no⟩|⟨d,w,r,kvs,hf,_,_,F,_⟩
  .have hf:=s6 _ _ hf;refine⟨_,U,f,_,0,_,U,U,SqT.of hf,U,U,_,U,?_⟩;rw[dsF (by decide +kernel)];exact Yu (Yu rest)
  .have hf:=s6 _ _ hf;refine⟨_,U,f,_,0,_,U,U,SqT.of hf,U,U,_,U,YN ⟨_,U,f,_,1,_,U,U,SqT.of hf,U,_,U,tq,_,U,.inr (SqT.of hq6),_,_,U,U,.of (by decide) (by decide),_,_,U,U,_,_,U,U,_,U,qG (λhb=>?_) (λ_=>rest)⟩⟩;have hb:=Qba hb;rw[e4]at hb;exact(Zjf M S1' S2' B F (hal w F.w1 (by lia))).elim
 .refine⟨_,U,U,_,U,YN ?_⟩;rcases VD with⟨q,l,ws,hf,_,_,_,no⟩|⟨d',w',r,kvs,hf,hd',Td,F,_⟩
  .exact absurd (al_of (w:=w) M S1' S2' B (λls x y _=>no ls x y) vs (Qag hj)) hn
  .obtain⟨rfl,ev⟩:=Zje M S1' S2' B F hal hj ha hn;obtain⟨g1,g2⟩:=Zoc M.nd (vT (Qag hj)).1 ev Td;refine⟨_,U,_,U,f,p,_,_,U,U,SqT.of (s6 _ _ hf),SqT.of hp,U,(λj x y h1 h2=>?_),k _⟩
   match j,h1,h2 with
   |0,rfl,rfl=>exact .inl ⟨U,U⟩
   |1,rfl,rfl=>exact .inl ⟨U,U⟩
   |2,rfl,rfl=>exact .inr (.inr ⟨d',d,kvs,_,U,U,.inl (s6 _ _ hd'),.inl hd,g1,g2⟩)
end
def oF(K:Af)(f:Au):Obj:=(K.lookup f).getD default
def fx(K:Af)(f:Au):Am:=match (oF K f).data with
 |.func g=>g
 |_=>default
abbrev fn0(K:Af)(x:Str)(st:Aw)(f:Au):Am:=PySem.W.fnOf x x (Js st) (Xy st) (Zk st) .none (fx K f).kwdefaults (fx K f).doc (fx K f).pyModule (fx K f).annotations (fx K f).code (fx K f).closureTuple
abbrev FiE(K:Af)(x:Str)(st:Aw)(f:Au):Prop:=(PySem.W.nsIn K mainGlobals x,K.lookup f,PySem.W.codeIn K (fx K f).code x,PySem.W.keepIn K (.ref f))=(some (some (.ref f)),some ⟨(oF K f).cls,(oF K f).dict,.func (fn0 K x st f),(oF K f).slots⟩,true,true)
theorem Zp6{st:Aw}(e:FiE K x st f):fx K f=fn0 K x st f:=
 congrArg (λo:Option Obj=>match (o.getD default).data with|.func g=>g|_=>default) (congrArg (λz=>z.2.1) e)
def de{D:Heap}{mg:Ae}{st:Aw}{ps:Ai}(X:K.In D)(G:D.Ns mainGlobals mg)(e:FiE K x st f)
  (h:∀(kV q J:As)(I:Option Au)(C ct:As)(g:Ag),g.length=ps.length->bindArgs (PySem.W.fnOf x x (Js st) (Xy st) (Zk st) .none kV q J I C ct) ⟨g,[]⟩=pure (ps.zip g):=by first|(show∀_ _ _ _ _ _ g,List.length g=1->_;exactλ_ _ _ _ _ _=>L2.len1 λ_=>U)|(show∀_ _ _ _ _ _ g,List.length g=2->_;exactλ_ _ _ _ _ _=>L2.len2 λ_ _=>U)|(show∀_ _ _ _ _ _ g,List.length g=3->_;exactλ_ _ _ _ _ _=>L2.len3 λ_ _ _=>U)|(show∀_ _ _ _ _ _ g,List.length g=4->_;exactλ_ _ _ _ _ _=>L2.len4 λ_ _ _ _=>U)|(show∀_ _ _ _ _ _ g,List.length g=5->_;exactλ_ _ _ _ _ _=>L2.len5 λ_ _ _ _ _=>U)):Df K mg x st ps f (fx K f):=by
 have F:=fun_mk (st:=st) (congrArg (λz=>z.2.1) e) (congrArg (λz=>z.2.2.1) e) (congrArg (λz=>z.2.2.2) e);exact Eq.mp (congrArg (Df K mg x st ps f) (Zp6 e).symm) ⟨F,PySem.W.mg_of X G (congrArg (·.1) e),F.binds h⟩
def mkE(P:Params):List (Str×Int)->List (Nat×Nat)->List DictEntry
 |x::l,t::r=>⟨PyData.keyHash P x.1,.str x.1 t.1,.int x.2 t.2⟩::mkE P l r
 |_,_=>[]
theorem Zg9(P:Params):∀(l:List (Str×Int))(r:List (Nat×Nat)),l.length=r.length->KTab P (mkE P l r) l
 |[],[],_=>.nil
 |_::l,_::r,h=>.cons (Zg9 P l r (Nat.succ.inj h))
theorem kgo{mg:Ae}{l:List (Str×Int)}(X:K.In h)(G:h.Ns mainGlobals mg)(r:List (Nat×Nat))(n:Nat)
  (e:(PySem.W.nsIn K mainGlobals x,K.lookup a)=(some (some (.ref a)),some ⟨.type "dict",none,.dict (Array.mk (mkE w.params l r)) n,#[]⟩)) (g:l.length=r.length) (q:(l.map (·.1)).Nodup) (C:(a == sysModules)=false):Kg K w mg x a l:=
 ⟨PySem.W.mg_of X G (congrArg (·.1) e),⟨⟨_,_,congrArg (·.2) e,Zg9 _ l r g⟩,q,C⟩⟩
def sV:Nat->List Str->List As
 |_,[]=>[]
 |t,x::l=>.str x t::sV (t+1) l
theorem Zha:∀(l:Ai)(t:Nat),Vals (l.map V.str) (sV t l)
 |[],_=>.nil
 |_::l,t=>.cons ⟨_,U⟩ (Zha l (t+1))
theorem kto{mg:Ae}{l:Ai}(X:K.In h)(G:h.Ns mainGlobals mg)(t:Nat)
  (e:(PySem.W.nsIn K mainGlobals x,K.lookup a)=(some (some (.ref a)),some ⟨.type "tuple",none,.seq (Array.mk (sV t l)) 0,#[]⟩)) (g:(sV t l).length<=sizeLine):Kt K mg x a l:=
 ⟨PySem.W.mg_of X G (congrArg (·.1) e),λ_=>.inr ⟨_,_,_,congrArg (·.2) e,U,U,g,Zha l t⟩⟩
def KK(w:Ar):Af:=L2.noT (Hw.K w.params)
set_option maxHeartbeats 0 in
theorem all_mk {l:W.OpenLaw} {w:Ar} {h:Heap} {mg:Ae} {fa:Au} (X:(KK w).In h) (G:h.Ns mainGlobals mg) (hfa:mg "law" = some (.ref fa)):
  ∃fd:Am,(∀(s:Aq)(v:As),BindsTo s fd ⟨[v],[]⟩ [("script",v)])/\∀base:Heap,(KK w).In base->base.Ns mainGlobals mg->(∀q∈([(227,225),(256,252)]:List (Au×Au)),W.CodeHd base q.1 q.2)->vm mg base->Y1 l.prog w (KK w) mg base CX0 17 fa fd ["script"] (sp_law (KK w) 225 252):=by
 cases hfa.symm.trans (W.mg_of X G (show W.nsIn (KK w) mainGlobals "law" = some (some (.ref 431)) by kernel_rfl));have T:Txt (KK w) w mg ⟨21,fx (KK w) 21,28,fx (KK w) 28,60,fx (KK w) 60,84,fx (KK w) 84,89,fx (KK w) 89,101,fx (KK w) 101,113,fx (KK w) 113,123,fx (KK w) 123,130,fx (KK w) 130,137,fx (KK w) 137,144,fx (KK w) 144,156,fx (KK w) 156,176,fx (KK w) 176,202,fx (KK w) 202,216,fx (KK w) 216,233,fx (KK w) 233,238,fx (KK w) 238,264,fx (KK w) 264,269,fx (KK w) 269,276,fx (KK w) 276,283,fx (KK w) 283,290,fx (KK w) 290,297,fx (KK w) 297,309,fx (KK w) 309,316,fx (KK w) 316,321,fx (KK w) 321,335,fx (KK w) 335,342,fx (KK w) 342,356,fx (KK w) 356,363,fx (KK w) 363,389,fx (KK w) 389,403,fx (KK w) 403,424,fx (KK w) 424,65,fx (KK w) 65,94,fx (KK w) 94,151,fx (KK w) 151,163,fx (KK w) 163,181,fx (KK w) 181,195,fx (KK w) 195,209,fx (KK w) 209,302,fx (KK w) 302,328,fx (KK w) 328,349,fx (KK w) 349,377,fx (KK w) 377,396,fx (KK w) 396,77,fx (KK w) 77,168,fx (KK w) 168,243,fx (KK w) 243,370,fx (KK w) 370,384,fx (KK w) 384,410,fx (KK w) 410,70,fx (KK w) 70,188,fx (KK w) 188,417,fx (KK w) 417,106,fx (KK w) 106,228,fx (KK w) 228,257,fx (KK w) 257,223,fx (KK w) 223,250,fx (KK w) 250,431,fx (KK w) 431,227,225,256,252,114,115,116,407,409,169⟩:=by
  constructor
  .exact kgo X G [(344,345),(346,347),(348,349),(350,351),(352,353),(354,355),(356,357),(358,359),(360,361),(362,363)] 10 (by kernel_rfl) U (by decide +kernel) U
  .exact kgo X G [(375,376),(377,378),(379,380),(381,382),(383,384)] 5 (by kernel_rfl) U (by decide +kernel) U
  .exact kgo X G [(391,392),(393,394),(395,396),(397,398),(399,400)] 5 (by kernel_rfl) U (by decide +kernel) U
  .exact W.mg_of X G (by kernel_rfl)
  .exact W.mg_of X G (by kernel_rfl)
  .exact kto X G 469 (by kernel_rfl) (by show _<=_;decide)
  all_goals first|exact de X G (by kernel_rfl)|exact W.mg_none_of X G (by kernel_rfl)|exact Nat.ne_of_beq_eq_false U|kernel_rfl
 exact⟨_,λs v=>Zp6 (show FiE (KK w) "law" Zm5 431 by kernel_rfl) ▸ .of_eq U,λbase hKb _ hC hB=>ok_law _ _ T ⟨hC (227,225) (by simp),hC (256,252) (by simp),hB⟩⟩
end Lw
end
open PySem PySem.W PyProof.Rows
set_option maxRecDepth 100000 in
set_option maxHeartbeats 0 in
theorem PySem.Challenge.cw_everywidth_k25_whole_judged_by_all_words_holds : PySem.Challenge.rw_everywidth_k25_whole_judged_by_all_words.Holds := by
 w_on;refine holds_law Hw.ws λsaid=>?_
 refine holds_openX Hw.left (λs e=>xl_of s (Qco.mp e).1) XL.keeps
  (by rfl) (by rfl) (by rfl)
  (λs e=>recFacts_of (Qco.mp e).2) (by rfl)
  (by first|assumption|decide +kernel) (by decide +kernel) ⟨U,U,U,U,U,by decide +kernel⟩ ?hw ?_
 (case hw=>w_witness2)
 refine L2.walk_X (λ_=>by kernel_rfl) ?_
 exact L2.walk_ofT (K:=λP=>L2.noT (Hw.K P)) (n:=63) (k:=17) (x:= "script") (CX:=λ_=>L2.CX0) (sp:=λw=>Lw.sp_law (Lw.KK w) 225 252) U (by decide) U ⟨U,by decide,by decide⟩ (λw h Y=>L2.in_noT (by kernel_rfl) Y) (λw mean mg mb h T X=>List.forall_mem_cons.mpr ⟨PySem.W.tab_of (x:=PySem.Str.ofString "machine_telling") (c:=227) (P:=225) T X U (by kernel_rfl),List.forall_mem_cons.mpr ⟨PySem.W.tab_of (x:=PySem.Str.ofString "machines_compared") (c:=256) (P:=252) T X U (by kernel_rfl),List.forall_mem_nil _⟩⟩) (λw=>L2.noT_ok _) (λw mg fa h X G e=>Lw.all_mk X G e) (λ_ _ a ns hl hT hS=>⟨a,ns,U,hS,hl,.inl (hT (227,225) (by simp)),.inl (hT (256,252) (by simp)),λ_=>U⟩) λ_ _ _ _ _ z=>z
#print axioms PySem.Challenge.cw_everywidth_k25_whole_judged_by_all_words_holds
