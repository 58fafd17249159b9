import PyProof.Rows.All
import Wide.All
import OpenK.AllK
import Wide.FinOn
import Lean
import PyProof.EqAt
import PyProof.EqKinds
import PyProof.TupleCall
import PyProof.NeKinds
import KE.KRevSl
import KE.KRevIter
import PyProof.FactsAll.tuple
import PyProof.Rows.SortWalk
import PyProof.Rows.StrJoin2
import PyProof.StrBlockH
import PyProof.StrWalks
import PyProof.StrCalls2
import PyProof.ConsumeWalk
import KE.KIntText
import PyProof.Rows.SortStr
import PyProof.EnumStmt
import PyProof.WalksMore
import PyProof.ZipIter
import KE.KEqDict
import PyProof.DictWalks
import KE.KLam
import PyProof.Rows.SortShellK
import PyProof.AttrMissHeap
import KE.KDictOf
import PyProof.CollectWalk
import PyProof.ListNew
import KE.KSortTup
import PyProof.Rows.TupDisplay
import OpenK.KOwn
import PyProof.Rows.TopTwo
import PyProof.Rows.CatchOwn
import PyProof.RulesDel
import PyProof.RulesAs
import KE.KIsNot
import PyProof.ExcAttrAll.ValueError
import KE.KIsAll
import PyProof.StrReplace2
import PyProof.ReprStr
import PyProof.FString
import PyProof.StrLawsChain
import PyProof.SetRoads
import PyProof.StrLawsRepr
import PyProof.ReprHeads
import PyProof.ReprLen
import PyProof.FactsAll.bool
import KE.KNest
import PyProof.Rows.RuleM_int
import PyProof.Rows.CallKwBuiltin
import KE.KMinKey
import PyProof.ListRange
import PyProof.TupleOfSeq
import PyProof.TupleOfStr
import KE.KDictLaws
import KE.KPairComp
import KE.KDictSum
import PySem.Challenge.RW_everywidth_k28_first_words_looked_throug
theorem U{α:Sort u}{a:α}:a=a:=rfl
noncomputable section
set_option Elab.async false
set_option linter.all false
set_option maxRecDepth 100000
set_option maxHeartbeats 0
namespace Hw
open PySem PySem.W
theorem ws:PySem.Challenge.rw_everywidth_k28_first_words_looked_throug.wellSaid=true:=by kernel_rfl
def p:Program:=PySem.Challenge.rw_everywidth_k28_first_words_looked_throug.row.toRowW.prog
def B:List Stmt:=behindTheImports p
def nth:List Stmt→Nat→Option Stmt
  |[],_=>none
  |x::_,0=>some x
  |_::r,n+1=>nth r n
def fx:Option Stmt→Arguments×List Stmt×Scope×Str×Nat
  |some (.FunctionDef n a b _ _ _ s _ _ x)=>(a,b,s,n,x.line)
  |_=>default
def fd(i:Nat):=fx (nth B i)
def fc(i j:Nat):=match nth B i with
  |some (.ClassDef _ _ _ b _ _ _ _ _ _ _)=>fx (nth b j)
  |_=>fx none
def vs(s:String)(t:Nat):Value:=.str (Str.ofString s) t
def en(P:Params)(s:String)(t:Nat)(v:Value):DictEntry:=⟨PyData.keyHash P (Str.ofString s),.str (Str.ofString s) t,v⟩
def tu (l:List Value):Obj:=⟨.type "tuple",none,.seq (Array.mk l) 0,#[]⟩
def t0:Obj:=tu []
def fi(l:List Value):Obj:=⟨.none,none,.fields (Array.mk l),#[]⟩
def f0:Obj:=fi []
def vk:Nat→List String→List Value
  |_,[]=>[]
  |t,s::r=>vs s t::vk (t+1) r
def vt(t:Nat)(l:List String):Obj:=tu (vk t l)
abbrev Fd:=Arguments×List Stmt×Scope×Str×Nat
def rO(x:Fd):Obj:=⟨.none,none,.func ⟨x.2.2.2.1,x.2.2.2.1,x.1,.stmts x.2.1,x.2.2.1,0,[],.none,.none,.none,.none,none,.none,.none,0⟩,#[]⟩
def fO (x:Fd) (m:Value) (c:Nat):Obj:=⟨.type "function",none,.func ⟨x.2.2.2.1,x.2.2.2.1,x.1,.stmts x.2.1,x.2.2.1,3,[],.none,.none,.none,m,none,.ref c,.none,0⟩,#[]⟩
def fl:String:= "/claim/cut.py"
def r(i:Nat):Obj:=rO (fd i)
def f(i:Nat)(m:Value)(c:Nat):Obj:=fO (fd i) m c
def ci(n:Nat):Value:=.int n 0
def c (i t x v:Nat):Obj:=let y:=(fd i).2.2.2;⟨.type "code",none,.fields #[.str y.1 t,.str y.1 (t+1),vs fl (t+2),ci y.2,ci (fd i).1.args.length,ci 0,ci 0,ci 3,.ref x,.bool true,ci 181,.ref (x+1),.none,if v == 0 then .none else .ref (x+2),if v == 0 then .none else .ref (x+3),.ref (if v == 0 then x+2 else x+4),ci (t+3+v),ci y.2,vs fl (t+4+v)],#[]⟩
def e(P:Params)(i t a:Nat):DictEntry:=let y:=(fd i).2.2.2.1;⟨PyData.keyHash P y,.str y t,.ref a⟩
def bt(P:Params):List DictEntry:=match (boot_o_3 P).data with
  |.dict e _=>e.toList.tail
  |_=>[]
def m0:Value:=vs "everywidth.bits" 187
def m1:Value:=vs "everywidth.machines.runs" 348
def m2:Value:=vs "everywidth.machines.firsts" 369
def m3:Value:=vs "everywidth.machines.found" 430
def m4:Value:=vs "everywidth.machines.least" 447
def m5:Value:=vs "everywidth.vocabulary" 483
def m6:Value:=vs "everywidth.rows" 600
def m7:Value:=vs "everywidth.machines.columns" 608
def m8:Value:=vs "everywidth.machines.made" 685
def m9:Value:=vs "everywidth.sums.texts" 713
def m10:Value:=vs "everywidth.claims.widths" 721
def m11:Value:=vs "law_everywidth_k28_first_words_looked_throug" 746
def mc (n:String)(t l x k:Nat):Obj:=⟨.type "code",none,.fields #[vs n t,vs n (t+1),vs fl (t+2),ci l,ci 0,ci 0,ci 0,ci 0,.ref x,.bool false,ci 181,.ref (x+1),.none,.none,.none,.none,ci k,ci l,vs fl (k+1)],#[]⟩
def fr (c d:Nat)(v:Value):Obj:=⟨.type "frame",none,.plain,#[some (.ref c),some (.ref 3),some (.ref d),none,some v,none,some (.ref 0)]⟩
def bf (a b:Value):Obj:=⟨.type "builtin_function_or_method",none,.fields #[a,b],#[]⟩
def dc (l:List DictEntry)(n:Nat):Obj:=⟨.type "dict",none,.dict ⟨l⟩ n,#[]⟩
def es (P:Params):List DictEntry:=[e P 1 197 21,e P 2 206 28,en P "WidthError" 226 (.ref 38),en P "NoSum" 242 (.ref 51),en P "NoClaim" 258 (.ref 63),en P "NoWords" 274 (.ref 75),en P "NoTurning" 290 (.ref 87),en P "NoShorter" 306 (.ref 99),en P "NoAsk" 322 (.ref 111),en P "NoName" 347 (.ref 130),e P 13 362 139,e P 14 368 144,e P 16 376 149,e P 17 392 156,e P 18 406 163,e P 19 412 168,e P 20 418 173,e P 21 429 180,e P 23 437 185,e P 24 446 192,e P 26 454 197,e P 27 460 202,e P 28 466 207,e P 29 472 212,e P 30 482 219,en P "SUM_PARTS" 515 (.ref 220),en P "SUMS_IN_CLAIM" 531 (.ref 221),en P "CLAIMS_IN_CLAIM" 547 (.ref 222),en P "LETTERS" 549 (vs "abcdefghijklmnopqrstuvwxyz" 548),en P "LONGEST_NAME" 551 (.int 8 550),e P 37 558 229,e P 38 565 236,e P 39 572 243,e P 40 579 250,e P 41 586 257,e P 42 592 262,e P 43 599 269,e P 45 607 274,en P "REMEMBERING" 619 (.ref 275),e P 48 626 282,e P 49 632 287,e P 50 647 294,e P 51 657 301,e P 52 666 308,e P 53 676 315,e P 54 684 322,e P 56 694 329,e P 57 700 334,e P 58 706 339,e P 59 712 344,e P 61 720 349,e P 63 730 356,e P 64 738 363,e P 65 745 370,e P 67 761 377,e P 68 772 384,e P 69 783 391,e P 70 790 398,e P 71 802 405,e P 72 816 412,e P 73 834 419,e P 74 840 424,e P 75 849 431,e P 76 859 438,e P 77 872 445,e P 78 886 452,e P 79 898 459,e P 80 905 466,e P 81 915 473,e P 82 926 480,e P 83 944 487]
def vl:List (Nat×Nat):=[(2,20),(7,27),(13,34),(15,47),(17,59),(19,71),(21,83),(23,95),(25,107),(27,119),(32,138),(41,143),(47,148),(57,155),(71,162),(81,167),(83,172),(89,179),(94,184),(104,191),(110,196),(119,201),(126,206),(129,211),(131,218),(143,228),(145,235),(147,242),(149,249),(151,256),(153,261),(155,268),(160,273),(164,281),(166,286),(171,293),(187,300),(198,307),(200,314),(214,321),(231,328),(233,333),(245,338),(247,343),(250,348),(253,355),(255,362),(257,369),(260,376),(272,383),(279,390),(284,397),(296,404),(309,411),(321,418),(334,423),(338,430),(352,437),(370,444),(389,451),(400,458),(413,465),(417,472),(426,479),(431,486)]
def d(i x t:Nat)(l:List String)(m:Value):List Obj:=match l with
  |[]=>[t0,f0,r i,c i t x 0,f i m (x+3)]
  |l=>[t0,f0,vt (t+3) l,t0,r i,c i t x l.length,f i m (x+5)]
def nz:Nat→List Obj→PySem.W.Frag
  |_,[]=>[]
  |n,x::l=>(n,x)::nz (n+1) l
def ir(n:Nat):List (Nat×Nat)→Bool
  |[]=>false
  |x::l=>(Nat.ble x.1 n&&Nat.blt n x.2)||ir n l
def rs:List (Nat×Nat):=[(0,30),(36,40),(42,43),(49,52),(54,55),(61,64),(66,67),(73,76),(78,79),(85,88),(90,91),(97,100),(102,103),(109,112),(114,115),(121,131),(133,488)]
def md (P:Params) (m:String) (t e k:Nat):Obj:=⟨.type "dict",none,.dict (Array.mk (en P "__name__" 165 (vs m t)::bt P++(es P).take e)) k,#[]⟩
def tl:List (Nat×Nat)→List Value
  |[]=>[]
  |x::r=>.int x.1 0::.int 0 0::.ref x.2::tl r
def tb(c:Nat):Obj:=fi (tl (vl.take c))
def xo (P: Params) (n: String) (t l c: Nat): List Obj:=[tu [(.ref 38)],bf (.builtin "type.__prepare__") (.type "type"),dc [en P "__module__" t (vs "everywidth.errors" 207),en P "__qualname__" (t+2) (vs n (t+1)),en P "__firstlineno__" (t+4) (.int l (t+3)),en P "__static_attributes__" (t+5) (.ref (c-2))] 4,t0,f0,mc n (t-5) l (c-6) (t-2),fr (c-4) (c-7) (vs "everywidth.errors" 207),t0,dc [en P "__module__" t (vs "everywidth.errors" 207),en P "__firstlineno__" (t+4) (.int l (t+3)),en P "__static_attributes__" (t+5) (.ref (c-2)),en P "__doc__" (t+6) .none] 2,⟨(.type "type"),none,.cls ⟨Str.ofString n,[(.ref 38)],[(.ref c),(.ref 38),(.type "ValueError"),(.type "Exception"),(.type "BaseException"),(.type "object")],(c-1),Str.ofString n,true,[],[],false,none,false⟩,#[some (.ref (c-9)),none,some (vs n (t-7)),some (vs n (t+1)),some (.builtin "ValueError.__new__"),some (.bool true)]⟩,⟨(.type "super"),none,.fields #[(.ref c),(.ref c),(.ref c)],#[]⟩,bf (.builtin "object.__init_subclass__") (.ref c)]
def ob (P:Params):List Obj:=[boot_o_0 P,boot_o_1 P,boot_o_2 P,md P "law_everywidth_k28_first_words_looked_throug" 746 71 80,boot_o_4 P,boot_o_5 P,boot_o_6 P,boot_o_7 P,boot_o_8 P,boot_o_9 P,boot_o_10 P,t0,tb 65,mc "<module>" 182 1 11 185,fr 13 3 (vs "__main__" 164)]++(d 1 15 189 ["width","many","bit_number"] m0++(d 2 22 198 ["bits","number","bit"] m0++([tu [(.type "ValueError")],bf (.builtin "type.__prepare__") (.type "type"),dc [en P "__module__" 216 (vs "everywidth.errors" 207),en P "__qualname__" 218 (vs "WidthError" 217),en P "__firstlineno__" 220 (.int 13 219),en P "__static_attributes__" 221 (.ref 36)] 4,t0,f0,mc "WidthError" 211 13 32 214,fr 34 31 (vs "everywidth.errors" 207),t0,dc [en P "__module__" 216 (vs "everywidth.errors" 207),en P "__firstlineno__" 220 (.int 13 219),en P "__static_attributes__" 221 (.ref 36),en P "__weakref__" 223 (.ref 39),en P "__doc__" 224 .none] 3,⟨(.type "type"),none,.cls ⟨Str.ofString "WidthError",[(.type "ValueError")],[(.ref 38),(.type "ValueError"),(.type "Exception"),(.type "BaseException"),(.type "object")],37,Str.ofString "WidthError",true,[],[(.ref 51),(.ref 63),(.ref 75),(.ref 87),(.ref 99),(.ref 111),(.ref 130)],false,none,false⟩,#[some (.ref 29),none,some (vs "WidthError" 209),some (vs "WidthError" 217),some (.builtin "ValueError.__new__"),some (.bool true)]⟩,⟨(.type "getset_descriptor"),none,.fields #[(vs "__weakref__" 222),(.ref 38),(.builtin "ExceptionGroup.__weakref__"),.none],#[]⟩,⟨(.type "super"),none,.fields #[(.ref 38),(.ref 38),(.ref 38)],#[]⟩,bf (.builtin "object.__init_subclass__") (.ref 38)] ++ xo P "NoSum" 234 15 51 ++ xo P "NoClaim" 250 17 63 ++ xo P "NoWords" 266 19 75 ++ xo P "NoTurning" 282 21 87 ++ xo P "NoShorter" 298 23 99 ++ xo P "NoAsk" 314 25 111 ++ [tu [(.ref 38)],bf (.builtin "type.__prepare__") (.type "type"),dc [en P "__module__" 330 (vs "everywidth.errors" 207),en P "__qualname__" 332 (vs "NoName" 331),en P "__firstlineno__" 334 (.int 27 333),en P "__init__" 342 (.ref 127),en P "__static_attributes__" 344 (.ref 128)] 5,t0,fi [(.int 29 0),(.int 4 0),(.ref 126)],mc "NoName" 325 27 117 328,fr 119 116 (vs "everywidth.errors" 207),t0,f0,vt 338 ["self","word"],t0,⟨.none,none,.func ⟨Str.ofString "__init__",Str.ofString "NoName.__init__",(fc 11 0).1,.stmts (fc 11 0).2.1,(fc 11 0).2.2.1,0,[],.none,.none,.none,.none,none,.none,.none,0⟩,#[]⟩,⟨(.type "code"),none,.fields #[(vs "__init__" 335),(vs "NoName.__init__" 336),(vs "/claim/cut.py" 337),(.int 29 0),(.int 2 0),(.int 0 0),(.int 0 0),(.int 3 0),(.ref 121),(.bool true),(.int 181 0),(.ref 122),.none,(.ref 123),(.ref 124),(.ref 125),(.int 340 0),(.int 29 0),(vs "/claim/cut.py" 341)],#[]⟩,⟨(.type "function"),none,.func ⟨Str.ofString "__init__",Str.ofString "NoName.__init__",(fc 11 0).1,.stmts (fc 11 0).2.1,(fc 11 0).2.2.1,3,[],.none,.none,.none,(vs "everywidth.errors" 207),none,(.ref 126),.none,0⟩,#[]⟩,vt 343 ["word"],dc [en P "__module__" 330 (vs "everywidth.errors" 207),en P "__firstlineno__" 334 (.int 27 333),en P "__init__" 342 (.ref 127),en P "__static_attributes__" 344 (.ref 128),en P "__doc__" 345 .none] 2,⟨(.type "type"),none,.cls ⟨Str.ofString "NoName",[(.ref 38)],[(.ref 130),(.ref 38),(.type "ValueError"),(.type "Exception"),(.type "BaseException"),(.type "object")],129,Str.ofString "NoName",true,[],[],false,none,false⟩,#[some (.ref 114),none,some (vs "NoName" 323),some (vs "NoName" 331),some (.builtin "ValueError.__new__"),some (.bool true)]⟩,⟨(.type "super"),none,.fields #[(.ref 130),(.ref 130),(.ref 130)],#[]⟩,bf (.builtin "object.__init_subclass__") (.ref 130)]++(d 13 133 350 ["machine","letters","state","steps","out","row","letter"] m1++(d 14 140 363 [] m1++(d 16 145 371 [] m2++(d 17 150 377 ["machine","letters","number","wanted","layers","left","well","place","chosen","going"] m2++(d 18 157 393 ["machine","letters","steps","layers","some","layer","state","letter"] m2++(d 19 164 407 [] m2++(d 20 169 413 [] m2++(d 21 174 419 ["machine","state","letter","well","wanted"] m2++(d 23 181 432 [] m3++(d 24 186 438 ["state","states","numbers"] m3++(d 26 193 449 [] m4++(d 27 198 455 [] m4++(d 28 203 461 [] m4++(d 29 208 467 [] m4++(d 30 213 473 ["classes","firsts","state","number"] m4++([dc [en P "not" 485 (.int 1 486),en P "neg" 487 (.int 1 488),en P "twice" 489 (.int 1 490),en P "low" 491 (.int 1 492),en P "and" 493 (.int 2 494),en P "or" 495 (.int 2 496),en P "odd" 497 (.int 2 498),en P "add" 499 (.int 2 500),en P "sub" 501 (.int 2 502),en P "pick" 503 (.int 3 504)] 10,dc [en P "same" 516 (.int 2 517),en P "under" 518 (.int 2 519),en P "beneath" 520 (.int 2 521),en P "sign" 522 (.int 1 523),en P "nought" 524 (.int 1 525)] 5,dc [en P "both" 532 (.int 2 533),en P "either" 534 (.int 2 535),en P "so" 536 (.int 2 537),en P "never" 538 (.int 1 539),en P "yes" 540 (.int 0 541)] 5]++(d 37 223 552 ["text"] m5++(d 38 230 559 ["text"] m5++(d 39 237 566 ["word"] m5++(d 40 244 573 ["word"] m5++(d 41 251 580 ["word"] m5++(d 42 258 587 [] m5++(d 43 263 593 ["text"] m5++(d 45 270 602 [] m6++([vt 610 ["neg","twice","low","add","sub","same","under","beneath","nought"]]++(d 48 276 620 ["word"] m7++(d 49 283 627 [] m7++(d 50 288 633 ["words","columns","place","kept","stack","later","word","parts","held"] m7++(d 51 295 648 ["word","parts","held","one"] m7++(d 52 302 658 ["one","other","held"] m7++(d 53 309 667 ["word","parts","held","then"] m7++(d 54 316 677 ["word","parts"] m7++(d 56 323 687 ["claim","names"] m8++(d 57 330 695 [] m8++(d 58 335 701 [] m8++(d 59 340 707 [] m8++(d 61 345 715 [] m9++(d 63 350 723 ["claim","width"] m10++(d 64 357 731 ["claim","width"] m10++(d 65 364 739 ["claim"] m10++(d 67 371 748 ["script","k","cells","size","cell","turn","step","seed"] m11++(d 68 378 762 ["number","letters","some","name","k"] m11++(d 69 385 773 ["script","start","many","found","k"] m11++(d 70 392 784 ["word"] m11++(d 71 399 791 ["number","room","left","some","word","judged"] m11++(d 72 406 803 ["number","room","left","names","top","some","word","hard"] m11++(d 73 413 817 ["script","start","names","most","left","top","claim","words","parts","room","number","word"] m11++(d 74 420 835 [] m11++(d 75 425 841 ["word","one","full"] m11++(d 76 432 850 ["word","one","other","full"] m11++(d 77 439 860 ["words","full","values","pile","word","one","other"] m11++(d 78 446 873 ["names","full","found","name","wider","values","word","more"] m11++(d 79 453 887 ["words","width","wanted","told","caught","e"] m11++(d 80 460 899 ["caught"] m11++(d 81 467 906 ["found","names","full","name"] m11++(d 82 474 916 ["words","names","full","wanted","values"] m11++(d 83 481 927 ["script","first","names","left","top","words","k","width","wanted","due","kind","found"] m11))))))))))))))))))))))))))))))))))))))))))))))))))))))))))))
def K(P:Params):PySem.W.Frag:=(nz 0 (ob P)).filter λp=>ir p.1 rs
def od:Bool→List Obj→List Obj
  |_,[]=>[]
  |true,x::r=>x::od false r
  |false,_::r=>od true r
def tL:Nat→List Obj→BT
  |0,_=>.nil
  |_,[]=>.nil
  |k+1,x::r=>.node x (tL k (od true r)) (tL k (od false r))
def tn(P:Params)(n:Nat):BT:=tL 12 ((ob P).take n)
abbrev SS(T:BT)(n k:Nat)(o:OsState):SharedT:=⟨T,n,{},Array.mk [],{},k,o⟩
def ev:Env:={scope:=p.main.scope,locals:=mainNs,globals:=mainNs,cells:=[],code:=(.ref 13),frame:=some 14}
def c0:Code:=.body B ev
abbrev an:Option Value:=some (.ref 6)
abbrev z0:Pos:=⟨0,0,0,0⟩
abbrev q0:List Frame:=[topFrame z0]
def sg(a b:Nat):List Stmt:=(B.drop a).take b
def pc(a b:Nat)(x:Pos):Thread:=piecesOf (sg a b) ev c0 x q0
def R(w:World)(o:OsState)(n:Nat)(S:Params→BT)(a k:Nat)(t:Thread)(S':Params→BT)(a' k':Nat)(y:Pos):Prop:=segRunT treeTable p w 11 an 1 n (SS (S w.params) a k o) t=some (.next,SS (S' w.params) a' k' o,c0,y)
variable (w:World)(o:OsState)
def S0(P:Params):BT:=((tn P 15).set 3 λ_=>boot_o_3 P).set 12 λ_=>tb 0
def S1 (P:Params):BT:=(((tn P 42).set 3 λ_=>md P "everywidth.errors" 207 3 12).set 12 λ_=>tb 3).set 38 λ_=>⟨(.type "type"),none,.cls ⟨Str.ofString "WidthError",[(.type "ValueError")],[(.ref 38),(.type "ValueError"),(.type "Exception"),(.type "BaseException"),(.type "object")],37,Str.ofString "WidthError",true,[],[],false,none,false⟩,#[some (.ref 29),none,some (vs "WidthError" 209),some (vs "WidthError" 217),some (.builtin "ValueError.__new__"),some (.bool true)]⟩
def S2 (P:Params):BT:=(((tn P 54).set 3 λ_=>md P "everywidth.errors" 207 4 13).set 12 λ_=>tb 4).set 38 λ_=>⟨(.type "type"),none,.cls ⟨Str.ofString "WidthError",[(.type "ValueError")],[(.ref 38),(.type "ValueError"),(.type "Exception"),(.type "BaseException"),(.type "object")],37,Str.ofString "WidthError",true,[],[(.ref 51)],false,none,false⟩,#[some (.ref 29),none,some (vs "WidthError" 209),some (vs "WidthError" 217),some (.builtin "ValueError.__new__"),some (.bool true)]⟩
def S3 (P:Params):BT:=(((tn P 66).set 3 λ_=>md P "everywidth.errors" 207 5 14).set 12 λ_=>tb 5).set 38 λ_=>⟨(.type "type"),none,.cls ⟨Str.ofString "WidthError",[(.type "ValueError")],[(.ref 38),(.type "ValueError"),(.type "Exception"),(.type "BaseException"),(.type "object")],37,Str.ofString "WidthError",true,[],[(.ref 51),(.ref 63)],false,none,false⟩,#[some (.ref 29),none,some (vs "WidthError" 209),some (vs "WidthError" 217),some (.builtin "ValueError.__new__"),some (.bool true)]⟩
def S4 (P:Params):BT:=(((tn P 78).set 3 λ_=>md P "everywidth.errors" 207 6 15).set 12 λ_=>tb 6).set 38 λ_=>⟨(.type "type"),none,.cls ⟨Str.ofString "WidthError",[(.type "ValueError")],[(.ref 38),(.type "ValueError"),(.type "Exception"),(.type "BaseException"),(.type "object")],37,Str.ofString "WidthError",true,[],[(.ref 51),(.ref 63),(.ref 75)],false,none,false⟩,#[some (.ref 29),none,some (vs "WidthError" 209),some (vs "WidthError" 217),some (.builtin "ValueError.__new__"),some (.bool true)]⟩
def S5 (P:Params):BT:=(((tn P 90).set 3 λ_=>md P "everywidth.errors" 207 7 16).set 12 λ_=>tb 7).set 38 λ_=>⟨(.type "type"),none,.cls ⟨Str.ofString "WidthError",[(.type "ValueError")],[(.ref 38),(.type "ValueError"),(.type "Exception"),(.type "BaseException"),(.type "object")],37,Str.ofString "WidthError",true,[],[(.ref 51),(.ref 63),(.ref 75),(.ref 87)],false,none,false⟩,#[some (.ref 29),none,some (vs "WidthError" 209),some (vs "WidthError" 217),some (.builtin "ValueError.__new__"),some (.bool true)]⟩
def S6 (P:Params):BT:=(((tn P 102).set 3 λ_=>md P "everywidth.errors" 207 8 17).set 12 λ_=>tb 8).set 38 λ_=>⟨(.type "type"),none,.cls ⟨Str.ofString "WidthError",[(.type "ValueError")],[(.ref 38),(.type "ValueError"),(.type "Exception"),(.type "BaseException"),(.type "object")],37,Str.ofString "WidthError",true,[],[(.ref 51),(.ref 63),(.ref 75),(.ref 87),(.ref 99)],false,none,false⟩,#[some (.ref 29),none,some (vs "WidthError" 209),some (vs "WidthError" 217),some (.builtin "ValueError.__new__"),some (.bool true)]⟩
def S7 (P:Params):BT:=(((tn P 114).set 3 λ_=>md P "everywidth.errors" 207 9 18).set 12 λ_=>tb 9).set 38 λ_=>⟨(.type "type"),none,.cls ⟨Str.ofString "WidthError",[(.type "ValueError")],[(.ref 38),(.type "ValueError"),(.type "Exception"),(.type "BaseException"),(.type "object")],37,Str.ofString "WidthError",true,[],[(.ref 51),(.ref 63),(.ref 75),(.ref 87),(.ref 99),(.ref 111)],false,none,false⟩,#[some (.ref 29),none,some (vs "WidthError" 209),some (vs "WidthError" 217),some (.builtin "ValueError.__new__"),some (.bool true)]⟩
def S8 (P:Params):BT:=((tn P 157).set 3 λ_=>md P "everywidth.machines.firsts" 369 14 23).set 12 λ_=>tb 14
def S9 (P:Params):BT:=((tn P 220).set 3 λ_=>md P "everywidth.vocabulary" 483 25 34).set 12 λ_=>tb 25
def S10 (P:Params):BT:=((tn P 230).set 3 λ_=>md P "everywidth.vocabulary" 483 31 40).set 12 λ_=>tb 26
def S11 (P:Params):BT:=((tn P 309).set 3 λ_=>md P "everywidth.machines.columns" 608 44 53).set 12 λ_=>tb 38
def S12 (P:Params):BT:=((tn P 385).set 3 λ_=>md P "law_everywidth_k28_first_words_looked_throug" 746 56 65).set 12 λ_=>tb 50
def S13 (P:Params):BT:=((tn P 467).set 3 λ_=>md P "law_everywidth_k28_first_words_looked_throug" 746 68 77).set 12 λ_=>tb 62
def S14(P:Params):BT:=tn P 488
def H1(P:Params):Heap:=⟨Array.mk (ob P),{}⟩
theorem pre:topGo treeTable p w 11 an 12 ⟨boot_heap w.params,Array.mk [],boot_drawn,boot_toks,o⟩ (topStub p)=some ((SS (S0 w.params) 15 187 o).abs,⟨denote treeTable c0,c0,z0,q0⟩):=by
  rw[Fast.te15667345088766844465,Fast.te14364793385576792824,Fast.te11892475500146522536];kernel_rfl
theorem blk:segRunT treeTable p w 11 an 1 1 (SS (S0 w.params) 15 187 o) (blockOf B ev c0 z0 q0)=some (.next,SS (S0 w.params) 15 187 o,c0,z0):=by
  rw[Fast.te10110043849684766642,Fast.te14364793385576792824];kernel_rfl
theorem g1:R w o 267 S0 15 187 (pc 0 5 z0) S1 42 227 ⟨13,0,14,8⟩:=by
  unfold R;rw[Fast.te10110043849684766642,Fast.te14364793385576792824];kernel_rfl
theorem g2:R w o 214 S1 42 227 (pc 5 1 ⟨13,0,14,8⟩) S2 54 243 ⟨15,0,16,8⟩:=by
  unfold R;rw[Fast.te10110043849684766642,Fast.te14364793385576792824];kernel_rfl
theorem g3:R w o 214 S2 54 243 (pc 6 1 ⟨15,0,16,8⟩) S3 66 259 ⟨17,0,18,8⟩:=by
  unfold R;rw[Fast.te10110043849684766642,Fast.te14364793385576792824];kernel_rfl
theorem g4:R w o 214 S3 66 259 (pc 7 1 ⟨17,0,18,8⟩) S4 78 275 ⟨19,0,20,8⟩:=by
  unfold R;rw[Fast.te10110043849684766642,Fast.te14364793385576792824];kernel_rfl
theorem g5:R w o 214 S4 78 275 (pc 8 1 ⟨19,0,20,8⟩) S5 90 291 ⟨21,0,22,8⟩:=by
  unfold R;rw[Fast.te10110043849684766642,Fast.te14364793385576792824];kernel_rfl
theorem g6:R w o 214 S5 90 291 (pc 9 1 ⟨21,0,22,8⟩) S6 102 307 ⟨23,0,24,8⟩:=by
  unfold R;rw[Fast.te10110043849684766642,Fast.te14364793385576792824];kernel_rfl
theorem g7:R w o 214 S6 102 307 (pc 10 1 ⟨23,0,24,8⟩) S7 114 323 ⟨25,0,26,8⟩:=by
  unfold R;rw[Fast.te10110043849684766642,Fast.te14364793385576792824];kernel_rfl
theorem g8:R w o 389 S7 114 323 (pc 11 7 ⟨25,0,26,8⟩) S8 157 393 ⟨57,0,70,15⟩:=by
  unfold R;rw[Fast.te10110043849684766642,Fast.te14364793385576792824];kernel_rfl
theorem g9:R w o 342 S8 157 393 (pc 18 14 ⟨57,0,70,15⟩) S9 220 485 ⟨137,0,137,8⟩:=by
  unfold R;rw[Fast.te10110043849684766642,Fast.te14364793385576792824];kernel_rfl
theorem g10f:R (w.withFollow "special-get-raises" false) o 378 S9 220 485 (pc 32 6 ⟨137,0,137,8⟩) S10 230 559 ⟨143,0,144,28⟩:=by
  unfold R;rw[Fast.te10110043849684766642,Fast.te14364793385576792824];kernel_rfl
theorem g10t:R (w.withFollow "special-get-raises" true) o 378 S9 220 485 (pc 32 6 ⟨137,0,137,8⟩) S10 230 559 ⟨143,0,144,28⟩:=by
  unfold R;rw[Fast.te10110043849684766642,Fast.te14364793385576792824];kernel_rfl
theorem g10 (w:World):∀o:OsState,R w o 378 S9 220 485 (pc 32 6 ⟨137,0,137,8⟩) S10 230 559 ⟨143,0,144,28⟩:=byRow2 "special-get-raises" (P:=λw=>∀o:OsState,R w o 378 S9 220 485 (pc 32 6 ⟨137,0,137,8⟩) S10 230 559 ⟨143,0,144,28⟩) g10f g10t w
theorem g11:R w o 390 S10 230 559 (pc 38 15 ⟨143,0,144,28⟩) S11 309 667 ⟨198,0,199,47⟩:=by
  unfold R;rw[Fast.te10110043849684766642,Fast.te14364793385576792824];kernel_rfl
theorem g12:R w o 391 S11 309 667 (pc 53 16 ⟨198,0,199,47⟩) S12 385 773 ⟨272,0,278,15⟩:=by
  unfold R;rw[Fast.te10110043849684766642,Fast.te14364793385576792824];kernel_rfl
theorem g13:R w o 396 S12 385 773 (pc 69 12 ⟨272,0,278,15⟩) S13 467 906 ⟨413,0,416,73⟩:=by
  unfold R;rw[Fast.te10110043849684766642,Fast.te14364793385576792824];kernel_rfl
theorem g14:R w o 106 S13 467 906 (pc 81 3 ⟨413,0,416,73⟩) S14 488 945 ⟨431,0,454,15⟩:=by
  unfold R;rw[Fast.te10110043849684766642,Fast.te14364793385576792824];kernel_rfl
theorem fn:topRun treeTable p w 11 an 2 (SS (S14 w.params) 488 945 o).abs ⟨doneF .next,c0,⟨431,0,454,15⟩,q0⟩=some ⟨H1 w.params,Array.mk [],{},945,o⟩:=by
  rw[Fast.te14082659384304107361,Fast.te14364793385576792824];kernel_rfl
theorem sp:B=sg 0 5++(sg 5 1++(sg 6 1++(sg 7 1++(sg 8 1++(sg 9 1++(sg 10 1++(sg 11 7++(sg 18 14++(sg 32 6++(sg 38 15++(sg 53 16++(sg 69 12++(sg 81 3++[]))))))))))))):=by kernel_rfl
theorem bl{w:World}{N:Nat}{s s' r:Shared}{b:List Stmt}{x y:Pos}{n:Nat}(e:B=b)(h:segRun treeTable p w 11 an 1 n s (blockOf B ev c0 x q0)=some (.next,s',c0,y))(k:topRun treeTable p w 11 an N s' (restOf b ev c0 y q0)=some r):topRun treeTable p w 11 an (n+N) s ⟨denote treeTable c0,c0,x,q0⟩=some r:=
  piece_block h (by rw[e];exact k)
theorem rn:topRun treeTable p w 11 an (12+(1+(267+(214+(214+(214+(214+(214+(214+(389+(342+(378+(390+(391+(396+(106+(2))))))))))))))))) ⟨boot_heap w.params,Array.mk [],boot_drawn,boot_toks,o⟩ (topStub p)=some ⟨H1 w.params,Array.mk [],{},945,o⟩:=
  go_top (pre w o) (bl sp (segRun_of (blk w o)) (piece_app (segRun_of (g1 w o)) (piece_app (segRun_of (g2 w o)) (piece_app (segRun_of (g3 w o)) (piece_app (segRun_of (g4 w o)) (piece_app (segRun_of (g5 w o)) (piece_app (segRun_of (g6 w o)) (piece_app (segRun_of (g7 w o)) (piece_app (segRun_of (g8 w o)) (piece_app (segRun_of (g9 w o)) (piece_app (segRun_of (g10 w o)) (piece_app (segRun_of (g11 w o)) (piece_app (segRun_of (g12 w o)) (piece_app (segRun_of (g13 w o)) (piece_app (segRun_of (g14 w o)) (fn w o))))))))))))))))
def rg(l:List Stmt):List (Nat×Nat)→List Stmt
  |[]=>[]
  |x::r=>(l.drop x.1).take x.2++rg l r
def vw:Program:={p with main:={p.main with body:=rg p.main.body [(1,2),(4,8),(13,2),(16,6),(23,2),(26,5),(32,12),(45,1),(47,8),(56,4),(61,1),(63,3),(67,17)]}}
def lo:List Str:=[Str.ofString "SUM_PARTS",Str.ofString "SUMS_IN_CLAIM",Str.ofString "CLAIMS_IN_CLAIM"]
def xt(s:Shared):Bool:=xlAt vw [] s&&recOk PySem.Challenge.rw_everywidth_k28_first_words_looked_throug.row.toRowW.records s
def as:List Addr:=rs.flatMap λx=>List.range' x.1 (x.2-x.1)
theorem sz:((boot_heap w.params).isNs mainGlobals&&(Array.mk []:Array GenState).size == 0,(boot_heap w.params).objs.size,(boot_heap w.params).nsMap mainGlobals "__annotations__")=(true,11,an):=by
  rw[Fast.te8920871248978507458];kernel_rfl
abbrev sh(w:World)(o:OsState):Shared:=⟨H1 w.params,Array.mk [],{},945,o⟩
theorem l1:(staticsOk (importedModules p.main.body) (boot_heap w.params) (H1 w.params)&&namesBound p (H1 w.params)&&gensDone (sh w o)&&laidKept (boot_heap w.params) (H1 w.params))=true:=by
  rw[Fast.te5923862056798008813];kernel_rfl
theorem l2:openSeen vw lo (importedModules p.main.body) xt true (sh w o)=openGood vw lo:=by
  rw[Fast.te4187177175401517315,Fast.te5923862056798008813];kernel_rfl
theorem l3:X.obsZ as (sh w o)=X.valZ K 488 945 w:=by kernel_rfl
theorem left:LeftO p vw lo xt (X.obsZ as) (X.valZ K 488 945) 7984:=
  LeftO.of_pieces (boot_open (by kernel_rfl) (by kernel_rfl) (λ_=>by kernel_rfl)) sz rn (by kernel_rfl) λw=>funext λo=>looks_pair (l1 w o) (looks_pair (l2 w o) (l3 w o))
end Hw
end
set_option Elab.async false
set_option linter.all false
set_option maxRecDepth 100000
noncomputable section
def Qaa:=@PySem.wpAny_bind
def Qab:=@List.length_map
def Qac:=@List.getElem?_eq_getElem
def Qad:=@PySem.Heap.get?_push_of_some
def Qae:=@List.getElem?_eq_some_iff
def Qaf:=@PySem.wpAny_pure
def Qag:=@List.getElem?_map
def Qah:=@List.mem_cons_self
def Qai:=@List.mem_cons_of_mem
def Qaj:=@Nat.le_refl
def Qak:=@PySem.Heap.get?_push_size
def Qal:=@List.getD_eq_getElem?_getD
def Qam:=@List.mem_of_getElem?
def Qan:=@decide_eq_true
def Qao:=@PySem.Heap.lt_size
def Qap:=@PySem.F.plainAttrs_list
def Qaq:=@decide_eq_false
def Qar:=@List.length_append
def Qas:=@List.mem_cons
def Qat:=@List.mem_singleton
def Qau:=@List.mem_map
def Qav:=@List.length_replicate
def Qaw:=@Nat.le_of_lt
def Qax:=@if_neg
def Qay:=@List.map_map
def Qaz:=@PySem.F.slot_list_append
def Qa0:=@PySem.F.type_list_append
def Qa1:=@List.getElem?_append_right
def Qa2:=@if_pos
def Qa3:=@List.length_range
def Qa4:=@Bool.and_eq_true
def Qa5:=@Option.map_eq_some_iff
def Qa6:=@List.map_append
def Qa7:=@Nat.lt_of_lt_of_le
def Qa8:=@Nat.ne_of_lt
def Qa9:=@Nat.le_trans
def Qba:=@List.mem_append_right
def Qbb:=@of_decide_eq_true
def Qbc:=@Bool.false_ne_true
def Qbd:=@PySem.PassesOwn.never
def Qbe:=@List.getElem?_append_left
def Qbf:=@Int.toNat_natCast
def Qbg:=@List.length_take
def Qbh:=@List.getElem_mem
def Qbi:=@List.idxOf_lt_length_of_mem
def Qbj:=@List.length_cons
def Qbk:=@List.not_mem_nil
def Qbl:=@Nat.zero_le
def Qbm:=@PySem.Heap.get?_update_self
def Qbn:=@PySem.wpAny_call_entry
def Qbo:=@List.map_congr_left
def Qbp:=@List.append_nil
def Qbq:=@PySem.wpAny_newObj_type
def Qbr:=@PySem.Obj.data_mapFields
def Qbs:=@List.take_length
def Qbt:=@Int.emod_lt_of_pos
def Qbu:=@List.nodup_cons
def Qbv:=@List.map_cons
def Qbw:=@List.mem_range
def Qbx:=@PySem.Heap.get?_update_other
def Qby:=@Int.ediv_eq_zero_of_lt
def Qbz:=@PySem.wpAny_field
def Qb0:=@PySem.Heap.SameBut.update
def Qb1:=@Array.length_toList
def Qb2:=@List.mem_append
def Qb3:=@Int.emod_nonneg
def Qb4:=@PySem.wpAny_holding
def Qb5:=@List.drop_eq_getElem_cons
def Qb6:=@Int.ediv_one
def Qb7:=@List.append_assoc
def Qb8:=@PySem.wpAny_setField_rec
def Qb9:=@List.mem_map_of_mem
def Qca:=@PySem.Heap.size_push
def Qcb:=@Int.add_mul_emod_self_left
def Qcc:=@List.size_toArray
def Qcd:=@List.eq_nil_of_length_eq_zero
def Qce:=@decide_eq_decide
def Qcf:=@Nat.lt_irrefl
def Qcg:=@PySem.W.kia_one
def Qch:=@Int.natCast_nonneg
def Qci:=@PySem.mem_of_lookup
def Qcj:=@List.nodup_nil
def Qck:=@Int.emod_eq_of_lt
def Qcl:=@PySem.wpAny_seqItems
def Qcm:=@PySem.F.slot_list_pop
def Qcn:=@PySem.F.type_list_pop
def Qco:=@PySem.wpAny_of_eq
def Qcp:=@List.all_eq_true
def Qcq:=@PySem.wpAny_mono
def Qcr:=@PyProof.Rows.callWith_type1
def Qcs:=@PySem.Obj.isFreed_of_fields
def Qct:=@PySem.codeAny_builtin
def Qcu:=@List.take_append_drop
def Qcv:=@List.filter_cons
def Qcw:=@beq_self_eq_true
def Qcx:=@List.reverse_cons
def Qcy:=@PyProof.Rows.slot_tuple_getitem
def Qcz:=@Nat.mod_two_eq_zero_or_one
def Qc0:=@List.mem_append_left
def Qc1:=@List.dropLast_concat
def Qc2:=@PySem.wpAny_Call_Name_kw
def Qc3:=@PySem.Calls.spliced_cons
def Qc4:=@List.all_cons
def Qc5:=@PySem.wpAny_attempt
def Qc6:=@List.length_reverse
def Qc7:=@List.foldl_append
def Qc8:=@Int.emod_add_mul_ediv
def Qc9:=@List.mem_iff_getElem?
def Qda:=@List.length_filter_le
def Qdb:=@PySem.wpAny_setField
def Qdc:=@List.mem_filter
def Qdd:=@Int.ediv_ediv_of_nonneg
def Qde:=@List.getElem?_of_mem
def Qdf:=@Nat.pow_le_pow_right
def Qdg:=@List.lookup_cons
def Qdh:=@PySem.wpAny_isInstance
def Qdi:=@List.any_eq_true
def Qdj:=@Int.pow_zero
def Qdk:=@List.take_of_length_le
def Qdl:=@PySem.wpAny_truthy_bool
def Qdm:=@Array.getElem?_eq_getElem
def Qdn:=@PySem.wpAny_execs_nil
def Qdo:=@List.filter_append
def Qdp:=@decide_eq_true_iff
def Qdq:=@List.eq_of_mem_replicate
def Qdr:=@List.length_drop
def Qds:=@PySem.lookup_relabel_local
def Qdt:=@PySem.wpAny_rule
def Qdu:=@List.nodup_append
def Qdv:=@List.getElem?_range
def Qdw:=@PySem.Calls.callWith_builtin
def Qdx:=@Ne.symm
def Qdy:=@PySem.F.slot_tuple_iterator_next
def Qdz:=@Nat.lt_succ_self
def Qd0:=@beq_iff_eq
def Qd1:=@Nat.lt_of_le_of_lt
def Qd2:=@PySem.plainId_quiet
def Qd3:=@List.getElem?_eq_none
def Qd4:=@PySem.Calls.evalArgs_plain
def Qd5:=@Nat.mul_le_mul_right
def Qd6:=@PySem.wpAny_passesOwn
def Qd7:=@List.of_mem_zip
def Qd8:=@PySem.Calls.spliced_nil
def Qd9:=@Nat.lt_succ_of_lt
def Qea:=@PySem.wpAny_specialOf
def Qeb:=@PySem.wpAny_setState_of
def Qec:=@List.foldl_cons
def Qed:=@Nat.not_lt_zero
def Qee:=@List.ext_getElem?
def Qef:=@Nat.ne_of_gt
def Qeg:=@PySem.codeAny_mono
def Qeh:=@List.filterMap_cons
def Qei:=@PySem.wpAny_setEntries_of
def Qej:=@List.map_take
def Qek:=@List.getElem?_set_self
def Qel:=@List.length_pos_of_mem
def Qem:=@PySem.F.plain_max_loop
def Qen:=@List.find?_eq_none
def Qeo:=@Bool.eq_iff_iff
def Qep:=@Nat.le_succ
def Qeq:=@Option.map_some
def Qer:=@PySem.sizeLine_eq
def Qes:=@PySem.F.slot_enumerate_next
def Qet:=@PySem.F.called_set
def Qeu:=@List.length_nil
def Qev:=@Int.pow_succ
def Qew:=@Int.pow_pos
def Qex:=@PySem.W.mg_of
def Qey:=@PySem.wpAny_pyIter_list
def Qez:=@PySem.Obj.cls_mapFields
def Qe0:=@List.map_drop
def Qe1:=@PySem.F.excBase_ValueError
def Qe2:=@or_false
def Qe3:=@List.drop_length
def Qe4:=@beq_eq_false_iff_ne
def Qe5:=@PySem.wpAny_letGo
def Qe6:=@PySem.F.args_tuple_add_2
def Qe7:=@List.length_erase_of_mem
def Qe8:=@Int.mul_comm
def Qe9:=@Int.ne_of_gt
def Qfa:=@Nat.sub_self
def Qfb:=@PySem.Paired.length
def Qfc:=@List.mem_filterMap
def Qfd:=@PySem.W.callWith_K
def Qfe:=@PySem.F.entry_tuple_add
def Qff:=@List.range_succ
def Qfg:=@PySem.tupleKind_room_in1
def Qfh:=@Bool.false_eq_true
def Qfi:=@PySem.wpAny_updateSeq
def Qfj:=@of_decide_eq_false
def Qfk:=@PySem.F.slot_zip_next
def Qfl:=@List.length_zip
def Qfm:=@List.getElem?_take
def Qfn:=@PySem.F.slot_tuple_add
def Qfo:=@PySem.wpAny_Call_method_late
def Qfp:=@PySem.F.entry_max_loop
def Qfq:=@PySem.W.kitx_none
def Qfr:=@PySem.wpAny_pyIter_slot
def Qfs:=@PySem.isSubtype_stop
def Qft:=@PySem.wpAny_tryCatch
def Qfu:=@List.length_singleton
def Qfv:=@Nat.min_self
def Qfw:=@Int.emod_one
def Qfx:=@Int.add_mul_ediv_left
def Qfy:=@Int.zero_add
def Qfz:=@List.find?_eq_some_iff_getElem
def Qf0:=@PySem.wpAny_execs_cons
def Qf1:=@Nat.le_add_right
def Qf2:=@List.getElem?_set_ne
def Qf3:=@PySem.Around.frames_deeper
def Qf4:=@PySem.F.args_object_init_2
def Qf5:=@PySem.Around.under_plainId
def Qf6:=@PySem.codeAny_call_builtin
def Qf7:=@PySem.wpAny_updateSeq_pair
def Qf8:=@Bool.and_eq_true_iff
def Qf9:=@List.range_eq_range'
def Qga:=@List.mem_erase_of_ne
def Qgb:=@List.mem_of_mem_take
def Qgc:=@List.any_cons
def Qgd:=@PySem.F.args_tuple_iterator_next_1
def Qge:=@PySem.wpAny_onRaise
def Qgf:=@List.map_id''
def Qgg:=@List.dropLast_concat_getLast
def Qgh:=@PySem.wpAny_call
def Qgi:=@PySem.Value.isStrOf_shape
def Qgj:=@PySem.wpAny_mkInt
def Qgk:=@PySem.F.entry_tuple_iterator_next
def Qgl:=@List.reverse_append
def Qgm:=@List.replicate_zero
def Qgn:=@PySem.wpAny_forIn_array'
def Qgo:=@Nat.zero_add
def Qgp:=@Nat.lt_or_ge
def Qgq:=@Bool.and_false
def Qgr:=@PySem.wpAny_newTuple
def Qgs:=@PySem.wpAny_fieldsOf
def Qgt:=@Option.isSome_map
def Qgu:=@Array.toList_push
def Qgv:=@PySem.fits_of_scanBound
def Qgw:=@List.take_add_one
def Qgx:=@bne_self_eq_false
def Qgy:=@PySem.wpAny_setEpoch_of
def Qgz:=@PySem.F.plain_list_iadd
def Qg0:=@Nat.not_lt
def Qg1:=@Nat.lt_trichotomy
def Qg2:=@PySem.wpAny_handled
def Qg3:=@PySem.wpAny_pyHash_int
def Qg4:=@PySem.noFill_tuple_add
def Qg5:=@Nat.le_of_not_lt
def Qg6:=@List.getElem_zip
def Qg7:=@PySem.wpAny_askSetting
def Qg8:=@List.mem_flatMap
def Qg9:=@Nat.le_of_eq
def Qha:=@PySem.wpAny_typeOf
def Qhb:=@PySem.callType_new
def Qhc:=@List.find?_cons
def Qhd:=@List.map_nil
def Qhe:=@List.idxOf_cons
def Qhf:=@Nat.two_pow_pos
def Qhg:=@Nat.succ_mul
def Qhh:=@List.nil_append
def Qhi:=@Int.ofNat_lt
def Qhj:=@Int.natCast_pow
def Qhk:=@PySem.call_meets
def Qhl:=@Nat.mod_lt
def Qhm:=@PySem.seqIndex_of
def Qhn:=@PySem.wpAny_throw
variable {i n:Nat}
variable {a f Ua:PySem.Addr}
variable {N:List PySem.Str}
variable {x:PySem.Str}
variable {e o:PySem.Expr}
variable {r:List Nat}
variable {p B:PySem.Pos}
variable {v:PySem.Value}
variable {K:PySem.W.Frag}
variable {Q:PySem.Value->PySem.Shared->Prop}
variable {h:PySem.Heap}
variable {j:Bool}
variable {s:PySem.Shared}
variable {z:Int}
variable {R:List (List Nat)}
variable {P:PySem.Program}
variable {w:PySem.World}
variable {m:Type}
variable {q:List (PySem.Addr×PySem.Obj)}
variable {C:List PySem.Expr}
variable {G:List PySem.Value}
variable {I:List Int}
variable {J:List PySem.Addr}
variable {M:Array PySem.Value}
variable {Y:PySem.Obj}
section
open PySem
abbrev Aa:=Option Value->Shared->Prop
abbrev Ab:=Value->Shared->Prop
abbrev Ac:=List (Addr×Obj)
abbrev Ad:=List (List Nat)
abbrev Ae:=Str->Option Value
abbrev Af:=PySem.W.Frag
abbrev Ag:=List Value
abbrev Ah:=Array Value
abbrev Ai:=List Str
abbrev Aj:=List Nat
abbrev Ak:=List Int
abbrev Am:=List Bool
abbrev An:=List Expr
abbrev Ao:=FuncData
abbrev Aq:=Program
abbrev Ar:=Around
abbrev As:=Shared
abbrev Au:=World
abbrev Av:=Value
abbrev Aw:=Addr
abbrev Ax:=Expr
abbrev Ay:=Stmt
abbrev A3{q:Type}(p:Program)(w:World):=@wpAny q (model p w)
end
open PySem PySem.Spec PyProof.Rows
namespace L2
def Zgr:0<=sizeLine:=by decide
def Zn2:1<=sizeLine:=by decide
def ya:2<=sizeLine:=by decide
def zln3:3<=sizeLine:=by decide
def zln4:4<=sizeLine:=by decide
def zln5:5<=sizeLine:=by decide
def zln6:6<=sizeLine:=by decide
def zln10:10<=sizeLine:=by decide
def zln11:11<=sizeLine:=by decide
def zln16:16<=sizeLine:=by decide
abbrev Key:=Sum Int Str
def x6:Key->Value->Bool
 |.inl k,v=>Value.isInt k v
 |.inr x,v=>Value.isStrOf x v
def keyH(w:Au):Key->Int
 |.inl k=>hashInt k
 |.inr x=>hashStr w x
theorem Yq:∀{k:Key} {v:Av},x6 k v=true->(∃i t,k=Sum.inl i/\v=Value.int i t)\/(∃x t,k=Sum.inr x/\v=Value.str x t)
 |.inl i,v,h=>by
  obtain⟨t,e⟩:=Value.isInt_shape h;exact .inl ⟨i,t,U,e⟩
 |.inr x,v,h=>by
  obtain⟨t,e⟩:=Qgi h;exact .inr ⟨x,t,U,e⟩
def Zbs(i:Int)(t:Tok):x6 (.inl i) (.int i t)=true:=by simp[x6,Value.isInt]
def Zbt(x:Str)(t:Tok):x6 (.inr x) (.str x t)=true:=by simp[x6,Value.isStrOf]
def key_ll(a b:Int):decide ((Sum.inl a:Key)=Sum.inl b)=(a == b):=by grind
def key_rr(a b:Str):decide ((Sum.inr a:Key)=Sum.inr b)=decide (a=b):=by grind
def key_lr(a:Int)(b:Str):decide ((Sum.inl a:Key)=Sum.inr b)=false:=by grind
def key_rl(a:Str)(b:Int):decide ((Sum.inr a:Key)=Sum.inl b)=false:=by grind
def ZT(prog:Aq)(w:Au):PySem.KeyKind prog w Key where
 is:=x6
 hash:=keyH w
 inj:=λv a b I F=>by
  rcases Yq I with⟨i,t,rfl,rfl⟩|⟨x,t,rfl,rfl⟩
  .rcases Yq F with⟨j,u,rfl,e⟩|⟨y,u,rfl,e⟩
   .injection e with e1 _;rw[e1]
   .exact nomatch e
  .rcases Yq F with⟨j,u,rfl,e⟩|⟨y,u,rfl,e⟩
   .exact nomatch e
   .injection e with e1 _;rw[e1]
 byValue:=λk v h=>by
  rcases Yq h with⟨i,t,rfl,rfl⟩|⟨x,t,rfl,rfl⟩<;>rfl
 pyHash:=λz h=>by
  rcases Yq z with⟨i,t,rfl,rfl⟩|⟨x,t,rfl,rfl⟩
  .exact Qg3 h
  .exact wpAny_pyHash_str h
 eqBool:=λG z h=>by
  rcases Yq G with⟨i,t,rfl,rfl⟩|⟨x,t,rfl,rfl⟩
  .rcases Yq z with⟨j,u,rfl,rfl⟩|⟨y,u,rfl,rfl⟩
   .rw[key_ll]at h;exact wpAny_eqBool_int h
   .rw[key_lr]at h;exact SeqAt.EqAt.int_str i t y u _ _ _ _ h
  .rcases Yq z with⟨j,u,rfl,rfl⟩|⟨y,u,rfl,rfl⟩
   .rw[key_rl]at h;exact SeqAt.EqAt.str_int x t j u _ _ _ _ h
   .rw[key_rr]at h;exact wpAny_eqBool_str h
 «strs»:=λk x t v h=>by
  rcases Yq h with⟨i,u,rfl,e⟩|⟨y,u,rfl,e⟩
  .exact nomatch e
  .injection e with e1 _;subst e1;cases v<;>rfl
def Zab(prog:Aq)(w:Au)(k:Key)(v:Av):(ZT prog w).is k v=x6 k v:=rfl
def wF(prog:Aq)(w:Au)(i:Int)(t:Tok):(ZT prog w).is (.inl i) (.int i t)=true:=Zbs i t
def JO(prog:Aq)(w:Au)(x:Str)(t:Tok):(ZT prog w).is (.inr x) (.str x t)=true:=Zbt x t
inductive V where
 |non|bl (b:Bool)|int (i:Int)|str (x:Str)|byt (b:Array UInt8)|flt (b:UInt64)|ref (a:Aw)|ty (n:String)
 deriving DecidableEq
def RelV:V->Value->Prop
 |.non,u=>u=Value.none
 |.bl b,u=>u=Value.bool b
 |.int i,u=>∃t,u=Value.int i t
 |.str x,u=>∃t,u=Value.str x t
 |.byt b,u=>∃t,u=Value.bytes b t
 |.flt b,u=>∃t,u=Value.float b t
 |.ref a,u=>u=Value.ref a
 |.ty n,u=>u=Value.type n
abbrev Vals:List V->List Av->Prop:=Paired RelV
def Vals.length{xs:List V}{e:Ag}(r:Vals xs e):xs.length=e.length:=Qfb r
theorem Vals.get:∀{xs:List V} {z:Ag} {i:Nat} {x:V},Vals xs z->xs[i]?=some x->∃u,z[i]?=some u/\RelV x u
 |_,_,_,_,.nil,e=>by simp at e
 |_,_,0,_,.cons r _,e=>by grind
 |_,_,i+1,x,.cons _ t,e=>by
  obtain⟨u,h1,h2⟩:=Vals.get t (by simpa using e);exact⟨u,by grind,h2⟩
theorem Vals.set{x:V}{u:Av}(r:RelV x u):∀{xs:List V} {e:Ag} (i:Nat),Vals xs e->Vals (xs.set i x) (e.set i u)
 |_,_,_,.nil=>.nil
 |_,_,0,.cons _ t=>.cons r t
 |_,_,i+1,.cons q t=>.cons q (Vals.set r i t)
theorem Vals.append:∀{xs ys:List V} {e z:Ag},Vals xs e->Vals ys z->Vals (xs++ys) (e++z)
 |_,_,_,_,.nil,s=>s
 |_,_,_,_,.cons r t,s=>.cons r (Vals.append t s)
theorem Vals.take:∀{xs:List V} {e:Ag} (n:Nat),Vals xs e->Vals (xs.take n) (e.take n)
 |_,_,0,_=>.nil
 |_,_,_+1,.nil=>.nil
 |_,_,n+1,.cons r t=>.cons r (Vals.take n t)
theorem Vals.drop:∀{xs:List V} {e:Ag} (n:Nat),Vals xs e->Vals (xs.drop n) (e.drop n)
 |_,_,0,r=>r
 |_,_,_+1,.nil=>.nil
 |_,_,n+1,.cons _ t=>Vals.drop n t
def gL:Option V->Option Av->Prop
 |some v,some u=>RelV v u
 |none,none=>True
 |_,_=>False
def KV:List (m×V)->List (m×Av)->Prop:=Paired λ(p:m×V) (q:m×Av)=>p.1=q.1/\RelV p.2 q.2
def kV:Key->V
 |.inl i=>.int i
 |.inr x=>.str x
inductive HO where
 /-- a list -/
 |lst (xs:List V)
 /-- a tuple (never changes) -/
 |tup (xs:List V)
 /-- a dict whose keys are ints and texts; one whose keys are tuples of ints and texts (the empty one is both) -/
 |dK (kvs:List (Key×V))|dT (kvs:List (List Key×V))
 /-- a set of ints: its members, its size -/
 |set (S:Int->Bool) (n:Nat)
 /-- an instance of the class at C, its dict at dx, its attributes -/
 |ins (C dx:Aw) (fs:List (Str×V))
 /-- the dict of the instance at x -/
 |own (x:Aw)
 /-- the dict of an exception -/
 |xd (fs:List (Str×V))
 /-- a bound method, f of x -/
 |met (f x:Aw)
 /-- a range object lo, lo + 1, .. below hi -/
 |rng (lo hi:Int)
 /-- a thing that is known to the object (the script; a dict while a loop walks it): read, never written while it is so -/
 |frz (o:Obj) (u:HO)
 /-- a code object's table -/
 |tbl (ps:Ah)
 /-- any other thing, by what is true of its one object (a def of one's own: SetO a S n := HO.ext λh => ..) -/
 |ext (φ:Heap->Prop)
abbrev Hp:=Aw->Option HO
def upd(H:Hp)(a:Aw)(o:HO):Hp:=λb=>if b=a then some o else H b
def Za{H:Hp}{o:HO}:upd H a o a=some o:=by unfold upd;rw[Qa2 U]
def Zj{H:Hp}{b:Aw}{o:HO}(h:b≠a):upd H a o b=H b:=by unfold upd;rw[Qax h]
def yb{H:Hp}{o u:HO}:upd (upd H a o) a u=upd H a u:=by
 funext b;unfold upd;split<;>rfl
def YQ{H:Hp}{b:Aw}{o u:HO}(h:H a=some o)(h':H b=some u)(d:o≠u):a≠b:=by grind
def Zm{H:Hp}{b:Aw}{o:HO}(h:H a=some o)(h':H b=none):a≠b:=by grind
def gM (h:Heap) (a:Aw) (xs:Ah):Prop:=∃o,h.get? a=some o/\o.cls=.type "tuple" /\ (∃n,o.data=.seq xs n)/\o.dict=none
def gM.tup{h:Heap}{a:Aw}{xs:Ah}(p:gM h a xs):IsTup h a xs:=let⟨o,e,c,d,_⟩:=p;⟨o,e,c,d⟩
def gM.new (h:Heap) (xs:Ah):gM (h.push {cls:=.type "tuple",data:=.seq xs}) h.objs.size xs:=⟨_,Qak _ U,U,⟨_,U⟩,U⟩
def gM.lt{h:Heap}{a:Aw}{xs:Ah}(p:gM h a xs):a<h.objs.size:=p.tup.lt
section
variable (P:Aq)(w:Au)
def YR(H:Hp)(h:Heap)(a:Aw):HO->Prop
 |.lst xs=>xs.length<=sizeLine/\∃(e:Ag)(n:Nat),Vals xs e/\h.get? a=some {cls:=.type "list",data:=.seq e.toArray n}
 |.tup xs=>xs.length<=sizeLine/\∃e:Ag,Vals xs e/\gM h a e.toArray
 |.dK kvs=>kvs.length<=sizeLine/\(a == sysModules)=false/\∃vs,KV kvs vs/\h.DictOf (ZT P w) a vs
 |.dT kvs=>kvs.length<=sizeLine/\(a == sysModules)=false/\∃xs:List (List Key×Aw×Av),
   Paired (λ(p:List Key×V) (q:List Key×Aw×Av)=>p.1=q.1/\H q.2.1=some (.tup (p.1.map kV))/\RelV p.2 q.2.2) kvs xs /\
   ∃o es ep,h.get? a=some o/\o.ExactDict/\o.data=.dict es ep/\es.toList=xs.map (entryOfKey (tupleKind (ZT P w)))/\(xs.map (·.1)).Nodup
 |.set S n=>h.SetOf (intKind P w) a S n
 |.ins C dx fs=>H dx=some (.own a)/\fs.length<=1000/\dx≠a/\h.get? a=some (PySem.W.instObj C dx) /\
   ∃mA,h.Ns1 dx mA/\(∀f,gL (fs.lookup f) (mA f))/\PySem.Within mA (fs.map (·.1))
 |.own _=>∃o,h.get? a=some o
 |.xd fs=>∃mA,h.Ns1 a mA/\∀f,gL (fs.lookup f) (mA f)
 |.rng lo hi=>∃t u v,h.get? a=some {cls:=.type "range",data:=.fields #[.int lo t,.int hi u,.int 1 v]}
 |.frz o u=>h.get? a=some o/\YR H h a u
 |.tbl ps=>h.get? a=some {cls:=.none,data:=.fields ps}
 |.met f x=>h.get? a=some (PySem.W.methodObj (.ref f) (.ref x))
 |.ext φ=>φ h/\(∃o,h.get? a=some o)/\∀h1 h2:Heap,φ h1->(∀o,h1.get? a=some o->h2.get? a=some o)->φ h2
def HOk(H:Hp)(h:Heap):Prop:=∀a o,H a=some o->YR P w H h a o
end
section
variable {P:Aq}{w:Au}{H H':Hp}{h h':Heap}{a:Aw}{o:HO}
def YR.lt(x:YR P w H h a o):a<h.objs.size:=by
 cases o with
 |lst xs=>obtain⟨_,_,_,_,e⟩:=x;exact Qao e
 |tup xs=>obtain⟨_,_,_,p⟩:=x;exact p.lt
 |dK kvs=>obtain⟨_,_,_,_,o,_,_,e,_⟩:=x;exact Qao e
 |dT kvs=>obtain⟨_,_,_,_,o,_,_,e,_⟩:=x;exact Qao e
 |set S n=>obtain⟨o,_,_,_,e,_⟩:=x;exact Qao e
 |ins C dx fs=>obtain⟨_,_,_,e,_⟩:=x;exact Qao e
 |own y=>obtain⟨_,e⟩:=x;exact Qao e
 |xd fs=>obtain⟨_,⟨_,_,_,e,_⟩,_⟩:=x;exact Qao e
 |rng lo hi=>obtain⟨_,_,_,e⟩:=x;exact Qao e
 |frz ob u=>obtain⟨e,_⟩:=x;exact Qao e
 |tbl ps=>exact Qao (x)
 |met f y=>exact Qao (x)
 |ext φ=>obtain⟨_,⟨_,e⟩,_⟩:=x;exact Qao e
theorem Paired.mapP{α β:Type}{F G:α->β->Prop}:∀{z:List α} {e:List β},Paired F z e->(∀a b,F a b->G a b)->Paired G z e
 |_,_,.nil,_=>.nil
 |_,_,.cons r t,f=>.cons (f _ _ r) (Paired.mapP t f)
theorem YR.stay(x:YR P w H h a o)(k:∀b u,(b=a\/H b=some (.own a))->h.get? b=some u->h'.get? b=some u)
  (J:∀b,H b=some (.own a)->H' b=some (.own a)) (G:∀b xs,H b=some (.tup xs)->H' b=some (.tup xs)):YR P w H' h' a o:=by
 induction o with
 |lst xs=>obtain⟨z,F,n,r,e⟩:=x;exact⟨z,F,n,r,k _ _ (.inl U) e⟩
 |tup xs=>obtain⟨z,F,r,ob,e,c⟩:=x;exact⟨z,F,r,ob,k _ _ (.inl U) e,c⟩
 |dK kvs=>obtain⟨z,y,vs,r,ob,es,ep,e,c⟩:=x;exact⟨z,y,vs,r,ob,es,ep,k _ _ (.inl U) e,c⟩
 |dT kvs=>
  obtain⟨z,y,xs,r,ob,es,ep,e,c⟩:=x;exact⟨z,y,xs,Paired.mapP r λp q z=>⟨z.1,G _ _ z.2.1,z.2.2⟩,ob,es,ep,k _ _ (.inl U) e,c⟩
 |set S n=>obtain⟨ob,es,ep,t,e,c⟩:=x;exact⟨ob,es,ep,t,k _ _ (.inl U) e,c⟩
 |ins C dx fs=>
  obtain⟨d,z,ne,e,mA,⟨od,es,ep,e2,c⟩,r⟩:=x;exact⟨J _ d,z,ne,k _ _ (.inl U) e,mA,⟨od,es,ep,k _ _ (.inr d) e2,c⟩,r⟩
 |own y=>obtain⟨ob,e⟩:=x;exact⟨ob,k _ _ (.inl U) e⟩
 |xd fs=>obtain⟨mA,⟨od,es,ep,e,c⟩,r⟩:=x;exact⟨mA,⟨od,es,ep,k _ _ (.inl U) e,c⟩,r⟩
 |rng lo hi=>obtain⟨t,u,v,e⟩:=x;exact⟨t,u,v,k _ _ (.inl U) e⟩
 |frz ob u I=>obtain⟨e,q⟩:=x;exact⟨k _ _ (.inl U) e,I q⟩
 |tbl ps=>
  have e:=x;exact k a _ (.inl U) e
 |met f y=>
  have e:=x;exact k a _ (.inl U) e
 |ext φ=>obtain⟨p,⟨o,e⟩,st⟩:=x;exact⟨st _ _ p λo q=>k _ _ (.inl U) q,⟨o,k _ _ (.inl U) e⟩,st⟩
def HOk.lt(x:HOk P w H h)(e:H a=some o):a<h.objs.size:=(x a o e).lt
def HOk.fresh(x:HOk P w H h)(e:h.objs.size<=a):H a=none:=by
 cases q:H a with
 |none=>rfl
 |some u=>exact absurd (Qa7 (x.lt q) e) (Qcf _)
theorem HOk.kept(x:HOk P w H h)(k:∀b u,h.get? b=some u->h'.get? b=some u):HOk P w H h':=λa o e=>
 (x a o e).stay (λb u _ q=>k b u q) (λ_ q=>q) λ_ _ q=>q
theorem HOk.laid(x:HOk P w H h)(k:∀b u,h.get? b=some u->h'.get? b=some u)(G:h.objs.size<=a)(new:YR P w (upd H a o) h' a o):HOk P w (upd H a o) h':=λb u e=>by
 have F:=x.fresh G
 by_cases z:b=a
 .subst z;rw[Za]at e;cases e;exact new
 .rw[Zj z]at e;exact(x b u e).stay (λc v _ q=>k c v q) (λc q=>by rw[Zj (Zm q F)];exact q) λc xs q=>by rw[Zj (Zm q F)];exact q
end
def Rd(H:Hp)(a:Aw)(u:HO):Prop:=H a=some u\/∃o,H a=some (.frz o u)
def Rd.ok{H:Hp}{u:HO}(r:Rd H a u)(x:HOk P w H h):YR P w H h a u:=by
 rcases r with r|⟨o,r⟩
 .exact x a u r
 .obtain⟨_,q⟩:=x a _ r;exact q
def Mut:Option HO->Prop
 |some (.lst _)=>True
 |some (.dK _)=>True
 |some (.dT _)=>True
 |some (.set _ _)=>True
 |some (.ins _ _ _)=>True
 |some (.ext _)=>True
 |_=>False
section
variable {P:Aq}{w:Au}{H:Hp}{h h':Heap}{x e:Aw}{o':HO}
def HOk.write(ok:HOk P w H h)(G:Mut (H x))(Y:e=x\/H e=some (.own x))(k:∀b u,b≠e->h.get? b=some u->h'.get? b=some u)(I:∃u,h'.get? e=some u)
  (new:YR P w (upd H x o') h' x o'):HOk P w (upd H x o') h':=λb u q=>by
 have F:∀c y,H c=some (.own y)->c≠x:=λc y r z=>by subst z;rw[r]at G;exact G
 by_cases O:b=x
 .subst O;rw[Za]at q;cases q;exact new
 .rw[Zj O]at q
  by_cases J:b=e
  .have q':H b=some (.own x):=by grind
   rw[q]at q';cases q';obtain⟨v,Z⟩:=I;exact⟨v,by grind⟩
  .refine(ok b u q).stay (λc v Ua r=>k c v ?_ r) (λc r=>by rw[Zj (F c b r)];exact r) λc xs r=>by rw[Zj ((λc xs r z=>by subst z;rw[r]at G;exact G) c xs r)];exact r
   rcases Ua with rfl|Ua
   .exact J
   .grind
end
structure Un(fs ex:List Aw)(H H':Hp)(h h':Heap):Prop where
 keep:∀b o,h.get? b=some o->H b=none->b∉fs->b∉ex->h'.get? b=some o
 slot:∀b o,h.get? b=some o->H b=none->b∈fs->b∉ex->∃sl,h'.get? b=some {o with slots:=sl}
 free:∀b o,h.get? b=some o->H b=none->b∉ex->H' b=none
 there:∀b o,h.get? b=some o->b∉ex->∃o',h'.get? b=some o'
 tups:∀b xs,H b=some (.tup xs)->H' b=some (.tup xs)
 frzs:∀b o u,H b=some (.frz o u)->H' b=some (.frz o u)
 tbls:∀b ps,H b=some (.tbl ps)->∃more,H' b=some (.tbl (ps++more))
section
variable {fs fs' ex ex':List Aw}{H H1 H2:Hp}{h h1 h2 h':Heap}{a x e:Aw}{o:HO}
def Un.any(u:Un fs ex H H1 h h1){b:Aw}(q:h.get? b=some Y)(n:H b=none)(e:b∉ex):∃F,h1.get? b=some {Y with slots:=F}:=by
 by_cases z:b∈fs
 .exact u.slot b Y q n z e
 .exact⟨_,u.keep b Y q n z e⟩
theorem Un.kept(k:∀b u,h.get? b=some u->h'.get? b=some u):Un fs ex H H h h':=
 ⟨λb ob q _ _ _=>k b ob q,λb ob q _ _ _=>⟨_,k b ob q⟩,λ_ _ _ n _=>n,λb ob q _=>⟨ob,k b ob q⟩,λ_ _ q=>q,λ_ _ _ q=>q,λ_ ps q=>⟨#[],by grind⟩⟩
def Un.refl:Un fs ex H H h h:=Un.kept λ_ _ q=>q
theorem Un.laid(k:∀b u,h.get? b=some u->h'.get? b=some u)(z:h.objs.size<=a)(e:H a=none):Un fs ex H (upd H a o) h h' where
 keep:=λb u q _ _ _=>k b u q
 slot:=λb u q _ _ _=>⟨u.slots,k b u q⟩
 free:=λb u q n _=>by rw[Zj (Qa8 (Qa7 (Qao q) z))];exact n
 there:=λb u q _=>⟨u,k b u q⟩
 tups:=λb xs q=>by rw[Zj (Zm q e)];exact q
 frzs:=λb u xs q=>by rw[Zj (Zm q e)];exact q
 tbls:=λb ps q=>⟨#[],by rw[Zj (Zm q e),q];simp⟩
def Un.write(O:Mut (H x))(Y:e=x\/H e=some (.own x))(k:∀b u,b≠e->h.get? b=some u->h'.get? b=some u)(I:∃u,h'.get? e=some u):Un fs ex H (upd H x o) h h':=by
 have Ua:∀b,H b=none->b≠x:=λb n z=>by subst z;rw[n]at O;exact O
 have J:∀b,H b=none->b≠e:=λb n z=>by
  grind
 have G:∀b u,H b=some u->¬Mut (some u)->b≠x:=λb u q nm z=>by grind
 refine⟨λb u q n _ _=>k b u (J b n) q,λb u q n _ _=>⟨u.slots,k b u (J b n) q⟩,λb u q n _=>by rw[Zj (Ua b n)];exact n,λb u q _=>?_,
  λb xs q=>by rw[Zj (G b _ q λz=>z)];exact q,λb u xs q=>by rw[Zj (G b _ q λz=>z)];exact q,λb ps q=>⟨#[],by rw[Zj (G b _ q λz=>z),q];simp⟩⟩
 by_cases F:b=e
 .subst F;exact I
 .exact⟨u,k b u F q⟩
end
def trk(h:Heap)(H:Hp):List Aw:=(List.range h.objs.size).filter λa=>(H a).isSome
def Zgj(h:Heap)(H:Hp):Heap:=PySem.W.hideAll h (trk h H)
theorem Zgs{H:Hp}{b:Aw}{o:Obj}(e:h.get? b=some o)(n:H b=none):(Zgj h H).get? b=some o:=
 PySem.W.hideAll_get _ e λz=>by
  have q:=(Qdc.mp z).2;rw[n]at q;simp at q
def Zkw{H:Hp}{b:Aw}{o:Obj}(e:(Zgj h H).get? b=some o):h.get? b=some o/\H b=none:=by
 have F:=PySem.W.of_hideAll _ e;refine⟨F,?_⟩;cases q:H b with
 |none=>rfl
 |some x=>
  have z:(Zgj h H).get? b=none:=PySem.W.hideAll_none _ (Qdc.mpr ⟨Qbw.mpr (Qao F),by simp[q]⟩);rw[z]at e;cases e
structure Mod(K:Af)(mg:Ae)(base:Heap):Prop where
 kin:K.In base
 glob:base.Ns mainGlobals mg
 blt:∃mb,base.Ns builtinsNs mb/\∀x:Str,x ≠ "__name__" ->mb x=bootBuiltins x
 nolimit:base.NoLimit
set_option genInjectivity false in
set_option genSizeOfSpec false in
structure Cx where
 prog:Aq
 w:Au
 K:Af
 mg:Ae
 base:Heap
 A:Ar
 N:Ai
 s₀:As
 H₀:Hp
 env:Env
 outer:List Env
 stack:List Env
 ex:List Aw
 fn:Str->Bool
 calm:Bool
 pn:Ac
 xe:Ab
abbrev A4{q:Type}(X:Cx):=@wpAny q (model X.prog X.w) X.A
def frs(l:List Env):List Aw:=l.filterMap (·.frame)
abbrev Cx.fs(X:Cx):List Aw:=frs X.outer
def Vis(e:Scope)(x:Str):Prop:=e.names.lookup x=some .local\/e.names.lookup x=some .cell\/e.names.lookup x=some .free
def Loc(e:Scope)(x:Str):Prop:=e.names.lookup x=some .local\/e.names.lookup x=some .cell
def Look(env:Env)(h:Heap)(m:Ae)(x:Str)(u:Av):Prop:=
 (env.kindOf x=some .local/\m x=some u)\/((env.kindOf x=some .cell\/env.kindOf x=some .free)/\∃c,env.cells.lookup x=some c/\h.IsCell c (some u))
set_option genInjectivity false in
set_option genSizeOfSpec false in
structure Cx.Ok(X:Cx):Prop where
 mod:Mod X.K X.mg X.base
 kind:X.env.scope.kind=.function
 glob:X.env.globals=mainGlobals
 blt:X.env.builtins=builtinsNs
 above:X.s₀.heap.objs.size<=X.env.locals
 inj:∀x y c,X.env.cells.lookup x=some c->X.env.cells.lookup y=some c->x=y
 has:∀x,(X.env.kindOf x=some .cell\/X.env.kindOf x=some .free)->∃c,X.env.cells.lookup x=some c
 cab:∀x c,X.fn x=true->X.env.cells.lookup x=some c->X.s₀.heap.objs.size<=c
 hd:X.calm=true->X.A.handled=none
 frames:X.A.frames=some X.stack
 stk:X.stack=X.outer\/(X.stack=X.env::X.outer/\X.env.frame=some X.env.locals)
 exf:∀b∈X.ex,b≠X.env.locals/\∀x c,X.env.cells.lookup x=some c->c≠b
 bs:∀b o,X.base.get? b=some o->X.s₀.heap.get? b=some o/\X.H₀ b=none
 bsz:X.base.objs.size<=X.s₀.heap.objs.size
 noex:∀b o,X.base.get? b=some o->b∉X.ex
 exfs:∀b∈X.ex,b∉X.fs
 funs:X.s₀.heap.FunFrames X.base X.outer
 frf:∀b∈X.fs,X.H₀ b=none
structure Inv(X:Cx)(pins:Ac)(σ:List (Option V))(H:Hp)(s:As):Prop where
 ok:X.Ok
 os:s.os=X.s₀.os
 bare:AllBare s.gens
 base:Un X.fs X.ex X.H₀ H X.s₀.heap s.heap
 loc:∃m,s.heap.Ns X.env.locals m/\∀(i:Nat)(x:Str)(v:V),X.N[i]?=some x->σ[i]?=some (some v)->Vis X.env.scope x->∃u,RelV v u/\Look X.env s.heap m x u
 cell:∀x c,X.env.cells.lookup x=some c->∃v,s.heap.IsCell c v
 free:H X.env.locals=none
 freeC:∀x c,X.env.cells.lookup x=some c->H c=none
 pin:∀p∈X.pn++pins,s.heap.get? p.1=some p.2/\H p.1=none/\p.1≠X.env.locals/\p.1∉X.fs/\∀v,p.2.data≠.cell v
 hok:HOk X.prog X.w H s.heap
 len:σ.length=X.N.length
section
variable {X:Cx}{pins:Ac}{σ:List (Option V)}{H H':Hp}{s:As}{h':Heap}
theorem Cx.Ok.nofr(ok:X.Ok){b:Aw}{o:Obj}(e:X.base.get? b=some o):b∉X.fs:=λz=>by
 have:=(ok.funs.mem z).1;rw[e]at this;cases this
theorem Inv.bs(I:Inv X pins σ H s):∀b o,X.base.get? b=some o->s.heap.get? b=some o/\H b=none:=λb o e=>
 ⟨I.base.keep b o (I.ok.bs b o e).1 (I.ok.bs b o e).2 (I.ok.nofr e) (I.ok.noex b o e),I.base.free b o (I.ok.bs b o e).1 (I.ok.bs b o e).2 (I.ok.noex b o e)⟩
def Inv.bk(I:Inv X pins σ H s):∀b o,X.base.get? b=some o->s.heap.get? b=some o:=λb o e=>(I.bs b o e).1
def Inv.mod(I:Inv X pins σ H s):Mod X.K X.mg X.base:=I.ok.mod
def Inv.kIn(I:Inv X pins σ H s):X.K.In s.heap:=I.ok.mod.kin.keeps I.bk
def Inv.lt(I:Inv X pins σ H s):X.env.locals<s.heap.objs.size:=let⟨_,hn,_⟩:=I.loc;hn.lt
def Inv.sz(I:Inv X pins σ H s):X.s₀.heap.objs.size<=s.heap.objs.size:=Qa9 I.ok.above (Qaw I.lt)
theorem Inv.nofs(I:Inv X pins σ H s)(h:s.heap.objs.size<=a):a∉X.fs:=λz=>by
 obtain⟨_,o,e,_⟩:=I.ok.funs.mem z;exact absurd (Qa7 (Qao e) (Qa9 I.sz h)) (Qcf _)
theorem Inv.cne(I:Inv X pins σ H s):∀x c,X.env.cells.lookup x=some c->c≠X.env.locals:=λx c e z=>by
 obtain⟨v,o,J,O⟩:=I.cell x c e;obtain⟨m,⟨o',es,ep,G,F,_⟩,_⟩:=I.loc;rw[z,G]at J;cases J;rw[F]at O;cases O
theorem Inv.funs(I:Inv X pins σ H s):s.heap.FunFrames X.base X.outer:=by
 have all:∀(l:List Env),(∀b∈frs l,b∈X.fs)->X.s₀.heap.FunFrames X.base l->s.heap.FunFrames X.base l:=by
  intro l
  induction l with
  |nil=>intro _ _;trivial
  |cons env r ih=>
   intro O Z;obtain⟨hk,⟨L,o,J,hn,Ua,Y⟩,hr⟩:=Z;have G:=O L (by unfold frs;rw[Qeh,J];exact Qah);obtain⟨sl,e⟩:=I.base.slot L o Ua (I.ok.frf L G) G λz=>I.ok.exfs L z G;exact⟨hk,⟨L,_,J,hn,e,Y⟩,ih (λb F=>O b (by unfold frs;rw[Qeh,J];exact Qai _ F)) hr⟩
 exact all X.outer (λ_ F=>F) I.ok.funs
def Inv.stack(I:Inv X pins σ H s):s.heap.FunFrames X.base X.stack:=by
 rcases I.ok.stk with e|⟨e,F⟩
 .rw[e];exact I.funs
 .rw[e];obtain⟨m,z,_⟩:=I.loc;refine .cons (by rw[I.ok.kind];decide) F z (Heap.get?_none_of_le (Qa9 I.ok.bsz I.ok.above)) I.funs
theorem Inv.stkSub(I:Inv X pins σ H s):∀b∈frs X.stack,b∈X.env.locals::X.fs:=λb z=>by
 rcases I.ok.stk with e|⟨e,F⟩
 .grind
 .rw[e]at z;unfold frs at z;rw[Qeh,F]at z;exact z
theorem Inv.stkFree(I:Inv X pins σ H s):∀b∈frs X.stack,H b=none:=λb F=>by
 rcases Qas.mp (I.stkSub b F)with e|F
 .rw[e];exact I.free
 .obtain⟨_,o,G,_⟩:=I.ok.funs.mem F;exact I.base.free b o G (I.ok.frf b F) λz=>I.ok.exfs b z F
def Inv.step{g':Array GenState}{t':Nat}{d':Drawn}{ch:List Aw}(I:Inv X pins σ H s)
  (J:∀b∈ch,(b∈X.ex\/X.s₀.heap.objs.size<=b)/\b≠X.env.locals/\(∀x c,X.env.cells.lookup x=some c->c≠b)/\∀p∈X.pn++pins,p.1≠b)
  (keep:∀b o,b≠X.env.locals->b∉X.fs->b∉ch->s.heap.get? b=some o->H b=none->h'.get? b=some o)
  (Y:∀b o,b≠X.env.locals->b∈X.fs->b∉ch->s.heap.get? b=some o->H b=none->∃sl,h'.get? b=some {o with slots:=sl}) (free:∀b o,b∉ch->s.heap.get? b=some o->H b=none->H' b=none)
  (there:∀b o,b∉ch->s.heap.get? b=some o->∃o',h'.get? b=some o')
  (tups:∀b xs,H b=some (.tup xs)->H' b=some (.tup xs)) (frzs:∀b o u,H b=some (.frz o u)->H' b=some (.frz o u)) (tbls:∀b ps,H b=some (.tbl ps)->∃more,H' b=some (.tbl (ps++more)))
  (ns:∀m,s.heap.Ns X.env.locals m->h'.Ns X.env.locals m) (hok:HOk X.prog X.w H' h') (hg:AllBare g'):
  Inv X pins σ H' {s with heap:=h',gens:=g',drawn:=d',toks:=t'}:=by
 have neL:∀b o,X.s₀.heap.get? b=some o->b≠X.env.locals:=λb o e=>Qa8 (Qa7 (Qao e) I.ok.above);have Ua:∀b o,X.s₀.heap.get? b=some o->b∉X.ex->b∉ch:=λb o e F Z=>by
  rcases(J b Z).1 with z|z
  .exact F z
  .exact absurd (Qa7 (Qao e) z) (Qcf _)
 have G:∀x c,X.env.cells.lookup x=some c->∀v,s.heap.IsCell c v->h'.IsCell c v:=λx c e v ⟨o,ho,hd⟩=>by
  have O:=λz=>(J c z).2.2.1 x c e U
  by_cases hc:c∈X.fs
  .obtain⟨sl,q⟩:=Y c o (I.cne x c e) hc O ho (I.freeC x c e);exact⟨_,q,hd⟩
  .exact⟨o,keep c o (I.cne x c e) hc O ho (I.freeC x c e),hd⟩
 refine⟨I.ok,I.os,hg,⟨λb o e n Z F=>(keep b o (neL b o e) Z (Ua b o e F) (I.base.keep b o e n Z F) (I.base.free b o e n F)),λb o e n Z F=>?_,λb o e n F=>?_,λb o e F=>?_,λb xs e=>tups b xs (I.base.tups b xs e),λb o xs e=>frzs b o xs (I.base.frzs b o xs e),λb ps e=>?_⟩,?_,λx c e=>?_,?_,λx c e=>?_,λp hp=>?_,hok,I.len⟩
 .obtain⟨sl,e1⟩:=I.base.slot b o e n Z F;obtain⟨sl',e2⟩:=Y b _ (neL b o e) Z (Ua b o e F) e1 (I.base.free b o e n F);exact⟨sl',e2⟩
 .obtain⟨o',e1⟩:=I.base.there b o e F;exact free b o' (Ua b o e F) e1 (I.base.free b o e n F)
 .obtain⟨o',e1⟩:=I.base.there b o e F;exact there b o' (Ua b o e F) e1
 .obtain⟨m1,e1⟩:=I.base.tbls b ps e;obtain⟨m2,e2⟩:=tbls b _ e1;exact⟨m1++m2,by grind⟩
 .obtain⟨m,hn,hl⟩:=I.loc;refine⟨m,ns m hn,λi x v e1 e2 e3=>?_⟩;obtain⟨u,r,l⟩:=hl i x v e1 e2 e3;refine⟨u,r,?_⟩;rcases l with l|⟨k,c,e,z⟩
  .exact .inl l
  .exact .inr ⟨k,c,e,G x c e _ z⟩
 .obtain⟨v,z⟩:=I.cell x c e;exact⟨v,G x c e v z⟩
 .obtain⟨m,⟨o,_,_,ho,_⟩,_⟩:=I.loc;exact free _ o (λz=>(J _ z).2.1 rfl) ho I.free
 .obtain⟨v,o,ho,hd⟩:=I.cell x c e;exact free c o (λz=>(J c z).2.2.1 x c e U) ho (I.freeC x c e)
 .obtain⟨e,n,ne,nf,d⟩:=I.pin p hp;have O:=λz=>(J p.1 z).2.2.2 p hp rfl;exact⟨keep p.1 p.2 ne nf O e n,free p.1 p.2 O e n,ne,nf,d⟩
def Inv.un{t':Nat}(I:Inv X pins σ H s)(u:Un X.fs [] H H' s.heap h')(J:HOk X.prog X.w H' h'):Inv X pins σ H' {s with heap:=h',toks:=t'}:=by
 obtain⟨m,⟨o,es,ep,Y,r⟩,_⟩:=id I.loc;obtain⟨sl,hL⟩:=u.any Y I.free (by simp);exact I.step (ch:=[]) (λ_ z=>nomatch z) (λb o _ G _ e n=>u.keep b o e n G (by simp)) (λb o _ G _ e n=>u.slot b o e n G (by simp)) (λb o _ e n=>u.free b o e n (by simp)) (λb o _ e=>u.there b o e (by simp)) u.tups u.frzs u.tbls (λm' hm=>by
  obtain⟨o',O,Ua,F,Z⟩:=hm;rw[Y]at F;cases F;exact⟨_,O,Ua,hL,Z⟩) J I.bare
def Inv.call{g':Array GenState}{t':Nat}{d':Drawn}{ch:List Aw}(I:Inv X pins σ H s)(u:Un (frs X.stack) ch H H' s.heap h')(O:HOk X.prog X.w H' h')(hg:AllBare g')
  (G:∀b∈ch,(b∈X.ex\/X.s₀.heap.objs.size<=b)/\b≠X.env.locals/\(∀x c,X.env.cells.lookup x=some c->c≠b)/\∀p∈X.pn++pins,p.1≠b):
  Inv X pins σ H' {s with heap:=h',gens:=g',drawn:=d',toks:=t'}:=by
 obtain⟨m,⟨o,es,ep,ho,r⟩,_⟩:=id I.loc;obtain⟨sl,Ua⟩:=u.any ho I.free λz=>(G _ z).2.1 rfl;exact I.step G (λb o Ua hb F e n=>u.keep b o e n (λz=>(Qas.mp (I.stkSub b z)).elim Ua hb) F) (λb o _ _ F e n=>u.any e n F) (λb o F e n=>u.free b o e n F) (λb o F e=>u.there b o e F) u.tups u.frzs u.tbls (λm' hm=>by
  obtain⟨o',Y,Z,J,r'⟩:=hm;rw[ho]at J;cases J;exact⟨_,Y,Z,Ua,r'⟩) O hg
def Inv.turned{t':Nat}{it:Aw}(I:Inv X pins σ H s)(k:∀b o,b≠it->s.heap.get? b=some o->h'.get? b=some o)(hn:H it=none)(O:it≠X.env.locals)
  (h1:it∈X.ex\/X.s₀.heap.objs.size<=it) (h2:∀x c,X.env.cells.lookup x=some c->c≠it) (Z:∀p∈X.pn++pins,p.1≠it):Inv X pins σ H {s with heap:=h',toks:=t'}:=by
 have G:∀b u,H b=some u->b≠it:=λb u e z=>by grind
 refine I.step (ch:=[it]) (λb Y=>?_) (λb o _ _ F e _=>k b o (λz=>F (by simp[z])) e) (λb o _ _ F e _=>⟨o.slots,k b o (λz=>F (by simp[z])) e⟩) (λ_ _ _ _ n=>n)
  (λb o F e=>⟨o,k b o (λz=>F (by simp[z])) e⟩) (λ_ _ e=>e) (λ_ _ _ e=>e) (λb ps e=>⟨#[],by grind⟩) (λm Ua=>?_) (λb u e=>?_) I.bare
 .grind
 .obtain⟨o,es,ep,J,r⟩:=Ua;exact⟨o,es,ep,k _ o (Qdx O) J,r⟩
 .refine(I.hok b u e).stay (λc v F q=>k c v ?_ q) (λ_ q=>q) λ_ _ q=>q
  rcases F with z|z
  .rw[z];exact G b u e
  .exact G c _ z
def Inv.tok(I:Inv X pins σ H s)(t:Nat):Inv X pins σ H {s with toks:=t}:=I.un Un.refl I.hok
def Inv.kept{t':Nat}(I:Inv X pins σ H s)(k:∀b u,s.heap.get? b=some u->h'.get? b=some u):Inv X pins σ H {s with heap:=h',toks:=t'}:=I.un (Un.kept k) (I.hok.kept k)
theorem Inv.laid{a:Aw}{o:HO}{t':Nat}(I:Inv X pins σ H s)(k:∀b u,s.heap.get? b=some u->h'.get? b=some u)(e:s.heap.objs.size<=a)(new:YR X.prog X.w (upd H a o) h' a o):
  Inv X pins σ (upd H a o) {s with heap:=h',toks:=t'}:=I.un (Un.laid k e (I.hok.fresh e)) (I.hok.laid k e new)
theorem Inv.write{x e:Aw}{o:HO}{t':Nat}(I:Inv X pins σ H s)(F:Mut (H x))(G:e=x\/H e=some (.own x))(k:∀b u,b≠e->s.heap.get? b=some u->h'.get? b=some u)(z:∃u,h'.get? e=some u)
  (new:YR X.prog X.w (upd H x o) h' x o):Inv X pins σ (upd H x o) {s with heap:=h',toks:=t'}:=I.un (Un.write F G k z) (I.hok.write F G k z new)
theorem Inv.pins_of(I:Inv X pins σ H s)(h:∀p∈q,s.heap.get? p.1=some p.2/\H p.1=none/\p.1≠X.env.locals/\p.1∉X.fs/\∀v,p.2.data≠.cell v):Inv X q σ H s:=
 ⟨I.ok,I.os,I.bare,I.base,I.loc,I.cell,I.free,I.freeC,λp e=>(Qb2.mp e).elim (λz=>I.pin p (Qc0 _ z)) (h p),I.hok,I.len⟩
def yc(e:N.Nodup){j:Nat}(a:N[i]?=some x)(b:N[j]?=some x):i=j:=by
 obtain⟨h1,e1⟩:=Qae.mp a;obtain⟨h2,e2⟩:=Qae.mp b;exact(List.getElem_inj e).mp (e1.trans e2.symm)
theorem Zbu{M:Model}{A:Ar}{E:Ab}{v:V}{u:Av}{Q:Unit->Shared->Prop}(I:Inv X pins σ H s)(hN:X.N.Nodup)(hi:X.N[i]?=some x)(O:Loc X.env.scope x)(r:RelV v u)
  (h:∀s',Inv X pins (σ.set i (some v)) H s'->(∃a,Heap.SameBut a s.heap s'.heap/\(a=X.env.locals\/X.env.cells.lookup x=some a))->Q () s') (hf:X.fn x=true\/X.env.scope.names.lookup x=some .local:=by first|exact .inl U|exact .inr U|assumption):wpAny M A (storeName X.env x u) Q E s:=by
 obtain⟨m,hn,hl⟩:=id I.loc;have Y:i<σ.length:=by rw[I.len];exact(Qae.mp hi).1
 have cne:=I.cne;have G:∀{a:Aw} {h':Heap},(∃o,s.heap.get? a=some o/\H a=none)->Heap.SameBut a s.heap h'->HOk X.prog X.w H h':=λ{a h'} ha F b ob e=>by
  obtain⟨_,_,Ua⟩:=ha;refine(I.hok b ob e).stay (λc w' J q=>(F.2 c ?_).trans q) (λ_ q=>q) λ_ _ q=>q;rintro rfl;rcases J with rfl|J
  .rw[Ua]at e;cases e
  .rw[Ua]at J;cases J
 rcases O with Z|Z
 .refine wpAny_storeName_local Z hn (λh' hn' F=>?_) (by rw[I.ok.kind];rfl);obtain⟨oL,_,_,hoL,_⟩:=id hn;refine h _ ⟨I.ok,I.os,I.bare,⟨λb o e n hb O=>?_,λb o e n hb O=>?_,I.base.free,λb o e O=>?_,I.base.tups,I.base.frzs,I.base.tbls⟩,⟨_,hn',λj y v' e1 e2 e3=>?_⟩,λy c e=>?_,I.free,I.freeC,λp hp=>?_,G ⟨oL,hoL,I.free⟩ F,by simpa using I.len⟩ ⟨_,F,.inl U⟩
  .exact(F.2 b (Qa8 (Qa7 (Qao e) I.ok.above))).trans (I.base.keep b o e n hb O)
  .obtain⟨sl,e1⟩:=I.base.slot b o e n hb O;exact⟨sl,(F.2 b (Qa8 (Qa7 (Qao e) I.ok.above))).trans e1⟩
  .obtain⟨o',e1⟩:=I.base.there b o e O;exact⟨o',(F.2 b (Qa8 (Qa7 (Qao e) I.ok.above))).trans e1⟩
  .by_cases hj:j=i
   .subst hj;rw[hi]at e1;cases e1;rw[Qek Y]at e2;cases e2;exact⟨u,r,.inl ⟨Z,by simp⟩⟩
   .rw[Qf2 (Qdx hj)]at e2;obtain⟨u',r',q⟩:=hl j y v' e1 e2 e3;refine⟨u',r',?_⟩;rcases q with⟨k,e⟩|⟨k,c,e,z⟩
    .refine .inl ⟨k,?_⟩;have:y≠x:=λe=>hj (yc hN e1 (e ▸ hi));simp[this,e]
    .exact .inr ⟨k,c,e,z.sameBut F (cne y c e)⟩
  .obtain⟨w',z⟩:=I.cell y c e;exact⟨w',z.sameBut F (cne y c e)⟩
  .obtain⟨e,n,ne,nf,d⟩:=I.pin p hp;exact⟨(F.2 p.1 ne).trans e,n,ne,nf,d⟩
 .have hfn:X.fn x=true:=by
   rcases hf with z|z
   .exact z
   .rw[z]at Z;cases Z
  obtain⟨c,J⟩:=I.ok.has x (.inl Z);obtain⟨w',z⟩:=I.cell x c J;refine wpAny_storeName_cell I.ok.kind Z J z (λh' hc' F=>?_);obtain⟨oc,hoc,hocd⟩:=id z;refine h _ ⟨I.ok,I.os,I.bare,⟨λb o e n hb O=>?_,λb o e n hb O=>?_,I.base.free,λb o e O=>?_,I.base.tups,I.base.frzs,I.base.tbls⟩,⟨m,hn.sameBut F (Qdx (cne x c J)),λj y v' e1 e2 e3=>?_⟩,λy c' e=>?_,I.free,I.freeC,λp hp=>?_,G ⟨oc,hoc,I.freeC x c J⟩ F,by simpa using I.len⟩ ⟨c,F,.inr J⟩
  .exact(F.2 b (Qa8 (Qa7 (Qao e) (I.ok.cab x c hfn J)))).trans (I.base.keep b o e n hb O)
  .obtain⟨sl,e1⟩:=I.base.slot b o e n hb O;exact⟨sl,(F.2 b (Qa8 (Qa7 (Qao e) (I.ok.cab x c hfn J)))).trans e1⟩
  .obtain⟨o',e1⟩:=I.base.there b o e O;exact⟨o',(F.2 b (Qa8 (Qa7 (Qao e) (I.ok.cab x c hfn J)))).trans e1⟩
  .by_cases hj:j=i
   .subst hj;rw[hi]at e1;cases e1;rw[Qek Y]at e2;cases e2;exact⟨u,r,.inr ⟨.inl Z,c,J,hc'⟩⟩
   .rw[Qf2 (Qdx hj)]at e2;obtain⟨u',r',q⟩:=hl j y v' e1 e2 e3;refine⟨u',r',?_⟩;rcases q with q|⟨k,c',e,z'⟩
    .exact .inl q
    .refine .inr ⟨k,c',e,z'.sameBut F ?_⟩;rintro rfl;exact hj (yc hN e1 (I.ok.inj _ _ _ e J ▸ hi))
  .by_cases hcc:c'=c
   .subst hcc;exact⟨_,hc'⟩
   .obtain⟨w2,z2⟩:=I.cell y c' e;exact⟨w2,z2.sameBut F hcc⟩
  .obtain⟨e,n,ne,nf,d⟩:=I.pin p hp;refine⟨(F.2 p.1 ?_).trans e,n,ne,nf,d⟩;intro q;rw[q,hoc]at e;exact d w' (by rw[<-Option.some.inj e];exact hocd)
theorem X9{M:Model}{A:Ar}{E:Ab}{v:V}{u:Av}{Q:Unit->Shared->Prop}(I:Inv X pins σ H s)(G:X.N.Nodup)(hi:X.N[i]?=some x)(F:Loc X.env.scope x)(r:RelV v u)
  (h:∀s',Inv X pins (σ.set i (some v)) H s'->Q () s') (e:X.fn x=true\/X.env.scope.names.lookup x=some .local:=by first|exact .inl U|exact .inr U|assumption):wpAny M A (storeName X.env x u) Q E s:=
 Zbu I G hi F r (λs' z _=>h s' z) e
def Inv.call'{s':As}{ch:List Aw}(I:Inv X pins σ H s)(F:s'.os=s.os)(u:Un (frs X.stack) ch H H' s.heap s'.heap)(e:HOk X.prog X.w H' s'.heap)(G:AllBare s'.gens)
  (z:∀b∈ch,(b∈X.ex\/X.s₀.heap.objs.size<=b)/\b≠X.env.locals/\(∀x c,X.env.cells.lookup x=some c->c≠b)/\∀p∈X.pn++pins,p.1≠b):Inv X pins σ H' s':=by
 obtain⟨h',g',d',t',o'⟩:=s';subst F;exact I.call u e G z
end
abbrev XK:=Av->Option Aw->Hp->Prop
abbrev St:=List (Option V)
abbrev Az:=List (List V)
abbrev A0:=List (Key×V)
abbrev A1:=St->Hp->Prop
abbrev A2:=List V
abbrev VK:=V->Hp->Prop
abbrev TE:=St->Hp->VK->Prop
abbrev TT:=St->Hp->(Bool->Hp->Prop)->Prop
abbrev TA:=St->Hp->(A2->Hp->Prop)->Prop
structure Ends where
 nx:A1
 rt:VK
 bk:A1:=λ_ _=>False
 ct:A1:=λ_ _=>False
abbrev TS:=Ends->St->Hp->Prop
inductive EP_i(X:Cx)(pins:Ac)(σ:St)(Q:VK)(u:Av)(s':As):Prop
 |mk (v H':_):(Inv X pins σ H' s')->(RelV v u)->(Q v H')->EP_i X pins σ Q u s'
def EP(X:Cx)(pins:Ac)(σ:St)(Q:VK)(u:Av)(s':As):Prop:=EP_i X pins σ Q u s'
inductive TP_i(X:Cx)(pins:Ac)(σ:St)(Q:Bool->Hp->Prop)(b:Bool)(s':As):Prop
 |mk (H':_):(Inv X pins σ H' s')->(Q b H')->TP_i X pins σ Q b s'
def TP(X:Cx)(pins:Ac)(σ:St)(Q:Bool->Hp->Prop)(b:Bool)(s':As):Prop:=TP_i X pins σ Q b s'
inductive AP_i(X:Cx)(pins:Ac)(σ:St)(Q:A2->Hp->Prop)(us:Ag)(s':As):Prop
 |mk (vs H':_):(Inv X pins σ H' s')->(Vals vs us)->(Q vs H')->AP_i X pins σ Q us s'
def AP(X:Cx)(pins:Ac)(σ:St)(Q:A2->Hp->Prop)(e:Ag)(s':As):Prop:=AP_i X pins σ Q e s'
def SP(X:Cx)(pins:Ac)(D:Ends)(f:Flow)(s':As):Prop:=
 match f with
 |.next=>∃e H',Inv X pins e H' s'/\D.nx e H'
 |.brk=>∃e H',Inv X pins e H' s'/\D.bk e H'
 |.cont=>∃e H',Inv X pins e H' s'/\D.ct e H'
 |.ret u=>∃v e H',Inv X pins e H' s'/\RelV v u/\D.rt v H'
def PE(X:Cx)(e:Ax)(t:TE):Prop:=
 ∀(pins:Ac)(s:As)(σ:St)(H:Hp)(Q:VK),Inv X pins σ H s->t σ H Q->A4 X (eval e X.env) (EP X pins σ Q) X.xe s
def PT(X:Cx)(e:Ax)(t:TT):Prop:=
 ∀(pins:Ac)(s:As)(σ:St)(H:Hp)(Q:Bool->Hp->Prop),Inv X pins σ H s->t σ H Q->A4 X (isTrue e X.env (eval e X.env)) (TP X pins σ Q) X.xe s
def PW(X:Cx)(e:Ax)(t:TT):Prop:=
 ∀(z:Sem Av)(pins:Ac)(s:As)(σ:St)(H:Hp)(Q:Bool->Hp->Prop),Inv X pins σ H s->t σ H Q->A4 X (isTrue e X.env z) (TP X pins σ Q) X.xe s
def PW.pt{X:Cx}{t:TT}(h:PW X e t):PT X e t:=h _
def PA(X:Cx)(es:An)(t:TA):Prop:=
 ∀(pos:Pos)(pins:Ac)(s:As)(σ:St)(H:Hp)(Q:A2->Hp->Prop),Inv X pins σ H s->t σ H Q->A4 X (spliced (backTo pos (starEach es X.env))) (AP X pins σ Q) X.xe s
def PS(X:Cx)(st:Ay)(t:TS):Prop:=
 ∀(pins:Ac)(s:As)(σ:St)(H:Hp)(D:Ends),Inv X pins σ H s->t D σ H->A4 X (exec st X.env) (SP X pins D) X.xe s
def PSs(X:Cx)(st:List Ay)(t:TS):Prop:=
 ∀(pins:Ac)(s:As)(σ:St)(H:Hp)(D:Ends),Inv X pins σ H s->t D σ H->A4 X (execs st X.env) (SP X pins D) X.xe s
def thn{t:Sem m}{Q e:m->Shared->Prop}{M:Model}{A:Ar}{E:Ab}(h:wpAny M A t Q E s)(z:∀a s,Q a s->e a s):wpAny M A t e E s:=Qcq h z λ_ _ x=>x
section
variable {X:Cx}
inductive Zi5(i:Nat)(σ:St)(H:Hp)(Q:VK):Prop
 |mk (v:_):(σ[i]?=some (some v))->(Q v H)->Zi5 i σ H Q
def vk(i:Nat):TE:=λσ H Q=>Zi5 i σ H Q
def tC(v:V):TE:=λ_ H Q=>Q v H
def Zi6   {pos:Pos} (Y:X.N[i]?=some x) (hv:Vis X.env.scope x) (G:(x == ("__debug__" : Str))=false:=by decide) (J:(x == ("__classdict__" : Str))=false:=by decide):PE X (.Name x pos) (vk i):=by
 intro pins s σ H Q I h;obtain⟨v,e,h⟩:=h;obtain⟨m,hn,Ua⟩:=I.loc;obtain⟨u,r,l⟩:=Ua i x v Y e hv;have fin:EP X pins σ Q u s:=⟨v,H,I,r,h⟩;rcases l with⟨F,Z⟩|⟨F,c,O,z⟩
 .exact wpAny_Name (wpAny_loadName_local I.ok.kind F hn Z fin) G
 .rcases F with F|F
  .exact wpAny_Name (wpAny_loadName_cell I.ok.kind F O z fin) G
  .exact wpAny_Name (wpAny_loadName_free I.ok.kind F O z fin J) G
def Gl(X:Cx)(x:Str):Prop:=X.env.kindOf x=some .globalImplicit
def JP{E:Ab}{σ:St}{H:Hp}{u:Av}{pos:Pos}(I:Inv X q σ H s)(F:Gl X x)(z:X.mg x=some u)(h:Q u s)
  (e:(x == ("__debug__" : Str))=false:=by decide):A4 X (eval (.Name x pos) X.env) Q E s:=
 Calls.Name_function_global I.ok.kind F (Calls.loadGlobal_global (by rw[I.ok.glob];exact I.mod.glob.keeps I.bk) z h) e
def Gh{E:Ab}{σ:St}{H:Hp}{u:Av}{pos:Pos}(I:Inv X q σ H s)(J:Gl X x)(z:X.mg x=none)(G:bootBuiltins x=some u)(h:Q u s)
  (F:x ≠ "__name__" :=by decide) (e:(x == ("__debug__" : Str))=false:=by decide):A4 X (eval (.Name x pos) X.env) Q E s:=by
 obtain⟨O,h1,h2⟩:=I.mod.blt;exact Calls.Name_function_global I.ok.kind J (Calls.loadGlobal_builtin (by rw[I.ok.glob];exact I.mod.glob.keeps I.bk) z (by rw[I.ok.blt];exact h1.keeps I.bk) ((h2 x F).trans G) h) e
variable {a b:Ax}{ta tb:TE}{pos:Pos}
inductive tB_i(Q:Bool->Hp->Prop)(x:V)(H1:Hp):Prop
 |mk (c:_):(x=.bl c)->(Q c H1)->tB_i Q x H1
def tB(t:TE):TT:=λσ H Q=>t σ H λx H1=>tB_i Q x H1
variable {tA tB':TT}{rest:An}
def tAnd(t u:TT):TT:=λσ H Q=>t σ H λc H1=>if c=true then u σ H1 Q else Q false H1
def tOr(t u:TT):TT:=λσ H Q=>t σ H λc H1=>if c=true then Q true H1 else u σ H1 Q
def tNot(t:TT):TT:=λσ H Q=>t σ H λc H1=>Q (!c) H1
inductive Zbv(tb:TE)(σ:St)(Q:VK)(x:V)(H1:Hp):Prop
 |mk (c:_):(x=.bl c)->(if c=true then tb σ H1 Q else Q (.bl false) H1)->Zbv tb σ Q x H1
def tAndV(ta tb:TE):TE:=λσ H Q=>ta σ H λx H1=>Zbv tb σ Q x H1
inductive Zi7(tb:TE)(σ:St)(Q:VK)(x:V)(H1:Hp):Prop
 |mk (c:_):(x=.bl c)->(if c=true then Q (.bl true) H1 else tb σ H1 Q)->Zi7 tb σ Q x H1
def tOrV(ta tb:TE):TE:=λσ H Q=>ta σ H λx H1=>Zi7 tb σ Q x H1
inductive Zbw(Q:VK)(x:V)(H1:Hp):Prop
 |mk (c:_):(x=.bl c)->(Q (.bl (!c)) H1)->Zbw Q x H1
def tNotV(ta:TE):TE:=λσ H Q=>ta σ H λx H1=>Zbw Q x H1
end
def SqL(K:Af)(H:Hp)(a:Aw)(xs:A2):Prop:=
 Rd H a (.lst xs) \/
  ∃(o:Obj)(e:Ah)(n:Nat),K.lookup a=some o/\o.cls=.type "list" /\ o.dict=none/\o.data=.seq e n/\e.size<=sizeLine/\Vals xs e.toList
def SqT(K:Af)(H:Hp)(a:Aw)(xs:A2):Prop:=
 Rd H a (.tup xs) \/
  ∃(o:Obj)(e:Ah)(n:Nat),K.lookup a=some o/\o.cls=.type "tuple" /\ o.data=.seq e n/\e.size<=sizeLine/\Vals xs e.toList
def absV:Av->Option V
 |.none=>some .non
 |.bool b=>some (.bl b)
 |.int i _=>some (.int i)
 |.str x _=>some (.str x)
 |.bytes b _=>some (.byt b)
 |.float b _=>some (.flt b)
 |.ref a=>some (.ref a)
 |.type n=>some (.ty n)
 |_=>none
def RelV.abs{x:V}{u:Av}(r:RelV x u):absV u=some x:=by
 cases x with
 |non=>cases r;rfl
 |bl _=>cases r;rfl
 |int _=>obtain⟨t,rfl⟩:=r;rfl
 |str _=>obtain⟨t,rfl⟩:=r;rfl
 |byt _=>obtain⟨t,rfl⟩:=r;rfl
 |flt _=>obtain⟨t,rfl⟩:=r;rfl
 |ref _=>cases r;rfl
 |ty _=>cases r;rfl
def RelV.inj{x y:V}{u:Av}(r:RelV x u)(q:RelV y u):x=y:=Option.some.inj (r.abs.symm.trans q.abs)
theorem Vals.inj:∀{xs ys:A2} {e:Ag},Vals xs e->Vals ys e->xs=ys
 |_,_,_,.nil,.nil=>rfl
 |_,_,_,.cons r t,.cons z t'=>by rw[r.inj z,Vals.inj t t']
section
variable {X:Cx}{pins:Ac}{σ:St}{H:Hp}{s:As}{a:Aw}{xs ys:A2}
def SqL.of(h:H a=some (.lst xs)):SqL K H a xs:=.inl (.inl h)
def SqT.of(h:H a=some (.tup xs)):SqT K H a xs:=.inl (.inl h)
def Inv.list(I:Inv X pins σ H s)(h:SqL X.K H a xs):∃F:Ag,Vals xs F/\PlainL s.heap a F.toArray/\xs.length<=sizeLine:=by
 rcases h with h|⟨o,F,n,Ua,G,O,J,Y,r⟩
 .obtain⟨z,F,n,r,e⟩:=h.ok I.hok;exact⟨F,r,⟨_,n,e,U,U,U⟩,z⟩
 .refine⟨_,r,⟨o,n,I.kIn a o Ua,G,O,by simpa using J⟩,?_⟩;have e:=r.length;simp at e;lia
def Inv.tuple(I:Inv X pins σ H s)(h:SqT X.K H a xs):∃F:Ag,Vals xs F/\IsTup s.heap a F.toArray/\xs.length<=sizeLine:=by
 rcases h with h|⟨o,F,n,O,G,J,Ua,r⟩
 .obtain⟨z,F,r,p⟩:=h.ok I.hok;exact⟨F,r,p.tup,z⟩
 .refine⟨_,r,⟨o,I.kIn a o O,G,n,by simpa using J⟩,?_⟩;have e:=r.length;simp at e;lia
def Inv.list_inj(I:Inv X pins σ H s)(h:SqL X.K H a xs)(h':SqL X.K H a ys):xs=ys:=by
 obtain⟨F,r,⟨o,n,e,_,_,d⟩,_⟩:=I.list h;obtain⟨z,J,⟨o',Ua,G,_,_,d'⟩,_⟩:=I.list h';rw[e]at G;cases G;rw[d]at d';injection d' with O _;have:F=z:=by grind
 subst this;exact r.inj J
def Inv.tuple_inj(I:Inv X pins σ H s)(h:SqT X.K H a xs)(h':SqT X.K H a ys):xs=ys:=by
 obtain⟨F,r,⟨o,e,_,n,d⟩,_⟩:=I.tuple h;obtain⟨z,J,⟨o',G,_,Ua,d'⟩,_⟩:=I.tuple h';rw[e]at G;cases G;rw[d]at d';injection d' with O _;have:F=z:=by grind
 subst this;exact r.inj J
end
abbrev Cx.wish(X:Cx)(E:Ab):Cx:={X with xe:=E}
abbrev Cx.nox(X:Cx):Cx:=X.wish λ_ _=>False
theorem Cx.Ok.wish{X:Cx}(ok:X.Ok)(E:Ab):(X.wish E).Ok:=
 ⟨ok.mod,ok.kind,ok.glob,ok.blt,ok.above,ok.inj,ok.has,ok.cab,ok.hd,ok.frames,ok.stk,ok.exf,ok.bs,ok.bsz,ok.noex,ok.exfs,ok.funs,ok.frf⟩
theorem Cx.Ok.unwish{X:Cx}{E:Ab}(ok:(X.wish E).Ok):X.Ok:=
 ⟨ok.mod,ok.kind,ok.glob,ok.blt,ok.above,ok.inj,ok.has,ok.cab,ok.hd,ok.frames,ok.stk,ok.exf,ok.bs,ok.bsz,ok.noex,ok.exfs,ok.funs,ok.frf⟩
section
variable {X:Cx}{pins:Ac}{σ:St}{H:Hp}{s:As}{E:Ab}
def Inv.wish(I:Inv X pins σ H s)(E:Ab):Inv (X.wish E) pins σ H s:=⟨I.ok.wish E,I.os,I.bare,I.base,I.loc,I.cell,I.free,I.freeC,I.pin,I.hok,I.len⟩
def Inv.unwish(I:Inv (X.wish E) pins σ H s):Inv X pins σ H s:=⟨I.ok.unwish,I.os,I.bare,I.base,I.loc,I.cell,I.free,I.freeC,I.pin,I.hok,I.len⟩
def SP.unwish{D:Ends}{f:Flow}{s':As}(h:SP (X.wish E) pins D f s'):SP X pins D f s':=by
 cases f with
 |next=>obtain⟨e,H',I,q⟩:=h;exact⟨e,H',I.unwish,q⟩
 |brk=>obtain⟨e,H',I,q⟩:=h;exact⟨e,H',I.unwish,q⟩
 |cont=>obtain⟨e,H',I,q⟩:=h;exact⟨e,H',I.unwish,q⟩
 |ret u=>obtain⟨v,e,H',I,r,q⟩:=h;exact⟨v,e,H',I.unwish,r,q⟩
theorem PSs.nox{st:List Ay}{t:TS}(h:PSs X.nox st t):PSs X st t:=λpins s σ H D I hw=>
 Qcq (h pins s σ H D (I.wish _) hw) (λ_ _ q=>q.unwish) λ_ _ z=>False.elim z
end
section
variable {X:Cx}{st:Ay}{rest:List Ay}{t u:TS}{e:Ax}{te:TE}{pos:Pos}
def tNext:TS:=λD σ H=>D.nx σ H
def ZX(t u:TS):TS:=λD σ H=>t {D with nx:=u D} σ H
def Inv.quiet{σ:St}{H:Hp}(I:Inv X q σ H s):interactive X.env=false:=by simp[interactive,I.ok.kind]
def tDrop(te:TE):TS:=λD σ H=>te σ H λ_ H1=>D.nx σ H1
def tRet(te:TE):TS:=λD σ H=>te σ H D.rt
def tIfS(c:TT)(t u:TS):TS:=λD σ H=>c σ H λb H1=>if b=true then t D σ H1 else u D σ H1
end
abbrev TG:=V->St->Hp->(A1)->Prop
abbrev TGs:=A2->St->Hp->(A1)->Prop
def PG(X:Cx)(e:Ax)(t:TG):Prop:=
 ∀(pins:Ac)(s:As)(σ:St)(H:Hp)(v:V)(u:Av)(Q:A1),Inv X pins σ H s->RelV v u->t v σ H Q->
  A4 X (assign e X.env u) (λ_ s'=>∃z H',Inv X pins z H' s'/\Q z H') X.xe s
def PGs(X:Cx)(ts:An)(t:TGs):Prop:=
 ∀(pins:Ac)(s:As)(σ:St)(H:Hp)(vs:A2)(z:Ag)(Q:A1),Inv X pins σ H s->Vals vs z->t vs σ H Q->
  A4 X (assignInOrder ((assignEach ts X.env).map (·.2)) z) (λ_ s'=>∃e H',Inv X pins e H' s'/\Q e H') X.xe s
abbrev TSet:=V->V->V->Hp->(Hp->Prop)->Prop
def PSet(X:Cx)(t:TSet):Prop:=
 ∀(pins:Ac)(s:As)(σ:St)(H:Hp)(o i v:V)(z e u:Av)(Q:Hp->Prop),Inv X pins σ H s->RelV o z->RelV i e->RelV v u->t o i v H Q->
  A4 X (setItem z e u) (λ_ s'=>∃H',Inv X pins σ H' s'/\Q H') X.xe s
section
variable {X:Cx}{pos:Pos}
def WQ(i:Nat):TG:=λv σ H Q=>Q (σ.set i (some v)) H
theorem yd(G:X.N.Nodup)(hi:X.N[i]?=some x)(z:Loc X.env.scope x)(F:X.fn x=true\/X.env.scope.names.lookup x=some .local:=by first|exact .inl U|exact .inr U|assumption):PG X (.Name x pos) (WQ i):=by
 intro pins s σ H v u Q I r h;exact wpAny_assign_Name (X9 I G hi z r (λs' e=>⟨_,H,e,h⟩) F)
inductive Zi8(vs:A2)(σ:St)(H:Hp)(Q:A1):Prop
 |mk  : (vs=[])->(Q σ H)->Zi8 vs σ H Q
def Zn3  : TGs:=λvs σ H Q=>Zi8 vs σ H Q
inductive Zbx(t:TG)(u:TGs)(vs:A2)(σ:St)(H:Hp)(Q:A1):Prop
 |mk (v r:_):(vs=v::r)->(t v σ H λσ' H'=>u r σ' H' Q)->Zbx t u vs σ H Q
def ye(t:TG)(u:TGs):TGs:=λvs σ H Q=>Zbx t u vs σ H Q
def Zby:PGs X [] Zn3:=by
 intro pins s σ H vs z Q I r h;obtain⟨e,h⟩:=h;subst e;cases r;exact assignInOrder_nil ⟨σ,H,I,h⟩
def xo{t:TG}{u:TGs}(h1:PG X e t)(h2:PGs X C u)
  (J:(assignEach (e::C) X.env).map (·.2)=assign e X.env::(assignEach C X.env).map (·.2):=by rfl):PGs X (e::C) (ye t u):=by
 intro pins s σ H vs Y Q I r h;obtain⟨v,Z,e1,h⟩:=h;subst e1;cases r with
 |cons r F=>
  rw[J];refine assignInOrder_cons (thn (h1 pins s σ H _ _ _ I r h) λ_ Ua ⟨z,H1,G,O⟩=>(h2 pins Ua z H1 _ _ Q G F O))
inductive Zi9(K:Af)(n:Nat)(t:TGs)(v:V)(σ:St)(H:Hp)(Q:A1):Prop
 |mk (a xs:_):(v=.ref a)->(SqT K H a xs)->(xs.length=n)->(t xs σ H Q)->Zi9 K n t v σ H Q
def Zn4(K:Af)(n:Nat)(t:TGs):TG:=λv σ H Q=>Zi9 K n t v σ H Q
def Zja{k:Nat}{t:TGs}(Y:X.calm=true)(h:PGs X C t)
  (Z:(assignEach C X.env).length=n:=by rfl) (z:(assignEach C X.env).findIdx? (·.1)=none:=by rfl):PG X (.Tuple C k pos) (Zn4 X.K n t):=by
 intro pins s σ H v u Q I r hw;obtain⟨a,xs,e1,hq,F,hw⟩:=hw;subst e1;cases r;obtain⟨G,O,Ua,hz⟩:=I.tuple hq;refine assign_Tuple_tuple (I.ok.hd Y) Ua (by simp[Z,<-F,O.length]) z λh' J=>(h pins _ σ H xs _ Q (I.kept λb o e=>J b o (Qa8 (Qao e)) e) (by grind) hw)
def gSub(to e:TE)(t:TSet):TG:=λv σ H Q=>to σ H λo H1=>e σ H1 λi H2=>t o i v H2 λz=>Q σ z
def Zns(te:TE)(g:TG):TS:=λD σ H=>te σ H λx H1=>g x σ H1 D.nx
theorem ps_set{te:TE}(J:X.N.Nodup)(hi:X.N[i]?=some x)(z:Loc X.env.scope x)(O:PE X e te)(Z:swapsWith e (some (.Name x p)) pos.line X.env=pure false:=by rfl)(G:X.fn x=true\/X.env.scope.names.lookup x=some .local:=by first|exact .inl U|exact .inr U|assumption):
  PS X (.Assign [.Name x p] e pos) (Zns te (WQ i)):=by
 intro pins s σ H D I h;refine wpAny_Assign_Name (thn (O pins s σ H _ I h) λv s1 ⟨y,H1,Ua,F,q1⟩=>(X9 Ua J hi z F (λs2 Y=>⟨_,H1,Y,q1⟩) G)) Z
def Zjb(c:TT)(tb:TS):TS:=λD σ H=>∃W:Nat->St->Hp->Prop,(∃m,W m σ H)/\∀m σ H,W m σ H->
 c σ H λb H1=>if b=true then∃N:A1,(∀e H',N e H'->∃z,z<m/\W z e H')/\tb {D with nx:=N,ct:=N,bk:=D.nx} σ H1 else D.nx σ H1
end
structure It where
 go:Nat->Hp->Prop
 yld:Nat->Hp->V->Hp->Prop
 stop:Nat->Hp->Prop
def wA(X:Cx)(pins:Ac)(H:Hp)(b:Aw):Prop:=
 H b=none/\b≠X.env.locals/\b∉X.fs/\(b∈X.ex\/X.s₀.heap.objs.size<=b)/\(∀x c,X.env.cells.lookup x=some c->c≠b)/\∀p∈X.pn++pins,p.1≠b
def Inv.fpOk{X:Cx}{pins:Ac}{σ:St}{H H':Hp}{b:Aw}(I:Inv X pins σ H s)(F:s.heap.objs.size<=b)(J:H' b=none):wA X pins H' b:=by
 refine⟨J,Qef (Qa7 I.lt F),I.nofs F,.inr (Qa9 I.sz F),λx c e z=>?_,λp G z=>(absurd (Qa7 (Qao (I.pin p G).1) (by grind)) (Qcf _))⟩
 .obtain⟨v,q⟩:=I.cell x c e;exact absurd (Qa7 q.lt (by grind)) (Qcf _)
structure Turn(P:Aq)(w:Au)(K:Af)(tg:Ax)(J:It)(fp:List Aw)(it:Aw)(tn:Nat->Heap->Prop):Prop where
 mem:it∈fp
 obj:∀i h,tn i h->∀b∈fp,∃o,h.get? b=some o/\∀v,o.data≠.cell v
 keep:∀i h h',tn i h->(∀b∈fp,∀o,h.get? b=some o->h'.get? b=some o)->tn i h'
 item:∀(X:Cx),X.prog=P->X.w=w->X.K=K->X.calm=true->∀(i:Nat)(pins:Ac)(s:As)(σ:St)(H:Hp)(E:Ab),Inv X pins σ H s->(∀b∈fp,wA X pins H b)->tn i s.heap->J.go i H->
  wpAny (model P w) X.A (pyNext (.ref it)) (λr s1=>∃u,r=some u /\
   wpAny (model P w) X.A (letOwnedTupleGo tg (.ref it) u) (λ_ s2=>∃x H',Inv X pins σ H' s2/\RelV x u/\J.yld i H x H'/\tn (i+1) s2.heap/\∀b∈fp,H' b=none) E s1) E s
 done:∀(X:Cx),X.prog=P->X.w=w->X.K=K->X.calm=true->∀(i:Nat)(pins:Ac)(s:As)(σ:St)(H:Hp)(E:Ab),Inv X pins σ H s->(∀b∈fp,wA X pins H b)->tn i s.heap->J.stop i H->
  wpAny (model P w) X.A (pyNext (.ref it)) (λr s1=>r=none/\Inv X pins σ H s1) E s
 self:∀(A:Ar)(i:Nat)(s:As)(Q:Ab)(E:Ab),tn i s.heap->Q (.ref it) s->wpAny (model P w) A (pyIter (.ref it)) Q E s
abbrev TI:=St->Hp->(It->Hp->Prop)->Prop
def PIE(X:Cx)(pins:Ac)(σ:St)(tg:Ax)(R:It->Hp->Prop)(e:Av)(z:As):Prop:=
 ∃(it:Aw)(fp:List Aw)(F:Nat->Heap->Prop)(J:It)(H':Hp),e=.ref it/\Inv X pins σ H' z/\Turn X.prog X.w X.K tg J fp it F/\F 0 z.heap/\(∀b∈fp,wA X pins H' b)/\R J H'
def PI(X:Cx)(tg iter:Ax)(wi:TI):Prop:=
 ∀(pins:Ac)(s:As)(σ:St)(H:Hp)(R:It->Hp->Prop),Inv X pins σ H s->wi σ H R->
  A4 X (eval iter X.env) (λv e=>A4 X (pyIter v) (PIE X pins σ tg R) X.xe e) X.xe s
def vm{M:Model}{A:Ar}{E:Ab}{it:Aw}{u:Av}{o:Obj}{n:String}{vs:Ah}{Q:Unit->Shared->Prop}(F:s.heap.get? it=some o)(G:o.cls=.type n)(I:o.data=.fields vs)
    (J:["enumerate","zip","dict_itemiterator","dict_reverseitemiterator","odict_iterator","itertools.zip_longest","itertools.pairwise"].contains n=false) (z:Q () s):wpAny M A (letOwnedTupleGo e (.ref it) u) Q E s:=by
  cases e<;>first
    |exact Qaf z
    | (cases u <;> first
        |exact Qaf z
        | (refine Qaa (wpAny_load F ?_)
           rw[G,I];show wpAny M A (if(["enumerate","zip","dict_itemiterator","dict_reverseitemiterator","odict_iterator","itertools.zip_longest","itertools.pairwise"].contains n&&vs[0]? == some _)=true then _ else _) Q E s;rw[Qax (by grind)];exact Qaf z))
def Itl(K:Af)(a:Aw):It:=
 ⟨λi H=>∃xs x,SqL K H a xs/\xs[i]?=some x,λi H x H'=>H'=H/\∀xs,SqL K H a xs->xs[i]?=some x,λi H=>∃xs,SqL K H a xs/\xs.length<=i⟩
def Itt(K:Af)(a:Aw):It:=
 ⟨λi H=>∃xs x,SqT K H a xs/\xs[i]?=some x,λi H x H'=>H'=H/\∀xs,SqT K H a xs->xs[i]?=some x,λi H=>∃xs,SqT K H a xs/\xs.length<=i⟩
def Itr(lo:Int)(n:Nat):It:=⟨λi _=>i<n,λi H x H'=>H'=H/\x=.int (lo+i),λi _=>n<=i⟩
def Zbz(a it:Aw):Turn P w K e (Itl K a) [it] it (λi h=>h.IsListIter it a i)where
 mem:=by simp
 obj:=λi h st b G=>by
  have F:=by simpa using G
  subst F;obtain⟨o,F,c,d⟩:=st;exact⟨o,F,λv z=>by grind⟩
 keep:=λi h h' st k=>st.at λo F=>k it (by simp) o F
 item:=by
  intro X hP hw Z hc i pins s σ H E I O st Y;subst hP hw Z;obtain⟨xs,x,Ua,hx⟩:=Y;obtain⟨its,rv,p,hz⟩:=I.list Ua;obtain⟨u,hu,ru⟩:=rv.get hx;obtain⟨f0,f1,f2,f3,f4,f5⟩:=O it (by simp);refine wpAny_pyNext_list_item st p.isList (x:=u) (by grind) λh' J sb=>?_;obtain⟨o,F,c,d⟩:=id J;exact⟨u,U,vm F c d (by decide) ⟨x,H,I.turned (t':=s.toks) (λb o G F=>(sb.2 b G).trans F) f0 f1 f3 f4 f5,ru,⟨U,λys hy=>by rw[I.list_inj hy Ua];exact hx⟩,J,λb G=>(O b G).1⟩⟩
 done:=by
  intro X hP hw Z hc i pins s σ H E I O st Y;subst hP hw Z;obtain⟨xs,Ua,hx⟩:=Y;obtain⟨its,rv,p,hz⟩:=I.list Ua;obtain⟨f0,f1,f2,f3,f4,f5⟩:=O it (by simp);have hl:=rv.length;exact wpAny_pyNext_list_end (I.ok.hd hc) st p.isList (by simp;lia) λh' eb=>⟨U,I.turned (λb o G F=>eb b o G F) f0 f1 f3 f4 f5⟩
 self:=λ_ _ _ _ _ st h=>wpAny_pyIter_listiter st h
def Zac(a it:Aw):Turn P w K e (Itt K a) [it] it (λi h=>h.IsTupleIter it a i)where
 mem:=by simp
 obj:=λi h st b G=>by
  have F:=by simpa using G
  subst F;obtain⟨o,F,c,d⟩:=st;exact⟨o,F,λv z=>by grind⟩
 keep:=λi h h' st k=>st.at λo F=>k it (by simp) o F
 item:=by
  intro X hP hw Z hc i pins s σ H E I O st Y;subst hP hw Z;obtain⟨xs,x,Ua,hx⟩:=Y;obtain⟨its,rv,p,hz⟩:=I.tuple Ua;obtain⟨u,hu,ru⟩:=rv.get hx;obtain⟨f0,f1,f2,f3,f4,f5⟩:=O it (by simp);refine wpAny_pyNext_tuple_item st (p) (x:=u) (by grind) λh' J sb=>?_;obtain⟨o,F,c,d⟩:=id J;exact⟨u,U,vm F c d (by decide) ⟨x,H,I.turned (t':=s.toks) (λb o G F=>(sb.2 b G).trans F) f0 f1 f3 f4 f5,ru,⟨U,λys hy=>by rw[I.tuple_inj hy Ua];exact hx⟩,J,λb G=>(O b G).1⟩⟩
 done:=by
  intro X hP hw Z hc i pins s σ H E I O st Y;subst hP hw Z;obtain⟨xs,Ua,hx⟩:=Y;obtain⟨its,rv,p,hz⟩:=I.tuple Ua;obtain⟨f0,f1,f2,f3,f4,f5⟩:=O it (by simp);have hl:=rv.length;exact wpAny_pyNext_tuple_end (I.ok.hd hc) st (p) (by simp;lia) λh' eb=>⟨U,I.turned (λb o G F=>eb b o G F) f0 f1 f3 f4 f5⟩
 self:=λ_ _ _ _ _ st h=>wpAny_pyIter_tupleiter st h
def Zad(it:Aw)(lo:Int)(n:Nat):Turn P w K e (Itr lo n) [it] it (λi h=>IsRangeIter h it (lo+(i:Nat)*1) ((n:Int)-(i:Nat)) 1)where
 mem:=by simp
 obj:=λi h st b F=>by
  grind
 keep:=λi h h' st k=>k it (by simp) _ st
 item:=by
  intro X hP hw Ua hc i pins s σ H E I J st O;subst hP hw Ua;obtain⟨f0,f1,f2,f3,Z,Y⟩:=J it (by simp);refine(Walks.range (I.ok.hd hc) it lo 1 n).item i s _ _ O st λv h' tk hv G kk=>?_;obtain⟨t,rfl⟩:=hv;refine⟨_,U,vm G U U (by decide) ⟨.int _,H,I.turned (λb o F z=>kk b o (by simpa using F) z) f0 f1 f3 Z Y,⟨t,?_⟩,⟨U,U⟩,G,λb F=>(J b F).1⟩⟩;rw[Int.mul_one]
 done:=by
  intro X hP hw Ua hc i pins s σ H E I J st O;subst hP hw Ua;obtain⟨f0,f1,f2,f3,Z,Y⟩:=J it (by simp);exact wpAny_pyNext_range_end (I.ok.hd hc) st (by have:n<=i:=O;lia) λh' eb=>⟨U,I.turned (λb o F z=>eb b o F z) f0 f1 f3 Z Y⟩
 self:=λ_ _ _ _ _ st h=>wpAny_pyIter_rangeiter st h
section
variable {X:Cx}{tg:Ax}
inductive Zb0(K:Af)(R:It->Hp->Prop)(x:V)(H1:Hp):Prop
 |mk (a:_):(x=.ref a)->((∃xs,SqL K H1 a xs))->(R (Itl K a) H1)->Zb0 K R x H1
def Zgt(K:Af)(tl:TE):TI:=λσ H R=>tl σ H λx H1=>Zb0 K R x H1
inductive Zjc(K:Af)(R:It->Hp->Prop)(x:V)(H1:Hp):Prop
 |mk (a:_):(x=.ref a)->((∃xs,SqT K H1 a xs))->(R (Itt K a) H1)->Zjc K R x H1
def iTup(K:Af)(tl:TE):TI:=λσ H R=>tl σ H λx H1=>Zjc K R x H1
def Zgu{pins:Ac}{σ:St}{H:Hp}{R:It->Hp->Prop}{E:Ab}{lo:Int}{t u v:Tok}{tk:Nat}(I:Inv X pins σ H s)(h1:-(2^62)<=lo)(h2:lo<2^62)(J:-(2^62)<=z)(G:z<2^62)
  (q:R (Itr lo (z-lo).toNat) H):A4 X (pyIter (.ref s.heap.objs.size)) (PIE X pins σ tg R) E {s with heap:=s.heap.push {cls:=.type "range",data:=.fields #[.int lo t,.int z u,.int 1 v]},toks:=tk}:=by
 refine wpAny_pyIter_range (IsRange.new ..) (small_one h1 h2 J G) ?_;have F:Inv X pins σ H {s with heap:=s.heap.push {cls:=.type "range",data:=.fields #[.int lo t,.int z u,.int 1 v]},toks:=tk}:=I.kept λb o e=>Qad _ e;refine⟨_,_,_,_,H,U,
  F.kept λb o e=>Qad _ e,Zad _ lo _,?_,λb O=>?_,q⟩
 .have e1:lo+((0:Nat))*1=lo:=by simp
  have e2:(((z-lo).toNat))-((0:Nat))=Builtin.Range.rangeSize lo z 1:=by rw[rangeSize_one];split<;>lia
  rw[e1,e2];exact Qak _ U
 .have e:b=(s.heap.push {cls:=.type "range",data:=.fields #[.int lo t,.int z u,.int 1 v]}).objs.size:=by grind
  subst e;exact F.fpOk (Qaj _) (F.hok.fresh (Qaj _))
inductive Zb1(R:It->Hp->Prop)(vs:A2)(H1:Hp):Prop
 |mk (j:Int):(vs=[.int j])->(-(2^62)<=j)->(j<2^62)->(R (Itr 0 j.toNat) H1)->Zb1 R vs H1
def Zn5(ta:TA):TI:=λσ H R=>ta σ H λvs H1=>Zb1 R vs H1
def Zb2 {a:Ax} {ta:TA} {pos:Pos} (G:Gl X "range") (Y:X.mg "range" = none) (Z:PA X [a] ta) (Ua:starEach [a] X.env=[(false,eval a X.env)]:=by rfl):PI X tg (.Call (.Name "range" p) [a] [] pos) (Zn5 ta):=by
 intro pins s σ H R I h;refine Call_ (Gh I G Y boot_range (Qcr (thn (Z pos pins s σ H _ I h) λus s1 ⟨vs,H1,O,F,z⟩=>?_) Ua U));obtain⟨j,e,z,q2,q⟩:=z;subst e;cases F with
 |cons r J=>
  cases J;obtain⟨t,rfl⟩:=r;exact call_range_1 (Zgu O (by lia) (by lia) z q2 (by grind))
abbrev Zgv(J:It)(g:TG)(tb:TS)(D:Ends)(σ:St)(H:Hp):Prop:=∃W:Nat->Nat->St->Hp->Prop,(∃m,W 0 m σ H)/\∀i m σ H,W i m σ H->
 (J.stop i H/\D.nx σ H)\/(J.go i H/\∃N:A1,(∀e H',N e H'->∃F,F<m/\W (i+1) F e H')/\∀x H',J.yld i H x H'->g x σ H' λz H2=>tb {D with nx:=N,ct:=N,bk:=D.nx} z H2)
def tFor(wi:TI)(g:TG)(tb:TS):TS:=λD σ H=>wi σ H λJ H1=>Zgv J g tb D σ H1
def x8{J:It}{g:TG}{tb:TS}{D:Ends}{σ:St}{H:Hp}(n:Nat)(z:Nat->St->Hp->Prop)(I:z 0 σ H)
  (G:∀i σ H,i<n->z i σ H->J.go i H/\∀x H',J.yld i H x H'->g x σ H' λF H2=>tb {D with nx:=z (i+1),ct:=z (i+1),bk:=D.nx} F H2)
  (Y:∀σ H,z n σ H->J.stop n H/\D.nx σ H):Zgv J g tb D σ H:=by
 refine⟨λi m σ H=>m=n-i/\i<=n/\z i σ H,⟨n,by simp,Qbl _,I⟩,?_⟩;rintro i m σ H ⟨rfl,hi,p⟩
 by_cases e:i<n
 .exact .inr ⟨(G i σ H e p).1,_,λO H' Ua=>⟨_,by lia,U,e,Ua⟩,(G i σ H e p).2⟩
 .grind
def gN(fp:List Aw)(h:Heap):Ac:=fp.filterMap λb=>(h.get? b).map λo=>(b,o)
def Jt{b:Aw}{o:Obj}(z:b∈J)(e:h.get? b=some o):(b,o)∈gN J h:=Qfc.mpr ⟨b,z,by rw[e];rfl⟩
def Zb3{p:Aw×Obj}(z:p∈gN J h):p.1∈J/\h.get? p.1=some p.2:=by
 obtain⟨b,G,e⟩:=Qfc.mp z;cases q:h.get? b with
 |none=>rw[q]at e;cases e
 |some o=>
  rw[q]at e;have F:=Option.some.inj e;subst F;exact⟨G,q⟩
theorem Inv.pinned{σ:St}{H:Hp}(I:Inv X q σ H s)(Z:∀b∈J,wA X q H b)(O:∀b∈J,∃o,s.heap.get? b=some o/\∀v,o.data≠.cell v):Inv X (q++gN J s.heap) σ H s:=
 I.pins_of λp Ua=>(Qb2.mp Ua).elim (λz=>I.pin p (Qba _ z)) λz=>by
  obtain⟨F,e⟩:=Zb3 z;obtain⟨f0,Y,f2,_⟩:=Z p.1 F;obtain⟨o,G,d⟩:=O p.1 F;rw[e]at G;cases G;exact⟨e,f0,Y,f2,d⟩
def Inv.unpinned{pl:Ac}{σ:St}{H:Hp}(I:Inv X (q++pl) σ H s):Inv X q σ H s:=I.pins_of λp e=>I.pin p (Qba _ (Qc0 _ e))
def ps_for{iter:Ax}{body:List Ay}{wi:TI}{g:TG}{tb:TS}{pos:Pos}(hp:PassesOwn (model X.prog X.w) X.A X.env X.xe)(hc:X.calm=true)(hi:PI X tg iter wi)(hg:PG X tg g)(O:PSs X body tb)
  (hs:∀x,foldedSetIterable iter X.env x=pure x:=by intro _;rfl):PS X (.For tg iter body [] pos) (tFor wi g tb):=by
 intro pins s σ H D I h;refine wpAny_For (thn (hi pins s σ H _ I h) λv s1 h1=>thn h1 λitv s2 h2=>?_) hs;obtain⟨it,fp,tn,J,H2,e,I2,T,st2,f2,W,⟨m0,w0⟩,turn⟩:=h2;subst e;have Ua:∀{H':Hp},(∀b∈fp,H' b=none)->∀b∈fp,wA X pins H' b:=λhn b O=>⟨hn b O,(f2 b O).2⟩;refine codeAny_forLoop_any (λn s'=>∃i G H',Inv X pins G H' s'/\tn i s'.heap/\(∀b∈fp,H' b=none)/\W i n G H') ?_ m0 ⟨0,σ,H2,I2,st2,λb O=>(f2 b O).1,w0⟩;rintro n s3 ⟨i,Z,H3,I3,st3,fr3,w3⟩;rcases turn i n Z H3 w3 with⟨stop,qn⟩|⟨go,N,hN,step⟩
 .refine Qd6 hp (thn (T.done X U U U hc i pins s3 Z H3 X.xe I3 (Ua fr3) st3 stop) λr s4 ⟨hr,I4⟩=>?_);subst hr;exact Qdn ⟨Z,H3,I4,qn⟩
 .refine Qd6 hp (thn (T.item X U U U hc i pins s3 Z H3 X.xe I3 (Ua fr3) st3 go) λr s4 ⟨u,hr,h4⟩=>?_);subst hr;refine Qd6 hp (thn h4 λ_ s5 ⟨x,H5,I5,r5,y5,st5,fr5⟩=>?_);have I5':=I5.pinned (Ua fr5) (T.obj _ _ st5);refine Qd6 hp (thn (hg _ s5 Z H5 x u _ I5' r5 (step x H5 y5)) λ_ s6 ⟨σ6,H6,I6,q6⟩=>?_);refine Qd6 hp (thn (O _ s6 σ6 H6 _ I6 q6) λf s7 q7=>?_);have again:∀{z:St} {Y:Hp},Inv X _ z Y s7->N z Y->∃m,m<n/\∃i G H',Inv X pins G H' s7/\tn i s7.heap/\(∀b∈fp,H' b=none)/\W i m G H':=λ{z Y} F n7=>by
   obtain⟨m',hm,w7⟩:=hN z Y n7;refine⟨m',hm,i+1,z,Y,F.unpinned,T.keep _ _ _ st5 λb O o e=>(F.pin (b,o) (Qba _ (Qba _ (Jt O e)))).1,λb O=>?_,w7⟩;obtain⟨o,e,d⟩:=T.obj _ _ st5 b O;exact(F.pin (b,o) (Qba _ (Qba _ (Jt O e)))).2.1
  cases f with
  |next=>obtain⟨z,Y,F,n7⟩:=q7;exact again F n7
  |cont=>obtain⟨z,Y,F,n7⟩:=q7;exact again F n7
  |brk=>obtain⟨z,Y,F,q7⟩:=q7;exact⟨z,Y,F.unpinned,q7⟩
  |ret v=>obtain⟨x7,z,Y,F,r7,q7⟩:=q7;exact⟨x7,z,Y,F.unpinned,r7,q7⟩
end
theorem Gi{xs:A2}{g:TG}{tb:TS}{D:Ends}{σ:St}{H:Hp}(z:Nat->St->Hp->Prop)(J:z 0 σ H)(G:∀i σ H,i<=xs.length->z i σ H->SqL K H a xs)
  (O:∀i x σ H,xs[i]?=some x->z i σ H->g x σ H λF H2=>tb {D with nx:=z (i+1),ct:=z (i+1),bk:=D.nx} F H2) (I:∀σ H,z xs.length σ H->D.nx σ H):
  Zgv (Itl K a) g tb D σ H:=
 x8 _ z J (λi σ H hi p=>⟨⟨xs,xs[i],G i σ H (Qaw hi) p,Qac hi⟩,λx H' ⟨e,y⟩=>e ▸ O i x σ H (y xs (G i σ H (Qaw hi) p)) p⟩) λσ H p=>⟨⟨xs,G _ σ H (Qaj _) p,Qaj _⟩,I σ H p⟩
theorem yf{xs:A2}{g:TG}{tb:TS}{D:Ends}{σ:St}{H:Hp}(z:Nat->St->Hp->Prop)(J:z 0 σ H)(G:∀i σ H,i<=xs.length->z i σ H->SqT K H a xs)
  (O:∀i x σ H,xs[i]?=some x->z i σ H->g x σ H λF H2=>tb {D with nx:=z (i+1),ct:=z (i+1),bk:=D.nx} F H2) (I:∀σ H,z xs.length σ H->D.nx σ H):
  Zgv (Itt K a) g tb D σ H:=
 x8 _ z J (λi σ H hi p=>⟨⟨xs,xs[i],G i σ H (Qaw hi) p,Qac hi⟩,λx H' ⟨e,y⟩=>e ▸ O i x σ H (y xs (G i σ H (Qaw hi) p)) p⟩) λσ H p=>⟨⟨xs,G _ σ H (Qaj _) p,Qaj _⟩,I σ H p⟩
theorem Xz{lo:Int}{g:TG}{tb:TS}{D:Ends}{σ:St}{H:Hp}(z:Nat->St->Hp->Prop)(I:z 0 σ H)
  (J:∀i σ H,i<n->z i σ H->g (.int (lo+i)) σ H λF H2=>tb {D with nx:=z (i+1),ct:=z (i+1),bk:=D.nx} F H2) (G:∀σ H,z n σ H->D.nx σ H):
  Zgv (Itr lo n) g tb D σ H:=
 x8 n z I (λi σ H hi p=>⟨hi,λx H' ⟨e,y⟩=>by grind⟩) λσ H p=>⟨Qaj _,G σ H p⟩
abbrev R2:=V->V->Hp->VK->Prop
def OpR(X:Cx)(f:Av->Value->Sem Av)(r:R2):Prop:=
 ∀(pins:Ac)(s:As)(σ:St)(H:Hp)(x y:V)(v u:Av)(Q:VK),Inv X pins σ H s->RelV x v->RelV y u->r x y H Q->
  A4 X (f v u) (EP X pins σ Q) X.xe s
def UnR(X:Cx)(f:Av->Sem Av)(r:V->Hp->VK->Prop):Prop:=
 ∀(pins:Ac)(s:As)(σ:St)(H:Hp)(x:V)(v:Av)(Q:VK),Inv X pins σ H s->RelV x v->r x H Q->
  A4 X (f v) (EP X pins σ Q) X.xe s
def YS(X:Cx)(f:Av)(r:A2->Hp->VK->Prop):Prop:=
 ∀(pins:Ac)(s:As)(σ:St)(H:Hp)(xs:A2)(e:Ag)(Q:VK),Inv X pins σ H s->Vals xs e->r xs H Q->
  A4 X (call f e) (EP X pins σ Q) X.xe s
def tOp(r:R2)(ta tb:TE):TE:=λσ H Q=>ta σ H λx H1=>tb σ H1 λy H2=>r x y H2 Q
def tUn(r:V->Hp->VK->Prop)(ta:TE):TE:=λσ H Q=>ta σ H λx H1=>r x H1 Q
inductive rI_i(C:Int->Int->Prop)(g:Int->Int->V)(x:V)(y:V)(H:Hp)(Q:VK):Prop
 |mk (i j:_):(x=.int i)->(y=.int j)->(C i j)->(Q (g i j) H)->rI_i C g x y H Q
def rI(C:Int->Int->Prop)(g:Int->Int->V):R2:=λx y H Q=>rI_i C g x y H Q
inductive Zn6(g:Int->Int->V)(x:V)(y:V)(H:Hp)(Q:VK):Prop
 |mk (i j:_):(x=.int i)->(y=.int j)->(Q (g i j) H)->Zn6 g x y H Q
def rI0(g:Int->Int->V):R2:=λx y H Q=>Zn6 g x y H Q
inductive rU_i(g:Int->V)(x:V)(H:Hp)(Q:VK):Prop
 |mk (i:_):(x=.int i)->(Q (g i) H)->rU_i g x H Q
def rU(g:Int->V):V->Hp->VK->Prop:=λx H Q=>rU_i g x H Q
section
variable {X:Cx}{a b c:Ax}{ta tb tc:TE}{pos:Pos}
def binT(ha:PE X a ta)(F:PE X b tb){σ:St}{H:Hp}{R:V->V->Hp->Prop}(I:Inv X q σ H s)
  (h:ta σ H λx H1=>tb σ H1 λy H2=>R x y H2)  {f:Av->Value->Sem Av}
  (O:∀v u z x y H2,Inv X q σ H2 z->RelV x v->RelV y u->R x y H2->A4 X (f v u) Q X.xe z):
  A4 X (eval a X.env) (λv e=>A4 X (eval b X.env) (λu s₂=>A4 X (f v u) Q X.xe s₂) X.xe e) X.xe s:=by
 refine thn (ha q s σ H _ I h) λv s1 ⟨x,H1,Ua,G,Z⟩=>(thn (F q s1 σ H1 _ Ua Z) λu z ⟨y,H2,Y,J,q2⟩=>(O v u z x y H2 Y G J q2))
def opI{f:Av->Value->Sem Av}{C:Int->Int->Prop}{g:Int->Int->Int}
  (rule:∀(i j:Int)(t u:Tok)(s:As)(Q:Ab)(E:Ab),C i j->Q (.int (g i j) s.toks) {s with toks:=s.toks+1}->A4 X (f (.int i t) (.int j u)) Q E s):
  OpR X f (rI C λi j=>.int (g i j)):=by
 intro pins s σ H x y v u Q I F e h;obtain⟨i,j,rfl,rfl,z,q⟩:=h;obtain⟨t,rfl⟩:=F;obtain⟨t',rfl⟩:=e;exact rule i j t t' s _ _ z ⟨.int _,H,I.tok _,⟨_,U⟩,q⟩
def Zn7{f:Av->Value->Sem Av}{g:Int->Int->Int}
  (rule:∀(i j:Int)(t u:Tok)(s:As)(Q:Ab)(E:Ab),Q (.int (g i j) s.toks) {s with toks:=s.toks+1}->A4 X (f (.int i t) (.int j u)) Q E s):
  OpR X f (rI0 λi j=>.int (g i j)):=by
 intro pins s σ H x y v u Q I z e h;obtain⟨i,j,rfl,rfl,q⟩:=h;obtain⟨t,rfl⟩:=z;obtain⟨t',rfl⟩:=e;exact rule i j t t' s _ _ ⟨.int _,H,I.tok _,⟨_,U⟩,q⟩
def Zpc{f:Av->Value->Sem Av}{g:Int->Int->Bool}
  (rule:∀(i j:Int)(t u:Tok)(s:As)(Q:Ab)(E:Ab),Q (.bool (g i j)) s->A4 X (f (.int i t) (.int j u)) Q E s):
  OpR X f (rI0 λi j=>.bl (g i j)):=by
 intro pins s σ H x y v u Q I z e h;obtain⟨i,j,rfl,rfl,q⟩:=h;obtain⟨t,rfl⟩:=z;obtain⟨t',rfl⟩:=e;exact rule i j t t' s _ _ ⟨.bl _,H,I,U,q⟩
def CPow(i j:Int):Prop:=0<=j/\j<=1000000/\i.natAbs<2^64
def CMul(i j:Int):Prop:=(-(2^64)<i/\i<2^64)\/(-(2^64)<j/\j<2^64)
def CMul.ok{i j:Int}(h:CMul i j):IntMulOk i j:=by
 rcases h with⟨h1,h2⟩|⟨h1,h2⟩
 .exact .of_left (intBits_le_64 h1 h2)
 .exact .of_right (intBits_le_64 h1 h2)
def YB:OpR X (binaryOp .Add) (rI0 λi j=>.int (i+j)):=Zn7 λ_ _ _ _ _ _ _ q=>add_int q
def WA:OpR X (binaryOp .Sub) (rI0 λi j=>.int (i-j)):=Zn7 λ_ _ _ _ _ _ _ q=>sub_int q
def Yb:OpR X (binaryOp .Mod) (rI (λ_ j=>0<j) λi j=>.int (i%j)):=opI λi j _ _ _ _ _ e q=>mod_int' (by lia) (by grind)
def op_pow:OpR X (binaryOp .Pow) (rI CPow λi j=>.int (i^j.toNat)):=opI λ_ _ _ _ _ _ _ e q=>pow_int_small e.1 e.2.1 e.2.2 q
def Zjd:OpR X (binaryOp .LShift) (rI CPow λi j=>.int (i*2^j.toNat)):=opI λ_ _ _ _ _ _ _ e q=>lshift_int_small e.1 e.2.1 e.2.2 q
theorem j4:OpR X (binaryOp .RShift) (rI (λ_ j=>0<=j) λi j=>.int (i/2^j.toNat)):=opI λi j _ _ _ _ _ e q=>
 rshift_int e (by grind)
def YT:OpR X (binaryOp .BitAnd) (rI0 λi j=>.int (Builtin.bitAnd i j)):=Zn7 λ_ _ _ _ _ _ _ q=>and_int q
def je:OpR X (binaryOp .BitOr) (rI0 λi j=>.int (Builtin.bitOr i j)):=Zn7 λ_ _ _ _ _ _ _ q=>or_int q
def x9:OpR X (binaryOp .BitXor) (rI0 λi j=>.int (Builtin.bitXor i j)):=Zn7 λ_ _ _ _ _ _ _ q=>xor_int q
def unI{f:Av->Sem Av}{g:Int->Int}
  (rule:∀(i:Int)(t:Tok)(s:As)(Q:Ab)(E:Ab),Q (.int (g i) s.toks) {s with toks:=s.toks+1}->A4 X (f (.int i t)) Q E s):
  UnR X f (rU λi=>.int (g i)):=by
 intro pins s σ H x v Q I e h;obtain⟨i,rfl,q⟩:=h;obtain⟨t,rfl⟩:=e;exact rule i t s _ _ ⟨.int (g i),H,I.tok _,⟨_,U⟩,q⟩
def J5:UnR X (unaryOp .USub) (rU λi=>.int (-i)):=unI λ_ _ _ _ _ q=>neg_int q
def xA:UnR X (unaryOp .Invert) (rU λi=>.int (Builtin.bitNot i)):=unI λ_ _ _ _ _ q=>invert_int q
end
def Zpd:V->V->Bool
 |.non,.non=>true|.non,.int _=>true|.int _,.non=>true|.non,.bl _=>true|.bl _,.non=>true|.non,.str _=>true|.str _,.non=>true
 |.int _,.int _=>true|.bl _,.bl _=>true|.str _,.str _=>true|.byt _,.byt _=>true
 |.int _,.str _=>true|.str _,.int _=>true|.bl _,.str _=>true|.str _,.bl _=>true
 |_,_=>false
inductive Zn8(x:V)(y:V)(H:Hp)(Q:VK):Prop
 |mk  : (Zpd x y=true)->(Q (.bl (decide (x=y))) H)->Zn8 x y H Q
def rEq  : R2:=λx y H Q=>Zn8 x y H Q
inductive Zn9(x:V)(y:V)(H:Hp)(Q:VK):Prop
 |mk  : (Zpd x y=true)->(Q (.bl (!decide (x=y))) H)->Zn9 x y H Q
def rNe  : R2:=λx y H Q=>Zn9 x y H Q
def Zb4{i j:Int}:decide (V.int i=V.int j)=(i == j):=by grind
def Zje{i:Bool}:decide (V.bl i=V.bl j)=(i == j):=by grind
def Zb5{i j:Str}:decide (V.str i=V.str j)=(i == j):=by grind
def Zb6{i j:Array UInt8}:decide (V.byt i=V.byt j)=(i.toList == j.toList):=by
 rw[Qeo];cases i;cases j;simp
section
variable {X:Cx}{a b c:Ax}{ta tb tc:TE}{pos:Pos}
def ZO{pins:Ac}{σ:St}{H:Hp}{Q:VK}{k:Bool}(I:Inv X pins σ H s)(q:Q (.bl k) H)(e:k=j):EP X pins σ Q (.bool j) s:=by
 subst e;exact⟨.bl k,H,I,U,q⟩
def Yl:OpR X (compareOp .Eq) rEq:=by
 intro pins s σ H x y v u Q I F e h;obtain⟨z,q⟩:=h;cases x with
 |non=>
  cases F;cases y with
  |non=>cases e;exact PySem.EqNone.eq_none_none (ZO I q (by simp))
  |bl j=>cases e;exact PySem.EqNone.eq_none_bool (ZO I q (by simp))
  |int j=>obtain⟨t',rfl⟩:=e;exact PySem.EqNone.eq_none_int (ZO I q (by simp))
  |str j=>obtain⟨t',rfl⟩:=e;exact PySem.EqNone.eq_none_str (ZO I q (by simp))
  |_=>exact absurd (show false=true from z) Qbc
 |bl i=>
  cases F;cases y with
  |non=>cases e;exact PySem.EqNone.eq_bool_none (ZO I q (by simp))
  |bl j=>cases e;exact eq_bool (ZO I q Zje)
  |str j=>obtain⟨t',rfl⟩:=e;exact PySem.EqMixed.eq_bool_str (ZO I q (by simp))
  |_=>exact absurd (show false=true from z) Qbc
 |int i=>
  obtain⟨t,rfl⟩:=F;cases y with
  |non=>cases e;exact PySem.EqNone.eq_int_none (ZO I q (by simp))
  |int j=>obtain⟨t',rfl⟩:=e;exact eq_int (ZO I q Zb4)
  |str j=>obtain⟨t',rfl⟩:=e;exact PySem.EqMixed.eq_int_str (ZO I q (by simp))
  |_=>exact absurd (show false=true from z) Qbc
 |str i=>
  obtain⟨t,rfl⟩:=F;cases y with
  |non=>cases e;exact PySem.EqNone.eq_str_none (ZO I q (by simp))
  |bl j=>cases e;exact PySem.EqMixed.eq_str_bool (ZO I q (by simp))
  |int j=>obtain⟨t',rfl⟩:=e;exact PySem.EqMixed.eq_str_int (ZO I q (by simp))
  |str j=>obtain⟨t',rfl⟩:=e;exact eq_str (ZO I q Zb5)
  |_=>exact absurd (show false=true from z) Qbc
 |byt i=>
  obtain⟨t,rfl⟩:=F;cases y with
  |byt j=>obtain⟨t',rfl⟩:=e;exact PySem.W.eq_bytes (ZO I q Zb6)
  |_=>exact absurd (show false=true from z) Qbc
 |_=>cases y<;>exact absurd (z) Qbc
def Zgw:OpR X (compareOp .NotEq) rNe:=by
 intro pins s σ H x y v u Q I F e h;obtain⟨z,q⟩:=h;cases x with
 |non=>
  cases F;cases y with
  |non=>cases e;exact PySem.EqNone.ne_none_none (ZO I q (by simp))
  |bl j=>cases e;exact PySem.EqNone.ne_none_bool (ZO I q (by simp))
  |int j=>obtain⟨t',rfl⟩:=e;exact PySem.EqNone.ne_none_int (ZO I q (by simp))
  |str j=>obtain⟨t',rfl⟩:=e;exact PySem.EqNone.ne_none_str (ZO I q (by simp))
  |_=>exact absurd (show false=true from z) Qbc
 |bl i=>
  cases F;cases y with
  |non=>cases e;exact PySem.EqNone.ne_bool_none (ZO I q (by simp))
  |bl j=>cases e;exact ne_bool (ZO I q (congrArg not Zje))
  |str j=>obtain⟨t',rfl⟩:=e;exact PySem.EqMixed.ne_bool_str (ZO I q (by simp))
  |_=>exact absurd (show false=true from z) Qbc
 |int i=>
  obtain⟨t,rfl⟩:=F;cases y with
  |non=>cases e;exact PySem.EqNone.ne_int_none (ZO I q (by simp))
  |int j=>obtain⟨t',rfl⟩:=e;exact ne_int (ZO I q (congrArg not Zb4))
  |str j=>obtain⟨t',rfl⟩:=e;exact PySem.EqMixed.ne_int_str (ZO I q (by simp))
  |_=>exact absurd (show false=true from z) Qbc
 |str i=>
  obtain⟨t,rfl⟩:=F;cases y with
  |non=>cases e;exact PySem.EqNone.ne_str_none (ZO I q (by simp))
  |bl j=>cases e;exact PySem.EqMixed.ne_str_bool (ZO I q (by simp))
  |int j=>obtain⟨t',rfl⟩:=e;exact PySem.EqMixed.ne_str_int (ZO I q (by simp))
  |str j=>obtain⟨t',rfl⟩:=e;exact ne_str (ZO I q (congrArg not Zb5))
  |_=>exact absurd (show false=true from z) Qbc
 |byt i=>
  obtain⟨t,rfl⟩:=F;cases y with
  |byt j=>obtain⟨t',rfl⟩:=e;exact PySem.W.ne_bytes (ZO I q (congrArg not Zb6))
  |_=>exact absurd (show false=true from z) Qbc
 |_=>cases y<;>exact absurd (show false=true from z) Qbc
def Zae:OpR X (compareOp .Lt) (rI0 λi j=>.bl (decide (i<j))):=Zpc λ_ _ _ _ _ _ _ q=>lt_int q
def Zoa:OpR X (compareOp .LtE) (rI0 λi j=>.bl (decide (i<=j))):=Zpc λ_ _ _ _ _ _ _ q=>le_int q
def Zb7:OpR X (compareOp .Gt) (rI0 λi j=>.bl (decide (j<i))):=Zpc λ_ _ _ _ _ _ _ q=>gt_int q
def Zkx:OpR X (compareOp .GtE) (rI0 λi j=>.bl (decide (j<=i))):=Zpc λ_ _ _ _ _ _ _ q=>ge_int q
def Zb8:OpR X (compareOp .In) (λx y H Q=>∃i j,x=.str i/\y=.str j/\Q (.bl (!(Builtin.Str.occurrences j i 0 j.length 1).isEmpty)) H):=by
 intro pins s σ H x y v u Q I e z h;obtain⟨i,j,rfl,rfl,q⟩:=h;obtain⟨t,rfl⟩:=e;obtain⟨t',rfl⟩:=z;exact in_str (ZO I q U)
def Zb9:OpR X (compareOp .Is) (λx y H Q=>y=.non/\Q (.bl (decide (x=.non))) H):=by
 intro pins s σ H x y v u Q I e z h;obtain⟨rfl,q⟩:=h;cases z;refine is_none_gen (ZO I q ?_);cases x<;>first
  |(cases e;rfl)
  |(obtain⟨t,rfl⟩:=e;rfl)
def OpR.or{f:Av->Value->Sem Av}{r F:R2}(h:OpR X f r)(h':OpR X f F):OpR X f (λx y H Q=>r x y H Q\/F x y H Q):=by
 intro pins s σ H x y v u Q I e z q;rcases q with q|q
 .exact h pins s σ H x y v u Q I e z q
 .exact h' pins s σ H x y v u Q I e z q
def Zx(b:Ax){e:CmpOp}(h:e≠.In:=by decide)(h2:e≠.NotIn:=by decide):behindInMarks e b=false:=by
 have e1:(e == CmpOp.In)=false:=by grind
 have e2:(e == CmpOp.NotIn)=false:=by grind
 cases b<;>simp[behindInMarks,e1,e2]
inductive Zca(Q:Bool->Hp->Prop)(x:V)(H':Hp):Prop
 |mk (k:_):(x=.bl k)->(Q k H')->Zca Q x H'
def tTest(t:TE):TT:=λσ H Q=>t σ H λx H'=>Zca Q x H'
def qB:(sizeLine:Nat)<2^63:=by decide
def Zaf:OpR X (binaryOp .Add) (λx y H Q=>∃i j,x=.str i/\y=.str j/\i.length+j.length<=sizeLine/\Q (.str (i++j)) H):=by
 intro pins s σ H x y v u Q I e z h;obtain⟨i,j,rfl,rfl,F,q⟩:=h;obtain⟨t,rfl⟩:=e;obtain⟨t',rfl⟩:=z;exact add_str (λt' tk=>⟨.str _,H,I.tok _,⟨_,U⟩,q⟩) F
def vals1{x:V}(r:Vals [x] G):∃u,G=[u]/\RelV x u:=by
 cases r with
 |cons z e=>cases e;exact⟨_,U,z⟩
def vals2{x y:V}(r:Vals [x,y] G):∃u e,G=[u,e]/\RelV x u/\RelV y e:=by
 cases r with
 |cons I J=>
  cases J with
  |cons F z=>cases z;exact⟨_,_,U,I,F⟩
def Zcb (z:X.calm=true):YS X (.builtin "max") (λxs H Q=>∃i j,xs=[.int i,.int j]/\Q (.int (if j>i then j else i)) H):=by
 intro pins s σ H xs F Q I r h;obtain⟨i,j,rfl,q⟩:=h;obtain⟨u,G,rfl,⟨t,rfl⟩,⟨t',rfl⟩⟩:=vals2 r;refine max_two_ints (I.ok.hd z) λh' tk k=>⟨_,H,I.kept k,?_,q⟩
 by_cases e:j>i
 .rw[Qa2 e,Qa2 e];exact⟨_,U⟩
 .rw[Qax e,Qax e];exact⟨_,U⟩
def vn (z:X.calm=true):YS X (.builtin "min") (λxs H Q=>∃i j,xs=[.int i,.int j]/\Q (.int (if j<i then j else i)) H):=by
 intro pins s σ H xs F Q I r h;obtain⟨i,j,rfl,q⟩:=h;obtain⟨u,G,rfl,⟨t,rfl⟩,⟨t',rfl⟩⟩:=vals2 r;refine min_two_ints (I.ok.hd z) λh' tk k=>⟨_,H,I.kept k,?_,q⟩
 by_cases e:j<i
 .rw[Qa2 e,Qa2 e];exact⟨_,U⟩
 .rw[Qax e,Qax e];exact⟨_,U⟩
def vo:YS X (.type "int") (λxs H Q=>(∃i,xs=[.int i]/\Q (.int i) H)\/∃k,xs=[.bl k]/\Q (.int (if k then 1 else 0)) H):=by
 intro pins s σ H xs z Q I r h;rcases h with⟨i,rfl,q⟩|⟨k,rfl,q⟩
 .obtain⟨u,rfl,t,rfl⟩:=vals1 r;exact call_int_int ⟨.int i,H,I,⟨_,U⟩,q⟩
 .obtain⟨u,rfl,e⟩:=vals1 r;cases e;exact call_int_bool ⟨.int _,H,I.tok _,⟨_,U⟩,q⟩
end
structure ObjM(h:Heap)(x dx C:Aw)(mA:Ae):Prop where
 obj:h.get? x=some (PySem.W.instObj C dx)
 ns:h.Ns1 dx mA
 ne:dx≠x
theorem Zcc{mA:Ae}(n:h.Ns1 f mA):∃od,h.get? f=some od/\∀name,PySem.W.lookIn name od=some (mA name):=by
 obtain⟨o,es,ep,O,I,J,_,Ua⟩:=n;refine⟨o,O,λname=>?_⟩;have e:=Ua name;unfold nsFind findBy at e;rw[<-Array.find?_toList]at e;unfold PySem.W.lookIn;rw[I];dsimp only;split
 .grind
 .rename_i q;rw[q]at e;have a:es.toList.any (·.refKey)=false:=by
   rw[List.any_eq_false];intro y G;obtain⟨z,t,F⟩:=J y (Array.mem_toList_iff.mp G);simp[DictEntry.refKey,F]
  rw[Qax (by grind)];exact congrArg some e
theorem ObjM.look{x C:Aw}{mA:Ae}(I:ObjM h x a C mA):∃od,PySem.W.InstAt h x (PySem.W.instObj C a) C (some od)/\∀name,PySem.W.lookIn name od=some (mA name):=
 let⟨od,ho,hl⟩:=Zcc I.ns
 ⟨od,⟨I.obj,U,U,ho⟩,hl⟩
def gL.some_of{v:V}{o:Option Av}(r:gL (some v) o):∃u,o=some u/\RelV v u:=by
 cases o with
 |none=>exact(r).elim
 |some u=>exact⟨u,U,r⟩
section
variable {P:Aq}{w:Au}{H H':Hp}{h h':Heap}{a C dx:Aw}{fs fs':List (Str×V)}
def Zky(F:HOk P w H h)(e:H a=some (.ins C dx fs)):∃mA,ObjM h a dx C mA/\(∀f,gL (fs.lookup f) (mA f))/\PySem.Within mA (fs.map (·.1))/\fs.length<=1000/\H dx=some (.own a):=by
 obtain⟨d,z,ne,ob,mA,n,r,q⟩:=(F a _ e);exact⟨mA,⟨ob,n,ne⟩,r,q,z,d⟩
end
structure Cls(K:Af)(C:Aw):Prop where
 pg:PySem.W.plainGet K C Str.empty=true
 hd:PySem.W.hasDictIn K C=true
 po:PySem.W.plainOver K C=true
 sa:PySem.W.findIn K (.ref C) "__setattr__" = some (some (.builtin "object.__setattr__"))
def Cls.get{C:Aw}(c:Cls K C)(f:Str):PySem.W.plainGet K C f=true:=c.pg
section
variable {X:Cx}{pins:Ac}{σ:St}{H:Hp}{s:As}{A:Ar}{E:Ab}{Q:Ab}{c:Av}{b:Bool}
inductive Zag(K:Af)(H:Hp):V->Value->Prop where
 |non:Zag K H .non (.type "NoneType")
 |bl (x:Bool):Zag K H (.bl x) (.type "bool")
 |int (i:Int):Zag K H (.int i) (.type "int")
 |str (x:Str):Zag K H (.str x) (.type "str")
 |flt (x:UInt64):Zag K H (.flt x) (.type "float")
 |lst {a:Aw} {xs:A2} (e:H a=some (.lst xs)):Zag K H (.ref a) (.type "list")
 |frz {a:Aw} {o:Obj} {xs:A2} (e:H a=some (.frz o (.lst xs))):Zag K H (.ref a) (.type "list")
 |tup {a:Aw} {xs:A2} (e:H a=some (.tup xs)):Zag K H (.ref a) (.type "tuple")
 |dK {a:Aw} {kvs:A0} (e:H a=some (.dK kvs)):Zag K H (.ref a) (.type "dict")
 |dT {a:Aw} {kvs:List (List Key×V)} (e:H a=some (.dT kvs)):Zag K H (.ref a) (.type "dict")
 |ins {a C dx:Aw} {fs:List (Str×V)} (e:H a=some (.ins C dx fs)) (cl:Cls K C) (ha:PySem.W.findIn K (.ref C) "__class__" = some (some (.builtin "object.__class__")))
   (hn:PySem.W.specialIn K (.builtin "object.__class__") "__get__" = some (some (.builtin "getset_descriptor.__get__"))) (htk:PySem.W.takesIn K (.builtin "object.__class__")=some true)
   (hm:PySem.W.mroIn K C (.type "object")=some true):Zag K H (.ref a) (.ref C)
def Zcd{x:V}{u:Av}(I:Inv X pins σ H s)(G:RelV x u)(ty:Zag X.K H x v)(e:PySem.W.kitOne X.K v c=some b)(h:∀tk,Q (.bool b) {s with toks:=tk}):
  A3 X.prog X.w A (call (.builtin "isinstance") [u,c]) Q E s:=by
 cases ty with
 |non=>cases(G);exact Qcg Qfq I.kIn True.intro e (λz=>nomatch z) h
 |bl y=>cases(G);exact Qcg PySem.W.kitx_bool I.kIn True.intro e (λz=>nomatch z) h
 |int i=>obtain⟨v,q⟩:=(G);cases q;exact Qcg PySem.W.kitx_int I.kIn True.intro e (λz=>nomatch z) h
 |str y=>obtain⟨v,q⟩:=(G);cases q;exact Qcg PySem.W.kitx_str I.kIn True.intro e (λz=>nomatch z) h
 |flt y=>obtain⟨v,q⟩:=(G);cases q;exact Qcg PySem.W.kitx_float I.kIn True.intro e (λz=>nomatch z) h
 | @lst a xs F=>
  cases(G);obtain⟨_,_,n,_,h1⟩:=(I.hok a _ F);exact Qcg PySem.W.kitx_list I.kIn ⟨_,h1,U⟩ e (λz=>nomatch z) h
 | @frz a ob xs F=>
  cases(G);obtain⟨_,_,_,n,_,h1⟩:=(I.hok a _ F);exact Qcg PySem.W.kitx_list I.kIn ⟨_,h1,U⟩ e (λz=>nomatch z) h
 | @tup a xs F=>
  cases(G);obtain⟨_,_,_,p⟩:=(I.hok a _ F);obtain⟨o,h1,h2,_⟩:=p;exact Qcg PySem.W.kitx_tuple I.kIn ⟨o,h1,h2⟩ e (λz=>nomatch z) h
 | @dK a kvs F=>
  cases(G);obtain⟨_,_,vs,_,p⟩:=(I.hok a _ F);obtain⟨o,es,ep,h1,h2,_⟩:=p;exact Qcg PySem.W.kitx_dict I.kIn ⟨o,h1,h2.1⟩ e (λz=>nomatch z) h
 | @dT a kvs F=>
  cases(G);obtain⟨_,_,xs,_,o,es,ep,h1,h2,_⟩:=(I.hok a _ F);exact Qcg PySem.W.kitx_dict I.kIn ⟨o,h1,h2.1⟩ e (λz=>nomatch z) h
 | @ins a C dx fs F cl ha Y Ua Z=>
  cases(G);obtain⟨mA,O,_⟩:=Zky I.hok F;obtain⟨od,J,_⟩:=O.look;exact Qcg (PySem.W.kitx_own (cl.get _) cl.hd ha Y Ua Z) I.kIn J e (λz=>nomatch z) h
end
structure Wo(k:Nat)(A:Ar):Prop where
 hd:A.handled=none
 dp:A.depth+3*k+5<recursionLimit
 un:A.units+16*k+200<cLine
def Wo.mono{j k:Nat}{A:Ar}(r:Wo k A)(h:j<=k):Wo j A:=⟨r.hd,by have:=r.dp;lia,by have:=r.un;lia⟩
theorem Wo.deeper{k:Nat}{A:Ar}(r:Wo (k+1) A)(env:Env):Wo k (A.deeper env):=
 ⟨r.hd,by have:=r.dp;show A.depth+1+3*k+5<_;lia,by have:=r.un;show A.units+3+16*k+200<_;lia⟩
def Wo.depth{k:Nat}{A:Ar}(r:Wo k A):A.depth<recursionLimit:=by have:=r.dp;lia
def Wo.units{k:Nat}{A:Ar}(r:Wo k A):A.units+64<cLine:=by have:=r.un;lia
def Wo.units0{k:Nat}{A:Ar}(r:Wo k A):A.units<cLine:=by have:=r.un;lia
def Znt:TA:=λ_ H Q=>Q [] H
def qT(ta:TE)(e:TA):TA:=λσ H Q=>ta σ H λx H1=>e σ H1 λxs H2=>Q (x::xs) H2
section
variable {X:Cx}{e:Ax}{es:An}{te:TE}{t:TA}{pos:Pos}
inductive Zjf(Q:VK)(xs:A2)(H1:Hp):Prop
 |mk  : (xs.length<=sizeLine)->(∀p,H1 p=none->Q (.ref p) (upd H1 p (.tup xs)))->Zjf Q xs H1
def tTup(t:TA):TE:=λσ H Q=>t σ H λxs H1=>Zjf Q xs H1
inductive Zjg(Q:VK)(xs:A2)(H1:Hp):Prop
 |mk  : (xs.length<=sizeLine)->(∀p,H1 p=none->Q (.ref p) (upd H1 p (.lst xs)))->Zjg Q xs H1
def tLst(t:TA):TE:=λσ H Q=>t σ H λxs H1=>Zjg Q xs H1
end
abbrev Sp:=A2->Hp->VK->XK->Prop
abbrev CXT:=List Env->Hp->Shared->XK->Value->Shared->Prop
structure Zkz(P:Aq)(w:Au)(K:Af)(mg:Ae)(base:Heap)(A:Ar)(outer:List Env)(s:As)(H:Hp):Prop where
 frames:A.frames=some outer
 mod:Mod K mg base
 bs:∀b o,base.get? b=some o->s.heap.get? b=some o/\H b=none
 bsz:base.objs.size<=s.heap.objs.size
 funs:s.heap.FunFrames base outer
 frf:∀b∈frs outer,H b=none
 hok:HOk P w H s.heap
 bare:AllBare s.gens
def CE(outer:List Env)(P:Aq)(w:Au)(H:Hp)(s:As)(Q:VK)(u:Av)(s':As):Prop:=
 ∃v H',s'.os=s.os/\AllBare s'.gens/\Un (frs outer) [] H H' s.heap s'.heap/\HOk P w H' s'.heap/\RelV v u/\Q v H'
def CR(CX:CXT)(outer:List Env)(P:Aq)(w:Au)(H:Hp)(s:As)(Q:VK)(E:XK)(r:Result)(s':As):Prop:=
 match r with
 |.ok (.ret u)=>CE outer P w H s Q u s'
 |.ok _=>False
 |.error e=>CX outer H s E e s'
structure xB(P:Aq)(w:Au)(K:Af)(mg:Ae)(base:Heap)(CX:CXT)(k:Nat)(f:Aw)(fd:Ao)(ps:Ai)(sp:Sp):Prop where
 len:∀vs H Q E,sp vs H Q E->vs.length=ps.length
 run:∀(A:Ar)(outer:List Env)(s:As)(H:Hp)(args:Args)(us:Ag)(vs:A2)(Q:VK)(E:XK),Wo k A->Zkz P w K mg base A outer s H->BindsTo s fd args (ps.zip us)->Vals vs us->sp vs H Q E->
  codeAny (model P w) A (.call (.ref f) args) (CR CX outer P w H s Q E) s
section
variable {X:Cx}{pins:Ac}{σ:St}{H:Hp}{s s':As}
theorem Inv.env0(I:Inv X pins σ H s):Zkz X.prog X.w X.K X.mg X.base X.A X.stack s H:=
 ⟨I.ok.frames,I.ok.mod,I.bs,Qa9 I.ok.bsz I.sz,I.stack,I.stkFree,I.hok,I.bare⟩
def Inv.after{Q:VK}{u:Av}(I:Inv X pins σ H s)(h:CE X.stack X.prog X.w H s Q u s'):EP X pins σ Q u s':=by
 obtain⟨v,H',os,e,un,F,r,q⟩:=h;obtain⟨hh,g,d,t,G⟩:=s';obtain rfl:G=s.os:=os;exact⟨v,H',I.call un F e (λb z=>absurd z (by simp)),r,q⟩
end
def Zgx(sp:Sp)(dvs:A2)(E:XK)(t:TA):TE:=λσ H Q=>t σ H λvs H1=>sp (vs++dvs) H1 Q E
def Binds(K:Af)(fd:Ao)(ps:Ai)(ds:Ag):Prop:=
 ∀(s:As)(e:Ag),K.In s.heap->(e++ds).length=ps.length->BindsTo s fd ⟨e,[]⟩ (ps.zip (e++ds))
theorem Binds.all{fd:Ao}{ps:Ai}(h:∀e:Ag,e.length=ps.length->bindArgs fd ⟨e,[]⟩=pure (ps.zip e)):Binds K fd ps []:=λs e _ z=>by
 rw[Qbp]at z ⊢;exact .of_eq (h e z)
def Passes(CX:CXT)(X:Cx)(E:XK):Prop:=∀(pins:Ac)(σ:St)(H:Hp)(s:As)(e:Av)(s':As),Inv X pins σ H s->CX X.stack H s E e s'->X.xe e s'
section
variable {X:Cx}{CX:CXT}{k:Nat}{f C:Aw}{fd:Ao}{ps:Ai}{sp:Sp}{dvs:A2}{ds:Ag}{E:XK}{x m:Str}{p pos apos:Pos}{e o:Ax}{es:An}{ta:TE}{t:TA}
def run_fn{σ:St}{H:Hp}{Q:VK}{vs:A2}(F:xB X.prog X.w X.K X.mg X.base CX k f fd ps sp)(Z:Wo k X.A)(O:Binds X.K fd ps ds)(Ua:Vals dvs ds)(Y:Passes CX X E)
  (I:Inv X q σ H s) (r:Vals vs G) (h:sp (vs++dvs) H Q E):A4 X (call (.ref f) G) (EP X q σ Q) X.xe s:=by
 have J:=r.append Ua;refine Qgh (Qeg (F.run X.A X.stack s H _ _ _ Q E Z I.env0 (O s G I.kIn (by rw[<-J.length];exact F.len _ _ _ _ h)) J h) λr s' z=>?_);cases r with
 |error e=>exact Y q σ H s e s' I z
 |ok fl=>
  cases fl with
  |ret u=>exact I.after z
  |next=>exact False.elim z
  |brk=>exact False.elim z
  |cont=>exact False.elim z
def Zk0(F:xB X.prog X.w X.K X.mg X.base CX k f fd ps sp)(Y:Wo k X.A)(hg:Gl X x)(hm:X.mg x=some (.ref f))(hk:PySem.W.keepIn X.K (.ref f)=true)(Ua:Binds X.K fd ps ds)(O:Vals dvs ds)(Z:Passes CX X E)
  (ha:PA X (e::es) t) (G:(x == ("__debug__" : Str))=false:=by decide) (he:starEach (e::es) X.env=(false,eval e X.env)::starEach es X.env:=by rfl) (z:(backTo pos (starEach es X.env)).any (·.1)=false:=by rfl):
  PE X (.Call (.Name x p) (e::es) [] pos) (Zgx sp dvs E t):=by
 intro pins s σ H Q I h;refine Qc2 (JP I hg hm (Qfd I.ok.mod.kin hk (thn (ha pos pins s σ H _ I h) λus s1 ⟨vs,H1,J,r,q⟩=>⟨J.kIn,(run_fn F Y Ua O Z J r q)⟩) he z) G)
end
structure Zt(N P:Ai)(sc:Scope):Prop where
 kind:sc.kind=.function:=by rfl
 co:sc.isCoroutine=false:=by rfl
 gen:sc.isGenerator=false:=by rfl
 nd:N.Nodup:=by decide +kernel
 pre:N.take P.length=P:=by rfl
 par:∀x∈P,sc.names.lookup x=some .local\/sc.names.lookup x=some .cell:=by decide +kernel
 nofree:∀y∈sc.names,y.2≠.free:=by decide +kernel
theorem vp{kindOf:Str->Option NameKind}{x:Str}:∀{binds:List (Str×Av)} {m:Ae},(∀v,(x,v)∉binds)->bindL kindOf binds m x=m x
 |[],_,_=>rfl
 |(n,v)::r,m,h=>by
  unfold bindL;rw[vp λw hw=>h w (Qai _ hw)];split
  .grind
  .rfl
theorem vq{kindOf:Str->Option NameKind}{x:Str}:∀{binds:List (Str×Av)} {m:Ae},(∀v,(x,v)∉binds)->bindC kindOf binds m x=m x
 |[],_,_=>rfl
 |(n,v)::r,m,h=>by
  unfold bindC;rw[vq λw hw=>h w (Qai _ hw)];split
  .rfl
  .grind
theorem vt{kindOf:Str->Option NameKind}{x:Str}{v:Av}:∀{P:Ai} {vs:Ag} {i:Nat} {m:Ae},P.Nodup->P[i]?=some x->vs[i]?=some v->kindOf x=some .local->
  bindL kindOf (P.zip vs) m x=some v
 |[],_,_,_,_,h,_,_=>by simp at h
 |_::_,[],_,_,_,_,h,_=>by simp at h
 |p::P,w::vs,0,m,z,h1,h2,e=>by
  simp at h1 h2;subst h1;subst h2;show bindL kindOf ((p,w)::P.zip vs) m p=_;unfold bindL;rw[vp λv F=>(Qbu.mp z).1 (Qd7 F).1,Qa2 e];simp
 |p::P,w::vs,i+1,m,z,h1,h2,e=>by
  unfold bindL;exact vt (i:=i) (Qbu.mp z).2 (by grind) (by grind) e
theorem vv{kindOf:Str->Option NameKind}{x:Str}{v:Av}:∀{P:Ai} {vs:Ag} {i:Nat} {m:Ae},P.Nodup->P[i]?=some x->vs[i]?=some v->kindOf x≠some .local->
  bindC kindOf (P.zip vs) m x=some v
 |[],_,_,_,_,h,_,_=>by simp at h
 |_::_,[],_,_,_,_,h,_=>by simp at h
 |p::P,w::vs,0,m,z,h1,h2,e=>by
  simp at h1 h2;subst h1;subst h2;show bindC kindOf ((p,w)::P.zip vs) m p=_;unfold bindC;rw[vq λv F=>(Qbu.mp z).1 (Qd7 F).1,Qax e];simp
 |p::P,w::vs,i+1,m,z,h1,h2,e=>by
  unfold bindC;exact vv (i:=i) (Qbu.mp z).2 (by grind) (by grind) e
def start(N:Ai)(vs:A2):St:=vs.map some++List.replicate (N.length-vs.length) none
def Zce(CX:CXT)(P:Aq)(w:Au)(K:Af)(mg:Ae)(base:Heap)(N:Ai)(qual:Str)(scope:Scope)(f:Aw)(F:Av)(A:Ar)(outer:List Env)(s:As)(H:Hp)(E:XK):Cx where
 prog:=P
 w:=w
 K:=K
 mg:=mg
 base:=base
 A:=A.deeper (envOfC qual scope s.heap.objs.size f F)
 N:=N
 s₀:=s
 H₀:=H
 env:=envOfC qual scope s.heap.objs.size f F
 outer:=outer
 stack:=envOfC qual scope s.heap.objs.size f F::outer
 ex:=[]
 calm:=true
 fn:=λ_=>true
 pn:=[]
 xe:=λe s'=>wpAny (model P w) (A.deeper (envOfC qual scope s.heap.objs.size f F)) (leaving (envOfC qual scope s.heap.objs.size f F) e) (λ_ z=>CX outer H s E e z) (λG z=>CX outer H s E G z) s'
def xp{e:Scope}(h:e.names.lookup x=some .cell):∃c,(cellsFrom n e.names []).lookup x=some c:=Option.isSome_iff_exists.mp (PySem.W.cellsFrom_some _ n [] (.inl h))
theorem Zcf{CX:CXT}{mg:Ae}{base:Heap}{ps:Ai}{qual:Str}{scope:Scope}{Y:Av}{A:Ar}{outer:List Env}{s1:As}{H:Hp}{E:XK}{vs:A2}
  (S:Zt N ps scope) (hd:A.handled=none) (F:Zkz P w K mg base A outer s H) (hl:vs.length=ps.length) (r:Vals vs G)
  (x:InCallC s s.heap.objs.size (bindL (envOfC qual scope s.heap.objs.size f Y).kindOf (ps.zip G) λ_=>none) (cellsFrom (s.heap.objs.size+1) scope.names []) (bindC (envOfC qual scope s.heap.objs.size f Y).kindOf (ps.zip G) λ_=>none) s1):
  Inv (Zce CX P w K mg base N qual scope f Y A outer s H E) [] (start N vs) H s1:=by
 have hpl:ps.length<=N.length:=by have:=congrArg List.length S.pre;rw[Qbg]at this;lia
 obtain⟨h1,tk,rfl,Z⟩:=x.done;have I:∀b:Aw,b∉(Zce CX P w K mg base N qual scope f Y A outer s H E).ex:=λb z=>absurd (show b∈([]:List Aw)from z) (by simp);refine⟨⟨F.mod,S.kind,U,U,Qaj _,λy z c h1 h2=>?_,λy J=>?_,λy c _ h=>?_,λ_=>hd,Qf3 F.frames,.inr ⟨U,U⟩,λb z=>absurd z (I b),F.bs,F.bsz,λb _ _=>I b,λb z=>absurd z (I b),F.funs,F.frf⟩,
  rfl,F.bare,Un.kept Z,⟨_,x.toInCall.ns,λi y v h1 h2 h3=>?_⟩,λy c h=>⟨_,x.cell y c h⟩,F.hok.fresh (Qaj _),λy c h=>?_,λp O=>absurd (show p∈([])from O) (by simp),F.hok.kept Z,?_⟩
 .exact name_of_addr x.apart (Qci h1) (Qci h2)
 .rcases J with J|J
  .exact xp J
  .exact absurd U (S.nofree _ (Qci J))
 .exact Qaw (x.above y c (Qci h))
 .have hi:i<vs.length:=by
   unfold start at h2
   by_cases hi:i<vs.length
   .exact hi
   .grind
  have ha:vs[i]?=some v:=by
   unfold start at h2;rw[Qbe (by simpa using hi),Qag]at h2;cases e:vs[i]? with
   |none=>rw[e]at h2;cases h2
   |some a=>rw[e]at h2;cases h2;rfl
  obtain⟨u,hu,rv⟩:=r.get ha;have O:ps[i]?=some y:=by
   rw[<-S.pre,List.getElem?_take_of_lt (by lia)];exact h1
  have Ua:ps.Nodup:=by rw[<-S.pre];exact S.nd.sublist (List.take_sublist _ _)
  refine⟨u,rv,?_⟩;rcases S.par y (Qam O)with k|k
  .exact .inl ⟨k,vt Ua O hu k⟩
  .obtain⟨c,e⟩:=xp k;refine .inr ⟨.inl k,c,e,?_⟩;have q:=x.cell y c e;rw[vv Ua O hu (by show scope.names.lookup y≠_;rw[k];decide)]at q;exact q
 .exact F.hok.fresh (Qaw (x.above y c (Qci h)))
 .unfold start;show _=N.length;rw[Qar,Qab,Qav];lia
theorem Zk1{CX:CXT}{mg:Ae}{base:Heap}{k:Nat}{name qual:Str}{params:Arguments}{body:List Ay}{scope:Scope}{dV kV Y pm z ct oc:Av}{an od:Option Aw}
  {osl:Array (Option Av)} {ps:Ai} {sp:Sp} (lk:K.lookup f=some ⟨oc,od,.func (PySem.W.fnOf name qual params body scope dV kV Y pm an z ct),osl⟩) (hcd:PySem.W.codeIn K z qual=true) (S:Zt N ps scope)
  (len:∀vs H Q E,sp vs H Q E->vs.length=ps.length)
  (G:∀(A:Ar)(outer:List Env)(s:As)(H:Hp)(vs:A2)(Q:VK)(E:XK),Wo k (A.deeper (envOfC qual scope s.heap.objs.size f z))->sp vs H Q E->
   ∃t,PSs (Zce CX P w K mg base N qual scope f z A outer s H E) body t/\t {nx:=λ_ H'=>Q .non H',rt:=Q} (start N vs) H):
  xB P w K mg base CX (k+1) f (PySem.W.fnOf name qual params body scope dV kV Y pm an z ct) ps sp:=by
 refine⟨len,λA outer s H args us vs Q E hr Z hb r Ua=>?_⟩;have KX:=Z.mod.kin.keeps λb o e=>(Z.bs b o e).1;have lim:=Z.mod.nolimit.keeps λb o e=>(Z.bs b o e).1;have I:∀y∈ps.zip us,scope.names.lookup y.1=some .local\/(scope.names.lookup y.1=some .cell/\((cellsFrom (s.heap.objs.size+1) _ []).lookup y.1).isSome=true):=λ⟨n,v⟩ hy=>by
  rcases S.par n (Qd7 hy).1 with q|q
  .exact .inl q
  .exact .inr ⟨q,PySem.W.cellsFrom_some _ _ _ (.inl q)⟩
 refine codeAny_call_function hr.depth (KX _ _ lk) U S.co S.gen U (PySem.W.codeRec_of KX hcd) (hb _ _ _ _ (wpAny_newFunctionEnv_cells S.kind I λenv he s1 x=>?_));subst he;refine⟨lim.keeps x.toInCall.keep,codeAny_func ?_⟩;obtain⟨t,ht,hq⟩:=G A outer s H vs Q E (hr.deeper _) Ua;refine Qcq (ht [] s1 _ H _ (Zcf S hr.hd Z (len _ _ _ _ Ua) r x) hq) (λfl s' O=>?_) λe s' O=>O;have fin:∀{F:St} {H':Hp} {v:V} {u:Av},Inv (Zce CX P w K mg base N qual scope f z A outer s H E) [] F H' s'->RelV v u->Q v H'->CE outer P w H s Q u s':=
  λ{F H' v u} J rv q=>⟨v,H',J.os,J.bare,J.base,J.hok,rv,q⟩
 cases fl with
 |ret u=>
  obtain⟨v,F,H',J,rv,q⟩:=O;exact fin J rv q
 |next=>
  obtain⟨F,H',J,q⟩:=O;exact fin (v:=V.non) J U q
 |brk=>
  obtain⟨_,_,_,q⟩:=O;exact False.elim q
 |cont=>
  obtain⟨_,_,_,q⟩:=O;exact False.elim q
section
variable {X:Cx}{x:Str}{p pos:Pos}{e:Ax}{es:An}{t:TA}{id T:String}{r:A2->Hp->VK->Prop}
def tCB(r:A2->Hp->VK->Prop)(t:TA):TE:=λσ H Q=>t σ H λvs H1=>r vs H1 Q
end
end L2
variable {X:L2.Cx}
variable {H g:L2.Hp}
variable {b:L2.Cx}
variable {u:List L2.V}
variable {c:L2.St}
variable {d Z:L2.TE}
variable {y:L2.V}
variable {A:L2.TS}
variable {O:List (List L2.V)}
variable {D:L2.HO}
variable {E:L2.Ends}
variable {L:L2.TT}
variable {S:L2.VK}
namespace HT
open PySem PyProof.Rows
section
variable {prog:Aq}{w:Au}{A:Ar}{E:Ab}{s:As}
def cat_tup{b:Aw}{vs:Ag}(ht:IsTup s.heap a vs.toArray)(hb:IsTup s.heap b G.toArray)(hv:vs≠[])
  (h1:G=[]->Q (.ref a) s) (h2:G≠[]->Q (.ref s.heap.objs.size) {s with heap:=s.heap.push {cls:=.type "tuple",data:=.seq (vs++G).toArray}})
  (hsz:vs.length+G.length<=sizeLine):A3 prog w A (binaryOp .Add (.ref a) (.ref b)) Q E s:=by
 obtain⟨⟨cls,dd,data,sl⟩,J,hc,n,hd⟩:=id ht;obtain⟨⟨Y,F,data2,I⟩,z,O,Z,Ua⟩:=id hb;subst hc hd O Ua;have e:vs.toArray++G.toArray=(vs++G).toArray:=by simp
 by_cases hw:G=[]
 .exact concat_meets ⟨_,J,U⟩ ⟨_,z,U⟩ Qg4 seq_tuple_add Qfn Qfe (Qe6 _ _)
   (tuple_addW1 a b _ _ n Z dd F sl I (by grind) (by simp[hw])) ⟨J,z,h1 hw⟩
 .refine concat_meets ⟨_,J,U⟩ ⟨_,z,U⟩ Qg4 seq_tuple_add Qfn Qfe (Qe6 _ _)
   (tuple_addW2 a b _ _ n Z dd F sl I (by grind) (by grind) (by grind)) ⟨J,z,?_⟩
  rw[e];exact h2 hw
def sIx(n d:Nat):Option Int->Nat
 |none=>d
 |some v=>if v<0 then(v+(n:Int)).toNat else min v.toNat n
end
end HT
namespace L2
abbrev TO:=St->Hp->(Option Int->Hp->Prop)->Prop
def PO(X:Cx)(e:Option Ax)(t:TO):Prop:=
 ∀(pins:Ac)(s:As)(σ:St)(H:Hp)(Q:Option Int->Hp->Prop),Inv X pins σ H s->t σ H Q->
  A4 X (evalPart e X.env) (λu s'=>∃o H',Inv X pins σ H' s'/\IsPart u o/\Q o H') X.xe s
def Zk2:TO:=λ_ H Q=>Q none H
inductive Zcg(Q:Option Int->Hp->Prop)(x:V)(H1:Hp):Prop
 |mk (i:_):(x=.int i)->(Q (some i) H1)->Zcg Q x H1
def tPart(t:TE):TO:=λσ H Q=>t σ H λx H1=>Zcg Q x H1
theorem intsAre_of{ns:Ak}:∀{z:Ag},Vals (ns.map V.int) z->IntsAre z ns:=by
 induction ns with
 |nil=>intro z r;cases r;exact .nil
 |cons n ns F=>
  intro z r;cases r with
  |cons G I=>
   obtain⟨t,e⟩:=G;subst e;exact .cons n t (F I)
section
variable {X:Cx}{e:Ax}{te:TE}{lo hi:Option Ax}{tl th:TO}{pos p2:Pos}
def SlR(X:Cx)(r:V->Option Int->Option Int->Hp->VK->Prop):Prop:=
 ∀(pins:Ac)(s:As)(σ:St)(H:Hp)(x:V)(v e vu:Av)(lo hi:Option Int)(z:Aw)(Q:VK),Inv X pins σ H s->RelV x v->s.heap.IsSliceOf z e vu .none->IsPart e lo->IsPart vu hi->r x lo hi H Q->
  ∃T id,typeLookup (.type T) "__getitem__" = pure (some (.builtin id))/\s.TypeIs v T/\A4 X (getItem v (.ref z)) (EP X pins σ Q) X.xe s
def tSl(r:V->Option Int->Option Int->Hp->VK->Prop)(te:TE)(tl th:TO):TE:=λσ H Q=>te σ H λx H1=>tl σ H1 λl H2=>th σ H2 λu e=>r x l u e Q
def Zk3(xs:A2)(lo hi:Option Int):A2:=(xs.drop (HT.sIx xs.length 0 lo)).take (HT.sIx xs.length xs.length hi-HT.sIx xs.length 0 lo)
def Vals.nil_iff{xs:A2}(r:Vals xs G):G=[]↔xs=[]:=by
 cases r with
 |nil=>simp
 |cons _ _=>simp
end
def ixN(n:Nat)(i:Int):Option Nat:=if 0<=i then(if i<n then some i.toNat else none)else if -(n:Int)<=i then some (i+n).toNat else none
def atI(xs:List m)(i:Int):Option m:=(ixN xs.length i).bind λj=>xs[j]?
def Zch{i:Int}{j:Nat}(h:ixN n i=some j):seqIndex? i n=some j/\j<n/\-(n:Int)<=i/\i<n:=by
 unfold ixN at h
 by_cases z:0<=i
 .rw[Qa2 z]at h
  by_cases h1:i<n
  .rw[Qa2 h1]at h;have e:=Option.some.inj h;exact⟨by rw[Qhm z h1,e],by lia,by lia,h1⟩
  .rw[Qax h1]at h;cases h
 .rw[Qax z]at h
  by_cases h1:-n<=i
  .rw[Qa2 h1]at h;have e:=Option.some.inj h;exact⟨by rw[seqIndex_neg (by lia) h1,e],by lia,h1,by lia⟩
  .rw[Qax h1]at h;cases h
def wG{xs:List m}{i:Int}{v:m}(h:atI xs i=some v):∃j,seqIndex? i xs.length=some j/\xs[j]?=some v/\j<xs.length/\-(xs.length:Int)<=i/\i<xs.length:=by
 unfold atI at h;cases e:ixN _ i with
 |none=>rw[e]at h;cases h
 |some j=>
  rw[e]at h;obtain⟨h1,h2,F,z⟩:=Zch e;exact⟨j,h1,h,h2,F,z⟩
def Yn{xs:List m}{j:Nat}{v:m}(h:xs[j]?=some v):atI xs (j:Int)=some v:=by
 have z:=(Qae.mp h).1;have e:ixN xs.length j=some j:=by
  unfold ixN;rw[Qa2 (by lia),Qa2 (by lia)];simp
 unfold atI;rw[e];exact h
def yg(xs:List m)(v:m):atI (xs++[v]) (-1)=some v:=by
 have z:(xs++[v]).length=xs.length+1:=by simp
 have e:ixN (xs++[v]).length (-1)=some xs.length:=by
  unfold ixN;rw[Qax (by decide),Qa2 (by lia)];congr 1;lia
 unfold atI;rw[e];simp
def Zk4(b:Ax):Prop:=∀o i,subscripted b false o i=operate [o,i] (getItem o i)
def IxR(X:Cx)(r:R2):Prop:=
 ∀(value e:Ax)(pins:Ac)(s:As)(σ:St)(H:Hp)(x y:V)(v u:Av)(Q:VK),Inv X pins σ H s->RelV x v->RelV y u->r x y H Q->
  subscripted e false v u=operate [v,u] (getItem v u)->A4 X (subscriptTail value e v u) (EP X pins σ Q) X.xe s
def MtR(X:Cx)(id:String)(r:V->List V->Hp->VK->Prop):Prop:=
 ∀(pins:Ac)(s:As)(σ:St)(H:Hp)(x:V)(xs:A2)(v:Av)(e:Ag)(Q:VK),Inv X pins σ H s->RelV x v->Vals xs e->r x xs H Q->
  A4 X (call (.builtin id) (v::e)) (EP X pins σ Q) X.xe s
section
variable {X:Cx}{a b:Ax}{ta tb:TE}{pos:Pos}
inductive Zjh(K:Af)(x:V)(y:V)(H:Hp)(Q:VK):Prop
 |mk (p xs i v:_):(x=.ref p)->(y=.int i)->(SqL K H p xs)->(atI xs i=some v)->(Q v H)->Zjh K x y H Q
def rIxL(K:Af):R2:=λx y H Q=>Zjh K x y H Q
inductive Zji(K:Af)(x:V)(y:V)(H:Hp)(Q:VK):Prop
 |mk (p xs i v:_):(x=.ref p)->(y=.int i)->(SqT K H p xs)->(atI xs i=some v)->(Q v H)->Zji K x y H Q
def gO(K:Af):R2:=λx y H Q=>Zji K x y H Q
inductive Zjj(x:V)(y:V)(H:Hp)(Q:VK):Prop
 |mk (z i c:_):(x=.str z)->(y=.int i)->(z.length<=sizeLine)->(atI z.cps.toList i=some c)->(Q (.str ⟨#[c]⟩) H)->Zjj x y H Q
def rIxS  : R2:=λx y H Q=>Zjj x y H Q
def Zz:IxR X (rIxL X.K):=by
 intro value G pins s σ H x y v u Q I rx ry h O;obtain⟨p,xs,i,z,rfl,rfl,hq,Y,q⟩:=h;cases rx;obtain⟨t,rfl⟩:=ry;obtain⟨F,r,pl,hz⟩:=I.list hq;obtain⟨j,h1,h2,h3,Ua,h5⟩:=wG Y;obtain⟨w,ew,e⟩:=r.get h2;have hl:=r.length;have hn:=qB;have fin:EP X pins σ Q w s:=⟨z,H,I,e,q⟩
 by_cases J:0<=i
 .have Z:=by
   rw[Qhm J h5]at h1;exact Option.some.inj h1
  exact item_listR pl.isList J (by lia) (by grind) fin O
 .have Z:(i+F.toArray.size).toNat=j:=by
   rw[seqIndex_neg (by lia) Ua]at h1;rw[Qcc,<-hl];exact Option.some.inj h1
  exact subscriptTail_builtinR pl.isList.typeIs slot_list_getitem.lookup
   (wpAny_getItem_list_neg pl.isList (by lia) (by grind) (by lia) (by grind) ⟨U,fin⟩) O
def ZE:IxR X (gO X.K):=by
 intro value F pins s σ H x y v u Q I O Ua h Z;obtain⟨p,xs,i,z,rfl,rfl,J,G,q⟩:=h;cases O;obtain⟨t,rfl⟩:=Ua;obtain⟨Y,r,pl,hz⟩:=I.tuple J;obtain⟨j,h1,h2,h3,h4,h5⟩:=wG G;obtain⟨w,ew,e⟩:=r.get h2;have hl:=r.length;have hn:=qB;have fin:EP X pins σ Q w s:=⟨z,H,I,e,q⟩;exact subscriptTail_builtinR pl.typeIs slot_tuple_getitem.lookup
  (getItem_tuple (j:=j) pl (by lia) (by lia) (by grind) (by grind) ⟨U,fin⟩) Z
def ix_str:IxR X rIxS:=by
 intro value e pins s σ H x y v u Q I Z F h Y;obtain⟨z,i,c,rfl,rfl,hz,O,q⟩:=h;obtain⟨t,rfl⟩:=Z;obtain⟨t',rfl⟩:=F;obtain⟨j,h1,h2,h3,G,Ua⟩:=wG O;have J:z.cps.toList.length=z.length:=by simp[Str.length]
 rw[J]at h1 G Ua;have hn:=qB;exact tail_any (typeIs_str s z t) slot_str_getitem.lookup (getItem_str (c:=c) (by
  grind) (by grind) ⟨.str ⟨#[c]⟩,H,I.tok _,⟨_,U⟩,q⟩) Y
def Zah (e:Ag) (n j:Nat) (u:Av):Obj.mapSeq (·.setIfInBounds j u) {cls:=.type "list",data:=.seq e.toArray n}={cls:=.type "list",data:=.seq (e.set j u).toArray n}:=by
 simp[Obj.mapSeq]
def Inv.lst{pins:Ac}{σ:St}{H:Hp}{s:As}{p:Aw}{xs:A2}(I:Inv X pins σ H s)(h:H p=some (.lst xs)):
  ∃(F:Ag)(n:Nat),Vals xs F/\s.heap.get? p=some {cls:=.type "list",data:=.seq F.toArray n}/\xs.length<=sizeLine:=by
 obtain⟨z,F,n,r,e⟩:=I.hok p _ h;exact⟨F,n,r,e,z⟩
def Inv.lstUpd{pins:Ac}{p:Aw}{xs ys:A2}{z:Ag}{f:Obj->Obj}(I:Inv X pins c H s)(h:H p=some (.lst xs))
  (J:s.heap.get? p=some {cls:=.type "list",data:=.seq G.toArray n}) (F:f {cls:=.type "list",data:=.seq G.toArray n}={cls:=.type "list",data:=.seq z.toArray i}) (r:Vals ys z) (O:ys.length<=sizeLine) (t:Nat):
  Inv X pins c (upd H p (.lst ys)) {s with heap:=s.heap.update p f,toks:=t}:=by
 have e:(s.heap.update p f).get? p=some {cls:=.type "list",data:=.seq z.toArray i}:=by
  rw[Qbm f J (by rw[F]<;>rfl),F]
 refine I.write (by rw[h];trivial) (.inl U) (λb u Ua q=>(Qbx _ _ (Qdx Ua)).trans q) ⟨_,e⟩ ⟨O,z,i,r,e⟩
inductive Zci(o:V)(i:V)(v:V)(H:Hp)(Q:(Hp->Prop)):Prop
 |mk (p xs k j:_):(o=.ref p)->(i=.int k)->(H p=some (.lst xs))->(ixN xs.length k=some j)->(Q (upd H p (.lst (xs.set j v))))->Zci o i v H Q
def rSetL  : V->V->V->Hp->(Hp->Prop)->Prop:=λo i v H Q=>Zci o i v H Q
def set_list:PSet X rSetL:=by
 intro pins s σ H o i v ov iv u Q I Ua Z Y h;obtain⟨p,xs,k,j,rfl,rfl,G,hj,q⟩:=h;cases Ua;obtain⟨t,rfl⟩:=Z;obtain⟨e,n,r,z,hz⟩:=I.lst G;obtain⟨h1,h2,O,J⟩:=Zch hj;have hl:=r.length;have hn:=qB;have I':=
  I.lstUpd G z (Zah e n j u) (r.set Y j) (by grind) s.toks
 by_cases F:0<=k
 .have hk:=by
   rw[Qhm F J]at h1;exact Option.some.inj h1
  exact PySem.W.ki_setAt z F (by lia) (by grind) (by grind)
 .have hk:(k+e.toArray.size).toNat=j:=by
   rw[seqIndex_neg (by lia) O]at h1;rw[Qcc,<-hl];exact Option.some.inj h1
  exact PySem.W.ki_setBack z (by lia) (by grind) (by lia) (by grind)
def vw(lo hi:Option Int)(n:Nat):(sliceBounds lo hi none n).1=((HT.sIx n 0 lo:Nat):Int)/\(sliceBounds lo hi none n).2.1=((HT.sIx n n hi:Nat):Int)/\(sliceBounds lo hi none n).2.2=1:=by
 refine⟨?_,?_,U⟩
 .cases lo with
  |none=>simp[sliceBounds,HT.sIx]
  |some i=>
   simp[sliceBounds,HT.sIx,if_true]
   by_cases h:i<0
   .skip<;>lia
   .skip<;>lia
 .cases hi with
  |none=>simp[sliceBounds,HT.sIx]
  |some i=>
   simp[sliceBounds,HT.sIx,Option.getD_none,if_true]
   by_cases h:i<0
   .skip<;>lia
   .skip<;>lia
def yh(e:Ag)(lo hi:Option Int):slicePick e.toArray lo hi none=((e.drop (HT.sIx e.length 0 lo)).take (HT.sIx e.length e.length hi-HT.sIx e.length 0 lo)).toArray:=by
 obtain⟨h1,h2,z⟩:=vw lo hi _;unfold slicePick;rw[h1,h2,z];simp only[sliceRange_one,pick_run]<;>rfl
inductive Zjk(K:Af)(x:V)(lo:Option Int)(hi:Option Int)(H:Hp)(Q:VK):Prop
 |mk (a xs:_):(x=.ref a)->(SqL K H a xs)->(∀p,H p=none->Q (.ref p) (upd H p (.lst (Zk3 xs lo hi))))->Zjk K x lo hi H Q
def rSlL(K:Af):V->Option Int->Option Int->Hp->VK->Prop:=λx lo hi H Q=>Zjk K x lo hi H Q
def Zk5:SlR X (rSlL X.K):=by
 intro pins s σ H x v Z vu lo hi sl Q I Y O pl J h;obtain⟨a,xs,rfl,G,q⟩:=h;cases Y;obtain⟨F,r,z,Ua⟩:=I.list G;have e:=r.length;refine⟨"list",_,slot_list_getitem.lookup,z.isList.typeIs,?_⟩;refine wpAny_getItem_list_slice z.isList O pl J .none (by simp) ?_ (by grind);rw[yh,<-e];refine⟨.ref _,_,I.laid (λb ob q=>Qad _ q) (Qaj _) ?_,U,q _ (I.hok.fresh (Qaj _))⟩;exact⟨Qa9 (by
    unfold Zk3;rw[Qbg,Qdr];lia) Ua,_,0,(r.drop _).take _,Qak _ U⟩
def X8:V->Bool
 |.non=>true
 |.bl _=>true
 |.int _=>true
 |.str _=>true
 |_=>false
def eqV:V->V->Bool
 |.non,.non=>true
 |.bl a,.bl b=>a == b
 |.bl a,.int b=>(if a then 1 else 0) == b
 |.int a,.bl b=>a == (if b then 1 else 0)
 |.int a,.int b=>a == b
 |.str a,.str b=>a == b
 |_,_=>false
def Zcj{A:Ar}{x:V}{u:Av}(z:RelV y u)(e:RelV x v)(F:X8 y=true)(fx:X8 x=true):SeqAt.EqAt A s u v (eqV y x):=by
 cases y with
 |non=>
  cases z;cases x with
  |non=>cases e;exact SeqAt.EqAt.same _
  |bl b=>cases e;exact SeqAt.EqAt.none_bool b
  |int b=>obtain⟨t,rfl⟩:=e;exact SeqAt.EqAt.none_int b t
  |str b=>obtain⟨t,rfl⟩:=e;exact SeqAt.EqAt.none_str b t
  |_=>exact absurd (fx) Qbc
 |bl a=>
  cases z;cases x with
  |non=>cases e;exact SeqAt.EqAt.bool_none a
  |bl b=>cases e;exact SeqAt.EqAt.bool_bool a b
  |int b=>obtain⟨t,rfl⟩:=e;exact SeqAt.EqAt.bool_int a b t
  |str b=>obtain⟨t,rfl⟩:=e;exact SeqAt.EqAt.bool_str a b t
  |_=>exact absurd (fx) Qbc
 |int a=>
  obtain⟨t',rfl⟩:=z;cases x with
  |non=>cases e;exact SeqAt.EqAt.int_none a t'
  |bl b=>cases e;exact SeqAt.EqAt.int_bool a t' b
  |int b=>obtain⟨t,rfl⟩:=e;exact SeqAt.EqAt.int_int a t' b t
  |str b=>obtain⟨t,rfl⟩:=e;exact SeqAt.EqAt.int_str a t' b t
  |_=>exact absurd (fx) Qbc
 |str a=>
  obtain⟨t',rfl⟩:=z;cases x with
  |non=>cases e;exact SeqAt.EqAt.str_none a t'
  |bl b=>cases e;exact SeqAt.EqAt.str_bool a t' b
  |int b=>obtain⟨t,rfl⟩:=e;exact SeqAt.EqAt.str_int a t' b t
  |str b=>obtain⟨t,rfl⟩:=e;exact SeqAt.EqAt.str_str a t' b t
  |_=>exact absurd (show false=true from fx) Qbc
 |_=>exact absurd (F) Qbc
def eqU(x:V)(u:Av):Bool:=match u with
 |.none=>eqV .non x
 |.bool b=>eqV (.bl b) x
 |.int i _=>eqV (.int i) x
 |.str z _=>eqV (.str z) x
 |_=>false
def Zck{x:V}{u:Av}(r:RelV y u)(f:X8 y=true):eqU x u=eqV y x:=by
 cases y with
 |non=>cases r;rfl
 |bl b=>cases r;rfl
 |int i=>obtain⟨t,rfl⟩:=r;rfl
 |str z=>obtain⟨t,rfl⟩:=r;rfl
 |_=>exact absurd (f) Qbc
theorem xC{x:V}:∀{xs:A2} {e:Ag},Vals xs e->xs.all X8=true->e.any (eqU x)=xs.any λy=>eqV y x
 |_,_,.nil,_=>rfl
 |y::xs,u::e,.cons r t,f=>by
  rw[Qc4,Qa4]at f;rw[Qgc,Qgc,Zck r f.1,xC t f.2]
theorem Ju{A:Ar}{s:As}{x:V}{v:Av}(F:RelV x v)(fx:X8 x=true):∀{xs:A2} {z:Ag},Vals xs z->xs.all X8=true->∀u∈z,SeqAt.EqAt A s u v (eqU x u)
 |_,_,.nil,_=>λu e=>by cases e
 |y::xs,u::z,.cons r t,f=>λG e=>by
  rw[Qc4,Qa4]at f;rcases Qas.mp e with rfl|e
  .rw[Zck r f.1];exact Zcj r F f.1 fx
  .exact Ju F fx t f.2 G e
def inV(x:V)(xs:A2):Bool:=xs.any λy=>eqV y x
inductive Zob(K:Af)(neg:Bool)(x:V)(y:V)(H:Hp)(Q:VK):Prop
 |mk (p xs:_):(y=.ref p)->((SqL K H p xs\/SqT K H p xs))->(X8 x=true)->(xs.all X8=true)->(Q (.bl (if neg then !inV x xs else inV x xs)) H)->Zob K neg x y H Q
def rIn(K:Af)(neg:Bool):R2:=λx y H Q=>Zob K neg x y H Q
def Yo:OpR X (compareOp .In) (rIn X.K false):=by
 intro pins s σ H x y v u Q I F G h;obtain⟨p,xs,rfl,z,fx,fs,q⟩:=h;cases G;rcases z with z|z
 .obtain⟨e,r,pl,J⟩:=I.list z;refine SeqAt.in_listAt _ pl.isList (λw hw=>Ju F fx r fs w (by grind)) ⟨.bl _,H,I,U,?_⟩;rw[show e.toArray.any _=e.any (eqU x) by simp,xC r fs];exact q
 .obtain⟨e,r,pl,J⟩:=I.tuple z;refine SeqAt.in_tupleAt _ pl (λw hw=>Ju F fx r fs w (by grind)) ⟨.bl _,H,I,U,?_⟩;rw[show e.toArray.any _=e.any (eqU x) by simp,xC r fs];exact q
def vx:OpR X (compareOp .NotIn) (rIn X.K true):=by
 intro pins s σ H x y v u Q I F G h;obtain⟨p,xs,rfl,z,fx,fs,q⟩:=h;cases G;rcases z with z|z
 .obtain⟨e,r,pl,J⟩:=I.list z;refine SeqAt.notIn_listAt _ pl.isList (λw hw=>Ju F fx r fs w (by grind)) ⟨.bl _,H,I,U,?_⟩;rw[show e.toArray.any _=e.any (eqU x) by simp,xC r fs];exact q
 .obtain⟨e,r,pl,J⟩:=I.tuple z;refine SeqAt.notIn_tupleAt _ pl (λw hw=>Ju F fx r fs w (by grind)) ⟨.bl _,H,I,U,?_⟩;rw[show e.toArray.any _=e.any (eqU x) by simp,xC r fs];exact q
def Zy:YS X (.builtin "len") (λxs H Q=>∃p ys,xs=[.ref p]/\(SqL X.K H p ys\/SqT X.K H p ys)/\Q (.int ys.length) H):=by
 intro pins s σ H xs Ua Q I r h;obtain⟨p,ys,rfl,z,q⟩:=h;obtain⟨u,rfl,O⟩:=vals1 r;cases O;have Y:=qB;rcases z with z|z
 .obtain⟨F,G,pl,J⟩:=I.list z;have e:=G.length;exact Calls.call_len_list pl.isList (by grind) ⟨.int _,H,I.tok _,⟨s.toks+1,by grind⟩,q⟩
 .obtain⟨F,G,pl,J⟩:=I.tuple z;have e:=G.length;exact len_tuple pl (by grind) ⟨.int _,H,I.tok _,⟨s.toks+1,by grind⟩,q⟩
def vy:YS X (.builtin "len") (λxs H Q=>∃z,xs=[.str z]/\z.length<=sizeLine/\Q (.int z.length) H):=by
 intro pins s σ H xs e Q I r h;obtain⟨z,rfl,F,q⟩:=h;obtain⟨u,rfl,t,rfl⟩:=vals1 r;have G:=qB;exact len_str (by lia) ⟨.int _,H,I.tok _,⟨_,U⟩,q⟩
def vz:YS X (.type "list") (λxs H Q=>∃p ys,xs=[.ref p]/\(SqL X.K H p ys\/SqT X.K H p ys)/\∀l,H l=none->Q (.ref l) (upd H l (.lst ys))):=by
 intro pins s σ H xs us Q I r h;obtain⟨p,ys,rfl,J,q⟩:=h;obtain⟨u,rfl,rx⟩:=vals1 r;cases rx;have fin:∀(z:Ag),Vals ys z->ys.length<=sizeLine->∀(h':Heap)(G:Nat),(∀b o',s.heap.get? b=some o'->h'.get? b=some o')->
   h'.get? _=some _->EP X pins σ Q _ _:=λz F Ua h' G kp e=>
  ⟨.ref _,_,I.laid (t':=s.toks) kp (Qaj _) (show YR X.prog X.w _ h' _ (.lst ys)from⟨Ua,z,G,F,e⟩),U,q _ (I.hok.fresh (Qaj _))⟩
 rcases J with J|J
 .obtain⟨z,F,pl,Ua⟩:=I.list J;have O:=F.length;obtain⟨o,Z,hc,n,Y⟩:=pl.isList;exact call_list_seq p (.inl U) Z hc Y (λh' G kp e=>fin z F Ua h' G kp e) (by grind)
 .obtain⟨z,F,pl,Ua⟩:=I.tuple J;have O:=F.length;obtain⟨o,Z,hc,n,Y⟩:=pl;exact call_list_seq p (.inr U) Z hc Y (λh' G kp e=>fin z F Ua h' G kp e) (by grind)
def Z1:YS X (.type "tuple") (λxs H Q=>∃p ys,xs=[.ref p]/\((SqL X.K H p ys/\∀l,H l=none->Q (.ref l) (upd H l (.tup ys)))\/(SqT X.K H p ys/\Q (.ref p) H))):=by
 intro pins s σ H xs us Q I r h;obtain⟨p,ys,rfl,h⟩:=h;obtain⟨u,rfl,Z⟩:=vals1 r;cases Z;rcases h with⟨G,q⟩|⟨G,q⟩
 .obtain⟨z,F,pl,Ua⟩:=I.list G;have J:=F.length;refine call_tuple_list pl.isList (λh' kp=>?_) (by grind);have O:=I.kept (t':=s.toks) kp;have Y:=
   O.laid (t':=s.toks) (λb o e=>Qad _ e) (Qaj _) (show YR X.prog X.w _ _ _ (.tup ys)from⟨Ua,z,F,gM.new _ _⟩)
  exact⟨.ref _,_,Y,U,q _ (O.hok.fresh (Qaj _))⟩
 .obtain⟨z,F,pl,Ua⟩:=I.tuple G;exact call_tuple_same pl ⟨.ref p,H,I,U,q⟩
def tyV(K:Af)(T:String)(x:V)(H:Hp):Prop:=match x with
 |.str _=>T = "str"
 |.int _=>T = "int"
 |.ref p=>(T = "list" /\ ∃xs,SqL K H p xs)\/(T = "tuple" /\ ∃o,K.lookup p=some o/\o.cls=.type "tuple" /\ o.dict=none) \/
   (T = "dict" /\ ((∃kvs,H p=some (.dK kvs))\/∃kvs,H p=some (.dT kvs)))\/(T = "set" /\ ∃S n,H p=some (.set S n))
 |_=>False
def Zjl{σ:St}{T:String}{x:V}(I:Inv X q σ H s)(r:RelV x v)(ty:tyV X.K T x H):
  s.TypeIs v T/\∀a,v=.ref a->∃ob,s.heap.get? a=some ob/\ob.dict=none:=by
 cases x with
 |str z=>
  obtain⟨t,rfl⟩:=r;cases(ty);exact⟨typeIs_str s z t,λ_ e=>nomatch e⟩
 |int i=>
  obtain⟨t,rfl⟩:=r;cases(ty);exact⟨typeIs_int s i t,λ_ e=>nomatch e⟩
 |ref p=>
  cases r;rcases ty with⟨rfl,xs,Ua⟩|⟨rfl,o,F,O,G⟩|⟨rfl,F⟩|⟨rfl,S,n,F⟩
  .obtain⟨J,_,pl,_⟩:=I.list Ua;refine⟨pl.isList.typeIs,λa e=>?_⟩;cases e;obtain⟨o,n,e,c,G,_⟩:=pl;exact⟨o,e,G⟩
  .refine⟨⟨o,I.kIn p o F,O⟩,λa e=>?_⟩;cases e;exact⟨o,I.kIn _ o F,G⟩
  .have z:∃o,s.heap.get? p=some o/\o.ExactDict:=by
    rcases F with⟨kvs,F⟩|⟨kvs,F⟩
    .obtain⟨_,_,_,_,o,_,_,e,ex,_⟩:=I.hok p _ F;exact⟨o,e,ex⟩
    .obtain⟨_,_,_,_,o,_,_,e,ex,_⟩:=I.hok p _ F;exact⟨o,e,ex⟩
   obtain⟨o,e,ex⟩:=z;refine⟨⟨o,e,ex.1⟩,λa e2=>?_⟩;cases e2;exact⟨o,e,ex.2.1⟩
  .obtain⟨o,_,_,_,e,ex,_⟩:=I.hok p _ F;refine⟨⟨o,e,ex.1⟩,λa e2=>?_⟩;cases e2;exact⟨o,e,ex.2.1⟩
 |_=>exact False.elim ty
inductive Zjm(K:Af)(T:String)(r:V->List V->Hp->VK->Prop)(Q:VK)(x:V)(H1:Hp):Prop
 |mk  : (tyV K T x H1)->(r x [] H1 Q)->Zjm K T r Q x H1
def tBM0(K:Af)(T:String)(r:V->List V->Hp->VK->Prop)(to:TE):TE:=λσ H Q=>to σ H λx H1=>Zjm K T r Q x H1
inductive Zoc(K:Af)(T:String)(r:V->List V->Hp->VK->Prop)(t:TA)(σ:St)(Q:VK)(x:V)(H1:Hp):Prop
 |mk  : (tyV K T x H1)->(t σ H1 λxs H2=>r x xs H2 Q)->Zoc K T r t σ Q x H1
def tBM(K:Af)(T:String)(r:V->List V->Hp->VK->Prop)(to:TE)(t:TA):TE:=λσ H Q=>to σ H λx H1=>Zoc K T r t σ Q x H1
variable {o e:Ax}{es:An}{to:TE}{t:TA}{name:Str}{apos cpos:Pos}{T id:String}{r:V->List V->Hp->VK->Prop}
def pe_bm (pa:PlainAttrs T) (J:Slot T name id) (Ua:typeOf (.builtin id)=pure (.type "method_descriptor")) (hm:MtR X id r) (ho:PE X o to) (ha:PA X (e::es) t)
  (G:attributeBase o name X.env (eval o X.env)=eval o X.env:=by rfl)
  (O:((backTo cpos (starEach (e::es) X.env)).all (λx=>!x.1)&&(backToKw cpos (keywordEach [] X.env)).all (λx=>x.1.isSome)
   && decide ((e::es).length+([]:List Keyword).length+(if([]:List Keyword).isEmpty then 0 else 1)<30))=true:=by rfl)
  (F:(apos.endLine == cpos.line)=true:=by rfl) (hs:starEach (e::es) X.env=(false,eval e X.env)::starEach es X.env:=by rfl) (z:(backTo cpos (starEach es X.env)).any (·.1)=false:=by rfl):
  PE X (.Call (.Attribute o name apos) (e::es) [] cpos) (tBM X.K T r to t):=by
 intro pins s σ H Q I h;refine Qfo G O F U (thn (ho pins s σ H _ I h) λv s1 ⟨x,H1,I1,Z,ty,q1⟩=>?_);obtain⟨h1,h2⟩:=Zjl I1 Z ty;refine⟨T,id,pa,J,Ua,h1,h2,?_⟩;have Y:=ha cpos pins s1 σ H1 _ I1 q1;rw[hs]at Y ⊢;refine Qdw (by show(false||(backTo cpos (starEach es X.env)).any (·.1))=false;rw[z]<;>rfl) (Qd4 ?_);exact thn Y λus s2 ⟨vs,H2,I2,r2,q2⟩=>hm pins s2 σ H2 x vs v us Q I2 Z r2 q2
end
def MtM(X:Cx)(id:String)(r:V->List V->Hp->VK->Prop):Prop:=
 ∀(pins:Ac)(s:As)(σ:St)(H:Hp)(x:V)(xs:A2)(v:Av)(e:Ag)(Q:VK),Inv X pins σ H s->RelV x v->Vals xs e->r x xs H Q->
  A4 X (call (.builtin id) (v::e)) (EP X pins σ Q) X.xe s
theorem Vals.one:∀{x:V} {e:Ag},Vals [x] e->∃u,e=[u]/\RelV x u
 |_,_,.cons r .nil=>⟨_,U,r⟩
theorem Vals.zero:∀{e:Ag},Vals [] e->e=[]
 |_,.nil=>rfl
theorem Vals.dropLast{xs:A2}{e:Ag}(h:Vals xs e):Vals xs.dropLast e.dropLast:=by
 induction h with
 |nil=>exact .nil
 |cons r t z=>
  cases t with
  |nil=>exact .nil
  |cons q t'=>exact .cons r z
theorem Vals.reverse{xs:A2}{e:Ag}(h:Vals xs e):Vals xs.reverse e.reverse:=by
 induction h with
 |nil=>exact .nil
 |cons r t z=>rw[Qcx,Qcx];exact Vals.append z (.cons r .nil)
section
variable {X:Cx}{pins:Ac}{σ:St}{H:Hp}{s:As}{l b:Aw}{xs ys zs:A2}
def Inv.lset{z:Ag}{f:Ah->Array Av}{t':Nat}(I:Inv X pins σ H s)(Y:H l=some (.lst xs))
  (e:s.heap.get? l=some {cls:=.type "list",data:=.seq G.toArray n}) (Z:f G.toArray=z.toArray) (Ua:Vals ys z) (F:ys.length<=sizeLine):
  Inv X pins σ (upd H l (.lst ys)) {s with heap:=s.heap.update l (Obj.mapSeq f),toks:=t'}:=by
 have q:=PySem.IsL.update e f;rw[Z]at q;refine I.write (by rw[Y];exact trivial) (.inl U) (λb' u J O=>(Qbx s.heap _ (Qdx J)).trans O) ⟨_,q⟩ ⟨F,z,_,Ua,q⟩
theorem Inv.lnew{t':Nat}(I:Inv X pins σ H s)(z:Vals ys G)(e:ys.length<=sizeLine):
  Inv X pins σ (upd H s.heap.objs.size (.lst ys)) {s with heap:=s.heap.push {cls:=.type "list",data:=.seq G.toArray},toks:=t'}:=
 I.laid (λ_ _ q=>Qad _ q) (Qaj _) ⟨e,G,0,z,Qak _ U⟩
def Inv.fresh(I:Inv X pins σ H s):H s.heap.objs.size=none:=I.hok.fresh (Qaj _)
def Inv.lstM (I:Inv X pins σ H s) (G:H l=some (.lst xs)):xs.length<=sizeLine/\∃(F:Ag)(n:Nat),Vals xs F/\xs.length=F.length/\s.heap.get? l=some {cls:=.type "list",data:=.seq F.toArray n}:=by
 obtain⟨z,F,n,r,e⟩:=I.hok l _ G;exact⟨z,F,n,r,r.length,e⟩
def Zgy(h:n<=sizeLine):Builtin.List.listTooLong n=false:=Qaq (by lia)
end
inductive v8(x:V)(vs:A2)(H:Hp)(Q:VK):Prop
 |mk (l xs y:_):(x=.ref l)->(vs=[y])->(H l=some (.lst xs))->(xs.length<sizeLine)->(Q .non (upd H l (.lst (xs++[y]))))->v8 x vs H Q
def Zk6  : V->List V->Hp->VK->Prop:=λx vs H Q=>v8 x vs H Q
def ZH:MtM X "list.append" Zk6:=by
 intro pins s σ H x vs v Z Q I Y O h;obtain⟨l,xs,y,rfl,rfl,G,hz,q⟩:=h;cases Y;obtain⟨u,rfl,Ua⟩:=O.one;obtain⟨z,J,n,r,hl,e⟩:=I.lstM G;refine Qhk F.slot_list_append ⟨_,e,U⟩ F.entry_list_append (F.args_list_append_2 _ _) (PySem.list_append l _ n u (by grind)) ⟨e,⟨.non,_,I.lset G e (by simp) (r.append (.cons Ua .nil)) ?_,U,q⟩⟩;rw[Qar,Qfu];lia
inductive vA(x:V)(vs:A2)(H:Hp)(Q:VK):Prop
 |mk (l b xs zs:_):(x=.ref l)->(vs=[.ref b])->(H l=some (.lst xs))->(H b=some (.lst zs))->(xs.length+zs.length<=sizeLine)->(Q .non (upd H l (.lst (xs++zs))))->vA x vs H Q
def Zk7  : V->List V->Hp->VK->Prop:=λx vs H Q=>vA x vs H Q
def Zcl:MtM X "list.extend" Zk7:=by
 intro pins s σ H x vs v us Q I rx rv h;obtain⟨l,b,xs,zs,rfl,rfl,Ua,Y,hz,q⟩:=h;cases rx;obtain⟨u,rfl,ru⟩:=rv.one;cases ru;obtain⟨z,O,n,r,hl,e⟩:=I.lstM Ua;obtain⟨z2,G,Z,r2,hl2,e2⟩:=I.lstM Y;have hsz:O.toArray.size+G.toArray.size<=sizeLine:=by grind
 have J:¬(!O.toArray.isEmpty&&Builtin.List.listTooLong (O.toArray.size+G.toArray.size))=true:=by
  rw[Zgy hsz,Qgq];exact Qbc
 refine Qhk F.slot_list_extend ⟨_,e,U⟩ F.entry_list_extend (F.args_list_extend_2 _ _)
  (AutoSeq1.list_extend_list_list_0 l _ n b _ Z J (by lia) (by lia)) ⟨e,e2,⟨.non,_,I.lset Ua e (by simp) (r.append r2) ?_,U,q⟩⟩
 rw[Qar];lia
inductive Zjn(x:V)(vs:A2)(H:Hp)(Q:VK):Prop
 |mk (l xs y:_):(x=.ref l)->(vs=[])->(H l=some (.lst xs))->(xs[xs.length-1]?=some y)->(Q y (upd H l (.lst xs.dropLast)))->Zjn x vs H Q
def rPop  : V->List V->Hp->VK->Prop:=λx vs H Q=>Zjn x vs H Q
def Gj:MtM X "list.pop" rPop:=by
 intro pins s σ H x vs v us Q I rx Z h;obtain⟨l,xs,y,rfl,rfl,Ua,Y,q⟩:=h;cases rx;have J:=Z.zero;subst J;obtain⟨z,G,n,r,hl,e⟩:=I.lstM Ua;obtain⟨u,hu,ru⟩:=r.get Y;have O:G.toArray[G.toArray.size-1]?=some u:=by
  grind
 refine Qhk F.slot_list_pop ⟨_,e,U⟩ F.entry_list_pop (F.args_list_pop_1 _) (MeetsSeq.list_pop_last l _ n u O (by grind)) ⟨e,⟨y,_,I.lset Ua e ?_ r.dropLast ?_,ru,q⟩⟩
 .grind
 .rw[List.length_dropLast];lia
def Zgz:V->List V->Hp->VK->Prop:=λx vs H Q=>∃l xs,x=.ref l/\vs=[]/\H l=some (.lst xs)/\Q .non (upd H l (.lst xs.reverse))
def Zai:MtM X "list.reverse" Zgz:=by
 intro pins s σ H x vs v Z Q I Y Ua h;obtain⟨l,xs,rfl,rfl,J,q⟩:=h;cases Y;have G:=Ua.zero;subst G;obtain⟨z,O,n,r,hl,e⟩:=I.lstM J;refine Qhk F.slot_list_reverse ⟨_,e,U⟩ F.entry_list_reverse (F.args_list_reverse_1 _) (AutoSeq1.list_reverse_list_0 l _ n (by grind)) ⟨e,?_⟩;refine⟨.non,_,I.lset J e (by simp) r.reverse ?_,U,q⟩;rw[Qc6];lia
inductive Zjo(x:V)(y:V)(H:Hp)(Q:VK):Prop
 |mk (l b xs zs:_):(x=.ref l)->(y=.ref b)->(H l=some (.lst xs))->(H b=some (.lst zs))->(xs.length+zs.length<=sizeLine)->(∀p,H p=none->Q (.ref p) (upd H p (.lst (xs++zs))))->Zjo x y H Q
def rCat  : R2:=λx y H Q=>Zjo x y H Q
def Zjp:OpR X (binaryOp .Add) rCat:=by
 intro pins s σ H x y v u Q I rx J h;obtain⟨l,b,xs,zs,rfl,rfl,Ua,Z,hz,q⟩:=h;cases rx;cases J;obtain⟨z,G,n,r,hl,e⟩:=I.lstM Ua;obtain⟨z2,F,n2,Y,hl2,e2⟩:=I.lstM Z;refine PySem.P.add_list e e2 ?_ (by grind);have O:G.toArray++F.toArray=(G++F).toArray:=by simp
 rw[O];exact⟨.ref _,_,I.lnew (r.append Y) (by grind),U,q _ I.fresh⟩
end L2
namespace Att
open PySem PySem.W PySem.Calls PyProof.Rows
theorem xD{P:Params}:∀(ns:Ak)(vs:Ag),WellAll P h vs (ns.map WData.int)->IntsAre vs ns:=by
 intro ns
 induction ns with
 |nil=>
  intro vs w;cases w;exact .nil
 |cons n ns e=>
  intro vs w;cases w with
  |cons a b=>
   cases a;exact .cons _ _ (e _ b)
def Zcm{l:OpenLaw}(hn:l.most=some n){P:Params}{args:List WData}
  (e:l.row.toRowW.claim.pre args=true) (J:WellAll P h G args):
  ∃a vs ns,G=[Value.ref a]/\args=[WData.list (ns.map WData.int)]/\h.get? a=some {cls:=.type "list",data:=.seq vs.toArray}/\IntsAre vs ns/\ns.length<=n:=by
 obtain⟨d,r,rfl,h1,h2⟩:=hasAllW_cons (pre_splitW e).1;obtain rfl:=hasAllW_nil h2;obtain⟨xs,rfl,Y⟩:=hasW_list h1;obtain⟨ns,rfl⟩:=items_int Y;have z:ns.length<=n:=by
  have I:=by
   have I:=(holds_andW (pre_splitW e).2).1;rw[hn]at I;exact I
  have O:=condW_of I (w_not (w_lt w_lit (w_len_list (w_arg U))));refine Qg5 λq=>?_
  first
   |(exact absurd O _)
   |(simp at O;lia)
 cases J with
 |cons Z w2=>
  cases w2;cases Z with
  |list Ua F=>exact⟨_,_,ns,U,U,Ua,xD ns _ F,z⟩
theorem Zcn(l:OpenLaw)(args:List WData):l.row.toRowW.claim.post args (.bool true) args=true:=
 postW_of
  (by first|rfl|decide|skip)
  (w_eq_bool (w_res U) w_lit) U
def attach_call{l:OpenLaw}{q:Aq}{XP:(Ae)->Heap->Prop}{YP:Au->Heap->Prop}{d:DefRec}
  (hn:l.most=some n) (hdf:d.params.defaults=[])
  (call:∀(w:Au)(s₀ e:As)(mg mb:Ae)(J:Aw)(o:Obj)(pm Z z:Av)(a:Aw)(vs:Ag)(ns:Ak),
   Ground q N [] XP w s₀ mg mb e.heap->YP w e.heap->
   e.heap.get? J=some o->o.data=.func (docDef d.name d.params d.body d.scope pm Z z)->e.heap.CodeRec Z d.name->mg d.name=some (.ref J)->
   e.heap.get? a=some {cls:=.type "list",data:=.seq vs.toArray}->IntsAre vs ns->ns.length<=n->e.gens=#[]->
   codeAny (model l.prog w) callerA (.call (.ref J) ⟨[.ref a],[]⟩) (λr s'=>r=.ok (.ret (.bool true))/\OldK e.heap s'.heap/\s'.os=e.os/\AllBare s'.gens) e):
  WalkO q N XP YP l.row.toRowW d [] (λf vs=>PySem.call f vs):=by
 intro w s₀ e mg mb G Y J o pm Z z dV kV ho hd hcd hD hmg hg args vals as Ua hlay hrd hwl hlo;obtain rfl:dV=.none:=Dflts.none hD hdf;obtain rfl:kV=.none:=Dflts.noKw hD;obtain⟨a,vs,ns,rfl,rfl,I,F,O⟩:=Zcm hn Ua hwl;refine enter_call (Qeg (call w s₀ e mg mb J o pm Z z a vs ns G Y ho (fd_plain hd) hcd hmg I F O hg) λr s' hq=>?_);obtain⟨rfl,h2,h3,h4⟩:=hq;exact⟨.inl ⟨_,_,[],U,λ_=>U,.bool true,Zcn l _,λ_=>⟨List.Pairwise.nil,λ_ hm=>(nomatch hm)⟩⟩,h2,h3,h4⟩
end Att
namespace L2
theorem vC:∀{vs:Ag} {ns:Ak},IntsAre vs ns->Vals (ns.map V.int) vs
 |_,_,.nil=>.nil
 |_,_,.cons n t h=>.cons ⟨t,U⟩ (vC h)
def WR(s:Ay):Arguments:=match s with
 |.FunctionDef _ a _ _ _ _ _ _ _ _=>a
 |_=>{posonlyargs:=[],args:=[],vararg:=none,kwonlyargs:=[],kw_defaults:=[],kwarg:=none,defaults:=[]}
def YW(s:Ay):List Ay:=match s with
 |.FunctionDef _ _ b _ _ _ _ _ _ _=>b
 |_=>[]
def Zh(s:Ay):Scope:=match s with
 |.FunctionDef _ _ _ _ _ _ e _ _ _=>e
 |_=>{kind:=.function,names:=[],isGenerator:=false,isCoroutine:=false}
abbrev CX0:CXT:=λ_ _ _ _ _ _=>False
abbrev E0:XK:=λ_ _ _=>False
def Zk8{X:Cx}:Passes CX0 X E0:=λ_ _ _ _ _ _ _ h=>h.elim
structure Fun(K:Af)(x qual:Str)(st:Ay)(f:Aw)(fd:Ao):Prop where
 ex:∃(oc:Av)(od:Option Aw)(kV doc pm:Av)(an:Option Aw)(cdv ct:Av)(osl:Array (Option Av)),
  fd=PySem.W.fnOf x qual (WR st) (YW st) (Zh st) .none kV doc pm an cdv ct/\K.lookup f=some ⟨oc,od,.func fd,osl⟩/\PySem.W.codeIn K cdv qual=true
 kp:PySem.W.keepIn K (.ref f)=true
section
variable {P:Aq}{w:Au}{K:Af}{mg:Ae}{base:Heap}
theorem Fun.ok{qual:Str}{st:Ay}{fd:Ao}{ps:Ai}{k:Nat}{sp:Sp}(F:Fun K x qual st f fd)(S:Zt N ps (Zh st))(len:∀vs H Q E,sp vs H Q E->vs.length=ps.length)
  (z:∀(e:Av)(A:Ar)(outer:List Env)(s:As)(H:Hp)(vs:A2)(Q:VK)(E:XK),Wo k (A.deeper (envOfC qual (Zh st) s.heap.objs.size f e))->sp vs H Q E->
   ∃t,PSs (Zce CX0 P w K mg base N qual (Zh st) f e A outer s H E).nox (YW st) t/\t {nx:=λ_ H'=>Q .non H',rt:=Q} (start N vs) H):xB P w K mg base CX0 (k+1) f fd ps sp:=by
 obtain⟨oc,od,kV,O,pm,Z,e,ct,Ua,rfl,J,I⟩:=F.ex;refine Zk1 J I S len λA outer s H vs Q E Y G=>?_;obtain⟨t,h,q⟩:=z e A outer s H vs Q E Y G;exact⟨t,h.nox,q⟩
def Fun.binds{qual:Str}{st:Ay}{fd:Ao}{ps:Ai}(F:Fun K x qual st f fd)
  (h:∀(kV z J:Av)(G:Option Aw)(e ct:Av)(I:Ag),I.length=ps.length->bindArgs (PySem.W.fnOf x qual (WR st) (YW st) (Zh st) .none kV z J G e ct) ⟨I,[]⟩=pure (ps.zip I)):Binds K fd ps []:=by
 obtain⟨oc,od,kV,z,J,G,e,ct,Ua,rfl,Y,O⟩:=F.ex;exact .all (h kV z J G e ct)
theorem fun_mk{qual:Str}{st:Ay}{od G:Option Aw}{F:Array (Option Av)}{kV z I e ct:Av}(l:K.lookup f=some ⟨v,od,.func (PySem.W.fnOf x qual (WR st) (YW st) (Zh st) .none kV z I G e ct),F⟩)
  (c:PySem.W.codeIn K e qual=true) (k:PySem.W.keepIn K (.ref f)=true):Fun K x qual st f (PySem.W.fnOf x qual (WR st) (YW st) (Zh st) .none kV z I G e ct):=⟨⟨v,od,kV,z,I,G,e,ct,F,U,l,c⟩,k⟩
end
def qU{A:Ar}{k:Nat}(e:Wo k A):A.units+1<cLine:=Qd1 (by lia) e.units
def Z2(h:n<=1000):n<sizeLine:=Qd1 h (by decide)
def ZI{A B:Prop}(h:B):if false=true then A else B:=by grind
def Y1{A B:Prop}(h:A):if true=true then A else B:=h
def qV{c A B:Prop}[Decidable c](h1:c->A)(h2:¬c->B):if c then A else B:=by grind
def ZG(H H':Hp):Prop:=∀b o,H b=some o->H' b=some o
def ZG.refl(H:Hp):ZG H H:=λ_ _ h=>h
def ZG.trans{H2:Hp}(a:ZG H g)(b:ZG g H2):ZG H H2:=λc o h=>b c o (a c o h)
def ZG.free{H':Hp}(e:ZG H H'){l:Aw}(h:H' l=Option.none):H l=Option.none:=by
 cases q:H l with
 |none=>rfl
 |some o=>
  rw[e l o q]at h;cases h
def Zk9(i j:Int):Prop:=0<j/\j.natAbs.log2<9000
theorem Ye:OpR X (binaryOp .FloorDiv) (rI Zk9 λi j=>.int (i/j)):=opI λi j _ _ _ _ _ e q=>by
 have h1:=e.1;exact floordiv_int (by lia) (by grind) (.inl (PyProof.noPylong_of_log2 e.2))
def Zk9.of{i j:Int}(h1:0<j)(h2:j<2^250):Zk9 i j:=by
 refine⟨h1,?_⟩;have e:j.natAbs<2^250:=by lia
 have:=(Nat.log2_lt (by lia)).mpr e;lia
def Zla(i j:Int):Prop:=(i.natAbs<2^250/\j.natAbs<2^250)\/CMul i j
def Zla.ok{i j:Int}(h:Zla i j):IntMulOk i j:=by
 rcases h with⟨h1,h2⟩|h
 .refine IntMulOk.of_bits (Qa9 (PyProof.Rows.intBits_le h1) (by decide)) (Qa9 (PyProof.Rows.intBits_le h2) (by decide))
 .exact h.ok
def Xm:OpR X (binaryOp .Mult) (rI Zla λi j=>.int (i*j)):=opI λ_ _ _ _ _ _ _ e q=>mul_int q e.ok
inductive Zjq(K:Af)(xs:A2)(H:Hp)(Q:VK):Prop
 |mk (x T t b:_):(xs=[x,.ty T])->(Zag K H x t)->(PySem.W.kitOne K t (.type T)=some b)->(Q (.bl b) H)->Zjq K xs H Q
def Zpe(K:Af):A2->Hp->VK->Prop:=λxs H Q=>Zjq K xs H Q
def XA:YS X (.builtin "isinstance") (Zpe X.K):=by
 intro pins s σ H xs F Q I r h;obtain⟨x,T,t,b,rfl,ty,e,q⟩:=h;obtain⟨u,G,rfl,z,rt⟩:=vals2 r;cases rt;exact Zcd I z ty e λtk=>⟨.bl b,H,I.tok tk,U,q⟩
def ZY:Ax->Bool
 |.Starred _ _=>false
 |_=>true
def Zv{rest:An}{env:Env}(h:ZY e=true):starEach (e::rest) env=(false,eval e env)::starEach rest env:=by
 cases e<;>first
  |rfl
  |cases h
theorem Xg{pos:Pos}{env:Env}:∀{es:An},es.all ZY=true->(backTo pos (starEach es env)).any (·.1)=false
 |[],_=>rfl
 |e::es,h=>by
  rw[Qc4,Qa4]at h;rw[Zv h.1];show(false||(backTo pos _).any _)=false;rw[Xg h.2];rfl
theorem all_plain{pos:Pos}{env:Env}:∀{es:An},es.all ZY=true->(backTo pos (starEach es env)).all (λx=>!x.1)=true
 |[],_=>rfl
 |e::es,h=>by
  rw[Qc4,Qa4]at h;rw[Zv h.1];show(true&&(backTo pos _).all _)=true;rw[all_plain h.2];rfl
section
variable {X:Cx}{CX:CXT}{k:Nat}{f C:Aw}{fd:Ao}{ps:Ai}{sp:Sp}{dvs:A2}{ds:Ag}{E:XK}{x m:Str}{p pos apos:Pos}{e o:Ax}{es:An}{ta te:TE}{t:TA}{id T:String}{r:A2->Hp->VK->Prop}
def pa_c(Y:PE X e te)(hr:PA X es t)(z:ZY e=true:=by rfl):PA X (e::es) (qT te t):=by
 intro pos pins s σ H Q I h;rw[(Zv z)];refine Qc3 (thn (Y pins s σ H _ I h) λu s1 ⟨x,H1,J,F,Ua⟩=>(thn (hr pos pins s1 σ H1 _ J Ua) λus s2 ⟨xs,H2,O,G,Z⟩=>⟨x::xs,H2,O,.cons F G,Z⟩))
def Zg0(F:xB X.prog X.w X.K X.mg X.base CX k f fd ps sp)(hr:Wo k X.A)(Z:Gl X x)(O:X.mg x=some (.ref f))(hk:PySem.W.keepIn X.K (.ref f)=true)(J:Binds X.K fd ps ds)(I:Vals dvs ds)(Y:Passes CX X E)
  (Ua:PA X (e::es) t) (G:(x == ("__debug__" : Str))=false:=by decide) (z:(e::es).all ZY=true:=by rfl):PE X (.Call (.Name x p) (e::es) [] pos) (Zgx sp dvs E t):=by
 rw[Qc4,Qa4]at z;exact Zk0 F hr Z O hk J I Y Ua G (Zv z.1) (Xg z.2)
def Zco (Y:YS X (.builtin id) r) (O:Gl X x) (hm:X.mg x=none) (hv:bootBuiltins x=some (.builtin id)) (ha:PA X (e::es) t) (hn:x ≠ "__name__" :=by decide) (F:(x == ("__debug__" : Str))=false:=by decide)
  (z:(e::es).all ZY=true:=by rfl):PE X (.Call (.Name x p) (e::es) [] pos) (tCB r t):=by
 rw[Qc4,Qa4]at z;intro pins s σ H Q I h;refine Qc2 (Gh I O hm hv (PyProof.Rows.callWith_builtin1 (thn (ha pos pins s σ H _ I h) λG s1 ⟨vs,H1,Ua,J,Z⟩=>Y pins s1 σ H1 vs G Q Ua J Z) (Zv z.1) (Xg z.2)) hn F)
def Zcp (Y:YS X (.type T) r) (O:Gl X x) (hm:X.mg x=none) (hv:bootBuiltins x=some (.type T)) (ha:PA X (e::es) t) (hn:x ≠ "__name__" :=by decide) (F:(x == ("__debug__" : Str))=false:=by decide)
  (z:(e::es).all ZY=true:=by rfl):PE X (.Call (.Name x p) (e::es) [] pos) (tCB r t):=by
 rw[Qc4,Qa4]at z;intro pins s σ H Q I h;refine Qc2 (Gh I O hm hv (Qcr (thn (ha pos pins s σ H _ I h) λG s1 ⟨vs,H1,Ua,J,Z⟩=>Y pins s1 σ H1 vs G Q Ua J Z) (Zv z.1) (Xg z.2)) hn F)
end
def Yr:bootBuiltins "len" = some (.builtin "len"):=by decide +kernel
def ZJ:bootBuiltins "isinstance" = some (.builtin "isinstance"):=by decide +kernel
def xE:bootBuiltins "sorted" = some (.builtin "sorted"):=by decide +kernel
def bt_all:bootBuiltins "all" = some (.builtin "all"):=by decide +kernel
def j5:bootBuiltins "int" = some (.type "int"):=by decide +kernel
def Zlb:bootBuiltins "bool" = some (.type "bool"):=by decide +kernel
def Zjr:bootBuiltins "str" = some (.type "str"):=by decide +kernel
def Zcq:bootBuiltins "list" = some (.type "list"):=by decide +kernel
def ZZ:bootBuiltins "tuple" = some (.type "tuple"):=by decide +kernel
def Zjs:bootBuiltins "set" = some (.type "set"):=by decide +kernel
def wH:bootBuiltins "reversed" = some (.type "reversed"):=by decide +kernel
def gP:bootBuiltins "range" = some (.type "range"):=by decide +kernel
def Wr :PySem.W.kitOne K (.type "int") (.type "int")=some true:=by rfl
def vD :PySem.W.kitOne K (.type "int") (.type "bool")=some false:=by with_unfolding_all rfl
def X0 :PySem.W.kitOne K (.type "str") (.type "int")=some false:=by with_unfolding_all rfl
def xF :PySem.W.kitOne K (.type "str") (.type "str")=some true:=by rfl
def xG :PySem.W.kitOne K (.type "int") (.type "str")=some false:=by with_unfolding_all rfl
structure QE(X:Cx)(e:Ax)(t:TE):Prop where
 out:PE X e t
structure QT(X:Cx)(e:Ax)(t:TT):Prop where
 out:PT X e t
structure QW(X:Cx)(e:Ax)(t:TT):Prop where
 out:PW X e t
structure QA(X:Cx)(e:An)(t:TA):Prop where
 out:PA X e t
structure QSs(X:Cx)(e:List Ay)(t:TS):Prop where
 out:PSs X e t
structure QS(X:Cx)(e:Ay)(t:TS):Prop where
 out:PS X e t
structure QG(X:Cx)(e:Ax)(t:TG):Prop where
 out:PG X e t
structure QI(X:Cx)(tg e:Ax)(t:TI):Prop where
 out:PI X tg e t
structure QO(X:Cx)(e:Option Ax)(t:TO):Prop where
 out:PO X e t
def qv {X:Cx} (i:Nat)  {pos:Pos} (F:X.N[i]?=some x:=by rfl) (G:Vis X.env.scope x:=by first|exact Or.inl U|exact Or.inr (Or.inl U)|exact Or.inr (Or.inr U)) (z:(x == ("__debug__" : Str))=false:=by decide) (e:(x == ("__classdict__" : Str))=false:=by decide):QE X (.Name x pos) (vk i):=⟨Zi6 F G z e⟩
def Zf{X:Cx}{i j pos:_}:QE X (.Constant (.int i) j pos) (tC (.int i)):=⟨λ_ _ _ H _ I h=>wpAny_Constant_int ⟨.int i,H,I.tok _,⟨_,U⟩,h⟩⟩
def Y2{X:Cx}{b j pos:_}:QE X (.Constant (.bool b) j pos) (tC (.bl b)):=⟨λ_ _ _ H _ I h=>Constant_bool ⟨.bl b,H,I,U,h⟩⟩
def xH{X:Cx}{j pos:_}:QE X (.Constant .none j pos) (tC .non):=⟨λ_ _ _ H _ I h=>Constant_none ⟨.non,H,I,U,h⟩⟩
def Zk{X:Cx}{x j pos:_}:QE X (.Constant (.str x) j pos) (tC (.str x)):=⟨λ_ _ _ H _ I h=>Calls.Constant_str ⟨.str x,H,I.tok _,⟨_,U⟩,h⟩⟩
def Y3 {X:Cx}  {v:V} {u:Av} {pos:Pos} (F:Gl X x) (e:X.mg x=some u) (r:RelV v u) (z:(x == ("__debug__" : Str))=false:=by decide):QE X (.Name x pos) (tC v):=⟨λ_ _ _ H _ I h=>JP I F e ⟨v,H,I,r,h⟩ z⟩
def Ws {X:Cx}  {v:V} {u:Av} {pos:Pos} (J:Gl X x) (e:X.mg x=none) (G:bootBuiltins x=some u) (r:RelV v u) (F:x ≠ "__name__" :=by decide) (z:(x == ("__debug__" : Str))=false:=by decide):QE X (.Name x pos) (tC v):=⟨λ_ _ _ H _ I h=>Gh I J e G ⟨v,H,I,r,h⟩ F z⟩
theorem Zs{X:Cx}{a:Ax}{b:Ax}{pos:Pos}{e:Operator}{r:R2}(z:OpR X (binaryOp e) r)(Ua:QE X a d)(G:QE X b Z):QE X (.BinOp a e b pos) (tOp r d Z):=⟨by
 intro pins s σ H Q I h;exact wpAny_BinOp (binT Ua.out G.out I h λv u J x y H2 O Y F q=>z pins J σ H2 x y v u Q O Y F q)⟩
theorem WS{X:Cx}{a:Ax}{pos:Pos}{e:UnaryOp}{r:V->Hp->VK->Prop}(z:UnR X (unaryOp e) r)(O:QE X a d):QE X (.UnaryOp e a pos) (tUn r d):=⟨by
 intro pins s σ H Q I h;exact UnaryOp_ (thn (O.out pins s σ H _ I h) λv Ua ⟨x,H1,G,F,J⟩=>z pins Ua σ H1 x v Q G F J)⟩
theorem Yt{X:Cx}{a:Ax}{b:Ax}{pos:Pos}{e:CmpOp}{r:R2}(z:OpR X (compareOp e) r)(Y:QE X a d)(G:QE X b Z)(Ua:behindInMarks e b=false):QE X (.Compare a [e] [b] pos) (tOp r d Z):=⟨by
 intro pins s σ H Q I h;exact wpAny_Compare1 (binT Y.out G.out I h λv u J x y H2 O rx F q=>z pins J σ H2 x y v u Q O rx F q) Ua⟩
theorem Zq{X:Cx}{a:Ax}{b:Ax}{pos:Pos}{F:CmpOp}{r:R2}(ho:OpR X (compareOp F) r)(ha:QE X a d)(hb:QE X b Z)(hm:behindInMarks F b=false):QT X (.Compare a [F] [b] pos) (tTest (tOp r d Z)):=⟨by
 intro pins s σ H Q I h;refine wpAny_isTrue_Compare1 (thn (ha.out pins s σ H _ I h) λv s1 ⟨x,H1,G,r1,O⟩=>thn (hb.out pins s1 σ H1 _ G O) λu s2 ⟨y,H2,J,r2,q2⟩=>
  thn (ho pins s2 σ H2 x y v u _ J r1 r2 q2) λc s3 ⟨z,H3,I3,Ua,k,e,Y⟩=>?_) hm
 subst e;cases Ua;exact Qdl ⟨H3,I3,Y⟩⟩
def Y6{X:Cx}(h:QE X e Z)(G:∀z,isTrue e X.env z=(do let v <-z;standAt e.pos;holding [v] (truthy v)):=by intro _;rfl):QT X e (tB Z):=⟨by
 intro pins s σ H Q I hw;refine isTrue_plain (thn (h.out pins s σ H _ I hw) λv Ua ⟨x,H1,J,F,O⟩=>?_) (G _);obtain⟨d,rfl,q⟩:=O;cases F;exact Qdl ⟨H1,J,q⟩⟩
theorem WT{X:Cx}{a:Ax}{pos:Pos}(z:QT X a L):QW X (.BoolOp .And [a] pos) L:=⟨by
 intro F pins s σ H Q I h;refine isTrue_and (thn (z.out pins s σ H Q I h) λc G e=>?_);cases c with
 |true=>exact isTrue_and_nil e
 |false=>exact e⟩
theorem xI{X:Cx}{a:Ax}{pos:Pos}(z:QT X a L):QW X (.BoolOp .Or [a] pos) L:=⟨by
 intro F pins s σ H Q I h;refine isTrue_or (thn (z.out pins s σ H Q I h) λc G e=>?_);cases c with
 |false=>exact isTrue_or_nil e
 |true=>exact e⟩
theorem qC{X:Cx}{a:Ax}{b:Ax}{pos:Pos}{tB':TT}{rest:An}(J:QT X a L)(F:QW X (.BoolOp .And (b::rest) pos) tB'):QW X (.BoolOp .And (a::b::rest) pos) (tAnd L tB'):=⟨by
 intro G pins s σ H Q I h;refine isTrue_and (thn (J.out pins s σ H _ I h) λc O ⟨H1,e,z⟩=>?_);cases c with
 |true=>exact F.out G pins O σ H1 Q e z
 |false=>exact⟨H1,e,z⟩⟩
theorem vE{X:Cx}{a:Ax}{b:Ax}{pos:Pos}{tB':TT}{rest:An}(J:QT X a L)(F:QW X (.BoolOp .Or (b::rest) pos) tB'):QW X (.BoolOp .Or (a::b::rest) pos) (tOr L tB'):=⟨by
 intro G pins s σ H Q I h;refine isTrue_or (thn (J.out pins s σ H _ I h) λc O ⟨H1,e,z⟩=>?_);cases c with
 |true=>exact⟨H1,e,z⟩
 |false=>exact F.out G pins O σ H1 Q e z⟩
theorem vF{X:Cx}{a:Ax}{pos:Pos}(z:QT X a L):QT X (.UnaryOp .Not a pos) (tNot L):=⟨by
 intro pins s σ H Q I h;exact isTrue_not (thn (z.out pins s σ H _ I h) λc F ⟨H1,e,q⟩=>⟨H1,e,q⟩)⟩
def xJ{X:Cx}{a:Ax}{pos:Pos}{e:_}(h:QE X a d):QE X (.BoolOp e [a] pos) d:=⟨λpins s σ H Q I hw=>BoolOp_one (h.out pins s σ H Q I hw)⟩
theorem gQ{X:Cx}{a:Ax}{b:Ax}{pos:Pos}{rest:An}(J:QE X a d)(F:QE X (.BoolOp .And (b::rest) pos) Z):QE X (.BoolOp .And (a::b::rest) pos) (tAndV d Z):=⟨by
 intro pins s σ H Q I h;refine BoolOp_and (thn (J.out pins s σ H _ I h) λv O ⟨x,H1,z,G,e⟩=>?_);obtain⟨c,rfl,e⟩:=e;cases G;refine Qdl ?_;cases c with
 |true=>exact F.out pins O σ H1 Q z e
 |false=>exact⟨.bl false,H1,z,U,e⟩⟩
theorem Zlc{X:Cx}{a:Ax}{b:Ax}{pos:Pos}{rest:An}(J:QE X a d)(F:QE X (.BoolOp .Or (b::rest) pos) Z):QE X (.BoolOp .Or (a::b::rest) pos) (tOrV d Z):=⟨by
 intro pins s σ H Q I h;refine BoolOp_or (thn (J.out pins s σ H _ I h) λv O ⟨x,H1,z,G,e⟩=>?_);obtain⟨c,rfl,e⟩:=e;cases G;refine Qdl ?_;cases c with
 |false=>exact F.out pins O σ H1 Q z e
 |true=>exact⟨.bl true,H1,z,U,e⟩⟩
theorem Zjt{X:Cx}{a:Ax}{pos:Pos}(G:QE X a d):QE X (.UnaryOp .Not a pos) (tNotV d):=⟨by
 intro pins s σ H Q I h;refine UnaryOp_ (thn (G.out pins s σ H _ I h) λv J ⟨x,H1,F,z,e⟩=>?_);obtain⟨c,rfl,e⟩:=e;cases z;exact not_of (Qdl ⟨.bl (!c),H1,F,U,e⟩)⟩
def Zu{X:Cx}:QSs X [] tNext:=⟨λ_ _ σ H _ I h=>Qdn ⟨σ,H,I,h⟩⟩
theorem Zb{X:Cx}{st:Ay}{rest:List Ay}{u:TS}(h1:QS X st A)(h2:QSs X rest u):QSs X (st::rest) (ZX A u):=⟨by
 intro pins s σ H D I h;refine Qf0 (thn (h1.out pins s σ H _ I h) λf F q=>?_);cases f with
 |next=>
  obtain⟨e,H',z,q⟩:=q;exact h2.out pins F e H' D z q
 |ret v=>exact q
 |brk=>exact q
 |cont=>exact q⟩
theorem Ze{X:Cx}{st:Ay}(h1:QS X st A):QSs X [st] A:=⟨by
 intro pins s σ H D I h;refine Qf0 (thn (h1.out pins s σ H D I h) λf e q=>?_);cases f with
 |next=>exact Qdn q
 |ret v=>exact q
 |brk=>exact q
 |cont=>exact q⟩
def Yc{X:Cx}{pos:Pos}(J:QE X e d)(F:swapsWith e none pos.line X.env=pure false:=by rfl):QS X (.Expr e pos) (tDrop d):=⟨by
 intro pins s σ H D I h;exact wpAny_Expr_any (thn (J.out pins s σ H _ I h) λv Ua ⟨x,H1,z,O,G⟩=>⟨σ,H1,z,G⟩) I.quiet F⟩
theorem Zn{X:Cx}{pos:Pos}(J:QE X e d):QS X (.Return (some e) pos) (tRet d):=⟨by
 intro pins s σ H D I h;exact wpAny_Return_some (thn (J.out pins s σ H _ I h) λv O ⟨x,H1,z,G,F⟩=>⟨x,σ,H1,z,G,F⟩)⟩
theorem Z8{X:Cx}{u:TS}{pos:Pos}{c:Ax}{a b:List Ay}(J:QT X c L)(O:QSs X a A)(G:QSs X b u):QS X (.If c a b pos) (tIfS L A u):=⟨by
 intro pins s σ H D I h;refine wpAny_If (thn (J.out pins s σ H _ I h) λd F ⟨H1,e,z⟩=>?_);cases d with
 |true=>exact O.out pins F σ H1 D e z
 |false=>exact G.out pins F σ H1 D e z⟩
theorem Zld{X:Cx}{pos:Pos}(z:X.N.Nodup)(hi:X.N[i]?=some x)(e:Loc X.env.scope x)(F:X.fn x=true\/X.env.scope.names.lookup x=some .local:=by first|exact .inl U|exact .inr U|assumption):QG X (.Name x pos) (WQ i):=⟨yd z hi e⟩
theorem YE{X:Cx}{pos:Pos}(i:Nat)(F:X.N.Nodup)(hi:X.N[i]?=some x:=by exact U)(z:Loc X.env.scope x:=by first|exact .inl U|exact .inr U)(e:X.fn x=true\/X.env.scope.names.lookup x=some .local:=by first|exact .inl U|exact .inr U|assumption):QG X (.Name x pos) (WQ i):=Zld F hi z e
def Zju{X:Cx}{pos:Pos}{i:Ax}{t:TSet}(Ua:QE X o d)(hi:QE X i Z)(hs:PSet X t)(ha:∀v,assign (.Subscript o i pos) X.env v=(do
   let e <-holding [v] (eval o X.env);let z <-holding [v,e] (eval i X.env)
   standAt pos
   holding [v,e,z] (setItem e z v)
   release [v,e,z] []):=by intro _;rfl):QG X (.Subscript o i pos) (gSub d Z t):=⟨by
 intro pins s σ H v u Q I r h;rw[ha];refine Qaa (Qb4 (thn (Ua.out pins s σ H _ I h) λe s1 ⟨x,H1,F,r1,J⟩=>(Qaa (Qb4 (thn (hi.out pins s1 σ H1 _ F J) λz s2 ⟨y,H2,G,r2,q2⟩=>(Qaa (wpAny_standAt (Qaa (Qb4 (thn (hs pins s2 σ H2 x y v e z u _ G r1 r2 r q2) λ_ s3 ⟨Y,I3,O⟩=>(wpAny_release ⟨σ,Y,I3,O⟩)))))))))))⟩
def Zcr{X:Cx}{pos:Pos}{g:TG}(G:QE X e d)(F:QG X o g)(O:swapsWithSole [o] e pos.line X.env=pure false:=by rfl)(hw:swappedStores [o] e X.env=pure none:=by rfl)(h1:(assignEach [o] X.env).map (·.2)=[assign o X.env]:=by rfl):QS X (.Assign [o] e pos) (Zns d g):=⟨by
 intro pins s σ H D I h;refine wpAny_Assign_stores (thn (G.out pins s σ H _ I h) λv Y ⟨x,H1,J,z,Ua⟩=>?_) O hw;rw[h1];exact thn (F.out pins Y σ H1 x v _ J z Ua) λ_ Z q=>q⟩
theorem qs_set{X:Cx}{pos:Pos}(G:X.N.Nodup)(hi:X.N[i]?=some x)(z:Loc X.env.scope x)(I:QE X e d)(F:swapsWith e (some (.Name x p)) pos.line X.env=pure false:=by rfl)(J:X.fn x=true\/X.env.scope.names.lookup x=some .local:=by first|exact .inl U|exact .inr U|assumption):QS X (.Assign [.Name x p] e pos) (Zns d (WQ i)):=⟨ps_set G hi z I.out F⟩
theorem Zw{X:Cx}{pos:Pos}(i:Nat)(I:X.N.Nodup)(J:QE X e d)(hi:X.N[i]?=some x:=by exact U)(G:Loc X.env.scope x:=by first|exact .inl U|exact .inr U)(F:swapsWith e (some (.Name x p)) pos.line X.env=pure false:=by rfl)(z:X.fn x=true\/X.env.scope.names.lookup x=some .local:=by first|exact .inl U|exact .inr U|assumption):QS X (.Assign [.Name x p] e pos) (Zns d (WQ i)):=qs_set I hi G J F z
theorem yi{X:Cx}{pos:Pos}{c:Ax}{body:List Ay}{tb:TS}(hp:PassesOwn (model X.prog X.w) X.A X.env X.xe)(hc:QT X c L)(hb:QSs X body tb):QS X (.While c body [] pos) (Zjb L tb):=⟨by
 intro pins s σ H D I h;obtain⟨W,⟨m0,w0⟩,F⟩:=h;refine wpAny_While (codeAny_whileLoop (λn s'=>∃G H',Inv X pins G H' s'/\W n G H') ?_ m0 ⟨σ,H,I,w0⟩);rintro n s1 ⟨z,H1,I1,w1⟩;refine Qd6 hp (thn (hc.out pins s1 z H1 _ I1 (F n z H1 w1)) λb s2 ⟨H2,I2,Ua⟩=>?_);cases b with
 |true=>
  obtain⟨N,hN,Ua⟩:=Ua;refine Qd6 hp (thn (hb.out pins s2 z H2 _ I2 Ua) λf s3 O=>?_);cases f with
  |next=>
   obtain⟨e,J,I3,Z⟩:=O;obtain⟨Y,hm,w3⟩:=hN e J Z;exact⟨Y,hm,e,J,I3,w3⟩
  |cont=>
   obtain⟨e,J,I3,Z⟩:=O;obtain⟨Y,hm,w3⟩:=hN e J Z;exact⟨Y,hm,e,J,I3,w3⟩
  |brk=>exact O
  |ret v=>exact O
 |false=>
  exact Qdn ⟨z,H2,I2,Ua⟩⟩
def YF{X:Cx}{l:Ax}(J:QE X l d):QI X e l (Zgt X.K d):=⟨by
 intro pins s σ H R I h;refine thn (J.out pins s σ H _ I h) λv s1 ⟨x,H1,F,Ua,Y⟩=>?_;obtain⟨a,z,⟨xs,Z⟩,q⟩:=Y;subst z;cases Ua;obtain⟨O,rv,p,hz⟩:=F.list Z;refine Qey p.isList ⟨_,_,_,_,H1,U,F.kept λb o z=>Qad _ z,Zbz a _,⟨_,Qak _ U,U,U⟩,λb G=>?_,q⟩;have z:=by simpa using G
 subst z;exact F.fpOk (Qaj _) (F.hok.fresh (Qaj _))⟩
def XC{X:Cx}{l:Ax}(J:QE X l d):QI X e l (iTup X.K d):=⟨by
 intro pins s σ H R I h;refine thn (J.out pins s σ H _ I h) λv s1 ⟨x,H1,F,Ua,Y⟩=>?_;obtain⟨a,z,⟨xs,Z⟩,q⟩:=Y;subst z;cases Ua;obtain⟨O,rv,p,hz⟩:=F.tuple Z;refine wpAny_pyIter_tuple (p) ⟨_,_,_,_,H1,U,F.kept λb o z=>Qad _ z,Zac a _,⟨_,Qak _ U,U,U⟩,λb G=>?_,q⟩;have z:=by simpa using G
 subst z;exact F.fpOk (Qaj _) (F.hok.fresh (Qaj _))⟩
def Yu{X:Cx}{iter:Ax}{body:List Ay}{wi:TI}{g:TG}{tb:TS}{pos:Pos}(F:PassesOwn (model X.prog X.w) X.A X.env X.xe)(z:X.calm=true)(hi:QI X e iter wi)(J:QG X e g)(I:QSs X body tb)(G:∀x,foldedSetIterable iter X.env x=pure x:=by intro _;rfl):QS X (.For e iter body [] pos) (tFor wi g tb):=⟨ps_for F z hi.out J.out I.out G⟩
theorem Yf{X:Cx}{t:TA}{pos:Pos}{O:_}(h:QA X C t):QE X (.Tuple C O pos) (tTup t):=⟨by
 intro pins s σ H Q I Ua;refine wpAny_Tuple_spliced (thn (h.out pos pins s σ H _ I Ua) λG Y ⟨xs,H1,F,r,z,q⟩=>⟨by rw[<-r.length];exact z,?_⟩);have J:=F.hok.fresh (Qaj _);refine⟨.ref _,_,F.laid (λb u e=>Qad _ e) (Qaj _) ?_,U,q _ J⟩;exact⟨z,G,r,gM.new _ _⟩⟩
theorem ZP{X:Cx}{t:TA}{pos:Pos}(h:QA X C t):QE X (.List C pos) (tLst t):=⟨by
 intro pins s σ H Q I O;refine wpAny_List_spliced (thn (h.out pos pins s σ H _ I O) λG Ua ⟨xs,H1,F,r,z,q⟩=>⟨by rw[<-r.length];exact z,?_⟩);have J:=F.hok.fresh (Qaj _);refine⟨.ref _,_,F.laid (λb u e=>Qad _ e) (Qaj _) ?_,U,q _ J⟩;exact⟨z,G,0,r,Qak _ U⟩⟩
def Zd{X:Cx}:QA X [] Znt:=⟨λ_ _ _ _ H Q I h=>Qd8 ⟨[],H,I,.nil,h⟩⟩
def Zi{X:Cx}{t:TA}(G:QE X e d)(F:QA X C t)(z:ZY e=true:=by rfl):QA X (e::C) (qT d t):=⟨pa_c G.out F.out z⟩
def Gk {X:Cx} {CX:CXT} {k:Nat}  {fd:Ao} {ps:Ai} {sp:Sp}   {E:XK}   {pos:Pos}   {t:TA} (F:xB X.prog X.w X.K X.mg X.base CX k f fd ps sp) (hr:Wo k X.A) (Y:Gl X x) (hm:X.mg x=some (.ref f)) (Z:PySem.W.keepIn X.K (.ref f)=true) (O:Binds X.K fd ps G) (J:Vals u G) (Ua:Passes CX X E) (ha:QA X (e::C) t) (z:(x == ("__debug__" : Str))=false:=by decide) (I:(e::C).all ZY=true:=by rfl):QE X (.Call (.Name x p) (e::C) [] pos) (Zgx sp u E t):=⟨Zg0 F hr Y hm Z O J Ua ha.out z I⟩
def Zr {X:Cx}   {pos:Pos}   {t:TA} {id:String} {r:A2->Hp->VK->Prop} (F:YS X (.builtin id) r) (Y:Gl X x) (I:X.mg x=none) (O:bootBuiltins x=some (.builtin id)) (J:QA X (e::C) t) (Ua:x ≠ "__name__" :=by decide) (z:(x == ("__debug__" : Str))=false:=by decide) (G:(e::C).all ZY=true:=by rfl):QE X (.Call (.Name x p) (e::C) [] pos) (tCB r t):=⟨Zco F Y I O J.out Ua z G⟩
def Z3 {X:Cx}   {pos:Pos}   {t:TA} {T:String} {r:A2->Hp->VK->Prop} (F:YS X (.type T) r) (Y:Gl X x) (I:X.mg x=none) (O:bootBuiltins x=some (.type T)) (J:QA X (e::C) t) (Ua:x ≠ "__name__" :=by decide) (z:(x == ("__debug__" : Str))=false:=by decide) (G:(e::C).all ZY=true:=by rfl):QE X (.Call (.Name x p) (e::C) [] pos) (tCB r t):=⟨Zcp F Y I O J.out Ua z G⟩
def YG {X:Cx}  {pos:Pos} {t:TA} {a:Ax} (G:Gl X "range") (F:X.mg "range" = none) (I:QA X [a] t) (z:ZY a=true:=by rfl):QI X e (.Call (.Name "range" p) [a] [] pos) (Zn5 t):=⟨Zb2 G F I.out (by rw[Zv z];rfl)⟩
def Y7 {X:Cx}     {t:TA} {id:String} {T:String} {name:Str}   {Ua:V->List V->Hp->VK->Prop} (pa:PlainAttrs T) (I:Slot T name id) (J:typeOf (.builtin id)=pure (.type "method_descriptor")) (Z:MtR X id Ua) (Y:QE X o d) (ha:QA X (e::C) t) (G:attributeBase o name X.env (eval o X.env)=eval o X.env:=by rfl) (z:(p.endLine == B.line)=true:=by rfl) (O:(e::C).all ZY=true:=by rfl) (hl:(e::C).length<30:=by decide):QE X (.Call (.Attribute o name p) (e::C) [] B) (tBM X.K T Ua d t):=⟨by
 have F:=O;rw[Qc4,Qa4]at F;refine pe_bm pa I J Z Y.out ha.out G ?_ z (Zv F.1) (Xg F.2);rw[all_plain O];exact Qan hl⟩
def WU {X:Cx}   {name:Str}   {T:String} {id:String} {r:V->List V->Hp->VK->Prop} (Y:PlainAttrs T) (F:Slot T name id) (G:typeOf (.builtin id)=pure (.type "method_descriptor")) (hm:MtR X id r) (Ua:QE X o d) (z:attributeBase o name X.env (eval o X.env)=eval o X.env:=by rfl) (e:(p.endLine == B.line)=true:=by rfl):QE X (.Call (.Attribute o name p) [] [] B) (tBM0 X.K T r d):=⟨by
 intro pins s σ H Q I h;refine wpAny_Call_method0_late z e (thn (Ua.out pins s σ H _ I h) λv Z ⟨x,H1,O,J,ty,q1⟩=>?_);obtain⟨h1,h2⟩:=Zjl O J ty;exact⟨T,id,Y,F,G,h1,h2,Qdw U (PySem.evalArgs_none (hm pins Z σ H1 x [] v [] Q O J .nil q1))⟩⟩
theorem Zle{X:Cx}:QO X none Zk2:=⟨by
 intro pins s σ H Q I h;exact Qaf ⟨none,H,I,.none,h⟩⟩
theorem Zlf{X:Cx}(h:QE X e d):QO X (some e) (tPart d):=⟨by
 intro pins s σ H Q I hw;refine thn (h.out pins s σ H _ I hw) λu J ⟨x,H1,F,z,G⟩=>?_;obtain⟨i,rfl,q⟩:=G;obtain⟨t,rfl⟩:=z;exact⟨some i,H1,F,.int i t,q⟩⟩
theorem Zg1{X:Cx}{lo:Option Ax}{hi:Option Ax}{tl:TO}{th:TO}{pos:Pos}{r:V->Option Int->Option Int->Hp->VK->Prop}(hr:SlR X r)(Y:QE X e d)(hl:QO X lo tl)(hu:QO X hi th):QE X (.Subscript e (.Slice lo hi none p) pos) (tSl r d tl th):=⟨by
 intro pins s σ H Q I h;refine Subscript_ (thn (Y.out pins s σ H _ I h) λv s1 ⟨x,H1,I1,r1,q1⟩=>?_);refine wpAny_Slice (thn (hl.out pins s1 σ H1 _ I1 q1) λz s2 ⟨l,H2,I2,pl,q2⟩=>thn (hu.out pins s2 σ H2 _ I2 q2) λvu F ⟨u,G,I3,J,q3⟩=>?_);refine Qaf ?_;have I4:Inv X pins σ G {F with heap:=F.heap.push {cls:=.type "slice",data:=.fields #[z,vu,.none]}}:=I3.kept λb ob q=>Qad _ q;obtain⟨T,id,Ua,Z,O⟩:=hr pins _ σ G x v z vu l u _ Q I4 r1 (Heap.IsSliceOf.new ..) pl J q3;exact tail_any Z Ua O (by with_unfolding_all rfl)⟩
def Z0{X:Cx}{a:Ax}{b:Ax}{pos:Pos}{r:R2}(Y:IxR X r)(Ua:QE X a d)(F:QE X b Z)(O:Zk4 b:=by exactλ_ _=>U):QE X (.Subscript a b pos) (tOp r d Z):=⟨by
 intro pins s σ H Q I h;exact Subscript_ (binT Ua.out F.out I h λv u G x y H2 J e z q=>Y a b pins G σ H2 x y v u Q J e z q (O _ _))⟩
def JQ{X:Cx}(h:QW X e L):QT X e L:=⟨h.out.pt⟩
end L2
set_option maxHeartbeats 4000000
namespace L2
def j6(cells:List (Str×Aw)):List (Str×NameKind)->List (Str×Aw)->List (Str×Aw)
 |[],acc=>acc
 |(n,k)::r,acc=>j6 cells r (if(k == NameKind.free)=true then(n,(cells.lookup n).getD 0)::acc else acc)
noncomputable def j7{env:Env}:∀(names:List (Str×NameKind))(acc:List (Str×Aw)),(∀y∈names,y.2=.free->∃c,env.cells.lookup y.1=some c)->
  (forIn names acc λ(x:Str×NameKind) (r:List (Str×Aw))=>match x with
   | (name,kind)=>if (kind == NameKind.free)=true then do let a <-cellOf env name;pure (ForInStep.yield ((name,a)::r)) else pure (ForInStep.yield r):Sem (List (Str × Aw)))=pure (j6 env.cells names acc)
 |[],acc,_=>rfl
 |(n,k)::r,acc,h=>by
  rw[List.forIn_cons];have I:=λF=>j7 r F λy J=>h y (Qai _ J)
  by_cases G:(k == NameKind.free)=true
  .obtain⟨c,O⟩:=h (n,k) Qah (by grind);have z:=O;have e:cellOf env n=pure c:=by unfold cellOf;rw[z]
   simp only[G,e];rw[j6,Qa2 G,z];exact I _
  .rw[j6];simp only[G];exact I acc
def Jv{scope:Scope}{env:Env}(h:∀y∈scope.names,y.2=.free->∃c,env.cells.lookup y.1=some c):closureFor scope env=pure (j6 env.cells scope.names []):=by
 show(do let r <-_;pure r)=_;rw[j7 _ [] h];rfl
noncomputable def Gm{cells:List (Str×Aw)}:∀{names:List (Str×NameKind)} {acc:List (Str×Aw)},(∀y∈names,y.2=.free->∃c,cells.lookup y.1=some c)->(∀x c,acc.lookup x=some c->cells.lookup x=some c)->
  ∀x c,(j6 cells names acc).lookup x=some c->cells.lookup x=some c
 |[],acc,_,I,x,c,h=>I x c h
 |(n,k)::r,acc,O,I,x,c,h=>by
  refine Gm (λy G=>O y (Qai _ G)) (λy d z=>?_) x c h
  by_cases Ua:(k == NameKind.free)=true
  .rw[Qa2 Ua]at z;obtain⟨e,Y⟩:=O (n,k) Qah (by grind);have F:=Y;rw[F,Qdg]at z;cases G:y == n with
   |true=>
    rw[G]at z;have J:y=n:=by grind
    rw[J,F];exact z
   |false=>
    rw[G]at z;exact I y d z
  .grind
theorem vG{cells:List (Str×Aw)}:∀{names:List (Str×NameKind)} {acc:List (Str×Aw)} {x:Str},(∃c,acc.lookup x=some c)->∃c,(j6 cells names acc).lookup x=some c
 |[],acc,x,h=>h
 |(n,k)::r,acc,x,h=>by
  rw[j6];refine vG ?_
  by_cases e:(k == NameKind.free)=true
  .grind
  .rw[Qax e];exact h
theorem Jw{cells:List (Str×Aw)}:∀{names:List (Str×NameKind)} {acc:List (Str×Aw)} {x:Str},names.lookup x=some .free->∃c,(j6 cells names acc).lookup x=some c
 |[],acc,x,h=>by cases h
 |(n,k)::r,acc,x,h=>by
  rw[j6];rw[Qdg]at h;cases hx:x == n with
  |true=>
   rw[hx]at h;refine vG ?_;rw[Option.some.inj h,Qa2 (by rfl),Qdg,hx];exact⟨_,U⟩
  |false=>
   rw[hx]at h;exact Jw h
noncomputable def qD{scope:Scope}{env:Env}(z:env.scope.kind=.function):∀{names:List (Str×NameKind)} {x:Str},names.lookup x=some .free->env.kindOf x=some .cell->
  (names.map λ(n,k)=>if(k == NameKind.free&&env.scope.kind == .function&&env.kindOf n == some .cell)=true then(n,NameKind.cell)else(n,k)).lookup x=some .cell
 |[],_,h,_=>by cases h
 |(n,k)::r,x,h,F=>by
  rw[Qdg]at h;show List.lookup x ((if(k == NameKind.free&&env.scope.kind == .function&&env.kindOf n == some .cell)=true then(n,NameKind.cell)else(n,k))::_)=_;cases hx:x == n with
  |true=>
   rw[hx]at h;have e:x=n:=by grind
   rw[Option.some.inj h,z,<-e,F];simp
  |false=>
   rw[hx]at h;have G:=qD (scope:=scope) z h F
   by_cases I:(k == NameKind.free&&env.scope.kind == .function&&env.kindOf n == some .cell)=true
   .grind
   .grind
noncomputable def Gn{env:Env}:∀{names:List (Str×NameKind)} {x:Str},names.lookup x=some .free->env.kindOf x=some .free->
  (names.map λ(n,k)=>if(k == NameKind.free&&env.scope.kind == .function&&env.kindOf n == some .cell)=true then(n,NameKind.cell)else(n,k)).lookup x=some .free
 |[],_,h,_=>by cases h
 |(n,k)::r,x,h,z=>by
  rw[Qdg]at h;show List.lookup x ((if(k == NameKind.free&&env.scope.kind == .function&&env.kindOf n == some .cell)=true then(n,NameKind.cell)else(n,k))::_)=_;cases hx:x == n with
  |true=>
   rw[hx]at h;have e:¬(k == NameKind.free&&env.scope.kind == .function&&env.kindOf n == some .cell)=true:=by grind
   rw[Qax e,Qdg,hx,Option.some.inj h]
  |false=>
   rw[hx]at h;have F:=Gn h z
   by_cases e:(k == NameKind.free&&env.scope.kind == .function&&env.kindOf n == some .cell)=true
   .grind
   .grind
theorem qE{env:Env}:∀{names:List (Str×NameKind)} {x:Str},(∀y∈names,y.2≠.cell)->
    ((names.map λ(n,k)=>if(k == NameKind.free&&env.scope.kind == .function&&env.kindOf n == some .cell)=true then(n,NameKind.cell)else(n,k)).lookup x=some .cell \/
     (names.map λ(n,k)=>if(k == NameKind.free&&env.scope.kind == .function&&env.kindOf n == some .cell)=true then(n,NameKind.cell)else(n,k)).lookup x=some .free)->names.lookup x=some .free
  |[],_,_,h=>by grind
  |(n,k)::r,x,z,h=>by
    have F:=qE (env:=env) (x:=x) λy e=>z y (Qai _ e)
    by_cases G:(k == NameKind.free&&env.scope.kind == .function&&env.kindOf n == some .cell)=true
    . grind
    . grind
def cxC(X:Cx)(N':Ai)(scope:Scope)(C:Aw)(s₂:As)(H₂:Hp)(ex:List Aw):Cx:=
 {X with N:=N',s₀:=s₂,H₀:=H₂,env:=compEnvC scope (j6 X.env.cells scope.names []) C X.env,outer:=X.stack,stack:=X.stack,ex:=ex,fn:=λ_=>false,pn:=[],xe:=λ_ _=>False}
def xK(is:Aj)(σ:St)(v:Option V):St:=v::is.map λi=>(σ[i]?).getD none
def Zod(xs:Ai)(is:Aj)(σ:St):St:=xs.map (λ_=>none)++is.map λi=>(σ[i]?).getD none
structure ZS(S scope:Scope)(N:Ai)(x:Str)(ys:Ai)(is:Aj):Prop where
 kind:scope.kind=.function:=by rfl
 cell:∀y∈scope.names,y.2≠.cell:=by decide +kernel
 names:∀y∈scope.names,y.2=.local->scope.names.lookup y.1=some .local:=by decide +kernel
 own:scope.names.lookup x=some .local:=by rfl
 free:∀y∈scope.names,y.2=.free->S.names.lookup y.1=some .cell\/S.names.lookup y.1=some .free:=by decide +kernel
 vis:∀p∈ys.zip is,N[p.2]?=some p.1/\scope.names.lookup p.1=some .free:=by decide +kernel
 len:ys.length=is.length:=by rfl
 nd:(x::ys).Nodup:=by decide +kernel
def PF(X:Cx)(ifs:An)(t:TT):Prop:=
 ∀(pins:Ac)(s:As)(σ:St)(H:Hp)(Q:Bool->Hp->Prop),Inv X pins σ H s->t σ H Q->
  A4 X (forIn ifs true λc r=>if r=true then do let ok <-isTrue c X.env (eval c X.env);pure (ForInStep.yield ok)else pure (ForInStep.yield r)) (TP X pins σ Q) X.xe s
structure QF(X:Cx)(ifs:An)(t:TT):Prop where
 out:PF X ifs t
def Zg2:TT:=λ_ H Q=>Q true H
def Xo{X:Cx}:QF X [] Zg2:=⟨λ_ _ _ H _ I h=>wpAny_tests_nil ⟨H,I,h⟩⟩
def vH{X:Cx}{c:Ax}(h:QT X c L):QF X [c] L:=⟨λpins s σ H Q I hw=>wpAny_tests_one (h.out pins s σ H Q I hw)⟩
section
variable {X:Cx}{S scope:Scope}{N:Ai}{x:Str}{ys:Ai}{is:Aj}{pins:Ac}{σ:St}{H₂:Hp}{s₂:As}{fp:List Aw}
theorem ZS.cellOf'(K:ZS S scope N x ys is)(z:X.env.scope=S)(ok:X.Ok):∀y∈scope.names,y.2=.free->∃c,X.env.cells.lookup y.1=some c:=λy e h=>
 ok.has y.1 (by show X.env.scope.names.lookup y.1=_\/X.env.scope.names.lookup y.1=_;rw[z];exact K.free y e h)
theorem ZS.cl(K:ZS S scope N x ys is)(e:X.env.scope=S)(ok:X.Ok):∀y c,(j6 X.env.cells scope.names []).lookup y=some c->X.env.cells.lookup y=some c:=
 Gm (K.cellOf' e ok) λ_ _ z=>by cases z
theorem gR{names:List (Str×NameKind)}{y:Str}{k:NameKind}(h:names.lookup y=some k):(y,k)∈names:=by
 induction names with
 |nil=>cases h
 |cons p r e=>
  obtain⟨n,z⟩:=p;rw[Qdg]at h;cases hx:y == n with
  |true=>
   rw[hx]at h;have e1:y=n:=by grind
   rw[e1,Option.some.inj h];exact Qah
  |false=>
   rw[hx]at h;exact Qai _ (e h)
theorem Zcs{ns:Ai}(K:ZS S scope N x ys is)(J:X.env.scope=S)(I:Inv X pins σ H₂ s₂){C:Aw}(Ua:s₂.heap.objs.size<=C)(F:∀b∈fp,wA X pins H₂ b)(O:∀b∈fp,b<s₂.heap.objs.size):(cxC X ns scope C s₂ H₂ fp).Ok where
 mod:=I.ok.mod
 kind:=K.kind
 glob:=I.ok.glob
 blt:=I.ok.blt
 above:=Ua
 inj:=λy z c h1 h2=>I.ok.inj y z c (K.cl J I.ok y c h1) (K.cl J I.ok z c h2)
 has:=λy Y=>Jw (qE K.cell Y)
 cab:=λy c h=>by cases h
 hd:=I.ok.hd
 frames:=I.ok.frames
 stk:=.inl U
 exf:=λb G=>⟨λe=>absurd (Qa7 (O b G) (Qa9 Ua (Qg9 (Eq.symm e)))) (Qcf _),λy c h=>(F b G).2.2.2.2.1 y c (K.cl J I.ok y c h)⟩
 bs:=I.bs
 bsz:=Qa9 I.ok.bsz I.sz
 noex:=λb o e G=>by
  rcases(F b G).2.2.2.1 with z|z
  .exact I.ok.noex b o e z
  .exact absurd (Qa7 (Qao e) (Qa9 I.ok.bsz z)) (Qcf _)
 exfs:=λb G z=>by
  rcases Qas.mp (I.stkSub b z)with e|e
  .exact(F b G).2.1 e
  .exact(F b G).2.2.1 e
 funs:=I.stack
 frf:=I.stkFree
def Zlg(xs:Ai)(K:ZS S scope N x ys is)(Ua:X.env.scope=S)(hN:X.N=N)(hk:S.kind=.function)(I:Inv X pins σ H₂ s₂){C D:Aw}{F:Heap}{tk:Nat}(hC:s₂.heap.objs.size<=C)(hD:s₂.heap.objs.size<=D)(hDC:D≠C)
  (hfp:∀b∈fp,wA X pins H₂ b) (hlt:∀b∈fp,b<s₂.heap.objs.size) (G:∀b o,s₂.heap.get? b=some o->F.get? b=some o) (hn:F.Ns C λ_=>none) (hacc:F.get? D=some Y) (hod:∀v,Y.data≠.cell v):
  Inv (cxC X (xs++ys) scope C s₂ H₂ fp) [(D,Y)] (Zod xs is σ) H₂ {s₂ with heap:=F,toks:=tk}:=by
 have ok:=Zcs (ns:=xs++ys) K Ua I hC hfp hlt;refine⟨ok,U,I.bare,Un.kept G,⟨_,hn,λi y v h1 h2 h3=>?_⟩,λy c h=>?_,I.hok.fresh hC,λy c h=>I.freeC y c (K.cl Ua I.ok y c h),λp hp=>?_,I.hok.kept G,?_⟩
 .unfold Zod at h2
  by_cases hi:i<xs.length
  .grind
  .have J:(xs++ys)[i]?=some y:=h1;rw[Qa1 (Qg5 hi)]at J;rw[Qa1 (by rw[Qab];exact Qg5 hi),Qab]at h2;generalize i-xs.length=i at J h2;have O:=h2;rw[Qag]at O;cases hj:is[i]? with
   |none=>rw[hj]at O;cases O
   |some j=>
    have hσ:σ[j]?=some (some v):=by
     grind
    have hz:(y,j)∈ys.zip is:=by
     obtain⟨a1,e1⟩:=Qae.mp J;obtain⟨a2,e2⟩:=Qae.mp hj;rw[<-e1,<-e2,<-Qg6 (h:=by grind)];exact Qbh _
    obtain⟨v1,v2⟩:=K.vis _ hz;have Z:X.env.kindOf y=some .cell\/X.env.kindOf y=some .free:=by show X.env.scope.names.lookup y=_\/X.env.scope.names.lookup y=_;rw[Ua];exact K.free _ (gR v2) U
    obtain⟨m,hm,hl⟩:=I.loc;obtain⟨u,r,l⟩:=hl j y v (by rw[hN];exact v1) hσ (.inr Z);refine⟨u,r,.inr ?_⟩;rcases l with⟨l1,_⟩|⟨_,c,l2,l3⟩
    .rcases Z with Z|Z<;>rw[Z]at l1<;>cases l1
    .obtain⟨c',hc'⟩:=Jw (acc:=[]) v2;have e:c'=c:=by have:=K.cl Ua I.ok y c' hc';rw[l2]at this;exact(Option.some.inj this).symm
     subst e;refine⟨Z.imp (qD (scope:=scope) (by rw[Ua];exact hk) v2) (Gn v2),c',hc',?_⟩;obtain⟨o,ho,hd⟩:=l3;exact⟨o,G _ _ ho,hd⟩
 .obtain⟨v,o,ho,hd⟩:=I.cell y c (K.cl Ua I.ok y c h);exact⟨v,o,G _ _ ho,hd⟩
 .have e:p=(D,Y):=by simpa[cxC]using hp
  subst e;refine⟨hacc,I.hok.fresh hD,hDC,λz=>?_,hod⟩;obtain⟨_,o,ho,_⟩:=ok.funs.mem z;exact absurd (Qa7 (Qao ho) hD) (Qcf _)
 .show(Zod xs is σ).length=(xs++ys).length;unfold Zod;rw[Qar,Qab,Qab,Qar,K.len]
def Zlh(I:Inv X pins σ H₂ s₂){C D:Aw}{N':Ai}{Z:St}{H':Hp}{s':As}{pl:Ac}(Ua:Inv (cxC X N' scope C s₂ H₂ fp) pl Z H' s')(hD:s₂.heap.objs.size<=D)(O:H' D=none)
  (F:∀b∈fp,wA X pins H₂ b) {zs:A2}   (hz:zs.length<=sizeLine) (r:Vals zs G) (hd:s'.heap.get? D=some {cls:=.type "list",data:=.seq G.toArray n}):
  Inv X pins σ (upd H' D (.lst zs)) s':=by
 have b:=Ua.base;have Y:=I.hok.fresh hD;refine I.call' Ua.os ⟨b.keep,b.slot,λc o e n hx=>?_,b.there,λc xs e=>?_,λc o u e=>?_,λc ps e=>?_⟩ (λc u e=>?_) Ua.bare λc J=>⟨(F c J).2.2.2.1,(F c J).2.1,(F c J).2.2.2.2.1,(F c J).2.2.2.2.2⟩
 .rw[Zj ((λc o e z=>absurd (Qa7 (Qao e) (Qa9 hD (Qg9 (Eq.symm z)))) (Qcf _)) c o e)];exact b.free c o e n hx
 .rw[Zj (Zm e Y)];exact b.tups c xs e
 .rw[Zj (Zm e Y)];exact b.frzs c o u e
 .rw[Zj (Zm e Y)];exact b.tbls c ps e
 .by_cases J:c=D
  .subst J;rw[Za]at e;cases e;exact⟨hz,G,n,r,hd⟩
  .rw[Zj J]at e;exact(Ua.hok c u e).stay (λ_ _ _ q=>q) (λd q=>by rw[Zj (Zm q O)];exact q) λd xs q=>by rw[Zj (Zm q O)];exact q
end
section
variable {prog:Aq}{w:Au}{A:Ar}{R:Result->Shared->Prop}{s:As}
def Zct{iter:Ax}{scope:Scope}{pos:Pos}{it acc:Av}{env:Env}(I:Nat->Shared->Prop)
  (turn:∀n s,I n s->A3 prog w A (pyNext it) (λr J=>match r with
   |none=>R (.ok .next) J
   |some v=>A3 prog w A (letOwnedTupleGo o it v) (λ_ G=>A3 prog w A (assign o env v) (λ_ s₂=>
     A3 prog w A (forIn C true λc r=>if r=true then do let ok <-isTrue c env (eval c env);pure (ForInStep.yield ok)else pure (ForInStep.yield r)) (λok F=>
      if ok=true then A3 prog w A (eval e env) (λx Ua=>
       A3 prog w A (call (.builtin "list.append") [acc,x]) (λ_ O=>∃m,m<n/\I m O) (λ_ _=>False) Ua) (λ_ _=>False) F
      else∃m,m<n/\I m F) (λ_ _=>False) s₂) (λ_ _=>False) G) (λ_ _=>False) J) (λ_ _=>False) s)
  (n:Nat) (h:I n s):
  codeAny (model prog w) A (.compLoop (.ListComp e [⟨o,iter,C,0⟩] scope pos) 0 it acc env) R s:=by
 refine codeAny_loop U I (λn s hI=>(wpAny_noted ?_)) n h;have nf:∀{E:Ab} (zq16:Av) (s':As),False->E zq16 s':=λ_ _ z=>z.elim;refine Qaa (wpAny_standAt (Qaa (Qcq (turn n s hI) (λr J Y=>?_) nf)));cases r with
 |none=>exact Qaf Y
 |some v=>
  refine Qaa (Qcq Y (λ_ G h₁'=>(Qaa (Qcq h₁' (λ_ s₂ h₂=>Qaa (Qcq h₂ (λok F Z=>?_) nf)) nf))) nf);cases ok with
  |false=>exact Qaf ⟨U,Z⟩
  |true=>
   exact Qaa (Qaa (Qcq Z (λx Ua h₄=>Qaa (Qcq h₄ (λ_ O h₅=>Qaf (Qaf ⟨U,h₅⟩)) nf)) nf))
end
def vI(g:TG)(Sg:St->Prop)(tc:TT)(te:TE)(Q:VK)(J:It)(H1:Hp):Prop:=∃W:Nat->Nat->List V->Hp->Prop,(∃m,W 0 m [] H1)/\∀i m zs H,W i m zs H->
 (J.stop i H/\zs.length<=sizeLine/\∀p,H p=none->Q (.ref p) (upd H p (.lst zs))) \/
 (J.go i H/\zs.length<=sizeLine/\∀x H',J.yld i H x H'->∃e,Sg e/\(∀F,Sg F->g x F H' λG H2=>G=e/\H2=H')/\tc e H' λb H2=>if b=true then te e H2 λy I=>∃z,z<m/\W (i+1) z (zs++[y]) I else∃z,z<m/\W (i+1) z zs H2)
structure Zcu(X:Cx)(S scope:Scope)(N:Ai)(x:Str)(ys:Ai)(is:Aj)(xs:Ai)(tg:Ax)(g:TG)(Sg:St->St->Prop):Prop where
 sc:ZS S scope N x ys is
 hX:X.env.scope=S
 hN:X.N=N
 hk:S.kind=.function
 hc:X.calm=true
 pg:∀C s₂ H₂ fp,PG (cxC X (xs++ys) scope C s₂ H₂ fp) tg g
 s0:∀σ,Sg σ (Zod xs is σ)
def Gp(is:Aj)(tc:TT)(te:TE)(σ:St)(Q:VK)(J:It)(H1:Hp):Prop:=∃W:Nat->Nat->List V->Hp->Prop,(∃m,W 0 m [] H1)/\∀i m zs H,W i m zs H->
 (J.stop i H/\zs.length<=sizeLine/\∀p,H p=none->Q (.ref p) (upd H p (.lst zs))) \/
 (J.go i H/\zs.length<=sizeLine/\∀x H',J.yld i H x H'->tc (xK is σ (some x)) H' λb H2=>if b=true then te (xK is σ (some x)) H2 λy z=>∃e,e<m/\W (i+1) e (zs++[y]) z else∃e,e<m/\W (i+1) e zs H2)
def Zoe(wi:TI)(is:Aj)(tc:TT)(te:TE):TE:=λσ H Q=>wi σ H (Gp is tc te σ Q)
section
variable {X:Cx}{S scope:Scope}{N:Ai}{x:Str}{ys:Ai}{is:Aj}{pins:Ac}{σ:St}{H₂:Hp}{s₂:As}{fp:List Aw}{elt iter:Ax}{px pos:Pos}{ifs:An}{tc:TT}{te:TE}{xs:Ai}{tg:Ax}{g:TG}{Sg:St->St->Prop}{wi:TI}{CW:St->VK->It->Hp->Prop}
def j8{J:It}{it:Aw}{tn:Nat->Heap->Prop}{Q:VK}{RR:Av->Addr->Result->Shared->Prop}{E:Ab}(L:Zcu X S scope N x ys is xs tg g Sg)
  (hf:∀C s₂ H₂ ex,QF (cxC X (xs++ys) scope C s₂ H₂ ex) ifs tc) (he:∀C s₂ H₂ ex,QE (cxC X (xs++ys) scope C s₂ H₂ ex) elt te)
  (I:Inv X pins σ H₂ s₂) (T:Turn X.prog X.w X.K tg J fp it tn) (st:tn 0 s₂.heap) (hfp:∀b∈fp,wA X pins H₂ b)
  (hw:vI g (Sg σ) tc te Q J H₂)
  (fin:∀D C s' H' m',Inv X pins σ H' s'->wA X pins H' C->s'.heap.Ns C m'->Q (.ref D) H'->RR (.ref D) C (.ok .next) s'):
  A4 X (newList []) (λacc Ua=>A4 X (newFunctionEnv scope X.env.globals (j6 X.env.cells scope.names []) [] X.env.qual none .none (some X.env)) (λcenv s₄=>
   codeAny (model X.prog X.w) X.A (.compStart (.ListComp elt [⟨tg,iter,ifs,0⟩] scope pos) 0 (.ref it) acc {cenv with scope:=relabel scope X.env}) (RR acc cenv.locals) s₄) E Ua) E s₂:=by
 obtain⟨W,⟨m0,w0⟩,turn⟩:=hw;have K:=L.sc;refine Qbq (wpAny_newFunctionEnv K.cell (by intro y hy;simp at hy) (λZ Y O=>?_) K.kind);generalize hH2:s₂.heap.push {cls:=.type "list",dict:=none,data:=.seq ([]:Ag).toArray}=H2 at Y O ⊢;have hCs:H2.objs.size=s₂.heap.objs.size+1:=by rw[<-hH2,Qca]
 have hDC:s₂.heap.objs.size≠H2.objs.size:=by rw[hCs];exact Qa8 (Qdz _)
 have hC:s₂.heap.objs.size<=H2.objs.size:=by rw[hCs];exact Qep _
 have hlt:∀b∈fp,b<s₂.heap.objs.size:=λb G=>by obtain⟨o,e,_⟩:=T.obj 0 _ st b G;exact Qao e
 have old:∀b o,s₂.heap.get? b=some o->Z.get? b=some o:=λb o e=>O.extBut b o (by rw[hCs];exact Qa8 (Qd9 (Qao e))) (Qad _ (hH2 ▸ Qad _ e));have st₁:tn 0 Z:=T.keep _ _ _ st λb _ o e=>old b o e;have fpC:∀{H':Hp} {pl:Ac},(∀p∈pl,∀b∈fp,p.1≠b)->(∀b∈fp,H' b=none)->∀b∈fp,wA (cxC X (xs++ys) scope H2.objs.size s₂ H₂ fp) pl H' b:=λ{H' pl} hpl hn b G=>by
  have ok:=Zcs (ns:=xs++ys) K L.hX I hC hfp hlt;exact⟨hn b G,(ok.exf b G).1,ok.exfs b G,.inl G,(ok.exf b G).2,λp hp=>hpl p hp b G⟩
 have Dfp:∀(o:Obj),∀p∈[(s₂.heap.objs.size,o)],∀b∈fp,p.1≠b:=λo p hp b G e=>by
  grind
 have loop:∀Ua:As,Ua={s₂ with heap:=Z,toks:=s₂.toks+([]:List (Str×Av)).length}->
   codeAny (model X.prog X.w) X.A (.compLoop (.ListComp elt [⟨tg,iter,ifs,0⟩] scope pos) 0 (.ref it) (.ref s₂.heap.objs.size) (compEnvC scope (j6 X.env.cells scope.names []) H2.objs.size X.env))
    (RR (.ref s₂.heap.objs.size) H2.objs.size) Ua:=by
  rintro Ua rfl;have I0:=Zlg xs K L.hX L.hN L.hk I (tk:=s₂.toks+([]:List (Str×Av)).length) hC (Qaj _) hDC hfp hlt old Y (O.extBut _ _ hDC (Qad _ (hH2 ▸ Qak _ U))) (λv z=>by cases z);refine Zct (λn s'=>∃(i:Nat)(σ1:St)(zs:A2)(F:Ag)(k:Nat)(H':Hp),Inv (cxC X (xs++ys) scope H2.objs.size s₂ H₂ fp) [(s₂.heap.objs.size,{cls:=.type "list",data:=.seq F.toArray k})] σ1 H' s'/\Sg σ σ1 /\
   Vals zs F/\tn i s'.heap/\(∀b∈fp,H' b=none)/\W i n zs H') ?_ m0 ⟨0,_,[],[],0,H₂,I0,L.s0 σ,.nil,st₁,λb G=>(hfp b G).1,w0⟩
  rintro n s3 ⟨i,σ1,zs,F,k,H3,I3,sg3,rv,st3,fr3,w3⟩;rcases turn i n zs H3 w3 with⟨stop,hz,q⟩|⟨go,hz,step⟩
  .refine thn (T.done (cxC X (xs++ys) scope H2.objs.size s₂ H₂ fp) U U U L.hc i _ s3 _ H3 _ I3 (fpC (Dfp _) fr3) st3 stop) λr s4 ⟨hr,I4⟩=>?_
   subst hr;have hD4:=I4.pin _ (Qba _ (Qat.mpr U));have I5:=Zlh I I4 (Qaj _) hD4.2.1 hfp hz rv hD4.1;obtain⟨m',hm',_⟩:=I4.loc;refine fin _ _ s4 _ m' I5 ?_ hm' (q _ hD4.2.1);refine I.fpOk hC ?_;rw[Zj (Qdx hDC)];exact I4.free
  .refine thn (T.item (cxC X (xs++ys) scope H2.objs.size s₂ H₂ fp) U U U L.hc i _ s3 _ H3 _ I3 (fpC (Dfp _) fr3) st3 go) λr s4 ⟨u,hr,h4⟩=>?_
   subst hr;refine thn h4 λ_ s5 ⟨xv,H5,I5,r5,y5,st5,fr5⟩=>?_;have I5':=I5.pinned (fpC (Dfp _) fr5) (T.obj _ _ st5);obtain⟨σx,sgx,gx,stp⟩:=step xv H5 y5;refine thn (L.pg _ _ _ _ _ s5 _ H5 xv u (λσ2 H2=>σ2=σx/\H2=H5) I5' r5 (gx _ sg3)) λ_ s6 ⟨σ6,H6,I6,e6,e6'⟩=>?_;subst e6;subst e6';have back:∀{s7:As} {H7:Hp},Inv (cxC X (xs++ys) scope H2.objs.size s₂ H₂ fp) ([(s₂.heap.objs.size,{cls:=.type "list",data:=.seq F.toArray k})]++gN fp s5.heap) (σ6) H7 s7->
     tn (i+1) s7.heap/\(∀b∈fp,H7 b=none)/\s7.heap.get? s₂.heap.objs.size=some {cls:=.type "list",data:=.seq F.toArray k}/\H7 s₂.heap.objs.size=none:=λ{s7 H7} I7=>by
    refine⟨T.keep _ _ _ st5 λb G o e=>(I7.pin (b,o) (Qba _ (Qba _ (Jt G e)))).1,λb G=>?_,?_,?_⟩
    .obtain⟨o,e,d⟩:=T.obj _ _ st5 b G;exact(I7.pin (b,o) (Qba _ (Qba _ (Jt G e)))).2.1
    .exact(I7.pin (s₂.heap.objs.size,{cls:=.type "list",data:=.seq F.toArray k}) (Qba _ (Qc0 _ (Qat.mpr U)))).1
    .exact(I7.pin (s₂.heap.objs.size,{cls:=.type "list",data:=.seq F.toArray k}) (Qba _ (Qc0 _ (Qat.mpr U)))).2.1
   refine thn ((hf _ _ _ _).out _ s6 _ H6 _ I6 stp) λb s7 ⟨H7,I7,q7⟩=>?_;cases b with
   |false=>
    have q7':∃m',m'<n/\W (i+1) m' zs H7:=by simpa using q7
    obtain⟨m',hm',w7⟩:=q7';obtain⟨b1,b2,b3,b4⟩:=back I7;exact⟨m',hm',i+1,_,zs,F,k,H7,I7.unpinned,sgx,rv,b1,b2,w7⟩
   |true=>
    have q7':=q7;refine thn ((he _ _ _ _).out _ s7 _ H7 _ I7 q7') λyv s8 ⟨y,H8,I8,r8,m',hm',w8⟩=>?_;obtain⟨b1,b2,b3,b4⟩:=back I8;refine append_at b3 (λh9 sb9 e9=>?_) (by rw[Qcc,<-rv.length];exact hz);have ok:=Zcs (ns:=xs++ys) K L.hX I hC hfp hlt;have I8':Inv (cxC X (xs++ys) scope H2.objs.size s₂ H₂ fp) [] (σ6) H8 s8:=I8.pins_of λp hp=>by cases hp
    have I9:Inv (cxC X (xs++ys) scope H2.objs.size s₂ H₂ fp) [] (σ6) H8 {s8 with heap:=h9}:=I8'.turned (t':=s8.toks) (it:=s₂.heap.objs.size) (λb o G e=>(sb9.2 b G).trans e) b4 hDC (.inr (Qaj _))
     (λy c h z=>by
      obtain⟨v,o,ho,_⟩:=I.cell y c (K.cl L.hX I.ok y c h);have:=Qao ho;rw[z]at this;exact Qcf _ this) (λp hp=>by cases hp)
    refine⟨m',hm',i+1,_,zs++[y],F++[yv],k+1,H8,?_,sgx,rv.append (.cons r8 .nil),T.keep _ _ _ b1 λb G o e=>(sb9.2 b λz=>absurd (hlt b G) (by rw[z];exact Qcf _)).trans e,b2,w8⟩;refine I9.pins_of λp hp=>?_;have e1:p=(s₂.heap.objs.size,{cls:=.type "list",data:=.seq (F++[yv]).toArray (k+1)}):=by simpa using hp
    subst e1;refine⟨by rw[e9,List.push_toArray],b4,hDC,λz=>?_,λv z=>by cases z⟩;obtain⟨_,o,ho,_⟩:=ok.funs.mem z;exact absurd (Qao ho) (Qcf _)
 exact codeAny_compStart_list (loop _ U) (T.self _ 0 _ _ _ st₁ (loop _ U))
end
section
variable {X:Cx}{S scope:Scope}{N:Ai}{x:Str}{ys:Ai}{is:Aj}{elt iter:Ax}{px pos:Pos}{ifs:An}{wi:TI}{tc:TT}{te:TE}{xs:Ai}{tg:Ax}{g:TG}{Sg:St->St->Prop}{CW:St->VK->It->Hp->Prop}
def gS(L:Zcu X S scope N x ys is xs tg g Sg)(cv:∀σ Q J H,CW σ Q J H->vI g (Sg σ) tc te Q J H)(hi:QI X tg iter wi)(Ua:∀C s₂ H₂ ex,QF (cxC X (xs++ys) scope C s₂ H₂ ex) ifs tc)(Y:∀C s₂ H₂ ex,QE (cxC X (xs++ys) scope C s₂ H₂ ex) elt te)
  (hs:∀v,foldedSetIterable iter X.env v=pure v:=by intro _;rfl):
  QE X (.ListComp elt [⟨tg,iter,ifs,0⟩] scope pos) (λσ H Q=>wi σ H (CW σ Q)):=by
 refine⟨λpins s σ H Q I h=>(wpAny_comprehension_free U hs (Jv (L.sc.cellOf' L.hX I.ok)) L.sc.kind L.sc.names (thn (hi.out pins s σ H _ I h) λv s1 h1=>thn h1 λZ s2 h2=>?_))⟩;obtain⟨it,fp,tn,J,H2,rfl,I2,T,z,f2,w2⟩:=h2;refine j8 L Ua Y I2 T z f2 (cv _ _ _ _ w2) ?_;intro D C s' H' O I' fC G q;obtain⟨f0,f1,f3,f4,f5,f6⟩:=fC;exact⟨O,G,λh' F=>⟨.ref D,H',I'.turned (λb o hb e=>(F.2 b hb).trans e) f0 f1 f4 f5 f6,U,q⟩⟩
def Zg3{y:Str}{spos:Pos}(hNd:X.N.Nodup)(hy:X.N[i]?=some y)(hl:X.env.scope.names.lookup y=some .local)(L:Zcu X S scope N x ys is xs tg g Sg)(cv:∀σ Q J H,CW σ Q J H->vI g (Sg σ) tc te Q J H)(hi:QI X tg iter wi)
  (hf:∀C s₂ H₂ ex,QF (cxC X (xs++ys) scope C s₂ H₂ ex) ifs tc) (he:∀C s₂ H₂ ex,QE (cxC X (xs++ys) scope C s₂ H₂ ex) elt te)
  (G:swapsWith (.ListComp elt [⟨tg,iter,ifs,0⟩] scope pos) (some (.Name y B)) spos.line X.env=pure true:=by rfl)
  (hs:∀v,foldedSetIterable iter X.env v=pure v:=by intro _;rfl):
  QS X (.Assign [.Name y B] (.ListComp elt [⟨tg,iter,ifs,0⟩] scope pos) spos) (Zns (λσ H Q=>wi σ H (CW σ Q)) (WQ i)):=by
 refine⟨λpins s σ H D I h=>?_⟩;rw[exec_Assign_Name_used _ _ _ _ G];refine Qaa (wpAny_standAt (Qaa ?_));refine Qaa (thn (wpAny_comprehension_free U hs (Jv (L.sc.cellOf' L.hX I.ok)) L.sc.kind L.sc.names
  (thn (hi.out pins s σ H _ I h) λv s1 h1=>thn h1 λitv s2 h2=>?_)) λ_ s' hq=>Qaf (Qaf hq))
 obtain⟨it,fp,tn,J,H2,rfl,I2,T,Ua,f2,w2⟩:=h2;refine j8 L hf he I2 T Ua f2 (cv _ _ _ _ w2) ?_;intro Dl C s' H' m' I' fC hm' q;obtain⟨f0,f1,f3,f4,f5,f6⟩:=fC;obtain⟨O,es,ep,hoC,hdC,Y⟩:=hm';have Ip:Inv X (pins++[(C,O)]) σ H' s':=I'.pins_of λp hp=>(Qb2.mp hp).elim (λz=>I'.pin p (Qba _ z)) λz=>by
  grind
 refine wpAny_assign_Name (X9 Ip hNd hy (.inl hl) (v:=.ref Dl) U (λs'' F=>?_) (.inr hl));refine⟨m',⟨O,es,ep,(F.pin (C,O) (Qba _ (Qba _ (Qat.mpr U)))).1,hdC,Y⟩,λh' Z=>⟨_,H',F.unpinned.turned (λb o hb e=>(Z.2 b hb).trans e) f0 f1 f4 f5 f6,q⟩⟩
theorem Zjv(K:ZS S scope N x ys is)(F:X.env.scope=S)(I:X.N=N)(G:S.kind=.function)(z:X.calm=true):Zcu X S scope N x ys is [x] (.Name x px) (WQ 0) (λσ e=>∃v,e=xK is σ v):=
 ⟨K,F,I,G,z,λ_ _ _ _=>yd K.nd U (.inl (Qds K.own)) (.inr (Qds K.own)),λ_=>⟨none,U⟩⟩
theorem Zof:∀σ Q J H,Gp is tc te σ Q J H->vI (WQ 0) (λF=>∃v,F=xK is σ v) tc te Q J H:=λσ Q J H ⟨W,G,t⟩=>
 ⟨W,G,λi m zs H w=>(t i m zs H w).imp_right λz=>⟨z.1,z.2.1,λx H' y=>⟨_,⟨_,U⟩,λF ⟨v,e⟩=>e ▸ ⟨U,U⟩,z.2.2 x H' y⟩⟩⟩
def Y4(K:ZS S scope N x ys is)(hi:QI X (.Name x px) iter wi)(J:∀C s₂ H₂ ex,QF (cxC X (x::ys) scope C s₂ H₂ ex) ifs tc)(F:∀C s₂ H₂ ex,QE (cxC X (x::ys) scope C s₂ H₂ ex) elt te)
  (e:X.calm=true:=by rfl) (I:X.env.scope=S:=by rfl) (G:X.N=N:=by rfl) (O:S.kind=.function:=by rfl) (z:∀v,foldedSetIterable iter X.env v=pure v:=by intro _;rfl):
  QE X (.ListComp elt [⟨.Name x px,iter,ifs,0⟩] scope pos) (Zoe wi is tc te):=
 gS (Zjv K I G O e) Zof hi J F z
def yj{y:Str}(z:X.N.Nodup)(F:X.N[i]?=some y)(G:X.env.scope.names.lookup y=some .local)(K:ZS S scope N x ys is)(hi:QI X (.Name x px) iter wi)
  (O:∀C s₂ H₂ ex,QF (cxC X (x::ys) scope C s₂ H₂ ex) ifs tc) (Y:∀C s₂ H₂ ex,QE (cxC X (x::ys) scope C s₂ H₂ ex) elt te)
  (e:swapsWith (.ListComp elt [⟨.Name x px,iter,ifs,0⟩] scope pos) (some (.Name y p)) B.line X.env=pure true:=by rfl)
  (Z:X.calm=true:=by rfl) (I:X.env.scope=S:=by rfl) (J:X.N=N:=by rfl) (Ua:S.kind=.function:=by rfl) (hs:∀v,foldedSetIterable iter X.env v=pure v:=by intro _;rfl):
  QS X (.Assign [.Name y p] (.ListComp elt [⟨.Name x px,iter,ifs,0⟩] scope pos) B) (Zns (Zoe wi is tc te) (WQ i)):=
 Zg3 z F G (Zjv K I J Ua Z) Zof hi O Y e hs
end
def wI{J:It}{is:Aj}{Q:VK}(n:Nat)(e:Nat->List V->Hp->Prop)(Ua:e 0 [] H)(I:∀i zs H,e i zs H->zs.length<=sizeLine)
  (Y:∀i zs H (R:A2->Hp->Prop),(∀zs H,e (i+1) zs H->R zs H)->i<n->e i zs H->J.go i H/\∀x H',J.yld i H x H'->L (xK is c (some x)) H' λb H2=>if b=true then d (xK is c (some x)) H2 λy O=>R (zs++[y]) O else R zs H2)
  (Z:∀zs H,e n zs H->J.stop n H/\∀p,H p=none->Q (.ref p) (upd H p (.lst zs))):Gp is L d c Q J H:=by
 refine⟨λi m zs H=>m=n-i/\i<=n/\e i zs H,⟨n,by simp,Qbl _,Ua⟩,?_⟩;rintro i m zs H ⟨rfl,hi,p⟩
 by_cases F:i<n
 .have z:=Y i zs H (λzs H=>∃G,G<n-i/\G=n-(i+1)/\i+1<=n/\e _ zs H) (λzs H q=>⟨_,by lia,U,F,q⟩) F p;exact .inr ⟨z.1,I i zs H p,z.2⟩
 .grind
theorem j9{lo:Int}{is:Aj}{Q:VK}(z:Nat->List V->Hp->Prop)(J:z 0 [] H)(G:∀i zs H,z i zs H->zs.length<=sizeLine)
  (O:∀i zs H (R:A2->Hp->Prop),(∀zs H,z (i+1) zs H->R zs H)->i<n->z i zs H->L (xK is c (some (.int (lo+i)))) H λb H2=>if b=true then d (xK is c (some (.int (lo+i)))) H2 λy I=>R (zs++[y]) I else R zs H2)
  (F:∀zs H,z n zs H->∀p,H p=none->Q (.ref p) (upd H p (.lst zs))):
  Gp is L d c Q (Itr lo n) H:=
 wI n z J G (λi zs H R k hi p=>⟨hi,λx H' ⟨e,y⟩=>by subst e y;exact O i zs _ R k hi p⟩) λzs H p=>⟨Qaj _,F zs H p⟩
theorem Jx{xs:A2}{is:Aj}{Q:VK}(z:Nat->List V->Hp->Prop)(O:z 0 [] H)(I:∀i zs H,z i zs H->zs.length<=sizeLine)(F:∀i zs H,z i zs H->SqT K H a xs)
  (Ua:∀i x zs H (R:A2->Hp->Prop),(∀zs H,z (i+1) zs H->R zs H)->xs[i]?=some x->z i zs H->L (xK is c (some x)) H λb H2=>if b=true then d (xK is c (some x)) H2 λy J=>R (zs++[y]) J else R zs H2)
  (G:∀zs H,z xs.length zs H->∀p,H p=none->Q (.ref p) (upd H p (.lst zs))):
  Gp is L d c Q (Itt K a) H:=
 wI _ z O I (λi zs H R k hi p=>⟨⟨xs,xs[i],F i zs H p,Qac hi⟩,λx H' ⟨e,y⟩=>e ▸ Ua i x zs H R k (y xs (F i zs H p)) p⟩) λzs H p=>⟨⟨xs,F _ zs H p,Qaj _⟩,G zs H p⟩
end L2
namespace HT
section
variable {prog:Aq}{w:Au}{A:Ar}{E:Ab}{s:As}
def Zaj(n:Nat):Builtin.Slice.slicePlaces ((n:Int)-1) (-1) (-1)=n:=by
 unfold Builtin.Slice.slicePlaces;have h1:¬((-1)>0):=by lia
 have e:(- -1)=1:=by decide
 split<;>lia
theorem gT{α β:Type}{f g:α->Option β}:∀{l:List α},(∀x∈l,f x=g x)->l.filterMap f=l.filterMap g
 |[],_=>rfl
 |x::r,h=>by
  rw[Qeh,Qeh,h x Qah,gT λy e=>h y (Qai _ e)]
def Zg4(xs:Ah):((List.range xs.size).filterMap λ(m:Nat)=>xs[((xs.size:Int)-1+(m:Int) * -1).toNat]?).toArray=xs.toList.reverse.toArray:=by
 congr 1;have e:((List.range xs.size).filterMap λ(m:Nat)=>xs[((xs.size:Int)-1+m * -1).toNat]?)=((List.range xs.size).map λk=>xs.size-1-k).filterMap (xs[·]?):=by
  rw[List.filterMap_map];refine gT λm z=>?_;have e:(xs.size-1+(m:Int) * -1).toNat=xs.size-1-m:=by lia
  rw[e];rfl
 rw[e,PySem.W.krv_range,List.filterMap_reverse,PySem.W.krv_all]
def qW{t:Tok}{Q:Int×Int×Nat->Shared->Prop}(F:s.heap.IsSliceOf a .none .none (.int (-1) t))(h:Q ((n:Int)-1,-1,n) s):
  A3 prog w A (Builtin.Slice.sliceApplied (.ref a) (pure (n:Int))) Q E s:=by
 obtain⟨os,e,G,z⟩:=id F;refine Qaa (Qaa (Qbz e z U (Qaa (Qbz e z U (Qaa (Qbz e z U (Qaf ?_)))))));refine Qaa (slicePart_int (Qaa (slicePart_none (Qaa (slicePart_none (Qaa (Qaf ?_)))))));show wpAny _ _ _ _ _ s;show wpAny _ _ (pure ((n:Int)-1,(-1),Builtin.Slice.slicePlaces (n-1) (-1) (-1))) _ _ s;rw[Zaj];exact Qaf h
def getItem_tuple_rev{u:Tok}{items:Ah}(z:IsTup s.heap a items)(J:s.heap.IsSliceOf f .none .none (.int (-1) u))
  (h:Q (.ref s.heap.objs.size) {s with heap:=s.heap.push {cls:=.type "tuple",data:=.seq items.toList.reverse.toArray}})
  (hsz:items.size<=sizeLine):A3 prog w A (getItem (.ref a) (.ref f)) Q E s:=by
 have e:=by
  show items.toList.reverse.toArray.size<=sizeLine;rw[Qcc,Qc6];exact hsz
 obtain⟨os,F,I,O⟩:=id J;unfold getItem;try with_reducible refine Qb4 ?_
 first|refine Qaa _|skip
 refine Qaa (wpAny_sequenceKey z.typeIs (by decide) ?_);refine Qaa (wpAny_callSpecial?_slot z.typeIs Qcy
  (Qbn Qcy z.typeIs entry_tuple_getitem ?_ (args_tuple_getitem _ _)))
 show wpAny _ _ (Builtin.Tuple.tupleItemsOf _ >>= _) _ _ s;refine Qaa (tupleItemsOf_ z ?_);refine Qaa (Qha ⟨os,F,I⟩ (Qaa (qW J ?_)));have G:¬((((items.size:Int)-1) == 0&&(-1) == 1&&items.size == items.size)=true):=by
  grind
 show wpAny _ _ (if((((items.size:Int)-1) == 0&&(-1) == 1&&items.size == items.size))=true then _ else _) _ _ s;rw[Qax G,Zg4]
 first
  |exact Qaa (Qbq (Qaf ⟨_,U,Qaf h⟩) e)
  |exact Qaa _
  |exact Qaa _
  |exact Qaa _
end
end HT
namespace L2
section
variable {X:Cx}{e st:Ax}{te ts:TE}{pos p2:Pos}
def RvR(X:Cx)(r:V->Hp->VK->Prop):Prop:=
 ∀(pins:Ac)(s:As)(σ:St)(H:Hp)(x:V)(v:Av)(t:Tok)(e:Aw)(Q:VK),Inv X pins σ H s->RelV x v->s.heap.IsSliceOf e .none .none (.int (-1) t)->r x H Q->
  ∃T id,typeLookup (.type T) "__getitem__" = pure (some (.builtin id))/\s.TypeIs v T/\A4 X (getItem v (.ref e)) (EP X pins σ Q) X.xe s
def tRv(r:V->Hp->VK->Prop)(te ts:TE):TE:=λσ H Q=>te σ H λx H1=>ts σ H1 λy H2=>y=.int (-1)/\r x H2 Q
def qe_rev{r:V->Hp->VK->Prop}(F:RvR X r)(Z:QE X e te)(z:QE X st ts):QE X (.Subscript e (.Slice none none (some st) p2) pos) (tRv r te ts):=by
 refine⟨λpins s σ H Q I h=>(Subscript_ (thn (Z.out pins s σ H _ I h) λv s1 ⟨x,H1,I1,O,q1⟩=>(wpAny_Slice (Qaf (Qaf (thn (z.out pins s1 σ H1 _ I1 q1) λvs s3 ⟨y,G,J,r3,e3,q3⟩=>?_))))))⟩;subst e3;obtain⟨t,rfl⟩:=r3;obtain⟨T,id,Y,ht,Ua⟩:=F pins _ σ G x v t _ Q (J.kept λb ob q=>Qad _ q) O (Heap.IsSliceOf.new ..) q3;exact tail_any ht Y Ua (by with_unfolding_all rfl)
def rRvT(K:Af):V->Hp->VK->Prop:=λx H Q=>∃a xs,x=.ref a/\SqT K H a xs/\∀p,H p=none->Q (.ref p) (upd H p (.tup xs.reverse))
def rv_tup:RvR X (rRvT X.K):=by
 intro pins s σ H x v t Y Q I O J h;obtain⟨a,xs,rfl,G,q⟩:=h;cases O;obtain⟨e,r,F,Ua⟩:=I.tuple G;have z:e.toArray.size=xs.length:=r.length.symm;refine⟨"tuple",_,Qcy.lookup,F.typeIs,(HT.getItem_tuple_rev F J ⟨.ref _,_,I.laid (λb ob q=>Qad _ q) (Qaj _) ?_,U,q _ (I.hok.fresh (Qaj _))⟩ (by lia))⟩;exact⟨by grind,_,r.reverse,gM.new _ _⟩
end
def yk{k:Nat}{A:Ar}(e:Wo k A):A.units<cLine:=e.units0
end L2
namespace RvT
theorem slot_next:Slot "reversed" "__next__" "reversed.__next__" :=
 .of (owner:= "reversed") (n:= "__next__") (by kernel_rfl) (by decide +kernel) (by decide +kernel) (by decide +kernel)
  (by first|exact .inl (by decide +kernel)|exact .inr _) (by kernel_rfl)
def entry_next:entryFor table "reversed.__next__" = some Builtin.«reversed.__next__»:=entryFor_of_tree (by kernel_rfl)
def args_next (a:Av):argsOk "reversed.__next__" ⟨[a],[]⟩:=by
 kernel_rfl
theorem vJ:Slot "reversed" "__iter__" "reversed.__iter__" :=
 .of (owner:= "reversed") (n:= "__iter__") (by kernel_rfl) (by decide +kernel) (by decide +kernel) (by decide +kernel)
  (by first|exact .inl (by decide +kernel)|exact .inr _) (by kernel_rfl)
def Zcv (a:Av):argsOk "reversed.__iter__" ⟨[a],[]⟩:=by
 kernel_rfl
theorem Zak:entryFor table "reversed.__iter__" = some Builtin.«dict_keyiterator.__iter__» :=
 entryFor_alias (id':= "dict_keyiterator.__iter__") (by kernel_rfl) (by first|rfl|decide +kernel|(unfold String.splitOn;simp +decide [String.splitOnAux])) (by decide +kernel) (by kernel_rfl)
theorem Zcw:Slot "reversed" "__init__" "object.__init__" :=
 .of (owner:= "object") (n:= "__init__") (by kernel_rfl) (by decide +kernel) (by decide +kernel) (by decide +kernel)
  (by first|exact .inl (by decide +kernel)|exact .inr _) (by kernel_rfl)
theorem called:TypeCalled "reversed" "reversed.__new__" "object.__init__" :=
 ⟨by simp,F.create_reversed,⟨_,_,F.mro_reversed⟩,F.made_reversed,F.plain_reversed_new,F.sub_reversed_self,Zcw⟩
def wJ:typeLookup (.type "tuple") "__reversed__" = pure none:=by kernel_rfl
def sub_tuple_dict:isSubtype (.type "tuple") (.type "dict")=pure false:=by kernel_rfl
def revObj (t:Aw) (i:Int):Obj:={cls:=.type "reversed",data:=.fields #[.ref t,rawInt i]}
def IsRev (h:Heap) (a t:Aw) (i:Int):Prop:=∃o,h.get? a=some o/\o.cls=.type "reversed" /\ o.data=.fields #[.ref t,rawInt i]
def IsRev.typeIs   {i:Int} (x:IsRev s.heap a f i):s.TypeIs (.ref a) "reversed" :=let⟨o,ho,hc,_⟩:=x;⟨o,ho,hc⟩
def IsRev.at{h':Heap}{i:Int}(x:IsRev h a f i)(e:∀o,h.get? a=some o->h'.get? a=some o):IsRev h' a f i:=let⟨o,ho,r⟩:=x;⟨o,e _ ho,r⟩
section
variable {prog:Aq}{w:Au}{A:Ar}{E:Ab}{s:As}
theorem WV(t:Aw)(items:Ah)(z:items.size<2^63):
  Meets (Builtin.«reversed.__new__» ⟨[.type "reversed",.ref t],[]⟩) (λ_ R s=>IsTup s.heap t items/\∀tk,R (.ok (.ret (.ref s.heap.objs.size))) {s with heap:=s.heap.push (revObj t ((items.size:Int)-1)),toks:=tk}):=
 .of_wp λprog w A R s h=>by
  obtain⟨e,h⟩:=h;refine Qaa (Qco (newClass_reversed _) ?_);refine Qaa (Qco (a:=()) (by first|rfl|kernel_rfl) ?_);refine Qaa (Qco (a:=()) (by first|rfl|kernel_rfl) ?_);refine Qaa (Qea e.typeIs wJ ?_);refine Qaa ?_;refine Qaa (Qdh (T:= "tuple") (b:=false) e.typeIs sub_tuple_dict ?_);refine Qaa (Qea e.typeIs Qcy.lookup ?_);refine Qaf ?_;refine Qaa (len_tuple e (by lia) ?_);refine Qaa (Qco U ?_);refine Qaa (m:=newObj (.type "reversed") (.fields #[.ref t,rawInt ((items.size:Int)-1)])) (Qbq ?_);exact Qaf ⟨_,U,h _⟩
theorem call_rev{items:Ah}(G:IsTup s.heap a items)(z:items.size<2^63)(h:∀tk,Q (.ref s.heap.objs.size) {s with heap:=s.heap.push (revObj a ((items.size:Int)-1)),toks:=tk}):
  A3 prog w A (call (.type "reversed") [.ref a]) Q E s:=
 Qhb called (by decide) (F.typeCall_reversed_1 _) (F.newCall_reversed_1 _) (λe=>Qf4 e _) F.entry_reversed_new (WV a items z)
  ⟨G,λtk=>⟨⟨_,Qak _ U,U⟩,h tk⟩⟩
def next_item{it:Aw}{items:Ah}{x:Av}{Q:Aa}(e:IsRev s.heap it f (i:Int))(I:IsTup s.heap f items)(hi:(i:Int)<2^63)(G:items[i]?=some x)(Ua:f≠it)
  (O:∀h' tk,IsRev h' it f ((i:Int)-1)->Heap.SameBut it s.heap h'->Q (some x) {s with heap:=h',toks:=tk}):A3 prog w A (pyNext (.ref it)) Q E s:=by
 obtain⟨o,F,J,z⟩:=id e;refine Qaa (Qc5 (wpAny_callSpecial?_slot e.typeIs slot_next
  (Qbn slot_next e.typeIs entry_next ?_ (args_next _))))
 refine Qaa (Qco (a:=(Value.ref it,[])) U ?_);refine Qaa (Qbz F z (x:=.ref f) U ?_);refine Qaa (Qbz F z (x:=rawInt (i:Int)) U ?_);show wpAny _ _ _ _ _ s;refine Qaa (Qea I.typeIs Qcy.lookup ?_);refine Qaa (Qgj ?_);have hsz:=(Array.getElem?_eq_some_iff.mp G).1;refine Qaa (Qc5 (getItem_tuple (j:=i) I (by lia) hi (by rw[Qhm (by lia) (by lia),Qbf]) G ?_));refine Qaa (Qbz F z (x:=rawInt (i:Int)) U ?_);refine Qaa (Qdb F z (by simp) ?_);refine Qaf ⟨x,U,Qaf (O _ _ ?_ (Qb0 ..))⟩;exact⟨_,Qbm _ F (Qcs (Qbr z _)),(Qez ..).trans J,by
  rw[Qbr z];simp⟩
def next_end{it:Aw}{Q:Aa}(hh:A.handled=none)(z:IsRev s.heap it f (-1))
  (O:∀h',(∀b o,b≠it->s.heap.get? b=some o->h'.get? b=some o)->Q none {s with heap:=h'}):A3 prog w A (pyNext (.ref it)) Q E s:=by
 obtain⟨o,G,Ua,F⟩:=id z;refine Qaa (Qc5 (wpAny_callSpecial?_slot (name:=Str.ofString "__next__") z.typeIs slot_next
  (Qbn slot_next z.typeIs entry_next ?_ (args_next _))))
 refine Qaa (Qco (a:=(Value.ref it,[])) U ?_);refine Qaa (Qbz G F (x:=.ref f) U ?_);refine Qaa (Qbz G F (x:=rawInt (-1)) U ?_);show wpAny _ _ (if(-1:Int)<0 then _ else _) _ _ s;refine Qaa (Qdt ?_);refine Qaa ?_;refine Qaa (Qdb G F (by simp) ?_);have I:=Qbm (Obj.mapFields (·.setIfInBounds 1 (rawInt (-1)))) G (Qcs (Qbr F _));refine Qdb I (Qbr F _) (by simp) ?_
 first
 |show wpAny _ _ (newExc (.type "StopIteration") [] >>= _) _ _ _
 |(refine Qaa ?_)
 refine Qaa ?_;refine Qaa (Qbq ?_ (by size_fits));refine Qaa (m:=firstArgMember _ _) (Qco (a:=Value.none) (by first|rfl|(rfl)) ?_);refine Qbq ?_ (by size_fits);refine Qaa (Qg2 ?_)
 first|rw[show A.in1.handled=none from hh]|rw[hh]
 refine Qaa (Qaf (Qhn ?_));refine Qaa (Qdh (T:= "StopIteration") (b:=true) ⟨_,Qak _ U,U⟩ Qfs ?_);refine Qaf (O _ λb ob J e=>?_);exact Qad _ (Qad _ ((Qbx _ _ (Qdx J)).trans ((Qbx _ _ (Qdx J)).trans e)))
def iter_self{it:Aw}{i:Int}(e:IsRev s.heap it a i)(h:Q (.ref it) s):A3 prog w A (pyIter (.ref it)) Q E s:=by
 refine Qfr e.typeIs vJ (Qbn vJ e.typeIs Zak (Qaf ⟨_,U,_,_,e.typeIs,slot_next.lookup,h⟩) (Zcv _))
end
end RvT
namespace L2
def Itv(K:Af)(a:Aw)(n:Nat):It:=
 ⟨λi H=>∃xs x,SqT K H a xs/\xs.length=n/\xs.reverse[i]?=some x,λi H x H'=>H'=H/\∀xs,SqT K H a xs->xs.reverse[i]?=some x,λi _=>i=n⟩
def Zg5(a it:Aw)(n:Nat)(hne:a≠it):Turn P w K e (Itv K a n) [it] it (λi h=>RvT.IsRev h it a ((n:Int)-1-(i:Int)))where
 mem:=by simp
 obj:=λi h st b J=>by
  have F:b=it:=by simpa using J
  subst F;obtain⟨o,F,c,d⟩:=st;exact⟨o,F,λv z=>by rw[d]at z;cases z⟩
 keep:=λi h h' st k=>st.at λo F=>k it (by simp) o F
 item:=by
  intro X hP hw Y hc i pins s σ H E I O st Ua;subst hP hw Y;obtain⟨xs,x,hq,hn,hx⟩:=Ua;obtain⟨its,rv,p,hz⟩:=I.tuple hq;have hi:i<xs.length:=by
   grind
  have hx':xs[xs.length-1-i]?=some x:=by grind
  obtain⟨u,hu,ru⟩:=rv.get hx';obtain⟨f0,f1,f2,f3,f4,Z⟩:=O it (by simp);have e0:(n:Int)-1-(i:Int)=((xs.length-1-i:Nat):Int):=by lia
  have hl:=qB;rw[e0]at st;refine RvT.next_item (items:=its.toArray) (x:=u) st p (by lia) (by simpa using hu) hne λh' tk G sb=>?_;have e1:((xs.length-1-i:Nat):Int)-1=(n:Int)-1-((i+1:Nat):Int):=by lia
  rw[e1]at G;obtain⟨o,F,c,d⟩:=id G;exact⟨u,U,vm F c d (by decide) ⟨x,H,I.turned (λb o J F=>(sb.2 b J).trans F) f0 f1 f3 f4 Z,ru,⟨U,λys hy=>by rw[I.tuple_inj hy hq];exact hx⟩,G,λb J=>(O b J).1⟩⟩
 done:=by
  intro X hP hw Y hc i pins s σ H E I O st Ua;subst hP hw Y;obtain⟨f0,f1,f2,f3,f4,Z⟩:=O it (by simp);have hg':i=n:=Ua;have e0:(n:Int)-1-(i:Int)=-1:=by lia
  rw[e0]at st;exact RvT.next_end (I.ok.hd hc) st λh' eb=>⟨U,I.turned (t':=s.toks) (λb o J F=>eb b o J F) f0 f1 f3 f4 Z⟩
 self:=λ_ _ _ _ _ st h=>RvT.iter_self st h
inductive Zjw(K:Af)(R:It->Hp->Prop)(x:V)(H1:Hp):Prop
 |mk (a xs:_):(x=.ref a)->(SqT K H1 a xs)->(R (Itv K a xs.length) H1)->Zjw K R x H1
def iRev(K:Af)(te:TE):TI:=λσ H R=>te σ H λx H1=>Zjw K R x H1
def Zcx {X:Cx} {tg:Ax}  {pos:Pos} (hg:Gl X "reversed") (hm:X.mg "reversed" = none) (Ua:QE X e d) (hp:ZY e=true:=by rfl):QI X tg (.Call (.Name "reversed" p) [e] [] pos) (iRev X.K d):=by
 refine⟨λpins s σ H R I h=>?_⟩;have G:starEach [e] X.env=[(false,eval e X.env)]:=by rw[Zv hp];rfl
 refine Call_ (Gh I hg hm wH (Qcr ?_ G U));rw[G];refine Qc3 (thn (Ua.out pins s σ H _ I h) λu J ⟨x,H1,F,Y,q1⟩=>(Qd8 ?_));obtain⟨a,xs,rfl,hq,q⟩:=q1;cases Y;obtain⟨z,Z,pt,hz⟩:=F.tuple hq;have hl:=qB;have O:=Z.length;refine RvT.call_rev pt (by grind) λtk=>?_;have e0:xs.length-1-((0:Nat):Int)=z.toArray.size-1:=by grind
 have st:RvT.IsRev (J.heap.push (RvT.revObj a (z.toArray.size-1))) J.heap.objs.size a (xs.length-1-((0:Nat))):=by
  rw[e0];exact⟨_,Qak _ U,U,U⟩
 refine RvT.iter_self st ⟨_,_,_,_,H1,U,F.kept λb o e=>Qad _ e,Zg5 a _ _ (Qa8 pt.lt),st,λb hb=>?_,q⟩;have e:=by simpa using hb
 subst e;exact F.fpOk (Qaj _) (F.hok.fresh (Qaj _)) |> λf=>f
theorem Zcy{xs:A2}{g:TG}{D:Ends}(z:Nat->St->Hp->Prop)(J:z 0 c H)(G:∀i c H,i<=xs.length->z i c H->SqT K H a xs)
  (O:∀i x c H,xs.reverse[i]?=some x->z i c H->g x c H λF H2=>A {D with nx:=z (i+1),ct:=z (i+1),bk:=D.nx} F H2) (I:∀c H,z xs.length c H->D.nx c H):
  Zgv (Itv K a xs.length) g A D c H:=
 x8 _ z J (λi c H hi p=>⟨⟨xs,xs.reverse[i]'(by grind),G i c H (Qaw hi) p,U,Qac _⟩,λx H' ⟨e,y⟩=>e ▸ O i x c H (y xs (G i c H (Qaw hi) p)) p⟩) λc H p=>⟨U,I c H p⟩
theorem Zal{ys:Ai}:∀{z:Ag},Vals (ys.map V.str) z->StrsAre z ys:=by
 induction ys with
 |nil=>intro z r;cases r;exact .nil
 |cons n ns F=>
  intro z r;cases r with
  |cons G I=>
   obtain⟨t,e⟩:=G;subst e;exact .cons n t (F I)
theorem XZ{xs:A2}{is:Aj}{Q:VK}(z:Nat->List V->Hp->Prop)(O:z 0 [] H)(I:∀i zs H,z i zs H->zs.length<=sizeLine)(F:∀i zs H,z i zs H->SqL K H a xs)
  (Ua:∀i x zs H (R:A2->Hp->Prop),(∀zs H,z (i+1) zs H->R zs H)->xs[i]?=some x->z i zs H->L (xK is c (some x)) H λb H2=>if b=true then d (xK is c (some x)) H2 λy J=>R (zs++[y]) J else R zs H2)
  (G:∀zs H,z xs.length zs H->∀p,H p=none->Q (.ref p) (upd H p (.lst zs))):
  Gp is L d c Q (Itl K a) H:=
 wI _ z O I (λi zs H R k hi p=>⟨⟨xs,xs[i],F i zs H p,Qac hi⟩,λx H' ⟨e,y⟩=>e ▸ Ua i x zs H R k (y xs (F i zs H p)) p⟩) λzs H p=>⟨⟨xs,F _ zs H p,Qaj _⟩,G zs H p⟩
def Its(x:Str):It:=⟨λi _=>i<x.cps.size,λi H v H'=>H'=H/\∃c,x.cps[i]?=some c/\v=.str ⟨#[c]⟩,λi _=>i=x.cps.size⟩
def Zg6     (it:Aw) (x:Str) (t:Tok) (T:String) (hT:T = "str_ascii_iterator" \/ T = "str_iterator"):Turn P w K e (Its x) [it] it (λi h=>h.IsStrIter it T x t i)where
 mem:=by simp
 obj:=λi h st b G=>by
  have F:b=it:=by simpa using G
  subst F;obtain⟨o,F,c,d⟩:=st;exact⟨o,F,λv z=>by rw[d]at z;cases z⟩
 keep:=λi h h' st k=>let⟨o,ho,r⟩:=st;⟨o,k it (by simp) o ho,r⟩
 item:=by
  intro X hP hw hK hc i pins s σ H E I Ua st hg;subst hP hw hK;obtain⟨f0,f1,f2,f3,Z,Y⟩:=Ua it (by simp);rcases hT with rfl|rfl
  .refine(Walks.strAscii (prog:=X.prog) (w:=X.w) (I.ok.hd hc) it x t).item i s _ _ hg st λv h' tk hv J kk=>?_
   obtain⟨c,u,O,rfl⟩:=hv;have I1:Inv X pins σ H {s with heap:=h',toks:=tk}:=I.turned (λb o G F=>kk b o (by simpa using G) F) f0 f1 f3 Z Y;obtain⟨o,F,cc,d⟩:=id J;exact⟨_,U,vm F cc d (by decide) ⟨.str ⟨#[c]⟩,H,I1,⟨_,U⟩,⟨U,c,O,U⟩,J,λb G=>(Ua b G).1⟩⟩
  .refine(Walks.strWide (prog:=X.prog) (w:=X.w) (I.ok.hd hc) it x t).item i s _ _ hg st λv h' tk hv J kk=>?_
   obtain⟨c,u,O,rfl⟩:=hv;have I1:Inv X pins σ H {s with heap:=h',toks:=tk}:=I.turned (λb o G F=>kk b o (by simpa using G) F) f0 f1 f3 Z Y;obtain⟨o,F,cc,d⟩:=id J;exact⟨_,U,vm F cc d (by decide) ⟨.str ⟨#[c]⟩,H,I1,⟨_,U⟩,⟨U,c,O,U⟩,J,λb G=>(Ua b G).1⟩⟩
 done:=by
  intro X hP hw hK hc i pins s σ H E I Ua st hg;subst hP hw hK;obtain⟨f0,f1,f2,f3,Z,Y⟩:=Ua it (by simp);subst hg;rcases hT with rfl|rfl
  .exact(Walks.strAscii (prog:=X.prog) (w:=X.w) (I.ok.hd hc) it x t).done s _ _ st λh' tk kk=>⟨U,I.turned (t':=tk) (λb o G F=>kk b o (by simpa using G) F) f0 f1 f3 Z Y⟩
  .exact(Walks.strWide (prog:=X.prog) (w:=X.w) (I.ok.hd hc) it x t).done s _ _ st λh' tk kk=>⟨U,I.turned (t':=tk) (λb o G F=>kk b o (by simpa using G) F) f0 f1 f3 Z Y⟩
 self:=λA i s Q E st h=>by
  rcases hT with rfl|rfl
  .exact wpAny_pyIter_striter_ascii st h
  .exact wpAny_pyIter_striter_wide st h
inductive Zjx(R:It->Hp->Prop)(v:V)(H1:Hp):Prop
 |mk (x:_):(v=.str x)->(R (Its x) H1)->Zjx R v H1
def iStr(te:TE):TI:=λσ H R=>te σ H λv H1=>Zjx R v H1
def qi_str{X:Cx}{l:Ax}(O:QE X l d):QI X e l (iStr d):=by
 refine⟨λpins s σ H R I h=>?_⟩;refine thn (O.out pins s σ H _ I h) λv G ⟨y,H1,F,Ua,Z⟩=>?_;obtain⟨x,rfl,q⟩:=Z;obtain⟨t,rfl⟩:=Ua;have go:∀(o:Obj)(T:String),(T = "str_ascii_iterator" \/ T = "str_iterator")->(G.heap.push o).IsStrIter _ T x t 0->PIE X pins σ e R _ _:=λo T Y st=>
  ⟨_,_,_,_,H1,U,F.kept (t':=G.toks) λb o z=>Qad _ z,Zg6 _ x t T Y,st,λb J=>by
   have z:=by simpa using J
   subst z;exact F.fpOk (Qaj _) (F.hok.fresh (Qaj _)),q⟩
 cases ha:x.cps.all (· < 128)
 .exact wpAny_pyIter_wide ha (go _ "str_iterator" (.inr U) ⟨_,Qak _ U,U,U⟩)
 .exact wpAny_pyIter_ascii ha (go _ _ (.inl U) ⟨_,Qak _ U,U,U⟩)
def Zcz (hc:X.calm=true):YS X (.builtin "all") (λxs H Q=>∃(p:Aw)(bs:Am),xs=[.ref p]/\SqL X.K H p (bs.map V.bl)/\Q (.bl (bs.all id)) H):=by
 intro pins s σ H xs us Q I r h;obtain⟨p,bs,rfl,hq,q⟩:=h;obtain⟨u,rfl,rx⟩:=vals1 r;cases rx;obtain⟨Y,r',pl,hz⟩:=I.list hq;have Ua:=pl.isList;have F:=r'.length;rw[Qab]at F;refine call_all_walk (Qey Ua ?_);refine⟨_,_,_,_,_,_,λi=>(bs[i]?).getD true,U,Walks.list (A:=X.A.in1) (I.ok.hd hc) _ p (Qa8 (by obtain⟨_,e,_⟩:=Ua;exact Qao e)) _,
  ⟨⟨_,Qak _ U,U,U⟩,Ua.push _⟩,λi v s' Q' E' hP Z=>?_,λh' tk hk=>?_⟩
 .have hi:=by simpa using hP
  have J:i<bs.length:=by grind
  obtain⟨w',e1,e2⟩:=r'.get (by rw[Qag,Qac J];rfl);rw[hi]at e1;cases e1;cases e2;simp[Qac J]at Z;exact Qdl Z
 .have e:((List.range Y.toArray.size).all λi=>(bs[i]?).getD true)=bs.all id:=by
   rw[Qcc,<-F,Qeo,Qcp,Qcp];constructor
   .intro z b J;obtain⟨i,hi,rfl⟩:=List.getElem_of_mem J;have:=z i (Qbw.mpr hi);simpa[Qac hi]using this
   .intro z i hi;have G:=Qbw.mp hi;have:=z _ (Qbh G);simpa[Qac G]using this
  rw[e];refine⟨.bl _,H,I.kept (λb o O=>hk b o (λhm=>?_) (Qad _ O)),U,q⟩;rw[Qat.mp hm]at O;exact absurd (Qao O) (Qcf _)
theorem WW:∀{e:Ag} {ys:Ai},StrsAre e ys->Vals (ys.map V.str) e
 |_,_,.nil=>.nil
 |_,_,.cons y t h=>.cons ⟨t,U⟩ (WW h)
def Zc0:bootBuiltins "dict" = some (.type "dict"):=by decide +kernel
def gU:bootBuiltins "max" = some (.builtin "max"):=by decide +kernel
def Zjy:bootBuiltins "min" = some (.builtin "min"):=by decide +kernel
def take_snoc{xs:List m}{x:m}(h:xs[i]?=some x):xs.take (i+1)=xs.take i++[x]:=by
 rw[List.take_succ,h];rfl
def wK{xs:A2}{is:Aj}{Q:VK}(p:V->Bool)(f:V->V)(O:SqL K H a xs)(Ua:xs.length<=sizeLine)
  (I:∀x∈xs,∀R:Bool->Hp->Prop,R (p x) H->L (xK is c (some x)) H R)
  (G:∀x∈xs,p x=true->∀R:VK,R (f x) H->d (xK is c (some x)) H R)
  (J:∀l,H l=none->Q (.ref l) (upd H l (.lst ((xs.filter p).map f)))):Gp is L d c Q (Itl K a) H:=by
 refine XZ (xs:=xs) (λi zs H'=>zs=((xs.take i).filter p).map f/\H'=H) ⟨U,U⟩ ?_ ?_ ?_ ?_
 .grind
 .grind
 .rintro i x zs H' R hR z ⟨rfl,rfl⟩;have F:=Qam z;have e:=take_snoc z;refine I x F _ ?_;cases hp:p x with
  |true=>
   refine(Qa2 U) ▸ G x F hp _ (hR _ _ ⟨?_,U⟩);rw[e,Qdo,Qa6,Qcv,Qa2 hp];rfl
  |false=>
   refine(Qax Qbc) ▸ hR _ _ ⟨?_,U⟩;rw[e,Qdo,Qcv,Qax (by grind)];simp
 .grind
def comp_map{xs:A2}{is:Aj}{Q:VK}(f:V->V)(I:SqL K H a xs)(e:xs.length<=sizeLine)
  (J:∀x∈xs,∀R:VK,R (f x) H->d (xK is c (some x)) H R)
  (z:∀l,H l=none->Q (.ref l) (upd H l (.lst (xs.map f)))):Gp is Zg2 d c Q (Itl K a) H:=by
 refine wK _ f I e (λx _ R h=>h) (λx F _=>J x F) λl G=>?_;rw[List.filter_eq_self.mpr λ_ _=>U];exact z l G
def Zc1{lo:Int}{is:Aj}{Q:VK}(f:Nat->V)(F:n<=sizeLine)
  (e:∀i,i<n->∀R:VK,R (f i) H->d (xK is c (some (.int (lo+i)))) H R)
  (z:∀l,H l=none->Q (.ref l) (upd H l (.lst ((List.range n).map f)))):Gp is Zg2 d c Q (Itr lo n) H:=by
 refine j9 (λi zs H'=>i<=n/\zs=(List.range i).map f/\H'=H) ⟨Qbl _,U,U⟩ ?_ ?_ ?_
 .grind
 .rintro i zs H' R hR hi ⟨_,rfl,rfl⟩;unfold Zg2;refine e i hi _ (hR _ _ ⟨hi,?_,U⟩);rw[Qff,Qa6];rfl
 .grind
def xM{xs:A2}{is:Aj}{Q:VK}(f:V->V)(G:SqT K H a xs)(I:xs.length<=sizeLine)
  (z:∀x∈xs,∀R:VK,R (f x) H->d (xK is c (some x)) H R)
  (F:∀l,H l=none->Q (.ref l) (upd H l (.lst (xs.map f)))):Gp is Zg2 d c Q (Itt K a) H:=by
 refine Jx (xs:=xs) (λi zs H'=>zs=(xs.take i).map f/\H'=H) ⟨U,U⟩ ?_ ?_ ?_ ?_
 .grind
 .grind
 .rintro i x zs H' R hR e ⟨rfl,rfl⟩;unfold Zg2;refine z x (Qam e) _ (hR _ _ ⟨?_,U⟩);rw[take_snoc e,Qa6];rfl
 .grind
section
variable {κ:Type}[DecidableEq κ]
def Ym(kvs:List (κ×V))(k:κ):Option V:=(kvs.find? λe=>decide (e.1=k)).map (·.2)
def putK(kvs:List (κ×V))(k:κ)(v:V):List (κ×V):=
 if(kvs.any λe=>decide (e.1=k))=true then kvs.map (λe=>if e.1=k then(e.1,v)else e)else kvs++[(k,v)]
def Yg{p:κ×V}{r:List (κ×V)}{k:κ}(e:p.1=k):Ym (p::r) k=some p.2:=by simp[Ym,e]
def Ya{p:κ×V}{r:List (κ×V)}{k:κ}(e:¬p.1=k):Ym (p::r) k=Ym r k:=by simp[Ym,e]
theorem Wt(k:κ):∀kvs:List (κ×V),(kvs.any λz=>decide (z.1=k))=(Ym kvs k).isSome
 |[]=>rfl
 |p::r=>by
  rw[Qgc]
  by_cases e:p.1=k
  .simp[Yg e,Qan e]
  .rw[Ya e,Qaq e];exact Wt k r
theorem gW(k j:κ)(y:V):∀kvs:List (κ×V),Ym (kvs.map λF=>if F.1=k then(F.1,y)else F) j=(Ym kvs j).map λx=>if j=k then y else x
 |[]=>rfl
 |p::r=>by
  have G:=gW k j y r;rw[Qbv]
  by_cases h:p.1=k
  .rw[Qa2 h]
   by_cases e:p.1=j
   .rw[Yg (p:=(p.1,y)) e,Yg e,Qeq,Qa2 (e.symm.trans h)]
   .rw[Ya (p:=(p.1,y)) e,Ya e,G]
  .rw[Qax h]
   by_cases e:p.1=j
   .rw[Yg e,Yg e,Qeq,Qax (λz=>h (e.trans z))]
   .rw[Ya e,Ya e,G]
theorem vK(k j:κ)(y:V):∀kvs:List (κ×V),Ym kvs k=none->Ym (kvs++[(k,y)]) j=if j=k then some y else Ym kvs j
 |[],_=>by
  by_cases e:k=j
  .rw[Qa2 e.symm];exact Yg e
  .rw[Qax (λz=>e z.symm)];exact Ya e
 |p::r,F=>by
  rw[List.cons_append];have G:¬p.1=k:=λz=>by rw[Yg z]at F;cases F
  rw[Ya G]at F
  by_cases e:p.1=j
  .rw[Yg e,Yg e,Qax (λz=>G (e.trans z))]
  .rw[Ya e,Ya e,vK k j y r F]
def Gq(kvs:List (κ×V))(k j:κ)(y:V):Ym (putK kvs k y) j=if j=k then some y else Ym kvs j:=by
 unfold putK
 by_cases a:(kvs.any λF=>decide (F.1=k))=true
 .rw[Qa2 a,gW];rw[Wt]at a
  by_cases e:j=k
  .obtain⟨x,z⟩:=Option.isSome_iff_exists.mp a;rw[Qa2 e,e,z,Qeq,Qa2 U]
  .rw[Qax e];cases Ym kvs j with
   |none=>rfl
   |some x=>rw[Qeq,Qax e]
 .rw[Qax a];refine vK k j y kvs ?_;rw[Wt]at a;cases q:Ym kvs k with
  |none=>rfl
  |some x=>rw[q]at a;exact(a U).elim
def Wu(kvs:List (κ×V))(k:κ)(v:V):(putK kvs k v).length<=kvs.length+1:=by
 unfold putK;split
 .rw[Qab];lia
 .grind
def Zg7{kvs:List (κ×V)}{k:κ}(v:V)(h:Ym kvs k=none):putK kvs k v=kvs++[(k,v)]:=by
 unfold putK;rw[Wt,h];exact Qax (by decide)
def gL.isSome_eq{o:Option V}{u:Option Av}(r:gL o u):o.isSome=u.isSome:=by
 cases o with
 |none=>cases u with
  |none=>rfl
  |some _=>exact(r).elim
 |some _=>cases u with
  |none=>exact(r).elim
  |some _=>rfl
def gL.getD{o:Option V}{u:Option Av}{d:V}{d':Av}(r:gL o u)(rd:RelV d d'):RelV (o.getD d) (u.getD d'):=by
 cases o with
 |none=>cases u with
  |none=>exact rd
  |some _=>exact(r).elim
 |some _=>cases u with
  |none=>exact(r).elim
  |some _=>exact r
theorem KV.val{kvs:List (κ×V)}{vs:List (κ×Av)}(r:KV kvs vs)(k:κ):gL (Ym kvs k) (valueAt vs k):=by
 induction r with
 |nil=>exact True.intro
 | @cons p q ps G h t I=>
  obtain⟨h1,h2⟩:=h
  by_cases e:p.1=k
  .have F:=h1.symm.trans e;have b:valueAt (q::G) k=some q.2:=by simp[valueAt,F]
   rw[Yg e,b];exact h2
  .have F:¬q.1=k:=λz=>e (h1.trans z)
   have b:valueAt (q::G) k=valueAt G k:=by simp[valueAt,F]
   rw[Ya e,b];exact I
theorem KV.any{kvs:List (κ×V)}{vs:List (κ×Av)}(r:KV kvs vs)(k:κ):(kvs.any λe=>decide (e.1=k))=vs.any λe=>decide (e.1=k):=by
 induction r with
 |nil=>rfl
 |cons h t z=>rw[Qgc,Qgc,z,h.1]
theorem KV.repl{kvs:List (κ×V)}{vs:List (κ×Av)}(r:KV kvs vs)(k:κ){u:Av}(G:RelV y u):
  KV (kvs.map λz=>if z.1=k then(z.1,y)else z) (vs.map λz=>if z.1=k then(z.1,u)else z):=by
 induction r with
 |nil=>exact .nil
 | @cons p q ps I h t F=>
  refine .cons ?_ F;obtain⟨h1,h2⟩:=h
  by_cases e:p.1=k
  .grind
  .grind
def KV.put{kvs:List (κ×V)}{vs:List (κ×Av)}(r:KV kvs vs)(k:κ){u:Av}(z:RelV y u):KV (putK kvs k y) (stored vs k u):=by
 unfold putK stored;rw[r.any k]
 by_cases e:(vs.any λF=>decide (F.1=k))=true
 .rw[Qa2 e,Qa2 e];exact r.repl k z
 .rw[Qax e,Qax e];exact Paired.snoc r ⟨U,z⟩
theorem KV.keys{kvs:List (κ×V)}{vs:List (κ×Av)}(r:KV kvs vs):kvs.map (·.1)=vs.map (·.1):=by
 induction r with
 |nil=>rfl
 |cons h t e=>rw[Qbv,Qbv,e,h.1]
def KV.length{kvs:List (κ×V)}{vs:List (κ×Av)}(r:KV kvs vs):kvs.length=vs.length:=Qfb r
end
def vL{k:Key}{u:Av}(r:RelV (kV k) u):(ZT P w).is k u=true:=by
 cases k with
 |inl i=>obtain⟨t,e⟩:=(r);subst e;exact wF P w i t
 |inr x=>obtain⟨t,e⟩:=(r);subst e;exact JO P w x t
theorem vM{P:Aq}{w:Au}:∀{ks:List Key} {e:Ag},Vals (ks.map kV) e->ItemsAre (ZT P w) ks e
 |[],_,r=>by cases r;exact .nil
 |k::ks,_,r=>by
  cases r with
  |cons h t=>exact .cons (vL h) (vM t)
abbrev KT(H:Hp):List (List Key×V)->List (List Key×Aw×Av)->Prop:=Paired λp q=>p.1=q.1/\H q.2.1=some (.tup (p.1.map kV))/\RelV p.2 q.2.2
theorem KT.val{kvs:List (List Key×V)}{xs:List (List Key×Aw×Av)}(r:KT H kvs xs)(k:List Key):gL (Ym kvs k) ((atKey xs k).map (·.2)):=by
 induction r with
 |nil=>exact True.intro
 | @cons p q ps G h t I=>
  obtain⟨h1,_,h2⟩:=h
  by_cases e:p.1=k
  .have F:=h1.symm.trans e;have b:atKey (q::G) k=some q.2:=by simp[atKey,F]
   rw[Yg e,b];exact h2
  .have F:¬q.1=k:=λz=>e (h1.trans z)
   have b:atKey (q::G) k=atKey G k:=by simp[atKey,F]
   rw[Ya e,b];exact I
theorem KT.repl{kvs:List (List Key×V)}{xs:List (List Key×Aw×Av)}(r:KT H kvs xs)(k:List Key){u:Av}(G:RelV y u):
  KT H (kvs.map λz=>if z.1=k then(z.1,y)else z) (xs.map (putAt k u)):=by
 induction r with
 |nil=>exact .nil
 | @cons p q ps J h t F=>
  refine .cons ?_ F;obtain⟨h1,h2,I⟩:=h;unfold putAt
  by_cases e:p.1=k
  .grind
  .grind
def KT.put{kvs:List (List Key×V)}{xs:List (List Key×Aw×Av)}(r:KT H kvs xs)(k:List Key){b:Aw}{u:Av}(F:H b=some (.tup (k.map kV)))(z:RelV y u):
  KT H (putK kvs k y) (storedH xs k b u):=by
 have e:(kvs.any λG=>decide (G.1=k))=(atKey xs k).isSome:=by
  rw[Wt,(r.val k).isSome_eq,Qgt]
 unfold putK storedH;rw[e]
 by_cases q:(atKey xs k).isSome=true
 .rw[Qa2 q,Qa2 q];exact r.repl k z
 .rw[Qax q,Qax q];exact Paired.snoc r ⟨U,F,z⟩
theorem KT.keeps{H':Hp}{kvs:List (List Key×V)}{xs:List (List Key×Aw×Av)}(r:KT H kvs xs)(e:∀b ys,H b=some (.tup ys)->H' b=some (.tup ys)):KT H' kvs xs:=
 Paired.mapP r λ_ _ z=>⟨z.1,e _ _ z.2.1,z.2.2⟩
section
variable {P:Aq}{w:Au}{H:Hp}{h:Heap}{a:Aw}
def Zog{u:HO}(ok:HOk P w H h)(e:Rd H a u):YR P w H h a u:=e.ok ok
theorem xN{kvs:A0}(ok:HOk P w H h)(e:Rd H a (.dK kvs)):kvs.length<=sizeLine/\(a == sysModules)=false/\∃vs,KV kvs vs/\h.DictOf (ZT P w) a vs:=
 Zog ok e
def Zli{kvs:A0}(ok:HOk P w H h)(e:H a=some (.dK kvs)):kvs.length<=sizeLine/\(a == sysModules)=false/\∃vs,KV kvs vs/\h.DictOf (ZT P w) a vs:=xN ok (.inl e)
def vN{ks:List Key}(ok:HOk P w H h)(e:H a=some (.tup (ks.map kV))):(tupleKind (ZT P w)).is h ks a:=by
 obtain⟨_,F,r,o,h1,h2,⟨n,z⟩,_⟩:=(ok a _ e);exact⟨o,_,n,h1,h2,z,by simpa using vM r⟩
theorem Zc2{kvs:List (List Key×V)}(ok:HOk P w H h)(e:Rd H a (.dT kvs)):kvs.length<=sizeLine/\(a == sysModules)=false /\
  ∃xs,KT H kvs xs/\h.DictOfH (tupleKind (ZT P w)) a xs:=by
 obtain⟨z,y,xs,r,o,es,ep,h1,h2,I,G,J⟩:=(Zog ok e);refine⟨z,y,xs,r,o,es,ep,h1,h2,I,G,λx F=>?_,J⟩;have all:∀{l:List _} {m:List _},KT H l m->∀x∈m,(tupleKind (ZT P w)).is h x.1 x.2.1:=by
  intro l m q
  induction q with
  |nil=>intro x F;exact nomatch F
  | @cons p q ps Y Ua t O=>
   intro x F;rcases Qas.mp F with e|F
   .subst e;exact vN ok (by grind)
   .exact O x F
 exact all r x F
end
def Znu(H:Hp)(a:Aw)(y:V)(r:Option V):Prop:=
 (∃kvs k,Rd H a (.dK kvs)/\y=kV k/\r=Ym kvs k)\/∃kvs k b,Rd H a (.dT kvs)/\y=.ref b/\H b=some (.tup (k.map kV))/\r=Ym kvs k
def Zc3(H:Hp)(a:Aw)(y v:V)(H':Hp):Prop:=
 (∃kvs k,H a=some (.dK kvs)/\y=kV k/\kvs.length<sizeLine/\H'=upd H a (.dK (putK kvs k v))) \/
 ∃kvs k b,H a=some (.dT kvs)/\y=.ref b/\H b=some (.tup (k.map kV))/\kvs.length<sizeLine/\H'=upd H a (.dT (putK kvs k v))
def Zc3.k{H:Hp}{a:Aw}{kvs:A0}{k:Key}{v:V}(e:H a=some (.dK kvs))(z:kvs.length<sizeLine):Zc3 H a (kV k) v (upd H a (.dK (putK kvs k v))):=.inl ⟨kvs,k,e,U,z,U⟩
section
variable {X:Cx}{pins:Ac}{σ:St}{H:Hp}{s:As}{a:Aw}{y v:V}{u r:Av}{o:Option V}{A:Ar}{E:Ab}
def Inv.big(I:Inv X pins σ H s):sysModules<s.heap.objs.size:=Nat.lt_trans (by decide) (I.mod.glob.keeps I.bk).lt
def Zc4(hu:A.units+1<cLine)(I:Inv X pins σ H s)(g:Znu H a y (some v))(Y:RelV y u)(h:∀J s',Inv X pins σ H s'->RelV v J->Q J s'):
  A3 X.prog X.w A (getItem (.ref a) u) Q E s:=by
 rcases g with⟨kvs,k,e,O,l⟩|⟨kvs,k,b,e,O,Z,l⟩
 .subst O;obtain⟨z,hd,vs,G,dd⟩:=xN I.hok e;obtain⟨J,hw,F⟩:=gL.some_of (by rw[l];exact G.val k);exact wpAny_getItem_of (vL Y) dd.mapOf hw (h J _ (I.tok _) F)
 .subst O;cases(Y);obtain⟨z,hd,xs,G,dd⟩:=Zc2 I.hok e;obtain⟨J,hw,F⟩:=gL.some_of (by rw[l];exact G.val k);obtain⟨p,hp,Ua⟩:=Qa5.mp hw;refine wpAny_getItem_heap (Qfg hu) (vN I.hok Z) dd hp ?_;rw[Ua];exact h J _ (I.tok _) F
def d_in(Y:A.units+1<cLine)(I:Inv X pins σ H s)(g:Znu H a y o)(O:RelV y u)(h:∀s',Inv X pins σ H s'->Q (.bool o.isSome) s'):
  A3 X.prog X.w A (compareOp .In u (.ref a)) Q E s:=by
 rcases g with⟨kvs,k,e,J,l⟩|⟨kvs,k,b,e,J,Ua,l⟩
 .subst J;obtain⟨z,G,vs,F,dd⟩:=xN I.hok e;refine wpAny_in_of (vL O) G dd.mapOf ?_;rw[<-(F.val k).isSome_eq,<-l];exact h _ (I.tok _)
 .subst J;cases(O);obtain⟨z,G,xs,F,dd⟩:=Zc2 I.hok e;refine wpAny_in_heap (Qfg Y) (vN I.hok Ua) G dd ?_;have q:=(F.val k).isSome_eq;rw[Qgt]at q;rw[<-q,<-l];exact h _ (I.tok _)
def Zlj(Y:A.units+1<cLine)(I:Inv X pins σ H s)(g:Znu H a y o)(O:RelV y u)(h:∀s',Inv X pins σ H s'->Q (.bool (!o.isSome)) s'):
  A3 X.prog X.w A (compareOp .NotIn u (.ref a)) Q E s:=by
 rcases g with⟨kvs,k,e,J,l⟩|⟨kvs,k,b,e,J,Ua,l⟩
 .subst J;obtain⟨z,G,vs,F,dd⟩:=xN I.hok e;refine wpAny_notIn_of (vL O) G dd.mapOf ?_;rw[<-(F.val k).isSome_eq,<-l];exact h _ (I.tok _)
 .subst J;cases(O);obtain⟨z,G,xs,F,dd⟩:=Zc2 I.hok e;refine wpAny_notIn_heap (Qfg Y) (vN I.hok Ua) G dd ?_;have q:=(F.val k).isSome_eq;rw[Qgt]at q;rw[<-q,<-l];exact h _ (I.tok _)
theorem yl{t':Nat}(I:Inv X pins σ H s)(G:Mut (H a))(e:Heap.SameBut a s.heap h)(J:∃q,h.get? a=some q)(new:YR X.prog X.w (upd H a D) h a D):
  Inv X pins σ (upd H a D) {s with heap:=h,toks:=t'}:=
 I.write G (.inl U) (λb q F z=>(e.2 b F).trans z) J new
theorem Zc5{H':Hp}{kvs:A0}{vs:List (Key×Av)}(z:kvs.length<=sizeLine)(F:(a == sysModules)=false)(e:KV kvs vs)(dd:h.DictOf (ZT P w) a vs):
  YR P w H' h a (.dK kvs):=⟨z,F,vs,e,dd⟩
def Zc6{H':Hp}{Q:Unit->Shared->Prop}(hu:A.units+1<cLine)(I:Inv X pins σ H s)(g:Zc3 H a y v H')(ry:RelV y u)(rv:RelV v r)(h:∀s',Inv X pins σ H' s'->Q () s'):
  A3 X.prog X.w A (setItem (.ref a) u r) Q E s:=by
 rcases g with⟨kvs,k,e,O,l,Y⟩|⟨kvs,k,b,e,O,eb,l,Y⟩
 .subst O Y;obtain⟨z,J,vs,F,dd⟩:=Zli I.hok e;have hz:vs.length<=sizeLine:=by rw[<-F.length];exact z
  have Ua:(putK kvs k v).length<=sizeLine:=by have:=Wu kvs k v;lia
  refine wpAny_setItem_pairs (hsz:=hz) (vL ry) dd λh' dd' Z=>h _ ?_;have he:∃q,h'.get? a=some q:=let⟨q,_,_,G,_⟩:=dd';⟨q,G⟩;exact yl I (by rw[e];exact True.intro) Z he (Zc5 Ua J (F.put k rv) dd')
 .subst O Y;cases(ry);obtain⟨z,J,xs,F,dd⟩:=(Zc2 I.hok (.inl e));have hz:xs.length<=sizeLine:=by rw[<-Qfb F];exact z
  have Ua:(putK kvs k v).length<=sizeLine:=by have:=Wu kvs k v;lia
  refine wpAny_setItem_heap (hsz:=hz) (Qfg hu) (vN I.hok eb) dd λh' dd' Z=>h _ ?_;obtain⟨q,es,ep,G,h2,h3,h4,_,h5⟩:=dd';refine yl I (by rw[e];exact True.intro) Z ⟨q,G⟩ ⟨Ua,J,_,(F.put k eb rv).keeps λc ys ec=>?_,q,es,ep,G,h2,h3,h4,h5⟩;rw[Zj (YQ ec e (λz=>nomatch z))];exact ec
end
section
variable {X:Cx}{pins:Ac}{σ:St}{H:Hp}{s:As}{a:Aw}{kvs:A0}{k:Key}{u:Av}{A:Ar}{E:Ab}
def d_len  (I:Inv X pins σ H s) (e:Rd H a (.dK kvs)) (h:∀t s',Inv X pins σ H s'->Q (.int kvs.length t) s'):A3 X.prog X.w A (call (.builtin "len") [.ref a]) Q E s:=by
 obtain⟨z,G,vs,F,dd⟩:=xN I.hok e;refine call_len_dict G dd (by rw[<-F.length];rw[Qer]at z;lia) ?_;rw[<-F.length];exact h _ _ (I.tok _)
end
def Zpf(i:Ax):Prop:=∀z e,subscripted i false z e=operate [z,e] (getItem z e)
def Zc7{prog:Aq}{A:Ar}{E:Ab}{env:Env}{z:Ax}{pos:Pos}{T id:String}
  (Ua:typeLookup (.type T) "__getitem__" = pure (some (.builtin id))) (Z:Zpf z)
  (h:A3 prog w A (eval e env) (λo I=>A3 prog w A (eval z env) (λi s₂=>s₂.TypeIs o T/\A3 prog w A (getItem o i) Q E s₂) E I) E s):
  A3 prog w A (eval (.Subscript e z pos) env) Q E s:=by
 refine Subscript_ (Qcq h (λo I J=>Qcq J (λi s₂ F=>?_) λ_ _ x=>x) λ_ _ x=>x);obtain⟨Y,F⟩:=F;refine Qaa (Qaa (Qea Y Ua ?_));have fin:A3 prog w A (subscripted z false o i) (λr G=>A3 prog w A (letTemporaryGo e o r >>= λ_=>pure r) Q E G) E s₂:=by
  rw[Z o i];exact wpAny_operating (Qcq F (λr G O=>Qaa (wpAny_letTemporaryGo (Qaf O))) λ_ _ x=>x)
 first
  |exact Qaf (Qaa fin)
  |exact Qaa _
  |exact Qaa fin
inductive Zc8(Q:VK)(x:V)(y:V)(H2:Hp):Prop
 |mk (a v:_):(x=.ref a)->(Znu H2 a y (some v))->(Q v H2)->Zc8 Q x y H2
def Zoh(td ty:TE):TE:=λσ H Q=>td σ H λx H1=>ty σ H1 λy H2=>Zc8 Q x y H2
inductive Zc9(D:Ends)(σ:St)(v:V)(x:V)(y:V)(H3:Hp):Prop
 |mk (a H4:_):(x=.ref a)->(Zc3 H3 a y v H4)->(D.nx σ H4)->Zc9 D σ v x y H3
def sDPut(td ty tv:TE):TS:=λD σ H=>tv σ H λv H1=>td σ H1 λx H2=>ty σ H2 λy e=>Zc9 D σ v x y e
section
variable {X:Cx}{o i e value:Ax}{pos pos' tpos:Pos}{td ty tv:TE}
def Zlk(hu:X.A.units+1<cLine)(Y:PE X o td)(hi:PE X i ty)(hs:Zpf i):PE X (.Subscript o i pos) (Zoh td ty):=by
 intro pins s σ H Q I h;refine Zc7 PySem.F.slot_dict_getitem.lookup hs (thn (Y pins s σ H _ I h) λu s1 ⟨x,H1,J,Ua,O⟩=>thn (hi pins s1 σ H1 _ J O) λiv s2 ⟨y,H2,z,Z,a,v,ex,g,q2⟩=>?_);subst ex;obtain rfl:u=Value.ref a:=Ua;exact⟨(by
    rcases g with⟨kvs,k,e,_,_⟩|⟨kvs,k,b,e,_,_,_⟩
    .obtain⟨_,_,vs,_,dd⟩:=xN z.hok e;exact dd.typeIs
    .obtain⟨_,_,xs,_,dd⟩:=Zc2 z.hok e;exact dd.typeIs),Zc4 hu z g Z λw' s3 I3 G=>⟨v,H2,I3,G,q2⟩⟩
end
theorem ym    (h:Heap) (e:sysModules<h.objs.size):YR P w H (h.push {cls:=.type "dict",data:=.dict #[]}) h.objs.size (.dK []):=
 ⟨Qbl _,Qe4.mpr (Qdx (Qa8 e)),[],.nil,Heap.DictOf.new h⟩
def tDNewK:TE:=λ_ H Q=>∀p,H p=none->Q (.ref p) (upd H p (.dK []))
def Zda:List (TE×TE)->St->Hp->(List (V×V)->Hp->Prop)->Prop
 |[],_,H,Q=>Q [] H
 |(tk,tv)::r,σ,H,Q=>tk σ H λx H1=>tv σ H1 λy H2=>Zda r σ H2 λps e=>Q ((x,y)::ps) e
abbrev VV:List (V×V)->List (Av×Av)->Prop:=Paired λp q=>RelV p.1 q.1/\RelV p.2 q.2
def PPs(X:Cx)(pos:Pos)(keys:List (Option Ax))(e:An)(z:List (TE×TE)):Prop:=
 ∀(pins:Ac)(s:As)(σ:St)(H:Hp)(Q:List (V×V)->Hp->Prop),Inv X pins σ H s->Zda z σ H Q->
  A4 X (evalPairs (pairTrees keys e X.env pos)) (λvs s'=>∃ps H',Inv X pins σ H' s'/\VV ps vs/\Q ps H') X.xe s
def Gr(kvs more:A0):A0:=more.foldl (λacc e=>putK acc e.1 e.2) kvs
theorem KV.merge:∀{more:A0} {z:List (Key×Av)} {kvs:A0} {vs:List (Key×Av)},KV more z->KV kvs vs->KV (Gr kvs more) (merged vs z):=by
 intro more z kvs vs r
 induction r generalizing kvs vs with
 |nil=>intro q;exact q
 | @cons p q ps I h t F=>
  intro G;have e:KV (putK kvs p.1 p.2) (stored vs q.1 q.2):=by
   have:=G.put p.1 h.2;rw[<-h.1];exact this
  exact F e
theorem Gs:∀(more kvs:A0),(Gr kvs more).length<=kvs.length+more.length
 |[],kvs=>by show kvs.length<=kvs.length+0;lia
 |p::r,kvs=>by
  have h1:=Gs r (putK kvs p.1 p.2);have h2:=Wu kvs p.1 p.2;show(Gr _ r).length<=_;rw[Qbj];lia
theorem jA{P:Aq}{w:Au}:∀{kvs:A0} {F:List (Av×Av)},VV (kvs.map λz=>(kV z.1,z.2)) F->∃e,Carries (ZT P w) F e/\KV kvs e
 |[],_,r=>by cases r;exact⟨[],True.intro,.nil⟩
 |p::kvs,_,r=>by
  cases r with
  | @cons a b as bs h t=>
   obtain⟨e,c,q⟩:=jA t;obtain⟨b1,b2⟩:=b;exact⟨(p.1,b2)::e,⟨vL h.1,U,c⟩,.cons ⟨U,h.2⟩ q⟩
def tDisp(e:List (TE×TE)):TE:=λσ H Q=>∀p,H p=none->Zda e σ (upd H p (.dK [])) λps H2=>H2 p=some (.dK [])/\∃kvs:A0,ps=kvs.map (λz=>(kV z.1,z.2))/\kvs.length<=15/\Q (.ref p) (upd H2 p (.dK (Gr [] kvs)))
structure M2(X:Cx)(o:Ax)(m:Str)(apos:Pos)(e f:Ax)(cpos:Pos):Prop where
 base:attributeBase o m X.env (eval o X.env)=eval o X.env
 few:((backTo cpos (starEach [e,f] X.env)).all (λx=>!x.1)&&(backToKw cpos (keywordEach [] X.env)).all (λx=>x.1.isSome)
  && decide (([e,f]:An).length+([]:List Keyword).length+(if([]:List Keyword).isEmpty then 0 else 1)<30))=true
 line:(apos.endLine == cpos.line)=true
 trees:backTo cpos (starEach [e,f] X.env)=[(false,eval e X.env),(false,eval f X.env)]
section
variable {X:Cx}{pins:Ac}{σ:St}{H:Hp}{s:As}{a:Aw}{kvs:A0}{A:Ar}{E:Ab}
def Zg8  (I:Inv X pins σ H s) (e:Rd H a (.dK kvs)) (h:∀p s',H p=none->Inv X pins σ (upd H p (.dK kvs)) s'->Q (.ref p) s'):A3 X.prog X.w A (call (.type "dict") [.ref a]) Q E s:=by
 obtain⟨z,O,vs,F,dd⟩:=xN I.hok e;refine kt_call_dict O dd (by rw[<-F.length];exact z) λh' dd' J=>(h _ _ (I.hok.fresh (Qaj _)) (I.laid (λb q G=>((J.2 b (Qa8 (Qao G))).trans (Qad _ G))) (Qaj _) (Zc5 z (Qe4.mpr (Qdx (Qa8 I.big))) F dd')))
end
end L2
namespace EnT
section
variable {prog:Aq}{w:Au}{A:Ar}{E:Ab}{s:As}
def next_of{it l:Aw}{items:_}{x:Av}(e:s.heap.IsTupleIter it l i)(Ua:s.heap.IsTuple l items)(Y:items[i]?=some x)
  (O:∀h',h'.IsTupleIter it l (i+1)->Heap.SameBut it s.heap h'->Q x {s with heap:=h'}):A3 prog w A (Builtin.SmallTypes.nextOf (.ref it)) Q E s:=by
 obtain⟨o,F,J,z⟩:=id e;obtain⟨ol,I,_,Z,G⟩:=Ua;refine Qaa (wpAny_callSpecial?_slot e.typeIs Qdy (Qbn Qdy e.typeIs Qgk ?_ (Qgd _)));show wpAny _ _ (field _ 0 >>= _) _ _ s;refine Qaa (Qbz F z U (Qaa (Qbz F z U (Qaa (Qcl I G ?_)))));simp[Y];refine Qaa (Qdb F z (by simp) (Qaf ⟨x,U,Qaf (O _ ⟨_,Qbm _ F (Qcs (Qbr z _)),(Qez ..).trans J,?_⟩ (Qb0 ..))⟩));rw[Qbr z];simp[rawInt]
def next_no{it l:Aw}{items:_}(hh:A.handled=none)(z:s.heap.IsTupleIter it l i)(O:s.heap.IsTuple l items)(Ua:items[i]?=none)
  (Y:∀h' e,Heap.ExtBut it s.heap h'->(∃o,h'.get? e=some o/\o.cls=.type "StopIteration")->E (.ref e) {s with heap:=h'}):A3 prog w A (Builtin.SmallTypes.nextOf (.ref it)) Q E s:=by
 obtain⟨o,G,hc,I⟩:=id z;obtain⟨ol,J,_,Z,F⟩:=O;refine Qaa (wpAny_callSpecial?_slot z.typeIs Qdy (Qbn Qdy z.typeIs Qgk ?_ (Qgd _)));show wpAny _ _ (field (.ref it) 0 >>= _) _ _ s;refine Qaa (Qbz G I (x:=.ref l) U ?_);refine Qaa (Qbz G I (x:=.int i 0) U ?_);refine Qaa (Qcl J F ?_);simp only[Qbf,Ua];refine Qaa (Qdt (Qaa (Qdb G I (by simp) ?_)));refine Qaa ?_;refine Qaa (Qbq ?_ (by size_fits));refine Qaa (Qco (by first|rfl|(rfl)) ?_);refine Qbq ?_ (by size_fits);refine Qaa (Qg2 ?_)
 first|rw[hh]|rw[hh]
 refine Qaa (Qaf (Qhn ?_));exact Y _ _ (((Qb0 ..).extBut.push _).push _) ⟨_,Qak _ U,U⟩
end
end EnT
namespace ZpT
def ZM:Bool->Heap->Addr->Addr->Nat->Prop
 |true,h,it,l,k=>h.IsTupleIter it l k
 |false,h,it,l,k=>h.IsListIter it l k
def SeqAt:Bool->Heap->Addr->Array Av->Prop
 |true,h,l,xs=>h.IsTuple l xs
 |false,h,l,xs=>h.IsList l xs
def ZM.mv{b:Bool}{h':Heap}{it l:Aw}{k:Nat}(x:ZM b h it l k)(f:∀o,h.get? it=some o->h'.get? it=some o):ZM b h' it l k:=by
 cases b
 .exact Heap.IsListIter.at x f
 .exact Heap.IsTupleIter.at x f
def SeqAt.mv{b:Bool}{h':Heap}{l:Aw}{xs:Ah}(x:SeqAt b h l xs)(f:∀o,h.get? l=some o->h'.get? l=some o):SeqAt b h' l xs:=by
 cases b
 .obtain⟨o,e,r⟩:=(x);exact(⟨o,f o e,r⟩)
 .obtain⟨o,e,r⟩:=(x);exact(⟨o,f o e,r⟩)
def ZM.ob{b:Bool}{it l:Aw}{k:Nat}(x:ZM b h it l k):∃o,h.get? it=some o/\∀v,o.data≠.cell v:=by
 cases b
 .obtain⟨o,e,F,G⟩:=(x);exact⟨o,e,λv z=>by grind⟩
 .obtain⟨o,e,F,G⟩:=(x);exact⟨o,e,λv z=>by grind⟩
def itO (b:Bool) (l:Aw):Obj:={cls:=.type (if b then "tuple_iterator" else "list_iterator"),data:=.fields #[.ref l,.int 0 0]}
section
variable {prog:Aq}{w:Au}{A:Ar}{E:Ab}{s:As}
def WX{b:Bool}{it l:Aw}{k:Nat}{xs:Ah}{x:Av}(e:ZM b s.heap it l k)(F:SeqAt b s.heap l xs)(G:xs[k]?=some x)
  (z:∀h',ZM b h' it l (k+1)->Heap.SameBut it s.heap h'->Q x {s with heap:=h'}):A3 prog w A (Builtin.SmallTypes.nextOf (.ref it)) Q E s:=by
 cases b
 .exact wpAny_nextOf_list_item e F G z
 .exact EnT.next_of e F G z
def jB{b:Bool}{it l:Aw}{k:Nat}{xs:Ah}(hh:A.handled=none)(z:ZM b s.heap it l k)(F:SeqAt b s.heap l xs)(I:xs[k]?=none)
  (G:∀h' e,Heap.ExtBut it s.heap h'->(∃o,h'.get? e=some o/\o.cls=.type "StopIteration")->E (.ref e) {s with heap:=h'}):A3 prog w A (Builtin.SmallTypes.nextOf (.ref it)) Q E s:=by
 cases b
 .exact wpAny_nextOf_list_end hh z F I G
 .exact EnT.next_no hh z F I G
def Wa{b:Bool}{l:Aw}{xs:Ah}(e:SeqAt b s.heap l xs)(h:Q (.ref s.heap.objs.size) {s with heap:=s.heap.push (itO b l)}):A3 prog w A (pyIter (.ref l)) Q E s:=by
 cases b
 .exact Qey e h
 .exact wpAny_pyIter_tuple e h
def xq{b:Bool}{it l:Aw}(e:h.get? it=some (itO b l)):ZM b h it l 0:=by
 cases b
 .exact(⟨_,e,U,U⟩)
 .exact(⟨_,e,U,U⟩)
end
end ZpT
namespace L2
open ZpT (SeqAt ZM)
def SqB(K:Af):Bool->Hp->Addr->List V->Prop
 |true,H,a,xs=>SqT K H a xs
 |false,H,a,xs=>SqL K H a xs
def SqB.t{xs:A2}(h:H a=some (.tup xs)):SqB K true H a xs:=(SqT.of h)
def SqB.l{xs:A2}(h:H a=some (.lst xs)):SqB K false H a xs:=(SqL.of h)
def Inv.sqB{X:Cx}{σ:L2.St}{xs:A2}{b:Bool}(I:Inv X q σ H s)(h:SqB X.K b H a xs):∃z:Ag,Vals xs z/\SeqAt b s.heap a z.toArray/\xs.length<=sizeLine:=by
 cases b
 .obtain⟨z,G,p,F⟩:=I.list (h);obtain⟨o,n,e,O,_,J⟩:=p;exact⟨z,G,(⟨o,e,O,n,J⟩),F⟩
 .obtain⟨z,G,p,F⟩:=I.tuple (h);exact⟨z,G,(p),F⟩
def Inv.sqB_inj{X:Cx}{σ:L2.St}{xs ys:A2}{b:Bool}(I:Inv X q σ H s)(h:SqB X.K b H a xs)(h':SqB X.K b H a ys):xs=ys:=by
 cases b
 .exact I.list_inj h h'
 .exact I.tuple_inj h h'
end L2
namespace EnT
open AutoSeq1 (wpAny_loadPart')
open ZpT (SeqAt ZM itO Wa WX jB xq)
def enO (it:Aw):Obj:={cls:=.type "enumerate",data:=.fields #[.none,.bool false,.ref it,rawInt 0,.none,.none]}
theorem WV(b:Bool)(l:Aw)(items:Ah):
  Meets (Builtin.«enumerate.__new__» ⟨[.type "enumerate",.ref l],[]⟩) (λ_ R s=>SeqAt b s.heap l items /\
   R (.ok (.ret (.ref (s.heap.push (itO b l)).objs.size))) {s with heap:=(s.heap.push (itO b l)).push (enO s.heap.objs.size)}):=
 .of_wp λprog w A R s h=>by
  obtain⟨I,g,d,tk,os⟩:=s;obtain⟨J,h⟩:=h;have O:=sub_enumerate;have F:SeqAt b (Shared.heap ⟨I,g,d,tk,os⟩) l items:=J;obtain⟨o,G,Y⟩:∃o,I.get? l=some o/\∀v,o.data≠.cell v:=by cases b<;>(obtain⟨o,e,_,_,Ua⟩:=J;exact⟨o,e,λv z=>by rw[Ua]at z;cases z⟩)
  wp_walk using wpAny_loadPart' G
  refine wpAny_stack_any λst=>Qaf ?_
  split
  .rename_i c _ _ _ _ _;cases(c == Value.type "enumerate")
   .wp_walk using wpAny_loadPart' G,Wa F
    exact⟨_,U,h⟩
   .wp_walk using wpAny_loadPart' G,Wa F
    exact⟨_,U,h⟩
  .wp_walk using wpAny_loadPart' G,Wa F
   exact⟨_,U,h⟩
section
variable {prog:Aq}{w:Au}{A:Ar}{E:Ab}{s:As}
def Zll{b:Bool}{it l:Aw}{items:Ah}{x old:Av}
  (he:IsEnum s.heap a it i old) (hit:ZM b s.heap it l i) (hl:SeqAt b s.heap l items) (hx:items[i]?=some x) (hne:a≠it)
  (hQ:∀h',IsEnumOut h' a it ((i:Int)+1) x s.heap.objs.size->ZM b h' it l (i+1)->
   h'.get? s.heap.objs.size=some {cls:=.type "tuple",data:=.seq #[.int i s.toks,x]}->h'.objs.size=s.heap.objs.size+1->
   (∀b o,b≠a->b≠it->s.heap.get? b=some o->h'.get? b=some o)->Q (.ref s.heap.objs.size) {s with heap:=h',toks:=s.toks+1}):
  A3 prog w A (Builtin.«enumerate.__next__» ⟨[.ref a],[]⟩) (λfin s'=>∃v,fin=.done (.ret v)/\Q v s') E s:=by
 obtain⟨hp,g,d,tk,os⟩:=s;show wpAny _ _ (field (.ref a) 2 >>= _) _ _ _;refine Qaa (Qbz he U (x:=.ref it) U ?_);refine Qaa (WX hit hl hx λh₁ hit₁ Ua=>?_);have Y:IsEnum h₁ a it i old:=(Ua.2 a hne).trans he;refine Qaa (Qbz Y U (x:=rawInt i) U ?_);refine Qaa (Qbz Y U (x:=.none) U ?_);refine Qaa (Qgj ?_);refine Qaa (Qb8 Y (by simp) λh₂ he₂ Z=>?_);refine Qaa (Qb8 he₂ (by simp) λh₃ he₃ hs₃=>?_);refine Qaa (Qgr ?_);have e:IsEnum (h₃.push {cls:=.type "tuple",data:=.seq #[.int i tk,x]}) a it ((i:Int)+1) old:=Qad _ he₃;generalize hh₄:h₃.push {cls:=.type "tuple",data:=.seq #[.int i tk,x]}=J at e;have hsz:h₃.objs.size=hp.objs.size:=by rw[hs₃.1,Z.1,Ua.1]
 have hel:a<hp.objs.size:=Qao he;have ht₄:J.get? hp.objs.size=some {cls:=.type "tuple",data:=.seq #[.int i tk,x]}:=by rw[<-hh₄,<-hsz];exact Qak _ U
 have hz₄:J.objs.size=hp.objs.size+1:=by rw[<-hh₄,Qca,hsz]
 have hk₄:∀b o,b≠a->b≠it->hp.get? b=some o->J.get? b=some o:=λb o O hbi hb=>by
  rw[<-hh₄];exact Qad _ (hs₃.extBut b o O (Z.extBut b o O (Ua.extBut b o hbi hb)))
 have hit₄:ZM b J it l (i+1):=by
  rw[<-hh₄];exact hit₁.mv λo z=>Qad _ (hs₃.extBut _ _ (Qdx hne) (Z.extBut _ _ (Qdx hne) z))
 show wpAny _ _ (Builtin.SmallTypes.ownedTupleIsFree (.ref a) >>= _) _ _ ⟨J,g,d,tk+1,os⟩;rw[hsz];refine Qaa ?_
 .refine Qaa (Qbz e U (x:=.none) U (Qaf ?_));refine Qaa (Qdt ?_);refine Qaa (Qbz e U (x:=old) U ?_);refine Qaa (Qb8 e (by simp) λh₅ he₅ F=>?_);refine Qaa ?_
  .refine Qaa (Qb8 he₅ (by simp) λh₆ he₆ G=>?_);refine Qb8 he₆ (by simp) λh₇ he₇ I=>?_;refine Qaa (Qe5 (Qaf ⟨_,U,hQ h₇ he₇ ?_ ?_ ?_ ?_⟩))
   .exact hit₄.mv λo z=>I.extBut _ _ (Qdx hne) (G.extBut _ _ (Qdx hne) (F.extBut _ _ (Qdx hne) z))
   .exact I.extBut _ _ (Qef hel) (G.extBut _ _ (Qef hel) (F.extBut _ _ (Qef hel) ht₄))
   .rw[I.1,G.1,F.1,hz₄]
   .exact λb o O hbi hb=>I.extBut b o O (G.extBut b o O (F.extBut b o O (hk₄ b o O hbi hb)))
def next_item{b:Bool}{it l:Aw}{items:Ah}{x:Av}{Q:Aa}
  (I:IsEnum s.heap f it i v) (z:ZM b s.heap it l i) (O:SeqAt b s.heap l items) (Ua:items[i]?=some x) (e:f≠it)
  (J:∀h',IsEnumOut h' f it ((i:Int)+1) x s.heap.objs.size->ZM b h' it l (i+1)->
   h'.get? s.heap.objs.size=some {cls:=.type "tuple",data:=.seq #[.int i s.toks,x]}->h'.objs.size=s.heap.objs.size+1->
   (∀b o,b≠f->b≠it->s.heap.get? b=some o->h'.get? b=some o)->Q (some (.ref s.heap.objs.size)) {s with heap:=h',toks:=s.toks+1}):
  A3 prog w A (pyNext (.ref f)) Q E s:=by
 have G:s.TypeIs (.ref f) _:=⟨_,I,U⟩;exact Qaa (Qc5 (wpAny_callSpecial?_slot G Qes (Qbn Qes G F.entry_enumerate_next
   (Zll I z O Ua e λh' a b c d k=>Qaf (J h' a b c d k)) (F.args_enumerate_next_1 _))))
def next_end{b:Bool}{it l:Aw}{items:Ah}{Q:Aa}(hh:A.handled=none)
  (J:IsEnum s.heap a it i v) (G:ZM b s.heap it l i) (Y:SeqAt b s.heap l items) (Z:items[i]?=none)
  (Ua:∀h',Heap.ExtBut it s.heap h'->Q none {s with heap:=h'}):A3 prog w A (pyNext (.ref a)) Q E s:=by
 have I:s.TypeIs (.ref a) _:=⟨_,J,U⟩;refine Qaa (Qc5 (wpAny_callSpecial?_slot I Qes (Qbn Qes I F.entry_enumerate_next ?_ (F.args_enumerate_next_1 _))));show wpAny _ _ (field _ 2 >>= _) _ _ _;refine Qaa (Qbz J U U (Qaa (jB hh G Y Z λh' x z e=>?_)));obtain⟨o,O,hc⟩:=e;refine Qaa (Qdh ⟨o,O,hc⟩ Qfs (Qaf (Ua _ z)))
def call_new{b:Bool}{l:Aw}{items:Ah}(I:SeqAt b s.heap l items)
  (h:∀h',IsEnum h' (s.heap.objs.size+1) s.heap.objs.size 0 .none->ZM b h' s.heap.objs.size l 0->h'.objs.size=s.heap.objs.size+2->
   (∀b o,s.heap.get? b=some o->h'.get? b=some o)->Q (.ref (s.heap.objs.size+1)) {s with heap:=h'}):A3 prog w A (call (.type "enumerate") [.ref l]) Q E s:=by
 refine Qhb F.called_enumerate (by decide) (F.typeCall_enumerate_1 _) (F.newCall_enumerate_1 _) (λe=>Qf4 e _) F.entry_enumerate_new (WV b l items) ⟨I,?_⟩;have z:(s.heap.push (itO b l)).objs.size=s.heap.objs.size+1:=Qca ..;rw[z];have G:=by
  have:=Qak (s.heap.push (itO b l)) (o:=enO s.heap.objs.size) rfl;rw[z]at this;exact this
 refine⟨⟨_,G,U⟩,h _ G (xq (Qad _ (Qak _ U))) (by simp) λb o x=>Qad _ (Qad _ x)⟩
end
end EnT
namespace L2
open ZpT (SeqAt ZM)
def GZ{X:Cx}{pins:Ac}{σ:St}{t':Nat}(I:Inv X pins σ H s)(G:∀b∈J,wA X pins H b)(k:∀b o,b∉J->s.heap.get? b=some o->h.get? b=some o):Inv X pins σ H {s with heap:=h,toks:=t'}:=by
 have O:∀b u,H b=some u->b∉J:=λb u e z=>by rw[(G b z).1]at e;cases e
 refine I.step (λb Ua=>⟨(G b Ua).2.2.2.1,(G b Ua).2.1,(G b Ua).2.2.2.2.1,(G b Ua).2.2.2.2.2⟩) (λb o _ _ F e _=>k b o F e) (λb o _ _ F e _=>⟨o.slots,k b o F e⟩) (λ_ _ _ _ n=>n)
  (λb o F e=>⟨o,k b o F e⟩) (λ_ _ e=>e) (λ_ _ _ e=>e) (λb ps e=>⟨#[],by grind⟩) (λm Z=>?_) (λb u e=>?_) I.bare
 .obtain⟨o,es,ep,Y,r⟩:=Z;exact⟨o,es,ep,k _ o (λz=>(G _ z).2.1 rfl) Y,r⟩
 .refine(I.hok b u e).stay (λc v F q=>k c v ?_ q) (λ_ q=>q) λ_ _ q=>q
  rcases F with z|z
  .rw[z];exact O b u e
  .exact O c _ z
def Ite(K:Af)(b:Bool)(a:Aw)(n:Nat):It:=
 ⟨λi H=>∃xs x,SqB K b H a xs/\xs.length=n/\xs[i]?=some x,λi H v H'=>∃p,H p=none/\v=.ref p/\∀xs x,SqB K b H a xs->xs[i]?=some x->H'=upd H p (.tup [.int i,x]),λi H=>∃xs,SqB K b H a xs/\xs.length=n/\n<=i⟩
def Zdb{q:Nat}{ps:Pos}(b:Bool)(a e it:Aw)(n:Nat)(Z:e≠it):Turn P w K (.Tuple C q ps) (Ite K b a n) [e,it] e (λi h=>(∃G,IsEnum h e it i G)/\ZM b h it a i)where
 mem:=by simp
 obj:=λi h st b J=>by
  obtain⟨⟨G,Ua⟩,F⟩:=st;rcases Qas.mp J with rfl|J
  .grind
  .have:b=it:=by simpa using J
   subst this;exact F.ob
 keep:=λi h h' st k=>by
  obtain⟨⟨G,Ua⟩,F⟩:=st;exact⟨⟨G,k e (by simp) _ Ua⟩,F.mv λo x=>k it (by simp) o x⟩
 item:=by
  intro X hP hw hK hc i pins s σ H E I hf st hg;subst hP hw hK;obtain⟨xs,x,hq,hn,hx⟩:=hg;obtain⟨its,rv,p,hz⟩:=I.sqB hq;obtain⟨u,hu,ru⟩:=rv.get hx;obtain⟨⟨G,Ua⟩,F⟩:=st;obtain⟨f0,f1,f2,f3,f4,f5⟩:=hf e (by simp);obtain⟨g0,g1,g2,g3,g4,g5⟩:=hf it (by simp);have hilt:it<s.heap.objs.size:=by obtain⟨_,z,_⟩:=F.ob;exact Qao z
  refine EnT.next_item Ua F p (x:=u) (by simpa using hu) Z λh' ho hit' hT hsz hk=>?_;refine⟨_,U,wpAny_letOwnedTupleGo_enum ho λh2 he2 hs2=>?_⟩;have O:Heap.SameBut e h' h2:=hs2;have I1:Inv X pins σ (upd H s.heap.objs.size (.tup [.int i,x])) {s with heap:=s.heap.push _,toks:=s.toks+1}:=
   I.laid (λb o y=>Qad _ y) (Qaj _) ⟨ya,[.int i s.toks,u],.cons ⟨_,U⟩ (.cons ru .nil),gM.new _ _⟩
  have fp':∀b∈[e,it],wA X pins (upd H s.heap.objs.size (.tup [.int i,x])) b:=λb J=>by
   have hlb:b≠s.heap.objs.size:=by
    grind
   obtain⟨a0,ar⟩:=hf b J;exact⟨by rw[Zj hlb];exact a0,ar⟩
  have I2:Inv X pins σ (upd H s.heap.objs.size (.tup [.int i,x])) {s with heap:=h2,toks:=s.toks+1}:=by
   refine GZ (s:={s with heap:=s.heap.push _,toks:=s.toks+1}) I1 fp' λb o J y=>?_;have Y:b≠e:=λz=>J (by simp[z]);have hbi:b≠it:=λz=>J (by simp[z]);rcases Heap.get?_push_cases y with⟨rfl,rfl⟩|y
   .exact(O.2 _ Y).trans hT
   .exact(O.2 b Y).trans (hk b o Y hbi y)
  refine⟨.ref s.heap.objs.size,_,I2,U,⟨_,I.hok.fresh (Qaj _),U,λys y hy hyi=>?_⟩,⟨⟨u,?_⟩,hit'.mv λo y=>(O.2 it Z.symm).trans y⟩,λb J=>(fp' b J).1⟩
  .rw[I.sqB_inj hy hq,hx]at hyi;cases hyi;rfl
  .grind
 done:=by
  intro X hP hw hK hc i pins s σ H E I hf st hg;subst hP hw hK;obtain⟨xs,hq,hn,hx⟩:=hg;obtain⟨its,rv,p,hz⟩:=I.sqB hq;obtain⟨⟨G,Ua⟩,F⟩:=st;obtain⟨g0,g1,g2,g3,g4,g5⟩:=hf it (by simp);have hl:=rv.length;exact EnT.next_end (I.ok.hd hc) Ua F p (by simp;lia) λh' eb=>⟨U,I.turned (t':=s.toks) (λb o J e=>eb b o J e) g0 g1 g3 g4 g5⟩
 self:=λ_ _ _ _ _ st h=>let⟨⟨_,Ua⟩,_⟩:=st;wpAny_pyIter_enum Ua h
def Zlm(K:Af)(b:Bool)(te:TE):TI:=λσ H R=>te σ H λx H1=>∃a xs,x=.ref a/\SqB K b H1 a xs/\R (Ite K b a xs.length) H1
def vO:bootBuiltins "enumerate" = some (.type "enumerate"):=by decide +kernel
def Zdc {b:Bool} {X:Cx}   {q:Nat} {ps:Pos}  {pos:Pos} (Ua:Gl X "enumerate") (hm:X.mg "enumerate" = none) (Z:QE X e d) (hp:ZY e=true:=by rfl):QI X (.Tuple C q ps) (.Call (.Name "enumerate" p) [e] [] pos) (Zlm X.K b d):=by
 refine⟨λpins s σ H R I h=>?_⟩;have O:starEach [e] X.env=[(false,eval e X.env)]:=by rw[Zv hp];rfl
 refine Call_ (Gh I Ua hm vO (Qcr ?_ O U));rw[O];refine Qc3 (thn (Z.out pins s σ H _ I h) λu s1 ⟨x,H1,z,ru,q1⟩=>(Qd8 ?_));obtain⟨a,xs,rfl,hq,r⟩:=q1;cases ru;obtain⟨its,rv,pt,hz⟩:=z.sqB hq;refine EnT.call_new pt λh' G F hsz Y=>?_;refine wpAny_pyIter_enum G ⟨_,_,_,_,H1,U,z.kept Y,Zdb b a _ _ _ (Nat.succ_ne_self _),⟨⟨_,G⟩,F⟩,λb J=>?_,r⟩;rcases Qas.mp J with rfl|J
 .exact z.fpOk (Qep _) (z.hok.fresh (Qep _))
 .have:=by simpa using J
  subst this;exact z.fpOk (Qaj _) (z.hok.fresh (Qaj _))
def gX {X:Cx}   {q:Nat} {ps:Pos}  {pos:Pos} (G:Gl X "enumerate") (F:X.mg "enumerate" = none) (I:QE X e d) (z:ZY e=true:=by rfl):QI X (.Tuple C q ps) (.Call (.Name "enumerate" p) [e] [] pos) (Zlm X.K true d):=Zdc G F I z
def Zg9 {X:Cx}   {q:Nat} {ps:Pos}  {pos:Pos} (G:Gl X "enumerate") (F:X.mg "enumerate" = none) (I:QE X e d) (z:ZY e=true:=by rfl):QI X (.Tuple C q ps) (.Call (.Name "enumerate" p) [e] [] pos) (Zlm X.K false d):=Zdc G F I z
theorem yn{X:Cx}{y:Str}{pos:Pos}{k:Nat}{e t2:TG}(z:X.calm=true)(h1:QG X (.Name x p) e)(h2:QG X (.Name y B) t2):QG X (.Tuple [.Name x p,.Name y B] k pos) (Zn4 X.K 2 (ye e (ye t2 Zn3))):=
 ⟨Zja z (xo h1.out (xo h2.out Zby))⟩
theorem yo{b:Bool}{xs:A2}{j k:Nat}{D:Ends}(z:Nat->St->Hp->Prop)(I:z 0 c H)(F:∀i c H,i<=xs.length->z i c H->SqB K b H a xs)
  (O:∀i x c H p,xs[i]?=some x->H p=none->z i c H->A {D with nx:=z (i+1),ct:=z (i+1),bk:=D.nx} ((c.set j (some (.int i))).set k (some x)) (upd H p (.tup [.int i,x]))) (G:∀c H,z xs.length c H->D.nx c H):
  Zgv (Ite K b a xs.length) (Zn4 K 2 (ye (WQ j) (ye (WQ k) Zn3))) A D c H:=
 x8 _ z I (λi c H hi p=>⟨⟨xs,xs[i],F i c H (Qaw hi) p,U,Qac hi⟩,λv H' y=>by
  obtain⟨t,J,rfl,y⟩:=y;have e:=y xs _ (F i c H (Qaw hi) p) (Qac hi);subst e;exact⟨t,_,U,SqT.of Za,U,_,_,U,_,_,U,U,O i _ c H t (Qac hi) J p⟩⟩) λc H p=>⟨⟨xs,F _ c H (Qaj _) p,U,Qaj _⟩,G c H p⟩
end L2
namespace L2
def JR{i:Ax}{pos:Pos}(F:X.A.units+1<cLine)(e:QE X o d)(hi:QE X i Z)(z:Zpf i):QE X (.Subscript o i pos) (Zoh d Z):=⟨Zlk F e.out hi.out z⟩
theorem JS{pos:Pos}:QE X (.Dict [] [] pos) tDNewK:=⟨λpins s σ H Q I h=>
 wpAny_Dict_empty ⟨.ref _,_,I.laid (λ_ _ q=>Qad _ q) (Qaj _) (ym s.heap I.big),U,h _ (I.hok.fresh (Qaj _))⟩⟩
theorem JT{i:Ax}{tv:TE}{pos:Pos}(hu:X.A.units+1<cLine)(ho:QE X o d)(hi:QE X i Z)(O:QE X e tv)(hs:swapsWith e (some (.Subscript o i p)) pos.line X.env=pure false):
  QS X (.Assign [.Subscript o i p] e pos) (sDPut d Z tv):=⟨by
 intro pins s σ H D I h;refine wpAny_Assign_Subscript (thn (O.out pins s σ H _ I h) λr s1 ⟨v,H1,z,J,G⟩=>thn (ho.out pins s1 σ H1 _ z G) λu s2 ⟨x,H2,F,Y,q2⟩=>thn (hi.out pins s2 σ H2 _ F q2) λiv s3 ⟨y,H3,I3,ry,a,H4,ex,g,Ua⟩=>?_) hs;subst ex;obtain rfl:u=Value.ref a:=Y;exact Zc6 hu I3 g ry J λs4 I4=>⟨σ,H4,I4,Ua⟩⟩
inductive Zjz(neg:Bool)(y:V)(x:V)(H:Hp)(Q:VK):Prop
 |mk (a o:_):(x=.ref a)->(Znu H a y o)->(Q (.bl (if neg then !o.isSome else o.isSome)) H)->Zjz neg y x H Q
def rDIn(neg:Bool):R2:=λy x H Q=>Zjz neg y x H Q
def qa(F:X.A.units+1<cLine):OpR X (compareOp .In) (rDIn false):=by
 intro pins s σ H x y v u Q I G z h;obtain⟨a,o,rfl,g,q⟩:=h;cases z;exact d_in F I g G λs' e=>⟨.bl _,H,e,U,q⟩
def Gu(F:X.A.units+1<cLine):OpR X (compareOp .NotIn) (rDIn true):=by
 intro pins s σ H x y v u Q I G z h;obtain⟨a,o,rfl,g,q⟩:=h;cases z;exact Zlj F I g G λs' e=>⟨.bl _,H,e,U,q⟩
def Zam:YS X (.type "dict") (λxs H Q=>∃a kvs,xs=[V.ref a]/\Rd H a (.dK kvs)/\∀p,H p=none->Q (.ref p) (upd H p (.dK kvs))):=by
 intro pins s σ H xs J Q I r h;obtain⟨a,kvs,rfl,e,q⟩:=h;obtain⟨u,rfl,G⟩:=vals1 r;cases G;exact Zg8 I e λp s' z F=>⟨.ref p,_,F,U,q p z⟩
def vP:YS X (.builtin "len") (λxs H Q=>∃a kvs,xs=[V.ref a]/\Rd H a (.dK kvs)/\Q (.int kvs.length) H):=by
 intro pins s σ H xs G Q I r h;obtain⟨a,kvs,rfl,e,q⟩:=h;obtain⟨u,rfl,F⟩:=vals1 r;cases F;exact d_len I e λt s' z=>⟨.int _,H,z,⟨t,U⟩,q⟩
theorem xr{κ:Type}[DecidableEq κ]:∀{kvs:List (κ×V)},(kvs.map (·.1)).Nodup->∀p∈kvs,Ym kvs p.1=some p.2
 |[],_,_,h=>nomatch h
 |q::r,e,p,h=>by
  rw[Qbv,Qbu]at e;rcases Qas.mp h with rfl|h
  .exact Yg U
  .rw[Ya λz=>e.1 (by grind)];exact xr e.2 p h
def Zha{x:V}(h:X8 x=true):eqV x x=true:=by
 cases x<;>first
  |exact Qcw _
  |rfl
  |cases h
theorem vQ{A:Ar}{s:As}{kvs:A0}{J:List (Key×Av)}(O:KV kvs J):∀{r:A0} {G:List (Key×Av)},KV r G->(∀p∈r,Ym kvs p.1=some p.2)->(∀p∈r,X8 p.2=true)->PySem.W.KeqHits A s J G true
 |_,_,.nil,_,_=>.nil
 |p::r,q::G,.cons h t,Ua,I=>by
  obtain⟨h1,h2⟩:=h;have e:=Ua p Qah;have f:=I p Qah;obtain⟨y,Y,Z⟩:=gL.some_of (by rw[<-e,h1];exact O.val q.1);have z:=PySem.W.KeqHits.hit Y (Zcj (A:=A) (s:=s) h2 Z f f) (vQ O t (λp F=>Ua p (Qai _ F)) λp F=>I p (Qai _ F));rw[Zha f]at z;exact z
inductive Zj0(x:V)(y:V)(H:Hp)(Q:VK):Prop
 |mk (a b kvs:_):(x=.ref a)->(y=.ref b)->(Rd H a (.dK kvs))->(Rd H b (.dK kvs))->((∀p∈kvs,X8 p.2=true))->(Q (.bl false) H)->Zj0 x y H Q
def rNeD  : R2:=λx y H Q=>Zj0 x y H Q
def op_neD(Ua:X.A.units<cLine):OpR X (compareOp .NotEq) rNeD:=by
 intro pins s σ H x y v u Q I rx J h;obtain⟨a,b,kvs,rfl,rfl,ha,O,hf,q⟩:=h;cases rx;cases J;obtain⟨za,na,va,e,G⟩:=xN I.hok ha;obtain⟨zb,Z,vb,F,Y⟩:=xN I.hok O;have nd:(kvs.map (·.1)).Nodup:=by
  rw[e.keys];obtain⟨_,_,_,_,_,_,_,_,z⟩:=G;exact z
 refine PySem.W.keq_ne na Z G Y Ua (λ_=>vQ F e (xr nd) hf) ?_;rw[show va.length=vb.length by rw[<-e.length,<-F.length],Qcw];exact⟨.bl false,H,I,U,q⟩
theorem Inv.freeze{pins:Ac}{σ:St}{kvs:A0}{o:Obj}(I:Inv X pins σ H s)(e:Rd H a (.dK kvs))(G:s.heap.get? a=some o):Inv X pins σ (upd H a (.frz o (.dK kvs))) s:=by
 rcases e with e|⟨o',e⟩
 .have ne:∀b u,H b=some u->u≠.dK kvs->b≠a:=λb u F Y z=>by
   grind
  refine I.step (ch:=[]) (λ_ z=>nomatch z) (λb o _ _ _ q _=>q) (λb o _ _ _ q _=>⟨o.slots,q⟩) (λb o _ _ n=>?_) (λb o _ q=>⟨o,q⟩)
   (λb xs q=>by rw[Zj (ne b _ q (λz=>nomatch z))];exact q) (λb o u q=>by rw[Zj (ne b _ q (λz=>nomatch z))];exact q) (λb ps q=>⟨#[],by rw[Zj (ne b _ q (λz=>nomatch z)),q];simp⟩) (λm O=>O) (λb u q=>?_) I.bare
  .rw[Zj (λz=>by grind)];exact n
  .have st:∀u,YR X.prog X.w H s.heap b u->YR X.prog X.w (upd H a (.frz o (.dK kvs))) s.heap b u:=λu x=>
    x.stay (λ_ _ _ q=>q) (λc q=>by rw[Zj (ne c _ q (λz=>nomatch z))];exact q) λc xs q=>by rw[Zj (ne c _ q (λz=>nomatch z))];exact q
   by_cases F:b=a
   .subst F;rw[Za]at q;cases q;exact⟨G,st _ (I.hok b _ e)⟩
   .rw[Zj F]at q;exact st u (I.hok b u q)
 .have z:=I.hok a _ e;obtain⟨J,_⟩:=z;have:=Option.some.inj (G.symm.trans J);subst this;have Ua:upd H a (.frz o (.dK kvs))=H:=by
   funext b;unfold upd;split
   .rename_i F;rw[F,e]
   .rfl
  rw[Ua];exact I
def Itd(a:Aw)(o:Obj)(kvs:A0):It:=⟨λi H=>i<kvs.length/\H a=some (.frz o (.dK kvs)),λi H v H'=>H'=H/\∃p,kvs[i]?=some p/\v=kV p.1,λi H=>i=kvs.length/\H a=some (.frz o (.dK kvs))⟩
def gY{k:Key}(h:(ZT P w).is k v=true):RelV (kV k) v:=by
 rw[Zab]at h;cases k with
 |inl i=>
  cases v<;>first
   |(have e:=h;unfold x6 Value.isInt at e;simp at e;exact⟨_,by rw[e]⟩)
   |(unfold x6 Value.isInt at h;simp at h)
 |inr x=>
  cases v<;>first
   |(have e:=h;unfold x6 Value.isStrOf at e;simp at e;exact⟨_,by rw[e]⟩)
   |(unfold x6 Value.isStrOf at h;simp at h)
def Zdd(a it:Aw)(o:Obj)(kvs:A0)(ep:Nat)(hep:∃es,o.data=.dict es ep)(hne:a≠it):Turn P w K e (Itd a o kvs) [it] it (λi h=>h.IsKeyIter it a i kvs.length ep)where
 mem:=by simp
 obj:=λi h st b Y=>by
  have F:b=it:=by simpa using Y
  subst F;obtain⟨o,F,c,d⟩:=st;exact⟨o,F,λv z=>by rw[d]at z;cases z⟩
 keep:=λi h h' st k=>st.at λo F=>k it (by simp) o F
 item:=by
  intro X hP hw hK hc i pins s σ H E I hf st hg;subst hP hw hK;obtain⟨hi,hH⟩:=hg;obtain⟨f0,f1,f2,f3,f4,f5⟩:=hf it (by simp);obtain⟨ho,z,nm,vs,O,dd⟩:=(I.hok a _ hH);obtain⟨o',es,ep',ho',Ua,G,hk,hp,hn⟩:=id dd;have eo:o'=o:=Option.some.inj (ho'.symm.trans ho);subst eo;obtain⟨es2,J⟩:=hep;rw[G]at J;cases J;have Z:s.heap.DictAt (ZT X.prog X.w) a vs ep:=⟨o',es,ho,Ua,G,hk,hp,hn⟩;have hl:=O.length;rw[hl]at st;refine(Walks.dictKeys (knd:=ZT X.prog X.w) (prog:=X.prog) (w:=X.w) (I.ok.hd hc) it a hne vs ep).item i s _ _ (by lia) ⟨st,Z⟩ λv h' tk hv st' kk=>?_;obtain⟨k,x,hkx,hkey⟩:=hv;have I1:Inv X pins σ H {s with heap:=h',toks:=tk}:=I.turned (λb o Y F=>kk b o (by simpa using Y) F) f0 f1 f3 f4 f5;obtain⟨st1,_⟩:=st';obtain⟨oi,F,cc,d⟩:=id st1;have hik:(kvs.map (·.1))[i]?=some k:=by
   rw[O.keys,Qag,hkx];rfl
  rw[Qag]at hik;obtain⟨p,hp1,hp2⟩:=Qa5.mp hik;rw[<-hl]at st1;exact⟨_,U,vm (s:={s with heap:=h',toks:=tk}) F cc d (by decide) ⟨kV k,H,I1,gY hkey,⟨U,p,hp1,by rw[hp2]⟩,st1,λb Y=>(hf b Y).1⟩⟩
 done:=by
  intro X hP hw hK hc i pins s σ H E I hf st hg;subst hP hw hK;obtain⟨hi,hH⟩:=hg;obtain⟨f0,f1,f2,f3,f4,f5⟩:=hf it (by simp);obtain⟨ho,z,nm,vs,O,dd⟩:=(I.hok a _ hH);obtain⟨o',es,ep',ho',Ua,G,hk,hp,hn⟩:=id dd;have eo:o'=o:=Option.some.inj (ho'.symm.trans ho);subst eo;obtain⟨es2,J⟩:=hep;rw[G]at J;cases J;have Z:s.heap.DictAt (ZT X.prog X.w) a vs ep:=⟨o',es,ho,Ua,G,hk,hp,hn⟩;have hl:=O.length;rw[hi,hl]at st;exact(Walks.dictKeys (knd:=ZT X.prog X.w) (prog:=X.prog) (w:=X.w) (I.ok.hd hc) it a hne vs ep).done s _ _ ⟨st,Z⟩ λh' tk kk=>⟨U,I.turned (t':=tk) (λb o Y F=>kk b o (by simpa using Y) F) f0 f1 f3 f4 f5⟩
 self:=λA i s Q E st h=>wpAny_pyIter_keyiter st h
theorem gZ{o:Obj}{kvs:A0}{g:TG}{D:Ends}(z:Nat->St->Hp->Prop)(O:z 0 c H)(G:∀i c H,i<=kvs.length->z i c H->H a=some (.frz o (.dK kvs)))
  (Y:∀i p c H,kvs[i]?=some p->z i c H->g (kV p.1) c H λF H2=>A {D with nx:=z (i+1),ct:=z (i+1),bk:=D.nx} F H2) (I:∀c H,z kvs.length c H->D.nx c H):
  Zgv (Itd a o kvs) g A D c H:=
 x8 _ z O (λi c H hi p=>⟨⟨hi,G i c H (Qaw hi) p⟩,λv H' ⟨e,q,J,Ua⟩=>by grind⟩) λc H p=>⟨⟨U,G _ c H (Qaj _) p⟩,I c H p⟩
inductive KTab(P:Params):List DictEntry->List (Str×Int)->Prop
 |nil:KTab P [] []
 |cons {k:Str} {v:Int} {t u:Tok} {es:List DictEntry} {l:List (Str×Int)}:KTab P es l->KTab P ({hash:=PyData.keyHash P k,key:=.str k t,val:=.int v u}::es) ((k,v)::l)
structure KD(K:Af)(w:Au)(a:Aw)(l:List (Str×Int)):Prop where
 ex:∃es ep,K.lookup a=some {cls:=.type "dict",dict:=none,data:=.dict es ep,slots:=#[]}/\KTab w.params es.toList l
 nd:(l.map (·.1)).Nodup
 ns:(a == sysModules)=false
def kvsOf(l:List (Str×Int)):A0:=l.map λp=>((Sum.inr p.1:Key),V.int p.2)
theorem KTab.pairs{es:List DictEntry}{l:List (Str×Int)}(h:KTab w.params es l):(∃vs,KV (kvsOf l) vs/\Pairs (ZT P w) es vs)/\∀e∈es,∃k,(ZT P w).is k e.key=true/\e.hash=(ZT P w).hash k:=by
 induction h with
 |nil=>exact⟨⟨[],.nil,.nil⟩,λ_ h=>nomatch h⟩
 | @cons k v t u es l _ F=>
  obtain⟨⟨vs,r,p⟩,q⟩:=F;refine⟨⟨(.inr k,.int v u)::vs,.cons ⟨U,⟨u,U⟩⟩ r,.cons (JO P w k t) U p⟩,λe z=>?_⟩;rcases Qas.mp z with rfl|z
  .exact⟨.inr k,JO P w k t,U⟩
  .exact q e z
section
variable {X:Cx}{pins:Ac}{σ:St}{H:Hp}{s:As}{a:Aw}{l:List (Str×Int)}{k:Key}{u:Av}{A:Ar}{E:Ab}
def KD.of(I:Inv X pins σ H s)(d:KD X.K X.w a l):∃vs,KV (kvsOf l) vs/\s.heap.DictOf (ZT X.prog X.w) a vs:=by
 obtain⟨es,ep,F,t⟩:=d.ex;obtain⟨⟨vs,r,p⟩,q⟩:=t.pairs;refine⟨vs,r,_,es,ep,I.kIn a _ F,⟨U,U,U⟩,U,λe G=>q e (by grind),p,?_⟩;rw[<-r.keys];unfold kvsOf;rw[Qay];have:=d.nd;rw[List.nodup_iff_pairwise_ne]at *;rw[List.pairwise_map]at *;exact this.imp λh z=>h (Sum.inr.inj z)
def kd_in(I:Inv X pins σ H s)(d:KD X.K X.w a l)(z:RelV (kV k) u)(h:∀s',Inv X pins σ H s'->Q (.bool (Ym (kvsOf l) k).isSome) s'):A3 X.prog X.w A (compareOp .In u (.ref a)) Q E s:=by
 obtain⟨vs,e,dd⟩:=d.of I;refine wpAny_in_of (vL z) d.ns dd.mapOf ?_;rw[<-(e.val k).isSome_eq];exact h _ (I.tok _)
def Zln{r:Av}(I:Inv X pins σ H s)(d:KD X.K X.w a l)(G:RelV (kV k) u)(J:RelV y r)(h:∀z s',Inv X pins σ H s'->RelV ((Ym (kvsOf l) k).getD y) z->Q z s'):
  A3 X.prog X.w A (call (.builtin "dict.get") [.ref a,u,r]) Q E s:=by
 obtain⟨vs,e,dd⟩:=d.of I;exact call_meetsIn PySem.F.slot_dict_get dd.typeIs PySem.F.entry_dict_get (PySem.F.args_dict_get_3 _ _ _) (meets_dict_get_default _ a (vL G) d.ns r) ⟨_,dd.mapOf,h _ _ (I.tok _) ((e.val k).getD J)⟩
end
def rKIn(K:Af)(w:Au):R2:=λy x H Q=>∃a l k,x=.ref a/\KD K w a l/\y=kV k/\Q (.bl (Ym (kvsOf l) k).isSome) H
def wL:OpR X (compareOp .In) (rKIn X.K X.w):=by
 intro pins s σ H x y v u Q I F z h;obtain⟨a,l,k,rfl,d,rfl,q⟩:=h;cases z;exact kd_in I d F λs' e=>⟨.bl _,H,e,U,q⟩
def tKGet(K:Af)(w:Au)(td ty tx:TE):TE:=λσ H Q=>td σ H λx H1=>∃a l,x=.ref a/\KD K w a l/\ty σ H1 λy H2=>tx σ H2 λz e=>∃k,y=kV k/\Q ((Ym (kvsOf l) k).getD z) e
def m2_of{f:Ax}{m:Str}(I:ZY e=true)(G:ZY f=true)(z:attributeBase o m X.env (eval o X.env)=eval o X.env)(F:(p.endLine == B.line)=true):M2 X o m p e f B where
 base:=z
 few:=by
  rw[all_plain (by grind)];rfl
 line:=F
 trees:=by
  rw[Zv I,Zv G];rfl
def wM {f:Ax}  {ty tx:TE} (ho:QE X o Z) (he:QE X e ty) (Y:QE X f tx) (h1:ZY e=true:=by rfl) (h2:ZY f=true:=by rfl) (hb:attributeBase o "get" X.env (eval o X.env)=eval o X.env:=by rfl) (hl:(p.endLine == B.line)=true:=by rfl):
  QE X (.Call (.Attribute o "get" p) [e,f] [] B) (tKGet X.K X.w Z ty tx):=by
 have m:=m2_of h1 h2 hb hl;refine⟨λpins s σ H Q I h=>(wpAny_Call_method m.base m.few m.line PySem.F.plainAttrs_dict PySem.F.slot_dict_get PySem.F.type_dict_get (thn (ho.out pins s σ H _ I h) λu s1 ⟨x,H1,J,rx,a,l,ex,d,q1⟩=>?_))⟩;subst ex;obtain rfl:u=Value.ref a:=rx;obtain⟨vs,rel,dd⟩:=d.of J;refine⟨dd.typeIs,λb q=>?_,?_⟩
 .cases q;obtain⟨ob,_,_,O,g2,_⟩:=dd;exact⟨ob,O,g2.2.1⟩
 rw[m.trees];refine Qdw U (Qd4 (Qc3 (thn (he.out pins s1 σ H1 _ J q1) λiv s2 ⟨y,H2,I2,ry,q2⟩=>Qc3 (thn (Y.out pins s2 σ H2 _ I2 q2) λfv s3 ⟨z,H3,I3,Ua,k,ey,q3⟩=>Qd8 ?_))));subst ey;exact Zln I3 d ry Ua λw' s4 I4 G=>⟨_,H3,I4,G,q3⟩
def Zhb{is:Aj}{σ:St}{Q:VK}(f:Nat->V)(Y:x.cps.size<=sizeLine)
  (O:∀c∈x.cps.toList,∀R:VK,R (f c) H->d (xK is σ (some (.str ⟨#[c]⟩))) H R)
  (J:∀l,H l=none->Q (.ref l) (upd H l (.lst (x.cps.toList.map f)))):Gp is Zg2 d σ Q (Its x) H:=by
 refine⟨λi m zs H'=>m=x.cps.size-i/\i<=x.cps.size/\zs=(x.cps.toList.take i).map f/\H'=H,⟨x.cps.size,by simp,Qbl _,U,U⟩,?_⟩;rintro i m zs H' ⟨rfl,hi,rfl,rfl⟩;have I:((x.cps.toList.take i).map f).length<=sizeLine:=by
  grind
 by_cases F:i<x.cps.size
 .refine .inr ⟨F,I,λv H2 y=>?_⟩;obtain⟨e,c,Ua,rfl⟩:=y;subst e;have z:x.cps.toList[i]?=some c:=by grind
  refine O c (Qam z) _ ⟨_,by lia,U,F,?_,U⟩;rw[take_snoc z,Qa6];rfl
 .have e:i=x.cps.size:=by lia
  refine .inl ⟨e,I,λl G=>?_⟩;rw[Qdk (by grind)];exact J l G
def Zhc:A2->List V->Bool
 |[],[]=>true
 |x::xs,y::ys=>eqV x y&&Zhc xs ys
 |_,_=>false
def eqJ(xs ys:A2)(j:Nat):Bool:=match xs[j]?,ys[j]? with
 |some a,some b=>eqV a b
 |_,_=>true
theorem jC:∀xs ys:A2,((List.range (min xs.length ys.length)).all (eqJ xs ys)&&xs.length == ys.length)=Zhc xs ys
 |[],[]=>rfl
 |[],y::ys=>by simp[Zhc]
 |x::xs,[]=>by simp[Zhc]
 |x::xs,y::ys=>by
  have e1:min (x::xs).length (y::ys).length=min xs.length ys.length+1:=by simp
  have e2:((x::xs).length == (y::ys).length)=(xs.length == ys.length):=by simp
  rw[e1,e2,List.range_succ_eq_map,Qc4,List.all_map,Bool.and_assoc];show(eqV x y&&((List.range _).all (eqJ xs ys)&&xs.length == ys.length))=(eqV x y&&Zhc xs ys);rw[jC xs ys]
def Zde{A:Ar}{xs ys:A2}{e:Ag}(r:Vals xs G)(O:Vals ys e)(f:xs.all X8=true)(f2:ys.all X8=true):∀j (h1:j<G.toArray.size) (h2:j<e.toArray.size),SeqAt.EqAt A s G.toArray[j] e.toArray[j] (eqJ xs ys j):=by
 intro j h1 h2;have l1:=r.length;have l2:=O.length;have F:j<xs.length:=by grind
 have z:j<ys.length:=by grind
 obtain⟨u,e1,Y⟩:=r.get (Qac F);obtain⟨Ua,e2,Z⟩:=O.get (Qac z);have J:G.toArray[j]=u:=by
  grind
 have I:e.toArray[j]=Ua:=by
  grind
 have e3:eqJ xs ys j=eqV xs[j] ys[j]:=by
  unfold eqJ;rw[Qac F,Qac z]
 rw[J,I,e3];exact Zcj Y Z (Qcp.mp f _ (Qbh F)) (Qcp.mp f2 _ (Qbh z))
inductive Zj1(K:Af)(neg:Bool)(x:V)(y:V)(H:Hp)(Q:VK):Prop
 |mk (a c xs ys:_):(x=.ref a)->(y=.ref c)->(SqL K H a xs)->(SqL K H c ys)->(xs.all X8=true)->(ys.all X8=true)->(Q (.bl (if neg then !Zhc xs ys else Zhc xs ys)) H)->Zj1 K neg x y H Q
def rEqL(K:Af)(neg:Bool):R2:=λx y H Q=>Zj1 K neg x y H Q
def Zdf(Ua:X.A.units<cLine):OpR X (compareOp .NotEq) (rEqL X.K true):=by
 intro pins s σ H x y v u Q I rx Y h;obtain⟨a,c,xs,ys,rfl,rfl,ha,Z,f,f2,q⟩:=h;cases rx;cases Y;obtain⟨G,r,p,_⟩:=I.list ha;obtain⟨z,J,p2,_⟩:=I.list Z;have e:=jC xs ys
 by_cases F:xs.length=ys.length
 .have O:G.toArray.size=z.toArray.size:=by rw[Qcc,Qcc,<-r.length,<-J.length];exact F
  refine SeqAt.RcNeAt.lists p.isList p2.isList O Ua (Zde r J f f2) X.prog X.w _ _ (ZO I q ?_);show(!Zhc xs ys)=_;rw[F,Qfv,Qcw,Bool.and_true]at e;rw[Qcc,<-r.length,F,e]
 .have O:(G.toArray.size != z.toArray.size)=true:=by
   rw[Qcc,Qcc,<-r.length,<-J.length];simpa using F
  refine SeqAt.RcNeAt.lists_lengths p.isList p2.isList O Ua X.prog X.w _ _ (ZO I q ?_);rw[<-e,Qe4.mpr F,Qgq];rfl
def Wv(t:SetTable)(n:Nat):(t.standIn n).led=t.led/\(t.plain=false->(t.standIn n).plain=false):=⟨U,λ_=>U⟩
def yp(t:SetTable)(n:Nat):(t.orStandIn n).led=t.led/\(t.plain=false->(t.orStandIn n).plain=false):=by
 unfold SetTable.orStandIn;split
 .exact⟨U,id⟩
 .exact Wv _ _
def Zan(t:SetTable)(es:Array (Int×Av))(h:Int)(x:Av):(layNew t es h x).2.1.led=t.led/\(t.plain=false->(layNew t es h x).2.1.plain=false):=by
 unfold layNew;split
 .exact yp _ _
 .exact Wv _ _
theorem vR(t:SetTable)(es:Array (Int×Av))(n:Nat):(relayAll t es n).2.1.led=t.led/\(t.plain=false->(relayAll t es n).2.1.plain=false):=by
 unfold relayAll;split
 .rename_i t' z e;have F:t'.led=t.led/\(t.plain=false->t'.plain=false):=by
   unfold SetTable.relaid SetTable.laid at e;cases hc:SetTable.layClean _ _ with
   |none=>rw[hc]at e;exact nomatch e
   |some G=>
    rw[hc]at e;obtain⟨rfl,_⟩:=e;exact⟨U,id⟩
  dsimp only;split
  .exact F
  .exact Wv _ _
 .exact Wv _ _
def tx:Av->Str
 |.str x _=>x
 |_=>⟨#[]⟩
def xO(prog:Aq)(w:Au)(h:Heap)(a:Aw)(led:Bool)(S:Ai):Prop:=
 ∃o es ep t,h.get? a=some o/\o.ExactSet/\o.data=.set es ep t/\ElemsOf (strKind prog w) es.toList/\(es.toList.map λe=>tx e.2).Perm S/\t.fits es.size=true/\t.led=led/\(es.size=0\/t.plain=false)
section
variable {prog:Aq}{w:Au}{A:Ar}{E:Ab}{s:As}
def Zoi{k:Str}(h:(strKind prog w).is k v=true):tx v=k:=by
 obtain⟨t,rfl⟩:=Qgi h;rfl
def ua{l:List (Int×Av)}(h:ElemsOf (strKind prog w) l){e:Int×Av}(F:e∈l):(strKind prog w).is (tx e.2) e.2=true/\∃t,e.2=.str (tx e.2) t:=by
 obtain⟨⟨k,z,_⟩,_⟩:=h e F;rw[Zoi z];exact⟨z,Qgi z⟩
def ins(S:Ai)(x:Str):Ai:=if x∈S then S else S++[x]
def Zlo{l:List (Int×Av)}(h:ElemsOf (strKind prog w) l):
  (l.findIdx? (λe=>(strKind prog w).is x e.2)).isSome=true↔x∈l.map (λe=>tx e.2):=by
 rw[List.findIdx?_isSome,Qdi,Qau];constructor
 .rintro⟨e,z,F⟩;exact⟨e,z,Zoi F⟩
 .rintro⟨e,z,F⟩;exact⟨e,z,F ▸ (ua h z).1⟩
def xP{o:Obj}{es:Array (Int×Av)}{ep:Nat}{t:SetTable}(Ua:h.get? a=some o)(F:o.ExactSet)(J:o.data=.set es ep t)
  {z:Array (Int×Av)} {t':SetTable} {S:Ai} {led:Bool} (G:ElemsOf (strKind prog w) z.toList) (Y:(z.toList.map λe=>tx e.2).Perm S) (hf:t'.fits z.size=true) (Z:t'.led=led) (I:z.size=0\/t'.plain=false):
  (h.update a (Obj.putSet z t')).get? a=some {o with data:=.set z (ep+1) t'}/\xO prog w (h.update a (Obj.putSet z t')) a led S:=by
 have O:=by
  have:=Qbm (Obj.putSet z t') Ua (by rw[putSet_of z t' J];rfl);rw[putSet_of z t' J]at this;exact this
 exact⟨O,_,z,ep+1,t',O,F,U,G,Y,hf,Z,I⟩
theorem Zdg{led:Bool}{S:Ai}{tk:Tok}{Q:Bool->Shared->Prop}(hS:xO prog w s.heap a led S)(hroom:S.length+1<scanBound)
  (h:∀h' b,Heap.SameBut a s.heap h'->xO prog w h' a led (ins S x)->Q b {s with heap:=h'}):
  A3 prog w A (setAddHashed a (.str x tk) ((strKind prog w).hash x)) Q E s:=by
 obtain⟨o,es,ep,t,ho,hex,hd,O,hp,hf,hl,hpl⟩:=hS;have hn:es.size=S.length:=by rw[<-hp.length_eq,Qab,Qb1]
 have Z:(strKind prog w).is x (.str x tk)=true:=by show Value.isStrOf x (.str x tk)=true;simp[Value.isStrOf]
 refine Qb4 (Qaa (Qeb ho hd hf ?_));dsimp only;rw[byScan_of (knd:=strKind prog w) U (by lia) O];refine Qaa ?_;refine Qaa (Qdt ?_);refine Qaa (wpAny_setScan_of Z ho hd hf O ?_);have Y:=Zlo O (x:=x);cases hr:List.findIdx? (λe=>(strKind prog w).is x e.2) es.toList with
 |some j=>
  rw[hr]at Y;have hx:x∈S:=hp.mem_iff.mp (Y.mp U);refine Qaf (Qaf ?_);have:=h s.heap false (Heap.SameBut.refl a s.heap) (by rw[ins,Qa2 hx];exact⟨o,es,ep,t,ho,hex,hd,O,hp,hf,hl,hpl⟩);exact this
 |none=>
  rw[hr]at Y;have hx:x∉S:=λhm=>by simpa using Y.mpr (hp.mem_iff.mpr hm)
  have Ua:=Zan t es ((strKind prog w).hash x) (.str x tk);have G:=layNew_perm t es ((strKind prog w).hash x) (.str x tk);have J:=layNew_fits t es ((strKind prog w).hash x) (.str x tk);generalize hL:layNew t es ((strKind prog w).hash x) (.str x tk)=L at Ua G J ⊢;obtain⟨z,t1,wd,gave⟩:=L;rw[Qgu]at G;have hel1:ElemsOf (strKind prog w) z.toList:=(O.push Z U).perm G;have hp1:(z.toList.map λe=>tx e.2).Perm (ins S x):=by
   rw[ins,Qax hx];refine(G.map _).trans ?_;rw[Qa6];exact hp.append_right _
  have hz1:z.size=S.length+1:=by
   have:=hp1.length_eq;rw[ins,Qax hx,Qab,Qb1,Qar]at this;exact this
  have hg:∀(b:Bool) {F:As} {Q':Unit->Shared->Prop},Q' () F->A3 prog w A (match b with|true=>rule "set.scan.the-table-gave-way" |false=>pure ()) Q' E F:=
   λb F Q' I=>by cases b<;>first|exact Qaf I|exact Qdt I
  refine Qaa (hg _ ?_);have key:∀(g:Bool->Sem Unit),(∀(b:Bool)(F:As)(Q':Unit->Shared->Prop),Q' () F->A3 prog w A (g b) Q' E F)->∀t2:SetTable,t2.fits z.size=true->t2.led=led->t2.plain=false->
    A3 prog w A (do
     storeSet a z t2
     if(!wd&&t2.tooFull)=true then do
       g (relayAll t2 z (SetTable.grown z.size)).2.2
       storeSet a (relayAll t2 z (SetTable.grown z.size)).1 (relayAll t2 z (SetTable.grown z.size)).2.1
       pure (some true)
      else pure (some true)) (λr s'=>r=some true/\∀b,Q b s') E s:=by
   intro g hg t2 hf2 hl2 hp2;refine Qaa (wpAny_storeSet_of ho hd ?_ (Qgv (by lia)));obtain⟨ho1,hS1⟩:=xP (prog:=prog) (w:=w) ho hex hd hel1 hp1 hf2 hl2 (.inr hp2);have hsb1:=Qb0 s.heap a (Obj.putSet z t2);split
   .have I:=relayAll_perm t2 z (SetTable.grown z.size);have hfr:=relayAll_fits t2 z (SetTable.grown z.size);have hlr:=vR t2 z (SetTable.grown z.size);generalize relayAll t2 z (SetTable.grown z.size)=Rl at I hfr hlr ⊢;obtain⟨es2,t3,g2⟩:=Rl;have hz2:es2.size=z.size:=by rw[<-Qb1,I.length_eq,Qb1]
    refine Qaa (hg _ _ _ ?_);refine Qaa (wpAny_storeSet_of ho1 U ?_ (Qgv (by lia)));obtain⟨_,hS2⟩:=xP (prog:=prog) (w:=w) ho1 hex U (hel1.perm I) ((I.map _).trans hp1) hfr (hlr.1.trans hl2) (.inr (hlr.2 hp2));exact Qaf ⟨U,λb=>h _ b (hsb1.trans (Qb0 _ a _)) hS2⟩
   .exact Qaf ⟨U,λb=>h _ b hsb1 hS1⟩
  split
  .rename_i hpt;refine Qaa ?_;rw[hashByValue_scannable 8 rfl];refine Qaf ?_;rw[show plainKind (Value.str x tk)=false from U];refine Qcq (key _ ?_ {t1 with plain:=false} (SetTable.fits_plain_off J) (Ua.1.trans hl) U) ?_ (λ_ _ e=>e)
   .intro b F Q' I;cases b<;>first|exact Qaf I|exact Qdt I
   .rintro r s' ⟨rfl,I⟩;exact Qaf (I _)
  .rename_i hpt;refine Qaa (Qaf ?_);refine Qcq (key _ ?_ t1 J (Ua.1.trans hl) (by simpa using hpt)) ?_ (λ_ _ e=>e)
   .intro b F Q' I;cases b<;>first|exact Qaf I|exact Qdt I
   .rintro r s' ⟨rfl,I⟩;exact Qaf (I _)
end
def Ww(ys:Ai):Ai:=ys.foldl ins []
def jD(ys:Ai)(y:Str):Ww (ys++[y])=ins (Ww ys) y:=by simp[Ww]
def Zlp(S:Ai)(x:Str):(ins S x).length<=S.length+1:=by unfold ins;split<;>simp
theorem XT(ys:Ai):∀i,(Ww (ys.take i)).length<=i
 |0=>by simp[Ww]
 |i+1=>by
  by_cases h:i<ys.length
  .rw[Qgw,Qac h,Option.toList_some,jD];have:=XT ys i;have:=Zlp (Ww (ys.take i)) ys[i];lia
  .rw[Qdk (by lia)];have:=XT ys i;rw[Qdk (by lia)]at this;lia
def qb{prog:Aq}{h':Heap}{led:Bool}{S:Ai}(e:xO prog w h a led S)(F:∀o,h.get? a=some o->h'.get? a=some o):xO prog w h' a led S:=by
 obtain⟨o,es,ep,t,z,rest⟩:=e;exact⟨o,es,ep,t,F o z,rest⟩
section
variable {prog:Aq}{w:Au}{A:Ar}{R:Result->Shared->Prop}{I:Aw}{fp wr:List Aw}{G:Array GenState->Array GenState->Prop}{n:Nat}{P:Nat->Value->Prop}{St:Nat->Shared->Prop}
theorem Zao(W:WalksS prog w A.in1 I fp wr G n P St)(S:Aw)(hSf:S∉fp){led:Bool}{ys:Ai}(hn:ys.length=n)
  (hval:∀i v,P i v->∃y t,ys[i]?=some y/\v=.str y t) (Ua:n+1<scanBound):
  ∀(k i:Nat)(s:As),n-i=k->i<=n->St i s->xO prog w s.heap S led (Ww (ys.take i))->
   (∀s',Moved (S::wr) G s s'->xO prog w s'.heap S led (Ww ys)->R (.ok (.ret .none)) s')->
   codeAny (model prog w) A (.builtin "set.update.loop" ⟨[.ref S,.ref I],[]⟩) R s:=by
 have hSw:S∉wr:=λh=>hSf (W.sub _ h);have z:∀b∈wr,b∈S::wr:=λb Ua=>Qai _ Ua;intro k
 induction k with
 |zero=>
  intro i s hk hi J hS hR;have hin:i=n:=by lia
  rw[hin,<-hn,Qbs]at hS;subst hin;refine Qct F.entry_set_update_loop ?_;refine Qaa (W.done s _ _ J λs' hm=>?_);exact Qaf (hR s' (hm.mono z) (qb hS λo ho=>hm.heap S _ hSw ho))
 |succ k ih=>
  intro i s hk hi J hS hR;have hlt:i<n:=by lia
  refine Qct F.entry_set_update_loop ?_;refine Qaa (W.item i s _ _ hlt J λv s' hP Y hm=>?_);obtain⟨y,t,hy,rfl⟩:=hval i v hP;have hS':=qb hS λo ho=>hm.heap S _ hSw ho;refine Qaa (Qb4 ?_);refine Qb4 ?_;refine Qaa ((PySem.strKind prog w).pyHash (k:=y) (by show Value.isStrOf y (.str y t)=true;simp[Value.isStrOf]) ?_);have O:(Ww (ys.take i)).length+1<scanBound:=by have:=XT ys i;lia
  refine Zdg (s:={s' with toks:=s'.toks+1}) hS' O λh' b hsb hS2=>?_;rw[<-jD,show ys.take i++[y]=ys.take (i+1) by rw[Qgw,hy,Option.toList_some]]at hS2;refine Qaf ⟨Qd2 F.plain_set_update_loop _,ih (i+1) _ (by lia) hlt (W.frame _ s' _ _ Y (Qep _) λb Ua o e=>?_) hS2 λs'' Z hS''=>?_⟩
  .rw[hsb.2 b (λh:b=S=>hSf (by rw[<-h];exact Ua))];exact e
  .refine hR s'' (Moved.trans W.gtrans ((hm.mono z).then_heap (Qep _) λb o Ua e=>?_) Z) hS'';rw[hsb.2 b (λh:b=S=>Ua (by rw[h];exact Qah))];exact e
end
section
variable {prog:Aq}{w:Au}{A:Ar}{E:Ab}{s:As}
def wB (w:Au):Bool:=w.params.followText "set-order"
def Yx (w:Au):Obj:={cls:=.type "set",dict:=none,data:=.set #[] 0 (.fresh 0 0 (!wB w))}
def wN(a:Av){Q₁:Ab}(h:Q₁ (.ref s.heap.objs.size) {s with heap:=s.heap.push (Yx w)}):
  codeAny (model prog w) A (.call (.builtin "set.__new__") ⟨[.type "set",a],[]⟩) (wants Q₁ E) s:=by
 refine codeAny_of_tree ?_;show wpAny _ A.in1 _ _ _ s;refine Qaa (Qco (F.newCall_set_1 a) (Qaf ⟨Qd2 F.plain_set_new _,Qct F.entry_set_new ?_⟩));rw[Qf5 F.plain_set_new _];unfold Builtin.«set.__new__» Builtin.Frozenset.newClass;have e:=sub_set_self;obtain⟨z,g,d,tk,os⟩:=s;dsimp only
 wp_walk
 refine Qg7 (Qaf ?_);dsimp only;simp only[newObj];refine Qaa (wpAny_alloc (Qaf ?_));exact Qaf h
theorem jf{l:Aw}{items:Ah}{ys:Ai}
  (hh:A.handled=none) (hl:s.heap.IsList l items) (hi:StrsAre items.toList ys) (hb:items.size+1<scanBound)
  (h:∀(h':Heap)(tk:Nat),s.toks<=tk->xO prog w h' s.heap.objs.size (!wB w) (Ww ys)->
   (∀b o,b<s.heap.objs.size->s.heap.get? b=some o->h'.get? b=some o)->Q (.ref s.heap.objs.size) {s with heap:=h',toks:=tk}):
  wpAny (model prog w) A (call (.type "set") [.ref l]) Q E s:=by
 obtain⟨c,tl,hmro⟩:=Qet.mro;have hmade:=Qet.made;have hsub:=Qet.sub;refine Qgh (codeAny_of_tree ?_);show wpAny _ _ (callAny (.type "set") _) _ _ _;refine Qaf ⟨Code.quiet_builtin _ (by decide +kernel),Qct F.entry_type_call ?_⟩;rw[Around.under_plain (weight_type_call_type "set" [.ref l] []) U];have h1:=Qet.notType;have h2:=Qet.canCreate;have hct:=F.typeCall_set_1 (.ref l)
 repeat (any_goals (first|assumption|wp_step))
 refine Qeg (wN (.ref l) (E:=E) (Q₁:=λZ I=>Z=.ref s.heap.objs.size/\I={s with heap:=s.heap.push (Yx w)}) ⟨U,U⟩) λr I hr=>?_;cases r with
 |error e=>exact hr
 |ok fl=>
  cases fl with
  |ret Z=>
   obtain⟨rfl,rfl⟩:=hr;have hS:(s.heap.push (Yx w)).get? s.heap.objs.size=some (Yx w):=Qak _ rfl;have hT:Shared.TypeIs {s with heap:=s.heap.push (Yx w)} (.ref s.heap.objs.size) "set" :=⟨_,hS,U⟩;have hli:=Qet.init.lookup;have hbi:=Qet.init.bind (.ref s.heap.objs.size)
   repeat (any_goals (first|assumption|wp_step))
   refine Qeg (Qf6 (R:=wants (λr s₂=>r=.none/\∃h' tk,s.toks<=tk/\s₂={s with heap:=h',toks:=tk} /\
     xO prog w h' s.heap.objs.size (!wB w) (Ww ys) /\
     (∀b o,b<s.heap.objs.size->s.heap.get? b=some o->h'.get? b=some o)) E) Qet.init.plain F.entry_set_init (check_set_init_1 hT ?_)) λr₂ s₂ z=>?_
   .obtain⟨ol,hol,hcl,nl,hdl⟩:=hl;obtain⟨ocls,J,odata,G⟩:=ol;simp only at hcl hdl;subst hcl;subst hdl;have hol':(s.heap.push (Yx w)).get? l=some {cls:=.type "list",dict:=J,data:=.seq items nl,slots:=G}:=Qad _ hol;have hsls:=F.sub_list_set;have hslf:=F.sub_list_frozenset;have hne:(Value.type "list" == Value.type "dict")=false:=by decide
    have hl1:(s.heap.push (Yx w)).IsList l items:=⟨_,hol',U,nl,U⟩;unfold Builtin.«set.__init__» noKeywords Builtin.Frozenset.updateFrom;generalize hPI:pyIter=PI
    wp_walk
    subst hPI;refine Qey hl1 ?_;refine Qaa (wpAny_runValue ?_);have hlS:l<s.heap.objs.size:=Qao hol;have hh3:A.in1.in1.in1.handled=none:=by simp[hh]
    have hneI:l≠(s.heap.push (Yx w)).objs.size:=by
     rw[Qca];exact Qa8 (Qd9 hlS)
    have hSf:s.heap.objs.size∉[(s.heap.push (Yx w)).objs.size,l]:=by
     rw[Qca];simp only[Qas,Qat,Qbk,Qe2,not_or];exact⟨Qa8 (Qdz _),Qef hlS⟩
    have hval:∀(i:Nat)(v:Av),items[i]?=some v->∃y t,ys[i]?=some y/\v=.str y t:=λi v hv=>by
     rw[<-Array.getElem?_toList]at hv;obtain⟨y,t,e1,e2⟩:=StrsAre.item hi i v hv;exact⟨y,t,e2,e1⟩
    refine Zao ((Walks.list hh3 _ l hneI items).toS) s.heap.objs.size
     hSf (led:=!wB w) (ys:=ys) (by rw[<-Qb1];exact hi.length.symm) hval hb (items.size-0) 0 _ (by lia) (Qbl _)
     ⟨⟨_,Qak _ U,U,U⟩,(hl1.push _)⟩ ?hS0 ?hR
    case hS0=>
     exact⟨Yx w,#[],0,.fresh 0 0 (!wB w),Qad _ hS,⟨U,U,U⟩,U,λe he=>by simp at he,by simp[Ww],U,U,.inl U⟩
    case hR=>
     intro s' hm O;have Y:=hm.toks;obtain⟨h',g',d',tk',os'⟩:=s';have eg:g'=s.gens:=hm.gens;have ed:d'=s.drawn:=hm.drawn;have eo:os'=s.os:=hm.os;subst eg;subst ed;subst eo;show wpAny _ _ _ _ _ _;refine Qaf ?_;show wpAny _ _ (ret Value.none) _ _ _;refine Qaf ⟨U,h',tk',Y,U,O,λb o hb e=>?_⟩;have hb1:b≠s.heap.objs.size:=Qa8 hb;have hb2:b≠(s.heap.push (Yx w)).objs.size:=by
      rw[Qca];exact Qa8 (Qd9 hb)
     exact hm.heap b o (by simp only[Qas,Qat,Qbk,Qe2,not_or];exact⟨hb1,hb2⟩) (Qad _ (Qad _ e))
   .cases r₂ with
    |error e=>exact z
    |ok Ua=>
     cases Ua with
     |ret r=>
      obtain⟨rfl,h',tk,Y,rfl,O,hk'⟩:=z
      repeat (any_goals (first|assumption|wp_step))
      exact h _ _ Y O hk'
     |_=>exact z.elim
  |_=>exact hr.elim
end
theorem Z7:Slot "set_iterator" "__next__" "set_iterator.__next__" :=
 .of (owner:= "set_iterator") (n:= "__next__") (by kernel_rfl) (by decide +kernel) (by decide +kernel) (by decide +kernel)
  (by first|exact .inl (by decide +kernel)|exact .inr _) (by kernel_rfl)
def YH:entryFor table "set_iterator.__next__" = some Builtin.«set_iterator.__next__»:=entryFor_of_tree (by kernel_rfl)
def Xe (a:Av):argsOk "set_iterator.__next__" ⟨[a],[]⟩:=by
 kernel_rfl
theorem jg:entryFor table "set.__iter__" = some Builtin.«frozenset.__iter__» :=
 entryFor_alias (id':= "frozenset.__iter__") (by kernel_rfl) U (by decide +kernel) (by kernel_rfl)
section
variable {prog:Aq}{w:Au}{A:Ar}{E:Ab}{s:As}
def Zap{e:Source}{Q:Nat->Shared->Prop}(z:n≠0)(h:∀i d,i<n->Q i {s with drawn:=d}):A3 prog w A (choose e n) Q E s:=by
 intro Γ p F;exact⟨z,h _ _ (Qhl _ (Nat.pos_of_ne_zero z))⟩
theorem YI{α:Type}:∀(xs:List α)(i:Nat)(x:α),xs[i]?=some x->(x::xs.eraseIdx i).Perm xs
 |[],i,x,h=>by simp at h
 |y::ys,0,x,h=>by simp at h;subst h;exact .rfl
 |y::ys,i+1,x,h=>(List.Perm.swap y x _).trans ((YI ys i x h).cons y)
theorem Gv{α:Type}:∀(n:Nat)(xs:List α)(s:As)(Q:List α->Shared->Prop),xs.length<=n->(∀ys d,ys.Perm xs->Q ys {s with drawn:=d})->A3 prog w A (drawOrder n xs) Q E s
 |0,xs,s,Q,z,h=>by
  have:xs=[]:=Qcd (by lia);subst this;exact Qaf (h [] s.drawn .rfl)
 |n+1,[],s,Q,z,h=>Qaf (h [] s.drawn .rfl)
 |n+1,y::ys,s,Q,z,h=>by
  refine Qaa (Zap (by simp) λi d hi=>?_);obtain⟨x,e⟩:∃x,(y::ys)[i]?=some x:=⟨_,Qac hi⟩;rw[e];refine Qaa (Gv n _ _ _ (by grind) λzs d' F=>(Qaf (h _ d' ((F.cons x).trans (YI _ i x e)))))
end
theorem qF{α:Type}(next:Nat->Nat):∀(e k:Nat)(left:List α)(z:Array α),e=left.length->(pickOrder.go next e k left z).toList.Perm (z.toList++left)
 |0,k,left,z,h=>by
  have:=Qcd h.symm;subst this;unfold pickOrder.go;simp
 |e+1,k,left,z,h=>by
  unfold pickOrder.go;have hi:next k%left.length<left.length:=Qhl _ (by lia);rw[Qac hi];refine(qF next e _ _ _ (by grind)).trans ?_;rw[Qgu,Qb7];exact(YI left _ _ (Qac hi)).append_left _
def XU(next:Nat->Nat)(xs:Array m):(pickOrder next xs).toList.Perm xs.toList:=by
 unfold pickOrder;simpa using qF next xs.size 0 _ #[] (by simp)
def WY(h:Heap)(a:Aw)(es:Array (Int×Av))(ep:Nat)(t:SetTable):Prop:=∃o,h.get? a=some o/\o.ExactSet/\o.data=.set es ep t/\t.fits es.size=true
def Yy (h:Heap) (I a:Aw) (first:Av) (i n ep:Nat):Prop:=∃o,h.get? I=some o/\o.cls=.type "set_iterator" /\ o.data=.fields #[first,.int i 0,.ref a,.int n 0,.int ep 0]
section
variable {prog:Aq}{w:Au}{A:Ar}{E:Ab}{s:As}
def Yy.typeIs  {first:Av} {ep:Nat} (x:Yy s.heap f a first i n ep):s.TypeIs (.ref f) "set_iterator" :=let⟨o,ho,hc,_⟩:=x;⟨o,ho,hc⟩
def Yy.at{h':Heap}{first:Av}{ep:Nat}(x:Yy h f a first i n ep)(e:∀o,h.get? f=some o->h'.get? f=some o):Yy h' f a first i n ep:=let⟨o,ho,r⟩:=x;⟨o,e _ ho,r⟩
def WY.at{h':Heap}{es:Array (Int×Av)}{ep:Nat}{t:SetTable}(x:WY h a es ep t)(e:∀o,h.get? a=some o->h'.get? a=some o):WY h' a es ep t:=let⟨o,ho,r⟩:=x;⟨o,e _ ho,r⟩
def Xu{Q:Bool->Shared->Prop}(h:Q (wB w) s):A3 prog w A setsByText Q E s:=Qaa (Qg7 (Qaf h))
def qG{es:Array (Int×Av)}{ep:Nat}{t:SetTable}{given:Nat}{Q:Option (Av×Nat)->Shared->Prop}(I:wB w=true)(J:WY s.heap a es ep t)
  (h:Q (((pickOrder (w.params.setOrder a ep) es)[given]?).map λe=>(e.2,0)) s):A3 prog w A (setNext a 0 given ep) Q E s:=by
 obtain⟨o,F,O,G,z⟩:=J;refine Qaa (Qeb F G z (Qaa (Xu ?_)));rw[I];simp;refine Qaa (Qaa (Qeb F G z (Qaa (Xu ?_))));rw[I];refine Qaa (Qg7 (Qaf (Qaf h)))
def Gw{es:Array (Int×Av)}{ep:Nat}{t:SetTable}{given:Nat}{Q:Option (Av×Nat)->Shared->Prop}(J:wB w=false)(G:WY s.heap a es ep t)(Ua:t.led=true)(Y:es.size<=1)
  (h:Q (match es[SetTable.below t.place i]?,t.place[SetTable.below t.place i]? with|some (_,x),some j=>some (x,j+1)|_,_=>none) s):A3 prog w A (setNext a i given ep) Q E s:=by
 obtain⟨o,F,I,O,z⟩:=G;refine Qaa (Qeb F O z (Qaa (Xu ?_)));rw[J];have e:decide (es.size>1)=false:=by simp;lia
 show wpAny _ _ (if(!t.plain&&decide _)=true then _ else _) _ _ _;rw[e,Qgq];refine Qaa (m:=(if(!t.led && !es.isEmpty)=true then unsupported _ else pure ())) ?_;rw[Ua];exact Qaf (Qaf h)
def yq{es:Array (Int×Av)}{ep:Nat}{t:SetTable}{e:Int×Av}(F:WY s.heap a es ep t)(O:es[i]?=some e)
  (h:Q e.2 s):A3 prog w A (setNextDrawn a i ep) Q E s:=by
 obtain⟨o,z,G,I,J⟩:=F;refine Qaa (Qeb z I J ?_);simp;rw[O];exact Qaf h
def Zaq{first:Av}{ep:Nat}(x:Yy s.heap f a first i n ep){z:Nat}:
  Yy ((s.heap.update f (Obj.mapFields (·.setIfInBounds 0 v))).update f (Obj.mapFields (·.setIfInBounds 1 (.int z 0)))) f a v z n ep:=by
 obtain⟨o,G,I,F⟩:=x;have h1:=Qbm (Obj.mapFields (·.setIfInBounds 0 v)) G (Qcs (Qbr F _));have e:=Qbr F (·.setIfInBounds 0 v);refine⟨_,Qbm _ h1 (Qcs (Qbr e _)),(Qez ..).trans ((Qez ..).trans I),?_⟩;rw[Qbr e];simp
def vS{es:Array (Int×Av)}{ep:Nat}{t:SetTable}{x:Av}{nx:Nat}{Q:Aa}(e:Yy s.heap f a (.int n 0) i es.size ep)(hs:WY s.heap a es ep t)
  (Z:∀(J:Option (Av×Nat)->Shared->Prop)(Y:Ab),J (some (x,nx)) s->A3 prog w A.in1 (setNext a n i ep) J Y s)
  (Ua:∀h',Yy h' f a (.int nx 0) (i+1) es.size ep->Heap.SameBut f s.heap h'->Q (some x) {s with heap:=h'}):A3 prog w A (pyNext (.ref f)) Q E s:=by
 obtain⟨o,F,hc,z⟩:=id e;obtain⟨os,G,O,I,hf⟩:=id hs;refine Qaa (Qc5 (wpAny_callSpecial?_slot e.typeIs Z7
  (Qbn Z7 e.typeIs YH (Qaa (Qaf ?_)) (Xe _))))
 refine Qaa (Qgs F z (Qaa (Qei G I hf ?_)));simp;refine Qaa (Z _ _ (Qaa (Qdb F z (by simp) ?_)));refine Qaa (Qdb (Qbm _ F (Qcs (Qbr z _))) (Qbr z _) (by simp) (Qaf ⟨_,U,Qaf (Ua _ (Zaq e) ((Qb0 ..).trans (Qb0 ..)))⟩))
def ub{es:Array (Int×Av)}{ep:Nat}{t:SetTable}{Q:Aa}(hh:A.handled=none)(e:Yy s.heap f a (.int n 0) i es.size ep)(hs:WY s.heap a es ep t)
  (Z:∀(J:Option (Av×Nat)->Shared->Prop)(Y:Ab),J none s->A3 prog w A.in1 (setNext a n i ep) J Y s)
  (Ua:∀h',Heap.ExtBut f s.heap h'->Q none {s with heap:=h'}):A3 prog w A (pyNext (.ref f)) Q E s:=by
 obtain⟨o,G,hc,I⟩:=id e;obtain⟨os,z,O,F,hf⟩:=id hs;refine Qaa (Qc5 (wpAny_callSpecial?_slot e.typeIs Z7
  (Qbn Z7 e.typeIs YH ?_ (Xe _))))
 refine Qaa (Qaf ?_);refine Qaa (Qgs G I ?_);refine Qaa (Qei z F hf ?_);simp;refine Qaa (Z _ _ ?_);refine Qaa (Qdb G I (by simp) ?_);refine Qaa ?_;refine Qaa (Qbq ?_ (by size_fits));refine Qaa (Qco (a:=Value.none) (by first|rfl|(rfl)) ?_);refine Qbq ?_ (by size_fits);refine Qaa (Qg2 ?_);rw[hh];refine Qaa (Qaf (Qhn ?_));refine Qaa (Qdh (T:= "StopIteration") (b:=true) ⟨_,Qak _ U,U⟩ Qfs ?_);exact Qaf (Ua _ (((Qb0 ..).extBut.push _).push _))
def Zar{p:Aw}{es:Array (Int×Av)}{ep:Nat}{t:SetTable}{ps:Aj}{pl:Nat}{e:Int×Av}{Q:Aa}(z:Yy s.heap f a (.ref p) i es.size ep)(Ua:WY s.heap a es ep t)
  (Z:s.heap.get? p=some Y) (O:Y.data=.seq (ps.map λ(k:Nat)=>rawInt k).toArray n) (hi:ps[i]?=some pl) (he:es[pl]?=some e)
  (hQ:∀h',Yy h' f a (.ref p) (i+1) es.size ep->Heap.SameBut f s.heap h'->Q (some e.2) {s with heap:=h'}):A3 prog w A (pyNext (.ref f)) Q E s:=by
 obtain⟨o,G,hc,F⟩:=id z;obtain⟨os,I,hex,J,hf⟩:=id Ua;refine Qaa (Qc5 (wpAny_callSpecial?_slot z.typeIs Z7
  (Qbn Z7 z.typeIs YH (Qaa (Qaf ?_)) (Xe _))))
 refine Qaa (Qgs G F (Qaa (Qei I J hf ?_)));simp only[Qgx,↓reduceIte];refine Qaa (Qcl Z O ?_);dsimp only;rw[show((ps.map _).toArray)[(i:Int).toNat]?=some (rawInt pl) by simp[hi]];simp[rawInt];refine Qaa (yq Ua he ?_);refine Qaa (Qdb G F (by simp) (Qaf ⟨_,U,Qaf (hQ _ ⟨_,Qbm _ G (Qcs (Qbr F _)),(Qez ..).trans hc,?_⟩ (Qb0 ..))⟩));rw[Qbr F];simp
def Zdh{p:Aw}{es:Array (Int×Av)}{ep:Nat}{t:SetTable}{ps:Aj}{Q:Aa}(hh:A.handled=none)(e:Yy s.heap f a (.ref p) i es.size ep)(hs:WY s.heap a es ep t)
  (O:s.heap.get? p=some Y) (J:Y.data=.seq (ps.map λ(k:Nat)=>rawInt k).toArray n) (hi:ps[i]?=none)
  (Z:∀h',Heap.ExtBut f s.heap h'->Q none {s with heap:=h'}):A3 prog w A (pyNext (.ref f)) Q E s:=by
 obtain⟨o,F,hc,z⟩:=id e;obtain⟨os,G,Ua,I,hf⟩:=id hs;refine Qaa (Qc5 (wpAny_callSpecial?_slot (name:=Str.ofString "__next__") e.typeIs Z7
  (Qbn Z7 e.typeIs YH ?_ (Xe _))))
 refine Qaa (Qaf ?_);refine Qaa (Qgs F z ?_);refine Qaa (Qei G I hf ?_);simp only[Qgx,Qfh,↓reduceIte];refine Qaa (Qcl O J ?_);dsimp only;rw[show((ps.map λ(k:Nat)=>rawInt k).toArray)[(i:Int).toNat]?=none by simp;simpa using hi];refine Qaa (Qdb F z (by simp) ?_);have h1:=Qbm (Obj.mapFields (·.setIfInBounds 0 (rawInt 0))) F (Qcs (Qbr z _));refine Qaa (Qdb h1 (Qbr z _) (by simp) ?_);refine Qaa ?_;refine Qaa (Qbq ?_ (by size_fits));refine Qaa (m:=firstArgMember _ _) (Qco (a:=Value.none) (by first|rfl|(rfl)) ?_);refine Qbq ?_ (by size_fits);refine Qaa (Qg2 ?_);rw[show A.in1.handled=none from hh];refine Qaa (Qaf (Qhn ?_));refine Qaa (Qdh (T:= "StopIteration") (b:=true) ⟨_,Qak _ U,U⟩ Qfs ?_);exact Qaf (Z _ ((((Qb0 ..).trans (Qb0 ..)).extBut.push _).push _))
end
theorem J6:Slot "set_iterator" "__iter__" "set_iterator.__iter__" :=
 .of (owner:= "set_iterator") (n:= "__iter__") (by kernel_rfl) (by decide +kernel) (by decide +kernel) (by decide +kernel)
  (by first|exact .inl (by decide +kernel)|exact .inr _) (by kernel_rfl)
theorem xQ:entryFor table "set_iterator.__iter__" = some Builtin.«dict_keyiterator.__iter__» :=
 entryFor_alias (id':= "dict_keyiterator.__iter__") (by kernel_rfl) U (by decide +kernel) (by kernel_rfl)
def jh (a:Av):argsOk "set_iterator.__iter__" ⟨[a],[]⟩:=by
 kernel_rfl
section
variable {prog:Aq}{w:Au}{A:Ar}{E:Ab}{s:As}
def xR{first:Av}{ep:Nat}(e:Yy s.heap f a first i n ep)(h:Q (.ref f) s):A3 prog w A (pyIter (.ref f)) Q E s:=by
 refine Qfr e.typeIs J6 (Qbn J6 e.typeIs xQ (Qaf ⟨_,U,_,_,e.typeIs,Z7.lookup,h⟩) (jh _))
def Txs(z:List (Int×Av))(i:Nat)(v:Av):Prop:=∃e,z[i]?=some e/\v=e.2
def Zas{es:Array (Int×Av)}{ep:Nat}{t:SetTable}(z:wB w=true)(hh:A.handled=none)(J:a≠f):
  Walks prog w A f [f,a] [f] es.size (Txs (pickOrder (w.params.setOrder a ep) es).toList) (λi h=>Yy h f a (.int (0:Nat) 0) i es.size ep/\WY h a es ep t)where
 sub:=λb z=>by grind
 frame:=λ_ _ _ st Ua=>⟨st.1.at λo e=>Ua f (by simp) o e,st.2.at λo e=>Ua a (by simp) o e⟩
 item:=λi s Q E hi st G=>by
  have hsz:=by simpa using (XU (w.params.setOrder a ep) es).length_eq
  obtain⟨e,Z⟩:∃e,(pickOrder (w.params.setOrder a ep) es)[i]?=some e:=⟨_,Qdm (by lia)⟩;refine vS st.1 st.2 (λQ' Y q=>qG z st.2 (by grind)) λh' F I=>(G e.2 h' s.toks ⟨e,by simpa using Z,U⟩ ⟨F,st.2.at λo e=>I.extBut a o J e⟩ λb o z e=>I.extBut b o (λh=>z (by simp[h])) e)
 done:=λs Q E st G=>by
  have hsz:=by simpa using (XU (w.params.setOrder a ep) es).length_eq
  exact ub hh st.1 st.2 (λQ' Y q=>qG z st.2 (by grind)) λh' O=>G h' s.toks λb o z e=>O b o (λh=>z (by simp[h])) e
 self:=λ_ _ _ _ st G=>xR st.1 G
theorem wO{p:Aw}{es:Array (Int×Av)}{ep:Nat}{t:SetTable}{ps:Aj}(J:ps.Perm (List.range es.size))(hh:A.handled=none)(hne:a≠f)(hnp:p≠f):
  Walks prog w A f [f,a,p] [f] es.size (Txs (ps.filterMap (es[·]?))) (λi h=>Yy h f a (.ref p) i es.size ep/\WY h a es ep t/\∃G np,h.get? p=some G/\G.data=.seq (ps.map λ(k:Nat)=>rawInt k).toArray np)where
 sub:=λb Y=>by simp at Y;simp[Y]
 frame:=λ_ _ _ st F=>⟨st.1.at λo e=>F f (by simp) o e,st.2.1.at λo e=>F a (by simp) o e,let⟨G,np,h1,h2⟩:=st.2.2;⟨G,np,F p (by simp) G h1,h2⟩⟩
 item:=λi s Q E hi st Z=>by
  obtain⟨G,np,h1,h2⟩:=st.2.2;have I:=by simpa using J.length_eq
  have z:∀k∈ps,k<es.size:=λk F=>by grind
  have Ua:ps[i]?=some (ps[i]'(by lia)):=Qac _;have F:ps[i]'(by lia)<es.size:=z _ (Qbh _);have hfm:ps.filterMap (es[·]?)=ps.map (λk=>es.getD k (0,.none)):=by
   clear Ua J I F hi h1 h2 st Z
   induction ps with
   |nil=>rfl
   |cons k ks ih=>
    have:=z k (by simp);rw[List.filterMap_cons_some (b:=es.getD k (0,.none)) (by simp[Array.getD,this]),ih λk F=>z k (by simp[F]),Qbv]
  refine Zar st.1 st.2.1 h1 h2 Ua (Qdm F) λh' hit' O=>?_;refine Z _ h' s.toks ⟨_,?_,U⟩ ⟨hit',st.2.1.at λo e=>O.extBut a o hne e,G,np,O.extBut p G hnp h1,h2⟩ λb o Y e=>O.extBut b o (λh=>Y (by simp[h])) e;rw[hfm,Qag,Ua];simp[Array.getD,F]
 done:=λs Q E st Z=>by
  obtain⟨G,np,h1,h2⟩:=st.2.2;have I:=by simpa using J.length_eq
  exact Zdh hh st.1 st.2.1 h1 h2 (by simp;lia) λh' he'=>Z h' s.toks λb o Y e=>he' b o (λh=>Y (by simp[h])) e
 self:=λ_ _ _ _ st Z=>xR st.1 Z
def vT(j:Nat):SetTable.below #[j] 0=0/\SetTable.below #[j] (j+1)=1:=by
 constructor<;>simp[SetTable.below,SetTable.below.go]
def wQ{es:Array (Int×Av)}{ep:Nat}{t:SetTable}(G:wB w=false)(hl:t.led=true)(hz:es.size<=1)(hh:A.handled=none)(hne:a≠f):
  Walks prog w A f [f,a] [f] es.size (Txs es.toList) (λi h=>∃F:Nat,(i=0->F=0)/\(i=1->∃j,t.place=#[j]/\F=j+1)/\Yy h f a (.int F 0) i es.size ep/\WY h a es ep t)where
 sub:=λb G=>by simp at G;simp[G]
 frame:=λ_ _ _ st hk=>by
  obtain⟨F,J,Y,h1,h2⟩:=st;exact⟨F,J,Y,h1.at λo e=>hk f (by simp) o e,h2.at λo e=>hk a (by simp) o e⟩
 item:=λi s Q E hi st O=>by
  obtain⟨F,J,Y,h1,h2⟩:=st;have hi0:i=0:=by lia
  subst hi0;obtain rfl:=J rfl;have hps:t.place.size=1:=by
   obtain⟨o,ho,hex,hd,hf⟩:=h2;simp only[SetTable.fits,Qa4,Qd0,decide_eq_true_eq]at hf;lia
  obtain⟨j,Z⟩:∃j,t.place=#[j]:=⟨t.place[0],by grind⟩;obtain⟨e,he⟩:∃e,es[0]?=some e:=⟨_,Qdm (by lia)⟩;refine vS h1 h2 (x:=e.2) (nx:=j+1) (λQ' E' q=>Gw G h2 hl hz (by rw[Z,(vT j).1,he];exact q)) λh' I Ua=>?_;exact O e.2 h' s.toks ⟨e,by simpa using he,U⟩ ⟨j+1,λz=>absurd z (by lia),λ_=>⟨j,Z,U⟩,I,h2.at λo e=>Ua.extBut a o hne e⟩ λb o G e=>Ua.extBut b o (λh=>G (by simp[h])) e
 done:=λs Q E st O=>by
  obtain⟨F,J,Y,h1,h2⟩:=st;refine ub hh h1 h2 (λQ' E' q=>Gw G h2 hl hz ?_) λh' he'=>O h' s.toks λb o G e=>he' b o (λh=>G (by simp[h])) e
  by_cases h0:es.size=0
  .grind
  .obtain⟨j,Z,rfl⟩:=Y (by lia);rw[Z,(vT j).2,Array.getElem?_eq_none (by lia)];exact q
 self:=λ_ _ _ _ st O=>by
  obtain⟨F,J,Y,h1,h2⟩:=st;exact xR h1 O
def wR{es:Array (Int×Av)}{ep:Nat}{t:SetTable}{Q:Bool->Shared->Prop}(z:WY s.heap a es ep t)(h:Q (!wB w&&(!t.plain&&decide (es.size>1))) s):A3 prog w A (setDrawn a) Q E s:=by
 obtain⟨o,e,F,G,I⟩:=z;refine Qaa (Qeb e G I (Qaa (Xu (Qaf h))))
structure SetW(prog:Aq)(w:Au)(h h':Heap)(I a:Aw)(es:Array (Int×Av))(ord:List (Int×Av))(fp:List Aw)(St:Nat->Heap->Prop):Prop where
 old:∀b o,h.get? b=some o->h'.get? b=some o
 new:h.objs.size<=I
 perm:ord.Perm es.toList
 lt:∀b∈fp,b<h'.objs.size
 mem:I∈fp
 st:St 0 h'
 walks:∀A:Ar,A.handled=none->Walks prog w A I fp [I] es.size (Txs ord) St
 apart:∀b∈fp,b=a\/h.objs.size<=b
def Zhd{es:Array (Int×Av)}{ep:Nat}{t:SetTable}(Z:WY s.heap a es ep t)(hl:t.led=!wB w)(hp:es.size=0\/t.plain=false)(hz:es.size<=sizeLine)
  (hQ:∀h' d I ord fp St,SetW prog w s.heap h' I a es ord fp St->Q (.ref I) {s with heap:=h',drawn:=d}):A3 prog w A (pyIter (.ref a)) Q E s:=by
 obtain⟨o,Y,hex,hd,hf⟩:=id Z;have hT:s.TypeIs (.ref a) "set" :=⟨o,Y,hex.1⟩;have hlt:=Qao Y;refine Qfr hT F.slot_set_iter (Qbn F.slot_set_iter hT jg ?_ (F.args_set_iter_1 _));unfold Builtin.«frozenset.__iter__» Builtin.Frozenset.slot0 slotArgs;simp only[List.isEmpty_nil,Bool.not_true,Qfh,↓reduceIte,bind_assoc,Qeu,Qgx];refine Qaa (Qaf ?_);refine Qaa (Qaf ?_);refine Qaa (Qaa (Qei Y hd hf (Qaf ?_)));refine Qaa (wR Z ?_);cases hb:wB w with
 |true=>
  refine Qaa (Qaf ?_);refine Qaa (Qgy Y hd hf ?_);have J:(s.heap.push {cls:=.type "set_iterator",data:=.fields #[rawInt 0,rawInt 0,.ref a,rawInt es.size,rawInt ep]}).get? s.heap.objs.size=some {cls:=.type "set_iterator",data:=.fields #[rawInt 0,rawInt 0,.ref a,rawInt es.size,rawInt ep]}:=Qak _ rfl;refine Qaa (Qbq (Qaf ⟨_,U,"set_iterator",_,⟨_,J,U⟩,Z7.lookup,?_⟩));refine hQ _ s.drawn s.heap.objs.size _ _ _ ⟨λb o e=>Qad _ e,Qaj _,XU (w.params.setOrder a ep) es,λb G=>?_,Qah,⟨⟨_,J,U,U⟩,Z.at λo e=>Qad _ e⟩,λA' hh=>Zas hb hh (Qa8 hlt),λb G=>(Qas.mp G).elim (λe=>.inr (e ▸ Qaj _)) λG=>.inl (Qat.mp G)⟩;rw[Qca];rcases Qas.mp G with rfl|G
  .exact Qdz _
  .grind
 |false=>
  rw[hb]at hl
  by_cases hd1:es.size>1
  .have hpl:t.plain=false:=hp.resolve_left (by lia);rw[hpl,Qan hd1];refine Qaa (Gv _ _ _ _ (Qg9 Qa3) λps d Ua=>?_);have hpn:ps.length=es.size:=by simpa using Ua.length_eq
   refine Qaa (Qgr ?_ (by rw[Qab];lia));refine Qaa (Qgy (Qad _ Y) hd hf ?_);generalize hH:s.heap.push {cls:=.type "tuple",data:=.seq (ps.map λ(i:Nat)=>rawInt i).toArray}=H;have hHs:H.objs.size=s.heap.objs.size+1:=by rw[<-hH,Qca]
   have O:∀b o,s.heap.get? b=some o->H.get? b=some o:=λb o e=>hH ▸ Qad _ e;have J:(H.push {cls:=.type "set_iterator",data:=.fields #[.ref s.heap.objs.size,rawInt 0,.ref a,rawInt es.size,rawInt ep]}).get? H.objs.size=some _:=Qak _ rfl;refine Qaa (Qbq (s:={s with heap:=H,drawn:=d}) (Qaf ⟨_,U,"set_iterator",_,⟨_,J,U⟩,Z7.lookup,?_⟩));refine hQ _ d H.objs.size _ _ _ ⟨λb o e=>Qad _ (O b o e),by rw[hHs];exact Qep _,?_,λb G=>?_,Qah,⟨⟨_,J,U,U⟩,Z.at λo e=>Qad _ (O a o e),_,_,Qad _ (hH ▸ Qak _ U),U⟩,λA' hh=>wO (p:=s.heap.objs.size) Ua hh (λe=>by grind) (λe=>by grind),λb G=>(Qas.mp G).elim (λe=>.inr (by rw[e,hHs];exact Qep _)) λG=>(Qas.mp G).elim .inl λG=>.inr (by grind)⟩
   .exact(Ua.filterMap _).trans (by rw[filterMap_getElem?_range])
   .rw[Qca];rcases Qas.mp G with rfl|G
    .exact Qdz _
    .grind
  .have hd2:decide (es.size>1)=false:=by simp;lia
   rw[hd2,Qgq];refine Qaa (Qaf ?_);refine Qaa (Qgy Y hd hf ?_);have J:(s.heap.push {cls:=.type "set_iterator",data:=.fields #[rawInt 0,rawInt 0,.ref a,rawInt es.size,rawInt ep]}).get? s.heap.objs.size=some {cls:=.type "set_iterator",data:=.fields #[rawInt 0,rawInt 0,.ref a,rawInt es.size,rawInt ep]}:=Qak _ rfl;refine Qaa (Qbq (Qaf ⟨_,U,"set_iterator",_,⟨_,J,U⟩,Z7.lookup,?_⟩));refine hQ _ s.drawn s.heap.objs.size _ _ _ ⟨λb o e=>Qad _ e,Qaj _,.rfl,λb G=>?_,Qah,⟨0,λ_=>U,λz=>absurd z (by lia),⟨_,J,U,U⟩,Z.at λo e=>Qad _ e⟩,λA' hh=>wQ hb (by simpa using hl) (by lia) hh (Qa8 hlt),λb G=>(Qas.mp G).elim (λe=>.inr (e ▸ Qaj _)) λG=>.inl (Qat.mp G)⟩;rw[Qca];rcases Qas.mp G with rfl|G
   .exact Qdz _
   .grind
def wU{es:Array (Int×Av)}{ep:Nat}{t:SetTable}{Q:Ag->Shared->Prop}(hh:A.handled=none)(hs:WY s.heap a es ep t)(hl:t.led=!wB w)(hp:es.size=0\/t.plain=false)(hz:es.size<=sizeLine)
  (hQ:∀(h':Heap)(d:Drawn)(tk:Nat)(G:List (Int×Av)),(∀b o,s.heap.get? b=some o->h'.get? b=some o)->s.heap.objs.size<=h'.objs.size->G.Perm es.toList->Q (G.map (·.2)) {s with heap:=h',drawn:=d,toks:=tk}):A3 prog w A (collect (.ref a)) Q E s:=by
 obtain⟨o,ho,hex,hd,hf⟩:=id hs;have hlt:=Qao ho;unfold collect;refine Qaa (wpAny_runValue (Qct F.entry_proto_collect ?_));rw[Qf5 F.plain_proto_collect _];show wpAny _ A.in1 (newList [] >>= λl=>again (.builtin "list.__iadd__" ⟨[l,.ref a],[]⟩)) _ _ s;refine Qaa (Qbq ?_);refine Qaf ⟨Qd2 Qgz _,Qct F.entry_list_iadd ?_⟩;rw[Qf5 Qgz _];generalize hH:s.heap.push {cls:=.type "list",data:=.seq ([]:Ag).toArray}=H;have hHs:H.objs.size=s.heap.objs.size+1:=by rw[<-hH,Qca]
 have z:∀b o,s.heap.get? b=some o->H.get? b=some o:=λb o e=>hH ▸ Qad _ e;have hS:H.get? s.heap.objs.size=some {cls:=.type "list",data:=.seq ([]:Ag).toArray}:=hH ▸ Qak _ rfl;have hs1:WY H a es ep t:=hs.at λo e=>z a o e;have hT:Shared.TypeIs {s with heap:=H} (.ref a) "set" :=⟨o,z a o ho,hex.1⟩;show wpAny _ A.in1 (Builtin.List.listExtendWith (.ref s.heap.objs.size) (.ref a) (.ref s.heap.objs.size)) _ _ _;unfold Builtin.List.listExtendWith;refine Qaa (Qha hT ?_);have h1:Builtin.List.listSameRef (.ref s.heap.objs.size) (.ref a)=false:=by simp[Builtin.List.listSameRef];exact Qef hlt
 have h2:(Value.type "set" == Value.type "list")=false:=by decide
 have h3:(Value.type "set" == Value.type "tuple")=false:=by decide
 simp only[h1,h2,h3,Bool.or_false,Qfh,if_false];refine Qaa (Zhd (s:={s with heap:=H}) hs1 hl hp hz λh1 d I G fp St W=>?_);refine Qaa (Qb4 ?_);unfold Builtin.List.listLengthHint;have Z:Shared.TypeIs {s with heap:=h1,drawn:=d} (.ref a) "set" :=⟨o,W.old a o (z a o ho),hex.1⟩;refine Qaa (Qea Z F.slot_set_len.lookup ?_)
 wp_delta
 refine Qaa (Qdh (b:=true) Z (by rw[isSubtype_type];kernel_rfl) ?_);show wpAny _ A.in1 (typeOf (Value.ref a) >>= _) _ _ _;refine Qaa (Qha Z ?_);refine Qaf ?_;show wpAny _ A.in1 (rule "list.extend.makes-room" >>= λ_=>Builtin.List.listTouch (.ref s.heap.objs.size) >>= λ_=>
  again (.builtin "list.extend.loop" ⟨[.ref s.heap.objs.size,.ref I,.ref s.heap.objs.size],[]⟩)) _ _ _
 refine Qaa (Qdt ?_);have hnf:s.heap.objs.size∉fp:=λhm=>by
  rcases W.apart _ hm with e|e
  .exact absurd hlt (e ▸ Qcf _)
  .exact absurd e (by show¬H.objs.size<=_;rw[hHs];exact Nat.not_succ_le_self _)
 have hS1:=W.old _ _ hS;refine Qaa ?_;show wpAny _ A.in1 (updateSeq s.heap.objs.size (·.push .none) >>= λ_=>updateSeq s.heap.objs.size (·.pop)) _ _ _;refine Qaa (Qfi (s:={s with heap:=h1,drawn:=d}) hS1 U ?_);have hS2:=Qbm (Obj.mapSeq (·.push Value.none)) hS1 rfl;refine Qfi (s:={s with heap:=h1.update s.heap.objs.size (Obj.mapSeq (·.push Value.none)),drawn:=d}) hS2 U ?_;have hS3:=Qbm (Obj.mapSeq (·.pop)) hS2 rfl;have oth:∀b o,b≠s.heap.objs.size->h1.get? b=some o->
   ((h1.update s.heap.objs.size (Obj.mapSeq (·.push Value.none))).update s.heap.objs.size (Obj.mapSeq (·.pop))).get? b=some o:=
  λb o hb e=>(Qbx _ _ (Qdx hb)).trans ((Qbx _ _ (Qdx hb)).trans e)
 refine Qaf ⟨Qd2 F.plain_extend_loop _,codeAny_extend_loopS (W.walks A.in1 hh).toS hz _ hnf _ es.size 0 _ _ _ U (Qbl _)
  ((W.walks A hh).frame 0 _ _ W.st λb hb o e=>oth b o (λh=>hnf (h ▸ hb)) e) hS3 (ItemsOf.nil _) λs' Ua c' hm hS' O=>?_⟩
 show wpAny _ A (load s.heap.objs.size >>= _) _ _ s';refine Qaa (wpAny_load hS' ?_);have Y:Ua.toList=G.map (·.2):=by
  have hol:G.length=es.size:=by simpa using W.perm.length_eq
  apply List.ext_getElem
  .rw[Qab,Qb1,O.1,hol]
  .intro i i1 i2;rw[Qb1]at i1;obtain⟨e,he,hv⟩:=O.2 i Ua[i] (Qdm i1);rw[Array.getElem_toList,hv,List.getElem_map];rw[Qab]at i2;rw[Qac i2]at he;rw[Option.some.inj he]
 have eg:s'.gens=s.gens:=hm.gens;have ed:s'.drawn=d:=hm.drawn;have eo:s'.os=s.os:=hm.os;refine Qaf ?_;have:=hQ s'.heap s'.drawn s'.toks G (λb ob e=>?_) ?_ W.perm
 .rw[<-Y,<-eg,<-eo]at this;exact this
 .have J:=Qao e;refine hm.heap b ob (λhb=>?_) (oth b ob (Qa8 J) (W.old b ob (z b ob e)));rcases Qas.mp hb with h|h
  .exact absurd J (h ▸ Qcf _)
  .rw[Qat.mp h]at J;have:=W.new;exact absurd J (Qg0.mpr (Qa9 (by rw[hHs];exact Qep _) this))
 .exact Qaw (Qao hS')
theorem Gx:∀{l:List (Int×Av)},ElemsOf (PySem.strKind prog w) l->StrsAre (l.map (·.2)) (l.map λe=>tx e.2)
 |[],_=>.nil
 |e::l,h=>by
  obtain⟨_,t,z⟩:=ua h (Qah);rw[Qbv,z];exact .cons _ t (Gx h.tail)
def Zat{led:Bool}{S:Ai}(hh:A.handled=none)(hS:xO prog w s.heap a (!wB w) S)(h64:S.length<64)
  (h:∀(h':Heap)(d:Drawn)(tk:Nat)(l:Aw)(I:Ah)(Ua:Ai)(e:Nat),StrsAre I.toList Ua->Ua.Perm S->sortedS Ua=true->(∀b o,s.heap.get? b=some o->h'.get? b=some o)->s.heap.objs.size<=l->
   h'.get? l=some (seqObj "list" I e)->Q (.ref l) {s with heap:=h',drawn:=d,toks:=tk}):
  A3 prog w A (call (.builtin "sorted") [.ref a]) Q E s:=by
 obtain⟨o,es,ep,t,ho,hex,hd,hel,hp,hf,hl,hpl⟩:=hS;have hn:es.size=S.length:=by rw[<-hp.length_eq,Qab,Qb1]
 refine Calls.call_function_entry kind_sorted plain_sorted entry_sorted (args_sorted1 _) ?_;refine Qaa (Qaf ?_);refine Qaa (wU (A:=A.in1) hh ⟨o,ho,hex,hd,hf⟩ hl hpl (Qgv (by unfold scanBound;lia)) λh1 d tk Y O hsz z=>?_);have J:(Y.map (·.2)).length<64:=by rw[Qab,z.length_eq,Qb1];lia
 have F:=Gx (hel.perm z);generalize hV:Y.map (·.2)=vs at J F ⊢;refine Qaa (wpAny_newList ?_);have G:(h1.push _).get? h1.objs.size=some (seqObj "list" vs.toArray 0):=Qak _ rfl;refine Qaa (Qb4 (Qbn slot_list_sort ⟨_,G,U⟩ entry_list_sort (list_sort_treeK strKind_oneLt G F.keysOf (λv₁ v₂ rest e=>keyKind_strs (by rw[<-e];exact F)) J λst' a1 a2=>⟨_,U,?_⟩) (args_list_sort _)));obtain⟨Ua,b1,b2,b3⟩:=sorted_out_str F a1 a2;obtain⟨e,he⟩:=sortedHeap_at (vs:=vs) (n:=0) G;refine Qaf ⟨_,U,h _ d tk h1.objs.size _ Ua e b1 (b2.trans ((z.map _).trans hp)) b3 (λb ob hb=>?_) hsz he⟩;have Z:=Qa7 (Qao hb) hsz;rw[sortedHeap_old (Qa8 Z) (by rw[size_push'];exact Qd9 Z)];exact Qad _ (O b ob hb)
end
def TxO(P:Aq)(w:Au)(a:Aw)(S:Ai):HO:=.ext λh=>xO P w h a (!wB w) S
theorem Inv.drew(I:Inv X q c H s)(d:Drawn):Inv X q c H {s with drawn:=d}:=
 ⟨I.ok,I.os,I.bare,I.base,I.loc,I.cell,I.free,I.freeC,I.pin,I.hok,I.len⟩
def vU (hc:X.calm=true):YS X (.type "set") (λxs H Q=>∃(p:Aw)(F:Ai),xs=[.ref p]/\SqL X.K H p (F.map V.str)/\F.length<4000 /\
  ∀a:Aw,H a=none->Q (.ref a) (upd H a (TxO X.prog X.w a (Ww F)))):=by
 intro pins s σ H xs us Q I r h;obtain⟨p,F,rfl,Ua,hn,q⟩:=h;obtain⟨u,rfl,Y⟩:=vals1 r;cases Y;obtain⟨its,J,pl,hz⟩:=I.list Ua;have z:=J.length;rw[Qab]at z;refine jf (I.ok.hd hc) pl.isList (by simpa using Zal J) (by rw[Qcc];unfold scanBound;lia) λh' tk htk G O=>⟨.ref _,_,I.laid (λb o e=>O b o (Qao e) e) (Qaj _) ?_,U,q _ (I.hok.fresh (Qaj _))⟩;obtain⟨o,es,ep,t,Z,rest⟩:=id G;exact⟨G,⟨o,Z⟩,λh1 h2 x k=>qb x k⟩
def Gy (Z:X.calm=true):YS X (.builtin "sorted") (λxs H Q=>∃(a:Aw)(S:Ai),xs=[.ref a]/\H a=some (TxO X.prog X.w a S)/\S.length<64 /\
  ∀(l:Aw)(z:Ai),H l=none->z.Perm S->sortedS z=true->Q (.ref l) (upd H l (.lst (z.map V.str)))):=by
 intro pins s σ H xs us Q I r h;obtain⟨a,S,rfl,hq,hn,q⟩:=h;obtain⟨u,rfl,rx⟩:=vals1 r;cases rx;refine Zat (led:=true) (I.ok.hd Z) (I.hok a _ hq).1 hn λh' d tk l J O e hi F hs Ua G Y=>⟨.ref l,_,(I.drew d).laid Ua G ?_,U,q _ O (I.hok.fresh G) F hs⟩;have hm:=F.length_eq;exact⟨by rw[Qab];exact Qaw (Z2 (by lia)),_,e,WW hi,by simpa using Y⟩
def Zlq{y:Str}(h1:ltCps x.cps.toList y.cps.toList=false)(h2:ltCps y.cps.toList x.cps.toList=false):x=y:=by
 rw[ltCps_eq]at h1 h2;cases x;cases y;simp;exact Array.toList_inj.mp (List.le_antisymm (Qfj h2) (Qfj h1))
def Zhe{y z:Str}(h1:ltCps y.cps.toList x.cps.toList=false)(h2:ltCps z.cps.toList y.cps.toList=false):ltCps z.cps.toList x.cps.toList=false:=by
 rw[ltCps_eq]at h1 h2 ⊢;refine Qaq ((List.le_trans (Qfj h1) (Qfj h2)))
theorem qc:∀(p:Str)(l:Ai),risingS p l=true->∀y∈l,ltCps y.cps.toList p.cps.toList=false
 |p,[],_,y,e=>nomatch e
 |p,x::r,h,y,e=>by
  have h':(!ltCps _ _&&risingS x r)=true:=h;rw[Qa4,Bool.not_eq_true']at h';rcases Qas.mp e with rfl|e
  .exact h'.1
  .exact Zhe h'.1 (qc x r h'.2 y e)
def xS{p:Str}{l:Ai}(h:sortedS (p::l)=true):sortedS l=true:=by
 cases l with
 |nil=>rfl
 |cons x r=>
  have h':(!ltCps _ _&&risingS x r)=true:=h;rw[Qa4]at h';exact h'.2
theorem Jy:∀(l m:Ai),sortedS l=true->sortedS m=true->l.Perm m->l=m
 |[],m,_,_,p=>by rw[List.nil_perm.mp p]
 |x::l,m,h1,h2,p=>by
  cases m with
  |nil=>exact absurd (List.perm_nil.mp p) (by simp)
  |cons y m=>
   have G:x=y:=by
    have F:=p.mem_iff.mp Qah;have z:=p.mem_iff.mpr Qah;rcases Qas.mp F with e|F
    .exact e
    .rcases Qas.mp z with e|z
     .exact e.symm
     .exact Zlq (qc y m h2 x F) (qc x l h1 y z)
   subst G;rw[Jy l m (xS h1) (xS h2) (p.cons_inv)]
def Zlr{S:Ai}{y:Str}:y∈ins S x↔y∈S\/y=x:=by
 unfold ins;split
 .grind
 .simp
def Zdi{S:Ai}(h:S.Nodup):(ins S x).Nodup:=by
 unfold ins;split
 .exact h
 .grind
theorem yr:∀(ys S:Ai),S.Nodup->(ys.foldl ins S).Nodup/\∀y,y∈ys.foldl ins S↔y∈S\/y∈ys
 |[],S,h=>⟨h,λy=>by simp⟩
 |x::r,S,h=>by
  obtain⟨a,b⟩:=yr r _ (Zdi h);refine⟨a,λy=>(b y).trans ?_⟩;rw[Zlr,Qas,or_assoc]
def wV(ys:Ai):(Ww ys).Nodup:=(yr ys [] Qcj).1
def Zdj{ys:Ai}{y:Str}:y∈Ww ys↔y∈ys:=((yr ys [] Qcj).2 y).trans (by simp)
def xT{xs:A2}{is:Aj}{Q:VK}(p:V->Bool)(S:Hp->Hp->Prop)(O:∀H,S H H)(st:∀H1 H2 G,S H1 H2->S H2 G->S H1 G)(hx:∀H1,S H H1->SqT K H1 a xs)(hz:xs.length<=sizeLine)
  (Y:∀x∈xs,∀H1,S H H1->∀R:Bool->Hp->Prop,(∀H2,S H1 H2->R (p x) H2)->L (xK is c (some x)) H1 R)
  (Ua:∀x∈xs,∀H1,∀R:VK,R x H1->d (xK is c (some x)) H1 R)
  (Z:∀H1 l,S H H1->H1 l=none->Q (.ref l) (upd H1 l (.lst (xs.filter p)))):Gp is L d c Q (Itt K a) H:=by
 refine Jx (xs:=xs) (λi zs H'=>zs=(xs.take i).filter p/\S H H') ⟨U,O H⟩ ?_ ?_ ?_ ?_
 .grind
 .grind
 .rintro i x zs H' R hR z ⟨rfl,F⟩;have J:=Qam z;have e:=take_snoc z;refine Y x J H' F _ λH2 I=>?_;cases hp:p x with
  |true=>
   refine(Qa2 U) ▸ Ua x J H2 _ (hR _ _ ⟨?_,st _ _ _ F I⟩);rw[e,Qdo,Qcv,Qa2 hp];rfl
  |false=>
   refine(Qax Qbc) ▸ hR _ _ ⟨?_,st _ _ _ F I⟩;rw[e,Qdo,Qcv,Qax (by grind)];simp
 .grind
abbrev XY(o:Obj):HO:=.frz o (.ext λ_=>True)
def qd{o:Obj}(e:h.get? a=some o):YR P w H h a (XY o):=⟨e,trivial,⟨o,e⟩,λ_ _ _ _=>trivial⟩
def hide(cs:List Aw)(H:Hp):Hp:=λb=>if b∈cs then none else H b
def WC(cs:List Aw)(H H':Hp):Hp:=λb=>if b∈cs then H b else H' b
def YJ{b:Aw}(h:b∈J):hide J H b=none:=Qa2 h
def ZA{b:Aw}(h:b∉J):hide J H b=H b:=Qax h
def WZ{H':Hp}{b:Aw}(h:b∈J):WC J H H' b=H b:=Qa2 h
def Yp{H':Hp}{b:Aw}(h:b∉J):WC J H H' b=H' b:=Qax h
def of_hide{b:Aw}{o:HO}(h:hide J H b=some o):b∉J/\H b=some o:=by
 by_cases m:b∈J
 .rw[YJ m]at h;cases h
 .rw[ZA m]at h;exact⟨m,h⟩
def qf(H H1:Hp):Prop:=∀b o u,H b=some (.frz o u)->H1 b=some (.frz o u)
def qf.refl(H:Hp):qf H H:=λ_ _ _ h=>h
def qf.trans{H2:Hp}(a:qf H g)(b:qf g H2):qf H H2:=λc o u h=>b c o u (a c o u h)
def ZG.frz{H H1:Hp}(a:ZG H H1):qf H H1:=λb o u h=>a b _ h
def Xf(P:Aq)(w:Au)(K:Af)(mg:Ae)(base:Heap)(k:Nat)(f:Aw)(H:Hp)(τ:Sp):Prop:=
 (∃o fd,H f=some (XY o)/\o.data=.func fd) /\
 ∀(A:Ar)(outer:List Env)(s:As)(H1:Hp)(e:Ag)(vs:A2)(Q:VK)(E:XK),qf H H1->Wo k A->Zkz P w K mg base A outer s H1->Vals vs e->τ vs H1 Q E->
  codeAny (model P w) A (.call (.ref f) ⟨e,[]⟩) (CR CX0 outer P w H1 s Q E) s
theorem Xf.frz{P:Aq}{w:Au}{K:Af}{mg:Ae}{base:Heap}{k:Nat}{f:Aw}{H H1:Hp}{τ:Sp}(c:Xf P w K mg base k f H τ)(h:qf H H1):Xf P w K mg base k f H1 τ:=
 ⟨let⟨o,fd,e,d⟩:=c.1;⟨o,fd,h _ _ _ e,d⟩,λA outer s H2 z vs Q E F=>c.2 A outer s H2 z vs Q E (h.trans F)⟩
section
variable {P:Aq}{w:Au}{H H':Hp}{h h':Heap}{cs:List Aw}
theorem wW(x:HOk P w H h)(z:∀c∈cs,∃o,H c=some (XY o)):HOk P w (hide cs H) h:=λa o e=>by
 obtain⟨_,F⟩:=of_hide e;refine(x a o F).stay (λ_ _ _ q=>q) (λd q=>?_) λd xs q=>?_
 .by_cases m:d∈cs
  .grind
  .rw[ZA m];exact q
 .by_cases m:d∈cs
  .grind
  .rw[ZA m];exact q
theorem Zdk(x:HOk P w H' h')(G:∀c∈cs,H' c=none)(F:∀c∈cs,∃o,H c=some (XY o)/\h'.get? c=some o):HOk P w (WC cs H H') h':=λa o e=>by
 by_cases m:a∈cs
 .rw[WZ m]at e;obtain⟨ob,z,g⟩:=F a m;rw[z]at e;cases e;exact qd g
 .rw[Yp m]at e;refine(x a o e).stay (λ_ _ _ q=>q) (λd q=>?_) λd xs q=>?_
  .by_cases m:d∈cs
   .rw[G d m]at q;cases q
   .rw[Yp m];exact q
  .by_cases m:d∈cs
   .rw[G d m]at q;cases q
   .rw[Yp m];exact q
end
structure Zoj(scope:Scope)(ps ys:Ai):Prop where
 kind:scope.kind=.function
 co:scope.isCoroutine=false
 gen:scope.isGenerator=false
 cell:∀y∈scope.names,y.2≠.cell
 par:∀p∈ps,scope.names.lookup p=some .local
 free:∀y∈ys,scope.names.lookup y=some .free
 nd:(ps++ys).Nodup
def cxL(P:Aq)(w:Au)(K:Af)(mg:Ae)(base:Heap)(N:Ai)(qual:Str)(scope:Scope)(f:Aw)(e:Av)(cl:List (Str×Aw))(A:Ar)(outer:List Env)(s:As)(H:Hp):Cx where
 prog:=P
 w:=w
 K:=K
 mg:=mg
 base:=base
 A:=A.deeper (PySem.W.envX qual scope s.heap.objs.size f e cl)
 N:=N
 s₀:=s
 H₀:=H
 env:=PySem.W.envX qual scope s.heap.objs.size f e cl
 outer:=outer
 stack:=PySem.W.envX qual scope s.heap.objs.size f e cl::outer
 ex:=[]
 calm:=true
 fn:=λ_=>false
 pn:=[]
 xe:=λ_ _=>False
def Zok(n:Nat)(te:TE)(cs:List Aw)(e:List (Option V)):Sp:=λvs H Q _=>vs.length=n/\te (vs.map some++e) (hide cs H) λv H'=>(∀c∈cs,H' c=none)->Q v (WC cs H H')
theorem jE{ps:Ai}(Ua:ps.Nodup){u:Av}(h1:ps[i]?=some x)(h2:G[i]?=some u)(Y:ps.length=G.length):(ps.zip G).reverse.lookup x=some u:=by
 have O:(x,u)∈ps.zip G:=by
  obtain⟨a1,e1⟩:=Qae.mp h1;obtain⟨a2,e2⟩:=Qae.mp h2;rw[<-e1,<-e2,<-Qg6 (h:=by grind)];exact Qbh _
 have J:((ps.zip G).map (·.1)).Nodup:=by
  rw[List.map_fst_zip (by lia)];exact Ua
 have z:((ps.zip G).reverse.map (·.1)).Nodup:=by
  grind
 have F:=List.mem_reverse.mpr O;generalize (ps.zip G).reverse=l at z F
 induction l with
 |nil=>cases F
 |cons p r Z=>
  obtain⟨n,v⟩:=p;rcases Qas.mp F with e|I
  .grind
  .grind
section
variable {P:Aq}{w:Au}{K:Af}{mg:Ae}{base:Heap}
theorem uc{A:Ar}{outer:List Env}{s':As}{H':Hp}{Q:VK}{v:V}{u:Av}(e0:Zkz P w K mg base A outer s H)(F:∀c∈J,∃o v,H c=some (XY o)/\o.data=.cell v/\s.heap.get? c=some o)
  (os:s'.os=s.os) (O:AllBare s'.gens) (b:Un (frs outer) [] (hide J H) H' s.heap s'.heap) (Y:HOk P w H' s'.heap) (rv:RelV v u) (q:(∀c∈J,H' c=none)->Q v (WC J H H')):CE outer P w H s Q u s':=by
 have G:∀c∈J,∃o,H c=some _:=λc m=>let⟨o,_,e,_⟩:=F c m;⟨o,e⟩;have Z:∀c∈J,c∉frs outer:=λc m z=>by
  obtain⟨o,e⟩:=G c m;rw[e0.frf c z]at e;cases e
 have Hn:∀c∈J,H' c=none:=λc m=>by
  obtain⟨o,v,e,d,g⟩:=F c m;exact b.free c o g (YJ m) (λz=>nomatch z)
 have hh:∀d,H d=none->hide J H d=none:=λd n=>by
  by_cases m:d∈J
  .exact YJ m
  .rw[ZA m];exact n
 have nm:∀d o,H d=some o->(∀ob,o≠XY ob)->d∉J:=λd o e ne m=>by
  grind
 refine⟨v,_,os,O,⟨λd o e n Ua I=>b.keep d o e (hh d n) Ua I,λd o e n Ua I=>b.slot d o e (hh d n) Ua I,λd o e n I=>?_,b.there,λd xs e=>?_,λd o u e=>?_,λd pz e=>?_⟩,Zdk Y Hn λc m=>?_,rv,q Hn⟩
 .by_cases m:d∈J
  .rw[WZ m];exact n
  .rw[Yp m];exact b.free d o e (hh d n) I
 .have m:=nm d _ e (λob z=>nomatch z);rw[Yp m];exact b.tups d xs (by rw[ZA m];exact e)
 .by_cases m:d∈J
  .rw[WZ m];exact e
  .rw[Yp m];exact b.frzs d o u (by rw[ZA m];exact e)
 .have m:=nm d _ e (λob z=>nomatch z);rw[Yp m];exact b.tbls d pz (by rw[ZA m];exact e)
 .obtain⟨o,v,e,d,g⟩:=F c m;exact⟨o,e,b.keep c o g (YJ m) (Z c m) (λz=>nomatch z)⟩
theorem vV{k:Nat}{name qual:Str}{params:Arguments}{body:Ax}{scope:Scope}{cl:List (Str×Aw)}{pm ctv:Av}{ps ys:Ai}{cv:List (Option V)}
  (S:Zoj scope ps ys) (hf:H f=some (XY (PySem.W.kla_obj name qual params body scope cl pm a ctv))) (hc:H a=some (XY Y)) (hoc:∃vs t,Y.data=.fields vs/\vs[1]?=some (.str qual t))
  (hcl:∀x c,cl.lookup x=some c->c∈J) (hcs:∀c∈J,∃o v,H c=some (XY o)/\o.data=.cell v)
  (inj:∀x y c,cl.lookup x=some c->cl.lookup y=some c->x=y) (has:∀x,scope.names.lookup x=some .free->∃c,cl.lookup x=some c)
  (hcv:cv.length=ys.length) (hval:∀(i:Nat)(y:Str)(v:V),ys[i]?=some y->cv[i]?=some (some v)->∃c o u,cl.lookup y=some c/\H c=some (XY o)/\o.data=.cell (some u)/\RelV v u)
  (hb:∀us:Ag,us.length=ps.length->bindArgs (PySem.W.kla_fn name qual params body scope cl pm (.ref a) ctv) ⟨us,[]⟩=pure (ps.zip us))
  (hbody:∀(A:Ar)(outer:List Env)(s:As)(H1:Hp),Wo k (A.deeper (PySem.W.envX qual scope s.heap.objs.size f (.ref a) cl))->PE (cxL P w K mg base (ps++ys) qual scope f (.ref a) cl A outer s H1) body Z):
  Xf P w K mg base (k+1) f H (Zok ps.length Z J cv):=by
 refine⟨⟨_,_,hf,U⟩,?_⟩;intro A outer s H1 us vs Q E fz hr F r ht;obtain⟨hl,ht⟩:=ht;have Ua:∀c∈J,∃o v,H1 c=some (XY o)/\o.data=.cell v/\s.heap.get? c=some o:=λc m=>by
  obtain⟨o,v,e,d⟩:=hcs c m;exact⟨o,v,fz _ _ _ e,d,(F.hok c _ (fz _ _ _ e)).1⟩
 obtain⟨vs0,t0,hd0,hv0⟩:=hoc;have lim:s.heap.NoLimit:=F.mod.nolimit.keeps λb o e=>(F.bs b o e).1;have lus:us.length=ps.length:=by rw[<-r.length];exact hl
 refine PySem.W.kla_callFunE hr.depth (F.hok f _ (fz _ _ _ hf)).1 rfl S.co S.gen U ⟨a,Y,vs0,t0,U,(F.hok a _ (fz _ _ _ hc)).1,hd0,hv0⟩ ?_;rw[hb us lus];refine Qaf (wpAny_newFunctionEnv S.cell (λx hx=>S.par _ (Qd7 hx).1) (λh₁ hns hsb=>⟨lim.fresh _ hsb,?_⟩) S.kind);have old:∀b o,s.heap.get? b=some o->h₁.get? b=some o:=λb o e=>hsb.extBut b o (Qa8 (Qao e)) (Qad _ e);have ndp:ps.Nodup:=(Qdu.mp S.nd).1;have I:Inv (cxL P w K mg base (ps++ys) qual scope f (.ref a) cl A outer s (hide J H1)) [] (vs.map some++cv) (hide J H1) {s with heap:=h₁,toks:=s.toks+(ps.zip us).length}:=by
  have noA:∀b:Aw,b∉([]:List Aw):=λb z=>nomatch z;refine⟨⟨F.mod,S.kind,U,U,Qaj _,inj,λy hy=>?_,(λy c h=>by cases h),λ_=>hr.hd,Qf3 F.frames,.inr ⟨U,U⟩,λb z=>absurd z (noA b),λb o e=>⟨(F.bs b o e).1,?_⟩,F.bsz,λb _ _=>noA b,λb z=>absurd z (noA b),F.funs,λb hb=>?_⟩,
   rfl,F.bare,Un.kept old,⟨_,hns,λi y v h1 h2 h3=>?_⟩,λy c h=>?_,?_,λy c h=>YJ (hcl y c h),λp hp=>absurd (show p∈([]:Ac)from hp) (by simp),(wW F.hok λc m=>let⟨o,_,e,_⟩:=Ua c m;⟨o,e⟩).kept old,?_⟩
  .rcases hy with hy|hy
   .exact absurd U (S.cell _ (Qci hy))
   .exact has y hy
  .by_cases m:b∈J
   .exact YJ m
   .exact(ZA m).trans (F.bs b o e).2
  .by_cases m:b∈J
   .exact YJ m
   .exact(ZA m).trans (F.frf b hb)
  .by_cases hi:i<vs.length
   .have ha:vs[i]?=some v:=by
     grind
    obtain⟨u,hu,rv⟩:=r.get ha;have G:(ps++ys)[i]?=some y:=h1;rw[Qbe (by lia)]at G;exact⟨u,rv,.inl ⟨S.par y (Qam G),jE ndp G hu lus.symm⟩⟩
   .rw[Qa1 (by simpa using hi),Qab]at h2;have G:(ps++ys)[i]?=some y:=h1;rw[Qa1 (by lia),<-hl]at G;obtain⟨c,o,u,e1,e2,e3,rv⟩:=hval _ y v G h2;refine⟨u,rv,.inr ⟨.inr (S.free y (Qam G)),c,e1,o,old _ _ (F.hok c _ (fz _ _ _ e2)).1,e3⟩⟩
  .obtain⟨o,v,_,d,g⟩:=Ua c (hcl y c h);exact⟨v,o,old _ _ g,d⟩
  .show hide J H1 s.heap.objs.size=none
   by_cases m:s.heap.objs.size∈J
   .exact YJ m
   .rw[ZA m];exact F.hok.fresh (Qaj _)
  .show(vs.map some++cv).length=(ps++ys).length;rw[Qar,Qar,Qab,hl,hcv]
 refine PySem.W.kla_codeExpr (Qcq (hbody A outer s (hide J H1) (hr.deeper _) [] _ _ _ _ I ht) (λu s' hs=>?_) λ_ _ z=>z.elim);obtain⟨v,H',O,rv,q⟩:=hs;exact uc F Ua O.os O.bare O.base O.hok rv q
end
def jF(oc:Obj)(qual:Str):Prop:=∃vs t,oc.data=.fields vs/\vs[1]?=some (.str qual t)
def ZF(H:Hp)(P:Aw)(pos:Pos)(qual:Str):Prop:=
 H P=some (.tbl #[])\/∃e oc,H P=some (.tbl #[rawInt pos.line,rawInt pos.col,.ref e])/\H e=some (XY oc)/\jF oc qual
def ZF.ex{P:Aw}{pos:Pos}{qual:Str}(h:ZF H P pos qual):∃ps,H P=some (.tbl ps):=by
 rcases h with h|⟨_,_,h,_⟩<;>exact⟨_,h⟩
structure yt(mg:Ae)(base:Heap):Prop where
 ex:∃bm ob,mg "__builtins__" = some (.ref bm)/\bm≠builtinsNs/\base.get? bm=some ob/\ob.cls=.type "module" /\ ob.dict=some builtinsNs/\ob.data=.plain
def tLam(P:Aw)(lpos:Pos)(qual:Str)(e:Aw->Value->Obj):TE:=λ_ H Q=>ZF H P lpos qual /\
 ∀(f F:Aw)(oc:Obj)(z:Av)(H2:Hp),H f=none->H2 f=some (XY (e F z))->H2 F=some (XY oc)->jF oc qual->ZF H2 P lpos qual->(∀b o,H b=some o->b≠P->H2 b=some o)->Q (.ref f) H2
def ud{X:Cx}{pins:Ac}{P:Aw}{lpos:Pos}{fo:Obj}{tk:Nat}(I:Inv X pins c H s)(J:H P=some (.tbl #[]))(hx:Heap.ExtBut P s.heap h)(G:s.heap.objs.size<=a)(hlt:a<h.objs.size)(hoc:h.get? a=some Y)
  (O:h.get? P=some (PySem.W.tabObj #[rawInt lpos.line,rawInt lpos.col,.ref a])) (hfo:fo.isFreed=false:=by rfl):Inv X pins c (upd (upd (upd H P (.tbl #[rawInt lpos.line,rawInt lpos.col,.ref a])) a (XY Y)) h.objs.size (XY fo)) {s with heap:=h.push fo,toks:=tk}:=by
 have Z:=I.hok.fresh G;have cP:a≠P:=λe=>by grind
 have I1:Inv X pins c (upd (upd H P (.tbl #[rawInt lpos.line,rawInt lpos.col,.ref a])) a (XY Y)) {s with heap:=h,toks:=tk}:=by
  refine I.un ⟨λb o e n _ _=>hx b o (λz=>by grind) e,λb o e n _ _=>⟨o.slots,hx b o (λz=>by grind) e⟩,λb o e n _=>?_,λb o e _=>?_,λb xs e=>?_,λb o u e=>?_,λb pz e=>?_⟩ λb u e=>?_
  .rw[Zj ((λe z=>absurd (Qao e) (by rw[z];exact Qg0.mpr G)) e),Zj (λz=>by grind)];exact n
  .by_cases F:b=P
   .rw[F];exact⟨_,O⟩
   .exact⟨o,hx b o F e⟩
  .rw[Zj (Zm e Z),Zj (YQ e J (λz=>nomatch z))];exact e
  .rw[Zj (Zm e Z),Zj (YQ e J (λz=>nomatch z))];exact e
  .by_cases F:b=P
   .subst F;rw[J]at e;cases e;exact⟨#[rawInt _,rawInt _,.ref a],by rw[Zj cP.symm,Za];rfl⟩
   .exact⟨#[],by rw[Zj (Zm e Z),Zj F,e];simp⟩
  .by_cases Ua:b=a
   .subst Ua;rw[Za]at e;cases e;exact qd hoc
   .rw[Zj Ua]at e
    by_cases F:b=P
    .subst F;rw[Za]at e;cases e;exact O
    .rw[Zj F]at e;refine(I.hok b u e).stay (λd v hd q=>hx d v ?_ q) (λd q=>?_) λd xs q=>?_
     .grind
     .rw[Zj (Zm q Z),Zj (YQ q J (λz=>nomatch z))];exact q
     .rw[Zj (Zm q Z),Zj (YQ q J (λz=>nomatch z))];exact q
 exact I1.laid (λb u e=>Qad _ e) (Qaj _) (qd (Qak _ hfo))
section
variable {X:Cx}{params:Arguments}{body:Ax}{scope:Scope}{lpos:Pos}{c P:Aw}{qual:Str}
abbrev vW (X:Cx) (qual:Str) (params:Arguments) (body:Ax) (scope:Scope):Aw->Value->Obj:=λz e=>PySem.W.kla_obj "<lambda>" qual params body scope (j6 X.env.cells scope.names []) ((X.mg "__name__").getD .none) z e
def Zdl (G:X.env.code=.ref c) (C:PySem.W.CodeHd X.base c P) (B:yt X.mg X.base) (hdef:defaultsOf params X.env=([],[])) (hq:X.env.qual ++ "<lambda>" = qual)
  (Y:∀y∈scope.names,y.2=.free->X.env.scope.names.lookup y.1=some .cell):
  PE X (.Lambda params body scope lpos) (tLam P lpos qual (vW X qual params body scope)):=by
 intro pins s σ H Q I hw;obtain⟨J,hq2⟩:=hw;refine PySem.W.kla_eval hdef ?_;rw[hq];have hcl:=Jv λy hy h=>I.ok.has y.1 (.inl (Y y hy h));have hg:=I.mod.glob.keeps I.bk;obtain⟨pz,hPs⟩:=J.ex;have Z:X.base.get? P=none:=by
  cases e:X.base.get? P with
  |none=>rfl
  |some o=>rw[(I.bs P o e).2]at hPs;cases hPs
 have hgP:mainGlobals≠P:=λe=>by
  obtain⟨o,es,ep,g,_⟩:=I.mod.glob;rw[e,Z]at g;cases g
 have hb:s.heap.BuiltinsAt X.mg P:=by
  obtain⟨bm,ob,b1,b2,b3,b4,b5,b6⟩:=B.ex;refine⟨bm,ob,b1,b2,λe=>?_,(λe=>by grind),I.bk _ _ b3,b4,b5,b6⟩;obtain⟨o,es,ep,g,hd,_⟩:=I.mod.glob;rw[<-e,b3]at g;cases g;rw[b6]at hd;cases hd
 rcases J with J|⟨z,oc,J,hc',O⟩
 .have hP:=I.hok P _ J;refine PySem.W.kla_makeFunction (mg:=X.mg) (ps:=#[]) hcl I.ok.glob hg G (C.keeps I.bk) hP trivial U hgP hb λz F h' tk hx Ua hlt hrec htb=>?_;obtain⟨c₂,oc,vs,t,e2,O,hd,hv⟩:=hrec;cases e2;have cn:H z=none:=I.hok.fresh Ua;have cP:z≠P:=λe=>by grind
  have hsz:=Qa9 Ua (Qaw hlt);have I2:=ud (lpos:=lpos) (fo:=vW X qual params body scope z F) (tk:=tk) I J hx Ua hlt O htb;have fn:=I.hok.fresh hsz;have fc:=Qa8 hlt;refine⟨.ref h'.objs.size,_,I2,U,hq2 _ z oc F _ fn Za ?_ ⟨vs,t,hd,hv⟩ (.inr ⟨z,oc,?_,?_,⟨vs,t,hd,hv⟩⟩) λb o e hbP=>?_⟩
  .rw[Zj fc];exact Za
  .rw[Zj (Zm J fn),Zj cP.symm];exact Za
  .rw[Zj fc];exact Za
  .rw[Zj (Zm e fn),Zj (Zm e cn),Zj hbP];exact e
 .have hP:=I.hok P _ J;have hf:codeAmong lpos (#[rawInt lpos.line,rawInt lpos.col,.ref z]:Ah).toList=some (.ref z):=by
   show(if((lpos.line:Int) == lpos.line&&(lpos.col:Int) == lpos.col)=true then some (Value.ref z)else _)=_;rw[Qcw,Qcw];rfl
  refine PySem.W.kla_makeFunctionHit (mg:=X.mg) hcl I.ok.glob hg G (C.keeps I.bk) hP trivial hf hb λF h' tk hk hsz=>?_;have I2:=I.laid (t':=tk) (o:=XY (vW X qual params body scope z F)) (λb u e=>Qad _ (hk b u e)) hsz (qd (Qak _ U));have fn:=I.hok.fresh hsz;have sm:∀b o,H b=some o->upd H h'.objs.size (XY (vW X qual params body scope z F)) b=some o:=λb o e=>by rw[Zj (Zm e fn)];exact e
  exact⟨.ref h'.objs.size,_,I2,U,hq2 _ z oc F _ fn Za (sm _ _ hc') O (.inr ⟨z,oc,sm _ _ J,sm _ _ hc',O⟩) λb o e _=>sm b o e⟩
end
def cellsOf(cells:List (Str×Aw)):List Aw:=(cells.map (·.1)).filterMap λx=>cells.lookup x
def YX{cells:List (Str×Aw)}{c:Aw}:c∈cellsOf cells↔∃x,cells.lookup x=some c:=by
 unfold cellsOf;rw[Qfc];constructor
 .grind
 .rintro⟨x,h⟩;exact⟨x,Qau.mpr ⟨(x,c),Qci h,U⟩,h⟩
def Zdm(X:Cx)(s:As)(H:Hp):Hp:=λb=>if b∈cellsOf X.env.cells then(s.heap.get? b).map XY else H b
section
variable {X:Cx}{pins:Ac}{σ:St}{H:Hp}{s:As}
theorem yu(I:Inv X pins σ H s):∀d∈cellsOf X.env.cells,∃o v,Zdm X s H d=some (XY o)/\o.data=.cell v/\s.heap.get? d=some o:=λd m=>by
 obtain⟨y,z⟩:=YX.mp m;obtain⟨v,o,e,F⟩:=I.cell y d z;exact⟨o,v,by unfold Zdm;rw[Qa2 m,e];rfl,F,e⟩
def Gz{d:Aw}(m:d∉cellsOf X.env.cells):Zdm X s H d=H d:=Qax m
def Wb(I:Inv X pins σ H s):∀d∈cellsOf X.env.cells,H d=none:=λd m=>let⟨y,hy⟩:=YX.mp m;I.freeC y d hy
theorem xt(I:Inv X pins σ H s):∀b o,H b=some o->Zdm X s H b=some o:=λb o e=>by
 rw[Gz λm=>by rw[Wb I b m]at e;cases e];exact e
def xU{k:Nat}{g:Aw}{gd:Ao}{sp:Sp}{Q:VK}{vs:A2}(F:xB X.prog X.w X.K X.mg X.base CX0 k g gd N sp)(hr:Wo k X.A)(Z:Binds X.K gd N [])(hfn:X.fn=λ_=>true)
  (I:Inv X pins σ H s) (rv:Vals vs G) (hsp:sp vs (Zdm X s H) (λv H3=>Q v (hide (cellsOf X.env.cells) H3)) E0):A4 X (call (.ref g) G) (EP X pins σ Q) X.xe s:=by
 have hcs:=yu I;have hn:=Wb I;have O:=xt I;have nloc:∀d∈cellsOf _,d≠X.env.locals:=λd m e=>by
  obtain⟨o,v,_,hd,g⟩:=hcs d m;obtain⟨m',⟨o',es,ep,g',hd',_⟩,_⟩:=I.loc;rw[e,g']at g;cases g;rw[hd']at hd;cases hd
 have Ua:∀d∈cellsOf _,X.s₀.heap.objs.size<=d:=λd m=>by
  obtain⟨y,hy⟩:=YX.mp m;exact I.ok.cab y d (by rw[hfn]) hy
 have nfr:∀d∈cellsOf _,d∉frs X.stack:=λd m z=>by
  rcases Qas.mp (I.stkSub d z)with e|e
  .exact nloc d m e
  .obtain⟨_,o,g,_⟩:=I.ok.funs.mem e;exact absurd (Qao g) (Qg0.mpr (Ua d m))
 have hok3:HOk X.prog X.w (Zdm X s H) s.heap:=λb o e=>by
  by_cases m:b∈cellsOf X.env.cells
  .obtain⟨ob,v,e',hd,g⟩:=hcs b m;rw[e']at e;cases e;exact qd g
  .rw[Gz m]at e;exact(I.hok b o e).stay (λ_ _ _ q=>q) (λd q=>O _ _ q) λd xs q=>O _ _ q
 have e0:Zkz X.prog X.w X.K X.mg X.base X.A X.stack s (Zdm X s H):=by
  have z:=I.env0;refine⟨z.frames,z.mod,λb o e=>⟨(z.bs b o e).1,?_⟩,z.bsz,z.funs,λb Z=>?_,hok3,z.bare⟩
  .rw[Gz λm=>absurd (Qao e) (Qg0.mpr (Qa9 I.ok.bsz (Ua b m)))];exact(z.bs b o e).2
  .rw[Gz λm=>nfr b m Z];exact z.frf b Z
 refine Qgh (Qeg (F.run X.A X.stack s _ _ G vs _ _ hr e0 (by simpa using Z s G I.kIn (by rw[Qbp,<-rv.length];exact F.len _ _ _ _ hsp)) rv hsp) λr s' hq=>?_);cases r with
 |error e=>exact hq.elim
 |ok fl=>
  cases fl with
  |next=>exact False.elim hq
  |brk=>exact False.elim hq
  |cont=>exact False.elim hq
  |ret uu=>
   obtain⟨v,H4,os,bare,un,hok4,rv4,q4⟩:=hq;have Y:∀d∈cellsOf _,∃o,H4 d=some (XY o)/\s.heap.get? d=some o/\s'.heap.get? d=some o:=λd m=>by
    obtain⟨o,v,e,hd,g⟩:=hcs d m;have e4:=un.frzs d o _ e;exact⟨o,e4,g,(hok4 d _ e4).1⟩
   have J:∀d,H d=none->d∉cellsOf _->Zdm X s H d=none:=λd n m=>by rw[Gz m];exact n
   have nm:∀d o,H d=some o->d∉cellsOf X.env.cells:=λd o e m=>by grind
   refine⟨v,_,I.call' os ⟨λd o e n Z hx=>?_,λd o e n Z hx=>?_,λd o e n hx=>?_,λd o e hx=>un.there d o e hx,λd xs e=>?_,λd o u e=>?_,λd pz e=>?_⟩ (wW hok4 λd m=>let⟨o,e,_⟩:=Y d m;⟨o,e⟩) bare (λ_ z=>nomatch z),rv4,q4⟩
   .by_cases m:d∈cellsOf X.env.cells
    .obtain⟨o',_,g,g'⟩:=Y d m;rw[e]at g;cases g;exact g'
    .exact un.keep d o e (J d n m) Z hx
   .by_cases m:d∈cellsOf X.env.cells
    .obtain⟨o',_,g,g'⟩:=Y d m;rw[e]at g;cases g;exact⟨o.slots,g'⟩
    .exact un.slot d o e (J d n m) Z hx
   .by_cases m:d∈cellsOf X.env.cells
    .exact YJ m
    .rw[ZA m];exact un.free d o e (J d n m) hx
   .rw[ZA (nm d _ e)];exact un.tups d xs (O _ _ e)
   .rw[ZA (nm d _ e)];exact un.frzs d o u (O _ _ e)
   .rw[ZA (nm d _ e)];exact un.tbls d pz (O _ _ e)
def vX{scope:Scope}{ys:Ai}{is:Aj}{N0:Ai}(I:Inv X pins σ H s)(F:∀y∈scope.names,y.2=.free->X.env.scope.names.lookup y.1=some .cell)(G:∀y∈ys,scope.names.lookup y=some .free)(hN:∀q∈ys.zip is,X.N[q.2]?=some q.1)(Z:ys.length=is.length):
  ∀(i:Nat)(y:Str)(v:V),ys[i]?=some y->(is.map λi=>(σ[i]?).getD none)[i]?=some (some v)->∃c o u,(j6 X.env.cells scope.names []).lookup y=some c/\Zdm X s H c=some (XY o)/\o.data=.cell (some u)/\RelV v u:=by
 intro i y v h1 h2;have hcl:∀y d,(j6 _ _ []).lookup y=some d->X.env.cells.lookup y=some d:=
  Gm (λy hy h=>I.ok.has y.1 (.inl (F y hy h))) λ_ _ z=>by cases z
 rw[Qag]at h2;cases hj:is[i]? with
 |none=>rw[hj]at h2;cases h2
 |some j=>
  have J:σ[j]?=some (some v):=by
   grind
  have hz:(y,j)∈ys.zip is:=by
   obtain⟨a1,e1⟩:=Qae.mp h1;obtain⟨a2,e2⟩:=Qae.mp hj;rw[<-e1,<-e2,<-Qg6 (h:=by grind)];exact Qbh _
  have Ua:=G y (Qam h1);have kc:X.env.kindOf y=some .cell:=F _ (gR Ua) rfl;obtain⟨m,hm',hl⟩:=I.loc;obtain⟨u,r,l⟩:=hl j y v (hN _ hz) J (.inr (.inl kc));rcases l with⟨Y,_⟩|⟨_,d,l2,l3⟩
  .rw[kc]at Y;cases Y
  .obtain⟨d',O⟩:=Jw (cells:=X.env.cells) (acc:=[]) Ua;have e:d'=d:=by grind
   subst e;obtain⟨o,ho,hd⟩:=l3;obtain⟨o',v',e',_,g'⟩:=yu I d' (YX.mpr ⟨y,l2⟩);rw[ho]at g';cases g';exact⟨d',o,u,O,e',hd,r⟩
def Zls{P:Aw}{lpos:Pos}{qual:Str}(I:Inv X pins σ H s)(T:ZF H P lpos qual)(Ua:ZG (Zdm X s H) g):ZF (hide (cellsOf X.env.cells) g) P lpos qual:=by
 have F:∀b o,H b=some o->hide _ g b=some o:=λb o e=>by
  rw[ZA (λm=>by rw[Wb I b m]at e;cases e)];exact Ua _ _ (xt I _ _ e)
 rcases T with z|⟨Z,G,Y,O,J⟩
 .exact .inl (F _ _ z)
 .exact .inr ⟨Z,G,F _ _ Y,F _ _ O,J⟩
end
structure Zol(S0 scope:Scope)(N0 ps ys:Ai)(is:Aj):Prop where
 sc:Zoj scope ps ys
 free:∀y∈scope.names,y.2=.free->S0.names.lookup y.1=some .cell
 vis:∀q∈ys.zip is,N0[q.2]?=some q.1
 len:ys.length=is.length
section
variable {X:Cx}{params:Arguments}{body a:Ax}{scope:Scope}{lpos p pos:Pos}{c P g:Aw}{qual x:Str}{k kl:Nat}{gd:Ao}{pg ps ys:Ai}{is:Aj}{sp:Sp}{ta te:TE}
def G1{H1:Hp}{b:Aw}{u:HO}(z:∀c∈J,∃o,H c=some (XY o))(s:ZG H H1)(h:H1 b=some u)(F:∀o,u≠XY o):hide J H1 b=some u:=by
 rw[ZA λm=>?_]
 .exact h
 .obtain⟨o,e⟩:=z b m;rw[s _ _ e]at h;exact F o (Option.some.inj h).symm
def ZF.other{H':Hp}{P:Aw}{pos:Pos}{qual:Str}(h:ZF H P pos qual)(F:P≠f)(G:∃ps,H f=some (.tbl ps))(s:∀b o,H b=some o->b≠f->H' b=some o):ZF H' P pos qual:=by
 rcases h with h|⟨c,oc,h1,h2,I⟩
 .exact .inl (s _ _ h F)
 .obtain⟨ps,e⟩:=G;exact .inr ⟨c,oc,s _ _ h1 F,s _ _ h2 (YQ h2 e (λz=>nomatch z)),I⟩
def ZF.same{H':Hp}{P:Aw}{pos:Pos}{qual:Str}(h:ZF H P pos qual)(s:ZG H H'):ZF H' P pos qual:=by
 rcases h with h|⟨c,oc,h1,h2,e⟩
 .exact .inl (s _ _ h)
 .exact .inr ⟨c,oc,s _ _ h1,s _ _ h2,e⟩
def tCallV(e:Aq)(w:Au)(K:Af)(mg:Ae)(base:Heap)(k:Nat)(i:Nat)(t:TA):TE:=λσ H Q=>∃(f:Aw)(τ:Sp),σ[i]?=some (some (.ref f))/\Xf e w K mg base k f H τ /\
 t σ H λvs H1=>qf H H1/\τ vs H1 Q E0
theorem Zdn{P:Aq}{mg:Ae}{base:Heap}{k:Nat}{H1:Hp}{τ:Sp}(c:Xf P w K mg base k f H τ)(F:qf H H1)(z:HOk P w H1 h):PySem.W.FnAt f h:=by
 obtain⟨o,fd,e,d⟩:=c.1;have g:=(z f _ (F _ _ _ e)).1;obtain⟨oc,od,I,G⟩:=o;cases d;exact⟨oc,od,fd,G,g⟩
def Zhf(i:Nat){t:TA}(hr:Wo k X.A)(ha:QA X (e::C) t)(hN:X.N[i]?=some x:=by rfl)(hv:Vis X.env.scope x:=by first|exact Or.inl U|exact Or.inr (Or.inl U)|exact Or.inr (Or.inr U))
  (hdb:(x == ("__debug__" : Str))=false:=by decide) (J:(x == ("__classdict__" : Str))=false:=by decide) (he:starEach (e::C) X.env=(false,eval e X.env)::starEach C X.env:=by rfl) (Z:(backTo pos (starEach C X.env)).any (·.1)=false:=by rfl):
  QE X (.Call (.Name x p) (e::C) [] pos) (tCallV X.prog X.w X.K X.mg X.base k i t):=by
 refine⟨?_⟩;intro pins s σ H Q I hw;obtain⟨f,τ,G,Y,ht⟩:=hw;refine Qc2 (thn (Zi6 hN hv hdb J pins s σ H (λv H'=>v=.ref f/\H'=H) I ⟨.ref f,G,U,U⟩) λu s1 ⟨v,H',I1,r,F,hH⟩=>?_);subst F;subst hH;cases r;refine PySem.W.callWith_F (Zdn Y (qf.refl _) I1.hok) (thn (ha.out pos pins s1 σ H' _ I1 ht) λus s2 ⟨vs,H1,O,rv,fz,Ua⟩=>⟨Zdn Y fz O.hok,(Qgh (Qeg (Y.2 X.A X.stack s2 H1 us vs Q E0 fz hr O.env0 rv Ua) λr s' z=>?_))⟩) he Z;cases r with
 |error e=>exact z.elim
 |ok fl=>
  cases fl with
  |ret u=>exact O.after z
  |next=>exact False.elim z
  |brk=>exact False.elim z
  |cont=>exact False.elim z
end
theorem Zdo{mg mb:Ae}{CX:CXT}{k:Nat}{fd:Ao}{sp:Sp}{G:As}{vs:Ag}{ns:Ak}{I:List (Aw×Aw)}
  (KX:K.In G.heap) (hns:G.heap.Ns mainGlobals mg) (hb:G.heap.Ns builtinsNs mb) (hbb:∀x:Str,x ≠ "__name__" ->mb x=bootBuiltins x) (hlim:G.heap.NoLimit) (hg:G.gens=#[])
  (ha:G.heap.get? a=some {cls:=.type "list",data:=.seq vs.toArray}) (hi:IntsAre vs ns) (hl:ns.length<=sizeLine) (hr:Wo k callerA)
  (hT:PySem.W.TabsAt I G.heap) (hKt:PySem.W.noTabs K=true) (hbm:yt mg G.heap)
  (F:∀base:Heap,K.In base->base.Ns mainGlobals mg->(∀q∈I,PySem.W.CodeHd base q.1 q.2)->yt mg base->xB P w K mg base CX k f fd [x] sp) (hbind:∀(s:As)(u:Av),BindsTo s fd ⟨[u],[]⟩ [(x,u)])
  (hsp:∀H:Hp,(∀q∈I,H q.2=some (.tbl #[]))->SqL K H a (ns.map V.int)->sp [.ref a] H (λv _=>v=.bl true) λ_ _ _=>False)
  (hCX:∀H e s',CX [] H G (λ_ _ _=>False) e s'->False):
  codeAny (model P w) callerA (.call (.ref f) ⟨[.ref a],[]⟩) (λr s'=>r=.ok (.ret (.bool true))/\OldK G.heap s'.heap/\s'.os=G.os/\AllBare s'.gens) G:=by
 have rv:=vC hi;have lenV:=hi.length;have J:∀b,b∈I.map (·.2)->G.heap.get? b=some (PySem.W.tabObj #[]):=λb m=>by
  obtain⟨q,Ua,rfl⟩:=Qau.mp m;exact(hT q Ua).2
 have aT:a∉I.map (·.2):=λm=>by
  have e:=J a m;rw[ha]at e;cases e
 have core:∀H:Hp,(∀q∈I,H q.2=some (.tbl #[]))->(∀b,H b=none\/(b=a/\∃o xs,H b=some (.frz o (.lst xs)))\/(b∈I.map (·.2)/\H b=some (.tbl #[])))->SqL K H a (ns.map V.int)->HOk P w H G.heap->(H a≠none->K.lookup a=none)->
   codeAny (model P w) callerA (.call (.ref f) ⟨[.ref a],[]⟩) (λr s'=>r=.ok (.ret (.bool true))/\OldK G.heap s'.heap/\s'.os=G.os/\AllBare s'.gens) G:=by
  intro H hTb hO hS hok hK;have O:∀{b:Aw} {o:Obj},G.heap.get? b=some o->H b=none->(Zgj G.heap H).get? b=some o:=λe n=>Zgs e n;have noA:∀{b:Aw} {o:Obj},G.heap.get? b=some o->(∀its n,o.data≠.seq its n)->o.cls≠.none->H b=none:=λ{b o} e d1 d2=>by
   rcases hO b with z|⟨rfl,_⟩|⟨m,_⟩
   .exact z
   .rw[ha]at e;cases e;exact absurd U (d1 _ _)
   .rw[J b m]at e;cases e;exact absurd U d2
  have Y:∀{b:Aw} {m:Ae},G.heap.Ns b m->(Zgj G.heap H).Ns b m:=λ{b m} ⟨o,es,ep,e,d,r⟩=>⟨o,es,ep,O e (by
   grind),d,r⟩
  have hKb:K.In (Zgj G.heap H):=λb o e=>O (KX b o e) (by
   rcases hO b with z|⟨rfl,ob,xs,z⟩|⟨m,_⟩
   .exact z
   .rw[hK (by rw[z];simp)]at e;cases e
   .have g:=KX b o e;rw[J b m]at g;cases g;have h2:=Qcp.mp hKt (b,_) (PySem.W.mem_of_lookupK e);exact absurd (show false=true from h2) Qbc)
  have hM:Mod K mg (Zgj G.heap H):=⟨hKb,Y hns,⟨mb,Y hb,hbb⟩,let⟨mc,h1,h2⟩:=hlim;⟨mc,Y h1,h2⟩⟩;have hB:yt mg (Zgj G.heap H):=by
   obtain⟨bm,ob,b1,b2,b3,b4,b5,b6⟩:=hbm.ex;exact⟨bm,ob,b1,b2,O b3 (noA b3 (λits n z=>by rw[b6]at z;cases z) (λz=>by rw[b4]at z;cases z)),b4,b5,b6⟩
  have hC:∀q∈I,PySem.W.CodeHd (Zgj G.heap H) q.1 q.2:=λq Ua=>by
   obtain⟨o,vs',file,tf,flags,tg,inF,text,tt,e1,r1,r2,r3⟩:=(hT q Ua).1;exact⟨o,vs',file,tf,flags,tg,inF,text,tt,O e1 (noA e1 (λits n z=>by rw[r2]at z;cases z) (λz=>by rw[r1]at z;cases z)),r1,r2,r3⟩
  have e0:Zkz P w K mg (Zgj G.heap H) callerA [] G H:=⟨U,hM,λb o e=>Zkw e,Qg9 (PySem.W.hideAll_size _ _),trivial,λb hb=>absurd (show b∈([]:List Aw)from hb) (by simp),hok,.of_eq hg⟩;refine Qeg ((F _ hKb (Y hns) hC hB).run callerA [] G H ⟨[.ref a],[]⟩ [.ref a] [.ref a] _ _ hr e0 (hbind G (.ref a)) (.cons U .nil) (hsp H hTb hS)) λr s' h=>?_;cases r with
  |error e=>exact(hCX H e s' h).elim
  |ok fl=>
   cases fl with
   |next=>exact False.elim h
   |brk=>exact False.elim h
   |cont=>exact False.elim h
   |ret u=>
    obtain⟨v,H',os,bare,un,hok',r',q⟩:=h;have q':v=.bl true:=q;subst q';obtain rfl:u=Value.bool true:=r';have all:∀b o,G.heap.get? b=some o->s'.heap.get? b=some o\/∃more,b∈I.map (·.2)/\o=PySem.W.tabObj #[]/\s'.heap.get? b=some (PySem.W.tabObj (#[]++more)):=λb o e=>by
     rcases hO b with z|⟨_,ob,xs,z⟩|⟨m,z⟩
     .exact .inl (un.keep b o e z (by intro z;exact absurd (show b∈([]:List Aw)from z) (by simp)) (by simp))
     .have z2:=un.frzs b ob _ z;obtain⟨e1,_⟩:=hok b _ z;obtain⟨e2,_⟩:=hok' b _ z2;rw[e]at e1;cases e1;exact .inl e2
     .obtain⟨more,z2⟩:=un.tbls b _ z;rw[J b m]at e;cases e;exact .inr ⟨more,m,U,hok' b _ z2⟩
    refine⟨U,⟨λb o e=>?_,λb o e=>?_⟩,os,bare⟩
    .rcases all b o e with z|⟨more,m,rfl,z⟩
     .exact .inl z
     .obtain⟨q,Ua,rfl⟩:=Qau.mp m;exact .inr (.inl ⟨((hT q Ua).1.tab (hT q Ua).2).isCodeTable,U,#[],more,U,z⟩)
    .rcases all b o e with z|⟨more,_,_,z⟩
     .exact⟨_,z⟩
     .exact⟨_,z⟩
 have tm:∀q∈I,q.2∈I.map (·.2):=λq Ua=>Qb9 Ua;cases hk:K.lookup a with
 |some o=>
  have e:=KX a o hk;rw[ha]at e;cases e;refine core (λb=>if b∈I.map (·.2)then some (.tbl #[])else none) (λq Ua=>Qa2 (tm q Ua)) (λb=>?_) (.inr ⟨_,vs.toArray,_,hk,U,U,U,by rw[Qcc,lenV];exact hl,by simpa using rv⟩) (λb u z=>?_) (λz=>absurd (Qax aT) z)
  .by_cases m:b∈I.map (·.2)
   .exact .inr (.inr ⟨m,Qa2 m⟩)
   .exact .inl (Qax m)
  .by_cases m:b∈I.map (·.2)
   .have Z:=(Qa2 m).symm.trans z;cases Z;exact J b m
   .have Z:=(Qax m).symm.trans z;cases Z
 |none=>
  refine core (λb=>if b∈I.map (·.2)then some (.tbl #[])else if b=a then some (.frz {cls:=.type "list",data:=.seq vs.toArray} (.lst (ns.map V.int)))else none) (λq Ua=>Qa2 (tm q Ua)) (λb=>?_) (.inl (.inr ⟨{cls:=.type "list",data:=.seq vs.toArray},(Qax aT).trans (Qa2 U)⟩)) (λb u z=>?_) λ_=>hk
  .grind
  .by_cases m:b∈I.map (·.2)
   .have Z:=(Qa2 m).symm.trans z;cases Z;exact J b m
   .by_cases hb:b=a
    .have Z:=((Qax m).trans (Qa2 hb)).symm.trans z;cases Z;subst hb;exact⟨ha,by rw[Qab];exact hl,vs,_,rv,ha⟩
    .have Z:=((Qax m).trans (Qax hb)).symm.trans z;cases Z
def walk_ofT{l:PySem.W.OpenLaw}{k:Nat}{q:Aq}{XP:(Ae)->Heap->Prop}{YP:Au->Heap->Prop}{d:DefRec}{K:Params->PySem.W.Frag}{CX:Au->CXT}{sp:Au->Sp}{z:List (Aw×Aw)}
  (hn:l.most=some n) (hn2:n<=sizeLine) (hdf:d.params.defaults=[]) (hr:Wo k callerA)
  (hY:∀(w:Au)(h:Heap),YP w h->(K w.params).In h)
  (Z:∀(w:Au)(Ua:ExcName->Option Av)(mg mb:Ae)(h:Heap),Top q (PySem.W.looseW q N) Ua mg mb h->(K w.params).In h->PySem.W.TabsAt z h) (hKt:∀w:Au,PySem.W.noTabs (K w.params)=true)
  (F:∀(w:Au)(mg:Ae)(fa:Aw)(h:Heap),(K w.params).In h->h.Ns mainGlobals mg->mg d.name=some (.ref fa)->
   ∃fd:Ao,(∀(s:As)(u:Av),BindsTo s fd ⟨[u],[]⟩ [(x,u)]) /\
    ∀base:Heap,(K w.params).In base->base.Ns mainGlobals mg->(∀q∈z,PySem.W.CodeHd base q.1 q.2)->yt mg base->xB l.prog w (K w.params) mg base (CX w) k fa fd [x] (sp w))
  (hsp:∀(w:Au)(H:Hp)(a:Aw)(ns:Ak),ns.length<=n->(∀q∈z,H q.2=some (.tbl #[]))->SqL (K w.params) H a (ns.map V.int)->sp w [.ref a] H (λv _=>v=.bl true) λ_ _ _=>False)
  (hCX:∀(w:Au)(H:Hp)(s:As)(e:Av)(s':As),CX w [] H s (λ_ _ _=>False) e s'->False):
  PySem.W.WalkO q N XP YP l.row.toRowW d [] (λf vs=>PySem.call f vs):=by
 refine Att.attach_call hn hdf λw s₀ s₁ mg mb fa o pm cd doc a vs ns G Y ho hd hcd hmg O J I hg=>?_;have KX:=hY w _ Y;obtain⟨fd,hb,hF⟩:=F w mg fa _ KX G.T.g hmg;exact Zdo KX G.T.g G.T.b G.T.builtins G.T.nolimit hg O J (Qa9 I hn2) hr (Z w _ mg mb _ G.T KX) (hKt w) ⟨G.T.bmain⟩ hF hb (λH hTb hS=>hsp w H a ns I hTb hS) λH e s'=>hCX w H s₁ e s'
theorem Fun.okC{mg:Ae}{base:Heap}{qual:Str}{st:Ay}{fd:Ao}{ps:Ai}{k:Nat}{sp:Sp}(F:Fun K x qual st f fd)(S:Zt N ps (Zh st))(len:∀vs H Q E,sp vs H Q E->vs.length=ps.length)
  (e:∀(A:Ar)(outer:List Env)(s:As)(H:Hp)(vs:A2)(Q:VK)(E:XK),Wo k (A.deeper (envOfC qual (Zh st) s.heap.objs.size f fd.code))->sp vs H Q E->
   ∃t,PSs (Zce CX0 P w K mg base N qual (Zh st) f fd.code A outer s H E).nox (YW st) t/\t {nx:=λ_ H'=>Q .non H',rt:=Q} (start N vs) H):xB P w K mg base CX0 (k+1) f fd ps sp:=by
 obtain⟨oc,od,kV,I,Z,an,O,ct,Y,rfl,Ua,G⟩:=F.ex;refine Zk1 Ua G S len λA outer s H vs Q E J z=>?_;obtain⟨t,h,q⟩:=e A outer s H vs Q E J z;exact⟨t,h.nox,q⟩
def Zhg{x:V}(r:Vals [x,y] G):∃a b,G=[a,b]/\RelV x a/\RelV y b:=by
 cases r with
 |cons h1 t=>
  cases t with
  |cons h2 t=>
   cases t;exact⟨_,_,U,h1,h2⟩
structure QPs(X:Cx)(pos:Pos)(keys:List (Option Ax))(values:An)(trs:List (TE×TE)):Prop where
 out:PPs X pos keys values trs
def Zdp{pos:Pos}:QPs X pos [] [] []:=⟨λpins s σ H Q I h=>pairTrees_nil_walk ⟨[],H,I,.nil,h⟩⟩
theorem ue{pos:Pos}{k v:Ax}{ks:List (Option Ax)}{vs:An}{tk:TE}{e:List (TE×TE)}(F:QE X k tk)(Ua:QE X v d)(hr:QPs X pos ks vs e):QPs X pos (some k::ks) (v::vs) ((tk,d)::e):=⟨λpins s σ H Q I h=>
 pairTrees_cons_walk (thn (F.out pins s σ H _ I h) λu s1 ⟨x,H1,G,Z,O⟩=>thn (Ua.out pins s1 σ H1 _ G O) λw2 s2 ⟨y,H2,J,ry,q2⟩=>
  thn (hr.out pins s2 σ H2 _ J q2) λws s3 ⟨ps,H3,I3,z,Y⟩=>⟨_,H3,I3,.cons ⟨Z,ry⟩ z,Y⟩)⟩
def Zdq{pos:Pos}{keys:List (Option Ax)}{F:List (TE×TE)}(h:QPs X pos keys C F)(G:keys.all (·.isSome)=true)(hl:keys.length=C.length)(h0:keys≠[])(O:keys.length<=15):QE X (.Dict keys C pos) (tDisp F):=⟨by
 intro pins s σ H Q I q;refine wpAny_Dict_walk (knd:=ZT X.prog X.w) G hl h0 O (thn (h.out pins _ σ _ _ (I.laid (λ_ _ q=>Qad _ q) (Qaj _) (ym s.heap I.big)) (q _ (I.hok.fresh (Qaj _)))) λws s2 ⟨ps,H2,Ua,J,e,kvs,ep,lk,q2⟩=>?_);subst ep;obtain⟨rs,c,rk⟩:=jA J;obtain⟨z,Y,Z,r0,dd⟩:=Zli Ua.hok e;cases r0;refine⟨rs,c,dd,λh' dd' hs=>⟨.ref _,_,?_,U,q2⟩⟩;have hz:(Gr [] kvs).length<=sizeLine:=by
  have h1:=Gs kvs [];rw[Qeu]at h1;rw[Qer];lia
 exact yl Ua (by rw[e];exact True.intro) hs (let⟨q,_,_,hq,_⟩:=dd';⟨q,hq⟩) (Zc5 hz Y (rk.merge .nil) dd')⟩
end L2
namespace ZpT
def zO (e:Av) (b:Bool) (TI TO:Aw):Obj:={cls:=.type "zip",dict:=none,data:=.fields #[e,.bool b,.bool false,.ref TI,.ref TO],slots:=#[]}
def F0(e:Av):Prop:=e=.none\/∃T:Aw,e=rawInt T
structure Ap(z TI TO i1 i2:Aw):Prop where
 TIz:TI≠z
 TOz:TO≠z
 i1z:i1≠z
 i2z:i2≠z
 TITO:TI≠TO
 TIi1:TI≠i1
 TIi2:TI≠i2
 TOi1:TO≠i1
 TOi2:TO≠i2
 i12:i1≠i2
section
variable {prog:Aq}{w:Au}{A:Ar}{E:Ab}{s:As}
def alive{Q:Option Obj->Shared->Prop}(h:Q (s.heap.get? a) s):A3 prog w A (loadIfAlive a) Q E s:=λΓ p _=>h
def Zdr{Q:Bool->Shared->Prop}(F:s.heap.get? a=some (zO v j f Ua))(J:F0 v)
  (h:∀r h' I,h'.get? a=some (zO v I f Ua)->Heap.SameBut a s.heap h'->Q r {s with heap:=h'}):A3 prog w A (Builtin.SmallTypes.ownedTupleIsFree (.ref a)) Q E s:=by
 refine Qaa (Qbz F U U ?_);rcases J with rfl|⟨T,rfl⟩
 .exact Qaf (h true s.heap j F ⟨U,λ_ _=>U⟩)
 .refine Qaa (alive ?_);cases hT:s.heap.get? _ with
  |none=>exact Qaf (h true s.heap j F ⟨U,λ_ _=>U⟩)
  |some o=>
   refine Qaa (Qbz F U U ?_);cases j
   .refine Qaa (Qb8 F (by simp) λG e z=>Qaf (h false G true e z))
   .exact Qaf (h false s.heap true F ⟨U,λ_ _=>U⟩)
end
structure Of(z TO i1 i2 l:Aw):Prop where
 z:l≠z
 o:l≠TO
 i:l≠i1
 j:l≠i2
structure St(b1 b2:Bool)(z TI TO i1 i2 l1 l2:Aw)(k1 k2:Nat)(h:Heap):Prop where
 z:∃f0 fb,h.get? z=some (zO f0 fb TI TO)/\F0 f0
 I:IsPair h TI (.ref i1) (.ref i2)
 O:∃a b,IsPair h TO a b
 n1:ZM b1 h i1 l1 k1
 n2:ZM b2 h i2 l2 k2
section
variable {prog:Aq}{w:Au}{A:Ar}{E:Ab}{s:As}
def item{b1 b2:Bool}{TO i1 i2 l1 l2:Aw}{k1 k2:Nat}{xs ys:Ah}{x y:Av}(D:Ap f Ua TO i1 i2)(D1:Of f TO i1 i2 l1)(D2:Of f TO i1 i2 l2)
  (S:St b1 b2 f Ua TO i1 i2 l1 l2 k1 k2 s.heap) (q1:SeqAt b1 s.heap l1 xs) (q2:SeqAt b2 s.heap l2 ys) (hx:xs[k1]?=some x) (hy:ys[k2]?=some y)
  (hQ:∀h',St b1 b2 f Ua TO i1 i2 l1 l2 (k1+1) (k2+1) h'->IsPair h' s.heap.objs.size x y->
   (∀c o,c≠f->c≠TO->c≠i1->c≠i2->s.heap.get? c=some o->h'.get? c=some o)->Q (.ref s.heap.objs.size) {s with heap:=h'}):
  A3 prog w A (Builtin.«zip.__next__» ⟨[.ref f],[]⟩) (λfin s'=>∃v,fin=.done (.ret v)/\Q v s') E s:=by
 obtain⟨⟨f0,fb,hz,hf⟩,hTI,⟨a,b,hTO⟩,n1,n2⟩:=S;show wpAny _ _ (field (.ref f) 2 >>= _) _ _ _;refine Qaa (Qbz hz U (x:=.bool false) U ?_);refine Qaa (Qbz hz U (x:=.ref Ua) U ?_);refine Qaa (Qcl hTI U ?_);refine Qaa (Zdr hz hf λr h0 fb' hz0 hs0=>?_);have hz0':h0.get? f=some (zO f0 fb' Ua TO):=hz0;have hTO0:IsPair h0 TO a b:=hs0.extBut _ _ D.TOz hTO;have n10:ZM b1 h0 i1 l1 k1:=n1.mv λo e=>hs0.extBut _ _ D.i1z e;have n20:ZM b2 h0 i2 l2 k2:=n2.mv λo e=>hs0.extBut _ _ D.i2z e;have q10:SeqAt b1 h0 l1 xs:=q1.mv λo e=>hs0.extBut _ _ D1.z e;have q20:SeqAt b2 h0 l2 ys:=q2.mv λo e=>hs0.extBut _ _ D2.z e;cases r with
 |true=>
  refine Qaa (Qdt ?_);refine Qaa (Qbz hz0 U (x:=.ref TO) U ?_);refine Qaa (Qb8 hz0 (by simp) λh₁ hz₁ J=>?_);refine Qaa ?_;refine Qaa (Qaa (Qge ?_));refine Qaa (WX (n10.mv λo e=>J.extBut _ _ D.i1z e) (q10.mv λo e=>J.extBut _ _ D1.z e) hx λh₂ h1₂ F=>Qaf ?_);have hTO₂:IsPair h₂ TO a b:=F.extBut _ _ D.TOi1 (J.extBut _ _ D.TOz hTO0);refine Qaa (Qcl hTO₂ U ?_);refine Qaa (Qf7 hTO₂ λO hTO₃ G=>?_);refine Qaa (Qe5 (Qaf ?_));refine Qaa (Qaa (Qge ?_));refine Qaa (WX (n20.mv λo e=>G.extBut _ _ D.TOi2.symm (F.extBut _ _ D.i12.symm (J.extBut _ _ D.i2z e)))
   (q20.mv λo e=>G.extBut _ _ D2.o (F.extBut _ _ D2.i (J.extBut _ _ D2.z e))) hy λh₄ h2₄ Z=>Qaf ?_)
  have hTO₄:IsPair h₄ TO x b:=Z.extBut _ _ D.TOi2 hTO₃;refine Qaa (Qcl hTO₄ U ?_);refine Qaa (Qf7 hTO₄ λI Y hs₅=>?_);replace Y:IsPair I TO x y:=Y;refine Qaa (Qe5 (Qaf (Qaf ?_)));refine Qaa (Qcl Y U ?_);refine Qaa (Qgr ?_);have hsz:I.objs.size=s.heap.objs.size:=by rw[hs₅.1,Z.1,G.1,F.1,J.1];exact hs0.1
  have hz₅:I.get? f=some (zO .ellipsis fb' Ua TO):=hs₅.extBut _ _ D.TOz.symm (Z.extBut _ _ D.i2z.symm (G.extBut _ _ D.TOz.symm (F.extBut _ _ D.i1z.symm hz₁)));have hk₅:∀c o,c≠f->c≠TO->c≠i1->c≠i2->s.heap.get? c=some o->I.get? c=some o:=λc o c1 c2 c3 c4 e=>
   hs₅.extBut _ _ c2 (Z.extBut _ _ c4 (G.extBut _ _ c2 (F.extBut _ _ c3 (J.extBut _ _ c1 (hs0.extBut _ _ c1 e)))))
  have h1₅:ZM b1 I i1 l1 (k1+1):=h1₂.mv λo e=>hs₅.extBut _ _ D.TOi1.symm (Z.extBut _ _ D.i12 (G.extBut _ _ D.TOi1.symm e));have h2₅:ZM b2 I i2 l2 (k2+1):=h2₄.mv λo e=>hs₅.extBut _ _ D.TOi2.symm e;have hzlt:f<I.objs.size:=Qao hz₅;refine Qaa ?_;have hz₆:(I.push {cls:=.type "tuple",data:=.seq #[x,y]}).get? f=some (zO .ellipsis fb' Ua TO):=Qad _ hz₅;refine Qaa (Qb8 hz₆ (by simp) λh₇ hz₇ hs₇=>?_);refine Qb8 hz₇ (by simp) λh₈ hz₈ hs₈=>?_;have up:∀c o,c≠f->I.get? c=some o->h₈.get? c=some o:=λc o c1 e=>hs₈.extBut _ _ c1 (hs₇.extBut _ _ c1 (Qad _ e));have hT₈:IsPair h₈ I.objs.size x y:=hs₈.extBut _ _ (Qef hzlt) (hs₇.extBut _ _ (Qef hzlt) (Qak _ U));rw[hsz]at hz₈ hT₈;refine Qaf ⟨_,U,?_⟩;rw[hsz];exact hQ h₈ ⟨⟨_,_,hz₈,.inr ⟨_,U⟩⟩,up _ _ D.TIz (hk₅ _ _ D.TIz D.TITO D.TIi1 D.TIi2 hTI),⟨_,_,up _ _ D.TOz Y⟩,h1₅.mv λo e=>up _ o D.i1z e,h2₅.mv λo e=>up _ o D.i2z e⟩ hT₈ λc o c1 c2 c3 c4 e=>up c o c1 (hk₅ c o c1 c2 c3 c4 e)
 |false=>
  refine Qaa ?_;refine Qaa (Qaa (Qb4 ?_));refine Qaa (WX n10 q10 hx λh₂ h1₂ F=>Qaf (Qaf ?_));refine Qaa (Qaa (Qb4 ?_));refine Qaa (WX (n20.mv λo e=>F.extBut _ _ D.i12.symm e) (q20.mv λo e=>F.extBut _ _ D2.i e) hy λO h2₃ G=>Qaf (Qaf (Qaf ?_)));refine Qaa (Qgr (hsz:=(show 2<=sizeLine by decide)) (Qaf ⟨_,U,?_⟩));have hsz:O.objs.size=s.heap.objs.size:=by rw[G.1,F.1];exact hs0.1
  have hk₃:∀c o,c≠f->c≠i1->c≠i2->s.heap.get? c=some o->O.get? c=some o:=λc o c1 c3 c4 e=>G.extBut _ _ c4 (F.extBut _ _ c3 (hs0.extBut _ _ c1 e));have zz:O.get? f=some (zO f0 fb' Ua TO):=G.extBut _ _ D.i2z.symm (F.extBut _ _ D.i1z.symm hz0');have hT:IsPair (O.push {cls:=.type "tuple",data:=.seq #[x,y]}) O.objs.size x y:=Qak _ rfl;rw[hsz]at hT ⊢;have up:∀c o,O.get? c=some o->(O.push {cls:=.type "tuple",data:=.seq #[x,y]}).get? c=some o:=λc o e=>Qad _ e;exact hQ _ ⟨⟨_,_,up _ _ zz,hf⟩,up _ _ (hk₃ _ _ D.TIz D.TIi1 D.TIi2 hTI),⟨_,_,up _ _ (hk₃ _ _ D.TOz D.TOi1 D.TOi2 hTO)⟩,h1₂.mv λo e=>up _ _ (G.extBut _ _ D.i12 e),h2₃.mv λo e=>up _ _ e⟩ hT λc o c1 c2 c3 c4 e=>up c o (hk₃ c o c1 c3 c4 e)
end
section
variable {prog:Aq}{w:Au}{A:Ar}{E:Ab}{s:As}
def fin{b1 b2:Bool}{TO i1 i2 l1 l2:Aw}{k1 k2:Nat}{xs ys:Ah}{Q:Fin->Shared->Prop}(hh:A.handled=none)(D:Ap f Ua TO i1 i2)(D1:Of f TO i1 i2 l1)(D2:Of f TO i1 i2 l2)
  (S:St b1 b2 f Ua TO i1 i2 l1 l2 k1 k2 s.heap) (q1:SeqAt b1 s.heap l1 xs) (q2:SeqAt b2 s.heap l2 ys) (hend:xs[k1]?=none\/ys[k2]?=none)
  (hE:∀h' e,(∀c o,c≠f->c≠TO->c≠i1->c≠i2->s.heap.get? c=some o->h'.get? c=some o)->(∃o,h'.get? e=some o/\o.cls=.type "StopIteration")->E (.ref e) {s with heap:=h'}):
  A3 prog w A (Builtin.«zip.__next__» ⟨[.ref f],[]⟩) Q E s:=by
 obtain⟨⟨f0,fb,hz,hf⟩,hTI,⟨a,b,hTO⟩,n1,n2⟩:=S;show wpAny _ _ (field (.ref f) 2 >>= _) _ _ _;refine Qaa (Qbz hz U (x:=.bool false) U ?_);refine Qaa (Qbz hz U (x:=.ref Ua) U ?_);refine Qaa (Qcl hTI U ?_);refine Qaa (Zdr hz hf λr h0 fb' hz0 O=>?_);have hTO0:IsPair h0 TO a b:=O.extBut _ _ D.TOz hTO;have n10:ZM b1 h0 i1 l1 k1:=n1.mv λo e=>O.extBut _ _ D.i1z e;have n20:ZM b2 h0 i2 l2 k2:=n2.mv λo e=>O.extBut _ _ D.i2z e;have q10:SeqAt b1 h0 l1 xs:=q1.mv λo e=>O.extBut _ _ D1.z e;have q20:SeqAt b2 h0 l2 ys:=q2.mv λo e=>O.extBut _ _ D2.z e;cases r with
 |true=>
  refine Qaa (Qdt ?_);refine Qaa (Qbz hz0 U (x:=.ref TO) U ?_);refine Qaa (Qb8 hz0 (by simp) λh₁ hz₁ G=>?_);refine Qaa ?_;refine Qaa (Qaa (Qge ?_));cases hx:xs[k1]? with
  |none=>
   refine Qaa (jB hh (n10.mv λo e=>G.extBut _ _ D.i1z e) (q10.mv λo e=>G.extBut _ _ D1.z e) hx λJ e F he=>?_);obtain⟨oe,Y,hce⟩:=he;have hz₂:J.get? f=some (zO .ellipsis fb' Ua TO):=F _ _ D.i1z.symm hz₁;have hez:e≠f:=λx=>by subst x;rw[hz₂]at Y;cases Y;simp[zO]at hce
   refine Qb8 hz₂ (by simp) λZ _ I=>hE Z e (λc o c1 _ c3 _ x=>I.extBut _ _ c1 (F _ _ c3 (G.extBut _ _ c1 (O.extBut _ _ c1 x)))) ⟨oe,I.extBut _ _ hez Y,hce⟩
  |some x=>
   have hy:ys[k2]?=none:=by grind
   refine Qaa (WX (n10.mv λo e=>G.extBut _ _ D.i1z e) (q10.mv λo e=>G.extBut _ _ D1.z e) hx λJ h1₂ F=>Qaf ?_);have hTO₂:IsPair J TO a b:=F.extBut _ _ D.TOi1 (G.extBut _ _ D.TOz hTO0);refine Qaa (Qcl hTO₂ U ?_);refine Qaa (Qf7 hTO₂ λZ hTO₃ I=>?_);refine Qaa (Qe5 (Qaf ?_));refine Qaa (Qaa (Qge ?_));refine Qaa (jB hh (n20.mv λo e=>I.extBut _ _ D.TOi2.symm (F.extBut _ _ D.i12.symm (G.extBut _ _ D.i2z e)))
    (q20.mv λo e=>I.extBut _ _ D2.o (F.extBut _ _ D2.i (G.extBut _ _ D2.z e))) hy λh₄ e hs₄ he=>?_)
   obtain⟨oe,Y,hce⟩:=he;have hz₄:h₄.get? f=some (zO .ellipsis fb' Ua TO):=hs₄ _ _ D.i2z.symm (I.extBut _ _ D.TOz.symm (F.extBut _ _ D.i1z.symm hz₁));have hez:e≠f:=λx=>by subst x;rw[hz₄]at Y;cases Y;simp[zO]at hce
   refine Qb8 hz₄ (by simp) λh₅ _ hs₅=>hE h₅ e (λc o c1 c2 c3 c4 x=>hs₅.extBut _ _ c1 (hs₄ _ _ c4 (I.extBut _ _ c2 (F.extBut _ _ c3 (G.extBut _ _ c1 (O.extBut _ _ c1 x)))))) ⟨oe,hs₅.extBut _ _ hez Y,hce⟩
 |false=>
  refine Qaa ?_;refine Qaa (Qaa (Qb4 ?_));cases hx:xs[k1]? with
  |none=>exact Qaa (jB hh n10 q10 hx λJ e F he=>hE J e (λc o c1 _ c3 _ x=>F _ _ c3 (O.extBut _ _ c1 x)) he)
  |some x=>
   have hy:ys[k2]?=none:=by grind
   refine Qaa (WX n10 q10 hx λJ h1₂ F=>Qaf (Qaf ?_));refine Qaa (Qaa (Qb4 ?_));exact Qaa (jB hh (n20.mv λo e=>F.extBut _ _ D.i12.symm e) (q20.mv λo e=>F.extBut _ _ D2.i e) hy λZ e I he=>hE Z e (λc o c1 _ c3 c4 x=>I _ _ c4 (F.extBut _ _ c3 (O.extBut _ _ c1 x))) he)
def next_item{b1 b2:Bool}{i1 i2 e G:Aw}{k1 k2:Nat}{xs ys:Ah}{x y:Av}{Q:Aa}(D:Ap a f Ua i1 i2)(D1:Of a Ua i1 i2 e)(O:Of a Ua i1 i2 G)
  (S:St b1 b2 a f Ua i1 i2 e G k1 k2 s.heap) (q1:SeqAt b1 s.heap e xs) (q2:SeqAt b2 s.heap G ys) (Z:xs[k1]?=some x) (J:ys[k2]?=some y)
  (Y:∀h',St b1 b2 a f Ua i1 i2 e G (k1+1) (k2+1) h'->IsPair h' s.heap.objs.size x y->
   (∀c o,c≠a->c≠Ua->c≠i1->c≠i2->s.heap.get? c=some o->h'.get? c=some o)->Q (some (.ref s.heap.objs.size)) {s with heap:=h'}):
  A3 prog w A (pyNext (.ref a)) Q E s:=by
 obtain⟨f0,fb,hz,hf⟩:=S.z;have I:s.TypeIs (.ref a) "zip" :=⟨_,hz,U⟩;exact Qaa (Qc5 (wpAny_callSpecial?_slot I Qfk
  (Qbn Qfk I F.entry_zip_next (item D D1 O S q1 q2 Z J λh' a1 a2 a3=>Qaf (Y h' a1 a2 a3)) (F.args_zip_next_1 _))))
def next_end{b1 b2:Bool}{i1 i2 I J:Aw}{k1 k2:Nat}{xs ys:Ah}{Q:Aa}(hh:A.handled=none)(D:Ap a f Ua i1 i2)(D1:Of a Ua i1 i2 I)(Z:Of a Ua i1 i2 J)
  (S:St b1 b2 a f Ua i1 i2 I J k1 k2 s.heap) (q1:SeqAt b1 s.heap I xs) (q2:SeqAt b2 s.heap J ys) (G:xs[k1]?=none\/ys[k2]?=none)
  (hQ:∀h',(∀c o,c≠a->c≠Ua->c≠i1->c≠i2->s.heap.get? c=some o->h'.get? c=some o)->Q none {s with heap:=h'}):
  A3 prog w A (pyNext (.ref a)) Q E s:=by
 obtain⟨f0,fb,hz,hf⟩:=id S.z;have O:s.TypeIs (.ref a) "zip" :=⟨_,hz,U⟩;refine Qaa (Qc5 (wpAny_callSpecial?_slot O Qfk (Qbn Qfk O F.entry_zip_next (fin hh D D1 Z S q1 q2 G λh' e hk he=>?_) (F.args_zip_next_1 _))));obtain⟨o,Y,hc⟩:=he;exact Qaa (Qdh ⟨o,Y,hc⟩ Qfs (Qaf (hQ _ hk)))
def iter_self(z:s.heap.get? a=some (zO v j f Ua))(h:Q (.ref a) s):A3 prog w A (pyIter (.ref a)) Q E s:=by
 have e:s.TypeIs (.ref a) "zip" :=⟨_,z,U⟩;refine Qfr e F.slot_zip_iter (Qbn F.slot_zip_iter e F.entry_zip_iter (Qaf ⟨_,U,"zip",_,e,Qfk.lookup,h⟩) (F.args_zip_iter_1 _))
end
def hz1(b1:Bool)(h:Heap)(e:Aw):Heap:=h.push (itO b1 e)
def hz2(b1 b2:Bool)(h:Heap)(z e:Aw):Heap:=(hz1 b1 h z).push (itO b2 e)
def hz3 (b1 b2:Bool) (h:Heap) (e z:Aw):Heap:=(hz2 b1 b2 h e z).push {cls:=.type "tuple",data:=.seq #[.ref h.objs.size,.ref (hz1 b1 h e).objs.size]}
def hz4 (b1 b2:Bool) (h:Heap) (z e:Aw):Heap:=(hz3 b1 b2 h z e).push {cls:=.type "tuple",data:=.seq #[.none,.none]}
def hz5(b1 b2:Bool)(h:Heap)(z e:Aw):Heap:=(hz4 b1 b2 h z e).push (zO .none false (hz2 b1 b2 h z e).objs.size (hz3 b1 b2 h z e).objs.size)
theorem WV(b1 b2:Bool)(z F:Aw)(xs ys:Ah):
  Meets (Builtin.«zip.__new__» ⟨[.type "zip",.ref z,.ref F],[]⟩) (λ_ R s=>SeqAt b1 s.heap z xs/\SeqAt b2 s.heap F ys /\
   R (.ok (.ret (.ref (hz4 b1 b2 s.heap z F).objs.size))) {s with heap:=hz5 b1 b2 s.heap z F}):=
 .of_wp λprog w A R s h=>by
  obtain⟨Ua,g,d,tk,os⟩:=s;obtain⟨G,O,h⟩:=h;have Y:=sub_zip;have I:SeqAt b1 (Shared.heap ⟨Ua,g,d,tk,os⟩) z xs:=G;have J:SeqAt b2 (Shared.heap ⟨Ua.push (itO b1 z),g,d,tk,os⟩) F ys:=O.mv λo e=>Qad _ e
  wp_walk using Wa I,Wa J
  exact⟨_,U,h⟩
section
variable {prog:Aq}{w:Au}{A:Ar}{E:Ab}{s:As}
def call_new{b1 b2:Bool}{xs ys:Ah}(J:SeqAt b1 s.heap a xs)(Ua:SeqAt b2 s.heap f ys)
  (h:∀h',St b1 b2 (s.heap.objs.size+4) (s.heap.objs.size+2) (s.heap.objs.size+3) s.heap.objs.size (s.heap.objs.size+1) a f 0 0 h'->(∀c o,s.heap.get? c=some o->h'.get? c=some o)->Q (.ref (s.heap.objs.size+4)) {s with heap:=h'}):
  A3 prog w A (call (.type "zip") [.ref a,.ref f]) Q E s:=by
 refine Qhb F.called_zip (by decide) (F.typeCall_zip_2 _ _) (F.newCall_zip_2 _ _) (λG=>F.args_object_init_3 G _ _) F.entry_zip_new (WV b1 b2 a f xs ys) ⟨J,Ua,?_⟩;have O:(hz1 b1 s.heap a).objs.size=s.heap.objs.size+1:=Qca ..;have I:(hz2 b1 b2 s.heap a f).objs.size=s.heap.objs.size+2:=by unfold hz2;rw[Qca,O]
 have z:(hz3 b1 b2 s.heap a f).objs.size=s.heap.objs.size+3:=by unfold hz3;rw[Qca,I]
 have Y:(hz4 b1 b2 s.heap a f).objs.size=s.heap.objs.size+4:=by unfold hz4;rw[Qca,z]
 have e:(hz5 b1 b2 s.heap a f).get? (hz4 b1 b2 s.heap a f).objs.size=some _:=Qak _ rfl;have g4:(hz5 b1 b2 s.heap a f).get? (hz3 b1 b2 s.heap a f).objs.size=some {cls:=.type "tuple",data:=.seq #[.none,.none]}:=Qad _ (Qak _ U);have Z:(hz5 b1 b2 s.heap a f).get? (hz2 b1 b2 s.heap a f).objs.size=some _:=Qad _ (Qad _ (Qak _ U));have g2:(hz5 b1 b2 s.heap a f).get? (hz1 b1 s.heap a).objs.size=some (itO b2 f):=Qad _ (Qad _ (Qad _ (Qak _ U)));rw[I,z,Y]at e;rw[O,I]at Z;rw[z]at g4;rw[O]at g2;rw[Y];exact⟨⟨_,e,U⟩,h _ ⟨⟨_,_,e,.inl U⟩,Z,⟨_,_,g4⟩,xq (Qad _ (Qad _ (Qad _ (Qad _ (Qak _ U))))),xq g2⟩ λc o x=>
  Qad _ (Qad _ (Qad _ (Qad _ (Qad _ x))))⟩
theorem St.other{b1 b2:Bool}{TO i1 i2 F G:Aw}{k1 k2:Nat}{h':Heap}(D:Ap f Ua TO i1 i2)(S:St b1 b2 f Ua TO i1 i2 F G k1 k2 h)(J:h'.get? f=some (zO v j Ua TO))(Y:F0 v)(z:Heap.SameBut f h h'):St b1 b2 f Ua TO i1 i2 F G k1 k2 h':=
 ⟨⟨v,j,J,Y⟩,z.extBut _ _ D.TIz S.I,(let⟨a,b,e⟩:=S.O;⟨a,b,z.extBut _ _ D.TOz e⟩),S.n1.mv λo e=>z.extBut _ _ D.i1z e,S.n2.mv λo e=>z.extBut _ _ D.i2z e⟩
def go_any{b1 b2:Bool}{i1 i2 J O T:Aw}{k1 k2:Nat}{Q:Unit->Shared->Prop}(D:Ap a f Ua i1 i2)(S:St b1 b2 a f Ua i1 i2 J O k1 k2 s.heap)
  (h:∀h',St b1 b2 a f Ua i1 i2 J O k1 k2 h'->Heap.SameBut a s.heap h'->Q () {s with heap:=h'}):A3 prog w A (letOwnedTupleGo e (.ref a) (.ref T)) Q E s:=by
 have q0:=h s.heap S ⟨U,λ_ _=>U⟩;obtain⟨Z,Y,I,hf⟩:=id S.z;have tup:A3 prog w A (do
   let o <-load a
   match o.cls,o.data with
   |.type n,.fields vs=>
    if["enumerate","zip","dict_itemiterator","dict_reverseitemiterator","odict_iterator","itertools.zip_longest","itertools.pairwise"].contains n&&vs[0]? == some (rawInt T)then
     rule "for.unpacks-the-owned-tuple"
     updateField a 0 .none
   |_,_=>pure ()) Q E s:=by
  refine Qaa (wpAny_load I ?_);show wpAny _ _ (if(["enumerate","zip","dict_itemiterator","dict_reverseitemiterator","odict_iterator","itertools.zip_longest","itertools.pairwise"].contains "zip" && (#[Z,.bool Y,.bool false,.ref f,.ref Ua])[0]? == some _)=true then _ else _) Q E s;split
  .refine Qaa (Qdt (Qb8 I (by simp) λh' G F=>h h' (S.other D G (.inl U) F) F))
  .exact Qaf q0
 cases e<;>first
  |exact tup
  |exact Qaf q0
end
end ZpT
namespace L2
open ZpT (St Ap Of SeqAt ZM)
def Itz(K:Af)(b1 b2:Bool)(a1 a2:Aw):It:=
  ⟨λi H=>∃xs ys x y,SqB K b1 H a1 xs/\SqB K b2 H a2 ys/\xs[i]?=some x/\ys[i]?=some y,
   λi H v H'=>∃p,H p=none/\v=.ref p/\∀xs ys x y,SqB K b1 H a1 xs->SqB K b2 H a2 ys->xs[i]?=some x->ys[i]?=some y->H'=upd H p (.tup [x,y]),
   λi H=>∃xs ys,SqB K b1 H a1 xs/\SqB K b2 H a2 ys/\(xs.length<=i\/ys.length<=i)⟩
def Zhh{b1 b2:Bool}{i1 i2 a1 a2:Aw}(D:Ap a f Ua i1 i2)(D1:Of a Ua i1 i2 a1)(D2:Of a Ua i1 i2 a2):
  Turn P w K e (Itz K b1 b2 a1 a2) [a,f,Ua,i1,i2] a (λi h=>ZpT.St b1 b2 a f Ua i1 i2 a1 a2 i i h)where
 mem:=by simp
 obj:=λi h st b G=>by
  obtain⟨⟨f0,fb,Z,hf⟩,O,⟨x,y,J⟩,n1,n2⟩:=st;simp at G;rcases G with rfl|rfl|rfl|rfl|rfl
  .exact⟨_,Z,λv q=>by
    have q':Data.fields _=Data.cell v:=q;cases q'⟩
  .grind
  .grind
  .exact n1.ob
  .exact n2.ob
 keep:=λi h h' st k=>by
  obtain⟨⟨f0,fb,Z,hf⟩,O,⟨x,y,J⟩,n1,n2⟩:=st;exact⟨⟨f0,fb,k a (by simp) _ Z,hf⟩,k f (by simp) _ O,⟨x,y,k Ua (by simp) _ J⟩,n1.mv λo F=>k i1 (by simp) o F,n2.mv λo F=>k i2 (by simp) o F⟩
 item:=by
  intro X hP hw hK hc i pins s σ H E I hf st hg;subst hP hw hK;obtain⟨xs,ys,x,y,q1,q2,hx,hy⟩:=hg;obtain⟨its1,r1,p1,z1⟩:=I.sqB q1;obtain⟨its2,r2,p2,z2⟩:=I.sqB q2;obtain⟨u1,hu1,ru1⟩:=r1.get hx;obtain⟨u2,hu2,ru2⟩:=r2.get hy;have olt:∀b∈[a,f,Ua,i1,i2],b<s.heap.objs.size:=λb G=>by
   obtain⟨⟨f0,fb,Z,hf⟩,O,⟨x,y,J⟩,n1,n2⟩:=st;simp at G;rcases G with rfl|rfl|rfl|rfl|rfl
   .exact Qao Z
   .exact Qao O
   .exact Qao J
   .obtain⟨o,ho,_⟩:=n1.ob;exact Qao ho
   .obtain⟨o,ho,_⟩:=n2.ob;exact Qao ho
  refine ZpT.next_item D D1 D2 st p1 p2 (x:=u1) (y:=u2) (by simpa using hu1) (by simpa using hu2) λh' st' hT hk=>?_;refine⟨_,U,ZpT.go_any (s:={s with heap:=h'}) D st' λh2 st2 hs2=>?_⟩;have Y:Heap.SameBut a h' h2:=hs2;have I1:Inv X pins σ (upd H s.heap.objs.size (.tup [x,y])) {s with heap:=s.heap.push _,toks:=s.toks}:=
   I.laid (λb o y=>Qad _ y) (Qaj _) ⟨ya,[u1,u2],.cons ru1 (.cons ru2 .nil),gM.new _ _⟩
  have fp':∀b∈[a,f,Ua,i1,i2],wA X pins (upd H s.heap.objs.size (.tup [x,y])) b:=λb G=>by
   obtain⟨a0,ar⟩:=hf b G;exact⟨by rw[Zj (Qa8 (olt b G))];exact a0,ar⟩
  have I2:Inv X pins σ (upd H s.heap.objs.size (.tup [x,y])) {s with heap:=h2,toks:=s.toks}:=by
   refine GZ (s:={s with heap:=s.heap.push _,toks:=s.toks}) I1 fp' λb o G q=>?_;have hbz:b≠a:=λF=>G (by simp[F]);rcases Heap.get?_push_cases q with⟨rfl,rfl⟩|q
   .exact(Y.2 _ hbz).trans hT
   .exact(Y.2 b hbz).trans (hk b o hbz (λF=>G (by simp[F])) (λF=>G (by simp[F])) (λF=>G (by simp[F])) q)
  refine⟨.ref s.heap.objs.size,_,I2,U,⟨_,I.hok.fresh (Qaj _),U,λxs' ys' x' y' q1' q2' hx' hy'=>?_⟩,st2,λb G=>(fp' b G).1⟩;rw[I.sqB_inj q1' q1,hx]at hx';rw[I.sqB_inj q2' q2,hy]at hy';cases hx';cases hy';rfl
 done:=by
  intro X hP hw hK hc i pins s σ H E I hf st hg;subst hP hw hK;obtain⟨xs,ys,q1,q2,hx⟩:=hg;obtain⟨its1,r1,p1,z1⟩:=I.sqB q1;obtain⟨its2,r2,p2,z2⟩:=I.sqB q2;have e1:=r1.length;have e2:=r2.length;refine ZpT.next_end (I.ok.hd hc) D D1 D2 st p1 p2 (by simp;lia) λh' hk=>⟨U,?_⟩;exact GZ (t':=s.toks) I hf λb o G q=>hk b o (λF=>G (by simp[F])) (λF=>G (by simp[F])) (λF=>G (by simp[F])) (λF=>G (by simp[F])) q
 self:=λ_ _ _ _ _ st h=>let⟨_,_,Z,_⟩:=st.z;ZpT.iter_self Z h
def bt_zip:bootBuiltins "zip" = some (.type "zip"):=by decide +kernel
end L2
namespace L2
open ZpT (Ap Of SeqAt ZM)
def zfp(n:Nat):List Aw:=[n+4,n+2,n+3,n,n+1]
def zof{l:Nat}(h:l<n):Of (n+4) (n+3) n (n+1) l:=by constructor<;>(lia)
section
variable {X:Cx}{e1 e2:Ax}{t:TA}{p pos:Pos}{b1 b2:Bool}
def Zj2{b:Bool}{l:Aw}{xs:Ah}(q:SeqAt b h l xs):l<h.objs.size:=by
 cases b
 .obtain⟨o,e,_⟩:=(q);exact Qao e
 .obtain⟨o,e,_⟩:=(q);exact Qao e
def Zhi     {Y:Aw->Addr->List V->List V->Hp->Prop}  (hg:Gl X "zip") (hm:X.mg "zip" = none) (ha:QA X [e1,e2] t) (O:[e1,e2].all ZY=true) (I:Inv X q c H s)
  (h:t c H λvs H1=>∃a1 a2 xs ys,vs=[.ref a1,.ref a2]/\SqB X.K b1 H1 a1 xs/\SqB X.K b2 H1 a2 ys/\Y a1 a2 xs ys H1)
  (fin:∀a1 a2 xs ys n H1 F,Inv X q c H1 F->SqB X.K b1 H1 a1 xs->SqB X.K b2 H1 a2 ys->Y a1 a2 xs ys H1->a1<n->a2<n->ZpT.St b1 b2 (n+4) (n+2) (n+3) n (n+1) a1 a2 0 0 F.heap->(∀b∈zfp n,wA X q H1 b)->Q (.ref (n+4)) F):
  A4 X (eval (.Call (.Name "zip" p) [e1,e2] [] pos) X.env) Q X.xe s:=by
 rw[Qc4,Qa4]at O;refine Qc2 (Gh I hg hm bt_zip (Qcr (thn (ha.out pos q s c H _ I h) λus F ⟨vs,H1,e,r1,G⟩=>?_) (Zv O.1) (Xg O.2)));obtain⟨a1,a2,xs,ys,rfl,G,q2,r⟩:=G;obtain⟨u1,u2,rfl,Ua,J⟩:=Zhg r1;cases Ua;cases J;obtain⟨its1,v1,p1,z1⟩:=e.sqB G;obtain⟨Z,v2,p2,z2⟩:=e.sqB q2;refine ZpT.call_new p1 p2 λh' st hk=>(fin a1 a2 xs ys _ H1 _ (e.kept hk) G q2 r (Zj2 p1) (Zj2 p2) st λb hb=>?_);have z:F.heap.objs.size<=b:=by
  simp[zfp]at hb;rcases hb with rfl|rfl|rfl|rfl|rfl
  .exact Qf1 _ _
  .exact Qf1 _ _
  .exact Qf1 _ _
  .exact Qaj _
  .exact Qf1 _ _
 exact e.fpOk z (e.hok.fresh z)
def iZip2(K:Af)(b1 b2:Bool)(t:TA):TI:=λσ H R=>t σ H λvs H1=>∃a1 a2 xs ys,vs=[.ref a1,.ref a2]/\SqB K b1 H1 a1 xs/\SqB K b2 H1 a2 ys/\R (Itz K b1 b2 a1 a2) H1
def qi_zip  (G:Gl X "zip") (Z:X.mg "zip" = none) (ha:QA X [e1,e2] t) (F:[e1,e2].all ZY=true:=by rfl):QI X e (.Call (.Name "zip" p) [e1,e2] [] pos) (iZip2 X.K b1 b2 t):=by
 refine⟨λpins s σ H R I h=>(Zhi G Z ha F I h λa1 a2 xs ys n H1 s1 O q1 q2 r Y l2 st J=>?_)⟩;obtain⟨f0,fb,Ua,_⟩:=id st.z;exact ZpT.iter_self Ua ⟨n+4,zfp n,_,_,H1,U,O,Zhh (by constructor<;>(lia)) (zof Y) (zof l2),st,J,r⟩
end
end L2
namespace L2
structure Two(scope:Scope)(x x2:Str)(ys:Ai):Prop where
 own:scope.names.lookup x2=some .local
 nd:(x::x2::ys).Nodup
def Znv(is:Aj)(σ:St)(v w:Option V):St:=v::w::is.map λi=>(σ[i]?).getD none
def Zds(K:Af)(is:Aj)(tc:TT)(te:TE)(σ:St)(Q:VK)(J:It)(H1:Hp):Prop:=∃W:Nat->Nat->List V->Hp->Prop,(∃m,W 0 m [] H1)/\∀i m zs H,W i m zs H->
 (J.stop i H/\zs.length<=sizeLine/\∀p,H p=none->Q (.ref p) (upd H p (.lst zs))) \/
 (J.go i H/\zs.length<=sizeLine/\∀x H',J.yld i H x H'->∃a F z,x=.ref a/\SqT K H' a [F,z]/\tc (Znv is σ (some F) (some z)) H' λb H2=>if b=true then te (Znv is σ (some F) (some z)) H2 λy G=>∃e,e<m/\W (i+1) e (zs++[y]) G else∃e,e<m/\W (i+1) e zs H2)
def tComp2(K:Af)(wi:TI)(is:Aj)(tc:TT)(te:TE):TE:=λσ H Q=>wi σ H (Zds K is tc te σ Q)
section
variable {X:Cx}{S scope:Scope}{N:Ai}{x x2:Str}{ys:Ai}{is:Aj}{pins:Ac}{σ:St}{H₂:Hp}{s₂:As}{fp:List Aw}{elt iter:Ax}{px px2 pp pos:Pos}{pq:Nat}{ifs:An}{tc:TT}{te:TE}{wi:TI}
theorem compT2(K:ZS S scope N x ys is)(e:Two scope x x2 ys)(J:X.env.scope=S)(I:X.N=N)(O:S.kind=.function)(F:X.calm=true):Zcu X S scope N x ys is [x,x2] (.Tuple [.Name x px,.Name x2 px2] pq pp) (Zn4 X.K 2 (ye (WQ 0) (ye (WQ 1) Zn3))) (λσ z=>∃G Ua,z=Znv is σ G Ua):=
 ⟨K,J,I,O,F,λ_ _ _ _=>Zja F (xo (yd e.nd U (.inl (Qds K.own)) (.inr (Qds K.own))) (xo (yd e.nd U (.inl (Qds e.own)) (.inr (Qds e.own))) Zby)),λ_=>⟨none,none,U⟩⟩
theorem conv2:∀σ Q J H,Zds K is tc te σ Q J H->vI (Zn4 K 2 (ye (WQ 0) (ye (WQ 1) Zn3))) (λF=>∃G Ua,F=Znv is σ G Ua) tc te Q J H:=λσ Q J H ⟨W,I,t⟩=>
 ⟨W,I,λi m zs H w=>(t i m zs H w).imp_right λz=>⟨z.1,z.2.1,λx H' y=>by
  obtain⟨a,Z,Y,rfl,O,k⟩:=z.2.2 x H' y;exact⟨_,⟨_,_,U⟩,λF ⟨_,_,e⟩=>e ▸ ⟨a,_,U,O,U,_,_,U,_,_,U,U,U,U⟩,k⟩⟩⟩
def Zhj(K:ZS S scope N x ys is)(F:Two scope x x2 ys)(hi:QI X (.Tuple [.Name x px,.Name x2 px2] pq pp) iter wi)(O:∀C s₂ H₂ ex,QF (cxC X (x::x2::ys) scope C s₂ H₂ ex) ifs tc)(G:∀C s₂ H₂ ex,QE (cxC X (x::x2::ys) scope C s₂ H₂ ex) elt te)
  (e:X.calm=true:=by rfl) (J:X.env.scope=S:=by rfl) (I:X.N=N:=by rfl) (Ua:S.kind=.function:=by rfl) (z:∀v,foldedSetIterable iter X.env v=pure v:=by intro _;rfl):
  QE X (.ListComp elt [⟨(.Tuple [.Name x px,.Name x2 px2] pq pp),iter,ifs,0⟩] scope pos) (tComp2 X.K wi is tc te):=
 gS (compT2 K F J I Ua e) conv2 hi O G z
end
def PP1(X:Cx)(pos:Pos)(k v:Ax)(tk tv:TE):Prop:=∀pins s σ H (R:V->V->Hp->Prop),Inv X pins σ H s->(tk σ H λx H1=>tv σ H1 λy H2=>R x y H2)->
 A4 X (evalPairs (pairTrees [some k] [v] X.env pos)) (λz e=>∃x y u r H2,z=[(u,r)]/\Inv X pins σ H2 e/\RelV x u/\RelV y r/\R x y H2) X.xe s
def pp1{pos:Pos}{k v:Ax}{tk:TE}(z:QE X k tk)(O:QE X v d):PP1 X pos k v tk d:=by
 intro pins s σ H R I q;refine pairTrees_cons_walk (thn (z.out pins s σ H _ I q) λu Y ⟨x,H1,F,Z,J⟩=>thn (O.out pins Y σ H1 _ F J) λr s2 ⟨y,H2,G,e,Ua⟩=>pairTrees_nil_walk ⟨x,y,u,r,H2,U,G,Z,e,Ua⟩)
def HT.cat_tup0{prog:Aq}{A:Ar}{E:Ab}{b:Aw}(ht:IsTup s.heap a #[])(Z:IsTup s.heap b G.toArray)(q:Q (.ref b) s):
  A3 prog w A (binaryOp .Add (.ref a) (.ref b)) Q E s:=by
 obtain⟨⟨cls,dd,data,sl⟩,O,hc,n,Y⟩:=id ht;obtain⟨⟨Ua,F,data2,I⟩,e,z,n2,J⟩:=id Z;subst hc Y z J;exact concat_meets ⟨_,O,U⟩ ⟨_,e,U⟩ Qg4 seq_tuple_add Qfn Qfe (Qe6 _ _)
  (tuple_addW0 a b #[] _ n n2 dd F sl I U) ⟨O,e,q⟩
inductive Zdt(x:V)(y:V)(H:Hp)(Q:VK):Prop
 |mk (a b xs ys:_):(x=.ref a)->(y=.ref b)->(H a=some (.tup xs))->(H b=some (.tup ys))->(xs.length+ys.length<=sizeLine)->(∀p H',H' p=some (.tup (xs++ys))->ZG H H'->Q (.ref p) H')->Zdt x y H Q
def rCatG  : R2:=λx y H Q=>Zdt x y H Q
def Zlt:OpR X (binaryOp .Add) rCatG:=by
 intro pins s σ H x y v u Q I rx Z h;obtain⟨a,b,xs,ys,rfl,rfl,Ua,O,hz,q⟩:=h;cases rx;cases Z;obtain⟨its,F,p1,_⟩:=I.tuple (SqT.of Ua);obtain⟨Y,J,p2,_⟩:=I.tuple (SqT.of O)
 by_cases G:xs=[]
 .have e:=F.nil_iff.mpr G;subst e G;exact HT.cat_tup0 p1 p2 ⟨.ref b,H,I,U,q b H O λ_ _ z=>z⟩
 .refine HT.cat_tup p1 p2 (λz=>G (F.nil_iff.mp z)) (λz=>⟨.ref a,H,I,U,q a H ?_ λ_ _ z=>z⟩) (λz=>?_) (by rw[<-F.length,<-J.length];exact hz)
  .rw[J.nil_iff.mp z,Qbp];exact Ua
  .have hn:=I.hok.fresh (Qaj _);refine⟨.ref _,_,I.laid (λb ob q=>Qad _ q) (Qaj _) ?_,U,q _ _ Za λc o z=>by rw[Zj (λe=>by grind)];exact z⟩;exact⟨by grind,_,F.append J,gM.new _ _⟩
open PySem.W (hideAll of_hideAll hideAll_get hideAll_none funFrames_hide)
def CXO(P:Aq)(w:Au):CXT:=λouter H s E v s'=>∃(e t C:Aw)(args:Ag)(H':Hp)(B:Heap),v=.ref e/\s'.os=s.os/\AllBare s'.gens/\Un (frs outer) [] H H' s.heap s'.heap/\HOk P w H' s'.heap /\
 Heap.FlyingW B outer e (.ref C) (.ref t) s'.heap/\s'.heap.TupAt t args/\(∀b o,s'.heap.get? b=some o->((∃o',s.heap.get? b=some o')\/∃u,H' b=some u)->b∉frs outer->B.get? b=some o)/\H' e=none/\s.heap.get? e=none/\E (.ref C) (some e) H'
theorem YR.there{o:HO}(x:YR P w H h a o):∃q,h.get? a=some q:=by
 induction o with
 |lst xs=>obtain⟨_,_,_,_,e⟩:=x;exact⟨_,e⟩
 |tup xs=>obtain⟨_,_,_,q,e,_⟩:=x;exact⟨q,e⟩
 |dK kvs=>obtain⟨_,_,_,_,q,_,_,e,_⟩:=x;exact⟨q,e⟩
 |dT kvs=>obtain⟨_,_,_,_,q,_,_,e,_⟩:=x;exact⟨q,e⟩
 |set S n=>obtain⟨q,_,_,_,e,_⟩:=x;exact⟨q,e⟩
 |ins C dx fs=>obtain⟨_,_,_,e,_⟩:=x;exact⟨_,e⟩
 |own y=>exact x
 |xd fs=>obtain⟨_,⟨q,_,_,e,_⟩,_⟩:=x;exact⟨q,e⟩
 |rng lo hi=>obtain⟨_,_,_,e⟩:=x;exact⟨_,e⟩
 |frz q u _=>obtain⟨e,_⟩:=x;exact⟨_,e⟩
 |tbl ps=>exact⟨_,x⟩
 |met f y=>exact⟨_,x⟩
 |ext φ=>exact x.2.1
section
variable {P:Aq}{w:Au}{X:Cx}{pins:Ac}{σ:St}{H:Hp}{s:As}
def Zdu{E:XK}{C:Aw}{args:Ag}{B:Heap}{g':Array GenState}{d':Drawn}{t':Nat}(I:Inv X pins σ H s)(hx:X.ex=[])(hst:X.stack=X.env::X.outer)(hfr:X.env.frame=some X.env.locals)(hg:AllBare g')
  (cov:∀b o,s.heap.get? b=some o->((∃o',X.s₀.heap.get? b=some o')\/∃u,H b=some u)->b∉frs X.stack->B.get? b=some o)
  (up:s.heap.UpToSlots h) (fly:Heap.FlyingW B X.outer f (.ref C) (.ref Ua) h) (tup:h.TupAt Ua args) (hHe:H f=none) (hse:X.s₀.heap.get? f=none) (hE:E (.ref C) (some f) H):
  CXO X.prog X.w X.outer X.H₀ X.s₀ E (.ref f) {s with heap:=h,gens:=g',drawn:=d',toks:=t'}:=by
 have hB:B.StaysIn h:=fly.1;have nin:∀{b:Aw} {o:Obj},X.s₀.heap.get? b=some o->b∉X.fs->b∉frs X.stack:=λ{b o} e F hm=>by
  rcases Qas.mp (I.stkSub b hm)with q|q
  .have:=Qao e;rw[q]at this;exact absurd (Qa7 this I.ok.above) (Qcf _)
  .exact F q
 have tin:∀{b:Aw} {u:HO},H b=some u->b∉frs X.stack:=λ{b u} e hm=>by
  rw[I.stkFree b hm]at e;cases e
 have O:∀b o,s.heap.get? b=some o->((∃o',X.s₀.heap.get? b=some o')/\b∉X.fs\/∃u,H b=some u)->h.get? b=some o:=λb o e q=>by
  rcases q with⟨⟨o',J⟩,F⟩|⟨u,hu⟩
  .exact hB b o (cov b o e (.inl ⟨o',J⟩) (nin J F))
  .exact hB b o (cov b o e (.inr ⟨u,hu⟩) (tin hu))
 have G:∀b,b∉X.ex:=λb e=>by rw[hx]at e;cases e
 refine⟨f,Ua,C,args,H,B,U,I.os,hg,?_,?_,fly,tup,?_,hHe,hse,hE⟩
 .constructor
  .intro b o e hn F _;exact O b o (I.base.keep b o e hn F (G b)) (.inl ⟨⟨o,e⟩,F⟩)
  .intro b o e hn F _;obtain⟨sl,hs⟩:=I.base.slot b o e hn F (G b);obtain⟨_,o2,Z,hd2⟩:=I.ok.funs.mem F;have eo:o2=o:=Option.some.inj (Z.symm.trans e);subst eo;obtain⟨sl2,Y⟩:=up b _ hs (λws z=>hd2 ws z);exact⟨sl2,Y⟩
  .intro b o e hn _;exact I.base.free b o e hn (G b)
  .intro b o e _
   by_cases F:b∈X.fs
   .obtain⟨sl,hs⟩:=I.base.slot b o e (I.ok.frf b F) F (G b);obtain⟨_,o2,Z,hd2⟩:=I.ok.funs.mem F;have eo:o2=o:=Option.some.inj (Z.symm.trans e);subst eo;obtain⟨sl2,Y⟩:=up b _ hs (λws z=>hd2 ws z);exact⟨_,Y⟩
   .obtain⟨o',J⟩:=I.base.there b o e (G b);exact⟨o',O b o' J (.inl ⟨⟨o,e⟩,F⟩)⟩
  .exact I.base.tups
  .exact I.base.frzs
  .exact I.base.tbls
 .intro a o ha;refine(I.hok a o ha).stay (λb u e q=>O b u q (.inr ?_)) (λb q=>q) (λb xs q=>q);rcases e with rfl|e
  .exact⟨o,ha⟩
  .exact⟨_,e⟩
 .intro b o e q F;have fin:∀o1,s.heap.get? b=some o1->b∉frs X.stack->B.get? b=some o:=λo1 h1 hn=>by
   grind
  rcases q with⟨o0,h0⟩|⟨u,hu⟩
  .obtain⟨o1,h1⟩:=I.base.there b o0 h0 (G b);exact fin o1 h1 (nin h0 F)
  .obtain⟨o1,h1⟩:=(I.hok b u hu).there;exact fin o1 h1 (tin hu)
end
end L2
namespace L2
open PySem.W (hideAll of_hideAll hideAll_get hideAll_none funFrames_hide)
structure FnX(X:Cx)(E:XK):Prop where
 xe:∀e s',A4 X (leaving X.env e) (λ_ s''=>CXO X.prog X.w X.outer X.H₀ X.s₀ E e s'') (λe' s''=>CXO X.prog X.w X.outer X.H₀ X.s₀ E e' s'') s'->X.xe e s'
 ex:X.ex=[]
 stk:X.stack=X.env::X.outer
 fr:X.env.frame=some X.env.locals
def MadeX(X:Cx)(E:XK):Prop:=∀(pins:Ac)(σ:St)(H:Hp)(s:As)(h':Heap)(e C:Aw)(args:Ag),Inv X pins σ H s->Heap.MadeExcOf s.heap h' e (.ref C) args->E (.ref C) (some e) H->X.xe (.ref e) {s with heap:=h'}
section
variable {X:Cx}{E:XK}
def Zlu{env:Env}{l:List Env}:∀e∈env::l,∀a,e.frame=some a->a∈frs (env::l):=λe F a z=>Qfc.mpr ⟨e,F,z⟩
def FnX.made(F:FnX X E):MadeX X E:=by
 intro pins σ H s h' e C args I O hE;refine F.xe _ _ ?_;have Ua:X.A.frames=some (X.env::X.outer):=by rw[I.ok.frames,F.stk]
 have G:=I.stack;rw[F.stk]at G;refine wpAny_leaves_madeW (base:=hideAll s.heap (frs X.stack)) (h:=s.heap) Ua F.fr (λb o q=>of_hideAll _ q) ?_ O λh'' t Y tup htn up=>?_
 .refine funFrames_hide G ?_;rw[F.stk];exact Zlu
 .exact Zdu (s:=s) (g':=s.gens) (d':=s.drawn) (t':=s.toks) I F.ex F.stk F.fr I.bare (λb o hb _ hn=>hideAll_get _ hb hn) ((Heap.UpToSlots.of_keeps O.keeps).trans up) Y tup (by
   cases q:H e with
   |none=>rfl
   |some u=>
    obtain⟨o,Z⟩:=(I.hok e u q).there;rw[O.new]at Z;cases Z) (by
   cases q:X.s₀.heap.get? e with
   |none=>rfl
   |some o=>
    obtain⟨o',J⟩:=I.base.there e o q (by rw[F.ex];exactλz=>nomatch z);rw[O.new]at J;cases J) hE
def FnX.passes(F:FnX X E):Passes (CXO X.prog X.w) X E:=by
 intro pins σ H s v s' I h;obtain⟨e,t,C,args,H',B,rfl,os,Y,un,hok,Ua,tup,cov,hHe,hse,hE⟩:=h;refine F.xe _ _ ?_;have J:Inv X pins σ H' s':=I.call' (ch:=[]) os un hok Y (λb z=>absurd z (by simp));have Z:X.A.frames=some (X.env::X.outer):=by rw[I.ok.frames,F.stk]
 rw[F.stk]at Ua;refine wpAny_leaves_onW Z F.fr Ua λh' O up=>?_;have se:X.s₀.heap.get? e=none:=by
  cases q:X.s₀.heap.get? e with
  |none=>rfl
  |some o=>
   obtain⟨o',G⟩:=I.base.there e o q (by rw[F.ex];exactλz=>nomatch z);rw[hse]at G;cases G
 refine Zdu (s:=s') (g':=s'.gens) (d':=s'.drawn) (t':=s'.toks) J F.ex F.stk F.fr J.bare (λb o hb q hn=>cov b o hb ?_ hn) up O (tup.of_slots up) hHe se hE;rcases q with⟨o',G⟩|q
 .exact .inl (I.base.there b o' G (by rw[F.ex];exactλz=>nomatch z))
 .exact .inr q
theorem FnX.of{mg:Ae}{base:Heap}{qual:Str}{scope:Scope}{A:Ar}{outer:List Env}:FnX (Zce (CXO P w) P w K mg base N qual scope f v A outer s H E) E:=⟨λ_ _ h=>h,U,U,U⟩
end
end L2
namespace L2
abbrev Zpg:Ag:=[.type "ValueError",.type "Exception",.type "BaseException",.type "object"]
abbrev Zdv (x:Str) (C:Aw) (mg:Ae) (base:Heap):Prop:=OwnCls x C Zpg "ValueError.__new__" mg base
def sRaise(E:XK)(C:Aw)(t:TA):TS:=λ_ σ H=>t σ H λvs H1=>vs.length<=sizeLine/\∀e,H1 e=none->E (.ref C) (some e) H1
section
variable {X:Cx}{E:XK}{x:Str}{C:Aw}{np cpos pos:Pos}{e₀:Ax}{rest:An}{t:TA}
def Zhk(M:MadeX X E)(hg:Gl X x)(O:Zdv x C X.mg X.base)(hc:X.calm=true)(ha:QA X (e₀::rest) t)
  (Ua:starEach (e₀::rest) X.env=(false,eval e₀ X.env)::starEach rest X.env:=by rfl) (J:(backTo cpos (starEach rest X.env)).any (·.1)=false:=by rfl) (hd:(x == ("__debug__" : Str))=false:=by decide):
  QS X (.Raise (some (.Call (.Name x np) (e₀::rest) [] cpos)) none pos) (sRaise E C t):=by
 refine⟨λpins s σ H D I h=>?_⟩;obtain⟨tl,N,nm,q,bs,hdct,sn,sub,ab,col,dd,k0,k1,k2,k3,k5,mN,hC,hN,G,T⟩:=O.obj;refine wpAny_Raise_call_subU (C:=C) (nm:=nm) (q:=q) (N:=N) (bs:=bs) (bm:=tl) (hdct:=hdct) (sn:=sn) (sub:=sub) (ab:=ab) (col:=col) (dd:=dd) (k0:=k0) (k1:=k1) (k2:=k2) (k3:=k3) (k5:=k5)
  Qe1 U Qe1 (mN:=mN) (T.hasType Qe1.hasBase) (I.ok.hd hc) (by rw[Ua];show(false||(backTo cpos (starEach rest X.env)).any (·.1))=false;rw[J];rfl) G (JP I hg O.bound ⟨U,?_⟩ hd)
 have z:=ha.out cpos pins s σ H _ I h;rw[Ua]at z ⊢;refine Qd4 (thn z λus s2 ⟨vs,H2,F,r,hl,q⟩=>?_);refine⟨U,by rw[<-r.length];exact hl,F.bk _ _ hC,hN.keeps F.bk,T.keeps F.bk,λh' e Z=>?_⟩;refine M pins σ H2 s2 h' e C us F Z (q e ?_);cases qe:H2 e with
 |none=>rfl
 |some u=>
  obtain⟨o,Y⟩:=(F.hok e u qe).there;rw[Z.new]at Y;cases Y
end
theorem Fun.okX{mg:Ae}{base:Heap}{qual:Str}{st:Ay}{fd:Ao}{ps:Ai}{k:Nat}{sp:Sp}(F:Fun K x qual st f fd)(S:Zt N ps (Zh st))(len:∀vs H Q E,sp vs H Q E->vs.length=ps.length)
  (z:∀(e:Av)(A:Ar)(outer:List Env)(s:As)(H:Hp)(vs:A2)(Q:VK)(E:XK),Wo k (A.deeper (envOfC qual (Zh st) s.heap.objs.size f e))->sp vs H Q E->
   ∃t,PSs (Zce (CXO P w) P w K mg base N qual (Zh st) f e A outer s H E) (YW st) t/\t {nx:=λ_ H'=>Q .non H',rt:=Q} (start N vs) H):xB P w K mg base (CXO P w) (k+1) f fd ps sp:=by
 obtain⟨oc,od,kV,O,pm,Z,e,ct,Ua,rfl,J,I⟩:=F.ex;exact Zk1 J I S len λA outer s H vs Q E Y G=>z e A outer s H vs Q E Y G
section
variable {M:Model}{A:Ar}{E:Ab}
variable {nm q nm' q':Str}{C N D N':Aw}{bs bm bs' bm':Ag}{hdct hdct':Bool}{sn sn':Ai}{sub sub':Ag}{ab ab':Bool}{col col':Option Bool}{dd dd':Option Aw}{k0 k1 k2 k3 k5 k0' k1' k2' k3' k5':Option Av}{newId newId':String}
def ji{g:Array GenState}{d:Drawn}{os:OsState}{Q:Bool->Shared->Prop}
  (O:h.get? C=some (excClassObj nm q C N bs bm hdct sn sub ab col dd k0 k1 k2 k3 k5 newId)) (G:h.get? D=some (excClassObj nm' q' D N' bs' bm' hdct' sn' sub' ab' col' dd' k0' k1' k2' k3' k5' newId')) (Ua:h.get? a=some Y) (z:Y.cls=.ref C) (e:bm'.contains (.type "BaseException")=true) {b:Bool} (I:(Value.ref C::bm).contains (.ref D)=b)
  (J:Q b ⟨h,g,d,i,os⟩):wpAny M A (excMatches (.ref a) (.ref D)) Q E ⟨h,g,d,i,os⟩:=by
 have F:(Value.ref D::bm').contains (.type "BaseException")=true:=by rw[List.contains_cons,e,Bool.or_true]
 have f:=tc_notTuple;unfold excMatches;cases b<;>(repeat (first|(with_reducible refine wpAny_loadPart_at Ua ?_;rw[z])|with_reducible refine wpAny_loadPart_at G ?_|(with_reducible refine wpAny_isSubtype_exc G ?_;rw[F])|(with_reducible refine wpAny_isSubtype_exc O ?_;rw[I])|wp_step))<;>exact J
end
section
variable {X:Cx}{pins:Ac}{σ:St}{H H':Hp}{s s':As}
def uf{B:Heap}(I:Inv X pins σ H s)(os:s'.os=s.os)(bare:AllBare s'.gens)(un:Un (frs X.stack) [] H H' s.heap s'.heap)(hok:HOk X.prog X.w H' s'.heap)
  (cov:∀b o,s'.heap.get? b=some o->((∃o',s.heap.get? b=some o')\/∃u,H' b=some u)->b∉frs X.stack->B.get? b=some o) (hB:B.StaysIn h) (up:s'.heap.UpToSlots h):Inv X pins σ H' {s' with heap:=h}:=by
 have nf:∀b,b∈frs X.stack->H' b=none:=λb e=>by
  obtain⟨_,o,ho,_⟩:=I.stack.mem e;exact un.free b o ho (I.stkFree b e) (λz=>nomatch z)
 have G:∀b o,s'.heap.get? b=some o->((∃o',s.heap.get? b=some o')\/∃u,H' b=some u)->b∉frs X.stack->h.get? b=some o:=λb o e q n=>hB b o (cov b o e q n);refine I.call' (s':={s' with heap:=h}) (ch:=[]) os ⟨λb o e hn F _=>?_,λb o e hn F _=>?_,un.free,λb o e _=>?_,un.tups,un.frzs,un.tbls⟩ (λa o ha=>?_) bare (λb z=>absurd z (by simp))
 .exact G b o (un.keep b o e hn F (λz=>nomatch z)) (.inl ⟨o,e⟩) F
 .obtain⟨sl,hs⟩:=un.slot b o e hn F (λz=>nomatch z);obtain⟨_,o2,O,Ua⟩:=I.stack.mem F;have eo:o2=o:=Option.some.inj (O.symm.trans e);subst eo;obtain⟨Y,J⟩:=up b _ hs (λws z=>Ua ws z);exact⟨Y,J⟩
 .by_cases F:b∈frs X.stack
  .obtain⟨sl,hs⟩:=un.slot b o e (I.stkFree b F) F (λz=>nomatch z);obtain⟨_,o2,O,Ua⟩:=I.stack.mem F;have eo:o2=o:=Option.some.inj (O.symm.trans e);subst eo;obtain⟨Y,J⟩:=up b _ hs (λws z=>Ua ws z);exact⟨_,J⟩
  .obtain⟨o',ho'⟩:=un.there b o e (λz=>nomatch z);exact⟨o',G b o' ho' (.inl ⟨o,e⟩) F⟩
 .refine(hok a o ha).stay (λb u e q=>?_) (λ_ q=>q) (λ_ _ q=>q);have hu:∃u,H' b=some u:=by
   grind
  refine G b u q (.inr hu) λF=>?_;obtain⟨u',Z⟩:=hu;rw[nf b F]at Z;cases Z
def Inv.known{o:HO}(I:Inv X pins σ H s)(Y:H a=none)(Ua:X.s₀.heap.get? a=none)(h1:a≠X.env.locals)(h2:∀x c,X.env.cells.lookup x=some c->c≠a)(J:∀p∈X.pn++pins,p.1≠a)(ob:YR X.prog X.w (upd H a o) s.heap a o):Inv X pins σ (upd H a o) s:=by
 have ne:∀{b u},H b=some u->b≠a:=λe z=>by rw[z,Y]at e;cases e
 refine⟨I.ok,I.os,I.bare,⟨I.base.keep,I.base.slot,λb u F q O=>?_,I.base.there,λb xs q=>?_,λb u v q=>?_,λb ps q=>?_⟩,I.loc,I.cell,?_,λx c e=>?_,λp G=>?_,λb u q=>?_,I.len⟩
 .rw[Zj (λz=>by rw[z,Ua]at F;cases F)];exact I.base.free b u F q O
 .have z:=I.base.tups b xs q;rw[Zj (ne z)];exact z
 .have z:=I.base.frzs b u v q;rw[Zj (ne z)];exact z
 .obtain⟨more,z⟩:=I.base.tbls b ps q;exact⟨more,by rw[Zj (ne z)];exact z⟩
 .rw[Zj (Qdx h1)];exact I.free
 .rw[Zj (h2 x c e)];exact I.freeC x c e
 .obtain⟨e,n,r⟩:=I.pin p G;exact⟨e,by rw[Zj (J p G)];exact n,r⟩
 .by_cases F:b=a
  .subst F;rw[Za]at q;cases q;exact ob
  .rw[Zj F]at q;exact(I.hok b u q).stay (λ_ _ _ q=>q) (λc q=>by rw[Zj (ne q)];exact q) (λc xs q=>by rw[Zj (ne q)];exact q)
def Zdw{M:Model}{A:Ar}{E:Ab}{v:V}{Q:Unit->Shared->Prop}(I:Inv X pins σ H s)(hN:X.N.Nodup)(hi:X.N[i]?=some x)(Y:X.env.scope.names.lookup x=some .local)(hv:σ[i]?=some (some v))
  (h:∀s',Inv X pins (σ.set i none) H s'->Q () s'):wpAny M A (unbindName X.env x) Q E s:=by
 obtain⟨m,hn,hl⟩:=id I.loc;have O:(X.env.scope.kind == .class||(X.env.scope.kind == .module&&X.env.locals != X.env.globals))=false:=by rw[I.ok.kind];rfl
 have J:i<σ.length:=by rw[I.len];exact(Qae.mp hi).1
 have cne:=I.cne;obtain⟨oL,_,_,hoL,_⟩:=id hn;obtain⟨u0,_,q0⟩:=hl i x v hi hv (.inl Y);have hm:m x=some u0:=by
  rcases q0 with⟨_,e⟩|⟨k,_⟩
  .exact e
  .rcases k with k|k
   .have G:X.env.scope.names.lookup x=some .cell:=k;rw[Y]at G;cases G
   .have G:X.env.scope.names.lookup x=some .free:=k;rw[Y]at G;cases G
 refine wpAny_unbindName_local Y hn hm O λh' u hn' F=>?_;refine h _ ⟨I.ok,I.os,I.bare,⟨λb o e n hb Ua=>?_,λb o e n hb Ua=>?_,I.base.free,λb o e Ua=>?_,I.base.tups,I.base.frzs,I.base.tbls⟩,⟨_,hn',λj y v' e1 e2 e3=>?_⟩,λy c e=>?_,I.free,I.freeC,λp hp=>?_,λb ob e=>?_,by simpa using I.len⟩
 .exact(F.2 b (Qa8 (Qa7 (Qao e) I.ok.above))).trans (I.base.keep b o e n hb Ua)
 .obtain⟨sl,e1⟩:=I.base.slot b o e n hb Ua;exact⟨sl,(F.2 b (Qa8 (Qa7 (Qao e) I.ok.above))).trans e1⟩
 .obtain⟨o',e1⟩:=I.base.there b o e Ua;exact⟨o',(F.2 b (Qa8 (Qa7 (Qao e) I.ok.above))).trans e1⟩
 .by_cases hj:j=i
  .subst hj;rw[Qek J]at e2;cases e2
  .rw[Qf2 (Qdx hj)]at e2;obtain⟨u',r',q⟩:=hl j y v' e1 e2 e3;refine⟨u',r',?_⟩;rcases q with⟨k,e⟩|⟨k,c,e,z⟩
   .refine .inl ⟨k,?_⟩;have:y≠x:=λe=>hj (yc hN e1 (e ▸ hi));simp[this,e]
   .exact .inr ⟨k,c,e,z.sameBut F (cne y c e)⟩
 .obtain⟨w',z⟩:=I.cell y c e;exact⟨w',z.sameBut F (cne y c e)⟩
 .obtain⟨e,n,ne,nf,d⟩:=I.pin p hp;exact⟨(F.2 p.1 ne).trans e,n,ne,nf,d⟩
 .refine(I.hok b ob e).stay (λc w' Z q=>(F.2 c ?_).trans q) (λ_ q=>q) λ_ _ q=>q
  rintro rfl;rcases Z with rfl|Z
  .rw[I.free]at e;cases e
  .rw[I.free]at Z;cases Z
abbrev Cx.under(X:Cx)(e:Aw)(f:Ab):Cx:={X with A:=X.A.mark (some (.ref e)),calm:=false,xe:=f}
theorem Inv.under(I:Inv X pins σ H s)(e:Aw)(f:Ab):Inv (X.under e f) pins σ H s:=
 ⟨⟨I.ok.mod,I.ok.kind,I.ok.glob,I.ok.blt,I.ok.above,I.ok.inj,I.ok.has,I.ok.cab,(λz=>nomatch z),I.ok.frames,I.ok.stk,I.ok.exf,I.ok.bs,I.ok.bsz,I.ok.noex,I.ok.exfs,I.ok.funs,I.ok.frf⟩,I.os,I.bare,I.base,I.loc,I.cell,I.free,I.freeC,I.pin,I.hok,I.len⟩
theorem Inv.outof{f:Ab}(ok:X.Ok)(I:Inv (X.under a f) pins σ H s):Inv X pins σ H s:=
 ⟨ok,I.os,I.bare,I.base,I.loc,I.cell,I.free,I.freeC,I.pin,I.hok,I.len⟩
def Zdx{M:Model}{A:Ar}{E:Ab}{pos:Pos}{Q:Unit->Shared->Prop}(I:Inv X pins σ H s)(F:X.N.Nodup)(hi:X.N[i]?=some x)(z:X.env.scope.names.lookup x=some .local)
  (h:∀s',Inv X pins ((σ.set i (some .non)).set i none) H s'->Q () s'):wpAny M A (do bindName X.env x .none;unbindBehindTheSuite X.env x pos) Q E s:=by
 have e:i<σ.length:=by rw[I.len];exact(Qae.mp hi).1
 refine Qaa (wpAny_bindName (X9 (v:=.non) I F hi (.inl z) U (λJ G=>?_) (.inr z)));exact Qge (Zdw G F hi z (Qek e) h)
end
def Wc(base:Heap)(C D:Aw):Prop:=∃nm q N bs bm hdct sn sub ab col dd k0 k1 k2 k3 k5 newId,base.get? C=some (excClassObj nm q C N bs bm hdct sn sub ab col dd k0 k1 k2 k3 k5 newId)/\(Value.ref C::bm).contains (.ref D)=true
def xV(C e:Aw):Heap->Prop:=λh=>∃o,h.get? e=some o/\o.cls=.ref C
def Zhl{C:Aw}(x:xV C a h):YR P w H h a (.ext (xV C a)):=by
 obtain⟨o,e,F⟩:=x;exact⟨⟨o,e,F⟩,⟨o,e⟩,λh1 h2 ⟨z,G,I⟩ k=>⟨z,k z G,I⟩⟩
section
variable {prog:Aq}{w:Au}{A:Ar}{E:Ab}{s:As}{env:Env}
def yw{C D:Aw}{bmB:Ag}{newId:String}{mg:Ae}{n:Str}{b₀:Ay}{suite:List Ay}{pos:Pos}{rest:List ExceptHandler}{Q:Flow->Shared->Prop}{F0 F1:Ab}
  (z:bmB.contains (.type "BaseException")=true) (hF0:F0=notedBy (model prog w) (A.mark (some (.ref a))) env (cameBackBy (model prog w) A env E)) (Y:F1=AsSuiteRaised (model prog w) (A.mark (some (.ref a))) env n pos F0)
  (h:A3 prog w (A.mark (some (.ref a))) (eval o env) (λc e=>c=.ref D/\OwnCls x D bmB newId mg e.heap/\Wc e.heap C D/\(∃oe,e.heap.get? a=some oe/\oe.cls=.ref C) /\
   A3 prog w (A.mark (some (.ref a))) (setFlight (.ref a) none) (λ_ s₂=>
     A3 prog w (A.mark (some (.ref a))) (storeName env n (.ref a)) (λ_ Ua=>
      A3 prog w (A.mark (some (.ref a))) (execs (b₀::suite) env)
       (λf F=>A3 prog w A (do bindName env n .none;unbindBehindTheSuite env n pos) (λ_ J=>Q f J) E F)
       F1 Ua) F0 s₂) F0 e) F0 s):
  A3 prog w A (handleBy (.ref a) env (.ExceptHandler (some o) (some n) (b₀::suite) pos::rest)) Q E s:=by
 subst hF0 Y;refine wpAny_handleBy_cons (codeAny_handlers_test (Qcq h (λc e G=>?_) λ_ _ y=>y)) (by intro q;cases q);obtain⟨rfl,O,⟨nm',q',N',bs',bm',hdct',sn',sub',ab',col',dd',k0',k1',k2',k3',k5',newId',Z,hin⟩,⟨oe,he,I⟩,hk⟩:=G;obtain⟨bm,N,nm,q,bs,hdct,sn,sub,ab,col,dd,k0,k1,k2,k3,k5,mN,hC,hN,hni,T⟩:=O.obj;obtain⟨hh,g,d,tk,os⟩:=e;exact ji Z hC he I (T.hasType z) hin (codeAny_handlers_suite_as hk)
end
def Wc.keeps{h':Heap}{C D:Aw}(b:Wc h C D)(k:∀a o,h.get? a=some o->h'.get? a=some o):Wc h' C D:=by
 obtain⟨nm,q,N,bs,bm,hdct,sn,sub,ab,col,dd,k0,k1,k2,k3,k5,newId,z,e⟩:=b;exact⟨nm,q,N,bs,bm,hdct,sn,sub,ab,col,dd,k0,k1,k2,k3,k5,newId,k _ _ z,e⟩
section
variable {X:Cx}{pins:Ac}{σ:St}{H:Hp}{s:As}
def Inv.ofWish{f:Ab}(I:Inv (X.wish f) pins σ H s):Inv X pins σ H s:=⟨I.ok.unwish,I.os,I.bare,I.base,I.loc,I.cell,I.free,I.freeC,I.pin,I.hok,I.len⟩
def Zhm(n:Nat)(D:Ends):Ends:={nx:=λe H'=>D.nx ((e.set n (some .non)).set n none) H',rt:=λ_ _=>False}
def tryE(base:Heap)(Dc:Aw)(n:Nat)(ts:TS)(D:Ends)(σ:St):XK:=λcls z H'=>∃C e,cls=.ref C/\z=some e/\Wc base C Dc/\ts (Zhm n D) (σ.set n (some (.ref e))) (upd H' e (.ext (xV C e)))
def Zlv(base:Heap)(Dc:Aw)(i n:Nat)(sp:Sp)(t:TA)(ts:TS):TS:=λD σ H=>t σ H λvs H1=>sp vs H1 (λv H2=>D.nx (σ.set i (some v)) H2) (tryE base Dc n ts D σ)
variable {k:Nat}{f:Aw}{fd:Ao}{ps:Ai}{sp:Sp}{g x y n:Str}{p np p0 cpos spos hpos pos:Pos}{e₀:Ax}{es:An}{t:TA}{b₀:Ay}{suite:List Ay}{i j:Nat}{Dc:Aw}{ts:TS}
end
open PySem.Calls
open PySem.W (Frag InstAt findObj plainGet plainGet_of kin_open kin_hooked class_get handed_on mroIn clsIn Looks subIn typeIn looks_typeIn looks_subIn isIn isi_call)
section
variable {prog:Aq}{w:Au}{A:Ar}{E:Ab}{s:As}{K:Frag}{e C D:Aw}{oe:Obj}{od:Option Obj}
theorem vY{M:Model}(X:K.In h)(q:(clsIn K C).isSome=true):Looks M h (isType (.ref C)) true:=by
 unfold clsIn at q;split at q
 .rename_i e;intro G F I s' k z;exact Qaa (wpAny_loadPart (k _ _ (X _ _ e)) (Qaf z))
 .cases q
end
end L2
namespace L2
open PySem.Calls
open PySem.W Builtin Builtin.ObjectAttr Builtin.Getset_descriptor
section
variable {prog:Aq}{w:Au}{A:Ar}{E:Ab}{s:As}{K:Frag}{e C D:Aw}
def Zhn (K:Frag) (C:Aw):Bool:=findIn K (.ref C) "__getattribute__" == some (some (.builtin "BaseException.__getattribute__"))&&(findIn K (.ref C) "__getattr__" == some none&&mroIn K C (.type "BaseException") == some true)
structure Cl3(K:Frag)(C:Aw):Prop where
 get:Zhn K C=true
 found:findIn K (.ref C) "__class__" = some (some (.builtin "object.__class__"))
 desc:specialIn K (.builtin "object.__class__") "__get__" = some (some (.builtin "getset_descriptor.__get__"))
 data:takesIn K (.builtin "object.__class__")=some true
 mro:mroIn K C (.type "object")=some true
 cls:(clsIn K C).isSome=true
def Zdy {M:Model}  (X:K.In h) {name:Str} {a g:Av} (O:findIn K (.ref C) name=some (some a)) (I:specialIn K a "__get__" = some (some g)) (F:takesIn K a=some true):Looks M h (find (.ref e) (.ref C) name) (.bind g a):=by
 have J:=looks_findIn (M:=M) X O;have z:Looks M h (getOf (some a)) (some g):=looks_specialIn X I;have G:=looks_takesIn (M:=M) X F;exact J.andThen (z.andThen ((show Looks M h (dataDescriptor? (some a) (some g)) (some (g,a))from G.andThen .now).andThen (Looks.tag .now)))
def ask_by{name:Str}{tk:Tok}{fill:Bool}(X:K.In s.heap)(T:Looks (model prog w) s.heap (typeOf (.ref e)) (.ref C))(G:Zhn K C=true)
  (h:A3 prog w A.in1 (Builtin.«object.__getattribute__» ⟨[.ref e,.str name tk],[]⟩)
   (λfin s'=>match fin with|.done (.ret v)=>A3 prog w A (handedOut v) Q E s'|_=>False) (λ_ _=>False) s):
  A3 prog w A (getAttrBy (.ref e) (.str name tk) fill j) Q E s:=by
 unfold Zhn at G;rw[Qa4,Qa4,Qd0,Qd0,Qd0]at G;obtain⟨Y,g2,g3⟩:=G;have L1:=looks_findIn (M:=model prog w) X Y;have J:=looks_findIn (M:=model prog w) X g2;have O:Looks (model prog w) s.heap (isInstance (.ref e) (.type "BaseException")) true:=T.andThen (looks_mroIn X g3);have z2:(Value.builtin "BaseException.__getattribute__" == Value.builtin "object.__getattribute__")=false:=by decide +kernel
 have z1:¬(onTheHeap (Value.ref C)&&Value.builtin "BaseException.__getattribute__" == Value.builtin "object.__getattribute__")=true:=by rw[z2];exactλz=>nomatch z
 have Ua:¬(j&&onTheHeap (Value.builtin "BaseException.__getattribute__"))=true:=by cases j<;>exactλz=>nomatch z
 obtain⟨hh,g,dr,t,os⟩:=s;refine Qb4 (Qaa (T.at (Qaa (L1.at ?_))));show wpAny _ _ (if(onTheHeap (Value.ref C)&&Value.builtin "BaseException.__getattribute__" == Value.builtin "object.__getattribute__")=true then _ else getAttrByItsOwn _ _ _ _ _ _) _ _ _;refine Qaa (J.at (Qaa (Qc5 (Qb4 ?_))));unfold callGetattribute;rw[Qax Ua];have Z:builtinKind "BaseException.__getattribute__" = some .slot:=by decide +kernel
 have I:splitId "BaseException.__getattribute__" = some ("BaseException","__getattribute__"):=by decide +kernel
 refine Qaa (Qaf (Qgh (Qf6 PySem.F.attr_ValueError.ga.plain PySem.F.entry_bexc_ga ?_)));refine@check_slot (model prog w) _ _ ⟨hh,g,dr,t,os⟩ "BaseException.__getattribute__" "BaseException" "__getattribute__" (.ref e) [.str name tk] [] _ Z I O (PySem.F.args_bexc_ga _ _) ?_;refine Qcq h (λfin s' z=>?_) λ_ _ z=>z.elim;rcases fin with(_|_|_|_)|_<;>first|exact z|exact z.elim
def Zlw{name:Str}{tk:Tok}{R:Found}{Q:Fin->Shared->Prop}(T:Looks (model prog w) s.heap (typeOf (.ref e)) (.ref C))(L:Looks (model prog w) s.heap (find (.ref e) (.ref C) name) R)(z:R≠.missing)
  (h:A3 prog w A (match R with|.value v=>ret v|.bind g a=>bindTo g a (.ref e) (.ref C)|.missing=>unsupported "") Q E s):
  A3 prog w A (Builtin.«object.__getattribute__» ⟨[.ref e,.str name tk],[]⟩) Q E s:=by
 obtain⟨hh,F,d,t,os⟩:=s;refine Qaa (Qaf (Qaa (Qaf (Qaa (T.at (Qaa (L.at ?_)))))));cases R with
 |value v=>exact h
 |bind g a=>exact h
 |missing=>exact absurd U z
def Zlx  {R:Result->Shared->Prop} (X:K.In s.heap) (T:Looks (model prog w) s.heap (typeOf (.ref e)) (.ref C)) (z:mroIn K C (.type "object")=some true)
  (h:R (.ok (.ret (.ref C))) s):codeAny (model prog w) A (.call (.builtin "getset_descriptor.__get__") ⟨[.builtin "object.__class__",.ref e,v],[]⟩) R s:=by
 obtain⟨G,g,dr,t,os⟩:=s;have F:=looks_mroIn (M:=model prog w) X z;refine Qf6 KF.slot_gs.plain KF.entry_gs (KF.slot_gs.check _ _ _ _ _ _ _ _ KF.type_class (KF.args_gs _ _ _) ?_);unfold Builtin.«getset_descriptor.__get__» descrGet;refine Qaa (Qaf ?_);unfold descrGetter descrCheckInstance descrNameAndClass isInstance;simp only[KF.owner_class]
 repeat lk
 refine⟨Code.quiet_builtin _ (by decide +kernel),Qct KF.entry_class ?_⟩
 repeat lk
 exact h
def Zdz {Q:Aa} (F:Cl3 K C) (X:K.In s.heap) (T:Looks (model prog w) s.heap (typeOf (.ref e)) (.ref C)) (h:Q (some (.ref C)) {s with toks:=s.toks+1}):A3 prog w A (getAttr? (.ref e) "__class__") Q E s:=by
 refine Qaa (wpAny_mkText (Qaa (Qc5 ?_)));refine ask_by (s:={s with toks:=s.toks+1}) X T F.get (Zlw (s:={s with toks:=s.toks+1}) (R:=.bind (.builtin "getset_descriptor.__get__") (.builtin "object.__class__")) T (Zdy X F.found F.desc F.data) (λz=>nomatch z) ?_);refine Qaa (Qb4 (Qgh (Zlx (s:={s with toks:=s.toks+1}) X T F.mro ?_)));exact Qaf (handed_on U (Qaf h))
end
end L2
namespace L2
open PySem.Calls
theorem yx{C:Aw}(F:Cl3 K C):PySem.W.KitX K (.ref a) (.ref C) (xV C a)where
 ty:=λM h _ ⟨o,h1,h2⟩=>h2 ▸ (PySem.W.Looks.ld h1).andThen .now
 it:=λ_ _ X _=>vY X F.cls
 ne:=λh Ua dd I n O X e=>by
  have z:=F.cls;refine Bool.eq_false_iff.mpr λq=>?_;cases Value.ref.inj (Qd0.mp q);unfold PySem.W.clsIn at z
  split at z
  .rename_i G;have J:=(X _ _ G).symm.trans e;cases J
  .cases z
 ca:=λ{prog w A E Q s} X p k=>by
  obtain⟨o,h1,h2⟩:=p;exact Zdz F X (h2 ▸ (PySem.W.Looks.ld h1).andThen .now) k
inductive TyX(K:Af)(H:Hp):V->Value->Prop
 |non:TyX K H .non (.type "NoneType")
 |exc {e C:Aw} (h:H e=some (.ext (xV C e))) (F:Cl3 K C):TyX K H (.ref e) (.ref C)
def rIsX(K:Af):A2->Hp->VK->Prop:=λxs H Q=>∃x c t b,xs=[x,c]/\TyX K H x t /\
 ((∃T,c=.ty T/\PySem.W.kitOne K t (.type T)=some b)\/(∃D,c=.ref D/\PySem.W.kitOne K t (.ref D)=some b)\/(∃(e:Aw)(ds:List Aw),c=.ref e/\H e=some (.tup (ds.map V.ref))/\PySem.W.kitAny K t (ds.map Value.ref)=some b))/\Q (.bl b) H
theorem vZ:∀{ds:List Aw} {e:Ag},Vals (ds.map V.ref) e->e=ds.map Value.ref
 |[],_,r=>by cases r;rfl
 |d::ds,_,r=>by
  cases r with
  |cons z F=>rw[vZ F,show _=Value.ref d from z];rfl
def yy {X:Cx}:YS X (.builtin "isinstance") (rIsX X.K):=by
 intro pins s σ H xs us Q I r h;obtain⟨x,c,t,b,rfl,ty,hc,q⟩:=h;obtain⟨u,w',rfl,G,rt⟩:=vals2 r;have fin:∀tk,EP X pins σ Q (.bool b) {s with toks:=tk}:=λtk=>⟨.bl b,H,I.tok tk,U,q⟩;obtain⟨T,rfl,e⟩|⟨D,rfl,e⟩|⟨tp,ds,rfl,Z,e⟩:=hc
 .cases rt;cases ty with
  |non=>cases(show u=Value.none from G);exact Qcg Qfq I.kIn True.intro e (λz=>nomatch z) fin
  |exc hh F=>cases G;exact Qcg (yx F) I.kIn (I.hok _ _ hh).1 e (λz=>nomatch z) fin
 .cases rt;cases ty with
  |non=>cases(show u=Value.none from G);exact Qcg Qfq I.kIn True.intro e (λz=>nomatch z) fin
  |exc hh F=>cases G;exact Qcg (yx F) I.kIn (I.hok _ _ hh).1 e (λz=>nomatch z) fin
 .cases rt;obtain⟨_,its,ri,o,Ua,J,⟨n,Y⟩,_⟩:=(show YR X.prog X.w H s.heap tp (.tup _)from I.hok _ _ Z);cases vZ ri;obtain⟨oc,od,O,osl⟩:=o;cases J;cases Y;cases ty with
  |non=>cases(show u=Value.none from G);exact PySem.W.kia_tup Qfq I.kIn True.intro Ua e (λz=>nomatch z) fin
  |exc hh F=>cases G;exact PySem.W.kia_tup (yx F) I.kIn (I.hok _ _ hh).1 Ua e (λz=>nomatch z) fin
open PySem.W Builtin Builtin.ObjectAttr
end L2
namespace L2
open PySem.Calls
open PySem.W
def Zho(K:Frag)(C:Aw):Bool:=match K.lookup C with
 |some ⟨.type "type",_,.cls e,sm⟩=>(match e.mro,sm.toList with
  |.ref z::tl,[_,_,_,_,some (.builtin n),_]=>z == C&&(n == "ValueError.__new__" && (!e.hasDel&&tailIn K Zpg tl))
  |_,_=>false)
 |_=>false
theorem ug {K:Frag}  {C:Aw} (X:K.In h) (q:Zho K C=true):∃nm F N bs tl z sn sub ab col dd k0 k1 k2 k3 k5,h.get? C=some (excClassObj nm F C N bs tl z sn sub ab col dd k0 k1 k2 k3 k5 "ValueError.__new__")/\OwnTail h Zpg tl:=by
 unfold Zho at q;split at q
 .rename_i dd O sm Ua;split at q
  .rename_i C' tl k0 k1 k2 k3 n k5 Z Y;rw[Qa4,Qa4,Qa4,Qd0,Qd0,Bool.not_eq_true']at q;obtain⟨rfl,rfl,e,I⟩:=q;obtain⟨nm,bs,G,ns,F,z,sn,sub,ab,col,J⟩:=O;cases e;cases Z;obtain⟨l⟩:=sm;cases Y;exact⟨nm,F,ns,bs,tl,z,sn,sub,ab,col,dd,k0,k1,k2,k3,k5,X _ _ Ua,tail_of_in X I⟩
  .cases q
 .cases q
end L2
namespace L2
open PySem.Calls
section
variable {X:Cx}{k k2:Nat}{f f2:Aw}{fd fd2:Ao}{ps ps2:Ai}{sp sp2:Sp}{g g2 x y n:Str}{p np p0 cpos spos q np2 q0 cpos2 spos2 hpos ipos pos:Pos}{e₀ e2:Ax}{es es2:An}{t t2:TA}{b₀:Ay}{suite:List Ay}{i j:Nat}{Dc:Aw}{ts:TS}{c:Ax}{tc:TT}
def hnd(X:Cx)(pins:Ac)(D:Ends)(y n:Str)(np hpos:Pos)(b₀:Ay)(suite:List Ay)(e:Av)(F:As):Prop:=A4 X (noteFrame e X.env) (λ_ s₂=>A4 X (setFlight e none) (λ_ z=>A4 X (handleBy e X.env [.ExceptHandler (some (.Name y np)) (some n) (b₀::suite) hpos]) (SP X pins D) X.xe z) X.xe s₂) X.xe F
def Zd0{pins:Ac}{σ:St}{D:Ends}{B:Flow->Shared->Prop}{f':Ab}(hx:X.ex=[])(hstk:X.stack=X.env::X.outer)(hfr:X.env.frame=some X.env.locals)(F:xB X.prog X.w X.K X.mg X.base (CXO X.prog X.w) k f fd ps sp)(hr:Wo k X.A)(hg:Gl X g)(hm:X.mg g=some (.ref f))(hk:PySem.W.keepIn X.K (.ref f)=true)(hb:Binds X.K fd ps [])
  (ha:∀f',QA (X.wish f') (e₀::es) t) (hN:X.N.Nodup) (hi:X.N[i]?=some x) (hix:X.env.scope.names.lookup x=some .local) (hj:X.N[j]?=some n) (hjn:X.env.scope.names.lookup n=some .local)
  (hgd:Gl X y) (O:Zdv y Dc X.mg X.base) (hs:∀e f',QSs (X.under e f') (b₀::suite) ts)
  (hdb:(g == ("__debug__" : Str))=false) (he:starEach (e₀::es) X.env=(false,eval e₀ X.env)::starEach es X.env) (hpl:(backTo cpos (starEach es X.env)).any (·.1)=false)
  (hsw:swapsWith (.Call (.Name g p) (e₀::es) [] cpos) (some (.Name x p0)) spos.line X.env=pure false) (hdd:(y == ("__debug__" : Str))=false)
  (hf':f'=hnd X pins D y n np hpos b₀ suite) (hB:∀s2 H2 σ2,Inv X pins σ2 H2 s2->D.nx σ2 H2->B .next s2) (I:Inv X pins σ H s) (h:Zlv X.base Dc i j sp t ts D σ H):
  A4 X (execs [.Assign [.Name x p0] (.Call (.Name g p) (e₀::es) [] cpos) spos] X.env) B f' s:=by
 refine Qf0 (wpAny_Assign_Name ?_ hsw);refine thn (Q:=EP X pins σ λv H2=>D.nx (σ.set i (some v)) H2) ?_ λv s1 ⟨z,H1,Ua,r1,q1⟩=>X9 Ua hN hi (.inl hix) r1 (λs2 I2=>Qdn (hB _ _ _ I2 q1)) (.inr hix);refine Qc2 (JP I hg hm ?_ hdb);refine Qfd (h₀:=X.base) I.ok.mod.kin hk (thn ((ha f').out cpos pins s σ H _ (I.wish f') h) λus s1 ⟨vs,H1,J1,r,q⟩=>⟨J1.ofWish.kIn,?_⟩) he hpl;have Ua:Inv X pins σ H1 s1:=J1.ofWish;have hl:us.length=ps.length:=by rw[<-r.length];exact F.len _ _ _ _ q
 have hb':=hb s1 us Ua.kIn (by rw[Qbp];exact hl);rw[Qbp]at hb';refine Qgh (Qeg (F.run X.A X.stack s1 H1 ⟨us,[]⟩ us vs _ _ hr Ua.env0 hb' r q) λr s' hq=>?_);cases r with
 |ok fl=>
  cases fl with
  |ret u=>exact Ua.after hq
  |next=>exact False.elim hq
  |brk=>exact False.elim hq
  |cont=>exact False.elim hq
 |error v=>
  rw[hf'];obtain⟨e,t0,C,args,H',B,rfl,os,bare,un,hok,fly,tup,cov,hHe,Y,C',e',ec,ee,below,hts⟩:=hq;cases ec;cases ee;have hfm:X.A.frames=some (X.env::X.outer):=by rw[I.ok.frames,hstk]
  have fly0:=fly;rw[hstk]at fly0;refine wpAny_looks_onW hfm hfr fly0 λh4 held4 up4=>?_;refine wpAny_landsW held4 λh5 J up5=>?_;have I5:=uf Ua os bare un hok cov J.1 (up4.trans up5);refine yw (C:=C) (D:=Dc) (x:=y) (bmB:=Zpg) (newId:= "ValueError.__new__") (mg:=X.mg) U U U (JP (X:=X.under e X.xe) (I5.under e X.xe) hgd O.bound ⟨U,O.keeps I5.bk,below.keeps I5.bk,J.there,?_⟩ hdd);refine lands_againW J λh6 Z up6=>?_;have I6:=uf Ua os bare un hok cov Z.1 ((up4.trans up5).trans up6);have h0:X.s₀.heap.get? e=none:=by
   cases q:X.s₀.heap.get? e with
   |none=>rfl
   |some o=>
    obtain⟨o',ho'⟩:=Ua.base.there e o q (by rw[hx];exactλz=>nomatch z);rw[Y]at ho';cases ho'
  have I7:=I6.known (o:=.ext (xV C e)) hHe h0 (λz=>by
    obtain⟨m,⟨oL,_,_,hoL,_⟩,_⟩:=Ua.loc;rw[<-z,Y]at hoL;cases hoL) (λx c hc z=>by
    obtain⟨w',oc,hoc,_⟩:=Ua.cell x c hc;rw[z,Y]at hoc;cases hoc) (λp hp z=>by
    have:=(Ua.pin p hp).1;rw[z,Y]at this;cases this) (Zhl Z.there)
  refine X9 (v:=.ref e) I7 hN hj (.inl hjn) U (λs8 I8=>?_) (.inr hjn);refine Qcq ((hs e _).out pins s8 _ _ _ (I8.under e _) hts) (λfl s9 G=>?_) (λ_ _ z=>z);cases fl with
  |next=>
   obtain⟨σ9,H9,J9,G⟩:=G;exact Zdx (J9.outof I.ok) hN hj hjn λs10 I10=>⟨_,H9,I10,G⟩
  |ret u=>
   obtain⟨_,_,_,_,_,G⟩:=G;exact G.elim
  |brk=>
   obtain⟨_,_,_,G⟩:=G;exact G.elim
  |cont=>
   obtain⟨_,_,_,G⟩:=G;exact G.elim
def tTryI(tc:TT)(u v:TS):TS:=λD σ H=>tc σ H λb H1=>if b=true then u D σ H1 else v D σ H1
def Zly(hx:X.ex=[])(G:X.stack=X.env::X.outer)(Ua:X.env.frame=some X.env.locals)(hc:∀J,QT (X.wish J) c tc)(F:xB X.prog X.w X.K X.mg X.base (CXO X.prog X.w) k f fd ps sp)(hr:Wo k X.A)(hg:Gl X g)(hm:X.mg g=some (.ref f))(hk:PySem.W.keepIn X.K (.ref f)=true)(hb:Binds X.K fd ps [])
  (ha:∀J,QA (X.wish J) (e₀::es) t) (F2:xB X.prog X.w X.K X.mg X.base (CXO X.prog X.w) k2 f2 fd2 ps2 sp2) (hr2:Wo k2 X.A) (hg2:Gl X g2) (hm2:X.mg g2=some (.ref f2)) (hk2:PySem.W.keepIn X.K (.ref f2)=true) (hb2:Binds X.K fd2 ps2 [])
  (ha2:∀J,QA (X.wish J) (e2::es2) t2) (hN:X.N.Nodup) (hi:X.N[i]?=some x) (hix:X.env.scope.names.lookup x=some .local) (hj:X.N[j]?=some n) (hjn:X.env.scope.names.lookup n=some .local)
  (hgd:Gl X y) (O:Zdv y Dc X.mg X.base) (hs:∀e J,QSs (X.under e J) (b₀::suite) ts)
  (hdb:(g == ("__debug__" : Str))=false:=by decide) (he:starEach (e₀::es) X.env=(false,eval e₀ X.env)::starEach es X.env:=by rfl) (hpl:(backTo cpos (starEach es X.env)).any (·.1)=false:=by rfl)
  (hsw:swapsWith (.Call (.Name g p) (e₀::es) [] cpos) (some (.Name x p0)) spos.line X.env=pure false:=by rfl) (Z:(g2 == ("__debug__" : Str))=false:=by decide) (he2:starEach (e2::es2) X.env=(false,eval e2 X.env)::starEach es2 X.env:=by rfl) (hpl2:(backTo cpos2 (starEach es2 X.env)).any (·.1)=false:=by rfl)
  (Y:swapsWith (.Call (.Name g2 q) (e2::es2) [] cpos2) (some (.Name x q0)) spos2.line X.env=pure false:=by rfl) (hdd:(y == ("__debug__" : Str))=false:=by decide):
  QS X (.Try [.If c [.Assign [.Name x p0] (.Call (.Name g p) (e₀::es) [] cpos) spos] [.Assign [.Name x q0] (.Call (.Name g2 q) (e2::es2) [] cpos2) spos2] ipos] [.ExceptHandler (some (.Name y np)) (some n) (b₀::suite) hpos] [] [] pos) (tTryI tc (Zlv X.base Dc i j sp t ts) (Zlv X.base Dc i j sp2 t2 ts)):=by
 refine⟨λpins s σ H D I h=>wpAny_Try_except (Qf0 ?_)⟩;have h1:=(hc (hnd X pins D y n np hpos b₀ suite)).out pins s σ H _ (I.wish _) h;refine wpAny_If (Qcq h1 (λd s1 ⟨H1,J1,q1⟩=>?_) λ_ _ z=>z);cases d with
 |true=>exact Zd0 hx G Ua F hr hg hm hk hb ha hN hi hix hj hjn hgd O hs hdb he hpl hsw hdd U (λs2 H2 σ2 I2 q=>Qdn (Qdn ⟨_,H2,I2,q⟩)) J1.ofWish q1
 |false=>exact Zd0 hx G Ua F2 hr2 hg2 hm2 hk2 hb2 ha2 hN hi hix hj hjn hgd O hs Z he2 hpl2 Y hdd U (λs2 H2 σ2 I2 q=>Qdn (Qdn ⟨_,H2,I2,q⟩)) J1.ofWish q1
end
open Builtin Builtin.Str
end L2
namespace L2
open PySem.Calls
open Builtin Builtin.Str
def tFsI(c:Str)(ta:TE):TE:=λσ H Q=>ta σ H λv H1=>∃i:Int,v=.int i/\i.natAbs.log2<1920/\c.length+(Str.ofString (toString i)).length<=1000000/\Q (.str (c++(toString i:String))) H1
section
variable {X:Cx}{e:Ax}{ta:TE}{c:Str}{j:Nat}{p1 p2 pos:Pos}
def len_cat(a b:Str):(a++b).length=a.length+b.length:=strLen_append a b
def qe_fsI(Ua:QE X e ta)(hc:c.length<=1000:=by decide):QE X (.JoinedStr [.Constant (.str c) j p1,.FormattedValue e (-1) none p2] pos) (tFsI c ta):=by
 refine⟨λpins s σ H Q I h=>wpAny_JoinedStr (Calls.Constant_str (k:=j) (pos:=p1) ⟨c,_,U,?_,?_⟩)⟩
 .rw[len_cat,Qer];show 0+c.length<=_;lia
 .refine wpAny_FormattedValue_plain (thn (Ua.out pins _ σ H _ (I.tok _) h) λv s1 ⟨x,H1,J,G,i,Y,F,Z,O⟩=>?_);subst Y;obtain⟨tk,rfl⟩:=G;have z:(Str.empty++c++(toString i:String)).length<=sizeLine:=by
   rw[len_cat,len_cat,Qer];show 0+c.length+(Str.ofString (toString i)).length<=_;lia
  have e2:Str.empty++c++(toString i:String)=c++(toString i:String):=by
   show(⟨(#[]++c.cps)++(Str.ofString (toString i)).cps⟩:Str)=⟨c.cps++(Str.ofString (toString i)).cps⟩;rw[Array.empty_append]
  refine wpAny_formatField_int F ?_;exact⟨_,_,U,z,z,V.str _,H1,J.tok _,⟨_,U⟩,by rw[e2];exact O⟩
end
end L2
namespace L2
open PySem.Calls
open PySem.W
def Zom(K:Frag)(C:Aw):Bool:=Zho K C&&(match K.lookup C with
 |some ⟨_,_,.cls e,_⟩=>nsOkIn K e.ns&&nsIn K e.ns "__init__" == some none
 |_=>false)
theorem JU{K:Frag}{mg:Ae}{C:Aw}(X:K.In h)(m:mg x=some (.ref C))(q:Zom K C=true):Zdv x C mg h:=by
 refine⟨m,?_⟩;unfold Zom at q;rw[Qa4]at q;obtain⟨J,z⟩:=q;obtain⟨nm,O,N,bs,tl,I,sn,sub,ab,col,dd,k0,k1,k2,k3,k5,F,T⟩:=ug X J;split at z
 .rename_i Ua Z kd Y G;rw[Qa4,Qd0]at z;have e:=(X _ _ G).symm.trans F;cases e;exact⟨tl,N,nm,O,bs,I,sn,sub,ab,col,dd,k0,k1,k2,k3,k5,_,F,.of_isNs (isNs_of_in X z.1),nsMap_none_of_in X z.1 z.2,T⟩
 .cases z
def Zd1(K:Frag)(C D:Aw):Bool:=Zho K C&&(match K.lookup C with
 |some ⟨_,_,.cls e,_⟩=>e.mro.contains (.ref D)
 |_=>false)
theorem Wx{K:Frag}{C D:Aw}(X:K.In h)(q:Zd1 K C D=true):Wc h C D:=by
 unfold Zd1 at q;rw[Qa4]at q;obtain⟨J,z⟩:=q;obtain⟨nm,O,N,bs,tl,I,sn,sub,ab,col,dd,k0,k1,k2,k3,k5,F,T⟩:=ug X J;split at z
 .rename_i Ua Z kd Y G;have e:=(X _ _ G).symm.trans F;cases e;exact⟨nm,O,N,bs,tl,I,sn,sub,ab,col,dd,k0,k1,k2,k3,k5,_,F,z⟩
 .cases z
def Zon (K:Frag) (C:Aw):Bool:=Zhn K C&&(findIn K (.ref C) "__class__" == some (some (.builtin "object.__class__"))&&(specialIn K (.builtin "object.__class__") "__get__" == some (some (.builtin "getset_descriptor.__get__"))
 && (takesIn K (.builtin "object.__class__") == some true&&(mroIn K C (.type "object") == some true&&(clsIn K C).isSome))))
def qH{K:Frag}{C:Aw}(q:Zon K C=true):Cl3 K C:=by
 unfold Zon at q;rw[Qa4,Qa4,Qa4,Qa4,Qa4]at q;exact⟨q.1,Qd0.mp q.2.1,Qd0.mp q.2.2.1,Qd0.mp q.2.2.2.1,Qd0.mp q.2.2.2.2.1,q.2.2.2.2.2⟩
end L2
namespace L2
open PySem.Calls
def yz:bootBuiltins "ValueError" = some (.type "ValueError"):=by decide +kernel
open Builtin Builtin.Str
end L2
namespace L2
open PySem
theorem len1{P:List m->Prop}(h:∀a,P [a]):∀e:List m,e.length=1->P e
 |[a],_=>h a
theorem len2{P:List m->Prop}(h:∀a b,P [a,b]):∀e:List m,e.length=2->P e
 |[a,b],_=>h a b
theorem len3{P:List m->Prop}(h:∀a b c,P [a,b,c]):∀e:List m,e.length=3->P e
 |[a,b,c],_=>h a b c
theorem len4{P:List m->Prop}(h:∀a b c d,P [a,b,c,d]):∀e:List m,e.length=4->P e
 |[a,b,c,d],_=>h a b c d
theorem len5{P:List m->Prop}(h:∀a b c d e,P [a,b,c,d,e]):∀z:List m,z.length=5->P z
 |[a,b,c,d,e],_=>h a b c d e
theorem walk_X{q:Aq}{O:(Ae)->Heap->Prop}{K:Params->PySem.W.Frag}{as:List Aw}{r:PySem.W.RowW}{d:DefRec}{F:List (Str×Ax)}{run:Av->List Av->Sem Av}
  (e:∀P,as=(K P).map (·.1)) (W:PySem.W.WalkO q N O (PySem.W.InK K) r d F run):PySem.W.WalkX q N O (PySem.W.X.obsZ as) (PySem.W.X.valZ K n i) r d F run:=
 λw s₀ I mg mb G y a o pm cd J dV kV e1 e2 e3 Z Ua Y args z as L p l R W' nn=>
  W w s₀ I mg mb G (PySem.W.InK.keeps w _ _ (PySem.W.X.z_facts e y).2.1 L.keeps) a o pm cd J dV kV e1 e2 e3 Z Ua Y args z as p l R W' nn
def noT(K:Af):Af:=K.filter λp=>match p.2.cls,p.2.data with
 |.none,.fields _=>false
 |_,_=>true
def noT_ok(K:Af):PySem.W.noTabs (noT K)=true:=by
 unfold PySem.W.noTabs noT;rw[Qcp];intro p e;exact(Qdc.mp e).2
def nodB:Aj->Bool
 |[]=>true
 |a::r=>r.all (λb=>!(Nat.beq a b))&&nodB r
theorem lookup_mem{a:Aw}{o:Obj}:∀{K:Af},K.lookup a=some o->(a,o)∈K
 |(b,u)::r,h=>by
  rw[Qdg]at h
  by_cases e:(a == b)=true
  .grind
  .rw[Bool.eq_false_iff.mpr e]at h;exact Qai _ (lookup_mem h)
theorem mem_lookup{a:Aw}{o:Obj}:∀{K:Af},nodB (K.map (·.1))=true->(a,o)∈K->K.lookup a=some o
 |(b,u)::r,I,h=>by
  rw[Qdg];have F:=Qf8.mp I;rcases Qas.mp h with e|e
  .cases e;rw[Qcw]
  .have G:(a == b)=false:=by
    rw[Qe4];intro z;have:=Qcp.mp F.1 a (Qb9 e);rw[z,Nat.beq_refl b]at this;cases this
   rw[G];exact mem_lookup F.2 e
theorem in_noT(z:nodB (K.map (·.1))=true)(X:K.In h):(noT K).In h:=λa o e=>
 X a o (mem_lookup z (Qdc.mp (lookup_mem e)).1)
theorem cxK{CX:CXT}{mg:Ae}{base:Heap}{qual:Str}{scope:Scope}{A:Ar}{outer:List Env}{E:XK}:(Zce CX P w K mg base N qual scope f v A outer s H E).nox.K=K:=rfl
theorem cxK2{CX:CXT}{mg:Ae}{base:Heap}{qual:Str}{scope:Scope}{A:Ar}{outer:List Env}{E:XK}:(Zce CX P w K mg base N qual scope f v A outer s H E).K=K:=rfl
def let5{G F e z:TS}{D:Ends}(h:let O:=z;let I:=ZX e O;let Ua:=ZX F I;let J:=ZX G Ua;ZX A J D c H):ZX A (ZX G (ZX F (ZX e z))) D c H:=h
def let6{I F z G e:TS}{D:Ends}(h:let J:=e;let Y:=ZX G J;let O:=ZX z Y;let Z:=ZX F O;let Ua:=ZX I Z;ZX A Ua D c H):ZX A (ZX I (ZX F (ZX z (ZX G e)))) D c H:=h
def let10{J G F I z Ua O Y e:TS}{D:Ends}(h:let Z:=e;let U8:=ZX Y Z;let U7:=ZX O U8;let U6:=ZX Ua U7;let U5:=ZX z U6;let U4:=ZX I U5;let U3:=ZX F U4;let U2:=ZX G U3;let U1:=ZX J U2;ZX A U1 D c H):ZX A (ZX J (ZX G (ZX F (ZX I (ZX z (ZX Ua (ZX O (ZX Y e)))))))) D c H:=h
end L2
namespace ZpT
abbrev Zj3 (h:Heap) (T:Aw) (a b c:Av):Prop:=h.get? T=some {cls:=.type "tuple",data:=.seq #[a,b,c]}
end ZpT
namespace L2
def b2i(b:Bool):Int:=if b=true then 1 else 0
def Zoo(k:Int):Av->Bool
 |.int i _=>i == k
 |.bool b=>b2i b == k
 |_=>false
def YY{k:Int}(h:Zoo k v=true):(∃t,v=.int k t)\/∃b,v=.bool b/\k=b2i b:=by
 cases v with
 |int i t=>exact .inl ⟨t,by rw[eq_of_beq h]⟩
 |bool b=>exact .inr ⟨b,U,(eq_of_beq h).symm⟩
 |_=>cases h
section
variable {prog:Aq}{w:Au}
def wX{A:Ar}{E:Ab}{b:Bool}{Q:Int->Shared->Prop}(h:Q (hashInt (b2i b)) {s with toks:=s.toks+1}):A3 prog w A (pyHash (.bool b)) Q E s:=by
 refine PySem.W.pyHash_slot (T:= "bool") U F.slot_bool_hash F.entry_int_hash (F.args_int_hash_1 _) (by decide +kernel) (.inl U) ?_;cases b
 .exact Qaa (Qco U (Qaa (Qgj (Qaf ⟨0,_,U,h⟩))))
 .exact Qaa (Qco U (Qaa (Qgj (Qaf ⟨1,_,U,h⟩))))
end
def dec_eq(a b:Int):decide (a=b)=(a == b):=by grind
def YK(prog:Aq)(w:Au):KeyKind prog w Int where
 is:=Zoo
 hash:=hashInt
 inj:=λv a b I F=>by
  rcases YY I with⟨t,rfl⟩|⟨x,rfl,rfl⟩
  .exact(eq_of_beq (show(a == b)=true from F))
  .exact(eq_of_beq (show(b2i x == b)=true from F))
 byValue:=λk v h=>by
  rcases YY h with⟨t,rfl⟩|⟨x,rfl,rfl⟩<;>rfl
 pyHash:=λz h=>by
  rcases YY z with⟨t,rfl⟩|⟨x,rfl,rfl⟩
  .exact Qg3 h
  .exact wX h
 eqBool:=λG z h=>by
  rw[dec_eq]at h;rcases YY G with⟨t,rfl⟩|⟨x,rfl,rfl⟩
  .rcases YY z with⟨u,rfl⟩|⟨y,rfl,rfl⟩
   .exact wpAny_eqBool_int h
   .exact SeqAt.EqAt.int_bool _ t y _ _ _ _ h
  .rcases YY z with⟨u,rfl⟩|⟨y,rfl,rfl⟩
   .exact SeqAt.EqAt.bool_int x _ u _ _ _ _ h
   .refine SeqAt.EqAt.bool_bool x y _ _ _ _ ?_;have e:(b2i x == b2i y)=(x == y):=by cases x<;>cases y<;>rfl
    rw[e]at h;exact h
 «strs»:=λk x t v h=>by cases h
section
variable {prog:Aq}{w:Au}
def IsPair(prog:Aq)(w:Au)(h:Heap)(k:Int×Ak)(a:Aw):Prop:=
 ∃o n t tk,h.get? a=some o/\o.cls=.type "tuple" /\ o.data=.seq #[.int k.1 tk,.ref t] n/\IsTupleKey (YK prog w) h k.2 t
def uh(prog:Aq)(w:Au)(k:Int×Ak):Int:=reduceHash (Builtin.Tuple.tupleHashOf [hashInt k.1,tupleKeyHash (YK prog w) k.2])
def IsPair.inj{h:Heap}{a:Aw}{x y:Int×Ak}(p:IsPair prog w h x a)(q:IsPair prog w h y a):x=y:=by
 obtain⟨o,n,t,tk,e,c,d,k⟩:=p;obtain⟨o',n',t',Z,z,c',d',F⟩:=q;rw[e]at z;cases z;rw[d]at d';injection d' with Y d2;injection congrArg Array.toList Y with G O;injection G with J _;injection O with I _;injection I with Ua;subst Ua;have:=(tupleKind _).inj k F;exact Prod.ext J this
def IsPair.keeps{h h':Heap}{k:Int×Ak}{a d:Aw}{o:Obj}{es:Array DictEntry}{ep:Nat}(p:IsPair prog w h k a)(e:h.get? d=some o)(I:o.data=.dict es ep)(s:Heap.SameBut d h h'):IsPair prog w h' k a:=by
 obtain⟨O,n,t,tk,e1,G,J,k1⟩:=p;have F:a≠d:=λz=>by
  grind
 exact⟨O,n,t,tk,(s.2 a F).trans e1,G,J,(tupleKind _).keeps k1 e I s⟩
def IsPair.pyHash{A:Ar}{E:Ab}{s:As}{k:Int×Ak}{a:Aw}{Q:Int->Shared->Prop}(I:A.units+1<cLine)(p:IsPair prog w s.heap k a)
  (h:Q (uh prog w k) {s with toks:=s.toks+(k.2.length+3)}):A3 prog w A (PySem.pyHash (.ref a)) Q E s:=by
 obtain⟨o,n,t,tk,e,c,d,J⟩:=p;refine PySem.W.pyHash_slot (T:= "tuple") (id:= "tuple.__hash__") (B:=Builtin.«tuple.__hash__») ⟨o,e,c⟩ F.slot_tuple_hash F.entry_tuple_hash (F.args_tuple_hash_1 _) (by decide +kernel) (.inr (by lia)) ?_;refine Qaa (Qco (a:=(Value.ref a,[])) U ?_);refine Qaa (wpAny_tupleItemsOf e d ?_);refine Qaa (Qgn _ (λrest z s'=>(rest=[.int k.1 tk,.ref t]/\z=#[]/\s'=s)\/(rest=[.ref t]/\z=#[hashInt k.1]/\s'={s with toks:=s.toks+1})\/(rest=[]/\z=#[hashInt k.1,tupleKeyHash (YK prog w) k.2]/\s'={s with toks:=s.toks+1+(k.2.length+1)})) _ ?_ ?_ _ _ (.inl ⟨U,U,U⟩))
 .rintro x rest b s' (⟨e1,rfl,rfl⟩|⟨e1,rfl,rfl⟩|⟨e1,_,_⟩)
  .cases e1;exact Qaa (Qg3 (Qaf (.inr (.inl ⟨U,U,U⟩))))
  .cases e1;refine Qaa (wpAny_pyHash_tuple (knd:=YK prog w) (ks:=k.2) (by exact I) J (Qaf (.inr (.inr ⟨U,U,U⟩))))
  .cases e1
 .rintro b s' (⟨e1,_,_⟩|⟨e1,_,_⟩|⟨_,rfl,rfl⟩)
  .cases e1
  .cases e1
  .refine Qaa (Qgj (Qaf ⟨_,_,U,?_⟩));have G:s.toks+1+(k.2.length+1)+1=s.toks+(k.2.length+3):=by lia
   rw[G];exact h
theorem _root_.PySem.IsTupleKey.any{ks:Ak}(k:IsTupleKey (YK prog w) h ks a)(z:Aq)(F:Au):IsTupleKey (YK z F) h ks a:=by
 obtain⟨o,items,n,e,c,d,it⟩:=k;have go:∀{ks:Ak} {vs:Ag},ItemsAre (YK prog w) ks vs->ItemsAre (YK z F) ks vs:=by
  intro ks vs hh
  induction hh with
  |nil=>exact .nil
  |cons h1 _ G=>exact .cons h1 G
 exact⟨o,items,n,e,c,d,go it⟩
def IsPair.eqBool{A:Ar}{E:Ab}{s:As}{x y:Int×Ak}{a b:Aw}{Q:Bool->Shared->Prop}(Z:A.units+1<cLine)(p:IsPair prog w s.heap x a)(q:IsPair prog w s.heap y b)
  (h:Q (decide (x=y)) s):A3 prog w A (PySem.eqBool (.ref a) (.ref b)) Q E s:=by
 by_cases G:a=b
 .subst G;have:=p.inj q;rw[Qan this]at h;exact SeqAt.EqAt.same _ prog w E Q h
 .obtain⟨o,n,t,tk,e,c,d,kt⟩:=p;obtain⟨o',n',t',F,Ua,Y,d',I⟩:=q;have it:∀j (h1:j<(#[Value.int x.1 tk,.ref t]).size) (h2:j<(#[Value.int y.1 F,.ref t']).size),SeqAt.EqAt A.in1 s (#[Value.int x.1 tk,.ref t])[j] (#[Value.int y.1 F,.ref t'])[j] (if j=0 then x.1 == y.1 else decide (x.2=y.2)):=by
   intro j h1 h2
   match j,h1,h2 with
   |0,_,_=>exact SeqAt.EqAt.int_int x.1 tk y.1 F
   |1,_,_=>exactλz J E' Q' h'=>wpAny_eqBool_tuple (Z) (kt.any z J) (I.any z J) h'
  have r:=SeqAt.RcAt.tuples ⟨o,e,c,n,d⟩ ⟨o',Ua,Y,n',d'⟩ (by lia) it;have O:((List.range (min (#[Value.int x.1 tk,.ref t]).size (#[Value.int y.1 F,.ref t']).size)).all (λj=>if j=0 then x.1 == y.1 else decide (x.2=y.2))&&(#[Value.int x.1 tk,.ref t]).size == (#[Value.int y.1 F,.ref t']).size)=decide (x=y):=by
   show((x.1 == y.1)&&(decide _&&true)&&true)=decide _
   by_cases h1:x.1=y.1
   .grind
   .grind
  rw[O]at r;exact SeqAt.EqAt.of_refs G r prog w E Q h
theorem Zau{A:Ar}{E:Ab}{ks:Ak}{Q:Bool->Shared->Prop}(m:Nat)(k:IsTupleKey (YK prog w) s.heap ks a)(h:Q true s):A3 prog w A (eqIsQuiet (m+1) (.ref a)) Q E s:=by
 obtain⟨o,items,n,e,c,d,it⟩:=k;rw[eqIsQuiet.eq_2];have G:s.TypeIs (.ref a) "tuple" :=⟨o,e,c⟩;refine Qaa (Qea G F.slot_tuple_eq.lookup ?_);refine Qaa (Qdh (b:=true) G (by kernel_rfl) ?_);refine Qaa (Qcl e d (Qaa (Qgn _ (λrest b s'=>(∀v∈rest,carriedByValue v=true)/\b=(none,())/\s'=s) _ ?_ ?_ _ _ ⟨λv z=>?_,U,U⟩)))
 .rintro x rest b s' ⟨z,rfl,rfl⟩;refine Qaa ?_;rw[eqIsQuiet_byValue m (z x Qah)];exact Qaf (Qaf ⟨λv J=>z v (Qai _ J),U,U⟩)
 .rintro b s' ⟨_,rfl,rfl⟩;exact Qaf h
 .have go:∀{ks:Ak} {vs:Ag},ItemsAre (YK prog w) ks vs->∀v∈vs,carriedByValue v=true:=by
   intro ks vs hh
   induction hh with
   |nil=>exactλv z=>nomatch z
   |cons h1 _ I=>
    intro v z;rcases Qas.mp z with rfl|z
    .exact(YK prog w).byValue _ _ h1
    .exact I v z
  exact go it v z
def IsPair.quiet{A:Ar}{E:Ab}{k:Int×Ak}{Q:Bool->Shared->Prop}(p:IsPair prog w s.heap k a)(h:Q true s):A3 prog w A (eqIsQuiet 8 (.ref a)) Q E s:=by
 obtain⟨o,n,t,tk,e,c,d,G⟩:=p;rw[eqIsQuiet.eq_2];have z:s.TypeIs (.ref a) "tuple" :=⟨o,e,c⟩;refine Qaa (Qea z F.slot_tuple_eq.lookup ?_);refine Qaa (Qdh (b:=true) z (by kernel_rfl) (Qaa (Qcl e d ?_)));refine Qaa (Qgn _ (λrest b s'=>(rest=[.int k.1 tk,.ref t]\/rest=[.ref t]\/rest=[])/\b=(none,())/\s'=s) _ ?_ ?_ _ _ ⟨.inl U,U,U⟩)
 .rintro x rest b s' ⟨I,rfl,rfl⟩;rcases I with e1|e1|e1
  .cases e1;refine Qaa (Qaf (Qaf ⟨.inr (.inl U),U,U⟩))
  .cases e1;exact Qaa (Zau 6 G (Qaf ⟨.inr (.inr U),U,U⟩))
  .cases e1
 .rintro b s' ⟨_,rfl,rfl⟩;exact Qaf h
end
def Zhp(prog:Aq)(w:Au):HeapKind prog w (Int×Ak)where
 is:=IsPair prog w
 hash:=uh prog w
 draws:=λk=>k.2.length+3
 room:=λA=>A.units+1<cLine
 inj:=λp q=>p.inj q
 keeps:=λp e F s=>p.keeps e F s
 pyHash:=λz p h=>p.pyHash z h
 eqBool:=λz p q h=>p.eqBool z q h
 quiet:=λp h=>p.quiet h
section
variable {prog:Aq}{w:Au}{K:Type}[DecidableEq K]
theorem Zhq{xs:List (K×Aw×Av)}{k:K}{j:Nat}{p:Aw×Av}(e:(xs.map (·.1)).Nodup)(h:xs[j]?=some (k,p)):atKey xs k=some p:=by
 unfold atKey
 induction xs generalizing j with
 |nil=>cases h
 |cons x r F=>
  rw[Qbv,Qbu]at e;rw[Qhc];cases j with
  |zero=>
   cases h;rw[Qan U];rfl
  |succ j=>
   rw[Qaq λz=>e.1 (by rw[z];exact Qau.mpr ⟨_,Qam h,U⟩)];exact F e.2 h
def Zav{xs:List (K×Aw×Av)}{k:K}(h:∀(j:Nat)(p:Aw×Av),xs[j]?≠some (k,p)):atKey xs k=none:=by
 unfold atKey;rw[Option.map_eq_none_iff,Qen];intro x e z;obtain⟨j,F⟩:=Qde e;refine h j x.2 ?_;rw[F,<-Qbb z]
def qg(knd:HeapKind prog w K)(d a:Aw)(hd:(d == sysModules)=false)(dflt:Av):
  MeetsIn prog w (Builtin.«dict.setdefault» ⟨[.ref d,.ref a,dflt],[]⟩) λA R s=>knd.room A.in1/\∃k xs,knd.is s.heap k a/\Heap.DictOfH knd s.heap d xs/\xs.length<=sizeLine /\
   (∀p,atKey xs k=some p->R (.ok (.ret p.2)) {s with toks:=s.toks+knd.draws k}) /\
   (atKey xs k=none->∀h',Heap.DictOfH knd h' d (xs++[(k,a,dflt)])->Heap.SameBut d s.heap h'->R (.ok (.ret dflt)) {s with heap:=h',toks:=s.toks+knd.draws k}):=by
 intro A R s ⟨hr,k,xs,hk,dd,Ua,h1,h2⟩;obtain⟨o,es,ep,e,ex,G,F,I,hnd⟩:=id dd;refine Qaa ?_;refine Qaa (wpAny_notOrdered_dict dd.typeIs ?_);refine Qaa (Qco (a:=()) U ?_);refine Qaa (Qco U ?_);refine Qaa (Qco (a:=d) U (Qaf ?_));try dsimp only
 rw[hd,Qax (by decide)];refine Qaa ?_;refine Qb4 (Qaa (knd.pyHash hr hk ?_));refine Qaa (wpAny_dictFind_heap hr hk e G F I hnd (λJ=>?_) (λj p O=>?_))
 .refine Qaa (Qdt (Qaa (wpAny_updateDictKeys e G (Qaf (Qaf ?_)) ?_ ?_)))
  .refine h2 (Zav J) _ ?_ (Qb0 ..);obtain⟨oc,od,odt,osl⟩:=o;obtain⟨x1,x2,x3⟩:=ex;subst G;have sb:Heap.SameBut d s.heap (s.heap.update d (Obj.mapDictKeys λx=>x.push {hash:=knd.hash k,key:=.ref a,val:=dflt})):=Qb0 ..;refine⟨_,_,_,Qbm _ e U,⟨x1,x2,x3⟩,U,?_,λx Z=>?_,?_⟩
   .rw[Qgu,F,Qa6];rfl
   .rcases Qb2.mp Z with z|z
    .exact knd.keeps (I x z) e U sb
    .rw[Qat.mp z];exact knd.keeps hk e U sb
   .rw[Qa6,Qdu];refine⟨hnd,Qbu.mpr ⟨Qbk,Qcj⟩,λy hy z Ua q=>?_⟩;rw[Qbv,Qhd,Qat]at Ua;rw[q,Ua]at hy;obtain⟨x,Z,ex⟩:=Qau.mp hy;obtain⟨j,O⟩:=Qde Z;have Y:x.1=k:=ex;exact J j x.2 (by rw[O,<-Y])
  .rw[<-Qb1,F,Qab];exact Ua
  .grind
 .refine Qaa (wpAny_dictEntries e G ?_);have hj2:es[j]?=some (entryOfKey knd (k,p)):=by
   rw[<-Array.getElem?_toList,F,Qag,O];rfl
  rw[hj2];exact Qaa (Qdt (Qaf (Qaf (h1 p (Zhq hnd O)))))
end
def Zlz{prog:Aq}{A:Ar}{E:Ab}{d:Aw}{o:Obj}{es:Array DictEntry}{ep:Nat}(J:(d == sysModules)=false)(e:s.heap.get? d=some o)(ex:o.ExactDict)(G:o.data=.dict es ep)(I:es.size<=sizeLine)
  (h:Q (.int (es.size:Int) (s.toks+1)) {s with toks:=s.toks+1+1}):A3 prog w A (call (.builtin "len") [.ref d]) Q E s:=by
 have z:s.TypeIs (.ref d) "dict" :=⟨o,e,ex.1⟩;rw[Qer]at I;refine call_len_slot z F.slot_dict_len (λO h'=>(Qbn F.slot_dict_len z F.entry_dict_len ?_ (F.args_dict_len_1 _))) (by lia) (by lia) h;refine Qaa (Qaa (wpAny_notOrdered_dict z (Qaa (Qco U (Qaf (Qaa (Qco U (Qaa (Qaa (wpAny_dictEntries e G (Qaf (Qaa ?_))))))))))));unfold Builtin.Dict.pendingCount;rw[J];refine Qaf (Qaa (Qgj (Qaf ⟨_,U,h'⟩)))
structure KN(Kk:Type)[DecidableEq Kk]where
 knd:∀(P:Aq)(w:Au),HeapKind P w Kk
 hsh:Kk->Int
 at_:Hp->Kk->Addr->Prop
 hash_eq:∀P w k,(knd P w).hash k=hsh k
 ok:∀(P:Aq)(w:Au)(H:Hp)(h:Heap)(k:Kk)(a:Aw),HOk P w H h->at_ H k a->(knd P w).is h k a
 room:∀(P:Aq)(w:Au)(A:Ar),A.units+2<cLine->(knd P w).room A.in1
 room0:∀(P:Aq)(w:Au)(A:Ar),A.units+2<cLine->(knd P w).room A
 keep:∀(H H':Hp)(k:Kk)(a:Aw),(∀b xs,H b=some (.tup xs)->H' b=some (.tup xs))->at_ H k a->at_ H' k a
section
variable {Kk:Type}[DecidableEq Kk](kn:KN Kk)
def entN(x:Kk×Aw×Av):DictEntry:={hash:=kn.hsh x.1,key:=.ref x.2.1,val:=x.2.2}
def Zph(d:Aw)(xs:List (Kk×Aw×Av))(h:Heap):Prop:=(d == sysModules)=false/\∃o es ep,h.get? d=some o/\o.ExactDict/\o.data=.dict es ep/\es.toList=xs.map (entN kn)
def qX(H:Hp)(d:Aw)(kvs:List (Kk×V)):Prop:=(kvs.map (·.1)).Nodup/\kvs.length<sizeLine /\
 ((kvs=[]/\H d=some (.dK []))\/∃xs,H d=some (.ext (Zph kn d xs))/\Paired (λ(p:Kk×V) (q:Kk×Aw×Av)=>p.1=q.1/\kn.at_ H q.1 q.2.1/\RelV p.2 q.2.2) kvs xs)
variable {kn}
def Zj4(xs:List (Kk×Aw×Av)):xs.map (entryOfKey (kn.knd P w))=xs.map (entN kn):=by
 refine Qbo λx _=>?_;show DictEntry.mk _ _ _=DictEntry.mk _ _ _;rw[kn.hash_eq]
theorem qX.dict{X:Cx}{pins:Ac}{d:Aw}{kvs:List (Kk×V)}(n:qX kn H d kvs)(I:Inv X pins c H s):
  ∃xs,Heap.DictOfH (kn.knd X.prog X.w) s.heap d xs/\Paired (λ(p:Kk×V) (q:Kk×Aw×Av)=>p.1=q.1/\kn.at_ H q.1 q.2.1/\RelV p.2 q.2.2) kvs xs/\Mut (H d)/\(d == sysModules)=false:=by
 obtain⟨Z,hl,h|h⟩:=n
 .obtain⟨rfl,e⟩:=h;obtain⟨z,Y,vs,Ua,dd⟩:=Zli I.hok e;cases Ua;obtain⟨o,es,ep,e1,ex,e2,_,F,_⟩:=dd;have J:es.toList=[]:=by
   generalize es.toList=l at F;cases F;rfl
  exact⟨[],⟨o,es,ep,e1,ex,e2,J,(λx G=>nomatch G),Qcj⟩,.nil,by rw[e];exact True.intro,Y⟩
 .obtain⟨xs,e,F⟩:=h;obtain⟨⟨hm,o,es,ep,e1,ex,e2,J⟩,_,_⟩:=(I.hok d _ e);refine⟨xs,⟨o,es,ep,e1,ex,e2,by rw[J,Zj4],λx G=>?_,?_⟩,F,by rw[e];exact True.intro,hm⟩
  .have go:∀{l:List (Kk×V)} {m:List (Kk×Aw×Av)},Paired (λp q=>p.1=q.1/\kn.at_ H q.1 q.2.1/\RelV p.2 q.2.2) l m->∀x∈m,kn.at_ H x.1 x.2.1:=by
    intro l m F
    induction F with
    |nil=>exactλx G=>nomatch G
    |cons h _ O=>
     intro x G;rcases Qas.mp G with rfl|G
     .exact h.2.1
     .exact O x G
   exact kn.ok _ _ _ _ _ _ I.hok (go F x G)
  .have go:∀{l:List (Kk×V)} {m:List (Kk×Aw×Av)},Paired (λp q=>p.1=q.1/\kn.at_ H q.1 q.2.1/\RelV p.2 q.2.2) l m->m.map (·.1)=l.map (·.1):=by
    intro l m F
    induction F with
    |nil=>rfl
    |cons h _ O=>rw[Qbv,Qbv,O,h.1]
   rw[go F];exact Z
theorem Ja{P:Kk×V->Kk×Aw×Av->Prop}(O:∀p q,P p q->p.1=q.1):∀{l:List (Kk×V)} {m:List (Kk×Aw×Av)},Paired P l m->∀k,(∀v,Ym l k=some v->∃q,atKey m k=some q/\∃p,P p (k,q)/\p.2=v)/\(Ym l k=none->atKey m k=none)
 |[],[],_,k=>⟨λv h=>(by cases h),λ_=>U⟩
 |p::l,q::m,.cons h t,k=>by
  have e:=O p q h
  by_cases F:p.1=k
  .have J:=e.symm.trans F;have a1:atKey (q::m) k=some q.2:=by
    unfold atKey;rw[Qhc,Qan J];rfl
   have G:Ym (p::l) k=some p.2:=Yg F;refine⟨λv I=>?_,λI=>?_⟩
   .grind
   .rw[G]at I;cases I
  .have J:=λz=>F (e.trans z)
   have a1:atKey (q::m) k=atKey m k:=by
    unfold atKey;rw[Qhc,Qaq J]
   have G:Ym _ k=Ym l k:=Ya F;rw[a1,G];exact Ja O t k
def Zl0{X:Cx}{d:Aw}{kvs:List (Kk×V)}{A:Ar}{E:Ab}(I:Inv X q c H s)(n:qX kn H d kvs)(h:∀t s',Inv X q c H s'->Q (.int (kvs.length:Int) t) s'):
  A3 X.prog X.w A (call (.builtin "len") [.ref d]) Q E s:=by
 obtain⟨xs,⟨o,es,ep,e1,ex,e2,e,_,_⟩,G,_,F⟩:=n.dict I;have z:es.size=kvs.length:=by rw[<-Qb1,e,Qab];exact(Qfb G).symm
 refine Zlz F e1 ex e2 (by rw[z];exact Qaw n.2.1) ?_;rw[z];exact h _ _ (I.tok _)
theorem y3{X:Cx}{pins:Ac}{d:Aw}{k:Kk}{v:V}{u:Av}{kvs:List (Kk×V)}{xs:List (Kk×Aw×Av)}{h':Heap}{tk:Nat}(I:Inv X pins c H s)(n:qX kn H d kvs)(hk:kn.at_ H k a)(rv:RelV v u)(F:kvs.length+1<sizeLine)
  (Ua:Paired (λ(p:Kk×V) (q:Kk×Aw×Av)=>p.1=q.1/\kn.at_ H q.1 q.2.1/\RelV p.2 q.2.2) kvs xs) (G:Mut (H d)) (hm:(d == sysModules)=false) (hv:Ym kvs k=none) (dd':Heap.DictOfH (kn.knd X.prog X.w) h' d (xs++[(k,a,u)])) (sb:Heap.SameBut d s.heap h'):
  ∃H',qX kn H' d (kvs++[(k,v)])/\(∀b o,H b=some o->b≠d->H' b=some o)/\(∃o,H'=upd H d o)/\Inv X pins c H' {s with heap:=h',toks:=tk}:=by
 obtain⟨o,es,ep,e1,ex,e2,J,_,_⟩:=dd';have df:Zph kn d _ h':=⟨hm,o,es,ep,e1,ex,e2,by rw[J,Zj4]⟩;have tp:∀b ys,H b=some (.tup ys)->upd H d (.ext (Zph kn d (xs++[(k,a,u)]))) b=some _:=λb ys e=>by
  rw[Zj λz=>by rw[<-z,e]at G;exact G];exact e
 refine⟨_,⟨?_,?_,.inr ⟨_,Za,?_⟩⟩,λb o e hb=>by rw[Zj hb];exact e,⟨_,U⟩,yl I G sb ⟨o,e1⟩ (by
    obtain⟨hm,o,es,ep,e,r⟩:=id df;refine⟨df,⟨o,e⟩,λh1 h2 y k=>?_⟩;obtain⟨Z,o',O,Y,e',r'⟩:=y;exact⟨Z,o',O,Y,k _ e',r'⟩)⟩
 .rw[Qa6,Qdu];refine⟨n.1,Qbu.mpr ⟨Qbk,Qcj⟩,λy hy z F q=>?_⟩;rw[Qbv,Qhd,Qat]at F;rw[q,F]at hy;obtain⟨x,hx,ex⟩:=Qau.mp hy;have:=xr n.1 x hx;rw[ex,hv]at this;cases this
 .rw[Qar];exact F
 .have go:∀{l:List _} {m:List _},Paired (λp q=>p.1=q.1/\kn.at_ H q.1 q.2.1/\RelV p.2 q.2.2) l m->Paired (λp q=>p.1=q.1/\kn.at_ (upd H d (.ext (Zph kn d (xs++[(k,a,u)])))) q.1 q.2.1/\RelV p.2 q.2.2) (l++[(k,v)]) (m++[(k,a,u)]):=by
   intro l m Ua
   induction Ua with
   |nil=>exact .cons ⟨U,kn.keep _ _ _ _ tp hk,rv⟩ .nil
   |cons h _ ih=>exact .cons ⟨h.1,kn.keep _ _ _ _ tp h.2.1,h.2.2⟩ ih
  exact go Ua
def jj{X:Cx}{pins:Ac}{d:Aw}{k:Kk}{v:V}{u:Av}{kvs:List (Kk×V)}{A:Ar}{E:Ab}(I:Inv X pins c H s)(n:qX kn H d kvs)(hk:kn.at_ H k a)(hu:A.units+2<cLine)(rv:RelV v u)(hz:kvs.length+1<sizeLine)
  (h1:∀x,Ym kvs k=some x->∀u' s',RelV x u'->Inv X pins c H s'->Q u' s')
  (h2:Ym kvs k=none->∀H' s',qX kn H' d (kvs++[(k,v)])->(∀b o,H b=some o->b≠d->H' b=some o)->(∃o,H'=upd H d o)->Inv X pins c H' s'->Q u s'):
  A3 X.prog X.w A (call (.builtin "dict.setdefault") [.ref d,.ref a,u]) Q E s:=by
 obtain⟨xs,dd,Ua,mu,hm⟩:=n.dict I;have J:=Ja (λp q h=>h.1) Ua k;refine call_meetsIn F.slot_dict_setdefault dd.typeIs F.entry_dict_setdefault (F.args_dict_setdefault_3 _ _ _) (qg _ d a hm u) ⟨kn.room _ _ _ hu,k,xs,kn.ok _ _ _ _ _ _ I.hok hk,dd,?_,?_,?_⟩
 .rw[<-Qfb Ua];exact Qaw n.2.1
 .intro p Y;cases z:Ym kvs k with
  |none=>rw[J.2 z]at Y;cases Y
  |some x=>
   obtain⟨q,G,p',Z,e⟩:=J.1 x z;rw[Y]at G;cases G;exact h1 x z p.2 _ (e ▸ Z.2.2) (I.tok _)
 .intro O h' dd' sb;have z:Ym kvs k=none:=by
   cases z:Ym kvs k with
   |none=>rfl
   |some x=>
    obtain⟨q,G,_⟩:=J.1 x z;rw[O]at G;cases G
  obtain⟨H',n',k',o',I'⟩:=y3 I n hk rv hz Ua mu hm z dd' sb;exact h2 z H' _ n' k' o' I'
end
def vB:V->Option Int
 |.int i=>some i
 |.bl b=>some (b2i b)
 |_=>none
theorem ui{P:Aq}{w:Au}:∀{vs:A2} {z:Ag} {ks:Ak},Vals vs z->vs.map vB=ks.map some->ItemsAre (YK P w) ks z
 |[],_,[],r,_=>by cases r;exact .nil
 |v::vs,_,k::ks,.cons h t,e=>by
  injection e with e1 e2;refine .cons ?_ (ui t e2);cases v with
  |int i=>
   obtain⟨t,rfl⟩:=h;cases e1;exact Qcw _
  |bl b=>
   cases(h);cases e1;exact Qcw _
  |_=>cases e1
def uj(H:Hp)(ks:Ak)(a:Aw):Prop:=∃vs,H a=some (.tup vs)/\vs.map vB=ks.map some
def uj.is{ks:Ak}(ok:HOk P w H h)(b:uj H ks a):IsTupleKey (YK P w) h ks a:=by
 obtain⟨vs,e,F⟩:=b;obtain⟨_,G,r,o,h1,h2,⟨n,z⟩,_⟩:=(ok a _ e);exact⟨o,_,n,h1,h2,z,by simpa using ui r F⟩
def knT:KN (Ak)where
 knd:=λP w=>tupleKind (YK P w)
 hsh:=λks=>reduceHash (Builtin.Tuple.tupleHashOf (ks.map hashInt))
 at_:=uj
 hash_eq:=λP w k=>U
 ok:=λP w H h k a ok b=>b.is ok
 room:=λP w A z=>by show A.units+1<cLine;lia
 room0:=λP w A z=>by show A.units<cLine;lia
 keep:=λH H' k a F ⟨vs,e,G⟩=>⟨vs,F _ _ e,G⟩
def Zd2(H:Hp)(k:Int×Ak)(a:Aw):Prop:=∃t,H a=some (.tup [.int k.1,.ref t])/\uj H k.2 t
def knP:KN (Int×Ak)where
 knd:=Zhp
 hsh:=λk=>reduceHash (Builtin.Tuple.tupleHashOf [hashInt k.1,reduceHash (Builtin.Tuple.tupleHashOf (k.2.map hashInt))])
 at_:=Zd2
 hash_eq:=λP w k=>U
 ok:=λP w H h k a ok ⟨t,e,b⟩=>by
  obtain⟨_,J,r,o,h1,h2,⟨n,G⟩,_⟩:=(show YR P w H h a (.tup [.int k.1,.ref t])from ok a _ e);cases r with
  |cons O z=>
  cases z with
  |cons z Y=>
  cases Y;obtain⟨tk,rfl⟩:=O;cases(show _=Value.ref t from z);exact⟨o,n,t,tk,h1,h2,G,b.is ok⟩
 room:=λP w A I=>by show A.units+1+1<cLine;lia
 room0:=λP w A I=>by show A.units+1<cLine;lia
 keep:=λH H' k a F ⟨t,e,vs,e2,Ua⟩=>⟨t,F _ _ e,vs,F _ _ e2,Ua⟩
section
def Zop:A2->Hp->VK->Prop:=λxs H Q=>∃(Kk:Type)(_:DecidableEq Kk)(kn:KN Kk)(d:Aw)(kvs:List (Kk×V)),xs=[V.ref d]/\qX kn H d kvs/\Q (.int kvs.length) H
def Zd3:YS X (.builtin "len") Zop:=by
 intro pins s σ H xs F Q I r h;obtain⟨Kk,_,kn,d,kvs,rfl,n,q⟩:=h;obtain⟨u,rfl,z⟩:=vals1 r;cases z;exact Zl0 I n λt s' e=>⟨.int _,H,e,⟨t,U⟩,q⟩
def Zoq:V->List V->Hp->VK->Prop:=λx vs H Q=>∃(Kk:Type)(_:DecidableEq Kk)(kn:KN Kk)(d a:Aw)(k:Kk)(v:V)(kvs:List (Kk×V)),x=.ref d/\vs=[.ref a,v]/\qX kn H d kvs/\kn.at_ H k a/\kvs.length+1<sizeLine /\
 (∀y,Ym kvs k=some y->Q y H)/\(Ym kvs k=none->∀H',qX kn H' d (kvs++[(k,v)])->(∀b o,H b=some o->b≠d->H' b=some o)->(∃o,H'=upd H d o)->Q v H')
def Zl1 (hu:X.A.units+2<cLine):MtM X "dict.setdefault" Zoq:=by
 intro pins s σ H x vs v us Q I rx Z h;obtain⟨Kk,_,kn,d,a,k,y,kvs,rfl,rfl,n,J,G,h1,h2⟩:=h;cases rx;cases Z with
 |cons r1 e=>
 cases e with
 |cons e r3=>
 cases r3;cases(r1);exact jj I n J hu e G (λz G u' s' Ua F=>⟨z,H,F,Ua,h1 z G⟩) λY H' s' n' o' O F=>⟨y,H',F,e,h2 Y H' n' o' O⟩
def tyN(x:V)(H:Hp):Prop:=∃(Kk:Type)(_:DecidableEq Kk)(kn:KN Kk)(d:Aw)(kvs:List (Kk×V)),x=.ref d/\qX kn H d kvs
def tyN_is     {x:V}  (I:Inv X q c H s) (r:RelV x v) (ty:tyN x H):s.TypeIs v "dict" /\ ∀a,v=.ref a->∃ob,s.heap.get? a=some ob/\ob.dict=none:=by
 obtain⟨Kk,_,kn,d,kvs,rfl,n⟩:=ty;cases r;obtain⟨xs,⟨o,es,ep,e,ex,_⟩,_,_,_⟩:=n.dict I;refine⟨⟨o,e,ex.1⟩,λa z=>?_⟩;cases z;exact⟨o,e,ex.2.1⟩
def tBMN(to:TE)(t:TA):TE:=λσ H Q=>to σ H λx H1=>tyN x H1/\t σ H1 λxs H2=>Zoq x xs H2 Q
variable {o e:Ax}{es:An}{to:TE}{t:TA}{name:Str}{apos cpos:Pos}
def Zl2 (hu:X.A.units+2<cLine) (ho:QE X o to) (ha:QA X (e::es) t) (G:attributeBase o "setdefault" X.env (eval o X.env)=eval o X.env:=by rfl) (z:(apos.endLine == cpos.line)=true:=by rfl) (Ua:(e::es).all ZY=true:=by rfl) (hl:(e::es).length<30:=by decide):
  QE X (.Call (.Attribute o "setdefault" apos) (e::es) [] cpos) (tBMN to t):=by
 refine⟨λpins s σ H Q I h=>?_⟩;have O:=Ua;rw[Qc4,Qa4]at O;have J:((backTo cpos (starEach (e::es) X.env)).all (λx=>!x.1)&&(backToKw cpos (keywordEach [] X.env)).all (λx=>x.1.isSome)&&decide ((e::es).length+([]:List Keyword).length+(if([]:List Keyword).isEmpty then 0 else 1)<30))=true:=by
  rw[all_plain Ua];exact Qan hl
 refine Qfo G J z U (thn (ho.out pins s σ H _ I h) λv s1 ⟨x,H1,Z,Y,ty,q1⟩=>?_);obtain⟨h1,h2⟩:=tyN_is Z Y ty;refine⟨"dict",_,F.plainAttrs_dict,F.slot_dict_setdefault,F.type_dict_setdefault,h1,h2,?_⟩;have hA:=ha.out cpos pins s1 σ H1 _ Z q1;have hs:starEach _ X.env=(false,eval e X.env)::starEach es X.env:=Zv O.1;rw[hs]at hA ⊢;refine Qdw (by grind) (Qd4 (thn hA λus s2 ⟨vs,H2,I2,r2,q2⟩=>Zl1 hu pins s2 σ H2 x vs v us Q I2 Y r2 q2))
end
def rMaxL(K:Af):A2->Hp->VK->Prop:=λxs H Q=>∃(p:Aw)(ns:Ak),xs=[.ref p]/\SqL K H p (ns.map V.int)/\ns≠[]/\∀m∈ns,(∀n∈ns,n<=m)->Q (.int m) H
def kf (hc:X.calm=true):YS X (.builtin "max") (rMaxL X.K):=by
 intro pins s σ H xs us Q I r h;obtain⟨p,ns,rfl,hq,hne,q⟩:=h;obtain⟨u,rfl,rx⟩:=vals1 r;cases rx;obtain⟨its,r',pl,hz⟩:=I.list hq;have hi:=intsAre_of r';obtain⟨xs,O⟩:=hi.allInts.items;have e1:ns=xs.toList.map (·.1):=by
  rw[<-nums_intItems,<-O];exact(hi.numsOf).symm
 have hsz:0<xs.size:=by
  grind
 refine max_intList (I.ok.hd hc) (O ▸ pl.isList) hsz λv h' tk z Y=>?_;have J:=argBest_gt (numAt xs) (xs.size-1);generalize argBest _ (xs.size-1)=b at z J;have at_:∀j (e:j<xs.size),numAt xs j=xs[j].1/\(intItems xs)[j]?=some (.int xs[j].1 xs[j].2):=by
  intro j e;exact⟨by simp[numAt,e],by simp[intItems,e]⟩
 obtain⟨Z,n2⟩:=at_ b (by lia);rw[n2]at z;cases z;refine⟨.int xs[b].1,H,I.kept Y,⟨_,U⟩,q _ ?_ λn G=>?_⟩
 .grind
 .rw[e1]at G;obtain⟨y,Ua,rfl⟩:=Qau.mp G;obtain⟨j,e⟩:=Qde Ua;have F:j<xs.size:=by
   grind
  have:=J.2 j (by lia);rw[(at_ j F).1,Z]at this;have ej:xs[j]=y:=by
   grind
  rw[ej]at this;exact this
def rRngV:A2->Hp->VK->Prop:=λxs H Q=>∃j:Int,xs=[.int j]/\∀p,H p=none->Q (.ref p) (upd H p (.rng 0 j))
def xW:YS X (.type "range") rRngV:=by
 intro pins s σ H xs F Q I r h;obtain⟨j,rfl,q⟩:=h;obtain⟨u,rfl,z⟩:=vals1 r;obtain⟨t,rfl⟩:=z;refine call_range_1 ⟨.ref _,_,I.laid (λb u e=>Qad _ e) (Qaj _) ?_,U,q _ I.fresh⟩;exact⟨_,_,_,Qak _ U⟩
def Zl3:A2->Hp->VK->Prop:=λxs H Q=>∃(p:Aw)(n:Nat),xs=[.ref p]/\H p=some (.rng 0 (n:Int))/\n<=1000000/\∀l,H l=none->Q (.ref l) (upd H l (.lst ((List.range n).map λi:Nat=>V.int i)))
theorem wY (hc:X.calm=true):YS X (.type "list") Zl3:=by
 intro pins s σ H xs G Q I r h;obtain⟨p,n,rfl,e,hn,q⟩:=h;obtain⟨u,rfl,ru⟩:=vals1 r;cases ru;obtain⟨t,u,v,hp⟩:=(I.hok p _ e);have hsz:Builtin.Range.rangeSize 0 (n:Int) 1=(n:Int):=by
  unfold Builtin.Range.rangeSize;split
  .lia
  .lia
 have F:∀z:Int,0<=z->z<=1000000->Builtin.Range.rangeFitsLong z=true:=λz h1 h2=>by
  unfold Builtin.Range.rangeFitsLong;simp;lia
 have O:Builtin.Range.small 0 (n:Int) 1=true:=by
  unfold Builtin.Range.small;rw[hsz,F 0 (by decide) (by decide),F 1 (by decide) (by decide),show(n:Int)+(1-1)=n by lia,F n (by lia) (by lia)];simp
 refine call_list_range (I.ok.hd hc) hp O hsz (by lia) λh' tk acc c' Y J it=>?_;refine⟨.ref _,_,I.laid Y (Qaj _) ?_,U,q _ I.fresh⟩;refine⟨by rw[Qab,Qa3,Qer];lia,acc.toList,c',?_,by simpa using J⟩;have go:∀(m:Nat)(G:Ag)(k:Nat),G.length=m->(∀j v,G[j]?=some v->∃t,v=Value.int ((k+j:Nat):Int) t)->Vals ((List.range' k m).map λi:Nat=>V.int i) G:=by
  intro m
  induction m with
  |zero=>
   intro G k J _;rw[Qcd J];exact .nil
  |succ m Z=>
   intro G k J hh;cases G with
   |nil=>cases J
   |cons u G=>
    refine .cons ?_ (Z G (k+1) (by simpa using J) λj v Ua=>?_)
    .obtain⟨t,e⟩:=hh 0 u rfl;exact⟨t,e⟩
    .obtain⟨t,e⟩:=hh (j+1) v (by simpa using Ua);exact⟨t,by grind⟩
 rw[Qf9];refine go n acc.toList 0 (by exact it.1) λj v Ua=>?_;obtain⟨t,e⟩:=it.2 j v (by grind);exact⟨t,by grind⟩
def kg{A:PySem.Around}{k:Nat}(e:Wo k A):A.units+2<PySem.cLine:=Qd1 (by lia) e.units
def Zl4(F:Aq)(w:Au)(K:Af)(mg:Ae)(base:Heap)(k:Nat)(sp:Sp)(P:Aw)(lpos:Pos)(qual:Str)(ta tb:TE)(n:Nat)(is:Aj)(te:TE):TE:=λσ H Q=>ta σ H λz G=>tb σ G λx H1=>ZF H1 P lpos qual /\
 ∀(cs:List Aw)(f:Aw)(H2:Hp),(∀c∈cs,H1 c=none)->(∀c∈cs,∃o,H2 c=some (XY o))->H1 f=none->(∀e,ZG H2 e->ZF (hide cs e) P lpos qual)->(∀b o,H1 b=some o->b≠P->H2 b=some o)->
  Xf F w K mg base k f H2 (Zok n te cs (is.map λi=>(σ[i]?).getD none))->sp [z,x,.ref f] H2 (λv e=>Q v (hide cs e)) E0
section
variable {X:Cx}{params:Arguments}{body a:Ax}{scope:Scope}{lpos p pos:Pos}{c P g:Aw}{qual x:Str}{k kl:Nat}{gd:Ao}{pg ps ys:Ai}{is:Aj}{sp:Sp}{ta te:TE}{b:Ax}{tb:TE}
def Zd4(F:xB X.prog X.w X.K X.mg X.base CX0 k g gd pg sp)(hr:Wo k X.A)(hg:Gl X x)(hm:X.mg x=some (.ref g))(hk:PySem.W.keepIn X.K (.ref g)=true)(hb:Binds X.K gd pg [])(hfn:X.fn=λ_=>true)
  (ha:QE X a ta) (hb2:QE X b tb) (hcode:X.env.code=.ref c) (C:PySem.W.CodeHd X.base c P) (B:yt X.mg X.base) (hdef:defaultsOf params X.env=([],[])) (hq:X.env.qual ++ "<lambda>" = qual)
  {S0:Scope} {N0:Ai} (hX:X.env.scope=S0) (hXN:X.N=N0) (LL:Zol S0 scope N0 ps ys is)
  (hbind:∀(cl:List (Str×Aw))(pm cv J:Av)(us:Ag),us.length=ps.length->bindArgs (PySem.W.kla_fn "<lambda>" qual params body scope cl pm cv J) ⟨us,[]⟩=pure (ps.zip us))
  (hbody:∀(f Ua:Aw)(cl:List (Str×Aw))(A:Ar)(outer:List Env)(s:As)(H1:Hp),Wo kl (A.deeper (PySem.W.envX qual scope s.heap.objs.size f (.ref Ua) cl))->QE (cxL X.prog X.w X.K X.mg X.base (ps++ys) qual scope f (.ref Ua) cl A outer s H1) body te)
  (hdb:(x == ("__debug__" : Str))=false:=by decide) (he:starEach [a,b,.Lambda params body scope lpos] X.env=(false,eval a X.env)::starEach [b,.Lambda params body scope lpos] X.env:=by rfl) (he2:starEach [b,.Lambda params body scope lpos] X.env=(false,eval b X.env)::starEach [.Lambda params body scope lpos] X.env:=by rfl)
  (hs2:starEach [.Lambda params body scope lpos] X.env=(false,eval (.Lambda params body scope lpos) X.env)::starEach [] X.env:=by rfl) (hpl:(backTo pos (starEach [b,.Lambda params body scope lpos] X.env)).any (·.1)=false:=by rfl):
  QE X (.Call (.Name x p) [a,b,.Lambda params body scope lpos] [] pos) (Zl4 X.prog X.w X.K X.mg X.base (kl+1) sp P lpos qual ta tb ps.length is te):=by
 have S:=LL.sc;have G:∀y∈scope.names,y.2=.free->X.env.scope.names.lookup y.1=some .cell:=λy hy h=>by rw[hX];exact LL.free y hy h
 have Z:=LL.len;refine⟨?_⟩;intro pins s σ H Q I hw;refine Qc2 (JP I hg hm ?_ hdb);have hlam:=Zdl (X:=X) (lpos:=lpos) (params:=params) (body:=body) (scope:=scope) hcode C B hdef hq G;refine Qfd (h₀:=X.base) I.ok.mod.kin hk ?_ he hpl;rw[he];refine Qc3 (thn (ha.out pins s σ H _ I hw) λu s0 ⟨x00,H0,I0,r0,hw0⟩=>?_);rw[he2];refine Qc3 (thn (hb2.out pins s0 σ H0 _ I0 hw0) λu1 s1 ⟨x0,H1,I1,r1,hT,q1⟩=>?_);rw[hs2];refine Qc3 (thn (hlam pins s1 σ H1 (λv H2=>∃(f Ua:Aw)(oc:Obj)(J:Av),v=.ref f/\H1 f=none/\H2 f=some (XY (vW X qual params body scope Ua J))/\H2 Ua=some (XY oc)/\jF oc qual/\ZF H2 P lpos qual/\∀b o,H1 b=some o->b≠P->H2 b=some o) I1 ⟨hT,λf Ua oc J H2 a1 a2 a3 a4 a5 a6=>⟨f,Ua,oc,J,U,a1,a2,a3,a4,a5,a6⟩⟩) λu2 s2 ⟨y,H2,Y,r2,f,Ua,oc,J,hy,f1,f2,f3,f4,f5,f6⟩=>?_);subst hy;cases r2;refine Qd8 ⟨Y.kIn,?_⟩;have hcl:∀y d,(j6 X.env.cells scope.names []).lookup y=some d->X.env.cells.lookup y=some d:=
  Gm (λy hy h=>Y.ok.has y.1 (.inl (G y hy h))) λ_ _ z=>by cases z
 have O:=xt Y;have hcs:=yu Y;refine xU F hr hb hfn Y (show Vals [x00,x0,V.ref f] [u,u1,Value.ref f]from .cons r0 (.cons r1 (.cons U .nil))) (q1 (cellsOf X.env.cells) f (Zdm X s2 H2) (Wb I1) (λd m=>let⟨o,_,e,_⟩:=hcs d m;⟨o,e⟩) f1 (λH4 s4=>Zls Y f5 s4) (λb o e hbP=>O _ _ (f6 b o e hbP)) ?_);exact vV (ys:=ys) S (O _ _ f2) (O _ _ f3) f4 (λy d h=>YX.mpr ⟨y,hcl y d h⟩) (λd m=>let⟨o,v,e,hd,_⟩:=hcs d m;⟨o,v,e,hd⟩) (λy z d h1 h2=>Y.ok.inj y z d (hcl y d h1) (hcl z d h2)) (λy h=>Jw h) (by rw[Qab,Z])
  (vX (N0:=N0) Y G S.free (λq hq=>by rw[hXN];exact LL.vis q hq) Z) (λus hl=>hbind _ _ _ _ us hl) λA outer s H1 hr=>(hbody f Ua _ A outer s H1 hr).out
end
def Zor(K:Af)(i:Nat):TI:=λσ H R=>∃a,σ[i]?=some (some (.ref a))/\(((∃xs,SqL K H a xs)/\R (Itl K a) H)\/((∃xs,SqT K H a xs)/\R (Itt K a) H))
theorem Zl5{X:Cx}{l:Ax}(F:QE X l (vk i)):QI X e l (Zor X.K i):=⟨λpins s σ H R I h=>by
 obtain⟨a,z,h|h⟩:=h
 .exact(YF F).out pins s σ H R I ⟨_,z,a,U,h.1,h.2⟩
 .exact(XC F).out pins s σ H R I ⟨_,z,a,U,h.1,h.2⟩⟩
section
variable {κ:Type}[DecidableEq κ]
def Yw(l:List κ)(k:κ):List κ:=if k∈l then l else l++[k]
def Z5(ks:List κ):List κ:=ks.foldl Yw []
def jG(ks:List κ)(k:κ):Z5 (ks++[k])=Yw (Z5 ks) k:=by
 unfold Z5;rw[Qc7];rfl
def Wd{l:List κ}(h:l.Nodup)(k:κ):(Yw l k).Nodup:=by
 unfold Yw;split
 .exact h
 .grind
theorem X1(ks:List κ):(Z5 ks).Nodup:=by
 have:∀(ks l:List κ),l.Nodup->(ks.foldl Yw l).Nodup:=by
  intro ks
  induction ks with
  |nil=>exactλl h=>h
  |cons k r e=>exactλl h=>e _ (Wd h k)
 exact this ks [] Qcj
def XD{l:List κ}{k x:κ}:x∈Yw l k↔x∈l\/x=k:=by
 unfold Yw;split
 .grind
 .rw[Qb2,Qat]
theorem Yh(ks:List κ)(x:κ):x∈Z5 ks↔x∈ks:=by
 have:∀(ks l:List κ),x∈ks.foldl Yw l↔x∈l\/x∈ks:=by
  intro ks
  induction ks with
  |nil=>intro l;simp
  |cons k r e=>
   intro l;rw[Qec,e,XD,Qas,or_assoc]
 rw[show Z5 ks=ks.foldl Yw []from U,this];simp
def xu(l:List κ)(k:κ):(Yw l k).length<=l.length+1:=by
 unfold Yw;split
 .lia
 .grind
theorem uk(ks:List κ):(Z5 ks).length<=ks.length:=by
 have:∀(ks l:List κ),(ks.foldl Yw l).length<=l.length+ks.length:=by
  intro ks
  induction ks with
  |nil=>exactλl=>Qaj _
  |cons k r e=>
   intro l;have h1:=e (Yw l k);have h2:=xu l k;rw[Qec,Qbj];lia
 have h:=this ks [];rw[Qeu,Qgo]at h;exact h
def y4(l:List κ)(k:κ):∃r,Yw l k=l++r:=by
 unfold Yw;split
 .exact⟨[],(Qbp _).symm⟩
 .exact⟨[k],U⟩
theorem Jz(ks:List κ):∀l:List κ,∃r,ks.foldl Yw l=l++r:=by
 induction ks with
 |nil=>exactλl=>⟨[],(Qbp _).symm⟩
 |cons k r e=>
  intro l;obtain⟨a,F⟩:=y4 l k;obtain⟨b,z⟩:=e (Yw l k);exact⟨a++b,by grind⟩
def jH(ks:List κ)(i:Nat):∃r,Z5 ks=Z5 (ks.take i)++r:=by
 have e:Z5 ks=(ks.drop i).foldl Yw (Z5 (ks.take i)):=by
  unfold Z5;rw[<-Qc7,Qcu]
 rw[e];exact Jz _ _
def xX{l r:List κ}{k:κ}(h:k∈l):(l++r).idxOf k=l.idxOf k:=by grind
theorem idx_map{α β:Type}[DecidableEq α][DecidableEq β](f:α->β)(e:∀a b,f a=f b->a=b)(s:α):∀l:List α,(l.map f).idxOf (f s)=l.idxOf s
 |[]=>rfl
 |x::r=>by
  rw[Qbv,Qhe,idx_map f e s r]
  by_cases h:x=s
  .grind
  .grind
def XW(l:List κ):List (κ×V):=l.zipIdx.map λp=>(p.1,V.int (p.2:Int))
def qh(l:List κ):(XW l).map (·.1)=l:=by
 unfold XW;rw[Qay];exact List.zipIdx_map_fst 0 l
def Jb(l:List κ):(XW l).length=l.length:=by
 unfold XW;rw[Qab,List.length_zipIdx]
def qi(l:List κ)(k:κ):XW (l++[k])=XW l++[(k,V.int (l.length:Int))]:=by
 unfold XW;rw[List.zipIdx_append];simp
def Jc:∀(l:List κ)(k:κ),k∈l->l.Nodup->Ym (XW l) k=some (V.int (l.idxOf k:Int)):=by
 intro l k F z;have e:(k,V.int (l.idxOf k))∈XW l:=by
  refine Qau.mpr ⟨(k,l.idxOf k),?_,U⟩;rw[List.mem_zipIdx_iff_getElem?];simp[Qbi F]
 have:=xr (by rw[qh];exact z) _ e;exact this
def qj(l:List κ)(k:κ)(F:k∉l):Ym (XW l) k=none:=by
 unfold Ym;rw[Option.map_eq_none_iff,Qen];intro x e z;have:x.1∈(XW l).map _:=Qb9 e;rw[qh,Qbb z]at this;exact F this
end
section
variable {κ β:Type}[DecidableEq κ][DecidableEq β]
def Wq(ks:List κ):Aj:=ks.map λk=>(Z5 ks).idxOf k
def um(ks:List κ):(Wq ks).length=ks.length:=Qab ..
def xw(ks:List κ)(i:Nat):(Wq ks)[i]?=(ks[i]?).map λk=>(Z5 ks).idxOf k:=Qag ..
def wZ{l:List κ}{a b:κ}(e:a∈l)(h:l.idxOf a=l.idxOf b)(z:b∈l):a=b:=by
 rw[<-List.getElem_idxOf (Qbi e)];simp[h]
def y6{ks:List κ}{j:Nat}{a b:κ}(z:ks[i]?=some a)(e:ks[j]?=some b):(Wq ks)[i]?=(Wq ks)[j]?↔a=b:=by
 rw[xw,xw,z,e];constructor
 .exact λh=>wZ ((Yh ks a).mpr (Qam z)) (Option.some.inj h) ((Yh ks b).mpr (Qam e))
 .intro h;rw[h]
def uo(f:κ->β)(l:List κ)(k:κ)(h:∀a∈l,f a=f k->a=k):Yw (l.map f) (f k)=(Yw l k).map f:=by
 unfold Yw
 by_cases e:k∈l
 .grind
 .grind
theorem y7(f:κ->β)(ks:List κ)(h:∀a∈ks,∀b∈ks,f a=f b->a=b):Z5 (ks.map f)=(Z5 ks).map f:=by
 have go:∀(ks l:List κ),(∀a,a∈l\/a∈ks->∀b,b∈l\/b∈ks->f a=f b->a=b)->(ks.map f).foldl Yw (l.map f)=(ks.foldl Yw l).map f:=by
  intro ks
  induction ks with
  |nil=>exactλl _=>U
  |cons k r I=>
   intro l hh;rw[Qbv,Qec,uo f l k λa F e=>hh a (.inl F) k (.inr Qah) e];refine I _ λa F b G=>hh a ?_ b ?_
   .rcases F with F|F
    .rcases XD.mp F with z|z
     .exact .inl z
     .exact .inr (z ▸ Qah)
    .exact .inr (Qai _ F)
   .rcases G with F|F
    .rcases XD.mp F with z|z
     .exact .inl z
     .exact .inr (z ▸ Qah)
    .exact .inr (Qai _ F)
 exact go ks [] λa F b G=>h a (F.resolve_left Qbk) b (G.resolve_left Qbk)
theorem Zd5(f:κ->β)(s:κ):∀l:List κ,(∀a∈l,f a=f s->a=s)->(l.map f).idxOf (f s)=l.idxOf s
 |[],_=>rfl
 |x::r,h=>by
  rw[Qbv,Qhe,Zd5 f s r λa z=>h a (Qai _ z)]
  by_cases e:x=s
  .grind
  .grind
def y8(f:κ->β)(ks:List κ)(h:∀a∈ks,∀b∈ks,f a=f b->a=b):Wq (ks.map f)=Wq ks:=by
 unfold Wq;rw[Qay,y7 f ks h];refine Qbo λk F=>(Zd5 f k _ λa z e=>h a ((Yh ks a).mp z) k F e)
def Zd6(ks:List κ):∀a∈ks,∀b∈ks,(Z5 ks).idxOf a=(Z5 ks).idxOf b->a=b:=λa F b z e=>wZ ((Yh ks a).mpr F) e ((Yh ks b).mpr z)
def xY(ks:List κ):Wq (Wq ks)=Wq ks:=y8 _ ks (Zd6 ks)
def Zd7(ks:List κ):(Z5 (Wq ks)).length=(Z5 ks).length:=by
 unfold Wq;rw[y7 _ ks (Zd6 ks),Qab]
theorem Xx:∀{e F:List κ},e.Nodup->(∀x∈e,x∈F)->e.length<=F.length
 |[],_,_,_=>Qbl _
 |a::r,F,h1,G=>by
  rw[Qbu]at h1;have I:=G a Qah;have:=Xx h1.2 λx J=>(Qga (show x≠a fromλz=>h1.1 (z ▸ J))).mpr (G x (Qai _ J));rw[Qe7 I]at this;have O:=Qel I;rw[Qbj];lia
theorem uq:∀{I F:List κ},I.Nodup->(∀x∈I,x∈F)->F.length<=I.length->F.Nodup
 |[],F,_,_,O=>by
  grind
 |a::r,F,h1,Ua,O=>by
  rw[Qbu]at h1;have Y:=Ua a Qah;have e:=λx G=>(Qga (show x≠a fromλz=>h1.1 (z ▸ G))).mpr (Ua x (Qai _ G));have Z:=Qe7 Y;rw[Qbj]at O;have ih:=uq h1.2 e (by lia);have J:a∉F.erase a:=λz=>by
   have:=Xx h1.2 λx G=>(Qga (show x≠a fromλz=>h1.1 (z ▸ G))).mpr (e x G);rw[Qe7 z]at this;have hp2:=Qel z;lia
  exact(List.perm_cons_erase Y).nodup_iff.mpr (Qbu.mpr ⟨J,ih⟩)
def kh(f:κ->β)(ks:List κ)(h:(Z5 ks).length<=(Z5 (ks.map f)).length):∀a∈ks,∀b∈ks,f a=f b->a=b:=by
 have G:=uq (X1 (ks.map f)) (λx J=>by
  obtain⟨k,O,e⟩:=Qau.mp ((Yh _ x).mp J);exact Qau.mpr ⟨k,(Yh ks k).mpr O,e⟩) (by grind)
 intro a F b z e;have I:=Qbi ((Yh ks a).mpr F);have Y:=Qbi ((Yh ks b).mpr z);have Z:((Z5 ks).map f)[(Z5 ks).idxOf a]?=some (f a):=by
  grind
 have Ua:((Z5 ks).map f)[(Z5 ks).idxOf b]?=some (f b):=by
  grind
 have:=(List.getElem?_inj (j:=(Z5 ks).idxOf b) (by rw[Qab];exact I) G).mp (by grind);exact wZ ((Yh ks a).mpr F) this ((Yh ks b).mpr z)
def Zl6{ks:List κ}{m:Nat}(h:m∈Wq ks):m<(Z5 ks).length:=by
 obtain⟨k,e,rfl⟩:=Qau.mp h;exact Qbi ((Yh ks k).mpr e)
def Zhr{ks:List κ}{m:Nat}(h:m∈Wq ks)(z:∀n∈Wq ks,n<=m):m+1=(Z5 ks).length:=by
 have h1:=Zl6 h;have e:(Z5 ks).length-1<(Z5 ks).length:=by lia
 have hi:=List.Nodup.idxOf_getElem (X1 ks) _ e;have:=z _ (Qau.mpr ⟨_,(Yh ks _).mp (Qbh e),U⟩);lia
end
def Zaw{b1 b2:Bool}{xs ys:A2}{is:Aj}{σ:St}{Q:VK}(z:Nat->List V->Hp->Prop)(h0:z 0 [] H)(Y:∀i zs H,z i zs H->zs.length<=sizeLine)(hq:∀i zs H,z i zs H->SqB K b1 H a xs/\SqB K b2 H f ys)
  (hs:∀i x y p zs H (R:A2->Hp->Prop),(∀zs H,z (i+1) zs H->R zs H)->xs[i]?=some x->ys[i]?=some y->z i zs H->H p=none->L (Znv is σ (some x) (some y)) (upd H p (.tup [x,y])) λb H2=>if b=true then d (Znv is σ (some x) (some y)) H2 λy H3=>R (zs++[y]) H3 else R zs H2)
  (hd:∀zs H,z (xs.zip ys).length zs H->∀p,H p=none->Q (.ref p) (upd H p (.lst zs))):
  Zds K is L d σ Q (Itz K b1 b2 a f) H:=by
 refine⟨λi m zs H=>m=(xs.zip ys).length-i/\i<=(xs.zip ys).length/\z i zs H,⟨(xs.zip ys).length,by simp,Qbl _,h0⟩,?_⟩;rintro i m zs H ⟨rfl,hi,p⟩;obtain⟨I,G⟩:=hq i zs H p;have hz:(xs.zip ys).length=min _ _:=Qfl
 by_cases J:i<(xs.zip ys).length
 .have F:i<xs.length:=by lia
  have O:i<ys.length:=by lia
  refine .inr ⟨⟨xs,ys,xs[i],ys[i],I,G,Qac F,Qac O⟩,Y i zs H p,λx H' y=>?_⟩;obtain⟨c,hc,rfl,e⟩:=y;rw[e xs ys _ _ I G (Qac F) (Qac O)];exact⟨c,_,_,U,SqT.of Za,hs i _ _ c zs H (λzs H=>∃Ua,Ua<(xs.zip ys).length-i/\(λi m zs H=>m=(xs.zip ys).length-i/\i<=(xs.zip ys).length/\z i zs H) (i+1) Ua zs H) (λzs H Z=>⟨_,by lia,U,J,Z⟩) (Qac F) (Qac O) p hc⟩
 .have e:i=(xs.zip ys).length:=by lia
  subst e;exact .inl ⟨⟨xs,ys,I,G,by lia⟩,Y _ zs H p,hd zs H p⟩
def Zhs[DecidableEq m]{kn:KN m}{kvs:List (m×V)}{xs:List (m×Aw×Av)}(F:Paired (λ(p:m×V) (q:m×Aw×Av)=>p.1=q.1/\kn.at_ H q.1 q.2.1/\RelV p.2 q.2.2) kvs xs)(k:m):(atKey xs k).isSome=(Ym kvs k).isSome:=by
 have e:=Ja (λp q h=>h.1) F k;cases hv:Ym kvs k with
 |none=>rw[e.2 hv];rfl
 |some x=>
  obtain⟨q,z,_⟩:=e.1 x hv;rw[z];rfl
def rNInN:R2:=λx y H Q=>∃(Kk:Type)(_:DecidableEq Kk)(kn:KN Kk)(d a:Aw)(k:Kk)(kvs:List (Kk×V)),x=.ref a/\y=.ref d/\qX kn H d kvs/\kn.at_ H k a/\Q (.bl (!(Ym kvs k).isSome)) H
def Zd8(z:X.A.units+2<cLine):OpR X (compareOp .NotIn) rNInN:=by
 intro pins s σ H x y v u Q I J e h;obtain⟨Kk,_,kn,d,a,k,kvs,rfl,rfl,n,F,q⟩:=h;cases J;cases e;obtain⟨xs,dd,O,Ua,G⟩:=n.dict I;refine wpAny_notIn_heap (kn.room _ _ _ z) (kn.ok _ _ _ _ _ _ I.hok F) G dd ?_;rw[Zhs O];exact⟨.bl _,H,I.tok _,U,q⟩
def tNGet(td ty:TE):TE:=λσ H Q=>td σ H λx H1=>ty σ H1 λy H2=>∃(Kk:Type)(_:DecidableEq Kk)(kn:KN Kk)(d a:Aw)(k:Kk)(kvs:List (Kk×V))(v:V),x=.ref d/\y=.ref a/\qX kn H2 d kvs/\kn.at_ H2 k a/\Ym kvs k=some v/\Q v H2
theorem Zl7{i:Ax}{ty:TE}{pos:Pos}(hu:X.A.units+2<cLine)(ho:QE X o Z)(hi:QE X i ty)(hs:Zpf i):QE X (.Subscript o i pos) (tNGet Z ty):=⟨by
 intro pins s σ H Q I h;refine Zc7 PySem.F.slot_dict_getitem.lookup hs (thn (ho.out pins s σ H _ I h) λu s1 ⟨x,H1,O,rx,Ua⟩=>thn (hi.out pins s1 σ H1 _ O Ua) λiv s2 ⟨y,H2,z,ry,Kk,_,kn,d,a,k,kvs,v,ex,Y,n,J,hv,q2⟩=>?_);subst ex;subst Y;obtain rfl:u=Value.ref d:=rx;obtain rfl:iv=Value.ref a:=ry;obtain⟨xs,dd,pr,mu,hm⟩:=n.dict z;obtain⟨q,hq,p',G,e⟩:=(Ja (λp q h=>h.1) pr k).1 v hv;refine⟨dd.typeIs,wpAny_getItem_heap (kn.room _ _ _ hu) (kn.ok _ _ _ _ _ _ z.hok J) dd hq ⟨v,H2,z.tok _,e ▸ G.2.2,q2⟩⟩⟩
def sNPut(td ty tv:TE):TS:=λD σ H=>tv σ H λv H1=>td σ H1 λx H2=>ty σ H2 λy e=>∃(Kk:Type)(_:DecidableEq Kk)(kn:KN Kk)(d a:Aw)(k:Kk)(kvs:List (Kk×V)),x=.ref d/\y=.ref a/\qX kn e d kvs/\kn.at_ e k a/\Ym kvs k=none/\kvs.length+1<sizeLine /\
 ∀H',qX kn H' d (kvs++[(k,v)])->(∀b o,e b=some o->b≠d->H' b=some o)->(∃o,H'=upd e d o)->D.nx σ H'
theorem Zl8{i:Ax}{ty tv:TE}{pos:Pos}(hu:X.A.units+2<cLine)(ho:QE X o Z)(hi:QE X i ty)(z:QE X e tv)(hs:swapsWith e (some (.Subscript o i B)) pos.line X.env=pure false):QS X (.Assign [.Subscript o i B] e pos) (sNPut Z ty tv):=⟨by
 intro pins s σ H D I h;refine wpAny_Assign_Subscript (thn (z.out pins s σ H _ I h) λr s1 ⟨v,H1,Y,rv,q1⟩=>thn (ho.out pins s1 σ H1 _ Y q1) λu s2 ⟨x,H2,I2,rx,q2⟩=>thn (hi.out pins s2 σ H2 _ I2 q2) λiv s3 ⟨y,H3,G,ry,Kk,_,kn,d,a,k,kvs,ex,ey,n,J,z,hz,q3⟩=>?_) hs;subst ex;subst ey;obtain rfl:u=Value.ref d:=rx;obtain rfl:iv=Value.ref a:=ry;obtain⟨xs,dd,F,Ua,hm⟩:=n.dict G;refine wpAny_setItem_heap (kn.room _ _ _ hu) (kn.ok _ _ _ _ _ _ G.hok J) dd (λh' dd' sb=>?_) (by rw[<-Qfb F];lia);rw[storedH_new ((Ja (λp q h=>h.1) F k).2 z)]at dd';obtain⟨H',n',O,o',I'⟩:=y3 G n J rv hz F Ua hm z dd' sb;exact⟨σ,H',I',q3 H' n' O o'⟩⟩
theorem Yi:∀(names:List (Str×NameKind))(n:Nat)(acc:List (Str×Aw)),cellsFrom n names acc=cellsFrom n names []++acc
 |[],_,_=>rfl
 |(x,k)::r,n,acc=>by
  unfold cellsFrom;split
  .rw[Yi r _ _,Yi r _ [(x,n)],Qb7];rfl
  .exact Yi r n acc
theorem qk:∀(names:List (Str×NameKind)) (n:Nat) {x:Str} {c:Aw},(x,c)∈cellsFrom n names []->(x,NameKind.cell)∈names
 |[],_,_,_,h=>nomatch h
 |(y,k)::r,n,x,c,h=>by
  unfold cellsFrom at h;split at h
  .rename_i e;rw[Yi]at h;rcases Qb2.mp h with h|h
   .exact Qai _ (qk r _ h)
   .grind
  .exact Qai _ (qk r n h)
theorem J0:∀{l r:List (Str×m)},(l++r).lookup x=match l.lookup x with|some c=>some c|none=>r.lookup x
 |[],r=>rfl
 |(y,c)::l,r=>by
  grind
section
variable {M:Model}{A:Ar}{E:Ab}{s:As}
def Zl9{scope:Scope}{globals:Aw}{z:List (Str×Aw)}{binds:List (Str×Av)}{qual:Str}{func:Option Aw}{code:Av}{builtins:Aw}{Q:Env->Shared->Prop}
  (hk:scope.kind=.function) (hl:∀x∈binds,scope.names.lookup x.1=some .local)
  (hQ:∀h' tk,h'.Ns s.heap.objs.size (λx=>binds.reverse.lookup x)->(∀b o,s.heap.get? b=some o->h'.get? b=some o)->(∀n c,(n,c)∈cellsFrom (s.heap.objs.size+1) scope.names []->h'.IsCell c none/\s.heap.objs.size<c)->
   ((cellsFrom (s.heap.objs.size+1) scope.names []).Pairwise λx y=>x.2≠y.2)->Q (newEnv scope s.heap.objs.size globals (cellsFrom (s.heap.objs.size+1) scope.names z) qual func code none builtins) {s with heap:=h',toks:=tk}):
  wpAny M A (newFunctionEnv scope globals z binds qual func code none builtins) Q E s:=by
 simp only[newFunctionEnv,if_false];refine Qaa (wpAny_alloc (Qaa (wpAny_layCells _ (λname kind cells=>by grind) _ _ _ _ ?_)));have ok:=cellsFrom_ok scope.names (s.heap.push {cls:=.type "frame",data:=.dict #[]}) (s.heap.objs.size+1) [] ⟨λ_ _ Z=>(nomatch Z),List.Pairwise.nil⟩ (by simp);rw[Qca]at ok;rw[Qca ..];refine Qaa (wpAny_forIn_list _
  (λrest _ s'=>∃F h',binds=F++rest/\s'={s with heap:=h',toks:=s.toks+F.length}/\h'.Ns _ (λx=>F.reverse.lookup x) /\
   Heap.SameBut s.heap.objs.size _ h') _ ?_ ?_ binds _
  ⟨[],_,U,U,(Heap.Ns.new s.heap _).keeps (pushCells_keeps _ _),Heap.SameBut.refl ..⟩)
 .rintro⟨name,v⟩ rest _ s' ⟨F,h',Ua,rfl,I,G⟩;have Y:Env.kindOf {scope,locals:=s.heap.objs.size,globals,cells:=cellsFrom (s.heap.objs.size+1) scope.names z,qual,func,code,frame:=some s.heap.objs.size,builtins} name=some .local:=hl (name,v) (by grind);simp only[storeName_local Y (by rw[hk];rfl)];refine Qaa (wpAny_nsSet I λh'' J O=>Qaf ⟨F++[(name,v)],h'',by simp[Ua],?_,?_,G.trans O⟩)
  .simp[Nat.add_assoc]
  .rw[lookup_reverse_snoc];exact J
 .rintro _ s' ⟨F,h',Ua,rfl,I,G⟩;rw[Qbp]at Ua;subst Ua;refine Qaf (hQ h' _ I (λb o e=>(G.extBut b o (Qa8 (Qao e)) (pushCells_keeps _ _ b o (Qad _ e)))) (λn c Z=>?_) ok.apart)
  .obtain⟨q1,q2⟩:=ok.empty n c Z;exact⟨q1.sameBut G (Qef q2),q2⟩
end
structure Zma(scope:Scope)(ps ls ys:Ai):Prop where
 kind:scope.kind=.function
 co:scope.isCoroutine=false
 gen:scope.isGenerator=false
 par:∀p∈ps,scope.names.lookup p=some .local
 free:∀y∈ys,scope.names.lookup y=some .free
 nd:(ps++(ls++ys)).Nodup
 ndn:(scope.names.map (·.1)).Nodup
def cxN(P:Aq)(w:Au)(K:Af)(mg:Ae)(base:Heap)(N:Ai)(qual:Str)(scope:Scope)(f:Aw)(e:Av)(cl:List (Str×Aw))(A:Ar)(outer:List Env)(s:As)(H:Hp):Cx where
 prog:=P
 w:=w
 K:=K
 mg:=mg
 base:=base
 A:=A.deeper (PySem.W.envX qual scope s.heap.objs.size f e (cellsFrom (s.heap.objs.size+1) scope.names cl))
 N:=N
 s₀:=s
 H₀:=H
 env:=PySem.W.envX qual scope s.heap.objs.size f e (cellsFrom (s.heap.objs.size+1) scope.names cl)
 outer:=outer
 stack:=PySem.W.envX qual scope s.heap.objs.size f e (cellsFrom (s.heap.objs.size+1) scope.names cl)::outer
 ex:=[]
 calm:=true
 fn:=λx=>scope.names.lookup x == some .cell
 pn:=[]
 xe:=λ_ _=>False
def Zj5(n m:Nat)(ts:TS)(cs:List Aw)(e:List (Option V)):Sp:=λvs H Q _=>vs.length=n/\ts {nx:=λ_ H'=>(∀c∈cs,H' c=none)->Q .non (WC cs H H'),rt:=λv H'=>(∀c∈cs,H' c=none)->Q v (WC cs H H')} (vs.map some++(List.replicate m none++e)) (hide cs H)
section
variable {P:Aq}{w:Au}{K:Af}{mg:Ae}{base:Heap}
theorem y9{k:Nat}{name qual:Str}{params:Arguments}{body:List Ay}{scope:Scope}{cl:List (Str×Aw)}{doc pm ctv:Av}{ps ls ys:Ai}{cv:List (Option V)}{ts:TS}
  (S:Zma scope ps ls ys) (hf:H f=some (XY (PySem.W.fnMade name qual params body scope cl doc pm Ua ctv))) (hc:H Ua=some (XY Y)) (hoc:jF Y qual)
  (hcl:∀x c,cl.lookup x=some c->c∈J) (hcs:∀c∈J,∃o v,H c=some (XY o)/\o.data=.cell v)
  (inj:∀x y c,cl.lookup x=some c->cl.lookup y=some c->x=y) (has:∀x,scope.names.lookup x=some .free->∃c,cl.lookup x=some c)
  (hcv:cv.length=ys.length) (hval:∀(i:Nat)(y:Str)(v:V),ys[i]?=some y->cv[i]?=some (some v)->∃c o u,cl.lookup y=some c/\H c=some (XY o)/\o.data=.cell (some u)/\RelV v u)
  (hb:∀us:Ag,us.length=ps.length->bindArgs (PySem.W.fnX name qual params body scope cl .none .none doc pm none (.ref Ua) ctv) ⟨us,[]⟩=pure (ps.zip us))
  (hbody:∀(A:Ar)(outer:List Env)(s:As)(H1:Hp),Wo k (A.deeper (PySem.W.envX qual scope s.heap.objs.size f (.ref Ua) (cellsFrom (s.heap.objs.size+1) scope.names cl)))->PSs (cxN P w K mg base (ps++(ls++ys)) qual scope f (.ref Ua) cl A outer s H1) body ts):
  Xf P w K mg base (k+1) f H (Zj5 ps.length ls.length ts J cv):=by
 refine⟨⟨_,_,hf,U⟩,?_⟩;intro A outer s H1 us vs Q E fz hr O r ht;obtain⟨hl,ht⟩:=ht;have hcs1:∀c∈J,∃o v,H1 c=some (XY o)/\o.data=.cell v/\s.heap.get? c=some o:=λc m=>by
  obtain⟨o,v,e,d⟩:=hcs c m;exact⟨o,v,fz _ _ _ e,d,(O.hok c _ (fz _ _ _ e)).1⟩
 have hcs2:∀c∈J,∃o,H1 c=some (XY o):=λc m=>let⟨o,_,e,_⟩:=hcs1 c m;⟨o,e⟩;obtain⟨vs0,t0,hd0,hv0⟩:=hoc;have lim:s.heap.NoLimit:=O.mod.nolimit.keeps λb o e=>(O.bs b o e).1;have lus:us.length=ps.length:=by rw[<-r.length];exact hl
 refine codeAny_call_function hr.depth (O.hok f _ (fz _ _ _ hf)).1 rfl S.co S.gen U ⟨Ua,Y,vs0,t0,U,(O.hok Ua _ (fz _ _ _ hc)).1,hd0,hv0⟩ ?_;rw[hb us lus];refine Qaf (Zl9 S.kind (λx hx=>S.par _ (Qd7 hx).1) λh₁ tk hns old Z hap=>⟨lim.keeps old,codeAny_func ?_⟩);have ndp:ps.Nodup:=(Qdu.mp S.nd).1;have look:∀x c,(cellsFrom (s.heap.objs.size+1) scope.names cl).lookup x=some c->((x,c)∈cellsFrom (s.heap.objs.size+1) scope.names []/\(cellsFrom (s.heap.objs.size+1) scope.names []).lookup x=some c)\/cl.lookup x=some c:=λx c e=>by
  rw[Yi,J0]at e;cases q:(cellsFrom (s.heap.objs.size+1) scope.names []).lookup x with
  |none=>rw[q]at e;exact .inr e
  |some d=>rw[q]at e;cases e;exact .inl ⟨Qci q,U⟩
 have G:∀x,scope.names.lookup x=some .free->(cellsFrom (s.heap.objs.size+1) scope.names cl).lookup x=cl.lookup x:=λx hx=>by
  rw[Yi,J0];cases q:(cellsFrom (s.heap.objs.size+1) scope.names []).lookup x with
  |none=>rfl
  |some d=>
   have m1:=qk scope.names _ (Qci q);have m2:=Qci hx;have:∀{l:List (Str×NameKind)},(l.map (·.1)).Nodup->(x,NameKind.cell)∈l->(x,NameKind.free)∈l->False:=λ{l} nd a b=>by
    induction l with
    |nil=>cases a
    |cons p l ih=>
     rw[Qbv,Qbu]at nd;rcases Qas.mp a with a|a<;>rcases Qas.mp b with b|b
     .rw[<-a]at b;cases b
     .exact nd.1 (by rw[<-a];exact Qb9 (f:=(·.1)) b)
     .exact nd.1 (by rw[<-b];exact Qb9 (f:=(·.1)) a)
     .exact ih nd.2 a b
   exact(this S.ndn m1 m2).elim
 have oldC:∀x c,cl.lookup x=some c->c<s.heap.objs.size:=λx c e=>by
  obtain⟨o,v,_,_,g⟩:=hcs1 c (hcl x c e);exact Qao g
 have I:Inv (cxN P w K mg base (ps++(ls++ys)) qual scope f (.ref Ua) cl A outer s (hide J H1)) [] (vs.map some++(List.replicate ls.length none++cv)) (hide J H1) {s with heap:=h₁,toks:=tk}:=by
  have noA:∀b:Aw,b∉([]:List Aw):=λb z=>nomatch z;refine⟨⟨O.mod,S.kind,U,U,Qaj _,λx y c h1 h2=>?_,λy hy=>?_,λy c hy h=>?_,λ_=>hr.hd,Qf3 O.frames,.inr ⟨U,U⟩,λb z=>absurd z (noA b),λb o e=>⟨(O.bs b o e).1,?_⟩,O.bsz,λb _ _=>noA b,λb z=>absurd z (noA b),O.funs,λb hb=>?_⟩,
   rfl,O.bare,Un.kept old,⟨_,hns,λi y v h1 h2 h3=>?_⟩,λy c h=>?_,?_,λy c h=>?_,λp hp=>absurd (show p∈([]:Ac)from hp) (by simp),(wW O.hok hcs2).kept old,?_⟩
  .rcases look x c h1 with⟨m1,_⟩|l1<;>rcases look y c h2 with⟨m2,_⟩|l2
   .exact name_of_addr hap m1 m2
   .exact absurd (oldC y c l2) (Qg0.mpr (Qaw (Z x c m1).2))
   .exact absurd (oldC x c l1) (Qg0.mpr (Qaw (Z y c m2).2))
   .exact inj x y c l1 l2
  .have hy:scope.names.lookup y=some .cell\/scope.names.lookup y=some .free:=hy;rcases hy with hy|hy
   .obtain⟨c,e⟩:=xp (n:=s.heap.objs.size+1) hy;exact⟨c,by show(cellsFrom (s.heap.objs.size+1) scope.names cl).lookup y=_;rw[Yi,J0,e]⟩
   .obtain⟨c,e⟩:=has y hy;exact⟨c,by show(cellsFrom (s.heap.objs.size+1) scope.names cl).lookup y=_;rw[G y hy,e]⟩
  .have hy:scope.names.lookup y=some .cell:=eq_of_beq (show(scope.names.lookup y == some .cell)=true from hy);obtain⟨d,e⟩:=xp (n:=s.heap.objs.size+1) hy;have h':(cellsFrom (s.heap.objs.size+1) scope.names cl).lookup y=some c:=h;rw[Yi,J0,e]at h';cases h';exact Qaw (Z y _ (Qci e)).2
  .by_cases m:b∈J
   .exact YJ m
   .exact(ZA m).trans (O.bs b o e).2
  .by_cases m:b∈J
   .exact YJ m
   .exact(ZA m).trans (O.frf b hb)
  .by_cases hi:i<vs.length
   .rw[Qbe (by simpa using hi),Qag]at h2;have ha:vs[i]?=some v:=by
     cases e:vs[i]? with
     |none=>rw[e]at h2;cases h2
     |some a=>rw[e]at h2;cases h2;rfl
    obtain⟨u,hu,rv⟩:=r.get ha;have h1':(ps++(ls++ys))[i]?=some y:=h1;rw[Qbe (by lia)]at h1';exact⟨u,rv,.inl ⟨S.par y (Qam h1'),jE ndp h1' hu lus.symm⟩⟩
   .rw[Qa1 (by simpa using hi),Qab]at h2;have h1':(ps++(ls++ys))[i]?=some y:=h1;rw[Qa1 (by lia),<-hl]at h1'
    by_cases hj:i-vs.length<ls.length
    .rw[Qbe (by rw[Qav];exact hj),List.getElem?_replicate]at h2;split at h2<;>cases h2
    .rw[Qa1 (by rw[Qav];lia),Qav]at h2;rw[Qa1 (by lia)]at h1';obtain⟨c,o,u,e1,e2,e3,rv⟩:=hval _ y v h1' h2;have hfy:=S.free y (Qam h1');exact⟨u,rv,.inr ⟨.inr hfy,c,(G y hfy).trans e1,o,old _ _ (O.hok c _ (fz _ _ _ e2)).1,e3⟩⟩
  .rcases look y c h with⟨m1,_⟩|l1
   .exact⟨none,(Z y c m1).1⟩
   .obtain⟨o,v,_,d,g⟩:=hcs1 c (hcl y c l1);exact⟨v,o,old _ _ g,d⟩
  .show hide J H1 s.heap.objs.size=none
   by_cases m:s.heap.objs.size∈J
   .exact YJ m
   .rw[ZA m];exact O.hok.fresh (Qaj _)
  .rcases look y c h with⟨m1,_⟩|l1
   .by_cases m:c∈J
    .exact YJ m
    .rw[ZA m];exact O.hok.fresh (Qaw (Z y c m1).2)
   .exact YJ (hcl y c l1)
  .show(vs.map some++(List.replicate ls.length none++cv)).length=(ps++(ls++ys)).length;rw[Qar,Qar,Qar,Qar,Qab,Qav,hl,hcv]
 refine Qcq (hbody A outer s (hide J H1) (hr.deeper _) [] _ _ _ _ I ht) (λfl s' hs=>?_) λ_ _ z=>z.elim;have fin:∀{σ':St} {H':Hp} {v:V} {u:Av},Inv (cxN P w K mg base (ps++(ls++ys)) qual scope f (.ref Ua) cl A outer s (hide J H1)) [] σ' H' s'->RelV v u->((∀c∈J,H' c=none)->Q v (WC J H1 H'))->CE outer P w H1 s Q u s':=λ{σ' H' v u} F rv q=>uc O hcs1 F.os F.bare F.base F.hok rv q;cases fl with
 |ret u=>
  obtain⟨v,σ',H',F,rv,q⟩:=hs;exact fin F rv q
 |next=>
  obtain⟨σ',H',F,q⟩:=hs;exact fin (v:=V.non) (u:=Value.none) F U q
 |brk=>
  obtain⟨_,_,_,q⟩:=hs;exact False.elim q
 |cont=>
  obtain⟨_,_,_,q⟩:=hs;exact False.elim q
end
def tDef(P:Aw)(lpos:Pos)(qual:Str)(z:Aw->Value->Value->Obj)(i:Nat):TS:=λD σ H=>ZF H P lpos qual /\
 ∀(f G:Aw)(oc:Obj)(F e:Av)(H2:Hp),H f=none->H2 f=some (XY (z G F e))->H2 G=some (XY oc)->jF oc qual->ZF H2 P lpos qual->(∀b o,H b=some o->b≠P->H2 b=some o)->D.nx (σ.set i (some (.ref f))) H2
section
variable {X:Cx}{params:Arguments}{body:List Ay}{scope:Scope}{lpos:Pos}{c P:Aw}{name qual:Str}
abbrev ki (X:Cx) (name qual:Str) (params:Arguments) (body:List Ay) (scope:Scope):Aw->Value->Value->Obj:=λF z e=>PySem.W.fnMade name qual params body scope (j6 X.env.cells scope.names []) e ((X.mg "__name__").getD .none) F z
theorem qs_def{S0:Scope}(hN:X.N.Nodup)(hi:X.N[i]?=some name)(hx:Loc X.env.scope name)(J:X.env.code=.ref c)(C:PySem.W.CodeHd X.base c P)(B:yt X.mg X.base)(hd0:params.defaults=[])(hk0:params.kw_defaults=[])(han:annTrees params none X.env=[])(hq:qualnameIn X.env name name=qual)
  (hX:X.env.scope=S0) (hfr0:∀y∈scope.names,y.2=.free->S0.names.lookup y.1=some .cell) (hf:X.fn name=true\/X.env.scope.names.lookup name=some .local:=by first|exact .inl U|exact .inr U|assumption):
  QS X (.FunctionDef name params body [] none [] scope none name lpos) (tDef P lpos qual (ki X name qual params body scope) i):=by
 have hfree:∀y∈scope.names,y.2=.free->X.env.scope.names.lookup y.1=some .cell:=λy hy h=>by grind
 refine⟨?_⟩;intro pins s σ H D I hw;obtain⟨Ua,hq2⟩:=hw;refine PySem.W.nestDef_K hd0 hk0 han ?_;rw[hq];have hcl:=Jv λy hy h=>I.ok.has y.1 (.inl (hfree y hy h));have hg:=I.mod.glob.keeps I.bk;obtain⟨pz,hPs⟩:=Ua.ex;have Z:X.base.get? P=none:=by
  cases e:X.base.get? P with
  |none=>rfl
  |some o=>rw[(I.bs P o e).2]at hPs;cases hPs
 have hgP:mainGlobals≠P:=λe=>by
  obtain⟨o,es,ep,g,_⟩:=I.mod.glob;rw[e,Z]at g;cases g
 have hb:s.heap.BuiltinsAt X.mg P:=by
  obtain⟨bm,ob,b1,b2,b3,b4,b5,b6⟩:=B.ex;refine⟨bm,ob,b1,b2,λe=>?_,(λe=>by grind),I.bk _ _ b3,b4,b5,b6⟩;obtain⟨o,es,ep,g,hd,_⟩:=I.mod.glob;rw[<-e,b3]at g;cases g;rw[b6]at hd;cases hd
 rcases Ua with Ua|⟨F,oc,Ua,hc',O⟩
 .have hP:=I.hok P _ Ua;refine PySem.W.makeFunction_K (mg:=X.mg) (ps:=#[]) hcl I.ok.glob hg J (C.keeps I.bk) hP trivial U hgP hb λF z G h' tk hx' Y hlt hrec htb=>?_;obtain⟨c₂,oc,vs,t,e2,O,hd,hv⟩:=hrec;cases e2;have cn:H F=none:=I.hok.fresh Y;have cP:F≠P:=λe=>by grind
  have hsz:=Qa9 Y (Qaw hlt);have I2:=ud (lpos:=lpos) (fo:=ki X name qual params body scope F z G) (tk:=tk) I Ua hx' Y hlt O htb;have fn:=I.hok.fresh hsz;have fc:=Qa8 hlt;refine X9 I2 hN hi hx (v:=.ref h'.objs.size) U (λs' I3=>⟨_,_,I3,hq2 _ F oc z G _ fn Za ?_ ⟨vs,t,hd,hv⟩ (.inr ⟨F,oc,?_,?_,⟨vs,t,hd,hv⟩⟩) λb o e hbP=>?_⟩) hf
  .rw[Zj fc];exact Za
  .rw[Zj (Zm Ua fn),Zj cP.symm];exact Za
  .rw[Zj fc];exact Za
  .rw[Zj (Zm e fn),Zj (Zm e cn),Zj hbP];exact e
 .have hP:=I.hok P _ Ua;have hfd:codeAmong lpos (#[rawInt lpos.line,rawInt lpos.col,.ref F]:Ah).toList=some (.ref F):=by
   show(if((lpos.line:Int) == lpos.line&&(lpos.col:Int) == lpos.col)=true then some (Value.ref F)else _)=_;rw[Qcw,Qcw];rfl
  refine PySem.W.makeFunction_hit (mg:=X.mg) hcl I.ok.glob hg J (C.keeps I.bk) hP trivial hfd hb λz G h' tk hk hsz=>?_;have I2:=I.laid (t':=tk) (o:=XY (ki X name qual params body scope F z G)) (λb u e=>Qad _ (hk b u e)) hsz (qd (Qak _ U));have fn:=I.hok.fresh hsz;have sm:∀b o,H b=some o->upd H h'.objs.size (XY (ki X name qual params body scope F z G)) b=some o:=λb o e=>by rw[Zj (Zm e fn)];exact e
  exact X9 I2 hN hi hx (v:=.ref h'.objs.size) U (λs' I3=>⟨_,_,I3,hq2 _ F oc z G _ fn Za (sm _ _ hc') O (.inr ⟨F,oc,sm _ _ Ua,sm _ _ hc',O⟩) λb o e _=>sm b o e⟩) hf
end
def tCallN(J:Aq)(w:Au)(K:Af)(mg:Ae)(base:Heap)(k:Nat)(sp:Sp)(qual:Str)(z:Aw->Value->Value->Obj)(ta:TA)(i n m:Nat)(is:Aj)(ts:TS):TE:=λσ H Q=>ta σ H λvs H1=>
 ∃(f G:Aw)(oc:Obj)(F e:Av),σ[i]?=some (some (.ref f))/\H1 f=some (XY (z G F e))/\H1 G=some (XY oc)/\jF oc qual /\
 ∀(cs:List Aw)(H2:Hp),(∀c∈cs,H1 c=none)->(∀c∈cs,∃o,H2 c=some (XY o))->(∀b o,H1 b=some o->H2 b=some o)->
  Xf J w K mg base k f H2 (Zj5 n m ts cs (is.map λi=>(σ[i]?).getD none))->sp vs H2 (λv I=>Q v (hide cs I)) E0
structure Zos(S0 scope:Scope)(N0 ps ls ys:Ai)(is:Aj):Prop where
 sc:Zma scope ps ls ys
 free:∀y∈scope.names,y.2=.free->S0.names.lookup y.1=some .cell
 vis:∀q∈ys.zip is,N0[q.2]?=some q.1
 len:ys.length=is.length
section
variable {X:Cx}{params:Arguments}{body:List Ay}{scope:Scope}{p pos:Pos}{g:Aw}{name qual x:Str}{k kl:Nat}{gd:Ao}{pg ps ls ys:Ai}{is:Aj}{sp:Sp}{ts:TS}{e:Ax}{es:An}{ta:TA}
def Zht(F:xB X.prog X.w X.K X.mg X.base CX0 k g gd pg sp)(hr:Wo k X.A)(hg:Gl X x)(hm:X.mg x=some (.ref g))(hk:PySem.W.keepIn X.K (.ref g)=true)(hb:Binds X.K gd pg [])(hfn:X.fn=λ_=>true)
  (ha:QA X (e::es) ta) {S0:Scope} {N0:Ai} (hX:X.env.scope=S0) (hXN:X.N=N0) (LL:Zos S0 scope N0 ps ls ys is)
  (Y:∀(cl:List (Str×Aw))(doc pm cv ctv:Av)(us:Ag),us.length=ps.length->bindArgs (PySem.W.fnX name qual params body scope cl .none .none doc pm none cv ctv) ⟨us,[]⟩=pure (ps.zip us))
  (Z:∀(f c':Aw)(cl:List (Str×Aw))(A:Ar)(outer:List Env)(s:As)(H1:Hp),Wo kl (A.deeper (PySem.W.envX qual scope s.heap.objs.size f (.ref c') (cellsFrom (s.heap.objs.size+1) scope.names cl)))->QSs (cxN X.prog X.w X.K X.mg X.base (ps++(ls++ys)) qual scope f (.ref c') cl A outer s H1) body ts)
  (hdb:(x == ("__debug__" : Str))=false:=by decide) (hp:(e::es).all ZY=true:=by rfl):
  QE X (.Call (.Name x p) (e::es) [] pos) (tCallN X.prog X.w X.K X.mg X.base (kl+1) sp qual (ki X name qual params body scope) ta i ps.length ls.length is ts):=by
 rw[Qc4,Qa4]at hp;have S:=LL.sc;have G:∀y∈scope.names,y.2=.free->X.env.scope.names.lookup y.1=some .cell:=λy hy h=>by rw[hX];exact LL.free y hy h
 refine⟨?_⟩;intro pins s σ H Q I hw;refine Qc2 (JP I hg hm ?_ hdb);refine Qfd I.ok.mod.kin hk (thn (ha.out pos pins s σ H _ I hw) λus s1 ⟨vs,H1,O,r,f,c',oc,ctv,doc,hσ,hf,hc',hoc,q⟩=>⟨O.kIn,?_⟩) (Zv hp.1) (Xg hp.2);have Ua:∀y d,(j6 _ _ []).lookup y=some d->X.env.cells.lookup y=some d:=
  Gm (λy hy h=>O.ok.has y.1 (.inl (G y hy h))) λ_ _ z=>by cases z
 have J:=xt O;have hcs:=yu O;refine xU F hr hb hfn O r (q _ _ (Wb O) (λd m=>let⟨o,_,e,_⟩:=hcs d m;⟨o,e⟩) J ?_);exact y9 S (J _ _ hf) (J _ _ hc') hoc (λy d h=>YX.mpr ⟨y,Ua y d h⟩) (λd m=>let⟨o,v,e,hd,_⟩:=hcs d m;⟨o,v,e,hd⟩) (λy z d h1 h2=>O.ok.inj y z d (Ua y d h1) (Ua z d h2)) (λy h=>Jw h) (by rw[Qab,LL.len])
  (vX (N0:=N0) O G S.free (λq hq=>by rw[hXN];exact LL.vis q hq) LL.len) (λus hl=>Y _ _ _ _ _ us hl) λA outer s H1 hr=>(Z f c' _ A outer s H1 hr).out
end
def QE.or{u:TE}(h:QE X e d)(g:QE X e u):QE X e (λσ H Q=>d σ H Q\/u σ H Q):=⟨λpins s σ H Q I z=>z.elim (h.out pins s σ H Q I) (g.out pins s σ H Q I)⟩
def QS.or{e:Ay}{u:TS}(h:QS X e A)(g:QS X e u):QS X e (λD σ H=>A D σ H\/u D σ H):=⟨λpins s σ H D I z=>z.elim (h.out pins s σ H D I) (g.out pins s σ H D I)⟩
def Zmb(tk tv:TE):TE:=λσ H Q=>∀d,H d=none->tk σ (upd H d (.dK [])) λx H1=>tv σ H1 λv H2=>∃(Kk:Type)(_:DecidableEq Kk)(kn:KN Kk)(a:Aw)(k:Kk),x=.ref a/\H2 d=some (.dK [])/\kn.at_ H2 k a /\
 ∀H',qX kn H' d [(k,v)]->(∀b o,H2 b=some o->b≠d->H' b=some o)->(∃o,H'=upd H2 d o)->Q (.ref d) H'
def Zd9{pos:Pos}{k v:Ax}{tk:TE}(hu:X.A.units+2<cLine)(Ua:QE X k tk)(hv:QE X v d):QE X (.Dict [some k] [v] pos) (Zmb tk d):=by
 refine⟨λpins s σ H Q I q=>?_⟩;have Z:=I.hok.fresh (Qaj _);have Y:=I.laid (t':=s.toks) (λ_ _ q=>Qad _ q) (Qaj _) (ym s.heap I.big);refine wpAny_Dict_any U U (λz=>nomatch z) (by simp) (thn (pp1 Ua hv pins _ σ _ _ Y (q _ Z)) λws s2 ⟨x,y,u,r,H2,ew,F,rx,ry,Kk,_,kn,a,kk,ex,e,G,q2⟩=>?_);subst ew ex;cases(rx);have n:qX kn H2 _ []:=⟨Qcj,(show 0<sizeLine by decide),.inl ⟨U,e⟩⟩;obtain⟨xs,dd,pr,O,hm⟩:=n.dict F;cases pr;unfold storeAll;rw[List.forIn_cons];refine Qaa (Qaa (wpAny_dictSet_heap (kn.room0 _ _ _ hu) (kn.ok _ _ _ _ _ _ F.hok G) dd λh' dd' hs=>Qaf ?_));show wpAny _ _ _ _ _ _;obtain⟨H',n',J,o',I'⟩:=y3 F n G ry (show 0+1<sizeLine by decide) .nil O hm U dd' hs;exact Qaf ⟨.ref _,H',I',U,q2 H' n' J o'⟩
def PI.or{l:Ax}{t u:TI}(h:PI X e l t)(g:PI X e l u):PI X e l (λσ H R=>t σ H R\/u σ H R):=λpins s σ H R I z=>z.elim (h pins s σ H R I) (g pins s σ H R I)
def QI.or{tg l:Ax}{t u:TI}(h:QI X tg l t)(g:QI X tg l u):QI X tg l (λσ H R=>t σ H R\/u σ H R):=⟨PI.or h.out g.out⟩
section
variable {prog:Aq}{w:Au}{A:Ar}{R:Result->Shared->Prop}{I:Aw}{fp wr:List Aw}{n:Nat}{P:Nat->Value->Prop}{St:Nat->Heap->Prop}{d:Av}
theorem Zmc(W:Walks prog w A.in1 I fp wr n P St)(bt:Nat->Nat->Bool)(hcmp:CmpOf prog w A.in1 .Gt P bt)(S:Aw)(hSf:S∉fp):
  ∀(k j:Nat)(s:As)(Y:Av)(c:Nat),n-(j+1)=k->j+1<=n->St (j+1) s.heap->P (argBest bt j) Y->
  s.heap.get? S=some {cls:=.type "list",dict:=none,data:=.seq #[Y,Y] c,slots:=#[]}->
  (∀v h' tk,P (argBest bt (n-1)) v->(∀b o,b∉wr->b≠S->s.heap.get? b=some o->h'.get? b=some o)->R (.ok (.ret v)) {s with heap:=h',toks:=tk})->
  codeAny (model prog w) A (.builtin "max.loop" ⟨[.ref I,.none,.ref S],[("default",d)]⟩) R s:=by
 have hSw:S∉wr:=λh=>hSf (W.sub _ h);have hname:(toString "max" ++ toString ".loop" : String) = "max.loop" :=by decide
 intro k
 induction k with
 |zero=>
  intro j s Y c hk hj hst Z hS hR;have hin:j+1=n:=by lia
  refine Qct Qfp ?_;refine Qaa (Qcl hS U ?_);refine Qaa (Qft (W.done s _ _ (hin ▸ hst) λh' tk G=>?_));have O:=G S _ hSw hS;refine Qaa ?_;refine Qfi O U (Qaa (Qe5 (Qaf ?_)));refine hR Y _ tk (by rw[<-hin];exact Z) λb o z F e=>(Qbx _ _ (Qdx F)).trans (G b o z e)
 |succ k ih=>
  intro j s Y c hk hj hst Z hS hR;have hlt:j+1<n:=by lia
  refine Qct Qfp ?_;refine Qaa (Qcl hS U ?_);refine Qaa (Qft (W.item (j+1) s _ _ hlt hst λv h' tk hP hst' G=>?_));have O:=G S _ hSw hS;show wpAny _ A.in1 (tryCatch (holding [v,v] (richCompare .Gt v Y >>= _)) _ >>= _) _ _ _;refine Qaa (Qft (Qb4 (Qaa (hcmp (j+1) (argBest bt j) v Y _ _ _ hP Z ?_))));refine Qaa (Qb4 (Qdl ?_));refine Qaa (Qe5 (Qaf ?_));cases hb:bt (j+1) (argBest bt j)with
  |true=>
   refine Qaa ?_;refine Qfi O U (Qaa (Qe5 ?_));refine Qaf ⟨Qd2 Qem _,ih (j+1) _ v _ (by lia) hlt (W.frame _ _ _ hst' λb hbf o e=>?_) (by simp only[argBest,hb,if_true];exact hP) (Qbm _ O U)
    λv' h'' J hP' Ua=>?_⟩
   .exact(Qbx _ _ (λh:S=b=>hSf (by rw[h];exact hbf))).trans e
   .exact hR v' h'' J hP' λb o z F e=>Ua b o z F ((Qbx _ _ (Qdx F)).trans (G b o z e))
  |false=>
   refine Qaa (Qe5 ?_);refine Qaf ⟨Qd2 Qem _,ih (j+1) _ Y c (by lia) hlt hst' (by simp only[argBest,hb,Qfh,if_false];exact Z) O λv' h'' J hP' Ua=>?_⟩;exact hR v' h'' J hP' λb o z F e=>Ua b o z F (G b o z e)
def Zhu(W:Walks prog w A.in1 I fp wr n P St)(bt:Nat->Nat->Bool)(O:CmpOf prog w A.in1 .Gt P bt)(S:Aw)(G:S∉fp){c:Nat}(Ua:St 0 s.heap)
  (hS:s.heap.get? S=some {cls:=.type "list",dict:=none,data:=.seq #[] c,slots:=#[]})
  (h0:n=0->∀h' tk,(∀b o,b∉wr->b≠S->s.heap.get? b=some o->h'.get? b=some o)->R (.ok (.ret d)) {s with heap:=h',toks:=tk})
  (hR:0<n->∀v h' tk,P (argBest bt (n-1)) v->(∀b o,b∉wr->b≠S->s.heap.get? b=some o->h'.get? b=some o)->R (.ok (.ret v)) {s with heap:=h',toks:=tk}):
  codeAny (model prog w) A (.builtin "max.loop" ⟨[.ref I,.none,.ref S],[("default",d)]⟩) R s:=by
 have hSw:S∉wr:=λh=>G (W.sub _ h);have hname:(toString "max" ++ toString ".loop" : String) = "max.loop" :=by decide
 refine Qct Qfp ?_;refine Qaa (Qcl hS U ?_)
 by_cases hn:0<n
 .refine Qaa (Qft (W.item 0 s _ _ hn Ua λv h' tk hP J z=>?_));have hS':=z S _ hSw hS;show wpAny _ A.in1 (updateSeq S (λ_=>#[v,v]) >>= _) _ _ _;refine Qaa ?_;refine Qfi hS' U ?_;refine Qaf ⟨Qd2 Qem _,Zmc W bt O S G _ 0 _ v _ U hn (W.frame _ _ _ J λb hbf o e=>?_) hP (Qbm _ hS' U) λv' h'' Y hP' hk''=>?_⟩
  .exact(Qbx _ _ (λh:S=b=>G (by rw[h];exact hbf))).trans e
  .exact hR hn v' h'' Y hP' λb o F hbS e=>hk'' b o F hbS ((Qbx _ _ (Qdx hbS)).trans (z b o F e))
 .have Z:n=0:=by lia
  refine Qaa (Qft (W.done s _ _ (by rw[Z];exact Ua) λh' tk z=>?_));refine Qaa (Qdt (Qaf ?_));exact h0 Z h' tk λb o F _ e=>z b o F e
end
section
variable {prog:Aq}{w:Au}{A:Ar}{E:Ab}{s:As}{l:Aw}{xs:Array (Int×Tok)}{d:Av}
def Zea(hh:A.handled=none)(Y:s.heap.IsList l (intItems xs))(Z:xs.size=0->∀h' tk,(∀b o,s.heap.get? b=some o->h'.get? b=some o)->Q d {s with heap:=h',toks:=tk})
  (h:0<xs.size->∀v h' tk,(intItems xs)[argBest (λi j=>decide (numAt xs i>numAt xs j)) (xs.size-1)]?=some v->(∀b o,s.heap.get? b=some o->h'.get? b=some o)->Q v {s with heap:=h',toks:=tk}):
  A3 prog w A (call (.builtin "max") [.ref l] [(Str.ofString "default",d)]) Q E s:=by
 have I:(toString "max" ++ toString ".loop" : String) = "max.loop" :=by decide
 refine PyProof.Rows.kmk_tree PySem.F.kind_max PySem.F.plain_max PySem.F.entry_max (by kernel_rfl) ?_;refine Qaa (Qco (U) ?_);refine Qaa (Qaf ?_);refine Qaa (iter_intList Y λs₂ e st O G=>?_);subst e;refine Qaa (Qbq ?_);have W:=Walks.list (prog:=prog) (w:=w) (A:=A.in1) hh _ l G (intItems xs);have hsz:(intItems xs).size=xs.size:=by simp[intItems]
 refine Qaf ⟨Qd2 Qem _,Zhu W _ (CmpOf.ints_gt (numAt xs) (λ_ _=>intItems_at)) _ (λhm=>Qcf _ (O _ hm)) (W.frame _ _ _ st λb _ o e=>Qad _ e) (Qak _ U) (λUa h' tk J=>?_) λUa v h' tk hP J=>?_⟩
 .exact Z (by rw[<-hsz];exact Ua) h' tk (old_kept λb o z e=>J b o z (Qa8 (Qao e)) (Qad _ e))
 .exact h (by rw[<-hsz];exact Ua) v h' tk (by simpa[intItems]using hP) (old_kept λb o z e=>J b o z (Qa8 (Qao e)) (Qad _ e))
end
def tMaxD(K:Af)(ta td:TE):TE:=λσ H Q=>ta σ H λx H1=>td σ H1 λy H2=>∃(p:Aw)(ns:Ak),x=.ref p/\SqL K H2 p (ns.map V.int)/\(ns=[]->Q y H2)/\∀m∈ns,(∀n∈ns,n<=m)->Q (.int m) H2
def Zmd {a:Ax}  {pos kp:Pos} (hc:X.calm=true) (hg:Gl X "max") (hm:X.mg "max" = none) (ha:QE X a d) (hd:QE X e Z) (hp:ZY a=true:=by rfl):
  QE X (.Call (.Name "max" p) [a] [⟨some "default",e,kp⟩] pos) (tMaxD X.K d Z):=by
 refine⟨λpins s σ H Q I hw=>?_⟩;refine Qc2 (Gh I hg hm gU ?_ (by decide));have Ua:=Zv (rest:=[]) (env:=X.env) hp;refine callWith_kw ?_ (by rw[Ua];rfl) (by rw[Ua];rfl);rw[Ua];refine Qc3 (thn (ha.out pins s σ H _ I hw) λu s1 ⟨x,H1,I1,r1,q1⟩=>?_);refine Qd8 (kws_cons (thn (hd.out pins s1 σ H1 _ I1 q1) λu2 s2 ⟨y,H2,z,r2,p,ns,ex,hq,hz,q⟩=>kws_nil ?_));subst ex;cases r1;obtain⟨its,r',pl,hz'⟩:=z.list hq;have hi:=intsAre_of r';obtain⟨xs,hx⟩:=hi.allInts.items;have e1:ns=xs.toList.map (·.1):=by
  rw[<-nums_intItems,<-hx];exact(hi.numsOf).symm
 refine Zea (z.ok.hd hc) (hx ▸ pl.isList) (λh0 h' tk G=>⟨y,H2,z.kept G,r2,hz ?_⟩) λhsz v h' tk J G=>?_
 .grind
 have hb:=argBest_gt (numAt xs) (xs.size-1);generalize argBest _ (xs.size-1)=b at J hb;have at_:∀j (F:j<xs.size),numAt xs j=xs[j].1/\(intItems xs)[j]?=some (.int xs[j].1 xs[j].2):=by
  intro j F;exact⟨by simp[numAt,F],by simp[intItems,F]⟩
 obtain⟨n1,n2⟩:=at_ b (by lia);rw[n2]at J;cases J;refine⟨.int xs[b].1,H2,z.kept G,⟨_,U⟩,q _ ?_ λn Y=>?_⟩
 .grind
 .rw[e1]at Y;obtain⟨y,hy,rfl⟩:=Qau.mp Y;obtain⟨j,F⟩:=Qde hy;have O:j<xs.size:=by
   grind
  have:=hb.2 j (by lia);rw[(at_ j O).1,n1]at this;have ej:xs[j]=y:=by
   grind
  rw[ej]at this;exact this
def Zot:V->List V->Hp->VK->Prop:=λx xs H Q=>∃i:Int,x=.int i/\xs=[]/\Q (.int ((Builtin.Int.intBits i:Nat):Int)) H
def Zme:MtR X "int.bit_length" Zot:=by
 intro pins s σ H x xs v z Q I e r h;obtain⟨i,rfl,rfl,q⟩:=h;obtain⟨t,rfl⟩:=e;cases r;exact call_int_bit_length ⟨.int _,H,I.tok _,⟨_,U⟩,q⟩
section
variable {prog:Aq}{w:Au}{A:Ar}{E:Ab}{s:As}
def yA{Q:Ag->Shared->Prop}{r:Aw}{a b c:Int}{t u v:Tok}(hh:A.handled=none)(Ua:IsRange s.heap r a b c t u v)(z:Builtin.Range.small a b c=true)
  (hn:Builtin.Range.rangeSize a b c=n) (J:n<=2^24)
  (hQ:∀h' tk acc,(∀b o',s.heap.get? b=some o'->h'.get? b=some o')->ItemsOf (λi v=>∃t,v=.int (a+i*c) t) acc n->Q acc.toList {s with heap:=h',toks:=tk}):
  A3 prog w A (collect (.ref r)) Q E s:=by
 refine Qaa (wpAny_runValue (Qct F.entry_proto_collect ?_));refine Qaa (Qbq ?_);refine Qaf ⟨Qd2 Qgz _,Qct F.entry_list_iadd ?_⟩;have hS:(s.heap.push {cls:=.type "list",data:=.seq ([]:Ag).toArray}).get? s.heap.objs.size=some {cls:=.type "list",data:=.seq #[] 0}:=Qak _ rfl;have fin:∀(h':Heap)(tk:Nat)(acc:Ah)(G:Nat),(∀b o,s.heap.get? b=some o->h'.get? b=some o)->h'.get? s.heap.objs.size=some {cls:=.type "list",dict:=none,data:=.seq acc G,slots:=#[]}->ItemsOf (λi v=>∃t,v=.int (a+i*c) t) acc n->
   A3 prog w A (match Value.ref s.heap.objs.size with
   |Value.ref a=>do
    match (<-load a).data with
     |Data.seq xs _=>pure xs.toList
     |_=>unsupported "internal:collect"
   |_=>unsupported "internal:collect") Q E {s with heap:=h',toks:=tk}:=by
  intro h' tk acc G O I it;refine Qaa (wpAny_load I ?_);exact Qaf (hQ h' tk acc O it)
 refine Qcq (wpAny_extend_range (A:=A) (R:=λr s'=>r=.ok (.ret (.ref s.heap.objs.size))/\∃h' tk acc G,s'={s with heap:=h',toks:=tk}/\(∀b o,s.heap.get? b=some o->h'.get? b=some o)/\h'.get? s.heap.objs.size=some {cls:=.type "list",dict:=none,data:=.seq acc G,slots:=#[]}/\ItemsOf (λi v=>∃t,v=.int (a+i*c) t) acc n)
  hh (Qad _ Ua) z hn J _ _ 0 hS λh' tk acc G O I it=>⟨U,h',tk,acc,G,U,λb o e=>O b o (Qa8 (Qao e)) (Qad _ e),I,it⟩) (λZ s' h=>?_) (λe s' h=>?_)
 .cases Z with
  |done f=>
   obtain⟨e,h',tk,acc,G,rfl,Y,g2,g3⟩:=h;cases e;exact fin h' tk acc G Y g2 g3
  |again G=>exact⟨h.1,Qeg h.2 λr s'' Ua=>by grind⟩
 .exact absurd h.1 (by simp)
end
open AutoSeq1 (wpAny_loadPart')
def ql(r:Aw)(a b c:Int)(t u v:Tok)(n:Nat)(z:Builtin.Range.small a b c=true)(hn:Builtin.Range.rangeSize a b c=n)(F:n<=2^24):
  Meets (Builtin.«tuple.__new__» ⟨[.type "tuple",.ref r],[]⟩)
   (λA R s=>A.handled=none/\IsRange s.heap r a b c t u v/\∀(h':Heap) tk acc,(∀b o',s.heap.get? b=some o'->h'.get? b=some o')->ItemsOf (λi v=>∃t,v=.int (a+i*c) t) acc n->R (.ok (.ret (.ref h'.objs.size))) {s with heap:=h'.push {cls:=.type "tuple",data:=.seq acc},toks:=tk}):=
 .of_wp λprog w A R s h=>by
  obtain⟨Ua,g,d,tk,os⟩:=s;obtain⟨hh,I,h⟩:=h;have Y:=sub_tuple_self;have G:=init_tuple_lookup;have hmh:=madeHere_tuple;have J:A.in1.handled=none:=hh;have Z:Shared.TypeIs ⟨Ua,g,d,tk,os⟩ (.ref r) "range" :=⟨_,I,U⟩;have O:Ua.get? r=some {cls:=.type "range",data:=.fields #[.int a t,.int b u,.int c v]}:=I
  wp_walk using wpAny_loadPart' O,Qha Z,yA J I z hn F
  intro h' tk acc hk it;show wpAny _ _ (Builtin.Tuple.tupleExact acc.toList.toArray >>= λv=>ret v) _ _ _;unfold Builtin.Tuple.tupleExact;refine Qaa (Qbq ?_ (by show acc.toList.toArray.size<=sizeLine;simp only[Array.toArray_toList];rw[it.1,Qer];lia));refine Qaf ⟨_,U,?_⟩;have e:acc.toList.toArray=acc:=by simp
  rw[e];exact h h' tk acc hk it
section
variable {prog:Aq}{w:Au}{A:Ar}{E:Ab}{s:As}
theorem qY{r:Aw}{a b c:Int}{t u v:Tok}(hh:A.handled=none)(O:IsRange s.heap r a b c t u v)(e:Builtin.Range.small a b c=true)
  (J:Builtin.Range.rangeSize a b c=n) (z:n<=2^24)
  (h:∀(h':Heap) tk acc,(∀b o',s.heap.get? b=some o'->h'.get? b=some o')->ItemsOf (λi v=>∃t,v=.int (a+i*c) t) acc n->Q (.ref h'.objs.size) {s with heap:=h'.push {cls:=.type "tuple",data:=.seq acc},toks:=tk}):
  A3 prog w A (call (.type "tuple") [.ref r]) Q E s:=
 Qhb F.called_tuple (by decide) (F.typeCall_tuple_1 _) (F.newCall_tuple_1 _) (λG=>Qf4 G _) F.entry_tuple_new
  (ql r a b c t u v n e J z) ⟨hh,O,λh' tk acc I it=>⟨⟨_,Qak _ U,U⟩,h h' tk acc I it⟩⟩
end
def gc(e:n<=1000000):Builtin.Range.rangeSize 0 (n:Int) 1=(n:Int)/\Builtin.Range.small 0 (n:Int) 1=true:=by
 have hsz:Builtin.Range.rangeSize 0 n 1=n:=by
  rw[rangeSize_one];split<;>lia
 exact⟨hsz,small_one (by decide) (by decide) (by lia) (by lia)⟩
theorem Zeb:∀(m:Nat)(z:Ag)(k:Nat),z.length=m->(∀j v,z[j]?=some v->∃t,v=Value.int ((k+j:Nat):Int) t)->Vals ((List.range' k m).map λi:Nat=>V.int i) z:=by
 intro m
 induction m with
 |zero=>
  intro z k F _;rw[Qcd F];exact .nil
 |succ m G=>
  intro z k F hh;cases z with
  |nil=>cases F
  |cons u z=>
   refine .cons ?_ (G z _ (by grind) λj v I=>?_)
   .obtain⟨t,e⟩:=hh 0 u rfl;exact⟨t,e⟩
   .obtain⟨t,e⟩:=hh (j+1) v (by grind);exact⟨t,by grind⟩
def bt_any:bootBuiltins "any" = some (.builtin "any"):=by decide +kernel
def rTupRg:A2->Hp->VK->Prop:=λxs H Q=>∃(p:Aw)(n:Nat),xs=[.ref p]/\H p=some (.rng 0 (n:Int))/\n<=1000000/\∀l,H l=none->Q (.ref l) (upd H l (.tup ((List.range n).map λi:Nat=>V.int i)))
def kj (Ua:X.calm=true):YS X (.type "tuple") rTupRg:=by
 intro pins s σ H xs us Q I r h;obtain⟨p,n,rfl,e,Z,q⟩:=h;obtain⟨u,rfl,Y⟩:=vals1 r;cases Y;obtain⟨t,u,v,J⟩:=(I.hok p _ e);obtain⟨hsz,F⟩:=gc Z;refine qY (I.ok.hd Ua) J F hsz (by lia) λh' tk acc O it=>?_;have G:Inv X pins σ H {s with heap:=h',toks:=tk}:=I.kept O;have z:=it.1;refine⟨.ref _,_,G.laid (λb o e=>Qad _ e) (Qaj _) (show YR X.prog X.w _ _ _ (.tup _)from⟨by rw[Qab,Qa3,Qer];lia,_,?_,by simpa using gM.new h' acc⟩),U,q _ (G.hok.fresh (Qaj _))⟩;rw[Qf9];refine Zeb n _ 0 z λj v hj=>?_;obtain⟨t,e⟩:=it.2 j v (by grind);exact⟨t,by grind⟩
def rAnyL(K:Af):A2->Hp->VK->Prop:=λxs H Q=>∃(p:Aw)(bs:Am),xs=[.ref p]/\SqL K H p (bs.map V.bl)/\Q (.bl (bs.any id)) H
def Zec (hc:X.calm=true):YS X (.builtin "any") (rAnyL X.K):=by
 intro pins s σ H xs us Q I r h;obtain⟨p,bs,rfl,hq,q⟩:=h;obtain⟨u,rfl,rx⟩:=vals1 r;cases rx;obtain⟨G,r',pl,hz⟩:=I.list hq;have Y:=pl.isList;have Z:p<s.heap.objs.size:=by obtain⟨_,e,_⟩:=Y;exact Qao e
 have F:=r'.length;rw[Qab]at F;refine call_any_walk (Qey Y ?_);refine⟨s.heap.objs.size,_,_,G.toArray.size,_,_,λi=>(bs[i]?).getD false,U,Walks.list (A:=X.A.in1) (I.ok.hd hc) _ p (Qa8 Z) G.toArray,
  ⟨⟨_,Qak _ U,U,U⟩,Y.push _⟩,λi v s' Q' E' hP hQ=>?_,λh' tk hk=>?_⟩
 .have hi:=by simpa using hP
  have O:i<bs.length:=by grind
  obtain⟨w',e1,e2⟩:=r'.get (by rw[Qag,Qac O];rfl);rw[hi]at e1;cases e1;cases e2;simp only[Qac O]at hQ;exact Qdl hQ
 .have e:((List.range G.toArray.size).any λi=>(bs[i]?).getD false)=bs.any id:=by
   rw[Qcc,<-F,Qeo,Qdi,Qdi];constructor
   .rintro⟨i,hi,z⟩;have J:=Qbw.mp hi;refine⟨_,Qbh J,?_⟩;simpa[Qac J]using z
   .rintro⟨b,O,z⟩;obtain⟨i,hi,rfl⟩:=List.getElem_of_mem O;exact⟨i,Qbw.mpr hi,by grind⟩
  rw[e];refine⟨.bl (bs.any id),H,I.kept (t':=tk) (λb o Ua=>hk b o (λhm=>?_) (Qad _ Ua)),U,q⟩;rw[Qat.mp hm]at Ua;exact absurd (Qao Ua) (Qcf _)
def Itn(n:Nat):It:=⟨λi _=>i<n,λi H v H'=>H'=H/\v=.int ((n:Int)-1-i),λi _=>n<=i⟩
def Zed(it:Aw)(n:Nat):Turn P w K e (Itn n) [it] it (λi h=>IsRangeIter h it ((n:Int)-1+(i:Nat)*(-1)) ((n:Int)-(i:Nat)) (-1))where
 mem:=by simp
 obj:=λi h st b F=>by
  grind
 keep:=λi h h' st k=>k it (by simp) _ st
 item:=by
  intro X hP hw Ua hc i pins s σ H E I J st O;subst hP hw Ua;obtain⟨f0,f1,f2,f3,Z,Y⟩:=J it (by simp);have W:=Walks.range (prog:=X.prog) (w:=X.w) (I.ok.hd hc) it ((n:Int)-1) (-1) n;refine W.item i s _ _ O st λv h' tk hv G kk=>?_;obtain⟨t,rfl⟩:=hv;have I1:Inv X pins σ H {s with heap:=h',toks:=tk}:=I.turned (λb o F z=>kk b o (by simpa using F) z) f0 f1 f3 Z Y;refine⟨_,U,vm (s:={s with heap:=h',toks:=tk}) (n:= "range_iterator") G U U (by decide) ⟨.int ((n:Int)-1-i),H,I1,⟨t,?_⟩,⟨U,U⟩,G,λb F=>(J b F).1⟩⟩;rw[show(n:Int)-1+(i:Int)*(-1)=(n:Int)-1-i by lia]
 done:=by
  intro X hP hw Ua hc i pins s σ H E I J st O;subst hP hw Ua;obtain⟨f0,f1,f2,f3,Z,Y⟩:=J it (by simp);exact wpAny_pyNext_range_end (I.ok.hd hc) st (by have:n<=i:=O;lia) λh' eb=>⟨U,I.turned (t':=s.toks) (λb o F z=>eb b o F z) f0 f1 f3 Z Y⟩
 self:=λ_ _ _ _ _ st h=>wpAny_pyIter_rangeiter st h
def km(n:Nat):Builtin.Range.rangeSize ((n:Int)-1) (-1) (-1)=(n:Int):=by
 unfold Builtin.Range.rangeSize;split
 .grind
 .lia
def iDown(ta:TA):TI:=λσ H R=>ta σ H λvs H1=>∃n:Nat,vs=[.int ((n:Int)-1),.int (-1),.int (-1)]/\n<=1000000/\R (Itn n) H1
def Zmf {pos:Pos} {t:TA} {a b c:Ax} (hg:Gl X "range") (hm:X.mg "range" = none) (ha:QA X [a,b,c] t) (hp:ZY a=true:=by rfl) (hp2:ZY b=true:=by rfl) (Y:ZY c=true:=by rfl):QI X e (.Call (.Name "range" p) [a,b,c] [] pos) (iDown t):=by
 refine⟨λpins s σ H R I h=>?_⟩;refine Call_ (Gh I hg hm boot_range (Qcr (thn (ha.out pos pins s σ H _ I h) λus O ⟨vs,H1,I1,r1,q1⟩=>?_) (Zv hp) (by rw[Zv hp2,Zv Y];rfl)));obtain⟨n,F,hn,q⟩:=q1;subst F;cases r1 with
 |cons r J=>
 cases J with
 |cons r' J=>
 cases J with
 |cons r'' J=>
 cases J;obtain⟨t,rfl⟩:=r;obtain⟨t',rfl⟩:=r';obtain⟨t'',rfl⟩:=r'';refine call_range_3 (by decide) ?_ (Or.inl (PyProof.noPylong_small (by decide)));refine wpAny_pyIter_range (IsRange.new ..) (by
    have G:∀z,-10<=z->z<=1000010->Builtin.Range.rangeFitsLong z=true:=λz h1 h2=>by
     unfold Builtin.Range.rangeFitsLong;simp;lia
    unfold Builtin.Range.small;rw[km];simp[G (n-1) (by lia) (by lia),G n _ (by lia),G (-1) _ _]) ?_
 have Ua:Inv X pins σ H1 {O with heap:=O.heap.push {cls:=.type "range",data:=.fields #[.int ((n:Int)-1) t,.int (-1) t',.int (-1) t'']},toks:=O.toks}:=I1.kept λb o F=>Qad _ F;generalize O.heap.push _=Z at Ua ⊢;refine⟨Z.objs.size,[Z.objs.size],_,_,H1,U,Ua.kept (t':=O.toks) λb o F=>Qad _ F,Zed _ n,?_,λb hb=>?_,q⟩
 .rw[km,show(n:Int)-1+((0:Nat):Int)*(-1)=(n:Int)-1 by lia];exact Qak _ U
 .have F:b=Z.objs.size:=by simpa using hb
  subst F;exact Ua.fpOk (Qaj _) (Ua.hok.fresh (Qaj _))
theorem Zhv{g:TG}{D:Ends}(z:Nat->St->Hp->Prop)(I:z 0 c H)
  (J:∀i c H,i<n->z i c H->g (.int ((n:Int)-1-i)) c H λF H2=>A {D with nx:=z (i+1),ct:=z (i+1),bk:=D.nx} F H2) (G:∀c H,z n c H->D.nx c H):
  Zgv (Itn n) g A D c H:=
 x8 n z I (λi c H hi p=>⟨hi,λx H' ⟨e,y⟩=>by grind⟩) λc H p=>⟨Qaj _,G c H p⟩
def iDictF(te:TE):TI:=λσ H R=>te σ H λx H1=>∃a kvs,x=.ref a/\Rd H1 a (.dK kvs)/\∀o,(∀u,H1 a=some (.frz u (.dK kvs))->u=o)->R (Itd a o kvs) (upd H1 a (.frz o (.dK kvs)))
def ur{X:Cx}{tg:Ax}(he:QE X e d):QI X tg e (iDictF d):=by
 refine⟨λpins s σ H R I h=>?_⟩;refine thn (he.out pins s σ H _ I h) λv s1 ⟨y,H1,O,r1,q1⟩=>?_;obtain⟨a,kvs,rfl,e,q⟩:=q1;cases r1;obtain⟨z,nm,vs,Y,dd⟩:=xN O.hok e;obtain⟨o,es,ep,G,J,F,hk,hp,hn⟩:=id dd;have Ua:=O.freeze e G;have Z:=Qao G;have dat:s1.heap.DictAt _ a vs ep:=⟨o,es,G,J,F,hk,hp,hn⟩;refine wpAny_pyIter_dict nm dat ?_;have st:(s1.heap.push {cls:=.type "dict_keyiterator",data:=.fields #[.ref a,.int 0 0,.int vs.length 0,.int ep 0]}).IsKeyIter s1.heap.objs.size a 0 kvs.length ep:=by
  rw[Y.length];exact⟨_,Qak _ U,U,U⟩
 refine⟨_,_,_,_,_,U,Ua.kept λb o e=>Qad _ e,Zdd a _ o kvs ep ⟨es,F⟩ (Qa8 Z),st,λb hb=>?_,q o λu hu=>?_⟩
 .have e:=by simpa using hb
  subst e;exact Ua.fpOk (Qaj _) (Ua.hok.fresh (Qaj _))
 .have z:=O.hok a _ hu;obtain⟨z1,_⟩:=z;exact Option.some.inj (z1.symm.trans G)
end L2
namespace L2
open PySem.Calls
open AutoSeq1 (wpAny_loadPart')
section
variable {X:Cx}{o e:Ax}{es:An}{to:TE}{t:TA}{name:Str}{apos cpos:Pos}{id:String}{r:V->List V->Hp->VK->Prop}
def tTM(r:V->List V->Hp->VK->Prop)(to:TE)(t:TA):TE:=λσ H Q=>to σ H λx H1=>∃a xs,x=.ref a/\H1 a=some (.tup xs)/\t σ H1 λys H2=>r x ys H2 Q
def qe_tm (O:Slot "tuple" name id) (Ua:typeOf (.builtin id)=pure (.type "method_descriptor")) (hm:MtR X id r) (ho:QE X o to) (ha:QA X (e::es) t)
  (J:attributeBase o name X.env (eval o X.env)=eval o X.env:=by rfl) (z:(apos.endLine == cpos.line)=true:=by rfl) (Z:(e::es).all ZY=true:=by rfl) (hl:(e::es).length<30:=by decide):
  QE X (.Call (.Attribute o name apos) (e::es) [] cpos) (tTM r to t):=by
 have G:=Z;rw[Qc4,Qa4]at G;refine⟨λpins s σ H Q I h=>(Qfo J (by rw[all_plain Z];exact Qan (hl)) z U (thn (ho.out pins s σ H _ I h) λv s1 ⟨x,H1,Y,r1,a,xs,ex,hx,q1⟩=>?_))⟩;subst ex;cases r1;obtain⟨_,its,_,ob,g1,g2,g3,g4⟩:=Y.hok a _ hx;refine⟨"tuple",id,PySem.F.plainAttrs_tuple,O,Ua,⟨ob,g1,g2⟩,λa' e'=>by grind,?_⟩;have hA:=ha.out cpos pins s1 σ H1 _ Y q1;rw[Zv G.1]at hA ⊢;refine Qdw (by show(false||(backTo cpos _).any _)=false;rw[Xg G.2]<;>rfl) (Qd4 (thn hA λus s2 ⟨vs,H2,I2,r2,q2⟩=>hm pins s2 σ H2 (.ref a) vs _ us Q I2 U r2 q2))
def xZ{M:Model}{A:Ar}{E:Ab}(f:Nat->m->Sem (ForInStep m))(I:Aj->m->Shared->Prop)(Q:m->Shared->Prop)
  (e:∀x rest b s,I (x::rest) b s->wpAny M A (f x b) (λr s'=>match r with|.yield b'=>I rest b' s'|.done b'=>Q b' s') E s)
  (fin:∀b s,I [] b s->Q b s) (b:m) (h:I (List.range n) b s):wpAny M A (forIn [:n] b f) Q E s:=by
 rw[Std.Legacy.Range.forIn_eq_forIn_range'];refine wpAny_forIn_list f I Q e fin _ b ?_;rw[show(List.range' _ _ _)=List.range n by simp[Qf9]];exact h
def yB(l:Aw)(items:Ah)(n:Nat)(dd:Option Aw)(sl:Array (Option Av))(x:Av)(e:Av->Bool)(j:Nat)(hj:j<items.size)
  (Y:e items[j]=true) (O:∀m (hm:m<items.size),m<j->e items[m]=false):
  Meets (Builtin.«tuple.index» ⟨[.ref l,x],[]⟩)
   (λA R s=>s.heap.get? l=some {cls:=.type "tuple",dict:=dd,data:=.seq items n,slots:=sl}/\(∀y,y∈items->SeqAt.EqAt A.in1 s y x (e y))/\R (.ok (.ret (.int j s.toks))) {s with toks:=s.toks+1}):=
 .of_wp λprog w A R s h=>by
  obtain⟨hp,g,d,tk,os⟩:=s;obtain⟨hl,Z,h⟩:=h;have ms:∀(i:Nat) y,items[i]?=some y->∃h:i<items.size,y=items[i]:=λi y I=>by
   obtain⟨h1,h2⟩:=Array.getElem?_eq_some_iff.mp I;exact⟨h1,h2.symm⟩
  wp_walk using wpAny_loadPart' hl,xZ _ (λrest b s'=>b.1=none/\s'=⟨hp,g,d,tk,os⟩/\∃i,i<=j/\rest=(List.range (min items.size items.size)).drop i) _
  .rintro y rest b s' ⟨Ua,rfl,i,hi,G⟩;have z:i<items.size:=by lia
   rw[Qb5 (by rw[Qa3,Qfv];exact z)]at G;injection G with J F;have I:y=i:=by simpa using J
   subst I;rw[Qdm z];refine Qaa (Z _ (Array.getElem_mem z) prog w _ _ ?_);rcases Qgp y j with q|q
   .rw[O y z q]
    wp_walk
    exact⟨U,U,y+1,by lia,F⟩
   .have e1:y=j:=by lia
    subst e1;rw[Y]
    wp_walk
    exact⟨_,U,h⟩
  .rintro⟨b1,b2⟩ s' ⟨Ua,rfl,i,hi,G⟩;have:=congrArg List.length G;rw[Qdr,Qa3,Qfv]at this;simp only[Qeu]at this;lia
  .exact⟨U,U,0,Qbl _,U⟩
def Zee:V->List V->Hp->VK->Prop:=λx vs H Q=>∃(l:Aw)(xs:A2)(y z:V)(j:Nat),x=.ref l/\vs=[y]/\H l=some (.tup xs)/\X8 y=true/\xs.all X8=true/\xs[j]?=some z/\eqV z y=true/\(∀i e,i<j->xs[i]?=some e->eqV e y=false)/\Q (.int j) H
def Zef:MtM X "tuple.index" Zee:=by
 intro pins s σ H x vs v us Q I rx rv h;obtain⟨l,xs,y,z,j,rfl,rfl,hH,fy,fx,hj,hit,hno,q⟩:=h;cases rx;obtain⟨u,rfl,ru⟩:=rv.one;obtain⟨_,G,r,⟨oc,od,oda,Ua⟩,e,hc,⟨n,hd⟩,hn⟩:=I.hok l _ hH;subst hc hd hn;have hl:=r.length;have at_:∀(i:Nat)(hi:i<G.toArray.size),∃Y,xs[i]?=some Y/\eqU y G.toArray[i]=eqV Y y:=λi hi=>by
  have J:i<xs.length:=by grind
  obtain⟨w',Z,O⟩:=r.get (Qac J);have e2:G.toArray[i]=w':=by
   grind
  refine⟨xs[i],Qac J,?_⟩;rw[e2];exact Zck O (Qcp.mp fx _ (Qbh J))
 refine Qhk PySem.F.slot_tuple_index ⟨_,e,U⟩ PySem.F.entry_tuple_index (PySem.F.args_tuple_index_2 _ _) (yB l _ n none Ua u _ j (by grind) ?_ (λm hm hlt=>?_)) ⟨e,λw hw=>Ju ru fy r fx w (by grind),⟨.int j,H,I.tok _,⟨_,U⟩,q⟩⟩
 .grind
 .grind
end
end L2
namespace L2
theorem Zeg:∀{vs:Ag} {e:Ai},vs.length=e.length->(∀(j:Nat)(v:Av),vs[j]?=some v->∃y t,e[j]?=some y/\v=.str y t)->StrsAre vs e
 |[],[],_,_=>.nil
 |v::vs,y::e,h,k=>by
  obtain⟨F,t,e1,e2⟩:=k 0 v rfl;have e1:=Option.some.inj e1;subst e1 e2;exact .cons _ t (Zeg (Nat.succ.inj h) λj v z=>k (j+1) v z)
def ko {X:Cx} (hc:X.calm=true):YS X (.builtin "sorted") (λxs H Q=>∃(a:Aw)(kvs:A0)(S:Ai),xs=[.ref a]/\Rd H a (.dK kvs)/\kvs.map (·.1)=S.map Sum.inr/\S.length<64 /\
  ∀(l:Aw)(ms:Ai),H l=none->ms.Perm S->sortedS ms=true->Q (.ref l) (upd H l (.lst (ms.map V.str)))):=by
 intro pins s σ H xs us Q I r h;obtain⟨a,kvs,S,rfl,hq,hS,hn,q⟩:=h;obtain⟨u,rfl,rx⟩:=vals1 r;cases rx;obtain⟨z,nm,vs,rel,dd⟩:=xN I.hok hq;obtain⟨o,es,ep,ho,hex,hda,hk,hp,hnd⟩:=id dd;have F:vs.map (·.1)=S.map Sum.inr:=by rw[<-rel.keys];exact hS
 have O:vs.length=S.length:=by have:=congrArg List.length F;rwa [Qab,Qab]at this
 refine Calls.call_function_entry kind_sorted plain_sorted entry_sorted (args_sorted1 _) ?_;refine Qaa (Qaf ?_);refine Qaa (PySem.W.kdu_collect (A:=X.A.in1) (PySem.W.kdl_dict (kvs:=vs) (ep:=ep) nm) (I.ok.hd hc) ⟨o,es,ho,hex,hda,hk,hp,hnd⟩ (by rw[O];exact Qaw (Z2 (by lia))) λh1 tk acc Z J=>?_);have hal:acc.toList.length=S.length:=by rw[Qb1,J.1,O]
 have G:StrsAre acc.toList S:=Zeg hal λj v hv=>by
  obtain⟨k,x,e1,e2⟩:=J.2 j v (by grind);have e3:(vs.map (·.1))[j]?=some k:=by grind
  rw[F,Qag]at e3;obtain⟨y,hy,rfl⟩:=Qa5.mp e3;obtain⟨t,e4⟩:=gY e2;exact⟨y,t,hy,e4⟩
 have Y:acc.toList.length<64:=by lia
 generalize hV:acc.toList=ws at Y G ⊢;refine Qaa (wpAny_newList ?_ (by have:=Qer;lia));have I1:Inv X pins σ H {s with heap:=h1,toks:=tk}:=I.kept Z;have Ua:(h1.push _).get? h1.objs.size=some (seqObj "list" ws.toArray 0):=Qak _ rfl;refine Qaa (Qb4 (Qbn slot_list_sort ⟨_,Ua,U⟩ entry_list_sort (list_sort_treeK strKind_oneLt Ua G.keysOf (λv₁ v₂ rest e=>keyKind_strs (by rw[<-e];exact G)) Y λst' a1 a2=>⟨_,U,?_⟩) (args_list_sort _)));obtain⟨ss,b1,b2,b3⟩:=sorted_out_str G a1 a2;obtain⟨e,he⟩:=sortedHeap_at (vs:=ws) (n:=0) Ua;refine Qaf ⟨_,U,⟨.ref h1.objs.size,_,I1.laid (t':=tk) (λb ob hb=>?_) (Qaj _) ?_,U,q _ ss (I1.hok.fresh (Qaj _)) b2 b3⟩⟩
 .have hlt:=Qao hb;rw[sortedHeap_old (Qa8 hlt) (by rw[size_push'];exact Qd9 hlt)];exact Qad _ hb
 .have hm:ss.length=S.length:=b2.length_eq;exact⟨by rw[Qab];exact Qaw (Z2 (by lia)),_,e,WW b1,by exact he⟩
theorem len7{P:List m->Prop}(h:∀a b c d e f g,P [a,b,c,d,e,f,g]):∀z:List m,z.length=7->P z
 |[_,_,_,_,_,_,_],_=>h _ _ _ _ _ _ _
end L2
namespace Lw
open PySem L2
def top(i:Nat):Ay:=PySem.Challenge.pw_everywidth_k28_first_words_looked_throug.main.body.getD i (.Pass ⟨0,0,0,0⟩)
abbrev jI:Ay:=top 1
abbrev zc:Ay:=top 2
abbrev Zou:Ay:=top 13
abbrev Jd:Ay:=top 18
abbrev YL:Ay:=top 19
abbrev zd:Ay:=top 21
abbrev J7:Ay:=top 24
abbrev qm:Ay:=top 28
abbrev Je:Ay:=top 29
abbrev ze:Ay:=top 30
abbrev G2:Ay:=top 37
abbrev Jf:Ay:=top 38
abbrev G3:Ay:=top 39
abbrev Jg:Ay:=top 40
abbrev Jh:Ay:=top 42
abbrev zf:Ay:=top 48
abbrev jJ:Ay:=top 52
abbrev G4:Ay:=top 54
abbrev Xn:Ay:=top 58
abbrev zg:Ay:=top 59
abbrev qI:Ay:=top 67
abbrev jK:Ay:=top 68
abbrev zh:Ay:=top 70
abbrev JV:Ay:=top 74
abbrev qJ:Ay:=top 75
abbrev qK:Ay:=top 76
abbrev G5:Ay:=top 78
abbrev J8:Ay:=top 80
abbrev JA:Ay:=top 81
abbrev qo:Ay:=top 14
abbrev YA:Ay:=top 20
abbrev X2:Ay:=top 27
abbrev jL:Ay:=top 41
abbrev kq:Ay:=top 43
abbrev XX:Ay:=top 49
abbrev zi:Ay:=top 51
abbrev G6:Ay:=top 53
abbrev zj:Ay:=top 69
abbrev WD:Ay:=top 71
abbrev JB:Ay:=top 72
abbrev jM:Ay:=top 77
abbrev We:Ay:=top 17
abbrev Wy:Ay:=top 45
abbrev qp:Ay:=top 61
abbrev zk:Ay:=top 73
abbrev zm:Ay:=top 82
abbrev Xv:Ay:=top 16
abbrev kr:Ay:=top 50
abbrev X3:Ay:=top 23
abbrev zo:Ay:=top 26
abbrev ZW:Ay:=top 57
abbrev Ji:Ay:=top 56
abbrev WE:Ay:=top 65
abbrev ku:Ay:=top 63
abbrev kx:Ay:=top 64
abbrev zp:Ay:=top 79
abbrev Zmg:Ay:=top 83
def ZK:Pos:=⟨111,50,111,102⟩
def ZL:Str:=(("least" : Str) ++ ".<locals>.") ++ "<lambda>"
def Zp:Pos:=⟨238,4,242,77⟩
def Zl:Str:=(("machine_telling" : Str) ++ ".<locals>.") ++ "step_of"
abbrev YM:Ay:=(YW ZW).getD 3 (.Pass ⟨0,0,0,0⟩)
def Zc{p:Aw}{o:HO}(h:H p=none):ZG H (upd H p o):=λb u e=>by rw[Zj (Zm e h)];exact e
def J2(w:Nat):(0:Int)<2^w:=by
 have h2:(2^w)=((2^w):Int):=by rfl
 have:=Qhf w;rw[h2];lia
def pow_succ'(w:Nat):(2:Int)^(w+1)=2^w*2:=Qev 2 w
def jk(w:Nat)(r:Int):Ak:=(List.range w).map λi=>r/2^i%2
def yC{u:TS}{D:Ends}{r:VK}{b c:A1}{σ:L2.St}(J:A1)(h1:∀N:A1,(∀σ H,J σ H->N σ H)->A {D with nx:=N} σ H)(h2:∀σ H,J σ H->u D σ H):({nx:=ZX A u D,rt:=r,bk:=b,ct:=c}:Ends).nx σ H:=h1 _ h2
def Zg{v:V}{Q:A1}(h:Q (c.set i (some v)) H):WQ i v c H Q:=h
theorem Yj{p:Aw}{o:HO}(s:ZG H g)(z:H p=none):ZG H (upd g p o):=λb u e=>by
 rw[Zj (Zm e z)];exact s b u e
def ZC{ns:Ak}(j:Nat)(e:z=(j:Int))(F:j<ns.length):atI (ns.map V.int) z=some (.int (ns.getD j 0)):=by
 subst e;refine Yn ?_;rw[Qag,Qal,Qac F];rfl
def Zmh{i:Int}(n:Nat)(z:x.cps.toList.length=n)(F:0<=i)(h1:i<(n:Int)):∃c,c∈x.cps.toList/\atI x.cps.toList i=some c:=by
 obtain⟨j,rfl⟩:∃j:Nat,i=j:=⟨i.toNat,by lia⟩;have e:j<x.cps.toList.length:=by lia
 exact⟨_,Qbh e,Yn (Qac e)⟩
def fI(g:Int->V):V->V
 |.int x=>g x
 |v=>v
def map_fI(g:Int->V)(ns:Ak):(ns.map V.int).map (fI g)=ns.map g:=by
 rw[Qay];rfl
def len_signs(a:Str):a.length=a.cps.toList.length:=by
 unfold Str.length;rw[Qb1]
def Zeh:Str:= "abcdefghijklmnopqrstuvwxyz"
def Low(c:Nat):Prop:=c∈Zeh.cps.toList
instance (c:Nat):Decidable (Low c):=inferInstanceAs (Decidable (c∈_))
def ZN:Ai:=["not","neg","twice","low","and","or","odd","add","sub","pick","same","under","beneath","sign","nought","both","either","so","never","yes"]
def NmL(y:Str):Prop:=(1<=y.length/\y.length<=8)/\∀c∈y.cps.toList,Low c
instance (y:Str):Decidable (NmL y):=inferInstanceAs (Decidable (_/\_))
structure NmS(y:Str):Prop where
 l:NmL y
 k:y∉ZN
def Zmi:Zeh.cps.toList.length=26:=by decide +kernel
def Zhw:Zeh.length<=sizeLine:=by decide +kernel
def Zhx:∀y∈ZN,(1<=y.length/\y.length<=7)/\∀c∈y.cps.toList,Low c:=by decide +kernel
def low_at{i:Int}(F:0<=i)(h1:i<26):∃c,Low c/\atI Zeh.cps.toList i=some c:=by
 obtain⟨c,z,e⟩:=Zmh 26 Zmi F h1;exact⟨c,z,e⟩
def Zei(c:Nat):(⟨#[c]⟩:Str).length=1:=rfl
theorem ZD(y:Str):∀ys:Ai,inV (.str y) (ys.map V.str)=decide (y∈ys)
 |[]=>rfl
 |z::r=>by
  have e:inV (.str y) ((z::r).map V.str)=((z == y)||inV _ _):=rfl;rw[e,ZD y r]
  by_cases h:z=y
  .grind
  .grind
def Zej(ys:Ai):(ys.map V.str).all X8=true:=by
 rw[List.all_map];exact Qcp.mpr λ_ _=>U
def gf{c:TT}{D:Ends}{σ:L2.St}(z:A1)(μ:L2.St->Hp->Nat)(G:z σ H)
  (I:∀σ H,z σ H->c σ H λb H1=>if b=true then∃N:A1,(∀e H',N e H'->∃F,F<μ σ H/\F=μ e H'/\z e H')/\A {D with nx:=N,ct:=N,bk:=D.nx} σ H1 else D.nx σ H1):Zjb c A D σ H:=by
 refine⟨λm σ H=>m=μ σ H/\z σ H,⟨_,U,G⟩,?_⟩;rintro m σ H ⟨rfl,p⟩;exact I σ H p
def sumT:List (Str×Nat):=[("not",1),("neg",1),("twice",1),("low",1),("and",2),("or",2),("odd",2),("add",2),("sub",2),("pick",3)]
def G7:Ai:=sumT.map (·.1)
def Y8(y:Str):Nat:=((sumT.find? λp=>decide (p.1=y)).map (·.2)).getD 0
def xx:∀y∈G7,y∈ZN:=by decide +kernel
def T1:List (Str×Int):=[("not",1),("neg",1),("twice",1),("low",1),("and",2),("or",2),("odd",2),("add",2),("sub",2),("pick",3)]
def T2:List (Str×Int):=[("same",2),("under",2),("beneath",2),("sign",1),("nought",1)]
def T3:List (Str×Int):=[("both",2),("either",2),("so",2),("never",1),("yes",0)]
def Z6:Ai:=["same","under","beneath","sign","nought","both","either","so","never","yes"]
theorem Zj7(l:List (Str×Int))(y:Str):(Ym (kvsOf l) (.inr y)).isSome=decide (y∈l.map (·.1)):=by
 induction l with
 |nil=>rfl
 |cons p r F=>
  by_cases h:p.1=y
  .have e:Ym (kvsOf (p::r)) _=some _:=Yg (p:=((Sum.inr p.1),V.int p.2)) (by rw[h]);rw[e,Qan (by grind)];rfl
  .have e:Ym (kvsOf (p::r)) _=Ym (kvsOf r) _:=Ya (λz=>h (Sum.inr.inj z))
   by_cases m:y∈r.map (·.1)
   .grind
   .grind
def JW:List (Str×Int)->Key->Int
 |[],_=>0
 |p::r,k=>if(Sum.inr p.1:Key)=k then p.2 else JW r k
theorem kget(l:List (Str×Int))(k:Key):(Ym (kvsOf l) k).getD (.int 0)=.int (JW l k):=by
 induction l with
 |nil=>rfl
 |cons p r z=>
  unfold JW
  by_cases h:(Sum.inr p.1)=k
  .have e:Ym (kvsOf (p::r)) k=some _:=Yg h;rw[e,Qa2 h];rfl
  .have e:Ym (kvsOf (p::r)) k=Ym (kvsOf r) k:=Ya h;rw[e,z,Qax h]
theorem zq{l:List (Str×Int)}{y:Str}(h:y∉l.map (·.1)):JW l (.inr y)=0:=by
 induction l with
 |nil=>rfl
 |cons p r e=>
  unfold JW;rw[Qax (λz=>h (by grind)),e (λz=>h (Qai _ z))]
def XE(k:Key):Int:=JW T1 k+JW T2 k+JW T3 k
def tw1:T1.map (·.1)=G7:=by decide +kernel
def gh:∀y,y∈ZN↔y∈G7\/y∈Z6:=by
 intro y;have e:ZN=G7++Z6:=by decide +kernel
 rw[e,Qb2]
def yD:(∀y∈T1.map (·.1),y∈ZN)/\(∀y∈T2.map (·.1),y∈ZN)/\∀y∈T3.map (·.1),y∈ZN:=by decide +kernel
def keyOf:V->Key
 |.int i=>.inl i
 |.str y=>.inr y
 |_=>.inl 0
def Zmj(x:Str)(c:Nat):(!(Builtin.Str.occurrences x ⟨#[c]⟩ 0 x.length 1).isEmpty)=decide (c∈x.cps.toList):=by
 have h:=PyProof.Rows.in_closes (x:=x) (c:=c) U rfl;rw[Qd0]at h;rw[h]
 by_cases m:c∈x.cps.toList
 .rw[Qan m,Qan ((PyProof.Rows.countIn_signs c _).mpr m)]
 .rw[Qaq m,Qaq (λz=>m ((PyProof.Rows.countIn_signs c _).mp z))]
def jN(y e:Str):Prop:=y.cps.toList≠[]/\∀c∈y.cps.toList,c∈e.cps.toList
instance (y sg:Str):Decidable (jN y sg):=inferInstanceAs (Decidable (_/\_))
def all_bs(l:Aj)(p:Nat->Bool):(l.map p).all id=decide (∀c∈l,p c=true):=by
 rw[Qeo,Qcp,Qdp];constructor
 .exact λh c e=>h _ (Qb9 e)
 .grind
def zr {y:Str}:y.cps.toList=[]↔y=("" : Str):=by
 constructor
 .intro h;obtain⟨a⟩:=y;have:a=#[]:=by
   grind
  subst this;decide +kernel
 .rintro rfl;decide +kernel
def nmB:V->Bool
 |.str y=>decide (y∉ZN/\NmL y)
 |_=>false
def Zgk:V->Str
 |.str y=>y
 |_=> ""
def jO(w:V):Prop:=(∃y,w=.str y/\y.length<=1000)\/∃z,w=.int z
theorem ky(ys:Ai):(Ww ys).length<=ys.length:=by
 have h:∀(ys S:Ai),(ys.foldl ins S).length<=S.length+ys.length:=by
  intro ys
  induction ys with
  |nil=>intro S;exact Qaj _
  |cons y r e=>
   intro S;have h1:=e (ins S y);have h2:(ins S y).length<=S.length+1:=by
    unfold ins;split
    .lia
    .grind
   rw[Qec,Qbj];lia
 have:=h ys [];rw[Qeu,Qgo]at this;exact this
def Zmk(e:A2):((e.filter nmB).map Zgk).map V.str=e.filter nmB:=by
 rw[Qay];refine(Qbo λw hw=>?_).trans (List.map_id _);cases w with
 |str y=>rfl
 |_=>cases(Qdc.mp hw).2
def YZ:∀y∈Z6,y∈ZN:=by decide +kernel
def qr(w:V):Nat:=(JW T1 (keyOf w)+JW T2 (keyOf w)).toNat
def wC(w:V):Nat:=(JW T3 (keyOf w)).toNat
def nextK(w:V):Am:=List.replicate (qr w) false++List.replicate (wC w) true
theorem gj{l:List (Str×Int)}(h:∀p∈l,0<=p.2/\p.2<=3)(k:Key):0<=JW l k/\JW l k<=3:=by
 induction l with
 |nil=>exact⟨Int.le_refl _,(by decide:(0:Int)<=3)⟩
 |cons p r e=>
  unfold JW;split
  .exact h p Qah
  .grind
def Zow(k:Key):0<=JW T1 k/\JW T1 k<=3:=gj (by decide +kernel) k
def Zox(k:Key):0<=JW T2 k/\JW T2 k<=3:=gj (by decide +kernel) k
def Zoy(k:Key):0<=JW T3 k/\JW T3 k<=3:=gj (by decide +kernel) k
def npw(w:V):Nat:=(XE (keyOf w)).toNat
def zt(k:Key):0<=XE k/\XE k<=9:=by
 have h1:=Zow k;have h2:=Zox k;have e:=Zoy k;unfold XE;lia
def Zhy(w:V):(nextK w).length=npw w:=by
 have h1:=Zow (keyOf w);have h2:=Zox (keyOf w);have e:=Zoy (keyOf w);unfold nextK npw qr wC XE;rw[Qar,Qav,Qav];lia
def Zmm(h:i<u.length):(u.drop i).reverse=(u.drop (i+1)).reverse++[u[i]]:=by simp
def Xh(l:A2)(y:V):(l++[y])[(l++[y]).length-1]?=some y:=by grind
def Zj8{x:V}(h:u.reverse[i]?=some x):i<u.length/\u[u.length-1-i]?=some x:=by grind
def iV:V->Int
 |.int a=>a
 |_=>0
def bV:V->Bool
 |.bl b=>b
 |_=>false
def Znw (y:Str) (a:Int):Int:=if y = "not" then Builtin.bitNot a else if y = "neg" then -a else if y = "twice" then a+a else Builtin.bitAnd a (-a)
def Zoz (y:Str) (a b:Int):Int:=if y = "and" then Builtin.bitAnd a b else if y = "or" then Builtin.bitOr a b else if y = "odd" then Builtin.bitXor a b else if y = "add" then a+b else a-b
def wwv(ρ:Str->Int):V->List Int->Int
 |.int z,_=>z
 |.str y,[]=>ρ y
 |.str y,[a]=>Znw y a
 |.str y,[a,b]=>Zoz y a b
 |.str _,a::b::c::_=>Builtin.bitOr (Builtin.bitAnd a b) (Builtin.bitAnd (Builtin.bitNot a) c)
 |_,_=>0
def sgn(m a:Int):Int:=if a*2>=m then a-m else a
def jl(m:Int)(y:Str)(xs:Ak):Bool:=
 if y = "nought" then decide (xs.getD 0 0=0)else if y = "sign" then decide (sgn m (xs.getD 0 0)<0)else if y = "same" then decide (xs.getD 0 0=xs.getD 1 0)
 else if y = "under" then decide (xs.getD 0 0<xs.getD 1 0)else decide (sgn m (xs.getD 0 0)<sgn m (xs.getD 1 0))
def Zpi(y:Str)(bs:Am):Bool:=
 if y = "yes" then true else if y = "never" then !(bs.getD 0 false)else if y = "both" then bs.getD 0 false&&bs.getD 1 false else if y = "either" then bs.getD 0 false||bs.getD 1 false else bs.getD 1 false || !(bs.getD 0 false)
def cvV(m:Int)(ρ:Str->Int)(w:V)(xs:A2):V:=
 match w with
 |.str y=>if y∈Z6 then(if 0<qr w then .bl (jl m y (xs.map iV))else .bl (Zpi y (xs.map bV)))else .int (wwv ρ w (xs.map iV)%m)
 |_=>.int (wwv ρ w (xs.map iV)%m)
def Gg(m:Int)(ρ:Str->Int)(z:A2)(e:A2):A2:=z.foldr (λw s=>cvV m ρ w (s.take (npw w))::s.drop (npw w)) e
def Xi(m:Int)(ρ:Str->Int)(w:V)(r e:A2):Gg m ρ (w::r) e=cvV m ρ w ((Gg m ρ r e).take (npw w))::(Gg m ρ r e).drop (npw w):=rfl
def clK:Key->Bool
 |.inr y=>decide (y∈Z6)
 |.inl _=>false
def Zhz{C:Aw}:PySem.W.kitOne K (.ref C) (.ref C)=some true:=by
 unfold PySem.W.kitOne;rw[Qa2 (Qcw _)]
def Zo0(m n:Nat):(m &&& n)/2=m/2 &&& n/2/\(m &&& n)%2=m%2*(n%2):=by
 refine⟨Nat.and_div_two_pow (n:=1),?_⟩;rw[Nat.and_mod_two_pow (n:=1)];rcases Qcz m with e|e<;>rcases Qcz n with f|f<;>rw[e,f]<;>rfl
def n_or(m n:Nat):(m ||| n)/2=m/2 ||| n/2/\(m ||| n)%2=m%2+n%2-m%2*(n%2):=by
 refine⟨Nat.or_div_two_pow (n:=1),?_⟩;rw[Nat.or_mod_two_pow (n:=1)];rcases Qcz m with e|e<;>rcases Qcz n with f|f<;>rw[e,f]<;>rfl
def bA_pp(m n:Nat):Builtin.bitAnd m n=((m &&& n:Nat):Int):=by
 rfl
def uv(n:Nat):¬(0:Int)<=-(n:Int)-1:=by lia
def uw(n:Nat):(Builtin.bitNot (-(n:Int)-1)).toNat=n:=by
 unfold Builtin.bitNot;lia
def Zo1(m n:Nat):Builtin.bitAnd m (-(n:Int)-1)=(m:Int)-((m &&& n:Nat):Int):=by
 unfold Builtin.bitAnd;rw[Qaq (uv n)];rw[uw];rfl
def Zmn(m n:Nat):Builtin.bitAnd (-(m:Int)-1) n=(n:Int)-((n &&& m:Nat):Int):=by
 unfold Builtin.bitAnd;rw[Qaq (uv m)];rw[uw];rfl
def Zo2(m n:Nat):Builtin.bitAnd (-(m:Int)-1) (-(n:Int)-1)=-((m ||| n:Nat):Int)-1:=by
 unfold Builtin.bitAnd;rw[Qaq (uv n),Qaq (uv m)];rw[uw,uw];rfl
def yE(a:Int):(∃m:Nat,a=m)\/∃m:Nat,a=-(m:Int)-1:=by
 by_cases h:0<=a
 .exact .inl ⟨a.toNat,by lia⟩
 .exact .inr ⟨(-a-1).toNat,by lia⟩
def Zax(a:Int):a%2=0\/a%2=1:=by lia
def sub2(m A:Int)(h:A%2=0\/m%2=1):(m-A)/2=m/2-A/2/\(m-A)%2=m%2-A%2:=by lia
def cast2(m:Nat):(m:Int)/2=((m/2:Nat):Int)/\(m:Int)%2=((m%2:Nat):Int):=⟨U,U⟩
def Zgl(x:Int):(-x-1)/2=-(x/2)-1/\(-x-1)%2=1-x%2:=by lia
def Zo3(m n:Nat):(((m &&& n:Nat):Int))/2=((m/2 &&& n/2:Nat):Int)/\(((m &&& n:Nat):Int))%2=(m:Int)%2*((n:Int)%2):=by
 rw[(cast2 _).1,(cast2 _).2,(Zo0 m n).1,(Zo0 m n).2];exact⟨U,U⟩
def take2(m n:Nat):((m:Int)-((m &&& n:Nat):Int))/2=((m/2:Nat):Int)-((m/2 &&& n/2:Nat):Int)/\((m:Int)-((m &&& n:Nat):Int))%2=(m:Int)%2*(1-(n:Int)%2):=by
 have l:=Zo3 m n;have h:((m &&& n):Int)%2=0\/(m:Int)%2=1:=by
  grind
 have z:=sub2 _ _ h;rw[z.1,z.2,l.1,l.2];refine⟨U,?_⟩;rcases Zax m with e|e<;>rcases Zax _ with f|f<;>rw[e,f]<;>rfl
def Znx(a b:Int):Builtin.bitAnd a b/2=Builtin.bitAnd (a/2) (b/2)/\Builtin.bitAnd a b%2=a%2*(b%2):=by
 rcases yE a with⟨m,rfl⟩|⟨m,rfl⟩<;>rcases yE b with⟨n,rfl⟩|⟨n,rfl⟩
 .exact Zo3 m n
 .rw[(cast2 m).1,(Zgl _).1,(Zgl _).2,(cast2 n).1,Zo1,Zo1];exact take2 m n
 .rw[(cast2 n).1,(Zgl _).1,(Zgl _).2,(cast2 m).1,Zmn,Zmn,Qe8];exact take2 n m
 .rw[(Zgl _).1,(Zgl _).2,(Zgl _).1,(Zgl _).2,(cast2 m).1,(cast2 n).1,Zo2,Zo2,(Zgl _).1,(Zgl _).2,(cast2 _).1,(cast2 _).2,(n_or m n).1,(n_or m n).2];refine⟨U,?_⟩;rw[(cast2 m).2,(cast2 n).2];rcases Qcz m with e|e<;>rcases Qcz n with f|f<;>rw[e,f]<;>rfl
def Zj9(a:Int):Builtin.bitNot a/2=Builtin.bitNot (a/2)/\Builtin.bitNot a%2=1-a%2:=by
 unfold Builtin.bitNot;lia
def or2(a b:Int):Builtin.bitOr a b/2=Builtin.bitOr (a/2) (b/2)/\Builtin.bitOr a b%2=1-(1-a%2)*(1-b%2):=by
 unfold Builtin.bitOr;have h:=Znx (Builtin.bitNot a) (Builtin.bitNot b);rw[(Zj9 a).1,(Zj9 b).1,(Zj9 a).2,(Zj9 b).2]at h;rw[(Zj9 _).1,(Zj9 _).2,h.1,h.2];exact⟨U,U⟩
def xor2(a b:Int):Builtin.bitXor a b/2=Builtin.bitXor (a/2) (b/2)/\Builtin.bitXor a b%2=(a%2+b%2)%2:=by
 unfold Builtin.bitXor;have h:=Znx a b;have g:=or2 a b;have q:Builtin.bitAnd a b%2=0\/Builtin.bitOr a b%2=1:=by
  rw[h.2,g.2];rcases Zax a with e|e<;>rcases Zax b with f|f<;>rw[e,f]<;>decide
 have z:=sub2 _ _ q;rw[z.1,z.2,h.1,h.2,g.1,g.2];refine⟨U,?_⟩;rcases Zax a with e|e<;>rcases Zax b with f|f<;>rw[e,f]<;>rfl
def zu(w:Nat)(n:Int):jk (w+1) n=n%2::jk w (n/2):=by
 unfold jk;rw[List.range_succ_eq_map,Qbv,Qay,Qdj,Qb6];congr 1;refine Qbo λi _=>?_;show n/2^(i+1)%2=n/2/2^i%2;rw[Qev,Qe8,Qdd (by decide)]
theorem Zh0(w:Nat)(n:Int):jk w (n%2^w)=jk w n:=by
 induction w generalizing n with
 |zero=>rfl
 |succ w F=>
  rw[zu,zu,<-F (n/2)];have e1:n%2^(w+1)%2=n%2:=by
   rw[Int.emod_emod_of_dvd];exact⟨2^w,by grind⟩
  have e2:n%2^(w+1)/2=n/2%2^w:=by
   have z:(0:Int)<2^w:=Qew (by decide);have h2:=Qc8 (n/2) (2^w);have I:=Qb3 (n/2) (Qe9 z);have G:=Qbt (n/2) z;have e:n%2^(w+1)=n%2+2*(n/2%2^w):=by
    have:n=n%2+2*(n/2%2^w)+2^(w+1)*(n/2/2^w):=by grind
    conv=>lhs;rw[this]
    rw[Qcb];refine Qck (by lia) ?_;lia
   rw[e];lia
  rw[e1,e2]
def bits_getD(w:Nat)(n:Int)(i:Nat)(h:i<w):(jk w n).getD i 0=n/2^i%2:=by
 unfold jk;rw[Qal,Qag,Qdv h];rfl
theorem kz(w:Nat)(n:Int):(jk w n).foldr (λb t=>2*t+b) 0=n%2^w:=by
 induction w generalizing n with
 |zero=>rw[Qdj,Qfw];rfl
 |succ w z=>
  rw[zu,List.foldr_cons,z];have e:(0:Int)<2^w:=Qew (by decide);have h2:=Qc8 (n/2) (2^w);have G:=Qb3 (n/2) (Qe9 e);have F:=Qbt (n/2) e;have:n=2*(n/2%2^w)+n%2+2^(w+1)*(n/2/2^w):=by
   grind
  conv=>rhs;rw[this]
  rw[Qcb];refine(Qck (by lia) ?_).symm;lia
theorem Zek{j:Nat}(h:i<=j):(2:Int)^i<=2^j:=by
 obtain⟨d,rfl⟩:∃d,j=i+d:=⟨j-i,by lia⟩;clear h
 induction d with
 |zero=>exact Int.le_refl _
 |succ d e=>
  lia
def bt(x:Int)(k:Nat):Int:=x/2^k%2
def YN(x:Int)(k:Nat):bt x (k+1)=bt (x/2) k:=by
 unfold bt;rw[Qev,Qe8,Qdd (by decide)]
def YD(x:Int)(k:Nat):bt x k=0\/bt x k=1:=by
 unfold bt;lia
theorem YU(k:Nat):∀a b:Int,bt (Builtin.bitAnd a b) k=bt a k*bt b k:=by
 induction k with
 |zero=>
  intro a b;unfold bt;rw[Qdj,Qb6,Qb6,Qb6,(Znx a b).2]
 |succ k e=>
  intro a b;rw[YN,YN,YN,(Znx a b).1,e]
theorem qZ(k:Nat):∀a b:Int,bt (Builtin.bitOr a b) k=1-(1-bt a k)*(1-bt b k):=by
 induction k with
 |zero=>
  intro a b;unfold bt;rw[Qdj,Qb6,Qb6,Qb6,(or2 a b).2]
 |succ k e=>
  intro a b;rw[YN,YN,YN,(or2 a b).1,e]
theorem zv(k:Nat):∀a b:Int,bt (Builtin.bitXor a b) k=(bt a k+bt b k)%2:=by
 induction k with
 |zero=>
  intro a b;unfold bt;rw[Qdj,Qb6,Qb6,Qb6,(xor2 a b).2]
 |succ k e=>
  intro a b;rw[YN,YN,YN,(xor2 a b).1,e]
theorem G8(k:Nat):∀a:Int,bt (Builtin.bitNot a) k=1-bt a k:=by
 induction k with
 |zero=>
  intro a;unfold bt;rw[Qdj,Qb6,Qb6,(Zj9 a).2]
 |succ k e=>
  intro a;rw[YN,YN,(Zj9 a).1,e]
def zw(k:Nat):bt 0 k=0:=by
 unfold bt;rw[Int.zero_ediv];rfl
theorem Zel(k:Nat):bt (-1) k=1:=by
 induction k with
 |zero=>rfl
 |succ k e=>rw[YN];exact e
def zx(x:Int)(w k:Nat)(h:k<w):bt (x%2^w) k=bt x k:=by
 have h1:=bits_getD w (x%2^w) k h;rw[Zh0 w x,bits_getD w x k h]at h1;exact h1.symm
def lo(x:Int)(k:Nat):Int:=x%2^k
def jm(x:Int)(k:Nat):0<=lo x k/\lo x k<2^k:=⟨Qb3 _ (Qe9 (Qew (by decide))),Qbt _ (Qew (by decide))⟩
def zy(x:Int)(k:Nat):lo x (k+1)=lo x k+2^k*bt x k:=by
 unfold lo bt;have e:(0:Int)<2^k:=Qew (by decide);have e1:=Qc8 x (2^k);have F:=Qb3 x (Qe9 e);have b1:=Qbt x e;have e3:x=(x%2^k+2^k*(x/2^k%2))+2^(k+1)*(x/2^k/2):=by
  grind
 conv=>lhs;rw[e3]
 rw[Qcb];have z:x/2^k%2=0\/x/2^k%2=1:=by lia
 refine Qck ?_ ?_
 .rcases z with h|h<;>rw[h]<;>lia
 .grind
def Zmo(x:Int)(k:Nat):x=lo x k+2^k*(x/2^k):=(Qc8 x _).symm
def bt_sum{x y:Int}{k:Nat}{c:Int}(F:c=0\/c=1)(e:lo z k+2^k*c=lo x k+lo y k)(G:z=x+y):bt z k=(bt x k+bt y k+c)%2:=by
 have e1:=Zmo x k;have e2:=Zmo y k;have e3:=Zmo z k;have h:2^k*(z/2^k)=2^k*(x/2^k+y/2^k+c):=by grind
 unfold bt;rw[Int.eq_of_mul_eq_mul_left (Qe9 (Qew (by decide))) h];lia
def cyA(x y:Int)(k:Nat):Int:=(lo x k+lo y k)/2^k
def Zem(x y:Int)(k:Nat):lo (x+y) k+2^k*cyA x y k=lo x k+lo y k:=by
 have e:lo (x+y) k=(lo x k+lo y k)%2^k:=by
  unfold lo;rw[<-Int.emod_add_emod,<-Int.add_emod_emod]
 rw[e];exact Qc8 _ _
def Zen(x y:Int)(k:Nat):cyA x y k=0\/cyA x y k=1:=by
 have e:(0:Int)<2^k:=Qew (by decide);have a:=jm x k;have b:=jm y k;have q0:0<=cyA x y k:=Int.ediv_nonneg (by lia) (Int.le_of_lt e);have z:cyA x y k<2:=Int.ediv_lt_of_lt_mul e (by lia);lia
def Zka(x y:Int)(k:Nat):bt (x+y) k=(bt x k+bt y k+cyA x y k)%2:=bt_sum (Zen x y k) (Zem x y k) U
def ux(x y:Int):cyA x y 0=0:=by
 unfold cyA lo;rw[Qdj,Qfw,Qfw];rfl
def uy(x y:Int)(k:Nat):cyA x y (k+1)=(bt x k+bt y k+cyA x y k)/2:=by
 have z:(0:Int)<2^k:=Qew (by decide);have e1:=zy x k;have e2:=zy y k;have e3:=Zem x y k;have b:=jm (x+y) k;have e:lo x (k+1)+lo y (k+1)=lo (x+y) k+2^k*(bt x k+bt y k+cyA x y k):=by
  lia
 unfold cyA;rw[e,Qev,<-Qdd (Int.le_of_lt z),Qfx _ _ (Qe9 z),Qby b.1 b.2,Qfy];rfl
def brA(x y:Int)(k:Nat):Int:=if lo x k<lo y k then 1 else 0
def uz(x y:Int)(k:Nat):brA x y k=cyA (x-y) y k:=by
 have e:=Zem (x-y) y k;have b:=jm (x-y) k;unfold brA;rcases Zen _ y k with h|h<;>rw[h]at e ⊢
 .rw[Qax (by lia)]
 .rw[Qa2 (by lia)]
def k4(x y:Int)(k:Nat):brA x y k=0\/brA x y k=1:=by
 unfold brA;split
 .exact .inr U
 .exact .inl U
def Zeo(x y:Int)(k:Nat):bt (x-y) k=(bt x k+bt y k+brA x y k)%2:=by
 have h:=Zka (x-y) y k;rw[Int.sub_add_cancel,<-uz]at h;have a:=YD (x-y) k;rw[h];lia
def uA(x y:Int):brA x y 0=0:=by
 rw[uz,ux]
def uB(x y:Int)(k:Nat):brA x y (k+1)=1-(1-(1-bt x k)*bt y k)*(1-brA x y k*(1-(bt x k+bt y k)%2)):=by
 rw[uz,uy,<-uz,Zeo];rcases YD x k with a|a<;>rcases YD y k with b|b<;>rcases k4 x y k with c|c<;>rw[a,b,c]<;>rfl
def nzA(x:Int)(k:Nat):Int:=brA 0 x k
def Zep(x:Int)(k:Nat):nzA x k=0\/nzA x k=1:=k4 0 x k
def Zh1(x:Int):nzA x 0=0:=uA 0 x
def Zh2(x:Int)(k:Nat):nzA x (k+1)=1-(1-bt x k)*(1-nzA x k):=by
 unfold nzA;rw[uB,zw];rcases YD x k with a|a<;>rcases k4 0 x k with c|c<;>rw[a,c]<;>rfl
def Zkb(x:Int)(k:Nat):bt (-x) k=(bt x k+nzA x k)%2:=by
 have h:=Zeo 0 x k;rw[Int.zero_sub,zw,Qfy]at h;exact h
def bt_low(x:Int)(k:Nat):bt (Builtin.bitAnd x (-x)) k=bt x k*(1-nzA x k):=by
 rw[YU,Zkb];rcases YD x k with a|a<;>rcases Zep x k with c|c<;>rw[a,c]<;>rfl
def tw(x:Int):Nat->Int
 |0=>0
 |k+1=>bt x k
theorem tw_01(x:Int):∀k,tw x k=0\/tw x k=1
 |0=>.inl U
 |k+1=>YD x k
theorem Zh3(x:Int):∀k,bt (x+x) k=tw x k
 |0=>by
  unfold bt;rw[Qdj,Qb6];show(x+x)%2=0;lia
 |k+1=>by
  rw[YN,show(x+x)/2=x by lia];rfl
def hld(y:Str)(is:Ak)(k:Nat):Int:=
 if y = "twice" then tw (is.getD 0 0) k else if y = "neg" \/ y = "low" then nzA (is.getD 0 0) k else if y = "add" then cyA (is.getD 0 0) (is.getD 1 0) k else brA (is.getD 0 0) (is.getD 1 0) k
def jd:Ai:=["neg","twice","low","add","sub"]
def once(y:Str)(bs:Ak):Int:=
 if y = "not" then 1-bs.getD 0 0 else if y = "and" then bs.getD 0 0*bs.getD 1 0 else if y = "or" then 1-(1-bs.getD 0 0)*(1-bs.getD 1 0)else if y = "odd" then(bs.getD 0 0+bs.getD 1 0)%2
 else 1-(1-bs.getD 0 0*bs.getD 1 0)*(1-(1-bs.getD 0 0)*bs.getD 2 0)
def ans1(y:Str)(bs:Ak)(h:Int):Int:=
 if y = "twice" then h else if y = "neg" then(bs.getD 0 0+h)%2 else if y = "low" then bs.getD 0 0*(1-h)else(bs.getD 0 0+bs.getD 1 0+h)%2
def Jj(is:Ak)(k i:Nat):(is.map λx=>bt x k).getD i 0=bt (is.getD i 0) k:=by
 rw[Qal,Qal,Qag];cases is[i]? with
 |none=>exact(zw k).symm
 |some x=>rfl
def jP:∀y∈G7,y∉jd->(y = "not" /\ Y8 y=1)\/(y = "and" /\ Y8 y=2)\/(y = "or" /\ Y8 y=2)\/(y = "odd" /\ Y8 y=2)\/(y = "pick" /\ Y8 y=3):=by decide +kernel
def ans_ok(ρ:Str->Int){y:Str}(z:y∈jd){is:Ak}(e:is.length=Y8 y)(k:Nat):ans1 y (is.map λx=>bt x k) (hld y is k)=bt (wwv ρ (.str y) is) k:=by
 unfold jd at z;simp at z;rcases z with rfl|rfl|rfl|rfl|rfl
 .match is,e with
  |[a],_=>exact(Zkb a k).symm
 .match is,e with
  |[a],_=>exact(Zh3 a k).symm
 .match is,e with
  |[a],_=>exact(bt_low a k).symm
 .match is,e with
  |[a,b],_=>exact(Zka a b k).symm
 .match is,e with
  |[a,b],_=>exact(Zeo a b k).symm
def Zmp(ρ:Str->Int){y:Str}(F:y∈G7)(G:y∉jd){is:Ak}(z:is.length=Y8 y)(k:Nat):once y (is.map λx=>bt x k)=bt (wwv ρ (.str y) is) k:=by
 rcases jP y F G with⟨rfl,e⟩|⟨rfl,e⟩|⟨rfl,e⟩|⟨rfl,e⟩|⟨rfl,e⟩<;>skip
 .match is,z with
  |[a],_=>exact(G8 k a).symm
 .match is,z with
  |[a,b],_=>exact(YU k a b).symm
 .match is,z with
  |[a,b],_=>exact(qZ k a b).symm
 .match is,z with
  |[a,b],_=>exact(zv k a b).symm
 .match is,z with
  |[a,b,c],_=>
   show 1-(1-bt a k*bt b k)*(1-(1-bt a k)*bt c k)=bt (Builtin.bitOr _ _) k;rw[qZ,YU,YU,G8]
def uC:A2->Nat
 |[]=>0
 |w::r=>uC r-npw w+1
def Jk:A2->Prop
 |[]=>True
 |w::r=>npw w<=uC r/\Jk r
def k6(ys:Ai)(B:Nat)(w:V):Prop:=(∃y,w=.str y/\y∈G7/\y∉ys/\npw w=Y8 y)\/(∃y,w=.str y/\y∈ys/\y∉jd/\npw w=0)\/∃z:Int,w=.int z/\0<=z/\z<2^B/\npw w=0
def Zkc{B k:Nat}(e:0<=z)(h:z<2^B)(F:B<=k):bt z k=0:=by
 have G:=Zek F;unfold bt;rw[Qby e (by lia)];rfl
def Zo4(a b h:Int):Int:=Builtin.bitOr (Builtin.bitAnd (Builtin.bitNot a) b) (Builtin.bitAnd h (Builtin.bitNot (Builtin.bitXor a b)))
def allR:Ai:=["neg","twice","low","add","sub","same","under","beneath","nought"]
def Zmq:Ai:=["add","sub","same","under","beneath"]
def ktI(y:Str)(is:Ak)(h:Int):Int:=
 if y = "twice" then is.getD 0 0 else if y = "neg" \/ y = "low" \/ y = "nought" then Builtin.bitOr (is.getD 0 0) h else if y = "same" then Builtin.bitOr (Builtin.bitXor (is.getD 0 0) (is.getD 1 0)) h
 else if y = "add" then Builtin.bitOr (Builtin.bitAnd (is.getD 0 0) (is.getD 1 0)) (Builtin.bitAnd h (Builtin.bitOr (is.getD 0 0) (is.getD 1 0)))else Zo4 (is.getD 0 0) (is.getD 1 0) h
def okI(y:Str)(is:Ak)(h n:Int):Int:=
 if y = "add" \/ y = "sub" then Builtin.bitXor (Builtin.bitXor (is.getD 0 0) (is.getD 1 0)) h else if y = "neg" then Builtin.bitXor (is.getD 0 0) h else if y = "twice" then h else if y = "low" then Builtin.bitAnd (is.getD 0 0) (Builtin.bitNot h)
 else if y = "same" \/ y = "nought" then Builtin.bitNot n else if y = "under" then n else Zo4 (is.getD 1 0) (is.getD 0 0) h
def oaI(y:Str)(is:Ak):Int:=
 if y = "yes" then -1 else if y = "sign" then is.getD 0 0 else if y = "not" \/ y = "never" then Builtin.bitNot (is.getD 0 0)else if y = "and" \/ y = "both" then Builtin.bitAnd (is.getD 0 0) (is.getD 1 0)else if y = "or" \/ y = "either" then Builtin.bitOr (is.getD 0 0) (is.getD 1 0)
 else if y = "odd" then Builtin.bitXor (is.getD 0 0) (is.getD 1 0)else if y = "so" then Builtin.bitOr (Builtin.bitNot (is.getD 0 0)) (is.getD 1 0)else Builtin.bitOr (Builtin.bitAnd (is.getD 0 0) (is.getD 1 0)) (Builtin.bitAnd (Builtin.bitNot (is.getD 0 0)) (is.getD 2 0))
def Zeq (y:Str):Nat:=if y = "yes" then 0 else if y = "sign" \/ y = "not" \/ y = "never" then 1 else if y = "pick" then 3 else 2
def Zer:∀y∈allR,¬y = "twice" ->¬(y = "neg" \/ y = "low" \/ y = "nought")->y∈Zmq:=by decide +kernel
def Zes:Ai:=["not","and","or","odd","pick","both","either","so","never","yes","sign"]
def Zay:∀y∈Zes,¬y = "yes" ->¬y = "sign" ->¬(y = "not" \/ y = "never")->¬(y = "and" \/ y = "both")->¬(y = "or" \/ y = "either")->¬y = "odd" ->¬y = "so" ->3<=Zeq y:=by decide +kernel
def z5{m:Nat}{is:Ak}(h:is.length=m)(h2:n<=m):n<=is.length:=by grind
def and_zero(x:Int):Builtin.bitAnd x 0=0:=by
 rcases yE x with⟨m,rfl⟩|⟨m,rfl⟩
 .rw[show 0=((0:Nat):Int)from U,bA_pp,Nat.and_zero]
 .rw[show 0=((0:Nat):Int)from U,Zmn,Nat.zero_and];rfl
def and_1(x:Int):Builtin.bitAnd x 1=x%2:=by
 obtain⟨h1,h2⟩:=Znx x 1;rw[show(1:Int)/2=0 from U,and_zero]at h1;lia
def XF(ys:Ai)(cols:Str->Int)(pl:Nat)(kp:Ak):A2->List Int×Ak
 |[]=>([],[])
 |w::r=>
  let p:=XF ys cols pl kp r
  match w with
  |.str y=>
   if y∈allR then(okI y (p.1.take (npw w)) (-(kp.getD p.2.length 0)) (ktI y (p.1.take (npw w)) (-(kp.getD p.2.length 0)))::p.1.drop (npw w),p.2++[ktI y (p.1.take (npw w)) (-(kp.getD p.2.length 0))])
   else if y∈ys then(cols y::p.1.drop (npw w),p.2)
   else(oaI y (p.1.take (npw w))::p.1.drop (npw w),p.2)
  |.int z=>(-(bt z pl)::p.1.drop (npw w),p.2)
  |_=>p
def Zet(kvs:A0)(ys:Ai)(cols:Str->Int):Prop:=(∀y∈ys,Ym kvs (.inr y)=some (.int (cols y)))/\∀y,y∉ys->Ym kvs (.inr y)=none
def yF(ys:Ai)(w:V):Prop:=(∃y,w=.str y/\y∈allR/\y∉ys/\1<=npw w/\(y∈Zmq->2<=npw w))\/(∃y,w=.str y/\y∈Zes/\y∉allR/\y∉ys/\npw w=Zeq y)\/(∃y,w=.str y/\y∈ys/\y∉allR/\npw w=0)\/∃z:Int,w=.int z/\0<=z/\npw w=0
theorem yG{ys:Ai}{cols:Str->Int}{pl:Nat}{kp:Ak}:∀e:A2,(∀w∈e,yF ys w)->(XF ys cols pl kp e).1.length=uC e
 |[],_=>rfl
 |w::r,hw=>by
  have G:=yG (cols:=cols) (pl:=pl) (kp:=kp) r λw h=>hw w (Qai _ h);have go:∀x,(x::(XF ys cols pl kp r).1.drop (npw w)).length=uC r-npw w+1:=λx=>by grind
  rcases hw w Qah with⟨y,rfl,h1,_⟩|⟨y,rfl,h1,h2,F,_⟩|⟨y,rfl,h1,h2,_⟩|⟨z,rfl,_⟩
  .show(if y∈allR then _ else _:Ak×Ak).1.length=_;rw[Qa2 h1];exact go _
  .show(if y∈allR then _ else if y∈ys then _ else _:Ak×Ak).1.length=_;rw[Qax h2,Qax F];exact go _
  .show(if y∈allR then _ else if y∈ys then _ else _:Ak×Ak).1.length=_;rw[Qax h2,Qa2 h1];exact go _
  .exact go _
def k7(ys:Ai)(cols:Str->Int)(pl:Nat)(kp:Ak)(w:V)(r:A2):(XF ys cols pl kp r).2.length<=(XF ys cols pl kp (w::r)).2.length:=by
 cases w with
 |str y=>
  show _<=(if y∈allR then _ else if y∈ys then _ else _:Ak×Ak).2.length;split
  .grind
  .split<;>exact Qaj _
 |_=>exact Qaj _
theorem k9(ys:Ai)(cols:Str->Int)(pl:Nat)(kp:Ak):∀(e:A2)(j:Nat),(XF ys cols pl kp (e.drop j)).2.length<=(XF ys cols pl kp e).2.length
 |[],j=>by simp
 |w::r,0=>Qaj _
 |w::r,j+1=>Qa9 (k9 ys cols pl kp r j) (k7 ys cols pl kp w r)
theorem z6:∀(e:A2)(j:Nat),Jk e->Jk (e.drop j)
 |[],j,_=>by grind
 |w::r,0,h=>h
 |w::r,j+1,h=>z6 r j h.2
theorem gk:∀e:A2,uC e<=e.length
 |[]=>Qaj _
 |w::r=>by
  have:=gk r;show uC r-npw w+1<=r.length+1;lia
def gm(z:Int)(ys:Ai):inV (.int z) (ys.map V.str)=false:=by
 cases q:inV _ _ with
 |false=>rfl
 |true=>
  obtain⟨x,F,e⟩:=Qdi.mp q;obtain⟨y,_,rfl⟩:=Qau.mp F;cases e
theorem uD(ys:Ai)(cols:Str->Int)(pl:Nat)(kp:Ak):∀z:A2,(XF ys cols pl kp z).2.length<=z.length
 |[]=>Qaj _
 |w::r=>by
  have e:=uD ys cols pl kp r;cases w with
  |str y=>
   show(if y∈allR then _ else if y∈ys then _ else _:Ak×Ak).2.length<=r.length+1;split
   .grind
   .split<;>exact Nat.le_succ_of_le e
  |_=>exact Nat.le_succ_of_le e
def gn{x:Int}(h:x=0\/x=1)(l:Nat):bt (-x) l=x:=by
 rcases h with rfl|rfl
 .exact zw l
 .exact Zel l
def Zeu:∀y∈G7,(y∈allR↔y∈jd):=by decide +kernel
theorem yH(w:Nat):∀a b:Int,Builtin.bitAnd a b/2^w=Builtin.bitAnd (a/2^w) (b/2^w):=by
 induction w with
 |zero=>intro a b;rw[Qdj,Qb6,Qb6,Qb6]
 |succ w e=>
  intro a b;have d:∀x:Int,x/2^(w+1)=x/2/2^w:=λx=>by rw[Qev,Qe8,Qdd (by decide)]
  rw[d,d,d,(Znx a b).1,e]
theorem Zkd(w:Nat):∀a b:Int,Builtin.bitOr a b/2^w=Builtin.bitOr (a/2^w) (b/2^w):=by
 induction w with
 |zero=>intro a b;rw[Qdj,Qb6,Qb6,Qb6]
 |succ w e=>
  intro a b;have d:∀x:Int,x/2^(w+1)=x/2/2^w:=λx=>by rw[Qev,Qe8,Qdd (by decide)]
  rw[d,d,d,(or2 a b).1,e]
def kA{w:Nat}{x y:Int}(h:∀k,k<w->bt x k=bt y k):x%2^w=y%2^w:=by
 have e:jk w x=jk w y:=Qbo λi hi=>h i (Qbw.mp hi);have h1:=kz w x;have h2:=kz w y;rw[e,h2]at h1;exact h1.symm
def Zh4{w:Nat}{a b c:Int}(Ua:0<=a)(a1:a<2^w)(O:0<=b)(b1:b<2^w)(F:0<=c)(G:c<2^w):Builtin.bitOr (Builtin.bitAnd a b) (Builtin.bitAnd (2^w-1-a) c)=Builtin.bitOr (Builtin.bitAnd a b) (Builtin.bitAnd (Builtin.bitNot a) c)%2^w:=by
 have J:Builtin.bitOr (Builtin.bitAnd a b) (Builtin.bitAnd (2^w-1-a) c)/2^w=0:=by
  rw[Zkd,yH,yH,Qby Ua a1,Qby O b1,Qby F G,Qby (by lia) (by lia)];rfl
 have z:=Qc8 (Builtin.bitOr (Builtin.bitAnd a b) (Builtin.bitAnd (2^w-1-a) c)) (2^w);rw[J,Int.mul_zero,Int.add_zero]at z;rw[<-z];refine kA λk Y=>?_;have I:bt (2^w-1-a) k=bt (Builtin.bitNot a) k:=by
  have e:2^w-1-a=Builtin.bitNot a%2^w:=by
   have e1:Builtin.bitNot a=(2^w-1-a)+2^w*(-1):=by unfold Builtin.bitNot;lia
   rw[e1,Qcb,Qck (by lia) (by lia)]
  rw[e,zx _ _ _ Y]
 rw[qZ,YU,YU,I,qZ,YU,YU]
def hor(e:Ak):Int:=e.foldl (λa b=>a*2+b) 0
def yI(e:Ak)(b:Int):hor (e++[b])=hor e*2+b:=by
 unfold hor;rw[Qc7];rfl
def Zh5{b:Int}(h:I[i]?=some b):hor (I.take (i+1))=hor (I.take i)*2+b:=by
 rw[Qgw,h];exact yI _ b
def sm(b:Nat->Int):Nat->Int
 |0=>0
 |n+1=>sm b n+b n*2^n
theorem uE{b c:Nat->Int}:∀{n:Nat},(∀i,i<n->b i=c i)->sm b n=sm c n
 |0,_=>rfl
 |n+1,h=>by
  show sm b n+b n*2^n=sm c n+c n*2^n;rw[uE λi hi=>h i (Qd9 hi),h n (Qdz n)]
theorem xy{b:Nat->Int}(F:∀i,b i=0\/b i=1):∀n,0<=sm b n/\sm b n<2^n
 |0=>⟨Int.le_refl _,(show 0<2^0 by decide)⟩
 |n+1=>by
  have G:=xy F n;have e:sm b (n+1)=sm b n+b n*2^n:=rfl;rw[e];rcases F n with z|z<;>rw[z]<;>constructor<;>lia
theorem uF{b:Nat->Int}(F:∀i,b i=0\/b i=1)(p:Nat):∀n,p<n->sm b n/2^p%2=b p
 |0,h=>absurd h (Qed _)
 |n+1,h=>by
  have e:sm b (n+1)=sm b n+b n*2^n:=rfl;have O:=J2 p;rw[e]
  by_cases G:p<n
  .obtain⟨k,rfl⟩:∃k,n=p+(k+1):=⟨n-p-1,by lia⟩;have e2:b (p+(k+1))*2^(p+(k+1))=2^p*(2^k*b (p+(k+1))*2):=by grind
   rw[e2,Qfx _ _ (by lia)];have J:=uF F p _ G;lia
  .have e3:p=n:=by lia
   subst e3;obtain⟨I,h1⟩:=xy F p;rw[Qe8,Qfx _ _ (by lia),Qby I h1];rcases F p with z|z<;>rw[z]<;>rfl
theorem Zh6(l:Ak):∀a:Int,l.foldl (λa b=>a*2+b) a=a*2^l.length+hor l:=by
 induction l with
 |nil=>intro a;show a=a*2^0+0;lia
 |cons b l e=>
  intro a;show l.foldl _ _=a*2^(l.length+1)+l.foldl _ _;rw[e,e _,pow_succ'];lia
theorem Zke(b:Nat->Int):∀n,hor ((List.range n).map b).reverse=sm b n
 |0=>rfl
 |n+1=>by
  rw[Qff,Qa6,Qgl];show((List.range n).map b).reverse.foldl _ _=sm b n+b n*2^n;rw[Zh6,Zke b n,Qc6,Qab,Qa3];lia
def Zh7(r:Int)(w:Nat):r/2^w%2*2^w+r%2^w=r%2^(w+1):=by
 rw[pow_succ'];have e:=J2 w;generalize (2:Int)^w=p at *;have G:0<=r%p:=Qb3 _ (by lia);have h1:r%p<p:=Qbt _ e;have e1:=(Int.mul_ediv_add_emod r p).symm;generalize r/p=q at *;generalize r%p=t at *;have e2:q=2*(q/2)+q%2:=by lia
 have h2:0<=q%2:=by lia
 have F:q%2<=1:=by lia
 generalize q/2=u at *;generalize q%2=b at *;subst e2;have z:b=0\/b=1:=by lia
 have e3:r=b*p+t+p*2*u:=by
  grind
 rw[e3,Qcb];rcases z with rfl|rfl
 .rw[Qck (by lia) (by lia)]
 .rw[Qck (by lia) (by lia)]
theorem Zev(r:Int):∀w,sm (λk=>r/2^k%2) w=r%2^w
 |0=>by
  rw[Qdj,Qfw];rfl
 |w+1=>by
  show sm _ w+r/2^w%2*2^w=_;rw[Zev r w];have:=Zh7 r w;lia
def Zmr{x:Int}(h:0<=x):Builtin.bitAnd x 1=x%2:=by
 rw[PyProof.Rows.bitAnd_pp h (by decide)];show((x.toNat &&& 1:Nat))=x%2;rw[Nat.and_one_is_mod];lia
def Zo5(r:Int)(k:Nat):r/2^k%2=0\/r/2^k%2=1:=by lia
def div_nn{r:Int}(h:0<=r)(k:Nat):0<=r/2^k:=Int.ediv_nonneg h (Int.le_of_lt (J2 k))
open Classical in
def keysOf(ys:Ai):List Key:=ys.foldl (λks y=>if(Sum.inr y:Key)∈ks then ks else ks++[Sum.inr y]) []
open Classical in
theorem JX(ys:Ai)(y:Str):keysOf (ys++[y])=if(Sum.inr y:Key)∈keysOf ys then keysOf ys else keysOf ys++[Sum.inr y]:=by
 unfold keysOf;rw[Qc7];rfl
theorem snoc_ind{P:List m->Prop}(F:P [])(z:∀l a,P l->P (l++[a])):∀l,P l:=by
 intro l;rw[<-List.reverse_reverse l]
 induction l.reverse with
 |nil=>exact F
 |cons a r e=>
  rw[Qcx];exact z _ _ e
def Zms{kvs:A0}{k:Key}:(kvs.any λe=>decide (e.1=k))=true↔k∈kvs.map (·.1):=by grind
def Zh8{kvs:A0}{ys:Ai}(h:kvs.map (·.1)=keysOf ys)(y:Str)(v:V):(putK kvs (.inr y) v).map (·.1)=keysOf (ys++[y]):=by
 rw[JX,<-h];unfold putK
 by_cases e:(Sum.inr y)∈kvs.map (·.1)
 .rw[Qa2 (Zms.mpr e),Qa2 e,Qay];apply Qbo;intro p _;show(if p.1=Sum.inr y then(p.1,v)else p).1=p.1;split<;>rfl
 .grind
structure Tab(kvs:A0)(ys:Ai)(f:Str->Int):Prop where
 keys:kvs.map (·.1)=keysOf ys
 val:∀y∈ys,Ym kvs (.inr y)=some (.int (f y))
 all:∀p∈kvs,∃y∈ys,p=(.inr y,.int (f y))
def Zmt{kvs:A0}{k:Key}{v:V}{P:Key×V->Prop}(h:∀p∈kvs,p.1≠k->P p)(z:P (k,v)):∀p∈putK kvs k v,P p:=by
 intro p e;unfold putK at e;split at e
 .grind
 .grind
def Tab.put{kvs:A0}{ys:Ai}{f:Str->Int}(T:Tab kvs ys f)(y:Str)(z:Int):Tab (putK kvs (.inr y) (.int z)) (ys++[y]) (λx=>if x=y then z else f x):=by
 refine⟨Zh8 T.keys y _,λx F=>?_,Zmt (λp I G=>?_) ⟨y,Qba _ (Qat.mpr U),by simp⟩⟩
 .rw[Gq]
  by_cases e:x=y
  .rw[Qa2 (by rw[e]),Qa2 e]
  .have e2:¬(Sum.inr x:Key)=Sum.inr y:=λz=>e (Sum.inr.inj z)
   rw[Qax e2,Qax e];rcases Qb2.mp F with h|h
   .exact T.val x h
   .exact absurd (Qat.mp h) e
 .obtain⟨x,F,rfl⟩:=T.all p I;have e:¬x=y:=λz=>G (by rw[z]);exact⟨x,Qc0 _ F,by grind⟩
theorem Tab.same{kvs:A0}{ys:Ai}{f g:Str->Int}(T:Tab kvs ys f)(h:∀y∈ys,f y=g y):Tab kvs ys g:=
 ⟨T.keys,λy z=>by rw[<-h y z];exact T.val y z,λp F=>let⟨y,z,e⟩:=T.all p F;⟨y,z,by grind⟩⟩
def Tab.nil{f:Str->Int}:Tab [] [] f:=⟨U,(λ_ h=>nomatch h),(λ_ h=>nomatch h)⟩
def Zaz:∀(ys:Ai),(keysOf ys).length<=ys.length:=by
 refine snoc_ind (Qaj _) λys y e=>?_
 .rw[JX,Qar];split
  .lia
  .grind
def Tab.few{a:A0}{ys:Ai}{f:Str->Int}(T:Tab a ys f):a.length<=ys.length:=by
 have h1:(a.map (·.1)).length=(keysOf ys).length:=by rw[T.keys]
 rw[Qab]at h1;have:=Zaz ys;lia
def z8{ys:Ai}{x:V}(h:(ys.map V.str)[i]?=some x):∃y:Str,x=V.str y/\ys[i]?=some y:=by grind
def ltr(ys:Ai)(f:Str->Int)(k:Nat):Int:=sm (λi=>f (ys.getD i Str.empty)/2^k%2) ys.length
def yJ :PySem.W.kitOne K (.type "dict") (.type "dict")=some true:=by rfl
structure Zkf(H:Hp)(p:Aw)(S L:Nat)(f:Nat->Nat->V):Prop where
 ex:∃as:A2,H p=some (.tup as)/\∀s,s<S->∃(a:Aw)(xs:A2),as[s]?=some (.ref a)/\H a=some (.tup xs)/\∀l,l<L->xs[l]?=some (f s l)
structure Zkg(H:Hp)(m:Aw)(S L:Nat)(nv:V)(b:Nat)(nx:Nat->Nat->Nat)(ot:Nat->Nat->V):Prop where
 ex:∃ps po,H m=some (.tup [nv,.int b,.ref ps,.ref po])/\Zkf H ps S L (λs l=>.int (nx s l:Int))/\Zkf H po S L ot
 b:b<S
 nx:∀s l,s<S->l<L->nx s l<S
abbrev Y9(l:Nat):V:=.int l
def wk(nx:Nat->Nat->Nat)(ot:Nat->Nat->V):Nat->List Nat->List V
 |_,[]=>[]
 |s,l::r=>ot s l::wk nx ot (nx s l) r
def Zgm(nx:Nat->Nat->Nat):Nat->List Nat->Nat
 |s,[]=>s
 |s,l::r=>Zgm nx (nx s l) r
theorem Zew{nx:Nat->Nat->Nat}{ot:Nat->Nat->V}:∀(xs ys:Aj)(s:Nat),wk nx ot s (xs++ys)=wk nx ot s xs++wk nx ot (Zgm nx s xs) ys
 |[],_,_=>rfl
 |l::r,ys,s=>by
  show ot s l::wk nx ot _ (r++ys)=ot s l::(wk nx ot _ r++wk nx ot (Zgm nx _ r) ys);rw[Zew r ys]
theorem uG{nx:Nat->Nat->Nat}:∀(xs ys:Aj)(s:Nat),Zgm nx s (xs++ys)=Zgm nx (Zgm nx s xs) ys
 |[],_,_=>rfl
 |l::r,ys,s=>uG r ys _
theorem Zex{nx:Nat->Nat->Nat}{S L:Nat}(e:∀s l,s<S->l<L->nx s l<S):∀(xs:Aj)(s:Nat),s<S->(∀l∈xs,l<L)->Zgm nx s xs<S
 |[],_,h,_=>h
 |l::r,s,h,z=>Zex e r _ (e s l h (z l Qah)) λx F=>z x (Qai _ F)
theorem Zkh{nx:Nat->Nat->Nat}{ot:Nat->Nat->V}:∀(xs:Aj)(s:Nat),(wk nx ot s xs).length=xs.length
 |[],_=>rfl
 |l::r,s=>by
  show(wk nx ot _ r).length+1=r.length+1;rw[Zkh r]
def Zey{ls:Aj}{x:V}(h:(ls.map Y9)[i]?=some x):∃l:Nat,x=V.int l/\ls[i]?=some l:=by grind
def Xp(e:Bool)(v:V):Prop:=(e=true/\∃x,v=.bl x)\/(e=false/\∃x,v=.int x)
def G9(H:Hp)(p:Aw)(e:Az):Prop:=∃as:A2,H p=some (.tup as)/\as.length=e.length/\∀(i:Nat)(r:A2),e[i]?=some r->∃a,as[i]?=some (V.ref a)/\H a=some (.tup r)
def G9.same{H':Hp}{p:Aw}(R:G9 H p O)(e:ZG H H'):G9 H' p O:=by
 obtain⟨as,h1,h2,z⟩:=R;refine⟨as,e _ _ h1,h2,λi r hi=>?_⟩;obtain⟨a,F,g2⟩:=z i r hi;exact⟨a,F,e _ _ g2⟩
def jQ(r:Aj):A2:=r.map Y9
structure M4(H:Hp)(m:Aw)(nm:Ai)(b:Nat)(nx:Ad)(ot:Az):Prop where
 ex:∃pn ps po,H m=some (.tup [.ref pn,.int b,.ref ps,.ref po])/\H pn=some (.tup (nm.map V.str))/\G9 H ps (nx.map jQ)/\G9 H po ot
structure Wf(nm:Ai)(b:Nat)(nx:Ad)(ot:Az)(tr:Bool):Prop where
 n3:nm.length<=3
 b:b<nx.length
 le:nx.length<=1000000
 ol:ot.length=nx.length
 nr:∀r∈nx,r.length=2^nm.length
 nl:∀r∈nx,∀s∈r,s<nx.length
 or:∀r∈ot,r.length=2^nm.length
 ok:∀r∈ot,∀v∈r,Xp tr v
 bit:∀r∈ot,∀v∈r,vB v=some 0\/vB v=some 1
def Zpj{A B:Hp->Prop}(h:A H):Zg2 c H λb H2=>if b=true then A H2 else B H2:=by
 show if true=true then A H else B H;exact Y1 h
def zip_at{β:Type}{xs:List m}{ys:List β}{x:m}{y:β}(z:xs[i]?=some x)(e:ys[i]?=some y):(xs.zip ys)[i]?=some (x,y):=by grind
def p8(h:n<=3):2^n<=8:=Qdf (by decide) h
def Zez{e:List (List m)}(h:i<e.length):e[i]?=some (e.getD i []):=by grind
def JY{p:Aw}(R:G9 H p O)(h:i<O.length):∃as a,H p=some (HO.tup as)/\atI as (i:Int)=some (V.ref a)/\H a=some (.tup (O.getD i [])):=by
 obtain⟨as,h1,h2,e⟩:=R;obtain⟨a,z,g2⟩:=e i _ (Zez h);exact⟨as,a,h1,Yn z,g2⟩
def GA(nx:Ad)(i:Nat):(nx.map jQ).getD i []=jQ (nx.getD i []):=by
 rw[Qal,Qal,Qag];cases nx[i]?<;>rfl
def getD_mem{e:List (List m)}(h:i<e.length):e.getD i []∈e:=by grind
def x4{f:Nat->m}(h:i<n):((List.range n).map f)[i]?=some (f i):=by grind
def Xw(H:Hp)(zs:A2)(e:Az):Prop:=zs.length=e.length/\∀(i:Nat)(r:A2),e[i]?=some r->∃a,zs[i]?=some (V.ref a)/\H a=some (.tup r)
def Xw.same{H':Hp}(z:Xw H u O)(e:ZG H H'):Xw H' u O:=by
 refine⟨z.1,λi r G=>?_⟩;obtain⟨a,F,g2⟩:=z.2 i r G;exact⟨a,F,e _ _ g2⟩
def Xw.snoc{r:A2}(z:Xw H u O)(h:H a=some (.tup r)):Xw H (u++[.ref a]) (O++[r]):=by
 refine⟨by rw[Qar,Qar,z.1];rfl,λi q F=>?_⟩
 by_cases e:i<O.length
 .rw[Qbe e]at F;rw[Qbe (by rw[z.1];exact e)];exact z.2 i q F
 .rw[Qa1 (by lia)]at F;have G:i-O.length=0:=by
   grind
  rw[G]at F;cases F;refine⟨a,?_,h⟩;rw[Qa1 (by rw[z.1];lia),z.1,G];rfl
def Xw.nil{H:Hp}:Xw H [] []:=⟨U,λi r e=>by cases e⟩
def nk(l:Ak):A0:=XW (l.map (Sum.inl:Int->Key))
def gp{l:Ak}{s:Int}:(Sum.inl s:Key)∈l.map Sum.inl↔s∈l:=by grind
def Ze0{l:Ak}{s:Int}(h:s∈l)(e:l.Nodup):Ym (nk l) (.inl s)=some (.int (l.idxOf s:Int)):=by
 have:=Jc _ _ (gp.mpr h) (by grind);rw[idx_map Sum.inl (λ_ _=>Sum.inl.inj) s l]at this;exact this
def Zmu{l:Ak}{s:Int}(h:s∉l):Ym (nk l) (.inl s)=none:=qj _ _ λz=>h (gp.mp z)
def nk_len(l:Ak):(nk l).length=l.length:=by
 unfold nk;rw[Jb,Qab]
def nk_put{l:Ak}{s:Int}(h:s∉l):putK (nk l) (.inl s) (.int (l.length:Int))=nk (l++[s]):=by
 unfold nk;rw[Qa6];show _=XW (l.map Sum.inl++[Sum.inl s]);rw[qi,Qab];unfold putK;rw[Qax λz=>?_];rw[Qdi]at z;obtain⟨p,F,e⟩:=z;have:p.1∈(XW _).map _:=Qb9 F;rw[qh,Qbb e]at this;exact h (gp.mp this)
def z9(nx:Ad)(cs:Aj):List (Int×Ak):=List.zipWith (λ(c:Nat) (row:Aj)=>((c:Int),row.map λs=>(cs.getD s 0:Int))) cs nx
def yK{nx:Ad}(h:r.length=nx.length):(z9 nx r).length=r.length:=by
 unfold z9;rw[List.length_zipWith,h,Qfv]
theorem uH{nx:Ad}{cs:Aj}(h:cs.length=nx.length):(z9 nx cs).map (·.1)=cs.map λc:Nat=>(c:Int):=by
 unfold z9;rw[List.map_zipWith];have:∀(cs:Aj)(nx:Ad),cs.length=nx.length->List.zipWith (λ(c:Nat) _=>(c:Int)) cs nx=cs.map λc:Nat=>(c:Int):=by
  intro cs
  induction cs with
  |nil=>intro nx _;rfl
  |cons c r e=>
   intro nx h;cases nx with
   |nil=>cases h
   |cons x y=>rw[List.zipWith_cons_cons,Qbv,e y (by grind)]
 exact this cs nx h
def Za0{nx:Ad}(h:r.length=nx.length)(z:Wq r=r)(F:(Z5 (z9 nx r)).length<=(Z5 r).length):Wq (z9 nx r)=r:=by
 have e1:Z5 ((z9 nx r).map (·.1))=(Z5 r).map λc:Nat=>(c:Int):=by
  rw[uH h];exact y7 _ _ λa _ b _ e=>Int.ofNat.inj e
 have hi:=kh (·.1) (z9 nx r) (by grind);rw[<-y8 _ _ hi,uH h,y8 (λc:Nat=>(c:Int)) r λa _ b _ e=>Int.ofNat.inj e,z]
theorem kB{p:Aw}(R:G9 H p O):∃bs:List Aw,H p=some (.tup (bs.map V.ref))/\bs.length=O.length/\∀(i:Nat)(r:A2)(b:Aw),O[i]?=some r->bs[i]?=some b->H b=some (.tup r):=by
 obtain⟨as,h1,h2,I⟩:=R;have go:∀(as:A2)(O:List _),as.length=O.length->(∀(i:Nat)(r:A2),O[i]?=some r->∃a,as[i]?=some (V.ref a)/\H a=some (.tup r))->∃bs:List Aw,as=bs.map V.ref/\∀(i:Nat)(r:A2)(b:Aw),O[i]?=some r->bs[i]?=some b->H b=some (.tup r):=by
  intro as
  induction as with
  |nil=>
   exactλO F _=>⟨[],U,λi r b _ z=>by cases z⟩
  |cons v r J=>
   intro O F hh;cases O with
   |nil=>cases F
   |cons x y=>
    obtain⟨a,Z,Y⟩:=hh 0 x rfl;obtain⟨bs,e,z⟩:=J y (by grind) λi r hi=>by
     obtain⟨a,Ua,g2⟩:=hh (i+1) r (by grind);exact⟨a,by grind,g2⟩
    refine⟨a::bs,?_,λi r b hr G=>?_⟩
    .grind
    .grind
 obtain⟨bs,e,z⟩:=go as O h2 I;subst e;exact⟨bs,h1,by grind,z⟩
def kC[DecidableEq m](ks:List m):(ks.map λk=>((Z5 ks).idxOf k:Int)).map V.int=(Wq ks).map Y9:=by
 unfold Wq;rw[Qay,Qay];rfl
def GB{nx:Ad}{c:Nat}{row:Aj}(e:r[i]?=some c)(z:nx[i]?=some row):(z9 nx r)[i]?=some ((c:Int),row.map λs=>(r.getD s 0:Int)):=by
 unfold z9;rw[List.getElem?_zipWith,e,z]
def Zmv{z:List (Ak)}{nx:Ad}(Ua:r.length=nx.length)(Y:z.length=nx.length)(h:∀(i j:Nat)(a b:Ak),z[i]?=some a->z[j]?=some b->r[i]?=r[j]?->a=b):∀(i j:Nat)(a b:Ak),z[i]?=some a->z[j]?=some b->(Wq (z9 nx r))[i]?=(Wq (z9 nx r))[j]?->a=b:=by
 intro i j a b J I e;have hi:i<nx.length:=by grind
 have O:j<nx.length:=by grind
 have G:=Qac (l:=r) (i:=i) (by lia);have F:=Qac (l:=r) (i:=j) (by lia);have:=(y6 (GB G (Qac hi)) (GB F (Qac O))).mp e;refine h i j a b J I ?_;rw[G,F];exact congrArg some (Int.ofNat.inj (congrArg Prod.fst this))
def Zh9(nx:Ad)(l:Aj)(i:Nat):Aj:=(nx.getD (l.getD i 0) []).foldl Yw l
def xa(nx:Ad)(b:Nat):Nat->List Nat
 |0=>[b]
 |i+1=>Zh9 nx (xa nx b i) i
structure jR(nx:Ad)(b:Nat)(l:Aj):Prop where
 e:l=xa nx b l.length
 go:∀i,i<l.length->i<(xa nx b i).length
theorem qt(r:Aj):∀l:Aj,l.Nodup->(r.foldl Yw l).Nodup:=by
 induction r with
 |nil=>exactλl h=>h
 |cons k r e=>exactλl h=>e _ (Wd h k)
theorem GC(r:Aj){x:Nat}:∀l:Aj,x∈r.foldl Yw l↔x∈l\/x∈r:=by
 induction r with
 |nil=>intro l;simp
 |cons k r e=>
  intro l;rw[Qec,e,XD,Qas,or_assoc]
theorem zA(nx:Ad)(b:Nat):∀i,(xa nx b i).Nodup
 |0=>Qbu.mpr ⟨Qbk,Qcj⟩
 |i+1=>qt _ _ (zA nx b i)
theorem Ze1{nx:Ad}{b:Nat}(e:b<nx.length)(F:∀row∈nx,∀s∈row,s<nx.length):∀i,∀s∈xa nx b i,s<nx.length
 |0,s,h=>by rw[Qat.mp h];exact e
 |i+1,s,h=>by
  rcases(GC _ _).mp h with z|z
  .exact Ze1 e F i s z
  .grind
theorem gq(nx:Ad)(b j:Nat):∀d,∃r,xa nx b (j+d)=xa nx b j++r
 |0=>⟨[],(Qbp _).symm⟩
 |d+1=>by
  obtain⟨r,e⟩:=gq nx b j d;obtain⟨z,e2⟩:=Jz _ (xa nx b _);refine⟨r++z,?_⟩;show Zh9 nx (xa nx b (j+d)) _=_;unfold Zh9;rw[e2,e,Qb7]
def bfs_at{nx:Ad}{b j:Nat}(F:j<i)(z:j<(xa nx b j).length):(xa nx b i)[j]?=some ((xa nx b j).getD j 0):=by
 obtain⟨r,e⟩:=gq nx b j _;rw[show j+(i-j)=i by lia]at e;rw[e,Qbe z,Qal,Qac z];rfl
def map_range{β:Type}(l:List m)(i:Nat)(e:l.length=i)(f:m->β)(g:Nat->β)(h:∀j a,l[j]?=some a->g j=f a):(List.range i).map g=l.map f:=by
 refine Qee λj=>?_
 by_cases z:j<i
 .grind
 .grind
theorem jS{H':Hp}(h:∀b xs,H b=some (.tup xs)->H' b=some (.tup xs))(z:Xw H u O):Xw H' u O:=⟨z.1,λi r e=>by
 obtain⟨a,h1,h2⟩:=z.2 i r e;exact⟨a,h1,h _ _ h2⟩⟩
inductive SK(κ:Type)[DecidableEq κ]where
 |int (f:κ->Int) (inj:∀a b,f a=f b->a=b)
 |key (kn:KN κ)
def Yv(h:n<=10000000):n<sizeLine:=Qd1 h (by decide)
section
variable {κ:Type}[DecidableEq κ]
def SK.at_:SK κ->Hp->κ->V->Prop
 |.int f _,_,k,v=>v=.int (f k)
 |.key kn,H,k,v=>∃a,v=.ref a/\kn.at_ H k a
def SK.dic:SK κ->Hp->Addr->List κ->Prop
 |.int f _,H,d,l=>H d=some (.dK (nk (l.map f)))
 |.key kn,H,d,l=>qX kn H d (XW l)
def SK.keep{sk:SK κ}{H H':Hp}{k:κ}{v:V}(h:sk.at_ H k v)(e:∀b xs,H b=some (.tup xs)->H' b=some (.tup xs)):sk.at_ H' k v:=by
 cases sk with
 |int f _=>exact h
 |key kn=>
  obtain⟨a,rfl,z⟩:=h;exact⟨a,U,kn.keep _ _ _ _ e z⟩
def Ze2{kn:KN κ}{d:Aw}{kvs:List (κ×V)}(n:qX kn H d kvs):∃o,H d=some o/\(∀xs,o≠.tup xs)/\∀xs,o≠.lst xs:=by
 rcases n.2.2 with⟨_,e⟩|⟨ys,e,_⟩
 .grind
 .grind
def SK.ne{sk:SK κ}{d:Aw}{l:List κ}(h:sk.dic H d l):∃o,H d=some o/\(∀xs,o≠.tup xs)/\∀xs,o≠.lst xs:=by
 cases sk with
 |int f _=>exact⟨_,h,(λ_ z=>nomatch z),λ_ z=>nomatch z⟩
 |key kn=>exact Ze2 h
def SK.stay{sk:SK κ}{H':Hp}{d:Aw}{l:List κ}(h:sk.dic H d l)(z:∀o,H d=some o->H' d=some o)(e:∀b xs,H b=some (.tup xs)->H' b=some (.tup xs)):sk.dic H' d l:=by
 cases sk with
 |int f _=>exact z _ h
 |key kn=>exact(by
    obtain⟨F,G,I⟩:=h;refine⟨F,G,?_⟩;rcases I with⟨e1,e2⟩|⟨ys,e1,e2⟩
    .exact .inl ⟨e1,z _ e2⟩
    .exact .inr ⟨ys,z _ e1,Paired.mapP e2 λp q h=>⟨h.1,kn.keep _ _ _ _ e h.2.1,h.2.2⟩⟩)
def SK.off{sk:SK κ}{d:Aw}{l:List κ}{xs:A2}{o:HO}(h:sk.dic H d l)(e:H f=some (.lst xs)):sk.dic (upd H f o) d l:=by
 obtain⟨u,I,_,G⟩:=SK.ne h;have F:d≠f:=λz=>by
  grind
 exact SK.stay h (λo e=>by rw[Zj F];exact e) λb ys q=>by rw[Zj (YQ q e λz=>nomatch z)];exact q
def StA(sk:SK κ)(H:Hp)(l:List κ)(vs:A2):Prop:=vs.length=l.length/\∀(i:Nat)(k:κ),l[i]?=some k->∃v,vs[i]?=some v/\sk.at_ H k v
theorem StA.keep{sk:SK κ}{H H':Hp}{l:List κ}{vs:A2}(h:StA sk H l vs)(e:∀b xs,H b=some (.tup xs)->H' b=some (.tup xs)):StA sk H' l vs:=⟨h.1,λi k z=>by
 obtain⟨v,h1,h2⟩:=h.2 i k z;exact⟨v,h1,SK.keep h2 e⟩⟩
def StA.snoc{sk:SK κ}{l:List κ}{vs:A2}{k:κ}{v:V}(h:StA sk H l vs)(G:sk.at_ H k v):StA sk H (l++[k]) (vs++[v]):=by
 refine⟨by rw[Qar,Qar,h.1];rfl,λi q z=>?_⟩
 by_cases e:i<l.length
 .rw[Qbe e]at z;rw[Qbe (by rw[h.1];exact e)];exact h.2 i q z
 .rw[Qa1 (by lia)]at z;have F:i-l.length=0:=by
   grind
  rw[F]at z;cases z;refine⟨v,?_,G⟩;rw[Qa1 (by rw[h.1];lia),h.1,F];rfl
def StA.one{sk:SK κ}{k:κ}{v:V}(z:sk.at_ H k v):StA sk H [k] [v]:=StA.snoc (l:=[]) (vs:=[]) ⟨U,λi q e=>by cases e⟩ z
def bfS(nx:κ->List κ)(l:List κ)(i:Nat):List κ:=match l[i]? with
 |some s=>(nx s).foldl Yw l
 |none=>l
def bfN(nx:κ->List κ)(b:κ):Nat->List κ
 |0=>[b]
 |i+1=>bfS nx (bfN nx b i) i
structure BfE(nx:κ->List κ)(b:κ)(l:List κ):Prop where
 e:l=bfN nx b l.length
 go:∀i,i<l.length->i<(bfN nx b i).length
theorem zB(r:List κ):∀l:List κ,l.Nodup->(r.foldl Yw l).Nodup:=by
 induction r with
 |nil=>exactλl h=>h
 |cons k r e=>exactλl h=>e _ (Wd h k)
theorem zC(r:List κ){x:κ}:∀l:List κ,x∈r.foldl Yw l↔x∈l\/x∈r:=by
 induction r with
 |nil=>intro l;simp
 |cons k r e=>
  intro l;rw[Qec,e,XD,Qas,or_assoc]
theorem Ze3(r:List κ):∀l:List κ,(r.foldl Yw l).length<=l.length+r.length:=by
 induction r with
 |nil=>exactλl=>Qaj _
 |cons k r e=>
  intro l;have h1:=e (Yw l k);have h2:=xu l k;rw[Qec,Qbj];lia
variable {nx:κ->List κ}{b:κ}
theorem GD:∀i,(bfN nx b i).Nodup
 |0=>Qbu.mpr ⟨Qbk,Qcj⟩
 |i+1=>by
  show(bfS nx _ i).Nodup;unfold bfS;split
  .exact zB _ _ (GD i)
  .exact GD i
theorem Ze4{Ua:List κ}(e:b∈Ua)(F:∀s∈Ua,∀x∈nx s,x∈Ua):∀i,∀s∈bfN nx b i,s∈Ua
 |0,s,h=>by rw[Qat.mp h];exact e
 |i+1,s,h=>by
  have h:s∈bfS nx _ i:=h;unfold bfS at h;split at h
  .rename_i q G;rcases(zC _ _).mp h with z|z
   .exact Ze4 e F i s z
   .exact F q (Ze4 e F i q (Qam G)) s z
  .exact Ze4 e F i s h
def Ze5{Ua:List κ}(e:b∈Ua)(z:∀s∈Ua,∀x∈nx s,x∈Ua)(i:Nat):(bfN nx b i).length<=Ua.length:=Xx (GD i) (Ze4 e z i)
def yL{s:κ}(h:(bfN nx b i)[i]?=some s):bfN nx b (i+1)=(nx s).foldl Yw (bfN nx b i):=by
 show bfS nx _ i=_;unfold bfS;rw[h]
theorem uI(j:Nat):∀d,∃r,bfN nx b (j+d)=bfN nx b j++r
 |0=>⟨[],(Qbp _).symm⟩
 |d+1=>by
  obtain⟨r,e⟩:=uI j d;show∃r,bfS nx (bfN nx b (j+d)) _=_;unfold bfS;split
  .obtain⟨z,e2⟩:=Jz (nx _) _;exact⟨r++z,by rw[e2,e,Qb7]⟩
  .exact⟨r,e⟩
def Zo6{j:Nat}{s:κ}(F:j<=i)(z:(bfN nx b j)[j]?=some s):(bfN nx b i)[j]?=some s:=by
 obtain⟨r,e⟩:=uI (b:=b) j _;rw[show j+(i-j)=i by lia]at e;rw[e,Qbe (Qae.mp z).1];exact z
def rowG(nx:κ->List κ)(b:κ)(j:Nat):Aj:=match (bfN nx b j)[j]? with
 |some s=>(nx s).map λx=>(bfN nx b (j+1)).idxOf x
 |none=>[]
def jn(nx:κ->List κ)(b:κ)(i:Nat):Az:=(List.range i).map λj=>jQ (rowG nx b j)
def Zpk(nx:κ->List κ)(ot:κ->List V)(b:κ)(j:Nat):A2:=match (bfN nx b j)[j]? with
 |some s=>ot s
 |none=>[]
def yM(nx:κ->List κ)(ot:κ->List V)(b:κ)(i:Nat):Az:=(List.range i).map (Zpk nx ot b)
def Za1{s:κ}(h:(bfN nx b i)[i]?=some s):jn nx b (i+1)=jn nx b i++[((nx s).map λx=>Y9 ((bfN nx b (i+1)).idxOf x))]:=by
 unfold jn;rw[Qff,Qa6];show _++[jQ _]=_;unfold rowG jQ;rw[h];rw[Qay];rfl
def Za2{ot:κ->List V}{s:κ}(h:(bfN nx b i)[i]?=some s):yM nx ot b (i+1)=yM nx ot b i++[ot s]:=by
 unfold yM;rw[Qff,Qa6];show _++[Zpk nx ot b i]=_;unfold Zpk;rw[h]
def rnG(nx:κ->List κ)(l:List κ):Ad:=l.map λs=>(nx s).map λx=>l.idxOf x
def zD(nx:κ->List κ)(l:List κ):(rnG nx l).length=l.length:=Qab _
def gr{j:Nat}{a:κ}(I:(bfN nx b i).length=i)(G:∀j,j<i->j<(bfN nx b j).length)(F:(bfN nx b i)[j]?=some a):j<i/\(bfN nx b j)[j]?=some a:=by
 have z:j<i:=by grind
 refine⟨z,?_⟩;have e:=Qac (G j z);rw[Zo6 (Qaw z) e]at F;rw[e];exact F
def Ze6(z:(bfN nx b i).length=i)(I:∀j,j<i->j<(bfN nx b j).length):jn nx b i=(rnG nx (bfN nx b i)).map jQ:=by
 unfold jn rnG;rw[Qay];refine map_range _ i z _ _ λj a F=>?_;obtain⟨J,e⟩:=gr z I F;unfold rowG;rw[e];congr 1;refine Qbo λx G=>?_;obtain⟨r,e2⟩:=uI (b:=b) _ _;rw[show j+1+(i-(j+1))=i by lia]at e2;rw[e2,xX];rw[yL e];exact(zC _ _).mpr (.inr G)
def Ze7{ot:κ->List V}(z:(bfN nx b i).length=i)(F:∀j,j<i->j<(bfN nx b j).length):yM nx ot b i=(bfN nx b i).map ot:=by
 refine map_range _ i z _ _ λj a G=>?_;obtain⟨I,e⟩:=gr z F G;unfold Zpk;rw[e]
end
def SqF(H1 H2:Hp)(r:Aw)(e:A2):Prop:=H2 r=some (.tup e)\/(H2 r=some (.lst e)/\H1 r=none)
def Zia{xs:A2}{is:Aj}{Q:VK}(F:∀R:VK,R (.ref a) H->d c H R)(z:H a=some (.tup xs)\/H a=some (.lst xs))(e:Nat->List V->Hp->Prop)(J:e 0 [] H)(I:∀i zs H,e i zs H->zs.length<=sizeLine)(Ua:∀i zs H',e i zs H'->∀o,H a=some o->H' a=some o)
  (O:∀i x zs H (R:A2->Hp->Prop),(∀zs H,e (i+1) zs H->R zs H)->xs[i]?=some x->e i zs H->L (xK is c (some x)) H λb H2=>if b=true then Z (xK is c (some x)) H2 λy Y=>R (zs++[y]) Y else R zs H2)
  (G:∀zs H,e xs.length zs H->∀p,H p=none->Q (.ref p) (upd H p (.lst zs))):Zgt K d c H (Gp is L Z c Q)\/iTup K d c H (Gp is L Z c Q):=by
 rcases z with z|z
 .exact .inr (F _ ⟨a,U,⟨_,SqT.of z⟩,Jx e J I (λi zs H' h=>SqT.of (Ua i zs H' h _ z)) O G⟩)
 .exact .inl (F _ ⟨a,U,⟨_,SqL.of z⟩,XZ e J I (λi zs H' h=>SqL.of (Ua i zs H' h _ z)) O G⟩)
def GF:A2->List Int
 |[]=>[]
 |.int z::r=>((Builtin.Int.intBits z:Nat):Int)::GF r
 |_::r=>GF r
theorem kD:∀e:A2,(GF e).length<=e.length
 |[]=>Qaj _
 |w::r=>by
  have:=kD r;cases w<;>simp[GF]<;>lia
theorem zE:∀(a b:A2),GF (a++b)=GF a++GF b
 |[],_=>rfl
 |w::r,b=>by
  have:=zE r b;cases w<;>simp[GF,this]
theorem zF{z:Int}:∀{e:A2},V.int z∈e->((Builtin.Int.intBits z:Nat):Int)∈GF e
 |w::r,h=>by
  rcases Qas.mp h with rfl|h
  .exact Qah
  .have:=zF h;cases w<;>skip<;>first|exact this|exact Qai _ this
theorem uJ{m:Int}:∀{e:A2},m∈GF e->∃z:Int,V.int z∈e/\m=((Builtin.Int.intBits z:Nat):Int)
 |w::r,h=>by
  have go:m∈GF r->∃z:Int,V.int z∈w::r/\m=((Builtin.Int.intBits z)):=λh=>let⟨z,h1,h2⟩:=uJ h;⟨z,Qai _ h1,h2⟩;cases w with
  |int z=>
   rcases Qas.mp h with rfl|h
   .exact⟨z,Qah,U⟩
   .exact go h
  |_=>exact go h
theorem bits_le{B:Nat}(h:0<=z)(G:z<2^B):Builtin.Int.intBits z<=B:=by
 unfold Builtin.Int.intBits;split
 .exact Qbl _
 .rename_i e;obtain⟨n,rfl⟩:=Int.eq_ofNat_of_zero_le h;have F:n≠0:=λq=>e (by rw[q];rfl);exact(Nat.log2_lt F).mpr (by grind)
theorem Zki:∀(bs:Ak)(l:Nat),(∀b∈bs,b=0\/b=1)->bt (hor bs.reverse) l=bs.getD l 0
 |[],l,_=>zw l
 |b::r,l,h=>by
  rw[Qcx,yI];have e:=h b Qah;cases l with
  |zero=>
   unfold bt;show _=b;lia
  |succ l=>
   rw[YN,show(hor _*2+b)/2=hor r.reverse by lia,Zki r l λb e=>h b (Qai _ e)];rfl
def Xa(L:Nat)(ys:Ai)(y:Str):Int:=hor ((List.range L).map λl:Nat=>bt (l:Int) (ys.idxOf y)).reverse
def Xq[DecidableEq m]{l:List m}{x:m}(e:l.Nodup)(h:l[i]?=some x):l.idxOf x=i:=by grind
def Zib{L:Nat}{ys:Ai}{l:Nat}{y:Str}(z:ys.Nodup)(h:ys[i]?=some y)(F:l<L):bt (Xa L ys y) l=bt (l:Int) i:=by
 unfold Xa;rw[Xq z h,Zki _ _ λb e=>by
  obtain⟨c,_,rfl⟩:=Qau.mp e;exact YD _ _]
 rw[Qal,Qag,Qdv F];rfl
def lgB:A2->Nat
 |[]=>0
 |.int z::r=>max (Builtin.Int.intBits z) (lgB r)
 |_::r=>lgB r
theorem Ze8{z:Int}:∀{e:A2},V.int z∈e->Builtin.Int.intBits z<=lgB e
 |w::r,h=>by
  rcases Qas.mp h with rfl|h
  .exact Nat.le_max_left _ _
  .have:=Ze8 h;cases w<;>simp[lgB]<;>lia
theorem Ze9:∀F:A2,lgB F=0\/∃z:Int,V.int z∈F/\lgB F=Builtin.Int.intBits z
 |[]=>.inl U
 |w::r=>by
  have go:(lgB _=lgB r)->lgB _=0\/∃z:Int,V.int z∈w::r/\lgB (w::r)=Builtin.Int.intBits z:=λe=>by
   rw[e];rcases Ze9 r with h|⟨z,h1,h2⟩
   .exact .inl h
   .grind
  cases w with
  |int z=>
   by_cases h:lgB r<=Builtin.Int.intBits z
   .exact .inr ⟨z,Qah,Nat.max_eq_left h⟩
   .exact go (Nat.max_eq_right (by lia))
  |_=>exact go U
def Zkj{L:Nat}(h1:∀z:Int,V.int z∈u->Builtin.Int.intBits z<=L)(h2:L=0\/∃z:Int,V.int z∈u/\L=Builtin.Int.intBits z):L=lgB u:=by
 refine Nat.le_antisymm ?_ ?_
 .rcases h2 with h|⟨z,e,h⟩
  .lia
  .rw[h];exact Ze8 e
 .rcases Ze9 u with h|⟨z,e,h⟩
  .lia
  .rw[h];exact h1 z e
def JZ(e:A2):Nat:=(e.filter λw=>inV w (allR.map V.str)).length
def Zny(nm:Ai)(cols:Str->Int)(e:A2)(s:Int×Ak):Ak×Ak:=XF nm cols s.1.toNat s.2 e
def nxT(nm:Ai)(cols:Str->Int)(e:A2)(L:Nat)(s:Int×Ak):List (Int×Ak):=(List.range (2^nm.length)).map λl=>(min (s.1+1) (L:Int),(Zny nm cols e s).2.map λc=>bt c l)
def otT(nm:Ai)(cols:Str->Int)(F:A2)(e z:V)(s:Int×Ak):A2:=(List.range (2^nm.length)).map λl=>if bt ((Zny nm cols F s).1.getD 0 0) l=1 then z else e
def Znz(e:Aw)(H H':Hp):Prop:=∀b o,H b=some o->b≠e->H' b=some o
def Zmw(H:Hp)(k:Int×Ak)(a:Aw):Prop:=∃t,H a=some (.tup [.int k.1,.ref t])/\H t=some (.tup (k.2.map V.int))
def Zmw.bits{k:Int×Ak}(h:Zmw H k a):Zd2 H k a:=by
 obtain⟨t,h1,h2⟩:=h;refine⟨t,h1,_,h2,?_⟩;rw[Qay];rfl
def knQ:KN (Int×Ak)where
 knd:=knP.knd
 hsh:=knP.hsh
 at_:=Zmw
 hash_eq:=knP.hash_eq
 ok:=λP w H h k a ok b=>knP.ok P w H h k a ok b.bits
 room:=knP.room
 room0:=knP.room0
 keep:=λH H' k a z ⟨t,e,e2⟩=>⟨t,z _ _ e,z _ _ e2⟩
def xb:Nat->List (Ak)
 |0=>[[]]
 |n+1=>(xb n).map (List.cons 0)++(xb n).map (List.cons 1)
theorem kE:∀n,(xb n).length=2^n
 |0=>rfl
 |n+1=>by
  show((xb n).map _++(xb n).map _).length=_;rw[Qar,Qab,Qab,kE n];lia
theorem Xj:∀{n:Nat} {ks:Ak},ks∈xb n↔ks.length=n/\∀x∈ks,x=0\/x=1
 |0,ks=>by
  constructor
  .intro h;rw[Qat.mp h];exact⟨U,λx e=>by cases e⟩
  .rintro⟨h,_⟩;rw[Qcd h];exact Qat.mpr U
 |n+1,ks=>by
  show ks∈(xb n).map _++(xb n).map _↔_;rw[Qb2,Qau,Qau];constructor
  .rintro(⟨r,z,rfl⟩|⟨r,z,rfl⟩)
   .obtain⟨h1,h2⟩:=Xj.mp z;refine⟨by grind,λx e=>?_⟩;rcases Qas.mp e with rfl|e
    .exact .inl U
    .exact h2 x e
   .obtain⟨h1,h2⟩:=Xj.mp z;refine⟨by grind,λx e=>?_⟩;rcases Qas.mp e with rfl|e
    .exact .inr U
    .exact h2 x e
  .rintro⟨h1,h2⟩;cases ks with
   |nil=>cases h1
   |cons x r=>
    have z:=Xj.mpr ⟨by simpa using h1,λy F=>h2 y (Qai _ F)⟩;rcases h2 x Qah with rfl|rfl
    .exact .inl ⟨r,z,U⟩
    .exact .inr ⟨r,z,U⟩
def uni(e:Nat):Nat->List (Int×Ak)
 |0=>[]
 |n+1=>uni e n++(xb e).map λks=>((n:Int),ks)
theorem yN(e:Nat):∀n,(uni e n).length=n*2^e
 |0=>by rw[Nat.zero_mul];rfl
 |n+1=>by
  show(uni e n++(xb e).map _).length=_;rw[Qar,Qab,yN e n,kE,Qhg]
theorem Ga{e:Nat}{s:Int×Ak}:∀{n:Nat},s∈uni e n↔∃p:Nat,p<n/\s.1=(p:Int)/\s.2∈xb e
 |0=>⟨(λh=>nomatch h),λ⟨p,h,_⟩=>absurd h (Qed _)⟩
 |n+1=>by
  show s∈uni e n++(xb e).map _↔_;rw[Qb2,Ga];constructor
  .grind
  .grind
def kF(w:V)(r:A2):JZ (w::r)=JZ r+if inV w (allR.map V.str)=true then 1 else 0:=by
 unfold JZ;rw[Qcv];split<;>rfl
theorem yO{ys:Ai}{cols:Str->Int}{pl:Nat}{kp:Ak}:∀F:A2,(∀w∈F,yF ys w)->(XF ys cols pl kp F).2.length=JZ F
 |[],_=>rfl
 |w::r,hw=>by
  have e:=yO (cols:=cols) (pl:=pl) (kp:=kp) r λw h=>hw w (Qai _ h);rw[kF];rcases hw w Qah with⟨y,rfl,h1,_⟩|⟨y,rfl,h1,h2,G,_⟩|⟨y,rfl,h1,h2,_⟩|⟨z,rfl,_⟩
  .show(if y∈allR then _ else _:Ak×Ak).2.length=_;rw[Qa2 h1,ZD,Qan h1,Qar,e];rfl
  .show(if y∈allR then _ else if y∈ys then _ else _:Ak×Ak).2.length=_;rw[Qax h2,Qax G,ZD,Qaq h2];exact e
  .show(if y∈allR then _ else if y∈ys then _ else _:Ak×Ak).2.length=_;rw[Qax h2,Qa2 h1,ZD,Qaq h2];exact e
  .exact e
def yP{nm:Ai}{cols:Str->Int}{L:Nat}(hw:∀w∈u,yF nm w)(F:i=JZ u){s:Int×Ak}(G:s∈uni i (L+1)):∀x∈nxT nm cols u L s,x∈uni i (L+1):=by
 intro x z;obtain⟨l,_,rfl⟩:=Qau.mp z;obtain⟨p,h1,h2,I⟩:=Ga.mp G;refine Ga.mpr ⟨min (p+1) L,by lia,?_,Xj.mpr ⟨?_,λb e=>?_⟩⟩
 .grind
 .rw[Qab,F];exact yO u hw
 .obtain⟨c,_,rfl⟩:=Qau.mp e;exact YD c l
def Za3{H':Hp}(s:ZG (hide J H) H')(F:∀c∈J,H' c=none):ZG H (WC J H H')/\(∀t o,H' t=some o->WC J H H' t=some o)/\∀t o,H' t=some o->hide J H t=none->H t=none:=by
 have m:∀t o,H' t=some o->t∉J:=λt o e m=>by grind
 refine⟨λb o e=>?_,λt o e=>by rw[Yp (m t o e)];exact e,λt o e h=>by rw[ZA (m t o e)]at h;exact h⟩
 by_cases z:b∈J
 .rw[WZ z];exact e
 .rw[Yp z];exact s _ _ (by rw[ZA z];exact e)
def jT{H':Hp}{p:Aw}(R:G9 H p O)(e:∀b xs,H b=some (.tup xs)->H' b=some (.tup xs)):G9 H' p O:=by
 obtain⟨as,h1,h2,z⟩:=R;refine⟨as,e _ _ h1,h2,λi r hi=>?_⟩;obtain⟨a,F,g2⟩:=z i r hi;exact⟨a,F,e _ _ g2⟩
def Zfa{B:Nat}(F:∀z:Int,V.int z∈u->0<=z/\z<2^B):lgB u<=B:=by
 rcases Ze9 u with h|⟨z,e,h⟩
 .lia
 .rw[h];exact bits_le (F z e).1 (F z e).2
theorem lgB_lt(h:V.int z∈u)(e:0<=z):z<2^lgB u:=Int.lt_of_lt_of_le (by
       unfold Builtin.Int.intBits;split
       . grind
       . obtain⟨n,rfl⟩:=Int.eq_ofNat_of_zero_le e;have:=Nat.lt_log2_self (n:=n)
         exact_mod_cast this) (Zek (Ze8 h))
def uK:∀y∈allR,y∈ZN:=by decide +kernel
def uL:∀y∈G7,y∉allR->y∈Zes/\npw (.str y)=Zeq y:=by decide +kernel
def Zmx:∀y∈allR,y∈G7->1<=npw (.str y)/\(y∈Zmq->2<=npw (.str y)):=by decide +kernel
def uM{ys:Ai}{B:Nat}{w:V}(G:∀y∈ys,y∉ZN)(h:k6 ys B w):yF ys w:=by
 rcases h with⟨y,rfl,h1,h2,F⟩|⟨y,rfl,h1,h2,F⟩|⟨z,rfl,I,_,F⟩
 .by_cases e:y∈allR
  .exact .inl ⟨y,U,e,h2,Zmx y e h1⟩
  .exact .inr (.inl ⟨y,U,(uL y h1 e).1,e,h2,(uL y h1 e).2⟩)
 .exact .inr (.inr (.inl ⟨y,U,h1,λz=>G y h1 (uK y z),F⟩))
 .exact .inr (.inr (.inr ⟨z,U,I,F⟩))
def Zfb{xs:A2}(e:n<=xs.length)(h1:1<=n):Zk3 xs none (some (-(n:Int)))=xs.take (xs.length-n):=by
 unfold Zk3;simp[HT.sIx];rw[Qa2 (by lia),show(-(n:Int)+xs.length).toNat=xs.length-n by lia];simp
def wD(ls:Aj)(ys:Ai)(y:Str):Int:=sm (λk=>bt ((ls.getD k 0:Nat):Int) (ys.idxOf y)) ls.length
def Zmy{ls:Aj}{ys:Ai}{k l:Nat}{y:Str}(z:ys.Nodup)(h:ys[i]?=some y)(e:ls[k]?=some l):bt (wD ls ys y) k=bt (l:Int) i:=by
 unfold wD;rw[Xq z h];have:=uF (b:=λk=>bt ((ls.getD k 0)) i) (λ_=>YD _ _) k _ (Qae.mp e).1;rw[Qal,e]at this;exact this
structure Runs(nx:Ad)(ot:Az)(n:Nat):Prop where
 pos:0<nx.length
 ol:ot.length=nx.length
 nr:∀r∈nx,r.length=2^n
 nl:∀r∈nx,∀s∈r,s<nx.length
 or:∀r∈ot,r.length=2^n
def stN(nx:Ad):Nat->List Nat->Nat
 |s,[]=>s
 |s,c::r=>stN nx ((nx.getD s []).getD c 0) r
def rnO(nx:Ad)(ot:Az):Nat->List Nat->List V
 |_,[]=>[]
 |s,c::r=>(ot.getD s []).getD c .non::rnO nx ot ((nx.getD s []).getD c 0) r
theorem uN(nx:Ad):∀(s:Nat)(ls:Aj)(c:Nat),stN nx s (ls++[c])=(nx.getD (stN nx s ls) []).getD c 0
 |_,[],_=>rfl
 |s,d::r,c=>uN nx _ r c
theorem uO(nx:Ad)(ot:Az):∀(s:Nat)(ls:Aj)(c:Nat),rnO nx ot s (ls++[c])=rnO nx ot s ls++[(ot.getD (stN nx s ls) []).getD c .non]
 |_,[],_=>rfl
 |s,d::r,c=>congrArg _ (uO nx ot _ r c)
theorem gu(nx:Ad)(ot:Az):∀(s:Nat)(ls:Aj),(rnO nx ot s ls).length=ls.length
 |_,[]=>rfl
 |s,d::r=>congrArg _ (gu nx ot _ r)
def getD_at{l:List m}{d:m}(h:i<l.length):l[i]?=some (l.getD i d):=by grind
section
variable {κ:Type}[DecidableEq κ]{nx:κ->List κ}{b:κ}{l:List κ}
def Zfc{x:κ}(h:x∈l):l[l.idxOf x]?=some x:=by grind
def BfE.len(B:BfE nx b l):(bfN nx b l.length).length=l.length:=by rw[<-B.e]
def BfE.here(B:BfE nx b l){j:Nat}{s:κ}(h:l[j]?=some s):j<l.length/\(bfN nx b j)[j]?=some s:=gr B.len B.go (by rw[<-B.e];exact h)
def BfE.sub(B:BfE nx b l){j:Nat}(z:j<=l.length){x:κ}(h:x∈bfN nx b j):x∈l:=by
 obtain⟨r,e⟩:=uI (b:=b) j _;rw[show j+(l.length-j)=l.length by lia,<-B.e]at e;rw[e];exact Qc0 _ h
def BfE.begin(B:BfE nx b l):l[0]?=some b/\b∈l:=by
 have z:=B.sub (Qbl _) (Qat.mpr U);have e:=Zo6 (nx:=nx) (i:=l.length) (Qbl _) (s:=b) rfl;rw[<-B.e]at e;exact⟨e,z⟩
def BfE.next(B:BfE nx b l){s x:κ}(h:s∈l)(e:x∈nx s):x∈l:=by
 obtain⟨j,z⟩:=Qc9.mp h;obtain⟨h1,h2⟩:=B.here z;refine B.sub h1 ?_;rw[yL h2];exact(zC _ _).mpr (.inr e)
def BfE.nodup(B:BfE nx b l):l.Nodup:=by
 rw[B.e];exact GD _
def ixG(l:List κ)(x:κ):Nat:=l.idxOf x
def BfE.zero(B:BfE nx b l):ixG l b=0:=Xq B.nodup B.begin.1
def rnG_at(h:∀s∈l,∀x∈nx s,x∈l){s:κ}(e:s∈l):(rnG nx l).getD (ixG l s) []=(nx s).map λx=>ixG l x:=by
 unfold rnG ixG;rw[Qal,Qag,Zfc e];rfl
def Zmz{ot:κ->List V}{s:κ}(e:s∈l):(l.map ot).getD (ixG l s) []=ot s:=by
 unfold ixG;rw[Qal,Qag,Zfc e];rfl
end
abbrev nxS(nm:Ai)(e:A2):Int×Ak->List (Int×Ak):=nxT nm (Xa (2^nm.length) nm) e (lgB e)
def Zm0(nm:Ai)(cols:Str->Int)(e:A2)(L:Nat)(s:Int×Ak):(nxT nm cols e L s).length=2^nm.length:=by
 unfold nxT;rw[Qab,Qa3]
def Zm1(nm:Ai)(cols:Str->Int)(F:A2)(e z:V)(s:Int×Ak):(otT nm cols F e z s).length=2^nm.length:=by
 unfold otT;rw[Qab,Qa3]
section
variable {κ:Type}[DecidableEq κ]{nx:κ->List κ}{b:κ}{l:List κ}
def Zm2(B:BfE nx b l)(G:∀s,(nx s).length=n):(∀r∈rnG nx l,r.length=n)/\∀r∈rnG nx l,∀s∈r,s<(rnG nx l).length:=by
 constructor
 .intro r e;obtain⟨s,_,rfl⟩:=Qau.mp e;rw[Qab,G]
 .intro r e x I;obtain⟨s,F,rfl⟩:=Qau.mp e;obtain⟨y,z,rfl⟩:=Qau.mp I;rw[zD];exact Qbi (B.next F z)
end
def yQ{H':Hp}{xs:A2}(h:SqL K H a xs)(s:ZG H H'):SqL K H' a xs:=by
 rcases h with h|h
 .rcases h with h|⟨u,h⟩
  .exact .inl (.inl (s _ _ h))
  .exact .inl (.inr ⟨u,s _ _ h⟩)
 .exact .inr h
def Zic(ys:Ai)(f:Str->Int)(w:Nat):∃ls:Aj,((List.range w).map λk=>V.int (ltr ys f k))=ls.map Y9/\(∀l∈ls,l<2^ys.length)/\ls.length=w:=by
 have e:∀k,0<=ltr ys f k/\ltr ys f k<2^ys.length:=λk=>xy (λi=>Zo5 _ _) _;refine⟨(List.range w).map λk=>(ltr ys f k).toNat,?_,λl z=>?_,by simp⟩
 .rw[Qay];refine Qbo λk _=>?_;show V.int _=V.int _;rw[Int.toNat_of_nonneg (e k).1]
 .grind
def neA(x y:Int)(k:Nat):Int:=if lo x k=lo y k then 0 else 1
def Zkk(x y:Int)(k:Nat):neA x y k=0\/neA x y k=1:=by
 unfold neA;split
 .exact .inl U
 .exact .inr U
def Zid(x y:Int):neA x y 0=0:=by
 unfold neA lo;rw[Qdj,Qfw,Qfw];rfl
def Zie(x y:Int)(k:Nat):neA x y (k+1)=1-(1-(bt x k+bt y k)%2)*(1-neA x y k):=by
 have e1:=zy x k;have e2:=zy y k;have b1:=jm x k;have b2:=jm y k;unfold neA;rcases YD x k with a|a<;>rcases YD y k with b|b<;>rw[a]at e1 ⊢ <;> rw[b]at e2 ⊢ <;> by_cases h:lo x k=lo y k
 all_goals first
  |rw[Qa2 h,Qa2 (by lia)];rfl
  |rw[Qax h,Qax (by lia)];rfl
  |rw[Qa2 h,Qax (by lia)];rfl
def sgA(x:Int)(k:Nat):Int:=lo x k-2^k*bt x k
def bnA(x y:Int)(k:Nat):Int:=if sgA x k<sgA y k then 1 else 0
def bnA_01(x y:Int)(k:Nat):bnA x y k=0\/bnA x y k=1:=by
 unfold bnA;split
 .exact .inr U
 .exact .inl U
def bnA_br(x y:Int)(k:Nat):bnA x y k=1-(1-(1-bt y k)*bt x k)*(1-brA x y k*(1-(bt y k+bt x k)%2)):=by
 have b1:=jm x k;have b2:=jm y k;unfold bnA sgA brA;rcases YD x k with a|a<;>rcases YD y k with b|b<;>rw[a,b]<;>by_cases h:lo x k<lo y k
 all_goals first
  |rw[Qa2 h,Qa2 (by lia)];rfl
  |rw[Qax h,Qax (by lia)];rfl
  |rw[Qa2 h,Qax (by lia)];rfl
  |rw[Qax h,Qa2 (by lia)];rfl
def Za4(y:Str)(is:Ak)(k:Nat):Int:=
 if y = "twice" then tw (is.getD 0 0) k else if y = "neg" \/ y = "low" \/ y = "nought" then nzA (is.getD 0 0) k else if y = "same" then neA (is.getD 0 0) (is.getD 1 0) k else if y = "add" then cyA (is.getD 0 0) (is.getD 1 0) k else brA (is.getD 0 0) (is.getD 1 0) k
def Zm3(y:Str)(is:Ak)(k:Nat):Za4 y is k=0\/Za4 y is k=1:=by
 unfold Za4
 repeat' split
 .exact tw_01 _ _
 .exact Zep _ _
 .exact Zkk _ _ _
 .exact Zen _ _ _
 .exact k4 _ _ _
def Zfd(y:Str)(is:Ak):Za4 y is 0=0:=by
 unfold Za4
 repeat' split
 .rfl
 .exact Zh1 _
 .exact Zid _ _
 .exact ux _ _
 .exact uA _ _
def Zgn(y:Str)(bs:Ak)(h:Int):Int:=
 if y = "twice" then bs.getD 0 0 else if y = "neg" \/ y = "low" \/ y = "nought" then 1-(1-bs.getD 0 0)*(1-h)else if y = "same" then 1-(1-(bs.getD 0 0+bs.getD 1 0)%2)*(1-h)else if y = "add" then(bs.getD 0 0+bs.getD 1 0+h)/2 else 1-(1-(1-bs.getD 0 0)*bs.getD 1 0)*(1-h*(1-(bs.getD 0 0+bs.getD 1 0)%2))
def kH(y:Str)(is:Ak)(k:Nat):Za4 y is (k+1)=Zgn y (is.map λx=>bt x k) (Za4 y is k):=by
 unfold Za4 Zgn;rw[Jj,Jj]
 repeat' split
 .rfl
 .exact Zh2 _ _
 .exact Zie _ _ _
 .exact uy _ _ _
 .exact uB _ _ _
def Zo7(y:Str)(bs:Ak)(h:Int):Int:=
 if y = "add" \/ y = "sub" then(bs.getD 0 0+bs.getD 1 0+h)%2 else if y = "neg" then(bs.getD 0 0+h)%2 else if y = "twice" then h else if y = "low" then bs.getD 0 0*(1-h)
 else if y = "same" \/ y = "nought" then 1-Zgn y bs h else if y = "under" then Zgn y bs h else 1-(1-(1-bs.getD 1 0)*bs.getD 0 0)*(1-h*(1-(bs.getD 1 0+bs.getD 0 0)%2))
def kI(y:Str)(bs:Ak):Int:=
 if y = "yes" then 1 else if y = "sign" then bs.getD 0 0 else if y = "not" \/ y = "never" then 1-bs.getD 0 0 else if y = "and" \/ y = "both" then bs.getD 0 0*bs.getD 1 0 else if y = "or" \/ y = "either" then 1-(1-bs.getD 0 0)*(1-bs.getD 1 0)
 else if y = "odd" then(bs.getD 0 0+bs.getD 1 0)%2 else if y = "so" then 1-(1-(1-bs.getD 0 0))*(1-bs.getD 1 0)else 1-(1-bs.getD 0 0*bs.getD 1 0)*(1-(1-bs.getD 0 0)*bs.getD 2 0)
def Zkl(a b h:Int)(l:Nat):bt (Zo4 a b h) l=1-(1-(1-bt a l)*bt b l)*(1-bt h l*(1-(bt a l+bt b l)%2)):=by
 unfold Zo4;rw[qZ,YU,YU,G8,G8,zv]
def Zkm(y:Str)(is:Ak)(h:Int)(l:Nat):bt (ktI y is h) l=Zgn y (is.map λx=>bt x l) (bt h l):=by
 unfold Zgn ktI;rw[Jj,Jj]
 repeat' split
 .rfl
 .exact qZ l _ _
 .rw[qZ,zv]
 .rw[qZ,YU,YU,qZ];rcases YD _ l with a|a<;>rcases YD _ l with b|b<;>rcases YD h l with c|c<;>rw[a,b,c]<;>rfl
 .exact Zkl _ _ _ _
def okR_bt(y:Str)(is:Ak)(h:Int)(l:Nat):bt (okI y is h (ktI y is h)) l=Zo7 y (is.map λx=>bt x l) (bt h l):=by
 unfold Zo7 okI;rw[<-Zkm,Jj,Jj]
 repeat' split
 .rw[zv,zv];lia
 .exact zv l _ _
 .rfl
 .rw[YU,G8]
 .exact G8 l _
 .rfl
 .exact Zkl _ _ _ _
def Zkn(y:Str)(is:Ak)(l:Nat):bt (oaI y is) l=kI y (is.map λx=>bt x l):=by
 unfold kI oaI;rw[Jj,Jj,Jj]
 repeat' split
 .exact Zel l
 .rfl
 .exact G8 l _
 .exact YU l _ _
 .exact qZ l _ _
 .exact zv l _ _
 .rw[qZ,G8]
 .rw[qZ,YU,YU,G8]
def clB(y:Str)(is:Ak)(k:Nat):Int:=
 if y = "same" then 1-neA (is.getD 0 0) (is.getD 1 0) (k+1)else if y = "nought" then 1-nzA (is.getD 0 0) (k+1)else if y = "under" then brA (is.getD 0 0) (is.getD 1 0) (k+1)else if y = "beneath" then bnA (is.getD 0 0) (is.getD 1 0) k
 else kI y (is.map λx=>bt x k)
def once01(y:Str)(is:Ak)(k:Nat):kI y (is.map λx=>bt x k)=0\/kI y (is.map λx=>bt x k)=1:=by
 rw[<-Zkn];exact YD _ _
def uP(y:Str)(is:Ak)(k:Nat):clB y is k=0\/clB y is k=1:=by
 unfold clB
 repeat' split
 .have:=Zkk (is.getD 0 0) (is.getD 1 0) (k+1);lia
 .have:=Zep (is.getD 0 0) (k+1);lia
 .exact k4 _ _ _
 .exact bnA_01 _ _ _
 .exact once01 _ _ _
def rwR(W:Nat)(ρ:Str->Int)(w:V)(is:Ak):Int:=
 match w with
 |.str y=>if y∈Z6 then sm (clB y is) W else wwv ρ w is%2^W
 |_=>wwv ρ w is%2^W
def Gb(W:Nat)(ρ:Str->Int):A2->List Int
 |[]=>[]
 |w::r=>rwR W ρ w ((Gb W ρ r).take (npw w))::(Gb W ρ r).drop (npw w)
theorem uQ(W:Nat)(ρ:Str->Int):∀e:A2,(Gb W ρ e).length=uC e
 |[]=>rfl
 |w::r=>by
  show((Gb W ρ r).drop _).length+1=_;rw[Qdr,uQ W ρ r];rfl
def Za5:V->Bool
 |.str y=>decide (y∈allR)
 |_=>false
def zG(W:Nat)(ρ:Str->Int):A2->Nat->List Int
 |[],_=>[]
 |w::r,k=>zG W ρ r k++if Za5 w=true then[Za4 (Zgk w) ((Gb W ρ r).take (npw w)) k]else[]
def Zfe(ys:Ai)(ν:Str->Int)(pl:Nat)(kp:Ak):A2->List Int×Ak
 |[]=>([],[])
 |w::r=>
  let p:=Zfe ys ν pl kp r
  match w with
  |.str y=>
   if y∈allR then(Zo7 y (p.1.take (npw w)) (kp.getD p.2.length 0)::p.1.drop (npw w),p.2++[Zgn y (p.1.take (npw w)) (kp.getD p.2.length 0)])
   else if y∈ys then(ν y::p.1.drop (npw w),p.2)
   else(kI y (p.1.take (npw w))::p.1.drop (npw w),p.2)
  |.int z=>(bt z pl::p.1.drop (npw w),p.2)
  |_=>p
noncomputable def kJ{ys:Ai}{cols:Str->Int}{pl:Nat}{kp:Ak}(I:∀i:Nat,kp.getD i 0=0\/kp.getD i 0=1)(l:Nat):∀G:A2,
  (XF ys cols pl kp G).1.map (λx=>bt x l)=(Zfe ys (λy=>bt (cols y) l) pl kp G).1/\(XF ys cols pl kp G).2.map (λx=>bt x l)=(Zfe ys (λy=>bt (cols y) l) pl kp G).2
 |[]=>⟨U,U⟩
 |w::r=>by
  obtain⟨e1,e2⟩:=kJ (ys:=ys) (cols:=cols) (pl:=pl) I l r;have J:(XF ys cols pl kp r).2.length=(Zfe ys (λy=>bt (cols y) l) pl kp r).2.length:=by grind
  cases w with
  |str y=>
   show(if y∈allR then _ else if y∈ys then _ else _:Ak×Ak).1.map _=(if y∈allR then _ else if y∈ys then _ else _:Ak×Ak).1/\(if y∈allR then _ else if y∈ys then _ else _:Ak×Ak).2.map _=(if y∈allR then _ else if y∈ys then _ else _:Ak×Ak).2
   by_cases F:y∈allR
   .rw[Qa2 F,Qa2 F];constructor
    .show bt _ l::_=_::_;rw[okR_bt,gn (I _),Qej,Qe0,e1,J]
    .rw[Qa6,e2];show _++[bt _ l]=_;rw[Zkm,gn (I _),Qej,e1,J]
   .rw[Qax F,Qax F]
    by_cases e:y∈ys
    .rw[Qa2 e,Qa2 e];refine⟨?_,e2⟩;show bt _ l::List.map _ _=_::_;rw[Qe0,e1]
    .rw[Qax e,Qax e];refine⟨?_,e2⟩;show bt _ l::List.map _ _=_::_;rw[Zkn,Qej,Qe0,e1]
  |int z=>
   refine⟨?_,e2⟩;show bt _ l::List.map _ _=bt z pl::_;rw[Qe0,e1,gn (YD z pl)]
  |_=>exact⟨e1,e2⟩
def GG:∀y∈G7,y∉Z6:=by decide +kernel
def Zif{y:Str}(e:y∈jd)(is:Ak)(k:Nat):Za4 y is k=hld y is k:=by
 unfold jd at e;simp at e;rcases e with rfl|rfl|rfl|rfl|rfl<;>rfl
def Zig{y:Str}(e:y∈jd)(bs:Ak)(h:Int):Zo7 y bs h=ans1 y bs h:=by
 unfold jd at e;simp at e;rcases e with rfl|rfl|rfl|rfl|rfl<;>rfl
def Zff{y:Str}(e:y∈G7)(z:y∉jd)(bs:Ak):kI y bs=once y bs:=by
 rcases jP y e z with⟨rfl,_⟩|⟨rfl,_⟩|⟨rfl,_⟩|⟨rfl,_⟩|⟨rfl,_⟩<;>rfl
def Zfg:∀y∈Z6,y∈allR->y = "same" \/ y = "under" \/ y = "beneath" \/ y = "nought" :=by decide +kernel
def Za6:∀y∈Z6,y∉allR->¬y = "same" /\ ¬y = "under" /\ ¬y = "beneath" /\ ¬y = "nought" :=by decide +kernel
def Zih{f:Nat->Int}(e:∀i,f i=0\/f i=1){k W:Nat}(h:k<W):bt (sm f W) k=f k:=uF e k W h
def Zii(ρ:Str->Int){y:Str}{W k:Nat}(I:k<W)(G:y∈allR){is:Ak}(h:y∈Z6\/(y∈G7/\is.length=Y8 y)):Zo7 y (is.map λx=>bt x k) (Za4 y is k)=bt (rwR W ρ (.str y) is) k:=by
 rcases h with F|⟨e,J⟩
 .show _=bt (if y∈Z6 then _ else _) k;rw[Qa2 F,Zih (uP y is) I];have e:=kH y is k;rcases Zfg y F G with rfl|rfl|rfl|rfl
  .show 1-Zgn "same" _ _=1-neA _ _ _;rw[<-e];rfl
  .show Zgn "under" _ _=brA _ _ _;rw[<-e];rfl
  .show 1-(1-(1-List.getD _ 1 0)*List.getD _ 0 0)*(1-brA _ _ k*(1-(List.getD _ 1 0+List.getD _ 0 0)%2))=bnA _ _ k;rw[Jj,Jj,bnA_br]
  .show 1-Zgn _ _ _=1-nzA _ _;rw[<-e];rfl
 .have z:=(Zeu y e).mp G;show _=bt (if y∈Z6 then _ else _) k;rw[Qax (GG y e),Zig z,Zif z,ans_ok ρ z J,zx _ _ _ I]
def Zfh(ρ:Str->Int){y:Str}{W k:Nat}(J:k<W)(G:y∉allR){is:Ak}(h:y∈Z6\/(y∈G7/\is.length=Y8 y)):kI y (is.map λx=>bt x k)=bt (rwR W ρ (.str y) is) k:=by
 rcases h with F|⟨e,Y⟩
 .show _=bt (if y∈Z6 then _ else _) k;obtain⟨h1,h2,Ua,O⟩:=Za6 y F G;rw[Qa2 F,Zih (uP y is) J];unfold clB;rw[Qax h1,Qax O,Qax h2,Qax Ua]
 .have I:=λz=>G ((Zeu y e).mpr z)
  show _=bt (if y∈Z6 then _ else _) k;rw[Qax (GG y e),Zff e I,Zmp ρ e I Y,zx _ _ _ J]
def Za7(ys:Ai)(B:Nat)(w:V):Prop:=k6 ys B w\/∃y,w=.str y/\y∈Z6/\y∉ys
theorem Zij(W:Nat)(ρ:Str->Int)(e:A2)(k:Nat):(zG W ρ e k).length=(e.filter Za5).length:=by
 induction e with
 |nil=>rfl
 |cons w r z=>
  show(zG W ρ r k++_).length=_;rw[Qar,z,Qcv];split<;>rfl
theorem Zfi{ys:Ai}{B W k pl:Nat}{ρ:Str->Int}(hk:k<W)(hpl:pl=k\/(B<=pl/\B<=k))(O:∀y∈ys,y∉ZN)(kp:Ak):∀Y:A2,(∀w∈Y,Za7 ys B w)->Jk Y->(∃r,kp=zG W ρ Y k++r)->Zfe ys (λy=>bt (ρ y) k) pl kp Y=((Gb W ρ Y).map (λx=>bt x k),zG W ρ Y (k+1))
 |[],_,_,_=>rfl
 |w::r,hw,he,hkp=>by
  obtain⟨r0,hr0⟩:=hkp;have ih:=Zfi hk hpl O kp r (λw h=>hw w (Qai _ h)) he.2 ⟨_,by rw[hr0];show(_++_)++_=_;rw[Qb7]⟩;have htk:((Gb W ρ r).take (npw w)).length=npw w:=by rw[Qbg,uQ W ρ r];exact Nat.min_eq_left he.1
  have ml:=Zij W ρ r;have I:∀y,w=.str y->y∉ys->(y∈Z6\/(y∈G7/\npw w=Y8 y))->Zfe ys (λy=>bt (ρ y) k) pl kp (w::r)=((Gb W ρ (w::r)).map (λx=>bt x k),zG W ρ (w::r) (k+1)):=by
   rintro y rfl G J;have Z:y∈Z6\/(y∈G7/\((Gb W ρ r).take (npw (.str y))).length=Y8 y):=by grind
   by_cases Ua:y∈allR
   .have F:Za5 (.str y)=true:=Qan Ua;have hg:kp.getD (zG W ρ r (k+1)).length 0=Za4 y ((Gb W ρ r).take (npw (.str y))) k:=by
     have e:zG W ρ (.str y::r) k=zG W ρ r k++[Za4 y ((Gb W ρ r).take (npw (.str y))) k]:=by
      show _++(if Za5 (.str y)=true then _ else _)=_;rw[Qa2 F];rfl
     rw[hr0,e,ml,<-ml k,Qb7,Qal,Qa1 (Qaj _),Qfa];rfl
    show(if y∈allR then _ else _)=_;rw[Qa2 Ua,ih];rw[hg,<-Qej,Zii ρ hk Ua Z,<-kH];refine Prod.ext ?_ ?_
    .show _::_=bt _ k::((Gb W ρ r).drop _).map _;rw[Qe0]
    .show _=_++(if Za5 (.str y)=true then _ else _);rw[Qa2 F];rfl
   .have F:¬Za5 (.str y)=true:=λz=>Ua (Qbb z)
    show(if y∈allR then _ else if y∈ys then _ else _)=_;rw[Qax Ua,Qax G,ih];rw[<-Qej,Zfh ρ hk Ua Z];refine Prod.ext ?_ ?_
    .show _::_=bt _ k::((Gb W ρ r).drop _).map _;rw[Qe0]
    .show _=_++(if Za5 (.str y)=true then _ else _);rw[Qax F,Qbp]
  rcases hw w Qah with(⟨y,rfl,J,G,hp⟩|⟨y,rfl,J,hnr,hp⟩|⟨z,rfl,z0,z1,hp⟩)|⟨y,rfl,J,G⟩
  .exact I y U G (.inr ⟨J,hp⟩)
  .have hna:=λz=>O y J (uK y z)
   have F:¬Za5 (.str y)=true:=λz=>hna (Qbb z);show(if y∈allR then _ else if y∈ys then _ else _)=_;rw[Qax hna,Qa2 J,ih];refine Prod.ext ?_ ?_
   .show _::_=bt (if y∈Z6 then _ else _) k::((Gb W ρ r).drop _).map _;rw[Qax λz=>O y J (YZ y z),zx _ _ _ hk,hp,List.drop_zero];rfl
   .show _=_++(if Za5 (.str y)=true then _ else _);rw[Qax F,Qbp]
  .show(bt z pl::(Zfe ys _ pl kp r).1.drop _,(Zfe ys _ pl kp r).2)=_;rw[ih];have ez:bt z pl=bt z k:=by
    rcases hpl with h|⟨h1,h2⟩
    .rw[h]
    .rw[Zkc z0 z1 h1,Zkc z0 z1 h2]
   refine Prod.ext ?_ ?_
   .show bt z pl::_=bt (wwv ρ (.int z) _%2^W) k::((Gb W ρ r).drop _).map _;rw[zx _ _ _ hk,hp,ez];rfl
   .show _=_++(if Za5 (.int z)=true then _ else _);rw[Qax (λz=>nomatch z),Qbp]
  .exact I y U G (.inl J)
theorem jU{ys:Ai}{ν e:Str->Int}{pl:Nat}{kp:Ak}(h:∀y∈ys,ν y=e y):∀z:A2,Zfe ys ν pl kp z=Zfe ys e pl kp z
 |[]=>rfl
 |w::r=>by
  unfold Zfe;rw[jU h r];cases w with
  |str y=>
   by_cases F:y∈allR
   .simp[Qa2 F]
   .grind
  |_=>rfl
theorem uR{W:Nat}{ρ:Str->Int}{k:Nat}:∀{e:A2},∀x∈zG W ρ e k,x=0\/x=1
 |w::r,x,h=>by
  rcases Qb2.mp h with h|h
  .exact uR x h
  .split at h
   .rw[Qat.mp h];exact Zm3 _ _ _
   .cases h
def Zm4(W:Nat)(ρ:Str->Int)(z:A2)(k i:Nat):(zG W ρ z k).getD i 0=0\/(zG W ρ z k).getD i 0=1:=by
 rw[Qal];cases e:(zG W ρ z k)[i]? with
 |none=>exact .inl U
 |some x=>exact uR x (Qam e)
theorem kK(W:Nat)(ρ:Str->Int):∀e:A2,zG W ρ e 0=List.replicate (e.filter Za5).length 0
 |[]=>rfl
 |w::r=>by
  show zG W ρ r 0++_=_;rw[kK W ρ r,Qcv];split
  .rw[Zfd,Qbj,List.replicate_succ']
  .rw[Qbp]
theorem kL{ys:Ai}{B:Nat}:∀{F:A2},(∀w∈F,Za7 ys B w)->JZ F=(F.filter Za5).length
 |[],_=>rfl
 |w::r,h=>by
  rw[kF,kL (λv G=>h v (Qai _ G)),Qcv];have e:inV w (allR.map V.str)=Za5 w:=by
   rcases h w Qah with(⟨y,rfl,_⟩|⟨y,rfl,_⟩|⟨z,rfl,_⟩)|⟨y,rfl,_⟩
   .exact ZD _ _
   .exact ZD _ _
   .exact gm z _
   .exact ZD _ _
  rw[e];split<;>rfl
def zH{nm:Ai}{ls:Aj}{W k c:Nat}(hnd:nm.Nodup)(Y:∀y∈nm,y∉ZN)(hw:∀w∈u,Za7 nm 10 w)(Z:Jk u)(O:k<W)(hc:ls[k]?=some c)(e:c<2^nm.length):
  (Zny nm (Xa (2^nm.length) nm) u (min (k:Int) (lgB u:Int),zG W (wD ls nm) u k)).1.map (λx=>bt x c)=(Gb W (wD ls nm) u).map (λx=>bt x k)/\(Zny nm (Xa (2^nm.length) nm) u (min (k:Int) (lgB u:Int),zG W (wD ls nm) u k)).2.map (λx=>bt x c)=zG W (wD ls nm) u (k+1):=by
 have G:∀w∈u,Za7 nm _ w:=λw h=>by
  rcases hw w h with(z|z|⟨z,rfl,I,_,Ua⟩)|z
  .exact .inl (.inl z)
  .exact .inl (.inr (.inl z))
  .exact .inl (.inr (.inr ⟨z,U,I,lgB_lt h I,Ua⟩))
  .exact .inr z
 obtain⟨e1,e2⟩:=kJ (Zm4 W _ u k) c u;have F:∀y∈nm,bt _ c=bt _ k:=λy J=>by
  obtain⟨i,hi⟩:=Qc9.mp J;rw[Zib hnd hi e,Zmy hnd hi hc]
 rw[jU F u,Zfi (pl:=(min (k:Int) (lgB u)).toNat) O (by lia) Y _ u G Z ⟨[],(Qbp _).symm⟩]at e1 e2;exact⟨e1,e2⟩
theorem Zfj{nm:Ai}{ls:Aj}{W:Nat}{o:Int}{J I:V}{l:List (Int×Ak)}(hnd:nm.Nodup)(O:∀y∈nm,y∉ZN)(hw:∀w∈u,Za7 nm 10 w)(he:Jk u)(hW:W<=ls.length)(Y:∀x∈ls,x<2^nm.length)(ho:Gb W (wD (ls.take W) nm) u=[o])
  (B:BfE (nxT nm (Xa (2^nm.length) nm) u (lgB u)) (0,List.replicate (JZ u) 0) l):
  ∀k,k<W->(rnO (rnG (nxT nm (Xa (2^nm.length) nm) u (lgB u)) l) (l.map (otT nm (Xa (2^nm.length) nm) u J I)) 0 ls)[k]?=some (if bt o k=1 then I else J):=by
 generalize hρ:wD (ls.take W) nm=ρ at *;have e0:((0:Int),List.replicate (JZ u) (0:Int))=(min ((0:Nat):Int) (lgB u:Int),zG W ρ u 0):=by
  rw[kK,kL hw,show min ((0:Nat):Int) (lgB u:Int)=0 by lia]
 have at_:∀k,k<W->∃c,ls[k]?=some c/\(ls.take W)[k]?=some c/\c<2^nm.length:=λk O=>by
  have h1:ls[k]?=some ls[k]:=Qac (by lia);exact⟨_,h1,by grind,Y _ (Qam h1)⟩
 have step:∀k,k<=W->stN (rnG (nxT nm (Xa (2^nm.length) nm) u (lgB u)) l) 0 (ls.take k)=ixG l (min (k:Int) (lgB u:Int),zG W ρ u k)/\(min (k:Int) (lgB u:Int),zG W ρ u k)∈l:=by
  intro k
  induction k with
  |zero=>
   intro _;rw[<-e0];exact⟨B.zero.symm,B.begin.2⟩
  |succ k Ua=>
   intro hk1;obtain⟨i1,i2⟩:=Ua (by lia);obtain⟨c,Z,z,e⟩:=at_ k (by lia);obtain⟨_,e2⟩:=zH hnd O hw he (show k<W by lia) z e;rw[hρ]at e2;have en:(nxT nm (Xa (2^nm.length) nm) u (lgB u) (min (k:Int) (lgB u:Int),zG W ρ u k))[c]?=some (min ((k+1:Nat):Int) (lgB u:Int),zG W ρ u (k+1)):=by
    unfold nxT;rw[x4 e,e2];congr 2;lia
   refine⟨?_,B.next i2 (Qam en)⟩;rw[take_snoc Z,uN,i1,rnG_at (λs hs x hx=>B.next hs hx) i2,Qal,Qag,en];rfl
 intro k F;obtain⟨i1,i2⟩:=step k (by lia);obtain⟨c,Z,z,e⟩:=at_ k F;obtain⟨e1,_⟩:=zH hnd O hw he F z e;rw[hρ]at e1;have G:k<ls.length:=by lia
 have ek:ls=ls.take k++c::ls.drop (k+1):=by
  rw[show c::ls.drop (k+1)=ls.drop k by rw[Qb5 G];congr 1;exact(Qae.mp Z).2.symm,Qcu]
 have go:∀(nx:Ad)(ot:Az)(s:Nat)(a:Aj)(c:Nat)(r:Aj),(rnO nx ot s (a++c::r))[a.length]?=some ((ot.getD (stN nx s a) []).getD c .non):=λnx ot s a c r=>by
  induction a generalizing s with
  |nil=>rfl
  |cons d a Ua=>exact Ua _
 have g:=go (rnG (nxT nm (Xa (2^nm.length) nm) u (lgB u)) l) (l.map (otT nm (Xa (2^nm.length) nm) u J I)) 0 (ls.take k) c (ls.drop (k+1));rw[<-ek,Qbg,Nat.min_eq_left (by lia),i1,Zmz i2]at g;rw[g];congr 1;unfold otT;rw[Qal,x4 e];rw[ho]at e1;generalize (Zny nm (Xa (2^nm.length) nm) u _).1=q at e1 ⊢;have hq:q.length=1:=by
  have:=congrArg List.length e1;rw[Qab]at this;exact this
 match q,hq,e1 with
 |[x],_,e1=>
  have e1:bt x c=bt o k:=by
   injection e1
  show(if bt x c=1 then I else J)=_;rw[e1]
inductive TyR(ys:Ai):A2->List Bool->Prop
 |nil:TyR ys [] []
 |sum {w:V} {r:A2} {ks:Am}:k6 ys 10 w->TyR ys r (List.replicate (npw w) false++ks)->TyR ys (w::r) (false::ks)
 |clm {y:Str} {r:A2} {ks:Am}:y∈Z6->y∉ys->TyR ys r (List.replicate (qr (.str y)) false++(List.replicate (wC (.str y)) true++ks))->TyR ys (.str y::r) (true::ks)
def zI:∀y∈Z6,npw (.str y)=qr (.str y)+wC (.str y):=by decide +kernel
theorem TyR.facts{ys:Ai}{ks:Am}(h:TyR ys u ks):(∀w∈u,Za7 ys 10 w)/\Jk u/\uC u=ks.length:=by
 induction h with
 |nil=>exact⟨(λ_ h=>nomatch h),trivial,U⟩
 | @sum w r ks hw _ G=>
  obtain⟨h1,h2,F⟩:=G;rw[Qar,Qav]at F;refine⟨λv z=>?_,⟨by lia,h2⟩,?_⟩
  .rcases Qas.mp z with rfl|z
   .exact .inl hw
   .exact h1 v z
  .show uC r-npw w+1=ks.length+1;lia
 | @clm y r ks I J _ G=>
  obtain⟨h1,h2,F⟩:=G;rw[Qar,Qar,Qav,Qav]at F;have e:=zI y I;refine⟨λv z=>?_,⟨by lia,h2⟩,?_⟩
  .rcases Qas.mp z with rfl|z
   .exact .inr ⟨y,U,I,J⟩
   .exact h1 v z
  .show uC r-npw _+1=ks.length+1;lia
def RlV(W:Nat):Bool->V->Int->Prop
 |false,v,x=>v=.int x/\0<=x/\x<2^W
 |true,v,x=>v=.bl (decide (bt x (W-1)=1))
inductive RlS(W:Nat):Am->List V->List Int->Prop
 |nil:RlS W [] [] []
 |cons {b:Bool} {bs:Am} {v:V} {vs:A2} {x:Int} {xs:Ak}:RlV W b v x->RlS W bs vs xs->RlS W (b::bs) (v::vs) (x::xs)
theorem RlS.cut{W:Nat}{as bs:Am}:∀{vs:A2} {xs:Ak},RlS W (as++bs) vs xs->RlS W as (vs.take as.length) (xs.take as.length)/\RlS W bs (vs.drop as.length) (xs.drop as.length):=by
 induction as with
 |nil=>exactλh=>⟨.nil,h⟩
 |cons a as e=>
  intro vs xs h;cases h with
  |cons h1 h2=>
   obtain⟨z,g2⟩:=e h2;exact⟨.cons h1 z,g2⟩
theorem RlS.ints{W:Nat}:∀{vs:A2} {xs:Ak},RlS W (List.replicate n false) vs xs->vs=xs.map V.int/\xs.length=n/\∀x∈xs,0<=x/\x<2^W:=by
 induction n with
 |zero=>
  intro vs xs h;cases h;exact⟨U,U,(λ_ h=>nomatch h)⟩
 |succ n z=>
  intro vs xs h;cases h with
  |cons h1 h2=>
   obtain⟨e1,e2,e3⟩:=z h2;obtain⟨rfl,G,F⟩:=h1;refine⟨by grind,by grind,λx e=>?_⟩;rcases Qas.mp e with rfl|e
   .exact⟨G,F⟩
   .exact e3 x e
theorem RlS.bls{W:Nat}:∀{vs:A2} {xs:Ak},RlS W (List.replicate n true) vs xs->vs=xs.map (λx=>V.bl (decide (bt x (W-1)=1)))/\xs.length=n:=by
 induction n with
 |zero=>
  intro vs xs h;cases h;exact⟨U,U⟩
 |succ n e=>
  intro vs xs h;cases h with
  |cons h1 h2=>
   obtain⟨e1,e2⟩:=e h2;cases h1;exact⟨by grind,by grind⟩
def Za8{x:Int}{W:Nat}(e:0<=x)(h1:x<2^W):lo x W=x:=Qck e h1
def Zfk{x:Int}{k:Nat}(z:0<=x)(h1:x<2^(k+1)):sgA x k=sgn (2^(k+1)) x:=by
 have e:=zy x k;rw[Za8 z h1]at e;have b:=jm x k;unfold sgA sgn;rcases YD x k with a|a<;>skip
 .lia
 .lia
def qu:∀y∈Z6,0<qr (.str y)->wC (.str y)=0/\((y = "same" /\ qr (.str y)=2)\/(y = "under" /\ qr (.str y)=2)\/(y = "beneath" /\ qr (.str y)=2)\/(y = "sign" /\ qr (.str y)=1)\/(y = "nought" /\ qr (.str y)=1)):=by decide +kernel
def Za9:∀y∈Z6,¬0<qr (.str y)->(y = "both" /\ wC (.str y)=2)\/(y = "either" /\ wC (.str y)=2)\/(y = "so" /\ wC (.str y)=2)\/(y = "never" /\ wC (.str y)=1)\/(y = "yes" /\ wC (.str y)=0):=by decide +kernel
def Zik{W:Nat}(O:1<=W){y:Str}(I:y∈Z6)(J:0<qr (.str y)){xs:Ak}(G:xs.length=qr (.str y))(z:∀x∈xs,0<=x/\x<2^W):jl (2^W) y xs=decide (clB y xs (W-1)=1):=by
 obtain⟨k,rfl⟩:∃k,W=k+1:=⟨W-1,by lia⟩;obtain⟨_,h⟩:=qu y I J;rcases h with⟨rfl,e⟩|⟨rfl,e⟩|⟨rfl,e⟩|⟨rfl,e⟩|⟨rfl,e⟩<;>skip
 .match xs,G with
  |[a,b],_=>
   have F:=z a Qah;have z:=z b (Qai _ Qah);show decide (a=b)=decide (1-neA a b (k+1)=1);refine Qce.mpr ?_;unfold neA;rw[Za8 F.1 F.2,Za8 z.1 z.2];split<;>lia
 .match xs,G with
  |[a,b],_=>
   have F:=z a Qah;have z:=z b (Qai _ Qah);show decide (a<b)=decide (brA a b (k+1)=1);refine Qce.mpr ?_;unfold brA;rw[Za8 F.1 F.2,Za8 z.1 z.2];split<;>lia
 .match xs,G with
  |[a,b],_=>
   have F:=z a Qah;have z:=z b (Qai _ Qah);show decide (sgn (2^(k+1)) a<sgn (2^(k+1)) b)=decide (bnA a b k=1);refine Qce.mpr ?_;unfold bnA;rw[Zfk F.1 F.2,Zfk z.1 z.2];split<;>lia
 .match xs,G with
  |[a],_=>
   have F:=z a Qah;show decide (sgn (2^(k+1)) a<0)=decide (bt a k=1);refine Qce.mpr ?_;rw[<-Zfk F.1 F.2];have b:=jm a k;unfold sgA;rcases YD a k with h|h<;>rw[h]<;>lia
 .match xs,G with
  |[a],_=>
   have F:=z a Qah;show decide (a=0)=decide (1-nzA a (k+1)=1);refine Qce.mpr ?_;unfold nzA brA;rw[Za8 F.1 F.2,show lo 0 (k+1)=0 from Int.zero_emod _];split<;>lia
def Zil{k:Nat}{y:Str}(F:y∈Z6)(G:¬0<qr (.str y)){xs:Ak}(z:xs.length=wC (.str y)):Zpi y (xs.map λx=>decide (bt x k=1))=decide (clB y xs k=1):=by
 rcases Za9 y F G with⟨rfl,e⟩|⟨rfl,e⟩|⟨rfl,e⟩|⟨rfl,e⟩|⟨rfl,e⟩<;>skip
 .match xs,z with
  |[a,b],_=>
   show(decide _&&decide _)=decide (bt a k*bt b k=1);rcases YD a k with h|h<;>rcases YD b k with g|g<;>rw[h,g]<;>rfl
 .match xs,z with
  |[a,b],_=>
   show(decide _||decide _)=decide (1-(1-bt a k)*(1-bt b k)=1);rcases YD a k with h|h<;>rcases YD b k with g|g<;>rw[h,g]<;>rfl
 .match xs,z with
  |[a,b],_=>
   show(decide _ || !decide _)=decide (1-(1-(1-bt a k))*(1-bt b k)=1);rcases YD a k with h|h<;>rcases YD b k with g|g<;>rw[h,g]<;>rfl
 .match xs,z with
  |[a],_=>
   show(!decide _)=decide (1-bt a k=1);rcases YD a k with h|h<;>rw[h]<;>rfl
 .match xs,z with
  |[],_=>rfl
theorem yR{ys:Ai}{W:Nat}(hW:1<=W)(Z:∀y∈ys,y∉ZN)(ρ:Str->Int){ks:Am}(h:TyR ys u ks):RlS W ks (Gg (2^W) ρ u []) (Gb W ρ u):=by
 have hp:(0:Int)<2^W:=Qew (by decide)
 induction h with
 |nil=>exact .nil
 | @sum w r ks hw _ G=>
  obtain⟨F,g2⟩:=G.cut;rw[Qav]at F g2;obtain⟨e1,e2,_⟩:=F.ints;rw[Xi];have Y:∀xs,cvV (2^W) ρ w xs=.int (wwv ρ w (xs.map iV)%2^W)/\∀is,rwR W ρ w is=wwv ρ w is%2^W:=by
   intro xs;have no:∀y,w=.str y->y∉Z6->cvV (2^W) ρ w xs=.int (wwv ρ w (xs.map iV)%2^W)/\∀is,rwR W ρ w is=wwv ρ w is%2^W:=by
    rintro y rfl hc;exact⟨Qax hc,λis=>Qax hc⟩
   rcases hw with⟨y,rfl,e,_⟩|⟨y,rfl,e,_⟩|⟨z,rfl,_⟩
   .exact no y U (GG y e)
   .exact no y U λz=>Z y e (YZ y z)
   .exact⟨U,λ_=>U⟩
  refine .cons ?_ g2;have O:((Gb W ρ r).take (npw w) |>.map V.int).map iV=(Gb W ρ r).take (npw w):=by
   rw[Qay];exact Qgf (λ_=>U) _
  refine⟨?_,?_⟩
  .rw[(Y _).1,e1,O,(Y []).2]
  .rw[(Y []).2];exact⟨Qb3 _ (Qe9 hp),Qbt _ hp⟩
 | @clm y r ks e hn _ G=>
  have I:=zI y e;rw[Xi]
  by_cases Ua:0<qr (.str y)
  .have J:=(qu y e Ua).1;rw[J,Qgm,Qhh]at G;obtain⟨F,g2⟩:=G.cut;rw[Qav]at F g2;rw[J,Nat.add_zero]at I;rw[<-I]at F g2;obtain⟨e1,e2,e3⟩:=F.ints;refine .cons ?_ g2;have O:((Gb W ρ r).take (npw (.str y)) |>.map V.int).map iV=(Gb W ρ r).take (npw (.str y)):=by
    rw[Qay];exact Qgf (λ_=>U) _
   show(if y∈Z6 then _ else _)=V.bl (decide (bt (if y∈Z6 then _ else _) (W-1)=1));rw[Qa2 e,Qa2 e,Qa2 Ua,e1,O,Zik hW e Ua (by rw[e2,I]) e3,Zih (uP _ _) (by lia)]
  .have J:qr (.str y)=0:=by lia
   rw[J,Qgm,Qhh]at G;obtain⟨F,g2⟩:=G.cut;rw[Qav]at F g2;rw[J,Qgo]at I;rw[<-I]at F g2;obtain⟨e1,e2⟩:=F.bls;refine .cons ?_ g2;have O:((Gb W ρ r).take (npw (.str y)) |>.map λx=>V.bl (decide (bt x (W-1)=1))).map bV=((Gb W ρ r).take (npw (.str y))).map λx=>decide (bt x (W-1)=1):=by
    rw[Qay];rfl
   show(if y∈Z6 then _ else _)=V.bl (decide (bt (if y∈Z6 then _ else _) (W-1)=1));rw[Qa2 e,Qa2 e,Qax Ua,e1,O,Zil e Ua (by rw[e2,I]),Zih (uP _ _) (by lia)]
def jV{ys:Ai}{W:Nat}(z:1<=W)(e:∀y∈ys,y∉ZN)(ρ:Str->Int)(h:TyR ys u [true]):∃o,Gb W ρ u=[o]/\Gg (2^W) ρ u []=[.bl (decide (bt o (W-1)=1))]:=by
 have g:=yR z e ρ h;generalize Gg _ ρ u []=vs at g;generalize Gb W ρ u=xs at g;cases g with
 |cons h1 h2=>
  cases h2;cases h1;exact⟨_,U,U⟩
def TyR.tail{ys:Ai}{w:V}{r:A2}{ks:Am}(h:TyR ys (w::r) ks):∃e,TyR ys r e:=by
 cases h with
 |sum _ h=>exact⟨_,h⟩
 |clm _ _ h=>exact⟨_,h⟩
theorem TyR.drop{ys:Ai}:∀{z:A2} {ks:Am},TyR ys z ks->∀j,∃e,TyR ys (z.drop j) e
 |[],ks,h,j=>by
  rw[List.drop_nil];exact⟨_,h⟩
 |w::r,ks,h,0=>⟨_,h⟩
 |w::r,ks,h,j+1=>by
  obtain⟨_,h'⟩:=h.tail;exact TyR.drop h' j
theorem yS(m:Int)(ρ:Str->Int):∀e:A2,(Gg m ρ e []).length=uC e
 |[]=>rfl
 |w::r=>by
  rw[Xi,Qbj,Qdr,yS m ρ r];rfl
def Zm5{ys:Ai}{w:V}(hw:k6 ys 10 w)(F:∀y∈ys,y∉ZN)(m:Int)(ρ:Str->Int)(is:Ak):cvV m ρ w (is.map V.int)=.int (wwv ρ w is%m):=by
 have G:(is.map V.int).map iV=is:=by
  rw[Qay];exact Qgf (λ_=>U) _
 have I:∀y,w=.str y->y∉Z6->cvV m ρ w (is.map V.int)=.int (wwv ρ w is%m):=by
  rintro y rfl J;have:cvV m ρ (.str y) (is.map V.int)=.int _:=Qax J;rw[G]at this;exact this
 rcases hw with⟨y,rfl,e,_⟩|⟨y,rfl,e,_⟩|⟨z,rfl,_⟩
 .exact I y U (GG y e)
 .exact I y U λz=>F y e (YZ y z)
 .show V.int _=_;rw[G]
def part_of{ys:Ai}{W:Nat}(Y:1<=W)(F:∀y∈ys,y∉ZN)(ρ:Str->Int){x:V}{r:A2}{ks:Am}(h:TyR ys (x::r) ks):
  (∃(is:Ak)(l:A2),k6 ys 10 x/\Gg (2^W) ρ r []=is.map V.int++l/\is.length=npw x/\(∀z∈is,0<=z/\z<2^W)/\cvV (2^W) ρ x ((Gg (2^W) ρ r []).take (npw x))::(Gg (2^W) ρ r []).drop (npw x)=.int (wwv ρ x is%2^W)::l) \/
  (∃(y:Str)(is:Ak)(l:A2),x=.str y/\y∈Z6/\y∉ys/\0<qr (.str y)/\Gg (2^W) ρ r []=is.map V.int++l/\is.length=qr (.str y)/\(∀z∈is,0<=z/\z<2^W)/\cvV (2^W) ρ x ((Gg (2^W) ρ r []).take (npw x))::(Gg (2^W) ρ r []).drop (npw x)=.bl (jl (2^W) y is)::l) \/
  (∃(y:Str)(bs:Am)(l:A2),x=.str y/\y∈Z6/\y∉ys/\¬0<qr (.str y)/\Gg (2^W) ρ r []=bs.map V.bl++l/\bs.length=wC (.str y)/\cvV (2^W) ρ x ((Gg (2^W) ρ r []).take (npw x))::(Gg (2^W) ρ r []).drop (npw x)=.bl (Zpi y bs)::l):=by
 cases h with
 | @sum _ _ ks hw h=>
  obtain⟨e,_⟩:=(yR Y F ρ h).cut;rw[Qav]at e;obtain⟨e1,e2,e3⟩:=e.ints;refine .inl ⟨_,(Gg (2^W) ρ r []).drop (npw x),hw,?_,e2,e3,?_⟩
  .rw[<-e1,Qcu]
  .rw[e1,Zm5 hw F]
 | @clm y _ ks G Z h=>
  have I:=zI y G;have g:=yR Y F ρ h
  by_cases J:0<qr (.str y)
  .have O:=(qu y G J).1;obtain⟨e,_⟩:=g.cut;rw[Qav]at e;rw[O,Nat.add_zero]at I;rw[<-I]at e;obtain⟨e1,e2,e3⟩:=e.ints;refine .inr (.inl ⟨y,_,(Gg (2^W) ρ r []).drop (npw (.str y)),U,G,Z,J,?_,by rw[e2,I],e3,?_⟩)
   .rw[<-e1,Qcu]
   .rw[e1];have Ua:(((Gb W ρ r).take (npw (.str y))).map V.int).map iV=(Gb W ρ r).take (npw (.str y)):=by
     rw[Qay];exact Qgf (λ_=>U) _
    show(if y∈Z6 then _ else _)::_=_;rw[Qa2 G,Qa2 J,Ua]
  .have O:qr (.str y)=0:=by lia
   rw[O,Qgm,Qhh]at g;obtain⟨e,_⟩:=g.cut;rw[Qav]at e;rw[O,Qgo]at I;rw[<-I]at e;obtain⟨e1,e2⟩:=e.bls;have eb:((Gb W ρ r).take (npw (.str y))).map (λx=>V.bl (decide (bt x (W-1)=1)))=(((Gb W ρ r).take (npw (.str y))).map λx=>decide (bt x (W-1)=1)).map V.bl:=by
    rw[Qay];rfl
   rw[eb]at e1;refine .inr (.inr ⟨y,((Gb W ρ r).take (npw (.str y))).map (λx=>decide (bt x (W-1)=1)),(Gg (2^W) ρ r []).drop (npw (.str y)),U,G,Z,J,?_,by grind,?_⟩)
   .rw[<-e1,Qcu]
   .rw[e1];have Ua:∀bs:Am,(bs.map V.bl).map bV=bs:=λbs=>by
     rw[Qay];exact Qgf (λ_=>U) _
    show(if y∈Z6 then _ else _)::_=_;rw[Qa2 G,Qax J,Ua]
def Zn0{st:Aw}{v:V}{l:A2}(h:H st=some (.lst (v::l).reverse)):H st=some (.lst (l.reverse++[v])):=by grind
structure Wg(nm:Ai)(ws:A2):Prop where
 n3:nm.length<=3
 nd:nm.Nodup
 kp:∀y∈nm,y∉ZN
 ln:ws.length<=100
 ty:TyR nm ws [true]
 rm:JZ ws<=15
abbrev otC(nm:Ai)(e:A2):Int×Ak->List V:=otT nm (Xa (2^nm.length) nm) e (.bl false) (.bl true)
structure Zpl(nm:Ai)(ws:A2)(l:List (Int×Ak))(H:Hp)(m:Aw):Prop where
 b:BfE (nxS nm ws) (0,List.replicate (JZ ws) 0) l
 m:M4 H m nm 0 (rnG (nxS nm ws) l) (l.map (otC nm ws))
def claimC:∀y∈Z6,(y∈allR/\1<=npw (.str y)/\(y∈Zmq->2<=npw (.str y)))\/(y∈Zes/\y∉allR/\npw (.str y)=Zeq y):=by decide +kernel
theorem Wg.wc{nm:Ai}(S:Wg nm u):∀w∈u,yF nm w:=λw h=>by
 rcases S.ty.facts.1 w h with h|⟨y,rfl,F,z⟩
 .exact uM S.kp h
 .rcases claimC y F with⟨h1,h2,e⟩|⟨h1,h2,e⟩
  .exact .inl ⟨y,U,h1,z,h2,e⟩
  .exact .inr (.inl ⟨y,U,h1,h2,z,e⟩)
theorem Wg.iz{nm:Ai}(S:Wg nm u):∀z:Int,V.int z∈u->0<=z/\z<2^10:=λz h=>by
 rcases S.ty.facts.1 _ h with(⟨y,e,_⟩|⟨y,e,_⟩|⟨G,e,F,h1,_⟩)|⟨y,e,_⟩
 .cases e
 .cases e
 .cases e;exact⟨F,h1⟩
 .cases e
def Wg.big{nm:Ai}(S:Wg nm u):(10+1)*2^JZ u<=1000000:=by
 have:2^JZ u<=2^15:=Qdf (by decide) S.rm;lia
def Wg.len{nm:Ai}{l:List (Int×Ak)}(S:Wg nm u)(B:BfE (nxS nm u) (0,List.replicate (JZ u) 0) l):l.length<=1000000:=by
 have h:=Ze5 (nx:=nxS nm u) (b:=(0,List.replicate _ 0)) (Ga.mpr ⟨0,by lia,U,Xj.mpr ⟨Qav,λx z=>.inl (Qdq z)⟩⟩) (λs F=>yP S.wc U F) l.length;rw[<-B.e,yN]at h;have h2:=Zfa S.iz;exact Qa9 h (Qa9 (Qd5 _ (by lia)) S.big)
def Zpl.wf{nm:Ai}{l:List (Int×Ak)}{m:Aw}(S:Wg nm u)(M:Zpl nm u l H m):Wf nm 0 (rnG (nxS nm u) l) (l.map (otC nm u)) true:=by
 obtain⟨J,I⟩:=Zm2 M.b (Zm0 _ _ _ _);have G:∀r∈l.map (otC nm u),∀v∈r,v=.bl false\/v=.bl true:=λr z v F=>by
  obtain⟨s,_,rfl⟩:=Qau.mp z;obtain⟨c,_,rfl⟩:=Qau.mp F;split
  .exact .inr U
  .exact .inl U
 refine⟨S.n3,by rw[zD];exact Qel M.b.begin.2,by rw[zD];exact S.len M.b,by rw[zD,Qab],J,I,λr z=>?_,λr z v F=>?_,λr z v F=>?_⟩
 .obtain⟨s,_,rfl⟩:=Qau.mp z;exact Zm1 _ _ _ _ _ _
 .rcases G r z v F with e|e<;>rw[e]<;>exact .inl ⟨U,_,U⟩
 .rcases G r z v F with e|e<;>rw[e]
  .exact .inl U
  .exact .inr U
def Zfl{nm:Ai}{l:List (Int×Ak)}{m:Aw}{ls:Aj}{W:Nat}(S:Wg nm u)(M:Zpl nm u l H m)(G:1<=W)(e:W<=ls.length)(F:∀x∈ls,x<2^nm.length):
  ∃b:Bool,Gg (2^W) (wD (ls.take W) nm) u []=[.bl b]/\(rnO (rnG (nxS nm u) l) (l.map (otC nm u)) 0 ls)[W-1]?=some (.bl b):=by
 obtain⟨o,e1,e2⟩:=jV G S.kp _ S.ty;refine⟨_,e2,?_⟩;have f:=S.ty.facts;rw[Zfj S.nd S.kp f.1 f.2.1 e F e1 M.b _ (by lia)];rcases YD o _ with z|z<;>rw[z]<;>rfl
def wwv_cg{y:Str}{is:Ak}(h:y∈G7)(e:is.length=Y8 y)(ρ z:Str->Int):wwv ρ (.str y) is=wwv z (.str y) is:=by
 have F:=(by decide +kernel:∀y∈G7,1<=Y8 y) y h
 match is,e with
 |[],e=>rw[<-e]at F;cases F
 |[a],_=>rfl
 |[a,b],_=>rfl
 |a::b::c::_,_=>rfl
def abc:Nat->Str
 |0=> "a"
 |1=> "b"
 |_=> "c"
def Zba(e:List (Ak))(cs:Aj):Prop:=∀(i j:Nat)(a b:Ak),e[i]?=some a->e[j]?=some b->cs[i]?=cs[j]?->a=b
def Zgo(nx:Ad)(e:List (Ak)):Nat->List Nat
 |0=>Wq e
 |i+1=>Wq (z9 nx (Zgo nx e i))
theorem Zim{nx:Ad}{e:List (Ak)}{j:Nat}(h:Wq (z9 nx (Zgo nx e i))=Zgo nx e i)(F:i<=j):Zgo nx e j=Zgo nx e i:=by
 obtain⟨d,rfl⟩:∃d,j=i+d:=⟨j-i,by lia⟩
 induction d with
 |zero=>rfl
 |succ d z=>
  show Wq (z9 nx (Zgo nx e (i+d)))=_;rw[z (by lia),h]
def zJ:Ak->Nat->List Nat->List Nat
 |[],_,acc=>acc
 |c::r,i,acc=>zJ r (i+1) (if c=(acc.length:Int)then acc++[i]else acc)
structure Canon(R:Ad):Prop where
 ord:∀(r p t:Nat)(row:Aj),R[r]?=some row->row[p]?=some t->∀t',t'<t->t'=0\/(∃r' row',r'<r/\R[r']?=some row'/\t'∈row')\/t'∈row.take p
 reach:∀t,0<t->t<R.length->∃r row,r<t/\R[r]?=some row/\t∈row
 lt:∀row∈R,∀s∈row,s<R.length
theorem zK{nx:Ad}{b x:Nat}:∀i,x∈xa nx b i↔x=b\/∃j,j<i/\x∈nx.getD ((xa nx b j).getD j 0) []
 |0=>by
  constructor
  .exact λh=>.inl (Qat.mp h)
  .rintro(h|⟨j,e,_⟩)
   .exact Qat.mpr h
   .exact absurd e (Qed _)
 |i+1=>by
  show x∈Zh9 nx _ i↔_;unfold Zh9;rw[GC,zK i];constructor
  .grind
  .grind
def rnR(nx:Ad)(l:Aj):Ad:=l.map λs=>(nx.getD s []).map λx=>l.idxOf x
def rnQ(ot:Az)(l:Aj):Az:=l.map λs=>ot.getD s []
def Gd(nx:Ad)(l:Aj):(rnR nx l).length=l.length:=Qab ..
def jR.nodup{nx:Ad}{b:Nat}{l:Aj}(B:jR nx b l):l.Nodup:=by
 rw[B.e];exact zA nx b _
def jR.at{nx:Ad}{b:Nat}{l:Aj}(B:jR nx b l){j:Nat}(z:j<l.length):l[j]?=some ((xa nx b j).getD j 0):=by
 have:=bfs_at z (B.go j z);rw[<-B.e]at this;exact this
def jR.next{nx:Ad}{b:Nat}{l:Aj}(B:jR nx b l){s x:Nat}(hi:l[i]?=some s)(F:x∈nx.getD s []):x∈l:=by
 have z:=(Qae.mp hi).1;rw[B.at z]at hi;rw[B.e,zK];refine .inr ⟨i,z,?_⟩;rw[Option.some.inj hi];exact F
def jR.zero{nx:Ad}{b:Nat}{l:Aj}(B:jR nx b l):l[0]?=some b:=by
 have:b∈l:=by rw[B.e,zK];exact .inl U
 exact B.at (Qel this)
def jR.pre{nx:Ad}{b:Nat}{l:Aj}(B:jR nx b l){j:Nat}(z:j<=l.length):∃r,l=xa nx b j++r:=by
 obtain⟨r,e⟩:=gq nx b j _;rw[show j+(l.length-j)=l.length by lia,<-B.e]at e;exact⟨r,e⟩
def yT{nx:Ad}{b:Nat}{l:Aj}(B:jR nx b l):Canon (rnR nx l):=by
 have hn:=B.nodup;have z:∀{r:Nat} {row:Aj},(rnR nx l)[r]?=some row->∃s,l[r]?=some s/\row=(nx.getD s []).map λx=>l.idxOf x:=λ{r row} h=>by
  unfold rnR at h;rw[Qag]at h;obtain⟨s,G,e⟩:=Qa5.mp h;exact⟨s,G,e.symm⟩
 have inRow:∀{j:Nat} {x:Nat},j<l.length->x∈nx.getD ((xa nx b j).getD j 0) []->∃row,(rnR nx l)[j]?=some row/\l.idxOf x∈row:=λ{j x} hj O=>by
  refine⟨_,?_,Qb9 (f:=λx=>l.idxOf x) O⟩;unfold rnR;rw[Qag,B.at hj];rfl
 refine⟨λr p t row hr hp t' ht=>?_,λt h1 h2=>?_,λrow Ua s G=>?_⟩
 .obtain⟨s,G,rfl⟩:=z hr;have J:=(Qae.mp G).1;rw[Qag]at hp;obtain⟨x,O,rfl⟩:=Qa5.mp hp;have es:(xa nx b r).getD r 0=s:=by
   have:=B.at J;rw[G]at this;exact(Option.some.inj this).symm
  obtain⟨q,eq⟩:=B.pre (j:=r+1) J;have eb:xa nx b (r+1)=((nx.getD s []).drop (p+1)).foldl Yw (Yw (((nx.getD s []).take p).foldl Yw (xa nx b r)) x):=by
   show Zh9 nx (xa nx b r) r=_;unfold Zh9;rw[es];have:=Qcu (p+1) (nx.getD s [])
   conv=>lhs;rw[<-this]
   rw[Qc7,take_snoc O,Qc7];rfl
  obtain⟨q2,e2⟩:=Jz ((nx.getD s []).drop (p+1)) _;rw[e2]at eb;rw[eb,Qb7]at eq;generalize hL:((nx.getD s []).take p).foldl Yw (xa nx b r)=L at *;obtain⟨q3,e3⟩:=y4 L x;have F:t'<L.length:=by
   have Z:x∈Yw L x:=XD.mpr (.inr U);have hlt:=Qbi Z;have h3:=xu L x;have h4:l.idxOf x=(Yw L x).idxOf x:=by rw[eq,xX Z]
   lia
  have hy:l[t']?=some L[t']:=by
   rw[eq,e3,Qb7,Qbe F,Qac F]
  have I:L[t']∈L:=Qbh F;have Y:=Xq hn hy;generalize L[t']=y at *;rw[<-hL]at I;rcases(GC _ _).mp I with h|h
  .rcases(zK r).mp h with h|⟨j,hj,h⟩
   .refine .inl ?_;rw[<-Y,h];exact Xq hn B.zero
   .obtain⟨w,g1,g2⟩:=inRow (j:=j) (by lia) h;exact .inr (.inl ⟨j,w,hj,g1,Y▸g2⟩)
  .refine .inr (.inr ?_);rw[<-Qej,<-Y];exact Qb9 (f:=λx=>l.idxOf x) h
 .rw[Gd]at h2;have hg:=B.go t h2;have ha:=B.at h2;have hm:(xa nx b t).getD t 0∈xa nx b t:=by
   rw[Qal,Qac hg];exact Qbh hg
  have hi:=Xq hn ha;rcases(zK t).mp hm with h|⟨j,hj,h⟩
  .rw[h,Xq hn B.zero]at hi;lia
  .obtain⟨w,g1,g2⟩:=inRow (j:=j) (by lia) h;rw[hi]at g2;exact⟨j,w,hj,g1,g2⟩
 .obtain⟨r,hr⟩:=Qc9.mp Ua;obtain⟨s',hs',rfl⟩:=z hr;obtain⟨x,O,rfl⟩:=Qau.mp G;rw[Gd];exact Qbi (B.next hs' O)
structure Zfm(cs fs:Aj):Prop where
 at_:∀c f:Nat,fs[c]?=some f->cs[f]?=some c/\∀j d:Nat,j<f->cs[j]?=some d->d<c
 lt:∀j d:Nat,cs[j]?=some d->d<fs.length
theorem uS[DecidableEq m](ks:List m)(i d:Nat)(h:(Wq ks)[i]?=some d)(c:Nat)(hc:c<d):∃j,j<i/\(Wq ks)[j]?=some c:=by
 rw[xw]at h;obtain⟨k,Ua,rfl⟩:=Qa5.mp h;obtain⟨r,O⟩:=jH ks _;have e1:Z5 (ks.take (i+1))=Yw (Z5 (ks.take i)) k:=by rw[take_snoc Ua,jG]
 rw[e1]at O;obtain⟨q,eq⟩:=y4 (Z5 (ks.take i)) k;have G:k∈Yw (Z5 (ks.take i)) k:=XD.mpr (.inr U);have Z:=Qbi G;have h3:=xu (Z5 (ks.take i)) k;have h4:(Z5 ks).idxOf k=(Yw (Z5 (ks.take i)) k).idxOf k:=by grind
 have J:(Z5 ks)[c]?=some (Z5 (ks.take i))[c]:=by
  grind
 have Y:(Z5 (ks.take i))[c]∈Z5 _:=Qbh (by lia);generalize (Z5 (ks.take i))[c]=y at *;obtain⟨j,e⟩:=Qc9.mp ((Yh _ y).mp Y);rw[Qfm]at e;split at e
 .rename_i F;refine⟨j,F,?_⟩;rw[xw,e];obtain⟨z,I⟩:=Qae.mp J;show some ((Z5 ks).idxOf y)=_;rw[<-I,List.Nodup.idxOf_getElem (X1 ks) c z]
 .cases e
theorem Zm7{cs:Aj}(hn:Wq cs=cs):∀(F pre acc:Aj),cs=pre++F->(∀c f:Nat,acc[c]?=some f->pre[f]?=some c/\∀j d:Nat,j<f->pre[j]?=some d->d<c)->(∀j d:Nat,pre[j]?=some d->d<acc.length)->Zfm cs (zJ (F.map λc:Nat=>(c:Int)) pre.length acc):=by
 intro F
 induction F with
 |nil=>
  intro pre acc e h1 h2;rw[Qbp]at e;subst e;exact⟨h1,h2⟩
 |cons x r Y=>
  intro pre acc e h1 h2;have hx:cs[pre.length]?=some x:=by
   rw[e,Qa1 (Qaj _),Qfa];rfl
  have hle:x<=acc.length:=by
   rcases Qgp acc.length x with h|h
   .obtain⟨j,hj,Z⟩:=uS cs pre.length x (by rw[hn];exact hx) acc.length h;rw[hn,e,Qbe hj]at Z;have:=h2 j _ Z;lia
   .exact h
  have Ua:cs=(pre++[x])++r:=by rw[e,Qb7];rfl
  have lft:∀{j d:Nat},pre[j]?=some d->(pre++[x])[j]?=some d:=λ{j d} h=>by
   rw[Qbe (Qae.mp h).1];exact h
  have J:∀{α:Type} {l:List α} {y z:α} {j:Nat},(l++[y])[j]?=some z->l[j]?=some z\/(j=l.length/\z=y):=λ{α l y z j} h=>by
   rcases Qg1 j l.length with g|g|g
   .rw[Qbe g]at h;exact .inl h
   .subst g;rw[Qa1 (Qaj _),Qfa]at h;exact .inr ⟨rfl,(Option.some.inj h).symm⟩
   .rw[List.getElem?_eq_none (by rw[Qar];show l.length+1<=j;lia)]at h;cases h
  have el:(pre++[x]).length=pre.length+1:=Qar;show Zfm cs (zJ (r.map λc:Nat=>(c:Int)) (pre.length+1) (if(x:Int)=(acc.length:Int)then acc++[pre.length]else acc));rw[<-el]
  have I2:∀c f:Nat,acc[c]?=some f->(pre++[x])[f]?=some c/\∀j d:Nat,j<f->(pre++[x])[j]?=some d->d<c:=λc f O=>by
   obtain⟨g1,g2⟩:=h1 c f O;refine⟨lft g1,λj d hj G=>?_⟩;rcases J G with G|⟨rfl,rfl⟩
   .exact g2 j d hj G
   .have:=(Qae.mp g1).1;lia
  by_cases I:x=acc.length
  .rw[Qa2 (by rw[I])];refine Y _ _ Ua (λc f O=>?_) λj d G=>?_
   .rcases J O with O|⟨rfl,rfl⟩
    .exact I2 c f O
    .refine⟨by rw[Qa1 (Qaj _),Qfa,I];rfl,λj d hj G=>?_⟩;rcases J G with G|⟨rfl,rfl⟩
     .exact h2 j d G
     .lia
   .rw[Qar];rcases J G with G|⟨rfl,rfl⟩
    .exact Nat.lt_succ_of_lt (h2 j d G)
    .show d<acc.length+1;lia
  .rw[Qax (by lia)];refine Y _ _ Ua I2 λj d G=>?_
   rcases J G with G|⟨rfl,rfl⟩
   .exact h2 j d G
   .lia
def Xb(cs:Aj):Aj:=zJ (cs.map λc:Nat=>(c:Int)) 0 []
def x5(e:Wq r=r):Zfm r (Xb r):=Zm7 e r [] [] U (λc f h=>by cases h) λj d h=>by cases h
theorem kM:∀(cs:Ak)(i:Nat)(acc:Aj),(zJ cs i acc).length<=acc.length+cs.length
 |[],_,acc=>Qaj _
 |c::r,i,acc=>by
  have:=kM r (i+1) (if c=acc.length then acc++[i]else acc);show(zJ r _ _).length<=_;have h2:(if c=acc.length then acc++[i]else acc).length<=acc.length+1:=by
   grind
  rw[Qbj];lia
def kN(cs:Aj):(Xb cs).length<=cs.length:=by
 have:=kM (cs.map λc:Nat=>c) 0 [];unfold Xb;simpa using this
def lsR(R:Ad)(cs:Aj):Ad:=(Xb cs).map λs=>(R.getD s []).map λx=>cs.getD x 0
def lsO(O:Az)(cs:Aj):Az:=(Xb cs).map λs=>O.getD s []
structure Zgp(R:Ad)(cs:Aj):Prop where
 len:cs.length=R.length
 st:Wq (z9 R cs)=cs
def Zgp.nn(S:Zgp R r):Wq r=r:=by
 have:=xY (z9 R r);rw[S.st]at this;exact this
def Zgp.row(S:Zgp R r){j c:Nat}(hi:r[i]?=some c)(e:r[j]?=some c):(R.getD i []).map (λx=>r.getD x 0)=(R.getD j []).map λx=>r.getD x 0:=by
 have:=congrArg Prod.snd ((y6 (GB hi (Qac (by rw[<-S.len];exact(Qae.mp hi).1))) (GB e (Qac (by rw[<-S.len];exact(Qae.mp e).1)))).mp (by rw[S.st,hi,e]));have h2:=congrArg (List.map Int.toNat) this;simp at h2;rw[Qal,Qal,Qac _,Qac _];exact h2
def gv{l:Aj}{x:Nat}(h:l[i]?=some x):l.getD i 0=x:=by grind
def at_getD{l:Aj}(h:i<l.length):l[i]?=some (l.getD i 0):=by grind
def Zin{cs:Aj}(C:Canon R)(S:Zgp R cs):Canon (lsR R cs):=by
 have F:=x5 S.nn;have ll:(lsR R cs).length=(Xb cs).length:=Qab ..;have z:∀{c:Nat} {row:Aj},(lsR R cs)[c]?=some row->∃f,(Xb cs)[c]?=some f/\row=(R.getD f []).map λx=>cs.getD x 0:=λ{c row} h=>by
  unfold lsR at h;rw[Qag]at h;obtain⟨s,hs,e⟩:=Qa5.mp h;exact⟨s,hs,e.symm⟩
 have cls:∀{j:Nat},j<R.length->∃c f,cs[j]?=some c/\(Xb cs)[c]?=some f/\(lsR R cs)[c]?=some ((R.getD j []).map λx=>cs.getD x 0):=λ{j} hj=>by
  obtain⟨c,I⟩:∃c,cs[j]?=some c:=⟨_,Qac (by rw[S.len];exact hj)⟩;obtain⟨f,G⟩:∃f,(Xb cs)[c]?=some f:=⟨_,Qac (F.lt j c I)⟩;refine⟨c,f,I,G,?_⟩;unfold lsR;rw[Qag,G];exact congrArg some (S.row (F.at_ c f G).1 I)
 have Z:∀{f x:Nat},x∈R.getD f []->x<R.length:=λ{f x} h=>by
  rw[Qal]at h;cases q:R[f]? with
  |none=>rw[q]at h;cases h
  |some row=>rw[q]at h;exact C.lt row (Qam q) x h
 have clt:=λ{x} h=>by
  exact F.lt x _ (at_getD (by rw[S.len];exact h))
 have z0:0<R.length->cs.getD 0 0=0:=λh=>by
  obtain⟨c,f,I,G,_⟩:=cls h;obtain⟨f0,Ua⟩:∃f0,(Xb cs)[0]?=some f0:=⟨_,Qac (by have:=F.lt 0 c I;lia)⟩;have h0:=F.at_ 0 f0 Ua
  by_cases e:f0=0
  .rw[e]at h0;exact gv h0.1
  .have:=h0.2 0 c (by lia) I;lia
 refine⟨λc p t row hr hp t' ht=>?_,λt h1 h2=>?_,λrow hrow s hs=>?_⟩
 .obtain⟨f,G,rfl⟩:=z hr;obtain⟨g1,g2⟩:=F.at_ c f G;have O:f<R.length:=by rw[<-S.len];exact(Qae.mp g1).1
  rw[Qag]at hp;obtain⟨x,hx,rfl⟩:=Qa5.mp hp;have Y:=Z (Qam hx);have htl:cs.getD x 0<(Xb cs).length:=clt Y;obtain⟨J,hf'⟩:∃J,(Xb cs)[t']?=some J:=⟨_,Qac (by lia)⟩;obtain⟨k1,k2⟩:=F.at_ t' J hf';have hcx:cs[x]?=some (cs.getD x 0):=at_getD (by rw[S.len];exact Y);have hfx:J<x:=by
   rcases Qg1 J x with h|h|h
   .exact h
   .lia
   .have:=k2 x _ h hcx;lia
  have erow:R[f]?=some (R.getD f []):=Zez O;rcases C.ord f p x _ erow hx J hfx with h|⟨r',row',h3,h4,h5⟩|h
  .refine .inl ?_;have:=z0 (by lia);rw[h]at k1;rwa[gv k1]at this
  .have hr':r'<R.length:=by lia
   obtain⟨c',f2,q1,q2,q3⟩:=cls hr';refine .inr (.inl ⟨c',_,g2 r' c' h3 q1,q3,?_⟩)
   rw[Qal,h4];exact Qau.mpr ⟨J,h5,gv k1⟩
  .refine .inr (.inr ?_);rw[<-Qej];exact Qau.mpr ⟨J,h,gv k1⟩
 .rw[ll]at h2;obtain⟨f,G⟩:∃f,(Xb cs)[t]?=some f:=⟨_,Qac h2⟩;obtain⟨g1,g2⟩:=F.at_ t f G;have O:f<R.length:=by rw[<-S.len];exact(Qae.mp g1).1
  have Ua:0<f:=by
   rcases Nat.eq_zero_or_pos f with h|h
   .have:=z0 (by lia);rw[h]at g1;rw[gv g1]at this;lia
   .exact h
  obtain⟨r,row,h3,h4,h5⟩:=C.reach f Ua O;obtain⟨c',f2,q1,q2,q3⟩:=cls (j:=r) (by lia);refine⟨c',_,g2 r c' h3 q1,q3,?_⟩;rw[Qal,h4];exact Qau.mpr ⟨f,h5,gv g1⟩
 .obtain⟨c,I⟩:=Qc9.mp hrow;obtain⟨f,G,rfl⟩:=z I;obtain⟨x,hx,rfl⟩:=Qau.mp hs;rw[ll];exact clt (Z hx)
def G9.tups{H':Hp}{p:Aw}(R:G9 H p O)(e:∀b xs,H b=some (.tup xs)->H' b=some (.tup xs)):G9 H' p O:=by
 obtain⟨as,h1,h2,z⟩:=R;refine⟨as,e _ _ h1,h2,λi r hi=>?_⟩;obtain⟨a,F,g2⟩:=z i r hi;exact⟨a,F,e _ _ g2⟩
def M4.tups{H H':Hp}{m:Aw}{nm:Ai}{b:Nat}{nx:Ad}{ot:Az}(M:M4 H m nm b nx ot)(e:∀b xs,H b=some (.tup xs)->H' b=some (.tup xs)):M4 H' m nm b nx ot:=by
 obtain⟨pn,ps,G,h1,h2,F,z⟩:=M.ex;exact⟨⟨pn,ps,G,e _ _ h1,e _ _ h2,F.tups e,z.tups e⟩⟩
def Zm8{o:HO}(F:hide J H a=none)(G:∀c∈J,upd (hide J H) a o c=none):ZG H (WC J H (upd (hide J H) a o))/\WC J H (upd (hide J H) a o) a=some o:=by
 have m:a∉J:=λm=>by
  have:=G a m;rw[Za]at this;cases this
 refine⟨λb u e=>?_,by rw[Yp m];exact Za⟩
 by_cases z:b∈J
 .rw[WZ z];exact e
 .rw[ZA m]at F;rw[Yp z,Zj (Zm e F),ZA z];exact e
def Zfn(ot:Az):List (Ak):=ot.map λr=>r.map λv=>(vB v).getD 0
def Zm9{ot:Az}(h:∀r∈ot,∀v∈r,∃x,vB v=some x):ot.map (λr=>r.map vB)=(Zfn ot).map (λk=>k.map some):=by
 unfold Zfn;rw[Qay];refine Qbo λr F=>?_;show _=(r.map _).map some;rw[Qay];refine Qbo λv z=>?_;obtain⟨x,e⟩:=h r F v z;show vB v=some ((vB v).getD 0);rw[e]
 rfl
def jR.lt{nx:Ad}{b:Nat}{l:Aj}(B:jR nx b l)(z:b<nx.length)(F:∀row∈nx,∀s∈row,s<nx.length){s:Nat}(h:s∈l):s<nx.length:=by
 rw[B.e]at h;exact Ze1 z F _ s h
def jR.len{nx:Ad}{b:Nat}{l:Aj}(B:jR nx b l)(z:b<nx.length)(G:∀row∈nx,∀s∈row,s<nx.length):l.length<=nx.length:=by
 have:=(by
    have:=Xx (zA nx b _) λx F=>Qbw.mpr (Ze1 z G l.length x F);rw[Qa3]at this;exact this)
 rw[<-B.e]at this;exact this
def Zo8{nm:Ai}{b:Nat}{nx:Ad}{ot:Az}{l:Aj}(W:Wf nm b nx ot j)(B:jR nx b l):Wf nm 0 (rnR nx l) (rnQ ot l) j:=by
 have G:∀s∈l,s<nx.length:=λs h=>B.lt W.b W.nl h;have F:∀r∈rnQ ot l,r∈ot:=λr h=>by
  obtain⟨s,z,rfl⟩:=Qau.mp h;exact getD_mem (by rw[W.ol];exact G s z)
 refine⟨W.n3,?_,?_,?_,λr e=>?_,(yT B).lt,λr e=>W.or r (F r e),λr e=>W.ok r (F r e),λr e=>W.bit r (F r e)⟩
 .rw[Gd];exact(Qae.mp B.zero).1
 .rw[Gd];exact Qa9 (B.len W.b W.nl) W.le
 .rw[Gd];exact Qab ..
 .obtain⟨s,z,rfl⟩:=Qau.mp e;rw[Qab];exact W.nr _ (getD_mem (G s z))
def wf_ls{nm:Ai}{cs:Aj}(W:Wf nm 0 R O j)(C:Canon R)(S:Zgp R cs):Wf nm 0 (lsR R cs) (lsO O cs) j:=by
 have F:=x5 S.nn;have J:∀f∈Xb cs,f<R.length:=λf h=>by
  obtain⟨c,Ua⟩:=Qc9.mp h;rw[<-S.len];exact(Qae.mp (F.at_ c f Ua).1).1
 have G:∀r∈lsO O cs,r∈O:=λr h=>by
  obtain⟨s,I,rfl⟩:=Qau.mp h;exact getD_mem (by rw[W.ol];exact J s I)
 have z:(lsR R cs).length=(Xb cs).length:=Qab ..;refine⟨W.n3,?_,?_,?_,λr e=>?_,(Zin C S).lt,λr e=>W.or r (G r e),λr e=>W.ok r (G r e),λr e=>W.bit r (G r e)⟩
 .rw[z];exact Qd1 (Qbl _) (F.lt 0 _ (at_getD (by rw[S.len];exact W.b)))
 .rw[z];have:=kN cs;have h2:=W.le;rw[S.len]at this;lia
 .rw[z];exact Qab ..
 .obtain⟨s,I,rfl⟩:=Qau.mp e;rw[Qab];exact W.nr _ (getD_mem (J s I))
theorem Zna{nm:Ai}{b:Nat}{nx:Ad}{ot:Az}(W:Wf nm b nx ot j):ot.map (λr=>r.map vB)=(Zfn ot).map (λk=>k.map some):=Zm9 λr e v z=>by
 rcases W.bit r e v z with h|h
 .exact⟨_,h⟩
 .exact⟨_,h⟩
def Zfo(cs:Aj)(s:Nat):(cs.map λc:Nat=>(c:Int)).getD s 0=((cs.getD s 0:Nat):Int):=by grind
structure AlR(nx nx':Ad)(ot ot':Az)(b b':Nat)(A:Nat->Nat->Prop):Prop where
 b:A b b'
 lt:∀s c,A s c->s<nx.length/\c<nx'.length
 fn:∀s c c':Nat,A s c->A s c'->c=c'
 out:∀s c,A s c->ot'.getD c []=ot.getD s []
 next:∀s c p x y:Nat,A s c->(nx.getD s [])[p]?=some x->(nx'.getD c [])[p]?=some y->A x y
def vB_inj{v F:V}(h:Xp j v)(h':Xp j F)(e:(vB v).getD 0=(vB F).getD 0):v=F:=by
 rcases h with⟨G,x,rfl⟩|⟨G,x,rfl⟩<;>rcases h' with⟨z,y,rfl⟩|⟨z,y,rfl⟩
 .cases x<;>cases y
  .rfl
  .cases e
  .cases e
  .rfl
 .rw[G]at z;cases z
 .rw[G]at z;cases z
 .have e:x=y:=e;rw[e]
theorem uT{G:Bool}:∀{r z:A2},(∀v∈r,Xp G v)->(∀v∈z,Xp G v)->r.map (λv=>(vB v).getD 0)=z.map (λv=>(vB v).getD 0)->r=z
 |[],[],_,_,_=>rfl
 |[],_::_,_,_,e=>by cases e
 |_::_,[],_,_,e=>by cases e
 |v::r,I::z,h,h',e=>by
  injection e with e1 e2;rw[vB_inj (h v Qah) (h' I Qah) e1,uT (λv F=>h v (Qai _ F)) (λv F=>h' v (Qai _ F)) e2]
def Al(l cs:Aj)(s c:Nat):Prop:=∃i:Nat,l[i]?=some s/\cs[i]?=some c
def al_ok{nm:Ai}{b:Nat}{nx:Ad}{ot:Az}{tr:Bool}{l:Aj}(W:Wf nm b nx ot tr)(B:jR nx b l)(S:Zgp (rnR nx l) r)(hc:Zba (Zfn (rnQ ot l)) r):AlR nx (lsR (rnR nx l) r) ot (lsO (rnQ ot l) r) b 0 (Al l r):=by
 have F:=x5 S.nn;have hn:=B.nodup;have z:r.length=l.length:=by rw[S.len,Gd]
 have I:∀{s c:Nat},Al l r s c->∃i f,l[i]?=some s/\r[i]?=some c/\(Xb r)[c]?=some f/\r[f]?=some c:=λ{s c} h=>by
  obtain⟨i,h1,h2⟩:=h;obtain⟨f,hf⟩:∃f,(Xb r)[c]?=some f:=⟨_,Qac (F.lt i c h2)⟩;exact⟨i,f,h1,h2,hf,(F.at_ c f hf).1⟩
 refine⟨⟨0,B.zero,?_⟩,λs c h=>?_,λs c c' h h'=>?_,λs c h=>?_,λs c p x y h hx hy=>?_⟩
 .have h0:=at_getD (by rw[z];exact(Qae.mp B.zero).1);rw[h0];rcases Nat.eq_zero_or_pos (r.getD 0 0)with h|h
  .rw[h]
  .obtain⟨j,hj,_⟩:=uS r 0 _ (by rw[S.nn];exact h0) 0 h;exact absurd hj (Qed _)
 .obtain⟨i,f,h1,h2,J,_⟩:=I h;refine⟨B.lt W.b W.nl (Qam h1),?_⟩;show c<((Xb r).map _).length;rw[Qab];exact(Qae.mp J).1
 .obtain⟨i,h1,h2⟩:=h;obtain⟨i',Y,O⟩:=h';have e2:=Xq hn Y;rw[<-Xq hn h1]at h2;rw[<-e2,h2]at O;exact Option.some.inj O
 .obtain⟨i,f,h1,h2,J,Ua⟩:=I h;have Z:f<l.length:=by rw[<-z];exact(Qae.mp Ua).1
  have g:∀{j s':Nat},l[j]?=some s'->(Zfn (rnQ ot l))[j]?=some _:=λ{j s'} e=>by
   unfold Zfn rnQ;rw[Qay,Qag,e];rfl
  obtain⟨s',G⟩:∃s',l[f]?=some s':=⟨_,Qac Z⟩;have e:=hc f i _ _ (g G) (g h1) (by rw[Ua,h2]);have kd:∀{s:Nat},s∈l->∀v∈ot.getD s [],Xp tr v:=λ{s} h=>W.ok _ (getD_mem (by rw[W.ol];exact B.lt W.b W.nl h));have e2:=uT (kd (Qam G)) (kd (Qam h1)) e;unfold lsO rnQ;rw[Qal,Qag,J];show(l.map _).getD f []=_;rw[Qal,Qag,G];exact e2
 .obtain⟨i,f,h1,h2,J,Ua⟩:=I h;have er:(lsR (rnR nx l) r).getD c []=((rnR nx l).getD f []).map λx=>r.getD x 0:=by
   unfold lsR;rw[Qal,Qag,J];rfl
  have ei:(rnR nx l).getD i []=(nx.getD s []).map λx=>l.idxOf x:=by
   unfold rnR;rw[Qal,Qag,h1];rfl
  rw[er,S.row Ua h2,ei,Qay,Qag,hx]at hy;have hm:=B.next h1 (Qam hx);refine⟨l.idxOf x,(by grind),?_⟩;rw[<-hy];exact at_getD (by rw[z];exact Qbi hm)
def kO{x:V}(G:Xp j x)(F:Xp j y):Zpd x y=true:=by
 rcases G with⟨e,a,rfl⟩|⟨e,a,rfl⟩<;>rcases F with⟨z,b,rfl⟩|⟨z,b,rfl⟩
 .rfl
 .rw[e]at z;cases z
 .rw[e]at z;cases z
 .rfl
structure Bis(nx nx':Ad)(ot ot':Az)(b b':Nat)(A:Nat->Nat->Prop):Prop where
 b:A b b'
 lt:∀s c,A s c->s<nx.length/\c<nx'.length
 out:∀s c,A s c->ot'.getD c []=ot.getD s []
 next:∀s c p x y:Nat,A s c->(nx.getD s [])[p]?=some x->(nx'.getD c [])[p]?=some y->A x y
def AlR.bis{nx e:Ad}{ot:Az}{b:Nat}{A:Nat->Nat->Prop}(R:AlR nx e ot O b i A):Bis nx e ot O b i A:=⟨R.b,R.lt,R.out,R.next⟩
structure Lst(nm:Ai)(b:Nat)(nx:Ad)(ot:Az)(tr:Bool)(l cs:Aj):Prop where
 W:Wf nm b nx ot tr
 B:jR nx b l
 e:cs=Zgo (rnR nx l) (Zfn (rnQ ot l)) l.length
 S:Zgp (rnR nx l) cs
 C:Zba (Zfn (rnQ ot l)) cs
def Lst.al{nm:Ai}{b:Nat}{nx:Ad}{ot:Az}{l:Aj}(L:Lst nm b nx ot j l r):AlR nx (lsR (rnR nx l) r) ot (lsO (rnQ ot l) r) b 0 (Al l r):=al_ok L.W L.B L.S L.C
def Lst.W2{nm:Ai}{b:Nat}{nx:Ad}{ot:Az}{l:Aj}(L:Lst nm b nx ot j l r):Wf nm 0 (lsR (rnR nx l) r) (lsO (rnQ ot l) r) j:=wf_ls (Zo8 L.W L.B) (yT L.B) L.S
def Wf.row{nm:Ai}{b:Nat}{nx:Ad}{ot:Az}(W:Wf nm b nx ot j){s:Nat}(h:s<nx.length):(nx.getD s []).length=2^nm.length:=W.nr _ (getD_mem h)
theorem Znb{nx:Ad}{b:Nat}{l:Aj}(B:BfE (λs=>nx.getD s []) b l):jR nx b l:=by
 have e:∀i,i<=l.length->xa nx b i=bfN (λs=>nx.getD s []) b i:=by
  intro i
  induction i with
  |zero=>exactλ_=>U
  |succ i z=>
   intro h;obtain⟨s,F⟩:∃s,(bfN _ b i)[i]?=some s:=⟨_,Qac (B.go i (by lia))⟩;show Zh9 nx _ i=_;rw[z (by lia),yL F];unfold Zh9;have:(bfN (λs=>nx.getD s []) b i).getD i 0=s:=by grind
   rw[this]
 exact⟨by rw[e _ (Qaj _)];exact B.e,λi hi=>by rw[e i (by lia)];exact B.go i hi⟩
theorem Zko{nx:Ad}{ot:Az}{n:Nat}(R:Runs nx ot n):∀{ls:Aj} {s:Nat},s<nx.length->(∀x∈ls,x<2^n)->stN nx s ls<nx.length
 |[],s,h,_=>h
 |c::ls,s,h,e=>by
  have G:=e c Qah;have F:=R.nr _ (getD_mem h);exact Zko (ls:=ls) R (R.nl _ (getD_mem h) _ (Qam (getD_at (by lia)))) λx z=>e x (Qai _ z)
theorem Zfp{nx e:Ad}{ot F:Az}{b O n:Nat}{A:Nat->Nat->Prop}(M:Bis nx e ot F b O A)(I:∀r∈nx,r.length=2^n)(z:∀r∈e,r.length=2^n):∀{ls:Aj} {s s':Nat},A s s'->(∀x∈ls,x<2^n)->rnO nx ot s ls=rnO e F s' ls
 |[],_,_,_,_=>rfl
 |c::ls,s,s',h,G=>by
  have Y:=G c Qah;obtain⟨J,g2⟩:=M.lt s s' h;have Z:=I _ (getD_mem J);have l2:=z _ (getD_mem g2);show _::_=_::_;rw[M.out s s' h,Zfp M I z (M.next s s' c _ _ h (getD_at (by lia)) (getD_at (by lia))) λx Ua=>G x (Qai _ Ua)]
section
variable {nx:Nat->Nat->Nat}{ok:Nat->Nat->Bool}{k:Nat}
def YC(nx:Nat->Nat->Nat)(ok:Nat->Nat->Bool):Nat->List Nat->Bool
 |_,[]=>false
 |s,l::[]=>ok s l
 |s,l::m::r=>YC nx ok (nx s l) (m::r)
def X4{s l:Nat}(h:r≠[]):YC nx ok s (l::r)=YC nx ok (nx s l) r:=by
 cases r with
 |nil=>exact absurd U h
 |cons m r=>rfl
def RIn:Aj->List (Aj)->Prop
 |[],[]=>True
 |l::r,L::Ls=>l∈L/\RIn r Ls
 |_,_=>False
theorem RIn.len:∀{r:Aj} {Ls:Ad},RIn r Ls->r.length=Ls.length
 |[],[],_=>rfl
 |_::_,_::_,h=>congrArg _ h.2.len
 |[],_::_,h=>h.elim
 |_::_,[],h=>h.elim
def RIn.uncons{L:Aj}{Ls:Ad}(h:RIn r (L::Ls)):∃l e,r=l::e/\l∈L/\RIn e Ls:=by
 cases r with
 |nil=>exact h.elim
 |cons l e=>exact⟨l,e,U,h.1,h.2⟩
def qw(k l:Nat):Nat:=l/2^k%2
def yU(k l:Nat):qw k l<2:=Qhl _ (by decide)
def chB(k b:Nat)(L:Aj):Aj:=L.filter λl=>decide (qw k l=b)
def Wz{b l:Nat}{L:Aj}:l∈chB k b L↔l∈L/\qw k l=b:=by
 unfold chB;rw[Qdc,Qdp]
def valN(k:Nat):Aj->Nat
 |[]=>0
 |l::r=>qw k l+2*valN k r
def Zfq:Aj->Nat
 |[]=>0
 |b::r=>b+2*Zfq r
def gw(nx:Nat->Nat->Nat)(ok:Nat->Nat->Bool)(W:Option (Aj))(s l:Nat):Bool:=match W with
 |none=>ok s l
 |some W=>decide (nx s l∈W)
def goB(nx:Nat->Nat->Nat)(ok:Nat->Nat->Bool)(W:Option (Aj))(S L:Aj):Aj:=S.filter λs=>L.any λl=>gw nx ok W s l
def yV{W:Option (Aj)}{S L:Aj}{s:Nat}:s∈goB nx ok W S L↔s∈S/\∃l∈L,gw nx ok W s l=true:=by
 unfold goB;rw[Qdc,Qdi]
def cho(k:Nat):Aj->List (Aj)->List (Aj)
 |b::bs,L::Ls=>chB k b L::cho k bs Ls
 |_,_=>[]
def kP(nx:Nat->Nat->Nat)(ok:Nat->Nat->Bool)(k:Nat)(W:Option (Aj))(S L:Aj):Nat:=if goB nx ok W S (chB k 0 L)=[]then 1 else 0
def lwb(nx:Nat->Nat->Nat)(ok:Nat->Nat->Bool)(k:Nat):Ad->List (Aj)->List Nat×Option (Aj)
 |S::e,L::Ls=>(kP nx ok k (lwb nx ok k e Ls).2 S L::(lwb nx ok k e Ls).1,some (goB nx ok (lwb nx ok k e Ls).2 S (chB k (kP nx ok k (lwb nx ok k e Ls).2 S L) L)))
 |_,_=>([],none)
def Zbb(nx:Nat->Nat->Nat)(S L:Aj):Aj:=(S.flatMap λs=>L.map (nx s)).foldl Yw []
def lys(nx:Nat->Nat->Nat):Aj->List (Aj)->List (Aj)
 |_,[]=>[]
 |S,L::Ls=>S::lys nx (Zbb nx S L) Ls
def GH{S L:Aj}{x:Nat}:x∈Zbb nx S L↔∃s∈S,∃l∈L,nx s l=x:=by
 unfold Zbb;rw[GC];constructor
 .grind
 .grind
def Zfr(W:Option (Aj))(S L:Aj):kP nx ok k W S L<=1:=by
 unfold kP;split<;>decide
theorem Zfs:∀{bs:Aj} {Ls:Ad} {r:Aj},bs.length=Ls.length->(RIn r (cho k bs Ls)↔RIn r Ls/\valN k r=Zfq bs/\∀b∈bs,b<2)\/¬∀b∈bs,b<2
 |[],[],r,_=>.inl ⟨λh=>⟨h,by cases r with|nil=>exact⟨rfl,λ_ z=>nomatch z⟩|cons _ _=>exact h.elim⟩,λh=>h.1⟩
 |b::bs,L::Ls,r,h=>by
  by_cases G:∀x∈b::bs,x<2
  .refine .inl ⟨λq=>?_,λ⟨Y,Z,_⟩=>?_⟩
   .obtain⟨l,F,rfl,h1,h2⟩:=q.uncons;obtain⟨O,I⟩:=Wz.mp h1;rcases Zfs (r:=F) (show bs.length=Ls.length by simpa using h)with z|z
    .obtain⟨J,g2,g3⟩:=z.mp h2;exact⟨⟨O,J⟩,by show qw k l+2*valN k F=b+2*Zfq bs;rw[I,g2],G⟩
    .grind
   .obtain⟨l,F,rfl,h1,h2⟩:=Y.uncons;have e:qw k l+2*valN k F=b+2*Zfq bs:=Z;have:=yU k l;have:=G b Qah;rcases Zfs (r:=F) (show bs.length=Ls.length by simpa using h)with z|z
    .exact⟨Wz.mpr ⟨h1,by lia⟩,z.mpr ⟨h2,by lia,λx Ua=>G x (Qai _ Ua)⟩⟩
    .grind
  .exact .inr G
 |[],_::_,_,h=>nomatch h
 |_::_,[],_,h=>nomatch h
theorem yW:∀(Ls:Ad)(S:Aj),(lwb nx ok k (lys nx S Ls) Ls).1.length=Ls.length/\∀b∈(lwb nx ok k (lys nx S Ls) Ls).1,b<2
 |[],_=>⟨U,λ_ h=>nomatch h⟩
 |L::Ls,S=>by
  obtain⟨h1,h2⟩:=yW Ls _;refine⟨congrArg _ h1,λb e=>?_⟩;rcases Qas.mp e with rfl|e
  .exact Nat.lt_succ_of_le (Zfr _ _ _)
  .exact h2 b e
def gy{Ls:Ad}{S:Aj}:RIn r (cho k (lwb nx ok k (lys nx S Ls) Ls).1 Ls)↔RIn r Ls/\valN k r=Zfq (lwb nx ok k (lys nx S Ls) Ls).1:=by
 obtain⟨h1,h2⟩:=yW (nx:=nx) (ok:=ok) (k:=k) Ls S;rcases Zfs (k:=k) (r:=r) h1 with z|z
 .grind
 .exact absurd h2 z
structure LwOk(nx:Nat->Nat->Nat)(ok:Nat->Nat->Bool)(k:Nat)(Ls:Ad)(S:Aj)(W:Aj):Prop where
 w:(lwb nx ok k (lys nx S Ls) Ls).2=some W
 a:∀s,s∈W↔s∈S/\∃r,RIn r (cho k (lwb nx ok k (lys nx S Ls) Ls).1 Ls)/\YC nx ok s r=true
 b:∀s∈S,∀r,RIn r Ls->YC nx ok s r=true->Zfq (lwb nx ok k (lys nx S Ls) Ls).1<=valN k r
 c:(∃s∈S,∃r,RIn r Ls/\YC nx ok s r=true)->W≠[]
theorem Zo9:∀(Ls:Ad)(S:Aj),Ls≠[]->∃W,LwOk nx ok k Ls S W
 |[],_,h=>absurd U h
 |L::Ls,S,_=>by
  have key:(∀s∈S,∀l∈L,(gw nx ok (lwb nx ok k (lys nx (Zbb nx S L) Ls) Ls).2 s l=true↔∃F,RIn F (cho k (lwb nx ok k (lys nx (Zbb nx S L) Ls) Ls).1 Ls)/\YC nx ok s (l::F)=true)) /\
    (∀s∈S,∀l∈L,∀F,RIn F Ls->YC nx ok s (l::F)=true->Zfq (lwb nx ok k (lys nx (Zbb nx S L) Ls) Ls).1<=valN k F) /\
    ((∃s∈S,∃l∈L,∃F,RIn F Ls/\YC nx ok s (l::F)=true)->∃s∈S,∃l∈L,gw nx ok (lwb nx ok k (lys nx (Zbb nx S L) Ls) Ls).2 s l=true):=by
   cases Ls with
   |nil=>
    refine⟨λs J l G=>⟨λh=>⟨[],trivial,h⟩,λ⟨F,h1,h2⟩=>?_⟩,λs J l G F _ _=>Qbl _,λ⟨s,J,l,G,F,h1,h2⟩=>⟨s,J,l,G,?_⟩⟩
    .cases F with
     |nil=>exact h2
     |cons _ _=>exact h1.elim
    .cases F with
     |nil=>exact h2
     |cons _ _=>exact h1.elim
   |cons L' O=>
    obtain⟨W,I⟩:=Zo9 (L'::O) (Zbb nx S L) (by simp);have ne:∀{F:Aj} {M:Aj} {Ms:Ad},RIn F (M::Ms)->F≠[]:=λ{F M Ms} h z=>by rw[z]at h;exact h
    have ne2:∀{F:Aj},RIn F (cho k (lwb nx ok k (lys nx (Zbb nx S L) (L'::O)) (L'::O)).1 (L'::O))->F≠[]:=λ{F} h=>ne (gy.mp h).1;refine⟨λs J l G=>?_,λs J l G F h1 h2=>?_,λ⟨s,J,l,G,F,h1,h2⟩=>?_⟩
    .rw[I.w];show decide (nx s l∈W)=true↔_;rw[Qdp,I.a];constructor
     .rintro⟨_,F,h1,h2⟩;exact⟨F,h1,by rw[X4 (ne2 h1)];exact h2⟩
     .rintro⟨F,h1,h2⟩;rw[X4 (ne2 h1)]at h2;exact⟨GH.mpr ⟨s,J,l,G,U⟩,F,h1,h2⟩
    .rw[X4 (ne h1)]at h2;exact I.b _ (GH.mpr ⟨s,J,l,G,U⟩) F h1 h2
    .rw[X4 (ne h1)]at h2;have hW:=I.c ⟨_,GH.mpr ⟨s,J,l,G,U⟩,F,h1,h2⟩;obtain⟨x,hx⟩:=List.exists_mem_of_ne_nil _ hW;obtain⟨s0,Ua,Z,Y,e⟩:=GH.mp ((I.a x).mp hx).1;refine⟨s0,Ua,Z,Y,?_⟩;rw[I.w];show decide (nx s0 Z∈W)=true;rw[e];exact Qan hx
  obtain⟨k1,k2,k3⟩:=key;have cl:=λF=>gy (nx:=nx) (ok:=ok) (k:=k) (Ls:=Ls) (S:=Zbb nx S L) (r:=F);generalize hT:lwb nx ok k (lys nx (Zbb nx S L) Ls) Ls=T at k1 k2 k3 cl;have e:lwb nx ok k (lys nx S (L::Ls)) (L::Ls)=(kP nx ok k T.2 S L::T.1,some (goB nx ok T.2 S (chB k (kP nx ok k T.2 S L) L))):=by rw[<-hT];rfl
  refine⟨goB nx ok T.2 S (chB k (kP nx ok k T.2 S L) L),?_,?_,?_,?_⟩
  .rw[e]
  .intro s;rw[e,yV];constructor
   .rintro⟨J,l,G,h⟩;obtain⟨F,h1,h2⟩:=(k1 s J l (Wz.mp G).1).mp h;exact⟨J,l::F,⟨G,h1⟩,h2⟩
   .rintro⟨J,r,h1,h2⟩;obtain⟨l,F,rfl,G,h3⟩:=RIn.uncons h1;exact⟨J,l,G,(k1 s J l (Wz.mp G).1).mpr ⟨F,h3,h2⟩⟩
  .intro s J r h1 h2;obtain⟨l,F,rfl,G,h3⟩:=RIn.uncons h1;rw[e];show kP nx ok k T.2 S L+2*Zfq T.1<=qw k l+2*valN k F;have q1:=k2 s J l G F h3 h2;have q2:=Zfr (nx:=nx) (ok:=ok) (k:=k) T.2 S L;rcases Qgp (Zfq T.1) (valN k F)with q|q
   .lia
   .have q3:valN k F=Zfq T.1:=by lia
    have q4:=(k1 s J l G).mpr ⟨F,(cl F).mpr ⟨h3,q3⟩,h2⟩;have q5:kP nx ok k T.2 S L<=qw k l:=by
     unfold kP;split
     .rename_i hz;have:qw k l≠0:=λz=>by
       have:s∈goB nx ok T.2 S (chB k 0 L):=yV.mpr ⟨J,l,Wz.mpr ⟨G,z⟩,q4⟩;rw[hz]at this;cases this
      lia
     .exact Qbl _
    lia
  .rintro⟨s,J,r,h1,h2⟩ hz;obtain⟨l,F,rfl,G,h3⟩:=RIn.uncons h1;obtain⟨s0,Ua,Z,Y,h4⟩:=k3 ⟨s,J,l,G,F,h3,h2⟩;have no:∀b,qw k Z=b->goB nx ok T.2 S (chB k b L)≠[]:=λb hb z=>by
    have:s0∈goB nx ok T.2 S (chB k b L):=yV.mpr ⟨Ua,Z,Wz.mpr ⟨Y,hb⟩,h4⟩;rw[z]at this;cases this
   have h01:=yU k Z;unfold kP at hz;split at hz
   .rename_i h0;exact no 1 (by have:qw k Z≠0:=λz=>no 0 z h0;lia) hz
   .rename_i h0;exact h0 hz
end
def itL(nx:Nat->Nat->Nat)(ok:Nat->Nat->Bool)(b:Nat)(Ls:Ad):Nat->List (Aj)
 |0=>Ls
 |k+1=>cho k (lwb nx ok k (lys nx [b] (itL nx ok b Ls k)) (itL nx ok b Ls k)).1 (itL nx ok b Ls k)
section
variable {nx:Nat->Nat->Nat}{ok:Nat->Nat->Bool}{b:Nat}{Ls:Ad}
def itB(nx:Nat->Nat->Nat)(ok:Nat->Nat->Bool)(b:Nat)(Ls:Ad)(k:Nat):Nat:=Zfq (lwb nx ok k (lys nx [b] (itL nx ok b Ls k)) (itL nx ok b Ls k)).1
def Zft{k:Nat}:RIn r (itL nx ok b Ls (k+1))↔RIn r (itL nx ok b Ls k)/\valN k r=itB nx ok b Ls k:=gy
theorem GI{r:Aj}:∀{k:Nat},RIn r (itL nx ok b Ls k)->RIn r Ls/\∀j,j<k->valN j r=itB nx ok b Ls j
 |0,h=>⟨h,λj z=>absurd z (Qed _)⟩
 |k+1,h=>by
  obtain⟨h1,h2⟩:=Zft.mp h;obtain⟨F,g2⟩:=GI h1;refine⟨F,λj z=>?_⟩
  by_cases e:j=k
  .rw[e];exact h2
  .exact g2 j (by lia)
theorem Zkp(e:Ls≠[])(h:∃r,RIn r Ls/\YC nx ok b r=true):∀k,itL nx ok b Ls k≠[]/\(∃r,RIn r (itL nx ok b Ls k)/\YC nx ok b r=true) /\
  ∀r,RIn r Ls->YC nx ok b r=true->RIn r (itL nx ok b Ls k)\/∃j,j<k/\(∀i,i<j->valN i r=itB nx ok b Ls i)/\itB nx ok b Ls j<valN j r
 |0=>⟨e,h,λr h1 _=>.inl h1⟩
 |k+1=>by
  obtain⟨J,⟨r0,g1,g2⟩,g3⟩:=Zkp e h k;obtain⟨W,I⟩:=Zo9 (k:=k) _ [b] J;have Z:=I.c ⟨b,Qat.mpr U,r0,g1,g2⟩;obtain⟨x,hx⟩:=List.exists_mem_of_ne_nil _ Z;obtain⟨hb,G,h1,h2⟩:=(I.a x).mp hx;rw[Qat.mp hb]at h2;refine⟨λz=>?_,⟨G,h1,h2⟩,λr q1 Ua=>?_⟩
  .have h1:RIn G (itL nx ok b Ls (k+1)):=h1;have O:=h1.len;have Y:=(Zft.mp h1).1.len;rw[z]at O;cases hz:itL nx ok b Ls k with
   |nil=>exact J hz
   |cons _ _=>rw[hz,O]at Y;cases Y
  .rcases g3 r q1 Ua with q|⟨j,hj,q3,q4⟩
   .have le:=I.b b (Qat.mpr U) r q Ua;rcases Qgp _ _ with F|F
    .exact .inr ⟨k,Qdz k,(GI q).2,F⟩
    .have le:itB nx ok b Ls k<=valN k r:=le;exact .inl (Zft.mpr ⟨q,by lia⟩)
   .grind
end
theorem Zio:∀{l m:Nat},l<2^n->m<2^n->(∀k,k<n->qw k l=qw k m)->l=m:=by
 induction n with
 |zero=>intro l m h1 h2 _;lia
 |succ n e=>
  intro l m h1 h2 h;have z:=h 0 (Nat.succ_pos _);unfold qw at z;have:=e (l:=l/2) (m:=m/2) (by lia) (by lia) λk F=>by
   have:=h (k+1) (by lia);unfold qw at this ⊢;rw[Nat.pow_succ',<-Nat.div_div_eq_div_mul,<-Nat.div_div_eq_div_mul]at this;exact this
  lia
theorem Zfu{n:Nat}:∀{r t:Aj},r.length=t.length->(∀l∈r,l<2^n)->(∀l∈t,l<2^n)->(∀k,k<n->valN k r=valN k t)->r=t
 |[],[],_,_,_,_=>rfl
 |l::r,m::t,h,h1,h2,I=>by
  have G:∀k,k<n->qw k l=qw k m/\valN k r=valN k t:=λk z=>by
   have e:qw k l+2*valN k r=qw k m+2*valN k t:=I k z;have:=yU k l;have:=yU k m;lia
  rw[Zio (h1 l Qah) (h2 m Qah) λk z=>(G k z).1,Zfu (by grind) (λx F=>h1 x (Qai _ F)) (λx F=>h2 x (Qai _ F)) λk z=>(G k z).2]
 |[],_::_,h,_,_,_=>nomatch h
 |_::_,[],h,_,_,_=>nomatch h
structure yX(nx:Nat->Nat->Nat)(ok:Nat->Nat->Bool)(b n w:Nat)(r:Aj):Prop where
 len:r.length=w
 lt:∀l∈r,l<2^n
 last:YC nx ok b r=true
 fst:∀t:Aj,t.length=w->(∀l∈t,l<2^n)->YC nx ok b t=true->t=r\/∃j,j<n/\(∀i,i<j->valN i t=valN i r)/\valN j r<valN j t
theorem zL{n:Nat}:∀{w:Nat} {r:Aj},RIn r (List.replicate w (List.range n))↔r.length=w/\∀l∈r,l<n
 |0,[]=>⟨λ_=>⟨U,λ_ h=>nomatch h⟩,λ_=>trivial⟩
 |0,_::_=>⟨λh=>h.elim,λh=>nomatch h.1⟩
 |w+1,[]=>⟨λh=>h.elim,λh=>nomatch h.1⟩
 |w+1,l::r=>by
  show l∈List.range n/\RIn r _↔_;rw[zL,Qbw];constructor
  .grind
  .rintro⟨h1,h2⟩;exact⟨h2 l Qah,by grind,λx e=>h2 x (Qai _ e)⟩
theorem kQ:∀{r:Aj} {Ls:Ad},RIn r Ls->RIn (Ls.map λL=>L.headD 0) Ls
 |[],[],_=>trivial
 |l::r,L::Ls,h=>by
  refine⟨?_,kQ h.2⟩;cases L with
  |nil=>exact nomatch h.1
  |cons x L=>exact Qah
 |[],_::_,h=>h.elim
 |_::_,[],h=>h.elim
def Zfv{nx:Nat->Nat->Nat}{ok:Nat->Nat->Bool}{b w:Nat}(hw:0<w)(h:∃r,r.length=w/\(∀l∈r,l<2^n)/\YC nx ok b r=true):
  yX nx ok b n w ((itL nx ok b (List.replicate w (List.range (2^n))) n).map λL=>L.headD 0):=by
 have G:List.replicate w (List.range (2^n))≠[]:=λz=>by
  have:=congrArg List.length z;rw[Qav]at this;have:w=0:=this;lia
 obtain⟨r,h1,h2,Ua⟩:=h;obtain⟨_,⟨r0,I,g2⟩,g3⟩:=Zkp (nx:=nx) (ok:=ok) (b:=b) G ⟨r,zL.mpr ⟨h1,h2⟩,Ua⟩ n;have hh:=kQ I;obtain⟨a1,a2⟩:=GI I;obtain⟨b1,b2⟩:=GI hh;have F:=zL.mp a1;have O:=zL.mp b1;have e:=Zfu (n:=n) (by rw[F.1,O.1]) F.2 O.2 λk Y=>by grind
 rw[<-e];refine⟨F.1,F.2,g2,λt J t2 Z=>?_⟩;rcases g3 t (zL.mpr ⟨J,t2⟩) Z with z|⟨j,hj,z1,z2⟩
 .obtain⟨d1,d2⟩:=GI z;exact .inl (Zfu (n:=n) (by rw[J,F.1]) t2 F.2 λk Y=>by grind)
 .grind
def mN(R:Ad)(s c:Nat):Nat:=(R.getD s []).getD c 0
def mB(O:Az)(v:V)(s c:Nat):Bool:=decide ((O.getD s []).getD c .non=v)
theorem W6(R:Ad)(ok:Nat->Nat->Bool):∀(ls:Aj)(s c:Nat),YC (mN R) ok s (ls++[c])=ok (stN R s ls) c
 |[],_,_=>rfl
 |l::ls,s,c=>by
  rw[List.cons_append,X4 (by simp)];exact W6 R ok ls _ c
def twK(l:Aj):A0:=l.map λs:Nat=>((Sum.inl (s:Int):Key),V.bl true)
theorem yY(s:Nat):∀l:Aj,(Ym (twK l) (.inl (s:Int))).isSome=decide (s∈l)
 |[]=>rfl
 |x::l=>by
  show(Ym ((Sum.inl _,V.bl true)::twK l) _).isSome=_
  by_cases e:x=s
  .subst e;rw[Yg U];exact(Qan Qah).symm
  .rw[Ya (λz=>e (by grind)),yY s l];exact Qce.mpr ⟨λh=>Qai _ h,λh=>(Qas.mp h).elim (by lia) id⟩
def Zfw(l:Aj)(s:Nat):putK (twK l) (.inl (s:Int)) (.bl true)=twK (Yw l s):=by
 by_cases h:s∈l
 .have e:Yw l s=l:=Qa2 h;rw[e];unfold putK;have z:(Ym (twK l) (.inl s)).isSome=true:=by rw[yY];exact Qan h
  rw[Qa2 (by rw[Wt];exact z)];refine Qee λi=>?_;unfold twK;rw[Qag,Qag];cases l[i]? with
  |none=>rfl
  |some x=>
   show some (if(Sum.inl _)=.inl _ then((Sum.inl _),V.bl true)else(Sum.inl _,V.bl true))=_;split<;>rfl
 .have e:Yw l s=l++[s]:=Qax h;rw[e,Zg7 _ (by
   have:=yY s l;rw[Qaq h]at this;cases q:Ym (twK l) _ with
   |none=>rfl
   |some y=>rw[q]at this;cases this)]
  unfold twK;rw[Qa6];rfl
def zM(l:Aj):(twK l).length=l.length:=Qab _
def jX(H:Hp)(e:V)(W:Option (Aj)):Prop:=(W=none/\e=.non)\/∃d l,W=some l/\e=.ref d/\Rd H d (.dK (twK l))
def SmF(H H':Hp):Prop:=∀b o,H b=some o->H' b=some o\/∃kvs u,o=.dK kvs/\H' b=some (.frz u (.dK kvs))
def SmF.of{H':Hp}(s:ZG H H'):SmF H H':=λb o e=>.inl (s b o e)
def SmF.at{H':Hp}(s:SmF H H'){b:Aw}{o:HO}(e:H b=some o)(h:∀kvs,o≠.dK kvs):H' b=some o:=by
 rcases s b o e with z|⟨kvs,u,z,_⟩
 .exact z
 .exact absurd z (h kvs)
def SmF.tup{H H':Hp}(s:SmF H H'){b:Aw}{xs:A2}(e:H b=some (.tup xs)):H' b=some (.tup xs):=s.at e λ_ z=>nomatch z
def SmF.lst{H H':Hp}(s:SmF H H'){b:Aw}{xs:A2}(e:H b=some (.lst xs)):H' b=some (.lst xs):=s.at e λ_ z=>nomatch z
theorem SmF.trans{H2:Hp}(s:SmF H g)(t:SmF g H2):SmF H H2:=λb o e=>by
 rcases s b o e with z|⟨kvs,u,rfl,z⟩
 .exact t b o z
 .exact .inr ⟨kvs,u,U,t.at z λ_ q=>nomatch q⟩
def SmF.rd{H':Hp}(s:SmF H H'){d:Aw}{kvs:A0}(h:Rd H d (.dK kvs)):Rd H' d (.dK kvs):=by
 rcases h with h|⟨u,h⟩
 .rcases s d _ h with z|⟨F,u,z,e⟩
  .exact .inl z
  .cases z;exact .inr ⟨u,e⟩
 .exact .inr ⟨u,s.at h λ_ q=>nomatch q⟩
def SmF.well{H':Hp}(s:SmF H H'){W:Option (Aj)}(h:jX H y W):jX H' y W:=by
 rcases h with h|⟨d,l,h1,h2,e⟩
 .exact .inl h
 .exact .inr ⟨d,l,h1,h2,s.rd e⟩
def SmF.free{H':Hp}(s:SmF H H'){p:Aw}(h:H' p=none):H p=none:=by
 cases e:H p with
 |none=>rfl
 |some o=>
  rcases s p o e with z|⟨_,_,_,z⟩
  .rw[h]at z;cases z
  .rw[h]at z;cases z
theorem SmF.frz{H:Hp}{a:Aw}{kvs:A0}{u:Obj}(h:Rd H a (.dK kvs))(G:∀o,H a=some (.frz o (.dK kvs))->o=u):SmF H (upd H a (.frz u (.dK kvs))):=λb o e=>by
 by_cases z:b=a
 .subst z;rcases h with h|⟨F,h⟩
  .rw[h]at e;cases e;exact .inr ⟨kvs,u,U,Za⟩
  .rw[h]at e;cases e;rw[G F h];exact .inl Za
 .exact .inl (by rw[Zj z];exact e)
theorem SmF.put{H':Hp}(s:SmF H H'){p:Aw}(F:H p=none){o:HO}:SmF H (upd H' p o):=λb u e=>by
 rcases s b u e with z|⟨kvs,w,G,z⟩
 .exact .inl (by rw[Zj (Zm e F)];exact z)
 .exact .inr ⟨kvs,w,G,by rw[Zj (Zm e F)];exact z⟩
def M4.smf{H':Hp}{m:Aw}{nm:Ai}{b:Nat}{nx:Ad}{ot:Az}(M:M4 H m nm b nx ot)(s:SmF H H'):M4 H' m nm b nx ot:=M.tups λb xs e=>s.tup e
def gz{c:Nat}(h:c<r.length):(jQ r)[c]?=some (Y9 (r.getD c 0)):=by
 unfold jQ;rw[Qag,getD_at h];rfl
def kR(H:Hp)(p:Aw)(Ls:Ad):Prop:=∃as:A2,H p=some (.lst as)/\as.length=Ls.length/\∀(i:Nat)(L:Aj),Ls[i]?=some L->∃a,as[i]?=some (V.ref a)/\H a=some (.tup (L.map Y9))
def kR.smf{H':Hp}{p:Aw}{Ls:Ad}(h:kR H p Ls)(s:SmF H H'):kR H' p Ls:=by
 obtain⟨as,h1,h2,e⟩:=h;refine⟨as,s.lst h1,h2,λi L hi=>?_⟩;obtain⟨a,z,g2⟩:=e i L hi;exact⟨a,z,s.tup g2⟩
def Zgq(H:Hp)(p:Aw)(e:Ad):Prop:=∃as:A2,H p=some (.lst as)/\as.length=e.length/\∀(i:Nat)(S:Aj),e[i]?=some S->∃a,as[i]?=some (V.ref a)/\Rd H a (.dK (twK S))
def Zgq.smf{H':Hp}{p:Aw}(h:Zgq H p R)(s:SmF H H'):Zgq H' p R:=by
 obtain⟨as,h1,h2,e⟩:=h;refine⟨as,s.lst h1,h2,λi L hi=>?_⟩;obtain⟨a,z,g2⟩:=e i L hi;exact⟨a,z,s.rd g2⟩
def Zpa(e b:Nat):V->Bool
 |.int z=>decide (qw e z.toNat=b)
 |_=>false
theorem zN(z b:Nat):∀L:Aj,(L.map Y9).filter (Zpa z b)=(chB z b L).map Y9
 |[]=>rfl
 |l::L=>by
  have F:=zN z b L;have e:Zpa z b (Y9 l)=decide (qw z l=b):=by
   show decide (qw z (l:Int).toNat=b)=_;rw[Qbf]
  unfold chB at F ⊢
  by_cases h:qw z l=b
  .grind
  .grind
def bit_of(l F b:Nat):decide (V.int (Builtin.bitAnd ((l:Int)/2^((F:Int)).toNat) 1)=V.int b)=Zpa F b (Y9 l):=by
 show _=decide _;rw[and_1,Qbf,Qbf];have e:l/2^F%2=((qw F l):Int):=by
  rfl
 rw[e];exact Qce.mpr ⟨λz=>by grind,λz=>by rw[z]⟩
def Ziq{nx:Nat->Nat->Nat}{ok:Nat->Nat->Bool}{W:Option (Aj)}{S L:Aj}{s:Nat}(e:S[i]?=some s):goB nx ok W (S.take (i+1)) L=goB nx ok W (S.take i) L++if L.any (gw nx ok W s)=true then[s]else[]:=by
 unfold goB;rw[take_snoc e,Qdo,Qcv];rfl
def Znc{nx:Nat->Nat->Nat}{ok:Nat->Nat->Bool}{W:Option (Aj)}{S L:Aj}{s:Nat}(z:S.Nodup)(e:S[i]?=some s):s∉goB nx ok W (S.take i) L:=λh=>by
 have h:=(yV.mp h).1;have F:=(Qae.mp e).1;have:(S.take i++S.drop i).Nodup:=by rw[Qcu];exact z
 refine(Qdu.mp this).2.2 s h s ?_ rfl;rw[Qb5 F,(Qae.mp e).2];exact Qah
def Znd{nx:Nat->Nat->Nat}{ok:Nat->Nat->Bool}{W:Option (Aj)}{S L:Aj}:(goB nx ok W S L).length<=S.length:=Qda _ _
theorem g7{nx:Nat->Nat->Nat}:∀(Ls:Ad)(S:Aj),(lys nx S Ls).length=Ls.length
 |[],_=>rfl
 |L::Ls,S=>congrArg (· + 1) (g7 Ls _)
theorem uU{nx:Nat->Nat->Nat}:∀{Ls:Ad} {S e L:Aj} {i:Nat},(lys nx S Ls)[i]?=some e->Ls[i]?=some L->i+1<Ls.length->(lys nx S Ls)[i+1]?=some (Zbb nx e L)
 |[],_,_,_,_,h,_,_=>nomatch h
 |[_],_,_,_,i,_,_,z=>absurd z (by simp)
 |L0::F::Ls,S,e,L,0,h,h2,_=>by
  cases h;cases h2;rfl
 |L0::F::Ls,S,e,L,i+1,h,h2,z=>uU (i:=i) h h2 (by grind)
def Zbc{nx:Nat->Nat->Nat}(S L:Aj):(Zbb nx S L).Nodup:=qt _ _ Qcj
theorem Zfx{nx:Nat->Nat->Nat}{N M:Nat}(I:∀s l,s<N->l<M->nx s l<N):∀{Ls:Ad} {S:Aj},S.Nodup->(∀s∈S,s<N)->(∀L∈Ls,∀l∈L,l<M)->∀e∈lys nx S Ls,e.Nodup/\∀s∈e,s<N
 |[],_,_,_,_,_,h=>nomatch h
 |L::Ls,S,h1,h2,G,e,h=>by
  rcases Qas.mp h with rfl|h
  .exact⟨h1,h2⟩
  .refine Zfx I (Zbc S L) (λs Ua=>?_) (λL J=>G L (Qai _ J)) e h;obtain⟨O,z,Y,F,rfl⟩:=GH.mp Ua;exact I _ _ (h2 O z) (G L Qah Y F)
def Zfy{N:Nat}{S:Aj}(h1:S.Nodup)(h2:∀s∈S,s<N):S.length<=N:=by
 have:=Xx h1 λs e=>Qbw.mpr (h2 s e);rw[Qa3]at this;exact this
def Runs.mN{nx:Ad}{ot:Az}{n:Nat}(R:Runs nx ot n){s l:Nat}(e:s<nx.length)(z:l<2^n):mN nx s l<nx.length:=by
 have F:=R.nr _ (getD_mem e);exact R.nl _ (getD_mem e) _ (Qam (getD_at (by lia)))
theorem Zne{N:Nat}{l:Aj}(h:∀s∈l,s<N):(l.foldl Yw []).length<=N:=Zfy (qt _ _ Qcj) λs e=>by
 rcases(GC _ _).mp e with z|z
 .cases z
 .exact h s z
def Zfz{S:Aj}{f:Nat->List Nat}{j s:Nat}(e:S[j]?=some s):(S.take (j+1)).flatMap f=(S.take j).flatMap f++f s:=by
 rw[take_snoc e];congr 1;simp
def Zgq.more{H':Hp}{p:Aw}{S:Aj}{zs:A2}(h1:H p=some (.lst zs))(h2:zs.length=R.length)(I:∀(i:Nat)(S:Aj),R[i]?=some S->∃a,zs[i]?=some (V.ref a)/\Rd H a (.dK (twK S)))(F:H f=some (.dK (twK S))):Zgq (upd H p (.lst (zs++[.ref f]))) p (R++[S]):=by
 have e:∀{a:Aw} {kvs:A0},Rd H a (.dK kvs)->Rd (upd H p (.lst (zs++[.ref f]))) a (.dK kvs):=λ{a kvs} r=>by
  have ne:a≠p:=λz=>by
   subst z;rcases r with r|⟨_,r⟩<;>rw[h1]at r<;>cases r
  rcases r with r|⟨u,r⟩
  .exact .inl (by rw[Zj ne];exact r)
  .exact .inr ⟨u,by rw[Zj ne];exact r⟩
 refine⟨_,Za,by grind,λi O hi=>?_⟩
 by_cases J:i<R.length
 .grind
 .rw[Qa1 (by lia)]at hi;have G:i-R.length=0:=by
   grind
  rw[G]at hi;cases hi;exact⟨f,by grind,e (.inl F)⟩
def qL(H:Hp)(z:A2)(e:Ad):Prop:=z.length=e.length/\∀(i:Nat)(C:Aj),e[i]?=some C->∃a,z[i]?=some (V.ref a)/\H a=some (.tup (C.map Y9))
theorem qL.smf{H':Hp}(h:qL H u R)(s:∀b xs,H b=some (.tup xs)->H' b=some (.tup xs)):qL H' u R:=⟨h.1,λi C hi=>by
 obtain⟨a,e,g2⟩:=h.2 i C hi;exact⟨a,e,s _ _ g2⟩⟩
theorem qL.cons{H:Hp}{z:A2}{e:Ad}{C:Aj}{a:Aw}(h:qL H z e)(G:H a=some (.tup (C.map Y9))):qL H (.ref a::z) (C::e):=⟨congrArg _ h.1,λi F hi=>by
 match i,hi with
 |0,hi=>cases hi;exact⟨a,U,G⟩
 |i+1,hi=>exact h.2 i F hi⟩
def lwT(nx:Nat->Nat->Nat)(ok:Nat->Nat->Bool)(k:Nat)(S:Aj)(Ls:Ad)(j:Nat):Aj×Option (Aj):=lwb nx ok k ((lys nx S Ls).drop j) (Ls.drop j)
def Zf0{nx:Nat->Nat->Nat}{ok:Nat->Nat->Bool}{k:Nat}{S:Aj}{Ls:Ad}:lwT nx ok k S Ls Ls.length=([],none):=by
 unfold lwT;rw[Qe3];cases(lys nx S Ls).drop _<;>rfl
def Zir{nx:Nat->Nat->Nat}{ok:Nat->Nat->Bool}{k:Nat}{S L:Aj}{Ls:Ad}{j:Nat}(h1:(lys nx S Ls)[j]?=some r)(h2:Ls[j]?=some L):lwT nx ok k S Ls j=(kP nx ok k (lwT nx ok k S Ls (j+1)).2 r L::(lwT nx ok k S Ls (j+1)).1,some (goB nx ok (lwT nx ok k S Ls (j+1)).2 r (chB k (kP nx ok k (lwT nx ok k S Ls (j+1)).2 r L) L))):=by
 unfold lwT;have e1:(lys nx S Ls).drop j=r::(lys nx S Ls).drop (j+1):=by rw[Qb5 (Qae.mp h1).1,(Qae.mp h1).2]
 have e2:Ls.drop j=L::Ls.drop (j+1):=by rw[Qb5 (Qae.mp h2).1,(Qae.mp h2).2]
 rw[e1,e2];rfl
def Zbd{l:List m}{j:Nat}{x:m}(h:l[j]?=some x):l.drop j=x::l.drop (j+1):=by rw[Qb5 (Qae.mp h).1,(Qae.mp h).2]
theorem Zf1{k:Nat}:∀{bs:Aj} {Ls:Ad},∀C∈cho k bs Ls,∃L∈Ls,C.length<=L.length/\∀l∈C,l∈L
 |[],_,_,h=>by cases h
 |_::_,[],_,h=>by cases h
 |b::bs,L::Ls,C,h=>by
  rcases Qas.mp h with rfl|h
  .exact⟨L,Qah,Qda _ _,λl e=>(Wz.mp e).1⟩
  .obtain⟨z,h1,h2⟩:=Zf1 C h;exact⟨z,Qai _ h1,h2⟩
theorem Zf2{k:Nat}:∀{bs:Aj} {Ls:Ad},bs.length=Ls.length->(cho k bs Ls).length=Ls.length
 |[],[],_=>rfl
 |_::bs,_::Ls,h=>congrArg (· + 1) (Zf2 (by grind))
 |[],_::_,h=>nomatch h
 |_::_,[],h=>nomatch h
theorem kS{nx:Nat->Nat->Nat}{ok:Nat->Nat->Bool}{b:Nat}{Ls:Ad}:∀k,(itL nx ok b Ls k).length=Ls.length/\∀C∈itL nx ok b Ls k,∃L∈Ls,C.length<=L.length/\∀l∈C,l∈L
 |0=>⟨U,λC h=>⟨C,h,Qaj _,λ_ z=>z⟩⟩
 |k+1=>by
  obtain⟨h1,h2⟩:=kS k;refine⟨(Zf2 (yW _ _).1).trans h1,λC Ua=>?_⟩;obtain⟨L,e,g2,J⟩:=Zf1 C Ua;obtain⟨O,G,f2,I⟩:=h2 L e;exact⟨O,G,Qa9 g2 f2,λl F=>I l (J l F)⟩
def hdV(H:Hp):V->V
 |.ref a=>match H a with
  |some (.tup (x::_))=>x
  |_=>.non
 |_=>.non
def Zkq{L:Aj}(h:H a=some (.tup (L.map Y9)))(z:L≠[]):hdV H (.ref a)=Y9 (L.headD 0)/\atI (L.map Y9) 0=some (Y9 (L.headD 0)):=by
 cases L with
 |nil=>exact absurd U z
 |cons x L=>
  refine⟨?_,Yn U⟩;have e:hdV H (.ref a)=(match H a with
   |some (.tup (x::_))=>x
   |_=>.non):=rfl
  rw[e,h];rfl
theorem uV{nx:Ad}:∀(ls:Aj)(s:Nat),Zgm (mN nx) s ls=stN nx s ls
 |[],_=>rfl
 |l::ls,s=>uV ls _
def Znf{m:Aw}{nm:Ai}{b:Nat}{nx:Ad}{ot:Az}(M:M4 H m nm b nx ot)(R:Runs nx ot n)(G:b<nx.length):∃Y,Zkg H m nx.length (2^n) Y b (mN nx) λs c=>(ot.getD s []).getD c .non:=by
 obtain⟨pn,ps,po,h1,_,⟨as,I,g2,Z⟩,⟨bs,J,f2,O⟩⟩:=M.ex;refine⟨_,⟨ps,po,h1,⟨as,I,λs e=>?_⟩,⟨bs,J,λs e=>?_⟩⟩,G,λs l e F=>R.mN e F⟩
 .have Ua:=R.nr _ (getD_mem e);obtain⟨a,e1,e2⟩:=Z s (jQ (nx.getD s [])) (by grind);exact⟨a,_,e1,e2,λl F=>gz (by lia)⟩
 .have z:s<ot.length:=by rw[R.ol];exact e
  have Ua:=R.or _ (getD_mem z);obtain⟨a,e1,e2⟩:=O s _ (Zez z);exact⟨a,_,e1,e2,λl F=>getD_at (by lia)⟩
theorem g8(i:Nat):∀r:Aj,hor (((r.map λl:Nat=>(l:Int)).map λc=>c/2^i%2).reverse)=(valN i r:Int)
 |[]=>rfl
 |l::r=>by
  rw[Qbv,Qbv,Qcx,yI,g8 i r];show(valN i r)*2+l/2^i%2=((qw i l+2*valN i r):Int);have e:l/2^i%2=((qw i l):Int):=by
   rfl
  rw[e];lia
def rep_at{w:Nat}{x y:m}(h:(List.replicate w x)[i]?=some y):i<w/\y=x:=by grind
def Zf3(h:r≠[]):∃e c,r=e++[c]:=⟨_,_,(Qgg h).symm⟩
def ZF.smf{H':Hp}{P:Aw}{pos:Pos}{qual:Str}(h:ZF H P pos qual)(s:SmF H H'):ZF H' P pos qual:=by
 rcases h with h|⟨e,oc,h1,h2,F⟩
 .exact .inl (s.at h λ_ z=>nomatch z)
 .exact .inr ⟨e,oc,s.at h1 (λ_ z=>nomatch z),s.at h2 (λ_ z=>nomatch z),F⟩
def Zf4(i:Nat)(r:Aj):(valN i r:Int)=sm (λk=>bt ((r.getD k 0:Nat):Int) i) r.length:=by
 rw[<-g8,<-Zke];congr 2;refine Qee λk=>?_;rw[Qag,Qag,Qag]
 by_cases h:k<r.length
 .rw[Qdv h,getD_at h];rfl
 .grind
def Zng{ls:Aj}{y:Str}(e:N.Nodup)(h:N[i]?=some y):wD ls N y=(valN i ls:Int):=by
 unfold wD;rw[Xq e h,Zf4]
def kT:∀ys:Ai,ys.Nodup->keysOf ys=ys.map (Sum.inr:Str->Key):=by
 refine snoc_ind (λ_=>U) λys y e h=>?_;obtain⟨h1,_,z⟩:=Qdu.mp h;rw[JX,e h1,Qax,Qa6]
 .rfl
 .grind
def Tab.len_nd{a:A0}{ys:Ai}{f:Str->Int}(T:Tab a ys f)(h:ys.Nodup):a.length=ys.length:=by
 have:=congrArg List.length T.keys;rw[kT ys h,Qab,Qab]at this;exact this
def chs(m:Nat):Nat->List (Aj)
 |0=>[[]]
 |k+1=>(chs m k).flatMap λvs=>(List.range m).map λw=>vs++[w]
theorem Znh(m k:Nat):(chs m k).length=m^k:=by
 induction k with
 |zero=>rfl
 |succ k e=>
  have go:∀l:List _,(l.flatMap λvs=>(List.range m).map λw=>vs++[w]).length=l.length*m:=by
   intro l
   induction l with
   |nil=>exact(Nat.zero_mul _).symm
   |cons v l e=>rw[List.flatMap_cons,Qar,e,Qab,Qa3,Qbj,Qhg,Nat.add_comm]
  show((chs m k).flatMap _).length=_;rw[go,e,Nat.pow_succ]
theorem yZ{m k:Nat}{vs:Aj}(h:vs∈chs m k):vs.length=k/\∀x∈vs,x<m:=by
 induction k generalizing vs with
 |zero=>
  have:=Qat.mp h;subst this;exact⟨U,λ_ z=>nomatch z⟩
 |succ k e=>
  obtain⟨G,h1,h2⟩:=Qg8.mp h;obtain⟨w,J,rfl⟩:=Qau.mp h2;obtain⟨I,g2⟩:=e h1;refine⟨by grind,λx F=>?_⟩;rcases Qb2.mp F with z|z
  .exact g2 x z
  .grind
def Zis(nm:Ai)(vs:Aj)(y:Str):Int:=((vs.getD (nm.idxOf y) 0:Nat):Int)
def cv_cg{ys:Ai}{m:Int}{ρ F:Str->Int}(e:∀y∈ys,ρ y=F y){w:V}(hw:k6 ys 10 w){xs:A2}(I:xs.length=npw w):cvV m ρ w xs=cvV m F w xs:=by
 have key:wwv ρ w (xs.map iV)=wwv F w (xs.map iV):=by
  rcases hw with⟨y,rfl,G,_,J⟩|⟨y,rfl,G,_,J⟩|⟨z,rfl,_,_,_⟩
  .exact wwv_cg G (by grind) ρ F
  .rw[J]at I
   match xs,I with
   |[],_=>exact e y G
  .rfl
 unfold cvV;split
 .rw[key]
 .rw[key]
theorem Zf5{ys:Ai}{m:Int}{ρ z:Str->Int}(e:∀y∈ys,ρ y=z y){ks:Am}(h:TyR ys u ks):Gg m ρ u []=Gg m z u []:=by
 induction h with
 |nil=>rfl
 | @sum w r ks hw I F=>
  rw[Xi,Xi,F,cv_cg e hw];have:=I.facts.2.2;rw[Qbg,yS,this,Qar,Qav];lia
 | @clm y r ks G J _ F=>
  rw[Xi,Xi,F];congr 1;unfold cvV;try dsimp only
  rw[Qa2 G,Qa2 G]
def NmC(z:A2)(e:Ai):Prop:=e.Perm (Ww ((z.filter nmB).map Zgk))/\PyProof.Rows.sortedS e=true
def Off2(e pl:Aw)(H H':Hp):Prop:=∀b o,H b=some o->b≠e->b≠pl->H' b=some o
def Tells(z:A2)(e:Ai)(nx:Ad)(ot:Az):Prop:=∀(W:Nat)(ls:Aj),1<=W->ls.length=W->(∀x∈ls,x<2^e.length)->∃b:Bool,Gg (2^W) (wD ls e) z []=[.bl b]/\(rnO nx ot 0 ls)[W-1]?=some (.bl b)
def SmL(f:Aw)(H H':Hp):Prop:=∀b o,b≠f->H b=some o->H' b=some o
def uW{y:Str}(h:y∉ZN):npw (.str y)=0:=by
 rw[<-Zhy];show(List.replicate (JW T1 (.inr y)+JW T2 (.inr y)).toNat false++List.replicate (JW T3 (.inr y)).toNat true).length=0;rw[zq λz=>h (yD.1 y z),zq λz=>h (yD.2.1 y z),zq λz=>h (yD.2.2 y z)];rfl
def jW:Ai:=["same","under","beneath","sign","nought"]
def lpS(y:Str):Am:=
 if y∈(["both","either","so"]:Ai)then[true,true]else if y = "never" then[true]else if y∈(["same","under","beneath","and","or","odd","add","sub"]:Ai)then[false,false]
 else if y∈(["sign","nought","not","neg","twice","low"]:Ai)then[false]else if y = "pick" then[false,false,false]else[]
def lpW:V->List Bool
 |.str y=>lpS y
 |_=>[]
def Zit:∀y∈Z6,lpS y=List.replicate (qr (.str y)) false++List.replicate (wC (.str y)) true:=by decide +kernel
def lp_sum:∀y∈G7,lpS y=List.replicate (Y8 y) false/\npw (.str y)=Y8 y:=by decide +kernel
def Zni:∀y∈ZN,(lpS y).reverse=lpS y/\(lpS y).length<=3:=by decide +kernel
def Zf6{y:Str}(h:y∉ZN):lpS y=[]:=by
 have F:∀y∈(["both","either","so"]:Ai),y∈ZN:=by decide +kernel
 have e:∀y∈(["same","under","beneath","and","or","odd","add","sub"]:Ai),y∈ZN:=by decide +kernel
 have G:∀y∈(["sign","nought","not","neg","twice","low"]:Ai),y∈ZN:=by decide +kernel
 unfold lpS;rw[Qax (λz=>h (F y z)),Qax (λz=>h (by rw[z];decide +kernel)),Qax (λz=>h (e y z)),Qax (λz=>h (G y z)),Qax (λz=>h (by rw[z];decide +kernel))]
def Zf7(w:V):(lpW w).reverse=lpW w/\(lpW w).length<=3:=by
 cases w with
 |str y=>
  by_cases h:y∈ZN
  .exact Zni y h
  .show(lpS y).reverse=lpS y/\(lpS y).length<=3;rw[Zf6 h];exact⟨U,by decide⟩
 |_=>exact⟨U,Qbl _⟩
def Znj:∀y∈Z6,y∈allR->y∈jW:=by decide +kernel
def Znk:∀y∈G7,y∈allR->y∈jd:=by decide +kernel
def Ziu:∀y∈allR,y∈ZN:=by decide +kernel
theorem TyR.re{ys:Ai}{ks:Am}(h:TyR ys u ks)(I:∀y∈ys,V.str y∈u->y∈N)(O:∀y∈N,y∉ZN):TyR N u ks:=by
 induction h with
 |nil=>exact .nil
 | @sum w r ks hw _ G=>
  refine .sum ?_ (G λy e J=>I y e (Qai _ J));rcases hw with⟨y,rfl,h1,_,F⟩|⟨y,rfl,h1,h2,F⟩|h
  .exact .inl ⟨y,U,h1,λz=>O y z (xx y h1),F⟩
  .exact .inr (.inl ⟨y,U,I y h1 Qah,h2,F⟩)
  .exact .inr (.inr h)
 | @clm y r ks e _ _ G=>exact .clm e (λz=>O y z (YZ y e)) (G λy e J=>I y e (Qai _ J))
def Ziv(y:Str)(l:Ai):Int:=if y∈l then 1 else 0
structure Wds(M:Nat)(B:Int)(nm:Ai)(ws:A2)(ks:Am)(l0 l1:Int):Prop where
 ty:∀rest,TyR nm rest ks->TyR nm (ws++rest) [true]
 rm:(JZ ws:Int)+l0+l1<=B
 ln:ws.length+ks.length<=M
def GJ(e:A2)(w:V):JZ (e++[w])=JZ e+if inV w (allR.map V.str)=true then 1 else 0:=by
 unfold JZ;rw[Qdo,Qar];congr 1;rw[Qcv];split<;>rfl
def Wds.clm{M:Nat}{B:Int}{nm:Ai}{G:A2}{ks:Am}{Ua J e:Int}{y:Str}(W:Wds M B nm G (true::ks) Ua J)(Y:∀y∈nm,y∉ZN)(F:y∈Z6)(Z:((lpS y).length:Int)<=(M:Int)-G.length-(true::ks).length)(O:e+Ziv y jW=J):Wds M B nm (G++[.str y]) (lpS y++ks) Ua e:=by
 refine⟨λrest I=>?_,?_,?_⟩
 .rw[Qb7];refine W.ty _ (.clm F (λz=>Y y z (YZ y F)) ?_);rw[Zit y F,Qb7]at I;exact I
 .rw[GJ,ZD];have:=W.rm;unfold Ziv at O
  by_cases h:y∈allR
  .rw[Qa2 (Znj y F h)]at O;lia
  .grind
 .grind
def Wds.sum{M:Nat}{B:Int}{nm:Ai}{I:A2}{ks:Am}{O l1 F:Int}{w:V}(W:Wds M B nm I (false::ks) O l1)(Y:∀y∈nm,y∉ZN)
  (hw:(∃y,w=.str y/\y∈G7/\((lpS y).length:Int)<=(M:Int)-I.length-(false::ks).length/\F+Ziv y jd=O)\/(∃y,w=.str y/\y∈nm/\F=O)\/∃z:Int,w=.int z/\0<=z/\z<1000/\F=O):Wds M B nm (I++[w]) (lpW w++ks) F l1:=by
 have hs:=W.rm;have hl:=W.ln;rw[Qbj]at hl;have go:∀{w:V},k6 nm 10 w->lpW w=List.replicate (npw w) false->∀rest,TyR nm rest (lpW w++ks)->TyR nm (I++[w]++rest) [true]:=λhw e rest Z=>by
  rw[Qb7];rw[e]at Z;exact W.ty _ (.sum hw Z)
 have Ua:∀{w:V},(lpW w).length+I.length+ks.length+1<=M->(I++[w]).length+(lpW w++ks).length<=M:=λ{w} h=>by
  grind
 rcases hw with⟨y,rfl,G,hr,hc⟩|⟨y,rfl,G,rfl⟩|⟨z,rfl,z0,z1,rfl⟩
 .have h2:=lp_sum y G;refine⟨go (.inl ⟨y,U,G,λz=>Y y z (xx y G),h2.2⟩) (by rw[h2.2];exact h2.1),?_,Ua (by show(lpS y).length+_+_+1<=M;rw[Qbj]at hr;lia)⟩;rw[GJ,ZD];unfold Ziv at hc
  by_cases h:y∈allR
  .rw[Qa2 (Znk y G h)]at hc;lia
  .grind
 .have J:=Y y G;have r0:∀y∈jd,y∈ZN:=by decide +kernel
  have e0:lpW (.str y)=[]:=Zf6 J;refine⟨go (.inr (.inl ⟨y,U,G,λz=>J (r0 y z),uW J⟩)) (by rw[uW J,e0];rfl),?_,Ua (by rw[e0];show 0+_+_+1<=M;lia)⟩;rw[GJ,ZD,Qax (λz=>J (Ziu y (Qbb z)))];lia
 .have hz:npw (.int z)=0:=by
   show(List.replicate (JW T1 (.inl z)+JW T2 (.inl z)).toNat false++List.replicate (JW T3 (.inl z)).toNat true).length=0;rfl
  refine⟨go (.inr (.inr ⟨z,U,z0,Int.lt_trans z1 (by decide),hz⟩)) (by rw[hz];rfl),?_,Ua (by show 0+_+_+1<=M;lia)⟩;rw[GJ,gm];lia
def One1 (W:Nat) (y:Str) (v r:V):Prop:=(y∈(["not","neg","twice","low"]:Ai)/\∃a:Int,v=.int a/\0<=a/\a<2^W/\r=.int (Znw y a%2^W))\/(y∈(["sign","nought"]:Ai)/\∃a:Int,v=.int a/\0<=a/\a<2^W/\r=.bl (jl (2^W) y [a]))\/(y = "never" /\ ∃b:Bool,v=.bl b/\r=.bl (!b))
def Two2 (W:Nat) (y:Str) (v u r:V):Prop:=(y∈(["and","or","odd","add","sub"]:Ai)/\∃a b:Int,v=.int a/\u=.int b/\(0<=a/\a<2^W)/\(0<=b/\b<2^W)/\r=.int (Zoz y a b%2^W))\/(y∈(["same","under","beneath"]:Ai)/\∃a b:Int,v=.int a/\u=.int b/\(0<=a/\a<2^W)/\(0<=b/\b<2^W)/\r=.bl (jl (2^W) y [a,b]))\/(y∈(["both","either","so"]:Ai)/\∃a b:Bool,v=.bl a/\u=.bl b/\r=.bl (Zpi y [a,b]))
def kvC(nm:Ai)(vs:Aj):A0:=(nm.zip vs).map λp=>(.inr p.1,.int (p.2:Int))
def GK(H:Hp)(p:Aw)(nm:Ai)(L:Ad):Prop:=∃ds:List Aw,H p=some (.lst (ds.map V.ref))/\ds.length=L.length/\∀(i:Nat)(d:Aw)(v:Aj),ds[i]?=some d->L[i]?=some v->H d=some (.dK (kvC nm v))
def ntK:V->Bool
 |.str y=>decide (y∉ZN)
 |_=>false
def lpW_eq {w:V} (hw:(∃y,w=.str y)\/∃z:Int,w=.int z):lpW w=if inV w ((["both","either","so"]:Ai).map V.str)=true then[true,true]else if decide (w=.str "never")=true then[true]else if inV w ((["same","under","beneath","and","or","odd","add","sub"]:Ai).map V.str)=true then[false,false]
  else if inV w ((["sign","nought","not","neg","twice","low"]:Ai).map V.str)=true then[false]else if decide (w=.str "pick")=true then[false,false,false]else[]:=by
 rcases hw with⟨y,rfl⟩|⟨z,rfl⟩
 .rw[ZD,ZD,ZD];simp;show lpS y=_;unfold lpS;have e:∀c,(V.str y=V.str c)=(y=c):=λc=>propext ⟨λz=>by injection z,λz=>by rw[z]⟩;simp
 .rfl
def zP{l:Ai}{i:Int}(e:0<=i)(h1:i<(l.length:Int)):∃y,y∈l/\atI (l.map V.str) i=some (.str y):=by
 obtain⟨j,rfl⟩:∃j:Nat,i=j:=⟨i.toNat,by lia⟩;exact⟨l[j],Qbh _,Yn (by grind)⟩
def Zbe:Ai:=["same","same","under","under","beneath","sign","nought","nought","both","both","either","either","so","never","never","yes"]
def Ziw:∀y∈Zbe,y∈Z6:=by decide +kernel
def g9:Ai:=["not","neg","twice","low","and","or","odd","add","sub","add","pick"]
def Zix:∀y∈g9,y∈G7/\(y∈(["add","sub","neg","twice","low"]:Ai)↔y∈jd):=by decide +kernel
def SmL.same{H':Hp}(h:SmL f H H')(s:ZG H' g):SmL f H g:=λb o z e=>s _ _ (h b o z e)
def SmL.of{H':Hp}(s:ZG H H'):SmL f H H':=λb o _ e=>s _ _ e
def SmL.put{H':Hp}{o:HO}(s:SmL f H H'):SmL f H (upd H' f o):=λb u z e=>by rw[Zj z];exact s b u z e
def uX{x:Int}{W:Nat}(h:x/2^W=0):x%2^W=x:=by
 have e:=Qc8 x (2^W);rw[h,Int.mul_zero,Int.add_zero]at e;exact e
def pw_le{j:Nat}(h:i<=j):(2:Int)^i<=2^j:=by
 have h:=Int.ofNat_le.mpr (Qdf (show 0<2 by decide) h);exact h
theorem Znl(w:Nat):∀a b:Int,Builtin.bitXor a b/2^w=Builtin.bitXor (a/2^w) (b/2^w):=by
 induction w with
 |zero=>intro a b;rw[Qdj,Qb6,Qb6,Qb6]
 |succ w e=>
  intro a b;have d:∀x:Int,x/2^(w+1)=x/2/2^w:=λx=>by rw[Qev,Qe8,Qdd (by decide:(0:Int)<=2)]
  rw[d,d,d,(xor2 a b).1,e]
def Ziy{a b:Int}{W:Nat}(z:0<=a)(a1:a<2^W)(e:0<=b)(b1:b<2^W):Builtin.bitAnd a b%2^W=Builtin.bitAnd a b/\Builtin.bitOr a b%2^W=Builtin.bitOr a b/\Builtin.bitXor a b%2^W=Builtin.bitXor a b:=by
 have e1:=Qby z a1;have e2:=Qby e b1;exact⟨uX (by rw[yH,e1,e2];rfl),uX (by rw[Zkd,e1,e2];rfl),uX (by rw[Znl,e1,e2];rfl)⟩
def ben_eq {a b:Int} {W:Nat} (J:1<=W) (F:0<=a) (a1:a<2^W) (G:0<=b) (b1:b<2^W):jl (2^W) "beneath" [a,b]=decide ((a+2^W/2)%2^W<(b+2^W/2)%2^W):=by
 show decide (sgn (2^W) a<sgn (2^W) b)=_;obtain⟨V,rfl⟩:∃V,W=V+1:=⟨W-1,by lia⟩;rw[Qev]at *;generalize (2:Int)^V=h at *;have e:∀c:Int,0<=c->c<h*2->(c+h*2/2)%(h*2)=sgn (h*2) c+h:=λc O I=>by
  unfold sgn;rw[Int.mul_ediv_cancel _ (by decide)];split
  .rw[show c+h=(c-h*2+h)+h*2*1 by lia,Qcb,Qck (by lia) (by lia)]
  .exact Qck (by lia) (by lia)
 rw[e a F a1,e b G b1];exact Qce.mpr ⟨λz=>by lia,λz=>by lia⟩
def Znm{a:Int}{W:Nat}(z:0<=a)(h1:a<2^W):Builtin.bitNot a%2^W=2^W-1-a:=by
 have e:Builtin.bitNot a=(2^W-1-a)+2^W*(-1):=by
  show -a-1=_;lia
 rw[e,Qcb,Qck (by lia) (by lia)]
def Zf8(a:Int)(W:Nat):-a%2^W=(2^W-a)%2^W:=by
 rw[show(2:Int)^W-a=-a+2^W*1 by lia,Qcb]
def Znn{a:Int}{W:Nat}(G:0<=a)(h1:a<2^W):Builtin.bitAnd a (-a)%2^W=Builtin.bitAnd a (2^W-a):=by
 have F:Builtin.bitAnd a (2^W-a)/2^W=0:=by
  rw[yH,Qby G h1]
  by_cases z:a=0
  .rw[z,Int.sub_zero,Int.ediv_self (by lia)];rfl
  .rw[Qby (by lia) (by lia)];rfl
 rw[<-uX F];refine kA λk e=>?_;rw[YU,YU,<-zx (-a) W k e,Zf8,zx _ _ _ e]
def sign_eq {a:Int} {W:Nat} (e:0<=a) (h1:a<2^W):jl (2^W) "sign" [a]=decide ((2:Int)^W<=2*a):=by
 show decide (sgn (2^W) a<0)=_;unfold sgn;refine Qce.mpr ?_;split<;>lia
def Zf9 {m:Int} (a:Int):jl m "nought" [a]=decide (V.int a=V.int 0):=by
 show decide (a=0)=_;exact Qce.mpr ⟨λz=>by rw[z],λz=>by injection z⟩
def Zno{ys:Ai}{W:Nat}(hW:1<=W)(hys:∀y∈ys,y∉ZN){ρ:Str->Int}(hρ:∀y∈ys,0<=ρ y/\ρ y<2^W){x:V}{r:A2}{ks:Am}(h:TyR ys (x::r) ks){O Z:A2}(h0:Gg (2^W) ρ r []=O)(h1:cvV (2^W) ρ x (O.take (npw x))::O.drop (npw x)=Z):
  (∃z,x=.int z/\Z=.int (z%2^W)::O)\/(∃y,x=.str y/\y∈ys/\Z=.int (ρ y)::O)\/∃y,x=.str y/\y∉ys/\((y = "yes" /\ Z=.bl true::O)\/(y = "pick" /\ ∃(a b c:Int)(l:A2),O=.int a::.int b::.int c::l/\((0<=a/\a<2^W)/\(0<=b/\b<2^W)/\0<=c/\c<2^W)/\Z=.int (Builtin.bitOr (Builtin.bitAnd a b) (Builtin.bitAnd (Builtin.bitNot a) c)%2^W)::l)
   \/ (y ≠ "yes" /\ y ≠ "pick" /\ (lpS y).length=1/\∃(v r':V)(l:A2),O=v::l/\One1 W y v r'/\Z=r'::l)\/(y ≠ "yes" /\ y ≠ "pick" /\ (lpS y).length≠1/\∃(v u r':V)(l:A2),O=v::u::l/\Two2 W y v u r'/\Z=r'::l)):=by
 rcases part_of hW hys ρ h with⟨is,l,hw,e1,e2,e3,e⟩|⟨y,is,l,rfl,G,hn,hs,e1,e2,e3,e⟩|⟨y,bs,l,rfl,G,hn,hs,e1,e2,e⟩
 .rw[h0]at e1 e;rw[h1]at e;rcases hw with⟨y,rfl,G,hny,J⟩|⟨y,rfl,G,hnr,J⟩|⟨z,rfl,z0,z1,J⟩
  .refine .inr (.inr ⟨y,U,hny,?_⟩);have Y:y ≠ "yes" :=λz=>GG y G (by rw[z];decide +kernel);rw[J]at e2;have h3:=(by decide +kernel:∀y∈G7,(Y8 y=1/\y ≠ "pick" /\ y∈(["not","neg","twice","low"]:Ai)/\(lpS y).length=1)\/(Y8 y=2/\y ≠ "pick" /\ y∈(["and","or","odd","add","sub"]:Ai)/\(lpS y).length≠1)\/(y = "pick" /\ Y8 y=3)) y G;rcases h3 with⟨p1,I,Ua,k1⟩|⟨p1,I,Ua,k1⟩|⟨p1,p3⟩
   .rw[p1]at e2
    match is,e2 with
    |[a],_=>
     have F:=e3 a Qah;exact .inr (.inr (.inl ⟨Y,I,k1,.int a,_,l,e1,.inl ⟨Ua,a,U,F.1,F.2,U⟩,e⟩))
   .rw[p1]at e2
    match is,e2 with
    |[a,b],_=>
     have F:=e3 a Qah;have hb:=e3 b (Qai _ Qah);exact .inr (.inr (.inr ⟨Y,I,k1,.int a,.int b,_,l,e1,.inl ⟨Ua,a,b,U,U,F,hb,U⟩,e⟩))
   .rw[p3]at e2
    match is,e2 with
    |[a,b,c],_=>
     have F:=e3 a Qah;have hb:=e3 b (Qai _ Qah);have hc:=e3 c (Qai _ (Qai _ Qah));exact .inr (.inl ⟨p1,a,b,c,l,e1,⟨F,hb,hc⟩,e⟩)
  .rw[J]at e2
   match is,e2 with
   |[],_=>
    refine .inr (.inl ⟨y,U,G,?_⟩);rw[e,e1,show wwv ρ (.str y) []%2^W=ρ y from Qck (hρ y G).1 (hρ y G).2];rfl
  .match is,e2 with
   |[],_=>
    refine .inl ⟨z,U,?_⟩;rw[e,e1];rfl
 .rw[h0]at e1 e;rw[h1]at e;refine .inr (.inr ⟨y,U,hn,?_⟩);have h3:=(by decide +kernel:∀y∈Z6,0<qr (.str y)->(qr (.str y)=1/\y ≠ "yes" /\ y ≠ "pick" /\ y∈(["sign","nought"]:Ai)/\(lpS y).length=1)\/(qr (.str y)=2/\y ≠ "yes" /\ y ≠ "pick" /\ y∈(["same","under","beneath"]:Ai)/\(lpS y).length≠1)) y G hs;rcases h3 with⟨p1,n0,I,Ua,k1⟩|⟨p1,n0,I,Ua,k1⟩
  .rw[p1]at e2
   match is,e2 with
   |[a],_=>
    have F:=e3 a Qah;exact .inr (.inr (.inl ⟨n0,I,k1,.int a,_,l,e1,.inr (.inl ⟨Ua,a,U,F.1,F.2,U⟩),e⟩))
  .rw[p1]at e2
   match is,e2 with
   |[a,b],_=>
    have F:=e3 a Qah;have hb:=e3 b (Qai _ Qah);exact .inr (.inr (.inr ⟨n0,I,k1,.int a,.int b,_,l,e1,.inr (.inl ⟨Ua,a,b,U,U,F,hb,U⟩),e⟩))
 .rw[h0]at e1 e;rw[h1]at e;refine .inr (.inr ⟨y,U,hn,?_⟩);have h3:=(by decide +kernel:∀y∈Z6,¬0<qr (.str y)->(wC (.str y)=0/\y = "yes")\/(wC (.str y)=1/\y = "never")\/(wC (.str y)=2/\y ≠ "yes" /\ y ≠ "pick" /\ y∈(["both","either","so"]:Ai)/\(lpS y).length≠1)) y G hs;rcases h3 with⟨p1,rfl⟩|⟨p1,rfl⟩|⟨p1,n0,I,Ua,k1⟩
  .match bs,e2 with
   |[],_=>
    refine .inl ⟨U,?_⟩;rw[e,e1];rfl
  .match bs,e2 with
   |[b],_=>exact .inr (.inr (.inl ⟨by decide +kernel,by decide +kernel,by decide +kernel,.bl b,_,l,e1,.inr (.inr ⟨U,b,U,U⟩),e⟩))
  .rw[p1]at e2
   match bs,e2 with
   |[a,b],_=>exact .inr (.inr (.inr ⟨n0,I,k1,.bl a,.bl b,_,l,e1,.inr (.inr ⟨Ua,a,b,U,U,U⟩),e⟩))
def Znp(nm:Ai)(vs:Aj):(kvC nm vs).length<=nm.length:=by
 unfold kvC;rw[Qab,Qfl];exact Nat.min_le_left _ _
def Znq{nm:Ai}{y:Str}{vs:Aj}{w:Nat}(e:y∉nm)(F:vs.length=nm.length):putK (kvC nm vs) (.inr y) (.int w)=kvC (nm++[y]) (vs++[w]):=by
 unfold putK;rw[Qax]
 .unfold kvC;rw[List.zip_append F.symm,Qa6];rfl
 .intro z;obtain⟨q,h1,h2⟩:=Qdi.mp z;obtain⟨p,G,rfl⟩:=Qau.mp h1;have:=Qbb h2;injection this with this;exact e (by rw[<-this];exact(Qd7 G).1)
theorem Zga{nm:Ai}(hnd:nm.Nodup){vs:Aj}(F:vs.length=nm.length):Zet (kvC nm vs) nm (Zis nm vs):=by
 have go:∀{nm:Ai} {vs:Aj},vs.length=nm.length->∀y,y∉nm->Ym (kvC nm vs) (.inr y)=none:=by
  intro nm vs F y G;have:=Wt (.inr y) (kvC nm vs);cases e:Ym (kvC nm vs) _ with
  |none=>rfl
  |some v=>
   rw[e]at this;obtain⟨q,h1,h2⟩:=Qdi.mp this;obtain⟨p,I,rfl⟩:=Qau.mp h1;have:=Qbb h2;injection this with this;exact absurd (by rw[<-this];exact(Qd7 I).1) G
 refine⟨?_,go F⟩
 induction nm generalizing vs with
 |nil=>intro y G;cases G
 |cons x nm J=>
  match vs,F with
  |v::vs,F=>
   intro y G;show Ym (((.inr x),V.int _)::kvC nm vs) _=some (.int (((v::vs).getD _ 0)))
   by_cases h:x=y
   .subst h;rw[Yg U,List.idxOf_cons_self];rfl
   .rw[Ya (λz=>h (Sum.inr.inj z)),show(x::nm).idxOf y=nm.idxOf y+1 by rw[Qhe,beq_false_of_ne h];rfl];exact J (Qbu.mp hnd).2 (Nat.succ.inj F) y (by grind)
def GK.snoc{p q:Aw}{nm:Ai}{L:Ad}{v:Aj}(h:GK H q nm L)(keep:∀d e,H d=some (.dK e)->g d=some (.dK e))(J:∀ds:List Aw,H q=some (.lst (ds.map V.ref))->g q=some (.lst (ds.map V.ref++[V.ref p])))(z:g p=some (.dK (kvC nm v))):GK g q nm (L++[v]):=by
 obtain⟨ds,h1,h2,G⟩:=h;refine⟨ds++[p],by grind,by grind,λi d u F I=>?_⟩
 by_cases hi:i<ds.length
 .grind
 .grind
def NmI(y:Str)(q:Int):Nat->Str->Prop
 |0,z=>z=y
 |i+1,z=>∃e c,NmI y q i e/\atI Zeh.cps.toList ((q+7*(i:Int))%26)=some c/\z=e++⟨#[c]⟩
def begL:Ai:=["","","","a","xy","so","not","yes","add","nought"]
def Zkr:∀y∈begL,∀j∈List.range 26,∀c∈(atI Zeh.cps.toList (j:Int)).toList,(NmL (y++⟨#[c]⟩)/\y++⟨#[c]⟩∉ZN)/\∀d∈(atI Zeh.cps.toList (((j+7:Nat):Int)%26)).toList,NmL (y++⟨#[c]⟩++⟨#[d]⟩)/\y++⟨#[c]⟩++⟨#[d]⟩∉ZN:=by decide +kernel
def nm_all{y:Str}{q:Int}(F:y∈begL)(I:n=1\/n=2)(h:NmI y q n x):NmS x:=by
 obtain⟨j,Ua,e⟩:∃j:Nat,q%26=j/\j<26:=⟨(q%26).toNat,by lia,by lia⟩;rcases I with rfl|rfl
 .obtain⟨z,c,rfl,G,rfl⟩:=h;obtain⟨h1,_⟩:=Zkr z F j (Qbw.mpr e) c (by grind);exact⟨h1.1,h1.2⟩
 .obtain⟨O,d,⟨z,c,rfl,G,rfl⟩,J,rfl⟩:=h;obtain⟨_,h1⟩:=Zkr z F j (Qbw.mpr e) c (by grind);have:=h1 d (by grind);exact⟨this.1,this.2⟩
theorem Znr{kvs:A0}{S:Ai}{v:V}(O:kvs.map (·.1)=S.map Sum.inr)(I:S.Nodup)(y:Str):∃G:Ai,(putK kvs (.inr y) v).map (·.1)=G.map Sum.inr/\G.Nodup/\G.length<=S.length+1/\∀z∈G,z∈S\/z=y:=by
 unfold putK;split
 .refine⟨S,?_,I,Qep _,λz h=>.inl h⟩;rw[<-O,Qay];refine Qbo λF _=>?_;show(if F.1=Sum.inr y then(F.1,v)else F).1=F.1
  split<;>rfl
 .rename_i h;have J:y∉S:=λz=>h (Qdi.mpr (by
   have:(Sum.inr y)∈kvs.map (·.1):=by grind
   obtain⟨q,h1,h2⟩:=Qau.mp this;exact⟨q,h1,Qan h2⟩))
  refine⟨S++[y],by grind,Qdu.mpr ⟨I,Qbu.mpr ⟨(λz=>nomatch z),Qcj⟩,λa Z b Y e=>J (by grind)⟩,by grind,λz Ua=>?_⟩;rcases Qb2.mp Ua with z|z
  .exact .inl z
  .exact .inr (Qat.mp z)
def ty_si{nm:Ai}{ks:Am}(h:TyR nm u ks)(G:∀y∈nm,NmS y):(∀w∈u,jO w)/\u.filter ntK=u.filter nmB:=by
 have cs:∀w∈u,(∃y,w=.str y/\(y∈ZN\/y∈nm))\/∃z:Int,w=.int z:=λw hw=>by
  rcases h.facts.1 w hw with(⟨y,e,F,_⟩|⟨y,e,F,_⟩|⟨z,e,_⟩)|⟨y,e,F,_⟩
  .exact .inl ⟨y,e,.inl (xx y F)⟩
  .exact .inl ⟨y,e,.inr F⟩
  .exact .inr ⟨z,e⟩
  .exact .inl ⟨y,e,.inl (YZ y F)⟩
 refine⟨λw hw=>?_,List.filter_congr λw hw=>?_⟩
 .rcases cs w hw with⟨y,rfl,F⟩|⟨z,rfl⟩
  .refine .inl ⟨y,U,?_⟩;rcases F with F|F
   .have:=(Zhx y F).1.2;lia
   .have:=(G y F).l.1.2;lia
  .exact .inr ⟨z,U⟩
 .rcases cs w hw with⟨y,rfl,F⟩|⟨z,rfl⟩
  .refine Qce.mpr ⟨λh=>⟨h,?_⟩,λh=>h.1⟩;rcases F with F|F
   .exact absurd F h
   .exact(G y F).l
  .rfl
def clm_ok{nm J:Ai}(h:TyR nm u [true])(O:∀y∈nm,NmS y)(Y:nm.length<=3)(Z:u.length<=60)(hr:JZ u<=15)(N:NmC u J):Wg J u:=by
 have F:∀y,y∈J↔V.str y∈u/\y∉ZN/\NmL y:=λy=>by
  rw[N.1.mem_iff,Zdj];constructor
  .intro h;obtain⟨w,hw,rfl⟩:=Qau.mp h;obtain⟨h1,h2⟩:=Qdc.mp hw;cases w with
   |str y=>exact⟨h1,Qbb h2⟩
   |_=>cases h2
  .exact λh=>Qau.mpr ⟨.str y,Qdc.mpr ⟨h.1,Qan h.2⟩,U⟩
 have Ua:=N.1.nodup_iff.mpr (wV _);have sub:∀y∈J,y∈nm:=λy G=>by
  obtain⟨h1,h2,_⟩:=(F y).mp G;rcases h.facts.1 _ h1 with(⟨z,e,I,_⟩|⟨z,e,I,_⟩|⟨z,e,_⟩)|⟨z,e,I,_⟩
  .cases e;exact absurd (xx y I) h2
  .cases e;exact I
  .cases e
  .cases e;exact absurd (YZ y I) h2
 have kp:=λy G=>((F y).mp G).2.1;exact⟨Qa9 (Xx Ua sub) Y,Ua,kp,by lia,h.re (λy G hw=>(F y).mpr ⟨hw,(O y G).k,(O y G).l⟩) kp,by lia⟩
def Zbf{ys:Ai}(J:ys.Nodup)(f:Str->Int)(W:Nat)(I:∀y∈ys,0<=f y/\f y<2^W):∃ls:Aj,ls.length=W/\(∀l∈ls,l<2^ys.length)/\∀y∈ys,wD ls ys y=f y:=by
 obtain⟨ls,e,h1,h2⟩:=Zic ys f W;refine⟨ls,h2,h1,λy F=>?_⟩;obtain⟨i,hi⟩:=Qde F;unfold wD;rw[Xq J hi,h2];have O:=(Qae.mp hi).1;have G:∀k,k<W->bt ((ls.getD k 0):Int) i=f y/2^k%2:=λk Ua=>by
  have z:=congrArg (λl=>l[k]?) e;simp[Qag,Qeq]at z;rw[getD_at (d:=0) (show k<ls.length by lia)]at z;have z:ltr ys f k=((ls.getD k 0:Nat)):=by grind
  rw[<-z];show ltr ys f k/2^i%2=_;unfold ltr;rw[uF (λj=>Zo5 _ _) i _ O,Qal,hi];rfl
 rw[uE G,Zev,Qck (I y F).1 (I y F).2]
theorem Zgb{m:Nat}:∀{k:Nat} {vs:Aj},vs.length=k->(∀x∈vs,x<m)->vs∈chs m k
 |0,vs,h,_=>by rw[Qcd h];exact Qat.mpr U
 |k+1,vs,h,e=>by
  obtain⟨u,w,rfl⟩:∃u w,vs=u++[w]:=⟨vs.dropLast,vs.getLast (λz=>by rw[z]at h;cases h),(Qgg _).symm⟩;have F:u.length=k:=by grind
  exact Qg8.mpr ⟨u,Zgb F λx h=>e x (Qc0 _ h),Qau.mpr ⟨w,Qbw.mpr (e w (Qba _ (Qat.mpr U))),U⟩⟩
def Zpm(a b:Aj):Prop:=∃j,j<a.length/\(∀i,i<j->a.getD i 0=b.getD i 0)/\a.getD j 0<b.getD j 0
def Zks{a:Aj}{w:Nat}(h:i<a.length):(a++[w]).getD i 0=a.getD i 0:=by grind
def Zkt{a:Aj}{w:Nat}:(a++[w]).getD a.length 0=w:=by grind
theorem Zgc(m:Nat):∀k,(chs m k).Pairwise Zpm
 |0=>List.pairwise_singleton _ _
 |k+1=>by
  refine List.pairwise_flatMap.mpr ⟨λu I=>?_,(Zgc m k).imp_of_mem λ{a b} J F h x z y e=>?_⟩
  .refine List.pairwise_map.mpr (List.pairwise_lt_range.imp λ{x y} h=>⟨u.length,by rw[Qar];exact Nat.lt_succ_self _,λi hi=>by rw[Zks hi,Zks hi],by rw[Zkt,Zkt];exact h⟩)
  .obtain⟨p,_,rfl⟩:=Qau.mp z;obtain⟨q,_,rfl⟩:=Qau.mp e;obtain⟨j,h1,h2,G⟩:=h;have la:=(yZ J).1;have lb:=(yZ F).1;exact⟨j,by rw[Qar];lia,λi hi=>by rw[Zks (by lia),Zks (by lia)];exact h2 i hi,by rw[Zks h1,Zks (by lia)];exact G⟩
def Ziz{a b:Aj}(h:Zpm a b)(g:Zpm b a):False:=by
 obtain⟨i,_,h2,e⟩:=h;obtain⟨j,_,g2,F⟩:=g;rcases Qg1 i j with z|z|z
 .have:=g2 i z;lia
 .subst z;lia
 .have:=h2 j z;lia
def Zbg{m k:Nat}{p:Aj->Bool}{vs:Aj}(F:vs∈chs m k)(I:p vs=true)(h:∀g∈chs m k,p g=true->g=vs\/Zpm vs g):(chs m k).find? p=some vs:=by
 cases e:(chs m k).find? p with
 |none=>exact absurd I (Qen.mp e vs F)
 |some g=>
  obtain⟨J,i,hi,O,g2⟩:=Qfz.mp e;subst O;rcases h _ (Qbh hi) J with z|z
  .rw[z]
  .obtain⟨j,Ua,G⟩:=List.mem_iff_getElem.mp F;rcases Qg1 i j with y|y|y
   .have:=List.pairwise_iff_getElem.mp (Zgc m k) i j hi Ua y;rw[G]at this;exact(Ziz z this).elim
   .subst y;rw[G]
   .grind
def gB(e:Ai)(z:A2)(wb:Bool)(w:Nat)(vs:Aj):Bool:=decide (Gg (2^w) (Zis e vs) z []=[.bl wb])
def vsR(n:Nat)(r:Aj):Aj:=(List.range n).map λi=>valN i r
def kU(h:i<n):(vsR n r).getD i 0=valN i r:=by
 unfold vsR;rw[Qal,Qag,Qdv h];rfl
def Zgd{nm:Ai}(z:nm.Nodup){y:Str}(h:y∈nm):wD r nm y=Zis nm (vsR nm.length r) y:=by
 have hi:=Qbi h;have e:nm[nm.idxOf y]?=some y:=by grind
 rw[Zng z e];show _=(((vsR nm.length r).getD (nm.idxOf y) 0:Nat):Int);rw[kU hi]
def vsR_bd(n:Nat)(r:Aj):vsR n r∈chs (2^r.length) n:=Zgb (by unfold vsR;rw[Qab,Qa3]) λx e=>by
 obtain⟨i,_,rfl⟩:=Qau.mp e;have h:=xy (b:=λk=>bt ((r.getD k 0:Nat):Int) i) (λ_=>YD _ _) r.length;rw[<-Zf4]at h;have h2:(valN i r:Int)<((2^r.length:Nat):Int):=by exact h.2
 exact Qhi.mp h2
def uY{nx:Ad}{ot:Az}{wb:Bool}(S:Wg N u)(F:Tells u N nx ot)(h1:1<=r.length)(h2:∀l∈r,l<2^N.length):
  YC (mN nx) (mB ot (.bl wb)) 0 r=decide (Gg (2^r.length) (wD r N) u []=[.bl wb]):=by
 obtain⟨b,e1,e2⟩:=F r.length r h1 U h2;obtain⟨e,c,rfl⟩:=Zf3 (r:=r) (λz=>by rw[z]at h1;cases h1);rw[e1,W6];rw[uO,Qar,Qa1 (by rw[gu];exact Qaj _),gu]at e2;rw[show e.length+[c].length-1-e.length=0 by rw[Qfu];lia]at e2;have e3:=Option.some.inj e2;show decide ((ot.getD (stN nx 0 e) []).getD c .non=.bl wb)=_;rw[e3,Qce];exact⟨λz=>by rw[z],λz=>by injection z⟩
def Zku{nx:Ad}{ot:Az}{wb:Bool}{w:Nat}{vs:Aj}(S:Wg N u)(G:Tells u N nx ot)(h1:1<=w)(I:vs∈chs (2^w) N.length):
  ∃ls:Aj,ls.length=w/\(∀l∈ls,l<2^N.length)/\vs=vsR N.length ls/\YC (mN nx) (mB ot (.bl wb)) 0 ls=gB N u wb w vs:=by
 obtain⟨O,F⟩:=yZ I;obtain⟨ls,rfl,h2,z⟩:=Zbf S.nd (Zis N vs) w λy J=>by
  refine⟨Qch _,?_⟩;have:vs.getD (N.idxOf y) 0<2^w:=F _ (by grind);have h2:((vs.getD (N.idxOf y) 0:Nat):Int)<((2^w:Nat):Int):=Qhi.mpr this;exact h2
 refine⟨ls,U,h2,?_,?_⟩
 .refine Qee λi=>?_
  by_cases hi:i<N.length
  .have e:=z N[i] (Qbh hi);rw[Zgd S.nd (Qbh hi)]at e;have e:=Int.ofNat_inj.mp e;rw[S.nd.idxOf_getElem]at e;rw[Qal,Qal,Qac (show i<vs.length by lia),Qac (show i<(vsR N.length ls).length by unfold vsR;rw[Qab,Qa3];exact hi)]at e;rw[Qac (show i<vs.length by lia),Qac (show i<(vsR N.length ls).length by unfold vsR;rw[Qab,Qa3];exact hi)];exact congrArg some e.symm
  .rw[Qd3 (by lia),Qd3 (by unfold vsR;rw[Qab,Qa3];lia)]
 .rw[uY S G h1 h2];unfold gB;rw[Zf5 z S.ty]
def jY{nx:Ad}{ot:Az}{wb:Bool}{w:Nat}(S:Wg N u)(G:Tells u N nx ot)(h1:1<=w)(F:yX (mN nx) (mB ot (.bl wb)) 0 N.length w r):
  (chs (2^w) N.length).find? (gB N u wb w)=some (vsR N.length r):=by
 have O:=F.len;subst O;refine Zbg (vsR_bd _ _) ?_ λg Ua J=>?_
 .have:=F.last;rw[uY S G h1 F.lt,Zf5 (λy I=>Zgd S.nd I) S.ty]at this;exact this
 .obtain⟨ls,a,b,rfl,e⟩:=Zku (wb:=wb) S G h1 Ua;rw[J]at e;rcases F.fst ls a b e with z|⟨j,j1,j2,j3⟩
  .rw[z];exact .inl U
  .exact .inr ⟨j,by unfold vsR;rw[Qab,Qa3];exact j1,λi hi=>by rw[kU (by lia),kU (by lia)];exact(j2 i hi).symm,by rw[kU j1,kU j1];exact j3⟩
theorem Zge{nx:Ad}{ot:Az}{wb:Bool}{w:Nat}(S:Wg N u)(G:Tells u N nx ot)(h1:1<=w)(h:¬∃r:Aj,r.length=w/\(∀l∈r,l<2^N.length)/\YC (mN nx) (mB ot (.bl wb)) 0 r=true):
  (chs (2^w) N.length).find? (gB N u wb w)=none:=Qen.mpr λvs F z=>by
 obtain⟨ls,a,b,_,e⟩:=Zku (wb:=wb) S G h1 F;exact h ⟨ls,a,b,by rw[e];exact z⟩
def Zgf{kvs:A0}(z:N.Nodup)(T:Tab kvs N λy=>(valN (ixG N y) r:Int)):kvs=kvC N (vsR N.length r):=by
 have G:=T.keys;rw[kT N z]at G;have O:kvs.length=N.length:=T.len_nd z;refine Qee λi=>?_
 by_cases hi:i<N.length
 .rw[Qac (show i<kvs.length by lia)];obtain⟨y,J,e⟩:=T.all _ (Qbh (show i<kvs.length by lia));have F:kvs[i].1=Sum.inr N[i]:=by
   have h2:=congrArg (λl:List Key=>l[i]?) G;simp only[Qag,Qac (show i<kvs.length by lia),Qac hi,Qeq]at h2;exact Option.some.inj h2
  rw[e]at F;have I:y=N[i]:=Sum.inr.inj F;subst I;rw[e];have ex:ixG N N[i]=i:=Xq z (Qac hi);show some ((Sum.inr N[i]:Key),V.int (valN (ixG N N[i]) r:Int))=(List.map _ (N.zip _))[i]?;rw[ex,Qag,zip_at (Qac hi) (show(vsR N.length r)[i]?=some (valN i r) by unfold vsR;rw[Qag,Qdv hi];rfl)];rfl
 .rw[Qd3 (by lia)]
  symm
  refine Qd3 ?_;unfold kvC;rw[Qab,Qfl];lia
theorem Zkv{nx:Nat->Nat->Nat}{ok:Nat->Nat->Bool}{b w n:Nat}:∀k,k<=n->∀L∈itL nx ok b (List.replicate w (List.range (2^n))) k,∃c,c<2^k/\∀l,l∈L↔l<2^n/\l%2^k=c
 |0,_,L,J=>by
  have e:L=List.range (2^n):=Qdq J;subst e;exact⟨0,Nat.one_pos,λl=>by grind⟩
 |k+1,hk,L,J=>by
  have Ua:∀{bs:Aj} {Ls:Ad},L∈cho k bs Ls->∃F G,F∈bs/\G∈Ls/\L=chB k F G:=by
   intro bs Ls
   induction bs generalizing Ls with
   |nil=>intro h;cases Ls<;>cases h
   |cons F bs ih=>
    intro h;cases Ls with
    |nil=>cases h
    |cons G Ls=>
     rcases Qas.mp h with z|z
     .grind
     .grind
  obtain⟨F,G,h1,h2,rfl⟩:=Ua J;have Z:=(yW (nx:=nx) (ok:=ok) (k:=k) (itL nx ok b (List.replicate w (List.range (2^n))) k) [b]).2 F h1;obtain⟨c,hc,hm⟩:=Zkv (nx:=nx) (ok:=ok) (b:=b) (w:=w) k (by lia) G h2;have O:=Qhf k;have hs:F*2^k<=1*2^k:=Qd5 _ (by lia);refine⟨c+F*2^k,by lia,λl=>?_⟩;rw[Wz,hm l];unfold qw;have e:l%2^(k+1)=l%2^k+2^k*(l/2^k%2):=by rw[Nat.pow_succ,Nat.mod_mul]
  rw[e];have lm:=Qhl l O;constructor
  .grind
  .rintro⟨Y,g2⟩;have I:F=0\/F=1:=by lia
   have l3:l/2^k%2=0\/l/2^k%2=1:=by lia
   rcases I with rfl|rfl<;>rcases l3 with z|z<;>skip<;>refine⟨⟨Y,?_⟩,?_⟩<;>lia
def Zn1(z e:Aw)(H H':Hp):Prop:=∀b o,H b=some o->b≠z->b≠e->H' b=some o\/∃kvs u,o=.dK kvs/\H' b=some (.frz u (.dK kvs))
def spW(wb:Bool)(I pl C:Aw):Sp:=λvs H Q E=>∃(t:Aw)(F:A2)(W:Nat),vs=[.ref t,.int W]/\H t=some (.tup F)/\(∀x∈F,jO x)/\F.length<=60/\(∀z,NmC F z->Wg z F)/\1<=W/\W<=64/\ZF H I Zp Zl/\ZF H pl ZK ZL/\(∀z d G H',NmC F z->(chs (2^W) z.length).find? (gB z F wb W)=some G->H' d=some (.dK (kvC z G))->ZF H' I Zp Zl->ZF H' pl ZK ZL->Zn1 I pl H H'->Q (.ref d) H')/\(∀z e H',NmC F z->(chs (2^W) z.length).find? (gB z F wb W)=none->H' e=none->ZF H' I Zp Zl->ZF H' pl ZK ZL->Zn1 I pl H H'->E (.ref C) (some e) H')
set_option genInjectivity false in
set_option genSizeOfSpec false in
structure Adr where
 aan:Aw
 aao:Ao
 sr:Aw
 su:Ao
 abu:Aw
 abv:Ao
 mj:Aw
 mm:Ao
 iy:Aw
 ka:Ao
 sy:Aw
 ti:Ao
 nq:Aw
 nt:Ao
 aap:Aw
 aaq:Ao
 rf:Aw
 rh:Ao
 tj:Aw
 tu:Ao
 oy:Aw
 oz:Ao
 mn:Aw
 mq:Ao
 pb:Aw
 pd:Ao
 mr:Aw
 mw:Ao
 rj:Aw
 rn:Ao
 vl:Aw
 vr:Ao
 aar:Aw
 aas:Ao
 pe:Aw
 ph:Ao
 lz:Aw
 ma:Ao
 abi:Aw
 abj:Ao
 ro:Aw
 rp:Ao
 aat:Aw
 aau:Ao
 wh:Aw
 aaa:Ao
 aab:Aw
 aac:Ao
 rq:Aw
 rr:Ao
 rz:Aw
 sf:Ao
 pj:Aw
 pk:Ao
 nu:Aw
 ny:Ao
 nz:Aw
 og:Ao
 aav:Aw
 aaw:Ao
 iw:Aw
 ix:Ao
 my:Aw
 mz:Ao
 aax:Aw
 aay:Ao
 abk:Aw
 abl:Ao
 oh:Aw
 oj:Ao
 aad:Aw
 aae:Ao
 pv:Aw
 qs:Ao
 aaf:Aw
 aag:Ao
 me:Aw
 mf:Ao
 om:Aw
 oq:Ao
 aaz:Aw
 aba:Ao
 lq:Aw
 lr:Ao
 ra:Aw
 rb:Ao
 abb:Aw
 abd:Ao
 aah:Aw
 aai:Ao
 aaj:Aw
 aak:Ao
 ig:Aw
 ij:Ao
 abm:Aw
 abn:Ao
 nc:Aw
 ng:Ao
 abq:Aw
 ou:Ao
 lu:Aw
 ff:Ao
 nh:Aw
 ni:Ao
 mh:Aw
 mi:Ao
 lb:Aw
 lg:Ao
 lh:Aw
 lj:Ao
 aal:Aw
 aam:Ao
 abw:Aw
 abx:Ao
 ip:Aw
 aq:Aw
 br:Aw
 aa:Aw
 ah:Aw
 bh:Aw
 az:Aw
 ae:Aw
 au:Aw
 av:Aw
 bj:Aw
 bq:Aw
 aw:Aw
 ag:Aw
 af:Aw
 abo:Tok
 ow:Tok
 bf:Aw
structure Kg(K:Af)(w:Au)(mg:Ae)(x:Str)(a:Aw)(l:List (Str×Int)):Prop where
 m:mg x=some (.ref a)
 d:KD K w a l
structure Kt(K:Af)(mg:Ae)(x:Str)(a:Aw)(l:Ai):Prop where
 m:mg x=some (.ref a)
 d:∀H,SqT K H a (l.map V.str)
structure Df(K:Af)(mg:Ae)(x:Str)(st:Ay)(ps:Ai)(f:Aw)(fd:Ao):Prop where
 F:Fun K x x st f fd
 m:mg x=some (.ref f)
 b:Binds K fd ps []
abbrev FnD{mg:Ae}{st:Ay}{ps:Ai}{fd:Ao}(_:Df K mg x st ps f fd)(P:Aq)(w:Au)(base:Heap)(k:Nat)(sp:Sp):Prop:=xB P w K mg base CX0 k f fd ps sp
theorem Df.go{mg:Ae}{base:Heap}{st:Ay}{ps:Ai}{fd:Ao}{k:Nat}{sp:Sp}(d:Df K mg x st ps f fd)(S:Zt N ps (Zh st))(b:∀(e:Av)(A:Ar)(outer:List Env)(s:As)(H:Hp)(vs:A2)(Q:VK)(E:XK),Wo k (A.deeper (envOfC x (Zh st) s.heap.objs.size f e))->sp vs H Q E->∃t,QSs (Zce CX0 P w K mg base N x (Zh st) f e A outer s H E).nox (YW st) t/\t {nx:=λ_ H'=>Q .non H',rt:=Q} (start N vs) H)(len:∀vs H Q E,sp vs H Q E->vs.length=ps.length:=by rintro _ _ _ _ ⟨⟩;subst_vars;rfl):xB P w K mg base CX0 (k+1) f fd ps sp:=d.F.ok S len λc A o s H vs Q E z h=>let⟨t,q,r⟩:=b c A o s H vs Q E z h;⟨t,q.out,r⟩
def Zo {X:Cx}  {st:Ay} {ps:Ai}  {fd:Ao} {k:Nat} {sp:Sp} {pos:Pos}   {t:TA} (d:Df X.K X.mg x st ps f fd) (F:xB X.prog X.w X.K X.mg X.base CX0 k f fd ps sp) (O:Wo n X.A) (I:QA X (e::C) t) (Ua:k<=n:=by decide) (J:Gl X x:=by exact U) (z:(x == ("__debug__" : Str))=false:=by decide) (G:(e::C).all ZY=true:=by rfl):QE X (.Call (.Name x p) (e::C) [] pos) (Zgx sp [] E0 t):=Gk F (O.mono Ua) J d.m d.F.kp d.b .nil Zk8 I z G
set_option genInjectivity false in
set_option genSizeOfSpec false in
structure Txt(K:Af)(w:Au)(mg:Ae)(t:Adr):Prop where
 aw:Kg K w mg "SUM_PARTS" t.aw [("not",1),("neg",1),("twice",1),("low",1),("and",2),("or",2),("odd",2),("add",2),("sub",2),("pick",3)]
 ag:Kg K w mg "SUMS_IN_CLAIM" t.ag [("same",2),("under",2),("beneath",2),("sign",1),("nought",1)]
 af:Kg K w mg "CLAIMS_IN_CLAIM" t.af [("both",2),("either",2),("so",2),("never",1),("yes",0)]
 abp:mg "LETTERS" = some (.str "abcdefghijklmnopqrstuvwxyz" t.abo)
 ox:mg "LONGEST_NAME" = some (.int 8 t.ow)
 bf:Kt K mg "REMEMBERING" t.bf ["neg","twice","low","add","sub","same","under","beneath","nought"]
 di:Df K mg "words_at" jI ["width"] t.aan t.aao
 cx:Df K mg "number_of" zc ["bits"] t.sr t.su
 nj:Df K mg "run" Zou ["machine","letters"] t.abu t.abv
 cf:Df K mg "layers_led_to" Jd ["machine","letters"] t.mj t.mm
 bb:Df K mg "letters_with_bit" YL ["letters","number","bit"] t.iy t.ka
 fg:Df K mg "goes_well" zd ["machine","state","letter","well","wanted"] t.sy t.ti
 cz:Df K mg "state_number" J7 ["state","states","numbers"] t.nq t.nt
 dj:Df K mg "numbered" qm ["marks"] t.aap t.aaq
 bx:Df K mg "classes_of" Je ["states","classes"] t.rf t.rh
 fh:Df K mg "firsts_of" ze ["classes"] t.tj t.tu
 dm:Df K mg "is_sum_word" G2 ["text"] t.oy t.oz
 cg:Df K mg "is_claim_word" Jf ["text"] t.mn t.mq
 dn:Df K mg "sums_behind" G3 ["word"] t.pb t.pd
 cj:Df K mg "claims_behind" Jg ["word"] t.mr t.mw
 dz:Df K mg "is_made_of" Jh ["text","signs"] t.rj t.rn
 cy:Df K mg "remembers" zf ["word"] t.vl t.vr
 dk:Df K mg "borrowed" jJ ["one","other","held"] t.aar t.aas
 dt:Df K mg "out_at_once" G4 ["word","parts"] t.pe t.ph
 bz:Df K mg "longest_number" Xn ["words"] t.lz t.ma
 ck:Df K mg "bits_at" zg ["columns","letter"] t.abi t.abj
 bp:Df K mg "_law_number" qI ["script","k"] t.ro t.rp
 gb:Df K mg "_law_name" jK ["number"] t.aat t.aau
 bc:Df K mg "_law_parts" zh ["word"] t.wh t.aaa
 fi:Df K mg "_law_named" JV ["words"] t.aab t.aac
 eh:Df K mg "_law_of_one" qJ ["word","one","full"] t.rq t.rr
 et:Df K mg "_law_of_two" qK ["word","one","other","full"] t.rz t.sf
 du:Df K mg "_law_choices" G5 ["names","full"] t.pj t.pk
 da:Df K mg "_law_no_words" J8 ["caught"] t.nu t.ny
 dc:Df K mg "_law_words_at" JA ["found","names","full"] t.nz t.og
 gg:Df K mg "words_of" qo ["names","letters"] t.aav t.aaw
 ba:Df K mg "states_going_well" YA ["machine","states","letters","well","wanted"] t.iw t.ix
 cm:Df K mg "alike_classes" X2 ["steps","out"] t.my t.mz
 gi:Df K mg "parts_of" jL ["word"] t.aax t.aay
 ie:Df K mg "is_name" kq ["text"] t.abk t.abl
 dg:Df K mg "name_columns" XX ["names","letters"] t.oh t.oj
 fj:Df K mg "kept_then" zi ["word","parts","held"] t.aad t.aae
 dw:Df K mg "out_by_kept" G6 ["word","parts","held","then"] t.pv t.qs
 fk:Df K mg "_law_names" zj ["script","start","many"] t.aaf t.aag
 cb:Df K mg "_law_claim_word" WD ["number","room","left"] t.me t.mf
 dh:Df K mg "_law_sum_word" JB ["number","room","left","names","top"] t.om t.oq
 ia:Df K mg "_law_told" jM ["words","full","values"] t.aaz t.aba
 bu:Df K mg "with_least_word" We ["machine","letters","number","wanted"] t.lq t.lr
 dy:Df K mg "parts_taken" Wy ["stack","word"] t.ra t.rb
 ib:Df K mg "names_of" qp ["words"] t.abb t.abd
 fq:Df K mg "_law_words" zk ["script","start","names","most","left","top","claim"] t.aah t.aai
 ft:Df K mg "_law_first" zm ["words","names","full","wanted"] t.aaj t.aak
 ax:Df K mg "first_words" Xv ["machine","width","wanted"] t.ig t.ij
 cq:Df K mg "stepped" kr ["words","columns","place","kept"] t.abm t.abn
 ao:Df K mg "machine_found" X3 ["names","begin","step_of"] t.nc t.ng
 iq:Df K mg "least" zo ["machine"] t.abq t.ou
 bw:Df K mg "machine_telling" ZW ["words","names","told"] t.lu t.ff
 cu:Df K mg "claim_machine" Ji ["claim","names"] t.nh t.ni
 bg:Df K mg "least_of_claim" WE ["claim"] t.mh t.mi
 eu:Df K mg "failing" ku ["claim","width"] t.lb t.lg
 fe:Df K mg "holding" kx ["claim","width"] t.lh t.lj
 fu:Df K mg "_law_asked" zp ["words","width","wanted"] t.aal t.aam
 abe:Df K mg "law" Zmg ["script"] t.abw t.abx
 abr:t.ou.code=.ref t.ip
 lx:t.ff.code=.ref t.br
 ik:t.aq≠t.aa
 sh:mg "ValueError" = none
 aby:mg "all" = none
 abz:mg "any" = none
 abt:mg "bool" = none
 si:mg "dict" = none
 fw:mg "enumerate" = none
 ic:mg "int" = none
 ai:mg "isinstance" = none
 ak:mg "len" = none
 sj:mg "list" = none
 ir:mg "max" = none
 abf:mg "min" = none
 ay:mg "range" = none
 iu:mg "reversed" = none
 abg:mg "set" = none
 il:mg "sorted" = none
 abh:mg "str" = none
 aj:mg "tuple" = none
 aca:mg "zip" = none
set_option genInjectivity false in
set_option genSizeOfSpec false in
structure Xcl(K:Af)(mg:Ae)(base:Heap)(t:Adr):Prop where
 m_WidthError:mg "WidthError" = some (.ref t.ah)
 m_NoSum:mg "NoSum" = some (.ref t.bh)
 m_NoClaim:mg "NoClaim" = some (.ref t.az)
 m_NoWords:mg "NoWords" = some (.ref t.ae)
 m_NoTurning:mg "NoTurning" = some (.ref t.au)
 m_NoShorter:mg "NoShorter" = some (.ref t.av)
 m_NoAsk:mg "NoAsk" = some (.ref t.bj)
 m_NoName:mg "NoName" = some (.ref t.bq)
 o_WidthError:Zdv "WidthError" t.ah mg base
 kp_WidthError:PySem.W.keepIn K (.ref t.ah)=true
 o_NoSum:Zdv "NoSum" t.bh mg base
 kp_NoSum:PySem.W.keepIn K (.ref t.bh)=true
 o_NoClaim:Zdv "NoClaim" t.az mg base
 kp_NoClaim:PySem.W.keepIn K (.ref t.az)=true
 o_NoWords:Zdv "NoWords" t.ae mg base
 kp_NoWords:PySem.W.keepIn K (.ref t.ae)=true
 o_NoTurning:Zdv "NoTurning" t.au mg base
 kp_NoTurning:PySem.W.keepIn K (.ref t.au)=true
 o_NoShorter:Zdv "NoShorter" t.av mg base
 kp_NoShorter:PySem.W.keepIn K (.ref t.av)=true
 o_NoAsk:Zdv "NoAsk" t.bj mg base
 kp_NoAsk:PySem.W.keepIn K (.ref t.bj)=true
 b_NoSum:Wc base t.bh t.ah
 b_NoClaim:Wc base t.az t.ah
 b_NoWords:Wc base t.ae t.ah
 b_NoTurning:Wc base t.au t.ah
 b_NoShorter:Wc base t.av t.ah
 b_NoAsk:Wc base t.bj t.ah
 b_NoName:Wc base t.bq t.ah
 c_WidthError:Cl3 K t.ah
 c_NoSum:Cl3 K t.bh
 c_NoClaim:Cl3 K t.az
 c_NoWords:Cl3 K t.ae
 c_NoTurning:Cl3 K t.au
 c_NoShorter:Cl3 K t.av
 c_NoAsk:Cl3 K t.bj
 c_NoName:Cl3 K t.bq
 q_not:PySem.W.kitAny K (.ref t.ae) [.ref t.bj,.ref t.az,.ref t.bq,.ref t.av,.ref t.bh,.ref t.au]=some false
 q_val:PySem.W.kitOne K (.ref t.ae) (.type "ValueError")=some true
set_option genInjectivity false in
set_option genSizeOfSpec false in
structure Tbs(mg:Ae)(base:Heap)(t:Adr):Prop where
 ip:PySem.W.CodeHd base t.ip t.aq
 br:PySem.W.CodeHd base t.br t.aa
 B:yt mg base
def W7:Zt ["width","many","bit_number"] ["width"] (Zh jI):={}
def XG:Zt ["bits","number","bit"] ["bits"] (Zh zc):={}
def zQ:Zt ["machine","letters","state","steps","out","row","letter"] ["machine","letters"] (Zh Zou):={}
def ZR:Zt ["machine","letters","steps","layers","some","layer","state","letter"] ["machine","letters"] (Zh Jd):={}
def Ge:Zt ["letters","number","bit"] ["letters","number","bit"] (Zh YL):={}
def kW:Zt ["machine","state","letter","well","wanted"] ["machine","state","letter","well","wanted"] (Zh zd):={}
def zR:Zt ["state","states","numbers"] ["state","states","numbers"] (Zh J7):={}
def zS:Zt ["marks","numbers"] ["marks"] (Zh qm):={}
def vc:Zt ["states","classes"] ["states","classes"] (Zh Je):={}
def XH:Zt ["classes","firsts","state","number"] ["classes"] (Zh ze):={}
def jo:Zt ["text"] ["text"] (Zh G2):={}
def xc:Zt ["text"] ["text"] (Zh Jf):={}
def jq:Zt ["word"] ["word"] (Zh G3):={}
def xf:Zt ["word"] ["word"] (Zh Jg):={}
def vd:Zt ["text","signs"] ["text","signs"] (Zh Jh):={}
def kX:Zt ["word"] ["word"] (Zh zf):={}
def gC:Zt ["one","other","held"] ["one","other","held"] (Zh jJ):={}
def jr:Zt ["word","parts"] ["word","parts"] (Zh G4):={}
def qx:Zt ["words"] ["words"] (Zh Xn):={}
def Zbh:Zt ["columns","letter"] ["columns","letter"] (Zh zg):={}
def ZU:Zt ["script","k","cells","size","cell","turn","step","seed"] ["script","k"] (Zh qI):={}
def Xc:Zt ["number","letters","some","name","k"] ["number"] (Zh jK):={}
def kY:Zt ["word"] ["word"] (Zh zh):={}
def Jl:Zt ["words","kept"] ["words"] (Zh JV):={}
def ve:Zt ["word","one","full"] ["word","one","full"] (Zh qJ):={}
def vf:Zt ["word","one","other","full"] ["word","one","other","full"] (Zh qK):={}
def ZV:Zt ["names","full","found","name","wider","values","word","more"] ["names","full"] (Zh G5):={}
def zT:Zt ["caught"] ["caught"] (Zh J8):={}
def Jm:Zt ["found","names","full","name"] ["found","names","full"] (Zh JA):={}
def W8:Zt ["names","letters","words","place","name"] ["names","letters"] (Zh qo):={}
def Y5:Zt ["machine","states","letters","well","wanted","going","state"] ["machine","states","letters","well","wanted"] (Zh YA):={}
def Ys:Zt ["steps","out","classes","many"] ["steps","out"] (Zh X2):={}
def gD:Zt ["word"] ["word"] (Zh jL):={}
def Zbi:Zt ["text"] ["text"] (Zh kq):={}
def YO:Zt ["names","letters","columns","place","name"] ["names","letters"] (Zh XX):={}
def qM:Zt ["word","parts","held","one"] ["word","parts","held"] (Zh zi):={}
def js:Zt ["word","parts","held","then"] ["word","parts","held","then"] (Zh G6):={}
def Jn:Zt ["script","start","many","found","k"] ["script","start","many"] (Zh zj):={}
def Z9:Zt ["number","room","left","some","word","judged"] ["number","room","left"] (Zh WD):={}
def Yz:Zt ["number","room","left","names","top","some","word","hard"] ["number","room","left","names","top"] (Zh JB):={}
def Xd:Zt ["words","full","values","pile","word","one","other"] ["words","full","values"] (Zh jM):={}
def Z4:Zt ["machine","letters","number","wanted","layers","left","well","place","chosen","going"] ["machine","letters","number","wanted"] (Zh We):={}
def jt:Zt ["stack","word"] ["stack","word"] (Zh Wy):={}
def gE:Zt ["words"] ["words"] (Zh qp):={}
def Y0:Zt ["script","start","names","most","left","top","claim","words","parts","room","number","word"] ["script","start","names","most","left","top","claim"] (Zh zk):={}
def qN:Zt ["words","names","full","wanted","values"] ["words","names","full","wanted"] (Zh zm):={}
def Yk:Zt ["machine","width","wanted","names","all_letters","letters","number","row"] ["machine","width","wanted"] (Zh Xv):={}
def Xy:Zt ["words","columns","place","kept","stack","later","word","parts","held"] ["words","columns","place","kept"] (Zh kr):={}
def Yd:Zt ["names","begin","step_of","states","numbers","steps","out","told"] ["names","begin","step_of"] (Zh X3):={}
def XI:Zt ["machine","found","steps","out","classes","firsts","least_steps","least_out"] ["machine"] (Zh zo):={}
def ZQ:Zt ["words","names","told","letters","columns","last_place","step_of","begin"] ["words","names","told"] (Zh ZW):={}
def xg:Zt ["claim","names"] ["claim","names"] (Zh Ji):={}
def qy:Zt ["claim"] ["claim"] (Zh WE):={}
def Zbj:Zt ["claim","width"] ["claim","width"] (Zh ku):={}
def Zbk:Zt ["claim","width"] ["claim","width"] (Zh kx):={}
def Xk:Zt ["words","width","wanted","told","caught","e"] ["words","width","wanted"] (Zh zp):={}
def Xr:Zt ["script","first","names","left","top","words","k","width","wanted","due","kind","found"] ["script"] (Zh Zmg):={}
def J3:Zma (Zh YM) ["state"] ["step","place","reached"] ["words","columns","last_place","letters","told"]:=⟨by rfl,by rfl,by rfl,by decide +kernel,by decide +kernel,by decide +kernel,by decide +kernel⟩
def spQ(i:A2->Hp->VK->Prop):Sp:=λvs H Q _=>i vs H Q
section
variable (P:Aq){w:Au}{K:Af}{mg:Ae}(base:Heap){t:Adr}
variable (T:Txt K w mg t)(TB:Tbs mg base t)(XB:Xcl K mg base t)
include T TB XB
variable(vs:A2)(H:Hp)(Q:VK)
inductive GL:Prop
 |mk(w:Nat):vs=[.int w]->w<=1000->Q (.int (2^w)) H->GL
theorem zU:FnD T.di P w base 1 (spQ GL):=by
 refine T.di.go W7 ?_;rintro e A outer s H _ Q E z ⟨w,rfl,hw,k⟩;refine⟨_,(Zb (Zw 1 W7.nd Zf)
   (Zb (Yu Qbd U (YG U T.ay (Zi (qv 0) Zd)) (YE 2 W7.nd)
   (Ze (Zw 1 W7.nd (Zs Xm (qv 1) Zf))))
   (Ze (Zn (qv 1))))),?_⟩
 refine⟨_,U,(w:Int),U,by lia,by lia,Xz (λi σ H2=>∃v,σ=[some (.int w),some (.int (2^i)),v]/\H2=H) ⟨none,U,U⟩ ?_ ?_⟩
 .rintro i σ H2 hi ⟨v,rfl,rfl⟩;refine⟨_,U,_,_,U,U,.inr (.inr ⟨by decide,by decide⟩),some (.int (0+(i:Int))),?_,U⟩;rfl
 .rintro σ H2 ⟨v,rfl,rfl⟩;refine⟨_,U,?_⟩;exact k
omit T TB XB in
theorem Zi0{x:V}(h:(I.map V.int)[i]?=some x):∃b,x=V.int b/\I[i]?=some b:=by grind
inductive JC(K:Af):Prop
 |mk(p:Aw)(ns:Ak):vs=[.ref p]->SqT K H p (ns.map V.int)->Q (.int (hor ns.reverse)) H->JC K
def kZ(K:Af):Sp:=λvs H Q _=>JC vs H Q K
theorem qO:FnD T.cx P w base 1 (kZ K):=by
 refine T.cx.go XG ?_;rintro G A outer s H _ Q E J ⟨p,ns,rfl,z,k⟩;refine⟨_,(Zb (Zw 1 XG.nd Zf)
   (Zb (Yu Qbd U (Zcx U T.iu (qv 0)) (YE 2 XG.nd)
   (Ze (Zw 1 XG.nd (Zs YB (Zs Xm (qv 1) Zf) (qv 2)))))
   (Ze (Zn (qv 1))))),?_⟩
 refine⟨_,U,p,_,U,z,Zcy (K:=K) (a:=p) (xs:=ns.map V.int) (λi σ H2=>∃v,σ=[some (.ref p),some (.int (hor (ns.reverse.take i))),v]/\H2=H) ⟨none,U,U⟩ (λi σ H2 _ ⟨_,_,e⟩=>by rw[e];exact z) ?_ ?_⟩
 .rintro i x σ H2 F ⟨v,rfl,rfl⟩;rw[<-List.map_reverse]at F;obtain⟨b,rfl,I⟩:=Zi0 F;refine⟨_,U,_,_,U,U,.inr (.inr ⟨by decide,by decide⟩),_,U,_,_,U,U,some (.int b),?_,U⟩;rw[Zh5 I];rfl
 .rintro σ H2 ⟨v,rfl,rfl⟩;refine⟨_,U,?_⟩;rw[Qdk (by grind)];exact k
inductive uZ:Prop
 |mk(m p:Aw)(S L b:Nat)(nv:V)(nx:Nat->Nat->Nat)(ot:Nat->Nat->V)(ls:Aj):vs=[.ref m,.ref p]->Zkg H m S L nv b nx ot->H p=some (.tup (ls.map Y9))->(∀l∈ls,l<L)->ls.length<=1000000->(∀q H',H q=none->H' q=some (.tup (wk nx ot b ls))->ZG H H'->Q (.ref q) H')->uZ
theorem ok_run:FnD T.nj P w base 1 (spQ uZ):=by
 refine T.nj.go zQ ?_;rintro cdv A outer s H _ Q E z ⟨m,p,S,L,b,nv,nx,ot,ls,rfl,M,Ua,hL,Y,k⟩;refine⟨_,(Zb (Zw 2 zQ.nd (Z0 ZE (qv 0) Zf))
   (Zb (Zw 3 zQ.nd (Z0 ZE (qv 0) Zf))
   (Zb (Zw 4 zQ.nd (Z0 ZE (qv 0) Zf))
   (Zb (Zw 5 zQ.nd (ZP Zd))
   (Zb (Yu Qbd U (XC (qv 1)) (YE 6 zQ.nd)
   (Zb (Yc (Y7 Qap Qaz Qa0 ZH (qv 5) (Zi (Z0 ZE (Z0 ZE (qv 4) (qv 2)) (qv 6)) Zd)))
   (Ze (Zw 2 zQ.nd (Z0 ZE (Z0 ZE (qv 3) (qv 2)) (qv 6))))))
   (Ze (Zn (Z3 Z1 (by rfl) T.aj ZZ (Zi (qv 5) Zd))))))))),?_⟩
 obtain⟨ps,po,J,RS,RO⟩:=M.ex;refine⟨_,U,m,_,1,_,U,U,SqT.of J,U,_,U,m,_,2,_,U,U,SqT.of J,U,_,U,m,_,3,_,U,U,SqT.of J,U,?_⟩;refine⟨by decide,λr z=>?_⟩;refine⟨_,U,p,U,⟨_,SqT.of (Zc z _ _ Ua)⟩,?_⟩;refine yf (K:=K) (a:=p) (xs:=ls.map Y9) (λi σ H2=>∃u,σ=[some (.ref m),some (.ref p),some (.int (Zgm nx b (ls.take i):Nat)),some (.ref ps),some (.ref po),some (.ref r),u]/\H2 r=some (.lst (wk nx ot b (ls.take i)))/\ZG H H2) ⟨none,U,Za,Zc z⟩ (λi σ H2 _ ⟨u,_,_,e⟩=>SqT.of (e _ _ Ua)) ?_ ?_
 .rintro i x σ H2 I ⟨u,rfl,h2,e⟩;obtain⟨l,rfl,G⟩:=Zey I;have Z:=hL l (Qam G);have st:=Zex M.nx (ls.take i) b M.b λx I=>hL x (Qgb I);obtain⟨as,ho,go⟩:=RO.ex;obtain⟨a,xs,o1,o2,o3⟩:=go _ st;obtain⟨bs,hs,gs⟩:=RS.ex;obtain⟨c,ys,t1,t2,t3⟩:=gs _ st;have F:=Yj (p:=r) (o:=.lst (wk nx ot b (ls.take i)++[ot (Zgm nx b (ls.take i)) l])) e z;refine⟨_,U,.inl ⟨U,_,SqL.of h2⟩,_,U,_,U,po,_,_,_,U,U,SqT.of (e _ _ ho),Yn o1,_,U,a,_,_,_,U,U,SqT.of (e _ _ o2),Yn (o3 l Z),r,_,_,U,U,h2,?_,?_⟩
  .rw[Zkh,Qbg];exact Yv (by lia)
  refine⟨_,U,_,U,ps,_,_,_,U,U,SqT.of (F _ _ hs),Yn t1,_,U,c,_,_,_,U,U,SqT.of (F _ _ t2),Yn (t3 l Z),some (.int l),?_,?_,F⟩
  .rw[take_snoc G,uG];rfl
  .rw[Za,take_snoc G,Zew];rfl
 .rintro σ H2 ⟨u,rfl,h2,e⟩;rw[Qab,Qbs]at h2;exact⟨_,U,r,_,U,.inl ⟨SqL.of h2,λq O=>k q _ (e.free O) Za (e.trans (Zc O))⟩⟩
inductive XJ:Prop
 |mk(m a:Aw)(nm:Ai)(b:Nat)(nx:Ad)(ot:Az)(n:Nat)(Ls:Ad):vs=[.ref m,.ref a]->M4 H m nm b nx ot->Runs nx ot n->b<nx.length->nx.length<=1000000->kR H a Ls->Ls≠[]->(∀L∈Ls,L.length<=1000/\∀l∈L,l<2^n)->Ls.length<=1000000->(∀p H',H p=none->Zgq H' p (lys (mN nx) [b] Ls)->SmF H H'->Q (.ref p) H')->XJ
theorem xh:FnD T.cf P w base 1 (spQ XJ):=by
 refine T.cf.go ZR ?_;rintro cdv A outer s H _ Q E hr ⟨m,a,nm,b,nx,ot,n,Ls,rfl,M,R,hb,hN,hA,hne,hL,hw,k⟩;have hu:=qU hr;refine⟨_,(Zb (Zw 2 ZR.nd (Z0 ZE (qv 0) Zf))
   (Zb (Zw 3 ZR.nd (ZP (Zi (Zdq (ue (Z0 ZE (qv 0) Zf) Y2 Zdp) U U (λz=>nomatch z) (by decide)) Zd)))
   (Zb (Yu Qbd U (YF (Zg1 Zk5 (qv 1) Zle (Zlf (WS J5 Zf)))) (YE 4 ZR.nd)
   (Zb (Zw 5 ZR.nd JS)
   (Zb (Yu Qbd U (ur (Z0 Zz (qv 3) (WS J5 Zf))) (YE 6 ZR.nd)
   (Ze (Yu Qbd U (XC (qv 4)) (YE 7 ZR.nd)
   (Ze (JT hu (qv 5) (Z0 ZE (Z0 ZE (qv 2) (qv 6)) (qv 7)) Y2 U)))))
   (Ze (Yc (Y7 Qap Qaz Qa0 ZH (qv 3) (Zi (qv 5) Zd)))))))
   (Ze (Zn (qv 3)))))),?_⟩
 obtain⟨pn,ps,po,h1,_,Rs,Ro⟩:=M.ex;obtain⟨as,ha,hal,hat⟩:=hA;have lyl:=g7 (nx:=mN nx) Ls [b];have lyok:=Zfx (nx:=mN nx) (N:=nx.length) (M:=2^n) (λs l hs hl=>R.mN hs hl) (Ls:=Ls) (S:=[b]) (Qbu.mpr ⟨Qbk,Qcj⟩) (λs hs=>by rw[Qat.mp hs];exact hb) (λL h=>(hL L h).2);have ly1:1<=Ls.length/\(lys (mN nx) [b] Ls).take 1=[[b]]:=by
  cases Ls with
  |nil=>exact absurd U hne
  |cons _ _=>exact⟨Nat.succ_le_succ (Qbl _),U⟩
 refine⟨_,U,m,_,2,_,U,U,SqT.of h1,U,Zg ?_⟩;refineλd hd=>?_;have sd:=Zc (o:=.dK []) hd;refine⟨_,U,m,_,1,_,U,U,SqT.of (sd _ _ h1),U,Za,[(.inl (b:Int),.bl true)],U,by show 1<=15;decide,Zn2,λp hp=>Zg ?_⟩;rw[yb]at hp ⊢;have sd2:=Zc (o:=.dK (Gr [] [((.inl (b:Int):Key),V.bl true)])) hd;have s2:=sd2.trans (Zc (o:=.lst [.ref d]) hp);have hpH:=sd2.free hp;have hd2:=Zc (o:=.lst [.ref d]) hp _ _ (Za (H:=H) (a:=d) (o:=.dK (Gr [] [((.inl (b:Int):Key),V.bl true)])));have ly0:Zgq (upd (upd H d (.dK (Gr [] [((.inl (b:Int):Key),V.bl true)]))) p (.lst [.ref d])) p ((lys (mN nx) [b] Ls).take 1):=by
  rw[ly1.2];refine⟨_,Za,U,λi S hi=>?_⟩
  match i,hi with
  |0,hi=>
   cases hi;exact⟨d,U,.inl hd2⟩
 have I:Zk3 as none (some (-1))=as.take (as.length-1):=Zfb (xs:=as) (n:=1) (by lia) (by decide);refine⟨_,U,_,U,_,U,a,as,U,SqL.of (s2 _ _ ha),λq hq=>⟨q,U,⟨_,SqL.of Za⟩,Gi (K:=K) (a:=q) (xs:=Zk3 as none (some (-1))) (λi σ H'=>∃(u4 u5 u6 F:Option V),σ=[some (.ref m),some (.ref a),some (.ref ps),some (.ref p),u4,u5,u6,F]/\i+1<=Ls.length/\Zgq H' p ((lys (mN nx) [b] Ls).take (i+1))/\H' q=some (.lst (Zk3 as none (some (-1))))/\SmF H H') ⟨none,none,none,none,U,ly1.1,ly0.smf (SmF.of (Zc hq)),Za,(SmF.of s2).trans (SmF.of (Zc hq))⟩ (λi σ H' _ ⟨_,_,_,_,_,_,_,h,_⟩=>SqL.of h) ?_ ?_⟩⟩
 .rintro i x σ H1 Y ⟨u4,u5,u6,F,rfl,hi,⟨zs,hz1,hz2,hz3⟩,hq1,s3⟩;rw[I,Qfm]at Y;have hi2:i+1<Ls.length:=by
   rcases Qgp i (as.length-1)with z|z
   .lia
   .rw[Qax (by lia)]at Y;cases Y
  rw[Qa2 (by lia)]at Y;obtain⟨L,hLi⟩:∃L,Ls[i]?=some L:=⟨_,Qac (by lia)⟩;obtain⟨x0,hx0,htl⟩:=hat i L hLi;rw[Y]at hx0;cases hx0;obtain⟨hL1,hL2⟩:=hL L (Qam hLi);obtain⟨S,Ua⟩:∃S,(lys (mN nx) [b] Ls)[i]?=some S:=⟨_,Qac (by lia)⟩;obtain⟨hS1,hS2⟩:=lyok S (Qam Ua);have Z:=uU Ua hLi hi2;rw[Qbg]at hz2;have hzl:zs.length=i+1:=by lia
  obtain⟨dl,hdl,rdl⟩:=hz3 i S (by rw[Qfm,Qa2 (by lia)];exact Ua);have ezs:zs=zs.take i++[.ref dl]:=by
   rw[<-take_snoc hdl,<-hzl,Qbs]
  have hlast:atI zs (-1)=some (.ref dl):=by rw[ezs];exact yg _ _
  refine Zg λe he=>Zg ?_;have se:=SmF.of (Zc (o:=.dK []) he);have rd2:=se.rd rdl;refine⟨_,U,_,U,p,_,-1,_,U,U,SqL.of (se.lst hz1),hlast,dl,_,U,rd2,λo ho=>gZ (kvs:=twK S) (λj σ H'=>∃(u6 F:Option V),σ=[some (.ref m),some (.ref a),some (.ref ps),some (.ref p),some (.ref x0),some (.ref e),u6,F]/\H' dl=some (.frz o (.dK (twK S)))/\H' e=some (.dK (twK (((S.take j).flatMap λs=>L.map (mN nx s)).foldl Yw [])))/\SmF H1 H') ⟨_,_,U,Za,?_,se.trans (SmF.frz rd2 ho)⟩ (λi σ H' _ ⟨_,_,_,h,_⟩=>h) ?_ ?_⟩
  .have hed:e≠dl:=λz=>by
    subst z;rcases rdl with z|⟨_,z⟩<;>rw[he]at z<;>cases z
   rw[Zj hed,Za];rfl
  .rintro j pr σ H3 J ⟨u6,F,rfl,g1,g2,s4⟩;unfold twK at J;rw[Qag]at J;obtain⟨s,hs,rfl⟩:=Qa5.mp J;have hsS:=Qam hs;have hsN:=hS2 s hsS;have s34:=s3.trans s4;have G:=s34.tup htl;obtain⟨pn3,ps3,po3,m1,_,Rs3,_⟩:=(M.smf s34).ex;rw[s34.tup h1]at m1;cases m1;obtain⟨as1,a1,r1,r2,r3⟩:=JY Rs3 (i:=s) (by rw[Qab];exact hsN);rw[GA]at r3;have l1:=R.nr _ (getD_mem hsN);have hde:dl≠e:=λz=>by rw[z,g2]at g1;cases g1
   refine Zg ⟨_,U,x0,U,⟨_,SqT.of G⟩,yf (K:=K) (a:=x0) (xs:=L.map Y9) (λc σ H'=>∃(F:Option V),σ=[some (.ref m),some (.ref a),some (.ref ps),some (.ref p),some (.ref x0),some (.ref e),some (.int s),F]/\H' dl=some (.frz o (.dK (twK S)))/\H' e=some (.dK (twK ((((S.take j).flatMap λs=>L.map (mN nx s))++(L.take c).map (mN nx s)).foldl Yw [])))/\SmF H1 H'/\∀b xs,H3 b=some (.tup xs)->H' b=some (.tup xs)) ⟨_,U,g1,by rw[List.take_zero,Qhd,Qbp];exact g2,s4,λ_ _ z=>z⟩ (λc σ H' _ ⟨_,_,_,_,_,z⟩=>SqT.of (z _ _ G)) ?_ ?_⟩
   .rintro c y σ H4 hy ⟨F,rfl,f1,f2,s5,tp⟩;rw[Qag]at hy;obtain⟨l,hl,rfl⟩:=Qa5.mp hy;have hlL:=hL2 l (Qam hl);have hsz:((((S.take j).flatMap λs=>L.map (mN nx s))++(L.take c).map (mN nx s)).foldl Yw []).length<=nx.length:=Zne λx Y=>by
     rcases Qb2.mp Y with z|z
     .obtain⟨s',hs',z⟩:=Qg8.mp z;obtain⟨l',O,rfl⟩:=Qau.mp z;exact R.mN (hS2 s' (Qgb hs')) (hL2 l' O)
     .obtain⟨l',O,rfl⟩:=Qau.mp z;exact R.mN hsN (hL2 l' (Qgb O))
    refine Zg ⟨_,U,_,U,_,U,ps,_,_,_,U,U,SqT.of (tp _ _ r1),r2,_,U,a1,_,_,_,U,U,SqT.of (tp _ _ r3),Yn (gz (show l<(nx.getD s []).length by lia)),e,_,U,Zc3.k (k:=.inl (((nx.getD s []).getD l 0:Nat):Int)) f2 (by rw[zM];exact Yv (by lia)),_,U,by rw[Zj hde];exact f1,?_,s5.put he,λb xs z=>?_⟩
    .rw[Za,Zfw,take_snoc hl,Qa6,<-Qb7,Qc7 (l':=List.map _ [l])];rfl
    .rw[Zj (YQ z (show H3 e=_ from g2) λq=>nomatch q)];exact tp b xs z
   .rintro σ H4 ⟨F,rfl,f1,f2,s5,_⟩;rw[Qab,Qbs]at f2;exact⟨_,_,U,f1,by rw[Zfz hs];exact f2,s5⟩
  .rintro σ H3 ⟨u6,F,rfl,g1,g2,s4⟩;rw[zM,Qbs]at g2;have hz4:=s4.lst hz1;have hq4:=s4.lst hq1;have hpq:q≠p:=λz=>by
    subst z;obtain⟨w0,hw0,_⟩:=ly0;rw[hq]at hw0;cases hw0
   refine⟨_,U,.inl ⟨U,_,SqL.of hz4⟩,_,U,p,_,_,U,U,hz4,by rw[hzl];exact Yv (by lia),_,_,_,_,U,hi2,?_,by rw[Zj hpq];exact hq4,(s3.trans s4).put hpH⟩;rw[take_snoc Z];exact Zgq.more (H':=H3) hz4 (by rw[Qbg];lia) (λj S' hj=>by
    obtain⟨a9,y1,y2⟩:=hz3 j S' hj;exact⟨a9,y1,s4.rd y2⟩) g2
 .rintro σ H1 ⟨u4,u5,u6,F,rfl,hi,ly,hq1,s3⟩;rw[I,Qbg]at ly hi;refine⟨_,U,k p H1 hpH ?_ s3⟩;rw[show min (as.length-1) as.length+1=(lys (mN nx) [b] Ls).length by lia,Qbs]at ly;exact ly
inductive Xl:Prop
 |mk(a:Aw)(L:Aj)(kb b:Nat):vs=[.ref a,.int kb,.int b]->H a=some (.tup (L.map Y9))->L.length<=1000->kb<=3->(∀p H',H p=none->H' p=some (.tup ((chB kb b L).map Y9))->ZG H H'->Q (.ref p) H')->Xl
theorem Gf:FnD T.bb P w base 1 (spQ Xl):=by
 refine T.bb.go Ge ?_;rintro Ua A outer s H _ Q E hr ⟨a,L,G,b,rfl,O,Z,Y,k⟩;refine⟨_,(Ze (Zn (Z3 Z1 (by rfl) T.aj ZZ (Zi (Y4 ({}:ZS (Zh YL) _ ["letters","number","bit"] "letter" ["bit","number"] [2,1]) (XC (qv 0)) (λ_ _ _ _=>(vH (Zq Yl (Zs YT (Zs j4 (qv 0) (qv 2)) Zf) (qv 1) (Zx _)))) (λ_ _ _ _=>(qv 0))) Zd)))),?_⟩;refine⟨_,U,a,U,⟨_,SqT.of O⟩,xT (xs:=L.map Y9) (Zpa G b) ZG ZG.refl (λ_ _ _ x y=>x.trans y) (λH1 e=>SqT.of (e _ _ O)) (by rw[Qab];exact Qaw (Z2 Z)) (λx I H1 e R hR=>?_) (λx I H1 R hR=>⟨_,U,hR⟩) (λH1 l e z=>?_)⟩
 .obtain⟨y,_,rfl⟩:=Qau.mp I;refine⟨_,U,_,U,_,_,U,U,Qch _,_,_,U,U,_,U,U,_,U,?_⟩;rw[bit_of];exact hR H1 (ZG.refl H1)
 have J:=e.trans (Zc (o:=.lst ((L.map Y9).filter (Zpa G b))) z);refine⟨l,_,U,.inl ⟨SqL.of Za,λp F=>?_⟩⟩;exact k p _ (J.free F) (by rw[Za,zN]) (J.trans (Zc F))
inductive JD:Prop
 |mk(m:Aw)(nm:Ai)(b:Nat)(nx:Ad)(ot:Az)(n s c:Nat)(W:Option (Aj))(wv v:V)(tr:Bool):vs=[.ref m,.int s,.int c,wv,v]->M4 H m nm b nx ot->Runs nx ot n->s<nx.length->c<2^n->jX H wv W->Xp tr v->(∀r∈ot,∀x∈r,Xp tr x)->Q (.bl (gw (mN nx) (mB ot v) W s c)) H->JD
theorem we:FnD T.fg P w base 1 (spQ JD):=by
 refine T.fg.go kW ?_;rintro cdv A outer s H _ Q E hr ⟨m,nm,b,nx,ot,n,s,c,W,wv,v,tr,rfl,M,R,F,hc,hw,Y,Ua,k⟩;have hu:=qU hr;refine⟨_,(Zb (Z8 (Zq Zb9 (qv 3) xH (by with_unfolding_all rfl))
   (Ze (Zn (Yt Yl (Z0 ZE (Z0 ZE (Z0 ZE (qv 0) Zf) (qv 1)) (qv 2)) (qv 4) (Zx _)))) Zu)
   (Ze (Zn (Yt (qa hu) (Z0 ZE (Z0 ZE (Z0 ZE (qv 0) Zf) (qv 1)) (qv 2)) (qv 3) (by with_unfolding_all rfl))))),?_⟩
 obtain⟨pn,ps,po,h1,_,Rs,Ro⟩:=M.ex;have z:s<ot.length:=by rw[R.ol];exact F
 have l1:=R.nr _ (getD_mem F);have l2:=R.or _ (getD_mem z);obtain⟨O,a1,J,g2,G⟩:=JY Rs (i:=s) (by rw[Qab];exact F);obtain⟨Z,a2,f1,f2,f3⟩:=JY Ro z;rw[GA]at G;refine⟨_,U,U,_,U,?_⟩;rcases hw with⟨rfl,rfl⟩|⟨d,l,rfl,rfl,I⟩
 .have e:=getD_at (d:=V.non) (show c<(ot.getD s []).length by lia);exact Y1 ⟨_,U,m,_,3,_,U,U,SqT.of h1,U,_,U,po,_,_,_,U,U,SqT.of f1,f2,_,U,a2,_,_,_,U,U,SqT.of f3,Yn e,_,U,kO (Ua _ (getD_mem z) _ (Qam e)) Y,k⟩
 .refine ZI ⟨_,U,m,_,2,_,U,U,SqT.of h1,U,_,U,ps,_,_,_,U,U,SqT.of J,g2,_,U,a1,_,_,_,U,U,SqT.of G,Yn (gz (show c<(nx.getD s []).length by lia)),_,U,d,_,U,.inl ⟨_,.inl _,I,U,U⟩,?_⟩;rw[yY];exact k
inductive Wh:Prop
 |mk(κ:Type)(dq:DecidableEq κ)(sk:SK κ)(v:V)(st nd:Aw)(k:κ)(l:List κ)(ws:A2):vs=[v,.ref st,.ref nd]->H st=some (.lst ws)->ws.length=l.length->sk.dic H nd l->sk.at_ H k v->l.Nodup->l.length<10000000->(∀H' ws',H' st=some (.lst ws')->((k∈l/\ws'=ws)\/(k∉l/\ws'=ws++[v]))->sk.dic H' nd (Yw l k)->(∀b o,H b=some o->b≠st->b≠nd->H' b=some o)->(∀b,H b=none->H' b=none)->Q (.int ((Yw l k).idxOf k:Int)) H')->Wh
theorem zV:FnD T.cz P w base 1 (spQ Wh):=by
 refine T.cz.go zR ?_;rintro cdv A outer s H _ Q E hr ⟨κ,_,sk,v,st,I,k0,l,Ua,rfl,G,hal,n,hk,hnd,hl,k⟩;have hu:=qU hr;refine⟨_,(Zb (Z8 (Zq (OpR.or (Zd8 (kg hr)) (Gu hu)) (qv 0) (qv 2) (by with_unfolding_all rfl))
   (Zb (QS.or (Zl8 (kg hr) (qv 2) (qv 0) (Zr Zy (by rfl) T.ak Yr (Zi (qv 1) Zd)) U) (JT hu (qv 2) (qv 0) (Zr Zy (by rfl) T.ak Yr (Zi (qv 1) Zd)) U))
   (Ze (Yc (Y7 Qap Qaz Qa0 ZH (qv 1) (Zi (qv 0) Zd))))) Zu)
   (Ze (Zn (QE.or (Zl7 (kg hr) (qv 2) (qv 0) (λ_ _=>U)) (JR hu (qv 2) (qv 0) (λ_ _=>U)))))),?_⟩
 have hsn:st≠I:=λz=>by
  obtain⟨o,e,_,h⟩:=SK.ne n;rw[<-z,G]at e;cases e;exact h _ U
 cases sk with
 |int f inj=>
  subst hk;have J:f k0∈l.map f↔k0∈l:=⟨λz=>let⟨a,ha,e⟩:=Qau.mp z;inj _ _ e ▸ ha,λz=>Qb9 z⟩;have Y:(l.map f).Nodup:=by
   grind
  have ei:=Zd5 f k0 (Yw l k0) λa _ e=>inj _ _ e;have em:=uo f l k0 λa _ e=>inj _ _ e;refine⟨_,U,_,U,.inr ⟨I,Ym (nk (l.map f)) (.inl (f k0)),U,.inl ⟨nk (l.map f),.inl (f k0),.inl n,U,U⟩,_,U,?_⟩⟩
  by_cases hs:k0∈l
  .have e1:Yw l k0=l:=Qa2 hs;rw[e1]at k ei;rw[Ze0 (J.mpr hs) Y];refine ZI (.inr ⟨_,U,_,U,I,_,U,.inl ⟨nk (l.map f),.inl (f k0),.inl n,U,(Ze0 (J.mpr hs) Y).symm⟩,?_⟩);rw[ei];exact k H Ua G (.inl ⟨hs,U⟩) n (λ_ _ e _ _=>e) λ_ e=>e
  .have e1:Yw l k0=l++[k0]:=Qax hs;have hs':f k0∉l.map f:=λz=>hs (J.mp z);rw[e1]at k ei em;rw[Zmu hs'];have Z:((l++[k0]).map f).Nodup:=by
    rw[<-em];exact Wd Y _
   refine Y1 (.inr ⟨_,U,st,_,U,.inl (SqL.of G),_,U,_,U,I,_,U,Zc3.k (k:=.inl (f k0)) n (by rw[nk_len,Qab];exact Yv (by lia)),?_⟩);rw[hal,show(l.length:Int)=((l.map f).length:Int) by rw[Qab],nk_put hs'];have e2:l.map f++[f k0]=(l++[k0]).map f:=by rw[Qa6];rfl
   rw[e2];have F:upd H I (.dK (nk ((l++[k0]).map f))) st=some (.lst Ua):=by rw[Zj hsn];exact G
   refine⟨_,U,.inl ⟨U,_,SqL.of F⟩,_,U,st,_,_,U,U,F,Yv (by lia),?_⟩;have O:upd (upd H I (.dK (nk ((l++[k0]).map f)))) st (.lst (Ua++[.int (f k0)])) I=some (.dK (nk ((l++[k0]).map f))):=by rw[Zj hsn.symm];exact Za
   refine .inr ⟨_,U,_,U,I,_,U,.inl ⟨_,.inl (f k0),.inl O,U,(Ze0 (Qb9 (by simp)) Z).symm⟩,?_⟩;rw[ei];refine k _ (Ua++[.int (f k0)]) Za (.inr ⟨hs,U⟩) O (λb o e h1 h2=>?_) λb e=>?_
   .rw[Zj h1,Zj h2];exact e
   .rw[Zj (λz=>by rw[z,G]at e;cases e),Zj (λz=>by rw[z,n]at e;cases e)];exact e
 |key kn=>
  obtain⟨a,rfl,hk⟩:=hk;refine⟨_,U,_,U,.inl ⟨κ,_,kn,I,a,k0,_,U,U,n,hk,_,U,?_⟩⟩
  by_cases J:k0∈l
  .have e1:Yw l k0=l:=Qa2 J;have hv:=Jc l k0 J hnd;rw[e1]at k;rw[hv];exact ZI (.inl ⟨_,U,_,U,κ,_,kn,I,a,k0,_,_,U,U,n,hk,hv,k H Ua G (.inl ⟨J,U⟩) n (λ_ _ e _ _=>e) λ_ e=>e⟩)
  .have e1:Yw l k0=l++[k0]:=Qax J;have hv:=qj l k0 J;have Z:(l++[k0]).Nodup:=e1 ▸ Wd hnd k0;rw[e1]at k;rw[hv];refine Y1 (.inl ⟨_,U,st,_,U,.inl (SqL.of G),_,U,_,U,κ,_,kn,I,a,k0,_,U,U,n,hk,hv,?_,λH2 n2 o2 hx=>?_⟩)
   .rw[Jb];exact Yv (by lia)
   rw[hal]at n2;rw[<-qi]at n2;have F:=o2 _ _ G hsn;refine⟨_,U,.inl ⟨U,_,SqL.of F⟩,_,U,st,_,_,U,U,F,Yv (by lia),?_⟩;have n3:qX kn (upd H2 st (.lst (Ua++[.ref a]))) I (XW (l++[k0])):=SK.off (sk:=.key kn) n2 F;have hk2:kn.at_ H2 k0 a:=kn.keep _ _ _ _ (λb xs e=>o2 b _ e λz=>by
    obtain⟨o,e3,h3,_⟩:=Ze2 n;rw[z,e3]at e;cases e;exact h3 _ U) hk
   have hk3:kn.at_ (upd H2 st (.lst (Ua++[.ref a]))) k0 a:=kn.keep _ _ _ _ (λb xs e=>by rw[Zj (YQ e F λz=>nomatch z)];exact e) hk2;refine .inl ⟨_,U,_,U,κ,_,kn,I,a,k0,_,_,U,U,n3,hk3,Jc _ _ (by simp) Z,k _ (Ua++[.ref a]) Za (.inr ⟨J,U⟩) n3 (λb o e h1 h2=>?_) λb e=>?_⟩
   .rw[Zj h1];exact o2 b o e h2
   .obtain⟨oo,rfl⟩:=hx;rw[Zj (λz=>by rw[z,G]at e;cases e),Zj (λz=>by
     obtain⟨o,e3,_⟩:=Ze2 n;rw[z,e3]at e;cases e)]
    exact e
inductive GN:Prop
 |mk(Kk:Type)(dq:DecidableEq Kk)(kn:KN Kk)(a:Aw)(as:List Aw)(ks:List Kk):vs=[.ref a]->H a=some (.lst (as.map V.ref))\/H a=some (.tup (as.map V.ref))->as.length=ks.length->(∀(i:Nat)(b:Aw)(k:Kk),as[i]?=some b->ks[i]?=some k->kn.at_ H k b)->ks.length<=1000000->(∀p H',H p=none->H' p=some (.lst ((ks.map λk=>((Z5 ks).idxOf k:Int)).map V.int))->ZG H H'->Q (.ref p) H')->GN
theorem gF:FnD T.dj P w base 1 (spQ GN):=by
 refine T.dj.go zS ?_;rintro cdv A outer s H _ Q E hr ⟨Kk,_,kn,a,as,ks,rfl,J,hl,hat,hz,k⟩;refine⟨_,(Zb (Zw 1 zS.nd JS)
   (Ze (Zn (Y4 ({}:ZS (Zh qm) _ ["marks","numbers"] "mark" ["numbers"] [1]) (show QI _ _ _ (Zor K _)from Zl5 (qv 0)) (λ_ _ _ _=>Xo) (λ_ _ _ _=>(Zl2 (kg hr) (qv 1) (Zi (qv 0) (Zi (Zr Zd3 (by rfl) T.ak Yr (Zi (qv 1) Zd)) Zd)))))))),?_⟩
 refineλd hd=>?_;have s1:=Zc (o:=.dK []) hd;refine Zg ?_;have n0:qX kn (upd H d (.dK [])) d (XW (Z5 (ks.take 0))):=⟨Qcj,(show 0<sizeLine by decide),.inl ⟨U,Za⟩⟩;have step:∀(i:Nat)(b:Aw)(kk:Kk)(H1:Hp)(R:VK),as[i]?=some b->ks[i]?=some kk->qX kn H1 d (XW (Z5 (ks.take i)))->(∀b o,H b=some o->H1 b=some o)->(∀H2,qX kn H2 d (XW (Z5 (ks.take (i+1))))->(∀b o,H b=some o->H2 b=some o)->R (V.int ((Z5 ks).idxOf kk:Int)) H2)->tBMN (vk 1) (qT (vk 0) (qT (tCB Zop (qT (vk 1) Znt)) Znt)) (xK [1] [some (.ref a),some (.ref d)] (some (.ref b))) H1 R:=by
  intro i b kk H1 R G F Z Ua hR;have e1:Z5 (ks.take (i+1))=Yw (Z5 (ks.take i)) kk:=by rw[take_snoc F,jG]
  obtain⟨r,er⟩:=jH ks (i+1);have at1:kn.at_ H1 kk b:=kn.keep _ _ _ _ (λb xs e=>Ua b _ e) (hat i b kk G F);refine⟨_,U,⟨Kk,_,kn,d,_,U,Z⟩,_,U,_,U,Kk,_,kn,d,_,U,Z,Kk,_,kn,d,b,kk,_,_,U,U,Z,at1,?_,λy Y=>?_,λhn H' n' o' _=>?_⟩
  .rw[Jb];exact Yv (by have:=uk (ks.take i);rw[Qbg]at this;lia)
  .by_cases I:kk∈Z5 (ks.take i)
   .rw[Jc _ _ I (X1 _)]at Y;cases Y;have e2:Z5 (ks.take (i+1))=Z5 (ks.take i):=by rw[e1];exact Qa2 I
    have:=hR H1 (by rw[e2];exact Z) Ua;rw[er,e2,xX I]at this;exact this
   .rw[qj _ _ I]at Y;cases Y
  .have I:kk∉Z5 (ks.take i):=λz=>by
    rw[Jc _ _ z (X1 _)]at hn;cases hn
   have e2:Z5 (ks.take (i+1))=Z5 (ks.take i)++[kk]:=by rw[e1];exact Qax I
   have:=hR H' (by rw[e2,qi];rw[Jb]at n';exact n') (λc o e=>o' c o (Ua c o e) (Zm e hd));rw[er,e2,xX (by simp),List.idxOf_append,Qax I,List.idxOf_cons_self,Qgo]at this;rw[Jb];exact this
 have fin:∀(zs:A2)(H1:Hp),zs=(ks.take as.length).map (λk=>V.int ((Z5 ks).idxOf k:Int))->(∀b o,H b=some o->H1 b=some o)->∀p,H1 p=none->Q (.ref p) (upd H1 p (.lst zs)):=by
  intro zs H1 ez Ua p hp;have s2:ZG H H1:=Ua;refine k p _ (s2.free hp) ?_ (s2.trans (Zc hp));rw[Za,ez,hl,Qbs,Qay];rfl
 have zl:∀i,((ks.take i).map (λk=>V.int ((Z5 ks).idxOf k:Int))).length<=sizeLine:=λi=>by
  rw[Qab,Qbg];exact Qaw (Yv (by lia))
 have item:∀(i:Nat)(x:V),(as.map V.ref)[i]?=some x->∃b kk,x=.ref b/\as[i]?=some b/\ks[i]?=some kk:=λi x O=>by
  rw[Qag]at O;obtain⟨b,G,rfl⟩:=Qa5.mp O;have hi:=(Qae.mp G).1;exact⟨b,ks[i]'(by lia),U,G,Qac (by lia)⟩
 rcases J with J|J
 .refine⟨a,U,.inl ⟨⟨_,SqL.of (s1 _ _ J)⟩,XZ (K:=K) (a:=a) (xs:=as.map V.ref) (λi zs H'=>zs=(ks.take i).map (λk=>V.int ((Z5 ks).idxOf k:Int))/\qX kn H' d (XW (Z5 (ks.take i)))/\∀b o,H b=some o->H' b=some o) ⟨U,n0,s1⟩ (λi zs H' h=>by rw[h.1];exact zl i) (λi zs H' h=>SqL.of (h.2.2 _ _ J)) (λi x zs H1 R hR O h=>?_) (λzs H1 h=>?_)⟩⟩
  .obtain⟨b,kk,rfl,G,F⟩:=item i x O;refine step i b kk H1 _ G F h.2.1 h.2.2 λH2 n2 o2=>hR _ _ ⟨?_,n2,o2⟩;rw[h.1,take_snoc F,Qa6]
   rfl
  .rw[Qab]at h;exact fin zs H1 h.1 h.2.2
 .refine⟨a,U,.inr ⟨⟨_,SqT.of (s1 _ _ J)⟩,Jx (K:=K) (a:=a) (xs:=as.map V.ref) (λi zs H'=>zs=(ks.take i).map (λk=>V.int ((Z5 ks).idxOf k:Int))/\qX kn H' d (XW (Z5 (ks.take i)))/\∀b o,H b=some o->H' b=some o) ⟨U,n0,s1⟩ (λi zs H' h=>by rw[h.1];exact zl i) (λi zs H' h=>SqT.of (h.2.2 _ _ J)) (λi x zs H1 R hR O h=>?_) (λzs H1 h=>?_)⟩⟩
  .obtain⟨b,kk,rfl,G,F⟩:=item i x O;refine step i b kk H1 _ G F h.2.1 h.2.2 λH2 n2 o2=>hR _ _ ⟨?_,n2,o2⟩;rw[h.1,take_snoc F,Qa6]
   rfl
  .rw[Qab]at h;exact fin zs H1 h.1 h.2.2
inductive Jo:Prop
 |mk(a b:Aw)(ss:Aj)(cs:Ak):vs=[.ref a,.ref b]->H a=some (.tup (ss.map λs:Nat=>V.int s))->H b=some (.lst (cs.map V.int))->(∀s∈ss,s<cs.length)->ss.length<=1000000->cs.length<=1000000->(∀p H',H p=none->H' p=some (.tup ((ss.map λs=>cs.getD s 0).map V.int))->ZG H H'->Q (.ref p) H')->Jo
theorem GO:FnD T.bx P w base 1 (spQ Jo):=by
 refine T.bx.go vc ?_;rintro Z A outer s H _ Q E hr ⟨a,b,O,cs,rfl,Y,hb,hs,hl,hc,k⟩;refine⟨_,(Ze (Zn (Z3 Z1 (by rfl) T.aj ZZ (Zi (Y4 ({}:ZS (Zh Je) _ ["states","classes"] "state" ["classes"] [1]) (XC (qv 0)) (λ_ _ _ _=>Xo) (λ_ _ _ _=>(Z0 (show IxR _ (rIxL K)from Zz) (qv 1) (qv 0)))) Zd)))),?_⟩;refine⟨_,U,a,U,⟨_,SqT.of Y⟩,xM (xs:=O.map λs:Nat=>V.int s) (fI λz=>V.int (cs.getD z.toNat 0)) (SqT.of Y) (by rw[Qab];exact Qaw (Yv (by lia))) (λv hv R hR=>?_) (λl I=>?_)⟩
 .obtain⟨s,G,rfl⟩:=Qau.mp hv;have F:=hs s G;exact⟨_,U,_,U,b,_,_,_,U,U,SqL.of hb,Yn (by rw[Qag,Qac F];rfl),by
   have e:fI (λz=>V.int (cs.getD z.toNat 0)) (V.int s)=V.int cs[s]:=by
    show V.int (cs.getD (s:Int).toNat 0)=_;rw[Qbf,Qal,Qac F];rfl
   rw[e]at hR;exact hR⟩
 .refine⟨l,_,U,.inl ⟨SqL.of Za,λp J=>?_⟩⟩;have Ua:=(Zc (o:=.lst ((O.map λs:Nat=>V.int s).map (fI λz=>V.int (cs.getD z.toNat 0)))) I);refine k p _ (Ua.free J) ?_ (Ua.trans (Zc J));rw[Za,Qay,Qay];rfl
inductive JE:Prop
 |mk(a:Aw)(cs:Ak):vs=[.ref a]->H a=some (.lst (cs.map V.int))->cs.length<=1000000->(∀p H',H p=none->H' p=some (.lst ((zJ cs 0 []).map λi:Nat=>V.int i))->ZG H H'->Q (.ref p) H')->JE
theorem wg:FnD T.fh P w base 1 (spQ JE):=by
 refine T.fh.go XH ?_;rintro cdv A outer s H _ Q E hr ⟨a,cs,rfl,ha,hl,k⟩;refine⟨_,(Zb (Zw 1 XH.nd (ZP Zd))
   (Zb (Yu Qbd U (Zg9 U T.fw (qv 0)) (yn U (YE 2 XH.nd) (YE 3 XH.nd))
   (Ze (Z8 (Zq Yl (qv 3) (Zr Zy (by rfl) T.ak Yr (Zi (qv 1) Zd)) (Zx _))
   (Ze (Yc (Y7 Qap Qaz Qa0 ZH (qv 1) (Zi (qv 2) Zd)))) Zu)))
   (Ze (Zn (qv 1))))),?_⟩
 refine⟨by decide,λp hp=>?_⟩;have s1:=Zc (o:=.lst []) hp;refine Zg ?_;refine⟨_,U,a,_,U,SqL.of (s1 _ _ ha),yo (K:=K) (a:=a) (xs:=cs.map V.int) (λi σ H'=>∃(acc:Aj)(Z u3:Option V),σ=[some (.ref a),some (.ref p),Z,u3]/\H' p=some (.lst (acc.map λi:Nat=>V.int i))/\zJ cs 0 []=zJ (cs.drop i) i acc/\acc.length<=i/\i<=cs.length/\ZG H H') ⟨[],none,none,U,Za,U,Qaj _,Qbl _,s1⟩ (λi σ H' _ ⟨_,_,_,_,_,_,_,_,s⟩=>SqL.of (s _ _ ha)) ?_ ?_⟩
 .rintro i x σ H1 q hx hq ⟨acc,Z,u3,rfl,I,J,Ua,hi,O⟩;rw[Qag]at hx;obtain⟨c,hc,rfl⟩:=Qa5.mp hx;have G:i<cs.length:=(Qae.mp hc).1;have Y:=Zc (o:=.tup [.int i,.int c]) hq;have F:=Y _ _ I;have e:zJ cs 0 []=zJ (cs.drop (i+1)) (i+1) (if c=(acc.length:Int)then acc++[i]else acc):=by
   rw[J,Qb5 G,(Qae.mp hc).2];rfl
  refine⟨_,U,_,U,p,_,U,.inl (SqL.of F),U,_,U,?_⟩;rw[Qab]
  by_cases h:c=(acc.length:Int)
  .rw[Qa2 h]at e;rw[Qan (by rw[h])];refine Y1 ⟨_,U,.inl ⟨U,_,SqL.of F⟩,_,U,p,_,_,U,U,F,by rw[Qab];exact Yv (by lia),acc++[i],_,_,U,?_,e,by grind,G,Yj (O.trans Y) hp⟩;rw[Za,Qa6];rfl
  .rw[Qax h]at e;rw[Qaq (λz=>h (by injection z))];exact ZI ⟨acc,_,_,U,F,e,by lia,G,O.trans Y⟩
 .rintro σ H1 ⟨acc,Z,u3,rfl,I,J,Ua,hi,O⟩;rw[Qab,Qe3]at J;exact⟨_,U,k p H1 hp (by rw[I,J];rfl) O⟩
inductive WG:Prop
 |mk(y:Str):vs=[.str y]->Q (.bl (decide (y∈G7))) H->WG
theorem ju:FnD T.dm P w base 1 (spQ WG):=by
 refine T.dm.go jo ?_;rintro e A outer s H _ Q E z ⟨y,rfl,k⟩;refine⟨_,(Ze (Zn (Yt wL (qv 0) (Y3 (v:=.ref t.aw) U T.aw.m U) (by with_unfolding_all rfl)))),?_⟩;refine⟨_,U,t.aw,T1,.inr y,U,T.aw.d,U,?_⟩;rw[Zj7,tw1];exact k
inductive XM:Prop
 |mk(k:Key):vs=[kV k]->Q (.bl (clK k)) H->XM
omit T TB XB in
theorem Zgg(l:List (Str×Int))(k:Key):(Ym (kvsOf l) k).isSome=(match k with|.inr y=>decide (y∈l.map (·.1))|.inl _=>false):=by
 cases k with
 |inr y=>exact Zj7 l y
 |inl z=>
  induction l with
  |nil=>rfl
  |cons p r F=>
   have e:Ym (kvsOf (p::r)) (.inl z)=Ym (kvsOf r) _:=Ya (λz=>nomatch z);rw[e,F]
omit T TB XB in
theorem Zi1(k:Key):clK k=((Ym (kvsOf T2) k).isSome||(Ym (kvsOf T3) k).isSome):=by
 rw[Zgg,Zgg];cases k with
 |inl z=>rfl
 |inr y=>
  show decide _=(decide _||decide _);have e:Z6=T2.map (·.1)++T3.map (·.1):=by decide +kernel
  rw[e]
  by_cases h1:y∈T2.map (·.1)
  .grind
  .grind
theorem xi:FnD T.cg P w base 1 (spQ XM):=by
 refine T.cg.go xc ?_;rintro e A outer s H _ Q E z ⟨kk,rfl,k⟩;refine⟨_,(Ze (Zn (Zlc (Yt wL (qv 0) (Y3 (v:=.ref t.ag) U T.ag.m U) (by with_unfolding_all rfl)) (xJ (Yt wL (qv 0) (Y3 (v:=.ref t.af) U T.af.m U) (by with_unfolding_all rfl)))))),?_⟩;rw[Zi1]at k;refine⟨_,U,t.ag,T2,kk,U,T.ag.d,U,_,U,?_⟩;cases h:(Ym (kvsOf T2) kk).isSome with
 |true=>
  rw[h]at k;exact Y1 k
 |false=>
  rw[h]at k;exact ZI ⟨_,U,t.af,T3,kk,U,T.af.d,U,k⟩
inductive WH:Prop
 |mk(k:Key):vs=[kV k]->Q (.int (JW T1 k+JW T2 k)) H->WH
theorem jv:FnD T.dn P w base 1 (spQ WH):=by
 refine T.dn.go jq ?_;rintro e A outer s H _ Q E z ⟨kk,rfl,k⟩;refine⟨_,(Ze (Zn (Zs YB (wM (Y3 (v:=.ref t.aw) U T.aw.m U) (qv 0) Zf) (wM (Y3 (v:=.ref t.ag) U T.ag.m U) (qv 0) Zf)))),?_⟩;refine⟨t.aw,T1,U,T.aw.d,_,U,kk,U,t.ag,T2,U,T.ag.d,_,U,kk,U,?_⟩;rw[kget,kget];exact⟨_,_,U,U,k⟩
inductive XN:Prop
 |mk(k:Key):vs=[kV k]->Q (.int (JW T3 k)) H->XN
theorem xj:FnD T.cj P w base 1 (spQ XN):=by
 refine T.cj.go xf ?_;rintro e A outer s H _ Q E z ⟨kk,rfl,k⟩;refine⟨_,(Ze (Zn (wM (Y3 (v:=.ref t.af) U T.af.m U) (qv 0) Zf))),?_⟩;refine⟨t.af,T3,U,T.af.d,_,U,kk,U,?_⟩;rw[kget];exact k
inductive Jp:Prop
 |mk(y sg:Str):vs=[.str y,.str sg]->y.length<=100000->(∀H',ZG H H'->Q (.bl (decide (jN y sg))) H')->Jp
theorem vg:FnD T.dz P w base 1 (spQ Jp):=by
 refine T.dz.go vd ?_;rintro Ua A outer s H _ Q E Z ⟨y,F,rfl,Y,k⟩;refine⟨_,(Ze (Zn (gQ (Yt Zgw (qv 0) Zk (Zx _)) (xJ (Zr (Zcz U) (by rfl) T.aby bt_all (Zi (Y4 ({}:ZS (Zh Jh) _ ["text","signs"] "sign" ["signs"] [1]) (qi_str (qv 0)) (λ_ _ _ _=>Xo) (λ_ _ _ _=>(Yt Zb8 (qv 0) (qv 1) (by with_unfolding_all rfl)))) Zd)))))),?_⟩;refine⟨_,U,U,_,U,?_⟩
 by_cases G:y.cps.toList=[]
 .have e:=zr.mp G;subst e;refine ZI ?_;have e2:decide (jN ("" : Str) F)=false:=Qaq λz=>z.1 (zr.mpr U);have:=k H (ZG.refl H);exact this
 have I:¬V.str y=V.str ("" : Str):=λz=>G (zr.mpr (by injection z));rw[Qaq I];refine Y1 ?_;refine⟨_,U,y,U,Zhb (λc=>.bl (decide (c∈F.cps.toList))) (Qa9 (show y.length<=100000 from Y) (by decide)) (λc _ R hR=>?_) (λl O=>?_)⟩
 .refine⟨_,U,_,U,_,_,U,U,?_⟩;rw[Zmj];exact hR
 have e1:(y.cps.toList.map λc=>V.bl (decide (c∈F.cps.toList)))=(y.cps.toList.map λc=>decide (c∈F.cps.toList)).map V.bl:=by rw[Qay];rfl
 rw[e1];refine⟨l,_,U,SqL.of Za,?_⟩;rw[all_bs];have e2:decide (jN y F)=decide (∀c∈y.cps.toList,decide (c∈F.cps.toList)=true):=by
  rw[Qeo,Qdp,Qdp];constructor
  .intro z c J;exact Qan (z.2 c J)
  .intro z;exact⟨G,λc J=>Qbb (z c J)⟩
 rw[<-e2];exact k _ (Zc O)
inductive JF:Prop
 |mk(x:V):vs=[x]->X8 x=true->Q (.bl (inV x (allR.map V.str))) H->JF
theorem qP:FnD T.cy P w base 1 (spQ JF):=by
 refine T.cy.go kX ?_;rintro e A outer s H _ Q E F ⟨x,rfl,z,k⟩;refine⟨_,(Ze (Zn (Yt Yo (qv 0) (Y3 (v:=.ref t.bf) U T.bf.m U) (by with_unfolding_all rfl)))),?_⟩;exact⟨_,U,t.bf,_,U,.inr (T.bf.d H),z,Zej _,k⟩
inductive GP:Prop
 |mk(a b h:Int):vs=[.int a,.int b,.int h]->Q (.int (Zo4 a b h)) H->GP
theorem zW:FnD T.dk P w base 1 (spQ GP):=by
 refine T.dk.go gC ?_;rintro e A outer s H _ Q E z ⟨a,b,h,rfl,k⟩;refine⟨_,(Ze (Zn (Zs je (Zs YT (WS xA (qv 0)) (qv 1)) (Zs YT (qv 2) (WS xA (Zs x9 (qv 0) (qv 1))))))),?_⟩;exact⟨_,U,_,U,_,U,_,_,U,U,_,U,_,U,_,U,_,_,U,U,_,U,_,_,U,U,_,_,U,U,k⟩
inductive WI:Prop
 |mk(y:Str)(p:Aw)(is:Ak):vs=[.str y,.ref p]->H p=some (.lst (is.map V.int))->y∈Zes->is.length=Zeq y->(∀H',ZG H H'->Q (.int (oaI y is)) H')->WI
theorem jw:FnD T.dt P w base 1 (spQ WI):=by
 refine T.dt.go jr ?_;rintro cdv A outer s H _ Q E hr ⟨y,p,is,rfl,hp,hy,I,k⟩;refine⟨_,(Zb (Z8 (Zq Yl (qv 0) Zk (Zx _))
   (Ze (Zn (WS J5 Zf))) Zu)
   (Zb (Z8 (Zq Yl (qv 0) Zk (Zx _))
   (Ze (Zn (Z0 Zz (qv 1) Zf))) Zu)
   (Zb (Z8 (Zq Yo (qv 0) (Yf (Zi Zk (Zi Zk Zd))) (by with_unfolding_all rfl))
   (Ze (Zn (WS xA (Z0 Zz (qv 1) Zf)))) Zu)
   (Zb (Z8 (Zq Yo (qv 0) (Yf (Zi Zk (Zi Zk Zd))) (by with_unfolding_all rfl))
   (Ze (Zn (Zs YT (Z0 Zz (qv 1) Zf) (Z0 Zz (qv 1) Zf)))) Zu)
   (Zb (Z8 (Zq Yo (qv 0) (Yf (Zi Zk (Zi Zk Zd))) (by with_unfolding_all rfl))
   (Ze (Zn (Zs je (Z0 Zz (qv 1) Zf) (Z0 Zz (qv 1) Zf)))) Zu)
   (Zb (Z8 (Zq Yl (qv 0) Zk (Zx _))
   (Ze (Zn (Zs x9 (Z0 Zz (qv 1) Zf) (Z0 Zz (qv 1) Zf)))) Zu)
   (Zb (Z8 (Zq Yl (qv 0) Zk (Zx _))
   (Ze (Zn (Zs je (WS xA (Z0 Zz (qv 1) Zf)) (Z0 Zz (qv 1) Zf)))) Zu)
   (Ze (Zn (Zs je (Zs YT (Z0 Zz (qv 1) Zf) (Z0 Zz (qv 1) Zf)) (Zs YT (WS xA (Z0 Zz (qv 1) Zf)) (Z0 Zz (qv 1) Zf)))))))))))),?_⟩
 unfold oaI at k;refine⟨_,U,U,_,U,?_⟩
 by_cases h1:y = "yes"
 .rw[Qan (congrArg V.str h1)];rw[Qa2 h1]at k;refine Y1 ?_;exact⟨_,U,k H (ZG.refl _)⟩
 rw[Qaq (λz=>h1 (by injection z))];rw[Qax h1]at k;refine ZI ⟨_,U,U,_,U,?_⟩
 by_cases h2:y = "sign"
 .rw[Qan (congrArg V.str h2)];rw[Qa2 h2]at k;refine Y1 ?_;exact⟨_,U,p,_,0,_,U,U,SqL.of hp,ZC 0 rfl (z5 I (by rw[h2];decide +kernel)),k H (ZG.refl _)⟩
 rw[Qaq (λz=>h2 (by injection z))];rw[Qax h2]at k;refine ZI ⟨_,U,by decide,λq hq=>⟨q,_,U,.inr (SqT.of Za),U,U,_,U,?_⟩⟩;show if inV (.str y) ((["not","never"]:Ai).map V.str)=true then _ else _;rw[ZD];have G:=Zc (o:=.tup [.str "not",.str "never"]) hq;have pq:=G _ _ hp;generalize upd H q (.tup [.str "not",.str "never"])=H1 at *
 by_cases h3:y = "not" \/ y = "never"
 .rw[Qan (by grind)];rw[Qa2 h3]at k;refine Y1 ?_;exact⟨_,U,p,_,0,_,U,U,SqL.of pq,ZC 0 rfl (z5 I (by rcases h3 with h|h<;>rw[h]<;>decide +kernel)),_,U,k H1 G⟩
 rw[Qaq (by grind)];rw[Qax h3]at k;refine ZI ⟨_,U,by decide,λr hr=>⟨r,_,U,.inr (SqT.of Za),U,U,_,U,?_⟩⟩;show if inV (.str y) ((["and","both"]:Ai).map V.str)=true then _ else _;rw[ZD];have O:=Zc (o:=.tup [.str "and",.str "both"]) hr;have pr:=O _ _ pq;generalize upd H1 r (.tup [.str "and",.str "both"])=H2 at *
 by_cases h4:y = "and" \/ y = "both"
 .rw[Qan (by grind)];rw[Qa2 h4]at k;refine Y1 ?_;have J:2<=is.length:=z5 I (by rcases h4 with h|h<;>rw[h]<;>decide +kernel);exact⟨_,U,p,_,0,_,U,U,SqL.of pr,ZC 0 rfl (by lia),_,U,p,_,1,_,U,U,SqL.of pr,ZC 1 rfl J,_,_,U,U,k H2 (G.trans O)⟩
 rw[Qaq (by simp only[Qas,Qbk,Qe2];exact h4)];rw[Qax h4]at k;refine ZI ⟨_,U,by decide,λt1 ht1=>⟨t1,_,U,.inr (SqT.of Za),U,U,_,U,?_⟩⟩;show if inV (.str y) ((["or","either"]:Ai).map V.str)=true then _ else _;rw[ZD];have F:=Zc (o:=.tup [.str "or",.str "either"]) ht1;have e:=F _ _ pr;generalize upd H2 t1 (.tup [.str "or",.str "either"])=H3 at *
 by_cases Y:y = "or" \/ y = "either"
 .rw[Qan (by simp only[Qas,Qbk,Qe2];exact Y)];rw[Qa2 Y]at k;refine Y1 ?_;have J:2<=is.length:=z5 I (by rcases Y with h|h<;>rw[h]<;>decide +kernel);exact⟨_,U,p,_,0,_,U,U,SqL.of e,ZC 0 rfl (by lia),_,U,p,_,1,_,U,U,SqL.of e,ZC 1 rfl J,_,_,U,U,k H3 ((G.trans O).trans F)⟩
 rw[Qaq (by simp only[Qas,Qbk,Qe2];exact Y)];rw[Qax Y]at k;refine ZI ⟨_,U,U,_,U,?_⟩
 by_cases Z:y = "odd"
 .rw[Qan (congrArg V.str Z)];rw[Qa2 Z]at k;refine Y1 ?_;have J:2<=is.length:=z5 I (by rw[Z];decide +kernel);exact⟨_,U,p,_,0,_,U,U,SqL.of e,ZC 0 rfl (by lia),_,U,p,_,1,_,U,U,SqL.of e,ZC 1 rfl J,_,_,U,U,k H3 ((G.trans O).trans F)⟩
 rw[Qaq (λz=>Z (by injection z))];rw[Qax Z]at k;refine ZI ⟨_,U,U,_,U,?_⟩
 by_cases Ua:y = "so"
 .rw[Qan (congrArg V.str Ua)];rw[Qa2 Ua]at k;refine Y1 ?_;have J:2<=is.length:=z5 I (by rw[Ua];decide +kernel);exact⟨_,U,p,_,0,_,U,U,SqL.of e,ZC 0 rfl (by lia),_,U,_,U,p,_,1,_,U,U,SqL.of e,ZC 1 rfl J,_,_,U,U,k H3 ((G.trans O).trans F)⟩
 rw[Qaq (λz=>Ua (by injection z))];rw[Qax Ua]at k;have l3:3<=is.length:=z5 I (Zay y hy h1 h2 h3 h4 Y Z Ua);exact ZI ⟨_,U,p,_,0,_,U,U,SqL.of e,ZC 0 rfl (by lia),_,U,p,_,1,_,U,U,SqL.of e,ZC 1 rfl (by lia),_,_,U,U,_,U,p,_,0,_,U,U,SqL.of e,ZC 0 rfl (by lia),_,U,_,U,p,_,2,_,U,U,SqL.of e,ZC 2 rfl l3,_,_,U,U,_,_,U,U,k H3 ((G.trans O).trans F)⟩
inductive X5:Prop
 |mk(tw:Aw)(ws:A2):vs=[.ref tw]->H tw=some (.tup ws)->ws.length<=1000->(∀w∈ws,(∃y,w=.str y)\/∃z:Int,w=.int z)->(∀(L:Nat) H',(∀z:Int,V.int z∈ws->Builtin.Int.intBits z<=L)->(L=0\/∃z:Int,V.int z∈ws/\L=Builtin.Int.intBits z)->ZG H H'->Q (.int L) H')->X5
theorem qz:FnD T.bz P w base 1 (spQ X5):=by
 refine T.bz.go qx ?_;rintro Z A outer s H _ Q E hr ⟨tw,G,rfl,O,hl,hw,k⟩;refine⟨_,(Ze (Zn (Zmd U U T.ir (Y4 ({}:ZS (Zh Xn) _ ["words"] "word" [] []) (XC (qv 0)) (λ_ _ _ _=>(vH (Y6 (Zr (show YS _ (.builtin "isinstance") (Zpe K)from XA) (by rfl) T.ai ZJ (Zi (qv 0) (Zi (Ws (v:=.ty "int") (by rfl) T.ic j5 U) Zd)))))) (λ_ _ _ _=>(show QE _ _ (tBM0 K "int" Zot (vk 0))from(WU PySem.F.plainAttrs_int PySem.F.slot_int_bit_length PySem.F.type_int_bit_length Zme (qv 0))))) Zf))),?_⟩;refine⟨_,U,tw,U,⟨_,SqT.of O⟩,Jx (K:=K) (a:=tw) (xs:=G) (λi zs H'=>zs=(GF (G.take i)).map V.int/\H'=H) ⟨U,U⟩ (λi zs H' h=>?_) (λi zs H' h=>by rw[h.2];exact SqT.of O) (λi x zs H1 R hR I h=>?_) (λzs H1 h p hp=>?_)⟩
 .rw[h.1,Qab];have:=kD (G.take i);rw[Qbg]at this;exact Qaw (Z2 (by lia))
 .obtain⟨rfl,rfl⟩:=h;rcases hw x (Qam I)with⟨y,rfl⟩|⟨z,rfl⟩
  .refine⟨_,U,_,_,_,_,U,.str y,X0,_,U,ZI (hR _ _ ⟨?_,U⟩)⟩;rw[take_snoc I,zE];exact congrArg (List.map V.int) (Qbp _).symm
  .refine⟨_,U,_,_,_,_,U,.int z,Wr,_,U,Y1 ⟨_,U,U,z,U,U,hR _ _ ⟨?_,U⟩⟩⟩;rw[take_snoc I,zE,Qa6];rfl
 .obtain⟨rfl,rfl⟩:=h;have sp:=Zc (o:=.lst ((GF (G.take G.length)).map V.int)) hp;refine⟨p,GF (G.take G.length),U,SqL.of Za,λe=>?_,λm Ua I=>?_⟩
  .rw[Qbs]at e;refine k 0 _ (λz J=>?_) (.inl U) sp;have:=zF J;rw[e]at this;cases this
  .rw[Qbs]at Ua I;obtain⟨z,J,rfl⟩:=uJ Ua;exact k _ _ (λy Y=>Int.ofNat_le.mp (I _ (zF Y))) (.inr ⟨z,J,U⟩) sp
inductive qQ:Prop
 |mk(p:Aw)(cs:Ak)(l:Nat):vs=[.ref p,.int l]->H p=some (.lst (cs.map V.int))->cs.length<=1000->l<=100->(∀t H',H t=none->H' t=some (.tup ((cs.map λc=>bt c l).map V.int))->ZG H H'->Q (.ref t) H')->qQ
theorem Zbl:FnD T.ck P w base 1 (spQ qQ):=by
 refine T.ck.go Zbh ?_;rintro I A outer s H _ Q E Z ⟨p,cs,l,rfl,z,Y,O,k⟩;refine⟨_,(Ze (Zn (Z3 Z1 (by rfl) T.aj ZZ (Zi (Y4 ({}:ZS (Zh zg) _ ["columns","letter"] "column" ["letter"] [1]) (YF (qv 0)) (λ_ _ _ _=>Xo) (λ_ _ _ _=>(Zs YT (Zs j4 (qv 0) (qv 1)) Zf))) Zd)))),?_⟩;refine⟨_,U,p,U,⟨_,SqL.of z⟩,comp_map (xs:=cs.map V.int) (fI λc=>V.int (bt c l)) (SqL.of z) (by rw[Qab];exact Qaw (Z2 (by lia))) (λv J R hR=>?_) (λq Ua=>?_)⟩
 .obtain⟨c,_,rfl⟩:=Qau.mp J;refine⟨_,U,_,U,_,_,U,U,Qch l,_,_,U,U,?_⟩;have e:fI (λc=>V.int (bt c l)) (V.int c)=V.int (Builtin.bitAnd (c/2^(l:Int).toNat) 1):=by
   rw[and_1,Qbf];rfl
  rw[e]at hR;exact hR
 .refine⟨q,_,U,.inl ⟨SqL.of Za,λt F=>?_⟩⟩;have G:=Zc (o:=.lst ((cs.map V.int).map (fI λc=>V.int (bt c l)))) Ua;refine k t _ (G.free F) ?_ (G.trans (Zc F));rw[Za,Qay,Qay];rfl
inductive Jq(K:Af):Prop
 |mk(a:Aw)(ns:Ak)(k:Nat):vs=[.ref a,.int k]->SqL K H a (ns.map V.int)->ns.length<=63->k<=1000->(∀(r:Int) H',0<=r->r<1000000->ZG H H'->Q (.int r) H')->Jq K
def vh(K:Af):Sp:=λvs H Q _=>Jq vs H Q K
theorem W9:FnD T.bp P w base 1 (vh K):=by
 refine T.bp.go ZU ?_;rintro cdv A outer s H _ Q E hr ⟨a,ns,kk,rfl,hS,h63,hk,k⟩;refine⟨_,(Zb (Zw 2 ZU.nd (Zs Zjp (Z3 vz (by rfl) T.sj Zcq (Zi (qv 0) Zd)) (ZP (Zi Zf Zd))))
   (Zb (Zw 3 ZU.nd (Zr (Zcb U) (by rfl) T.ir gU (Zi Zf (Zi (Zr Zy (by rfl) T.ak Yr (Zi (qv 0) Zd)) Zd))))
   (Zb (Zw 4 ZU.nd (Z0 Zz (qv 2) (Zs Yb (qv 1) (qv 3))))
   (Zb (Zw 5 ZU.nd (Zs Ye (qv 1) (qv 3)))
   (Zb (Z8 (Zq Zkx (qv 4) (Zs op_pow Zf Zf) (Zx _))
   (Zb (Yu Qbd U (YG U T.ay (Zi (Zr (vn U) (by rfl) T.abf Zjy (Zi (qv 5) (Zi Zf Zd))) Zd)) (YE 6 ZU.nd)
   (Ze (Zw 4 ZU.nd (Zs Ye (qv 4) Zf))))
   (Ze (Zn (Zs Yb (qv 4) Zf)))) Zu)
   (Zb (Zw 7 ZU.nd (Zs Yb (Zs Xm (Zs YB (Zs YB (Zs YB (Zs Yb (qv 4) Zf) Zf) (Zs Xm Zf (qv 5))) (Zs Xm Zf (qv 1))) Zf) Zf))
   (Zb (Zw 7 ZU.nd (Zs Yb (Zs YB (Zs YB (Zs Xm (qv 7) (qv 7)) (Zs Xm Zf (qv 5))) (Zs Xm Zf (qv 1))) Zf))
   (Ze (Zn (Zs Yb (Zs Ye (Zs Yb (Zs Xm (qv 7) Zf) Zf) Zf) Zf)))))))))),?_⟩
 refine⟨_,U,a,_,U,.inl hS,λY I=>⟨by decide,λc2 F=>⟨Y,c2,_,_,U,U,Zc F _ _ Za,Za,?_,λG Ua=>Zg ?_⟩⟩⟩
 .rw[Qab];exact Qaw (Z2 (by show ns.length+1<=1000;lia))
 have s1:=(Zc (o:=.lst (ns.map V.int)) I).trans ((Zc (o:=.lst [V.int 0]) F).trans (Zc (o:=.lst (ns.map V.int++[V.int 0])) Ua));have h3:=Za (H:=upd (upd H Y (.lst (ns.map V.int))) c2 (.lst [V.int 0])) (a:=G) (o:=.lst (ns.map V.int++[V.int 0]));generalize upd (upd (upd H Y (.lst (ns.map V.int))) c2 (.lst [V.int 0])) G (.lst (ns.map V.int++[V.int 0]))=H1 at *;have O:=yQ hS s1;refine⟨_,U,a,_,U,.inl O,1,_,U,Zg ?_⟩;obtain⟨sz,hsz,Z,sz2⟩:∃sz:Nat,(if((ns.map V.int).length:Int)>1 then((ns.map V.int).length:Int)else 1)=(sz:Int)/\1<=sz/\sz<=ns.length+1:=by
  rw[Qab];split
  .exact⟨ns.length,U,by lia,by lia⟩
  .exact⟨1,U,by lia,by lia⟩
 rw[hsz];obtain⟨c,ec⟩:∃c:Int,atI (ns.map V.int++[V.int 0]) ((kk:Int)%(sz:Int))=some (.int c):=by
  have hlt:=Qhl kk Z;have hl:kk%sz<(ns++[0]).length:=by rw[Qar];show _<ns.length+1;lia
  exact⟨(ns++[0])[kk%sz],Yn (by grind)⟩
 refine⟨_,U,_,U,_,U,_,_,U,U,(by lia),G,_,_,_,U,U,SqL.of h3,ec,Zg ?_⟩;refine⟨_,U,_,U,_,_,U,U,.of (by lia) (by lia),Zg ?_⟩;obtain⟨e,J,tn1⟩:∃e:Nat,(kk:Int)/(sz:Int)=(e:Int)/\e<=1000:=⟨kk/sz,by rw[Int.natCast_ediv],Qa9 (Nat.div_le_self _ _) hk⟩;rw[J];refine⟨_,U,_,_,U,U,⟨by decide,by decide,by decide⟩,_,_,U,U,_,U,qV (λ_=>?_) (λ_=>?_)⟩
 .have md:∀z:Int,0<=z%1000000/\z%1000000<1000000:=λz=>⟨Qb3 _ (by decide),Qbt _ (by decide)⟩
  obtain⟨n,hn,n60⟩:∃n:Nat,(if(60:Int)<(e:Int)then(60:Int)else(e:Int))=(n:Int)/\n<=60:=by
   split
   .exact⟨60,U,by lia⟩
   .exact⟨e,U,by lia⟩
  refine⟨_,U,_,_,U,(n:Int),(by rw[hn]),by lia,by lia,Xz (λi σ H'=>∃(c:Int)(u6:Option V),σ=[some (.ref a),some (.int kk),some (.ref G),some (.int sz),some (.int c),some (.int e),u6,none]/\H'=H1) ⟨c,none,U,U⟩ ?_ ?_⟩
  .rintro i σ H' hi ⟨c,u6,rfl,rfl⟩;exact⟨_,U,_,_,U,U,.of (by decide) (by decide),Zg ⟨_,_,U,U⟩⟩
  .rintro σ H' ⟨c,u6,rfl,rfl⟩;exact⟨_,U,_,_,U,U,(by decide),k _ _ (md _).1 (md _).2 s1⟩
 .refine⟨_,U,_,_,U,U,(by decide),_,_,U,U,_,U,_,_,U,U,.inr (.inl ⟨by decide,by decide⟩),_,_,U,U,_,U,_,_,U,U,.inr (.inl ⟨by decide,by decide⟩),_,_,U,U,_,_,U,U,.inr (.inr ⟨by decide,by decide⟩),_,_,U,U,(by decide),Zg ?_⟩;generalize hs1:(c%2147483629+977+104729*(e:Int)+15485863*(kk:Int))*48271%2147483647=sd;refine⟨_,U,_,U,_,_,U,U,.inr (.inl ⟨by lia,by lia⟩),_,U,_,_,U,U,.inr (.inl ⟨by decide,by decide⟩),_,_,U,U,_,U,_,_,U,U,.inr (.inl ⟨by decide,by decide⟩),_,_,U,U,_,_,U,U,(by decide),Zg ?_⟩;generalize hs2:(sd*sd+7919*(e:Int)+31*(kk:Int))%2147483587=se;exact⟨_,U,_,_,U,U,.inr (.inr ⟨by decide,by decide⟩),_,_,U,U,(by decide),_,_,U,U,.of (by decide) (by decide),_,_,U,U,(by decide),k _ _ (Qb3 _ (by decide)) (Qbt _ (by decide)) s1⟩
inductive GQ:Prop
 |mk(r:Int):vs=[.int r]->0<=r->r<1000000->(∀y H',NmS y->ZG H H'->Q (.str y) H')->GQ
theorem gG:FnD T.gb P w base 1 (spQ GQ):=by
 refine T.gb.go Xc ?_;rintro Ua A outer s H _ Q E hr ⟨r,rfl,h0,h1,k⟩;refine⟨_,(Zb (Zw 1 Xc.nd Zk)
   (Zb (Zw 2 Xc.nd (ZP (Zi Zk (Zi Zk (Zi Zk (Zi Zk (Zi Zk (Zi Zk (Zi Zk (Zi Zk (Zi Zk (Zi Zk Zd))))))))))))
   (Zb (Zw 3 Xc.nd (Z0 Zz (qv 2) (Zs Yb (qv 0) Zf)))
   (Zb (Yu Qbd U (YG U T.ay (Zi (Zs YB Zf (Zs Yb (Zs Ye (qv 0) Zf) Zf)) Zd)) (YE 4 Xc.nd)
   (Ze (Zw 3 Xc.nd (Zs Zaf (qv 3) (Z0 ix_str (qv 1) (Zs Yb (Zs YB (Zs Ye (qv 0) Zf) (Zs Xm Zf (qv 4))) Zf))))))
   (Ze (Zn (qv 3))))))),?_⟩
 refine Zg ?_;refine⟨by decide,λm Y=>Zg ?_⟩;obtain⟨y,O,ey⟩:=zP (l:=["","","","a","xy","so","not","yes","add","nought"]) (i:=r%10) (Qb3 _ (by decide)) (Qbt _ (by decide));refine⟨_,U,_,U,_,_,U,U,(by decide),m,_,_,_,U,U,SqL.of Za,ey,Zg ?_⟩;have s1:=Zc (o:=.lst [V.str "",V.str "",V.str "",V.str "a",V.str "xy",V.str "so",V.str "not",V.str "yes",V.str "add",V.str "nought"]) Y;generalize upd H m (.lst [V.str "",V.str "",V.str "",V.str "a",V.str "xy",V.str "so",V.str "not",V.str "yes",V.str "add",V.str "nought"])=H1 at *;obtain⟨n,Z,e⟩:∃n:Nat,1+r/10%2=(n:Int)/\(n=1\/n=2):=⟨(1+r/10%2).toNat,by lia,by lia⟩;refine⟨_,U,_,_,U,U,.of (by decide) (by decide),_,_,U,U,(by decide),_,_,U,U,(n:Int),(by rw[<-Z]),by lia,by lia,Xz (λi σ H'=>∃(I:Option V)(z:Str),σ=[some (.int r),some (.str Zeh),some (.ref m),some (.str z),I]/\NmI y (r/20) i z/\z.length<=6+i/\H'=H1) ⟨none,y,U,U,(by decide +kernel:∀y∈begL,y.length<=6) y O,U⟩ ?_ ?_⟩
 .rintro i σ H' hi ⟨I,z,rfl,G,F,rfl⟩;obtain⟨c,hc,J⟩:=low_at (i:=(r/20+7*(0+(i:Int)))%26) (Qb3 _ (by decide)) (Qbt _ (by decide));refine⟨_,U,_,U,_,U,_,_,U,U,.of (by decide) (by decide),_,U,_,_,U,U,.inr (.inl ⟨by decide,by decide⟩),_,_,U,U,_,_,U,U,(by decide),_,_,c,U,U,Zhw,J,_,_,U,U,?_,Zg ⟨_,_,U,⟨z,c,G,by rw[Qfy]at J;exact J,U⟩,?_,U⟩⟩
  .rw[Zei];exact Qaw (Z2 (by lia))
  .rw[Str.length_append,Zei];lia
 .rintro σ H' ⟨I,z,rfl,G,F,rfl⟩;exact⟨_,U,k z _ (nm_all O e G) s1⟩
inductive JG:Prop
 |mk(w:V):vs=[w]->((∃y,w=.str y)\/∃z:Int,w=.int z)->(∀p H',H p=none->H' p=some (.lst ((lpW w).map V.bl))->ZG H H'->Q (.ref p) H')->JG
theorem XO:FnD T.bc P w base 1 (spQ JG):=by
 refine T.bc.go kY ?_;rintro cdv A outer s H _ Q E hr ⟨w,rfl,hw,k⟩;refine⟨_,(Zb (Z8 (Zq Yo (qv 0) (Yf (Zi Zk (Zi Zk (Zi Zk Zd)))) (by with_unfolding_all rfl))
   (Ze (Zn (ZP (Zi Y2 (Zi Y2 Zd))))) Zu)
   (Zb (Z8 (Zq Yl (qv 0) Zk (Zx _))
   (Ze (Zn (ZP (Zi Y2 Zd)))) Zu)
   (Zb (Z8 (Zq Yo (qv 0) (Yf (Zi Zk (Zi Zk (Zi Zk (Zi Zk (Zi Zk (Zi Zk (Zi Zk (Zi Zk Zd))))))))) (by with_unfolding_all rfl))
   (Ze (Zn (ZP (Zi Y2 (Zi Y2 Zd))))) Zu)
   (Zb (Z8 (Zq Yo (qv 0) (Yf (Zi Zk (Zi Zk (Zi Zk (Zi Zk (Zi Zk (Zi Zk Zd))))))) (by with_unfolding_all rfl))
   (Ze (Zn (ZP (Zi Y2 Zd)))) Zu)
   (Zb (Z8 (Zq Yl (qv 0) Zk (Zx _))
   (Ze (Zn (ZP (Zi Y2 (Zi Y2 (Zi Y2 Zd)))))) Zu)
   (Ze (Zn (ZP Zd)))))))),?_⟩
 have e:=lpW_eq hw;have O:X8 w=true:=by rcases hw with⟨y,rfl⟩|⟨z,rfl⟩<;>rfl
 have Z:∀c,Zpd w (.str c)=true:=λc=>by rcases hw with⟨y,rfl⟩|⟨z,rfl⟩<;>rfl
 have fin:∀(H1:Hp)(bs:Am),ZG H H1->lpW w=bs->bs.length<=3->bs.length<=sizeLine/\∀p,H1 p=none->Q (.ref p) (upd H1 p (.lst (bs.map V.bl))):=λH1 bs F hb h3=>⟨Qaw (Z2 (by lia)),λp Ua=>k p _ (F.free Ua) (by rw[Za,hb]) (F.trans (Zc Ua))⟩;refine⟨_,U,by decide,λq1 I=>⟨q1,_,U,.inr (SqT.of Za),O,U,_,U,qV (λc=>?_) (λc=>?_)⟩⟩
 .rw[Qa2 (show inV w ((["both","either","so"]:Ai).map V.str)=true from c)]at e;exact let⟨f1,f2⟩:=fin _ _ (Zc (o:=.tup [.str "both",.str "either",.str "so"]) I) e (by decide);⟨f1,f2⟩
 rw[Qax (show¬inV w ((["both","either","so"]:Ai).map V.str)=true from c)]at e;have F:=Zc (o:=.tup [.str "both",.str "either",.str "so"]) I;generalize upd H q1 (.tup [.str "both",.str "either",.str "so"])=H1 at *;refine⟨_,U,Z _,_,U,qV (λc=>?_) (λc=>?_)⟩
 .rw[Qa2 c]at e;exact let⟨f1,f2⟩:=fin _ _ F e (by decide);⟨f1,f2⟩
 rw[Qax c]at e;refine⟨_,U,by decide,λq2 J=>⟨q2,_,U,.inr (SqT.of Za),O,U,_,U,qV (λc=>?_) (λc=>?_)⟩⟩
 .rw[Qa2 (show inV w ((["same","under","beneath","and","or","odd","add","sub"]:Ai).map V.str)=true from c)]at e;exact let⟨f1,f2⟩:=fin _ _ (F.trans (Zc (o:=.tup [.str "same",.str "under",.str "beneath",.str "and",.str "or",.str "odd",.str "add",.str "sub"]) J)) e (by decide);⟨f1,f2⟩
 rw[Qax (show¬inV w ((["same","under","beneath","and","or","odd","add","sub"]:Ai).map V.str)=true from c)]at e;have s2:=F.trans (Zc (o:=.tup [.str "same",.str "under",.str "beneath",.str "and",.str "or",.str "odd",.str "add",.str "sub"]) J);generalize upd H1 q2 (.tup [.str "same",.str "under",.str "beneath",.str "and",.str "or",.str "odd",.str "add",.str "sub"])=H2 at *;refine⟨_,U,by decide,λq3 G=>⟨q3,_,U,.inr (SqT.of Za),O,U,_,U,qV (λc=>?_) (λc=>?_)⟩⟩
 .rw[Qa2 (show inV w ((["sign","nought","not","neg","twice","low"]:Ai).map V.str)=true from c)]at e;exact let⟨f1,f2⟩:=fin _ _ (s2.trans (Zc (o:=.tup [.str "sign",.str "nought",.str "not",.str "neg",.str "twice",.str "low"]) G)) e (by decide);⟨f1,f2⟩
 rw[Qax (show¬inV w ((["sign","nought","not","neg","twice","low"]:Ai).map V.str)=true from c)]at e;have Y:=s2.trans (Zc (o:=.tup [.str "sign",.str "nought",.str "not",.str "neg",.str "twice",.str "low"]) G);refine⟨_,U,Z _,_,U,qV (λc=>?_) (λc=>?_)⟩
 .rw[Qa2 c]at e;exact let⟨f1,f2⟩:=fin _ _ Y e (by decide);⟨f1,f2⟩
 rw[Qax c]at e;exact let⟨f1,f2⟩:=fin _ _ Y e (by decide);⟨f1,f2⟩
inductive JH:Prop
 |mk(t:Aw)(ws:A2):vs=[.ref t]->H t=some (.tup ws)->(∀w∈ws,jO w)->ws.length<=60->(∀p H' (ms:Ai),H' p=some (.lst (ms.map V.str))->ZG H H'->ms.Perm (Ww ((ws.filter ntK).map Zgk))->PyProof.Rows.sortedS ms=true->Q (.ref p) H')->JH
theorem wj:FnD T.fi P w base 1 (spQ JH):=by
 refine T.fi.go Jl ?_;rintro cdv A outer s H _ Q E hr ⟨t,G,rfl,ht,hw,hl,k⟩;refine⟨_,(Zb (Zw 1 Jl.nd (Yf (Zi Zk (Zi Zk (Zi Zk (Zi Zk (Zi Zk (Zi Zk (Zi Zk (Zi Zk (Zi Zk (Zi Zk (Zi Zk (Zi Zk (Zi Zk (Zi Zk Zd))))))))))))))))
   (Zb (Zw 1 Jl.nd (Zs Zlt (qv 1) (Yf (Zi Zk (Zi Zk (Zi Zk (Zi Zk (Zi Zk (Zi Zk Zd)))))))))
   (Ze (Zn (Zr (Gy U) (by rfl) T.il xE (Zi (Z3 (vU U) (by rfl) T.abg Zjs (Zi (Y4 ({}:ZS (Zh JV) _ ["words","kept"] "word" ["kept"] [1]) (XC (qv 0)) (λ_ _ _ _=>(vH (JQ (qC (Y6 (Zr (show YS _ (.builtin "isinstance") (Zpe K)from XA) (by rfl) T.ai ZJ (Zi (qv 0) (Zi (Ws (v:=.ty "str") (by rfl) T.abh Zjr U) Zd)))) (WT (Zq (show OpR _ (compareOp .NotIn) (rIn K true)from vx) (qv 0) (qv 1) (by with_unfolding_all rfl))))))) (λ_ _ _ _=>(qv 0))) Zd)) Zd)))))),?_⟩
 refine⟨by decide,λk1 Ua=>Zg ?_⟩;refine⟨_,U,by decide,λk2 J=>⟨k1,k2,_,_,U,U,Zc J _ _ Za,Za,Qaw (Z2 (by decide)),λk3 H1 F s3=>Zg ?_⟩⟩;have s1:ZG H H1:=((Zc Ua).trans (Zc J)).trans s3;have F:H1 k3=some (.tup (ZN.map V.str)):=F;have I:=s1 _ _ ht;refine⟨_,U,t,U,⟨_,SqT.of I⟩,xT (xs:=G) ntK ZG ZG.refl (λ_ _ _ a b=>a.trans b) (λH2 O=>SqT.of (O _ _ I)) (Qaw (Z2 (by lia))) (λx hx H2 O R hR=>?_) (λx hx H2 R hR=>⟨_,U,hR⟩) (λH2 l O Z=>?_)⟩
 .rcases hw x hx with⟨y,rfl,hy⟩|⟨z,rfl⟩
  .refine⟨_,U,_,_,_,_,U,.str y,xF,_,U,Y1 ⟨_,U,_,U,k3,_,U,.inr (SqT.of (O _ _ F)),U,by decide +kernel,_,U,?_⟩⟩;have hR:=hR H2 (ZG.refl H2);rw[ZD];have e:(if true=true then !decide (y∈ZN)else decide (y∈ZN))=ntK (.str y):=by
    show(!decide (y∈ZN))=decide (y∉ZN)
    by_cases h:y∈ZN
    .grind
    .grind
   rw[e];exact hR
  .exact⟨_,U,_,_,_,_,U,.int z,xG,_,U,ZI (hR H2 (ZG.refl H2))⟩
 have fl:(G.filter ntK).length<=60:=Qa9 (Qda _ _) hl;have ol:=ky ((G.filter ntK).map Zgk);rw[Qab]at ol;have es:((G.filter ntK).map Zgk).map V.str=G.filter ntK:=by
  rw[Qay];refine(Qbo (g:=id) λw hw=>?_).trans (List.map_id _);have h:=(Qdc.mp hw).2;cases w with
  |str y=>rfl
  |_=>cases h
 have Y:=s1.trans (O.trans (Zc (o:=.lst (G.filter ntK)) Z));refine⟨l,(G.filter ntK).map Zgk,U,SqL.of (by rw[es];exact Za),by rw[Qab];lia,λa ha=>⟨a,_,U,Za,by lia,λm ms hm hp hs=>?_⟩⟩;exact k m _ ms Za (Y.trans ((Zc ha).trans (Zc hm))) hp hs
inductive Jr:Prop
 |mk(y:Str)(v r:V)(W:Nat):vs=[.str y,v,.int (2^W)]->1<=W->W<=64->One1 W y v r->Q r H->Jr
theorem vi:FnD T.eh P w base 1 (spQ Jr):=by
 refine T.eh.go ve ?_;rintro I A outer s H _ Q E Z ⟨y,v,r,W,rfl,Ua,O,J,k⟩;refine⟨_,(Zb (Z8 (Zq Yl (qv 0) Zk (Zx _))
   (Ze (Zn (Zs WA (Zs WA (qv 2) Zf) (qv 1)))) Zu)
   (Zb (Z8 (Zq Yl (qv 0) Zk (Zx _))
   (Ze (Zn (Zs Yb (Zs WA (qv 2) (qv 1)) (qv 2)))) Zu)
   (Zb (Z8 (Zq Yl (qv 0) Zk (Zx _))
   (Ze (Zn (Zs Yb (Zs Xm Zf (qv 1)) (qv 2)))) Zu)
   (Zb (Z8 (Zq Yl (qv 0) Zk (Zx _))
   (Ze (Zn (Zs YT (qv 1) (Zs WA (qv 2) (qv 1))))) Zu)
   (Zb (Z8 (Zq Yl (qv 0) Zk (Zx _))
   (Ze (Zn (Yt Zkx (Zs Xm Zf (qv 1)) (qv 2) (Zx _)))) Zu)
   (Zb (Z8 (Zq Yl (qv 0) Zk (Zx _))
   (Ze (Zn (Yt Yl (qv 1) Zf (Zx _)))) Zu)
   (Ze (Zn (Zjt (qv 1)))))))))),?_⟩
 have G:=J2 W;have Y:=pw_le O;rcases J with⟨F,a,rfl,e,a1,rfl⟩|⟨F,a,rfl,e,a1,rfl⟩|⟨rfl,b,rfl,rfl⟩
 .have z:y = "not" \/ y = "neg" \/ y = "twice" \/ y = "low" :=by simpa only[Qas,Qbk,Qe2]using F
  rcases z with rfl|rfl|rfl|rfl
  .refine⟨_,U,U,_,U,Y1 ⟨_,U,_,_,U,U,_,U,_,_,U,U,?_⟩⟩;rw[show Znw "not" a%2^W=2^W-1-a from Znm e a1]at k;exact k
  .refine⟨_,U,U,_,U,ZI ⟨_,U,U,_,U,Y1 ⟨_,U,_,U,_,_,U,U,_,U,_,_,U,U,G,?_⟩⟩⟩;rw[show Znw "neg" a%2^W=(2^W-a)%2^W from Zf8 a W]at k;exact k
  .refine⟨_,U,U,_,U,ZI ⟨_,U,U,_,U,ZI ⟨_,U,U,_,U,Y1 ⟨_,U,_,_,U,U,.inr (.inr ⟨by lia,by lia⟩),_,U,_,_,U,U,G,?_⟩⟩⟩⟩;rw[show Znw "twice" a%2^W=2*a%2^W by show(a+a)%2^W=_;rw[Int.two_mul]]at k;exact k
  .refine⟨_,U,U,_,U,ZI ⟨_,U,U,_,U,ZI ⟨_,U,U,_,U,ZI ⟨_,U,U,_,U,Y1 ⟨_,U,_,U,_,U,_,_,U,U,_,_,U,U,?_⟩⟩⟩⟩⟩;rw[show Znw "low" a%2^W=Builtin.bitAnd a (2^W-a)from Znn e a1]at k;exact k
 .have z:y = "sign" \/ y = "nought" :=by grind
  rcases z with rfl|rfl
  .refine⟨_,U,U,_,U,ZI ⟨_,U,U,_,U,ZI ⟨_,U,U,_,U,ZI ⟨_,U,U,_,U,ZI ⟨_,U,U,_,U,Y1 ⟨_,U,_,_,U,U,.inr (.inr ⟨by lia,by lia⟩),_,U,_,_,U,U,?_⟩⟩⟩⟩⟩⟩;rw[sign_eq e a1]at k;exact k
  .refine⟨_,U,U,_,U,ZI ⟨_,U,U,_,U,ZI ⟨_,U,U,_,U,ZI ⟨_,U,U,_,U,ZI ⟨_,U,U,_,U,ZI ⟨_,U,U,_,U,Y1 ⟨_,U,U,?_⟩⟩⟩⟩⟩⟩⟩;rw[show jl (2^W) "nought" [a]=decide (V.int a=V.int 0)from Zf9 a]at k;exact k
 .exact⟨_,U,U,_,U,ZI ⟨_,U,U,_,U,ZI ⟨_,U,U,_,U,ZI ⟨_,U,U,_,U,ZI ⟨_,U,U,_,U,ZI ⟨_,U,U,_,U,ZI ⟨_,U,_,U,k⟩⟩⟩⟩⟩⟩⟩
inductive Js:Prop
 |mk(y:Str)(v u r:V)(W:Nat):vs=[.str y,v,u,.int (2^W)]->1<=W->W<=64->Two2 W y v u r->(∀H',ZG H H'->Q r H')->Js
theorem vj:FnD T.et P w base 1 (spQ Js):=by
 refine T.et.go vf ?_;rintro cdv A outer s H _ Q E hr ⟨y,v,u,r,W,rfl,hW1,hW,ho,k⟩;refine⟨_,(Zb (Z8 (Zq Yo (qv 0) (Yf (Zi Zk (Zi Zk (Zi Zk Zd)))) (by with_unfolding_all rfl))
   (Ze (Zn (Z0 Zz (ZP (Zi (Zs YT (qv 1) (qv 2)) (Zi (Zs je (qv 1) (qv 2)) (Zi (Zs x9 (qv 1) (qv 2)) Zd)))) (qe_tm PySem.F.slot_tuple_index PySem.F.type_tuple_index Zef (Yf (Zi Zk (Zi Zk (Zi Zk Zd)))) (Zi (qv 0) Zd))))) Zu)
   (Zb (Z8 (Zq Yl (qv 0) Zk (Zx _))
   (Ze (Zn (Zs Yb (Zs YB (qv 1) (qv 2)) (qv 3)))) Zu)
   (Zb (Z8 (Zq Yl (qv 0) Zk (Zx _))
   (Ze (Zn (Zs Yb (Zs WA (qv 1) (qv 2)) (qv 3)))) Zu)
   (Zb (Z8 (Zq Yl (qv 0) Zk (Zx _))
   (Ze (Zn (Yt Yl (qv 1) (qv 2) (Zx _)))) Zu)
   (Zb (Z8 (Zq Yl (qv 0) Zk (Zx _))
   (Ze (Zn (Yt Zae (qv 1) (qv 2) (Zx _)))) Zu)
   (Zb (Z8 (Zq Yl (qv 0) Zk (Zx _))
   (Ze (Zn (Yt Zae (Zs Yb (Zs YB (qv 1) (Zs Ye (qv 3) Zf)) (qv 3)) (Zs Yb (Zs YB (qv 2) (Zs Ye (qv 3) Zf)) (qv 3)) (Zx _)))) Zu)
   (Zb (Z8 (Zq Yl (qv 0) Zk (Zx _))
   (Ze (Zn (gQ (qv 1) (xJ (qv 2))))) Zu)
   (Zb (Z8 (Zq Yl (qv 0) Zk (Zx _))
   (Ze (Zn (Zlc (qv 1) (xJ (qv 2))))) Zu)
   (Ze (Zn (Zlc (qv 2) (xJ (Zjt (qv 1)))))))))))))),?_⟩
 have Y:=J2 W;refine⟨_,U,by decide,λq1 hq1=>⟨q1,_,U,.inr (SqT.of Za),U,U,_,U,?_⟩⟩;rw[show inV (.str y) [V.str "and",V.str "or",V.str "odd"]=decide (y∈(["and","or","odd"]:Ai))from ZD y ["and","or","odd"]];have G:=Zc (o:=.tup [V.str "and",V.str "or",V.str "odd"]) hq1;generalize upd H q1 (.tup [V.str "and",V.str "or",V.str "odd"])=H1 at *;rcases ho with⟨O,a,b,rfl,rfl,⟨Z,a1⟩,⟨b0,b1⟩,rfl⟩|⟨O,a,b,rfl,rfl,⟨Z,a1⟩,⟨b0,b1⟩,rfl⟩|⟨O,a,b,rfl,rfl,rfl⟩
 .have J:y = "and" \/ y = "or" \/ y = "odd" \/ y = "add" \/ y = "sub" :=by simpa only[Qas,Qbk,Qe2]using O
  obtain⟨m1,m2,m3⟩:=Ziy Z a1 b0 b1;have fin:∀(j:Nat)(z:Int)(y:Str),(∃I,[V.str "and",V.str "or",V.str "odd"][j]?=some I/\eqV I (.str y)=true)->(∀i I,i<j->[V.str "and",V.str "or",V.str "odd"][i]?=some I->eqV I (.str y)=false)->[V.int (Builtin.bitAnd a b),V.int (Builtin.bitOr a b),V.int (Builtin.bitXor a b)][j]?=some (.int z)->(∀H',ZG H H'->Q (.int z) H')->tRet (tOp (rIxL K) (tLst (qT (tOp (rI0 λi j=>V.int (Builtin.bitAnd i j)) (vk 1) (vk 2)) (qT (tOp (rI0 λi j=>V.int (Builtin.bitOr i j)) (vk 1) (vk 2)) (qT (tOp (rI0 λi j=>V.int (Builtin.bitXor i j)) (vk 1) (vk 2)) Znt)))) (tTM Zee (tTup (qT (tC (V.str "and")) (qT (tC (V.str "or")) (qT (tC (V.str "odd")) Znt)))) (qT (vk 0) Znt))) {nx:=λ_ H'=>Q .non H',rt:=Q} [some (.str y),some (.int a),some (.int b),some (.int (2^W))] H1:=by
   intro j z y ⟨I,h1,h2⟩ h3 J h5;refine⟨_,U,_,U,_,_,U,U,_,U,_,U,_,_,U,U,_,U,_,U,_,_,U,U,zln3,λl hl=>⟨by decide,λq2 Ua=>⟨q2,_,U,Za,_,U,q2,_,_,I,j,U,U,Za,U,U,h1,h2,h3,l,_,_,_,U,U,SqL.of (Zc Ua _ _ Za),Yn J,h5 _ (G.trans ((Zc hl).trans (Zc Ua)))⟩⟩⟩
  rcases J with rfl|rfl|rfl|rfl|rfl
  .rw[show Zoz "and" a b%2^W=Builtin.bitAnd a b from m1]at k;exact Y1 (fin 0 _ _ ⟨_,U,U⟩ (λi I hi=>by lia) U k)
  .rw[show Zoz "or" a b%2^W=Builtin.bitOr a b from m2]at k;exact Y1 (fin 1 _ _ ⟨_,U,U⟩ (λi I hi e=>by
    obtain rfl:i=0:=by lia
    cases e;rfl) U k)
  .rw[show Zoz "odd" a b%2^W=Builtin.bitXor a b from m3]at k;exact Y1 (fin 2 _ _ ⟨_,U,U⟩ (λi I hi e=>by
    rcases(by lia:i=0\/i=1)with rfl|rfl<;>cases e<;>rfl) U k)
  .exact ZI ⟨_,U,U,_,U,Y1 ⟨_,U,_,U,_,_,U,U,_,U,_,_,U,U,Y,k _ G⟩⟩
  .exact ZI ⟨_,U,U,_,U,ZI ⟨_,U,U,_,U,Y1 ⟨_,U,_,U,_,_,U,U,_,U,_,_,U,U,Y,k _ G⟩⟩⟩
 .have J:y = "same" \/ y = "under" \/ y = "beneath" :=by simpa only[Qas,Qbk,Qe2]using O
  rcases J with rfl|rfl|rfl
  .rw[show jl (2^W) "same" [a,b]=decide (V.int a=V.int b)from Qce.mpr ⟨λz=>by rw[show a=b from z],λz=>by injection z⟩]at k;exact ZI ⟨_,U,U,_,U,ZI ⟨_,U,U,_,U,ZI ⟨_,U,U,_,U,Y1 ⟨_,U,_,U,U,k _ G⟩⟩⟩⟩
  .exact ZI ⟨_,U,U,_,U,ZI ⟨_,U,U,_,U,ZI ⟨_,U,U,_,U,ZI ⟨_,U,U,_,U,Y1 ⟨_,U,_,U,_,_,U,U,k _ G⟩⟩⟩⟩⟩
  .rw[ben_eq hW1 Z a1 b0 b1]at k;refine ZI ⟨_,U,U,_,U,ZI ⟨_,U,U,_,U,ZI ⟨_,U,U,_,U,ZI ⟨_,U,U,_,U,ZI ⟨_,U,U,_,U,Y1 ?_⟩⟩⟩⟩⟩;exact⟨_,U,_,U,_,_,U,U,.of (by decide) (by decide),_,_,U,U,_,U,_,_,U,U,Y,_,U,_,U,_,_,U,U,.of (by decide) (by decide),_,_,U,U,_,U,_,_,U,U,Y,_,_,U,U,k _ G⟩
 .have J:y = "both" \/ y = "either" \/ y = "so" :=by simpa only[Qas,Qbk,Qe2]using O
  rcases J with rfl|rfl|rfl
  .refine ZI ⟨_,U,U,_,U,ZI ⟨_,U,U,_,U,ZI ⟨_,U,U,_,U,ZI ⟨_,U,U,_,U,ZI ⟨_,U,U,_,U,ZI ⟨_,U,U,_,U,Y1 ⟨_,U,_,U,?_⟩⟩⟩⟩⟩⟩⟩;cases a
   .exact ZI (k _ G)
   .exact Y1 ⟨_,U,k _ G⟩
  .refine ZI ⟨_,U,U,_,U,ZI ⟨_,U,U,_,U,ZI ⟨_,U,U,_,U,ZI ⟨_,U,U,_,U,ZI ⟨_,U,U,_,U,ZI ⟨_,U,U,_,U,ZI ⟨_,U,U,_,U,Y1 ⟨_,U,_,U,?_⟩⟩⟩⟩⟩⟩⟩⟩;cases a
   .exact ZI ⟨_,U,k _ G⟩
   .exact Y1 (k _ G)
  .refine ZI ⟨_,U,U,_,U,ZI ⟨_,U,U,_,U,ZI ⟨_,U,U,_,U,ZI ⟨_,U,U,_,U,ZI ⟨_,U,U,_,U,ZI ⟨_,U,U,_,U,ZI ⟨_,U,U,_,U,ZI ⟨_,U,_,U,?_⟩⟩⟩⟩⟩⟩⟩⟩;cases b
   .exact ZI ⟨_,U,_,U,k _ G⟩
   .exact Y1 (k _ G)
inductive WJ:Prop
 |mk(pn:Aw)(nm:Ai)(m:Nat):vs=[.ref pn,.int m]->H pn=some (.lst (nm.map V.str))->nm.Nodup->nm.length<=3->m^nm.length<=10000->1<=m->(∀p H',GK H' p nm (chs m nm.length)->ZG H H'->Q (.ref p) H')->WJ
theorem jx:FnD T.du P w base 1 (spQ WJ):=by
 refine T.du.go ZV ?_;rintro cdv A outer s H _ Q E hr ⟨pn,nm,m,rfl,hpn,hnd,hn3,hbig,hm1,k⟩;have hu:=qU hr;refine⟨_,(Zb (Zw 2 ZV.nd (ZP (Zi JS Zd)))
   (Zb (Yu Qbd U (YF (qv 0)) (YE 3 ZV.nd)
   (Zb (Zw 4 ZV.nd (ZP Zd))
   (Zb (Yu Qbd U (YF (qv 2)) (YE 5 ZV.nd)
   (Ze (Yu Qbd U (YG U T.ay (Zi (qv 1) Zd)) (YE 6 ZV.nd)
   (Zb (Zw 7 ZV.nd (Z3 Zam (by rfl) T.si Zc0 (Zi (qv 5) Zd)))
   (Zb (JT hu (qv 7) (qv 3) (qv 6) U)
   (Ze (Yc (Y7 Qap Qaz Qa0 ZH (qv 4) (Zi (qv 7) Zd)))))))))
   (Ze (Zw 2 ZV.nd (qv 4))))))
   (Ze (Zn (qv 2))))),?_⟩
 refineλd hd=>⟨Zn2,λfo Ua=>Zg ?_⟩;have s1:=(Zc (o:=.dK []) hd).trans (Zc (o:=.lst [V.ref d]) Ua);have D1:GK (upd (upd H d (.dK [])) fo (.lst [V.ref d])) fo (nm.take 0) (chs m 0):=by
  refine⟨[d],Za,U,λi d' v h1 h2=>?_⟩;cases i with
  |zero=>
   cases h1;cases h2;exact Zc Ua _ _ Za
  |succ i=>cases h1
 refine⟨_,U,pn,U,⟨_,SqL.of (s1 _ _ hpn)⟩,Gi (K:=K) (a:=pn) (xs:=nm.map V.str) (λi σ H'=>∃(fo:Aw)(u3 u4 J I G:Option V),σ=[some (.ref pn),some (.int m),some (.ref fo),u3,u4,J,I,G]/\i<=nm.length/\GK H' fo (nm.take i) (chs m i)/\ZG H H') ⟨fo,none,none,none,none,none,U,Qbl _,D1,s1⟩ (λi σ H' _ ⟨_,_,_,_,_,_,_,_,_,s⟩=>SqL.of (s _ _ hpn)) ?_ ?_⟩
 .rintro i x σ H2 hx ⟨fo,u3,u4,J,I,G,rfl,hi0,D2,s2⟩;obtain⟨y,rfl,hy⟩:=z8 hx;have hil:i<nm.length:=(Qae.mp hy).1;have hyn:y∉nm.take i:=λh=>by
   obtain⟨j,hj⟩:=Qc9.mp h;rw[Qfm]at hj;split at hj
   .rename_i hlt;have e1:=Xq hnd hj;have e2:=Xq hnd hy;lia
   .cases hj
  have etk:nm.take (i+1)=nm.take i++[y]:=take_snoc hy;have ltk:(nm.take i).length=i:=by rw[Qbg];lia
  have hb1:m^i*m<=10000:=by
   exact Qa9 (Qdf hm1 hil) hbig
  refine Zg ⟨by decide,λwi O=>Zg ?_⟩;have s3:=Zc (o:=.lst []) O;obtain⟨ds,d1,d2,d3⟩:=D2;have W3:GK (upd H2 wi (.lst [])) wi (nm.take (i+1)) []:=⟨[],Za,U,λi d v h1 _=>by cases h1⟩;refine⟨_,U,fo,U,⟨_,SqL.of (s3 _ _ d1)⟩,Gi (K:=K) (a:=fo) (xs:=ds.map V.ref) (λj σ H'=>∃(J I G:Option V),σ=[some (.ref pn),some (.int m),some (.ref fo),some (.str y),some (.ref wi),J,I,G]/\j<=ds.length/\GK H' wi (nm.take (i+1)) (((chs m i).take j).flatMap λvs=>(List.range m).map λw=>vs++[w])/\ZG H2 H') ⟨J,I,G,U,Qbl _,W3,s3⟩ (λj σ H' _ ⟨_,_,_,_,_,_,s⟩=>SqL.of (s _ _ d1)) ?_ ?_⟩
  .rintro j x σ H4 hx ⟨v5,v6,v7,rfl,hj0,W4,s4⟩;rw[Qag]at hx;obtain⟨dv,Y,rfl⟩:=Qa5.mp hx;have hjl:j<ds.length:=(Qae.mp Y).1;have F:j<(chs m i).length:=by rw[<-d2];exact hjl
   have Z:=Qac F;have hvl:=(yZ (Qbh F)).1;have hkv:=d3 j dv _ Y Z;generalize (chs m i)[j]=vs at *;have efm:((chs m i).take (j+1)).flatMap (λvs=>(List.range m).map λw=>vs++[w])=((chs m i).take j).flatMap (λvs=>(List.range m).map λw=>vs++[w])++(List.range m).map λw=>vs++[w]:=by
    rw[take_snoc Z,List.flatMap_append];simp
   have fl:∀l:Ad,(l.flatMap λvs=>(List.range m).map λw=>vs++[w]).length=l.length*m:=by
    intro l
    induction l with
    |nil=>exact(Nat.zero_mul _).symm
    |cons v l ih=>rw[List.flatMap_cons,Qar,ih,Qab,Qa3,Qbj,Qhg,Nat.add_comm]
   have hb2:j*m+m<=10000:=by
    rw[<-Qhg];rw[Znh]at F;exact Qa9 (Qd5 _ F) hb1
   refine Zg ⟨_,U,(m:Int),U,by lia,by lia,Xz (λw σ H'=>∃(I G:Option V),σ=[some (.ref pn),some (.int m),some (.ref fo),some (.str y),some (.ref wi),some (.ref dv),I,G]/\GK H' wi (nm.take (i+1)) (((chs m i).take j).flatMap (λvs=>(List.range m).map λw=>vs++[w])++(List.range w).map λw=>vs++[w])/\ZG H2 H') ⟨v6,v7,U,by rw[List.range_zero,Qhd,Qbp];exact W4,s4⟩ ?_ ?_⟩
   .rintro w σ H5 hw ⟨v6,v7,rfl,W5,s5⟩;refine Zg ⟨_,U,dv,_,U,.inl (s5 _ _ hkv),λp hp=>Zg ?_⟩;refine⟨_,U,_,U,_,U,p,_,U,Zc3.k (k:=.inr y) Za (Z2 (by have:=Znp (nm.take i) vs;lia)),?_⟩;rw[yb,Qfy,Znq hyn (by rw[hvl,ltk]),<-etk];obtain⟨es,e1,e2,e3⟩:=id W5;have hpw:wi≠p:=λz=>by rw[z,hp]at e1;cases e1
    have sp:=Zc (o:=.dK (kvC (nm.take (i+1)) (vs++[w]))) hp;have e6:=sp _ _ e1;have hel:es.length<10000:=by
     grind
    refine⟨_,U,.inl ⟨U,_,SqL.of e6⟩,_,U,wi,_,_,U,U,e6,by rw[Qab];exact Yv (by lia),?_⟩;refine⟨_,_,U,?_,?_⟩
    .rw[Qff,Qa6,<-Qb7];refine W5.snoc (p:=p) (λd kv e=>?_) (λes' h=>?_) ?_
     .rw[Zj (YQ e e1 λz=>nomatch z)];exact sp _ _ e
     .rw[Za];rw[e1]at h;injection h with h;injection h with h;rw[h]
     .rw[Zj hpw.symm,Za]
    .exact Yj (s5.trans sp) O
   .grind
  .rintro σ H4 ⟨v5,v6,v7,rfl,hj0,W4,s4⟩;rw[Qab,d2,Qbs]at W4;exact⟨_,U,Zg ⟨wi,_,_,_,_,_,U,hil,W4,s2.trans s4⟩⟩
 .rintro σ H2 ⟨fo,u3,u4,J,I,G,rfl,hi0,D2,s2⟩;rw[Qab,Qbs]at D2;exact⟨_,U,k fo H2 D2 s2⟩
inductive Wi(C:Aw):Prop
 |mk(e:Aw):vs=[.ref e]->H e=some (.ext (xV C e))->(∀H',ZG H H'->Q (.bl true) H')->Wi C
def zX(K:Af)(C:Aw):Sp:=λvs H Q _=>Wi vs H Q C
theorem zY:FnD T.da P w base 1 (zX K t.ae):=by
 refine T.da.go zT ?_;rintro I A outer s H _ Q E Ua ⟨e,rfl,O,k⟩;refine⟨_,(Zb (Z8 (Y6 (Zr yy (by rfl) T.ai ZJ (Zi (qv 0) (Zi (Yf (Zi (Y3 (v:=.ref t.bj) U XB.m_NoAsk U) (Zi (Y3 (v:=.ref t.az) U XB.m_NoClaim U) (Zi (Y3 (v:=.ref t.bq) U XB.m_NoName U) (Zi (Y3 (v:=.ref t.av) U XB.m_NoShorter U) (Zi (Y3 (v:=.ref t.bh) U XB.m_NoSum U) (Zi (Y3 (v:=.ref t.au) U XB.m_NoTurning U) Zd))))))) Zd))))
   (Ze (Zn Y2)) Zu)
   (Ze (Zn (gQ (Zr yy (by rfl) T.ai ZJ (Zi (qv 0) (Zi (Y3 (v:=.ref t.ae) U XB.m_NoWords U) Zd))) (xJ (Zr yy (by rfl) T.ai ZJ (Zi (qv 0) (Zi (Ws (v:=.ty "ValueError") (by rfl) T.sh yz U) Zd)))))))),?_⟩
 refine⟨_,U,zln6,λJ F=>?_⟩;have G:=Zc (o:=.tup [.ref t.bj,.ref t.az,.ref t.bq,.ref t.av,.ref t.bh,.ref t.au]) F;have z:=G _ _ O;refine⟨_,_,.ref t.ae,false,U,.exc z XB.c_NoWords,.inr (.inr ⟨J,[t.bj,t.az,t.bq,t.av,t.bh,t.au],U,Za,XB.q_not⟩),_,U,ZI ?_⟩;refine⟨_,U,_,_,.ref t.ae,true,U,.exc z XB.c_NoWords,.inr (.inl ⟨t.ae,U,Zhz⟩),_,U,Y1 ?_⟩;exact⟨_,U,_,_,.ref t.ae,true,U,.exc z XB.c_NoWords,.inl ⟨"ValueError",U,XB.q_val⟩,k _ G⟩
inductive Wj:Prop
 |mk(d pn:Aw)(nm:Ai)(us:Aj)(m:Nat):vs=[.ref d,.ref pn,.int m]->H d=some (.dK (kvC nm us))->H pn=some (.lst (nm.map V.str))->nm.Nodup->us.length=nm.length->(∀x∈us,x<m)->Q (.bl true) H->Wj
theorem zZ:FnD T.dc P w base 1 (spQ Wj):=by
 refine T.dc.go Jm ?_;rintro Z A outer s H _ Q E hr ⟨d,pn,nm,F,m,rfl,O,J,hn,I,hb,k⟩;have G:=qU hr;refine⟨_,(Zb (Z8 (JQ (vE (vF (Y6 (Zr XA (by rfl) T.ai ZJ (Zi (qv 0) (Zi (Ws (v:=.ty "dict") (by rfl) T.si Zc0 U) Zd))))) (xI (Zq Zgw (Zr vP (by rfl) T.ak Yr (Zi (qv 0) Zd)) (Zr Zy (by rfl) T.ak Yr (Zi (qv 1) Zd)) (Zx _)))))
   (Ze (Zn Y2)) Zu)
   (Zb (Yu Qbd U (YF (qv 1)) (YE 3 Jm.nd)
   (Zb (Z8 (JQ (vE (Zq (Gu G) (qv 3) (qv 0) (by with_unfolding_all rfl)) (vE (vF (Y6 (Zr XA (by rfl) T.ai ZJ (Zi (JR G (qv 0) (qv 3) (λ_ _=>U)) (Zi (Ws (v:=.ty "int") (by rfl) T.ic j5 U) Zd))))) (xI (Y6 (Zr XA (by rfl) T.ai ZJ (Zi (JR G (qv 0) (qv 3) (λ_ _=>U)) (Zi (Ws (v:=.ty "bool") (by rfl) T.abt Zlb U) Zd))))))))
   (Ze (Zn Y2)) Zu)
   (Ze (Z8 (JQ (vE (Zq Zae (JR G (qv 0) (qv 3) (λ_ _=>U)) Zf (Zx _)) (xI (Zq Zkx (JR G (qv 0) (qv 3) (λ_ _=>U)) (qv 2) (Zx _)))))
   (Ze (Zn Y2)) Zu))))
   (Ze (Zn Y2)))),?_⟩
 have hl:(kvC nm F).length=(nm.map V.str).length:=by unfold kvC;rw[Qab,Qab,Qfl,I,Qfv]
 refine⟨_,U,_,_,_,_,U,.dK O,yJ,_,U,ZI ⟨_,U,d,_,U,.inl O,_,U,pn,_,U,.inl (SqL.of J),U,_,U,?_⟩⟩;rw[show(!decide (V.int ((kvC nm F).length:Int)=V.int ((nm.map V.str).length:Int)))=false by rw[hl,Qan U];rfl];refine ZI ⟨_,U,pn,U,⟨_,SqL.of J⟩,Gi (K:=K) (a:=pn) (xs:=nm.map V.str) (λi σ H2=>∃Y,σ=[some (.ref d),some (.ref pn),some (.int m),Y]/\H2=H) ⟨none,U,U⟩ (λi σ H2 _ ⟨_,_,e⟩=>e ▸ SqL.of J) ?_ ?_⟩
 .rintro i x σ H2 hx ⟨Y,rfl,rfl⟩;obtain⟨y,rfl,hy⟩:=z8 hx;have Ua:=Qam hy;have g:Znu H2 d (.str y) (some (.int (Zis nm F y))):=.inl ⟨_,.inr y,.inl O,U,((Zga hn I).1 y Ua).symm⟩;have b0:0<=Zis nm F y:=Qch _;have b1:Zis nm F y<(m:Int):=Qhi.mpr (hb _ (by grind));refine Zg ⟨_,U,_,U,d,_,U,g,_,U,ZI ⟨_,U,_,U,d,_,U,g,_,_,_,_,U,.int _,Wr,_,U,ZI ⟨_,U,_,U,d,_,U,g,_,_,_,_,U,.int _,vD,_,U,ZI ?_⟩⟩⟩;exact⟨_,U,_,U,d,_,U,g,_,_,U,U,_,U,qV (λz=>absurd (Qbb z) (by lia)) λ_=>⟨_,U,_,U,d,_,U,g,_,U,_,_,U,U,_,U,qV (λz=>absurd (Qbb z) (by lia)) λ_=>⟨_,U,U⟩⟩⟩
 .rintro σ H2 ⟨Y,rfl,rfl⟩;exact k
inductive GR:Prop
 |mk(nm p:Aw)(ys:Ai)(cs:Ak)(g:Str->Int):vs=[.ref nm,.ref p]->H nm=some (.tup (ys.map V.str))->H p=some (.tup (cs.map V.int))->ys.length<=3->cs.length<=1000000->(∀c∈cs,0<=c)->(∀(i:Nat)(y:Str),ys[i]?=some y->hor ((cs.map λc=>c/2^i%2).reverse)=g y)->(∀d kvs H',H d=none->H' d=some (.dK kvs)->Tab kvs ys g->ZG H H'->Q (.ref d) H')->GR
theorem gH:FnD T.gg P w base 2 (spQ GR):=by
 have F:=qO P base T TB XB;refine T.gg.go W8 ?_;rintro cdv A outer s H _ Q E hr ⟨nm,p,ys,cs,g,rfl,hn,hp,hy3,hcl,I,hg,k⟩;have hu:=qU hr;refine⟨_,(Zb (Zw 2 W8.nd JS)
   (Zb (Yu Qbd U (gX U T.fw (qv 0)) (yn U (YE 3 W8.nd) (YE 4 W8.nd))
   (Ze (JT hu (qv 2) (qv 4) (Zo T.cx F hr (Zi (Z3 Z1 (by rfl) T.aj ZZ (Zi (Y4 ({}:ZS (Zh qo) _ ["names","letters","words","place","name"] "letter" ["place"] [3]) (XC (qv 1)) (λ_ _ _ _=>Xo) (λ_ _ _ _=>(Zs YT (Zs j4 (qv 0) (qv 1)) Zf))) Zd)) Zd)) U)))
   (Ze (Zn (qv 2))))),?_⟩
 intro d J;have u1:=Zc (o:=.dK []) J;refine⟨_,U,nm,_,U,SqT.of (u1 _ _ hn),?_⟩;refine yo (K:=K) (a:=nm) (xs:=ys.map V.str) (j:=3) (k:=4) (λi σ H2=>∃u v kvs,σ=[some (.ref nm),some (.ref p),some (.ref d),u,v]/\H2 d=some (.dK kvs)/\Tab kvs (ys.take i) g/\ZG H H2) ⟨none,none,[],U,Za,.nil,u1⟩ (λi σ H2 _ ⟨_,_,_,_,_,_,G⟩=>SqT.of (G _ _ hn)) ?_ ?_
 .rintro i x σ H2 t hx ht ⟨u,v,kvs,rfl,h2,T,G⟩;obtain⟨y,rfl,Ua⟩:=z8 hx;have v1:=Zc (o:=.tup [.int i,.str y]) ht;have Z:=G.trans v1;refine⟨_,U,p,U,⟨_,SqT.of (Z _ _ hp)⟩,xM (fI λc=>V.int (Builtin.bitAnd (c/2^((i:Nat):Int).toNat) 1)) (SqT.of (Z _ _ hp)) (by rw[Qab];exact Qaw (Yv (by lia))) (λw hw R hR=>?_) (λl hl=>?_)⟩
  .obtain⟨c,_,rfl⟩:=Qau.mp hw;exact⟨_,U,_,U,_,_,U,U,Qch i,_,_,U,U,hR⟩
  have e1:(cs.map V.int).map (fI λc=>V.int (Builtin.bitAnd (c/2^((i:Nat):Int).toNat) 1))=(cs.map λc=>c/2^i%2).map V.int:=by
   rw[map_fI,Qay];apply Qbo;intro c hc;show V.int _=V.int _;rw[Qbf,Zmr (div_nn (I c hc) i)]
  rw[e1];have v2:=Zc (o:=.lst ((cs.map λc=>c/2^i%2).map V.int)) hl;refine⟨l,_,U,.inl ⟨SqL.of Za,λt2 O=>⟨t2,_,U,SqT.of Za,?_⟩⟩⟩;have v3:=Zc (o:=.tup ((cs.map λc=>c/2^i%2).map V.int)) O;have Y:=v1.trans (v2.trans v3);have few:=T.few;rw[Qbg]at few;refine⟨_,U,_,U,d,_,U,Zc3.k (k:=.inr y) (Y _ _ h2) (Yv (by lia)),_,_,_,U,Za,?_,Yj (G.trans Y) J⟩;rw[take_snoc Ua];refine(T.put y _).same λz hz=>?_
  by_cases e:z=y
  .rw[Qa2 e,e,<-hg i y Ua]
  .rw[Qax e]
 .rintro σ H2 ⟨u,v,kvs,rfl,h2,T,G⟩;rw[Qab,Qbs]at T;exact⟨_,U,k d kvs H2 J h2 T G⟩
inductive YV:Prop
 |mk(m a lt:Aw)(nm:Ai)(b:Nat)(nx:Ad)(ot:Az)(n:Nat)(S L:Aj)(W:Option (Aj))(wv v:V)(tr:Bool):vs=[.ref m,.ref a,.ref lt,wv,v]->M4 H m nm b nx ot->Runs nx ot n->Rd H a (.dK (twK S))->S.Nodup->(∀s∈S,s<nx.length)->S.length<=1000000->H lt=some (.tup (L.map Y9))->(∀l∈L,l<2^n)->L.length<=1000->jX H wv W->Xp tr v->(∀r∈ot,∀x∈r,Xp tr x)->(∀p H',H p=none->H' p=some (.dK (twK (goB (mN nx) (mB ot v) W S L)))->SmF H H'->Q (.ref p) H')->YV
theorem J4:FnD T.ba P w base 2 (spQ YV):=by
 have F:=we P base T TB XB;refine T.ba.go Y5 ?_;rintro cdv A outer s H _ Q E hr ⟨m,a,lt,nm,b,nx,ot,n,S,L,W,wv,v,tr,rfl,M,R,ha,hnd,hS,hSl,hlt,hL,hLl,hw,hv,hk,k⟩;have hu:=qU hr;refine⟨_,(Zb (Zw 5 Y5.nd JS)
   (Zb (Yu Qbd U (ur (qv 1)) (YE 6 Y5.nd)
   (Ze (Z8 (Y6 (Zr (Zec U) (by rfl) T.abz bt_any (Zi (Y4 ({}:ZS (Zh YA) _ ["machine","states","letters","well","wanted","going","state"] "letter" ["machine","state","well","wanted"] [0,6,3,4]) (XC (qv 2)) (λ_ _ _ _=>Xo) (λ_ _ _ _=>(Zo T.fg F hr (Zi (qv 1) (Zi (qv 2) (Zi (qv 0) (Zi (qv 3) (Zi (qv 4) Zd)))))))) Zd)))
   (Ze (JT hu (qv 5) (qv 6) Y2 U)) Zu)))
   (Ze (Zn (qv 5))))),?_⟩
 refineλp Z=>?_;have s1:=SmF.of (Zc (o:=.dK []) Z);refine Zg ?_;have Y:=s1.rd ha;refine⟨_,U,a,_,U,Y,λo ho=>gZ (kvs:=twK S) (λi σ H'=>∃(u6:Option V),σ=[some (.ref m),some (.ref a),some (.ref lt),some wv,some v,some (.ref p),u6]/\H' a=some (.frz o (.dK (twK S)))/\H' p=some (.dK (twK (goB (mN nx) (mB ot v) W (S.take i) L)))/\SmF H H') ⟨none,U,Za,?_,s1.trans (SmF.frz Y ho)⟩ (λi σ H' _ ⟨_,_,h,_⟩=>h) ?_ ?_⟩
 .have I:p≠a:=λz=>by
   subst z;rcases ha with z|⟨_,z⟩<;>rw[Z]at z<;>cases z
  rw[Zj I,Za];rfl
 .rintro i q σ H1 hq ⟨u6,rfl,h1,h2,J⟩;unfold twK at hq;rw[Qag]at hq;obtain⟨s,hs,rfl⟩:=Qa5.mp hq;have hsS:=Qam hs;have G:=J.tup hlt;refine Zg ⟨_,U,lt,U,⟨_,SqT.of G⟩,xM (xs:=L.map Y9) (fI λz=>V.bl (gw (mN nx) (mB ot v) W s z.toNat)) (SqT.of G) (by rw[Qab];exact Qaw (Z2 hLl)) (λx hx R' hR=>?_) (λl hl=>?_)⟩
  .obtain⟨y,hy,rfl⟩:=Qau.mp hx;have e:fI (λz=>V.bl (gw (mN nx) (mB ot v) W s z.toNat)) (Y9 y)=V.bl (gw (mN nx) (mB ot v) W s y):=by
    show V.bl (gw (mN nx) (mB ot v) W s (y:Int).toNat)=_;rw[Qbf]
   exact⟨_,U,_,U,_,U,_,U,_,U,m,nm,b,nx,ot,n,s,y,W,wv,v,tr,U,M.smf J,R,hS s hsS,hL y hy,J.well hw,hv,hk,hR⟩
  .refine⟨l,L.map (gw (mN nx) (mB ot v) W s),U,SqL.of (by rw[Za,Qay,Qay];congr 2),_,U,?_⟩;have sl:=Zc (o:=.lst (List.map (fI λz=>V.bl (gw (mN nx) (mB ot v) W s z.toNat)) (List.map Y9 L))) hl;have s3:=J.trans (SmF.of sl);have O:=sl _ _ h1;have Ua:=sl _ _ h2;have ea:(L.map (gw (mN nx) (mB ot v) W s)).any id=L.any (gw (mN nx) (mB ot v) W s):=by rw[List.any_map];rfl
   have es:=Ziq (nx:=mN nx) (ok:=mB ot v) (W:=W) (L:=L) hs;rw[ea];have I:a≠p:=λz=>by rw[z,h2]at h1;cases h1
   refine qV (λhb=>?_) (λhb=>?_)
   .rw[Qa2 hb]at es;refine⟨_,U,_,U,p,_,U,Zc3.k (k:=.inl (s:Int)) Ua (by rw[zM];have h3:=Znd (nx:=mN nx) (ok:=mB ot v) (W:=W) (S:=S.take i) (L:=L);rw[Qbg]at h3;exact Yv (by lia)),_,U,by rw[Zj I];exact O,?_,s3.put Z⟩;rw[Za,Zfw,es];exact congrArg (λz=>some (HO.dK (twK z))) (Qax (Znc hnd hs))
   .rw[Qax hb,Qbp]at es;exact⟨_,U,O,by rw[es];exact Ua,s3⟩
 .rintro σ H1 ⟨u6,rfl,h1,h2,J⟩;rw[zM,Qbs]at h2;exact⟨_,U,k p H1 Z h2 J⟩
inductive XQ:Prop
 |mk(ps po:Aw)(nx:Ad)(ot:Az)(kos:List (Ak)):vs=[.ref ps,.ref po]->G9 H ps (nx.map jQ)->G9 H po ot->ot.map (λr=>r.map vB)=kos.map (λk=>k.map some)->ot.length=nx.length->(∀row∈nx,row.length<=8/\∀s∈row,s<nx.length)->1<=nx.length->nx.length<=1000000->(∀p (cs:Aj) H',H p=none->H' p=some (.lst (cs.map Y9))->cs.length=nx.length->Wq (z9 nx cs)=cs->Wq cs=cs->Zba kos cs->cs=Zgo nx kos nx.length->ZG H H'->Q (.ref p) H')->XQ
theorem xk:FnD T.cm P w base 2 (spQ XQ):=by
 have G:=gF P base T TB XB;have J:=GO P base T TB XB;refine T.cm.go Ys ?_;rintro cdv A outer s H _ Q E hr ⟨ps,po,nx,ot,O,rfl,Rs,Ro,hk,hlo,hnx,h1,h2,k⟩;refine⟨_,(Zb (Zw 2 Ys.nd (Zo T.dj G hr (Zi (qv 1) Zd)))
   (Zb (Zw 3 Ys.nd Zf)
   (Zb (yi Qbd (Zq Zb7 (Zs YB (Zr (kf U) (by rfl) T.ir gU (Zi (qv 2) Zd)) Zf) (qv 3) (Zx _))
   (Zb (Zw 3 Ys.nd (Zs YB (Zr (kf U) (by rfl) T.ir gU (Zi (qv 2) Zd)) Zf))
   (Ze (Zw 2 Ys.nd (Zo T.dj G hr (Zi (Zhj ({}:ZS (Zh X2) _ ["steps","out","classes","many"] "mark" ["classes"] [2]) (⟨by rfl,by decide +kernel⟩:Two _ "mark" "row" ["classes"]) (qi_zip (b1:=false) (b2:=true) U T.aca (Zi (qv 2) (Zi (qv 0) Zd))) (λ_ _ _ _=>Xo) (λ_ _ _ _=>(Yf (Zi (qv 0) (Zi (Zo T.bx J hr (Zi (qv 1) (Zi (qv 2) Zd))) Zd))))) Zd))))))
   (Ze (Zn (qv 2)))))),?_⟩
 try dsimp only[L2.cxK,L2.cxK2]
 obtain⟨bo,hpo,hbo,hob⟩:=kB Ro;obtain⟨bs,hps,hbs,hsb⟩:=kB Rs;have hkl:O.length=nx.length:=by
  have:=congrArg List.length hk;rw[Qab,Qab]at this;lia
 refine⟨_,U,Ak,_,knT,po,bo,O,U,.inr hpo,by lia,λi b kk hb Y=>?_,by lia,λp0 H1 hp0 hp1 s1=>?_⟩
 .have hi:i<ot.length:=by have:=(Qae.mp hb).1;lia
  refine⟨_,hob i _ b (Qac hi) hb,?_⟩;have e:=congrArg (λl=>l[i]?) hk;simp only[Qag,Qac hi,Y]at e;exact Option.some.inj e
 rw[kC]at hp1;refine Zg ?_;have cls0:Zba O (Wq O):=λi j a b ha hb e=>(y6 ha hb).mp e;refine gf (λσ H2=>∃(p:Aw)(cs:Aj)(F n:Nat),σ=[some (.ref ps),some (.ref po),some (.ref p),some (.int F)]/\H2 p=some (.lst (cs.map Y9))/\H p=none/\cs.length=nx.length/\Wq cs=cs/\Zba O cs/\cs=Zgo nx O n/\n<=F/\F<=nx.length/\(F=0\/((Z5 cs).length<=F->Wq (z9 nx cs)=cs))/\ZG H H2) (λσ _=>match σ with|[_,_,_,some (.int m)]=>nx.length-m.toNat|_=>0) ⟨p0,Wq O,0,0,U,hp1,hp0,by rw[um];exact hkl,xY O,cls0,U,Qaj _,Qbl _,.inl U,s1⟩ ?_;rintro σ H2 ⟨p,cs,F,n,rfl,hp2,hpH,I,hnn,hcls,hcn,hnm,hmy,hst,s2⟩;have hne:cs≠[]:=λz=>by rw[z]at I;have:(0:Nat)=nx.length:=I;lia
 have mx:∀m∈(cs.map λc:Nat=>(c:Int)),(∀n∈(cs.map λc:Nat=>(c:Int)),n<=m)->m+1=((Z5 cs).length:Int):=by
  intro m hm hx;obtain⟨c,hc,rfl⟩:=Qau.mp hm;have h3:c∈Wq cs:=by rw[hnn];exact hc
  have:=Zhr h3 λn hn=>by
   rw[hnn]at hn;have:=hx _ (Qb9 hn);lia
  lia
 have Ua:H2 p=some (.lst ((cs.map λc:Nat=>(c:Int)).map V.int)):=by rw[hp2,Qay];rfl
 have hsl:(Z5 cs).length<=nx.length:=by have:=uk cs;lia
 have hne':(cs.map λc:Nat=>(c:Int))≠[]:=λz=>hne (List.map_eq_nil_iff.mp z);refine⟨_,U,p,_,U,SqL.of Ua,hne',λm hm hx=>⟨_,_,U,U,_,U,_,_,U,U,_,U,?_⟩⟩;have em:=mx m hm hx;refine qV (λhgt=>?_) (λhgt=>?_)
 .have hlt:F<(Z5 cs).length:=by
   have:=Qbb hgt;lia
  refine⟨λσ' H'=>∃(p':Aw),σ'=[some (.ref ps),some (.ref po),some (.ref p'),some (.int ((Z5 cs).length:Int))]/\H' p'=some (.lst ((Wq (z9 nx cs)).map Y9))/\H p'=none/\ZG H H',?_,?_⟩
  .rintro σ' H' ⟨p',rfl,hp',hpn,s'⟩;refine⟨nx.length-(Z5 cs).length,?_,?_,p',Wq (z9 nx cs),(Z5 cs).length,n+1,U,hp',hpn,?_,xY _,Zmv I hkl hcls,by rw[hcn];rfl,by lia,hsl,.inr λhle=>?_,s'⟩
   .show nx.length-(Z5 cs).length<nx.length-(F:Int).toNat;rw[Qbf];lia
   .show _=nx.length-((Z5 cs).length:Int).toNat;rw[Qbf]
   .rw[um,yK I,I]
   .rw[Zd7]at hle;have:=Za0 I hnn hle;rw[this,this]
  .refine⟨_,U,p,_,U,SqL.of Ua,hne',λm2 hm2 hx2=>⟨_,_,U,U,?_⟩⟩;have em2:=mx m2 hm2 hx2;try dsimp only
   rw[em2];have hps2:=s2 _ _ hps;refine⟨_,U,_,U,p,ps,_,_,U,SqB.l Ua,SqB.t hps2,?_⟩;refine Zaw (xs:=(cs.map λc:Nat=>(c:Int)).map V.int) (ys:=bs.map V.ref) (λi zs H'=>∃ds:List Aw,zs=ds.map V.ref/\ds.length=i/\i<=nx.length/\(∀(j:Nat)(d:Aw)(kk:Int×Ak),ds[j]?=some d->(z9 nx cs)[j]?=some kk->Zd2 H' kk d)/\ZG H2 H') ⟨[],U,U,Qbl _,(λj d kk hd=>by cases hd),ZG.refl _⟩ ?_ ?_ ?_ ?_
   .rintro i zs H' ⟨ds,rfl,hd,hi,_⟩;rw[Qab,hd];exact Qaw (Yv (by lia))
   .rintro i zs H' ⟨ds,_,_,_,_,s'⟩;exact⟨SqB.l (s' _ _ Ua),SqB.t (s' _ _ hps2)⟩
   .rintro i x y q zs H3 R hR hx' hy' ⟨ds,rfl,hdl,hi,hpa,s3⟩ hq;rw[Qag,Qag]at hx';cases hc:cs[i]? with
    |none=>rw[hc]at hx';cases hx'
    |some c=>
    rw[hc]at hx';cases hx';rw[Qag]at hy';obtain⟨b,hb,rfl⟩:=Qa5.mp hy';have hil:i<nx.length:=by have:=(Qae.mp hc).1;lia
    have hrow:nx[i]?=some nx[i]:=Qac hil;have hbr:H b=some (.tup (jQ nx[i])):=hsb i _ b (by rw[Qag,hrow];rfl) hb;obtain⟨r8,rlt⟩:=hnx nx[i] (Qbh hil);have sq:=Zc (o:=.tup [.int c,.ref b]) hq;have s4:=(s2.trans s3).trans sq;unfold Zg2;try dsimp only
    rw[Qa2 U];refine⟨_,U,_,U,_,U,b,p,nx[i],cs.map λc:Nat=>(c:Int),U,s4 _ _ hbr,(s3.trans sq) _ _ Ua,λs hs=>by rw[Qab,I];exact rlt s hs,by lia,by rw[Qab];lia,λt H5 ht0 ht s5=>⟨ya,λd hd=>hR _ _ ⟨ds++[d],by rw[Qa6];rfl,by rw[Qar,hdl];rfl,hil,λj d' kk hj Y=>?_,((s3.trans sq).trans s5).trans (Zc hd)⟩⟩⟩;have sd:=Zc (o:=.tup [.int c,.ref t]) hd;rw[List.getElem?_append]at hj;split at hj
    .have:=hpa j d' kk hj Y;exact knP.keep _ _ _ _ (λb xs e=>((sq.trans s5).trans sd) _ _ e) this
    .rename_i hnl;have hji:j=i:=by
      have:=(Qae.mp hj).1;rw[Qfu]at this;lia
     subst hji;rw[hdl,Qfa]at hj;cases hj;rw[GB hc hrow]at Y;cases Y;refine⟨t,Za,_,sd _ _ ht,?_⟩;rw[Qay,Qay,Qay];refine Qbo λs _=>?_;show some ((cs.map λc:Nat=>(c:Int)).getD s 0)=some ((cs.getD s 0:Nat):Int);rw[Qal,Qal,Qag];cases cs[s]?<;>rfl
   .rintro zs H3 ⟨ds,rfl,hdl,hi,hpa,s3⟩ l hl3;have hzl:(((cs.map λc:Nat=>(c:Int)).map V.int).zip (bs.map V.ref)).length=nx.length:=by
     rw[Qfl,Qab,Qab,Qab,I,hbs,Qab,Qfv]
    rw[hzl]at hdl;have sl:=Zc (o:=.lst (ds.map V.ref)) hl3;refine⟨Int×Ak,_,knP,l,ds,z9 nx cs,U,.inl Za,by rw[yK I];lia,λi b kk hb Y=>knP.keep _ _ _ _ (λb xs e=>sl _ _ e) (hpa i b kk hb Y),by rw[yK I];lia,λp' H6 hp6 hq6 s6=>?_⟩;rw[kC]at hq6;have s26:=(s2.trans s3).trans (sl.trans s6);exact⟨p',U,hq6,(s2.trans s3).free (sl.free hp6),s26⟩
 .have hle:(Z5 cs).length<=F:=by
   have:¬(F:Int)<m+1:=λz=>hgt (Qan z);lia
  have Z:=hst.resolve_left (λz=>by
   have:(0:Int)<m+1:=by
    obtain⟨c,_,rfl⟩:=Qau.mp hm;lia
   lia) hle
  exact⟨_,U,k p cs H2 hpH hp2 I Z hnn hcls (by rw[hcn]at Z ⊢;exact(Zim Z (by lia)).symm) s2⟩
inductive GS:Prop
 |mk(k:Key):vs=[kV k]->Q (.int (XE k)) H->GS
theorem gI:FnD T.gi P w base 2 (spQ GS):=by
 have z:=jv P base T TB XB;have e:=xj P base T TB XB;refine T.gi.go gD ?_;rintro G A outer s H _ Q E F ⟨kk,rfl,k⟩;refine⟨_,(Ze (Zn (Zs YB (Zo T.dn z F (Zi (qv 0) Zd)) (Zo T.cj e F (Zi (qv 0) Zd))))),?_⟩;exact⟨_,U,kk,U,_,U,kk,U,_,_,U,U,k⟩
inductive qR:Prop
 |mk(y:Str):vs=[.str y]->y.length<=100000->(∀H',ZG H H'->Q (.bl (decide (y∉ZN/\NmL y))) H')->qR
omit T TB XB in
theorem Zi2{y:Str}:NmL y↔y.length<=8/\jN y Zeh:=by
 constructor
 .intro h;refine⟨h.1.2,λz=>?_,h.2⟩;have h1:=h.1.1;rw[len_signs,z]at h1;exact absurd h1 (by decide)
 .intro h;refine⟨⟨?_,h.1⟩,h.2.2⟩;rw[len_signs];cases e:y.cps.toList with
  |nil=>exact absurd e h.2.1
  |cons a r=>exact Nat.succ_le_succ (Qbl _)
theorem Zbm:FnD T.ie P w base 2 (spQ qR):=by
 have I:=vg P base T TB XB;have F:=xi P base T TB XB;have G:=ju P base T TB XB;refine T.ie.go Zbi ?_;rintro Z A outer s H _ Q E O ⟨y,rfl,Ua,k⟩;refine⟨_,(Zb (Z8 (JQ (vE (Y6 (Zo T.dm G O (Zi (qv 0) Zd))) (xI (Y6 (Zo T.cg F O (Zi (qv 0) Zd))))))
   (Ze (Zn Y2)) Zu)
   (Ze (Zn (gQ (Yt Zoa (Zr vy (by rfl) T.ak Yr (Zi (qv 0) Zd)) (Y3 (v:=.int 8) U T.ox ⟨_,U⟩) (Zx _)) (xJ (Zo T.dz I O (Zi (qv 0) (Zi (Y3 (v:=.str "abcdefghijklmnopqrstuvwxyz") U T.abp ⟨_,U⟩) Zd)))))))),?_⟩
 by_cases h1:y∈ZN
 .have e:decide (y∉ZN/\NmL y)=false:=Qaq λz=>z.1 h1
  rw[e]at k;refine⟨_,U,y,U,_,U,?_⟩
  by_cases h2:y∈G7
  .rw[Qan h2];exact Y1 (Y1 (k H (ZG.refl H)))
  .rw[Qaq h2];have J:y∈Z6:=((gh y).mp h1).resolve_left h2;refine ZI ⟨_,U,.inr y,U,_,U,?_⟩;rw[show clK (.inr y)=true from Qan J];exact Y1 (k H (ZG.refl H))
 .have h2:y∉G7:=λz=>h1 ((gh y).mpr (.inl z))
  have J:y∉Z6:=λz=>h1 ((gh y).mpr (.inr z));refine⟨_,U,y,U,_,U,?_⟩;rw[Qaq h2];refine ZI ⟨_,U,.inr y,U,_,U,?_⟩;rw[show clK (.inr y)=false from Qaq J];refine ZI ?_;refine⟨_,U,y,U,Qa9 Ua (by decide),_,_,U,U,_,U,?_⟩
  by_cases Y:y.length<=8
  .rw[Qan (show(y.length:Int)<=8 by lia)];refine Y1 ⟨_,U,y,Zeh,U,Ua,λH' s'=>?_⟩;have e:decide (jN y Zeh)=decide (y∉ZN/\NmL y):=by
    rw[Qeo,Qdp,Qdp,Zi2];exact⟨λz=>⟨h1,Y,z⟩,λz=>z.2.2⟩
   rw[e];exact k H' s'
  .rw[Qaq (show¬(y.length:Int)<=8 by lia)];have e:decide (y∉ZN/\NmL y)=false:=Qaq λz=>Y z.2.1.2;rw[e]at k;exact ZI (k H (ZG.refl H))
inductive Wk:Prop
 |mk(tn tl:Aw)(ys:Ai)(L:Nat):vs=[.ref tn,.ref tl]->H tn=some (.tup (ys.map V.str))->ys.Nodup->ys.length<=10->H tl=some (.lst ((List.range L).map λi:Nat=>V.int i))->L<=100->(∀dv kvs H',H dv=none->H' dv=some (.dK kvs)->Zet kvs ys (Xa L ys)->ZG H H'->Q (.ref dv) H')->Wk
theorem ja:FnD T.dg P w base 2 (spQ Wk):=by
 have F:=qO P base T TB XB;refine T.dg.go YO ?_;rintro cdv A outer s H _ Q E hr ⟨tn,tl,ys,L,rfl,hn,hnd,hn3,hl,hL,k⟩;have hu:=qU hr;refine⟨_,(Zb (Zw 2 YO.nd JS)
   (Zb (Yu Qbd U (gX U T.fw (qv 0)) (yn U (YE 3 YO.nd) (YE 4 YO.nd))
   (Ze (JT hu (qv 2) (qv 4) (Zo T.cx F hr (Zi (Z3 Z1 (by rfl) T.aj ZZ (Zi (Y4 ({}:ZS (Zh XX) _ ["names","letters","columns","place","name"] "letter" ["place"] [3]) (YF (qv 1)) (λ_ _ _ _=>Xo) (λ_ _ _ _=>(Zs YT (Zs j4 (qv 0) (qv 1)) Zf))) Zd)) Zd)) U)))
   (Ze (Zn (qv 2))))),?_⟩
 refineλZ I=>Zg ?_;have s1:=Zc (o:=.dK []) I;refine⟨_,U,tn,_,U,SqT.of (s1 _ _ hn),yo (K:=K) (a:=tn) (xs:=ys.map V.str) (λi σ H2=>∃(kvs:A0)(u3 u4:Option V),σ=[some (.ref tn),some (.ref tl),some (.ref Z),u3,u4]/\H2 Z=some (.dK kvs)/\Zet kvs (ys.take i) (Xa L ys)/\kvs.length<=i/\i<=ys.length/\ZG H H2) ⟨[],none,none,U,Za,⟨λy h=>(by cases h),λy _=>U⟩,Qaj _,Qbl _,s1⟩ (λi σ H2 _ ⟨_,_,_,_,_,_,_,_,s⟩=>SqT.of (s _ _ hn)) ?_ ?_⟩
 .rintro i x σ H2 p hx hp ⟨kvs,u3,u4,rfl,h2,Ua,hkl,_,s2⟩;rw[Qag]at hx;obtain⟨y,Y,rfl⟩:=Qa5.mp hx;have hi:=(Qae.mp Y).1;have s3:=s2.trans (Zc (o:=.tup [.int i,.str y]) hp);have h3:=Zc (o:=.tup [.int i,.str y]) hp _ _ h2;have O:=s3 _ _ hl;refine⟨_,U,tl,U,⟨_,SqL.of O⟩,comp_map (xs:=(List.range L).map λi:Nat=>V.int i) (fI λc=>V.int (bt c i)) (SqL.of O) (by rw[Qab,Qa3];exact Qaw (Z2 (by lia))) (λv hv R hR=>?_) (λq hq=>?_)⟩
  .obtain⟨c,_,rfl⟩:=Qau.mp hv;refine⟨_,U,_,U,_,_,U,U,Qch i,_,_,U,U,?_⟩;have e:fI (λc=>V.int (bt c i)) (V.int c)=V.int (Builtin.bitAnd ((c:Int)/2^(i:Int).toNat) 1):=by
    rw[and_1,Qbf];rfl
   rw[e]at hR;exact hR
  have ex:((List.range L).map λi:Nat=>V.int i).map (fI λc=>V.int (bt c i))=((List.range L).map λl:Nat=>bt (l:Int) i).map V.int:=by
   rw[Qay,Qay];rfl
  rw[ex];have s4:=Zc (o:=.lst (((List.range L).map λl:Nat=>bt (l:Int) i).map V.int)) hq;refine⟨q,_,U,.inl ⟨SqL.of Za,λt ht=>?_⟩⟩;have s5:=s4.trans (Zc (o:=.tup (((List.range L).map λl:Nat=>bt (l:Int) i).map V.int)) ht);have h5:=s5 _ _ h3;refine⟨t,(List.range L).map λl:Nat=>bt (l:Int) i,U,SqT.of Za,?_⟩;have hv:hor ((List.range L).map λl:Nat=>bt (l:Int) i).reverse=Xa L ys y:=by
   unfold Xa;rw[Xq hnd Y]
  rw[hv];have lp:=Wu kvs (.inr y) (.int (Xa L ys y));refine⟨_,U,_,U,Z,_,U,Zc3.k (k:=.inr y) h5 (Z2 (by lia)),putK kvs (.inr y) (.int (Xa L ys y)),_,_,U,Za,⟨λz J=>?_,λz J=>?_⟩,by lia,hi,Yj (s3.trans s5) I⟩
  .rw[take_snoc Y]at J;rw[Gq]
   by_cases G:z=y
   .rw[Qa2 (by rw[G]),G]
   .rw[Qax (λe=>G (Sum.inr.inj e))];rcases Qb2.mp J with h|h
    .exact Ua.1 z h
    .exact absurd (Qat.mp h) G
  .rw[take_snoc Y]at J;rw[Gq,Qax (λe=>J (Qb2.mpr (.inr (Qat.mpr (Sum.inr.inj e)))))];exact Ua.2 z λh=>J (Qb2.mpr (.inl h))
 .rintro σ H2 ⟨kvs,u3,u4,rfl,h2,Ua,hkl,_,s2⟩;rw[Qab,Qbs]at Ua;exact⟨_,U,k Z kvs H2 I h2 Ua s2⟩
inductive JI:Prop
 |mk(y:Str)(p:Aw)(is:Ak)(h:Int):vs=[.str y,.ref p,.int h]->H p=some (.lst (is.map V.int))->1<=is.length->y∈allR->(y∈Zmq->2<=is.length)->(∀H',ZG H H'->Q (.int (ktI y is h)) H')->JI
theorem wm:FnD T.fj P w base 2 (spQ JI):=by
 have e:=zW P base T TB XB;refine T.fj.go qM ?_;rintro Z A outer s H _ Q E hr ⟨y,p,is,h,rfl,Ua,l1,hy,J,k⟩;refine⟨_,(Zb (Zw 3 qM.nd (Z0 Zz (qv 1) Zf))
   (Zb (Z8 (Zq Yl (qv 0) Zk (Zx _))
   (Ze (Zn (qv 3))) Zu)
   (Zb (Z8 (Zq Yo (qv 0) (Yf (Zi Zk (Zi Zk (Zi Zk Zd)))) (by with_unfolding_all rfl))
   (Ze (Zn (Zs je (qv 3) (qv 2)))) Zu)
   (Zb (Z8 (Zq Yl (qv 0) Zk (Zx _))
   (Ze (Zn (Zs je (Zs x9 (qv 3) (Z0 Zz (qv 1) Zf)) (qv 2)))) Zu)
   (Zb (Z8 (Zq Yl (qv 0) Zk (Zx _))
   (Ze (Zn (Zs je (Zs YT (qv 3) (Z0 Zz (qv 1) Zf)) (Zs YT (qv 2) (Zs je (qv 3) (Z0 Zz (qv 1) Zf)))))) Zu)
   (Ze (Zn (Zo T.dk e hr (Zi (qv 3) (Zi (Z0 Zz (qv 1) Zf) (Zi (qv 2) Zd))))))))))),?_⟩
 have O:¬y = "twice" ->¬(y = "neg" \/ y = "low" \/ y = "nought")->y∈Zmq:=Zer y hy;unfold ktI at k;refine⟨_,U,p,_,0,_,U,U,SqL.of Ua,ZC 0 rfl l1,Zg ⟨_,U,U,_,U,?_⟩⟩
 by_cases h1:y = "twice"
 .rw[Qan (congrArg V.str h1)];rw[Qa2 h1]at k;refine Y1 ?_;exact⟨_,U,k H (ZG.refl _)⟩
 rw[Qaq (λz=>h1 (by injection z))];rw[Qax h1]at k;refine ZI ⟨_,U,by decide,λq hq=>⟨q,_,U,.inr (SqT.of Za),U,U,_,U,?_⟩⟩;show if inV (.str y) ((["neg","low","nought"]:Ai).map V.str)=true then _ else _;rw[ZD];have I:=Zc (o:=.tup [.str "neg",.str "low",.str "nought"]) hq;have pq:=I _ _ Ua;generalize upd H q (.tup [.str "neg",.str "low",.str "nought"])=H1 at *
 by_cases h2:y = "neg" \/ y = "low" \/ y = "nought"
 .rw[Qan (by grind)];rw[Qa2 h2]at k;refine Y1 ?_;exact⟨_,U,_,U,_,_,U,U,k H1 I⟩
 rw[Qaq (by grind)];rw[Qax h2]at k;refine ZI ⟨_,U,U,_,U,?_⟩
 by_cases G:y = "same"
 .rw[Qan (congrArg V.str G)];rw[Qa2 G]at k;refine Y1 ?_;exact⟨_,U,_,U,p,_,1,_,U,U,SqL.of pq,ZC 1 rfl (J (by rw[G];decide +kernel)),_,_,U,U,_,U,_,_,U,U,k H1 I⟩
 rw[Qaq (λz=>G (by injection z))];rw[Qax G]at k;refine ZI ⟨_,U,U,_,U,?_⟩
 by_cases F:y = "add"
 .rw[Qan (congrArg V.str F)];rw[Qa2 F]at k;refine Y1 ?_;have Y:=J (by rw[F];decide +kernel);exact⟨_,U,_,U,p,_,1,_,U,U,SqL.of pq,ZC 1 rfl Y,_,_,U,U,_,U,_,U,_,U,p,_,1,_,U,U,SqL.of pq,ZC 1 rfl Y,_,_,U,U,_,_,U,U,_,_,U,U,k H1 I⟩
 rw[Qaq (λz=>F (by injection z))];rw[Qax F]at k;exact ZI ⟨_,U,_,U,p,_,1,_,U,U,SqL.of pq,ZC 1 rfl (J (O h1 h2)),_,U,_,_,_,U,k H1 I⟩
inductive WK:Prop
 |mk(y:Str)(p:Aw)(is:Ak)(h n:Int):vs=[.str y,.ref p,.int h,.int n]->H p=some (.lst (is.map V.int))->1<=is.length->y∈allR->(y∈Zmq->2<=is.length)->(∀H',ZG H H'->Q (.int (okI y is h n)) H')->WK
theorem jy:FnD T.dw P w base 2 (spQ WK):=by
 have e:=zW P base T TB XB;refine T.dw.go js ?_;rintro cdv A outer s H _ Q E Z ⟨y,p,is,h,n,rfl,hp,O,hy,l2,k⟩;refine⟨_,(Zb (Z8 (Zq Yo (qv 0) (Yf (Zi Zk (Zi Zk Zd))) (by with_unfolding_all rfl))
   (Ze (Zn (Zs x9 (Zs x9 (Z0 Zz (qv 1) Zf) (Z0 Zz (qv 1) Zf)) (qv 2)))) Zu)
   (Zb (Z8 (Zq Yl (qv 0) Zk (Zx _))
   (Ze (Zn (Zs x9 (Z0 Zz (qv 1) Zf) (qv 2)))) Zu)
   (Zb (Z8 (Zq Yl (qv 0) Zk (Zx _))
   (Ze (Zn (qv 2))) Zu)
   (Zb (Z8 (Zq Yl (qv 0) Zk (Zx _))
   (Ze (Zn (Zs YT (Z0 Zz (qv 1) Zf) (WS xA (qv 2))))) Zu)
   (Zb (Z8 (Zq Yo (qv 0) (Yf (Zi Zk (Zi Zk Zd))) (by with_unfolding_all rfl))
   (Ze (Zn (WS xA (qv 3)))) Zu)
   (Zb (Z8 (Zq Yl (qv 0) Zk (Zx _))
   (Ze (Zn (qv 3))) Zu)
   (Ze (Zn (Zo T.dk e Z (Zi (Z0 Zz (qv 1) Zf) (Zi (Z0 Zz (qv 1) Zf) (Zi (qv 2) Zd)))))))))))),?_⟩
 unfold okI at k;refine⟨_,U,by decide,λq hq=>⟨q,_,U,.inr (SqT.of Za),U,U,_,U,?_⟩⟩;show if inV (.str y) ((["add","sub"]:Ai).map V.str)=true then _ else _;rw[ZD];have F:=Zc (o:=.tup [.str "add",.str "sub"]) hq;have pq:=F _ _ hp;generalize upd H q (.tup [.str "add",.str "sub"])=H1 at *
 by_cases h1:y = "add" \/ y = "sub"
 .rw[Qan (by grind)];rw[Qa2 h1]at k;refine Y1 ?_;have l3:2<=is.length:=l2 (by rcases h1 with h|h<;>rw[h]<;>decide +kernel);exact⟨_,U,p,_,0,_,U,U,SqL.of pq,ZC 0 rfl O,_,U,p,_,1,_,U,U,SqL.of pq,ZC 1 rfl l3,_,_,U,U,_,U,_,_,U,U,k H1 F⟩
 rw[Qaq (by grind)];rw[Qax h1]at k;refine ZI ⟨_,U,U,_,U,?_⟩
 by_cases h2:y = "neg"
 .rw[Qan (congrArg V.str h2)];rw[Qa2 h2]at k;refine Y1 ?_;exact⟨_,U,p,_,0,_,U,U,SqL.of pq,ZC 0 rfl O,_,U,_,_,U,U,k H1 F⟩
 rw[Qaq (λz=>h2 (by injection z))];rw[Qax h2]at k;refine ZI ⟨_,U,U,_,U,?_⟩
 by_cases G:y = "twice"
 .rw[Qan (congrArg V.str G)];rw[Qa2 G]at k;refine Y1 ?_;exact⟨_,U,k H1 F⟩
 rw[Qaq (λz=>G (by injection z))];rw[Qax G]at k;refine ZI ⟨_,U,U,_,U,?_⟩
 by_cases I:y = "low"
 .rw[Qan (congrArg V.str I)];rw[Qa2 I]at k;refine Y1 ?_;exact⟨_,U,p,_,0,_,U,U,SqL.of pq,ZC 0 rfl O,_,U,_,U,_,_,U,U,k H1 F⟩
 rw[Qaq (λz=>I (by injection z))];rw[Qax I]at k;refine ZI ⟨_,U,by decide,λr Z=>⟨r,_,U,.inr (SqT.of Za),U,U,_,U,?_⟩⟩;show if inV (.str y) ((["same","nought"]:Ai).map V.str)=true then _ else _;rw[ZD];have J:=Zc (o:=.tup [.str "same",.str "nought"]) Z;have pr:=J _ _ pq;generalize upd H1 r (.tup [.str "same",.str "nought"])=H2 at *
 by_cases Ua:y = "same" \/ y = "nought"
 .rw[Qan (by simp only[Qas,Qbk,Qe2];exact Ua)];rw[Qa2 Ua]at k;refine Y1 ?_;exact⟨_,U,_,U,k H2 (F.trans J)⟩
 rw[Qaq (by simp only[Qas,Qbk,Qe2];exact Ua)];rw[Qax Ua]at k;refine ZI ⟨_,U,U,_,U,?_⟩
 by_cases Y:y = "under"
 .rw[Qan (congrArg V.str Y)];rw[Qa2 Y]at k;refine Y1 ?_;exact⟨_,U,k H2 (F.trans J)⟩
 rw[Qaq (λz=>Y (by injection z))];rw[Qax Y]at k;exact ZI ⟨_,U,p,_,1,_,U,U,SqL.of pr,ZC 1 rfl (l2 (Zer y hy G (λz=>by grind))),_,U,p,_,0,_,U,U,SqL.of pr,ZC 0 rfl O,_,U,_,_,_,U,k H2 (F.trans J)⟩
inductive JJ(K:Af):Prop
 |mk(a:Aw)(ns:Ak)(st many:Nat):vs=[.ref a,.int st,.int many]->SqL K H a (ns.map V.int)->ns.length<=63->st<=10->many<=3->(∀p (ms:Ai) H',H' p=some (.lst (ms.map V.str))->ms.Nodup->ms.length<=many->(∀y∈ms,NmS y)->ZG H H'->Q (.ref p) H')->JJ K
def wo(K:Af):Sp:=λvs H Q _=>JJ vs H Q K
theorem wq:FnD T.fk P w base 2 (wo K):=by
 have F:=gG P base T TB XB;have e:=W9 P base T TB XB;refine T.fk.go Jn ?_;rintro cdv A outer s H _ Q E hr ⟨a,ns,st,G,rfl,hS,Y,hst,hm,k⟩;have hu:=qU hr;refine⟨_,(Zb (Zw 3 Jn.nd JS)
   (Zb (Yu Qbd U (YG U T.ay (Zi (qv 2) Zd)) (YE 4 Jn.nd)
   (Ze (JT hu (qv 3) (Zo T.gb F hr (Zi (Zo T.bp e hr (Zi (qv 0) (Zi (Zs YB (qv 1) (qv 4)) Zd))) Zd)) Y2 U)))
   (Ze (Zn (Zr (ko U) (by rfl) T.il xE (Zi (qv 3) Zd)))))),?_⟩
 refineλd hd=>Zg ?_;have s1:=Zc (o:=.dK []) hd;have hd1:upd H d (.dK []) d=some (.dK []):=Za;refine⟨_,U,(G:Int),U,by lia,by lia,Xz (λi σ H'=>∃(u4:Option V)(kvs:A0)(S:Ai),σ=[some (.ref a),some (.int st),some (.int G),some (.ref d),u4]/\H' d=some (.dK kvs)/\kvs.map (·.1)=S.map Sum.inr/\S.Nodup/\S.length<=i/\(∀y∈S,NmS y)/\ZG H H') ⟨none,[],[],U,hd1,U,Qcj,Qaj _,(λ_ z=>nomatch z),s1⟩ ?_ ?_⟩
 .rintro i σ H2 hi ⟨u4,kvs,S,rfl,I,J,hnd,hl,Z,O⟩;refine⟨_,U,_,U,_,U,_,U,_,_,U,U,a,ns,st+i,?_,yQ hS O,Y,by lia,λr H3 r0 r1 s3=>⟨r,U,r0,r1,λy H4 Ua s4=>⟨d,_,U,Zc3.k (k:=.inr y) (s4 _ _ (s3 _ _ I)) ?_,?_⟩⟩⟩
  .grind
  .have:=congrArg List.length J;rw[Qab,Qab]at this;exact Z2 (by lia)
  .obtain⟨S',g1,g2,g3,g4⟩:=Znr (v:=.bl true) J hnd y;refine⟨_,_,S',U,Za,g1,g2,by lia,λz hz=>?_,Yj (O.trans (s3.trans s4)) hd⟩;rcases g4 z hz with h|h
   .exact Z z h
   .rw[h];exact Ua
 .rintro σ H2 ⟨u4,kvs,S,rfl,I,J,hnd,hl,Z,O⟩;exact⟨_,U,d,kvs,S,U,.inl I,J,by lia,λl ms hl2 hp hs=>k l ms _ Za (hp.nodup_iff.mpr hnd) (by rw[hp.length_eq];exact hl) (λy Ua=>Z y (hp.mem_iff.mp Ua)) (O.trans (Zc hl2))⟩
inductive X6:Prop
 |mk(r rm:Int)(f:Aw)(l0 l1:Int):vs=[.int r,.int rm,.ref f]->0<=r->0<=rm->H f=some (.lst [.int l0,.int l1])->0<=l1->(∀(y:Str) (l1':Int) H',y∈Z6->((lpS y).length:Int)<=rm->l1'+Ziv y jW=l1->0<=l1'->H' f=some (.lst [.int l0,.int l1'])->SmL f H H'->Q (.str y) H')->X6
theorem q8:FnD T.cb P w base 2 (spQ X6):=by
 have e:=XO P base T TB XB;refine T.cb.go Z9 ?_;rintro cdv A outer s H _ Q E hr ⟨r,Z,f,l0,l1,rfl,hr0,hrm,hf,hl1,k⟩;refine⟨_,(Zb (Zw 3 Z9.nd (ZP (Zi Zk (Zi Zk (Zi Zk (Zi Zk (Zi Zk (Zi Zk (Zi Zk (Zi Zk (Zi Zk (Zi Zk Zd))))))))))))
   (Zb (Zw 3 Z9.nd (Zs Zjp (qv 3) (ZP (Zi Zk (Zi Zk (Zi Zk (Zi Zk (Zi Zk (Zi Zk Zd)))))))))
   (Zb (Zw 4 Z9.nd (Z0 Zz (qv 3) (Zs Yb (qv 0) Zf)))
   (Zb (Zw 5 Z9.nd (Yt Yo (qv 4) (Yf (Zi Zk (Zi Zk (Zi Zk (Zi Zk (Zi Zk Zd)))))) (by with_unfolding_all rfl)))
   (Zb (Z8 (JQ (vE (Zq Zb7 (Zr Zy (by rfl) T.ak Yr (Zi (Zo T.bc e hr (Zi (qv 4) Zd)) Zd)) (qv 1) (Zx _)) (xI (JQ (qC (Y6 (qv 5)) (WT (Zq Yl (Z0 Zz (qv 2) Zf) Zf (Zx _))))))))
   (Zb (Zw 4 Z9.nd Zk)
   (Zb (Zw 5 Z9.nd Y2)
   (Ze (Z8 (JQ (qC (Zq Zb7 (qv 1) Zf (Zx _)) (WT (Zq Zb7 (Z0 Zz (qv 2) Zf) Zf (Zx _)))))
   (Zb (Zw 4 Z9.nd (Z0 Zz (ZP (Zi Zk (Zi Zk Zd))) (Zs Yb (Zs Ye (qv 0) Zf) Zf)))
   (Ze (Zw 5 Z9.nd Y2))) Zu)))) Zu)
   (Zb (Zcr (Zs WA (Z0 Zz (qv 2) Zf) (Z3 vo (by rfl) T.ic j5 (Zi (qv 5) Zd))) (Zju (qv 2) Zf set_list))
   (Ze (Zn (qv 4))))))))),?_⟩
 try dsimp only[L2.cxK,L2.cxK2]
 refine⟨zln10,λm1 hm1=>?_⟩;refine⟨_,U,zln6,λm2 Y=>⟨m1,m2,_,_,U,U,Zc Y _ _ Za,Za,zln16,λm hm=>?_⟩⟩;have s1:=((Zc (o:=.lst [.str "same",.str "same",.str "under",.str "under",.str "beneath",.str "sign",.str "nought",.str "nought",.str "both",.str "both"]) hm1).trans (Zc (o:=.lst [.str "either",.str "either",.str "so",.str "never",.str "never",.str "yes"]) Y)).trans (Zc (o:=.lst (Zbe.map V.str)) hm);obtain⟨y,hy,ey⟩:=zP (l:=Zbe) (i:=r%16) (Qb3 _ (by decide)) (Qbt _ (by decide));have G:=Ziw y hy;refine⟨_,U,_,U,_,_,U,U,(by show(0:Int)<16;decide),m,_,_,_,U,U,SqL.of (Za (o:=.lst (Zbe.map V.str))),ey,Zg ?_⟩;show ZX _ _ _ _ (upd _ m (.lst (Zbe.map V.str)));generalize upd (upd (upd H m1 (.lst [.str "same",.str "same",.str "under",.str "under",.str "beneath",.str "sign",.str "nought",.str "nought",.str "both",.str "both"])) m2 (.lst [.str "either",.str "either",.str "so",.str "never",.str "never",.str "yes"])) m (.lst (Zbe.map V.str))=H1 at *;refine⟨_,U,zln5,λq1 hq1=>⟨q1,_,U,.inr (SqT.of Za),U,U,Zg ?_⟩⟩;rw[show inV (.str y) [V.str "same",V.str "under",V.str "beneath",V.str "sign",V.str "nought"]=decide (y∈jW)from ZD y jW];have Ua:=s1.trans (Zc (o:=.tup [V.str "same",V.str "under",V.str "beneath",V.str "sign",V.str "nought"]) hq1);generalize upd H1 q1 (.tup [V.str "same",V.str "under",V.str "beneath",V.str "sign",V.str "nought"])=H2 at *;refine yC (λσ H'=>∃(I:Str)(jb:Bool),σ=[some (.int r),some (.int Z),some (.ref f),some (.ref m),some (.str I),some (.bl jb)]/\jb=decide (I∈jW)/\I∈Z6/\((lpS I).length:Int)<=Z/\(I∈jW->1<=l1)/\ZG H H') (λN hN=>?_) ?_
 .refine⟨_,U,.str y,U,.inl ⟨y,U⟩,λp H3 hp0 hp F=>⟨p,_,U,.inl (SqL.of hp),_,U,_,_,U,U,_,U,qV (λc=>?a) (λc=>⟨_,U,_,U,qV (λc2=>⟨_,U,f,_,1,_,U,U,SqL.of ((Ua.trans F) _ _ hf),U,U,_,U,qV (λc3=>?b) (λc3=>?c)⟩) (λc2=>?d)⟩)⟩⟩
  case c=>
   refine hN _ _ ⟨y,_,U,U,G,?_,λ_=>?_,Ua.trans F⟩
   .have:=λz=>c (Qan z)
    rw[Qab]at this;exact Int.not_lt.mp this
   .have:¬l1=0:=λz=>c3 (Qan (by rw[z]))
    lia
  case d=>
   refine hN _ _ ⟨y,_,U,U,G,?_,λz=>absurd (Qan z) c2,Ua.trans F⟩;have:=λz=>c (Qan z);rw[Qab]at this;exact Int.not_lt.mp this
  all_goals
   have J:=(Ua.trans F) _ _ hf;have O:N [some (.int r),some (.int Z),some (.ref f),some (.ref m),some (.str "yes"),some (.bl false)] H3:=hN _ _ ⟨"yes",false,U,by decide +kernel,by decide +kernel,by show((0:Nat):Int)<=Z;lia,λz=>absurd z (by decide +kernel),Ua.trans F⟩;try refine Y1 ?_
   refine Zg ?_;refine Zg ?_;refine⟨_,U,_,_,U,U,_,U,qV (λe1=>⟨_,U,f,_,1,_,U,U,SqL.of J,U,_,_,U,U,_,U,qV (λe2=>?_) (λe2=>O)⟩) (λe1=>O)⟩;obtain⟨y2,hy2,ey2⟩:=zP (l:=["sign","nought"]) (i:=r/16%2) (Qb3 _ (by decide)) (Qbt _ (by decide));have f2:y2∈Z6/\(lpS y2).length=1/\y2∈jW:=(by decide +kernel:∀y∈(["sign","nought"]:Ai),y∈Z6/\(lpS y).length=1/\y∈jW) y2 hy2;have g1:=Qbb e1;have g2:=Qbb e2;exact⟨ya,λl hl=>⟨_,U,_,_,U,U,.of (by decide) (by decide),_,_,U,U,(by show(0:Int)<2;decide),l,_,_,_,U,U,SqL.of Za,ey2,Zg (Zg (hN _ _ ⟨y2,true,U,(Qan f2.2.2).symm,f2.1,by rw[f2.2.1];show(1:Int)<=Z;lia,λ_=>by lia,(Ua.trans F).trans (Zc hl)⟩))⟩⟩
 .rintro σ H3 ⟨I,jb,rfl,rfl,G,hlen,hj,F⟩;have J:=F _ _ hf;refine⟨_,U,f,_,1,_,U,U,SqL.of J,U,_,U,.inr ⟨_,U,_,_,U,U,_,U,f,_,1,1,U,U,J,U,?_⟩⟩;refine⟨_,U,k I _ _ G hlen ?_ ?_ Za (SmL.of F).put⟩
  .unfold Ziv
   by_cases h:I∈jW
   .rw[Qa2 h,Qa2 (Qan h)];lia
   .rw[Qax h,Qax (λz=>h (Qbb z))];lia
  .by_cases h:I∈jW
   .rw[Qa2 (Qan h)];have:=hj h;lia
   .rw[Qax (λz=>h (Qbb z))];lia
inductive Wl:Prop
 |mk(r rm:Int)(f pn:Aw)(l0 l1 tp:Int)(nm:Ai):vs=[.int r,.int rm,.ref f,.ref pn,.int tp]->0<=r->0<=rm->H f=some (.lst [.int l0,.int l1])->0<=l0->H pn=some (.lst (nm.map V.str))->nm.length<=3->1<=tp->tp<=1000->(∀(w:V) (l0':Int) H',((∃y,w=.str y/\y∈G7/\((lpS y).length:Int)<=rm/\l0'+Ziv y jd=l0)\/(∃y,w=.str y/\y∈nm/\l0'=l0)\/∃z:Int,w=.int z/\0<=z/\z<1000/\l0'=l0)->0<=l0'->H' f=some (.lst [.int l0',.int l1])->SmL f H H'->Q w H')->Wl
theorem jc:FnD T.dh P w base 2 (spQ Wl):=by
 have F:=XO P base T TB XB;refine T.dh.go Yz ?_;rintro cdv A outer s H _ Q E hr ⟨r,rm,f,pn,l0,l1,Ua,nm,rfl,hr0,hrm,hf,hl0,hn,hn3,ht1,ht2,k⟩;refine⟨_,(Zb (Zw 5 Yz.nd (ZP (Zi Zk (Zi Zk (Zi Zk (Zi Zk (Zi Zk (Zi Zk (Zi Zk (Zi Zk (Zi Zk (Zi Zk (Zi Zk Zd)))))))))))))
   (Zb (Z8 (Zq Zae (Zs Yb (qv 0) Zf) Zf (Zx _))
   (Zb (Zw 6 Yz.nd (Z0 Zz (qv 5) (Zs Yb (qv 0) Zf)))
   (Zb (Zw 7 Yz.nd (Yt Yo (qv 6) (Yf (Zi Zk (Zi Zk (Zi Zk (Zi Zk (Zi Zk Zd)))))) (by with_unfolding_all rfl)))
   (Ze (Z8 (JQ (qC (Zq Zoa (Zr Zy (by rfl) T.ak Yr (Zi (Zo T.bc F hr (Zi (qv 6) Zd)) Zd)) (qv 1) (Zx _)) (WT (JQ (vE (vF (Y6 (qv 7))) (xI (Zq Zb7 (Z0 Zz (qv 2) Zf) Zf (Zx _))))))))
   (Zb (Zcr (Zs WA (Z0 Zz (qv 2) Zf) (Z3 vo (by rfl) T.ic j5 (Zi (qv 7) Zd))) (Zju (qv 2) Zf set_list))
   (Ze (Zn (qv 6)))) Zu)))) Zu)
   (Zb (Zw 0 Yz.nd (Zs Ye (qv 0) Zf))
   (Zb (Z8 (JQ (qC (Zq (Zdf (yk hr)) (qv 3) (ZP Zd) (Zx _)) (WT (Zq Zae (Zs Yb (qv 0) Zf) Zf (Zx _)))))
   (Ze (Zn (Z0 Zz (qv 3) (Zs Yb (Zs Ye (qv 0) Zf) (Zr Zy (by rfl) T.ak Yr (Zi (qv 3) Zd)))))) Zu)
   (Ze (Zn (Z0 Zz (ZP (Zi (Zs Yb (Zs Ye (qv 0) Zf) Zf) (Zi (Zs Yb (Zs Ye (qv 0) Zf) (qv 4)) Zd))) (Zs Yb (Zs Ye (qv 0) Zf) Zf)))))))),?_⟩
 try dsimp only[L2.cxK,L2.cxK2]
 refine L2.let5 ?_;intro U4 U3 U2 U1;refine⟨zln11,λm hm=>Zg ?_⟩;have s1:=Zc (o:=.lst (g9.map V.str)) hm;show ZX _ _ _ _ (upd H m (.lst (g9.map V.str)));have hm1:upd H m (.lst (g9.map V.str)) m=some (.lst (g9.map V.str)):=Za;generalize upd H m (.lst (g9.map V.str))=H1 at *;have hf1:=s1 _ _ hf;refine yC (λσ H'=>∃u6 u7,σ=[some (.int r),some (.int rm),some (.ref f),some (.ref pn),some (.int Ua),some (.ref m),u6,u7]/\ZG H H') (λN hN=>?_) ?_
 .refine⟨_,U,_,_,U,U,(by show(0:Int)<16;decide),_,_,U,U,_,U,qV (λc=>?_) (λc=>hN _ _ ⟨_,_,U,s1⟩)⟩;have c:=Qbb c;obtain⟨y,hy,ey⟩:=zP (l:=g9) (i:=r%16) (Qb3 _ (by decide)) c;obtain⟨hyc,I⟩:=Zix y hy;refine⟨_,U,_,U,_,_,U,U,(by show(0:Int)<16;decide),m,_,_,_,U,U,SqL.of hm1,ey,Zg ?_⟩;refine⟨_,U,zln5,λq1 hq1=>⟨q1,_,U,.inr (SqT.of Za),U,U,Zg ?_⟩⟩;rw[show inV (.str y) [V.str "add",V.str "sub",V.str "neg",V.str "twice",V.str "low"]=decide (y∈(["add","sub","neg","twice","low"]:Ai))from ZD y ["add","sub","neg","twice","low"]];have J:=s1.trans (Zc (o:=.tup [V.str "add",V.str "sub",V.str "neg",V.str "twice",V.str "low"]) hq1);generalize upd H1 q1 (.tup [V.str "add",V.str "sub",V.str "neg",V.str "twice",V.str "low"])=H2 at *;refine⟨_,U,.str y,U,.inl ⟨y,U⟩,λp H3 hp0 hp G=>⟨p,_,U,.inl (SqL.of hp),_,U,_,_,U,U,_,U,qV (λc1=>⟨_,U,_,U,qV (λc2=>?a) (λc2=>?b)⟩) (λc1=>hN _ _ ⟨_,_,U,J.trans G⟩)⟩⟩
  case' a=>
   refine Y1 ?_;have hz:y∈jd->1<=l0:=λh=>by
    have c2:(!decide (y∈(["add","sub","neg","twice","low"]:Ai)))=true:=c2;rw[Qan (I.mpr h)]at c2;cases c2
  case' b=>
   refine⟨_,U,f,_,0,_,U,U,SqL.of ((J.trans G) _ _ hf),U,_,_,U,U,_,U,qV (λc3=>?_) (λc3=>hN _ _ ⟨_,_,U,J.trans G⟩)⟩;have hz:y∈jd->1<=l0:=λ_=>by have:=Qbb c3;lia
  all_goals
   have hf3:=(J.trans G) _ _ hf;have hlen:((lpS y).length:Int)<=rm:=by
    have:=Qbb c1;rw[Qab]at this;exact this
   refine⟨_,U,f,_,0,_,U,U,SqL.of hf3,U,_,U,.inr ⟨_,U,_,_,U,U,_,U,f,_,0,0,U,U,hf3,U,_,U,k (.str y) _ _ (.inl ⟨y,U,hyc,hlen,?_⟩) ?_ Za (SmL.of (J.trans G)).put⟩⟩
   .show l0-(if decide (y∈(["add","sub","neg","twice","low"]:Ai))=true then 1 else 0)+Ziv y jd=l0;unfold Ziv
    by_cases h:y∈jd
    .rw[Qa2 h,Qa2 (Qan (I.mpr h))];lia
    .rw[Qax h,Qax (λz=>h (I.mp (Qbb z)))];lia
   .show 0<=l0-(if decide (y∈(["add","sub","neg","twice","low"]:Ai))=true then 1 else 0)
    by_cases h:y∈jd
    .rw[Qa2 (Qan (I.mpr h))];have:=hz h;lia
    .rw[Qax (λz=>h (I.mp (Qbb z)))];lia
 .rintro σ H2 ⟨u6,u7,rfl,J⟩;have hf2:=J _ _ hf;have hn2:=J _ _ hn;refine⟨_,U,_,_,U,U,.of (by decide) (by decide),Zg ?_⟩;have q0:0<=r/16:=by lia
  try dsimp only
  generalize r/16=q at *;have Y:∀H3,ZG H H3->U4 {nx:=λ_ H'=>Q .non H',rt:=Q} [some (.int q),some (.int rm),some (.ref f),some (.ref pn),some (.int Ua),some (.ref m),u6,u7] H3:=λH3 G=>by
   obtain⟨z,ez,z0,z1⟩:∃z:Int,atI [V.int (q/8%3),V.int (q/8%Ua)] (q/4%2)=some (.int z)/\0<=z/\z<1000:=by
    have t0:0<=q/8%Ua:=Qb3 _ (by lia);have t1:q/8%Ua<Ua:=Qbt _ (by lia);rcases(by lia:q/4%2=0\/q/4%2=1)with e|e<;>rw[e]
    .exact⟨q/8%3,U,by lia,by lia⟩
    .exact⟨q/8%Ua,U,t0,by lia⟩
   exact⟨_,U,_,_,U,U,.of (by decide) (by decide),_,_,U,U,(by show(0:Int)<3;decide),_,U,_,_,U,U,.of (by decide) (by decide),_,U,_,_,U,U,(by show(0:Int)<Ua;lia),ya,λl hl=>⟨_,U,_,_,U,U,.of (by decide) (by decide),_,_,U,U,(by show(0:Int)<2;decide),l,_,_,_,U,U,SqL.of Za,ez,k (.int z) l0 _ (.inr (.inr ⟨z,U,z0,z1,U⟩)) hl0 ((G.trans (Zc hl)) _ _ hf) (SmL.of (G.trans (Zc hl)))⟩⟩
  refine⟨_,U,Zgr,λe he=>⟨pn,e,_,_,U,U,SqL.of (Zc he _ _ hn2),SqL.of Za,Qcp.mpr λv hv=>(by obtain⟨y,_,rfl⟩:=Qau.mp hv;rfl),U,_,U,?_⟩⟩;have G:=J.trans (Zc (o:=.lst []) he);cases nm with
  |nil=>exact Y _ G
  |cons y0 rest=>
   refine Y1 ⟨_,U,_,_,U,U,(by show(0:Int)<4;decide),_,_,U,U,_,U,qV (λc=>?_) (λc=>Y _ G)⟩;have Z:(0:Int)<((y0::rest).length:Int):=by rw[Qbj];lia
   obtain⟨y,hy,ey⟩:=zP (l:=y0::rest) (i:=q/4%((y0::rest).length:Int)) (Qb3 _ (by lia)) (Qbt _ Z);have O:=G _ _ hn;rw[<-Qab V.str]at ey Z;exact⟨_,U,_,U,_,_,U,U,.of (by decide) (by decide),_,U,pn,_,U,.inl (SqL.of O),_,_,U,U,Z,pn,_,_,_,U,U,SqL.of O,ey,k (.str y) l0 _ (.inr (.inl ⟨y,U,hy,U⟩)) hl0 (G _ _ hf) (SmL.of G)⟩
inductive GU:Prop
 |mk(tw dv:Aw)(W:Nat)(ys:Ai)(ws:A2)(kvs:A0)(ρ:Str->Int)(b:Bool):vs=[.ref tw,.int (2^W),.ref dv]->1<=W->W<=64->H tw=some (.tup ws)->ws.length<=100->H dv=some (.dK kvs)->Zet kvs ys ρ->(∀y∈ys,0<=ρ y/\ρ y<2^W)->(∀y∈ys,y∉ZN)->TyR ys ws [true]->Gg (2^W) ρ ws []=[.bl b]->(∀H',ZG H H'->Q (.bl b) H')->GU
theorem gJ:FnD T.ia P w base 2 (spQ GU):=by
 have Ua:=XO P base T TB XB;have O:=vi P base T TB XB;have J:=vj P base T TB XB;refine T.ia.go Xd ?_;rintro cdv A outer s H _ Q E hr ⟨tw,dv,W,ys,G,kvs,ρ,b,rfl,hW1,hW,ht,hl,hd,hc,hρ,hyk,hty,hrun,k⟩;have hu:=qU hr;refine⟨_,(Zb (Zw 3 Xd.nd (ZP Zd))
   (Zb (Yu Qbd U (XC (qe_rev rv_tup (qv 0) (WS J5 Zf))) (YE 4 Xd.nd)
   (Ze (Z8 (Y6 (Zr XA (by rfl) T.ai ZJ (Zi (qv 4) (Zi (Ws (v:=.ty "int") (by rfl) T.ic j5 U) Zd))))
   (Ze (Yc (Y7 Qap Qaz Qa0 ZH (qv 3) (Zi (Zs Yb (qv 4) (qv 1)) Zd)))) (Ze (Z8 (Zq (qa hu) (qv 4) (qv 2) (by with_unfolding_all rfl))
   (Ze (Yc (Y7 Qap Qaz Qa0 ZH (qv 3) (Zi (JR hu (qv 2) (qv 4) (λ_ _=>U)) Zd)))) (Ze (Z8 (Zq Yl (qv 4) Zk (Zx _))
   (Ze (Yc (Y7 Qap Qaz Qa0 ZH (qv 3) (Zi Y2 Zd)))) (Ze (Z8 (Zq Yl (qv 4) Zk (Zx _))
   (Zb (Zw 5 Xd.nd (WU Qap Qcm Qcn Gj (qv 3)))
   (Zb (Zw 6 Xd.nd (WU Qap Qcm Qcn Gj (qv 3)))
   (Ze (Yc (Y7 Qap Qaz Qa0 ZH (qv 3) (Zi (Zs je (Zs YT (qv 5) (qv 6)) (Zs YT (Zs WA (Zs WA (qv 1) Zf) (qv 5)) (WU Qap Qcm Qcn Gj (qv 3)))) Zd)))))) (Ze (Z8 (Zq Yl (Zr Zy (by rfl) T.ak Yr (Zi (Zo T.bc Ua hr (Zi (qv 4) Zd)) Zd)) Zf (Zx _))
   (Ze (Yc (Y7 Qap Qaz Qa0 ZH (qv 3) (Zi (Zo T.eh O hr (Zi (qv 4) (Zi (WU Qap Qcm Qcn Gj (qv 3)) (Zi (qv 1) Zd)))) Zd)))) (Zb (Zw 5 Xd.nd (WU Qap Qcm Qcn Gj (qv 3)))
   (Ze (Yc (Y7 Qap Qaz Qa0 ZH (qv 3) (Zi (Zo T.et J hr (Zi (qv 4) (Zi (qv 5) (Zi (WU Qap Qcm Qcn Gj (qv 3)) (Zi (qv 1) Zd))))) Zd))))))))))))))))
   (Ze (Zn (Z0 Zz (qv 3) Zf))))),?_⟩
 try dsimp only[L2.cxK,L2.cxK2]
 have hp:=J2 W;refine⟨Zgr,λst I=>Zg ?_⟩;have s1:=Zc (o:=.lst []) I;refine⟨_,U,1,U,U,tw,_,U,SqT.of (s1 _ _ ht),λtr htr=>⟨_,U,⟨_,SqT.of Za⟩,?_⟩⟩;have s2:=s1.trans (Zc (o:=.tup G.reverse) htr);have htr2:upd (upd H st (.lst [])) tr (.tup G.reverse) tr=some (.tup G.reverse):=Za;have hst2:upd (upd H st (.lst [])) tr (.tup G.reverse) st=some (.lst []):=Zc htr _ _ Za;have Z:tr≠st:=λz=>by rw[z,Za]at htr;cases htr
 generalize upd (upd H st (.lst [])) tr (.tup G.reverse)=H0 at *;refine yf (K:=K) (a:=tr) (xs:=G.reverse) (λi σ H2=>∃u5 u6 u7,σ=[some (.ref tw),some (.int (2^W)),some (.ref dv),some (.ref st),u5,u6,u7]/\i<=G.length/\H2 st=some (.lst (Gg (2^W) ρ (G.drop (G.length-i)) []).reverse)/\H2 tr=some (.tup G.reverse)/\ZG H H2) ⟨none,none,none,U,Qbl _,?_,htr2,s2⟩ (λi σ H2 _ ⟨_,_,_,_,_,_,e,_⟩=>SqT.of e) ?_ ?_
 .rw[Nat.sub_zero,Qe3];exact hst2
 .rintro i x σ H2 hx ⟨u5,u6,u7,rfl,hi0,F,Y,s3⟩;obtain⟨hi,hx⟩:=Zj8 hx;have ed:G.drop (G.length-(i+1))=x::G.drop (G.length-i):=by
   rw[show G.length-(i+1)=G.length-1-i by lia,Qb5 (by lia),show G.length-1-i+1=G.length-i by lia];congr 1;exact(Qae.mp hx).2
  obtain⟨ks,hk⟩:=hty.drop (G.length-(i+1));rw[ed]at hk ⊢;have hle:(G.drop (G.length-i)).length<=100:=by rw[Qdr];lia
  generalize G.drop (G.length-i)=r at *;rw[Xi];have hsk:(Gg (2^W) ρ r []).length<=100:=by
   rw[yS];exact Qa9 (gk r) hle
  have fin:∀(v:V)(Hx:Hp)(l:A2),l.length<=100->Hx st=some (.lst l.reverse)->Hx tr=some (.tup G.reverse)->ZG H Hx->l.reverse.length<sizeLine/\upd Hx st (.lst (l.reverse++[v])) st=some (.lst (v::l).reverse)/\upd Hx st (.lst (l.reverse++[v])) tr=some (.tup G.reverse)/\ZG H (upd Hx st (.lst (l.reverse++[v]))):=λv Hx l hl' e1 e2 sx=>by
   refine⟨?_,by rw[Za,Qcx],by rw[Zj Z];exact e2,Yj sx I⟩;rw[Qc6];exact Z2 (by lia)
  obtain⟨R0,h0⟩:∃R0,Gg (2^W) ρ r []=R0:=⟨_,U⟩;rw[h0]at F hsk ⊢;generalize h1:cvV (2^W) ρ x (R0.take (npw x))::R0.drop (npw x)=R1;have hd2:=s3 _ _ hd;rcases Zno hW1 hyk hρ hk h0 h1 with⟨z,rfl,rfl⟩|⟨y,rfl,hy,rfl⟩|⟨y,rfl,hny,hc4⟩
  .obtain⟨f1,f2,f3,f4⟩:=fin (.int (z%2^W)) H2 R0 hsk F Y s3;exact⟨_,U,_,_,_,_,U,.int z,Wr,_,U,Y1 ⟨_,U,.inl ⟨U,_,SqL.of F⟩,_,U,_,U,_,_,U,U,hp,st,_,_,U,U,F,f1,_,_,_,U,hi,f2,f3,f4⟩⟩
  .refine⟨_,U,_,_,_,_,U,.str y,X0,_,U,ZI ⟨_,U,_,U,dv,Ym kvs (.inr y),U,.inl ⟨kvs,.inr y,.inl hd2,U,U⟩,_,U,?_⟩⟩;show if(Ym kvs (.inr y)).isSome=true then _ else _;rw[hc.1 y hy];obtain⟨f1,f2,f3,f4⟩:=fin (.int (ρ y)) H2 R0 hsk F Y s3;exact Y1 ⟨_,U,.inl ⟨U,_,SqL.of F⟩,_,U,_,U,dv,_,U,.inl ⟨kvs,.inr y,.inl hd2,U,(hc.1 y hy).symm⟩,st,_,_,U,U,F,f1,_,_,_,U,hi,f2,f3,f4⟩
  .refine⟨_,U,_,_,_,_,U,.str y,X0,_,U,ZI ⟨_,U,_,U,dv,Ym kvs (.inr y),U,.inl ⟨kvs,.inr y,.inl hd2,U,U⟩,_,U,?_⟩⟩;show if(Ym kvs (.inr y)).isSome=true then _ else _;rw[hc.2 y hny];refine ZI ⟨_,U,U,_,U,?_⟩;rcases hc4 with⟨rfl,rfl⟩|⟨rfl,a,b,c,l,rfl,⟨ha,hb,hcc⟩,rfl⟩|⟨n0,n1,k1,v,r',l,rfl,o1,rfl⟩|⟨n0,n1,k1,v,u,r',l,rfl,o1,rfl⟩
   .obtain⟨f1,f2,f3,f4⟩:=fin (.bl true) H2 R0 hsk F Y s3;exact Y1 ⟨_,U,.inl ⟨U,_,SqL.of F⟩,st,_,_,U,U,F,f1,_,_,_,U,hi,f2,f3,f4⟩
   .refine ZI ⟨_,U,U,_,U,Y1 ?_⟩;have hpa:=Zn0 F;refine⟨_,U,.inl ⟨U,_,SqL.of hpa⟩,st,_,_,U,U,hpa,Xh _ _,Zg ?_⟩;rw[Qc1];have s6:=Yj (o:=.lst ((V.int b::V.int c::l).reverse)) s3 I;have h4s:upd H2 st (.lst ((V.int b::V.int c::l).reverse)) st=some (.lst ((V.int b::V.int c::l).reverse)):=Za;have h4t:upd H2 st (.lst ((V.int b::V.int c::l).reverse)) tr=some (.tup G.reverse):=by rw[Zj Z];exact Y
    show ZX _ _ _ _ (upd H2 st (.lst ((V.int b::V.int c::l).reverse)));generalize upd H2 st (.lst ((V.int b::V.int c::l).reverse))=H4 at *;have hpb:=Zn0 h4s;refine⟨_,U,.inl ⟨U,_,SqL.of hpb⟩,st,_,_,U,U,hpb,Xh _ _,Zg ?_⟩;rw[Qc1];have s7:=Yj (o:=.lst (V.int c::l).reverse) s6 I;have h5s:upd H4 st (.lst (V.int c::l).reverse) st=some (.lst (V.int c::l).reverse):=Za;have h5t:upd H4 st (.lst (V.int c::l).reverse) tr=some (.tup G.reverse):=by rw[Zj Z];exact h4t
    generalize upd H4 st (.lst (V.int c::l).reverse)=H5 at *;have hpc:=Zn0 h5s;have hll:l.length<=100:=by simp only[Qbj]at hsk;lia
    refine⟨_,U,.inl ⟨U,_,SqL.of h5s⟩,_,U,_,U,_,_,U,U,_,U,_,_,U,U,_,U,_,_,U,U,_,U,.inl ⟨U,_,SqL.of hpc⟩,st,_,_,U,U,hpc,Xh _ _,_,_,U,U,_,_,U,U,?_⟩;rw[Qc1];try dsimp only
    rw[Zh4 ha.1 ha.2 hb.1 hb.2 hcc.1 hcc.2];obtain⟨f1,f2,f3,f4⟩:=fin (.int (Builtin.bitOr (Builtin.bitAnd a b) (Builtin.bitAnd (Builtin.bitNot a) c)%2^W)) (upd H5 st (.lst l.reverse)) l hll Za (by rw[Zj Z];exact h5t) (Yj s7 I);exact⟨st,_,_,U,U,Za,f1,_,_,_,U,hi,f2,f3,f4⟩
   .rw[Qaq λz=>n0 (by injection z)];refine ZI ⟨_,U,U,_,U,?_⟩;rw[Qaq λz=>n1 (by injection z)];refine ZI ⟨_,U,.str y,U,.inl ⟨y,U⟩,λp H3 hp0 hp3 sp=>⟨p,_,U,.inl (SqL.of hp3),U,_,U,?_⟩⟩;rw[show decide (V.int (((lpW (.str y)).map V.bl).length:Int)=V.int 1)=true from Qan (by rw[Qab];show V.int ((lpS y).length:Int)=_;rw[k1];rfl)];have h3s:=sp _ _ F;have h3t:=sp _ _ Y;have s4:=s3.trans sp;have hpop:=Zn0 h3s;refine Y1 ⟨_,U,.inl ⟨U,_,SqL.of h3s⟩,_,U,_,U,.inl ⟨U,_,SqL.of hpop⟩,st,_,_,U,U,hpop,Xh _ _,_,U,y,v,r',W,U,hW1,hW,o1,?_⟩;rw[Qc1];obtain⟨f1,f2,f3,f4⟩:=fin r' (upd H3 st (.lst l.reverse)) l (by simp only[Qbj]at hsk;lia) Za (by rw[Zj Z];exact h3t) (Yj s4 I);exact⟨st,_,_,U,U,Za,f1,_,_,_,U,hi,f2,f3,f4⟩
   .rw[Qaq λz=>n0 (by injection z)];refine ZI ⟨_,U,U,_,U,?_⟩;rw[Qaq λz=>n1 (by injection z)];refine ZI ⟨_,U,.str y,U,.inl ⟨y,U⟩,λp H3 hp0 hp3 sp=>⟨p,_,U,.inl (SqL.of hp3),U,_,U,?_⟩⟩;rw[show decide (V.int (((lpW (.str y)).map V.bl).length:Int)=V.int 1)=false from Qaq (λz=>k1 (by rw[Qab]at z;injection z with z;show(lpW (.str y)).length=1;lia))];have h3s:=sp _ _ F;have h3t:=sp _ _ Y;have s4:=s3.trans sp;have hpa:=Zn0 h3s;refine ZI ⟨_,U,.inl ⟨U,_,SqL.of hpa⟩,st,_,_,U,U,hpa,Xh _ _,Zg ?_⟩;rw[Qc1];have s6:=Yj (o:=.lst ((u::l).reverse)) s4 I;have h4s:upd H3 st (.lst ((u::l).reverse)) st=some (.lst ((u::l).reverse)):=Za;have h4t:upd H3 st (.lst ((u::l).reverse)) tr=some (.tup G.reverse):=by rw[Zj Z];exact h3t
    generalize upd H3 st (.lst ((u::l).reverse))=H4 at *;have hpb:=Zn0 h4s;refine⟨_,U,.inl ⟨U,_,SqL.of h4s⟩,_,U,_,U,_,U,.inl ⟨U,_,SqL.of hpb⟩,st,_,_,U,U,hpb,Xh _ _,_,U,y,v,u,r',W,U,hW1,hW,o1,λH6 s7=>?_⟩;rw[Qc1]at s7;have s8:=Yj (o:=.lst l.reverse) s6 I;obtain⟨f1,f2,f3,f4⟩:=fin r' H6 l (by simp only[Qbj]at hsk;lia) (s7 _ _ Za) (s7 _ _ (by rw[Zj Z];exact h4t)) (s8.trans s7);exact⟨st,_,_,U,U,s7 _ _ Za,f1,_,_,_,U,hi,f2,f3,f4⟩
 .rintro σ H2 ⟨u5,u6,u7,rfl,hi0,F,Y,s3⟩;rw[Qc6,Qfa,List.drop_zero,hrun]at F;exact⟨_,U,st,_,0,_,U,U,SqL.of F,U,k H2 s3⟩
inductive Xs:Prop
 |mk(m a:Aw)(nm:Ai)(b:Nat)(nx:Ad)(ot:Az)(n:Nat)(Ls:Ad)(kb:Nat)(v:V)(tr:Bool):vs=[.ref m,.ref a,.int kb,v]->M4 H m nm b nx ot->Runs nx ot n->b<nx.length->nx.length<=1000000->kR H a Ls->Ls≠[]->(∀L∈Ls,L.length<=1000/\∀l∈L,l<2^n)->Ls.length<=1000000->kb<=3->Xp tr v->(∀r∈ot,∀x∈r,Xp tr x)->(∀p H',H p=none->kR H' p (cho kb (lwb (mN nx) (mB ot v) kb (lys (mN nx) [b] Ls) Ls).1 Ls)->SmF H H'->Q (.ref p) H')->Xs
theorem GV:FnD T.bu P w base 3 (spQ Xs):=by
 have e:=J4 P base T TB XB;have G:=Gf P base T TB XB;have J:=xh P base T TB XB;refine T.bu.go Z4 ?_;rintro cdv A outer s H _ Q E hr ⟨m,a,nm,b,nx,ot,n,Ls,I,v,tr,rfl,M,R,hb,hN,hA,hne,hL,hw,hkb,hv,hk,k⟩;refine⟨_,(Zb (Zw 4 Z4.nd (Zo T.cf J hr (Zi (qv 0) (Zi (qv 1) Zd))))
   (Zb (Zw 5 Z4.nd (ZP Zd))
   (Zb (Zw 6 Z4.nd xH)
   (Zb (Yu Qbd U (Zmf U T.ay (Zi (Zs WA (Zr Zy (by rfl) T.ak Yr (Zi (qv 1) Zd)) Zf) (Zi (WS J5 Zf) (Zi (WS J5 Zf) Zd)))) (YE 7 Z4.nd)
   (Zb (Zw 8 Z4.nd (Zo T.bb G hr (Zi (Z0 Zz (qv 1) (qv 7)) (Zi (qv 2) (Zi Zf Zd)))))
   (Zb (Zw 9 Z4.nd (Zo T.ba e hr (Zi (qv 0) (Zi (Z0 Zz (qv 4) (qv 7)) (Zi (qv 8) (Zi (qv 6) (Zi (qv 3) Zd)))))))
   (Zb (Z8 (Zq Yl (Zr vP (by rfl) T.ak Yr (Zi (qv 9) Zd)) Zf (Zx _))
   (Zb (Zw 8 Z4.nd (Zo T.bb G hr (Zi (Z0 Zz (qv 1) (qv 7)) (Zi (qv 2) (Zi Zf Zd)))))
   (Ze (Zw 9 Z4.nd (Zo T.ba e hr (Zi (qv 0) (Zi (Z0 Zz (qv 4) (qv 7)) (Zi (qv 8) (Zi (qv 6) (Zi (qv 3) Zd))))))))) Zu)
   (Zb (Yc (Y7 Qap Qaz Qa0 ZH (qv 5) (Zi (qv 8) Zd)))
   (Ze (Zw 6 Z4.nd (qv 9))))))))
   (Zb (Yc (WU Qap PySem.F.slot_list_reverse PySem.F.type_list_reverse Zai (qv 5)))
   (Ze (Zn (qv 5)))))))),?_⟩
 try dsimp only[L2.cxK,L2.cxK2]
 have lyl:=g7 (nx:=mN nx) Ls [b];have lyok:=Zfx (nx:=mN nx) (N:=nx.length) (M:=2^n) (λs l hs hl=>R.mN hs hl) (Ls:=Ls) (S:=[b]) (Qbu.mpr ⟨Qbk,Qcj⟩) (λs hs=>by rw[Qat.mp hs];exact hb) (λL h=>(hL L h).2);refine⟨_,U,_,U,m,a,nm,b,nx,ot,n,Ls,U,M,R,hb,hN,hA,hne,hL,hw,λly H1 hly Ly s1=>Zg ⟨Zgr,λO hlf=>Zg (Zg ?_)⟩⟩;have s2:=s1.trans (SmF.of (Zc (o:=.lst []) hlf));have Y:=s1.free hlf;obtain⟨as,ha,hal,hat⟩:=hA.smf s2;have Ly2:=Ly.smf (SmF.of (Zc (o:=.lst []) hlf));have W0:jX (upd H1 O (.lst [])) .non (lwT (mN nx) (mB ot v) I [b] Ls Ls.length).2:=by rw[Zf0];exact .inl ⟨U,U⟩
 have T0:qL (upd H1 O (.lst [])) ([]:A2).reverse (cho I (lwT (mN nx) (mB ot v) I [b] Ls Ls.length).1 (Ls.drop Ls.length)):=by rw[Zf0];exact⟨U,λi C h=>nomatch h⟩
 have hlf2:upd H1 O (.lst []) O=some (.lst []):=Za;have M2:=M.smf s2;generalize upd H1 O (.lst [])=H2 at *;refine⟨_,U,a,as,U,.inl (SqL.of ha),_,_,U,U,_,U,_,U,as.length,U,by lia,Zhv (λi σ H'=>∃(zs:A2)(wv:V)(u7 u8 u9:Option V),σ=[some (.ref m),some (.ref a),some (.int I),some v,some (.ref ly),some (.ref O),some wv,u7,u8,u9]/\i<=Ls.length/\H' O=some (.lst zs)/\zs.length=i/\qL H' zs.reverse (cho I (lwT (mN nx) (mB ot v) I [b] Ls (Ls.length-i)).1 (Ls.drop (Ls.length-i)))/\jX H' wv (lwT (mN nx) (mB ot v) I [b] Ls (Ls.length-i)).2/\SmF H H'/\Zgq H' ly (lys (mN nx) [b] Ls)/\(∀b xs,H2 b=some (.tup xs)->H' b=some (.tup xs))/\H' a=some (.lst as)) ⟨[],.non,none,none,none,U,Qbl _,hlf2,U,T0,W0,s2,Ly2,λ_ _ z=>z,ha⟩ ?_ ?_⟩
 .rintro i σ H3 hi ⟨zs,wv,u7,u8,u9,rfl,hil,z1,z2,z3,z4,s3,Ly3,tp3,ha3⟩;rw[hal]at hi;obtain⟨j,hj⟩:∃j,Ls.length-i=j+1:=⟨Ls.length-i-1,by lia⟩;rw[hj]at z3 z4;have ep:(as.length:Int)-1-i=(j:Int):=by lia
  rw[ep];obtain⟨L,hLj⟩:∃L,Ls[j]?=some L:=⟨_,Qac (by lia)⟩;obtain⟨S,hSj⟩:∃S,(lys (mN nx) [b] Ls)[j]?=some S:=⟨_,Qac (by lia)⟩;obtain⟨hL1,hL2⟩:=hL L (Qam hLj);obtain⟨hS1,hS2⟩:=lyok S (Qam hSj);obtain⟨x0,hx0,htl⟩:=hat j L hLj;have htl3:=tp3 _ _ htl;have hst:=Zir (nx:=mN nx) (ok:=mB ot v) (k:=I) hSj hLj;have hSl:S.length<=1000000:=Qa9 (Zfy hS1 hS2) hN;have chl:∀w,(∀l∈chB I w L,l<2^n)/\(chB I w L).length<=1000:=λw=>⟨λl hl=>hL2 l (Wz.mp hl).1,Qa9 (Qda _ _) hL1⟩;refine Zg ⟨_,U,_,U,a,_,_,_,U,U,SqL.of ha3,Yn hx0,_,U,x0,L,I,0,U,htl3,hL1,hkb,λc0 H4 hc0 hc04 s4=>Zg ?_⟩;have s4':=SmF.of s4;have s34:=s3.trans s4';obtain⟨ys,hy1,hy2,hy3⟩:=Ly3.smf s4';obtain⟨dl,hdl,rdl⟩:=hy3 j S hSj;refine⟨_,U,_,U,_,U,ly,_,_,_,U,U,SqL.of hy1,Yn hdl,_,U,_,U,_,U,m,dl,c0,nm,b,nx,ot,n,S,chB I 0 L,_,wv,v,tr,U,M.smf s34,R,rdl,hS1,hS2,hSl,hc04,(chl 0).1,(chl 0).2,s4'.well z4,hv,hk,λg0 H5 hg0 hg5 s5=>Zg ?_⟩;have s45:=s4'.trans s5;have hc5:=s5.tup hc04;refine yC (λσ H'=>∃c g,σ=[some (.ref m),some (.ref a),some (.int I),some v,some (.ref ly),some (.ref O),some wv,some (.int j),some (.ref c),some (.ref g)]/\H' c=some (.tup ((chB I (kP (mN nx) (mB ot v) I (lwT (mN nx) (mB ot v) I [b] Ls (j+1)).2 S L) L).map Y9))/\H' g=some (.dK (twK (goB (mN nx) (mB ot v) (lwT (mN nx) (mB ot v) I [b] Ls (j+1)).2 S (chB I (kP (mN nx) (mB ot v) I (lwT (mN nx) (mB ot v) I [b] Ls (j+1)).2 S L) L))))/\SmF H3 H') (λN hN=>?_) ?_
  .refine⟨_,U,g0,_,U,.inl hg5,U,_,U,?_⟩;rw[zM]
   by_cases hz:goB (mN nx) (mB ot v) (lwT (mN nx) (mB ot v) I [b] Ls (j+1)).2 S (chB I 0 L)=[]
   .have ew:kP (mN nx) (mB ot v) I (lwT (mN nx) (mB ot v) I [b] Ls (j+1)).2 S L=1:=Qa2 hz;rw[ew]at hN;rw[hz,Qan (by rfl)];obtain⟨ys2,hz1,hz2,hz3⟩:=(Ly3.smf s4').smf s5;obtain⟨dl2,hdl2,rdl2⟩:=hz3 j S hSj;refine Y1 ⟨_,U,_,U,a,_,_,_,U,U,SqL.of (s45.lst ha3),Yn hx0,_,U,x0,L,I,1,U,s45.tup htl3,hL1,hkb,λc1 H6 hc1 hc16 s6=>Zg ?_⟩;have s6':=SmF.of s6;refine⟨_,U,_,U,_,U,ly,_,_,_,U,U,SqL.of (s6'.lst hz1),Yn hdl2,_,U,_,U,_,U,m,dl2,c1,nm,b,nx,ot,n,S,chB I 1 L,_,wv,v,tr,U,M.smf ((s34.trans s5).trans s6'),R,s6'.rd rdl2,hS1,hS2,hSl,hc16,(chl 1).1,(chl 1).2,(s45.trans s6').well z4,hv,hk,λg1 H7 hg1 hg7 s7=>Zg (hN _ _ ⟨c1,g1,U,s7.tup hc16,hg7,(s45.trans s6').trans s7⟩)⟩
   .have ew:kP (mN nx) (mB ot v) I (lwT (mN nx) (mB ot v) I [b] Ls (j+1)).2 S L=0:=Qax hz;rw[ew]at hN;rw[Qaq λq=>hz (Qcd (by injection q with q;lia))];exact ZI (hN _ _ ⟨c0,g0,U,hc5,hg5,s45⟩)
  .rintro σ H7 ⟨c,g,rfl,q1,q2,s7⟩;have z7:=s7.lst z1;have tp7:∀b xs,H3 b=some (.tup xs)->H7 b=some (.tup xs):=λb xs z=>s7.tup z;have tpu:∀b xs,H7 b=some (.tup xs)->upd H7 O (.lst (zs++[.ref c])) b=some (.tup xs):=λb xs z=>by rw[Zj (YQ z z7 λq=>nomatch q)];exact z
   have s37:=s3.trans s7;have hglf:g≠O:=λz=>by rw[z,z7]at q2;cases q2
   have hlyl:ly≠O:=λz=>by
    obtain⟨w0,Ua,hw1,_⟩:=Ly2;rw[z,hlf2]at Ua;cases Ua;have:(0:Nat)=(lys (mN nx) [b] Ls).length:=hw1;cases Ls with
    |nil=>exact hne U
    |cons _ _=>rw[lyl]at this;cases this
   have half:a≠O:=λz=>by
    obtain⟨w0,Ua,_⟩:=hA;rw[z,Y]at Ua;cases Ua
   refine⟨_,U,.inl ⟨U,_,SqL.of z7⟩,_,U,O,_,_,U,U,z7,Yv (by lia),_,U,Zg ⟨zs++[.ref c],.ref g,_,_,_,U,hi,Za,by rw[Qar,z2];rfl,?_,?_,s37.put Y,?_,λb xs z=>tpu _ _ (tp7 _ _ (tp3 _ _ z)),by rw[Zj half];exact s7.lst ha3⟩⟩
   .rw[show Ls.length-(i+1)=j by lia,hst,Zbd hLj,Qgl];exact((z3.smf tp7).smf tpu).cons (tpu _ _ q1)
   .rw[show Ls.length-(i+1)=j by lia,hst];exact .inr ⟨g,_,U,U,.inl (by rw[Zj hglf];exact q2)⟩
   .obtain⟨w0,Ua,hw1,hw2⟩:=Ly3.smf s7;refine⟨w0,by rw[Zj hlyl];exact Ua,hw1,λt S' ht=>?_⟩;obtain⟨a9,y1,Z⟩:=hw2 t S' ht;have ne9:a9≠O:=λz=>by
     subst z;rcases Z with Z|⟨_,Z⟩<;>rw[z7]at Z<;>cases Z
    refine⟨a9,y1,?_⟩;rcases Z with Z|⟨u,Z⟩
    .exact .inl (by rw[Zj ne9];exact Z)
    .exact .inr ⟨u,by rw[Zj ne9];exact Z⟩
 .rintro σ H3 ⟨zs,wv,u7,u8,u9,rfl,hil,z1,z2,z3,z4,s3,Ly3,tp3,ha3⟩;rw[hal,Qfa]at z3;refine⟨_,U,.inl ⟨U,_,SqL.of z1⟩,O,_,U,U,z1,_,U,k O _ Y ⟨_,Za,z3.1,λt C ht=>?_⟩ (s3.put Y)⟩;obtain⟨a9,y1,Z⟩:=z3.2 t C ht;exact⟨a9,y1,by rw[Zj (YQ Z z1 λq=>nomatch q)];exact Z⟩
inductive WL:Prop
 |mk(s:Aw)(stk:A2)(w:V):vs=[.ref s,w]->H s=some (.lst stk.reverse)->w=kV (keyOf w)->npw w<=stk.length->stk.length<=100->(∀pl H',H pl=none->H' pl=some (.lst (stk.take (npw w)))->H' s=some (.lst (stk.drop (npw w)).reverse)->(∀b o,H b=some o->b≠s->H' b=some o)->Q (.ref pl) H')->WL
theorem jz:FnD T.dy P w base 3 (spQ WL):=by
 have F:=gI P base T TB XB;refine T.dy.go jt ?_;rintro cdv A outer s H _ Q E hr ⟨st,G,x,rfl,hs,hx,hn,hl,k⟩;refine⟨_,(Ze (Zn (Y4 ({}:ZS (Zh Wy) _ ["stack","word"] "part" ["stack"] [0]) (YG U T.ay (Zi (Zo T.gi F hr (Zi (qv 1) Zd)) Zd)) (λ_ _ _ _=>Xo) (λ_ _ _ _=>(show QE _ _ (tBM0 K "list" rPop (vk 1))from(WU Qap Qcm Qcn Gj (qv 1))))))),?_⟩;refine⟨_,U,keyOf x,congrArg (λz=>[z]) hx,XE (keyOf x),U,?_,?_,j9 (n:=(XE (keyOf x)).toNat) (λi zs H2=>i<=npw x/\zs=G.take i/\H2 st=some (.lst (G.drop i).reverse)/\∀b o,H b=some o->b≠st->H2 b=some o) ⟨Qbl _,U,hs,λb o e _=>e⟩ ?_ ?_ ?_⟩
 .have:=zt (keyOf x);lia
 .have:=zt (keyOf x);lia
 .rintro i zs H2 ⟨_,rfl,_,_⟩;rw[Qbg];exact Qaw (Z2 (by lia))
 .rintro i zs H2 R hR hi ⟨hi1,rfl,h2,Z⟩;have hi2:i<npw x:=hi;have O:i<G.length:=by lia
  rw[Zmm O]at h2;refine⟨_,U,.inl ⟨U,_,SqL.of h2⟩,st,_,G[i],U,U,h2,Xh _ _,hR _ _ ⟨hi2,?_,?_,λb o e J=>?_⟩⟩
  .rw[take_snoc (Qac O)]
  .rw[Za,Qc1]
  .rw[Zj J];exact Z b o e J
 .rintro zs H2 ⟨hi1,rfl,h2,Z⟩ l I;have Ua:H l=none:=by
   cases q:H l with
   |none=>rfl
   |some o=>
    by_cases J:l=st
    .rw[J,h2]at I;cases I
    .grind
  have Y:st≠l:=Zm h2 I;refine k l _ Ua Za ?_ λb o e J=>?_
  .rw[Zj Y];exact h2
  .rw[Zj (Zm e Ua)];exact Z b o e J
inductive GW:Prop
 |mk(t:Aw)(ws:A2):vs=[.ref t]->H t=some (.tup ws)->(∀w∈ws,jO w)->ws.length<=60->(∀p H' (ms:Ai),H p=none->H' p=some (.tup (ms.map V.str))->ZG H H'->ms.Perm (Ww ((ws.filter nmB).map Zgk))->PyProof.Rows.sortedS ms=true->Q (.ref p) H')->GW
theorem gK:FnD T.ib P w base 3 (spQ GW):=by
 have e:=Zbm P base T TB XB;refine T.ib.go gE ?_;rintro cdv A outer s H _ Q E hr ⟨t,G,rfl,Y,hw,hl,k⟩;refine⟨_,(Ze (Zn (Z3 Z1 (by rfl) T.aj ZZ (Zi (Zr (Gy U) (by rfl) T.il xE (Zi (Z3 (vU U) (by rfl) T.abg Zjs (Zi (Y4 ({}:ZS (Zh qp) _ ["words"] "word" [] []) (XC (qv 0)) (λ_ _ _ _=>(vH (JQ (qC (Y6 (Zr (show YS _ (.builtin "isinstance") (Zpe K)from XA) (by rfl) T.ai ZJ (Zi (qv 0) (Zi (Ws (v:=.ty "str") (by rfl) T.abh Zjr U) Zd)))) (WT (Y6 (Zo T.ie e hr (Zi (qv 0) Zd)))))))) (λ_ _ _ _=>(qv 0))) Zd)) Zd)) Zd)))),?_⟩;refine⟨_,U,t,U,⟨_,SqT.of Y⟩,xT (xs:=G) nmB ZG ZG.refl (λ_ _ _ a b=>a.trans b) (λH1 I=>SqT.of (I _ _ Y)) (Qaw (Z2 (by lia))) (λx hx H1 I R hR=>?_) (λx hx H1 R hR=>⟨_,U,hR⟩) (λH1 l I J=>?_)⟩
 .rcases hw x hx with⟨y,rfl,hy⟩|⟨z,rfl⟩
  .exact⟨_,U,_,_,_,_,U,.str y,xF,_,U,Y1 ⟨_,U,y,U,Qa9 hy (by decide),λH2 O=>⟨_,U,hR H2 O⟩⟩⟩
  .exact⟨_,U,_,_,_,_,U,.int z,xG,_,U,ZI (hR H1 (ZG.refl H1))⟩
 have fl:(G.filter nmB).length<=60:=Qa9 (Qda _ _) hl;have ol:=ky ((G.filter nmB).map Zgk);rw[Qab]at ol;have O:=I.trans (Zc (o:=.lst (G.filter nmB)) J);refine⟨l,(G.filter nmB).map Zgk,U,SqL.of (by rw[Zmk];exact Za),by rw[Qab];lia,λa ha=>⟨a,_,U,Za,by lia,λm Z hm hp hs=>⟨m,_,U,.inl ⟨SqL.of Za,λp F=>?_⟩⟩⟩⟩;have Ua:ZG H _:=O.trans ((Zc ha).trans (Zc (o:=.lst (Z.map V.str)) hm));exact k p _ Z (ZG.free Ua F) Za (Ua.trans (Zc F)) hp hs
inductive JK(K:Af):Prop
 |mk(a pn f:Aw)(ns:Ak)(st:Nat)(nm:Ai)(mo:Nat)(tp k0 k1:Int):vs=[.ref a,.int st,.ref pn,.int mo,.ref f,.int tp,.bl true]->(Rd H a (.lst (ns.map V.int))/\a≠f)\/SqL K (λb=>none) a (ns.map V.int)->ns.length<=63->st<=10->mo<=24->1<=mo->H pn=some (.lst (nm.map V.str))->nm.length<=3->(∀y∈nm,y∉ZN)->H f=some (.lst [.int k0,.int k1])->0<=k0->0<=k1->k0+k1<=5->pn≠f->1<=tp->tp<=1000->(∀p ws H',H' p=some (.tup ws)->ws.length<=mo->TyR nm ws [true]->(JZ ws:Int)<=k0+k1->SmL f H H'->Q (.ref p) H')->JK K
def wt(K:Af):Sp:=λvs H Q _=>JK vs H Q K
theorem wu:FnD T.fq P w base 3 (wt K):=by
 have Y:=XO P base T TB XB;have G:=q8 P base T TB XB;have I:=jc P base T TB XB;have Ua:=W9 P base T TB XB;refine T.fq.go Y0 ?_;rintro cdv A outer s H _ Q E hr ⟨a,pn,f,ns,st,nm,mo,tp,k0,k1,rfl,hS,h63,hst,hmo,hmo1,hpn,hn3,hnk,hf,hk0,hk1,hk5,hpf,ht1,ht2,k⟩;refine⟨_,(Zb (Zw 7 Y0.nd (ZP Zd))
   (Zb (Zw 8 Y0.nd (ZP (Zi (qv 6) Zd)))
   (Zb (yi Qbd (Zq (Zdf (yk hr)) (qv 8) (ZP Zd) (Zx _))
   (Zb (Zw 9 Y0.nd (Zs WA (Zs WA (qv 3) (Zr Zy (by rfl) T.ak Yr (Zi (qv 7) Zd))) (Zr Zy (by rfl) T.ak Yr (Zi (qv 8) Zd))))
   (Zb (Zw 10 Y0.nd (Zo T.bp Ua hr (Zi (qv 0) (Zi (Zs YB (qv 1) (Zr Zy (by rfl) T.ak Yr (Zi (qv 7) Zd))) Zd))))
   (Zb (Z8 (Y6 (WU Qap Qcm Qcn Gj (qv 8)))
   (Ze (Zw 11 Y0.nd (Zo T.cb G hr (Zi (qv 10) (Zi (qv 9) (Zi (qv 4) Zd)))))) (Ze (Zw 11 Y0.nd (Zo T.dh I hr (Zi (qv 10) (Zi (qv 9) (Zi (qv 4) (Zi (qv 2) (Zi (qv 5) Zd)))))))))
   (Zb (Yc (Y7 Qap Qaz Qa0 ZH (qv 7) (Zi (qv 11) Zd)))
   (Ze (Yc (Y7 Qap PySem.F.slot_list_extend PySem.F.type_list_extend Zcl (qv 8) (Zi (Zo T.bc Y hr (Zi (qv 11) Zd)) Zd)))))))))
   (Ze (Zn (Z3 Z1 (by rfl) T.aj ZZ (Zi (qv 7) Zd))))))),?_⟩
 try dsimp only[L2.cxK,L2.cxK2]
 refine⟨Zgr,λO hwa=>Zg ?_⟩;refine⟨_,U,Zn2,λJ hpa=>Zg ?_⟩;have s1:=(Zc (o:=.lst []) hwa).trans (Zc (o:=.lst [V.bl true]) hpa);have hwf:O≠f:=λz=>by rw[z,hf]at hwa;cases hwa
 have hpw:J≠O:=λz=>by rw[z,Za]at hpa;cases hpa
 have hpa0:H J=none:=by rw[Zj hpw]at hpa;exact hpa
 have hpaf:J≠f:=λz=>by rw[z,hf]at hpa0;cases hpa0
 have w1:upd (upd H O (.lst [])) J (.lst [V.bl true]) O=some (.lst []):=by rw[Zj hpw.symm,Za]
 have p1:upd (upd H O (.lst [])) J (.lst [V.bl true]) J=some (.lst [V.bl true]):=Za;generalize upd (upd H O (.lst [])) J (.lst [V.bl true])=H1 at *;have keep:∀{Ha Hb:Hp} {g:Aw} {u o:HO},SmL f H Ha->(g=O\/g=J)->SmL f H (upd Ha g o):=λ{Ha Hb g u o} s hg b v hb e=>by
  have:b≠g:=λz=>by
   rcases hg with h|h
   .rw[z,h,hwa]at e;cases e
   .rw[z,h,hpa0]at e;cases e
  rw[Zj this];exact s b v hb e
 refine gf (λσ H'=>∃(ws:A2)(ks:Am)(l0 l1:Int)(u9 u10 u11:Option V),σ=[some (.ref a),some (.int st),some (.ref pn),some (.int mo),some (.ref f),some (.int tp),some (.bl true),some (.ref O),some (.ref J),u9,u10,u11]/\H' O=some (.lst ws)/\H' J=some (.lst (ks.reverse.map V.bl))/\H' f=some (.lst [.int l0,.int l1])/\Wds mo (k0+k1) nm ws ks l0 l1/\0<=l0/\0<=l1/\SmL f H H') (λ_ H'=>match H' O with|some (.lst l)=>30-l.length|_=>0) ⟨[],[true],k0,k1,none,none,none,U,w1,p1,s1 _ _ hf,⟨λrest h=>h,by show((0:Nat):Int)+k0+k1<=k0+k1;lia,hmo1⟩,hk0,hk1,SmL.of s1⟩ ?_;rintro σ H2 ⟨ws,ks,l0,l1,u9,u10,u11,rfl,w2,p2,f2,W2,hl0,hl1,s2⟩;refine⟨_,U,Zgr,λe he=>⟨J,e,_,_,U,U,SqL.of (Zc he _ _ p2),SqL.of Za,Qcp.mpr λv hv=>(by obtain⟨y,_,rfl⟩:=Qau.mp hv;rfl),U,_,U,?_⟩⟩;have se:=Zc (o:=.lst []) he;have w3:=se _ _ w2;have p3:=se _ _ p2;have f3:=se _ _ f2;have s3:=s2.same se;generalize upd H2 e (.lst [])=H3 at *;cases ks with
 |nil=>
  have hty:=W2.ty [] .nil;rw[Qbp]at hty;have hln:=W2.ln;have hrm:=W2.rm;exact⟨_,U,O,_,U,.inl ⟨SqL.of w3,λp hp=>k p ws _ Za (by lia) hty (by lia) (s3.same (Zc hp))⟩⟩
 |cons b ks=>
  have hpop:H3 J=some (.lst (ks.reverse.map V.bl++[V.bl b])):=by rw[p3,Qcx,Qa6];rfl
  have hln:=W2.ln;rw[Qbj]at hln;have hpl:((b::ks).reverse.map V.bl).length=ks.length+1:=by rw[Qab,Qc6,Qbj]
  rw[show(!Zhc ((b::ks).reverse.map V.bl) [])=true by rw[Qcx,Qa6];cases ks.reverse.map V.bl<;>rfl];refine Y1 ⟨λσ' H'=>∃(ws':A2)(ks:Am)(l0 l1:Int)(u9 u10 u11:Option V),σ'=[some (.ref a),some (.int st),some (.ref pn),some (.int mo),some (.ref f),some (.int tp),some (.bl true),some (.ref O),some (.ref J),u9,u10,u11]/\ws'.length=ws.length+1/\H' O=some (.lst ws')/\H' J=some (.lst (ks.reverse.map V.bl))/\H' f=some (.lst [.int l0,.int l1])/\Wds mo (k0+k1) nm ws' ks l0 l1/\0<=l0/\0<=l1/\SmL f H H',?_,?_⟩
  .rintro σ' H' ⟨ws',ks',Z,l1',v9,v10,v11,rfl,hl',h1,h2,h3,h4,h5,h6,h7⟩;refine⟨30-ws'.length,?_,?_,ws',ks',Z,l1',v9,v10,v11,U,h1,h2,h3,h4,h5,h6,h7⟩
   .rw[w2];show 30-ws'.length<30-ws.length;lia
   .rw[h1]
  refine⟨_,U,_,U,O,_,U,.inl (SqL.of w3),_,_,U,U,_,U,J,_,U,.inl (SqL.of p3),_,_,U,U,Zg ?_⟩;refine⟨_,U,_,U,_,U,O,_,U,.inl (SqL.of w3),_,_,U,U,a,ns,st+ws.length,U,?_,h63,by lia,λr H4 r0 r1 s4=>Zg ?_⟩
  .rcases hS with⟨z|⟨o,z⟩,haf⟩|(z|⟨_,z⟩)|z
   .exact .inl (.inl (s3 _ _ haf z))
   .exact .inl (.inr ⟨o,s3 _ _ haf z⟩)
   .cases z
   .cases z
   .exact .inr z
  have w4:=s4 _ _ w3;have p4:=s4 _ _ hpop;have f4:=s4 _ _ f3;have s34:=s3.same s4;refine yC (λσ H'=>∃(w:V)(Z l1':Int)(u9 u10:Option V),σ=[some (.ref a),some (.int st),some (.ref pn),some (.int mo),some (.ref f),some (.int tp),some (.bl true),some (.ref O),some (.ref J),u9,u10,some w]/\((∃y,w=.str y)\/∃z:Int,w=.int z)/\H' O=some (.lst ws)/\H' J=some (.lst (ks.reverse.map V.bl))/\H' f=some (.lst [.int Z,.int l1'])/\Wds mo (k0+k1) nm (ws++[w]) (lpW w++ks) Z l1'/\0<=Z/\0<=l1'/\SmL f H H') (λN hN=>?_) ?_
  .refine⟨_,U,.inl ⟨U,_,SqL.of p4⟩,J,_,_,U,U,p4,Xh _ _,b,U,?_⟩;rw[Qc1];have w5:upd H4 J (.lst (ks.reverse.map V.bl)) O=some (.lst ws):=by rw[Zj hpw.symm];exact w4
   have p5:upd H4 J (.lst (ks.reverse.map V.bl)) J=some (.lst (ks.reverse.map V.bl)):=Za;have f5:upd H4 J (.lst (ks.reverse.map V.bl)) f=some (.lst [.int l0,.int l1]):=by rw[Zj hpaf.symm];exact f4
   have s5:SmL f H (upd H4 J (.lst (ks.reverse.map V.bl))):=keep (Hb:=H) (u:=.lst []) s34 (.inr U);generalize upd H4 J (.lst (ks.reverse.map V.bl))=H5 at *;have erm:(mo:Int)-(ws.length:Int)-(((b::ks).reverse.map V.bl).length:Int)=(mo:Int)-ws.length-((b::ks).length:Int):=by rw[hpl,Qbj]
   cases b with
   |true=>
    refine Y1 ⟨_,U,_,U,_,U,r,_,f,l0,l1,U,r0,?_,f5,hl1,λy l1' H6 hy hlen hl hl' f6 s6=>Zg (hN _ _ ⟨.str y,l0,l1',_,_,U,.inl ⟨y,U⟩,s6 _ _ hwf w5,s6 _ _ hpaf p5,f6,W2.clm hnk hy ?_ hl,hl0,hl',λb o hb e=>s6 _ _ hb (s5 b o hb e)⟩)⟩
    .rw[hpl];lia
    .rw[<-erm];exact hlen
   |false=>
    refine ZI ⟨_,U,_,U,_,U,_,U,_,U,r,_,f,pn,l0,l1,tp,nm,U,r0,?_,f5,hl0,s5 _ _ hpf hpn,hn3,ht1,ht2,λw Z H6 hw hl' f6 s6=>Zg (hN _ _ ⟨w,Z,l1,_,_,U,?_,s6 _ _ hwf w5,s6 _ _ hpaf p5,f6,W2.sum hnk ?_,hl',hl1,λb o hb e=>s6 _ _ hb (s5 b o hb e)⟩)⟩
    .rw[hpl];lia
    .rcases hw with⟨y,e,_⟩|⟨y,e,_⟩|⟨z,e,_⟩
     .exact .inl ⟨y,e⟩
     .exact .inl ⟨y,e⟩
     .exact .inr ⟨z,e⟩
    .rw[<-erm];exact hw
  .rintro σ H5 ⟨w,Z,l1',v9,v10,rfl,hw,w5,p5,f5,W5,hl0',hl1',s5⟩;refine⟨_,U,.inl ⟨U,_,SqL.of w5⟩,_,U,O,_,_,U,U,w5,Z2 (by lia),?_⟩;have w6:=Za (H:=H5) (a:=O) (o:=.lst (ws++[w]));have p6:=(Zj (H:=H5) (o:=.lst (ws++[w])) hpw).trans p5;have f6:=(Zj (H:=H5) (o:=.lst (ws++[w])) hwf.symm).trans f5;have s6:SmL f H (upd H5 O (.lst (ws++[w]))):=keep (Hb:=H) (u:=.lst []) s5 (.inl U);generalize upd H5 O (.lst (ws++[w]))=H6 at *;refine⟨_,U,.inl ⟨U,_,SqL.of p6⟩,_,U,w,U,hw,λp H7 hp0 hp s7=>⟨J,p,_,_,U,U,s7 _ _ p6,hp,?_,?_⟩⟩
   .have:=(Zf7 w).2;rw[Qab,Qab,Qc6];exact Qaw (Z2 (by lia))
   .refine⟨ws++[w],lpW w++ks,Z,l1',_,_,_,U,by rw[Qar];rfl,by rw[Zj hpw.symm];exact s7 _ _ w6,?_,by rw[Zj hpaf.symm];exact s7 _ _ f6,W5,hl0',hl1',keep (Hb:=H) (u:=.lst []) (s6.same s7) (.inr U)⟩;rw[Za,Qgl,(Zf7 w).1,Qa6]
inductive JL:Prop
 |mk(tw pn:Aw)(ws:A2)(ms:Ai)(W:Nat)(wb:Bool):vs=[.ref tw,.ref pn,.int (2^W),.bl wb]->H tw=some (.tup ws)->H pn=some (.lst (ms.map V.str))->ws.length<=60->Wg ms ws->1<=W->W<=64->(2^W)^ms.length<=10000->(∀d us H',(chs (2^W) ms.length).find? (gB ms ws wb W)=some us->H' d=some (.dK (kvC ms us))->ZG H H'->Q (.ref d) H')->(∀H',(chs (2^W) ms.length).find? (gB ms ws wb W)=none->ZG H H'->Q .non H')->JL
theorem wx:FnD T.ft P w base 3 (spQ JL):=by
 have F:=jx P base T TB XB;have G:=gJ P base T TB XB;refine T.ft.go qN ?_;rintro cdv A outer s H _ Q E hr ⟨tw,pn,ws,I,W,wb,rfl,hwa,hpn,hl,S,hW1,hW,hbig,k,k0⟩;refine⟨_,(Zb (Yu Qbd U (YF (Zo T.du F hr (Zi (qv 1) (Zi (qv 2) Zd)))) (YE 4 qN.nd)
   (Ze (Z8 (Zq Yl (Zo T.ia G hr (Zi (qv 0) (Zi (qv 2) (Zi (qv 4) Zd)))) (qv 3) (Zx _))
   (Ze (Zn (qv 4))) Zu)))
   (Ze (Zn xH))),?_⟩
 have e2:((2^W:Nat):Int)=2^W:=by rfl
 refine⟨_,U,_,U,pn,I,2^W,by rw[e2];rfl,hpn,S.nd,S.n3,hbig,Qhf _,λp H8 D s8=>?_⟩;obtain⟨ds,d1,d2,d3⟩:=D;refine⟨p,U,⟨_,SqL.of d1⟩,Gi (K:=K) (a:=p) (xs:=ds.map V.ref) (λj σ H'=>∃u4,σ=[some (.ref tw),some (.ref pn),some (.int (2^W)),some (.bl wb),u4]/\(∀i,i<j->∀us,(chs (2^W) I.length)[i]?=some us->gB I ws wb W us=false)/\ZG H8 H') ⟨none,U,λi hi=>absurd hi (Qed _),ZG.refl _⟩ (λj σ H' _ ⟨_,_,_,s⟩=>SqL.of (s _ _ d1)) ?_ ?_⟩
 .rintro j x σ H9 hx ⟨u4,rfl,J,Y⟩;rw[Qag]at hx;obtain⟨dv,hdv,rfl⟩:=Qa5.mp hx;have O:j<(chs (2^W) I.length).length:=by grind
  have hvj:=Qac O;obtain⟨hvl,hvb⟩:=yZ (Qbh O);have hkv:=d3 j dv _ hdv hvj;obtain⟨o,_,hb⟩:=jV (W:=W) hW1 S.kp (Zis I (chs (2^W) I.length)[j]) S.ty;generalize decide (bt o (W-1)=1)=b at hb;refine Zg ⟨_,U,_,U,_,U,tw,dv,W,I,ws,kvC I _,Zis I _,b,U,hW1,hW,(s8.trans Y) _ _ hwa,by lia,Y _ _ hkv,Zga S.nd hvl,λy hy=>⟨Qch _,?_⟩,S.kp,S.ty,hb,λH10 Ua=>⟨_,U,U,_,U,?_⟩⟩
  .have hix:=Qbi hy;refine Qhi.mpr (hvb _ ?_);rw[Qal,Qac (by lia)];exact Qbh _
  have ew:gB I ws wb W (chs (2^W) I.length)[j]=decide (V.bl b=V.bl wb):=by
   unfold gB;rw[hb,Qce];exact⟨λz=>by injection z,λz=>by rw[z]⟩
  refine qV (λz=>?_) λz=>?_
  .refine⟨_,U,k dv _ H10 (Qfz.mpr ⟨ew.trans z,j,O,U,λi hi=>?_⟩) (Ua _ _ (Y _ _ hkv)) (s8.trans (Y.trans Ua))⟩;rw[J i hi _ (Qac (by lia))];rfl
  .refine⟨_,U,λi hi us Z=>?_,Y.trans Ua⟩
   by_cases e:i=j
   .grind
   .exact J i (by lia) us Z
 .rintro σ H9 ⟨u4,rfl,J,Y⟩;refine k0 H9 (Qen.mpr λus Z hp=>?_) (s8.trans Y);obtain⟨i,hi⟩:=Qde Z;rw[J i (by grind) us hi]at hp;cases hp
inductive WM(C:Aw)(vs:A2)(H:Hp)(Q:VK)(E:XK):Prop
 |mk (m:Aw) (nm:Ai) (b:Nat) (nx:Ad) (ot:Az) (w:Nat) (v:V) (tr:Bool):(vs=[.ref m,.int w,v])->(M4 H m nm b nx ot)->(Runs nx ot nm.length)->(b<nx.length)->(nx.length<=1000000)->(nm.length<=3)->(nm.Nodup)->(1<=w)->(w<=99)->(Xp tr v)->((∀r∈ot,∀x∈r,Xp tr x))->((∀r d kvs H',yX (mN nx) (mB ot v) b nm.length w r->H d=none->H' d=some (.dK kvs)->Tab kvs nm (λy=>(valN (ixG nm y) r:Int))->SmF H H'->Q (.ref d) H'))->(((¬∃r:Aj,r.length=w/\(∀l∈r,l<2^nm.length)/\YC (mN nx) (mB ot v) b r=true)->∀e H',SmF H H'->H' e=none->E (.ref C) (some e) H'))->WM C vs H Q E
def j0(K:Af)(C:Aw):Sp:=λvs H Q E=>WM C vs H Q E
theorem JM:xB P w K mg base (CXO P w) 4 t.ig t.ij ["machine","width","wanted"] (j0 K t.ae):=by
 have I:=gH P base T TB XB;have G_run:=ok_run P base T TB XB;have G:=GV P base T TB XB;have J:=zU P base T TB XB;refine T.ax.F.okX Yk (λvs H Q E h=>?_) (λcdv A outer s H vs Q E hr h=>?_)
 .obtain⟨_,_,_,_,_,_,_,_,rfl,_⟩:=h;rfl
 .obtain⟨m,nm,b,nx,ot,w,v,tr,rfl,M,R,hb,hN,hn3,hnd,hw1,hw2,hv,hk,k,ke⟩:=h;refine⟨_,@QSs.out _ _ _ (Zb (Zw 3 Yk.nd (Z0 ZE (qv 0) Zf))
    (Zb (Zw 4 Yk.nd (Z3 (kj U) (by rfl) T.aj ZZ (Zi (Z3 xW (by rfl) T.ay gP (Zi (Zo T.di J hr (Zi (Zr Zy (by rfl) T.ak Yr (Zi (qv 3) Zd)) Zd)) Zd)) Zd)))
    (Zb (yj (i:=5) Yk.nd U U ({}:ZS (Zh Xv) _ ["machine","width","wanted","names","all_letters","letters","number","row"] "place" ["all_letters"] [4]) (YG U T.ay (Zi (qv 1) Zd)) (λ_ _ _ _=>Xo) (λ_ _ _ _=>(qv 1)))
    (Zb (Yu PassesOwn.leaving U (YG U T.ay (Zi (Zr Zy (by rfl) T.ak Yr (Zi (qv 3) Zd)) Zd)) (YE 6 Yk.nd)
    (Ze (Zw 5 Yk.nd (Zo T.bu G hr (Zi (qv 0) (Zi (qv 5) (Zi (qv 6) (Zi (qv 2) Zd))))))))
    (Zb (Zw 7 Yk.nd (Z3 Z1 (by rfl) T.aj ZZ (Zi (Y4 ({}:ZS (Zh Xv) _ ["machine","width","wanted","names","all_letters","letters","number","row"] "left" [] []) (YF (qv 5)) (λ_ _ _ _=>Xo) (λ_ _ _ _=>(Z0 (show IxR _ (gO K)from ZE) (qv 0) Zf))) Zd)))
    (Zb (Z8 (Zq Zgw (Z0 ZE (Zo T.nj G_run hr (Zi (qv 0) (Zi (qv 7) Zd))) (WS J5 Zf)) (qv 2) (Zx _))
    (Ze (Zhk FnX.of.made U XB.o_NoWords U (Zi (qe_fsI (qv 1)) Zd))) Zu)
    (Ze (Zn (Zo T.gg I hr (Zi (qv 3) (Zi (qv 7) Zd))))))))))),?_⟩
  try dsimp only[L2.cxK,L2.cxK2]
  obtain⟨pn,ps,po,h1,hpn,Rs,Ro⟩:=M.ex;refine⟨_,U,m,_,0,_,U,U,SqT.of h1,U,Zg ?_⟩;have hl0:(nm.map V.str).length=nm.length:=Qab _;have p8:2^nm.length<=8:=Qdf (by decide) hn3 (n:=2);refine⟨_,U,pn,_,U,.inr (SqT.of hpn),nm.length,congrArg (λz:Nat=>[V.int z]) hl0,by lia,_,U,λrg hrg=>⟨rg,2^nm.length,U,by rw[Za,Qhj];rfl,by lia,λal hal=>Zg ?_⟩⟩;have s1:=(Zc (o:=.rng 0 (2^nm.length)) hrg).trans (Zc (o:=.tup ((List.range (2^nm.length)).map λi:Nat=>V.int i)) hal);have hal1:upd (upd H rg (.rng 0 (2^nm.length))) al (.tup ((List.range (2^nm.length)).map λi:Nat=>V.int i)) al=some (.tup ((List.range (2^nm.length)).map Y9)):=Za;generalize upd (upd H rg (.rng 0 (2^nm.length))) al (.tup ((List.range (2^nm.length)).map λi:Nat=>V.int i))=H1 at *;refine⟨_,U,(w:Int),U,by lia,by lia,Zc1 (n:=(w:Int).toNat) (λ_=>.ref al) (by rw[Qbf];exact Qaw (Yv (by lia))) (λi _ R' hR=>⟨_,U,hR⟩) (λlt0 hlt0=>Zg ?_)⟩;rw[Qbf];have s2:=s1.trans (Zc (o:=.lst ((List.range w).map λ_=>V.ref al)) hlt0);have Lt0:kR (upd H1 lt0 (.lst ((List.range w).map λ_=>V.ref al))) lt0 (List.replicate w (List.range (2^nm.length))):=by
   refine⟨_,Za,by rw[Qab,Qa3,Qav],λi L hi=>?_⟩;obtain⟨h3,rfl⟩:=rep_at hi;exact⟨al,by rw[Qag,Qdv h3];rfl,Zc hlt0 _ _ hal1⟩
  generalize upd H1 lt0 (.lst ((List.range w).map λ_=>V.ref al))=H2 at *;have hne:List.replicate w (List.range (2^nm.length))≠[]:=λz=>by
   have:=congrArg List.length z;rw[Qav]at this;have:w=0:=this;lia
  have Ua:=λk=>kS (nx:=mN nx) (ok:=mB ot v) (b:=b) (Ls:=List.replicate w (List.range (2^nm.length))) k;have itl:∀k,∀L∈itL (mN nx) (mB ot v) b (List.replicate w (List.range (2^nm.length))) k,L.length<=1000/\∀l∈L,l<2^nm.length:=λk L O=>by
   obtain⟨L0,f1,f2,f3⟩:=(Ua k).2 L O;rw[Qdq f1]at f2 f3;rw[Qa3]at f2;exact⟨by lia,λl hl=>Qbw.mp (f3 l hl)⟩
  refine⟨_,U,pn,_,U,.inr (SqT.of (s2 _ _ hpn)),_,U,by lia,by rw[hl0];lia,Xz (lo:=0) (λi σ H'=>∃(lt:Aw)(u6:Option V),σ=[some (.ref m),some (.int w),some v,some (.ref pn),some (.ref al),some (.ref lt),u6,none]/\i<=nm.length/\kR H' lt (itL (mN nx) (mB ot v) b (List.replicate w (List.range (2^nm.length))) i)/\SmF H H') ⟨lt0,none,U,Qbl _,Lt0,SmF.of s2⟩ ?_ ?_⟩
  .rintro i σ H3 hi ⟨lt,u6,rfl,hil,Lt,s3⟩;rw[Qbf,hl0]at hi;rw[Qfy];refine Zg ⟨_,U,_,U,_,U,_,U,m,lt,nm,b,nx,ot,nm.length,_,i,v,tr,U,M.smf s3,R,hb,hN,Lt,(λz=>by have h9:=(Ua i).1;rw[z,Qav]at h9;have:0=w:=h9;lia),itl i,by rw[(Ua i).1,Qav];lia,by lia,hv,hk,λp H4 hp Lt4 s4=>Zg ⟨p,_,U,hi,Lt4,s3.trans s4⟩⟩
  rintro σ H3 ⟨lt,u6,rfl,hil,⟨as,ha,hal2,hat⟩,s3⟩;rw[Qbf,hl0]at hal2 hat;have itn:∀L∈itL (mN nx) (mB ot v) b (List.replicate w (List.range (2^nm.length))) nm.length,L≠[]:=λL O z=>by
   obtain⟨c,hc,hm⟩:=Zkv nm.length (Qaj _) L O;have:=(hm c).mpr ⟨hc,Nat.mod_eq_of_lt hc⟩;rw[z]at this;cases this
  have fr:=λh=>Zfv (nx:=mN nx) (ok:=mB ot v) (b:=b) (n:=nm.length) (w:=w) (by lia) h;have rl:((itL (mN nx) (mB ot v) b (List.replicate w (List.range (2^nm.length))) nm.length).map λL=>L.headD 0).length=w:=by rw[Qab,(Ua _).1,Qav]
  have Z:∀l∈(itL (mN nx) (mB ot v) b (List.replicate w (List.range (2^nm.length))) nm.length).map (λL=>L.headD 0),l<2^nm.length:=λl hl=>by
   obtain⟨L,O,rfl⟩:=Qau.mp hl;cases L with
   |nil=>exact absurd U (itn _ O)
   |cons x L=>exact(itl _ _ O).2 x Qah
  have hdl:as.map (hdV H3)=((itL (mN nx) (mB ot v) b (List.replicate w (List.range (2^nm.length))) nm.length).map λL=>L.headD 0).map Y9:=by
   refine Qee λt=>?_;rw[Qag,Qag,Qag];cases O:(itL (mN nx) (mB ot v) b (List.replicate w (List.range (2^nm.length))) nm.length)[t]? with
   |none=>rw[Qd3 (by have:=List.getElem?_eq_none_iff.mp O;lia)];rfl
   |some L=>
    obtain⟨x,e1,e2⟩:=hat t L O;rw[e1];exact congrArg some (Zkq e2 (itn L (Qam O))).1
  have hasl:as.length=w:=by rw[hal2,(Ua _).1,Qav]
  refine⟨_,U,lt,U,⟨_,SqL.of ha⟩,comp_map (xs:=as) (hdV H3) (SqL.of ha) (by rw[hasl];exact Qaw (Yv (by lia))) (λx hx R' hR=>?_) (λl hl=>⟨l,_,U,.inl ⟨SqL.of Za,λY hrw=>Zg ?_⟩⟩)⟩
  .obtain⟨t,ht⟩:=Qde hx;have htl:t<as.length:=(Qae.mp ht).1;obtain⟨L,O⟩:∃L,(itL (mN nx) (mB ot v) b (List.replicate w (List.range (2^nm.length))) nm.length)[t]?=some L:=⟨_,Qac (by lia)⟩;obtain⟨y,e1,e2⟩:=hat t L O;rw[ht]at e1;cases e1;obtain⟨e3,e4⟩:=Zkq e2 (itn L (Qam O));rw[e3]at hR;exact⟨_,U,y,_,0,_,U,U,SqT.of e2,e4,hR⟩
  rw[hdl]at hrw ⊢;generalize hrr:(itL (mN nx) (mB ot v) b (List.replicate w (List.range (2^nm.length))) nm.length).map (λL=>L.headD 0)=r at *;have s4:=(Zc (o:=.lst (r.map Y9)) hl).trans (Zc (o:=.tup (r.map Y9)) hrw);have hr4:upd (upd H3 l (.lst (r.map Y9))) Y (.tup (r.map Y9)) Y=some (.tup (r.map Y9)):=Za;generalize upd (upd H3 l (.lst (r.map Y9))) Y (.tup (r.map Y9))=H4 at *;have s34:=s3.trans (SmF.of s4);obtain⟨nv,MA⟩:=Znf (M.smf s34) R hb;obtain⟨r0,c,er⟩:=Zf3 (r:=r) (λz=>by rw[z]at rl;have:0=w:=rl;lia);refine⟨_,U,_,U,m,Y,_,_,b,nv,_,_,r,U,MA,hr4,Z,by rw[rl];lia,λq H5 hq hq5 s5=>⟨_,U,q,_,-1,_,U,U,SqT.of hq5,by rw[er,Zew];exact yg _ _,_,U,?_⟩⟩;rw[uV];have hc:c<2^nm.length:=Z c (by rw[er];exact Qba _ (Qat.mpr U));have hst:stN nx b r0<ot.length:=by rw[R.ol];exact Zko R hb λx hx=>Z x (by rw[er];exact Qc0 _ hx)
  have hro:=R.or _ (getD_mem hst);have hko:=hk _ (getD_mem hst) _ (Qam (getD_at (d:=V.non) (show c<(ot.getD (stN nx b r0) []).length by lia)));have hr5:=s5 _ _ hr4;have s35:=s34.trans (SmF.of s5);refine⟨kO hko hv,_,U,?_⟩
  by_cases ho:(ot.getD (stN nx b r0) []).getD c V.non=v
  .have F:=fr ⟨r,rl,Z,by rw[er,W6];exact Qan ho⟩;rw[Qan ho];refine ZI ?_;refine⟨_,U,_,U,pn,Y,nm,r.map (λl:Nat=>(l:Int)),λy=>(valN (ixG nm y) r:Int),U,s35.tup hpn,by rw[hr5,Qay];rfl,hn3,by rw[Qab,rl];lia,λc hc=>?_,λi y hy=>?_,λd kvs H6 hd hd6 T s6=>?_⟩
   .obtain⟨l,_,rfl⟩:=Qau.mp hc;exact Qch _
   .rw[g8];show _=(valN (ixG nm y) r:Int);rw[show ixG nm y=i from Xq hnd hy]
   .exact k r d kvs H6 F (s35.free hd) hd6 T (s35.trans (SmF.of s6))
  .rw[Qaq ho];refine Y1 ⟨_,U,(w:Int),U,?_,?_,Zn2,λe he=>ke (λ⟨t,t1,t2,t3⟩=>ho ?_) e H5 s35 he⟩
   .exact Qd1 (Nat.log2_le_self _) (by rw[Int.natAbs_natCast];lia)
   .exact(by decide +kernel:∀n:Fin 100,("no words at width " : Str).length+(Str.ofString (toString ((n:Nat):Int))).length<=1000000) ⟨w,by lia⟩
   .have h9:=(fr ⟨t,t1,t2,t3⟩).last;rw[er,W6]at h9;exact Qbb h9
inductive qS:Prop
 |mk(tw dv kt:Aw)(ys:Ai)(ws:A2)(kvs:A0)(cols:Str->Int)(pl:Nat)(kp:Ak)(o:Int)(lt:Ak):vs=[.ref tw,.ref dv,.int pl,.ref kt]->H tw=some (.tup ws)->ws.length<=100->H dv=some (.dK kvs)->Zet kvs ys cols->H kt=some (.tup (kp.map V.int))->(∀w∈ws,yF ys w)->Jk ws->XF ys cols pl kp ws=([o],lt)->lt.length<=kp.length->(∀t l H',H t=none->H' t=some (.tup [.int o,.ref l])->H' l=some (.lst (lt.map V.int))->ZG H H'->Q (.ref t) H')->qS
theorem Zbn:FnD T.cq P w base 4 (spQ qS):=by
 have Ua:=qP P base T TB XB;have I:=jy P base T TB XB;have Y:=wm P base T TB XB;have J:=jw P base T TB XB;have O:=jz P base T TB XB;refine T.cq.go Xy ?_;rintro cdv A outer s H _ Q E hr ⟨tw,dv,kt,ys,G,kvs,cols,pl,kp,o,lt,rfl,ht,hl,hd,hc,hk,hw,he,hst,hkl,k⟩;have hu:=qU hr;refine⟨_,(Zb (Zw 4 Xy.nd (ZP Zd))
   (Zb (Zw 5 Xy.nd (ZP Zd))
   (Zb (Yu Qbd U (Zcx U T.iu (qv 0)) (YE 6 Xy.nd)
   (Zb (Zw 7 Xy.nd (Zo T.dy O hr (Zi (qv 4) (Zi (qv 6) Zd))))
   (Ze (Z8 (Y6 (Zo T.cy Ua hr (Zi (qv 6) Zd)))
   (Zb (Zw 8 Xy.nd (WS J5 (Z0 ZE (qv 3) (Zr Zy (by rfl) T.ak Yr (Zi (qv 5) Zd)))))
   (Zb (Yc (Y7 Qap Qaz Qa0 ZH (qv 5) (Zi (Zo T.fj Y hr (Zi (qv 6) (Zi (qv 7) (Zi (qv 8) Zd)))) Zd)))
   (Ze (Yc (Y7 Qap Qaz Qa0 ZH (qv 4) (Zi (Zo T.dw I hr (Zi (qv 6) (Zi (qv 7) (Zi (qv 8) (Zi (Z0 Zz (qv 5) (WS J5 Zf)) Zd))))) Zd)))))) (Ze (Z8 (Y6 (Zr XA (by rfl) T.ai ZJ (Zi (qv 6) (Zi (Ws (v:=.ty "int") (by rfl) T.ic j5 U) Zd))))
   (Ze (Yc (Y7 Qap Qaz Qa0 ZH (qv 4) (Zi (WS J5 (Zs YT (Zs j4 (qv 6) (qv 2)) Zf)) Zd)))) (Ze (Z8 (Zq (qa hu) (qv 6) (qv 1) (by with_unfolding_all rfl))
   (Ze (Yc (Y7 Qap Qaz Qa0 ZH (qv 4) (Zi (JR hu (qv 1) (qv 6) (λ_ _=>U)) Zd)))) (Ze (Yc (Y7 Qap Qaz Qa0 ZH (qv 4) (Zi (Zo T.dt J hr (Zi (qv 6) (Zi (qv 7) Zd))) Zd))))))))))))
   (Ze (Zn (Yf (Zi (WU Qap Qcm Qcn Gj (qv 4)) (Zi (qv 5) Zd)))))))),?_⟩
 try dsimp only[L2.cxK,L2.cxK2]
 refine⟨Zgr,λst hst0=>Zg ⟨Zgr,λZ hla0=>Zg ?_⟩⟩;have s1:=Zc (o:=.lst []) hst0;have s2:=s1.trans (Zc (o:=.lst []) hla0);have hsl:st≠Z:=Zm (Za (H:=H) (a:=st) (o:=.lst [])) hla0;have hlaH:H Z=none:=s1.free hla0;refine⟨_,U,tw,_,U,SqT.of (s2 _ _ ht),Zcy (K:=K) (a:=tw) (xs:=G) (λi σ H2=>∃u6 u7 u8,σ=[some (.ref tw),some (.ref dv),some (.int pl),some (.ref kt),some (.ref st),some (.ref Z),u6,u7,u8]/\i<=G.length/\H2 st=some (.lst ((XF ys cols pl kp (G.drop (G.length-i))).1.map V.int).reverse)/\H2 Z=some (.lst ((XF ys cols pl kp (G.drop (G.length-i))).2.map V.int))/\ZG H H2) ⟨none,none,none,U,Qbl _,?_,?_,s2⟩ (λi σ H2 _ ⟨_,_,_,_,_,_,_,s⟩=>SqT.of (s _ _ ht)) ?_ ?_⟩
 .rw[Nat.sub_zero,Qe3,Zj hsl];exact Za
 .rw[Nat.sub_zero,Qe3];exact Za
 .rintro i x σ H2 hx ⟨u6,u7,u8,rfl,hi0,h2s,h2l,s3⟩;obtain⟨hi,hx⟩:=Zj8 hx;have ed:G.drop (G.length-(i+1))=x::G.drop (G.length-i):=by
   rw[show G.length-(i+1)=G.length-1-i by lia,Qb5 (by lia),show G.length-1-i+1=G.length-i by lia];congr 1;exact(Qae.mp hx).2
  have hwx:=hw x (Qam hx);have hen:=z6 G (G.length-(i+1)) he;have hmo:=k9 ys cols pl kp G (G.length-(i+1));rw[hst]at hmo;rw[ed]at hen hmo ⊢;have hln:=yG (ys:=ys) (cols:=cols) (pl:=pl) (kp:=kp) (G.drop (G.length-i)) λw h=>hw w (List.mem_of_mem_drop h);have hle2:=gk (G.drop (G.length-i));rw[Qdr]at hle2;have hmo2:=k7 ys cols pl kp x (G.drop (G.length-i));have hlb:=uD ys cols pl kp (G.drop (G.length-i));rw[Qdr]at hlb;generalize G.drop (G.length-i)=r at *;have hn:=hen.1;have eC:∀z:V,XF ys cols pl kp (z::r)=match z with
   |.str y=>
    if y∈allR then(okI y ((XF ys cols pl kp r).1.take (npw z)) (-(kp.getD (XF ys cols pl kp r).2.length 0)) (ktI y ((XF ys cols pl kp r).1.take (npw z)) (-(kp.getD (XF ys cols pl kp r).2.length 0)))::(XF ys cols pl kp r).1.drop (npw z),(XF ys cols pl kp r).2++[ktI y ((XF ys cols pl kp r).1.take (npw z)) (-(kp.getD (XF ys cols pl kp r).2.length 0))])
    else if y∈ys then(cols y::(XF ys cols pl kp r).1.drop (npw z),(XF ys cols pl kp r).2)
    else(oaI y ((XF ys cols pl kp r).1.take (npw z))::(XF ys cols pl kp r).1.drop (npw z),(XF ys cols pl kp r).2)
   |.int z'=>(-(bt z' pl)::(XF ys cols pl kp r).1.drop (npw z),(XF ys cols pl kp r).2)
   |_=>XF ys cols pl kp r:=λz=>by cases z<;>rfl
  have eX:=eC x;generalize XF ys cols pl kp r=P at *;obtain⟨F,l2⟩:=P;try dsimp only at *
  have hkx:x=kV (keyOf x)/\X8 x=true:=by
   rcases hwx with⟨y,rfl,_⟩|⟨y,rfl,_⟩|⟨y,rfl,_⟩|⟨z,rfl,_⟩<;>exact⟨U,U⟩
  refine⟨_,U,_,U,st,F.map V.int,x,U,h2s,hkx.1,by rw[Qab];lia,by rw[Qab];lia,λpp H3 hpp0 hpp h3s o3=>Zg ?_⟩;rw[<-Qej]at hpp;rw[<-Qe0]at h3s;have h3l:=o3 _ _ h2l hsl.symm;have s4:ZG H H3:=λb o e=>o3 b o (s3 b o e) (Zm e hst0);have hln3:(F.take (npw x)).length=npw x:=by rw[Qbg];lia
  have hps:pp≠st:=λz=>by rw[z,h2s]at hpp0;cases hpp0
  have hpl2:pp≠Z:=λz=>by rw[z,h2l]at hpp0;cases hpp0
  refine⟨_,U,x,U,hkx.2,_,U,?_⟩;have sml:((F.drop (npw x)).map V.int).reverse.length<sizeLine:=by
   rw[Qc6,Qab,Qdr];exact Z2 (by lia)
  have fin:∀(v:Int)(Hx:Hp),XF ys cols pl kp (x::r)=(v::F.drop (npw x),l2)->ZG H3 Hx->upd Hx st (.lst (((F.drop (npw x)).map V.int).reverse++[.int v])) st=some (.lst ((XF ys cols pl kp (x::r)).1.map V.int).reverse)/\upd Hx st (.lst (((F.drop (npw x)).map V.int).reverse++[.int v])) Z=some (.lst ((XF ys cols pl kp (x::r)).2.map V.int))/\ZG H (upd Hx st (.lst (((F.drop (npw x)).map V.int).reverse++[.int v]))):=λv Hx e sx=>by
   rw[e];refine⟨by rw[Za,Qbv,Qcx],by rw[Zj hsl.symm];exact sx _ _ h3l,Yj (s4.trans sx) hst0⟩
  rcases hwx with⟨y,rfl,hy,hny,hn1,hn2⟩|⟨y,rfl,hy,hna,hny,hnp⟩|⟨y,rfl,hy,hna,hnp⟩|⟨z,rfl,hz,hnp⟩
  .show if inV (.str y) (allR.map V.str)=true then _ else _
   rw[ZD,Qan hy];have eX:XF ys cols pl kp (.str y::r)=(okI y (F.take (npw (.str y))) (-(kp.getD l2.length 0)) (ktI y (F.take (npw (.str y))) (-(kp.getD l2.length 0)))::F.drop (npw (.str y)),l2++[ktI y (F.take (npw (.str y))) (-(kp.getD l2.length 0))]):=by
    rw[eX];exact Qa2 hy
   have hkk:l2.length<kp.length:=by
    rw[eX]at hmo;simp only[Qar,Qbj,Qeu]at hmo;lia
   refine Y1 ⟨_,U,_,U,Z,_,U,.inl (SqL.of h3l),kt,_,_,.int (kp.getD l2.length 0),U,U,SqT.of (s4 _ _ hk),?_,_,U,?_⟩
   .rw[Qab];exact ZC _ U hkk
   try dsimp only
   generalize -(kp.getD l2.length 0)=hh at *;refine Zg ?_;refine⟨_,U,.inl ⟨U,_,SqL.of h3l⟩,_,U,_,U,_,U,y,pp,F.take (npw (.str y)),hh,U,hpp,by lia,hy,(λh=>by have:=hn2 h;lia),λH4 s5=>⟨Z,_,_,U,U,s5 _ _ h3l,?_,?_⟩⟩
   .rw[Qab];exact Z2 (by lia)
   have h5s:upd H4 Z (.lst (l2.map V.int++[.int (ktI y (F.take (npw (.str y))) hh)])) st=some (.lst ((F.drop (npw (.str y))).map V.int).reverse):=by rw[Zj hsl];exact s5 _ _ h3s
   have h5p:upd H4 Z (.lst (l2.map V.int++[.int (ktI y (F.take (npw (.str y))) hh)])) pp=some (.lst ((F.take (npw (.str y))).map V.int)):=by rw[Zj hpl2];exact s5 _ _ hpp
   have h5l:upd H4 Z (.lst (l2.map V.int++[.int (ktI y (F.take (npw (.str y))) hh)])) Z=some (.lst (l2.map V.int++[.int (ktI y (F.take (npw (.str y))) hh)])):=Za;have s6:ZG H (upd H4 Z (.lst (l2.map V.int++[.int (ktI y (F.take (npw (.str y))) hh)]))):=Yj (s4.trans s5) hlaH;generalize upd H4 Z (.lst (l2.map V.int++[.int (ktI y (F.take (npw (.str y))) hh)]))=H5 at *;refine⟨_,U,.inl ⟨U,_,SqL.of h5s⟩,_,U,_,U,_,U,_,U,1,U,Z,_,-1,.int (ktI y (F.take (npw (.str y))) hh),U,U,SqL.of h5l,yg _ _,y,pp,F.take (npw (.str y)),hh,_,U,h5p,by lia,hy,(λh=>by have:=hn2 h;lia),λH6 s7=>⟨st,_,_,U,U,s7 _ _ h5s,sml,_,_,_,U,hi,?_,?_,Yj (s6.trans s7) hst0⟩⟩
   .rw[Za,eX,Qbv,Qcx]
   .rw[Zj hsl.symm,eX,Qa6];exact s7 _ _ h5l
  .show if inV (.str y) (allR.map V.str)=true then _ else _
   rw[ZD,Qaq hna];have eX:XF ys cols pl kp (.str y::r)=(oaI y (F.take (npw (.str y)))::F.drop (npw (.str y)),l2):=by
    rw[eX];show(if y∈allR then _ else if y∈ys then _ else _)=_;rw[Qax hna,Qax hny]
   refine ZI ⟨_,U,_,_,_,_,U,.str y,X0,_,U,ZI ⟨_,U,_,U,dv,Ym kvs (.inr y),U,.inl ⟨kvs,.inr y,.inl (s4 _ _ hd),U,U⟩,_,U,?_⟩⟩;show if(Ym kvs (.inr y)).isSome=true then _ else _;rw[hc.2 y hny];refine ZI ⟨_,U,.inl ⟨U,_,SqL.of h3s⟩,_,U,_,U,y,pp,F.take (npw (.str y)),U,hpp,hy,by rw[hln3,hnp],λH4 s5=>?_⟩;obtain⟨f1,f2,f3⟩:=fin _ H4 eX s5;exact⟨st,_,_,U,U,s5 _ _ h3s,sml,_,_,_,U,hi,f1,f2,f3⟩
  .show if inV (.str y) (allR.map V.str)=true then _ else _
   rw[ZD,Qaq hna];have eX:XF ys cols pl kp (.str y::r)=(cols y::F.drop (npw (.str y)),l2):=by
    rw[eX];show(if y∈allR then _ else if y∈ys then _ else _)=_;rw[Qax hna,Qa2 hy]
   refine ZI ⟨_,U,_,_,_,_,U,.str y,X0,_,U,ZI ⟨_,U,_,U,dv,Ym kvs (.inr y),U,.inl ⟨kvs,.inr y,.inl (s4 _ _ hd),U,U⟩,_,U,?_⟩⟩;show if(Ym kvs (.inr y)).isSome=true then _ else _;rw[hc.1 y hy];obtain⟨f1,f2,f3⟩:=fin _ H3 eX (ZG.refl _);exact Y1 ⟨_,U,.inl ⟨U,_,SqL.of h3s⟩,_,U,_,U,dv,_,U,.inl ⟨kvs,.inr y,.inl (s4 _ _ hd),U,(hc.1 y hy).symm⟩,st,_,_,U,U,h3s,sml,_,_,_,U,hi,f1,f2,f3⟩
  .show if inV (.int z) (allR.map V.str)=true then _ else _
   rw[gm];refine ZI ⟨_,U,_,_,_,_,U,.int z,Wr,_,U,Y1 ⟨_,U,.inl ⟨U,_,SqL.of h3s⟩,_,U,_,U,_,_,U,U,Qch pl,_,_,U,U,_,U,?_⟩⟩;have ev:-(Builtin.bitAnd (z/2^(pl:Int).toNat) 1)=-(bt z pl):=by
    rw[and_1,Qbf];rfl
   try dsimp only
   rw[ev];obtain⟨f1,f2,f3⟩:=fin _ H3 eX (ZG.refl _);exact⟨st,_,_,U,U,h3s,sml,_,_,_,U,hi,f1,f2,f3⟩
 .rintro σ H2 ⟨u6,u7,u8,rfl,hi0,h2s,h2l,s3⟩;rw[Qfa,List.drop_zero,hst]at h2s h2l;refine⟨_,U,.inl ⟨U,_,SqL.of h2s⟩,st,_,.int o,U,U,h2s,U,_,U,ya,λtt htt=>?_⟩;have hlt:upd H2 st (.lst []) Z=some (.lst (lt.map V.int)):=by rw[Zj hsl.symm];exact h2l
  have s5:ZG H (upd H2 st (.lst [])):=Yj s3 hst0;exact k tt Z _ (s5.free htt) Za (Zc htt _ _ hlt) (s5.trans (Zc htt))
inductive XR(P:Aq)(w:Au)(K:Af)(mg:Ae)(base:Heap):Prop
 |mk(κ:Type)(dq:DecidableEq κ)(sk:SK κ)(pn f:Aw)(nm:Ai)(b:κ)(bv:V)(nx:κ->List κ)(ot:κ->List V)(Ua:List κ)(τ:Sp):vs=[.ref pn,bv,.ref f]->H pn=some (.tup (nm.map V.str))->sk.at_ H b bv->b∈Ua->(∀s∈Ua,(nx s).length<=8/\(ot s).length<=8/\∀x∈nx s,x∈Ua)->Ua.length<=1000000->nm.length<=3->Xf P w K mg base 12 f H τ->(∀(s:κ)(sv:V)(H1:Hp)(Q':VK),s∈Ua->sk.at_ H1 s sv->ZG H H1->(∀t r1 r2 ws H2,H2 t=some (.tup [.ref r1,.ref r2])->SqF H1 H2 r1 ws->StA sk H2 (nx s) ws->SqF H1 H2 r2 (ot s)->ZG H1 H2->Q' (.ref t) H2)->τ [sv] H1 Q' E0)->(∀p sts m (l:List κ) ws H',BfE nx b l->H' p=some (.tup [.ref sts,.ref m])->H sts=none->H' sts=some (.lst ws)->StA sk H' l ws->M4 H' m nm 0 (rnG nx l) (l.map ot)->ZG H H'->Q (.ref p) H')->XR P w K mg base
def xl(P:Aq)(w:Au)(K:Af)(mg:Ae)(base:Heap):Sp:=λvs H Q _=>XR vs H Q P w K mg base
theorem WO:FnD T.ao P w base 13 (xl P w K mg base):=by
 have O:=zV P base T TB XB;refine T.ao.go Yd ?_;rintro cdv A outer s H _ Q E hr ⟨κ,_,sk,pn,f,nm,b,bv,nx,ot,Ua,τ,rfl,hpn,hbv,hb,hU,h2,hn3,hc,hτ,k⟩;refine⟨_,(Zb (Zw 3 Yd.nd (ZP (Zi (qv 1) Zd)))
   (Zb (Zw 4 Yd.nd (QE.or (Zd9 (kg hr) (qv 1) Zf) (Zdq (ue (qv 1) Zf Zdp) U U (λz=>nomatch z) (by decide))))
   (Zb (Zw 5 Yd.nd (ZP Zd))
   (Zb (Zw 6 Yd.nd (ZP Zd))
   (Zb (yi Qbd (Zq Zae (Zr Zy (by rfl) T.ak Yr (Zi (qv 5) Zd)) (Zr Zy (by rfl) T.ak Yr (Zi (qv 3) Zd)) (Zx _))
   (Zb (Zw 7 Yd.nd (Zhf (k:=12) 2 (hr.mono (by decide)) (Zi (Z0 Zz (qv 3) (Zr Zy (by rfl) T.ak Yr (Zi (qv 5) Zd))) Zd)))
   (Zb (Yc (Y7 Qap Qaz Qa0 ZH (qv 5) (Zi (Z3 Z1 (by rfl) T.aj ZZ (Zi (Y4 ({}:ZS (Zh X3) _ ["names","begin","step_of","states","numbers","steps","out","told"] "state" ["states","numbers"] [3,4]) (QI.or (YF (Z0 ZE (qv 7) Zf)) (XC (Z0 ZE (qv 7) Zf))) (λ_ _ _ _=>Xo) (λ_ _ _ _=>(Zo T.cz O hr (Zi (qv 0) (Zi (qv 1) (Zi (qv 2) Zd)))))) Zd)) Zd)))
   (Ze (Yc (Y7 Qap Qaz Qa0 ZH (qv 6) (Zi (Z3 Z1 (by rfl) T.aj ZZ (Zi (Z0 ZE (qv 7) Zf) Zd)) Zd)))))))
   (Ze (Zn (Yf (Zi (qv 3) (Zi (Yf (Zi (Z3 Z1 (by rfl) T.aj ZZ (Zi (qv 0) Zd)) (Zi Zf (Zi (Z3 Z1 (by rfl) T.aj ZZ (Zi (qv 5) Zd)) (Zi (Z3 Z1 (by rfl) T.aj ZZ (Zi (qv 6) Zd)) Zd))))) Zd)))))))))),?_⟩
 try dsimp only[L2.cxK,L2.cxK2]
 refine L2.let6 ?_;intro U5 U4 U3 U2 U1;have hr:∀s∈Ua,∀x∈nx s,x∈Ua:=λs h=>(hU s h).2.2;refine⟨_,U,Zn2,λst hst=>?_⟩;have s1:=Zc (o:=.lst [bv]) hst;refine Zg ?_;have begun:∀(G:Aw)(H3:Hp),H G=none->H3 st=some (.lst [bv])->sk.dic H3 G [b]->sk.at_ H3 b bv->ZG H H3->U2 {nx:=λ_ H'=>Q .non H',rt:=Q} [some (.ref pn),some bv,some (.ref f),some (.ref st),some (.ref G),none,none,none] H3:=by
  intro G H3 hndH hst3 hnd3 hbv3 s3;obtain⟨ond,hond,ndT,ndL⟩:=SK.ne hnd3;refine⟨Zgr,λpp hpp=>Zg ⟨Zgr,λJ hpo=>Zg ?_⟩⟩;have sp:=Zc (o:=.lst []) hpp;have so:=sp.trans (Zc (o:=.lst []) hpo);have hppH:H pp=none:=s3.free hpp;have hpoH:H J=none:=s3.free (sp.free hpo);have pst:pp≠st:=(Zm hst3 hpp).symm;have pnd:pp≠G:=(Zm hond hpp).symm;have ppo:pp≠J:=Zm Za hpo;have ost:J≠st:=(Zm (sp _ _ hst3) hpo).symm;have oNd:J≠G:=(Zm (sp _ _ hond) hpo).symm;have rl:∀{H:Hp} {zs:A2} {i:Nat},Xw H zs (jn nx b i)->zs.length=i:=λz=>by
   have:=z.1;unfold jn at this;rw[Qab,Qa3]at this;exact this
  have ol:∀{H:Hp} {zs:A2} {i:Nat},Xw H zs (yM nx ot b i)->zs.length=i:=λz=>by
   have:=z.1;unfold yM at this;rw[Qab,Qa3]at this;exact this
  have Y:∀{Ha Hb:Hp},ZG Ha Hb->∀b xs,Ha b=some (.tup xs)->Hb b=some (.tup xs):=λs b xs e=>s _ _ e;refine gf (λσ H2=>∃(i:Nat)(u7:Option V)(zs os ws:A2),σ=[some (.ref pn),some bv,some (.ref f),some (.ref st),some (.ref G),some (.ref pp),some (.ref J),u7]/\H2 st=some (.lst ws)/\StA sk H2 (bfN nx b i) ws/\sk.dic H2 G (bfN nx b i)/\H2 pp=some (.lst zs)/\H2 J=some (.lst os)/\Xw H2 zs (jn nx b i)/\Xw H2 os (yM nx ot b i)/\(∀j,j<i->j<(bfN nx b j).length)/\i<=(bfN nx b i).length/\ZG H H2) (λ_ H2=>match H2 pp with|some (.lst zs)=>Ua.length-zs.length|_=>0) ⟨0,none,[],[],[bv],U,so _ _ hst3,StA.one (SK.keep hbv3 (Y so)),SK.stay hnd3 (λo e=>so _ _ e) (Y so),Zc hpo _ _ Za,Za,Xw.nil,Xw.nil,(λj hj=>absurd hj (Qed _)),Qbl _,s3.trans so⟩ ?_;rintro σ H4 ⟨i,u7,zs,os,ws,rfl,hst4,hA4,hnd4,hpp4,hpo4,Rz,Ro,hgo,hil,s4⟩;have hzl:=rl Rz;have hol:=ol Ro;have hlen:=Ze5 hb hr i;have hnod:=GD (nx:=nx) (b:=b) i;have hinU:=Ze4 hb hr i;refine⟨_,U,pp,_,U,.inl (SqL.of hpp4),_,U,st,_,U,.inl (SqL.of hst4),_,_,U,U,_,U,?_⟩;rw[hzl,hA4.1];refine qV (λhlt=>?_) (λhlt=>?_)
  .have hlt':i<(bfN nx b i).length:=by
    have:=Qbb hlt;lia
   obtain⟨F,hsi⟩:∃F,(bfN nx b i)[i]?=some F:=⟨_,Qac hlt'⟩;have hsU:F∈Ua:=hinU _ (Qam hsi);obtain⟨r8,o8,rU⟩:=hU F hsU;obtain⟨sv,hsv,hat⟩:=hA4.2 i F hsi;have eR:=Za1 (nx:=nx) (b:=b) hsi;have eO:=Za2 (nx:=nx) (ot:=ot) (b:=b) hsi;have eS:=yL (nx:=nx) (b:=b) hsi;refine⟨λσ' H'=>∃(u7:Option V)(zs' os' I:A2),σ'=[some (.ref pn),some bv,some (.ref f),some (.ref st),some (.ref G),some (.ref pp),some (.ref J),u7]/\H' st=some (.lst I)/\StA sk H' (bfN nx b (i+1)) I/\sk.dic H' G (bfN nx b (i+1))/\H' pp=some (.lst zs')/\H' J=some (.lst os')/\Xw H' zs' (jn nx b (i+1))/\Xw H' os' (yM nx ot b (i+1))/\ZG H H',?_,?_⟩
   .rintro σ' H' ⟨u8,zs',os',I,rfl,g1,gA,g2,g3,g4,g5,g6,s5⟩;have hpre:(bfN nx b i).length<=(bfN nx b (i+1)).length:=by
     obtain⟨r,e⟩:=Jz (nx F) (bfN nx b i);rw[eS,e,Qar];lia
    refine⟨Ua.length-(i+1),?_,?_,i+1,u8,zs',os',I,U,g1,gA,g2,g3,g4,g5,g6,λj hj=>?_,by lia,s5⟩
    .rw[hpp4];show Ua.length-(i+1)<Ua.length-zs.length;lia
    .rw[g3];show _=Ua.length-zs'.length;rw[rl g5]
    .by_cases hji:j=i
     .rw[hji];exact hlt'
     .exact hgo j (by lia)
   .refine⟨f,τ,U,hc.frz s4.frz,_,U,_,U,pp,_,U,.inl (SqL.of hpp4),st,_,_,sv,U,U,SqL.of hst4,by rw[hzl];exact Yn hsv,qf.refl _,hτ F sv H4 _ hsU hat s4 λtt r1 r2 ws0 H5 htt hr1 hA5 hr2 s5=>?_⟩;refine Zg ?_;generalize hl0:bfN nx b i=l0 at *;have hst5:=s5 _ _ hst4;have hnd5:sk.dic H5 G l0:=SK.stay hnd4 (λo e=>s5 _ _ e) (Y s5);have hpp5:=s5 _ _ hpp4;have hpo5:=s5 _ _ hpo4;obtain⟨ond4,hond4,nd4T,nd4L⟩:=SK.ne hnd4;have ndn:∀{r:Aw} {ys:A2},SqF H4 H5 r ys->r≠st/\r≠G/\r≠pp/\r≠J:=λ{r ys} z=>by
     have lst:∀{q:Aw} {o:HO},H4 q=some o->(∀xs,o≠.tup xs)->r≠q:=λ{q o} e ht e2=>by
      subst e2;rcases z with z|⟨_,z⟩
      .rw[s5 _ _ e]at z;exact ht ys (Option.some.inj z)
      .rw[e]at z;cases z
     exact⟨lst hst4 (λ_ z=>nomatch z),lst hond4 nd4T,lst hpp4 (λ_ z=>nomatch z),lst hpo4 λ_ z=>nomatch z⟩
    obtain⟨rst,rnd,_,_⟩:=ndn hr1;refine⟨_,U,.inl ⟨U,_,SqL.of hpp5⟩,?_⟩;have hr1':H5 r1=some (.tup ws0)\/H5 r1=some (.lst ws0):=hr1.imp id (λz=>z.1);have w8:ws0.length<=8:=by rw[hA5.1];exact r8
    refine Zia (a:=r1) (xs:=ws0) (λR hR=>⟨_,U,tt,_,0,_,U,U,SqT.of htt,U,hR⟩) hr1' (λj zs H'=>zs=((nx F).take j).map (λx=>Y9 ((bfN nx b (i+1)).idxOf x))/\(∃I,H' st=some (.lst I)/\StA sk H' (((nx F).take j).foldl Yw l0) I)/\sk.dic H' G (((nx F).take j).foldl Yw l0)/\(∀b o,H5 b=some o->b≠st->b≠G->H' b=some o)/\∀b,H5 b=none->H' b=none) ⟨U,⟨ws,hst5,hA4.keep (Y s5)⟩,hnd5,(λ_ _ e _ _=>e),λ_ e=>e⟩ ?_ ?_ ?_ ?_
    .rintro j zs H6 ⟨rfl,_⟩;rw[Qab,Qbg];exact Qaw (Z2 (by lia))
    .rintro j zs H6 ⟨_,_,_,g3,_⟩ o e;exact g3 _ _ e rst rnd
    .rintro j x zs H6 R hR hx ⟨rfl,⟨I,g1,gA⟩,g2,g3,g4⟩;have hj:j<(nx F).length:=by rw[<-hA5.1];exact(Qae.mp hx).1
     obtain⟨s',hs'⟩:∃s',(nx F)[j]?=some s':=⟨_,Qac hj⟩;have tp6:∀b xs,H5 b=some (.tup xs)->H6 b=some (.tup xs):=λb xs e=>g3 _ _ e (YQ e hst5 (λz=>nomatch z)) (λz=>by rw[z,s5 _ _ hond4]at e;exact nd4T xs (Option.some.inj e));obtain⟨v',hv',hat'⟩:=hA5.2 j s' hs';rw[hx]at hv';cases hv';have hat6:=SK.keep hat' tp6;have e1:((nx F).take (j+1)).foldl Yw l0=Yw (((nx F).take j).foldl Yw l0) s':=by
      rw[take_snoc hs',Qc7];rfl
     have e2:(bfN nx b (i+1)).idxOf s'=(Yw (((nx F).take j).foldl Yw l0) s').idxOf s':=by
      have e3:(nx F).foldl Yw l0=((nx F).drop (j+1)).foldl Yw (((nx F).take (j+1)).foldl Yw l0):=by rw[<-Qc7,Qcu]
      obtain⟨r,e4⟩:=Jz ((nx F).drop (j+1)) (((nx F).take (j+1)).foldl Yw l0);rw[eS,e3,e4,e1,xX (XD.mpr (.inr U))]
     have hnj:(((nx F).take j).foldl Yw l0).Nodup:=zB _ _ hnod;have hlj:(((nx F).take j).foldl Yw l0).length<10000000:=by
      have:=Ze3 ((nx F).take j) l0;rw[Qbg]at this;lia
     have ew:((nx F).take (j+1)).map (λx=>Y9 ((bfN nx b (i+1)).idxOf x))=((nx F).take j).map (λx=>Y9 ((bfN nx b (i+1)).idxOf x))++[Y9 ((bfN nx b (i+1)).idxOf s')]:=by
      rw[take_snoc hs',Qa6];rfl
     rw[ew,e1]at hR;rw[e2]at hR;generalize ((nx F).take j).foldl Yw l0=l' at *;refine Zpj ⟨_,U,_,U,_,U,κ,_,sk,x,st,G,s',l',I,U,g1,gA.1,g2,hat6,hnj,hlj,λH7 ws7 q1 q0 q2 q3 q4=>hR _ _ ⟨U,⟨ws7,q1,?_⟩,q2,(λb o e h1 h2=>q3 _ _ (g3 b o e h1 h2) h1 h2),λb e=>q4 _ (g4 b e)⟩⟩;have tp7:∀b xs,H6 b=some (.tup xs)->H7 b=some (.tup xs):=λb xs e=>q3 _ _ e (YQ e g1 (λz=>nomatch z)) λz=>by
      obtain⟨o,e7,h7,_⟩:=SK.ne g2;rw[z,e7]at e;exact h7 xs (Option.some.inj e)
     rcases q0 with⟨hm,rfl⟩|⟨hm,rfl⟩
     .rw[show Yw l' s'=l' from Qa2 hm];exact gA.keep tp7
     .rw[show Yw l' s'=l'++[s']from Qax hm];exact(gA.keep tp7).snoc (SK.keep hat6 tp7)
    .rintro zs1 H6 ⟨rfl,⟨I,g1,gA⟩,g2,g3,g4⟩ l hl;rw[hA5.1,Qbs]at g2 gA ⊢;rw[<-eS]at g2 gA;have tp6:∀{c:Aw} {ys:A2},H5 c=some (.tup ys)->H6 c=some (.tup ys):=λ{c ys} e=>g3 _ _ e (YQ e hst5 (λz=>nomatch z)) (λz=>by rw[z,s5 _ _ hond4]at e;exact nd4T ys (Option.some.inj e));have hpp6:=g3 _ _ hpp5 pst pnd;have hpo6:=g3 _ _ hpo5 ost oNd;have htt6:=tp6 htt;have Z:H6 r2=some (.tup (ot F))\/H6 r2=some (.lst (ot F)):=by
      obtain⟨z1,z2,_⟩:=ndn hr2;rcases hr2 with z|⟨z,_⟩
      .exact .inl (g3 _ _ z z1 z2)
      .exact .inr (g3 _ _ z z1 z2)
     have ndr2:=ndn hr2;refine⟨l,_,U,.inl ⟨SqL.of Za,λq hq=>?_⟩⟩;have sl:=Zc (o:=.lst ((nx F).map λx=>Y9 ((bfN nx b (i+1)).idxOf x))) hl;have sq:=sl.trans (Zc (o:=.tup ((nx F).map λx=>Y9 ((bfN nx b (i+1)).idxOf x))) hq);have hqp:q≠pp:=(Zm (sl _ _ hpp6) hq).symm;have hqo:q≠J:=(Zm (sl _ _ hpo6) hq).symm;refine⟨pp,_,_,U,U,sq _ _ hpp6,Yv (by lia),?_⟩;have k8:∀c o,H6 c=some o->c≠pp->upd (upd (upd H6 l (.lst ((nx F).map λx=>Y9 ((bfN nx b (i+1)).idxOf x)))) q (.tup ((nx F).map λx=>Y9 ((bfN nx b (i+1)).idxOf x)))) pp (.lst (zs++[.ref q])) c=some o:=λc o e hc=>by
      rw[Zj hc];exact sq _ _ e
     have hq8:upd (upd (upd H6 l (.lst ((nx F).map λx=>Y9 ((bfN nx b (i+1)).idxOf x)))) q (.tup ((nx F).map λx=>Y9 ((bfN nx b (i+1)).idxOf x)))) pp (.lst (zs++[.ref q])) q=some (.tup ((nx F).map λx=>Y9 ((bfN nx b (i+1)).idxOf x))):=by
      rw[Zj hqp];exact Za
     have hp8:=Za (H:=upd (upd H6 l (.lst ((nx F).map λx=>Y9 ((bfN nx b (i+1)).idxOf x)))) q (.tup ((nx F).map λx=>Y9 ((bfN nx b (i+1)).idxOf x)))) (a:=pp) (o:=.lst (zs++[.ref q]));have d8:sk.dic (upd (upd (upd H6 l (.lst ((nx F).map λx=>Y9 ((bfN nx b (i+1)).idxOf x)))) q (.tup ((nx F).map λx=>Y9 ((bfN nx b (i+1)).idxOf x)))) pp (.lst (zs++[.ref q]))) G (bfN nx b (i+1)):=SK.off (SK.stay g2 (λo e=>sq _ _ e) (Y sq)) (sq _ _ hpp6);generalize upd (upd (upd H6 l (.lst ((nx F).map λx=>Y9 ((bfN nx b (i+1)).idxOf x)))) q (.tup ((nx F).map λx=>Y9 ((bfN nx b (i+1)).idxOf x)))) pp (.lst (zs++[.ref q]))=H8 at *;have tp8:∀{c:Aw} {ys:A2},H6 c=some (.tup ys)->H8 c=some (.tup ys):=λ{c ys} e=>k8 _ _ e (YQ e hpp6 (λz=>nomatch z));have hpo8:=k8 _ _ hpo6 ppo.symm;have last:∀(a9:Aw)(H9:Hp),H9 a9=some (.tup (ot F))->ZG H8 H9->H9 J=some (.lst os)/\(upd H9 J (.lst (os++[.ref a9])) st=some (.lst I)/\StA sk (upd H9 J (.lst (os++[.ref a9]))) (bfN nx b (i+1)) I/\sk.dic (upd H9 J (.lst (os++[.ref a9]))) G (bfN nx b (i+1))/\upd H9 J (.lst (os++[.ref a9])) pp=some (.lst (zs++[.ref q]))/\upd H9 J (.lst (os++[.ref a9])) J=some (.lst (os++[.ref a9]))/\Xw (upd H9 J (.lst (os++[.ref a9]))) (zs++[.ref q]) (jn nx b (i+1))/\Xw (upd H9 J (.lst (os++[.ref a9]))) (os++[.ref a9]) (yM nx ot b (i+1))/\ZG H (upd H9 J (.lst (os++[.ref a9])))):=by
      intro a9 H9 ha9 s9;have hpo9:=s9 _ _ hpo8;have tp9:∀{c:Aw} {ys:A2},H9 c=some (.tup ys)->upd H9 J (.lst (os++[.ref a9])) c=some (.tup ys):=λ{c ys} e=>by rw[Zj (YQ e hpo9 (λz=>nomatch z))];exact e
      have tp59:∀b xs,H5 b=some (.tup xs)->upd H9 J (.lst (os++[.ref a9])) b=some (.tup xs):=λb xs e=>tp9 (s9 _ _ (tp8 (tp6 e)));refine⟨hpo9,?_,gA.keep (λb xs e=>tp9 (s9 _ _ (tp8 e))),SK.off (SK.stay d8 (λo e=>s9 _ _ e) (Y s9)) hpo9,?_,Za,?_,?_,λc o' e=>?_⟩
      .rw[Zj ost.symm];exact s9 _ _ (k8 _ _ g1 pst.symm)
      .rw[Zj ppo];exact s9 _ _ hp8
      .rw[eR];exact(jS (λb xs e=>tp59 b xs (s5 _ _ e)) Rz).snoc (tp9 (s9 _ _ hq8))
      .rw[eO];exact(jS (λb xs e=>tp59 b xs (s5 _ _ e)) Ro).snoc (tp9 ha9)
      .have cp:c≠pp:=Zm e hppH;have co:c≠J:=Zm e hpoH;rw[Zj co];exact s9 _ _ (k8 _ _ (g3 _ _ (s5 _ _ (s4 _ _ e)) (Zm e hst) (Zm e hndH)) cp)
     refine⟨_,U,.inl ⟨U,_,SqL.of hpo8⟩,_,U,tt,_,1,_,U,U,SqT.of (tp8 htt6),U,r2,ot F,U,?_⟩;rcases Z with Z|Z
     .obtain⟨l1,l2⟩:=last r2 H8 (tp8 Z) (ZG.refl _);exact .inr ⟨SqT.of (tp8 Z),J,_,_,U,U,l1,Yv (by lia),_,zs++[.ref q],os++[.ref r2],I,U,l2⟩
     .refine .inl ⟨SqL.of (k8 _ _ Z ndr2.2.2.1),λa9 ha9=>?_⟩;obtain⟨l1,l2⟩:=last a9 (upd H8 a9 (.tup (ot F))) Za (Zc ha9);exact⟨J,_,_,U,U,l1,Yv (by lia),_,zs++[.ref q],os++[.ref a9],I,U,l2⟩
  .have hle:(bfN nx b i).length=i:=by
    have:¬(i:Int)<((bfN nx b i).length:Int):=λz=>hlt (Qan z);lia
   refine⟨_,U,_,U,pn,_,U,.inr ⟨SqT.of (s4 _ _ hpn),_,U,pp,_,U,.inl ⟨SqL.of hpp4,λa1 ha1=>⟨_,U,J,_,U,.inl ⟨SqL.of (Zc ha1 _ _ hpo4),λa2 ha2=>⟨zln4,λm hm=>⟨ya,λp hp=>?_⟩⟩⟩⟩⟩⟩⟩;have q1:=Zc (o:=.tup zs) ha1;have q2:=Zc (o:=.tup os) ha2;have q3:=Zc (o:=.tup [.ref pn,.int 0,.ref a1,.ref a2]) hm;have q4:=Zc (o:=.tup [.ref st,.ref m]) hp;have qq:=q1.trans (q2.trans (q3.trans q4));refine k p st m (bfN nx b i) ws _ ⟨by rw[hle],λj hj=>hgo j (by lia)⟩ Za hst (qq _ _ hst4) (hA4.keep (Y qq)) ⟨⟨pn,a1,a2,q4 _ _ Za,qq _ _ (s4 _ _ hpn),⟨zs,(q2.trans (q3.trans q4)) _ _ Za,?_,λj r hj=>?_⟩,⟨os,(q3.trans q4) _ _ Za,?_,λj r hj=>?_⟩⟩⟩ (s4.trans qq)
   .rw[hzl,Qab,zD,hle]
   .rw[<-Ze6 hle hgo]at hj;obtain⟨a,g1,g2⟩:=Rz.2 j r hj;exact⟨a,g1,qq _ _ g2⟩
   .rw[hol,Qab,hle]
   .rw[<-Ze7 hle hgo]at hj;obtain⟨a,g1,g2⟩:=Ro.2 j r hj;exact⟨a,g1,qq _ _ g2⟩
 have fin:∀(G:Aw)(H3:Hp),H G=none->G≠st->(∃o,H3=upd (upd H st (.lst [bv])) G o)->sk.dic H3 G [b]->U2 {nx:=λ_ H'=>Q .non H',rt:=Q} [some (.ref pn),some bv,some (.ref f),some (.ref st),some (.ref G),none,none,none] H3:=by
  intro G H3 hndH hne ho hd3;obtain⟨o,rfl⟩:=ho;have hnd1:upd H st (.lst [bv]) G=none:=by rw[Zj hne];exact hndH
  have s3:=s1.trans (Zc (o:=o) hnd1);exact begun G _ hndH (by rw[Zj hne.symm];exact Za) hd3 (SK.keep hbv λb xs e=>s3 _ _ e) s3
 cases sk with
 |int f9 inj=>
  have hbv:bv=.int (f9 b):=hbv;subst hbv;refine .inr λG hnd=>?_;have snd:st≠G:=Zm Za hnd;refine⟨_,U,Za,[(.inl (f9 b),.int 0)],U,by show 1<=15;decide,Zg ?_⟩;have em:Gr [] [((.inl (f9 b):Key),V.int 0)]=nk ([b].map f9):=rfl;rw[em,yb];exact fin G _ (s1.free hnd) snd.symm ⟨_,U⟩ Za
 |key kn=>
  obtain⟨a,rfl,ha⟩:=id hbv;refine .inl λG hnd=>?_;have snd:st≠G:=Zm Za hnd;have sn2:=s1.trans (Zc (o:=.dK []) hnd);refine⟨_,U,κ,_,kn,a,b,U,Za,kn.keep _ _ _ _ (λb xs e=>sn2 _ _ e) ha,λH' n' _ ho=>Zg ?_⟩;obtain⟨o,rfl⟩:=ho;rw[yb]at n' ⊢;exact fin G _ (s1.free hnd) snd.symm ⟨_,U⟩ n'
inductive jZ(pw:Aw):Prop
 |mk(m:Aw)(nm:Ai)(b:Nat)(nx:Ad)(ot:Az)(tr:Bool):vs=[.ref m]->M4 H m nm b nx ot->Wf nm b nx ot tr->ZF H pw ZK ZL->(∀f (l cs:Aj) H',jR nx b l->cs=Zgo (rnR nx l) (Zfn (rnQ ot l)) l.length->Zgp (rnR nx l) cs->Zba (Zfn (rnQ ot l)) cs->M4 H' f nm 0 (lsR (rnR nx l) cs) (lsO (rnQ ot l) cs)->ZF H' pw ZK ZL->Znz pw H H'->Q (.ref f) H')->jZ pw
def Zi3(K:Af)(e:Aw):Sp:=λvs H Q _=>jZ vs H Q e
theorem Zi4:FnD T.iq P w base 14 (Zi3 K t.aq):=by
 have Ua:=GO P base T TB XB;have Y:=wg P base T TB XB;have J:=xk P base T TB XB;have I:=WO P base T TB XB;refine T.iq.F.okC XI (λvs H Q E h=>?_) (λA outer s H vs Q E hr h=>?_)
 .obtain⟨_,_,_,_,_,_,rfl,_⟩:=h;rfl
 .obtain⟨m,nm,b,nx,ot,tr,rfl,M,W,B,k⟩:=h;refine⟨_,@QSs.out _ _ _ (Zb (Zw 1 XI.nd (Z0 ZE (Zd4 (kl:=11) I (hr.mono (by decide)) U T.ao.m T.ao.F.kp T.ao.b U (Z0 ZE (qv 0) Zf) (Z0 ZE (qv 0) Zf) T.abr TB.ip TB.B U U U U (⟨⟨by rfl,by rfl,by rfl,by decide +kernel,by decide +kernel,by decide +kernel,by decide +kernel⟩,by decide +kernel,by decide +kernel,by rfl⟩:Zol (Zh zo) _ ["machine","found","steps","out","classes","firsts","least_steps","least_out"] ["state"] ["machine"] [0]) (λ_ _ _ _ us hl=>match us,hl with|[_],_=>rfl) (λ_ _ _ _ _ _ _ hrl=>(Yf (Zi (Z0 (show IxR _ (gO K)from ZE) (Z0 (show IxR _ (gO K)from ZE) (qv 1) Zf) (qv 0)) (Zi (Z0 (show IxR _ (gO K)from ZE) (Z0 (show IxR _ (gO K)from ZE) (qv 1) Zf) (qv 0)) Zd))))) Zf))
    (Zb (Zw 2 XI.nd (Z0 ZE (qv 1) Zf))
    (Zb (Zw 3 XI.nd (Z0 ZE (qv 1) Zf))
    (Zb (Zw 4 XI.nd (Zo T.cm J hr (Zi (qv 2) (Zi (qv 3) Zd))))
    (Zb (Zw 5 XI.nd (Zo T.fh Y hr (Zi (qv 4) Zd)))
    (Zb (yj (i:=6) XI.nd U U ({}:ZS (Zh zo) _ ["machine","found","steps","out","classes","firsts","least_steps","least_out"] "state" ["classes","steps"] [4,2]) (YF (qv 5)) (λ_ _ _ _=>Xo) (λ_ _ _ _=>(Zo T.bx Ua hr (Zi (Z0 (show IxR _ (gO K)from ZE) (qv 2) (qv 0)) (Zi (qv 1) Zd)))))
    (Zb (yj (i:=7) XI.nd U U ({}:ZS (Zh zo) _ ["machine","found","steps","out","classes","firsts","least_steps","least_out"] "state" ["out"] [3]) (YF (qv 5)) (λ_ _ _ _=>Xo) (λ_ _ _ _=>(Z0 (show IxR _ (gO K)from ZE) (qv 1) (qv 0))))
    (Ze (Zn (Yf (Zi (Z0 ZE (qv 1) Zf) (Zi Zf (Zi (Z3 Z1 (by rfl) T.aj ZZ (Zi (qv 6) Zd)) (Zi (Z3 Z1 (by rfl) T.aj ZZ (Zi (qv 7) Zd)) Zd)))))))))))))),?_⟩
  try dsimp only[L2.cxK,L2.cxK2]
  obtain⟨pn,ps,po,hm,hn,R,O⟩:=M.ex;obtain⟨pz,hpz⟩:=B.ex;have tP:∀{b:Aw} {xs:A2},H b=some (.tup xs)->b≠t.aq:=λe=>YQ e hpz (λz=>nomatch z);refine⟨_,U,m,_,0,_,U,U,SqT.of hm,U,_,U,m,_,1,_,U,U,SqT.of hm,U,B,λcs f H2 hcs hfz hf hT2 o2 hc=>?_⟩;have t2:∀(b:Aw)(xs:A2),H b=some (.tup xs)->H2 b=some (.tup xs):=λb xs e=>o2 _ _ e (tP e);have hL8:=p8 W.n3;refine⟨Nat,inferInstance,.int (λs:Nat=>(s:Int)) (λa b e=>Int.ofNat.inj e),pn,f,nm,b,.int b,(λs=>nx.getD s []),(λs=>ot.getD s []),List.range nx.length,_,U,t2 _ _ hn,U,Qbw.mpr W.b,(λs hs=>⟨by rw[W.row (Qbw.mp hs)];exact hL8,by rw[W.or _ (getD_mem (show s<ot.length by rw[W.ol];exact Qbw.mp hs))];exact hL8,λx hx=>Qbw.mpr (W.nl _ (getD_mem (Qbw.mp hs)) x hx)⟩),by rw[Qa3];exact W.le,W.n3,hc,λs sv H1 Q' hs hat sH hQ=>⟨U,?_⟩,λp sts fm l wsl H3 B3 hp hsts0 hsts hA M3 s3=>?_⟩
  .have hs:=Qbw.mp hs;have hat:sv=.int s:=hat;subst hat;have th:∀(b:Aw)(xs:A2),H b=some (.tup xs)->hide cs H1 b=some (.tup xs):=λb xs e=>G1 hfz sH (sH _ _ (t2 _ _ e)) (λo z=>nomatch z);obtain⟨pn',ps',po',hm',_,R',O'⟩:=(M.tups th).ex;obtain⟨as1,a1,g1,g2,g3⟩:=JY R' (i:=s) (by rw[Qab];exact hs);obtain⟨as2,a2,f1,f2,f3⟩:=JY O' (i:=s) (by rw[W.ol];exact hs);rw[GA]at g3;refine⟨_,U,m,_,2,_,U,U,SqT.of hm',U,_,U,ps',_,_,_,U,U,SqT.of g1,g2,_,U,m,_,3,_,U,U,SqT.of hm',U,_,U,po',_,_,_,U,U,SqT.of f1,f2,ya,λq hq hcn=>?_⟩;obtain⟨sq,hq2⟩:=Zm8 hq hcn;exact hQ q a1 a2 _ _ hq2 (.inl (sq _ _ (of_hide g3).2)) ⟨by unfold jQ;rw[Qab],λi k hk=>⟨Y9 k,by unfold jQ;rw[Qag,hk];rfl,U⟩⟩ (.inl (sq _ _ (of_hide f3).2)) sq
  have B3:=Znb B3;have M3:M4 H3 fm nm 0 (rnR nx l) (rnQ ot l):=M3;have t3:∀(b:Aw)(xs:A2),H3 b=some (.tup xs)->hide cs H3 b=some (.tup xs):=λb xs e=>G1 hfz s3 e (λo z=>nomatch z);have T3:=hT2 H3 s3;have off3:Znz t.aq H (hide cs H3):=λb o e hb=>by
   rw[ZA (λm=>by rw[hcs b m]at e;cases e)];exact s3 _ _ (o2 _ _ e hb)
  have M3':M4 (hide cs H3) fm nm 0 (rnR nx l) (rnQ ot l):=M3.tups t3;have hp':=t3 _ _ hp;try dsimp only
  generalize hide cs H3=H4 at *;have W1:=Zo8 W B3;have hl1:=Gd nx l;have hle:=W1.le;have hb1:=W1.b;have C1:=yT B3;obtain⟨pn4,ps4,po4,hm4,hn4,R4,O4⟩:=M3'.ex;refine⟨p,_,1,_,U,U,SqT.of hp',U,Zg ?_⟩;refine⟨_,U,fm,_,2,_,U,U,SqT.of hm4,U,_,U,fm,_,3,_,U,U,SqT.of hm4,U,_,U,_,U,ps4,po4,rnR nx l,rnQ ot l,Zfn (rnQ ot l),U,R4,O4,Zna W1,W1.ol,(λrow h=>⟨by rw[W1.nr row h];exact hL8,W1.nl row h⟩),hb1,by lia,λpc G H5 hpc0 hpc hcl hst hnn hcls hcn s5=>?_⟩;have S:Zgp (rnR nx l) G:=⟨hcl,hst⟩;have F:=x5 hnn;have hfl:=kN G;rw[hl1]at hcn hle;have hcl':G.length=l.length:=by rw[hcl,hl1]
  refine⟨_,U,pc,G.map λc:Nat=>(c:Int),U,by rw[hpc,Qay];rfl,by rw[Qab];lia,λpf H6 hpf0 hpf s6=>?_⟩;have hpf:H6 pf=some (.lst ((Xb G).map Y9)):=hpf;have s56:=s5.trans s6;have fR:∀{i f:Nat},(Xb G)[i]?=some f->f<(rnR nx l).length:=λ{i f} h=>by
   rw[<-hcl];exact(Qae.mp (F.at_ _ _ h).1).1
  have fl:(Xb G).length<=1000000:=by lia
  refine Zg ⟨_,U,pf,U,⟨_,SqL.of hpf⟩,XZ (K:=K) (a:=pf) (xs:=(Xb G).map Y9) (λi zs H'=>Xw H' zs (((lsR (rnR nx l) G).map jQ).take i)/\i<=(Xb G).length/\ZG H6 H') ⟨Xw.nil,Qbl _,ZG.refl _⟩ (λi zs H' h=>?_) (λi zs H' h=>SqL.of (h.2.2 _ _ hpf)) (λi x zs H7 R7 hR hx h=>?_) (λzs H7 h p1 hp1=>?_)⟩
  .rw[h.1.1,Qbg];exact Qaw (Yv (by lia))
  .obtain⟨hZ,hi,s7⟩:=h;rw[Qag]at hx;obtain⟨f1,Z,rfl⟩:=Qa5.mp hx;have hil:=(Qae.mp Z).1;have hfr:=fR Z;have s47:=s56.trans s7;obtain⟨as1,a1,g1,g2,g3⟩:=JY (R4.same s47) (i:=f1) (by rw[Qab];exact hfr);rw[GA]at g3;have r8:=W1.nr _ (getD_mem hfr);refine Zpj ⟨_,U,_,U,ps4,_,_,_,U,U,SqT.of g1,g2,_,U,a1,pc,(rnR nx l).getD f1 [],G.map λc:Nat=>(c:Int),U,g3,?_,(λs hs=>?_),by lia,by rw[Qab];lia,λq H8 hq0 hq s8=>hR _ _ ⟨?_,hil,s7.trans s8⟩⟩
   .rw[(s6.trans s7) _ _ hpc,Qay];rfl
   .rw[Qab,hcl];exact W1.nl _ (getD_mem hfr) s hs
   .have e1:((lsR (rnR nx l) G).map jQ)[i]?=some (jQ (((rnR nx l).getD f1 []).map λx=>G.getD x 0)):=by
     unfold lsR;rw[Qag,Qag,Z];rfl
    have e2:(((rnR nx l).getD f1 []).map λs=>(G.map λc:Nat=>(c:Int)).getD s 0).map V.int=jQ (((rnR nx l).getD f1 []).map λx=>G.getD x 0):=by
     unfold jQ;rw[Qay,Qay];refine Qbo λs _=>?_;exact congrArg V.int (Zfo G s)
    rw[e2]at hq;rw[take_snoc e1];exact(hZ.same s8).snoc hq
  obtain⟨hZ,_,s7⟩:=h;have ll:((Xb G).map Y9).length=((lsR (rnR nx l) G).map jQ).length:=by
   unfold lsR;rw[Qab,Qab,Qab]
  rw[ll,Qbs]at hZ;have u1:=Zc (o:=.lst zs) hp1;have hp1':upd H7 p1 (.lst zs) p1=some (.lst zs):=Za;have hZ1:=hZ.same u1;have s67:=s7.trans u1;try dsimp only
  generalize upd H7 p1 (.lst zs)=H8 at *;have hpf8:=s67 _ _ hpf;refine Zg ⟨_,U,pf,U,⟨_,SqL.of hpf8⟩,XZ (K:=K) (a:=pf) (xs:=(Xb G).map Y9) (λi zs H'=>Xw H' zs ((lsO (rnQ ot l) G).take i)/\i<=(Xb G).length/\ZG H8 H') ⟨Xw.nil,Qbl _,ZG.refl _⟩ (λi zs H' h=>?_) (λi zs H' h=>SqL.of (h.2.2 _ _ hpf8)) (λi x zs H9 R9 hR hx h=>?_) (λzs2 H9 h p2 hp2=>?_)⟩
  .rw[h.1.1,Qbg];exact Qaw (Yv (by lia))
  .obtain⟨hZ,hi,s9⟩:=h;rw[Qag]at hx;obtain⟨f1,Z,rfl⟩:=Qa5.mp hx;have hil:=(Qae.mp Z).1;have hfr:=fR Z;obtain⟨as1,a1,g1,g2,g3⟩:=JY (O4.same ((s56.trans s67).trans s9)) (i:=f1) (by rw[W1.ol];exact hfr);refine Zpj ⟨_,U,_,U,po4,_,_,_,U,U,SqT.of g1,g2,hR _ _ ⟨?_,hil,s9⟩⟩;have e1:(lsO (rnQ ot l) G)[i]?=some ((rnQ ot l).getD f1 []):=by
    unfold lsO;rw[Qag,Z];rfl
   rw[take_snoc e1];exact hZ.snoc g3
  obtain⟨hO,_,s9⟩:=h;have ll2:((Xb G).map Y9).length=(lsO (rnQ ot l) G).length:=by
   unfold lsO;rw[Qab,Qab]
  rw[ll2,Qbs]at hO;have u2:=Zc (o:=.lst zs2) hp2;have s4z:=(s56.trans s67).trans (s9.trans u2);have hm9:=s4z _ _ hm4;refine Zg ⟨_,U,fm,_,0,_,U,U,SqT.of hm9,U,_,U,p1,_,U,.inl ⟨SqL.of ((s9.trans u2) _ _ hp1'),λa1 ha1=>⟨_,U,p2,_,U,.inl ⟨SqL.of (Zc ha1 _ _ Za),λa2 ha2=>⟨zln4,λfr hfr=>?_⟩⟩⟩⟩⟩;have q1:=Zc (o:=.tup zs) ha1;have q2:=Zc (o:=.tup zs2) ha2;have q3:=Zc (o:=.tup [.ref pn4,.int 0,.ref a1,.ref a2]) hfr;have q:=(q1.trans q2).trans q3;have s4q:=s4z.trans q;refine k fr l G _ B3 hcn S hcls ⟨⟨pn4,a1,a2,Za,s4q _ _ hn4,⟨zs,(q2.trans q3) _ _ Za,(hZ1.same ((s9.trans u2).trans q)).1,(hZ1.same ((s9.trans u2).trans q)).2⟩,⟨zs2,q3 _ _ Za,(hO.same (u2.trans q)).1,(hO.same (u2.trans q)).2⟩⟩⟩ (T3.same s4q) (λb o e hb=>s4q _ _ (off3 b o e hb))
inductive Xt(w:Au)(pw:Aw):Prop
 |mk(tw tn tt:Aw)(ws:A2)(nm:Ai)(o0 o1:V)(B kc:Nat):vs=[.ref tw,.ref tn,.ref tt]->H tw=some (.tup ws)->ws.length<=100->H tn=some (.tup (nm.map V.str))->nm.Nodup->nm.length<=3->H tt=some (.tup [o0,o1])->(∀w∈ws,yF nm w)->Jk ws->uC ws=1->(∀z:Int,V.int z∈ws->0<=z/\z<2^B)->kc=JZ ws->(B+1)*2^kc<=1000000->ZF H pw Zp Zl->(∀m (l:List (Int×Ak)) H',BfE (nxT nm (Xa (2^nm.length) nm) ws (lgB ws)) (0,List.replicate kc 0) l->M4 H' m nm 0 (rnG (nxT nm (Xa (2^nm.length) nm) ws (lgB ws)) l) (l.map (otT nm (Xa (2^nm.length) nm) ws o0 o1))->ZF H' pw Zp Zl->Znz pw H H'->Q (.ref m) H')->Xt w pw
def GX(P:Aq)(w:Au)(K:Af)(mg:Ae)(base:Heap)(e:Aw):Sp:=λvs H Q _=>Xt vs H Q w e
theorem GY:FnD T.bw P w base 14 (GX P w K mg base t.aa):=by
 have J:=WO P base T TB XB;have G_bits_at:=Zbl P base T TB XB;have G_stepped:=Zbn P base T TB XB;have Z:=qP P base T TB XB;have I:=qz P base T TB XB;have Ua:=ja P base T TB XB;have G_words_at:=zU P base T TB XB;refine T.bw.F.okC ZQ (λvs H Q E h=>?_) (λA outer s H vs Q E hr h=>?_)
 .obtain⟨_,_,_,_,_,_,_,_,_,rfl,_⟩:=h;rfl
 .obtain⟨tw,tn,tt,G,nm,o0,o1,B,kc,rfl,ht,hl,hn,hnd,hn3,hto,hw,he,hst,hB,hkc,hbig,hT,k⟩:=h;refine⟨_,@QSs.out _ _ _ (Zb (Zw 3 ZQ.nd (Z3 (wY U) (by rfl) T.sj Zcq (Zi (Z3 xW (by rfl) T.ay gP (Zi (Zo T.di G_words_at hr (Zi (Zr Zy (by rfl) T.ak Yr (Zi (qv 1) Zd)) Zd)) Zd)) Zd)))
    (Zb (Zw 4 ZQ.nd (Zo T.dg Ua hr (Zi (qv 1) (Zi (qv 3) Zd))))
    (Zb (Zw 5 ZQ.nd (Zo T.bz I hr (Zi (qv 0) Zd)))
    (Zb (qs_def (i:=6) (name:= "step_of") (params:=WR YM) (body:=YW YM) (scope:=Zh YM) (lpos:=Zp) (qual:=Zl) ZQ.nd U (Or.inl U) T.lx TB.br TB.B U U U U (S0:=Zh ZW) U (by decide +kernel))
    (Zb (Zw 7 ZQ.nd (Yf (Zi Zf (Zi (Z3 Z1 (by rfl) T.aj ZZ (Zi (Y4 ({}:ZS (Zh ZW) _ ["words","names","told","letters","columns","last_place","step_of","begin"] "word" [] []) (XC (qv 0)) (λ_ _ _ _=>(vH (Y6 (Zo T.cy Z hr (Zi (qv 0) Zd))))) (λ_ _ _ _=>Zf)) Zd)) Zd))))
    (Ze (Zn (Z0 ZE (Zht (kl:=11) (i:=6) (name:= "step_of") (params:=WR YM) (body:=YW YM) (scope:=Zh YM) (qual:=Zl) J (hr.mono (by decide)) U T.ao.m T.ao.F.kp T.ao.b U (Zi (qv 1) (Zi (qv 7) (Zi (qv 6) Zd))) U U (⟨J3,by decide +kernel,by decide +kernel,by rfl⟩:Zos (Zh ZW) _ ["words","names","told","letters","columns","last_place","step_of","begin"] ["state"] ["step","place","reached"] ["words","columns","last_place","letters","told"] [0,4,5,3,2]) (λ_ _ _ _ _ us hl=>match us,hl with|[_],_=>rfl) (λ_ _ _ _ _ _ _ hrl=>(Zb (Zw 1 J3.nd (Gk G_stepped (hrl.mono (by decide)) U T.cq.m T.cq.F.kp T.cq.b .nil Zk8 (Zi (qv 4) (Zi (qv 5) (Zi (Z0 (show IxR _ (gO K)from ZE) (qv 0) Zf) (Zi (Z0 (show IxR _ (gO K)from ZE) (qv 0) Zf) Zd))))))
    (Zb (Zw 2 J3.nd (Zr (vn U) (by rfl) T.abf Zjy (Zi (Zs YB (Z0 (show IxR _ (gO K)from ZE) (qv 0) Zf) Zf) (Zi (qv 6) Zd))))
    (Zb (yj (i:=3) J3.nd U U ({}:ZS (Zh YM) _ ["state","step","place","reached","words","columns","last_place","letters","told"] "letter" ["place","step"] [2,1]) (show QI _ _ _ (Zgt K (vk 7))from YF (qv 7)) (λ_ _ _ _=>Xo) (λ_ _ _ _=>(Yf (Zi (qv 1) (Zi (Gk G_bits_at (hrl.mono (by decide)) U T.ck.m T.ck.F.kp T.ck.b .nil Zk8 (Zi (Z0 (show IxR _ (gO K)from ZE) (qv 2) Zf) (Zi (qv 0) Zd))) Zd)))))
    (Ze (Zn (Yf (Zi (qv 3) (Zi (Y4 ({}:ZS (Zh YM) _ ["state","step","place","reached","words","columns","last_place","letters","told"] "letter" ["told","step"] [8,1]) (show QI _ _ _ (Zgt K (vk 7))from YF (qv 7)) (λ_ _ _ _=>Xo) (λ_ _ _ _=>(Z0 (show IxR _ (gO K)from ZE) (qv 1) (Zs YT (Zs j4 (Z0 (show IxR _ (gO K)from ZE) (qv 2) Zf) (qv 0)) Zf)))) Zd)))))))))) Zf)))))))),?_⟩
  try dsimp only[L2.cxK,L2.cxK2]
  have h8:=p8 hn3;have e2:((2:Int)^nm.length)=((2^nm.length:Nat):Int):=by rw[Qhj];rfl
  have hflat:∀w∈G,X8 w=true/\((∃y,w=.str y)\/∃z:Int,w=.int z):=λw h=>by
   rcases hw w h with⟨y,rfl,_⟩|⟨y,rfl,_⟩|⟨y,rfl,_⟩|⟨z,rfl,_⟩
   .exact⟨U,.inl ⟨y,U⟩⟩
   .exact⟨U,.inl ⟨y,U⟩⟩
   .exact⟨U,.inl ⟨y,U⟩⟩
   .exact⟨U,.inr ⟨z,U⟩⟩
  refine⟨_,U,tn,_,U,.inr (SqT.of hn),nm.length,by rw[Qab];rfl,by lia,_,U,λpr hpr=>⟨pr,2^nm.length,U,by rw[Za,e2],by lia,λtl htl=>Zg ?_⟩⟩;have s1:=Zc (o:=.rng 0 ((2:Int)^nm.length)) hpr;have s2:=s1.trans (Zc (o:=.lst ((List.range (2^nm.length)).map λi:Nat=>V.int i)) htl);have htl2:=Za (H:=upd H pr (.rng 0 ((2:Int)^nm.length))) (a:=tl) (o:=.lst ((List.range (2^nm.length)).map λi:Nat=>V.int i));have htlH:H tl=none:=s1.free htl;try dsimp only
  generalize upd (upd H pr (.rng 0 ((2:Int)^nm.length))) tl (.lst ((List.range (2^nm.length)).map λi:Nat=>V.int i))=H2 at *;refine⟨_,U,_,U,tn,tl,nm,2^nm.length,U,s2 _ _ hn,hnd,by lia,htl2,by lia,λdv kvs H3 hdv0 hdv hcol s3=>Zg ?_⟩;have s23:=s2.trans s3;generalize Xa (2^nm.length) nm=cols at *;refine⟨_,U,tw,G,U,s23 _ _ ht,by lia,λw h=>(hflat w h).2,λL H4 hL1 hL2 s4=>Zg ?_⟩;rw[<-Zkj hL1 hL2]at k;have s24:=s23.trans s4;have hLB:L<=B:=by
   rw[Zkj hL1 hL2];exact Zfa hB
  have hdv4:=s4 _ _ hdv;have htl4:=(s3.trans s4) _ _ htl2;refine⟨hT.same s24,λf c' oc ctv doc H5 hf0 hf hc' hoc hT5 o5=>?_⟩;obtain⟨pz,hpz⟩:=(hT.same s24).ex;have o5':∀{b:Aw} {o:HO},H4 b=some o->(∀ps,o≠.tbl ps)->H5 b=some o:=λ{b o} e h=>o5 b o e λz=>by
   rw[z,hpz]at e;exact h _ (Option.some.inj e).symm
  have t5:∀{b:Aw} {xs:A2},H b=some (.tup xs)->H5 b=some (.tup xs):=λe=>o5' (s24 _ _ e) (λ_ z=>nomatch z);have hdv5:=o5' hdv4 (λ_ z=>nomatch z);have htl5:=o5' htl4 (λ_ z=>nomatch z);refine⟨_,U,tw,U,⟨_,SqT.of (t5 ht)⟩,Jx (K:=K) (a:=tw) (xs:=G) (λi zs H'=>zs=List.replicate (JZ (G.take i)) (.int 0)/\H'=H5) ⟨U,U⟩ (λi zs H' h=>?_) (λi zs H' h=>by rw[h.2];exact SqT.of (t5 ht)) (λi x zs H6 R hR hx h=>?_) (λzs H6 h pl hpl=>?_)⟩
  .rw[h.1,Qav];have:JZ (G.take i)<=(G.take i).length:=Qda _ _;rw[Qbg]at this;exact Qaw (Z2 (by lia))
  .obtain⟨rfl,rfl⟩:=h;refine⟨_,U,x,U,(hflat x (Qam hx)).1,_,U,?_⟩;have er:JZ (G.take (i+1))=JZ (G.take i)+if inV x (allR.map V.str)=true then 1 else 0:=by
    rw[take_snoc hx];unfold JZ;rw[Qdo,Qar,Qcv];split<;>rfl
   rw[er]at hR;refine qV (λhb=>?_) (λhb=>?_)
   .rw[Qa2 hb,List.replicate_succ']at hR;exact hR _ _ ⟨U,U⟩
   .rw[Qax hb]at hR;exact hR _ _ ⟨U,U⟩
  obtain⟨rfl,rfl⟩:=h;rw[Qbs,<-hkc];refine⟨pl,_,U,.inl ⟨SqL.of Za,λtb htb=>⟨ya,λtg htg=>Zg ?_⟩⟩⟩;have q1:=Zc (o:=.lst (List.replicate kc (.int 0))) hpl;have q2:=Zc (o:=.tup (List.replicate kc (.int 0))) htb;have q3:=Zc (o:=.tup [.int 0,.ref tb]) htg;have s6:=q1.trans (q2.trans q3);have htb6:=q3 _ _ (Za (H:=upd H6 pl (.lst (List.replicate kc (.int 0)))) (a:=tb) (o:=.tup (List.replicate kc (.int 0))));have htg6:=Za (H:=upd (upd H6 pl (.lst (List.replicate kc (.int 0)))) tb (.tup (List.replicate kc (.int 0)))) (a:=tg) (o:=.tup [.int 0,.ref tb]);try dsimp only
  generalize upd (upd (upd H6 pl (.lst (List.replicate kc (.int 0)))) tb (.tup (List.replicate kc (.int 0)))) tg (.tup [.int 0,.ref tb])=H7 at *;refine⟨_,U,_,U,_,U,f,c',oc,ctv,doc,U,s6 _ _ hf,s6 _ _ hc',hoc,λcs H8 hcs0 hcsF o8 hcall=>?_⟩;have hU:∀s∈uni kc (L+1),(nxT nm cols G L s).length<=8/\(otT nm cols G o0 o1 s).length<=8/\∀x∈nxT nm cols G L s,x∈uni kc (L+1):=λs hs=>⟨by unfold nxT;rw[Qab,Qa3];exact h8,by unfold otT;rw[Qab,Qa3];exact h8,yP hw hkc hs⟩;have t8:∀{b:Aw} {xs:A2},H b=some (.tup xs)->H8 b=some (.tup xs):=λe=>o8 _ _ (s6 _ _ (t5 e));have hUl:(uni kc (L+1)).length<=1000000:=by
   rw[yN];exact Qa9 (Qd5 _ (by lia)) hbig
  refine⟨Int×Ak,_,.key knQ,tn,f,nm,(0,List.replicate kc 0),.ref tg,nxT nm cols G L,otT nm cols G o0 o1,uni kc (L+1),_,U,t8 hn,⟨tg,U,tb,o8 _ _ htg6,by rw[o8 _ _ htb6,List.map_replicate]⟩,Ga.mpr ⟨0,by lia,U,Xj.mpr ⟨Qav,λx hx=>.inl (Qdq hx)⟩⟩,hU,hUl,hn3,hcall,λs sv H9 Q' hs hat s9 hQ=>⟨U,?_⟩,λp sts m l wsl H9 B9 hp hsts0 hsts hA M9 s9=>?_⟩
  .obtain⟨a,rfl,tk,ha,htk⟩:=hat;have hk9:∀{b:Aw} {u:HO},H9 b=some u->(∀o,u≠XY o)->hide cs H9 b=some u:=λe h=>G1 hcsF s9 e h;have t9:∀{b:Aw} {xs:A2},H9 b=some (.tup xs)->hide cs H9 b=some (.tup xs):=λe=>hk9 e (λ_ z=>nomatch z);obtain⟨pn,hp1,hp2,hp3⟩:=Ga.mp hs;obtain⟨sp,ks⟩:=s;have hp2:sp=(pn:Int):=hp2;subst hp2;obtain⟨hkl,hkb⟩:=Xj.mp hp3;have hkl:ks.length=kc:=hkl;have ha':=t9 ha;have htk':=t9 htk;have hln:(XF nm cols pn ks G).1.length=1:=by rw[yG G hw,hst]
   have hrm:(XF nm cols pn ks G).2.length=kc:=by rw[yO G hw,hkc]
   obtain⟨o,lt,hstp⟩:∃o lt,XF nm cols pn ks G=([o],lt):=by
    generalize XF nm cols pn ks G=q at hln;obtain⟨q1,q2⟩:=q
    match q1,hln with
    |[o],_=>exact⟨o,q2,U⟩
   have hltl:lt.length=kc:=by rw[hstp]at hrm;exact hrm
   have hsS:Zny nm cols G ((pn:Int),ks)=([o],lt):=hstp;refine⟨_,U,_,U,_,U,a,_,0,_,U,U,SqT.of ha',U,_,U,a,_,1,_,U,U,SqT.of ha',U,tw,dv,tk,nm,G,kvs,cols,pn,ks,o,lt,U,t9 (s9 _ _ (t8 ht)),hl,hk9 (s9 _ _ (o8 _ _ (s6 _ _ hdv5))) (λ_ z=>nomatch z),hcol,htk',hw,he,hstp,by rw[hltl];show kc<=ks.length;lia,λta la H10 hta0 hta hla s10=>Zg ?_⟩;refine⟨_,U,a,_,0,_,U,U,SqT.of (s10 _ _ ha'),U,_,_,U,U,_,U,_,_,U,Zg ?_⟩;have em:(if(L:Int)<(pn:Int)+1 then(L:Int)else(pn:Int)+1)=min ((pn:Int)+1) (L:Int):=by split<;>lia
   try dsimp only
   rw[em];have Y:H10 tl=some (.lst ((List.range (2^nm.length)).map λi:Nat=>V.int i)):=s10 _ _ (hk9 (s9 _ _ (o8 _ _ (s6 _ _ htl5))) (λ_ z=>nomatch z));have hxs:((List.range (2^nm.length)).map λi:Nat=>V.int i).length=2^nm.length:=by rw[Qab,Qa3]
   have hnx:nxT nm cols G L ((pn:Int),ks)=(List.range (2^nm.length)).map λl=>(min ((pn:Int)+1) (L:Int),lt.map λc=>bt c l):=by
    unfold nxT;rw[hsS]
   have hot:otT nm cols G o0 o1 ((pn:Int),ks)=(List.range (2^nm.length)).map λl=>if bt o l=1 then o1 else o0:=by
    unfold otT;rw[hsS];rfl
   refine⟨_,U,tl,U,⟨_,SqL.of Y⟩,XZ (K:=K) (a:=tl) (xs:=(List.range (2^nm.length)).map λi:Nat=>V.int i) (λi zs H'=>StA (.key knQ) H' ((nxT nm cols G L ((pn:Int),ks)).take i) zs/\i<=2^nm.length/\ZG H10 H') ⟨⟨U,λi k hk=>by cases hk⟩,Qbl _,ZG.refl _⟩ (λi zs H' h=>?_) (λi zs H' h=>SqL.of (h.2.2 _ _ Y)) (λi x zs H11 R hR hx h=>?_) (λzs H11 h rl hrl=>Zg ?_)⟩
   .rw[h.1.1,Qbg];exact Qaw (Z2 (by lia))
   .obtain⟨hA,hi,s11⟩:=h;have hil:i<2^nm.length:=by rw[<-hxs];exact(Qae.mp hx).1
    rw[x4 hil]at hx;cases hx;refine Zpj ⟨_,U,_,U,ta,_,1,_,U,U,SqT.of (s11 _ _ hta),U,_,U,la,lt,i,U,s11 _ _ hla,?_,by lia,λt5 H12 ht50 ht5 s12=>⟨ya,λq hq=>hR _ _ ⟨?_,hil,s11.trans (s12.trans (Zc hq))⟩⟩⟩
    .have:JZ G<=G.length:=Qda _ _;lia
    .have en:(nxT nm cols G L ((pn:Int),ks))[i]?=some (min ((pn:Int)+1) (L:Int),lt.map λc=>bt c i):=by rw[hnx,x4 hil]
     rw[take_snoc en];refine(hA.keep (H':=upd H12 q (.tup [.int (min ((pn:Int)+1) (L:Int)),.ref t5])) λb xs e=>Zc hq _ _ (s12 _ _ e)).snoc ⟨q,U,t5,Za,Zc hq _ _ ht5⟩
   obtain⟨hA,_,s11⟩:=h;rw[hxs,Qdk (by rw[hnx,Qab,Qa3];exact Qaj _)]at hA;have s12:=Zc (o:=.lst zs) hrl;have hrl12:=Za (H:=H11) (a:=rl) (o:=.lst zs);try dsimp only
   generalize upd H11 rl (.lst zs)=H12 at *;have O:=s11.trans s12;have htt12:H12 tt=some (.tup [o0,o1]):=O _ _ (s10 _ _ (t9 (s9 _ _ (t8 hto))));refine⟨_,U,_,U,tl,U,⟨_,SqL.of (O _ _ Y)⟩,comp_map (xs:=(List.range (2^nm.length)).map λi:Nat=>V.int i) (fI λc=>if bt o c.toNat=1 then o1 else o0) (SqL.of (O _ _ Y)) (by rw[hxs];exact Qaw (Z2 (by lia))) (λv hv R hR=>?_) (λq hq=>?_)⟩
   .obtain⟨l,_,rfl⟩:=Qau.mp hv;refine⟨_,U,_,U,ta,_,0,_,U,U,SqT.of (O _ _ hta),U,_,U,_,_,U,U,Qch l,_,_,U,U,tt,_,_,fI (λc=>if bt o c.toNat=1 then o1 else o0) (V.int l),U,U,SqT.of htt12,?_,hR⟩;rw[and_1,Qbf];show atI [o0,o1] (bt o l)=some (if bt o (l:Int).toNat=1 then o1 else o0);rw[Qbf];rcases YD o l with e|e<;>rw[e]<;>rfl
   .refine⟨ya,λt0 ht0 hcn=>?_⟩;have ef:((List.range (2^nm.length)).map λi:Nat=>V.int i).map (fI λc=>if bt o c.toNat=1 then o1 else o0)=otT nm cols G o0 o1 ((pn:Int),ks):=by
     rw[hot,Qay];refine Qbo λl _=>?_;show(if bt o (l:Int).toNat=1 then o1 else o0)=_;rw[Qbf]
    rw[ef]at ht0 hcn ⊢;have s13:=Zc (o:=.lst (otT nm cols G o0 o1 ((pn:Int),ks))) hq;have s14:=s13.trans (Zc (o:=.tup [.ref rl,.ref q]) ht0);have hsame:=s10.trans (O.trans s14);obtain⟨u1,u2,u3⟩:=Za3 hsame hcn;have hrl14:=s14 _ _ hrl12;have hq14:=Zc (o:=.tup [.ref rl,.ref q]) ht0 _ _ (Za (H:=H12) (a:=q) (o:=.lst (otT nm cols G o0 o1 ((pn:Int),ks))));exact hQ t0 rl q zs _ (u2 _ _ Za) (.inr ⟨u2 _ _ hrl14,u3 _ _ hrl14 (s10.free (s11.free hrl))⟩) (hA.keep λb xs e=>u2 _ _ ((s12.trans s14) _ _ e)) (.inr ⟨u2 _ _ hq14,u3 _ _ hq14 (s10.free (O.free hq))⟩) u1
  .have keep9:ZG H7 (hide cs H9):=λb o e=>by
    rw[ZA λm=>by rw[hcs0 b m]at e;cases e];exact s9 _ _ (o8 _ _ e)
   have tk9:∀(b:Aw)(xs:A2),H9 b=some (.tup xs)->hide cs H9 b=some (.tup xs):=λb xs e=>G1 hcsF s9 e (λ_ z=>nomatch z);refine⟨p,_,1,_,U,U,SqT.of (tk9 _ _ hp),U,k m l (hide cs H9) B9 ?_ ((hT5.same s6).same keep9) λb o e hb=>keep9 _ _ (s6 _ _ (o5 _ _ (s24 _ _ e) hb))⟩;obtain⟨pn,ps,po,h1,h2,h3,h4⟩:=M9.ex;exact⟨⟨pn,ps,po,tk9 _ _ h1,tk9 _ _ h2,jT h3 tk9,jT h4 tk9⟩⟩
inductive XS(w:Au)(pw:Aw):Prop
 |mk(tw tn:Aw)(ws:A2)(nm:Ai)(B kc:Nat):vs=[.ref tw,.ref tn]->H tw=some (.tup ws)->ws.length<=100->H tn=some (.tup (nm.map V.str))->nm.Nodup->nm.length<=3->(∀w∈ws,yF nm w)->Jk ws->uC ws=1->(∀z:Int,V.int z∈ws->0<=z/\z<2^B)->kc=JZ ws->(B+1)*2^kc<=1000000->ZF H pw Zp Zl->(∀m (l:List (Int×Ak)) H',BfE (nxT nm (Xa (2^nm.length) nm) ws (lgB ws)) (0,List.replicate kc 0) l->M4 H' m nm 0 (rnG (nxT nm (Xa (2^nm.length) nm) ws (lgB ws)) l) (l.map (otT nm (Xa (2^nm.length) nm) ws (.bl false) (.bl true)))->ZF H' pw Zp Zl->Znz pw H H'->Q (.ref m) H')->XS w pw
def xm(P:Aq)(w:Au)(K:Af)(mg:Ae)(base:Heap)(e:Aw):Sp:=λvs H Q _=>XS vs H Q w e
theorem xn:FnD T.cu P w base 15 (xm P w K mg base t.aa):=by
 have z:=GY P base T TB XB;refine T.cu.go xg ?_;rintro cdv A outer s H _ Q E hr ⟨tw,tn,ws,nm,B,kc,rfl,ht,hl,hn,hnd,J,hw,he,I,hB,O,F,hT,k⟩;refine⟨_,(Ze (Zn (Zo T.bw z hr (Zi (qv 0) (Zi (qv 1) (Zi (Yf (Zi Y2 (Zi Y2 Zd))) Zd)))))),?_⟩;refine⟨_,U,_,U,by decide,λtt Ua=>?_⟩;have G:=Zc (o:=.tup [.bl false,.bl true]) Ua;exact⟨tw,tn,tt,ws,nm,(.bl false),(.bl true),B,kc,U,G _ _ ht,hl,G _ _ hn,hnd,J,Za,hw,he,I,hB,O,F,hT.same G,λm l H' h1 h2 Z Y=>k m l H' h1 h2 Z λb o e hb=>Y _ _ (G _ _ e) hb⟩
inductive X7(w:Au)(pw pl:Aw):Prop
 |mk(t:Aw)(ws:A2):vs=[.ref t]->H t=some (.tup ws)->(∀w∈ws,jO w)->ws.length<=60->(∀ms,NmC ws ms->Wg ms ws)->ZF H pw Zp Zl->ZF H pl ZK ZL->(∀f ms nx ot H',NmC ws ms->M4 H' f ms 0 nx ot->Wf ms 0 nx ot true->Tells ws ms nx ot->ZF H' pw Zp Zl->ZF H' pl ZK ZL->Off2 pw pl H H'->Q (.ref f) H')->X7 w pw pl
def qA(P:Aq)(w:Au)(K:Af)(mg:Ae)(base:Heap)(e pl:Aw):Sp:=λvs H Q _=>X7 vs H Q w e pl
theorem Wn:FnD T.bg P w base 16 (qA P w K mg base t.aa t.aq):=by
 have G:=Zi4 P base T TB XB;have z:=xn P base T TB XB;have F:=gK P base T TB XB;refine T.bg.go qy ?_;rintro cdv A outer s H _ Q E hr ⟨tw,Z,rfl,ht,hw,hl,hC,TW,TL,k⟩;refine⟨_,(Ze (Zn (Zo T.iq G hr (Zi (Zo T.cu z hr (Zi (qv 0) (Zi (Zo T.ib F hr (Zi (qv 0) Zd)) Zd))) Zd)))),?_⟩;have J:=T.ik;refine⟨_,U,_,U,tw,Z,U,ht,hw,hl,λtn H1 I hn0 hn Ua hp hs=>?_⟩;have S:=hC I ⟨hp,hs⟩;have f:=S.ty.facts;refine⟨tw,tn,Z,I,10,_,U,Ua _ _ ht,S.ln,hn,S.nd,S.n3,S.wc,f.2.1,f.2.2,S.iz,U,S.big,TW.same Ua,λm l H2 B M TW2 o2=>?_⟩;have MC:Zpl I Z l H2 m:=⟨B,M⟩;have W1:=MC.wf S;obtain⟨pz,hz⟩:=(TW.same Ua).ex;have O:=(TL.same Ua).other J ⟨pz,hz⟩ o2;refine⟨m,I,0,_,_,true,U,M,W1,O,λg lf cs H3 hB hcs St Y Mg TL3 o3=>?_⟩;have L:Lst I 0 _ _ true lf cs:=⟨W1,hB,hcs,St,Y⟩;have TW3:=TW2.other J.symm O.ex o3;refine k g I _ _ H3 ⟨hp,hs⟩ Mg L.W2 (λW ls hW hl hx=>?_) TW3 TL3 λb o e h1 h2=>o3 _ _ (o2 _ _ (Ua _ _ e) h1) h2;obtain⟨b,e1,e2⟩:=Zfl (ls:=ls) (W:=W) S MC hW (by lia) hx;rw[Qdk (by lia)]at e1;exact⟨b,e1,by rw[<-Zfp L.al.bis L.W.nr L.W2.nr L.al.b hx];exact e2⟩
def Zbo(P:Aq)(w:Au)(K:Af)(mg:Ae)(base:Heap)(e pl C:Aw):Sp:=spW false e pl C
theorem Zbp:xB P w K mg base (CXO P w) 17 t.lb t.lg ["claim","width"] (Zbo P w K mg base t.aa t.aq t.ae):=by
 have G:=JM P base T TB XB;have z:=Wn P base T TB XB;refine T.eu.F.okX Zbj (λvs H Q E h=>?_) (λcdv A outer s H vs Q E hr h=>?_)
 .obtain⟨_,_,_,rfl,_⟩:=h;rfl
 .obtain⟨tw,ws,W,rfl,ht,hw,hl,hC,J,hw2,TW,TL,k,ke⟩:=h;refine⟨_,@QSs.out _ _ _ (Ze (Zn (Gk G (hr.mono (by decide)) U T.ax.m T.ax.F.kp T.ax.b .nil FnX.of.passes (Zi (Zo T.bg z hr (Zi (qv 0) Zd)) (Zi (qv 1) (Zi Y2 Zd)))))),?_⟩;refine⟨_,U,tw,ws,U,ht,hw,hl,hC,TW,TL,λf O nx ot H1 Y M I hT Z TL1 o1=>⟨_,U,f,O,0,nx,ot,W,.bl false,true,U,M,⟨I.b,I.ol,I.nr,I.nl,I.or⟩,I.b,I.le,I.n3,(hC O Y).nd,J,by lia,.inl ⟨U,_,U⟩,I.ok,λr d kvs H2 F hd hd2 T2 Ua=>?_,λno e H2 Ua he=>?_⟩⟩
  .have e:=Zgf (hC O Y).nd T2;subst e;exact k O d _ H2 Y (jY (hC O Y) hT J F) hd2 (ZF.smf Z Ua) (ZF.smf TL1 Ua) λb o e x y=>Ua b o (o1 _ _ e x y)
  .exact ke O e H2 Y (Zge (hC O Y) hT J no) he (ZF.smf Z Ua) (ZF.smf TL1 Ua) λb o e x y=>Ua b o (o1 _ _ e x y)
def Zbq(P:Aq)(w:Au)(K:Af)(mg:Ae)(base:Heap)(e pl C:Aw):Sp:=spW true e pl C
theorem Zbr:xB P w K mg base (CXO P w) 17 t.lh t.lj ["claim","width"] (Zbq P w K mg base t.aa t.aq t.ae):=by
 have G:=JM P base T TB XB;have z:=Wn P base T TB XB;refine T.fe.F.okX Zbk (λvs H Q E h=>?_) (λcdv A outer s H vs Q E hr h=>?_)
 .obtain⟨_,_,_,rfl,_⟩:=h;rfl
 .obtain⟨tw,ws,W,rfl,ht,hw,hl,hC,J,hw2,TW,TL,k,ke⟩:=h;refine⟨_,@QSs.out _ _ _ (Ze (Zn (Gk G (hr.mono (by decide)) U T.ax.m T.ax.F.kp T.ax.b .nil FnX.of.passes (Zi (Zo T.bg z hr (Zi (qv 0) Zd)) (Zi (qv 1) (Zi Y2 Zd)))))),?_⟩;refine⟨_,U,tw,ws,U,ht,hw,hl,hC,TW,TL,λf O nx ot H1 Y M I hT Z TL1 o1=>⟨_,U,f,O,0,nx,ot,W,.bl true,true,U,M,⟨I.b,I.ol,I.nr,I.nl,I.or⟩,I.b,I.le,I.n3,(hC O Y).nd,J,by lia,.inl ⟨U,_,U⟩,I.ok,λr d kvs H2 F hd hd2 T2 Ua=>?_,λno e H2 Ua he=>?_⟩⟩
  .have e:=Zgf (hC O Y).nd T2;subst e;exact k O d _ H2 Y (jY (hC O Y) hT J F) hd2 (ZF.smf Z Ua) (ZF.smf TL1 Ua) λb o e x y=>Ua b o (o1 _ _ e x y)
  .exact ke O e H2 Y (Zge (hC O Y) hT J no) he (ZF.smf Z Ua) (ZF.smf TL1 Ua) λb o e x y=>Ua b o (o1 _ _ e x y)
inductive JN(pw pl C:Aw):Prop
 |mk(t:Aw)(ws:A2)(W:Nat)(wb:Bool):vs=[.ref t,.int W,.bl wb]->H t=some (.tup ws)->(∀x∈ws,jO x)->ws.length<=60->(∀ms,NmC ws ms->Wg ms ws)->1<=W->W<=64->ZF H pw Zp Zl->ZF H pl ZK ZL->(∀ms d p vs' H',NmC ws ms->(chs (2^W) ms.length).find? (gB ms ws wb W)=some vs'->H' d=some (.dK (kvC ms vs'))->H' p=some (.tup [.str "told",.ref d])->ZF H' pw Zp Zl->ZF H' pl ZK ZL->Zn1 pw pl H H'->Q (.ref p) H')->(∀ms e p H',NmC ws ms->(chs (2^W) ms.length).find? (gB ms ws wb W)=none->H' e=some (.ext (xV C e))->H' p=some (.tup [.str "refused",.ref e])->ZF H' pw Zp Zl->ZF H' pl ZK ZL->Zn1 pw pl H H'->Q (.ref p) H')->JN pw pl C
def wy(K:Af)(e pl C:Aw):Sp:=λvs H Q _=>JN vs H Q e pl C
theorem wz:FnD T.fu P w base 18 (wy K t.aa t.aq t.ae):=by
 have Y:=Zbr P base T TB XB;have Ua:=Zbp P base T TB XB;refine T.fu.go Xk ?_;rintro cdv A outer s H _ Q E hr ⟨tw,ws,W,wb,rfl,ht,hw,hl,hC,hw1,hw2,TW,TL,k,ke⟩;refine⟨_,(Zb (Zw 3 Xk.nd xH)
   (Zb (Zw 4 Xk.nd xH)
   (Zb (Zly (i:=3) (j:=5) U U U (λ_=>(Y6 (qv 2))) Y (hr.mono (by decide)) U T.fe.m T.fe.F.kp T.fe.b (λ_=>(Zi (qv 0) (Zi (qv 1) Zd))) Ua (hr.mono (by decide)) U T.eu.m T.eu.F.kp T.eu.b (λ_=>(Zi (qv 0) (Zi (qv 1) Zd))) Xk.nd U U U U U XB.o_WidthError (λ_ _=>(Ze (Zw 4 Xk.nd (qv 5)))))
   (Zb (Z8 (Zq Zb9 (qv 4) xH (by with_unfolding_all rfl))
   (Ze (Zn (Yf (Zi Zk (Zi (qv 3) Zd))))) Zu)
   (Ze (Zn (Yf (Zi Zk (Zi (qv 4) Zd))))))))),?_⟩
 have good:∀(J:Ai)(d:Aw)(O:Aj)(H1:Hp),NmC ws J->(chs (2^W) J.length).find? (gB J ws wb W)=some O->H1 d=some (.dK (kvC J O))->ZF H1 t.aa Zp Zl->ZF H1 t.aq ZK ZL->Zn1 t.aa t.aq H H1->∀p,H1 p=none->Q (.ref p) (upd H1 p (.tup [.str "told",.ref d])):=λJ d O H1 Z hf hd G I o1 p hp=>by
  have s2:=Zc (o:=.tup [.str "told",.ref d]) hp;exact k J d p O _ Z hf (s2 _ _ hd) Za (G.same s2) (I.same s2) λb o e x y=>(o1 b o e x y).elim (λz=>.inl (s2 _ _ z)) λ⟨kvs,u,z1,z2⟩=>.inr ⟨kvs,u,z1,s2 _ _ z2⟩
 have bad:∀(J:Ai)(e:Aw)(H1:Hp),NmC ws J->(chs (2^W) J.length).find? (gB J ws wb W)=none->H1 e=none->ZF H1 t.aa Zp Zl->ZF H1 t.aq ZK ZL->Zn1 t.aa t.aq H H1->∀p,upd H1 e (.ext (xV t.ae e)) p=none->Q (.ref p) (upd (upd H1 e (.ext (xV t.ae e))) p (.tup [.str "refused",.ref e])):=λJ e H1 Z hf he G I o1 p hp=>by
  have s1:=Zc (o:=.ext (xV t.ae e)) he;have s2:=Zc (o:=.tup [.str "refused",.ref e]) hp;have s12:=s1.trans s2;exact ke J e p _ Z hf (s2 _ _ Za) Za (G.same s12) (I.same s12) λb o e x y=>(o1 b o e x y).elim (λz=>.inl (s12 _ _ z)) λ⟨kvs,u,z1,z2⟩=>.inr ⟨kvs,u,z1,s12 _ _ z2⟩
 refine⟨_,U,_,U,?_⟩;cases wb with
 |true=>exact⟨_,U,_,U,tw,ws,W,U,ht,hw,hl,hC,hw1,hw2,TW,TL,λJ d O H1 Z hf hd G I o1=>⟨_,U,U,_,U,Y1 ⟨_,U,ya,good J d O H1 Z hf hd G I o1⟩⟩,λJ e H1 Z hf he G I o1=>⟨t.ae,e,U,U,XB.b_NoWords,_,U,⟨_,U,U,_,U,ZI ⟨_,U,ya,bad J e H1 Z hf he G I o1⟩⟩⟩⟩
 |false=>exact⟨_,U,_,U,tw,ws,W,U,ht,hw,hl,hC,hw1,hw2,TW,TL,λJ d O H1 Z hf hd G I o1=>⟨_,U,U,_,U,Y1 ⟨_,U,ya,good J d O H1 Z hf hd G I o1⟩⟩,λJ e H1 Z hf he G I o1=>⟨t.ae,e,U,U,XB.b_NoWords,_,U,⟨_,U,U,_,U,ZI ⟨_,U,ya,bad J e H1 Z hf he G I o1⟩⟩⟩⟩
inductive Zaa(K:Af)(pw pl:Aw):Prop
 |mk(a:Aw)(ns:Ak):vs=[.ref a]->SqL K H a (ns.map V.int)->ns.length<=63->ZF H pl ZK ZL->ZF H pw Zp Zl->(∀H',Q (.bl true) H')->Zaa K pw pl
def sp_law(K:Af)(e pl:Aw):Sp:=λvs H Q _=>Zaa vs H Q K e pl
theorem ok_law:FnD T.abe P w base 19 (sp_law K t.aa t.aq):=by
 have J:=zZ P base T TB XB;have G:=zY P base T TB XB;have G_law_asked:=wz P base T TB XB;have Y:=wx P base T TB XB;have Z:=wj P base T TB XB;have Ua:=wu P base T TB XB;have G_law_names:=wq P base T TB XB;have O:=W9 P base T TB XB;refine T.abe.go Xr ?_;rintro cdv A outer s H _ Q E hr ⟨a,ns,rfl,hS,h63,TL,TW,k⟩;have hu:=qU hr;refine⟨_,(Zb (Zw 1 Xr.nd (Zo T.bp O hr (Zi (qv 0) (Zi Zf Zd))))
   (Zb (Zw 2 Xr.nd (Zo T.fk G_law_names hr (Zi (qv 0) (Zi Zf (Zi (Zs Yb (qv 1) Zf) Zd)))))
   (Zb (Zw 3 Xr.nd (ZP (Zi Zf (Zi Zf Zd))))
   (Zb (Zw 4 Xr.nd Zf)
   (Zb (Z8 (Zq Yl (Zs Yb (Zs Ye (qv 1) Zf) Zf) Zf (Zx _))
   (Zb (Zw 3 Xr.nd (ZP (Zi Zf (Zi Zf Zd))))
   (Ze (Zw 4 Xr.nd Zf))) Zu)
   (Zb (Z8 (Zq Yl (Zs Yb (Zs Ye (qv 1) Zf) Zf) Zf (Zx _))
   (Ze (Zw 3 Xr.nd (ZP (Zi Zf (Zi Zf Zd))))) Zu)
   (Zb (Zw 5 Xr.nd (Zo T.fq Ua hr (Zi (qv 0) (Zi Zf (Zi (qv 2) (Zi Zf (Zi (qv 3) (Zi (qv 4) (Zi Y2 Zd)))))))))
   (Zb (Zw 2 Xr.nd (Zo T.fi Z hr (Zi (qv 5) Zd)))
   (Zb (Yu Qbd U (YG U T.ay (Zi Zf Zd)) (YE 6 Xr.nd)
   (Zb (Zw 7 Xr.nd (Zs YB Zf (Zs Yb (Zs Ye (Zs Ye (qv 1) Zf) (Zs YB (qv 6) Zf)) (Z0 Zz (ZP (Zi Zf (Zi Zf (Zi Zf (Zi Zf Zd))))) (Zr Zy (by rfl) T.ak Yr (Zi (qv 2) Zd))))))
   (Ze (Yu Qbd U (XC (Yf (Zi Y2 (Zi Y2 Zd)))) (YE 8 Xr.nd)
   (Zb (Zw 9 Xr.nd (Zo T.ft Y hr (Zi (qv 5) (Zi (qv 2) (Zi (Zs Zjd Zf (qv 7)) (Zi (qv 8) Zd))))))
   (Zb (Zcr (Zo T.fu G_law_asked hr (Zi (qv 5) (Zi (qv 7) (Zi (qv 8) Zd)))) (yn U (YE 10 Xr.nd) (YE 11 Xr.nd)))
   (Zb (Z8 (Zq Zgw (Yt Zb9 (qv 9) xH (by with_unfolding_all rfl)) (Yt Yl (qv 10) Zk (Zx _)) (Zx _))
   (Ze (Zn Y2)) Zu)
   (Zb (Z8 (JQ (qC (Zq Yl (qv 10) Zk (Zx _)) (WT (vF (Y6 (Zo T.da G hr (Zi (qv 11) Zd)))))))
   (Ze (Zn Y2)) Zu)
   (Ze (Z8 (JQ (qC (Zq Yl (qv 10) Zk (Zx _)) (WT (JQ (vE (vF (Y6 (Zo T.dc J hr (Zi (qv 11) (Zi (qv 2) (Zi (Zs Zjd Zf (qv 7)) Zd)))))) (xI (Zq (op_neD (yk hr)) (qv 11) (qv 9) (Zx _))))))))
   (Ze (Zn Y2)) Zu))))))))))
   (Ze (Zn Y2))))))))))),?_⟩
 try dsimp only[L2.cxK,L2.cxK2]
 refine L2.let10 ?_;intro U9 U8 U7 U6 U5 U4 U3 U2 U1;refine⟨_,U,a,ns,0,U,hS,h63,by lia,λr H1 r0 r1 s1=>Zg ?_⟩;have hS1:=yQ hS s1;refine⟨_,U,_,U,_,_,U,U,(by show(0:Int)<4;decide),a,ns,1,(r%4).toNat,by rw[Int.toNat_of_nonneg (Qb3 _ (by decide))];rfl,hS1,h63,by lia,by lia,λpn nm H2 hpn hnd hl hn s2=>Zg ?_⟩;have I:=s1.trans s2;have hn3:nm.length<=3:=by lia
 have fin:∀(f:Aw)(k0 k1 tp:Int)(H4:Hp),H2 f=none->H4 f=some (.lst [.int k0,.int k1])->0<=k0->0<=k1->k0+k1<=5->1<=tp->tp<=1000->ZG H2 H4->U6 {nx:=λ_ H'=>Q .non H',rt:=Q} [some (.ref a),some (.int r),some (.ref pn),some (.ref f),some (.int tp),none,none,none,none,none,none,none] H4:=λf k0 k1 tp H4 hf f4 hk0 hk1 hk tp0 tp1 s24=>by
  have nef:∀{b:Aw} {o:HO},H2 b=some o->b≠f:=λe z=>by rw[z,hf]at e;cases e
  refine⟨_,U,_,U,_,U,_,U,a,pn,f,ns,4,nm,14,tp,k0,k1,U,?_,h63,by lia,by lia,by lia,s24 _ _ hpn,hn3,λy hy=>(hn y hy).k,f4,hk0,hk1,hk,nef hpn,tp0,tp1,λwa ws H5 hwa hwl hty hrm s5=>Zg ?_⟩
  .rcases hS with(z|⟨o,z⟩)|z
   .exact .inl ⟨.inl (s24 _ _ (I _ _ z)),nef (I _ _ z)⟩
   .exact .inl ⟨.inr ⟨o,s24 _ _ (I _ _ z)⟩,nef (I _ _ z)⟩
   .exact .inr (.inr z)
  have s05:ZG H H5:=λb o e=>s5 _ _ (nef (I _ _ e)) (s24 _ _ (I _ _ e));obtain⟨hsi,hfl⟩:=ty_si hty hn;refine⟨_,U,wa,ws,U,hwa,hsi,by lia,λpm H6 ms hpm s6 hp hs=>Zg ?_⟩;rw[hfl]at hp;have NC:NmC ws ms:=⟨hp,hs⟩;have hC:∀ms,NmC ws ms->Wg ms ws:=λms N=>clm_ok hty hn hn3 (by lia) (by lia) N;have S:=hC ms NC;have TW6:=TW.same (s05.trans s6);have TL6:=TL.same (s05.trans s6);have hwa6:=s6 _ _ hwa;obtain⟨Nw,eNw,Nw1,Nw12,hbig⟩:∃Nw:Nat,atI [V.int 12,V.int 6,V.int 3,V.int 2] ((ms.map V.str).length:Int)=some (.int Nw)/\1<=Nw/\Nw<=12/\∀W,W<=Nw->(2^W)^ms.length<=10000:=by
   rw[Qab];have h3:=S.n3;have hw:∀k∈([0,1,2,3]:Aj),∃Nw:Nat,atI [V.int 12,V.int 6,V.int 3,V.int 2] (k:Int)=some (.int Nw)/\1<=Nw/\Nw<=12/\(2^Nw)^k<=10000:=by
    intro k hk;simp only[Qas,Qbk,Qe2]at hk;rcases hk with rfl|rfl|rfl|rfl
    .exact⟨12,U,by decide,by decide,by decide⟩
    .exact⟨6,U,by decide,by decide,by decide⟩
    .exact⟨3,U,by decide,by decide,by decide⟩
    .exact⟨2,U,by decide,by decide,by decide⟩
   obtain⟨Nw,g1,g2,g3,g4⟩:=hw ms.length (by simp only[Qas,Qbk,Qe2];lia);exact⟨Nw,g1,g2,g3,λW hW=>Qa9 (Nat.pow_le_pow_left (Qdf (by decide) hW) _) g4⟩
  refine⟨2,U,by decide,by decide,Xz (lo:=0) (λi σ H'=>∃(u6 u7 u8 u9 u10 u11:Option V),σ=[some (.ref a),some (.int r),some (.ref pm),some (.ref f),some (.int tp),some (.ref wa),u6,u7,u8,u9,u10,u11]/\H' pm=some (.lst (ms.map V.str))/\H' wa=some (.tup ws)/\ZF H' t.aa Zp Zl/\ZF H' t.aq ZK ZL) ⟨none,none,none,none,none,none,U,hpm,hwa6,TW6,TL6⟩ ?_ ?_⟩
  rotate_left
  .rintro σ H7 ⟨u6,u7,u8,u9,u10,u11,rfl,_⟩;exact k H7
  rintro i σ H7 hi ⟨u6,u7,u8,u9,u10,u11,rfl,p7,w7,TW7,TL7⟩;rw[Qfy];refine Zg ⟨_,U,_,_,U,U,.of (by decide) (by decide),_,U,_,_,U,U,_,_,U,U,.of (by lia) (by lia),zln4,λl hl=>⟨_,U,pm,_,U,.inl (SqL.of (Zc hl _ _ p7)),l,_,_,_,U,U,SqL.of Za,eNw,_,_,U,U,(by lia),_,_,U,U,Zg ?_⟩⟩;have s8:=Zc (o:=.lst [V.int 12,V.int 6,V.int 3,V.int 2]) hl;have p8:=s8 _ _ p7;have w8:=s8 _ _ w7;have TW8:=TW7.same s8;have TL8:=TL7.same s8;generalize upd H7 l (.lst [V.int 12,V.int 6,V.int 3,V.int 2])=H8 at *;obtain⟨W,eW,W1,WN⟩:∃W:Nat,1+r/12/((i:Int)+1)%(Nw:Int)=(W:Int)/\1<=W/\W<=Nw:=by
   have m0:=Qb3 (r/12/((i:Int)+1)) (show(Nw:Int)≠0 by lia);have m1:=Qbt (r/12/((i:Int)+1)) (show(0:Int)<Nw by lia);exact⟨(1+r/12/((i:Int)+1)%(Nw:Int)).toNat,by lia,by lia,by lia⟩
  try dsimp only
  rw[eW];refine⟨ya,λtq htq=>⟨tq,U,⟨_,SqT.of Za⟩,yf (K:=K) (a:=tq) (xs:=[.bl false,.bl true]) (λj σ H'=>∃(u8 u9 u10 u11:Option V),σ=[some (.ref a),some (.int r),some (.ref pm),some (.ref f),some (.int tp),some (.ref wa),some (.int i),some (.int W),u8,u9,u10,u11]/\H' tq=some (.tup [.bl false,.bl true])/\H' pm=some (.lst (ms.map V.str))/\H' wa=some (.tup ws)/\ZF H' t.aa Zp Zl/\ZF H' t.aq ZK ZL) ?_ (λj σ H' _ ⟨_,_,_,_,_,e,_⟩=>SqT.of e) ?_ ?_⟩⟩
  .have s9:=Zc (o:=.tup [V.bl false,V.bl true]) htq;exact⟨_,_,_,_,U,Za,s9 _ _ p8,s9 _ _ w8,TW8.same s9,TL8.same s9⟩
  rotate_left
  .rintro σ H9 ⟨u8,u9,u10,u11,rfl,_,p9,w9,TW9,TL9⟩;exact⟨_,_,_,_,_,_,U,p9,w9,TW9,TL9⟩
  rintro j x σ H9 hx ⟨u8,u9,u10,u11,rfl,q9,p9,w9,TW9,TL9⟩;obtain⟨wb,rfl⟩:∃wb,x=.bl wb:=by
   match j,hx with
   |0,hx=>cases hx;exact⟨_,U⟩
   |1,hx=>cases hx;exact⟨_,U⟩
  have ek1:decide (V.str "told" = V.str "refused")=false:=Qaq (by intro z;injection z with z;exact absurd z (by decide +kernel));have ek2:decide (V.str "refused" = V.str "told")=false:=Qaq (by intro z;injection z with z;exact absurd z (by decide +kernel));refine Zg ⟨_,U,_,U,_,U,_,_,U,U,⟨Qch _,by lia,by decide⟩,_,U,wa,pm,ws,ms,W,wb,by show[V.ref wa,V.ref pm,V.int (1*2^(W:Int).toNat),V.bl wb]=_;rw[Int.one_mul,Qbf],w9,p9,by lia,S,W1,by lia,hbig _ WN,λd us H10 hf10 hd10 F=>Zg ?_,λH10 hf10 F=>Zg ?_⟩
  .refine⟨_,U,_,U,_,U,wa,ws,W,wb,U,F _ _ w9,hsi,by lia,hC,W1,by lia,TW9.same F,TL9.same F,λms' e p vs' H11 N' hf' he hp' TW11 TL11 o11=>?_,λms' e p H11 N' hf' _ _ _ _ _=>?_⟩
   rotate_left
   .have em:ms'=ms:=Jy _ _ N'.2 hs (N'.1.trans hp.symm);rw[em,hf10]at hf';cases hf'
   have em:ms'=ms:=Jy _ _ N'.2 hs (N'.1.trans hp.symm);subst em;rw[hf10]at hf';cases hf';obtain⟨pz1,hz1⟩:=(TW9.same F).ex;obtain⟨pz2,hz2⟩:=(TL9.same F).ex;have k11:∀{b:Aw} {u:HO},H9 b=some u->(∀z,u≠.tbl z)->(∀z,u≠.dK z)->H11 b=some u:=λe hu hk=>(o11 _ _ (F _ _ e) (YQ (F _ _ e) hz1 (hu _)) (YQ (F _ _ e) hz2 (hu _))).elim (λz=>z) λ⟨kvs,_,z,_⟩=>absurd z (hk kvs);have dR:Rd H11 d (.dK (kvC ms' us)):=(o11 _ _ hd10 (YQ hd10 hz1 λz=>nomatch z) (YQ hd10 hz2 λz=>nomatch z)).elim .inl λ⟨kvs,u,z1,z2⟩=>.inr ⟨u,by cases z1;exact z2⟩;have p11:=k11 p9 (λ_ z=>nomatch z) λ_ z=>nomatch z;obtain⟨hul,hub⟩:=yZ (List.mem_of_find?_eq_some hf10);refine⟨p,_,U,SqT.of hp',U,_,_,U,Zg ⟨_,_,U,Zg ⟨U,?_⟩⟩⟩;refine⟨_,U,U,_,U,U,U,_,U,?_⟩;rw[ek1];refine ZI ⟨_,U,U,_,U,?_⟩;rw[ek1];refine ZI ⟨_,U,U,_,U,Y1 ⟨_,U,_,U,_,U,_,_,U,U,⟨Qch _,by lia,by decide⟩,e,pm,ms',us,2^W,by show[V.ref e,V.ref pm,V.int (1*2^(W:Int).toNat)]=_;rw[Int.one_mul,Qbf,Qhj];rfl,he,p11,S.nd,hul,hub,?_⟩⟩;refine⟨_,U,ZI ⟨_,U,_,U,e,d,kvC ms' us,U,U,.inl he,dR,λq hq=>?_,_,U,ZI ?_⟩⟩
   .obtain⟨z,_,rfl⟩:=Qau.mp hq;rfl
   .exact⟨_,_,_,_,U,k11 q9 (λ_ z=>nomatch z) (λ_ z=>nomatch z),p11,k11 w9 (λ_ z=>nomatch z) (λ_ z=>nomatch z),TW11,TL11⟩
  .refine⟨_,U,_,U,_,U,wa,ws,W,wb,U,F _ _ w9,hsi,by lia,hC,W1,by lia,TW9.same F,TL9.same F,λms' e p vs' H11 N' hf' _ _ _ _ _=>?_,λms' e p H11 N' hf' he hp' TW11 TL11 o11=>?_⟩
   .have em:ms'=ms:=Jy _ _ N'.2 hs (N'.1.trans hp.symm);rw[em,hf10]at hf';cases hf'
   obtain⟨pz1,hz1⟩:=(TW9.same F).ex;obtain⟨pz2,hz2⟩:=(TL9.same F).ex;have k11:∀{b:Aw} {u:HO},H9 b=some u->(∀z,u≠.tbl z)->(∀z,u≠.dK z)->H11 b=some u:=λe hu hk=>(o11 _ _ (F _ _ e) (YQ (F _ _ e) hz1 (hu _)) (YQ (F _ _ e) hz2 (hu _))).elim (λz=>z) λ⟨kvs,_,z,_⟩=>absurd z (hk kvs);refine⟨p,_,U,SqT.of hp',U,_,_,U,Zg ⟨_,_,U,Zg ⟨U,?_⟩⟩⟩;refine⟨_,U,U,_,U,U,U,_,U,?_⟩;rw[show decide (V.str "refused" = V.str "refused")=true from Qan U];refine ZI ⟨_,U,U,_,U,Y1 ⟨_,U,e,U,he,λH12 I=>⟨_,U,ZI ⟨_,U,U,_,U,?_⟩⟩⟩⟩;rw[ek2];exact ZI ⟨_,_,_,_,U,I _ _ (k11 q9 (λ_ z=>nomatch z) λ_ z=>nomatch z),I _ _ (k11 p9 (λ_ z=>nomatch z) λ_ z=>nomatch z),I _ _ (k11 w9 (λ_ z=>nomatch z) λ_ z=>nomatch z),TW11.same I,TL11.same I⟩
 have fin5:∀(f:Aw)(k0 k1 tp:Int)(H4:Hp),H2 f=none->H4 f=some (.lst [.int k0,.int k1])->0<=k0->0<=k1->k0+k1<=5->1<=tp->tp<=1000->ZG H2 H4->U5 {nx:=λ_ H'=>Q .non H',rt:=Q} [some (.ref a),some (.int r),some (.ref pn),some (.ref f),some (.int tp),none,none,none,none,none,none,none] H4:=λf k0 k1 tp H4 hf f4 hk0 hk1 hk tp0 tp1 s24=>by
  refine⟨_,U,_,_,U,U,.of (by decide) (by decide),_,_,U,U,(by show(0:Int)<4;decide),U,_,U,qV (λ_=>⟨ya,λf2 hf2=>?_⟩) λ_=>?_⟩
  .exact fin f2 1 3 tp _ (s24.free hf2) Za (by decide) (by decide) (by decide) tp0 tp1 (s24.trans (Zc hf2))
  .exact fin f k0 k1 tp H4 hf f4 hk0 hk1 hk tp0 tp1 s24
 refine⟨ya,λf0 hf0=>?_⟩;refine⟨_,U,_,_,U,U,.of (by decide) (by decide),_,_,U,U,(by show(0:Int)<3;decide),U,_,U,qV (λ_=>⟨ya,λf1 hf1=>?_⟩) λ_=>?_⟩
 .exact fin5 f1 2 2 1000 _ ((Zc hf0).free hf1) Za (by decide) (by decide) (by decide) (by decide) (by decide) ((Zc hf0).trans (Zc hf1))
 .exact fin5 f0 3 2 16 _ hf0 Za (by decide) (by decide) (by decide) (by decide) (by decide) (Zc hf0)
end
def oF(K:Af)(f:Aw):Obj:=(K.lookup f).getD default
def fx(K:Af)(f:Aw):Ao:=match (oF K f).data with
 |.func g=>g
 |_=>default
abbrev fn0(K:Af)(x:Str)(st:Ay)(f:Aw):Ao:=PySem.W.fnOf x x (WR st) (YW st) (Zh st) .none (fx K f).kwdefaults (fx K f).doc (fx K f).pyModule (fx K f).annotations (fx K f).code (fx K f).closureTuple
abbrev FiE(K:Af)(x:Str)(st:Ay)(f:Aw):Prop:=(PySem.W.nsIn K mainGlobals x,K.lookup f,PySem.W.codeIn K (fx K f).code x,PySem.W.keepIn K (.ref f))=(some (some (.ref f)),some ⟨(oF K f).cls,(oF K f).dict,.func (fn0 K x st f),(oF K f).slots⟩,true,true)
theorem Zpb{st:Ay}(e:FiE K x st f):fx K f=fn0 K x st f:=
 congrArg (λo:Option Obj=>match (o.getD default).data with|.func g=>g|_=>default) (congrArg (λz=>z.2.1) e)
def de{Ua:Heap}{mg:Ae}{st:Ay}{ps:Ai}(X:K.In Ua)(G:Ua.Ns mainGlobals mg)(e:FiE K x st f)
  (h:∀(kV O Z:Av)(Y:Option Aw)(J ct:Av)(I:Ag),I.length=ps.length->bindArgs (PySem.W.fnOf x x (WR st) (YW st) (Zh st) .none kV O Z Y J ct) ⟨I,[]⟩=pure (ps.zip I):=by first|(show∀_ _ _ _ _ _ I,List.length I=1->_;exactλ_ _ _ _ _ _=>L2.len1 λ_=>U)|(show∀_ _ _ _ _ _ I,List.length I=2->_;exactλ_ _ _ _ _ _=>L2.len2 λ_ _=>U)|(show∀_ _ _ _ _ _ I,List.length I=3->_;exactλ_ _ _ _ _ _=>L2.len3 λ_ _ _=>U)|(show∀_ _ _ _ _ _ I,List.length I=4->_;exactλ_ _ _ _ _ _=>L2.len4 λ_ _ _ _=>U)|(show∀_ _ _ _ _ _ I,List.length I=5->_;exactλ_ _ _ _ _ _=>L2.len5 λ_ _ _ _ _=>U)|(show∀_ _ _ _ _ _ I,List.length I=7->_;exactλ_ _ _ _ _ _=>L2.len7 λ_ _ _ _ _ _ _=>U)):Df K mg x st ps f (fx K f):=by
 have F:=fun_mk (st:=st) (congrArg (λz=>z.2.1) e) (congrArg (λz=>z.2.2.1) e) (congrArg (λz=>z.2.2.2) e);exact Eq.mp (congrArg (Df K mg x st ps f) (Zpb e).symm) ⟨F,PySem.W.mg_of X G (congrArg (·.1) e),F.binds h⟩
def mkE(P:Params):List (Str×Int)->List (Nat×Nat)->List DictEntry
 |x::l,t::r=>⟨PyData.keyHash P x.1,.str x.1 t.1,.int x.2 t.2⟩::mkE P l r
 |_,_=>[]
theorem Zgh(P:Params):∀(l:List (Str×Int))(r:List (Nat×Nat)),l.length=r.length->KTab P (mkE P l r) l
 |[],[],_=>.nil
 |_::l,_::r,h=>.cons (Zgh P l r (Nat.succ.inj h))
theorem kgo{mg:Ae}{l:List (Str×Int)}(X:K.In h)(G:h.Ns mainGlobals mg)(r:List (Nat×Nat))(n:Nat)
  (e:(PySem.W.nsIn K mainGlobals x,K.lookup a)=(some (some (.ref a)),some ⟨.type "dict",none,.dict (Array.mk (mkE w.params l r)) n,#[]⟩)) (F:l.length=r.length) (I:(l.map (·.1)).Nodup) (z:(a == sysModules)=false):Kg K w mg x a l:=
 ⟨PySem.W.mg_of X G (congrArg (·.1) e),⟨⟨_,_,congrArg (·.2) e,Zgh _ l r F⟩,I,z⟩⟩
def sV:Nat->List Str->List Av
 |_,[]=>[]
 |t,x::l=>.str x t::sV (t+1) l
theorem Zgi:∀(l:Ai)(t:Nat),Vals (l.map V.str) (sV t l)
 |[],_=>.nil
 |_::l,t=>.cons ⟨_,U⟩ (Zgi l (t+1))
theorem kto{mg:Ae}{l:Ai}(X:K.In h)(G:h.Ns mainGlobals mg)(t:Nat)
  (e:(PySem.W.nsIn K mainGlobals x,K.lookup a)=(some (some (.ref a)),some ⟨.type "tuple",none,.seq (Array.mk (sV t l)) 0,#[]⟩)) (z:(sV t l).length<=sizeLine):Kt K mg x a l:=
 ⟨PySem.W.mg_of X G (congrArg (·.1) e),λ_=>.inr ⟨_,_,_,congrArg (·.2) e,U,U,z,Zgi l t⟩⟩
def KK(w:Au):Af:=L2.noT (Hw.K w.params)
set_option maxHeartbeats 0 in
theorem all_mk {l:W.OpenLaw} {w:Au} {h:Heap} {mg:Ae} {fa:Aw} (X:(KK w).In h) (G:h.Ns mainGlobals mg) (hfa:mg "law" = some (.ref fa)):
  ∃fd:Ao,(∀(s:As)(v:Av),BindsTo s fd ⟨[v],[]⟩ [("script",v)])/\∀base:Heap,(KK w).In base->base.Ns mainGlobals mg->(∀q∈([(196,194),(333,331)]:List (Aw×Aw)),W.CodeHd base q.1 q.2)->yt mg base->xB l.prog w (KK w) mg base CX0 19 fa fd ["script"] (sp_law (KK w) 331 194):=by
 cases hfa.symm.trans (Qex X G (show W.nsIn (KK w) mainGlobals "law" = some (some (.ref 487)) by kernel_rfl));have T:Txt (KK w) w mg ⟨21,fx (KK w) 21,28,fx (KK w) 28,139,fx (KK w) 139,163,fx (KK w) 163,168,fx (KK w) 168,180,fx (KK w) 180,192,fx (KK w) 192,207,fx (KK w) 207,212,fx (KK w) 212,219,fx (KK w) 219,229,fx (KK w) 229,236,fx (KK w) 236,243,fx (KK w) 243,250,fx (KK w) 250,262,fx (KK w) 262,282,fx (KK w) 282,308,fx (KK w) 308,322,fx (KK w) 322,339,fx (KK w) 339,344,fx (KK w) 344,377,fx (KK w) 377,384,fx (KK w) 384,398,fx (KK w) 398,424,fx (KK w) 424,431,fx (KK w) 431,438,fx (KK w) 438,452,fx (KK w) 452,466,fx (KK w) 466,473,fx (KK w) 473,144,fx (KK w) 144,173,fx (KK w) 173,202,fx (KK w) 202,257,fx (KK w) 257,269,fx (KK w) 269,287,fx (KK w) 287,301,fx (KK w) 301,315,fx (KK w) 315,391,fx (KK w) 391,405,fx (KK w) 405,412,fx (KK w) 412,445,fx (KK w) 445,156,fx (KK w) 156,274,fx (KK w) 274,349,fx (KK w) 349,419,fx (KK w) 419,480,fx (KK w) 480,149,fx (KK w) 149,294,fx (KK w) 294,185,fx (KK w) 185,197,fx (KK w) 197,334,fx (KK w) 334,329,fx (KK w) 329,370,fx (KK w) 370,356,fx (KK w) 356,363,fx (KK w) 363,459,fx (KK w) 459,487,fx (KK w) 487,196,194,333,331,38,51,63,75,87,99,111,130,220,221,222,548,550,275⟩:=by
  constructor
  .exact kgo X G [(485,486),(487,488),(489,490),(491,492),(493,494),(495,496),(497,498),(499,500),(501,502),(503,504)] 10 (by kernel_rfl) U (by decide +kernel) U
  .exact kgo X G [(516,517),(518,519),(520,521),(522,523),(524,525)] 5 (by kernel_rfl) U (by decide +kernel) U
  .exact kgo X G [(532,533),(534,535),(536,537),(538,539),(540,541)] 5 (by kernel_rfl) U (by decide +kernel) U
  .exact Qex X G (by kernel_rfl)
  .exact Qex X G (by kernel_rfl)
  .exact kto X G 610 (by kernel_rfl) (by show _<=_;decide)
  all_goals try dsimp only
  all_goals first|exact de X G (by kernel_rfl)|exact W.mg_none_of X G (by kernel_rfl)|exact Nat.ne_of_beq_eq_false U|kernel_rfl
 exact⟨fx (KK w) 487,λs v=>Zpb (show FiE (KK w) "law" Zmg 487 by kernel_rfl) ▸ .of_eq U,λbase hKb _ hC hB=>ok_law _ _ T ⟨hC (196,194) (by simp),hC (333,331) (by simp),hB⟩ ⟨Qex X G (by kernel_rfl),Qex X G (by kernel_rfl),Qex X G (by kernel_rfl),Qex X G (by kernel_rfl),Qex X G (by kernel_rfl),Qex X G (by kernel_rfl),Qex X G (by kernel_rfl),Qex X G (by kernel_rfl),JU hKb (Qex X G (by kernel_rfl)) (by kernel_rfl),by kernel_rfl,JU hKb (Qex X G (by kernel_rfl)) (by kernel_rfl),by kernel_rfl,JU hKb (Qex X G (by kernel_rfl)) (by kernel_rfl),by kernel_rfl,JU hKb (Qex X G (by kernel_rfl)) (by kernel_rfl),by kernel_rfl,JU hKb (Qex X G (by kernel_rfl)) (by kernel_rfl),by kernel_rfl,JU hKb (Qex X G (by kernel_rfl)) (by kernel_rfl),by kernel_rfl,JU hKb (Qex X G (by kernel_rfl)) (by kernel_rfl),by kernel_rfl,Wx hKb (by kernel_rfl),Wx hKb (by kernel_rfl),Wx hKb (by kernel_rfl),Wx hKb (by kernel_rfl),Wx hKb (by kernel_rfl),Wx hKb (by kernel_rfl),Wx hKb (by kernel_rfl),qH (by kernel_rfl),qH (by kernel_rfl),qH (by kernel_rfl),qH (by kernel_rfl),qH (by kernel_rfl),qH (by kernel_rfl),qH (by kernel_rfl),qH (by kernel_rfl),by kernel_rfl,by kernel_rfl⟩⟩
end Lw
end
open PySem PySem.W PyProof.Rows
set_option maxRecDepth 100000 in
set_option maxHeartbeats 0 in
theorem PySem.Challenge.cw_everywidth_k28_first_words_looked_throug_holds : PySem.Challenge.rw_everywidth_k28_first_words_looked_throug.Holds := by
 w_on;refine holds_law Hw.ws λsaid=>?_
 refine holds_openX Hw.left (λs e=>xl_of s (Qf8.mp e).1) XL.keeps
  (by rfl) (by rfl) (by rfl)
  (λs e=>recFacts_of (Qf8.mp e).2) (by rfl)
  (by first|assumption|decide +kernel) (by decide +kernel) ⟨U,U,U,U,U,by decide +kernel⟩ ?hw ?_
 (case hw=>w_witness2)
 refine L2.walk_X (λ_=>by kernel_rfl) ?_
 exact L2.walk_ofT (K:=λP=>L2.noT (Hw.K P)) (n:=63) (k:=19) (x:= "script") (CX:=λ_=>L2.CX0) (sp:=λw=>Lw.sp_law (Lw.KK w) 331 194) U (by decide) U ⟨U,by decide,by decide⟩ (λw h Y=>L2.in_noT (by kernel_rfl) Y) (λw mean mg mb h T X=>List.forall_mem_cons.mpr ⟨PySem.W.tab_of (x:=PySem.Str.ofString "least") (c:=196) (P:=194) T X U (by kernel_rfl),List.forall_mem_cons.mpr ⟨PySem.W.tab_of (x:=PySem.Str.ofString "machine_telling") (c:=333) (P:=331) T X U (by kernel_rfl),List.forall_mem_nil _⟩⟩) (λw=>L2.noT_ok _) (λw mg fa h X G e=>Lw.all_mk X G e) (λ_ _ a ns hl hT hS=>⟨a,ns,U,hS,hl,.inl (hT (196,194) (by simp)),.inl (hT (333,331) (by simp)),λ_=>U⟩) λ_ _ _ _ _ z=>z
#print axioms PySem.Challenge.cw_everywidth_k28_first_words_looked_throug_holds
